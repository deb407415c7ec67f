import PyProof.Rows.All
import Wide.All
import OpenK.AllK
import Wide.FinOn
import Lean
import PyProof.EqAt
import PyProof.EqKinds
import PyProof.TupleCall
import PySem.Challenge.RW_flaglocker_k62_desks_made
set_option Elab.async false
set_option compiler.extract_closed false
set_option linter.all false
set_option maxRecDepth 100000
abbrev Q0:=PySem.Value->PySem.Shared->Prop
abbrev Q2:=List (PySem.Addr × PySem.Obj)
abbrev Q3:=PySem.Str->Option PySem.Value
abbrev Aa:=@List.getElem?_eq_getElem
abbrev Ab:=@List.length_map
abbrev Ac:=@PySem.wpAny_bind
abbrev Ad:=@PySem.Heap.get?_push_of_some
abbrev Ae:=@List.getElem?_eq_some_iff
abbrev Af:=@List.getElem?_map
abbrev Ag:=@Nat.le_refl
abbrev Ah:=@List.mem_cons_of_mem
abbrev Ai:=@List.mem_cons_self
abbrev Aj:=@List.length_append
abbrev Ak:=@List.getD_eq_getElem?_getD
abbrev Al:=@Bool.false_ne_true
abbrev Am:=@List.mem_singleton
abbrev An:=@PySem.Heap.lt_size
abbrev Ao:=@PySem.wpAny_pure
abbrev Ap:=@List.mem_of_getElem?
abbrev Aq:=@decide_eq_true
abbrev Ar:=@PySem.Heap.get?_push_size
abbrev As:=@List.all_eq_true
abbrev Au:=@decide_eq_false
abbrev Av:=@List.size_toArray
abbrev Aw:=@List.map_cons
abbrev Ax:=@List.mem_append_right
abbrev Ay:=@Nat.ne_of_lt
abbrev Az:=@of_decide_eq_true
abbrev Ba:=@List.length_take
abbrev Bb:=@PySem.F.plainAttrs_str
abbrev Bc:=@Nat.lt_of_lt_of_le
abbrev Bd:=@List.mem_cons
abbrev Be:=@List.length_cons
abbrev Bf:=@List.take_of_length_le
abbrev Bg:=@List.mem_range
abbrev Bh:=@List.getElem?_append_left
abbrev Bi:=@List.map_append
abbrev Bj:=@List.length_range
abbrev Bk:=@List.filterMap_append
abbrev Bl:=@List.getElem?_append_right
abbrev Bm:=@Option.some.inj
abbrev Bo:=@PySem.wpAny_mono
abbrev Bp:=@of_decide_eq_false
abbrev Bq:=@Bool.eq_false_iff
abbrev Br:=@List.append_nil
abbrev Bs:=@PySem.Heap.get?_update_other
abbrev Bt:=@List.take_add_one
abbrev Bu:=@Array.getElem?_eq_some_iff
abbrev Bv:=@Nat.le_trans
abbrev Bw:=@List.mem_map
abbrev Bx:=@List.filterMap_nil
abbrev By:=@PySem.F.excBase_ValueError
abbrev Bz:=@PySem.wpAny_holding
abbrev Ca:=@List.length_replicate
abbrev Cb:=@List.map_map
abbrev Cc:=@List.append_assoc
abbrev Cd:=@Bool.and_eq_true
abbrev Ce:=@List.filterMap_cons_some
abbrev Cf:=@beq_eq_false_iff_ne
abbrev Cg:=@List.replicate_succ
abbrev Ci:=@PySem.F.slot_str_join
abbrev Cj:=@PySem.F.type_str_join
abbrev Ck:=@Array.getD_eq_getD_getElem?
abbrev Cm:=@List.mem_filterMap
abbrev Co:=@List.mem_append
abbrev Cp:=@List.range_succ
abbrev Cq:=@List.lookup_cons
abbrev Cr:=@PySem.mem_of_lookup
abbrev Cs:=@List.flatten_cons
abbrev Cu:=@PySem.Str.length_append
abbrev Cv:=@PySem.F.slot_dict_get
abbrev Cw:=@List.length_filterMap_le
abbrev Cy:=@List.filterMap_cons_none
abbrev Cz:=@PySem.wpAny_Call_Name_kw
abbrev Da:=@decide_eq_true_iff
abbrev Dc:=@Nat.add_sub_cancel_left
abbrev Dd:=@List.getElem_mem
abbrev De:=@PySem.F.plainAttrs_list
abbrev Df:=@PySem.F.slot_str_split
abbrev Dg:=@PySem.F.type_str_split
abbrev Dh:=@List.filterMap_cons
abbrev Di:=@List.getElem?_range
abbrev Dj:=@Nat.min_eq_left
abbrev Dk:=@Array.getElem?_eq_getElem
abbrev Dm:=@congrArg
abbrev Do:=@Array.getElem?_toList
abbrev Dp:=@List.mem_iff_getElem?
abbrev Dq:=@PySem.codeAny_handlers_test
abbrev Dr:=@PySem.StrLaws.join_split
abbrev Ds:=@Nat.lt_irrefl
abbrev Dt:=@Option.isSome_iff_exists
abbrev Du:=@List.mem_append_left
abbrev Dv:=@Nat.zero_le
abbrev Dw:=@PySem.codeAny_call_builtin
abbrev Dx:=@List.length_set
abbrev Dy:=@PySem.wpAny_handleBy_cons
abbrev Dz:=@Option.map_eq_some_iff
abbrev Ea:=@PySem.wpAny_standAt
abbrev Eb:=@List.map_take
abbrev Ec:=@List.length_drop
abbrev Ed:=@List.take_length
abbrev Ee:=@Array.append_assoc
abbrev Ef:=@PySem.W.callWith_K
abbrev Eg:=@PySem.W.methodCall_KW
abbrev Eh:=@List.getElem?_set_ne
abbrev Ei:=@PySem.codeAny_mono
abbrev Ej:=@PySem.wpAny_pyIter_list
abbrev Ek:=@PySem.wpAny_call
abbrev El:=@PySem.call_meets
abbrev Em:=@Bool.true_and
abbrev En:=@List.map_eq_nil_iff
abbrev Eo:=@Bool.false_and
abbrev Ep:=@PySem.wpAny_getItem_str_slice
abbrev Er:=@PySem.F.slot_list_index
abbrev Et:=@PySem.W.Looks.ld
abbrev Eu:=@decide_eq_decide
abbrev Ew:=@PySem.wpAny_field
abbrev Ey:=@List.getElem?_set_self
abbrev Ez:=@beq_iff_eq
abbrev Fa:=@List.drop_eq_nil_of_le
abbrev Fb:=@List.map_replicate
abbrev Fc:=@Option.map_some
abbrev Fd:=@PySem.W.exm_one
abbrev Fe:=@PySem.PassesOwn.never
abbrev Ff:=@PySem.wpAny_truthy_bool
abbrev Fg:=@PyProof.Rows.callWith_type1
abbrev Fh:=@PySem.wpAny_loadPart_at
abbrev Fi:=@PySem.Heap.get?_none_of_le
abbrev Fj:=@PySem.Heap.size_push
abbrev Fk:=@PySem.Calls.evalArgs_plain
abbrev Fl:=@PySem.wpAny_setField
abbrev Fm:=@List.getElem_toArray
abbrev Fn:=@beq_self_eq_true
abbrev Fo:=@List.all_map
abbrev Fp:=@PySem.codeAny_handlers_suite_as
abbrev Fq:=@Array.length_toList
abbrev Fs:=@List.map_congr_left
abbrev Ft:=@PySem.wpAny_comprehension_free
abbrev Fu:=@PySem.wpAny_passesOwn
abbrev Fv:=@Bool.eq_iff_iff
abbrev Fw:=@List.nodup_cons
abbrev Fx:=@Nat.not_lt_zero
abbrev Fy:=@List.take_range
abbrev Fz:=@PySem.W.of_hideAll
abbrev Ga:=@PySem.Obj.data_mapFields
abbrev Gb:=@PySem.sizeLine_eq
abbrev Gc:=@List.getElem?_replicate
abbrev Gd:=@Nat.ne_of_gt
abbrev Ge:=@List.any_eq_false
abbrev Gf:=@PySem.wpAny_Call_method_late
abbrev Gg:=@PySem.Calls.callWith_builtin
abbrev Gh:=@PySem.wpAny_newObj_type
abbrev Gi:=@PySem.wpAny_pyIter_enum
abbrev Gj:=@Nat.lt_trans
abbrev Gk:=@PySem.F.entry_dict_get
abbrev Gm:=@Nat.sub_self
abbrev Gp:=@PySem.typeIs_str
abbrev Gq:=@Nat.le_add_right
abbrev Gr:=@List.filter_cons
abbrev Gu:=@Nat.min_eq_right
abbrev Gv:=@List.any_cons
abbrev Gw:=@List.sum_cons
namespace L2
open PySem PySem.Spec PyProof.Rows
abbrev Key:=Sum Int Str
def tL:Key->Value->Bool
 | .inl k,v=>Value.isInt k v
 | .inr x,v=>Value.isStrOf x v
def eX1 (w:World):Key->Int
 | .inl k=>hashInt k
 | .inr x=>hashStr w x
theorem cI:∀ {k:Key} {v:Value},tL k v=true->(∃ i t,k=Sum.inl i/\v=Value.int i t)\/(∃ x t,k=Sum.inr x/\v=Value.str x t)
 | .inl i,v,h=>by
   obtain ⟨t,e⟩:=Value.isInt_shape (k:=i) (v:=v) h;exact .inl ⟨i,t,rfl,e⟩
 | .inr x,v,h=>by
   obtain ⟨t,e⟩:=Value.isStrOf_shape (x:=x) (v:=v) h;exact .inr ⟨x,t,rfl,e⟩
theorem aZ2 (i:Int) (t:Tok):tL (.inl i) (.int i t)=true:=by simp [tL,Value.isInt]
theorem lC (x:Str) (t:Tok):tL (.inr x) (.str x t)=true:=by simp [tL,Value.isStrOf]
theorem dZD (a b:Int):decide ((Sum.inl a:Key)=Sum.inl b)=(a == b):=by
 by_cases e:a=b
 · subst e; simp
 · have h:¬ (Sum.inl a:Key)=Sum.inl b:=λq=>e (Sum.inl.inj q)
   rw [Au h];exact (Cf.mpr e).symm
theorem dQG (a b:Str):decide ((Sum.inr a:Key)=Sum.inr b)=decide (a=b):=by
 by_cases e:a=b
 · subst e; simp
 · have h:¬ (Sum.inr a:Key)=Sum.inr b:=λq=>e (Sum.inr.inj q)
   rw [Au h,Au e]
theorem dQF (a:Int) (b:Str):decide ((Sum.inl a:Key)=Sum.inr b)=false:=Au (λq=>nomatch q)
theorem dX9 (a:Str) (b:Int):decide ((Sum.inr a:Key)=Sum.inl b)=false:=Au (λq=>nomatch q)
def bK (prog:Program) (w:World):PySem.KeyKind prog w Key where
 is:=tL
 hash:=eX1 w
 inj:=λv a b ha hb=>by
   rcases cI ha with ⟨i,t,rfl,rfl⟩ | ⟨x,t,rfl,rfl⟩
   · rcases cI hb with ⟨j,u,rfl,e⟩ | ⟨y,u,rfl,e⟩
     · injection e with e1 _; rw [e1]
     · exact nomatch e
   · rcases cI hb with ⟨j,u,rfl,e⟩ | ⟨y,u,rfl,e⟩
     · exact nomatch e
     · injection e with e1 _; rw [e1]
 byValue:=λk v h=>by
   rcases cI h with ⟨i,t,rfl,rfl⟩ | ⟨x,t,rfl,rfl⟩ <;> rfl
 pyHash:=λhv h=>by
   rcases cI hv with ⟨i,t,rfl,rfl⟩ | ⟨x,t,rfl,rfl⟩
   · exact wpAny_pyHash_int h
   · exact wpAny_pyHash_str h
 eqBool:=λhu hv h=>by
   rcases cI hu with ⟨i,t,rfl,rfl⟩ | ⟨x,t,rfl,rfl⟩
   · rcases cI hv with ⟨j,u,rfl,rfl⟩ | ⟨y,u,rfl,rfl⟩
     · rw [dZD] at h; exact wpAny_eqBool_int h
     · rw [dQF] at h; exact SeqAt.EqAt.int_str i t y u _ _ _ _ h
   · rcases cI hv with ⟨j,u,rfl,rfl⟩ | ⟨y,u,rfl,rfl⟩
     · rw [dX9] at h; exact SeqAt.EqAt.str_int x t j u _ _ _ _ h
     · rw [dQG] at h; exact wpAny_eqBool_str h
 «strs» := λk x t v h=>by
   rcases cI h with ⟨i,u,rfl,e⟩ | ⟨y,u,rfl,e⟩
   · exact nomatch e
   · injection e with e1 _
     subst e1;cases v <;> rfl
theorem xG (prog:Program) (w:World) (i:Int) (t:Tok):(bK prog w).is (.inl i) (.int i t)=true:=aZ2 i t
theorem xB (prog:Program) (w:World) (x:Str) (t:Tok):(bK prog w).is (.inr x) (.str x t)=true:=lC x t
end L2
namespace L2
open PySem PySem.Spec PyProof.Rows
inductive V where
 | non | bl (b:Bool) | int (i:Int) | str (x:Str) | byt (b:Array UInt8) | flt (b:UInt64) | ref (a:Addr) | ty (n:String)
 deriving DecidableEq
def RelV:V->Value->Prop
 | .non,u=>u=Value.none
 | .bl b,u=>u=Value.bool b
 | .int i,u=>∃ t,u=Value.int i t
 | .str x,u=>∃ t,u=Value.str x t
 | .byt b,u=>∃ t,u=Value.bytes b t
 | .flt b,u=>∃ t,u=Value.float b t
 | .ref a,u=>u=Value.ref a
 | .ty n,u=>u=Value.type n
abbrev Vals:List V->List Value->Prop:=Paired RelV
theorem Vals.length {xs:List V} {us:List Value} (r:Vals xs us):xs.length=us.length:=Paired.length r
theorem Vals.get:∀ {xs:List V} {us:List Value} {i:Nat} {x:V},Vals xs us->xs[i]?=some x->∃ u,us[i]?=some u/\RelV x u
 | _,_,_,_,.nil,e=>by simp at e
 | _,_,0,_,.cons r _,e=>by simp at e; subst e; exact ⟨_,rfl,r⟩
 | _,_,i+1,x,.cons _ t,e=>by
   obtain ⟨u,h1,h2⟩:=Vals.get (i:=i) (x:=x) t (by simpa using e)
   exact ⟨u,by simpa using h1,h2⟩
theorem Vals.set {x:V} {u:Value} (r:RelV x u):∀ {xs:List V} {us:List Value} (i:Nat),Vals xs us->Vals (xs.set i x) (us.set i u)
 | _,_,_,.nil=>.nil
 | _,_,0,.cons _ t=>.cons r t
 | _,_,i+1,.cons q t=>.cons q (Vals.set r i t)
theorem Vals.append:∀ {xs ys:List V} {us ws:List Value},Vals xs us->Vals ys ws->Vals (xs++ys) (us++ws)
 | _,_,_,_,.nil,s=>s
 | _,_,_,_,.cons r t,s=>.cons r (Vals.append t s)
theorem Vals.take:∀ {xs:List V} {us:List Value} (n:Nat),Vals xs us->Vals (xs.take n) (us.take n)
 | _,_,0,_=>.nil
 | _,_,_+1,.nil=>.nil
 | _,_,n+1,.cons r t=>.cons r (Vals.take n t)
theorem Vals.drop:∀ {xs:List V} {us:List Value} (n:Nat),Vals xs us->Vals (xs.drop n) (us.drop n)
 | _,_,0,r=>r
 | _,_,_+1,.nil=>.nil
 | _,_,n+1,.cons _ t=>Vals.drop n t
theorem Vals.none_of:∀ {xs:List V} {us:List Value} {i:Nat},Vals xs us->xs[i]?=none->us[i]?=none:=fun {xs us i} r e=>by
 have h1:=r.length
 have h2:xs.length<=i:=List.getElem?_eq_none_iff.mp e
 exact List.getElem?_eq_none_iff.mpr (by omega)
def RelO:Option V->Option Value->Prop
 | some v,some u=>RelV v u
 | none,none=>True
 | _,_=>False
def KV {κ:Type}:List (κ×V)->List (κ×Value)->Prop:=Paired λ(p:κ×V) (q:κ×Value)=>p.1=q.1/\RelV p.2 q.2
def kV:Key->V
 | .inl i=>.int i
 | .inr x=>.str x
inductive HO where
   | lst (xs:List V)
   | tup (xs:List V)
   | dK (kvs:List (Key×V)) | dT (kvs:List (List Key×V))
   | set (S:Int->Bool) (n:Nat)
   | ins (C dx:Addr) (fs:List (Str×V))
   | own (x:Addr)
   | xd (fs:List (Str×V))
   | met (f x:Addr)
   | rng (lo hi:Int)
   | frz (o:Obj) (u:HO)
   | tbl (ps:Array Value)
   | ext (φ:Heap->Prop)
abbrev Hp:=Addr->Option HO
def upd (H:Hp) (a:Addr) (o:HO):Hp:=λb=>if b=a then some o else H b
theorem aG {H:Hp} {a:Addr} {o:HO}:upd H a o a=some o:=by unfold upd; rw [if_pos rfl]
theorem aK {H:Hp} {a b:Addr} {o:HO} (h:b≠a):upd H a o b=H b:=by unfold upd; rw [if_neg h]
theorem aZX {H:Hp} {a:Addr} {o u:HO}:upd (upd H a o) a u=upd H a u:=by
 funext b; unfold upd; split <;> rfl
theorem eQS {H:Hp} {a b:Addr} {o u:HO} (h:H a=some o) (h':H b=some u) (d:o≠u):a≠b:=by
 intro e; subst e; rw [h] at h'; exact d (Bm h')
theorem bG {H:Hp} {a b:Addr} {o:HO} (h:H a=some o) (h':H b=none):a≠b:=by
 intro e; subst e; rw [h] at h'; cases h'
section
variable (P:Program) (w:World)
def ObjOk (H:Hp) (h:Heap) (a:Addr):HO->Prop
 | .lst xs=>xs.length<=sizeLine/\∃ (its:List Value) (n:Nat),Vals xs its/\h.get? a=some { cls:=.type "list",data:=.seq its.toArray n }
 | .tup xs=>xs.length<=sizeLine/\∃ its:List Value,Vals xs its/\IsTup h a its.toArray
 | .dK kvs=>kvs.length<=sizeLine/\(a == sysModules)=false/\∃ vs,KV kvs vs/\h.DictOf (bK P w) a vs
 | .dT kvs=>kvs.length<=sizeLine/\(a == sysModules)=false/\∃ xs:List (List Key×Addr×Value),
     Paired (λ(p:List Key×V) (q:List Key×Addr×Value)=>p.1=q.1/\H q.2.1=some (.tup (p.1.map kV))/\RelV p.2 q.2.2) kvs xs/\
     ∃ o es ep,h.get? a=some o/\o.ExactDict/\o.data=.dict es ep/\es.toList=xs.map (entryOfKey (tupleKind (bK P w)))/\(xs.map (·.1)).Nodup
 | .set S n=>h.SetOf (intKind P w) a S n
 | .ins C dx fs=>H dx=some (.own a)/\fs.length<=1000/\dx≠a/\h.get? a=some (PySem.W.instObj C dx)/\
     ∃ mA,h.Ns1 dx mA/\(∀ f,RelO (fs.lookup f) (mA f))/\PySem.Within mA (fs.map (·.1))
 | .own _=>∃ o,h.get? a=some o
 | .xd fs=>∃ mA,h.Ns1 a mA/\∀ f,RelO (fs.lookup f) (mA f)
 | .rng lo hi=>∃ t u v,h.get? a=some { cls:=.type "range",data:=.fields #[.int lo t,.int hi u,.int 1 v] }
 | .frz o u=>h.get? a=some o/\ObjOk H h a u
 | .tbl ps=>h.get? a=some { cls:=.none,data:=.fields ps }
 | .met f x=>h.get? a=some (PySem.W.methodObj (.ref f) (.ref x))
 | .ext φ=>φ h/\(∃ o,h.get? a=some o)/\∀ h1 h2:Heap,φ h1->(∀ o,h1.get? a=some o->h2.get? a=some o)->φ h2
def HOk (H:Hp) (h:Heap):Prop:=∀ a o,H a=some o->ObjOk P w H h a o
end
section
variable {P:Program} {w:World} {H H':Hp} {h h':Heap} {a:Addr} {o:HO}
theorem ObjOk.lt (x:ObjOk P w H h a o):a<h.objs.size:=by
 cases o with
 | lst xs=>obtain ⟨_,_,_,_,e⟩:=x; exact An e
 | tup xs=>obtain ⟨_,_,_,p⟩:=x; exact p.lt
 | dK kvs=>obtain ⟨_,_,_,_,o,_,_,e,_⟩:=x; exact An e
 | dT kvs=>obtain ⟨_,_,_,_,o,_,_,e,_⟩:=x; exact An e
 | set S n=>obtain ⟨o,_,_,_,e,_⟩:=x; exact An e
 | ins C dx fs=>obtain ⟨_,_,_,e,_⟩:=x; exact An e
 | own y=>obtain ⟨_,e⟩:=x; exact An e
 | xd fs=>obtain ⟨_,⟨_,_,_,e,_⟩,_⟩:=x; exact An e
 | rng lo hi=>obtain ⟨_,_,_,e⟩:=x; exact An e
 | frz ob u=>obtain ⟨e,_⟩:=x; exact An e
 | tbl ps=>exact An (show h.get? a=some _ from x)
 | met f y=>exact An (show h.get? a=some _ from x)
 | ext φ=>obtain ⟨_,⟨_,e⟩,_⟩:=x; exact An e
theorem Paired.mapP {α β:Type} {F G:α->β->Prop}:∀ {l₁:List α} {l₂:List β},Paired F l₁ l₂->(∀ a b,F a b->G a b)->Paired G l₁ l₂
 | _,_,.nil,_=>.nil
 | _,_,.cons r t,f=>.cons (f _ _ r) (Paired.mapP t f)
theorem ObjOk.stay (x:ObjOk P w H h a o) (k:∀ b u,(b=a\/H b=some (.own a))->h.get? b=some u->h'.get? b=some u)
   (ho:∀ b,H b=some (.own a)->H' b=some (.own a)) (ht:∀ b xs,H b=some (.tup xs)->H' b=some (.tup xs)):ObjOk P w H' h' a o:=by
 induction o with
 | lst xs=>obtain ⟨z,its,n,r,e⟩:=x; exact ⟨z,its,n,r,k _ _ (.inl rfl) e⟩
 | tup xs=>obtain ⟨z,its,r,ob,e,c⟩:=x; exact ⟨z,its,r,ob,k _ _ (.inl rfl) e,c⟩
 | dK kvs=>obtain ⟨z,y,vs,r,ob,es,ep,e,c⟩:=x; exact ⟨z,y,vs,r,ob,es,ep,k _ _ (.inl rfl) e,c⟩
 | dT kvs=>
   obtain ⟨z,y,xs,r,ob,es,ep,e,c⟩:=x;exact ⟨z,y,xs,Paired.mapP r λp q z=>⟨z.1,ht _ _ z.2.1,z.2.2⟩,ob,es,ep,k _ _ (.inl rfl) e,c⟩
 | set S n=>obtain ⟨ob,es,ep,t,e,c⟩:=x; exact ⟨ob,es,ep,t,k _ _ (.inl rfl) e,c⟩
 | ins C dx fs=>
   obtain ⟨d,z,ne,e,mA,⟨od,es,ep,e2,c⟩,r⟩:=x;exact ⟨ho _ d,z,ne,k _ _ (.inl rfl) e,mA,⟨od,es,ep,k _ _ (.inr d) e2,c⟩,r⟩
 | own y=>obtain ⟨ob,e⟩:=x; exact ⟨ob,k _ _ (.inl rfl) e⟩
 | xd fs=>obtain ⟨mA,⟨od,es,ep,e,c⟩,r⟩:=x; exact ⟨mA,⟨od,es,ep,k _ _ (.inl rfl) e,c⟩,r⟩
 | rng lo hi=>obtain ⟨t,u,v,e⟩:=x; exact ⟨t,u,v,k _ _ (.inl rfl) e⟩
 | frz ob u ih=>obtain ⟨e,q⟩:=x; exact ⟨k _ _ (.inl rfl) e,ih q⟩
 | tbl ps=>
   have e:h.get? a=some { cls:=.none,data:=.fields ps }:=x
   show h'.get? a=some { cls:=.none,data:=.fields ps }
   exact k a _ (.inl rfl) e
 | met f y=>
   have e:h.get? a=some (PySem.W.methodObj (.ref f) (.ref y)):=x
   show h'.get? a=some (PySem.W.methodObj (.ref f) (.ref y))
   exact k a _ (.inl rfl) e
 | ext φ=>obtain ⟨p,⟨o,e⟩,st⟩:=x; exact ⟨st _ _ p λo q=>k _ _ (.inl rfl) q,⟨o,k _ _ (.inl rfl) e⟩,st⟩
theorem HOk.lt (x:HOk P w H h) (e:H a=some o):a<h.objs.size:=(x a o e).lt
theorem HOk.fresh (x:HOk P w H h) (e:h.objs.size<=a):H a=none:=by
 cases q:H a with
 | none=>rfl
 | some u=>exact absurd (Bc (x.lt q) e) (Ds _)
theorem HOk.kept (x:HOk P w H h) (k:∀ b u,h.get? b=some u->h'.get? b=some u):HOk P w H h':=λa o e=>
 (x a o e).stay (λb u _ q=>k b u q) (λ_ q=>q) λ_ _ q=>q
theorem HOk.laid (x:HOk P w H h) (k:∀ b u,h.get? b=some u->h'.get? b=some u) (hp:h.objs.size<=a) (new:ObjOk P w (upd H a o) h' a o):HOk P w (upd H a o) h':=λb u e=>by
 have hn:=x.fresh hp
 by_cases hb:b=a
 · subst hb; rw [aG] at e; cases e; exact new
 · rw [aK hb] at e;exact (x b u e).stay (λc v _ q=>k c v q) (λc q=>by rw [aK (bG q hn)]; exact q) λc xs q=>by rw [aK (bG q hn)]; exact q
end
def Rd (H:Hp) (a:Addr) (u:HO):Prop:=H a=some u\/∃ o,H a=some (.frz o u)
theorem Rd.of {H:Hp} {a:Addr} {u:HO} (h:H a=some u):Rd H a u:=.inl h
theorem Rd.ok {P:Program} {w:World} {H:Hp} {h:Heap} {a:Addr} {u:HO} (r:Rd H a u) (x:HOk P w H h):ObjOk P w H h a u:=by
 rcases r with r | ⟨o,r⟩
 · exact x a u r
 · obtain ⟨_,q⟩:=x a _ r;exact q
def Mut:Option HO->Prop
 | some (.lst _)=>True
 | some (.dK _)=>True
 | some (.dT _)=>True
 | some (.set _ _)=>True
 | some (.ins _ _ _)=>True
 | some (.ext _)=>True
 | _=>False
section
variable {P:Program} {w:World} {H:Hp} {h h':Heap} {x e:Addr} {o':HO}
theorem HOk.write (ok:HOk P w H h) (mu:Mut (H x)) (he:e=x\/H e=some (.own x)) (k:∀ b u,b≠e->h.get? b=some u->h'.get? b=some u) (heo:∃ u,h'.get? e=some u)
   (new:ObjOk P w (upd H x o') h' x o'):HOk P w (upd H x o') h':=λb u q=>by
 have nown:∀ c y,H c=some (.own y)->c≠x:=λc y r z=>by subst z; rw [r] at mu; exact mu
 have ntup:∀ c xs,H c=some (.tup xs)->c≠x:=λc xs r z=>by subst z; rw [r] at mu; exact mu
 by_cases hb:b=x
 · subst hb; rw [aG] at q; cases q; exact new
 · rw [aK hb] at q;by_cases hbe:b=e
   · have q':H b=some (.own x):=by
       rcases he with z | z
       · exact absurd (hbe.trans z) hb
       · rw [hbe]; exact z
     rw [q] at q'; cases q';obtain ⟨v,hv⟩:=heo;exact ⟨v,by rw [hbe]; exact hv⟩
   · refine (ok b u q).stay (λc v hc r=>k c v ?_ r) (λc r=>by rw [aK (nown c b r)]; exact r) λc xs r=>by rw [aK (ntup c xs r)]; exact r
     rcases hc with rfl | hc
     · exact hbe
     · rintro rfl;rcases he with z | z
       · exact nown c b hc z
       · rw [hc] at z; cases z; exact hb rfl
end
structure Un (fs ex:List Addr) (H H':Hp) (h h':Heap):Prop where
 keep:∀ b o,h.get? b=some o->H b=none->b ∉ fs->b ∉ ex->h'.get? b=some o
 slot:∀ b o,h.get? b=some o->H b=none->b ∈ fs->b ∉ ex->∃ sl,h'.get? b=some { o with slots:=sl }
 free:∀ b o,h.get? b=some o->H b=none->b ∉ ex->H' b=none
 there:∀ b o,h.get? b=some o->b ∉ ex->∃ o',h'.get? b=some o'
 tups:∀ b xs,H b=some (.tup xs)->H' b=some (.tup xs)
 frzs:∀ b o u,H b=some (.frz o u)->H' b=some (.frz o u)
 tbls:∀ b ps,H b=some (.tbl ps)->∃ more,H' b=some (.tbl (ps++more))
section
variable {fs fs' ex ex':List Addr} {H H1 H2:Hp} {h h1 h2 h':Heap} {a x e:Addr} {o:HO}
theorem Un.any (u:Un fs ex H H1 h h1) {b:Addr} {ob:Obj} (q:h.get? b=some ob) (n:H b=none) (hx:b ∉ ex):∃ sl,h1.get? b=some { ob with slots:=sl }:=by
 by_cases hb:b∈fs
 · exact u.slot b ob q n hb hx
 · exact ⟨ob.slots,u.keep b ob q n hb hx⟩
theorem Un.trans (a:Un fs ex H H1 h h1) (b:Un fs ex H1 H2 h1 h2):Un fs ex H H2 h h2 where
 keep:=λc ob q n hc hx=>b.keep c ob (a.keep c ob q n hc hx) (a.free c ob q n hx) hc hx
 slot:=λc ob q n hc hx=>by
   obtain ⟨sl,e1⟩:=a.slot c ob q n hc hx;obtain ⟨sl',e2⟩:=b.slot c _ e1 (a.free c ob q n hx) hc hx;exact ⟨sl',e2⟩
 free:=λc ob q n hx=>by
   obtain ⟨o',e1⟩:=a.there c ob q hx;exact b.free c o' e1 (a.free c ob q n hx) hx
 there:=λc ob q hx=>by
   obtain ⟨o',e1⟩:=a.there c ob q hx;exact b.there c o' e1 hx
 tups:=λc xs q=>b.tups c xs (a.tups c xs q)
 frzs:=λc ob xs q=>b.frzs c ob xs (a.frzs c ob xs q)
 tbls:=λc ps q=>by
   obtain ⟨m1,e1⟩:=a.tbls c ps q;obtain ⟨m2,e2⟩:=b.tbls c _ e1;exact ⟨m1++m2,by rw [e2,Ee]⟩
theorem Un.kept (k:∀ b u,h.get? b=some u->h'.get? b=some u):Un fs ex H H h h' :=
 ⟨λb ob q _ _ _=>k b ob q,λb ob q _ _ _=>⟨ob.slots,k b ob q⟩,λ_ _ _ n _=>n,λb ob q _=>⟨ob,k b ob q⟩,λ_ _ q=>q,λ_ _ _ q=>q,λ_ ps q=>⟨#[],by rw [q]; simp⟩⟩
theorem Un.refl:Un fs ex H H h h:=Un.kept λ_ _ q=>q
theorem Un.laid (k:∀ b u,h.get? b=some u->h'.get? b=some u) (hp:h.objs.size<=a) (hn:H a=none):Un fs ex H (upd H a o) h h' where
 keep:=λb u q _ _ _=>k b u q
 slot:=λb u q _ _ _=>⟨u.slots,k b u q⟩
 free:=λb u q n _=>by rw [aK (Ay (Bc (An q) hp))]; exact n
 there:=λb u q _=>⟨u,k b u q⟩
 tups:=λb xs q=>by rw [aK (bG q hn)]; exact q
 frzs:=λb u xs q=>by rw [aK (bG q hn)]; exact q
 tbls:=λb ps q=>⟨#[],by rw [aK (bG q hn),q]; simp⟩
theorem Un.write (mu:Mut (H x)) (he:e=x\/H e=some (.own x)) (k:∀ b u,b≠e->h.get? b=some u->h'.get? b=some u) (heo:∃ u,h'.get? e=some u):Un fs ex H (upd H x o) h h':=by
 have hx:∀ b,H b=none->b≠x:=λb n z=>by subst z; rw [n] at mu; exact mu
 have hb:∀ b,H b=none->b≠e:=λb n z=>by
   subst z;rcases he with r | r
   · exact hx b n r
   · rw [n] at r; cases r
 have hm:∀ b u,H b=some u->¬ Mut (some u)->b≠x:=λb u q nm z=>by subst z; rw [q] at mu; exact nm mu
 refine ⟨λb u q n _ _=>k b u (hb b n) q,λb u q n _ _=>⟨u.slots,k b u (hb b n) q⟩,λb u q n _=>by rw [aK (hx b n)]; exact n,λb u q _=>?_,
   λb xs q=>by rw [aK (hm b _ q λz=>z)]; exact q,λb u xs q=>by rw [aK (hm b _ q λz=>z)]; exact q,λb ps q=>⟨#[],by rw [aK (hm b _ q λz=>z),q]; simp⟩⟩
 by_cases hbe:b=e
 · subst hbe; exact heo
 · exact ⟨u,k b u hbe q⟩
theorem Un.mono (u:Un fs ex H H1 h h1) (hs:∀ b∈fs,b∈fs') (hx:∀ b∈ex,b∈ex'):Un fs' ex' H H1 h h1 :=
 ⟨λb ob q n hb he=>u.keep b ob q n (λz=>hb (hs b z)) λz=>he (hx b z),λ_ _ q n _ he=>u.any q n λz=>he (hx _ z),λb ob q n he=>u.free b ob q n λz=>he (hx b z),λb ob q he=>u.there b ob q λz=>he (hx b z),u.tups,u.frzs,u.tbls⟩
end
def trk (h:Heap) (H:Hp):List Addr:=(List.range h.objs.size).filter λa=>(H a).isSome
def sO (h:Heap) (H:Hp):Heap:=PySem.W.hideAll h (trk h H)
theorem aJX (h:Heap) (H:Hp):(sO h H).objs.size=h.objs.size:=PySem.W.hideAll_size _ _
theorem bQ8 {h:Heap} {H:Hp} {b:Addr} {o:Obj} (e:h.get? b=some o) (n:H b=none):(sO h H).get? b=some o :=
 PySem.W.hideAll_get _ e λhm=>by
   have q:(H b).isSome=true:=(List.mem_filter.mp hm).2
   rw [n] at q; simp at q
theorem cQ8 {h:Heap} {H:Hp} {b:Addr} {o:Obj} (e:(sO h H).get? b=some o):h.get? b=some o/\H b=none:=by
 have e':h.get? b=some o:=Fz (trk h H) e
 refine ⟨e',?_⟩;cases q:H b with
 | none=>rfl
 | some x=>
   have hm:b∈trk h H:=List.mem_filter.mpr ⟨List.mem_range.mpr (Heap.lt_size e'),by simp [q]⟩
   have z:(sO h H).get? b=none:=PySem.W.hideAll_none (trk h H) hm
   rw [z] at e; cases e
def cQX (g h:Heap) (L:Addr):List (Addr×Obj):=(List.range h.objs.size).filterMap λa=>if a=L\/(g.get? a).isSome=true then none else (h.get? a).map λo=>(a,o)
def rest (g h:Heap) (L d:Addr):List (Addr×Obj):=(cQX g h L).filter λp=>decide (p.1≠d)
end L2
namespace L2
open PySem PySem.Spec PyProof.Rows
structure Mod (K:PySem.W.Frag) (mg:Str->Option Value) (base:Heap):Prop where
 kin:K.In base
 glob:base.Ns mainGlobals mg
 blt:∃ mb,base.Ns builtinsNs mb/\∀ x:Str,x≠"__name__"->mb x=bootBuiltins x
 nolimit:base.NoLimit
structure Cx where
 prog:Program
 w:World
 K:PySem.W.Frag
 mg:Str->Option Value
 base:Heap
 A:Around
 N:List Str
 s₀:Shared
 H₀:Hp
 env:Env
 outer:List Env
 stack:List Env
 ex:List Addr
 fn:Str->Bool
 calm:Bool
 pn:List (Addr×Obj)
 xe:Value->Shared->Prop
def frs (l:List Env):List Addr:=l.filterMap (·.frame)
abbrev Cx.fs (X:Cx):List Addr:=frs X.outer
def Vis (sc:Scope) (x:Str):Prop:=sc.names.lookup x=some .local\/sc.names.lookup x=some .cell\/sc.names.lookup x=some .free
def Loc (sc:Scope) (x:Str):Prop:=sc.names.lookup x=some .local\/sc.names.lookup x=some .cell
def eZI (env:Env) (h:Heap) (m:Str->Option Value) (x:Str) (u:Value):Prop :=
 (env.kindOf x=some .local/\m x=some u)\/((env.kindOf x=some .cell\/env.kindOf x=some .free)/\∃ c,env.cells.lookup x=some c/\h.IsCell c (some u))
structure Cx.Ok (X:Cx):Prop where
 mod:Mod X.K X.mg X.base
 kind:X.env.scope.kind=.function
 glob:X.env.globals=mainGlobals
 blt:X.env.builtins=builtinsNs
 above:X.s₀.heap.objs.size<=X.env.locals
 inj:∀ x y c,X.env.cells.lookup x=some c->X.env.cells.lookup y=some c->x=y
 has:∀ x,(X.env.kindOf x=some .cell\/X.env.kindOf x=some .free)->∃ c,X.env.cells.lookup x=some c
 cab:∀ x c,X.fn x=true->X.env.cells.lookup x=some c->X.s₀.heap.objs.size<=c
 hd:X.calm=true->X.A.handled=none
 frames:X.A.frames=some X.stack
 stk:X.stack=X.outer\/(X.stack=X.env::X.outer/\X.env.frame=some X.env.locals)
 exf:∀ b∈X.ex,b≠X.env.locals/\∀ x c,X.env.cells.lookup x=some c->c≠b
 bs:∀ b o,X.base.get? b=some o->X.s₀.heap.get? b=some o/\X.H₀ b=none
 bsz:X.base.objs.size<=X.s₀.heap.objs.size
 noex:∀ b o,X.base.get? b=some o->b ∉ X.ex
 exfs:∀ b ∈ X.ex,b ∉ X.fs
 funs:X.s₀.heap.FunFrames X.base X.outer
 frf:∀ b∈X.fs,X.H₀ b=none
structure Inv (X:Cx) (pins:List (Addr×Obj)) (σ:List (Option V)) (H:Hp) (s:Shared):Prop where
 ok:X.Ok
 os:s.os=X.s₀.os
 bare:AllBare s.gens
 base:Un X.fs X.ex X.H₀ H X.s₀.heap s.heap
 loc:∃ m,s.heap.Ns X.env.locals m/\∀ (i:Nat) (x:Str) (v:V),X.N[i]?=some x->σ[i]?=some (some v)->Vis X.env.scope x->∃ u,RelV v u/\eZI X.env s.heap m x u
 cell:∀ x c,X.env.cells.lookup x=some c->∃ v,s.heap.IsCell c v
 free:H X.env.locals=none
 freeC:∀ x c,X.env.cells.lookup x=some c->H c=none
 pin:∀ p ∈ X.pn++pins,s.heap.get? p.1=some p.2/\H p.1=none/\p.1≠X.env.locals/\p.1 ∉ X.fs/\∀ v,p.2.data≠.cell v
 hok:HOk X.prog X.w H s.heap
 len:σ.length=X.N.length
section
variable {X:Cx} {pins:Q2} {σ:List (Option V)} {H H':Hp} {s:Shared} {h':Heap}
theorem Cx.Ok.nofr (ok:X.Ok) {b:Addr} {o:Obj} (e:X.base.get? b=some o):b ∉ X.fs:=λhb=>by
 have:=(ok.funs.mem hb).1
 rw [e] at this; cases this
theorem Inv.bs (I:Inv X pins σ H s):∀ b o,X.base.get? b=some o->s.heap.get? b=some o/\H b=none:=λb o e=>
 ⟨I.base.keep b o (I.ok.bs b o e).1 (I.ok.bs b o e).2 (I.ok.nofr e) (I.ok.noex b o e),I.base.free b o (I.ok.bs b o e).1 (I.ok.bs b o e).2 (I.ok.noex b o e)⟩
theorem Inv.bk (I:Inv X pins σ H s):∀ b o,X.base.get? b=some o->s.heap.get? b=some o:=λb o e=>(I.bs b o e).1
theorem Inv.mod (I:Inv X pins σ H s):Mod X.K X.mg X.base:=I.ok.mod
theorem Inv.kIn (I:Inv X pins σ H s):X.K.In s.heap:=I.ok.mod.kin.keeps I.bk
theorem Inv.nolimit (I:Inv X pins σ H s):s.heap.NoLimit:=I.ok.mod.nolimit.keeps I.bk
theorem Inv.fr (I:Inv X pins σ H s):∃ m,Fr X.base X.env.locals s.heap m :=
 let ⟨m,hn,_⟩:=I.loc
 ⟨m,hn,I.bk,Bv I.ok.bsz I.ok.above⟩
theorem Inv.lt (I:Inv X pins σ H s):X.env.locals<s.heap.objs.size:=let ⟨_,hn,_⟩:=I.loc; hn.lt
theorem Inv.sz (I:Inv X pins σ H s):X.s₀.heap.objs.size<=s.heap.objs.size:=Bv I.ok.above (Nat.le_of_lt I.lt)
theorem Inv.nofs (I:Inv X pins σ H s) {a:Addr} (h:s.heap.objs.size<=a):a ∉ X.fs:=λhb=>by
 obtain ⟨_,o,ho,_⟩:=I.ok.funs.mem hb;exact absurd (Bc (An ho) (Bv I.sz h)) (Ds _)
theorem Inv.cne (I:Inv X pins σ H s):∀ x c,X.env.cells.lookup x=some c->c≠X.env.locals:=λx c e z=>by
 obtain ⟨v,o,ho,hd⟩:=I.cell x c e;obtain ⟨m,⟨o',es,ep,ho',hd',_⟩,_⟩:=I.loc;rw [z,ho'] at ho; cases ho; rw [hd'] at hd; cases hd
theorem Inv.funs (I:Inv X pins σ H s):s.heap.FunFrames X.base X.outer:=by
 have all:∀ (l:List Env),(∀ b∈frs l,b∈X.fs)->X.s₀.heap.FunFrames X.base l->s.heap.FunFrames X.base l:=by
   intro l;induction l with
   | nil=>intro _ _; trivial
   | cons env r ih=>
     intro hs hl;obtain ⟨hk,⟨L,o,hf,hn,ho,hd⟩,hr⟩:=hl;have hL:L∈X.fs:=hs L (by unfold frs; rw [Dh,hf]; exact Ai)
     obtain ⟨sl,e⟩:=I.base.slot L o ho (I.ok.frf L hL) hL λz=>I.ok.exfs L z hL;exact ⟨hk,⟨L,_,hf,hn,e,hd⟩,ih (λb hb=>hs b (by unfold frs; rw [Dh,hf]; exact Ah _ hb)) hr⟩
 exact all X.outer (λ_ hb=>hb) I.ok.funs
theorem Inv.stack (I:Inv X pins σ H s):s.heap.FunFrames X.base X.stack:=by
 rcases I.ok.stk with e | ⟨e,hf⟩
 · rw [e]; exact I.funs
 · rw [e];obtain ⟨m,hn,_⟩:=I.loc;refine .cons (by rw [I.ok.kind]; decide) hf hn ?_ I.funs
   exact Fi (Bv I.ok.bsz I.ok.above)
theorem Inv.stkSub (I:Inv X pins σ H s):∀ b∈frs X.stack,b∈X.env.locals::X.fs:=λb hb=>by
 rcases I.ok.stk with e | ⟨e,hf⟩
 · rw [e] at hb; exact Ah _ hb
 · rw [e] at hb;unfold frs at hb;rw [Dh,hf] at hb;exact hb
theorem Inv.stkFree (I:Inv X pins σ H s):∀ b∈frs X.stack,H b=none:=λb hb=>by
 rcases Bd.mp (I.stkSub b hb) with e | hb
 · rw [e]; exact I.free
 · obtain ⟨_,o,ho,_⟩:=I.ok.funs.mem hb;exact I.base.free b o ho (I.ok.frf b hb) λz=>I.ok.exfs b z hb
theorem Inv.step {g':Array GenState} {t':Nat} {d':Drawn} {ch:List Addr} (I:Inv X pins σ H s)
   (hch:∀ b∈ch,(b∈X.ex\/X.s₀.heap.objs.size<=b)/\b≠X.env.locals/\(∀ x c,X.env.cells.lookup x=some c->c≠b)/\∀ p∈X.pn++pins,p.1≠b)
   (keep:∀ b o,b≠X.env.locals->b ∉ X.fs->b ∉ ch->s.heap.get? b=some o->H b=none->h'.get? b=some o)
   (slot:∀ b o,b≠X.env.locals->b ∈ X.fs->b ∉ ch->s.heap.get? b=some o->H b=none->∃ sl,h'.get? b=some { o with slots:=sl }) (free:∀ b o,b ∉ ch->s.heap.get? b=some o->H b=none->H' b=none)
   (there:∀ b o,b ∉ ch->s.heap.get? b=some o->∃ o',h'.get? b=some o')
   (tups:∀ b xs,H b=some (.tup xs)->H' b=some (.tup xs)) (frzs:∀ b o u,H b=some (.frz o u)->H' b=some (.frz o u)) (tbls:∀ b ps,H b=some (.tbl ps)->∃ more,H' b=some (.tbl (ps++more)))
   (ns:∀ m,s.heap.Ns X.env.locals m->h'.Ns X.env.locals m) (hok:HOk X.prog X.w H' h') (hg:AllBare g') :
   Inv X pins σ H' { s with heap:=h',gens:=g',drawn:=d',toks:=t' }:=by
 have neL:∀ b o,X.s₀.heap.get? b=some o->b≠X.env.locals:=λb o e=>Ay (Bc (An e) I.ok.above)
 have neC:∀ b o,X.s₀.heap.get? b=some o->b ∉ X.ex->b ∉ ch:=λb o e hx hb=>by
   rcases (hch b hb).1 with z | z
   · exact hx z
   · exact absurd (Bc (An e) z) (Ds _)
 have cellK:∀ x c,X.env.cells.lookup x=some c->∀ v,s.heap.IsCell c v->h'.IsCell c v:=λx c e v ⟨o,ho,hd⟩=>by
   have nch:c ∉ ch:=λz=>(hch c z).2.2.1 x c e rfl
   by_cases hc:c∈X.fs
   · obtain ⟨sl,q⟩:=slot c o (I.cne x c e) hc nch ho (I.freeC x c e);exact ⟨_,q,hd⟩
   · exact ⟨o,keep c o (I.cne x c e) hc nch ho (I.freeC x c e),hd⟩
 refine ⟨I.ok,I.os,hg,⟨λb o e n hb hx=>?_,λb o e n hb hx=>?_,λb o e n hx=>?_,λb o e hx=>?_,λb xs e=>tups b xs (I.base.tups b xs e),λb o xs e=>frzs b o xs (I.base.frzs b o xs e),λb ps e=>?_⟩,?_,λx c e=>?_,?_,λx c e=>?_,λp hp=>?_,hok,I.len⟩
 · exact keep b o (neL b o e) hb (neC b o e hx) (I.base.keep b o e n hb hx) (I.base.free b o e n hx)
 · obtain ⟨sl,e1⟩:=I.base.slot b o e n hb hx;obtain ⟨sl',e2⟩:=slot b _ (neL b o e) hb (neC b o e hx) e1 (I.base.free b o e n hx);exact ⟨sl',e2⟩
 · obtain ⟨o',e1⟩:=I.base.there b o e hx;exact free b o' (neC b o e hx) e1 (I.base.free b o e n hx)
 · obtain ⟨o',e1⟩:=I.base.there b o e hx;exact there b o' (neC b o e hx) e1
 · obtain ⟨m1,e1⟩:=I.base.tbls b ps e;obtain ⟨m2,e2⟩:=tbls b _ e1;exact ⟨m1++m2,by rw [e2,Ee]⟩
 · obtain ⟨m,hn,hl⟩:=I.loc;refine ⟨m,ns m hn,λi x v e1 e2 e3=>?_⟩;obtain ⟨u,r,l⟩:=hl i x v e1 e2 e3;refine ⟨u,r,?_⟩;rcases l with l | ⟨k,c,e,z⟩
   · exact .inl l
   · exact .inr ⟨k,c,e,cellK x c e _ z⟩
 · obtain ⟨v,z⟩:=I.cell x c e;exact ⟨v,cellK x c e v z⟩
 · obtain ⟨m,⟨o,_,_,ho,_⟩,_⟩:=I.loc;exact free _ o (λz=>(hch _ z).2.1 rfl) ho I.free
 · obtain ⟨v,o,ho,hd⟩:=I.cell x c e;exact free c o (λz=>(hch c z).2.2.1 x c e rfl) ho (I.freeC x c e)
 · obtain ⟨e,n,ne,nf,d⟩:=I.pin p hp;have nch:p.1 ∉ ch:=λz=>(hch p.1 z).2.2.2 p hp rfl
   exact ⟨keep p.1 p.2 ne nf nch e n,free p.1 p.2 nch e n,ne,nf,d⟩
theorem Inv.un {t':Nat} (I:Inv X pins σ H s) (u:Un X.fs [] H H' s.heap h') (hok:HOk X.prog X.w H' h'):Inv X pins σ H' { s with heap:=h',toks:=t' }:=by
 obtain ⟨m,⟨o,es,ep,ho,r⟩,_⟩:=id I.loc;obtain ⟨sl,hL⟩:=u.any ho I.free (by simp)
 exact I.step (g':=s.gens) (d':=s.drawn) (ch:=[]) (λ_ z=>nomatch z) (λb o _ hb _ e n=>u.keep b o e n hb (by simp)) (λb o _ hb _ e n=>u.slot b o e n hb (by simp)) (λb o _ e n=>u.free b o e n (by simp)) (λb o _ e=>u.there b o e (by simp)) u.tups u.frzs u.tbls (λm' hm=>by
   obtain ⟨o',es',ep',ho',r'⟩:=hm;rw [ho] at ho'; cases ho';exact ⟨_,es',ep',hL,r'⟩) hok I.bare
theorem Inv.call {g':Array GenState} {t':Nat} {d':Drawn} {ch:List Addr} (I:Inv X pins σ H s) (u:Un (frs X.stack) ch H H' s.heap h') (hok:HOk X.prog X.w H' h') (hg:AllBare g')
   (hch:∀ b∈ch,(b∈X.ex\/X.s₀.heap.objs.size<=b)/\b≠X.env.locals/\(∀ x c,X.env.cells.lookup x=some c->c≠b)/\∀ p∈X.pn++pins,p.1≠b) :
   Inv X pins σ H' { s with heap:=h',gens:=g',drawn:=d',toks:=t' }:=by
 obtain ⟨m,⟨o,es,ep,ho,r⟩,_⟩:=id I.loc;obtain ⟨sl,hL⟩:=u.any ho I.free λz=>(hch _ z).2.1 rfl;exact I.step (ch:=ch) hch (λb o hL hb hc e n=>u.keep b o e n (λz=>(Bd.mp (I.stkSub b z)).elim hL hb) hc) (λb o _ _ hc e n=>u.any e n hc) (λb o hc e n=>u.free b o e n hc) (λb o hc e=>u.there b o e hc) u.tups u.frzs u.tbls (λm' hm=>by
   obtain ⟨o',es',ep',ho',r'⟩:=hm;rw [ho] at ho'; cases ho';exact ⟨_,es',ep',hL,r'⟩) hok hg
theorem Inv.turned {t':Nat} {it:Addr} (I:Inv X pins σ H s) (k:∀ b o,b≠it->s.heap.get? b=some o->h'.get? b=some o) (hn:H it=none) (hL:it≠X.env.locals)
   (h1:it∈X.ex\/X.s₀.heap.objs.size<=it) (h2:∀ x c,X.env.cells.lookup x=some c->c≠it) (h3:∀ p∈X.pn++pins,p.1≠it):Inv X pins σ H { s with heap:=h',toks:=t' }:=by
 have nit:∀ b u,H b=some u->b≠it:=λb u e z=>by rw [z,hn] at e; cases e
 refine I.step (g':=s.gens) (d':=s.drawn) (ch:=[it]) (λb hb=>?_) (λb o _ _ hc e _=>k b o (λz=>hc (by simp [z])) e) (λb o _ _ hc e _=>⟨o.slots,k b o (λz=>hc (by simp [z])) e⟩) (λ_ _ _ _ n=>n)
   (λb o hc e=>⟨o,k b o (λz=>hc (by simp [z])) e⟩) (λ_ _ e=>e) (λ_ _ _ e=>e) (λb ps e=>⟨#[],by rw [e]; simp⟩) (λm hm=>?_) (λb u e=>?_) I.bare
 · have e:b=it:=by simpa using hb
   subst e;exact ⟨h1,hL,h2,h3⟩
 · obtain ⟨o,es,ep,ho,r⟩:=hm;exact ⟨o,es,ep,k _ o (Ne.symm hL) ho,r⟩
 · refine (I.hok b u e).stay (λc v hc q=>k c v ?_ q) (λ_ q=>q) λ_ _ q=>q;rcases hc with z | z
   · rw [z]; exact nit b u e
   · exact nit c _ z
theorem Inv.tok (I:Inv X pins σ H s) (t:Nat):Inv X pins σ H { s with toks:=t }:=I.un (h':=s.heap) (t':=t) Un.refl I.hok
theorem Inv.kept {t':Nat} (I:Inv X pins σ H s) (k:∀ b u,s.heap.get? b=some u->h'.get? b=some u):Inv X pins σ H { s with heap:=h',toks:=t' }:=I.un (Un.kept k) (I.hok.kept k)
theorem Inv.laid {a:Addr} {o:HO} {t':Nat} (I:Inv X pins σ H s) (k:∀ b u,s.heap.get? b=some u->h'.get? b=some u) (hp:s.heap.objs.size<=a) (new:ObjOk X.prog X.w (upd H a o) h' a o) :
   Inv X pins σ (upd H a o) { s with heap:=h',toks:=t' }:=I.un (Un.laid k hp (I.hok.fresh hp)) (I.hok.laid k hp new)
theorem Inv.write {x e:Addr} {o:HO} {t':Nat} (I:Inv X pins σ H s) (mu:Mut (H x)) (he:e=x\/H e=some (.own x)) (k:∀ b u,b≠e->s.heap.get? b=some u->h'.get? b=some u) (heo:∃ u,h'.get? e=some u)
   (new:ObjOk X.prog X.w (upd H x o) h' x o):Inv X pins σ (upd H x o) { s with heap:=h',toks:=t' }:=I.un (Un.write mu he k heo) (I.hok.write mu he k heo new)
theorem Inv.weak {σ':List (Option V)} (I:Inv X pins σ H s) (hl:σ'.length=σ.length) (w:∀ (i:Nat) v,σ'[i]?=some (some v)->σ[i]?=some (some v)):Inv X pins σ' H s :=
 ⟨I.ok,I.os,I.bare,I.base,let ⟨m,hn,hl'⟩:=I.loc; ⟨m,hn,λi x v e1 e2 e3=>hl' i x v e1 (w i v e2) e3⟩,I.cell,I.free,I.freeC,I.pin,I.hok,hl.trans I.len⟩
theorem Inv.pins_of {pins':Q2} (I:Inv X pins σ H s) (h:∀ p ∈ pins',s.heap.get? p.1=some p.2/\H p.1=none/\p.1≠X.env.locals/\p.1 ∉ X.fs/\∀ v,p.2.data≠.cell v):Inv X pins' σ H s :=
 ⟨I.ok,I.os,I.bare,I.base,I.loc,I.cell,I.free,I.freeC,λp hp=>(Co.mp hp).elim (λz=>I.pin p (Du _ z)) (h p),I.hok,I.len⟩
theorem pZ {N:List Str} (hN:N.Nodup) {i j:Nat} {x:Str} (a:N[i]?=some x) (b:N[j]?=some x):i=j:=by
 obtain ⟨h1,e1⟩:=Ae.mp a;obtain ⟨h2,e2⟩:=Ae.mp b;exact (List.getElem_inj hN).mp (e1.trans e2.symm)
theorem nZ {M:Model} {A:Around} {E:Q0} {i:Nat} {x:Str} {v:V} {u:Value} {Q:Unit->Shared->Prop} (I:Inv X pins σ H s) (hN:X.N.Nodup) (hi:X.N[i]?=some x) (hx:Loc X.env.scope x) (r:RelV v u)
   (h:∀ s',Inv X pins (σ.set i (some v)) H s'->(∃ a,Heap.SameBut a s.heap s'.heap/\(a=X.env.locals\/X.env.cells.lookup x=some a))->Q () s') (hf:X.fn x=true\/X.env.scope.names.lookup x=some .local:=by first | exact .inl rfl | exact .inr rfl | assumption):wpAny M A (storeName X.env x u) Q E s:=by
 obtain ⟨m,hn,hl⟩:=id I.loc;have hcls:(X.env.scope.kind == .class || (X.env.scope.kind == .module && X.env.locals != X.env.globals))=false:=by rw [I.ok.kind]; rfl
 have hiσ:i<σ.length:=by rw [I.len]; exact (Ae.mp hi).1
 have cne:=I.cne
 have tracked:∀ {a:Addr} {h':Heap},(∃ o,s.heap.get? a=some o/\H a=none)->Heap.SameBut a s.heap h'->HOk X.prog X.w H h':=fun {a h'} ha hs b ob e=>by
   obtain ⟨_,_,hfree⟩:=ha;refine (I.hok b ob e).stay (λc w' hc q=>(hs.2 c ?_).trans q) (λ_ q=>q) λ_ _ q=>q;rintro rfl;rcases hc with rfl | hc
   · rw [hfree] at e; cases e
   · rw [hfree] at hc; cases hc
 rcases hx with hk | hk
 · refine wpAny_storeName_local hk hn (λh' hn' hs=>?_) hcls;obtain ⟨oL,_,_,hoL,_⟩:=id hn;refine h _ ⟨I.ok,I.os,I.bare,⟨λb o e n hb hx=>?_,λb o e n hb hx=>?_,I.base.free,λb o e hx=>?_,I.base.tups,I.base.frzs,I.base.tbls⟩,⟨_,hn',λj y v' e1 e2 e3=>?_⟩,λy c e=>?_,I.free,I.freeC,λp hp=>?_,tracked ⟨oL,hoL,I.free⟩ hs,by simpa using I.len⟩ ⟨_,hs,.inl rfl⟩
   · exact (hs.2 b (Ay (Bc (An e) I.ok.above))).trans (I.base.keep b o e n hb hx)
   · obtain ⟨sl,e1⟩:=I.base.slot b o e n hb hx;exact ⟨sl,(hs.2 b (Ay (Bc (An e) I.ok.above))).trans e1⟩
   · obtain ⟨o',e1⟩:=I.base.there b o e hx;exact ⟨o',(hs.2 b (Ay (Bc (An e) I.ok.above))).trans e1⟩
   · by_cases hj:j=i
     · subst hj;rw [hi] at e1; cases e1;rw [Ey hiσ] at e2;cases e2;exact ⟨u,r,.inl ⟨hk,by simp⟩⟩
     · rw [Eh (Ne.symm hj)] at e2;obtain ⟨u',r',q⟩:=hl j y v' e1 e2 e3;refine ⟨u',r',?_⟩;rcases q with ⟨k,e⟩ | ⟨k,c,e,z⟩
       · refine .inl ⟨k,?_⟩;have:y≠x:=λe=>hj (pZ hN e1 (e ▸ hi))
         simp [this,e]
       · exact .inr ⟨k,c,e,z.sameBut hs (cne y c e)⟩
   · obtain ⟨w',z⟩:=I.cell y c e;exact ⟨w',z.sameBut hs (cne y c e)⟩
   · obtain ⟨e,n,ne,nf,d⟩:=I.pin p hp;exact ⟨(hs.2 p.1 ne).trans e,n,ne,nf,d⟩
 · have hfn:X.fn x=true:=by
     rcases hf with z | z
     · exact z
     · rw [z] at hk; cases hk
   obtain ⟨c,hc⟩:=I.ok.has x (.inl hk);obtain ⟨w',z⟩:=I.cell x c hc;refine wpAny_storeName_cell I.ok.kind hk hc z (λh' hc' hs=>?_);obtain ⟨oc,hoc,hocd⟩:=id z;refine h { s with heap:=h' } ⟨I.ok,I.os,I.bare,⟨λb o e n hb hx=>?_,λb o e n hb hx=>?_,I.base.free,λb o e hx=>?_,I.base.tups,I.base.frzs,I.base.tbls⟩,⟨m,hn.sameBut hs (Ne.symm (cne x c hc)),λj y v' e1 e2 e3=>?_⟩,λy c' e=>?_,I.free,I.freeC,λp hp=>?_,tracked ⟨oc,hoc,I.freeC x c hc⟩ hs,by simpa using I.len⟩ ⟨c,hs,.inr hc⟩
   · exact (hs.2 b (Ay (Bc (An e) (I.ok.cab x c hfn hc)))).trans (I.base.keep b o e n hb hx)
   · obtain ⟨sl,e1⟩:=I.base.slot b o e n hb hx;exact ⟨sl,(hs.2 b (Ay (Bc (An e) (I.ok.cab x c hfn hc)))).trans e1⟩
   · obtain ⟨o',e1⟩:=I.base.there b o e hx;exact ⟨o',(hs.2 b (Ay (Bc (An e) (I.ok.cab x c hfn hc)))).trans e1⟩
   · by_cases hj:j=i
     · subst hj;rw [hi] at e1; cases e1;rw [Ey hiσ] at e2;cases e2;exact ⟨u,r,.inr ⟨.inl hk,c,hc,hc'⟩⟩
     · rw [Eh (Ne.symm hj)] at e2;obtain ⟨u',r',q⟩:=hl j y v' e1 e2 e3;refine ⟨u',r',?_⟩;rcases q with q | ⟨k,c',e,z'⟩
       · exact .inl q
       · refine .inr ⟨k,c',e,z'.sameBut hs ?_⟩;rintro rfl;exact hj (pZ hN e1 (I.ok.inj _ _ _ e hc ▸ hi))
   · by_cases hcc:c'=c
     · subst hcc; exact ⟨_,hc'⟩
     · obtain ⟨w2,z2⟩:=I.cell y c' e;exact ⟨w2,z2.sameBut hs hcc⟩
   · obtain ⟨e,n,ne,nf,d⟩:=I.pin p hp;refine ⟨(hs.2 p.1 ?_).trans e,n,ne,nf,d⟩;intro q;rw [q,hoc] at e;have q':oc=p.2:=Bm e
     exact d w' (by rw [<-q']; exact hocd)
theorem kW {M:Model} {A:Around} {E:Q0} {i:Nat} {x:Str} {v:V} {u:Value} {Q:Unit->Shared->Prop} (I:Inv X pins σ H s) (hN:X.N.Nodup) (hi:X.N[i]?=some x) (hx:Loc X.env.scope x) (r:RelV v u)
   (h:∀ s',Inv X pins (σ.set i (some v)) H s'->Q () s') (hf:X.fn x=true\/X.env.scope.names.lookup x=some .local:=by first | exact .inl rfl | exact .inr rfl | assumption):wpAny M A (storeName X.env x u) Q E s :=
 nZ I hN hi hx r (λs' I' _=>h s' I') hf
theorem Inv.call' {s':Shared} {ch:List Addr} (I:Inv X pins σ H s) (ho:s'.os=s.os) (u:Un (frs X.stack) ch H H' s.heap s'.heap) (hok:HOk X.prog X.w H' s'.heap) (hg:AllBare s'.gens)
   (hch:∀ b∈ch,(b∈X.ex\/X.s₀.heap.objs.size<=b)/\b≠X.env.locals/\(∀ x c,X.env.cells.lookup x=some c->c≠b)/\∀ p∈X.pn++pins,p.1≠b):Inv X pins σ H' s':=by
 obtain ⟨h',g',d',t',o'⟩:=s';have e:o'=s.os:=ho
 subst e;exact I.call (g':=g') (t':=t') (d':=d') u hok hg hch
end
abbrev XK:=Value->Option Addr->Hp->Prop
abbrev St:=List (Option V)
abbrev VK:=V->Hp->Prop
abbrev TE:=St->Hp->VK->Prop
abbrev TT:=St->Hp->(Bool->Hp->Prop)->Prop
abbrev TA:=St->Hp->(List V->Hp->Prop)->Prop
structure Ends where
 nx:St->Hp->Prop
 rt:VK
 bk:St->Hp->Prop:=λ_ _=>False
 ct:St->Hp->Prop:=λ_ _=>False
abbrev TS:=Ends->St->Hp->Prop
def EP (X:Cx) (pins:List (Addr×Obj)) (σ:St) (Q:VK) (u:Value) (s':Shared):Prop:=∃ v H',Inv X pins σ H' s'/\RelV v u/\Q v H'
def TP (X:Cx) (pins:List (Addr×Obj)) (σ:St) (Q:Bool->Hp->Prop) (b:Bool) (s':Shared):Prop:=∃ H',Inv X pins σ H' s'/\Q b H'
def AP (X:Cx) (pins:List (Addr×Obj)) (σ:St) (Q:List V->Hp->Prop) (us:List Value) (s':Shared):Prop:=∃ vs H',Inv X pins σ H' s'/\Vals vs us/\Q vs H'
def SP (X:Cx) (pins:List (Addr×Obj)) (D:Ends) (f:Flow) (s':Shared):Prop :=
 match f with
 | .next=>∃ σ' H',Inv X pins σ' H' s'/\D.nx σ' H'
 | .brk=>∃ σ' H',Inv X pins σ' H' s'/\D.bk σ' H'
 | .cont=>∃ σ' H',Inv X pins σ' H' s'/\D.ct σ' H'
 | .ret u=>∃ v σ' H',Inv X pins σ' H' s'/\RelV v u/\D.rt v H'
def PE (X:Cx) (e:Expr) (t:TE):Prop :=
 ∀ (pins:Q2) (s:Shared) (σ:St) (H:Hp) (Q:VK),Inv X pins σ H s->t σ H Q->wpAny (model X.prog X.w) X.A (eval e X.env) (EP X pins σ Q) X.xe s
def PT (X:Cx) (e:Expr) (t:TT):Prop :=
 ∀ (pins:Q2) (s:Shared) (σ:St) (H:Hp) (Q:Bool->Hp->Prop),Inv X pins σ H s->t σ H Q->wpAny (model X.prog X.w) X.A (isTrue e X.env (eval e X.env)) (TP X pins σ Q) X.xe s
def PW (X:Cx) (e:Expr) (t:TT):Prop :=
 ∀ (whole:Sem Value) (pins:Q2) (s:Shared) (σ:St) (H:Hp) (Q:Bool->Hp->Prop),Inv X pins σ H s->t σ H Q->wpAny (model X.prog X.w) X.A (isTrue e X.env whole) (TP X pins σ Q) X.xe s
theorem PW.pt {X:Cx} {e:Expr} {t:TT} (h:PW X e t):PT X e t:=h _
def PA (X:Cx) (es:List Expr) (t:TA):Prop :=
 ∀ (pos:Pos) (pins:Q2) (s:Shared) (σ:St) (H:Hp) (Q:List V->Hp->Prop),Inv X pins σ H s->t σ H Q->wpAny (model X.prog X.w) X.A (spliced (backTo pos (starEach es X.env))) (AP X pins σ Q) X.xe s
def PS (X:Cx) (st:Stmt) (t:TS):Prop :=
 ∀ (pins:Q2) (s:Shared) (σ:St) (H:Hp) (D:Ends),Inv X pins σ H s->t D σ H->wpAny (model X.prog X.w) X.A (exec st X.env) (SP X pins D) X.xe s
def PSs (X:Cx) (st:List Stmt) (t:TS):Prop :=
 ∀ (pins:Q2) (s:Shared) (σ:St) (H:Hp) (D:Ends),Inv X pins σ H s->t D σ H->wpAny (model X.prog X.w) X.A (execs st X.env) (SP X pins D) X.xe s
theorem thn {α:Type} {t:Sem α} {Q Q':α->Shared->Prop} {M:Model} {A:Around} {E:Q0} {s:Shared} (h:wpAny M A t Q E s) (hQ:∀ a s,Q a s->Q' a s):wpAny M A t Q' E s:=Bo h hQ λ_ _ x=>x
end L2
namespace L2
open PySem PySem.Spec PyProof.Rows
section
variable {X:Cx}
theorem bin {a b:Expr} {ta tb:TE} (ha:PE X a ta) (hb:PE X b tb) {pins:Q2} {s:Shared} {σ:St} {H:Hp} {R:V->V->Hp->Prop} (I:Inv X pins σ H s) (h:ta σ H λx H1=>tb σ H1 λy H2=>R x y H2)
   {α:Type} {Q:α->Shared->Prop} {f:Value->Value->Sem α}
   (hf:∀ v u s2 x y H2,Inv X pins σ H2 s2->RelV x v->RelV y u->R x y H2->wpAny (model X.prog X.w) X.A (f v u) Q X.xe s2) :
   wpAny (model X.prog X.w) X.A (eval a X.env) (λv s₁=>wpAny (model X.prog X.w) X.A (eval b X.env) (λu s₂=>wpAny (model X.prog X.w) X.A (f v u) Q X.xe s₂) X.xe s₁) X.xe s:=by
 refine thn (ha pins s σ H _ I h) λv s1 ⟨x,H1,I1,r1,q1⟩=>?_;refine thn (hb pins s1 σ H1 _ I1 q1) λu s2 ⟨y,H2,I2,r2,q2⟩=>?_;exact hf v u s2 x y H2 I2 r1 r2 q2
def dJ2 (i:Nat):TE:=λσ H Q=>∃ v,σ[i]?=some (some v)/\Q v H
def tC (v:V):TE:=λ_ H Q=>Q v H
theorem dZM {i:Nat} {x:Str} {pos:Pos} (hN:X.N[i]?=some x) (hv:Vis X.env.scope x) (hd:(x == ("__debug__" : Str))=false:=by decide) (hcd:(x == ("__classdict__" : Str))=false:=by decide):PE X (.Name x pos) (dJ2 i):=by
 intro pins s σ H Q I h;obtain ⟨v,e,h⟩:=h;obtain ⟨m,hn,hl⟩:=I.loc;obtain ⟨u,r,l⟩:=hl i x v hN e hv;have fin:EP X pins σ Q u s:=⟨v,H,I,r,h⟩
 rcases l with ⟨hk,hm⟩ | ⟨hk,c,hc,hcell⟩
 · exact wpAny_Name (wpAny_loadName_local I.ok.kind hk hn hm fin) hd
 · rcases hk with hk | hk
   · exact wpAny_Name (wpAny_loadName_cell I.ok.kind hk hc hcell fin) hd
   · exact wpAny_Name (wpAny_loadName_free I.ok.kind hk hc hcell fin hcd) hd
theorem aJ {i j pos}:PE X (.Constant (.int i) j pos) (tC (.int i)):=λ_ _ _ H _ I h=>wpAny_Constant_int ⟨.int i,H,I.tok _,⟨_,rfl⟩,h⟩
theorem jW {b j pos}:PE X (.Constant (.bool b) j pos) (tC (.bl b)):=λ_ _ _ H _ I h=>Constant_bool ⟨.bl b,H,I,rfl,h⟩
theorem fE {j pos}:PE X (.Constant .none j pos) (tC .non):=λ_ _ _ H _ I h=>Constant_none ⟨.non,H,I,rfl,h⟩
theorem bP {x j pos}:PE X (.Constant (.str x) j pos) (tC (.str x)):=λ_ _ _ H _ I h=>Calls.Constant_str ⟨.str x,H,I.tok _,⟨_,rfl⟩,h⟩
def Gl (X:Cx) (x:Str):Prop:=X.env.kindOf x=some .globalImplicit
theorem eD {E:Q0} {pins:Q2} {s:Shared} {σ:St} {H:Hp} {x:Str} {u:Value} {pos:Pos} {Q:Q0} (I:Inv X pins σ H s) (hg:Gl X x) (hm:X.mg x=some u) (h:Q u s)
   (hd:(x == ("__debug__" : Str))=false:=by decide):wpAny (model X.prog X.w) X.A (eval (.Name x pos) X.env) Q E s :=
 Calls.Name_function_global I.ok.kind hg (Calls.loadGlobal_global (by rw [I.ok.glob]; exact I.mod.glob.keeps I.bk) hm h) hd
theorem mE {E:Q0} {pins:Q2} {s:Shared} {σ:St} {H:Hp} {x:Str} {u:Value} {pos:Pos} {Q:Q0} (I:Inv X pins σ H s) (hg:Gl X x) (hm:X.mg x=none) (hv:bootBuiltins x=some u) (h:Q u s)
   (hn:x≠"__name__" := by decide) (hd:(x == ("__debug__" : Str))=false:=by decide):wpAny (model X.prog X.w) X.A (eval (.Name x pos) X.env) Q E s:=by
 obtain ⟨mb,h1,h2⟩:=I.mod.blt;exact Calls.Name_function_global I.ok.kind hg (Calls.loadGlobal_builtin (by rw [I.ok.glob]; exact I.mod.glob.keeps I.bk) hm (by rw [I.ok.blt]; exact h1.keeps I.bk) ((h2 x hn).trans hv) h) hd
theorem mY {x:Str} {v:V} {u:Value} {pos:Pos} (hg:Gl X x) (hm:X.mg x=some u) (r:RelV v u) (hd:(x == ("__debug__" : Str))=false:=by decide):PE X (.Name x pos) (tC v) :=
 λ_ _ _ H _ I h=>eD I hg hm ⟨v,H,I,r,h⟩ hd
theorem cZA {x:Str} {v:V} {u:Value} {pos:Pos} (hg:Gl X x) (hm:X.mg x=none) (hv:bootBuiltins x=some u) (r:RelV v u) (hn:x≠"__name__" := by decide) (hd:(x == ("__debug__" : Str))=false:=by decide):PE X (.Name x pos) (tC v) :=
 λ_ _ _ H _ I h=>mE I hg hm hv ⟨v,H,I,r,h⟩ hn hd
variable {a b:Expr} {ta tb:TE} {pos:Pos}
variable {tA tB':TT} {rest:List Expr}
def dJG (t u:TT):TT:=λσ H Q=>t σ H λc H1=>if c=true then u σ H1 Q else Q false H1
def tOr (t u:TT):TT:=λσ H Q=>t σ H λc H1=>if c=true then Q true H1 else u σ H1 Q
def eQE (t:TT):TT:=λσ H Q=>t σ H λc H1=>Q (!c) H1
theorem cZX (ha:PT X a tA):PW X (.BoolOp .And [a] pos) tA:=by
 intro wh pins s σ H Q I h;refine isTrue_and (thn (ha pins s σ H Q I h) λc s1 e=>?_);cases c with
 | true=>exact isTrue_and_nil e
 | false=>exact e
theorem kL (ha:PT X a tA):PW X (.BoolOp .Or [a] pos) tA:=by
 intro wh pins s σ H Q I h;refine isTrue_or (thn (ha pins s σ H Q I h) λc s1 e=>?_);cases c with
 | false=>exact isTrue_or_nil e
 | true=>exact e
theorem dZP (ha:PT X a tA) (hb:PW X (.BoolOp .And (b::rest) pos) tB'):PW X (.BoolOp .And (a::b::rest) pos) (dJG tA tB'):=by
 intro wh pins s σ H Q I h;refine isTrue_and (thn (ha pins s σ H _ I h) λc s1 ⟨H1,I1,q1⟩=>?_);cases c with
 | true=>exact hb wh pins s1 σ H1 Q I1 q1
 | false=>exact ⟨H1,I1,q1⟩
theorem mM (ha:PT X a tA) (hb:PW X (.BoolOp .Or (b::rest) pos) tB'):PW X (.BoolOp .Or (a::b::rest) pos) (tOr tA tB'):=by
 intro wh pins s σ H Q I h;refine isTrue_or (thn (ha pins s σ H _ I h) λc s1 ⟨H1,I1,q1⟩=>?_);cases c with
 | true=>exact ⟨H1,I1,q1⟩
 | false=>exact hb wh pins s1 σ H1 Q I1 q1
theorem kR (ha:PT X a tA):PT X (.UnaryOp .Not a pos) (eQE tA):=by
 intro pins s σ H Q I h;exact isTrue_not (ha pins s σ H (λc H1=>Q (!c) H1) I h)
theorem vC {op} {t:TE} (h:PE X a t):PE X (.BoolOp op [a] pos) t:=λpins s σ H Q I hw=>BoolOp_one (h pins s σ H Q I hw)
def tIf (t:TT) (ta tb:TE):TE:=λσ H Q=>t σ H λc H1=>if c=true then ta σ H1 Q else tb σ H1 Q
theorem kC {c:Expr} (hc:PT X c tA) (ha:PE X a ta) (hb:PE X b tb):PE X (.IfExp c a b pos) (tIf tA ta tb):=by
 intro pins s σ H Q I h;refine wpAny_IfExp (thn (hc pins s σ H _ I h) λd s1 ⟨H1,I1,q1⟩=>?_);cases d with
 | true=>exact ha pins s1 σ H1 Q I1 q1
 | false=>exact hb pins s1 σ H1 Q I1 q1
end
end L2
namespace L2
open PySem PySem.Spec PyProof.Rows
def SqL (K:PySem.W.Frag) (H:Hp) (a:Addr) (xs:List V):Prop :=
 Rd H a (.lst xs)\/
   ∃ (o:Obj) (its:Array Value) (n:Nat),K.lookup a=some o/\o.cls=.type "list"/\o.dict=none/\o.data=.seq its n/\its.size<=sizeLine/\Vals xs its.toList
def SqT (K:PySem.W.Frag) (H:Hp) (a:Addr) (xs:List V):Prop :=
 Rd H a (.tup xs)\/
   ∃ (o:Obj) (its:Array Value) (n:Nat),K.lookup a=some o/\o.cls=.type "tuple"/\o.data=.seq its n/\its.size<=sizeLine/\Vals xs its.toList
def eZL:Value->Option V
 | .none=>some .non
 | .bool b=>some (.bl b)
 | .int i _=>some (.int i)
 | .str x _=>some (.str x)
 | .bytes b _=>some (.byt b)
 | .float b _=>some (.flt b)
 | .ref a=>some (.ref a)
 | .type n=>some (.ty n)
 | _=>none
theorem RelV.abs {x:V} {u:Value} (r:RelV x u):eZL u=some x:=by
 cases x with
 | non=>cases r; rfl
 | bl _=>cases r; rfl
 | int _=>obtain ⟨t,rfl⟩:=r; rfl
 | str _=>obtain ⟨t,rfl⟩:=r; rfl
 | byt _=>obtain ⟨t,rfl⟩:=r; rfl
 | flt _=>obtain ⟨t,rfl⟩:=r; rfl
 | ref _=>cases r; rfl
 | ty _=>cases r; rfl
theorem RelV.inj {x y:V} {u:Value} (r:RelV x u) (q:RelV y u):x=y:=Bm (r.abs.symm.trans q.abs)
theorem Vals.inj:∀ {xs ys:List V} {us:List Value},Vals xs us->Vals ys us->xs=ys
 | _,_,_,.nil,.nil=>rfl
 | _,_,_,.cons r t,.cons r' t'=>by rw [r.inj r',Vals.inj t t']
section
variable {X:Cx} {pins:Q2} {σ:St} {H:Hp} {s:Shared} {a:Addr} {xs ys:List V}
theorem SqL.of {K:PySem.W.Frag} (h:H a=some (.lst xs)):SqL K H a xs:=.inl (.inl h)
theorem SqT.of {K:PySem.W.Frag} (h:H a=some (.tup xs)):SqT K H a xs:=.inl (.inl h)
theorem Inv.list (I:Inv X pins σ H s) (h:SqL X.K H a xs):∃ its:List Value,Vals xs its/\PlainL s.heap a its.toArray/\xs.length<=sizeLine:=by
 rcases h with h | ⟨o,its,n,hk,hc,hd,hs,hz,r⟩
 · obtain ⟨z,its,n,r,e⟩:=h.ok I.hok;exact ⟨its,r,⟨_,n,e,rfl,rfl,rfl⟩,z⟩
 · refine ⟨its.toList,r,⟨o,n,I.kIn a o hk,hc,hd,by simpa using hs⟩,?_⟩
   have e:=r.length
   simp only [Array.length_toList] at e;omega
theorem Inv.tuple (I:Inv X pins σ H s) (h:SqT X.K H a xs):∃ its:List Value,Vals xs its/\IsTup s.heap a its.toArray/\xs.length<=sizeLine:=by
 rcases h with h | ⟨o,its,n,hk,hc,hs,hz,r⟩
 · obtain ⟨z,its,r,p⟩:=h.ok I.hok;exact ⟨its,r,p,z⟩
 · refine ⟨its.toList,r,⟨o,I.kIn a o hk,hc,n,by simpa using hs⟩,?_⟩
   have e:=r.length
   simp only [Array.length_toList] at e;omega
theorem Inv.list_inj (I:Inv X pins σ H s) (h:SqL X.K H a xs) (h':SqL X.K H a ys):xs=ys:=by
 obtain ⟨its,r,⟨o,n,e,_,_,d⟩,_⟩:=I.list h;obtain ⟨its',r',⟨o',n',e',_,_,d'⟩,_⟩:=I.list h';rw [e] at e'; cases e';rw [d] at d';injection d' with d1 _
 have:its=its':=by simpa using congrArg Array.toList d1
 subst this;exact r.inj r'
theorem Inv.tuple_inj (I:Inv X pins σ H s) (h:SqT X.K H a xs) (h':SqT X.K H a ys):xs=ys:=by
 obtain ⟨its,r,⟨o,e,_,n,d⟩,_⟩:=I.tuple h;obtain ⟨its',r',⟨o',e',_,n',d'⟩,_⟩:=I.tuple h';rw [e] at e'; cases e';rw [d] at d';injection d' with d1 _
 have:its=its':=by simpa using congrArg Array.toList d1
 subst this;exact r.inj r'
end
abbrev Cx.wish (X:Cx) (E:Value->Shared->Prop):Cx:={ X with xe:=E }
abbrev Cx.nox (X:Cx):Cx:=X.wish λ_ _=>False
theorem Cx.Ok.wish {X:Cx} (ok:X.Ok) (E:Q0):(X.wish E).Ok :=
 ⟨ok.mod,ok.kind,ok.glob,ok.blt,ok.above,ok.inj,ok.has,ok.cab,ok.hd,ok.frames,ok.stk,ok.exf,ok.bs,ok.bsz,ok.noex,ok.exfs,ok.funs,ok.frf⟩
theorem Cx.Ok.unwish {X:Cx} {E:Q0} (ok:(X.wish E).Ok):X.Ok :=
 ⟨ok.mod,ok.kind,ok.glob,ok.blt,ok.above,ok.inj,ok.has,ok.cab,ok.hd,ok.frames,ok.stk,ok.exf,ok.bs,ok.bsz,ok.noex,ok.exfs,ok.funs,ok.frf⟩
section
variable {X:Cx} {pins:Q2} {σ:St} {H:Hp} {s:Shared} {E:Q0}
theorem Inv.wish (I:Inv X pins σ H s) (E:Q0):Inv (X.wish E) pins σ H s:=⟨I.ok.wish E,I.os,I.bare,I.base,I.loc,I.cell,I.free,I.freeC,I.pin,I.hok,I.len⟩
theorem Inv.unwish (I:Inv (X.wish E) pins σ H s):Inv X pins σ H s:=⟨I.ok.unwish,I.os,I.bare,I.base,I.loc,I.cell,I.free,I.freeC,I.pin,I.hok,I.len⟩
theorem SP.unwish {D:Ends} {f:Flow} {s':Shared} (h:SP (X.wish E) pins D f s'):SP X pins D f s':=by
 cases f with
 | next=>obtain ⟨σ',H',I,q⟩:=h; exact ⟨σ',H',I.unwish,q⟩
 | brk=>obtain ⟨σ',H',I,q⟩:=h; exact ⟨σ',H',I.unwish,q⟩
 | cont=>obtain ⟨σ',H',I,q⟩:=h; exact ⟨σ',H',I.unwish,q⟩
 | ret u=>obtain ⟨v,σ',H',I,r,q⟩:=h; exact ⟨v,σ',H',I.unwish,r,q⟩
theorem PE.nox {e:Expr} {t:TE} (h:PE X.nox e t):PE X e t:=λpins s σ H Q I hw=>
 Bo (h pins s σ H Q (I.wish _) hw) (λ_ _ ⟨v,H',I',r,q⟩=>⟨v,H',I'.unwish,r,q⟩) λ_ _ z=>False.elim z
theorem PT.nox {e:Expr} {t:TT} (h:PT X.nox e t):PT X e t:=λpins s σ H Q I hw=>
 Bo (h pins s σ H Q (I.wish _) hw) (λ_ _ ⟨H',I',q⟩=>⟨H',I'.unwish,q⟩) λ_ _ z=>False.elim z
theorem PSs.nox {st:List Stmt} {t:TS} (h:PSs X.nox st t):PSs X st t:=λpins s σ H D I hw=>
 Bo (h pins s σ H D (I.wish _) hw) (λ_ _ q=>q.unwish) λ_ _ z=>False.elim z
end
section
variable {X:Cx} {st:Stmt} {rest:List Stmt} {t u:TS} {e:Expr} {te:TE} {pos:Pos}
def cJN:TS:=λD σ H=>D.nx σ H
def dZH (t u:TS):TS:=λD σ H=>t { D with nx:=u D } σ H
theorem aU:PSs X [] cJN:=λ_ _ σ H _ I h=>wpAny_execs_nil ⟨σ,H,I,h⟩
theorem aH (h1:PS X st t) (h2:PSs X rest u):PSs X (st::rest) (dZH t u):=by
 intro pins s σ H D I h;refine wpAny_execs_cons (thn (h1 pins s σ H { D with nx:=u D } I h) λf s1 q=>?_)
 cases f with
 | next=>
   obtain ⟨σ',H',I',q⟩:=q;exact h2 pins s1 σ' H' D I' q
 | ret v=>exact q
 | brk=>exact q
 | cont=>exact q
theorem aI (h1:PS X st t):PSs X [st] t:=by
 intro pins s σ H D I h;refine wpAny_execs_cons (thn (h1 pins s σ H D I h) λf s1 q=>?_);cases f with
 | next=>exact wpAny_execs_nil q
 | ret v=>exact q
 | brk=>exact q
 | cont=>exact q
theorem Inv.quiet {pins:Q2} {σ:St} {H:Hp} {s:Shared} (I:Inv X pins σ H s):interactive X.env=false:=by simp [interactive,I.ok.kind]
def cJT (te:TE):TS:=λD σ H=>te σ H λ_ H1=>D.nx σ H1
theorem jH (he:PE X e te) (hs:swapsWith e none pos.line X.env=pure false:=by rfl):PS X (.Expr e pos) (cJT te):=by
 intro pins s σ H D I h;exact wpAny_Expr_any (thn (he pins s σ H _ I h) λv s1 ⟨x,H1,I1,r1,q1⟩=>⟨σ,H1,I1,q1⟩) I.quiet hs
def eQP (te:TE):TS:=λD σ H=>te σ H D.rt
theorem aO (he:PE X e te):PS X (.Return (some e) pos) (eQP te):=by
 intro pins s σ H D I h;exact wpAny_Return_some (thn (he pins s σ H _ I h) λv s1 ⟨x,H1,I1,r1,q1⟩=>⟨x,σ,H1,I1,r1,q1⟩)
def eXQ (c:TT) (t u:TS):TS:=λD σ H=>c σ H λb H1=>if b=true then t D σ H1 else u D σ H1
theorem bR {c:Expr} {a b:List Stmt} {tc:TT} (hc:PT X c tc) (ha:PSs X a t) (hb:PSs X b u):PS X (.If c a b pos) (eXQ tc t u):=by
 intro pins s σ H D I h;refine wpAny_If (thn (hc pins s σ H _ I h) λd s1 ⟨H1,I1,q1⟩=>?_);cases d with
 | true=>exact ha pins s1 σ H1 D I1 q1
 | false=>exact hb pins s1 σ H1 D I1 q1
def dX6:TS:=λ_ _ _=>False
theorem qD:PS X st dX6:=λ_ _ _ _ _ _ h=>h.elim
end
abbrev TG:=V->St->Hp->(St->Hp->Prop)->Prop
abbrev TGs:=List V->St->Hp->(St->Hp->Prop)->Prop
def PG (X:Cx) (target:Expr) (t:TG):Prop :=
 ∀ (pins:Q2) (s:Shared) (σ:St) (H:Hp) (v:V) (u:Value) (Q:St->Hp->Prop),Inv X pins σ H s->RelV v u->t v σ H Q->
   wpAny (model X.prog X.w) X.A (assign target X.env u) (λ_ s'=>∃ σ' H',Inv X pins σ' H' s'/\Q σ' H') X.xe s
def PGs (X:Cx) (ts:List Expr) (t:TGs):Prop :=
 ∀ (pins:Q2) (s:Shared) (σ:St) (H:Hp) (vs:List V) (us:List Value) (Q:St->Hp->Prop),Inv X pins σ H s->Vals vs us->t vs σ H Q->
   wpAny (model X.prog X.w) X.A (assignInOrder ((assignEach ts X.env).map (·.2)) us) (λ_ s'=>∃ σ' H',Inv X pins σ' H' s'/\Q σ' H') X.xe s
abbrev cXD:=V->V->V->Hp->(Hp->Prop)->Prop
def eXC (X:Cx) (t:cXD):Prop :=
 ∀ (pins:Q2) (s:Shared) (σ:St) (H:Hp) (o i v:V) (ov iv u:Value) (Q:Hp->Prop),Inv X pins σ H s->RelV o ov->RelV i iv->RelV v u->t o i v H Q->
   wpAny (model X.prog X.w) X.A (setItem ov iv u) (λ_ s'=>∃ H',Inv X pins σ H' s'/\Q H') X.xe s
section
variable {X:Cx} {pos:Pos}
def lP (i:Nat):TG:=λv σ H Q=>Q (σ.set i (some v)) H
theorem bL {i:Nat} {x:Str} (hN:X.N.Nodup) (hi:X.N[i]?=some x) (hx:Loc X.env.scope x) (hf:X.fn x=true\/X.env.scope.names.lookup x=some .local:=by first | exact .inl rfl | exact .inr rfl | assumption):PG X (.Name x pos) (lP i):=by
 intro pins s σ H v u Q I r h;exact wpAny_assign_Name (kW I hN hi hx r (λs' I'=>⟨_,H,I',h⟩) hf)
def dX5:TGs:=λvs σ H Q=>vs=[]/\Q σ H
def aZU (t:TG) (u:TGs):TGs:=λvs σ H Q=>∃ v r,vs=v::r/\t v σ H λσ' H'=>u r σ' H' Q
theorem aXO:PGs X [] dX5:=by
 intro pins s σ H vs us Q I r h;obtain ⟨e,h⟩:=h;subst e;cases r;exact assignInOrder_nil ⟨σ,H,I,h⟩
theorem kX {e:Expr} {es:List Expr} {t:TG} {u:TGs} (h1:PG X e t) (h2:PGs X es u)
   (hs:(assignEach (e::es) X.env).map (·.2)=assign e X.env::(assignEach es X.env).map (·.2):=by rfl):PGs X (e::es) (aZU t u):=by
 intro pins s σ H vs us Q I r h;obtain ⟨v,vr,e1,h⟩:=h;subst e1;cases r with
 | cons r rr=>
   rw [hs];refine assignInOrder_cons (thn (h1 pins s σ H _ _ _ I r h) λ_ s1 ⟨σ1,H1,I1,q1⟩=>?_);exact h2 pins s1 σ1 H1 _ _ Q I1 rr q1
def dQU (K:PySem.W.Frag) (n:Nat) (t:TGs):TG:=λv σ H Q=>∃ a xs,v=.ref a/\SqT K H a xs/\xs.length=n/\t xs σ H Q
theorem dXV {es:List Expr} {k:Nat} {t:TGs} {n:Nat} (hc:X.calm=true) (h:PGs X es t)
   (hn:(assignEach es X.env).length=n:=by rfl) (hst:(assignEach es X.env).findIdx? (·.1)=none:=by rfl):PG X (.Tuple es k pos) (dQU X.K n t):=by
 intro pins s σ H v u Q I r hw;obtain ⟨a,xs,e1,hq,hl,hw⟩:=hw;subst e1;cases r;obtain ⟨its,rv,ht,hz⟩:=I.tuple hq;refine assign_Tuple_tuple (I.ok.hd hc) ht (by simp [hn,<-hl,rv.length]) hst λh' hx=>?_
 have I1:Inv X pins σ H { s with heap:=h' }:=I.kept (t':=s.toks) λb o e=>hx b o (Ay (An e)) e
 exact h pins _ σ H xs _ Q I1 (by simpa using rv) hw
def eQ4 (to ti:TE) (t:cXD):TG:=λv σ H Q=>to σ H λo H1=>ti σ H1 λi H2=>t o i v H2 λH3=>Q σ H3
theorem bJ6 {o i:Expr} {to ti:TE} {t:cXD} (ho:PE X o to) (hi:PE X i ti) (hs:eXC X t)
   (ha:∀ v,assign (.Subscript o i pos) X.env v=(do
     let ov <-holding [v] (eval o X.env)
     let iv <-holding [v,ov] (eval i X.env)
     standAt pos
     holding [v,ov,iv] (setItem ov iv v)
     release [v,ov,iv] []):=by intro _; rfl):PG X (.Subscript o i pos) (eQ4 to ti t):=by
 intro pins s σ H v u Q I r h;rw [ha];refine Ac (Bz (thn (ho pins s σ H _ I h) λov s1 ⟨x,H1,I1,r1,q1⟩=>?_));refine Ac (Bz (thn (hi pins s1 σ H1 _ I1 q1) λiv s2 ⟨y,H2,I2,r2,q2⟩=>?_));refine Ac (Ea (Ac (Bz (thn (hs pins s2 σ H2 x y v ov iv u _ I2 r1 r2 r q2) λ_ s3 ⟨H3,I3,q3⟩=>?_))));exact wpAny_release ⟨σ,H3,I3,q3⟩
def bX8 (te:TE) (g:TG):TS:=λD σ H=>te σ H λx H1=>g x σ H1 D.nx
theorem zX {tg e:Expr} {te:TE} {g:TG} (he:PE X e te) (hg:PG X tg g) (hs:swapsWithSole [tg] e pos.line X.env=pure false:=by rfl) (hw:swappedStores [tg] e X.env=pure none:=by rfl)
   (h1:(assignEach [tg] X.env).map (·.2)=[assign tg X.env]:=by rfl):PS X (.Assign [tg] e pos) (bX8 te g):=by
 intro pins s σ H D I h;refine wpAny_Assign_stores (thn (he pins s σ H _ I h) λv s1 ⟨x,H1,I1,r1,q1⟩=>?_) hs hw;rw [h1];exact thn (hg pins s1 σ H1 x v _ I1 r1 q1) λ_ s2 q=>q
theorem bI {i:Nat} {x:Str} {e:Expr} {te:TE} {pos':Pos} (hN:X.N.Nodup) (hi:X.N[i]?=some x) (hx:Loc X.env.scope x) (he:PE X e te) (hs:swapsWith e (some (.Name x pos')) pos.line X.env=pure false:=by rfl) (hf:X.fn x=true\/X.env.scope.names.lookup x=some .local:=by first | exact .inl rfl | exact .inr rfl | assumption) :
   PS X (.Assign [.Name x pos'] e pos) (bX8 te (lP i)):=by
 intro pins s σ H D I h;refine wpAny_Assign_Name (thn (he pins s σ H _ I h) λv s1 ⟨y,H1,I1,r1,q1⟩=>?_) hs;exact kW I1 hN hi hx r1 (λs2 I2=>⟨_,H1,I2,q1⟩) hf
end
section
variable {X:Cx} {pos:Pos}
end
structure It where
 go:Nat->Hp->Prop
 yld:Nat->Hp->V->Hp->Prop
 stop:Nat->Hp->Prop
def iG (X:Cx) (pins:List (Addr×Obj)) (H:Hp) (b:Addr):Prop :=
 H b=none/\b≠X.env.locals/\b ∉ X.fs/\(b ∈ X.ex\/X.s₀.heap.objs.size<=b)/\(∀ x c,X.env.cells.lookup x=some c->c≠b)/\∀ p ∈ X.pn++pins,p.1≠b
theorem Inv.fpOk {X:Cx} {pins:Q2} {σ:St} {H H':Hp} {s:Shared} {b:Addr} (I:Inv X pins σ H s) (hb:s.heap.objs.size<=b) (hn:H' b=none):iG X pins H' b:=by
 refine ⟨hn,Gd (Bc I.lt hb),I.nofs hb,.inr (Bv I.sz hb),λx c e z=>?_,λp hp z=>?_⟩
 · obtain ⟨v,q⟩:=I.cell x c e;exact absurd (Bc q.lt (by rw [z]; exact hb)) (Ds _)
 · exact absurd (Bc (An (I.pin p hp).1) (by rw [z]; exact hb)) (Ds _)
structure Turn (P:Program) (w:World) (K:PySem.W.Frag) (tg:Expr) (J:It) (fp:List Addr) (it:Addr) (tn:Nat->Heap->Prop):Prop where
 mem:it∈fp
 obj:∀ i h,tn i h->∀ b∈fp,∃ o,h.get? b=some o/\∀ v,o.data≠.cell v
 keep:∀ i h h',tn i h->(∀ b∈fp,∀ o,h.get? b=some o->h'.get? b=some o)->tn i h'
 item:∀ (X:Cx),X.prog=P->X.w=w->X.K=K->X.calm=true->∀ (i:Nat) (pins:Q2) (s:Shared) (σ:St) (H:Hp) (E:Q0),Inv X pins σ H s->(∀ b∈fp,iG X pins H b)->tn i s.heap->J.go i H->
   wpAny (model P w) X.A (pyNext (.ref it)) (λr s1=>∃ u,r=some u/\
     wpAny (model P w) X.A (letOwnedTupleGo tg (.ref it) u) (λ_ s2=>∃ x H',Inv X pins σ H' s2/\RelV x u/\J.yld i H x H'/\tn (i+1) s2.heap/\∀ b∈fp,H' b=none) E s1) E s
 done:∀ (X:Cx),X.prog=P->X.w=w->X.K=K->X.calm=true->∀ (i:Nat) (pins:Q2) (s:Shared) (σ:St) (H:Hp) (E:Q0),Inv X pins σ H s->(∀ b∈fp,iG X pins H b)->tn i s.heap->J.stop i H->
   wpAny (model P w) X.A (pyNext (.ref it)) (λr s1=>r=none/\Inv X pins σ H s1) E s
 self:∀ (A:Around) (i:Nat) (s:Shared) (Q:Q0) (E:Q0),tn i s.heap->Q (.ref it) s->wpAny (model P w) A (pyIter (.ref it)) Q E s
abbrev TI:=St->Hp->(It->Hp->Prop)->Prop
def PIE (X:Cx) (pins:List (Addr×Obj)) (σ:St) (tg:Expr) (R:It->Hp->Prop) (itv:Value) (s2:Shared):Prop :=
 ∃ (it:Addr) (fp:List Addr) (tn:Nat->Heap->Prop) (J:It) (H':Hp),itv=.ref it/\Inv X pins σ H' s2/\Turn X.prog X.w X.K tg J fp it tn/\tn 0 s2.heap/\(∀ b∈fp,iG X pins H' b)/\R J H'
def PI (X:Cx) (tg iter:Expr) (wi:TI):Prop :=
 ∀ (pins:Q2) (s:Shared) (σ:St) (H:Hp) (R:It->Hp->Prop),Inv X pins σ H s->wi σ H R->
   wpAny (model X.prog X.w) X.A (eval iter X.env) (λv s1=>wpAny (model X.prog X.w) X.A (pyIter v) (PIE X pins σ tg R) X.xe s1) X.xe s
theorem tK {M:Model} {A:Around} {E:Q0} {s:Shared} {tg:Expr} {it:Addr} {u:Value} {o:Obj} {n:String} {vs:Array Value} {Q:Unit->Shared->Prop} (ho:s.heap.get? it=some o) (hc:o.cls=.type n) (hd:o.data=.fields vs)
   (hn:["enumerate", "zip", "dict_itemiterator", "dict_reverseitemiterator", "odict_iterator", "itertools.zip_longest", "itertools.pairwise"].contains n=false) (hQ:Q () s):wpAny M A (letOwnedTupleGo tg (.ref it) u) Q E s:=by
 unfold letOwnedTupleGo;cases tg <;> first
   | exact Ao hQ
   | (cases u <;> first
       | exact Ao hQ
       | (refine Ac (wpAny_load ho ?_)
          rw [hc,hd];show wpAny M A (if (["enumerate", "zip", "dict_itemiterator", "dict_reverseitemiterator", "odict_iterator", "itertools.zip_longest", "itertools.pairwise"].contains n && vs[0]? == some (rawInt _))=true then _ else _) Q E s
          rw [if_neg (by intro h; rw [hn,Eo] at h; cases h)]
          exact Ao hQ))
def Itl (K:PySem.W.Frag) (a:Addr):It :=
 ⟨λi H=>∃ xs x,SqL K H a xs/\xs[i]?=some x,λi H x H'=>H'=H/\∀ xs,SqL K H a xs->xs[i]?=some x,λi H=>∃ xs,SqL K H a xs/\xs.length<=i⟩
def Itt (K:PySem.W.Frag) (a:Addr):It :=
 ⟨λi H=>∃ xs x,SqT K H a xs/\xs[i]?=some x,λi H x H'=>H'=H/\∀ xs,SqT K H a xs->xs[i]?=some x,λi H=>∃ xs,SqT K H a xs/\xs.length<=i⟩
def Itr (lo:Int) (n:Nat):It:=⟨λi _=>i<n,λi H x H'=>H'=H/\x=.int (lo+i),λi _=>n<=i⟩
theorem aJ0 {P:Program} {w:World} {K:PySem.W.Frag} {tg:Expr} (a it:Addr):Turn P w K tg (Itl K a) [it] it (λi h=>h.IsListIter it a i) where
 mem:=by simp
 obj:=λi h st b hb=>by
   have e:b=it:=by simpa using hb
   subst e;obtain ⟨o,e,c,d⟩:=st;exact ⟨o,e,λv z=>by rw [d] at z; cases z⟩
 keep:=λi h h' st k=>st.at λo e=>k it (by simp) o e
 item:=by
   intro X hP hw hK hc i pins s σ H E I hf st hg;subst hP hw hK;obtain ⟨xs,x,hq,hx⟩:=hg;obtain ⟨its,rv,p,hz⟩:=I.list hq;obtain ⟨u,hu,ru⟩:=rv.get hx;obtain ⟨f0,f1,f2,f3,f4,f5⟩:=hf it (by simp)
   refine wpAny_pyNext_list_item st p.isList (x:=u) (by simpa using hu) λh' st' sb=>?_
   have I1:Inv X pins σ H { s with heap:=h' }:=I.turned (t':=s.toks) (λb o hb e=>(sb.2 b hb).trans e) f0 f1 f3 f4 f5
   obtain ⟨o,e,c,d⟩:=id st';exact ⟨u,rfl,tK (s:={ s with heap:=h' }) e c d (by decide) ⟨x,H,I1,ru,⟨rfl,λys hy=>by rw [I.list_inj hy hq]; exact hx⟩,st',λb hb=>(hf b hb).1⟩⟩
 done:=by
   intro X hP hw hK hc i pins s σ H E I hf st hg;subst hP hw hK;obtain ⟨xs,hq,hx⟩:=hg;obtain ⟨its,rv,p,hz⟩:=I.list hq;obtain ⟨f0,f1,f2,f3,f4,f5⟩:=hf it (by simp)
   have hl:=rv.length
   exact wpAny_pyNext_list_end (I.ok.hd hc) st p.isList (by simp; omega) λh' eb=>⟨rfl,I.turned (t':=s.toks) (λb o hb e=>eb b o hb e) f0 f1 f3 f4 f5⟩
 self:=λ_ _ _ _ _ st h=>wpAny_pyIter_listiter st h
theorem aQS {P:Program} {w:World} {K:PySem.W.Frag} {tg:Expr} (a it:Addr):Turn P w K tg (Itt K a) [it] it (λi h=>h.IsTupleIter it a i) where
 mem:=by simp
 obj:=λi h st b hb=>by
   have e:b=it:=by simpa using hb
   subst e;obtain ⟨o,e,c,d⟩:=st;exact ⟨o,e,λv z=>by rw [d] at z; cases z⟩
 keep:=λi h h' st k=>st.at λo e=>k it (by simp) o e
 item:=by
   intro X hP hw hK hc i pins s σ H E I hf st hg;subst hP hw hK;obtain ⟨xs,x,hq,hx⟩:=hg;obtain ⟨its,rv,p,hz⟩:=I.tuple hq;obtain ⟨u,hu,ru⟩:=rv.get hx;obtain ⟨f0,f1,f2,f3,f4,f5⟩:=hf it (by simp)
   refine wpAny_pyNext_tuple_item st (show s.heap.IsTuple a its.toArray from p) (x:=u) (by simpa using hu) λh' st' sb=>?_
   have I1:Inv X pins σ H { s with heap:=h' }:=I.turned (t':=s.toks) (λb o hb e=>(sb.2 b hb).trans e) f0 f1 f3 f4 f5
   obtain ⟨o,e,c,d⟩:=id st';exact ⟨u,rfl,tK (s:={ s with heap:=h' }) e c d (by decide) ⟨x,H,I1,ru,⟨rfl,λys hy=>by rw [I.tuple_inj hy hq]; exact hx⟩,st',λb hb=>(hf b hb).1⟩⟩
 done:=by
   intro X hP hw hK hc i pins s σ H E I hf st hg;subst hP hw hK;obtain ⟨xs,hq,hx⟩:=hg;obtain ⟨its,rv,p,hz⟩:=I.tuple hq;obtain ⟨f0,f1,f2,f3,f4,f5⟩:=hf it (by simp)
   have hl:=rv.length
   exact wpAny_pyNext_tuple_end (I.ok.hd hc) st (show s.heap.IsTuple a its.toArray from p) (by simp; omega) λh' eb=>⟨rfl,I.turned (t':=s.toks) (λb o hb e=>eb b o hb e) f0 f1 f3 f4 f5⟩
 self:=λ_ _ _ _ _ st h=>wpAny_pyIter_tupleiter st h
theorem zK {P:Program} {w:World} {K:PySem.W.Frag} {tg:Expr} (it:Addr) (lo:Int) (n:Nat):Turn P w K tg (Itr lo n) [it] it (λi h=>IsRangeIter h it (lo+(i:Nat) * 1) ((n:Int) - (i:Nat)) 1) where
 mem:=by simp
 obj:=λi h st b hb=>by
   have e:b=it:=by simpa using hb
   subst e;exact ⟨_,st,λv z=>by
     have z':Data.fields _=Data.cell v:=z
     cases z'⟩
 keep:=λi h h' st k=>k it (by simp) _ st
 item:=by
   intro X hP hw hK hc i pins s σ H E I hf st hg;subst hP hw hK;obtain ⟨f0,f1,f2,f3,f4,f5⟩:=hf it (by simp)
   have W:=Walks.range (prog:=X.prog) (w:=X.w) (I.ok.hd hc) it lo 1 n
   refine W.item i s _ _ hg st λv h' tk hv st' kk=>?_;obtain ⟨t,rfl⟩:=hv;have I1:Inv X pins σ H { s with heap:=h',toks:=tk }:=I.turned (λb o hb e=>kk b o (by simpa using hb) e) f0 f1 f3 f4 f5
   refine ⟨_,rfl,tK (s:={ s with heap:=h',toks:=tk }) (n := "range_iterator") st' rfl rfl (by decide) ⟨.int (lo+i),H,I1,⟨t,?_⟩,⟨rfl,rfl⟩,st',λb hb=>(hf b hb).1⟩⟩
   rw [Int.mul_one]
 done:=by
   intro X hP hw hK hc i pins s σ H E I hf st hg;subst hP hw hK;obtain ⟨f0,f1,f2,f3,f4,f5⟩:=hf it (by simp)
   exact wpAny_pyNext_range_end (I.ok.hd hc) st (by have:n<=i:=hg; omega) λh' eb=>⟨rfl,I.turned (t':=s.toks) (λb o hb e=>eb b o hb e) f0 f1 f3 f4 f5⟩
 self:=λ_ _ _ _ _ st h=>wpAny_pyIter_rangeiter st h
end L2
namespace L2
open PySem PySem.Spec PyProof.Rows
section
variable {X:Cx} {tg:Expr}
theorem yT {pins:Q2} {σ:St} {H:Hp} {s:Shared} {R:It->Hp->Prop} {E:Q0} {lo hi:Int} {t u v:Tok} {tk:Nat} (I:Inv X pins σ H s) (h1:-(2 ^ 62)<=lo) (h2:lo<2 ^ 62) (h3:-(2 ^ 62)<=hi) (h4:hi<2 ^ 62)
   (q:R (Itr lo (hi - lo).toNat) H):wpAny (model X.prog X.w) X.A (pyIter (.ref s.heap.objs.size)) (PIE X pins σ tg R) E { s with heap:=s.heap.push { cls:=.type "range",data:=.fields #[.int lo t,.int hi u,.int 1 v] },toks:=tk }:=by
 refine wpAny_pyIter_range (IsRange.new ..) (small_one h1 h2 h3 h4) ?_;have I1:Inv X pins σ H { s with heap:=s.heap.push { cls:=.type "range",data:=.fields #[.int lo t,.int hi u,.int 1 v] },toks:=tk }:=I.kept λb o e=>Ad _ e
 refine ⟨(s.heap.push { cls:=.type "range",data:=.fields #[.int lo t,.int hi u,.int 1 v] }).objs.size,[(s.heap.push { cls:=.type "range",data:=.fields #[.int lo t,.int hi u,.int 1 v] }).objs.size],_,_,H,rfl,
   I1.kept (t':=tk) λb o e=>Ad _ e,zK _ lo (hi - lo).toNat,?_,λb hb=>?_,q⟩
 · have e1:lo+((0:Nat):Int) * 1=lo:=by simp
   have e2:(((hi - lo).toNat:Nat):Int) - ((0:Nat):Int)=Builtin.Range.rangeSize lo hi 1:=by rw [rangeSize_one]; split <;> omega
   show IsRangeIter _ _ (lo+((0:Nat):Int) * 1) ((((hi - lo).toNat:Nat):Int) - ((0:Nat):Int)) 1
   rw [e1,e2];exact Ar _ rfl
 · have e:b=(s.heap.push { cls:=.type "range",data:=.fields #[.int lo t,.int hi u,.int 1 v] }).objs.size:=by simpa using hb
   subst e;exact I1.fpOk (Ag _) (I1.hok.fresh (Ag _))
def eZJ (wi:TI) (g:TG) (tb:TS):TS:=λD σ H=>wi σ H λJ H1=>∃ W:Nat->Nat->St->Hp->Prop,(∃ m,W 0 m σ H1)/\∀ i m σ H,W i m σ H->
 (J.stop i H/\D.nx σ H)\/(J.go i H/\∃ N:St->Hp->Prop,(∀ σ' H',N σ' H'->∃ m',m' < m/\W (i+1) m' σ' H')/\∀ x H',J.yld i H x H'->g x σ H' λσ2 H2=>tb { D with nx:=N,ct:=N,bk:=D.nx } σ2 H2)
def kS (fp:List Addr) (h:Heap):List (Addr×Obj):=fp.filterMap λb=>(h.get? b).map λo=>(b,o)
theorem fT {fp:List Addr} {h:Heap} {b:Addr} {o:Obj} (hb:b∈fp) (e:h.get? b=some o):(b,o)∈kS fp h:=Cm.mpr ⟨b,hb,by rw [e]; rfl⟩
theorem aJP {fp:List Addr} {h:Heap} {p:Addr×Obj} (hp:p∈kS fp h):p.1∈fp/\h.get? p.1=some p.2:=by
 obtain ⟨b,hb,e⟩:=Cm.mp hp;cases q:h.get? b with
 | none=>rw [q] at e; cases e
 | some o=>
   rw [q] at e;have e':(b,o)=p:=Bm e
   subst e';exact ⟨hb,q⟩
theorem Inv.pinned {pins:Q2} {σ:St} {H:Hp} {s:Shared} {fp:List Addr} (I:Inv X pins σ H s) (hf:∀ b∈fp,iG X pins H b) (ho:∀ b∈fp,∃ o,s.heap.get? b=some o/\∀ v,o.data≠.cell v):Inv X (pins++kS fp s.heap) σ H s :=
 I.pins_of λp hp=>(Co.mp hp).elim (λz=>I.pin p (Ax _ z)) λz=>by
   obtain ⟨hb,e⟩:=aJP z;obtain ⟨f0,f1,f2,_⟩:=hf p.1 hb;obtain ⟨o,e',d⟩:=ho p.1 hb;rw [e] at e'; cases e';exact ⟨e,f0,f1,f2,d⟩
theorem Inv.unpinned {pins pl:Q2} {σ:St} {H:Hp} {s:Shared} (I:Inv X (pins++pl) σ H s):Inv X pins σ H s:=I.pins_of λp hp=>I.pin p (Ax _ (Du _ hp))
theorem dQY {iter:Expr} {body:List Stmt} {wi:TI} {g:TG} {tb:TS} {pos:Pos} (hp:PassesOwn (model X.prog X.w) X.A X.env X.xe) (hc:X.calm=true) (hi:PI X tg iter wi) (hg:PG X tg g) (hb:PSs X body tb)
   (hs:∀ x,foldedSetIterable iter X.env x=pure x:=by intro _; rfl):PS X (.For tg iter body [] pos) (eZJ wi g tb):=by
 intro pins s σ H D I h;refine wpAny_For (thn (hi pins s σ H _ I h) λv s1 h1=>thn h1 λitv s2 h2=>?_) hs;obtain ⟨it,fp,tn,J,H2,e,I2,T,st2,f2,W,⟨m0,w0⟩,turn⟩:=h2;subst e
 -- what stays true of the iterator's objects through the loop
 have stat:∀ {H':Hp},(∀ b∈fp,H' b=none)->∀ b∈fp,iG X pins H' b:=λhn b hb=>⟨hn b hb,(f2 b hb).2⟩
 refine codeAny_forLoop_any (λn s'=>∃ i σ' H',Inv X pins σ' H' s'/\tn i s'.heap/\(∀ b∈fp,H' b=none)/\W i n σ' H') ?_ m0 ⟨0,σ,H2,I2,st2,λb hb=>(f2 b hb).1,w0⟩;rintro n s3 ⟨i,σ3,H3,I3,st3,fr3,w3⟩;rcases turn i n σ3 H3 w3 with ⟨stop,qn⟩ | ⟨go,N,hN,step⟩
 · refine Fu hp (thn (T.done X rfl rfl rfl hc i pins s3 σ3 H3 X.xe I3 (stat fr3) st3 stop) λr s4 ⟨hr,I4⟩=>?_);subst hr;exact wpAny_execs_nil ⟨σ3,H3,I4,qn⟩
 · refine Fu hp (thn (T.item X rfl rfl rfl hc i pins s3 σ3 H3 X.xe I3 (stat fr3) st3 go) λr s4 ⟨u,hr,h4⟩=>?_);subst hr;refine Fu hp (thn h4 λ_ s5 ⟨x,H5,I5,r5,y5,st5,fr5⟩=>?_);have I5':=I5.pinned (stat fr5) (T.obj _ _ st5)
   refine Fu hp (thn (hg _ s5 σ3 H5 x u _ I5' r5 (step x H5 y5)) λ_ s6 ⟨σ6,H6,I6,q6⟩=>?_);refine Fu hp (thn (hb _ s6 σ6 H6 _ I6 q6) λf s7 q7=>?_);have again:∀ {σ7:St} {H7:Hp},Inv X (pins++kS fp s5.heap) σ7 H7 s7->N σ7 H7->∃ m,m<n/\∃ i σ' H',Inv X pins σ' H' s7/\tn i s7.heap/\(∀ b∈fp,H' b=none)/\W i m σ' H':=fun {σ7 H7} I7 n7=>by
     obtain ⟨m',hm,w7⟩:=hN σ7 H7 n7;refine ⟨m',hm,i+1,σ7,H7,I7.unpinned,T.keep _ _ _ st5 λb hb o e=>(I7.pin (b,o) (Ax _ (Ax _ (fT hb e)))).1,λb hb=>?_,w7⟩;obtain ⟨o,e,d⟩:=T.obj _ _ st5 b hb;exact (I7.pin (b,o) (Ax _ (Ax _ (fT hb e)))).2.1
   cases f with
   | next=>obtain ⟨σ7,H7,I7,n7⟩:=q7; exact again I7 n7
   | cont=>obtain ⟨σ7,H7,I7,n7⟩:=q7; exact again I7 n7
   | brk=>obtain ⟨σ7,H7,I7,q7⟩:=q7; exact ⟨σ7,H7,I7.unpinned,q7⟩
   | ret v=>obtain ⟨x7,σ7,H7,I7,r7,q7⟩:=q7; exact ⟨x7,σ7,H7,I7.unpinned,r7,q7⟩
end
theorem bZC {K:PySem.W.Frag} {a:Addr} {xs:List V} {g:TG} {tb:TS} {D:Ends} {σ:St} {H:Hp} (Pv:Nat->St->Hp->Prop) (h0:Pv 0 σ H) (hl:∀ i σ H,i<=xs.length->Pv i σ H->SqL K H a xs)
   (hs:∀ i x σ H,xs[i]?=some x->Pv i σ H->g x σ H λσ2 H2=>tb { D with nx:=Pv (i+1),ct:=Pv (i+1),bk:=D.nx } σ2 H2) (hd:∀ σ H,Pv xs.length σ H->D.nx σ H) :
   ∃ W:Nat->Nat->St->Hp->Prop,(∃ m,W 0 m σ H)/\∀ i m σ H,W i m σ H->
     ((Itl K a).stop i H/\D.nx σ H)\/((Itl K a).go i H/\∃ N:St->Hp->Prop,(∀ σ' H',N σ' H'->∃ m',m' < m/\W (i+1) m' σ' H')/\∀ x H',(Itl K a).yld i H x H'->g x σ H' λσ2 H2=>tb { D with nx:=N,ct:=N,bk:=D.nx } σ2 H2):=by
 refine ⟨λi m σ H=>m=xs.length - i/\i<=xs.length/\Pv i σ H,⟨xs.length,by simp,Nat.zero_le _,h0⟩,?_⟩
 rintro i m σ H ⟨rfl,hi,p⟩;have q:=hl i σ H hi p
 by_cases hlt:i<xs.length
 · refine .inr ⟨⟨xs,xs[i],q,by simp [hlt]⟩,Pv (i+1),λσ' H' p'=>⟨xs.length - (i+1),by omega,rfl,hlt,p'⟩,λx H' y=>?_⟩
   obtain ⟨e,y⟩:=y;subst e;exact hs i x σ _ (y xs q) p
 · have e:i=xs.length:=by omega
   subst e;exact .inl ⟨⟨xs,q,Ag _⟩,hd σ H p⟩
theorem bQH {lo:Int} {n:Nat} {g:TG} {tb:TS} {D:Ends} {σ:St} {H:Hp} (Pv:Nat->St->Hp->Prop) (h0:Pv 0 σ H)
   (hs:∀ i σ H,i<n->Pv i σ H->g (.int (lo+i)) σ H λσ2 H2=>tb { D with nx:=Pv (i+1),ct:=Pv (i+1),bk:=D.nx } σ2 H2) (hd:∀ σ H,Pv n σ H->D.nx σ H) :
   ∃ W:Nat->Nat->St->Hp->Prop,(∃ m,W 0 m σ H)/\∀ i m σ H,W i m σ H->
     ((Itr lo n).stop i H/\D.nx σ H)\/((Itr lo n).go i H/\∃ N:St->Hp->Prop,(∀ σ' H',N σ' H'->∃ m',m' < m/\W (i+1) m' σ' H')/\∀ x H',(Itr lo n).yld i H x H'->g x σ H' λσ2 H2=>tb { D with nx:=N,ct:=N,bk:=D.nx } σ2 H2):=by
 refine ⟨λi m σ H=>m=n - i/\i<=n/\Pv i σ H,⟨n,by simp,Nat.zero_le _,h0⟩,?_⟩
 rintro i m σ H ⟨rfl,hi,p⟩;by_cases hlt:i<n
 · refine .inr ⟨hlt,Pv (i+1),λσ' H' p'=>⟨n - (i+1),by omega,rfl,hlt,p'⟩,λx H' y=>?_⟩
   obtain ⟨e,y⟩:=y;subst e y;exact hs i σ _ hlt p
 · have e:i=n:=by omega
   subst e;exact .inl ⟨Ag _,hd σ H p⟩
end L2
namespace L2
open PySem PySem.Spec PyProof.Rows
abbrev R2:=V->V->Hp->VK->Prop
def OpR (X:Cx) (f:Value->Value->Sem Value) (r:R2):Prop :=
 ∀ (pins:Q2) (s:Shared) (σ:St) (H:Hp) (x y:V) (v u:Value) (Q:VK),Inv X pins σ H s->RelV x v->RelV y u->r x y H Q->
   wpAny (model X.prog X.w) X.A (f v u) (EP X pins σ Q) X.xe s
def UnR (X:Cx) (f:Value->Sem Value) (r:V->Hp->VK->Prop):Prop :=
 ∀ (pins:Q2) (s:Shared) (σ:St) (H:Hp) (x:V) (v:Value) (Q:VK),Inv X pins σ H s->RelV x v->r x H Q->
   wpAny (model X.prog X.w) X.A (f v) (EP X pins σ Q) X.xe s
def CallR (X:Cx) (f:Value) (r:List V->Hp->VK->Prop):Prop :=
 ∀ (pins:Q2) (s:Shared) (σ:St) (H:Hp) (xs:List V) (us:List Value) (Q:VK),Inv X pins σ H s->Vals xs us->r xs H Q->
   wpAny (model X.prog X.w) X.A (call f us) (EP X pins σ Q) X.xe s
def eX5 (X:Cx) (r:V->Hp->(Bool->Hp->Prop)->Prop):Prop :=
 ∀ (pins:Q2) (s:Shared) (σ:St) (H:Hp) (x:V) (v:Value) (Q:Bool->Hp->Prop),Inv X pins σ H s->RelV x v->r x H Q->
   wpAny (model X.prog X.w) X.A (truthy v) (TP X pins σ Q) X.xe s
def tOp (r:R2) (ta tb:TE):TE:=λσ H Q=>ta σ H λx H1=>tb σ H1 λy H2=>r x y H2 Q
def tUn (r:V->Hp->VK->Prop) (ta:TE):TE:=λσ H Q=>ta σ H λx H1=>r x H1 Q
def rI (C:Int->Int->Prop) (g:Int->Int->V):R2:=λx y H Q=>∃ i j,x=.int i/\y=.int j/\C i j/\Q (g i j) H
def rI0 (g:Int->Int->V):R2:=λx y H Q=>∃ i j,x=.int i/\y=.int j/\Q (g i j) H
def rU (g:Int->V):V->Hp->VK->Prop:=λx H Q=>∃ i,x=.int i/\Q (g i) H
section
variable {X:Cx} {a b c:Expr} {ta tb tc:TE} {pos:Pos}
theorem dXK (ha:PE X a ta) (hb:PE X b tb) {pins:Q2} {s:Shared} {σ:St} {H:Hp} {R:V->V->Hp->Prop} (I:Inv X pins σ H s)
   (h:ta σ H λx H1=>tb σ H1 λy H2=>R x y H2) {Q:Q0} {f:Value->Value->Sem Value}
   (hf:∀ v u s2 x y H2,Inv X pins σ H2 s2->RelV x v->RelV y u->R x y H2->wpAny (model X.prog X.w) X.A (f v u) Q X.xe s2) :
   wpAny (model X.prog X.w) X.A (eval a X.env) (λv s₁=>wpAny (model X.prog X.w) X.A (eval b X.env) (λu s₂=>wpAny (model X.prog X.w) X.A (f v u) Q X.xe s₂) X.xe s₁) X.xe s:=by
 refine thn (ha pins s σ H _ I h) λv s1 ⟨x,H1,I1,r1,q1⟩=>?_;refine thn (hb pins s1 σ H1 _ I1 q1) λu s2 ⟨y,H2,I2,r2,q2⟩=>?_;exact hf v u s2 x y H2 I2 r1 r2 q2
theorem bF {op:Operator} {r:R2} (ho:OpR X (binaryOp op) r) (ha:PE X a ta) (hb:PE X b tb):PE X (.BinOp a op b pos) (tOp r ta tb):=by
 intro pins s σ H Q I h;exact wpAny_BinOp (dXK ha hb I h λv u s2 x y H2 I2 rx ry q=>ho pins s2 σ H2 x y v u Q I2 rx ry q)
theorem dJV {op:UnaryOp} {r:V->Hp->VK->Prop} (ho:UnR X (unaryOp op) r) (ha:PE X a ta):PE X (.UnaryOp op a pos) (tUn r ta):=by
 intro pins s σ H Q I h;exact UnaryOp_ (thn (ha pins s σ H _ I h) λv s1 ⟨x,H1,I1,r1,q1⟩=>ho pins s1 σ H1 x v Q I1 r1 q1)
theorem opI {f:Value->Value->Sem Value} {C:Int->Int->Prop} {g:Int->Int->Int}
   (rule:∀ (i j:Int) (t u:Tok) (s:Shared) (Q:Q0) (E:Q0),C i j->Q (.int (g i j) s.toks) { s with toks:=s.toks+1 }->wpAny (model X.prog X.w) X.A (f (.int i t) (.int j u)) Q E s) :
   OpR X f (rI C λi j=>.int (g i j)):=by
 intro pins s σ H x y v u Q I rx ry h;obtain ⟨i,j,rfl,rfl,hc,q⟩:=h;obtain ⟨t,rfl⟩:=rx;obtain ⟨t',rfl⟩:=ry;exact rule i j t t' s _ _ hc ⟨.int (g i j),H,I.tok _,⟨_,rfl⟩,q⟩
theorem dJZ {f:Value->Value->Sem Value} {g:Int->Int->Int}
   (rule:∀ (i j:Int) (t u:Tok) (s:Shared) (Q:Q0) (E:Q0),Q (.int (g i j) s.toks) { s with toks:=s.toks+1 }->wpAny (model X.prog X.w) X.A (f (.int i t) (.int j u)) Q E s) :
   OpR X f (rI0 λi j=>.int (g i j)):=by
 intro pins s σ H x y v u Q I rx ry h;obtain ⟨i,j,rfl,rfl,q⟩:=h;obtain ⟨t,rfl⟩:=rx;obtain ⟨t',rfl⟩:=ry;exact rule i j t t' s _ _ ⟨.int (g i j),H,I.tok _,⟨_,rfl⟩,q⟩
theorem cZY {f:Value->Value->Sem Value} {g:Int->Int->Bool}
   (rule:∀ (i j:Int) (t u:Tok) (s:Shared) (Q:Q0) (E:Q0),Q (.bool (g i j)) s->wpAny (model X.prog X.w) X.A (f (.int i t) (.int j u)) Q E s) :
   OpR X f (rI0 λi j=>.bl (g i j)):=by
 intro pins s σ H x y v u Q I rx ry h;obtain ⟨i,j,rfl,rfl,q⟩:=h;obtain ⟨t,rfl⟩:=rx;obtain ⟨t',rfl⟩:=ry;exact rule i j t t' s _ _ ⟨.bl (g i j),H,I,rfl,q⟩
def dJT (i j:Int):Prop:=0<j/\j<1073741824
def eZN (i j:Int):Prop:=0<=j/\j<=1000000/\i.natAbs<2 ^ 64
def CMul (i j:Int):Prop:=(-(2 ^ 64)<i/\i<2 ^ 64)\/(-(2 ^ 64)<j/\j<2 ^ 64)
theorem CMul.ok {i j:Int} (h:CMul i j):IntMulOk i j:=by
 rcases h with ⟨h1,h2⟩ | ⟨h1,h2⟩
 · exact .of_left (intBits_le_64 h1 h2)
 · exact .of_right (intBits_le_64 h1 h2)
theorem dXC:OpR X (binaryOp .Add) (rI0 λi j=>.int (i+j)):=dJZ λ_ _ _ _ _ _ _ q=>add_int q
theorem op_sub:OpR X (binaryOp .Sub) (rI0 λi j=>.int (i - j)):=dJZ λ_ _ _ _ _ _ _ q=>sub_int q
theorem op_mul:OpR X (binaryOp .Mult) (rI CMul λi j=>.int (i * j)):=opI λ_ _ _ _ _ _ _ hc q=>mul_int q hc.ok
theorem op_fdiv:OpR X (binaryOp .FloorDiv) (rI dJT λi j=>.int (i / j)):=opI λi j _ _ _ _ _ hc q=>by
 have h1:(0:Int)<j:=hc.1
 have h2:j<1073741824:=hc.2
 exact floordiv_int (by omega) (by rw [Int.fdiv_eq_ediv_of_nonneg i (by omega)]; exact q) (.inl (PyProof.noPylong_small (by omega)))
theorem op_mod:OpR X (binaryOp .Mod) (rI (λ_ j=>0<j) λi j=>.int (i % j)):=opI λi j _ _ _ _ _ hc q=>by
 have h1:(0:Int)<j:=hc
 exact mod_int' (by omega) (by rw [Int.fmod_eq_emod_of_nonneg i (by omega)]; exact q)
theorem op_pow:OpR X (binaryOp .Pow) (rI eZN λi j=>.int (i ^ j.toNat)):=opI λ_ _ _ _ _ _ _ hc q=>pow_int_small hc.1 hc.2.1 hc.2.2 q
theorem unI {f:Value->Sem Value} {g:Int->Int}
   (rule:∀ (i:Int) (t:Tok) (s:Shared) (Q:Q0) (E:Q0),Q (.int (g i) s.toks) { s with toks:=s.toks+1 }->wpAny (model X.prog X.w) X.A (f (.int i t)) Q E s) :
   UnR X f (rU λi=>.int (g i)):=by
 intro pins s σ H x v Q I rx h;obtain ⟨i,rfl,q⟩:=h;obtain ⟨t,rfl⟩:=rx;exact rule i t s _ _ ⟨.int (g i),H,I.tok _,⟨_,rfl⟩,q⟩
theorem dXZ:UnR X (unaryOp .USub) (rU λi=>.int (-i)):=unI λ_ _ _ _ _ q=>neg_int q
end
def cZB:V->V->Bool
 | .non,.non=>true | .non,.int _=>true | .int _,.non=>true | .non,.bl _=>true | .bl _,.non=>true | .non,.str _=>true | .str _,.non=>true
 | .int _,.int _=>true | .bl _,.bl _=>true | .str _,.str _=>true | .byt _,.byt _=>true
 | .int _,.str _=>true | .str _,.int _=>true | .bl _,.str _=>true | .str _,.bl _=>true
 | _,_=>false
def rEq:R2:=λx y H Q=>cZB x y=true/\Q (.bl (decide (x=y))) H
def rNe:R2:=λx y H Q=>cZB x y=true/\Q (.bl (!decide (x=y))) H
theorem aXP {i j:Int}:decide (V.int i=V.int j)=(i == j):=by
 rw [Fv];simp
theorem bX2 {i j:Bool}:decide (V.bl i=V.bl j)=(i == j):=by
 rw [Fv];simp
theorem vZ {i j:Str}:decide (V.str i=V.str j)=(i == j):=by
 rw [Fv];simp
theorem aXL {i j:Array UInt8}:decide (V.byt i=V.byt j)=(i.toList == j.toList):=by
 rw [Fv];cases i;cases j;simp
section
variable {X:Cx} {a b c:Expr} {ta tb tc:TE} {pos:Pos}
theorem bS {pins:Q2} {σ:St} {H:Hp} {s:Shared} {Q:VK} {k k':Bool} (I:Inv X pins σ H s) (q:Q (.bl k) H) (e:k=k'):EP X pins σ Q (.bool k') s:=by
 subst e;exact ⟨.bl k,H,I,rfl,q⟩
theorem dJ4:OpR X (compareOp .Eq) rEq:=by
 intro pins s σ H x y v u Q I rx ry h;obtain ⟨hs,q⟩:=h;cases x with
 | non=>
   cases rx;cases y with
   | non=>cases ry; exact PySem.EqNone.eq_none_none (bS I q (by simp))
   | bl j=>cases ry; exact PySem.EqNone.eq_none_bool (bS I q (by simp))
   | int j=>obtain ⟨t',rfl⟩:=ry; exact PySem.EqNone.eq_none_int (bS I q (by simp))
   | str j=>obtain ⟨t',rfl⟩:=ry; exact PySem.EqNone.eq_none_str (bS I q (by simp))
   | _=>exact absurd (show false=true from hs) Al
 | bl i=>
   cases rx;cases y with
   | non=>cases ry; exact PySem.EqNone.eq_bool_none (bS I q (by simp))
   | bl j=>cases ry; exact eq_bool (bS I q bX2)
   | str j=>obtain ⟨t',rfl⟩:=ry; exact PySem.EqMixed.eq_bool_str (bS I q (by simp))
   | _=>exact absurd (show false=true from hs) Al
 | int i=>
   obtain ⟨t,rfl⟩:=rx;cases y with
   | non=>cases ry; exact PySem.EqNone.eq_int_none (bS I q (by simp))
   | int j=>obtain ⟨t',rfl⟩:=ry; exact eq_int (bS I q aXP)
   | str j=>obtain ⟨t',rfl⟩:=ry; exact PySem.EqMixed.eq_int_str (bS I q (by simp))
   | _=>exact absurd (show false=true from hs) Al
 | str i=>
   obtain ⟨t,rfl⟩:=rx;cases y with
   | non=>cases ry; exact PySem.EqNone.eq_str_none (bS I q (by simp))
   | bl j=>cases ry; exact PySem.EqMixed.eq_str_bool (bS I q (by simp))
   | int j=>obtain ⟨t',rfl⟩:=ry; exact PySem.EqMixed.eq_str_int (bS I q (by simp))
   | str j=>obtain ⟨t',rfl⟩:=ry; exact eq_str (bS I q vZ)
   | _=>exact absurd (show false=true from hs) Al
 | byt i=>
   obtain ⟨t,rfl⟩:=rx;cases y with
   | byt j=>obtain ⟨t',rfl⟩:=ry; exact PySem.W.eq_bytes (bS I q aXL)
   | _=>exact absurd (show false=true from hs) Al
 | _=>cases y <;> exact absurd (show false=true from hs) Al
theorem dJU:OpR X (compareOp .NotEq) rNe:=by
 intro pins s σ H x y v u Q I rx ry h;obtain ⟨hs,q⟩:=h;cases x with
 | non=>
   cases rx;cases y with
   | non=>cases ry; exact PySem.EqNone.ne_none_none (bS I q (by simp))
   | bl j=>cases ry; exact PySem.EqNone.ne_none_bool (bS I q (by simp))
   | int j=>obtain ⟨t',rfl⟩:=ry; exact PySem.EqNone.ne_none_int (bS I q (by simp))
   | str j=>obtain ⟨t',rfl⟩:=ry; exact PySem.EqNone.ne_none_str (bS I q (by simp))
   | _=>exact absurd (show false=true from hs) Al
 | bl i=>
   cases rx;cases y with
   | non=>cases ry; exact PySem.EqNone.ne_bool_none (bS I q (by simp))
   | bl j=>cases ry; exact ne_bool (bS I q (Dm not bX2))
   | str j=>obtain ⟨t',rfl⟩:=ry; exact PySem.EqMixed.ne_bool_str (bS I q (by simp))
   | _=>exact absurd (show false=true from hs) Al
 | int i=>
   obtain ⟨t,rfl⟩:=rx;cases y with
   | non=>cases ry; exact PySem.EqNone.ne_int_none (bS I q (by simp))
   | int j=>obtain ⟨t',rfl⟩:=ry; exact ne_int (bS I q (Dm not aXP))
   | str j=>obtain ⟨t',rfl⟩:=ry; exact PySem.EqMixed.ne_int_str (bS I q (by simp))
   | _=>exact absurd (show false=true from hs) Al
 | str i=>
   obtain ⟨t,rfl⟩:=rx;cases y with
   | non=>cases ry; exact PySem.EqNone.ne_str_none (bS I q (by simp))
   | bl j=>cases ry; exact PySem.EqMixed.ne_str_bool (bS I q (by simp))
   | int j=>obtain ⟨t',rfl⟩:=ry; exact PySem.EqMixed.ne_str_int (bS I q (by simp))
   | str j=>obtain ⟨t',rfl⟩:=ry; exact ne_str (bS I q (Dm not vZ))
   | _=>exact absurd (show false=true from hs) Al
 | byt i=>
   obtain ⟨t,rfl⟩:=rx;cases y with
   | byt j=>obtain ⟨t',rfl⟩:=ry; exact PySem.W.ne_bytes (bS I q (Dm not aXL))
   | _=>exact absurd (show false=true from hs) Al
 | _=>cases y <;> exact absurd (show false=true from hs) Al
theorem op_lt:OpR X (compareOp .Lt) (rI0 λi j=>.bl (decide (i<j))):=cZY λ_ _ _ _ _ _ _ q=>lt_int q
theorem op_le:OpR X (compareOp .LtE) (rI0 λi j=>.bl (decide (i<=j))):=cZY λ_ _ _ _ _ _ _ q=>le_int q
theorem op_gt:OpR X (compareOp .Gt) (rI0 λi j=>.bl (decide (j<i))):=cZY λ_ _ _ _ _ _ _ q=>gt_int q
theorem op_ge:OpR X (compareOp .GtE) (rI0 λi j=>.bl (decide (j<=i))):=cZY λ_ _ _ _ _ _ _ q=>ge_int q
theorem op_in_str:OpR X (compareOp .In) (λx y H Q=>∃ i j,x=.str i/\y=.str j/\Q (.bl (!(Builtin.Str.occurrences j i 0 j.length 1).isEmpty)) H):=by
 intro pins s σ H x y v u Q I rx ry h;obtain ⟨i,j,rfl,rfl,q⟩:=h;obtain ⟨t,rfl⟩:=rx;obtain ⟨t',rfl⟩:=ry;exact in_str (bS I q rfl)
theorem op_isN:OpR X (compareOp .Is) (λx y H Q=>y=.non/\Q (.bl (decide (x=.non))) H):=by
 intro pins s σ H x y v u Q I rx ry h;obtain ⟨rfl,q⟩:=h;cases ry;refine is_none_gen (bS I q ?_);cases x <;> first
   | (cases rx; rfl)
   | (obtain ⟨t,rfl⟩:=rx; rfl)
theorem op_notN:OpR X (compareOp .IsNot) (λx y H Q=>y=.non/\Q (.bl (!decide (x=.non))) H):=by
 intro pins s σ H x y v u Q I rx ry h;obtain ⟨rfl,q⟩:=h;cases ry;refine isnot_none_gen (bS I q ?_);cases x <;> first
   | (cases rx; rfl)
   | (obtain ⟨t,rfl⟩:=rx; rfl)
theorem OpR.or {f:Value->Value->Sem Value} {r r':R2} (h:OpR X f r) (h':OpR X f r'):OpR X f (λx y H Q=>r x y H Q\/r' x y H Q):=by
 intro pins s σ H x y v u Q I rx ry q;rcases q with q | q
 · exact h pins s σ H x y v u Q I rx ry q
 · exact h' pins s σ H x y v u Q I rx ry q
theorem aR (b:Expr) {op:CmpOp} (h:op≠.In:=by decide) (h2:op≠.NotIn:=by decide):behindInMarks op b=false:=by
 have e1:(op == CmpOp.In)=false:=by cases op <;> first | rfl | exact absurd rfl h
 have e2:(op == CmpOp.NotIn)=false:=by cases op <;> first | rfl | exact absurd rfl h2
 cases b <;> simp [behindInMarks,e1,e2]
theorem cG {op:CmpOp} {r:R2} (ho:OpR X (compareOp op) r) (ha:PE X a ta) (hb:PE X b tb) (hm:behindInMarks op b=false):PE X (.Compare a [op] [b] pos) (tOp r ta tb):=by
 intro pins s σ H Q I h;exact wpAny_Compare1 (dXK ha hb I h λv u s2 x y H2 I2 rx ry q=>ho pins s2 σ H2 x y v u Q I2 rx ry q) hm
def dJ7 (K:PySem.W.Frag) (x:V) (H:Hp) (k:Bool):Prop :=
 match x with
 | .non=>k=false
 | .bl b=>k=b
 | .int i=>k=(i != 0)
 | .str y=>y.length<=sizeLine/\k=((y.length:Int) != 0)
 | .byt y=>y.size<=sizeLine/\k=((y.size:Int) != 0)
 | .ref p=>(∃ xs,SqL K H p xs/\k=!xs.isEmpty)\/(∃ xs,SqT K H p xs/\k=!xs.isEmpty)\/∃ kvs,H p=some (.dK kvs)/\k=!kvs.isEmpty
 | _=>False
theorem aQU {κ:Type} {kvs:List (κ×V)} {vs:List (κ×Value)} (r:KV kvs vs):(!vs.isEmpty)=!kvs.isEmpty:=by
 cases r <;> rfl
theorem qO {xs:List V} {its:List Value} (r:Vals xs its):(!its.toArray.isEmpty)=!xs.isEmpty:=by
 cases r <;> simp
theorem jK:(sizeLine:Nat)<2 ^ 63:=by rw [Gb]; decide
theorem dXW:eX5 X (λx H Q=>∃ k,dJ7 X.K x H k/\Q k H):=by
 intro pins s σ H x v Q I rx h;obtain ⟨k,e,q⟩:=h;have hl:=jK
 have hs:sizeLine=16777216:=Gb
 cases x with
 | non=>
   cases rx;have e':k=false:=e
   subst e';exact truthy_none ⟨H,I,q⟩
 | bl b=>
   cases rx;have e':k=b:=e
   subst e';exact Ff ⟨H,I,q⟩
 | int i=>
   obtain ⟨t,rfl⟩:=rx;have e':k=(i != 0):=e
   subst e';exact PySem.P.truthy_int ⟨H,I,q⟩
 | str y=>
   obtain ⟨t,rfl⟩:=rx;obtain ⟨hy,e'⟩:y.length<=sizeLine/\k=((y.length:Int) != 0):=e;subst e';exact PySem.P.truthy_str (by omega) ⟨H,I.tok _,q⟩
 | byt y=>
   obtain ⟨t,rfl⟩:=rx;obtain ⟨hy,e'⟩:y.size<=sizeLine/\k=((y.size:Int) != 0):=e;subst e';exact PySem.W.truthy_bytes (by omega) ⟨H,I.tok _,q⟩
 | ref p=>
   cases rx;have e':(∃ xs,SqL X.K H p xs/\k=!xs.isEmpty)\/(∃ xs,SqT X.K H p xs/\k=!xs.isEmpty)\/∃ kvs,H p=some (.dK kvs)/\k=!kvs.isEmpty:=e
   rcases e' with ⟨xs,hx,e'⟩ | ⟨xs,hx,e'⟩ | ⟨kvs,hx,e'⟩
   · subst e';obtain ⟨its,r,pl,hz⟩:=I.list hx;have hlen:=r.length
     exact wpAny_truthy_list pl.isList (by simp only [List.size_toArray]; omega) ⟨H,I.tok _,by rw [qO r]; exact q⟩
   · subst e';obtain ⟨its,r,pl,hz⟩:=I.tuple hx;have hlen:=r.length
     exact truthy_tuple pl (by simp only [List.size_toArray]; omega) ⟨H,I.tok _,by rw [qO r]; exact q⟩
   · subst e';obtain ⟨hz,hS,vs,r,m⟩:kvs.length<=sizeLine/\(p == sysModules)=false/\∃ vs,KV kvs vs/\s.heap.DictOf (bK X.prog X.w) p vs:=I.hok p _ hx;have hlen:kvs.length=vs.length:=Paired.length r
     exact wpAny_truthy_dict hS m (by omega) ⟨H,I.tok _,by rw [aQU r]; exact q⟩
 | _=>exact (show False from e).elim
theorem aQ2:OpR X (binaryOp .Add) (λx y H Q=>∃ i j,x=.str i/\y=.str j/\i.length+j.length<=sizeLine/\Q (.str (i++j)) H):=by
 intro pins s σ H x y v u Q I rx ry h;obtain ⟨i,j,rfl,rfl,hz,q⟩:=h;obtain ⟨t,rfl⟩:=rx;obtain ⟨t',rfl⟩:=ry;exact add_str (λt' tk=>⟨.str (i++j),H,I.tok _,⟨_,rfl⟩,q⟩) hz
theorem eK {x:V} {us:List Value} (r:Vals [x] us):∃ u,us=[u]/\RelV x u:=by
 cases r with
 | cons r1 r2=>cases r2; exact ⟨_,rfl,r1⟩
theorem aZW {x y:V} {us:List Value} (r:Vals [x,y] us):∃ u w',us=[u,w']/\RelV x u/\RelV y w':=by
 cases r with
 | cons r1 r2=>
   cases r2 with
   | cons r3 r4=>cases r4; exact ⟨_,_,rfl,r1,r3⟩
theorem call_int1:CallR X (.type "int") (λxs H Q=>(∃ i,xs=[.int i]/\Q (.int i) H)\/∃ k,xs=[.bl k]/\Q (.int (if k then 1 else 0)) H):=by
 intro pins s σ H xs us Q I r h;rcases h with ⟨i,rfl,q⟩ | ⟨k,rfl,q⟩
 · obtain ⟨u,rfl,t,rfl⟩:=eK r;exact call_int_int ⟨.int i,H,I,⟨_,rfl⟩,q⟩
 · obtain ⟨u,rfl,r1⟩:=eK r;cases r1;exact call_int_bool ⟨.int (if k then 1 else 0),H,I.tok _,⟨_,rfl⟩,q⟩
theorem call_str_int:CallR X (.type "str") (λxs H Q=>∃ i,xs=[.int i]/\i.natAbs.log2<1920/\Q (.str (toString i)) H):=by
 intro pins s σ H xs us Q I r h;obtain ⟨i,rfl,hz,q⟩:=h;obtain ⟨u,rfl,t,rfl⟩:=eK r;exact PySem.P.str_of_int hz ⟨.str _,H,I.tok _,⟨_,rfl⟩,q⟩
def eZO (K:PySem.W.Frag) (x:V) (H:Hp) (n:Nat):Prop :=
 match x with
 | .str y=>y.length<=sizeLine/\n=y.length
 | .byt y=>y.size<=sizeLine/\n=y.size
 | .ref p=>(∃ xs,SqL K H p xs/\n=xs.length)\/∃ xs,SqT K H p xs/\n=xs.length
 | _=>False
theorem call_len:CallR X (.builtin "len") (λxs H Q=>∃ x n,xs=[x]/\eZO X.K x H n/\Q (.int n) H):=by
 intro pins s σ H xs us Q I r h;obtain ⟨x,n,rfl,e,q⟩:=h;obtain ⟨u,rfl,rx⟩:=eK r;have hl:=jK
 have hs:sizeLine=16777216:=Gb
 cases x with
 | str y=>
   obtain ⟨t,rfl⟩:=rx;obtain ⟨hy,e'⟩:y.length<=sizeLine/\n=y.length:=e;subst e';exact len_str (by omega) ⟨.int _,H,I.tok _,⟨_,rfl⟩,q⟩
 | byt y=>
   obtain ⟨t,rfl⟩:=rx;obtain ⟨hy,e'⟩:y.size<=sizeLine/\n=y.size:=e;subst e';exact PySem.W.len_bytes (by omega) ⟨.int _,H,I.tok _,⟨_,rfl⟩,q⟩
 | ref p=>
   cases rx;have e':(∃ xs,SqL X.K H p xs/\n=xs.length)\/∃ xs,SqT X.K H p xs/\n=xs.length:=e
   rcases e' with ⟨xs,hx,e'⟩ | ⟨xs,hx,e'⟩
   · subst e';obtain ⟨its,r',pl,hz⟩:=I.list hx;have hlen:=r'.length
     exact Calls.call_len_list pl.isList (by simp only [List.size_toArray]; omega) ⟨.int xs.length,H,I.tok _,⟨_,by simp only [List.size_toArray]; rw [hlen]⟩,q⟩
   · subst e';obtain ⟨its,r',pl,hz⟩:=I.tuple hx;have hlen:=r'.length
     exact len_tuple pl (by simp only [List.size_toArray]; omega) ⟨.int xs.length,H,I.tok _,⟨_,by simp only [List.size_toArray]; rw [hlen]⟩,q⟩
 | _=>exact (show False from e).elim
end
end L2
namespace L2
open PySem PySem.Spec PyProof.Rows
structure ObjM (h:Heap) (x dx C:Addr) (mA:Str->Option Value):Prop where
 obj:h.get? x=some (PySem.W.instObj C dx)
 ns:h.Ns1 dx mA
 ne:dx≠x
theorem uK {h:Heap} {dx:Addr} {mA:Q3} (n:h.Ns1 dx mA):∃ od,h.get? dx=some od/\∀ name,PySem.W.lookIn name od=some (mA name):=by
 obtain ⟨o,es,ep,ho,hd,hk,_,hm⟩:=n;refine ⟨o,ho,λname=>?_⟩;have e:=hm name
 unfold nsFind findBy at e;rw [<-Array.find?_toList] at e;unfold PySem.W.lookIn;rw [hd];dsimp only;split
 · rename_i y q
   rw [q] at e;exact Dm some e
 · rename_i q
   rw [q] at e;have a:es.toList.any (·.refKey)=false:=by
     rw [Ge];intro y hy;obtain ⟨z,t,hkey⟩:=hk y (Array.mem_toList_iff.mp hy);simp [DictEntry.refKey,hkey]
   have a':¬ es.toList.any (·.refKey)=true:=by rw [a]; exact Al
   rw [if_neg a'];exact Dm some e
theorem ObjM.look {h:Heap} {x dx C:Addr} {mA:Q3} (I:ObjM h x dx C mA):∃ od,PySem.W.InstAt h x (PySem.W.instObj C dx) C (some od)/\∀ name,PySem.W.lookIn name od=some (mA name) :=
 let ⟨od,ho,hl⟩:=uK I.ns
 ⟨od,⟨I.obj,rfl,rfl,ho⟩,hl⟩
section
variable {prog:Program} {w:World} {A:Around} {E:Q0} {s:Shared} {K:PySem.W.Frag} {x dx C f:Addr} {mA:Q3} {name:Str} {v:Value}
theorem cZ7 {expr:Bool} {Q:Q0} (X:K.In s.heap) (I:ObjM s.heap x dx C mA) (hg:PySem.W.plainGet K C name=true) (hh:PySem.W.hasDictIn K C=true)
   (ha:PySem.W.findIn K (.ref C) name=some none) (hv:mA name=some v) (hv':PySem.W.handedIn v=true) (h:Q v { s with toks:=s.toks+1 }) :
   wpAny (model prog w) A (getAttr (.ref x) name expr) Q E s:=by
 obtain ⟨od,J,hl⟩:=I.look;exact PySem.W.get_value X J (PySem.W.plainGet_of hg).1 (PySem.W.findObj_own hh ha rfl (by rw [hl,hv])) hv' h
theorem bZ5 {pl:Sem Bool} {Q:Value×List Value->Shared->Prop} (X:K.In s.heap) (I:ObjM s.heap x dx C mA) (hg:PySem.W.plainGet K C name=true)
   (hf:PySem.W.findIn K (.ref C) name=some (some (.ref f))) (ht:PySem.W.isFn K (.ref f)=true) (hv:mA name=none) (h:Q (.ref f,[.ref x]) s) :
   wpAny (model prog w) A (getMethod (.ref x) name pl) Q E s:=by
 obtain ⟨od,J,hl⟩:=I.look;exact PySem.W.method_fn X J (PySem.W.plainGet_of hg).1 (PySem.W.plainGet_of hg).2 hf (Ez.mp ht) (by show (PySem.W.lookIn name od).map (·.isSome)=some false; rw [hl,hv]; rfl) h
theorem cZ0 {ns:List Str} {Q:Unit->Shared->Prop} (X:K.In s.heap) (I:ObjM s.heap x dx C mA)
   (hs:PySem.W.findIn K (.ref C) "__setattr__"=some (some (.builtin "object.__setattr__"))) (hp:PySem.W.plainOver K C=true) (ht:PySem.W.takerIn K C name=some none) (hh:PySem.W.hasDictIn K C=true)
   (hw:PySem.Within mA ns) (hsz:ns.length<=sizeLine)
   (h:∀ h',ObjM h' x dx C (λy=>if y=name then some v else mA y)->Heap.SameBut dx s.heap h'->Q () { s with heap:=h',toks:=s.toks+2 }) :
   wpAny (model prog w) A (setAttr (.ref x) name v) Q E s:=by
 obtain ⟨od,J,hl⟩:=I.look;refine PySem.W.set_plain X J hs (PySem.W.osa_open (s:={ s with toks:=s.toks+1 }) (r:=none) X J hp ht λb=>?_)
 obtain ⟨cd,hc,hd'⟩:=PySem.W.any_some hh;have hx:s.heap.get? x=some ⟨.ref C,some dx,.plain,#[]⟩:=I.obj
 refine Ac (Ao (Ac (Ac (wpAny_loadPart hx (Ac (PySem.W.Looks.here (s:={ s with toks:=s.toks+1 }) (PySem.W.looks_clsIn X hc) ?_))))))
 rw [hd'];refine Ao (a:=some dx) (Ac (Ao (Ac ?_)));refine wpAny_nsSet1 (s:={ s with toks:=s.toks+1 }) I.ns λh' hn2 hs2=>?_
 obtain ⟨oD,esD,epD,hoD,hdD,hcD⟩:=hn2.count (PySem.Within.cons name v hw);refine Ac (wpAny_lookBehind hoD (by rw [hdD]; exact pastItsLine_dict (Bv hcD (by rw [Be]; omega))) ?_)
 exact Ao (h _ ⟨(hs2.2 _ (Ne.symm I.ne)).trans I.obj,hn2,I.ne⟩ hs2)
theorem xN {R:Result->Shared->Prop} {vs:List Value} {kw:List (Str×Value)} (X:K.In s.heap) (hm:PySem.W.makesIn K C=true)
   (hi:PySem.W.findIn K (.ref C) "__init__"=some (some (.ref f))) (hf:PySem.W.typeIn K (.ref f)=some (.type "function"))
   (h:codeAny (model prog w) (A.under (.builtin "type.__call__" ⟨.ref C::vs,kw⟩)) (.call (.ref f) ⟨.ref (s.heap.objs.size+1)::vs,kw⟩) (PySem.W.InitBack (s.heap.objs.size+1) R)
     { s with heap:=(s.heap.push PySem.W.emptyDict).push (PySem.W.instObj C s.heap.objs.size) }) :
   codeAny (model prog w) A (.call (.ref C) ⟨vs,kw⟩) R s:=by
 obtain ⟨hh,g,d,t,os⟩:=s;exact PySem.W.make_core (PySem.W.makes_of X hm) (PySem.W.looks_findIn X hi) (λself=>PySem.W.bind_fn X self hf) (.inl rfl) h
end
def fP (f:Str) (v:V):List (Str×V)->List (Str×V)
 | []=>[(f,v)]
 | (g,x)::r=>if g=f then (g,v)::r else (g,x)::fP f v r
theorem oQ (f g:Str) (v:V):∀ fs:List (Str×V),(fP f v fs).lookup g=if g=f then some v else fs.lookup g
 | []=>by
   show List.lookup g [(f,v)]=_
   by_cases h:g=f
   · have hb:(g == f)=true:=Ez.mpr h
     simp only [List.lookup,hb,if_pos h]
   · have hb:(g == f)=false:=Cf.mpr h
     simp only [List.lookup,hb,if_neg h]
 | (k,x)::r=>by
   have ih:=oQ f g v r
   rw [show fP f v ((k,x)::r)=(if k=f then (k,v)::r else (k,x)::fP f v r) from rfl]
   by_cases hk:k=f
   · rw [if_pos hk];by_cases h:g=k
     · have hb:(g == k)=true:=Ez.mpr h
       simp only [List.lookup,hb,if_pos (h.trans hk)]
     · have hb:(g == k)=false:=Cf.mpr h
       simp only [List.lookup,hb,if_neg (λe:g=f=>h (e.trans hk.symm))]
   · rw [if_neg hk];by_cases h:g=k
     · have hb:(g == k)=true:=Ez.mpr h
       simp only [List.lookup,hb,if_neg (λe:g=f=>hk (h.symm.trans e))]
     · have hb:(g == k)=false:=Cf.mpr h
       simp only [List.lookup,hb];exact ih
theorem nP (f:Str) (v:V):∀ fs:List (Str×V),f∈(fP f v fs).map (·.1)/\∀ g,g∈fs.map (·.1)->g∈(fP f v fs).map (·.1)
 | []=>⟨by simp [fP],λg h=>by simp at h⟩
 | (k,x)::r=>by
   obtain ⟨i1,i2⟩:=nP f v r;rw [show fP f v ((k,x)::r)=(if k=f then (k,v)::r else (k,x)::fP f v r) from rfl]
   by_cases hk:k=f
   · rw [if_pos hk];subst hk;exact ⟨by simp,λg h=>by simpa using h⟩
   · rw [if_neg hk];refine ⟨?_,λg h=>?_⟩
     · rw [Aw];exact Ah _ i1
     · rw [Aw] at h ⊢;rcases Bd.mp h with e | e
       · exact Bd.mpr (.inl e)
       · exact Ah _ (i2 g e)
theorem oO (f:Str) (v:V):∀ fs:List (Str×V),(fP f v fs).length<=fs.length+1
 | []=>by simp [fP]
 | (k,x)::r=>by
   have ih:=oO f v r
   rw [show fP f v ((k,x)::r)=(if k=f then (k,v)::r else (k,x)::fP f v r) from rfl]
   by_cases hk:k=f
   · rw [if_pos hk,Be,Be]; omega
   · rw [if_neg hk,Be,Be]; omega
theorem RelO.some_of {v:V} {o:Option Value} (r:RelO (some v) o):∃ u,o=some u/\RelV v u:=by
 cases o with
 | none=>exact (show False from r).elim
 | some u=>exact ⟨u,rfl,r⟩
theorem RelO.none_of {o:Option Value} (r:RelO none o):o=none:=by
 cases o with
 | none=>rfl
 | some u=>exact (show False from r).elim
theorem aJA {v:V} {u:Value} (r:RelV v u):PySem.W.handedIn u=true:=by
 cases v with
 | non=>cases (show u=Value.none from r); rfl
 | bl b=>cases (show u=Value.bool b from r); rfl
 | int i=>obtain ⟨t,e⟩:=(show ∃ t,u=Value.int i t from r); cases e; rfl
 | str x=>obtain ⟨t,e⟩:=(show ∃ t,u=Value.str x t from r); cases e; rfl
 | byt b=>obtain ⟨t,e⟩:=(show ∃ t,u=Value.bytes b t from r); cases e; rfl
 | flt b=>obtain ⟨t,e⟩:=(show ∃ t,u=Value.float b t from r); cases e; rfl
 | ref a=>cases (show u=Value.ref a from r); rfl
 | ty n=>cases (show u=Value.type n from r); rfl
section
variable {P:Program} {w:World} {H H':Hp} {h h':Heap} {a C dx:Addr} {fs fs':List (Str×V)}
theorem uP (hok:HOk P w H h) (e:H a=some (.ins C dx fs)):∃ mA,ObjM h a dx C mA/\(∀ f,RelO (fs.lookup f) (mA f))/\PySem.Within mA (fs.map (·.1))/\fs.length<=1000/\H dx=some (.own a):=by
 obtain ⟨d,z,ne,ob,mA,n,r,q⟩:=(show ObjOk P w H h a (.ins C dx fs) from hok a _ e);exact ⟨mA,⟨ob,n,ne⟩,r,q,z,d⟩
end
structure Cls (K:PySem.W.Frag) (C:Addr):Prop where
 pg:PySem.W.plainGet K C Str.empty=true
 hd:PySem.W.hasDictIn K C=true
 po:PySem.W.plainOver K C=true
 sa:PySem.W.findIn K (.ref C) "__setattr__"=some (some (.builtin "object.__setattr__"))
theorem Cls.get {K:PySem.W.Frag} {C:Addr} (c:Cls K C) (f:Str):PySem.W.plainGet K C f=true:=c.pg
def NoAttr (K:PySem.W.Frag) (C:Addr) (f:Str):Prop:=PySem.W.findIn K (.ref C) f=some none
theorem NoAttr.taker {K:PySem.W.Frag} {C:Addr} {f:Str} (n:NoAttr K C f):PySem.W.takerIn K C f=some none:=by
 unfold PySem.W.takerIn;rw [show PySem.W.findIn K (.ref C) f=some none from n];rfl
structure Meth (K:PySem.W.Frag) (C:Addr) (m:Str) (f:Addr):Prop where
 at_:PySem.W.findIn K (.ref C) m=some (some (.ref f))
 fn:PySem.W.isFn K (.ref f)=true
 kp:PySem.W.keepIn K (.ref f)=true
section
variable {X:Cx} {pins:Q2} {σ:St} {H:Hp} {s:Shared} {a C dx:Addr} {fs:List (Str×V)} {f:Str} {v:V} {A:Around} {E:Q0}
theorem aQ3 {b:Bool} {Q:Q0} (I:Inv X pins σ H s) (e:H a=some (.ins C dx fs)) (c:Cls X.K C) (n:NoAttr X.K C f) (l:fs.lookup f=some v)
   (h:∀ u s',Inv X pins σ H s'->RelV v u->Q u s'):wpAny (model X.prog X.w) A (getAttr (.ref a) f b) Q E s:=by
 obtain ⟨mA,O,r,_,_,_⟩:=uP I.hok e;obtain ⟨u,hu,ru⟩:=RelO.some_of (v:=v) (o:=mA f) (by rw [<-l]; exact r f)
 exact cZ7 I.kIn O (c.get f) c.hd n hu (aJA ru) (h u _ (I.tok _) ru)
theorem jP {m:Str} {g:Addr} {pl:Sem Bool} {Q:Value×List Value->Shared->Prop} (I:Inv X pins σ H s) (e:H a=some (.ins C dx fs)) (c:Cls X.K C) (k:Meth X.K C m g) (l:fs.lookup m=none)
   (h:Q (.ref g,[.ref a]) s):wpAny (model X.prog X.w) A (getMethod (.ref a) m pl) Q E s:=by
 obtain ⟨mA,O,r,_,_,_⟩:=uP I.hok e;have hn:mA m=none:=RelO.none_of (by rw [<-l]; exact r m)
 exact bZ5 I.kIn O (c.get m) k.at_ k.fn hn h
theorem aQP {y:V} {u:Value} {Q:Unit->Shared->Prop} (I:Inv X pins σ H s) (e:H a=some (.ins C dx fs)) (c:Cls X.K C) (n:NoAttr X.K C f) (hl:fs.length<1000) (ry:RelV y u)
   (h:∀ s',Inv X pins σ (upd H a (.ins C dx (fP f y fs))) s'->Q () s'):wpAny (model X.prog X.w) A (setAttr (.ref a) f u) Q E s:=by
 obtain ⟨mA,O,r,wi,_,ho⟩:=uP I.hok e;have hz:(fs.map (·.1)).length<=sizeLine:=by rw [Ab,Gb]; omega
 refine cZ0 I.kIn O c.sa c.po n.taker c.hd wi hz λh' O' sb=>h _ ?_;have hd:∃ o,h'.get? dx=some o:=let ⟨o,_,_,e',_⟩:=O'.ns; ⟨o,e'⟩
 refine I.write (x:=a) (e:=dx) (by rw [e]; exact True.intro) (.inr ho) (λb q hb z=>(sb.2 b hb).trans z) hd ?_
 refine ⟨by rw [aK O.ne]; exact ho,?_,O.ne,O'.obj,_,O'.ns,λg=>?_,λg hg=>?_⟩
 · have:=oO f y fs; omega
 · show RelO ((fP f y fs).lookup g) (if g=f then some u else mA g)
   rw [oQ];by_cases q:g=f
   · rw [if_pos q,if_pos q]; exact ry
   · rw [if_neg q,if_neg q]; exact r g
 · by_cases q:g=f
   · rw [q]; exact (nP f y fs).1
   · refine (nP f y fs).2 g (wi g λz=>hg ?_);show (if g=f then some u else mA g)=none
     rw [if_neg q]; exact z
theorem Inv.made (I:Inv X pins σ H s):Inv X pins σ (upd (upd H s.heap.objs.size (.own (s.heap.objs.size+1))) (s.heap.objs.size+1) (.ins C s.heap.objs.size []))
   { s with heap:=(s.heap.push PySem.W.emptyDict).push (PySem.W.instObj C s.heap.objs.size) }:=by
 have e1:(s.heap.push PySem.W.emptyDict).get? s.heap.objs.size=some PySem.W.emptyDict:=Ar s.heap rfl
 have e2:((s.heap.push PySem.W.emptyDict).push (PySem.W.instObj C s.heap.objs.size)).get? (s.heap.objs.size+1)=some (PySem.W.instObj C s.heap.objs.size):=by
   have:=Ar (s.heap.push PySem.W.emptyDict) (o:=PySem.W.instObj C s.heap.objs.size) rfl
   rwa [Fj] at this
 have e3:(s.heap.push PySem.W.emptyDict).Ns s.heap.objs.size (λ_=>none):=⟨PySem.W.emptyDict,#[],_,e1,rfl,(λe he=>absurd he (by simp)),λ_=>rfl⟩
 have I1:=I.laid (a:=s.heap.objs.size) (o:=.own (s.heap.objs.size+1)) (h':=s.heap.push PySem.W.emptyDict) (t':=s.toks) (λb u q=>Ad _ q) (Ag _) ⟨_,e1⟩
 refine I1.laid (a:=s.heap.objs.size+1) (o:=.ins C s.heap.objs.size []) (t':=s.toks) (λb u q=>Ad _ q) (Nat.le_of_eq (Fj _ _)) ?_;have ne:s.heap.objs.size≠s.heap.objs.size+1:=Ay (Nat.lt_succ_self _)
 refine ⟨by rw [aK ne,aG],Dv _,ne,e2,λ_=>none,(Heap.Ns1.of_empty e3).at λo q=>Ad _ q,λ_=>True.intro,λy hy=>absurd rfl hy⟩
theorem aZJ {prog:Program} {w:World} {env:Env} {e:Expr} {f:Str} {pos:Pos} {s:Shared} {Q:Q0} (hb:attributeBase e f env (eval e env)=eval e env)
   (h:wpAny (model prog w) A (eval e env) (λo s₁=>wpAny (model prog w) A (getAttr o f true) Q E s₁) E s):wpAny (model prog w) A (eval (.Attribute e f pos) env) Q E s :=
 Attribute_any_ h (by rw [arm_eval_Attribute,hb])
end
def dJM (K:PySem.W.Frag) (ta:TE) (f:Str):TE:=λσ H Q=>ta σ H λx H1=>∃ a C dx fs v,x=.ref a/\H1 a=some (.ins C dx fs)/\Cls K C/\NoAttr K C f/\fs.lookup f=some v/\Q v H1
def dJR (K:PySem.W.Frag) (ta tv:TE) (f:Str):TS:=λD σ H=>tv σ H λy H1=>ta σ H1 λx H2=>∃ a C dx fs,x=.ref a/\H2 a=some (.ins C dx fs)/\Cls K C/\NoAttr K C f/\fs.length<1000/\
 D.nx σ (upd H2 a (.ins C dx (fP f y fs)))
section
variable {X:Cx} {o e value:Expr} {f:Str} {pos pos' tpos:Pos} {ta tv:TE}
theorem fA (he:PE X e ta) (hb:attributeBase e f X.env (eval e X.env)=eval e X.env):PE X (.Attribute e f pos) (dJM X.K ta f):=by
 intro pins s σ H Q I h;refine aZJ hb (thn (he pins s σ H _ I h) λu s1 ⟨x,H1,I1,rx,a,C,dx,fs,v,ex,ea,c,n,l,q⟩=>?_);subst ex;obtain rfl:u=Value.ref a:=rx;exact aQ3 I1 ea c n l λu' s2 I2 ru=>⟨v,H1,I2,ru,q⟩
theorem iE (ha:PE X o ta) (hv:PE X value tv) (hs:swapsWith value (some (.Attribute o f pos')) pos.line X.env=pure false):PS X (.Assign [.Attribute o f pos'] value pos) (dJR X.K ta tv f):=by
 intro pins s σ H D I h;refine plainObj_wpAny_Assign_Attribute (thn (hv pins s σ H _ I h) λu s1 ⟨y,H1,I1,ry,q⟩=>thn (ha pins s1 σ H1 _ I1 q) λov s2 ⟨x,H2,I2,rx,a,C,dx,fs,ex,ea,c,n,l,q2⟩=>?_) hs;subst ex;obtain rfl:ov=Value.ref a:=rx;exact aQP I2 ea c n l ry λs3 I3=>⟨σ,_,I3,q2⟩
theorem cJ8 {pl:Sem Bool} {m:Str} {apos:Pos} {args:List Expr} {pins:Q2} {s:Shared} {σ:St} {H:Hp} {Q:Q0} {te:TE} (he:PE X e te) (I:Inv X pins σ H s)
   (h:te σ H λx H1=>∃ a C dx fs g,x=.ref a/\H1 a=some (.ins C dx fs)/\Cls X.K C/\Meth X.K C m g/\fs.lookup m=none/\
     ∀ s1,Inv X pins σ H1 s1->wpAny (model X.prog X.w) X.A (callWith pos (.ref g) [.ref a] (backTo pos (starEach args X.env)) (backToKw pos (keywordEach [] X.env))) Q X.xe s1)
   (ht:eval (.Call (.Attribute e m apos) args [] pos) X.env=(do
     let ov <-eval e X.env
     standAt apos.atName
     let (f,first) <-holding [ov] (getMethod ov m pl)
     callWith pos f first (backTo pos (starEach args X.env)) (backToKw pos (keywordEach [] X.env)))) :
   wpAny (model X.prog X.w) X.A (eval (.Call (.Attribute e m apos) args [] pos) X.env) Q X.xe s:=by
 refine Eg (pl:=pl) (thn (he pins s σ H _ I h) λu s1 ⟨x,H1,I1,rx,a,C,dx,fs,g,ex,ea,c,k,l,q⟩=>?_) ht;subst ex;obtain rfl:u=Value.ref a:=rx;exact jP I1 ea c k l (q s1 I1)
end
section
variable {X:Cx} {pins:Q2} {σ:St} {H:Hp} {s:Shared} {A:Around} {E:Q0} {Q:Q0} {c:Value} {b:Bool}
end
end L2
namespace L2
open PySem PySem.Spec PyProof.Rows
structure Room (k:Nat) (A:Around):Prop where
 hd:A.handled=none
 dp:A.depth+3 * k+5<recursionLimit
 un:A.units+16 * k+200<cLine
theorem Room.mono {j k:Nat} {A:Around} (r:Room k A) (h:j<=k):Room j A:=⟨r.hd,by have:=r.dp; omega,by have:=r.un; omega⟩
theorem Room.deeper {k:Nat} {A:Around} (r:Room (k+1) A) (env:Env):Room k (A.deeper env) :=
 ⟨r.hd,by have:=r.dp; show A.depth+1+3 * k+5<_; omega,by have:=r.un; show A.units+3+16 * k+200<_; omega⟩
theorem Room.in1 {k:Nat} {A:Around} (r:Room (k+1) A):Room k A.in1 :=
 ⟨r.hd,by have:=r.dp; show A.depth+3 * k+5<_; omega,by have:=r.un; show A.units+1+16 * k+200<_; omega⟩
theorem aQL {A:Around} {C:Addr} {us:List Value} {kw:List (Str×Value)}:(A.under (.builtin "type.__call__" ⟨.ref C::us,kw⟩)).depth=A.depth+1:=by
 first | rfl | simp [Around.under,Code.weight,Code.isCreation,Code.isGuard,Code.isCaller,Code.frames,Code.isFrame,guardIds]
theorem aXG {A:Around} {C:Addr} {us:List Value} {kw:List (Str×Value)}:(A.under (.builtin "type.__call__" ⟨.ref C::us,kw⟩)).units=A.units+1:=by
 first | rfl | simp [Around.under,Code.cUnits,Code.frames,Code.isFrame]
theorem Room.make {k:Nat} {A:Around} (r:Room (k+1) A) (C:Addr) (us:List Value) (kw:List (Str×Value)):Room k (A.under (.builtin "type.__call__" ⟨.ref C::us,kw⟩)) :=
 ⟨r.hd,by have:=r.dp; rw [aQL]; omega,by have:=r.un; rw [aXG]; omega⟩
theorem Room.depth {k:Nat} {A:Around} (r:Room k A):A.depth<recursionLimit:=by have:=r.dp; omega
theorem Room.units {k:Nat} {A:Around} (r:Room k A):A.units+64<cLine:=by have:=r.un; omega
theorem Room.units0 {k:Nat} {A:Around} (r:Room k A):A.units<cLine:=by have:=r.un; omega
def bQ1:TA:=λ_ H Q=>Q [] H
def aZC (ta:TE) (tr:TA):TA:=λσ H Q=>ta σ H λx H1=>tr σ H1 λxs H2=>Q (x::xs) H2
section
variable {X:Cx} {e:Expr} {es:List Expr} {te:TE} {t:TA} {pos:Pos}
theorem aD:PA X [] bQ1:=λ_ _ _ _ H Q I h=>Calls.spliced_nil ⟨[],H,I,.nil,h⟩
theorem aA (ha:PE X e te) (hr:PA X es t) (hs:starEach (e::es) X.env=(false,eval e X.env)::starEach es X.env:=by rfl):PA X (e::es) (aZC te t):=by
 intro pos pins s σ H Q I h;rw [hs];show wpAny _ _ (spliced ((false,eval e X.env)::backTo pos (starEach es X.env))) _ _ s
 refine Calls.spliced_cons (thn (ha pins s σ H _ I h) λu s1 ⟨x,H1,I1,r1,q1⟩=>?_);exact thn (hr pos pins s1 σ H1 _ I1 q1) λus s2 ⟨xs,H2,I2,r2,q2⟩=>⟨x::xs,H2,I2,.cons r1 r2,q2⟩
def eXH (t:TA):TE:=λσ H Q=>t σ H λxs H1=>xs.length<=sizeLine/\∀ p,H1 p=none->Q (.ref p) (upd H1 p (.tup xs))
def eXF (t:TA):TE:=λσ H Q=>t σ H λxs H1=>xs.length<=sizeLine/\∀ p,H1 p=none->Q (.ref p) (upd H1 p (.lst xs))
theorem kK {x1} (h:PA X es t):PE X (.Tuple es x1 pos) (eXH t):=by
 intro pins s σ H Q I hq;refine wpAny_Tuple_spliced (thn (h pos pins s σ H _ I hq) λus s1 ⟨xs,H1,I1,r,z,q⟩=>⟨by rw [<-r.length]; exact z,?_⟩)
 have hf:H1 s1.heap.objs.size=none:=I1.hok.fresh (Ag _)
 refine ⟨.ref s1.heap.objs.size,upd H1 s1.heap.objs.size (.tup xs),I1.laid (t':=s1.toks) (λb u e=>Ad _ e) (Ag _) ?_,rfl,q _ hf⟩;exact ⟨z,us,r,⟨_,Ar _ rfl,rfl,_,rfl⟩⟩
theorem bJ (h:PA X es t):PE X (.List es pos) (eXF t):=by
 intro pins s σ H Q I hq;refine wpAny_List_spliced (thn (h pos pins s σ H _ I hq) λus s1 ⟨xs,H1,I1,r,z,q⟩=>⟨by rw [<-r.length]; exact z,?_⟩)
 have hf:H1 s1.heap.objs.size=none:=I1.hok.fresh (Ag _)
 refine ⟨.ref s1.heap.objs.size,upd H1 s1.heap.objs.size (.lst xs),I1.laid (t':=s1.toks) (λb u e=>Ad _ e) (Ag _) ?_,rfl,q _ hf⟩;exact ⟨z,us,0,r,Ar _ rfl⟩
end
abbrev Sp:=List V->Hp->VK->XK->Prop
abbrev CXT:=List Env->Hp->Shared->XK->Value->Shared->Prop
structure Env0 (P:Program) (w:World) (K:PySem.W.Frag) (mg:Str->Option Value) (base:Heap) (A:Around) (outer:List Env) (s:Shared) (H:Hp):Prop where
 frames:A.frames=some outer
 mod:Mod K mg base
 bs:∀ b o,base.get? b=some o->s.heap.get? b=some o/\H b=none
 bsz:base.objs.size<=s.heap.objs.size
 funs:s.heap.FunFrames base outer
 frf:∀ b∈frs outer,H b=none
 hok:HOk P w H s.heap
 bare:AllBare s.gens
def CE (outer:List Env) (P:Program) (w:World) (H:Hp) (s:Shared) (Q:VK) (u:Value) (s':Shared):Prop :=
 ∃ v H',s'.os=s.os/\AllBare s'.gens/\Un (frs outer) [] H H' s.heap s'.heap/\HOk P w H' s'.heap/\RelV v u/\Q v H'
def CR (CX:CXT) (outer:List Env) (P:Program) (w:World) (H:Hp) (s:Shared) (Q:VK) (E:XK) (r:Result) (s':Shared):Prop :=
 match r with
 | .ok (.ret u)=>CE outer P w H s Q u s'
 | .ok _=>False
 | .error e=>CX outer H s E e s'
structure FnOk (P:Program) (w:World) (K:PySem.W.Frag) (mg:Str->Option Value) (base:Heap) (CX:CXT) (k:Nat) (f:Addr) (fd:FuncData) (ps:List Str) (sp:Sp):Prop where
 len:∀ vs H Q E,sp vs H Q E->vs.length=ps.length
 run:∀ (A:Around) (outer:List Env) (s:Shared) (H:Hp) (args:Args) (us:List Value) (vs:List V) (Q:VK) (E:XK),Room k A->Env0 P w K mg base A outer s H->BindsTo s fd args (ps.zip us)->Vals vs us->sp vs H Q E->
   codeAny (model P w) A (.call (.ref f) args) (CR CX outer P w H s Q E) s
theorem FnOk.mono {P:Program} {w:World} {K:PySem.W.Frag} {mg:Q3} {base:Heap} {CX:CXT} {j k:Nat} {f:Addr} {fd:FuncData} {ps:List Str} {sp:Sp} (F:FnOk P w K mg base CX j f fd ps sp) (h:j<=k) :
   FnOk P w K mg base CX k f fd ps sp:=⟨F.len,λA outer s H args us vs Q E hr=>F.run A outer s H args us vs Q E (hr.mono h)⟩
theorem FnOk.imp {P:Program} {w:World} {K:PySem.W.Frag} {mg:Q3} {base:Heap} {CX:CXT} {k:Nat} {f:Addr} {fd:FuncData} {ps:List Str} {sp sp':Sp} (F:FnOk P w K mg base CX k f fd ps sp)
   (h:∀ vs H Q E,sp' vs H Q E->sp vs H Q E):FnOk P w K mg base CX k f fd ps sp' :=
 ⟨λvs H Q E q=>F.len vs H Q E (h _ _ _ _ q),λA outer s H args us vs Q E hr he hb hv hs=>F.run A outer s H args us vs Q E hr he hb hv (h _ _ _ _ hs)⟩
theorem Env0.make {P:Program} {w:World} {K:PySem.W.Frag} {mg:Q3} {base:Heap} {A:Around} {outer:List Env} {s:Shared} {H:Hp} (e:Env0 P w K mg base A outer s H) (C:Addr) (us:List Value) (kw:List (Str×Value)) :
   Env0 P w K mg base (A.under (.builtin "type.__call__" ⟨.ref C::us,kw⟩)) outer s H:=⟨by first | exact e.frames | (simpa [Around.under,Code.envs,Code.isFrame,pushEnvs] using e.frames),e.mod,e.bs,e.bsz,e.funs,e.frf,e.hok,e.bare⟩
theorem Env0.in1 {P:Program} {w:World} {K:PySem.W.Frag} {mg:Q3} {base:Heap} {A:Around} {outer:List Env} {s:Shared} {H:Hp} (e:Env0 P w K mg base A outer s H) :
   Env0 P w K mg base A.in1 outer s H:=⟨e.frames,e.mod,e.bs,e.bsz,e.funs,e.frf,e.hok,e.bare⟩
section
variable {X:Cx} {pins:Q2} {σ:St} {H:Hp} {s s':Shared}
theorem Inv.env0 (I:Inv X pins σ H s):Env0 X.prog X.w X.K X.mg X.base X.A X.stack s H :=
 ⟨I.ok.frames,I.ok.mod,I.bs,Bv I.ok.bsz I.sz,I.stack,I.stkFree,I.hok,I.bare⟩
theorem Inv.after {Q:VK} {u:Value} (I:Inv X pins σ H s) (h:CE X.stack X.prog X.w H s Q u s'):EP X pins σ Q u s':=by
 obtain ⟨v,H',os,bare,un,hok,r,q⟩:=h;obtain ⟨hh,g,d,t,os'⟩:=s';obtain rfl:os'=s.os:=os;exact ⟨v,H',I.call (h':=hh) (g':=g) (d':=d) (t':=t) (ch:=[]) un hok bare (λb z=>absurd z (by simp)),r,q⟩
end
def aXS (sp:Sp) (dvs:List V) (E:XK) (t:TA):TE:=λσ H Q=>t σ H λvs H1=>sp (vs++dvs) H1 Q E
def tG (C:Addr) (m:Str) (sp:Sp) (dvs:List V) (E:XK) (ta:TE) (t:TA):TE:=λσ H Q=>ta σ H λx H1=>∃ a dx fs,x=.ref a/\H1 a=some (.ins C dx fs)/\fs.lookup m=none/\
 t σ H1 λvs H2=>sp (x::(vs++dvs)) H2 Q E
def bQ5 (C:Addr) (sp:Sp) (dvs:List V) (E:XK) (t:TA):TE:=λσ H Q=>t σ H λvs H1=>∀ x dx,H1 x=none->H1 dx=none->dx≠x->
 sp (.ref x::(vs++dvs)) (upd (upd H1 dx (.own x)) x (.ins C dx [])) (λv H2=>v=.non/\Q (.ref x) H2) E
def Binds (K:PySem.W.Frag) (fd:FuncData) (ps:List Str) (ds:List Value):Prop :=
 ∀ (s:Shared) (us:List Value),K.In s.heap->(us++ds).length=ps.length->BindsTo s fd ⟨us,[]⟩ (ps.zip (us++ds))
theorem Binds.all {K:PySem.W.Frag} {fd:FuncData} {ps:List Str} (h:∀ us:List Value,us.length=ps.length->bindArgs fd ⟨us,[]⟩=pure (ps.zip us)):Binds K fd ps []:=λs us _ hl=>by
 rw [Br] at hl ⊢;exact .of_eq (h us hl)
def fH (CX:CXT) (X:Cx) (E:XK):Prop:=∀ (pins:List (Addr×Obj)) (σ:St) (H:Hp) (s:Shared) (e:Value) (s':Shared),Inv X pins σ H s->CX X.stack H s E e s'->X.xe e s'
section
variable {X:Cx} {CX:CXT} {k:Nat} {f C:Addr} {fd:FuncData} {ps:List Str} {sp:Sp} {dvs:List V} {ds:List Value} {E:XK} {x m:Str} {p pos apos:Pos} {e o:Expr} {es:List Expr} {ta:TE} {t:TA}
theorem aQO {pins:Q2} {σ:St} {H:Hp} {s:Shared} {Q:VK} {us:List Value} {vs:List V} (F:FnOk X.prog X.w X.K X.mg X.base CX k f fd ps sp) (hr:Room k X.A) (hb:Binds X.K fd ps ds) (hd:Vals dvs ds) (hx:fH CX X E)
   (I:Inv X pins σ H s) (r:Vals vs us) (h:sp (vs++dvs) H Q E):wpAny (model X.prog X.w) X.A (call (.ref f) us) (EP X pins σ Q) X.xe s:=by
 have r2:Vals (vs++dvs) (us++ds):=r.append hd
 have hl:(us++ds).length=ps.length:=by rw [<-r2.length]; exact F.len _ _ _ _ h
 refine Ek (Ei (F.run X.A X.stack s H ⟨us,[]⟩ (us++ds) (vs++dvs) Q E hr I.env0 (hb s us I.kIn hl) r2 h) λr s' hq=>?_);cases r with
 | error e=>exact hx pins σ H s e s' I hq
 | ok fl=>
   cases fl with
   | ret u=>exact I.after hq
   | next=>exact False.elim hq
   | brk=>exact False.elim hq
   | cont=>exact False.elim hq
theorem aX2 (F:FnOk X.prog X.w X.K X.mg X.base CX k f fd ps sp) (hr:Room k X.A) (hg:Gl X x) (hm:X.mg x=some (.ref f)) (hk:PySem.W.keepIn X.K (.ref f)=true) (hb:Binds X.K fd ps ds) (hd:Vals dvs ds) (hx:fH CX X E)
   (ha:PA X (e::es) t) (hdb:(x == ("__debug__" : Str))=false:=by decide) (he:starEach (e::es) X.env=(false,eval e X.env)::starEach es X.env:=by rfl) (hpl:(backTo pos (starEach es X.env)).any (·.1)=false:=by rfl) :
   PE X (.Call (.Name x p) (e::es) [] pos) (aXS sp dvs E t):=by
 intro pins s σ H Q I h;refine Cz (eD I hg hm ?_ hdb);refine Ef (h₀:=X.base) I.ok.mod.kin hk (thn (ha pos pins s σ H _ I h) λus s1 ⟨vs,H1,I1,r,q⟩=>⟨I1.kIn,?_⟩) he hpl;exact aQO F hr hb hd hx I1 r q
theorem aZA {pl:Sem Bool} (he:PE X o ta) (c:Cls X.K C) (hm:Meth X.K C m f) (F:FnOk X.prog X.w X.K X.mg X.base CX k f fd ps sp) (hr:Room k X.A) (hb:Binds X.K fd ps ds) (hd:Vals dvs ds) (hx:fH CX X E) (ha:PA X (e::es) t)
   (hst:starEach (e::es) X.env=(false,eval e X.env)::starEach es X.env:=by rfl) (hpl:(backTo pos (starEach es X.env)).any (·.1)=false:=by rfl)
   (ht:eval (.Call (.Attribute o m apos) (e::es) [] pos) X.env=(do
     let ov <-eval o X.env
     standAt apos.atName
     let (f,first) <-holding [ov] (getMethod ov m pl)
     callWith pos f first (backTo pos (starEach (e::es) X.env)) (backToKw pos (keywordEach [] X.env))):=by rfl) :
   PE X (.Call (.Attribute o m apos) (e::es) [] pos) (tG C m sp dvs E ta t):=by
 intro pins s σ H Q I h;refine Eg (pl:=pl) (thn (he pins s σ H _ I h) λu s1 ⟨x,H1,I1,rx,a,dx,fs,ex,ea,l,q⟩=>?_) ht;subst ex;obtain rfl:u=Value.ref a:=rx;refine jP I1 ea c hm l ?_;refine Ef (first:=[.ref a]) (h₀:=X.base) I.ok.mod.kin hm.kp (thn (ha pos pins s1 σ H1 _ I1 q) λus s2 ⟨vs,H2,I2,r,q2⟩=>⟨I2.kIn,?_⟩) hst hpl
 exact aQO (us:=.ref a::us) (vs:=.ref a::vs) F hr hb hd hx I2 (.cons rfl r) q2
theorem bJ9 {pl:Sem Bool} (he:PE X o ta) (c:Cls X.K C) (hm:Meth X.K C m f) (F:FnOk X.prog X.w X.K X.mg X.base CX k f fd ps sp) (hr:Room k X.A) (hb:Binds X.K fd ps ds) (hd:Vals dvs ds) (hx:fH CX X E)
   (ht:eval (.Call (.Attribute o m apos) [] [] pos) X.env=(do
     let ov <-eval o X.env
     standAt apos.atName
     let (f,first) <-holding [ov] (getMethod ov m pl)
     callWith pos f first (backTo pos (starEach [] X.env)) (backToKw pos (keywordEach [] X.env))):=by rfl) :
   PE X (.Call (.Attribute o m apos) [] [] pos) (tG C m sp dvs E ta bQ1):=by
 intro pins s σ H Q I h;refine Eg (pl:=pl) (thn (he pins s σ H _ I h) λu s1 ⟨x,H1,I1,rx,a,dx,fs,ex,ea,l,q⟩=>?_) ht;subst ex;obtain rfl:u=Value.ref a:=rx;refine jP I1 ea c hm l ?_;exact PySem.W.callWith_K0 (first:=[.ref a]) I1.kIn hm.kp (aQO (us:=[.ref a]) (vs:=[.ref a]) F hr hb hd hx I1 (.cons rfl .nil) q)
structure Mk (K:PySem.W.Frag) (C f:Addr):Prop where
 makes:PySem.W.makesIn K C=true
 init:PySem.W.findIn K (.ref C) "__init__"=some (some (.ref f))
 fn:PySem.W.isFn K (.ref f)=true
 kp:PySem.W.keepIn K (.ref C)=true
theorem bZN {pins:Q2} {σ:St} {H:Hp} {s:Shared} {Q:VK} {us:List Value} {vs:List V} (M:Mk X.K C f) (F:FnOk X.prog X.w X.K X.mg X.base CX k f fd ps sp) (hr:Room (k+1) X.A) (hb:Binds X.K fd ps ds) (hd:Vals dvs ds)
   (hx:fH CX X E) (I:Inv X pins σ H s) (r:Vals vs us)
   (h:∀ x dx,H x=none->H dx=none->dx≠x->sp (.ref x::(vs++dvs)) (upd (upd H dx (.own x)) x (.ins C dx [])) (λv H2=>v=.non/\Q (.ref x) H2) E) :
   wpAny (model X.prog X.w) X.A (call (.ref C) us) (EP X pins σ Q) X.xe s:=by
 have hq:=h (s.heap.objs.size+1) s.heap.objs.size (I.hok.fresh (Nat.le_succ _)) (I.hok.fresh (Ag _)) (Ay (Nat.lt_succ_self _))
 have I2:=Inv.made (C:=C) I
 have r2:Vals (V.ref (s.heap.objs.size+1)::(vs++dvs)) (Value.ref (s.heap.objs.size+1)::(us++ds)):=.cons rfl (r.append hd)
 have hl:(Value.ref (s.heap.objs.size+1)::us++ds).length=ps.length:=by
   have e:=r2.length
   rw [F.len _ _ _ _ hq] at e;exact e.symm
 refine Ek (xN (f:=f) I.kIn M.makes M.init (Ez.mp M.fn) (Ei (F.run _ X.stack _ _ ⟨Value.ref (s.heap.objs.size+1)::us,[]⟩ (Value.ref (s.heap.objs.size+1)::(us++ds)) _ _ E (hr.make C us [])
   (I2.env0.make C us []) (hb _ (Value.ref (s.heap.objs.size+1)::us) I2.kIn hl) r2 hq) λr s' hq'=>?_))
 cases r with
 | error e=>exact hx pins σ _ _ e s' I2 hq'
 | ok fl=>
   cases fl with
   | ret u=>
     obtain ⟨v,H',I3,rv,ev,q3⟩:=I2.after hq';subst ev;exact ⟨rv,⟨V.ref (s.heap.objs.size+1),H',I3,rfl,q3⟩⟩
   | next=>exact False.elim hq'
   | brk=>exact False.elim hq'
   | cont=>exact False.elim hq'
theorem cQH (M:Mk X.K C f) (F:FnOk X.prog X.w X.K X.mg X.base CX k f fd ps sp) (hr:Room (k+1) X.A) (hg:Gl X x) (hm:X.mg x=some (.ref C)) (hb:Binds X.K fd ps ds) (hd:Vals dvs ds) (hx:fH CX X E)
   (ha:PA X (e::es) t) (hdb:(x == ("__debug__" : Str))=false:=by decide) (he:starEach (e::es) X.env=(false,eval e X.env)::starEach es X.env:=by rfl) (hpl:(backTo pos (starEach es X.env)).any (·.1)=false:=by rfl) :
   PE X (.Call (.Name x p) (e::es) [] pos) (bQ5 C sp dvs E t):=by
 intro pins s σ H Q I h;refine Cz (eD I hg hm ?_ hdb);refine Ef (h₀:=X.base) I.ok.mod.kin M.kp (thn (ha pos pins s σ H _ I h) λus s1 ⟨vs,H1,I1,r,q⟩=>⟨I1.kIn,?_⟩) he hpl;exact bZN M F hr hb hd hx I1 r q
end
def PK (X:Cx) (kws:List Keyword) (t:TA):Prop :=
 ∀ (pos:Pos) (pins:Q2) (s:Shared) (σ:St) (H:Hp) (Q:List V->Hp->Prop),Inv X pins σ H s->t σ H Q->wpAny (model X.prog X.w) X.A (evalAll ((backToKw pos (keywordEach kws X.env)).map (·.2))) (AP X pins σ Q) X.xe s
section
variable {X:Cx} {CX:CXT} {k:Nat} {f C:Addr} {fd:FuncData} {ps ks:List Str} {sp:Sp} {E:XK} {x m:Str} {p pos apos kpos:Pos} {e o:Expr} {es:List Expr} {kws:List Keyword} {te ta:TE} {t tk:TA} {nm:Option Str}
theorem aQW:PK X [] bQ1:=λ_ _ _ _ H Q I h=>wpAny_evalAll_nil ⟨[],H,I,.nil,h⟩
theorem uR (ha:PE X e te) (hr:PK X kws t):PK X (⟨nm,e,kpos⟩::kws) (aZC te t):=by
 intro pos pins s σ H Q I h;show wpAny _ _ (evalAll ((do let v <-eval e X.env; standAt pos; pure v)::(backToKw pos (keywordEach kws X.env)).map (·.2))) _ _ s
 refine wpAny_evalAll_cons (Ac (thn (ha pins s σ H _ I h) λu s1 ⟨x,H1,I1,r1,q1⟩=>Ac (Ea (Ao ?_))));exact thn (hr pos pins s1 σ H1 _ I1 q1) λus s2 ⟨xs,H2,I2,r2,q2⟩=>⟨x::xs,H2,I2,.cons r1 r2,q2⟩
variable {g:List Value->List Value->List Value} {gV:List V->List V->List V}
end
structure FnScope (N P:List Str) (sc:Scope):Prop where
 kind:sc.kind=.function
 co:sc.isCoroutine=false
 gen:sc.isGenerator=false
 nd:N.Nodup
 pre:N.take P.length=P
 par:∀ x∈P,sc.names.lookup x=some .local\/sc.names.lookup x=some .cell
 nofree:∀ y∈sc.names,y.2≠.free
theorem sQ {kindOf:Str->Option NameKind} {x:Str}:∀ {binds:List (Str×Value)} {m:Q3},(∀ v,(x,v) ∉ binds)->bindL kindOf binds m x=m x
 | [],_,_=>rfl
 | (n,v)::r,m,h=>by
   unfold bindL;rw [sQ λw hw=>h w (Ah _ hw)];split
   · have:x≠n:=by rintro rfl; exact h v Ai
     simp [this]
   · rfl
theorem sU {kindOf:Str->Option NameKind} {x:Str}:∀ {binds:List (Str×Value)} {m:Q3},(∀ v,(x,v) ∉ binds)->bindC kindOf binds m x=m x
 | [],_,_=>rfl
 | (n,v)::r,m,h=>by
   unfold bindC;rw [sU λw hw=>h w (Ah _ hw)];split
   · rfl
   · have:x≠n:=by rintro rfl; exact h v Ai
     simp [this]
theorem uH {kindOf:Str->Option NameKind} {x:Str} {v:Value}:∀ {P:List Str} {vs:List Value} {i:Nat} {m:Q3},P.Nodup->P[i]?=some x->vs[i]?=some v->kindOf x=some .local->
   bindL kindOf (P.zip vs) m x=some v
 | [],_,_,_,_,h,_,_=>by simp at h
 | _::_,[],_,_,_,_,h,_=>by simp at h
 | p::P,w::vs,0,m,nd,h1,h2,hk=>by
   simp at h1 h2; subst h1; subst h2;show bindL kindOf ((p,w)::P.zip vs) m p=_
   unfold bindL;rw [sQ λv hv=>(Fw.mp nd).1 (List.of_mem_zip hv).1,if_pos hk];simp
 | p::P,w::vs,i+1,m,nd,h1,h2,hk=>by
   show bindL kindOf ((p,w)::P.zip vs) m x=_
   unfold bindL;exact uH (i:=i) (List.nodup_cons.mp nd).2 (by simpa using h1) (by simpa using h2) hk
theorem tN {kindOf:Str->Option NameKind} {x:Str} {v:Value}:∀ {P:List Str} {vs:List Value} {i:Nat} {m:Q3},P.Nodup->P[i]?=some x->vs[i]?=some v->kindOf x≠some .local->
   bindC kindOf (P.zip vs) m x=some v
 | [],_,_,_,_,h,_,_=>by simp at h
 | _::_,[],_,_,_,_,h,_=>by simp at h
 | p::P,w::vs,0,m,nd,h1,h2,hk=>by
   simp at h1 h2; subst h1; subst h2;show bindC kindOf ((p,w)::P.zip vs) m p=_
   unfold bindC;rw [sU λv hv=>(Fw.mp nd).1 (List.of_mem_zip hv).1,if_neg hk];simp
 | p::P,w::vs,i+1,m,nd,h1,h2,hk=>by
   show bindC kindOf ((p,w)::P.zip vs) m x=_
   unfold bindC;exact tN (i:=i) (List.nodup_cons.mp nd).2 (by simpa using h1) (by simpa using h2) hk
def mK (N:List Str) (vs:List V):St:=vs.map some++List.replicate (N.length - vs.length) none
def gU (CX:CXT) (P:Program) (w:World) (K:PySem.W.Frag) (mg:Str->Option Value) (base:Heap) (N:List Str) (qual:Str) (scope:Scope) (f:Addr) (cd:Value) (A:Around) (outer:List Env) (s:Shared) (H:Hp) (E:XK):Cx where
 prog:=P
 w:=w
 K:=K
 mg:=mg
 base:=base
 A:=A.deeper (envOfC qual scope s.heap.objs.size f cd)
 N:=N
 s₀:=s
 H₀:=H
 env:=envOfC qual scope s.heap.objs.size f cd
 outer:=outer
 stack:=envOfC qual scope s.heap.objs.size f cd::outer
 ex:=[]
 calm:=true
 fn:=λ_=>true
 pn:=[]
 xe:=λe s'=>wpAny (model P w) (A.deeper (envOfC qual scope s.heap.objs.size f cd)) (leaving (envOfC qual scope s.heap.objs.size f cd) e) (λ_ s''=>CX outer H s E e s'') (λe' s''=>CX outer H s E e' s'') s'
theorem fW {sc:Scope} {n:Nat} {x:Str} (h:sc.names.lookup x=some .cell):∃ c,(cellsFrom n sc.names []).lookup x=some c:=by
 have q:=PySem.W.cellsFrom_some sc.names n [] (.inl h)
 exact Dt.mp q
theorem aJM {CX:CXT} {P:Program} {w:World} {K:PySem.W.Frag} {mg:Q3} {base:Heap} {N ps:List Str} {qual:Str} {scope:Scope} {f:Addr} {cd:Value} {A:Around} {outer:List Env} {s s1:Shared} {H:Hp} {E:XK} {us:List Value} {vs:List V}
   (S:FnScope N ps scope) (hd:A.handled=none) (e0:Env0 P w K mg base A outer s H) (hl:vs.length=ps.length) (r:Vals vs us)
   (x:InCallC s s.heap.objs.size (bindL (envOfC qual scope s.heap.objs.size f cd).kindOf (ps.zip us) λ_=>none) (cellsFrom (s.heap.objs.size+1) scope.names []) (bindC (envOfC qual scope s.heap.objs.size f cd).kindOf (ps.zip us) λ_=>none) s1) :
   Inv (gU CX P w K mg base N qual scope f cd A outer s H E) [] (mK N vs) H s1:=by
 have hpl:ps.length<=N.length:=by have:=Dm List.length S.pre; rw [Ba] at this; omega
 obtain ⟨h1,tk,rfl,hk⟩:=x.done;have noA:∀ b:Addr,b ∉ (gU CX P w K mg base N qual scope f cd A outer s H E).ex:=λb z=>absurd (show b ∈ ([]:List Addr) from z) (by simp)
 refine ⟨⟨e0.mod,S.kind,rfl,rfl,Ag _,λy z c h1 h2=>?_,λy hy=>?_,λy c _ h=>?_,λ_=>hd,Around.frames_deeper e0.frames,.inr ⟨rfl,rfl⟩,λb z=>absurd z (noA b),e0.bs,e0.bsz,λb _ _=>noA b,λb z=>absurd z (noA b),e0.funs,e0.frf⟩,
   rfl,e0.bare,Un.kept hk,⟨_,x.toInCall.ns,λi y v h1 h2 h3=>?_⟩,λy c h=>⟨_,x.cell y c h⟩,e0.hok.fresh (Nat.le_refl _),λy c h=>?_,λp hp=>absurd (show p∈([]:Q2) from hp) (by simp),e0.hok.kept hk,?_⟩
 · exact name_of_addr x.apart (Cr h1) (Cr h2)
 · have hy:scope.names.lookup y=some .cell\/scope.names.lookup y=some .free:=hy
   rcases hy with hy | hy
   · exact fW hy
   · exact absurd rfl (S.nofree _ (Cr hy))
 · exact Nat.le_of_lt (x.above y c (Cr h))
 · have hi:i<vs.length:=by
     unfold mK at h2;by_cases hi:i<vs.length
     · exact hi
     · rw [List.getElem?_append_right (by simpa using hi)] at h2
       rw [Gc] at h2;split at h2 <;> cases h2
   have ha:vs[i]?=some v:=by
     unfold mK at h2;rw [List.getElem?_append_left (by simpa using hi),List.getElem?_map] at h2
     cases e:vs[i]? with
     | none=>rw [e] at h2; cases h2
     | some a=>rw [e] at h2; cases h2; rfl
   obtain ⟨u,hu,rv⟩:=r.get ha;have hp:ps[i]?=some y:=by
     rw [<-S.pre,List.getElem?_take_of_lt (by omega)]; exact h1
   have ndP:ps.Nodup:=by rw [<-S.pre]; exact S.nd.sublist (List.take_sublist _ _)
   refine ⟨u,rv,?_⟩;rcases S.par y (Ap hp) with k | k
   · exact .inl ⟨k,uH ndP hp hu k⟩
   · obtain ⟨c,e⟩:=fW (n:=s.heap.objs.size+1) k;refine .inr ⟨.inl k,c,e,?_⟩;have q:=x.cell y c e
     rw [tN ndP hp hu (by show scope.names.lookup y≠_; rw [k]; decide)] at q
     exact q
 · exact e0.hok.fresh (Nat.le_of_lt (x.above y c (Cr h)))
 · unfold mK;show _=N.length
   rw [Aj,Ab,Ca];omega
theorem dQA {CX:CXT} {P:Program} {w:World} {K:PySem.W.Frag} {mg:Q3} {base:Heap} {k:Nat} {f:Addr} {name qual:Str} {params:Arguments} {body:List Stmt} {scope:Scope} {dV kV doc pm cdv ct oc:Value} {an od:Option Addr}
   {osl:Array (Option Value)} {N ps:List Str} {sp:Sp} (lk:K.lookup f=some ⟨oc,od,.func (PySem.W.fnOf name qual params body scope dV kV doc pm an cdv ct),osl⟩) (hcd:PySem.W.codeIn K cdv qual=true) (S:FnScope N ps scope)
   (len:∀ vs H Q E,sp vs H Q E->vs.length=ps.length)
   (hbody:∀ (A:Around) (outer:List Env) (s:Shared) (H:Hp) (vs:List V) (Q:VK) (E:XK),Room k (A.deeper (envOfC qual scope s.heap.objs.size f cdv))->sp vs H Q E->
     ∃ t,PSs (gU CX P w K mg base N qual scope f cdv A outer s H E) body t/\t { nx:=λ_ H'=>Q .non H',rt:=Q } (mK N vs) H) :
   FnOk P w K mg base CX (k+1) f (PySem.W.fnOf name qual params body scope dV kV doc pm an cdv ct) ps sp:=by
 refine ⟨len,λA outer s H args us vs Q E hr e0 hb r hsp=>?_⟩;have hl:=len _ _ _ _ hsp
 have KX:K.In s.heap:=e0.mod.kin.keeps λb o e=>(e0.bs b o e).1
 have lim:s.heap.NoLimit:=e0.mod.nolimit.keeps λb o e=>(e0.bs b o e).1
 have hkind:∀ y∈ps.zip us,scope.names.lookup y.1=some .local\/(scope.names.lookup y.1=some .cell/\((cellsFrom (s.heap.objs.size+1) scope.names []).lookup y.1).isSome=true):=λ⟨n,v⟩ hy=>by
   rcases S.par n (List.of_mem_zip hy).1 with q | q
   · exact .inl q
   · exact .inr ⟨q,PySem.W.cellsFrom_some _ _ _ (.inl q)⟩
 refine codeAny_call_function hr.depth (KX _ _ lk) rfl S.co S.gen rfl (PySem.W.codeRec_of KX hcd) (hb _ _ _ _ ?_);refine wpAny_newFunctionEnv_cells S.kind hkind λenv he s1 x=>?_;subst he;refine ⟨lim.keeps x.toInCall.keep,codeAny_func ?_⟩;obtain ⟨t,ht,hq⟩:=hbody A outer s H vs Q E (hr.deeper _) hsp;have I:Inv (gU CX P w K mg base N qual scope f cdv A outer s H E) [] (mK N vs) H s1:=aJM S hr.hd e0 hl r x
 refine Bo (ht [] s1 (mK N vs) H _ I hq) (λfl s' hs=>?_) λe s' hs=>hs;have fin:∀ {σ':St} {H':Hp} {v:V} {u:Value},Inv (gU CX P w K mg base N qual scope f cdv A outer s H E) [] σ' H' s'->RelV v u->Q v H'->CE outer P w H s Q u s' :=
   fun {σ' H' v u} J rv q=>⟨v,H',J.os,J.bare,J.base,J.hok,rv,q⟩
 cases fl with
 | ret u=>
   obtain ⟨v,σ',H',J,rv,q⟩:=hs;exact fin J rv q
 | next=>
   obtain ⟨σ',H',J,q⟩:=hs;exact fin (v:=V.non) (u:=Value.none) J rfl q
 | brk=>
   obtain ⟨_,_,_,q⟩:=hs;exact False.elim q
 | cont=>
   obtain ⟨_,_,_,q⟩:=hs;exact False.elim q
end L2
namespace L2
open PySem PySem.Spec PyProof.Rows
section
variable {X:Cx} {x:Str} {p pos:Pos} {e:Expr} {es:List Expr} {t:TA} {id T:String} {r:List V->Hp->VK->Prop}
def tCB (r:List V->Hp->VK->Prop) (t:TA):TE:=λσ H Q=>t σ H λvs H1=>r vs H1 Q
theorem bD (hc:CallR X (.builtin id) r) (hg:Gl X x) (hm:X.mg x=none) (hv:bootBuiltins x=some (.builtin id)) (ha:PA X (e::es) t) (hn:x≠"__name__" := by decide) (hdb:(x == ("__debug__" : Str))=false:=by decide)
   (he:starEach (e::es) X.env=(false,eval e X.env)::starEach es X.env:=by rfl) (hpl:(backTo pos (starEach es X.env)).any (·.1)=false:=by rfl):PE X (.Call (.Name x p) (e::es) [] pos) (tCB r t):=by
 intro pins s σ H Q I h;refine Cz (mE I hg hm hv ?_ hn hdb);exact PyProof.Rows.callWith_builtin1 (thn (ha pos pins s σ H _ I h) λus s1 ⟨vs,H1,I1,r1,q1⟩=>hc pins s1 σ H1 vs us Q I1 r1 q1) he hpl
theorem cA (hc:CallR X (.type T) r) (hg:Gl X x) (hm:X.mg x=none) (hv:bootBuiltins x=some (.type T)) (ha:PA X (e::es) t) (hn:x≠"__name__" := by decide) (hdb:(x == ("__debug__" : Str))=false:=by decide)
   (he:starEach (e::es) X.env=(false,eval e X.env)::starEach es X.env:=by rfl) (hpl:(backTo pos (starEach es X.env)).any (·.1)=false:=by rfl):PE X (.Call (.Name x p) (e::es) [] pos) (tCB r t):=by
 intro pins s σ H Q I h;refine Cz (mE I hg hm hv ?_ hn hdb);exact Fg (thn (ha pos pins s σ H _ I h) λus s1 ⟨vs,H1,I1,r1,q1⟩=>hc pins s1 σ H1 vs us Q I1 r1 q1) he hpl
end
end L2
namespace HT
open PySem PyProof.Rows
section
open PySem.SeqAt
open PySem.AutoSeq1 (wpAny_loadPart')
open PySem.MeetsSeq PySem.MeetsSeq2 PySem.MeetsSeq3
end
section
variable {prog:Program} {w:World} {A:Around} {E:Q0} {s:Shared}
def sIx (n d:Nat):Option Int->Nat
 | none=>d
 | some v=>if v<0 then (v+(n:Int)).toNat else min v.toNat n
theorem aQ8 (n d:Nat) (hd:d<=n) (o:Option Int):sIx n d o<=n:=by
 cases o with
 | none=>exact hd
 | some v=>
   show (if v<0 then (v+(n:Int)).toNat else min v.toNat n)<=n
   by_cases hv:v<0
   · rw [if_pos hv]; omega
   · rw [if_neg hv]; exact Nat.min_le_right _ _
end
end HT
namespace L2
open PySem PySem.Spec PyProof.Rows
abbrev TO:=St->Hp->(Option Int->Hp->Prop)->Prop
def PO (X:Cx) (e:Option Expr) (t:TO):Prop :=
 ∀ (pins:Q2) (s:Shared) (σ:St) (H:Hp) (Q:Option Int->Hp->Prop),Inv X pins σ H s->t σ H Q->
   wpAny (model X.prog X.w) X.A (evalPart e X.env) (λu s'=>∃ o H',Inv X pins σ H' s'/\IsPart u o/\Q o H') X.xe s
def aXU:TO:=λ_ H Q=>Q none H
section
variable {X:Cx} {e:Expr} {te:TE} {lo hi:Option Expr} {tl th:TO} {pos p2:Pos}
theorem jF:PO X none aXU:=by
 intro pins s σ H Q I h;rw [evalPart_none];exact Ao ⟨none,H,I,.none,h⟩
def SlR (X:Cx) (r:V->Option Int->Option Int->Hp->VK->Prop):Prop :=
 ∀ (pins:Q2) (s:Shared) (σ:St) (H:Hp) (x:V) (v vl vu:Value) (lo hi:Option Int) (sl:Addr) (Q:VK),Inv X pins σ H s->RelV x v->s.heap.IsSliceOf sl vl vu .none->IsPart vl lo->IsPart vu hi->r x lo hi H Q->
   ∃ T id,typeLookup (.type T) "__getitem__"=pure (some (.builtin id))/\s.TypeIs v T/\wpAny (model X.prog X.w) X.A (getItem v (.ref sl)) (EP X pins σ Q) X.xe s
theorem SlR.or {r r':V->Option Int->Option Int->Hp->VK->Prop} (h:SlR X r) (h':SlR X r'):SlR X (λx lo hi H Q=>r x lo hi H Q\/r' x lo hi H Q):=by
 intro pins s σ H x v vl vu lo hi sl Q I rx hs pl pu q;rcases q with q | q
 · exact h pins s σ H x v vl vu lo hi sl Q I rx hs pl pu q
 · exact h' pins s σ H x v vl vu lo hi sl Q I rx hs pl pu q
def tSl (r:V->Option Int->Option Int->Hp->VK->Prop) (te:TE) (tl th:TO):TE:=λσ H Q=>te σ H λx H1=>tl σ H1 λl H2=>th σ H2 λu H3=>r x l u H3 Q
theorem gZ {r:V->Option Int->Option Int->Hp->VK->Prop} (hr:SlR X r) (he:PE X e te) (hl:PO X lo tl) (hu:PO X hi th):PE X (.Subscript e (.Slice lo hi none p2) pos) (tSl r te tl th):=by
 intro pins s σ H Q I h;refine Subscript_ (thn (he pins s σ H _ I h) λv s1 ⟨x,H1,I1,r1,q1⟩=>?_);refine wpAny_Slice (thn (hl pins s1 σ H1 _ I1 q1) λvl s2 ⟨l,H2,I2,pl,q2⟩=>thn (hu pins s2 σ H2 _ I2 q2) λvu s3 ⟨u,H3,I3,pu,q3⟩=>?_);rw [evalPart_none];refine Ao ?_;have I4:Inv X pins σ H3 { s3 with heap:=s3.heap.push { cls:=.type "slice",data:=.fields #[vl,vu,.none] } }:=I3.kept (t':=s3.toks) λb ob q=>Ad _ q
 obtain ⟨T,id,hT,ht,hg⟩:=hr pins { s3 with heap:=s3.heap.push { cls:=.type "slice",data:=.fields #[vl,vu,.none] } } σ H3 x v vl vu l u s3.heap.objs.size Q I4 r1 (Heap.IsSliceOf.new ..) pl pu q3
 show wpAny (model X.prog X.w) X.A (subscriptTail e (.Slice lo hi none p2) v (.ref s3.heap.objs.size)) (EP X pins σ Q) X.xe { s3 with heap:=s3.heap.push { cls:=.type "slice",data:=.fields #[vl,vu,.none] } }
 exact tail_any (ops:=[.ref s3.heap.objs.size,v]) ht hT hg (by with_unfolding_all rfl)
def pJ (xs:List V) (lo hi:Option Int):List V:=(xs.drop (HT.sIx xs.length 0 lo)).take (HT.sIx xs.length xs.length hi - HT.sIx xs.length 0 lo)
theorem wU (xs:List V) (lo hi:Option Int):(pJ xs lo hi).length<=xs.length:=by
 unfold pJ;rw [Ba,Ec];omega
end
end L2
namespace L2
open PySem PySem.Spec PyProof.Rows
def ixN (n:Nat) (i:Int):Option Nat:=if 0<=i then (if i<n then some i.toNat else none) else if -(n:Int)<=i then some (i+n).toNat else none
def atI {α:Type} (xs:List α) (i:Int):Option α:=(ixN xs.length i).bind λj=>xs[j]?
theorem aX1 {n:Nat} {i:Int} {j:Nat} (h:ixN n i=some j):seqIndex? i n=some j/\j<n/\-(n:Int)<=i/\i<n:=by
 unfold ixN at h;by_cases h0:0<=i
 · rw [if_pos h0] at h;by_cases h1:i<n
   · rw [if_pos h1] at h;have e:i.toNat=j:=Bm h
     exact ⟨by rw [seqIndex_of h0 h1,e],by omega,by omega,h1⟩
   · rw [if_neg h1] at h; cases h
 · rw [if_neg h0] at h;by_cases h1:-(n:Int)<=i
   · rw [if_pos h1] at h;have e:(i+n).toNat=j:=Bm h
     exact ⟨by rw [seqIndex_neg (by omega) h1,e],by omega,h1,by omega⟩
   · rw [if_neg h1] at h; cases h
theorem vD {α:Type} {xs:List α} {i:Int} {v:α} (h:atI xs i=some v):∃ j,seqIndex? i xs.length=some j/\xs[j]?=some v/\j<xs.length/\-(xs.length:Int)<=i/\i<xs.length:=by
 unfold atI at h;cases e:ixN xs.length i with
 | none=>rw [e] at h; cases h
 | some j=>
   rw [e] at h;obtain ⟨h1,h2,h3,h4⟩:=aX1 e;exact ⟨j,h1,h,h2,h3,h4⟩
theorem aS {α:Type} {xs:List α} {j:Nat} {v:α} (h:xs[j]?=some v):atI xs (j:Int)=some v:=by
 have hj:j<xs.length:=(Ae.mp h).1
 have e:ixN xs.length (j:Int)=some j:=by
   unfold ixN;rw [if_pos (by omega),if_pos (by omega)]; simp
 unfold atI; rw [e]; exact h
def cQY (b:Expr):Prop:=∀ o i,subscripted b false o i=operate [o,i] (getItem o i)
def IxR (X:Cx) (r:R2):Prop :=
 ∀ (value slice:Expr) (pins:Q2) (s:Shared) (σ:St) (H:Hp) (x y:V) (v u:Value) (Q:VK),Inv X pins σ H s->RelV x v->RelV y u->r x y H Q->
   subscripted slice false v u=operate [v,u] (getItem v u)->wpAny (model X.prog X.w) X.A (subscriptTail value slice v u) (EP X pins σ Q) X.xe s
def MtR (X:Cx) (id:String) (r:V->List V->Hp->VK->Prop):Prop :=
 ∀ (pins:Q2) (s:Shared) (σ:St) (H:Hp) (x:V) (xs:List V) (v:Value) (us:List Value) (Q:VK),Inv X pins σ H s->RelV x v->Vals xs us->r x xs H Q->
   wpAny (model X.prog X.w) X.A (call (.builtin id) (v::us)) (EP X pins σ Q) X.xe s
section
variable {X:Cx} {a b:Expr} {ta tb:TE} {pos:Pos}
theorem IxR.or {r r':R2} (h:IxR X r) (h':IxR X r'):IxR X (λx y H Q=>r x y H Q\/r' x y H Q):=by
 intro value slice pins s σ H x y v u Q I rx ry q hs;rcases q with q | q
 · exact h value slice pins s σ H x y v u Q I rx ry q hs
 · exact h' value slice pins s σ H x y v u Q I rx ry q hs
theorem MtR.or {id:String} {r r':V->List V->Hp->VK->Prop} (h:MtR X id r) (h':MtR X id r'):MtR X id (λx xs H Q=>r x xs H Q\/r' x xs H Q):=by
 intro pins s σ H x xs v us Q I rx rs q;rcases q with q | q
 · exact h pins s σ H x xs v us Q I rx rs q
 · exact h' pins s σ H x xs v us Q I rx rs q
theorem bE {r:R2} (hr:IxR X r) (ha:PE X a ta) (hb:PE X b tb) (hs:cQY b):PE X (.Subscript a b pos) (tOp r ta tb):=by
 intro pins s σ H Q I h;exact Subscript_ (dXK ha hb I h λv u s2 x y H2 I2 rx ry q=>hr a b pins s2 σ H2 x y v u Q I2 rx ry q (hs _ _))
def dZV (K:PySem.W.Frag):R2:=λx y H Q=>∃ p xs i v,x=.ref p/\y=.int i/\SqL K H p xs/\atI xs i=some v/\Q v H
def eXU (K:PySem.W.Frag):R2:=λx y H Q=>∃ p xs i v,x=.ref p/\y=.int i/\SqT K H p xs/\atI xs i=some v/\Q v H
def dJD:R2:=λx y H Q=>∃ z i c,x=.str z/\y=.int i/\z.length<=sizeLine/\atI z.cps.toList i=some c/\Q (.str ⟨#[c]⟩) H
theorem ix_list:IxR X (dZV X.K):=by
 intro value slice pins s σ H x y v u Q I rx ry h hs;obtain ⟨p,xs,i,z,rfl,rfl,hq,he,q⟩:=h;cases rx;obtain ⟨t,rfl⟩:=ry;obtain ⟨its,r,pl,hz⟩:=I.list hq;obtain ⟨j,h1,h2,h3,h4,h5⟩:=vD he;obtain ⟨w,ew,rw'⟩:=r.get h2;have hl:=r.length
 have hn:=jK
 have fin:EP X pins σ Q w s:=⟨z,H,I,rw',q⟩
 by_cases h0:0<=i
 · have hj:i.toNat=j:=by
     rw [seqIndex_of h0 h5] at h1;exact Bm h1
   exact item_listR pl.isList h0 (by omega) (by rw [hj]; simpa using ew) fin hs
 · have hj:(i+(its.toArray.size:Int)).toNat=j:=by
     rw [seqIndex_neg (by omega) h4] at h1
     rw [Av,<-hl];exact Bm h1
   exact subscriptTail_builtinR (x:=w) pl.isList.typeIs slot_list_getitem.lookup
     (wpAny_getItem_list_neg (Q:=λr s'=>r=w/\EP X pins σ Q r s') pl.isList (by omega) (by rw [List.size_toArray] <;> omega) (by omega) (by rw [hj]; simpa using ew) ⟨rfl,fin⟩) hs
theorem ix_tup:IxR X (eXU X.K):=by
 intro value slice pins s σ H x y v u Q I rx ry h hs;obtain ⟨p,xs,i,z,rfl,rfl,hq,he,q⟩:=h;cases rx;obtain ⟨t,rfl⟩:=ry;obtain ⟨its,r,pl,hz⟩:=I.tuple hq;obtain ⟨j,h1,h2,h3,h4,h5⟩:=vD he;obtain ⟨w,ew,rw'⟩:=r.get h2;have hl:=r.length
 have hn:=jK
 have fin:EP X pins σ Q w s:=⟨z,H,I,rw',q⟩
 exact subscriptTail_builtinR (x:=w) pl.typeIs slot_tuple_getitem.lookup
   (getItem_tuple (j:=j) (Q:=λr s'=>r=w/\EP X pins σ Q r s') pl (by omega) (by omega) (by rw [List.size_toArray,<-hl]; exact h1) (by simpa using ew) ⟨rfl,fin⟩) hs
theorem dZN:IxR X dJD:=by
 intro value slice pins s σ H x y v u Q I rx ry h hs;obtain ⟨z,i,c,rfl,rfl,hz,he,q⟩:=h;obtain ⟨t,rfl⟩:=rx;obtain ⟨t',rfl⟩:=ry;obtain ⟨j,h1,h2,h3,h4,h5⟩:=vD he;have hl:z.cps.toList.length=z.length:=by simp [Str.length]
 rw [hl] at h1 h4 h5;have hn:=jK
 exact tail_any (Gp s z t) slot_str_getitem.lookup (getItem_str (c:=c) (by
   have e1:decide (i < -(2 ^ 63:Int))=false:=Au (by omega)
   have e2:decide (i ≥ 2 ^ 63)=false:=Au (by omega)
   rw [e1,e2,Bool.or_false]) (by rw [h1]; simpa using h2) ⟨.str ⟨#[c]⟩,H,I.tok _,⟨_,rfl⟩,q⟩) hs
def rIx (K:PySem.W.Frag):R2:=λx y H Q=>dZV K x y H Q\/eXU K x y H Q\/dJD x y H Q
theorem ix_seq:IxR X (rIx X.K):=ix_list.or (ix_tup.or dZN)
theorem aQZ (its:List Value) (n j:Nat) (u:Value):Obj.mapSeq (·.setIfInBounds j u) { cls:=.type "list",data:=.seq its.toArray n }={ cls:=.type "list",data:=.seq (its.set j u).toArray n }:=by
 simp [Obj.mapSeq]
theorem Inv.lst {pins:Q2} {σ:St} {H:Hp} {s:Shared} {p:Addr} {xs:List V} (I:Inv X pins σ H s) (h:H p=some (.lst xs)) :
   ∃ (its:List Value) (n:Nat),Vals xs its/\s.heap.get? p=some { cls:=.type "list",data:=.seq its.toArray n }/\xs.length<=sizeLine:=by
 obtain ⟨z,its,n,r,e⟩:=I.hok p _ h;exact ⟨its,n,r,e,z⟩
theorem Inv.lstUpd {pins:Q2} {σ:St} {H:Hp} {s:Shared} {p:Addr} {xs ys:List V} {its its':List Value} {n n':Nat} {f:Obj->Obj} (I:Inv X pins σ H s) (h:H p=some (.lst xs))
   (ho:s.heap.get? p=some { cls:=.type "list",data:=.seq its.toArray n }) (hf:f { cls:=.type "list",data:=.seq its.toArray n }={ cls:=.type "list",data:=.seq its'.toArray n' }) (r:Vals ys its') (hz:ys.length<=sizeLine) (t:Nat) :
   Inv X pins σ (upd H p (.lst ys)) { s with heap:=s.heap.update p f,toks:=t }:=by
 have e:(s.heap.update p f).get? p=some { cls:=.type "list",data:=.seq its'.toArray n' }:=by
   rw [Heap.get?_update_self f ho (by rw [hf] <;> rfl),hf]
 refine I.write (x:=p) (e:=p) (by rw [h]; trivial) (.inl rfl) (λb u hb q=>(Bs _ _ (Ne.symm hb)).trans q) ⟨_,e⟩ ?_
 exact ⟨hz,its',n',r,e⟩
def cJP:V->V->V->Hp->(Hp->Prop)->Prop:=λo i v H Q=>∃ p xs k j,o=.ref p/\i=.int k/\H p=some (.lst xs)/\ixN xs.length k=some j/\Q (upd H p (.lst (xs.set j v)))
theorem yZ:eXC X cJP:=by
 intro pins s σ H o i v ov iv u Q I ro ri rv h;obtain ⟨p,xs,k,j,rfl,rfl,hp,hj,q⟩:=h;cases ro;obtain ⟨t,rfl⟩:=ri;obtain ⟨its,n,r,ho,hz⟩:=I.lst hp;obtain ⟨h1,h2,h3,h4⟩:=aX1 hj;have hl:=r.length
 have hn:=jK
 have I':Inv X pins σ (upd H p (.lst (xs.set j v))) { s with heap:=s.heap.update p (Obj.mapSeq (·.setIfInBounds j u)) } :=
   I.lstUpd hp ho (aQZ its n j u) (r.set rv j) (by rw [Dx]; exact hz) s.toks
 by_cases h0:0<=k
 · have hk:k.toNat=j:=by
     rw [seqIndex_of h0 h4] at h1;exact Bm h1
   exact PySem.W.ki_setAt ho h0 (by omega) (by rw [Av,<-hl]; exact h4) (by rw [hk]; exact ⟨_,I',q⟩)
 · have hk:(k+(its.toArray.size:Int)).toNat=j:=by
     rw [seqIndex_neg (by omega) h3] at h1
     rw [Av,<-hl];exact Bm h1
   exact PySem.W.ki_setBack ho (by omega) (by rw [Av,<-hl]; exact h3) (by omega) (by rw [hk]; exact ⟨_,I',q⟩)
theorem vV (lo hi:Option Int) (n:Nat):(sliceBounds lo hi none n).1=((HT.sIx n 0 lo:Nat):Int)/\(sliceBounds lo hi none n).2.1=((HT.sIx n n hi:Nat):Int)/\(sliceBounds lo hi none n).2.2=1:=by
 refine ⟨?_,?_,rfl⟩
 · cases lo with
   | none=>simp [sliceBounds,HT.sIx]
   | some i=>
     simp only [sliceBounds,HT.sIx,Option.getD_none,show (1:Int) > 0 by decide,if_true]
     by_cases h:i<0
     · simp only [h,if_true] <;> omega
     · simp only [h,if_false] <;> omega
 · cases hi with
   | none=>simp [sliceBounds,HT.sIx]
   | some i=>
     simp only [sliceBounds,HT.sIx,Option.getD_none,show (1:Int) > 0 by decide,if_true]
     by_cases h:i<0
     · simp only [h,if_true] <;> omega
     · simp only [h,if_false] <;> omega
theorem sG (its:List Value) (lo hi:Option Int):slicePick its.toArray lo hi none=((its.drop (HT.sIx its.length 0 lo)).take (HT.sIx its.length its.length hi - HT.sIx its.length 0 lo)).toArray:=by
 obtain ⟨h1,h2,h3⟩:=vV lo hi its.toArray.size;unfold slicePick;rw [h1,h2,h3];simp only [sliceRange_one,pick_run,List.size_toArray] <;> rfl
def eZH (K:PySem.W.Frag):V->Option Int->Option Int->Hp->VK->Prop:=λx lo hi H Q=>∃ a xs,x=.ref a/\SqL K H a xs/\∀ p,H p=none->Q (.ref p) (upd H p (.lst (pJ xs lo hi)))
theorem sl_list:SlR X (eZH X.K):=by
 intro pins s σ H x v vl vu lo hi sl Q I rx hs pl pu h;obtain ⟨a,xs,rfl,hx,q⟩:=h;cases rx;obtain ⟨its,r,ht,hz⟩:=I.list hx;have hlen:=r.length
 refine ⟨"list",_,slot_list_getitem.lookup,ht.isList.typeIs,?_⟩;refine wpAny_getItem_list_slice ht.isList hs pl pu .none (by simp) ?_ (by rw [List.size_toArray] <;> omega)
 rw [sG,<-hlen];refine ⟨.ref s.heap.objs.size,_,I.laid (t':=s.toks) (o:=.lst (pJ xs lo hi)) (λb ob q=>Ad _ q) (Ag _) ?_,rfl,q _ (I.hok.fresh (Ag _))⟩;exact ⟨Bv (wU xs lo hi) hz,_,0,(r.drop (HT.sIx xs.length 0 lo)).take (HT.sIx xs.length xs.length hi - HT.sIx xs.length 0 lo),Ar _ rfl⟩
def bO:V->Bool
 | .non=>true
 | .bl _=>true
 | .int _=>true
 | .str _=>true
 | _=>false
def eqV:V->V->Bool
 | .non,.non=>true
 | .bl a,.bl b=>a == b
 | .bl a,.int b=>(if a then 1 else 0) == b
 | .int a,.bl b=>a == (if b then 1 else 0)
 | .int a,.int b=>a == b
 | .str a,.str b=>a == b
 | _,_=>false
theorem oF {A:Around} {s:Shared} {y x:V} {u v:Value} (ry:RelV y u) (rx:RelV x v) (fy:bO y=true) (fx:bO x=true):SeqAt.EqAt A s u v (eqV y x):=by
 cases y with
 | non=>
   cases ry;cases x with
   | non=>cases rx; exact SeqAt.EqAt.same _
   | bl b=>cases rx; exact SeqAt.EqAt.none_bool b
   | int b=>obtain ⟨t,rfl⟩:=rx; exact SeqAt.EqAt.none_int b t
   | str b=>obtain ⟨t,rfl⟩:=rx; exact SeqAt.EqAt.none_str b t
   | _=>exact absurd (show false=true from fx) Al
 | bl a=>
   cases ry;cases x with
   | non=>cases rx; exact SeqAt.EqAt.bool_none a
   | bl b=>cases rx; exact SeqAt.EqAt.bool_bool a b
   | int b=>obtain ⟨t,rfl⟩:=rx; exact SeqAt.EqAt.bool_int a b t
   | str b=>obtain ⟨t,rfl⟩:=rx; exact SeqAt.EqAt.bool_str a b t
   | _=>exact absurd (show false=true from fx) Al
 | int a=>
   obtain ⟨t',rfl⟩:=ry;cases x with
   | non=>cases rx; exact SeqAt.EqAt.int_none a t'
   | bl b=>cases rx; exact SeqAt.EqAt.int_bool a t' b
   | int b=>obtain ⟨t,rfl⟩:=rx; exact SeqAt.EqAt.int_int a t' b t
   | str b=>obtain ⟨t,rfl⟩:=rx; exact SeqAt.EqAt.int_str a t' b t
   | _=>exact absurd (show false=true from fx) Al
 | str a=>
   obtain ⟨t',rfl⟩:=ry;cases x with
   | non=>cases rx; exact SeqAt.EqAt.str_none a t'
   | bl b=>cases rx; exact SeqAt.EqAt.str_bool a t' b
   | int b=>obtain ⟨t,rfl⟩:=rx; exact SeqAt.EqAt.str_int a t' b t
   | str b=>obtain ⟨t,rfl⟩:=rx; exact SeqAt.EqAt.str_str a t' b t
   | _=>exact absurd (show false=true from fx) Al
 | _=>exact absurd (show false=true from fy) Al
def eqU (x:V) (u:Value):Bool:=match u with
 | .none=>eqV .non x
 | .bool b=>eqV (.bl b) x
 | .int i _=>eqV (.int i) x
 | .str z _=>eqV (.str z) x
 | _=>false
theorem bXK {x y:V} {u:Value} (r:RelV y u) (f:bO y=true):eqU x u=eqV y x:=by
 cases y with
 | non=>cases r; rfl
 | bl b=>cases r; rfl
 | int i=>obtain ⟨t,rfl⟩:=r; rfl
 | str z=>obtain ⟨t,rfl⟩:=r; rfl
 | _=>exact absurd (show false=true from f) Al
theorem vW {x:V}:∀ {xs:List V} {us:List Value},Vals xs us->xs.all bO=true->us.any (eqU x)=xs.any λy=>eqV y x
 | _,_,.nil,_=>rfl
 | y::xs,u::us,.cons r t,f=>by
   rw [List.all_cons,Cd] at f;rw [Gv,Gv,bXK r f.1,vW t f.2]
theorem qB {A:Around} {s:Shared} {x:V} {v:Value} (rx:RelV x v) (fx:bO x=true):∀ {xs:List V} {us:List Value},Vals xs us->xs.all bO=true->∀ u∈us,SeqAt.EqAt A s u v (eqU x u)
 | _,_,.nil,_=>λu hu=>by cases hu
 | y::xs,u::us,.cons r t,f=>λu' hu=>by
   rw [List.all_cons,Cd] at f;rcases Bd.mp hu with rfl | hu
   · rw [bXK r f.1]; exact oF r rx f.1 fx
   · exact qB rx fx t f.2 u' hu
def inV (x:V) (xs:List V):Bool:=xs.any λy=>eqV y x
def rIn (K:PySem.W.Frag) (neg:Bool):R2:=λx y H Q=>∃ p xs,y=.ref p/\(SqL K H p xs\/SqT K H p xs)/\bO x=true/\xs.all bO=true/\Q (.bl (if neg then !inV x xs else inV x xs)) H
theorem op_in_seq:OpR X (compareOp .In) (rIn X.K false):=by
 intro pins s σ H x y v u Q I rx ry h;obtain ⟨p,xs,rfl,hq,fx,fs,q⟩:=h;cases ry;rcases hq with hq | hq
 · obtain ⟨its,r,pl,hz⟩:=I.list hq;refine SeqAt.in_listAt (eqU x) pl.isList (λw hw=>qB rx fx r fs w (by simpa using hw)) ⟨.bl _,H,I,rfl,?_⟩
   rw [show its.toArray.any (eqU x)=its.any (eqU x) by simp,vW r fs]
   exact q
 · obtain ⟨its,r,pl,hz⟩:=I.tuple hq;refine SeqAt.in_tupleAt (eqU x) pl (λw hw=>qB rx fx r fs w (by simpa using hw)) ⟨.bl _,H,I,rfl,?_⟩
   rw [show its.toArray.any (eqU x)=its.any (eqU x) by simp,vW r fs]
   exact q
theorem vN:CallR X (.builtin "len") (λxs H Q=>∃ p ys,xs=[.ref p]/\(SqL X.K H p ys\/SqT X.K H p ys)/\Q (.int ys.length) H):=by
 intro pins s σ H xs us Q I r h;obtain ⟨p,ys,rfl,hq,q⟩:=h;obtain ⟨u,rfl,rx⟩:=eK r;cases rx;have hn:=jK
 rcases hq with hq | hq
 · obtain ⟨its,r',pl,hz⟩:=I.list hq;have hlen:=r'.length
   exact Calls.call_len_list pl.isList (by simp only [List.size_toArray] <;> omega) ⟨.int ys.length,H,I.tok _,⟨s.toks+1,by rw [List.size_toArray,hlen]⟩,q⟩
 · obtain ⟨its,r',pl,hz⟩:=I.tuple hq;have hlen:=r'.length
   exact len_tuple pl (by simp only [List.size_toArray] <;> omega) ⟨.int ys.length,H,I.tok _,⟨s.toks+1,by rw [List.size_toArray,hlen]⟩,q⟩
theorem CallR.or {f:Value} {r r':List V->Hp->VK->Prop} (h:CallR X f r) (h':CallR X f r'):CallR X f (λxs H Q=>r xs H Q\/r' xs H Q):=by
 intro pins s σ H xs us Q I rs q;rcases q with q | q
 · exact h pins s σ H xs us Q I rs q
 · exact h' pins s σ H xs us Q I rs q
theorem call_list_of:CallR X (.type "list") (λxs H Q=>∃ p ys,xs=[.ref p]/\(SqL X.K H p ys\/SqT X.K H p ys)/\∀ l,H l=none->Q (.ref l) (upd H l (.lst ys))):=by
 intro pins s σ H xs us Q I r h;obtain ⟨p,ys,rfl,hq,q⟩:=h;obtain ⟨u,rfl,rx⟩:=eK r;cases rx;have fin:∀ (its:List Value),Vals ys its->ys.length<=sizeLine->∀ (h':Heap) (c':Nat),(∀ b o',s.heap.get? b=some o'->h'.get? b=some o')->
     h'.get? s.heap.objs.size=some { cls:=.type "list",dict:=none,data:=.seq its.toArray c',slots:=#[] }->EP X pins σ Q (.ref s.heap.objs.size) { s with heap:=h' }:=λits r' hz h' c' kp e=>
   ⟨.ref s.heap.objs.size,_,I.laid (t':=s.toks) kp (Ag _) (show ObjOk X.prog X.w _ h' _ (.lst ys) from ⟨hz,its,c',r',e⟩),rfl,q _ (I.hok.fresh (Ag _))⟩
 rcases hq with hq | hq
 · obtain ⟨its,r',pl,hz⟩:=I.list hq;have hlen:=r'.length
   obtain ⟨o,ho,hc,n,hd⟩:=pl.isList;exact call_list_seq p (.inl rfl) ho hc hd (λh' c' kp e=>fin its r' hz h' c' kp e) (by simp only [List.size_toArray] <;> omega)
 · obtain ⟨its,r',pl,hz⟩:=I.tuple hq;have hlen:=r'.length
   obtain ⟨o,ho,hc,n,hd⟩:=pl;exact call_list_seq p (.inr rfl) ho hc hd (λh' c' kp e=>fin its r' hz h' c' kp e) (by simp only [List.size_toArray] <;> omega)
def tyV (K:PySem.W.Frag) (T:String) (x:V) (H:Hp):Prop:=match x with
 | .str _=>T="str"
 | .int _=>T="int"
 | .ref p=>(T="list"/\∃ xs,SqL K H p xs)\/(T="tuple"/\∃ o,K.lookup p=some o/\o.cls=.type "tuple"/\o.dict=none)\/
     (T="dict"/\((∃ kvs,H p=some (.dK kvs))\/∃ kvs,H p=some (.dT kvs)))\/(T="set"/\∃ S n,H p=some (.set S n))
 | _=>False
theorem dXG {pins:Q2} {σ:St} {H:Hp} {s:Shared} {T:String} {x:V} {v:Value} (I:Inv X pins σ H s) (r:RelV x v) (ty:tyV X.K T x H) :
   s.TypeIs v T/\∀ a,v=.ref a->∃ ob,s.heap.get? a=some ob/\ob.dict=none:=by
 cases x with
 | str z=>
   obtain ⟨t,rfl⟩:=r;cases (show T="str" from ty);exact ⟨Gp s z t,λ_ e=>nomatch e⟩
 | int i=>
   obtain ⟨t,rfl⟩:=r;cases (show T="int" from ty);exact ⟨typeIs_int s i t,λ_ e=>nomatch e⟩
 | ref p=>
   cases r;rcases ty with ⟨rfl,xs,hq⟩ | ⟨rfl,o,hk,hc,hd⟩ | ⟨rfl,hk⟩ | ⟨rfl,S,n,hk⟩
   · obtain ⟨its,_,pl,_⟩:=I.list hq;refine ⟨pl.isList.typeIs,λa e=>?_⟩;cases e;obtain ⟨o,n,e,c,hd,_⟩:=pl;exact ⟨o,e,hd⟩
   · refine ⟨⟨o,I.kIn p o hk,hc⟩,λa e=>?_⟩;cases e;exact ⟨o,I.kIn _ o hk,hd⟩
   · have z:∃ o,s.heap.get? p=some o/\o.ExactDict:=by
       rcases hk with ⟨kvs,hk⟩ | ⟨kvs,hk⟩
       · obtain ⟨_,_,_,_,o,_,_,e,ex,_⟩:=I.hok p _ hk;exact ⟨o,e,ex⟩
       · obtain ⟨_,_,_,_,o,_,_,e,ex,_⟩:=I.hok p _ hk;exact ⟨o,e,ex⟩
     obtain ⟨o,e,ex⟩:=z;refine ⟨⟨o,e,ex.1⟩,λa e2=>?_⟩;cases e2;exact ⟨o,e,ex.2.1⟩
   · obtain ⟨o,_,_,_,e,ex,_⟩:=I.hok p _ hk;refine ⟨⟨o,e,ex.1⟩,λa e2=>?_⟩;cases e2;exact ⟨o,e,ex.2.1⟩
 | _=>exact False.elim ty
variable {o e:Expr} {es:List Expr} {to:TE} {t:TA} {name:Str} {apos cpos:Pos} {T id:String} {r:V->List V->Hp->VK->Prop}
end
end L2
namespace L2
open PySem PySem.Spec PyProof.Rows
def MtM (X:Cx) (id:String) (r:V->List V->Hp->VK->Prop):Prop :=
 ∀ (pins:Q2) (s:Shared) (σ:St) (H:Hp) (x:V) (xs:List V) (v:Value) (us:List Value) (Q:VK),Inv X pins σ H s->RelV x v->Vals xs us->r x xs H Q->
   wpAny (model X.prog X.w) X.A (call (.builtin id) (v::us)) (EP X pins σ Q) X.xe s
theorem Vals.one:∀ {x:V} {us:List Value},Vals [x] us->∃ u,us=[u]/\RelV x u
 | _,_,.cons r .nil=>⟨_,rfl,r⟩
theorem Vals.two:∀ {x y:V} {us:List Value},Vals [x,y] us->∃ u v,us=[u,v]/\RelV x u/\RelV y v
 | _,_,_,.cons r (.cons q .nil)=>⟨_,_,rfl,r,q⟩
theorem Vals.zero:∀ {us:List Value},Vals [] us->us=[]
 | _,.nil=>rfl
theorem Vals.dropLast {xs:List V} {us:List Value} (h:Vals xs us):Vals xs.dropLast us.dropLast:=by
 induction h with
 | nil=>exact .nil
 | cons r t ih=>
   cases t with
   | nil=>exact .nil
   | cons q t'=>exact .cons r ih
theorem Vals.eraseIdx:∀ {xs:List V} {us:List Value} (i:Nat),Vals xs us->Vals (xs.eraseIdx i) (us.eraseIdx i)
 | _,_,_,.nil=>.nil
 | _,_,0,.cons _ t=>t
 | _,_,i+1,.cons r t=>.cons r (Vals.eraseIdx i t)
theorem Vals.rep {xs:List V} {us:List Value} (h:Vals xs us):∀ k:Nat,Vals (List.replicate k xs).flatten (List.replicate k us).flatten
 | 0=>.nil
 | k+1=>by
   rw [Cg,Cg,Cs,Cs];exact Vals.append h (Vals.rep h k)
theorem uB (its:List Value):∀ (k:Nat) (acc:List Value),
   List.foldl (λx1 x2=>x1++x2) acc.toArray (List.replicate k its.toArray)=(acc++(List.replicate k its).flatten).toArray
 | 0,acc=>by simp
 | k+1,acc=>by
   have e:acc.toArray++its.toArray=(acc++its).toArray:=by simp
   have e2:(acc++its)++(List.replicate k its).flatten=acc++(List.replicate (k+1) its).flatten:=by
     rw [Cg,Cs,Cc]
   rw [<-e2,<-uB its k (acc++its),<-e,Cg,List.foldl_cons]
section
variable {X:Cx} {pins:Q2} {σ:St} {H:Hp} {s:Shared} {l b:Addr} {xs ys zs:List V}
theorem Inv.lset {its its':List Value} {n:Nat} {f:Array Value->Array Value} {t':Nat} (I:Inv X pins σ H s) (hH:H l=some (.lst xs))
   (e:s.heap.get? l=some { cls:=.type "list",data:=.seq its.toArray n }) (hf:f its.toArray=its'.toArray) (hv:Vals ys its') (hz:ys.length<=sizeLine) :
   Inv X pins σ (upd H l (.lst ys)) { s with heap:=s.heap.update l (Obj.mapSeq f),toks:=t' }:=by
 have q:=PySem.IsL.update e f
 rw [hf] at q;refine I.write (x:=l) (e:=l) (by rw [hH]; exact trivial) (.inl rfl) (λb' u hb hu=>(Bs s.heap (Obj.mapSeq f) (Ne.symm hb)).trans hu) ⟨_,q⟩ ?_
 exact ⟨hz,its',_,hv,q⟩
theorem Inv.lnew {its:List Value} {t':Nat} (I:Inv X pins σ H s) (hv:Vals ys its) (hz:ys.length<=sizeLine) :
   Inv X pins σ (upd H s.heap.objs.size (.lst ys)) { s with heap:=s.heap.push { cls:=.type "list",data:=.seq its.toArray },toks:=t' } :=
 I.laid (λ_ _ q=>Ad _ q) (Ag _) ⟨hz,its,0,hv,Ar _ rfl⟩
theorem Inv.fresh (I:Inv X pins σ H s):H s.heap.objs.size=none:=I.hok.fresh (Ag _)
theorem Inv.lstM (I:Inv X pins σ H s) (hH:H l=some (.lst xs)):xs.length<=sizeLine/\∃ (its:List Value) (n:Nat),Vals xs its/\xs.length=its.length/\s.heap.get? l=some { cls:=.type "list",data:=.seq its.toArray n }:=by
 obtain ⟨z,its,n,r,e⟩:=I.hok l _ hH;exact ⟨z,its,n,r,r.length,e⟩
theorem yO {n:Nat} (h:n<=sizeLine):Builtin.List.listTooLong n=false:=by
 unfold Builtin.List.listTooLong;exact Au (by omega)
end
section
variable {X:Cx}
def aX8:V->List V->Hp->VK->Prop:=λx vs H Q=>∃ l xs y,x=.ref l/\vs=[y]/\H l=some (.lst xs)/\xs.length<sizeLine/\Q .non (upd H l (.lst (xs++[y])))
theorem oG:MtM X "list.append" aX8:=by
 intro pins s σ H x vs v us Q I rx rv h;obtain ⟨l,xs,y,rfl,rfl,hH,hz,q⟩:=h;cases rx;obtain ⟨u,rfl,ru⟩:=rv.one;obtain ⟨z,its,n,r,hl,e⟩:=I.lstM hH;refine El F.slot_list_append ⟨_,e,rfl⟩ F.entry_list_append (F.args_list_append_2 _ _) (PySem.list_append l its.toArray n u (by rw [Av]; omega)) ⟨e,?_⟩
 refine ⟨.non,_,I.lset (its':=its++[u]) hH e (by simp) (r.append (.cons ru .nil)) ?_,rfl,q⟩
 rw [Aj,List.length_singleton];omega
def aZG:V->List V->Hp->VK->Prop:=λx vs H Q=>∃ l b xs zs,x=.ref l/\vs=[.ref b]/\H l=some (.lst xs)/\H b=some (.lst zs)/\xs.length+zs.length<=sizeLine/\Q .non (upd H l (.lst (xs++zs)))
theorem aJW:MtM X "list.extend" aZG:=by
 intro pins s σ H x vs v us Q I rx rv h;obtain ⟨l,b,xs,zs,rfl,rfl,hH,hB,hz,q⟩:=h;cases rx;obtain ⟨u,rfl,ru⟩:=rv.one;cases ru;obtain ⟨z,its,n,r,hl,e⟩:=I.lstM hH;obtain ⟨z2,its2,n2,r2,hl2,e2⟩:=I.lstM hB;have hsz:its.toArray.size+its2.toArray.size<=sizeLine:=by rw [Av,Av]; omega
 have hlong:¬ (!its.toArray.isEmpty && Builtin.List.listTooLong (its.toArray.size+its2.toArray.size))=true:=by
   rw [yO hsz,Bool.and_false];exact Al
 refine El F.slot_list_extend ⟨_,e,rfl⟩ F.entry_list_extend (F.args_list_extend_2 _ _)
   (AutoSeq1.list_extend_list_list_0 l its.toArray n b its2.toArray n2 hlong (by rw [Av]; omega) (by omega)) ⟨e,e2,?_⟩
 refine ⟨.non,_,I.lset (its':=its++its2) hH e (by simp) (r.append r2) ?_,rfl,q⟩
 rw [Aj];omega
def eX2:R2:=λx y H Q=>∃ l b xs zs,x=.ref l/\y=.ref b/\H l=some (.lst xs)/\H b=some (.lst zs)/\xs.length+zs.length<=sizeLine/\∀ p,H p=none->Q (.ref p) (upd H p (.lst (xs++zs)))
theorem dXY:OpR X (binaryOp .Add) eX2:=by
 intro pins s σ H x y v u Q I rx ry h;obtain ⟨l,b,xs,zs,rfl,rfl,hH,hB,hz,q⟩:=h;cases rx;cases ry;obtain ⟨z,its,n,r,hl,e⟩:=I.lstM hH;obtain ⟨z2,its2,n2,r2,hl2,e2⟩:=I.lstM hB;refine PySem.P.add_list e e2 ?_ (by rw [Av,Av]; omega)
 have ea:its.toArray++its2.toArray=(its++its2).toArray:=by simp
 rw [ea];exact ⟨.ref _,_,I.lnew (t':=s.toks) (r.append r2) (by rw [Aj]; omega),rfl,q _ I.fresh⟩
def eX7:R2:=λx y H Q=>∃ l k xs,x=.ref l/\y=.int k/\H l=some (.lst xs)/\-(2 ^ 63)<=k/\k<2 ^ 63/\xs.length * k.toNat<=sizeLine/\
 ∀ p,H p=none->Q (.ref p) (upd H p (.lst (List.replicate k.toNat xs).flatten))
theorem cXC {α:Type} (xs:List α) (k:Nat):(List.replicate k xs).flatten.length=k * xs.length:=by
 induction k with
 | zero=>simp
 | succ k ih=>rw [Cg,Cs,Aj,ih,Nat.succ_mul,Nat.add_comm]
theorem aQ7:OpR X (binaryOp .Mult) eX7:=by
 intro pins s σ H x y v u Q I rx ry h;obtain ⟨l,k,xs,rfl,rfl,hH,h1,h2,hz,q⟩:=h;cases rx;obtain ⟨t,rfl⟩:=ry;obtain ⟨z,its,n,r,hl,e⟩:=I.lstM hH;have hlen:its.toArray.size * k.toNat<=sizeLine:=by rw [Av,<-hl]; exact hz
 have hcap:¬ its.toArray.size * k.toNat > (2 ^ 63 - 1) / 8:=by
   have:(sizeLine:Nat)<=(2 ^ 63 - 1) / 8:=by decide
   omega
 have hfit:¬ (!Builtin.List.listFitsIndex k)=true:=by
   rw [fitsIndex_both h1 h2];exact Al
 have hlong:¬ Builtin.List.listTooLong (its.toArray.size * k.toNat)=true:=by
   rw [yO hlen];exact Al
 have hnew:List.foldl (λx1 x2=>x1++x2) #[] (List.replicate (if its.toArray.isEmpty=true then 0 else k.toNat) its.toArray)=(List.replicate k.toNat its).flatten.toArray:=by
   have f0:∀ m:Nat,List.foldl (λx1 x2=>x1++x2) #[] (List.replicate m its.toArray)=(List.replicate m its).flatten.toArray:=λm=>by
     have:=uB its m []
     rw [List.nil_append] at this;exact this
   rw [f0];cases its with
   | nil=>simp
   | cons a r'=>rw [if_neg (by simp)]
 refine wpAny_binaryOp_repeat_ref (T := "list") (U := "int") (by decide) ⟨_,e,rfl⟩ (λs'=>typeIs_int s' k t) noFill_list_mul F.fills_int_mul F.slot_int_rmul repeat_list F.slot_int_index.lookup
   (El F.slot_int_rmul (typeIs_int s k t) F.entry_int_rmul (F.args_int_rmul_2 _ _) (int___rmul___int_list k t l its.toArray n)
     ⟨e,rfl,⟨_,e,rfl⟩,El F.slot_list_mul ⟨_,e,rfl⟩ F.entry_list_mul (F.args_list_mul_2 _ _) (AutoListH.list___mul___list_int_3 l its.toArray n k t hfit hcap hlong) ⟨e,?_⟩⟩)
 rw [hnew];exact ⟨.ref _,_,I.lnew (t':=s.toks) (r.rep k.toNat) (by rw [cXC,Nat.mul_comm]; exact hz),rfl,q _ I.fresh⟩
end
section
variable {prog:Program} {w:World} {A:Around} {E:Q0} {s:Shared}
end
section
variable {X:Cx}
end
end L2
namespace Att
open PySem PySem.W PySem.Calls PyProof.Rows
theorem pM {P:Params} {h:Heap}:∀ (ns:List Int) (vs:List Value),WellAll P h vs (ns.map WData.int)->IntsAre vs ns:=by
 intro ns;induction ns with
 | nil=>
   intro vs w;rw [List.map_nil] at w;cases w;exact .nil
 | cons n ns ih=>
   intro vs w;rw [Aw] at w;cases w with
   | cons a b=>
     cases a;exact .cons _ _ (ih _ b)
theorem aZ1 {l:OpenLaw} {n:Nat} (hn:l.most=some n) {P:Params} {h:Heap} {args:List WData} {vals:List Value}
   (hpre:l.row.toRowW.claim.pre args=true) (hwl:WellAll P h vals args) :
   ∃ a vs ns,vals=[Value.ref a]/\args=[WData.list (ns.map WData.int)]/\h.get? a=some { cls:=.type "list",data:=.seq vs.toArray }/\IntsAre vs ns/\ns.length<=n:=by
 have hsh:WShape.hasAll [] args [.list .int]=true:=(pre_splitW hpre).1
 have hc:l.pre.holds [] { args:=args }=true:=(pre_splitW hpre).2
 obtain ⟨d,r,rfl,h1,h2⟩:=hasAllW_cons hsh;obtain rfl:=hasAllW_nil h2;obtain ⟨xs,rfl,h3⟩:=hasW_list h1;obtain ⟨ns,rfl⟩:=items_int h3;have hlen:ns.length<=n:=by
   unfold OpenLaw.pre at hc;have h4:(WTm.not (.lt (.lit (.int (n:Int))) (.len (.arg 0)))).holds [] { args:=[.list (ns.map .int)] }=true:=by
     have h4:=(holds_andW hc).1
     rw [hn] at h4;exact h4
   have h5:=condW_of h4 (w_not (w_lt w_lit (w_len_list (w_arg rfl))))
   rw [Ab] at h5;refine Nat.le_of_not_lt λq=>?_;have q':(n:Int)<((ns.length:Nat):Int):=by omega
   first
     | (rw [Aq q'] at h5; exact absurd h5 (by decide))
     | (simp at h5; omega)
 cases hwl with
 | cons w1 w2=>
   cases w2;cases w1 with
   | list ho hall=>exact ⟨_,_,ns,rfl,rfl,ho,pM ns _ hall,hlen⟩
theorem aJH (l:OpenLaw) (args:List WData):l.row.toRowW.claim.post args (.bool true) args=true :=
 postW_of (r:=l.row.toRowW) (X:=(true == true))
   (show WShape.has [] (.bool true) .bool=true by first | rfl | decide | simp [WShape.has,WShape.arms,WShape.armsAll])
   (show (WTm.eq .res (.lit (.bool true))).value [] { args:=args,res:=some (.bool true),after:=args }=some (.bool (true == true)) from w_eq_bool (w_res rfl) w_lit) rfl
theorem attach_call {l:OpenLaw} {n:Nat} {q:Program} {loose:List Str} {XP:(Q3)->Heap->Prop} {YP:World->Heap->Prop} {d:DefRec}
   (hn:l.most=some n) (hdf:d.params.defaults=[])
   (call:∀ (w:World) (s₀ s₁:Shared) (mg mb:Q3) (fa:Addr) (o:Obj) (pm cd doc:Value) (a:Addr) (vs:List Value) (ns:List Int),
     Ground q loose [] XP w s₀ mg mb s₁.heap->YP w s₁.heap->
     s₁.heap.get? fa=some o->o.data=.func (docDef d.name d.params d.body d.scope pm cd doc)->s₁.heap.CodeRec cd d.name->mg d.name=some (.ref fa)->
     s₁.heap.get? a=some { cls:=.type "list",data:=.seq vs.toArray }->IntsAre vs ns->ns.length<=n->s₁.gens=#[]->
     codeAny (model l.prog w) callerA (.call (.ref fa) ⟨[.ref a],[]⟩) (λr s'=>r=.ok (.ret (.bool true))/\OldK s₁.heap s'.heap/\s'.os=s₁.os/\AllBare s'.gens) s₁) :
   WalkO q loose XP YP l.row.toRowW d [] (λf vs=>PySem.call f vs):=by
 intro w s₀ s₁ mg mb G Y fa o pm cd doc dV kV ho hd hcd hD hmg hg args vals as hpre hlay hrd hwl hlo;obtain rfl:dV=.none:=Dflts.none hD hdf;obtain rfl:kV=.none:=Dflts.noKw hD;obtain ⟨a,vs,ns,rfl,rfl,hobj,hints,hlen⟩:=aZ1 hn hpre hwl;refine enter_call (Ei (call w s₀ s₁ mg mb fa o pm cd doc a vs ns G Y ho (fd_plain hd) hcd hmg hobj hints hlen hg) λr s' hq=>?_);obtain ⟨rfl,h2,h3,h4⟩:=hq;exact ⟨.inl ⟨.bool true,.bool true,[],rfl,λ_=>rfl,.bool true,aJH l _,λ_=>⟨List.Pairwise.nil,λ_ hm=>(nomatch hm)⟩⟩,h2,h3,h4⟩
section
variable {prog:Program} {w:World} {A:Around} {E:Q0} {s:Shared} {K:Frag}
end
end Att
namespace L2
open PySem PySem.Spec PyProof.Rows
theorem tB:∀ {vs:List Value} {ns:List Int},IntsAre vs ns->Vals (ns.map V.int) vs
 | _,_,.nil=>.nil
 | _,_,.cons n t h=>.cons ⟨t,rfl⟩ (tB h)
end L2
namespace L2
open PySem PySem.Spec PyProof.Rows
end L2
namespace L2
open PySem PySem.Spec PyProof.Rows
def aP (s:Stmt):Arguments:=match s with
 | .FunctionDef _ a _ _ _ _ _ _ _ _=>a
 | _=>{ posonlyargs:=[],args:=[],vararg:=none,kwonlyargs:=[],kw_defaults:=[],kwarg:=none,defaults:=[] }
def aM (s:Stmt):List Stmt:=match s with
 | .FunctionDef _ _ b _ _ _ _ _ _ _=>b
 | _=>[]
def aE (s:Stmt):Scope:=match s with
 | .FunctionDef _ _ _ _ _ _ sc _ _ _=>sc
 | _=>{ kind:=.function,names:=[],isGenerator:=false,isCoroutine:=false }
abbrev CX0:CXT:=λ_ _ _ _ _ _=>False
abbrev E0:XK:=λ_ _ _=>False
theorem aXT {X:Cx}:fH CX0 X E0:=λ_ _ _ _ _ _ _ h=>h.elim
structure Fun (K:PySem.W.Frag) (x qual:Str) (st:Stmt) (f:Addr) (fd:FuncData):Prop where
 ex:∃ (oc:Value) (od:Option Addr) (kV doc pm:Value) (an:Option Addr) (cdv ct:Value) (osl:Array (Option Value)),
   fd=PySem.W.fnOf x qual (aP st) (aM st) (aE st) .none kV doc pm an cdv ct/\K.lookup f=some ⟨oc,od,.func fd,osl⟩/\PySem.W.codeIn K cdv qual=true
 kp:PySem.W.keepIn K (.ref f)=true
section
variable {P:Program} {w:World} {K:PySem.W.Frag} {mg:Q3} {base:Heap}
theorem Fun.ok {x qual:Str} {st:Stmt} {f:Addr} {fd:FuncData} {N ps:List Str} {k:Nat} {sp:Sp} (F:Fun K x qual st f fd) (S:FnScope N ps (aE st)) (len:∀ vs H Q E,sp vs H Q E->vs.length=ps.length)
   (hbody:∀ (cdv:Value) (A:Around) (outer:List Env) (s:Shared) (H:Hp) (vs:List V) (Q:VK) (E:XK),Room k (A.deeper (envOfC qual (aE st) s.heap.objs.size f cdv))->sp vs H Q E->
     ∃ t,PSs (gU CX0 P w K mg base N qual (aE st) f cdv A outer s H E).nox (aM st) t/\t { nx:=λ_ H'=>Q .non H',rt:=Q } (mK N vs) H):FnOk P w K mg base CX0 (k+1) f fd ps sp:=by
 obtain ⟨oc,od,kV,doc,pm,an,cdv,ct,osl,rfl,lk,hcd⟩:=F.ex;refine dQA lk hcd S len λA outer s H vs Q E hr hsp=>?_;obtain ⟨t,h,q⟩:=hbody cdv A outer s H vs Q E hr hsp;exact ⟨t,h.nox,q⟩
theorem Fun.binds {x qual:Str} {st:Stmt} {f:Addr} {fd:FuncData} {ps:List Str} (F:Fun K x qual st f fd)
   (h:∀ (kV doc pm:Value) (an:Option Addr) (cdv ct:Value) (us:List Value),us.length=ps.length->bindArgs (PySem.W.fnOf x qual (aP st) (aM st) (aE st) .none kV doc pm an cdv ct) ⟨us,[]⟩=pure (ps.zip us)):Binds K fd ps []:=by
 obtain ⟨oc,od,kV,doc,pm,an,cdv,ct,osl,rfl,lk,hcd⟩:=F.ex;exact .all (h kV doc pm an cdv ct)
theorem aY {x qual:Str} {st:Stmt} {f:Addr} {oc:Value} {od an:Option Addr} {osl:Array (Option Value)} {kV doc pm cdv ct:Value} (l:K.lookup f=some ⟨oc,od,.func (PySem.W.fnOf x qual (aP st) (aM st) (aE st) .none kV doc pm an cdv ct),osl⟩)
   (c:PySem.W.codeIn K cdv qual=true) (k:PySem.W.keepIn K (.ref f)=true):Fun K x qual st f (PySem.W.fnOf x qual (aP st) (aM st) (aE st) .none kV doc pm an cdv ct):=⟨⟨oc,od,kV,doc,pm,an,cdv,ct,osl,rfl,l,c⟩,k⟩
end
section
variable {X:Cx}
theorem pv (i:Nat) {x:Str} {pos:Pos} (hN:X.N[i]?=some x:=by rfl) (hv:Vis X.env.scope x:=by first | exact Or.inl rfl | exact Or.inr (Or.inl rfl) | exact Or.inr (Or.inr rfl)) (hd:(x == ("__debug__" : Str))=false:=by decide)
   (hcd:(x == ("__classdict__" : Str))=false:=by decide):PE X (.Name x pos) (dJ2 i):=dZM hN hv hd hcd
end
theorem eX3 {A B:Prop} (h:B):if false=true then A else B:=by
 rw [if_neg Al];exact h
theorem eX6 {A B:Prop} (h:A):if true=true then A else B:=by
 rw [if_pos rfl];exact h
theorem jZ {c A B:Prop} [Decidable c] (h1:c->A) (h2:¬ c->B):if c then A else B:=by
 by_cases h:c
 · rw [if_pos h];exact h1 h
 · rw [if_neg h];exact h2 h
def Same (H H':Hp):Prop:=∀ b o,H b=some o->H' b=some o
theorem Same.refl (H:Hp):Same H H:=λ_ _ h=>h
theorem Same.trans {H H1 H2:Hp} (a:Same H H1) (b:Same H1 H2):Same H H2:=λc o h=>b c o (a c o h)
theorem Same.free {H H':Hp} (e:Same H H') {l:Addr} (h:H' l=Option.none):H l=Option.none:=by
 cases q:H l with
 | none=>rfl
 | some o=>
   rw [e l o q] at h;cases h
theorem Same.seq {K:PySem.W.Frag} {H H':Hp} {a:Addr} {xs:List V} (e:Same H H') (h:SqL K H a xs):SqL K H' a xs:=by
 rcases h with (h | ⟨o,h⟩) | h
 · exact .inl (.inl (e _ _ h))
 · exact .inl (.inr ⟨o,e _ _ h⟩)
 · exact .inr h
end L2
set_option maxHeartbeats 4000000
namespace FlT
open PySem PySem.Spec PyProof.Rows
def sIx (n d:Nat):Option Int->Nat
 | none=>d
 | some v=>if v<0 then (v+(n:Int)).toNat else min v.toNat n
theorem aQ8 (n d:Nat) (hd:d<=n) (o:Option Int):sIx n d o<=n:=by
 cases o with
 | none=>exact hd
 | some v=>
   show (if v<0 then (v+(n:Int)).toNat else min v.toNat n)<=n
   by_cases hv:v<0
   · rw [if_pos hv]; omega
   · rw [if_neg hv]; omega
theorem aZE (n d:Nat) (hd:d<=n) (v:Option Int):(match v with
   | none=>(d:Int)
   | some i=>if (1:Int) > 0 then max 0 (min (if i<0 then i+(n:Int) else i) (n:Int)) else max (-1) (min (if i<0 then i+(n:Int) else i) ((n:Int) - 1)))=((sIx n d v:Nat):Int):=by
 cases v with
 | none=>rfl
 | some i=>
   simp only [show (1:Int) > 0 by decide,if_true,sIx]
   by_cases h:i<0
   · simp only [h,if_true]; omega
   · simp only [h,if_false]; omega
theorem aZI (lo hi:Option Int) (n:Nat):Builtin.Str.strSliceIndices lo hi 1 n=(List.range (sIx n n hi - sIx n 0 lo)).map (sIx n 0 lo+·):=by
 have h1:=aZE n 0 (Dv _) lo
 have h2:=aZE n n (Ag _) hi
 rw [<-sliceRange_one,<-h1,<-h2];rfl
theorem slice_cps (z:Str) (lo hi:Option Int):(Txt.slice z lo hi).cps.toList=(z.cps.toList.drop (sIx z.length 0 lo)).take (sIx z.length z.length hi - sIx z.length 0 lo):=by
 have e:((Builtin.Str.strSliceIndices lo hi 1 z.length).filterMap (z.cps[·]?))=(z.cps.toList.drop (sIx z.length 0 lo)).take (sIx z.length z.length hi - sIx z.length 0 lo):=by
   rw [aZI,pick_run]
 unfold Txt.slice;split
 · rename_i h
   have hl:(Builtin.Str.strSliceIndices lo hi 1 z.length).length=z.length:=by simpa using h
   rw [aZI,Ab,Bj] at hl;have hn:z.cps.toList.length=z.length:=by simp [Str.length]
   have h1:=aQ8 z.length z.length (Ag _) hi
   have h2:=aQ8 z.length 0 (Dv _) lo
   have a0:sIx z.length 0 lo=0:=by omega
   rw [a0,List.drop_zero,Bf (by omega)]
 · show (List.toArray _).toList=_
   rw [<-e]
theorem sT:∀ (ys:List Str) (acc:Array Nat),(ys.foldl (λacc p=>acc++(#[]:Array Nat)++p.cps) acc).toList=acc.toList++(ys.map λy=>y.cps.toList).flatten
 | [],acc=>by simp
 | y::r,acc=>by
   rw [List.foldl_cons,sT r];simp
theorem join_cps (ys:List Str):(Txt.join ⟨#[]⟩ ys).cps.toList=(ys.map λy=>y.cps.toList).flatten:=by
 cases ys with
 | nil=>rfl
 | cons y r=>
   have e:=sT r y.cps
   rw [Aw,Cs,<-e];rfl
theorem app_cps (x y:Str):(x++y).cps.toList=x.cps.toList++y.cps.toList:=by
 show (x.cps++y.cps).toList=_
 simp
theorem str_ext {x y:Str} (h:x.cps.toList=y.cps.toList):x=y:=by
 obtain ⟨⟨x⟩⟩:=x;obtain ⟨⟨y⟩⟩:=y;cases h;rfl
end FlT
set_option maxHeartbeats 4000000
namespace L2
open PySem PySem.Spec PyProof.Rows
theorem PE.imp {X:Cx} {e:Expr} {t t':TE} (h:PE X e t) (i:∀ σ H Q,t' σ H Q->t σ H Q):PE X e t':=λpins s σ H Q I q=>h pins s σ H Q I (i σ H Q q)
theorem PT.imp {X:Cx} {e:Expr} {t t':TT} (h:PT X e t) (i:∀ σ H Q,t' σ H Q->t σ H Q):PT X e t':=λpins s σ H Q I q=>h pins s σ H Q I (i σ H Q q)
theorem OpR.imp {X:Cx} {f:Value->Value->Sem Value} {r r':R2} (h:OpR X f r) (i:∀ x y H Q,r' x y H Q->r x y H Q):OpR X f r':=λpins s σ H x y v u Q I rx ry q=>h pins s σ H x y v u Q I rx ry (i x y H Q q)
theorem CallR.imp {X:Cx} {f:Value} {r r':List V->Hp->VK->Prop} (h:CallR X f r) (i:∀ xs H Q,r' xs H Q->r xs H Q):CallR X f r':=λpins s σ H xs us Q I rx q=>h pins s σ H xs us Q I rx (i xs H Q q)
theorem MtR.imp {X:Cx} {id:String} {r r':V->List V->Hp->VK->Prop} (h:MtR X id r) (i:∀ x xs H Q,r' x xs H Q->r x xs H Q):MtR X id r':=λpins s σ H x xs v us Q I rx rs q=>h pins s σ H x xs v us Q I rx rs (i x xs H Q q)
theorem IxR.imp {X:Cx} {r r':R2} (h:IxR X r) (i:∀ x y H Q,r' x y H Q->r x y H Q):IxR X r':=λvalue slice pins s σ H x y v u Q I rx ry q hs=>h value slice pins s σ H x y v u Q I rx ry (i x y H Q q) hs
theorem SlR.imp {X:Cx} {r r':V->Option Int->Option Int->Hp->VK->Prop} (h:SlR X r) (i:∀ x lo hi H Q,r' x lo hi H Q->r x lo hi H Q):SlR X r':=λpins s σ H x v vl vu lo hi sl Q I rx hs pl pu q=>h pins s σ H x v vl vu lo hi sl Q I rx hs pl pu (i x lo hi H Q q)
def Its (z:Str):It:=⟨λi _=>i<z.cps.size,λi H x H'=>H'=H/\∃ c,z.cps[i]?=some c/\x=.str ⟨#[c]⟩,λi _=>z.cps.size<=i⟩
theorem zS {P:Program} {w:World} {K:PySem.W.Frag} {tg:Expr} (z:Str) (t:Tok) (it:Addr):Turn P w K tg (Its z) [it] it (λi h=>h.IsStrIter it "str_ascii_iterator" z t i) where
 mem:=by simp
 obj:=λi h st b hb=>by
   have e:b=it:=by simpa using hb
   subst e;obtain ⟨o,e,c,d⟩:=st;exact ⟨o,e,λv z=>by rw [d] at z; cases z⟩
 keep:=λi h h' st k=>let ⟨o,ho,r⟩:=st; ⟨o,k it (by simp) o ho,r⟩
 item:=by
   intro X hP hw hK hc i pins s σ H E I hf st hg;subst hP hw hK;obtain ⟨f0,f1,f2,f3,f4,f5⟩:=hf it (by simp)
   have hi:i<z.cps.size:=hg
   refine wpAny_pyNext_ascii_item st (c:=z.cps[i]) (by simp [hi]) λh' st' sb=>?_
   have I1:Inv X pins σ H { s with heap:=h',toks:=s.toks+1 }:=I.turned (λb o hb e=>(sb.2 b hb).trans e) f0 f1 f3 f4 f5
   obtain ⟨o,e,c,d⟩:=id st';exact ⟨_,rfl,tK (s:={ s with heap:=h',toks:=s.toks+1 }) e c d (by decide) ⟨.str ⟨#[z.cps[i]]⟩,H,I1,⟨_,rfl⟩,⟨rfl,_,by simp [hi],rfl⟩,st',λb hb=>(hf b hb).1⟩⟩
 done:=by
   intro X hP hw hK hc i pins s σ H E I hf st hg;subst hP hw hK;obtain ⟨f0,f1,f2,f3,f4,f5⟩:=hf it (by simp)
   have hi:z.cps.size<=i:=hg
   exact wpAny_pyNext_ascii_end (I.ok.hd hc) st (by simp [hi]) λh' eb=>⟨rfl,I.turned (t':=s.toks) (λb o hb e=>eb b o hb e) f0 f1 f3 f4 f5⟩
 self:=λ_ _ _ _ _ st h=>wpAny_pyIter_striter_ascii st h
theorem aJ1 {P:Program} {w:World} {K:PySem.W.Frag} {tg:Expr} (z:Str) (t:Tok) (it:Addr):Turn P w K tg (Its z) [it] it (λi h=>h.IsStrIter it "str_iterator" z t i) where
 mem:=by simp
 obj:=λi h st b hb=>by
   have e:b=it:=by simpa using hb
   subst e;obtain ⟨o,e,c,d⟩:=st;exact ⟨o,e,λv z=>by rw [d] at z; cases z⟩
 keep:=λi h h' st k=>let ⟨o,ho,r⟩:=st; ⟨o,k it (by simp) o ho,r⟩
 item:=by
   intro X hP hw hK hc i pins s σ H E I hf st hg;subst hP hw hK;obtain ⟨f0,f1,f2,f3,f4,f5⟩:=hf it (by simp)
   have hi:i<z.cps.size:=hg
   refine wpAny_pyNext_wide_item st (c:=z.cps[i]) (by simp [hi]) λh' st' sb=>?_
   have I1:Inv X pins σ H { s with heap:=h',toks:=s.toks+1 }:=I.turned (λb o hb e=>(sb.2 b hb).trans e) f0 f1 f3 f4 f5
   obtain ⟨o,e,c,d⟩:=id st';exact ⟨_,rfl,tK (s:={ s with heap:=h',toks:=s.toks+1 }) e c d (by decide) ⟨.str ⟨#[z.cps[i]]⟩,H,I1,⟨_,rfl⟩,⟨rfl,_,by simp [hi],rfl⟩,st',λb hb=>(hf b hb).1⟩⟩
 done:=by
   intro X hP hw hK hc i pins s σ H E I hf st hg;subst hP hw hK;obtain ⟨f0,f1,f2,f3,f4,f5⟩:=hf it (by simp)
   have hi:z.cps.size<=i:=hg
   exact wpAny_pyNext_wide_end (I.ok.hd hc) st (by simp [hi]) λh' eb=>⟨rfl,I.turned (t':=s.toks) (λb o hb e=>eb b o hb e) f0 f1 f3 f4 f5⟩
 self:=λ_ _ _ _ _ st h=>wpAny_pyIter_striter_wide st h
section
variable {X:Cx} {tg:Expr}
end
theorem cX4 {z:Str} {g:TG} {tb:TS} {D:Ends} {σ:St} {H:Hp} (Pv:Nat->St->Hp->Prop) (h0:Pv 0 σ H)
   (hs:∀ i c σ H,z.cps.toList[i]?=some c->Pv i σ H->g (.str ⟨#[c]⟩) σ H λσ2 H2=>tb { D with nx:=Pv (i+1),ct:=Pv (i+1),bk:=D.nx } σ2 H2) (hd:∀ σ H,Pv z.cps.toList.length σ H->D.nx σ H) :
   ∃ W:Nat->Nat->St->Hp->Prop,(∃ m,W 0 m σ H)/\∀ i m σ H,W i m σ H->
     ((Its z).stop i H/\D.nx σ H)\/((Its z).go i H/\∃ N:St->Hp->Prop,(∀ σ' H',N σ' H'->∃ m',m' < m/\W (i+1) m' σ' H')/\∀ x H',(Its z).yld i H x H'->g x σ H' λσ2 H2=>tb { D with nx:=N,ct:=N,bk:=D.nx } σ2 H2):=by
 have hl:z.cps.toList.length=z.cps.size:=by simp
 rw [hl] at hd;refine ⟨λi m σ H=>m=z.cps.size - i/\i<=z.cps.size/\Pv i σ H,⟨z.cps.size,by simp,Nat.zero_le _,h0⟩,?_⟩
 rintro i m σ H ⟨rfl,hi,p⟩;by_cases hlt:i<z.cps.size
 · refine .inr ⟨hlt,Pv (i+1),λσ' H' p'=>⟨z.cps.size - (i+1),by omega,rfl,hlt,p'⟩,λx H' y=>?_⟩
   obtain ⟨e,c,hc,hx⟩:=y;subst e hx;exact hs i c σ _ (by simpa using hc) p
 · have e:i=z.cps.size:=by omega
   subst e;exact .inl ⟨Ag _,hd σ H p⟩
section
variable {X:Cx} {a b c:Expr} {ta tb tc:TE} {pos:Pos}
def eZG:V->Option Int->Option Int->Hp->VK->Prop:=λx lo hi H Q=>∃ z,x=.str z/\z.length<=sizeLine/\Q (.str (Txt.slice z lo hi)) H
theorem dXJ:SlR X eZG:=by
 intro pins s σ H x v vl vu lo hi sl Q I rx hs pl pu h;obtain ⟨z,rfl,hz,q⟩:=h;obtain ⟨t,rfl⟩:=rx;refine ⟨"str",_,PySem.F.slot_str_getitem.lookup,Gp _ _ _,?_⟩;cases pl with
 | none=>
   cases pu with
   | none=>exact Ep (l:=none) (u:=none) (st:=none) hs rfl (post_val_or_str ⟨Bv (Txt.slice_le z _ _) hz,λt' k=>⟨.str (Txt.slice z none none),H,I.tok _,⟨_,rfl⟩,q⟩⟩)
   | int j uj=>exact Ep (l:=none) (u:=some (j,uj)) (st:=none) hs rfl (post_val_or_str ⟨Bv (Txt.slice_le z _ _) hz,λt' k=>⟨.str (Txt.slice z none (some j)),H,I.tok _,⟨_,rfl⟩,q⟩⟩)
 | int i ui=>
   cases pu with
   | none=>exact Ep (l:=some (i,ui)) (u:=none) (st:=none) hs rfl (post_val_or_str ⟨Bv (Txt.slice_le z _ _) hz,λt' k=>⟨.str (Txt.slice z (some i) none),H,I.tok _,⟨_,rfl⟩,q⟩⟩)
   | int j uj=>exact Ep (l:=some (i,ui)) (u:=some (j,uj)) (st:=none) hs rfl (post_val_or_str ⟨Bv (Txt.slice_le z _ _) hz,λt' k=>⟨.str (Txt.slice z (some i) (some j)),H,I.tok _,⟨_,rfl⟩,q⟩⟩)
def cXZ:V->List V->Hp->VK->Prop:=λx vs H Q=>∃ z y i rest,x=.str z/\vs=[.str y]/\Builtin.Str.occurrences z y 0 z.length 1=i::rest/\Q (.int ((i:Nat):Int)) H
theorem mt_index:MtR X "str.index" cXZ:=by
 intro pins s σ H x vs v us Q I rx rv h;obtain ⟨z,y,i,rest,rfl,rfl,ho,q⟩:=h;obtain ⟨t,rfl⟩:=rx;obtain ⟨u,rfl,ru⟩:=rv.one;obtain ⟨t',rfl⟩:=ru;exact SC.index ho ⟨.int i,H,I.tok _,⟨_,rfl⟩,q⟩
theorem rK {ys:List Str}:∀ {us:List Value},Vals (ys.map V.str) us->StrsAre us ys:=by
 induction ys with
 | nil=>intro us r; rw [List.map_nil] at r; cases r; exact .nil
 | cons n ns ih=>
   intro us r;rw [Aw] at r;cases r with
   | cons r1 r2=>
     obtain ⟨t,e⟩:=r1;subst e;exact .cons n t (ih r2)
def eQB (K:PySem.W.Frag):V->List V->Hp->VK->Prop:=λx vs H Q=>∃ z p ys,x=.str z/\vs=[.ref p]/\SqL K H p (ys.map V.str)/\(ys.map (·.length)).sum+ys.length * z.length<=16777216/\Q (.str (Txt.join z ys)) H
theorem mt_join:MtR X "str.join" (eQB X.K):=by
 intro pins s σ H x vs v us Q I rx rv h;obtain ⟨z,p,ys,rfl,rfl,hp,hz,q⟩:=h;obtain ⟨t,rfl⟩:=rx;obtain ⟨u,rfl,ru⟩:=rv.one;cases ru;obtain ⟨its,r,pl,_⟩:=I.list hp;exact join_list pl.isList (by simpa using rK r) hz λt' k=>⟨.str (Txt.join z ys),H,I.tok _,⟨_,rfl⟩,q⟩
theorem sA:CallR X (.type "int") (λxs H Q=>∃ x n,xs=[.str x]/\PySem.intText? x=some n/\x.length<=640/\Q (.int n) H):=by
 intro pins s σ H xs us Q I r h;obtain ⟨x,n,rfl,hn,hl,q⟩:=h;obtain ⟨u,rfl,t,rfl⟩:=eK r;exact PySem.W.KIN.call_text hn hl ⟨.int n,H,I.tok _,⟨_,rfl⟩,q⟩
theorem yC {bs:List Bool}:∀ {us:List Value},Vals (bs.map V.bl) us->LSm.BoolsAre us bs:=by
 induction bs with
 | nil=>intro us r; rw [List.map_nil] at r; cases r; exact .nil
 | cons n ns ih=>
   intro us r;rw [Aw] at r;cases r with
   | cons r1 r2=>
     cases r1;exact .cons n (ih r2)
theorem rY (hc:X.calm=true):CallR X (.builtin "all") (λxs H Q=>∃ (p:Addr) (bs:List Bool),xs=[.ref p]/\SqL X.K H p (bs.map V.bl)/\Q (.bl (bs.all id)) H):=by
 intro pins s σ H xs us Q I r h;obtain ⟨p,bs,rfl,hp,q⟩:=h;obtain ⟨u,rfl,ru⟩:=eK r;cases ru;obtain ⟨its,rv,pl,hz⟩:=I.list hp;have hb:=yC rv
 have hl:=pl.isList
 have hlt:p<s.heap.objs.size:=by obtain ⟨_,e,_⟩:=hl; exact An e
 refine call_all_walk (Ej hl ?_);refine ⟨s.heap.objs.size,[s.heap.objs.size,p],[s.heap.objs.size],its.toArray.size,_,_,λi=>(bs[i]?).getD true,rfl,Walks.list (A:=X.A.in1) (I.ok.hd hc) _ p (Ay hlt) its.toArray,
   ⟨⟨_,Ar _ rfl,rfl,rfl⟩,hl.push _⟩,λi v s' Q' E' hP hQ=>?_,λh' tk hk=>?_⟩
 · obtain ⟨b,e,rfl⟩:=hb.get i v (by simpa using hP)
   simp only [e,Option.getD_some] at hQ;exact Ff hQ
 · have e:((List.range its.toArray.size).all λi=>(bs[i]?).getD true)=bs.all id:=by
     rw [Av,hb.length]; exact LSm.range_all bs
   rw [e];exact ⟨.bl (bs.all id),H,I.kept (LSm.kept_iter hk),rfl,q⟩
def hJ (xs ys:List V):Bool:=xs.length == ys.length && (List.range xs.length).all λj=>eqV (xs.getD j .non) (ys.getD j .non)
theorem Vals.getD_rel {xs:List V} {us:List Value} {j:Nat} (r:Vals xs us) (h:j<us.length):RelV (xs.getD j .non) us[j]:=by
 have hl:=r.length
 have hx:j<xs.length:=by omega
 obtain ⟨u,hu,ru⟩:=r.get (Aa hx);rw [Aa h] at hu;cases hu;rw [Ak,Aa hx];exact ru
theorem iO {xs:List V} (h:xs.all bO=true) (j:Nat):bO (xs.getD j .non)=true:=by
 rw [Ak];cases e:xs[j]? with
 | none=>rfl
 | some x=>exact As.mp h x (Ap e)
def dZ5 (K:PySem.W.Frag) (neg:Bool):R2:=λx y H Q=>∃ p q xs ys,x=.ref p/\y=.ref q/\SqL K H p xs/\SqL K H q ys/\xs.all bO=true/\ys.all bO=true/\Q (.bl (if neg then !hJ xs ys else hJ xs ys)) H
theorem rO {xs ys:List V} (h:xs.length≠ys.length):hJ xs ys=false:=by
 unfold hJ;rw [Cf.mpr h,Eo]
theorem iT {xs ys:List V} (h:xs.length=ys.length):hJ xs ys=(List.range xs.length).all λj=>eqV (xs.getD j .non) (ys.getD j .non):=by
 unfold hJ;rw [h,Fn,Em]
theorem aQK (hu:X.A.units<cLine):OpR X (compareOp .Eq) (dZ5 X.K false):=by
 intro pins s σ H x y v u Q I rx ry h;obtain ⟨p,q,xs,ys,rfl,rfl,hp,hq,fx,fy,k⟩:=h;cases rx;cases ry;obtain ⟨its,r1,l1,_⟩:=I.list hp;obtain ⟨its2,r2,l2,_⟩:=I.list hq;have e1:=r1.length
 have e2:=r2.length
 by_cases hl:xs.length=ys.length
 · refine SeqAt.eq_listAt (e:=λj=>eqV (xs.getD j .non) (ys.getD j .non)) l1.isList l2.isList (by simp only [List.size_toArray]; omega) hu (λj h1 h2=>?_) ?_
   · have h1':j<its.length:=by simpa using h1
     have h2':j<its2.length:=by simpa using h2
     simpa using oF (A:=X.A.in1) (s:=s) (r1.getD_rel h1') (r2.getD_rel h2') (iO fx j) (iO fy j)
   · refine ⟨.bl (hJ xs ys),H,I,?_,k⟩;rw [iT hl];simp only [List.size_toArray,<-e1];rfl
 · refine SeqAt.eq_list_lengthsAt l1.isList l2.isList (by simp only [List.size_toArray,bne_iff_ne]; omega) hu ⟨.bl (hJ xs ys),H,I,?_,k⟩
   rw [rO hl];rfl
theorem aXB (hu:X.A.units<cLine):OpR X (compareOp .NotEq) (dZ5 X.K true):=by
 intro pins s σ H x y v u Q I rx ry h;obtain ⟨p,q,xs,ys,rfl,rfl,hp,hq,fx,fy,k⟩:=h;cases rx;cases ry;obtain ⟨its,r1,l1,_⟩:=I.list hp;obtain ⟨its2,r2,l2,_⟩:=I.list hq;have e1:=r1.length
 have e2:=r2.length
 by_cases hl:xs.length=ys.length
 · refine SeqAt.RcNeAt.lists (e:=λj=>eqV (xs.getD j .non) (ys.getD j .non)) l1.isList l2.isList (by simp only [List.size_toArray]; omega) hu (λj h1 h2=>?_) X.prog X.w _ _ ?_
   · have h1':j<its.length:=by simpa using h1
     have h2':j<its2.length:=by simpa using h2
     simpa using oF (A:=X.A.in1) (s:=s) (r1.getD_rel h1') (r2.getD_rel h2') (iO fx j) (iO fy j)
   · refine ⟨.bl (!hJ xs ys),H,I,?_,k⟩;rw [iT hl];simp only [List.size_toArray,<-e1];rfl
 · refine SeqAt.RcNeAt.lists_lengths l1.isList l2.isList (by simp only [List.size_toArray,bne_iff_ne]; omega) hu X.prog X.w _ _ ⟨.bl (!hJ xs ys),H,I,?_,k⟩
   rw [rO hl];rfl
end
end L2
set_option maxHeartbeats 4000000
namespace L2
open PySem PySem.Spec PyProof.Rows
def rdO:Option HO->Option (List V)
 | some (.lst xs)=>some xs
 | some (.frz _ (.lst xs))=>some xs
 | _=>none
def rdL (H:Hp) (a:Addr):Option (List V):=rdO (H a)
theorem bC {K:PySem.W.Frag} {H:Hp} {a:Addr} {xs:List V} (h:rdL H a=some xs):SqL K H a xs:=by
 unfold rdL rdO at h;split at h
 · cases h; exact .inl (.inl (by assumption))
 · cases h; exact .inl (.inr ⟨_,by assumption⟩)
 · cases h
theorem aQ {H:Hp} {a:Addr} {xs:List V} (h:H a=some (.lst xs)):rdL H a=some xs:=by unfold rdL; rw [h]; rfl
theorem bH {H:Hp} {a:Addr} {xs:List V}:rdL (upd H a (.lst xs)) a=some xs:=aQ aG
theorem aV {H H':Hp} {a:Addr} {xs:List V} (e:Same H H') (h:rdL H a=some xs):rdL H' a=some xs:=by
 unfold rdL at h ⊢;cases q:H a with
 | none=>rw [q] at h; cases h
 | some o=>rw [e a o q,<-q]; exact h
theorem aF {H:Hp} {p:Addr} (h:H p=none) (o:HO):Same H (upd H p o):=λb u q=>by rw [aK (bG q h)]; exact q
def hU (H:Hp) (a:Addr):Option (List V):=match H a with | some (.lst xs)=>some xs | _=>none
theorem eZ {H:Hp} {a:Addr} {xs:List V} (h:H a=some (.lst xs)):hU H a=some xs:=by unfold hU; rw [h]
theorem kY {H:Hp} {a:Addr} {xs:List V} (h:hU H a=some xs):H a=some (.lst xs):=by
 unfold hU at h;split at h
 · cases h; assumption
 · cases h
theorem eR {H:Hp} {a:Addr} {xs:List V}:hU (upd H a (.lst xs)) a=some xs:=eZ aG
theorem aZN {H:Hp} {a b:Addr} {o:HO} (h:b≠a):hU (upd H a o) b=hU H b:=by unfold hU; rw [aK h]
def kO (H:Hp) (a:Addr):Option (List V):=match H a with | some (.tup xs)=>some xs | _=>none
theorem eM {H:Hp} {a:Addr} {xs:List V} (h:H a=some (.tup xs)):kO H a=some xs:=by unfold kO; rw [h]
theorem gE {H:Hp} {a:Addr} {xs:List V} (h:kO H a=some xs):H a=some (.tup xs):=by
 unfold kO at h;split at h
 · cases h; assumption
 · cases h
theorem aZ3 {H:Hp} {a:Addr} {xs:List V}:kO (upd H a (.tup xs)) a=some xs:=eM aG
section
variable {X:Cx} {a b c:Expr} {ta tb tc:TE} {pos:Pos}
def cXP (i:Nat):TE:=λσ H Q=>match σ[i]? with | some (some v)=>Q v H | _=>False
theorem mv (i:Nat) {x:Str} {pos:Pos} (hN:X.N[i]?=some x:=by rfl) (hv:Vis X.env.scope x:=by first | exact Or.inl rfl | exact Or.inr (Or.inl rfl) | exact Or.inr (Or.inr rfl)) (hd:(x == ("__debug__" : Str))=false:=by decide)
   (hcd:(x == ("__classdict__" : Str))=false:=by decide):PE X (.Name x pos) (cXP i):=(pv i hN hv hd hcd).imp λσ H Q q=>by
 unfold cXP at q;split at q
 · exact ⟨_,by assumption,q⟩
 · exact q.elim
def mI (g:Int->Int->V):R2:=λx y H Q=>match x,y with | .int i,.int j=>Q (g i j) H | _,_=>False
theorem rH {g:Int->Int->V} {x y:V} {H:Hp} {Q:VK} (q:mI g x y H Q):rI0 g x y H Q:=by
 unfold mI at q;split at q
 · exact ⟨_,_,rfl,rfl,q⟩
 · exact q.elim
def mIC (C:Int->Int->Prop) (g:Int->Int->V):R2:=λx y H Q=>match x,y with | .int i,.int j=>C i j/\Q (g i j) H | _,_=>False
theorem wH {C:Int->Int->Prop} {g:Int->Int->V} {x y:V} {H:Hp} {Q:VK} (q:mIC C g x y H Q):rI C g x y H Q:=by
 unfold mIC at q;split at q
 · exact ⟨_,_,rfl,rfl,q.1,q.2⟩
 · exact q.elim
def aJB:R2:=λx y H Q=>match x,y with
 | .int i,.int j=>Q (.int (i+j)) H
 | .str z,.str y=>z.length+y.length<=sizeLine/\Q (.str (z++y)) H
 | .ref p,.ref q=>(match hU H p,hU H q with
   | some xs,some zs=>xs.length+zs.length<=sizeLine/\∀ r,H r=none->Q (.ref r) (upd H r (.lst (xs++zs)))
   | _,_=>False)
 | _,_=>False
theorem dW:OpR X (binaryOp .Add) aJB:=by
 intro pins s σ H x y v u Q I rx ry q;unfold aJB at q;split at q
 · exact dXC pins s σ H _ _ v u Q I rx ry ⟨_,_,rfl,rfl,q⟩
 · exact aQ2 pins s σ H _ _ v u Q I rx ry ⟨_,_,rfl,rfl,q.1,q.2⟩
 · split at q
   · exact dXY pins s σ H _ _ v u Q I rx ry ⟨_,_,_,_,rfl,rfl,kY (by assumption),kY (by assumption),q.1,q.2⟩
   · exact q.elim
 · exact q.elim
theorem cJ1:OpR X (binaryOp .Sub) (mI λi j=>.int (i - j)):=op_sub.imp λ_ _ _ _ q=>rH q
theorem cJE:OpR X (binaryOp .Mult) (mIC CMul λi j=>.int (i * j)):=op_mul.imp λ_ _ _ _ q=>wH q
theorem gS:OpR X (binaryOp .Mod) (mIC (λ_ j=>0<j) λi j=>.int (i % j)):=op_mod.imp λ_ _ _ _ q=>wH q
theorem iF:OpR X (binaryOp .FloorDiv) (mIC dJT λi j=>.int (i / j)):=op_fdiv.imp λ_ _ _ _ q=>wH q
theorem aZZ:OpR X (compareOp .Lt) (mI λi j=>.bl (decide (i<j))):=op_lt.imp λ_ _ _ _ q=>rH q
theorem eZD:OpR X (compareOp .LtE) (mI λi j=>.bl (decide (i<=j))):=op_le.imp λ_ _ _ _ q=>rH q
theorem xD:OpR X (compareOp .Gt) (mI λi j=>.bl (decide (j<i))):=op_gt.imp λ_ _ _ _ q=>rH q
theorem eQV:OpR X (compareOp .GtE) (mI λi j=>.bl (decide (j<=i))):=op_ge.imp λ_ _ _ _ q=>rH q
def dQ6:V->Hp->VK->Prop:=λx H Q=>match x with | .int i=>Q (.int (-i)) H | _=>False
theorem eQW:UnR X (unaryOp .USub) dQ6:=λpins s σ H x v Q I rx q=>by
 unfold dQ6 at q;split at q
 · exact dXZ pins s σ H _ v Q I rx ⟨_,rfl,q⟩
 · exact q.elim
def mEq:R2:=λx y H Q=>cZB x y=true/\Q (.bl (decide (x=y))) H
theorem gG:OpR X (compareOp .Eq) mEq:=dJ4
def mNe:R2:=λx y H Q=>cZB x y=true/\Q (.bl (!decide (x=y))) H
theorem cXT:OpR X (compareOp .NotEq) mNe:=dJU
def aJ3 (neg:Bool):R2:=λx y H Q=>match x,y with
 | .ref p,.ref q=>(match rdL H p,rdL H q with
   | some xs,some ys=>xs.all bO=true/\ys.all bO=true/\Q (.bl (if neg then !hJ xs ys else hJ xs ys)) H
   | _,_=>False)
 | _,_=>False
theorem zB {K:PySem.W.Frag} {neg:Bool} {x y:V} {H:Hp} {Q:VK} (q:aJ3 neg x y H Q):dZ5 K neg x y H Q:=by
 unfold aJ3 at q;split at q
 · split at q
   · exact ⟨_,_,_,_,rfl,rfl,bC (by assumption),bC (by assumption),q.1,q.2.1,q.2.2⟩
   · exact q.elim
 · exact q.elim
theorem cJS (hu:X.A.units<cLine):OpR X (compareOp .Eq) (aJ3 false):=(aQK hu).imp λ_ _ _ _ q=>zB q
theorem cJ9 (hu:X.A.units<cLine):OpR X (compareOp .NotEq) (aJ3 true):=(aXB hu).imp λ_ _ _ _ q=>zB q
def dZA:R2:=λx y H Q=>match y with | .non=>Q (.bl (decide (x=.non))) H | _=>False
theorem aZO:OpR X (compareOp .Is) dZA:=op_isN.imp λ_ y _ _ q=>by
 unfold dZA at q;split at q
 · exact ⟨rfl,q⟩
 · exact q.elim
def bZQ:R2:=λx y H Q=>match y with | .non=>Q (.bl (!decide (x=.non))) H | _=>False
theorem bZL:OpR X (compareOp .IsNot) bZQ:=op_notN.imp λ_ y _ _ q=>by
 unfold bZQ at q;split at q
 · exact ⟨rfl,q⟩
 · exact q.elim
def subIn (y x:Str):Bool:=!(Builtin.Str.occurrences x y 0 x.length 1).isEmpty
theorem lF (x:Str) (c:Nat):subIn ⟨#[c]⟩ x=decide (c∈x.cps.toList):=PySem.StrLaws.found_one x c
def dXO (neg:Bool):R2:=λx y H Q=>match x,y with | .str i,.str j=>Q (.bl (if neg then !subIn i j else subIn i j)) H | _,_=>False
theorem tM:OpR X (compareOp .In) (dXO false):=op_in_str.imp λ_ _ _ _ q=>by
 unfold dXO at q;split at q
 · exact ⟨_,_,rfl,rfl,q⟩
 · exact q.elim
def bZ2 (neg:Bool):R2:=λx y H Q=>match y with
 | .ref p=>(match rdL H p with | some xs=>bO x=true/\xs.all bO=true/\Q (.bl (if neg then !inV x xs else inV x xs)) H | none=>False)
 | _=>False
theorem bJ5 {K:PySem.W.Frag} {neg:Bool} {x y:V} {H:Hp} {Q:VK} (q:bZ2 neg x y H Q):rIn K neg x y H Q:=by
 unfold bZ2 at q;split at q
 · split at q
   · exact ⟨_,_,rfl,.inl (bC (by assumption)),q.1,q.2.1,q.2.2⟩
   · exact q.elim
 · exact q.elim
theorem aZH:OpR X (compareOp .In) (bZ2 false):=op_in_seq.imp λ_ _ _ _ q=>bJ5 q
def mB (Q:Bool->Hp->Prop):VK:=λx H=>match x with | .bl k=>Q k H | _=>False
theorem cJ6 {Q:Bool->Hp->Prop} {x:V} {H:Hp} (q:mB Q x H):∃ k,x=.bl k/\Q k H:=by
 unfold mB at q;split at q
 · exact ⟨_,rfl,q⟩
 · exact q.elim
def cJZ (t:TE):TT:=λσ H Q=>t σ H (mB Q)
theorem bB {op:CmpOp} {r:R2} (ho:OpR X (compareOp op) r) (ha:PE X a ta) (hb:PE X b tb) (hm:behindInMarks op b=false):PT X (.Compare a [op] [b] pos) (cJZ (tOp r ta tb)):=by
 intro pins s σ H Q I h;refine wpAny_isTrue_Compare1 (thn (ha pins s σ H _ I h) λv s1 ⟨x,H1,I1,r1,q1⟩=>thn (hb pins s1 σ H1 _ I1 q1) λu s2 ⟨y,H2,I2,r2,q2⟩=>
   thn (ho pins s2 σ H2 x y v u _ I2 r1 r2 q2) λc s3 ⟨z,H3,I3,r3,q⟩=>?_) hm
 obtain ⟨k,e,q3⟩:=cJ6 q;subst e;cases r3;exact Ff ⟨H3,I3,q3⟩
def bJT (Q:Bool->Hp->Prop):VK:=λx H=>match x with
 | .non=>Q false H
 | .bl k=>Q k H
 | .int i=>Q (i != 0) H
 | .str y=>y.length<=sizeLine/\Q ((y.length:Int) != 0) H
 | .ref p=>(match rdL H p with
   | some xs=>Q (!xs.isEmpty) H
   | none=>(match H p with | some (.dK kvs)=>Q (!kvs.isEmpty) H | _=>False))
 | _=>False
theorem cZE {K:PySem.W.Frag} {Q:Bool->Hp->Prop} {x:V} {H:Hp} (q:bJT Q x H):∃ k,dJ7 K x H k/\Q k H:=by
 unfold bJT at q;split at q
 · exact ⟨_,rfl,q⟩
 · exact ⟨_,rfl,q⟩
 · exact ⟨_,rfl,q⟩
 · exact ⟨_,⟨q.1,rfl⟩,q.2⟩
 · split at q
   · exact ⟨_,.inl ⟨_,bC (by assumption),rfl⟩,q⟩
   · split at q
     · exact ⟨_,.inr (.inr ⟨_,by assumption,rfl⟩),q⟩
     · exact q.elim
 · exact q.elim
def bZJ (t:TE):TT:=λσ H Q=>t σ H (bJT Q)
theorem dZ (ha:PE X a ta) (he:∀ whole,isTrue a X.env whole=(do let v <-whole; standAt a.pos; holding [v] (truthy v)):=by intro _; rfl):PT X a (bZJ ta):=by
 intro pins s σ H Q I h;refine isTrue_plain (thn (ha pins s σ H _ I h) λv s1 ⟨x,H1,I1,r1,q1⟩=>dXW pins s1 σ H1 x v Q I1 r1 (cZE q1)) (he _)
variable {rest:List Expr}
def cJX (ta tb:TE):TE:=λσ H Q=>ta σ H (mB λc H1=>if c=true then tb σ H1 Q else Q (.bl false) H1)
theorem wG (ha:PE X a ta) (hb:PE X (.BoolOp .And (b::rest) pos) tb):PE X (.BoolOp .And (a::b::rest) pos) (cJX ta tb):=by
 intro pins s σ H Q I h;refine BoolOp_and (thn (ha pins s σ H _ I h) λv s1 ⟨x,H1,I1,r1,q1⟩=>?_);obtain ⟨c,rfl,q1⟩:=cJ6 q1;cases r1;refine Ff ?_;cases c with
 | true=>exact hb pins s1 σ H1 Q I1 q1
 | false=>exact ⟨.bl false,H1,I1,rfl,q1⟩
def mIx:R2:=λx y H Q=>match x,y with
 | .str z,.int i=>z.length<=sizeLine/\(match atI z.cps.toList i with | some c=>Q (.str ⟨#[c]⟩) H | none=>False)
 | .ref p,.int i=>(match rdL H p with
   | some xs=>(match atI xs i with | some v=>Q v H | none=>False)
   | none=>(match kO H p with
     | some xs=>(match atI xs i with | some v=>Q v H | none=>False)
     | none=>False))
 | _,_=>False
theorem cZT {K:PySem.W.Frag} {x y:V} {H:Hp} {Q:VK} (q:mIx x y H Q):rIx K x y H Q:=by
 unfold mIx at q;split at q
 · obtain ⟨h1,q⟩:=q;split at q
   · exact .inr (.inr ⟨_,_,_,rfl,rfl,h1,by assumption,q⟩)
   · exact q.elim
 · split at q
   · split at q
     · exact .inl ⟨_,_,_,_,rfl,rfl,bC (by assumption),by assumption,q⟩
     · exact q.elim
   · split at q
     · split at q
       · exact .inr (.inl ⟨_,_,_,_,rfl,rfl,SqT.of (gE (by assumption)),by assumption,q⟩)
       · exact q.elim
     · exact q.elim
 · exact q.elim
theorem bW:IxR X mIx:=ix_seq.imp λ_ _ _ _ q=>cZT q
def mSl:V->Option Int->Option Int->Hp->VK->Prop:=λx lo hi H Q=>match x with
 | .str z=>z.length<=sizeLine/\Q (.str (Txt.slice z lo hi)) H
 | .ref p=>(match rdL H p with | some xs=>∀ r,H r=none->Q (.ref r) (upd H r (.lst (pJ xs lo hi))) | none=>False)
 | _=>False
theorem aXI:SlR X mSl:=(sl_list.or dXJ).imp λ_ _ _ _ _ q=>by
 unfold mSl at q;split at q
 · exact .inr ⟨_,rfl,q.1,q.2⟩
 · split at q
   · exact .inl ⟨_,_,rfl,bC (by assumption),q⟩
   · exact q.elim
 · exact q.elim
def vI (Q:Option Int->Hp->Prop):VK:=λx H1=>match x with | .int i=>Q (some i) H1 | _=>False
def cJI (t:TE):TO:=λσ H Q=>t σ H (vI Q)
variable {e:Expr} {te:TE}
theorem jM (h:PE X e te):PO X (some e) (cJI te):=by
 intro pins s σ H Q I hw;rw [evalPart_some];refine thn (h pins s σ H _ I hw) λu s1 ⟨x,H1,I1,r1,q1⟩=>?_;unfold vI at q1;split at q1
 · obtain ⟨t,rfl⟩:=r1;exact ⟨_,H1,I1,.int _ t,q1⟩
 · exact q1.elim
def zW:List V->Hp->VK->Prop:=λxs H Q=>match xs with
 | [.str z]=>z.length<=sizeLine/\Q (.int z.length) H
 | [.ref p]=>(match rdL H p with
   | some xs=>Q (.int xs.length) H
   | none=>(match kO H p with | some xs=>Q (.int xs.length) H | none=>False))
 | _=>False
theorem fI:CallR X (.builtin "len") zW:=call_len.imp λ_ _ _ q=>by
 unfold zW at q;split at q
 · exact ⟨_,_,rfl,⟨q.1,rfl⟩,q.2⟩
 · split at q
   · exact ⟨_,_,rfl,.inl ⟨_,bC (by assumption),rfl⟩,q⟩
   · split at q
     · exact ⟨_,_,rfl,.inr ⟨_,SqT.of (gE (by assumption)),rfl⟩,q⟩
     · exact q.elim
 · exact q.elim
def eZR:List V->Hp->VK->Prop:=λxs H Q=>match xs with | [.int i,.int j]=>Q (.int (if j<i then j else i)) H | _=>False
def cXY:List V->Hp->VK->Prop:=λxs H Q=>match xs with
 | [.int i]=>Q (.int i) H
 | [.str x]=>(match PySem.intText? x with | some n=>x.length<=640/\Q (.int n) H | none=>False)
 | _=>False
theorem bJZ:CallR X (.type "int") cXY:=(call_int1.or sA).imp λ_ _ _ q=>by
 unfold cXY at q;split at q
 · exact .inl (.inl ⟨_,rfl,q⟩)
 · split at q
   · exact .inr ⟨_,_,rfl,by assumption,q.1,q.2⟩
   · exact q.elim
 · exact q.elim
def aZD:List V->Hp->VK->Prop:=λxs H Q=>match xs with
 | [.ref p]=>(match rdL H p with
   | some ys=>∀ l,H l=none->Q (.ref l) (upd H l (.lst ys))
   | none=>(match kO H p with | some ys=>∀ l,H l=none->Q (.ref l) (upd H l (.lst ys)) | none=>False))
 | _=>False
theorem zG:CallR X (.type "list") aZD:=call_list_of.imp λ_ _ _ q=>by
 unfold aZD at q;split at q
 · split at q
   · exact ⟨_,_,rfl,.inl (bC (by assumption)),q⟩
   · split at q
     · exact ⟨_,_,rfl,.inr (SqT.of (gE (by assumption))),q⟩
     · exact q.elim
 · exact q.elim
def aQX (T:String) (x:V) (H:Hp) (P:Prop):Prop:=match x with
 | .str _=>T="str"/\P
 | .ref p=>(match rdL H p with | some _=>T="list"/\P | none=>False)
 | _=>False
theorem bQR {K:PySem.W.Frag} {T:String} {x:V} {H:Hp} {P:Prop} (q:aQX T x H P):tyV K T x H/\P:=by
 unfold aQX at q;split at q
 · exact ⟨q.1,q.2⟩
 · split at q
   · exact ⟨.inl ⟨q.1,_,bC (by assumption)⟩,q.2⟩
   · exact q.elim
 · exact q.elim
def cZ9 (T:String) (r:V->List V->Hp->VK->Prop) (to:TE) (t:TA):TE:=λσ H Q=>to σ H λx H1=>aQX T x H1 (t σ H1 λxs H2=>r x xs H2 Q)
variable {o:Expr} {es:List Expr} {to:TE} {t:TA} {name:Str} {apos cpos:Pos} {T id:String} {r:V->List V->Hp->VK->Prop}
theorem bX (pa:PlainAttrs T) (slot:Slot T name id) (hty:typeOf (.builtin id)=pure (.type "method_descriptor")) (hm:MtR X id r) (ho:PE X o to) (ha:PA X (e::es) t)
   (hbase:attributeBase o name X.env (eval o X.env)=eval o X.env:=by rfl)
   (hfew:((backTo cpos (starEach (e::es) X.env)).all (λx=>!x.1) && (backToKw cpos (keywordEach [] X.env)).all (λx=>x.1.isSome)
     && decide ((e::es).length+([]:List Keyword).length+(if ([]:List Keyword).isEmpty then 0 else 1)<30))=true:=by rfl)
   (hline:(apos.endLine == cpos.line)=true:=by rfl) (hs:starEach (e::es) X.env=(false,eval e X.env)::starEach es X.env:=by rfl) (hplain:(backTo cpos (starEach es X.env)).any (·.1)=false:=by rfl) :
   PE X (.Call (.Attribute o name apos) (e::es) [] cpos) (cZ9 T r to t):=by
 intro pins s σ H Q I h;refine Gf hbase hfew hline rfl (thn (ho pins s σ H _ I h) λv s1 ⟨x,H1,I1,r1,q⟩=>?_);obtain ⟨ty,q1⟩:=bQR (K:=X.K) q;obtain ⟨h1,h2⟩:=dXG I1 r1 ty;refine ⟨T,id,pa,slot,hty,h1,h2,?_⟩;have hA:=ha cpos pins s1 σ H1 _ I1 q1
 rw [hs] at hA ⊢;refine Gg (by show (false || (backTo cpos (starEach es X.env)).any (·.1))=false; rw [hplain] <;> rfl) (Fk ?_)
 exact thn hA λus s2 ⟨vs,H2,I2,r2,q2⟩=>hm pins s2 σ H2 x vs v us Q I2 r1 r2 q2
def cXO:V->List V->Hp->VK->Prop:=λx vs H Q=>match x,vs with
 | .ref l,[y]=>(match hU H l with | some xs=>xs.length<sizeLine/\Q .non (upd H l (.lst (xs++[y]))) | none=>False)
 | _,_=>False
theorem cJ0:MtR X "list.append" cXO:=MtR.imp (r:=aX8) oG λ_ _ _ _ q=>by
 unfold cXO at q;split at q
 · split at q
   · exact ⟨_,_,_,rfl,rfl,kY (by assumption),q.1,q.2⟩
   · exact q.elim
 · exact q.elim
def vQ:V->List V->Hp->VK->Prop:=λx vs H Q=>match x,vs with
 | .str z,[.str y]=>(match Builtin.Str.occurrences z y 0 z.length 1 with | i::_=>Q (.int ((i:Nat):Int)) H | []=>False)
 | _,_=>False
theorem cX9:MtR X "str.index" vQ:=mt_index.imp λ_ _ _ _ q=>by
 unfold vQ at q;split at q
 · split at q
   · exact ⟨_,_,_,_,rfl,rfl,by assumption,q⟩
   · exact q.elim
 · exact q.elim
def mH:List V->Option (List Str)
 | []=>some []
 | .str z::r=>(mH r).map (z::·)
 | _=>none
theorem aQV (ys:List Str):mH (ys.map V.str)=some ys:=by
 induction ys with
 | nil=>rfl
 | cons y r ih=>rw [Aw,mH,ih]; rfl
theorem sS:∀ {xs:List V} {ys:List Str},mH xs=some ys->xs=ys.map V.str
 | [],_,h=>by cases h; rfl
 | .str z::r,_,h=>by
   rw [mH] at h;cases e:mH r with
   | none=>rw [e] at h; cases h
   | some l=>rw [e] at h; cases h; rw [sS e]; rfl
 | .non::_,_,h=>by cases h
 | .bl _::_,_,h=>by cases h
 | .int _::_,_,h=>by cases h
 | .byt _::_,_,h=>by cases h
 | .flt _::_,_,h=>by cases h
 | .ref _::_,_,h=>by cases h
 | .ty _::_,_,h=>by cases h
def aX4:V->List V->Hp->VK->Prop:=λx vs H Q=>match x,vs with
 | .str z,[.ref p]=>(match rdL H p with
   | some xs=>(match mH xs with | some ys=>(ys.map (·.length)).sum+ys.length * z.length<=16777216/\Q (.str (Txt.join z ys)) H | none=>False)
   | none=>False)
 | _,_=>False
theorem kH:MtR X "str.join" aX4:=mt_join.imp λ_ _ _ _ q=>by
 unfold aX4 at q;split at q
 · split at q
   · split at q
     · have e:=sS (by assumption)
       subst e;exact ⟨_,_,_,rfl,rfl,bC (by assumption),q.1,q.2⟩
     · exact q.elim
   · exact q.elim
 · exact q.elim
def lZ:List V->Option (List Bool)
 | []=>some []
 | .bl z::r=>(lZ r).map (z::·)
 | _=>none
theorem zT (ys:List Bool):lZ (ys.map V.bl)=some ys:=by
 induction ys with
 | nil=>rfl
 | cons y r ih=>rw [Aw,lZ,ih]; rfl
theorem tX:∀ {xs:List V} {ys:List Bool},lZ xs=some ys->xs=ys.map V.bl
 | [],_,h=>by cases h; rfl
 | .bl z::r,_,h=>by
   rw [lZ] at h;cases e:lZ r with
   | none=>rw [e] at h; cases h
   | some l=>rw [e] at h; cases h; rw [tX e]; rfl
 | .non::_,_,h=>by cases h
 | .str _::_,_,h=>by cases h
 | .int _::_,_,h=>by cases h
 | .byt _::_,_,h=>by cases h
 | .flt _::_,_,h=>by cases h
 | .ref _::_,_,h=>by cases h
 | .ty _::_,_,h=>by cases h
def cQU:List V->Hp->VK->Prop:=λvs H Q=>match vs with
 | [.ref p]=>(match rdL H p with
   | some xs=>(match lZ xs with | some bs=>Q (.bl (bs.all _root_.id)) H | none=>False)
   | none=>False)
 | _=>False
theorem tE (hc:X.calm=true):CallR X (.builtin "all") cQU:=(rY hc).imp λ_ _ _ q=>by
 unfold cQU at q;split at q
 · split at q
   · split at q
     · have e:=tX (by assumption)
       subst e;exact ⟨_,_,rfl,bC (by assumption),q⟩
     · exact q.elim
   · exact q.elim
 · exact q.elim
end
end L2
namespace L2
open PySem PySem.Spec PyProof.Rows
def xT (R:Str->Hp->Prop):VK:=λx H=>match x with | .str z=>R z H | _=>False
theorem bJB {R:Str->Hp->Prop} {x:V} {H:Hp} (q:xT R x H):∃ z,x=.str z/\R z H:=by
 unfold xT at q;split at q
 · exact ⟨_,rfl,q⟩
 · exact q.elim
def onL (o:Option (List V)) (P:Prop):Prop:=match o with | some _=>P | none=>False
def iA (R:Addr->Hp->Prop):VK:=λx H=>match x with | .ref a=>R a H | _=>False
theorem bJP {R:Addr->Hp->Prop} {x:V} {H:Hp} (q:iA R x H):∃ a,x=.ref a/\R a H:=by
 unfold iA at q;split at q
 · exact ⟨_,rfl,q⟩
 · exact q.elim
section
variable {X:Cx} {tg l a b:Expr} {tl ta tb:TE} {p pos:Pos}
def eQ3 (tl:TE):TI:=λσ H R=>tl σ H (xT λz H1=>R (Its z) H1)
theorem nW (hl:PE X l tl):PI X tg l (eQ3 tl):=by
 intro pins s σ H R I h;refine thn (hl pins s σ H _ I h) λv s1 ⟨x,H1,I1,r1,q1⟩=>?_;obtain ⟨z,rfl,q⟩:=bJB q1;obtain ⟨t,rfl⟩:=r1;have fb:∀ b∈[s1.heap.objs.size],iG X pins H1 b:=λb hb=>by
   have e:b=s1.heap.objs.size:=by simpa using hb
   subst e;exact I1.fpOk (Ag _) (I1.hok.fresh (Ag _))
 cases ha:z.cps.all (· < 128)
 · refine wpAny_pyIter_wide ha ?_;exact ⟨s1.heap.objs.size,[s1.heap.objs.size],_,_,H1,rfl,I1.kept (t':=s1.toks) λb o e=>Ad _ e,aJ1 z t _,⟨_,Ar _ rfl,rfl,rfl⟩,fb,q⟩
 · refine wpAny_pyIter_ascii ha ?_;exact ⟨s1.heap.objs.size,[s1.heap.objs.size],_,_,H1,rfl,I1.kept (t':=s1.toks) λb o e=>Ad _ e,zS z t _,⟨_,Ar _ rfl,rfl,rfl⟩,fb,q⟩
def cJC (K:PySem.W.Frag) (tl:TE):TI:=λσ H R=>tl σ H (iA λa H1=>onL (rdL H1 a) (R (Itl K a) H1))
theorem cQ (hl:PE X l tl):PI X tg l (cJC X.K tl):=by
 intro pins s σ H R I h;refine thn (hl pins s σ H _ I h) λv s1 ⟨x,H1,I1,r1,q1⟩=>?_;obtain ⟨a,rfl,q⟩:=bJP q1;cases r1;unfold onL at q;split at q
 · rename_i xs e
   obtain ⟨its,rv,p,hz⟩:=I1.list (bC e);refine Ej p.isList ?_;refine ⟨s1.heap.objs.size,[s1.heap.objs.size],_,_,H1,rfl,I1.kept (t':=s1.toks) λb o e=>Ad _ e,aJ0 a _,⟨_,Ar _ rfl,rfl,rfl⟩,λb hb=>?_,q⟩;have e:b=s1.heap.objs.size:=by simpa using hb
   subst e;exact I1.fpOk (Ag _) (I1.hok.fresh (Ag _))
 · exact q.elim
def qJ (R:Int->Hp->Prop):List V->Hp->Prop:=λvs H=>match vs with | [.int j]=>R j H | _=>False
theorem pT {R:Int->Hp->Prop} {vs:List V} {H:Hp} (q:qJ R vs H):∃ j,vs=[.int j]/\R j H:=by
 unfold qJ at q;split at q
 · exact ⟨_,rfl,q⟩
 · exact q.elim
def bJL (R:Int->Int->Hp->Prop):List V->Hp->Prop:=λvs H=>match vs with | [.int i,.int j]=>R i j H | _=>False
theorem cXH {R:Int->Int->Hp->Prop} {vs:List V} {H:Hp} (q:bJL R vs H):∃ i j,vs=[.int i,.int j]/\R i j H:=by
 unfold bJL at q;split at q
 · exact ⟨_,_,rfl,q⟩
 · exact q.elim
def cJW (ta:TA):TI:=λσ H R=>ta σ H (qJ λj H1=>(-(2 ^ 62)<=j/\j<2 ^ 62)/\R (Itr 0 j.toNat) H1)
def cJY (ta:TA):TI:=λσ H R=>ta σ H (bJL λi j H1=>(-(2 ^ 62)<=i/\i<2 ^ 62/\-(2 ^ 62)<=j/\j<2 ^ 62)/\R (Itr i (j - i).toNat) H1)
theorem sZ {ta:TA} (hg:Gl X "range") (hm:X.mg "range"=none) (ha:PA X [a] ta) (hs:starEach [a] X.env=[(false,eval a X.env)]:=by rfl):PI X tg (.Call (.Name "range" p) [a] [] pos) (cJW ta):=by
 intro pins s σ H R I h;refine Call_ (mE I hg hm boot_range (Fg (thn (ha pos pins s σ H _ I h) λus s1 ⟨vs,H1,I1,r1,q1⟩=>?_) hs rfl));obtain ⟨j,e,⟨b1,b2⟩,q⟩:=pT q1;subst e;cases r1 with
 | cons r rr=>
   cases rr;obtain ⟨t,rfl⟩:=r;exact call_range_1 (yT I1 (by omega) (by omega) b1 b2 (by simpa using q))
theorem aZY {ta:TA} (hg:Gl X "range") (hm:X.mg "range"=none) (ha:PA X [a,b] ta) (hs:starEach [a,b] X.env=[(false,eval a X.env),(false,eval b X.env)]:=by rfl) (hs2:starEach [b] X.env=[(false,eval b X.env)]:=by rfl) :
   PI X tg (.Call (.Name "range" p) [a,b] [] pos) (cJY ta):=by
 intro pins s σ H R I h;refine Call_ (mE I hg hm boot_range (Fg (thn (ha pos pins s σ H _ I h) λus s1 ⟨vs,H1,I1,r1,q1⟩=>?_) (by rw [hs,hs2]) (by rw [hs2]; rfl)))
 obtain ⟨i,j,e,⟨b1,b2,b3,b4⟩,q⟩:=cXH q1;subst e;cases r1 with
 | cons r rr=>
   cases rr with
   | cons r' rr=>
     cases rr;obtain ⟨t,rfl⟩:=r;obtain ⟨t',rfl⟩:=r';exact call_range_2 (yT I1 b1 b2 b3 b4 q)
def aZ4 (J:It) (g:TG) (tb:TS) (D:Ends) (σ:St) (H1:Hp):Prop:=∃ W:Nat->Nat->St->Hp->Prop,(∃ m,W 0 m σ H1)/\∀ i m σ H,W i m σ H->
 (J.stop i H/\D.nx σ H)\/(J.go i H/\∃ N:St->Hp->Prop,(∀ σ' H',N σ' H'->∃ m',m' < m/\W (i+1) m' σ' H')/\∀ x H',J.yld i H x H'->g x σ H' λσ2 H2=>tb { D with nx:=N,ct:=N,bk:=D.nx } σ2 H2)
def cJ2 (wi:TI) (g:TG) (tb:TS):TS:=λD σ H=>wi σ H λJ H1=>aZ4 J g tb D σ H1
theorem mD {iter:Expr} {body:List Stmt} {wi:TI} {g:TG} {tb:TS} (hp:PassesOwn (model X.prog X.w) X.A X.env X.xe) (hc:X.calm=true) (hi:PI X tg iter wi) (hg:PG X tg g) (hb:PSs X body tb)
   (hs:∀ x,foldedSetIterable iter X.env x=pure x:=by intro _; rfl):PS X (.For tg iter body [] pos) (cJ2 wi g tb):=dQY (wi:=wi) hp hc hi hg hb hs
section
variable {K:PySem.W.Frag} {c:Addr} {xs:List V} {z:Str} {lo:Int} {n:Nat} {g:TG} {tb:TS} {D:Ends} {σ:St} {H:Hp}
theorem wA (Pv:Nat->St->Hp->Prop) (h0:Pv 0 σ H) (hl:∀ i σ H,i<=xs.length->Pv i σ H->rdL H c=some xs)
   (hs:∀ i x σ H,xs[i]?=some x->Pv i σ H->g x σ H λσ2 H2=>tb { D with nx:=Pv (i+1),ct:=Pv (i+1),bk:=D.nx } σ2 H2) (hd:∀ σ H,Pv xs.length σ H->D.nx σ H):aZ4 (Itl K c) g tb D σ H :=
 bZC Pv h0 (λi σ H hi p=>bC (hl i σ H hi p)) hs hd
theorem bQQ (Pv:Nat->St->Hp->Prop) (h0:Pv 0 σ H)
   (hs:∀ i c σ H,z.cps.toList[i]?=some c->Pv i σ H->g (.str ⟨#[c]⟩) σ H λσ2 H2=>tb { D with nx:=Pv (i+1),ct:=Pv (i+1),bk:=D.nx } σ2 H2) (hd:∀ σ H,Pv z.cps.toList.length σ H->D.nx σ H):aZ4 (Its z) g tb D σ H :=
 cX4 Pv h0 hs hd
theorem zF (Pv:Nat->St->Hp->Prop) (h0:Pv 0 σ H)
   (hs:∀ i σ H,i<n->Pv i σ H->g (.int (lo+i)) σ H λσ2 H2=>tb { D with nx:=Pv (i+1),ct:=Pv (i+1),bk:=D.nx } σ2 H2) (hd:∀ σ H,Pv n σ H->D.nx σ H):aZ4 (Itr lo n) g tb D σ H :=
 bQH Pv h0 hs hd
end
theorem dXR {x:Str} {T:String} (hg:Gl X x) (hm:X.mg x=none) (hv:bootBuiltins x=some (.type T)) (hn:x≠"__name__" := by decide) (hd:(x == ("__debug__" : Str))=false:=by decide):PE X (.Name x pos) (tC (.ty T)):=cZA hg hm hv rfl hn hd
end
end L2
set_option maxHeartbeats 4000000
namespace L2
open PySem PySem.Spec PyProof.Rows
section
variable {K:PySem.W.Frag} {σ:St} {H:Hp} {Q:VK} {QB:Bool->Hp->Prop} {QA:List V->Hp->Prop} {QO:Option Int->Hp->Prop} {D:Ends} {t u:TS} {te ta tb tc:TE} {tt tu:TT} {tA:TA} {r r':R2} {x y v:V} {i j:Int} {z z':Str} {p q:Addr} {xs ys vs:List V} {k n:Nat}
theorem eW (h:t { D with nx:=u D } σ H):dZH t u D σ H:=h
theorem dZ3 (h:D.nx σ H):cJN D σ H:=h
theorem eX0 {c:TT} (h:c σ H λb H1=>if b=true then t D σ H1 else u D σ H1):eXQ c t u D σ H:=h
theorem dJS (h:te σ H D.rt):eQP te D σ H:=h
theorem dXI (h:te σ H λ_ H1=>D.nx σ H1):cJT te D σ H:=h
theorem eQ7 {g:TG} (h:te σ H λx H1=>g x σ H1 D.nx):bX8 te g D σ H:=h
theorem eQI {wi:TI} {g:TG} {tb:TS} (h:wi σ H λJ H1=>aZ4 J g tb D σ H1):cJ2 wi g tb D σ H:=h
theorem cZ2 {QS:St->Hp->Prop} (h:QS (σ.set k (some v)) H):lP k v σ H QS:=h
theorem dX1 {QS:St->Hp->Prop} {to ti:TE} {ts:cXD} (h:to σ H λo H1=>ti σ H1 λi H2=>ts o i v H2 λH3=>QS σ H3):eQ4 to ti ts v σ H QS:=h
theorem eQ8 (e:σ[k]?=some (some v)) (h:Q v H):cXP k σ H Q:=by unfold cXP; rw [e]; exact h
theorem s_c (h:Q v H):tC v σ H Q:=h
theorem eZM (h:ta σ H λx H1=>tb σ H1 λy H2=>r x y H2 Q):tOp r ta tb σ H Q:=h
theorem eXZ {ru:V->Hp->VK->Prop} (h:ta σ H λx H1=>ru x H1 Q):tUn ru ta σ H Q:=h
theorem dJI (h:QA [] H):bQ1 σ H QA:=h
theorem dQO {tr:TA} (h:ta σ H λx H1=>tr σ H1 λxs H2=>QA (x::xs) H2):aZC ta tr σ H QA:=h
theorem eQF (h:tA σ H λxs H1=>xs.length<=sizeLine/\∀ p,H1 p=none->Q (.ref p) (upd H1 p (.lst xs))):eXF tA σ H Q:=h
theorem eQU (h:tA σ H λxs H1=>xs.length<=sizeLine/\∀ p,H1 p=none->Q (.ref p) (upd H1 p (.tup xs))):eXH tA σ H Q:=h
theorem dZL {sp:Sp} {E:XK} (h:tA σ H λvs H1=>sp (vs++[]) H1 Q E):aXS sp [] E tA σ H Q:=h
theorem eX4 {rc:List V->Hp->VK->Prop} (h:tA σ H λvs H1=>rc vs H1 Q):tCB rc tA σ H Q:=h
theorem eX8 {rs:V->Option Int->Option Int->Hp->VK->Prop} {tl th:TO} (h:te σ H λx H1=>tl σ H1 λl H2=>th σ H2 λu H3=>rs x l u H3 Q):tSl rs te tl th σ H Q:=h
theorem bQ7 (h:QO none H):aXU σ H QO:=h
theorem dZ4 (h:te σ H (vI QO)):cJI te σ H QO:=h
theorem bJ8 (h:QO (some i) H):vI QO (.int i) H:=h
theorem dZ8 {T:String} {rm:V->List V->Hp->VK->Prop} {to:TE} (h:to σ H λx H1=>aQX T x H1 (tA σ H1 λxs H2=>rm x xs H2 Q)):cZ9 T rm to tA σ H Q:=h
theorem eQC {P:Prop} (h:P):aQX "str" (.str z) H P:=⟨rfl,h⟩
theorem eXN {P:Prop} (e:rdL H p=some xs) (h:P):aQX "list" (.ref p) H P:=by unfold aQX; simp only [e]; exact ⟨trivial,h⟩
theorem dQ5 (h:te σ H (mB QB)):cJZ te σ H QB:=h
theorem cZF (h:te σ H (bJT QB)):bZJ te σ H QB:=h
theorem eZE {b:Bool} (h:QB b H):mB QB (.bl b) H:=h
theorem dZK {b:Bool} (h:QB b H):bJT QB (.bl b) H:=h
theorem eQR (h:tt σ H λc H1=>if c=true then tu σ H1 QB else QB false H1):dJG tt tu σ H QB:=h
theorem eX9 (h:tt σ H λc H1=>if c=true then QB true H1 else tu σ H1 QB):tOr tt tu σ H QB:=h
theorem eQ5 (h:tt σ H λc H1=>QB (!c) H1):eQE tt σ H QB:=h
theorem dQ1 (h:ta σ H (mB λc H1=>if c=true then tb σ H1 Q else Q (.bl false) H1)):cJX ta tb σ H Q:=h
theorem eXP (h:tt σ H λc H1=>if c=true then ta σ H1 Q else tb σ H1 Q):tIf tt ta tb σ H Q:=h
theorem eZB {g:Int->Int->V} (h:Q (g i j) H):mI g (.int i) (.int j) H Q:=h
theorem eQO {C:Int->Int->Prop} {g:Int->Int->V} (c:C i j) (h:Q (g i j) H):mIC C g (.int i) (.int j) H Q:=⟨c,h⟩
theorem dXN (h:Q (.int (i+j)) H):aJB (.int i) (.int j) H Q:=h
theorem bZB (c:z.length+z'.length<=sizeLine) (h:Q (.str (z++z')) H):aJB (.str z) (.str z') H Q:=⟨c,h⟩
theorem qZ (e:hU H p=some xs) (e':hU H q=some ys) (c:xs.length+ys.length<=sizeLine) (h:∀ r,H r=none->Q (.ref r) (upd H r (.lst (xs++ys)))):aJB (.ref p) (.ref q) H Q:=by
 unfold aJB; simp only [e,e']; exact ⟨c,h⟩
theorem dJ6 (h:Q (.bl (decide (i=j))) H):mEq (.int i) (.int j) H Q:=⟨rfl,by
 rw [show decide (V.int i=V.int j)=decide (i=j) by simp]; exact h⟩
theorem eXE (h:Q (.bl (decide (z=z'))) H):mEq (.str z) (.str z') H Q:=⟨rfl,by
 rw [show decide (V.str z=V.str z')=decide (z=z') by simp]; exact h⟩
theorem eXW (h:Q (.bl (!decide (i=j))) H):mNe (.int i) (.int j) H Q:=⟨rfl,by
 rw [show decide (V.int i=V.int j)=decide (i=j) by simp]; exact h⟩
theorem eXS (h:Q (.bl (!decide (z=z'))) H):mNe (.str z) (.str z') H Q:=⟨rfl,by
 rw [show decide (V.str z=V.str z')=decide (z=z') by simp]; exact h⟩
theorem xE {neg:Bool} (e:rdL H p=some xs) (e':rdL H q=some ys) (f:xs.all bO=true) (f':ys.all bO=true) (h:Q (.bl (if neg then !hJ xs ys else hJ xs ys)) H):aJ3 neg (.ref p) (.ref q) H Q:=by
 unfold aJ3; simp only [e,e']; exact ⟨f,f',h⟩
theorem dJB (h:Q (.bl (decide (x=.non))) H):dZA x .non H Q:=h
theorem dX3 (h:Q (.bl (!decide (x=.non))) H):bZQ x .non H Q:=h
theorem eQA {neg:Bool} (h:Q (.bl (if neg then !subIn z z' else subIn z z')) H):dXO neg (.str z) (.str z') H Q:=h
theorem zE {neg:Bool} (e:rdL H p=some xs) (f:bO x=true) (f':xs.all bO=true) (h:Q (.bl (if neg then !inV x xs else inV x xs)) H):bZ2 neg x (.ref p) H Q:=by
 unfold bZ2; simp only [e]; exact ⟨f,f',h⟩
theorem cJM {c:Nat} (l:z.length<=sizeLine) (e:atI z.cps.toList i=some c) (h:Q (.str ⟨#[c]⟩) H):mIx (.str z) (.int i) H Q:=by
 unfold mIx; simp only [e]; exact ⟨l,h⟩
theorem bY (e:rdL H p=some xs) (e':atI xs i=some v) (h:Q v H):mIx (.ref p) (.int i) H Q:=by
 unfold mIx; simp only [e,e']; exact h
theorem dJF {lo hi:Option Int} (l:z.length<=sizeLine) (h:Q (.str (Txt.slice z lo hi)) H):mSl (.str z) lo hi H Q:=⟨l,h⟩
theorem bQX {lo hi:Option Int} (e:rdL H p=some xs) (h:∀ r,H r=none->Q (.ref r) (upd H r (.lst (pJ xs lo hi)))):mSl (.ref p) lo hi H Q:=by
 unfold mSl; simp only [e]; exact h
theorem dXQ (l:z.length<=sizeLine) (h:Q (.int z.length) H):zW [.str z] H Q:=⟨l,h⟩
theorem dZG (e:rdL H p=some xs) (h:Q (.int xs.length) H):zW [.ref p] H Q:=by unfold zW; simp only [e]; exact h
theorem aQ5 (e:PySem.intText? z=some i) (l:z.length<=640) (h:Q (.int i) H):cXY [.str z] H Q:=by unfold cXY; simp only [e]; exact ⟨l,h⟩
theorem dZC (e:rdL H p=some xs) (h:∀ l,H l=none->Q (.ref l) (upd H l (.lst xs))):aZD [.ref p] H Q:=by unfold aZD; simp only [e]; exact h
theorem dJY (e:hU H p=some xs) (l:xs.length<sizeLine) (h:Q .non (upd H p (.lst (xs++[v])))):cXO (.ref p) [v] H Q:=by unfold cXO; simp only [e]; exact ⟨l,h⟩
theorem cQG {rest:List Nat} (e:Builtin.Str.occurrences z z' 0 z.length 1=k::rest) (h:Q (.int ((k:Nat):Int)) H):vQ (.str z) [.str z'] H Q:=by unfold vQ; simp only [e]; exact h
theorem mG {ss:List Str} (e:rdL H p=some (ss.map V.str)) (l:(ss.map (·.length)).sum+ss.length * z.length<=16777216) (h:Q (.str (Txt.join z ss)) H):aX4 (.str z) [.ref p] H Q:=by
 unfold aX4; simp only [e,aQV]; exact ⟨l,h⟩
theorem uM {bs:List Bool} (e:rdL H p=some (bs.map V.bl)) (h:Q (.bl (bs.all id)) H):cQU [.ref p] H Q:=by
 unfold cQU; simp only [e,zT]; exact h
theorem cZG {tl:TE} {R:It->Hp->Prop} (h:tl σ H (iA λa H1=>onL (rdL H1 a) (R (Itl K a) H1))):cJC K tl σ H R:=h
theorem cXJ {R:Addr->Hp->Prop} (h:R p H):iA R (.ref p) H:=h
theorem eQJ {P:Prop} (e:rdL H p=some xs) (h:P):onL (rdL H p) P:=by unfold onL; simp only [e]; exact h
theorem dQS {tl:TE} {R:It->Hp->Prop} (h:tl σ H (xT λz H1=>R (Its z) H1)):eQ3 tl σ H R:=h
theorem cZJ {R:Str->Hp->Prop} (h:R z H):xT R (.str z) H:=h
theorem cZQ {R:It->Hp->Prop} (h:tA σ H (qJ λj H1=>(-(2 ^ 62)<=j/\j<2 ^ 62)/\R (Itr 0 j.toNat) H1)):cJW tA σ H R:=h
theorem cQZ {R:It->Hp->Prop} (h:tA σ H (bJL λi j H1=>(-(2 ^ 62)<=i/\i<2 ^ 62/\-(2 ^ 62)<=j/\j<2 ^ 62)/\R (Itr i (j - i).toNat) H1)):cJY tA σ H R:=h
theorem dXH {R:Int->Hp->Prop} (h:R i H):qJ R [.int i] H:=h
theorem dQJ {R:Int->Int->Hp->Prop} (h:R i j H):bJL R [.int i,.int j] H:=h
theorem cJO {o:V} {QH:Hp->Prop} (e:hU H p=some xs) (e':ixN xs.length i=some k) (h:QH (upd H p (.lst (xs.set k v)))):cJP (.ref p) (.int i) v H QH:=⟨_,_,_,_,rfl,rfl,kY e,e',h⟩
end
theorem dZ6 {α:Type} {xs:List α} {i:Int} (h0:0<=i) (h1:i<xs.length):∃ v,atI xs i=some v/\xs[i.toNat]?=some v:=by
 have hk:i.toNat<xs.length:=by omega
 have e:i=((i.toNat:Nat):Int):=by omega
 have q:atI xs ((i.toNat:Nat):Int)=some xs[i.toNat]:=aS (Aa hk)
 rw [<-e] at q;exact ⟨xs[i.toNat],q,Aa hk⟩
theorem bXC {n:Nat} {i:Int} (h0:0<=i) (h1:i<n):ixN n i=some i.toNat:=by
 unfold ixN;rw [if_pos h0,if_pos h1]
theorem bQ {n:Nat} (h:n<=100000):n<=sizeLine:=Bv h (by decide)
theorem bT {n:Nat} (h:n<=100000):n<sizeLine:=Nat.lt_of_le_of_lt h (by decide)
end L2
namespace L2
open PySem PySem.Spec PyProof.Rows
def Cal (P:Program) (w:World) (K:PySem.W.Frag) (mg:Str->Option Value) (base:Heap) (k:Nat) (x:Str) (ps:List Str) (sp:Sp):Prop :=
 ∃ (f:Addr) (fd:FuncData),FnOk P w K mg base CX0 k f fd ps sp/\mg x=some (.ref f)/\PySem.W.keepIn K (.ref f)=true/\Binds K fd ps []
section
variable {X:Cx} {k k':Nat} {ps:List Str} {sp:Sp} {x:Str} {p pos:Pos} {e:Expr} {es:List Expr} {t:TA} {K:PySem.W.Frag} {H:Hp} {Q:VK} {xs:List V} {v:V} {i:Int} {a:Addr}
theorem bA (c:Cal X.prog X.w X.K X.mg X.base k x ps sp) (hr:Room k' X.A) (hk:k<=k') (hg:Gl X x)
   (ha:PA X (e::es) t) (hdb:(x == ("__debug__" : Str))=false:=by decide) (he:starEach (e::es) X.env=(false,eval e X.env)::starEach es X.env:=by rfl) (hpl:(backTo pos (starEach es X.env)).any (·.1)=false:=by rfl) :
   PE X (.Call (.Name x p) (e::es) [] pos) (aXS sp [] E0 t):=by
 obtain ⟨f,fd,F,hm,hk',hb⟩:=c;exact aX2 F (hr.mono hk) hg hm hk' hb .nil aXT ha hdb he hpl
theorem dJ {z:Str} (hg:Gl X x) (h:∃ t,X.mg x=some (.str z t)) (hd:(x == ("__debug__" : Str))=false:=by decide):PE X (.Name x pos) (tC (.str z)):=by
 obtain ⟨t,h⟩:=h;exact mY hg h ⟨t,rfl⟩ hd
theorem gD {z:Int} (hg:Gl X x) (h:∃ t,X.mg x=some (.int z t)) (hd:(x == ("__debug__" : Str))=false:=by decide):PE X (.Name x pos) (tC (.int z)):=by
 obtain ⟨t,h⟩:=h;exact mY hg h ⟨t,rfl⟩ hd
theorem dJW (e:SqL K H a xs) (e':atI xs i=some v) (h:Q v H):dZV K (.ref a) (.int i) H Q:=⟨a,xs,i,v,rfl,rfl,e,e',h⟩
end
end L2
namespace L2
open PySem PySem.Spec PyProof.Rows
theorem dC:bootBuiltins "len"=some (.builtin "len"):=by decide +kernel
theorem lU:bootBuiltins "isinstance"=some (.builtin "isinstance"):=by decide +kernel
theorem oM:bootBuiltins "all"=some (.builtin "all"):=by decide +kernel
theorem bXO:bootBuiltins "sum"=some (.builtin "sum"):=by decide +kernel
theorem pV:bootBuiltins "int"=some (.type "int"):=by decide +kernel
theorem aQ4:bootBuiltins "str"=some (.type "str"):=by decide +kernel
theorem nF:bootBuiltins "list"=some (.type "list"):=by decide +kernel
theorem cXN:bootBuiltins "dict"=some (.type "dict"):=by decide +kernel
theorem bX3:bootBuiltins "range"=some (.type "range"):=by decide +kernel
end L2
namespace L2
theorem eXL {A B:Prop} (h:B):if (!true)=true then A else B:=h
theorem eQH {A B:Prop} (h:A):if (!false)=true then A else B:=h
end L2
namespace L2
open PySem PySem.Spec PyProof.Rows
theorem aW {X:Cx} {x:Str} {j:Nat} {pos:Pos} {es:List Expr} {t:TA} (h:PA X es t):PA X (.Constant (.str x) j pos::es) (aZC (tC (.str x)) t):=aA bP h rfl
end L2
set_option maxHeartbeats 4000000
namespace L2
open PySem PySem.Spec PyProof.Rows
theorem aXH {prog:Program} {w:World} {A:Around} {R:Result->Shared->Prop} {s:Shared} {elt target iter:Expr} {ifs:List Expr} {scope:Scope} {pos:Pos} {it acc:Value} {env:Env} (I:Nat->Shared->Prop)
   (turn:∀ n s,I n s->wpAny (model prog w) A (pyNext it) (λr s₁=>match r with
     | none=>R (.ok .next) s₁
     | some v=>wpAny (model prog w) A (letOwnedTupleGo target it v) (λ_ s₁'=>wpAny (model prog w) A (assign target env v) (λ_ s₂=>
         wpAny (model prog w) A (forIn ifs true λc r=>if r=true then do let ok <-isTrue c env (eval c env); pure (ForInStep.yield ok) else pure (ForInStep.yield r)) (λok s₃=>
           if ok=true then wpAny (model prog w) A (eval elt env) (λx s₄=>
             wpAny (model prog w) A (call (.builtin "list.append") [acc,x]) (λ_ s₅=>∃ m,m<n/\I m s₅) (λ_ _=>False) s₄) (λ_ _=>False) s₃
           else ∃ m,m<n/\I m s₃) (λ_ _=>False) s₂) (λ_ _=>False) s₁') (λ_ _=>False) s₁) (λ_ _=>False) s)
   (n:Nat) (h:I n s) :
   codeAny (model prog w) A (.compLoop (.ListComp elt [⟨target,iter,ifs,0⟩] scope pos) 0 it acc env) R s:=by
 refine codeAny_loop rfl I (λn s hI=>?_) n h;show wpAny _ A ((compTurn (.ListComp elt [⟨target,iter,ifs,0⟩] scope pos) 0 it acc env).onRaise (λx=>do noteFrame x env; theTreesLotGoes x)) _ _ s
 refine wpAny_noted ?_;rw [compTurn_list];refine Ac (Ea (Ac (Bo (turn n s hI) (λr s₁ h₁=>?_) λ_ _ h'=>h'.elim)));cases r with
 | none=>exact Ao h₁
 | some v=>
   refine Ac (Bo h₁ (λ_ s₁' h₁'=>?_) λ_ _ h'=>h'.elim);refine Ac (Bo h₁' (λ_ s₂ h₂=>Ac (Bo h₂ (λok s₃ h₃=>?_) λ_ _ h'=>h'.elim)) λ_ _ h'=>h'.elim);cases ok with
   | false=>exact Ao ⟨rfl,h₃⟩
   | true=>
     exact Ac (Ac (Bo h₃ (λx s₄ h₄=>Ac (Bo h₄ (λ_ s₅ h₅=>Ao (Ao ⟨rfl,h₅⟩)) λ_ _ h'=>h'.elim)) λ_ _ h'=>h'.elim))
def cxC (X:Cx) (N:List Str) (scope:Scope) (cl:List (Str×Addr)) (C:Addr) (s₀:Shared) (H₀:Hp) (ex:List Addr):Cx :=
 { prog:=X.prog,w:=X.w,K:=X.K,mg:=X.mg,base:=X.base,A:=X.A,N:=N,s₀:=s₀,H₀:=H₀,env:=compEnvC scope cl C X.env,outer:=X.stack,stack:=X.stack,ex:=ex,fn:=λ_=>false,calm:=X.calm,pn:=[],xe:=λ_ _=>False }
structure ClOk (X:Cx) (N:List Str) (scope:Scope) (cl:List (Str×Addr)) (vals:St->St):Prop where
 clos:closureFor scope X.env=pure cl
 sub:∀ x c,cl.lookup x=some c->X.env.cells.lookup x=some c
 has:∀ x,((relabel scope X.env).names.lookup x=some .cell\/(relabel scope X.env).names.lookup x=some .free)->∃ c,cl.lookup x=some c
 len:∀ σ,(vals σ).length=N.length
 val:∀ σ (i:Nat) x v,N[i]?=some x->(vals σ)[i]?=some (some v)->∃ (j:Nat),X.N[j]?=some x/\σ[j]?=some (some v)/\X.env.scope.names.lookup x=some .cell/\(∃ c,cl.lookup x=some c)/\(relabel scope X.env).names.lookup x=some .cell
def PF (X:Cx) (ifs:List Expr) (t:TT):Prop:=∀ (pins:List (Addr×Obj)) (s:Shared) (σ:St) (H:Hp) (Q:Bool->Hp->Prop),Inv X pins σ H s->t σ H Q->
 wpAny (model X.prog X.w) X.A (forIn ifs true λc r=>if r=true then do let ok <-isTrue c X.env (eval c X.env); pure (ForInStep.yield ok) else pure (ForInStep.yield r)) (TP X pins σ Q) X.xe s
def dJJ:TT:=λ_ H Q=>Q true H
theorem cN {X:Cx}:PF X [] dJJ:=λpins s σ H Q I q=>wpAny_tests_nil ⟨H,I,q⟩
theorem bX4 {X:Cx} {c:Expr} {t:TT} (h:PT X c t):PF X [c] t:=λpins s σ H Q I q=>wpAny_tests_one (h pins s σ H Q I q)
section
variable {X:Cx} {pins:Q2} {σ:St} {H2:Hp} {s2:Shared} {N:List Str} {scope:Scope} {cl:List (Str×Addr)} {vals:St->St} {C:Addr} {fp:List Addr}
theorem rA {h1:Heap} {t1:Nat} (I:Inv X pins σ H2 s2) (ck:ClOk X N scope cl vals) (hkind:scope.kind=.function) (hf:∀ b∈fp,iG X pins H2 b) (hlt:∀ b∈fp,b<s2.heap.objs.size)
   (hns:h1.Ns s2.heap.objs.size λ_=>none) (hsb:Heap.SameBut s2.heap.objs.size (s2.heap.push { cls:=.type "dict",data:=.dict #[] }) h1) :
   Inv (cxC X N scope cl s2.heap.objs.size s2 H2 fp) [] (vals σ) H2 { s2 with heap:=h1,toks:=t1 }:=by
 have old:∀ b o,s2.heap.get? b=some o->h1.get? b=some o:=λb o e=>(hsb.2 b (Ay (An e))).trans (Ad _ e)
 have hC:H2 s2.heap.objs.size=none:=I.hok.fresh (Ag _)
 refine ⟨⟨I.ok.mod,hkind,I.ok.glob,I.ok.blt,Ag _,λx y c h1 h2=>I.ok.inj x y c (ck.sub x c h1) (ck.sub y c h2),ck.has,(λx c h=>nomatch h),I.ok.hd,I.ok.frames,.inl rfl,λb hb=>⟨Ay (hlt b hb),λx c e=>(hf b hb).2.2.2.2.1 x c (ck.sub x c e)⟩,
   I.bs,Nat.le_trans I.ok.bsz I.sz,λb o e hb=>?_,λb hb hs=>?_,I.stack,I.stkFree⟩,rfl,I.bare,Un.kept old,⟨_,hns,λi x v e1 e2 _=>?_⟩,λx c e=>?_,hC,λx c e=>I.freeC x c (ck.sub x c e),λp hp=>absurd (show p∈([]:Q2) from hp) (by simp),I.hok.kept old,ck.len σ⟩
 · rcases (hf b hb).2.2.2.1 with z | z
   · exact I.ok.noex b o e z
   · exact absurd (Bc (An e) (Bv I.ok.bsz z)) (Ds _)
 · rcases Bd.mp (I.stkSub b hs) with z | z
   · exact (hf b hb).2.1 z
   · exact (hf b hb).2.2.1 z
 · obtain ⟨j,h1,h2,h3,⟨c,h4⟩,h5⟩:=ck.val σ i x v e1 e2;obtain ⟨m,hn,hl⟩:=I.loc;obtain ⟨u,r,l⟩:=hl j x v h1 h2 (.inr (.inl h3));refine ⟨u,r,.inr ⟨.inl h5,c,h4,?_⟩⟩;rcases l with ⟨z,_⟩ | ⟨_,c',e',z⟩
   · have z':X.env.scope.names.lookup x=some .local:=z
     rw [h3] at z'; cases z'
   · rw [ck.sub x c h4] at e';cases e';obtain ⟨o,ho,hd⟩:=z;exact ⟨o,old _ o ho,hd⟩
 · obtain ⟨v,o,ho,hd⟩:=I.cell x c (ck.sub x c e);exact ⟨v,o,old _ o ho,hd⟩
theorem sV {σ':St} {H':Hp} {s':Shared} {h'':Heap} {pins':Q2} (I:Inv X pins σ H2 s2) (hf:∀ b∈fp,iG X pins H2 b)
   (I':Inv (cxC X N scope cl s2.heap.objs.size s2 H2 fp) pins' σ' H' s') (hsb:Heap.SameBut s2.heap.objs.size s'.heap h''):Inv X pins σ H' { s' with heap:=h'' }:=by
 have u1:Un (frs X.stack) (s2.heap.objs.size::fp) H2 H' s2.heap s'.heap:=I'.base.mono (λ_ z=>z) λb z=>Ah _ z
 have hC:H' s2.heap.objs.size=none:=I'.free
 have k:∀ b o,b≠s2.heap.objs.size->s'.heap.get? b=some o->h''.get? b=some o:=λb o hb e=>(hsb.2 b hb).trans e
 have u2:Un (frs X.stack) (s2.heap.objs.size::fp) H' H' s'.heap h'':=⟨λb o e _ _ hx=>k b o (λz=>hx (by simp [z])) e,λb o e _ _ hx=>⟨o.slots,k b o (λz=>hx (by simp [z])) e⟩,λ_ _ _ n _=>n,
   λb o e hx=>⟨o,k b o (λz=>hx (by simp [z])) e⟩,λ_ _ e=>e,λ_ _ _ e=>e,λb ps e=>⟨#[],by rw [e]; simp⟩⟩
 have hok:HOk X.prog X.w H' h'':=λb u e=>by
   have nC:∀ c v,H' c=some v->c≠s2.heap.objs.size:=λc v e z=>by rw [z,hC] at e; cases e
   refine (I'.hok b u e).stay (λc v hc q=>k c v ?_ q) (λ_ q=>q) λ_ _ q=>q;rcases hc with z | z
   · rw [z]; exact nC b u e
   · exact nC c _ z
 refine I.call' (s':={ s' with heap:=h'' }) (ch:=s2.heap.objs.size::fp) I'.os (u1.trans u2) hok I'.bare λb hb=>?_
 have q:iG X pins H2 b:=by
   rcases Bd.mp hb with z | z
   · subst z; exact I.fpOk (Ag _) (I.hok.fresh (Ag _))
   · exact hf b z
 exact ⟨q.2.2.2.1,q.2.1,q.2.2.2.2.1,q.2.2.2.2.2⟩
end
def Wk (σ0 σ:St):Prop:=σ0.length=σ.length/\∀ (i:Nat) v,σ0[i]?=some (some v)->σ[i]?=some (some v)
theorem Wk.refl (σ:St):Wk σ σ:=⟨rfl,λ_ _ h=>h⟩
theorem Wk.set {σ0 σ:St} {k:Nat} {v:V} (h:σ0[k]?=some none) (w:Wk σ0 σ):Wk σ0 (σ.set k (some v)):=by
 refine ⟨by rw [Dx]; exact w.1,λi u e=>?_⟩
 have ne:k≠i:=λz=>by subst z; rw [h] at e; cases e
 rw [Eh ne];exact w.2 i u e
def eF (g:TG) (tests:TT) (te:TE) (σ0:St) (Q:VK) (J:It) (H1:Hp):Prop:=∀ D,H1 D=none->∃ W:Nat->Nat->Hp->Prop,(∃ m,W 0 m (upd H1 D (.lst [])))/\∀ i m Hc,W i m Hc->
 (J.stop i Hc/\Q (.ref D) Hc)\/(J.go i Hc/\∀ x H',J.yld i Hc x H'->g x σ0 H' λσ2 H2=>Wk σ0 σ2/\tests σ2 H2 λb H3=>if b=true then
   te σ2 H3 λy H4=>∃ zs,H4 D=some (.lst zs)/\zs.length<sizeLine/\∃ m',m' < m/\W (i+1) m' (upd H4 D (.lst (zs++[y]))) else ∃ m',m' < m/\W (i+1) m' H3)
def aZR (wi:TI) (g:TG) (tests:TT) (te:TE) (vals:St->St):TE:=λσ H Q=>wi σ H λJ H1=>eF g tests te (vals σ) Q J H1
theorem xP {X:Cx} {pins:Q2} {σ:St} {H2:Hp} {s2:Shared} {N:List Str} {scope:Scope} {cl:List (Str×Addr)} {vals:St->St} {fp:List Addr} {it:Addr} {tn:Nat->Heap->Prop} {J:It} {tg elt iter:Expr} {ifs:List Expr} {pos:Pos}
   {g:TG} {tests:TT} {te:TE} {Q:VK} {E:Q0} {RR:Value->Addr->Result->Shared->Prop} (I2:Inv X pins σ H2 s2) (T:Turn X.prog X.w X.K tg J fp it tn) (st2:tn 0 s2.heap) (f2:∀ b∈fp,iG X pins H2 b) (hc:X.calm=true)
   (ck:ClOk X N scope cl vals) (hcell:∀ y∈scope.names,y.2≠.cell) (hkind:scope.kind=.function)
   (hg:∀ C s₀ H₀ ex,PG (cxC X N scope cl C s₀ H₀ ex) tg g) (ht:∀ C s₀ H₀ ex,PF (cxC X N scope cl C s₀ H₀ ex) ifs tests) (he:∀ C s₀ H₀ ex,PE (cxC X N scope cl C s₀ H₀ ex) elt te)
   (h:eF g tests te (vals σ) Q J H2)
   (hRR:∀ D C s' H' m,s'.heap.Ns C m->Q (.ref D) H'->(∀ h'',Heap.SameBut C s'.heap h''->Inv X pins σ H' { s' with heap:=h'' })->iG X pins H' C->RR (.ref D) C (.ok .next) s') :
   wpAny (model X.prog X.w) X.A (newList []) (λacc s₃=>wpAny (model X.prog X.w) X.A (newFunctionEnv scope X.env.globals cl [] X.env.qual none .none (some X.env)) (λcenv s₄=>
     codeAny (model X.prog X.w) X.A (.compStart (.ListComp elt [⟨tg,iter,ifs,0⟩] scope pos) 0 (.ref it) acc { cenv with scope:=relabel scope X.env }) (RR acc cenv.locals) s₄) E s₃) E s2:=by
 have hD:H2 s2.heap.objs.size=none:=I2.hok.fresh (Ag _)
 obtain ⟨W,⟨m0,w0⟩,turn⟩:=h _ hD;have hlt:∀ b∈fp,b<s2.heap.objs.size:=λb hb=>by
   obtain ⟨o,e,_⟩:=T.obj 0 _ st2 b hb;exact An e
 refine Gh ?_
 -- the list is laid
 have I3:Inv X pins σ (upd H2 s2.heap.objs.size (.lst [])) { s2 with heap:=s2.heap.push { cls:=.type "list",dict:=none,data:=.seq ([]:List Value).toArray } } :=
   I2.lnew (ys:=[]) (its:=[]) (t':=s2.toks) .nil (Dv _)
 have f3:∀ b∈fp,iG X pins (upd H2 s2.heap.objs.size (.lst [])) b:=λb hb=>⟨by rw [aK (Ay (hlt b hb))]; exact (f2 b hb).1,(f2 b hb).2⟩
 have st3:tn 0 (s2.heap.push { cls:=.type "list",dict:=none,data:=.seq ([]:List Value).toArray }):=T.keep _ _ _ st2 λb _ o e=>Ad _ e
 generalize hs3:({ s2 with heap:=s2.heap.push { cls:=.type "list",dict:=none,data:=.seq ([]:List Value).toArray } }:Shared)=s3 at I3 ⊢
 have e3:s3.heap=s2.heap.push { cls:=.type "list",dict:=none,data:=.seq ([]:List Value).toArray }:=by rw [<-hs3]
 rw [<-e3] at st3;have hlt3:∀ b∈fp,b<s3.heap.objs.size:=λb hb=>by
   obtain ⟨o,e,_⟩:=T.obj 0 _ st3 b hb;exact An e
 refine wpAny_newFunctionEnv hcell (by intro y hy; simp at hy) (λh₁ hns₁ hsb₁=>?_) hkind
 have hns:h₁.Ns s3.heap.objs.size λ_=>none:=hns₁
 have I4:=rA (t1:=s3.toks) I3 ck hkind f3 hlt3 hns hsb₁
 have old:∀ b o,s3.heap.get? b=some o->h₁.get? b=some o:=λb o e=>(hsb₁.2 b (Ay (An e))).trans (Ad _ e)
 have st4:tn 0 h₁:=T.keep _ _ _ st3 λb _ o e=>old b o e
 have loop:∀ s₄:Shared,s₄={ s3 with heap:=h₁,toks:=s3.toks }->
     codeAny (model X.prog X.w) X.A (.compLoop (.ListComp elt [⟨tg,iter,ifs,0⟩] scope pos) 0 (.ref it) (.ref s2.heap.objs.size) (compEnvC scope cl s3.heap.objs.size X.env))
       (RR (.ref s2.heap.objs.size) s3.heap.objs.size) s₄:=by
   rintro s₄ rfl;have fpX:∀ {H':Hp},(∀ b∈fp,H' b=none)->∀ b∈fp,iG (cxC X N scope cl s3.heap.objs.size s3 (upd H2 s2.heap.objs.size (.lst [])) fp) [] H' b:=λhn b hb=>
     ⟨hn b hb,Nat.ne_of_lt (hlt3 b hb),λhs=>I4.ok.exfs b hb hs,.inl hb,λx c e=>(I4.ok.exf b hb).2 x c e,λp hp=>absurd (show p∈([]:Q2) from hp) (by simp)⟩
   refine aXH (λn s'=>∃ i H',Inv (cxC X N scope cl s3.heap.objs.size s3 (upd H2 s2.heap.objs.size (.lst [])) fp) [] (vals σ) H' s'/\tn i s'.heap/\(∀ b∈fp,H' b=none)/\W i n H') ?_ m0
     ⟨0,_,I4,st4,λb hb=>(f3 b hb).1,w0⟩
   rintro n s5 ⟨i,H5,I5,st5,fr5,w5⟩;rcases turn i n H5 w5 with ⟨stop,q⟩ | ⟨go,step⟩
   · refine thn (T.done (cxC X N scope cl s3.heap.objs.size s3 (upd H2 s2.heap.objs.size (.lst [])) fp) rfl rfl rfl hc i [] s5 (vals σ) H5 (λ_ _=>False) I5 (fpX fr5) st5 stop) λr s6 ⟨hr,I6⟩=>?_;subst hr;obtain ⟨m,hn,_⟩:=id I6.loc;exact hRR _ _ s6 H5 m hn q (λh'' hsb=>sV I3 f3 I6 hsb) (I3.fpOk (Ag _) I6.free)
   · refine thn (T.item (cxC X N scope cl s3.heap.objs.size s3 (upd H2 s2.heap.objs.size (.lst [])) fp) rfl rfl rfl hc i [] s5 (vals σ) H5 (λ_ _=>False) I5 (fpX fr5) st5 go) λr s6 ⟨u,hr,h6⟩=>?_;subst hr;refine thn h6 λ_ s7 ⟨x,H7,I7,r7,y7,st7,fr7⟩=>?_;have I7':=I7.pinned (fpX fr7) (T.obj _ _ st7)
     refine thn (hg _ _ _ _ _ s7 (vals σ) H7 x u _ I7' r7 (step x H7 y7)) λ_ s8 ⟨σ8,H8,I8,wk8,q8⟩=>?_;refine thn (ht _ _ _ _ _ s8 σ8 H8 _ I8 q8) λb s9 ⟨H9,I9,q9⟩=>?_;have again:∀ {m':Nat} {s':Shared} {H':Hp},Inv (cxC X N scope cl s3.heap.objs.size s3 (upd H2 s2.heap.objs.size (.lst [])) fp) ([]++kS fp s7.heap) σ8 H' s'->m' < n->W (i+1) m' H'->
         ∃ m,m<n/\∃ i H',Inv (cxC X N scope cl s3.heap.objs.size s3 (upd H2 s2.heap.objs.size (.lst [])) fp) [] (vals σ) H' s'/\tn i s'.heap/\(∀ b∈fp,H' b=none)/\W i m H':=fun {m' s' H'} J7 hm w7=>by
       refine ⟨m',hm,i+1,H',(J7.weak wk8.1 wk8.2).unpinned,T.keep _ _ _ st7 λb hb o e=>(J7.pin (b,o) (Ax _ (Ax _ (fT hb e)))).1,λb hb=>?_,w7⟩;obtain ⟨o,e,d⟩:=T.obj _ _ st7 b hb;exact (J7.pin (b,o) (Ax _ (Ax _ (fT hb e)))).2.1
     cases b with
     | true=>
       rw [if_pos rfl] at q9 ⊢;refine thn (he _ _ _ _ _ s9 σ8 H9 _ I9 q9) λv s10 ⟨y,H10,I10,r10,zs,hz,hl,m',hm,w10⟩=>?_;have ap:=oG ([]++kS fp s7.heap) s10 σ8 H10 (.ref s2.heap.objs.size) [y] (.ref s2.heap.objs.size) [v] (λ_ H'=>H'=upd H10 s2.heap.objs.size (.lst (zs++[y]))) I10 rfl (.cons r10 .nil) ⟨_,_,_,rfl,rfl,hz,hl,rfl⟩
       refine thn ap λ_ s11 ⟨_,H11,I11,_,e11⟩=>?_;subst e11;exact again I11 hm w10
     | false=>
       rw [if_neg Al] at q9 ⊢;obtain ⟨m',hm,w9⟩:=q9;exact again I9 hm w9
 exact codeAny_compStart_list (loop _ rfl) (T.self _ 0 _ _ _ st4 (loop _ rfl))
section
variable {X:Cx} {N:List Str} {scope:Scope} {cl:List (Str×Addr)} {vals:St->St} {tg elt iter:Expr} {ifs:List Expr} {pos spos py:Pos} {wi:TI} {g:TG} {tests:TT} {te:TE}
theorem cM (hc:X.calm=true) (hi:PI X tg iter wi) (ck:ClOk X N scope cl vals) (hcell:∀ y∈scope.names,y.2≠.cell) (hkind:scope.kind=.function) (hnames:∀ x∈scope.names,x.2=.local->scope.names.lookup x.1=some .local)
   (hg:∀ C s₀ H₀ ex,PG (cxC X N scope cl C s₀ H₀ ex) tg g) (ht:∀ C s₀ H₀ ex,PF (cxC X N scope cl C s₀ H₀ ex) ifs tests) (he:∀ C s₀ H₀ ex,PE (cxC X N scope cl C s₀ H₀ ex) elt te)
   (hs:∀ x,foldedSetIterable iter X.env x=pure x:=by intro _; rfl):PE X (.ListComp elt [⟨tg,iter,ifs,0⟩] scope pos) (aZR wi g tests te vals):=by
 intro pins s σ H Q I h;rw [eval_ListComp];refine Ft (use:=none) rfl hs ck.clos hkind hnames (thn (hi pins s σ H _ I h) λv s1 h1=>thn h1 λitv s2 h2=>?_);obtain ⟨it,fp,tn,J,H2,e,I2,T,st2,f2,q⟩:=h2;subst e;refine xP (RR:=λacc C=>compPost (model X.prog X.w) X.A X.xe none (EP X pins σ Q) acc C) I2 T st2 f2 hc ck hcell hkind hg ht he q λD C s' H' m hn q' back _=>?_;exact ⟨m,hn,λh'' hsb=>⟨.ref D,H',back h'' hsb,rfl,q'⟩⟩
theorem mU {i:Nat} {x:Str} (hN:X.N.Nodup) (hix:X.N[i]?=some x) (hx:Loc X.env.scope x) (hc:X.calm=true) (hi:PI X tg iter wi) (ck:ClOk X N scope cl vals) (hcell:∀ y∈scope.names,y.2≠.cell) (hkind:scope.kind=.function)
   (hnames:∀ x∈scope.names,x.2=.local->scope.names.lookup x.1=some .local)
   (hg:∀ C s₀ H₀ ex,PG (cxC X N scope cl C s₀ H₀ ex) tg g) (ht:∀ C s₀ H₀ ex,PF (cxC X N scope cl C s₀ H₀ ex) ifs tests) (he:∀ C s₀ H₀ ex,PE (cxC X N scope cl C s₀ H₀ ex) elt te)
   (hsw:swapsWith (.ListComp elt [⟨tg,iter,ifs,0⟩] scope pos) (some (.Name x py)) spos.line X.env=pure true:=by rfl)
   (hf:X.fn x=true\/X.env.scope.names.lookup x=some .local:=by first | exact .inl rfl | exact .inr rfl | assumption)
   (hs:∀ x,foldedSetIterable iter X.env x=pure x:=by intro _; rfl):PS X (.Assign [.Name x py] (.ListComp elt [⟨tg,iter,ifs,0⟩] scope pos) spos) (bX8 (aZR wi g tests te vals) (lP i)):=by
 intro pins s σ H D I h;rw [exec_Assign_Name_used _ _ _ _ hsw];refine Ac (Ea (Ac ?_));show wpAny _ X.A (do let _ <-comprehension (.ListComp elt [⟨tg,iter,ifs,0⟩] scope pos) scope X.env _ (newList []) false (eval iter X.env) (some (assign (.Name x py) X.env))) _ _ s
 refine Ac (Bo (Ft (use:=some (assign (.Name x py) X.env)) (Q:=λ_ s'=>SP X pins D .next s') rfl hs ck.clos hkind hnames
   (thn (hi pins s σ H _ I h) λv s1 h1=>thn h1 λitv s2 h2=>?_)) (λ_ s' hq=>Ao (Ao hq)) λ_ _ e=>e)
 obtain ⟨it,fp,tn,J,H2,e,I2,T,st2,f2,q⟩:=h2;subst e;refine xP (RR:=λacc C=>compPost (model X.prog X.w) X.A X.xe (some (assign (.Name x py) X.env)) (λ_ s'=>SP X pins D .next s') acc C) I2 T st2 f2 hc ck hcell hkind hg ht he q λDl C s' H' m hn q' back fC=>?_;show wpAny _ X.A (assign (.Name x py) X.env (.ref Dl)) _ _ s'
 have I':Inv X pins σ H' s':=back s'.heap (Heap.SameBut.refl ..)
 refine wpAny_assign_Name (nZ I' hN hix hx (v:=.ref Dl) rfl (λs'' I'' hsb=>?_) hf);obtain ⟨a,hsb,ha⟩:=hsb;have hCa:C≠a:=by
   rcases ha with z | z
   · rw [z]; exact fC.2.1
   · exact λe=>fC.2.2.2.2.1 x a z e.symm
 refine ⟨m,hn.sameBut hsb hCa,λh3 hsb3=>?_⟩;exact ⟨σ.set i (some (.ref Dl)),H',I''.turned (t':=s''.toks) (λb o hb e=>(hsb3.2 b hb).trans e) fC.1 fC.2.1 fC.2.2.2.1 fC.2.2.2.2.1 fC.2.2.2.2.2,q'⟩
theorem fL (hfree:∀ x∈scope.names,x.2≠.free) (hcell:∀ y∈scope.names,y.2≠.cell):ClOk X N scope [] (λ_=>N.map λ_=>none) where
 clos:=closureFor_none hfree
 sub:=λx c h=>nomatch h
 has:=λx h=>by
   have e:(relabel scope X.env).names=scope.names:=by
     show List.map _ scope.names=scope.names
     refine map_eq_self λy hy=>?_;obtain ⟨n,k⟩:=y;have:(k == NameKind.free)=false:=by simpa using hfree _ hy
     simp [this]
   rw [e] at h;rcases h with h | h
   · exact absurd rfl (hcell _ (Cr h))
   · exact absurd rfl (hfree _ (Cr h))
 len:=λσ=>by simp
 val:=λσ i x v h1 h2=>by
   rw [Af] at h2;cases e:N[i]? with
   | none=>rw [e] at h2; cases h2
   | some y=>rw [e] at h2; cases h2
end
section
variable {g:TG} {tests:TT} {te:TE} {σ0:St} {Q:VK} {H1:Hp}
theorem cXE {J:It} {xs:List V} {ok:Hp->Prop} (f:V->Option V) (hgo:∀ (i:Nat) H,ok H->i<xs.length->J.go i H) (hst:∀ H,ok H->J.stop xs.length H) (hy:∀ (i:Nat) H x H',ok H->J.yld i H x H'->H'=H/\xs[i]?=some x)
   (hok:∀ D ys,H1 D=none->ok (upd H1 D (.lst ys))) (hlen:xs.length<sizeLine)
   (hs:∀ (i:Nat) x Hc (A:VK) (B:Hp->Prop),xs[i]?=some x->ok Hc->(match f x with | some y=>A y Hc | none=>B Hc)->g x σ0 Hc λσ2 H2=>Wk σ0 σ2/\tests σ2 H2 λb H3=>if b=true then te σ2 H3 A else B H3)
   (fin:∀ D,H1 D=none->Q (.ref D) (upd H1 D (.lst (xs.filterMap f)))):eF g tests te σ0 Q J H1:=by
 intro D hD;refine ⟨λi m Hc=>m=xs.length - i/\i<=xs.length/\Hc=upd H1 D (.lst ((xs.take i).filterMap f)),⟨xs.length,by simp,Nat.zero_le _,by simp⟩,?_⟩
 rintro i m Hc ⟨rfl,hi,rfl⟩;by_cases hlt:i<xs.length
 · refine .inr ⟨hgo i _ (hok D _ hD) hlt,λx H' y=>?_⟩;obtain ⟨e,hx⟩:=hy i _ x H' (hok D _ hD) y;subst e;refine hs i x _ _ _ hx (hok D _ hD) ?_;have tk:xs.take (i+1)=xs.take i++[x]:=by rw [Bt,hx]; rfl
   cases e:f x with
   | some y=>
     refine ⟨_,aG,?_,xs.length - (i+1),by omega,rfl,hlt,?_⟩
     · have:=Cw f (xs.take i)
       rw [Ba] at this;omega
     · rw [aZX,tk,Bk];simp [e]
   | none=>
     refine ⟨xs.length - (i+1),by omega,rfl,hlt,?_⟩
     rw [tk,Bk];simp [e]
 · have e:i=xs.length:=by omega
   subst e;rw [Ed];exact .inl ⟨hst _ (hok D _ hD),fin D hD⟩
theorem bXQ {z:Str} (f:Nat->Option V) (hl:z.length<sizeLine)
   (hs:∀ (i:Nat) c Hc (A:VK) (B:Hp->Prop),z.cps.toList[i]?=some c->(match f c with | some y=>A y Hc | none=>B Hc)->g (.str ⟨#[c]⟩) σ0 Hc λσ2 H2=>Wk σ0 σ2/\tests σ2 H2 λb H3=>if b=true then te σ2 H3 A else B H3)
   (fin:∀ D,H1 D=none->Q (.ref D) (upd H1 D (.lst (z.cps.toList.filterMap f)))):eF g tests te σ0 Q (Its z) H1:=by
 have hz:z.cps.toList.length=z.length:=by simp [Str.length]
 have hz2:z.cps.size=z.length:=rfl
 refine cXE (xs:=z.cps.toList.map λc=>.str ⟨#[c]⟩) (ok:=λ_=>True) (λx=>match x with | .str y=>f (y.cps.toList.headD 0) | _=>none) (λi H _ h=>?_) (λH _=>?_) (λi H x H' _ y=>?_) (λ_ _ _=>trivial) (by rw [Ab,hz]; exact hl) (λi x Hc A B hx _ h=>?_) (λD hD=>?_)
 · rw [Ab,hz] at h; exact h
 · show z.cps.size<=_
   rw [Ab,hz]; exact Ag _
 · obtain ⟨e,c,hc,hx⟩:=y;refine ⟨e,?_⟩;rw [Af,Do,hc,hx]; rfl
 · rw [Af] at hx;cases e:z.cps.toList[i]? with
   | none=>rw [e] at hx; cases hx
   | some c=>rw [e] at hx; cases hx; exact hs i c Hc A B e h
 · have q:=fin D hD
   rw [List.filterMap_map];exact q
end
theorem dZE {wi:TI} {g:TG} {tests:TT} {te:TE} {vals:St->St} {σ:St} {H:Hp} {Q:VK} (h:wi σ H λJ H1=>eF g tests te (vals σ) Q J H1):aZR wi g tests te vals σ H Q:=h
theorem eXM {σ:St} {H:Hp} {Q:Bool->Hp->Prop} (h:Q true H):dJJ σ H Q:=h
end L2
set_option maxHeartbeats 4000000
namespace L2
open PySem PySem.Spec PyProof.Rows
def clF (env:Env):List (Str×NameKind)->List (Str×Addr)->List (Str×Addr)
 | [],acc=>acc
 | (n,k)::r,acc=>if k == .free then clF env r ((n,(env.cells.lookup n).getD 0)::acc) else clF env r acc
def bQO (ix:List (Option Nat)):St->St:=λσ=>ix.map λo=>match o with | none=>none | some j=>(σ[j]?).join
def dJL (N XN:List Str) (sn dn:List (Str×NameKind)) (ix:List (Option Nat)):Bool :=
 ix.length == N.length && (sn.all λy=>y.2 != .cell && (y.2 != .free || dn.lookup y.1 == some .cell)) && decide ((sn.map (·.1)).Nodup) &&
 ((List.range N.length).all λi=>match ix[i]? with | some (some j)=>N[i]? == XN[j]? && (match N[i]? with | some x=>sn.lookup x == some .free | none=>false) | _=>true)
theorem vF {env:Env}:∀ (names:List (Str×NameKind)) (acc:List (Str×Addr)),(∀ y∈names,y.2=.free->∃ c,env.cells.lookup y.1=some c)->
   (forIn names acc (λ(x:Str×NameKind) (cs:List (Str×Addr))=>(match x with
     | (name,kind)=>if (kind == NameKind.free)=true then do
         let a <-cellOf env name
         pure (ForInStep.yield ((name,a)::cs))
       else pure (ForInStep.yield cs):Sem (ForInStep (List (Str×Addr))))))=(pure (clF env names acc):Sem (List (Str×Addr)))
 | [],acc,_=>rfl
 | (n,k)::r,acc,h=>by
   rw [List.forIn_cons];unfold clF;cases e:k == NameKind.free with
   | false=>
     simp only [e,Bool.false_eq_true,if_false,pure_bind];exact vF r acc λy hy=>h y (Ah _ hy)
   | true=>
     obtain ⟨c,hc⟩:=h (n,k) List.mem_cons_self (by simpa using e)
     have hc':env.cells.lookup n=some c:=hc
     simp only [e,if_true,cellOf,hc',Option.getD_some,pure_bind];exact vF r _ λy hy=>h y (Ah _ hy)
theorem vO {env:Env}:∀ (names:List (Str×NameKind)) (acc:List (Str×Addr)) {x:Str} {c:Addr},(clF env names acc).lookup x=some c->
   acc.lookup x=some c\/((x,NameKind.free)∈names/\c=(env.cells.lookup x).getD 0)
 | [],acc,x,c,h=>.inl h
 | (n,k)::r,acc,x,c,h=>by
   unfold clF at h;cases e:k == NameKind.free with
   | false=>
     rw [e] at h;rcases vO r acc (by simpa using h) with z | ⟨z,q⟩
     · exact .inl z
     · exact .inr ⟨Ah _ z,q⟩
   | true=>
     rw [e] at h;have ek:k=.free:=by simpa using e
     rcases vO r _ (by simpa using h) with z | ⟨z,q⟩
     · rw [Cq] at z;cases ex:x == n with
       | true=>
         rw [ex] at z;have exn:x=n:=by simpa using ex
         subst exn; subst ek;cases z;exact .inr ⟨Ai,rfl⟩
       | false=>rw [ex] at z; exact .inl z
     · exact .inr ⟨Ah _ z,q⟩
theorem uX {env:Env}:∀ (names:List (Str×NameKind)) (acc:List (Str×Addr)) {x:Str},(acc.lookup x).isSome=true->((clF env names acc).lookup x).isSome=true
 | [],acc,x,h=>h
 | (n,k)::r,acc,x,h=>by
   unfold clF;split
   · refine uX r _ ?_;rw [Cq];cases ex:x == n with
     | true=>rfl
     | false=>exact h
   · exact uX r acc h
theorem pU {env:Env}:∀ (names:List (Str×NameKind)) (acc:List (Str×Addr)) {x:Str},(x,NameKind.free)∈names->((clF env names acc).lookup x).isSome=true
 | (n,k)::r,acc,x,h=>by
   unfold clF;rcases Bd.mp h with z | z
   · cases z;simp only [beq_self_eq_true,if_true];refine uX r _ ?_;rw [Cq,Fn];rfl
   · split
     · exact pU r _ z
     · exact pU r acc z
theorem jG {env:Env} {x:Str}:∀ {names:List (Str×NameKind)} {k':NameKind},(names.map λ(n,k)=>if (k == NameKind.free && env.scope.kind == .function && env.kindOf n == some .cell) then (n,NameKind.cell) else (n,k)).lookup x=some k'->
   ∃ k,(x,k)∈names/\(k'=k\/(k=.free/\k'=.cell))
 | [],_,h=>by simp at h
 | (n,k)::r,k',h=>by
   rw [Aw] at h;dsimp only at h;cases hc:(k == NameKind.free && env.scope.kind == .function && env.kindOf n == some .cell) with
   | true=>
     rw [hc,if_pos rfl,Cq] at h;cases ex:x == n with
     | true=>
       rw [ex] at h;cases h;have:x=n:=by simpa using ex
       subst this;have hk:k=.free:=by
         have:=(Cd _ _).mp hc
         have:=(Cd _ _).mp this.1
         simpa using this.1
       exact ⟨k,Ai,.inr ⟨hk,rfl⟩⟩
     | false=>
       rw [ex] at h;obtain ⟨k1,h1,h2⟩:=jG h;exact ⟨k1,Ah _ h1,h2⟩
   | false=>
     rw [hc,if_neg Al,Cq] at h;cases ex:x == n with
     | true=>
       rw [ex] at h;cases h;have:x=n:=by simpa using ex
       subst this;exact ⟨k,Ai,.inl rfl⟩
     | false=>
       rw [ex] at h;obtain ⟨k1,h1,h2⟩:=jG h;exact ⟨k1,Ah _ h1,h2⟩
theorem oN {env:Env} {x:Str} (hk:env.scope.kind=.function) (hx:env.kindOf x=some .cell):∀ {names:List (Str×NameKind)},names.lookup x=some .free->
   (names.map λ(n,k)=>if (k == NameKind.free && env.scope.kind == .function && env.kindOf n == some .cell) then (n,NameKind.cell) else (n,k)).lookup x=some .cell
 | [],h=>by simp at h
 | (n,k)::r,h=>by
   rw [Aw];dsimp only;rw [Cq] at h;cases ex:x == n with
   | true=>
     rw [ex] at h;cases h;have:x=n:=by simpa using ex
     subst this;rw [hk,hx];simp [List.lookup_cons]
   | false=>
     rw [ex] at h;have ih:=oN hk hx h
     split <;> (rw [Cq,ex]; exact ih)
theorem uI {X:Cx} {N:List Str} {scope:Scope} (XN:List Str) (sc:Scope) (ix:List (Option Nat)) (hN:X.N=XN) (hsc:X.env.scope=sc) (hk:sc.kind=.function)
   (hcs:∀ x,sc.names.lookup x=some .cell->∃ c,X.env.cells.lookup x=some c) (c:dJL N XN scope.names sc.names ix=true):ClOk X N scope (clF X.env scope.names []) (bQO ix):=by
 unfold dJL at c;simp only [Bool.and_eq_true,decide_eq_true_eq,List.all_eq_true,beq_iff_eq] at c;obtain ⟨⟨⟨c0,c1⟩,c2⟩,c3⟩:=c;have fr:∀ y,(y,NameKind.free)∈scope.names->sc.names.lookup y=some .cell:=λy hy=>by
   have z:=(c1 _ hy).2
   simpa using z
 have nocell:∀ y,(y,NameKind.cell) ∉ scope.names:=λy hy=>by
   have z:=(c1 _ hy).1
   simp at z
 refine ⟨?_,λx c h=>?_,λx h=>?_,λσ=>?_,λσ i x v h1 h2=>?_⟩
 · unfold closureFor;simp only [bind_pure];exact vF scope.names [] λy hy hf=>hcs y.1 (fr y.1 (by rw [<-hf]; exact hy))
 · rcases vO _ _ h with z | ⟨z,q⟩
   · simp at z
   · obtain ⟨c',e⟩:=hcs x (fr x z);rw [q,e]; rfl
 · have:∃ k,(x,k)∈scope.names/\k=.free:=by
     rcases h with h | h
     · obtain ⟨k,h1,h2⟩:=jG h;rcases h2 with z | ⟨z,_⟩
       · subst z; exact absurd h1 (nocell x)
       · exact ⟨k,h1,z⟩
     · obtain ⟨k,h1,h2⟩:=jG h;rcases h2 with z | ⟨z,z2⟩
       · exact ⟨k,h1,z.symm⟩
       · exact ⟨k,h1,z⟩
   obtain ⟨k,h1,rfl⟩:=this;exact Dt.mp (pU scope.names [] h1)
 · unfold bQO;rw [Ab,c0]
 · unfold bQO at h2;rw [Af] at h2;cases e:ix[i]? with
   | none=>rw [e] at h2; cases h2
   | some o=>
     rw [e] at h2;cases o with
     | none=>cases h2
     | some j=>
       have hi:i<N.length:=(Ae.mp h1).1
       have z:=c3 i (Bg.mpr hi)
       rw [e,h1] at z;simp only [Bool.and_eq_true,beq_iff_eq] at z;have hv:σ[j]?=some (some v):=by
         have h3:(σ[j]?).join=some v:=by simpa using h2
         cases e2:σ[j]? with
         | none=>rw [e2] at h3; cases h3
         | some o=>rw [e2] at h3; cases o with
           | none=>cases h3
           | some u=>cases h3; rfl
       have hm:(x,NameKind.free)∈scope.names:=Cr z.2
       have hx:=fr x hm
       refine ⟨j,by rw [hN]; exact z.1.symm,hv,by rw [hsc]; exact hx,Dt.mp (pU scope.names [] hm),?_⟩
       exact oN (by rw [hsc]; exact hk) (by show X.env.scope.names.lookup x=_; rw [hsc]; exact hx) z.2
end L2
set_option maxHeartbeats 4000000
namespace L2
open PySem PySem.Spec PyProof.Rows
open PySem.AutoSeq1 (wpAny_loadPart')
theorem bZO {α:Type} {M:Model} {A:Around} {E:Q0} {s:Shared} {c:Bool} {x y:Sem α} {Q:α->Shared->Prop} (h1:wpAny M A x Q E s) (h2:wpAny M A y Q E s):wpAny M A (if c=true then x else y) Q E s:=by
 cases c
 · exact h2
 · exact h1
theorem aJG (l:Addr) (its:Array Value) (n:Nat) (dc:Option Addr) (sl:Array (Option Value)) (k:Int) (t:Tok) (hk:Builtin.SmallTypes.fitsIndex k=true) :
   Meets (Builtin.«enumerate.__new__» ⟨[.type "enumerate",.ref l],[("start",.int k t)]⟩) (λ_ R s=>s.heap.get? l=some ⟨.type "list",dc,.seq its n,sl⟩/\
     R (.ok (.ret (.ref (s.heap.push { cls:=.type "list_iterator",data:=.fields #[.ref l,.int 0 0] }).objs.size)))
       { s with heap:=(s.heap.push { cls:=.type "list_iterator",data:=.fields #[.ref l,.int 0 0] }).push ⟨.type "enumerate",none,.fields #[.none,.bool false,.ref s.heap.objs.size,rawInt k,.none,.none],#[]⟩ }) :=
 .of_wp λprog w A R s h=>by
   obtain ⟨hp,g,d,tk,os⟩:=s;obtain ⟨hl,h⟩:=h;have hsub:=sub_enumerate
   have hL:Heap.IsList hp l its:=⟨_,hl,rfl,n,rfl⟩
   have hk':(!Builtin.SmallTypes.fitsIndex k)=false:=by rw [hk]; rfl
   wp_walk using wpAny_loadPart' hl
   refine wpAny_stack_any λst=>Ao ?_;refine bZO ?_ ?_ <;>
   · wp_walk using (wpAny_loadPart' hl),(Ej (s:=⟨hp,g,d,tk,os⟩) hL)
     exact ⟨_,rfl,h⟩
section
variable {prog:Program} {w:World} {A:Around} {E:Q0} {s:Shared}
theorem nK {T newId:String} {Bn:Builtin} {args:List Value} {kw:List (Str×Value)} {S:PySem.Spec} {Q Q1:Q0} (ft:TypeCalled T newId "object.__init__")
   (hct:checkTypeCall T ⟨args,kw⟩=pure ()) (hcn:checkBuiltinCall newId ⟨.type T::args,kw⟩=pure ()) (eN:entryFor table newId=some Bn) (g:Meets (Bn ⟨.type T::args,kw⟩) S) (h:S A.in1 (wants Q1 E) s)
   (hnx:∀ o s1,Q1 o s1->s1.TypeIs o T/\argsOk "object.__init__" ⟨o::args,kw⟩/\∃ Si,Meets (Builtin.«object.__init__» ⟨o::args,kw⟩) Si/\Si A.in1 (wants (λr s2=>r=.none/\Q o s2) E) s1) :
   wpAny (model prog w) A (call (.type T) args kw) Q E s:=by
 obtain ⟨c,tl,hmro⟩:=ft.mro;have hmade:=ft.made
 have hsub:=ft.sub
 have h1:=ft.notType
 have h2:=ft.canCreate
 refine Ek (codeAny_of_tree (show wpAny _ _ (callAny (.type T) _) _ _ _ from Ao ⟨Code.quiet_builtin _ (by decide +kernel),codeAny_builtin F.entry_type_call ?_⟩))
 rw [Around.under_plain (weight_type_call_type T args kw) (units_type_call_type T args kw)];repeat (any_goals first | assumption | wp_step)
 refine Ei (Dw ft.plain eN (wpAny_of_eq hcn (g prog w A.in1 _ s h))) ?_;rintro (e | fl) s1 hr
 · exact hr
 · cases fl with
   | ret o=>
     obtain ⟨hT,hok,Si,gi,hsi⟩:=hnx _ _ hr;have hli:=ft.init.lookup
     have hbi:=ft.init.bind o
     repeat (any_goals first | assumption | wp_step)
     refine Ei (Dw ft.init.plain F.entry_object_init (ft.init.check _ _ _ _ _ _ _ _ hT hok (gi prog w A.in1 _ s1 hsi))) ?_;rintro (e | fl2) s2 hr2
     · exact hr2
     · cases fl2 with
       | ret r=>
         obtain ⟨rfl,hq⟩:=hr2;repeat (any_goals first | assumption | wp_step)
       | _=>exact hr2.elim
   | _=>exact hr.elim
theorem aX6 {T newId:String} {self:Value} {rest:List Value} {kw:List (Str×Value)} (hl:typeLookup (.type T) "__init__"=pure (some (.builtin "object.__init__")))
   (hm:Bind.madeBy (.type T)=pure (some newId)) (hne:(some newId != some "object.__new__")=true) :
   Meets (Builtin.«object.__init__» ⟨self::rest,kw⟩) (λ_ R s=>s.TypeIs self T/\R (.ok (.ret .none)) s):=by
 refine Meets.of_wp λprog w A R s hs=>?_;obtain ⟨hT,hq⟩:=hs;cases rest with
 | nil=>
   cases kw with
   | nil=>exact Ao ⟨_,rfl,hq⟩
   | cons a r=>
     repeat (any_goals first | assumption | wp_step)
     exact ⟨_,rfl,hq⟩
 | cons a r=>
   repeat (any_goals first | assumption | wp_step)
   exact ⟨_,rfl,hq⟩
theorem mR {l:Addr} {its:Array Value} {k:Int} {t:Tok} {Q:Q0} (hk:Builtin.SmallTypes.fitsIndex k=true) (hL:s.heap.IsList l its)
   (h:∀ h',IsEnum h' (s.heap.objs.size+1) s.heap.objs.size k .none->h'.IsListIter s.heap.objs.size l 0->h'.objs.size=s.heap.objs.size+2->(∀ b o,s.heap.get? b=some o->h'.get? b=some o)->Q (.ref (s.heap.objs.size+1)) { s with heap:=h' }) :
   wpAny (model prog w) A (call (.type "enumerate") [.ref l] [("start",.int k t)]) Q E s:=by
 obtain ⟨⟨c,dc,dt,sl⟩,hl,hc,n,hd⟩:=hL;obtain rfl:c=.type "list" := hc;obtain rfl:dt=.seq its n:=hd;have hz:(s.heap.push { cls:=.type "list_iterator",data:=.fields #[.ref l,.int 0 0] }).objs.size=s.heap.objs.size+1:=Fj ..
 refine nK (Q1:=λo s1=>s1.TypeIs o "enumerate"/\Q o s1) F.called_enumerate (by kernel_rfl) (by kernel_rfl) F.entry_enumerate_new (aJG l its n dc sl k t hk) ⟨hl,?_⟩ λo s1 hq=>⟨hq.1,?_,_,aX6 F.called_enumerate.init.lookup F.called_enumerate.made (by decide),hq.1,rfl,hq.2⟩
 · show _/\_
   rw [hz];have he:IsEnum ((s.heap.push { cls:=.type "list_iterator",data:=.fields #[.ref l,.int 0 0] }).push ⟨.type "enumerate",none,.fields #[.none,.bool false,.ref s.heap.objs.size,rawInt k,.none,.none],#[]⟩) (s.heap.objs.size+1) s.heap.objs.size k .none:=by
     have q:=Ar (s.heap.push { cls:=.type "list_iterator",data:=.fields #[.ref l,.int 0 0] }) (o:=⟨.type "enumerate",none,.fields #[.none,.bool false,.ref s.heap.objs.size,rawInt k,.none,.none],#[]⟩) rfl
     rwa [hz] at q
   exact ⟨⟨_,he,rfl⟩,h _ he ⟨_,Ad _ (Ar _ rfl),rfl,rfl⟩ (by rw [Fj,hz]) λb o x=>Ad _ (Ad _ x)⟩
 · unfold argsOk;rw [signature?_of (n:=['_','_','t','i','n','i','_','_']) (o := "tcejbo".toList) (by kernel_rfl) F.owner_object]
   kernel_rfl
end
theorem hV {prog:Program} {w:World} {A:Around} {it:Addr} {fp:List Addr} {n:Nat} {P:Nat->Value->Prop} {S:Nat->Heap->Prop} (k:Nat) (D:Draws prog w A it fp n P S) :
   Draws prog w A it fp (k+n) (λj v=>P (j - k) v) (λj h=>k<=j/\S (j - k) h) where
 live:=λi h st=>D.live _ h st.2
 frame:=λi h h' st kk=>⟨st.1,D.frame _ h h' st.2 kk⟩
 item:=λi s Q E hi st hQ=>D.item (i - k) s Q E (by have:=st.1; omega) st.2 λx h' tk hP hS sb=>hQ x h' tk hP ⟨by have:=st.1; omega,by rw [show i+1 - k=i - k+1 by have:=st.1; omega]; exact hS⟩ sb
 done:=λs Q E st hE=>D.done s Q E (by have q:=st.2; rwa [show k+n - k=n by omega] at q) hE
section
variable {X:Cx} {pins:Q2} {σ:St} {H:Hp} {s:Shared} {h':Heap}
theorem Inv.turnLaid {ch:List Addr} {a:Addr} {o:HO} {t':Nat} (I:Inv X pins σ H s) (hch:∀ b ∈ ch,iG X pins H b) (k:∀ b u,b ∉ ch->s.heap.get? b=some u->h'.get? b=some u) (hp:s.heap.objs.size<=a)
   (new:ObjOk X.prog X.w (upd H a o) h' a o):Inv X pins σ (upd H a o) { s with heap:=h',toks:=t' }:=by
 have hn:=I.hok.fresh hp
 have nch:∀ b u,H b=some u->b ∉ ch:=λb u e z=>by rw [(hch b z).1] at e; cases e
 refine I.step (g':=s.gens) (d':=s.drawn) (ch:=ch) (λb hb=>?_) (λb o _ _ hc e _=>k b o hc e) (λb o _ _ hc e _=>⟨o.slots,k b o hc e⟩) (λb o _ e n=>?_) (λb o hc e=>⟨o,k b o hc e⟩)
   (λb xs e=>by rw [aK (bG e hn)]; exact e) (λb o u e=>by rw [aK (bG e hn)]; exact e) (λb ps e=>⟨#[],by rw [aK (bG e hn),e]; simp⟩) (λm hm=>?_) (λb u e=>?_) I.bare
 · obtain ⟨_,q1,_,q3,q4,q5⟩:=hch b hb;exact ⟨q3,q1,q4,q5⟩
 · rw [aK (Ay (Bc (An e) hp))];exact n
 · obtain ⟨ob,es,ep,ho,r⟩:=hm;exact ⟨ob,es,ep,k _ ob (λz=>(hch _ z).2.1 rfl) ho,r⟩
 · by_cases hb:b=a
   · subst hb;rw [aG] at e;cases e;exact new
   · rw [aK hb] at e;refine (I.hok b u e).stay (λc v hc q=>k c v ?_ q) (λc q=>by rw [aK (bG q hn)]; exact q) λc xs q=>by rw [aK (bG q hn)]; exact q
     rcases hc with z | z
     · rw [z]; exact nch b u e
     · exact nch c _ z
theorem Inv.turnAll {ch:List Addr} {t':Nat} (I:Inv X pins σ H s) (hch:∀ b ∈ ch,iG X pins H b) (k:∀ b u,b ∉ ch->s.heap.get? b=some u->h'.get? b=some u):Inv X pins σ H { s with heap:=h',toks:=t' }:=by
 have nch:∀ b u,H b=some u->b ∉ ch:=λb u e z=>by rw [(hch b z).1] at e; cases e
 refine I.step (g':=s.gens) (d':=s.drawn) (ch:=ch) (λb hb=>?_) (λb o _ _ hc e _=>k b o hc e) (λb o _ _ hc e _=>⟨o.slots,k b o hc e⟩) (λb o _ e n=>n) (λb o hc e=>⟨o,k b o hc e⟩)
   (λb xs e=>e) (λb o u e=>e) (λb ps e=>⟨#[],by rw [e]; simp⟩) (λm hm=>?_) (λb u e=>?_) I.bare
 · obtain ⟨_,q1,_,q3,q4,q5⟩:=hch b hb;exact ⟨q3,q1,q4,q5⟩
 · obtain ⟨ob,es,ep,ho,r⟩:=hm;exact ⟨ob,es,ep,k _ ob (λz=>(hch _ z).2.1 rfl) ho,r⟩
 · refine (I.hok b u e).stay (λc v hc q=>k c v ?_ q) (λc q=>q) λc xs q=>q;rcases hc with z | z
   · rw [z]; exact nch b u e
   · exact nch c _ z
end
def Ite (K:PySem.W.Frag) (a:Addr) (k:Nat):It :=
 ⟨λi H=>∃ xs x,SqL K H a xs/\xs[i]?=some x,λi H v H'=>∃ p x,H p=none/\v=.ref p/\H'=upd H p (.tup [.int ((k+i:Nat):Int),x])/\∀ xs,SqL K H a xs->xs[i]?=some x,λi H=>∃ xs,SqL K H a xs/\xs.length=i⟩
theorem bQG {P:Program} {w:World} {K:PySem.W.Frag} {elts:List Expr} {x1:Nat} {tp:Pos} (a e it:Addr) (k:Nat) (hei:e≠it) :
   Turn P w K (.Tuple elts x1 tp) (Ite K a k) [e,it] e (λi h=>(∃ old,IsEnum h e it ((k+i:Nat):Int) old)/\h.IsListIter it a i) where
 mem:=by simp
 obj:=λi h st b hb=>by
   obtain ⟨⟨old,he⟩,o,ho,c,d⟩:=st;rcases Bd.mp hb with z | z
   · subst z; exact ⟨_,he,λv z=>by cases z⟩
   · rw [Am.mp z]; exact ⟨o,ho,λv z=>by rw [d] at z; cases z⟩
 keep:=λi h h' st kk=>⟨let ⟨old,he⟩:=st.1; ⟨old,kk e (by simp) _ he⟩,st.2.at λo q=>kk it (by simp) o q⟩
 item:=by
   intro X hP hw hK hc i pins s σ H E I hf st hg;subst hP hw hK;obtain ⟨xs,x,hq,hx⟩:=hg;obtain ⟨its,rv,p,hz⟩:=I.list hq;obtain ⟨u,hu,ru⟩:=rv.get hx;obtain ⟨⟨old,he⟩,hit⟩:=st;have hai:a≠it:=by
     rintro rfl;obtain ⟨o,ho,c,_⟩:=hit;obtain ⟨o2,ho2,c2,_⟩:=p.isList;rw [ho] at ho2; cases ho2;rw [c] at c2; injection c2 with c2; exact absurd c2 (by decide)
   have hae:a≠e:=by
     rintro rfl;obtain ⟨o2,ho2,c2,_⟩:=p.isList;rw [he] at ho2; cases ho2;injection c2 with c2; exact absurd c2 (by decide)
   have hl:=rv.length
   have hil:i<its.length:=(Ae.mp hu).1
   have D:=hV k (Draws.list (prog:=X.prog) (w:=X.w) (A:=X.A.in1) (show X.A.in1.handled=none from I.ok.hd hc) it a hai its.toArray)
   refine wpAny_pyNext_enum_itemD D (i:=k+i) he ⟨Gq _ _,by rw [Dc]; exact ⟨hit,p.isList⟩⟩ (by rw [Av]; omega) hei (λz=>by
     rcases Bd.mp z with z | z
     · exact hei z
     · exact hae (Am.mp z).symm) λy h1 tk hP ho hS hT hsz kk=>?_
   refine ⟨_,rfl,wpAny_letOwnedTupleGo_enum ho λh2 he2 hs2=>?_⟩;have ey:y=u:=by
     have hP':its.toArray[k+i - k]?=some y:=hP
     rw [Dc] at hP';have:its[i]?=some y:=by simpa using hP'
     rw [hu] at this; cases this; rfl
   subst ey;have hTe:s.heap.objs.size≠e:=Gd (An he)
   have hTi:s.heap.objs.size≠it:=by obtain ⟨o,q,_⟩:=hit; exact Gd (An q)
   have hT2:h2.get? s.heap.objs.size=some { cls:=.type "tuple",data:=.seq #[.int ((k+i:Nat):Int) tk,y] }:=(hs2.2 _ hTe).trans hT
   have hS':h1.IsListIter it a (i+1):=by
     have q:=hS.2.1
     rwa [show k+i+1 - k=i+1 by omega] at q
   have I2:Inv X pins σ (upd H s.heap.objs.size (.tup [.int ((k+i:Nat):Int),x])) { s with heap:=h2,toks:=tk+1 }:=by
     refine I.turnLaid (ch:=[e,it]) hf (λb u hb q=>(hs2.2 b (λz=>hb (by simp [z]))).trans (kk b u (λz=>hb (by simp [z])) (λz=>hb (by simp [z])) q)) (Nat.le_refl _) ⟨bQ (by show 2<=_; omega),[.int ((k+i:Nat):Int) tk,y],.cons ⟨tk,rfl⟩ (.cons ru .nil),_,hT2,rfl,_,rfl⟩
   refine ⟨.ref s.heap.objs.size,_,I2,rfl,⟨_,x,I.hok.fresh (Ag _),rfl,rfl,λys hy=>by rw [I.list_inj hy hq]; exact hx⟩,⟨⟨y,he2⟩,hS'.at λo q=>(hs2.2 it hei.symm).trans q⟩,λb hb=>?_⟩
   rcases Bd.mp hb with z | z
   · rw [z,aK hTe.symm]; exact (hf e (by simp)).1
   · rw [List.mem_singleton.mp z,aK hTi.symm]; exact (hf it (by simp)).1
 done:=by
   intro X hP hw hK hc i pins s σ H E I hf st hg;subst hP hw hK;obtain ⟨xs,hq,hx⟩:=hg;obtain ⟨its,rv,p,hz⟩:=I.list hq;obtain ⟨⟨old,he⟩,hit⟩:=st;have hl:=rv.length
   have hai:a≠it:=by
     rintro rfl;obtain ⟨o,ho,c,_⟩:=hit;obtain ⟨o2,ho2,c2,_⟩:=p.isList;rw [ho] at ho2; cases ho2;rw [c] at c2; injection c2 with c2; exact absurd c2 (by decide)
   have D:=hV k (Draws.list (prog:=X.prog) (w:=X.w) (A:=X.A.in1) (show X.A.in1.handled=none from I.ok.hd hc) it a hai its.toArray)
   refine wpAny_pyNext_enum_endD D he ⟨Gq _ _,by rw [Dc,Av,<-hl,hx]; exact ⟨hit,p.isList⟩⟩ λh' eb=>⟨rfl,?_⟩
   exact I.turnAll (t':=s.toks) (ch:=[e,it]) hf λb u hb q=>eb b u (λz=>hb (by simp [z])) q
 self:=λ_ _ _ _ _ st h=>let ⟨⟨_,he⟩,_⟩:=st; Gi he h
section
variable {X:Cx} {l:Expr} {ta tk:TA} {kws:List Keyword} {elts:List Expr} {x1:Nat} {tp p pos kp:Pos}
def bJ7 (R:Addr->Hp->Prop):List V->Hp->Prop:=λvs H=>match vs with | [.ref j]=>R j H | _=>False
theorem cZP {R:Addr->Hp->Prop} {vs:List V} {H:Hp} (q:bJ7 R vs H):∃ j,vs=[.ref j]/\R j H:=by
 unfold bJ7 at q;split at q
 · exact ⟨_,rfl,q⟩
 · exact q.elim
def bQW (K:PySem.W.Frag) (ta tk:TA):TI:=λσ H R=>ta σ H (bJ7 λa H1=>tk σ H1 (qJ λk H2=>(0<=k/\k<2 ^ 62)/\onL (rdL H2 a) (R (Ite K a k.toNat) H2)))
theorem aXQ {pins:Q2} {σ:St} {H1:Hp} {s1:Shared} {a:Addr} {k:Nat} {h':Heap} {R:It->Hp->Prop} {E:Q0} (I1:Inv X pins σ H1 s1) (he:IsEnum h' (s1.heap.objs.size+1) s1.heap.objs.size ((k:Nat):Int) .none) (hi:h'.IsListIter s1.heap.objs.size a 0) (hz:h'.objs.size=s1.heap.objs.size+2)
   (hk:∀ b o,s1.heap.get? b=some o->h'.get? b=some o) (q:R (Ite X.K a k) H1):wpAny (model X.prog X.w) X.A (pyIter (.ref (s1.heap.objs.size+1))) (PIE X pins σ (.Tuple elts x1 tp) R) E { s1 with heap:=h' }:=by
 refine Gi (s:={ s1 with heap:=h' }) he ⟨_,[s1.heap.objs.size+1,s1.heap.objs.size],_,_,H1,rfl,I1.kept (t':=s1.toks) hk,bQG a _ _ k (Nat.succ_ne_self _),⟨⟨_,he⟩,hi⟩,λb hb=>?_,q⟩
 have z:s1.heap.objs.size<=b:=by
   rcases Bd.mp hb with z | z
   · rw [z]; exact Nat.le_succ _
   · rw [Am.mp z]; exact Ag _
 exact I1.fpOk z (I1.hok.fresh z)
theorem mP {M:Model} {A:Around} {E:Q0} {s:Shared} {T:String} {args:List (Bool×Sem Value)} {kw:List (Option Str×Sem Value)} {Q:Q0}
   (h1:args.any (·.1)=false) (h2:kw.any (·.1.isNone)=false) (h:wpAny M A (evalArgs (.type T) true args kw) (λa s1=>wpAny M A (call (.type T) a.pos a.kw) Q E s1) E s):wpAny M A (callWith pos (.type T) [] args kw) Q E s:=by
 unfold callWith;refine Ac (Bz (Bo h (λa s1 q1=>Ac (Ea ?_)) λ_ _ x=>x));rw [h1,h2];exact Ac (Ao (Ac (Bo q1 (λr s2 hr=>Ac (Bz (wpAny_point (Ao hr)))) λ_ _ x=>x)))
theorem bQS {kx:Expr} (hg:Gl X "enumerate") (hm:X.mg "enumerate"=none) (ha:PA X [l] ta) (hk:PK X [⟨some "start",kx,kp⟩] tk) (hs:starEach [l] X.env=[(false,eval l X.env)]:=by rfl)
   (hks:keywordEach [⟨some "start",kx,kp⟩] X.env=[(some ("start" : Str),eval kx X.env)]:=by rfl) :
   PI X (.Tuple elts x1 tp) (.Call (.Name "enumerate" p) [l] [⟨some "start",kx,kp⟩] pos) (bQW X.K ta tk):=by
 intro pins s σ H R I h;have hs2:backTo pos (starEach [l] X.env)=[(false,eval l X.env)]:=by rw [hs]; rfl
 refine Cz (mE I hg hm boot_enumerate (mP (by rw [hs2]; rfl) (by rw [hks]; rfl) ?_))
 rw [hs2];refine evalArgs_kwB (by rw [hks]; rfl) ?_
 rw [<-hs2];refine thn (ha pos pins s σ H _ I h) λus s1 ⟨vs,H1,I1,r1,q1⟩=>?_;obtain ⟨a,rfl,q⟩:=cZP q1;refine thn (hk pos pins s1 σ H1 _ I1 q) λws s2 ⟨zs,H2,I2,r2,q2⟩=>?_;obtain ⟨k,rfl,⟨k0,k1⟩,q⟩:=pT q2;obtain ⟨u,rfl,ru⟩:=eK r1;cases ru;obtain ⟨u,rfl,t,rfl⟩:=eK r2;unfold onL at q;split at q
 · rename_i xs ex
   obtain ⟨its,rv,p,hz⟩:=I2.list (bC ex);have e:(backToKw pos (keywordEach [⟨some "start",kx,kp⟩] X.env)).filterMap (·.1)=(["start"]:List Str):=by rw [hks]; rfl
   rw [e];refine mR (by unfold Builtin.SmallTypes.fitsIndex; rw [Aq (by omega),Aq (by omega)]; rfl) p.isList λh' he hi hz hk=>aXQ I2 (k:=k.toNat) ?_ hi hz hk q
   rw [show ((k.toNat:Nat):Int)=k by omega]
   exact he
 · exact q.elim
end
section
variable {K:PySem.W.Frag} {a:Addr} {k:Nat} {xs:List V} {g:TG} {tb:TS} {D:Ends} {σ σ0:St} {H H1:Hp} {tests:TT} {te:TE} {Q:VK}
theorem eXY (Pv:Nat->St->Hp->Prop) (h0:Pv 0 σ H) (hl:∀ i σ H,i<=xs.length->Pv i σ H->rdL H a=some xs)
   (hs:∀ i x σ H p,xs[i]?=some x->Pv i σ H->H p=none->g (.ref p) σ (upd H p (.tup [.int ((k+i:Nat):Int),x])) λσ2 H2=>tb { D with nx:=Pv (i+1),ct:=Pv (i+1),bk:=D.nx } σ2 H2) (hd:∀ σ H,Pv xs.length σ H->D.nx σ H):aZ4 (Ite K a k) g tb D σ H:=by
 refine ⟨λi m σ H=>m=xs.length - i/\i<=xs.length/\Pv i σ H,⟨xs.length,by simp,Nat.zero_le _,h0⟩,?_⟩
 rintro i m σ H ⟨rfl,hi,p⟩;have hr:=hl i σ H hi p
 by_cases hlt:i<xs.length
 · refine .inr ⟨⟨xs,xs[i],bC hr,by simp [hlt]⟩,Pv (i+1),λσ' H' p'=>⟨xs.length - (i+1),by omega,rfl,hlt,p'⟩,λx H' y=>?_⟩
   obtain ⟨q,z,hq,rfl,rfl,hz⟩:=y;exact hs i z σ H q (hz xs (bC hr)) p hq
 · have e:i=xs.length:=by omega
   subst e;exact .inl ⟨⟨xs,bC hr,rfl⟩,hd σ H p⟩
theorem aX3 (f:Nat->V->Option V) (ha:rdL H1 a=some xs) (hl:xs.length<sizeLine)
   (hs:∀ (i:Nat) x Hc p (A:VK) (B:Hp->Prop),xs[i]?=some x->Same H1 Hc->Hc p=none->(∀ Hd,Same (upd Hc p (.tup [.int ((k+i:Nat):Int),x])) Hd->match f i x with | some y=>A y Hd | none=>B Hd)->
     g (.ref p) σ0 (upd Hc p (.tup [.int ((k+i:Nat):Int),x])) λσ2 H2=>Wk σ0 σ2/\tests σ2 H2 λb H3=>if b=true then te σ2 H3 A else B H3)
   (fin:∀ D Hd,H1 D=none->Same H1 Hd->rdL Hd D=some ((List.range xs.length).filterMap λi=>f i (xs.getD i .non))->Q (.ref D) Hd):eF g tests te σ0 Q (Ite K a k) H1:=by
 intro D hD;refine ⟨λi m Hc=>m=xs.length - i/\i<=xs.length/\Same H1 Hc/\Hc D=some (.lst ((List.range i).filterMap λi=>f i (xs.getD i .non))),⟨xs.length,by simp,Nat.zero_le _,aF hD _,by rw [aG]; rfl⟩,?_⟩
 rintro i m Hc ⟨rfl,hi,sm,hDc⟩;have hr:=aV sm ha
 by_cases hlt:i<xs.length
 · refine .inr ⟨⟨xs,xs[i],bC hr,by simp [hlt]⟩,λv H' y=>?_⟩
   obtain ⟨q,z,hq,rfl,rfl,hz⟩:=y;have hx:=hz xs (bC hr)
   have hg:xs.getD i .non=z:=by rw [Ak,hx]; rfl
   refine hs i z Hc q _ _ hx sm hq λHd sd=>?_;have hDd:Hd D=some (.lst ((List.range i).filterMap λi=>f i (xs.getD i .non))):=sd _ _ (aF hq _ _ _ hDc)
   have sH:Same H1 Hd:=sm.trans ((aF hq _).trans sd)
   cases e:f i z with
   | some y=>
     refine ⟨_,hDd,?_,xs.length - (i+1),by omega,rfl,hlt,λb o hb=>?_,?_⟩
     · have:=Cw (λi=>f i (xs.getD i .non)) (List.range i)
       rw [Bj] at this;omega
     · rw [aK (bG hb hD)]; exact sH b o hb
     · rw [aG,Cp,Bk,Ce (b:=y) (by rw [hg,e]),Bx]
   | none=>
     refine ⟨xs.length - (i+1),by omega,rfl,hlt,sH,?_⟩
     rw [hDd,Cp,Bk,Cy (by rw [hg,e]),Bx,Br]
 · have e:i=xs.length:=by omega
   subst e;exact .inl ⟨⟨xs,bC hr,rfl⟩,fin D Hc hD sm (aQ hDc)⟩
theorem bQ2 {ta tk:TA} {R:It->Hp->Prop} (h:ta σ H (bJ7 λa H1=>tk σ H1 (qJ λk H2=>(0<=k/\k<2 ^ 62)/\onL (rdL H2 a) (R (Ite K a k.toNat) H2)))):bQW K ta tk σ H R:=h
theorem dQR {R:Addr->Hp->Prop} (h:R a H):bJ7 R [.ref a] H:=h
end
section
variable {X:Cx}
end
section
variable {K:PySem.W.Frag} {n:Nat} {t:TG} {u:TGs} {v:V} {r xs:List V} {σ:St} {H:Hp} {Q:St->Hp->Prop} {a:Addr}
theorem dXA (e:kO H a=some xs) (hn:xs.length=n) (h:u xs σ H Q):dQU K n u (.ref a) σ H Q:=⟨a,xs,rfl,.of (gE e),hn,h⟩
theorem cQT (h:t v σ H λσ' H'=>u r σ' H' Q):aZU t u (v::r) σ H Q:=⟨v,r,rfl,h⟩
theorem dZI (h:Q σ H):dX5 [] σ H Q:=⟨rfl,h⟩
end
theorem nI {X:Cx} {K:PySem.W.Frag} {i j k:Nat} {x y:Str} {px py pos:Pos} (hK:X.K=K) (hc:X.calm=true) (hN:X.N.Nodup) (hi:X.N[i]?=some x) (hx:Loc X.env.scope x) (hfx:X.fn x=true\/X.env.scope.names.lookup x=some .local)
   (hj:X.N[j]?=some y) (hy:Loc X.env.scope y) (hfy:X.fn y=true\/X.env.scope.names.lookup y=some .local):PG X (.Tuple [.Name x px,.Name y py] k pos) (dQU K 2 (aZU (lP i) (aZU (lP j) dX5))):=by
 subst hK;exact dXV hc (kX (bL hN hi hx hfx) (kX (bL hN hj hy hfy) aXO))
end L2
set_option maxHeartbeats 4000000
namespace L2
open PySem PySem.Spec PyProof.Rows
structure Fly (B:Heap) (l:List Env) (e:Addr) (cls:Value) (d:Option Addr) (fl:Value) (h:Heap):Prop where
 stays:B.StaysIn h
 new:B.get? e=none
 frames:h.FunFrames B l
 on:∃ oe vs T oT ts,h.get? e=some oe/\(oe.cls=cls/\oe.dict=d)/\oe.data=.fields vs/\vs[1]?=some (.ref T)/\B.get? T=none/\T≠e/\h.get? T=some oT/\oT.data=.fields ts/\ts[3]?=some fl/\vs[2]?=some .none
theorem xF (o:Obj) (f:Array Value->Array Value):(o.mapFields f).dict=o.dict:=by
 obtain ⟨c,d,dt,sl⟩:=o;cases dt <;> rfl
theorem lQ {h:Heap} {a:Addr} {o:Obj} {vs:Array Value} {f:Obj->Obj} (ha:h.get? a=some o) (hd:o.data=.fields vs):∀ b u,h.get? b=some u->(∀ ws,u.data≠.fields ws)->(h.update a f).get? b=some u:=λb u e n=>by
 rw [Bs _ _ (λz:a=b=>by rw [<-z,ha] at e; cases e; exact n vs hd)]
 exact e
section
variable {M:Model} {A:Around} {E:Q0} {s:Shared} {B:Heap} {env:Env} {outer l:List Env} {L e:Addr} {cls:Value} {d:Option Addr} {Q:Unit->Shared->Prop}
theorem nR {oe:Obj} {vs:Array Value} {head:Value} {nx:Bool} (hfr:A.frames=some (env::outer)) (hl:s.heap.FunFrames B (env::outer)) (hf:env.frame=some L) (hB:B.StaysIn s.heap) (hn:B.get? e=none)
   (he:s.heap.get? e=some oe) (hd:oe.data=.fields vs) (h1:1<vs.size) (c2:vs[2]?=some .none) (hQ:∀ h',Fly B (env::outer) e oe.cls oe.dict (rawInt L) h'->s.heap.UpToSlots h'->Q () { s with heap:=h' }) :
   wpAny M A (do let a <-frameOf env; let pl <-entryPlaceOf L nx; let b <-EntryCells.newEntry head a .none (rawInt L) .none pl; setField (.ref e) 1 b) Q E s:=by
 have ne:e ∉ (env::outer).filterMap (·.frame):=λhm=>by
   obtain ⟨_,o,ho,nf⟩:=hl.mem hm;rw [he] at ho; cases ho;exact nf vs hd
 refine Ac (wpAny_frameOf_fun hfr hl hf λg1 so=>Ac (wpAny_entryPlaceOf λpl hpl=>?_));have e1:g1.get? e=some oe:=(so.2.1 e ne).trans he
 have b1:B.StaysIn g1:=λb o q=>(so.2.1 b λhm=>by rw [(hl.mem hm).1] at q; cases q).trans (hB b o q)
 unfold EntryCells.newEntry newFields;refine Ac (Gh ?_ (hpl.sizeOk5 _ _ _ _ _));generalize hts:(([head,.ref L,.none,rawInt L,.none]++(if pl.isEmpty then List.replicate 6 Value.none else pl):List Value)).toArray=ts
 have t3:ts[3]?=some (rawInt L):=by rw [<-hts]; simp
 have e2:=Ad (h:=g1) ⟨.type "traceback",none,.fields ts,#[]⟩ e1
 refine Fl e2 hd h1 (hQ _ ?_ ?_)
 · have te:g1.objs.size≠e:=Gd (An e1)
   have dm:=Ga hd (·.setIfInBounds 1 (Value.ref g1.objs.size))
   refine ⟨λb o q=>?_,hn,hl.of_keeps λb o q nf=>?_,_,_,g1.objs.size,⟨.type "traceback",none,.fields ts,#[]⟩,ts,Heap.get?_update_self _ e2 (Obj.isFreed_of_fields dm),⟨Obj.cls_mapFields _ _,xF _ _⟩,dm,by simp [h1],b1.fresh,te,?_,rfl,t3,(Array.getElem?_setIfInBounds_ne (by decide)).trans c2⟩
   · rw [Bs _ _ (λz:e=b=>by rw [<-z,hn] at q; cases q)]
     exact Ad _ (b1 b o q)
   · obtain ⟨sl,q1⟩:=so.2.2 b o q;exact ⟨_,lQ e2 hd b _ (Ad _ q1) nf,rfl⟩
   · rw [Bs _ _ te.symm];exact Ar g1 rfl
 · intro b o q nf;obtain ⟨sl,q1⟩:=so.2.2 b o q;exact ⟨sl,lQ e2 hd b _ (Ad _ q1) nf⟩
theorem bQE {oe:Obj} {vs:Array Value} (hfr:A.frames=some (env::outer)) (hl:s.heap.FunFrames B (env::outer)) (hf:env.frame=some L) (hB:B.StaysIn s.heap) (hn:B.get? e=none)
   (he:s.heap.get? e=some oe) (hd:oe.data=.fields vs) (h1:vs[1]?=some .none) (c2:vs[2]?=some .none) (hQ:∀ h',Fly B (env::outer) e oe.cls oe.dict (rawInt L) h'->s.heap.UpToSlots h'->Q () { s with heap:=h' }):wpAny M A (noteFrame (.ref e) env) Q E s:=by
 unfold noteFrame;simp only [hf];refine Ac (Ew he hd h1 ?_);rw [if_neg (show ¬ ((Value.none != Value.none)=true) by decide)]
 exact nR hfr hl hf hB hn he hd (Bu.mp h1).1 c2 hQ
theorem yL (hfr:A.frames=some (env::outer)) (hf:env.frame=some L) (F:Fly B (env::outer) e cls d .none s.heap) (hQ:∀ h',Fly B (env::outer) e cls d (rawInt L) h'->s.heap.UpToSlots h'->Q () { s with heap:=h' }) :
   wpAny M A (noteFrame (.ref e) env) Q E s:=by
 obtain ⟨hB,hn,hl,oe,vs,T,oT,ts,he,⟨rfl,rfl⟩,hd,h1,hT,hTe,gT,dT,t3,c2⟩:=F;unfold noteFrame;simp only [hf];refine Ac (Ew he hd h1 ?_);rw [if_pos (show (Value.ref T != Value.none)=true by simp)]
 refine Ac (Ew gT dT t3 ?_);rw [if_neg (show ¬ ((Value.none == rawInt L)=true) by simp [rawInt])]
 refine Ac (Fl gT dT (Bu.mp t3).1 ?_);have keep:∀ b,b≠T->(s.heap.update T (Obj.mapFields (·.setIfInBounds 3 Value.none))).get? b=s.heap.get? b:=λb hb=>Bs _ _ (Ne.symm hb)
 refine nR (s:={ s with heap:=s.heap.update T (Obj.mapFields (·.setIfInBounds 3 Value.none)) }) hfr (hl.of_keeps λb o q nf=>⟨o,lQ gT dT b o q nf,rfl⟩) hf
   (λb o q=>(keep b λz=>by rw [z,hT] at q; cases q).trans (hB b o q)) hn ((keep e hTe.symm).trans he) hd (Bu.mp h1).1 c2 λh' F' up=>hQ h' F' λb o q nf=>up b o (lQ gT dT b o q nf) nf
theorem eO {fl:Value} (F:Fly B l e cls d fl s.heap) (hQ:∀ h',Fly B l e cls d .none h'->s.heap.UpToSlots h'->Q () { s with heap:=h' }):wpAny M A (setFlight (.ref e) none) Q E s:=by
 obtain ⟨hB,hn,hl,oe,vs,T,oT,ts,he,hc,hd,h1,hT,hTe,gT,dT,t3,c2⟩:=F;have z3:3<ts.size:=(Bu.mp t3).1
 unfold setFlight;refine Ac (Ew he hd h1 ?_);rw [if_pos (show (Value.ref T != Value.none)=true by simp)]
 refine Fl gT dT z3 (hQ _ ?_ λb o q nf=>⟨o.slots,lQ gT dT b o q nf⟩);have dm:=Ga dT (·.setIfInBounds 3 Value.none)
 refine ⟨λb o q=>?_,hn,hl.of_keeps λb o q nf=>⟨o,lQ gT dT b o q nf,rfl⟩,oe,vs,T,_,_,?_,hc,hd,h1,hT,hTe,Heap.get?_update_self _ gT (Obj.isFreed_of_fields dm),dm,by simp [z3],c2⟩
 · rw [Bs _ _ (λz:T=b=>by rw [<-z,hT] at q; cases q)]
   exact hB b o q
 · rw [Bs _ _ hTe];exact he
theorem Fly.less {fl:Value} {h:Heap} (F:Fly B (env::outer) e cls d fl h):Fly B outer e cls d fl h:=⟨F.stays,F.new,F.frames.2.2,F.on⟩
theorem zQ {oe:Obj} {vs:Array Value} (hfr:A.frames=some (env::outer)) (hl:s.heap.FunFrames B (env::outer)) (hf:env.frame=some L) (hB:B.StaysIn s.heap) (hn:B.get? e=none)
   (he:s.heap.get? e=some oe) (hd:oe.data=.fields vs) (h1:vs[1]?=some .none) (c2:vs[2]?=some .none) (hQ:∀ h',Fly B outer e oe.cls oe.dict .none h'->s.heap.UpToSlots h'->Q () { s with heap:=h' }):wpAny M A (leaving env (.ref e)) Q E s:=by
 unfold leaving;exact Ac (bQE hfr hl hf hB hn he hd h1 c2 λh1 F1 u1=>eO (s:={ s with heap:=h1 }) F1 λh2 F2 u2=>hQ h2 F2.less (u1.trans u2))
theorem aJ5 (hfr:A.frames=some (env::outer)) (hf:env.frame=some L) (F:Fly B (env::outer) e cls d .none s.heap) (hQ:∀ h',Fly B outer e cls d .none h'->s.heap.UpToSlots h'->Q () { s with heap:=h' }):wpAny M A (leaving env (.ref e)) Q E s:=by
 unfold leaving;exact Ac (yL hfr hf F λh1 F1 u1=>eO (s:={ s with heap:=h1 }) F1 λh2 F2 u2=>hQ h2 F2.less (u1.trans u2))
end
end L2
set_option maxHeartbeats 4000000
namespace L2
open PySem PySem.Spec PyProof.Rows
structure UnB (fs:List Addr) (H H':Hp) (h B h':Heap):Prop where
 keep:∀ b o,h.get? b=some o->H b=none->b ∉ fs->B.get? b=some o
 slot:∀ b o,h.get? b=some o->H b=none->b∈fs->∃ sl,h'.get? b=some { o with slots:=sl }
 free:∀ b o,h.get? b=some o->H b=none->H' b=none
 there:∀ b o,h.get? b=some o->b ∉ fs->∃ o',B.get? b=some o'
 tups:∀ b xs,H b=some (.tup xs)->H' b=some (.tup xs)
 frzs:∀ b o u,H b=some (.frz o u)->H' b=some (.frz o u)
 tbls:∀ b ps,H b=some (.tbl ps)->∃ more,H' b=some (.tbl (ps++more))
def CXr (P:Program) (w:World):CXT:=λouter H s E e s'=>
 ∃ (ea:Addr) (cls:Value) (d:Option Addr) (B:Heap) (H':Hp),e=.ref ea/\s'.os=s.os/\AllBare s'.gens/\Fly B outer ea cls d .none s'.heap/\HOk P w H' B/\UnB (frs outer) H H' s.heap B s'.heap/\E cls d H'
theorem HOk.down {P:Program} {w:World} {H:Hp} {h B:Heap} (x:HOk P w H h) (k:∀ b o u,H b=some u->h.get? b=some o->B.get? b=some o):HOk P w H B:=λa u e=>
 (x a u e).stay (λb o hb q=>by
   rcases hb with z | z
   · subst z; exact k b o u e q
   · exact k b o _ z q) (λ_ q=>q) λ_ _ q=>q
theorem ObjOk.get {P:Program} {w:World} {H:Hp} {h:Heap} {a:Addr} {o:HO} (x:ObjOk P w H h a o):∃ ob,h.get? a=some ob:=by
 cases o with
 | lst xs=>obtain ⟨_,_,_,_,e⟩:=x; exact ⟨_,e⟩
 | tup xs=>obtain ⟨_,_,_,ob,e,_⟩:=x; exact ⟨_,e⟩
 | dK kvs=>obtain ⟨_,_,_,_,ob,_,_,e,_⟩:=x; exact ⟨_,e⟩
 | dT kvs=>obtain ⟨_,_,_,_,ob,_,_,e,_⟩:=x; exact ⟨_,e⟩
 | set S n=>obtain ⟨ob,_,_,_,e,_⟩:=x; exact ⟨_,e⟩
 | ins C dx fs=>obtain ⟨_,_,_,e,_⟩:=x; exact ⟨_,e⟩
 | own y=>exact x
 | xd fs=>obtain ⟨_,⟨od,_,_,e,_⟩,_⟩:=x; exact ⟨_,e⟩
 | rng lo hi=>obtain ⟨_,_,_,e⟩:=x; exact ⟨_,e⟩
 | frz ob u=>exact ⟨_,x.1⟩
 | tbl ps=>exact ⟨_,x⟩
 | met f y=>exact ⟨_,x⟩
 | ext φ=>exact x.2.1
theorem HOk.hole {P:Program} {w:World} {H:Hp} {h:Heap} {a:Addr} (x:HOk P w H h) (e:h.get? a=none):H a=none:=by
 cases q:H a with
 | none=>rfl
 | some o=>
   obtain ⟨ob,z⟩:=(x a o q).get;rw [e] at z;cases z
theorem iH {env:Env} {outer:List Env} {L b:Addr} (hf:env.frame=some L) (h1:b≠L) (h2:b ∉ frs outer):b ∉ frs (env::outer):=λhm=>by
 obtain ⟨e,he,q⟩:=Cm.mp hm;rcases Bd.mp he with z | z
 · subst z;rw [hf] at q;exact h1 (Bm q).symm
 · exact h2 (Cm.mpr ⟨e,z,q⟩)
section
variable {P:Program} {w:World} {K:PySem.W.Frag} {mg:Q3} {base:Heap} {N:List Str} {qual:Str} {scope:Scope} {f:Addr} {cd:Value} {A:Around} {outer:List Env} {s₀:Shared} {H₀:Hp} {E:XK}
 {pins:Q2} {σ:St} {H:Hp} {s:Shared}
theorem wC {ea:Addr} {oe:Obj} {vs:Array Value} (I:Inv (gU (CXr P w) P w K mg base N qual scope f cd A outer s₀ H₀ E) pins σ H s) (he:s.heap.get? ea=some oe) (hd:oe.data=.fields vs) (h1:vs[1]?=some .none) (c2:vs[2]?=some .none) (hn:H ea=none) (h0:s₀.heap.get? ea=none)
   (q:E oe.cls oe.dict H):(gU (CXr P w) P w K mg base N qual scope f cd A outer s₀ H₀ E).xe (.ref ea) s:=by
 have hfr:=I.ok.frames
 have hst:=I.stack
 have hsf:=I.stkFree
 have hbase:=I.base
 have hlo:∀ b o,s₀.heap.get? b=some o->b≠s₀.heap.objs.size:=λb o e=>Ay (An e)
 have nea:∀ b o,s₀.heap.get? b=some o->b≠ea:=λb o e z=>by rw [z,h0] at e; cases e
 have hid:∀ b o,s.heap.get? b=some o->b≠ea->b ∉ frs (envOfC qual scope s₀.heap.objs.size f cd::outer)->(PySem.W.hideAll s.heap (ea::frs (envOfC qual scope s₀.heap.objs.size f cd::outer))).get? b=some o:=λb o e n1 n2=>
   PySem.W.hideAll_get _ e λhm=>(Bd.mp hm).elim n1 n2
 refine zQ (B:=PySem.W.hideAll s.heap (ea::frs (envOfC qual scope s₀.heap.objs.size f cd::outer))) hfr (PySem.W.funFrames_hide hst λenv he b hb=>Ah _ (Cm.mpr ⟨env,he,hb⟩)) rfl (λb o q=>Fz _ q)
   (PySem.W.hideAll_none _ Ai) he hd h1 c2 λh2 fl up=>?_
 refine ⟨ea,_,_,_,H,rfl,I.os,I.bare,fl,I.hok.down λb o u e g=>hid b o g (λz=>by rw [z,hn] at e; cases e) λhm=>?_,⟨λb o e n hb=>?_,λb o e n hb=>?_,λb o e n=>hbase.free b o e n (by simp [gU]),λb o e hb=>?_,hbase.tups,hbase.frzs,hbase.tbls⟩,q⟩
 · rw [hsf b hm] at e;cases e
 · exact hid b o (hbase.keep b o e n hb (by simp [gU])) (nea b o e) (iH rfl (hlo b o e) hb)
 · obtain ⟨sl,q1⟩:=hbase.slot b o e n hb (by simp [gU])
   obtain ⟨_,o2,g2,nf⟩:=I.ok.funs.mem hb;have e2:s₀.heap.get? b=some o2:=g2
   rw [e] at e2;cases e2;obtain ⟨sl2,q2⟩:=up b _ q1 nf;exact ⟨sl2,q2⟩
 · obtain ⟨o',q1⟩:=hbase.there b o e (by simp [gU])
   exact ⟨o',hid b o' q1 (nea b o e) (iH rfl (hlo b o e) hb)⟩
theorem kZ:fH (CXr P w) (gU (CXr P w) P w K mg base N qual scope f cd A outer s₀ H₀ E) E:=by
 intro pins σ H s e s' I h;obtain ⟨ea,cls,d,B,H',rfl,os,bare,fl,hok,un,q⟩:=h;have hbase:=I.base
 have hlo:∀ b o,s₀.heap.get? b=some o->b≠s₀.heap.objs.size:=λb o e=>Ay (An e)
 refine aJ5 I.ok.frames rfl fl λh2 fl2 up=>?_;have ns:∀ b o,s₀.heap.get? b=some o->b ∉ frs outer->b ∉ frs (envOfC qual scope s₀.heap.objs.size f cd::outer):=λb o e hb=>iH rfl (hlo b o e) hb
 have ins:∀ b,b∈frs outer->b∈frs (envOfC qual scope s₀.heap.objs.size f cd::outer):=λb hb=>by
   obtain ⟨e,he,q⟩:=Cm.mp hb;exact Cm.mpr ⟨e,Ah _ he,q⟩
 refine ⟨ea,cls,d,B,H',rfl,os.trans I.os,bare,fl2,hok,⟨λb o e n hb=>?_,λb o e n hb=>?_,λb o e n=>?_,λb o e hb=>?_,λb xs e=>un.tups b xs (hbase.tups b xs e),λb o u e=>un.frzs b o u (hbase.frzs b o u e),λb ps e=>?_⟩,q⟩
 · exact un.keep b o (hbase.keep b o e n hb (by simp [gU])) (hbase.free b o e n (by simp [gU])) (ns b o e hb)
 · obtain ⟨sl,q1⟩:=hbase.slot b o e n hb (by simp [gU])
   obtain ⟨sl1,q2⟩:=un.slot b _ q1 (hbase.free b o e n (by simp [gU])) (ins b hb)
   obtain ⟨_,o2,g2,nf⟩:=I.ok.funs.mem hb;have e2:s₀.heap.get? b=some o2:=g2
   rw [e] at e2;cases e2;obtain ⟨sl2,q3⟩:=up b _ q2 nf;exact ⟨sl2,q3⟩
 · obtain ⟨o',q1⟩:=hbase.there b o e (by simp [gU])
   exact un.free b o' q1 (hbase.free b o e n (by simp [gU]))
 · obtain ⟨o',q1⟩:=hbase.there b o e (by simp [gU])
   exact un.there b o' q1 (ns b o e hb)
 · obtain ⟨m1,e1⟩:=hbase.tbls b ps e;obtain ⟨m2,e2⟩:=un.tbls b _ e1;exact ⟨m1++m2,by rw [e2,Ee]⟩
end
theorem cQ4 {K:PySem.W.Frag} {h:Heap} {C:Addr} {bmB:List Value} {newId:String} (X:K.In h) (q:PySem.W.excIn K C bmB newId=true) :
   ∃ bm N nm qn bs hd sn sub ab col dd k0 k1 k2 k3 k5 mN,h.get? C=some (excClassObj nm qn C N bs bm hd sn sub ab col dd k0 k1 k2 k3 k5 newId)/\h.Ns N mN/\mN "__init__"=none/\OwnTail h bmB bm:=by
 unfold PySem.W.excIn at q;split at q
 · rename_i dd c sl ho
   split at q
   · rename_i C1 bm k0 k1 k2 k3 n k5 hm hs
     obtain ⟨⟨⟨⟨⟨q1,q2⟩,q3⟩,q4⟩,q5⟩,q6⟩:((((C1=C/\n=newId)/\c.hasDel=false)/\PySem.W.tailIn K bmB bm=true)/\PySem.W.nsOkIn K c.ns=true)/\PySem.W.nsIn K c.ns "__init__"=some none:=by
       simpa only [Bool.and_eq_true,beq_iff_eq,Bool.not_eq_true'] using q
     subst q1 q2;obtain ⟨nm,bs,mro,ns,qn,hd,sn,sub,ab,col,del⟩:=c;dsimp only at hm q3 q5 q6;subst hm q3;obtain rfl:sl=#[k0,k1,k2,k3,some (.builtin n),k5]:=by
       obtain ⟨l⟩:=sl;have hs':l=_:=hs
       rw [hs']
     exact ⟨bm,ns,nm,qn,bs,hd,sn,sub,ab,col,dd,k0,k1,k2,k3,k5,_,X _ _ ho,.of_isNs (PySem.W.isNs_of_in X q5),PySem.W.nsMap_none_of_in X q5 q6,PySem.W.tail_of_in X q4⟩
   · cases q
 · cases q
def dQW (X:Cx) (E:XK):Prop:=∀ (pins:List (Addr×Obj)) (σ:St) (H:Hp) (s:Shared) (ea:Addr) (oe:Obj) (vs:Array Value),Inv X pins σ H s->s.heap.get? ea=some oe->oe.data=.fields vs->vs[1]?=some .none->vs[2]?=some .none->H ea=none->X.s₀.heap.get? ea=none->
 E oe.cls oe.dict H->X.xe (.ref ea) s
theorem iB {P:Program} {w:World} {K:PySem.W.Frag} {mg:Q3} {base:Heap} {N:List Str} {qual:Str} {scope:Scope} {f:Addr} {cd:Value} {A:Around} {outer:List Env} {s₀:Shared} {H₀:Hp} {E:XK} :
   dQW (gU (CXr P w) P w K mg base N qual scope f cd A outer s₀ H₀ E) E:=λ_ _ _ _ _ _ _ I he hd h1 c2 hn h0 q=>wC I he hd h1 c2 hn h0 q
section
variable {X:Cx} {E:XK} {x:Str} {C:Addr} {bmB:List Value} {B newId initId:String} {e:Expr} {es:List Expr} {ta:TA} {np cpos pos:Pos}
def bJ2 (C:Addr) (E:XK) (ta:TA):TS:=λ_ σ H=>ta σ H λvs H1=>vs.length<=sizeLine/\E (.ref C) none H1
theorem jB (hR:dQW X E) (hex:X.ex=[]) (hc:X.calm=true) (hg:Gl X x) (hm:X.mg x=some (.ref C)) (hx:PySem.W.excIn X.K C bmB newId=true) (FB:ExcBaseFacts B newId initId bmB) (ha:PA X (e::es) ta)
   (hd:(x == ("__debug__" : Str))=false:=by decide) (he:starEach (e::es) X.env=(false,eval e X.env)::starEach es X.env:=by rfl) (hpl:(backTo cpos (starEach es X.env)).any (·.1)=false:=by rfl) :
   PS X (.Raise (some (.Call (.Name x np) (e::es) [] cpos)) none pos) (bJ2 C E ta):=by
 intro pins s σ H D I h;obtain ⟨bm,N,nm,q,bs,hdct,sn,sub,ab,col,dd,k0,k1,k2,k3,k5,mN,hC,hN,hni,T⟩:=cQ4 I.ok.mod.kin hx;refine wpAny_Raise_call_subT (C:=C) (N:=N) (bm:=bm) (nm:=nm) (q:=q) (bs:=bs) (hdct:=hdct) (sn:=sn) (sub:=sub) (ab:=ab) (col:=col) (dd:=dd) (k0:=k0) (k1:=k1) (k2:=k2) (k3:=k3) (k5:=k5)
   FB (mN:=mN) (T.hasType FB.hasBase) (I.ok.hd hc) (by rw [he]; show (false || (backTo cpos (starEach es X.env)).any (·.1))=false; rw [hpl]; rfl) hni (eD I hg hm ⟨rfl,?_⟩ hd)
 have h1:=ha cpos pins s σ H _ I h
 rw [he] at h1 ⊢;refine Fk (thn h1 λus s2 ⟨vs,H2,I2,r,q2⟩=>⟨rfl,?_,I2.bk _ _ hC,hN.keeps I2.bk,T.keeps I2.bk,λh' ea hx=>?_⟩)
 · show us.length<=sizeLine
   rw [<-r.length];exact q2.1
 · obtain ⟨t,g,_,_⟩:=hx.there;refine hR pins σ H2 { s2 with heap:=h' } ea _ _ (I2.kept (t':=s2.toks) hx.keeps) g rfl rfl rfl (I2.hok.hole hx.new) ?_ q2.2
   cases z:X.s₀.heap.get? ea with
   | none=>rfl
   | some o=>
     obtain ⟨o',z'⟩:=I2.base.there ea o z (by rw [hex]; simp)
     rw [hx.new] at z';cases z'
end
abbrev Cx.tr (X:Cx) (pins:List (Addr×Obj)) (xe:Value->Shared->Prop):Cx:={ X with pn:=X.pn++pins,xe:=xe }
abbrev Cx.hnd (X:Cx) (pins:List (Addr×Obj)) (ea:Addr):Cx:={ X with A:=X.A.mark (some (.ref ea)),calm:=false,pn:=X.pn++pins,xe:=λ_ _=>False }
section
variable {X:Cx} {pins pins':Q2} {σ:St} {H:Hp} {s:Shared} {xe:Q0} {ea:Addr}
theorem Inv.tr (I:Inv X pins σ H s) (xe:Q0):Inv (X.tr pins xe) [] σ H s :=
 ⟨⟨I.ok.mod,I.ok.kind,I.ok.glob,I.ok.blt,I.ok.above,I.ok.inj,I.ok.has,I.ok.cab,I.ok.hd,I.ok.frames,I.ok.stk,I.ok.exf,I.ok.bs,I.ok.bsz,I.ok.noex,I.ok.exfs,I.ok.funs,I.ok.frf⟩,I.os,I.bare,I.base,I.loc,I.cell,I.free,I.freeC,
   λp hp=>I.pin p (by rwa [Br] at hp),I.hok,I.len⟩
theorem Inv.untr (I:Inv (X.tr pins xe) pins' σ H s):Inv X pins σ H s :=
 ⟨⟨I.ok.mod,I.ok.kind,I.ok.glob,I.ok.blt,I.ok.above,I.ok.inj,I.ok.has,I.ok.cab,I.ok.hd,I.ok.frames,I.ok.stk,I.ok.exf,I.ok.bs,I.ok.bsz,I.ok.noex,I.ok.exfs,I.ok.funs,I.ok.frf⟩,I.os,I.bare,I.base,I.loc,I.cell,I.free,I.freeC,
   λp hp=>I.pin p (Du _ hp),I.hok,I.len⟩
theorem Inv.hnd (I:Inv X pins σ H s) (ea:Addr):Inv (X.hnd pins ea) [] σ H s :=
 ⟨⟨I.ok.mod,I.ok.kind,I.ok.glob,I.ok.blt,I.ok.above,I.ok.inj,I.ok.has,I.ok.cab,(λz=>nomatch z),I.ok.frames,I.ok.stk,I.ok.exf,I.ok.bs,I.ok.bsz,I.ok.noex,I.ok.exfs,I.ok.funs,I.ok.frf⟩,I.os,I.bare,I.base,I.loc,I.cell,I.free,I.freeC,
   λp hp=>I.pin p (by rwa [Br] at hp),I.hok,I.len⟩
theorem Inv.unhnd (I:Inv (X.hnd pins ea) pins' σ H s) (ok:X.Ok):Inv X pins σ H s :=
 ⟨ok,I.os,I.bare,I.base,I.loc,I.cell,I.free,I.freeC,λp hp=>I.pin p (Du _ hp),I.hok,I.len⟩
structure Fre (X:Cx) (pins:List (Addr×Obj)) (a:Addr):Prop where
 s0:X.s₀.heap.get? a=none
 loc:a≠X.env.locals
 cell:∀ x c,X.env.cells.lookup x=some c->c≠a
 pin:∀ p∈X.pn++pins,p.1≠a
theorem Inv.adopt {a:Addr} {o:HO} (I:Inv X pins σ H s) (f:Fre X pins a) (hn:H a=none) (new:ObjOk X.prog X.w (upd H a o) s.heap a o):Inv X pins σ (upd H a o) s:=by
 have ne:∀ b u,H b=some u->b≠a:=λb u e=>bG e hn
 refine ⟨I.ok,I.os,I.bare,⟨I.base.keep,I.base.slot,λb u e n hx=>?_,I.base.there,λb xs e=>?_,λb u v e=>?_,λb ps e=>?_⟩,I.loc,I.cell,by rw [aK f.loc.symm]; exact I.free,λx c e=>by rw [aK (f.cell x c e)]; exact I.freeC x c e,λp hp=>?_,λb u e=>?_,I.len⟩
 · rw [aK (λz=>by rw [z,f.s0] at e; cases e)]
   exact I.base.free b u e n hx
 · have q:=I.base.tups b xs e
   rw [aK (ne b _ q)]; exact q
 · have q:=I.base.frzs b u v e
   rw [aK (ne b _ q)]; exact q
 · obtain ⟨m,q⟩:=I.base.tbls b ps e;exact ⟨m,by rw [aK (ne b _ q)]; exact q⟩
 · obtain ⟨h1,h2,h3⟩:=I.pin p hp;exact ⟨h1,by rw [aK (f.pin p hp)]; exact h2,h3⟩
 · by_cases hb:b=a
   · subst hb;rw [aG] at e;cases e;exact new
   · rw [aK hb] at e;exact (I.hok b u e).stay (λc v _ q=>q) (λc q=>by rw [aK (ne c _ q)]; exact q) λc xs q=>by rw [aK (ne c _ q)]; exact q
theorem Inv.unname {i:Nat} {n:Str} {h':Heap} {m:Q3} {v:Option Value} {t:Nat} (I:Inv X pins σ H s) (hN:X.N.Nodup) (hi:X.N[i]?=some n) (hm:s.heap.Ns X.env.locals m) (hl:X.env.scope.names.lookup n=some .local)
   (hn:h'.Ns X.env.locals (λx=>if x=n then v else m x)) (sb:Heap.SameBut X.env.locals s.heap h'):Inv X pins (σ.set i none) H { s with heap:=h',toks:=t }:=by
 have k:∀ b o,b≠X.env.locals->s.heap.get? b=some o->h'.get? b=some o:=λb o hb e=>(sb.2 b hb).trans e
 have nl:∀ b o,X.s₀.heap.get? b=some o->b≠X.env.locals:=λb o e=>Ay (Bc (An e) I.ok.above)
 have there:∀ b o,s.heap.get? b=some o->∃ o',h'.get? b=some o':=λb o e=>by
   by_cases hb:b=X.env.locals
   · obtain ⟨o',_,_,q,_⟩:=hn;exact ⟨o',by rw [hb]; exact q⟩
   · exact ⟨o,k b o hb e⟩
 obtain ⟨m1,hm1,hl1⟩:=id I.loc;refine ⟨I.ok,I.os,I.bare,⟨λb o e n hb hx=>k b o (nl b o e) (I.base.keep b o e n hb hx),λb o e n hb hx=>?_,I.base.free,λb o e hx=>?_,I.base.tups,I.base.frzs,I.base.tbls⟩,⟨_,hn,λj y u e1 e2 e3=>?_⟩,λx c e=>?_,I.free,I.freeC,λp hp=>?_,λb u e=>?_,by rw [Dx]; exact I.len⟩
 · obtain ⟨sl,q⟩:=I.base.slot b o e n hb hx;exact ⟨sl,k b _ (nl b o e) q⟩
 · obtain ⟨o',q⟩:=I.base.there b o e hx;exact there b o' q
 · have hji:j≠i:=λz=>by
     subst z;rw [Ey (by rw [I.len]; exact (Ae.mp hi).1)] at e2
     cases e2
   rw [Eh (Ne.symm hji)] at e2;have hyn:y≠n:=λz=>hji (pZ hN e1 (by rw [z]; exact hi))
   obtain ⟨u',r,look⟩:=hl1 j y u e1 e2 e3;have em:m1=m:=by
     obtain ⟨o1,es1,ep1,g1,d1,_,f1⟩:=hm1;obtain ⟨o2,es2,ep2,g2,d2,_,f2⟩:=hm;rw [g1] at g2; cases g2;rw [d1] at d2; cases d2;funext z
     rw [<-f1 z,f2 z]
   refine ⟨u',r,?_⟩;rcases look with ⟨z1,z2⟩ | ⟨z1,c,z2,o,z3,z4⟩
   · exact .inl ⟨z1,by show (if y=n then v else m y)=_; rw [if_neg hyn,<-em]; exact z2⟩
   · exact .inr ⟨z1,c,z2,o,k c o (I.cne y c z2) z3,z4⟩
 · obtain ⟨v',o,z1,z2⟩:=I.cell x c e;exact ⟨v',o,k c o (I.cne x c e) z1,z2⟩
 · obtain ⟨h1,h2,h3,h4⟩:=I.pin p hp;exact ⟨k _ _ h3 h1,h2,h3,h4⟩
 · refine (I.hok b u e).stay (λc o hc q=>k c o (λz=>?_) q) (λ_ q=>q) λ_ _ q=>q;have fr:=I.free
   rcases hc with z1 | z1
   · rw [<-z1,z,fr] at e; cases e
   · rw [z,fr] at z1; cases z1
end
def fZ (ea:Addr) (cls:Value) (d:Option Addr):HO:=.ext λh=>∃ oe vs,h.get? ea=some oe/\oe.cls=cls/\oe.dict=d/\oe.data=.fields vs
theorem Fly.obj {P:Program} {w:World} {B:Heap} {l:List Env} {ea:Addr} {cls fl:Value} {d:Option Addr} {h:Heap} {H:Hp} (F:Fly B l ea cls d fl h):ObjOk P w H h ea (fZ ea cls d):=by
 obtain ⟨oe,vs,T,oT,ts,he,hc,hd,_⟩:=F.on;exact ⟨⟨oe,vs,he,hc.1,hc.2,hd⟩,⟨oe,he⟩,λh1 h2 ⟨o,ws,g,q⟩ k=>⟨o,ws,k o g,q⟩⟩
def XS (X:Cx) (pins:List (Addr×Obj)) (R:Value->Option Addr->St->Hp->Prop):Value->Shared->Prop:=λe s1=>
 ∃ ea cls d B σ1 H1,e=.ref ea/\Fly B X.stack ea cls d .none s1.heap/\Fre X pins ea/\H1 ea=none/\(∀ h2,B.StaysIn h2->s1.heap.UpToSlots h2->Inv X pins σ1 H1 { s1 with heap:=h2 })/\R cls d σ1 H1
def xO (CX:CXT) (X:Cx) (Es:St->XK):Prop:=∀ (pins:List (Addr×Obj)) (σ:St) (H:Hp) (s:Shared) (e:Value) (s':Shared),Inv X pins σ H s->CX X.stack H s (Es σ) e s'->X.xe e s'
theorem zM {X:Cx} {pins:Q2} {R:Value->Option Addr->St->Hp->Prop} (hex:X.ex=[]):xO (CXr X.prog X.w) (X.tr pins (XS X pins R)) (λσ cls d H1=>R cls d σ H1):=by
 intro pins' σ H s e s1 I' h;obtain ⟨ea,cls,d,B,H1,rfl,os,bare,F,hok,un,q⟩:=h;have I:Inv X pins σ H s:=I'.untr
 have F:Fly B X.stack ea cls d .none s1.heap:=F
 have un:UnB (frs X.stack) H H1 s.heap B s1.heap:=un
 have nfs:ea ∉ frs X.stack:=λhm=>by
   obtain ⟨_,o,g,nf⟩:=F.frames.mem hm;obtain ⟨oe,vs,T,oT,ts,he,hc,hd,_⟩:=F.on;rw [g] at he; cases he;exact nf vs hd
 have ne:∀ b o,s.heap.get? b=some o->b≠ea:=λb o g z=>by
   subst z;obtain ⟨o',g'⟩:=un.there b o g nfs;rw [F.new] at g';cases g'
 refine ⟨ea,cls,d,B,σ,H1,rfl,F,⟨?_,?_,λx c z=>?_,λp hp=>?_⟩,hok.hole F.new,λh2 st up=>?_,q⟩
 · cases z:X.s₀.heap.get? ea with
   | none=>rfl
   | some o=>
     obtain ⟨o',z'⟩:=I.base.there ea o z (by rw [hex]; simp)
     exact absurd rfl (ne ea o' z')
 · obtain ⟨m,⟨o,_,_,g,_⟩,_⟩:=I.loc;exact (ne _ o g).symm
 · obtain ⟨v,o,g,_⟩:=I.cell x c z;exact ne c o g
 · exact ne p.1 p.2 (I.pin p hp).1
 · have slot:∀ b o,s.heap.get? b=some o->b∈frs X.stack->∃ sl,h2.get? b=some { o with slots:=sl }:=λb o g hb=>by
     obtain ⟨sl,g1⟩:=un.slot b o g (I.stkFree b hb) hb;obtain ⟨_,o2,g2,nf⟩:=I.stack.mem hb;rw [g] at g2; cases g2;obtain ⟨sl2,g3⟩:=up b _ g1 nf;exact ⟨sl2,g3⟩
   refine I.call' (s':={ s1 with heap:=h2 }) (ch:=[]) os ⟨λb o g n hb _=>st b o (un.keep b o g n hb),λb o g n hb _=>slot b o g hb,λb o g n _=>un.free b o g n,λb o g _=>?_,un.tups,un.frzs,un.tbls⟩ (hok.kept λb o g=>st b o g) bare λb hb=>absurd hb (by simp)
   by_cases hb:b∈frs X.stack
   · obtain ⟨sl,g1⟩:=slot b o g hb;exact ⟨_,g1⟩
   · obtain ⟨o',g1⟩:=un.there b o g hb;exact ⟨o',st b o' g1⟩
section
variable {X:Cx} {CX:CXT} {k:Nat} {f:Addr} {fd:FuncData} {ps:List Str} {sp:Sp} {Es:St->XK} {x:Str} {p pos:Pos} {e:Expr} {es:List Expr} {t:TA}
end
section
variable {X:Cx} {pins:Q2}
theorem SP.untr {xe:Q0} {D:Ends} {f:Flow} {s':Shared} (h:SP (X.tr pins xe) [] D f s'):SP X pins D f s':=by
 cases f with
 | next=>obtain ⟨σ',H',I,q⟩:=h; exact ⟨σ',H',I.untr,q⟩
 | brk=>obtain ⟨σ',H',I,q⟩:=h; exact ⟨σ',H',I.untr,q⟩
 | cont=>obtain ⟨σ',H',I,q⟩:=h; exact ⟨σ',H',I.untr,q⟩
 | ret u=>obtain ⟨v,σ',H',I,r,q⟩:=h; exact ⟨v,σ',H',I.untr,r,q⟩
theorem SP.unhnd {ea:Addr} {D:Ends} {f:Flow} {s':Shared} (ok:X.Ok) (h:SP (X.hnd pins ea) [] D f s'):SP X pins D f s':=by
 cases f with
 | next=>obtain ⟨σ',H',I,q⟩:=h; exact ⟨σ',H',I.unhnd ok,q⟩
 | brk=>obtain ⟨σ',H',I,q⟩:=h; exact ⟨σ',H',I.unhnd ok,q⟩
 | cont=>obtain ⟨σ',H',I,q⟩:=h; exact ⟨σ',H',I.unhnd ok,q⟩
 | ret u=>obtain ⟨v,σ',H',I,r,q⟩:=h; exact ⟨v,σ',H',I.unhnd ok,r,q⟩
end
end L2
set_option maxHeartbeats 4000000
namespace L2
open PySem PySem.Spec PyProof.Rows PySem.W
structure ExK (K:Frag) (D:Addr):Prop where
 cls:hasDictIn K D=true
 ga:findIn K (.ref D) "__getattribute__"=some (some (.builtin "BaseException.__getattribute__"))
 gh:findIn K (.ref D) "__getattr__"=some none
 ca:findIn K (.ref D) "__class__"=some (some (.builtin "object.__class__"))
 cg:specialIn K (.builtin "object.__class__") "__get__"=some (some (.builtin "getset_descriptor.__get__"))
 ct:takesIn K (.builtin "object.__class__")=some true
 mo:mroIn K D (.type "object")=some true
 mb:PySem.W.subIn K (.ref D) (.type "BaseException")=some true
section
variable {prog:Program} {w:World} {A:Around} {E:Q0} {s:Shared} {K:Frag} {x D:Addr} {ox:Obj} {od:Option Obj}
theorem uN {M:Model} {nm:Value} {Q:Unit->Shared->Prop} (Z:ExK K D) (X:K.In s.heap) (I:InstAt s.heap x ox D od) (hq:Q () s):wpAny M A (checkBuiltinCall "BaseException.__getattribute__" ⟨[.ref x,nm],[]⟩) Q E s:=by
 have hk:builtinKind "BaseException.__getattribute__"=some .slot:=by decide +kernel
 have hs:splitId "BaseException.__getattribute__"=some ("BaseException", "__getattribute__"):=by decide +kernel
 have L0:=I.type (M:=M)
 have L1:=looks_subIn (M:=M) X Z.mb
 have ha:=F.args_bexc_ga (.ref x) nm
 simp only [checkBuiltinCall,hk,hs];refine Ac ((L0.andThen L1).at ?_);rw [if_neg (show ¬ ((!true)=true) by decide)]
 exact wpAny_of_eq ha hq
theorem bZT {h:Heap} {M:Model} (Z:ExK K D) (X:K.In h) (I:InstAt h x ox D od):Looks M h (Builtin.ObjectAttr.find (.ref x) (.ref D) "__class__") (Builtin.ObjectAttr.Found.bind (.builtin "getset_descriptor.__get__") (.builtin "object.__class__")):=by
 refine looks_find X I ?_;obtain ⟨cd,hc,_⟩:=any_some Z.cls;unfold findObj;rw [hc,Option.bind_some,Z.ca,Option.bind_some];simp [Z.cg,Z.ct]
theorem aJO {Q:Option Value->Shared->Prop} (Z:ExK K D) (X:K.In s.heap) (I:InstAt s.heap x ox D od) (h:Q (some (.ref D)) { s with toks:=s.toks+1 }):wpAny (model prog w) A (getAttr? (.ref x) "__class__") Q E s:=by
 obtain ⟨hh,g,d,t,os⟩:=s;have L0:=I.type (M:=model prog w)
 have L1:=looks_findIn (M:=model prog w) X Z.ga
 have L2:=looks_findIn (M:=model prog w) X Z.gh
 have L3:=bZT (M:=model prog w) Z X I
 unfold getAttr? getAttrBy? getAttrBy;refine Ac (wpAny_mkText (Ac (wpAny_attempt (Bz (Ac (L0.at (Ac (L1.at ?_))))))));have ne:(Value.builtin "BaseException.__getattribute__" == Value.builtin "object.__getattribute__")=false:=by decide +kernel
 have fb:=F.excAttr_ValueError.ga.bind (.ref x)
 dsimp only;rw [ne,Bool.and_false,if_neg Al];unfold getAttrByItsOwn hookBefore;rw [if_pos (show onTheHeap (Value.ref D)=true from rfl)];refine Ac (L2.at (Ac (wpAny_attempt (Bz ?_))));unfold callGetattribute boundAndCalled;rw [if_neg (show ¬ ((false && onTheHeap (Value.builtin "BaseException.__getattribute__"))=true) by decide)]
 refine Ac (wpAny_of_eq fb ?_);refine Ek (Dw F.excAttr_ValueError.ga.plain F.entry_bexc_ga (uN Z X I ?_));unfold Builtin.«object.__getattribute__»;refine Ac (Ao (Ac (Ao (Ac (L0.at (Ac (L3.at ?_)))))));show wpAny _ _ (Builtin.ObjectAttr.bindTo _ _ _ _) _ _ _
 unfold Builtin.ObjectAttr.bindTo;refine Ac (Bz (Ek (class_get (ox:=ox) (od:=od) X I Z.mo ?_)));refine Ao ?_;exact handed_on rfl (Ao h)
theorem xQ (Z:ExK K D):KitX K (.ref x) (.ref D) (λh=>∃ ox od,InstAt h x ox D od) where
 ty:=λ_ _ _ ⟨_,_,I⟩=>I.type
 it:=λM h X _=>by
   have q:(clsIn K D).isSome=true:=by
     obtain ⟨cd,hc,_⟩:=any_some Z.cls;rw [hc]; rfl
   unfold clsIn at q;split at q
   · rename_i ho
     intro A1 Q1 E1 s1 k1 q1;unfold isType loadHead;exact Ac (wpAny_loadPart (k1 _ _ (X _ _ ho)) (Ao q1))
   · cases q
 ne:=λh tp dd its n sl X htp=>by
   have q:(clsIn K D).isSome=true:=by
     obtain ⟨cd,hc,_⟩:=any_some Z.cls;rw [hc]; rfl
   unfold clsIn at q;split at q
   · rename_i ho
     refine Bq.mpr λz=>?_;obtain rfl:D=tp:=Value.ref.inj (Ez.mp z);have z:=(X _ _ ho).symm.trans htp
     cases z
   · cases q
 ca:=λX ⟨_,_,I⟩ k=>aJO Z X I k
end
def cX7:V->Option Value
 | .ref C=>some (.ref C)
 | .ty T=>some (.type T)
 | _=>none
def aZK:List V->Option (List Value)
 | []=>some []
 | v::r=>(cX7 v).bind λc=>(aZK r).map (c::·)
theorem yA {v:V} {c u:Value} (h:cX7 v=some c) (r:RelV v u):u=c:=by
 cases v with
 | ref C=>cases h; exact r
 | ty T=>cases h; exact r
 | _=>cases h
theorem tS:∀ {vs:List V} {cs us:List Value},aZK vs=some cs->Vals vs us->us=cs
 | [],_,_,h,.nil=>by cases h; rfl
 | v::vs,_,_,h,.cons r rr=>by
   unfold aZK at h;obtain ⟨c,h1,h2⟩:=Option.bind_eq_some_iff.mp h;obtain ⟨cs,h3,h4⟩:=Dz.mp h2;subst h4;rw [yA h1 r,tS h3 rr]
def dXB (K:PySem.W.Frag):List V->Hp->VK->Prop:=λxs H Q=>∃ ea D d c b,xs=[.ref ea,c]/\H ea=some (fZ ea (.ref D) d)/\(∀ dx,d=some dx->∃ o,H dx=some o)/\ExK K D/\
 ((∃ cv,cX7 c=some cv/\kitOne K (.ref D) cv=some b)\/(∃ tp cs cv,c=.ref tp/\H tp=some (.tup cs)/\aZK cs=some cv/\kitAny K (.ref D) cv=some b))/\Q (.bl b) H
theorem bZX {P:Program} {w:World} {H:Hp} {h:Heap} {ea D:Addr} {d:Option Addr} (hok:HOk P w H h) (e:H ea=some (fZ ea (.ref D) d)) (hd:∀ dx,d=some dx->∃ o,H dx=some o):∃ ox od,InstAt h ea ox D od:=by
 obtain ⟨⟨oe,vs,g,hc,hdi,hda⟩,_⟩:=hok ea _ e;have no:notCls oe=true:=by
   obtain ⟨c,di,da,sl⟩:=oe;cases hda;rfl
 cases d with
 | none=>exact ⟨oe,none,g,hc,no,by rw [hdi]; trivial⟩
 | some dx=>
   obtain ⟨o,z⟩:=hd dx rfl;obtain ⟨ob,g2⟩:=(hok dx o z).get;exact ⟨oe,some ob,g,hc,no,by rw [hdi]; exact g2⟩
theorem dJ5 {X:Cx}:CallR X (.builtin "isinstance") (dXB X.K):=by
 intro pins s σ H xs us Q I r h;obtain ⟨ea,D,d,c,b,rfl,he,hd,Z,hc,q⟩:=h;obtain ⟨u,u2,rfl,ru,rc⟩:=aZW r;cases ru;have hI:=bZX I.hok he hd
 rcases hc with ⟨cv,h1,h2⟩ | ⟨tp,cs,cv,rfl,h1,h2,h3⟩
 · rw [yA h1 rc];exact kia_one (xQ Z) I.kIn hI h2 (λz=>nomatch z) λtk=>⟨.bl b,H,I.tok _,rfl,q⟩
 · cases rc;obtain ⟨_,its,rv,o,g,hcl,n,hda⟩:=I.hok tp _ h1;obtain rfl:=tS h2 rv;obtain ⟨oc,od,oda,osl⟩:=o;obtain rfl:oc=.type "tuple" := hcl;obtain rfl:oda=.seq its.toArray n:=hda;exact kia_tup (xQ Z) I.kIn hI g h3 (λz=>nomatch z) λtk=>⟨.bl b,H,I.tok _,rfl,q⟩
theorem bZG {X:Cx} {K:PySem.W.Frag} (h:X.K=K):CallR X (.builtin "isinstance") (dXB K):=by
 subst h;exact dJ5
section
variable {K:PySem.W.Frag} {H:Hp} {Q:VK} {ea D tp:Addr} {c:V} {cs:List V} {cv:Value} {cvs:List Value} {b:Bool}
theorem aQQ (e:H ea=some (fZ ea (.ref D) none)) (Z:ExK K D) (h1:cX7 c=some cv) (h2:kitOne K (.ref D) cv=some b) (h:Q (.bl b) H):dXB K [.ref ea,c] H Q :=
 ⟨ea,D,none,c,b,rfl,e,(λ_ z=>nomatch z),Z,.inl ⟨cv,h1,h2⟩,h⟩
theorem cX3 {C:Addr} {E:XK} {ta:TA} {D:Ends} {σ:St} (h:ta σ H λvs H1=>vs.length<=sizeLine/\E (.ref C) none H1):bJ2 C E ta D σ H:=h
end
def wN (P:Program) (w:World) (K:PySem.W.Frag) (mg:Str->Option Value) (base:Heap) (k:Nat) (x:Str) (ps:List Str) (sp:Sp):Prop :=
 ∃ (f:Addr) (fd:FuncData),FnOk P w K mg base (CXr P w) k f fd ps sp/\mg x=some (.ref f)/\PySem.W.keepIn K (.ref f)=true/\Binds K fd ps []
section
variable {X:Cx} {k k':Nat} {ps:List Str} {sp:Sp} {x:Str} {p pos:Pos} {e:Expr} {es:List Expr} {t:TA} {E:XK} {Es:St->XK}
theorem lH (c:wN X.prog X.w X.K X.mg X.base k x ps sp) (hx:fH (CXr X.prog X.w) X E) (hr:Room k' X.A) (hk:k<=k') (hg:Gl X x)
   (ha:PA X (e::es) t) (hdb:(x == ("__debug__" : Str))=false:=by decide) (he:starEach (e::es) X.env=(false,eval e X.env)::starEach es X.env:=by rfl) (hpl:(backTo pos (starEach es X.env)).any (·.1)=false:=by rfl) :
   PE X (.Call (.Name x p) (e::es) [] pos) (aXS sp [] E t):=by
 obtain ⟨f,fd,F,hm,hk',hb⟩:=c;exact aX2 F (hr.mono hk) hg hm hk' hb .nil hx ha hdb he hpl
theorem tY:fH (CXr X.prog X.w) X E0:=λ_ _ _ _ _ _ _ h=>by
 obtain ⟨_,_,_,_,_,_,_,_,_,_,_,z⟩:=h;exact z.elim
theorem PS.nox {st:Stmt} {t:TS} (h:PS X.nox st t):PS X st t:=λpins s σ H D I hw=>
 Bo (h pins s σ H D (I.wish _) hw) (λ_ _ q=>q.unwish) λ_ _ z=>False.elim z
end
section
variable {P:Program} {w:World} {K:PySem.W.Frag} {mg:Q3} {base:Heap}
theorem Fun.okX {x qual:Str} {st:Stmt} {f:Addr} {fd:FuncData} {N ps:List Str} {k:Nat} {sp:Sp} (F:Fun K x qual st f fd) (S:FnScope N ps (aE st)) (len:∀ vs H Q E,sp vs H Q E->vs.length=ps.length)
   (hbody:∀ (cdv:Value) (A:Around) (outer:List Env) (s:Shared) (H:Hp) (vs:List V) (Q:VK) (E:XK),Room k (A.deeper (envOfC qual (aE st) s.heap.objs.size f cdv))->sp vs H Q E->
     ∃ t,PSs (gU (CXr P w) P w K mg base N qual (aE st) f cdv A outer s H E) (aM st) t/\t { nx:=λ_ H'=>Q .non H',rt:=Q } (mK N vs) H):FnOk P w K mg base (CXr P w) (k+1) f fd ps sp:=by
 obtain ⟨oc,od,kV,doc,pm,an,cdv,ct,osl,rfl,lk,hcd⟩:=F.ex;exact dQA lk hcd S len λA outer s H vs Q E hr hsp=>hbody cdv A outer s H vs Q E hr hsp
end
theorem cQ2 {X:Cx} {x:Str} {C:Addr} {pos:Pos} (hg:Gl X x) (h:X.mg x=some (.ref C)) (hd:(x == ("__debug__" : Str))=false:=by decide):PE X (.Name x pos) (tC (.ref C)):=mY hg h rfl hd
theorem sL:bootBuiltins "ValueError"=some (.type "ValueError"):=by decide +kernel
end L2
set_option maxHeartbeats 4000000
namespace L2
open PySem PySem.Spec PyProof.Rows
section
variable {X:Cx} {l1 l2:Expr} {ta:TA} {elts:List Expr} {x1:Nat} {tp p pos:Pos}
end
section
variable {K:PySem.W.Frag} {a b:Addr} {xs ys:List V} {g:TG} {tb:TS} {D:Ends} {σ:St} {H:Hp}
end
end L2
set_option maxHeartbeats 4000000
namespace L2
open PySem PySem.Spec PyProof.Rows
section
variable {X:Cx} {o e:Expr} {es:List Expr} {to:TE} {t:TA} {name:Str} {apos cpos:Pos} {T id:String} {r:V->List V->Hp->VK->Prop}
def cZO:V->List V->Hp->VK->Prop:=λx vs H Q=>match x,vs with
 | .ref l,[.ref b]=>(match hU H l,hU H b with | some xs,some zs=>xs.length+zs.length<=sizeLine/\Q .non (upd H l (.lst (xs++zs))) | _,_=>False)
 | _,_=>False
theorem dJA:MtR X "list.extend" cZO:=MtR.imp (r:=aZG) aJW λ_ _ _ _ q=>by
 unfold cZO at q;split at q
 · split at q
   · exact ⟨_,_,_,_,rfl,rfl,kY (by assumption),kY (by assumption),q.1,q.2⟩
   · exact q.elim
 · exact q.elim
def eZS:V->List V->Hp->VK->Prop:=λx vs H Q=>match x,vs with
 | .ref l,[]=>(match hU H l with | some xs=>(match xs[xs.length - 1]? with | some y=>Q y (upd H l (.lst xs.dropLast)) | none=>False) | none=>False)
 | .ref l,[.int i]=>(match hU H l with | some xs=>(-(2 ^ 63)<=i/\i<2 ^ 63)/\(match seqIndex? i xs.length with | some k=>(match xs[k]? with | some y=>Q y (upd H l (.lst (xs.eraseIdx k))) | none=>False) | none=>False) | none=>False)
 | _,_=>False
def dZR:List V->Hp->VK->Prop:=λxs H Q=>match xs with
 | [.int i]=>i.natAbs.log2<1920/\Q (.str (toString i)) H
 | _=>False
theorem cJ7:CallR X (.type "str") dZR:=call_str_int.imp λ_ _ _ q=>by
 unfold dZR at q;split at q
 · exact ⟨_,rfl,q.1,q.2⟩
 · exact q.elim
end
section
variable {σ:St} {H:Hp} {Q:VK} {l b:Addr} {xs zs:List V} {y:V} {i:Int} {k:Nat} {to:TE} {T:String} {r:V->List V->Hp->VK->Prop}
theorem eXA (e:hU H l=some xs) (e':hU H b=some zs) (c:xs.length+zs.length<=sizeLine) (h:Q .non (upd H l (.lst (xs++zs)))):cZO (.ref l) [.ref b] H Q:=by unfold cZO; simp only [e,e']; exact ⟨c,h⟩
theorem s_str (c:i.natAbs.log2<1920) (h:Q (.str (toString i)) H):dZR [.int i] H Q:=⟨c,h⟩
end
end L2
set_option maxHeartbeats 4000000
namespace L2
open PySem PySem.Spec PyProof.Rows
theorem vT {t u:TS} {D:Ends} {σ:St} {H:Hp} (Pj:St->Hp->Prop) (hj:∀ σ' H',Pj σ' H'->u D σ' H') (h:∀ N:St->Hp->Prop,(∀ σ' H',Pj σ' H'->N σ' H')->t { D with nx:=N } σ H):dZH t u D σ H:=h (u D) hj
theorem none_of {H H':Hp} {r:Addr} (s:Same H H') (h:H' r=none):H r=none:=by
 cases e:H r with
 | none=>rfl
 | some o=>rw [s _ _ e] at h; cases h
theorem eJ {H H':Hp} {p:Addr} {o:HO} (hp:H p=none) (s:Same H H'):Same H (upd H' p o):=λb u q=>by rw [aK (bG q hp)]; exact s b u q
section
variable {g:TG} {tests:TT} {te:TE} {σ0:St} {Q:VK} {H1:Hp}
theorem nS {J:It} {n:Nat} (R:Addr->Nat->List V->Hp->Prop) (hl:n<sizeLine) (h0:∀ D,H1 D=none->R D 0 [] (upd H1 D (.lst [])))
   (hgo:∀ D i ys Hc,H1 D=none->R D i ys Hc->i<n->J.go i Hc) (hst:∀ D ys Hc,H1 D=none->R D n ys Hc->J.stop n Hc)
   (hs:∀ D i ys Hc x H' (A:VK) (B:Hp->Prop),H1 D=none->i<n->R D i ys Hc->Hc D=some (.lst ys)->J.yld i Hc x H'->
     (∀ y H4,H4 D=some (.lst ys)->R D (i+1) (ys++[y]) (upd H4 D (.lst (ys++[y])))->A y H4)->(∀ H3,H3 D=some (.lst ys)->R D (i+1) ys H3->B H3)->
     g x σ0 H' λσ2 H2=>Wk σ0 σ2/\tests σ2 H2 λb H3=>if b=true then te σ2 H3 A else B H3)
   (fin:∀ D ys Hc,H1 D=none->R D n ys Hc->Hc D=some (.lst ys)->ys.length<=n->Q (.ref D) Hc):eF g tests te σ0 Q J H1:=by
 intro D hD;refine ⟨λi m Hc=>m=n - i/\i<=n/\∃ ys,ys.length<=i/\Hc D=some (.lst ys)/\R D i ys Hc,⟨n,by simp,Nat.zero_le _,[],Nat.le_refl _,aG,h0 D hD⟩,?_⟩
 rintro i m Hc ⟨rfl,hi,ys,hy,hDc,r⟩;by_cases hlt:i<n
 · refine .inr ⟨hgo D i ys Hc hD r hlt,λx H' y=>hs D i ys Hc x H' _ _ hD hlt r hDc y (λz H4 e r4=>?_) (λH3 e r3=>?_)⟩
   · exact ⟨ys,e,by omega,n - (i+1),by omega,rfl,hlt,ys++[z],by rw [Aj]; show ys.length+1<=_; omega,aG,r4⟩
   · exact ⟨n - (i+1),by omega,rfl,hlt,ys,by omega,e,r3⟩
 · have e:i=n:=by omega
   subst e;exact .inl ⟨hst D ys Hc hD r,fin D ys Hc hD r hDc hy⟩
def Tups (H1 Hc:Hp) (ps:List Addr) (fs:List (List V)):Prop:=ps.length=fs.length/\∀ (j:Nat) p t,ps[j]?=some p->fs[j]?=some t->H1 p=none/\Hc p=some (.tup t)
theorem Tups.keep {H1 Hc Hd:Hp} {ps:List Addr} {fs:List (List V)} (t:Tups H1 Hc ps fs) (s:Same Hc Hd):Tups H1 Hd ps fs:=⟨t.1,λj p u hp hu=>⟨(t.2 j p u hp hu).1,s _ _ (t.2 j p u hp hu).2⟩⟩
theorem Tups.put {H1 Hc:Hp} {ps:List Addr} {fs:List (List V)} {D:Addr} {ys zs:List V} (t:Tups H1 Hc ps fs) (h:Hc D=some (.lst ys)):Tups H1 (upd Hc D (.lst zs)) ps fs:=⟨t.1,λj p u hp hu=>by
 obtain ⟨a,b⟩:=t.2 j p u hp hu;refine ⟨a,?_⟩;rw [aK λz=>by rw [z,h] at b; cases b]
 exact b⟩
theorem Tups.app {H1 Hc:Hp} {ps qs:List Addr} {fs gs:List (List V)} (t:Tups H1 Hc ps fs) (u:Tups H1 Hc qs gs):Tups H1 Hc (ps++qs) (fs++gs):=by
 refine ⟨by rw [Aj,Aj,t.1,u.1],λj p v hp hv=>?_⟩
 by_cases h:j<ps.length
 · rw [Bh h] at hp;rw [Bh (by rw [<-t.1]; exact h)] at hv
   exact t.2 j p v hp hv
 · rw [Bl (by omega)] at hp
   rw [Bl (by rw [<-t.1]; omega),<-t.1] at hv
   exact u.2 _ p v hp hv
theorem Tups.nil {H1 Hc:Hp}:Tups H1 Hc [] []:=⟨rfl,λj p u hp=>by cases hp⟩
theorem Tups.one {H1 Hc:Hp} {p:Addr} {t:List V} (a:H1 p=none) (b:Hc p=some (.tup t)):Tups H1 Hc [p] [t]:=⟨rfl,λj q u hq hu=>by
 cases j with
 | zero=>cases hq; cases hu; exact ⟨a,b⟩
 | succ j=>cases hq⟩
end
end L2
set_option maxHeartbeats 4000000
namespace L2
open PySem PySem.Spec PyProof.Rows
section
variable {X:Cx} {tg a b c:Expr} {p pos:Pos}
def eQ0 (K:PySem.W.Frag) (tl:TE):TI:=λσ H R=>tl σ H (iA λa H1=>onL (kO H1 a) (R (Itt K a) H1))
theorem dQT {l:Expr} {tl:TE} (hl:PE X l tl):PI X tg l (eQ0 X.K tl):=by
 intro pins s σ H R I h;refine thn (hl pins s σ H _ I h) λv s1 ⟨x,H1,I1,r1,q1⟩=>?_;unfold iA at q1;split at q1
 · unfold onL at q1;split at q1
   · rename_i xs ex
     cases r1;obtain ⟨its,rv,p,hz⟩:=I1.tuple (SqT.of (gE ex));rename_i a0 _ _
     refine wpAny_pyIter_tuple (show s1.heap.IsTuple a0 its.toArray from p) ?_;refine ⟨s1.heap.objs.size,[s1.heap.objs.size],_,_,H1,rfl,I1.kept (t':=s1.toks) λb o e=>Ad _ e,aQS a0 _,⟨_,Ar _ rfl,rfl,rfl⟩,λb hb=>?_,q1⟩;have e:b=s1.heap.objs.size:=by simpa using hb
     subst e;exact I1.fpOk (Ag _) (I1.hok.fresh (Ag _))
   · exact q1.elim
 · exact q1.elim
end
section
variable {K:PySem.W.Frag} {c:Addr} {xs:List V} {lo st:Int} {n:Nat} {g:TG} {tb:TS} {D:Ends} {σ:St} {H:Hp} {tA:TA} {R:It->Hp->Prop} {i j k:Int}
theorem dXU {tl:TE} (h:tl σ H (iA λa H1=>onL (kO H1 a) (R (Itt K a) H1))):eQ0 K tl σ H R:=h
theorem dJK {P:Prop} (e:kO H c=some xs) (h:P):onL (kO H c) P:=by unfold onL; simp only [e]; exact h
end
def Alk (H:Hp):Nat->V->V->Prop
 | 0,x,y=>x=y/\bO x=true
 | n+1,x,y=>(x=y/\bO x=true)\/∃ p q xs ys,x=.ref p/\y=.ref q/\((rdL H p=some xs/\rdL H q=some ys)\/(kO H p=some xs/\kO H q=some ys))/\xs.length=ys.length/\∀ (j:Nat) x' y',xs[j]?=some x'->ys[j]?=some y'->Alk H n x' y'
theorem Alk.flat {H:Hp} {n:Nat} {x:V} (h:bO x=true):Alk H n x x:=by
 cases n with
 | zero=>exact ⟨rfl,h⟩
 | succ n=>exact .inl ⟨rfl,h⟩
theorem Alk.lst {H:Hp} {n:Nat} {p q:Addr} {xs ys:List V} (hp:rdL H p=some xs) (hq:rdL H q=some ys) (hl:xs.length=ys.length) (h:∀ (j:Nat) x y,xs[j]?=some x->ys[j]?=some y->Alk H n x y):Alk H (n+1) (.ref p) (.ref q):=.inr ⟨p,q,xs,ys,rfl,rfl,.inl ⟨hp,hq⟩,hl,h⟩
theorem Alk.tup {H:Hp} {n:Nat} {p q:Addr} {xs ys:List V} (hp:kO H p=some xs) (hq:kO H q=some ys) (hl:xs.length=ys.length) (h:∀ (j:Nat) x y,xs[j]?=some x->ys[j]?=some y->Alk H n x y):Alk H (n+1) (.ref p) (.ref q):=.inr ⟨p,q,xs,ys,rfl,rfl,.inr ⟨hp,hq⟩,hl,h⟩
theorem Alk.flats {H:Hp} {n:Nat} {xs:List V} (f:xs.all bO=true):∀ (j:Nat) x y,xs[j]?=some x->xs[j]?=some y->Alk H n x y:=λj x y hx hy=>by
 rw [hx] at hy;cases hy;exact .flat (As.mp f x (Ap hx))
theorem Alk.tups {H H1 H2:Hp} {n:Nat} {ps qs:List Addr} {fs:List (List V)} (tp:Tups H1 H ps fs) (tq:Tups H2 H qs fs) (f:∀ t∈fs,t.all bO=true):∀ (j:Nat) x y,(ps.map V.ref)[j]?=some x->(qs.map V.ref)[j]?=some y->Alk H (n+1) x y:=λj x y hx hy=>by
 rw [Af] at hx hy;cases ep:ps[j]? with
 | none=>rw [ep] at hx; cases hx
 | some p=>
   cases eq:qs[j]? with
   | none=>rw [eq] at hy; cases hy
   | some q=>
     rw [ep] at hx;rw [eq] at hy;cases hx;cases hy;have hj:j<fs.length:=by rw [<-tp.1]; exact (Ae.mp ep).1
     have a:=(tp.2 j p fs[j] ep (Aa hj)).2
     have b:=(tq.2 j q fs[j] eq (Aa hj)).2
     exact .tup (eM a) (eM b) rfl (.flats (f _ (Dd _)))
theorem rJ {x:V} (h:bO x=true):eqV x x=true:=by
 cases x <;> first | rfl | (simp [eqV]; done) | (cases h; done)
theorem mL {l:List Nat}:(l.all λ_=>true)=true:=by
 induction l with
 | nil=>rfl
 | cons a r ih=>rw [List.all_cons,ih]; rfl
theorem bXX {X:Cx} {pins:Q2} {σ:St} {H:Hp} {s:Shared} (I:Inv X pins σ H s):∀ (n:Nat) (A:Around) (x y:V) (u v:Value),Alk H n x y->RelV x u->RelV y v->A.units+n<cLine->SeqAt.EqAt A s u v true:=by
 intro n;induction n with
 | zero=>
   intro A x y u v h ru rv hu;obtain ⟨rfl,f⟩:=h;have:=oF (A:=A) (s:=s) ru rv f f
   rw [rJ f] at this;exact this
 | succ n ih=>
   intro A x y u v h ru rv hu;rcases h with ⟨rfl,f⟩ | ⟨p,q,xs,ys,rfl,rfl,hpq,hl,h⟩
   · have:=oF (A:=A) (s:=s) ru rv f f
     rw [rJ f] at this;exact this
   · cases ru;cases rv;by_cases e:p=q
     · subst e;exact SeqAt.EqAt.same _
     refine SeqAt.EqAt.of_refs e ?_;have hu1:A.in1.units+n<cLine:=by show A.units+1+n<cLine; omega
     rcases hpq with ⟨hp,hq⟩ | ⟨hp,hq⟩
     · obtain ⟨its,r1,l1,_⟩:=I.list (bC hp);obtain ⟨its2,r2,l2,_⟩:=I.list (bC hq);have e1:=r1.length
       have e2:=r2.length
       have:=SeqAt.RcAt.lists (A:=A) (s:=s) (e:=λ_=>true) l1.isList l2.isList (by simp only [List.size_toArray]; omega) (by omega) (λj h1 h2=>by
         have h1':j<its.length:=by simpa using h1
         have h2':j<its2.length:=by simpa using h2
         obtain ⟨u',hu',ru'⟩:=r1.get (Aa (show j<xs.length by omega))
         obtain ⟨v',hv',rv'⟩:=r2.get (Aa (show j<ys.length by omega))
         rw [Aa h1'] at hu';rw [Aa h2'] at hv';cases hu';cases hv'
         simpa using ih A.in1 _ _ _ _ (h j _ _ (List.getElem?_eq_getElem _) (List.getElem?_eq_getElem _)) ru' rv' hu1)
       rw [mL] at this;exact this
     · obtain ⟨its,r1,l1,_⟩:=I.tuple (SqT.of (K:=X.K) (gE hp));obtain ⟨its2,r2,l2,_⟩:=I.tuple (SqT.of (K:=X.K) (gE hq));have e1:=r1.length
       have e2:=r2.length
       have:=SeqAt.RcAt.tuples (A:=A) (s:=s) (e:=λ_=>true) (show s.heap.IsTuple p its.toArray from l1) (show s.heap.IsTuple q its2.toArray from l2) (by omega) (λj h1 h2=>by
         have h1':j<its.length:=by simpa using h1
         have h2':j<its2.length:=by simpa using h2
         obtain ⟨u',hu',ru'⟩:=r1.get (Aa (show j<xs.length by omega))
         obtain ⟨v',hv',rv'⟩:=r2.get (Aa (show j<ys.length by omega))
         rw [Aa h1'] at hu';rw [Aa h2'] at hv';cases hu';cases hv'
         simpa using ih A.in1 _ _ _ _ (h j _ _ (List.getElem?_eq_getElem _) (List.getElem?_eq_getElem _)) ru' rv' hu1)
       rw [mL,Em,Av,Av,show (its.length == its2.length)=true from Ez.mpr (by omega)] at this
       exact this
theorem bXU {X:Cx} {pins:Q2} {σ:St} {H:Hp} {s:Shared} (I:Inv X pins σ H s) {n:Nat} {A:Around} {p q:Addr} (h:Alk H (n+1) (.ref p) (.ref q)) (hu:A.units+(n+1)<cLine) :
   SeqAt.RcAt A s (.ref p) (.ref q) true/\SeqAt.RcNeAt A s (.ref p) (.ref q) false:=by
 rcases h with ⟨_,f⟩ | ⟨p',q',xs,ys,e1,e2,hpq,hl,h⟩
 · cases f
 · cases e1;cases e2;have hu1:A.in1.units+n<cLine:=by show A.units+1+n<cLine; omega
   rcases hpq with ⟨hp,hq⟩ | ⟨hp,hq⟩
   · obtain ⟨its,r1,l1,_⟩:=I.list (bC hp);obtain ⟨its2,r2,l2,_⟩:=I.list (bC hq);have e1:=r1.length
     have e2:=r2.length
     have he:∀ j (h1:j<its.toArray.size) (h2:j<its2.toArray.size),SeqAt.EqAt A.in1 s its.toArray[j] its2.toArray[j] ((λ_=>true) j):=λj h1 h2=>by
       have h1':j<its.length:=by simpa using h1
       have h2':j<its2.length:=by simpa using h2
       obtain ⟨u',hu',ru'⟩:=r1.get (Aa (show j<xs.length by omega))
       obtain ⟨v',hv',rv'⟩:=r2.get (Aa (show j<ys.length by omega))
       rw [Aa h1'] at hu';rw [Aa h2'] at hv';cases hu';cases hv'
       simpa using bXX I n A.in1 _ _ _ _ (h j _ _ (List.getElem?_eq_getElem _) (List.getElem?_eq_getElem _)) ru' rv' hu1
     have a:=SeqAt.RcAt.lists (A:=A) (s:=s) (e:=λ_=>true) l1.isList l2.isList (by simp only [List.size_toArray]; omega) (by omega) he
     have b:=SeqAt.RcNeAt.lists (A:=A) (s:=s) (e:=λ_=>true) l1.isList l2.isList (by simp only [List.size_toArray]; omega) (by omega) he
     rw [mL] at a b;exact ⟨a,b⟩
   · obtain ⟨its,r1,l1,_⟩:=I.tuple (SqT.of (K:=X.K) (gE hp));obtain ⟨its2,r2,l2,_⟩:=I.tuple (SqT.of (K:=X.K) (gE hq));have e1:=r1.length
     have e2:=r2.length
     have he:∀ j (h1:j<its.toArray.size) (h2:j<its2.toArray.size),SeqAt.EqAt A.in1 s its.toArray[j] its2.toArray[j] ((λ_=>true) j):=λj h1 h2=>by
       have h1':j<its.length:=by simpa using h1
       have h2':j<its2.length:=by simpa using h2
       obtain ⟨u',hu',ru'⟩:=r1.get (Aa (show j<xs.length by omega))
       obtain ⟨v',hv',rv'⟩:=r2.get (Aa (show j<ys.length by omega))
       rw [Aa h1'] at hu';rw [Aa h2'] at hv';cases hu';cases hv'
       simpa using bXX I n A.in1 _ _ _ _ (h j _ _ (List.getElem?_eq_getElem _) (List.getElem?_eq_getElem _)) ru' rv' hu1
     have a:=SeqAt.RcAt.tuples (A:=A) (s:=s) (e:=λ_=>true) (show s.heap.IsTuple p its.toArray from l1) (show s.heap.IsTuple q its2.toArray from l2) (by omega) he
     have b:=SeqAt.RcNeAt.tuples (A:=A) (s:=s) (e:=λ_=>true) (show s.heap.IsTuple p its.toArray from l1) (show s.heap.IsTuple q its2.toArray from l2) (by omega) he
     rw [mL,Em,Av,Av,show (its.length == its2.length)=true from Ez.mpr (by omega)] at a b
     exact ⟨a,b⟩
section
variable {X:Cx}
def dZJ (neg:Bool):R2:=λx y H Q=>∃ n p q,n<=50/\x=.ref p/\y=.ref q/\Alk H (n+1) x y/\Q (.bl (!neg)) H
theorem eZP (hu:X.A.units+64<cLine):OpR X (compareOp .Eq) (dZJ false):=by
 intro pins s σ H x y v u Q I rx ry h;obtain ⟨n,p,q,hn,rfl,rfl,al,k⟩:=h;cases rx;cases ry;exact (bXU I al (by omega)).1 X.prog X.w _ _ ⟨.bl true,H,I,rfl,k⟩
theorem dJ1 (hu:X.A.units+64<cLine):OpR X (compareOp .NotEq) (dZJ true):=by
 intro pins s σ H x y v u Q I rx ry h;obtain ⟨n,p,q,hn,rfl,rfl,al,k⟩:=h;cases rx;cases ry;exact (bXU I al (by omega)).2 X.prog X.w _ _ ⟨.bl false,H,I,rfl,k⟩
theorem eQX {neg:Bool} {p q:Addr} {H:Hp} {Q:VK} (n:Nat) (al:Alk H (n+1) (.ref p) (.ref q)) (h:Q (.bl (!neg)) H) (hn:n<=50:=by omega):dZJ neg (.ref p) (.ref q) H Q:=⟨n,p,q,hn,rfl,rfl,al,h⟩
end
def Lsts (H1 Hc:Hp) (ps:List Addr) (fs:List (List V)):Prop:=ps.length=fs.length/\∀ (j:Nat) p t,ps[j]?=some p->fs[j]?=some t->H1 p=none/\Hc p=some (.lst t)
theorem Lsts.keep {H1 Hc Hd:Hp} {ps:List Addr} {fs:List (List V)} (t:Lsts H1 Hc ps fs) (s:Same Hc Hd):Lsts H1 Hd ps fs:=⟨t.1,λj p u hp hu=>⟨(t.2 j p u hp hu).1,s _ _ (t.2 j p u hp hu).2⟩⟩
theorem Lsts.put {H1 Hc:Hp} {ps:List Addr} {fs:List (List V)} {D:Addr} {o:HO} (t:Lsts H1 Hc ps fs) (h:∀ p∈ps,p≠D):Lsts H1 (upd Hc D o) ps fs:=⟨t.1,λj p u hp hu=>by
 obtain ⟨a,b⟩:=t.2 j p u hp hu;refine ⟨a,?_⟩;rw [aK (h p (Ap hp))];exact b⟩
theorem Lsts.snoc {H1 Hc:Hp} {ps:List Addr} {fs:List (List V)} {q:Addr} {g:List V} (t:Lsts H1 Hc ps fs) (a:H1 q=none) (b:Hc q=some (.lst g)):Lsts H1 Hc (ps++[q]) (fs++[g]):=by
 refine ⟨by rw [Aj,Aj,t.1]; rfl,λj p v hp hv=>?_⟩
 by_cases h:j<ps.length
 · rw [Bh h] at hp;rw [Bh (by rw [<-t.1]; exact h)] at hv
   exact t.2 j p v hp hv
 · rw [Bl (by omega)] at hp
   rw [Bl (by rw [<-t.1]; omega),<-t.1] at hv
   cases e:j - ps.length with
   | zero=>rw [e] at hp hv; cases hp; cases hv; exact ⟨a,b⟩
   | succ n=>rw [e] at hp; cases hp
theorem Lsts.nil {H1 Hc:Hp}:Lsts H1 Hc [] []:=⟨rfl,λj p u hp=>by cases hp⟩
theorem Lsts.mem {H1 Hc:Hp} {ps:List Addr} {fs:List (List V)} (t:Lsts H1 Hc ps fs) {p:Addr} (hp:p∈ps):∃ g∈fs,H1 p=none/\Hc p=some (.lst g):=by
 obtain ⟨j,hj⟩:=Dp.mp hp;have hl:j<fs.length:=by rw [<-t.1]; exact (Ae.mp hj).1
 exact ⟨fs[j],Dd _,t.2 j p _ hj (Aa hl)⟩
section
variable {X:Cx}
theorem kD (ns:List Int):∀ n,n<=ns.length->preSum (λi=>ns.getD i 0) n=(ns.take n).sum
 | 0,_=>by simp [preSum]
 | n+1,h=>by
   have ih:=kD ns n (by omega)
   have e:ns.take (n+1)=ns.take n++[ns.getD n 0]:=by rw [Bt,Ak,Aa (by omega)]; rfl
   rw [e,List.sum_append,<-ih];simp [preSum]
theorem aJC {ns:List Int} (h:∀ n∈ns,0<=n/\n<=1000000):0<=ns.sum/\ns.sum<=1000000 * (ns.length:Int):=by
 induction ns with
 | nil=>simp
 | cons n r ih=>
   obtain ⟨a,b⟩:=h n (Ai ..);obtain ⟨c,d⟩:=ih λm hm=>h m (Ah _ hm);rw [Gw,Be];constructor
   · omega
   · push_cast; omega
def dZW:List V->Hp->VK->Prop:=λxs H Q=>∃ (p:Addr) (ns:List Int),xs=[.ref p]/\rdL H p=some (ns.map V.int)/\(∀ n∈ns,0<=n/\n<=1000000)/\ns.length<=100000/\Q (.int ns.sum) H
theorem cJB (hc:X.calm=true):CallR X (.builtin "sum") dZW:=by
 intro pins s σ H xs us Q I r h;obtain ⟨p,ns,rfl,hp,hb,hn,q⟩:=h;obtain ⟨u,rfl,ru⟩:=eK r;cases ru;obtain ⟨its,rv,pl,hz⟩:=I.list (bC hp);have hl:=pl.isList
 have hlt:p<s.heap.objs.size:=by obtain ⟨_,e,_⟩:=hl; exact An e
 have hle:its.length=ns.length:=by have:=rv.length; rw [Ab] at this; omega
 refine call_sum_walk (Ej hl ?_);refine ⟨s.heap.objs.size,[s.heap.objs.size,p],[s.heap.objs.size],its.toArray.size,_,_,λi=>ns.getD i 0,rfl,Walks.list (A:=X.A.in1) (I.ok.hd hc) _ p (Ay hlt) its.toArray,
   ⟨⟨_,Ar _ rfl,rfl,rfl⟩,hl.push _⟩,λb hb=>?_,λi v hv=>?_,λj hj=>?_,λh' tk t' hk=>?_⟩
 · rw [show ({ s with heap:=_ }:Shared).heap=_ from rfl]
   simp only [List.mem_cons,List.not_mem_nil,or_false] at hb;rcases hb with e | e
   · rw [e]; simp [Heap.push]
   · rw [e]; exact Nat.lt_of_lt_of_le hlt (by simp [Heap.push])
 · have hv':its[i]?=some v:=by simpa using hv
   have hi:i<ns.length:=by rw [<-hle]; exact (Ae.mp hv').1
   obtain ⟨u,hu,ru⟩:=rv.get (show (ns.map V.int)[i]?=some (.int ns[i]) by rw [Af,Aa hi]; rfl)
   rw [hv'] at hu;cases hu;obtain ⟨t,rfl⟩:=ru;exact ⟨t,by show Value.int ns[i] t=Value.int (ns.getD i 0) t; rw [Ak,Aa hi]; rfl⟩
 · have hj' : j < ns.length := by have : j < its.length := by simpa using hj
                                  omega
   have e:=kD ns (j+1) (by omega)
   obtain ⟨a1,a2⟩:=aJC (ns:=ns.take (j+1)) λm hm=>hb m (List.mem_of_mem_take hm);rw [Ba] at a2;have a3:ns.getD j 0∈ns:=by rw [Ak,Aa hj']; exact Dd _
   obtain ⟨b1,b2⟩:=hb _ a3;refine ⟨?_,?_⟩
   · show InLong (ns.getD j 0)
     unfold InLong;omega
   · rw [e];unfold InLong;omega
 · have e:preSum (λi=>ns.getD i 0) its.toArray.size=ns.sum:=by
     rw [Av,hle,kD ns _ (Ag _),Ed]
   rw [e];exact ⟨.int ns.sum,H,I.kept (LSm.kept_iter hk),⟨_,rfl⟩,q⟩
theorem dJE {p:Addr} {ns:List Int} {H:Hp} {Q:VK} (e:rdL H p=some (ns.map V.int)) (hb:∀ n∈ns,0<=n/\n<=1000000) (hl:ns.length<=100000) (h:Q (.int ns.sum) H):dZW [.ref p] H Q:=⟨p,ns,rfl,e,hb,hl,h⟩
end
end L2
set_option maxHeartbeats 4000000
namespace L2
open PySem PySem.Spec PyProof.Rows
section
variable {κ:Type} [DecidableEq κ]
def eC (kvs:List (κ×V)) (k:κ):Option V:=(kvs.find? λkv=>decide (kv.1=k)).map (·.2)
def gA (kvs:List (κ×V)) (k:κ) (v:V):List (κ×V) :=
 if (kvs.any λkv=>decide (kv.1=k))=true then kvs.map (λkv=>if kv.1=k then (kv.1,v) else kv) else kvs++[(k,v)]
def dQC (kvs:List (κ×V)) (k:κ):List (κ×V):=kvs.filter λkv=>decide (kv.1≠k)
theorem dO {p:κ×V} {r:List (κ×V)} {k:κ} (e:p.1=k):eC (p::r) k=some p.2:=by simp [eC,List.find?_cons,e]
theorem dA {p:κ×V} {r:List (κ×V)} {k:κ} (e:¬ p.1=k):eC (p::r) k=eC r k:=by simp [eC,List.find?_cons,e]
theorem fV (k:κ):∀ kvs:List (κ×V),(kvs.any λkv=>decide (kv.1=k))=(eC kvs k).isSome
 | []=>rfl
 | p::r=>by
   rw [Gv];by_cases e:p.1=k
   · simp only [dO e,decide_eq_true e,Bool.true_or,Option.isSome_some]
   · rw [dA e,Au e,Bool.false_or]; exact fV k r
theorem yP (k j:κ) (y:V):∀ kvs:List (κ×V),eC (kvs.map λkv=>if kv.1=k then (kv.1,y) else kv) j=(eC kvs j).map λx=>if j=k then y else x
 | []=>rfl
 | p::r=>by
   have ih:=yP k j y r
   rw [Aw];by_cases h:p.1=k
   · rw [if_pos h];by_cases e:p.1=j
     · rw [dO (p:=(p.1,y)) e,dO e,Fc,if_pos (e.symm.trans h)]
     · rw [dA (p:=(p.1,y)) e,dA e,ih]
   · rw [if_neg h];by_cases e:p.1=j
     · rw [dO (p:=p) e,dO e,Fc,if_neg (λz=>h (e.trans z))]
     · rw [dA (p:=p) e,dA e,ih]
theorem tU (k j:κ) (y:V):∀ kvs:List (κ×V),eC kvs k=none->eC (kvs++[(k,y)]) j=if j=k then some y else eC kvs j
 | [],_=>by
   by_cases e:k=j
   · rw [if_pos e.symm]; exact dO (p:=(k,y)) e
   · rw [if_neg (λz=>e z.symm)]; exact dA (p:=(k,y)) e
 | p::r,hn=>by
   rw [List.cons_append];have hk:¬ p.1=k:=λz=>by rw [dO z] at hn; cases hn
   rw [dA hk] at hn;have ih:=tU k j y r hn
   by_cases e:p.1=j
   · rw [dO e,dO e,if_neg (λz=>hk (e.trans z))]
   · rw [dA e,dA e,ih]
theorem bZE (kvs:List (κ×V)) (k j:κ) (y:V):eC (gA kvs k y) j=if j=k then some y else eC kvs j:=by
 unfold gA;by_cases a:(kvs.any λkv=>decide (kv.1=k))=true
 · rw [if_pos a,yP];rw [fV] at a;by_cases e:j=k
   · obtain ⟨x,hx⟩:=Dt.mp a;rw [if_pos e,e,hx,Fc,if_pos rfl]
   · rw [if_neg e];cases eC kvs j with
     | none=>rfl
     | some x=>rw [Fc,if_neg e]
 · rw [if_neg a];refine tU k j y kvs ?_;rw [fV] at a;cases q:eC kvs k with
   | none=>rfl
   | some x=>rw [q] at a; exact (a rfl).elim
theorem hW (kvs:List (κ×V)) (k:κ) (v:V):(gA kvs k v).length<=kvs.length+1:=by
 unfold gA;split
 · rw [Ab]; omega
 · rw [Aj,Be,List.length_nil]; omega
theorem qW {kvs:List (κ×V)} {k:κ} (v:V) (h:eC kvs k=none):gA kvs k v=kvs++[(k,v)]:=by
 unfold gA;rw [fV,h];exact if_neg (by decide)
theorem RelO.isSome_eq {o:Option V} {u:Option Value} (r:RelO o u):o.isSome=u.isSome:=by
 cases o with
 | none=>cases u with
   | none=>rfl
   | some _=>exact (show False from r).elim
 | some _=>cases u with
   | none=>exact (show False from r).elim
   | some _=>rfl
theorem RelO.getD {o:Option V} {u:Option Value} {d:V} {d':Value} (r:RelO o u) (rd:RelV d d'):RelV (o.getD d) (u.getD d'):=by
 cases o with
 | none=>cases u with
   | none=>exact rd
   | some _=>exact (show False from r).elim
 | some _=>cases u with
   | none=>exact (show False from r).elim
   | some _=>exact r
theorem KV.val {kvs:List (κ×V)} {vs:List (κ×Value)} (r:KV kvs vs) (k:κ):RelO (eC kvs k) (valueAt vs k):=by
 unfold KV at r;induction r with
 | nil=>exact True.intro
 | @cons p q ps qs h t ih=>
   obtain ⟨h1,h2⟩:=h;by_cases e:p.1=k
   · have e':q.1=k:=h1.symm.trans e
     have b:valueAt (q::qs) k=some q.2:=by simp [valueAt,List.find?_cons,e']
     rw [dO e,b]; exact h2
   · have e':¬ q.1=k:=λz=>e (h1.trans z)
     have b:valueAt (q::qs) k=valueAt qs k:=by simp [valueAt,List.find?_cons,e']
     rw [dA e,b]; exact ih
theorem KV.any {kvs:List (κ×V)} {vs:List (κ×Value)} (r:KV kvs vs) (k:κ):(kvs.any λkv=>decide (kv.1=k))=vs.any λkv=>decide (kv.1=k):=by
 unfold KV at r;induction r with
 | nil=>rfl
 | cons h t ih=>rw [Gv,Gv,ih,h.1]
theorem KV.repl {kvs:List (κ×V)} {vs:List (κ×Value)} (r:KV kvs vs) (k:κ) {y:V} {u:Value} (ry:RelV y u) :
   KV (kvs.map λkv=>if kv.1=k then (kv.1,y) else kv) (vs.map λkv=>if kv.1=k then (kv.1,u) else kv):=by
 unfold KV at r ⊢;induction r with
 | nil=>exact .nil
 | @cons p q ps qs h t ih=>
   rw [Aw,Aw];refine .cons ?_ ih;obtain ⟨h1,h2⟩:=h;by_cases e:p.1=k
   · rw [if_pos e,if_pos (h1.symm.trans e)]; exact ⟨h1,ry⟩
   · rw [if_neg e,if_neg (λz=>e (h1.trans z))]; exact ⟨h1,h2⟩
theorem KV.put {kvs:List (κ×V)} {vs:List (κ×Value)} (r:KV kvs vs) (k:κ) {y:V} {u:Value} (ry:RelV y u):KV (gA kvs k y) (stored vs k u):=by
 unfold gA stored;rw [r.any k];by_cases e:(vs.any λkv=>decide (kv.1=k))=true
 · rw [if_pos e,if_pos e]; exact r.repl k ry
 · rw [if_neg e,if_neg e]; exact Paired.snoc r ⟨rfl,ry⟩
theorem KV.drop {kvs:List (κ×V)} {vs:List (κ×Value)} (r:KV kvs vs) (k:κ):KV (dQC kvs k) (without vs k):=by
 unfold KV at r ⊢;unfold dQC without;induction r with
 | nil=>exact .nil
 | @cons p q ps qs h t ih=>
   obtain ⟨h1,h2⟩:=h;rw [Gr,Gr];by_cases e:p.1=k
   · have a:¬ decide (p.1≠k)=true:=by simp [e]
     have b:¬ decide (q.1≠k)=true:=by simp [h1.symm.trans e]
     rw [if_neg a,if_neg b]; exact ih
   · have e':¬ q.1=k:=λz=>e (h1.trans z)
     have a:decide (p.1≠k)=true:=by simp [e]
     have b:decide (q.1≠k)=true:=by simp [e']
     rw [if_pos a,if_pos b]; exact .cons ⟨h1,h2⟩ ih
theorem KV.keys {kvs:List (κ×V)} {vs:List (κ×Value)} (r:KV kvs vs):kvs.map (·.1)=vs.map (·.1):=by
 unfold KV at r;induction r with
 | nil=>rfl
 | cons h t ih=>rw [Aw,Aw,ih,h.1]
theorem KV.length {kvs:List (κ×V)} {vs:List (κ×Value)} (r:KV kvs vs):kvs.length=vs.length:=Paired.length r
end
theorem xR {P:Program} {w:World} {k:Key} {u:Value} (r:RelV (kV k) u):(bK P w).is k u=true:=by
 cases k with
 | inl i=>obtain ⟨t,e⟩:=(show ∃ t,u=Value.int i t from r); subst e; exact xG P w i t
 | inr x=>obtain ⟨t,e⟩:=(show ∃ t,u=Value.str x t from r); subst e; exact xB P w x t
theorem tF {P:Program} {w:World}:∀ {ks:List Key} {us:List Value},Vals (ks.map kV) us->ItemsAre (bK P w) ks us
 | [],_,r=>by rw [List.map_nil] at r; cases r; exact .nil
 | k::ks,_,r=>by
   rw [Aw] at r;cases r with
   | cons h t=>exact .cons (xR h) (tF t)
abbrev KT (H:Hp):List (List Key×V)->List (List Key×Addr×Value)->Prop:=Paired λp q=>p.1=q.1/\H q.2.1=some (.tup (p.1.map kV))/\RelV p.2 q.2.2
theorem KT.val {H:Hp} {kvs:List (List Key×V)} {xs:List (List Key×Addr×Value)} (r:KT H kvs xs) (k:List Key):RelO (eC kvs k) ((atKey xs k).map (·.2)):=by
 induction r with
 | nil=>exact True.intro
 | @cons p q ps qs h t ih=>
   obtain ⟨h1,_,h2⟩:=h;by_cases e:p.1=k
   · have e':q.1=k:=h1.symm.trans e
     have b:atKey (q::qs) k=some q.2:=by simp [atKey,List.find?_cons,e']
     rw [dO e,b]; exact h2
   · have e':¬ q.1=k:=λz=>e (h1.trans z)
     have b:atKey (q::qs) k=atKey qs k:=by simp [atKey,List.find?_cons,e']
     rw [dA e,b]; exact ih
theorem KT.repl {H:Hp} {kvs:List (List Key×V)} {xs:List (List Key×Addr×Value)} (r:KT H kvs xs) (k:List Key) {y:V} {u:Value} (ry:RelV y u) :
   KT H (kvs.map λkv=>if kv.1=k then (kv.1,y) else kv) (xs.map (putAt k u)):=by
 induction r with
 | nil=>exact .nil
 | @cons p q ps qs h t ih=>
   rw [Aw,Aw];refine .cons ?_ ih;obtain ⟨h1,h2,h3⟩:=h;unfold putAt;by_cases e:p.1=k
   · rw [if_pos e,if_pos (h1.symm.trans e)]; exact ⟨h1,h2,ry⟩
   · rw [if_neg e,if_neg (λz=>e (h1.trans z))]; exact ⟨h1,h2,h3⟩
theorem KT.put {H:Hp} {kvs:List (List Key×V)} {xs:List (List Key×Addr×Value)} (r:KT H kvs xs) (k:List Key) {b:Addr} {y:V} {u:Value} (hb:H b=some (.tup (k.map kV))) (ry:RelV y u) :
   KT H (gA kvs k y) (storedH xs k b u):=by
 have e:(kvs.any λkv=>decide (kv.1=k))=(atKey xs k).isSome:=by
   rw [fV,(r.val k).isSome_eq,Option.isSome_map]
 unfold gA storedH;rw [e];by_cases q:(atKey xs k).isSome=true
 · rw [if_pos q,if_pos q]; exact r.repl k ry
 · rw [if_neg q,if_neg q]; exact Paired.snoc r ⟨rfl,hb,ry⟩
theorem KT.keeps {H H':Hp} {kvs:List (List Key×V)} {xs:List (List Key×Addr×Value)} (r:KT H kvs xs) (ht:∀ b ys,H b=some (.tup ys)->H' b=some (.tup ys)):KT H' kvs xs :=
 Paired.mapP r λ_ _ z=>⟨z.1,ht _ _ z.2.1,z.2.2⟩
section
variable {P:Program} {w:World} {H:Hp} {h:Heap} {a:Addr}
theorem cJR {u:HO} (ok:HOk P w H h) (e:Rd H a u):ObjOk P w H h a u:=e.ok ok
theorem zA {kvs:List (Key×V)} (ok:HOk P w H h) (e:Rd H a (.dK kvs)):kvs.length<=sizeLine/\(a == sysModules)=false/\∃ vs,KV kvs vs/\h.DictOf (bK P w) a vs :=
 show ObjOk P w H h a (.dK kvs) from cJR ok e
theorem cJV {kvs:List (Key×V)} (ok:HOk P w H h) (e:H a=some (.dK kvs)):kvs.length<=sizeLine/\(a == sysModules)=false/\∃ vs,KV kvs vs/\h.DictOf (bK P w) a vs:=zA ok (.inl e)
theorem wI {ks:List Key} (ok:HOk P w H h) (e:H a=some (.tup (ks.map kV))):(tupleKind (bK P w)).is h ks a:=by
 obtain ⟨_,its,r,o,h1,h2,n,h3⟩:=(show ObjOk P w H h a (.tup (ks.map kV)) from ok a _ e);exact ⟨o,its.toArray,n,h1,h2,h3,by simpa using tF r⟩
theorem zD {kvs:List (List Key×V)} (ok:HOk P w H h) (e:Rd H a (.dT kvs)):kvs.length<=sizeLine/\(a == sysModules)=false/\
   ∃ xs,KT H kvs xs/\h.DictOfH (tupleKind (bK P w)) a xs:=by
 obtain ⟨z,y,xs,r,o,es,ep,h1,h2,h3,h4,h5⟩:=(show ObjOk P w H h a (.dT kvs) from cJR ok e);refine ⟨z,y,xs,r,o,es,ep,h1,h2,h3,h4,λx hx=>?_,h5⟩;have all:∀ {l:List (List Key×V)} {m:List (List Key×Addr×Value)},KT H l m->∀ x∈m,(tupleKind (bK P w)).is h x.1 x.2.1:=by
   intro l m q;induction q with
   | nil=>intro x hx; exact nomatch hx
   | @cons p q ps qs hq t ih=>
     intro x hx;rcases Bd.mp hx with e | hx
     · subst e;exact wI ok (by rw [<-hq.1]; exact hq.2.1)
     · exact ih x hx
 exact all r x hx
theorem eXR {kvs:List (List Key×V)} (ok:HOk P w H h) (e:H a=some (.dT kvs)):kvs.length<=sizeLine/\(a == sysModules)=false/\
   ∃ xs,KT H kvs xs/\h.DictOfH (tupleKind (bK P w)) a xs:=zD ok (.inl e)
end
def DGet (H:Hp) (a:Addr) (y:V) (r:Option V):Prop :=
 (∃ kvs k,Rd H a (.dK kvs)/\y=kV k/\r=eC kvs k)\/∃ kvs k b,Rd H a (.dT kvs)/\y=.ref b/\H b=some (.tup (k.map kV))/\r=eC kvs k
def DPut (H:Hp) (a:Addr) (y v:V) (H':Hp):Prop :=
 (∃ kvs k,H a=some (.dK kvs)/\y=kV k/\kvs.length<sizeLine/\H'=upd H a (.dK (gA kvs k v)))\/
 ∃ kvs k b,H a=some (.dT kvs)/\y=.ref b/\H b=some (.tup (k.map kV))/\kvs.length<sizeLine/\H'=upd H a (.dT (gA kvs k v))
theorem DGet.k {H:Hp} {a:Addr} {kvs:List (Key×V)} {k:Key} (e:H a=some (.dK kvs)):DGet H a (kV k) (eC kvs k):=.inl ⟨kvs,k,.inl e,rfl,rfl⟩
theorem DGet.t {H:Hp} {a b:Addr} {kvs:List (List Key×V)} {k:List Key} (e:H a=some (.dT kvs)) (eb:H b=some (.tup (k.map kV))):DGet H a (.ref b) (eC kvs k):=.inr ⟨kvs,k,b,.inl e,rfl,eb,rfl⟩
theorem DPut.k {H:Hp} {a:Addr} {kvs:List (Key×V)} {k:Key} {v:V} (e:H a=some (.dK kvs)) (hl:kvs.length<sizeLine):DPut H a (kV k) v (upd H a (.dK (gA kvs k v))):=.inl ⟨kvs,k,e,rfl,hl,rfl⟩
theorem DPut.t {H:Hp} {a b:Addr} {kvs:List (List Key×V)} {k:List Key} {v:V} (e:H a=some (.dT kvs)) (eb:H b=some (.tup (k.map kV))) (hl:kvs.length<sizeLine) :
   DPut H a (.ref b) v (upd H a (.dT (gA kvs k v))):=.inr ⟨kvs,k,b,e,rfl,eb,hl,rfl⟩
section
variable {X:Cx} {pins:Q2} {σ:St} {H:Hp} {s:Shared} {a:Addr} {y v:V} {u r:Value} {o:Option V} {A:Around} {E:Q0}
theorem Inv.big (I:Inv X pins σ H s):sysModules<s.heap.objs.size:=by
 have h:mainGlobals<s.heap.objs.size:=(I.mod.glob.keeps I.bk).lt
 exact Gj (by decide) h
theorem aJV {Q:Q0} (hu:A.units+1<cLine) (I:Inv X pins σ H s) (g:DGet H a y (some v)) (ry:RelV y u) (h:∀ w' s',Inv X pins σ H s'->RelV v w'->Q w' s') :
   wpAny (model X.prog X.w) A (getItem (.ref a) u) Q E s:=by
 rcases g with ⟨kvs,k,e,ey,l⟩ | ⟨kvs,k,b,e,ey,eb,l⟩
 · subst ey;obtain ⟨z,hd,vs,rel,dd⟩:=zA I.hok e;obtain ⟨w',hw,rw'⟩:=RelO.some_of (v:=v) (o:=valueAt vs k) (by rw [l]; exact rel.val k)
   exact wpAny_getItem_of (xR ry) dd.mapOf hw (h w' _ (I.tok _) rw')
 · subst ey;cases (show u=Value.ref b from ry);obtain ⟨z,hd,xs,rel,dd⟩:=zD I.hok e;obtain ⟨w',hw,rw'⟩:=RelO.some_of (v:=v) (o:=(atKey xs k).map (·.2)) (by rw [l]; exact rel.val k)
   obtain ⟨p,hp,hp2⟩:=Dz.mp hw;refine wpAny_getItem_heap (tupleKind_room_in1 hu) (wI I.hok eb) dd hp ?_;rw [hp2];exact h w' _ (I.tok _) rw'
theorem aXM {h':Heap} {t':Nat} {ob:HO} (I:Inv X pins σ H s) (mu:Mut (H a)) (hs:Heap.SameBut a s.heap h') (he:∃ q,h'.get? a=some q) (new:ObjOk X.prog X.w (upd H a ob) h' a ob) :
   Inv X pins σ (upd H a ob) { s with heap:=h',toks:=t' } :=
 I.write (x:=a) (e:=a) mu (.inl rfl) (λb q hb z=>(hs.2 b hb).trans z) he new
theorem bJI {P:Program} {w:World} {H':Hp} {h':Heap} {kvs:List (Key×V)} {vs:List (Key×Value)} (z:kvs.length<=sizeLine) (hd:(a == sysModules)=false) (rel:KV kvs vs) (dd:h'.DictOf (bK P w) a vs) :
   ObjOk P w H' h' a (.dK kvs):=⟨z,hd,vs,rel,dd⟩
theorem aZ7 {H':Hp} {Q:Unit->Shared->Prop} (hu:A.units+1<cLine) (I:Inv X pins σ H s) (g:DPut H a y v H') (ry:RelV y u) (rv:RelV v r) (h:∀ s',Inv X pins σ H' s'->Q () s') :
   wpAny (model X.prog X.w) A (setItem (.ref a) u r) Q E s:=by
 rcases g with ⟨kvs,k,e,ey,l,eH⟩ | ⟨kvs,k,b,e,ey,eb,l,eH⟩
 · subst ey eH;obtain ⟨z,hd,vs,rel,dd⟩:=cJV I.hok e;have hz:vs.length<=sizeLine:=by rw [<-rel.length]; exact z
   have hl:(gA kvs k v).length<=sizeLine:=by have:=hW kvs k v; omega
   refine wpAny_setItem_pairs (hsz:=hz) (xR ry) dd λh' dd' hs=>h _ ?_;have he:∃ q,h'.get? a=some q:=let ⟨q,_,_,hq,_⟩:=dd'; ⟨q,hq⟩
   exact aXM I (by rw [e]; exact True.intro) hs he (bJI hl hd (rel.put k rv) dd')
 · subst ey eH;cases (show u=Value.ref b from ry);obtain ⟨z,hd,xs,rel,dd⟩:=eXR I.hok e;have hz:xs.length<=sizeLine:=by rw [<-Paired.length rel]; exact z
   have hl:(gA kvs k v).length<=sizeLine:=by have:=hW kvs k v; omega
   refine wpAny_setItem_heap (hsz:=hz) (tupleKind_room_in1 hu) (wI I.hok eb) dd λh' dd' hs=>h _ ?_;obtain ⟨q,es,ep,hq,h2,h3,h4,_,h5⟩:=dd';refine aXM I (by rw [e]; exact True.intro) hs ⟨q,hq⟩ ⟨hl,hd,_,(rel.put k eb rv).keeps λc ys ec=>?_,q,es,ep,hq,h2,h3,h4,h5⟩
   rw [aK (eQS ec e (λz=>nomatch z))]
   exact ec
end
section
variable {X:Cx} {pins:Q2} {σ:St} {H:Hp} {s:Shared} {a:Addr} {kvs:List (Key×V)} {k:Key} {u:Value} {A:Around} {E:Q0}
end
def dJP (i:Expr):Prop:=∀ ov iv,subscripted i false ov iv=operate [ov,iv] (getItem ov iv)
theorem cQO {prog:Program} {w:World} {A:Around} {E:Q0} {s:Shared} {env:Env} {value slice:Expr} {pos:Pos} {T id:String} {Q:Q0}
   (hl:typeLookup (.type T) "__getitem__"=pure (some (.builtin id))) (hs:dJP slice)
   (h:wpAny (model prog w) A (eval value env) (λo s₁=>wpAny (model prog w) A (eval slice env) (λi s₂=>s₂.TypeIs o T/\wpAny (model prog w) A (getItem o i) Q E s₂) E s₁) E s) :
   wpAny (model prog w) A (eval (.Subscript value slice pos) env) Q E s:=by
 refine Subscript_ (Bo h (λo s₁ h₁=>Bo h₁ (λi s₂ h₂=>?_) λ_ _ x=>x) λ_ _ x=>x);obtain ⟨hT,h₂⟩:=h₂;unfold subscriptTail;refine Ac ?_;rw [getitemInPython_of_ne hT.not_modules];refine Ac (wpAny_specialOf hT hl ?_);have fin:wpAny (model prog w) A (subscripted slice false o i) (λr s₃=>wpAny (model prog w) A (letTemporaryGo value o r >>= λ_=>pure r) Q E s₃) E s₂:=by
   rw [hs o i];exact wpAny_operating (Bo h₂ (λr s₃ h₃=>Ac (wpAny_letTemporaryGo (Ao h₃))) λ_ _ x=>x)
 first
   | exact Ao (Ac fin)
   | exact Ac (Ao (Ac fin))
   | exact Ac fin
theorem yM {X:Cx} {pins:Q2} {σ:St} {H:Hp} {s:Shared} {a:Addr} {y:V} {o:Option V} (I:Inv X pins σ H s) (g:DGet H a y o):s.TypeIs (.ref a) "dict" := by
 rcases g with ⟨kvs,k,e,_,_⟩ | ⟨kvs,k,b,e,_,_,_⟩
 · obtain ⟨_,_,vs,_,dd⟩:=zA I.hok e;exact dd.typeIs
 · obtain ⟨_,_,xs,_,dd⟩:=zD I.hok e;exact dd.typeIs
def cJQ (td ty:TE):TE:=λσ H Q=>td σ H λx H1=>ty σ H1 λy H2=>∃ a v,x=.ref a/\DGet H2 a y (some v)/\Q v H2
def dQD (td ty tv:TE):TS:=λD σ H=>tv σ H λv H1=>td σ H1 λx H2=>ty σ H2 λy H3=>∃ a H4,x=.ref a/\DPut H3 a y v H4/\D.nx σ H4
section
variable {X:Cx} {o i e value:Expr} {pos pos' tpos:Pos} {td ty tv:TE}
theorem aZF (hu:X.A.units+1<cLine) (ho:PE X o td) (hi:PE X i ty) (hs:dJP i):PE X (.Subscript o i pos) (cJQ td ty):=by
 intro pins s σ H Q I h;refine cQO PySem.F.slot_dict_getitem.lookup hs (thn (ho pins s σ H _ I h) λu s1 ⟨x,H1,I1,rx,q1⟩=>thn (hi pins s1 σ H1 _ I1 q1) λiv s2 ⟨y,H2,I2,ry,a,v,ex,g,q2⟩=>?_);subst ex;obtain rfl:u=Value.ref a:=rx;exact ⟨yM I2 g,aJV hu I2 g ry λw' s3 I3 rw'=>⟨v,H2,I3,rw',q2⟩⟩
theorem aX0 (hu:X.A.units+1<cLine) (ho:PE X o td) (hi:PE X i ty) (hv:PE X value tv) (hs:swapsWith value (some (.Subscript o i pos')) pos.line X.env=pure false) :
   PS X (.Assign [.Subscript o i pos'] value pos) (dQD td ty tv):=by
 intro pins s σ H D I h;refine wpAny_Assign_Subscript (thn (hv pins s σ H _ I h) λr s1 ⟨v,H1,I1,rv,q1⟩=>thn (ho pins s1 σ H1 _ I1 q1) λu s2 ⟨x,H2,I2,rx,q2⟩=>thn (hi pins s2 σ H2 _ I2 q2) λiv s3 ⟨y,H3,I3,ry,a,H4,ex,g,q3⟩=>?_) hs;subst ex;obtain rfl:u=Value.ref a:=rx;exact aZ7 hu I3 g ry rv λs4 I4=>⟨σ,H4,I4,q3⟩
end
theorem bJD {P:Program} {w:World} {H:Hp} (h:Heap) (hb:sysModules<h.objs.size):ObjOk P w H (h.push { cls:=.type "dict",data:=.dict #[] }) h.objs.size (.dK []) :=
 ⟨Dv _,Cf.mpr (Ne.symm (Ay hb)),[],.nil,Heap.DictOf.new h⟩
def bJY:TE:=λ_ H Q=>∀ p,H p=none->Q (.ref p) (upd H p (.dK []))
section
variable {X:Cx} {pos:Pos}
theorem wL:PE X (.Dict [] [] pos) bJY:=λpins s σ H Q I h=>
 wpAny_Dict_empty ⟨.ref s.heap.objs.size,_,I.laid (a:=s.heap.objs.size) (o:=.dK []) (t':=s.toks) (λ_ _ q=>Ad _ q) (Ag _) (bJD s.heap I.big),rfl,h _ (I.hok.fresh (Ag _))⟩
end
def mJ (kvs more:List (Key×V)):List (Key×V):=more.foldl (λacc kv=>gA acc kv.1 kv.2) kvs
theorem KV.merge:∀ {more:List (Key×V)} {rs:List (Key×Value)} {kvs:List (Key×V)} {vs:List (Key×Value)},KV more rs->KV kvs vs->KV (mJ kvs more) (merged vs rs):=by
 intro more rs kvs vs r;unfold KV at r;induction r generalizing kvs vs with
 | nil=>intro q; exact q
 | @cons p q ps qs h t ih=>
   intro r0;have e:KV (gA kvs p.1 p.2) (stored vs q.1 q.2):=by
     have:=r0.put p.1 h.2
     rw [<-h.1]; exact this
   exact ih e
theorem lT:∀ (more kvs:List (Key×V)),(mJ kvs more).length<=kvs.length+more.length
 | [],kvs=>by show kvs.length<=kvs.length+0; omega
 | p::r,kvs=>by
   have h1:=lT r (gA kvs p.1 p.2)
   have h2:=hW kvs p.1 p.2
   show (mJ (gA kvs p.1 p.2) r).length<=_
   rw [Be]; omega
structure M1 (X:Cx) (o:Expr) (m:Str) (apos:Pos) (e:Expr) (cpos:Pos):Prop where
 base:attributeBase o m X.env (eval o X.env)=eval o X.env
 few:((backTo cpos (starEach [e] X.env)).all (λx=>!x.1) && (backToKw cpos (keywordEach [] X.env)).all (λx=>x.1.isSome)
   && decide (([e]:List Expr).length+([]:List Keyword).length+(if ([]:List Keyword).isEmpty then 0 else 1)<30))=true
 line:(apos.endLine == cpos.line)=true
 trees:backTo cpos (starEach [e] X.env)=[(false,eval e X.env)]
structure M2 (X:Cx) (o:Expr) (m:Str) (apos:Pos) (e f:Expr) (cpos:Pos):Prop where
 base:attributeBase o m X.env (eval o X.env)=eval o X.env
 few:((backTo cpos (starEach [e,f] X.env)).all (λx=>!x.1) && (backToKw cpos (keywordEach [] X.env)).all (λx=>x.1.isSome)
   && decide (([e,f]:List Expr).length+([]:List Keyword).length+(if ([]:List Keyword).isEmpty then 0 else 1)<30))=true
 line:(apos.endLine == cpos.line)=true
 trees:backTo cpos (starEach [e,f] X.env)=[(false,eval e X.env),(false,eval f X.env)]
def IsD (H:Hp) (a:Addr):Prop:=(∃ kvs,Rd H a (.dK kvs))\/∃ kvs,Rd H a (.dT kvs)
theorem dQ0 {X:Cx} {pins:Q2} {σ:St} {H:Hp} {s:Shared} {a:Addr} (I:Inv X pins σ H s) (d:IsD H a) :
   s.TypeIs (.ref a) "dict"/\(∀ b,Value.ref a=.ref b->∃ ob,s.heap.get? b=some ob/\ob.dict=none)/\(a == sysModules)=false:=by
 rcases d with ⟨kvs,e⟩ | ⟨kvs,e⟩
 · obtain ⟨_,hd,vs,_,dd⟩:=zA I.hok e;refine ⟨dd.typeIs,λb q=>?_,hd⟩;cases q;obtain ⟨ob,_,_,h1,h2,_⟩:=dd;exact ⟨ob,h1,h2.2.1⟩
 · obtain ⟨_,hd,xs,_,dd⟩:=zD I.hok e;refine ⟨dd.typeIs,λb q=>?_,hd⟩;cases q;obtain ⟨ob,_,_,h1,h2,_⟩:=dd;exact ⟨ob,h1,h2.2.1⟩
section
variable {X:Cx} {pins:Q2} {σ:St} {H:Hp} {s:Shared} {a:Addr} {y d:V} {u r:Value} {o:Option V} {A:Around} {E:Q0}
theorem dZO {Q:Q0} (hu:A.units+1<cLine) (I:Inv X pins σ H s) (g:DGet H a y o) (ry:RelV y u) (rd:RelV d r) (h:∀ w' s',Inv X pins σ H s'->RelV (o.getD d) w'->Q w' s') :
   wpAny (model X.prog X.w) A (call (.builtin "dict.get") [.ref a,u,r]) Q E s:=by
 rcases g with ⟨kvs,k,e,ey,l⟩ | ⟨kvs,k,b,e,ey,eb,l⟩
 · subst ey;obtain ⟨z,hd,vs,rel,dd⟩:=zA I.hok e;refine call_meetsIn Cv dd.typeIs Gk (PySem.F.args_dict_get_3 _ _ _) (meets_dict_get_default (bK X.prog X.w) a (xR ry) hd r) ⟨_,dd.mapOf,h _ _ (I.tok _) ?_⟩;rw [l];exact (rel.val k).getD rd
 · subst ey;cases (show u=Value.ref b from ry);obtain ⟨z,hd,xs,rel,dd⟩:=zD I.hok e;refine call_meetsIn Cv dd.typeIs Gk (PySem.F.args_dict_get_3 _ _ _) (meetsH_dict_get_default (tupleKind (bK X.prog X.w)) a b hd r) ⟨tupleKind_room_in1 hu,k,xs,wI I.hok eb,dd,h _ _ (I.tok _) ?_⟩;rw [l];exact (rel.val k).getD rd
end
section
variable {X:Cx} {o e f:Expr} {apos cpos:Pos} {td ty tx:TE}
end
section
variable {X:Cx} {pins:Q2} {σ:St} {H:Hp} {s:Shared} {a:Addr} {kvs:List (Key×V)} {A:Around} {E:Q0}
end
section
variable {X:Cx} {pins:Q2} {σ:St} {H:Hp} {s:Shared} {a:Addr} {y:V} {u:Value} {A:Around} {E:Q0}
end
end L2
set_option maxHeartbeats 4000000
namespace L2
open PySem PySem.Spec PyProof.Rows
section
variable {X:Cx} {pins:Q2} {σ:St} {H:Hp} {s:Shared}
theorem Inv.re {H':Hp} (I:Inv X pins σ H s) (hn:∀ b,H b=none->H' b=none) (tups:∀ b xs,X.H₀ b=some (.tup xs)->H' b=some (.tup xs)) (frzs:∀ b o u,X.H₀ b=some (.frz o u)->H' b=some (.frz o u))
   (tbls:∀ b ps,X.H₀ b=some (.tbl ps)->∃ more,H' b=some (.tbl (ps++more))) (hok:HOk X.prog X.w H' s.heap):Inv X pins σ H' s :=
 ⟨I.ok,I.os,I.bare,⟨I.base.keep,I.base.slot,λb o e n hx=>hn b (I.base.free b o e n hx),I.base.there,tups,frzs,tbls⟩,I.loc,I.cell,hn _ I.free,λx c e=>hn c (I.freeC x c e),λp hp=>by
   obtain ⟨a,b,c,d,e⟩:=I.pin p hp;exact ⟨a,hn _ b,c,d,e⟩,hok,I.len⟩
def eQY:HO->Bool
 | .dK _=>true
 | .dT _=>true
 | _=>false
theorem Inv.freeze {a:Addr} {u:HO} {o:Obj} (I:Inv X pins σ H s) (ha:H a=some u) (hu:eQY u=true) (ho:s.heap.get? a=some o):Inv X pins σ (upd H a (.frz o u)) s:=by
 have ne:∀ c v,H c=some v->eQY v=false->c≠a:=λc v q n z=>by rw [z,ha] at q; cases q; rw [n] at hu; cases hu
 have own:∀ c y,H c=some (.own y)->upd H a (.frz o u) c=some (.own y):=λc y q=>by rw [aK (ne c _ q rfl)]; exact q
 have tup:∀ c xs,H c=some (.tup xs)->upd H a (.frz o u) c=some (.tup xs):=λc xs q=>by rw [aK (ne c _ q rfl)]; exact q
 refine I.re (λb q=>by rw [aK (λz=>by rw [z,ha] at q; cases q)]; exact q) (λb xs q=>tup b xs (I.base.tups b xs q)) (λb o' v q=>?_) (λb ps q=>?_) (λb v q=>?_)
 · have:=I.base.frzs b o' v q
   rw [aK (ne b _ this rfl)];exact this
 · obtain ⟨m,e⟩:=I.base.tbls b ps q;exact ⟨m,by rw [aK (ne b _ e rfl)]; exact e⟩
 · by_cases hb:b=a
   · subst hb;rw [aG] at q;cases q;exact (show s.heap.get? b=some o/\ObjOk X.prog X.w (upd H b (.frz o u)) s.heap b u from ⟨ho,(I.hok b _ ha).stay (λ_ _ _ q=>q) (λc=>own c b) tup⟩)
   · rw [aK hb] at q;exact (I.hok b v q).stay (λ_ _ _ q=>q) (λc=>own c b) tup
def unf (Hs H:Hp):Hp:=λb=>match H b with
 | some (.frz o u)=>(match Hs b with | some (.frz _ _)=>some (.frz o u) | _=>some u)
 | x=>x
theorem oI {Hs H:Hp} {b:Addr} {u:HO} (h:H b=some u) (n:∀ o v,u≠.frz o v):unf Hs H b=some u:=by
 unfold unf;rw [h];cases u <;> first | rfl | exact absurd rfl (n _ _)
theorem xL {Hs H:Hp} {b:Addr} (h:H b=none):unf Hs H b=none:=by unfold unf; rw [h]
theorem aX9 {Hs H:Hp} {b:Addr} {o:Obj} {u:HO} (h:H b=some (.frz o u)) (n:∀ o v,Hs b≠some (.frz o v)):unf Hs H b=some u:=by
 unfold unf;rw [h];dsimp only;split
 · rename_i e
   exact absurd e (n _ _)
 · rfl
theorem vE {Hs H:Hp} {b:Addr} {o o':Obj} {u u':HO} (h:H b=some (.frz o u)) (n:Hs b=some (.frz o' u')):unf Hs H b=some (.frz o u):=by
 unfold unf;rw [h];dsimp only;rw [n]
theorem Inv.unfreeze {Hs:Hp} (I:Inv X pins σ H s) (h0:∀ b o u,X.H₀ b=some (.frz o u)->Hs b=some (.frz o u)):Inv X pins σ (unf Hs H) s:=by
 have own:∀ c y,H c=some (.own y)->unf Hs H c=some (.own y):=λc y q=>oI q λ_ _ z=>by cases z
 have tup:∀ c xs,H c=some (.tup xs)->unf Hs H c=some (.tup xs):=λc xs q=>oI q λ_ _ z=>by cases z
 refine I.re (λb q=>xL q) (λb xs q=>tup b xs (I.base.tups b xs q)) (λb o u q=>vE (I.base.frzs b o u q) (h0 b o u q)) (λb ps q=>?_) (λb u q=>?_)
 · obtain ⟨m,e⟩:=I.base.tbls b ps q;exact ⟨m,oI e λ_ _ z=>by cases z⟩
 · cases e:H b with
   | none=>rw [xL e] at q; cases q
   | some v=>
     have ok:=I.hok b v e
     by_cases hf:∃ o v',v=.frz o v'
     · obtain ⟨o,v',rfl⟩:=hf;have ok2:s.heap.get? b=some o/\ObjOk X.prog X.w H s.heap b v':=ok
       by_cases hs:∃ o' u',Hs b=some (.frz o' u')
       · obtain ⟨o',u',hs⟩:=hs;rw [vE e hs] at q;cases q;exact ok.stay (λ_ _ _ q=>q) (λc=>own c b) tup
       · rw [aX9 e λo v z=>hs ⟨o,v,z⟩] at q;cases q;exact ok2.2.stay (λ_ _ _ q=>q) (λc=>own c b) tup
     · rw [oI e λo v' z=>hf ⟨o,v',z⟩] at q;cases q;exact ok.stay (λ_ _ _ q=>q) (λc=>own c b) tup
end
section
variable {X:Cx} {e:Expr} {st:Stmt}
def dJ0 (t:TE):TE:=λσ H Q=>t σ H λv H'=>Q v (unf H H')
theorem dZU {t:TE} (h:PE X e t):PE X e (dJ0 t):=λpins s σ H Q I q=>thn (h pins s σ H _ I q) λv s' ⟨x,H',I',r,q'⟩=>⟨x,unf H H',I'.unfreeze λb o u e=>I.base.frzs b o u e,r,q'⟩
theorem eQ6 {t:TE} {σ:St} {H:Hp} {Q:VK} (h:t σ H λv H'=>Q v (unf H H')):dJ0 t σ H Q:=h
end
theorem bZ3 {Hs H:Hp} {a:Addr} {o:Obj} {u:HO} (ha:Hs a=some u) (hu:∀ o v,u≠.frz o v) (h:Same (upd Hs a (.frz o u)) H):Same Hs (unf Hs H):=λb v q=>by
 by_cases e:b=a
 · subst e;rw [ha] at q;cases q;exact aX9 (h _ _ aG) λo v z=>by rw [ha] at z; cases z; exact hu _ _ rfl
 · have:=h b v (by rw [aK e]; exact q)
   by_cases hf:∃ o v',v=.frz o v'
   · obtain ⟨o',v',rfl⟩:=hf;exact vE this q
   · exact oI this λo v' z=>hf ⟨o,v',z⟩
theorem aQM {α β:Type} {R:α->β->Prop} {xs:List α} {ys:List β} (r:Paired R xs ys):∀ {i:Nat} {x:α},xs[i]?=some x->∃ y,ys[i]?=some y/\R x y:=by
 induction r with
 | nil=>intro i x h; cases h
 | cons h t ih=>
   intro i x hx;cases i with
   | zero=>cases hx; exact ⟨_,rfl,h⟩
   | succ i=>exact ih (i:=i) hx
theorem dJO {P:Program} {w:World} {k:Key} {u:Value} (h:(bK P w).is k u=true):RelV (kV k) u:=by
 rcases cI h with ⟨i,t,rfl,rfl⟩ | ⟨x,t,rfl,rfl⟩
 · exact ⟨t,rfl⟩
 · exact ⟨t,rfl⟩
def Itd (a:Addr) (o:Obj) (kvs:List (Key×V)):It:=⟨λi H=>H a=some (.frz o (.dK kvs))/\i<kvs.length,λi H x H'=>H'=H/\∃ kv,kvs[i]?=some kv/\x=kV kv.1,λi H=>H a=some (.frz o (.dK kvs))/\kvs.length=i⟩
theorem aQR {X:Cx} {pins:Q2} {σ:St} {H:Hp} {s:Shared} {a:Addr} {o:Obj} {kvs:List (Key×V)} {ep:Nat} (I:Inv X pins σ H s) (ha:H a=some (.frz o (.dK kvs))) (hep:∃ es,o.data=.dict es ep) :
   kvs.length<=sizeLine/\(a == sysModules)=false/\∃ vs,KV kvs vs/\s.heap.DictAt (bK X.prog X.w) a vs ep:=by
 have ok:s.heap.get? a=some o/\(kvs.length<=sizeLine/\(a == sysModules)=false/\∃ vs,KV kvs vs/\s.heap.DictOf (bK X.prog X.w) a vs):=I.hok a _ ha
 obtain ⟨e,z,hd,vs,rel,o',es',ep',ho',hx,hdat,r⟩:=ok;rw [e] at ho';cases ho';obtain ⟨es,hes⟩:=hep;have q:=hdat
 rw [hes] at q;cases q;exact ⟨z,hd,vs,rel,o,_,e,hx,hdat,r⟩
theorem aJF {P:Program} {w:World} {K:PySem.W.Frag} {tg:Expr} (a it:Addr) (o:Obj) (kvs:List (Key×V)) (ep:Nat) (hep:∃ es,o.data=.dict es ep):Turn P w K tg (Itd a o kvs) [it] it (λi h=>h.IsKeyIter it a i kvs.length ep) where
 mem:=by simp
 obj:=λi h st b hb=>by
   have e:b=it:=by simpa using hb
   subst e;obtain ⟨o,e,c,d⟩:=st;exact ⟨o,e,λv z=>by rw [d] at z; cases z⟩
 keep:=λi h h' st k=>let ⟨o,ho,r⟩:=st; ⟨o,k it (by simp) o ho,r⟩
 item:=by
   intro X hP hw hK hc i pins s σ H E I hf st hg;subst hP hw hK;obtain ⟨ha,hi⟩:=hg;obtain ⟨z,hd,vs,rel,dd⟩:=aQR I ha hep;have hlv:=rel.length
   obtain ⟨f0,f1,f2,f3,f4,f5⟩:=hf it (by simp)
   obtain ⟨⟨k,v⟩,hx,hk1,_⟩:=aQM rel (Aa hi);refine wpAny_pyNext_dict_item (knd:=bK X.prog X.w) (by rw [<-hlv]; exact st) dd hx λkey h' hk st' sb=>?_
   have I1:Inv X pins σ H { s with heap:=h' }:=I.turned (t':=s.toks) (λb o hb e=>(sb.2 b hb).trans e) f0 f1 f3 f4 f5
   obtain ⟨oi,e,c,d⟩:=id st';refine ⟨key,rfl,tK (s:={ s with heap:=h' }) e c d (by decide) ⟨kV k,H,I1,dJO hk,⟨rfl,kvs[i],Aa hi,by rw [hk1]⟩,?_,λb hb=>(hf b hb).1⟩⟩
   rw [hlv];exact st'
 done:=by
   intro X hP hw hK hc i pins s σ H E I hf st hg;subst hP hw hK;obtain ⟨ha,hi⟩:=hg;obtain ⟨z,hd,vs,rel,dd⟩:=aQR I ha hep;have hlv:=rel.length
   obtain ⟨f0,f1,f2,f3,f4,f5⟩:=hf it (by simp)
   exact wpAny_pyNext_dict_end (knd:=bK X.prog X.w) (I.ok.hd hc) (by rw [<-hlv]; exact st) dd (List.getElem?_eq_none (by omega)) λh' eb=>⟨rfl,I.turned (t':=s.toks) (λb o hb e=>eb b o hb e) f0 f1 f3 f4 f5⟩
 self:=λ_ _ _ _ _ st h=>wpAny_pyIter_keyiter st h
section
variable {X:Cx} {tg:Expr}
theorem bJO {pins:Q2} {σ:St} {H:Hp} {s:Shared} {a:Addr} {kvs:List (Key×V)} (I:Inv X pins σ H s) (ha:H a=some (.dK kvs)):∃ o es ep,s.heap.get? a=some o/\o.data=.dict es ep:=by
 obtain ⟨_,_,vs,_,o,es,ep,ho,_,hd,_⟩:=cJV I.hok ha;exact ⟨o,es,ep,ho,hd⟩
theorem cQ7 {pins:Q2} {σ:St} {H:Hp} {s:Shared} {a:Addr} {o:Obj} {kvs:List (Key×V)} (I:Inv X pins σ H s) (ha:H a=some (.frz o (.dK kvs))):∃ ep,∃ es,o.data=.dict es ep:=by
 have ok:s.heap.get? a=some o/\(kvs.length<=sizeLine/\(a == sysModules)=false/\∃ vs,KV kvs vs/\s.heap.DictOf (bK X.prog X.w) a vs):=I.hok a _ ha
 obtain ⟨e,_,_,vs,_,o',es,ep,ho,_,hd,_⟩:=ok;rw [e] at ho;cases ho;exact ⟨ep,es,hd⟩
def uS (H:Hp) (a:Addr) (R:Obj->List (Key×V)->Hp->Prop):Prop:=(∃ kvs,H a=some (.dK kvs)/\∀ o,R o kvs (upd H a (.frz o (.dK kvs))))\/∃ o kvs,H a=some (.frz o (.dK kvs))/\R o kvs H
theorem walk_at {pins:Q2} {σ:St} {H:Hp} {s:Shared} {a:Addr} {R:Obj->List (Key×V)->Hp->Prop} (I:Inv X pins σ H s) (h:uS H a R) :
   ∃ o kvs H' ep,Inv X pins σ H' s/\H' a=some (.frz o (.dK kvs))/\(∃ es,o.data=.dict es ep)/\R o kvs H':=by
 rcases h with ⟨kvs,ha,q⟩ | ⟨o,kvs,ha,q⟩
 · obtain ⟨o,es,ep,ho,hd⟩:=bJO I ha;exact ⟨o,kvs,_,ep,I.freeze ha rfl ho,aG,⟨es,hd⟩,q o⟩
 · obtain ⟨ep,es,hd⟩:=cQ7 I ha;exact ⟨o,kvs,H,ep,I,ha,⟨es,hd⟩,q⟩
def cJJ (tl:TE):TI:=λσ H R=>tl σ H (iA λa H1=>uS H1 a λo kvs H2=>R (Itd a o kvs) H2)
theorem cQQ {l:Expr} {tl:TE} (hl:PE X l tl):PI X tg l (cJJ tl):=by
 intro pins s σ H R I h;refine thn (hl pins s σ H _ I h) λv s1 ⟨x,H1,I1,r1,q1⟩=>?_;unfold iA at q1;split at q1
 · cases r1;rename_i a0 _
   obtain ⟨o,kvs,H2,ep,I2,ha,hep,q⟩:=walk_at I1 q1;obtain ⟨z,hd,vs,rel,dd⟩:=aQR I2 ha hep;refine wpAny_pyIter_dict (knd:=bK X.prog X.w) hd dd ?_;refine ⟨s1.heap.objs.size,[s1.heap.objs.size],_,_,H2,rfl,I2.kept (t':=s1.toks) λb o e=>Ad _ e,aJF a0 _ o kvs ep hep,⟨_,Ar _ rfl,rfl,by rw [rel.length]; rfl⟩,λb hb=>?_,q⟩
   have e:b=s1.heap.objs.size:=by simpa using hb
   subst e;exact I2.fpOk (Ag _) (I2.hok.fresh (Ag _))
 · exact q1.elim
def isD (H:Hp) (p:Addr):Bool:=match H p with
 | some (.dK _)=>true
 | some (.dT _)=>true
 | some (.frz _ (.dK _))=>true
 | some (.frz _ (.dT _))=>true
 | _=>false
theorem dZT {H:Hp} {p:Addr} (h:isD H p=true):IsD H p:=by
 unfold isD at h;split at h
 · exact .inl ⟨_,.inl (by assumption)⟩
 · exact .inr ⟨_,.inl (by assumption)⟩
 · exact .inl ⟨_,.inr ⟨_,by assumption⟩⟩
 · exact .inr ⟨_,.inr ⟨_,by assumption⟩⟩
 · cases h
theorem uV {H:Hp} {p:Addr} {kvs:List (Key×V)} (h:H p=some (.dK kvs)):isD H p=true:=by unfold isD; rw [h]
theorem bJU {H:Hp} {p:Addr} {o:Obj} {kvs:List (Key×V)} (h:H p=some (.frz o (.dK kvs))):isD H p=true:=by unfold isD; rw [h]
end
section
variable {a:Addr} {o:Obj} {kvs:List (Key×V)} {g:TG} {tb:TS} {D:Ends} {σ:St} {H:Hp} {R:It->Hp->Prop} {tl:TE}
theorem cXB (h:tl σ H (iA λa H1=>uS H1 a λo kvs H2=>R (Itd a o kvs) H2)):cJJ tl σ H R:=h
theorem dQP {Rw:Obj->List (Key×V)->Hp->Prop} (e:H a=some (.dK kvs)) (h:∀ o,Rw o kvs (upd H a (.frz o (.dK kvs)))):uS H a Rw:=.inl ⟨kvs,e,h⟩
end
section
variable {X:Cx} {o e:Expr} {es:List Expr} {to:TE} {t:TA} {name:Str} {apos cpos:Pos} {id:String} {r:V->List V->Hp->VK->Prop}
def bQZ (r:V->List V->Hp->VK->Prop) (to:TE) (t:TA):TE:=λσ H Q=>to σ H (iA λp H1=>isD H1 p=true/\t σ H1 λxs H2=>r (.ref p) xs H2 Q)
theorem qA (slot:Slot "dict" name id) (hty:typeOf (.builtin id)=pure (.type "method_descriptor")) (hm:MtR X id r) (ho:PE X o to) (ha:PA X (e::es) t)
   (hbase:attributeBase o name X.env (eval o X.env)=eval o X.env:=by rfl)
   (hfew:((backTo cpos (starEach (e::es) X.env)).all (λx=>!x.1) && (backToKw cpos (keywordEach [] X.env)).all (λx=>x.1.isSome)
     && decide ((e::es).length+([]:List Keyword).length+(if ([]:List Keyword).isEmpty then 0 else 1)<30))=true:=by rfl)
   (hline:(apos.endLine == cpos.line)=true:=by rfl) (hs:starEach (e::es) X.env=(false,eval e X.env)::starEach es X.env:=by rfl) (hplain:(backTo cpos (starEach es X.env)).any (·.1)=false:=by rfl) :
   PE X (.Call (.Attribute o name apos) (e::es) [] cpos) (bQZ r to t):=by
 intro pins s σ H Q I h;refine Gf hbase hfew hline rfl (thn (ho pins s σ H _ I h) λv s1 ⟨x,H1,I1,r1,q⟩=>?_);unfold iA at q;split at q
 · obtain ⟨hd,q1⟩:=q;obtain ⟨h1,h2,_⟩:=dQ0 I1 (dZT hd);cases _root_.id r1;refine ⟨"dict",_,PySem.F.plainAttrs_dict,slot,hty,h1,h2,?_⟩;have hA:=ha cpos pins s1 σ H1 _ I1 q1
   rw [hs] at hA ⊢;refine Gg (by show (false || (backTo cpos (starEach es X.env)).any (·.1))=false; rw [hplain] <;> rfl) (Fk ?_)
   exact thn hA λus s2 ⟨vs,H2,I2,r2,q2⟩=>hm pins s2 σ H2 _ vs _ us Q I2 r1 r2 q2
 · exact q.elim
def eXO:V->List V->Hp->VK->Prop:=λx vs H Q=>∃ a y z o,x=.ref a/\vs=[y,z]/\DGet H a y o/\Q (o.getD z) H
theorem bXR (hu:X.A.units+1<cLine):MtR X "dict.get" eXO:=by
 intro pins s σ H x vs v us Q I rx rv h;obtain ⟨a,y,z,ov,rfl,rfl,g,q⟩:=h;cases rx;obtain ⟨u,w',rfl,ru,rw'⟩:=aZW rv;exact dZO hu I g ru rw' λw1 s1 I1 r1=>⟨_,H,I1,r1,q⟩
def bXH:V->List V->Hp->VK->Prop:=λx vs H Q=>∃ (p:Addr) (ys:List Str) (z:Str),x=.ref p/\vs=[.str z]/\rdL H p=some (ys.map V.str)/\Q (.int ((ys.countP (· == z):Nat):Int)) H
theorem pA (z:Str):∀ ys:List Str,countIn (.str z) (ys.map PyData.str)=((ys.countP (· == z):Nat):Int)
 | []=>rfl
 | y::r=>by
   have ih:=pA z r
   rw [Aw];unfold countIn;rw [ih,List.countP_cons];by_cases e:y=z
   · subst e;simp [same];omega
   · simp [same,e]
theorem cZM:MtR X "list.count" bXH:=by
 intro pins s σ H x vs v us Q I rx rv h;obtain ⟨p,ys,z,rfl,rfl,hp,q⟩:=h;cases rx;obtain ⟨u,rfl,ru⟩:=rv.one;obtain ⟨t,rfl⟩:=ru;obtain ⟨its,r,pl,_⟩:=I.list (bC hp);exact count_list_strs pl.isList (rK r) (by rw [pA]; exact ⟨.int _,H,I.tok _,⟨_,rfl⟩,q⟩)
def eQM (x y:V) (H:Hp) (Q:VK):Prop:=∃ a v,x=.ref a/\DGet H a y (some v)/\Q v H
def cJ3 (D:Ends) (σ:St) (x y v:V) (H:Hp):Prop:=∃ a H4,x=.ref a/\DPut H a y v H4/\D.nx σ H4
end
section
variable {σ:St} {H:Hp} {Q:VK} {D:Ends} {a:Addr} {kvs:List (Key×V)} {z:Str} {v w:V} {to td ty tv:TE} {t:TA} {r:V->List V->Hp->VK->Prop}
theorem cXR (h:to σ H (iA λp H1=>isD H1 p=true/\t σ H1 λxs H2=>r (.ref p) xs H2 Q)):bQZ r to t σ H Q:=h
theorem dJ9 {P:Prop} (e:isD H a=true) (h:P):isD H a=true/\P:=⟨e,h⟩
theorem bJK (e:Rd H a (.dK kvs)) (h:Q ((eC kvs (Sum.inr z)).getD w) H):eXO (.ref a) [.str z,w] H Q:=⟨a,.str z,w,_,rfl,rfl,.inl ⟨kvs,.inr z,e,rfl,rfl⟩,h⟩
theorem cX6 {p:Addr} {ys:List Str} (e:rdL H p=some (ys.map V.str)) (h:Q (.int ((ys.countP (· == z):Nat):Int)) H):bXH (.ref p) [.str z] H Q:=⟨p,ys,z,rfl,rfl,e,h⟩
theorem dZB (h:∀ p,H p=none->Q (.ref p) (upd H p (.dK []))):bJY σ H Q:=h
theorem dJ8 (h:td σ H λx H1=>ty σ H1 λy H2=>eQM x y H2 Q):cJQ td ty σ H Q:=h
theorem bZU (e:Rd H a (.dK kvs)) (l:eC kvs (Sum.inr z)=some v) (h:Q v H):eQM (.ref a) (.str z) H Q:=⟨a,v,rfl,.inl ⟨kvs,.inr z,e,rfl,l.symm⟩,h⟩
theorem dZQ (h:tv σ H λv H1=>td σ H1 λx H2=>ty σ H2 λy H3=>cJ3 D σ x y v H3):dQD td ty tv D σ H:=h
theorem aXW (e:H a=some (.dK kvs)) (l:kvs.length<sizeLine) (h:D.nx σ (upd H a (.dK (gA kvs (Sum.inr z) v)))):cJ3 D σ (.ref a) (.str z) v H:=⟨a,_,rfl,.inl ⟨kvs,.inr z,e,rfl,l,rfl⟩,h⟩
end
end L2
set_option maxHeartbeats 4000000
namespace L2
open PySem PySem.Spec PyProof.Rows
open PySem.AutoSeq1 (wpAny_loadPart')
open PySem.MeetsSeq PySem.MeetsSeq2 PySem.MeetsSeq3
def EqW (P:Program) (w:World) (A:Around) (s:Shared) (u v:Value):Prop:=∀ (E:Value->Shared->Prop) (Q:Bool->Shared->Prop),Q true s->wpAny (model P w) A (eqBool u v) Q E s
section
variable {P:Program} {w:World} {A:Around} {E:Q0} {s:Shared} {l b:Addr} {xs ys:Array Value}
theorem EqW.same (u:Value):EqW P w A s u u:=λE Q hq=>SeqAt.EqAt.same u P w E Q hq
end
def DEq (kvs kws:List (Key×V)):Prop:=kvs.length=kws.length/\∀ kv∈kvs,bO kv.2=true/\eC kws kv.1=some kv.2
def Alw (H:Hp):Nat->V->V->Prop
 | 0,x,y=>x=y/\bO x=true
 | n+1,x,y=>(x=y/\bO x=true)\/∃ p q,x=.ref p/\y=.ref q/\((∃ xs ys,rdL H p=some xs/\rdL H q=some ys/\xs.length=ys.length/\∀ (j:Nat) x' y',xs[j]?=some x'->ys[j]?=some y'->Alw H n x' y')\/∃ kvs kws,Rd H p (.dK kvs)/\Rd H q (.dK kws)/\DEq kvs kws)
theorem Alw.flat {H:Hp} {n:Nat} {x:V} (h:bO x=true):Alw H n x x:=by
 cases n with
 | zero=>exact ⟨rfl,h⟩
 | succ n=>exact .inl ⟨rfl,h⟩
theorem Alw.lst {H:Hp} {n:Nat} {p q:Addr} {xs ys:List V} (hp:rdL H p=some xs) (hq:rdL H q=some ys) (hl:xs.length=ys.length) (h:∀ (j:Nat) x y,xs[j]?=some x->ys[j]?=some y->Alw H n x y):Alw H (n+1) (.ref p) (.ref q):=.inr ⟨p,q,rfl,rfl,.inl ⟨xs,ys,hp,hq,hl,h⟩⟩
theorem Alw.flats {H:Hp} {n:Nat} {xs:List V} (f:xs.all bO=true):∀ (j:Nat) x y,xs[j]?=some x->xs[j]?=some y->Alw H n x y:=λj x y hx hy=>by
 rw [hx] at hy;cases hy;exact .flat (As.mp f x (Ap hx))
section
variable {X:Cx}
end
section
variable {X:Cx} {e:Expr} {te:TE} {p2 pos pu pc:Pos} {j:Nat}
end
theorem Room.u1 {k:Nat} {A:Around} (r:Room k A):A.units+1<cLine:=by have:=r.un; omega
section
variable {X:Cx} {pu pc:Pos} {j:Nat}
end
end L2
set_option maxHeartbeats 4000000
namespace L2
open PySem PySem.Spec PyProof.Rows
open PySem.AutoSeq1 (wpAny_loadPart')
section
variable {prog:Program} {w:World} {A:Around} {E:Q0} {s:Shared}
theorem cXF:typeLookup (.type "list") "keys"=pure none:=by rw [typeLookup_type,builtinLookup_eq_fast]; kernel_rfl
theorem aJK {a:Addr} {xs:Array Value} {k:Nat} {sl:Array (Option Value)} {Q:Option Value->Shared->Prop} (hx:s.heap.get? a=some ⟨.type "list",none,.seq xs k,sl⟩) (hA:A.handled=none)
   (h:∀ h' tk,(∀ b o,s.heap.get? b=some o->h'.get? b=some o)->Q none { s with heap:=h',toks:=tk }):wpAny (model prog w) A (getAttr? (.ref a) "keys") Q E s:=by
 obtain ⟨hp,g,d,tk,os⟩:=s;have hT:∀ tk',(⟨hp,g,d,tk',os⟩:Shared).TypeIs (.ref a) "list" := λ_=>⟨_,hx,rfl⟩
 have f1:=sub_AttributeError
 have f3:=PySem.F.slot_list_getattribute.lookup
 have f4:=PySem.F.slot_list_getattribute.bind (.ref a)
 have f5:=am_list_getattr_none
 unfold getAttr? getAttrBy? getAttrBy;repeat (any_goals (first | assumption | exact hT _ | ((with_reducible show wpAny _ _ (call (Value.builtin "list.__getattribute__") _ _) _ _ _); refine El PySem.F.slot_list_getattribute (hT _) am_entry_list_getattribute (PySem.F.args_list_getattribute_2 _ _) (meets_getattribute_miss_list a xs k sl "keys" _ cXF (by decide +kernel) (by decide)) ⟨hx,hA,λh' tk' e hx'=>?_⟩) | wp_step))
 obtain ⟨t',u',he⟩:=hx'.there;show wpAny _ _ (getattributeRaised _ _ _ _ _ _ _) _ _ _
 unfold getattributeRaised;repeat (any_goals (first | assumption | wp_step))
 exact h _ _ hx'.keeps
theorem bQL {t:Addr} {xs:Array Value} {Q:Option (Array Value)->Shared->Prop} (h:s.heap.IsTuple t xs) (q:Q (some xs) s):wpAny (model prog w) A (seqItems? (.ref t)) Q E s:=by
 obtain ⟨o,ho,hc,n,hd⟩:=h;unfold seqItems?;refine Ac (wpAny_load ho ?_);rw [hd];exact Ao q
theorem fJ:plainId "dict.update.loop"=true:=by decide +kernel
theorem kU:entryFor table "dict.update.loop"=some Builtin.«dict.update.loop» := entryFor_of_tree (by kernel_rfl)
theorem bZD {P:Program} {w:World} {K:Type} [DecidableEq K] {knd:PySem.KeyKind P w K} (d I l:Addr) (its:Array Value) (ps:List (K×Value)) (hpl:ps.length=its.size) (hdI:d≠I) (hlI:l≠I) (hld:l≠d) (k:Nat) :
   ∀ i:Nat,its.size - i=k->i<=its.size->∀ kvs:List (K×Value),kvs.length+k<=sizeLine->MeetsIn P w (Builtin.«dict.update.loop» ⟨[.ref d,.ref I,rawInt i,.none],[]⟩)
     (λA R s=>A.handled=none/\s.heap.IsListIter I l i/\s.heap.IsList l its/\s.heap.DictOf knd d kvs/\
       (∀ j (h:j<its.size),∃ t key val k',its[j]=.ref t/\t≠I/\t≠d/\s.heap.IsTuple t #[key,val]/\ps[j]?=some (k',val)/\knd.is k' key=true)/\
       ∀ h' tk,(∀ b o,b≠I->b≠d->s.heap.get? b=some o->h'.get? b=some o)->h'.DictOf knd d (merged kvs (ps.drop i))->R (.ok (.ret .none)) { s with heap:=h',toks:=tk }):=by
 induction k with
 | zero=>
   intro i hk hi kvs hz A R s h;obtain ⟨hA,hit,hl,hd,hp,h⟩:=h;unfold Builtin.«dict.update.loop»;dsimp only [rawInt];refine wpAny_bind (wpAny_pyNext_list_end (show A.in1.handled=none from hA) hit hl (by simp; omega) λh' eb=>?_)
   dsimp only;unfold Builtin.Dict.addKeywords;refine Ac (Ao (Ao ?_));refine h h' s.toks (λb o hb _ e=>eb b o hb e) ?_;obtain ⟨o,es,ep,ho,r⟩:=hd;rw [List.drop_of_length_le (by omega)]
   exact ⟨o,es,ep,eb d o hdI ho,r⟩
 | succ k ih=>
   intro i hk hi kvs hz A R s h;obtain ⟨hA,hit,hl,hd,hp,h⟩:=h;unfold Builtin.«dict.update.loop»;dsimp only [rawInt];have hlt:i<its.size:=by omega
   obtain ⟨t,key,val,k',et,htI,htd,hT,hps,hk'⟩:=hp i hlt;refine wpAny_bind (wpAny_pyNext_list_item hit hl (x:=its[i]) (by simp [hlt]) λh' st' sb=>?_)
   dsimp only;rw [et];have hT':h'.IsTuple t #[key,val]:=by
     obtain ⟨o,ho,r⟩:=hT;exact ⟨o,(sb.2 t htI).trans ho,r⟩
   have hd':h'.DictOf knd d kvs:=by
     obtain ⟨o,es,ep,ho,r⟩:=hd;exact ⟨o,es,ep,(sb.2 d hdI).trans ho,r⟩
   refine Ac (Bz (Ac (wpAny_tryCatch ?_)));unfold Builtin.Dict.pairItems;refine Ac (wpAny_typeOf (T := "tuple") (s:={ s with heap:=h' }) (by obtain ⟨o,ho,hc,_⟩:=id hT'; exact ⟨o,ho,hc⟩) ?_)
   rw [if_pos (by decide)]
   obtain ⟨o,ho,hc,n,hdt⟩:=id hT';refine Ac (bQL (s:={ s with heap:=h' }) hT' ?_)
   refine Ao ?_;dsimp only [Option.getD];refine Bz (wpAny_dictSet_pairs (s:={ s with heap:=h' }) (knd:=knd) hk' hd' (λh2 hd2 sb2=>?_) (by omega))
   refine Ao ?_;rw [show ((i:Int)+1)=((i+1:Nat):Int) by push_cast; rfl]
   refine ⟨plainId_quiet fJ _,codeAny_builtin kU ?_⟩;rw [Around.under_plainId fJ _];have hst:(stored kvs k' val).length<=kvs.length+1:=by
     unfold stored;split
     · rw [Ab]; omega
     · rw [Aj]; exact Ag _
   refine ih (i+1) (by omega) (by omega) (stored kvs k' val) (by omega) A R _ ⟨hA,?_,?_,hd2,λj hj=>?_,λh3 tk hk3 hd3=>?_⟩
   · obtain ⟨oi,hoi,r⟩:=st';exact ⟨oi,(sb2.2 I (Ne.symm hdI)).trans hoi,r⟩
   · obtain ⟨ol,hol,r⟩:=hl;exact ⟨ol,(sb2.2 l hld).trans ((sb.2 l hlI).trans hol),r⟩
   · obtain ⟨t2,key2,val2,k2,e2,n2,n3,⟨o2,ho2,r2⟩,p2,q2⟩:=hp j hj;exact ⟨t2,key2,val2,k2,e2,n2,n3,⟨o2,(sb2.2 t2 n3).trans ((sb.2 t2 n2).trans ho2),r2⟩,p2,q2⟩
   · refine h h3 tk (λb o hb1 hb2 e=>hk3 b o hb1 hb2 ((sb2.2 b hb2).trans ((sb.2 b hb1).trans e))) ?_;have hdr:ps.drop i=(k',val)::ps.drop (i+1):=by
       have hi':i<ps.length:=by omega
       rw [List.drop_eq_getElem_cons hi'];have:=Aa hi'
       rw [hps] at this;rw [<-Bm this]
     rw [hdr];exact hd3
theorem pC {K:Type} [DecidableEq K] {knd:PySem.KeyKind prog w K} {l:Addr} {its:Array Value} {n:Nat} {ps:List (K×Value)} {Q:Q0} (hx:s.heap.get? l=some ⟨.type "list",none,.seq its n,#[]⟩) (hA:A.handled=none) (hpl:ps.length=its.size) (hz:its.size<=sizeLine)
   (hp:∀ j (h:j<its.size),∃ t key val k',its[j]=.ref t/\s.heap.IsTuple t #[key,val]/\ps[j]?=some (k',val)/\knd.is k' key=true)
   (h:∀ h' tk,h'.DictOf knd s.heap.objs.size (merged [] ps)->(∀ b o,s.heap.get? b=some o->h'.get? b=some o)->Q (.ref s.heap.objs.size) { s with heap:=h',toks:=tk }) :
   wpAny (model prog w) A (call (.type "dict") [.ref l]) Q E s:=by
 refine callType_codes (Q₁:=λob s1=>ob=.ref s.heap.objs.size/\s1={ s with heap:=s.heap.push { cls:=.type "dict",data:=.dict #[] } }) PySem.F.kt_called_dict (PySem.F.kt_typeCall_dict_1 _) PySem.F.entry_dict_init (kt_code_dict_new _ ⟨rfl,rfl⟩) ?_
 rintro ob s1 ⟨rfl,rfl⟩;have hnw:(s.heap.push { cls:=.type "dict",data:=.dict #[] }).DictOf knd s.heap.objs.size []:=Heap.DictOf.new s.heap
 have hlx:(s.heap.push { cls:=.type "dict",data:=.dict #[] }).get? l=some ⟨.type "list",none,.seq its n,#[]⟩:=Ad _ hx
 have hlt:l<s.heap.objs.size:=An hx
 refine ⟨hnw.typeIs,PySem.F.args_dict_init_2 _ _,?_⟩;unfold Builtin.«dict.__init__» Builtin.Dict.selfAndRest;refine Ac (Ac (wpAny_notOrdered_dict hnw.typeIs (show wpAny _ _ (pure (s.heap.objs.size,[Value.ref l])) _ _ _ from Ao ?_)));show wpAny _ _ (Builtin.Dict.updateFrom "dict.__init__" s.heap.objs.size (.ref l) [] .none) _ _ _
 unfold Builtin.Dict.updateFrom;refine Ac (wpAny_typeOf (T := "list") ⟨_,hlx,rfl⟩ ?_);rw [if_pos (by decide)]
 refine Ac (aJK (s:={ s with heap:=s.heap.push { cls:=.type "dict",data:=.dict #[] } }) hlx (show A.in1.in1.handled=none from hA) λh1 tk1 k1=>?_)
 rw [if_pos (show (none:Option Value).isNone=true from rfl)];refine Ac (wpAny_rule ?_);have hl1:h1.IsList l its:=⟨_,k1 _ _ hlx,rfl,n,rfl⟩
 refine Ac (Ej (s:={ s with heap:=h1,toks:=tk1 }) hl1 ?_)
 refine Ao ⟨plainId_quiet fJ _,codeAny_builtin kU ?_⟩;rw [Around.under_plainId fJ _];have hd1:h1.DictOf knd s.heap.objs.size []:=by
   obtain ⟨o,es,ep,ho,r⟩:=hnw;exact ⟨o,es,ep,k1 _ _ ho,r⟩
 have hdl:s.heap.objs.size<h1.objs.size:=by
   obtain ⟨o,_,_,ho,_⟩:=hd1;exact An ho
 have kk:∀ b o,s.heap.get? b=some o->(h1.push { cls:=.type "list_iterator",data:=.fields #[.ref l,.int 0 0] }).get? b=some o:=λb o e=>Ad _ (k1 _ _ (Ad _ e))
 refine bZD (knd:=knd) s.heap.objs.size h1.objs.size l its ps hpl (Ay hdl) (Ay (Gj hlt hdl)) (Ay hlt) _ 0 rfl (Dv _) [] (by show 0+its.size<=_; omega) A.in1 _ _ ⟨hA,⟨_,Ar _ rfl,rfl,rfl⟩,hl1.push _,hd1.push _,λj hj=>?_,λh' tk k2 d2=>⟨rfl,?_⟩⟩
 · obtain ⟨t,key,val,k',e,⟨ot,hot,r⟩,p,q⟩:=hp j hj;have ltt:=An hot
   exact ⟨t,key,val,k',e,Ay (Gj ltt hdl),Ay ltt,⟨ot,kk _ _ hot,r⟩,p,q⟩
 · exact h h' tk d2 λb o e=>k2 b o (Ay (Gj (An e) hdl)) (Ay (An e)) (kk b o e)
end
section
variable {X:Cx}
def pS (H:Hp) (qs:List Addr) (kvs:List (Key×V)):Prop:=qs.length=kvs.length/\∀ (j:Nat) q kv,qs[j]?=some q->kvs[j]?=some kv->H q=some (.tup [kV kv.1,kv.2])
def qV:List V->Hp->VK->Prop:=λxs H Q=>∃ (p:Addr) (qs:List Addr) (kvs:List (Key×V)),xs=[.ref p]/\H p=some (.lst (qs.map V.ref))/\pS H qs kvs/\∀ r,H r=none->Q (.ref r) (upd H r (.dK (mJ [] kvs)))
theorem uC {X:Cx} {pins:Q2} {σ:St} {H:Hp} {s:Shared} (I:Inv X pins σ H s):∀ (kvs:List (Key×V)) (qs:List Addr),pS H qs kvs->∃ rs:List (Key×Value),KV kvs rs/\∀ (j:Nat) q,qs[j]?=some q->∃ key val k',s.heap.IsTuple q #[key,val]/\rs[j]?=some (k',val)/\(bK X.prog X.w).is k' key=true
 | [],qs,h=>⟨[],.nil,λj q hq=>by
     have:=(Ae.mp hq).1
     rw [h.1] at this;exact absurd this (Fx _)⟩
 | kv::r,qs,h=>by
   cases qs with
   | nil=>exact absurd h.1 (by simp)
   | cons q qr=>
     obtain ⟨rs,rel,hr⟩:=uC I r qr ⟨by have:=h.1; simpa using this,λj q' kv' hq hk=>h.2 (j+1) q' kv' (by simpa using hq) (by simpa using hk)⟩
     have ht:=h.2 0 q kv rfl rfl
     obtain ⟨its,rv,pl,_⟩:=I.tuple (SqT.of (K:=X.K) ht);obtain ⟨key,val,rfl,r1,r2⟩:=aZW rv;refine ⟨(kv.1,val)::rs,.cons ⟨rfl,r2⟩ rel,λj q' hq=>?_⟩;cases j with
     | zero=>
       cases hq;exact ⟨key,val,kv.1,pl,rfl,xR r1⟩
     | succ j=>exact hr j q' (by simpa using hq)
theorem wY (hc:X.calm=true):CallR X (.type "dict") qV:=by
 intro pins s σ H xs us Q I r h;obtain ⟨p,qs,kvs,rfl,hp,pa,q⟩:=h;obtain ⟨u,rfl,ru⟩:=eK r;cases ru;obtain ⟨hz,its,n,rv,hx⟩:(qs.map V.ref).length<=sizeLine/\∃ (its:List Value) (n:Nat),Vals (qs.map V.ref) its/\s.heap.get? p=some { cls:=.type "list",data:=.seq its.toArray n }:=I.hok p _ hp;obtain ⟨rs,rel,hr⟩:=uC I kvs qs pa;have hl:=rv.length
 have hrl:=rel.length
 have hpk:=pa.1
 rw [Ab] at hl hz;refine pC (knd:=bK X.prog X.w) (ps:=rs) hx (I.ok.hd hc) (by rw [Av]; omega) (by rw [Av]; omega) (λj hj=>?_) (λh' tk dd kk=>?_)
 · have hj':j<its.length:=by simpa using hj
   have hjq:j<qs.length:=by omega
   obtain ⟨u,hu,ru⟩:=rv.get (show (qs.map V.ref)[j]?=some (.ref qs[j]) by rw [Af,Aa hjq]; rfl)
   obtain ⟨key,val,k',a1,a2,a3⟩:=hr j _ (Aa hjq);rw [Aa hj'] at hu;have ee:=Bm hu
   exact ⟨qs[j],key,val,k',by simpa using ee.trans ru,a1,a2,a3⟩
 · refine ⟨.ref s.heap.objs.size,_,I.laid (a:=s.heap.objs.size) (o:=.dK (mJ [] kvs)) (t':=tk) kk (Ag _) (bJI (by have:=lT kvs []; rw [List.length_nil] at this; omega) (Cf.mpr (Ne.symm (Ay I.big))) (KV.merge rel .nil) dd),rfl,q _ (I.hok.fresh (Ag _))⟩
theorem yX {p:Addr} {qs:List Addr} {kvs:List (Key×V)} {H:Hp} {Q:VK} (hp:H p=some (.lst (qs.map V.ref))) (pa:pS H qs kvs) (h:∀ r,H r=none->Q (.ref r) (upd H r (.dK (mJ [] kvs)))):qV [.ref p] H Q:=⟨p,qs,kvs,rfl,hp,pa,h⟩
theorem vB:∀ {xs:List V} {us:List Value},us.length=xs.length->(∀ (j:Nat) x u,xs[j]?=some x->us[j]?=some u->RelV x u)->Vals xs us
 | [],[],_,_=>.nil
 | x::r,u::t,hl,h=>.cons (h 0 x u rfl rfl) (vB (by simpa using hl) λj x' u' a b=>h (j+1) x' u' (by simpa using a) (by simpa using b))
 | [],_::_,hl,_=>absurd hl (by simp)
 | _::_,[],hl,_=>absurd hl (by simp)
end
end L2
set_option maxHeartbeats 4000000
namespace L2
open PySem PySem.Spec PyProof.Rows PySem.W
section
variable {prog:Program} {w:World} {A:Around} {E:Q0} {s:Shared} {K:Frag} {x D:Addr} {ox:Obj} {od:Option Obj}
theorem cZI {name:Str} {v:Value} {expr:Bool} {Q:Q0} (Z:ExK K D) (X:K.In s.heap) (I:InstAt s.heap x ox D od) (hf:findObj K D od name=some (.value v)) (hh:handedIn v=true) (h:Q v { s with toks:=s.toks+1 }) :
   wpAny (model prog w) A (getAttr (.ref x) name expr) Q E s:=by
 obtain ⟨hp,g,d,t,os⟩:=s;have L0:=I.type (M:=model prog w)
 have L1:=looks_findIn (M:=model prog w) X Z.ga
 have L2:=looks_findIn (M:=model prog w) X Z.gh
 have L3:=looks_find (M:=model prog w) X I hf
 unfold getAttr getAttrBy;refine Ac (wpAny_mkText (Bz (Ac (L0.at (Ac (L1.at ?_))))));have ne:(Value.builtin "BaseException.__getattribute__" == Value.builtin "object.__getattribute__")=false:=by decide +kernel
 have fb:=F.excAttr_ValueError.ga.bind (.ref x)
 dsimp only;rw [ne,Bool.and_false,if_neg Al];unfold getAttrByItsOwn hookBefore;rw [if_pos (show onTheHeap (Value.ref D)=true from rfl)];refine Ac (L2.at (Ac (wpAny_attempt (Bz ?_))));unfold callGetattribute boundAndCalled;rw [if_neg (by rw [show onTheHeap (Value.builtin "BaseException.__getattribute__")=false from rfl,Bool.and_false]; exact Al)]
 refine Ac (wpAny_of_eq fb ?_);refine Ek (Dw F.excAttr_ValueError.ga.plain F.entry_bexc_ga (uN Z X I ?_));unfold Builtin.«object.__getattribute__»;refine Ac (Ao (Ac (Ao (Ac (L0.at (Ac (L3.at ?_)))))));refine Ao ?_;exact handed_on hh h
theorem bZH {e t0:Addr} {oe:Obj} {vs:Array Value} {rest:List Value} {Q:Q0} (Z:ExK K D) (X:K.In s.heap) (I:InstAt s.heap e oe D od) (hb:PySem.W.subIn K (.ref D) (.type "ValueError")=some true) (hd:oe.data=.fields vs) (h0:vs[0]?=some (.ref t0)) (hr:rest.length<=sizeLine)
   (h:Q .none { s with heap:=(s.heap.push { cls:=.type "tuple",data:=.seq rest.toArray }).update e (Obj.mapFields (·.setIfInBounds 0 (.ref s.heap.objs.size))) }) :
   wpAny (model prog w) A (call (.builtin "ValueError.__init__") (.ref e::rest)) Q E s:=by
 have he:=I.at_
 obtain ⟨cd,hc,_⟩:=any_some Z.cls;have FB:=By
 have L0:=I.type (M:=model prog w)
 have L1:=looks_subIn (M:=model prog w) X hb
 refine Ek (Dw FB.init.plain FB.initEntry ?_);have ck:∀ (Q:Unit->Shared->Prop) (E:Q0) (B:Around),Q () s->wpAny (model prog w) B (checkBuiltinCall "ValueError.__init__" ⟨.ref e::rest,[]⟩) Q E s:=λQ E B hq=>by
   simp only [checkBuiltinCall,FB.initKind,FB.initSplit,FB.initRow];refine Ac ((L0.andThen L1).at ?_);have hst:=FB.noStar
   have sg:∀ (a b:String) (n:Nat),Bind.check ⟨.positional, "*", "ValueError",.self,[⟨"args",.varPos,false⟩]⟩ a b n (List.map (λx=>x.fst) ({ pos:=Value.ref e::rest }:Args).kw)=pure ():=λa b n=>check_star_args _ _ _ _ _ _
   repeat (first | wp_step)
   rw [I.cls];refine Ac ((looks_clsIn X hc).at (Ao ?_));repeat (first | wp_step)
   refine wpAny_onRaise ?_;rw [sg];exact Ao hq
 refine ck _ _ _ ?_;have hs0:0<vs.size:=(Bu.mp h0).1
 have hg:=Ad (h:=s.heap) { cls:=.type "tuple",data:=.seq rest.toArray } he
 unfold Builtin.«BaseException.__init__» newTuple Builtin.BaseException.bexcPut;dsimp only;rw [if_neg (by simp)]
 refine Ac (Gh (Ac (Ac (Ew hg hd h0 (Ac (Fl hg hd hs0 (wpAny_letGo (Ao h))))))) (by show rest.toArray.size<=sizeLine; rw [Av]; exact hr))
def aQ0 (K:Frag) (D:Addr):Option (List Value):=(clsIn K D).map (·.mro)
theorem wM {T dx:Addr} {name:Str} {v:Value} {h1:Heap} {m:Q3} {ns:List Str} {Q:Unit->Shared->Prop} (Z:ExK K D) (X:K.In s.heap) (I:InstAt s.heap x ox D od)
   (hs:findIn K (.ref D) "__setattr__"=some (some (.builtin "object.__setattr__"))) (hm:aQ0 K D=some [.ref D,.ref T,.type "ValueError",.type "Exception",.type "BaseException",.type "object"]) (hna:findIn K (.ref D) name=some none)
   (hi:∀ (B:Around) (Q':Option Addr->Shared->Prop) (E':Q0),Q' (some dx) { s with heap:=h1,toks:=s.toks+1 }->wpAny (model prog w) B (instanceDict x true) Q' E' { s with toks:=s.toks+1 })
   (hn:h1.Ns1 dx m) (hw:Within m ns) (hz:ns.length<sizeLine)
   (h:∀ h' tk',h'.Ns1 dx (λy=>if y=name then some v else m y)->Heap.SameBut dx h1 h'->Q () { s with heap:=h',toks:=tk' }) :
   wpAny (model prog w) A (setAttr (.ref x) name v) Q E s:=by
 obtain ⟨cd,hc,hd'⟩:=any_some Z.cls;have hmr:cd.mro=[.ref D,.ref T,.type "ValueError",.type "Exception",.type "BaseException",.type "object"]:=by
   unfold aQ0 at hm;rw [hc] at hm;exact Bm hm
 have SF:=PySem.F.store_ValueError
 have sub:Looks (model prog w) s.heap (isInstance (.ref x) (.type "object")) true:=I.type.andThen (looks_mroIn X Z.mo)
 have hmm:Looks (model prog w) s.heap (mroOf (.ref D)) cd.mro:=(looks_clsIn X hc).andThen .now
 have hx:=I.at_
 refine set_plain X I hs ?_;refine Dw SF.slot.plain SF.entry (@check_slot (model prog w) _ _ { s with toks:=s.toks+1 } "object.__setattr__" "object" "__setattr__" (.ref x) [.str name s.toks,v] [] _ SF.kind SF.split sub (SF.args (.ref x) (.str name s.toks) v) ?_)
 rw [osa_eq,refuse_eq];refine Ac (Ac (I.type.here (s:={ s with toks:=s.toks+1 }) (Ac (hmm.here (s:={ s with toks:=s.toks+1 }) ?_))))
 rw [hmr,refuseLoop_ref,refuseLoop_ref,SF.passes];refine Ao (Ac (I.type.here (s:={ s with toks:=s.toks+1 }) (Ac ((looks_findIn X hna).here (s:={ s with toks:=s.toks+1 }) (Ac (Ao ?_))))))
 show wpAny (model prog w) A.in1 (Builtin.ObjectAttr.storeInOwnDict (Value.ref x) (Value.ref D) (Value.str name s.toks) name v false) _ _ _
 unfold Builtin.ObjectAttr.storeInOwnDict;refine Ac (Ao ?_);rw [if_neg (show ¬ ((Value.ref D == Value.type "module")=true) by simp)]
 unfold Builtin.ObjectAttr.ownDictForStores;refine Ac (hi _ _ _ ?_);show wpAny (model prog w) A.in1 (Builtin.ObjectAttr.storeInDict dx (Value.str name s.toks) name v) _ _ _
 unfold Builtin.ObjectAttr.storeInDict Builtin.ObjectAttr.newKeyGuard;refine Ac (Ao (Ac (wpAny_nsSet1 hn λh' hn' sb=>?_)));obtain ⟨oD,esD,epD,hoD,hdD,hcD⟩:=hn'.count (Within.cons name v hw);refine Ac (wpAny_lookBehind hoD (by rw [hdD]; exact pastItsLine_dict (Bv hcD (by rw [Be]; omega))) ?_)
 exact Ao (h h' _ hn' sb)
theorem bQ6 {T:Addr} {name:Str} {v:Value} {vs:Array Value} {Q:Unit->Shared->Prop} (Z:ExK K D) (X:K.In s.heap) (I:InstAt s.heap x ox D none) (hda:ox.data=.fields vs) (hdn:ox.dict=none)
   (hs:findIn K (.ref D) "__setattr__"=some (some (.builtin "object.__setattr__"))) (hm:aQ0 K D=some [.ref D,.ref T,.type "ValueError",.type "Exception",.type "BaseException",.type "object"]) (hna:findIn K (.ref D) name=some none)
   (h:∀ h' tk',h'.get? x=some { ox with dict:=some s.heap.objs.size }->h'.Ns1 s.heap.objs.size (λy=>if y=name then some v else none)->(∀ b o,b≠x->s.heap.get? b=some o->h'.get? b=some o)->Q () { s with heap:=h',toks:=tk' }) :
   wpAny (model prog w) A (setAttr (.ref x) name v) Q E s:=by
 obtain ⟨cd,hc,hd'⟩:=any_some Z.cls;have hx:=I.at_
 have hx1:(s.heap.push { cls:=.type "dict",data:=.dict #[] }).get? x=some ox:=Ad _ hx
 have hxs:x≠s.heap.objs.size:=Ay (An hx)
 have hgd:((s.heap.push { cls:=.type "dict",data:=.dict #[] }).update x λo=>{ o with dict:=some s.heap.objs.size }).get? s.heap.objs.size=some { cls:=.type "dict",data:=.dict #[] } :=
   (Heap.get?_update_ne _ _ _ _ hxs.symm).trans (Heap.get?_push_at rfl rfl)
 have hnd:((s.heap.push { cls:=.type "dict",data:=.dict #[] }).update x λo=>{ o with dict:=some s.heap.objs.size }).Ns s.heap.objs.size (λ_=>none) :=
   ⟨_,#[],_,hgd,rfl,λe he=>absurd he (by simp),λ_=>rfl⟩
 have hxu:((s.heap.push { cls:=.type "dict",data:=.dict #[] }).update x λo=>{ o with dict:=some s.heap.objs.size }).get? x=some { ox with dict:=some s.heap.objs.size }:=by
   refine Heap.get?_update_self _ hx1 ?_;obtain ⟨a,b,c,d⟩:=ox;cases hda;rfl
 refine wM Z X I hs hm hna (λB Q' E' q=>?_) (Heap.Ns1.of_empty hnd) Within.nil (by rw [List.length_nil,Gb]; omega) λh' tk' n sb=>h h' tk' ((sb.2 x hxs).trans hxu) n λb o hb e=>
   (sb.2 b (Ay (An e))).trans ((Heap.get?_update_ne _ _ _ _ hb).trans (Ad _ e))
 unfold instanceDict;refine Ac (wpAny_loadPart hx ?_);rw [I.cls];refine Ac ((looks_clsIn X hc).here (s:={ s with toks:=s.toks+1 }) ?_)
 rw [hd',hdn,hda,if_neg (show ¬ ((!true)=true) by decide)]
 dsimp only;rw [if_neg (show ¬ ((!true || !typeHasDict (Value.ref D))=true) by simp [typeHasDict])]
 exact Ac (wpAny_alloc' (Ac (wpAny_update' hx1 (Ao q))))
theorem bXA {T dx:Addr} {name:Str} {v:Value} {m:Q3} {ns:List Str} {odx:Obj} {Q:Unit->Shared->Prop} (Z:ExK K D) (X:K.In s.heap) (I:InstAt s.heap x ox D (some odx)) (hdn:ox.dict=some dx)
   (hs:findIn K (.ref D) "__setattr__"=some (some (.builtin "object.__setattr__"))) (hm:aQ0 K D=some [.ref D,.ref T,.type "ValueError",.type "Exception",.type "BaseException",.type "object"]) (hna:findIn K (.ref D) name=some none)
   (hn:s.heap.Ns1 dx m) (hw:Within m ns) (hz:ns.length<sizeLine)
   (h:∀ h' tk',h'.Ns1 dx (λy=>if y=name then some v else m y)->Heap.SameBut dx s.heap h'->Q () { s with heap:=h',toks:=tk' }) :
   wpAny (model prog w) A (setAttr (.ref x) name v) Q E s:=by
 obtain ⟨cd,hc,hd'⟩:=any_some Z.cls;refine wM Z X I hs hm hna (λB Q' E' q=>?_) hn hw hz h;unfold instanceDict;refine Ac (wpAny_loadPart I.at_ ?_);rw [I.cls];refine Ac ((looks_clsIn X hc).here (s:={ s with toks:=s.toks+1 }) ?_)
 rw [hd',hdn,if_neg (show ¬ ((!true)=true) by decide)]
 exact Ao q
end
end L2
set_option maxHeartbeats 4000000
namespace L2
open PySem PySem.Spec PyProof.Rows PySem.W
def jC (ea C:Addr) (d:Option Addr):HO:=.ext λh=>∃ oe vs t0,h.get? ea=some oe/\oe.cls=.ref C/\oe.dict=d/\oe.data=.fields vs/\vs[1]?=some .none/\vs[0]?=some (.ref t0)/\vs[2]?=some .none
def xdO (dx:Addr) (fs:List (Str×V)):HO:=.ext λh=>∃ mA,h.Ns1 dx mA/\(∀ f,RelO (fs.lookup f) (mA f))/\Within mA (fs.map (·.1))
theorem vY {P:Program} {w:World} {H:Hp} {h:Heap} {ea C:Addr} {d:Option Addr} {oe:Obj} {vs:Array Value} {t0:Addr} (g:h.get? ea=some oe) (c:oe.cls=.ref C) (di:oe.dict=d) (da:oe.data=.fields vs) (h1:vs[1]?=some .none) (h0:vs[0]?=some (.ref t0)) (c2:vs[2]?=some .none) :
   ObjOk P w H h ea (jC ea C d):=⟨⟨oe,vs,t0,g,c,di,da,h1,h0,c2⟩,⟨oe,g⟩,λ_ _ ⟨o,ws,t,g,q⟩ k=>⟨o,ws,t,k o g,q⟩⟩
theorem bZI {P:Program} {w:World} {H:Hp} {h:Heap} {dx:Addr} {fs:List (Str×V)} {mA:Q3} (n:h.Ns1 dx mA) (r:∀ f,RelO (fs.lookup f) (mA f)) (wi:Within mA (fs.map (·.1))):ObjOk P w H h dx (xdO dx fs):=by
 refine ⟨⟨mA,n,r,wi⟩,?_,λ_ _ ⟨m,⟨o,es,ep,g,q⟩,r⟩ k=>⟨m,⟨o,es,ep,k o g,q⟩,r⟩⟩;obtain ⟨o,es,ep,g,_⟩:=n;exact ⟨o,g⟩
structure XcK (K:Frag) (C T:Addr):Prop where
 ex:ExK K C
 sa:findIn K (.ref C) "__setattr__"=some (some (.builtin "object.__setattr__"))
 mro:aQ0 K C=some [.ref C,.ref T,.type "ValueError",.type "Exception",.type "BaseException",.type "object"]
 vb:PySem.W.subIn K (.ref C) (.type "ValueError")=some true
def dQ7 (K:Frag) (C T:Addr):Bool:=(clsIn K C).any λc=>match c.mro with
 | [.ref a,.ref b,.type x,.type y,.type z,.type u]=>a == C && b == T && x == "ValueError" && y == "Exception" && z == "BaseException" && u == "object"
 | _=>false
theorem cXV {K:Frag} {C T:Addr} (h:dQ7 K C T=true):aQ0 K C=some [.ref C,.ref T,.type "ValueError",.type "Exception",.type "BaseException",.type "object"]:=by
 obtain ⟨c,hc,h⟩:=any_some h;unfold aQ0;rw [hc];split at h
 · rename_i hm
   simp only [Bool.and_eq_true,beq_iff_eq] at h;obtain ⟨⟨⟨⟨⟨rfl,rfl⟩,rfl⟩,rfl⟩,rfl⟩,rfl⟩:=h;exact Dm some hm
 · cases h
theorem lA {P:Program} {w:World} {H:Hp} {h:Heap} {ea D:Addr} {d:Option Addr} {oe:Obj} {vs:Array Value} (hok:HOk P w H h) (g:h.get? ea=some oe) (hc:oe.cls=.ref D) (hdi:oe.dict=d) (hda:oe.data=.fields vs) (hd:∀ dx,d=some dx->∃ o,H dx=some o) :
   ∃ od,InstAt h ea oe D od:=by
 have no:notCls oe=true:=by
   obtain ⟨c,di,da,sl⟩:=oe;cases hda;rfl
 cases d with
 | none=>exact ⟨none,g,hc,no,by rw [hdi]; trivial⟩
 | some dx=>
   obtain ⟨o,z⟩:=hd dx rfl;obtain ⟨ob,g2⟩:=(hok dx o z).get;exact ⟨some ob,g,hc,no,by rw [hdi]; exact g2⟩
theorem dQ9 {H:Hp} {a:Addr} {o:HO} (e:H a=some o):upd H a o=H:=by
 funext b
 unfold upd;split
 · rename_i z; rw [z,e]
 · rfl
def aQT (K:Frag):List V->Hp->VK->Prop:=λvs H Q=>∃ ea rest C T d,vs=.ref ea::rest/\rest.length<=sizeLine/\H ea=some (jC ea C d)/\(∀ dx,d=some dx->∃ o,H dx=some o)/\XcK K C T/\Q .non H
def cQA (K:Frag) (t:TA):TE:=λσ H Q=>t σ H λvs H1=>aQT K vs H1 Q
theorem cX5 {X:Cx}:CallR X (.builtin "ValueError.__init__") (aQT X.K):=by
 intro pins s σ H xs us Q I r h;obtain ⟨ea,rest,C,T,d,rfl,hl,he,hd,Z,q⟩:=h;cases r with
 | @cons _ _ _ l2 r0 rr=>
   cases r0;obtain ⟨oe,vs,t0,g,hc,hdi,hda,h1,h0,c2⟩:=(I.hok ea _ he).1;obtain ⟨od,hI⟩:=lA I.hok g hc hdi hda hd;refine bZH Z.ex I.kIn hI Z.vb hda h0 (by rw [<-rr.length]; exact hl) ?_
   have g2:=Ad (h:=s.heap) { cls:=.type "tuple",data:=.seq l2.toArray } g
   have hs0:0<vs.size:=(Bu.mp h0).1
   have dm:=Ga hda (·.setIfInBounds 0 (Value.ref s.heap.objs.size))
   refine ⟨.non,H,?_,rfl,q⟩;have I2:=I.write (x:=ea) (e:=ea) (o:=jC ea C d) (t':=s.toks) (by rw [he]; exact True.intro) (.inl rfl) (λb u hb z=>(Bs _ (Obj.mapFields (·.setIfInBounds 0 (Value.ref s.heap.objs.size))) (Ne.symm hb)).trans (Ad _ z))
     ⟨_,Heap.get?_update_self _ g2 (Obj.isFreed_of_fields dm)⟩ (vY (Heap.get?_update_self _ g2 (Obj.isFreed_of_fields dm)) (by rw [Obj.cls_mapFields]; exact hc) (by rw [xF]; exact hdi) dm (by rw [Array.getElem?_setIfInBounds]; simp [h1]) (t0:=s.heap.objs.size) (by simp [hs0]) ((Array.getElem?_setIfInBounds_ne (by decide)).trans c2))
   rw [dQ9 he] at I2;exact I2
section
variable {X:Cx} {x:Str} {T:Addr} {mc:Value} {e:Expr} {es:List Expr} {t:TA} {np apos pos:Pos}
theorem bZW {pl:Sem Bool} (hg:Gl X x) (hm:X.mg x=some (.ref T)) (h1:specialIn X.K (.ref T) "__getattribute__"=some (some (.builtin "type.__getattribute__"))) (h2:readsIn X.K T mc=true)
   (h3:findCls X.K (.ref T) mc "__init__"=some (.val (.builtin "ValueError.__init__"))) (ha:PA X (e::es) t) (hdb:(x == ("__debug__" : Str))=false:=by decide)
   (hst:starEach (e::es) X.env=(false,eval e X.env)::starEach es X.env:=by rfl) (hpl:(backTo pos (starEach es X.env)).any (·.1)=false:=by rfl)
   (ht:eval (.Call (.Attribute (.Name x np) "__init__" apos) (e::es) [] pos) X.env=(do
     let ov <-eval (.Name x np) X.env
     standAt apos.atName
     let (f,first) <-holding [ov] (getMethod ov "__init__" pl)
     callWith pos f first (backTo pos (starEach (e::es) X.env)) (backToKw pos (keywordEach [] X.env))):=by rfl) :
   PE X (.Call (.Attribute (.Name x np) "__init__" apos) (e::es) [] pos) (cQA X.K t):=by
 intro pins s σ H Q I h;refine Eg (pl:=pl) (eD I hg hm ?_ hdb) ht;refine method_cls I.kIn h1 (cls_value I.kIn h2 h3 rfl ?_);exact PyProof.Rows.callWith_builtin1 (thn (ha pos pins _ σ H _ (I.tok _) h) λus s1 ⟨vs,H1,I1,r1,q1⟩=>cX5 pins s1 σ H1 vs us Q I1 r1 q1) hst hpl
end
theorem Inv.freAt {X:Cx} {pins:Q2} {σ:St} {H:Hp} {s:Shared} {a:Addr} (I:Inv X pins σ H s) (h:s.heap.objs.size<=a):Fre X pins a where
 s0:=Fi (Bv I.sz h)
 loc:=λz=>absurd (Bc I.lt h) (by rw [z]; exact Ds _)
 cell:=λx c e z=>by
   obtain ⟨_,o,g,_⟩:=I.cell x c e;exact absurd (Bc (An g) h) (by rw [z]; exact Ds _)
 pin:=λp hp z=>absurd (Bc (An (I.pin p hp).1) h) (by rw [z]; exact Ds _)
def dQE (K:Frag) (ta tv:TE) (f:Str):TS:=λD σ H=>tv σ H λy H1=>ta σ H1 λx H2=>∃ ea C T,x=.ref ea/\XcK K C T/\findIn K (.ref C) f=some none/\
 ((H2 ea=some (jC ea C none)/\∀ dx,H2 dx=none->D.nx σ (upd (upd H2 ea (jC ea C (some dx))) dx (xdO dx [(f,y)])))\/
  (∃ dx fs,H2 ea=some (jC ea C (some dx))/\H2 dx=some (xdO dx fs)/\fs.length<100/\D.nx σ (upd H2 dx (xdO dx ((f,y)::fs)))))
theorem uE {f g:Str} {y:V} {fs:List (Str×V)}:List.lookup g ((f,y)::fs)=if g=f then some y else fs.lookup g:=by
 rw [Cq];by_cases z:g=f
 · rw [if_pos z,z]; simp
 · rw [if_neg z];have:(g == f)=false:=by simpa using z
   rw [this]
theorem cX8 {X:Cx} {o value:Expr} {f:Str} {pos pos':Pos} {ta tv:TE} (ha:PE X o ta) (hv:PE X value tv) (hs:swapsWith value (some (.Attribute o f pos')) pos.line X.env=pure false):PS X (.Assign [.Attribute o f pos'] value pos) (dQE X.K ta tv f):=by
 intro pins s σ H D I h;refine plainObj_wpAny_Assign_Attribute (thn (hv pins s σ H _ I h) λu s1 ⟨y,H1,I1,ry,q⟩=>thn (ha pins s1 σ H1 _ I1 q) λov s2 ⟨x,H2,I2,rx,ea,C,T,ex,Z,hn,q2⟩=>?_) hs;subst ex;obtain rfl:ov=Value.ref ea:=rx;rcases q2 with ⟨he,q3⟩ | ⟨dx,fs,he,hdx,hl,q3⟩
 · obtain ⟨oe,vs,t0,g,hc,hdi,hda,h1,h0,c2⟩:=(I2.hok ea _ he).1;obtain ⟨od,hI⟩:=lA I2.hok g hc hdi hda (λ_ z=>nomatch z)
   have hod:od=none:=by
     have z:=hI.dict
     rw [hdi] at z;cases od with
     | none=>rfl
     | some o=>exact z.elim
   subst hod;refine bQ6 Z.ex I2.kIn hI hda hdi Z.sa Z.mro hn λh' tk' gx ns kp=>?_;have fr:=I2.freAt (Ag _)
   have hfree:H2 s2.heap.objs.size=none:=I2.hok.fresh (Ag _)
   have ne:s2.heap.objs.size≠ea:=λz=>by rw [z,he] at hfree; cases hfree
   have I3:=I2.write (x:=ea) (e:=ea) (o:=jC ea C (some s2.heap.objs.size)) (h':=h') (t':=tk') (by rw [he]; exact True.intro) (.inl rfl) kp ⟨_,gx⟩ (vY gx hc rfl hda h1 h0 c2)
   have I4:=I3.adopt (a:=s2.heap.objs.size) (o:=xdO s2.heap.objs.size [(f,y)]) fr (by rw [aK ne]; exact hfree) (bZI ns (λg=>by
     rw [uE];split
     · exact ry
     · exact True.intro) (λg hg=>by
     by_cases z:g=f
     · rw [z]; exact Am.mpr rfl
     · exact absurd (show (if g=f then some u else none)=none by rw [if_neg z]) hg))
   exact ⟨σ,_,I4,q3 _ hfree⟩
 · obtain ⟨oe,vs,t0,g,hc,hdi,hda,h1,h0,c2⟩:=(I2.hok ea _ he).1;obtain ⟨mA,n,r,wi⟩:=(I2.hok dx _ hdx).1;obtain ⟨od,hI⟩:=lA I2.hok g hc hdi hda (λz e=>by cases e; exact ⟨_,hdx⟩)
   have hod:∃ o,od=some o:=by
     have z:=hI.dict
     rw [hdi] at z;cases od with
     | none=>exact z.elim
     | some o=>exact ⟨o,rfl⟩
   obtain ⟨o,rfl⟩:=hod;refine bXA Z.ex I2.kIn hI hdi Z.sa Z.mro hn n wi (by rw [Ab,Gb]; omega) λh' tk' ns sb=>?_
   have hd':∃ o,h'.get? dx=some o:=let ⟨o,_,_,e',_⟩:=ns; ⟨o,e'⟩
   have I3:=I2.write (x:=dx) (e:=dx) (o:=xdO dx ((f,y)::fs)) (h':=h') (t':=tk') (by rw [hdx]; exact True.intro) (.inl rfl) (λb q hb z=>(sb.2 b hb).trans z) hd' (bZI ns (λg=>by
     rw [uE];split
     · exact ry
     · exact r g) (λg hg=>by
     by_cases z:g=f
     · rw [z]; exact Ai
     · refine Ah _ (wi g λz2=>hg ?_);show (if g=f then some u else mA g)=none
       rw [if_neg z]; exact z2))
   exact ⟨σ,_,I3,q3⟩
def bXL (K:Frag) (ta:TE) (f:Str):TE:=λσ H Q=>ta σ H λx H1=>∃ ea C dx fs v,x=.ref ea/\(H1 ea=some (fZ ea (.ref C) (some dx))\/H1 ea=some (jC ea C (some dx)))/\H1 dx=some (xdO dx fs)/\ExK K C/\findIn K (.ref C) f=some none/\fs.lookup f=some v/\Q v H1
theorem bJS {v:V} {u:Value} (r:RelV v u):handedIn u=true:=by
 cases v <;> first | (obtain ⟨_,rfl⟩:=(show ∃ t,u=_ from r); rfl) | (cases r; rfl)
theorem cQM {X:Cx} {e:Expr} {f:Str} {pos:Pos} {ta:TE} (he:PE X e ta) (hb:attributeBase e f X.env (eval e X.env)=eval e X.env):PE X (.Attribute e f pos) (bXL X.K ta f):=by
 intro pins s σ H Q I h;refine aZJ hb (thn (he pins s σ H _ I h) λu s1 ⟨x,H1,I1,rx,ea,C,dx,fs,v,ex,e1,e2,Z,n,l,q⟩=>?_);subst ex;obtain rfl:u=Value.ref ea:=rx;obtain ⟨oe,vs,g,hc,hdi,hda⟩:∃ oe vs,s1.heap.get? ea=some oe/\oe.cls=.ref C/\oe.dict=some dx/\oe.data=.fields vs:=by
   rcases e1 with e1 | e1
   · exact (I1.hok ea _ e1).1
   · obtain ⟨oe,vs,t0,g,hc,hdi,hda,_⟩:=(I1.hok ea _ e1).1;exact ⟨oe,vs,g,hc,hdi,hda⟩
 obtain ⟨⟨mA,ns,r,wi⟩,_⟩:=I1.hok dx _ e2;obtain ⟨od,hI⟩:=lA I1.hok g hc hdi hda (λz e=>by cases e; exact ⟨_,e2⟩)
 obtain ⟨o,go,lo⟩:=uK ns;have hod:od=some o:=by
   have z:=hI.dict
   rw [hdi] at z;cases od with
   | none=>exact z.elim
   | some o'=>
     have z:s1.heap.get? dx=some o':=z
     rw [go] at z;exact z.symm
 subst hod;have rl:=r f
 rw [l] at rl;cases hu:mA f with
 | none=>rw [hu] at rl; exact rl.elim
 | some u=>
   rw [hu] at rl;exact cZI Z I1.kIn hI (findObj_own Z.cls n rfl (by rw [lo,hu])) (bJS rl) ⟨v,H1,I1.tok _,rl,q⟩
end L2
set_option maxHeartbeats 4000000
namespace L2
open PySem PySem.Spec PyProof.Rows PySem.W
def aXA (K:Frag) (C:Addr) (bmB:List Value) (newId:String):Bool :=
 match K.lookup C with
 | some ⟨.type t,_,.cls c,sl⟩=>t == "type" && !c.hasDel && nsOkIn K c.ns &&
   (match c.mro with | .ref C1::bm=>C1 == C && tailIn K bmB bm | _=>false) && (match sl.toList with | [_,_,_,_,some (.builtin n),_]=>n == newId | _=>false)
 | _=>false
theorem dXE {K:Frag} {h:Heap} {C:Addr} {bmB:List Value} {newId:String} (X:K.In h) (q:aXA K C bmB newId=true) :
   ∃ bm N nm qn bs hd sn sub ab col dd k0 k1 k2 k3 k5,h.get? C=some (excClassObj nm qn C N bs bm hd sn sub ab col dd k0 k1 k2 k3 k5 newId)/\OwnTail h bmB bm:=by
 unfold aXA at q;split at q
 · rename_i t dd c sl ho
   simp only [Bool.and_eq_true,beq_iff_eq,Bool.not_eq_true'] at q;obtain ⟨⟨⟨⟨rfl,q1⟩,q2⟩,q3⟩,q4⟩:=q;split at q3
   · rename_i C1 bm hm
     obtain ⟨rfl,q5⟩:C1=C/\tailIn K bmB bm=true:=by simpa only [Bool.and_eq_true,beq_iff_eq] using q3
     split at q4
     · rename_i k0 k1 k2 k3 n k5 hs
       obtain rfl:n=newId:=by simpa using q4
       obtain ⟨nm,bs,mro,ns,qn,hd,sn,sub,ab,col,del⟩:=c;dsimp only at hm q1 q2;subst hm q1;obtain ⟨l⟩:=sl;cases (show l=_ from hs);exact ⟨bm,ns,nm,qn,bs,hd,sn,sub,ab,col,dd,k0,k1,k2,k3,k5,X _ _ ho,tail_of_in X q5⟩
     · cases q4
   · cases q3
 · cases q
section
variable {prog:Program} {w:World} {A:Around} {E:Q0} {s:Shared} {K:Frag} {C f:Addr} {bmB:List Value} {B newId initId:String}
theorem aJQ {rest:List Value} {Q:Fin->Shared->Prop} (FB:ExcBaseFacts B newId initId bmB) (X:K.In s.heap) (hx:aXA K C bmB newId=true) (hi:findIn K (.ref C) "__init__"=some (some (.ref f))) (hf:typeIn K (.ref f)=some (.type "function")) (hr:rest.length<=sizeLine)
   (hq:∀ h' e,Heap.MadeExcOf s.heap h' e (.ref C) rest->wpAny (model prog w) A (call (.ref f) (.ref e::rest)) (λr s'=>r=.none/\Q (.done (.ret (.ref e))) s') E { s with heap:=h' }) :
   wpAny (model prog w) A (Builtin.«type.__call__» ⟨.ref C::rest,[]⟩) Q E s:=by
 obtain ⟨h,g,d,t,os⟩:=s;obtain ⟨bm,N,nm,qn,bs,hd,sn,sub,ab,col,dd,k0,k1,k2,k3,k5,hC,Tl⟩:=dXE X hx;repeat (first | with_reducible refine wpAny_madeBy_exc hC ?_ | with_reducible refine Fh hC ?_ | wp_step)
 refine codeAny_call_builtin_code (Code.quiet_builtin _ FB.quiet) (wpAny_check_new_subT FB Tl hC (codeAny_exc_new_subT FB Tl hC ?_ hr));show wpAny _ _ _ _ _ _
 generalize hh1:(h.push { cls:=.type "tuple",data:=.seq rest.toArray }).push { cls:=.ref C,data:=.fields #[.ref h.objs.size,.none,.none,.none,.bool false,.none] }=h1;have kp:∀ b o,h.get? b=some o->h1.get? b=some o:=λb o e=>by rw [<-hh1]; exact Ad _ (Ad _ e)
 have hget:h1.get? (h.objs.size+1)=some { cls:=.ref C,data:=.fields #[.ref h.objs.size,.none,.none,.none,.bool false,.none] }:=by rw [<-hh1]; heap_get
 have X1:=X.keeps kp
 have hC1:=kp _ _ hC
 have hcC:(Value.ref C::bm).contains (.ref C)=true:=by simp
 unfold isInstance;repeat (first | (with_reducible refine wpAny_isSubtype_exc hC1 ?_; rw [hcC]) | with_reducible refine Fh hget ?_ | wp_step)
 show wpAny _ _ (typeLookup (.ref C) _) _ _ _
 refine (looks_findIn X1 hi).here (s:=⟨h1,g,d,t,os⟩) (Bz (Ac ?_));unfold bindSpecial;refine Ac ((looks_typeIn X1 hf).here (s:=⟨h1,g,d,t,os⟩) ?_);rw [if_pos (by decide)]
 refine Ao (Ac (Bo (hq h1 (h.objs.size+1) ⟨kp,Fi (Nat.le_succ _),h.objs.size,hget,Fi (Ag _),?_⟩) (λr s' hr=>?_) λ_ _ z=>z))
 · rw [<-hh1];exact Ad _ (Heap.get?_push_at rfl rfl)
 · obtain ⟨rfl,z⟩:=hr
   wp_walk
   exact z
theorem bQ0 {rest:List Value} {Q:Q0} (FB:ExcBaseFacts B newId initId bmB) (X:K.In s.heap) (hx:aXA K C bmB newId=true) (hi:findIn K (.ref C) "__init__"=some (some (.ref f))) (hf:typeIn K (.ref f)=some (.type "function")) (hr:rest.length<=sizeLine)
   (hq:∀ h' e,Heap.MadeExcOf s.heap h' e (.ref C) rest->wpAny (model prog w) (A.under (.builtin "type.__call__" ⟨.ref C::rest,[]⟩)) (call (.ref f) (.ref e::rest)) (λr s'=>r=.none/\Q (.ref e) s') E { s with heap:=h' }) :
   wpAny (model prog w) A (call (.ref C) rest) Q E s:=by
 have X0:=X
 obtain ⟨h,g,d,t,os⟩:=s;obtain ⟨bm,N,nm,qn,bs,hd,sn,sub,ab,col,dd,k0,k1,k2,k3,k5,hC,Tl⟩:=dXE X hx;have c1:=tc_lookup
 have c2:=tc_bind (.ref C)
 have c3:(⟨h,g,d,t,os⟩:Shared).TypeIs (.ref C) "type" := ⟨_,hC,rfl⟩
 refine Ek (codeAny_of_tree ?_);show wpAny _ _ (callAny (.ref C) _) _ _ _
 repeat (any_goals (first | with_reducible refine Fh hC ?_ | assumption | wp_step))
 exact ⟨rfl,codeAny_call_builtin_at (Code.quiet_builtin _ (by decide +kernel)) entry_typeCall (wpAny_check_type_call_sub hC (aJQ FB X0 hx hi hf hr λh' e hm=>hq h' e hm))⟩
theorem aJR {env:Env} {x:Sem Value} {Q:Flow->Shared->Prop} (hh:A.handled=none)
   (h:wpAny (model prog w) A x (λv s1=>∃ e oe vs bm N nm qn bs hd sn sub ab col dd k0 k1 k2 k3 k5,v=.ref e/\s1.heap.get? C=some (excClassObj nm qn C N bs bm hd sn sub ab col dd k0 k1 k2 k3 k5 newId)/\bm.contains (.type "BaseException")=true/\
     s1.heap.get? e=some oe/\oe.cls=.ref C/\oe.data=.fields vs/\vs[1]?=some .none/\E (.ref e) s1) E s):wpAny (model prog w) A (raiseStmt env (some x) none) Q E s:=by
 unfold raiseStmt;refine Ac (Bo h (λv s1 q=>?_) λ_ _ z=>z);obtain ⟨e,oe,vs,bm,N,nm,qn,bs,hd,sn,sub,ab,col,dd,k0,k1,k2,k3,k5,rfl,hC,hb,he,hc,hda,h1,hE⟩:=q;obtain ⟨hp,g,d,tk,os⟩:=s1;obtain ⟨oc,odi,oda,osl⟩:=oe;dsimp only at hc hda;subst hc hda;have hcB:(Value.ref C::bm).contains (.type "BaseException")=true:=by rw [List.contains_cons,hb,Bool.or_true]
 repeat (first | with_reducible refine Fh hC ?_ | with_reducible refine Fh he ?_ | (with_reducible refine wpAny_isSubtype_exc hC ?_; rw [hcB]) | wp_step)
 rw [h1];refine Ao ?_;rw [if_neg (show ¬ ((Value.none != Value.none)=true) by decide)]
 exact Ao (wpAny_raiseNew_none hh hE)
end
def del (H:Hp) (a:Addr):Hp:=λb=>if b=a then none else H b
theorem kI {H:Hp} {a b:Addr} (h:b≠a):del H a b=H b:=if_neg h
theorem xS {H:Hp} {a:Addr}:del H a a=none:=if_pos rfl
section
variable {X:Cx} {pins:Q2} {σ:St} {H:Hp} {s:Shared}
theorem Inv.drop {ea:Addr} {φ:Heap->Prop} (I:Inv X pins σ H s) (e:H ea=some (.ext φ)):Inv X pins σ (del H ea) s:=by
 have ne:∀ b u,H b=some u->(∀ ψ,u≠.ext ψ)->b≠ea:=λb u q n z=>by
   rw [z,e] at q;cases q;exact n φ rfl
 refine I.re (λb n=>?_) (λb xs q=>?_) (λb o u q=>?_) (λb ps q=>?_) λb o q=>?_
 · unfold del;split
   · rfl
   · exact n
 · have q1:=I.base.tups b xs q
   rw [kI (ne b _ q1 λ_ z=>nomatch z)]
   exact q1
 · have q1:=I.base.frzs b o u q
   rw [kI (ne b _ q1 λ_ z=>nomatch z)]
   exact q1
 · obtain ⟨m,q1⟩:=I.base.tbls b ps q;exact ⟨m,by rw [kI (ne b _ q1 λ_ z=>nomatch z)]; exact q1⟩
 · have hb:b≠ea:=λz=>by rw [z,xS] at q; cases q
   rw [kI hb] at q;exact (I.hok b o q).stay (λ_ _ _ z=>z) (λc z=>by rw [kI (ne c _ z λ_ z=>nomatch z)]; exact z) λc xs z=>by rw [kI (ne c _ z λ_ z=>nomatch z)]; exact z
theorem Inv.freNew {a:Addr} (I:Inv X pins σ H s) (hex:X.ex=[]) (h:s.heap.get? a=none):Fre X pins a where
 s0:=by
   cases z:X.s₀.heap.get? a with
   | none=>rfl
   | some o=>
     obtain ⟨o',z'⟩:=I.base.there a o z (by rw [hex]; simp)
     rw [h] at z';cases z'
 loc:=λz=>by
   obtain ⟨m,⟨o,_,_,g,_⟩,_⟩:=I.loc;rw [<-z,h] at g;cases g
 cell:=λx c e z=>by
   obtain ⟨_,o,g,_⟩:=I.cell x c e;rw [z,h] at g;cases g
 pin:=λp hp z=>by
   have g:=(I.pin p hp).1
   rw [z,h] at g;cases g
end
def cQ0 (P:Program) (w:World) (K:PySem.W.Frag) (mg:Str->Option Value) (base:Heap) (k:Nat) (C:Addr) (ps:List Str) (sp:Sp):Prop :=
 ∃ (f:Addr) (fd:FuncData),FnOk P w K mg base CX0 k f fd ps sp/\findIn K (.ref C) "__init__"=some (some (.ref f))/\typeIn K (.ref f)=some (.type "function")/\Binds K fd ps []
structure XmK (K:Frag) (C:Addr):Prop where
 obj:aXA K C [.type "ValueError",.type "Exception",.type "BaseException",.type "object"] "ValueError.__new__"=true
 kp:keepIn K (.ref C)=true
def aXX (C:Addr) (sp:Sp) (E:XK) (ta:TA):TS:=λ_ σ H=>ta σ H λvs H1=>vs.length<=sizeLine/\∀ ea,H1 ea=none->sp (.ref ea::vs) (upd H1 ea (jC ea C none)) (λv H2=>v=.non/\∃ d,H2 ea=some (jC ea C d)/\E (.ref C) d (del H2 ea)) E0
section
variable {X:Cx} {E:XK} {x:Str} {C:Addr} {e:Expr} {es:List Expr} {ta:TA} {np cpos pos:Pos} {k:Nat} {ps:List Str} {sp:Sp}
theorem bQI {pins:Q2} {σ:St} {H1:Hp} {s1:Shared} {vs:List V} {us:List Value} {G:Addr->VK} {R:Q0} (hex:X.ex=[]) (M:XmK X.K C) (c:cQ0 X.prog X.w X.K X.mg X.base k C ps sp) (hr:Room (k+1) X.A) (I1:Inv X pins σ H1 s1) (r:Vals vs us)
   (hl:vs.length<=sizeLine) (q:∀ ea,H1 ea=none->sp (.ref ea::vs) (upd H1 ea (jC ea C none)) (G ea) E0)
   (hR:∀ ea H2 s2,X.s₀.heap.get? ea=none->Inv X pins σ H2 s2->(G ea) .non H2->R (.ref ea) s2) (hG:∀ ea v H2,G ea v H2->v=.non):wpAny (model X.prog X.w) X.A (call (.ref C) us) R X.xe s1:=by
 obtain ⟨f,fd,F,hi,hf,hb⟩:=c;refine bQ0 By I1.kIn M.obj hi hf (by rw [<-r.length]; exact hl) λh' ea hm=>?_
 obtain ⟨t,g,_,_⟩:=hm.there;have hole:H1 ea=none:=I1.hok.hole hm.new
 have fr:=I1.freNew hex hm.new
 have I2:=(I1.kept (t':=s1.toks) hm.keeps).adopt (o:=jC ea C none) fr hole (vY g rfl rfl rfl rfl rfl rfl)
 have r2:Vals (V.ref ea::vs) (Value.ref ea::us):=.cons rfl r
 have hq:=q ea hole
 have hl2:((Value.ref ea::us)++[]).length=ps.length:=by rw [Br,<-r2.length]; exact F.len _ _ _ _ hq
 have hbb:=hb { s1 with heap:=h' } (Value.ref ea::us) I2.kIn hl2
 rw [Br] at hbb;refine Ek (Ei (F.run _ X.stack { s1 with heap:=h' } _ ⟨Value.ref ea::us,[]⟩ (Value.ref ea::us) (V.ref ea::vs) _ E0 (hr.make C us []) (I2.env0.make C us []) hbb r2 hq) λrr s' hq'=>?_)
 cases rr with
 | error e=>exact False.elim hq'
 | ok fl=>
   cases fl with
   | ret u=>
     obtain ⟨v,H',I3,rv,q3⟩:=I2.after hq';have ev:=hG ea v H' q3
     subst ev;exact ⟨rv,hR ea H' s' fr.s0 I3 q3⟩
   | next=>exact False.elim hq'
   | brk=>exact False.elim hq'
   | cont=>exact False.elim hq'
theorem sW {k':Nat} (hR:dQW X E) (hex:X.ex=[]) (hc:X.calm=true) (hg:Gl X x) (hm:X.mg x=some (.ref C)) (M:XmK X.K C) (c:cQ0 X.prog X.w X.K X.mg X.base k C ps sp) (hr:Room k' X.A) (hkk:k+1<=k') (ha:PA X (e::es) ta)
   (hd:(x == ("__debug__" : Str))=false:=by decide) (he:starEach (e::es) X.env=(false,eval e X.env)::starEach es X.env:=by rfl) (hpl:(backTo cpos (starEach es X.env)).any (·.1)=false:=by rfl) :
   PS X (.Raise (some (.Call (.Name x np) (e::es) [] cpos)) none pos) (aXX C sp E ta):=by
 intro pins s σ H D I h;rw [arm_exec_Raise];simp only [evalOpt,Option.map];refine Ac (Ea (aJR (C:=C) (newId := "ValueError.__new__") (I.ok.hd hc) ?_));refine Ac (Bo (Q:=λv s1=>∃ e oe vs bm N nm qn bs hd sn sub ab col dd k0 k1 k2 k3 k5,v=.ref e/\s1.heap.get? C=some (excClassObj nm qn C N bs bm hd sn sub ab col dd k0 k1 k2 k3 k5 "ValueError.__new__")/\bm.contains (.type "BaseException")=true/\
     s1.heap.get? e=some oe/\oe.cls=.ref C/\oe.data=.fields vs/\vs[1]?=some .none/\X.xe (.ref e) s1) ?_ (λv s3 h3=>Ac (Ea (Ao h3))) λ_ _ z=>z)
 refine Cz (eD I hg hm ?_ hd);refine Ef (h₀:=X.base) I.ok.mod.kin M.kp (thn (ha cpos pins s σ H _ I h) λus s1 ⟨vs,H1,I1,r,hl,q⟩=>⟨I1.kIn,?_⟩) he hpl;refine bQI hex M c (hr.mono hkk) I1 r hl q (λea H' s' s0 I3 q3=>?_) λea v H2 z=>z.1;obtain ⟨_,d,e2,q3⟩:=q3;obtain ⟨oe,ws,t0,g2,hc2,hdi,hda,h1,h0,c2⟩:=(I3.hok ea _ e2).1;obtain ⟨bm,N,nm,qn,bs,hdct,sn,sub,ab,col,dd,k0,k1,k2,k3,k5,hC,Tl⟩:=dXE I3.kIn M.obj;refine ⟨ea,oe,ws,bm,N,nm,qn,bs,hdct,sn,sub,ab,col,dd,k0,k1,k2,k3,k5,rfl,hC,Tl.hasType PySem.F.excBase_ValueError.hasBase,g2,hc2,hda,h1,?_⟩;exact hR pins σ (del H' ea) s' ea oe ws (I3.drop e2) g2 hda h1 c2 xS s0 (by rw [hc2,hdi]; exact q3)
end
def mT (st:Stmt) (j:Nat):Stmt :=
 match st with
 | .ClassDef _ _ _ body _ _ _ _ _ _ _=>body.getD j (.Pass ⟨0,0,0,0⟩)
 | s=>s
section
variable {g:TG} {tests:TT} {te:TE} {σ0:St} {Q:VK} {H1:Hp}
end
section
variable {K:PySem.W.Frag} {H:Hp} {Q:VK} {ea C D T dx tp:Addr} {c:V} {cs:List V} {cv:Value} {cvs:List Value} {b:Bool} {d:Option Addr} {σ:St} {D':Ends} {sp:Sp} {E:XK} {ta:TA} {te tv:TE} {f:Str}
theorem cQ1 (h:ta σ H λvs H1=>aQT K vs H1 Q):cQA K ta σ H Q:=h
theorem bQT (h:ta σ H λvs H1=>vs.length<=sizeLine/\∀ ea,H1 ea=none->sp (.ref ea::vs) (upd H1 ea (jC ea C none)) (λv H2=>v=.non/\∃ d,H2 ea=some (jC ea C d)/\E (.ref C) d (del H2 ea)) E0):aXX C sp E ta D' σ H:=h
theorem dXT (h:te σ H λx H1=>∃ ea C dx fs v,x=.ref ea/\(H1 ea=some (fZ ea (.ref C) (some dx))\/H1 ea=some (jC ea C (some dx)))/\H1 dx=some (xdO dx fs)/\ExK K C/\PySem.W.findIn K (.ref C) f=some none/\fs.lookup f=some v/\Q v H1):bXL K te f σ H Q:=h
theorem dQM (h:tv σ H λy H1=>te σ H1 λx H2=>∃ ea C T,x=.ref ea/\XcK K C T/\PySem.W.findIn K (.ref C) f=some none/\
 ((H2 ea=some (jC ea C none)/\∀ dx,H2 dx=none->D'.nx σ (upd (upd H2 ea (jC ea C (some dx))) dx (xdO dx [(f,y)])))\/
  (∃ dx fs,H2 ea=some (jC ea C (some dx))/\H2 dx=some (xdO dx fs)/\fs.length<100/\D'.nx σ (upd H2 dx (xdO dx ((f,y)::fs)))))):dQE K te tv f D' σ H:=h
end
end L2
set_option maxHeartbeats 4000000
namespace L2
open PySem PySem.Spec PyProof.Rows
section
variable {P:Program} {w:World} {K:PySem.W.Frag} {mg:Q3} {base:Heap}
end
section
variable {X:Cx} {pn:Q2} {ea:Addr} {k k':Nat} {ps:List Str} {sp:Sp} {x:Str} {p pos:Pos} {e:Expr} {es:List Expr} {t:TA}
end
theorem bJ3 {X:Cx} {K:PySem.W.Frag} {e:Expr} {f:Str} {pos:Pos} {ta:TE} (h:X.K=K) (he:PE X e ta) (hb:attributeBase e f X.env (eval e X.env)=eval e X.env):PE X (.Attribute e f pos) (bXL K ta f):=by
 subst h;exact cQM he hb
end L2
set_option maxHeartbeats 4000000
namespace L2
open PySem PySem.Spec PyProof.Rows
section
variable {prog:Program} {w:World} {A:Around} {E:Q0}
theorem yR {it l:Addr} {items:Array Value} (hne:l≠it):∀ (n i:Nat) (s:Shared) (Q:List Value->Shared->Prop),s.heap.IsListIter it l i->s.heap.IsList l items->i+n<=items.size->
   (∀ h',h'.IsListIter it l (i+n)->Heap.SameBut it s.heap h'->Q ((items.toList.drop i).take n) { s with heap:=h' })->wpAny (model prog w) A (draw (.ref it) n) Q E s
 | 0,i,s,Q,hit,_,_,k=>by
   refine Ao (M:=model prog w) ?_
   simpa using k s.heap hit (Heap.SameBut.refl ..)
 | n+1,i,s,Q,hit,hl,hle,k=>by
   have lt:i<items.size:=by omega
   show wpAny _ _ (pyNext (.ref it) >>= _) Q E s
   refine wpAny_bind (wpAny_pyNext_list_item hit hl (x:=items[i]) (by simp [lt]) λg1 it1 sb1=>?_)
   refine Ac (Bz (yR hne n (i+1) _ _ it1 (hl.extBut sb1.extBut hne) (by omega) λg2 it2 sb2=>Ao ?_))
   have e:items.toList.drop i=items[i]::items.toList.drop (i+1):=by simp [List.drop_eq_getElem_cons,lt]
   have z:=k g2 (by rw [show i+(n+1)=i+1+n by omega]; exact it2) (sb1.trans sb2)
   rw [e,List.take_succ_cons] at z;exact z
theorem aQH {s:Shared} {l:Addr} {items:Array Value} {targets:List (Bool×(Value->Sem Unit))} {Q:Unit->Shared->Prop} (hh:A.handled=none) (hl:s.heap.IsList l items)
   (hn:targets.length=items.size) (hs:targets.findIdx? (·.1)=none)
   (k:∀ h',Heap.ExtBut s.heap.objs.size s.heap h'->wpAny (model prog w) A (assignInOrder (targets.map (·.2)) items.toList) Q E { s with heap:=h' }) :
   wpAny (model prog w) A (unpack (.ref l) targets) Q E s:=by
 have hlt:l≠s.heap.objs.size:=by obtain ⟨o,ho,_⟩:=hl; exact Ay (An ho)
 unfold unpack;rw [hn,hs];refine Ac (Bz ?_);unfold unpackItems notIterableAtAll;refine Ac (Ac (wpAny_specialOf hl.typeIs slot_list_iter.lookup (Ao ?_)));rw [if_neg (by simp)]
 refine Ac (Bz (Ej hl ?_));refine Ac (Bz (yR hlt items.size 0 _ _ ⟨_,Ar _ rfl,rfl,rfl⟩ (hl.push _) (by omega) λg1 it1 sb1=>?_))
 have al:List.take items.size (List.drop 0 items.toList)=items.toList:=by rw [List.drop_zero]; exact List.take_of_length_le (by simp)
 rw [al,if_neg (by simp)]
 refine wpAny_bind (wpAny_holding (wpAny_pyNext_list_end hh it1 ((hl.push _).extBut sb1.extBut hlt) (by simp) λg2 eb=>?_))
 simp only [Option.isSome_none,Bool.false_eq_true,if_false];exact Ao (k g2 λb o hb e=>eb b o hb (sb1.extBut b o hb (Ad _ e)))
end
def dJC (n:Nat) (t:TGs):TG:=λv σ H Q=>∃ a xs,v=.ref a/\rdL H a=some xs/\xs.length=n/\t xs σ H Q
theorem dQN {X:Cx} {es:List Expr} {k:Nat} {t:TGs} {n:Nat} {pos:Pos} (hc:X.calm=true) (h:PGs X es t)
   (hn:(assignEach es X.env).length=n:=by rfl) (hst:(assignEach es X.env).findIdx? (·.1)=none:=by rfl):PG X (.Tuple es k pos) (dJC n t):=by
 intro pins s σ H v u Q I r hw;obtain ⟨a,xs,e1,hq,hl,hw⟩:=hw;subst e1;cases r;obtain ⟨its,rv,⟨o,nn,ho,hcl,_,hda⟩,hz⟩:=I.list (bC hq);rw [assign_Tuple];refine wpAny_bind (wpAny_standAt (aQH (I.ok.hd hc) ⟨o,ho,hcl,nn,hda⟩ (by simp [hn,<-hl,rv.length]) hst λh' hx=>?_))
 have I1:Inv X pins σ H { s with heap:=h' }:=I.kept (t':=s.toks) λb o e=>hx b o (Ay (An e)) e
 exact h pins _ σ H xs _ Q I1 (by simpa using rv) hw
theorem dZY {n:Nat} {t:TGs} {a:Addr} {xs:List V} {σ:St} {H:Hp} {Q:St->Hp->Prop} (e:rdL H a=some xs) (hn:xs.length=n) (h:t xs σ H Q):dJC n t (.ref a) σ H Q:=⟨a,xs,rfl,e,hn,h⟩
def hid (H:Hp) (ps:List Addr):Hp:=λb=>if b∈ps then none else H b
end L2
set_option maxHeartbeats 4000000
namespace L2
open PySem PySem.Spec PyProof.Rows
open PySem.AutoSeq1 (wpAny_loadPart')
theorem zN (z:Str) (tz:Tok) (k:Int) (t:Tok) (ha:z.cps.all (· < 128)=true) (hk:Builtin.SmallTypes.fitsIndex k=true) :
   Meets (Builtin.«enumerate.__new__» ⟨[.type "enumerate",.str z tz],[("start",.int k t)]⟩) (λ_ R s=>
     R (.ok (.ret (.ref (s.heap.push { cls:=.type "str_ascii_iterator",data:=.fields #[.str z tz,.int 0 0] }).objs.size)))
       { s with heap:=(s.heap.push { cls:=.type "str_ascii_iterator",data:=.fields #[.str z tz,.int 0 0] }).push ⟨.type "enumerate",none,.fields #[.none,.bool false,.ref s.heap.objs.size,rawInt k,.none,.none],#[]⟩ }) :=
 .of_wp λprog w A R s h=>by
   obtain ⟨hp,g,d,tk,os⟩:=s;have hsub:=sub_enumerate
   have hk':(!Builtin.SmallTypes.fitsIndex k)=false:=by rw [hk]; rfl
   wp_walk
   refine wpAny_stack_any λst=>Ao ?_;refine bZO ?_ ?_ <;>
   · wp_walk using (wpAny_pyIter_ascii (s:=⟨hp,g,d,tk,os⟩) ha)
     exact ⟨_,rfl,h⟩
section
variable {prog:Program} {w:World} {A:Around} {E:Q0} {s:Shared}
theorem sI {z:Str} {tz:Tok} {k:Int} {t:Tok} {Q:Q0} (ha:z.cps.all (· < 128)=true) (hk:Builtin.SmallTypes.fitsIndex k=true)
   (h:∀ h',IsEnum h' (s.heap.objs.size+1) s.heap.objs.size k .none->h'.IsStrIter s.heap.objs.size "str_ascii_iterator" z tz 0->h'.objs.size=s.heap.objs.size+2->(∀ b o,s.heap.get? b=some o->h'.get? b=some o)->Q (.ref (s.heap.objs.size+1)) { s with heap:=h' }) :
   wpAny (model prog w) A (call (.type "enumerate") [.str z tz] [("start",.int k t)]) Q E s:=by
 have hz:(s.heap.push { cls:=.type "str_ascii_iterator",data:=.fields #[.str z tz,.int 0 0] }).objs.size=s.heap.objs.size+1:=Fj ..
 refine nK (Q1:=λo s1=>s1.TypeIs o "enumerate"/\Q o s1) F.called_enumerate (by kernel_rfl) (by kernel_rfl) F.entry_enumerate_new (zN z tz k t ha hk) ?_ λo s1 hq=>⟨hq.1,?_,_,aX6 F.called_enumerate.init.lookup F.called_enumerate.made (by decide),hq.1,rfl,hq.2⟩
 · show _/\_
   rw [hz];have he:IsEnum ((s.heap.push { cls:=.type "str_ascii_iterator",data:=.fields #[.str z tz,.int 0 0] }).push ⟨.type "enumerate",none,.fields #[.none,.bool false,.ref s.heap.objs.size,rawInt k,.none,.none],#[]⟩) (s.heap.objs.size+1) s.heap.objs.size k .none:=by
     have q:=Ar (s.heap.push { cls:=.type "str_ascii_iterator",data:=.fields #[.str z tz,.int 0 0] }) (o:=⟨.type "enumerate",none,.fields #[.none,.bool false,.ref s.heap.objs.size,rawInt k,.none,.none],#[]⟩) rfl
     rwa [hz] at q
   exact ⟨⟨_,he,rfl⟩,h _ he ⟨_,Ad _ (Ar _ rfl),rfl,rfl⟩ (by rw [Fj,hz]) λb o x=>Ad _ (Ad _ x)⟩
 · unfold argsOk;rw [signature?_of (n:=['_','_','t','i','n','i','_','_']) (o := "tcejbo".toList) (by kernel_rfl) F.owner_object]
   kernel_rfl
end
def bZV (z:Str) (k:Nat):It :=
 ⟨λi _=>i<z.cps.size,λi H v H'=>∃ p c,H p=none/\v=.ref p/\H'=upd H p (.tup [.int ((k+i:Nat):Int),.str ⟨#[c]⟩])/\z.cps[i]?=some c,λi _=>z.cps.size=i⟩
theorem aQD {P:Program} {w:World} {K:PySem.W.Frag} {elts:List Expr} {x1:Nat} {tp:Pos} (z:Str) (tz:Tok) (e it:Addr) (k:Nat) (hei:e≠it) :
   Turn P w K (.Tuple elts x1 tp) (bZV z k) [e,it] e (λi h=>(∃ old,IsEnum h e it ((k+i:Nat):Int) old)/\h.IsStrIter it "str_ascii_iterator" z tz i) where
 mem:=by simp
 obj:=λi h st b hb=>by
   obtain ⟨⟨old,he⟩,o,ho,c,d⟩:=st;rcases Bd.mp hb with z | z
   · subst z; exact ⟨_,he,λv z=>by cases z⟩
   · rw [Am.mp z]; exact ⟨o,ho,λv z=>by rw [d] at z; cases z⟩
 keep:=λi h h' st kk=>⟨let ⟨old,he⟩:=st.1; ⟨old,kk e (by simp) _ he⟩,let ⟨o,ho,r⟩:=st.2; ⟨o,kk it (by simp) o ho,r⟩⟩
 item:=by
   intro X hP hw hK hc i pins s σ H E I hf st hg;subst hP hw hK;obtain ⟨⟨old,he⟩,hit⟩:=st;have hi:i<z.cps.size:=hg
   have D:=hV k (Draws.strAscii (prog:=X.prog) (w:=X.w) (A:=X.A.in1) (show X.A.in1.handled=none from I.ok.hd hc) it z tz)
   refine wpAny_pyNext_enum_itemD D (i:=k+i) he ⟨Gq _ _,by rw [Dc]; exact hit⟩ (by omega) hei (λz=>hei (Am.mp z)) λy h1 tk hP ho hS hT hsz kk=>?_
   refine ⟨_,rfl,wpAny_letOwnedTupleGo_enum ho λh2 he2 hs2=>?_⟩;obtain ⟨c,u,hcu,rfl⟩:=hP;rw [Dc] at hcu;have hTe:s.heap.objs.size≠e:=Gd (An he)
   have hTi:s.heap.objs.size≠it:=by obtain ⟨o,q,_⟩:=hit; exact Gd (An q)
   have hT2:h2.get? s.heap.objs.size=some { cls:=.type "tuple",data:=.seq #[.int ((k+i:Nat):Int) tk,.str ⟨#[c]⟩ u] }:=(hs2.2 _ hTe).trans hT
   have hS':h1.IsStrIter it "str_ascii_iterator" z tz (i+1):=by
     have q:=hS.2
     rwa [show k+i+1 - k=i+1 by omega] at q
   have I2:Inv X pins σ (upd H s.heap.objs.size (.tup [.int ((k+i:Nat):Int),.str ⟨#[c]⟩])) { s with heap:=h2,toks:=tk+1 }:=by
     refine I.turnLaid (ch:=[e,it]) hf (λb u hb q=>(hs2.2 b (λz=>hb (by simp [z]))).trans (kk b u (λz=>hb (by simp [z])) (λz=>hb (by simp [z])) q)) (Nat.le_refl _) ⟨bQ (by show 2<=_; omega),[.int ((k+i:Nat):Int) tk,.str ⟨#[c]⟩ u],.cons ⟨tk,rfl⟩ (.cons ⟨u,rfl⟩ .nil),_,hT2,rfl,_,rfl⟩
   refine ⟨.ref s.heap.objs.size,_,I2,rfl,⟨_,c,I.hok.fresh (Ag _),rfl,rfl,hcu⟩,⟨⟨_,he2⟩,let ⟨o,ho,r⟩:=hS'; ⟨o,(hs2.2 it hei.symm).trans ho,r⟩⟩,λb hb=>?_⟩
   rcases Bd.mp hb with z | z
   · rw [z,aK hTe.symm]; exact (hf e (by simp)).1
   · rw [List.mem_singleton.mp z,aK hTi.symm]; exact (hf it (by simp)).1
 done:=by
   intro X hP hw hK hc i pins s σ H E I hf st hg;subst hP hw hK;have hx:z.cps.size=i:=hg
   obtain ⟨⟨old,he⟩,hit⟩:=st;have D:=hV k (Draws.strAscii (prog:=X.prog) (w:=X.w) (A:=X.A.in1) (show X.A.in1.handled=none from I.ok.hd hc) it z tz)
   refine wpAny_pyNext_enum_endD D he ⟨Gq _ _,by rw [Dc,hx]; exact hit⟩ λh' eb=>⟨rfl,?_⟩
   exact I.turnAll (t':=s.toks) (ch:=[e,it]) hf λb u hb q=>eb b u (λz=>hb (by simp [z])) q
 self:=λ_ _ _ _ _ st h=>let ⟨⟨_,he⟩,_⟩:=st; Gi he h
section
variable {X:Cx} {l:Expr} {ta tk:TA} {kws:List Keyword} {elts:List Expr} {x1:Nat} {tp p pos kp:Pos}
def aJ9 (R:Addr->Hp->Prop) (S:Str->Hp->Prop):List V->Hp->Prop:=λvs H=>match vs with | [.ref j]=>R j H | [.str z]=>S z H | _=>False
theorem cQS {R:Addr->Hp->Prop} {S:Str->Hp->Prop} {vs:List V} {H:Hp} (q:aJ9 R S vs H):(∃ j,vs=[.ref j]/\R j H)\/(∃ z,vs=[.str z]/\S z H):=by
 unfold aJ9 at q;split at q
 · exact .inl ⟨_,rfl,q⟩
 · exact .inr ⟨_,rfl,q⟩
 · exact q.elim
def bJR (K:PySem.W.Frag) (ta tk:TA):TI:=λσ H R=>ta σ H (aJ9 (λa H1=>tk σ H1 (qJ λk H2=>(0<=k/\k<2 ^ 62)/\onL (rdL H2 a) (R (Ite K a k.toNat) H2))) λz H1=>tk σ H1 (qJ λk H2=>(0<=k/\k<2 ^ 62)/\z.cps.all (· < 128)=true/\R (bZV z k.toNat) H2))
theorem bJX {pins:Q2} {σ:St} {H1:Hp} {s1:Shared} {z:Str} {tz:Tok} {k:Nat} {h':Heap} {R:It->Hp->Prop} {E:Q0} (I1:Inv X pins σ H1 s1) (he:IsEnum h' (s1.heap.objs.size+1) s1.heap.objs.size ((k:Nat):Int) .none) (hi:h'.IsStrIter s1.heap.objs.size "str_ascii_iterator" z tz 0) (hz:h'.objs.size=s1.heap.objs.size+2)
   (hk:∀ b o,s1.heap.get? b=some o->h'.get? b=some o) (q:R (bZV z k) H1):wpAny (model X.prog X.w) X.A (pyIter (.ref (s1.heap.objs.size+1))) (PIE X pins σ (.Tuple elts x1 tp) R) E { s1 with heap:=h' }:=by
 refine Gi (s:={ s1 with heap:=h' }) he ⟨_,[s1.heap.objs.size+1,s1.heap.objs.size],_,_,H1,rfl,I1.kept (t':=s1.toks) hk,aQD z tz _ _ k (Nat.succ_ne_self _),⟨⟨_,he⟩,hi⟩,λb hb=>?_,q⟩
 have z:s1.heap.objs.size<=b:=by
   rcases Bd.mp hb with z | z
   · rw [z]; exact Nat.le_succ _
   · rw [Am.mp z]; exact Ag _
 exact I1.fpOk z (I1.hok.fresh z)
theorem yH {kx:Expr} (hg:Gl X "enumerate") (hm:X.mg "enumerate"=none) (ha:PA X [l] ta) (hk:PK X [⟨some "start",kx,kp⟩] tk) (hs:starEach [l] X.env=[(false,eval l X.env)]:=by rfl)
   (hks:keywordEach [⟨some "start",kx,kp⟩] X.env=[(some ("start" : Str),eval kx X.env)]:=by rfl) :
   PI X (.Tuple elts x1 tp) (.Call (.Name "enumerate" p) [l] [⟨some "start",kx,kp⟩] pos) (bJR X.K ta tk):=by
 intro pins s σ H R I h;have hs2:backTo pos (starEach [l] X.env)=[(false,eval l X.env)]:=by rw [hs]; rfl
 refine Cz (mE I hg hm boot_enumerate (mP (by rw [hs2]; rfl) (by rw [hks]; rfl) ?_))
 rw [hs2];refine evalArgs_kwB (by rw [hks]; rfl) ?_
 rw [<-hs2];refine thn (ha pos pins s σ H _ I h) λus s1 ⟨vs,H1,I1,r1,q1⟩=>?_;have e:(backToKw pos (keywordEach [⟨some "start",kx,kp⟩] X.env)).filterMap (·.1)=(["start"]:List Str):=by rw [hks]; rfl
 rcases cQS q1 with ⟨a,rfl,q⟩ | ⟨z,rfl,q⟩
 · refine thn (hk pos pins s1 σ H1 _ I1 q) λws s2 ⟨zs,H2,I2,r2,q2⟩=>?_;obtain ⟨k,rfl,⟨k0,k1⟩,q⟩:=pT q2;obtain ⟨u,rfl,ru⟩:=eK r1;cases ru;obtain ⟨u,rfl,t,rfl⟩:=eK r2;unfold onL at q;split at q
   · rename_i xs ex
     obtain ⟨its,rv,p,hz⟩:=I2.list (bC ex);rw [e];refine mR (by unfold Builtin.SmallTypes.fitsIndex; rw [Aq (by omega),Aq (by omega)]; rfl) p.isList λh' he hi hz hk=>aXQ I2 (k:=k.toNat) ?_ hi hz hk q
     rw [show ((k.toNat:Nat):Int)=k by omega]
     exact he
   · exact q.elim
 · refine thn (hk pos pins s1 σ H1 _ I1 q) λws s2 ⟨zs,H2,I2,r2,q2⟩=>?_;obtain ⟨k,rfl,⟨k0,k1⟩,hz,q⟩:=pT q2;obtain ⟨u,rfl,ru⟩:=eK r1;obtain ⟨tz,rfl⟩:=ru;obtain ⟨u,rfl,t,rfl⟩:=eK r2;rw [e];refine sI hz (by unfold Builtin.SmallTypes.fitsIndex; rw [Aq (by omega),Aq (by omega)]; rfl) λh' he hi hz hk=>bJX I2 (k:=k.toNat) ?_ hi hz hk q
   rw [show ((k.toNat:Nat):Int)=k by omega]
   exact he
end
section
variable {K:PySem.W.Frag} {a:Addr} {k:Nat} {xs:List V} {g:TG} {tb:TS} {D:Ends} {σ σ0:St} {H H1:Hp} {tests:TT} {te:TE} {Q:VK} {z:Str} {ta tk:TA}
theorem bZ0 (f:Nat->Nat->Option V) (hl:z.length<sizeLine)
   (hs:∀ (i:Nat) c Hc p (A:VK) (B:Hp->Prop),z.cps.toList[i]?=some c->Same H1 Hc->Hc p=none->(∀ Hd,Same (upd Hc p (.tup [.int ((k+i:Nat):Int),.str ⟨#[c]⟩])) Hd->match f i c with | some y=>A y Hd | none=>B Hd)->
     g (.ref p) σ0 (upd Hc p (.tup [.int ((k+i:Nat):Int),.str ⟨#[c]⟩])) λσ2 H2=>Wk σ0 σ2/\tests σ2 H2 λb H3=>if b=true then te σ2 H3 A else B H3)
   (fin:∀ D Hd,H1 D=none->Same H1 Hd->rdL Hd D=some ((List.range z.length).filterMap λi=>f i (z.cps.toList.getD i 0))->Q (.ref D) Hd):eF g tests te σ0 Q (bZV z k) H1:=by
 intro D hD;have hzz:z.cps.size=z.length:=rfl
 refine ⟨λi m Hc=>m=z.length - i/\i<=z.length/\Same H1 Hc/\Hc D=some (.lst ((List.range i).filterMap λi=>f i (z.cps.toList.getD i 0))),⟨z.length,by simp,Nat.zero_le _,aF hD _,by rw [aG]; rfl⟩,?_⟩
 rintro i m Hc ⟨rfl,hi,sm,hDc⟩;by_cases hlt:i<z.length
 · refine .inr ⟨hlt,λv H' y=>?_⟩;obtain ⟨q,c,hq,rfl,rfl,hz⟩:=y;have hx:z.cps.toList[i]?=some c:=by rw [Do]; exact hz
   have hg:z.cps.toList.getD i 0=c:=by rw [Ak,hx]; rfl
   refine hs i c Hc q _ _ hx sm hq λHd sd=>?_;have hDd:Hd D=some (.lst ((List.range i).filterMap λi=>f i (z.cps.toList.getD i 0))):=sd _ _ (aF hq _ _ _ hDc)
   have sH:Same H1 Hd:=sm.trans ((aF hq _).trans sd)
   cases e:f i c with
   | some y=>
     refine ⟨_,hDd,?_,z.length - (i+1),by omega,rfl,hlt,λb o hb=>?_,?_⟩
     · have:=Cw (λi=>f i (z.cps.toList.getD i 0)) (List.range i)
       rw [Bj] at this;omega
     · rw [aK (bG hb hD)]; exact sH b o hb
     · rw [aG,Cp,Bk,Ce (b:=y) (by rw [hg,e]),Bx]
   | none=>
     refine ⟨z.length - (i+1),by omega,rfl,hlt,sH,?_⟩
     rw [hDd,Cp,Bk,Cy (by rw [hg,e]),Bx,Br]
 · have e:i=z.length:=by omega
   subst e;exact .inl ⟨hzz,fin D Hc hD sm (aQ hDc)⟩
theorem bZM {R:It->Hp->Prop} (h:ta σ H (aJ9 (λa H1=>tk σ H1 (qJ λk H2=>(0<=k/\k<2 ^ 62)/\onL (rdL H2 a) (R (Ite K a k.toNat) H2))) λz H1=>tk σ H1 (qJ λk H2=>(0<=k/\k<2 ^ 62)/\z.cps.all (· < 128)=true/\R (bZV z k.toNat) H2))):bJR K ta tk σ H R:=h
theorem eQL {i:Int} (h:Q (.int (-i)) H):dQ6 (.int i) H Q:=h
theorem cQL {R:Addr->Hp->Prop} {S:Str->Hp->Prop} (h:R a H):aJ9 R S [.ref a] H:=h
theorem cZ1 {R:Addr->Hp->Prop} {S:Str->Hp->Prop} (h:S z H):aJ9 R S [.str z] H:=h
end
end L2
set_option maxHeartbeats 4000000
namespace L2
open PySem PySem.Spec PyProof.Rows
section
variable {X:Cx} {a b:Expr} {ta tb:TE} {pos:Pos} {rest:List Expr}
def bJW:Value->Bool
 | .none=>true
 | _=>false
theorem aXY {x:V} {u:Value} (f:bO x=true) (r:RelV x u):eqV x .non=bJW u:=by
 cases x with
 | non=>cases r; rfl
 | bl b=>cases r; rfl
 | int i=>obtain ⟨t,rfl⟩:=r; rfl
 | str i=>obtain ⟨t,rfl⟩:=r; rfl
 | byt i=>cases f
 | flt i=>cases f
 | ref i=>cases f
 | ty i=>cases f
def aXV:V->List V->Hp->VK->Prop:=λx vs H Q=>∃ (p:Addr) (xs:List V) (j:Nat),x=.ref p/\vs=[.non]/\rdL H p=some xs/\xs.all bO=true/\xs[j]?=some .non/\(∀ i y,i<j->xs[i]?=some y->y≠.non)/\Q (.int (j:Int)) H
theorem bQP:MtR X "list.index" aXV:=by
 intro pins s σ H x vs v us Q I rx rv h;obtain ⟨p,xs,j,rfl,rfl,hp,hf,hj,hb,q⟩:=h;cases rx;obtain ⟨u,rfl,ru⟩:=rv.one;cases ru;obtain ⟨its,r,pl,hz⟩:=I.list (bC hp);obtain ⟨⟨c,dd,dt,sl⟩,ho,hc,n,hd⟩:=pl.isList;obtain rfl:c=.type "list" := hc;obtain rfl:dt=.seq its.toArray n:=hd;have hlen:=r.length
 have hjl:j<xs.length:=(Ae.mp hj).1
 have hn:=jK
 have rel:∀ m (hm:m<its.length),∃ x,xs[m]?=some x/\bO x=true/\RelV x its[m]:=λm hm=>by
   have hm':m<xs.length:=by omega
   obtain ⟨u,hu,ru⟩:=r.get (Aa hm');rw [Aa hm] at hu;cases hu;exact ⟨_,Aa hm',As.mp hf _ (Dd _),ru⟩
 have fl:∀ m (hm:m<its.length) x,xs[m]?=some x->bJW its[m]=eqV x .non:=λm hm x hx=>by
   obtain ⟨y,hy,fy,ry⟩:=rel m hm;rw [hx] at hy;cases hy;exact (aXY fy ry).symm
 refine El Er ⟨_,ho,rfl⟩ PySem.F.entry_list_index (PySem.F.args_list_index_2 _ _) (SeqAt.list_indexAt p its.toArray n dd sl .none bJW j (by rw [Av]; omega) (by omega) ?_ ?_) ⟨ho,λy hy=>?_,⟨.int j,H,I.tok _,⟨_,rfl⟩,q⟩⟩
 · rw [Fm,fl j (by omega) _ hj]
   rfl
 · intro m hm hmj;have hm':m<its.length:=by rw [Av] at hm; exact hm
   obtain ⟨y,hy,fy,ry⟩:=rel m hm';rw [Fm,fl m hm' _ hy];have:=hb m y hmj hy
   cases y with
   | non=>exact absurd rfl this
   | _=>rfl
 · have hy':y∈its:=by simpa using hy
   obtain ⟨m,hm,rfl⟩:=List.mem_iff_getElem.mp hy';obtain ⟨z,hz,fz,rz⟩:=rel m hm;rw [<-aXY fz rz];exact oF rz (show RelV .non .none from rfl) fz rfl
def bQN:List V->Hp->VK->Prop:=λxs H Q=>∃ z:Str,xs=[.str z]/\z.length<=sizeLine/\∀ l,H l=none->Q (.ref l) (upd H l (.lst (z.cps.toList.map λc=>.str ⟨#[c]⟩)))
theorem cXK (hc:X.calm=true):CallR X (.type "list") bQN:=by
 intro pins s σ H xs us Q I r h;obtain ⟨z,rfl,hl,q⟩:=h;obtain ⟨u,rfl,t,rfl⟩:=eK r;refine call_list_str (I.ok.hd hc) z t (λh' tk acc c' hk hS hacc=>?_) hl;have hsz:z.cps.toList.length=z.length:=by simp [Str.length]
 refine ⟨.ref s.heap.objs.size,_,I.laid (t':=tk) hk (Ag _) (show ObjOk X.prog X.w _ h' _ (.lst (z.cps.toList.map λc=>.str ⟨#[c]⟩)) from ⟨by rw [Ab,hsz]; exact hl,acc.toList,c',vB ?_ λj x u hx hu=>?_,hS⟩),rfl,q _ (I.hok.fresh (Ag _))⟩
 · rw [Ab,hsz,Fq,hacc.1]; rfl
 · obtain ⟨c,w,hc,rfl⟩:=hacc.2 j u (by rw [<-Do]; exact hu)
   rw [Af,Do,hc] at hx;cases hx;exact ⟨w,rfl⟩
section
variable {σ:St} {H:Hp} {Q:VK} {p:Addr} {xs:List V} {z:Str} {j:Nat}
theorem aZV {g:TG} {tests:TT} {te:TE} {σ0:St} {H1:Hp} (f:Nat->Option V) (hl:z.length<sizeLine)
   (hs:∀ (i:Nat) c Hc (A:VK) (B:Hp->Prop),z.cps.toList[i]?=some c->Same H1 Hc->(∀ Hd,Same Hc Hd->match f c with | some y=>A y Hd | none=>B Hd)->
     g (.str ⟨#[c]⟩) σ0 Hc λσ2 H2=>Wk σ0 σ2/\tests σ2 H2 λb H3=>if b=true then te σ2 H3 A else B H3)
   (fin:∀ D Hd,H1 D=none->Same H1 Hd->Hd D=some (.lst (z.cps.toList.filterMap f))->Q (.ref D) Hd):eF g tests te σ0 Q (Its z) H1:=by
 intro D hD;have hzz:z.cps.size=z.length:=rfl
 have hz2:z.cps.toList.length=z.length:=by simp [Str.length]
 refine ⟨λi m Hc=>m=z.length - i/\i<=z.length/\Same H1 Hc/\Hc D=some (.lst ((z.cps.toList.take i).filterMap f)),⟨z.length,by simp,Nat.zero_le _,aF hD _,by rw [aG]; rfl⟩,?_⟩
 rintro i m Hc ⟨rfl,hi,sm,hDc⟩;by_cases hlt:i<z.length
 · refine .inr ⟨hlt,λv H' y=>?_⟩;obtain ⟨rfl,c,hz,rfl⟩:=y;have hx:z.cps.toList[i]?=some c:=by rw [Do]; exact hz
   refine hs i c H' _ _ hx sm λHd sd=>?_;have hDd:Hd D=some (.lst ((z.cps.toList.take i).filterMap f)):=sd _ _ hDc
   have sH:Same H1 Hd:=sm.trans sd
   cases e:f c with
   | some y=>
     refine ⟨_,hDd,?_,z.length - (i+1),by omega,rfl,hlt,λb o hb=>?_,?_⟩
     · have:=Cw f (z.cps.toList.take i)
       rw [Ba] at this;omega
     · rw [aK (bG hb hD)]; exact sH b o hb
     · rw [aG,Bt,hx,Bk];show some (HO.lst (_++[y]))=some (HO.lst (_++[c].filterMap f))
       rw [Ce e,Bx]
   | none=>
     refine ⟨z.length - (i+1),by omega,rfl,hlt,sH,?_⟩
     rw [hDd,Bt,hx,Bk];show some (HO.lst _)=some (HO.lst (_++[c].filterMap f))
     rw [Cy e,Bx,Br]
 · have e:i=z.length:=by omega
   subst e;refine .inl ⟨Ag _,fin D Hc hD sm ?_⟩;rw [hDc,Bf (by omega)]
theorem aJU {g:TG} {tests:TT} {te:TE} {σ0:St} {H1:Hp} {n:Nat} {lo:Int} (f:Nat->Option V) (hl:n<sizeLine)
   (hs:∀ (i:Nat) Hc (A:VK) (B:Hp->Prop),i<n->Same H1 Hc->(∀ Hd,Same Hc Hd->match f i with | some y=>A y Hd | none=>B Hd)->
     g (.int (lo+i)) σ0 Hc λσ2 H2=>Wk σ0 σ2/\tests σ2 H2 λb H3=>if b=true then te σ2 H3 A else B H3)
   (fin:∀ D Hd,H1 D=none->Same H1 Hd->Hd D=some (.lst ((List.range n).filterMap f))->Q (.ref D) Hd):eF g tests te σ0 Q (Itr lo n) H1:=by
 intro D hD;refine ⟨λi m Hc=>m=n - i/\i<=n/\Same H1 Hc/\Hc D=some (.lst ((List.range i).filterMap f)),⟨n,by simp,Nat.zero_le _,aF hD _,by rw [aG]; rfl⟩,?_⟩
 rintro i m Hc ⟨rfl,hi,sm,hDc⟩;by_cases hlt:i<n
 · refine .inr ⟨hlt,λv H' y=>?_⟩;obtain ⟨rfl,rfl⟩:=y;refine hs i H' _ _ hlt sm λHd sd=>?_;have hDd:Hd D=some (.lst ((List.range i).filterMap f)):=sd _ _ hDc
   have sH:Same H1 Hd:=sm.trans sd
   cases e:f i with
   | some y=>
     refine ⟨_,hDd,?_,n - (i+1),by omega,rfl,hlt,λb o hb=>?_,?_⟩
     · have:=Cw f (List.range i)
       rw [Bj] at this;omega
     · rw [aK (bG hb hD)]; exact sH b o hb
     · rw [aG,Cp,Bk,Ce e,Bx]
   | none=>
     refine ⟨n - (i+1),by omega,rfl,hlt,sH,?_⟩
     rw [hDd,Cp,Bk,Cy e,Bx,Br]
 · have e:i=n:=by omega
   subst e;exact .inl ⟨Ag _,fin D Hc hD sm hDc⟩
theorem bXD (e:rdL H p=some xs) (f:xs.all bO=true) (hj:xs[j]?=some .non) (hb:∀ i y,i<j->xs[i]?=some y->y≠.non) (h:Q (.int (j:Int)) H):aXV (.ref p) [.non] H Q:=⟨p,xs,j,rfl,rfl,e,f,hj,hb,h⟩
theorem cZU (hl:z.length<=sizeLine) (h:∀ l,H l=none->Q (.ref l) (upd H l (.lst (z.cps.toList.map λc=>.str ⟨#[c]⟩)))):bQN [.str z] H Q:=⟨z,rfl,hl,h⟩
end
end
end L2
set_option maxHeartbeats 4000000
namespace L2
open PySem PySem.Spec PyProof.Rows
section
variable {X:Cx}
def dJX:R2:=λx y H Q=>∃ p q xs,x=.ref p/\y=.ref q/\rdL H p=some xs/\rdL H q=some []/\Q (.bl xs.isEmpty) H
theorem eXX (hu:X.A.units<cLine):OpR X (compareOp .Eq) dJX:=by
 intro pins s σ H x y v u Q I rx ry h;obtain ⟨p,q,xs,rfl,rfl,hp,hq,k⟩:=h;cases rx;cases ry;obtain ⟨its,r1,l1,_⟩:=I.list (bC hp);obtain ⟨its2,r2,l2,_⟩:=I.list (bC hq);have e1:=r1.length
 have e2:=r2.length
 cases xs with
 | nil=>
   have z1:its.length=0:=e1.symm
   have z2:its2.length=0:=e2.symm
   refine SeqAt.eq_listAt (e:=λj=>true) l1.isList l2.isList (by simp only [List.size_toArray]; omega) hu (λj h1 h2=>?_) ?_
   · have h1':j<its.length:=by simpa using h1
     omega
   · refine ⟨.bl true,H,I,?_,k⟩;show Value.bool _=Value.bool true
     simp
 | cons x0 xr=>
   rw [Be] at e1;have z2:its2.length=0:=e2.symm
   exact SeqAt.eq_list_lengthsAt l1.isList l2.isList (by simp only [List.size_toArray,bne_iff_ne]; omega) hu ⟨.bl false,H,I,rfl,k⟩
section
variable {H:Hp} {Q:VK} {a:Addr} {kvs:List (Key×V)} {z:Str}
theorem wR {K:PySem.W.Frag} {g:TG} {tests:TT} {te:TE} {σ0:St} {H1:Hp} {xs:List V} (f:V->Option V) (ha:rdL H1 a=some xs) (hl:xs.length<sizeLine)
   (hs:∀ (i:Nat) x Hc (A:VK) (B:Hp->Prop),xs[i]?=some x->Same H1 Hc->(∀ Hd,Same Hc Hd->match f x with | some y=>A y Hd | none=>B Hd)->
     g x σ0 Hc λσ2 H2=>Wk σ0 σ2/\tests σ2 H2 λb H3=>if b=true then te σ2 H3 A else B H3)
   (fin:∀ D Hd,H1 D=none->Same H1 Hd->Hd D=some (.lst (xs.filterMap f))->Q (.ref D) Hd):eF g tests te σ0 Q (Itl K a) H1:=by
 intro D hD;refine ⟨λi m Hc=>m=xs.length - i/\i<=xs.length/\Same H1 Hc/\Hc D=some (.lst ((xs.take i).filterMap f)),⟨xs.length,by simp,Nat.zero_le _,aF hD _,by rw [aG]; rfl⟩,?_⟩
 rintro i m Hc ⟨rfl,hi,sm,hDc⟩;have hr:=aV sm ha
 by_cases hlt:i<xs.length
 · refine .inr ⟨⟨xs,xs[i],bC hr,by simp [hlt]⟩,λv H' y=>?_⟩
   obtain ⟨rfl,hz⟩:=y;have hx:xs[i]?=some v:=hz xs (bC hr)
   refine hs i v H' _ _ hx sm λHd sd=>?_;have hDd:Hd D=some (.lst ((xs.take i).filterMap f)):=sd _ _ hDc
   have sH:Same H1 Hd:=sm.trans sd
   cases e:f v with
   | some y=>
     refine ⟨_,hDd,?_,xs.length - (i+1),by omega,rfl,hlt,λb o hb=>?_,?_⟩
     · have:=Cw f (xs.take i)
       rw [Ba] at this;omega
     · rw [aK (bG hb hD)]; exact sH b o hb
     · rw [aG,Bt,hx,Bk];show some (HO.lst (_++[y]))=some (HO.lst (_++[v].filterMap f))
       rw [Ce e,Bx]
   | none=>
     refine ⟨xs.length - (i+1),by omega,rfl,hlt,sH,?_⟩
     rw [hDd,Bt,hx,Bk];show some (HO.lst _)=some (HO.lst (_++[v].filterMap f))
     rw [Cy e,Bx,Br]
 · have e:i=xs.length:=by omega
   subst e;refine .inl ⟨⟨xs,bC hr,Ag _⟩,fin D Hc hD sm ?_⟩;rw [hDc,Bf (by omega)]
theorem dJH {p q:Addr} {xs:List V} (e:rdL H p=some xs) (e':rdL H q=some []) (h:Q (.bl xs.isEmpty) H):dJX (.ref p) (.ref q) H Q:=⟨p,q,xs,rfl,rfl,e,e',h⟩
end
end
end L2
set_option maxHeartbeats 4000000
namespace L2
open PySem PySem.Spec PyProof.Rows PySem.Builtin PySem.Builtin.Str
section
variable {X:Cx}
theorem sX:∀ l:List (Str×Tok),Vals ((l.map (·.1)).map V.str) (strValues l)
 | []=>.nil
 | p::r=>.cons ⟨p.2,rfl⟩ (sX r)
def zJ:V->List V->Hp->VK->Prop:=λx vs H Q=>∃ z y:Str,x=.str z/\vs=[.str y]/\(y.length == 0)=false/\z.length+2<=sizeLine/\∀ l,H l=none->Q (.ref l) (upd H l (.lst ((Txt.split z y).map V.str)))
theorem lB:MtR X "str.split" zJ:=by
 intro pins s σ H x vs v us Q I rx rv h;obtain ⟨z,y,rfl,rfl,hy,hsz,q⟩:=h;obtain ⟨t,rfl⟩:=rx;obtain ⟨u,rfl,ru⟩:=rv.one;obtain ⟨u,rfl⟩:=ru;have hn:(partsBetween z (occurrences z y 0 z.length (z.length+1)) y.length).length<=sizeLine:=by
   have e1:=StrLaws.occ_length_le z y 0 z.length (z.length+1)
   rw [length_partsBetween]; omega
 have fin:∀ (l:List (Str×Tok)) (k:Nat),l.map (·.1)=Txt.split z y->(Txt.split z y).length<=sizeLine->EP X pins σ Q (.ref s.heap.objs.size) { s with heap:=s.heap.push { cls:=.type "list",data:=.seq (strValues l).toArray },toks:=k }:=λl k e hl=>
   ⟨.ref _,_,I.lnew (ys:=(Txt.split z y).map V.str) (t':=k) (by rw [<-e]; exact sX l) (by rw [Ab]; exact hl),rfl,q _ I.fresh⟩
 cases h1:(decide (z.length<y.length) || decide (strKind z<strKind y))
 · cases hf:(occurrences z y 0 z.length (z.length+1)).isEmpty
   · have es:Txt.split z y=partsBetween z (occurrences z y 0 z.length (z.length+1)) y.length:=(if_neg (ne_true_of_eq_false h1)).trans (if_neg (ne_true_of_eq_false hf))
     refine El F.slot_str_split (Gp _ _ _) F.entry_str_split (F.args_str_split_2 _ _) (meets_str_split_sep z y t u h1 hy hf (by omega) hn) ?_
     show wants _ _ _ { s with toks:=_,heap:=s.heap.push { cls:=.type "list",data:=.seq (strsFrom s.toks (partsBetween z (occurrences z y 0 z.length (z.length+1)) y.length)).toArray } }
     rw [strsFrom_eq];exact fin (numbered s.toks _) _ ((numbered_texts _ _).trans es.symm) (by rw [es]; exact hn)
   · have es:Txt.split z y=[z]:=(if_neg (ne_true_of_eq_false h1)).trans (if_pos hf)
     exact El F.slot_str_split (Gp _ _ _) F.entry_str_split (F.args_str_split_2 _ _) (meets_str_split_not_found z y t u h1 hy hf)
       (fin [(z,t)] s.toks es.symm (by rw [es]; exact bQ (by show 1<=_; omega)))
 · have es:Txt.split z y=[z]:=if_pos h1
   exact El F.slot_str_split (Gp _ _ _) F.entry_str_split (F.args_str_split_2 _ _) (meets_str_split_cannot_occur z y t u h1)
     (fin [(z,t)] s.toks es.symm (by rw [es]; exact bQ (by show 1<=_; omega)))
theorem cZV {H:Hp} {Q:VK} {z y:Str} (hy:(y.length == 0)=false) (hl:z.length<=10000) (h:∀ l,H l=none->Q (.ref l) (upd H l (.lst ((Txt.split z y).map V.str)))):zJ (.str z) [.str y] H Q:=⟨z,y,rfl,rfl,hy,bQ (by omega),h⟩
end
def jc:List (List Nat)->List Nat
 | []=>[]
 | [t]=>t
 | t::u::r=>t++32::jc (u::r)
theorem pR:∀ L:List Str,(Str.join ⟨#[32]⟩ L).cps.toList=jc (L.map λz=>z.cps.toList)
 | []=>rfl
 | [z]=>rfl
 | z::y::r=>by
   have e:Str.join ⟨#[32]⟩ (z::y::r)=z++⟨#[32]⟩++Str.join ⟨#[32]⟩ (y::r):=rfl
   rw [e,FlT.app_cps,FlT.app_cps,pR (y::r)];show z.cps.toList++[32]++_=z.cps.toList++32::_
   rw [Cc];rfl
theorem tJ:∀ (t u a b:List Nat),32 ∉ t->32 ∉ u->t++32::a=u++32::b->t=u/\a=b
 | [],[],a,b,_,_,h=>by injection h with _ h; exact ⟨rfl,h⟩
 | [],c::u,a,b,_,h2,h=>by injection h with h _; exact absurd (by rw [h]; exact Ai) h2
 | c::t,[],a,b,h1,_,h=>by injection h with h _; exact absurd (by rw [<-h]; exact Ai) h1
 | c::t,d::u,a,b,h1,h2,h=>by
   injection h with e h
   obtain ⟨e1,e2⟩:=tJ t u a b (λm=>h1 (Ah _ m)) (λm=>h2 (Ah _ m)) h;exact ⟨by rw [e,e1],e2⟩
theorem bZK:∀ (L M:List (List Nat)),L≠[]->M≠[]->(∀ t ∈ L,32 ∉ t)->(∀ t ∈ M,32 ∉ t)->jc L=jc M->L=M
 | [],_,h,_,_,_,_=>absurd rfl h
 | _::_,[],_,h,_,_,_=>absurd rfl h
 | [t],[u],_,_,_,_,h=>by rw [show t=u from h]
 | [t],u::v::r,_,_,h1,_,h=>by
   have e:t=u++32::jc (v::r):=h
   exact absurd (by rw [e]; exact Ax _ Ai) (h1 t Ai)
 | t::u::r,[v],_,_,_,h2,h=>by
   have e:t++32::jc (u::r)=v:=h
   exact absurd (by rw [<-e]; exact Ax _ Ai) (h2 v Ai)
 | t::u::r,v::w::q,_,_,h1,h2,h=>by
   obtain ⟨e1,e2⟩:=tJ t v _ _ (h1 t Ai) (h2 v Ai) h;rw [e1,bZK (u::r) (w::q) (λz=>nomatch z) (λz=>nomatch z) (λx hx=>h1 x (Ah _ hx)) (λx hx=>h2 x (Ah _ hx)) e2]
theorem nH (x y:Str):Txt.split x y≠[]:=by
 unfold Txt.split;split
 · exact λz=>nomatch z
 · split
   · exact λz=>nomatch z
   · intro z;have:=Dm List.length z
     rw [length_partsBetween] at this;cases this
theorem aQY {L:List Str} (hn:L≠[]) (hf:∀ z ∈ L,32 ∉ z.cps.toList):Txt.split (Txt.join ⟨#[32]⟩ L) ⟨#[32]⟩=L:=by
 have e1:=Dr (Txt.join ⟨#[32]⟩ L) ⟨#[32]⟩
 have f1:=StrLaws.split_free (Txt.join ⟨#[32]⟩ L) 32
 have n1:=nH (Txt.join ⟨#[32]⟩ L) ⟨#[32]⟩
 have e2:Txt.join ⟨#[32]⟩ L=Str.join ⟨#[32]⟩ L:=StrLaws.glued_eq_join _ _
 generalize Txt.split (Txt.join ⟨#[32]⟩ L) ⟨#[32]⟩=M at e1 f1 n1 ⊢;rw [e2] at e1;have e3:=Dm (λz:Str=>z.cps.toList) e1
 rw [pR,pR] at e3;have q:=bZK _ _ (by intro z; exact n1 (En.mp z)) (by intro z; exact hn (En.mp z)) (λt ht=>by obtain ⟨z,hz,rfl⟩:=Bw.mp ht; exact f1 z hz) (λt ht=>by obtain ⟨z,hz,rfl⟩:=Bw.mp ht; exact hf z hz) e3
 exact List.map_inj_right (λa b h=>FlT.str_ext h) |>.mp q
end L2
set_option maxHeartbeats 1000000
namespace L2
open PySem PySem.Spec PyProof.Rows
section
variable {X:Cx}
end
end L2
namespace L2
open PySem PySem.Spec PyProof.Rows
section
variable {prog:Program} {w:World} {A:Around} {R:Result->Shared->Prop} {J:Addr} {us ws:List Addr} {n:Nat} {P:Nat->Value->Prop} {St:Nat->Heap->Prop} {d:Value}
end
section
variable {prog:Program} {w:World} {A:Around} {E:Q0} {s:Shared}
end
section
variable {X:Cx} {l:Expr} {ta:TA} {tk:TA} {p pos kp:Pos}
end
end L2
namespace L2
open PySem PySem.Spec PyProof.Rows
section
variable {X:Cx} {tg a b c:Expr} {p pos:Pos}
end
end L2
set_option maxHeartbeats 4000000
namespace L2
open PySem PySem.Spec PyProof.Rows
section
variable {g:TG} {tests:TT} {te:TE} {σ0:St} {Q:VK} {H1:Hp}
theorem iK {f:Nat->Option V} {i:Nat} {y:V} (h:f i=some y):(List.range (i+1)).filterMap f=(List.range i).filterMap f++[y]:=by
 rw [Cp,Bk,Ce h,Bx]
theorem lO {f:Nat->Option V} {i:Nat} (h:f i=none):(List.range (i+1)).filterMap f=(List.range i).filterMap f:=by
 rw [Cp,Bk,Cy h,Bx,Br]
theorem fY {K:PySem.W.Frag} {a:Addr} {xs:List V} (f:Nat->Option V) (ha:rdL H1 a=some xs) (hl:xs.length<sizeLine)
   (hs:∀ (i:Nat) x Hc (A:VK) (B:Hp->Prop),xs[i]?=some x->Same H1 Hc->(∀ y,f i=some y->∀ Hd,Same Hc Hd->A y Hd)->(f i=none->∀ Hd,Same Hc Hd->B Hd)->
     g x σ0 Hc λσ2 H2=>Wk σ0 σ2/\tests σ2 H2 λb H3=>if b=true then te σ2 H3 A else B H3)
   (fin:∀ D Hd,H1 D=none->Same H1 Hd->Hd D=some (.lst ((List.range xs.length).filterMap f))->Q (.ref D) Hd):eF g tests te σ0 Q (Itl K a) H1:=by
 refine nS (n:=xs.length) (λD i ys Hc=>Same H1 Hc/\ys=(List.range i).filterMap f) hl (λD hD=>⟨aF hD _,rfl⟩)
   (λD i ys Hc _ r h=>⟨xs,xs[i],bC (aV r.1 ha),by simp [h]⟩) (λD ys Hc _ r=>⟨xs,bC (aV r.1 ha),Nat.le_refl _⟩) ?_ ?_
 · rintro D i ys Hc x H' A B hD hi ⟨sm,rfl⟩ hDc ⟨rfl,hz⟩ ha' hb;refine hs i x H' A B (hz xs (bC (aV sm ha))) sm (λy hy Hd sd=>?_) (λhn Hd sd=>?_)
   · exact ha' _ _ (sd _ _ hDc) ⟨eJ hD (sm.trans sd),(iK hy).symm⟩
   · exact hb _ (sd _ _ hDc) ⟨sm.trans sd,(lO hn).symm⟩
 · rintro D ys Hc hD ⟨sm,rfl⟩ hDc _;exact fin D Hc hD sm hDc
end
section
variable {X:Cx} {e:Expr} {te:TE} {p2 pos pu pc:Pos} {j:Nat}
end
end L2
set_option maxHeartbeats 4000000
namespace L2
open PySem PySem.Spec PyProof.Rows
section
variable {X:Cx}
def cJH:R2:=λx y H Q=>∃ z n,x=.str z/\y=.int n/\0<=n/\n<=1000/\z.length<=1000/\Q (.str (Txt.mul z n)) H
theorem bXF:OpR X (binaryOp .Mult) cJH:=by
 intro pins s σ H x y v u Q I rx ry h;obtain ⟨z,n,rfl,rfl,h1,h2,hz,q⟩:=h;obtain ⟨t,rfl⟩:=rx;obtain ⟨t',rfl⟩:=ry;refine SB.mul ⟨?_,λ_ _=>?_,λ_ _=>?_⟩ λt' k=>⟨.str _,H,I.tok _,⟨_,rfl⟩,q⟩
 · rw [Au (by omega),Au (by omega)]; rfl
 · rename_i h3 _
   have:(1000:Int)<=(2 ^ 63 - 1) / n:=(Int.le_ediv_iff_mul_le (by omega)).mpr (by omega)
   omega
 · have:z.length * n.toNat<=1000 * 1000:=Nat.mul_le_mul hz (by omega)
   unfold Builtin.Str.tooLong;have hs:=Gb
   simp;omega
theorem bZ6 {z:Str} {n:Int} {H:Hp} {Q:VK} (h1:0<=n) (h2:n<=1000) (hz:z.length<=1000) (h:Q (.str (Txt.mul z n)) H):cJH (.str z) (.int n) H Q:=⟨z,n,rfl,rfl,h1,h2,hz,h⟩
end
end L2
set_option maxHeartbeats 4000000
namespace L2
open PySem PySem.Spec PyProof.Rows PySem.Builtin PySem.Builtin.Str
section
variable {X:Cx}
def xK (z y:Str):List V:=[.str (Txt.partition z y).1,.str (Txt.partition z y).2.1,.str (Txt.partition z y).2.2]
def qQ:V->List V->Hp->VK->Prop:=λx vs H Q=>∃ z y:Str,x=.str z/\vs=[.str y]/\(y.length == 0)=false/\z.length<=sizeLine/\∀ p,H p=none->Q (.ref p) (upd H p (.tup (xK z y)))
theorem yN:MtR X "str.partition" qQ:=by
 intro pins s σ H x vs v us Q I rx rv h;obtain ⟨z,y,rfl,rfl,hy,hsz,q⟩:=h;obtain ⟨t,rfl⟩:=rx;obtain ⟨u,rfl,ru⟩:=rv.one;obtain ⟨u,rfl⟩:=ru;refine El F.slot_str_partition (Gp _ _ _) F.entry_str_partition (F.args_str_partition_2 _ _) (meets_str_partition z y t u hy hsz) ?_;have ep:Txt.partition z y=match occurrences z y 0 z.length 1 with | i::_=>(strSub z 0 i,y,strSub z (i+y.length) z.length) | []=>(z,Str.empty,Str.empty):=rfl
 unfold xK at q;cases e:occurrences z y 0 z.length 1 with
 | nil=>
   rw [e] at ep;rw [ep] at q;refine ⟨.ref s.heap.objs.size,_,I.laid (t':=_) (o:=.tup [.str z,.str Str.empty,.str Str.empty]) (λb ob q=>Ad _ q) (Ag _) ?_,rfl,q _ I.fresh⟩;exact ⟨bQ (by show 3<=_; omega),[.str z t,.str Str.empty s.toks,.str Str.empty s.toks],.cons ⟨_,rfl⟩ (.cons ⟨_,rfl⟩ (.cons ⟨_,rfl⟩ .nil)),_,Ar _ rfl,rfl,_,rfl⟩
 | cons i r=>
   rw [e] at ep;rw [ep] at q;refine ⟨.ref s.heap.objs.size,_,I.laid (t':=_) (o:=.tup [.str (strSub z 0 i),.str y,.str (strSub z (i+y.length) z.length)]) (λb ob q=>Ad _ q) (Ag _) ?_,rfl,q _ I.fresh⟩;exact ⟨bQ (by show 3<=_; omega),[.str (strSub z 0 i) s.toks,.str y u,.str (strSub z (i+y.length) z.length) (s.toks+1)],.cons ⟨_,rfl⟩ (.cons ⟨_,rfl⟩ (.cons ⟨_,rfl⟩ .nil)),_,Ar _ rfl,rfl,_,rfl⟩
end
theorem cZ4 {z m:Str} {c:Nat} (h:c ∉ z.cps.toList):Txt.partition (z++⟨#[c]⟩++m) ⟨#[c]⟩=(z,⟨#[c]⟩,m):=by
 have ex:(z++⟨#[c]⟩++m).cps.toList=z.cps.toList++c::m.cps.toList:=by
   rw [FlT.app_cps,FlT.app_cps,Cc];rfl
 have at1:∀ i,StrLaws.At (z++⟨#[c]⟩++m) ⟨#[c]⟩ (z++⟨#[c]⟩++m).length i ↔ (z.cps.toList++c::m.cps.toList)[i]?=some c:=λi=>by
   rw [<-ex];exact StrLaws.subAt_one _ c i
 have hz:(z.cps.toList++c::m.cps.toList)[z.cps.toList.length]?=some c:=by
   rw [Bl (Ag _),Gm];rfl
 unfold Txt.partition;rcases StrLaws.occ_head (z++⟨#[c]⟩++m) ⟨#[c]⟩ 1 (Ag 1) with ⟨h0,hn⟩ | ⟨i,r,h0,hi,hn⟩
 · exact absurd ((at1 _).mpr hz) (hn _)
 · rw [h0];have e1:i=z.cps.toList.length:=by
     have l1:¬ i<z.cps.toList.length:=λhlt=>by
       have q:=(at1 i).mp hi
       rw [Bh hlt] at q;exact h (Ap q)
     have l2:¬ z.cps.toList.length<i:=λhlt=>hn _ hlt ((at1 _).mpr hz)
     omega
   subst e1;have s1:strSub (z++⟨#[c]⟩++m) 0 z.cps.toList.length=z:=by
     refine FlT.str_ext ?_;unfold strSub;rw [Array.toList_extract,ex];simp
   have s2:strSub (z++⟨#[c]⟩++m) (z.cps.toList.length+(⟨#[c]⟩:Str).length) (z++⟨#[c]⟩++m).length=m:=by
     refine FlT.str_ext ?_;unfold strSub;rw [Array.toList_extract,ex];have hl:(z++⟨#[c]⟩++m).length=z.cps.toList.length+1+m.cps.toList.length:=by
       show (z++⟨#[c]⟩++m).cps.size=_
       rw [<-Fq,ex,Aj,Be];omega
     rw [hl,show (⟨#[c]⟩:Str).length=1 from rfl];rw [List.extract_eq_drop_take,show z.cps.toList++c::m.cps.toList=(z.cps.toList++[c])++m.cps.toList by rw [Cc]; rfl,show z.cps.toList.length+1=(z.cps.toList++[c]).length by rw [Aj]; rfl,List.drop_left,Bf (by omega)]
   show (strSub _ 0 _,_,strSub _ _ _)=_
   rw [s1,s2]
def aXN:V->List V->Hp->VK->Prop:=λx vs H Q=>∃ z y:Str,x=.str z/\vs=[.str y]/\Q (.bl (Txt.startswith z y)) H
theorem bQ9 {X:Cx}:MtR X "str.startswith" aXN:=by
 intro pins s σ H x vs v us Q I rx rv h;obtain ⟨z,y,rfl,rfl,q⟩:=h;obtain ⟨t,rfl⟩:=rx;obtain ⟨u,rfl,ru⟩:=rv.one;obtain ⟨u,rfl⟩:=ru;exact SC.startswith ⟨.bl _,H,I,rfl,q⟩
theorem wV {H:Hp} {Q:VK} {z y:Str} {b:Bool} (e:Txt.startswith z y=b) (h:Q (.bl b) H):aXN (.str z) [.str y] H Q:=⟨z,y,rfl,rfl,by rw [e]; exact h⟩
theorem starts_iff {z y:Str}:Txt.startswith z y=true ↔ y.cps.toList <+: z.cps.toList:=by
 have e:Txt.startswith z y=(decide (0+y.length<=z.length) && subAt z y 0):=rfl
 rw [e,StrLaws.subAt_eq,Cd,Da,List.drop_zero,Ez];have hl:∀ w:Str,w.length=w.cps.toList.length:=λw=>by simp [Str.length]
 rw [hl,hl];constructor
 · rintro ⟨_,h⟩;have t:=List.take_append_drop y.cps.toList.length z.cps.toList
   rw [h] at t;exact ⟨_,t⟩
 · rintro ⟨r,h⟩;rw [<-h];simp
def jcC (c:Nat):List (List Nat)->List Nat
 | []=>[]
 | [t]=>t
 | t::u::r=>t++c::jcC c (u::r)
theorem rG (c:Nat):∀ L:List Str,(Str.join ⟨#[c]⟩ L).cps.toList=jcC c (L.map λz=>z.cps.toList)
 | []=>rfl
 | [z]=>rfl
 | z::y::r=>by
   have e:Str.join ⟨#[c]⟩ (z::y::r)=z++⟨#[c]⟩++Str.join ⟨#[c]⟩ (y::r):=rfl
   rw [e,FlT.app_cps,FlT.app_cps,rG c (y::r)];show z.cps.toList++[c]++_=z.cps.toList++c::_
   rw [Cc];rfl
theorem xH {k:Nat}:∀ (t u a b:List Nat),k ∉ t->k ∉ u->t++k::a=u++k::b->t=u/\a=b
 | [],[],a,b,_,_,h=>by injection h with _ h; exact ⟨rfl,h⟩
 | [],c::u,a,b,_,h2,h=>by injection h with h _; exact absurd (by rw [h]; exact Ai) h2
 | c::t,[],a,b,h1,_,h=>by injection h with h _; exact absurd (by rw [<-h]; exact Ai) h1
 | c::t,d::u,a,b,h1,h2,h=>by
   injection h with e h
   obtain ⟨e1,e2⟩:=xH t u a b (λm=>h1 (Ah _ m)) (λm=>h2 (Ah _ m)) h;exact ⟨by rw [e,e1],e2⟩
theorem aXJ {c:Nat}:∀ (L M:List (List Nat)),L≠[]->M≠[]->(∀ t ∈ L,c ∉ t)->(∀ t ∈ M,c ∉ t)->jcC c L=jcC c M->L=M
 | [],_,h,_,_,_,_=>absurd rfl h
 | _::_,[],_,h,_,_,_=>absurd rfl h
 | [t],[u],_,_,_,_,h=>by rw [show t=u from h]
 | [t],u::v::r,_,_,h1,_,h=>by
   have e:t=u++c::jcC c (v::r):=h
   exact absurd (by rw [e]; exact Ax _ Ai) (h1 t Ai)
 | t::u::r,[v],_,_,_,h2,h=>by
   have e:t++c::jcC c (u::r)=v:=h
   exact absurd (by rw [<-e]; exact Ax _ Ai) (h2 v Ai)
 | t::u::r,v::w::q,_,_,h1,h2,h=>by
   obtain ⟨e1,e2⟩:=xH t v _ _ (h1 t Ai) (h2 v Ai) h;rw [e1,aXJ (u::r) (w::q) (λz=>nomatch z) (λz=>nomatch z) (λx hx=>h1 x (Ah _ hx)) (λx hx=>h2 x (Ah _ hx)) e2]
theorem yU {c:Nat} {L:List Str} (hn:L≠[]) (hf:∀ z ∈ L,c ∉ z.cps.toList):Txt.split (Txt.join ⟨#[c]⟩ L) ⟨#[c]⟩=L:=by
 have e1:=Dr (Txt.join ⟨#[c]⟩ L) ⟨#[c]⟩
 have f1:=StrLaws.split_free (Txt.join ⟨#[c]⟩ L) c
 have n1:=nH (Txt.join ⟨#[c]⟩ L) ⟨#[c]⟩
 have e2:Txt.join ⟨#[c]⟩ L=Str.join ⟨#[c]⟩ L:=StrLaws.glued_eq_join _ _
 generalize Txt.split (Txt.join ⟨#[c]⟩ L) ⟨#[c]⟩=M at e1 f1 n1 ⊢;rw [e2] at e1;have e3:=Dm (λz:Str=>z.cps.toList) e1
 rw [rG,rG] at e3;have q:=aXJ _ _ (by intro z; exact n1 (En.mp z)) (by intro z; exact hn (En.mp z)) (λt ht=>by obtain ⟨z,hz,rfl⟩:=Bw.mp ht; exact f1 z hz) (λt ht=>by obtain ⟨z,hz,rfl⟩:=Bw.mp ht; exact hf z hz) e3
 exact List.map_inj_right (λa b h=>FlT.str_ext h) |>.mp q
end L2
set_option maxHeartbeats 4000000
namespace L2
open PySem PySem.Spec PyProof.Rows
section
variable {prog:Program} {w:World} {A:Around} {E:Q0} {s:Shared} {jt dq:Addr} {n0 ep:Nat} {en:Array DictEntry} {od:Obj}
end
section
variable {prog:Program} {w:World} {A:Around} {E:Q0} {s:Shared} {dq:Addr} {en:Array DictEntry} {ep:Nat} {od:Obj}
end
section
variable {X:Cx} {tg:Expr} {pins:Q2} {σ:St} {H:Hp} {s:Shared} {a:Addr}
end
section
variable {σ:St} {H:Hp} {Q:VK} {D:Ends} {a b:Addr} {kvs:List (List Key×V)} {k:List Key} {v w:V} {tl:TE} {R:It->Hp->Prop} {g:TG} {tb:TS} {o:Obj}
end
section
variable {X:Cx}
end
section
variable {H:Hp} {Q:VK} {a:Addr} {kvs:List (Key×V)} {z:Str}
end
section
variable {X:Cx}
end
end L2
set_option maxHeartbeats 4000000
namespace L2
open PySem PySem.Spec PyProof.Rows
open PySem.AutoSeq1 (wpAny_loadPart')
open PySem.MeetsSeq PySem.MeetsSeq2 PySem.MeetsSeq3
def EqB (P:Program) (w:World) (A:Around) (s:Shared) (u v:Value):Prop:=∃ b:Bool,∀ (E:Value->Shared->Prop) (Q:Bool->Shared->Prop),Q b s->wpAny (model P w) A (eqBool u v) Q E s
section
variable {P:Program} {w:World} {A:Around} {E:Q0} {s:Shared} {l:Addr} {xs:Array Value}
theorem EqB.same (u:Value):EqB P w A s u u:=⟨true,λE Q hq=>SeqAt.EqAt.same u P w E Q hq⟩
end
section
variable {X:Cx}
end
section
variable {X:Cx} {l:Expr} {ta:TA} {elts:List Expr} {x1:Nat} {tp p pos:Pos}
end
end L2
set_option maxHeartbeats 4000000
namespace L2
open PySem PySem.Spec PyProof.Rows
section
variable {prog:Program} {w:World} {A:Around} {E:Q0} {s:Shared}
def CtxNone (h:Heap) (ea:Addr):Prop:=∃ o fs,h.get? ea=some o/\o.data=.fields fs/\fs[2]?=some .none
theorem CtxNone.ext {h h':Heap} {ea:Addr} (c:CtxNone h ea) (k:∀ o,h.get? ea=some o->h'.get? ea=some o):CtxNone h' ea:=by
 obtain ⟨o,fs,h1,h2,h3⟩:=c;exact ⟨o,fs,k o h1,h2,h3⟩
end
end L2
set_option maxHeartbeats 4000000
namespace L2
open PySem PySem.Spec PyProof.Rows
section
variable {X:Cx} {pins:Q2} {σ:St} {H:Hp} {s:Shared} {ea:Addr}
end
section
variable {prog:Program} {w:World} {A:Around} {E:Q0} {s:Shared}
theorem CtxNone.some {h:Heap} {ea:Addr} (c:CtxNone h ea):∃ o,h.get? ea=Option.some o:=by
 obtain ⟨o,_,e,_⟩:=c;exact ⟨o,e⟩
end
end L2
set_option maxHeartbeats 4000000
namespace L2
open PySem PySem.Spec PyProof.Rows
section
variable {X:Cx} {tg:Expr}
end
section
variable {X:Cx} {tg l a b:Expr} {tl ta tb:TE} {p pos:Pos}
end
end L2
set_option maxHeartbeats 4000000
namespace L2
open PySem PySem.Spec PyProof.Rows
section
variable {P:Program} {w:World} {K:PySem.W.Frag} {mg:Q3} {base:Heap}
end
section
variable {X:Cx} {pn:Q2} {ea:Addr} {k k':Nat} {ps:List Str} {sp:Sp} {x:Str} {p pos:Pos} {e:Expr} {es:List Expr} {t:TA}
end
section
variable {X:Cx} {pins:Q2}
end
end L2
set_option maxHeartbeats 4000000
namespace L2
open PySem PySem.Spec PyProof.Rows
theorem bJA {env env':Env} (h:env'.frame=env.frame) (x:Value):noteFrame x env'=noteFrame x env:=by
 unfold noteFrame PySem.frameOf;rw [h]
section
variable {M:Model} {A:Around} {E:Q0} {s:Shared} {B:Heap} {env:Env} {outer l:List Env} {L e:Addr} {cls fl:Value} {d:Option Addr} {Q:Unit->Shared->Prop}
theorem tQ (hfr:A.frames=some (env::outer)) (hf:env.frame=some L) (F:Fly B (env::outer) e cls d fl s.heap) (hQ:∀ h' fl',Fly B (env::outer) e cls d fl' h'->s.heap.UpToSlots h'->Q () { s with heap:=h' }) :
   wpAny M A (noteFrame (.ref e) env) Q E s:=by
 obtain ⟨hB,hn,hl,oe,vs,T,oT,ts,he,⟨rfl,rfl⟩,hd,h1,hT,hTe,gT,dT,t3,c2⟩:=id F;unfold noteFrame;simp only [hf];refine Ac (Ew he hd h1 ?_);rw [if_pos (show (Value.ref T != Value.none)=true by simp)]
 refine Ac (Ew gT dT t3 ?_);by_cases hfl:(fl == rawInt L)=true
 · rw [if_pos hfl];exact Ao (hQ _ fl F λb o q _=>⟨o.slots,q⟩)
 rw [if_neg hfl];refine Ac (Fl gT dT (Bu.mp t3).1 ?_);have keep:∀ b,b≠T->(s.heap.update T (Obj.mapFields (·.setIfInBounds 3 Value.none))).get? b=s.heap.get? b:=λb hb=>Bs _ _ (Ne.symm hb)
 refine nR (s:={ s with heap:=s.heap.update T (Obj.mapFields (·.setIfInBounds 3 Value.none)) }) hfr (hl.of_keeps λb o q nf=>⟨o,lQ gT dT b o q nf,rfl⟩) hf
   (λb o q=>(keep b λz=>by rw [z,hT] at q; cases q).trans (hB b o q)) hn ((keep e hTe.symm).trans he) hd (Bu.mp h1).1 c2 λh' F' up=>hQ h' _ F' λb o q nf=>up b o (lQ gT dT b o q nf) nf
theorem wO {o:Option Addr} (F:Fly B l e cls d fl s.heap) (hQ:∀ h' fl',Fly B l e cls d fl' h'->s.heap.UpToSlots h'->Q () { s with heap:=h' }):wpAny M A (setFlight (.ref e) o) Q E s:=by
 obtain ⟨hB,hn,hl,oe,vs,T,oT,ts,he,hc,hd,h1,hT,hTe,gT,dT,t3,c2⟩:=F;have z3:3<ts.size:=(Bu.mp t3).1
 unfold setFlight;refine Ac (Ew he hd h1 ?_);rw [if_pos (show (Value.ref T != Value.none)=true by simp)]
 refine Fl gT dT z3 (hQ _ (o.elim .none λf=>rawInt f) ?_ λb o q nf=>⟨o.slots,lQ gT dT b o q nf⟩);have dm:=Ga dT (·.setIfInBounds 3 (o.elim Value.none λf=>rawInt f))
 refine ⟨λb u q=>?_,hn,hl.of_keeps λb u q nf=>⟨u,lQ gT dT b u q nf,rfl⟩,oe,vs,T,_,_,?_,hc,hd,h1,hT,hTe,Heap.get?_update_self _ gT (Obj.isFreed_of_fields dm),dm,by simp [z3],c2⟩
 · rw [Bs _ _ (λz:T=b=>by rw [<-z,hT] at q; cases q)]
   exact hB b u q
 · rw [Bs _ _ hTe];exact he
theorem zR {α:Type} {what:String} {cenv:Env} {Q:α->Shared->Prop} (F:Fly B l e cls d fl s.heap) (hE:∀ h' fl',Fly B l e cls d fl' h'->s.heap.UpToSlots h'->E (.ref e) { s with heap:=h' }) :
   wpAny M A (passOn what (.ref e) cenv:Sem α) Q E s:=by
 obtain ⟨oe,vs,T,oT,ts,he,hc,hd,h1,_⟩:=id F.on;unfold PySem.passOn;refine Ac (Ew he hd h1 ?_);rw [if_neg (show ¬ ((Value.ref T == Value.none)=true) by simp)]
 exact Ac (wO F λh' fl' F' up=>wpAny_throw (hE h' fl' F' up))
theorem zP (hfr:A.frames=some (env::outer)) (hf:env.frame=some L) (F:Fly B (env::outer) e cls d fl s.heap) (hQ:∀ h',Fly B outer e cls d .none h'->s.heap.UpToSlots h'->Q () { s with heap:=h' }):wpAny M A (leaving env (.ref e)) Q E s:=by
 unfold leaving;exact Ac (tQ hfr hf F λh1 fl1 F1 u1=>eO (s:={ s with heap:=h1 }) F1 λh2 F2 u2=>hQ h2 F2.less (u1.trans u2))
theorem Fly.hid {h h':Heap} {C:Addr} {oC:Obj} (F:Fly B l e cls d fl h) (hC:B.get? C=some oC) (sb:Heap.SameBut C h h'):Fly (PySem.W.hideAll B [C]) l e cls d fl h':=by
 have nC:∀ b,B.get? b=none->b≠C:=λb hb z=>by rw [z,hC] at hb; cases hb
 have gone:∀ b,B.get? b=none->(PySem.W.hideAll B [C]).get? b=none:=λb hb=>by
   cases q:(PySem.W.hideAll B [C]).get? b with
   | none=>rfl
   | some o=>
     have:=Fz _ q
     rw [hb] at this;cases this
 obtain ⟨hB,hn,hl,oe,vs,T,oT,ts,he,hc,hd,h1,hT,hTe,gT,r⟩:=F;refine ⟨λb o q=>?_,gone e hn,?_,oe,vs,T,oT,ts,(sb.2 e (nC e hn)).trans he,hc,hd,h1,gone T hT,hTe,(sb.2 T (nC T hT)).trans gT,r⟩
 · have hb:b≠C:=λz=>by
     rw [z,PySem.W.hideAll_none _ Ai] at q;cases q
   exact (sb.2 b hb).trans (hB b o (Fz _ q))
 · have all:∀ l:List Env,h.FunFrames B l->h'.FunFrames (PySem.W.hideAll B [C]) l:=λl=>by
     induction l with
     | nil=>exact λ_=>trivial
     | cons env r ih=>exact λ⟨hk,⟨L,o,hf,hn,ho,hd⟩,hr⟩=>⟨hk,⟨L,o,hf,gone L hn,(sb.2 L (nC L hn)).trans ho,hd⟩,ih hr⟩
   exact all l hl
end
def LX (X:Cx) (Ex:XK):Value->Shared->Prop:=λe s'=>∃ ea cls d B H' fl,e=.ref ea/\s'.os=X.s₀.os/\AllBare s'.gens/\Fly B X.stack ea cls d fl s'.heap/\HOk X.prog X.w H' B/\UnB X.fs X.H₀ H' X.s₀.heap B s'.heap/\Ex cls d H'
def dQI (X:Cx) (Ex:XK):Prop:=∀ e s',X.Ok->LX X Ex e s'->X.xe e s'
theorem cXI {P:Program} {w:World} {K:PySem.W.Frag} {mg:Q3} {base:Heap} {N:List Str} {qual:Str} {scope:Scope} {f:Addr} {cd:Value} {A:Around} {outer:List Env} {s₀:Shared} {H₀:Hp} {E:XK} :
   dQI (gU (CXr P w) P w K mg base N qual scope f cd A outer s₀ H₀ E) E:=by
 intro e s' ok h;obtain ⟨ea,cls,d,B,H',fl,rfl,os,bare,F,hok,un,q⟩:=h;refine zP ok.frames rfl F λh2 F2 up=>?_;refine ⟨ea,cls,d,B,H',rfl,os,bare,F2,hok,⟨un.keep,λb o e n hb=>?_,un.free,un.there,un.tups,un.frzs,un.tbls⟩,q⟩;obtain ⟨sl,q1⟩:=un.slot b o e n hb;obtain ⟨_,o2,g2,nf⟩:=ok.funs.mem hb;have e2:s₀.heap.get? b=some o2:=g2
 rw [e] at e2;cases e2;obtain ⟨sl2,q2⟩:=up b _ q1 nf;exact ⟨sl2,q2⟩
theorem zZ {prog:Program} {w:World} {A:Around} {R:Result->Shared->Prop} {s:Shared} {elt target iter:Expr} {ifs:List Expr} {scope:Scope} {pos:Pos} {it acc:Value} {env:Env} (I:Nat->Shared->Prop)
   (turn:∀ n s,I n s->wpAny (model prog w) A (pyNext it) (λr s₁=>match r with
     | none=>R (.ok .next) s₁
     | some v=>wpAny (model prog w) A (letOwnedTupleGo target it v) (λ_ s₁'=>wpAny (model prog w) A (assign target env v) (λ_ s₂=>
         wpAny (model prog w) A (forIn ifs true λc r=>if r=true then do let ok <-isTrue c env (eval c env); pure (ForInStep.yield ok) else pure (ForInStep.yield r)) (λok s₃=>
           if ok=true then wpAny (model prog w) A (eval elt env) (λx s₄=>
             wpAny (model prog w) A (call (.builtin "list.append") [acc,x]) (λ_ s₅=>∃ m,m<n/\I m s₅) (λ_ _=>False) s₄) (notedBy (model prog w) A env λx s'=>R (.error x) s') s₃
           else ∃ m,m<n/\I m s₃) (λ_ _=>False) s₂) (λ_ _=>False) s₁') (λ_ _=>False) s₁) (λ_ _=>False) s)
   (n:Nat) (h:I n s) :
   codeAny (model prog w) A (.compLoop (.ListComp elt [⟨target,iter,ifs,0⟩] scope pos) 0 it acc env) R s:=by
 refine codeAny_loop rfl I (λn s hI=>?_) n h;show wpAny _ A ((compTurn (.ListComp elt [⟨target,iter,ifs,0⟩] scope pos) 0 it acc env).onRaise (λx=>do noteFrame x env; theTreesLotGoes x)) _ _ s
 refine wpAny_noted ?_;rw [compTurn_list];refine Ac (Ea (Ac (Bo (turn n s hI) (λr s₁ h₁=>?_) λ_ _ h'=>h'.elim)));cases r with
 | none=>exact Ao h₁
 | some v=>
   refine Ac (Bo h₁ (λ_ s₁' h₁'=>?_) λ_ _ h'=>h'.elim);refine Ac (Bo h₁' (λ_ s₂ h₂=>Ac (Bo h₂ (λok s₃ h₃=>?_) λ_ _ h'=>h'.elim)) λ_ _ h'=>h'.elim);cases ok with
   | false=>exact Ao ⟨rfl,h₃⟩
   | true=>
     exact Ac (Ac (Bo h₃ (λx s₄ h₄=>Ac (Bo h₄ (λ_ s₅ h₅=>Ao (Ao ⟨rfl,h₅⟩)) λ_ _ h'=>h'.elim)) λ_ _ h'=>h'))
def CErr (X:Cx) (Ex:XK) (C:Addr) (e:Value) (s':Shared):Prop:=∃ ea cls d B H' fl m,e=.ref ea/\s'.os=X.s₀.os/\AllBare s'.gens/\Fly B X.stack ea cls d fl s'.heap/\B.Ns C m/\HOk X.prog X.w H' B/\H' C=none/\UnB X.fs X.H₀ H' X.s₀.heap B s'.heap/\X.s₀.heap.objs.size<=C/\Ex cls d H'
theorem CErr.post {X:Cx} {Ex:XK} {C:Addr} {e:Value} {s':Shared} (h:CErr X Ex C e s') (ok:X.Ok) (hL:dQI X Ex):∃ m,s'.heap.Ns C m/\∀ h',Heap.SameBut C s'.heap h'->∀ cenv:Env,cenv.locals=C->
   wpAny (model X.prog X.w) X.A (passOn "comprehension.variables-let-go" e cenv:Sem Value) (λ_ _=>False) X.xe { s' with heap:=h' }:=by
 obtain ⟨ea,cls,d,B,H',fl,m,rfl,os,bare,F,nB,hok,hC,un,hz,q⟩:=h;refine ⟨m,nB.keeps λb o e=>F.stays b o e,λh' sb cenv _=>?_⟩;obtain ⟨oC,_,_,gC,_⟩:=id nB;refine zR (s:={ s' with heap:=h' }) (F.hid gC sb) λh2 fl2 F2 up=>hL _ _ ok ?_
 have neC:∀ b o,X.s₀.heap.get? b=some o->b≠C:=λb o e z=>absurd (An e) (Nat.not_lt.mpr (by rw [z]; exact hz))
 have hid:∀ b o,B.get? b=some o->b≠C->(PySem.W.hideAll B [C]).get? b=some o:=λb o e n=>PySem.W.hideAll_get _ e λhm=>n (Am.mp hm)
 refine ⟨ea,cls,d,_,H',fl2,rfl,os,bare,F2,hok.down λb o u e g=>hid b o g λz=>?_,⟨λb o e n hb=>hid b o (un.keep b o e n hb) (neC b o e),λb o e n hb=>?_,un.free,λb o e hb=>?_,un.tups,un.frzs,un.tbls⟩,q⟩
 · rw [z,hC] at e;cases e
 · obtain ⟨sl,q1⟩:=un.slot b o e n hb;obtain ⟨_,o2,g2,nf⟩:=ok.funs.mem hb;rw [e] at g2;cases g2;obtain ⟨sl2,q2⟩:=up b _ ((sb.2 b (neC b o e)).trans q1) nf;exact ⟨sl2,q2⟩
 · obtain ⟨o',q1⟩:=un.there b o e hb;exact ⟨o',hid b o' q1 (neC b o e)⟩
theorem cZS {X:Cx} {Ex:XK} {pins pins':Q2} {σ σ':St} {H3 H:Hp} {s3 s s':Shared} {N:List Str} {scope:Scope} {cl:List (Str×Addr)} {fp:List Addr} {e:Value} {Q:Q0} (hex:X.ex=[]) (hstk:X.stack=X.env::X.outer) (hfm:X.env.frame=some X.env.locals)
   (I3:Inv X pins σ H3 s3) (hf:∀ b∈fp,iG X pins H3 b) (I:Inv (cxC X N scope cl s3.heap.objs.size s3 H3 fp) pins' σ' H s) (h:CXr X.prog X.w X.stack H s Ex e s') (hQ:∀ s'',CErr X Ex s3.heap.objs.size e s''->Q e s'') :
   notedBy (model X.prog X.w) X.A (compEnvC scope cl s3.heap.objs.size X.env) Q e s':=by
 obtain ⟨ea,cls,d,B,H',rfl,os,bare,fl,hok,un,q⟩:=h;have hfr:X.A.frames=some (X.env::X.outer):=by rw [<-hstk]; exact I3.ok.frames
 show wpAny _ _ (noteFrame (.ref ea) (compEnvC scope cl s3.heap.objs.size X.env)) _ _ _
 rw [bJA (show (compEnvC scope cl s3.heap.objs.size X.env).frame=X.env.frame from rfl)];rw [hstk] at fl;refine tQ hfr hfm fl λh2 fl2 F2 up=>hQ _ ?_;rw [<-hstk] at F2;have b3:=I3.base
 have b4:=I.base
 have hx:∀ b,b ∉ X.ex:=λb=>by rw [hex]; simp
 have lo:∀ b o,X.s₀.heap.get? b=some o->b<X.s₀.heap.objs.size:=λb o e=>An e
 have nfp:∀ b o,X.s₀.heap.get? b=some o->b ∉ fp:=λb o e hb=>(hf b hb).2.2.2.1.elim (hx b) λz=>absurd (lo b o e) (Nat.not_lt.mpr z)
 have nst:∀ b o,X.s₀.heap.get? b=some o->b ∉ X.fs->b ∉ frs X.stack:=λb o e hb hm=>by
   rcases Bd.mp (I3.stkSub b hm) with z | z
   · exact absurd (lo b o e) (Nat.not_lt.mpr (by rw [z]; exact I3.ok.above))
   · exact hb z
 have ins:∀ b,b∈X.fs->b∈frs X.stack:=λb hb=>by
   rw [hstk];obtain ⟨e,he,q⟩:=Cm.mp hb;exact Cm.mpr ⟨e,Ah _ he,q⟩
 have fr3:∀ b o,X.s₀.heap.get? b=some o->X.H₀ b=none->H3 b=none:=λb o e n=>b3.free b o e n (hx b)
 obtain ⟨m,nC,_⟩:=id I.loc;have hC0:H s3.heap.objs.size=none:=I.free
 have nCs:s3.heap.objs.size ∉ frs X.stack:=λhm=>by
   obtain ⟨_,o,g,_⟩:=I3.stack.mem hm;exact absurd (An g) (Ds _)
 have nCs':s3.heap.objs.size ∉ frs (cxC X N scope cl s3.heap.objs.size s3 H3 fp).stack:=nCs
 have nB:B.Ns s3.heap.objs.size m:=by
   obtain ⟨o,es,ep,g,r⟩:=nC;exact ⟨o,es,ep,un.keep _ o g hC0 nCs,r⟩
 have hC':H' s3.heap.objs.size=none:=by
   obtain ⟨o,_,_,g,_⟩:=nC;exact un.free _ o g hC0
 refine ⟨ea,cls,d,B,H',fl2,m,rfl,os.trans (I.os.trans I3.os),bare,F2,nB,hok,hC',⟨λb o e n hb=>?_,λb o e n hb=>?_,λb o e n=>?_,λb o e hb=>?_,λb xs e=>un.tups b xs (b4.tups b xs (b3.tups b xs e)),λb o u e=>un.frzs b o u (b4.frzs b o u (b3.frzs b o u e)),λb ps e=>?_⟩,I3.sz,q⟩
 · have e3:=b3.keep b o e n hb (hx b)
   have n3:=fr3 b o e n
   have e4:=b4.keep b o e3 n3 (nst b o e hb) (nfp b o e)
   exact un.keep b o e4 (b4.free b o e3 n3 (nfp b o e)) (nst b o e hb)
 · obtain ⟨sl3,e3⟩:=b3.slot b o e n hb (hx b);have n3:=fr3 b o e n
   obtain ⟨sl4,e4⟩:=b4.slot b _ e3 n3 (ins b hb) (nfp b o e);obtain ⟨sl5,e5⟩:=un.slot b _ e4 (b4.free b _ e3 n3 (nfp b o e)) (ins b hb);obtain ⟨_,o2,g2,nf⟩:=I3.ok.funs.mem hb;rw [e] at g2;cases g2;obtain ⟨sl6,e6⟩:=up b _ e5 nf;exact ⟨sl6,e6⟩
 · obtain ⟨o3,e3⟩:=b3.there b o e (hx b);have n3:=fr3 b o e n
   obtain ⟨o4,e4⟩:=b4.there b o3 e3 (nfp b o e);exact un.free b o4 e4 (b4.free b o3 e3 n3 (nfp b o e))
 · obtain ⟨o3,e3⟩:=b3.there b o e (hx b);obtain ⟨o4,e4⟩:=b4.there b o3 e3 (nfp b o e);exact un.there b o4 e4 (nst b o e hb)
 · obtain ⟨m1,e1⟩:=b3.tbls b ps e;obtain ⟨m2,e2⟩:=b4.tbls b _ e1;obtain ⟨m3,e3⟩:=un.tbls b _ e2;exact ⟨m1++m2++m3,by rw [e3,Ee,Ee,Ee]⟩
theorem aZ9 {X:Cx} {Ex:XK} {pins:Q2} {σ:St} {H2:Hp} {s2:Shared} {N:List Str} {scope:Scope} {cl:List (Str×Addr)} {vals:St->St} {fp:List Addr} {it:Addr} {tn:Nat->Heap->Prop} {J:It} {tg elt iter:Expr} {ifs:List Expr} {pos:Pos}
   {g:TG} {tests:TT} {te:TE} {Q:VK} {E:Q0} {RR:Value->Addr->Result->Shared->Prop} (I2:Inv X pins σ H2 s2) (T:Turn X.prog X.w X.K tg J fp it tn) (st2:tn 0 s2.heap) (f2:∀ b∈fp,iG X pins H2 b) (hc:X.calm=true)
   (ck:ClOk X N scope cl vals) (hcell:∀ y∈scope.names,y.2≠.cell) (hkind:scope.kind=.function)
   (hg:∀ C s₀ H₀ ex,PG (cxC X N scope cl C s₀ H₀ ex) tg g) (ht:∀ C s₀ H₀ ex,PF (cxC X N scope cl C s₀ H₀ ex) ifs tests) (hex:X.ex=[]) (hstk:X.stack=X.env::X.outer) (hfm:X.env.frame=some X.env.locals)
   (he:∀ C s₀ H₀ ex E',fH (CXr X.prog X.w) ((cxC X N scope cl C s₀ H₀ ex).wish E') Ex->PE ((cxC X N scope cl C s₀ H₀ ex).wish E') elt te)
   (h:eF g tests te (vals σ) Q J H2)
   (hRR:∀ D C s' H' m,s'.heap.Ns C m->Q (.ref D) H'->(∀ h'',Heap.SameBut C s'.heap h''->Inv X pins σ H' { s' with heap:=h'' })->iG X pins H' C->RR (.ref D) C (.ok .next) s')
   (hRE:∀ D C e s',CErr X Ex C e s'->RR (.ref D) C (.error e) s') :
   wpAny (model X.prog X.w) X.A (newList []) (λacc s₃=>wpAny (model X.prog X.w) X.A (newFunctionEnv scope X.env.globals cl [] X.env.qual none .none (some X.env)) (λcenv s₄=>
     codeAny (model X.prog X.w) X.A (.compStart (.ListComp elt [⟨tg,iter,ifs,0⟩] scope pos) 0 (.ref it) acc { cenv with scope:=relabel scope X.env }) (RR acc cenv.locals) s₄) E s₃) E s2:=by
 have hD:H2 s2.heap.objs.size=none:=I2.hok.fresh (Ag _)
 obtain ⟨W,⟨m0,w0⟩,turn⟩:=h _ hD;have hlt:∀ b∈fp,b<s2.heap.objs.size:=λb hb=>by
   obtain ⟨o,e,_⟩:=T.obj 0 _ st2 b hb;exact An e
 refine Gh ?_
 -- the list is laid
 have I3:Inv X pins σ (upd H2 s2.heap.objs.size (.lst [])) { s2 with heap:=s2.heap.push { cls:=.type "list",dict:=none,data:=.seq ([]:List Value).toArray } } :=
   I2.lnew (ys:=[]) (its:=[]) (t':=s2.toks) .nil (Dv _)
 have f3:∀ b∈fp,iG X pins (upd H2 s2.heap.objs.size (.lst [])) b:=λb hb=>⟨by rw [aK (Ay (hlt b hb))]; exact (f2 b hb).1,(f2 b hb).2⟩
 have st3:tn 0 (s2.heap.push { cls:=.type "list",dict:=none,data:=.seq ([]:List Value).toArray }):=T.keep _ _ _ st2 λb _ o e=>Ad _ e
 generalize hs3:({ s2 with heap:=s2.heap.push { cls:=.type "list",dict:=none,data:=.seq ([]:List Value).toArray } }:Shared)=s3 at I3 ⊢
 have e3:s3.heap=s2.heap.push { cls:=.type "list",dict:=none,data:=.seq ([]:List Value).toArray }:=by rw [<-hs3]
 rw [<-e3] at st3;have hlt3:∀ b∈fp,b<s3.heap.objs.size:=λb hb=>by
   obtain ⟨o,e,_⟩:=T.obj 0 _ st3 b hb;exact An e
 refine wpAny_newFunctionEnv hcell (by intro y hy; simp at hy) (λh₁ hns₁ hsb₁=>?_) hkind
 have hns:h₁.Ns s3.heap.objs.size λ_=>none:=hns₁
 have I4:=rA (t1:=s3.toks) I3 ck hkind f3 hlt3 hns hsb₁
 have old:∀ b o,s3.heap.get? b=some o->h₁.get? b=some o:=λb o e=>(hsb₁.2 b (Ay (An e))).trans (Ad _ e)
 have st4:tn 0 h₁:=T.keep _ _ _ st3 λb _ o e=>old b o e
 have loop:∀ s₄:Shared,s₄={ s3 with heap:=h₁,toks:=s3.toks }->
     codeAny (model X.prog X.w) X.A (.compLoop (.ListComp elt [⟨tg,iter,ifs,0⟩] scope pos) 0 (.ref it) (.ref s2.heap.objs.size) (compEnvC scope cl s3.heap.objs.size X.env))
       (RR (.ref s2.heap.objs.size) s3.heap.objs.size) s₄:=by
   rintro s₄ rfl;have fpX:∀ {H':Hp},(∀ b∈fp,H' b=none)->∀ b∈fp,iG (cxC X N scope cl s3.heap.objs.size s3 (upd H2 s2.heap.objs.size (.lst [])) fp) [] H' b:=λhn b hb=>
     ⟨hn b hb,Nat.ne_of_lt (hlt3 b hb),λhs=>I4.ok.exfs b hb hs,.inl hb,λx c e=>(I4.ok.exf b hb).2 x c e,λp hp=>absurd (show p∈([]:Q2) from hp) (by simp)⟩
   refine zZ (λn s'=>∃ i H',Inv (cxC X N scope cl s3.heap.objs.size s3 (upd H2 s2.heap.objs.size (.lst [])) fp) [] (vals σ) H' s'/\tn i s'.heap/\(∀ b∈fp,H' b=none)/\W i n H') ?_ m0
     ⟨0,_,I4,st4,λb hb=>(f3 b hb).1,w0⟩
   rintro n s5 ⟨i,H5,I5,st5,fr5,w5⟩;rcases turn i n H5 w5 with ⟨stop,q⟩ | ⟨go,step⟩
   · refine thn (T.done (cxC X N scope cl s3.heap.objs.size s3 (upd H2 s2.heap.objs.size (.lst [])) fp) rfl rfl rfl hc i [] s5 (vals σ) H5 (λ_ _=>False) I5 (fpX fr5) st5 stop) λr s6 ⟨hr,I6⟩=>?_;subst hr;obtain ⟨m,hn,_⟩:=id I6.loc;exact hRR _ _ s6 H5 m hn q (λh'' hsb=>sV I3 f3 I6 hsb) (I3.fpOk (Ag _) I6.free)
   · refine thn (T.item (cxC X N scope cl s3.heap.objs.size s3 (upd H2 s2.heap.objs.size (.lst [])) fp) rfl rfl rfl hc i [] s5 (vals σ) H5 (λ_ _=>False) I5 (fpX fr5) st5 go) λr s6 ⟨u,hr,h6⟩=>?_;subst hr;refine thn h6 λ_ s7 ⟨x,H7,I7,r7,y7,st7,fr7⟩=>?_;have I7':=I7.pinned (fpX fr7) (T.obj _ _ st7)
     refine thn (hg _ _ _ _ _ s7 (vals σ) H7 x u _ I7' r7 (step x H7 y7)) λ_ s8 ⟨σ8,H8,I8,wk8,q8⟩=>?_;refine thn (ht _ _ _ _ _ s8 σ8 H8 _ I8 q8) λb s9 ⟨H9,I9,q9⟩=>?_;have again:∀ {m':Nat} {s':Shared} {H':Hp},Inv (cxC X N scope cl s3.heap.objs.size s3 (upd H2 s2.heap.objs.size (.lst [])) fp) ([]++kS fp s7.heap) σ8 H' s'->m' < n->W (i+1) m' H'->
         ∃ m,m<n/\∃ i H',Inv (cxC X N scope cl s3.heap.objs.size s3 (upd H2 s2.heap.objs.size (.lst [])) fp) [] (vals σ) H' s'/\tn i s'.heap/\(∀ b∈fp,H' b=none)/\W i m H':=fun {m' s' H'} J7 hm w7=>by
       refine ⟨m',hm,i+1,H',(J7.weak wk8.1 wk8.2).unpinned,T.keep _ _ _ st7 λb hb o e=>(J7.pin (b,o) (Ax _ (Ax _ (fT hb e)))).1,λb hb=>?_,w7⟩;obtain ⟨o,e,d⟩:=T.obj _ _ st7 b hb;exact (J7.pin (b,o) (Ax _ (Ax _ (fT hb e)))).2.1
     cases b with
     | true=>
       rw [if_pos rfl] at q9 ⊢;have px:fH (CXr X.prog X.w) ((cxC X N scope cl s3.heap.objs.size s3 (upd H2 s2.heap.objs.size (.lst [])) fp).wish (notedBy (model X.prog X.w) X.A (compEnvC scope cl s3.heap.objs.size X.env) λx s'=>RR (.ref s2.heap.objs.size) s3.heap.objs.size (.error x) s')) Ex :=
         λpins' σ' H' s' e s'' J hx=>cZS (Q:=λx s'=>RR (.ref s2.heap.objs.size) s3.heap.objs.size (.error x) s') hex hstk hfm I3 f3 J.unwish hx λs3' hq=>hRE _ _ _ _ hq
       refine thn (he _ _ _ _ _ px _ s9 σ8 H9 _ (I9.wish _) q9) λv s10 ⟨y,H10,I10',r10,zs,hz,hl,m',hm,w10⟩=>?_;have I10:=I10'.unwish
       have ap:=oG ([]++kS fp s7.heap) s10 σ8 H10 (.ref s2.heap.objs.size) [y] (.ref s2.heap.objs.size) [v] (λ_ H'=>H'=upd H10 s2.heap.objs.size (.lst (zs++[y]))) I10 rfl (.cons r10 .nil) ⟨_,_,_,rfl,rfl,hz,hl,rfl⟩
       refine thn ap λ_ s11 ⟨_,H11,I11,_,e11⟩=>?_;subst e11;exact again I11 hm w10
     | false=>
       rw [if_neg Al] at q9 ⊢;obtain ⟨m',hm,w9⟩:=q9;exact again I9 hm w9
 exact codeAny_compStart_list (loop _ rfl) (T.self _ 0 _ _ _ st4 (loop _ rfl))
section
variable {X:Cx} {Ex:XK} {N:List Str} {scope:Scope} {cl:List (Str×Addr)} {vals:St->St} {tg elt iter:Expr} {ifs:List Expr} {pos spos py:Pos} {wi:TI} {g:TG} {tests:TT} {te:TE}
theorem bZP {i:Nat} {x:Str} (hN:X.N.Nodup) (hix:X.N[i]?=some x) (hx:Loc X.env.scope x) (hc:X.calm=true) (hi:PI X tg iter wi) (ck:ClOk X N scope cl vals) (hcell:∀ y∈scope.names,y.2≠.cell) (hkind:scope.kind=.function)
   (hnames:∀ x∈scope.names,x.2=.local->scope.names.lookup x.1=some .local)
   (hg:∀ C s₀ H₀ ex,PG (cxC X N scope cl C s₀ H₀ ex) tg g) (ht:∀ C s₀ H₀ ex,PF (cxC X N scope cl C s₀ H₀ ex) ifs tests) (hex:X.ex=[]) (hstk:X.stack=X.env::X.outer) (hfm:X.env.frame=some X.env.locals) (hL:dQI X Ex) (he:∀ C s₀ H₀ ex E',fH (CXr X.prog X.w) ((cxC X N scope cl C s₀ H₀ ex).wish E') Ex->PE ((cxC X N scope cl C s₀ H₀ ex).wish E') elt te)
   (hsw:swapsWith (.ListComp elt [⟨tg,iter,ifs,0⟩] scope pos) (some (.Name x py)) spos.line X.env=pure true:=by rfl)
   (hf:X.fn x=true\/X.env.scope.names.lookup x=some .local:=by first | exact .inl rfl | exact .inr rfl | assumption)
   (hs:∀ x,foldedSetIterable iter X.env x=pure x:=by intro _; rfl):PS X (.Assign [.Name x py] (.ListComp elt [⟨tg,iter,ifs,0⟩] scope pos) spos) (bX8 (aZR wi g tests te vals) (lP i)):=by
 intro pins s σ H D I h;rw [exec_Assign_Name_used _ _ _ _ hsw];refine Ac (Ea (Ac ?_));show wpAny _ X.A (do let _ <-comprehension (.ListComp elt [⟨tg,iter,ifs,0⟩] scope pos) scope X.env _ (newList []) false (eval iter X.env) (some (assign (.Name x py) X.env))) _ _ s
 refine Ac (Bo (Ft (use:=some (assign (.Name x py) X.env)) (Q:=λ_ s'=>SP X pins D .next s') rfl hs ck.clos hkind hnames
   (thn (hi pins s σ H _ I h) λv s1 h1=>thn h1 λitv s2 h2=>?_)) (λ_ s' hq=>Ao (Ao hq)) λ_ _ e=>e)
 obtain ⟨it,fp,tn,J,H2,e,I2,T,st2,f2,q⟩:=h2;subst e;refine aZ9 (RR:=λacc C=>compPost (model X.prog X.w) X.A X.xe (some (assign (.Name x py) X.env)) (λ_ s'=>SP X pins D .next s') acc C) I2 T st2 f2 hc ck hcell hkind hg ht hex hstk hfm he q (λDl C s' H' m hn q' back fC=>?_) λD C e s' hq=>hq.post I.ok hL;show wpAny _ X.A (assign (.Name x py) X.env (.ref Dl)) _ _ s'
 have I':Inv X pins σ H' s':=back s'.heap (Heap.SameBut.refl ..)
 refine wpAny_assign_Name (nZ I' hN hix hx (v:=.ref Dl) rfl (λs'' I'' hsb=>?_) hf);obtain ⟨a,hsb,ha⟩:=hsb;have hCa:C≠a:=by
   rcases ha with z | z
   · rw [z]; exact fC.2.1
   · exact λe=>fC.2.2.2.2.1 x a z e.symm
 refine ⟨m,hn.sameBut hsb hCa,λh3 hsb3=>?_⟩;exact ⟨σ.set i (some (.ref Dl)),H',I''.turned (t':=s''.toks) (λb o hb e=>(hsb3.2 b hb).trans e) fC.1 fC.2.1 fC.2.2.2.1 fC.2.2.2.2.1 fC.2.2.2.2.2,q'⟩
end
end L2
set_option maxHeartbeats 4000000
namespace L2
open PySem PySem.Spec PyProof.Rows
end L2
set_option maxHeartbeats 4000000
namespace L2
open PySem PySem.Spec PyProof.Rows
section
variable {prog:Program} {w:World} {A:Around} {E:Q0} {R:Result->Shared->Prop} {old:Heap} {S l it:Addr} {vs:List Value} {J:Nat->Obj->Prop}
end
section
variable {prog:Program} {w:World} {A:Around} {E:Q0} {s:Shared}
def bare (led:Bool):Obj:={ cls:=.type "set",dict:=none,data:=.set #[] 0 (.fresh 0 0 led) }
end
end L2
set_option maxHeartbeats 4000000
namespace L2
open PySem PySem.Spec PyProof.Rows
def cJF:List V->Hp->VK->Prop:=λxs H Q=>(∃ j:Int,xs=[.int j]/\∀ r,H r=none->Q (.ref r) (upd H r (.rng 0 j)))\/(∃ i j:Int,xs=[.int i,.int j]/\∀ r,H r=none->Q (.ref r) (upd H r (.rng i j)))
theorem Inv.rngNew {X:Cx} {pins:Q2} {σ:St} {H:Hp} {s:Shared} {lo hi:Int} {t u v:Tok} {tk:Nat} (I:Inv X pins σ H s) :
   Inv X pins σ (upd H s.heap.objs.size (.rng lo hi)) { s with heap:=s.heap.push { cls:=.type "range",data:=.fields #[.int lo t,.int hi u,.int 1 v] },toks:=tk } :=
 (I.kept (t':=tk) λb o e=>Ad _ e).adopt (I.freAt (Ag _)) (I.hok.fresh (Ag _)) ⟨t,u,v,Ar _ rfl⟩
theorem dQ3 {X:Cx}:CallR X (.type "range") cJF:=by
 intro pins s σ H xs us Q I r h;rcases h with ⟨j,rfl,q⟩ | ⟨i,j,rfl,q⟩
 · obtain ⟨u,rfl,⟨t,rfl⟩⟩:=eK r;exact call_range_1 ⟨.ref _,_,I.rngNew,rfl,q _ (I.hok.fresh (Ag _))⟩
 · obtain ⟨u,w',rfl,⟨t,rfl⟩,⟨t',rfl⟩⟩:=aZW r;exact call_range_2 ⟨.ref _,_,I.rngNew,rfl,q _ (I.hok.fresh (Ag _))⟩
theorem cQR {H:Hp} {Q:VK} {j:Int} (h:∀ r,H r=none->Q (.ref r) (upd H r (.rng 0 j))):cJF [.int j] H Q:=.inl ⟨j,rfl,h⟩
end L2
set_option maxHeartbeats 4000000
namespace L2
open PySem PySem.Spec PyProof.Rows
def bJE:List V->Hp->VK->Prop:=λxs H Q=>∃ (a:Addr) (n:Nat),xs=[.ref a]/\H a=some (.rng 0 (n:Int))/\n<=100000/\∀ r,H r=none->Q (.ref r) (upd H r (.lst ((List.range n).map λi=>V.int ((i:Nat):Int))))
theorem cZZ {X:Cx} (hc:X.calm=true):CallR X (.type "list") bJE:=by
 intro pins s σ H xs us Q I r h;obtain ⟨a,n,rfl,ha,hn,q⟩:=h;obtain ⟨u,rfl,ru⟩:=eK r;cases ru;obtain ⟨t0,t1,t2,ho⟩:=I.hok a _ ha;refine call_list_range (n:=n) (I.ok.hd hc) ho (small_one (by decide) (by decide) (by omega) (by omega)) (by rw [rangeSize_nat]; omega) (by omega) λh' tk acc c hk hS hacc=>?_
 refine ⟨.ref s.heap.objs.size,_,I.laid (a:=s.heap.objs.size) (o:=.lst ((List.range n).map λi=>V.int ((i:Nat):Int))) (t':=tk) hk (Ag _) ⟨by rw [Ab,Bj]; exact bQ hn,acc.toList,c,?_,by rw [hS]⟩,rfl,q _ (I.hok.fresh (Ag _))⟩
 refine vB (by rw [Ab,Bj,Fq,hacc.1]) λj x u hx hu=>?_
 obtain ⟨tk',rfl⟩:=hacc.2 j u (by rw [<-Do]; exact hu)
 have hj:j<n:=by
   have:=(Ae.mp hu).1
   rw [Fq,hacc.1] at this;exact this
 rw [Af,Di hj] at hx;cases hx;exact ⟨tk',by rw [show (0:Int)+((j:Nat):Int) * 1=((j:Nat):Int) by omega]⟩
theorem cQI {H:Hp} {Q:VK} {a:Addr} {n:Nat} (ha:H a=some (.rng 0 (n:Int))) (hn:n<=100000) (h:∀ r,H r=none->Q (.ref r) (upd H r (.lst ((List.range n).map λi=>V.int ((i:Nat):Int))))):bJE [.ref a] H Q:=⟨a,n,rfl,ha,hn,h⟩
theorem Lsts.app {H1 Hc:Hp} {ps qs:List Addr} {fs gs:List (List V)} (t:Lsts H1 Hc ps fs) (u:Lsts H1 Hc qs gs):Lsts H1 Hc (ps++qs) (fs++gs):=by
 refine ⟨by rw [Aj,Aj,t.1,u.1],λj p v hp hv=>?_⟩
 by_cases h:j<ps.length
 · rw [Bh h] at hp;rw [Bh (by rw [<-t.1]; exact h)] at hv
   exact t.2 j p v hp hv
 · rw [Bl (by omega)] at hp
   rw [Bl (by rw [<-t.1]; omega),<-t.1] at hv
   exact u.2 _ p v hp hv
section
variable {g:TG} {tests:TT} {te:TE} {σ0:St} {Q:VK} {H1:Hp}
theorem yD {K:PySem.W.Frag} {a:Addr} {xs:List V} (f:Nat->List V) (ha:rdL H1 a=some xs) (hl:xs.length<sizeLine)
   (hs:∀ (i:Nat) x Hc (A:VK) (B:Hp->Prop),xs[i]?=some x->Same H1 Hc->(∀ q Hd,Hc q=none->Same Hc Hd->Hd q=some (.tup (f i))->A (.ref q) Hd)->
     g x σ0 Hc λσ2 H2=>Wk σ0 σ2/\tests σ2 H2 λb H3=>if b=true then te σ2 H3 A else B H3)
   (fin:∀ D Hd ps,H1 D=none->Same H1 Hd->Hd D=some (.lst (ps.map V.ref))->ps.length=xs.length->Tups H1 Hd ps ((List.range xs.length).map f)->Q (.ref D) Hd):eF g tests te σ0 Q (Itl K a) H1:=by
 refine nS (n:=xs.length) (λD i ys Hc=>Same H1 Hc/\∃ ps,ys=ps.map V.ref/\ps.length=i/\Tups H1 Hc ps ((List.range i).map f)) hl (λD hD=>⟨aF hD _,[],rfl,rfl,.nil⟩)
   (λD i ys Hc _ r h=>⟨xs,xs[i],bC (aV r.1 ha),by simp [h]⟩) (λD ys Hc _ r=>⟨xs,bC (aV r.1 ha),Nat.le_refl _⟩) ?_ ?_
 · rintro D i ys Hc x H' A B hD hi ⟨sm,ps,rfl,hn,tp⟩ hDc ⟨rfl,hz⟩ ha' hb;refine hs i x H' A B (hz xs (bC (aV sm ha))) sm (λq Hd hq sd hd=>?_);refine ha' _ _ (sd _ _ hDc) ⟨eJ hD (sm.trans sd),ps++[q],by rw [Bi]; rfl,by rw [Aj,hn]; rfl,?_⟩
   rw [Cp,Bi];exact ((tp.keep sd).app (.one (none_of sm hq) hd)).put (sd _ _ hDc)
 · rintro D ys Hc hD ⟨sm,ps,rfl,hn,tp⟩ hDc _;exact fin D Hc ps hD sm hDc hn tp
end
end L2
set_option maxHeartbeats 1000000
namespace L2
open PySem
def adv (t:SetTable) (p:SetTable.Probe):Nat->SetTable.Probe
 | 0=>p
 | n+1=>adv t (t.advance p) n
def eQT (mask i per:Nat) (d:Option Nat):SetTable.Probe:={ j:=i,more:=SetTable.runEnd mask i - i,i:=i,perturb:=per,dummy:=d }
def gR (mask:Nat) (x:Nat×Nat):Nat->Nat×Nat
 | 0=>x
 | n+1=>gR mask (SetTable.leap mask x.1 x.2) n
theorem tZ (mask m:Nat):∀ (n:Nat) (x:Nat×Nat),gR mask x (n+m)=gR mask (gR mask x n) m
 | 0,x=>by rw [Nat.zero_add]; rfl
 | n+1,x=>by rw [Nat.succ_add]; exact tZ mask m n _
theorem tD (mask:Nat):∀ (n:Nat) (x:Nat×Nat),(gR mask x n).2=x.2 / 32 ^ n
 | 0,x=>by show x.2=x.2 / 1; rw [Nat.div_one]
 | n+1,x=>by
   show (gR mask (SetTable.leap mask x.1 x.2) n).2=_
   rw [tD mask n];show x.2 / 32 / 32 ^ n=_
   rw [Nat.div_div_eq_div_mul,Nat.pow_succ,Nat.mul_comm]
def cyc (M:Nat):Nat->Nat
 | 0=>0
 | n+1=>(cyc M n * 5+1) % M
theorem nQ (mask:Nat):∀ (n a:Nat),(gR mask (cyc (mask+1) a,0) n)=(cyc (mask+1) (a+n),0)
 | 0,a=>rfl
 | n+1,a=>by
   show gR mask (SetTable.leap mask (cyc (mask+1) a) 0) n=_
   have e:SetTable.leap mask (cyc (mask+1) a) 0=(cyc (mask+1) (a+1),0):=by
     show ((cyc (mask+1) a * 5+1+0 / 32) % (mask+1),0 / 32)=_
     rw [Nat.zero_div,Nat.add_zero];rfl
   rw [e,nQ mask n (a+1),Nat.add_right_comm,Nat.add_assoc]
def Full (M:Nat):Prop:=cyc M M=0/\∀ e,e<M->∃ n,n<M/\cyc M n=e
theorem aZS (M:Nat) (h:cyc M M=0):∀ n,cyc M (M+n)=cyc M n
 | 0=>h
 | n+1=>by
   show (cyc M (M+n) * 5+1) % M=_
   rw [aZS M h n];rfl
theorem Full.reach {mask:Nat} (F:Full (mask+1)) {x e:Nat} (hx:x<mask+1) (he:e<mask+1):∃ m,m<=mask/\(gR mask (x,0) m).1=e:=by
 obtain ⟨a,ha,rfl⟩:=F.2 x hx;obtain ⟨b,hb,rfl⟩:=F.2 e he;by_cases h:a<=b
 · exact ⟨b - a,by omega,by rw [nQ,Nat.add_sub_cancel' h]⟩
 · exact ⟨mask+1+b - a,by omega,by rw [nQ,show a+(mask+1+b - a)=mask+1+b by omega,aZS _ F.1]⟩
theorem aZL {mask:Nat}:∀ (n:Nat) {x:Nat×Nat},x.1<mask+1->(gR mask x n).1<mask+1
 | 0,x,h=>h
 | n+1,x,h=>aZL n (x:=SetTable.leap mask x.1 x.2) (Nat.mod_lt _ (Nat.succ_pos _))
theorem eZQ {mask:Nat} (F:Full (mask+1)) {i per e:Nat} (hi:i<mask+1) (hp:per<2 ^ 64) (he:e<mask+1):∃ m,m<=mask+13/\(gR mask (i,per) m).1=e:=by
 obtain ⟨m,hm,e1⟩:=F.reach (x:=(gR mask (i,per) 13).1) (aZL 13 hi) he;refine ⟨13+m,by omega,?_⟩
 rw [tZ];have hz:(gR mask (i,per) 13).2=0:=by
   rw [tD];exact Nat.div_eq_of_lt (Bc hp (by decide))
 rw [show gR mask (i,per) 13=((gR mask (i,per) 13).1,0) from Prod.ext rfl hz];exact e1
section
variable {prog:Program} {w:World} {A:Around} {E:Q0} {s:Shared}
end
end L2
set_option maxHeartbeats 4000000
namespace L2
open PySem PySem.Spec PyProof.Rows
section
variable {X:Cx} {a b:Expr} {rest:List Expr} {pos:Pos} {ta tb:TE}
end
end L2
set_option maxHeartbeats 4000000
namespace L2
open PySem PySem.Spec PyProof.Rows
open PySem.AutoSeq1 (wpAny_loadPart')
open PySem.MeetsSeq PySem.MeetsSeq2 PySem.MeetsSeq3
section
variable {P:Program} {w:World} {A:Around} {E:Q0} {s:Shared} {l b:Addr} {xs ys:Array Value} {as bs:List Int}
end
open PySem.W (KasT kas_sort kas_cmp kas_item kas_item_eq kas_range kas_runs kas_kind kas_st)
def eQZ {α:Type} (lt:Nat->Nat->Bool):KasT α->α
 | .ret a=>a
 | .ask i j k=>eQZ lt (k (lt i j))
def kok {α:Type} (lt:Nat->Nat->Bool) (n:Nat):KasT α->Bool
 | .ret _=>true
 | .ask i j k=>decide (i<n) && decide (j<n) && kok lt n (k (lt i j))
section
variable {prog:Program} {w:World} {A:Around} {E:Q0} {s:Shared}
end
end L2
set_option maxHeartbeats 4000000
namespace L2
open PySem PySem.Spec PyProof.Rows
end L2
set_option maxHeartbeats 1000000
namespace L2
open PySem
def eZK (mask:Nat):SetTable:={ SetTable.fresh 0 0 false with mask:=mask }
def plc (mask:Nat) (h:Int) (n:Nat):Nat:=(adv (eZK mask) (eQT mask (SetTable.bits h % (mask+1)) (SetTable.bits h) none) n).j
def Ris (xs:Array Nat):Prop:=∀ (i k a b:Nat),i<k->xs[i]?=some a->xs[k]?=some b->a<b
theorem getD_none {owner:Array (Option Nat)} {j:Nat} (h:owner.getD j (some 0)=none):j<owner.size/\owner.getD j none=none:=by
 have hj:j<owner.size:=by
   refine Nat.lt_of_not_le λz=>?_;rw [Ck,Array.getElem?_eq_none z] at h;cases h
 rw [Ck,Dk hj] at h ⊢;exact ⟨hj,h⟩
theorem getD_some {owner:Array (Option Nat)} {j:Nat} (hj:j<owner.size) (h:owner.getD j (some 0)≠none):∃ k,owner.getD j none=some k:=by
 rw [Ck,Dk hj] at h ⊢;cases e:owner[j] with
 | none=>rw [e] at h; exact absurd rfl h
 | some k=>exact ⟨k,rfl⟩
section
variable {prog:Program} {w:World} {A:Around} {E:Q0} {s:Shared}
end
open PySem.Spec PyProof.Rows
def Alx (H:Hp):Nat->V->V->Prop
 | 0,x,y=>x=y/\(bO x=true\/∃ p,x=.ref p)
 | n+1,x,y=>(x=y/\(bO x=true\/∃ p,x=.ref p))\/∃ p q,x=.ref p/\y=.ref q/\((∃ xs ys,rdL H p=some xs/\rdL H q=some ys/\xs.length=ys.length/\∀ (j:Nat) x' y',xs[j]?=some x'->ys[j]?=some y'->Alx H n x' y')\/∃ kvs kws,Rd H p (.dK kvs)/\Rd H q (.dK kws)/\DEq kvs kws)
theorem Alx.same {H:Hp} {n:Nat} {x:V} (h:bO x=true\/∃ p,x=.ref p):Alx H n x x:=by
 cases n with
 | zero=>exact ⟨rfl,h⟩
 | succ n=>exact .inl ⟨rfl,h⟩
end L2
set_option maxHeartbeats 1000000
namespace L2
open PySem PySem.Spec PyProof.Rows
def hdl (i:Nat) (ts:TS) (D:Ends) (cls:Value) (d:Option Addr) (σ1:St) (H1:Hp):Prop:=∀ ea,H1 ea=none->
 ts { nx:=λσ2 H2=>D.nx (σ2.set i none) H2,rt:=D.rt,bk:=λσ2 H2=>D.bk (σ2.set i none) H2,ct:=λσ2 H2=>D.ct (σ2.set i none) H2 } (σ1.set i (some (.ref ea))) (upd H1 ea (fZ ea cls d))
section
variable {X:Cx} {pins:Q2}
end
end L2
set_option maxHeartbeats 1000000
namespace L2
open PySem PySem.Spec PyProof.Rows
section
variable {X:Cx}
def eZF:R2:=λx y H Q=>∃ p q xs,x=.ref p/\y=.ref q/\rdL H p=some xs/\rdL H q=some []/\Q (.bl (!xs.isEmpty)) H
theorem eQG (hu:X.A.units<cLine):OpR X (compareOp .NotEq) eZF:=by
 intro pins s σ H x y v u Q I rx ry h;obtain ⟨p,q,xs,rfl,rfl,hp,hq,k⟩:=h;cases rx;cases ry;obtain ⟨its,r1,l1,_⟩:=I.list (bC hp);obtain ⟨its2,r2,l2,_⟩:=I.list (bC hq);have e1:=r1.length
 have e2:=r2.length
 have z2:its2.length=0:=e2.symm
 cases xs with
 | nil=>
   have z1:its.length=0:=e1.symm
   refine SeqAt.RcNeAt.lists (e:=λj=>true) l1.isList l2.isList (by simp only [List.size_toArray]; omega) hu (λj h1 h2=>?_) X.prog X.w _ _ ?_
   · have h1':j<its.length:=by simpa using h1
     omega
   · refine ⟨.bl false,H,I,?_,k⟩;show Value.bool _=Value.bool false
     simp
 | cons x0 xr=>
   rw [Be] at e1;exact SeqAt.RcNeAt.lists_lengths l1.isList l2.isList (by simp only [List.size_toArray,bne_iff_ne]; omega) hu X.prog X.w _ _ ⟨.bl true,H,I,rfl,k⟩
end
theorem kF {H:Hp} {Q:VK} {z y:Str} (hy:(y.length == 0)=false) (hl:z.length<=90000) (h:∀ l,H l=none->Q (.ref l) (upd H l (.lst ((Txt.split z y).map V.str)))):zJ (.str z) [.str y] H Q:=⟨z,y,rfl,rfl,hy,bQ (by omega),h⟩
theorem cXQ {H:Hp} {Q:VK} {z y:Str} (hy:(y.length == 0)=false) (hl:z.length<=90000) (h:∀ p,H p=none->Q (.ref p) (upd H p (.tup (xK z y)))):qQ (.str z) [.str y] H Q:=⟨z,y,rfl,rfl,hy,bQ (by omega),h⟩
end L2
set_option maxHeartbeats 1000000
namespace L2
open PySem PySem.Spec PyProof.Rows
open PySem.AutoSeq1 (wpAny_loadPart')
section
variable {X:Cx}
end
section
variable {X:Cx} {a b:Expr} {rest:List Expr} {pos:Pos} {ta tb:TE}
end
section
variable {X:Cx}
theorem KV.at {kvs:List (Key×V)} {vs:List (Key×Value)} (r:KV kvs vs):∀ {i:Nat} {k:Key} {u:Value},vs[i]?=some (k,u)->∃ v,kvs[i]?=some (k,v)/\RelV v u:=by
 unfold KV at r;induction r with
 | nil=>intro i k u h; cases h
 | @cons kv vv _ _ hk t ih=>
   intro i k u h;obtain ⟨e,ru⟩:=hk;cases i with
   | zero=>cases h; exact ⟨kv.2,by rw [List.getElem?_cons_zero]; exact Dm some (Prod.ext e rfl),ru⟩
   | succ i=>exact ih h
end
end L2
set_option maxHeartbeats 1000000
namespace L2
open PySem PySem.Spec PyProof.Rows
section
variable {X:Cx}
end
section
variable {X:Cx} {a b:Expr} {rest:List Expr} {pos:Pos} {ta tb:TE}
end
end L2
set_option maxHeartbeats 4000000
namespace L2
open PySem PySem.Spec PyProof.Rows
open PySem.AutoSeq1 (wpAny_loadPart')
open PySem.MeetsSeq PySem.MeetsSeq2 PySem.MeetsSeq3
open PySem.W (KasT kas_sort kas_cmp kas_item kas_item_eq kas_range kas_runs kas_kind kas_st kat_kind kat_lt kat_cons kat_nil kat_yes kat_no kat_go kat_one KatTups KatLex)
section
variable {prog:Program} {w:World} {A:Around} {E:Q0} {s:Shared}
end
section
variable {X:Cx}
end
end L2
set_option maxHeartbeats 1000000
namespace L2
open PySem PySem.Spec PyProof.Rows
section
variable {X:Cx}
end
end L2
set_option maxHeartbeats 1000000
namespace L2
open PySem PySem.Spec PyProof.Rows
def Alt (H:Hp):Nat->V->V->Prop
 | 0,x,y=>x=y/\bO x=true
 | n+1,x,y=>(x=y/\bO x=true)\/∃ p q xs ys,x=.ref p/\y=.ref q/\((rdL H p=some xs/\rdL H q=some ys)\/(H p=some (.tup xs)/\H q=some (.tup ys)))/\xs.length=ys.length/\∀ (j:Nat) x' y',xs[j]?=some x'->ys[j]?=some y'->Alt H n x' y'
theorem Alt.flat {H:Hp} {n:Nat} {x:V} (h:bO x=true):Alt H n x x:=by
 cases n with
 | zero=>exact ⟨rfl,h⟩
 | succ n=>exact .inl ⟨rfl,h⟩
theorem Alt.flats {H:Hp} {n:Nat} {xs:List V} (f:xs.all bO=true):∀ (j:Nat) x y,xs[j]?=some x->xs[j]?=some y->Alt H n x y:=λj x y hx hy=>by
 rw [hx] at hy;cases hy;exact .flat (As.mp f x (Ap hx))
theorem Alt.lst {H:Hp} {n:Nat} {p q:Addr} {xs ys:List V} (hp:rdL H p=some xs) (hq:rdL H q=some ys) (hl:xs.length=ys.length) (h:∀ (j:Nat) x y,xs[j]?=some x->ys[j]?=some y->Alt H n x y):Alt H (n+1) (.ref p) (.ref q):=.inr ⟨p,q,xs,ys,rfl,rfl,.inl ⟨hp,hq⟩,hl,h⟩
theorem Alt.tup {H:Hp} {n:Nat} {p q:Addr} {xs ys:List V} (hp:H p=some (.tup xs)) (hq:H q=some (.tup ys)) (hl:xs.length=ys.length) (h:∀ (j:Nat) x y,xs[j]?=some x->ys[j]?=some y->Alt H n x y):Alt H (n+1) (.ref p) (.ref q):=.inr ⟨p,q,xs,ys,rfl,rfl,.inr ⟨hp,hq⟩,hl,h⟩
section
variable {X:Cx}
end
end L2
set_option maxHeartbeats 4000000
namespace L2
open PySem PySem.Spec PyProof.Rows
section
variable {X:Cx} {N:List Str} {scope:Scope} {cl:List (Str×Addr)} {vals:St->St} {tg elt iter:Expr} {ifs:List Expr} {pos spos py:Pos} {wi:TI} {g:TG} {tests:TT} {te:TE}
end
section
variable {prog:Program} {w:World} {A:Around} {E:Q0} {s:Shared}
end
section
variable {X:Cx}
end
end L2
set_option maxHeartbeats 1000000
namespace L2
open PySem PySem.Spec PyProof.Rows
section
variable {X:Cx}
end
end L2
namespace L2
open PySem PySem.Spec PyProof.Rows
section
variable {prog:Program} {w:World} {A:Around} {R:Result->Shared->Prop} {J B f:Addr} {us ws:List Addr} {n:Nat} {P:Nat->Value->Prop} {St:Nat->Heap->Prop} {G:Shared->Prop} {val:Nat->Int}
end
end L2
set_option maxHeartbeats 1000000
namespace L2
open PySem PySem.Spec PyProof.Rows
def SetIt (h:Heap) (it a:Addr) (slot i n ep:Nat):Prop:=∃ o,h.get? it=some o/\o.cls=.type "set_iterator"/\o.data=.fields #[.int slot 0,.int i 0,.ref a,.int n 0,.int ep 0]
structure SetAt (h:Heap) (a:Addr) (es:Array (Int×Value)) (ep:Nat) (t:SetTable):Prop where
 ob:∃ o,h.get? a=some o/\o.cls=.type "set"/\o.data=.set es ep t
 fits:t.fits es.size=true
 plain:t.plain=true
 ris:Ris t.place
 sz:t.place.size=es.size
section
variable {prog:Program} {w:World} {A:Around} {E:Q0} {s:Shared} {a it:Addr} {es:Array (Int×Value)} {ep:Nat} {t:SetTable}
end
end L2
set_option maxHeartbeats 1000000
namespace L2
open PySem PySem.Spec PyProof.Rows
section
variable {prog:Program} {w:World} {A:Around} {E:Q0} {R:Result->Shared->Prop} {old:Heap} {S l it:Addr} {vs:List Value} {J:Nat->Obj->Prop}
end
section
variable {prog:Program} {w:World} {A:Around} {E:Q0} {s:Shared}
end
end L2
set_option maxHeartbeats 1000000
namespace L2
open PySem PySem.Spec PyProof.Rows
section
variable {prog:Program} {w:World} {A:Around} {E:Q0} {s:Shared}
end
end L2
set_option maxHeartbeats 1000000
namespace L2
open PySem PySem.Spec PyProof.Rows
end L2
set_option maxHeartbeats 1000000
namespace L2
open PySem PySem.Spec PyProof.Rows
theorem SetIt.at {h h':Heap} {it a:Addr} {slot i n ep:Nat} (x:SetIt h it a slot i n ep) (k:∀ o,h.get? it=some o->h'.get? it=some o):SetIt h' it a slot i n ep:=by
 obtain ⟨o,e,q⟩:=x;exact ⟨o,k o e,q⟩
theorem SetAt.at {h h':Heap} {a:Addr} {es:Array (Int×Value)} {ep:Nat} {t:SetTable} (x:SetAt h a es ep t) (k:∀ o,h.get? a=some o->h'.get? a=some o):SetAt h' a es ep t:=by
 obtain ⟨⟨o,e,q⟩,r1,r2,r3,r4⟩:=x;exact ⟨⟨o,k o e,q⟩,r1,r2,r3,r4⟩
section
variable {prog:Program} {w:World} {A:Around} {E:Q0} {s:Shared} {a it ea:Addr} {es:Array (Int×Value)} {ep:Nat} {t:SetTable}
end
end L2
set_option maxHeartbeats 1000000
namespace L2
open PySem PySem.Spec PyProof.Rows
open PySem.W (KasT kas_sort kas_rev kas_asc kas_desc kas_tail3 kas_descPart kas_count kas_place kas_bin)
def KR {α:Type} (lt:Nat->Nat->Bool) (n:Nat) (t:KasT α) (a:α):Prop:=kok lt n t=true/\eQZ lt t=a
theorem KR.ret {α:Type} {lt:Nat->Nat->Bool} {n:Nat} (a:α):KR lt n (.ret a) a:=⟨rfl,rfl⟩
theorem KR.ask {α:Type} {lt:Nat->Nat->Bool} {n i j:Nat} {k:Bool->KasT α} {a:α} (hi:i<n) (hj:j<n) (h:KR lt n (k (lt i j)) a):KR lt n (.ask i j k) a:=⟨by simp only [kok,hi,hj,decide_true,Bool.true_and]; exact h.1,h.2⟩
theorem KR.bind {α β:Type} {lt:Nat->Nat->Bool} {n:Nat} {f:α->KasT β} {b:β}:∀ {t:KasT α} {a:α},KR lt n t a->KR lt n (f a) b->KR lt n (t.bind f) b
 | .ret a',a,h,g=>by
   obtain ⟨_,rfl⟩:=h;exact g
 | .ask i j k,a,h,g=>by
   obtain ⟨h1,h2⟩:=h;simp only [kok,Bool.and_eq_true,decide_eq_true_eq] at h1;exact KR.ask h1.1.1 h1.1.2 (KR.bind (t:=k (lt i j)) ⟨h1.2,h2⟩ g)
section
variable {r:Nat->Nat} {n:Nat}
structure Ord (r:Nat->Nat) (n:Nat) (p:Array Nat):Prop where
 perm:p.toList.Perm (List.range n)
 inj:∀ i j,i<n->j<n->r i=r j->i=j
theorem Ord.size {p:Array Nat} (h:Ord r n p):p.size=n:=by
 have:=h.perm.length_eq
 simpa using this
theorem Ord.lt {p:Array Nat} (h:Ord r n p) {i:Nat} (hi:i<n):p.getD i 0<n:=by
 have hs:=h.size
 have:p.getD i 0∈p.toList:=by
   rw [Ck,Dk (by omega)]
   exact Array.getElem_mem_toList _
 exact Bg.mp (h.perm.subset this)
theorem Ord.ne {p:Array Nat} (h:Ord r n p) {i j:Nat} (hij:i<j) (hj:j<n):r (p.getD i 0)≠r (p.getD j 0):=λz=>by
 have hs:=h.size
 have e:=h.inj _ _ (h.lt (by omega)) (h.lt hj) z
 have nd:p.toList.Nodup:=h.perm.nodup_iff.mpr List.nodup_range
 rw [Ck,Ck,Dk (by omega),Dk (by omega)] at e
 have:=(List.pairwise_iff_getElem.mp nd) i j (by simp; omega) (by simp; omega) hij
 exact this (by simpa using e)
def Up (r:Nat->Nat) (p:Array Nat) (k:Nat):Prop:=∀ i j,i<j->j<k->r (p.getD i 0)<r (p.getD j 0)
def Dn (r:Nat->Nat) (p:Array Nat) (k:Nat):Prop:=∀ i j,i<j->j<k->r (p.getD j 0)<r (p.getD i 0)
theorem Up.succ {p:Array Nat} {k:Nat} (h:Up r p k) (hk:1<=k) (e:r (p.getD (k - 1) 0)<r (p.getD k 0)):Up r p (k+1):=λi j hij hj=>by
 by_cases z:j=k
 · subst z;by_cases y:i=j - 1
   · subst y; exact e
   · exact Gj (h i (j - 1) (by omega) (by omega)) e
 · exact h i j hij (by omega)
theorem Dn.succ {p:Array Nat} {k:Nat} (h:Dn r p k) (hk:1<=k) (e:r (p.getD k 0)<r (p.getD (k - 1) 0)):Dn r p (k+1):=λi j hij hj=>by
 by_cases z:j=k
 · subst z;by_cases y:i=j - 1
   · subst y; exact e
   · exact Gj e (h i (j - 1) (by omega) (by omega))
 · exact h i j hij (by omega)
end
end L2
set_option maxHeartbeats 1000000
namespace L2
open PySem PySem.Spec PyProof.Rows
open PySem.W (KasT kas_sort kas_cmp kas_item kas_item_eq kas_range kas_runs kas_kind kas_st)
section
variable {prog:Program} {w:World} {A:Around} {E:Q0} {s:Shared}
end
end L2
set_option maxHeartbeats 1000000
namespace L2
open PySem PySem.Spec PyProof.Rows
open PySem.W (KasT kas_sort KatTups kat_kind kat_lt kat_cons kat_yes kat_no kat_nil kat_one KatGo)
section
variable {prog:Program} {w:World} {A:Around} {E:Q0} {s:Shared}
end
end L2
set_option maxHeartbeats 1000000
namespace L2
open PySem PySem.Spec PyProof.Rows
end L2
set_option maxHeartbeats 1000000
namespace L2
open PySem PySem.Spec PyProof.Rows
open PySem.W (KasT kas_sort)
end L2
set_option maxHeartbeats 1000000
namespace L2
open PySem PySem.Spec PyProof.Rows
open PySem.W (KasT kas_sort)
section
variable {prog:Program} {w:World} {A:Around} {E:Q0} {s:Shared}
end
end L2
set_option maxHeartbeats 1000000
namespace L2
open PySem PySem.Spec PyProof.Rows
open PySem.W (KasT kas_sort)
end L2
set_option maxHeartbeats 1000000
namespace L2
open PySem PySem.Spec PyProof.Rows
open PySem.W (CodeHd tabObj)
structure LamB (mg:Str->Option Value) (base:Heap) (c Pt:Addr):Prop where
 code:CodeHd base c Pt
 bm:∃ bm ob,mg "__builtins__"=some (.ref bm)/\bm≠builtinsNs/\base.get? bm=some ob/\ob.cls=.type "module"/\ob.dict=some builtinsNs/\ob.data=.plain
def bZ9 (h:Heap) (mg:Str->Option Value) (x:Str) (c:Addr):Prop:=∃ f o fd,mg x=some (.ref f)/\h.get? f=some o/\o.data=.func fd/\fd.code=.ref c
theorem bQK {P:Program} {w:World} {K:PySem.W.Frag} {mg mb:Q3} {CX:CXT} {k:Nat} {fa a c Pt:Addr} {fd:FuncData} {x:Str} {sp:Sp} {s₁:Shared} {vs:List Value} {ns:List Int}
   (KX:K.In s₁.heap) (hns:s₁.heap.Ns mainGlobals mg) (hb:s₁.heap.Ns builtinsNs mb) (hbb:∀ x:Str,x≠"__name__"->mb x=bootBuiltins x) (hlim:s₁.heap.NoLimit) (hg:s₁.gens=#[])
   (ha:s₁.heap.get? a=some { cls:=.type "list",data:=.seq vs.toArray }) (hi:IntsAre vs ns) (hl:ns.length<=sizeLine) (hr:Room k callerA)
   (hC:CodeHd s₁.heap c Pt) (hP:s₁.heap.get? Pt=some (tabObj #[])) (hbm:∃ bm ob,mg "__builtins__"=some (.ref bm)/\bm≠builtinsNs/\s₁.heap.get? bm=some ob/\ob.cls=.type "module"/\ob.dict=some builtinsNs/\ob.data=.plain) (hKP:K.lookup Pt=none)
   (F:∀ base:Heap,K.In base->base.Ns mainGlobals mg->LamB mg base c Pt->FnOk P w K mg base CX k fa fd [x] sp) (hbind:∀ (s:Shared) (u:Value),BindsTo s fd ⟨[u],[]⟩ [(x,u)])
   (hsp:∀ H:Hp,H Pt=some (.tbl #[])->SqL K H a (ns.map V.int)->sp [.ref a] H (λv _=>v=.bl true) λ_ _ _=>False)
   (hCX:∀ H e s',CX [] H s₁ (λ_ _ _=>False) e s'->False) :
   codeAny (model P w) callerA (.call (.ref fa) ⟨[.ref a],[]⟩) (λr s'=>r=.ok (.ret (.bool true))/\OldK s₁.heap s'.heap/\s'.os=s₁.os/\AllBare s'.gens) s₁:=by
 have rv:=tB hi
 have lenV:=hi.length
 have naP:a≠Pt:=λz=>by rw [z,hP] at ha; cases ha
 have core:∀ H:Hp,(∀ b,H b=none\/(∃ o xs,H b=some (.frz o (.lst xs)))\/b=Pt)->H Pt=some (.tbl #[])->SqL K H a (ns.map V.int)->HOk P w H s₁.heap->(∀ b,H b≠none->b=a\/b=Pt)->(H a≠none->K.lookup a=none)->
     codeAny (model P w) callerA (.call (.ref fa) ⟨[.ref a],[]⟩) (λr s'=>r=.ok (.ret (.bool true))/\OldK s₁.heap s'.heap/\s'.os=s₁.os/\AllBare s'.gens) s₁:=by
   intro H hO hHP hS hok hA hK;have base_of:∀ {b:Addr} {o:Obj},s₁.heap.get? b=some o->H b=none->(sO s₁.heap H).get? b=some o:=λe n=>bQ8 e n
   have noT:∀ {b:Addr} {o:Obj},s₁.heap.get? b=some o->(∀ its n,o.data≠.seq its n)->(∀ ps,o.cls=.none->o.data≠.fields ps)->H b=none:=fun {b o} e d d2=>by
     cases q:H b with
     | none=>rfl
     | some u=>
       rcases hA b (by rw [q]; simp) with e' | e'
       · subst e';rw [ha] at e; cases e;exact absurd rfl (d _ _)
       · subst e';rw [hP] at e; cases e;exact absurd rfl (d2 _ rfl)
   have noA:∀ {b:Addr} {o:Obj} {es:Array DictEntry} {ep:Nat},s₁.heap.get? b=some o->o.data=.dict es ep->H b=none:=fun {b o es ep} e d=>noT e (λ_ _ z=>by rw [d] at z; cases z) λ_ _ z=>by rw [d] at z; cases z
   have nsK:∀ {b:Addr} {m:Q3},s₁.heap.Ns b m->(sO s₁.heap H).Ns b m:=fun {b m} ⟨o,es,ep,e,d,r⟩=>⟨o,es,ep,base_of e (noA e d),d,r⟩
   have hKb:K.In (sO s₁.heap H):=λb o e=>base_of (KX b o e) (by
     cases q:H b with
     | none=>rfl
     | some u=>
       rcases hA b (by rw [q]; simp) with e' | e'
       · subst e';rw [hK (by rw [q]; simp)] at e; cases e
       · subst e';rw [hKP] at e; cases e)
   have hM:Mod K mg (sO s₁.heap H):=⟨hKb,nsK hns,⟨mb,nsK hb,hbb⟩,let ⟨mc,h1,h2⟩:=hlim; ⟨mc,nsK h1,h2⟩⟩
   have hLB:LamB mg (sO s₁.heap H) c Pt:=by
     refine ⟨?_,?_⟩
     · obtain ⟨o,vs,file,tf,flags,tg,inF,text,tt,e,ecl,eda,r⟩:=hC;exact ⟨o,vs,file,tf,flags,tg,inF,text,tt,base_of e (noT e (λ_ _ z=>by rw [eda] at z; cases z) λ_ z=>by rw [ecl] at z; cases z),ecl,eda,r⟩
     · obtain ⟨bm,ob,b1,b2,b3,b4,b5,b6⟩:=hbm;exact ⟨bm,ob,b1,b2,base_of b3 (noT b3 (λ_ _ z=>by rw [b6] at z; cases z) λ_ z=>by rw [b4] at z; cases z),b4,b5,b6⟩
   have e0:Env0 P w K mg (sO s₁.heap H) callerA [] s₁ H:=⟨rfl,hM,λb o e=>cQ8 e,Nat.le_of_eq (aJX _ _),trivial,λb hb=>absurd (show b∈([]:List Addr) from hb) (by simp),hok,.of_eq hg⟩
   refine Ei ((F _ hKb (nsK hns) hLB).run callerA [] s₁ H ⟨[.ref a],[]⟩ [.ref a] [.ref a] _ _ hr e0 (hbind s₁ (.ref a)) (.cons rfl .nil) (hsp H hHP hS)) λr s' h=>?_;cases r with
   | error e=>exact (hCX H e s' h).elim
   | ok fl=>
     cases fl with
     | next=>exact False.elim h
     | brk=>exact False.elim h
     | cont=>exact False.elim h
     | ret u=>
       obtain ⟨v,H',os,bare,un,hok',r',q⟩:=h;have q':v=.bl true:=q
       subst q';obtain rfl:u=Value.bool true:=r';refine ⟨rfl,⟨λb o e=>?_,λb o e=>?_⟩,os,bare⟩
       · cases q:H b with
         | none=>exact .inl (un.keep b o e q (by intro z; exact absurd (show b∈([]:List Addr) from z) (by simp)) (by simp))
         | some u=>
           rcases hO b with z | ⟨ob,xs,z⟩ | z
           · rw [q] at z; cases z
           · have z2:=un.frzs b ob _ z
             obtain ⟨e1,_⟩:=hok b _ z;obtain ⟨e2,_⟩:=hok' b _ z2;rw [e] at e1; cases e1;exact .inl e2
           · subst z;rw [hP] at e;cases e;obtain ⟨more,z2⟩:=un.tbls b _ hHP;exact .inr (.inl ⟨(hC.tab hP).isCodeTable,rfl,#[],more,rfl,hok' b _ z2⟩)
       · exact un.there b o e (by simp)
 have tblOk:∀ H:Hp,H Pt=some (.tbl #[])->ObjOk P w H s₁.heap Pt (.tbl #[]):=λ_ _=>hP
 cases hk:K.lookup a with
 | some o=>
   have e:=KX a o hk
   rw [ha] at e;cases e;refine core (λb=>if b=Pt then some (.tbl #[]) else none) (λb=>?_) (if_pos rfl) (.inr ⟨_,vs.toArray,_,hk,rfl,rfl,rfl,by rw [List.size_toArray,lenV]; exact hl,by simpa using rv⟩) (λb u z=>?_) (λb z=>?_) λz=>?_
   · by_cases hb:b=Pt
     · exact .inr (.inr hb)
     · exact .inl (if_neg hb)
   · by_cases hb:b=Pt
     · have z':=(if_pos hb).symm.trans z
       cases z';subst hb;exact hP
     · have z':=(if_neg hb).symm.trans z
       cases z'
   · by_cases hb:b=Pt
     · exact .inr hb
     · exact absurd (if_neg hb) z
   · exact absurd (if_neg naP) z
 | none=>
   refine core (λb=>if b=a then some (.frz { cls:=.type "list",data:=.seq vs.toArray } (.lst (ns.map V.int))) else if b=Pt then some (.tbl #[]) else none) (λb=>?_) ((if_neg naP.symm).trans (if_pos rfl)) (.inl (.inr ⟨{ cls:=.type "list",data:=.seq vs.toArray },if_pos rfl⟩)) (λb u z=>?_) (λb z=>?_) λ_=>hk
   · by_cases hb:b=a
     · exact .inr (.inl ⟨_,_,if_pos hb⟩)
     · by_cases hb2:b=Pt
       · exact .inr (.inr hb2)
       · exact .inl ((if_neg hb).trans (if_neg hb2))
   · by_cases hb:b=a
     · have z':=(if_pos hb).symm.trans z
       cases z';subst hb;exact ⟨ha,by rw [Ab]; exact hl,vs,_,rv,ha⟩
     · by_cases hb2:b=Pt
       · have z':=((if_neg hb).trans (if_pos hb2)).symm.trans z
         cases z';subst hb2;exact hP
       · have z':=((if_neg hb).trans (if_neg hb2)).symm.trans z
         cases z'
   · by_cases hb:b=a
     · exact .inl hb
     · by_cases hb2:b=Pt
       · exact .inr hb2
       · exact absurd ((if_neg hb).trans (if_neg hb2)) z
theorem bZY {l:PySem.W.OpenLaw} {n k:Nat} {q:Program} {loose:List Str} {XP:(Q3)->Heap->Prop} {YP:World->Heap->Prop} {d d2:DefRec} {K:Params->PySem.W.Frag} {CX:World->CXT} {sp:World->Addr->Sp} {x:Str}
   (hn:l.most=some n) (hn2:n<=sizeLine) (hdf:d.params.defaults=[]) (hr:Room k callerA)
   (hd2:d2∈recsOf q) (hno:∀ w:World,PySem.W.noTabs (K w.params)=true)
   (hY:∀ (w:World) (h:Heap),YP w h->(K w.params).In h)
   (F:∀ (w:World) (mg:Q3) (fa:Addr) (h:Heap) (c Pt:Addr),(K w.params).In h->h.Ns mainGlobals mg->mg d.name=some (.ref fa)->bZ9 h mg d2.name c->
     ∃ fd:FuncData,(∀ (s:Shared) (u:Value),BindsTo s fd ⟨[u],[]⟩ [(x,u)])/\
       ∀ base:Heap,(K w.params).In base->base.Ns mainGlobals mg->LamB mg base c Pt->FnOk l.prog w (K w.params) mg base (CX w) k fa fd [x] (sp w Pt))
   (hsp:∀ (w:World) (H:Hp) (a Pt:Addr) (ns:List Int),ns.length<=n->H Pt=some (.tbl #[])->SqL (K w.params) H a (ns.map V.int)->sp w Pt [.ref a] H (λv _=>v=.bl true) λ_ _ _=>False)
   (hCX:∀ (w:World) (H:Hp) (s:Shared) (e:Value) (s':Shared),CX w [] H s (λ_ _ _=>False) e s'->False) :
   PySem.W.WalkO q loose XP YP l.row.toRowW d [] (λf vs=>PySem.call f vs):=by
 refine Att.attach_call hn hdf λw s₀ s₁ mg mb fa o pm cd doc a vs ns G Y ho hd hcd hmg hobj hints hlen hg=>?_;have KX:=hY w _ Y
 obtain ⟨a2,o2,fd2,c,Pt,t1,t2,t3,t4,t5,t6⟩:=G.T.tab d2 hd2;have hC:=CodeHd.of t5 t6
 have hP:s₁.heap.get? Pt=some (tabObj #[]):=t6.2
 have hKP:(K w.params).lookup Pt=none:=by
   cases e:(K w.params).lookup Pt with
   | none=>rfl
   | some o=>
     have h1:=KX _ _ e
     rw [hP] at h1;cases h1;have h2:=As.mp (hno w) (Pt,tabObj #[]) (PySem.W.mem_of_lookupK e)
     exact absurd (show false=true from h2) Al
 obtain ⟨fd,hb,hF⟩:=F w mg fa _ c Pt KX G.T.g hmg ⟨a2,o2,fd2,t1,t2,t3,t4⟩;exact bQK KX G.T.g G.T.b G.T.builtins G.T.nolimit hg hobj hints (Bv hlen hn2) hr hC hP G.T.bmain hKP hF hb (λH hO hS=>hsp w H a Pt ns hlen hO hS) λH e s'=>hCX w H s₁ e s'
end L2
set_option maxHeartbeats 1000000
namespace L2
open PySem PySem.Spec PyProof.Rows
open PySem.W (CodeHd tabObj kla_obj kla_fn envX)
def dJQ (c:Addr) (q:Str):HO:=.ext λh=>h.CodeRec (.ref c) q
def LamT (Pt:Addr) (q:Str) (pos:Pos) (H:Hp):Prop:=H Pt=some (.tbl #[])\/∃ c,H Pt=some (.tbl (#[]++#[rawInt pos.line,rawInt pos.col,.ref c]))/\H c=some (dJQ c q)
def SameP (Pt:Addr) (H H':Hp):Prop:=∀ b o,b≠Pt->H b=some o->H' b=some o
theorem SameP.refl {Pt:Addr} {H:Hp}:SameP Pt H H:=λ_ _ _ e=>e
theorem SameP.trans {Pt:Addr} {H H1 H2:Hp} (a:SameP Pt H H1) (b:SameP Pt H1 H2):SameP Pt H H2:=λc o n e=>b c o n (a c o n e)
theorem Same.p {Pt:Addr} {H H':Hp} (s:Same H H'):SameP Pt H H':=λb o _ e=>s b o e
theorem LamT.keep {Pt:Addr} {q:Str} {pos:Pos} {H H':Hp} (h:LamT Pt q pos H) (s:Same H H'):LamT Pt q pos H':=by
 rcases h with h | ⟨c,h1,h2⟩
 · exact .inl (s _ _ h)
 · exact .inr ⟨c,s _ _ h1,s _ _ h2⟩
theorem LamT.tb {Pt:Addr} {q:Str} {pos:Pos} {H:Hp} (h:LamT Pt q pos H):∃ ps,H Pt=some (.tbl ps):=by
 rcases h with h | ⟨c,h1,h2⟩
 · exact ⟨_,h⟩
 · exact ⟨_,h1⟩
section
variable {X:Cx} {pins:Q2} {σ:St} {H:Hp} {s:Shared} {A:Around} {N:List Str} {q:Str} {scope:Scope} {cl:List (Str×Addr)} {vals:St->St} {x:Str} {f c c' Pt:Addr}
theorem Inv.table {ps more:Array Value} {h':Heap} {t':Nat} (I:Inv X pins σ H s) (hP:H Pt=some (.tbl ps)) (hx:Heap.ExtBut Pt s.heap h') (ht:h'.get? Pt=some (tabObj (ps++more))):Inv X pins σ (upd H Pt (.tbl (ps++more))) { s with heap:=h',toks:=t' }:=by
 have neP:∀ b u,H b=some u->(∀ z,u≠.tbl z)->b≠Pt:=λb u e n z=>by rw [z,hP] at e; cases e; exact n _ rfl
 have nn:∀ b,H b=none->b≠Pt:=λb e z=>by rw [z,hP] at e; cases e
 refine I.un ⟨λb o e n _ _=>hx b o (nn b n) e,λb o e n _ _=>⟨o.slots,hx b o (nn b n) e⟩,λb o e n _=>by rw [aK (nn b n)]; exact n,λb o e _=>?_,λb xs e=>by rw [aK (neP b _ e λ_=>nofun)]; exact e,λb o u e=>by rw [aK (neP b _ e λ_=>nofun)]; exact e,λb qs e=>?_⟩ λb u e=>?_
 · by_cases hb:b=Pt
   · exact ⟨_,hb ▸ ht⟩
   · exact ⟨o,hx b o hb e⟩
 · by_cases hb:b=Pt
   · subst hb;rw [hP] at e;cases e;exact ⟨more,aG⟩
   · exact ⟨#[],by rw [aK hb,e]; simp⟩
 · by_cases hb:b=Pt
   · subst hb;rw [aG] at e;cases e;exact ht
   · rw [aK hb] at e;refine (I.hok b u e).stay (λc v hc q=>hx c v ?_ q) (λc q=>by rw [aK (neP c _ q λ_=>nofun)]; exact q) λc xs q=>by rw [aK (neP c _ q λ_=>nofun)]; exact q
     rcases hc with z | z
     · rw [z]; exact hb
     · exact neP c _ z λ_=>nofun
end
end L2
set_option maxHeartbeats 1000000
namespace L2
open PySem PySem.Spec PyProof.Rows
open PySem.W (CodeHd tabObj kla_obj kla_fn envX)
section
variable {prog:Program} {w:World} {A:Around} {E:Q0} {s:Shared} {l f:Addr} {its:List Value} {G:Shared->Prop} {val:Nat->Int} {Q:Q0}
end
section
variable {X:Cx} {pins:Q2} {σ:St} {H:Hp} {s:Shared}
end
end L2
set_option maxHeartbeats 1000000
namespace L2
open PySem PySem.Spec PyProof.Rows
section
variable {prog:Program} {w:World} {A:Around} {E:Q0} {s:Shared}
end
section
variable {X:Cx} {tg e:Expr} {p pos:Pos} {te:TA}
end
end L2
set_option maxHeartbeats 1000000
namespace L2
open PySem PySem.Spec PyProof.Rows
section
open PySem.AutoSeq1 (wpAny_loadPart')
open PySem.MeetsSeq PySem.MeetsSeq2 PySem.MeetsSeq3
end
section
variable {prog:Program} {w:World} {A:Around} {E:Q0} {s:Shared}
end
section
variable {prog:Program} {w:World} {A:Around} {R:Result->Shared->Prop} {J B:Addr} {us ws:List Addr} {n:Nat} {P:Nat->Value->Prop} {St:Nat->Heap->Prop} {G:Shared->Prop} {bt:Nat->Nat->Bool}
end
section
variable {prog:Program} {w:World} {A:Around} {E:Q0} {s:Shared} {l:Addr} {its:List Value} {G:Shared->Prop} {bt:Nat->Nat->Bool} {Q:Q0}
end
section
variable {X:Cx}
end
end L2
set_option maxHeartbeats 1000000
namespace L2
open PySem PySem.Spec PyProof.Rows
def lJ (CX:CXT) (P:Program) (w:World) (K:PySem.W.Frag) (mg:Str->Option Value) (base:Heap) (k:Nat) (C:Addr) (m:Str) (ps:List Str) (sp:Sp):Prop :=
 ∃ (f:Addr) (fd:FuncData),FnOk P w K mg base CX k f fd ps sp/\Meth K C m f/\Binds K fd ps []
def aJE (CX:CXT) (P:Program) (w:World) (K:PySem.W.Frag) (mg:Str->Option Value) (base:Heap) (k:Nat) (C:Addr) (ps:List Str) (sp:Sp):Prop :=
 ∃ (f:Addr) (fd:FuncData),FnOk P w K mg base CX k f fd ps sp/\Mk K C f/\Binds K fd ps []
section
variable {X:Cx} {CX:CXT} {k k':Nat} {f C:Addr} {fd:FuncData} {ps:List Str} {sp:Sp} {Es:St->XK} {E:XK} {x m:Str} {p pos apos:Pos} {e o:Expr} {es:List Expr} {ta:TE} {t:TA} {σ:St} {H:Hp} {Q:VK}
def dXM (C:Addr) (m:Str) (sp:Sp) (Es:St->XK) (ta:TE) (t:TA):TE:=λσ H Q=>ta σ H λx H1=>∃ a dx fs,x=.ref a/\H1 a=some (.ins C dx fs)/\fs.lookup m=none/\
 t σ H1 λvs H2=>sp (x::vs) H2 Q (Es σ)
theorem cXG {pins:Q2} {s1:Shared} {us:List Value} {vs:List V} (F:FnOk X.prog X.w X.K X.mg X.base CX k f fd ps sp) (hr:Room k X.A) (hb:Binds X.K fd ps []) (hx:xO CX X Es)
   (I1:Inv X pins σ H s1) (r:Vals vs us) (q:sp vs H Q (Es σ)):wpAny (model X.prog X.w) X.A (call (.ref f) us) (EP X pins σ Q) X.xe s1:=by
 have hl:us.length=ps.length:=by rw [<-r.length]; exact F.len _ _ _ _ q
 have hb1:=hb s1 us I1.kIn (by rw [Br]; exact hl)
 rw [Br] at hb1;refine Ek (Ei (F.run X.A X.stack s1 H ⟨us,[]⟩ us vs Q (Es σ) hr I1.env0 hb1 r q) λrs s' hq=>?_);cases rs with
 | error e=>exact hx pins σ H s1 e s' I1 hq
 | ok fl=>
   cases fl with
   | ret u=>exact I1.after hq
   | next=>exact False.elim hq
   | brk=>exact False.elim hq
   | cont=>exact False.elim hq
theorem eXB {pl:Sem Bool} (he:PE X o ta) (c:Cls X.K C) (hm:Meth X.K C m f) (F:FnOk X.prog X.w X.K X.mg X.base CX k f fd ps sp) (hr:Room k X.A) (hb:Binds X.K fd ps []) (hx:xO CX X Es) (ha:PA X (e::es) t)
   (hst:starEach (e::es) X.env=(false,eval e X.env)::starEach es X.env:=by rfl) (hpl:(backTo pos (starEach es X.env)).any (·.1)=false:=by rfl)
   (ht:eval (.Call (.Attribute o m apos) (e::es) [] pos) X.env=(do
     let ov <-eval o X.env
     standAt apos.atName
     let (f,first) <-holding [ov] (getMethod ov m pl)
     callWith pos f first (backTo pos (starEach (e::es) X.env)) (backToKw pos (keywordEach [] X.env))):=by rfl) :
   PE X (.Call (.Attribute o m apos) (e::es) [] pos) (dXM C m sp Es ta t):=by
 intro pins s σ H Q I h;refine Eg (pl:=pl) (thn (he pins s σ H _ I h) λu s1 ⟨x,H1,I1,rx,a,dx,fs,ex,ea,l,q⟩=>?_) ht;subst ex;obtain rfl:u=Value.ref a:=rx;refine jP I1 ea c hm l ?_;refine Ef (first:=[.ref a]) (h₀:=X.base) I.ok.mod.kin hm.kp (thn (ha pos pins s1 σ H1 _ I1 q) λus s2 ⟨vs,H2,I2,r,q2⟩=>⟨I2.kIn,?_⟩) hst hpl
 exact cXG (us:=.ref a::us) (vs:=.ref a::vs) F hr hb hx I2 (.cons rfl r) q2
theorem oH {pl:Sem Bool} (c:lJ CX0 X.prog X.w X.K X.mg X.base k C m ps sp) (cl:Cls X.K C) (hr:Room k' X.A) (hk:k<=k') (he:PE X o ta) (ha:PA X (e::es) t)
   (hst:starEach (e::es) X.env=(false,eval e X.env)::starEach es X.env:=by rfl) (hpl:(backTo pos (starEach es X.env)).any (·.1)=false:=by rfl)
   (ht:eval (.Call (.Attribute o m apos) (e::es) [] pos) X.env=(do
     let ov <-eval o X.env
     standAt apos.atName
     let (f,first) <-holding [ov] (getMethod ov m pl)
     callWith pos f first (backTo pos (starEach (e::es) X.env)) (backToKw pos (keywordEach [] X.env))):=by rfl) :
   PE X (.Call (.Attribute o m apos) (e::es) [] pos) (tG C m sp [] E0 ta t):=by
 obtain ⟨f,fd,F,hm,hb⟩:=c;exact aZA (pl:=pl) he cl hm F (hr.mono hk) hb .nil aXT ha hst hpl ht
theorem pP {pl:Sem Bool} (c:lJ CX0 X.prog X.w X.K X.mg X.base k C m ps sp) (cl:Cls X.K C) (hr:Room k' X.A) (hk:k<=k') (he:PE X o ta)
   (ht:eval (.Call (.Attribute o m apos) [] [] pos) X.env=(do
     let ov <-eval o X.env
     standAt apos.atName
     let (f,first) <-holding [ov] (getMethod ov m pl)
     callWith pos f first (backTo pos (starEach [] X.env)) (backToKw pos (keywordEach [] X.env))):=by rfl) :
   PE X (.Call (.Attribute o m apos) [] [] pos) (tG C m sp [] E0 ta bQ1):=by
 obtain ⟨f,fd,F,hm,hb⟩:=c;exact bJ9 (pl:=pl) he cl hm F (hr.mono hk) hb .nil aXT ht
theorem cZK {pl:Sem Bool} (c:lJ (CXr X.prog X.w) X.prog X.w X.K X.mg X.base k C m ps sp) (cl:Cls X.K C) (hx:fH (CXr X.prog X.w) X E) (hr:Room k' X.A) (hk:k<=k') (he:PE X o ta) (ha:PA X (e::es) t)
   (hst:starEach (e::es) X.env=(false,eval e X.env)::starEach es X.env:=by rfl) (hpl:(backTo pos (starEach es X.env)).any (·.1)=false:=by rfl)
   (ht:eval (.Call (.Attribute o m apos) (e::es) [] pos) X.env=(do
     let ov <-eval o X.env
     standAt apos.atName
     let (f,first) <-holding [ov] (getMethod ov m pl)
     callWith pos f first (backTo pos (starEach (e::es) X.env)) (backToKw pos (keywordEach [] X.env))):=by rfl) :
   PE X (.Call (.Attribute o m apos) (e::es) [] pos) (tG C m sp [] E ta t):=by
 obtain ⟨f,fd,F,hm,hb⟩:=c;exact aZA (pl:=pl) he cl hm F (hr.mono hk) hb .nil hx ha hst hpl ht
theorem dX4 (c:aJE CX0 X.prog X.w X.K X.mg X.base k C ps sp) (hr:Room k' X.A) (hk:k+1<=k') (hg:Gl X x) (hm:X.mg x=some (.ref C)) (ha:PA X (e::es) t) (hdb:(x == ("__debug__" : Str))=false:=by decide) (he:starEach (e::es) X.env=(false,eval e X.env)::starEach es X.env:=by rfl) (hpl:(backTo pos (starEach es X.env)).any (·.1)=false:=by rfl) :
   PE X (.Call (.Name x p) (e::es) [] pos) (bQ5 C sp [] E0 t):=by
 obtain ⟨f,fd,F,M,hb⟩:=c;exact cQH M F (hr.mono hk) hg hm hb .nil aXT ha hdb he hpl
theorem dJ3 {dvs:List V} (h:ta σ H λx H1=>∃ a dx fs,x=.ref a/\H1 a=some (.ins C dx fs)/\fs.lookup m=none/\t σ H1 λvs H2=>sp (x::(vs++dvs)) H2 Q E):tG C m sp dvs E ta t σ H Q:=h
theorem dJN {dvs:List V} (h:t σ H λvs H1=>∀ x dx,H1 x=none->H1 dx=none->dx≠x->sp (.ref x::(vs++dvs)) (upd (upd H1 dx (.own x)) x (.ins C dx [])) (λv H2=>v=.non/\Q (.ref x) H2) E):bQ5 C sp dvs E t σ H Q:=h
theorem eXV {K:PySem.W.Frag} {f:Str} (h:ta σ H λx H1=>∃ a C dx fs v,x=.ref a/\H1 a=some (.ins C dx fs)/\Cls K C/\NoAttr K C f/\fs.lookup f=some v/\Q v H1):dJM K ta f σ H Q:=h
theorem dQZ {K:PySem.W.Frag} {f:Str} {tv:TE} {D:Ends} (h:tv σ H λy H1=>ta σ H1 λx H2=>∃ a C dx fs,x=.ref a/\H2 a=some (.ins C dx fs)/\Cls K C/\NoAttr K C f/\fs.length<1000/\D.nx σ (upd H2 a (.ins C dx (fP f y fs)))):dJR K ta tv f D σ H:=h
end
def pX (w:World):List DictEntry->List (Str×Int)->Prop
 | [],[]=>True
 | e::es,kn::r=>e.hash=PyData.keyHash w.params kn.1/\(∃ t,e.key=.str kn.1 t)/\(∃ t,e.val=.int kn.2 t)/\pX w es r
 | _,_=>False
def dQK (w:World) (K:PySem.W.Frag) (mg:Str->Option Value) (x:Str) (kvs:List (Str×Int)):Prop :=
 ∃ (d:Addr) (es:Array DictEntry) (ep:Nat),mg x=some (.ref d)/\K.lookup d=some ⟨.type "dict",none,.dict es ep,#[]⟩/\(d == sysModules)=false/\pX w es.toList kvs/\(kvs.map (·.1)).Nodup
theorem rT {P:Program} {w:World}:∀ {es:List DictEntry} {kvs:List (Str×Int)},pX w es kvs->∃ vs:List (Key×Value),Pairs (bK P w) es vs/\vs.map (·.1)=kvs.map (λkn=>(Sum.inr kn.1:Key))/\(∀ e∈es,∃ k,(bK P w).is k e.key=true/\e.hash=(bK P w).hash k)/\
   ∀ z,(match valueAt vs (Sum.inr z:Key) with | some u=>∃ n t,kvs.lookup z=some n/\u=.int n t | none=>kvs.lookup z=none)
 | [],[],_=>⟨[],.nil,rfl,(λe he=>nomatch he),λz=>rfl⟩
 | e::es,(k,n)::r,h=>by
   obtain ⟨h1,⟨t,h2⟩,⟨t',h3⟩,h4⟩:=h;obtain ⟨vs,p,m,ke,va⟩:=rT (P:=P) h4;refine ⟨((Sum.inr k:Key),.int n t')::vs,.cons (by rw [h2]; exact lC k t) h3 p,by rw [Aw,m]; rfl,λe' he=>?_,λz=>?_⟩
   · rcases Bd.mp he with rfl | q
     · exact ⟨Sum.inr k,by rw [h2]; exact lC k t,h1⟩
     · exact ke e' q
   · have va':=va z
     unfold valueAt at va' ⊢;rw [List.find?_cons];by_cases ez:k=z
     · subst ez;rw [Aq rfl];exact ⟨n,t',by rw [Cq,Fn],rfl⟩
     · rw [Au λq=>ez (Sum.inr.inj q)];rw [Cq,show (z == k)=false from Cf.mpr λq=>ez q.symm];exact va'
 | [],_::_,h=>h.elim
 | _::_,[],h=>h.elim
def cJ4 (kvs:List (Str×Int)) (ta:TA):TE:=λσ H Q=>ta σ H λvs H1=>∃ z,vs=[.str z]/\Q (match kvs.lookup z with | some n=>.int n | none=>.non) H1
theorem aXK {X:Cx} {x:Str} {kvs:List (Str×Int)} {e:Expr} {p apos cpos:Pos} {ta:TA} (hg:Gl X x) (hk:dQK X.w X.K X.mg x kvs) (ha:PA X [e] ta) (hdb:(x == ("__debug__" : Str))=false:=by decide)
   (hbase:attributeBase (.Name x p) "get" X.env (eval (.Name x p) X.env)=eval (.Name x p) X.env:=by rfl)
   (hfew:((backTo cpos (starEach [e] X.env)).all (λx=>!x.1) && (backToKw cpos (keywordEach [] X.env)).all (λx=>x.1.isSome)
     && decide (([e]:List Expr).length+([]:List Keyword).length+(if ([]:List Keyword).isEmpty then 0 else 1)<30))=true:=by rfl)
   (hline:(apos.endLine == cpos.line)=true:=by rfl) (hs:starEach [e] X.env=(false,eval e X.env)::starEach [] X.env:=by rfl) (hplain:(backTo cpos (starEach [] X.env)).any (·.1)=false:=by rfl) :
   PE X (.Call (.Attribute (.Name x p) "get" apos) [e] [] cpos) (cJ4 kvs ta):=by
 intro pins s σ H Q I h;obtain ⟨d,es,ep,hm,hl,hd,ok,nd⟩:=hk;obtain ⟨vs,pr,m,ke,va⟩:=rT (P:=X.prog) ok;have dd:∀ s':Shared,X.K.In s'.heap->s'.heap.DictOf (bK X.prog X.w) d vs:=λs' k=>⟨_,es,ep,k _ _ hl,by first | exact ⟨rfl,rfl,rfl⟩ | exact ⟨rfl,rfl⟩ | (constructor <;> rfl),rfl,λe he=>ke e (by simpa using he),pr,by rw [m,show kvs.map (λkn=>(Sum.inr kn.1:Key))=(kvs.map (·.1)).map (λz=>(Sum.inr z:Key)) by rw [List.map_map]; rfl]; exact List.pairwise_map.mpr (nd.imp λn q=>n (Sum.inr.inj q))⟩
 have ho:PE X (.Name x p) (tC (.ref d)):=mY hg hm rfl hdb
 refine Gf hbase hfew hline rfl (thn (ho pins s σ H (λy H1=>y=.ref d/\H1=H) I ⟨rfl,rfl⟩) λv s1 ⟨x',H1,I1,r1,q⟩=>?_);obtain ⟨rfl,rfl⟩:=q;cases r1;have d1:=dd s1 I1.kIn
 refine ⟨"dict",_,PySem.F.plainAttrs_dict,Cv,rfl,d1.typeIs,λb q=>?_,?_⟩
 · cases q;obtain ⟨ob,_,_,h1,h2,_⟩:=d1;exact ⟨ob,h1,h2.2.1⟩
 have hA:=ha cpos pins s1 σ H1 _ I1 h
 rw [hs] at hA ⊢;refine Gg (by show (false || (backTo cpos (starEach [] X.env)).any (·.1))=false; rw [hplain] <;> rfl) (Fk ?_)
 refine thn hA λus s2 ⟨vs',H2,I2,r2,z,ez,q2⟩=>?_;subst ez;obtain ⟨u,rfl,t,rfl⟩:=eK r2;have d2:=dd s2 I2.kIn
 refine call_meetsIn Cv d2.typeIs Gk (PySem.F.args_dict_get_2 _ _) (meets_dict_get (bK X.prog X.w) d (show (bK X.prog X.w).is (Sum.inr z:Key) (Value.str z t)=true from lC z t) hd) ⟨_,d2.mapOf,?_⟩;have va':=va z
 cases e:valueAt vs (Sum.inr z:Key) with
 | none=>
   rw [e] at va';have va2:kvs.lookup z=none:=va'
   rw [va2] at q2;exact ⟨.non,H2,I2.tok _,rfl,q2⟩
 | some u=>
   rw [e] at va';obtain ⟨n,t',e2,rfl⟩:=va';rw [e2] at q2;exact ⟨.int n,H2,I2.tok _,⟨t',rfl⟩,q2⟩
theorem dQL {kvs:List (Str×Int)} {ta:TA} {σ:St} {H:Hp} {Q:VK} (h:ta σ H λvs H1=>∃ z,vs=[.str z]/\Q (match kvs.lookup z with | some n=>.int n | none=>.non) H1):cJ4 kvs ta σ H Q:=h
section
variable {X:Cx}
def cJA:R2:=λx y H Q=>∃ (p q:Addr) (xs:List V),x=.ref p/\y=.ref q/\H p=some (.tup xs)/\H q=some (.tup [])/\Q (.bl xs.isEmpty) H
theorem dZ2 (hu:X.A.units<cLine):OpR X (compareOp .Eq) cJA:=by
 intro pins s σ H x y v u Q I rx ry h;obtain ⟨p,q,xs,rfl,rfl,hp,hq,k⟩:=h;cases rx;cases ry;obtain ⟨its,r1,l1,_⟩:=I.tuple (SqT.of (K:=X.K) hp);obtain ⟨its2,r2,l2,_⟩:=I.tuple (SqT.of (K:=X.K) hq);have e1:=r1.length
 cases r2;refine SeqAt.eq_tupleAt (e:=λ_=>true) (show s.heap.IsTuple p _ from l1) (show s.heap.IsTuple q _ from l2) hu (λj h1 h2=>absurd h2 (by simp)) ?_
 refine ⟨.bl xs.isEmpty,H,I,?_,k⟩;show Value.bool _=Value.bool _
 congr 1
 cases xs with
 | nil=>
   have:its=[]:=List.eq_nil_of_length_eq_zero e1.symm
   subst this;rfl
 | cons a r=>
   cases its with
   | nil=>simp at e1
   | cons b t=>simp
theorem dZX {H:Hp} {Q:VK} {p q:Addr} {xs:List V} (hp:H p=some (.tup xs)) (hq:H q=some (.tup [])) (h:Q (.bl xs.isEmpty) H):cJA (.ref p) (.ref q) H Q:=⟨p,q,xs,rfl,rfl,hp,hq,h⟩
end
section
variable {X:Cx}
def eZC (z:Str):Value->Bool
 | .str y _=>y == z
 | _=>false
def aX7:V->List V->Hp->VK->Prop:=λx vs H Q=>∃ (p:Addr) (ss:List Str) (z:Str) (j:Nat),x=.ref p/\vs=[.str z]/\rdL H p=some (ss.map V.str)/\ss[j]?=some z/\(∀ (i:Nat) y,i<j->ss[i]?=some y->y≠z)/\Q (.int (j:Int)) H
theorem bZ4:MtR X "list.index" aX7:=by
 intro pins s σ H x vs v us Q I rx rv h;obtain ⟨p,ss,z,j,rfl,rfl,hp,hj,hb,q⟩:=h;cases rx;obtain ⟨u,rfl,t0,rfl⟩:=rv.one;obtain ⟨its,r,pl,hz⟩:=I.list (bC hp);obtain ⟨⟨c,dd,dt,sl⟩,ho,hc,n,hd⟩:=pl.isList;obtain rfl:c=.type "list" := hc;obtain rfl:dt=.seq its.toArray n:=hd;have hlen:=r.length
 rw [Ab] at hlen hz;have hjl:j<ss.length:=(Ae.mp hj).1
 have hn:=jK
 have rel:∀ m (hm:m<its.length),∃ y t,ss[m]?=some y/\its[m]=.str y t:=λm hm=>by
   have hm':m<ss.length:=by omega
   obtain ⟨u,hu,t,ru⟩:=r.get (show (ss.map V.str)[m]?=some (.str ss[m]) by rw [Af,Aa hm']; rfl)
   rw [Aa hm] at hu;cases hu;exact ⟨ss[m],t,Aa hm',ru⟩
 refine El Er ⟨_,ho,rfl⟩ PySem.F.entry_list_index (PySem.F.args_list_index_2 _ _) (SeqAt.list_indexAt p its.toArray n dd sl (.str z t0) (eZC z) j (by rw [Av]; omega) (by omega) ?_ ?_) ⟨ho,λy hy=>?_,⟨.int j,H,I.tok _,⟨_,rfl⟩,q⟩⟩
 · obtain ⟨y,t,hy,e⟩:=rel j (by omega)
   rw [hj] at hy;cases hy;rw [Fm,e];exact Fn _
 · intro m hm hmj;have hm':m<its.length:=by rw [Av] at hm; exact hm
   obtain ⟨y,t,hy,e⟩:=rel m hm';rw [Fm,e];exact Cf.mpr (hb m y hmj hy)
 · have hy':y∈its:=by simpa using hy
   obtain ⟨m,hm,rfl⟩:=List.mem_iff_getElem.mp hy';obtain ⟨y,t,_,e⟩:=rel m hm;rw [e];exact SeqAt.EqAt.str_str y t z t0
theorem bXY {H:Hp} {Q:VK} {p:Addr} {ss:List Str} {z:Str} {j:Nat} (e:rdL H p=some (ss.map V.str)) (hj:ss[j]?=some z) (hb:∀ (i:Nat) y,i<j->ss[i]?=some y->y≠z) (h:Q (.int (j:Int)) H):aX7 (.ref p) [.str z] H Q:=⟨p,ss,z,j,rfl,rfl,e,hj,hb,h⟩
end
end L2
set_option maxHeartbeats 1000000
namespace L2
open PySem PySem.Spec PyProof.Rows
def cJD (K:PySem.W.Frag) (C1 C2 C3:Addr) (i1 i2 i3:Nat) (mk:(Value->Option Addr->St->Hp->Prop)->TS) (t1 t2 t3:TS):TS:=λD σ H=>
 mk (λcls d σ1 H1=>(PySem.W.exmOne K cls (.ref C1)=some true/\hdl i1 t1 D cls d σ1 H1)\/(PySem.W.exmOne K cls (.ref C1)=some false/\PySem.W.exmOne K cls (.ref C2)=some true/\hdl i2 t2 D cls d σ1 H1)\/(PySem.W.exmOne K cls (.ref C1)=some false/\PySem.W.exmOne K cls (.ref C2)=some false/\PySem.W.exmOne K cls (.ref C3)=some true/\hdl i3 t3 D cls d σ1 H1)) D σ H
section
variable {X:Cx} {pins:Q2}
theorem cZ6 {body suite1 suite2 suite3:List Stmt} {b1 b2 b3:Stmt} {x1 x2 x3 n1 n2 n3:Str} {np1 np2 np3 hp1 hp2 hp3 pos:Pos} {i1 i2 i3:Nat} {C1 C2 C3:Addr} {mk:(Value->Option Addr->St->Hp->Prop)->TS} {t1 t2 t3:TS} (hstk:X.stack=X.env::X.outer) (hfm:X.env.frame=some X.env.locals) (hex:X.ex=[])
   (hN:X.N.Nodup) (hi1:X.N[i1]?=some n1) (hl1:X.env.scope.names.lookup n1=some .local) (hi2:X.N[i2]?=some n2) (hl2:X.env.scope.names.lookup n2=some .local) (hi3:X.N[i3]?=some n3) (hl3:X.env.scope.names.lookup n3=some .local) (hg1:Gl X x1) (hm1:X.mg x1=some (.ref C1)) (hg2:Gl X x2) (hm2:X.mg x2=some (.ref C2)) (hg3:Gl X x3) (hm3:X.mg x3=some (.ref C3)) (hb:∀ pins R,PSs (X.tr pins (XS X pins R)) body (mk R)) (hs1:∀ pins ea,PSs (X.hnd pins ea) (b1::suite1) t1) (hs2:∀ pins ea,PSs (X.hnd pins ea) (b2::suite2) t2) (hs3:∀ pins ea,PSs (X.hnd pins ea) (b3::suite3) t3)
   (hd1:(x1 == ("__debug__" : Str))=false:=by decide) (hd2:(x2 == ("__debug__" : Str))=false:=by decide) (hd3:(x3 == ("__debug__" : Str))=false:=by decide):PS X (.Try body [.ExceptHandler (some (.Name x1 np1)) (some n1) (b1::suite1) hp1,.ExceptHandler (some (.Name x2 np2)) (some n2) (b2::suite2) hp2,.ExceptHandler (some (.Name x3 np3)) (some n3) (b3::suite3) hp3] [] [] pos) (cJD X.K C1 C2 C3 i1 i2 i3 mk t1 t2 t3):=by
 intro pins s σ H D I h;have hfr:X.A.frames=some (X.env::X.outer):=by rw [<-hstk]; exact I.ok.frames
 have hcls:(X.env.scope.kind == .class || (X.env.scope.kind == .module && X.env.locals != X.env.globals))=false:=by rw [I.ok.kind]; rfl
 refine wpAny_Try_except (Bo (hb pins _ [] s σ H D (I.tr _) h) (λf s1 q=>?_) λe s1 q=>?_)
 · cases f with
   | next=>
     obtain ⟨σ',H',I',q⟩:=q.untr;exact aU pins s1 σ' H' D I' q
   | brk=>exact q.untr
   | cont=>exact q.untr
   | ret u=>exact q.untr
 · obtain ⟨ea,cls,d,B,σ1,H1,rfl,F,fre,hn,inv,hxr⟩:=q;rw [hstk] at F;refine yL hfr hfm F λh2 F2 u2=>eO (s:={ s1 with heap:=h2 }) F2 λh3 F3 u3=>?_
   have I3:=inv h3 F3.stays (u2.trans u3)
   rcases hxr with ⟨hx,r⟩ | ⟨hx0,hx,r⟩ | ⟨hx0,hx1,hx,r⟩
   · refine Dy (Dq (eD (I3.hnd ea) hg1 hm1 ?_ hd1)) (by intro q; cases q)
     obtain ⟨oe,vs,T,oT,tts,he,hc,_⟩:=id F3.on;refine Fd I3.kIn (hc.1 ▸ (Et he).andThen .now) hx _ _ _ _ (λ_ _ q=>q) ?_;refine Fp (eO (s:={ s1 with heap:=h3 }) F3 λh4 F4 u4=>?_)
     have I4:=(inv h4 F4.stays ((u2.trans u3).trans u4)).adopt (o:=fZ ea cls d) fre hn F4.obj
     refine kW I4 hN hi1 (.inl hl1) (v:=.ref ea) rfl (λs5 I5=>?_) (.inr hl1);refine Bo (hs1 pins ea [] s5 _ _ _ (I5.hnd ea) (r ea hn)) (λf s6 q=>?_) λ_ _ z=>z.elim;have go:∀ {σ2:St} {H2:Hp} {Q:Unit->Shared->Prop} {E:Q0},Inv (X.hnd pins ea) [] σ2 H2 s6->(∀ s7,Inv X pins (σ2.set i1 none) H2 s7->Q () s7)->
         wpAny (model X.prog X.w) X.A (do bindName X.env n1 .none; unbindBehindTheSuite X.env n1 hp1) Q E s6:=fun {σ2 H2 Q E} I6 k=>by
       have I6':=I6.unhnd I.ok
       obtain ⟨m,hm6,_⟩:=id I6'.loc;exact wpAny_nameGoes_keeps hl1 hm6 hcls λh7 v hn7 sb=>k _ (I6'.unname hN hi1 hm6 hl1 hn7 sb)
     cases f with
     | next=>
       obtain ⟨σ2,H2,I6,q⟩:=q;exact go I6 λs7 I7=>⟨_,H2,I7,q⟩
     | brk=>
       obtain ⟨σ2,H2,I6,q⟩:=q;exact go I6 λs7 I7=>⟨_,H2,I7,q⟩
     | cont=>
       obtain ⟨σ2,H2,I6,q⟩:=q;exact go I6 λs7 I7=>⟨_,H2,I7,q⟩
     | ret u=>
       obtain ⟨v,σ2,H2,I6,rv,q⟩:=q;exact go I6 λs7 I7=>⟨v,_,H2,I7,rv,q⟩
   · refine Dy (Dq (eD (I3.hnd ea) hg1 hm1 ?_ hd1)) (by intro q; cases q)
     obtain ⟨oe,vs,T,oT,tts,he,hc,_⟩:=id F3.on;refine Fd I3.kIn (hc.1 ▸ (Et he).andThen .now) hx0 _ _ _ _ (λ_ _ q=>q) ?_;rw [if_neg (show ¬ (false=true) from λz=>nomatch z)]
     dsimp only;refine Dy (Dq (eD (I3.hnd ea) hg2 hm2 ?_ hd2)) (by intro q; cases q)
     refine Fd I3.kIn (hc.1 ▸ (Et he).andThen .now) hx _ _ _ _ (λ_ _ q=>q) ?_;refine Fp (eO (s:={ s1 with heap:=h3 }) F3 λh4 F4 u4=>?_)
     have I4:=(inv h4 F4.stays ((u2.trans u3).trans u4)).adopt (o:=fZ ea cls d) fre hn F4.obj
     refine kW I4 hN hi2 (.inl hl2) (v:=.ref ea) rfl (λs5 I5=>?_) (.inr hl2);refine Bo (hs2 pins ea [] s5 _ _ _ (I5.hnd ea) (r ea hn)) (λf s6 q=>?_) λ_ _ z=>z.elim;have go:∀ {σ2:St} {H2:Hp} {Q:Unit->Shared->Prop} {E:Q0},Inv (X.hnd pins ea) [] σ2 H2 s6->(∀ s7,Inv X pins (σ2.set i2 none) H2 s7->Q () s7)->
         wpAny (model X.prog X.w) X.A (do bindName X.env n2 .none; unbindBehindTheSuite X.env n2 hp2) Q E s6:=fun {σ2 H2 Q E} I6 k=>by
       have I6':=I6.unhnd I.ok
       obtain ⟨m,hm6,_⟩:=id I6'.loc;exact wpAny_nameGoes_keeps hl2 hm6 hcls λh7 v hn7 sb=>k _ (I6'.unname hN hi2 hm6 hl2 hn7 sb)
     cases f with
     | next=>
       obtain ⟨σ2,H2,I6,q⟩:=q;exact go I6 λs7 I7=>⟨_,H2,I7,q⟩
     | brk=>
       obtain ⟨σ2,H2,I6,q⟩:=q;exact go I6 λs7 I7=>⟨_,H2,I7,q⟩
     | cont=>
       obtain ⟨σ2,H2,I6,q⟩:=q;exact go I6 λs7 I7=>⟨_,H2,I7,q⟩
     | ret u=>
       obtain ⟨v,σ2,H2,I6,rv,q⟩:=q;exact go I6 λs7 I7=>⟨v,_,H2,I7,rv,q⟩
   · refine Dy (Dq (eD (I3.hnd ea) hg1 hm1 ?_ hd1)) (by intro q; cases q)
     obtain ⟨oe,vs,T,oT,tts,he,hc,_⟩:=id F3.on;refine Fd I3.kIn (hc.1 ▸ (Et he).andThen .now) hx0 _ _ _ _ (λ_ _ q=>q) ?_;rw [if_neg (show ¬ (false=true) from λz=>nomatch z)]
     dsimp only;refine Dy (Dq (eD (I3.hnd ea) hg2 hm2 ?_ hd2)) (by intro q; cases q)
     refine Fd I3.kIn (hc.1 ▸ (Et he).andThen .now) hx1 _ _ _ _ (λ_ _ q=>q) ?_;rw [if_neg (show ¬ (false=true) from λz=>nomatch z)]
     dsimp only;refine Dy (Dq (eD (I3.hnd ea) hg3 hm3 ?_ hd3)) (by intro q; cases q)
     refine Fd I3.kIn (hc.1 ▸ (Et he).andThen .now) hx _ _ _ _ (λ_ _ q=>q) ?_;refine Fp (eO (s:={ s1 with heap:=h3 }) F3 λh4 F4 u4=>?_)
     have I4:=(inv h4 F4.stays ((u2.trans u3).trans u4)).adopt (o:=fZ ea cls d) fre hn F4.obj
     refine kW I4 hN hi3 (.inl hl3) (v:=.ref ea) rfl (λs5 I5=>?_) (.inr hl3);refine Bo (hs3 pins ea [] s5 _ _ _ (I5.hnd ea) (r ea hn)) (λf s6 q=>?_) λ_ _ z=>z.elim;have go:∀ {σ2:St} {H2:Hp} {Q:Unit->Shared->Prop} {E:Q0},Inv (X.hnd pins ea) [] σ2 H2 s6->(∀ s7,Inv X pins (σ2.set i3 none) H2 s7->Q () s7)->
         wpAny (model X.prog X.w) X.A (do bindName X.env n3 .none; unbindBehindTheSuite X.env n3 hp3) Q E s6:=fun {σ2 H2 Q E} I6 k=>by
       have I6':=I6.unhnd I.ok
       obtain ⟨m,hm6,_⟩:=id I6'.loc;exact wpAny_nameGoes_keeps hl3 hm6 hcls λh7 v hn7 sb=>k _ (I6'.unname hN hi3 hm6 hl3 hn7 sb)
     cases f with
     | next=>
       obtain ⟨σ2,H2,I6,q⟩:=q;exact go I6 λs7 I7=>⟨_,H2,I7,q⟩
     | brk=>
       obtain ⟨σ2,H2,I6,q⟩:=q;exact go I6 λs7 I7=>⟨_,H2,I7,q⟩
     | cont=>
       obtain ⟨σ2,H2,I6,q⟩:=q;exact go I6 λs7 I7=>⟨_,H2,I7,q⟩
     | ret u=>
       obtain ⟨v,σ2,H2,I6,rv,q⟩:=q;exact go I6 λs7 I7=>⟨v,_,H2,I7,rv,q⟩
theorem dQH {K:PySem.W.Frag} {C1 C2 C3:Addr} {i1 i2 i3:Nat} {mk:(Value->Option Addr->St->Hp->Prop)->TS} {t1 t2 t3:TS} {D:Ends} {σ:St} {H:Hp} (h:mk (λcls d σ1 H1=>(PySem.W.exmOne K cls (.ref C1)=some true/\hdl i1 t1 D cls d σ1 H1)\/(PySem.W.exmOne K cls (.ref C1)=some false/\PySem.W.exmOne K cls (.ref C2)=some true/\hdl i2 t2 D cls d σ1 H1)\/(PySem.W.exmOne K cls (.ref C1)=some false/\PySem.W.exmOne K cls (.ref C2)=some false/\PySem.W.exmOne K cls (.ref C3)=some true/\hdl i3 t3 D cls d σ1 H1)) D σ H):cJD K C1 C2 C3 i1 i2 i3 mk t1 t2 t3 D σ H:=h
end
section
variable {X:Cx} {CX:CXT} {k k':Nat} {f C:Addr} {fd:FuncData} {ps:List Str} {sp:Sp} {Es:St->XK} {x:Str} {p pos:Pos} {e:Expr} {es:List Expr} {t:TA}
def bJV (C:Addr) (sp:Sp) (Es:St->XK) (t:TA):TE:=λσ H Q=>t σ H λvs H1=>∀ x dx,H1 x=none->H1 dx=none->dx≠x->sp (.ref x::vs) (upd (upd H1 dx (.own x)) x (.ins C dx [])) (λv H2=>v=.non/\Q (.ref x) H2) (Es σ)
theorem bQB {pins:Q2} {σ:St} {H:Hp} {s:Shared} {Q:VK} {us:List Value} {vs:List V} (M:Mk X.K C f) (F:FnOk X.prog X.w X.K X.mg X.base CX k f fd ps sp) (hr:Room (k+1) X.A) (hb:Binds X.K fd ps [])
   (hx:xO CX X Es) (I:Inv X pins σ H s) (r:Vals vs us)
   (h:∀ x dx,H x=none->H dx=none->dx≠x->sp (.ref x::vs) (upd (upd H dx (.own x)) x (.ins C dx [])) (λv H2=>v=.non/\Q (.ref x) H2) (Es σ)) :
   wpAny (model X.prog X.w) X.A (call (.ref C) us) (EP X pins σ Q) X.xe s:=by
 have hq:=h (s.heap.objs.size+1) s.heap.objs.size (I.hok.fresh (Nat.le_succ _)) (I.hok.fresh (Ag _)) (Ay (Nat.lt_succ_self _))
 have I2:=Inv.made (C:=C) I
 have r2:Vals (V.ref (s.heap.objs.size+1)::vs) (Value.ref (s.heap.objs.size+1)::us):=.cons rfl r
 have hl:(Value.ref (s.heap.objs.size+1)::us++([]:List Value)).length=ps.length:=by
   have e:=r2.length
   rw [F.len _ _ _ _ hq] at e;rw [Br];exact e.symm
 have hb1:=hb _ (Value.ref (s.heap.objs.size+1)::us) I2.kIn hl
 rw [Br] at hb1;refine Ek (xN (f:=f) I.kIn M.makes M.init (Ez.mp M.fn) (Ei (F.run _ X.stack _ _ ⟨Value.ref (s.heap.objs.size+1)::us,[]⟩ (Value.ref (s.heap.objs.size+1)::us) _ _ (Es σ) (hr.make C us [])
   (I2.env0.make C us []) hb1 r2 hq) λr s' hq'=>?_))
 cases r with
 | error e=>exact hx pins σ _ _ e s' I2 hq'
 | ok fl=>
   cases fl with
   | ret u=>
     obtain ⟨v,H',I3,rv,ev,q3⟩:=I2.after hq';subst ev;exact ⟨rv,⟨V.ref (s.heap.objs.size+1),H',I3,rfl,q3⟩⟩
   | next=>exact False.elim hq'
   | brk=>exact False.elim hq'
   | cont=>exact False.elim hq'
theorem dX8 (c:aJE (CXr X.prog X.w) X.prog X.w X.K X.mg X.base k C ps sp) (hx:xO (CXr X.prog X.w) X Es) (hr:Room k' X.A) (hk:k+1<=k') (hg:Gl X x) (hm:X.mg x=some (.ref C)) (ha:PA X (e::es) t) (hdb:(x == ("__debug__" : Str))=false:=by decide) (he:starEach (e::es) X.env=(false,eval e X.env)::starEach es X.env:=by rfl) (hpl:(backTo pos (starEach es X.env)).any (·.1)=false:=by rfl) :
   PE X (.Call (.Name x p) (e::es) [] pos) (bJV C sp Es t):=by
 obtain ⟨f,fd,F,M,hb⟩:=c;intro pins s σ H Q I h;refine Cz (eD I hg hm ?_ hdb);refine Ef (h₀:=X.base) I.ok.mod.kin M.kp (thn (ha pos pins s σ H _ I h) λus s1 ⟨vs,H1,I1,r,q⟩=>⟨I1.kIn,?_⟩) he hpl;exact bQB M F (hr.mono hk) hb hx I1 r q
theorem eXG {σ:St} {H:Hp} {Q:VK} (h:t σ H λvs H1=>∀ x dx,H1 x=none->H1 dx=none->dx≠x->sp (.ref x::vs) (upd (upd H1 dx (.own x)) x (.ins C dx [])) (λv H2=>v=.non/\Q (.ref x) H2) (Es σ)):bJV C sp Es t σ H Q:=h
end
section
variable {X:Cx} {a:Expr} {ta:TE} {x:Str} {p pos:Pos}
def KTup (K:PySem.W.Frag) (mg:Str->Option Value) (x:Str) (ss:List Str):Prop :=
 ∃ (d:Addr) (o:Obj) (its:Array Value) (n:Nat),mg x=some (.ref d)/\K.lookup d=some o/\o.cls=.type "tuple"/\o.data=.seq its n/\its.size<=sizeLine/\its.toList.map strOf=ss.map some
where strOf:Value->Option Str
 | .str z _=>some z
 | _=>none
theorem qH:∀ {its:List Value} {ss:List Str},its.map KTup.strOf=ss.map some->Vals (ss.map V.str) its
 | [],[],_=>.nil
 | v::vs,z::zs,h=>by
   rw [Aw,Aw] at h;injection h with h1 h2
   cases v with
   | str y t=>cases h1; exact .cons ⟨t,rfl⟩ (qH h2)
   | _=>cases h1
 | [],_::_,h=>nomatch h
 | _::_,[],h=>nomatch h
def eXI (ss:List Str) (ta:TE):TT:=λσ H Q=>ta σ H λv H1=>∃ z,v=.str z/\Q (inV (.str z) (ss.map V.str)) H1
theorem dX7 {ss:List Str} (hk:KTup X.K X.mg x ss) (hg:Gl X x) (ha:PE X a ta) (hm:behindInMarks .In (.Name x p)=false:=by rfl) (hd:(x == ("__debug__" : Str))=false:=by decide):PT X (.Compare a [.In] [.Name x p] pos) (eXI ss ta):=by
 obtain ⟨d,o,its,n,m,hl,hc,hdt,hz,hs⟩:=hk;intro pins s σ H Q I h;refine wpAny_isTrue_Compare1 (thn (ha pins s σ H _ I h) λv s1 ⟨y,H1,I1,r1,z,ez,q1⟩=>thn (mY (v:=.ref d) (pos:=p) hg m rfl hd pins s1 σ H1 (λy' H2=>y'=.ref d/\H2=H1) I1 ⟨rfl,rfl⟩) λu s2 ⟨y',H2,I2,r2,ey,eH⟩=>
   thn (op_in_seq pins s2 σ H2 y y' v u (λc H3=>c=.bl (inV (.str z) (ss.map V.str))/\Q (inV (.str z) (ss.map V.str)) H3) I2 r1 r2 ⟨d,ss.map V.str,ey,.inr (.inr ⟨o,its,n,hl,hc,hdt,hz,qH hs⟩),by rw [ez]; rfl,by rw [Fo]; exact As.mpr λ_ _=>rfl,by subst ez; exact ⟨rfl,by rw [eH]; exact q1⟩⟩) λc s3 ⟨w,H3,I3,r3,ew,q3⟩=>?_) hm
 subst ew;cases r3;exact Ff ⟨H3,I3,q3⟩
theorem eXD {ss:List Str} {σ:St} {H:Hp} {Q:Bool->Hp->Prop} (h:ta σ H λv H1=>∃ z,v=.str z/\Q (inV (.str z) (ss.map V.str)) H1):eXI ss ta σ H Q:=h
def cJ5:List V->Hp->VK->Prop:=λxs H Q=>∃ z,xs=[.str z]/\Q (.str z) H
theorem dXL:CallR X (.type "str") cJ5:=by
 intro pins s σ H xs us Q I r h;obtain ⟨z,rfl,q⟩:=h;obtain ⟨u,rfl,t,rfl⟩:=eK r;exact PySem.P.str_of_str ⟨.str _,H,I,⟨_,rfl⟩,q⟩
theorem dX0 {z:Str} {H:Hp} {Q:VK} (h:Q (.str z) H):cJ5 [.str z] H Q:=⟨z,rfl,h⟩
def dQB:List V->Hp->VK->Prop:=λxs H Q=>∃ k,xs=[.bl k]/\Q (.int (if k then 1 else 0)) H
theorem bXP:CallR X (.type "int") dQB:=call_int1.imp λ_ _ _ q=>.inr q
theorem dQ2 {k:Bool} {H:Hp} {Q:VK} (h:Q (.int (if k then 1 else 0)) H):dQB [.bl k] H Q:=⟨k,rfl,h⟩
def cJG:R2:=λx y H Q=>x=.int 10/\y=.int 20/\Q (.int 100000000000000000000) H
theorem dXF:OpR X (binaryOp .Pow) cJG:=op_pow.imp λx y H Q q=>by
 obtain ⟨rfl,rfl,q⟩:=q;exact ⟨10,20,rfl,rfl,⟨by decide,by decide,by decide⟩,by
   show Q (V.int ((10:Int) ^ (20:Int).toNat)) H
   rw [show (10:Int) ^ (20:Int).toNat=100000000000000000000 by decide]
   exact q⟩
theorem dZ7 {H:Hp} {Q:VK} (h:Q (.int 100000000000000000000) H):cJG (.int 10) (.int 20) H Q:=⟨rfl,rfl,h⟩
end
section
variable {g:TG} {tests:TT} {te:TE} {σ0:St} {Q:VK} {H1:Hp}
theorem cQ6 {K:PySem.W.Frag} {a:Addr} {xs:List V} (f:Nat->Option V) (ha:H1 a=some (.tup xs)) (hl:xs.length<sizeLine)
   (hs:∀ (i:Nat) x Hc (A:VK) (B:Hp->Prop),xs[i]?=some x->Same H1 Hc->(∀ y,f i=some y->∀ Hd,Same Hc Hd->A y Hd)->(f i=none->∀ Hd,Same Hc Hd->B Hd)->
     g x σ0 Hc λσ2 H2=>Wk σ0 σ2/\tests σ2 H2 λb H3=>if b=true then te σ2 H3 A else B H3)
   (fin:∀ D Hd,H1 D=none->Same H1 Hd->Hd D=some (.lst ((List.range xs.length).filterMap f))->Q (.ref D) Hd):eF g tests te σ0 Q (Itt K a) H1:=by
 refine nS (n:=xs.length) (λD i ys Hc=>Same H1 Hc/\ys=(List.range i).filterMap f) hl (λD hD=>⟨aF hD _,rfl⟩)
   (λD i ys Hc _ r h=>⟨xs,xs[i],SqT.of (r.1 _ _ ha),by simp [h]⟩) (λD ys Hc _ r=>⟨xs,SqT.of (r.1 _ _ ha),Nat.le_refl _⟩) ?_ ?_
 · rintro D i ys Hc x H' A B hD hi ⟨sm,rfl⟩ hDc ⟨rfl,hz⟩ ha' hb;refine hs i x H' A B (hz xs (SqT.of (sm _ _ ha))) sm (λy hy Hd sd=>?_) (λhn Hd sd=>?_)
   · exact ha' _ _ (sd _ _ hDc) ⟨eJ hD (sm.trans sd),(iK hy).symm⟩
   · exact hb _ (sd _ _ hDc) ⟨sm.trans sd,(lO hn).symm⟩
 · rintro D ys Hc hD ⟨sm,rfl⟩ hDc _;exact fin D Hc hD sm hDc
end
end L2
namespace Mine
open PySem L2
local macro_rules | `(tactic| walk_at "rd") => `(tactic| first | assumption | exact bH | exact eR | exact aZ3 | exact aQ (by assumption) | exact eZ (by assumption) | (apply aV (aF (by assumption) _); walk_at "rd"))
local macro_rules | `(tactic| walk_at "dd") => `(tactic| first | exact uV (by assumption) | exact bJU (by assumption) | exact uV aG | assumption)
local macro_rules | `(tactic| walk_at "lo") => `(tactic| first | assumption | decide | omega | (simp only [List.length_map,List.length_append,List.length_cons,List.length_nil,Str.length_append]; omega))
local macro_rules | `(tactic| walk_at "ln") => `(tactic| first | assumption | decide | exact bQ (by walk_at "lo") | exact bT (by walk_at "lo"))
local macro_rules | `(tactic| walk_at "ar") => `(tactic| first | assumption | decide | omega | exact ⟨by omega,by omega⟩ | exact Or.inl ⟨by omega,by omega⟩ | exact Or.inr ⟨by omega,by omega⟩ | (dsimp only; done) | (dsimp only; omega))
local macro_rules | `(tactic| walk_at "s") => `(tactic| first
 | (with_reducible first | refine eW ?_ | refine dZ3 ?_ | refine eX0 ?_ | refine dJS ?_ | refine dXI ?_ | refine eQ7 ?_ | refine eQI ?_ | refine cZ2 ?_ | refine dX1 ?_)
 | ((with_reducible refine' eQ8 ?sv ?_); (case sv => exact rfl))
 | (with_reducible first | refine s_c ?_ | refine eZM ?_ | refine eXZ ?_ | refine dJI ?_ | refine dQO ?_ | refine dZL ?_ | refine eX4 ?_ | refine eX8 ?_ | refine bQ7 ?_ | refine dZ4 ?_ | refine dZ8 ?_ | refine eQC ?_)
 | ((with_reducible refine' eXN ?se ?_); (case se => walk_at "rd"))
 | (with_reducible first | refine dQ5 ?_ | refine cZF ?_ | refine eZE ?_ | refine dZK ?_ | refine eQR ?_ | refine eX9 ?_ | refine eQ5 ?_ | refine dQ1 ?_ | refine eXP ?_ | refine eZB ?_)
 | ((with_reducible refine eQO ?sc ?_); (case sc => walk_at "ar"))
 | with_reducible refine dXN ?_
 | ((with_reducible refine bZB ?sc ?_); (case sc => walk_at "ln"))
 | (with_reducible first | refine dJ6 ?_ | refine eXE ?_ | refine eXW ?_ | refine eXS ?_ | refine dJB ?_ | refine dX3 ?_ | refine eQA ?_)
 | ((with_reducible refine dJF ?sc ?_); (case sc => walk_at "ln"))
 | ((with_reducible refine' bQX ?sc ?_); (case sc => walk_at "rd"))
 | ((with_reducible refine dXQ ?sc ?_); (case sc => walk_at "ln"))
 | ((with_reducible refine' dZG ?sc ?_); (case sc => walk_at "rd"))
 | ((with_reducible refine' dZC ?sc ?_); (case sc => walk_at "rd"))
 | (with_reducible first | refine dQS ?_ | refine cZQ ?_ | refine cQZ ?_ | refine cZG ?_ | refine cZJ ?_ | refine cXJ ?_ | refine dXH ?_ | refine dQJ ?_ | refine bJ8 ?_)
 | ((with_reducible refine' eQJ ?se ?_); (case se => walk_at "rd"))
 | ((with_reducible refine' dJY ?se ?sl ?_); (case se => walk_at "rd"); (case sl => walk_at "ln"))
 | ((with_reducible refine' eXA ?se ?sf ?sl ?_); (case se => walk_at "rd"); (case sf => walk_at "rd"); (case sl => walk_at "ln"))
 | ((with_reducible refine s_str ?sc ?_); (case sc => walk_at "ar"))
 | (with_reducible first | refine bQ2 ?_ | refine dQR ?_ | refine cQT ?_ | refine dZI ?_)
 | ((with_reducible refine' dXA ?se ?sn ?_); (case se => walk_at "rd"); (case sn => exact rfl))
 | (with_reducible first | refine eQF ?_ | refine eQU ?_ | refine dXU ?_)
 | ((with_reducible refine' dJK ?se ?_); (case se => walk_at "rd"))
 | (with_reducible first | refine cX3 ?_ | refine cXR ?_)
 | ((with_reducible refine dJ9 ?sd ?_); (case sd => walk_at "dd"))
 | (with_reducible first | refine dZB ?_ | refine dJ8 ?_ | refine dZQ ?_ | refine cXB ?_ | refine eQ6 ?_)
 | ((with_reducible refine' dZY ?se ?sn ?_); (case se => walk_at "rd"); (case sn => exact rfl))
 | (with_reducible first | refine cQ1 ?_ | refine dQM ?_ | refine dXT ?_ | refine bQT ?_)
 | ((with_reducible refine cZU ?sc ?_); (case sc => walk_at "ln"))
 | (with_reducible first | refine eQL ?_ | refine bZM ?_ | refine cQL ?_ | refine cZ1 ?_ | refine dZE ?_ | refine eXM ?_ | refine dQZ ?_ | refine eXV ?_ | refine dJ3 ?_ | refine dJN ?_ | refine dQL ?_ | refine dQH ?_ | refine eXG ?_ | refine eXD ?_ | refine dX0 ?_ | refine dQ2 ?_ | refine dZ7 ?_ | refine eX6 ?_ | refine eX3 ?_ | refine eXL ?_ | refine eQH ?_)
 | dsimp only)
local macro_rules | `(tactic| walk_at "go") => `(tactic| repeat' (walk_at "s"))
local macro_rules | `(tactic| walk_at "sc") => `(tactic| exact ⟨rfl,rfl,rfl,by decide +kernel,rfl,by decide +kernel,by decide +kernel⟩)
local macro_rules | `(tactic| walk_at "o") => `(tactic| first | exact Or.inl rfl | exact Or.inr rfl)
local macro_rules | `(tactic| walk_at "gs") => `(tactic| repeat' ((fail_if_success (with_reducible refine eW ?_)); (walk_at "s")))
def top (i:Nat):Stmt:=PySem.Challenge.pw_flaglocker_k62_desks_made.main.body.getD i (.Pass ⟨0,0,0,0⟩)
abbrev iM:Stmt:=top 117
abbrev iR:Stmt:=top 118
abbrev dR:Stmt:=mT (top 6) 0
abbrev gQ:Stmt:=top 28
abbrev cD:Stmt:=top 29
abbrev gL:Stmt:=top 21
abbrev dL:Stmt:=top 30
abbrev gK:Stmt:=top 31
abbrev eT:Stmt:=top 87
abbrev eQ:Stmt:=top 84
abbrev gI:Stmt:=top 81
abbrev eV:Stmt:=top 85
abbrev cS:Stmt:=top 86
abbrev cZ:Stmt:=top 53
abbrev eA:Stmt:=mT (top 99) 0
abbrev eP:Stmt:=mT (top 115) 0
abbrev iX:Stmt:=top 106
abbrev dB:Stmt:=top 107
abbrev cY:Stmt:=top 108
abbrev gH:Stmt:=top 111
abbrev dY:Stmt:=top 113
abbrev fK:Stmt:=top 97
abbrev eI:Stmt:=top 93
abbrev dS:Stmt:=top 94
abbrev eG:Stmt:=top 95
abbrev gO:Stmt:=top 20
abbrev cO:Stmt:=top 91
abbrev iW:Stmt:=top 55
abbrev fO:Stmt:=top 71
abbrev dD:Stmt:=top 92
abbrev dQ:Stmt:=top 96
abbrev dP:Stmt:=top 98
abbrev fN:Stmt:=mT (top 99) 1
abbrev iN:Stmt:=top 112
abbrev cJ:Stmt:=top 83
abbrev cL:Stmt:=top 82
abbrev eS:Stmt:=mT (top 99) 4
abbrev cK:Stmt:=mT (top 99) 2
abbrev cX:Stmt:=mT (top 99) 3
abbrev gN:Stmt:=top 19
abbrev eE:Stmt:=top 33
abbrev cF:Stmt:=top 35
abbrev fS:Stmt:=top 36
abbrev eB:Stmt:=top 37
abbrev eU:Stmt:=top 48
abbrev fQ:Stmt:=top 49
abbrev gJ:Stmt:=top 50
abbrev dG:Stmt:=mT (top 99) 5
abbrev cE:Stmt:=top 114
abbrev fM:Stmt:=mT (top 115) 1
abbrev jA:Stmt:=top 120
abbrev cP:Stmt:=top 119
abbrev nM:Stmt:=top 121
structure Gs (K:PySem.W.Frag) (mg:Str->Option Value) (w:World) (aTower Zz Zw aDesk Zx Zu Zv Zy Zt Zs:Addr):Prop where
 c_Tower:mg "Tower"=some (.ref aTower)
 c_TowerError:mg "TowerError"=some (.ref Zz)
 c_NoDeed:mg "NoDeed"=some (.ref Zw)
 c_Desk:mg "Desk"=some (.ref aDesk)
 c_NoHoist:mg "NoHoist"=some (.ref Zx)
 c_NoBook:mg "NoBook"=some (.ref Zu)
 c_NoText:mg "NoText"=some (.ref Zv)
 c_NoHalyard:mg "NoHalyard"=some (.ref Zy)
 c_NoFlag:mg "NoFlag"=some (.ref Zt)
 c_NoRow:mg "NoRow"=some (.ref Zs)
 x_NoDeed:PySem.W.excIn K Zw [.type "ValueError",.type "Exception",.type "BaseException",.type "object"] "ValueError.__new__"=true
 x_NoHoist:PySem.W.excIn K Zx [.type "ValueError",.type "Exception",.type "BaseException",.type "object"] "ValueError.__new__"=true
 x_NoText:PySem.W.excIn K Zv [.type "ValueError",.type "Exception",.type "BaseException",.type "object"] "ValueError.__new__"=true
 x_NoHalyard:PySem.W.excIn K Zy [.type "ValueError",.type "Exception",.type "BaseException",.type "object"] "ValueError.__new__"=true
 x_NoFlag:PySem.W.excIn K Zt [.type "ValueError",.type "Exception",.type "BaseException",.type "object"] "ValueError.__new__"=true
 x_NoRow:PySem.W.excIn K Zs [.type "ValueError",.type "Exception",.type "BaseException",.type "object"] "ValueError.__new__"=true
 m_NoBook_NoBook:PySem.W.exmOne K (.ref Zu) (.ref Zu)=some true
 m_NoText_NoBook:PySem.W.exmOne K (.ref Zv) (.ref Zu)=some false
 m_NoText_NoText:PySem.W.exmOne K (.ref Zv) (.ref Zv)=some true
 m_NoHalyard_NoBook:PySem.W.exmOne K (.ref Zy) (.ref Zu)=some false
 m_NoHalyard_NoText:PySem.W.exmOne K (.ref Zy) (.ref Zv)=some false
 m_NoHalyard_NoHalyard:PySem.W.exmOne K (.ref Zy) (.ref Zy)=some true
 e_1:PySem.W.hasDictIn K Zv=true
 e_2:PySem.W.findIn K (.ref Zv) "__getattribute__"=some (some (.builtin "BaseException.__getattribute__"))
 e_3:PySem.W.findIn K (.ref Zv) "__getattr__"=some none
 e_4:PySem.W.findIn K (.ref Zv) "__class__"=some (some (.builtin "object.__class__"))
 e_7:PySem.W.mroIn K Zv (.type "object")=some true
 e_8:PySem.W.subIn K (.ref Zv) (.type "BaseException")=some true
 h_1:PySem.W.hasDictIn K Zy=true
 h_2:PySem.W.findIn K (.ref Zy) "__getattribute__"=some (some (.builtin "BaseException.__getattribute__"))
 h_3:PySem.W.findIn K (.ref Zy) "__getattr__"=some none
 h_4:PySem.W.findIn K (.ref Zy) "__class__"=some (some (.builtin "object.__class__"))
 h_7:PySem.W.mroIn K Zy (.type "object")=some true
 h_8:PySem.W.subIn K (.ref Zy) (.type "BaseException")=some true
 e_5:PySem.W.specialIn K (.builtin "object.__class__") "__get__"=some (some (.builtin "getset_descriptor.__get__"))
 e_6:PySem.W.takesIn K (.builtin "object.__class__")=some true
 t_1:PySem.W.kitOne K (.ref Zv) (.type "ValueError")=some true
 t_2:PySem.W.kitOne K (.ref Zy) (.ref Zz)=some true
 t1_TowerError:PySem.W.specialIn K (.ref Zz) "__getattribute__"=some (some (.builtin "type.__getattribute__"))
 t2_TowerError:PySem.W.readsIn K Zz (.type "type")=true
 t3_TowerError:PySem.W.findCls K (.ref Zz) (.type "type") "__init__"=some (.val (.builtin "ValueError.__init__"))
 xo_NoBook:aXA K Zu [.type "ValueError",.type "Exception",.type "BaseException",.type "object"] "ValueError.__new__"=true
 xk_NoBook:PySem.W.keepIn K (.ref Zu)=true
 xe1_NoBook:PySem.W.hasDictIn K Zu=true
 xe2_NoBook:PySem.W.findIn K (.ref Zu) "__getattribute__"=some (some (.builtin "BaseException.__getattribute__"))
 xe3_NoBook:PySem.W.findIn K (.ref Zu) "__getattr__"=some none
 xe4_NoBook:PySem.W.findIn K (.ref Zu) "__class__"=some (some (.builtin "object.__class__"))
 xe5_NoBook:PySem.W.specialIn K (.builtin "object.__class__") "__get__"=some (some (.builtin "getset_descriptor.__get__"))
 xe6_NoBook:PySem.W.takesIn K (.builtin "object.__class__")=some true
 xe7_NoBook:PySem.W.mroIn K Zu (.type "object")=some true
 xe8_NoBook:PySem.W.subIn K (.ref Zu) (.type "BaseException")=some true
 xs_NoBook:PySem.W.findIn K (.ref Zu) "__setattr__"=some (some (.builtin "object.__setattr__"))
 xr_NoBook:dQ7 K Zu Zz=true
 xv_NoBook:PySem.W.subIn K (.ref Zu) (.type "ValueError")=some true
 xn_NoBook_at:PySem.W.findIn K (.ref Zu) "at"=some none
 cl1_Tower:PySem.W.plainGet K aTower Str.empty=true
 cl2_Tower:PySem.W.hasDictIn K aTower=true
 cl3_Tower:PySem.W.plainOver K aTower=true
 cl4_Tower:PySem.W.findIn K (.ref aTower) "__setattr__"=some (some (.builtin "object.__setattr__"))
 mk1_Tower:PySem.W.makesIn K aTower=true
 mk2_Tower:PySem.W.keepIn K (.ref aTower)=true
 na_Tower_book:PySem.W.findIn K (.ref aTower) "book"=some none
 na_Tower_many:PySem.W.findIn K (.ref aTower) "many"=some none
 na_Tower_stock_at_first:PySem.W.findIn K (.ref aTower) "stock_at_first"=some none
 na_Tower_stock:PySem.W.findIn K (.ref aTower) "stock"=some none
 na_Tower_hung:PySem.W.findIn K (.ref aTower) "hung"=some none
 na_Tower_deeds:PySem.W.findIn K (.ref aTower) "deeds"=some none
 cl1_Desk:PySem.W.plainGet K aDesk Str.empty=true
 cl2_Desk:PySem.W.hasDictIn K aDesk=true
 cl3_Desk:PySem.W.plainOver K aDesk=true
 cl4_Desk:PySem.W.findIn K (.ref aDesk) "__setattr__"=some (some (.builtin "object.__setattr__"))
 mk1_Desk:PySem.W.makesIn K aDesk=true
 mk2_Desk:PySem.W.keepIn K (.ref aDesk)=true
 na_Desk_book:PySem.W.findIn K (.ref aDesk) "book"=some none
 na_Desk_tower:PySem.W.findIn K (.ref aDesk) "tower"=some none
 d_WORDS_IN:dQK w K mg "WORDS_IN" [("haul",3),("lower",2),("lose",2),("find",2),("sight",2),("check",2),("halyards",1),("locker",1),("read",1),("log",1)]
 d_THINGS_IN:dQK w K mg "THINGS_IN" [("haul",3),("lower",2),("lose",2),("find",2),("say",2)]
 t_WITH_TERMS:KTup K mg "WITH_TERMS" ["say", "cut"]
 b_len:mg "len"=none
 b_range:mg "range"=none
 b_all:mg "all"=none
 b_str:mg "str"=none
 b_int:mg "int"=none
 b_dict:mg "dict"=none
 b_list:mg "list"=none
 b_enumerate:mg "enumerate"=none
 b_sum:mg "sum"=none
 b_isinstance:mg "isinstance"=none
 b_ValueError:mg "ValueError"=none
 s_LONGEST_TERM:∃ t,mg "LONGEST_TERM"=some (.int 10 t)
 s_TERM_LETTERS:∃ t,mg "TERM_LETTERS"=some (.str "abcdefghijklmnopqrstuvwxyz" t)
 s_MOST_PLACES:∃ t,mg "MOST_PLACES"=some (.int 7 t)
 s_LETTERS:∃ t,mg "LETTERS"=some (.str "abcdefghijklmnopqrstuvw" t)
 s_MOST_TUPLES:∃ t,mg "MOST_TUPLES"=some (.int 60 t)
 s_LONGEST_WORD:∃ t,mg "LONGEST_WORD"=some (.int 6 t)
 s_MOST_TERMS_MEANT:∃ t,mg "MOST_TERMS_MEANT"=some (.int 5 t)
 s_MOST_OF_A_FLAG:∃ t,mg "MOST_OF_A_FLAG"=some (.int 99 t)
 s_SUBSTITUTES:∃ t,mg "SUBSTITUTES"=some (.str "1234" t)
 s_FLAGS:∃ t,mg "FLAGS"=some (.str "abcdefghijklmnopqrstuvw1234" t)
 s_MOST_HALYARDS:∃ t,mg "MOST_HALYARDS"=some (.int 6 t)
 s_BARE:∃ t,mg "BARE"=some (.str "-" t)
theorem Gs.xx_NoBook {K:PySem.W.Frag} {mg:Q3} {w:World} {aTower Zz Zw aDesk Zx Zu Zv Zy Zt Zs:Addr} (G:Gs K mg w aTower Zz Zw aDesk Zx Zu Zv Zy Zt Zs):ExK K Zu:=⟨G.xe1_NoBook,G.xe2_NoBook,G.xe3_NoBook,G.xe4_NoBook,G.xe5_NoBook,G.xe6_NoBook,G.xe7_NoBook,G.xe8_NoBook⟩
theorem Gs.xc_NoBook {K:PySem.W.Frag} {mg:Q3} {w:World} {aTower Zz Zw aDesk Zx Zu Zv Zy Zt Zs:Addr} (G:Gs K mg w aTower Zz Zw aDesk Zx Zu Zv Zy Zt Zs):XcK K Zu Zz:=⟨G.xx_NoBook,G.xs_NoBook,cXV G.xr_NoBook,G.xv_NoBook⟩
theorem Gs.xm_NoBook {K:PySem.W.Frag} {mg:Q3} {w:World} {aTower Zz Zw aDesk Zx Zu Zv Zy Zt Zs:Addr} (G:Gs K mg w aTower Zz Zw aDesk Zx Zu Zv Zy Zt Zs):XmK K Zu:=⟨G.xo_NoBook,G.xk_NoBook⟩
theorem Gs.cl_Tower {K:PySem.W.Frag} {mg:Q3} {w:World} {aTower Zz Zw aDesk Zx Zu Zv Zy Zt Zs:Addr} (G:Gs K mg w aTower Zz Zw aDesk Zx Zu Zv Zy Zt Zs):Cls K aTower:=⟨G.cl1_Tower,G.cl2_Tower,G.cl3_Tower,G.cl4_Tower⟩
theorem Gs.cl_Desk {K:PySem.W.Frag} {mg:Q3} {w:World} {aTower Zz Zw aDesk Zx Zu Zv Zy Zt Zs:Addr} (G:Gs K mg w aTower Zz Zw aDesk Zx Zu Zv Zy Zt Zs):Cls K aDesk:=⟨G.cl1_Desk,G.cl2_Desk,G.cl3_Desk,G.cl4_Desk⟩
abbrev lettersT:Str := "abcdefghijklmnopqrstuvw"
abbrev subsT:Str := "1234"
abbrev flagsT:Str := "abcdefghijklmnopqrstuvw1234"
abbrev one (c:Nat):Str:=⟨#[c]⟩
theorem yE:flagsT.cps.toList=lettersT.cps.toList++subsT.cps.toList:=by decide
def bM (c:Nat):Prop:=97<=c/\c<=119
def cT (c:Nat):Prop:=49<=c/\c<=52
instance (c:Nat):Decidable (bM c):=inferInstanceAs (Decidable (_/\_))
instance (c:Nat):Decidable (cT c):=inferInstanceAs (Decidable (_/\_))
theorem mem_letters {c:Nat}:c∈lettersT.cps.toList ↔ bM c:=by
 have h1:∀ c∈lettersT.cps.toList,bM c:=by decide +kernel
 have h2:∀ k:_root_.Fin 23,97+k.val∈lettersT.cps.toList:=by decide +kernel
 refine ⟨h1 c,λh=>?_⟩;have e:=h2 ⟨c - 97,by have:=h.1; have:=h.2; omega⟩
 rwa [show 97+(c - 97)=c by have:=h.1; omega] at e
theorem yG {c:Nat}:c∈subsT.cps.toList ↔ cT c:=by
 have h1:∀ c∈subsT.cps.toList,cT c:=by decide +kernel
 have h2:∀ k:_root_.Fin 4,49+k.val∈subsT.cps.toList:=by decide +kernel
 refine ⟨h1 c,λh=>?_⟩;have e:=h2 ⟨c - 49,by have:=h.1; have:=h.2; omega⟩
 rwa [show 49+(c - 49)=c by have:=h.1; omega] at e
theorem uD {c:Nat}:c∈flagsT.cps.toList ↔ bM c\/cT c:=by
 rw [yE,Co,mem_letters,yG]
theorem oP {c:Nat} (h:bM c):¬ cT c:=λz=>by unfold bM at h; unfold cT at z; omega
theorem lX (c:Nat):subIn (one c) subsT=decide (cT c):=by
 rw [lF];exact Eu.mpr yG
theorem dF (z:Str):z.cps.toList.length=z.length:=by simp [Str.length]
theorem qP {z:Str} (h:z.length=1):∃ c,z=one c:=by
 obtain ⟨⟨l⟩⟩:=z
 match l,h with
 | [c],_=>exact ⟨c,rfl⟩
def iL (z:Str):Bool:=if z.length=1 then subIn z flagsT else false
theorem oZ {z:Str} (h:z.length≠1):iL z=false:=if_neg h
theorem qU {c:Nat}:iL (one c)=decide (bM c\/cT c):=by
 unfold iL;rw [if_pos (by rfl),lF]
 exact Eu.mpr uD
theorem aJ7 {z:Str} (h:iL z=true):∃ c,z=one c/\(bM c\/cT c):=by
 by_cases h1:z.length=1
 · obtain ⟨c,rfl⟩:=qP h1;rw [qU] at h;exact ⟨c,rfl,Az h⟩
 · rw [oZ h1] at h;cases h
def nU (c:Nat) (p:Int):Prop:=bM c\/(cT c/\(c:Int) - 48<p)
instance (c:Nat) (p:Int):Decidable (nU c p):=inferInstanceAs (Decidable (_\/_))
def dM (z:Str) (p:Int):Bool:=if z.length=1 then decide (nU (z.cps.toList.headD 0) p) else false
theorem mZ {c:Nat} {p:Int}:dM (one c) p=decide (nU c p):=rfl
theorem sC {z:Str} {p:Int} (h:dM z p=true):∃ c,z=one c/\nU c p:=by
 by_cases h1:z.length=1
 · obtain ⟨c,rfl⟩:=qP h1;exact ⟨c,rfl,Az h⟩
 · unfold dM at h;rw [if_neg h1] at h;cases h
def fD (zs:List Str):Bool:=if zs.length<1\/7<zs.length then false else (List.range zs.length).all λi=>dM (zs.getD i ⟨#[]⟩) ((1+i:Nat):Int)
theorem jE {zs:List Str} (h:fD zs=true):1<=zs.length/\zs.length<=7:=by
 unfold fD at h;split at h
 · cases h
 · omega
theorem bZF {zs:List Str} (h:fD zs=true) {i:Nat} (hi:i<zs.length):dM (zs.getD i ⟨#[]⟩) ((1+i:Nat):Int)=true:=by
 unfold fD at h;split at h
 · cases h
 · exact As.mp h i (Bg.mpr hi)
def stp (w:List Nat) (c:Nat):Nat:=if cT c then w.getD (c - 49) 0 else c
def rdC (fs:List Nat):List Nat:=fs.foldl (λw c=>w++[stp w c]) []
theorem bZ1 (fs:List Nat) (c:Nat):rdC (fs++[c])=rdC fs++[stp (rdC fs) c]:=by
 unfold rdC;rw [List.foldl_append];rfl
theorem wW {fs:List Nat} {i c:Nat} (h:fs[i]?=some c):rdC (fs.take (i+1))=rdC (fs.take i)++[stp (rdC (fs.take i)) c]:=by
 rw [Bt,h];exact bZ1 _ _
theorem cZR:∀ fs:List Nat,(rdC fs).length=fs.length:=by
 intro fs;have h:∀ i,i<=fs.length->(rdC (fs.take i)).length=i:=by
   intro i;induction i with
   | zero=>intro _; rfl
   | succ i ih=>
     intro hi;rw [wW (Aa (by omega)),Aj,ih (by omega)]
     rfl
 have q:=h fs.length (Ag _)
 rwa [Ed] at q
theorem uQ {fs:List Nat} {i:Nat} (h:i<=fs.length):(rdC (fs.take i)).length=i:=by
 rw [cZR,Ba]; omega
def cB (cs:List Nat):Str:=⟨cs.toArray⟩
theorem fG (cs:List Nat):(cB cs).length=cs.length:=by show cs.toArray.size=_; simp
theorem bZ (cs:List Nat):(cB cs).cps.toList=cs:=rfl
theorem oK (cs:List Nat) (c:Nat):cB cs++one c=cB (cs++[c]):=FlT.str_ext (by rw [FlT.app_cps]; rfl)
def lM (z:Str):Nat:=z.cps.toList.headD 0
theorem qN {zs:List Str} (h:fD zs=true) {i:Nat} {z:Str} (hz:zs[i]?=some z):∃ c,z=one c/\(zs.map lM)[i]?=some c/\(bM c\/(cT c/\c - 49<i)):=by
 have hi:i<zs.length:=(Ae.mp hz).1
 have q:=bZF h hi
 rw [Ak,hz] at q;obtain ⟨c,e,st⟩:=sC q;have e':z=one c:=e
 refine ⟨c,e',by rw [Af,hz,e']; rfl,?_⟩
 rcases st with l | ⟨s,l⟩
 · exact .inl l
 · refine .inr ⟨s,?_⟩;unfold cT at s;omega
def uF (zs:List Str):Str:=cB (rdC (zs.map lM))
def dXX (z:Str):Bool:=z.cps.toList.all λc=>decide (c∈lettersT.cps.toList)
def jR (z:Str):Bool:=if z.length<1\/7<z.length then false else dXX z
theorem jI {α β:Type} (f:α->β):∀ l:List α,l.filterMap (λx=>some (f x))=l.map f
 | []=>rfl
 | x::r=>by rw [Ce (f:=λx=>some (f x)) (b:=f x) rfl,Aw,jI f r]
theorem nJ {α β:Type} {f g:α->Option β}:∀ {l:List α},(∀ x∈l,f x=g x)->l.filterMap f=l.filterMap g
 | [],_=>rfl
 | x::r,h=>by rw [Dh,Dh,h x Ai,nJ λy hy=>h y (Ah _ hy)]
theorem one_inj {a b:Nat}:one a=one b ↔ a=b:=⟨λh=>by injection h with h; injection h with h; injection h,λh=>by rw [h]⟩
theorem qR {xs:List V} {k:Int} (h:0<=k):pJ xs none (some k)=xs.take k.toNat:=by
 unfold pJ;show (xs.drop 0).take ((if k<0 then (k+(xs.length:Int)).toNat else min k.toNat xs.length) - 0)=_
 rw [if_neg (by omega),List.drop_zero,Nat.sub_zero]
 by_cases hk:k.toNat<=xs.length
 · rw [Dj hk]
 · rw [Gu (by omega),Bf (Ag _),Bf (by omega)]
theorem dQV {cw:List Nat} {k:Int} (h:0<=k):Txt.slice (cB cw) none (some k)=cB (cw.take k.toNat):=by
 refine FlT.str_ext ?_;rw [FlT.slice_cps,bZ,bZ,fG];show (cw.drop 0).take ((if k<0 then (k+(cw.length:Int)).toNat else min k.toNat cw.length) - 0)=_
 rw [if_neg (by omega),List.drop_zero,Nat.sub_zero]
 by_cases hk:k.toNat<=cw.length
 · rw [Dj hk]
 · rw [Gu (by omega),Bf (Ag _),Bf (by omega)]
theorem bQF (cs:List Nat):Txt.join (Str.ofString "") (cs.map one)=cB cs:=by
 refine FlT.str_ext ?_;rw [show Str.ofString ""=⟨#[]⟩ from rfl,FlT.join_cps,bZ];induction cs with
 | nil=>rfl
 | cons c r ih=>rw [Aw,Aw,Cs,ih]; rfl
theorem bJ0 (cs:List Nat):((cs.map one).map (·.length)).sum=cs.length:=by
 induction cs with
 | nil=>rfl
 | cons m r ih=>rw [Aw,Aw,Gw,ih,Be]; show 1+r.length=_; omega
theorem cXX {ns:List Int} {i:Int} (h0:0<=i) (h:i<ns.length):∃ n,n∈ns/\atI (ns.map V.int) i=some (.int n):=by
 obtain ⟨v,h1,h2⟩:=dZ6 (xs:=ns.map V.int) (i:=i) h0 (by rw [Ab]; exact h)
 rw [Af,Aa (by omega)] at h2
 cases h2;exact ⟨_,Dd _,h1⟩
theorem fR {ns:List Str} {j:Nat} {x:V} (h:(ns.map V.str)[j]?=some x):∃ n,ns[j]?=some n/\x=V.str n:=by
 rw [Af] at h;cases e:ns[j]? with
 | none=>rw [e] at h; cases h
 | some n=>rw [e] at h; cases h; exact ⟨n,rfl,rfl⟩
theorem aX5 {c:Nat} (h:cT c):PySem.intText? (one c)=some ((c:Int) - 48):=by
 unfold cT at h;have:c=49\/c=50\/c=51\/c=52:=by omega
 rcases this with rfl | rfl | rfl | rfl <;> decide +kernel
theorem cR (zs:List Str):(zs.map V.str).all bO=true:=by
 rw [As];intro x hx;obtain ⟨z,_,rfl⟩:=Bw.mp hx;rfl
theorem yY {cw:List Nat} (hL:∀ d∈cw,bM d) {k:Nat} (hk:k<cw.length):bM (cw.getD k 0):=by
 rw [Ak,Aa hk];exact hL _ (Dd hk)
theorem bXJ {c:Nat} {cs:List Nat}:inV (.str (one c)) ((cs.map one).map V.str)=decide (c∈cs):=by
 induction cs with
 | nil=>rfl
 | cons d r ih=>
   rw [Aw,Aw];show ((one d == one c) || inV (.str (one c)) ((r.map one).map V.str))=_
   rw [ih,<-vZ];by_cases h:c=d
   · subst h;rw [Aq rfl,Bool.true_or,Aq Ai]
   · rw [Au (λz=>by injection z with z; exact h (one_inj.mp z).symm),Bool.false_or]
     exact Eu.mpr ⟨λz=>Ah _ z,λz=>(Bd.mp z).resolve_left h⟩
theorem cXW {c:Nat} (h:bM c):Builtin.Str.occurrences lettersT (one c) 0 lettersT.length 1=[c - 97]:=by
 have q:∀ k:_root_.Fin 23,Builtin.Str.occurrences lettersT (one (97+k.val)) 0 lettersT.length 1=[k.val]:=by decide +kernel
 unfold bM at h;have e:=q ⟨c - 97,by omega⟩
 rwa [show 97+(c - 97)=c by omega] at e
def pB (cs:List Nat) (n:Nat):Int:=((List.range n).map λi:Nat=>((1+i:Nat):Int) * ((cs.getD i 0 - 97:Nat):Int)).sum
theorem lE (cs:List Nat) (n:Nat):pB cs (n+1)=pB cs n+((1+n:Nat):Int) * ((cs.getD n 0 - 97:Nat):Int):=by
 unfold pB;rw [Cp,Bi,List.sum_append];simp
theorem qM {cs ds:List Nat}:∀ {n:Nat},(∀ i,i<n->cs.getD i 0=ds.getD i 0)->pB cs n=pB ds n
 | 0,_=>rfl
 | n+1,h=>by rw [lE,lE,qM λi hi=>h i (by omega),h n (by omega)]
theorem wZ {cs ds:List Nat} {k:Nat}:∀ {n:Nat},k<n->(∀ i,i<n->i≠k->cs.getD i 0=ds.getD i 0)->
   pB ds n=pB cs n+((1+k:Nat):Int) * (((ds.getD k 0 - 97:Nat):Int) - ((cs.getD k 0 - 97:Nat):Int))
 | 0,h,_=>absurd h (Fx _)
 | n+1,h,hh=>by
   rw [lE,lE];by_cases e:k=n
   · subst e;rw [qM (cs:=ds) (ds:=cs) λi hi=>(hh i (by omega) (by omega)).symm,Int.mul_sub]
     omega
   · rw [wZ (k:=k) (n:=n) (by omega) λi hi=>hh i (by omega),hh n (by omega) (λz=>e z.symm)]
     omega
theorem bQM {m x y:Int} {k:Nat} (hk:k<7) (hx:0<=x/\x<23) (hy:0<=y/\y<23) (h:m % 23=0):(m+((1+k:Nat):Int) * (y - x)) % 23=0 ↔ y=x:=by
 have hk':k=0\/k=1\/k=2\/k=3\/k=4\/k=5\/k=6:=by omega
 rcases hk' with rfl | rfl | rfl | rfl | rfl | rfl | rfl <;> simp only [Nat.reduceAdd] <;> omega
def iQ (cs:List Nat):Bool:=decide (pB cs cs.length % 23=0)
theorem rF {cs:List Nat} {k d i:Nat} (hk:k<cs.length):(cs.set k d).getD i 0=if i=k then d else cs.getD i 0:=by
 rw [Ak,List.getElem?_set,Ak];by_cases e:i=k
 · subst e; rw [if_pos rfl,if_pos rfl,if_pos hk]; rfl
 · rw [if_neg (λz=>e z.symm),if_neg e]
theorem aXR {cs:List Nat} (hL:∀ d∈cs,bM d) {k c:Nat} (hc:bM c):∀ d∈cs.set k c,bM d:=λd hd=>by
 rcases List.mem_or_eq_of_mem_set hd with h | h
 · exact hL d h
 · rw [h]; exact hc
theorem qT {cs:List Nat} {k d:Nat} (hk:k<cs.length):pB (cs.set k d) cs.length=pB cs cs.length+((1+k:Nat):Int) * (((d - 97:Nat):Int) - ((cs.getD k 0 - 97:Nat):Int)):=by
 have e:(cs.set k d).getD k 0=d:=by rw [rF hk,if_pos rfl]
 rw [wZ (cs:=cs) (ds:=cs.set k d) (k:=k) hk (λi hi hn=>by rw [rF hk,if_neg hn]),e]
theorem cXL {cs:List Nat} (h7:cs.length<=7) (hL:∀ d∈cs,bM d) {k d:Nat} (hk:k<cs.length) (hd:bM d) (h:iQ cs=true):iQ (cs.set k d)=decide (d=cs.getD k 0):=by
 unfold iQ at h ⊢;have hm:=Az h
 have hg:=yY hL hk
 unfold bM at hd hg;rw [Dx,qT hk];refine Eu.mpr ((bQM (by omega) ⟨by omega,by omega⟩ ⟨by omega,by omega⟩ hm).trans ?_)
 omega
theorem bXS {cs:List Nat} (h7:cs.length<=7) {k:Nat} (hk:k<cs.length):∃ d,bM d/\iQ (cs.set k d)=true:=by
 have q:∀ k:_root_.Fin 7,∀ m:_root_.Fin 23,∃ d:_root_.Fin 23,(m.val+(1+k.val) * d.val) % 23=0:=by decide +kernel
 have hs:=qT (cs:=cs) (k:=k) (d:=97) hk
 obtain ⟨d,hd⟩:=q ⟨k,by omega⟩ ⟨(pB (cs.set k 97) cs.length % 23).toNat,by omega⟩
 refine ⟨97+d.val,⟨by omega,by have:=d.isLt; omega⟩,?_⟩
 unfold iQ;rw [Dx];have e2:=qT (cs:=cs) (k:=k) (d:=97+d.val) hk
 simp only at hd;have hk':k=0\/k=1\/k=2\/k=3\/k=4\/k=5\/k=6:=by omega
 refine Aq ?_;rcases hk' with rfl | rfl | rfl | rfl | rfl | rfl | rfl <;> simp only [Nat.reduceAdd] at hs e2 hd <;> omega
theorem aQ6 {cw:List Nat} {k:Int} (h:0<=k):Txt.slice (cB cw) (some k) none=cB (cw.drop k.toNat):=by
 refine FlT.str_ext ?_;rw [FlT.slice_cps,bZ,bZ,fG];show (cw.drop (if k<0 then (k+(cw.length:Int)).toNat else min k.toNat cw.length)).take (cw.length - (if k<0 then (k+(cw.length:Int)).toNat else min k.toNat cw.length))=_
 rw [if_neg (by omega)]
 by_cases hk:k.toNat<=cw.length
 · rw [Dj hk,Bf (by rw [Ec]; omega)]
 · rw [Gu (by omega),Fa (by omega),Fa (by omega),List.take_nil]
theorem bJM {cs:List Nat} (hL:∀ d∈cs,bM d):(cB cs).cps.all (· < 128)=true:=by
 rw [Array.all_eq_true];intro i hi;have h1:(cB cs).cps[i]∈cs:=by
   have:(cB cs).cps[i]∈(cB cs).cps:=Array.getElem_mem hi
   rw [<-Array.mem_toList_iff] at this;exact this
 have:=hL _ h1
 unfold bM at this;exact Aq (by omega)
abbrev tmsT:Str := "abcdefghijklmnopqrstuvwxyz"
def BkAt (H:Hp) (r:Addr) (bk:List (Str×Str)):Prop:=∃ ps:List Addr,H r=some (.lst (ps.map V.ref))/\ps.length=bk.length/\∀ (j:Nat) p b,ps[j]?=some p->bk[j]?=some b->H p=some (.tup [.str b.1,.str b.2])
theorem BkAt.keep {H H':Hp} {r:Addr} {bk:List (Str×Str)} (h:BkAt H r bk) (s:Same H H'):BkAt H' r bk:=by
 obtain ⟨ps,h1,h2,h3⟩:=h;exact ⟨ps,s _ _ h1,h2,λj p b hp hb=>s _ _ (h3 j p b hp hb)⟩
theorem sP {xs:List V} {k:Int} (h:0<=k):pJ xs (some k) none=xs.drop k.toNat:=by
 unfold pJ;show (xs.drop (if k<0 then (k+(xs.length:Int)).toNat else min k.toNat xs.length)).take (xs.length - (if k<0 then (k+(xs.length:Int)).toNat else min k.toNat xs.length))=_
 rw [if_neg (by omega)]
 by_cases hk:k.toNat<=xs.length
 · rw [Dj hk,Bf (by rw [Ec]; omega)]
 · rw [Gu (by omega),Fa (by omega),Fa (by omega),List.take_nil]
theorem uA (sep:Array Nat):∀ (ys:List Str) (acc:Array Nat),(ys.foldl (λacc p=>acc++sep++p.cps) acc).toList=acc.toList++(ys.map λy=>sep.toList++y.cps.toList).flatten
 | [],acc=>by simp
 | y::r,acc=>by
   rw [List.foldl_cons,uA sep r];simp
theorem bX1 (sep y:Str) (r:List Str):(Txt.join sep (y::r)).cps.toList=y.cps.toList++(r.map λy=>sep.cps.toList++y.cps.toList).flatten:=by
 have e:=uA sep.cps r y.cps
 rw [<-e];rfl
def vS (K:PySem.W.Frag) (Pt:Addr):Sp:=λvs H Q _=>∃ (a:Addr) (ns:List Int),vs=[.ref a]/\SqL K H a (ns.map V.int)/\ns.length<=63/\H Pt=some (.tbl #[])/\∀ H',Q (.bl true) H'
def mF:Sp:=λvs H Q _=>∃ z,vs=[.str z]/\z.length<=1000/\Q (.bl (iL z)) H
def nL:Sp:=λvs H Q _=>∃ z p,vs=[.str z,.int p]/\z.length<=1000/\Q (.bl (dM z p)) H
def oX:Sp:=λvs H Q _=>∃ a zs,vs=[.ref a]/\rdL H a=some (zs.map V.str)/\zs.length<=1000/\(∀ z∈zs,z.length<=1000)/\∀ H',Same H H'->Q (.bl (fD zs)) H'
def qC (aN:Addr):Sp:=λvs H Q E=>∃ a zs,vs=[.ref a]/\rdL H a=some (zs.map V.str)/\zs.length<=1000/\(∀ z∈zs,z.length<=1000)/\(fD zs=true->∀ H',Same H H'->Q (.str (uF zs)) H')/\(fD zs=false->∀ H',Same H H'->E (.ref aN) none H')
theorem gX {H:Hp} {Q:VK} {p:Addr} {xs:List V} {i:Int} {v:V} (e:H p=some (.tup xs)) (e':atI xs i=some v) (h:Q v H):mIx (.ref p) (.int i) H Q:=by
 have e1:rdL H p=none:=by unfold rdL; rw [e]; rfl
 unfold mIx;simp only [e1,eM e,e'];exact h
section
variable {P:Program} {w:World} {K:PySem.W.Frag} {mg:Q3} {base:Heap}
structure Lk (kvs:List (Key×V)) (f:Nat->Option Int):Prop where
 nd:(kvs.map (·.1)).Nodup
 ks:∀ kv∈kvs,∃ (c:Nat) (n:Int),kv=(Sum.inr (one c),V.int n)
 val:∀ c,eC kvs (Sum.inr (one c))=(f c).map V.int
theorem Lk.nil:Lk [] (λ_=>none):=⟨List.nodup_nil,(λkv h=>nomatch h),λc=>rfl⟩
theorem key_one {a b:Nat}:((Sum.inr (one a):Key)=Sum.inr (one b)) ↔ a=b:=⟨λh=>one_inj.mp (Sum.inr.inj h),λh=>by rw [h]⟩
theorem aZB {α:Type}:∀ {l:List α} {k:α},l.Nodup->¬ k∈l->(l++[k]).Nodup
 | [],k,_,_=>by simp
 | a::r,k,h,hk=>by
   obtain ⟨h1,h2⟩:=Fw.mp h;refine Fw.mpr ⟨λm=>?_,aZB h2 λm=>hk (Ah _ m)⟩;rcases Co.mp m with q | q
   · exact h1 q
   · exact hk (by rw [Am.mp q]; exact Ai ..)
theorem cZH {kvs:List (Key×V)} {k:Key} (h:eC kvs k=none):¬ k∈kvs.map (·.1):=λm=>by
 obtain ⟨p,hp,e⟩:=Bw.mp m;have q:(kvs.any λkv=>decide (kv.1=k))=true:=List.any_eq_true.mpr ⟨p,hp,Aq e⟩
 rw [fV,h] at q;cases q
theorem bX7 (kvs:List (Key×V)) (k:Key) (v:V) (h:eC kvs k≠none):(gA kvs k v).map (·.1)=kvs.map (·.1):=by
 unfold gA;have e:(kvs.any λkv=>decide (kv.1=k))=true:=by
   rw [fV];cases q:eC kvs k with
   | none=>exact absurd q h
   | some _=>rfl
 rw [if_pos e,Cb];refine Fs λkv _=>?_;show (if kv.1=k then (kv.1,v) else kv).1=kv.1
 split <;> rfl
theorem Lk.put {kvs:List (Key×V)} {f:Nat->Option Int} (h:Lk kvs f) (c:Nat) (n:Int):Lk (gA kvs (Sum.inr (one c)) (.int n)) (λd=>if d=c then some n else f d) where
 nd:=by
   cases e:eC kvs (Sum.inr (one c)) with
   | none=>rw [qW _ e,Bi]; exact aZB h.nd (cZH e)
   | some v=>rw [bX7 _ _ _ (by rw [e]; exact λz=>nomatch z)]; exact h.nd
 ks:=λkv hkv=>by
   unfold gA at hkv;split at hkv
   · obtain ⟨kv',h',e⟩:=Bw.mp hkv;obtain ⟨c',n',e'⟩:=h.ks kv' h';subst e';dsimp only at e;split at e
     · exact ⟨c',n,e.symm⟩
     · exact ⟨c',n',e.symm⟩
   · rcases Co.mp hkv with q | q
     · exact h.ks kv q
     · exact ⟨c,n,Am.mp q⟩
 val:=λd=>by
   rw [bZE];by_cases e:d=c
   · rw [if_pos (key_one.mpr e),if_pos e]; rfl
   · rw [if_neg (λz=>e (key_one.mp z)),if_neg e]; exact h.val d
theorem bQ3 {kvs:List (Key×V)} (nd:(kvs.map (·.1)).Nodup) {kv:Key×V} (h:kv∈kvs):eC kvs kv.1=some kv.2:=by
 induction kvs with
 | nil=>cases h
 | cons p r ih=>
   obtain ⟨n1,n2⟩:=Fw.mp nd;rcases Bd.mp h with e | e
   · subst e; exact dO rfl
   · rw [dA λz=>n1 (by show p.1∈_; rw [z]; exact Bw.mpr ⟨kv,e,rfl⟩)]
     exact ih n2 e
theorem Lk.at_mem {kvs:List (Key×V)} {f:Nat->Option Int} (h:Lk kvs f) {kv:Key×V} (hkv:kv∈kvs):∃ c n,kv=(Sum.inr (one c),V.int n)/\f c=some n:=by
 obtain ⟨c,n,e⟩:=h.ks kv hkv;have v:=bQ3 h.nd hkv
 rw [e] at v;have v2:=h.val c
 rw [v2] at v;cases q:f c with
 | none=>rw [q] at v; cases v
 | some m=>rw [q] at v; cases v; exact ⟨c,_,e,q⟩
theorem Lk.keys {kvs kws:List (Key×V)} {f:Nat->Option Int} (h:Lk kvs f) (h':Lk kws f):∀ x∈kvs.map (·.1),x∈kws.map (·.1):=λx hx=>by
 obtain ⟨kv,hkv,rfl⟩:=Bw.mp hx;obtain ⟨c,n,rfl,hf⟩:=h.at_mem hkv;have v:=h'.val c
 rw [hf] at v;have q:(kws.any λkv=>decide (kv.1=Sum.inr (one c)))=true:=by rw [fV,v]; rfl
 obtain ⟨p,hp,e⟩:=List.any_eq_true.mp q;exact Bw.mpr ⟨p,hp,Az e⟩
def cntF (f:Nat->Option Int) (c:Nat):Int:=(f c).getD 0
def nY (c:Nat):Prop:=bM c\/cT c
instance (c:Nat):Decidable (nY c):=inferInstanceAs (Decidable (_\/_))
def cW (n:Nat->Int) (c:Nat):Option Int:=if nY c/\0<n c then some (n c) else none
theorem vK {m n:Nat->Int} (h:∀ c,nY c->m c=n c):cW m=cW n:=by
 funext c
 unfold cW;by_cases q:nY c
 · rw [h c q]
 · rw [if_neg λz=>q z.1,if_neg λz=>q z.1]
theorem aJI {n:Nat->Int} {c:Nat} (hc:nY c) (h:0<=n c):cntF (cW n) c=n c:=by
 unfold cntF cW;by_cases q:0<n c
 · rw [if_pos ⟨hc,q⟩]; rfl
 · rw [if_neg λz=>q z.2]; show (0:Int)=n c; omega
theorem Lk.ext {kvs:List (Key×V)} {f g:Nat->Option Int} (h:Lk kvs f) (e:f=g):Lk kvs g:=e ▸ h
theorem wD (f:Nat->Option Int) (c:Nat):((f c).map V.int).getD (.int 0)=.int (cntF f c):=by
 unfold cntF;cases f c <;> rfl
theorem flags_mem {c:Nat}:c∈flagsT.cps.toList ↔ nY c:=uD
def eQ1 (n:Nat->Int) (i c:Nat):Option Int:=if c∈flagsT.cps.toList.take i/\0<n c then some (n c) else none
theorem dZ9 (n:Nat->Int):eQ1 n 0=λ_=>none:=by
 funext c
 unfold eQ1;rw [List.take_zero];exact if_neg λz=>nomatch z.1
def kvL (g:Nat->Int) (L:List Nat):List (Key×V):=L.map λc=>(Sum.inr (one c),V.int (g c))
def aZ (n:Nat->Int) (i:Nat):List Nat:=(flagsT.cps.toList.take i).filter λc=>decide (0<n c)
theorem wQ {g:Nat->Int} {L:List Nat} {c:Nat} (h:c ∉ L):eC (kvL g L) (Sum.inr (one c))=none:=by
 induction L with
 | nil=>rfl
 | cons d r ih=>
   show eC ((Sum.inr (one d),V.int (g d))::kvL g r) _=none
   rw [dA (λz=>h (by rw [key_one.mp z]; exact Ai)),ih λz=>h (Ah _ z)]
theorem flags_nd:flagsT.cps.toList.Nodup:=by decide +kernel
theorem plainL_mem {n:Nat->Int} {i c:Nat}:c∈aZ n i ↔ c∈flagsT.cps.toList.take i/\0<n c:=by
 unfold aZ;rw [List.mem_filter,Da]
theorem zI {n:Nat->Int} {i c:Nat} (h:flagsT.cps.toList[i]?=some c):c ∉ aZ n i:=λz=>by
 have m:=(plainL_mem.mp z).1
 obtain ⟨j,hj,e⟩:=List.mem_iff_getElem.mp m;rw [Ba] at hj;rw [List.getElem_take] at e;obtain ⟨hi,e2⟩:=Ae.mp h;have:=(List.getElem_inj flags_nd).mp (e.trans e2.symm)
 omega
theorem zO {n:Nat->Int} {i c:Nat} (h:flagsT.cps.toList[i]?=some c) (p:0<n c):aZ n (i+1)=aZ n i++[c]:=by
 unfold aZ;rw [Bt,h,List.filter_append];show _++[c].filter _=_
 rw [show [c].filter (λc=>decide (0<n c))=[c] by simp [p]]
theorem zL {n:Nat->Int} {i c:Nat} (h:flagsT.cps.toList[i]?=some c) (p:¬ 0<n c):aZ n (i+1)=aZ n i:=by
 unfold aZ;rw [Bt,h,List.filter_append];show _++[c].filter _=_
 rw [show [c].filter (λc=>decide (0<n c))=[] by simp; omega,List.append_nil]
theorem jO (n:Nat->Int) (i:Nat):(aZ n i).length<=27:=by
 unfold aZ;exact Bv (List.length_filter_le ..) (by rw [Ba]; exact Bv (Nat.min_le_right ..) (by decide))
theorem aJJ (n:Nat->Int) (i:Nat):(aZ n i).Nodup:=(flags_nd.sublist (List.take_sublist ..)).filter _
def aJZ (g:Nat->Int) (L:List Nat) (d:Nat):Option Int:=if d∈L then some (g d) else none
theorem bJF (g:Nat->Int) {r:List Nat} {c:Nat} (hc:c ∉ r) (h:Lk (kvL g r) (aJZ g r)):Lk (kvL g (r++[c])) (aJZ g (r++[c])):=by
 have l:=h.put c (g c)
 rw [qW _ (wQ hc)] at l;have e:kvL g (r++[c])=kvL g r++[(Sum.inr (one c),V.int (g c))]:=by unfold kvL; rw [Bi]; rfl
 rw [e];refine l.ext ?_;funext d
 unfold aJZ;by_cases hd:d=c
 · subst hd;rw [if_pos rfl,if_pos (Ax _ (Am.mpr rfl))]
 · rw [if_neg hd];by_cases hr:d∈r
   · rw [if_pos hr,if_pos (Du _ hr)]
   · rw [if_neg hr,if_neg (λz=>(Co.mp z).elim hr λy=>hd (Am.mp y))]
theorem aZP (g:Nat->Int):∀ (L r:List Nat),(r++L).Nodup->Lk (kvL g r) (aJZ g r)->Lk (kvL g (r++L)) (aJZ g (r++L))
 | [],r,_,h=>by rw [Br]; exact h
 | c::L,r,nd,h=>by
   have e:r++c::L=(r++[c])++L:=by rw [Cc]; rfl
   have hc:c ∉ r:=λz=>(List.nodup_append.mp nd).2.2 c z c Ai rfl
   rw [e] at nd ⊢;exact aZP g L (r++[c]) nd (bJF g hc h)
theorem dXD (g:Nat->Int) {L:List Nat} (nd:L.Nodup):Lk (kvL g L) (λd=>if d∈L then some (g d) else none):=by
 have r:=aZP g L [] nd (Lk.nil.ext (by funext d; unfold aJZ; rw [if_neg (λz=>nomatch z)]))
 exact r
theorem iU (n:Nat->Int):Lk (kvL n (aZ n 27)) (cW n):=by
 refine (dXD n (aJJ n 27)).ext ?_;funext d
 unfold cW;have e:d∈aZ n 27 ↔ nY d/\0<n d:=by
   rw [plainL_mem,Bf (by decide),flags_mem]
 by_cases h:d∈aZ n 27
 · rw [if_pos h,if_pos (e.mp h)]
 · rw [if_neg h,if_neg (λz=>h (e.mpr z))]
def dN:Sp:=λvs H Q _=>∃ (a:Addr) (kvs:List (Key×V)) (f:Nat->Option Int),vs=[.ref a]/\Rd H a (.dK kvs)/\Lk kvs f/\
 ∀ (r:Addr) (H':Hp),H r=none->Same H H'->H' r=some (.dK (kvL (cntF f) (aZ (cntF f) 27)))->Q (.ref r) H'
theorem sc_plain_locker:FnScope ["locker", "plain", "flag"] ["locker"] (aE cZ):=by walk_at "sc"
theorem pD {aTower Zz Zw aDesk Zx Zu Zv Zy Zt Zs:Addr} {f:Addr} {fd:FuncData} (F:Fun K "plain_locker" "plain_locker" cZ f fd) (G:Gs K mg w aTower Zz Zw aDesk Zx Zu Zv Zy Zt Zs)  : FnOk P w K mg base CX0 1 f fd ["locker"] dN:=by
 refine F.ok sc_plain_locker (λvs H Q E h=>?_) (λcdv A outer s H vs Q E hr h=>?_)
 · obtain ⟨a,kvs,f,rfl,_⟩:=h; rfl
 obtain ⟨a,kvs,f,rfl,ha,lk,q⟩:=h;refine ⟨_,(@aH _ _ _ _ _ (@bI _ _ 1 _ _ _ _ sc_plain_locker.nd (by rfl) (by exact (Or.inl rfl)) wL (by rfl) (by walk_at "o")) (@aH _ _ _ _ _ (mD Fe rfl (nW (dJ rfl G.s_FLAGS)) (bL (i:=2) sc_plain_locker.nd rfl (Or.inl rfl)) (@aI _ _ _ (bR (bB xD (qA Cv PySem.F.type_dict_get (bXR (Room.u1 hr)) (mv 0) (aA (mv 2) (aA aJ aD))) aJ (aR _)) (@aI _ _ _ (aX0 (Room.u1 hr) (mv 1) (mv 2) (aZF (Room.u1 hr) (mv 0) (mv 2) (λ_ _=>rfl)) rfl)) aU))) (@aI _ _ _ (aO (mv 1))))),?_⟩
 walk_at "go";intro p hp;walk_at "go";refine bQQ (λi σ H'=>∃ (v:Option V),σ=[some (.ref a),some (.ref p),v]/\Same H H'/\H' p=some (.dK (kvL (cntF f) (aZ (cntF f) i))))
   ⟨none,rfl,aF hp _,aG⟩ ?_ ?_
 · rintro i c σ H2 hc ⟨v,rfl,s2,hH⟩;have hi:i<27:=(Ae.mp hc).1
   have ha2:Rd H2 a (.dK kvs):=ha.elim (λe=>.inl (s2 _ _ e)) λ⟨o,e⟩=>.inr ⟨o,s2 _ _ e⟩
   have hd2:isD H2 a=true:=ha2.elim uV λ⟨o,e⟩=>bJU e
   have hpl:(kvL (cntF f) (aZ (cntF f) i)).length<sizeLine:=bT (by unfold kvL; rw [Ab]; have:=jO (cntF f) i; omega)
   walk_at "go";refine bJK (z:=one c) ha2 ?_;rw [lk.val c,wD];walk_at "go";refine jZ (λhd=>?_) (λhd=>?_)
   · have hd':=Az hd
     obtain ⟨n,hn⟩:∃ n,f c=some n:=by
       cases e:f c with
       | none=>rw [show cntF f c=0 by unfold cntF; rw [e]; rfl] at hd'; omega
       | some n=>exact ⟨n,rfl⟩
     have hcn:cntF f c=n:=by unfold cntF; rw [hn]; rfl
     walk_at "go";refine bZU (z:=one c) ha2 (by rw [lk.val c,hn]; rfl) ?_
     walk_at "go";refine aXW (z:=one c) hH hpl ?_;refine ⟨_,rfl,eJ hp s2,?_⟩;rw [aG,qW _ (wQ (zI hc)),zO hc (by omega)]
     unfold kvL;rw [Bi,<-hcn];rfl
   · have hd':=Bp (Bq.mpr hd)
     walk_at "go";exact ⟨_,rfl,s2,by rw [hH,zL hc (by omega)]⟩
 · rintro σ H2 ⟨v,rfl,s2,hH⟩;walk_at "go";exact q p H2 hp s2 hH
def cnt (cs:List Nat) (c:Nat):Int:=((cs.countP (· == c):Nat):Int)
theorem bJQ {cs:List Nat} {i c:Nat} (h:cs[i]?=some c) (d:Nat):cnt (cs.take (i+1)) d=cnt (cs.take i) d+if d=c then 1 else 0:=by
 unfold cnt;rw [Bt,h,List.countP_append];show (((cs.take i).countP (· == d)+[c].countP (· == d):Nat):Int)=_
 by_cases e:d=c
 · subst e;rw [if_pos rfl,List.countP_cons,List.countP_nil,if_pos (by simp)]
   push_cast
   rfl
 · rw [if_neg e,List.countP_cons,List.countP_nil,if_neg (by simp; exact λz=>e z.symm)]
   push_cast
   rfl
def tV:Sp:=λvs H Q _=>∃ (a b:Addr) (kvs:List (Key×V)) (f:Nat->Option Int) (cs:List Nat),vs=[.ref a,.ref b]/\H a=some (.dK kvs)/\Lk kvs f/\(∀ c,0<=cntF f c)/\rdL H b=some ((cs.map one).map V.str)/\cs.length<=1000/\
 ∀ (r:Addr) (kws:List (Key×V)) (H':Hp),H r=none->Same H H'->H' r=some (.dK kws)->Lk kws (cW λc=>cntF f c+cnt cs c)->Q (.ref r) H'
theorem sc_put_in:FnScope ["locker", "flags", "more", "flag"] ["locker", "flags"] (aE iW):=by walk_at "sc"
theorem aJ6 {aTower Zz Zw aDesk Zx Zu Zv Zy Zt Zs:Addr} {f:Addr} {fd:FuncData} (F:Fun K "put_in" "put_in" iW f fd) (G:Gs K mg w aTower Zz Zw aDesk Zx Zu Zv Zy Zt Zs) (c_plain_locker:Cal P w K mg base 1 "plain_locker" ["locker"] dN):FnOk P w K mg base CX0 2 f fd ["locker", "flags"] tV:=by
 refine F.ok sc_put_in (λvs H Q E h=>?_) (λcdv A outer s H vs Q E hr h=>?_)
 · obtain ⟨a,b,kvs,f,cs,rfl,_⟩:=h; rfl
 obtain ⟨a,b,kvs,f,cs,rfl,ha,lk,hf0,hb,hcs,q⟩:=h;refine ⟨_,(@aH _ _ _ _ _ (@bI _ _ 2 _ _ _ _ sc_put_in.nd (by rfl) (by exact (Or.inl rfl)) (bA c_plain_locker hr (by decide) rfl (aA (mv 0) aD)) (by rfl) (by walk_at "o")) (@aH _ _ _ _ _ (mD Fe rfl (cQ (mv 1)) (bL (i:=3) sc_put_in.nd rfl (Or.inl rfl)) (@aI _ _ _ (aX0 (Room.u1 hr) (mv 2) (mv 3) (bF dW (qA Cv PySem.F.type_dict_get (bXR (Room.u1 hr)) (mv 2) (aA (mv 3) (aA aJ aD))) aJ) rfl))) (@aI _ _ _ (aO (bA c_plain_locker hr (by decide) rfl (aA (mv 2) aD)))))),?_⟩
 walk_at "go";refine ⟨a,kvs,f,rfl,.inl ha,lk,λp H1 hp s1 hp1=>?_⟩;have lw:Lk (kvL (cntF f) (aZ (cntF f) 27)) _:=iU (cntF f)
 have hwl:(kvL (cntF f) (aZ (cntF f) 27)).length<=27:=by unfold kvL; rw [Ab]; exact jO _ _
 generalize kvL (cntF f) (aZ (cntF f) 27)=kws at hp1 lw hwl;have hb1:=aV s1 hb
 walk_at "go";refine wA (xs:=(cs.map one).map V.str) (λi σ H'=>∃ (kvs':List (Key×V)) (g:Nat->Option Int) (v:Option V),σ=[some (.ref a),some (.ref b),some (.ref p),v]/\Same H H'/\H' p=some (.dK kvs')/\Lk kvs' g/\(∀ c,cntF g c=cntF (cW (cntF f)) c+cnt (cs.take i) c)/\kvs'.length<=27+i)
   ⟨kws,_,_,rfl,s1,hp1,lw,λc=>by rw [List.take_zero]; show _=_+((0:Nat):Int); omega,by omega⟩ (λi σ H' _ ⟨_,_,_,_,e,_⟩=>aV e hb) ?_ ?_
 · rintro i x σ H2 hx ⟨kvs',g,v,rfl,s2,hH,lg,hg,hl⟩;have hi:i<cs.length:=by have:=(Ae.mp hx).1; rw [Ab,Ab] at this; exact this
   obtain ⟨c,hc⟩:∃ c,cs[i]?=some c:=⟨_,Aa hi⟩;obtain rfl:x=V.str (one c):=by rw [Af,Af,hc] at hx; cases hx; rfl
   have hpl:kvs'.length<sizeLine:=bT (by omega)
   walk_at "go";refine bJK (z:=one c) (.inl hH) ?_;rw [lg.val c,wD];walk_at "go";refine aXW (z:=one c) hH hpl ?_;refine ⟨_,_,_,rfl,eJ hp s2,aG,lg.put c (cntF g c+1),λd=>?_,by have:=hW kvs' (Sum.inr (one c)) (.int (cntF g c+1)); omega⟩
   rw [bJQ hc];have:=hg d
   by_cases e:d=c
   · subst e;show ((if d=d then some (cntF g d+1) else g d):Option Int).getD 0=_
     rw [if_pos rfl,if_pos rfl];show cntF g d+1=_
     omega
   · show ((if d=c then some (cntF g c+1) else g d):Option Int).getD 0=_
     rw [if_neg e,if_neg e];show cntF g d=_
     omega
 · rintro σ H2 ⟨kvs',g,v,rfl,s2,hH,lg,hg,hl⟩;walk_at "go";refine ⟨p,kvs',g,rfl,.inl hH,lg,λr H3 hr s3 hr3=>?_⟩;refine q r _ H3 (none_of s2 hr) (s2.trans s3) hr3 ((iU (cntF g)).ext (vK λc hc=>?_));rw [hg c,aJI hc (hf0 c),Bf (by rw [Ab,Ab]; exact Ag _)]
theorem zU:FnScope ["text"] ["text"] (aE gO):=by walk_at "sc"
theorem aQI {aTower Zz Zw aDesk Zx Zu Zv Zy Zt Zs:Addr} {f:Addr} {fd:FuncData} (F:Fun K "is_flag" "is_flag" gO f fd) (G:Gs K mg w aTower Zz Zw aDesk Zx Zu Zv Zy Zt Zs)  : FnOk P w K mg base CX0 1 f fd ["text"] mF:=by
 refine F.ok zU (λvs H Q E h=>?_) (λcdv A outer s H vs Q E hr h=>?_)
 · obtain ⟨z,rfl,_⟩:=h; rfl
 obtain ⟨z,rfl,hl,q⟩:=h;refine ⟨_,(@aI _ _ _ (aO (wG (cG gG (bD fI rfl G.b_len dC (aA (mv 0) aD)) aJ (aR _)) (vC (cG tM (mv 0) (dJ rfl G.s_FLAGS) (by rfl)))))),?_⟩
 walk_at "go";refine jZ (λhc=>?_) (λhc=>?_)
 · have e:iL z=subIn z flagsT:=if_pos (by have:=Az hc; omega)
   rw [e] at q;walk_at "go";exact q
 · have e:iL z=false:=oZ (by have:=Bp (Bq.mpr hc); omega)
   rw [e] at q;exact q
theorem vU:FnScope ["text", "place"] ["text", "place"] (aE eU):=by walk_at "sc"
theorem uT {aTower Zz Zw aDesk Zx Zu Zv Zy Zt Zs:Addr} {f:Addr} {fd:FuncData} (F:Fun K "may_stand" "may_stand" eU f fd) (G:Gs K mg w aTower Zz Zw aDesk Zx Zu Zv Zy Zt Zs) (c_is_flag:Cal P w K mg base 1 "is_flag" ["text"] mF):FnOk P w K mg base CX0 2 f fd ["text", "place"] nL:=by
 refine F.ok vU (λvs H Q E h=>?_) (λcdv A outer s H vs Q E hr h=>?_)
 · obtain ⟨z,p,rfl,_⟩:=h; rfl
 obtain ⟨z,p,rfl,hl,q⟩:=h;refine ⟨_,(@aH _ _ _ _ _ (bR (kR (dZ (bA c_is_flag hr (by decide) rfl (aA (mv 0) aD)))) (@aI _ _ _ (aO jW)) aU) (@aH _ _ _ _ _ (bR (bB tM (mv 0) (dJ rfl G.s_SUBSTITUTES) (by rfl)) (@aI _ _ _ (aO (cG aZZ (cA bJZ rfl G.b_int pV (aA (mv 0) aD)) (mv 1) (aR _)))) aU) (@aI _ _ _ (aO jW)))),?_⟩
 walk_at "go";refine ⟨z,rfl,hl,?_⟩;walk_at "go";refine jZ (λhc=>?_) (λhc=>?_)
 · have hf:iL z=false:=by simpa using hc
   have e:dM z p=false:=by
     by_cases h1:z.length=1
     · obtain ⟨c,rfl⟩:=qP h1;rw [qU] at hf;have hf:=Bp hf
       rw [mZ];exact Au λst=>hf (st.elim .inl λz=>.inr z.1)
     · exact if_neg h1
   rw [e] at q;walk_at "go";exact q
 · have hf:iL z=true:=by simpa using hc
   obtain ⟨c,rfl,hcc⟩:=aJ7 hf;walk_at "go";rw [if_neg Al,show subIn (one c) (Str.ofString "1234")=decide (cT c) from lX c];rw [mZ] at q;refine jZ (λhd=>?_) (λhd=>?_)
   · have hs:=Az hd
     walk_at "go";refine aQ5 (aX5 hs) (by show 1<=640; decide) ?_
     walk_at "go";rw [show decide (nU c p)=decide ((c:Int) - 48<p) from Eu.mpr ⟨λst=>st.elim (λl=>absurd hs (oP l)) (·.2),λl=>.inr ⟨hs,l⟩⟩] at q;exact q
   · have hs:=Bp (Bq.mpr hd)
     walk_at "go";rw [Aq (show nU c p from .inl (hcc.resolve_right hs))] at q;exact q
theorem yK:FnScope ["flags"] ["flags"] (aE fQ):=by walk_at "sc"
theorem yI {aTower Zz Zw aDesk Zx Zu Zv Zy Zt Zs:Addr} {f:Addr} {fd:FuncData} (F:Fun K "is_hoist" "is_hoist" fQ f fd) (G:Gs K mg w aTower Zz Zw aDesk Zx Zu Zv Zy Zt Zs) (c_may_stand:Cal P w K mg base 2 "may_stand" ["text", "place"] nL):FnOk P w K mg base CX0 3 f fd ["flags"] oX:=by
 refine F.ok yK (λvs H Q E h=>?_) (λcdv A outer s H vs Q E hr h=>?_)
 · obtain ⟨a,zs,rfl,_⟩:=h; rfl
 obtain ⟨a,zs,rfl,ha,hl,hz,q⟩:=h;refine ⟨_,(@aH _ _ _ _ _ (bR (PW.pt (mM (bB aZZ (bD fI rfl G.b_len dC (aA (mv 0) aD)) aJ (aR _)) (kL (bB xD (bD fI rfl G.b_len dC (aA (mv 0) aD)) (gD rfl G.s_MOST_PLACES) (aR _))))) (@aI _ _ _ (aO jW)) aU) (@aI _ _ _ (aO (bD (tE rfl) rfl G.b_all oM (aA (cM rfl (bQS rfl G.b_enumerate (aA (mv 0) aD) (uR aJ aQW)) (fL (N:=["place", "text"]) (by decide +kernel) (by decide +kernel)) (by decide +kernel) rfl (by decide +kernel) (λC s₀ H₀ ex=>(nI (K:=K) (i:=0) (j:=1) (by rfl) (by rfl) (show List.Nodup (["place", "text"]:List Str) by decide +kernel) (by rfl) (by exact Or.inl rfl) (by exact Or.inr rfl) (by rfl) (by exact Or.inl rfl) (by exact Or.inr rfl))) (λC s₀ H₀ ex=>cN) (λC s₀ H₀ ex=>(bA c_may_stand hr (by decide) rfl (aA (mv 1) (aA (mv 0) aD))))) aD))))),?_⟩
 have hll:(zs.map V.str).length=zs.length:=Ab ..
 walk_at "go";rw [hll];refine jZ (λhc=>?_) (λhc=>?_)
 · walk_at "go";have e:fD zs=false:=if_pos (.inl (by have:=Az hc; omega))
   have r:=q H (Same.refl H)
   rw [e] at r;exact r
 · have hc':=Bp (Bq.mpr hc)
   walk_at "go";rw [hll];refine jZ (λhd=>?_) (λhd=>?_)
   · walk_at "go";have e:fD zs=false:=if_pos (.inr (by have:=Az hd; omega))
     have r:=q H (Same.refl H)
     rw [e] at r;exact r
   · have hd':=Bp (Bq.mpr hd)
     walk_at "go";refine ⟨⟨by omega,by omega⟩,?_⟩
     walk_at "go";refine aX3 (λi x=>match x with | .str z=>some (.bl (dM z ((1+i:Nat):Int))) | _=>none) ha (by rw [hll]; exact bT (by omega)) (λi x Hc p A B hx sm hp hA=>?_) (λD Hd hD sd hr=>?_)
     · obtain ⟨z,hzi,rfl⟩:=fR hx;walk_at "go";refine ⟨Wk.set rfl (Wk.set rfl (Wk.refl _)),?_⟩;walk_at "go";refine ⟨z,_,rfl,hz z (Ap hzi),?_⟩;exact hA _ (Same.refl _)
     · have e1:((List.range (zs.map V.str).length).filterMap λi=>(λi x=>match x with | .str z=>some (V.bl (dM z ((1+i:Nat):Int))) | _=>none:Nat->V->Option V) i ((zs.map V.str).getD i .non))=((List.range zs.length).map λi=>dM (zs.getD i ⟨#[]⟩) ((1+i:Nat):Int)).map V.bl:=by
         rw [hll,Cb];refine (nJ (g:=λi=>some (V.bl (dM (zs.getD i ⟨#[]⟩) ((1+i:Nat):Int)))) λi hi=>?_).trans (jI _ _);have hi':=Bg.mp hi
         rw [Ak,Af,Aa hi',Ak,Aa hi'];rfl
       rw [e1] at hr;walk_at "go";refine uM hr ?_;have e2:fD zs=((List.range zs.length).map λi=>dM (zs.getD i ⟨#[]⟩) ((1+i:Nat):Int)).all id:=by
         unfold fD;rw [if_neg (by omega),Fo]
         rfl
       have r:=q _ sd
       rw [e2] at r;exact r
theorem sc_read_of:FnScope ["flags", "word", "flag"] ["flags"] (aE gJ):=by walk_at "sc"
theorem aQN {aTower Zz Zw aDesk Zx Zu Zv Zy Zt Zs:Addr} {f:Addr} {fd:FuncData} (F:Fun K "read_of" "read_of" gJ f fd) (G:Gs K mg w aTower Zz Zw aDesk Zx Zu Zv Zy Zt Zs) (c_is_hoist:Cal P w K mg base 3 "is_hoist" ["flags"] oX):FnOk P w K mg base (CXr P w) 4 f fd ["flags"] (qC Zx):=by
 refine F.okX sc_read_of (λvs H Q E h=>?_) (λcdv A outer s H vs Q E hr h=>?_)
 · obtain ⟨a,zs,rfl,_⟩:=h; rfl
 obtain ⟨a,zs,rfl,ha,hl,hz,q,qe⟩:=h;refine ⟨_,(@aH _ _ _ _ _ (bR (kR (dZ (bA c_is_hoist hr (by decide) rfl (aA (mv 0) aD)))) (@aI _ _ _ (jB iB rfl rfl rfl G.c_NoHoist G.x_NoHoist By (@aW _ _ _ _ _ _ aD))) aU) (@aH _ _ _ _ _ (@bI _ _ 1 _ _ _ _ sc_read_of.nd (by rfl) (by exact (Or.inl rfl)) bP (by rfl) (by walk_at "o")) (@aH _ _ _ _ _ (PS.nox (mD Fe rfl (cQ (mv 0)) (bL (i:=2) sc_read_of.nd rfl (Or.inl rfl)) (@aI _ _ _ (bR (bB tM (mv 2) (dJ rfl G.s_SUBSTITUTES) (by rfl)) (@aI _ _ _ (@bI _ _ 1 _ _ _ _ sc_read_of.nd (by rfl) (by exact (Or.inl rfl)) (bF dW (mv 1) (bE bW (mv 1) (bF cJ1 (cA bJZ rfl G.b_int pV (aA (mv 2) aD)) aJ) (λ_ _=>rfl))) (by rfl) (by walk_at "o"))) (@aI _ _ _ (@bI _ _ 1 _ _ _ _ sc_read_of.nd (by rfl) (by exact (Or.inl rfl)) (bF dW (mv 1) (mv 2)) (by rfl) (by walk_at "o"))))))) (@aI _ _ _ (aO (mv 1)))))),?_⟩
 walk_at "go";refine ⟨a,zs,rfl,ha,hl,hz,λH1 s1=>?_⟩;have ha1:=aV s1 ha
 walk_at "go";cases hh:fD zs with
 | false=>
   walk_at "go";exact ⟨by show 1<=sizeLine; decide,qe hh H1 s1⟩
 | true=>
   walk_at "go";have h7:=jE hh
   refine wA (xs:=zs.map V.str) (λi σ H'=>∃ v,σ=[some (.ref a),some (.str (cB (rdC ((zs.map lM).take i)))),v]/\H'=H1)
     ⟨none,rfl,rfl⟩ (λi σ H' _ ⟨_,_,e⟩=>by rw [e]; exact ha1) ?_ ?_
   · rintro i x σ H' hx ⟨v,rfl,rfl⟩;obtain ⟨z,hzi,rfl⟩:=fR hx;obtain ⟨c,rfl,hci,hcc⟩:=qN hh hzi;have hi:i<(zs.map lM).length:=(Ae.mp hci).1
     have hll:(zs.map lM).length=zs.length:=Ab ..
     have hrl:(rdC ((zs.map lM).take i)).length=i:=uQ (by omega)
     have hst:=wW hci
     generalize rdC ((zs.map lM).take i)=wd at hrl hst ⊢;have hwl:(cB wd).length=i:=(fG wd).trans hrl
     walk_at "go";rw [if_neg Al,show subIn (one c) (Str.ofString "1234")=decide (cT c) from lX c];refine jZ (λhd=>?_) (λhd=>?_)
     · have hs:=Az hd
       have hlt:c - 49<i:=(hcc.resolve_left λl=>oP l hs).2
       have h49:49<=c:=hs.1
       walk_at "go";refine aQ5 (aX5 hs) (by show 1<=640; decide) ?_
       walk_at "go";have e1:atI (cB wd).cps.toList ((c:Int) - 48 - 1)=some (wd.getD (c - 49) 0):=by
         rw [show ((c:Int) - 48 - 1)=((c - 49:Nat):Int) by omega]
         refine aS ?_;rw [bZ,Ak,Aa (by omega)]
         rfl
       have h2:(⟨#[wd.getD (c - 49) 0]⟩:Str).length=1:=rfl
       refine cJM (by rw [hwl]; exact bQ (by omega)) e1 ?_
       walk_at "go";refine ⟨some (.str (one c)),?_,rfl⟩;rw [hst,show stp wd c=wd.getD (c - 49) 0 from if_pos hs,<-oK];rfl
     · have hs:=Bp (Bq.mpr hd)
       have h2:(one c).length=1:=rfl
       walk_at "go";refine ⟨some (.str (one c)),?_,rfl⟩;rw [hst,show stp wd c=c from if_neg hs,<-oK];rfl
   · rintro σ H' ⟨v,rfl,rfl⟩;walk_at "go";have e:(zs.map lM).take (zs.map V.str).length=zs.map lM:=Bf (by rw [Ab,Ab]; exact Ag _)
     rw [e];exact q hh _ s1
theorem cQC {sep:Str} {n:Nat}:∀ {L:List Str},(∀ z∈L,z.length<=n)->(Txt.join sep L).length<=(n+sep.length) * L.length
 | [],_=>Dv _
 | y::r,h=>by
   have hl:∀ r:List Str,(∀ z∈r,z.length<=n)->(r.map λy=>sep.cps.toList++y.cps.toList).flatten.length<=(n+sep.length) * r.length:=λr h=>by
     induction r with
     | nil=>exact Ag _
     | cons u v ih=>
       rw [Aw,Cs,Aj,Aj,Be,dF,dF];have h1:=h u Ai
       have h2:=ih λx hx=>h x (Ah _ hx)
       rw [Nat.mul_succ];omega
   rw [<-dF,bX1,Aj,dF,Be,Nat.mul_succ];have h1:=h y Ai
   have h2:=hl r λx hx=>h x (Ah _ hx)
   omega
theorem dX {α:Type} (F:α->V):∀ xs:List α,(List.range xs.length).filterMap (λj=>(xs[j]?).map F)=xs.map F:=λxs=>by
 have h:∀ n,n<=xs.length->(List.range n).filterMap (λj=>(xs[j]?).map F)=(xs.take n).map F:=λn=>by
   induction n with
   | zero=>intro _; rfl
   | succ n ih=>
     intro hn;have e:xs[n]?=some xs[n]:=Aa (by omega)
     rw [iK (y:=F xs[n]) (by rw [e]; rfl),ih (by omega),Bt,e,Bi]
     rfl
 have r:=h xs.length (Ag _)
 rw [Ed] at r;exact r
def sN:Option (List Nat)->Str
 | none=>⟨#[45]⟩
 | some cs=>cB cs
def HalV (H:Hp) (v:V):Option (List Nat)->Prop
 | none=>v=.non
 | some cs=>∃ p,v=.ref p/\H p=some (.lst ((cs.map one).map V.str))
def oV (hs:List (Option (List Nat))):Prop:=∀ cs,some cs∈hs->fD (cs.map one)=true
structure HalsAt (H:Hp) (vs:List V) (hs:List (Option (List Nat))):Prop where
 len:vs.length=hs.length
 val:∀ (j:Nat) v h,vs[j]?=some v->hs[j]?=some h->HalV H v h
theorem HalV.keep {H H':Hp} {v:V} {h:Option (List Nat)} (a:HalV H v h) (s:∀ p xs,H p=some (.lst xs)->v=.ref p->H' p=some (.lst xs)):HalV H' v h:=by
 cases h with
 | none=>exact a
 | some cs=>
   obtain ⟨p,e,hp⟩:=a;exact ⟨p,e,s p _ hp e⟩
theorem HalsAt.keep {H H':Hp} {vs:List V} {hs:List (Option (List Nat))} (a:HalsAt H vs hs) (s:Same H H'):HalsAt H' vs hs:=⟨a.len,λj v h hv hh=>(a.val j v h hv hh).keep λp xs hp _=>s _ _ hp⟩
theorem HalsAt.nil {H:Hp}:HalsAt H [] []:=⟨rfl,λj v h hv=>nomatch hv⟩
theorem HalsAt.snoc {H:Hp} {vs:List V} {hs:List (Option (List Nat))} {v:V} {h:Option (List Nat)} (a:HalsAt H vs hs) (b:HalV H v h):HalsAt H (vs++[v]) (hs++[h]):=by
 refine ⟨by rw [Aj,Aj,a.len]; rfl,λj x g hx hg=>?_⟩
 by_cases hj:j<vs.length
 · rw [Bh hj] at hx;rw [Bh (by rw [<-a.len]; exact hj)] at hg
   exact a.val j x g hx hg
 · have e:j=vs.length:=by
     have:=(Ae.mp hx).1
     rw [Aj] at this;have:j<vs.length+1:=this
     omega
   subst e;rw [Bl (Ag _),Gm] at hx;rw [a.len,Bl (Ag _),Gm] at hg;cases hx;cases hg;exact b
theorem HalV.ne {H:Hp} {r:Addr} {vs:List V} {h:Option (List Nat)} {j:Nat} {v:V} (hr:H r=some (.lst vs)) (hj:vs[j]?=some v) (a:HalV H v h):v≠.ref r:=λz=>by
 cases h with
 | none=>rw [show v=.non from a] at z; cases z
 | some cs=>
   obtain ⟨p,e,hp⟩:=a;rw [z] at e;cases e;rw [hr] at hp;cases hp;obtain ⟨u,_,hu⟩:=fR hj;rw [z] at hu;cases hu
theorem HalsAt.put {H:Hp} {r:Addr} {vs us:List V} {hs:List (Option (List Nat))} (hr:H r=some (.lst vs)) (a:HalsAt H vs hs):HalsAt (upd H r (.lst us)) vs hs:=⟨a.len,λj v h hv hh=>(a.val j v h hv hh).keep λp xs hp e=>by
 rw [aK (λz=>(a.val j v h hv hh).ne hr hv (by rw [<-z]; exact e))]
 exact hp⟩
theorem HalsAt.at {H:Hp} {vs:List V} {hs:List (Option (List Nat))} (a:HalsAt H vs hs) {j:Nat} {v:V} (hv:vs[j]?=some v):∃ h,hs[j]?=some h/\HalV H v h:=by
 have hj:j<hs.length:=by rw [<-a.len]; exact (Ae.mp hv).1
 exact ⟨hs[j],Aa hj,a.val j v _ hv (Aa hj)⟩
theorem cZ3 {hs:List (Option (List Nat))} (ok:oV hs):∀ z ∈ hs.map sN,z.length<=7/\32 ∉ z.cps.toList:=λz hz=>by
 obtain ⟨h,hh,rfl⟩:=Bw.mp hz;cases h with
 | none=>exact ⟨by show 1<=7; decide,by show 32 ∉ [45]; decide⟩
 | some cs=>
   have hb:=ok cs hh
   have h7:=jE hb
   rw [Ab] at h7;refine ⟨by show (cB cs).length<=7; rw [fG]; exact h7.2,?_⟩
   show 32 ∉ (cB cs).cps.toList
   rw [bZ];intro hc;obtain ⟨i,hi⟩:=Dp.mp hc;obtain ⟨c,e1,_,e3⟩:=qN hb (i:=i) (z:=one 32) (by rw [Af,hi]; rfl)
   rw [<-one_inj.mp e1] at e3;rcases e3 with e | e
   · unfold bM at e; omega
   · have:=e.1; unfold cT at this; omega
theorem cZ8 {K:PySem.W.Frag} {g:TG} {tests:TT} {te:TE} {σ0:St} {H1:Hp} {Q:VK} {a:Addr} {xs:List V} {hs:List (Option (List Nat))} (ha:rdL H1 a=some xs) (hl:xs.length<sizeLine) (hx:xs.length=hs.length)
   (step:∀ (i:Nat) x h Hc (A:VK) (B:Hp->Prop),xs[i]?=some x->hs[i]?=some h->Same H1 Hc->(∀ v Hd,Same Hc Hd->HalV Hd v h->(∀ p,v=.ref p->Hc p=none)->A v Hd)->
     g x σ0 Hc λσ2 H2=>Wk σ0 σ2/\tests σ2 H2 λb H3=>if b=true then te σ2 H3 A else B H3)
   (fin:∀ D Hd vs,H1 D=none->Same H1 Hd->Hd D=some (.lst vs)->HalsAt Hd vs hs->(∀ p,V.ref p∈vs->H1 p=none)->Q (.ref D) Hd):eF g tests te σ0 Q (Itl K a) H1:=by
 refine nS (n:=xs.length) (λD i ys Hc=>Same H1 Hc/\HalsAt Hc ys (hs.take i)/\∀ p,V.ref p∈ys->H1 p=none) hl (λD hD=>⟨aF hD _,.nil,λp hp=>nomatch hp⟩)
   (λD i ys Hc _ r h=>⟨xs,xs[i],bC (aV r.1 ha),by simp [h]⟩) (λD ys Hc _ r=>⟨xs,bC (aV r.1 ha),Nat.le_refl _⟩) ?_ ?_
 · rintro D i ys Hc x H' A B hD hi ⟨sm,at',fr⟩ hDc ⟨rfl,hz⟩ ha' hb;have hi2:i<hs.length:=by omega
   have eh:hs[i]?=some hs[i]:=Aa hi2
   refine step i x hs[i] H' A B (hz xs (bC (aV sm ha))) eh sm (λv Hd sd hv hn=>?_);refine ha' _ _ (sd _ _ hDc) ⟨eJ hD (sm.trans sd),?_,λp hp=>?_⟩
   · rw [Bt,eh];refine HalsAt.snoc ((at'.keep sd).put (sd _ _ hDc)) (hv.keep λp zs hp e=>?_);rw [aK (λz=>by have:=hn p e; rw [z,hDc] at this; cases this)]
     exact hp
   · rcases Co.mp hp with e | e
     · exact fr p e
     · exact none_of sm (hn p (Am.mp e).symm)
 · rintro D ys Hc hD ⟨sm,at',fr⟩ hDc _;rw [hx,Ed] at at';exact fin D Hc ys hD sm hDc at' fr
theorem cQP {ks:List Nat} {j:Nat} {x:V} (h:(ks.map λk=>V.int ((k:Nat):Int))[j]?=some x):∃ k,ks[j]?=some k/\x=.int ((k:Nat):Int):=by
 rw [Af] at h;cases e:ks[j]? with
 | none=>rw [e] at h; cases h
 | some k=>rw [e] at h; cases h; exact ⟨k,rfl,rfl⟩
theorem HalsAt.get {H:Hp} {vs:List V} {hs:List (Option (List Nat))} (a:HalsAt H vs hs) {k:Nat} (hk:k<hs.length):∃ v,atI vs (k:Int)=some v/\vs[k]?=some v/\HalV H v (hs.getD k none):=by
 have hv:k<vs.length:=by rw [a.len]; exact hk
 refine ⟨vs[k],aS (Aa hv),Aa hv,?_⟩;refine a.val k _ _ (Aa hv) ?_;rw [Ak,Aa hk];rfl
def eL (hs:List (Option (List Nat))) (ks:List Nat):List Nat:=ks.flatMap λk=>(hs.getD k none).getD []
theorem aJ4 (hs:List (Option (List Nat))) (A B:List Nat):eL hs (A++B)=eL hs A++eL hs B:=List.flatMap_append ..
theorem uJ {hs:List (Option (List Nat))} (ok:oV hs) (k:Nat):((hs.getD k none).getD []).length<=7:=by
 cases e:hs[k]? with
 | none=>rw [Ak,e]; exact Dv _
 | some h=>
   rw [Ak,e];cases h with
   | none=>exact Dv _
   | some cs=>
     have:=jE (ok cs (Ap e))
     rw [Ab] at this;exact this.2
theorem tP {hs:List (Option (List Nat))} (ok:oV hs):∀ ks:List Nat,(eL hs ks).length<=7 * ks.length
 | []=>Dv _
 | k::r=>by
   show (((hs.getD k none).getD [])++eL hs r).length<=_
   rw [Aj,Be];have:=uJ ok k
   have:=tP ok r
   omega
def oS:Sp:=λvs H Q _=>∃ (a b:Addr) (us:List V) (hs:List (Option (List Nat))) (ks:List Nat),vs=[.ref a,.ref b]/\rdL H a=some us/\HalsAt H us hs/\oV hs/\rdL H b=some (ks.map λk=>V.int ((k:Nat):Int))/\ks.length<=7/\(∀ k∈ks,k<hs.length)/\
 ∀ (r:Addr) (H':Hp),H r=none->Same H H'->H' r=some (.lst (((eL hs ks).map one).map V.str))->Q (.ref r) H'
theorem sc_flags_on:FnScope ["halyards", "numbers", "flags", "number"] ["halyards", "numbers"] (aE fO):=by walk_at "sc"
theorem xM {aTower Zz Zw aDesk Zx Zu Zv Zy Zt Zs:Addr} {f:Addr} {fd:FuncData} (F:Fun K "flags_on" "flags_on" fO f fd) (G:Gs K mg w aTower Zz Zw aDesk Zx Zu Zv Zy Zt Zs)  : FnOk P w K mg base CX0 1 f fd ["halyards", "numbers"] oS:=by
 refine F.ok sc_flags_on (λvs H Q E h=>?_) (λcdv A outer s H vs Q E hr h=>?_)
 · obtain ⟨a,b,us,hs,ks,rfl,_⟩:=h; rfl
 obtain ⟨a,b,us,hs,ks,rfl,ha,hat,ok,hb,h7,hk,q⟩:=h;refine ⟨_,(@aH _ _ _ _ _ (@bI _ _ 2 _ _ _ _ sc_flags_on.nd (by rfl) (by exact (Or.inl rfl)) (bJ aD) (by rfl) (by walk_at "o")) (@aH _ _ _ _ _ (mD Fe rfl (cQ (mv 1)) (bL (i:=3) sc_flags_on.nd rfl (Or.inl rfl)) (@aI _ _ _ (bR (bB bZL (bE bW (mv 0) (mv 3) (λ_ _=>rfl)) fE (aR _)) (@aI _ _ _ (jH (bX De PySem.F.slot_list_extend PySem.F.type_list_extend dJA (mv 2) (aA (bE bW (mv 0) (mv 3) (λ_ _=>rfl)) aD)))) aU))) (@aI _ _ _ (aO (mv 2))))),?_⟩
 walk_at "go";refine ⟨by decide,λp hp=>?_⟩
 have sp:=aF hp (.lst [])
 have hb1:=aV sp hb
 walk_at "go";refine wA (xs:=(ks.map λk=>V.int ((k:Nat):Int))) (λi σ H'=>∃ v,σ=[some (.ref a),some (.ref b),some (.ref p),v]/\Same H H'/\H' p=some (.lst (((eL hs (ks.take i)).map one).map V.str)))
   ⟨_,rfl,sp,aG⟩ (λi σ H' _ ⟨_,_,e,_⟩=>aV e hb) ?_ ?_
 · rintro i x σ H2 hx ⟨v,rfl,s2,e2⟩;obtain ⟨k,hki,rfl⟩:=cQP hx;have hkl:=hk k (Ap hki)
   obtain ⟨u,au,_,hv⟩:=(hat.keep s2).get hkl;have r2:=aV s2 ha
   have ft:eL hs (ks.take (i+1))=eL hs (ks.take i)++(hs.getD k none).getD []:=by
     rw [Bt,hki,aJ4];show _++(_++[])=_
     rw [Br]
   walk_at "go";refine bY r2 au ?_;walk_at "go";cases eh:hs.getD k none with
   | none=>
     rw [eh] at hv ft;rw [show u=.non from hv,show decide (V.non=V.non)=true from rfl];walk_at "go";exact ⟨_,rfl,s2,by rw [ft]; show _=some (HO.lst (((_++[]).map one).map V.str)); rw [Br]; exact e2⟩
   | some cs=>
     have h7c:=uJ ok k
     rw [eh] at hv ft h7c;obtain ⟨pc,rfl,hpc⟩:=hv;rw [show decide (V.ref pc=V.non)=false from Au (λz=>nomatch z)]
     have m2:=eZ e2
     have rc:=aQ hpc
     have l2:=tP ok (ks.take i)
     rw [Ba] at l2;have hln:(((eL hs (ks.take i)).map one).map V.str).length+((cs.map one).map V.str).length<=sizeLine:=bQ (by rw [Ab,Ab,Ab,Ab]; have:cs.length<=7:=h7c; omega)
     walk_at "go";refine bY r2 au ?_;walk_at "go";refine ⟨_,rfl,eJ hp s2,?_⟩;rw [aG,ft,Bi,Bi];rfl
 · rintro σ H2 ⟨v,rfl,s2,e2⟩;rw [Bf (by rw [Ab]; exact Ag _)] at e2
   walk_at "go";exact q p H2 hp s2 e2
def gW (aC:Addr):Sp:=λvs H Q _=>∃ ea v,vs=[.ref ea,v]/\H ea=some (jC ea aC none)/\∀ dx,H dx=none->Q .non (upd (upd H ea (jC ea aC (some dx))) dx (xdO dx [("at",v)]))
theorem qG:FnScope ["self", "at"] ["self", "at"] (aE dR):=by walk_at "sc"
theorem rV {aTower Zz Zw aDesk Zx Zu Zv Zy Zt Zs:Addr} {f:Addr} {fd:FuncData} (F:Fun K "__init__" "NoBook.__init__" dR f fd) (G:Gs K mg w aTower Zz Zw aDesk Zx Zu Zv Zy Zt Zs)  : FnOk P w K mg base CX0 1 f fd ["self", "at"] (gW Zu):=by
 refine F.ok qG (λvs H Q E h=>?_) (λcdv A outer s H vs Q E hr h=>?_)
 · obtain ⟨ea,v,rfl,_⟩:=h; rfl
 obtain ⟨ea,v,rfl,he,q⟩:=h;refine ⟨_,(@aH _ _ _ _ _ (jH (bZW rfl G.c_TowerError G.t1_TowerError G.t2_TowerError G.t3_TowerError (aA (mv 0) (aA (mv 1) aD)))) (@aI _ _ _ (cX8 (mv 0) (mv 1) rfl))),?_⟩;walk_at "go";refine ⟨ea,[v],Zu,Zz,none,rfl,by show 1<=sizeLine; decide,he,(λ_ z=>nomatch z),G.xc_NoBook,?_⟩
 walk_at "go";exact ⟨ea,Zu,Zz,rfl,G.xc_NoBook,G.xn_NoBook_at,.inl ⟨he,q⟩⟩
theorem yV {H H1:Hp} {ea dx:Addr} {o o' o'':HO} (s:Same H H1) (h1:H1 ea=none) (h2:upd H1 ea o dx=none):Same H (del (upd (upd (upd H1 ea o) ea o') dx o'') ea):=λb u e=>by
 have e1:=s b u e
 have n1:b≠ea:=bG e1 h1
 have n3:dx≠ea:=λz=>by rw [z,aG] at h2; cases h2
 have n2:b≠dx:=λz=>by rw [<-z,aK n1,e1] at h2; cases h2
 rw [kI n1,aK n2,aK n1,aK n1];exact e1
theorem uZ {H1:Hp} {ea dx:Addr} {o o' o'':HO} (h2:upd H1 ea o dx=none):upd (upd (upd H1 ea o) ea o') dx o'' ea=some o'/\del (upd (upd (upd H1 ea o) ea o') dx o'') ea dx=some o'':=by
 have n3:dx≠ea:=λz=>by rw [z,aG] at h2; cases h2
 exact ⟨by rw [aK n3.symm,aG],by rw [kI n3,aG]⟩
def qE:Sp:=λvs H Q _=>∃ z,vs=[.str z]/\z.length<=20000/\∀ H',Same H H'->Q (.bl (jR z)) H'
theorem zY:FnScope ["text"] ["text"] (aE gL):=by walk_at "sc"
theorem aQA {aTower Zz Zw aDesk Zx Zu Zv Zy Zt Zs:Addr} {f:Addr} {fd:FuncData} (F:Fun K "is_word" "is_word" gL f fd) (G:Gs K mg w aTower Zz Zw aDesk Zx Zu Zv Zy Zt Zs)  : FnOk P w K mg base CX0 1 f fd ["text"] qE:=by
 refine F.ok zY (λvs H Q E h=>?_) (λcdv A outer s H vs Q E hr h=>?_)
 · obtain ⟨z,rfl,_⟩:=h; rfl
 obtain ⟨z,rfl,hl,q⟩:=h;refine ⟨_,(@aH _ _ _ _ _ (bR (PW.pt (mM (bB aZZ (bD fI rfl G.b_len dC (aA (mv 0) aD)) aJ (aR _)) (kL (bB xD (bD fI rfl G.b_len dC (aA (mv 0) aD)) (gD rfl G.s_MOST_PLACES) (aR _))))) (@aI _ _ _ (aO jW)) aU) (@aI _ _ _ (aO (bD (tE rfl) rfl G.b_all oM (aA (cM rfl (nW (mv 0)) (fL (N:=["sign"]) (by decide +kernel) (by decide +kernel)) (by decide +kernel) rfl (by decide +kernel) (λC s₀ H₀ ex=>(bL (i:=0) (show List.Nodup (["sign"]:List Str) by decide +kernel) rfl (Or.inl rfl))) (λC s₀ H₀ ex=>cN) (λC s₀ H₀ ex=>(cG tM (mv 0) (dJ rfl G.s_LETTERS) (by rfl)))) aD))))),?_⟩
 walk_at "go";refine jZ (λhc=>?_) (λhc=>?_)
 · walk_at "go";have e:jR z=false:=if_pos (.inl (by have:=Az hc; omega))
   have r:=q H (Same.refl H)
   rw [e] at r;exact r
 · have hc':=Bp (Bq.mpr hc)
   walk_at "go";refine jZ (λhd=>?_) (λhd=>?_)
   · walk_at "go";have e:jR z=false:=if_pos (.inr (by have:=Az hd; omega))
     have r:=q H (Same.refl H)
     rw [e] at r;exact r
   · have hd':=Bp (Bq.mpr hd)
     walk_at "go";refine bXQ (λc=>some (.bl (decide (c∈lettersT.cps.toList)))) (bT (by omega)) (λi c Hc A B hc' hA=>?_) (λD hD=>?_)
     · walk_at "go";refine ⟨Wk.set rfl (Wk.refl _),?_⟩;walk_at "go";have e:subIn ⟨#[c]⟩ lettersT=decide (c∈lettersT.cps.toList):=lF _ _
       show A (.bl (subIn ⟨#[c]⟩ lettersT)) Hc
       rw [e];exact hA
     · walk_at "go";have e:z.cps.toList.filterMap (λc=>some (V.bl (decide (c∈lettersT.cps.toList))))=(z.cps.toList.map λc=>decide (c∈lettersT.cps.toList)).map V.bl:=by
         rw [Cb];exact jI _ _
       rw [e];have sm:Same H (upd H D (.lst ((z.cps.toList.map λc=>decide (c∈lettersT.cps.toList)).map V.bl))):=aF hD _
       refine uM (bs:=z.cps.toList.map λc=>decide (c∈lettersT.cps.toList)) bH ?_;have e2:jR z=(z.cps.toList.map λc=>decide (c∈lettersT.cps.toList)).all id:=by
         unfold jR dXX;rw [if_neg (by omega),Fo]
         rfl
       have r:=q _ sm
       rw [e2] at r;exact r
def iV (z:Str):Bool:=if z.length<1\/10<z.length then false else z.cps.toList.all λc=>decide (c∈tmsT.cps.toList)
abbrev cU (z:Str):List Str:=Txt.split z (Str.ofString " ")
def bXB (z:Str) (n:Int):Bool:=decide (((cU z).length:Int)<=n) && (cU z).all iV
theorem aZ5 {z y:Str} (h:y∈cU z):y.length<=z.length:=by
 have:=PySem.join_mem_le (Str.ofString " ") (cU z) y h
 rw [Dr] at this;exact this
theorem aXC (z:Str):(cU z).length<=z.length+2:=by
 unfold cU Txt.split;split
 · show 1<=_; omega
 · split
   · show 1<=_; omega
   · rw [PySem.length_partsBetween];have e1:=StrLaws.occ_length_le z (Str.ofString " ") 0 z.length (z.length+1)
     omega
def rR:Sp:=λvs H Q _=>∃ z,vs=[.str z]/\z.length<=20000/\∀ H',Same H H'->Q (.bl (iV z)) H'
def gY:Sp:=λvs H Q _=>∃ z n,vs=[.str z,.int n]/\z.length<=20000/\∀ H',Same H H'->Q (.bl (bXB z n)) H'
theorem aQG:FnScope ["text"] ["text"] (aE gQ):=by walk_at "sc"
theorem aQC {aTower Zz Zw aDesk Zx Zu Zv Zy Zt Zs:Addr} {f:Addr} {fd:FuncData} (F:Fun K "is_term" "is_term" gQ f fd) (G:Gs K mg w aTower Zz Zw aDesk Zx Zu Zv Zy Zt Zs)  : FnOk P w K mg base CX0 1 f fd ["text"] rR:=by
 refine F.ok aQG (λvs H Q E h=>?_) (λcdv A outer s H vs Q E hr h=>?_)
 · obtain ⟨z,rfl,_⟩:=h; rfl
 obtain ⟨z,rfl,hl,q⟩:=h;refine ⟨_,(@aH _ _ _ _ _ (bR (PW.pt (mM (bB aZZ (bD fI rfl G.b_len dC (aA (mv 0) aD)) aJ (aR _)) (kL (bB xD (bD fI rfl G.b_len dC (aA (mv 0) aD)) (gD rfl G.s_LONGEST_TERM) (aR _))))) (@aI _ _ _ (aO jW)) aU) (@aI _ _ _ (aO (bD (tE rfl) rfl G.b_all oM (aA (cM rfl (nW (mv 0)) (fL (N:=["sign"]) (by decide +kernel) (by decide +kernel)) (by decide +kernel) rfl (by decide +kernel) (λC s₀ H₀ ex=>(bL (i:=0) (show List.Nodup (["sign"]:List Str) by decide +kernel) rfl (Or.inl rfl))) (λC s₀ H₀ ex=>cN) (λC s₀ H₀ ex=>(cG tM (mv 0) (dJ rfl G.s_TERM_LETTERS) (by rfl)))) aD))))),?_⟩
 walk_at "go";refine jZ (λhc=>?_) (λhc=>?_)
 · walk_at "go";have e:iV z=false:=if_pos (.inl (by have:=Az hc; omega))
   have r:=q H (Same.refl H)
   rw [e] at r;exact r
 · have hc':=Bp (Bq.mpr hc)
   walk_at "go";refine jZ (λhd=>?_) (λhd=>?_)
   · walk_at "go";have e:iV z=false:=if_pos (.inr (by have:=Az hd; omega))
     have r:=q H (Same.refl H)
     rw [e] at r;exact r
   · have hd':=Bp (Bq.mpr hd)
     walk_at "go";refine bXQ (λc=>some (.bl (decide (c∈tmsT.cps.toList)))) (bT (by omega)) (λi c Hc A B hc' hA=>?_) (λD hD=>?_)
     · walk_at "go";refine ⟨Wk.set rfl (Wk.refl _),?_⟩;walk_at "go";have e:subIn ⟨#[c]⟩ tmsT=decide (c∈tmsT.cps.toList):=lF _ _
       show A (.bl (subIn ⟨#[c]⟩ tmsT)) Hc
       rw [e];exact hA
     · walk_at "go";have e:z.cps.toList.filterMap (λc=>some (V.bl (decide (c∈tmsT.cps.toList))))=(z.cps.toList.map λc=>decide (c∈tmsT.cps.toList)).map V.bl:=by
         rw [Cb];exact jI _ _
       rw [e];have sm:Same H (upd H D (.lst ((z.cps.toList.map λc=>decide (c∈tmsT.cps.toList)).map V.bl))):=aF hD _
       refine uM (bs:=z.cps.toList.map λc=>decide (c∈tmsT.cps.toList)) bH ?_;have e2:iV z=(z.cps.toList.map λc=>decide (c∈tmsT.cps.toList)).all id:=by
         unfold iV;rw [if_neg (by omega),Fo]
         rfl
       have r:=q _ sm
       rw [e2] at r;exact r
theorem sc_is_row_of_terms:FnScope ["text", "most", "terms"] ["text", "most"] (aE cD):=by walk_at "sc"
theorem lW {aTower Zz Zw aDesk Zx Zu Zv Zy Zt Zs:Addr} {f:Addr} {fd:FuncData} (F:Fun K "is_row_of_terms" "is_row_of_terms" cD f fd) (G:Gs K mg w aTower Zz Zw aDesk Zx Zu Zv Zy Zt Zs) (c_is_term:Cal P w K mg base 1 "is_term" ["text"] rR):FnOk P w K mg base CX0 2 f fd ["text", "most"] gY:=by
 refine F.ok sc_is_row_of_terms (λvs H Q E h=>?_) (λcdv A outer s H vs Q E hr h=>?_)
 · obtain ⟨z,n,rfl,_⟩:=h; rfl
 obtain ⟨z,n,rfl,hl,q⟩:=h;refine ⟨_,(@aH _ _ _ _ _ (@bI _ _ 2 _ _ _ _ sc_is_row_of_terms.nd (by rfl) (by exact (Or.inl rfl)) (bX Bb Df Dg lB (mv 0) (@aW _ _ _ _ _ _ aD)) (by rfl) (by walk_at "o")) (@aI _ _ _ (aO (wG (cG eZD (bD fI rfl G.b_len dC (aA (mv 2) aD)) (mv 1) (aR _)) (vC (bD (tE rfl) rfl G.b_all oM (aA (cM rfl (cQ (mv 2)) (fL (N:=["term"]) (by decide +kernel) (by decide +kernel)) (by decide +kernel) rfl (by decide +kernel) (λC s₀ H₀ ex=>(bL (i:=0) (show List.Nodup (["term"]:List Str) by decide +kernel) rfl (Or.inl rfl))) (λC s₀ H₀ ex=>cN) (λC s₀ H₀ ex=>(bA c_is_term hr (by decide) rfl (aA (mv 0) aD)))) aD))))))),?_⟩
 walk_at "go";refine kF rfl (by omega) λr hr=>?_
 have s1:=aF hr (.lst ((cU z).map V.str))
 have r1:rdL (upd H r (.lst ((cU z).map V.str))) r=some ((cU z).map V.str):=bH
 show lP _ _ _ (upd H r (.lst ((cU z).map V.str))) _
 generalize upd H r (.lst ((cU z).map V.str))=H1 at s1 r1 ⊢;have hpl:((cU z).map V.str).length=(cU z).length:=Ab ..
 have hpm:=aXC z
 walk_at "go";rw [hpl];unfold bXB at q;refine jZ (λhc=>?_) (λhc=>?_)
 · rw [show decide (((cU z).length:Int)<=n)=true from hc,Em] at q;walk_at "go";refine wR (xs:=(cU z).map V.str) (λx=>match x with | .str y=>some (.bl (iV y)) | _=>none) r1 (by rw [hpl]; exact bT (by omega)) (λi x Hc A B hx sm hA=>?_) (λD Hd hD sD hd=>?_)
   · obtain ⟨y,hy,rfl⟩:=fR hx;walk_at "go";refine ⟨Wk.set rfl (Wk.refl _),?_⟩;walk_at "go";refine ⟨y,rfl,by have:=aZ5 (Ap hy); omega,λH2 s2=>?_⟩
     exact hA _ s2
   · have e:((cU z).map V.str).filterMap (λx=>match x with | .str y=>some (V.bl (iV y)) | _=>none)=((cU z).map iV).map V.bl:=by
       rw [List.filterMap_map,Cb];exact jI (λy=>V.bl (iV y)) _
     rw [e] at hd;walk_at "go";refine uM (bs:=(cU z).map iV) (aQ hd) ?_;have r:=q Hd (s1.trans sD)
     rw [show ((cU z).map iV).all id=(cU z).all iV by rw [Fo]; rfl]
     exact r
 · have hc':decide (((cU z).length:Int)<=n)=false:=Bq.mpr hc
   rw [hc',Eo] at q;exact q _ s1
structure Small (bk:List (Str×Str)) (n:Nat):Prop where
 len:bk.length<=n
 str:∀ b∈bk,b.1.length<=n/\b.2.length<=n
def neB (w m:Str) (b:Str×Str):Bool:=(!decide (b.1=w)) && (!decide (b.2=m))
def dE (bk:List (Str×Str)) (i:Nat):Bool:=match bk[i]? with
 | some b=>decide (i<60) && (jR b.1 && (decide (b.1.length<=6) && (bXB b.2 5 && (bk.take i).all (neB b.1 b.2))))
 | none=>false
theorem nV {bk:List (Str×Str)} {i:Nat} {b:Str×Str} (h:bk[i]?=some b):dE bk i=(decide (i<60) && (jR b.1 && (decide (b.1.length<=6) && (bXB b.2 5 && (bk.take i).all (neB b.1 b.2))))):=by
 unfold dE;rw [h]
def kE (bk:List (Str×Str)) (i:Nat):Prop:=i<bk.length/\dE bk i=false/\∀ j,j<i->dE bk j=true
def fF (bk:List (Str×Str)):Prop:=∀ j,j<bk.length->dE bk j=true
def Out (bk:List (Str×Str)) (v:V):Prop:=(bk=[]/\v=.int 0)\/(∃ i:Nat,kE bk i/\v=.int (i:Int))\/(bk≠[]/\fF bk/\v=.non)
theorem Out.just {bk:List (Str×Str)} {v u:V} (h:Out bk v) (g:Out bk u):v=u:=by
 rcases h with ⟨e,rfl⟩ | ⟨i,⟨h1,h2,h3⟩,rfl⟩ | ⟨n,ok,rfl⟩ <;> rcases g with ⟨e',rfl⟩ | ⟨j,⟨g1,g2,g3⟩,rfl⟩ | ⟨n',ok',rfl⟩
 · rfl
 · rw [e] at g1; exact absurd g1 (Fx _)
 · exact absurd e n'
 · rw [e'] at h1; exact absurd h1 (Fx _)
 · rcases Nat.lt_trichotomy i j with z | z | z
   · rw [g3 i z] at h2; cases h2
   · rw [z]
   · rw [h3 j z] at g2; cases g2
 · rw [ok' i h1] at h2; cases h2
 · exact absurd e' n
 · rw [ok j g1] at g2; cases g2
 · rfl
def dZ0 (H:Hp) (w m:Str):V->Option V
 | .ref p=>(match H p with | some (.tup [.str u,.str v])=>some (.bl (neB w m (u,v))) | _=>none)
 | _=>none
theorem cJK {H:Hp} {w m:Str}:∀ {ps:List Addr} {bk:List (Str×Str)},ps.length=bk.length->(∀ (j:Nat) p b,ps[j]?=some p->bk[j]?=some b->H p=some (.tup [.str b.1,.str b.2]))->(ps.map V.ref).filterMap (dZ0 H w m)=(bk.map (neB w m)).map V.bl
 | [],[],_,_=>rfl
 | p::ps,b::bk,hl,h=>by
   rw [List.map_cons,List.filterMap_cons_some (b:=V.bl (neB w m b)) (by show (match H p with | some (.tup [.str u,.str v])=>some (V.bl (neB w m (u,v))) | _=>none)=_; rw [h 0 p b rfl rfl]),List.map_cons,List.map_cons,cJK (by simpa using hl) λj q c hq hc=>h (j+1) q c (by simpa using hq) (by simpa using hc)]
 | [],_::_,hl,_=>by cases hl
 | _::_,[],hl,_=>by cases hl
def lL:Sp:=λvs H Q _=>∃ (a:Addr) (bk:List (Str×Str)) (i:Nat),vs=[.ref a,.int (i:Int)]/\BkAt H a bk/\Small bk 20000/\i<bk.length/\∀ H',Same H H'->Q (.bl (dE bk i)) H'
theorem sc_may_follow:FnScope ["book", "at", "word", "meaning"] ["book", "at"] (aE dL):=by walk_at "sc"
theorem sJ {aTower Zz Zw aDesk Zx Zu Zv Zy Zt Zs:Addr} {f:Addr} {fd:FuncData} (F:Fun K "may_follow" "may_follow" dL f fd) (G:Gs K mg w aTower Zz Zw aDesk Zx Zu Zv Zy Zt Zs) (c_is_row_of_terms:Cal P w K mg base 2 "is_row_of_terms" ["text", "most"] gY) (c_is_word:Cal P w K mg base 1 "is_word" ["text"] qE):FnOk P w K mg base CX0 3 f fd ["book", "at"] lL:=by
 refine F.ok sc_may_follow (λvs H Q E h=>?_) (λcdv A outer s H vs Q E hr h=>?_)
 · obtain ⟨a,bk,i,rfl,_⟩:=h; rfl
 obtain ⟨a,bk,i,rfl,hbk,hsm,hi,q⟩:=h;refine ⟨_,(@aH _ _ _ _ _ (@bI _ _ 2 _ _ _ _ sc_may_follow.nd (by rfl) (by exact (Or.inr rfl)) (bE bW (bE bW (mv 0) (mv 1) (λ_ _=>rfl)) aJ (λ_ _=>rfl)) (by rfl) (by walk_at "o")) (@aH _ _ _ _ _ (@bI _ _ 3 _ _ _ _ sc_may_follow.nd (by rfl) (by exact (Or.inr rfl)) (bE bW (bE bW (mv 0) (mv 1) (λ_ _=>rfl)) aJ (λ_ _=>rfl)) (by rfl) (by walk_at "o")) (@aH _ _ _ _ _ (bR (PW.pt (mM (bB eQV (mv 1) (gD rfl G.s_MOST_TUPLES) (aR _)) (mM (kR (dZ (bA c_is_word hr (by decide) rfl (aA (mv 2) aD)))) (kL (bB xD (bD fI rfl G.b_len dC (aA (mv 2) aD)) (gD rfl G.s_LONGEST_WORD) (aR _)))))) (@aI _ _ _ (aO jW)) aU) (@aH _ _ _ _ _ (bR (kR (dZ (bA c_is_row_of_terms hr (by decide) rfl (aA (mv 3) (aA (gD rfl G.s_MOST_TERMS_MEANT) aD))))) (@aI _ _ _ (aO jW)) aU) (@aI _ _ _ (aO (bD (tE rfl) rfl G.b_all oM (aA (cM rfl (cQ (gZ aXI (mv 0) jF (jM (mv 1)))) (uI (N:=["ahead", "word", "meaning"]) ["book", "at", "word", "meaning"] (aE dL) [none,some 2,some 3] rfl rfl rfl (λx h=>fW h) (by decide +kernel)) (by decide +kernel) rfl (by decide +kernel) (λC s₀ H₀ ex=>(bL (i:=0) (show List.Nodup (["ahead", "word", "meaning"]:List Str) by decide +kernel) rfl (Or.inl rfl))) (λC s₀ H₀ ex=>cN) (λC s₀ H₀ ex=>(wG (cG cXT (bE bW (mv 0) aJ (λ_ _=>rfl)) (mv 1) (aR _)) (vC (cG cXT (bE bW (mv 0) aJ (λ_ _=>rfl)) (mv 2) (aR _)))))) aD)))))))),?_⟩
 obtain ⟨qs,b1,b2,b3⟩:=id hbk;have rq:=aQ b1
 have hq:qs[i]?=some qs[i]:=Aa (by omega)
 have hbi:bk[i]?=some bk[i]:=Aa hi
 have tp:=b3 i _ _ hq hbi
 rw [nV hbi] at q;have hst:=hsm.str _ (Ap hbi)
 have hlen:=hsm.len
 generalize bk[i]=b at hbi tp q hst;generalize qs[i]=pt at hq tp;have aq:atI (qs.map V.ref) (i:Int)=some (.ref pt):=aS (by rw [Af,hq]; rfl)
 walk_at "go";refine bY rq aq ?_;walk_at "go";refine gX tp (v:=.str b.1) rfl ?_;walk_at "go";refine bY rq aq ?_;walk_at "go";refine gX tp (v:=.str b.2) rfl ?_;walk_at "go";refine jZ (λhc=>?_) (λhc=>?_)
 · have hc':=Az hc
   rw [Au (show ¬ i<60 by omega),Eo] at q
   walk_at "go";exact q _ (Same.refl _)
 · have hc':=Bp (Bq.mpr hc)
   rw [Aq (show i<60 by omega),Em] at q
   walk_at "go";refine ⟨b.1,rfl,hst.1,λH1 s1=>?_⟩;walk_at "go";cases hw:jR b.1 with
   | false=>
     rw [hw,Eo] at q;walk_at "go";exact q _ s1
   | true=>
     rw [hw,Em] at q;have hl1:b.1.length<=20000:=hst.1
     walk_at "go";refine jZ (λhd=>?_) (λhd=>?_)
     · have hd':=Az hd
       rw [Au (show ¬ b.1.length<=6 by omega),Eo] at q
       walk_at "go";exact q _ s1
     · have hd':=Bp (Bq.mpr hd)
       rw [Aq (show b.1.length<=6 by omega),Em] at q
       walk_at "go";refine ⟨b.2,5,rfl,hst.2,λH2 s2=>?_⟩;walk_at "go";cases hr:bXB b.2 5 with
       | false=>
         rw [hr,Eo] at q;walk_at "go";exact q _ (s1.trans s2)
       | true=>
         rw [hr,Em] at q;have rq2:=aV (s1.trans s2) rq
         walk_at "go";intro r hr2;rw [qR (by omega),show ((i:Nat):Int).toNat=i from rfl,<-Eb]
         have s3:=(s1.trans s2).trans (aF hr2 (.lst ((qs.take i).map V.ref)))
         have r3:rdL (upd H2 r (.lst ((qs.take i).map V.ref))) r=some ((qs.take i).map V.ref):=bH
         generalize upd H2 r (.lst ((qs.take i).map V.ref))=H3 at s3 r3 ⊢;have tl:(qs.take i).length=(bk.take i).length:=by rw [Ba,Ba,b2]
         have tt:∀ (j:Nat) p c,(qs.take i)[j]?=some p->(bk.take i)[j]?=some c->H3 p=some (.tup [.str c.1,.str c.2]):=λj p c hp hc=>by
           have hj:j<i:=by
             have:=(Ae.mp hp).1
             rw [Ba] at this;omega
           rw [List.getElem?_take_of_lt hj] at hp hc;exact s3 _ _ (b3 j p c hp hc)
         walk_at "go";refine wR (xs:=(qs.take i).map V.ref) (dZ0 H3 b.1 b.2) r3 (by rw [Ab,Ba]; exact bT (by omega)) (λj x Hc A B hx sm hA=>?_) (λD Hd hD sD hd=>?_)
         · rw [Af] at hx;cases e:(qs.take i)[j]? with
           | none=>rw [e] at hx; cases hx
           | some p4=>
             rw [e] at hx;cases hx;have hj:j<(bk.take i).length:=by rw [<-tl]; exact (Ae.mp e).1
             have t4:=tt j p4 _ e (Aa hj)
             generalize (bk.take i)[j]=c4 at t4;have tc:=sm _ _ t4
             have r:=hA _ (Same.refl _)
             simp only [dZ0,t4,neB] at r;walk_at "go";refine ⟨Wk.set rfl (Wk.refl _),?_⟩;walk_at "go";refine gX tc (v:=.str c4.1) rfl ?_;walk_at "go";by_cases z:c4.1=b.1
             · rw [Aq z] at r ⊢;exact r
             · rw [Au z] at r ⊢;walk_at "go";refine gX tc (v:=.str c4.2) rfl ?_;walk_at "go";exact r
         · rw [cJK tl tt] at hd;walk_at "go";refine uM (bs:=(bk.take i).map (neB b.1 b.2)) (aQ hd) ?_;have r:=q Hd (s3.trans sD)
           rw [show ((bk.take i).map (neB b.1 b.2)).all id=(bk.take i).all (neB b.1 b.2) by rw [Fo]; rfl]
           exact r
def rQ (aC:Addr):Sp:=λvs H Q E=>∃ (a:Addr) (bk:List (Str×Str)),vs=[.ref a]/\BkAt H a bk/\Small bk 20000/\
 (bk≠[]->fF bk->∀ H',Same H H'->Q .non H')/\
 (∀ i:Nat,kE bk i->∀ (dx:Addr) (H':Hp),Same H H'->H' dx=some (xdO dx [("at",.int (i:Int))])->E (.ref aC) (some dx) H')/\
 (bk=[]->∀ (dx:Addr) (H':Hp),Same H H'->H' dx=some (xdO dx [("at",.int 0)])->E (.ref aC) (some dx) H')
theorem sc_look_at:FnScope ["book", "at"] ["book"] (aE gK):=by walk_at "sc"
theorem aXE {aTower Zz Zw aDesk Zx Zu Zv Zy Zt Zs:Addr} {f:Addr} {fd:FuncData} (F:Fun K "look_at" "look_at" gK f fd) (G:Gs K mg w aTower Zz Zw aDesk Zx Zu Zv Zy Zt Zs) (c_NoBook_init:cQ0 P w K mg base 1 Zu ["self", "at"] (gW Zu)) (c_may_follow:Cal P w K mg base 3 "may_follow" ["book", "at"] lL):FnOk P w K mg base (CXr P w) 4 f fd ["book"] (rQ Zu):=by
 refine F.okX sc_look_at (λvs H Q E h=>?_) (λcdv A outer s H vs Q E hr h=>?_)
 · obtain ⟨a,bk,rfl,_⟩:=h; rfl
 obtain ⟨a,bk,rfl,hbk,hsm,q,qe,q0⟩:=h;refine ⟨_,(@aH _ _ _ _ _ (bR (bB (eXX hr.units0) (mv 0) (bJ aD) (aR _)) (@aI _ _ _ (sW iB rfl rfl rfl G.c_NoBook G.xm_NoBook c_NoBook_init hr (by decide) (aA aJ aD))) aU) (@aI _ _ _ (mD PassesOwn.leaving rfl (sZ rfl G.b_range (aA (bD fI rfl G.b_len dC (aA (mv 0) aD)) aD)) (bL (i:=1) sc_look_at.nd rfl (Or.inl rfl)) (@aI _ _ _ (bR (kR (dZ (bA c_may_follow hr (by decide) rfl (aA (mv 0) (aA (mv 1) aD))))) (@aI _ _ _ (sW iB rfl rfl rfl G.c_NoBook G.xm_NoBook c_NoBook_init hr (by decide) (aA (mv 1) aD))) aU))))),?_⟩
 obtain ⟨qs,b1,b2,b3⟩:=id hbk;have hlen:=hsm.len
 walk_at "go";refine ⟨by decide,λpe hpe=>?_⟩
 have s1:=aF hpe (.lst [])
 have r1:rdL (upd H pe (.lst [])) pe=some []:=bH
 generalize upd H pe (.lst [])=H1 at s1 r1 ⊢;have rq:=aV s1 (aQ b1)
 refine dJH rq r1 ?_;walk_at "go";cases bk with
 | nil=>
   obtain rfl:qs=[]:=List.eq_nil_of_length_eq_zero b2;rw [show (List.map V.ref ([]:List Addr)).isEmpty=true from rfl];walk_at "go";refine ⟨by show 1<=sizeLine; decide,λea hea=>⟨ea,_,rfl,aG,λdx hdx=>⟨rfl,some dx,(uZ hdx).1,?_⟩⟩⟩
   exact q0 rfl dx _ (yV s1 hea hdx) (uZ hdx).2
 | cons c0 cr=>
   have he:(qs.map V.ref).isEmpty=false:=by
     cases qs with
     | nil=>cases b2
     | cons _ _=>rfl
   rw [he];generalize hb:c0::cr=bk at hbk hsm q qe q0 b2 b3 hlen;have hne:bk≠[]:=by rw [<-hb]; exact λz=>nomatch z
   clear hb;have hql:(qs.map V.ref).length=bk.length:=by rw [Ab,b2]
   walk_at "go";rw [hql];refine ⟨⟨by omega,by omega⟩,?_⟩
   refine zF (λi σ H'=>∃ v1:Option V,σ=[some (.ref a),v1]/\Same H H'/\∀ j,j<i->dE bk j=true) ⟨_,rfl,s1,λj hj=>absurd hj (Fx _)⟩ ?_ ?_
   · rintro i σ H2 hi ⟨v1,rfl,s2,hok⟩;have hi':i<bk.length:=by omega
     walk_at "go";rw [Int.zero_add];refine ⟨a,bk,i,rfl,hbk.keep s2,hsm,hi',λH3 s3=>?_⟩;walk_at "go";cases e:dE bk i with
     | false=>
       walk_at "go";refine ⟨by show 1<=sizeLine; decide,λea hea=>⟨ea,_,rfl,aG,λdx hdx=>⟨rfl,some dx,(uZ hdx).1,?_⟩⟩⟩
       exact qe i ⟨hi',e,hok⟩ dx _ (yV (s2.trans s3) hea hdx) (uZ hdx).2
     | true=>
       walk_at "go";refine ⟨_,rfl,s2.trans s3,λj hj=>?_⟩;by_cases z:j=i
       · rw [z]; exact e
       · exact hok j (by omega)
   · rintro σ H2 ⟨v1,rfl,s2,hok⟩;walk_at "go";exact q hne (λj hj=>hok j (by omega)) _ s2
theorem aXF {n:Nat}:∀ {L:List Nat},(∀ x∈L,x<=n)->L.sum<=n * L.length
 | [],_=>Ag _
 | x::r,h=>by
   rw [Gw,Be,Nat.mul_succ];have h1:=h x Ai
   have h2:=aXF λy hy=>h y (Ah _ hy)
   omega
abbrev bV (z:Str):List Str:=Txt.split z (Str.ofString "\n")
theorem jeq (s:Str) (L:List Str):Txt.join s L=Str.join s L:=StrLaws.glued_eq_join _ _
theorem cJL (c:Nat) (p q:Str) (r:List Str):Txt.join ⟨#[c]⟩ (p::q::r)=p++⟨#[c]⟩++Txt.join ⟨#[c]⟩ (q::r):=by
 rw [jeq,jeq];rfl
theorem cJU (c:Nat) (p:Str):Txt.join ⟨#[c]⟩ [p]=p:=by
 rw [jeq];rfl
theorem cX2 {z:Str} {c:Nat} (h:c ∉ z.cps.toList):Txt.partition z ⟨#[c]⟩=(z,Str.empty,Str.empty):=by
 have at1:∀ i,StrLaws.At z ⟨#[c]⟩ z.length i ↔ z.cps.toList[i]?=some c:=λi=>StrLaws.subAt_one _ c i
 unfold Txt.partition;rcases StrLaws.occ_head z ⟨#[c]⟩ 1 (Ag 1) with ⟨h0,hn⟩ | ⟨i,r,h0,hi,hn⟩
 · rw [h0]
 · exact absurd (Ap ((at1 i).mp hi)) h
theorem eZA (r:Str):(∃ p,cU r=[p]/\Txt.partition r (Str.ofString " ")=(p,Str.empty,Str.empty))\/
   (∃ p q t,cU r=p::q::t/\Txt.partition r (Str.ofString " ")=(p,Str.ofString " ",Txt.join (Str.ofString " ") (q::t))/\cU (Txt.join (Str.ofString " ") (q::t))=q::t):=by
 have e1:Txt.join ⟨#[32]⟩ (cU r)=r:=by rw [jeq]; exact Dr r ⟨#[32]⟩
 have f1:∀ p ∈ cU r,32 ∉ p.cps.toList:=StrLaws.split_free r 32
 have n1:cU r≠[]:=nH r ⟨#[32]⟩
 generalize cU r=L at e1 f1 n1
 match L,n1 with
 | [p],_=>
   rw [cJU] at e1;subst e1;exact .inl ⟨p,rfl,cX2 (c:=32) (f1 p Ai)⟩
 | p::q::t,_=>
   rw [cJL] at e1;subst e1;exact .inr ⟨p,q,t,rfl,cZ4 (c:=32) (f1 p Ai),aQY (λz=>nomatch z) λy hy=>f1 y (Ah _ hy)⟩
def fX (r:Str):Str×Str:=((Txt.partition r (Str.ofString " ")).1,(Txt.partition r (Str.ofString " ")).2.2)
def bkZ (z:Str):List (Str×Str):=(bV z).map fX
def pK (r:Str):Bool:=decide ((Txt.partition r (Str.ofString " ")).2.1=Str.ofString " ")
def bU (z:Str):Bool:=(bV z).all pK
theorem aXZ (z:Str):bV z≠[]:=nH z ⟨#[10]⟩
theorem yW {z y:Str} (h:y∈bV z):y.length<=z.length:=by
 have:=PySem.join_mem_le (Str.ofString "\n") (bV z) y h
 rw [Dr] at this;exact this
theorem yQ (c:Nat):∀ L:List Str,L≠[]->(Txt.join ⟨#[c]⟩ L).length+1=(L.map (·.length)).sum+L.length
 | [],h=>absurd rfl h
 | [p],_=>by rw [cJU]; simp
 | p::q::t,_=>by
   have ih:=yQ c (q::t) (λz=>nomatch z)
   rw [cJL,Cu,Cu,show (⟨#[c]⟩:Str).length=1 from rfl];rw [Aw,Gw,Be];omega
theorem bQD (z:Str):((bV z).map (·.length)).sum+(bV z).length=z.length+1:=by
 rw [<-yQ 10 _ (aXZ z)];rw [show Txt.join ⟨#[10]⟩ (bV z)=z by rw [jeq]; exact Dr z ⟨#[10]⟩]
theorem bXW (r:Str):(fX r).1.length<=r.length/\(fX r).2.length<=r.length:=by
 have e:=PySem.StrLaws.partition_sum r (Str.ofString " ")
 have e2:=Dm Str.length e
 rw [Cu,Cu] at e2;unfold fX;constructor <;> dsimp only <;> omega
theorem rM {α β:Type} (g:α->β) (d:α) (L:List α):(List.range L.length).map (λj=>g (L.getD j d))=L.map g:=by
 refine List.ext_getElem? λj=>?_;rw [Af,Af];by_cases h:j<L.length
 · rw [Di h,Aa h,Fc,Fc,Ak,Aa h];rfl
 · rw [List.getElem?_eq_none (by rw [Bj]; omega),List.getElem?_eq_none (by omega)]
   rfl
theorem xA (z:Str):(bV z).length<=z.length+1:=by
 have:=bQD z
 omega
theorem bXV {z:Str} (h:z.length<=19000):Small (bkZ z) 20000:=by
 refine ⟨by unfold bkZ; rw [Ab]; have:=xA z; omega,λb hb=>?_⟩
 obtain ⟨r,hr,rfl⟩:=Bw.mp hb;have h1:=yW hr
 have h2:=bXW r
 omega
theorem eQ2 (z:Str):bkZ z≠[]:=λe=>aXZ z (En.mp e)
def Tells (H:Hp) (r:Addr) (z:Str):Prop:=(bU z=false/\H r=some (.lst [.str (Str.ofString "text")]))\/
 (bU z=true/\∃ i:Nat,kE (bkZ z) i/\H r=some (.lst [.str (Str.ofString "book"),.int (i:Int)]))\/
 (bU z=true/\fF (bkZ z)/\∃ ps:List Addr,H r=some (.lst (.str (Str.ofString "good")::ps.map V.ref))/\ps.length=(bkZ z).length/\∀ (j:Nat) p b,ps[j]?=some p->(bkZ z)[j]?=some b->H p=some (.tup [.str b.1,.str b.2]))
theorem Tells.keep {H H':Hp} {r:Addr} {z:Str} (h:Tells H r z) (s:Same H H'):Tells H' r z:=by
 rcases h with ⟨a,b⟩ | ⟨a,i,b,c⟩ | ⟨a,b,ps,c,d,e⟩
 · exact .inl ⟨a,s _ _ b⟩
 · exact .inr (.inl ⟨a,i,b,s _ _ c⟩)
 · exact .inr (.inr ⟨a,b,ps,s _ _ c,d,λj p q hp hq=>s _ _ (e j p q hp hq)⟩)
theorem cZ5 {bk:List (Str×Str)} {i j:Nat} (h:kE bk i) (g:kE bk j):i=j:=by
 rcases Nat.lt_trichotomy i j with z | z | z
 · have:=g.2.2 i z; rw [h.2.1] at this; cases this
 · exact z
 · have:=h.2.2 j z; rw [g.2.1] at this; cases this
def mV (aT aB:Addr):Sp:=λvs H Q E=>∃ z:Str,vs=[.str z]/\z.length<=19000/\
 (bU z=true->fF (bkZ z)->∀ (r:Addr) (H':Hp),H r=none->Same H H'->BkAt H' r (bkZ z)->Q (.ref r) H')/\
 (bU z=false->∀ H',Same H H'->E (.ref aT) none H')/\
 (bU z=true->∀ i:Nat,kE (bkZ z) i->∀ (dx:Addr) (H':Hp),Same H H'->H' dx=some (xdO dx [("at",.int (i:Int))])->E (.ref aB) (some dx) H')
theorem sc_read_book:FnScope ["text", "rows", "book"] ["text"] (aE eT):=by walk_at "sc"
theorem vG {aTower Zz Zw aDesk Zx Zu Zv Zy Zt Zs:Addr} {f:Addr} {fd:FuncData} (F:Fun K "read_book" "read_book" eT f fd) (G:Gs K mg w aTower Zz Zw aDesk Zx Zu Zv Zy Zt Zs) (c_look_at:wN P w K mg base 4 "look_at" ["book"] (rQ Zu)):FnOk P w K mg base (CXr P w) 5 f fd ["text"] (mV Zv Zu):=by
 refine F.okX sc_read_book (λvs H Q E h=>?_) (λcdv A outer s H vs Q E hr h=>?_)
 · obtain ⟨z,rfl,_⟩:=h; rfl
 obtain ⟨z,rfl,hz,q,qt,qb⟩:=h;refine ⟨_,(@aH _ _ _ _ _ (mU (i:=1) sc_read_book.nd rfl (Or.inl rfl) rfl (cQ (bX Bb Df Dg lB (mv 0) (@aW _ _ _ _ _ _ aD))) (fL (N:=["row"]) (by decide +kernel) (by decide +kernel)) (by decide +kernel) rfl (by decide +kernel) (λC s₀ H₀ ex=>(bL (i:=0) (show List.Nodup (["row"]:List Str) by decide +kernel) rfl (Or.inl rfl))) (λC s₀ H₀ ex=>cN) (λC s₀ H₀ ex=>(bX Bb PySem.F.slot_str_partition PySem.F.type_str_partition yN (mv 0) (@aW _ _ _ _ _ _ aD)))) (@aH _ _ _ _ _ (bR (kR (dZ (bD (tE rfl) rfl G.b_all oM (aA (cM rfl (cQ (mv 1)) (fL (N:=["row"]) (by decide +kernel) (by decide +kernel)) (by decide +kernel) rfl (by decide +kernel) (λC s₀ H₀ ex=>(bL (i:=0) (show List.Nodup (["row"]:List Str) by decide +kernel) rfl (Or.inl rfl))) (λC s₀ H₀ ex=>cN) (λC s₀ H₀ ex=>(cG gG (bE bW (mv 0) aJ (λ_ _=>rfl)) bP (aR _)))) aD)))) (@aI _ _ _ (jB iB rfl rfl rfl G.c_NoText G.x_NoText By (@aW _ _ _ _ _ _ aD))) aU) (@aH _ _ _ _ _ (mU (i:=2) sc_read_book.nd rfl (Or.inl rfl) rfl (cQ (mv 1)) (fL (N:=["row"]) (by decide +kernel) (by decide +kernel)) (by decide +kernel) rfl (by decide +kernel) (λC s₀ H₀ ex=>(bL (i:=0) (show List.Nodup (["row"]:List Str) by decide +kernel) rfl (Or.inl rfl))) (λC s₀ H₀ ex=>cN) (λC s₀ H₀ ex=>(kK (aA (bE bW (mv 0) aJ (λ_ _=>rfl)) (aA (bE bW (mv 0) aJ (λ_ _=>rfl)) aD))))) (@aH _ _ _ _ _ (jH (lH c_look_at kZ hr (by decide) rfl (aA (mv 2) aD))) (@aI _ _ _ (aO (mv 2))))))),?_⟩
 have hcn:=xA z
 walk_at "go";refine kF (by decide) (by omega) λl hl=>?_
 have s1:=aF hl (.lst ((bV z).map V.str))
 have e1:rdL (upd H l (.lst ((bV z).map V.str))) l=some ((bV z).map V.str):=bH
 generalize upd H l (.lst ((bV z).map V.str))=H1 at s1 e1 ⊢;have hrl:((bV z).map V.str).length=(bV z).length:=Ab ..
 walk_at "go";refine yD (λj=>xK ((bV z).getD j Str.empty) (Str.ofString " ")) e1 (by rw [hrl]; exact bT (by omega)) (λi x Hc A B hx sm hA=>?_) (λD Hd ps hD sD hd hpl tp=>?_)
 · obtain ⟨y,hy,rfl⟩:=fR hx;have hyl:=yW (Ap hy)
   walk_at "go";refine ⟨Wk.set rfl (Wk.refl _),?_⟩;walk_at "go";refine cXQ (by decide) (by omega) λp hp=>?_
   refine hA p _ hp (aF hp _) ?_;rw [aG,Ak,hy];rfl
 · rw [hrl] at hpl tp;rw [rM (λr=>xK r (Str.ofString " ")) Str.empty (bV z)] at tp;have tat:∀ (j:Nat) p r,ps[j]?=some p->(bV z)[j]?=some r->Hd p=some (.tup [.str (Txt.partition r (Str.ofString " ")).1,.str (Txt.partition r (Str.ofString " ")).2.1,.str (Txt.partition r (Str.ofString " ")).2.2]):=λj p r hp hr=>(tp.2 j p _ hp (by rw [Af,hr]; rfl)).2
   have hpm:(ps.map V.ref).length=(bV z).length:=by rw [Ab,hpl]
   have rD:=aQ hd
   walk_at "go";refine fY (xs:=ps.map V.ref) (λj=>((bV z)[j]?).map λr=>V.bl (pK r)) rD (by rw [hpm]; exact bT (by omega)) (λj x Hc A B hx sc hA hB=>?_) (λD2 Hd2 hD2 sD2 hd2=>?_)
   · rw [Af] at hx;cases e:ps[j]? with
     | none=>rw [e] at hx; cases hx
     | some p=>
       rw [e] at hx;cases hx;have hj:j<(bV z).length:=by rw [<-hpl]; exact (Ae.mp e).1
       have er:(bV z)[j]?=some (bV z)[j]:=Aa hj
       have ht:=sc _ _ (tat j p _ e er)
       have hA2:=hA (.bl (pK (bV z)[j])) (by rw [er]; rfl)
       walk_at "go";refine ⟨Wk.set rfl (Wk.refl _),?_⟩;walk_at "go";refine gX ht (v:=.str (Txt.partition (bV z)[j] (Str.ofString " ")).2.1) rfl ?_;walk_at "go";exact hA2 _ (Same.refl _)
   · rw [hpm,dX,show (bV z).map (λr=>V.bl (pK r))=((bV z).map pK).map V.bl by rw [Cb]; rfl] at hd2
     have sm2:=sD.trans sD2
     have rD2:=aV sD2 rD
     walk_at "go";refine uM (aQ hd2) ?_;rw [show (((bV z).map pK).all id)=bU z by rw [Fo]; rfl]
     walk_at "go";cases ha:bU z with
     | false=>
       walk_at "go";exact ⟨by decide,qt ha _ (s1.trans sm2)⟩
     | true=>
       walk_at "go";refine yD (λj=>[.str (fX ((bV z).getD j Str.empty)).1,.str (fX ((bV z).getD j Str.empty)).2]) rD2 (by rw [hpm]; exact bT (by omega)) (λj x Hc A B hx sc hA=>?_) (λD3 Hd3 qs hD3 sD3 hd3 hql tq=>?_)
       · rw [Af] at hx;cases e:ps[j]? with
         | none=>rw [e] at hx; cases hx
         | some p=>
           rw [e] at hx;cases hx;have hj:j<(bV z).length:=by rw [<-hpl]; exact (Ae.mp e).1
           have er:(bV z)[j]?=some (bV z)[j]:=Aa hj
           have ht:=(sD2.trans sc) _ _ (tat j p _ e er)
           walk_at "go";refine ⟨Wk.set rfl (Wk.refl _),?_⟩;walk_at "go";refine gX ht (v:=.str (fX (bV z)[j]).1) rfl ?_;walk_at "go";refine gX ht (v:=.str (fX (bV z)[j]).2) rfl ?_;walk_at "go";refine ⟨by show 2<=sizeLine; decide,λpp hpp=>?_⟩
           refine hA pp _ hpp (aF hpp _) ?_;rw [aG,Ak,er];rfl
       · rw [hpm] at hql tq;rw [rM (λr=>[V.str (fX r).1,V.str (fX r).2]) Str.empty (bV z)] at tq;have hbk:BkAt Hd3 D3 (bkZ z):=⟨qs,hd3,by unfold bkZ; rw [hql,Ab],λj p b hp hb=>by
           unfold bkZ at hb;rw [Af] at hb;cases e:(bV z)[j]? with
           | none=>rw [e] at hb; cases hb
           | some r=>
             rw [e] at hb;cases hb;exact (tq.2 j p _ hp (by rw [Af,e]; rfl)).2⟩
         have s3:=s1.trans (sm2.trans sD3)
         walk_at "go";refine ⟨D3,bkZ z,rfl,hbk,bXV hz,λ_ hok H4 s4=>?_,λi hb dx H' s' hx=>?_,λe=>absurd e (eQ2 z)⟩
         · walk_at "go";exact q ha hok D3 H4 (none_of (s1.trans sm2) hD3) (s3.trans s4) (hbk.keep s4)
         · exact qb ha i hb dx H' (s3.trans s') hx
def fB (c:Nat):Str:=if cT c then one c++Str.ofString "x" else one c
instance (c:Nat):Decidable (cT c):=by unfold cT; exact inferInstance
def jY (n:Int):Str:=Str.ofString (toString n)
def nG (n:Nat->Int) (c:Nat):Str:=fB c++jY (n c)
def bXN (n:Nat->Int):Str:=Txt.join (Str.ofString " ") ((aZ n 27).map (nG n))
theorem rB (c:Nat):1<=(fB c).length/\(fB c).length<=2:=by
 unfold fB;by_cases h:cT c
 · rw [if_pos h,Cu]; exact ⟨by show 1<=1+1; decide,by show 1+1<=2; decide⟩
 · rw [if_neg h]; exact ⟨by show 1<=1; decide,by show 1<=2; decide⟩
def lY:Sp:=λvs H Q _=>∃ c,vs=[.str (one c)]/\Q (.str (fB c)) H
theorem aQB:FnScope ["flag"] ["flag"] (aE gI):=by walk_at "sc"
theorem aQ1 {aTower Zz Zw aDesk Zx Zu Zv Zy Zt Zs:Addr} {f:Addr} {fd:FuncData} (F:Fun K "mark_of" "mark_of" gI f fd) (G:Gs K mg w aTower Zz Zw aDesk Zx Zu Zv Zy Zt Zs)  : FnOk P w K mg base CX0 1 f fd ["flag"] lY:=by
 refine F.ok aQB (λvs H Q E h=>?_) (λcdv A outer s H vs Q E hr h=>?_)
 · obtain ⟨c,rfl,_⟩:=h; rfl
 obtain ⟨c,rfl,q⟩:=h;refine ⟨_,(@aH _ _ _ _ _ (bR (bB tM (mv 0) (dJ rfl G.s_SUBSTITUTES) (by rfl)) (@aI _ _ _ (aO (bF dW (mv 0) bP))) aU) (@aI _ _ _ (aO (mv 0)))),?_⟩
 have h1l:(one c).length=1:=rfl
 have o1:(Str.ofString "x").length=1:=rfl
 walk_at "go";rw [show subIn (one c) (Str.ofString "1234")=decide (cT c) from lX c];unfold fB at q;refine jZ (λhd=>?_) (λhd=>?_)
 · rw [if_pos (Az hd)] at q;walk_at "go";exact q
 · rw [if_neg (Bp (Bq.mpr hd))] at q;walk_at "go";exact q
theorem aZ0:∀ k:_root_.Fin 99,(jY ((k.val:Int)+1)).length<=2/\PySem.intText? (jY ((k.val:Int)+1))=some ((k.val:Int)+1)/\32 ∉ (jY ((k.val:Int)+1)).cps.toList:=by decide +kernel
theorem pW {n:Int} (h1:1<=n) (h2:n<=99):(jY n).length<=2/\PySem.intText? (jY n)=some n/\32 ∉ (jY n).cps.toList:=by
 have r:=aZ0 ⟨(n - 1).toNat,by omega⟩
 rw [show (((n - 1).toNat:Nat):Int)+1=n by omega] at r
 exact r
def jV:Sp:=λvs H Q _=>∃ (a:Addr) (kvs:List (Key×V)) (f:Nat->Option Int),vs=[.ref a]/\Rd H a (.dK kvs)/\Lk kvs f/\(∀ c,cntF f c<=99)/\∀ H',Same H H'->Q (.str (bXN (cntF f))) H'
theorem bX5 {n:Nat->Int} (hn:∀ c,n c<=99):∀ z∈(aZ n 27).map (nG n),z.length<=4:=λz hz=>by
 obtain ⟨c,hc,rfl⟩:=Bw.mp hz;have p:=(plainL_mem.mp hc).2
 have r:=pW (n:=n c) (by omega) (hn c)
 have m:=rB c
 unfold nG;rw [Cu];omega
theorem bJ4 {n:Nat->Int} (hn:∀ c,n c<=99):(((aZ n 27).map (nG n)).map (·.length)).sum+((aZ n 27).map (nG n)).length * (Str.ofString " ").length<=16777216:=by
 have r1:(((aZ n 27).map (nG n)).map (·.length)).sum<=4 * (((aZ n 27).map (nG n)).map (·.length)).length:=aXF λx hx=>by
   obtain ⟨z,hz,rfl⟩:=Bw.mp hx;exact bX5 hn z hz
 rw [Ab,Ab] at r1;rw [Ab,show (Str.ofString " ").length=1 from rfl];have:=jO n 27
 omega
theorem sc_shown_locker:FnScope ["locker", "plain"] ["locker"] (aE cL):=by walk_at "sc"
theorem pI {aTower Zz Zw aDesk Zx Zu Zv Zy Zt Zs:Addr} {f:Addr} {fd:FuncData} (F:Fun K "shown_locker" "shown_locker" cL f fd) (G:Gs K mg w aTower Zz Zw aDesk Zx Zu Zv Zy Zt Zs) (c_plain_locker:Cal P w K mg base 1 "plain_locker" ["locker"] dN) (c_mark_of:Cal P w K mg base 1 "mark_of" ["flag"] lY):FnOk P w K mg base CX0 2 f fd ["locker"] jV:=by
 refine F.ok sc_shown_locker (λvs H Q E h=>?_) (λcdv A outer s H vs Q E hr h=>?_)
 · obtain ⟨a,kvs,f,rfl,_⟩:=h; rfl
 obtain ⟨a,kvs,f,rfl,ha,lk,h99,q⟩:=h;refine ⟨_,(@aH _ _ _ _ _ (@bI _ _ 1 _ _ _ _ sc_shown_locker.nd (by rfl) (by exact (Or.inr rfl)) (bA c_plain_locker hr (by decide) rfl (aA (mv 0) aD)) (by rfl) (by walk_at "o")) (@aI _ _ _ (aO (bX Bb Ci Cj kH bP (aA (dZU (cM rfl (cQQ (mv 1)) (uI (N:=["flag", "plain"]) ["locker", "plain"] (aE cL) [none,some 1] rfl rfl rfl (λx h=>fW h) (by decide +kernel)) (by decide +kernel) rfl (by decide +kernel) (λC s₀ H₀ ex=>(bL (i:=0) (show List.Nodup (["flag", "plain"]:List Str) by decide +kernel) rfl (Or.inl rfl))) (λC s₀ H₀ ex=>cN) (λC s₀ H₀ ex=>(bF dW (bA c_mark_of hr (by decide) rfl (aA (mv 0) aD)) (cA cJ7 rfl G.b_str aQ4 (aA (aZF (Room.u1 hr) (mv 1) (mv 0) (λ_ _=>rfl)) aD)))))) aD))))),?_⟩
 walk_at "go";refine ⟨a,kvs,f,rfl,ha,lk,λr H1 hr s1 e1=>?_⟩;walk_at "go";refine dQP e1 λo=>?_;have fz:(upd H1 r (.frz o (.dK (kvL (cntF f) (aZ (cntF f) 27))))) r=_:=aG
 have kl:(kvL (cntF f) (aZ (cntF f) 27)).length=(aZ (cntF f) 27).length:=by unfold kvL; rw [Ab]
 have pl:=jO (cntF f) 27
 refine nS (n:=(aZ (cntF f) 27).length) (λD i ys Hc=>Same (upd H1 r (.frz o (.dK (kvL (cntF f) (aZ (cntF f) 27))))) Hc/\ys=(((aZ (cntF f) 27).take i).map (nG (cntF f))).map V.str) (bT (by omega)) (λD hD=>⟨aF hD _,rfl⟩) (λD i ys Hc _ r h=>⟨r.1 _ _ fz,by omega⟩) (λD ys Hc _ r=>⟨r.1 _ _ fz,kl⟩) ?_ ?_
 · rintro D i ys Hc x H' A B hD hi ⟨sm,rfl⟩ hDc ⟨rfl,kv,hkv,rfl⟩ hA hB;have ec:(aZ (cntF f) 27)[i]?=some (aZ (cntF f) 27)[i]:=Aa hi
   have hm:=Ap ec
   unfold kvL at hkv;rw [Af,ec] at hkv;cases hkv;have hp:=(plainL_mem.mp hm).2
   have n9:=h99 (aZ (cntF f) 27)[i]
   have gv:eC (kvL (cntF f) (aZ (cntF f) 27)) (Sum.inr (one (aZ (cntF f) 27)[i]))=some (.int (cntF f (aZ (cntF f) 27)[i])):=by
     rw [(iU (cntF f)).val];unfold cW;have mm:=plainL_mem.mp hm
     rw [if_pos ⟨flags_mem.mp (List.mem_of_mem_take mm.1),mm.2⟩];rfl
   have tk:((aZ (cntF f) 27).take (i+1))=(aZ (cntF f) 27).take i++[(aZ (cntF f) 27)[i]]:=by rw [Bt,ec]; rfl
   rw [tk] at hA;generalize (aZ (cntF f) 27)[i]=c at hp n9 gv hA;have nk:=pW (n:=cntF f c) (by omega) n9
   have mk:=rB c
   dsimp only [kV];walk_at "go";refine ⟨Wk.set rfl (Wk.refl _),?_⟩;walk_at "go";refine ⟨c,rfl,?_⟩;walk_at "go";refine bZU (z:=one c) (.inr ⟨o,sm _ _ fz⟩) gv ?_;walk_at "go"
   refine s_str (by have : (cntF f c).natAbs ≤ 99 := by omega
                    exact Nat.lt_of_le_of_lt (Nat.log2_le_self _) (by omega)) ?_
   refine bZB (bQ (by show (fB c).length+(jY (cntF f c)).length<=_; omega)) ?_
   refine hA _ _ hDc ⟨eJ hD sm,?_⟩;rw [Bi,Bi];rfl
 · rintro D ys Hc hD ⟨sm,rfl⟩ hDc _;rw [Ed] at hDc;have su:=bZ3 e1 (λo v z=>nomatch z) sm
   have eu:=oI (Hs:=H1) hDc (λo v z=>nomatch z)
   generalize unf H1 Hc=Hu at su eu;walk_at "go";refine mG (ss:=(aZ (cntF f) 27).map (nG (cntF f))) (aQ eu) (bJ4 h99) ?_;exact q _ (s1.trans su)
def iC:Sp:=λvs H Q _=>∃ (a:Addr) (ys:List V) (hs:List (Option (List Nat))),vs=[.ref a]/\rdL H a=some ys/\HalsAt H ys hs/\oV hs/\hs.length<=6/\∀ H',Same H H'->Q (.str (Txt.join ⟨#[32]⟩ (hs.map sN))) H'
theorem cXM {hs:List (Option (List Nat))} (ok:oV hs) (h6:hs.length<=6):((hs.map sN).map (·.length)).sum+(hs.map sN).length * (Str.ofString " ").length<=16777216:=by
 have hl:∀ L:List Str,(∀ z∈L,z.length<=7)->(L.map (·.length)).sum<=7 * L.length:=λL h=>by
   induction L with
   | nil=>exact Ag _
   | cons u v ih=>
     have h1:=h u Ai
     have h2:=ih λx hx=>h x (Ah _ hx)
     rw [Aw,Gw,Be];omega
 have r:=hl (hs.map sN) λz hz=>(cZ3 ok z hz).1
 rw [Ab] at r ⊢;rw [show (Str.ofString " ").length=1 from rfl];omega
theorem mS:FnScope ["halyards"] ["halyards"] (aE cJ):=by walk_at "sc"
theorem mW {aTower Zz Zw aDesk Zx Zu Zv Zy Zt Zs:Addr} {f:Addr} {fd:FuncData} (F:Fun K "shown_halyards" "shown_halyards" cJ f fd) (G:Gs K mg w aTower Zz Zw aDesk Zx Zu Zv Zy Zt Zs)  : FnOk P w K mg base CX0 1 f fd ["halyards"] iC:=by
 refine F.ok mS (λvs H Q E h=>?_) (λcdv A outer s H vs Q E hr h=>?_)
 · obtain ⟨a,ys,hs,rfl,_⟩:=h; rfl
 obtain ⟨a,ys,hs,rfl,ha,hat,ok,h6,q⟩:=h;refine ⟨_,(@aI _ _ _ (aO (bX Bb Ci Cj kH bP (aA (cM rfl (cQ (mv 0)) (fL (N:=["hoist"]) (by decide +kernel) (by decide +kernel)) (by decide +kernel) rfl (by decide +kernel) (λC s₀ H₀ ex=>(bL (i:=0) (show List.Nodup (["hoist"]:List Str) by decide +kernel) rfl (Or.inl rfl))) (λC s₀ H₀ ex=>cN) (λC s₀ H₀ ex=>(kC (bB aZO (mv 0) fE (aR _)) (dJ rfl G.s_BARE) (bX Bb Ci Cj kH bP (aA (mv 0) aD))))) aD)))),?_⟩
 walk_at "go";refine fY (λi=>(hs[i]?).map λh=>V.str (sN h)) ha (bT (by rw [hat.len]; omega)) (λi x Hc A B hx sm hA hB=>?_) (λD Hd hD sd hr=>?_)
 · obtain ⟨h,hh,hv⟩:=hat.at hx;have r:=hA (.str (sN h)) (by rw [hh]; rfl)
   walk_at "go";refine ⟨Wk.set rfl (Wk.refl _),?_⟩;cases h with
   | none=>
     rw [show x=.non from hv];walk_at "go";rw [show decide (V.non=V.non)=true from rfl];walk_at "go";exact r _ (Same.refl _)
   | some cs=>
     obtain ⟨p,rfl,hp⟩:=hv;have hp2:=sm _ _ hp
     have h7:=jE (ok cs (Ap hh))
     rw [Ab] at h7;walk_at "go";rw [show decide (V.ref p=V.non)=false from Au (λz=>nomatch z)]
     walk_at "go";refine mG (aQ hp2) (by rw [bJ0,Ab,show (Str.ofString "").length=0 from rfl]; omega) ?_
     rw [bQF];exact r _ (Same.refl _)
 · have e:(List.range ys.length).filterMap (λi=>(hs[i]?).map λh=>V.str (sN h))=(hs.map sN).map V.str:=by
     rw [hat.len,Cb];exact dX _ hs
   rw [e] at hr;walk_at "go";refine mG (aQ hr) (cXM ok h6) ?_;exact q _ sd
def wds (z:Str):List (List Nat):=(Txt.split z ⟨#[32]⟩).map λy=>y.cps.toList
theorem bZZ:∀ (L:List (List Nat)) (t:List Nat),t∈L->t.length<=(jc L).length
 | [],_,h=>nomatch h
 | [u],t,h=>by rw [Am.mp h]; exact Ag _
 | u::v::r,t,h=>by
   show t.length<=(u++32::jc (v::r)).length
   rw [Aj,Be];rcases Bd.mp h with e | e
   · rw [e]; omega
   · have:=bZZ (v::r) t e
     omega
theorem bZA:∀ L:List (List Nat),L.length<=(jc L).length+1
 | []=>Dv _
 | [u]=>by show 1<=_; omega
 | u::v::r=>by
   show _<=(u++32::jc (v::r)).length+1
   rw [Aj,Be];have:=bZA (v::r)
   rw [Be] at this ⊢;rw [Be];omega
theorem bZ8 (z:Str):jc (wds z)=z.cps.toList:=by
 have e:=Dm (λx:Str=>x.cps.toList) (Dr z ⟨#[32]⟩)
 rw [pR] at e;exact e
theorem cZC {z:Str} {w:List Nat} (h:w∈wds z):w.length<=z.length:=by
 have:=bZZ (wds z) w h
 rw [bZ8,dF] at this;exact this
theorem cX0 (z:Str):(wds z).length<=z.length+1:=by
 have:=bZA (wds z)
 rw [bZ8,dF] at this;exact this
theorem bJG (z:Str):(Txt.split z ⟨#[32]⟩).map V.str=((wds z).map cB).map V.str:=by
 unfold wds;rw [Cb,Cb];exact Fs λy _=>rfl
theorem aJL:∀ xs:List V,xs.all bO=true->hJ xs xs=true:=λxs h=>by
 rw [iT rfl,As];intro i hi;have f:=iO h i
 generalize xs.getD i .non=x at f ⊢;cases x with
 | non=>rfl
 | bl b=>show (b == b)=true; simp
 | int i=>show (i == i)=true; simp
 | str z=>show (z == z)=true; simp
 | _=>cases f
theorem aZ8 (xs ys:List Str):hJ (xs.map V.str) (ys.map V.str)=decide (xs=ys):=by
 by_cases e:xs=ys
 · subst e;rw [aJL _ (cR _),Aq rfl]
 · rw [Au e];by_cases hl:xs.length=ys.length
   · cases h:hJ (xs.map V.str) (ys.map V.str) with
     | false=>rfl
     | true=>
       rw [iT (by rw [Ab,Ab,hl]),As,Ab] at h
       refine absurd (List.ext_getElem hl λj h1 h2=>?_) e;have q:=h j (Bg.mpr h1)
       rw [Ak,Ak,Af,Af,Aa h1,Aa h2] at q;have q2:(xs[j] == ys[j])=true:=q
       exact eq_of_beq q2
   · exact rO (by rw [Ab,Ab]; exact hl)
def uW (n:Int):List Nat:=(jY n).cps.toList
def kM (c:Nat):List Nat:=if cT c then [c,120] else [c]
theorem jN (c:Nat):(fB c).cps.toList=kM c:=by
 unfold fB kM;by_cases h:cT c
 · rw [if_pos h,if_pos h,FlT.app_cps]; rfl
 · rw [if_neg h,if_neg h]
def PartIs (w:List Nat) (x:Nat×Int):Prop:=nY x.1/\1<=x.2/\x.2<=99/\w=kM x.1++uW x.2
theorem cZD {m n:Int} (h1:1<=m) (h2:m<=99) (h3:1<=n) (h4:n<=99) (h:uW m=uW n):m=n:=by
 have e:jY m=jY n:=FlT.str_ext h
 have a:=(pW h1 h2).2.1
 rw [e,(pW h3 h4).2.1] at a;exact (Bm a).symm
theorem qF (c:Nat):∃ r,kM c=c::r:=by
 unfold kM;by_cases h:cT c
 · rw [if_pos h]; exact ⟨_,rfl⟩
 · rw [if_neg h]; exact ⟨_,rfl⟩
theorem PartIs.inj {w:List Nat} {x y:Nat×Int} (h:PartIs w x) (g:PartIs w y):x=y:=by
 obtain ⟨c,m⟩:=x;obtain ⟨d,n⟩:=y;obtain ⟨_,h1,h2,e⟩:=h;obtain ⟨_,g1,g2,e'⟩:=g;dsimp only at *;rw [e] at e';obtain ⟨r,er⟩:=qF c;obtain ⟨r',er'⟩:=qF d;have hcd:c=d:=by
   have:=Dm List.head? e'
   rw [er,er'] at this;exact Bm this
 subst hcd;have:=List.append_cancel_left e'
 rw [cZD h1 h2 g1 g2 this]
def Parts (ws:List (List Nat)) (xs:List (Nat×Int)):Prop:=ws.length=xs.length/\∀ (j:Nat) w x,ws[j]?=some w->xs[j]?=some x->PartIs w x
theorem Parts.inj {ws:List (List Nat)} {xs ys:List (Nat×Int)} (h:Parts ws xs) (g:Parts ws ys):xs=ys:=by
 refine List.ext_getElem (h.1.symm.trans g.1) λj h1 h2=>?_;have hw:j<ws.length:=by rw [h.1]; exact h1
 exact (h.2 j _ _ (Aa hw) (Aa h1)).inj (g.2 j _ _ (Aa hw) (Aa h2))
theorem Parts.nil:Parts [] []:=⟨rfl,λj w x h=>nomatch h⟩
theorem Parts.take {ws:List (List Nat)} {xs:List (Nat×Int)} (h:Parts ws xs) (i:Nat):Parts (ws.take i) (xs.take i):=by
 refine ⟨by rw [Ba,Ba,h.1],λj w x hw hx=>?_⟩
 rw [List.getElem?_take] at hw hx;by_cases hj:j<i
 · rw [if_pos hj] at hw hx;exact h.2 j w x hw hx
 · rw [if_neg hj] at hw;cases hw
theorem Parts.snoc {ws:List (List Nat)} {xs:List (Nat×Int)} {i:Nat} {w:List Nat} {x:Nat×Int} (h:Parts (ws.take i) xs) (hw:ws[i]?=some w) (p:PartIs w x):Parts (ws.take (i+1)) (xs++[x]):=by
 have hi:i<ws.length:=(Ae.mp hw).1
 have hxl:xs.length=i:=by rw [<-h.1,Ba]; omega
 rw [Bt,hw];refine ⟨by rw [Aj,Aj,h.1]; rfl,λj u y hu hy=>?_⟩
 by_cases hj:j<i
 · rw [Bh (by rw [Ba]; omega)] at hu
   rw [Bh (by omega)] at hy
   exact h.2 j u y hu hy
 · have e:j=i:=by
     have:=(Ae.mp hy).1
     rw [Aj] at this;have:j<xs.length+1:=this
     omega
   subst e;rw [Bl (by rw [Ba]; omega),Ba,show j - min j ws.length=0 by omega] at hu
   rw [Bl (by omega),hxl,Gm] at hy
   cases hu;cases hy;exact p
def plc (c:Nat):Nat:=if cT c then c - 49+23 else c - 97
def Ord (xs:List (Nat×Int)):Prop:=xs.Pairwise λx y=>plc x.1<plc y.1
def LockIs (z:Str) (xs:List (Nat×Int)):Prop:=(z=Str.ofString ""/\xs=[])\/(z≠Str.ofString ""/\Parts (wds z) xs/\Ord xs)
def kB (z:Str):Prop:=z≠Str.ofString ""/\∀ xs,Parts (wds z) xs->¬ Ord xs
theorem LockIs.not {z:Str} {xs:List (Nat×Int)} (h:LockIs z xs) (n:kB z):False:=by
 rcases h with ⟨e,_⟩ | ⟨_,p,o⟩
 · exact n.1 e
 · exact n.2 xs p o
theorem LockIs.inj {z:Str} {xs ys:List (Nat×Int)} (h:LockIs z xs) (g:LockIs z ys):xs=ys:=by
 rcases h with ⟨e,rfl⟩ | ⟨n,p,o⟩
 · rcases g with ⟨_,rfl⟩ | ⟨m,_⟩
   · rfl
   · exact absurd e m
 · rcases g with ⟨e,_⟩ | ⟨_,p',_⟩
   · exact absurd e n
   · exact p.inj p'
def fOf (xs:List (Nat×Int)):Nat->Option Int:=xs.foldl (λf x d=>if d=x.1 then some x.2 else f d) λ_=>none
def kvX (xs:List (Nat×Int)):List (Key×V):=xs.map λx=>(Sum.inr (one x.1),V.int x.2)
theorem Lk.mergeX:∀ (xs:List (Nat×Int)) (kv:List (Key×V)) (f0:Nat->Option Int),Lk kv f0->Lk (mJ kv (kvX xs)) (xs.foldl (λf x d=>if d=x.1 then some x.2 else f d) f0)
 | [],kv,f0,h=>h
 | x::r,kv,f0,h=>Lk.mergeX r _ _ (h.put x.1 x.2)
theorem plc_flags:(flagsT.cps.toList).Pairwise λc d=>plc c<plc d:=by decide +kernel
theorem sR:∀ (L M:List Nat),L.Pairwise (λc d=>plc c<plc d)->M.Pairwise (λc d=>plc c<plc d)->(∀ c,c∈L ↔ c∈M)->L=M
 | [],[],_,_,_=>rfl
 | [],d::M,_,_,h=>absurd ((h d).mpr Ai) (λz=>nomatch z)
 | c::L,[],_,_,h=>absurd ((h c).mp Ai) (λz=>nomatch z)
 | c::L,d::M,h1,h2,h=>by
   have p1:=List.pairwise_cons.mp h1
   have p2:=List.pairwise_cons.mp h2
   have e:c=d:=by
     rcases Bd.mp ((h c).mp Ai) with z | z
     · exact z
     · rcases Bd.mp ((h d).mpr Ai) with y | y
       · exact y.symm
       · have:=p2.1 c z
         have:=p1.1 d y
         omega
   subst e;refine Dm _ (sR L M p1.2 p2.2 λx=>⟨λhx=>?_,λhx=>?_⟩)
   · rcases Bd.mp ((h x).mp (Ah _ hx)) with z | z
     · rw [z] at hx;have:=p1.1 c hx
       omega
     · exact z
   · rcases Bd.mp ((h x).mpr (Ah _ hx)) with z | z
     · rw [z] at hx;have:=p2.1 c hx
       omega
     · exact z
theorem cQN {cs:List Nat} (hf:∀ c∈cs,nY c):cs=flagsT.cps.toList.filter (λc=>decide (c∈cs)) ↔ cs.Pairwise λc d=>plc c<plc d:=by
 constructor
 · intro e;rw [e];exact plc_flags.filter _
 · intro h;refine sR _ _ h (plc_flags.filter _) λc=>?_;rw [List.mem_filter,Da];exact ⟨λhc=>⟨flags_mem.mpr (hf c hc),hc⟩,λhc=>hc.2⟩
theorem cQW {xs:List (Nat×Int)}:(xs.map (·.1)).Pairwise (λc d=>plc c<plc d) ↔ Ord xs:=by
 unfold Ord;rw [List.pairwise_map]
theorem aZT (z:Str):∀ zs:List Str,inV (.str z) (zs.map V.str)=decide (z∈zs)
 | []=>rfl
 | y::r=>by
   rw [Aw];show ((y == z) || inV (.str z) (r.map V.str))=_
   rw [aZT z r];by_cases e:y=z
   · subst e;simp
   · have:(y == z)=false:=by simpa using e
     rw [this,Bool.false_or];exact Eu.mpr ⟨λh=>Ah _ h,λh=>(Bd.mp h).elim (λx=>absurd x.symm e) id⟩
def vR (u:Str):Bool:=decide (u∈(List.range 99).map λi:Nat=>jY (1+(i:Int)))
theorem isNum_iff {u:Str}:vR u=true ↔ ∃ n:Int,1<=n/\n<=99/\u=jY n:=by
 unfold vR;rw [Da,Bw];constructor
 · rintro ⟨i,hi,rfl⟩;have:=Bg.mp hi
   exact ⟨1+(i:Int),by omega,by omega,rfl⟩
 · rintro ⟨n,h1,h2,rfl⟩;exact ⟨(n - 1).toNat,Bg.mpr (by omega),by rw [show 1+(((n - 1).toNat:Nat):Int)=n by omega]⟩
def mQ:Sp:=λvs H Q _=>∃ u:Str,vs=[.str u]/\∀ H',Same H H'->Q (.bl (vR u)) H'
theorem wB:FnScope ["text"] ["text"] (aE eQ):=by walk_at "sc"
theorem vX {aTower Zz Zw aDesk Zx Zu Zv Zy Zt Zs:Addr} {f:Addr} {fd:FuncData} (F:Fun K "is_number" "is_number" eQ f fd) (G:Gs K mg w aTower Zz Zw aDesk Zx Zu Zv Zy Zt Zs)  : FnOk P w K mg base CX0 1 f fd ["text"] mQ:=by
 refine F.ok wB (λvs H Q E h=>?_) (λcdv A outer s H vs Q E hr h=>?_)
 · obtain ⟨u,rfl,_⟩:=h; rfl
 obtain ⟨u,rfl,q⟩:=h;refine ⟨_,(@aI _ _ _ (aO (cG aZH (mv 0) (cM rfl (aZY rfl G.b_range (aA aJ (aA (bF dW (gD rfl G.s_MOST_OF_A_FLAG) aJ) aD))) (fL (N:=["number"]) (by decide +kernel) (by decide +kernel)) (by decide +kernel) rfl (by decide +kernel) (λC s₀ H₀ ex=>(bL (i:=0) (show List.Nodup (["number"]:List Str) by decide +kernel) rfl (Or.inl rfl))) (λC s₀ H₀ ex=>cN) (λC s₀ H₀ ex=>(cA cJ7 rfl G.b_str aQ4 (aA (mv 0) aD)))) (by rfl)))),?_⟩
 walk_at "go";refine ⟨⟨by omega,by omega,by omega,by omega⟩,?_⟩
 rw [show ((99:Int)+1 - 1).toNat=99 from rfl];refine aJU (λi=>some (.str (jY (1+(i:Int))))) (bT (by omega)) (λi Hc A B hi sm hA=>?_) (λD Hd hD sD hd=>?_)
 · have r:=hA _ (Same.refl _)
   walk_at "go";refine ⟨Wk.set rfl (Wk.refl _),?_⟩;walk_at "go"
   refine s_str (by have : (1 + (i : Int)).natAbs ≤ 99 := by omega
                    exact Nat.lt_of_le_of_lt (Nat.log2_le_self _) (by omega)) ?_
   exact r
 · rw [jI,show (List.range 99).map (λi:Nat=>V.str (jY (1+(i:Int))))=((List.range 99).map λi:Nat=>jY (1+(i:Int))).map V.str by rw [Cb]; rfl] at hd
   walk_at "go";refine zE (neg:=false) (aQ hd) rfl (cR _) ?_;rw [aZT];exact q _ sD
def nN (aC:Addr):Sp:=λvs H Q E=>∃ w:List Nat,vs=[.str (cB w)]/\w.length<=900/\(∀ (x:Nat×Int) (r:Addr) (H':Hp),PartIs w x->H r=none->Same H H'->H' r=some (.tup [.str (one x.1),.int x.2])->Q (.ref r) H')/\((∀ x,¬ PartIs w x)->∀ H',Same H H'->E (.ref aC) none H')
theorem cZW {w:List Nat} {d:Nat} {n:Int} (hd:nY d) (h1:1<=n) (h2:n<=99) (hp:Txt.startswith (cB w) (fB d)=true) (hn:cB (w.drop (fB d).length)=jY n):PartIs w (d,n):=by
 refine ⟨hd,h1,h2,?_⟩;obtain ⟨r,er⟩:=starts_iff.mp hp;rw [jN,bZ] at er;have e1:(fB d).length=(kM d).length:=by rw [<-jN,dF]
 rw [e1,<-er,List.drop_left] at hn;rw [<-er];show _=kM d++uW n
 unfold uW;rw [<-hn,bZ]
theorem oW {w:List Nat} {d:Nat} {n:Int} (h:PartIs w (d,n)):Txt.startswith (cB w) (fB d)=true/\cB (w.drop (fB d).length)=jY n:=by
 obtain ⟨_,_,_,e⟩:=h;have e:w=kM d++uW n:=e
 have e1:(fB d).length=(kM d).length:=by rw [<-jN,dF]
 refine ⟨starts_iff.mpr ⟨uW n,by rw [jN,bZ,e]⟩,?_⟩
 rw [e1,e,List.drop_left];exact FlT.str_ext rfl
theorem sc_read_some:FnScope ["text", "flag", "number"] ["text"] (aE eV):=by walk_at "sc"
theorem vJ {aTower Zz Zw aDesk Zx Zu Zv Zy Zt Zs:Addr} {f:Addr} {fd:FuncData} (F:Fun K "read_some" "read_some" eV f fd) (G:Gs K mg w aTower Zz Zw aDesk Zx Zu Zv Zy Zt Zs) (c_is_number:Cal P w K mg base 1 "is_number" ["text"] mQ) (c_mark_of:Cal P w K mg base 1 "mark_of" ["flag"] lY):FnOk P w K mg base (CXr P w) 2 f fd ["text"] (nN Zv):=by
 refine F.okX sc_read_some (λvs H Q E h=>?_) (λcdv A outer s H vs Q E hr h=>?_)
 · obtain ⟨w,rfl,_⟩:=h; rfl
 obtain ⟨w,rfl,hwl,q,qe⟩:=h;refine ⟨_,(@aH _ _ _ _ _ (PS.nox (mD Fe rfl (nW (dJ rfl G.s_FLAGS)) (bL (i:=1) sc_read_some.nd rfl (Or.inl rfl)) (@aH _ _ _ _ _ (@bI _ _ 2 _ _ _ _ sc_read_some.nd (by rfl) (by exact (Or.inl rfl)) (gZ aXI (mv 0) (jM (bD fI rfl G.b_len dC (aA (bA c_mark_of hr (by decide) rfl (aA (mv 1) aD)) aD))) jF) (by rfl) (by walk_at "o")) (@aI _ _ _ (bR (PW.pt (dZP (dZ (bX Bb PySem.F.slot_str_startswith PySem.F.type_str_startswith bQ9 (mv 0) (aA (bA c_mark_of hr (by decide) rfl (aA (mv 1) aD)) aD))) (cZX (dZ (bA c_is_number hr (by decide) rfl (aA (mv 2) aD)))))) (@aI _ _ _ (aO (kK (aA (mv 1) (aA (cA bJZ rfl G.b_int pV (aA (mv 2) aD)) aD))))) aU))))) (@aI _ _ _ (jB iB rfl rfl rfl G.c_NoText G.x_NoText By (@aW _ _ _ _ _ _ aD)))),?_⟩
 have hsl:(cB w).length=w.length:=fG w
 walk_at "go";refine bQQ (λi σ H'=>∃ (v1 v2:Option V),σ=[some (.str (cB w)),v1,v2]/\Same H H'/\∀ c∈flagsT.cps.toList.take i,∀ n,¬ PartIs w (c,n)) ⟨_,_,rfl,Same.refl _,λc z=>nomatch z⟩ ?_ ?_
 · rintro i d σ H2 hd ⟨v1,v2,rfl,s2,hni⟩;have md:=rB d
   have hfd:nY d:=flags_mem.mp (Ap hd)
   have next:∀ H3,Same H H3->(∀ n,¬ PartIs w (d,n))->∀ (a b:Option V),∃ (v1 v2:Option V),[some (.str (cB w)),a,b]=[some (V.str (cB w)),v1,v2]/\Same H H3/\∀ c∈flagsT.cps.toList.take (i+1),∀ n,¬ PartIs w (c,n):=λH3 s3 hn a b=>⟨a,b,rfl,s3,λc hc n=>by
     rw [Bt,hd] at hc;rcases Co.mp hc with z | z
     · exact hni c z n
     · rw [Am.mp z]; exact hn n⟩
   walk_at "go";refine ⟨d,rfl,?_⟩;walk_at "go";rw [aQ6 (by omega),show (((fB d).length:Nat):Int).toNat=(fB d).length from Int.toNat_natCast _]
   walk_at "go";refine ⟨d,rfl,?_⟩;walk_at "go";cases hst:Txt.startswith (cB w) (fB d) with
   | false=>
     refine wV hst ?_;walk_at "go";exact next _ s2 (λn p=>by rw [(oW p).1] at hst; cases hst) _ _
   | true=>
     refine wV hst ?_;walk_at "go";refine ⟨_,rfl,λH3 s3=>?_⟩;cases hnb:vR (cB (w.drop (fB d).length)) with
     | false=>
       walk_at "go";refine next _ (s2.trans s3) (λn p=>?_) _ _;rw [isNum_iff.mpr ⟨n,p.2.1,p.2.2.1,(oW p).2⟩] at hnb;cases hnb
     | true=>
       obtain ⟨n,h1,h2,en⟩:=isNum_iff.mp hnb;have hp:=cZW hfd h1 h2 hst en
       rw [en];obtain ⟨nl,nt,nf⟩:=pW h1 h2;walk_at "go";refine aQ5 nt (by omega) ?_
       walk_at "go";refine ⟨by show 2<=sizeLine; decide,λp hpp=>?_⟩
       exact q (d,n) p _ hp (none_of (s2.trans s3) hpp) (s2.trans (s3.trans (aF hpp _))) aG
 · rintro σ H2 ⟨v1,v2,rfl,s2,hni⟩;rw [Bf (Ag _)] at hni;walk_at "go";exact ⟨by decide,qe (λx p=>hni x.1 (flags_mem.mpr p.1) x.2 p) _ s2⟩
def cZN (x:Nat×Int):List V:=[V.str (one x.1),V.int x.2]
theorem zC {H1 H:Hp} {ps:List Addr} {xs:List (Nat×Int)} (t:Tups H1 H ps (xs.map cZN)):pS H ps (kvX xs):=by
 refine ⟨by rw [t.1,Ab]; unfold kvX; rw [Ab],λj q kv hq hkv=>?_⟩
 unfold kvX at hkv;rw [Af] at hkv;cases e:xs[j]? with
 | none=>rw [e] at hkv; cases hkv
 | some x=>
   rw [e] at hkv;cases hkv;exact (t.2 j q (cZN x) hq (by rw [Af,e]; rfl)).2
theorem bZS (cs:List Nat):flagsT.cps.toList.filterMap (λc=>if c∈cs then some (V.str (one c)) else none)=((flagsT.cps.toList.filter λc=>decide (c∈cs)).map one).map V.str:=by
 generalize flagsT.cps.toList=L;induction L with
 | nil=>rfl
 | cons d r ih=>
   by_cases h:d∈cs
   · have e1:(if d∈cs then some (V.str (one d)) else none)=some (V.str (one d)):=if_pos h
     rw [Dh];simp only [e1];rw [Gr,if_pos (Aq h),ih];rfl
   · have e1:(if d∈cs then some (V.str (one d)) else none)=none:=if_neg h
     rw [Dh];simp only [e1];rw [Gr,if_neg (by rw [Au h]; decide),ih]
def kN (aC:Addr):Sp:=λvs H Q E=>∃ z:Str,vs=[.str z]/\z.length<=900/\(∀ (r:Addr) (kws:List (Key×V)) (xs:List (Nat×Int)) (H':Hp),H r=none->Same H H'->H' r=some (.dK kws)->Lk kws (fOf xs)->LockIs z xs->Q (.ref r) H')/\(kB z->∀ H',Same H H'->E (.ref aC) none H')
theorem sc_read_locker:FnScope ["text", "some", "flags"] ["text"] (aE cS):=by walk_at "sc"
theorem qX {aTower Zz Zw aDesk Zx Zu Zv Zy Zt Zs:Addr} {f:Addr} {fd:FuncData} (F:Fun K "read_locker" "read_locker" cS f fd) (G:Gs K mg w aTower Zz Zw aDesk Zx Zu Zv Zy Zt Zs) (c_read_some:wN P w K mg base 2 "read_some" ["text"] (nN Zv)):FnOk P w K mg base (CXr P w) 3 f fd ["text"] (kN Zv):=by
 refine F.okX sc_read_locker (λvs H Q E h=>?_) (λcdv A outer s H vs Q E hr h=>?_)
 · obtain ⟨z,rfl,_⟩:=h; rfl
 obtain ⟨z,rfl,hz,q,qe⟩:=h;refine ⟨_,(@aH _ _ _ _ _ (bR (bB gG (mv 0) bP (aR _)) (@aI _ _ _ (aO wL)) aU) (@aH _ _ _ _ _ (bZP (i:=1) sc_read_locker.nd rfl (Or.inl rfl) rfl (cQ (bX Bb Df Dg lB (mv 0) (@aW _ _ _ _ _ _ aD))) (fL (N:=["part"]) (by decide +kernel) (by decide +kernel)) (by decide +kernel) rfl (by decide +kernel) (λC s₀ H₀ ex=>(bL (i:=0) (show List.Nodup (["part"]:List Str) by decide +kernel) rfl (Or.inl rfl))) (λC s₀ H₀ ex=>cN) rfl rfl rfl cXI (λC s₀ H₀ ex E' px=>(lH c_read_some px hr (by decide) rfl (aA (mv 0) aD)))) (@aH _ _ _ _ _ (@bI _ _ 2 _ _ _ _ sc_read_locker.nd (by rfl) (by exact (Or.inr rfl)) (cM rfl (cQ (mv 1)) (fL (N:=["flag", "number"]) (by decide +kernel) (by decide +kernel)) (by decide +kernel) rfl (by decide +kernel) (λC s₀ H₀ ex=>(nI (K:=K) (i:=0) (j:=1) (by rfl) (by rfl) (show List.Nodup (["flag", "number"]:List Str) by decide +kernel) (by rfl) (by exact Or.inl rfl) (by exact Or.inr rfl) (by rfl) (by exact Or.inl rfl) (by exact Or.inr rfl))) (λC s₀ H₀ ex=>cN) (λC s₀ H₀ ex=>(mv 0))) (by rfl) (by walk_at "o")) (@aH _ _ _ _ _ (bR (bB (cJ9 hr.units0) (mv 2) (cM rfl (nW (dJ rfl G.s_FLAGS)) (uI (N:=["flag", "flags"]) ["text", "some", "flags"] (aE cS) [none,some 2] rfl rfl rfl (λx h=>fW h) (by decide +kernel)) (by decide +kernel) rfl (by decide +kernel) (λC s₀ H₀ ex=>(bL (i:=0) (show List.Nodup (["flag", "flags"]:List Str) by decide +kernel) rfl (Or.inl rfl))) (λC s₀ H₀ ex=>(bX4 (bB aZH (mv 0) (mv 1) (by rfl)))) (λC s₀ H₀ ex=>(mv 0))) (aR _)) (@aI _ _ _ (jB iB rfl rfl rfl G.c_NoText G.x_NoText By (@aW _ _ _ _ _ _ aD))) aU) (@aI _ _ _ (aO (cA (wY rfl) rfl G.b_dict cXN (aA (mv 1) aD)))))))),?_⟩
 walk_at "go";refine jZ (λhe=>?_) (λhe=>?_)
 · have he':=Az he
   walk_at "go";intro p hp;exact q p [] [] _ hp (aF hp _) aG Lk.nil (.inl ⟨he',rfl⟩)
 · have he':=Bp (Bq.mpr he)
   have hcnt:=cX0 z
   walk_at "go";refine cZV (by decide) (by omega) λl hl=>?_
   rw [show (Txt.split z (Str.ofString " ")).map V.str=((wds z).map cB).map V.str from bJG z];have s1:=aF hl (.lst (((wds z).map cB).map V.str))
   have e1:rdL (upd H l (.lst (((wds z).map cB).map V.str))) l=some (((wds z).map cB).map V.str):=bH
   generalize upd H l (.lst (((wds z).map cB).map V.str))=H1 at s1 e1 ⊢;have hrl:(((wds z).map cB).map V.str).length=(wds z).length:=by rw [Ab,Ab]
   walk_at "go";refine nS (n:=(wds z).length) (λD i ys Hc=>Same H1 Hc/\∃ (ps:List Addr) (xs:List (Nat×Int)),ys=ps.map V.ref/\Tups H1 Hc ps (xs.map cZN)/\Parts ((wds z).take i) xs) (bT (by omega)) (λD hD=>⟨aF hD _,[],[],rfl,.nil,.nil⟩) (λD i ys Hc _ r h=>?_) (λD ys Hc _ r=>?_) ?_ ?_
   · exact ⟨_,(((wds z).map cB).map V.str)[i]'(by omega),bC (aV r.1 e1),Aa _⟩
   · exact ⟨_,bC (aV r.1 e1),by omega⟩
   · rintro D i ys Hc x H' A B hD hi ⟨sm,ps,xs,rfl,tp,pts⟩ hDc ⟨rfl,hzz⟩ ha hb;have hx:=hzz _ (bC (aV sm e1))
     have eb:(wds z)[i]?=some (wds z)[i]:=Aa hi
     rw [Af,Af,eb] at hx;cases hx;have hwl:=cZC (Ap eb)
     have hwm:=Ap eb
     generalize (wds z)[i]=w at eb hwl hwm ⊢;walk_at "go";refine ⟨Wk.set rfl (Wk.refl _),?_⟩;walk_at "go";refine ⟨w,rfl,by omega,λx p Hp hx hp sp ep=>?_,λhno Hp sp=>qe ⟨he',λxs' px _=>?_⟩ _ (s1.trans (sm.trans sp))⟩
     · have hDp:=sp _ _ hDc
       refine ha _ _ hDp ⟨eJ hD (sm.trans sp),ps++[p],xs++[x],by rw [Bi]; rfl,?_,pts.snoc eb hx⟩
       rw [Bi];exact ((tp.keep sp).app (.one (none_of sm hp) ep)).put hDp
     · obtain ⟨j,hj⟩:=Dp.mp hwm;have hjl:j<xs'.length:=by rw [<-px.1]; exact (Ae.mp hj).1
       exact hno _ (px.2 j w _ hj (Aa hjl))
   · rintro D ys Hc hD ⟨sm,ps,xs,rfl,tp,pts⟩ hDc hy;rw [Ed] at pts;have hpl:ps.length=xs.length:=by rw [tp.1,Ab]
     have hpm:(ps.map V.ref).length=xs.length:=by rw [Ab,hpl]
     have hxl:=pts.1
     have tat:∀ (j:Nat) p x,ps[j]?=some p->xs[j]?=some x->Hc p=some (.tup [.str (one x.1),.int x.2]):=λj p x hp hx=>(tp.2 j p (cZN x) hp (by rw [Af,hx]; rfl)).2
     have rD:=aQ hDc
     have s2:=s1.trans sm
     have hfl:∀ c∈xs.map (·.1),nY c:=λc hc=>by
       obtain ⟨x,hx,rfl⟩:=Bw.mp hc;obtain ⟨j,hj⟩:=Dp.mp hx;have hjl:j<(wds z).length:=by rw [hxl]; exact (Ae.mp hj).1
       exact (pts.2 j _ x (Aa hjl) hj).1
     walk_at "go";refine fY (xs:=ps.map V.ref) (λj=>(xs[j]?).map λx=>V.str (one x.1)) rD (by rw [hpm]; exact bT (by omega)) (λj x Hd A B hx sd hA hB=>?_) (λD2 Hd hD2 sD hd=>?_)
     · rw [Af] at hx;cases e:ps[j]? with
       | none=>rw [e] at hx; cases hx
       | some p=>
         rw [e] at hx;cases hx;have hj:j<xs.length:=by rw [<-hpl]; exact (Ae.mp e).1
         have eb:xs[j]?=some xs[j]:=Aa hj
         have ht:=eM (sd _ _ (tat j p _ e eb))
         have hA2:=hA (.str (one xs[j].1)) (by rw [eb]; rfl)
         walk_at "go";refine ⟨Wk.set rfl (Wk.set rfl (Wk.refl _)),?_⟩;walk_at "go";exact hA2 _ (Same.refl _)
     · rw [hpm,dX,show xs.map (λx=>V.str (one x.1))=((xs.map (·.1)).map one).map V.str by rw [Cb,Cb]; rfl] at hd
       have rd:=aQ hd
       walk_at "go";refine aZV (λc=>if c∈xs.map (·.1) then some (V.str (one c)) else none) (bT (by decide)) (λi c He A B hc se hA=>?_) (λD3 He hD3 sE hE=>?_)
       · walk_at "go";refine ⟨Wk.set rfl (Wk.refl _),?_⟩;walk_at "go";refine zE (neg:=false) (aV se rd) rfl (cR _) ?_;rw [if_neg (by decide),show V.str ⟨#[c]⟩=V.str (one c) from rfl,bXJ]
         have r:=hA _ (Same.refl _)
         refine jZ (λhm=>?_) (λhm=>?_)
         · rw [if_pos (Az hm)] at r;walk_at "go";exact r
         · rw [if_neg (Bp (Bq.mpr hm))] at r;walk_at "go";exact r
       · replace hE:He D3=some (.lst (((flagsT.cps.toList.filter λc=>decide (c∈xs.map (·.1))).map one).map V.str)):=by rw [hE]; exact Dm (λz=>some (HO.lst z)) (bZS _)
         have sDE:=sD.trans sE
         walk_at "go";refine xE (neg:=true) (aQ (sE _ _ hd)) (aQ hE) (cR _) (cR _) ?_;rw [if_pos rfl,aZ8];have hord:(xs.map (·.1)).map one=(flagsT.cps.toList.filter λc=>decide (c∈xs.map (·.1))).map one ↔ Ord xs:=by
           rw [<-cQW,<-cQN hfl];exact List.map_inj_right (λa b h=>one_inj.mp h)
         by_cases ho:Ord xs
         · rw [Aq (hord.mpr ho),Bool.not_true];walk_at "go";refine yX (kvs:=kvX xs) (sDE _ _ hDc) (zC (tp.keep sDE)) λr hr=>?_;exact q r _ xs _ (none_of (s2.trans sDE) hr) (s2.trans (sDE.trans (aF hr _))) aG (Lk.mergeX xs [] _ .nil) (.inr ⟨he',pts,ho⟩)
         · rw [Au (λz=>ho (hord.mp z)),Bool.not_false];walk_at "go";exact ⟨by decide,qe ⟨he',λxs' px o=>ho (by rw [pts.inj px]; exact o)⟩ _ (s2.trans sDE)⟩
def pY:Sp:=λvs H Q _=>∃ c,vs=[.str (one c)]/\bM c/\Q (.int ((c - 97:Nat):Int)) H
def lR:Sp:=λvs H Q _=>∃ (cs:List Nat),(vs=[.str (cB cs)]\/∃ a,vs=[.ref a]/\rdL H a=some ((cs.map one).map V.str))/\cs.length<=1000/\(∀ d∈cs,bM d)/\∀ H',Same H H'->Q (.bl (iQ cs)) H'
theorem aXD:FnScope ["letter"] ["letter"] (aE gN):=by walk_at "sc"
theorem aQJ {aTower Zz Zw aDesk Zx Zu Zv Zy Zt Zs:Addr} {f:Addr} {fd:FuncData} (F:Fun K "rank_of" "rank_of" gN f fd) (G:Gs K mg w aTower Zz Zw aDesk Zx Zu Zv Zy Zt Zs)  : FnOk P w K mg base CX0 1 f fd ["letter"] pY:=by
 refine F.ok aXD (λvs H Q E h=>?_) (λcdv A outer s H vs Q E hr h=>?_)
 · obtain ⟨c,rfl,_⟩:=h; rfl
 obtain ⟨c,rfl,hc,q⟩:=h;refine ⟨_,(@aI _ _ _ (aO (bX Bb PySem.F.slot_str_index PySem.F.type_str_index cX9 (dJ rfl G.s_LETTERS) (aA (mv 0) aD)))),?_⟩;walk_at "go";exact cQG (cXW hc) q
def wgt (cs:List Nat) (i:Nat):Int:=((1+i:Nat):Int) * ((cs.getD i 0 - 97:Nat):Int)
theorem dZS {cs:List Nat} (hl:cs.length<=1000) (hL:∀ d∈cs,bM d):∀ n∈(List.range cs.length).map (wgt cs),0<=n/\n<=1000000:=λn hn=>by
 obtain ⟨i,hi,rfl⟩:=Bw.mp hn;have hi':=Bg.mp hi
 have hg:=yY hL hi'
 unfold bM at hg;unfold wgt;have h2:((1+i:Nat):Int) * ((cs.getD i 0 - 97:Nat):Int)<=((1+i:Nat):Int) * 22:=Int.mul_le_mul_of_nonneg_left (by omega) (by omega)
 exact ⟨Int.mul_nonneg (by omega) (by omega),by omega⟩
theorem sc_is_divided:FnScope ["letters", "weighed"] ["letters"] (aE eE):=by walk_at "sc"
theorem sK {aTower Zz Zw aDesk Zx Zu Zv Zy Zt Zs:Addr} {f:Addr} {fd:FuncData} (F:Fun K "is_divided" "is_divided" eE f fd) (G:Gs K mg w aTower Zz Zw aDesk Zx Zu Zv Zy Zt Zs) (c_rank_of:Cal P w K mg base 1 "rank_of" ["letter"] pY):FnOk P w K mg base CX0 2 f fd ["letters"] lR:=by
 refine F.ok sc_is_divided (λvs H Q E h=>?_) (λcdv A outer s H vs Q E hr h=>?_)
 · obtain ⟨cs,rfl | ⟨a,rfl,_⟩,_⟩:=h <;> rfl
 obtain ⟨cs,hv,hl,hL,q⟩:=h;have fin:∀ D Hd,Same H Hd->rdL Hd D=some (((List.range cs.length).map (wgt cs)).map V.int)->∀ (Q':VK),(Q' (.int (pB cs cs.length)) Hd)->dZW [.ref D] Hd Q':=λD Hd sD hD Q' q'=>
   dJE hD (dZS hl hL) (by rw [Ab,Bj]; omega) q'
 have fm:∀ (G:Nat->Option V),(∀ i,i<cs.length->G i=some (V.int (wgt cs i)))->(List.range cs.length).filterMap G=((List.range cs.length).map (wgt cs)).map V.int:=λG hG=>by
   rw [Cb,<-jI];exact nJ λi hi=>hG i (Bg.mp hi)
 rcases hv with rfl | ⟨a,rfl,ha⟩
 · refine ⟨_,(@aH _ _ _ _ _ (mU (i:=1) sc_is_divided.nd rfl (Or.inl rfl) rfl (yH rfl G.b_enumerate (aA (mv 0) aD) (uR aJ aQW)) (fL (N:=["place", "letter"]) (by decide +kernel) (by decide +kernel)) (by decide +kernel) rfl (by decide +kernel) (λC s₀ H₀ ex=>(nI (K:=K) (i:=0) (j:=1) (by rfl) (by rfl) (show List.Nodup (["place", "letter"]:List Str) by decide +kernel) (by rfl) (by exact Or.inl rfl) (by exact Or.inr rfl) (by rfl) (by exact Or.inl rfl) (by exact Or.inr rfl))) (λC s₀ H₀ ex=>cN) (λC s₀ H₀ ex=>(bF cJE (mv 0) (bA c_rank_of hr (by decide) rfl (aA (mv 1) aD))))) (@aI _ _ _ (aO (cG gG (bF gS (bD (cJB rfl) rfl G.b_sum bXO (aA (mv 1) aD)) (bD fI rfl G.b_len dC (aA (dJ rfl G.s_LETTERS) aD))) aJ (aR _))))),?_⟩
   walk_at "go";refine ⟨⟨by omega,by omega⟩,bJM hL,?_⟩
   refine bZ0 (k:=1) (λi c=>some (V.int (((1+i:Nat):Int) * ((c - 97:Nat):Int)))) (by rw [fG]; exact bT (by omega)) (λi c Hc p A B hc sm hp hA=>?_) (λD Hd hD sD hd=>?_)
   · have hi:=(Ae.mp hc).1
     rw [bZ] at hi;walk_at "go";refine ⟨Wk.set rfl (Wk.set rfl (Wk.refl _)),?_⟩;walk_at "go";refine ⟨c,rfl,hL c (by rw [bZ] at hc; exact Ap hc),?_⟩
     walk_at "go";exact hA _ (Same.refl _)
   · rw [fG,bZ] at hd;rw [fm (λi=>some (V.int (((1+i:Nat):Int) * ((cs.getD i 0 - 97:Nat):Int)))) (λi _=>rfl)] at hd;walk_at "go";refine fin D Hd sD hd _ ?_;walk_at "go";have r:=q Hd sD
     exact r
 · refine ⟨_,(@aH _ _ _ _ _ (mU (i:=1) sc_is_divided.nd rfl (Or.inl rfl) rfl (yH rfl G.b_enumerate (aA (mv 0) aD) (uR aJ aQW)) (fL (N:=["place", "letter"]) (by decide +kernel) (by decide +kernel)) (by decide +kernel) rfl (by decide +kernel) (λC s₀ H₀ ex=>(nI (K:=K) (i:=0) (j:=1) (by rfl) (by rfl) (show List.Nodup (["place", "letter"]:List Str) by decide +kernel) (by rfl) (by exact Or.inl rfl) (by exact Or.inr rfl) (by rfl) (by exact Or.inl rfl) (by exact Or.inr rfl))) (λC s₀ H₀ ex=>cN) (λC s₀ H₀ ex=>(bF cJE (mv 0) (bA c_rank_of hr (by decide) rfl (aA (mv 1) aD))))) (@aI _ _ _ (aO (cG gG (bF gS (bD (cJB rfl) rfl G.b_sum bXO (aA (mv 1) aD)) (bD fI rfl G.b_len dC (aA (dJ rfl G.s_LETTERS) aD))) aJ (aR _))))),?_⟩
   walk_at "go";refine ⟨⟨by omega,by omega⟩,?_⟩
   walk_at "go";refine aX3 (k:=1) (xs:=(cs.map one).map V.str) (λi x=>match x with | .str z=>some (V.int (((1+i:Nat):Int) * ((lM z - 97:Nat):Int))) | _=>none) ha (by rw [Ab,Ab]; exact bT (by omega)) (λi x Hc p A B hx sm hp hA=>?_) (λD Hd hD sD hd=>?_)
   · obtain ⟨z,hz,rfl⟩:=fR hx;rw [Af] at hz;cases e:cs[i]? with
     | none=>rw [e] at hz; cases hz
     | some c=>
       have hi:=(Ae.mp e).1
       rw [e] at hz;cases hz;walk_at "go";refine ⟨Wk.set rfl (Wk.set rfl (Wk.refl _)),?_⟩;walk_at "go";refine ⟨c,rfl,hL c (Ap e),?_⟩;walk_at "go";exact hA _ (Same.refl _)
   · rw [Ab,Ab,fm _ (λi hi=>?_)] at hd
     · walk_at "go";refine fin D Hd sD hd _ ?_;walk_at "go";have r:=q Hd sD
       exact r
     · have e:((cs.map one).map V.str).getD i .non=.str (one (cs.getD i 0)):=by
         rw [Ak,Af,Af,Ak,Aa hi];rfl
       rw [e];rfl
def lK (cs:List Nat) (k:Nat):List V:=((cs.map one).map V.str).set k .non
theorem bZ7 {cs:List Nat} {k:Nat} (hk:k<cs.length):(lK cs k).take k=((cs.take k).map one).map V.str:=by
 unfold lK;rw [List.take_set_of_le (Ag _),<-Eb,<-Eb]
theorem bXE {cs:List Nat} {k:Nat}:(lK cs k).drop (k+1)=((cs.drop (k+1)).map one).map V.str:=by
 unfold lK;rw [List.drop_set_of_lt (by omega),<-List.map_drop,<-List.map_drop]
theorem bZR {cs:List Nat} {k:Nat}:(lK cs k).all bO=true:=by
 rw [As];intro x hx;rcases List.mem_or_eq_of_mem_set hx with h | h
 · obtain ⟨z,_,rfl⟩:=Bw.mp h;rfl
 · rw [h]; rfl
theorem dQ8 {cs:List Nat} {k:Nat} (hk:k<cs.length):(lK cs k)[k]?=some .non:=by
 unfold lK;rw [Ey (by rw [Ab,Ab]; exact hk)]
theorem dX2 {cs:List Nat} {k:Nat}:∀ i y,i<k->(lK cs k)[i]?=some y->y≠.non:=λi y hi hy=>by
 unfold lK at hy;rw [Eh (by omega),Af] at hy
 cases e:(cs.map one)[i]? with
 | none=>rw [e] at hy; cases hy
 | some z=>rw [e] at hy; cases hy; exact V.noConfusion
theorem bJJ {cs:List Nat} {k d:Nat} (hk:k<cs.length):((cs.take k).map one).map V.str++[V.str (one d)]++((cs.drop (k+1)).map one).map V.str=((cs.set k d).map one).map V.str:=by
 rw [List.set_eq_take_append_cons_drop,if_pos hk,Bi,Bi,Aw,Aw,Cc];rfl
theorem set_set {cs:List Nat} {k d e:Nat}:(cs.set k d).set k e=cs.set k e:=List.set_set ..
theorem wK {cs:List Nat} (h7:cs.length<=7) (hL:∀ d∈cs,bM d) {k d c:Nat} (hk:k<cs.length) (hd:bM d) (h:iQ (cs.set k d)=true) (hc:bM c):iQ (cs.set k c)=decide (c=d):=by
 have q:=cXL (cs:=cs.set k d) (by rw [Dx]; exact h7) (aXR hL hd) (k:=k) (d:=c) (by rw [Dx]; exact hk) hc h
 rw [set_set,rF hk,if_pos rfl] at q;exact q
theorem cZL {β:Type} (g:Nat->β) {F:Nat->Bool} {d:Nat} (hd:bM d) (h:∀ c,bM c->F c=decide (c=d)):lettersT.cps.toList.filterMap (λc=>if F c=true then some (g c) else none)=[g d]:=by
 have q:∀ k:_root_.Fin 23,lettersT.cps.toList.filterMap (λc=>if c=97+k.val then some c else none)=[97+k.val]:=by decide +kernel
 unfold bM at hd;have e:=q ⟨d - 97,by omega⟩
 simp only [show 97+(d - 97)=d by omega] at e
 have e2:lettersT.cps.toList.filterMap (λc=>if F c=true then some (g c) else none)=(lettersT.cps.toList.filterMap (λc=>if c=d then some c else none)).map g:=by
   rw [List.map_filterMap];refine nJ λc hc=>?_;rw [h c (mem_letters.mp hc)];by_cases z:c=d
   · rw [if_pos (Aq z),if_pos z]; rfl
   · rw [if_neg (by rw [Au z]; exact Al),if_neg z]; rfl
 rw [e2,e];rfl
def iZ:Sp:=λvs H Q _=>∃ (a:Addr) (cs:List Nat) (k:Nat),vs=[.ref a]/\rdL H a=some (lK cs k)/\k<cs.length/\cs.length<=7/\(∀ d∈cs,bM d)/\
 ∀ (d:Nat) (H':Hp),Same H H'->bM d->iQ (cs.set k d)=true->Q (.str (one d)) H'
theorem sc_hidden_letter:FnScope ["letters", "at", "ahead", "behind"] ["letters"] (aE cF):=by walk_at "sc"
theorem nO {aTower Zz Zw aDesk Zx Zu Zv Zy Zt Zs:Addr} {f:Addr} {fd:FuncData} (F:Fun K "hidden_letter" "hidden_letter" cF f fd) (G:Gs K mg w aTower Zz Zw aDesk Zx Zu Zv Zy Zt Zs) (c_is_divided:Cal P w K mg base 2 "is_divided" ["letters"] lR):FnOk P w K mg base CX0 3 f fd ["letters"] iZ:=by
 refine F.ok sc_hidden_letter (λvs H Q E h=>?_) (λcdv A outer s H vs Q E hr h=>?_)
 · obtain ⟨a,cs,k,rfl,_⟩:=h; rfl
 obtain ⟨a,cs,k,rfl,ha,hk,h7,hL,q⟩:=h;refine ⟨_,(@aH _ _ _ _ _ (@bI _ _ 1 _ _ _ _ sc_hidden_letter.nd (by rfl) (by exact (Or.inl rfl)) (bX De Er PySem.F.type_list_index bQP (mv 0) (aA fE aD)) (by rfl) (by walk_at "o")) (@aH _ _ _ _ _ (@bI _ _ 2 _ _ _ _ sc_hidden_letter.nd (by rfl) (by exact (Or.inr rfl)) (gZ aXI (mv 0) jF (jM (mv 1))) (by rfl) (by walk_at "o")) (@aH _ _ _ _ _ (@bI _ _ 3 _ _ _ _ sc_hidden_letter.nd (by rfl) (by exact (Or.inr rfl)) (gZ aXI (mv 0) (jM (bF dW (mv 1) aJ)) jF) (by rfl) (by walk_at "o")) (@aI _ _ _ (aO (bE bW (cM rfl (nW (dJ rfl G.s_LETTERS)) (uI (N:=["letter", "behind", "ahead"]) ["letters", "at", "ahead", "behind"] (aE cF) [none,some 3,some 2] rfl rfl rfl (λx h=>fW h) (by decide +kernel)) (by decide +kernel) rfl (by decide +kernel) (λC s₀ H₀ ex=>(bL (i:=0) (show List.Nodup (["letter", "behind", "ahead"]:List Str) by decide +kernel) rfl (Or.inl rfl))) (λC s₀ H₀ ex=>(bX4 (dZ (bA c_is_divided hr (by decide) rfl (aA (bF dW (bF dW (mv 2) (bJ (aA (mv 0) aD))) (mv 1)) aD))))) (λC s₀ H₀ ex=>(mv 0))) aJ (λ_ _=>rfl))))))),?_⟩
 walk_at "go";refine bXD ha bZR (dQ8 hk) dX2 ?_;walk_at "go";intro r hr;rw [qR (by omega),show ((k:Nat):Int).toNat=k from rfl,bZ7 hk]
 have s1:Same H (upd H r (.lst (((cs.take k).map one).map V.str))):=aF hr _
 have m1:hU (upd H r (.lst (((cs.take k).map one).map V.str))) r=some (((cs.take k).map one).map V.str):=eR
 have e1:(upd H r (.lst (((cs.take k).map one).map V.str))) r=some (.lst (((cs.take k).map one).map V.str)):=aG
 generalize upd H r (.lst (((cs.take k).map one).map V.str))=H1 at s1 m1 e1 ⊢;have ha1:=aV s1 ha
 walk_at "go";intro r2 hr2;rw [sP (by omega),show ((k:Nat)+1:Int).toNat=k+1 by omega,bXE]
 have s2:Same H1 (upd H1 r2 (.lst (((cs.drop (k+1)).map one).map V.str))):=aF hr2 _
 have e2:(upd H1 r2 (.lst (((cs.drop (k+1)).map one).map V.str))) r2=some (.lst (((cs.drop (k+1)).map one).map V.str)):=aG
 generalize upd H1 r2 (.lst (((cs.drop (k+1)).map one).map V.str))=H2 at s2 e2 ⊢;have e1':=s2 _ _ e1
 walk_at "go";obtain ⟨d,hd,hdv⟩:=bXS h7 hk;have lt:(((cs.take k).map one).map V.str).length<=7:=by rw [Ab,Ab,Ba]; omega
 have ld:(((cs.drop (k+1)).map one).map V.str).length<=7:=by rw [Ab,Ab,Ec]; omega
 refine aZV (λc=>if iQ (cs.set k c)=true then some (V.str (one c)) else none) (bT (by decide)) (λi c Hc A B hc sm hA=>?_) (λD Hd hD sD hd'=>?_)
 · have hcl:bM c:=mem_letters.mp (Ap hc)
   walk_at "go";refine ⟨Wk.set rfl (Wk.refl _),?_⟩;walk_at "go";refine ⟨by show 1<=sizeLine; decide,λp1 hp1=>?_⟩
   have c1:=sm _ _ e1'
   have c2:=sm _ _ e2
   have n1:r≠p1:=bG c1 hp1
   have n2:r2≠p1:=bG c2 hp1
   walk_at "go";refine qZ (xs:=((cs.take k).map one).map V.str) (ys:=[V.str (one c)]) (by rw [aZN n1]; exact eZ c1) eR (bQ (by show _+1<=_; omega)) λl hl=>?_
   have c3:(upd (upd Hc p1 (.lst [V.str (one c)])) l (.lst (((cs.take k).map one).map V.str++[V.str (one c)]))) r2=some (.lst (((cs.drop (k+1)).map one).map V.str)):=aF hl _ _ _ (aF hp1 _ _ _ c2)
   walk_at "go";refine qZ (xs:=((cs.take k).map one).map V.str++[V.str (one c)]) (ys:=((cs.drop (k+1)).map one).map V.str) eR (eZ c3) (bQ (by rw [Aj]; show _+1+_<=_; omega)) λl2 hl2=>?_
   rw [bJJ hk];have s5:Same Hc (upd (upd (upd Hc p1 (.lst [V.str (one c)])) l (.lst (((cs.take k).map one).map V.str++[V.str (one c)]))) l2 (.lst (((cs.set k c).map one).map V.str))):=(aF hp1 _).trans ((aF hl _).trans (aF hl2 _))
   have c5:rdL (upd (upd (upd Hc p1 (.lst [V.str (one c)])) l (.lst (((cs.take k).map one).map V.str++[V.str (one c)]))) l2 (.lst (((cs.set k c).map one).map V.str))) l2=some (((cs.set k c).map one).map V.str):=bH
   generalize upd (upd (upd Hc p1 (.lst [V.str (one c)])) l (.lst (((cs.take k).map one).map V.str++[V.str (one c)]))) l2 (.lst (((cs.set k c).map one).map V.str))=H5 at s5 c5 ⊢;walk_at "go";refine ⟨cs.set k c,.inr ⟨l2,rfl,c5⟩,by rw [Dx]; omega,aXR hL hcl,λH6 s6=>?_⟩
   have r6:=hA H6 (s5.trans s6)
   walk_at "go";by_cases hb:iQ (cs.set k c)=true
   · rw [if_pos hb] at r6;rw [if_pos hb];walk_at "go";exact r6
   · rw [if_neg hb] at r6;rw [if_neg hb];exact r6
 · rw [show (Str.ofString "abcdefghijklmnopqrstuvw").cps.toList.filterMap (λc=>if iQ (cs.set k c)=true then some (V.str (one c)) else none)=[V.str (one d)] from cZL (λc=>V.str (one c)) hd λc hc=>wK h7 hL hk hd hdv hc] at hd'
   walk_at "go";refine bY (aQ hd') (v:=V.str (one d)) rfl ?_;exact q d Hd (s1.trans (s2.trans sD)) hd hdv
theorem rE {cs:List Nat} {x d:Nat}:(cs++[x]).set cs.length d=cs++[d]:=by
 rw [List.set_append_right _ _ (Ag _),Gm];rfl
theorem bXG {cs:List Nat}:(cs.map one).map V.str++[V.non]=lK (cs++[97]) cs.length:=by
 unfold lK;rw [Bi,Bi,List.set_append_right _ _ (by rw [Ab,Ab]; exact Ag _),Ab,Ab,Gm]
 rfl
theorem wX {cs:List Nat} (hL:∀ d∈cs,bM d) {c:Nat} (hc:bM c):∀ d∈cs++[c],bM d:=λd hd=>by
 rcases Co.mp hd with h | h
 · exact hL d h
 · rw [Am.mp h]; exact hc
def oY:Sp:=λvs H Q _=>∃ (cs:List Nat),vs=[.str (cB cs)]/\1<=cs.length/\cs.length<=6/\(∀ d∈cs,bM d)/\∀ (d:Nat) (H':Hp),Same H H'->bM d->iQ (cs++[d])=true->Q (.str (one d)) H'
theorem yB:FnScope ["word"] ["word"] (aE fS):=by walk_at "sc"
theorem xW {aTower Zz Zw aDesk Zx Zu Zv Zy Zt Zs:Addr} {f:Addr} {fd:FuncData} (F:Fun K "check_of" "check_of" fS f fd) (G:Gs K mg w aTower Zz Zw aDesk Zx Zu Zv Zy Zt Zs) (c_hidden_letter:Cal P w K mg base 3 "hidden_letter" ["letters"] iZ):FnOk P w K mg base CX0 4 f fd ["word"] oY:=by
 refine F.ok yB (λvs H Q E h=>?_) (λcdv A outer s H vs Q E hr h=>?_)
 · obtain ⟨cs,rfl,_⟩:=h; rfl
 obtain ⟨cs,rfl,h1,h6,hL,q⟩:=h;refine ⟨_,(@aI _ _ _ (aO (bA c_hidden_letter hr (by decide) rfl (aA (bF dW (cA (cXK rfl) rfl G.b_list nF (aA (mv 0) aD)) (bJ (aA fE aD))) aD)))),?_⟩
 have hwl:(cB cs).length=cs.length:=fG cs
 walk_at "go";intro r hr;have el:(cB cs).cps.toList.map (λc=>V.str ⟨#[c]⟩)=(cs.map one).map V.str:=by rw [bZ,Cb]; rfl
 rw [el];walk_at "go";refine ⟨by show 1<=sizeLine; decide,λp hp=>?_⟩
 have nr:r≠p:=λz=>by rw [<-z,aG] at hp; cases hp
 refine qZ (xs:=(cs.map one).map V.str) (ys:=[V.non]) (by rw [aZN nr]; exact eR) eR (bQ (by rw [Ab,Ab]; show _+1<=_; omega)) λl hl=>?_
 rw [bXG];have s1:Same H (upd (upd (upd H r (.lst ((cs.map one).map V.str))) p (.lst [V.non])) l (.lst (lK (cs++[97]) cs.length))):=(aF hr _).trans ((aF hp _).trans (aF hl _))
 have e1:rdL (upd (upd (upd H r (.lst ((cs.map one).map V.str))) p (.lst [V.non])) l (.lst (lK (cs++[97]) cs.length))) l=some (lK (cs++[97]) cs.length):=bH
 generalize upd (upd (upd H r (.lst ((cs.map one).map V.str))) p (.lst [V.non])) l (.lst (lK (cs++[97]) cs.length))=H1 at s1 e1 ⊢;walk_at "go";have ll:(cs++[97]).length=cs.length+1:=by rw [Aj]; rfl
 refine ⟨l,cs++[97],cs.length,rfl,e1,by omega,by omega,wX hL (by decide),λd H2 s2 hd hdv=>?_⟩
 rw [rE] at hdv;exact q d H2 (s1.trans s2) hd hdv
theorem bQJ {cs:List Nat} (h6:cs.length<=6) (hL:∀ d∈cs,bM d) {d c:Nat} (hd:bM d) (h:iQ (cs++[d])=true) (hc:bM c):iQ (cs++[c])=decide (c=d):=by
 have ll:(cs++[97]).length=cs.length+1:=by rw [Aj]; rfl
 have q:=wK (cs:=cs++[97]) (by omega) (wX hL (by decide)) (k:=cs.length) (d:=d) (c:=c) (by omega) hd (by rw [rE]; exact h) hc
 rw [rE] at q;exact q
def ckL (cs:List Nat):Nat:=(lettersT.cps.toList.find? λd=>iQ (cs++[d])).getD 0
theorem eQD {cs:List Nat} (h6:cs.length<=6) (hL:∀ d∈cs,bM d) {d:Nat} (hd:bM d) (h:iQ (cs++[d])=true):ckL cs=d:=by
 unfold ckL;cases e:lettersT.cps.toList.find? λd=>iQ (cs++[d]) with
 | none=>exact absurd h (by have:=List.find?_eq_none.mp e d (mem_letters.mpr hd); exact this)
 | some c=>
   have hc:=List.find?_some e
   have hm:=mem_letters.mp (List.mem_of_find?_eq_some e)
   have r:=bQJ h6 hL hd h hm
   have hc2:iQ (cs++[c])=true:=hc
   rw [hc2] at r;exact Az r.symm
def lN:Sp:=λvs H Q _=>∃ (cs:List Nat),vs=[.str (cB cs)]/\1<=cs.length/\cs.length<=6/\(∀ d∈cs,bM d)/\∀ H',Same H H'->bM (ckL cs)->iQ (cs++[ckL cs])=true->Q (.str (cB (cs++[ckL cs]))) H'
theorem sM:FnScope ["word"] ["word"] (aE eB):=by walk_at "sc"
theorem sB {aTower Zz Zw aDesk Zx Zu Zv Zy Zt Zs:Addr} {f:Addr} {fd:FuncData} (F:Fun K "with_check" "with_check" eB f fd) (G:Gs K mg w aTower Zz Zw aDesk Zx Zu Zv Zy Zt Zs) (c_check_of:Cal P w K mg base 4 "check_of" ["word"] oY):FnOk P w K mg base CX0 5 f fd ["word"] lN:=by
 refine F.ok sM (λvs H Q E h=>?_) (λcdv A outer s H vs Q E hr h=>?_)
 · obtain ⟨cs,rfl,_⟩:=h; rfl
 obtain ⟨cs,rfl,h1,h6,hL,q⟩:=h;refine ⟨_,(@aI _ _ _ (aO (bF dW (mv 0) (bA c_check_of hr (by decide) rfl (aA (mv 0) aD))))),?_⟩
 have hwl:(cB cs).length=cs.length:=fG cs
 walk_at "go";refine ⟨cs,rfl,h1,h6,hL,λd H1 s1 hd hdv=>?_⟩;have e:=eQD h6 hL hd hdv
 have h1l:(one d).length=1:=rfl
 walk_at "go";have r:=q H1 s1
 rw [e] at r;rw [oK];exact r hd hdv
def iD:Sp:=λ_ _ _ _=>False
theorem mO {aTower Zz Zw aDesk Zx Zu Zv Zy Zt Zs:Addr} {f:Addr} {fd:FuncData} (F:Fun K "halyard_number" "halyard_number" cY f fd) (G:Gs K mg w aTower Zz Zw aDesk Zx Zu Zv Zy Zt Zs):FnOk P w K mg base CX0 1 f fd ["text"] iD:=⟨λ_ _ _ _ h=>h.elim,λ_ _ _ _ _ _ _ _ _ _ _ _ _ h=>h.elim⟩
def jX:Sp:=λ_ _ _ _=>False
theorem pO {aTower Zz Zw aDesk Zx Zu Zv Zy Zt Zs:Addr} {f:Addr} {fd:FuncData} (F:Fun K "told_of_book" "told_of_book" dY f fd) (G:Gs K mg w aTower Zz Zw aDesk Zx Zu Zv Zy Zt Zs):FnOk P w K mg base CX0 1 f fd ["book", "words"] jX:=⟨λ_ _ _ _ h=>h.elim,λ_ _ _ _ _ _ _ _ _ _ _ _ _ h=>h.elim⟩
def lS:Sp:=λ_ _ _ _=>False
theorem rW {aTower Zz Zw aDesk Zx Zu Zv Zy Zt Zs:Addr} {f:Addr} {fd:FuncData} (F:Fun K "behind_say" "behind_say" fK f fd) (G:Gs K mg w aTower Zz Zw aDesk Zx Zu Zv Zy Zt Zs):FnOk P w K mg base CX0 1 f fd ["book", "halyards", "locker", "text"] lS:=⟨λ_ _ _ _ h=>h.elim,λ_ _ _ _ _ _ _ _ _ _ _ _ _ h=>h.elim⟩
def kA:Sp:=λ_ _ _ _=>False
theorem qL {aTower Zz Zw aDesk Zx Zu Zv Zy Zt Zs:Addr} {f:Addr} {fd:FuncData} (F:Fun K "behind_haul" "behind_haul" eI f fd) (G:Gs K mg w aTower Zz Zw aDesk Zx Zu Zv Zy Zt Zs):FnOk P w K mg base CX0 1 f fd ["halyards", "locker", "number", "word"] kA:=⟨λ_ _ _ _ h=>h.elim,λ_ _ _ _ _ _ _ _ _ _ _ _ _ h=>h.elim⟩
def jT:Sp:=λ_ _ _ _=>False
theorem pL {aTower Zz Zw aDesk Zx Zu Zv Zy Zt Zs:Addr} {f:Addr} {fd:FuncData} (F:Fun K "behind_lower" "behind_lower" dS f fd) (G:Gs K mg w aTower Zz Zw aDesk Zx Zu Zv Zy Zt Zs):FnOk P w K mg base CX0 1 f fd ["halyards", "locker", "number"] jT:=⟨λ_ _ _ _ h=>h.elim,λ_ _ _ _ _ _ _ _ _ _ _ _ _ h=>h.elim⟩
def kP:Sp:=λ_ _ _ _=>False
theorem rS {aTower Zz Zw aDesk Zx Zu Zv Zy Zt Zs:Addr} {f:Addr} {fd:FuncData} (F:Fun K "behind_lose" "behind_lose" eG f fd) (G:Gs K mg w aTower Zz Zw aDesk Zx Zu Zv Zy Zt Zs):FnOk P w K mg base CX0 1 f fd ["halyards", "locker", "flag"] kP:=⟨λ_ _ _ _ h=>h.elim,λ_ _ _ _ _ _ _ _ _ _ _ _ _ h=>h.elim⟩
theorem eXK:iL (Str.ofString "a")=true:=by decide +kernel
def iY:Sp:=λvs H Q _=>vs=[.str (Str.ofString "a")]/\Q .non H
theorem oA:FnScope ["flag"] ["flag"] (aE cO):=by walk_at "sc"
theorem oE {aTower Zz Zw aDesk Zx Zu Zv Zy Zt Zs:Addr} {f:Addr} {fd:FuncData} (F:Fun K "look_for_flag" "look_for_flag" cO f fd) (G:Gs K mg w aTower Zz Zw aDesk Zx Zu Zv Zy Zt Zs) (c_is_flag:Cal P w K mg base 1 "is_flag" ["text"] mF):FnOk P w K mg base CX0 2 f fd ["flag"] iY:=by
 refine F.ok oA (λvs H Q E h=>?_) (λcdv A outer s H vs Q E hr h=>?_)
 · obtain ⟨rfl,_⟩:=h; rfl
 obtain ⟨rfl,q⟩:=h;refine ⟨_,(@aI _ _ _ (bR (kR (dZ (bA c_is_flag hr (by decide) rfl (aA (mv 0) aD)))) (@aI _ _ _ qD) aU)),?_⟩
 walk_at "go";refine ⟨_,rfl,by decide,?_⟩
 rw [eXK];walk_at "go";exact q
def jS:Sp:=λvs H Q _=>∃ (hg:Addr) (m:Nat),vs=[.ref hg]/\H hg=some (.lst (List.replicate m V.non))/\m<=6/\∀ (r:Addr) (H':Hp),H r=none->Same H H'->H' r=some (.lst [])->Q (.ref r) H'
theorem nX {H:Hp} {m:Nat}:HalsAt H (List.replicate m V.non) (List.replicate m none):=by
 refine ⟨by rw [Ca,Ca],λj v h hv hh=>?_⟩
 rw [Gc] at hv hh;split at hv
 · rename_i hj
   rw [if_pos hj] at hh;cases hv;cases hh;rfl
 · cases hv
theorem lV {m:Nat}:oV (List.replicate m none):=λcs hc=>by cases (List.mem_replicate.mp hc).2
theorem nE {m:Nat}:∀ ks:List Nat,eL (List.replicate m none) ks=[]
 | []=>rfl
 | k::r=>by
   show ((List.replicate m none).getD k none).getD []++eL (List.replicate m none) r=[]
   rw [nE r,Br,Ak,Gc];split <;> rfl
theorem pE:FnScope ["halyards"] ["halyards"] (aE dD):=by walk_at "sc"
theorem pN {aTower Zz Zw aDesk Zx Zu Zv Zy Zt Zs:Addr} {f:Addr} {fd:FuncData} (F:Fun K "all_flags_on" "all_flags_on" dD f fd) (G:Gs K mg w aTower Zz Zw aDesk Zx Zu Zv Zy Zt Zs) (c_flags_on:Cal P w K mg base 1 "flags_on" ["halyards", "numbers"] oS):FnOk P w K mg base CX0 2 f fd ["halyards"] jS:=by
 refine F.ok pE (λvs H Q E h=>?_) (λcdv A outer s H vs Q E hr h=>?_)
 · obtain ⟨hg,m,rfl,_⟩:=h; rfl
 obtain ⟨hg,m,rfl,hh,h6,q⟩:=h;refine ⟨_,(@aI _ _ _ (aO (bA c_flags_on hr (by decide) rfl (aA (mv 0) (aA (cA (cZZ rfl) rfl G.b_list nF (aA (cA dQ3 rfl G.b_range bX3 (aA (bD fI rfl G.b_len dC (aA (mv 0) aD)) aD)) aD)) aD))))),?_⟩
 have rh:=aQ hh
 walk_at "go";rw [Ca];refine cQR λr1 hr1=>?_;have k1:=aF hr1 (HO.rng 0 ((m:Nat):Int))
 have e1:(upd H r1 (HO.rng 0 ((m:Nat):Int))) r1=some (HO.rng 0 ((m:Nat):Int)):=aG
 generalize upd H r1 (HO.rng 0 ((m:Nat):Int))=H1 at k1 e1 ⊢;walk_at "go";refine cQI e1 (by omega) λr2 hr2=>?_
 have k2:=k1.trans (aF hr2 (.lst ((List.range m).map λk=>V.int ((k:Nat):Int))))
 have e2:rdL (upd H1 r2 (.lst ((List.range m).map λk=>V.int ((k:Nat):Int)))) r2=some ((List.range m).map λk=>V.int ((k:Nat):Int)):=bH
 generalize upd H1 r2 (.lst ((List.range m).map λk=>V.int ((k:Nat):Int)))=H2 at k2 e2 ⊢;walk_at "go";refine ⟨hg,r2,_,List.replicate m none,List.range m,rfl,aV k2 rh,nX,lV,e2,by rw [Bj]; omega,(λk hk=>by rw [Ca]; exact Bg.mp hk),λr H' hr s' e=>?_⟩
 rw [nE] at e;exact q r H' (none_of k2 hr) (k2.trans s') e
structure FindOk (H:Hp) (hg st:Addr) (m:Nat):Prop where
 hal:H hg=some (.lst (List.replicate m V.non))
 le:m<=6
 loc:∃ kvs f,H st=some (.dK kvs)/\Lk kvs f/\(∀ c,0<=cntF f c)/\cntF f 97<99
def kT:Sp:=λvs H Q _=>∃ (hg st:Addr) (m:Nat),vs=[.ref hg,.ref st,.str (Str.ofString "a")]/\FindOk H hg st m/\
 ∀ (t st':Addr) (kws:List (Key×V)) (H':Hp),Same H H'->H t=none->H' t=some (.tup [.ref hg,.ref st'])->H' st'=some (.dK kws)->Q (.ref t) H'
theorem qS:FnScope ["halyards", "locker", "flag"] ["halyards", "locker", "flag"] (aE dQ):=by walk_at "sc"
theorem qI {aTower Zz Zw aDesk Zx Zu Zv Zy Zt Zs:Addr} {f:Addr} {fd:FuncData} (F:Fun K "behind_find" "behind_find" dQ f fd) (G:Gs K mg w aTower Zz Zw aDesk Zx Zu Zv Zy Zt Zs) (c_look_for_flag:Cal P w K mg base 2 "look_for_flag" ["flag"] iY) (c_put_in:Cal P w K mg base 2 "put_in" ["locker", "flags"] tV) (c_all_flags_on:Cal P w K mg base 2 "all_flags_on" ["halyards"] jS):FnOk P w K mg base CX0 3 f fd ["halyards", "locker", "flag"] kT:=by
 refine F.ok qS (λvs H Q E h=>?_) (λcdv A outer s H vs Q E hr h=>?_)
 · obtain ⟨hg,st,m,rfl,_⟩:=h; rfl
 obtain ⟨hg,st,m,rfl,⟨hh,h6,kvs,f,hst,lk,pos,h99⟩,q⟩:=h;refine ⟨_,(@aH _ _ _ _ _ (jH (bA c_look_for_flag hr (by decide) rfl (aA (mv 2) aD))) (@aH _ _ _ _ _ (bR (bB eQV (bF dW (qA Cv PySem.F.type_dict_get (bXR (Room.u1 hr)) (mv 1) (aA (mv 2) (aA aJ aD))) (bX De PySem.F.slot_list_count PySem.F.type_list_count cZM (bA c_all_flags_on hr (by decide) rfl (aA (mv 0) aD)) (aA (mv 2) aD))) (gD rfl G.s_MOST_OF_A_FLAG) (aR _)) (@aI _ _ _ qD) aU) (@aI _ _ _ (aO (kK (aA (mv 0) (aA (bA c_put_in hr (by decide) rfl (aA (mv 1) (aA (bJ (aA (mv 2) aD)) aD))) aD))))))),?_⟩
 walk_at "go";refine ⟨rfl,?_⟩;have hD:=uV hst
 walk_at "go";refine bJK (z:=one 97) (.inl hst) ?_;rw [lk.val 97,wD];walk_at "go";refine ⟨hg,m,rfl,hh,h6,λr1 H1 hr1 s1 e1=>?_⟩;have re1:=aQ e1
 walk_at "go";refine cX6 (ys:=[]) (z:=one 97) re1 ?_;rw [show (([]:List Str).countP (· == one 97):Nat)=0 from rfl];walk_at "go";rw [Au (show ¬ (99:Int)<=cntF f 97+((0:Nat):Int) by omega)]
 walk_at "go";refine ⟨by show 1<=sizeLine; decide,λp2 hp2=>?_⟩
 have k2:=s1.trans (aF hp2 (.lst [V.str (Str.ofString "a")]))
 have e2:rdL (upd H1 p2 (.lst [V.str (Str.ofString "a")])) p2=some (([97].map one).map V.str):=bH
 generalize upd H1 p2 (.lst [V.str (Str.ofString "a")])=H2 at k2 e2 ⊢;walk_at "go";refine ⟨st,p2,kvs,f,[97],rfl,k2 _ _ hst,lk,pos,e2,by show 1<=1000; decide,λst' kws H3 _ s3 e3 _=>?_⟩
 walk_at "go";refine ⟨by show 2<=sizeLine; decide,λt ht=>?_⟩
 have s03:=k2.trans s3
 exact q t st' kws _ (s03.trans (aF ht _)) (none_of s03 ht) aG (aF ht _ _ _ e3)
def dU (aL:Addr):Sp:=λvs H Q _=>∃ (b hg st dp:Addr) (m:Nat),vs=[.ref b,.ref hg,.ref st,.ref dp]/\FindOk H hg st m/\H dp=some (.tup [.str (Str.ofString "find"),.str (Str.ofString "a")])/\
 ∀ (t st':Addr) (kws:List (Key×V)) (H':Hp),Same H H'->H t=none->H' t=some (.tup [.ref hg,.ref st'])->H' st'=some (.dK kws)->Q (.ref t) H'
theorem cQJ {aL:Addr} {vs:List V} {H:Hp} {Q Q':VK} {E:XK} (h:∀ v H,Q v H->Q' v H) (q:dU aL vs H Q E):dU aL vs H Q' E:=by
 obtain ⟨b,hg,st,dp,m,e,a1,a2,q1⟩:=q;exact ⟨b,hg,st,dp,m,e,a1,a2,λt st' kws H' b1 b2 b3 b4=>h _ _ (q1 t st' kws H' b1 b2 b3 b4)⟩
theorem rL:FnScope ["book", "halyards", "locker", "deed"] ["book", "halyards", "locker", "deed"] (aE dP):=by walk_at "sc"
theorem rC {aTower Zz Zw aDesk Zx Zu Zv Zy Zt Zs:Addr} {f:Addr} {fd:FuncData} (F:Fun K "behind_deed" "behind_deed" dP f fd) (G:Gs K mg w aTower Zz Zw aDesk Zx Zu Zv Zy Zt Zs) (c_behind_say:Cal P w K mg base 1 "behind_say" ["book", "halyards", "locker", "text"] lS) (c_behind_haul:Cal P w K mg base 1 "behind_haul" ["halyards", "locker", "number", "word"] kA) (c_behind_lower:Cal P w K mg base 1 "behind_lower" ["halyards", "locker", "number"] jT) (c_behind_lose:Cal P w K mg base 1 "behind_lose" ["halyards", "locker", "flag"] kP) (c_behind_find:Cal P w K mg base 3 "behind_find" ["halyards", "locker", "flag"] kT):FnOk P w K mg base (CXr P w) 4 f fd ["book", "halyards", "locker", "deed"] (dU aTower):=by
 refine F.okX rL (λvs H Q E h=>?_) (λcdv A outer s H vs Q E hr h=>?_)
 · obtain ⟨b,hg,st,dp,m,rfl,_⟩:=h; rfl
 obtain ⟨b,hg,st,dp,m,rfl,fo,tp,q⟩:=h;refine ⟨_,(@aH _ _ _ _ _ (bR (bB gG (bE bW (mv 3) aJ (λ_ _=>rfl)) bP (aR _)) (@aI _ _ _ (aO (bA c_behind_haul hr (by decide) rfl (aA (mv 1) (aA (mv 2) (aA (bE bW (mv 3) aJ (λ_ _=>rfl)) (aA (bE bW (mv 3) aJ (λ_ _=>rfl)) aD))))))) aU) (@aH _ _ _ _ _ (bR (bB gG (bE bW (mv 3) aJ (λ_ _=>rfl)) bP (aR _)) (@aI _ _ _ (aO (bA c_behind_lower hr (by decide) rfl (aA (mv 1) (aA (mv 2) (aA (bE bW (mv 3) aJ (λ_ _=>rfl)) aD)))))) aU) (@aH _ _ _ _ _ (bR (bB gG (bE bW (mv 3) aJ (λ_ _=>rfl)) bP (aR _)) (@aI _ _ _ (aO (bA c_behind_lose hr (by decide) rfl (aA (mv 1) (aA (mv 2) (aA (bE bW (mv 3) aJ (λ_ _=>rfl)) aD)))))) aU) (@aH _ _ _ _ _ (bR (bB gG (bE bW (mv 3) aJ (λ_ _=>rfl)) bP (aR _)) (@aI _ _ _ (aO (bA c_behind_find hr (by decide) rfl (aA (mv 1) (aA (mv 2) (aA (bE bW (mv 3) aJ (λ_ _=>rfl)) aD)))))) aU) (@aI _ _ _ (aO (bA c_behind_say hr (by decide) rfl (aA (mv 0) (aA (mv 1) (aA (mv 2) (aA (bE bW (mv 3) aJ (λ_ _=>rfl)) aD))))))))))),?_⟩
 have tt:=eM tp
 walk_at "go";refine gX tp (v:=.str (Str.ofString "find")) (aS (j:=0) rfl) ?_;walk_at "go";rw [show decide ((Str.ofString "find")=(Str.ofString "haul"))=false from by decide +kernel]
 walk_at "go";refine gX tp (v:=.str (Str.ofString "find")) (aS (j:=0) rfl) ?_;walk_at "go";rw [show decide ((Str.ofString "find")=(Str.ofString "lower"))=false from by decide +kernel]
 walk_at "go";refine gX tp (v:=.str (Str.ofString "find")) (aS (j:=0) rfl) ?_;walk_at "go";rw [show decide ((Str.ofString "find")=(Str.ofString "lose"))=false from by decide +kernel]
 walk_at "go";refine gX tp (v:=.str (Str.ofString "find")) (aS (j:=0) rfl) ?_;walk_at "go";rw [show decide ((Str.ofString "find")=(Str.ofString "find"))=true from Aq rfl];walk_at "go";refine gX tp (v:=.str (Str.ofString "a")) (aS (j:=1) rfl) ?_;walk_at "go";exact ⟨hg,st,m,rfl,fo,q⟩
def twF (b:Addr) (m:Int) (s0 st hg dd:Addr):List (Str×V):=[("book",.ref b),("many",.int m),("stock_at_first",.ref s0),("stock",.ref st),("hung",.ref hg),("deeds",.ref dd)]
def tw1 (b:Addr):List (Str×V):=[("book",.ref b)]
def tw2 (b:Addr) (m:Int):List (Str×V):=[("book",.ref b),("many",.int m)]
def tw3 (b:Addr) (m:Int) (s0:Addr):List (Str×V):=[("book",.ref b),("many",.int m),("stock_at_first",.ref s0)]
def tw4 (b:Addr) (m:Int) (s0 st:Addr):List (Str×V):=[("book",.ref b),("many",.int m),("stock_at_first",.ref s0),("stock",.ref st)]
def tw5 (b:Addr) (m:Int) (s0 st hg:Addr):List (Str×V):=[("book",.ref b),("many",.int m),("stock_at_first",.ref s0),("stock",.ref st),("hung",.ref hg)]
theorem cQD {b:Addr}:fP "book" (.ref b) []=tw1 b:=rfl
theorem cQF {b:Addr} {m:Int}:fP "many" (.int m) (tw1 b)=tw2 b m:=rfl
theorem cQV {b:Addr} {m:Int} {s0:Addr}:fP "stock_at_first" (.ref s0) (tw2 b m)=tw3 b m s0:=rfl
theorem cXU {b:Addr} {m:Int} {s0 st:Addr}:fP "stock" (.ref st) (tw3 b m s0)=tw4 b m s0 st:=rfl
theorem cQE {b:Addr} {m:Int} {s0 st hg:Addr}:fP "hung" (.ref hg) (tw4 b m s0 st)=tw5 b m s0 st hg:=rfl
theorem cQB {b:Addr} {m:Int} {s0 st hg dd:Addr}:fP "deeds" (.ref dd) (tw5 b m s0 st hg)=twF b m s0 st hg dd:=rfl
theorem aZQ {b:Addr} {m:Int} {s0 st hg dd:Addr}:(twF b m s0 st hg dd).lookup ("book" : Str)=some (.ref b):=rfl
theorem xY {b:Addr} {m:Int} {s0 st hg dd:Addr}:(twF b m s0 st hg dd).lookup ("stock" : Str)=some (.ref st):=rfl
theorem uO {b:Addr} {m:Int} {s0 st hg dd:Addr}:(twF b m s0 st hg dd).lookup ("hung" : Str)=some (.ref hg):=rfl
theorem yJ {b:Addr} {m:Int} {s0 st hg dd:Addr}:(twF b m s0 st hg dd).lookup ("deeds" : Str)=some (.ref dd):=rfl
theorem bQ4 {b:Addr} {m:Int} {s0 st hg dd:Addr}:(twF b m s0 st hg dd).lookup ("do" : Str)=none:=rfl
theorem aQ9 {b:Addr} {m:Int} {s0 st hg dd:Addr}:(twF b m s0 st hg dd).lookup ("read" : Str)=none:=rfl
theorem aJN {b:Addr} {m:Int} {s0 st hg dd:Addr}:(twF b m s0 st hg dd).lookup ("log" : Str)=none:=rfl
theorem wF {b:Addr} {m:Int} {s0 st hg dd:Addr}:(twF b m s0 st hg dd).lookup ("locker" : Str)=none:=rfl
theorem qK {b:Addr} {m:Int} {s0 st hg dd:Addr}:(twF b m s0 st hg dd).lookup ("halyards" : Str)=none:=rfl
theorem xJ {b:Addr} {m:Int} {s0 st hg dd h':Addr}:fP "hung" (.ref h') (twF b m s0 st hg dd)=twF b m s0 st h' dd:=rfl
theorem vP {b:Addr} {m:Int} {s0 st hg dd s':Addr}:fP "stock" (.ref s') (twF b m s0 st hg dd)=twF b m s0 s' hg dd:=rfl
def SameE (l:List Addr) (H H':Hp):Prop:=∀ b o,b ∉ l->H b=some o->H' b=some o
theorem SameE.of {l:List Addr} {H H':Hp} (s:Same H H'):SameE l H H':=λb o _ e=>s b o e
theorem SameE.trans {l:List Addr} {H H' H2:Hp} (s:SameE l H H') (t:SameE l H' H2):SameE l H H2:=λb o n e=>t b o n (s b o n e)
theorem SameE.put {l:List Addr} {H H':Hp} {x:Addr} {o:HO} (hx:x∈l) (s:SameE l H H'):SameE l H (upd H' x o):=λb u n e=>by rw [aK (λz=>n (by rw [z]; exact hx))]; exact s b u n e
theorem rdE {l:List Addr} {H H':Hp} {a:Addr} {u:HO} (s:SameE l H H') (n:a ∉ l) (h:Rd H a u):Rd H' a u:=by
 rcases h with h | ⟨o,h⟩
 · exact .inl (s _ _ n h)
 · exact .inr ⟨o,s _ _ n h⟩
theorem SameE.fresh {l:List Addr} {H H':Hp} {x:Addr} {o:HO} (s:SameE l H H') (hx:H' x=none):SameE l H (upd H' x o):=λb u n e=>by
 have e2:=s b u n e
 rw [aK (λz=>by rw [z,hx] at e2; cases e2)]
 exact e2
theorem SameE.none {l:List Addr} {H H':Hp} {x:Addr} (s:SameE l H H') (n:x ∉ l) (h:H' x=none):H x=none:=by
 cases e:H x with
 | none=>rfl
 | some o=>rw [s x o n e] at h; cases h
theorem cQK (m:Nat):(List.replicate ((m:Int)).toNat [V.non]).flatten=List.replicate m V.non:=by
 rw [Int.toNat_natCast];induction m with
 | zero=>rfl
 | succ n ih=>rw [Cg,Cs,ih,Cg]; rfl
def iI (C:Addr):Sp:=λvs H Q _=>∃ (x b l dx:Addr) (xs:List V) (kvs:List (Key×V)) (f:Nat->Option Int) (m:Nat),vs=[.ref x,.ref b,.ref l,.int (m:Int)]/\H x=some (.ins C dx [])/\rdL H b=some xs/\Rd H l (.dK kvs)/\Lk kvs f/\m<=6/\
 ∀ (b' s0 st hg dd:Addr) (H':Hp),H b'=none->H hg=none->H dd=none->hg≠dd->b'≠dd->SameE [x] H H'->H' x=some (.ins C dx (twF b' m s0 st hg dd))->H' b'=some (.lst xs)->H' s0=some (.dK (kvL (cntF f) (aZ (cntF f) 27)))->H' st=some (.dK (kvL (cntF f) (aZ (cntF f) 27)))->
   H' hg=some (.lst (List.replicate m V.non))->H' dd=some (.lst [])->Q .non H'
theorem sF:FnScope ["self", "book", "locker", "many"] ["self", "book", "locker", "many"] (aE eA):=by walk_at "sc"
theorem rX {aTower Zz Zw aDesk Zx Zu Zv Zy Zt Zs:Addr} {f:Addr} {fd:FuncData} (F:Fun K "__init__" "Tower.__init__" eA f fd) (G:Gs K mg w aTower Zz Zw aDesk Zx Zu Zv Zy Zt Zs) (c_plain_locker:Cal P w K mg base 1 "plain_locker" ["locker"] dN):FnOk P w K mg base CX0 2 f fd ["self", "book", "locker", "many"] (iI aTower):=by
 refine F.ok sF (λvs H Q E h=>?_) (λcdv A outer s H vs Q E hr h=>?_)
 · obtain ⟨x,b,l,dx,xs,kvs,f,m,rfl,_⟩:=h; rfl
 obtain ⟨x,b,l,dx,xs,kvs,f,m,rfl,hx,hb,hl,hk,hm,q⟩:=h;refine ⟨_,(@aH _ _ _ _ _ (iE (mv 0) (cA zG rfl G.b_list nF (aA (mv 1) aD)) rfl) (@aH _ _ _ _ _ (iE (mv 0) (mv 3) rfl) (@aH _ _ _ _ _ (iE (mv 0) (bA c_plain_locker hr (by decide) rfl (aA (mv 2) aD)) rfl) (@aH _ _ _ _ _ (iE (mv 0) (bA c_plain_locker hr (by decide) rfl (aA (mv 2) aD)) rfl) (@aH _ _ _ _ _ (iE (mv 0) (bF aQ7 (bJ (aA fE aD)) (mv 3)) rfl) (@aI _ _ _ (iE (mv 0) (bJ aD) rfl))))))),?_⟩
 walk_at "go";intro b' hb';have nx:b'≠x:=λz=>by rw [z,hx] at hb'; cases hb'
 have nl:l ∉ [x]:=λz=>by
   rw [Am.mp z] at hl;rcases hl with h | ⟨_,h⟩ <;> (rw [hx] at h; cases h)
 have sE1:SameE [x] H (upd H b' (.lst xs)):=.of (aF hb' (.lst xs))
 have e1:(upd H b' (.lst xs)) b'=some (.lst xs):=aG
 have x1:=aF hb' (.lst xs) _ _ hx
 generalize upd H b' (.lst xs)=H1 at sE1 e1 x1 ⊢;have nin:∀ {y:Addr} {o:HO} {H':Hp} {fs:List (Str×V)},H' y=some o->H' x=some (.ins aTower dx fs)->(∀ fs',o≠.ins aTower dx fs')->y≠x:=λe1 e2 n z=>by rw [z,e2] at e1; cases e1; exact n _ rfl
 walk_at "go";refine ⟨x,aTower,dx,[],rfl,x1,G.cl_Tower,G.na_Tower_book,by decide,?_⟩
 rw [cQD];have sE2:=sE1.put (o:=.ins aTower dx (tw1 b')) (Am.mpr rfl)
 have x2:(upd H1 x (.ins aTower dx (tw1 b'))) x=some (.ins aTower dx (tw1 b')):=aG
 have e2:(upd H1 x (.ins aTower dx (tw1 b'))) b'=some (.lst xs):=by rw [aK nx]; exact e1
 generalize upd H1 x (.ins aTower dx (tw1 b'))=H2 at sE2 x2 e2 ⊢;walk_at "go";refine ⟨x,aTower,dx,_,rfl,x2,G.cl_Tower,G.na_Tower_many,by show 1<1000; decide,?_⟩
 rw [cQF];have sE3:=sE2.put (o:=.ins aTower dx (tw2 b' (m:Int))) (Am.mpr rfl)
 have x3:(upd H2 x (.ins aTower dx (tw2 b' (m:Int)))) x=some (.ins aTower dx (tw2 b' (m:Int))):=aG
 have e3:(upd H2 x (.ins aTower dx (tw2 b' (m:Int)))) b'=some (.lst xs):=by rw [aK nx]; exact e2
 generalize upd H2 x (.ins aTower dx (tw2 b' (m:Int)))=H3 at sE3 x3 e3 ⊢;walk_at "go";refine ⟨l,kvs,f,rfl,rdE sE3 nl hl,hk,λs0 H4 hs0 s4 d4=>?_⟩;have sE4:=sE3.trans (.of s4)
 have x4:=s4 _ _ x3
 have e4:=s4 _ _ e3
 have n0:=nin d4 x4 λ_=>nofun
 walk_at "go";refine ⟨x,aTower,dx,_,rfl,x4,G.cl_Tower,G.na_Tower_stock_at_first,by show 2<1000; decide,?_⟩
 rw [cQV];have sE5:=sE4.put (o:=.ins aTower dx (tw3 b' (m:Int) s0)) (Am.mpr rfl)
 have x5:(upd H4 x (.ins aTower dx (tw3 b' (m:Int) s0))) x=some (.ins aTower dx (tw3 b' (m:Int) s0)):=aG
 have e5:(upd H4 x (.ins aTower dx (tw3 b' (m:Int) s0))) b'=some (.lst xs):=by rw [aK nx]; exact e4
 have d5:(upd H4 x (.ins aTower dx (tw3 b' (m:Int) s0))) s0=some (.dK (kvL (cntF f) (aZ (cntF f) 27))):=by rw [aK n0]; exact d4
 generalize upd H4 x (.ins aTower dx (tw3 b' (m:Int) s0))=H5 at sE5 x5 e5 d5 ⊢;walk_at "go";refine ⟨l,kvs,f,rfl,rdE sE5 nl hl,hk,λst H6 hst s6 d6=>?_⟩;have sE6:=sE5.trans (.of s6)
 have x6:=s6 _ _ x5
 have e6:=s6 _ _ e5
 have d06:=s6 _ _ d5
 have n1:=nin d6 x6 λ_=>nofun
 walk_at "go";refine ⟨x,aTower,dx,_,rfl,x6,G.cl_Tower,G.na_Tower_stock,by show 3<1000; decide,?_⟩
 rw [cXU];have sE7:=sE6.put (o:=.ins aTower dx (tw4 b' (m:Int) s0 st)) (Am.mpr rfl)
 have x7:(upd H6 x (.ins aTower dx (tw4 b' (m:Int) s0 st))) x=some (.ins aTower dx (tw4 b' (m:Int) s0 st)):=aG
 have e7:(upd H6 x (.ins aTower dx (tw4 b' (m:Int) s0 st))) b'=some (.lst xs):=by rw [aK nx]; exact e6
 have d07:(upd H6 x (.ins aTower dx (tw4 b' (m:Int) s0 st))) s0=some (.dK (kvL (cntF f) (aZ (cntF f) 27))):=by rw [aK n0]; exact d06
 have d17:(upd H6 x (.ins aTower dx (tw4 b' (m:Int) s0 st))) st=some (.dK (kvL (cntF f) (aZ (cntF f) 27))):=by rw [aK n1]; exact d6
 generalize upd H6 x (.ins aTower dx (tw4 b' (m:Int) s0 st))=H7 at sE7 x7 e7 d07 d17 ⊢;walk_at "go";refine ⟨by show 1<=sizeLine; decide,λp0 hp0=>?_⟩
 have k8:=aF hp0 (.lst [V.non])
 have e8:(upd H7 p0 (.lst [V.non])) p0=some (.lst [V.non]):=aG
 generalize upd H7 p0 (.lst [V.non])=H8 at k8 e8 ⊢;walk_at "go";refine ⟨p0,_,[V.non],rfl,rfl,e8,by omega,by omega,by show 1 * ((m:Int)).toNat<=sizeLine; exact bQ (by omega),λhg hhg=>?_⟩
 rw [cQK];have k9:=k8.trans (aF hhg (.lst (List.replicate m V.non)))
 have h9:(upd H8 hg (.lst (List.replicate m V.non))) hg=some (.lst (List.replicate m V.non)):=aG
 have hg7:H7 hg=none:=none_of k8 hhg
 generalize upd H8 hg (.lst (List.replicate m V.non))=H9 at k9 h9 ⊢;have x9:=k9 _ _ x7
 have n2:=nin h9 x9 λ_=>nofun
 have nin1:∀ {y:Addr},y≠x->y ∉ [x]:=λn z=>n (Am.mp z)
 have hgH:=sE7.none (nin1 n2) hg7
 walk_at "go";refine ⟨x,aTower,dx,_,rfl,x9,G.cl_Tower,G.na_Tower_hung,by show 4<1000; decide,?_⟩
 rw [cQE];have sE10:=(sE7.trans (.of k9)).put (o:=.ins aTower dx (tw5 b' (m:Int) s0 st hg)) (Am.mpr rfl)
 have x10:(upd H9 x (.ins aTower dx (tw5 b' (m:Int) s0 st hg))) x=some (.ins aTower dx (tw5 b' (m:Int) s0 st hg)):=aG
 have e10:(upd H9 x (.ins aTower dx (tw5 b' (m:Int) s0 st hg))) b'=some (.lst xs):=by rw [aK nx]; exact k9 _ _ e7
 have d010:(upd H9 x (.ins aTower dx (tw5 b' (m:Int) s0 st hg))) s0=some (.dK (kvL (cntF f) (aZ (cntF f) 27))):=by rw [aK n0]; exact k9 _ _ d07
 have d110:(upd H9 x (.ins aTower dx (tw5 b' (m:Int) s0 st hg))) st=some (.dK (kvL (cntF f) (aZ (cntF f) 27))):=by rw [aK n1]; exact k9 _ _ d17
 have h10:(upd H9 x (.ins aTower dx (tw5 b' (m:Int) s0 st hg))) hg=some (.lst (List.replicate m V.non)):=by rw [aK n2]; exact h9
 generalize upd H9 x (.ins aTower dx (tw5 b' (m:Int) s0 st hg))=H10 at sE10 x10 e10 d010 d110 h10 ⊢;walk_at "go";refine ⟨by decide,λdd hdd=>?_⟩
 have k11:=aF hdd (.lst [])
 have f11:(upd H10 dd (.lst [])) dd=some (.lst []):=aG
 have nhd:hg≠dd:=λz=>by rw [<-z,h10] at hdd; cases hdd
 have nbd:b'≠dd:=λz=>by rw [<-z,e10] at hdd; cases hdd
 have x11:=k11 _ _ x10
 have ndx:dd≠x:=λz=>by rw [z,x10] at hdd; cases hdd
 have ddH:=sE10.none (nin1 ndx) hdd
 generalize upd H10 dd (.lst [])=H11 at k11 f11 x11 ⊢;walk_at "go";refine ⟨x,aTower,dx,_,rfl,x11,G.cl_Tower,G.na_Tower_deeds,by show 5<1000; decide,?_⟩
 rw [cQB];refine q b' s0 st hg dd _ hb' hgH ddH nhd nbd ((sE10.trans (.of k11)).put (Am.mpr rfl)) aG ?_ ?_ ?_ ?_ ?_
 · rw [aK nx]; exact k11 _ _ e10
 · rw [aK n0]; exact k11 _ _ d010
 · rw [aK n1]; exact k11 _ _ d110
 · rw [aK n2]; exact k11 _ _ h10
 · rw [aK ndx]; exact f11
theorem bJC {H:Hp} {Q:VK} {p:Addr} {xs:List V} (e:H p=some (.tup xs)) (h:Q (.int (xs.length:Int)) H):L2.zW [.ref p] H Q:=by
 have e1:rdL H p=none:=by unfold rdL; rw [e]; rfl
 unfold L2.zW;simp only [e1,eM e];exact h
def things:List (Str×Int):=[("haul",3),("lower",2),("lose",2),("find",2),("say",2)]
def kG (C aL:Addr):Sp:=λvs H Q E=>∃ (a b s0 st hg dd dp dx:Addr) (m:Int) (z:Str) (zs ds:List V),vs=[.ref a,.ref dp]/\H a=some (.ins C dx (twF b m s0 st hg dd))/\H dp=some (.tup (.str z::zs))/\things.lookup z=some (((V.str z::zs).length:Nat):Int)/\H dd=some (.lst ds)/\ds.length<=1000/\
 ∀ p0,H p0=none->dU aL [.ref b,.ref hg,.ref st,.ref dp] (upd H p0 (.tup [])) (λv H1=>∃ (p hg' st':Addr),v=.ref p/\H1 p=some (.tup [.ref hg',.ref st'])/\H1 a=some (.ins C dx (twF b m s0 st hg dd))/\H1 dd=some (.lst ds)/\(∀ ys,H1 a≠some (.lst ys))/\
   Q .non (upd (upd H1 a (.ins C dx (twF b m s0 st' hg' dd))) dd (.lst (ds++[.ref dp])))) E
theorem sc_Tower_do:FnScope ["self", "deed", "behind"] ["self", "deed"] (aE fN):=by walk_at "sc"
theorem xU {aTower Zz Zw aDesk Zx Zu Zv Zy Zt Zs:Addr} {f:Addr} {fd:FuncData} (F:Fun K "do" "Tower.do" fN f fd) (G:Gs K mg w aTower Zz Zw aDesk Zx Zu Zv Zy Zt Zs) (c_behind_deed:wN P w K mg base 4 "behind_deed" ["book", "halyards", "locker", "deed"] (dU aTower)):FnOk P w K mg base (CXr P w) 5 f fd ["self", "deed"] (kG aTower aTower):=by
 refine F.okX sc_Tower_do (λvs H Q E h=>?_) (λcdv A outer s H vs Q E hr h=>?_)
 · obtain ⟨a,b,s0,st,hg,dd,dp,dx,m,z,zs,ds,rfl,_⟩:=h; rfl
 obtain ⟨a,b,s0,st,hg,dd,dp,dx,m,z,zs,ds,rfl,ha,hdp,hz,hdd,hds,q⟩:=h;refine ⟨_,(@aH _ _ _ _ _ (bR (PW.pt (mM (bB (dZ2 hr.units0) (mv 1) (kK aD) (aR _)) (kL (bB cXT (aXK rfl G.d_THINGS_IN (aA (bE bW (mv 1) aJ (λ_ _=>rfl)) aD)) (bD fI rfl G.b_len dC (aA (mv 1) aD)) (aR _))))) (@aI _ _ _ (jB iB rfl rfl rfl G.c_NoDeed G.x_NoDeed By (@aW _ _ _ _ _ _ aD))) aU) (@aH _ _ _ _ _ (@bI _ _ 2 _ _ _ _ sc_Tower_do.nd (by rfl) (by exact (Or.inl rfl)) (lH c_behind_deed kZ hr (by decide) rfl (aA (fA (mv 0) rfl) (aA (fA (mv 0) rfl) (aA (fA (mv 0) rfl) (aA (mv 1) aD))))) (by rfl) (by walk_at "o")) (@aH _ _ _ _ _ (iE (mv 0) (bE bW (mv 2) aJ (λ_ _=>rfl)) rfl) (@aH _ _ _ _ _ (iE (mv 0) (bE bW (mv 2) aJ (λ_ _=>rfl)) rfl) (@aI _ _ _ (jH (bX De PySem.F.slot_list_append PySem.F.type_list_append cJ0 (fA (mv 0) rfl) (aA (mv 1) aD)))))))),?_⟩
 have tdp:=eM hdp
 walk_at "go";refine ⟨by decide,λp0 hp0=>?_⟩
 have k1:=aF hp0 (.tup [])
 refine dZX (k1 _ _ hdp) aG ?_;have q0:=q p0 hp0
 have a1:=k1 _ _ ha
 have dp1:=k1 _ _ hdp
 have dd1:=k1 _ _ hdd
 generalize upd H p0 (.tup [])=H1 at k1 a1 dp1 dd1 q0 ⊢;have tdp1:=eM dp1
 walk_at "go";rw [show (V.str z::zs).isEmpty=false from rfl];walk_at "go";refine gX dp1 (v:=.str z) (aS (j:=0) rfl) ?_;walk_at "go";refine ⟨z,rfl,?_⟩;rw [show List.lookup z [("haul",3),("lower",2),("lose",2),("find",2),("say",2)]=some (((V.str z::zs).length:Nat):Int) from hz];walk_at "go";refine bJC dp1 ?_;walk_at "go";rw [show (!decide ((((V.str z::zs).length:Nat):Int)=(((V.str z::zs).length:Nat):Int)))=false by rw [Aq rfl]; rfl]
 walk_at "go";refine ⟨a,aTower,dx,_,_,rfl,a1,G.cl_Tower,G.na_Tower_book,aZQ,?_⟩;walk_at "go";refine ⟨a,aTower,dx,_,_,rfl,a1,G.cl_Tower,G.na_Tower_hung,uO,?_⟩;walk_at "go";refine ⟨a,aTower,dx,_,_,rfl,a1,G.cl_Tower,G.na_Tower_stock,xY,?_⟩;walk_at "go";refine cQJ (λv H2 hv=>?_) q0;obtain ⟨p,hg',st',rfl,ep,ea,edd,_,qq⟩:=hv;have nd:dd≠a:=λz=>by rw [z,ea] at edd; cases edd
 have np:p≠a:=λz=>by rw [z,ea] at ep; cases ep
 have up:∀ o u,upd (upd H2 a o) a u=upd H2 a u:=λo u=>aZX
 have tp2:=eM ep
 walk_at "go";refine gX ep (v:=.ref hg') (aS (j:=0) rfl) ?_;walk_at "go";refine ⟨a,aTower,dx,_,rfl,ea,G.cl_Tower,G.na_Tower_hung,by show 6<1000; decide,?_⟩
 rw [xJ];have a3:(upd H2 a (.ins aTower dx (twF b m s0 st hg' dd))) a=some (.ins aTower dx (twF b m s0 st hg' dd)):=aG
 have p3:(upd H2 a (.ins aTower dx (twF b m s0 st hg' dd))) p=some (.tup [.ref hg',.ref st']):=by rw [aK np]; exact ep
 walk_at "go";refine gX p3 (v:=.ref st') (aS (j:=1) rfl) ?_;walk_at "go";refine ⟨a,aTower,dx,_,rfl,a3,G.cl_Tower,G.na_Tower_stock,by show 6<1000; decide,?_⟩
 rw [vP,up];have a4:(upd H2 a (.ins aTower dx (twF b m s0 st' hg' dd))) a=some (.ins aTower dx (twF b m s0 st' hg' dd)):=aG
 have dd4:(upd H2 a (.ins aTower dx (twF b m s0 st' hg' dd))) dd=some (.lst ds):=by rw [aK nd]; exact edd
 have md4:=eZ dd4
 walk_at "go";refine ⟨a,aTower,dx,_,_,rfl,a4,G.cl_Tower,G.na_Tower_deeds,yJ,?_⟩;walk_at "go";exact qq
def jL (C:Addr):Sp:=λvs H Q _=>∃ (a b s0 st hg dd dx:Addr) (m:Int) (ds:List V),vs=[.ref a]/\H a=some (.ins C dx (twF b m s0 st hg dd))/\H dd=some (.lst ds)/\∀ (r:Addr) (H':Hp),H r=none->Same H H'->H' r=some (.lst ds)->Q (.ref r) H'
theorem vL:FnScope ["self"] ["self"] (aE eS):=by walk_at "sc"
theorem uY {aTower Zz Zw aDesk Zx Zu Zv Zy Zt Zs:Addr} {f:Addr} {fd:FuncData} (F:Fun K "log" "Tower.log" eS f fd) (G:Gs K mg w aTower Zz Zw aDesk Zx Zu Zv Zy Zt Zs)  : FnOk P w K mg base CX0 1 f fd ["self"] (jL aTower):=by
 refine F.ok vL (λvs H Q E h=>?_) (λcdv A outer s H vs Q E hr h=>?_)
 · obtain ⟨a,b,s0,st,hg,dd,dx,m,ds,rfl,_⟩:=h; rfl
 obtain ⟨a,b,s0,st,hg,dd,dx,m,ds,rfl,ha,hdd,q⟩:=h;refine ⟨_,(@aI _ _ _ (aO (cA zG rfl G.b_list nF (aA (fA (mv 0) rfl) aD)))),?_⟩;have rdd:=aQ hdd
 walk_at "go";refine ⟨a,aTower,dx,_,_,rfl,ha,G.cl_Tower,G.na_Tower_deeds,yJ,?_⟩;walk_at "go";exact λr hr=>q r _ hr (aF hr _) aG
def gB (C:Addr):Sp:=λvs H Q _=>∃ (a b s0 st hg dd dx:Addr) (m:Int) (kvs:List (Key×V)) (f:Nat->Option Int),vs=[.ref a]/\H a=some (.ins C dx (twF b m s0 st hg dd))/\Rd H st (.dK kvs)/\Lk kvs f/\∀ (r:Addr) (H':Hp),H r=none->Same H H'->H' r=some (.dK (kvL (cntF f) (aZ (cntF f) 27)))->Q (.ref r) H'
theorem pF:FnScope ["self"] ["self"] (aE cX):=by walk_at "sc"
theorem pG {aTower Zz Zw aDesk Zx Zu Zv Zy Zt Zs:Addr} {f:Addr} {fd:FuncData} (F:Fun K "locker" "Tower.locker" cX f fd) (G:Gs K mg w aTower Zz Zw aDesk Zx Zu Zv Zy Zt Zs) (c_plain_locker:Cal P w K mg base 1 "plain_locker" ["locker"] dN):FnOk P w K mg base CX0 2 f fd ["self"] (gB aTower):=by
 refine F.ok pF (λvs H Q E h=>?_) (λcdv A outer s H vs Q E hr h=>?_)
 · obtain ⟨a,b,s0,st,hg,dd,dx,m,kvs,f,rfl,_⟩:=h; rfl
 obtain ⟨a,b,s0,st,hg,dd,dx,m,kvs,f,rfl,ha,hst,hk,q⟩:=h;refine ⟨_,(@aI _ _ _ (aO (bA c_plain_locker hr (by decide) rfl (aA (fA (mv 0) rfl) aD)))),?_⟩
 walk_at "go";refine ⟨a,aTower,dx,_,_,rfl,ha,G.cl_Tower,G.na_Tower_stock,xY,?_⟩;walk_at "go";exact ⟨st,kvs,f,rfl,hst,hk,λr H' hr s' e=>q r H' hr s' e⟩
def eX (C:Addr):Sp:=λvs H Q _=>∃ (a b s0 st hg dd dx:Addr) (m:Int) (us:List V) (hs:List (Option (List Nat))),vs=[.ref a]/\H a=some (.ins C dx (twF b m s0 st hg dd))/\rdL H hg=some us/\HalsAt H us hs/\us.length<=1000/\
 ∀ (r:Addr) (us':List V) (H':Hp),H r=none->Same H H'->H' r=some (.lst us')->HalsAt H' us' hs->(∀ p,V.ref p∈us'->H p=none)->Q (.ref r) H'
theorem nD:FnScope ["self"] ["self"] (aE cK):=by walk_at "sc"
theorem nA {aTower Zz Zw aDesk Zx Zu Zv Zy Zt Zs:Addr} {f:Addr} {fd:FuncData} (F:Fun K "halyards" "Tower.halyards" cK f fd) (G:Gs K mg w aTower Zz Zw aDesk Zx Zu Zv Zy Zt Zs)  : FnOk P w K mg base CX0 1 f fd ["self"] (eX aTower):=by
 refine F.ok nD (λvs H Q E h=>?_) (λcdv A outer s H vs Q E hr h=>?_)
 · obtain ⟨a,b,s0,st,hg,dd,dx,m,us,hs,rfl,_⟩:=h; rfl
 obtain ⟨a,b,s0,st,hg,dd,dx,m,us,hs,rfl,ha,hhg,hat,hul,q⟩:=h;refine ⟨_,(@aI _ _ _ (aO (cM rfl (cQ (fA (mv 0) rfl)) (fL (N:=["hoist"]) (by decide +kernel) (by decide +kernel)) (by decide +kernel) rfl (by decide +kernel) (λC s₀ H₀ ex=>(bL (i:=0) (show List.Nodup (["hoist"]:List Str) by decide +kernel) rfl (Or.inl rfl))) (λC s₀ H₀ ex=>cN) (λC s₀ H₀ ex=>(kC (bB aZO (mv 0) fE (aR _)) fE (cA zG rfl G.b_list nF (aA (mv 0) aD))))))),?_⟩
 walk_at "go";refine ⟨a,aTower,dx,_,_,rfl,ha,G.cl_Tower,G.na_Tower_hung,uO,?_⟩;walk_at "go";refine cZ8 (hs:=hs) hhg (bT (by omega)) hat.len (λi x h Hc A B hx hh sm hA=>?_) (λD Hd vs hD sD hd hatD hfr=>?_)
 · have hv:=(hat.keep sm).val i x h hx hh
   cases h with
   | none=>
     obtain rfl:x=V.non:=hv;walk_at "go";refine ⟨Wk.set rfl (Wk.refl _),?_⟩;walk_at "go";rw [show decide (V.non=V.non)=true from rfl];walk_at "go";exact hA .non _ (Same.refl _) rfl λp z=>nomatch z
   | some cs=>
     obtain ⟨pc,rfl,hpc⟩:=hv;have rc:=aQ hpc
     walk_at "go";refine ⟨Wk.set rfl (Wk.refl _),?_⟩;walk_at "go";rw [show decide (V.ref pc=V.non)=false from Au (λz=>nomatch z)]
     walk_at "go";intro l2 hl2;exact hA (.ref l2) _ (aF hl2 _) ⟨l2,rfl,aG⟩ λp z=>by cases z; exact hl2
 · exact q D vs Hd hD sD hd hatD hfr
def bXT (bk:List (Str×Str)) (cws:List (List Nat)):Prop:=cws.length=bk.length/\∀ (j:Nat) b cw,bk[j]?=some b->cws[j]?=some cw->b.1=cB cw/\1<=cw.length/\cw.length<=6/\∀ d∈cw,bM d
def lG (cws:List (List Nat)):List Str:=cws.map λcw=>cB (cw++[ckL cw])
def xC:Option (List Nat)->V
 | none=>.non
 | some cs=>.str (uF (cs.map one))
def rdN (cws:List (List Nat)):Option (List Nat)->V
 | none=>.non
 | some cs=>match (lG cws).findIdx? (λy=>y == uF (cs.map one)) with | some j=>.int (j:Int) | none=>.non
theorem eXJ (y:Str) (zs:List Str):inV (.str y) (zs.map V.str)=decide (y∈zs):=by
 unfold inV;rw [List.any_map,Fv,List.any_eq_true,Da];constructor
 · rintro ⟨z,hz,e⟩;have e':(z == y)=true:=e
   rw [<-eq_of_beq e'];exact hz
 · intro h;exact ⟨y,h,show (y == y)=true from Fn _⟩
theorem dZF (zs:List Str):inV .non (zs.map V.str)=false:=by
 unfold inV;rw [List.any_map,Ge];intro z _ h;cases h
def iJ (C:Addr):Sp:=λvs H Q _=>∃ (a b s0 st hg dd dx:Addr) (m:Int) (us:List V) (hs:List (Option (List Nat))) (bk:List (Str×Str)) (cws:List (List Nat)),vs=[.ref a]/\H a=some (.ins C dx (twF b m s0 st hg dd))/\rdL H hg=some us/\HalsAt H us hs/\us.length<=1000/\oV hs/\BkAt H b bk/\bk.length<=60/\bXT bk cws/\
 ∀ (r:Addr) (H':Hp),H r=none->Same H H'->H' r=some (.lst (hs.map (rdN cws)))->Q (.ref r) H'
theorem sc_Tower_read:FnScope ["self", "spoken", "words"] ["self"] (aE dG):=by walk_at "sc"
theorem rZ {aTower Zz Zw aDesk Zx Zu Zv Zy Zt Zs:Addr} {f:Addr} {fd:FuncData} (F:Fun K "read" "Tower.read" dG f fd) (G:Gs K mg w aTower Zz Zw aDesk Zx Zu Zv Zy Zt Zs) (c_with_check:Cal P w K mg base 5 "with_check" ["word"] lN) (c_read_of:wN P w K mg base 4 "read_of" ["flags"] (qC Zx)):FnOk P w K mg base CX0 6 f fd ["self"] (iJ aTower):=by
 refine F.ok sc_Tower_read (λvs H Q E h=>?_) (λcdv A outer s H vs Q E hr h=>?_)
 · obtain ⟨a,b,s0,st,hg,dd,dx,m,us,hs,bk,cws,rfl,_⟩:=h; rfl
 obtain ⟨a,b,s0,st,hg,dd,dx,m,us,hs,bk,cws,rfl,ha,hhg,hat,hul,hok,hbk,h60,hcw,q⟩:=h;refine ⟨_,(@aH _ _ _ _ _ (@bI _ _ 1 _ _ _ _ sc_Tower_read.nd (by rfl) (by exact (Or.inr rfl)) (cM rfl (cQ (fA (mv 0) rfl)) (fL (N:=["word", "meaning"]) (by decide +kernel) (by decide +kernel)) (by decide +kernel) rfl (by decide +kernel) (λC s₀ H₀ ex=>(nI (K:=K) (i:=0) (j:=1) (by rfl) (by rfl) (show List.Nodup (["word", "meaning"]:List Str) by decide +kernel) (by rfl) (by exact Or.inl rfl) (by exact Or.inr rfl) (by rfl) (by exact Or.inl rfl) (by exact Or.inr rfl))) (λC s₀ H₀ ex=>cN) (λC s₀ H₀ ex=>(bA c_with_check hr (by decide) rfl (aA (mv 0) aD)))) (by rfl) (by walk_at "o")) (@aH _ _ _ _ _ (mU (i:=2) sc_Tower_read.nd rfl (Or.inl rfl) rfl (cQ (fA (mv 0) rfl)) (fL (N:=["hoist"]) (by decide +kernel) (by decide +kernel)) (by decide +kernel) rfl (by decide +kernel) (λC s₀ H₀ ex=>(bL (i:=0) (show List.Nodup (["hoist"]:List Str) by decide +kernel) rfl (Or.inl rfl))) (λC s₀ H₀ ex=>cN) (λC s₀ H₀ ex=>(kC (bB aZO (mv 0) fE (aR _)) fE (lH c_read_of tY hr (by decide) rfl (aA (mv 0) aD))))) (@aI _ _ _ (aO (cM rfl (cQ (mv 2)) (uI (N:=["word", "spoken"]) ["self", "spoken", "words"] (aE dG) [none,some 1] rfl rfl rfl (λx h=>fW h) (by decide +kernel)) (by decide +kernel) rfl (by decide +kernel) (λC s₀ H₀ ex=>(bL (i:=0) (show List.Nodup (["word", "spoken"]:List Str) by decide +kernel) rfl (Or.inl rfl))) (λC s₀ H₀ ex=>cN) (λC s₀ H₀ ex=>(kC (bB aZH (mv 0) (mv 1) (by rfl)) (bX De Er PySem.F.type_list_index bZ4 (mv 1) (aA (mv 0) aD)) fE))))))),?_⟩
 obtain ⟨qs,b1,b2,b3⟩:=id hbk;have rq:=aQ b1
 have hql:(qs.map V.ref).length=bk.length:=by rw [Ab,b2]
 walk_at "go";refine ⟨a,aTower,dx,_,_,rfl,ha,G.cl_Tower,G.na_Tower_book,aZQ,?_⟩;walk_at "go";refine fY (xs:=qs.map V.ref) (λj=>(cws[j]?).map λcw=>V.str (cB (cw++[ckL cw]))) rq (by rw [hql]; exact bT (by omega)) (λj x Hc A B hx sm hA hB=>?_) (λD Hd hD sD hd=>?_)
 · rw [Af] at hx;obtain ⟨p,ep,rfl⟩:=Dz.mp hx;have hjb:j<bk.length:=by rw [<-b2]; exact (Ae.mp ep).1
   have ec:cws[j]?=some (cws[j]'(by rw [hcw.1]; exact hjb)):=Aa _
   obtain ⟨hw,hc1,hc6,hcL⟩:=hcw.2 j _ _ (Aa hjb) ec;have tp:=sm _ _ (b3 j p _ ep (Aa hjb))
   rw [hw] at tp;have tpl:=eM tp
   walk_at "go";refine ⟨Wk.set rfl (Wk.set rfl (Wk.refl _)),?_⟩;walk_at "go";exact ⟨_,rfl,hc1,hc6,hcL,λH' s' _ _=>hA _ (by rw [ec]; rfl) H' s'⟩
 · rw [hql,<-hcw.1,dX (λcw=>V.str (cB (cw++[ckL cw])))] at hd;have hspk:Hd D=some (.lst ((lG cws).map V.str)):=by rw [hd]; unfold lG; rw [Cb]; rfl
   have haD:=sD _ _ ha
   have hhD:=aV sD hhg
   have hatD:=hat.keep sD
   walk_at "go";refine ⟨a,aTower,dx,_,_,rfl,haD,G.cl_Tower,G.na_Tower_hung,uO,?_⟩;walk_at "go";refine fY (xs:=us) (λj=>(hs[j]?).map xC) hhD (bT (by omega)) (λj x Hc A B hx sm hA hB=>?_) (λD2 Hd2 hD2 sD2 hd2=>?_)
   · have hjl:j<hs.length:=by rw [<-hat.len]; exact (Ae.mp hx).1
     obtain ⟨o,eh⟩:∃ o,hs[j]?=some o:=⟨_,Aa hjl⟩;have hv:=(hatD.keep sm).val j x _ hx eh
     cases o with
     | none=>
       obtain rfl:x=V.non:=hv;walk_at "go";refine ⟨Wk.set rfl (Wk.refl _),?_⟩;walk_at "go";rw [show decide (V.non=V.non)=true from rfl];walk_at "go";exact hA _ (by rw [eh]; rfl) _ (Same.refl _)
     | some cs=>
       obtain ⟨pc,rfl,hpc⟩:=hv;have hB':=hok cs (Ap eh)
       have h7:=jE hB'
       walk_at "go";refine ⟨Wk.set rfl (Wk.refl _),?_⟩;walk_at "go";rw [show decide (V.ref pc=V.non)=false from Au (λz=>nomatch z)]
       walk_at "go";exact ⟨pc,cs.map one,rfl,aQ hpc,by omega,λz hz=>by obtain ⟨c,_,rfl⟩:=Bw.mp hz; show 1<=1000; decide,λ_ H' s'=>hA _ (by rw [eh]; rfl) H' s',λz=>by rw [hB'] at z; cases z⟩
   · rw [hat.len,dX xC] at hd2;have r2:=aQ hd2
     have rs2:=aQ (sD2 _ _ hspk)
     have hll:(hs.map xC).length<=1000:=by rw [Ab,<-hat.len]; exact hul
     walk_at "go";refine fY (xs:=hs.map xC) (λj=>(hs[j]?).map (rdN cws)) r2 (bT (by omega)) (λj x Hc A B hx sm hA hB=>?_) (λD3 Hd3 hD3 sD3 hd3=>?_)
     · rw [Af] at hx;obtain ⟨o,eo,rfl⟩:=Dz.mp hx;have rsc:=aV sm rs2
       have r:=hA (rdN cws o) (by rw [eo]; rfl)
       cases o with
       | none=>
         walk_at "go";refine ⟨Wk.set rfl (Wk.refl _),?_⟩;walk_at "go";refine zE (neg:=false) rsc rfl (cR _) ?_;rw [if_neg Al,show xC none=V.non from rfl,dZF];walk_at "go";exact r _ (Same.refl _)
       | some cs=>
         have r':∀ Hd,Same Hc Hd->A (match (lG cws).findIdx? (λy=>y == uF (cs.map one)) with | some j=>V.int (j:Int) | none=>.non) Hd:=r
         change lP 0 (V.str (uF (cs.map one))) _ _ _
         generalize uF (cs.map one)=z at r' ⊢;walk_at "go";refine ⟨Wk.set rfl (Wk.refl _),?_⟩;walk_at "go";refine zE (neg:=false) rsc rfl (cR _) ?_;rw [if_neg Al,eXJ];cases e:(lG cws).findIdx? (λy=>y == z) with
         | none=>
           rw [e] at r';rw [decide_eq_false λhm=>by have:=List.findIdx?_eq_none_iff.mp e z hm; simp at this]
           walk_at "go";exact r' _ (Same.refl _)
         | some k=>
           rw [e] at r';obtain ⟨k1,k2,k3⟩:=List.findIdx?_eq_some_iff_getElem.mp e;have ez:(lG cws)[k]=z:=eq_of_beq k2
           rw [Aq (by rw [<-ez]; exact Dd _)]
           walk_at "go";refine bXY rsc (by rw [Aa k1,ez]) (λi y hi hy e2=>?_) (r' _ (Same.refl _))
           obtain ⟨i1,i2⟩:=Ae.mp hy;have:=k3 i hi
           rw [i2,e2] at this;simp at this
     · rw [Ab,dX (rdN cws)] at hd3;exact q D3 Hd3 (none_of (sD.trans sD2) hD3) (sD.trans (sD2.trans sD3)) hd3
def wordsIn:List (Str×Int):=[("haul",3),("lower",2),("lose",2),("find",2),("sight",2),("check",2),("halyards",1),("locker",1),("read",1),("log",1)]
structure RowW (w:Str) (r:List Str):Prop where
 ne:inV (.str (Str.ofString "")) ((w::r).map V.str)=false
 wt:inV (.str w) ((["say", "cut"]:List Str).map V.str)=false
 wi:wordsIn.lookup w=some (((w::r).length:Nat):Int)
def tI:Sp:=λvs H Q _=>∃ (a:Addr) (w:Str) (r:List Str),vs=[.ref a]/\rdL H a=some ((w::r).map V.str)/\RowW w r/\Q (.bl true) H
theorem aJ8:FnScope ["words"] ["words"] (aE iX):=by walk_at "sc"
theorem bQC {aTower Zz Zw aDesk Zx Zu Zv Zy Zt Zs:Addr} {f:Addr} {fd:FuncData} (F:Fun K "is_row" "is_row" iX f fd) (G:Gs K mg w aTower Zz Zw aDesk Zx Zu Zv Zy Zt Zs)  : FnOk P w K mg base CX0 1 f fd ["words"] tI:=by
 refine F.ok aJ8 (λvs H Q E h=>?_) (λcdv A outer s H vs Q E hr h=>?_)
 · obtain ⟨a,w',r,rfl,_⟩:=h; rfl
 obtain ⟨a,w',r,rfl,ra,hw,q⟩:=h;refine ⟨_,(@aH _ _ _ _ _ (bR (bB aZH bP (mv 0) (by rfl)) (@aI _ _ _ (aO jW)) aU) (@aH _ _ _ _ _ (bR (dX7 G.t_WITH_TERMS rfl (bE bW (mv 0) aJ (λ_ _=>rfl))) (@aI _ _ _ (aO (cG xD (bD fI rfl G.b_len dC (aA (mv 0) aD)) aJ (aR _)))) aU) (@aI _ _ _ (aO (cG gG (aXK rfl G.d_WORDS_IN (aA (bE bW (mv 0) aJ (λ_ _=>rfl)) aD)) (bD fI rfl G.b_len dC (aA (mv 0) aD)) (aR _)))))),?_⟩
 walk_at "go";refine zE (neg:=false) ra rfl (cR _) ?_;rw [if_neg Al,hw.ne];walk_at "go";refine bY ra (v:=.str w') (aS (j:=0) rfl) ?_;refine ⟨w',rfl,?_⟩;rw [hw.wt];walk_at "go";refine bY ra (v:=.str w') (aS (j:=0) rfl) ?_;walk_at "go";refine ⟨w',rfl,?_⟩;rw [show List.lookup w' [("haul",3),("lower",2),("lose",2),("find",2),("sight",2),("check",2),("halyards",1),("locker",1),("read",1),("log",1)]=some (((w'::r).length:Nat):Int) from hw.wi];walk_at "go";rw [show decide ((((w'::r).length:Nat):Int)=((((w'::r).map V.str).length:Nat):Int))=true from Aq (by rw [Ab])]
 exact q
def jU:Sp:=λvs H Q _=>∃ (z w:Str) (r:List Str),vs=[.str z]/\z.length<=90/\Txt.split z (Str.ofString " ")=w::r/\RowW w r/\∀ (a:Addr) (H':Hp),H a=none->Same H H'->H' a=some (.lst ((w::r).map V.str))->Q (.ref a) H'
theorem sc_words_of_row:FnScope ["row", "words"] ["row"] (aE dB):=by walk_at "sc"
theorem pH {aTower Zz Zw aDesk Zx Zu Zv Zy Zt Zs:Addr} {f:Addr} {fd:FuncData} (F:Fun K "words_of_row" "words_of_row" dB f fd) (G:Gs K mg w aTower Zz Zw aDesk Zx Zu Zv Zy Zt Zs) (c_is_row:Cal P w K mg base 1 "is_row" ["words"] tI):FnOk P w K mg base CX0 2 f fd ["row"] jU:=by
 refine F.ok sc_words_of_row (λvs H Q E h=>?_) (λcdv A outer s H vs Q E hr h=>?_)
 · obtain ⟨z,w',r,rfl,_⟩:=h; rfl
 obtain ⟨z,w',r,rfl,hz,hsp,hw,q⟩:=h;refine ⟨_,(@aH _ _ _ _ _ (@bI _ _ 1 _ _ _ _ sc_words_of_row.nd (by rfl) (by exact (Or.inl rfl)) (bX Bb Df Dg lB (mv 0) (@aW _ _ _ _ _ _ aD)) (by rfl) (by walk_at "o")) (@aH _ _ _ _ _ (bR (kR (dZ (bA c_is_row hr (by decide) rfl (aA (mv 1) aD)))) (@aI _ _ _ qD) aU) (@aI _ _ _ (aO (mv 1))))),?_⟩
 walk_at "go";refine kF (by decide) (by omega) λl hl=>?_
 rw [hsp];have s1:=aF hl (.lst ((w'::r).map V.str))
 have e1:(upd H l (.lst ((w'::r).map V.str))) l=some (.lst ((w'::r).map V.str)):=aG
 generalize upd H l (.lst ((w'::r).map V.str))=H1 at s1 e1 ⊢;walk_at "go";refine ⟨l,w',r,rfl,aQ e1,hw,?_⟩;walk_at "go";exact q l H1 hl s1 e1
def fU (w:Str):Prop:=decide (w=Str.ofString "haul")=false/\decide (w=Str.ofString "lower")=false/\decide (w=Str.ofString "lose")=false/\decide (w=Str.ofString "find")=false/\decide (w=Str.ofString "say")=false
def qY:Sp:=λvs H Q _=>∃ (a:Addr) (w:Str) (r:List Str),vs=[.ref a]/\rdL H a=some ((w::r).map V.str)/\((w=Str.ofString "find"/\r=[Str.ofString "a"]/\∀ t,H t=none->Q (.ref t) (upd H t (.tup [.str (Str.ofString "find"),.str (Str.ofString "a")])))\/(fU w/\Q .non H))
theorem zV:FnScope ["words"] ["words"] (aE gH):=by walk_at "sc"
theorem zH {aTower Zz Zw aDesk Zx Zu Zv Zy Zt Zs:Addr} {f:Addr} {fd:FuncData} (F:Fun K "deed_of" "deed_of" gH f fd) (G:Gs K mg w aTower Zz Zw aDesk Zx Zu Zv Zy Zt Zs) (c_halyard_number:Cal P w K mg base 1 "halyard_number" ["text"] iD):FnOk P w K mg base CX0 2 f fd ["words"] qY:=by
 refine F.ok zV (λvs H Q E h=>?_) (λcdv A outer s H vs Q E hr h=>?_)
 · obtain ⟨a,w',r,rfl,_⟩:=h; rfl
 obtain ⟨a,w',r,rfl,ra,h⟩:=h;refine ⟨_,(@aH _ _ _ _ _ (bR (bB gG (bE bW (mv 0) aJ (λ_ _=>rfl)) bP (aR _)) (@aI _ _ _ (aO (kK (@aW _ _ _ _ _ _ (aA (bA c_halyard_number hr (by decide) rfl (aA (bE bW (mv 0) aJ (λ_ _=>rfl)) aD)) (aA (bE bW (mv 0) aJ (λ_ _=>rfl)) aD)))))) aU) (@aH _ _ _ _ _ (bR (bB gG (bE bW (mv 0) aJ (λ_ _=>rfl)) bP (aR _)) (@aI _ _ _ (aO (kK (@aW _ _ _ _ _ _ (aA (bA c_halyard_number hr (by decide) rfl (aA (bE bW (mv 0) aJ (λ_ _=>rfl)) aD)) aD))))) aU) (@aH _ _ _ _ _ (bR (PW.pt (mM (bB gG (bE bW (mv 0) aJ (λ_ _=>rfl)) bP (aR _)) (kL (bB gG (bE bW (mv 0) aJ (λ_ _=>rfl)) bP (aR _))))) (@aI _ _ _ (aO (kK (aA (bE bW (mv 0) aJ (λ_ _=>rfl)) (aA (bE bW (mv 0) aJ (λ_ _=>rfl)) aD))))) aU) (@aH _ _ _ _ _ (bR (bB gG (bE bW (mv 0) aJ (λ_ _=>rfl)) bP (aR _)) (@aI _ _ _ (aO (kK (@aW _ _ _ _ _ _ (aA (bX Bb Ci Cj kH bP (aA (gZ aXI (mv 0) (jM aJ) jF) aD)) aD))))) aU) (@aI _ _ _ (aO fE)))))),?_⟩
 rcases h with ⟨rfl,rfl,q⟩ | ⟨⟨n1,n2,n3,n4,n5⟩,q⟩
 · walk_at "go";refine bY ra (v:=.str (Str.ofString "find")) (aS (j:=0) rfl) ?_;walk_at "go";rw [show decide ((Str.ofString "find")=(Str.ofString "haul"))=false from by decide +kernel]
   walk_at "go";refine bY ra (v:=.str (Str.ofString "find")) (aS (j:=0) rfl) ?_;walk_at "go";rw [show decide ((Str.ofString "find")=(Str.ofString "lower"))=false from by decide +kernel]
   walk_at "go";refine bY ra (v:=.str (Str.ofString "find")) (aS (j:=0) rfl) ?_;walk_at "go";rw [show decide ((Str.ofString "find")=(Str.ofString "lose"))=false from by decide +kernel]
   walk_at "go";refine bY ra (v:=.str (Str.ofString "find")) (aS (j:=0) rfl) ?_;walk_at "go";rw [show decide ((Str.ofString "find")=(Str.ofString "find"))=true from Aq rfl];walk_at "go";refine bY ra (v:=.str (Str.ofString "find")) (aS (j:=0) rfl) ?_;walk_at "go";refine bY ra (v:=.str (Str.ofString "a")) (aS (j:=1) rfl) ?_;walk_at "go";exact ⟨by show 2<=sizeLine; decide,λt ht=>q t ht⟩
 · walk_at "go";refine bY ra (v:=.str w') (aS (j:=0) rfl) ?_;walk_at "go";rw [n1];walk_at "go";refine bY ra (v:=.str w') (aS (j:=0) rfl) ?_;walk_at "go";rw [n2];walk_at "go";refine bY ra (v:=.str w') (aS (j:=0) rfl) ?_;walk_at "go";rw [n3];walk_at "go";refine bY ra (v:=.str w') (aS (j:=0) rfl) ?_;walk_at "go";rw [n4];walk_at "go";refine bY ra (v:=.str w') (aS (j:=0) rfl) ?_;walk_at "go";rw [n5];walk_at "go";exact q
def uL:Sp:=λvs H Q _=>∃ p:Addr,vs=[.ref p]/\H p=some (.tup [.str (Str.ofString "find"),.str (Str.ofString "a")])/\∀ H',Same H H'->Q (.str (Str.ofString "find a")) H'
theorem aJD:FnScope ["deed"] ["deed"] (aE iN):=by walk_at "sc"
theorem aZ6 {aTower Zz Zw aDesk Zx Zu Zv Zy Zt Zs:Addr} {f:Addr} {fd:FuncData} (F:Fun K "row_of" "row_of" iN f fd) (G:Gs K mg w aTower Zz Zw aDesk Zx Zu Zv Zy Zt Zs)  : FnOk P w K mg base CX0 1 f fd ["deed"] uL:=by
 refine F.ok aJD (λvs H Q E h=>?_) (λcdv A outer s H vs Q E hr h=>?_)
 · obtain ⟨p,rfl,_⟩:=h; rfl
 obtain ⟨p,rfl,tp,q⟩:=h;refine ⟨_,(@aI _ _ _ (aO (bX Bb Ci Cj kH bP (aA (cM rfl (dQT (mv 0)) (fL (N:=["part"]) (by decide +kernel) (by decide +kernel)) (by decide +kernel) rfl (by decide +kernel) (λC s₀ H₀ ex=>(bL (i:=0) (show List.Nodup (["part"]:List Str) by decide +kernel) rfl (Or.inl rfl))) (λC s₀ H₀ ex=>cN) (λC s₀ H₀ ex=>(cA dXL rfl G.b_str aQ4 (aA (mv 0) aD)))) aD)))),?_⟩
 have tt:=eM tp
 walk_at "go";refine cQ6 (xs:=[.str (Str.ofString "find"),.str (Str.ofString "a")]) (λi=>[V.str (Str.ofString "find"),V.str (Str.ofString "a")][i]?) tp (by decide) (λi x Hc A B hx sm hA hB=>?_) (λD Hd hD sD hd=>?_)
 · have hs:∃ z,x=.str z:=by
     match i,hx with
     | 0,hx=>exact ⟨_,(Bm hx).symm⟩
     | 1,hx=>exact ⟨_,(Bm hx).symm⟩
   obtain ⟨z,rfl⟩:=hs;walk_at "go";refine ⟨Wk.set rfl (Wk.refl _),?_⟩;walk_at "go";exact hA _ hx Hc (Same.refl _)
 · have rd:rdL Hd D=some (([Str.ofString "find",Str.ofString "a"]:List Str).map V.str):=aQ hd
   walk_at "go";refine mG rd (by decide +kernel) ?_
   rw [show Txt.join (Str.ofString " ") [Str.ofString "find",Str.ofString "a"]=Str.ofString "find a" by decide +kernel]
   exact q Hd sD
def rN (m:Nat):Str:=Txt.join ⟨#[32]⟩ ((List.replicate m none).map sN)
def gOf (f:Nat->Option Int):Nat->Int:=cntF (cW (cntF f))
def TwOk (C:Addr) (H:Hp) (t:Addr) (m:Nat) (lt:Str) (bk:List (Str×Str)):Prop:=∃ (dt b' s0 st hg dd:Addr) (kvs:List (Key×V)) (f:Nat->Option Int) (cws:List (List Nat)),H t=some (.ins C dt (twF b' m s0 st hg dd))/\H hg=some (.lst (List.replicate m V.non))/\m<=6/\H st=some (.dK kvs)/\Lk kvs f/\(∀ c,gOf f c<=99)/\lt=bXN (gOf f)/\BkAt H b' bk/\bXT bk cws/\bk.length<=60
def TwLog (C:Addr) (H:Hp) (t dd:Addr) (n:Nat):Prop:=∃ (dt b' s0 st hg:Addr) (m:Int) (dps:List Addr),H t=some (.ins C dt (twF b' m s0 st hg dd))/\H dd=some (.lst (dps.map V.ref))/\(∀ p∈dps,H p=some (.tup [.str (Str.ofString "find"),.str (Str.ofString "a")]))/\dps.length=n/\n<=9
def dXP (m:Nat) (lt z:Str) (ss:List Str):Prop:=(z=Str.ofString "halyards"/\ss=[rN m])\/(z=Str.ofString "locker"/\ss=[lt])\/(z=Str.ofString "read"/\ss=List.replicate m (Str.ofString "-"))
def iP (C:Addr):Sp:=λvs H Q _=>∃ (t b:Addr) (z:Str),vs=[.ref t,.ref b,.str z]/\
 ((∃ (m:Nat) (lt:Str) (bk:List (Str×Str)) (ss:List Str),TwOk C H t m lt bk/\dXP m lt z ss/\∀ (r:Addr) (H':Hp),H r=none->Same H H'->H' r=some (.lst (ss.map V.str))->Q (.ref r) H')\/
  (z=Str.ofString "log"/\∃ (dd:Addr) (n:Nat),TwLog C H t dd n/\∀ (r:Addr) (H':Hp),H r=none->Same H H'->H' r=some (.lst ((List.replicate n (Str.ofString "find a")).map V.str))->Q (.ref r) H'))
theorem bX9 {cws:List (List Nat)} {m:Nat}:(List.replicate m none).map (rdN cws)=List.replicate m V.non:=by rw [Fb]; rfl
theorem oJ:FnScope ["tower", "book", "asked"] ["tower", "book", "asked"] (aE cE):=by walk_at "sc"
theorem oB {aTower Zz Zw aDesk Zx Zu Zv Zy Zt Zs:Addr} {f:Addr} {fd:FuncData} (F:Fun K "told_of_tower" "told_of_tower" cE f fd) (G:Gs K mg w aTower Zz Zw aDesk Zx Zu Zv Zy Zt Zs) (c_row_of:Cal P w K mg base 1 "row_of" ["deed"] uL) (c_shown_halyards:Cal P w K mg base 1 "shown_halyards" ["halyards"] iC) (c_shown_locker:Cal P w K mg base 2 "shown_locker" ["locker"] jV) (c_Tower_log:lJ CX0 P w K mg base 1 aTower "log" ["self"] (jL aTower)) (c_Tower_halyards:lJ CX0 P w K mg base 1 aTower "halyards" ["self"] (eX aTower)) (c_Tower_locker:lJ CX0 P w K mg base 2 aTower "locker" ["self"] (gB aTower)) (c_Tower_read:lJ CX0 P w K mg base 6 aTower "read" ["self"] (iJ aTower)):FnOk P w K mg base CX0 8 f fd ["tower", "book", "asked"] (iP aTower):=by
 refine F.ok oJ (λvs H Q E h=>?_) (λcdv A outer s H vs Q E hr h=>?_)
 · obtain ⟨t,b,z,rfl,_⟩:=h; rfl
 obtain ⟨t,b,z,rfl,h⟩:=h;refine ⟨_,(@aH _ _ _ _ _ (bR (bB gG (mv 2) bP (aR _)) (@aI _ _ _ (aO (bJ (aA (bA c_shown_halyards hr (by decide) rfl (aA (pP c_Tower_halyards G.cl_Tower hr (by decide) (mv 0)) aD)) aD)))) aU) (@aH _ _ _ _ _ (bR (bB gG (mv 2) bP (aR _)) (@aI _ _ _ (aO (bJ (aA (bA c_shown_locker hr (by decide) rfl (aA (pP c_Tower_locker G.cl_Tower hr (by decide) (mv 0)) aD)) aD)))) aU) (@aH _ _ _ _ _ (bR (bB gG (mv 2) bP (aR _)) (@aI _ _ _ (aO (cM rfl (cQ (pP c_Tower_read G.cl_Tower hr (by decide) (mv 0))) (uI (N:=["number", "book"]) ["tower", "book", "asked"] (aE cE) [none,some 1] rfl rfl rfl (λx h=>fW h) (by decide +kernel)) (by decide +kernel) rfl (by decide +kernel) (λC s₀ H₀ ex=>(bL (i:=0) (show List.Nodup (["number", "book"]:List Str) by decide +kernel) rfl (Or.inl rfl))) (λC s₀ H₀ ex=>cN) (λC s₀ H₀ ex=>(kC (bB aZO (mv 0) fE (aR _)) (dJ rfl G.s_BARE) (bE bW (bE bW (mv 1) (mv 0) (λ_ _=>rfl)) aJ (λ_ _=>rfl))))))) aU) (@aI _ _ _ (aO (cM rfl (cQ (pP c_Tower_log G.cl_Tower hr (by decide) (mv 0))) (fL (N:=["deed"]) (by decide +kernel) (by decide +kernel)) (by decide +kernel) rfl (by decide +kernel) (λC s₀ H₀ ex=>(bL (i:=0) (show List.Nodup (["deed"]:List Str) by decide +kernel) rfl (Or.inl rfl))) (λC s₀ H₀ ex=>cN) (λC s₀ H₀ ex=>(bA c_row_of hr (by decide) rfl (aA (mv 0) aD))))))))),?_⟩
 rcases h with ⟨m,lt,bk,ss,⟨dt,b',s0,st,hg,dd,kvs,f,cws,ht,hhg,h6,hst,lk,h99,rfl,hbk,hcw,h60⟩,ha,q⟩ | ⟨rfl,dd,n,⟨dt,b',s0,st,hg,m,dps,ht,hdd,hdp,rfl,h9⟩,q⟩
 · rcases ha with ⟨rfl,rfl⟩ | ⟨rfl,rfl⟩ | ⟨rfl,rfl⟩
   · walk_at "go";rw [show decide ((Str.ofString "halyards")=(Str.ofString "halyards"))=true from Aq rfl];walk_at "go";refine ⟨t,dt,_,rfl,ht,qK,?_⟩;walk_at "go";refine ⟨t,b',s0,st,hg,dd,dt,m,_,List.replicate m none,rfl,ht,aQ hhg,nX,by rw [Ca]; omega,λr1 us' H1 hr1 s1 e1 hat1 _=>?_⟩
     walk_at "go";refine ⟨r1,us',_,rfl,aQ e1,hat1,lV,by rw [Ca]; exact h6,λH2 s2=>?_⟩
     walk_at "go";refine ⟨by show 1<=sizeLine; decide,λr hr=>?_⟩
     have s12:=s1.trans s2
     exact q r _ (none_of s12 hr) (s12.trans (aF hr _)) aG
   · walk_at "go";rw [show decide ((Str.ofString "locker")=(Str.ofString "halyards"))=false from by decide +kernel]
     walk_at "go";rw [show decide ((Str.ofString "locker")=(Str.ofString "locker"))=true from Aq rfl];walk_at "go";refine ⟨t,dt,_,rfl,ht,wF,?_⟩;walk_at "go";refine ⟨t,b',s0,st,hg,dd,dt,m,kvs,f,rfl,ht,.inl hst,lk,λr1 H1 hr1 s1 e1=>?_⟩;walk_at "go";refine ⟨r1,_,cW (cntF f),rfl,.inl e1,iU _,h99,λH2 s2=>?_⟩;walk_at "go";refine ⟨by show 1<=sizeLine; decide,λr hr=>?_⟩
     have s12:=s1.trans s2
     exact q r _ (none_of s12 hr) (s12.trans (aF hr _)) aG
   · walk_at "go";rw [show decide ((Str.ofString "read")=(Str.ofString "halyards"))=false from by decide +kernel]
     walk_at "go";rw [show decide ((Str.ofString "read")=(Str.ofString "locker"))=false from by decide +kernel]
     walk_at "go";rw [show decide ((Str.ofString "read")=(Str.ofString "read"))=true from Aq rfl];walk_at "go";refine ⟨t,dt,_,rfl,ht,aQ9,?_⟩;walk_at "go";refine ⟨t,b',s0,st,hg,dd,dt,m,_,List.replicate m none,bk,cws,rfl,ht,aQ hhg,nX,by rw [Ca]; omega,lV,hbk,h60,hcw,λr1 H1 hr1 s1 e1=>?_⟩
     rw [bX9] at e1;have re1:=aQ e1
     walk_at "go";refine fY (xs:=List.replicate m V.non) (λj=>((List.replicate m V.non)[j]?).map λ_=>V.str (Str.ofString "-")) re1 (by rw [Ca]; exact bT (by omega)) (λj x Hc A B hx sm hA hB=>?_) (λD Hd hD sD hd=>?_)
     · obtain rfl:x=V.non:=(List.mem_replicate.mp (Ap hx)).2;walk_at "go";refine ⟨Wk.set rfl (Wk.refl _),?_⟩;walk_at "go";rw [show decide (V.non=V.non)=true from rfl];walk_at "go";exact hA _ (by rw [hx]; rfl) _ (Same.refl _)
     · rw [dX (λ_=>V.str (Str.ofString "-")),Fb] at hd;refine q D Hd (none_of s1 hD) (s1.trans sD) ?_;rw [hd,Fb]
 · walk_at "go";rw [show decide ((Str.ofString "log")=(Str.ofString "halyards"))=false from by decide +kernel]
   walk_at "go";rw [show decide ((Str.ofString "log")=(Str.ofString "locker"))=false from by decide +kernel]
   walk_at "go";rw [show decide ((Str.ofString "log")=(Str.ofString "read"))=false from by decide +kernel]
   walk_at "go";refine ⟨t,dt,_,rfl,ht,aJN,?_⟩;walk_at "go";refine ⟨t,b',s0,st,hg,dd,dt,m,_,rfl,ht,hdd,λr1 H1 hr1 s1 e1=>?_⟩;have re1:=aQ e1
   walk_at "go";refine fY (xs:=dps.map V.ref) (λj=>(dps[j]?).map λ_=>V.str (Str.ofString "find a")) re1 (by rw [Ab]; exact bT (by omega)) (λj x Hc A B hx sm hA hB=>?_) (λD Hd hD sD hd=>?_)
   · rw [Af] at hx;obtain ⟨p,ep,rfl⟩:=Dz.mp hx;have tp:=sm _ _ (s1 _ _ (hdp p (Ap ep)))
     walk_at "go";refine ⟨Wk.set rfl (Wk.refl _),?_⟩;walk_at "go";exact ⟨p,rfl,tp,λH' s'=>hA _ (by rw [ep]; rfl) H' s'⟩
   · rw [Ab,dX (λ_=>V.str (Str.ofString "find a"))] at hd;refine q D Hd (none_of s1 hD) (s1.trans sD) ?_;rw [hd,Fb,List.map_const']
theorem aQE (n:Nat->Int) (c:Nat):0<=cntF (cW n) c:=by
 unfold cntF cW;split
 · rename_i h
   exact Int.le_of_lt (by simp only [Option.getD_some]; exact h.2)
 · exact Int.le_refl _
theorem wJ {n:Nat->Int} (h:∀ c,n c<=99) (c:Nat):cntF (cW n) c<=99:=by
 unfold cntF cW;split
 · simp only [Option.getD_some]; exact h c
 · show (0:Int)<=99; decide
theorem dZZ {xs:List (Nat×Int)} (h:∀ x∈xs,x.2<=99) (c:Nat):cntF (fOf xs) c<=99:=by
 have g:∀ (xs:List (Nat×Int)) (f:Nat->Option Int),(∀ x∈xs,x.2<=99)->(∀ c,(f c).getD 0<=99)->∀ c,((xs.foldl (λf x d=>if d=x.1 then some x.2 else f d) f) c).getD 0<=99:=by
   intro xs;induction xs with
   | nil=>intro f _ hf c; exact hf c
   | cons x r ih=>
     intro f hx hf c;refine ih _ (λy hy=>hx y (Ah _ hy)) (λc=>?_) c;show ((if c=x.1 then some x.2 else f c):Option Int).getD 0<=99
     split
     · exact hx x (Ai ..)
     · exact hf c
 exact g xs (λ_=>none) h (λc=>by show (0:Int)<=99; decide) c
theorem cX1 {z:Str} {xs:List (Nat×Int)} (h:LockIs z xs):∀ x∈xs,x.2<=99:=by
 rcases h with ⟨_,rfl⟩ | ⟨_,⟨hl,hp⟩,_⟩
 · intro x hx; cases hx
 · intro x hx;obtain ⟨j,hj⟩:=Dp.mp hx;have h1:=(Ae.mp hj).1
   exact (hp j _ x (Aa (by omega)) hj).2.2.1
theorem dQ4 {bk:List (Str×Str)} (h:fF bk):bXT bk (bk.map λb=>b.1.cps.toList):=by
 refine ⟨Ab ..,λj b cw hb hc=>?_⟩;rw [Af,hb] at hc;cases hc;have hj:=(Ae.mp hb).1
 have hf:=h j hj
 rw [nV hb,Cd,Cd,Cd] at hf;obtain ⟨_,hw,h6,_⟩:=hf;have h6':=Az h6
 have hl:b.1.cps.toList.length=b.1.length:=dF _
 unfold jR at hw;split at hw
 · cases hw
 · rename_i hn
   refine ⟨FlT.str_ext (by rw [bZ]),by show 1<=b.1.cps.toList.length; omega,by show b.1.cps.toList.length<=6; omega,λd hd=>?_⟩
   unfold dXX at hw;exact mem_letters.mp (Az (As.mp hw d hd))
theorem eXT {bk:List (Str×Str)} (h:fF bk):bk.length<=60:=by
 by_cases e:bk.length<=60
 · exact e
 · have hb:bk[60]?=some (bk[60]'(by omega)):=Aa _
   have hf:=h 60 (by omega)
   rw [nV hb,Cd] at hf;exact absurd (Az hf.1) (by decide)
def dkF (b t:Addr):List (Str×V):=[("book",.ref b),("tower",.ref t)]
def dk1 (b:Addr):List (Str×V):=[("book",.ref b)]
theorem cQ3 {b:Addr}:fP "book" (.ref b) []=dk1 b:=rfl
theorem cXA {b t:Addr}:fP "tower" (.ref t) (dk1 b)=dkF b t:=rfl
theorem bXI {b:Addr}:(dk1 b).lookup ("book" : Str)=some (.ref b):=rfl
theorem aZM {b t:Addr}:(dkF b t).lookup ("book" : Str)=some (.ref b):=rfl
theorem rP {b t:Addr}:(dkF b t).lookup ("tower" : Str)=some (.ref t):=rfl
theorem gP {b t:Addr}:(dkF b t).lookup ("say" : Str)=none:=rfl
def DkOk (C Ct:Addr) (H:Hp) (x t dd:Addr) (m:Nat) (xs:List (Nat×Int)) (bk:List (Str×Str)):Prop:=∃ (dx b dt b' s0 st hg:Addr) (kvs:List (Key×V)),H x=some (.ins C dx (dkF b t))/\H t=some (.ins Ct dt (twF b' m s0 st hg dd))/\H hg=some (.lst (List.replicate m V.non))/\m<=6/\H st=some (.dK kvs)/\Lk kvs (cW (cntF (fOf xs)))/\(∀ c,cntF (fOf xs) c<=99)/\BkAt H b' bk/\fF bk/\H dd=some (.lst [])
def LogAt (C Ct:Addr) (H:Hp) (x t dd:Addr) (n:Nat):Prop:=∃ dx b:Addr,H x=some (.ins C dx (dkF b t))/\TwLog Ct H t dd n
def jQ (C Ct aT aB aN:Addr):Sp:=λvs H Q E=>∃ (x dx:Addr) (z zl:Str) (m:Int),vs=[.ref x,.str z,.str zl,.int m]/\H x=some (.ins C dx [])/\z.length<=19000/\zl.length<=900/\
 (bU z=false->∀ H',SameE [x] H H'->E (.ref aT) none H')/\
 (bU z=true->∀ i:Nat,kE (bkZ z) i->∀ (dy:Addr) (H':Hp),SameE [x] H H'->H' dy=some (xdO dy [("at",.int (i:Int))])->E (.ref aB) (some dy) H')/\
 (bU z=true->fF (bkZ z)->kB zl->∀ H',SameE [x] H H'->E (.ref aT) none H')/\
 (bU z=true->fF (bkZ z)->∀ xs,LockIs zl xs->¬ (1<=m/\m<=6)->∀ H',SameE [x] H H'->E (.ref aN) none H')/\
 (bU z=true->fF (bkZ z)->∀ xs,LockIs zl xs->∀ n:Nat,m=(n:Int)->1<=n->n<=6->∀ (t dd:Addr) (H':Hp),H t=none->H dd=none->SameE [x] H H'->DkOk C Ct H' x t dd n xs (bkZ z)->Q .non H')
theorem sc_Desk_init:FnScope ["self", "book_text", "locker_text", "many", "locker"] ["self", "book_text", "locker_text", "many"] (aE eP):=by walk_at "sc"
theorem vA {aTower Zz Zw aDesk Zx Zu Zv Zy Zt Zs:Addr} {f:Addr} {fd:FuncData} (F:Fun K "__init__" "Desk.__init__" eP f fd) (G:Gs K mg w aTower Zz Zw aDesk Zx Zu Zv Zy Zt Zs) (c_read_book:wN P w K mg base 5 "read_book" ["text"] (mV Zv Zu)) (c_read_locker:wN P w K mg base 3 "read_locker" ["text"] (kN Zv)) (c_Tower_init:aJE CX0 P w K mg base 2 aTower ["self", "book", "locker", "many"] (iI aTower)):FnOk P w K mg base (CXr P w) 6 f fd ["self", "book_text", "locker_text", "many"] (jQ aDesk aTower Zv Zu Zy):=by
 refine F.okX sc_Desk_init (λvs H Q E h=>?_) (λcdv A outer s H vs Q E hr h=>?_)
 · obtain ⟨x,dx,z,zl,m,rfl,_⟩:=h; rfl
 obtain ⟨x,dx,z,zl,m,rfl,hx,hz,hzl,q1,q2,q3,q4,q5⟩:=h;refine ⟨_,(@aH _ _ _ _ _ (iE (mv 0) (lH c_read_book kZ hr (by decide) rfl (aA (mv 1) aD)) rfl) (@aH _ _ _ _ _ (@bI _ _ 4 _ _ _ _ sc_Desk_init.nd (by rfl) (by exact (Or.inl rfl)) (lH c_read_locker kZ hr (by decide) rfl (aA (mv 2) aD)) (by rfl) (by walk_at "o")) (@aH _ _ _ _ _ (bR (PW.pt (mM (bB aZZ (mv 3) aJ (aR _)) (kL (bB xD (mv 3) (gD rfl G.s_MOST_HALYARDS) (aR _))))) (@aI _ _ _ (jB iB rfl rfl rfl G.c_NoHalyard G.x_NoHalyard By (@aW _ _ _ _ _ _ aD))) aU) (@aI _ _ _ (iE (mv 0) (dX4 c_Tower_init hr (by decide) rfl G.c_Tower (aA (fA (mv 0) rfl) (aA (mv 4) (aA (mv 3) aD)))) rfl))))),?_⟩
 walk_at "go";refine ⟨z,rfl,hz,λh2 hok b H1 hb s1 hbk=>?_,λh2 H1 s1=>q1 h2 H1 (.of s1),λh2 i hbad dy H1 s1 hy=>q2 h2 i hbad dy H1 (.of s1) hy⟩;have x1:=s1 _ _ hx
 walk_at "go";refine ⟨x,aDesk,dx,_,rfl,x1,G.cl_Desk,G.na_Desk_book,by show 0<1000; decide,?_⟩
 rw [cQ3];have sE2:SameE [x] H (upd H1 x (.ins aDesk dx (dk1 b))):=(SameE.of s1).put (Am.mpr rfl)
 have x2:(upd H1 x (.ins aDesk dx (dk1 b))) x=some (.ins aDesk dx (dk1 b)):=aG
 have hbk2:BkAt (upd H1 x (.ins aDesk dx (dk1 b))) b (bkZ z):=by
   obtain ⟨ps,h1,h2,h3⟩:=hbk;exact ⟨ps,by rw [aK (λe=>by rw [e,x1] at h1; cases h1)]; exact h1,h2,λj p c hp hc=>by rw [aK (λe=>by have:=h3 j p c hp hc; rw [e,x1] at this; cases this)]; exact h3 j p c hp hc⟩
 generalize upd H1 x (.ins aDesk dx (dk1 b))=H2 at sE2 x2 hbk2 ⊢;walk_at "go";refine ⟨zl,rfl,hzl,λl kws xs H3 hl s3 e3 lk3 hlk=>?_,λhno H3 s3=>q3 h2 hok hno H3 (sE2.trans (.of s3))⟩;have sE3:=sE2.trans (.of s3)
 have x3:=s3 _ _ x2
 have hbk3:=hbk2.keep s3
 walk_at "go";by_cases hm:1<=m/\m<=6
 · obtain ⟨n,rfl⟩:∃ n:Nat,m=(n:Int):=⟨m.toNat,by omega⟩
   have n1:1<=n:=by omega
   have n6:n<=6:=by omega
   rw [Au (show ¬ (n:Int)<1 by omega)]
   walk_at "go";rw [Au (show ¬ (6:Int)<(n:Int) by omega)]
   walk_at "go";refine ⟨x,aDesk,dx,_,_,rfl,x3,G.cl_Desk,G.na_Desk_book,bXI,?_⟩;walk_at "go";intro t dt ht hdt hne;obtain ⟨ps,p1,p2,p3⟩:=id hbk3;have hkk:=(aF hdt (.own t)).trans (aF (show (upd H3 dt (.own t)) t=none by rw [aK (Ne.symm hne)]; exact ht) (.ins aTower dt []))
   refine ⟨t,b,l,dt,ps.map V.ref,kws,fOf xs,n,rfl,aG,aQ (hkk _ _ p1),.inl (hkk _ _ e3),lk3,n6,λb' s0 st hg dd H4 hb' hhg hdd nhd nbd sE t4 e4 d04 d14 h4 f4=>⟨rfl,?_⟩⟩;have s34:Same H3 H4:=λc o e=>sE c o (λz=>by rw [Am.mp z,ht] at e; cases e) (hkk _ _ e)
   have x4:=s34 _ _ x3
   have ntx:t≠x:=λe=>by rw [e,x3] at ht; cases ht
   walk_at "go";refine ⟨x,aDesk,dx,_,rfl,x4,G.cl_Desk,G.na_Desk_tower,by show 1<1000; decide,?_⟩
   rw [cXA];have nin1:∀ {y:Addr},y≠x->y ∉ [x]:=λe z=>e (Am.mp z)
   have ndt:dd≠t:=λe=>by rw [e,t4] at f4; cases f4
   have hd3:H3 dd=none:=none_of hkk hdd
   have ndx:dd≠x:=λe=>by rw [e,x3] at hd3; cases hd3
   have ne:∀ {y:Addr} {o:HO},H4 y=some o->(∀ fs,o≠.ins aDesk dx fs)->y≠x:=λe1 e2 e3=>by rw [e3,x4] at e1; exact e2 _ (Bm e1).symm
   refine q5 h2 hok xs hlk n rfl n1 n6 t dd _ (sE3.none (nin1 ntx) ht) (sE3.none (nin1 ndx) hd3) ((sE3.trans (.of s34)).put (Am.mpr rfl)) ⟨dx,b,dt,b',s0,st,hg,_,aG,?_,?_,n6,?_,iU _,dZZ (cX1 hlk),?_,hok,?_⟩
   · rw [aK ntx]; exact t4
   · rw [aK (ne h4 λ_=>nofun)]; exact h4
   · rw [aK (ne d14 λ_=>nofun)]; exact d14
   · refine ⟨ps,?_,p2,λj p c hp hc=>?_⟩
     · rw [aK (ne e4 λ_=>nofun)]; exact e4
     · have:=s34 _ _ (p3 j p c hp hc)
       rw [aK (ne this λ_=>nofun)];exact this
   · rw [aK ndx]; exact f4
 · have go:∀ H',Same H3 H'->E (.ref Zy) none H':=λH' s'=>q4 h2 hok xs hlk hm H' (sE3.trans (.of s'))
   by_cases h1:m<1
   · rw [Aq h1];walk_at "go";exact ⟨by show 1<=sizeLine; decide,go _ (Same.refl _)⟩
   · rw [Au h1];walk_at "go";rw [Aq (show (6:Int)<m by omega)]
     walk_at "go";exact ⟨by show 1<=sizeLine; decide,go _ (Same.refl _)⟩
theorem row_hal:Txt.split (Str.ofString "halyards") (Str.ofString " ")=[Str.ofString "halyards"]/\RowW (Str.ofString "halyards") []/\fU (Str.ofString "halyards"):=⟨by decide +kernel,⟨by decide +kernel,by decide +kernel,by decide +kernel⟩,by unfold fU; decide +kernel⟩
theorem row_loc:Txt.split (Str.ofString "locker") (Str.ofString " ")=[Str.ofString "locker"]/\RowW (Str.ofString "locker") []/\fU (Str.ofString "locker"):=⟨by decide +kernel,⟨by decide +kernel,by decide +kernel,by decide +kernel⟩,by unfold fU; decide +kernel⟩
theorem row_log:Txt.split (Str.ofString "log") (Str.ofString " ")=[Str.ofString "log"]/\RowW (Str.ofString "log") []/\fU (Str.ofString "log"):=⟨by decide +kernel,⟨by decide +kernel,by decide +kernel,by decide +kernel⟩,by unfold fU; decide +kernel⟩
theorem row_read:Txt.split (Str.ofString "read") (Str.ofString " ")=[Str.ofString "read"]/\RowW (Str.ofString "read") []/\fU (Str.ofString "read"):=⟨by decide +kernel,⟨by decide +kernel,by decide +kernel,by decide +kernel⟩,by unfold fU; decide +kernel⟩
theorem row_find:Txt.split (Str.ofString "find a") (Str.ofString " ")=[Str.ofString "find",Str.ofString "a"]/\RowW (Str.ofString "find") [Str.ofString "a"]:=⟨by decide +kernel,⟨by decide +kernel,by decide +kernel,by decide +kernel⟩⟩
theorem bQY {m:Nat} {lt z:Str} {ss:List Str} (h:dXP m lt z ss):Txt.split z (Str.ofString " ")=[z]/\RowW z []/\fU z/\z.length<=90:=by
 rcases h with ⟨rfl,_⟩ | ⟨rfl,_⟩ | ⟨rfl,_⟩
 · exact ⟨row_hal.1,row_hal.2.1,row_hal.2.2,by decide⟩
 · exact ⟨row_loc.1,row_loc.2.1,row_loc.2.2,by decide⟩
 · exact ⟨row_read.1,row_read.2.1,row_read.2.2,by decide⟩
def vM (xs:List (Nat×Int)):Str:=bXN (gOf (cW (cntF (fOf xs))))
theorem DkOk.tw {C Ct:Addr} {H:Hp} {x t dd:Addr} {m:Nat} {xs:List (Nat×Int)} {bk:List (Str×Str)} (h:DkOk C Ct H x t dd m xs bk):TwOk Ct H t m (vM xs) bk:=by
 obtain ⟨dx,b,dt,b',s0,st,hg,kvs,h1,h2,h3,h4,h5,h6,h7,h8,h9,h10⟩:=h;exact ⟨dt,b',s0,st,hg,dd,kvs,_,_,h2,h3,h4,h5,h6,wJ (wJ h7),rfl,h8,dQ4 h9,eXT h9⟩
theorem TwOk.keep {C:Addr} {H H':Hp} {t:Addr} {m:Nat} {lt:Str} {bk:List (Str×Str)} (h:TwOk C H t m lt bk) (s:Same H H'):TwOk C H' t m lt bk:=by
 obtain ⟨dt,b',s0,st,hg,dd,kvs,f,cws,h1,h2,h3,h4,h5,h6,h7,h8,h9,h10⟩:=h;exact ⟨dt,b',s0,st,hg,dd,kvs,f,cws,s _ _ h1,s _ _ h2,h3,s _ _ h4,h5,h6,h7,h8.keep s,h9,h10⟩
theorem TwLog.keep {C:Addr} {H H':Hp} {t dd:Addr} {n:Nat} (h:TwLog C H t dd n) (s:Same H H'):TwLog C H' t dd n:=by
 obtain ⟨dt,b',s0,st,hg,m,dps,h1,h2,h3,h4,h5⟩:=h;exact ⟨dt,b',s0,st,hg,m,dps,s _ _ h1,s _ _ h2,λp hp=>s _ _ (h3 p hp),h4,h5⟩
def hZ (C Ct:Addr):Sp:=λvs H Q _=>∃ (x:Addr) (z:Str),vs=[.ref x,.str z]/\
 ((∃ (t dd:Addr) (m:Nat) (xs:List (Nat×Int)) (bk:List (Str×Str)) (ss:List Str),DkOk C Ct H x t dd m xs bk/\dXP m (vM xs) z ss/\∀ (r:Addr) (H':Hp),H r=none->Same H H'->H' r=some (.lst (ss.map V.str))->Q (.ref r) H')\/
  (z=Str.ofString "log"/\∃ (t dd:Addr) (n:Nat),LogAt C Ct H x t dd n/\∀ (r:Addr) (H':Hp),H r=none->Same H H'->H' r=some (.lst ((List.replicate n (Str.ofString "find a")).map V.str))->Q (.ref r) H')\/
  (z=Str.ofString "find a"/\∃ (t dd:Addr) (m:Nat) (xs:List (Nat×Int)) (bk:List (Str×Str)),DkOk C Ct H x t dd m xs bk/\cntF (cW (cntF (fOf xs))) 97<99/\∀ (r:Addr) (H':Hp),H r=none->SameE [t,dd] H H'->LogAt C Ct H' x t dd 1->H' r=some (.lst [])->Q (.ref r) H'))
theorem sc_Desk_say:FnScope ["self", "row", "words", "deed"] ["self", "row"] (aE fM):=by walk_at "sc"
theorem yS {aTower Zz Zw aDesk Zx Zu Zv Zy Zt Zs:Addr} {f:Addr} {fd:FuncData} (F:Fun K "say" "Desk.say" fM f fd) (G:Gs K mg w aTower Zz Zw aDesk Zx Zu Zv Zy Zt Zs) (c_words_of_row:Cal P w K mg base 2 "words_of_row" ["row"] jU) (c_deed_of:Cal P w K mg base 2 "deed_of" ["words"] qY) (c_told_of_book:Cal P w K mg base 1 "told_of_book" ["book", "words"] jX) (c_Tower_do:lJ (CXr P w) P w K mg base 5 aTower "do" ["self", "deed"] (kG aTower aTower)) (c_told_of_tower:Cal P w K mg base 8 "told_of_tower" ["tower", "book", "asked"] (iP aTower)):FnOk P w K mg base CX0 9 f fd ["self", "row"] (hZ aDesk aTower):=by
 refine F.ok sc_Desk_say (λvs H Q E h=>?_) (λcdv A outer s H vs Q E hr h=>?_)
 · obtain ⟨x,z,rfl,_⟩:=h; rfl
 obtain ⟨x,z,rfl,h⟩:=h;refine ⟨_,(@aH _ _ _ _ _ (@bI _ _ 2 _ _ _ _ sc_Desk_say.nd (by rfl) (by exact (Or.inl rfl)) (bA c_words_of_row hr (by decide) rfl (aA (mv 1) aD)) (by rfl) (by walk_at "o")) (@aH _ _ _ _ _ (@bI _ _ 3 _ _ _ _ sc_Desk_say.nd (by rfl) (by exact (Or.inl rfl)) (bA c_deed_of hr (by decide) rfl (aA (mv 2) aD)) (by rfl) (by walk_at "o")) (@aH _ _ _ _ _ (bR (bB bZL (mv 3) fE (aR _)) (@aH _ _ _ _ _ (jH (cZK c_Tower_do G.cl_Tower tY hr (by decide) (fA (mv 0) rfl) (aA (mv 3) aD))) (@aI _ _ _ (aO (bJ aD)))) aU) (@aH _ _ _ _ _ (bR (bB gG (bD fI rfl G.b_len dC (aA (mv 2) aD)) aJ (aR _)) (@aI _ _ _ (aO (bA c_told_of_tower hr (by decide) rfl (aA (fA (mv 0) rfl) (aA (fA (mv 0) rfl) (aA (bE bW (mv 2) aJ (λ_ _=>rfl)) aD)))))) aU) (@aI _ _ _ (aO (bA c_told_of_book hr (by decide) rfl (aA (fA (mv 0) rfl) (aA (mv 2) aD))))))))),?_⟩
 rcases h with ⟨t,dd,m,xs,bk,ss,hdk,hask,q⟩ | ⟨rfl,t,dd,n,⟨dx,b,hx,hlog⟩,q⟩ | ⟨rfl,t,dd,m,xs,bk,hdk,h97,q⟩
 · obtain ⟨hs1,hs2,hs3,hs4⟩:=bQY hask;have htw:=hdk.tw
   obtain ⟨dx,b,_,_,_,_,_,_,hx,_⟩:=id hdk;walk_at "go";refine ⟨z,z,[],rfl,hs4,hs1,hs2,λa H1 ha s1 e1=>?_⟩;have re1:=aQ e1
   walk_at "go";refine ⟨a,z,[],rfl,re1,.inr ⟨hs3,?_⟩⟩;walk_at "go";rw [show (!decide (V.non=V.non))=false by rw [Aq rfl]; rfl]
   walk_at "go";rw [show decide ((((([z]:List Str).map V.str).length:Nat):Int)=1)=true from Aq rfl];walk_at "go";refine ⟨x,aDesk,dx,_,_,rfl,s1 _ _ hx,G.cl_Desk,G.na_Desk_tower,rP,?_⟩;walk_at "go";refine ⟨x,aDesk,dx,_,_,rfl,s1 _ _ hx,G.cl_Desk,G.na_Desk_book,aZM,?_⟩;walk_at "go";refine bY re1 (v:=.str z) (aS (j:=0) rfl) ?_;walk_at "go";exact ⟨t,b,z,rfl,.inl ⟨m,_,bk,ss,htw.keep s1,hask,λr H' hr s' e=>q r H' (none_of s1 hr) (s1.trans s') e⟩⟩
 · walk_at "go";refine ⟨_,_,[],rfl,by decide,row_log.1,row_log.2.1,λa H1 ha s1 e1=>?_⟩
   have re1:=aQ e1
   walk_at "go";refine ⟨a,_,[],rfl,re1,.inr ⟨row_log.2.2,?_⟩⟩;walk_at "go";rw [show (!decide (V.non=V.non))=false by rw [Aq rfl]; rfl]
   walk_at "go";rw [show decide ((((([Str.ofString "log"]:List Str).map V.str).length:Nat):Int)=1)=true from Aq rfl];walk_at "go";refine ⟨x,aDesk,dx,_,_,rfl,s1 _ _ hx,G.cl_Desk,G.na_Desk_tower,rP,?_⟩;walk_at "go";refine ⟨x,aDesk,dx,_,_,rfl,s1 _ _ hx,G.cl_Desk,G.na_Desk_book,aZM,?_⟩;walk_at "go";refine bY re1 (v:=.str (Str.ofString "log")) (aS (j:=0) rfl) ?_;walk_at "go";exact ⟨t,b,_,rfl,.inr ⟨rfl,dd,n,hlog.keep s1,λr H' hr s' e=>q r H' (none_of s1 hr) (s1.trans s') e⟩⟩
 · obtain ⟨dx,b,dt,b',s0,st,hg,kvs,hx,ht,hhg,h6,hst,lk,h99,hbk,hok,hdd⟩:=hdk;walk_at "go";refine ⟨_,_,[Str.ofString "a"],rfl,by decide,row_find.1,row_find.2,λa H1 ha s1 e1=>?_⟩
   have re1:=aQ e1
   walk_at "go";refine ⟨a,_,_,rfl,re1,.inl ⟨rfl,rfl,λdp hdp=>?_⟩⟩;have k2:=s1.trans (aF hdp (.tup [.str (Str.ofString "find"),.str (Str.ofString "a")]))
   have e2:(upd H1 dp (.tup [.str (Str.ofString "find"),.str (Str.ofString "a")])) dp=some (.tup [.str (Str.ofString "find"),.str (Str.ofString "a")]):=aG
   generalize upd H1 dp (.tup [.str (Str.ofString "find"),.str (Str.ofString "a")])=H2 at k2 e2 ⊢;walk_at "go";rw [show (!decide (V.ref dp=V.non))=true by rw [Au λz=>nomatch z]; rfl]
   walk_at "go";refine ⟨x,aDesk,dx,_,_,rfl,k2 _ _ hx,G.cl_Desk,G.na_Desk_tower,rP,?_⟩;walk_at "go";refine ⟨t,dt,_,rfl,k2 _ _ ht,bQ4,?_⟩;walk_at "go";refine ⟨t,b',s0,st,hg,dd,dp,dt,m,Str.ofString "find",[.str (Str.ofString "a")],[],rfl,k2 _ _ ht,e2,rfl,k2 _ _ hdd,by decide,λp0 hp0=>?_⟩
   have k3:=aF hp0 (.tup [])
   have s03:=k2.trans k3
   refine ⟨b',hg,st,dp,m,rfl,⟨s03 _ _ hhg,h6,kvs,_,s03 _ _ hst,lk,aQE _,h97⟩,k3 _ _ e2,λt2 st' kws H3 s3 ht2 et2 est=>?_⟩;have s04:=s03.trans s3
   have t3:=s04 _ _ ht
   have d3:=s04 _ _ hdd
   have dp3:=s3 _ _ (k3 _ _ e2)
   have x3:=s04 _ _ hx
   refine ⟨t2,hg,st',rfl,et2,t3,d3,(λys z=>by rw [t3] at z; cases z),?_⟩
   have ndt:dd≠t:=λe=>by rw [e,t3] at d3; cases d3
   have sE:SameE [t,dd] H (upd (upd H3 t (.ins aTower dt (twF b' m s0 st' hg dd))) dd (.lst ([]++[V.ref dp]))):=λy o ny e=>by
     rw [aK (λz=>ny (by rw [z]; exact Ah _ (Ai ..))),aK (λz=>ny (by rw [z]; exact Ai ..))]
     exact s04 _ _ e
   have lg:LogAt aDesk aTower (upd (upd H3 t (.ins aTower dt (twF b' m s0 st' hg dd))) dd (.lst ([]++[V.ref dp]))) x t dd 1:=by
     refine ⟨dx,b,?_,dt,b',s0,st',hg,m,[dp],?_,aG,(λp hp=>?_),rfl,by decide⟩
     · rw [aK (λz=>by rw [z,d3] at x3; cases x3),aK (λz=>?_)]
       · exact x3
       · rw [z] at x3;rw [t3] at x3;have e:=Bm x3
         have e':twF b' m s0 st hg dd=dkF b t:=by injection e
         have:=Dm List.length e'
         cases this
     · rw [aK (Ne.symm ndt)];exact aG
     · rw [Am.mp hp,aK (λz=>by rw [z,d3] at dp3; cases dp3),aK (λz=>by rw [z,t3] at dp3; cases dp3)]
       exact dp3
   generalize upd (upd H3 t (.ins aTower dt (twF b' m s0 st' hg dd))) dd (.lst ([]++[V.ref dp]))=H4 at sE lg ⊢;walk_at "go";refine ⟨by decide,λr hr=>?_⟩
   have kr:=aF hr (.lst [])
   obtain ⟨dx',b2,hx',hl'⟩:=lg;have tH4:∃ o,H4 t=some o:=by
     obtain ⟨dt',b2',s0',st2,hg',m',dps',h1,_⟩:=hl';exact ⟨_,h1⟩
   have dH4:∃ o,H4 dd=some o:=by
     obtain ⟨dt',b2',s0',st2,hg',m',dps',_,h1,_⟩:=hl';exact ⟨_,h1⟩
   have nr:r ∉ [t,dd]:=λz=>by
     rcases Bd.mp z with z | z
     · obtain ⟨o,ho⟩:=tH4;rw [z,ho] at hr; cases hr
     · obtain ⟨o,ho⟩:=dH4;rw [Am.mp z,ho] at hr; cases hr
   exact q r _ (sE.none nr hr) (sE.trans (.of kr)) ⟨dx',b2,kr _ _ hx',hl'.keep kr⟩ aG
def kJ (a b k:Nat):Str:=Txt.mul (one (97+k)) ((a+1:Nat):Int)++Str.ofString " " ++ one (97+k)++Txt.mul (Str.ofString "t") ((b:Nat):Int)
def bN (a b k:Nat):Str×Str:=(cB (List.replicate (a+1) (97+k)),cB ((97+k)::List.replicate b 116))
def dI (a b:Nat):Nat->Str
 | 0=>Str.ofString "abc"
 | 1=>(bN a b 0).1++Str.ofString " new"
 | 2=>Str.ofString "vw " ++ (bN a b 0).2
 | 3=>Str.ofString "xy new"
 | _=>Str.ofString "abcdefg new"
def vH (r:Str):Bool:=decide (10 ∉ r.cps.toList) && decide (r.length<=17)
def eQQ:Bool:=(List.range 6).all λa=>(List.range 9).all λb=>(List.range 9).all λk=>pK (kJ a b k) && (decide (fX (kJ a b k)=bN a b k) && (vH (kJ a b k) && dE ((List.range 9).map (bN a b)) k))
def eQ9:Bool:=(List.range 6).all λa=>(List.range 9).all λb=>decide (Txt.split (kJ a b 0) (Str.ofString " ")=[(bN a b 0).1,(bN a b 0).2]) && (List.range 5).all λj=>vH (dI a b j) && (decide ((bN a b 0).1.length<=6) && decide ((bN a b 0).2.length<=9))
def eQN:Bool:=(List.range 6).all λa=>(List.range 9).all λb=>(List.range 4).all λj=>pK (dI a b (j+1)) && (List.range 8).all λt=>!dE ((List.range (t+1)).map (bN a b)++[fX (dI a b (j+1))]) (t+1)
theorem bX0:eQQ=true:=by decide +kernel
theorem bJ1:eQ9=true:=by decide +kernel
theorem bQV:eQN=true:=by decide +kernel
theorem eY {a b k:Nat} (ha:a<6) (hb:b<9) (hk:k<9):pK (kJ a b k)=true/\fX (kJ a b k)=bN a b k/\10 ∉ (kJ a b k).cps.toList/\(kJ a b k).length<=17/\dE ((List.range 9).map (bN a b)) k=true:=by
 have h:=As.mp (As.mp (As.mp bX0 a (Bg.mpr ha)) b (Bg.mpr hb)) k (Bg.mpr hk)
 unfold vH at h;simp only [Bool.and_eq_true,decide_eq_true_iff] at h;exact ⟨h.1,h.2.1,h.2.2.1.1,h.2.2.1.2,h.2.2.2⟩
theorem uU {a b:Nat} (ha:a<6) (hb:b<9):Txt.split (kJ a b 0) (Str.ofString " ")=[(bN a b 0).1,(bN a b 0).2]/\(∀ j,j<5->10 ∉ (dI a b j).cps.toList/\(dI a b j).length<=17)/\(bN a b 0).1.length<=6/\(bN a b 0).2.length<=9:=by
 have h:=As.mp (As.mp bJ1 a (Bg.mpr ha)) b (Bg.mpr hb)
 unfold vH at h;rw [Cd,Da] at h;have g:∀ j,j<5->(10 ∉ (dI a b j).cps.toList/\(dI a b j).length<=17)/\(bN a b 0).1.length<=6/\(bN a b 0).2.length<=9:=λj hj=>by
   have:=As.mp h.2 j (Bg.mpr hj)
   simp only [Bool.and_eq_true,decide_eq_true_iff] at this;exact this
 exact ⟨h.1,λj hj=>(g j hj).1,(g 0 (by decide)).2⟩
theorem dQQ {a b j t:Nat} (ha:a<6) (hb:b<9) (hj:j<4) (ht:t<8):pK (dI a b (j+1))=true/\dE ((List.range (t+1)).map (bN a b)++[fX (dI a b (j+1))]) (t+1)=false:=by
 have h:=As.mp (As.mp (As.mp bQV a (Bg.mpr ha)) b (Bg.mpr hb)) j (Bg.mpr hj)
 rw [Cd] at h;have g:=As.mp h.2 t (Bg.mpr ht)
 exact ⟨h.1,by rwa [Bool.not_eq_true'] at g⟩
theorem bX6 (a b:Nat):pK (dI a b 0)=false:=by
 show pK (Str.ofString "abc")=false
 decide +kernel
def aX (a b n:Nat):List Str:=(List.range n).map (kJ a b)
def cV (a b n t j:Nat):List Str:=(aX a b n).take (t+1)++[dI a b j]++(aX a b n).drop (t+1)
def cC (L:List Str):Str:=Txt.join (Str.ofString "\n") L
theorem uG {L:List Str} (h:L≠[]) (hf:∀ z ∈ L,10 ∉ z.cps.toList):bV (cC L)=L:=yU (c:=10) h hf
theorem yF {L:List Str} (h:∀ z∈L,z.length<=17) (h10:L.length<=10):(cC L).length<=200:=by
 have:=cQC (sep:=Str.ofString "\n") h
 rw [show (Str.ofString "\n").length=1 from rfl] at this;unfold cC;have h2:(17+1) * L.length<=180:=by omega
 omega
theorem gM {a b n:Nat} {z:Str} (h:z∈aX a b n):∃ k,k<n/\z=kJ a b k:=by
 obtain ⟨k,hk,rfl⟩:=Bw.mp h;exact ⟨k,Bg.mp hk,rfl⟩
theorem lI {a b n t j:Nat} {z:Str} (h:z∈cV a b n t j):(∃ k,k<n/\z=kJ a b k)\/z=dI a b j:=by
 unfold cV at h;rcases Co.mp h with h | h
 · rcases Co.mp h with h | h
   · exact .inl (gM (List.mem_of_mem_take h))
   · exact .inr (Am.mp h)
 · exact .inl (gM (List.mem_of_mem_drop h))
theorem jJ {bk bk':List (Str×Str)} {i:Nat} (h1:bk[i]?=bk'[i]?) (h2:bk.take i=bk'.take i):dE bk i=dE bk' i:=by
 unfold dE;rw [h1,h2]
theorem tT {a b n:Nat} (ha:a<6) (hb:b<9) (h1:1<=n) (h9:n<=9):bU (cC (aX a b n))=true/\fF (bkZ (cC (aX a b n)))/\(cC (aX a b n)).length<=200:=by
 have hne:aX a b n≠[]:=λz=>by
   have:=Dm List.length z
   unfold aX at this;rw [Ab,Bj] at this;exact absurd this (by show ¬ n=0; omega)
 have hr:=uG hne (λz hz=>by obtain ⟨k,hk,rfl⟩:=gM hz; exact (eY ha hb (by omega)).2.2.1)
 have hbk:bkZ (cC (aX a b n))=(List.range n).map (bN a b):=by
   unfold bkZ;rw [hr];unfold aX;rw [Cb];exact Fs λk hk=>(eY ha hb (by have:=Bg.mp hk; omega)).2.1
 refine ⟨?_,?_,yF (λz hz=>by obtain ⟨k,hk,rfl⟩:=gM hz; exact (eY ha hb (by omega)).2.2.2.1) (by unfold aX; rw [Ab,Bj]; omega)⟩
 · unfold bU;rw [hr];exact As.mpr λz hz=>by obtain ⟨k,hk,rfl⟩:=gM hz; exact (eY ha hb (by omega)).1
 · rw [hbk];intro j hj;rw [Ab,Bj] at hj;rw [jJ (bk':=(List.range 9).map (bN a b))]
   · exact (eY ha hb (by omega)).2.2.2.2
   · rw [Af,Af,Di hj,Di (show j<9 by omega)]
   · rw [<-Eb,<-Eb,Fy,Fy,Dj (by omega),Dj (by omega)]
theorem kQ {a b n t j:Nat} (ha:a<6) (hb:b<9) (h9:n<=9) (hj:j<5):bV (cC (cV a b n t j))=cV a b n t j/\(cC (cV a b n t j)).length<=200:=by
 have hne:cV a b n t j≠[]:=λz=>by
   unfold cV at z;rw [Cc] at z;have:=(List.append_eq_nil_iff.mp z).2
   cases this
 refine ⟨uG hne λz hz=>?_,yF (λz hz=>?_) ?_⟩
 · rcases lI hz with ⟨k,hk,rfl⟩ | rfl
   · exact (eY ha hb (by omega)).2.2.1
   · exact ((uU ha hb).2.1 j hj).1
 · rcases lI hz with ⟨k,hk,rfl⟩ | rfl
   · exact (eY ha hb (by omega)).2.2.2.1
   · exact ((uU ha hb).2.1 j hj).2
 · unfold cV aX;rw [Aj,Aj,Ba,Ec,Ab,Bj];show min (t+1) n+1+(n - (t+1))<=10
   omega
theorem xZ {a b n t:Nat} (ha:a<6) (hb:b<9) (h9:n<=9):bU (cC (cV a b n t 0))=false:=by
 unfold bU;rw [(kQ ha hb h9 (by decide)).1,List.all_eq_false]
 refine ⟨dI a b 0,?_,by rw [bX6]; decide⟩
 unfold cV;rw [Cc];exact Ax _ (Du _ (Am.mpr rfl))
theorem xX {a b n t j:Nat} (ha:a<6) (hb:b<9) (h9:n<=9) (ht:t+1<n) (hj:j<4):bU (cC (cV a b n t (j+1)))=true/\kE (bkZ (cC (cV a b n t (j+1)))) (t+1):=by
 have hr:=(kQ (t:=t) (n:=n) ha hb h9 (show j+1<5 by omega)).1
 have hb1:=dQQ ha hb hj (show t<8 by omega)
 have hbk:bkZ (cC (cV a b n t (j+1)))=(List.range (t+1)).map (bN a b)++[fX (dI a b (j+1))]++((aX a b n).drop (t+1)).map fX:=by
   unfold bkZ;rw [hr];unfold cV;rw [Bi,Bi];congr 2
   unfold aX;rw [<-Eb,Fy,Dj (by omega),Cb]
   exact Fs λk hk=>(eY ha hb (by have:=Bg.mp hk; omega)).2.1
 have hl:((List.range (t+1)).map (bN a b)).length=t+1:=by rw [Ab,Bj]
 refine ⟨?_,?_,?_,λi hi=>?_⟩
 · unfold bU;rw [hr];refine As.mpr λz hz=>?_;rcases lI hz with ⟨k,hk,rfl⟩ | rfl
   · exact (eY ha hb (by omega)).1
   · exact hb1.1
 · rw [hbk,Aj,Aj,hl];show t+1<t+1+1+_
   omega
 · rw [hbk,jJ (bk':=(List.range (t+1)).map (bN a b)++[fX (dI a b (j+1))])]
   · exact hb1.2
   · rw [Bh (by rw [Aj,hl]; show t+1<t+1+1; omega)]
   · rw [List.take_append_of_le_length (by rw [Aj,hl]; show t+1<=t+1+1; omega)]
 · rw [hbk,jJ (bk':=(List.range 9).map (bN a b))]
   · exact (eY ha hb (by omega)).2.2.2.2
   · rw [Cc,Bh (by rw [hl]; exact hi),Af,Af,Di hi,Di (show i<9 by omega)]
   · rw [Cc,List.take_append_of_le_length (by rw [hl]; omega),<-Eb,<-Eb,Fy,Fy,Dj (by omega),Dj (by omega)]
def bQU (w:List Nat) (x:Nat×Int):Bool:=decide (nY x.1) && (decide (1<=x.2) && (decide (x.2<=99) && decide (w=kM x.1++uW x.2)))
theorem bJH {w:List Nat} {x:Nat×Int} (h:bQU w x=true):PartIs w x:=by
 unfold bQU at h;simp only [Bool.and_eq_true,decide_eq_true_iff] at h;exact h
def bXZ (w:List Nat):Bool:=flagsT.cps.toList.any λd=>(List.range 99).any λn=>decide (w=kM d++uW ((n+1:Nat):Int))
theorem cXS {w:List Nat} (h:bXZ w=false) (x:Nat×Int):¬ PartIs w x:=by
 rintro ⟨h1,h2,h3,h4⟩;unfold bXZ at h;have a:=Ge.mp h x.1 (flags_mem.mpr h1)
 rw [Bool.not_eq_true] at a;have b:=Ge.mp a (x.2 - 1).toNat (Bg.mpr (by omega))
 rw [Da,show (((x.2 - 1).toNat+1:Nat):Int)=x.2 by omega] at b
 exact b h4
theorem cH {z:Str} {w:List Nat} (hz:z≠Str.ofString "") (hw:w∈wds z) (h:bXZ w=false):kB z:=by
 refine ⟨hz,λxs hp _=>?_⟩;obtain ⟨j,hj⟩:=Dp.mp hw;have hl:=(Ae.mp hj).1
 have hx:xs[j]?=some (xs[j]'(by rw [<-hp.1]; exact hl)):=Aa _
 exact cXS h _ (hp.2 j w _ hj hx)
theorem jD {ws:List (List Nat)} {xs:List (Nat×Int)} (hl:ws.length=xs.length) (h:(ws.zip xs).all (λp=>bQU p.1 p.2)=true):Parts ws xs:=by
 refine ⟨hl,λj w x hw hx=>bJH ?_⟩;exact As.mp h (w,x) (Ap (i:=j) (by rw [List.getElem?_zip_eq_some]; exact ⟨hw,hx⟩))
theorem mC {z:Str} {xs:List (Nat×Int)} (hz:z≠Str.ofString "") (hp:Parts (wds z) xs) (ho:¬ Ord xs):kB z:=⟨hz,λys hy h=>ho (by rw [Parts.inj hp hy]; exact h)⟩
instance (xs:List (Nat×Int)):Decidable (Ord xs):=inferInstanceAs (Decidable (List.Pairwise (λx y=>plc x.1<plc y.1) xs))
def oddL:List Str:=[Str.ofString "a3 a1",Str.ofString "b1 a1",Str.ofString "a0",Str.ofString "b03",Str.ofString "x1",Str.ofString "a",Str.ofString "1x0",Str.ofString "11",Str.ofString "a100",Str.ofString "a1  b1",Str.ofString " ",Str.ofString "4x1 3x1",Str.ofString "A1"]
theorem aQF {z:Str} (h:z∈oddL):kB z/\z.length<=900:=by
 unfold oddL at h;simp only [List.mem_cons,List.not_mem_nil,or_false] at h;rcases h with rfl | rfl | rfl | rfl | rfl | rfl | rfl | rfl | rfl | rfl | rfl | rfl | rfl
 · exact ⟨mC (xs:=[(97,3),(97,1)]) (by decide +kernel) (jD (by decide +kernel) (by decide +kernel)) (by decide +kernel),by decide⟩
 · exact ⟨mC (xs:=[(98,1),(97,1)]) (by decide +kernel) (jD (by decide +kernel) (by decide +kernel)) (by decide +kernel),by decide⟩
 · exact ⟨cH (w:=[97,48]) (by decide +kernel) (by decide +kernel) (by decide +kernel),by decide⟩
 · exact ⟨cH (w:=[98,48,51]) (by decide +kernel) (by decide +kernel) (by decide +kernel),by decide⟩
 · exact ⟨cH (w:=[120,49]) (by decide +kernel) (by decide +kernel) (by decide +kernel),by decide⟩
 · exact ⟨cH (w:=[97]) (by decide +kernel) (by decide +kernel) (by decide +kernel),by decide⟩
 · exact ⟨cH (w:=[49,120,48]) (by decide +kernel) (by decide +kernel) (by decide +kernel),by decide⟩
 · exact ⟨cH (w:=[49,49]) (by decide +kernel) (by decide +kernel) (by decide +kernel),by decide⟩
 · exact ⟨cH (w:=[97,49,48,48]) (by decide +kernel) (by decide +kernel) (by decide +kernel),by decide⟩
 · exact ⟨cH (w:=[]) (by decide +kernel) (by decide +kernel) (by decide +kernel),by decide⟩
 · exact ⟨cH (w:=[]) (by decide +kernel) (by decide +kernel) (by decide +kernel),by decide⟩
 · exact ⟨mC (xs:=[(52,1),(51,1)]) (by decide +kernel) (jD (by decide +kernel) (by decide +kernel)) (by decide +kernel),by decide⟩
 · exact ⟨cH (w:=[65,49]) (by decide +kernel) (by decide +kernel) (by decide +kernel),by decide⟩
def someL:List Str:=[Str.ofString "",Str.ofString "a1",Str.ofString "a3 b99 w2 1x1 4x12",Str.ofString "c7 2x9"]
theorem pQ {z:Str} (h:z∈someL):∃ xs,LockIs z xs/\vM xs=z/\cntF (cW (cntF (fOf xs))) 97<99/\z.length<=900:=by
 unfold someL at h;simp only [List.mem_cons,List.not_mem_nil,or_false] at h;rcases h with rfl | rfl | rfl | rfl
 · exact ⟨[],.inl ⟨rfl,rfl⟩,by decide +kernel,by decide +kernel,by decide⟩
 · exact ⟨[(97,1)],.inr ⟨by decide +kernel,jD (by decide +kernel) (by decide +kernel),by decide +kernel⟩,by decide +kernel,by decide +kernel,by decide⟩
 · exact ⟨[(97,3),(98,99),(119,2),(49,1),(52,12)],.inr ⟨by decide +kernel,jD (by decide +kernel) (by decide +kernel),by decide +kernel⟩,by decide +kernel,by decide +kernel,by decide⟩
 · exact ⟨[(99,7),(50,9)],.inr ⟨by decide +kernel,jD (by decide +kernel) (by decide +kernel),by decide +kernel⟩,by decide +kernel,by decide +kernel,by decide⟩
def tO (K:PySem.W.Frag):Sp:=λvs H Q _=>∃ (a:Addr) (ns:List Int) (k:Int),vs=[.ref a,.int k]/\SqL K H a (ns.map V.int)/\0<=k/\∀ n:Int,Q (.int n) H
theorem aJ2:FnScope ["_law_script", "_law_k"] ["_law_script", "_law_k"] (aE iM):=by walk_at "sc"
theorem aJT {aTower Zz Zw aDesk Zx Zu Zv Zy Zt Zs:Addr} {f:Addr} {fd:FuncData} (F:Fun K "_law_cell" "_law_cell" iM f fd) (G:Gs K mg w aTower Zz Zw aDesk Zx Zu Zv Zy Zt Zs)  : FnOk P w K mg base CX0 1 f fd ["_law_script", "_law_k"] (tO K):=by
 refine F.ok aJ2 (λvs H Q E h=>?_) (λcdv A outer s H vs Q E hr h=>?_)
 · obtain ⟨a,ns,k,rfl,_⟩:=h; rfl
 obtain ⟨a,ns,k,rfl,hS,h0,q⟩:=h;refine ⟨_,(@aH _ _ _ _ _ (bR (bB aZZ (mv 1) (bD vN rfl G.b_len dC (aA (mv 0) aD)) (aR _)) (@aI _ _ _ (aO (bE ix_list (mv 0) (mv 1) (λ_ _=>rfl)))) aU) (@aI _ _ _ (aO aJ))),?_⟩;walk_at "go";refine ⟨_,_,rfl,.inl hS,?_⟩;have hnl:(ns.map V.int).length=ns.length:=Ab ..
 rw [hnl];walk_at "go";refine jZ (λhd=>?_) (λhd=>?_)
 · have hd':=Az hd
   obtain ⟨n,_,an⟩:=cXX (ns:=ns) (i:=k) h0 hd';walk_at "go";exact dJW hS an (q n)
 · walk_at "go";exact q 0
theorem gF {c:Int} {n:Nat} (h:0<n):∃ k:Nat,c % (n:Int)=(k:Int)/\k<n:=by
 have y0:=Int.emod_nonneg c (show ((n:Nat):Int)≠0 by omega)
 have y1:=Int.emod_lt_of_pos c (show (0:Int)<((n:Nat):Int) by omega)
 exact ⟨(c % (n:Int)).toNat,by omega,by omega⟩
def tW:Sp:=λvs H Q _=>∃ c:Int,vs=[.int c]/\∀ (a b n:Nat) (r:Addr) (H':Hp),a<6->b<9->2<=n->n<=9->H r=none->Same H H'->H' r=some (.lst ((aX a b n).map V.str))->Q (.ref r) H'
theorem cQ9 {i:Nat} (h:i<9):atI (Str.ofString "abcdefghi").cps.toList ((i:Nat):Int)=some (97+i):=by
 have:∀ i:_root_.Fin 9,atI (Str.ofString "abcdefghi").cps.toList ((i.val:Nat):Int)=some (97+i.val):=by decide +kernel
 exact this ⟨i,h⟩
theorem sc_l_book:FnScope ["_law_cell_here", "_law_rows", "_law_k", "_law_sign"] ["_law_cell_here"] (aE iR):=by walk_at "sc"
theorem aJY {aTower Zz Zw aDesk Zx Zu Zv Zy Zt Zs:Addr} {f:Addr} {fd:FuncData} (F:Fun K "_law_book" "_law_book" iR f fd) (G:Gs K mg w aTower Zz Zw aDesk Zx Zu Zv Zy Zt Zs)  : FnOk P w K mg base CX0 1 f fd ["_law_cell_here"] tW:=by
 refine F.ok sc_l_book (λvs H Q E h=>?_) (λcdv A outer s H vs Q E hr h=>?_)
 · obtain ⟨c,rfl,_⟩:=h; rfl
 obtain ⟨c,rfl,q⟩:=h;refine ⟨_,(@aH _ _ _ _ _ (@bI _ _ 1 _ _ _ _ sc_l_book.nd (by rfl) (by exact (Or.inl rfl)) (bJ aD) (by rfl) (by walk_at "o")) (@aH _ _ _ _ _ (mD Fe rfl (sZ rfl G.b_range (aA (bF dW aJ (bF gS (mv 0) aJ)) aD)) (bL (i:=2) sc_l_book.nd rfl (Or.inl rfl)) (@aH _ _ _ _ _ (@bI _ _ 3 _ _ _ _ sc_l_book.nd (by rfl) (by exact (Or.inl rfl)) (bE bW bP (mv 2) (λ_ _=>rfl)) (by rfl) (by walk_at "o")) (@aI _ _ _ (jH (bX De PySem.F.slot_list_append PySem.F.type_list_append cJ0 (mv 1) (aA (bF dW (bF dW (bF dW (bF bXF (mv 3) (bF dW aJ (bF gS (bF iF (mv 0) aJ) aJ))) bP) (mv 3)) (bF bXF bP (bF gS (bF iF (mv 0) aJ) aJ))) aD)))))) (@aI _ _ _ (aO (mv 1))))),?_⟩
 obtain ⟨n0,en,hn⟩:=gF (c:=c) (n:=8) (by decide)
 obtain ⟨a,ea,ha⟩:=gF (c:=c / 8) (n:=6) (by decide)
 obtain ⟨b,eb,hb⟩:=gF (c:=c / 48) (n:=9) (by decide)
 have en':c % 8=(n0:Int):=en
 have ea':c / 8 % 6=(a:Int):=ea
 have eb':c / 48 % 9=(b:Int):=eb
 walk_at "go";refine ⟨by decide,λp hp=>?_⟩
 have s1:=aF hp (.lst [])
 have e1:(upd H p (.lst [])) p=some (.lst []):=aG
 generalize upd H p (.lst [])=H1 at s1 e1 ⊢;walk_at "go";rw [en'];refine ⟨⟨by omega,by omega⟩,?_⟩
 rw [show ((2:Int)+(n0:Int)).toNat=n0+2 by omega]
 refine zF (λi σ H'=>∃ v2 v3,σ=[some (.int c),some (.ref p),v2,v3]/\Same H H'/\H' p=some (.lst ((aX a b i).map V.str))) ⟨_,_,rfl,s1,e1⟩ ?_ ?_
 · rintro i σ H2 hi ⟨v2,v3,rfl,s2,e2⟩;have hi9:i<9:=by omega
   have m2:=eZ e2
   have hrl:(aX a b i).length=i:=by unfold aX; rw [Ab,Bj]
   rw [show (0:Int)+(i:Int)=(i:Int) by omega]
   walk_at "go";refine cJM (by decide) (cQ9 hi9) ?_
   walk_at "go";rw [ea'];walk_at "go";refine bZ6 (by omega) (by omega) (by show 1<=1000; decide) ?_
   rw [show (1:Int)+(a:Int)=((a+1:Nat):Int) by omega]
   have hlen:=(eY ha hb hi9).2.2.2.1
   have hrow:aX a b (i+1)=aX a b i++[kJ a b i]:=by unfold aX; rw [Cp,Bi]; rfl
   unfold kJ at hlen hrow;rw [Cu,Cu,Cu] at hlen;generalize hX:Txt.mul ⟨#[97+i]⟩ ((a+1:Nat):Int)=X;have hX':Txt.mul (one (97+i)) ((a+1:Nat):Int)=X:=hX
   rw [hX'] at hlen hrow;have ho:(⟨#[97+i]⟩:Str).length=1:=rfl
   have ho':(one (97+i)).length=1:=rfl
   have hb1:(Str.ofString " ").length=1:=rfl
   rw [ho',hb1] at hlen;walk_at "go";rw [eb'];refine bZ6 (by omega) (by omega) (by show 1<=1000; decide) ?_
   generalize Txt.mul (Str.ofString "t") ((b:Nat):Int)=Y at hlen hrow ⊢;walk_at "go";exact ⟨_,_,rfl,eJ hp s2,by rw [aG,hrow,Bi]; rfl⟩
 · rintro σ H2 ⟨v2,v3,rfl,s2,e2⟩;walk_at "go";exact q a b (n0+2) p H2 ha hb (by omega) (by omega) hp s2 e2
def iS:Sp:=λvs H Q _=>∃ (l:Addr) (c:Int) (a b n:Nat),vs=[.ref l,.int c]/\rdL H l=some ((aX a b n).map V.str)/\a<6/\b<9/\2<=n/\n<=9/\
 ∀ (t j:Nat) (r l2:Addr) (H':Hp),t+1<n->j<5->H r=none->Same H H'->H' r=some (.lst [.ref l2,.str (if j=0 then Str.ofString "text" else Str.ofString "book"),.int ((t+1:Nat):Int)])->H' l2=some (.lst ((cV a b n t j).map V.str))->Q (.ref r) H'
theorem sc_l_spoilt_book:FnScope ["_law_rows", "_law_cell_here", "_law_at", "_law_row", "_law_due"] ["_law_rows", "_law_cell_here"] (aE cP):=by walk_at "sc"
theorem nT {aTower Zz Zw aDesk Zx Zu Zv Zy Zt Zs:Addr} {f:Addr} {fd:FuncData} (F:Fun K "_law_spoilt_book" "_law_spoilt_book" cP f fd) (G:Gs K mg w aTower Zz Zw aDesk Zx Zu Zv Zy Zt Zs)  : FnOk P w K mg base CX0 1 f fd ["_law_rows", "_law_cell_here"] iS:=by
 refine F.ok sc_l_spoilt_book (λvs H Q E h=>?_) (λcdv A outer s H vs Q E hr h=>?_)
 · obtain ⟨l,c,a,b,n,rfl,_⟩:=h; rfl
 obtain ⟨l,c,a,b,n,rfl,hl,ha,hb,h2,h9,q⟩:=h;refine ⟨_,(@aH _ _ _ _ _ (@bI _ _ 2 _ _ _ _ sc_l_spoilt_book.nd (by rfl) (by exact (Or.inl rfl)) (bF dW aJ (bF gS (mv 1) (bF cJ1 (bD fI rfl G.b_len dC (aA (mv 0) aD)) aJ))) (by rfl) (by walk_at "o")) (@aH _ _ _ _ _ (@bI _ _ 3 _ _ _ _ sc_l_spoilt_book.nd (by rfl) (by exact (Or.inl rfl)) (@bE _ _ _ _ _ _ _ bW (@bJ _ _ _ _ (@aW _ _ _ _ _ _ (aA (bF dW (bE bW (bX Bb Df Dg lB (bE bW (mv 0) aJ (λ_ _=>rfl)) (@aW _ _ _ _ _ _ aD)) aJ (λ_ _=>rfl)) bP) (aA (bF dW bP (bE bW (bX Bb Df Dg lB (bE bW (mv 0) aJ (λ_ _=>rfl)) (@aW _ _ _ _ _ _ aD)) aJ (λ_ _=>rfl))) (@aW _ _ _ _ _ _ (@aW _ _ _ _ _ _ aD)))))) (bF gS (bF iF (mv 1) aJ) aJ) (λ_ _=>rfl)) (by rfl) (by walk_at "o")) (@aH _ _ _ _ _ (@bI _ _ 4 _ _ _ _ sc_l_spoilt_book.nd (by rfl) (by exact (Or.inl rfl)) (@bE _ _ _ _ _ _ _ bW (bJ (@aW _ _ _ _ _ _ (@aW _ _ _ _ _ _ aD))) (cA bXP rfl G.b_int pV (aA (cG xD (bF gS (bF iF (mv 1) aJ) aJ) aJ (aR _)) aD)) (λ_ _=>rfl)) (by rfl) (by walk_at "o")) (@aI _ _ _ (aO (bJ (aA (bF dW (bF dW (gZ aXI (mv 0) jF (jM (mv 2))) (bJ (aA (mv 3) aD))) (gZ aXI (mv 0) (jM (mv 2)) jF)) (aA (mv 4) (aA (mv 2) aD))))))))),?_⟩
 have hrl:((aX a b n).map V.str).length=n:=by unfold aX; rw [Ab,Ab,Bj]
 obtain ⟨t,et,ht⟩:=gF (c:=c) (n:=n - 1) (by omega)
 rw [show ((n - 1:Nat):Int)=(n:Int) - 1 by omega] at et
 obtain ⟨j,ej,hj⟩:=gF (c:=c / 9) (n:=5) (by decide)
 have ej':c / 9 % 5=(j:Int):=ej
 have r0:(aX a b n)[0]?=some (kJ a b 0):=by unfold aX; rw [Af,Di (by omega)]; rfl
 obtain ⟨hcut,hbad,hw6,hm9⟩:=uU ha hb;have hr17:=(eY ha hb (show 0<9 by decide)).2.2.2.1
 walk_at "go";rw [hrl,et,show (1:Int)+(t:Int)=((t+1:Nat):Int) by omega]
 refine bY hl (v:=.str (kJ a b 0)) (aS (by rw [Af,r0]; rfl)) ?_
 walk_at "go";refine kF (by decide) (by omega) λp1 hp1=>?_
 rw [hcut];have k1:=aF hp1 (.lst (([(bN a b 0).1,(bN a b 0).2]:List Str).map V.str))
 have e1:rdL (upd H p1 (.lst (([(bN a b 0).1,(bN a b 0).2]:List Str).map V.str))) p1=some (([(bN a b 0).1,(bN a b 0).2]:List Str).map V.str):=bH
 generalize upd H p1 (.lst (([(bN a b 0).1,(bN a b 0).2]:List Str).map V.str))=H1 at k1 e1 ⊢;have hn4:(Str.ofString " new").length=4:=rfl
 have hv3:(Str.ofString "vw ").length=3:=rfl
 walk_at "go";refine bY e1 (v:=.str (bN a b 0).1) (aS (j:=0) rfl) ?_;walk_at "go";refine bY (aV k1 hl) (v:=.str (kJ a b 0)) (aS (by rw [Af,r0]; rfl)) ?_
 walk_at "go";refine kF (by decide) (by omega) λp2 hp2=>?_
 rw [hcut];have k2:=k1.trans (aF hp2 (.lst (([(bN a b 0).1,(bN a b 0).2]:List Str).map V.str)))
 have e2:rdL (upd H1 p2 (.lst (([(bN a b 0).1,(bN a b 0).2]:List Str).map V.str))) p2=some (([(bN a b 0).1,(bN a b 0).2]:List Str).map V.str):=bH
 generalize upd H1 p2 (.lst (([(bN a b 0).1,(bN a b 0).2]:List Str).map V.str))=H2 at k2 e2 ⊢;walk_at "go";refine bY e2 (v:=.str (bN a b 0).2) (aS (j:=1) rfl) ?_;walk_at "go";refine ⟨by show 5<=sizeLine; decide,λp3 hp3=>?_⟩
 have k3:=k2.trans (aF hp3 (.lst [V.str (Str.ofString "abc"),V.str ((bN a b 0).1++Str.ofString " new"),V.str (Str.ofString "vw " ++ (bN a b 0).2),V.str (Str.ofString "xy new"),V.str (Str.ofString "abcdefg new")]))
 have e3:rdL (upd H2 p3 (.lst [V.str (Str.ofString "abc"),V.str ((bN a b 0).1++Str.ofString " new"),V.str (Str.ofString "vw " ++ (bN a b 0).2),V.str (Str.ofString "xy new"),V.str (Str.ofString "abcdefg new")])) p3=some [V.str (dI a b 0),V.str (dI a b 1),V.str (dI a b 2),V.str (dI a b 3),V.str (dI a b 4)]:=bH
 generalize upd H2 p3 (.lst [V.str (Str.ofString "abc"),V.str ((bN a b 0).1++Str.ofString " new"),V.str (Str.ofString "vw " ++ (bN a b 0).2),V.str (Str.ofString "xy new"),V.str (Str.ofString "abcdefg new")])=H3 at k3 e3 ⊢;have gj:[V.str (dI a b 0),V.str (dI a b 1),V.str (dI a b 2),V.str (dI a b 3),V.str (dI a b 4)][j]?=some (V.str (dI a b j)):=by
   match j,hj with
   | 0,_=>rfl
   | 1,_=>rfl
   | 2,_=>rfl
   | 3,_=>rfl
   | 4,_=>rfl
 walk_at "go";rw [ej'];refine bY e3 (v:=.str (dI a b j)) (aS gj) ?_;walk_at "go";refine ⟨by show 2<=sizeLine; decide,λp4 hp4=>?_⟩
 have k4:=k3.trans (aF hp4 (.lst [V.str (Str.ofString "text"),V.str (Str.ofString "book")]))
 have e4:rdL (upd H3 p4 (.lst [V.str (Str.ofString "text"),V.str (Str.ofString "book")])) p4=some [V.str (Str.ofString "text"),V.str (Str.ofString "book")]:=bH
 generalize upd H3 p4 (.lst [V.str (Str.ofString "text"),V.str (Str.ofString "book")])=H4 at k4 e4 ⊢;walk_at "go";rw [ej'];have g4:atI [V.str (Str.ofString "text"),V.str (Str.ofString "book")] (if decide ((0:Int)<(j:Int))=true then 1 else 0)=some (V.str (if j=0 then Str.ofString "text" else Str.ofString "book")):=by
   by_cases h0:j=0
   · rw [if_pos h0,if_neg (by rw [Da]; omega)]
     exact aS (j:=0) rfl
   · rw [if_neg h0,if_pos (Aq (by omega))]
     exact aS (j:=1) rfl
 refine bY e4 g4 ?_;walk_at "go";have cutT:pJ ((aX a b n).map V.str) none (some ((t+1:Nat):Int))=((aX a b n).take (t+1)).map V.str:=by rw [qR (by omega),Eb]; rfl
 have cutD:pJ ((aX a b n).map V.str) (some ((t+1:Nat):Int)) none=((aX a b n).drop (t+1)).map V.str:=by rw [sP (by omega),List.map_drop]; rfl
 refine bQX (aV k4 hl) λp5 hp5=>?_;rw [cutT];have k5:=k4.trans (aF hp5 (.lst (((aX a b n).take (t+1)).map V.str)))
 have e5:(upd H4 p5 (.lst (((aX a b n).take (t+1)).map V.str))) p5=some (.lst (((aX a b n).take (t+1)).map V.str)):=aG
 generalize upd H4 p5 (.lst (((aX a b n).take (t+1)).map V.str))=H5 at k5 e5 ⊢;walk_at "go";refine ⟨by show 1<=sizeLine; decide,λp6 hp6=>?_⟩
 have s56:=aF hp6 (.lst [V.str (dI a b j)])
 have k6:=k5.trans s56
 have m5:=eZ (s56 _ _ e5)
 refine qZ (xs:=((aX a b n).take (t+1)).map V.str) (ys:=[V.str (dI a b j)]) m5 eR (bQ (by rw [Ab,Ba]; show min _ _+1<=_; omega)) λp7 hp7=>?_
 have k7:=k6.trans (aF hp7 (.lst (((aX a b n).take (t+1)).map V.str++[V.str (dI a b j)])))
 have e7:(upd (upd H5 p6 (.lst [V.str (dI a b j)])) p7 (.lst (((aX a b n).take (t+1)).map V.str++[V.str (dI a b j)]))) p7=some (.lst (((aX a b n).take (t+1)).map V.str++[V.str (dI a b j)])):=aG
 generalize upd (upd H5 p6 (.lst [V.str (dI a b j)])) p7 (.lst (((aX a b n).take (t+1)).map V.str++[V.str (dI a b j)]))=H7 at k7 e7 ⊢;walk_at "go";refine bQX (aV k7 hl) λp8 hp8=>?_;rw [cutD];have s78:=aF hp8 (.lst (((aX a b n).drop (t+1)).map V.str))
 have k8:=k7.trans s78
 have m7:=eZ (s78 _ _ e7)
 refine qZ (xs:=((aX a b n).take (t+1)).map V.str++[V.str (dI a b j)]) (ys:=((aX a b n).drop (t+1)).map V.str) m7 eR (bQ (by
   have hrl':(aX a b n).length=n:=by rw [Ab] at hrl; exact hrl
   rw [Aj,Ab,Ab,Ba,Ec,hrl']; show min _ _+1+_<=_; omega)) λp9 hp9=>?_
 have k9:=k8.trans (aF hp9 (.lst (((aX a b n).take (t+1)).map V.str++[V.str (dI a b j)]++((aX a b n).drop (t+1)).map V.str)))
 have e9:(upd (upd H7 p8 (.lst (((aX a b n).drop (t+1)).map V.str))) p9 (.lst (((aX a b n).take (t+1)).map V.str++[V.str (dI a b j)]++((aX a b n).drop (t+1)).map V.str))) p9=some (.lst ((cV a b n t j).map V.str)):=by
   rw [aG];unfold cV;rw [Bi,Bi];rfl
 generalize upd (upd H7 p8 (.lst (((aX a b n).drop (t+1)).map V.str))) p9 (.lst (((aX a b n).take (t+1)).map V.str++[V.str (dI a b j)]++((aX a b n).drop (t+1)).map V.str))=H9 at k9 e9 ⊢;walk_at "go";refine ⟨by show 3<=sizeLine; decide,λr hr=>?_⟩
 exact q t j r p9 _ (by omega) hj (none_of k9 hr) (k9.trans (aF hr _)) aG (aF hr _ _ _ e9)
structure MadeQ (C Ct:Addr) (H:Hp) (z zl:Str) (m:Int) (Q:VK):Prop where
 two:bU z=false->∀ (r:Addr) (H':Hp),H r=none->Same H H'->H' r=some (.lst [.str (Str.ofString "text"),.bl true])->Q (.ref r) H'
 bad:bU z=true->∀ i:Nat,kE (bkZ z) i->∀ (r:Addr) (H':Hp),H r=none->Same H H'->H' r=some (.lst [.str (Str.ofString "book"),.int (i:Int)])->Q (.ref r) H'
 nol:bU z=true->fF (bkZ z)->kB zl->∀ (r:Addr) (H':Hp),H r=none->Same H H'->H' r=some (.lst [.str (Str.ofString "text"),.bl true])->Q (.ref r) H'
 hal:bU z=true->fF (bkZ z)->∀ xs,LockIs zl xs->¬ (1<=m/\m<=6)->∀ (r:Addr) (H':Hp),H r=none->Same H H'->H' r=some (.lst [.str (Str.ofString "halyard"),.bl true])->Q (.ref r) H'
 yes:bU z=true->fF (bkZ z)->∀ xs,LockIs zl xs->∀ n:Nat,m=(n:Int)->1<=n->n<=6->vM xs=zl/\∀ (r x t dd:Addr) (H':Hp),H r=none->H t=none->H dd=none->Same H H'->r≠t->r≠dd->DkOk C Ct H' x t dd n xs (bkZ z)->H' r=some (.lst [.str (Str.ofString "made"),.ref x])->Q (.ref r) H'
def tR (C Ct:Addr):Sp:=λvs H Q _=>∃ (rt:Addr) (z zl:Str) (m:Int),vs=[.ref rt,.int m]/\rdL H rt=some [.str z,.str zl]/\z.length<=19000/\zl.length<=900/\MadeQ C Ct H z zl m Q
theorem DkOk.keep {C Ct:Addr} {H H':Hp} {x t dd:Addr} {m:Nat} {xs:List (Nat×Int)} {bk:List (Str×Str)} (h:DkOk C Ct H x t dd m xs bk) (s:Same H H'):DkOk C Ct H' x t dd m xs bk:=by
 obtain ⟨dx,b,dt,b',s0,st,hg,kvs,h1,h2,h3,h4,h5,h6,h7,h8,h9,h10⟩:=h;exact ⟨dx,b,dt,b',s0,st,hg,kvs,s _ _ h1,s _ _ h2,s _ _ h3,h4,s _ _ h5,h6,h7,h8.keep s,h9,s _ _ h10⟩
theorem DkOk.log {C Ct:Addr} {H:Hp} {x t dd:Addr} {m:Nat} {xs:List (Nat×Int)} {bk:List (Str×Str)} (h:DkOk C Ct H x t dd m xs bk):LogAt C Ct H x t dd 0:=by
 obtain ⟨dx,b,dt,b',s0,st,hg,kvs,h1,h2,h3,h4,h5,h6,h7,h8,h9,h10⟩:=h;exact ⟨dx,b,h1,dt,b',s0,st,hg,m,[],h2,h10,(λp hp=>nomatch hp),rfl,by decide⟩
theorem xV (m:Nat):(List.replicate ((m:Int)).toNat [V.str (Str.ofString "-")]).flatten=(List.replicate m (Str.ofString "-")).map V.str:=by
 rw [Int.toNat_natCast];induction m with
 | zero=>rfl
 | succ n ih=>rw [Cg,Cs,ih,Cg]; rfl
theorem cQ5 (n:Nat):Txt.join (Str.ofString " ") (List.replicate n (Str.ofString "-"))=rN n:=by
 unfold rN;rw [Fb];rfl
theorem bJN {n:Nat} (h:n<=6):((List.replicate n (Str.ofString "-")).map (·.length)).sum+(List.replicate n (Str.ofString "-")).length * (Str.ofString " ").length<=16777216:=by
 match n,h with
 | 0,_=>decide
 | 1,_=>decide
 | 2,_=>decide
 | 3,_=>decide
 | 4,_=>decide
 | 5,_=>decide
 | 6,_=>decide
theorem mX {H:Hp} {p q:Addr} {ss:List Str} {n:Nat} (hp:rdL H p=some (ss.map V.str)) (hq:rdL H q=some (ss.map V.str)):Alk H (n+1) (.ref p) (.ref q):=.lst hp hq rfl (.flats (cR _))
theorem sc_l_made:FnScope ["_law_texts", "_law_many", "_law_desk", "e", "_law_some"] ["_law_texts", "_law_many"] (aE jA):=by walk_at "sc"
theorem aJS {aTower Zz Zw aDesk Zx Zu Zv Zy Zt Zs:Addr} {f:Addr} {fd:FuncData} (F:Fun K "_law_made" "_law_made" jA f fd) (G:Gs K mg w aTower Zz Zw aDesk Zx Zu Zv Zy Zt Zs) (c_Desk_init:aJE (CXr P w) P w K mg base 6 aDesk ["self", "book_text", "locker_text", "many"] (jQ aDesk aTower Zv Zu Zy)) (c_Desk_say:lJ CX0 P w K mg base 9 aDesk "say" ["self", "row"] (hZ aDesk aTower)):FnOk P w K mg base CX0 11 f fd ["_law_texts", "_law_many"] (tR aDesk aTower):=by
 refine F.ok sc_l_made (λvs H Q E h=>?_) (λcdv A outer s H vs Q E hr h=>?_)
 · obtain ⟨rt,z,zl,m,rfl,_⟩:=h; rfl
 obtain ⟨rt,z,zl,m,rfl,hrt,hz,hzl,mq⟩:=h;refine ⟨_,(@aH _ _ _ _ _ (cZ6 (i1:=3) (i2:=3) (i3:=3) rfl rfl rfl sc_l_made.nd rfl rfl rfl rfl rfl rfl rfl G.c_NoBook rfl G.c_NoText rfl G.c_NoHalyard (λpins R=>(@aI _ _ _ (@bI _ _ 2 _ _ _ _ sc_l_made.nd (by rfl) (by exact (Or.inl rfl)) (dX8 c_Desk_init (zM rfl) hr (by decide) rfl G.c_Desk (aA (bE bW (mv 0) aJ (λ_ _=>rfl)) (aA (bE bW (mv 0) aJ (λ_ _=>rfl)) (aA (mv 1) aD)))) (by rfl) (by walk_at "o")))) (λpins ea=>(@aI _ _ _ (aO (bJ (@aW _ _ _ _ _ _ (aA (bJ3 (K:=K) rfl (mv 3) rfl) aD)))))) (λpins ea=>(@aI _ _ _ (aO (bJ (@aW _ _ _ _ _ _ (aA (bD (bZG (K:=K) rfl) rfl G.b_isinstance lU (aA (mv 3) (aA (dXR rfl G.b_ValueError sL) aD))) aD)))))) (λpins ea=>(@aI _ _ _ (aO (bJ (@aW _ _ _ _ _ _ (aA (bD (bZG (K:=K) rfl) rfl G.b_isinstance lU (aA (mv 3) (aA (cQ2 rfl G.c_TowerError) aD))) aD))))))) (@aH _ _ _ _ _ (@bI _ _ 4 _ _ _ _ sc_l_made.nd (by rfl) (by exact (Or.inl rfl)) (@bJ _ _ _ _ (aA (oH c_Desk_say G.cl_Desk hr (by decide) (mv 2) (@aW _ _ _ _ _ _ aD)) (aA (oH c_Desk_say G.cl_Desk hr (by decide) (mv 2) (@aW _ _ _ _ _ _ aD)) (aA (oH c_Desk_say G.cl_Desk hr (by decide) (mv 2) (@aW _ _ _ _ _ _ aD)) (aA (oH c_Desk_say G.cl_Desk hr (by decide) (mv 2) (@aW _ _ _ _ _ _ aD)) aD))))) (by rfl) (by walk_at "o")) (@aH _ _ _ _ _ (bR (bB (dJ1 hr.units) (mv 4) (@bJ _ _ _ _ (aA (bJ (aA (bX Bb Ci Cj kH bP (aA (bF aQ7 (bJ (@aW _ _ _ _ _ _ aD)) (mv 1)) aD)) aD)) (aA (bJ (aA (bE bW (mv 0) aJ (λ_ _=>rfl)) aD)) (aA (bJ aD) (aA (bF aQ7 (bJ (@aW _ _ _ _ _ _ aD)) (mv 1)) aD))))) (aR _)) (@aI _ _ _ (aO (bJ (@aW _ _ _ _ _ _ (aA fE aD))))) aU) (@aI _ _ _ (aO (bJ (@aW _ _ _ _ _ _ (aA (mv 2) aD)))))))),?_⟩
 walk_at "gs"
 with_reducible refine vT (λσ' H'=>∃ (x t dd:Addr) (n:Nat) (xs:List (Nat×Int)) (v3 v4:Option V),σ'=[some (.ref rt),some (.int m),some (.ref x),v3,v4]/\m=(n:Int)/\1<=n/\n<=6/\Same H H'/\H t=none/\H dd=none/\DkOk aDesk aTower H' x t dd n xs (bkZ z)/\bU z=true/\fF (bkZ z)/\LockIs zl xs) (λσ2 H2 j1=>?_) (λN hN=>?_)
 case refine_2=>
   walk_at "gs";refine bY hrt (v:=.str z) (aS (j:=0) rfl) ?_;walk_at "gs";refine bY hrt (v:=.str zl) (aS (j:=1) rfl) ?_;walk_at "gs";intro x dx hx hdx hne;have hkk:=(aF hdx (.own x)).trans (aF (show (upd H dx (.own x)) x=none by rw [aK (Ne.symm hne)]; exact hx) (.ins aDesk dx []))
   have hs:∀ {H':Hp},SameE [x] (upd (upd H dx (.own x)) x (.ins aDesk dx [])) H'->Same H H':=λsE b o e=>sE b o (λy=>by rw [Am.mp y,hx] at e; cases e) (hkk _ _ e)
   refine ⟨x,dx,z,zl,m,rfl,aG,hz,hzl,λh2 H2 sE=>?_,λh2 i hbad dy H2 sE hy=>?_,λh2 hok hno H2 sE=>?_,λh2 hok xs hlk hm H2 sE=>?_,λh2 hok xs hlk n en n1 n6 t dd H2 ht hdd sE hdk=>⟨rfl,?_⟩⟩
   · have s2:=hs sE
     refine .inr (.inl ⟨G.m_NoText_NoBook,G.m_NoText_NoText,λea hea=>?_⟩);have k3:=aF hea (fZ ea (.ref Zv) none)
     have h3:(upd H2 ea (fZ ea (.ref Zv) none)) ea=some (fZ ea (.ref Zv) none):=aG
     generalize upd H2 ea (fZ ea (.ref Zv) none)=H3 at k3 h3 ⊢;walk_at "gs";refine aQQ h3 ⟨G.e_1,G.e_2,G.e_3,G.e_4,G.e_5,G.e_6,G.e_7,G.e_8⟩ rfl G.t_1 ?_;walk_at "gs";refine ⟨by show 2<=sizeLine; decide,λr hr=>?_⟩
     have s03:=s2.trans k3
     exact mq.two h2 r _ (none_of s03 hr) (s03.trans (aF hr _)) aG
   · have s2:=hs sE
     refine .inl ⟨G.m_NoBook_NoBook,λea hea=>?_⟩;have k3:=aF hea (fZ ea (.ref Zu) (some dy))
     have h3:(upd H2 ea (fZ ea (.ref Zu) (some dy))) ea=some (fZ ea (.ref Zu) (some dy)):=aG
     have d3:=k3 _ _ hy
     generalize upd H2 ea (fZ ea (.ref Zu) (some dy))=H3 at k3 h3 d3 ⊢;walk_at "gs";refine ⟨ea,Zu,dy,_,_,rfl,.inl h3,d3,G.xx_NoBook,G.xn_NoBook_at,rfl,?_⟩;walk_at "gs";refine ⟨by show 2<=sizeLine; decide,λr hr=>?_⟩
     have s03:=s2.trans k3
     exact mq.bad h2 i hbad r _ (none_of s03 hr) (s03.trans (aF hr _)) aG
   · have s2:=hs sE
     refine .inr (.inl ⟨G.m_NoText_NoBook,G.m_NoText_NoText,λea hea=>?_⟩);have k3:=aF hea (fZ ea (.ref Zv) none)
     have h3:(upd H2 ea (fZ ea (.ref Zv) none)) ea=some (fZ ea (.ref Zv) none):=aG
     generalize upd H2 ea (fZ ea (.ref Zv) none)=H3 at k3 h3 ⊢;walk_at "gs";refine aQQ h3 ⟨G.e_1,G.e_2,G.e_3,G.e_4,G.e_5,G.e_6,G.e_7,G.e_8⟩ rfl G.t_1 ?_;walk_at "gs";refine ⟨by show 2<=sizeLine; decide,λr hr=>?_⟩
     have s03:=s2.trans k3
     exact mq.nol h2 hok hno r _ (none_of s03 hr) (s03.trans (aF hr _)) aG
   · have s2:=hs sE
     refine .inr (.inr ⟨G.m_NoHalyard_NoBook,G.m_NoHalyard_NoText,G.m_NoHalyard_NoHalyard,λea hea=>?_⟩);have k3:=aF hea (fZ ea (.ref Zy) none)
     have h3:(upd H2 ea (fZ ea (.ref Zy) none)) ea=some (fZ ea (.ref Zy) none):=aG
     generalize upd H2 ea (fZ ea (.ref Zy) none)=H3 at k3 h3 ⊢;walk_at "gs";refine aQQ h3 ⟨G.h_1,G.h_2,G.h_3,G.h_4,G.e_5,G.e_6,G.h_7,G.h_8⟩ rfl G.t_2 ?_;walk_at "gs";refine ⟨by show 2<=sizeLine; decide,λr hr=>?_⟩
     have s03:=s2.trans k3
     exact mq.hal h2 hok xs hlk hm r _ (none_of s03 hr) (s03.trans (aF hr _)) aG
   · walk_at "gs";exact hN _ _ ⟨x,t,dd,n,xs,_,_,rfl,en,n1,n6,hs sE,none_of hkk ht,none_of hkk hdd,hdk,h2,hok,hlk⟩
 obtain ⟨x,t,dd,n,xs,v3,v4,rfl,rfl,n1,n6,s2,ht,hdd,hdk,h2,hok,hlk⟩:=j1;obtain ⟨elt,q⟩:=mq.yes h2 hok xs hlk n rfl n1 n6;obtain ⟨dx,b,_,_,_,_,_,_,hx,_⟩:=id hdk
 with_reducible refine eW ?_
 walk_at "gs";refine ⟨x,dx,_,rfl,hx,gP,?_⟩;walk_at "gs";refine ⟨x,_,rfl,.inl ⟨t,dd,n,xs,bkZ z,_,hdk,.inl ⟨rfl,rfl⟩,λr1 H3 hr1 s3 e3=>?_⟩⟩;walk_at "gs";refine ⟨x,dx,_,rfl,s3 _ _ hx,gP,?_⟩;walk_at "gs";refine ⟨x,_,rfl,.inl ⟨t,dd,n,xs,bkZ z,_,hdk.keep s3,.inr (.inl ⟨rfl,rfl⟩),λr2 H4 hr2 s4 e4=>?_⟩⟩;have s24:=s3.trans s4
 walk_at "gs";refine ⟨x,dx,_,rfl,s24 _ _ hx,gP,?_⟩;walk_at "gs";refine ⟨x,_,rfl,.inr (.inl ⟨rfl,t,dd,0,(hdk.keep s24).log,λr3 H5 hr3 s5 e5=>?_⟩)⟩;have s25:=s24.trans s5
 walk_at "gs";refine ⟨x,dx,_,rfl,s25 _ _ hx,gP,?_⟩;walk_at "gs";refine ⟨x,_,rfl,.inl ⟨t,dd,n,xs,bkZ z,_,hdk.keep s25,.inr (.inr ⟨rfl,rfl⟩),λr4 H6 hr4 s6 e6=>?_⟩⟩;have s26:=s25.trans s6
 have e36:=(s4.trans (s5.trans s6)) _ _ e3
 have e46:=(s5.trans s6) _ _ e4
 have e56:=s6 _ _ e5
 rw [elt] at e46;walk_at "gs";refine ⟨by show 4<=sizeLine; decide,λpa hpa=>?_⟩
 have k7:=aF hpa (.lst [V.ref r1,V.ref r2,V.ref r3,V.ref r4])
 have e7:(upd H6 pa (.lst [V.ref r1,V.ref r2,V.ref r3,V.ref r4])) pa=some (.lst [V.ref r1,V.ref r2,V.ref r3,V.ref r4]):=aG
 generalize upd H6 pa (.lst [V.ref r1,V.ref r2,V.ref r3,V.ref r4])=H7 at k7 e7 ⊢;walk_at "gs"
 with_reducible refine eW ?_
 walk_at "gs";refine ⟨by show 1<=sizeLine; decide,λp8 hp8=>?_⟩
 have k8:=aF hp8 (.lst [V.str (Str.ofString "-")])
 have e8:(upd H7 p8 (.lst [V.str (Str.ofString "-")])) p8=some (.lst [V.str (Str.ofString "-")]):=aG
 generalize upd H7 p8 (.lst [V.str (Str.ofString "-")])=H8 at k8 e8 ⊢;walk_at "gs";refine ⟨p8,_,[V.str (Str.ofString "-")],rfl,rfl,e8,by omega,by omega,by show 1 * ((n:Int)).toNat<=sizeLine; exact bQ (by omega),λp9 hp9=>?_⟩
 rw [xV];have k9:=k8.trans (aF hp9 (.lst ((List.replicate n (Str.ofString "-")).map V.str)))
 have e9:rdL (upd H8 p9 (.lst ((List.replicate n (Str.ofString "-")).map V.str))) p9=some ((List.replicate n (Str.ofString "-")).map V.str):=bH
 generalize upd H8 p9 (.lst ((List.replicate n (Str.ofString "-")).map V.str))=H9 at k9 e9 ⊢;walk_at "gs";refine mG (ss:=List.replicate n (Str.ofString "-")) e9 (bJN n6) ?_;rw [cQ5];walk_at "gs";refine ⟨by show 1<=sizeLine; decide,λq1 hq1=>?_⟩
 have k10:=k9.trans (aF hq1 (.lst [V.str (rN n)]))
 have f1:rdL (upd H9 q1 (.lst [V.str (rN n)])) q1=some (([rN n]:List Str).map V.str):=bH
 generalize upd H9 q1 (.lst [V.str (rN n)])=H10 at k10 f1 ⊢;have s210:=s2.trans (s26.trans (k7.trans k10))
 walk_at "gs";refine bY (aV s210 hrt) (v:=.str zl) (aS (j:=1) rfl) ?_;walk_at "gs";refine ⟨by show 1<=sizeLine; decide,λq2 hq2=>?_⟩
 have t11:=aF hq2 (.lst [V.str zl])
 have f2:rdL (upd H10 q2 (.lst [V.str zl])) q2=some (([zl]:List Str).map V.str):=bH
 generalize upd H10 q2 (.lst [V.str zl])=H11 at t11 f2 ⊢;walk_at "gs";refine ⟨by decide,λq3 hq3=>?_⟩
 have t12:=aF hq3 (.lst [])
 have f3:rdL (upd H11 q3 (.lst [])) q3=some (([]:List Str).map V.str):=bH
 generalize upd H11 q3 (.lst [])=H12 at t12 f3 ⊢;walk_at "gs";refine ⟨by show 1<=sizeLine; decide,λp13 hp13=>?_⟩
 have t13:=aF hp13 (.lst [V.str (Str.ofString "-")])
 have e13:(upd H12 p13 (.lst [V.str (Str.ofString "-")])) p13=some (.lst [V.str (Str.ofString "-")]):=aG
 generalize upd H12 p13 (.lst [V.str (Str.ofString "-")])=H13 at t13 e13 ⊢;walk_at "gs";refine ⟨p13,_,[V.str (Str.ofString "-")],rfl,rfl,e13,by omega,by omega,by show 1 * ((n:Int)).toNat<=sizeLine; exact bQ (by omega),λq4 hq4=>?_⟩
 rw [xV];have t14:=aF hq4 (.lst ((List.replicate n (Str.ofString "-")).map V.str))
 have f4:rdL (upd H13 q4 (.lst ((List.replicate n (Str.ofString "-")).map V.str))) q4=some ((List.replicate n (Str.ofString "-")).map V.str):=bH
 generalize upd H13 q4 (.lst ((List.replicate n (Str.ofString "-")).map V.str))=H14 at t14 f4 ⊢;walk_at "gs";refine ⟨by show 4<=sizeLine; decide,λqa hqa=>?_⟩
 have t15:=aF hqa (.lst [V.ref q1,V.ref q2,V.ref q3,V.ref q4])
 have fa:rdL (upd H14 qa (.lst [V.ref q1,V.ref q2,V.ref q3,V.ref q4])) qa=some [V.ref q1,V.ref q2,V.ref q3,V.ref q4]:=bH
 generalize upd H14 qa (.lst [V.ref q1,V.ref q2,V.ref q3,V.ref q4])=H15 at t15 fa ⊢;have u1215:=t13.trans (t14.trans t15)
 have u1115:=t12.trans u1215
 have u1015:=t11.trans u1115
 have u715:=k10.trans u1015
 have u615:=k7.trans u715
 refine eQX 1 (.lst (aQ (u715 _ _ e7)) fa rfl λj x' y' hx' hy'=>?_) ?_
 · match j,hx',hy' with
   | 0,hx',hy'=>cases hx'; cases hy'; exact mX (aQ (u615 _ _ e36)) (aV u1015 f1)
   | 1,hx',hy'=>cases hx'; cases hy'; exact mX (aQ (u615 _ _ e46)) (aV u1115 f2)
   | 2,hx',hy'=>cases hx'; cases hy'; exact mX (aQ (u615 _ _ e56)) (aV u1215 f3)
   | 3,hx',hy'=>cases hx'; cases hy'; exact mX (aQ (u615 _ _ e6)) (aV t15 f4)
 walk_at "gs";refine ⟨by show 2<=sizeLine; decide,λr hr=>?_⟩
 have s215:=s26.trans u615
 have s015:=s2.trans s215
 have kr:=aF hr (.lst [V.str (Str.ofString "made"),V.ref x])
 have hdk15:=hdk.keep s215
 have tH:∃ o,H15 t=some o:=by
   obtain ⟨_,_,_,_,_,_,_,_,_,h,_⟩:=id hdk15;exact ⟨_,h⟩
 have dH:∃ o,H15 dd=some o:=by
   obtain ⟨_,_,_,_,_,_,_,_,_,_,_,_,_,_,_,_,_,h⟩:=id hdk15;exact ⟨_,h⟩
 exact q r x t dd _ (none_of s015 hr) ht hdd (s015.trans kr) (λe=>by obtain ⟨o,ho⟩:=tH; rw [e,ho] at hr; cases hr) (λe=>by obtain ⟨o,ho⟩:=dH; rw [e,ho] at hr; cases hr) (hdk15.keep kr) aG
inductive Due (z zl:Str) (m:Int):List V->Prop
 | two (h:bU z=false):Due z zl m [.str (Str.ofString "text"),.bl true]
 | bad (i:Nat) (h:bU z=true) (b:kE (bkZ z) i):Due z zl m [.str (Str.ofString "book"),.int (i:Int)]
 | nol (h:bU z=true) (o:fF (bkZ z)) (n:kB zl):Due z zl m [.str (Str.ofString "text"),.bl true]
 | hal (h:bU z=true) (o:fF (bkZ z)) (xs:List (Nat×Int)) (l:LockIs zl xs) (n:¬ (1<=m/\m<=6)):Due z zl m [.str (Str.ofString "halyard"),.bl true]
theorem lD {bk:List (Str×Str)} {i:Nat} (h:kE bk i) (g:fF bk):False:=by
 have:=g i h.1
 rw [h.2.1] at this;cases this
theorem bXM {C Ct:Addr} {H:Hp} {z zl:Str} {m:Int} {Q:VK} {du:List V} (d:Due z zl m du) (q:∀ (r:Addr) (H':Hp),H r=none->Same H H'->H' r=some (.lst du)->Q (.ref r) H'):MadeQ C Ct H z zl m Q:=by
 cases d with
 | two h=>exact ⟨λ_=>q,λh2=>absurd (h.symm.trans h2) (by decide),λh2=>absurd (h.symm.trans h2) (by decide),λh2=>absurd (h.symm.trans h2) (by decide),λh2=>absurd (h.symm.trans h2) (by decide)⟩
 | bad i h b=>exact ⟨λh2=>absurd (h.symm.trans h2) (by decide),λ_ j bj=>by rw [cZ5 bj b]; exact q,λ_ o=>(lD b o).elim,λ_ o=>(lD b o).elim,λ_ o=>(lD b o).elim⟩
 | nol h o n=>exact ⟨λh2=>absurd (h.symm.trans h2) (by decide),λ_ j bj=>(lD bj o).elim,λ_ _ _=>q,λ_ _ xs l=>(l.not n).elim,λ_ _ xs l=>(l.not n).elim⟩
 | hal h o xs l n=>exact ⟨λh2=>absurd (h.symm.trans h2) (by decide),λ_ j bj=>(lD bj o).elim,λ_ _ n'=>(l.not n').elim,λ_ _ _ _ _=>q,λ_ _ ys _ k ek k1 k6=>absurd ⟨by omega,by omega⟩ n⟩
theorem bQA {xs:List V} (h:xs.all bO=true):hJ xs xs=true:=by
 rw [iT rfl];refine As.mpr λj hj=>?_;have hl:=Bg.mp hj
 rw [Ak,Aa hl];exact rJ (As.mp h _ (Dd hl))
theorem sY {L:List Str} (h:∀ z∈L,z.length<=17) (h10:L.length<=10):(L.map (·.length)).sum+L.length * (Str.ofString "\n").length<=16777216:=by
 have h1:(L.map (·.length)).sum<=17 * (L.map (·.length)).length:=aXF λx hx=>by
   obtain ⟨z,hz,rfl⟩:=Bw.mp hx;exact h z hz
 rw [Ab] at h1;rw [show (Str.ofString "\n").length=1 from rfl];omega
theorem oR {a b n:Nat} (ha:a<6) (hb:b<9) (h9:n<=9):(∀ z∈aX a b n,z.length<=17)/\(aX a b n).length<=10:=⟨λz hz=>by obtain ⟨k,hk,rfl⟩:=gM hz; exact (eY ha hb (by omega)).2.2.2.1,by unfold aX; rw [Ab,Bj]; omega⟩
theorem oU {a b n t j:Nat} (ha:a<6) (hb:b<9) (h9:n<=9) (hj:j<5):(∀ z∈cV a b n t j,z.length<=17)/\(cV a b n t j).length<=10:=by
 refine ⟨λz hz=>?_,?_⟩
 · rcases lI hz with ⟨k,hk,rfl⟩ | rfl
   · exact (eY ha hb (by omega)).2.2.2.1
   · exact ((uU ha hb).2.1 j hj).2
 · unfold cV aX;rw [Aj,Aj,Ba,Ec,Ab,Bj];show min (t+1) n+1+(n - (t+1))<=10
   omega
theorem xI {L:List Str} {j:Nat} (h:j<L.length):∃ z,z∈L/\atI (L.map V.str) ((j:Nat):Int)=some (.str z):=⟨L[j],Dd h,aS (by rw [Af,Aa h]; rfl)⟩
theorem dZ1 {z zl:Str} {m:Int} {du:List V} (d:Due z zl m du):(!hJ du [.str (Str.ofString "made")])=true/\hJ du du=true/\du.all bO=true:=by
 cases d with
 | two h=>exact ⟨rfl,by decide +kernel,rfl⟩
 | bad i h b=>exact ⟨rfl,bQA rfl,rfl⟩
 | nol h o n=>exact ⟨rfl,by decide +kernel,rfl⟩
 | hal h o xs l n=>exact ⟨rfl,by decide +kernel,rfl⟩
theorem LogAt.keep {C Ct:Addr} {H H':Hp} {x t dd:Addr} {n:Nat} (h:LogAt C Ct H x t dd n) (s:Same H H'):LogAt C Ct H' x t dd n:=by
 obtain ⟨dx,b,h1,h2⟩:=h;exact ⟨dx,b,s _ _ h1,h2.keep s⟩
def M1 (m:Int) (du:List V):Prop:=(du=[.str (Str.ofString "made")]/\∃ n:Nat,m=(n:Int)/\1<=n/\n<=6)\/(du=[.str (Str.ofString "halyard"),.bl true]/\¬ (1<=m/\m<=6))
def M2 (zl:Str) (m:Int) (du:List V):Prop:=(zl∈someL/\M1 m du)\/(zl∈oddL/\du=[.str (Str.ofString "text"),.bl true])
def M3 (z zl:Str) (m:Int) (du:List V):Prop:=Due z zl m du\/(du=[.str (Str.ofString "made")]/\bU z=true/\fF (bkZ z)/\zl∈someL/\∃ n:Nat,m=(n:Int)/\1<=n/\n<=6)
theorem eQK {a b n:Nat} {zl:Str} {m:Int} {du:List V} (ha:a<6) (hb:b<9) (n2:2<=n) (n9:n<=9) (h:M2 zl m du):M3 (cC (aX a b n)) zl m du/\zl.length<=900:=by
 obtain ⟨g1,g2,_⟩:=tT ha hb (show 1<=n by omega) n9
 rcases h with ⟨hz,⟨rfl,hn⟩ | ⟨rfl,hn⟩⟩ | ⟨hz,rfl⟩
 · obtain ⟨xs,_,_,_,hl⟩:=pQ hz;exact ⟨.inr ⟨rfl,g1,g2,hz,hn⟩,hl⟩
 · obtain ⟨xs,hlk,_,_,hl⟩:=pQ hz;exact ⟨.inl (.hal g1 g2 xs hlk hn),hl⟩
 · exact ⟨.inl (.nol g1 g2 (aQF hz).1),(aQF hz).2⟩
theorem dXS {zl:Str} {m:Int} {du:List V} (h:M2 zl m du):zl.length<=900:=by
 rcases h with ⟨hz,_⟩ | ⟨hz,_⟩
 · obtain ⟨xs,_,_,_,hl⟩:=pQ hz;exact hl
 · exact (aQF hz).2
theorem sc_law:FnScope ["_law_script", "_law_cell_here", "_law_rows", "_law_some", "_law_odd", "_law_texts", "_law_many", "_law_due", "_law_spoilt", "_law_kind", "_law_at", "_law_found", "_law_other"] ["_law_script"] (aE nM):=by walk_at "sc"
theorem dQX {aTower Zz Zw aDesk Zx Zu Zv Zy Zt Zs:Addr} {Pt:Addr} {f:Addr} {fd:FuncData} (F:Fun K "law" "law" nM f fd) (G:Gs K mg w aTower Zz Zw aDesk Zx Zu Zv Zy Zt Zs) (c_l_cell:Cal P w K mg base 1 "_law_cell" ["_law_script", "_law_k"] (tO K)) (c_l_book:Cal P w K mg base 1 "_law_book" ["_law_cell_here"] tW) (c_l_made:Cal P w K mg base 11 "_law_made" ["_law_texts", "_law_many"] (tR aDesk aTower)) (c_l_spoilt_book:Cal P w K mg base 1 "_law_spoilt_book" ["_law_rows", "_law_cell_here"] iS) (c_Desk_say:lJ CX0 P w K mg base 9 aDesk "say" ["self", "row"] (hZ aDesk aTower)):FnOk P w K mg base CX0 12 f fd ["_law_script"] (vS K Pt):=by
 refine F.ok sc_law (λvs H Q E h=>?_) (λcdv A outer s H vs Q E hr h=>?_)
 · obtain ⟨a,ns,rfl,_⟩:=h; rfl
 obtain ⟨sa,ns,rfl,hS,h63,hP,q⟩:=h;refine ⟨_,(@aH _ _ _ _ _ (@bI _ _ 1 _ _ _ _ sc_law.nd (by rfl) (by exact (Or.inl rfl)) (bA c_l_cell hr (by decide) rfl (aA (mv 0) (aA aJ aD))) (by rfl) (by walk_at "o")) (@aH _ _ _ _ _ (@bI _ _ 2 _ _ _ _ sc_law.nd (by rfl) (by exact (Or.inl rfl)) (bA c_l_book hr (by decide) rfl (aA (bA c_l_cell hr (by decide) rfl (aA (mv 0) (aA aJ aD))) aD)) (by rfl) (by walk_at "o")) (@aH _ _ _ _ _ (@bI _ _ 3 _ _ _ _ sc_law.nd (by rfl) (by exact (Or.inl rfl)) (@bJ _ _ _ _ (@aW _ _ _ _ _ _ (@aW _ _ _ _ _ _ (@aW _ _ _ _ _ _ (@aW _ _ _ _ _ _ aD))))) (by rfl) (by walk_at "o")) (@aH _ _ _ _ _ (@bI _ _ 4 _ _ _ _ sc_law.nd (by rfl) (by exact (Or.inl rfl)) (@bJ _ _ _ _ (@aW _ _ _ _ _ _ (@aW _ _ _ _ _ _ (@aW _ _ _ _ _ _ (@aW _ _ _ _ _ _ (@aW _ _ _ _ _ _ (@aW _ _ _ _ _ _ (@aW _ _ _ _ _ _ (@aW _ _ _ _ _ _ (@aW _ _ _ _ _ _ (@aW _ _ _ _ _ _ (@aW _ _ _ _ _ _ (@aW _ _ _ _ _ _ (@aW _ _ _ _ _ _ aD)))))))))))))) (by rfl) (by walk_at "o")) (@aH _ _ _ _ _ (@bI _ _ 5 _ _ _ _ sc_law.nd (by rfl) (by exact (Or.inl rfl)) (bJ (aA (bX Bb Ci Cj kH bP (aA (mv 2) aD)) (aA (bE bW (mv 3) (bF gS (bF iF (mv 1) aJ) aJ) (λ_ _=>rfl)) aD))) (by rfl) (by walk_at "o")) (@aH _ _ _ _ _ (@bI _ _ 6 _ _ _ _ sc_law.nd (by rfl) (by exact (Or.inl rfl)) (bF dW aJ (bF gS (bF iF (mv 1) aJ) aJ)) (by rfl) (by walk_at "o")) (@aH _ _ _ _ _ (@bI _ _ 7 _ _ _ _ sc_law.nd (by rfl) (by exact (Or.inl rfl)) (bJ (@aW _ _ _ _ _ _ aD)) (by rfl) (by walk_at "o")) (@aH _ _ _ _ _ (bR (bB gG (bF gS (bF iF (mv 1) aJ) aJ) aJ (aR _)) (@aH _ _ _ _ _ (@bI _ _ 6 _ _ _ _ sc_law.nd (by rfl) (by exact (Or.inl rfl)) (@bE _ _ _ _ _ _ _ bW (@bJ _ _ _ _ (aA (dJV eQW aJ) (aA aJ (aA aJ (aA (bF dXF aJ aJ) aD))))) (bF gS (bF iF (mv 1) aJ) aJ) (λ_ _=>rfl)) (by rfl) (by walk_at "o")) (@aI _ _ _ (@bI _ _ 7 _ _ _ _ sc_law.nd (by rfl) (by exact (Or.inl rfl)) (bJ (@aW _ _ _ _ _ _ (aA jW aD))) (by rfl) (by walk_at "o")))) aU) (@aH _ _ _ _ _ (bR (bB gG (bF gS (bF iF (mv 1) aJ) aJ) aJ (aR _)) (@aH _ _ _ _ _ (zX (bE bW (mv 4) (bF gS (bF iF (mv 1) aJ) aJ) (λ_ _=>rfl)) (bJ6 (mv 5) aJ yZ)) (@aI _ _ _ (@bI _ _ 7 _ _ _ _ sc_law.nd (by rfl) (by exact (Or.inl rfl)) (bJ (@aW _ _ _ _ _ _ (aA jW aD))) (by rfl) (by walk_at "o")))) aU) (@aH _ _ _ _ _ (bR (bB gG (bF gS (mv 1) aJ) aJ (aR _)) (@aH _ _ _ _ _ (zX (bA c_l_spoilt_book hr (by decide) rfl (aA (mv 2) (aA (bA c_l_cell hr (by decide) rfl (aA (mv 0) (aA aJ aD))) aD))) (dQN rfl (kX (bL (i:=8) sc_law.nd rfl (Or.inl rfl)) (kX (bL (i:=9) sc_law.nd rfl (Or.inl rfl)) (kX (bL (i:=10) sc_law.nd rfl (Or.inl rfl)) aXO))))) (@aH _ _ _ _ _ (zX (bX Bb Ci Cj kH bP (aA (mv 8) aD)) (bJ6 (mv 5) aJ yZ)) (@aI _ _ _ (@bI _ _ 7 _ _ _ _ sc_law.nd (by rfl) (by exact (Or.inl rfl)) (bJ (aA (mv 9) (aA (@bE _ _ _ _ _ _ _ bW (bJ (aA jW (aA (mv 10) aD))) (cA bXP rfl G.b_int pV (aA (cG gG (mv 9) bP (aR _)) aD)) (λ_ _=>rfl)) aD))) (by rfl) (by walk_at "o"))))) aU) (@aH _ _ _ _ _ (@bI _ _ 11 _ _ _ _ sc_law.nd (by rfl) (by exact (Or.inl rfl)) (bA c_l_made hr (by decide) rfl (aA (mv 5) (aA (mv 6) aD))) (by rfl) (by walk_at "o")) (@aH _ _ _ _ _ (bR (bB (cJ9 hr.units0) (mv 7) (bJ (@aW _ _ _ _ _ _ aD)) (aR _)) (@aI _ _ _ (aO (cG (cJS hr.units0) (mv 11) (mv 7) (aR _)))) aU) (@aH _ _ _ _ _ (bR (PW.pt (mM (bB cXT (bE bW (mv 11) aJ (λ_ _=>rfl)) bP (aR _)) (kL (bB (eQG hr.units0) (oH c_Desk_say G.cl_Desk hr (by decide) (bE bW (mv 11) aJ (λ_ _=>rfl)) (@aW _ _ _ _ _ _ aD)) (bJ aD) (aR _))))) (@aI _ _ _ (aO jW)) aU) (@aH _ _ _ _ _ (@bI _ _ 12 _ _ _ _ sc_law.nd (by rfl) (by exact (Or.inl rfl)) (bA c_l_made hr (by decide) rfl (aA (mv 5) (aA (mv 6) aD))) (by rfl) (by walk_at "o")) (@aI _ _ _ (aO (wG (cG gG (bE bW (mv 12) aJ (λ_ _=>rfl)) bP (aR _)) (vC (cG (cJS hr.units0) (oH c_Desk_say G.cl_Desk hr (by decide) (bE bW (mv 11) aJ (λ_ _=>rfl)) (@aW _ _ _ _ _ _ aD)) (bJ (@aW _ _ _ _ _ _ aD)) (aR _)))))))))))))))))))),?_⟩
 walk_at "gs"
 with_reducible refine eW ?_
 walk_at "gs";refine ⟨sa,ns,0,rfl,hS,by omega,λc=>?_⟩
 walk_at "gs"
 with_reducible refine eW ?_
 walk_at "gs";refine ⟨sa,ns,1,rfl,hS,by omega,λc1=>?_⟩
 walk_at "gs";refine ⟨c1,rfl,λa b n rl H1 ha hb n2 n9 hrl s1 e1=>?_⟩;walk_at "gs"
 with_reducible refine eW ?_
 walk_at "gs";refine ⟨by show 4<=sizeLine; decide,λps hps=>?_⟩
 have k2:=aF hps (.lst [V.str (Str.ofString ""),V.str (Str.ofString "a1"),V.str (Str.ofString "a3 b99 w2 1x1 4x12"),V.str (Str.ofString "c7 2x9")])
 have e2:(upd H1 ps (.lst [V.str (Str.ofString ""),V.str (Str.ofString "a1"),V.str (Str.ofString "a3 b99 w2 1x1 4x12"),V.str (Str.ofString "c7 2x9")])) ps=some (.lst (someL.map V.str)):=aG
 generalize upd H1 ps (.lst [V.str (Str.ofString ""),V.str (Str.ofString "a1"),V.str (Str.ofString "a3 b99 w2 1x1 4x12"),V.str (Str.ofString "c7 2x9")])=H2 at k2 e2 ⊢;walk_at "gs"
 with_reducible refine eW ?_
 walk_at "gs";refine ⟨by show 13<=sizeLine; decide,λpo hpo=>?_⟩
 have k3:=k2.trans (aF hpo (.lst (oddL.map V.str)))
 have t3:=aF hpo (.lst (oddL.map V.str))
 have e3:(upd H2 po (.lst (oddL.map V.str))) po=some (.lst (oddL.map V.str)):=aG
 change lP 4 (V.ref po) _ (upd H2 po (.lst (oddL.map V.str))) _
 generalize upd H2 po (.lst (oddL.map V.str))=H3 at k3 t3 e3 ⊢;have s03:=s1.trans k3
 have e13:=k3 _ _ e1
 have e23:=t3 _ _ e2
 have re1:=aQ e13
 walk_at "gs"
 with_reducible refine eW ?_
 walk_at "gs";refine mG (ss:=aX a b n) re1 ?_ ?_
 · exact sY (oR ha hb n9).1 (oR ha hb n9).2
 rw [show Txt.join (Str.ofString "\n") (aX a b n)=cC (aX a b n) from rfl];walk_at "gs";obtain ⟨js,ejs,hjs⟩:=gF (c:=c / 8) (n:=4) (by decide)
 rw [show c / 8 % 4=(js:Int) from ejs];obtain ⟨zl0,hzl0,gzl⟩:=xI (L:=someL) (j:=js) hjs;refine bY (aQ e23) gzl ?_;walk_at "gs";refine ⟨by show 2<=sizeLine; decide,λpt hpt=>?_⟩
 have k4:=aF hpt (.lst [V.str (cC (aX a b n)),V.str zl0])
 have e4:(upd H3 pt (.lst [V.str (cC (aX a b n)),V.str zl0])) pt=some (.lst [V.str (cC (aX a b n)),V.str zl0]):=aG
 have hpt0:=none_of s03 hpt
 generalize upd H3 pt (.lst [V.str (cC (aX a b n)),V.str zl0])=H4 at k4 e4 ⊢;have s04:=s03.trans k4
 walk_at "gs"
 with_reducible refine eW ?_
 walk_at "gs";obtain ⟨m0,em0,hm0⟩:=gF (c:=c / 32) (n:=6) (by decide)
 rw [show c / 32 % 6=(m0:Int) from em0]
 with_reducible refine eW ?_
 walk_at "gs";refine ⟨by show 1<=sizeLine; decide,λpd hpd=>?_⟩
 have k5:=aF hpd (.lst [V.str (Str.ofString "made")])
 have e5:(upd H4 pd (.lst [V.str (Str.ofString "made")])) pd=some (.lst [V.str (Str.ofString "made")]):=aG
 have e45:=k5 _ _ e4
 have hpd4:=hpd
 generalize upd H4 pd (.lst [V.str (Str.ofString "made")])=H5 at k5 e5 e45 ⊢;have s05:=s04.trans k5
 have s35:=k4.trans k5
 walk_at "gs";have npd:pd≠pt:=λe=>by rw [e,e4] at hpd4; cases hpd4
 with_reducible refine vT (λσ' H'=>∃ (m:Int) (pd':Addr) (du:List V),σ'=[some (.ref sa),some (.int c),some (.ref rl),some (.ref ps),some (.ref po),some (.ref pt),some (.int m),some (.ref pd'),none,none,none,none,none]/\Same H5 H'/\H' pd'=some (.lst du)/\pd'≠pt/\M1 m du) (λσ2 H6 j1=>?_) (λN hN=>?_)
 case refine_2=>
   walk_at "gs";by_cases h1:decide (c / 4 % 2=1)=true
   · rw [if_pos h1]
     with_reducible refine eW ?_
     walk_at "gs";refine ⟨by show 4<=sizeLine; decide,λp6 hp6=>?_⟩
     have k6:=aF hp6 (.lst [V.int (-1),V.int 0,V.int 7,V.int 100000000000000000000])
     have e6:rdL (upd H5 p6 (.lst [V.int (-1),V.int 0,V.int 7,V.int 100000000000000000000])) p6=some [V.int (-1),V.int 0,V.int 7,V.int 100000000000000000000]:=bH
     have e456:=k6 _ _ e45
     generalize upd H5 p6 (.lst [V.int (-1),V.int 0,V.int 7,V.int 100000000000000000000])=H6 at k6 e6 e456 ⊢;walk_at "gs";obtain ⟨jm,ejm,hjm⟩:=gF (c:=c / 32) (n:=4) (by decide)
     rw [show c / 32 % 4=(jm:Int) from ejm];obtain ⟨mm,gm,hmm⟩:∃ mm:Int,[V.int (-1),V.int 0,V.int 7,V.int 100000000000000000000][jm]?=some (V.int mm)/\¬ (1<=mm/\mm<=6):=by
       match jm,hjm with
       | 0,_=>exact ⟨_,rfl,by decide⟩
       | 1,_=>exact ⟨_,rfl,by decide⟩
       | 2,_=>exact ⟨_,rfl,by decide⟩
       | 3,_=>exact ⟨_,rfl,by decide⟩
     refine bY e6 (v:=.int mm) (aS gm) ?_;walk_at "gs";refine ⟨by show 2<=sizeLine; decide,λp7 hp7=>?_⟩
     walk_at "gs";exact hN _ _ ⟨mm,p7,_,rfl,k6.trans (aF hp7 _),aG,(λe=>by rw [e,e456] at hp7; cases hp7),.inr ⟨rfl,hmm⟩⟩
   · rw [if_neg h1];walk_at "gs";exact hN _ _ ⟨_,pd,_,rfl,Same.refl _,e5,npd,.inl ⟨rfl,m0+1,by omega,by omega,by omega⟩⟩
 obtain ⟨m,pd',du,rfl,s6,e6,npd',hm1⟩:=j1;have e46:=s6 _ _ e45
 have m46:=eZ e46
 have n13:rl≠pt:=λe=>by rw [e,hpt] at e13; cases e13
 have n33:po≠pt:=λe=>by rw [e,hpt] at e3; cases e3
 have e36:=s6 _ _ (s35 _ _ e3)
 have e16:=s6 _ _ (s35 _ _ e13)
 have hS6:=(s05.trans s6).seq hS
 with_reducible refine vT (λσ' H'=>∃ (pd2:Addr) (du2:List V) (zl:Str),σ'=[some (.ref sa),some (.int c),some (.ref rl),some (.ref ps),some (.ref po),some (.ref pt),some (.int m),some (.ref pd2),none,none,none,none,none]/\SameE [pt] H6 H'/\H' pt=some (.lst [V.str (cC (aX a b n)),V.str zl])/\H' pd2=some (.lst du2)/\pd2≠pt/\M2 zl m du2) (λσ2 H7 j2=>?_) (λN hN=>?_)
 case refine_2=>
   walk_at "gs";by_cases h1:decide (c / 2 % 2=1)=true
   · rw [if_pos h1]
     with_reducible refine eW ?_
     walk_at "gs";obtain ⟨jo,ejo,hjo⟩:=gF (c:=c / 8) (n:=13) (by decide)
     rw [show c / 8 % 13=(jo:Int) from ejo];obtain ⟨zo,hzo,gzo⟩:=xI (L:=oddL) (j:=jo) hjo;refine bY (aQ e36) gzo ?_;walk_at "gs";refine cJO (o:=V.str zl0) m46 (bXC (by decide) (by show (1:Int)<2; decide)) ?_
     rw [show ((1:Int)).toNat=1 from rfl,show [V.str (cC (aX a b n)),V.str zl0].set 1 (V.str zo)=[V.str (cC (aX a b n)),V.str zo] from rfl];have sE:SameE [pt] H6 (upd H6 pt (.lst [V.str (cC (aX a b n)),V.str zo])):=(SameE.of (Same.refl _)).put (Am.mpr rfl)
     have ee:(upd H6 pt (.lst [V.str (cC (aX a b n)),V.str zo])) pt=some (.lst [V.str (cC (aX a b n)),V.str zo]):=aG
     generalize upd H6 pt (.lst [V.str (cC (aX a b n)),V.str zo])=H7 at sE ee ⊢;walk_at "gs";refine ⟨by show 2<=sizeLine; decide,λp8 hp8=>?_⟩
     walk_at "gs";exact hN _ _ ⟨p8,_,zo,rfl,sE.trans (.of (aF hp8 _)),aF hp8 _ _ _ ee,aG,(λe=>by rw [e,ee] at hp8; cases hp8),.inr ⟨hzo,rfl⟩⟩
   · rw [if_neg h1];walk_at "gs";exact hN _ _ ⟨pd',du,zl0,rfl,.of (Same.refl _),e46,e6,npd',.inl ⟨hzl0,hm1⟩⟩
 obtain ⟨pd2,du2,zl,rfl,sE7,e47,e67,npd2,hm2⟩:=j2;have nin1:∀ {y:Addr},y≠pt->y ∉ [pt]:=λe z=>e (Am.mp z)
 have e17:=sE7 _ _ (nin1 n13) e16
 have s07:Same H H7:=λy o e=>sE7 y o (λz=>by rw [Am.mp z,hpt0] at e; cases e) ((s05.trans s6) y o e)
 with_reducible refine vT (λσ' H'=>∃ (pd3:Addr) (du3:List V) (z:Str) (v8 v9 v10:Option V),σ'=[some (.ref sa),some (.int c),some (.ref rl),some (.ref ps),some (.ref po),some (.ref pt),some (.int m),some (.ref pd3),v8,v9,v10,none,none]/\H' pt=some (.lst [V.str z,V.str zl])/\H' pd3=some (.lst du3)/\M3 z zl m du3/\z.length<=19000) (λσ2 H8 j3=>?_) (λN hN=>?_)
 case refine_2=>
   walk_at "gs";by_cases h1:decide (c % 2=1)=true
   · rw [if_pos h1]
     with_reducible refine eW ?_
     walk_at "gs";refine ⟨sa,ns,2,rfl,s07.seq hS,by omega,λc2=>?_⟩
     walk_at "gs";refine ⟨rl,c2,a,b,n,rfl,aQ e17,ha,hb,n2,n9,λt j r l2 H8 ht hj hr s8 er el=>?_⟩;have rr:=aQ er
     have e48:=s8 _ _ e47
     have m48:=eZ e48
     walk_at "gs"
     with_reducible refine eW ?_
     walk_at "gs";refine mG (ss:=cV a b n t j) (aQ el) (sY (oU ha hb n9 hj).1 (oU ha hb n9 hj).2) ?_;rw [show Txt.join (Str.ofString "\n") (cV a b n t j)=cC (cV a b n t j) from rfl];walk_at "gs";refine cJO (o:=V.str (cC (aX a b n))) m48 (bXC (by decide) (by show (0:Int)<2; decide)) ?_
     rw [show ((0:Int)).toNat=0 from rfl,show [V.str (cC (aX a b n)),V.str zl].set 0 (V.str (cC (cV a b n t j)))=[V.str (cC (cV a b n t j)),V.str zl] from rfl];have ee:(upd H8 pt (.lst [V.str (cC (cV a b n t j)),V.str zl])) pt=some (.lst [V.str (cC (cV a b n t j)),V.str zl]):=aG
     generalize upd H8 pt (.lst [V.str (cC (cV a b n t j)),V.str zl])=H9 at ee ⊢;walk_at "gs";refine ⟨by show 2<=sizeLine; decide,λp10 hp10=>?_⟩
     have k10:=aF hp10 (.lst [V.bl true,V.int ((t+1:Nat):Int)])
     have e10:rdL (upd H9 p10 (.lst [V.bl true,V.int ((t+1:Nat):Int)])) p10=some [V.bl true,V.int ((t+1:Nat):Int)]:=bH
     generalize upd H9 p10 (.lst [V.bl true,V.int ((t+1:Nat):Int)])=H10 at k10 e10 ⊢;walk_at "gs";have hz200:=Bv (kQ (n:=n) (t:=t) ha hb n9 hj).2 (show 200<=19000 by decide)
     cases j with
     | zero=>
       rw [show decide ((if 0=0 then Str.ofString "text" else Str.ofString "book")=Str.ofString "book")=false from by decide +kernel]
       refine bY e10 (v:=.bl true) (aS (j:=0) rfl) ?_;walk_at "gs";refine ⟨by show 2<=sizeLine; decide,λp11 hp11=>?_⟩
       walk_at "gs";exact hN _ _ ⟨p11,_,_,_,_,_,rfl,aF hp11 _ _ _ (k10 _ _ ee),aG,.inl (.two (xZ ha hb n9)),hz200⟩
     | succ j=>
       rw [show decide ((if j+1=0 then Str.ofString "text" else Str.ofString "book")=Str.ofString "book")=true from Aq (by rw [if_neg (Nat.succ_ne_zero j)])]
       refine bY e10 (v:=.int ((t+1:Nat):Int)) (aS (j:=1) rfl) ?_;walk_at "gs";refine ⟨by show 2<=sizeLine; decide,λp11 hp11=>?_⟩
       walk_at "gs";rw [if_neg (Nat.succ_ne_zero j)];obtain ⟨g1,g2⟩:=xX ha hb n9 ht (show j<4 by omega)
       exact hN _ _ ⟨p11,_,_,_,_,_,rfl,aF hp11 _ _ _ (k10 _ _ ee),aG,.inl (.bad (t+1) g1 g2),hz200⟩
   · rw [if_neg h1];walk_at "gs";exact hN _ _ ⟨pd2,du2,_,_,_,_,rfl,e47,e67,(eQK ha hb n2 n9 hm2).1,Bv (tT ha hb (by omega) n9).2.2 (by decide)⟩
 obtain ⟨pd3,du3,z,v8,v9,v10,rfl,e48,e68,hm3,hz⟩:=j3;have hzl:=dXS hm2
 with_reducible refine eW ?_
 walk_at "gs";rcases hm3 with hdue | ⟨rfl,g1,g2,hzs,n',rfl,n1',n6'⟩
 · refine ⟨pt,z,zl,m,rfl,aQ e48,hz,hzl,bXM hdue λr H9 hr s9 e9=>?_⟩;have e69:=s9 _ _ e68
   obtain ⟨d1,d2,d3⟩:=dZ1 hdue;walk_at "gs"
   with_reducible refine eW ?_
   walk_at "gs";refine ⟨by show 1<=sizeLine; decide,λp10 hp10=>?_⟩
   have k10:=aF hp10 (.lst [V.str (Str.ofString "made")])
   refine xE (neg:=true) (aQ (k10 _ _ e69)) bH d3 rfl ?_;generalize upd H9 p10 (.lst [V.str (Str.ofString "made")])=H10 at k10 ⊢;rw [if_pos rfl,d1];walk_at "gs";refine xE (neg:=false) (aQ (k10 _ _ e9)) (aQ (k10 _ _ e69)) d3 d3 ?_;rw [if_neg Al,d2];exact q _
 · obtain ⟨xs,hlk,hlo,h97,_⟩:=pQ hzs;have mq:∀ {H:Hp} {Q:VK},(∀ (r x t dd:Addr) (H':Hp),H r=none->H t=none->H dd=none->Same H H'->r≠t->r≠dd->DkOk aDesk aTower H' x t dd n' xs (bkZ z)->H' r=some (.lst [.str (Str.ofString "made"),.ref x])->Q (.ref r) H')->MadeQ aDesk aTower H z zl (n':Int) Q:=λq=>⟨λh2=>absurd (g1.symm.trans h2) (by decide),λ_ j bj=>(lD bj g2).elim,λ_ _ no=>(hlk.not no).elim,λ_ _ _ _ no=>absurd ⟨by omega,by omega⟩ no,λ_ _ ys hy k ek k1 k6=>by
     obtain rfl:=hlk.inj hy;have:k=n':=by omega
     subst this;exact ⟨hlo,q⟩⟩
   refine ⟨pt,z,zl,_,rfl,aQ e48,hz,hzl,mq λr x t dd H9 hr ht hdd s9 nrt nrd hdk e9=>?_⟩;have e69:=s9 _ _ e68
   have e49:=s9 _ _ e48
   walk_at "gs"
   with_reducible refine eW ?_
   walk_at "gs";refine ⟨by show 1<=sizeLine; decide,λp10 hp10=>?_⟩
   have k10:=aF hp10 (.lst [V.str (Str.ofString "made")])
   refine xE (neg:=true) (aQ (k10 _ _ e69)) bH rfl rfl ?_;generalize upd H9 p10 (.lst [V.str (Str.ofString "made")])=H10 at k10 ⊢;rw [if_pos rfl,show (!hJ [V.str (Str.ofString "made")] [V.str (Str.ofString "made")])=false from by decide +kernel]
   have e910:=k10 _ _ e9
   have e410:=k10 _ _ e49
   have hdk10:=hdk.keep k10
   walk_at "gs"
   with_reducible refine eW ?_
   walk_at "gs";obtain ⟨dx,bb,dt,b',s0,st,hg,kvs,hx,htt,_,_,_,_,_,_,_,hdd10⟩:=id hdk10;refine bY (aQ e910) (v:=.str (Str.ofString "made")) (aS (j:=0) rfl) ?_;walk_at "gs";rw [show (!decide ((Str.ofString "made")=(Str.ofString "made")))=false by rw [Aq rfl]; rfl]
   walk_at "gs";refine bY (aQ e910) (v:=.ref x) (aS (j:=1) rfl) ?_;refine ⟨x,dx,_,rfl,hx,gP,?_⟩;walk_at "gs";refine ⟨x,_,rfl,.inr (.inr ⟨rfl,t,dd,n',xs,bkZ z,hdk10,h97,λr2 H11 hr2 sE11 lg e11=>?_⟩)⟩;have ntt:∀ {y:Addr},y≠t->y≠dd->y ∉ [t,dd]:=λh1 h2 e=>by
     rcases Bd.mp e with e | e
     · exact h1 e
     · exact h2 (Am.mp e)
   have e911:=sE11 _ _ (ntt nrt nrd) e910
   have e411:=sE11 _ _ (ntt (λe=>by rw [e,ht] at e48; cases e48) (λe=>by rw [e,hdd] at e48; cases e48)) e410
   walk_at "gs";refine ⟨by decide,λp12 hp12=>?_⟩
   have k12:=aF hp12 (.lst [])
   refine ⟨r2,p12,_,rfl,rfl,aQ (k12 _ _ e11),bH,?_⟩;generalize upd H11 p12 (.lst [])=H12 at k12 ⊢;rw [show (!([]:List V).isEmpty)=false from rfl];walk_at "gs"
   with_reducible refine eW ?_
   walk_at "gs";refine ⟨pt,z,zl,_,rfl,aQ (k12 _ _ e411),hz,hzl,mq λr3 x3 t3 dd3 H13 hr3 _ _ s13 _ _ hdk3 e13'=>?_⟩;have s1113:=k12.trans s13
   walk_at "gs";refine bY (aQ e13') (v:=.str (Str.ofString "made")) (aS (j:=0) rfl) ?_;walk_at "gs";rw [show decide ((Str.ofString "made")=(Str.ofString "made"))=true from Aq rfl];walk_at "gs";have lg13:=lg.keep s1113
   obtain ⟨dx4,b4,hx4,_⟩:=id lg13;refine bY (aQ (s1113 _ _ e911)) (v:=.ref x) (aS (j:=1) rfl) ?_;refine ⟨x,dx4,_,rfl,hx4,gP,?_⟩;walk_at "gs";refine ⟨x,_,rfl,.inr (.inl ⟨rfl,t,dd,1,lg13,λr5 H14 hr5 s14 e14=>?_⟩)⟩;walk_at "gs";refine ⟨by show 1<=sizeLine; decide,λp15 hp15=>?_⟩
   refine xE (neg:=false) (aQ (aF hp15 _ _ _ e14)) bH rfl rfl ?_;rw [if_neg Al,show hJ ((List.replicate 1 (Str.ofString "find a")).map V.str) [V.str (Str.ofString "find a")]=true from by decide +kernel]
   exact q _
end
local macro_rules | `(tactic| walk_at "bd") => `(tactic| (intro a1 a2 a3 a4 a5 a6 us hl; iterate 7 (all_goals try (rcases us with _ | ⟨u,us⟩; (· first | rfl | (simp at hl)))); all_goals (simp at hl)))
theorem all_mk {l:PySem.W.OpenLaw} {w:World} {K:PySem.W.Frag} {h:Heap} {mg:Q3} {fa:Addr} {od_0 an_0 od_1 an_1 od_2 an_2 od_3 an_3 od_4 an_4 od_5 an_5 od_6 an_6 od_7 an_7 od_8 an_8 od_9 an_9 od_10 an_10 od_11 an_11 od_12 an_12 od_13 an_13 od_14 an_14 od_15 an_15 od_16 an_16 od_17 an_17 od_18 an_18 od_19 an_19 od_20 an_20 od_21 an_21 od_22 an_22 od_23 an_23 od_24 an_24 od_25 an_25 od_26 an_26 od_27 an_27 od_28 an_28 od_29 an_29 od_30 an_30 od_31 an_31 od_32 an_32 od_33 an_33 od_34 an_34 od_35 an_35 od_36 an_36 od_37 an_37 od_38 an_38 od_39 an_39 od_40 an_40 od_41 an_41 od_42 an_42 od_43 an_43 od_44 an_44 od_45 an_45 od_46 an_46 od_47 an_47 od_48 an_48 od_49 an_49 od_50 an_50 od_51 an_51 od_52 an_52:Option Addr} {sl_0 sl_1 sl_2 sl_3 sl_4 sl_5 sl_6 sl_7 sl_8 sl_9 sl_10 sl_11 sl_12 sl_13 sl_14 sl_15 sl_16 sl_17 sl_18 sl_19 sl_20 sl_21 sl_22 sl_23 sl_24 sl_25 sl_26 sl_27 sl_28 sl_29 sl_30 sl_31 sl_32 sl_33 sl_34 sl_35 sl_36 sl_37 sl_38 sl_39 sl_40 sl_41 sl_42 sl_43 sl_44 sl_45 sl_46 sl_47 sl_48 sl_49 sl_50 sl_51 sl_52:Array (Option Value)} {f_0 f_1 f_2 f_3 f_4 f_5 f_6 f_7 f_8 f_9 f_10 f_11 f_12 f_13 f_14 f_15 f_16 f_17 f_18 f_19 f_20 f_21 f_22 f_23 f_24 f_25 f_26 f_27 f_28 f_29 f_30 f_31 f_32 f_33 f_34 f_35 f_36 f_37 f_38 f_39 f_40 f_41 f_42 f_43 f_44 f_45 f_46 f_47 f_48 f_49 f_50 f_51 f_52:Addr} {oc_0 kV_0 dc_0 pm_0 cd_0 ct_0 oc_1 kV_1 dc_1 pm_1 cd_1 ct_1 oc_2 kV_2 dc_2 pm_2 cd_2 ct_2 oc_3 kV_3 dc_3 pm_3 cd_3 ct_3 oc_4 kV_4 dc_4 pm_4 cd_4 ct_4 oc_5 kV_5 dc_5 pm_5 cd_5 ct_5 oc_6 kV_6 dc_6 pm_6 cd_6 ct_6 oc_7 kV_7 dc_7 pm_7 cd_7 ct_7 oc_8 kV_8 dc_8 pm_8 cd_8 ct_8 oc_9 kV_9 dc_9 pm_9 cd_9 ct_9 oc_10 kV_10 dc_10 pm_10 cd_10 ct_10 oc_11 kV_11 dc_11 pm_11 cd_11 ct_11 oc_12 kV_12 dc_12 pm_12 cd_12 ct_12 oc_13 kV_13 dc_13 pm_13 cd_13 ct_13 oc_14 kV_14 dc_14 pm_14 cd_14 ct_14 oc_15 kV_15 dc_15 pm_15 cd_15 ct_15 oc_16 kV_16 dc_16 pm_16 cd_16 ct_16 oc_17 kV_17 dc_17 pm_17 cd_17 ct_17 oc_18 kV_18 dc_18 pm_18 cd_18 ct_18 oc_19 kV_19 dc_19 pm_19 cd_19 ct_19 oc_20 kV_20 dc_20 pm_20 cd_20 ct_20 oc_21 kV_21 dc_21 pm_21 cd_21 ct_21 oc_22 kV_22 dc_22 pm_22 cd_22 ct_22 oc_23 kV_23 dc_23 pm_23 cd_23 ct_23 oc_24 kV_24 dc_24 pm_24 cd_24 ct_24 oc_25 kV_25 dc_25 pm_25 cd_25 ct_25 oc_26 kV_26 dc_26 pm_26 cd_26 ct_26 oc_27 kV_27 dc_27 pm_27 cd_27 ct_27 oc_28 kV_28 dc_28 pm_28 cd_28 ct_28 oc_29 kV_29 dc_29 pm_29 cd_29 ct_29 oc_30 kV_30 dc_30 pm_30 cd_30 ct_30 oc_31 kV_31 dc_31 pm_31 cd_31 ct_31 oc_32 kV_32 dc_32 pm_32 cd_32 ct_32 oc_33 kV_33 dc_33 pm_33 cd_33 ct_33 oc_34 kV_34 dc_34 pm_34 cd_34 ct_34 oc_35 kV_35 dc_35 pm_35 cd_35 ct_35 oc_36 kV_36 dc_36 pm_36 cd_36 ct_36 oc_37 kV_37 dc_37 pm_37 cd_37 ct_37 oc_38 kV_38 dc_38 pm_38 cd_38 ct_38 oc_39 kV_39 dc_39 pm_39 cd_39 ct_39 oc_40 kV_40 dc_40 pm_40 cd_40 ct_40 oc_41 kV_41 dc_41 pm_41 cd_41 ct_41 oc_42 kV_42 dc_42 pm_42 cd_42 ct_42 oc_43 kV_43 dc_43 pm_43 cd_43 ct_43 oc_44 kV_44 dc_44 pm_44 cd_44 ct_44 oc_45 kV_45 dc_45 pm_45 cd_45 ct_45 oc_46 kV_46 dc_46 pm_46 cd_46 ct_46 oc_47 kV_47 dc_47 pm_47 cd_47 ct_47 oc_48 kV_48 dc_48 pm_48 cd_48 ct_48 oc_49 kV_49 dc_49 pm_49 cd_49 ct_49 oc_50 kV_50 dc_50 pm_50 cd_50 ct_50 oc_51 kV_51 dc_51 pm_51 cd_51 ct_51 oc_52 kV_52 dc_52 pm_52 cd_52 ct_52:Value} {t_LONGEST_TERM:Tok} {t_TERM_LETTERS:Tok} {t_MOST_PLACES:Tok} {t_LETTERS:Tok} {t_MOST_TUPLES:Tok} {t_LONGEST_WORD:Tok} {t_MOST_TERMS_MEANT:Tok} {t_MOST_OF_A_FLAG:Tok} {t_SUBSTITUTES:Tok} {t_FLAGS:Tok} {t_MOST_HALYARDS:Tok} {t_BARE:Tok} {aTower:Addr} {Zz:Addr} {Zw:Addr} {aDesk:Addr} {Zx:Addr} {Zu:Addr} {Zv:Addr} {Zy:Addr} {Zt:Addr} {Zs:Addr} {dd_WORDS_IN:Addr} {es_WORDS_IN:Array DictEntry} {ep_WORDS_IN:Nat} {dd_THINGS_IN:Addr} {es_THINGS_IN:Array DictEntry} {ep_THINGS_IN:Nat} {td_WITH_TERMS:Addr} {is_WITH_TERMS:Array Value} {in_WITH_TERMS:Nat} {c Pt:Addr} (X:K.In h) (Gn:h.Ns mainGlobals mg) (hfa:mg "law"=some (.ref fa)) (TH:bZ9 h mg "longest_on" c)
   (a_0:PySem.W.nsIn K mainGlobals "_law_cell"=some (some (.ref f_0))) (l_0:K.lookup f_0=some ⟨oc_0,od_0,.func (PySem.W.fnOf "_law_cell" "_law_cell" (aP iM) (aM iM) (aE iM) .none kV_0 dc_0 pm_0 an_0 cd_0 ct_0),sl_0⟩) (c_0:PySem.W.codeIn K cd_0 "_law_cell"=true) (k_0:PySem.W.keepIn K (.ref f_0)=true)
   (a_1:PySem.W.nsIn K mainGlobals "_law_book"=some (some (.ref f_1))) (l_1:K.lookup f_1=some ⟨oc_1,od_1,.func (PySem.W.fnOf "_law_book" "_law_book" (aP iR) (aM iR) (aE iR) .none kV_1 dc_1 pm_1 an_1 cd_1 ct_1),sl_1⟩) (c_1:PySem.W.codeIn K cd_1 "_law_book"=true) (k_1:PySem.W.keepIn K (.ref f_1)=true)
   (y_2:PySem.W.typeIn K (.ref f_2)=some (.type "function"))
   (a_2:PySem.W.findIn K (.ref Zu) "__init__"=some (some (.ref f_2))) (l_2:K.lookup f_2=some ⟨oc_2,od_2,.func (PySem.W.fnOf "__init__" "NoBook.__init__" (aP dR) (aM dR) (aE dR) .none kV_2 dc_2 pm_2 an_2 cd_2 ct_2),sl_2⟩) (c_2:PySem.W.codeIn K cd_2 "NoBook.__init__"=true) (k_2:PySem.W.keepIn K (.ref f_2)=true)
   (a_3:PySem.W.nsIn K mainGlobals "is_term"=some (some (.ref f_3))) (l_3:K.lookup f_3=some ⟨oc_3,od_3,.func (PySem.W.fnOf "is_term" "is_term" (aP gQ) (aM gQ) (aE gQ) .none kV_3 dc_3 pm_3 an_3 cd_3 ct_3),sl_3⟩) (c_3:PySem.W.codeIn K cd_3 "is_term"=true) (k_3:PySem.W.keepIn K (.ref f_3)=true)
   (a_4:PySem.W.nsIn K mainGlobals "is_row_of_terms"=some (some (.ref f_4))) (l_4:K.lookup f_4=some ⟨oc_4,od_4,.func (PySem.W.fnOf "is_row_of_terms" "is_row_of_terms" (aP cD) (aM cD) (aE cD) .none kV_4 dc_4 pm_4 an_4 cd_4 ct_4),sl_4⟩) (c_4:PySem.W.codeIn K cd_4 "is_row_of_terms"=true) (k_4:PySem.W.keepIn K (.ref f_4)=true)
   (a_5:PySem.W.nsIn K mainGlobals "is_word"=some (some (.ref f_5))) (l_5:K.lookup f_5=some ⟨oc_5,od_5,.func (PySem.W.fnOf "is_word" "is_word" (aP gL) (aM gL) (aE gL) .none kV_5 dc_5 pm_5 an_5 cd_5 ct_5),sl_5⟩) (c_5:PySem.W.codeIn K cd_5 "is_word"=true) (k_5:PySem.W.keepIn K (.ref f_5)=true)
   (a_6:PySem.W.nsIn K mainGlobals "may_follow"=some (some (.ref f_6))) (l_6:K.lookup f_6=some ⟨oc_6,od_6,.func (PySem.W.fnOf "may_follow" "may_follow" (aP dL) (aM dL) (aE dL) .none kV_6 dc_6 pm_6 an_6 cd_6 ct_6),sl_6⟩) (c_6:PySem.W.codeIn K cd_6 "may_follow"=true) (k_6:PySem.W.keepIn K (.ref f_6)=true)
   (a_7:PySem.W.nsIn K mainGlobals "look_at"=some (some (.ref f_7))) (l_7:K.lookup f_7=some ⟨oc_7,od_7,.func (PySem.W.fnOf "look_at" "look_at" (aP gK) (aM gK) (aE gK) .none kV_7 dc_7 pm_7 an_7 cd_7 ct_7),sl_7⟩) (c_7:PySem.W.codeIn K cd_7 "look_at"=true) (k_7:PySem.W.keepIn K (.ref f_7)=true)
   (a_8:PySem.W.nsIn K mainGlobals "read_book"=some (some (.ref f_8))) (l_8:K.lookup f_8=some ⟨oc_8,od_8,.func (PySem.W.fnOf "read_book" "read_book" (aP eT) (aM eT) (aE eT) .none kV_8 dc_8 pm_8 an_8 cd_8 ct_8),sl_8⟩) (c_8:PySem.W.codeIn K cd_8 "read_book"=true) (k_8:PySem.W.keepIn K (.ref f_8)=true)
   (a_9:PySem.W.nsIn K mainGlobals "is_number"=some (some (.ref f_9))) (l_9:K.lookup f_9=some ⟨oc_9,od_9,.func (PySem.W.fnOf "is_number" "is_number" (aP eQ) (aM eQ) (aE eQ) .none kV_9 dc_9 pm_9 an_9 cd_9 ct_9),sl_9⟩) (c_9:PySem.W.codeIn K cd_9 "is_number"=true) (k_9:PySem.W.keepIn K (.ref f_9)=true)
   (a_10:PySem.W.nsIn K mainGlobals "mark_of"=some (some (.ref f_10))) (l_10:K.lookup f_10=some ⟨oc_10,od_10,.func (PySem.W.fnOf "mark_of" "mark_of" (aP gI) (aM gI) (aE gI) .none kV_10 dc_10 pm_10 an_10 cd_10 ct_10),sl_10⟩) (c_10:PySem.W.codeIn K cd_10 "mark_of"=true) (k_10:PySem.W.keepIn K (.ref f_10)=true)
   (a_11:PySem.W.nsIn K mainGlobals "read_some"=some (some (.ref f_11))) (l_11:K.lookup f_11=some ⟨oc_11,od_11,.func (PySem.W.fnOf "read_some" "read_some" (aP eV) (aM eV) (aE eV) .none kV_11 dc_11 pm_11 an_11 cd_11 ct_11),sl_11⟩) (c_11:PySem.W.codeIn K cd_11 "read_some"=true) (k_11:PySem.W.keepIn K (.ref f_11)=true)
   (a_12:PySem.W.nsIn K mainGlobals "read_locker"=some (some (.ref f_12))) (l_12:K.lookup f_12=some ⟨oc_12,od_12,.func (PySem.W.fnOf "read_locker" "read_locker" (aP cS) (aM cS) (aE cS) .none kV_12 dc_12 pm_12 an_12 cd_12 ct_12),sl_12⟩) (c_12:PySem.W.codeIn K cd_12 "read_locker"=true) (k_12:PySem.W.keepIn K (.ref f_12)=true)
   (a_13:PySem.W.nsIn K mainGlobals "plain_locker"=some (some (.ref f_13))) (l_13:K.lookup f_13=some ⟨oc_13,od_13,.func (PySem.W.fnOf "plain_locker" "plain_locker" (aP cZ) (aM cZ) (aE cZ) .none kV_13 dc_13 pm_13 an_13 cd_13 ct_13),sl_13⟩) (c_13:PySem.W.codeIn K cd_13 "plain_locker"=true) (k_13:PySem.W.keepIn K (.ref f_13)=true)
   (y_14:PySem.W.isFn K (.ref f_14)=true)
   (a_14:PySem.W.findIn K (.ref aTower) "__init__"=some (some (.ref f_14))) (l_14:K.lookup f_14=some ⟨oc_14,od_14,.func (PySem.W.fnOf "__init__" "Tower.__init__" (aP eA) (aM eA) (aE eA) .none kV_14 dc_14 pm_14 an_14 cd_14 ct_14),sl_14⟩) (c_14:PySem.W.codeIn K cd_14 "Tower.__init__"=true) (k_14:PySem.W.keepIn K (.ref f_14)=true)
   (y_15:PySem.W.isFn K (.ref f_15)=true)
   (a_15:PySem.W.findIn K (.ref aDesk) "__init__"=some (some (.ref f_15))) (l_15:K.lookup f_15=some ⟨oc_15,od_15,.func (PySem.W.fnOf "__init__" "Desk.__init__" (aP eP) (aM eP) (aE eP) .none kV_15 dc_15 pm_15 an_15 cd_15 ct_15),sl_15⟩) (c_15:PySem.W.codeIn K cd_15 "Desk.__init__"=true) (k_15:PySem.W.keepIn K (.ref f_15)=true)
   (a_16:PySem.W.nsIn K mainGlobals "is_row"=some (some (.ref f_16))) (l_16:K.lookup f_16=some ⟨oc_16,od_16,.func (PySem.W.fnOf "is_row" "is_row" (aP iX) (aM iX) (aE iX) .none kV_16 dc_16 pm_16 an_16 cd_16 ct_16),sl_16⟩) (c_16:PySem.W.codeIn K cd_16 "is_row"=true) (k_16:PySem.W.keepIn K (.ref f_16)=true)
   (a_17:PySem.W.nsIn K mainGlobals "words_of_row"=some (some (.ref f_17))) (l_17:K.lookup f_17=some ⟨oc_17,od_17,.func (PySem.W.fnOf "words_of_row" "words_of_row" (aP dB) (aM dB) (aE dB) .none kV_17 dc_17 pm_17 an_17 cd_17 ct_17),sl_17⟩) (c_17:PySem.W.codeIn K cd_17 "words_of_row"=true) (k_17:PySem.W.keepIn K (.ref f_17)=true)
   (a_18:PySem.W.nsIn K mainGlobals "halyard_number"=some (some (.ref f_18))) (l_18:K.lookup f_18=some ⟨oc_18,od_18,.func (PySem.W.fnOf "halyard_number" "halyard_number" (aP cY) (aM cY) (aE cY) .none kV_18 dc_18 pm_18 an_18 cd_18 ct_18),sl_18⟩) (c_18:PySem.W.codeIn K cd_18 "halyard_number"=true) (k_18:PySem.W.keepIn K (.ref f_18)=true)
   (a_19:PySem.W.nsIn K mainGlobals "deed_of"=some (some (.ref f_19))) (l_19:K.lookup f_19=some ⟨oc_19,od_19,.func (PySem.W.fnOf "deed_of" "deed_of" (aP gH) (aM gH) (aE gH) .none kV_19 dc_19 pm_19 an_19 cd_19 ct_19),sl_19⟩) (c_19:PySem.W.codeIn K cd_19 "deed_of"=true) (k_19:PySem.W.keepIn K (.ref f_19)=true)
   (a_20:PySem.W.nsIn K mainGlobals "told_of_book"=some (some (.ref f_20))) (l_20:K.lookup f_20=some ⟨oc_20,od_20,.func (PySem.W.fnOf "told_of_book" "told_of_book" (aP dY) (aM dY) (aE dY) .none kV_20 dc_20 pm_20 an_20 cd_20 ct_20),sl_20⟩) (c_20:PySem.W.codeIn K cd_20 "told_of_book"=true) (k_20:PySem.W.keepIn K (.ref f_20)=true)
   (a_21:PySem.W.nsIn K mainGlobals "behind_say"=some (some (.ref f_21))) (l_21:K.lookup f_21=some ⟨oc_21,od_21,.func (PySem.W.fnOf "behind_say" "behind_say" (aP fK) (aM fK) (aE fK) .none kV_21 dc_21 pm_21 an_21 cd_21 ct_21),sl_21⟩) (c_21:PySem.W.codeIn K cd_21 "behind_say"=true) (k_21:PySem.W.keepIn K (.ref f_21)=true)
   (a_22:PySem.W.nsIn K mainGlobals "behind_haul"=some (some (.ref f_22))) (l_22:K.lookup f_22=some ⟨oc_22,od_22,.func (PySem.W.fnOf "behind_haul" "behind_haul" (aP eI) (aM eI) (aE eI) .none kV_22 dc_22 pm_22 an_22 cd_22 ct_22),sl_22⟩) (c_22:PySem.W.codeIn K cd_22 "behind_haul"=true) (k_22:PySem.W.keepIn K (.ref f_22)=true)
   (a_23:PySem.W.nsIn K mainGlobals "behind_lower"=some (some (.ref f_23))) (l_23:K.lookup f_23=some ⟨oc_23,od_23,.func (PySem.W.fnOf "behind_lower" "behind_lower" (aP dS) (aM dS) (aE dS) .none kV_23 dc_23 pm_23 an_23 cd_23 ct_23),sl_23⟩) (c_23:PySem.W.codeIn K cd_23 "behind_lower"=true) (k_23:PySem.W.keepIn K (.ref f_23)=true)
   (a_24:PySem.W.nsIn K mainGlobals "behind_lose"=some (some (.ref f_24))) (l_24:K.lookup f_24=some ⟨oc_24,od_24,.func (PySem.W.fnOf "behind_lose" "behind_lose" (aP eG) (aM eG) (aE eG) .none kV_24 dc_24 pm_24 an_24 cd_24 ct_24),sl_24⟩) (c_24:PySem.W.codeIn K cd_24 "behind_lose"=true) (k_24:PySem.W.keepIn K (.ref f_24)=true)
   (a_25:PySem.W.nsIn K mainGlobals "is_flag"=some (some (.ref f_25))) (l_25:K.lookup f_25=some ⟨oc_25,od_25,.func (PySem.W.fnOf "is_flag" "is_flag" (aP gO) (aM gO) (aE gO) .none kV_25 dc_25 pm_25 an_25 cd_25 ct_25),sl_25⟩) (c_25:PySem.W.codeIn K cd_25 "is_flag"=true) (k_25:PySem.W.keepIn K (.ref f_25)=true)
   (a_26:PySem.W.nsIn K mainGlobals "look_for_flag"=some (some (.ref f_26))) (l_26:K.lookup f_26=some ⟨oc_26,od_26,.func (PySem.W.fnOf "look_for_flag" "look_for_flag" (aP cO) (aM cO) (aE cO) .none kV_26 dc_26 pm_26 an_26 cd_26 ct_26),sl_26⟩) (c_26:PySem.W.codeIn K cd_26 "look_for_flag"=true) (k_26:PySem.W.keepIn K (.ref f_26)=true)
   (a_27:PySem.W.nsIn K mainGlobals "put_in"=some (some (.ref f_27))) (l_27:K.lookup f_27=some ⟨oc_27,od_27,.func (PySem.W.fnOf "put_in" "put_in" (aP iW) (aM iW) (aE iW) .none kV_27 dc_27 pm_27 an_27 cd_27 ct_27),sl_27⟩) (c_27:PySem.W.codeIn K cd_27 "put_in"=true) (k_27:PySem.W.keepIn K (.ref f_27)=true)
   (a_28:PySem.W.nsIn K mainGlobals "flags_on"=some (some (.ref f_28))) (l_28:K.lookup f_28=some ⟨oc_28,od_28,.func (PySem.W.fnOf "flags_on" "flags_on" (aP fO) (aM fO) (aE fO) .none kV_28 dc_28 pm_28 an_28 cd_28 ct_28),sl_28⟩) (c_28:PySem.W.codeIn K cd_28 "flags_on"=true) (k_28:PySem.W.keepIn K (.ref f_28)=true)
   (a_29:PySem.W.nsIn K mainGlobals "all_flags_on"=some (some (.ref f_29))) (l_29:K.lookup f_29=some ⟨oc_29,od_29,.func (PySem.W.fnOf "all_flags_on" "all_flags_on" (aP dD) (aM dD) (aE dD) .none kV_29 dc_29 pm_29 an_29 cd_29 ct_29),sl_29⟩) (c_29:PySem.W.codeIn K cd_29 "all_flags_on"=true) (k_29:PySem.W.keepIn K (.ref f_29)=true)
   (a_30:PySem.W.nsIn K mainGlobals "behind_find"=some (some (.ref f_30))) (l_30:K.lookup f_30=some ⟨oc_30,od_30,.func (PySem.W.fnOf "behind_find" "behind_find" (aP dQ) (aM dQ) (aE dQ) .none kV_30 dc_30 pm_30 an_30 cd_30 ct_30),sl_30⟩) (c_30:PySem.W.codeIn K cd_30 "behind_find"=true) (k_30:PySem.W.keepIn K (.ref f_30)=true)
   (a_31:PySem.W.nsIn K mainGlobals "behind_deed"=some (some (.ref f_31))) (l_31:K.lookup f_31=some ⟨oc_31,od_31,.func (PySem.W.fnOf "behind_deed" "behind_deed" (aP dP) (aM dP) (aE dP) .none kV_31 dc_31 pm_31 an_31 cd_31 ct_31),sl_31⟩) (c_31:PySem.W.codeIn K cd_31 "behind_deed"=true) (k_31:PySem.W.keepIn K (.ref f_31)=true)
   (y_32:PySem.W.isFn K (.ref f_32)=true)
   (a_32:PySem.W.findIn K (.ref aTower) "do"=some (some (.ref f_32))) (l_32:K.lookup f_32=some ⟨oc_32,od_32,.func (PySem.W.fnOf "do" "Tower.do" (aP fN) (aM fN) (aE fN) .none kV_32 dc_32 pm_32 an_32 cd_32 ct_32),sl_32⟩) (c_32:PySem.W.codeIn K cd_32 "Tower.do"=true) (k_32:PySem.W.keepIn K (.ref f_32)=true)
   (a_33:PySem.W.nsIn K mainGlobals "row_of"=some (some (.ref f_33))) (l_33:K.lookup f_33=some ⟨oc_33,od_33,.func (PySem.W.fnOf "row_of" "row_of" (aP iN) (aM iN) (aE iN) .none kV_33 dc_33 pm_33 an_33 cd_33 ct_33),sl_33⟩) (c_33:PySem.W.codeIn K cd_33 "row_of"=true) (k_33:PySem.W.keepIn K (.ref f_33)=true)
   (a_34:PySem.W.nsIn K mainGlobals "shown_halyards"=some (some (.ref f_34))) (l_34:K.lookup f_34=some ⟨oc_34,od_34,.func (PySem.W.fnOf "shown_halyards" "shown_halyards" (aP cJ) (aM cJ) (aE cJ) .none kV_34 dc_34 pm_34 an_34 cd_34 ct_34),sl_34⟩) (c_34:PySem.W.codeIn K cd_34 "shown_halyards"=true) (k_34:PySem.W.keepIn K (.ref f_34)=true)
   (a_35:PySem.W.nsIn K mainGlobals "shown_locker"=some (some (.ref f_35))) (l_35:K.lookup f_35=some ⟨oc_35,od_35,.func (PySem.W.fnOf "shown_locker" "shown_locker" (aP cL) (aM cL) (aE cL) .none kV_35 dc_35 pm_35 an_35 cd_35 ct_35),sl_35⟩) (c_35:PySem.W.codeIn K cd_35 "shown_locker"=true) (k_35:PySem.W.keepIn K (.ref f_35)=true)
   (y_36:PySem.W.isFn K (.ref f_36)=true)
   (a_36:PySem.W.findIn K (.ref aTower) "log"=some (some (.ref f_36))) (l_36:K.lookup f_36=some ⟨oc_36,od_36,.func (PySem.W.fnOf "log" "Tower.log" (aP eS) (aM eS) (aE eS) .none kV_36 dc_36 pm_36 an_36 cd_36 ct_36),sl_36⟩) (c_36:PySem.W.codeIn K cd_36 "Tower.log"=true) (k_36:PySem.W.keepIn K (.ref f_36)=true)
   (y_37:PySem.W.isFn K (.ref f_37)=true)
   (a_37:PySem.W.findIn K (.ref aTower) "halyards"=some (some (.ref f_37))) (l_37:K.lookup f_37=some ⟨oc_37,od_37,.func (PySem.W.fnOf "halyards" "Tower.halyards" (aP cK) (aM cK) (aE cK) .none kV_37 dc_37 pm_37 an_37 cd_37 ct_37),sl_37⟩) (c_37:PySem.W.codeIn K cd_37 "Tower.halyards"=true) (k_37:PySem.W.keepIn K (.ref f_37)=true)
   (y_38:PySem.W.isFn K (.ref f_38)=true)
   (a_38:PySem.W.findIn K (.ref aTower) "locker"=some (some (.ref f_38))) (l_38:K.lookup f_38=some ⟨oc_38,od_38,.func (PySem.W.fnOf "locker" "Tower.locker" (aP cX) (aM cX) (aE cX) .none kV_38 dc_38 pm_38 an_38 cd_38 ct_38),sl_38⟩) (c_38:PySem.W.codeIn K cd_38 "Tower.locker"=true) (k_38:PySem.W.keepIn K (.ref f_38)=true)
   (a_39:PySem.W.nsIn K mainGlobals "rank_of"=some (some (.ref f_39))) (l_39:K.lookup f_39=some ⟨oc_39,od_39,.func (PySem.W.fnOf "rank_of" "rank_of" (aP gN) (aM gN) (aE gN) .none kV_39 dc_39 pm_39 an_39 cd_39 ct_39),sl_39⟩) (c_39:PySem.W.codeIn K cd_39 "rank_of"=true) (k_39:PySem.W.keepIn K (.ref f_39)=true)
   (a_40:PySem.W.nsIn K mainGlobals "is_divided"=some (some (.ref f_40))) (l_40:K.lookup f_40=some ⟨oc_40,od_40,.func (PySem.W.fnOf "is_divided" "is_divided" (aP eE) (aM eE) (aE eE) .none kV_40 dc_40 pm_40 an_40 cd_40 ct_40),sl_40⟩) (c_40:PySem.W.codeIn K cd_40 "is_divided"=true) (k_40:PySem.W.keepIn K (.ref f_40)=true)
   (a_41:PySem.W.nsIn K mainGlobals "hidden_letter"=some (some (.ref f_41))) (l_41:K.lookup f_41=some ⟨oc_41,od_41,.func (PySem.W.fnOf "hidden_letter" "hidden_letter" (aP cF) (aM cF) (aE cF) .none kV_41 dc_41 pm_41 an_41 cd_41 ct_41),sl_41⟩) (c_41:PySem.W.codeIn K cd_41 "hidden_letter"=true) (k_41:PySem.W.keepIn K (.ref f_41)=true)
   (a_42:PySem.W.nsIn K mainGlobals "check_of"=some (some (.ref f_42))) (l_42:K.lookup f_42=some ⟨oc_42,od_42,.func (PySem.W.fnOf "check_of" "check_of" (aP fS) (aM fS) (aE fS) .none kV_42 dc_42 pm_42 an_42 cd_42 ct_42),sl_42⟩) (c_42:PySem.W.codeIn K cd_42 "check_of"=true) (k_42:PySem.W.keepIn K (.ref f_42)=true)
   (a_43:PySem.W.nsIn K mainGlobals "with_check"=some (some (.ref f_43))) (l_43:K.lookup f_43=some ⟨oc_43,od_43,.func (PySem.W.fnOf "with_check" "with_check" (aP eB) (aM eB) (aE eB) .none kV_43 dc_43 pm_43 an_43 cd_43 ct_43),sl_43⟩) (c_43:PySem.W.codeIn K cd_43 "with_check"=true) (k_43:PySem.W.keepIn K (.ref f_43)=true)
   (a_44:PySem.W.nsIn K mainGlobals "may_stand"=some (some (.ref f_44))) (l_44:K.lookup f_44=some ⟨oc_44,od_44,.func (PySem.W.fnOf "may_stand" "may_stand" (aP eU) (aM eU) (aE eU) .none kV_44 dc_44 pm_44 an_44 cd_44 ct_44),sl_44⟩) (c_44:PySem.W.codeIn K cd_44 "may_stand"=true) (k_44:PySem.W.keepIn K (.ref f_44)=true)
   (a_45:PySem.W.nsIn K mainGlobals "is_hoist"=some (some (.ref f_45))) (l_45:K.lookup f_45=some ⟨oc_45,od_45,.func (PySem.W.fnOf "is_hoist" "is_hoist" (aP fQ) (aM fQ) (aE fQ) .none kV_45 dc_45 pm_45 an_45 cd_45 ct_45),sl_45⟩) (c_45:PySem.W.codeIn K cd_45 "is_hoist"=true) (k_45:PySem.W.keepIn K (.ref f_45)=true)
   (a_46:PySem.W.nsIn K mainGlobals "read_of"=some (some (.ref f_46))) (l_46:K.lookup f_46=some ⟨oc_46,od_46,.func (PySem.W.fnOf "read_of" "read_of" (aP gJ) (aM gJ) (aE gJ) .none kV_46 dc_46 pm_46 an_46 cd_46 ct_46),sl_46⟩) (c_46:PySem.W.codeIn K cd_46 "read_of"=true) (k_46:PySem.W.keepIn K (.ref f_46)=true)
   (y_47:PySem.W.isFn K (.ref f_47)=true)
   (a_47:PySem.W.findIn K (.ref aTower) "read"=some (some (.ref f_47))) (l_47:K.lookup f_47=some ⟨oc_47,od_47,.func (PySem.W.fnOf "read" "Tower.read" (aP dG) (aM dG) (aE dG) .none kV_47 dc_47 pm_47 an_47 cd_47 ct_47),sl_47⟩) (c_47:PySem.W.codeIn K cd_47 "Tower.read"=true) (k_47:PySem.W.keepIn K (.ref f_47)=true)
   (a_48:PySem.W.nsIn K mainGlobals "told_of_tower"=some (some (.ref f_48))) (l_48:K.lookup f_48=some ⟨oc_48,od_48,.func (PySem.W.fnOf "told_of_tower" "told_of_tower" (aP cE) (aM cE) (aE cE) .none kV_48 dc_48 pm_48 an_48 cd_48 ct_48),sl_48⟩) (c_48:PySem.W.codeIn K cd_48 "told_of_tower"=true) (k_48:PySem.W.keepIn K (.ref f_48)=true)
   (y_49:PySem.W.isFn K (.ref f_49)=true)
   (a_49:PySem.W.findIn K (.ref aDesk) "say"=some (some (.ref f_49))) (l_49:K.lookup f_49=some ⟨oc_49,od_49,.func (PySem.W.fnOf "say" "Desk.say" (aP fM) (aM fM) (aE fM) .none kV_49 dc_49 pm_49 an_49 cd_49 ct_49),sl_49⟩) (c_49:PySem.W.codeIn K cd_49 "Desk.say"=true) (k_49:PySem.W.keepIn K (.ref f_49)=true)
   (a_50:PySem.W.nsIn K mainGlobals "_law_made"=some (some (.ref f_50))) (l_50:K.lookup f_50=some ⟨oc_50,od_50,.func (PySem.W.fnOf "_law_made" "_law_made" (aP jA) (aM jA) (aE jA) .none kV_50 dc_50 pm_50 an_50 cd_50 ct_50),sl_50⟩) (c_50:PySem.W.codeIn K cd_50 "_law_made"=true) (k_50:PySem.W.keepIn K (.ref f_50)=true)
   (a_51:PySem.W.nsIn K mainGlobals "_law_spoilt_book"=some (some (.ref f_51))) (l_51:K.lookup f_51=some ⟨oc_51,od_51,.func (PySem.W.fnOf "_law_spoilt_book" "_law_spoilt_book" (aP cP) (aM cP) (aE cP) .none kV_51 dc_51 pm_51 an_51 cd_51 ct_51),sl_51⟩) (c_51:PySem.W.codeIn K cd_51 "_law_spoilt_book"=true) (k_51:PySem.W.keepIn K (.ref f_51)=true)
   (a_52:PySem.W.nsIn K mainGlobals "law"=some (some (.ref f_52))) (l_52:K.lookup f_52=some ⟨oc_52,od_52,.func (PySem.W.fnOf "law" "law" (aP nM) (aM nM) (aE nM) .none kV_52 dc_52 pm_52 an_52 cd_52 ct_52),sl_52⟩) (c_52:PySem.W.codeIn K cd_52 "law"=true) (k_52:PySem.W.keepIn K (.ref f_52)=true)
   (z_len:PySem.W.nsIn K mainGlobals "len"=some none)
   (z_range:PySem.W.nsIn K mainGlobals "range"=some none)
   (z_all:PySem.W.nsIn K mainGlobals "all"=some none)
   (z_str:PySem.W.nsIn K mainGlobals "str"=some none)
   (z_int:PySem.W.nsIn K mainGlobals "int"=some none)
   (z_dict:PySem.W.nsIn K mainGlobals "dict"=some none)
   (z_list:PySem.W.nsIn K mainGlobals "list"=some none)
   (z_enumerate:PySem.W.nsIn K mainGlobals "enumerate"=some none)
   (z_sum:PySem.W.nsIn K mainGlobals "sum"=some none)
   (z_isinstance:PySem.W.nsIn K mainGlobals "isinstance"=some none)
   (z_ValueError:PySem.W.nsIn K mainGlobals "ValueError"=some none)
   (g_LONGEST_TERM:PySem.W.nsIn K mainGlobals "LONGEST_TERM"=some (some (.int 10 t_LONGEST_TERM)))
   (g_TERM_LETTERS:PySem.W.nsIn K mainGlobals "TERM_LETTERS"=some (some (.str "abcdefghijklmnopqrstuvwxyz" t_TERM_LETTERS)))
   (g_MOST_PLACES:PySem.W.nsIn K mainGlobals "MOST_PLACES"=some (some (.int 7 t_MOST_PLACES)))
   (g_LETTERS:PySem.W.nsIn K mainGlobals "LETTERS"=some (some (.str "abcdefghijklmnopqrstuvw" t_LETTERS)))
   (g_MOST_TUPLES:PySem.W.nsIn K mainGlobals "MOST_TUPLES"=some (some (.int 60 t_MOST_TUPLES)))
   (g_LONGEST_WORD:PySem.W.nsIn K mainGlobals "LONGEST_WORD"=some (some (.int 6 t_LONGEST_WORD)))
   (g_MOST_TERMS_MEANT:PySem.W.nsIn K mainGlobals "MOST_TERMS_MEANT"=some (some (.int 5 t_MOST_TERMS_MEANT)))
   (g_MOST_OF_A_FLAG:PySem.W.nsIn K mainGlobals "MOST_OF_A_FLAG"=some (some (.int 99 t_MOST_OF_A_FLAG)))
   (g_SUBSTITUTES:PySem.W.nsIn K mainGlobals "SUBSTITUTES"=some (some (.str "1234" t_SUBSTITUTES)))
   (g_FLAGS:PySem.W.nsIn K mainGlobals "FLAGS"=some (some (.str "abcdefghijklmnopqrstuvw1234" t_FLAGS)))
   (g_MOST_HALYARDS:PySem.W.nsIn K mainGlobals "MOST_HALYARDS"=some (some (.int 6 t_MOST_HALYARDS)))
   (g_BARE:PySem.W.nsIn K mainGlobals "BARE"=some (some (.str "-" t_BARE)))
   (q_Tower:PySem.W.nsIn K mainGlobals "Tower"=some (some (.ref aTower)))
   (q_TowerError:PySem.W.nsIn K mainGlobals "TowerError"=some (some (.ref Zz)))
   (q_NoDeed:PySem.W.nsIn K mainGlobals "NoDeed"=some (some (.ref Zw)))
   (q_Desk:PySem.W.nsIn K mainGlobals "Desk"=some (some (.ref aDesk)))
   (q_NoHoist:PySem.W.nsIn K mainGlobals "NoHoist"=some (some (.ref Zx)))
   (q_NoBook:PySem.W.nsIn K mainGlobals "NoBook"=some (some (.ref Zu)))
   (q_NoText:PySem.W.nsIn K mainGlobals "NoText"=some (some (.ref Zv)))
   (q_NoHalyard:PySem.W.nsIn K mainGlobals "NoHalyard"=some (some (.ref Zy)))
   (q_NoFlag:PySem.W.nsIn K mainGlobals "NoFlag"=some (some (.ref Zt)))
   (q_NoRow:PySem.W.nsIn K mainGlobals "NoRow"=some (some (.ref Zs)))
   (f_x_NoDeed:PySem.W.excIn K Zw [.type "ValueError",.type "Exception",.type "BaseException",.type "object"] "ValueError.__new__"=true)
   (f_x_NoHoist:PySem.W.excIn K Zx [.type "ValueError",.type "Exception",.type "BaseException",.type "object"] "ValueError.__new__"=true)
   (f_x_NoText:PySem.W.excIn K Zv [.type "ValueError",.type "Exception",.type "BaseException",.type "object"] "ValueError.__new__"=true)
   (f_x_NoHalyard:PySem.W.excIn K Zy [.type "ValueError",.type "Exception",.type "BaseException",.type "object"] "ValueError.__new__"=true)
   (f_x_NoFlag:PySem.W.excIn K Zt [.type "ValueError",.type "Exception",.type "BaseException",.type "object"] "ValueError.__new__"=true)
   (f_x_NoRow:PySem.W.excIn K Zs [.type "ValueError",.type "Exception",.type "BaseException",.type "object"] "ValueError.__new__"=true)
   (f_m_NoBook_NoBook:PySem.W.exmOne K (.ref Zu) (.ref Zu)=some true)
   (f_m_NoText_NoBook:PySem.W.exmOne K (.ref Zv) (.ref Zu)=some false)
   (f_m_NoText_NoText:PySem.W.exmOne K (.ref Zv) (.ref Zv)=some true)
   (f_m_NoHalyard_NoBook:PySem.W.exmOne K (.ref Zy) (.ref Zu)=some false)
   (f_m_NoHalyard_NoText:PySem.W.exmOne K (.ref Zy) (.ref Zv)=some false)
   (f_m_NoHalyard_NoHalyard:PySem.W.exmOne K (.ref Zy) (.ref Zy)=some true)
   (f_e_1:PySem.W.hasDictIn K Zv=true)
   (f_e_2:PySem.W.findIn K (.ref Zv) "__getattribute__"=some (some (.builtin "BaseException.__getattribute__")))
   (f_e_3:PySem.W.findIn K (.ref Zv) "__getattr__"=some none)
   (f_e_4:PySem.W.findIn K (.ref Zv) "__class__"=some (some (.builtin "object.__class__")))
   (f_e_7:PySem.W.mroIn K Zv (.type "object")=some true)
   (f_e_8:PySem.W.subIn K (.ref Zv) (.type "BaseException")=some true)
   (f_h_1:PySem.W.hasDictIn K Zy=true)
   (f_h_2:PySem.W.findIn K (.ref Zy) "__getattribute__"=some (some (.builtin "BaseException.__getattribute__")))
   (f_h_3:PySem.W.findIn K (.ref Zy) "__getattr__"=some none)
   (f_h_4:PySem.W.findIn K (.ref Zy) "__class__"=some (some (.builtin "object.__class__")))
   (f_h_7:PySem.W.mroIn K Zy (.type "object")=some true)
   (f_h_8:PySem.W.subIn K (.ref Zy) (.type "BaseException")=some true)
   (f_e_5:PySem.W.specialIn K (.builtin "object.__class__") "__get__"=some (some (.builtin "getset_descriptor.__get__")))
   (f_e_6:PySem.W.takesIn K (.builtin "object.__class__")=some true)
   (f_t_1:PySem.W.kitOne K (.ref Zv) (.type "ValueError")=some true)
   (f_t_2:PySem.W.kitOne K (.ref Zy) (.ref Zz)=some true)
   (f_t1_TowerError:PySem.W.specialIn K (.ref Zz) "__getattribute__"=some (some (.builtin "type.__getattribute__")))
   (f_t2_TowerError:PySem.W.readsIn K Zz (.type "type")=true)
   (f_t3_TowerError:PySem.W.findCls K (.ref Zz) (.type "type") "__init__"=some (.val (.builtin "ValueError.__init__")))
   (f_xo_NoBook:aXA K Zu [.type "ValueError",.type "Exception",.type "BaseException",.type "object"] "ValueError.__new__"=true)
   (f_xk_NoBook:PySem.W.keepIn K (.ref Zu)=true)
   (f_xe1_NoBook:PySem.W.hasDictIn K Zu=true)
   (f_xe2_NoBook:PySem.W.findIn K (.ref Zu) "__getattribute__"=some (some (.builtin "BaseException.__getattribute__")))
   (f_xe3_NoBook:PySem.W.findIn K (.ref Zu) "__getattr__"=some none)
   (f_xe4_NoBook:PySem.W.findIn K (.ref Zu) "__class__"=some (some (.builtin "object.__class__")))
   (f_xe5_NoBook:PySem.W.specialIn K (.builtin "object.__class__") "__get__"=some (some (.builtin "getset_descriptor.__get__")))
   (f_xe6_NoBook:PySem.W.takesIn K (.builtin "object.__class__")=some true)
   (f_xe7_NoBook:PySem.W.mroIn K Zu (.type "object")=some true)
   (f_xe8_NoBook:PySem.W.subIn K (.ref Zu) (.type "BaseException")=some true)
   (f_xs_NoBook:PySem.W.findIn K (.ref Zu) "__setattr__"=some (some (.builtin "object.__setattr__")))
   (f_xr_NoBook:dQ7 K Zu Zz=true)
   (f_xv_NoBook:PySem.W.subIn K (.ref Zu) (.type "ValueError")=some true)
   (f_xn_NoBook_at:PySem.W.findIn K (.ref Zu) "at"=some none)
   (f_cl1_Tower:PySem.W.plainGet K aTower Str.empty=true)
   (f_cl2_Tower:PySem.W.hasDictIn K aTower=true)
   (f_cl3_Tower:PySem.W.plainOver K aTower=true)
   (f_cl4_Tower:PySem.W.findIn K (.ref aTower) "__setattr__"=some (some (.builtin "object.__setattr__")))
   (f_mk1_Tower:PySem.W.makesIn K aTower=true)
   (f_mk2_Tower:PySem.W.keepIn K (.ref aTower)=true)
   (f_na_Tower_book:PySem.W.findIn K (.ref aTower) "book"=some none)
   (f_na_Tower_many:PySem.W.findIn K (.ref aTower) "many"=some none)
   (f_na_Tower_stock_at_first:PySem.W.findIn K (.ref aTower) "stock_at_first"=some none)
   (f_na_Tower_stock:PySem.W.findIn K (.ref aTower) "stock"=some none)
   (f_na_Tower_hung:PySem.W.findIn K (.ref aTower) "hung"=some none)
   (f_na_Tower_deeds:PySem.W.findIn K (.ref aTower) "deeds"=some none)
   (f_cl1_Desk:PySem.W.plainGet K aDesk Str.empty=true)
   (f_cl2_Desk:PySem.W.hasDictIn K aDesk=true)
   (f_cl3_Desk:PySem.W.plainOver K aDesk=true)
   (f_cl4_Desk:PySem.W.findIn K (.ref aDesk) "__setattr__"=some (some (.builtin "object.__setattr__")))
   (f_mk1_Desk:PySem.W.makesIn K aDesk=true)
   (f_mk2_Desk:PySem.W.keepIn K (.ref aDesk)=true)
   (f_na_Desk_book:PySem.W.findIn K (.ref aDesk) "book"=some none)
   (f_na_Desk_tower:PySem.W.findIn K (.ref aDesk) "tower"=some none)
   (qd_WORDS_IN:PySem.W.nsIn K mainGlobals "WORDS_IN"=some (some (.ref dd_WORDS_IN))) (ld_WORDS_IN:K.lookup dd_WORDS_IN=some ⟨.type "dict",none,.dict es_WORDS_IN ep_WORDS_IN,#[]⟩) (sd_WORDS_IN:(dd_WORDS_IN == sysModules)=false) (ed_WORDS_IN:pX w es_WORDS_IN.toList [("haul",3),("lower",2),("lose",2),("find",2),("sight",2),("check",2),("halyards",1),("locker",1),("read",1),("log",1)])
   (qd_THINGS_IN:PySem.W.nsIn K mainGlobals "THINGS_IN"=some (some (.ref dd_THINGS_IN))) (ld_THINGS_IN:K.lookup dd_THINGS_IN=some ⟨.type "dict",none,.dict es_THINGS_IN ep_THINGS_IN,#[]⟩) (sd_THINGS_IN:(dd_THINGS_IN == sysModules)=false) (ed_THINGS_IN:pX w es_THINGS_IN.toList [("haul",3),("lower",2),("lose",2),("find",2),("say",2)])
   (qt_WITH_TERMS:PySem.W.nsIn K mainGlobals "WITH_TERMS"=some (some (.ref td_WITH_TERMS))) (lt_WITH_TERMS:K.lookup td_WITH_TERMS=some ⟨.type "tuple",none,.seq is_WITH_TERMS in_WITH_TERMS,#[]⟩) (et_WITH_TERMS:is_WITH_TERMS.toList.map KTup.strOf=(["say", "cut"]:List Str).map some/\is_WITH_TERMS.size<=sizeLine)
   : ∃ fd:FuncData,(∀ (s:Shared) (v:Value),BindsTo s fd ⟨[v],[]⟩ [("_law_script",v)])/\∀ base:Heap,K.In base->base.Ns mainGlobals mg->LamB mg base c Pt->FnOk l.prog w K mg base CX0 12 fa fd ["_law_script"] (vS K Pt):=by
 have M:∀ {x:Str} {v:Value},PySem.W.nsIn K mainGlobals x=some (some v)->mg x=some v:=λh=>PySem.W.mg_of X Gn h
 have N:∀ {x:Str},PySem.W.nsIn K mainGlobals x=some none->mg x=none:=λh=>PySem.W.mg_none_of X Gn h
 have e:=hfa.symm.trans (M a_52)
 cases e;have G:Gs K mg w aTower Zz Zw aDesk Zx Zu Zv Zy Zt Zs:=⟨M q_Tower,M q_TowerError,M q_NoDeed,M q_Desk,M q_NoHoist,M q_NoBook,M q_NoText,M q_NoHalyard,M q_NoFlag,M q_NoRow,f_x_NoDeed,f_x_NoHoist,f_x_NoText,f_x_NoHalyard,f_x_NoFlag,f_x_NoRow,f_m_NoBook_NoBook,f_m_NoText_NoBook,f_m_NoText_NoText,f_m_NoHalyard_NoBook,f_m_NoHalyard_NoText,f_m_NoHalyard_NoHalyard,f_e_1,f_e_2,f_e_3,f_e_4,f_e_7,f_e_8,f_h_1,f_h_2,f_h_3,f_h_4,f_h_7,f_h_8,f_e_5,f_e_6,f_t_1,f_t_2,f_t1_TowerError,f_t2_TowerError,f_t3_TowerError,f_xo_NoBook,f_xk_NoBook,f_xe1_NoBook,f_xe2_NoBook,f_xe3_NoBook,f_xe4_NoBook,f_xe5_NoBook,f_xe6_NoBook,f_xe7_NoBook,f_xe8_NoBook,f_xs_NoBook,f_xr_NoBook,f_xv_NoBook,f_xn_NoBook_at,f_cl1_Tower,f_cl2_Tower,f_cl3_Tower,f_cl4_Tower,f_mk1_Tower,f_mk2_Tower,f_na_Tower_book,f_na_Tower_many,f_na_Tower_stock_at_first,f_na_Tower_stock,f_na_Tower_hung,f_na_Tower_deeds,f_cl1_Desk,f_cl2_Desk,f_cl3_Desk,f_cl4_Desk,f_mk1_Desk,f_mk2_Desk,f_na_Desk_book,f_na_Desk_tower,⟨_,_,_,M qd_WORDS_IN,ld_WORDS_IN,sd_WORDS_IN,ed_WORDS_IN,by decide +kernel⟩,⟨_,_,_,M qd_THINGS_IN,ld_THINGS_IN,sd_THINGS_IN,ed_THINGS_IN,by decide +kernel⟩,⟨_,_,_,_,M qt_WITH_TERMS,lt_WITH_TERMS,rfl,rfl,et_WITH_TERMS.2,et_WITH_TERMS.1⟩,N z_len,N z_range,N z_all,N z_str,N z_int,N z_dict,N z_list,N z_enumerate,N z_sum,N z_isinstance,N z_ValueError,⟨_,M g_LONGEST_TERM⟩,⟨_,M g_TERM_LETTERS⟩,⟨_,M g_MOST_PLACES⟩,⟨_,M g_LETTERS⟩,⟨_,M g_MOST_TUPLES⟩,⟨_,M g_LONGEST_WORD⟩,⟨_,M g_MOST_TERMS_MEANT⟩,⟨_,M g_MOST_OF_A_FLAG⟩,⟨_,M g_SUBSTITUTES⟩,⟨_,M g_FLAGS⟩,⟨_,M g_MOST_HALYARDS⟩,⟨_,M g_BARE⟩⟩
 have F_0:=aY (st:=iM) l_0 c_0 k_0
 have b_0:=F_0.binds (ps:=["_law_script", "_law_k"]) (by walk_at "bd")
 have F_1:=aY (st:=iR) l_1 c_1 k_1
 have b_1:=F_1.binds (ps:=["_law_cell_here"]) (by walk_at "bd")
 have F_2:=aY (st:=dR) l_2 c_2 k_2
 have b_2:=F_2.binds (ps:=["self", "at"]) (by walk_at "bd")
 have F_3:=aY (st:=gQ) l_3 c_3 k_3
 have b_3:=F_3.binds (ps:=["text"]) (by walk_at "bd")
 have F_4:=aY (st:=cD) l_4 c_4 k_4
 have b_4:=F_4.binds (ps:=["text", "most"]) (by walk_at "bd")
 have F_5:=aY (st:=gL) l_5 c_5 k_5
 have b_5:=F_5.binds (ps:=["text"]) (by walk_at "bd")
 have F_6:=aY (st:=dL) l_6 c_6 k_6
 have b_6:=F_6.binds (ps:=["book", "at"]) (by walk_at "bd")
 have F_7:=aY (st:=gK) l_7 c_7 k_7
 have b_7:=F_7.binds (ps:=["book"]) (by walk_at "bd")
 have F_8:=aY (st:=eT) l_8 c_8 k_8
 have b_8:=F_8.binds (ps:=["text"]) (by walk_at "bd")
 have F_9:=aY (st:=eQ) l_9 c_9 k_9
 have b_9:=F_9.binds (ps:=["text"]) (by walk_at "bd")
 have F_10:=aY (st:=gI) l_10 c_10 k_10
 have b_10:=F_10.binds (ps:=["flag"]) (by walk_at "bd")
 have F_11:=aY (st:=eV) l_11 c_11 k_11
 have b_11:=F_11.binds (ps:=["text"]) (by walk_at "bd")
 have F_12:=aY (st:=cS) l_12 c_12 k_12
 have b_12:=F_12.binds (ps:=["text"]) (by walk_at "bd")
 have F_13:=aY (st:=cZ) l_13 c_13 k_13
 have b_13:=F_13.binds (ps:=["locker"]) (by walk_at "bd")
 have F_14:=aY (st:=eA) l_14 c_14 k_14
 have b_14:=F_14.binds (ps:=["self", "book", "locker", "many"]) (by walk_at "bd")
 have F_15:=aY (st:=eP) l_15 c_15 k_15
 have b_15:=F_15.binds (ps:=["self", "book_text", "locker_text", "many"]) (by walk_at "bd")
 have F_16:=aY (st:=iX) l_16 c_16 k_16
 have b_16:=F_16.binds (ps:=["words"]) (by walk_at "bd")
 have F_17:=aY (st:=dB) l_17 c_17 k_17
 have b_17:=F_17.binds (ps:=["row"]) (by walk_at "bd")
 have F_18:=aY (st:=cY) l_18 c_18 k_18
 have b_18:=F_18.binds (ps:=["text"]) (by walk_at "bd")
 have F_19:=aY (st:=gH) l_19 c_19 k_19
 have b_19:=F_19.binds (ps:=["words"]) (by walk_at "bd")
 have F_20:=aY (st:=dY) l_20 c_20 k_20
 have b_20:=F_20.binds (ps:=["book", "words"]) (by walk_at "bd")
 have F_21:=aY (st:=fK) l_21 c_21 k_21
 have b_21:=F_21.binds (ps:=["book", "halyards", "locker", "text"]) (by walk_at "bd")
 have F_22:=aY (st:=eI) l_22 c_22 k_22
 have b_22:=F_22.binds (ps:=["halyards", "locker", "number", "word"]) (by walk_at "bd")
 have F_23:=aY (st:=dS) l_23 c_23 k_23
 have b_23:=F_23.binds (ps:=["halyards", "locker", "number"]) (by walk_at "bd")
 have F_24:=aY (st:=eG) l_24 c_24 k_24
 have b_24:=F_24.binds (ps:=["halyards", "locker", "flag"]) (by walk_at "bd")
 have F_25:=aY (st:=gO) l_25 c_25 k_25
 have b_25:=F_25.binds (ps:=["text"]) (by walk_at "bd")
 have F_26:=aY (st:=cO) l_26 c_26 k_26
 have b_26:=F_26.binds (ps:=["flag"]) (by walk_at "bd")
 have F_27:=aY (st:=iW) l_27 c_27 k_27
 have b_27:=F_27.binds (ps:=["locker", "flags"]) (by walk_at "bd")
 have F_28:=aY (st:=fO) l_28 c_28 k_28
 have b_28:=F_28.binds (ps:=["halyards", "numbers"]) (by walk_at "bd")
 have F_29:=aY (st:=dD) l_29 c_29 k_29
 have b_29:=F_29.binds (ps:=["halyards"]) (by walk_at "bd")
 have F_30:=aY (st:=dQ) l_30 c_30 k_30
 have b_30:=F_30.binds (ps:=["halyards", "locker", "flag"]) (by walk_at "bd")
 have F_31:=aY (st:=dP) l_31 c_31 k_31
 have b_31:=F_31.binds (ps:=["book", "halyards", "locker", "deed"]) (by walk_at "bd")
 have F_32:=aY (st:=fN) l_32 c_32 k_32
 have b_32:=F_32.binds (ps:=["self", "deed"]) (by walk_at "bd")
 have F_33:=aY (st:=iN) l_33 c_33 k_33
 have b_33:=F_33.binds (ps:=["deed"]) (by walk_at "bd")
 have F_34:=aY (st:=cJ) l_34 c_34 k_34
 have b_34:=F_34.binds (ps:=["halyards"]) (by walk_at "bd")
 have F_35:=aY (st:=cL) l_35 c_35 k_35
 have b_35:=F_35.binds (ps:=["locker"]) (by walk_at "bd")
 have F_36:=aY (st:=eS) l_36 c_36 k_36
 have b_36:=F_36.binds (ps:=["self"]) (by walk_at "bd")
 have F_37:=aY (st:=cK) l_37 c_37 k_37
 have b_37:=F_37.binds (ps:=["self"]) (by walk_at "bd")
 have F_38:=aY (st:=cX) l_38 c_38 k_38
 have b_38:=F_38.binds (ps:=["self"]) (by walk_at "bd")
 have F_39:=aY (st:=gN) l_39 c_39 k_39
 have b_39:=F_39.binds (ps:=["letter"]) (by walk_at "bd")
 have F_40:=aY (st:=eE) l_40 c_40 k_40
 have b_40:=F_40.binds (ps:=["letters"]) (by walk_at "bd")
 have F_41:=aY (st:=cF) l_41 c_41 k_41
 have b_41:=F_41.binds (ps:=["letters"]) (by walk_at "bd")
 have F_42:=aY (st:=fS) l_42 c_42 k_42
 have b_42:=F_42.binds (ps:=["word"]) (by walk_at "bd")
 have F_43:=aY (st:=eB) l_43 c_43 k_43
 have b_43:=F_43.binds (ps:=["word"]) (by walk_at "bd")
 have F_44:=aY (st:=eU) l_44 c_44 k_44
 have b_44:=F_44.binds (ps:=["text", "place"]) (by walk_at "bd")
 have F_45:=aY (st:=fQ) l_45 c_45 k_45
 have b_45:=F_45.binds (ps:=["flags"]) (by walk_at "bd")
 have F_46:=aY (st:=gJ) l_46 c_46 k_46
 have b_46:=F_46.binds (ps:=["flags"]) (by walk_at "bd")
 have F_47:=aY (st:=dG) l_47 c_47 k_47
 have b_47:=F_47.binds (ps:=["self"]) (by walk_at "bd")
 have F_48:=aY (st:=cE) l_48 c_48 k_48
 have b_48:=F_48.binds (ps:=["tower", "book", "asked"]) (by walk_at "bd")
 have F_49:=aY (st:=fM) l_49 c_49 k_49
 have b_49:=F_49.binds (ps:=["self", "row"]) (by walk_at "bd")
 have F_50:=aY (st:=jA) l_50 c_50 k_50
 have b_50:=F_50.binds (ps:=["_law_texts", "_law_many"]) (by walk_at "bd")
 have F_51:=aY (st:=cP) l_51 c_51 k_51
 have b_51:=F_51.binds (ps:=["_law_rows", "_law_cell_here"]) (by walk_at "bd")
 have F_52:=aY (st:=nM) l_52 c_52 k_52
 refine ⟨PySem.W.fnOf "law" "law" (aP nM) (aM nM) (aE nM) .none kV_52 dc_52 pm_52 an_52 cd_52 ct_52,λs v=>.of_eq rfl,λbase _ _ LB=>?_⟩;have mk:∀ {k:Nat} {x:Str} {ps:List Str} {sp:Sp} {f:Addr} {fd:FuncData},FnOk l.prog w K mg base CX0 k f fd ps sp->mg x=some (.ref f)->PySem.W.keepIn K (.ref f)=true->Binds K fd ps []->Cal l.prog w K mg base k x ps sp:=λa b c d=>⟨_,_,a,b,c,d⟩
 have mkX:∀ {k:Nat} {x:Str} {ps:List Str} {sp:Sp} {f:Addr} {fd:FuncData},FnOk l.prog w K mg base (CXr l.prog w) k f fd ps sp->mg x=some (.ref f)->PySem.W.keepIn K (.ref f)=true->Binds K fd ps []->wN l.prog w K mg base k x ps sp:=λa b c d=>⟨_,_,a,b,c,d⟩
 have c_l_cell:=mk (aJT F_0 G ) (M a_0) k_0 b_0
 have c_l_book:=mk (aJY F_1 G ) (M a_1) k_1 b_1
 have c_NoBook_init:cQ0 l.prog w K mg base 1 Zu ["self", "at"] (gW Zu):=⟨f_2,_,rV F_2 G ,a_2,y_2,b_2⟩
 have c_is_term:=mk (aQC F_3 G ) (M a_3) k_3 b_3
 have c_is_row_of_terms:=mk (lW F_4 G c_is_term) (M a_4) k_4 b_4
 have c_is_word:=mk (aQA F_5 G ) (M a_5) k_5 b_5
 have c_may_follow:=mk (sJ F_6 G c_is_row_of_terms c_is_word) (M a_6) k_6 b_6
 have c_look_at:=mkX (aXE F_7 G c_NoBook_init c_may_follow) (M a_7) k_7 b_7
 have c_read_book:=mkX (vG F_8 G c_look_at) (M a_8) k_8 b_8
 have c_is_number:=mk (vX F_9 G ) (M a_9) k_9 b_9
 have c_mark_of:=mk (aQ1 F_10 G ) (M a_10) k_10 b_10
 have c_read_some:=mkX (vJ F_11 G c_is_number c_mark_of) (M a_11) k_11 b_11
 have c_read_locker:=mkX (qX F_12 G c_read_some) (M a_12) k_12 b_12
 have c_plain_locker:=mk (pD F_13 G ) (M a_13) k_13 b_13
 have c_Tower_init:aJE CX0 l.prog w K mg base 2 aTower ["self", "book", "locker", "many"] (iI aTower):=⟨f_14,_,rX F_14 G c_plain_locker,⟨G.mk1_Tower,a_14,y_14,G.mk2_Tower⟩,b_14⟩
 have c_Desk_init:aJE (CXr l.prog w) l.prog w K mg base 6 aDesk ["self", "book_text", "locker_text", "many"] (jQ aDesk aTower Zv Zu Zy):=⟨f_15,_,vA F_15 G c_read_book c_read_locker c_Tower_init,⟨G.mk1_Desk,a_15,y_15,G.mk2_Desk⟩,b_15⟩
 have c_is_row:=mk (bQC F_16 G ) (M a_16) k_16 b_16
 have c_words_of_row:=mk (pH F_17 G c_is_row) (M a_17) k_17 b_17
 have c_halyard_number:=mk (mO F_18 G ) (M a_18) k_18 b_18
 have c_deed_of:=mk (zH F_19 G c_halyard_number) (M a_19) k_19 b_19
 have c_told_of_book:=mk (pO F_20 G ) (M a_20) k_20 b_20
 have c_behind_say:=mk (rW F_21 G ) (M a_21) k_21 b_21
 have c_behind_haul:=mk (qL F_22 G ) (M a_22) k_22 b_22
 have c_behind_lower:=mk (pL F_23 G ) (M a_23) k_23 b_23
 have c_behind_lose:=mk (rS F_24 G ) (M a_24) k_24 b_24
 have c_is_flag:=mk (aQI F_25 G ) (M a_25) k_25 b_25
 have c_look_for_flag:=mk (oE F_26 G c_is_flag) (M a_26) k_26 b_26
 have c_put_in:=mk (aJ6 F_27 G c_plain_locker) (M a_27) k_27 b_27
 have c_flags_on:=mk (xM F_28 G ) (M a_28) k_28 b_28
 have c_all_flags_on:=mk (pN F_29 G c_flags_on) (M a_29) k_29 b_29
 have c_behind_find:=mk (qI F_30 G c_look_for_flag c_put_in c_all_flags_on) (M a_30) k_30 b_30
 have c_behind_deed:=mkX (rC F_31 G c_behind_say c_behind_haul c_behind_lower c_behind_lose c_behind_find) (M a_31) k_31 b_31
 have c_Tower_do:lJ (CXr l.prog w) l.prog w K mg base 5 aTower "do" ["self", "deed"] (kG aTower aTower):=⟨f_32,_,xU F_32 G c_behind_deed,⟨a_32,y_32,k_32⟩,b_32⟩
 have c_row_of:=mk (aZ6 F_33 G ) (M a_33) k_33 b_33
 have c_shown_halyards:=mk (mW F_34 G ) (M a_34) k_34 b_34
 have c_shown_locker:=mk (pI F_35 G c_plain_locker c_mark_of) (M a_35) k_35 b_35
 have c_Tower_log:lJ CX0 l.prog w K mg base 1 aTower "log" ["self"] (jL aTower):=⟨f_36,_,uY F_36 G ,⟨a_36,y_36,k_36⟩,b_36⟩
 have c_Tower_halyards:lJ CX0 l.prog w K mg base 1 aTower "halyards" ["self"] (eX aTower):=⟨f_37,_,nA F_37 G ,⟨a_37,y_37,k_37⟩,b_37⟩
 have c_Tower_locker:lJ CX0 l.prog w K mg base 2 aTower "locker" ["self"] (gB aTower):=⟨f_38,_,pG F_38 G c_plain_locker,⟨a_38,y_38,k_38⟩,b_38⟩
 have c_rank_of:=mk (aQJ F_39 G ) (M a_39) k_39 b_39
 have c_is_divided:=mk (sK F_40 G c_rank_of) (M a_40) k_40 b_40
 have c_hidden_letter:=mk (nO F_41 G c_is_divided) (M a_41) k_41 b_41
 have c_check_of:=mk (xW F_42 G c_hidden_letter) (M a_42) k_42 b_42
 have c_with_check:=mk (sB F_43 G c_check_of) (M a_43) k_43 b_43
 have c_may_stand:=mk (uT F_44 G c_is_flag) (M a_44) k_44 b_44
 have c_is_hoist:=mk (yI F_45 G c_may_stand) (M a_45) k_45 b_45
 have c_read_of:=mkX (aQN F_46 G c_is_hoist) (M a_46) k_46 b_46
 have c_Tower_read:lJ CX0 l.prog w K mg base 6 aTower "read" ["self"] (iJ aTower):=⟨f_47,_,rZ F_47 G c_with_check c_read_of,⟨a_47,y_47,k_47⟩,b_47⟩
 have c_told_of_tower:=mk (oB F_48 G c_row_of c_shown_halyards c_shown_locker c_Tower_log c_Tower_halyards c_Tower_locker c_Tower_read) (M a_48) k_48 b_48
 have c_Desk_say:lJ CX0 l.prog w K mg base 9 aDesk "say" ["self", "row"] (hZ aDesk aTower):=⟨f_49,_,yS F_49 G c_words_of_row c_deed_of c_told_of_book c_Tower_do c_told_of_tower,⟨a_49,y_49,k_49⟩,b_49⟩
 have c_l_made:=mk (aJS F_50 G c_Desk_init c_Desk_say) (M a_50) k_50 b_50
 have c_l_spoilt_book:=mk (nT F_51 G ) (M a_51) k_51 b_51
 exact dQX F_52 G c_l_cell c_l_book c_l_made c_l_spoilt_book c_Desk_say
theorem walk {l:PySem.W.OpenLaw} {q:Program} {loose:List Str} {XP:(Q3)->Heap->Prop} {YP:World->Heap->Prop} {d:DefRec} {K:Params->PySem.W.Frag} (hn:l.most=some 63) (hdf:d.params.defaults=[])
   (hd2:((PyProof.Rows.recsOf q).find? λe=>e.name == PySem.Str.ofString "longest_on").isSome=true) (hno:∀ w:World,PySem.W.noTabs (K w.params)=true) (hY:∀ (w:World) (h:Heap),YP w h->(K w.params).In h)
   (F:∀ (w:World) (mg:Q3) (fa:Addr) (h:Heap) (c Pt:Addr),(K w.params).In h->h.Ns mainGlobals mg->mg d.name=some (.ref fa)->bZ9 h mg "longest_on" c->
     ∃ fd:FuncData,(∀ (s:Shared) (u:Value),BindsTo s fd ⟨[u],[]⟩ [("_law_script",u)])/\∀ base:Heap,(K w.params).In base->base.Ns mainGlobals mg->LamB mg base c Pt->FnOk l.prog w (K w.params) mg base CX0 12 fa fd ["_law_script"] (vS (K w.params) Pt)) :
   PySem.W.WalkO q loose XP YP l.row.toRowW d [] (λf vs=>PySem.call f vs):=by
 obtain ⟨d2,e⟩:=Dt.mp hd2;have e3:=List.find?_some e
 have e2:d2.name=PySem.Str.ofString "longest_on" := eq_of_beq e3
 exact L2.bZY (d2:=d2) (n:=63) (k:=12) (x := "_law_script") (CX:=λ_=>CX0) (sp:=λw=>vS (K w.params)) hn (by decide) hdf ⟨rfl,by decide,by decide⟩ (List.mem_of_find?_eq_some e) hno hY (λw mg fa h c Pt a1 a2 a3 a4=>F w mg fa h c Pt a1 a2 a3 (e2 ▸ a4)) (λ_ _ a Pt ns hl hP hS=>⟨a,ns,rfl,hS,hl,hP,λ_=>rfl⟩) λ_ _ _ _ _ z=>z
end Mine
namespace PySem.W.Fast
theorem tw10016092385131002241:True:=⟨⟩
theorem tw12852636504548938241:True:=⟨⟩
theorem tw5145564034208974781:True:=⟨⟩
theorem tw597155814697641214:True:=⟨⟩
theorem tw106762875050756000:True:=⟨⟩
theorem tw6277168017512962100:True:=⟨⟩
theorem tw2829758997739098492:True:=⟨⟩
theorem tw3286871502545608050:True:=⟨⟩
theorem tw3257216004222730644:True:=⟨⟩
theorem tw2738335740079827621:True:=⟨⟩
theorem tw17764862469748995783:True:=⟨⟩
theorem tw15513293650760329355:True:=⟨⟩
theorem tw12133540316087625:True:=⟨⟩
theorem tw16475765861522257896:True:=⟨⟩
theorem tw199291633018816393:True:=⟨⟩
theorem tw11220533600773078149:True:=⟨⟩
theorem tw10516925456996843146:True:=⟨⟩
theorem tw11488883654658708237:True:=⟨⟩
theorem tw10589969647328757930:True:=⟨⟩
theorem tw6210544720712184227:True:=⟨⟩
theorem tw15164804048974933228:True:=⟨⟩
theorem tw1050884475985120977:True:=⟨⟩
theorem tw16460928758443268803:True:=⟨⟩
theorem tw4309516755605899864:True:=⟨⟩
theorem tw16631425557192818360:True:=⟨⟩
theorem tw143908798289723175:True:=⟨⟩
theorem tw8514616565151439302:True:=⟨⟩
theorem tw491313095265037545:True:=⟨⟩
theorem tw6522114018014281117:True:=⟨⟩
theorem tw413329681966356543:True:=⟨⟩
theorem tw6334354717007287003:True:=⟨⟩
theorem tw2530982225628477311:True:=⟨⟩
theorem tw12004184330608097910:True:=⟨⟩
theorem tw13331983203485687021:True:=⟨⟩
theorem tw109008223526047708:True:=⟨⟩
theorem tw3229884747051933016:True:=⟨⟩
theorem tw15127034080123247402:True:=⟨⟩
theorem tw10446040967061966406:True:=⟨⟩
theorem tw13030539705671533342:True:=⟨⟩
theorem tw9106756273056154983:True:=⟨⟩
theorem tw10628053538714345214:True:=⟨⟩
theorem tw15944896135234325218:True:=⟨⟩
theorem tw16088795333554570326:True:=⟨⟩
theorem tw6365265625081017874:True:=⟨⟩
theorem tw881279883182869647:True:=⟨⟩
theorem tw11789938194944709670:True:=⟨⟩
theorem tw13637310438185855931:True:=⟨⟩
theorem tw3468889024381695938:True:=⟨⟩
theorem tw4966237057622825160:True:=⟨⟩
theorem tw9361147757655845325:True:=⟨⟩
theorem tw10439576839736075355:True:=⟨⟩
theorem tw2229288231674599592:True:=⟨⟩
theorem tw3736998199742733767:True:=⟨⟩
theorem tw4326929328975044220:True:=⟨⟩
theorem tw15742182688298268994:True:=⟨⟩
theorem tw17721643182438798718:True:=⟨⟩
theorem tw1705601047675964583:True:=⟨⟩
theorem tw11051932893832557517:True:=⟨⟩
theorem tw12578671430342721305:True:=⟨⟩
theorem tw2280152444055584889:True:=⟨⟩
theorem tw12324510735933231497:True:=⟨⟩
theorem tw8675607401059734459:True:=⟨⟩
theorem tw2573405431055924577:True:=⟨⟩
theorem tw407948864871917700:True:=⟨⟩
theorem tw12199083996897902956:True:=⟨⟩
theorem tw17258723765148863934:True:=⟨⟩
theorem tw9468933500296990991:True:=⟨⟩
theorem tw6384134537831248583:True:=⟨⟩
theorem tw1788937877669174392:True:=⟨⟩
theorem tw16606377462501260023:True:=⟨⟩
theorem tw12160202961354413174:True:=⟨⟩
theorem tw4321355613145528413:True:=⟨⟩
theorem tw5000377822749023502:True:=⟨⟩
theorem tw3351604836623129707:True:=⟨⟩
theorem tw12047114351921365297:True:=⟨⟩
theorem tw14044099460332254710:True:=⟨⟩
theorem tw16397273618358099541:True:=⟨⟩
theorem tw13158375782063442515:True:=⟨⟩
theorem tw5595651555206118289:True:=⟨⟩
theorem tw2136816625011154907:True:=⟨⟩
theorem tw9941575292172170596:True:=⟨⟩
theorem tw1828876191262040450:True:=⟨⟩
theorem tw8009985147452675693:True:=⟨⟩
theorem tw4357267626570876560:True:=⟨⟩
theorem tw10641684819592140949:True:=⟨⟩
theorem tw17480665526073361351:True:=⟨⟩
theorem tw17351219596438664716:True:=⟨⟩
theorem tw10426438036576279358:True:=⟨⟩
theorem tw841263369792950421:True:=⟨⟩
theorem tw12775353318315247317:True:=⟨⟩
theorem tw13782680432696169096:True:=⟨⟩
theorem tw11509799866415620814:True:=⟨⟩
theorem tw3162411295355648020:True:=⟨⟩
theorem tw3375683754904953203:True:=⟨⟩
theorem tw8328886900711101348:True:=⟨⟩
theorem tw2288390518485091416:True:=⟨⟩
theorem tw17234902640024106516:True:=⟨⟩
theorem tw3983629044697763775:True:=⟨⟩
theorem tw13802879863133471474:True:=⟨⟩
theorem tw16326332699995762674:True:=⟨⟩
theorem tw3709292057455084385:True:=⟨⟩
theorem tw1821900051591096561:True:=⟨⟩
theorem tw3796857195194435613:True:=⟨⟩
theorem tw13165142465994088959:True:=⟨⟩
theorem tw14703214086797015169:True:=⟨⟩
theorem tw11728874234737261879:True:=⟨⟩
theorem tw7706579394732991327:True:=⟨⟩
theorem tw9621311052851168290:True:=⟨⟩
theorem tw10281176303301411536:True:=⟨⟩
theorem tw3615199678300921304:True:=⟨⟩
theorem tw8109689431092972739:True:=⟨⟩
theorem tw13380813493376731604:True:=⟨⟩
theorem tw11172075047153050937:True:=⟨⟩
theorem tw17179861014531626995:True:=⟨⟩
theorem tw10658623286040126380:True:=⟨⟩
theorem tw4805209532257839092:True:=⟨⟩
theorem tw14125950057380807226:True:=⟨⟩
theorem tw3167987695454413830:True:=⟨⟩
theorem tw10442931364455133414:True:=⟨⟩
theorem tw7841269021290465864:True:=⟨⟩
theorem tw16312188630595579681:True:=⟨⟩
theorem tw14980479258751531056:True:=⟨⟩
theorem tw4275473099170094025:True:=⟨⟩
theorem tw16880684748566182752:True:=⟨⟩
theorem tw1191220911331980376:True:=⟨⟩
theorem tw12398143004097532864:True:=⟨⟩
theorem tw13623980179022788323:True:=⟨⟩
theorem tw16935263490779685163:True:=⟨⟩
theorem tw3822863568450555418:True:=⟨⟩
theorem tw6737825094282824509:True:=⟨⟩
theorem tw1330156729604961635:True:=⟨⟩
theorem tw10419692127808458527:True:=⟨⟩
theorem tw6407694215148579980:True:=⟨⟩
theorem tw12806174529847672106:True:=⟨⟩
theorem tw6660145677463137552:True:=⟨⟩
theorem tw8694066042714572321:True:=⟨⟩
theorem tw9771558574417898657:True:=⟨⟩
theorem tw11996491711140683821:True:=⟨⟩
theorem tw7193014802948860423:True:=⟨⟩
theorem tw2049137481830506828:True:=⟨⟩
theorem tw11512400294217846555:True:=⟨⟩
theorem tw6597306859647182540:True:=⟨⟩
theorem tw9147233367078759692:True:=⟨⟩
theorem tw17508996882910404888:True:=⟨⟩
theorem tw11610326034015500237:True:=⟨⟩
theorem tw2953583321522739309:True:=⟨⟩
theorem tw17416315137561291761:True:=⟨⟩
theorem tw16227268783033238218:True:=⟨⟩
theorem tw7757498901897444908:True:=⟨⟩
theorem tw4648159351406512667:True:=⟨⟩
theorem tw17243457129703911668:True:=⟨⟩
theorem tw10331561343071290727:True:=⟨⟩
theorem tw5788997472160403316:True:=⟨⟩
theorem tw13762691491016338599:True:=⟨⟩
theorem tw18241969456003850418:True:=⟨⟩
theorem tw10635080801012268508:True:=⟨⟩
theorem tw9274396805063124844:True:=⟨⟩
theorem tw11621228270497361941:True:=⟨⟩
theorem tw17303034546703672060:True:=⟨⟩
theorem tw3756764684604118033:True:=⟨⟩
theorem tw5764715510754945299:True:=⟨⟩
theorem tw15002425660310681354:True:=⟨⟩
theorem tw3692262231144027709:True:=⟨⟩
theorem tw12419021004622206755:True:=⟨⟩
theorem tw15017169611299175025:True:=⟨⟩
theorem tw2321565480715260541:True:=⟨⟩
theorem tw17355493069187085336:True:=⟨⟩
theorem tw798646851022593093:True:=⟨⟩
theorem tw4770728163839463748:True:=⟨⟩
theorem tw11179426195364631686:True:=⟨⟩
theorem tw11370913023529635927:True:=⟨⟩
theorem tw9288514517870381221:True:=⟨⟩
theorem tw17450639325440469584:True:=⟨⟩
theorem tw1656003752995903197:True:=⟨⟩
theorem tw14129124406198625037:True:=⟨⟩
theorem tw8704215609241129852:True:=⟨⟩
theorem tw11473892268630245935:True:=⟨⟩
theorem tw10106332512773530468:True:=⟨⟩
theorem tw12399264533231831226:True:=⟨⟩
theorem tw9858288977676485386:True:=⟨⟩
theorem tw4418599783745229528:True:=⟨⟩
theorem tw9824303265024656669:True:=⟨⟩
theorem tw13540170632873520670:True:=⟨⟩
theorem tw4818738157123499300:True:=⟨⟩
theorem tw16221026891561288084:True:=⟨⟩
theorem tw12840533205672244649:True:=⟨⟩
theorem tw2848617205750198887:True:=⟨⟩
theorem tw5486651600893000861:True:=⟨⟩
theorem tw5008947051104488558:True:=⟨⟩
theorem tw17218687972558385666:True:=⟨⟩
theorem tw7987967318020667283:True:=⟨⟩
theorem tw11394203474703905324:True:=⟨⟩
theorem tw17147202660470044142:True:=⟨⟩
theorem tw11046318410788338735:True:=⟨⟩
theorem tw340337846317250971:True:=⟨⟩
theorem tw16866371809519743490:True:=⟨⟩
theorem tw656575237741791922:True:=⟨⟩
theorem tw13549358439747223107:True:=⟨⟩
theorem tw10683618600978770449:True:=⟨⟩
theorem tw18399484164542492685:True:=⟨⟩
theorem tw12465390137428843382:True:=⟨⟩
theorem tw1101806836754675309:True:=⟨⟩
theorem tw11958969674539478913:True:=⟨⟩
theorem tw4328655357398726263:True:=⟨⟩
theorem tw5870918298205384377:True:=⟨⟩
theorem tw6896002384932528613:True:=⟨⟩
theorem tw18412436501701134368:True:=⟨⟩
theorem tw16848072665354046990:True:=⟨⟩
theorem tw18186791851845145151:True:=⟨⟩
theorem tw13370764901588143329:True:=⟨⟩
theorem tw14074524034810195613:True:=⟨⟩
theorem tw9346364367961294026:True:=⟨⟩
theorem tw15407836290166670653:True:=⟨⟩
theorem tw2704451380237051008:True:=⟨⟩
theorem tw1033682654575959960:True:=⟨⟩
theorem tw4666993865703566717:True:=⟨⟩
theorem tw8837614192961097793:True:=⟨⟩
theorem tw9502329159386084613:True:=⟨⟩
theorem tw15347388769548736953:True:=⟨⟩
theorem tw14345879908387034686:True:=⟨⟩
theorem tw579149641326540931:True:=⟨⟩
theorem tw12070141124073361208:True:=⟨⟩
theorem tw13382795780676035894:True:=⟨⟩
theorem tw7486953134139025707:True:=⟨⟩
theorem tw13859703763919359804:True:=⟨⟩
theorem tw10867776194148344877:True:=⟨⟩
theorem tw8800500312568305216:True:=⟨⟩
theorem tw643031243627575225:True:=⟨⟩
theorem tw9318669458664971980:True:=⟨⟩
theorem tw9407404440071227489:True:=⟨⟩
theorem tw2168103938160466392:True:=⟨⟩
theorem tw14232694640748541893:True:=⟨⟩
theorem tw15274655917200105745:True:=⟨⟩
theorem tw9420363103277701232:True:=⟨⟩
theorem tw7429504526105454872:True:=⟨⟩
theorem tw7143405131163286957:True:=⟨⟩
theorem tw4959765998481647972:True:=⟨⟩
theorem tw1377580249231036146:True:=⟨⟩
theorem tw786635595405574744:True:=⟨⟩
theorem tw4814870734993144540:True:=⟨⟩
theorem tw4885945770112507676:True:=⟨⟩
theorem tw13495148251289636738:True:=⟨⟩
theorem tw11979260565723386347:True:=⟨⟩
theorem tw10757768438960107636:True:=⟨⟩
theorem tw3489022024306828920:True:=⟨⟩
theorem tw1747782178212293938:True:=⟨⟩
theorem tw6834063893777706167:True:=⟨⟩
theorem tw7426978989040443795:True:=⟨⟩
theorem tw1986434244223970760:True:=⟨⟩
theorem tw8201486900354741068:True:=⟨⟩
theorem tw15106293659585412755:True:=⟨⟩
theorem tw10155773650221890485:True:=⟨⟩
theorem tw17861607446499638821:True:=⟨⟩
theorem tw5631709576035875959:True:=⟨⟩
theorem tw15178272099930027504:True:=⟨⟩
theorem tw16352846673437747188:True:=⟨⟩
theorem tw3072879129976242405:True:=⟨⟩
theorem tw315426214907583702:True:=⟨⟩
theorem tw378656945806277538:True:=⟨⟩
theorem tw17696633914901890276:True:=⟨⟩
theorem tw7466936439443534047:True:=⟨⟩
theorem tw14789231939920195861:True:=⟨⟩
theorem tw14103877792663651016:True:=⟨⟩
theorem tw18296152806666463294:True:=⟨⟩
theorem tw3529986678634997356:True:=⟨⟩
theorem tw16944830993434423150:True:=⟨⟩
theorem tw15845372216992491998:True:=⟨⟩
theorem tw5135283930702907726:True:=⟨⟩
theorem tw1327867023563520791:True:=⟨⟩
theorem tw17303238353609948350:True:=⟨⟩
theorem tw7420618237265762897:True:=⟨⟩
theorem tw17259734060143826696:True:=⟨⟩
theorem tw9363338843206386371:True:=⟨⟩
theorem tw1102914046899925425:True:=⟨⟩
theorem tw9983384479005620724:True:=⟨⟩
theorem tw5022333634564577201:True:=⟨⟩
theorem tw3035703913149460469:True:=⟨⟩
theorem tw4050080606821310124:True:=⟨⟩
theorem tw2813042054840378843:True:=⟨⟩
theorem tw7735183166790669620:True:=⟨⟩
theorem tw1720942844704108739:True:=⟨⟩
theorem tw11833741025373478567:True:=⟨⟩
theorem tw14226456667507296748:True:=⟨⟩
theorem tw10489805212348500715:True:=⟨⟩
theorem tw13247538692857671373:True:=⟨⟩
theorem tw6263654954442355130:True:=⟨⟩
theorem tw1969652001128117143:True:=⟨⟩
theorem tw14653616548364306158:True:=⟨⟩
theorem tw11894120833391445698:True:=⟨⟩
theorem tw12577331042986376818:True:=⟨⟩
theorem tw3021139663326318945:True:=⟨⟩
theorem tw10910579033805767113:True:=⟨⟩
theorem tw7655797889560231825:True:=⟨⟩
theorem tw1305341903081101147:True:=⟨⟩
theorem tw14140836205911555439:True:=⟨⟩
theorem tw13640037029492054020:True:=⟨⟩
theorem tw17125565504363519202:True:=⟨⟩
theorem tw108169870549818464:True:=⟨⟩
theorem tw10117216121200759775:True:=⟨⟩
theorem tw6560434986466728880:True:=⟨⟩
theorem tw6951194675510341338:True:=⟨⟩
theorem tw9450047783608796379:True:=⟨⟩
theorem tw4143231935331802406:True:=⟨⟩
theorem tw15895133438235024017:True:=⟨⟩
theorem tw8582770488751498624:True:=⟨⟩
theorem tw2436825328284898530:True:=⟨⟩
theorem tw17087977506601851800:True:=⟨⟩
theorem tw14847911351892891738:True:=⟨⟩
theorem tw817153147365071680:True:=⟨⟩
theorem tw9891668643767658826:True:=⟨⟩
theorem tw17745536565977852460:True:=⟨⟩
theorem tw5777903095474204340:True:=⟨⟩
theorem tw4180280530552882131:True:=⟨⟩
theorem tw14347263605014095079:True:=⟨⟩
theorem tw9777145054544436432:True:=⟨⟩
theorem tw13924939744818321136:True:=⟨⟩
theorem tw7826372902492529133:True:=⟨⟩
theorem tw7106581547015067739:True:=⟨⟩
theorem tw10953132891404133232:True:=⟨⟩
theorem tw4161227111098068458:True:=⟨⟩
theorem tw2002761329269473202:True:=⟨⟩
theorem tw8145209005517184287:True:=⟨⟩
theorem tw17096106099175117666:True:=⟨⟩
theorem tw12888694492096718706:True:=⟨⟩
theorem tw11092976496889055964:True:=⟨⟩
theorem tw574627272963715835:True:=⟨⟩
theorem tw4436071422184491019:True:=⟨⟩
theorem tw6806559991416245060:True:=⟨⟩
theorem tw3327086917906521985:True:=⟨⟩
theorem tw8537103378896345377:True:=⟨⟩
theorem tw12749703923057095623:True:=⟨⟩
theorem tw754563934340138254:True:=⟨⟩
theorem tw4770599409345257949:True:=⟨⟩
theorem tw10649833021062756219:True:=⟨⟩
theorem tw12605753959045238526:True:=⟨⟩
theorem tw17207181302956875918:True:=⟨⟩
theorem tw11692794659694581758:True:=⟨⟩
theorem tw9813754414174751470:True:=⟨⟩
theorem tw15311054190994954074:True:=⟨⟩
theorem tw1115324732812594884:True:=⟨⟩
theorem tw1824459085674742111:True:=⟨⟩
theorem tw2057068226431340649:True:=⟨⟩
theorem tw15099656860267684329:True:=⟨⟩
theorem tw7445586120847470227:True:=⟨⟩
theorem tw6136630151346040325:True:=⟨⟩
theorem tw15061504112457095390:True:=⟨⟩
theorem tw1507955351305344511:True:=⟨⟩
theorem tw4047031745057956065:True:=⟨⟩
theorem tw3734836192391940519:True:=⟨⟩
theorem tw282533263302998921:True:=⟨⟩
theorem tw653233859120284531:True:=⟨⟩
theorem tw15205056957796973659:True:=⟨⟩
theorem tw17644955656477716048:True:=⟨⟩
theorem tw3127567195749931384:True:=⟨⟩
theorem tw6445009338307653244:True:=⟨⟩
theorem tw9291308273615334642:True:=⟨⟩
theorem tw10417049413740651807:True:=⟨⟩
theorem tw4252266825189675571:True:=⟨⟩
theorem tw5661569189771597671:True:=⟨⟩
theorem tw5125536442013507774:True:=⟨⟩
theorem tw15896135173806754473:True:=⟨⟩
theorem tw6701410201865314904:True:=⟨⟩
theorem tw5454331659218482596:True:=⟨⟩
theorem tw9928959414125197962:True:=⟨⟩
theorem tw16581426483193544203:True:=⟨⟩
theorem tw6057347234871439918:True:=⟨⟩
theorem tw8099112946469603563:True:=⟨⟩
theorem tw8321324881537051841:True:=⟨⟩
theorem tw3237463544241238979:True:=⟨⟩
theorem tw11956119575100792374:True:=⟨⟩
theorem tw6614606291025612717:True:=⟨⟩
theorem tw12970527988127445236:True:=⟨⟩
theorem tw4384199610339772773:True:=⟨⟩
theorem tw2934089304811377479:True:=⟨⟩
theorem tw16029323743332249052:True:=⟨⟩
theorem tw5375916742192848576:True:=⟨⟩
theorem tw13650788361841605754:True:=⟨⟩
theorem tw1103946552998327148:True:=⟨⟩
theorem tw2163571661539813754:True:=⟨⟩
theorem tw3349956121076103005:True:=⟨⟩
theorem tw8835024236145652758:True:=⟨⟩
theorem tw6393349156552037781:True:=⟨⟩
theorem tw11888271987814324642:True:=⟨⟩
theorem tw14093587640915023998:True:=⟨⟩
theorem tw1053912264299996122:True:=⟨⟩
theorem tw9042352352501359171:True:=⟨⟩
theorem tw6556425734308634779:True:=⟨⟩
theorem tw17075076935584191426:True:=⟨⟩
theorem tw11235076623896794238:True:=⟨⟩
theorem tw5150980263662582921:True:=⟨⟩
theorem tw374363880307183219:True:=⟨⟩
theorem tw8139032045659177979:True:=⟨⟩
theorem tw18041544722665070386:True:=⟨⟩
theorem tw10798933024121051961:True:=⟨⟩
theorem tw3826441542750673683:True:=⟨⟩
theorem tw976829319985011151:True:=⟨⟩
theorem tw1306268082411599940:True:=⟨⟩
theorem tw7039323814658652955:True:=⟨⟩
theorem tw11934593673810991536:True:=⟨⟩
theorem tw4759347898946193106:True:=⟨⟩
theorem tw8687845574998491705:True:=⟨⟩
theorem tw17849952096866978421:True:=⟨⟩
theorem tw17428414660708997822:True:=⟨⟩
theorem tw3965461168285118548:True:=⟨⟩
theorem tw6220380863282879897:True:=⟨⟩
theorem tw896210783542586570:True:=⟨⟩
theorem tw9599998521427920756:True:=⟨⟩
theorem tw948531823792139244:True:=⟨⟩
theorem tw5000683839816439421:True:=⟨⟩
theorem tw15090258054591592681:True:=⟨⟩
theorem tw15004038767530889183:True:=⟨⟩
theorem tw7742405049318251267:True:=⟨⟩
theorem tw4573910801901508471:True:=⟨⟩
theorem tw2322819855348450214:True:=⟨⟩
theorem tw9765277407735375578:True:=⟨⟩
theorem tw5797356702802169949:True:=⟨⟩
theorem tw8021266079613200545:True:=⟨⟩
theorem tw10624123654011956447:True:=⟨⟩
theorem tw14198701017970990112:True:=⟨⟩
theorem tw3957859580043830089:True:=⟨⟩
theorem tw9686397659313274182:True:=⟨⟩
theorem tw12437590358518964927:True:=⟨⟩
theorem tw14297989481810587281:True:=⟨⟩
theorem tw10885384322843050515:True:=⟨⟩
theorem tw14785754658346038560:True:=⟨⟩
theorem tw12649668109754068421:True:=⟨⟩
theorem tw17152861198887984449:True:=⟨⟩
theorem tw7124864436164394142:True:=⟨⟩
theorem tw564258826534824598:True:=⟨⟩
theorem tw13477332568236226994:True:=⟨⟩
theorem tw1779460749186439487:True:=⟨⟩
theorem tw10121911467568573775:True:=⟨⟩
theorem tw739015235959011806:True:=⟨⟩
theorem tw15572799669239225162:True:=⟨⟩
theorem tw14503106264313842467:True:=⟨⟩
theorem tw7897205758142595269:True:=⟨⟩
theorem tw5429430943016023532:True:=⟨⟩
theorem tw17787231233476963174:True:=⟨⟩
theorem tw12452153844633090757:True:=⟨⟩
theorem tw777629605141686312:True:=⟨⟩
theorem tw11656462357142260722:True:=⟨⟩
theorem tw12423717698598415104:True:=⟨⟩
theorem tw1398003109933510457:True:=⟨⟩
theorem tw7318058452450256177:True:=⟨⟩
theorem tw3869835301684146412:True:=⟨⟩
theorem tw8578729827847006700:True:=⟨⟩
theorem tw15842850402392250857:True:=⟨⟩
theorem tw11042361214597159998:True:=⟨⟩
theorem tw591926824761761875:True:=⟨⟩
theorem tw362041770457559983:True:=⟨⟩
theorem tw8634875732021248560:True:=⟨⟩
theorem tw12330312102183495322:True:=⟨⟩
theorem tw2671379417123502146:True:=⟨⟩
theorem tw6008720065770373965:True:=⟨⟩
theorem tw10863449129048575604:True:=⟨⟩
theorem tw9090915801150444960:True:=⟨⟩
theorem tw9690140096289801817:True:=⟨⟩
theorem tw2969562891082198262:True:=⟨⟩
theorem tw9009300761323076972:True:=⟨⟩
theorem tw13152797945279366145:True:=⟨⟩
theorem tw15183846872888217931:True:=⟨⟩
theorem tw12653839918511877799:True:=⟨⟩
theorem tw2301622834015802654:True:=⟨⟩
theorem tw1537833074695884901:True:=⟨⟩
theorem tw16950151569846796216:True:=⟨⟩
theorem tw7357889871298307877:True:=⟨⟩
theorem tw16065312114164053020:True:=⟨⟩
theorem tw10923318630216377200:True:=⟨⟩
theorem tw10516424634440833325:True:=⟨⟩
theorem tw16236394462046025982:True:=⟨⟩
theorem tw17069502712401362394:True:=⟨⟩
theorem tw12886785076168528723:True:=⟨⟩
theorem tw18215193383562630474:True:=⟨⟩
theorem tw11206895962594928845:True:=⟨⟩
theorem tw14814029229070148707:True:=⟨⟩
theorem tw4783207357070194744:True:=⟨⟩
theorem tw16101106113783523717:True:=⟨⟩
theorem tw11402167707562144627:True:=⟨⟩
theorem tw17686129645202066904:True:=⟨⟩
theorem tw5170083822320940265:True:=⟨⟩
theorem tw11024938543757001199:True:=⟨⟩
theorem tw14336520485481565741:True:=⟨⟩
theorem tw573098021598699663:True:=⟨⟩
theorem tw5919748577212044177:True:=⟨⟩
theorem tw4384985288641423895:True:=⟨⟩
theorem tw4290972927586295429:True:=⟨⟩
theorem tw4611326652764048255:True:=⟨⟩
theorem tw6846030047326342212:True:=⟨⟩
theorem tw4129077936975942532:True:=⟨⟩
theorem tw8048764494641325045:True:=⟨⟩
theorem tw16480476647880023490:True:=⟨⟩
theorem tw11550610109946291242:True:=⟨⟩
theorem tw4810939500333871154:True:=⟨⟩
theorem tw3313360389913597908:True:=⟨⟩
theorem tw11325502036939500634:True:=⟨⟩
theorem tw3892475158210141619:True:=⟨⟩
theorem tw5982046554067171290:True:=⟨⟩
theorem tw15920437270603905736:True:=⟨⟩
theorem tw15603806070947905557:True:=⟨⟩
theorem tw1670044888051639307:True:=⟨⟩
theorem tw13992557799436152469:True:=⟨⟩
theorem tw17145551804821036055:True:=⟨⟩
theorem tw13473482231107214949:True:=⟨⟩
theorem tw13140727296101061015:True:=⟨⟩
theorem tw1910691152719203708:True:=⟨⟩
theorem tw8009904284187355978:True:=⟨⟩
theorem tw14480366322587380324:True:=⟨⟩
theorem tw12283930706787485237:True:=⟨⟩
theorem tw7769000571684105164:True:=⟨⟩
theorem tw13586244999270543251:True:=⟨⟩
theorem tw15142312865931775117:True:=⟨⟩
theorem tw809205847920309889:True:=⟨⟩
theorem tw5107998936653534578:True:=⟨⟩
theorem tw16251922688233959331:True:=⟨⟩
theorem tw7218427645435441079:True:=⟨⟩
theorem tw5966298624379119636:True:=⟨⟩
theorem tw13628778686674368141:True:=⟨⟩
theorem tw6253902695310867351:True:=⟨⟩
theorem tw47141642868733783:True:=⟨⟩
theorem tw9986871290654216177:True:=⟨⟩
theorem tw15151451426020721122:True:=⟨⟩
theorem tw7594088012088196911:True:=⟨⟩
theorem tw3374897163290409361:True:=⟨⟩
theorem tw13970095531816407314:True:=⟨⟩
theorem tw10396986635998943417:True:=⟨⟩
theorem tw3851950160767017421:True:=⟨⟩
theorem tw10217118979872107997:True:=⟨⟩
theorem tw14450201221336452401:True:=⟨⟩
theorem tw9857863935041768309:True:=⟨⟩
theorem tw16756026848194114828:True:=⟨⟩
theorem tw18318496058302626095:True:=⟨⟩
theorem tw7909501469910536985:True:=⟨⟩
theorem tw4594986201177510532:True:=⟨⟩
theorem tw7135261186532307724:True:=⟨⟩
theorem tw9363278555591446616:True:=⟨⟩
theorem tw12348608670952630819:True:=⟨⟩
theorem tw2369431850221415711:True:=⟨⟩
theorem tw16389453586157575065:True:=⟨⟩
theorem tw14933630481147816882:True:=⟨⟩
theorem tw9925194506572737952:True:=⟨⟩
theorem tw13019206951217680893:True:=⟨⟩
theorem tw9083254117895772091:True:=⟨⟩
theorem tw15121947479096521635:True:=⟨⟩
theorem tw8060007787705025592:True:=⟨⟩
theorem tw4888247687402233415:True:=⟨⟩
theorem tw10453329197787580737:True:=⟨⟩
theorem tw3971625656982193858:True:=⟨⟩
theorem tw9883539634801666746:True:=⟨⟩
theorem tw16688278084940905401:True:=⟨⟩
theorem tw17447423585928173836:True:=⟨⟩
theorem tw9090883771063306320:True:=⟨⟩
theorem tw578401639009905263:True:=⟨⟩
theorem tw7932511326570138066:True:=⟨⟩
theorem tw1311742702283457271:True:=⟨⟩
theorem tw16990562630059870130:True:=⟨⟩
theorem tw16115869982702620412:True:=⟨⟩
theorem tw7228017323592090336:True:=⟨⟩
theorem tw11504574123333585278:True:=⟨⟩
theorem tw712403948146854019:True:=⟨⟩
theorem tw12286885402339999749:True:=⟨⟩
theorem tw10217731059211724810:True:=⟨⟩
theorem tw17465180933998406794:True:=⟨⟩
theorem tw13496351228730806581:True:=⟨⟩
theorem tw17816768984664613360:True:=⟨⟩
theorem tw9404293102115960474:True:=⟨⟩
theorem tw15850490153302633101:True:=⟨⟩
theorem tw8881130455477227542:True:=⟨⟩
theorem tw7951597138100975106:True:=⟨⟩
theorem tw4987959668919021606:True:=⟨⟩
theorem tw6602362327567022119:True:=⟨⟩
theorem tw7498262558348854543:True:=⟨⟩
theorem tw1512272790078434038:True:=⟨⟩
theorem tw5302770399284236908:True:=⟨⟩
theorem tw5443312719721314196:True:=⟨⟩
theorem tw2633271801623075436:True:=⟨⟩
theorem tw7753099119574098672:True:=⟨⟩
theorem tw4636282956502940735:True:=⟨⟩
theorem tw16703834217971525546:True:=⟨⟩
theorem tw13406438669034939030:True:=⟨⟩
theorem tw10737296750461111920:True:=⟨⟩
theorem tw14335675379914085812:True:=⟨⟩
theorem tw4479076111572248714:True:=⟨⟩
theorem tw12630043818812979730:True:=⟨⟩
theorem tw13335409454650041978:True:=⟨⟩
theorem tw17064983021968008739:True:=⟨⟩
theorem tw18269643246113054289:True:=⟨⟩
theorem tw2185899362089618520:True:=⟨⟩
theorem tw12753391720392471463:True:=⟨⟩
theorem tw17130867468917811354:True:=⟨⟩
theorem tw9553243641768753581:True:=⟨⟩
theorem tw7408549091469035614:True:=⟨⟩
theorem tw10849329780320361822:True:=⟨⟩
theorem tw6679787673500257149:True:=⟨⟩
theorem tw14690382580067866172:True:=⟨⟩
theorem tw9027936742963894738:True:=⟨⟩
theorem tw157210325079146788:True:=⟨⟩
theorem tw4541757485093336296:True:=⟨⟩
theorem tw17921512642775317441:True:=⟨⟩
theorem tw6668235585436861641:True:=⟨⟩
theorem tw18184737453223471935:True:=⟨⟩
theorem tw10176007178884244537:True:=⟨⟩
theorem tw1830946612057749141:True:=⟨⟩
theorem tw1751661959962659810:True:=⟨⟩
theorem tw14891507069490418890:True:=⟨⟩
theorem tw8462350955380494130:True:=⟨⟩
theorem tw13702985006700043072:True:=⟨⟩
theorem tw17846628986326901691:True:=⟨⟩
theorem tw5108225467824843259:True:=⟨⟩
theorem tw2718784545399575564:True:=⟨⟩
theorem tw14291097380904205143:True:=⟨⟩
theorem tw1485914264930016509:True:=⟨⟩
theorem tw8651534915119997044:True:=⟨⟩
theorem tw12674268464638596716:True:=⟨⟩
theorem tw6146495798204858051:True:=⟨⟩
theorem tw17289071867491598820:True:=⟨⟩
theorem tw9412492627375462622:True:=⟨⟩
theorem tw11286838404874032277:True:=⟨⟩
theorem tw11650334128489044241:True:=⟨⟩
theorem tw7842321796386983682:True:=⟨⟩
theorem tw73618467773056339:True:=⟨⟩
theorem tw950917932398365932:True:=⟨⟩
theorem tw15088378175221874309:True:=⟨⟩
theorem tw13341146274596215497:True:=⟨⟩
theorem tw16527562422084482183:True:=⟨⟩
theorem tw4589590182692419894:True:=⟨⟩
theorem tw10603964192806064855:True:=⟨⟩
theorem tw2826991686539241244:True:=⟨⟩
theorem tw2071773888687262375:True:=⟨⟩
theorem tw6831538069769451222:True:=⟨⟩
theorem tw14114677080499487584:True:=⟨⟩
theorem tw6141679856434567295:True:=⟨⟩
theorem tw6849797073788988411:True:=⟨⟩
theorem tw10064134590615546379:True:=⟨⟩
theorem tw9952172084578394177:True:=⟨⟩
theorem tw5608855463695637221:True:=⟨⟩
theorem tw4917064689678847118:True:=⟨⟩
theorem tw9131093182451292501:True:=⟨⟩
theorem tw6196218022442184657:True:=⟨⟩
theorem tw4262399521117281505:True:=⟨⟩
theorem tw3487820599804086611:True:=⟨⟩
theorem tw13432746389012419730:True:=⟨⟩
theorem tw15682570199195508159:True:=⟨⟩
theorem tw18197422346199266869:True:=⟨⟩
theorem tw11184817315967780166:True:=⟨⟩
theorem tw8547590030044830100:True:=⟨⟩
theorem tw13434552697935050937:True:=⟨⟩
theorem tw15564167845685602628:True:=⟨⟩
theorem tw13185895720410402172:True:=⟨⟩
theorem tw10147872094784497351:True:=⟨⟩
theorem tw1420492778198188321:True:=⟨⟩
theorem tw17150415342666076381:True:=⟨⟩
theorem tw9572252775573939501:True:=⟨⟩
theorem tw13428668024667842075:True:=⟨⟩
theorem tw9006728084594539745:True:=⟨⟩
theorem tw15382189471550038577:True:=⟨⟩
theorem tw14006789519028876985:True:=⟨⟩
theorem tw7877571324001345105:True:=⟨⟩
theorem tw17678832873084700056:True:=⟨⟩
theorem tw4377554413593572424:True:=⟨⟩
theorem tw3728460439771333610:True:=⟨⟩
theorem tw8463088597931547655:True:=⟨⟩
theorem tw11013848615863888073:True:=⟨⟩
theorem tw6449534850148248629:True:=⟨⟩
theorem tw6197786797919152613:True:=⟨⟩
theorem tw6889871570459920439:True:=⟨⟩
theorem tw13881236273247846143:True:=⟨⟩
theorem tw6411923828624164855:True:=⟨⟩
theorem tw3848271348300401354:True:=⟨⟩
theorem tw9850734879960138173:True:=⟨⟩
theorem tw11741605287118382617:True:=⟨⟩
theorem tw662555801756181813:True:=⟨⟩
theorem tw13017249670691937702:True:=⟨⟩
theorem tw7216192928963551059:True:=⟨⟩
theorem tw4481222700608425129:True:=⟨⟩
theorem tw13391614899989093189:True:=⟨⟩
theorem tw363828471120483062:True:=⟨⟩
theorem tw10571814630325087905:True:=⟨⟩
theorem tw3283223319283730591:True:=⟨⟩
theorem tw16041621295872169209:True:=⟨⟩
theorem tw1930301444100765668:True:=⟨⟩
theorem tw1644468491021101418:True:=⟨⟩
theorem tw14799241891316897718:True:=⟨⟩
theorem tw4543204950784787347:True:=⟨⟩
theorem tw3766363397621164053:True:=⟨⟩
theorem tw6786748153868687779:True:=⟨⟩
theorem tw491469920487342688:True:=⟨⟩
theorem tw14575087033313645158:True:=⟨⟩
theorem tw12541280929926897570:True:=⟨⟩
theorem tw6319743013893968258:True:=⟨⟩
theorem tw6403637347267763415:True:=⟨⟩
theorem tw1444787847956707430:True:=⟨⟩
theorem tw17964055492599450572:True:=⟨⟩
theorem tw9378996289419376108:True:=⟨⟩
theorem tw10071200970001248769:True:=⟨⟩
theorem tw5206178123559740659:True:=⟨⟩
theorem tw1085903163381283643:True:=⟨⟩
theorem tw5704794271766407473:True:=⟨⟩
theorem tw15465143540734297840:True:=⟨⟩
theorem tw7692876637828247411:True:=⟨⟩
theorem tw16671744648830110229:True:=⟨⟩
theorem tw689745195544848538:True:=⟨⟩
end PySem.W.Fast
open PySem PySem.W PyProof.Rows
set_option maxRecDepth 100000 in
set_option maxHeartbeats 0 in
theorem PySem.Challenge.cw_flaglocker_k62_desks_made_holds : PySem.Challenge.rw_flaglocker_k62_desks_made.Holds := by
  w_on; o_law; k_head; (case hw => w_witness2)
  k_fill
  refine Mine.walk (l:=PySem.Challenge.rw_flaglocker_k62_desks_made) rfl rfl ?hd2 ?hno (fun w h Y => PySem.W.km_in_of Y) ?F
  case hd2 => kernel_rfl!
  case hno => intro w; kernel_rfl!
  case F =>
    intro w mg fa h c Pt KX G hmg TH
    refine' Mine.all_mk KX G hmg TH ?a_0 ?l_0 ?c_0 ?k_0 ?a_1 ?l_1 ?c_1 ?k_1 ?y_2 ?a_2 ?l_2 ?c_2 ?k_2 ?a_3 ?l_3 ?c_3 ?k_3 ?a_4 ?l_4 ?c_4 ?k_4 ?a_5 ?l_5 ?c_5 ?k_5 ?a_6 ?l_6 ?c_6 ?k_6 ?a_7 ?l_7 ?c_7 ?k_7 ?a_8 ?l_8 ?c_8 ?k_8 ?a_9 ?l_9 ?c_9 ?k_9 ?a_10 ?l_10 ?c_10 ?k_10 ?a_11 ?l_11 ?c_11 ?k_11 ?a_12 ?l_12 ?c_12 ?k_12 ?a_13 ?l_13 ?c_13 ?k_13 ?y_14 ?a_14 ?l_14 ?c_14 ?k_14 ?y_15 ?a_15 ?l_15 ?c_15 ?k_15 ?a_16 ?l_16 ?c_16 ?k_16 ?a_17 ?l_17 ?c_17 ?k_17 ?a_18 ?l_18 ?c_18 ?k_18 ?a_19 ?l_19 ?c_19 ?k_19 ?a_20 ?l_20 ?c_20 ?k_20 ?a_21 ?l_21 ?c_21 ?k_21 ?a_22 ?l_22 ?c_22 ?k_22 ?a_23 ?l_23 ?c_23 ?k_23 ?a_24 ?l_24 ?c_24 ?k_24 ?a_25 ?l_25 ?c_25 ?k_25 ?a_26 ?l_26 ?c_26 ?k_26 ?a_27 ?l_27 ?c_27 ?k_27 ?a_28 ?l_28 ?c_28 ?k_28 ?a_29 ?l_29 ?c_29 ?k_29 ?a_30 ?l_30 ?c_30 ?k_30 ?a_31 ?l_31 ?c_31 ?k_31 ?y_32 ?a_32 ?l_32 ?c_32 ?k_32 ?a_33 ?l_33 ?c_33 ?k_33 ?a_34 ?l_34 ?c_34 ?k_34 ?a_35 ?l_35 ?c_35 ?k_35 ?y_36 ?a_36 ?l_36 ?c_36 ?k_36 ?y_37 ?a_37 ?l_37 ?c_37 ?k_37 ?y_38 ?a_38 ?l_38 ?c_38 ?k_38 ?a_39 ?l_39 ?c_39 ?k_39 ?a_40 ?l_40 ?c_40 ?k_40 ?a_41 ?l_41 ?c_41 ?k_41 ?a_42 ?l_42 ?c_42 ?k_42 ?a_43 ?l_43 ?c_43 ?k_43 ?a_44 ?l_44 ?c_44 ?k_44 ?a_45 ?l_45 ?c_45 ?k_45 ?a_46 ?l_46 ?c_46 ?k_46 ?y_47 ?a_47 ?l_47 ?c_47 ?k_47 ?a_48 ?l_48 ?c_48 ?k_48 ?y_49 ?a_49 ?l_49 ?c_49 ?k_49 ?a_50 ?l_50 ?c_50 ?k_50 ?a_51 ?l_51 ?c_51 ?k_51 ?a_52 ?l_52 ?c_52 ?k_52 ?z_len ?z_range ?z_all ?z_str ?z_int ?z_dict ?z_list ?z_enumerate ?z_sum ?z_isinstance ?z_ValueError ?g_LONGEST_TERM ?g_TERM_LETTERS ?g_MOST_PLACES ?g_LETTERS ?g_MOST_TUPLES ?g_LONGEST_WORD ?g_MOST_TERMS_MEANT ?g_MOST_OF_A_FLAG ?g_SUBSTITUTES ?g_FLAGS ?g_MOST_HALYARDS ?g_BARE ?q_Tower ?q_TowerError ?q_NoDeed ?q_Desk ?q_NoHoist ?q_NoBook ?q_NoText ?q_NoHalyard ?q_NoFlag ?q_NoRow ?f_x_NoDeed ?f_x_NoHoist ?f_x_NoText ?f_x_NoHalyard ?f_x_NoFlag ?f_x_NoRow ?f_m_NoBook_NoBook ?f_m_NoText_NoBook ?f_m_NoText_NoText ?f_m_NoHalyard_NoBook ?f_m_NoHalyard_NoText ?f_m_NoHalyard_NoHalyard ?f_e_1 ?f_e_2 ?f_e_3 ?f_e_4 ?f_e_7 ?f_e_8 ?f_h_1 ?f_h_2 ?f_h_3 ?f_h_4 ?f_h_7 ?f_h_8 ?f_e_5 ?f_e_6 ?f_t_1 ?f_t_2 ?f_t1_TowerError ?f_t2_TowerError ?f_t3_TowerError ?f_xo_NoBook ?f_xk_NoBook ?f_xe1_NoBook ?f_xe2_NoBook ?f_xe3_NoBook ?f_xe4_NoBook ?f_xe5_NoBook ?f_xe6_NoBook ?f_xe7_NoBook ?f_xe8_NoBook ?f_xs_NoBook ?f_xr_NoBook ?f_xv_NoBook ?f_xn_NoBook_at ?f_cl1_Tower ?f_cl2_Tower ?f_cl3_Tower ?f_cl4_Tower ?f_mk1_Tower ?f_mk2_Tower ?f_na_Tower_book ?f_na_Tower_many ?f_na_Tower_stock_at_first ?f_na_Tower_stock ?f_na_Tower_hung ?f_na_Tower_deeds ?f_cl1_Desk ?f_cl2_Desk ?f_cl3_Desk ?f_cl4_Desk ?f_mk1_Desk ?f_mk2_Desk ?f_na_Desk_book ?f_na_Desk_tower ?qd_WORDS_IN ?ld_WORDS_IN ?sd_WORDS_IN ?ed_WORDS_IN ?qd_THINGS_IN ?ld_THINGS_IN ?sd_THINGS_IN ?ed_THINGS_IN ?qt_WITH_TERMS ?lt_WITH_TERMS ?et_WITH_TERMS
    (case q_Tower | q_TowerError | q_NoDeed | q_Desk | q_NoHoist | q_NoBook | q_NoText | q_NoHalyard | q_NoFlag | q_NoRow | a_0 | l_0 | c_0 | k_0 | a_1 | l_1 | c_1 | k_1 | a_2 | l_2 | c_2 | k_2 | a_3 | l_3 | c_3 | k_3 | a_4 | l_4 | c_4 | k_4 | a_5 | l_5 | c_5 | k_5 | a_6 | l_6 | c_6 | k_6 | a_7 | l_7 => k_is)
    (case c_7 | k_7 | a_8 | l_8 | c_8 | k_8 | a_9 | l_9 | c_9 | k_9 | a_10 | l_10 | c_10 | k_10 | a_11 | l_11 | c_11 | k_11 | a_12 | l_12 | c_12 | k_12 | a_13 | l_13 | c_13 | k_13 | a_14 | l_14 | c_14 | k_14 | a_15 | l_15 | c_15 | k_15 | a_16 | l_16 | c_16 | k_16 | a_17 | l_17 => k_is)
    (case c_17 | k_17 | a_18 | l_18 | c_18 | k_18 | a_19 | l_19 | c_19 | k_19 | a_20 | l_20 | c_20 | k_20 | a_21 | l_21 | c_21 | k_21 | a_22 | l_22 | c_22 | k_22 | a_23 | l_23 | c_23 | k_23 | a_24 | l_24 | c_24 | k_24 | a_25 | l_25 | c_25 | k_25 | a_26 | l_26 | c_26 | k_26 | a_27 | l_27 => k_is)
    (case c_27 | k_27 | a_28 | l_28 | c_28 | k_28 | a_29 | l_29 | c_29 | k_29 | a_30 | l_30 | c_30 | k_30 | a_31 | l_31 | c_31 | k_31 | a_32 | l_32 | c_32 | k_32 | a_33 | l_33 | c_33 | k_33 | a_34 | l_34 | c_34 | k_34 | a_35 | l_35 | c_35 | k_35 | a_36 | l_36 | c_36 | k_36 | a_37 | l_37 => k_is)
    (case c_37 | k_37 | a_38 | l_38 | c_38 | k_38 | a_39 | l_39 | c_39 | k_39 | a_40 | l_40 | c_40 | k_40 | a_41 | l_41 | c_41 | k_41 | a_42 | l_42 | c_42 | k_42 | a_43 | l_43 | c_43 | k_43 | a_44 | l_44 | c_44 | k_44 | a_45 | l_45 | c_45 | k_45 | a_46 | l_46 | c_46 | k_46 | a_47 | l_47 => k_is)
    (case c_47 | k_47 | a_48 | l_48 | c_48 | k_48 | a_49 | l_49 | c_49 | k_49 | a_50 | l_50 | c_50 | k_50 | a_51 | l_51 | c_51 | k_51 | a_52 | l_52 | c_52 | k_52 | z_len | z_range | z_all | z_str | z_int | z_dict | z_list | z_enumerate | z_sum | z_isinstance | z_ValueError | g_LONGEST_TERM | g_TERM_LETTERS | g_MOST_PLACES | g_LETTERS | g_MOST_TUPLES | g_LONGEST_WORD | g_MOST_TERMS_MEANT => k_is)
    (case g_MOST_OF_A_FLAG | g_SUBSTITUTES | g_FLAGS | g_MOST_HALYARDS | g_BARE => k_is)
    (case f_x_NoDeed | f_x_NoHoist | f_x_NoText | f_x_NoHalyard | f_x_NoFlag | f_x_NoRow => k_exc)
    (case f_m_NoBook_NoBook | f_m_NoText_NoBook | f_m_NoText_NoText | f_m_NoHalyard_NoBook | f_m_NoHalyard_NoText | f_m_NoHalyard_NoHalyard => kts_exm)
    (case f_e_1 | f_e_2 | f_e_3 | f_e_4 | f_e_7 | f_e_8 | f_h_1 | f_h_2 | f_h_3 | f_h_4 | f_h_7 | f_h_8 | f_e_5 | f_e_6 => k_is)
    (case f_t_1 | f_t_2 => kit_is)
    (case f_t1_TowerError | f_t2_TowerError | f_t3_TowerError => k_is)
    (case f_xo_NoBook => kernel_rfl!)
    (case f_xk_NoBook | f_xe1_NoBook | f_xe2_NoBook | f_xe3_NoBook | f_xe4_NoBook | f_xe5_NoBook | f_xe6_NoBook | f_xe7_NoBook | f_xe8_NoBook | f_xs_NoBook => k_is)
    (case f_xr_NoBook => kernel_rfl!)
    (case f_xv_NoBook | f_xn_NoBook_at | f_cl1_Tower | f_cl2_Tower | f_cl3_Tower | f_cl4_Tower | f_mk1_Tower | f_mk2_Tower | f_na_Tower_book | f_na_Tower_many | f_na_Tower_stock_at_first | f_na_Tower_stock | f_na_Tower_hung | f_na_Tower_deeds | f_cl1_Desk | f_cl2_Desk | f_cl3_Desk | f_cl4_Desk | f_mk1_Desk | f_mk2_Desk | f_na_Desk_book | f_na_Desk_tower | qd_WORDS_IN | ld_WORDS_IN => k_is)
    (case sd_WORDS_IN => kernel_rfl!)
    (case ed_WORDS_IN => exact ⟨rfl,⟨_,rfl⟩,⟨_,rfl⟩,rfl,⟨_,rfl⟩,⟨_,rfl⟩,rfl,⟨_,rfl⟩,⟨_,rfl⟩,rfl,⟨_,rfl⟩,⟨_,rfl⟩,rfl,⟨_,rfl⟩,⟨_,rfl⟩,rfl,⟨_,rfl⟩,⟨_,rfl⟩,rfl,⟨_,rfl⟩,⟨_,rfl⟩,rfl,⟨_,rfl⟩,⟨_,rfl⟩,rfl,⟨_,rfl⟩,⟨_,rfl⟩,rfl,⟨_,rfl⟩,⟨_,rfl⟩,trivial⟩)
    (case qd_THINGS_IN | ld_THINGS_IN => k_is)
    (case sd_THINGS_IN => kernel_rfl!)
    (case ed_THINGS_IN => exact ⟨rfl,⟨_,rfl⟩,⟨_,rfl⟩,rfl,⟨_,rfl⟩,⟨_,rfl⟩,rfl,⟨_,rfl⟩,⟨_,rfl⟩,rfl,⟨_,rfl⟩,⟨_,rfl⟩,rfl,⟨_,rfl⟩,⟨_,rfl⟩,trivial⟩)
    (case qt_WITH_TERMS | lt_WITH_TERMS => k_is)
    (case et_WITH_TERMS => exact ⟨rfl,by decide⟩)
    (case y_2 | y_14 | y_15 | y_32 | y_36 | y_37 | y_38 | y_47 | y_49 => k_is)
