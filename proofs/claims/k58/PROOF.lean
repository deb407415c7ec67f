import PyProof.Rows.All
import Wide.All
import OpenK.AllK
import Wide.FinOn
import Lean
import PyProof.EqAt
import PyProof.EqKinds
import PyProof.TupleCall
import PySem.Challenge.RW_flaglocker_k58_read_of_a_tower
set_option Elab.async false
set_option compiler.extract_closed false
set_option linter.all false
set_option maxHeartbeats 4000000
set_option maxRecDepth 100000
abbrev Q0:=PySem.Value->PySem.Shared->Prop
abbrev Q2:=List (PySem.Addr × PySem.Obj)
abbrev Q3:=List (Option (List Nat))
abbrev Q4:=PySem.Str->Option PySem.Value
abbrev Q5:=List (List Nat)
abbrev Aa:=@List.getElem?_eq_getElem
abbrev Ab:=@List.length_map
abbrev Ac:=@List.getD_eq_getElem?_getD
abbrev Ad:=@List.getElem?_eq_some_iff
abbrev Ae:=@PySem.wpAny_bind
abbrev Af:=@List.getElem?_map
abbrev Ag:=@List.length_append
abbrev Ah:=@Nat.le_refl
abbrev Ai:=@PySem.Heap.get?_push_of_some
abbrev Aj:=@List.mem_singleton
abbrev Ak:=@List.mem_cons_of_mem
abbrev Al:=@List.mem_of_getElem?
abbrev Am:=@List.mem_cons_self
abbrev An:=@decide_eq_true
abbrev Ao:=@List.map_append
abbrev Ap:=@Bool.false_ne_true
abbrev Aq:=@List.getElem?_append_left
abbrev Ar:=@List.getElem?_append_right
abbrev As:=@PySem.wpAny_pure
abbrev Au:=@List.map_cons
abbrev Av:=@PySem.Heap.lt_size
abbrev Aw:=@List.length_cons
abbrev Ax:=@decide_eq_false
abbrev Ay:=@List.mem_cons
abbrev Az:=@of_decide_eq_true
abbrev Ba:=@PySem.Heap.get?_push_size
abbrev Bb:=@List.size_toArray
abbrev Bc:=@Nat.lt_of_lt_of_le
abbrev Bd:=@List.take_add_one
abbrev Be:=@List.mem_map
abbrev Bf:=@List.take_of_length_le
abbrev Bg:=@Nat.le_trans
abbrev Bh:=@Option.some.inj
abbrev Bi:=@List.append_nil
abbrev Bj:=@decide_eq_true_iff
abbrev Bk:=@List.mem_append_right
abbrev Bl:=@List.mem_append
abbrev Bm:=@of_decide_eq_false
abbrev Bo:=@Nat.ne_of_lt
abbrev Bp:=@List.take_length
abbrev Bq:=@List.getElem_mem
abbrev Br:=@PySem.PassesOwn.never
abbrev Bs:=@Bool.eq_false_iff
abbrev Bt:=@List.length_take
abbrev Bu:=@PySem.F.plainAttrs_list
abbrev Bv:=@List.filterMap_append
abbrev Bw:=@List.mem_range
abbrev Bx:=@List.range_succ
abbrev By:=@List.mem_iff_getElem
abbrev Bz:=@PySem.F.slot_dict_get
abbrev Ca:=@List.length_range
abbrev Cb:=@PySem.Heap.get?_update_other
abbrev Cc:=@List.map_map
abbrev Cd:=@List.length_drop
abbrev Ce:=@List.flatten_cons
abbrev Cf:=@List.nodup_cons
abbrev Cg:=@List.length_set
abbrev Ci:=@PySem.wpAny_mono
abbrev Cj:=@List.sum_cons
abbrev Ck:=@List.all_eq_true
abbrev Cm:=@List.mem_append_left
abbrev Co:=@List.filterMap_nil
abbrev Cp:=@beq_eq_false_iff_ne
abbrev Cq:=@Array.getElem?_eq_some_iff
abbrev Cr:=@Nat.zero_le
abbrev Cs:=@Option.map_eq_some_iff
abbrev Ct:=@List.length_filterMap_le
abbrev Cu:=@List.filterMap_cons_some
abbrev Cv:=@List.filterMap_cons_none
abbrev Cw:=@List.map_congr_left
abbrev Cy:=@Array.getD_eq_getD_getElem?
abbrev Cz:=@Nat.add_sub_cancel_left
abbrev Da:=@List.getElem?_set_ne
abbrev Dc:=@PySem.wpAny_holding
abbrev Dd:=@PySem.W.kia_one
abbrev De:=@Int.emod_nonneg
abbrev Df:=@List.getElem?_set_self
abbrev Dg:=@List.lookup_cons
abbrev Dh:=@decide_eq_decide
abbrev Di:=@Array.getElem?_eq_getElem
abbrev Dj:=@PySem.mem_of_lookup
abbrev Dk:=@Array.getElem?_toList
abbrev Dm:=@Option.isSome_iff_exists
abbrev Do:=@List.mem_filterMap
abbrev Dp:=@PySem.wpAny_Call_Name_kw
abbrev Dq:=@Int.emod_lt_of_pos
abbrev Dr:=@List.countP_cons
abbrev Ds:=@PyProof.Rows.callWith_type1
abbrev Dt:=@congrArg
abbrev Du:=@PySem.F.excBase_ValueError
abbrev Dv:=@List.nodup_append
abbrev Dw:=@List.replicate_succ
abbrev Dx:=@List.mem_filter
abbrev Dy:=@List.mem_or_eq_of_mem_set
abbrev Dz:=@PySem.F.type_dict_get
abbrev Ea:=@Bool.and_eq_true
abbrev Eb:=@Nat.lt_irrefl
abbrev Ec:=@PySem.F.slot_list_extend
abbrev Ed:=@PySem.F.type_list_extend
abbrev Ee:=@PySem.wpAny_typeNameOfWhole_keyiter
abbrev Ef:=@PySem.F.slot_dict_keyiterator_next
abbrev Eg:=@List.filterMap_cons
abbrev Eh:=@PySem.F.entry_dict_get
abbrev Ei:=@Nat.sub_self
abbrev Ej:=@List.drop_eq_nil_of_le
abbrev Ek:=@Nat.min_eq_right
abbrev El:=@PySem.tupleKind_room_in1
abbrev Em:=@List.take_append_drop
abbrev En:=@PySem.wpAny_passesOwn
abbrev Eo:=@List.of_mem_zip
abbrev Ep:=@Option.map_some
abbrev Er:=@Nat.min_eq_left
abbrev Et:=@PySem.codeAny_mono
abbrev Eu:=@List.append_assoc
abbrev Ew:=@PySem.codeAny_call_builtin
abbrev Ey:=@List.getElem?_take_of_lt
abbrev Ez:=@PySem.F.slot_list_append
abbrev Fa:=@PySem.F.type_list_append
abbrev Fb:=@List.flatMap_append
abbrev Fc:=@List.filter_sublist
abbrev Fd:=@PySem.wpAny_getItem_str_slice
abbrev Fe:=@beq_self_eq_true
abbrev Ff:=@Nat.le_add_right
abbrev Fg:=@PySem.F.slot_list_index
abbrev Fh:=@List.eq_nil_of_length_eq_zero
abbrev Fi:=@PySem.W.callWith_K
abbrev Fj:=@PySem.Calls.callWith_builtin
abbrev Fk:=@List.filter_append
abbrev Fl:=@PySem.F.plainAttrs_str
abbrev Fm:=@Nat.not_lt_zero
abbrev Fn:=@List.countP_eq_length_filter
abbrev Fo:=@PySem.wpAny_standAt
abbrev Fp:=@PySem.W.methodCall_KW
abbrev Fq:=@List.length_replicate
abbrev Fs:=@List.mem_iff_getElem?
abbrev Ft:=@List.getElem?_eq_none
abbrev Fu:=@List.getElem?_zipWith
abbrev Fv:=@PySem.wpAny_truthy_bool
abbrev Fw:=@PySem.wpAny_pyIter_list
abbrev Fx:=@PySem.wpAny_loadPart_at
abbrev Fy:=@Int.toNat_natCast
abbrev Fz:=@List.flatMap_cons
abbrev Ga:=@PySem.Heap.get?_none_of_le
abbrev Gb:=@PySem.Heap.size_push
abbrev Gc:=@PySem.wpAny_call
abbrev Gd:=@PySem.Calls.evalArgs_plain
abbrev Ge:=@List.getElem_toArray
abbrev Gf:=@List.getElem_inj
abbrev Gg:=@Nat.ne_of_gt
abbrev Gh:=@List.filter_cons
abbrev Gi:=@List.take_succ_cons
abbrev Gj:=@Array.length_toList
abbrev Gk:=@List.map_drop
abbrev Gm:=@Bool.eq_iff_iff
abbrev Gp:=@PySem.W.of_hideAll
abbrev Gq:=@PySem.call_meets
abbrev Gr:=@PySem.Obj.data_mapFields
abbrev Gu:=@PySem.wpAny_field
abbrev Gv:=@PySem.F.args_dict_get_2
abbrev Gw:=@List.take_sublist
abbrev Gx:=@PySem.wpAny_Call_method_late
abbrev Gy:=@PySem.wpAny_newObj_type
abbrev Gz:=@PySem.wpAny_pyIter_enum
abbrev Ha:=@PySem.wpAny_setField
abbrev Hb:=@List.getElem?_set
abbrev He:=@List.take_zero
abbrev Hf:=@beq_iff_eq
abbrev Hh:=@PySem.wpAny_call_entry
abbrev Hi:=@List.mem_flatMap
abbrev Hj:=@List.getElem_map
abbrev Hk:=@List.any_cons
abbrev Hl:=@List.take_nil
abbrev Hm:=@List.map_take
abbrev Hn:=@PySem.sizeLine_eq
abbrev Ho:=@Int.le_refl
abbrev Hq:=@List.map_nil
abbrev Hr:=@PySem.call_meetsIn
namespace L2
open PySem PySem.Spec PyProof.Rows
abbrev Key:=Sum Int Str
def mC:Key->Value->Bool
 | .inl k,v=>Value.isInt k v
 | .inr x,v=>Value.isStrOf x v
def eQ3 (w:World):Key->Int
 | .inl k=>hashInt k
 | .inr x=>hashStr w x
def bR:∀ {k:Key} {v:Value},mC k v=true->(∃ i t,k=Sum.inl i/\v=Value.int i t)\/(∃ x t,k=Sum.inr x/\v=Value.str x t)
 | .inl i,v,h=>by
   obtain ⟨t,e⟩:=Value.isInt_shape (k:=i) (v:=v) h;exact .inl ⟨i,t,rfl,e⟩
 | .inr x,v,h=>by
   obtain ⟨t,e⟩:=Value.isStrOf_shape (x:=x) (v:=v) h;exact .inr ⟨x,t,rfl,e⟩
def bQA (i:Int) (t:Tok):mC (.inl i) (.int i t)=true:=by simp [mC,Value.isInt]
def lI (x:Str) (t:Tok):mC (.inr x) (.str x t)=true:=by simp [mC,Value.isStrOf]
def dXT (a b:Int):decide ((Sum.inl a:Key)=Sum.inl b)=(a == b):=by
 by_cases e:a=b
 . subst e; simp
 . have h:¬ (Sum.inl a:Key)=Sum.inl b:=λq=>e (Sum.inl.inj q)
   rw [Ax h];exact (Cp.mpr e).symm
def dJP (a b:Str):decide ((Sum.inr a:Key)=Sum.inr b)=decide (a=b):=by
 by_cases e:a=b
 . subst e; simp
 . have h:¬ (Sum.inr a:Key)=Sum.inr b:=λq=>e (Sum.inr.inj q)
   rw [Ax h,Ax e]
def dZ9 (a:Int) (b:Str):decide ((Sum.inl a:Key)=Sum.inr b)=false:=Ax (λq=>nomatch q)
def dJN (a:Str) (b:Int):decide ((Sum.inr a:Key)=Sum.inl b)=false:=Ax (λq=>nomatch q)
def aZ (prog:Program) (w:World):PySem.KeyKind prog w Key where
 is:=mC
 hash:=eQ3 w
 inj:=λv a b ha hb=>by
   rcases bR ha with ⟨i,t,rfl,rfl⟩ | ⟨x,t,rfl,rfl⟩
   . rcases bR hb with ⟨j,u,rfl,e⟩ | ⟨y,u,rfl,e⟩
     . injection e with e1 _; rw [e1]
     . exact nomatch e
   . rcases bR hb with ⟨j,u,rfl,e⟩ | ⟨y,u,rfl,e⟩
     . exact nomatch e
     . injection e with e1 _; rw [e1]
 byValue:=λk v h=>by
   rcases bR h with ⟨i,t,rfl,rfl⟩ | ⟨x,t,rfl,rfl⟩ <;> rfl
 pyHash:=λhv h=>by
   rcases bR hv with ⟨i,t,rfl,rfl⟩ | ⟨x,t,rfl,rfl⟩
   . exact wpAny_pyHash_int h
   . exact wpAny_pyHash_str h
 eqBool:=λhu hv h=>by
   rcases bR hu with ⟨i,t,rfl,rfl⟩ | ⟨x,t,rfl,rfl⟩
   . rcases bR hv with ⟨j,u,rfl,rfl⟩ | ⟨y,u,rfl,rfl⟩
     . rw [dXT] at h; exact wpAny_eqBool_int h
     . rw [dZ9] at h; exact SeqAt.EqAt.int_str i t y u _ _ _ _ h
   . rcases bR hv with ⟨j,u,rfl,rfl⟩ | ⟨y,u,rfl,rfl⟩
     . rw [dJN] at h; exact SeqAt.EqAt.str_int x t j u _ _ _ _ h
     . rw [dJP] at h; exact wpAny_eqBool_str h
 «strs» := λk x t v h=>by
   rcases bR h with ⟨i,u,rfl,e⟩ | ⟨y,u,rfl,e⟩
   . exact nomatch e
   . injection e with e1 _
     subst e1;cases v <;> rfl
def yW (prog:Program) (w:World) (i:Int) (t:Tok):(aZ prog w).is (.inl i) (.int i t)=true:=bQA i t
def yH (prog:Program) (w:World) (x:Str) (t:Tok):(aZ prog w).is (.inr x) (.str x t)=true:=lI x t
inductive V where
 | non | bl (b:Bool) | int (i:Int) | str (x:Str) | byt (b:Array UInt8) | flt (b:UInt64) | ref (a:Addr) | ty (n:String)
 deriving DecidableEq
def RelV:V->Value->Prop
 | .non,u=>u=Value.none
 | .bl b,u=>u=Value.bool b
 | .int i,u=>∃ t,u=Value.int i t
 | .str x,u=>∃ t,u=Value.str x t
 | .byt b,u=>∃ t,u=Value.bytes b t
 | .flt b,u=>∃ t,u=Value.float b t
 | .ref a,u=>u=Value.ref a
 | .ty n,u=>u=Value.type n
abbrev Vals:List V->List Value->Prop:=Paired RelV
def Vals.length {xs:List V} {us:List Value} (r:Vals xs us):xs.length=us.length:=Paired.length r
def Vals.get:∀ {xs:List V} {us:List Value} {i:Nat} {x:V},Vals xs us->xs[i]?=some x->∃ u,us[i]?=some u/\RelV x u
 | _,_,_,_,.nil,e=>by simp at e
 | _,_,0,_,.cons r _,e=>by simp at e; subst e; exact ⟨_,rfl,r⟩
 | _,_,i+1,x,.cons _ t,e=>by
   obtain ⟨u,h1,h2⟩:=Vals.get (i:=i) (x:=x) t (by simpa using e)
   exact ⟨u,by simpa using h1,h2⟩
def Vals.set {x:V} {u:Value} (r:RelV x u):∀ {xs:List V} {us:List Value} (i:Nat),Vals xs us->Vals (xs.set i x) (us.set i u)
 | _,_,_,.nil=>.nil
 | _,_,0,.cons _ t=>.cons r t
 | _,_,i+1,.cons q t=>.cons q (Vals.set r i t)
def Vals.append:∀ {xs ys:List V} {us ws:List Value},Vals xs us->Vals ys ws->Vals (xs++ys) (us++ws)
 | _,_,_,_,.nil,s=>s
 | _,_,_,_,.cons r t,s=>.cons r (Vals.append t s)
def Vals.take:∀ {xs:List V} {us:List Value} (n:Nat),Vals xs us->Vals (xs.take n) (us.take n)
 | _,_,0,_=>.nil
 | _,_,_+1,.nil=>.nil
 | _,_,n+1,.cons r t=>.cons r (Vals.take n t)
def Vals.drop:∀ {xs:List V} {us:List Value} (n:Nat),Vals xs us->Vals (xs.drop n) (us.drop n)
 | _,_,0,r=>r
 | _,_,_+1,.nil=>.nil
 | _,_,n+1,.cons _ t=>Vals.drop n t
def Vals.none_of:∀ {xs:List V} {us:List Value} {i:Nat},Vals xs us->xs[i]?=none->us[i]?=none:=fun {xs us i} r e=>by
 have h1:=r.length
 have h2:xs.length<=i:=List.getElem?_eq_none_iff.mp e
 exact List.getElem?_eq_none_iff.mpr (by omega)
def RelO:Option V->Option Value->Prop
 | some v,some u=>RelV v u
 | none,none=>True
 | _,_=>False
def KV {κ:Type}:List (κ×V)->List (κ×Value)->Prop:=Paired λ(p:κ×V) (q:κ×Value)=>p.1=q.1/\RelV p.2 q.2
def kV:Key->V
 | .inl i=>.int i
 | .inr x=>.str x
inductive HO where
   | lst (xs:List V)
   | tup (xs:List V)
   | dK (kvs:List (Key×V)) | dT (kvs:List (List Key×V))
   | set (S:Int->Bool) (n:Nat)
   | ins (C dx:Addr) (fs:List (Str×V))
   | own (x:Addr)
   | xd (fs:List (Str×V))
   | met (f x:Addr)
   | rng (lo hi:Int)
   | frz (o:Obj) (u:HO)
   | tbl (ps:Array Value)
   | ext (φ:Heap->Prop)
abbrev Hp:=Addr->Option HO
def upd (H:Hp) (a:Addr) (o:HO):Hp:=λb=>if b=a then some o else H b
def aD {H:Hp} {a:Addr} {o:HO}:upd H a o a=some o:=by unfold upd; rw [if_pos rfl]
def aH {H:Hp} {a b:Addr} {o:HO} (h:b≠a):upd H a o b=H b:=by unfold upd; rw [if_neg h]
def aZW {H:Hp} {a:Addr} {o u:HO}:upd (upd H a o) a u=upd H a u:=by
 funext b; unfold upd; split <;> rfl
def eZ4 {H:Hp} {a b:Addr} {o u:HO} (h:H a=some o) (h':H b=some u) (d:o≠u):a≠b:=by
 intro e; subst e; rw [h] at h'; exact d (Bh h')
def bF {H:Hp} {a b:Addr} {o:HO} (h:H a=some o) (h':H b=none):a≠b:=by
 intro e; subst e; rw [h] at h'; cases h'
section
variable (P:Program) (w:World)
def ObjOk (H:Hp) (h:Heap) (a:Addr):HO->Prop
 | .lst xs=>xs.length<=sizeLine/\∃ (its:List Value) (n:Nat),Vals xs its/\h.get? a=some { cls:=.type "list",data:=.seq its.toArray n }
 | .tup xs=>xs.length<=sizeLine/\∃ its:List Value,Vals xs its/\IsTup h a its.toArray
 | .dK kvs=>kvs.length<=sizeLine/\(a == sysModules)=false/\∃ vs,KV kvs vs/\h.DictOf (aZ P w) a vs
 | .dT kvs=>kvs.length<=sizeLine/\(a == sysModules)=false/\∃ xs:List (List Key×Addr×Value),
     Paired (λ(p:List Key×V) (q:List Key×Addr×Value)=>p.1=q.1/\H q.2.1=some (.tup (p.1.map kV))/\RelV p.2 q.2.2) kvs xs/\
     ∃ o es ep,h.get? a=some o/\o.ExactDict/\o.data=.dict es ep/\es.toList=xs.map (entryOfKey (tupleKind (aZ P w)))/\(xs.map (·.1)).Nodup
 | .set S n=>h.SetOf (intKind P w) a S n
 | .ins C dx fs=>H dx=some (.own a)/\fs.length<=1000/\dx≠a/\h.get? a=some (W.instObj C dx)/\
     ∃ mA,h.Ns1 dx mA/\(∀ f,RelO (fs.lookup f) (mA f))/\PySem.Within mA (fs.map (·.1))
 | .own _=>∃ o,h.get? a=some o
 | .xd fs=>∃ mA,h.Ns1 a mA/\∀ f,RelO (fs.lookup f) (mA f)
 | .rng lo hi=>∃ t u v,h.get? a=some { cls:=.type "range",data:=.fields #[.int lo t,.int hi u,.int 1 v] }
 | .frz o u=>h.get? a=some o/\ObjOk H h a u
 | .tbl ps=>h.get? a=some { cls:=.none,data:=.fields ps }
 | .met f x=>h.get? a=some (W.methodObj (.ref f) (.ref x))
 | .ext φ=>φ h/\(∃ o,h.get? a=some o)/\∀ h1 h2:Heap,φ h1->(∀ o,h1.get? a=some o->h2.get? a=some o)->φ h2
def HOk (H:Hp) (h:Heap):Prop:=∀ a o,H a=some o->ObjOk P w H h a o
end
section
variable {P:Program} {w:World} {H H':Hp} {h h':Heap} {a:Addr} {o:HO}
def ObjOk.lt (x:ObjOk P w H h a o):a<h.objs.size:=by
 cases o with
 | lst xs=>obtain ⟨_,_,_,_,e⟩:=x; exact Av e
 | tup xs=>obtain ⟨_,_,_,p⟩:=x; exact p.lt
 | dK kvs=>obtain ⟨_,_,_,_,o,_,_,e,_⟩:=x; exact Av e
 | dT kvs=>obtain ⟨_,_,_,_,o,_,_,e,_⟩:=x; exact Av e
 | set S n=>obtain ⟨o,_,_,_,e,_⟩:=x; exact Av e
 | ins C dx fs=>obtain ⟨_,_,_,e,_⟩:=x; exact Av e
 | own y=>obtain ⟨_,e⟩:=x; exact Av e
 | xd fs=>obtain ⟨_,⟨_,_,_,e,_⟩,_⟩:=x; exact Av e
 | rng lo hi=>obtain ⟨_,_,_,e⟩:=x; exact Av e
 | frz ob u=>obtain ⟨e,_⟩:=x; exact Av e
 | tbl ps=>exact Av (show h.get? a=some _ from x)
 | met f y=>exact Av (show h.get? a=some _ from x)
 | ext φ=>obtain ⟨_,⟨_,e⟩,_⟩:=x; exact Av e
def Paired.mapP {α β:Type} {F G:α->β->Prop}:∀ {l₁:List α} {l₂:List β},Paired F l₁ l₂->(∀ a b,F a b->G a b)->Paired G l₁ l₂
 | _,_,.nil,_=>.nil
 | _,_,.cons r t,f=>.cons (f _ _ r) (Paired.mapP t f)
def ObjOk.stay (x:ObjOk P w H h a o) (k:∀ b u,(b=a\/H b=some (.own a))->h.get? b=some u->h'.get? b=some u)
   (ho:∀ b,H b=some (.own a)->H' b=some (.own a)) (ht:∀ b xs,H b=some (.tup xs)->H' b=some (.tup xs)):ObjOk P w H' h' a o:=by
 induction o with
 | lst xs=>obtain ⟨z,its,n,r,e⟩:=x; exact ⟨z,its,n,r,k _ _ (.inl rfl) e⟩
 | tup xs=>obtain ⟨z,its,r,ob,e,c⟩:=x; exact ⟨z,its,r,ob,k _ _ (.inl rfl) e,c⟩
 | dK kvs=>obtain ⟨z,y,vs,r,ob,es,ep,e,c⟩:=x; exact ⟨z,y,vs,r,ob,es,ep,k _ _ (.inl rfl) e,c⟩
 | dT kvs=>
   obtain ⟨z,y,xs,r,ob,es,ep,e,c⟩:=x;exact ⟨z,y,xs,Paired.mapP r λp q z=>⟨z.1,ht _ _ z.2.1,z.2.2⟩,ob,es,ep,k _ _ (.inl rfl) e,c⟩
 | set S n=>obtain ⟨ob,es,ep,t,e,c⟩:=x; exact ⟨ob,es,ep,t,k _ _ (.inl rfl) e,c⟩
 | ins C dx fs=>
   obtain ⟨d,z,ne,e,mA,⟨od,es,ep,e2,c⟩,r⟩:=x;exact ⟨ho _ d,z,ne,k _ _ (.inl rfl) e,mA,⟨od,es,ep,k _ _ (.inr d) e2,c⟩,r⟩
 | own y=>obtain ⟨ob,e⟩:=x; exact ⟨ob,k _ _ (.inl rfl) e⟩
 | xd fs=>obtain ⟨mA,⟨od,es,ep,e,c⟩,r⟩:=x; exact ⟨mA,⟨od,es,ep,k _ _ (.inl rfl) e,c⟩,r⟩
 | rng lo hi=>obtain ⟨t,u,v,e⟩:=x; exact ⟨t,u,v,k _ _ (.inl rfl) e⟩
 | frz ob u ih=>obtain ⟨e,q⟩:=x; exact ⟨k _ _ (.inl rfl) e,ih q⟩
 | tbl ps=>
   have e:h.get? a=some { cls:=.none,data:=.fields ps }:=x
   show h'.get? a=some { cls:=.none,data:=.fields ps }
   exact k a _ (.inl rfl) e
 | met f y=>
   have e:h.get? a=some (W.methodObj (.ref f) (.ref y)):=x
   show h'.get? a=some (W.methodObj (.ref f) (.ref y))
   exact k a _ (.inl rfl) e
 | ext φ=>obtain ⟨p,⟨o,e⟩,st⟩:=x; exact ⟨st _ _ p λo q=>k _ _ (.inl rfl) q,⟨o,k _ _ (.inl rfl) e⟩,st⟩
def HOk.lt (x:HOk P w H h) (e:H a=some o):a<h.objs.size:=(x a o e).lt
def HOk.fresh (x:HOk P w H h) (e:h.objs.size<=a):H a=none:=by
 cases q:H a with
 | none=>rfl
 | some u=>exact absurd (Bc (x.lt q) e) (Eb _)
def HOk.kept (x:HOk P w H h) (k:∀ b u,h.get? b=some u->h'.get? b=some u):HOk P w H h':=λa o e=>
 (x a o e).stay (λb u _ q=>k b u q) (λ_ q=>q) λ_ _ q=>q
def HOk.laid (x:HOk P w H h) (k:∀ b u,h.get? b=some u->h'.get? b=some u) (hp:h.objs.size<=a) (new:ObjOk P w (upd H a o) h' a o):HOk P w (upd H a o) h':=λb u e=>by
 have hn:=x.fresh hp
 by_cases hb:b=a
 . subst hb; rw [aD] at e; cases e; exact new
 . rw [aH hb] at e;exact (x b u e).stay (λc v _ q=>k c v q) (λc q=>by rw [aH (bF q hn)]; exact q) λc xs q=>by rw [aH (bF q hn)]; exact q
end
def Rd (H:Hp) (a:Addr) (u:HO):Prop:=H a=some u\/∃ o,H a=some (.frz o u)
def Rd.of {H:Hp} {a:Addr} {u:HO} (h:H a=some u):Rd H a u:=.inl h
def Rd.ok {P:Program} {w:World} {H:Hp} {h:Heap} {a:Addr} {u:HO} (r:Rd H a u) (x:HOk P w H h):ObjOk P w H h a u:=by
 rcases r with r | ⟨o,r⟩
 . exact x a u r
 . obtain ⟨_,q⟩:=x a _ r;exact q
def Mut:Option HO->Prop
 | some (.lst _)=>True
 | some (.dK _)=>True
 | some (.dT _)=>True
 | some (.set _ _)=>True
 | some (.ins _ _ _)=>True
 | some (.ext _)=>True
 | _=>False
section
variable {P:Program} {w:World} {H:Hp} {h h':Heap} {x e:Addr} {o':HO}
def HOk.write (ok:HOk P w H h) (mu:Mut (H x)) (he:e=x\/H e=some (.own x)) (k:∀ b u,b≠e->h.get? b=some u->h'.get? b=some u) (heo:∃ u,h'.get? e=some u)
   (new:ObjOk P w (upd H x o') h' x o'):HOk P w (upd H x o') h':=λb u q=>by
 have nown:∀ c y,H c=some (.own y)->c≠x:=λc y r z=>by subst z; rw [r] at mu; exact mu
 have ntup:∀ c xs,H c=some (.tup xs)->c≠x:=λc xs r z=>by subst z; rw [r] at mu; exact mu
 by_cases hb:b=x
 . subst hb; rw [aD] at q; cases q; exact new
 . rw [aH hb] at q;by_cases hbe:b=e
   . have q':H b=some (.own x):=by
       rcases he with z | z
       . exact absurd (hbe.trans z) hb
       . rw [hbe]; exact z
     rw [q] at q'; cases q';obtain ⟨v,hv⟩:=heo;exact ⟨v,by rw [hbe]; exact hv⟩
   . refine (ok b u q).stay (λc v hc r=>k c v ?_ r) (λc r=>by rw [aH (nown c b r)]; exact r) λc xs r=>by rw [aH (ntup c xs r)]; exact r
     rcases hc with rfl | hc
     . exact hbe
     . rintro rfl;rcases he with z | z
       . exact nown c b hc z
       . rw [hc] at z; cases z; exact hb rfl
end
structure Un (fs ex:List Addr) (H H':Hp) (h h':Heap):Prop where
 keep:∀ b o,h.get? b=some o->H b=none->b ∉ fs->b ∉ ex->h'.get? b=some o
 slot:∀ b o,h.get? b=some o->H b=none->b ∈ fs->b ∉ ex->∃ sl,h'.get? b=some { o with slots:=sl }
 free:∀ b o,h.get? b=some o->H b=none->b ∉ ex->H' b=none
 there:∀ b o,h.get? b=some o->b ∉ ex->∃ o',h'.get? b=some o'
 tups:∀ b xs,H b=some (.tup xs)->H' b=some (.tup xs)
 frzs:∀ b o u,H b=some (.frz o u)->H' b=some (.frz o u)
 tbls:∀ b ps,H b=some (.tbl ps)->∃ more,H' b=some (.tbl (ps++more))
section
variable {fs fs' ex ex':List Addr} {H H1 H2:Hp} {h h1 h2 h':Heap} {a x e:Addr} {o:HO}
def Un.any (u:Un fs ex H H1 h h1) {b:Addr} {ob:Obj} (q:h.get? b=some ob) (n:H b=none) (hx:b ∉ ex):∃ sl,h1.get? b=some { ob with slots:=sl }:=by
 by_cases hb:b∈fs
 . exact u.slot b ob q n hb hx
 . exact ⟨ob.slots,u.keep b ob q n hb hx⟩
def Un.trans (a:Un fs ex H H1 h h1) (b:Un fs ex H1 H2 h1 h2):Un fs ex H H2 h h2 where
 keep:=λc ob q n hc hx=>b.keep c ob (a.keep c ob q n hc hx) (a.free c ob q n hx) hc hx
 slot:=λc ob q n hc hx=>by
   obtain ⟨sl,e1⟩:=a.slot c ob q n hc hx;obtain ⟨sl',e2⟩:=b.slot c _ e1 (a.free c ob q n hx) hc hx;exact ⟨sl',e2⟩
 free:=λc ob q n hx=>by
   obtain ⟨o',e1⟩:=a.there c ob q hx;exact b.free c o' e1 (a.free c ob q n hx) hx
 there:=λc ob q hx=>by
   obtain ⟨o',e1⟩:=a.there c ob q hx;exact b.there c o' e1 hx
 tups:=λc xs q=>b.tups c xs (a.tups c xs q)
 frzs:=λc ob xs q=>b.frzs c ob xs (a.frzs c ob xs q)
 tbls:=λc ps q=>by
   obtain ⟨m1,e1⟩:=a.tbls c ps q;obtain ⟨m2,e2⟩:=b.tbls c _ e1;exact ⟨m1++m2,by rw [e2,Array.append_assoc]⟩
def Un.kept (k:∀ b u,h.get? b=some u->h'.get? b=some u):Un fs ex H H h h' :=
 ⟨λb ob q _ _ _=>k b ob q,λb ob q _ _ _=>⟨ob.slots,k b ob q⟩,λ_ _ _ n _=>n,λb ob q _=>⟨ob,k b ob q⟩,λ_ _ q=>q,λ_ _ _ q=>q,λ_ ps q=>⟨#[],by rw [q]; simp⟩⟩
def Un.refl:Un fs ex H H h h:=Un.kept λ_ _ q=>q
def Un.laid (k:∀ b u,h.get? b=some u->h'.get? b=some u) (hp:h.objs.size<=a) (hn:H a=none):Un fs ex H (upd H a o) h h' where
 keep:=λb u q _ _ _=>k b u q
 slot:=λb u q _ _ _=>⟨u.slots,k b u q⟩
 free:=λb u q n _=>by rw [aH (Bo (Bc (Av q) hp))]; exact n
 there:=λb u q _=>⟨u,k b u q⟩
 tups:=λb xs q=>by rw [aH (bF q hn)]; exact q
 frzs:=λb u xs q=>by rw [aH (bF q hn)]; exact q
 tbls:=λb ps q=>⟨#[],by rw [aH (bF q hn),q]; simp⟩
def Un.write (mu:Mut (H x)) (he:e=x\/H e=some (.own x)) (k:∀ b u,b≠e->h.get? b=some u->h'.get? b=some u) (heo:∃ u,h'.get? e=some u):Un fs ex H (upd H x o) h h':=by
 have hx:∀ b,H b=none->b≠x:=λb n z=>by subst z; rw [n] at mu; exact mu
 have hb:∀ b,H b=none->b≠e:=λb n z=>by
   subst z;rcases he with r | r
   . exact hx b n r
   . rw [n] at r; cases r
 have hm:∀ b u,H b=some u->¬ Mut (some u)->b≠x:=λb u q nm z=>by subst z; rw [q] at mu; exact nm mu
 refine ⟨λb u q n _ _=>k b u (hb b n) q,λb u q n _ _=>⟨u.slots,k b u (hb b n) q⟩,λb u q n _=>by rw [aH (hx b n)]; exact n,λb u q _=>?_,
   λb xs q=>by rw [aH (hm b _ q λz=>z)]; exact q,λb u xs q=>by rw [aH (hm b _ q λz=>z)]; exact q,λb ps q=>⟨#[],by rw [aH (hm b _ q λz=>z),q]; simp⟩⟩
 by_cases hbe:b=e
 . subst hbe; exact heo
 . exact ⟨u,k b u hbe q⟩
def Un.mono (u:Un fs ex H H1 h h1) (hs:∀ b∈fs,b∈fs') (hx:∀ b∈ex,b∈ex'):Un fs' ex' H H1 h h1 :=
 ⟨λb ob q n hb he=>u.keep b ob q n (λz=>hb (hs b z)) λz=>he (hx b z),λ_ _ q n _ he=>u.any q n λz=>he (hx _ z),λb ob q n he=>u.free b ob q n λz=>he (hx b z),λb ob q he=>u.there b ob q λz=>he (hx b z),u.tups,u.frzs,u.tbls⟩
end
def trk (h:Heap) (H:Hp):List Addr:=(List.range h.objs.size).filter λa=>(H a).isSome
def tO (h:Heap) (H:Hp):Heap:=W.hideAll h (trk h H)
def bXP (h:Heap) (H:Hp):(tO h H).objs.size=h.objs.size:=W.hideAll_size _ _
def bXY {h:Heap} {H:Hp} {b:Addr} {o:Obj} (e:h.get? b=some o) (n:H b=none):(tO h H).get? b=some o :=
 W.hideAll_get _ e λhm=>by
   have q:(H b).isSome=true:=(Dx.mp hm).2
   rw [n] at q; simp at q
def dQF {h:Heap} {H:Hp} {b:Addr} {o:Obj} (e:(tO h H).get? b=some o):h.get? b=some o/\H b=none:=by
 have e':h.get? b=some o:=Gp (trk h H) e
 refine ⟨e',?_⟩;cases q:H b with
 | none=>rfl
 | some x=>
   have hm:b∈trk h H:=List.mem_filter.mpr ⟨List.mem_range.mpr (Heap.lt_size e'),by simp [q]⟩
   have z:(tO h H).get? b=none:=W.hideAll_none (trk h H) hm
   rw [z] at e; cases e
def cZ0 (g h:Heap) (L:Addr):List (Addr×Obj):=(List.range h.objs.size).filterMap λa=>if a=L\/(g.get? a).isSome=true then none else (h.get? a).map λo=>(a,o)
def rest (g h:Heap) (L d:Addr):List (Addr×Obj):=(cZ0 g h L).filter λp=>decide (p.1≠d)
structure Mod (K:W.Frag) (mg:Str->Option Value) (base:Heap):Prop where
 kin:K.In base
 glob:base.Ns mainGlobals mg
 blt:∃ mb,base.Ns builtinsNs mb/\∀ x:Str,x≠"__name__"->mb x=bootBuiltins x
 nolimit:base.NoLimit
structure Cx where
 prog:Program
 w:World
 K:W.Frag
 mg:Str->Option Value
 base:Heap
 A:Around
 N:List Str
 s₀:Shared
 H₀:Hp
 env:Env
 outer:List Env
 stack:List Env
 ex:List Addr
 fn:Str->Bool
 calm:Bool
 pn:List (Addr×Obj)
 xe:Value->Shared->Prop
def frs (l:List Env):List Addr:=l.filterMap (·.frame)
abbrev Cx.fs (X:Cx):List Addr:=frs X.outer
def Vis (sc:Scope) (x:Str):Prop:=sc.names.lookup x=some .local\/sc.names.lookup x=some .cell\/sc.names.lookup x=some .free
def Loc (sc:Scope) (x:Str):Prop:=sc.names.lookup x=some .local\/sc.names.lookup x=some .cell
def eJR (env:Env) (h:Heap) (m:Str->Option Value) (x:Str) (u:Value):Prop :=
 (env.kindOf x=some .local/\m x=some u)\/((env.kindOf x=some .cell\/env.kindOf x=some .free)/\∃ c,env.cells.lookup x=some c/\h.IsCell c (some u))
structure Cx.Ok (X:Cx):Prop where
 mod:Mod X.K X.mg X.base
 kind:X.env.scope.kind=.function
 glob:X.env.globals=mainGlobals
 blt:X.env.builtins=builtinsNs
 above:X.s₀.heap.objs.size<=X.env.locals
 inj:∀ x y c,X.env.cells.lookup x=some c->X.env.cells.lookup y=some c->x=y
 has:∀ x,(X.env.kindOf x=some .cell\/X.env.kindOf x=some .free)->∃ c,X.env.cells.lookup x=some c
 cab:∀ x c,X.fn x=true->X.env.cells.lookup x=some c->X.s₀.heap.objs.size<=c
 hd:X.calm=true->X.A.handled=none
 frames:X.A.frames=some X.stack
 stk:X.stack=X.outer\/(X.stack=X.env::X.outer/\X.env.frame=some X.env.locals)
 exf:∀ b∈X.ex,b≠X.env.locals/\∀ x c,X.env.cells.lookup x=some c->c≠b
 bs:∀ b o,X.base.get? b=some o->X.s₀.heap.get? b=some o/\X.H₀ b=none
 bsz:X.base.objs.size<=X.s₀.heap.objs.size
 noex:∀ b o,X.base.get? b=some o->b ∉ X.ex
 exfs:∀ b ∈ X.ex,b ∉ X.fs
 funs:X.s₀.heap.FunFrames X.base X.outer
 frf:∀ b∈X.fs,X.H₀ b=none
structure Inv (X:Cx) (pins:List (Addr×Obj)) (σ:List (Option V)) (H:Hp) (s:Shared):Prop where
 ok:X.Ok
 os:s.os=X.s₀.os
 bare:AllBare s.gens
 base:Un X.fs X.ex X.H₀ H X.s₀.heap s.heap
 loc:∃ m,s.heap.Ns X.env.locals m/\∀ (i:Nat) (x:Str) (v:V),X.N[i]?=some x->σ[i]?=some (some v)->Vis X.env.scope x->∃ u,RelV v u/\eJR X.env s.heap m x u
 cell:∀ x c,X.env.cells.lookup x=some c->∃ v,s.heap.IsCell c v
 free:H X.env.locals=none
 freeC:∀ x c,X.env.cells.lookup x=some c->H c=none
 pin:∀ p ∈ X.pn++pins,s.heap.get? p.1=some p.2/\H p.1=none/\p.1≠X.env.locals/\p.1 ∉ X.fs/\∀ v,p.2.data≠.cell v
 hok:HOk X.prog X.w H s.heap
 len:σ.length=X.N.length
section
variable {X:Cx} {pins:Q2} {σ:List (Option V)} {H H':Hp} {s:Shared} {h':Heap}
def Cx.Ok.nofr (ok:X.Ok) {b:Addr} {o:Obj} (e:X.base.get? b=some o):b ∉ X.fs:=λhb=>by
 have:=(ok.funs.mem hb).1
 rw [e] at this; cases this
def Inv.bs (I:Inv X pins σ H s):∀ b o,X.base.get? b=some o->s.heap.get? b=some o/\H b=none:=λb o e=>
 ⟨I.base.keep b o (I.ok.bs b o e).1 (I.ok.bs b o e).2 (I.ok.nofr e) (I.ok.noex b o e),I.base.free b o (I.ok.bs b o e).1 (I.ok.bs b o e).2 (I.ok.noex b o e)⟩
def Inv.bk (I:Inv X pins σ H s):∀ b o,X.base.get? b=some o->s.heap.get? b=some o:=λb o e=>(I.bs b o e).1
def Inv.mod (I:Inv X pins σ H s):Mod X.K X.mg X.base:=I.ok.mod
def Inv.kIn (I:Inv X pins σ H s):X.K.In s.heap:=I.ok.mod.kin.keeps I.bk
def Inv.nolimit (I:Inv X pins σ H s):s.heap.NoLimit:=I.ok.mod.nolimit.keeps I.bk
def Inv.fr (I:Inv X pins σ H s):∃ m,Fr X.base X.env.locals s.heap m :=
 let ⟨m,hn,_⟩:=I.loc
 ⟨m,hn,I.bk,Bg I.ok.bsz I.ok.above⟩
def Inv.lt (I:Inv X pins σ H s):X.env.locals<s.heap.objs.size:=let ⟨_,hn,_⟩:=I.loc; hn.lt
def Inv.sz (I:Inv X pins σ H s):X.s₀.heap.objs.size<=s.heap.objs.size:=Bg I.ok.above (Nat.le_of_lt I.lt)
def Inv.nofs (I:Inv X pins σ H s) {a:Addr} (h:s.heap.objs.size<=a):a ∉ X.fs:=λhb=>by
 obtain ⟨_,o,ho,_⟩:=I.ok.funs.mem hb;exact absurd (Bc (Av ho) (Bg I.sz h)) (Eb _)
def Inv.cne (I:Inv X pins σ H s):∀ x c,X.env.cells.lookup x=some c->c≠X.env.locals:=λx c e z=>by
 obtain ⟨v,o,ho,hd⟩:=I.cell x c e;obtain ⟨m,⟨o',es,ep,ho',hd',_⟩,_⟩:=I.loc;rw [z,ho'] at ho; cases ho; rw [hd'] at hd; cases hd
def Inv.funs (I:Inv X pins σ H s):s.heap.FunFrames X.base X.outer:=by
 have all:∀ (l:List Env),(∀ b∈frs l,b∈X.fs)->X.s₀.heap.FunFrames X.base l->s.heap.FunFrames X.base l:=by
   intro l;induction l with
   | nil=>intro _ _; trivial
   | cons env r ih=>
     intro hs hl;obtain ⟨hk,⟨L,o,hf,hn,ho,hd⟩,hr⟩:=hl;have hL:L∈X.fs:=hs L (by unfold frs; rw [Eg,hf]; exact Am)
     obtain ⟨sl,e⟩:=I.base.slot L o ho (I.ok.frf L hL) hL λz=>I.ok.exfs L z hL;exact ⟨hk,⟨L,_,hf,hn,e,hd⟩,ih (λb hb=>hs b (by unfold frs; rw [Eg,hf]; exact Ak _ hb)) hr⟩
 exact all X.outer (λ_ hb=>hb) I.ok.funs
def Inv.stack (I:Inv X pins σ H s):s.heap.FunFrames X.base X.stack:=by
 rcases I.ok.stk with e | ⟨e,hf⟩
 . rw [e]; exact I.funs
 . rw [e];obtain ⟨m,hn,_⟩:=I.loc;refine .cons (by rw [I.ok.kind]; decide) hf hn ?_ I.funs
   exact Ga (Bg I.ok.bsz I.ok.above)
def Inv.stkSub (I:Inv X pins σ H s):∀ b∈frs X.stack,b∈X.env.locals::X.fs:=λb hb=>by
 rcases I.ok.stk with e | ⟨e,hf⟩
 . rw [e] at hb; exact Ak _ hb
 . rw [e] at hb;unfold frs at hb;rw [Eg,hf] at hb;exact hb
def Inv.stkFree (I:Inv X pins σ H s):∀ b∈frs X.stack,H b=none:=λb hb=>by
 rcases Ay.mp (I.stkSub b hb) with e | hb
 . rw [e]; exact I.free
 . obtain ⟨_,o,ho,_⟩:=I.ok.funs.mem hb;exact I.base.free b o ho (I.ok.frf b hb) λz=>I.ok.exfs b z hb
def Inv.step {g':Array GenState} {t':Nat} {d':Drawn} {ch:List Addr} (I:Inv X pins σ H s)
   (hch:∀ b∈ch,(b∈X.ex\/X.s₀.heap.objs.size<=b)/\b≠X.env.locals/\(∀ x c,X.env.cells.lookup x=some c->c≠b)/\∀ p∈X.pn++pins,p.1≠b)
   (keep:∀ b o,b≠X.env.locals->b ∉ X.fs->b ∉ ch->s.heap.get? b=some o->H b=none->h'.get? b=some o)
   (slot:∀ b o,b≠X.env.locals->b ∈ X.fs->b ∉ ch->s.heap.get? b=some o->H b=none->∃ sl,h'.get? b=some { o with slots:=sl }) (free:∀ b o,b ∉ ch->s.heap.get? b=some o->H b=none->H' b=none)
   (there:∀ b o,b ∉ ch->s.heap.get? b=some o->∃ o',h'.get? b=some o')
   (tups:∀ b xs,H b=some (.tup xs)->H' b=some (.tup xs)) (frzs:∀ b o u,H b=some (.frz o u)->H' b=some (.frz o u)) (tbls:∀ b ps,H b=some (.tbl ps)->∃ more,H' b=some (.tbl (ps++more)))
   (ns:∀ m,s.heap.Ns X.env.locals m->h'.Ns X.env.locals m) (hok:HOk X.prog X.w H' h') (hg:AllBare g') :
   Inv X pins σ H' { s with heap:=h',gens:=g',drawn:=d',toks:=t' }:=by
 have neL:∀ b o,X.s₀.heap.get? b=some o->b≠X.env.locals:=λb o e=>Bo (Bc (Av e) I.ok.above)
 have neC:∀ b o,X.s₀.heap.get? b=some o->b ∉ X.ex->b ∉ ch:=λb o e hx hb=>by
   rcases (hch b hb).1 with z | z
   . exact hx z
   . exact absurd (Bc (Av e) z) (Eb _)
 have cellK:∀ x c,X.env.cells.lookup x=some c->∀ v,s.heap.IsCell c v->h'.IsCell c v:=λx c e v ⟨o,ho,hd⟩=>by
   have nch:c ∉ ch:=λz=>(hch c z).2.2.1 x c e rfl
   by_cases hc:c∈X.fs
   . obtain ⟨sl,q⟩:=slot c o (I.cne x c e) hc nch ho (I.freeC x c e);exact ⟨_,q,hd⟩
   . exact ⟨o,keep c o (I.cne x c e) hc nch ho (I.freeC x c e),hd⟩
 refine ⟨I.ok,I.os,hg,⟨λb o e n hb hx=>?_,λb o e n hb hx=>?_,λb o e n hx=>?_,λb o e hx=>?_,λb xs e=>tups b xs (I.base.tups b xs e),λb o xs e=>frzs b o xs (I.base.frzs b o xs e),λb ps e=>?_⟩,?_,λx c e=>?_,?_,λx c e=>?_,λp hp=>?_,hok,I.len⟩
 . exact keep b o (neL b o e) hb (neC b o e hx) (I.base.keep b o e n hb hx) (I.base.free b o e n hx)
 . obtain ⟨sl,e1⟩:=I.base.slot b o e n hb hx;obtain ⟨sl',e2⟩:=slot b _ (neL b o e) hb (neC b o e hx) e1 (I.base.free b o e n hx);exact ⟨sl',e2⟩
 . obtain ⟨o',e1⟩:=I.base.there b o e hx;exact free b o' (neC b o e hx) e1 (I.base.free b o e n hx)
 . obtain ⟨o',e1⟩:=I.base.there b o e hx;exact there b o' (neC b o e hx) e1
 . obtain ⟨m1,e1⟩:=I.base.tbls b ps e;obtain ⟨m2,e2⟩:=tbls b _ e1;exact ⟨m1++m2,by rw [e2,Array.append_assoc]⟩
 . obtain ⟨m,hn,hl⟩:=I.loc;refine ⟨m,ns m hn,λi x v e1 e2 e3=>?_⟩;obtain ⟨u,r,l⟩:=hl i x v e1 e2 e3;refine ⟨u,r,?_⟩;rcases l with l | ⟨k,c,e,z⟩
   . exact .inl l
   . exact .inr ⟨k,c,e,cellK x c e _ z⟩
 . obtain ⟨v,z⟩:=I.cell x c e;exact ⟨v,cellK x c e v z⟩
 . obtain ⟨m,⟨o,_,_,ho,_⟩,_⟩:=I.loc;exact free _ o (λz=>(hch _ z).2.1 rfl) ho I.free
 . obtain ⟨v,o,ho,hd⟩:=I.cell x c e;exact free c o (λz=>(hch c z).2.2.1 x c e rfl) ho (I.freeC x c e)
 . obtain ⟨e,n,ne,nf,d⟩:=I.pin p hp;have nch:p.1 ∉ ch:=λz=>(hch p.1 z).2.2.2 p hp rfl
   exact ⟨keep p.1 p.2 ne nf nch e n,free p.1 p.2 nch e n,ne,nf,d⟩
def Inv.un {t':Nat} (I:Inv X pins σ H s) (u:Un X.fs [] H H' s.heap h') (hok:HOk X.prog X.w H' h'):Inv X pins σ H' { s with heap:=h',toks:=t' }:=by
 obtain ⟨m,⟨o,es,ep,ho,r⟩,_⟩:=id I.loc;obtain ⟨sl,hL⟩:=u.any ho I.free (by simp)
 exact I.step (g':=s.gens) (d':=s.drawn) (ch:=[]) (λ_ z=>nomatch z) (λb o _ hb _ e n=>u.keep b o e n hb (by simp)) (λb o _ hb _ e n=>u.slot b o e n hb (by simp)) (λb o _ e n=>u.free b o e n (by simp)) (λb o _ e=>u.there b o e (by simp)) u.tups u.frzs u.tbls (λm' hm=>by
   obtain ⟨o',es',ep',ho',r'⟩:=hm;rw [ho] at ho'; cases ho';exact ⟨_,es',ep',hL,r'⟩) hok I.bare
def Inv.call {g':Array GenState} {t':Nat} {d':Drawn} {ch:List Addr} (I:Inv X pins σ H s) (u:Un (frs X.stack) ch H H' s.heap h') (hok:HOk X.prog X.w H' h') (hg:AllBare g')
   (hch:∀ b∈ch,(b∈X.ex\/X.s₀.heap.objs.size<=b)/\b≠X.env.locals/\(∀ x c,X.env.cells.lookup x=some c->c≠b)/\∀ p∈X.pn++pins,p.1≠b) :
   Inv X pins σ H' { s with heap:=h',gens:=g',drawn:=d',toks:=t' }:=by
 obtain ⟨m,⟨o,es,ep,ho,r⟩,_⟩:=id I.loc;obtain ⟨sl,hL⟩:=u.any ho I.free λz=>(hch _ z).2.1 rfl;exact I.step (ch:=ch) hch (λb o hL hb hc e n=>u.keep b o e n (λz=>(Ay.mp (I.stkSub b z)).elim hL hb) hc) (λb o _ _ hc e n=>u.any e n hc) (λb o hc e n=>u.free b o e n hc) (λb o hc e=>u.there b o e hc) u.tups u.frzs u.tbls (λm' hm=>by
   obtain ⟨o',es',ep',ho',r'⟩:=hm;rw [ho] at ho'; cases ho';exact ⟨_,es',ep',hL,r'⟩) hok hg
def Inv.turned {t':Nat} {it:Addr} (I:Inv X pins σ H s) (k:∀ b o,b≠it->s.heap.get? b=some o->h'.get? b=some o) (hn:H it=none) (hL:it≠X.env.locals)
   (h1:it∈X.ex\/X.s₀.heap.objs.size<=it) (h2:∀ x c,X.env.cells.lookup x=some c->c≠it) (h3:∀ p∈X.pn++pins,p.1≠it):Inv X pins σ H { s with heap:=h',toks:=t' }:=by
 have nit:∀ b u,H b=some u->b≠it:=λb u e z=>by rw [z,hn] at e; cases e
 refine I.step (g':=s.gens) (d':=s.drawn) (ch:=[it]) (λb hb=>?_) (λb o _ _ hc e _=>k b o (λz=>hc (by simp [z])) e) (λb o _ _ hc e _=>⟨o.slots,k b o (λz=>hc (by simp [z])) e⟩) (λ_ _ _ _ n=>n)
   (λb o hc e=>⟨o,k b o (λz=>hc (by simp [z])) e⟩) (λ_ _ e=>e) (λ_ _ _ e=>e) (λb ps e=>⟨#[],by rw [e]; simp⟩) (λm hm=>?_) (λb u e=>?_) I.bare
 . have e:b=it:=by simpa using hb
   subst e;exact ⟨h1,hL,h2,h3⟩
 . obtain ⟨o,es,ep,ho,r⟩:=hm;exact ⟨o,es,ep,k _ o (Ne.symm hL) ho,r⟩
 . refine (I.hok b u e).stay (λc v hc q=>k c v ?_ q) (λ_ q=>q) λ_ _ q=>q;rcases hc with z | z
   . rw [z]; exact nit b u e
   . exact nit c _ z
def Inv.tok (I:Inv X pins σ H s) (t:Nat):Inv X pins σ H { s with toks:=t }:=I.un (h':=s.heap) (t':=t) Un.refl I.hok
def Inv.kept {t':Nat} (I:Inv X pins σ H s) (k:∀ b u,s.heap.get? b=some u->h'.get? b=some u):Inv X pins σ H { s with heap:=h',toks:=t' }:=I.un (Un.kept k) (I.hok.kept k)
def Inv.laid {a:Addr} {o:HO} {t':Nat} (I:Inv X pins σ H s) (k:∀ b u,s.heap.get? b=some u->h'.get? b=some u) (hp:s.heap.objs.size<=a) (new:ObjOk X.prog X.w (upd H a o) h' a o) :
   Inv X pins σ (upd H a o) { s with heap:=h',toks:=t' }:=I.un (Un.laid k hp (I.hok.fresh hp)) (I.hok.laid k hp new)
def Inv.write {x e:Addr} {o:HO} {t':Nat} (I:Inv X pins σ H s) (mu:Mut (H x)) (he:e=x\/H e=some (.own x)) (k:∀ b u,b≠e->s.heap.get? b=some u->h'.get? b=some u) (heo:∃ u,h'.get? e=some u)
   (new:ObjOk X.prog X.w (upd H x o) h' x o):Inv X pins σ (upd H x o) { s with heap:=h',toks:=t' }:=I.un (Un.write mu he k heo) (I.hok.write mu he k heo new)
def Inv.weak {σ':List (Option V)} (I:Inv X pins σ H s) (hl:σ'.length=σ.length) (w:∀ (i:Nat) v,σ'[i]?=some (some v)->σ[i]?=some (some v)):Inv X pins σ' H s :=
 ⟨I.ok,I.os,I.bare,I.base,let ⟨m,hn,hl'⟩:=I.loc; ⟨m,hn,λi x v e1 e2 e3=>hl' i x v e1 (w i v e2) e3⟩,I.cell,I.free,I.freeC,I.pin,I.hok,hl.trans I.len⟩
def Inv.pins_of {pins':Q2} (I:Inv X pins σ H s) (h:∀ p ∈ pins',s.heap.get? p.1=some p.2/\H p.1=none/\p.1≠X.env.locals/\p.1 ∉ X.fs/\∀ v,p.2.data≠.cell v):Inv X pins' σ H s :=
 ⟨I.ok,I.os,I.bare,I.base,I.loc,I.cell,I.free,I.freeC,λp hp=>(Bl.mp hp).elim (λz=>I.pin p (Cm _ z)) (h p),I.hok,I.len⟩
def rK {N:List Str} (hN:N.Nodup) {i j:Nat} {x:Str} (a:N[i]?=some x) (b:N[j]?=some x):i=j:=by
 obtain ⟨h1,e1⟩:=Ad.mp a;obtain ⟨h2,e2⟩:=Ad.mp b;exact (Gf hN).mp (e1.trans e2.symm)
def vD {M:Model} {A:Around} {E:Q0} {i:Nat} {x:Str} {v:V} {u:Value} {Q:Unit->Shared->Prop} (I:Inv X pins σ H s) (hN:X.N.Nodup) (hi:X.N[i]?=some x) (hx:Loc X.env.scope x) (r:RelV v u)
   (h:∀ s',Inv X pins (σ.set i (some v)) H s'->(∃ a,Heap.SameBut a s.heap s'.heap/\(a=X.env.locals\/X.env.cells.lookup x=some a))->Q () s') (hf:X.fn x=true\/X.env.scope.names.lookup x=some .local:=by first | exact .inl rfl | exact .inr rfl | assumption):wpAny M A (storeName X.env x u) Q E s:=by
 obtain ⟨m,hn,hl⟩:=id I.loc;have hcls:(X.env.scope.kind == .class || (X.env.scope.kind == .module && X.env.locals != X.env.globals))=false:=by rw [I.ok.kind]; rfl
 have hiσ:i<σ.length:=by rw [I.len]; exact (Ad.mp hi).1
 have cne:=I.cne
 have tracked:∀ {a:Addr} {h':Heap},(∃ o,s.heap.get? a=some o/\H a=none)->Heap.SameBut a s.heap h'->HOk X.prog X.w H h':=fun {a h'} ha hs b ob e=>by
   obtain ⟨_,_,hfree⟩:=ha;refine (I.hok b ob e).stay (λc w' hc q=>(hs.2 c ?_).trans q) (λ_ q=>q) λ_ _ q=>q;rintro rfl;rcases hc with rfl | hc
   . rw [hfree] at e; cases e
   . rw [hfree] at hc; cases hc
 rcases hx with hk | hk
 . refine wpAny_storeName_local hk hn (λh' hn' hs=>?_) hcls;obtain ⟨oL,_,_,hoL,_⟩:=id hn;refine h _ ⟨I.ok,I.os,I.bare,⟨λb o e n hb hx=>?_,λb o e n hb hx=>?_,I.base.free,λb o e hx=>?_,I.base.tups,I.base.frzs,I.base.tbls⟩,⟨_,hn',λj y v' e1 e2 e3=>?_⟩,λy c e=>?_,I.free,I.freeC,λp hp=>?_,tracked ⟨oL,hoL,I.free⟩ hs,by simpa using I.len⟩ ⟨_,hs,.inl rfl⟩
   . exact (hs.2 b (Bo (Bc (Av e) I.ok.above))).trans (I.base.keep b o e n hb hx)
   . obtain ⟨sl,e1⟩:=I.base.slot b o e n hb hx;exact ⟨sl,(hs.2 b (Bo (Bc (Av e) I.ok.above))).trans e1⟩
   . obtain ⟨o',e1⟩:=I.base.there b o e hx;exact ⟨o',(hs.2 b (Bo (Bc (Av e) I.ok.above))).trans e1⟩
   . by_cases hj:j=i
     . subst hj;rw [hi] at e1; cases e1;rw [Df hiσ] at e2;cases e2;exact ⟨u,r,.inl ⟨hk,by simp⟩⟩
     . rw [Da (Ne.symm hj)] at e2;obtain ⟨u',r',q⟩:=hl j y v' e1 e2 e3;refine ⟨u',r',?_⟩;rcases q with ⟨k,e⟩ | ⟨k,c,e,z⟩
       . refine .inl ⟨k,?_⟩;have:y≠x:=λe=>hj (rK hN e1 (e ▸ hi))
         simp [this,e]
       . exact .inr ⟨k,c,e,z.sameBut hs (cne y c e)⟩
   . obtain ⟨w',z⟩:=I.cell y c e;exact ⟨w',z.sameBut hs (cne y c e)⟩
   . obtain ⟨e,n,ne,nf,d⟩:=I.pin p hp;exact ⟨(hs.2 p.1 ne).trans e,n,ne,nf,d⟩
 . have hfn:X.fn x=true:=by
     rcases hf with z | z
     . exact z
     . rw [z] at hk; cases hk
   obtain ⟨c,hc⟩:=I.ok.has x (.inl hk);obtain ⟨w',z⟩:=I.cell x c hc;refine wpAny_storeName_cell I.ok.kind hk hc z (λh' hc' hs=>?_);obtain ⟨oc,hoc,hocd⟩:=id z;refine h { s with heap:=h' } ⟨I.ok,I.os,I.bare,⟨λb o e n hb hx=>?_,λb o e n hb hx=>?_,I.base.free,λb o e hx=>?_,I.base.tups,I.base.frzs,I.base.tbls⟩,⟨m,hn.sameBut hs (Ne.symm (cne x c hc)),λj y v' e1 e2 e3=>?_⟩,λy c' e=>?_,I.free,I.freeC,λp hp=>?_,tracked ⟨oc,hoc,I.freeC x c hc⟩ hs,by simpa using I.len⟩ ⟨c,hs,.inr hc⟩
   . exact (hs.2 b (Bo (Bc (Av e) (I.ok.cab x c hfn hc)))).trans (I.base.keep b o e n hb hx)
   . obtain ⟨sl,e1⟩:=I.base.slot b o e n hb hx;exact ⟨sl,(hs.2 b (Bo (Bc (Av e) (I.ok.cab x c hfn hc)))).trans e1⟩
   . obtain ⟨o',e1⟩:=I.base.there b o e hx;exact ⟨o',(hs.2 b (Bo (Bc (Av e) (I.ok.cab x c hfn hc)))).trans e1⟩
   . by_cases hj:j=i
     . subst hj;rw [hi] at e1; cases e1;rw [Df hiσ] at e2;cases e2;exact ⟨u,r,.inr ⟨.inl hk,c,hc,hc'⟩⟩
     . rw [Da (Ne.symm hj)] at e2;obtain ⟨u',r',q⟩:=hl j y v' e1 e2 e3;refine ⟨u',r',?_⟩;rcases q with q | ⟨k,c',e,z'⟩
       . exact .inl q
       . refine .inr ⟨k,c',e,z'.sameBut hs ?_⟩;rintro rfl;exact hj (rK hN e1 (I.ok.inj _ _ _ e hc ▸ hi))
   . by_cases hcc:c'=c
     . subst hcc; exact ⟨_,hc'⟩
     . obtain ⟨w2,z2⟩:=I.cell y c' e;exact ⟨w2,z2.sameBut hs hcc⟩
   . obtain ⟨e,n,ne,nf,d⟩:=I.pin p hp;refine ⟨(hs.2 p.1 ?_).trans e,n,ne,nf,d⟩;intro q;rw [q,hoc] at e;have q':oc=p.2:=Bh e
     exact d w' (by rw [<-q']; exact hocd)
def rM {M:Model} {A:Around} {E:Q0} {i:Nat} {x:Str} {v:V} {u:Value} {Q:Unit->Shared->Prop} (I:Inv X pins σ H s) (hN:X.N.Nodup) (hi:X.N[i]?=some x) (hx:Loc X.env.scope x) (r:RelV v u)
   (h:∀ s',Inv X pins (σ.set i (some v)) H s'->Q () s') (hf:X.fn x=true\/X.env.scope.names.lookup x=some .local:=by first | exact .inl rfl | exact .inr rfl | assumption):wpAny M A (storeName X.env x u) Q E s :=
 vD I hN hi hx r (λs' I' _=>h s' I') hf
def Inv.call' {s':Shared} {ch:List Addr} (I:Inv X pins σ H s) (ho:s'.os=s.os) (u:Un (frs X.stack) ch H H' s.heap s'.heap) (hok:HOk X.prog X.w H' s'.heap) (hg:AllBare s'.gens)
   (hch:∀ b∈ch,(b∈X.ex\/X.s₀.heap.objs.size<=b)/\b≠X.env.locals/\(∀ x c,X.env.cells.lookup x=some c->c≠b)/\∀ p∈X.pn++pins,p.1≠b):Inv X pins σ H' s':=by
 obtain ⟨h',g',d',t',o'⟩:=s';have e:o'=s.os:=ho
 subst e;exact I.call (g':=g') (t':=t') (d':=d') u hok hg hch
end
abbrev XK:=Value->Option Addr->Hp->Prop
abbrev St:=List (Option V)
abbrev VK:=V->Hp->Prop
abbrev TE:=St->Hp->VK->Prop
abbrev TT:=St->Hp->(Bool->Hp->Prop)->Prop
abbrev TA:=St->Hp->(List V->Hp->Prop)->Prop
structure Ends where
 nx:St->Hp->Prop
 rt:VK
 bk:St->Hp->Prop:=λ_ _=>False
 ct:St->Hp->Prop:=λ_ _=>False
abbrev TS:=Ends->St->Hp->Prop
def EP (X:Cx) (pins:List (Addr×Obj)) (σ:St) (Q:VK) (u:Value) (s':Shared):Prop:=∃ v H',Inv X pins σ H' s'/\RelV v u/\Q v H'
def TP (X:Cx) (pins:List (Addr×Obj)) (σ:St) (Q:Bool->Hp->Prop) (b:Bool) (s':Shared):Prop:=∃ H',Inv X pins σ H' s'/\Q b H'
def AP (X:Cx) (pins:List (Addr×Obj)) (σ:St) (Q:List V->Hp->Prop) (us:List Value) (s':Shared):Prop:=∃ vs H',Inv X pins σ H' s'/\Vals vs us/\Q vs H'
def SP (X:Cx) (pins:List (Addr×Obj)) (D:Ends) (f:Flow) (s':Shared):Prop :=
 match f with
 | .next=>∃ σ' H',Inv X pins σ' H' s'/\D.nx σ' H'
 | .brk=>∃ σ' H',Inv X pins σ' H' s'/\D.bk σ' H'
 | .cont=>∃ σ' H',Inv X pins σ' H' s'/\D.ct σ' H'
 | .ret u=>∃ v σ' H',Inv X pins σ' H' s'/\RelV v u/\D.rt v H'
def PE (X:Cx) (e:Expr) (t:TE):Prop :=
 ∀ (pins:Q2) (s:Shared) (σ:St) (H:Hp) (Q:VK),Inv X pins σ H s->t σ H Q->wpAny (model X.prog X.w) X.A (eval e X.env) (EP X pins σ Q) X.xe s
def PT (X:Cx) (e:Expr) (t:TT):Prop :=
 ∀ (pins:Q2) (s:Shared) (σ:St) (H:Hp) (Q:Bool->Hp->Prop),Inv X pins σ H s->t σ H Q->wpAny (model X.prog X.w) X.A (isTrue e X.env (eval e X.env)) (TP X pins σ Q) X.xe s
def PW (X:Cx) (e:Expr) (t:TT):Prop :=
 ∀ (whole:Sem Value) (pins:Q2) (s:Shared) (σ:St) (H:Hp) (Q:Bool->Hp->Prop),Inv X pins σ H s->t σ H Q->wpAny (model X.prog X.w) X.A (isTrue e X.env whole) (TP X pins σ Q) X.xe s
def PW.pt {X:Cx} {e:Expr} {t:TT} (h:PW X e t):PT X e t:=h _
def PA (X:Cx) (es:List Expr) (t:TA):Prop :=
 ∀ (pos:Pos) (pins:Q2) (s:Shared) (σ:St) (H:Hp) (Q:List V->Hp->Prop),Inv X pins σ H s->t σ H Q->wpAny (model X.prog X.w) X.A (spliced (backTo pos (starEach es X.env))) (AP X pins σ Q) X.xe s
def PS (X:Cx) (st:Stmt) (t:TS):Prop :=
 ∀ (pins:Q2) (s:Shared) (σ:St) (H:Hp) (D:Ends),Inv X pins σ H s->t D σ H->wpAny (model X.prog X.w) X.A (exec st X.env) (SP X pins D) X.xe s
def PSs (X:Cx) (st:List Stmt) (t:TS):Prop :=
 ∀ (pins:Q2) (s:Shared) (σ:St) (H:Hp) (D:Ends),Inv X pins σ H s->t D σ H->wpAny (model X.prog X.w) X.A (execs st X.env) (SP X pins D) X.xe s
def thn {α:Type} {t:Sem α} {Q Q':α->Shared->Prop} {M:Model} {A:Around} {E:Q0} {s:Shared} (h:wpAny M A t Q E s) (hQ:∀ a s,Q a s->Q' a s):wpAny M A t Q' E s:=Ci h hQ λ_ _ x=>x
section
variable {X:Cx}
def bin {a b:Expr} {ta tb:TE} (ha:PE X a ta) (hb:PE X b tb) {pins:Q2} {s:Shared} {σ:St} {H:Hp} {R:V->V->Hp->Prop} (I:Inv X pins σ H s) (h:ta σ H λx H1=>tb σ H1 λy H2=>R x y H2)
   {α:Type} {Q:α->Shared->Prop} {f:Value->Value->Sem α}
   (hf:∀ v u s2 x y H2,Inv X pins σ H2 s2->RelV x v->RelV y u->R x y H2->wpAny (model X.prog X.w) X.A (f v u) Q X.xe s2) :
   wpAny (model X.prog X.w) X.A (eval a X.env) (λv s₁=>wpAny (model X.prog X.w) X.A (eval b X.env) (λu s₂=>wpAny (model X.prog X.w) X.A (f v u) Q X.xe s₂) X.xe s₁) X.xe s:=by
 refine thn (ha pins s σ H _ I h) λv s1 ⟨x,H1,I1,r1,q1⟩=>?_;refine thn (hb pins s1 σ H1 _ I1 q1) λu s2 ⟨y,H2,I2,r2,q2⟩=>?_;exact hf v u s2 x y H2 I2 r1 r2 q2
def eXW (i:Nat):TE:=λσ H Q=>∃ v,σ[i]?=some (some v)/\Q v H
def tC (v:V):TE:=λ_ H Q=>Q v H
def dJU {i:Nat} {x:Str} {pos:Pos} (hN:X.N[i]?=some x) (hv:Vis X.env.scope x) (hd:(x == ("__debug__" : Str))=false:=by decide) (hcd:(x == ("__classdict__" : Str))=false:=by decide):PE X (.Name x pos) (eXW i):=by
 intro pins s σ H Q I h;obtain ⟨v,e,h⟩:=h;obtain ⟨m,hn,hl⟩:=I.loc;obtain ⟨u,r,l⟩:=hl i x v hN e hv;have fin:EP X pins σ Q u s:=⟨v,H,I,r,h⟩
 rcases l with ⟨hk,hm⟩ | ⟨hk,c,hc,hcell⟩
 . exact wpAny_Name (wpAny_loadName_local I.ok.kind hk hn hm fin) hd
 . rcases hk with hk | hk
   . exact wpAny_Name (wpAny_loadName_cell I.ok.kind hk hc hcell fin) hd
   . exact wpAny_Name (wpAny_loadName_free I.ok.kind hk hc hcell fin hcd) hd
def aJ {i j pos}:PE X (.Constant (.int i) j pos) (tC (.int i)):=λ_ _ _ H _ I h=>wpAny_Constant_int ⟨.int i,H,I.tok _,⟨_,rfl⟩,h⟩
def mG {b j pos}:PE X (.Constant (.bool b) j pos) (tC (.bl b)):=λ_ _ _ H _ I h=>Constant_bool ⟨.bl b,H,I,rfl,h⟩
def cW {j pos}:PE X (.Constant .none j pos) (tC .non):=λ_ _ _ H _ I h=>Constant_none ⟨.non,H,I,rfl,h⟩
def gH {x j pos}:PE X (.Constant (.str x) j pos) (tC (.str x)):=λ_ _ _ H _ I h=>Calls.Constant_str ⟨.str x,H,I.tok _,⟨_,rfl⟩,h⟩
def Gl (X:Cx) (x:Str):Prop:=X.env.kindOf x=some .globalImplicit
def gR {E:Q0} {pins:Q2} {s:Shared} {σ:St} {H:Hp} {x:Str} {u:Value} {pos:Pos} {Q:Q0} (I:Inv X pins σ H s) (hg:Gl X x) (hm:X.mg x=some u) (h:Q u s)
   (hd:(x == ("__debug__" : Str))=false:=by decide):wpAny (model X.prog X.w) X.A (eval (.Name x pos) X.env) Q E s :=
 Calls.Name_function_global I.ok.kind hg (Calls.loadGlobal_global (by rw [I.ok.glob]; exact I.mod.glob.keeps I.bk) hm h) hd
def kC {E:Q0} {pins:Q2} {s:Shared} {σ:St} {H:Hp} {x:Str} {u:Value} {pos:Pos} {Q:Q0} (I:Inv X pins σ H s) (hg:Gl X x) (hm:X.mg x=none) (hv:bootBuiltins x=some u) (h:Q u s)
   (hn:x≠"__name__" := by decide) (hd:(x == ("__debug__" : Str))=false:=by decide):wpAny (model X.prog X.w) X.A (eval (.Name x pos) X.env) Q E s:=by
 obtain ⟨mb,h1,h2⟩:=I.mod.blt;exact Calls.Name_function_global I.ok.kind hg (Calls.loadGlobal_builtin (by rw [I.ok.glob]; exact I.mod.glob.keeps I.bk) hm (by rw [I.ok.blt]; exact h1.keeps I.bk) ((h2 x hn).trans hv) h) hd
def vW {x:Str} {v:V} {u:Value} {pos:Pos} (hg:Gl X x) (hm:X.mg x=some u) (r:RelV v u) (hd:(x == ("__debug__" : Str))=false:=by decide):PE X (.Name x pos) (tC v) :=
 λ_ _ _ H _ I h=>gR I hg hm ⟨v,H,I,r,h⟩ hd
def cJ0 {x:Str} {v:V} {u:Value} {pos:Pos} (hg:Gl X x) (hm:X.mg x=none) (hv:bootBuiltins x=some u) (r:RelV v u) (hn:x≠"__name__" := by decide) (hd:(x == ("__debug__" : Str))=false:=by decide):PE X (.Name x pos) (tC v) :=
 λ_ _ _ H _ I h=>kC I hg hm hv ⟨v,H,I,r,h⟩ hn hd
variable {a b:Expr} {ta tb:TE} {pos:Pos}
variable {tA tB':TT} {rest:List Expr}
def eZ3 (t u:TT):TT:=λσ H Q=>t σ H λc H1=>if c=true then u σ H1 Q else Q false H1
def tOr (t u:TT):TT:=λσ H Q=>t σ H λc H1=>if c=true then Q true H1 else u σ H1 Q
def eZN (t:TT):TT:=λσ H Q=>t σ H λc H1=>Q (!c) H1
def oJ (ha:PT X a tA):PW X (.BoolOp .And [a] pos) tA:=by
 intro wh pins s σ H Q I h;refine isTrue_and (thn (ha pins s σ H Q I h) λc s1 e=>?_);cases c with
 | true=>exact isTrue_and_nil e
 | false=>exact e
def mP (ha:PT X a tA):PW X (.BoolOp .Or [a] pos) tA:=by
 intro wh pins s σ H Q I h;refine isTrue_or (thn (ha pins s σ H Q I h) λc s1 e=>?_);cases c with
 | false=>exact isTrue_or_nil e
 | true=>exact e
def qV (ha:PT X a tA) (hb:PW X (.BoolOp .And (b::rest) pos) tB'):PW X (.BoolOp .And (a::b::rest) pos) (eZ3 tA tB'):=by
 intro wh pins s σ H Q I h;refine isTrue_and (thn (ha pins s σ H _ I h) λc s1 ⟨H1,I1,q1⟩=>?_);cases c with
 | true=>exact hb wh pins s1 σ H1 Q I1 q1
 | false=>exact ⟨H1,I1,q1⟩
def pO (ha:PT X a tA) (hb:PW X (.BoolOp .Or (b::rest) pos) tB'):PW X (.BoolOp .Or (a::b::rest) pos) (tOr tA tB'):=by
 intro wh pins s σ H Q I h;refine isTrue_or (thn (ha pins s σ H _ I h) λc s1 ⟨H1,I1,q1⟩=>?_);cases c with
 | true=>exact ⟨H1,I1,q1⟩
 | false=>exact hb wh pins s1 σ H1 Q I1 q1
def nA (ha:PT X a tA):PT X (.UnaryOp .Not a pos) (eZN tA):=by
 intro pins s σ H Q I h;exact isTrue_not (ha pins s σ H (λc H1=>Q (!c) H1) I h)
def cQK {op} {t:TE} (h:PE X a t):PE X (.BoolOp op [a] pos) t:=λpins s σ H Q I hw=>BoolOp_one (h pins s σ H Q I hw)
def tIf (t:TT) (ta tb:TE):TE:=λσ H Q=>t σ H λc H1=>if c=true then ta σ H1 Q else tb σ H1 Q
def qM {c:Expr} (hc:PT X c tA) (ha:PE X a ta) (hb:PE X b tb):PE X (.IfExp c a b pos) (tIf tA ta tb):=by
 intro pins s σ H Q I h;refine wpAny_IfExp (thn (hc pins s σ H _ I h) λd s1 ⟨H1,I1,q1⟩=>?_);cases d with
 | true=>exact ha pins s1 σ H1 Q I1 q1
 | false=>exact hb pins s1 σ H1 Q I1 q1
end
def SqL (K:W.Frag) (H:Hp) (a:Addr) (xs:List V):Prop :=
 Rd H a (.lst xs)\/
   ∃ (o:Obj) (its:Array Value) (n:Nat),K.lookup a=some o/\o.cls=.type "list"/\o.dict=none/\o.data=.seq its n/\its.size<=sizeLine/\Vals xs its.toList
def SqT (K:W.Frag) (H:Hp) (a:Addr) (xs:List V):Prop :=
 Rd H a (.tup xs)\/
   ∃ (o:Obj) (its:Array Value) (n:Nat),K.lookup a=some o/\o.cls=.type "tuple"/\o.data=.seq its n/\its.size<=sizeLine/\Vals xs its.toList
def eJT:Value->Option V
 | .none=>some .non
 | .bool b=>some (.bl b)
 | .int i _=>some (.int i)
 | .str x _=>some (.str x)
 | .bytes b _=>some (.byt b)
 | .float b _=>some (.flt b)
 | .ref a=>some (.ref a)
 | .type n=>some (.ty n)
 | _=>none
def RelV.abs {x:V} {u:Value} (r:RelV x u):eJT u=some x:=by
 cases x with
 | non=>cases r; rfl
 | bl _=>cases r; rfl
 | int _=>obtain ⟨t,rfl⟩:=r; rfl
 | str _=>obtain ⟨t,rfl⟩:=r; rfl
 | byt _=>obtain ⟨t,rfl⟩:=r; rfl
 | flt _=>obtain ⟨t,rfl⟩:=r; rfl
 | ref _=>cases r; rfl
 | ty _=>cases r; rfl
def RelV.inj {x y:V} {u:Value} (r:RelV x u) (q:RelV y u):x=y:=Bh (r.abs.symm.trans q.abs)
def Vals.inj:∀ {xs ys:List V} {us:List Value},Vals xs us->Vals ys us->xs=ys
 | _,_,_,.nil,.nil=>rfl
 | _,_,_,.cons r t,.cons r' t'=>by rw [r.inj r',Vals.inj t t']
section
variable {X:Cx} {pins:Q2} {σ:St} {H:Hp} {s:Shared} {a:Addr} {xs ys:List V}
def SqL.of {K:W.Frag} (h:H a=some (.lst xs)):SqL K H a xs:=.inl (.inl h)
def SqT.of {K:W.Frag} (h:H a=some (.tup xs)):SqT K H a xs:=.inl (.inl h)
def Inv.list (I:Inv X pins σ H s) (h:SqL X.K H a xs):∃ its:List Value,Vals xs its/\PlainL s.heap a its.toArray/\xs.length<=sizeLine:=by
 rcases h with h | ⟨o,its,n,hk,hc,hd,hs,hz,r⟩
 . obtain ⟨z,its,n,r,e⟩:=h.ok I.hok;exact ⟨its,r,⟨_,n,e,rfl,rfl,rfl⟩,z⟩
 . refine ⟨its.toList,r,⟨o,n,I.kIn a o hk,hc,hd,by simpa using hs⟩,?_⟩
   have e:=r.length
   simp only [Array.length_toList] at e;omega
def Inv.tuple (I:Inv X pins σ H s) (h:SqT X.K H a xs):∃ its:List Value,Vals xs its/\IsTup s.heap a its.toArray/\xs.length<=sizeLine:=by
 rcases h with h | ⟨o,its,n,hk,hc,hs,hz,r⟩
 . obtain ⟨z,its,r,p⟩:=h.ok I.hok;exact ⟨its,r,p,z⟩
 . refine ⟨its.toList,r,⟨o,I.kIn a o hk,hc,n,by simpa using hs⟩,?_⟩
   have e:=r.length
   simp only [Array.length_toList] at e;omega
def Inv.list_inj (I:Inv X pins σ H s) (h:SqL X.K H a xs) (h':SqL X.K H a ys):xs=ys:=by
 obtain ⟨its,r,⟨o,n,e,_,_,d⟩,_⟩:=I.list h;obtain ⟨its',r',⟨o',n',e',_,_,d'⟩,_⟩:=I.list h';rw [e] at e'; cases e';rw [d] at d';injection d' with d1 _
 have:its=its':=by simpa using congrArg Array.toList d1
 subst this;exact r.inj r'
end
abbrev Cx.wish (X:Cx) (E:Value->Shared->Prop):Cx:={ X with xe:=E }
abbrev Cx.nox (X:Cx):Cx:=X.wish λ_ _=>False
def Cx.Ok.wish {X:Cx} (ok:X.Ok) (E:Q0):(X.wish E).Ok :=
 ⟨ok.mod,ok.kind,ok.glob,ok.blt,ok.above,ok.inj,ok.has,ok.cab,ok.hd,ok.frames,ok.stk,ok.exf,ok.bs,ok.bsz,ok.noex,ok.exfs,ok.funs,ok.frf⟩
def Cx.Ok.unwish {X:Cx} {E:Q0} (ok:(X.wish E).Ok):X.Ok :=
 ⟨ok.mod,ok.kind,ok.glob,ok.blt,ok.above,ok.inj,ok.has,ok.cab,ok.hd,ok.frames,ok.stk,ok.exf,ok.bs,ok.bsz,ok.noex,ok.exfs,ok.funs,ok.frf⟩
section
variable {X:Cx} {pins:Q2} {σ:St} {H:Hp} {s:Shared} {E:Q0}
def Inv.wish (I:Inv X pins σ H s) (E:Q0):Inv (X.wish E) pins σ H s:=⟨I.ok.wish E,I.os,I.bare,I.base,I.loc,I.cell,I.free,I.freeC,I.pin,I.hok,I.len⟩
def Inv.unwish (I:Inv (X.wish E) pins σ H s):Inv X pins σ H s:=⟨I.ok.unwish,I.os,I.bare,I.base,I.loc,I.cell,I.free,I.freeC,I.pin,I.hok,I.len⟩
def SP.unwish {D:Ends} {f:Flow} {s':Shared} (h:SP (X.wish E) pins D f s'):SP X pins D f s':=by
 cases f with
 | next=>obtain ⟨σ',H',I,q⟩:=h; exact ⟨σ',H',I.unwish,q⟩
 | brk=>obtain ⟨σ',H',I,q⟩:=h; exact ⟨σ',H',I.unwish,q⟩
 | cont=>obtain ⟨σ',H',I,q⟩:=h; exact ⟨σ',H',I.unwish,q⟩
 | ret u=>obtain ⟨v,σ',H',I,r,q⟩:=h; exact ⟨v,σ',H',I.unwish,r,q⟩
def PE.nox {e:Expr} {t:TE} (h:PE X.nox e t):PE X e t:=λpins s σ H Q I hw=>
 Ci (h pins s σ H Q (I.wish _) hw) (λ_ _ ⟨v,H',I',r,q⟩=>⟨v,H',I'.unwish,r,q⟩) λ_ _ z=>False.elim z
def PT.nox {e:Expr} {t:TT} (h:PT X.nox e t):PT X e t:=λpins s σ H Q I hw=>
 Ci (h pins s σ H Q (I.wish _) hw) (λ_ _ ⟨H',I',q⟩=>⟨H',I'.unwish,q⟩) λ_ _ z=>False.elim z
def PSs.nox {st:List Stmt} {t:TS} (h:PSs X.nox st t):PSs X st t:=λpins s σ H D I hw=>
 Ci (h pins s σ H D (I.wish _) hw) (λ_ _ q=>q.unwish) λ_ _ z=>False.elim z
end
section
variable {X:Cx} {st:Stmt} {rest:List Stmt} {t u:TS} {e:Expr} {te:TE} {pos:Pos}
def dXJ:TS:=λD σ H=>D.nx σ H
def dXW (t u:TS):TS:=λD σ H=>t { D with nx:=u D } σ H
def bH:PSs X [] dXJ:=λ_ _ σ H _ I h=>wpAny_execs_nil ⟨σ,H,I,h⟩
def aE (h1:PS X st t) (h2:PSs X rest u):PSs X (st::rest) (dXW t u):=by
 intro pins s σ H D I h;refine wpAny_execs_cons (thn (h1 pins s σ H { D with nx:=u D } I h) λf s1 q=>?_)
 cases f with
 | next=>
   obtain ⟨σ',H',I',q⟩:=q;exact h2 pins s1 σ' H' D I' q
 | ret v=>exact q
 | brk=>exact q
 | cont=>exact q
def aI (h1:PS X st t):PSs X [st] t:=by
 intro pins s σ H D I h;refine wpAny_execs_cons (thn (h1 pins s σ H D I h) λf s1 q=>?_);cases f with
 | next=>exact wpAny_execs_nil q
 | ret v=>exact q
 | brk=>exact q
 | cont=>exact q
def Inv.quiet {pins:Q2} {σ:St} {H:Hp} {s:Shared} (I:Inv X pins σ H s):interactive X.env=false:=by simp [interactive,I.ok.kind]
def dXH (te:TE):TS:=λD σ H=>te σ H λ_ H1=>D.nx σ H1
def cD (he:PE X e te) (hs:swapsWith e none pos.line X.env=pure false:=by rfl):PS X (.Expr e pos) (dXH te):=by
 intro pins s σ H D I h;exact wpAny_Expr_any (thn (he pins s σ H _ I h) λv s1 ⟨x,H1,I1,r1,q1⟩=>⟨σ,H1,I1,q1⟩) I.quiet hs
def eQS (te:TE):TS:=λD σ H=>te σ H D.rt
def aV (he:PE X e te):PS X (.Return (some e) pos) (eQS te):=by
 intro pins s σ H D I h;exact wpAny_Return_some (thn (he pins s σ H _ I h) λv s1 ⟨x,H1,I1,r1,q1⟩=>⟨x,σ,H1,I1,r1,q1⟩)
def eZA (c:TT) (t u:TS):TS:=λD σ H=>c σ H λb H1=>if b=true then t D σ H1 else u D σ H1
def cG {c:Expr} {a b:List Stmt} {tc:TT} (hc:PT X c tc) (ha:PSs X a t) (hb:PSs X b u):PS X (.If c a b pos) (eZA tc t u):=by
 intro pins s σ H D I h;refine wpAny_If (thn (hc pins s σ H _ I h) λd s1 ⟨H1,I1,q1⟩=>?_);cases d with
 | true=>exact ha pins s1 σ H1 D I1 q1
 | false=>exact hb pins s1 σ H1 D I1 q1
end
abbrev TG:=V->St->Hp->(St->Hp->Prop)->Prop
abbrev TGs:=List V->St->Hp->(St->Hp->Prop)->Prop
def PG (X:Cx) (target:Expr) (t:TG):Prop :=
 ∀ (pins:Q2) (s:Shared) (σ:St) (H:Hp) (v:V) (u:Value) (Q:St->Hp->Prop),Inv X pins σ H s->RelV v u->t v σ H Q->
   wpAny (model X.prog X.w) X.A (assign target X.env u) (λ_ s'=>∃ σ' H',Inv X pins σ' H' s'/\Q σ' H') X.xe s
def PGs (X:Cx) (ts:List Expr) (t:TGs):Prop :=
 ∀ (pins:Q2) (s:Shared) (σ:St) (H:Hp) (vs:List V) (us:List Value) (Q:St->Hp->Prop),Inv X pins σ H s->Vals vs us->t vs σ H Q->
   wpAny (model X.prog X.w) X.A (assignInOrder ((assignEach ts X.env).map (·.2)) us) (λ_ s'=>∃ σ' H',Inv X pins σ' H' s'/\Q σ' H') X.xe s
abbrev cJ8:=V->V->V->Hp->(Hp->Prop)->Prop
def eXU (X:Cx) (t:cJ8):Prop :=
 ∀ (pins:Q2) (s:Shared) (σ:St) (H:Hp) (o i v:V) (ov iv u:Value) (Q:Hp->Prop),Inv X pins σ H s->RelV o ov->RelV i iv->RelV v u->t o i v H Q->
   wpAny (model X.prog X.w) X.A (setItem ov iv u) (λ_ s'=>∃ H',Inv X pins σ H' s'/\Q H') X.xe s
section
variable {X:Cx} {pos:Pos}
def nS (i:Nat):TG:=λv σ H Q=>Q (σ.set i (some v)) H
def aY {i:Nat} {x:Str} (hN:X.N.Nodup) (hi:X.N[i]?=some x) (hx:Loc X.env.scope x) (hf:X.fn x=true\/X.env.scope.names.lookup x=some .local:=by first | exact .inl rfl | exact .inr rfl | assumption):PG X (.Name x pos) (nS i):=by
 intro pins s σ H v u Q I r h;exact wpAny_assign_Name (rM I hN hi hx r (λs' I'=>⟨_,H,I',h⟩) hf)
def dZM:TGs:=λvs σ H Q=>vs=[]/\Q σ H
def aJJ (t:TG) (u:TGs):TGs:=λvs σ H Q=>∃ v r,vs=v::r/\t v σ H λσ' H'=>u r σ' H' Q
def aJK:PGs X [] dZM:=by
 intro pins s σ H vs us Q I r h;obtain ⟨e,h⟩:=h;subst e;cases r;exact assignInOrder_nil ⟨σ,H,I,h⟩
def jJ {e:Expr} {es:List Expr} {t:TG} {u:TGs} (h1:PG X e t) (h2:PGs X es u)
   (hs:(assignEach (e::es) X.env).map (·.2)=assign e X.env::(assignEach es X.env).map (·.2):=by rfl):PGs X (e::es) (aJJ t u):=by
 intro pins s σ H vs us Q I r h;obtain ⟨v,vr,e1,h⟩:=h;subst e1;cases r with
 | cons r rr=>
   rw [hs];refine assignInOrder_cons (thn (h1 pins s σ H _ _ _ I r h) λ_ s1 ⟨σ1,H1,I1,q1⟩=>?_);exact h2 pins s1 σ1 H1 _ _ Q I1 rr q1
def dZZ (K:W.Frag) (n:Nat) (t:TGs):TG:=λv σ H Q=>∃ a xs,v=.ref a/\SqT K H a xs/\xs.length=n/\t xs σ H Q
def dJY {es:List Expr} {k:Nat} {t:TGs} {n:Nat} (hc:X.calm=true) (h:PGs X es t)
   (hn:(assignEach es X.env).length=n:=by rfl) (hst:(assignEach es X.env).findIdx? (·.1)=none:=by rfl):PG X (.Tuple es k pos) (dZZ X.K n t):=by
 intro pins s σ H v u Q I r hw;obtain ⟨a,xs,e1,hq,hl,hw⟩:=hw;subst e1;cases r;obtain ⟨its,rv,ht,hz⟩:=I.tuple hq;refine assign_Tuple_tuple (I.ok.hd hc) ht (by simp [hn,<-hl,rv.length]) hst λh' hx=>?_
 have I1:Inv X pins σ H { s with heap:=h' }:=I.kept (t':=s.toks) λb o e=>hx b o (Bo (Av e)) e
 exact h pins _ σ H xs _ Q I1 (by simpa using rv) hw
def eZW (to ti:TE) (t:cJ8):TG:=λv σ H Q=>to σ H λo H1=>ti σ H1 λi H2=>t o i v H2 λH3=>Q σ H3
def aQY {o i:Expr} {to ti:TE} {t:cJ8} (ho:PE X o to) (hi:PE X i ti) (hs:eXU X t)
   (ha:∀ v,assign (.Subscript o i pos) X.env v=(do
     let ov <-holding [v] (eval o X.env)
     let iv <-holding [v,ov] (eval i X.env)
     standAt pos
     holding [v,ov,iv] (setItem ov iv v)
     release [v,ov,iv] []):=by intro _; rfl):PG X (.Subscript o i pos) (eZW to ti t):=by
 intro pins s σ H v u Q I r h;rw [ha];refine Ae (Dc (thn (ho pins s σ H _ I h) λov s1 ⟨x,H1,I1,r1,q1⟩=>?_));refine Ae (Dc (thn (hi pins s1 σ H1 _ I1 q1) λiv s2 ⟨y,H2,I2,r2,q2⟩=>?_));refine Ae (Fo (Ae (Dc (thn (hs pins s2 σ H2 x y v ov iv u _ I2 r1 r2 r q2) λ_ s3 ⟨H3,I3,q3⟩=>?_))));exact wpAny_release ⟨σ,H3,I3,q3⟩
def cZB (te:TE) (g:TG):TS:=λD σ H=>te σ H λx H1=>g x σ H1 D.nx
def wY {tg e:Expr} {te:TE} {g:TG} (he:PE X e te) (hg:PG X tg g) (hs:swapsWithSole [tg] e pos.line X.env=pure false:=by rfl) (hw:swappedStores [tg] e X.env=pure none:=by rfl)
   (h1:(assignEach [tg] X.env).map (·.2)=[assign tg X.env]:=by rfl):PS X (.Assign [tg] e pos) (cZB te g):=by
 intro pins s σ H D I h;refine wpAny_Assign_stores (thn (he pins s σ H _ I h) λv s1 ⟨x,H1,I1,r1,q1⟩=>?_) hs hw;rw [h1];exact thn (hg pins s1 σ H1 x v _ I1 r1 q1) λ_ s2 q=>q
def aP {i:Nat} {x:Str} {e:Expr} {te:TE} {pos':Pos} (hN:X.N.Nodup) (hi:X.N[i]?=some x) (hx:Loc X.env.scope x) (he:PE X e te) (hs:swapsWith e (some (.Name x pos')) pos.line X.env=pure false:=by rfl) (hf:X.fn x=true\/X.env.scope.names.lookup x=some .local:=by first | exact .inl rfl | exact .inr rfl | assumption) :
   PS X (.Assign [.Name x pos'] e pos) (cZB te (nS i)):=by
 intro pins s σ H D I h;refine wpAny_Assign_Name (thn (he pins s σ H _ I h) λv s1 ⟨y,H1,I1,r1,q1⟩=>?_) hs;exact rM I1 hN hi hx r1 (λs2 I2=>⟨_,H1,I2,q1⟩) hf
end
section
variable {X:Cx} {pos:Pos}
def dZ4 (c:TT) (tb:TS):TS:=λD σ H=>∃ W:Nat->St->Hp->Prop,(∃ m,W m σ H)/\∀ m σ H,W m σ H->
 c σ H λb H1=>if b=true then ∃ N:St->Hp->Prop,(∀ σ' H',N σ' H'->∃ m',m' < m/\W m' σ' H')/\tb { D with nx:=N,ct:=N,bk:=D.nx } σ H1 else D.nx σ H1
def zN {c:Expr} {body:List Stmt} {tc:TT} {tb:TS} (hp:PassesOwn (model X.prog X.w) X.A X.env X.xe) (hc:PT X c tc) (hb:PSs X body tb):PS X (.While c body [] pos) (dZ4 tc tb):=by
 intro pins s σ H D I h;obtain ⟨W,⟨m0,w0⟩,turn⟩:=h;refine wpAny_While (codeAny_whileLoop (λn s'=>∃ σ' H',Inv X pins σ' H' s'/\W n σ' H') ?_ m0 ⟨σ,H,I,w0⟩);rintro n s1 ⟨σ1,H1,I1,w1⟩;refine En hp (thn (hc pins s1 σ1 H1 _ I1 (turn n σ1 H1 w1)) λb s2 ⟨H2,I2,q2⟩=>?_);cases b with
 | true=>
   obtain ⟨N,hN,q2⟩:=q2;rw [if_pos rfl];refine En hp (thn (hb pins s2 σ1 H2 _ I2 q2) λf s3 q3=>?_);cases f with
   | next=>
     obtain ⟨σ3,H3,I3,n3⟩:=q3;obtain ⟨m',hm,w3⟩:=hN σ3 H3 n3;exact ⟨m',hm,σ3,H3,I3,w3⟩
   | cont=>
     obtain ⟨σ3,H3,I3,n3⟩:=q3;obtain ⟨m',hm,w3⟩:=hN σ3 H3 n3;exact ⟨m',hm,σ3,H3,I3,w3⟩
   | brk=>exact q3
   | ret v=>exact q3
 | false=>
   rw [if_neg Ap];exact wpAny_execs_nil ⟨σ1,H2,I2,q2⟩
end
structure It where
 go:Nat->Hp->Prop
 yld:Nat->Hp->V->Hp->Prop
 stop:Nat->Hp->Prop
def lS (X:Cx) (pins:List (Addr×Obj)) (H:Hp) (b:Addr):Prop :=
 H b=none/\b≠X.env.locals/\b ∉ X.fs/\(b ∈ X.ex\/X.s₀.heap.objs.size<=b)/\(∀ x c,X.env.cells.lookup x=some c->c≠b)/\∀ p ∈ X.pn++pins,p.1≠b
def Inv.fpOk {X:Cx} {pins:Q2} {σ:St} {H H':Hp} {s:Shared} {b:Addr} (I:Inv X pins σ H s) (hb:s.heap.objs.size<=b) (hn:H' b=none):lS X pins H' b:=by
 refine ⟨hn,Gg (Bc I.lt hb),I.nofs hb,.inr (Bg I.sz hb),λx c e z=>?_,λp hp z=>?_⟩
 . obtain ⟨v,q⟩:=I.cell x c e;exact absurd (Bc q.lt (by rw [z]; exact hb)) (Eb _)
 . exact absurd (Bc (Av (I.pin p hp).1) (by rw [z]; exact hb)) (Eb _)
structure Turn (P:Program) (w:World) (K:W.Frag) (tg:Expr) (J:It) (fp:List Addr) (it:Addr) (tn:Nat->Heap->Prop):Prop where
 mem:it∈fp
 obj:∀ i h,tn i h->∀ b∈fp,∃ o,h.get? b=some o/\∀ v,o.data≠.cell v
 keep:∀ i h h',tn i h->(∀ b∈fp,∀ o,h.get? b=some o->h'.get? b=some o)->tn i h'
 item:∀ (X:Cx),X.prog=P->X.w=w->X.K=K->X.calm=true->∀ (i:Nat) (pins:Q2) (s:Shared) (σ:St) (H:Hp) (E:Q0),Inv X pins σ H s->(∀ b∈fp,lS X pins H b)->tn i s.heap->J.go i H->
   wpAny (model P w) X.A (pyNext (.ref it)) (λr s1=>∃ u,r=some u/\
     wpAny (model P w) X.A (letOwnedTupleGo tg (.ref it) u) (λ_ s2=>∃ x H',Inv X pins σ H' s2/\RelV x u/\J.yld i H x H'/\tn (i+1) s2.heap/\∀ b∈fp,H' b=none) E s1) E s
 done:∀ (X:Cx),X.prog=P->X.w=w->X.K=K->X.calm=true->∀ (i:Nat) (pins:Q2) (s:Shared) (σ:St) (H:Hp) (E:Q0),Inv X pins σ H s->(∀ b∈fp,lS X pins H b)->tn i s.heap->J.stop i H->
   wpAny (model P w) X.A (pyNext (.ref it)) (λr s1=>r=none/\Inv X pins σ H s1) E s
 self:∀ (A:Around) (i:Nat) (s:Shared) (Q:Q0) (E:Q0),tn i s.heap->Q (.ref it) s->wpAny (model P w) A (pyIter (.ref it)) Q E s
abbrev TI:=St->Hp->(It->Hp->Prop)->Prop
def PIE (X:Cx) (pins:List (Addr×Obj)) (σ:St) (tg:Expr) (R:It->Hp->Prop) (itv:Value) (s2:Shared):Prop :=
 ∃ (it:Addr) (fp:List Addr) (tn:Nat->Heap->Prop) (J:It) (H':Hp),itv=.ref it/\Inv X pins σ H' s2/\Turn X.prog X.w X.K tg J fp it tn/\tn 0 s2.heap/\(∀ b∈fp,lS X pins H' b)/\R J H'
def PI (X:Cx) (tg iter:Expr) (wi:TI):Prop :=
 ∀ (pins:Q2) (s:Shared) (σ:St) (H:Hp) (R:It->Hp->Prop),Inv X pins σ H s->wi σ H R->
   wpAny (model X.prog X.w) X.A (eval iter X.env) (λv s1=>wpAny (model X.prog X.w) X.A (pyIter v) (PIE X pins σ tg R) X.xe s1) X.xe s
def uV {M:Model} {A:Around} {E:Q0} {s:Shared} {tg:Expr} {it:Addr} {u:Value} {o:Obj} {n:String} {vs:Array Value} {Q:Unit->Shared->Prop} (ho:s.heap.get? it=some o) (hc:o.cls=.type n) (hd:o.data=.fields vs)
   (hn:["enumerate", "zip", "dict_itemiterator", "dict_reverseitemiterator", "odict_iterator", "itertools.zip_longest", "itertools.pairwise"].contains n=false) (hQ:Q () s):wpAny M A (letOwnedTupleGo tg (.ref it) u) Q E s:=by
 unfold letOwnedTupleGo;cases tg <;> first
   | exact As hQ
   | (cases u <;> first
       | exact As hQ
       | (refine Ae (wpAny_load ho ?_)
          rw [hc,hd];show wpAny M A (if (["enumerate", "zip", "dict_itemiterator", "dict_reverseitemiterator", "odict_iterator", "itertools.zip_longest", "itertools.pairwise"].contains n && vs[0]? == some (rawInt _))=true then _ else _) Q E s
          rw [if_neg (by intro h; rw [hn,Bool.false_and] at h; cases h)]
          exact As hQ))
def Itl (K:W.Frag) (a:Addr):It :=
 ⟨λi H=>∃ xs x,SqL K H a xs/\xs[i]?=some x,λi H x H'=>H'=H/\∀ xs,SqL K H a xs->xs[i]?=some x,λi H=>∃ xs,SqL K H a xs/\xs.length<=i⟩
def Itr (lo:Int) (n:Nat):It:=⟨λi _=>i<n,λi H x H'=>H'=H/\x=.int (lo+i),λi _=>n<=i⟩
def bQR {P:Program} {w:World} {K:W.Frag} {tg:Expr} (a it:Addr):Turn P w K tg (Itl K a) [it] it (λi h=>h.IsListIter it a i) where
 mem:=by simp
 obj:=λi h st b hb=>by
   have e:b=it:=by simpa using hb
   subst e;obtain ⟨o,e,c,d⟩:=st;exact ⟨o,e,λv z=>by rw [d] at z; cases z⟩
 keep:=λi h h' st k=>st.at λo e=>k it (by simp) o e
 item:=by
   intro X hP hw hK hc i pins s σ H E I hf st hg;subst hP hw hK;obtain ⟨xs,x,hq,hx⟩:=hg;obtain ⟨its,rv,p,hz⟩:=I.list hq;obtain ⟨u,hu,ru⟩:=rv.get hx;obtain ⟨f0,f1,f2,f3,f4,f5⟩:=hf it (by simp)
   refine wpAny_pyNext_list_item st p.isList (x:=u) (by simpa using hu) λh' st' sb=>?_
   have I1:Inv X pins σ H { s with heap:=h' }:=I.turned (t':=s.toks) (λb o hb e=>(sb.2 b hb).trans e) f0 f1 f3 f4 f5
   obtain ⟨o,e,c,d⟩:=id st';exact ⟨u,rfl,uV (s:={ s with heap:=h' }) e c d (by decide) ⟨x,H,I1,ru,⟨rfl,λys hy=>by rw [I.list_inj hy hq]; exact hx⟩,st',λb hb=>(hf b hb).1⟩⟩
 done:=by
   intro X hP hw hK hc i pins s σ H E I hf st hg;subst hP hw hK;obtain ⟨xs,hq,hx⟩:=hg;obtain ⟨its,rv,p,hz⟩:=I.list hq;obtain ⟨f0,f1,f2,f3,f4,f5⟩:=hf it (by simp)
   have hl:=rv.length
   exact wpAny_pyNext_list_end (I.ok.hd hc) st p.isList (by simp; omega) λh' eb=>⟨rfl,I.turned (t':=s.toks) (λb o hb e=>eb b o hb e) f0 f1 f3 f4 f5⟩
 self:=λ_ _ _ _ _ st h=>wpAny_pyIter_listiter st h
def aQR {P:Program} {w:World} {K:PySem.W.Frag} {tg:Expr} (it:Addr) (lo:Int) (n:Nat):Turn P w K tg (Itr lo n) [it] it (λi h=>IsRangeIter h it (lo+(i:Nat) * 1) ((n:Int) - (i:Nat)) 1) where
 mem:=by simp
 obj:=λi h st b hb=>by
   have e:b=it:=by simpa using hb
   subst e;exact ⟨_,st,λv z=>by
     have z':Data.fields _=Data.cell v:=z
     cases z'⟩
 keep:=λi h h' st k=>k it (by simp) _ st
 item:=by
   intro X hP hw hK hc i pins s σ H E I hf st hg;subst hP hw hK;obtain ⟨f0,f1,f2,f3,f4,f5⟩:=hf it (by simp)
   have W:=Walks.range (prog:=X.prog) (w:=X.w) (I.ok.hd hc) it lo 1 n
   refine W.item i s _ _ hg st λv h' tk hv st' kk=>?_;obtain ⟨t,rfl⟩:=hv;have I1:Inv X pins σ H { s with heap:=h',toks:=tk }:=I.turned (λb o hb e=>kk b o (by simpa using hb) e) f0 f1 f3 f4 f5
   refine ⟨_,rfl,uV (s:={ s with heap:=h',toks:=tk }) (n := "range_iterator") st' rfl rfl (by decide) ⟨.int (lo+i),H,I1,⟨t,?_⟩,⟨rfl,rfl⟩,st',λb hb=>(hf b hb).1⟩⟩
   rw [Int.mul_one]
 done:=by
   intro X hP hw hK hc i pins s σ H E I hf st hg;subst hP hw hK;obtain ⟨f0,f1,f2,f3,f4,f5⟩:=hf it (by simp)
   exact wpAny_pyNext_range_end (I.ok.hd hc) st (by have:n<=i:=hg; omega) λh' eb=>⟨rfl,I.turned (t':=s.toks) (λb o hb e=>eb b o hb e) f0 f1 f3 f4 f5⟩
 self:=λ_ _ _ _ _ st h=>wpAny_pyIter_rangeiter st h
section
variable {X:Cx} {tg:Expr}
def xT {pins:Q2} {σ:St} {H:Hp} {s:Shared} {R:It->Hp->Prop} {E:Q0} {lo hi:Int} {t u v:Tok} {tk:Nat} (I:Inv X pins σ H s) (h1:-(2 ^ 62)<=lo) (h2:lo<2 ^ 62) (h3:-(2 ^ 62)<=hi) (h4:hi<2 ^ 62)
   (q:R (Itr lo (hi - lo).toNat) H):wpAny (model X.prog X.w) X.A (pyIter (.ref s.heap.objs.size)) (PIE X pins σ tg R) E { s with heap:=s.heap.push { cls:=.type "range",data:=.fields #[.int lo t,.int hi u,.int 1 v] },toks:=tk }:=by
 refine wpAny_pyIter_range (IsRange.new ..) (small_one h1 h2 h3 h4) ?_;have I1:Inv X pins σ H { s with heap:=s.heap.push { cls:=.type "range",data:=.fields #[.int lo t,.int hi u,.int 1 v] },toks:=tk }:=I.kept λb o e=>Ai _ e
 refine ⟨(s.heap.push { cls:=.type "range",data:=.fields #[.int lo t,.int hi u,.int 1 v] }).objs.size,[(s.heap.push { cls:=.type "range",data:=.fields #[.int lo t,.int hi u,.int 1 v] }).objs.size],_,_,H,rfl,
   I1.kept (t':=tk) λb o e=>Ai _ e,aQR _ lo (hi - lo).toNat,?_,λb hb=>?_,q⟩
 . have e1:lo+((0:Nat):Int) * 1=lo:=by simp
   have e2:(((hi - lo).toNat:Nat):Int) - ((0:Nat):Int)=Builtin.Range.rangeSize lo hi 1:=by rw [rangeSize_one]; split <;> omega
   show IsRangeIter _ _ (lo+((0:Nat):Int) * 1) ((((hi - lo).toNat:Nat):Int) - ((0:Nat):Int)) 1
   rw [e1,e2];exact Ba _ rfl
 . have e:b=(s.heap.push { cls:=.type "range",data:=.fields #[.int lo t,.int hi u,.int 1 v] }).objs.size:=by simpa using hb
   subst e;exact I1.fpOk (Ah _) (I1.hok.fresh (Ah _))
def eJI (wi:TI) (g:TG) (tb:TS):TS:=λD σ H=>wi σ H λJ H1=>∃ W:Nat->Nat->St->Hp->Prop,(∃ m,W 0 m σ H1)/\∀ i m σ H,W i m σ H->
 (J.stop i H/\D.nx σ H)\/(J.go i H/\∃ N:St->Hp->Prop,(∀ σ' H',N σ' H'->∃ m',m' < m/\W (i+1) m' σ' H')/\∀ x H',J.yld i H x H'->g x σ H' λσ2 H2=>tb { D with nx:=N,ct:=N,bk:=D.nx } σ2 H2)
def oX (fp:List Addr) (h:Heap):List (Addr×Obj):=fp.filterMap λb=>(h.get? b).map λo=>(b,o)
def jP {fp:List Addr} {h:Heap} {b:Addr} {o:Obj} (hb:b∈fp) (e:h.get? b=some o):(b,o)∈oX fp h:=Do.mpr ⟨b,hb,by rw [e]; rfl⟩
def bQG {fp:List Addr} {h:Heap} {p:Addr×Obj} (hp:p∈oX fp h):p.1∈fp/\h.get? p.1=some p.2:=by
 obtain ⟨b,hb,e⟩:=Do.mp hp;cases q:h.get? b with
 | none=>rw [q] at e; cases e
 | some o=>
   rw [q] at e;have e':(b,o)=p:=Bh e
   subst e';exact ⟨hb,q⟩
def Inv.pinned {pins:Q2} {σ:St} {H:Hp} {s:Shared} {fp:List Addr} (I:Inv X pins σ H s) (hf:∀ b∈fp,lS X pins H b) (ho:∀ b∈fp,∃ o,s.heap.get? b=some o/\∀ v,o.data≠.cell v):Inv X (pins++oX fp s.heap) σ H s :=
 I.pins_of λp hp=>(Bl.mp hp).elim (λz=>I.pin p (Bk _ z)) λz=>by
   obtain ⟨hb,e⟩:=bQG z;obtain ⟨f0,f1,f2,_⟩:=hf p.1 hb;obtain ⟨o,e',d⟩:=ho p.1 hb;rw [e] at e'; cases e';exact ⟨e,f0,f1,f2,d⟩
def Inv.unpinned {pins pl:Q2} {σ:St} {H:Hp} {s:Shared} (I:Inv X (pins++pl) σ H s):Inv X pins σ H s:=I.pins_of λp hp=>I.pin p (Bk _ (Cm _ hp))
def eQD {iter:Expr} {body:List Stmt} {wi:TI} {g:TG} {tb:TS} {pos:Pos} (hp:PassesOwn (model X.prog X.w) X.A X.env X.xe) (hc:X.calm=true) (hi:PI X tg iter wi) (hg:PG X tg g) (hb:PSs X body tb)
   (hs:∀ x,foldedSetIterable iter X.env x=pure x:=by intro _; rfl):PS X (.For tg iter body [] pos) (eJI wi g tb):=by
 intro pins s σ H D I h;refine wpAny_For (thn (hi pins s σ H _ I h) λv s1 h1=>thn h1 λitv s2 h2=>?_) hs;obtain ⟨it,fp,tn,J,H2,e,I2,T,st2,f2,W,⟨m0,w0⟩,turn⟩:=h2;subst e
 -- what stays true of the iterator's objects through the loop
 have stat:∀ {H':Hp},(∀ b∈fp,H' b=none)->∀ b∈fp,lS X pins H' b:=λhn b hb=>⟨hn b hb,(f2 b hb).2⟩
 refine codeAny_forLoop_any (λn s'=>∃ i σ' H',Inv X pins σ' H' s'/\tn i s'.heap/\(∀ b∈fp,H' b=none)/\W i n σ' H') ?_ m0 ⟨0,σ,H2,I2,st2,λb hb=>(f2 b hb).1,w0⟩;rintro n s3 ⟨i,σ3,H3,I3,st3,fr3,w3⟩;rcases turn i n σ3 H3 w3 with ⟨stop,qn⟩ | ⟨go,N,hN,step⟩
 . refine En hp (thn (T.done X rfl rfl rfl hc i pins s3 σ3 H3 X.xe I3 (stat fr3) st3 stop) λr s4 ⟨hr,I4⟩=>?_);subst hr;exact wpAny_execs_nil ⟨σ3,H3,I4,qn⟩
 . refine En hp (thn (T.item X rfl rfl rfl hc i pins s3 σ3 H3 X.xe I3 (stat fr3) st3 go) λr s4 ⟨u,hr,h4⟩=>?_);subst hr;refine En hp (thn h4 λ_ s5 ⟨x,H5,I5,r5,y5,st5,fr5⟩=>?_);have I5':=I5.pinned (stat fr5) (T.obj _ _ st5)
   refine En hp (thn (hg _ s5 σ3 H5 x u _ I5' r5 (step x H5 y5)) λ_ s6 ⟨σ6,H6,I6,q6⟩=>?_);refine En hp (thn (hb _ s6 σ6 H6 _ I6 q6) λf s7 q7=>?_);have again:∀ {σ7:St} {H7:Hp},Inv X (pins++oX fp s5.heap) σ7 H7 s7->N σ7 H7->∃ m,m<n/\∃ i σ' H',Inv X pins σ' H' s7/\tn i s7.heap/\(∀ b∈fp,H' b=none)/\W i m σ' H':=fun {σ7 H7} I7 n7=>by
     obtain ⟨m',hm,w7⟩:=hN σ7 H7 n7;refine ⟨m',hm,i+1,σ7,H7,I7.unpinned,T.keep _ _ _ st5 λb hb o e=>(I7.pin (b,o) (Bk _ (Bk _ (jP hb e)))).1,λb hb=>?_,w7⟩;obtain ⟨o,e,d⟩:=T.obj _ _ st5 b hb;exact (I7.pin (b,o) (Bk _ (Bk _ (jP hb e)))).2.1
   cases f with
   | next=>obtain ⟨σ7,H7,I7,n7⟩:=q7; exact again I7 n7
   | cont=>obtain ⟨σ7,H7,I7,n7⟩:=q7; exact again I7 n7
   | brk=>obtain ⟨σ7,H7,I7,q7⟩:=q7; exact ⟨σ7,H7,I7.unpinned,q7⟩
   | ret v=>obtain ⟨x7,σ7,H7,I7,r7,q7⟩:=q7; exact ⟨x7,σ7,H7,I7.unpinned,r7,q7⟩
end
def bZJ {K:PySem.W.Frag} {a:Addr} {xs:List V} {g:TG} {tb:TS} {D:Ends} {σ:St} {H:Hp} (Pv:Nat->St->Hp->Prop) (h0:Pv 0 σ H) (hl:∀ i σ H,i<=xs.length->Pv i σ H->SqL K H a xs)
   (hs:∀ i x σ H,xs[i]?=some x->Pv i σ H->g x σ H λσ2 H2=>tb { D with nx:=Pv (i+1),ct:=Pv (i+1),bk:=D.nx } σ2 H2) (hd:∀ σ H,Pv xs.length σ H->D.nx σ H) :
   ∃ W:Nat->Nat->St->Hp->Prop,(∃ m,W 0 m σ H)/\∀ i m σ H,W i m σ H->
     ((Itl K a).stop i H/\D.nx σ H)\/((Itl K a).go i H/\∃ N:St->Hp->Prop,(∀ σ' H',N σ' H'->∃ m',m' < m/\W (i+1) m' σ' H')/\∀ x H',(Itl K a).yld i H x H'->g x σ H' λσ2 H2=>tb { D with nx:=N,ct:=N,bk:=D.nx } σ2 H2):=by
 refine ⟨λi m σ H=>m=xs.length - i/\i<=xs.length/\Pv i σ H,⟨xs.length,by simp,Nat.zero_le _,h0⟩,?_⟩
 rintro i m σ H ⟨rfl,hi,p⟩;have q:=hl i σ H hi p
 by_cases hlt:i<xs.length
 . refine .inr ⟨⟨xs,xs[i],q,by simp [hlt]⟩,Pv (i+1),λσ' H' p'=>⟨xs.length - (i+1),by omega,rfl,hlt,p'⟩,λx H' y=>?_⟩
   obtain ⟨e,y⟩:=y;subst e;exact hs i x σ _ (y xs q) p
 . have e:i=xs.length:=by omega
   subst e;exact .inl ⟨⟨xs,q,Ah _⟩,hd σ H p⟩
def bXI {lo:Int} {n:Nat} {g:TG} {tb:TS} {D:Ends} {σ:St} {H:Hp} (Pv:Nat->St->Hp->Prop) (h0:Pv 0 σ H)
   (hs:∀ i σ H,i<n->Pv i σ H->g (.int (lo+i)) σ H λσ2 H2=>tb { D with nx:=Pv (i+1),ct:=Pv (i+1),bk:=D.nx } σ2 H2) (hd:∀ σ H,Pv n σ H->D.nx σ H) :
   ∃ W:Nat->Nat->St->Hp->Prop,(∃ m,W 0 m σ H)/\∀ i m σ H,W i m σ H->
     ((Itr lo n).stop i H/\D.nx σ H)\/((Itr lo n).go i H/\∃ N:St->Hp->Prop,(∀ σ' H',N σ' H'->∃ m',m' < m/\W (i+1) m' σ' H')/\∀ x H',(Itr lo n).yld i H x H'->g x σ H' λσ2 H2=>tb { D with nx:=N,ct:=N,bk:=D.nx } σ2 H2):=by
 refine ⟨λi m σ H=>m=n - i/\i<=n/\Pv i σ H,⟨n,by simp,Nat.zero_le _,h0⟩,?_⟩
 rintro i m σ H ⟨rfl,hi,p⟩;by_cases hlt:i<n
 . refine .inr ⟨hlt,Pv (i+1),λσ' H' p'=>⟨n - (i+1),by omega,rfl,hlt,p'⟩,λx H' y=>?_⟩
   obtain ⟨e,y⟩:=y;subst e y;exact hs i σ _ hlt p
 . have e:i=n:=by omega
   subst e;exact .inl ⟨Ah _,hd σ H p⟩
abbrev R2:=V->V->Hp->VK->Prop
def OpR (X:Cx) (f:Value->Value->Sem Value) (r:R2):Prop :=
 ∀ (pins:Q2) (s:Shared) (σ:St) (H:Hp) (x y:V) (v u:Value) (Q:VK),Inv X pins σ H s->RelV x v->RelV y u->r x y H Q->
   wpAny (model X.prog X.w) X.A (f v u) (EP X pins σ Q) X.xe s
def UnR (X:Cx) (f:Value->Sem Value) (r:V->Hp->VK->Prop):Prop :=
 ∀ (pins:Q2) (s:Shared) (σ:St) (H:Hp) (x:V) (v:Value) (Q:VK),Inv X pins σ H s->RelV x v->r x H Q->
   wpAny (model X.prog X.w) X.A (f v) (EP X pins σ Q) X.xe s
def CallR (X:Cx) (f:Value) (r:List V->Hp->VK->Prop):Prop :=
 ∀ (pins:Q2) (s:Shared) (σ:St) (H:Hp) (xs:List V) (us:List Value) (Q:VK),Inv X pins σ H s->Vals xs us->r xs H Q->
   wpAny (model X.prog X.w) X.A (call f us) (EP X pins σ Q) X.xe s
def eJL (X:Cx) (r:V->Hp->(Bool->Hp->Prop)->Prop):Prop :=
 ∀ (pins:Q2) (s:Shared) (σ:St) (H:Hp) (x:V) (v:Value) (Q:Bool->Hp->Prop),Inv X pins σ H s->RelV x v->r x H Q->
   wpAny (model X.prog X.w) X.A (truthy v) (TP X pins σ Q) X.xe s
def tOp (r:R2) (ta tb:TE):TE:=λσ H Q=>ta σ H λx H1=>tb σ H1 λy H2=>r x y H2 Q
def tUn (r:V->Hp->VK->Prop) (ta:TE):TE:=λσ H Q=>ta σ H λx H1=>r x H1 Q
def rI (C:Int->Int->Prop) (g:Int->Int->V):R2:=λx y H Q=>∃ i j,x=.int i/\y=.int j/\C i j/\Q (g i j) H
def rI0 (g:Int->Int->V):R2:=λx y H Q=>∃ i j,x=.int i/\y=.int j/\Q (g i j) H
def rU (g:Int->V):V->Hp->VK->Prop:=λx H Q=>∃ i,x=.int i/\Q (g i) H
section
variable {X:Cx} {a b:Expr} {ta tb:TE} {pos:Pos}
def dXR (ha:PE X a ta) (hb:PE X b tb) {pins:Q2} {s:Shared} {σ:St} {H:Hp} {R:V->V->Hp->Prop} (I:Inv X pins σ H s)
   (h:ta σ H λx H1=>tb σ H1 λy H2=>R x y H2) {Q:Q0} {f:Value->Value->Sem Value}
   (hf:∀ v u s2 x y H2,Inv X pins σ H2 s2->RelV x v->RelV y u->R x y H2->wpAny (model X.prog X.w) X.A (f v u) Q X.xe s2) :
   wpAny (model X.prog X.w) X.A (eval a X.env) (λv s₁=>wpAny (model X.prog X.w) X.A (eval b X.env) (λu s₂=>wpAny (model X.prog X.w) X.A (f v u) Q X.xe s₂) X.xe s₁) X.xe s:=by
 refine thn (ha pins s σ H _ I h) λv s1 ⟨x,H1,I1,r1,q1⟩=>?_;refine thn (hb pins s1 σ H1 _ I1 q1) λu s2 ⟨y,H2,I2,r2,q2⟩=>?_;exact hf v u s2 x y H2 I2 r1 r2 q2
def aR {op:Operator} {r:R2} (ho:OpR X (binaryOp op) r) (ha:PE X a ta) (hb:PE X b tb):PE X (.BinOp a op b pos) (tOp r ta tb):=by
 intro pins s σ H Q I h;exact wpAny_BinOp (dXR ha hb I h λv u s2 x y H2 I2 rx ry q=>ho pins s2 σ H2 x y v u Q I2 rx ry q)
def dQN {op:UnaryOp} {r:V->Hp->VK->Prop} (ho:UnR X (unaryOp op) r) (ha:PE X a ta):PE X (.UnaryOp op a pos) (tUn r ta):=by
 intro pins s σ H Q I h;exact UnaryOp_ (thn (ha pins s σ H _ I h) λv s1 ⟨x,H1,I1,r1,q1⟩=>ho pins s1 σ H1 x v Q I1 r1 q1)
def opI {f:Value->Value->Sem Value} {C:Int->Int->Prop} {g:Int->Int->Int}
   (rule:∀ (i j:Int) (t u:Tok) (s:Shared) (Q:Q0) (E:Q0),C i j->Q (.int (g i j) s.toks) { s with toks:=s.toks+1 }->wpAny (model X.prog X.w) X.A (f (.int i t) (.int j u)) Q E s) :
   OpR X f (rI C λi j=>.int (g i j)):=by
 intro pins s σ H x y v u Q I rx ry h;obtain ⟨i,j,rfl,rfl,hc,q⟩:=h;obtain ⟨t,rfl⟩:=rx;obtain ⟨t',rfl⟩:=ry;exact rule i j t t' s _ _ hc ⟨.int (g i j),H,I.tok _,⟨_,rfl⟩,q⟩
def eZY {f:Value->Value->Sem Value} {g:Int->Int->Int}
   (rule:∀ (i j:Int) (t u:Tok) (s:Shared) (Q:Q0) (E:Q0),Q (.int (g i j) s.toks) { s with toks:=s.toks+1 }->wpAny (model X.prog X.w) X.A (f (.int i t) (.int j u)) Q E s) :
   OpR X f (rI0 λi j=>.int (g i j)):=by
 intro pins s σ H x y v u Q I rx ry h;obtain ⟨i,j,rfl,rfl,q⟩:=h;obtain ⟨t,rfl⟩:=rx;obtain ⟨t',rfl⟩:=ry;exact rule i j t t' s _ _ ⟨.int (g i j),H,I.tok _,⟨_,rfl⟩,q⟩
def dJL {f:Value->Value->Sem Value} {g:Int->Int->Bool}
   (rule:∀ (i j:Int) (t u:Tok) (s:Shared) (Q:Q0) (E:Q0),Q (.bool (g i j)) s->wpAny (model X.prog X.w) X.A (f (.int i t) (.int j u)) Q E s) :
   OpR X f (rI0 λi j=>.bl (g i j)):=by
 intro pins s σ H x y v u Q I rx ry h;obtain ⟨i,j,rfl,rfl,q⟩:=h;obtain ⟨t,rfl⟩:=rx;obtain ⟨t',rfl⟩:=ry;exact rule i j t t' s _ _ ⟨.bl (g i j),H,I,rfl,q⟩
def eXX (i j:Int):Prop:=0<j/\j<1073741824
def CMul (i j:Int):Prop:=(-(2 ^ 64)<i/\i<2 ^ 64)\/(-(2 ^ 64)<j/\j<2 ^ 64)
def CMul.ok {i j:Int} (h:CMul i j):IntMulOk i j:=by
 rcases h with ⟨h1,h2⟩ | ⟨h1,h2⟩
 . exact .of_left (intBits_le_64 h1 h2)
 . exact .of_right (intBits_le_64 h1 h2)
def dZY:OpR X (binaryOp .Add) (rI0 λi j=>.int (i+j)):=eZY λ_ _ _ _ _ _ _ q=>add_int q
def op_sub:OpR X (binaryOp .Sub) (rI0 λi j=>.int (i - j)):=eZY λ_ _ _ _ _ _ _ q=>sub_int q
def op_mul:OpR X (binaryOp .Mult) (rI CMul λi j=>.int (i * j)):=opI λ_ _ _ _ _ _ _ hc q=>mul_int q hc.ok
def op_fdiv:OpR X (binaryOp .FloorDiv) (rI eXX λi j=>.int (i / j)):=opI λi j _ _ _ _ _ hc q=>by
 have h1:(0:Int)<j:=hc.1
 have h2:j<1073741824:=hc.2
 exact floordiv_int (by omega) (by rw [Int.fdiv_eq_ediv_of_nonneg i (by omega)]; exact q) (.inl (PyProof.noPylong_small (by omega)))
def op_mod:OpR X (binaryOp .Mod) (rI (λ_ j=>0<j) λi j=>.int (i % j)):=opI λi j _ _ _ _ _ hc q=>by
 have h1:(0:Int)<j:=hc
 exact mod_int' (by omega) (by rw [Int.fmod_eq_emod_of_nonneg i (by omega)]; exact q)
def unI {f:Value->Sem Value} {g:Int->Int}
   (rule:∀ (i:Int) (t:Tok) (s:Shared) (Q:Q0) (E:Q0),Q (.int (g i) s.toks) { s with toks:=s.toks+1 }->wpAny (model X.prog X.w) X.A (f (.int i t)) Q E s) :
   UnR X f (rU λi=>.int (g i)):=by
 intro pins s σ H x v Q I rx h;obtain ⟨i,rfl,q⟩:=h;obtain ⟨t,rfl⟩:=rx;exact rule i t s _ _ ⟨.int (g i),H,I.tok _,⟨_,rfl⟩,q⟩
def dJE:UnR X (unaryOp .USub) (rU λi=>.int (-i)):=unI λ_ _ _ _ _ q=>neg_int q
end
def cJ2:V->V->Bool
 | .non,.non=>true | .non,.int _=>true | .int _,.non=>true | .non,.bl _=>true | .bl _,.non=>true | .non,.str _=>true | .str _,.non=>true
 | .int _,.int _=>true | .bl _,.bl _=>true | .str _,.str _=>true | .byt _,.byt _=>true
 | .int _,.str _=>true | .str _,.int _=>true | .bl _,.str _=>true | .str _,.bl _=>true
 | _,_=>false
def rEq:R2:=λx y H Q=>cJ2 x y=true/\Q (.bl (decide (x=y))) H
def rNe:R2:=λx y H Q=>cJ2 x y=true/\Q (.bl (!decide (x=y))) H
def aJO {i j:Int}:decide (V.int i=V.int j)=(i == j):=by
 rw [Gm];simp
def bJI {i j:Bool}:decide (V.bl i=V.bl j)=(i == j):=by
 rw [Gm];simp
def aZ9 {i j:Str}:decide (V.str i=V.str j)=(i == j):=by
 rw [Gm];simp
def aJ0 {i j:Array UInt8}:decide (V.byt i=V.byt j)=(i.toList == j.toList):=by
 rw [Gm];cases i;cases j;simp
section
variable {X:Cx} {a b:Expr} {ta tb:TE} {pos:Pos}
def bO {pins:Q2} {σ:St} {H:Hp} {s:Shared} {Q:VK} {k k':Bool} (I:Inv X pins σ H s) (q:Q (.bl k) H) (e:k=k'):EP X pins σ Q (.bool k') s:=by
 subst e;exact ⟨.bl k,H,I,rfl,q⟩
def eZT:OpR X (compareOp .Eq) rEq:=by
 intro pins s σ H x y v u Q I rx ry h;obtain ⟨hs,q⟩:=h;cases x with
 | non=>
   cases rx;cases y with
   | non=>cases ry; exact PySem.EqNone.eq_none_none (bO I q (by simp))
   | bl j=>cases ry; exact PySem.EqNone.eq_none_bool (bO I q (by simp))
   | int j=>obtain ⟨t',rfl⟩:=ry; exact PySem.EqNone.eq_none_int (bO I q (by simp))
   | str j=>obtain ⟨t',rfl⟩:=ry; exact PySem.EqNone.eq_none_str (bO I q (by simp))
   | _=>exact absurd (show false=true from hs) Ap
 | bl i=>
   cases rx;cases y with
   | non=>cases ry; exact PySem.EqNone.eq_bool_none (bO I q (by simp))
   | bl j=>cases ry; exact eq_bool (bO I q bJI)
   | str j=>obtain ⟨t',rfl⟩:=ry; exact PySem.EqMixed.eq_bool_str (bO I q (by simp))
   | _=>exact absurd (show false=true from hs) Ap
 | int i=>
   obtain ⟨t,rfl⟩:=rx;cases y with
   | non=>cases ry; exact PySem.EqNone.eq_int_none (bO I q (by simp))
   | int j=>obtain ⟨t',rfl⟩:=ry; exact eq_int (bO I q aJO)
   | str j=>obtain ⟨t',rfl⟩:=ry; exact PySem.EqMixed.eq_int_str (bO I q (by simp))
   | _=>exact absurd (show false=true from hs) Ap
 | str i=>
   obtain ⟨t,rfl⟩:=rx;cases y with
   | non=>cases ry; exact PySem.EqNone.eq_str_none (bO I q (by simp))
   | bl j=>cases ry; exact PySem.EqMixed.eq_str_bool (bO I q (by simp))
   | int j=>obtain ⟨t',rfl⟩:=ry; exact PySem.EqMixed.eq_str_int (bO I q (by simp))
   | str j=>obtain ⟨t',rfl⟩:=ry; exact eq_str (bO I q aZ9)
   | _=>exact absurd (show false=true from hs) Ap
 | byt i=>
   obtain ⟨t,rfl⟩:=rx;cases y with
   | byt j=>obtain ⟨t',rfl⟩:=ry; exact W.eq_bytes (bO I q aJ0)
   | _=>exact absurd (show false=true from hs) Ap
 | _=>cases y <;> exact absurd (show false=true from hs) Ap
def eQX:OpR X (compareOp .NotEq) rNe:=by
 intro pins s σ H x y v u Q I rx ry h;obtain ⟨hs,q⟩:=h;cases x with
 | non=>
   cases rx;cases y with
   | non=>cases ry; exact PySem.EqNone.ne_none_none (bO I q (by simp))
   | bl j=>cases ry; exact PySem.EqNone.ne_none_bool (bO I q (by simp))
   | int j=>obtain ⟨t',rfl⟩:=ry; exact PySem.EqNone.ne_none_int (bO I q (by simp))
   | str j=>obtain ⟨t',rfl⟩:=ry; exact PySem.EqNone.ne_none_str (bO I q (by simp))
   | _=>exact absurd (show false=true from hs) Ap
 | bl i=>
   cases rx;cases y with
   | non=>cases ry; exact PySem.EqNone.ne_bool_none (bO I q (by simp))
   | bl j=>cases ry; exact ne_bool (bO I q (Dt not bJI))
   | str j=>obtain ⟨t',rfl⟩:=ry; exact PySem.EqMixed.ne_bool_str (bO I q (by simp))
   | _=>exact absurd (show false=true from hs) Ap
 | int i=>
   obtain ⟨t,rfl⟩:=rx;cases y with
   | non=>cases ry; exact PySem.EqNone.ne_int_none (bO I q (by simp))
   | int j=>obtain ⟨t',rfl⟩:=ry; exact ne_int (bO I q (Dt not aJO))
   | str j=>obtain ⟨t',rfl⟩:=ry; exact PySem.EqMixed.ne_int_str (bO I q (by simp))
   | _=>exact absurd (show false=true from hs) Ap
 | str i=>
   obtain ⟨t,rfl⟩:=rx;cases y with
   | non=>cases ry; exact PySem.EqNone.ne_str_none (bO I q (by simp))
   | bl j=>cases ry; exact PySem.EqMixed.ne_str_bool (bO I q (by simp))
   | int j=>obtain ⟨t',rfl⟩:=ry; exact PySem.EqMixed.ne_str_int (bO I q (by simp))
   | str j=>obtain ⟨t',rfl⟩:=ry; exact ne_str (bO I q (Dt not aZ9))
   | _=>exact absurd (show false=true from hs) Ap
 | byt i=>
   obtain ⟨t,rfl⟩:=rx;cases y with
   | byt j=>obtain ⟨t',rfl⟩:=ry; exact W.ne_bytes (bO I q (Dt not aJ0))
   | _=>exact absurd (show false=true from hs) Ap
 | _=>cases y <;> exact absurd (show false=true from hs) Ap
def op_lt:OpR X (compareOp .Lt) (rI0 λi j=>.bl (decide (i<j))):=dJL λ_ _ _ _ _ _ _ q=>lt_int q
def op_gt:OpR X (compareOp .Gt) (rI0 λi j=>.bl (decide (j<i))):=dJL λ_ _ _ _ _ _ _ q=>gt_int q
def op_ge:OpR X (compareOp .GtE) (rI0 λi j=>.bl (decide (j<=i))):=dJL λ_ _ _ _ _ _ _ q=>ge_int q
def op_in_str:OpR X (compareOp .In) (λx y H Q=>∃ i j,x=.str i/\y=.str j/\Q (.bl (!(Builtin.Str.occurrences j i 0 j.length 1).isEmpty)) H):=by
 intro pins s σ H x y v u Q I rx ry h;obtain ⟨i,j,rfl,rfl,q⟩:=h;obtain ⟨t,rfl⟩:=rx;obtain ⟨t',rfl⟩:=ry;exact in_str (bO I q rfl)
def op_isN:OpR X (compareOp .Is) (λx y H Q=>y=.non/\Q (.bl (decide (x=.non))) H):=by
 intro pins s σ H x y v u Q I rx ry h;obtain ⟨rfl,q⟩:=h;cases ry;refine is_none_gen (bO I q ?_);cases x <;> first
   | (cases rx; rfl)
   | (obtain ⟨t,rfl⟩:=rx; rfl)
def op_notN:OpR X (compareOp .IsNot) (λx y H Q=>y=.non/\Q (.bl (!decide (x=.non))) H):=by
 intro pins s σ H x y v u Q I rx ry h;obtain ⟨rfl,q⟩:=h;cases ry;refine isnot_none_gen (bO I q ?_);cases x <;> first
   | (cases rx; rfl)
   | (obtain ⟨t,rfl⟩:=rx; rfl)
def OpR.or {f:Value->Value->Sem Value} {r r':R2} (h:OpR X f r) (h':OpR X f r'):OpR X f (λx y H Q=>r x y H Q\/r' x y H Q):=by
 intro pins s σ H x y v u Q I rx ry q;rcases q with q | q
 . exact h pins s σ H x y v u Q I rx ry q
 . exact h' pins s σ H x y v u Q I rx ry q
def bE (b:Expr) {op:CmpOp} (h:op≠.In:=by decide) (h2:op≠.NotIn:=by decide):behindInMarks op b=false:=by
 have e1:(op == CmpOp.In)=false:=by cases op <;> first | rfl | exact absurd rfl h
 have e2:(op == CmpOp.NotIn)=false:=by cases op <;> first | rfl | exact absurd rfl h2
 cases b <;> simp [behindInMarks,e1,e2]
def jO {op:CmpOp} {r:R2} (ho:OpR X (compareOp op) r) (ha:PE X a ta) (hb:PE X b tb) (hm:behindInMarks op b=false):PE X (.Compare a [op] [b] pos) (tOp r ta tb):=by
 intro pins s σ H Q I h;exact wpAny_Compare1 (dXR ha hb I h λv u s2 x y H2 I2 rx ry q=>ho pins s2 σ H2 x y v u Q I2 rx ry q) hm
def eXV (K:W.Frag) (x:V) (H:Hp) (k:Bool):Prop :=
 match x with
 | .non=>k=false
 | .bl b=>k=b
 | .int i=>k=(i != 0)
 | .str y=>y.length<=sizeLine/\k=((y.length:Int) != 0)
 | .byt y=>y.size<=sizeLine/\k=((y.size:Int) != 0)
 | .ref p=>(∃ xs,SqL K H p xs/\k=!xs.isEmpty)\/(∃ xs,SqT K H p xs/\k=!xs.isEmpty)\/∃ kvs,H p=some (.dK kvs)/\k=!kvs.isEmpty
 | _=>False
def aXS {κ:Type} {kvs:List (κ×V)} {vs:List (κ×Value)} (r:KV kvs vs):(!vs.isEmpty)=!kvs.isEmpty:=by
 cases r <;> rfl
def sS {xs:List V} {its:List Value} (r:Vals xs its):(!its.toArray.isEmpty)=!xs.isEmpty:=by
 cases r <;> simp
def kD:(sizeLine:Nat)<2 ^ 63:=by rw [Hn]; decide
def dXV:eJL X (λx H Q=>∃ k,eXV X.K x H k/\Q k H):=by
 intro pins s σ H x v Q I rx h;obtain ⟨k,e,q⟩:=h;have hl:=kD
 have hs:sizeLine=16777216:=Hn
 cases x with
 | non=>
   cases rx;have e':k=false:=e
   subst e';exact truthy_none ⟨H,I,q⟩
 | bl b=>
   cases rx;have e':k=b:=e
   subst e';exact Fv ⟨H,I,q⟩
 | int i=>
   obtain ⟨t,rfl⟩:=rx;have e':k=(i != 0):=e
   subst e';exact PySem.P.truthy_int ⟨H,I,q⟩
 | str y=>
   obtain ⟨t,rfl⟩:=rx;obtain ⟨hy,e'⟩:y.length<=sizeLine/\k=((y.length:Int) != 0):=e;subst e';exact PySem.P.truthy_str (by omega) ⟨H,I.tok _,q⟩
 | byt y=>
   obtain ⟨t,rfl⟩:=rx;obtain ⟨hy,e'⟩:y.size<=sizeLine/\k=((y.size:Int) != 0):=e;subst e';exact W.truthy_bytes (by omega) ⟨H,I.tok _,q⟩
 | ref p=>
   cases rx;have e':(∃ xs,SqL X.K H p xs/\k=!xs.isEmpty)\/(∃ xs,SqT X.K H p xs/\k=!xs.isEmpty)\/∃ kvs,H p=some (.dK kvs)/\k=!kvs.isEmpty:=e
   rcases e' with ⟨xs,hx,e'⟩ | ⟨xs,hx,e'⟩ | ⟨kvs,hx,e'⟩
   . subst e';obtain ⟨its,r,pl,hz⟩:=I.list hx;have hlen:=r.length
     exact wpAny_truthy_list pl.isList (by simp only [List.size_toArray]; omega) ⟨H,I.tok _,by rw [sS r]; exact q⟩
   . subst e';obtain ⟨its,r,pl,hz⟩:=I.tuple hx;have hlen:=r.length
     exact truthy_tuple pl (by simp only [List.size_toArray]; omega) ⟨H,I.tok _,by rw [sS r]; exact q⟩
   . subst e';obtain ⟨hz,hS,vs,r,m⟩:kvs.length<=sizeLine/\(p == sysModules)=false/\∃ vs,KV kvs vs/\s.heap.DictOf (aZ X.prog X.w) p vs:=I.hok p _ hx;have hlen:kvs.length=vs.length:=Paired.length r
     exact wpAny_truthy_dict hS m (by omega) ⟨H,I.tok _,by rw [aXS r]; exact q⟩
 | _=>exact (show False from e).elim
def aQL:OpR X (binaryOp .Add) (λx y H Q=>∃ i j,x=.str i/\y=.str j/\i.length+j.length<=sizeLine/\Q (.str (i++j)) H):=by
 intro pins s σ H x y v u Q I rx ry h;obtain ⟨i,j,rfl,rfl,hz,q⟩:=h;obtain ⟨t,rfl⟩:=rx;obtain ⟨t',rfl⟩:=ry;exact add_str (λt' tk=>⟨.str (i++j),H,I.tok _,⟨_,rfl⟩,q⟩) hz
def gD {x:V} {us:List Value} (r:Vals [x] us):∃ u,us=[u]/\RelV x u:=by
 cases r with
 | cons r1 r2=>cases r2; exact ⟨_,rfl,r1⟩
def cQJ {x y:V} {us:List Value} (r:Vals [x,y] us):∃ u w',us=[u,w']/\RelV x u/\RelV y w':=by
 cases r with
 | cons r1 r2=>
   cases r2 with
   | cons r3 r4=>cases r4; exact ⟨_,_,rfl,r1,r3⟩
def call_int1:CallR X (.type "int") (λxs H Q=>(∃ i,xs=[.int i]/\Q (.int i) H)\/∃ k,xs=[.bl k]/\Q (.int (if k then 1 else 0)) H):=by
 intro pins s σ H xs us Q I r h;rcases h with ⟨i,rfl,q⟩ | ⟨k,rfl,q⟩
 . obtain ⟨u,rfl,t,rfl⟩:=gD r;exact call_int_int ⟨.int i,H,I,⟨_,rfl⟩,q⟩
 . obtain ⟨u,rfl,r1⟩:=gD r;cases r1;exact call_int_bool ⟨.int (if k then 1 else 0),H,I.tok _,⟨_,rfl⟩,q⟩
def eJ1 (K:W.Frag) (x:V) (H:Hp) (n:Nat):Prop :=
 match x with
 | .str y=>y.length<=sizeLine/\n=y.length
 | .byt y=>y.size<=sizeLine/\n=y.size
 | .ref p=>(∃ xs,SqL K H p xs/\n=xs.length)\/∃ xs,SqT K H p xs/\n=xs.length
 | _=>False
def call_len:CallR X (.builtin "len") (λxs H Q=>∃ x n,xs=[x]/\eJ1 X.K x H n/\Q (.int n) H):=by
 intro pins s σ H xs us Q I r h;obtain ⟨x,n,rfl,e,q⟩:=h;obtain ⟨u,rfl,rx⟩:=gD r;have hl:=kD
 have hs:sizeLine=16777216:=Hn
 cases x with
 | str y=>
   obtain ⟨t,rfl⟩:=rx;obtain ⟨hy,e'⟩:y.length<=sizeLine/\n=y.length:=e;subst e';exact len_str (by omega) ⟨.int _,H,I.tok _,⟨_,rfl⟩,q⟩
 | byt y=>
   obtain ⟨t,rfl⟩:=rx;obtain ⟨hy,e'⟩:y.size<=sizeLine/\n=y.size:=e;subst e';exact W.len_bytes (by omega) ⟨.int _,H,I.tok _,⟨_,rfl⟩,q⟩
 | ref p=>
   cases rx;have e':(∃ xs,SqL X.K H p xs/\n=xs.length)\/∃ xs,SqT X.K H p xs/\n=xs.length:=e
   rcases e' with ⟨xs,hx,e'⟩ | ⟨xs,hx,e'⟩
   . subst e';obtain ⟨its,r',pl,hz⟩:=I.list hx;have hlen:=r'.length
     exact Calls.call_len_list pl.isList (by simp only [List.size_toArray]; omega) ⟨.int xs.length,H,I.tok _,⟨_,by simp only [List.size_toArray]; rw [hlen]⟩,q⟩
   . subst e';obtain ⟨its,r',pl,hz⟩:=I.tuple hx;have hlen:=r'.length
     exact len_tuple pl (by simp only [List.size_toArray]; omega) ⟨.int xs.length,H,I.tok _,⟨_,by simp only [List.size_toArray]; rw [hlen]⟩,q⟩
 | _=>exact (show False from e).elim
end
structure ObjM (h:Heap) (x dx C:Addr) (mA:Str->Option Value):Prop where
 obj:h.get? x=some (W.instObj C dx)
 ns:h.Ns1 dx mA
 ne:dx≠x
def uO {h:Heap} {dx:Addr} {mA:Q4} (n:h.Ns1 dx mA):∃ od,h.get? dx=some od/\∀ name,W.lookIn name od=some (mA name):=by
 obtain ⟨o,es,ep,ho,hd,hk,_,hm⟩:=n;refine ⟨o,ho,λname=>?_⟩;have e:=hm name
 unfold nsFind findBy at e;rw [<-Array.find?_toList] at e;unfold W.lookIn;rw [hd];dsimp only;split
 . rename_i y q
   rw [q] at e;exact Dt some e
 . rename_i q
   rw [q] at e;have a:es.toList.any (·.refKey)=false:=by
     rw [List.any_eq_false];intro y hy;obtain ⟨z,t,hkey⟩:=hk y (Array.mem_toList_iff.mp hy);simp [DictEntry.refKey,hkey]
   have a':¬ es.toList.any (·.refKey)=true:=by rw [a]; exact Ap
   rw [if_neg a'];exact Dt some e
def ObjM.look {h:Heap} {x dx C:Addr} {mA:Q4} (I:ObjM h x dx C mA):∃ od,W.InstAt h x (W.instObj C dx) C (some od)/\∀ name,W.lookIn name od=some (mA name) :=
 let ⟨od,ho,hl⟩:=uO I.ns
 ⟨od,⟨I.obj,rfl,rfl,ho⟩,hl⟩
section
variable {prog:Program} {w:World} {A:Around} {E:Q0} {s:Shared} {K:W.Frag} {x dx C f:Addr} {mA:Q4} {name:Str} {v:Value}
def cJZ {expr:Bool} {Q:Q0} (X:K.In s.heap) (I:ObjM s.heap x dx C mA) (hg:W.plainGet K C name=true) (hh:W.hasDictIn K C=true)
   (ha:W.findIn K (.ref C) name=some none) (hv:mA name=some v) (hv':W.handedIn v=true) (h:Q v { s with toks:=s.toks+1 }) :
   wpAny (model prog w) A (getAttr (.ref x) name expr) Q E s:=by
 obtain ⟨od,J,hl⟩:=I.look;exact W.get_value X J (W.plainGet_of hg).1 (W.findObj_own hh ha rfl (by rw [hl,hv])) hv' h
def cQ9 {pl:Sem Bool} {Q:Value×List Value->Shared->Prop} (X:K.In s.heap) (I:ObjM s.heap x dx C mA) (hg:W.plainGet K C name=true)
   (hf:W.findIn K (.ref C) name=some (some (.ref f))) (ht:W.isFn K (.ref f)=true) (hv:mA name=none) (h:Q (.ref f,[.ref x]) s) :
   wpAny (model prog w) A (getMethod (.ref x) name pl) Q E s:=by
 obtain ⟨od,J,hl⟩:=I.look;exact W.method_fn X J (W.plainGet_of hg).1 (W.plainGet_of hg).2 hf (Hf.mp ht) (by show (W.lookIn name od).map (·.isSome)=some false; rw [hl,hv]; rfl) h
def cZA {ns:List Str} {Q:Unit->Shared->Prop} (X:K.In s.heap) (I:ObjM s.heap x dx C mA)
   (hs:W.findIn K (.ref C) "__setattr__"=some (some (.builtin "object.__setattr__"))) (hp:W.plainOver K C=true) (ht:W.takerIn K C name=some none) (hh:W.hasDictIn K C=true)
   (hw:PySem.Within mA ns) (hsz:ns.length<=sizeLine)
   (h:∀ h',ObjM h' x dx C (λy=>if y=name then some v else mA y)->Heap.SameBut dx s.heap h'->Q () { s with heap:=h',toks:=s.toks+2 }) :
   wpAny (model prog w) A (setAttr (.ref x) name v) Q E s:=by
 obtain ⟨od,J,hl⟩:=I.look;refine W.set_plain X J hs (W.osa_open (s:={ s with toks:=s.toks+1 }) (r:=none) X J hp ht λb=>?_)
 obtain ⟨cd,hc,hd'⟩:=W.any_some hh;have hx:s.heap.get? x=some ⟨.ref C,some dx,.plain,#[]⟩:=I.obj
 refine Ae (As (Ae (Ae (wpAny_loadPart hx (Ae (W.Looks.here (s:={ s with toks:=s.toks+1 }) (W.looks_clsIn X hc) ?_))))))
 rw [hd'];refine As (a:=some dx) (Ae (As (Ae ?_)));refine wpAny_nsSet1 (s:={ s with toks:=s.toks+1 }) I.ns λh' hn2 hs2=>?_
 obtain ⟨oD,esD,epD,hoD,hdD,hcD⟩:=hn2.count (PySem.Within.cons name v hw);refine Ae (wpAny_lookBehind hoD (by rw [hdD]; exact pastItsLine_dict (Bg hcD (by rw [Aw]; omega))) ?_)
 exact As (h _ ⟨(hs2.2 _ (Ne.symm I.ne)).trans I.obj,hn2,I.ne⟩ hs2)
def bJ3 {R:Result->Shared->Prop} {vs:List Value} {kw:List (Str×Value)} (X:K.In s.heap) (hm:W.makesIn K C=true)
   (hi:W.findIn K (.ref C) "__init__"=some (some (.ref f))) (hf:W.typeIn K (.ref f)=some (.type "function"))
   (h:codeAny (model prog w) (A.under (.builtin "type.__call__" ⟨.ref C::vs,kw⟩)) (.call (.ref f) ⟨.ref (s.heap.objs.size+1)::vs,kw⟩) (W.InitBack (s.heap.objs.size+1) R)
     { s with heap:=(s.heap.push W.emptyDict).push (W.instObj C s.heap.objs.size) }) :
   codeAny (model prog w) A (.call (.ref C) ⟨vs,kw⟩) R s:=by
 obtain ⟨hh,g,d,t,os⟩:=s;exact W.make_core (W.makes_of X hm) (W.looks_findIn X hi) (λself=>W.bind_fn X self hf) (.inl rfl) h
end
def gL (f:Str) (v:V):List (Str×V)->List (Str×V)
 | []=>[(f,v)]
 | (g,x)::r=>if g=f then (g,v)::r else (g,x)::gL f v r
def pL (f g:Str) (v:V):∀ fs:List (Str×V),(gL f v fs).lookup g=if g=f then some v else fs.lookup g
 | []=>by
   show List.lookup g [(f,v)]=_
   by_cases h:g=f
   . have hb:(g == f)=true:=Hf.mpr h
     simp only [List.lookup,hb,if_pos h]
   . have hb:(g == f)=false:=Cp.mpr h
     simp only [List.lookup,hb,if_neg h]
 | (k,x)::r=>by
   have ih:=pL f g v r
   rw [show gL f v ((k,x)::r)=(if k=f then (k,v)::r else (k,x)::gL f v r) from rfl]
   by_cases hk:k=f
   . rw [if_pos hk];by_cases h:g=k
     . have hb:(g == k)=true:=Hf.mpr h
       simp only [List.lookup,hb,if_pos (h.trans hk)]
     . have hb:(g == k)=false:=Cp.mpr h
       simp only [List.lookup,hb,if_neg (λe:g=f=>h (e.trans hk.symm))]
   . rw [if_neg hk];by_cases h:g=k
     . have hb:(g == k)=true:=Hf.mpr h
       simp only [List.lookup,hb,if_neg (λe:g=f=>hk (h.symm.trans e))]
     . have hb:(g == k)=false:=Cp.mpr h
       simp only [List.lookup,hb];exact ih
def oP (f:Str) (v:V):∀ fs:List (Str×V),f∈(gL f v fs).map (·.1)/\∀ g,g∈fs.map (·.1)->g∈(gL f v fs).map (·.1)
 | []=>⟨by simp [gL],λg h=>by simp at h⟩
 | (k,x)::r=>by
   obtain ⟨i1,i2⟩:=oP f v r;rw [show gL f v ((k,x)::r)=(if k=f then (k,v)::r else (k,x)::gL f v r) from rfl]
   by_cases hk:k=f
   . rw [if_pos hk];subst hk;exact ⟨by simp,λg h=>by simpa using h⟩
   . rw [if_neg hk];refine ⟨?_,λg h=>?_⟩
     . rw [Au];exact Ak _ i1
     . rw [Au] at h ⊢;rcases Ay.mp h with e | e
       . exact Ay.mpr (.inl e)
       . exact Ak _ (i2 g e)
def pH (f:Str) (v:V):∀ fs:List (Str×V),(gL f v fs).length<=fs.length+1
 | []=>by simp [gL]
 | (k,x)::r=>by
   have ih:=pH f v r
   rw [show gL f v ((k,x)::r)=(if k=f then (k,v)::r else (k,x)::gL f v r) from rfl]
   by_cases hk:k=f
   . rw [if_pos hk,Aw,Aw]; omega
   . rw [if_neg hk,Aw,Aw]; omega
def RelO.some_of {v:V} {o:Option Value} (r:RelO (some v) o):∃ u,o=some u/\RelV v u:=by
 cases o with
 | none=>exact (show False from r).elim
 | some u=>exact ⟨u,rfl,r⟩
def RelO.none_of {o:Option Value} (r:RelO none o):o=none:=by
 cases o with
 | none=>rfl
 | some u=>exact (show False from r).elim
def bXD {v:V} {u:Value} (r:RelV v u):W.handedIn u=true:=by
 cases v with
 | non=>cases (show u=Value.none from r); rfl
 | bl b=>cases (show u=Value.bool b from r); rfl
 | int i=>obtain ⟨t,e⟩:=(show ∃ t,u=Value.int i t from r); cases e; rfl
 | str x=>obtain ⟨t,e⟩:=(show ∃ t,u=Value.str x t from r); cases e; rfl
 | byt b=>obtain ⟨t,e⟩:=(show ∃ t,u=Value.bytes b t from r); cases e; rfl
 | flt b=>obtain ⟨t,e⟩:=(show ∃ t,u=Value.float b t from r); cases e; rfl
 | ref a=>cases (show u=Value.ref a from r); rfl
 | ty n=>cases (show u=Value.type n from r); rfl
section
variable {P:Program} {w:World} {H:Hp} {h:Heap} {a C dx:Addr} {fs:List (Str×V)}
def qF (hok:HOk P w H h) (e:H a=some (.ins C dx fs)):∃ mA,ObjM h a dx C mA/\(∀ f,RelO (fs.lookup f) (mA f))/\PySem.Within mA (fs.map (·.1))/\fs.length<=1000/\H dx=some (.own a):=by
 obtain ⟨d,z,ne,ob,mA,n,r,q⟩:=(show ObjOk P w H h a (.ins C dx fs) from hok a _ e);exact ⟨mA,⟨ob,n,ne⟩,r,q,z,d⟩
end
structure Cls (K:W.Frag) (C:Addr):Prop where
 pg:W.plainGet K C Str.empty=true
 hd:W.hasDictIn K C=true
 po:W.plainOver K C=true
 sa:W.findIn K (.ref C) "__setattr__"=some (some (.builtin "object.__setattr__"))
def Cls.get {K:W.Frag} {C:Addr} (c:Cls K C) (f:Str):W.plainGet K C f=true:=c.pg
def NoAttr (K:W.Frag) (C:Addr) (f:Str):Prop:=W.findIn K (.ref C) f=some none
def NoAttr.taker {K:W.Frag} {C:Addr} {f:Str} (n:NoAttr K C f):W.takerIn K C f=some none:=by
 unfold W.takerIn;rw [show W.findIn K (.ref C) f=some none from n];rfl
structure Meth (K:W.Frag) (C:Addr) (m:Str) (f:Addr):Prop where
 at_:W.findIn K (.ref C) m=some (some (.ref f))
 fn:W.isFn K (.ref f)=true
 kp:W.keepIn K (.ref f)=true
section
variable {X:Cx} {pins:Q2} {σ:St} {H:Hp} {s:Shared} {a C dx:Addr} {fs:List (Str×V)} {f:Str} {v:V} {A:Around} {E:Q0}
def aXF {b:Bool} {Q:Q0} (I:Inv X pins σ H s) (e:H a=some (.ins C dx fs)) (c:Cls X.K C) (n:NoAttr X.K C f) (l:fs.lookup f=some v)
   (h:∀ u s',Inv X pins σ H s'->RelV v u->Q u s'):wpAny (model X.prog X.w) A (getAttr (.ref a) f b) Q E s:=by
 obtain ⟨mA,O,r,_,_,_⟩:=qF I.hok e;obtain ⟨u,hu,ru⟩:=RelO.some_of (v:=v) (o:=mA f) (by rw [<-l]; exact r f)
 exact cJZ I.kIn O (c.get f) c.hd n hu (bXD ru) (h u _ (I.tok _) ru)
def mM {m:Str} {g:Addr} {pl:Sem Bool} {Q:Value×List Value->Shared->Prop} (I:Inv X pins σ H s) (e:H a=some (.ins C dx fs)) (c:Cls X.K C) (k:Meth X.K C m g) (l:fs.lookup m=none)
   (h:Q (.ref g,[.ref a]) s):wpAny (model X.prog X.w) A (getMethod (.ref a) m pl) Q E s:=by
 obtain ⟨mA,O,r,_,_,_⟩:=qF I.hok e;have hn:mA m=none:=RelO.none_of (by rw [<-l]; exact r m)
 exact cQ9 I.kIn O (c.get m) k.at_ k.fn hn h
def aQD {y:V} {u:Value} {Q:Unit->Shared->Prop} (I:Inv X pins σ H s) (e:H a=some (.ins C dx fs)) (c:Cls X.K C) (n:NoAttr X.K C f) (hl:fs.length<1000) (ry:RelV y u)
   (h:∀ s',Inv X pins σ (upd H a (.ins C dx (gL f y fs))) s'->Q () s'):wpAny (model X.prog X.w) A (setAttr (.ref a) f u) Q E s:=by
 obtain ⟨mA,O,r,wi,_,ho⟩:=qF I.hok e;have hz:(fs.map (·.1)).length<=sizeLine:=by rw [Ab,Hn]; omega
 refine cZA I.kIn O c.sa c.po n.taker c.hd wi hz λh' O' sb=>h _ ?_;have hd:∃ o,h'.get? dx=some o:=let ⟨o,_,_,e',_⟩:=O'.ns; ⟨o,e'⟩
 refine I.write (x:=a) (e:=dx) (by rw [e]; exact True.intro) (.inr ho) (λb q hb z=>(sb.2 b hb).trans z) hd ?_
 refine ⟨by rw [aH O.ne]; exact ho,?_,O.ne,O'.obj,_,O'.ns,λg=>?_,λg hg=>?_⟩
 . have:=pH f y fs; omega
 . show RelO ((gL f y fs).lookup g) (if g=f then some u else mA g)
   rw [pL];by_cases q:g=f
   . rw [if_pos q,if_pos q]; exact ry
   . rw [if_neg q,if_neg q]; exact r g
 . by_cases q:g=f
   . rw [q]; exact (oP f y fs).1
   . refine (oP f y fs).2 g (wi g λz=>hg ?_);show (if g=f then some u else mA g)=none
     rw [if_neg q]; exact z
def Inv.made (I:Inv X pins σ H s):Inv X pins σ (upd (upd H s.heap.objs.size (.own (s.heap.objs.size+1))) (s.heap.objs.size+1) (.ins C s.heap.objs.size []))
   { s with heap:=(s.heap.push W.emptyDict).push (W.instObj C s.heap.objs.size) }:=by
 have e1:(s.heap.push W.emptyDict).get? s.heap.objs.size=some W.emptyDict:=Ba s.heap rfl
 have e2:((s.heap.push W.emptyDict).push (W.instObj C s.heap.objs.size)).get? (s.heap.objs.size+1)=some (W.instObj C s.heap.objs.size):=by
   have:=Ba (s.heap.push W.emptyDict) (o:=W.instObj C s.heap.objs.size) rfl
   rwa [Gb] at this
 have e3:(s.heap.push W.emptyDict).Ns s.heap.objs.size (λ_=>none):=⟨W.emptyDict,#[],_,e1,rfl,(λe he=>absurd he (by simp)),λ_=>rfl⟩
 have I1:=I.laid (a:=s.heap.objs.size) (o:=.own (s.heap.objs.size+1)) (h':=s.heap.push W.emptyDict) (t':=s.toks) (λb u q=>Ai _ q) (Ah _) ⟨_,e1⟩
 refine I1.laid (a:=s.heap.objs.size+1) (o:=.ins C s.heap.objs.size []) (t':=s.toks) (λb u q=>Ai _ q) (Nat.le_of_eq (Gb _ _)) ?_;have ne:s.heap.objs.size≠s.heap.objs.size+1:=Bo (Nat.lt_succ_self _)
 refine ⟨by rw [aH ne,aD],Cr _,ne,e2,λ_=>none,(Heap.Ns1.of_empty e3).at λo q=>Ai _ q,λ_=>True.intro,λy hy=>absurd rfl hy⟩
def aZ0 {prog:Program} {w:World} {env:Env} {e:Expr} {f:Str} {pos:Pos} {s:Shared} {Q:Q0} (hb:attributeBase e f env (eval e env)=eval e env)
   (h:wpAny (model prog w) A (eval e env) (λo s₁=>wpAny (model prog w) A (getAttr o f true) Q E s₁) E s):wpAny (model prog w) A (eval (.Attribute e f pos) env) Q E s :=
 Attribute_any_ h (by rw [arm_eval_Attribute,hb])
end
def eZG (K:W.Frag) (ta:TE) (f:Str):TE:=λσ H Q=>ta σ H λx H1=>∃ a C dx fs v,x=.ref a/\H1 a=some (.ins C dx fs)/\Cls K C/\NoAttr K C f/\fs.lookup f=some v/\Q v H1
def eZZ (K:W.Frag) (ta tv:TE) (f:Str):TS:=λD σ H=>tv σ H λy H1=>ta σ H1 λx H2=>∃ a C dx fs,x=.ref a/\H2 a=some (.ins C dx fs)/\Cls K C/\NoAttr K C f/\fs.length<1000/\
 D.nx σ (upd H2 a (.ins C dx (gL f y fs)))
section
variable {X:Cx} {o e value:Expr} {f:Str} {pos pos':Pos} {ta tv:TE}
def oU (he:PE X e ta) (hb:attributeBase e f X.env (eval e X.env)=eval e X.env):PE X (.Attribute e f pos) (eZG X.K ta f):=by
 intro pins s σ H Q I h;refine aZ0 hb (thn (he pins s σ H _ I h) λu s1 ⟨x,H1,I1,rx,a,C,dx,fs,v,ex,ea,c,n,l,q⟩=>?_);subst ex;obtain rfl:u=Value.ref a:=rx;exact aXF I1 ea c n l λu' s2 I2 ru=>⟨v,H1,I2,ru,q⟩
def kU (ha:PE X o ta) (hv:PE X value tv) (hs:swapsWith value (some (.Attribute o f pos')) pos.line X.env=pure false):PS X (.Assign [.Attribute o f pos'] value pos) (eZZ X.K ta tv f):=by
 intro pins s σ H D I h;refine plainObj_wpAny_Assign_Attribute (thn (hv pins s σ H _ I h) λu s1 ⟨y,H1,I1,ry,q⟩=>thn (ha pins s1 σ H1 _ I1 q) λov s2 ⟨x,H2,I2,rx,a,C,dx,fs,ex,ea,c,n,l,q2⟩=>?_) hs;subst ex;obtain rfl:ov=Value.ref a:=rx;exact aQD I2 ea c n l ry λs3 I3=>⟨σ,_,I3,q2⟩
def dXG {pl:Sem Bool} {m:Str} {apos:Pos} {args:List Expr} {pins:Q2} {s:Shared} {σ:St} {H:Hp} {Q:Q0} {te:TE} (he:PE X e te) (I:Inv X pins σ H s)
   (h:te σ H λx H1=>∃ a C dx fs g,x=.ref a/\H1 a=some (.ins C dx fs)/\Cls X.K C/\Meth X.K C m g/\fs.lookup m=none/\
     ∀ s1,Inv X pins σ H1 s1->wpAny (model X.prog X.w) X.A (callWith pos (.ref g) [.ref a] (backTo pos (starEach args X.env)) (backToKw pos (keywordEach [] X.env))) Q X.xe s1)
   (ht:eval (.Call (.Attribute e m apos) args [] pos) X.env=(do
     let ov <-eval e X.env
     standAt apos.atName
     let (f,first) <-holding [ov] (getMethod ov m pl)
     callWith pos f first (backTo pos (starEach args X.env)) (backToKw pos (keywordEach [] X.env)))) :
   wpAny (model X.prog X.w) X.A (eval (.Call (.Attribute e m apos) args [] pos) X.env) Q X.xe s:=by
 refine Fp (pl:=pl) (thn (he pins s σ H _ I h) λu s1 ⟨x,H1,I1,rx,a,C,dx,fs,g,ex,ea,c,k,l,q⟩=>?_) ht;subst ex;obtain rfl:u=Value.ref a:=rx;exact mM I1 ea c k l (q s1 I1)
end
section
variable {X:Cx} {pins:Q2} {σ:St} {H:Hp} {s:Shared} {A:Around} {E:Q0} {Q:Q0} {c:Value} {b:Bool}
inductive TyOf (K:W.Frag) (H:Hp):V->Value->Prop where
 | non:TyOf K H .non (.type "NoneType")
 | bl (x:Bool):TyOf K H (.bl x) (.type "bool")
 | int (i:Int):TyOf K H (.int i) (.type "int")
 | str (x:Str):TyOf K H (.str x) (.type "str")
 | flt (x:UInt64):TyOf K H (.flt x) (.type "float")
 | lst {a:Addr} {xs:List V} (e:H a=some (.lst xs)):TyOf K H (.ref a) (.type "list")
 | frz {a:Addr} {o:Obj} {xs:List V} (e:H a=some (.frz o (.lst xs))):TyOf K H (.ref a) (.type "list")
 | tup {a:Addr} {xs:List V} (e:H a=some (.tup xs)):TyOf K H (.ref a) (.type "tuple")
 | dK {a:Addr} {kvs:List (Key×V)} (e:H a=some (.dK kvs)):TyOf K H (.ref a) (.type "dict")
 | dT {a:Addr} {kvs:List (List Key×V)} (e:H a=some (.dT kvs)):TyOf K H (.ref a) (.type "dict")
 | ins {a C dx:Addr} {fs:List (Str×V)} (e:H a=some (.ins C dx fs)) (cl:Cls K C) (ha:W.findIn K (.ref C) "__class__"=some (some (.builtin "object.__class__")))
     (hn:W.specialIn K (.builtin "object.__class__") "__get__"=some (some (.builtin "getset_descriptor.__get__"))) (htk:W.takesIn K (.builtin "object.__class__")=some true)
     (hm:W.mroIn K C (.type "object")=some true):TyOf K H (.ref a) (.ref C)
def bXA {x:V} {u t:Value} (I:Inv X pins σ H s) (rx:RelV x u) (ty:TyOf X.K H x t) (e:W.kitOne X.K t c=some b) (h:∀ tk,Q (.bool b) { s with toks:=tk }) :
   wpAny (model X.prog X.w) A (call (.builtin "isinstance") [u,c]) Q E s:=by
 cases ty with
 | non=>cases (show u=Value.none from rx); exact Dd W.kitx_none I.kIn True.intro e (λz=>nomatch z) h
 | bl y=>cases (show u=Value.bool y from rx); exact Dd W.kitx_bool I.kIn True.intro e (λz=>nomatch z) h
 | int i=>obtain ⟨t,q⟩:=(show ∃ t,u=Value.int i t from rx); cases q; exact Dd W.kitx_int I.kIn True.intro e (λz=>nomatch z) h
 | str y=>obtain ⟨t,q⟩:=(show ∃ t,u=Value.str y t from rx); cases q; exact Dd W.kitx_str I.kIn True.intro e (λz=>nomatch z) h
 | flt y=>obtain ⟨t,q⟩:=(show ∃ t,u=Value.float y t from rx); cases q; exact Dd W.kitx_float I.kIn True.intro e (λz=>nomatch z) h
 | @lst a xs ea=>
   cases (show u=Value.ref a from rx);obtain ⟨_,_,n,_,h1⟩:=(show ObjOk X.prog X.w H s.heap a (.lst xs) from I.hok a _ ea);exact Dd W.kitx_list I.kIn ⟨_,h1,rfl⟩ e (λz=>nomatch z) h
 | @frz a ob xs ea=>
   cases (show u=Value.ref a from rx);obtain ⟨_,_,_,n,_,h1⟩:=(show ObjOk X.prog X.w H s.heap a (.frz ob (.lst xs)) from I.hok a _ ea);exact Dd W.kitx_list I.kIn ⟨_,h1,rfl⟩ e (λz=>nomatch z) h
 | @tup a xs ea=>
   cases (show u=Value.ref a from rx);obtain ⟨_,_,_,p⟩:=(show ObjOk X.prog X.w H s.heap a (.tup xs) from I.hok a _ ea);obtain ⟨o,h1,h2,_⟩:=p;exact Dd W.kitx_tuple I.kIn ⟨o,h1,h2⟩ e (λz=>nomatch z) h
 | @dK a kvs ea=>
   cases (show u=Value.ref a from rx);obtain ⟨_,_,vs,_,p⟩:=(show ObjOk X.prog X.w H s.heap a (.dK kvs) from I.hok a _ ea);obtain ⟨o,es,ep,h1,h2,_⟩:=p;exact Dd W.kitx_dict I.kIn ⟨o,h1,h2.1⟩ e (λz=>nomatch z) h
 | @dT a kvs ea=>
   cases (show u=Value.ref a from rx);obtain ⟨_,_,xs,_,o,es,ep,h1,h2,_⟩:=(show ObjOk X.prog X.w H s.heap a (.dT kvs) from I.hok a _ ea);exact Dd W.kitx_dict I.kIn ⟨o,h1,h2.1⟩ e (λz=>nomatch z) h
 | @ins a C dx fs ea cl ha hn htk hm=>
   cases (show u=Value.ref a from rx);obtain ⟨mA,O,_⟩:=qF I.hok ea;obtain ⟨od,J,_⟩:=O.look;exact Dd (W.kitx_own (cl.get _) cl.hd ha hn htk hm) I.kIn J e (λz=>nomatch z) h
end
structure Room (k:Nat) (A:Around):Prop where
 hd:A.handled=none
 dp:A.depth+3 * k+5<recursionLimit
 un:A.units+16 * k+200<cLine
def Room.mono {j k:Nat} {A:Around} (r:Room k A) (h:j<=k):Room j A:=⟨r.hd,by have:=r.dp; omega,by have:=r.un; omega⟩
def Room.deeper {k:Nat} {A:Around} (r:Room (k+1) A) (env:Env):Room k (A.deeper env) :=
 ⟨r.hd,by have:=r.dp; show A.depth+1+3 * k+5<_; omega,by have:=r.un; show A.units+3+16 * k+200<_; omega⟩
def Room.in1 {k:Nat} {A:Around} (r:Room (k+1) A):Room k A.in1 :=
 ⟨r.hd,by have:=r.dp; show A.depth+3 * k+5<_; omega,by have:=r.un; show A.units+1+16 * k+200<_; omega⟩
def aX6 {A:Around} {C:Addr} {us:List Value} {kw:List (Str×Value)}:(A.under (.builtin "type.__call__" ⟨.ref C::us,kw⟩)).depth=A.depth+1:=by
 first | rfl | simp [Around.under,Code.weight,Code.isCreation,Code.isGuard,Code.isCaller,Code.frames,Code.isFrame,guardIds]
def aX4 {A:Around} {C:Addr} {us:List Value} {kw:List (Str×Value)}:(A.under (.builtin "type.__call__" ⟨.ref C::us,kw⟩)).units=A.units+1:=by
 first | rfl | simp [Around.under,Code.cUnits,Code.frames,Code.isFrame]
def Room.make {k:Nat} {A:Around} (r:Room (k+1) A) (C:Addr) (us:List Value) (kw:List (Str×Value)):Room k (A.under (.builtin "type.__call__" ⟨.ref C::us,kw⟩)) :=
 ⟨r.hd,by have:=r.dp; rw [aX6]; omega,by have:=r.un; rw [aX4]; omega⟩
def Room.depth {k:Nat} {A:Around} (r:Room k A):A.depth<recursionLimit:=by have:=r.dp; omega
def Room.units {k:Nat} {A:Around} (r:Room k A):A.units+64<cLine:=by have:=r.un; omega
def Room.units0 {k:Nat} {A:Around} (r:Room k A):A.units<cLine:=by have:=r.un; omega
def bXG:TA:=λ_ H Q=>Q [] H
def aZF (ta:TE) (tr:TA):TA:=λσ H Q=>ta σ H λx H1=>tr σ H1 λxs H2=>Q (x::xs) H2
section
variable {X:Cx} {e:Expr} {es:List Expr} {te:TE} {t:TA} {pos:Pos}
def aB:PA X [] bXG:=λ_ _ _ _ H Q I h=>Calls.spliced_nil ⟨[],H,I,.nil,h⟩
def aA (ha:PE X e te) (hr:PA X es t) (hs:starEach (e::es) X.env=(false,eval e X.env)::starEach es X.env:=by rfl):PA X (e::es) (aZF te t):=by
 intro pos pins s σ H Q I h;rw [hs];show wpAny _ _ (spliced ((false,eval e X.env)::backTo pos (starEach es X.env))) _ _ s
 refine Calls.spliced_cons (thn (ha pins s σ H _ I h) λu s1 ⟨x,H1,I1,r1,q1⟩=>?_);exact thn (hr pos pins s1 σ H1 _ I1 q1) λus s2 ⟨xs,H2,I2,r2,q2⟩=>⟨x::xs,H2,I2,.cons r1 r2,q2⟩
def eXD (t:TA):TE:=λσ H Q=>t σ H λxs H1=>xs.length<=sizeLine/\∀ p,H1 p=none->Q (.ref p) (upd H1 p (.tup xs))
def eZR (t:TA):TE:=λσ H Q=>t σ H λxs H1=>xs.length<=sizeLine/\∀ p,H1 p=none->Q (.ref p) (upd H1 p (.lst xs))
def gG {x1} (h:PA X es t):PE X (.Tuple es x1 pos) (eXD t):=by
 intro pins s σ H Q I hq;refine wpAny_Tuple_spliced (thn (h pos pins s σ H _ I hq) λus s1 ⟨xs,H1,I1,r,z,q⟩=>⟨by rw [<-r.length]; exact z,?_⟩)
 have hf:H1 s1.heap.objs.size=none:=I1.hok.fresh (Ah _)
 refine ⟨.ref s1.heap.objs.size,upd H1 s1.heap.objs.size (.tup xs),I1.laid (t':=s1.toks) (λb u e=>Ai _ e) (Ah _) ?_,rfl,q _ hf⟩;exact ⟨z,us,r,⟨_,Ba _ rfl,rfl,_,rfl⟩⟩
def bV (h:PA X es t):PE X (.List es pos) (eZR t):=by
 intro pins s σ H Q I hq;refine wpAny_List_spliced (thn (h pos pins s σ H _ I hq) λus s1 ⟨xs,H1,I1,r,z,q⟩=>⟨by rw [<-r.length]; exact z,?_⟩)
 have hf:H1 s1.heap.objs.size=none:=I1.hok.fresh (Ah _)
 refine ⟨.ref s1.heap.objs.size,upd H1 s1.heap.objs.size (.lst xs),I1.laid (t':=s1.toks) (λb u e=>Ai _ e) (Ah _) ?_,rfl,q _ hf⟩;exact ⟨z,us,0,r,Ba _ rfl⟩
end
abbrev Sp:=List V->Hp->VK->XK->Prop
abbrev CXT:=List Env->Hp->Shared->XK->Value->Shared->Prop
structure Env0 (P:Program) (w:World) (K:W.Frag) (mg:Str->Option Value) (base:Heap) (A:Around) (outer:List Env) (s:Shared) (H:Hp):Prop where
 frames:A.frames=some outer
 mod:Mod K mg base
 bs:∀ b o,base.get? b=some o->s.heap.get? b=some o/\H b=none
 bsz:base.objs.size<=s.heap.objs.size
 funs:s.heap.FunFrames base outer
 frf:∀ b∈frs outer,H b=none
 hok:HOk P w H s.heap
 bare:AllBare s.gens
def CE (outer:List Env) (P:Program) (w:World) (H:Hp) (s:Shared) (Q:VK) (u:Value) (s':Shared):Prop :=
 ∃ v H',s'.os=s.os/\AllBare s'.gens/\Un (frs outer) [] H H' s.heap s'.heap/\HOk P w H' s'.heap/\RelV v u/\Q v H'
def CR (CX:CXT) (outer:List Env) (P:Program) (w:World) (H:Hp) (s:Shared) (Q:VK) (E:XK) (r:Result) (s':Shared):Prop :=
 match r with
 | .ok (.ret u)=>CE outer P w H s Q u s'
 | .ok _=>False
 | .error e=>CX outer H s E e s'
structure FnOk (P:Program) (w:World) (K:W.Frag) (mg:Str->Option Value) (base:Heap) (CX:CXT) (k:Nat) (f:Addr) (fd:FuncData) (ps:List Str) (sp:Sp):Prop where
 len:∀ vs H Q E,sp vs H Q E->vs.length=ps.length
 run:∀ (A:Around) (outer:List Env) (s:Shared) (H:Hp) (args:Args) (us:List Value) (vs:List V) (Q:VK) (E:XK),Room k A->Env0 P w K mg base A outer s H->BindsTo s fd args (ps.zip us)->Vals vs us->sp vs H Q E->
   codeAny (model P w) A (.call (.ref f) args) (CR CX outer P w H s Q E) s
def FnOk.mono {P:Program} {w:World} {K:W.Frag} {mg:Q4} {base:Heap} {CX:CXT} {j k:Nat} {f:Addr} {fd:FuncData} {ps:List Str} {sp:Sp} (F:FnOk P w K mg base CX j f fd ps sp) (h:j<=k) :
   FnOk P w K mg base CX k f fd ps sp:=⟨F.len,λA outer s H args us vs Q E hr=>F.run A outer s H args us vs Q E (hr.mono h)⟩
def FnOk.imp {P:Program} {w:World} {K:W.Frag} {mg:Q4} {base:Heap} {CX:CXT} {k:Nat} {f:Addr} {fd:FuncData} {ps:List Str} {sp sp':Sp} (F:FnOk P w K mg base CX k f fd ps sp)
   (h:∀ vs H Q E,sp' vs H Q E->sp vs H Q E):FnOk P w K mg base CX k f fd ps sp' :=
 ⟨λvs H Q E q=>F.len vs H Q E (h _ _ _ _ q),λA outer s H args us vs Q E hr he hb hv hs=>F.run A outer s H args us vs Q E hr he hb hv (h _ _ _ _ hs)⟩
def Env0.make {P:Program} {w:World} {K:W.Frag} {mg:Q4} {base:Heap} {A:Around} {outer:List Env} {s:Shared} {H:Hp} (e:Env0 P w K mg base A outer s H) (C:Addr) (us:List Value) (kw:List (Str×Value)) :
   Env0 P w K mg base (A.under (.builtin "type.__call__" ⟨.ref C::us,kw⟩)) outer s H:=⟨by first | exact e.frames | (simpa [Around.under,Code.envs,Code.isFrame,pushEnvs] using e.frames),e.mod,e.bs,e.bsz,e.funs,e.frf,e.hok,e.bare⟩
def Env0.in1 {P:Program} {w:World} {K:W.Frag} {mg:Q4} {base:Heap} {A:Around} {outer:List Env} {s:Shared} {H:Hp} (e:Env0 P w K mg base A outer s H) :
   Env0 P w K mg base A.in1 outer s H:=⟨e.frames,e.mod,e.bs,e.bsz,e.funs,e.frf,e.hok,e.bare⟩
section
variable {X:Cx} {pins:Q2} {σ:St} {H:Hp} {s s':Shared}
def Inv.env0 (I:Inv X pins σ H s):Env0 X.prog X.w X.K X.mg X.base X.A X.stack s H :=
 ⟨I.ok.frames,I.ok.mod,I.bs,Bg I.ok.bsz I.sz,I.stack,I.stkFree,I.hok,I.bare⟩
def Inv.after {Q:VK} {u:Value} (I:Inv X pins σ H s) (h:CE X.stack X.prog X.w H s Q u s'):EP X pins σ Q u s':=by
 obtain ⟨v,H',os,bare,un,hok,r,q⟩:=h;obtain ⟨hh,g,d,t,os'⟩:=s';obtain rfl:os'=s.os:=os;exact ⟨v,H',I.call (h':=hh) (g':=g) (d':=d) (t':=t) (ch:=[]) un hok bare (λb z=>absurd z (by simp)),r,q⟩
end
def aZB (sp:Sp) (dvs:List V) (E:XK) (t:TA):TE:=λσ H Q=>t σ H λvs H1=>sp (vs++dvs) H1 Q E
def bX5 (C:Addr) (m:Str) (sp:Sp) (dvs:List V) (E:XK) (ta:TE) (t:TA):TE:=λσ H Q=>ta σ H λx H1=>∃ a dx fs,x=.ref a/\H1 a=some (.ins C dx fs)/\fs.lookup m=none/\
 t σ H1 λvs H2=>sp (x::(vs++dvs)) H2 Q E
def bJ4 (C:Addr) (sp:Sp) (dvs:List V) (E:XK) (t:TA):TE:=λσ H Q=>t σ H λvs H1=>∀ x dx,H1 x=none->H1 dx=none->dx≠x->
 sp (.ref x::(vs++dvs)) (upd (upd H1 dx (.own x)) x (.ins C dx [])) (λv H2=>v=.non/\Q (.ref x) H2) E
def Binds (K:W.Frag) (fd:FuncData) (ps:List Str) (ds:List Value):Prop :=
 ∀ (s:Shared) (us:List Value),K.In s.heap->(us++ds).length=ps.length->BindsTo s fd ⟨us,[]⟩ (ps.zip (us++ds))
def Binds.all {K:W.Frag} {fd:FuncData} {ps:List Str} (h:∀ us:List Value,us.length=ps.length->bindArgs fd ⟨us,[]⟩=pure (ps.zip us)):Binds K fd ps []:=λs us _ hl=>by
 rw [Bi] at hl ⊢;exact .of_eq (h us hl)
def jQ (CX:CXT) (X:Cx) (E:XK):Prop:=∀ (pins:List (Addr×Obj)) (σ:St) (H:Hp) (s:Shared) (e:Value) (s':Shared),Inv X pins σ H s->CX X.stack H s E e s'->X.xe e s'
section
variable {X:Cx} {CX:CXT} {k:Nat} {f C:Addr} {fd:FuncData} {ps:List Str} {sp:Sp} {dvs:List V} {ds:List Value} {E:XK} {x m:Str} {p pos apos:Pos} {e o:Expr} {es:List Expr} {ta:TE} {t:TA}
def cXH {pins:Q2} {σ:St} {H:Hp} {s:Shared} {Q:VK} {us:List Value} {vs:List V} (F:FnOk X.prog X.w X.K X.mg X.base CX k f fd ps sp) (hr:Room k X.A) (hb:Binds X.K fd ps ds) (hd:Vals dvs ds) (hx:jQ CX X E)
   (I:Inv X pins σ H s) (r:Vals vs us) (h:sp (vs++dvs) H Q E):wpAny (model X.prog X.w) X.A (call (.ref f) us) (EP X pins σ Q) X.xe s:=by
 have r2:Vals (vs++dvs) (us++ds):=r.append hd
 have hl:(us++ds).length=ps.length:=by rw [<-r2.length]; exact F.len _ _ _ _ h
 refine Gc (Et (F.run X.A X.stack s H ⟨us,[]⟩ (us++ds) (vs++dvs) Q E hr I.env0 (hb s us I.kIn hl) r2 h) λr s' hq=>?_);cases r with
 | error e=>exact hx pins σ H s e s' I hq
 | ok fl=>
   cases fl with
   | ret u=>exact I.after hq
   | next=>exact False.elim hq
   | brk=>exact False.elim hq
   | cont=>exact False.elim hq
def aZO (F:FnOk X.prog X.w X.K X.mg X.base CX k f fd ps sp) (hr:Room k X.A) (hg:Gl X x) (hm:X.mg x=some (.ref f)) (hk:W.keepIn X.K (.ref f)=true) (hb:Binds X.K fd ps ds) (hd:Vals dvs ds) (hx:jQ CX X E)
   (ha:PA X (e::es) t) (hdb:(x == ("__debug__" : Str))=false:=by decide) (he:starEach (e::es) X.env=(false,eval e X.env)::starEach es X.env:=by rfl) (hpl:(backTo pos (starEach es X.env)).any (·.1)=false:=by rfl) :
   PE X (.Call (.Name x p) (e::es) [] pos) (aZB sp dvs E t):=by
 intro pins s σ H Q I h;refine Dp (gR I hg hm ?_ hdb);refine Fi (h₀:=X.base) I.ok.mod.kin hk (thn (ha pos pins s σ H _ I h) λus s1 ⟨vs,H1,I1,r,q⟩=>⟨I1.kIn,?_⟩) he hpl;exact cXH F hr hb hd hx I1 r q
def cQ4 {pl:Sem Bool} (he:PE X o ta) (c:Cls X.K C) (hm:Meth X.K C m f) (F:FnOk X.prog X.w X.K X.mg X.base CX k f fd ps sp) (hr:Room k X.A) (hb:Binds X.K fd ps ds) (hd:Vals dvs ds) (hx:jQ CX X E)
   (ht:eval (.Call (.Attribute o m apos) [] [] pos) X.env=(do
     let ov <-eval o X.env
     standAt apos.atName
     let (f,first) <-holding [ov] (getMethod ov m pl)
     callWith pos f first (backTo pos (starEach [] X.env)) (backToKw pos (keywordEach [] X.env))):=by rfl) :
   PE X (.Call (.Attribute o m apos) [] [] pos) (bX5 C m sp dvs E ta bXG):=by
 intro pins s σ H Q I h;refine Fp (pl:=pl) (thn (he pins s σ H _ I h) λu s1 ⟨x,H1,I1,rx,a,dx,fs,ex,ea,l,q⟩=>?_) ht;subst ex;obtain rfl:u=Value.ref a:=rx;refine mM I1 ea c hm l ?_;exact W.callWith_K0 (first:=[.ref a]) I1.kIn hm.kp (cXH (us:=[.ref a]) (vs:=[.ref a]) F hr hb hd hx I1 (.cons rfl .nil) q)
structure Mk (K:W.Frag) (C f:Addr):Prop where
 makes:W.makesIn K C=true
 init:W.findIn K (.ref C) "__init__"=some (some (.ref f))
 fn:W.isFn K (.ref f)=true
 kp:W.keepIn K (.ref C)=true
def bZN {pins:Q2} {σ:St} {H:Hp} {s:Shared} {Q:VK} {us:List Value} {vs:List V} (M:Mk X.K C f) (F:FnOk X.prog X.w X.K X.mg X.base CX k f fd ps sp) (hr:Room (k+1) X.A) (hb:Binds X.K fd ps ds) (hd:Vals dvs ds)
   (hx:jQ CX X E) (I:Inv X pins σ H s) (r:Vals vs us)
   (h:∀ x dx,H x=none->H dx=none->dx≠x->sp (.ref x::(vs++dvs)) (upd (upd H dx (.own x)) x (.ins C dx [])) (λv H2=>v=.non/\Q (.ref x) H2) E) :
   wpAny (model X.prog X.w) X.A (call (.ref C) us) (EP X pins σ Q) X.xe s:=by
 have hq:=h (s.heap.objs.size+1) s.heap.objs.size (I.hok.fresh (Nat.le_succ _)) (I.hok.fresh (Ah _)) (Bo (Nat.lt_succ_self _))
 have I2:=Inv.made (C:=C) I
 have r2:Vals (V.ref (s.heap.objs.size+1)::(vs++dvs)) (Value.ref (s.heap.objs.size+1)::(us++ds)):=.cons rfl (r.append hd)
 have hl:(Value.ref (s.heap.objs.size+1)::us++ds).length=ps.length:=by
   have e:=r2.length
   rw [F.len _ _ _ _ hq] at e;exact e.symm
 refine Gc (bJ3 (f:=f) I.kIn M.makes M.init (Hf.mp M.fn) (Et (F.run _ X.stack _ _ ⟨Value.ref (s.heap.objs.size+1)::us,[]⟩ (Value.ref (s.heap.objs.size+1)::(us++ds)) _ _ E (hr.make C us [])
   (I2.env0.make C us []) (hb _ (Value.ref (s.heap.objs.size+1)::us) I2.kIn hl) r2 hq) λr s' hq'=>?_))
 cases r with
 | error e=>exact hx pins σ _ _ e s' I2 hq'
 | ok fl=>
   cases fl with
   | ret u=>
     obtain ⟨v,H',I3,rv,ev,q3⟩:=I2.after hq';subst ev;exact ⟨rv,⟨V.ref (s.heap.objs.size+1),H',I3,rfl,q3⟩⟩
   | next=>exact False.elim hq'
   | brk=>exact False.elim hq'
   | cont=>exact False.elim hq'
def cZM (M:Mk X.K C f) (F:FnOk X.prog X.w X.K X.mg X.base CX k f fd ps sp) (hr:Room (k+1) X.A) (hg:Gl X x) (hm:X.mg x=some (.ref C)) (hb:Binds X.K fd ps ds) (hd:Vals dvs ds) (hx:jQ CX X E)
   (ha:PA X (e::es) t) (hdb:(x == ("__debug__" : Str))=false:=by decide) (he:starEach (e::es) X.env=(false,eval e X.env)::starEach es X.env:=by rfl) (hpl:(backTo pos (starEach es X.env)).any (·.1)=false:=by rfl) :
   PE X (.Call (.Name x p) (e::es) [] pos) (bJ4 C sp dvs E t):=by
 intro pins s σ H Q I h;refine Dp (gR I hg hm ?_ hdb);refine Fi (h₀:=X.base) I.ok.mod.kin M.kp (thn (ha pos pins s σ H _ I h) λus s1 ⟨vs,H1,I1,r,q⟩=>⟨I1.kIn,?_⟩) he hpl;exact bZN M F hr hb hd hx I1 r q
end
def PK (X:Cx) (kws:List Keyword) (t:TA):Prop :=
 ∀ (pos:Pos) (pins:Q2) (s:Shared) (σ:St) (H:Hp) (Q:List V->Hp->Prop),Inv X pins σ H s->t σ H Q->wpAny (model X.prog X.w) X.A (evalAll ((backToKw pos (keywordEach kws X.env)).map (·.2))) (AP X pins σ Q) X.xe s
section
variable {X:Cx} {x:Str} {pos kpos:Pos} {e:Expr} {kws:List Keyword} {te:TE} {t:TA} {nm:Option Str}
def aXB:PK X [] bXG:=λ_ _ _ _ H Q I h=>wpAny_evalAll_nil ⟨[],H,I,.nil,h⟩
def vR (ha:PE X e te) (hr:PK X kws t):PK X (⟨nm,e,kpos⟩::kws) (aZF te t):=by
 intro pos pins s σ H Q I h;show wpAny _ _ (evalAll ((do let v <-eval e X.env; standAt pos; pure v)::(backToKw pos (keywordEach kws X.env)).map (·.2))) _ _ s
 refine wpAny_evalAll_cons (Ae (thn (ha pins s σ H _ I h) λu s1 ⟨x,H1,I1,r1,q1⟩=>Ae (Fo (As ?_))));exact thn (hr pos pins s1 σ H1 _ I1 q1) λus s2 ⟨xs,H2,I2,r2,q2⟩=>⟨x::xs,H2,I2,.cons r1 r2,q2⟩
end
structure FnScope (N P:List Str) (sc:Scope):Prop where
 kind:sc.kind=.function
 co:sc.isCoroutine=false
 gen:sc.isGenerator=false
 nd:N.Nodup
 pre:N.take P.length=P
 par:∀ x∈P,sc.names.lookup x=some .local\/sc.names.lookup x=some .cell
 nofree:∀ y∈sc.names,y.2≠.free
def uS {kindOf:Str->Option NameKind} {x:Str}:∀ {binds:List (Str×Value)} {m:Q4},(∀ v,(x,v) ∉ binds)->bindL kindOf binds m x=m x
 | [],_,_=>rfl
 | (n,v)::r,m,h=>by
   unfold bindL;rw [uS λw hw=>h w (Ak _ hw)];split
   . have:x≠n:=by rintro rfl; exact h v Am
     simp [this]
   . rfl
def uM {kindOf:Str->Option NameKind} {x:Str}:∀ {binds:List (Str×Value)} {m:Q4},(∀ v,(x,v) ∉ binds)->bindC kindOf binds m x=m x
 | [],_,_=>rfl
 | (n,v)::r,m,h=>by
   unfold bindC;rw [uM λw hw=>h w (Ak _ hw)];split
   . rfl
   . have:x≠n:=by rintro rfl; exact h v Am
     simp [this]
def vH {kindOf:Str->Option NameKind} {x:Str} {v:Value}:∀ {P:List Str} {vs:List Value} {i:Nat} {m:Q4},P.Nodup->P[i]?=some x->vs[i]?=some v->kindOf x=some .local->
   bindL kindOf (P.zip vs) m x=some v
 | [],_,_,_,_,h,_,_=>by simp at h
 | _::_,[],_,_,_,_,h,_=>by simp at h
 | p::P,w::vs,0,m,nd,h1,h2,hk=>by
   simp at h1 h2; subst h1; subst h2;show bindL kindOf ((p,w)::P.zip vs) m p=_
   unfold bindL;rw [uS λv hv=>(Cf.mp nd).1 (Eo hv).1,if_pos hk];simp
 | p::P,w::vs,i+1,m,nd,h1,h2,hk=>by
   show bindL kindOf ((p,w)::P.zip vs) m x=_
   unfold bindL;exact vH (i:=i) (List.nodup_cons.mp nd).2 (by simpa using h1) (by simpa using h2) hk
def uD {kindOf:Str->Option NameKind} {x:Str} {v:Value}:∀ {P:List Str} {vs:List Value} {i:Nat} {m:Q4},P.Nodup->P[i]?=some x->vs[i]?=some v->kindOf x≠some .local->
   bindC kindOf (P.zip vs) m x=some v
 | [],_,_,_,_,h,_,_=>by simp at h
 | _::_,[],_,_,_,_,h,_=>by simp at h
 | p::P,w::vs,0,m,nd,h1,h2,hk=>by
   simp at h1 h2; subst h1; subst h2;show bindC kindOf ((p,w)::P.zip vs) m p=_
   unfold bindC;rw [uM λv hv=>(Cf.mp nd).1 (Eo hv).1,if_neg hk];simp
 | p::P,w::vs,i+1,m,nd,h1,h2,hk=>by
   show bindC kindOf ((p,w)::P.zip vs) m x=_
   unfold bindC;exact uD (i:=i) (List.nodup_cons.mp nd).2 (by simpa using h1) (by simpa using h2) hk
def nV (N:List Str) (vs:List V):St:=vs.map some++List.replicate (N.length - vs.length) none
def iH (CX:CXT) (P:Program) (w:World) (K:W.Frag) (mg:Str->Option Value) (base:Heap) (N:List Str) (qual:Str) (scope:Scope) (f:Addr) (cd:Value) (A:Around) (outer:List Env) (s:Shared) (H:Hp) (E:XK):Cx where
 prog:=P
 w:=w
 K:=K
 mg:=mg
 base:=base
 A:=A.deeper (envOfC qual scope s.heap.objs.size f cd)
 N:=N
 s₀:=s
 H₀:=H
 env:=envOfC qual scope s.heap.objs.size f cd
 outer:=outer
 stack:=envOfC qual scope s.heap.objs.size f cd::outer
 ex:=[]
 calm:=true
 fn:=λ_=>true
 pn:=[]
 xe:=λe s'=>wpAny (model P w) (A.deeper (envOfC qual scope s.heap.objs.size f cd)) (leaving (envOfC qual scope s.heap.objs.size f cd) e) (λ_ s''=>CX outer H s E e s'') (λe' s''=>CX outer H s E e' s'') s'
def cA {sc:Scope} {n:Nat} {x:Str} (h:sc.names.lookup x=some .cell):∃ c,(cellsFrom n sc.names []).lookup x=some c:=by
 have q:=W.cellsFrom_some sc.names n [] (.inl h)
 exact Dm.mp q
def aJ5 {CX:CXT} {P:Program} {w:World} {K:W.Frag} {mg:Q4} {base:Heap} {N ps:List Str} {qual:Str} {scope:Scope} {f:Addr} {cd:Value} {A:Around} {outer:List Env} {s s1:Shared} {H:Hp} {E:XK} {us:List Value} {vs:List V}
   (S:FnScope N ps scope) (hd:A.handled=none) (e0:Env0 P w K mg base A outer s H) (hl:vs.length=ps.length) (r:Vals vs us)
   (x:InCallC s s.heap.objs.size (bindL (envOfC qual scope s.heap.objs.size f cd).kindOf (ps.zip us) λ_=>none) (cellsFrom (s.heap.objs.size+1) scope.names []) (bindC (envOfC qual scope s.heap.objs.size f cd).kindOf (ps.zip us) λ_=>none) s1) :
   Inv (iH CX P w K mg base N qual scope f cd A outer s H E) [] (nV N vs) H s1:=by
 have hpl:ps.length<=N.length:=by have:=Dt List.length S.pre; rw [Bt] at this; omega
 obtain ⟨h1,tk,rfl,hk⟩:=x.done;have noA:∀ b:Addr,b ∉ (iH CX P w K mg base N qual scope f cd A outer s H E).ex:=λb z=>absurd (show b ∈ ([]:List Addr) from z) (by simp)
 refine ⟨⟨e0.mod,S.kind,rfl,rfl,Ah _,λy z c h1 h2=>?_,λy hy=>?_,λy c _ h=>?_,λ_=>hd,Around.frames_deeper e0.frames,.inr ⟨rfl,rfl⟩,λb z=>absurd z (noA b),e0.bs,e0.bsz,λb _ _=>noA b,λb z=>absurd z (noA b),e0.funs,e0.frf⟩,
   rfl,e0.bare,Un.kept hk,⟨_,x.toInCall.ns,λi y v h1 h2 h3=>?_⟩,λy c h=>⟨_,x.cell y c h⟩,e0.hok.fresh (Nat.le_refl _),λy c h=>?_,λp hp=>absurd (show p∈([]:Q2) from hp) (by simp),e0.hok.kept hk,?_⟩
 . exact name_of_addr x.apart (Dj h1) (Dj h2)
 . have hy:scope.names.lookup y=some .cell\/scope.names.lookup y=some .free:=hy
   rcases hy with hy | hy
   . exact cA hy
   . exact absurd rfl (S.nofree _ (Dj hy))
 . exact Nat.le_of_lt (x.above y c (Dj h))
 . have hi:i<vs.length:=by
     unfold nV at h2;by_cases hi:i<vs.length
     . exact hi
     . rw [List.getElem?_append_right (by simpa using hi)] at h2
       rw [List.getElem?_replicate] at h2;split at h2 <;> cases h2
   have ha:vs[i]?=some v:=by
     unfold nV at h2;rw [List.getElem?_append_left (by simpa using hi),List.getElem?_map] at h2
     cases e:vs[i]? with
     | none=>rw [e] at h2; cases h2
     | some a=>rw [e] at h2; cases h2; rfl
   obtain ⟨u,hu,rv⟩:=r.get ha;have hp:ps[i]?=some y:=by
     rw [<-S.pre,Ey (by omega)]; exact h1
   have ndP:ps.Nodup:=by rw [<-S.pre]; exact S.nd.sublist (Gw _ _)
   refine ⟨u,rv,?_⟩;rcases S.par y (Al hp) with k | k
   . exact .inl ⟨k,vH ndP hp hu k⟩
   . obtain ⟨c,e⟩:=cA (n:=s.heap.objs.size+1) k;refine .inr ⟨.inl k,c,e,?_⟩;have q:=x.cell y c e
     rw [uD ndP hp hu (by show scope.names.lookup y≠_; rw [k]; decide)] at q
     exact q
 . exact e0.hok.fresh (Nat.le_of_lt (x.above y c (Dj h)))
 . unfold nV;show _=N.length
   rw [Ag,Ab,Fq];omega
def dXN {CX:CXT} {P:Program} {w:World} {K:W.Frag} {mg:Q4} {base:Heap} {k:Nat} {f:Addr} {name qual:Str} {params:Arguments} {body:List Stmt} {scope:Scope} {dV kV doc pm cdv ct oc:Value} {an od:Option Addr}
   {osl:Array (Option Value)} {N ps:List Str} {sp:Sp} (lk:K.lookup f=some ⟨oc,od,.func (W.fnOf name qual params body scope dV kV doc pm an cdv ct),osl⟩) (hcd:W.codeIn K cdv qual=true) (S:FnScope N ps scope)
   (len:∀ vs H Q E,sp vs H Q E->vs.length=ps.length)
   (hbody:∀ (A:Around) (outer:List Env) (s:Shared) (H:Hp) (vs:List V) (Q:VK) (E:XK),Room k (A.deeper (envOfC qual scope s.heap.objs.size f cdv))->sp vs H Q E->
     ∃ t,PSs (iH CX P w K mg base N qual scope f cdv A outer s H E) body t/\t { nx:=λ_ H'=>Q .non H',rt:=Q } (nV N vs) H) :
   FnOk P w K mg base CX (k+1) f (W.fnOf name qual params body scope dV kV doc pm an cdv ct) ps sp:=by
 refine ⟨len,λA outer s H args us vs Q E hr e0 hb r hsp=>?_⟩;have hl:=len _ _ _ _ hsp
 have KX:K.In s.heap:=e0.mod.kin.keeps λb o e=>(e0.bs b o e).1
 have lim:s.heap.NoLimit:=e0.mod.nolimit.keeps λb o e=>(e0.bs b o e).1
 have hkind:∀ y∈ps.zip us,scope.names.lookup y.1=some .local\/(scope.names.lookup y.1=some .cell/\((cellsFrom (s.heap.objs.size+1) scope.names []).lookup y.1).isSome=true):=λ⟨n,v⟩ hy=>by
   rcases S.par n (Eo hy).1 with q | q
   . exact .inl q
   . exact .inr ⟨q,W.cellsFrom_some _ _ _ (.inl q)⟩
 refine codeAny_call_function hr.depth (KX _ _ lk) rfl S.co S.gen rfl (W.codeRec_of KX hcd) (hb _ _ _ _ ?_);refine wpAny_newFunctionEnv_cells S.kind hkind λenv he s1 x=>?_;subst he;refine ⟨lim.keeps x.toInCall.keep,codeAny_func ?_⟩;obtain ⟨t,ht,hq⟩:=hbody A outer s H vs Q E (hr.deeper _) hsp;have I:Inv (iH CX P w K mg base N qual scope f cdv A outer s H E) [] (nV N vs) H s1:=aJ5 S hr.hd e0 hl r x
 refine Ci (ht [] s1 (nV N vs) H _ I hq) (λfl s' hs=>?_) λe s' hs=>hs;have fin:∀ {σ':St} {H':Hp} {v:V} {u:Value},Inv (iH CX P w K mg base N qual scope f cdv A outer s H E) [] σ' H' s'->RelV v u->Q v H'->CE outer P w H s Q u s' :=
   fun {σ' H' v u} J rv q=>⟨v,H',J.os,J.bare,J.base,J.hok,rv,q⟩
 cases fl with
 | ret u=>
   obtain ⟨v,σ',H',J,rv,q⟩:=hs;exact fin J rv q
 | next=>
   obtain ⟨σ',H',J,q⟩:=hs;exact fin (v:=V.non) (u:=Value.none) J rfl q
 | brk=>
   obtain ⟨_,_,_,q⟩:=hs;exact False.elim q
 | cont=>
   obtain ⟨_,_,_,q⟩:=hs;exact False.elim q
section
variable {X:Cx} {x:Str} {p pos:Pos} {e:Expr} {es:List Expr} {t:TA} {id T:String} {r:List V->Hp->VK->Prop}
def tCB (r:List V->Hp->VK->Prop) (t:TA):TE:=λσ H Q=>t σ H λvs H1=>r vs H1 Q
def bC (hc:CallR X (.builtin id) r) (hg:Gl X x) (hm:X.mg x=none) (hv:bootBuiltins x=some (.builtin id)) (ha:PA X (e::es) t) (hn:x≠"__name__" := by decide) (hdb:(x == ("__debug__" : Str))=false:=by decide)
   (he:starEach (e::es) X.env=(false,eval e X.env)::starEach es X.env:=by rfl) (hpl:(backTo pos (starEach es X.env)).any (·.1)=false:=by rfl):PE X (.Call (.Name x p) (e::es) [] pos) (tCB r t):=by
 intro pins s σ H Q I h;refine Dp (kC I hg hm hv ?_ hn hdb);exact PyProof.Rows.callWith_builtin1 (thn (ha pos pins s σ H _ I h) λus s1 ⟨vs,H1,I1,r1,q1⟩=>hc pins s1 σ H1 vs us Q I1 r1 q1) he hpl
def cH (hc:CallR X (.type T) r) (hg:Gl X x) (hm:X.mg x=none) (hv:bootBuiltins x=some (.type T)) (ha:PA X (e::es) t) (hn:x≠"__name__" := by decide) (hdb:(x == ("__debug__" : Str))=false:=by decide)
   (he:starEach (e::es) X.env=(false,eval e X.env)::starEach es X.env:=by rfl) (hpl:(backTo pos (starEach es X.env)).any (·.1)=false:=by rfl):PE X (.Call (.Name x p) (e::es) [] pos) (tCB r t):=by
 intro pins s σ H Q I h;refine Dp (kC I hg hm hv ?_ hn hdb);exact Ds (thn (ha pos pins s σ H _ I h) λus s1 ⟨vs,H1,I1,r1,q1⟩=>hc pins s1 σ H1 vs us Q I1 r1 q1) he hpl
end
end L2
namespace HT
open PySem PyProof.Rows
section
open PySem.SeqAt
open PySem.AutoSeq1 (wpAny_loadPart')
open PySem.MeetsSeq PySem.MeetsSeq2 PySem.MeetsSeq3
end
section
def sIx (n d:Nat):Option Int->Nat
 | none=>d
 | some v=>if v<0 then (v+(n:Int)).toNat else min v.toNat n
def aQA (n d:Nat) (hd:d<=n) (o:Option Int):sIx n d o<=n:=by
 cases o with
 | none=>exact hd
 | some v=>
   show (if v<0 then (v+(n:Int)).toNat else min v.toNat n)<=n
   by_cases hv:v<0
   . rw [if_pos hv]; omega
   . rw [if_neg hv]; exact Nat.min_le_right _ _
end
end HT
namespace L2
open PySem PySem.Spec PyProof.Rows
abbrev TO:=St->Hp->(Option Int->Hp->Prop)->Prop
def PO (X:Cx) (e:Option Expr) (t:TO):Prop :=
 ∀ (pins:Q2) (s:Shared) (σ:St) (H:Hp) (Q:Option Int->Hp->Prop),Inv X pins σ H s->t σ H Q->
   wpAny (model X.prog X.w) X.A (evalPart e X.env) (λu s'=>∃ o H',Inv X pins σ H' s'/\IsPart u o/\Q o H') X.xe s
def aJX:TO:=λ_ H Q=>Q none H
section
variable {X:Cx} {e:Expr} {te:TE} {lo hi:Option Expr} {tl th:TO} {pos p2:Pos}
def vY:PO X none aJX:=by
 intro pins s σ H Q I h;rw [evalPart_none];exact As ⟨none,H,I,.none,h⟩
def SlR (X:Cx) (r:V->Option Int->Option Int->Hp->VK->Prop):Prop :=
 ∀ (pins:Q2) (s:Shared) (σ:St) (H:Hp) (x:V) (v vl vu:Value) (lo hi:Option Int) (sl:Addr) (Q:VK),Inv X pins σ H s->RelV x v->s.heap.IsSliceOf sl vl vu .none->IsPart vl lo->IsPart vu hi->r x lo hi H Q->
   ∃ T id,typeLookup (.type T) "__getitem__"=pure (some (.builtin id))/\s.TypeIs v T/\wpAny (model X.prog X.w) X.A (getItem v (.ref sl)) (EP X pins σ Q) X.xe s
def SlR.or {r r':V->Option Int->Option Int->Hp->VK->Prop} (h:SlR X r) (h':SlR X r'):SlR X (λx lo hi H Q=>r x lo hi H Q\/r' x lo hi H Q):=by
 intro pins s σ H x v vl vu lo hi sl Q I rx hs pl pu q;rcases q with q | q
 . exact h pins s σ H x v vl vu lo hi sl Q I rx hs pl pu q
 . exact h' pins s σ H x v vl vu lo hi sl Q I rx hs pl pu q
def tSl (r:V->Option Int->Option Int->Hp->VK->Prop) (te:TE) (tl th:TO):TE:=λσ H Q=>te σ H λx H1=>tl σ H1 λl H2=>th σ H2 λu H3=>r x l u H3 Q
def jI {r:V->Option Int->Option Int->Hp->VK->Prop} (hr:SlR X r) (he:PE X e te) (hl:PO X lo tl) (hu:PO X hi th):PE X (.Subscript e (.Slice lo hi none p2) pos) (tSl r te tl th):=by
 intro pins s σ H Q I h;refine Subscript_ (thn (he pins s σ H _ I h) λv s1 ⟨x,H1,I1,r1,q1⟩=>?_);refine wpAny_Slice (thn (hl pins s1 σ H1 _ I1 q1) λvl s2 ⟨l,H2,I2,pl,q2⟩=>thn (hu pins s2 σ H2 _ I2 q2) λvu s3 ⟨u,H3,I3,pu,q3⟩=>?_);rw [evalPart_none];refine As ?_;have I4:Inv X pins σ H3 { s3 with heap:=s3.heap.push { cls:=.type "slice",data:=.fields #[vl,vu,.none] } }:=I3.kept (t':=s3.toks) λb ob q=>Ai _ q
 obtain ⟨T,id,hT,ht,hg⟩:=hr pins { s3 with heap:=s3.heap.push { cls:=.type "slice",data:=.fields #[vl,vu,.none] } } σ H3 x v vl vu l u s3.heap.objs.size Q I4 r1 (Heap.IsSliceOf.new ..) pl pu q3
 show wpAny (model X.prog X.w) X.A (subscriptTail e (.Slice lo hi none p2) v (.ref s3.heap.objs.size)) (EP X pins σ Q) X.xe { s3 with heap:=s3.heap.push { cls:=.type "slice",data:=.fields #[vl,vu,.none] } }
 exact tail_any (ops:=[.ref s3.heap.objs.size,v]) ht hT hg (by with_unfolding_all rfl)
def kY (xs:List V) (lo hi:Option Int):List V:=(xs.drop (HT.sIx xs.length 0 lo)).take (HT.sIx xs.length xs.length hi - HT.sIx xs.length 0 lo)
def xX (xs:List V) (lo hi:Option Int):(kY xs lo hi).length<=xs.length:=by
 unfold kY;rw [Bt,Cd];omega
end
def ixN (n:Nat) (i:Int):Option Nat:=if 0<=i then (if i<n then some i.toNat else none) else if -(n:Int)<=i then some (i+n).toNat else none
def atI {α:Type} (xs:List α) (i:Int):Option α:=(ixN xs.length i).bind λj=>xs[j]?
def aZR {n:Nat} {i:Int} {j:Nat} (h:ixN n i=some j):seqIndex? i n=some j/\j<n/\-(n:Int)<=i/\i<n:=by
 unfold ixN at h;by_cases h0:0<=i
 . rw [if_pos h0] at h;by_cases h1:i<n
   . rw [if_pos h1] at h;have e:i.toNat=j:=Bh h
     exact ⟨by rw [seqIndex_of h0 h1,e],by omega,by omega,h1⟩
   . rw [if_neg h1] at h; cases h
 . rw [if_neg h0] at h;by_cases h1:-(n:Int)<=i
   . rw [if_pos h1] at h;have e:(i+n).toNat=j:=Bh h
     exact ⟨by rw [seqIndex_neg (by omega) h1,e],by omega,h1,by omega⟩
   . rw [if_neg h1] at h; cases h
def wL {α:Type} {xs:List α} {i:Int} {v:α} (h:atI xs i=some v):∃ j,seqIndex? i xs.length=some j/\xs[j]?=some v/\j<xs.length/\-(xs.length:Int)<=i/\i<xs.length:=by
 unfold atI at h;cases e:ixN xs.length i with
 | none=>rw [e] at h; cases h
 | some j=>
   rw [e] at h;obtain ⟨h1,h2,h3,h4⟩:=aZR e;exact ⟨j,h1,h,h2,h3,h4⟩
def bJ {α:Type} {xs:List α} {j:Nat} {v:α} (h:xs[j]?=some v):atI xs (j:Int)=some v:=by
 have hj:j<xs.length:=(Ad.mp h).1
 have e:ixN xs.length (j:Int)=some j:=by
   unfold ixN;rw [if_pos (by omega),if_pos (by omega)]; simp
 unfold atI; rw [e]; exact h
def yR {α:Type} (xs:List α) (v:α):atI (xs++[v]) (-1)=some v:=by
 have hl:(xs++[v]).length=xs.length+1:=by simp
 have e:ixN (xs++[v]).length (-1)=some xs.length:=by
   unfold ixN;rw [hl,if_neg (by decide),if_pos (by omega)]
   congr 1
   omega
 unfold atI;rw [e];show (xs++[v])[xs.length]?=some v
 simp
def dQC (b:Expr):Prop:=∀ o i,subscripted b false o i=operate [o,i] (getItem o i)
def IxR (X:Cx) (r:R2):Prop :=
 ∀ (value slice:Expr) (pins:Q2) (s:Shared) (σ:St) (H:Hp) (x y:V) (v u:Value) (Q:VK),Inv X pins σ H s->RelV x v->RelV y u->r x y H Q->
   subscripted slice false v u=operate [v,u] (getItem v u)->wpAny (model X.prog X.w) X.A (subscriptTail value slice v u) (EP X pins σ Q) X.xe s
def MtR (X:Cx) (id:String) (r:V->List V->Hp->VK->Prop):Prop :=
 ∀ (pins:Q2) (s:Shared) (σ:St) (H:Hp) (x:V) (xs:List V) (v:Value) (us:List Value) (Q:VK),Inv X pins σ H s->RelV x v->Vals xs us->r x xs H Q->
   wpAny (model X.prog X.w) X.A (call (.builtin id) (v::us)) (EP X pins σ Q) X.xe s
section
variable {X:Cx} {a b:Expr} {ta tb:TE} {pos:Pos}
def IxR.or {r r':R2} (h:IxR X r) (h':IxR X r'):IxR X (λx y H Q=>r x y H Q\/r' x y H Q):=by
 intro value slice pins s σ H x y v u Q I rx ry q hs;rcases q with q | q
 . exact h value slice pins s σ H x y v u Q I rx ry q hs
 . exact h' value slice pins s σ H x y v u Q I rx ry q hs
def MtR.or {id:String} {r r':V->List V->Hp->VK->Prop} (h:MtR X id r) (h':MtR X id r'):MtR X id (λx xs H Q=>r x xs H Q\/r' x xs H Q):=by
 intro pins s σ H x xs v us Q I rx rs q;rcases q with q | q
 . exact h pins s σ H x xs v us Q I rx rs q
 . exact h' pins s σ H x xs v us Q I rx rs q
def bK {r:R2} (hr:IxR X r) (ha:PE X a ta) (hb:PE X b tb) (hs:dQC b):PE X (.Subscript a b pos) (tOp r ta tb):=by
 intro pins s σ H Q I h;exact Subscript_ (dXR ha hb I h λv u s2 x y H2 I2 rx ry q=>hr a b pins s2 σ H2 x y v u Q I2 rx ry q (hs _ _))
def dXZ (K:W.Frag):R2:=λx y H Q=>∃ p xs i v,x=.ref p/\y=.int i/\SqL K H p xs/\atI xs i=some v/\Q v H
def eX2 (K:W.Frag):R2:=λx y H Q=>∃ p xs i v,x=.ref p/\y=.int i/\SqT K H p xs/\atI xs i=some v/\Q v H
def eXF:R2:=λx y H Q=>∃ z i c,x=.str z/\y=.int i/\z.length<=sizeLine/\atI z.cps.toList i=some c/\Q (.str ⟨#[c]⟩) H
def ix_list:IxR X (dXZ X.K):=by
 intro value slice pins s σ H x y v u Q I rx ry h hs;obtain ⟨p,xs,i,z,rfl,rfl,hq,he,q⟩:=h;cases rx;obtain ⟨t,rfl⟩:=ry;obtain ⟨its,r,pl,hz⟩:=I.list hq;obtain ⟨j,h1,h2,h3,h4,h5⟩:=wL he;obtain ⟨w,ew,rw'⟩:=r.get h2;have hl:=r.length
 have hn:=kD
 have fin:EP X pins σ Q w s:=⟨z,H,I,rw',q⟩
 by_cases h0:0<=i
 . have hj:i.toNat=j:=by
     rw [seqIndex_of h0 h5] at h1;exact Bh h1
   exact item_listR pl.isList h0 (by omega) (by rw [hj]; simpa using ew) fin hs
 . have hj:(i+(its.toArray.size:Int)).toNat=j:=by
     rw [seqIndex_neg (by omega) h4] at h1
     rw [Bb,<-hl];exact Bh h1
   exact subscriptTail_builtinR (x:=w) pl.isList.typeIs slot_list_getitem.lookup
     (wpAny_getItem_list_neg (Q:=λr s'=>r=w/\EP X pins σ Q r s') pl.isList (by omega) (by rw [List.size_toArray] <;> omega) (by omega) (by rw [hj]; simpa using ew) ⟨rfl,fin⟩) hs
def ix_tup:IxR X (eX2 X.K):=by
 intro value slice pins s σ H x y v u Q I rx ry h hs;obtain ⟨p,xs,i,z,rfl,rfl,hq,he,q⟩:=h;cases rx;obtain ⟨t,rfl⟩:=ry;obtain ⟨its,r,pl,hz⟩:=I.tuple hq;obtain ⟨j,h1,h2,h3,h4,h5⟩:=wL he;obtain ⟨w,ew,rw'⟩:=r.get h2;have hl:=r.length
 have hn:=kD
 have fin:EP X pins σ Q w s:=⟨z,H,I,rw',q⟩
 exact subscriptTail_builtinR (x:=w) pl.typeIs slot_tuple_getitem.lookup
   (getItem_tuple (j:=j) (Q:=λr s'=>r=w/\EP X pins σ Q r s') pl (by omega) (by omega) (by rw [List.size_toArray,<-hl]; exact h1) (by simpa using ew) ⟨rfl,fin⟩) hs
def dZP:IxR X eXF:=by
 intro value slice pins s σ H x y v u Q I rx ry h hs;obtain ⟨z,i,c,rfl,rfl,hz,he,q⟩:=h;obtain ⟨t,rfl⟩:=rx;obtain ⟨t',rfl⟩:=ry;obtain ⟨j,h1,h2,h3,h4,h5⟩:=wL he;have hl:z.cps.toList.length=z.length:=by simp [Str.length]
 rw [hl] at h1 h4 h5;have hn:=kD
 exact tail_any (typeIs_str s z t) slot_str_getitem.lookup (getItem_str (c:=c) (by
   have e1:decide (i < -(2 ^ 63:Int))=false:=Ax (by omega)
   have e2:decide (i ≥ 2 ^ 63)=false:=Ax (by omega)
   rw [e1,e2,Bool.or_false]) (by rw [h1]; simpa using h2) ⟨.str ⟨#[c]⟩,H,I.tok _,⟨_,rfl⟩,q⟩) hs
def rIx (K:W.Frag):R2:=λx y H Q=>dXZ K x y H Q\/eX2 K x y H Q\/eXF x y H Q
def ix_seq:IxR X (rIx X.K):=ix_list.or (ix_tup.or dZP)
def aQN (its:List Value) (n j:Nat) (u:Value):Obj.mapSeq (·.setIfInBounds j u) { cls:=.type "list",data:=.seq its.toArray n }={ cls:=.type "list",data:=.seq (its.set j u).toArray n }:=by
 simp [Obj.mapSeq]
def Inv.lst {pins:Q2} {σ:St} {H:Hp} {s:Shared} {p:Addr} {xs:List V} (I:Inv X pins σ H s) (h:H p=some (.lst xs)) :
   ∃ (its:List Value) (n:Nat),Vals xs its/\s.heap.get? p=some { cls:=.type "list",data:=.seq its.toArray n }/\xs.length<=sizeLine:=by
 obtain ⟨z,its,n,r,e⟩:=I.hok p _ h;exact ⟨its,n,r,e,z⟩
def Inv.lstUpd {pins:Q2} {σ:St} {H:Hp} {s:Shared} {p:Addr} {xs ys:List V} {its its':List Value} {n n':Nat} {f:Obj->Obj} (I:Inv X pins σ H s) (h:H p=some (.lst xs))
   (ho:s.heap.get? p=some { cls:=.type "list",data:=.seq its.toArray n }) (hf:f { cls:=.type "list",data:=.seq its.toArray n }={ cls:=.type "list",data:=.seq its'.toArray n' }) (r:Vals ys its') (hz:ys.length<=sizeLine) (t:Nat) :
   Inv X pins σ (upd H p (.lst ys)) { s with heap:=s.heap.update p f,toks:=t }:=by
 have e:(s.heap.update p f).get? p=some { cls:=.type "list",data:=.seq its'.toArray n' }:=by
   rw [Heap.get?_update_self f ho (by rw [hf] <;> rfl),hf]
 refine I.write (x:=p) (e:=p) (by rw [h]; trivial) (.inl rfl) (λb u hb q=>(Cb _ _ (Ne.symm hb)).trans q) ⟨_,e⟩ ?_
 exact ⟨hz,its',n',r,e⟩
def dQR:V->V->V->Hp->(Hp->Prop)->Prop:=λo i v H Q=>∃ p xs k j,o=.ref p/\i=.int k/\H p=some (.lst xs)/\ixN xs.length k=some j/\Q (upd H p (.lst (xs.set j v)))
def qQ:eXU X dQR:=by
 intro pins s σ H o i v ov iv u Q I ro ri rv h;obtain ⟨p,xs,k,j,rfl,rfl,hp,hj,q⟩:=h;cases ro;obtain ⟨t,rfl⟩:=ri;obtain ⟨its,n,r,ho,hz⟩:=I.lst hp;obtain ⟨h1,h2,h3,h4⟩:=aZR hj;have hl:=r.length
 have hn:=kD
 have I':Inv X pins σ (upd H p (.lst (xs.set j v))) { s with heap:=s.heap.update p (Obj.mapSeq (·.setIfInBounds j u)) } :=
   I.lstUpd hp ho (aQN its n j u) (r.set rv j) (by rw [Cg]; exact hz) s.toks
 by_cases h0:0<=k
 . have hk:k.toNat=j:=by
     rw [seqIndex_of h0 h4] at h1;exact Bh h1
   exact W.ki_setAt ho h0 (by omega) (by rw [Bb,<-hl]; exact h4) (by rw [hk]; exact ⟨_,I',q⟩)
 . have hk:(k+(its.toArray.size:Int)).toNat=j:=by
     rw [seqIndex_neg (by omega) h3] at h1
     rw [Bb,<-hl];exact Bh h1
   exact W.ki_setBack ho (by omega) (by rw [Bb,<-hl]; exact h3) (by omega) (by rw [hk]; exact ⟨_,I',q⟩)
def wG (lo hi:Option Int) (n:Nat):(sliceBounds lo hi none n).1=((HT.sIx n 0 lo:Nat):Int)/\(sliceBounds lo hi none n).2.1=((HT.sIx n n hi:Nat):Int)/\(sliceBounds lo hi none n).2.2=1:=by
 refine ⟨?_,?_,rfl⟩
 . cases lo with
   | none=>simp [sliceBounds,HT.sIx]
   | some i=>
     simp only [sliceBounds,HT.sIx,Option.getD_none,show (1:Int) > 0 by decide,if_true]
     by_cases h:i<0
     . simp only [h,if_true] <;> omega
     . simp only [h,if_false] <;> omega
 . cases hi with
   | none=>simp [sliceBounds,HT.sIx]
   | some i=>
     simp only [sliceBounds,HT.sIx,Option.getD_none,show (1:Int) > 0 by decide,if_true]
     by_cases h:i<0
     . simp only [h,if_true] <;> omega
     . simp only [h,if_false] <;> omega
def tJ (its:List Value) (lo hi:Option Int):slicePick its.toArray lo hi none=((its.drop (HT.sIx its.length 0 lo)).take (HT.sIx its.length its.length hi - HT.sIx its.length 0 lo)).toArray:=by
 obtain ⟨h1,h2,h3⟩:=wG lo hi its.toArray.size;unfold slicePick;rw [h1,h2,h3];simp only [sliceRange_one,pick_run,List.size_toArray] <;> rfl
def eX5 (K:W.Frag):V->Option Int->Option Int->Hp->VK->Prop:=λx lo hi H Q=>∃ a xs,x=.ref a/\SqL K H a xs/\∀ p,H p=none->Q (.ref p) (upd H p (.lst (kY xs lo hi)))
def sl_list:SlR X (eX5 X.K):=by
 intro pins s σ H x v vl vu lo hi sl Q I rx hs pl pu h;obtain ⟨a,xs,rfl,hx,q⟩:=h;cases rx;obtain ⟨its,r,ht,hz⟩:=I.list hx;have hlen:=r.length
 refine ⟨"list",_,slot_list_getitem.lookup,ht.isList.typeIs,?_⟩;refine wpAny_getItem_list_slice ht.isList hs pl pu .none (by simp) ?_ (by rw [List.size_toArray] <;> omega)
 rw [tJ,<-hlen];refine ⟨.ref s.heap.objs.size,_,I.laid (t':=s.toks) (o:=.lst (kY xs lo hi)) (λb ob q=>Ai _ q) (Ah _) ?_,rfl,q _ (I.hok.fresh (Ah _))⟩;exact ⟨Bg (xX xs lo hi) hz,_,0,(r.drop (HT.sIx xs.length 0 lo)).take (HT.sIx xs.length xs.length hi - HT.sIx xs.length 0 lo),Ba _ rfl⟩
def bQ:V->Bool
 | .non=>true
 | .bl _=>true
 | .int _=>true
 | .str _=>true
 | _=>false
def eqV:V->V->Bool
 | .non,.non=>true
 | .bl a,.bl b=>a == b
 | .bl a,.int b=>(if a then 1 else 0) == b
 | .int a,.bl b=>a == (if b then 1 else 0)
 | .int a,.int b=>a == b
 | .str a,.str b=>a == b
 | _,_=>false
def aXC {A:Around} {s:Shared} {y x:V} {u v:Value} (ry:RelV y u) (rx:RelV x v) (fy:bQ y=true) (fx:bQ x=true):SeqAt.EqAt A s u v (eqV y x):=by
 cases y with
 | non=>
   cases ry;cases x with
   | non=>cases rx; exact SeqAt.EqAt.same _
   | bl b=>cases rx; exact SeqAt.EqAt.none_bool b
   | int b=>obtain ⟨t,rfl⟩:=rx; exact SeqAt.EqAt.none_int b t
   | str b=>obtain ⟨t,rfl⟩:=rx; exact SeqAt.EqAt.none_str b t
   | _=>exact absurd (show false=true from fx) Ap
 | bl a=>
   cases ry;cases x with
   | non=>cases rx; exact SeqAt.EqAt.bool_none a
   | bl b=>cases rx; exact SeqAt.EqAt.bool_bool a b
   | int b=>obtain ⟨t,rfl⟩:=rx; exact SeqAt.EqAt.bool_int a b t
   | str b=>obtain ⟨t,rfl⟩:=rx; exact SeqAt.EqAt.bool_str a b t
   | _=>exact absurd (show false=true from fx) Ap
 | int a=>
   obtain ⟨t',rfl⟩:=ry;cases x with
   | non=>cases rx; exact SeqAt.EqAt.int_none a t'
   | bl b=>cases rx; exact SeqAt.EqAt.int_bool a t' b
   | int b=>obtain ⟨t,rfl⟩:=rx; exact SeqAt.EqAt.int_int a t' b t
   | str b=>obtain ⟨t,rfl⟩:=rx; exact SeqAt.EqAt.int_str a t' b t
   | _=>exact absurd (show false=true from fx) Ap
 | str a=>
   obtain ⟨t',rfl⟩:=ry;cases x with
   | non=>cases rx; exact SeqAt.EqAt.str_none a t'
   | bl b=>cases rx; exact SeqAt.EqAt.str_bool a t' b
   | int b=>obtain ⟨t,rfl⟩:=rx; exact SeqAt.EqAt.str_int a t' b t
   | str b=>obtain ⟨t,rfl⟩:=rx; exact SeqAt.EqAt.str_str a t' b t
   | _=>exact absurd (show false=true from fx) Ap
 | _=>exact absurd (show false=true from fy) Ap
def eqU (x:V) (u:Value):Bool:=match u with
 | .none=>eqV .non x
 | .bool b=>eqV (.bl b) x
 | .int i _=>eqV (.int i) x
 | .str z _=>eqV (.str z) x
 | _=>false
def bZR {x y:V} {u:Value} (r:RelV y u) (f:bQ y=true):eqU x u=eqV y x:=by
 cases y with
 | non=>cases r; rfl
 | bl b=>cases r; rfl
 | int i=>obtain ⟨t,rfl⟩:=r; rfl
 | str z=>obtain ⟨t,rfl⟩:=r; rfl
 | _=>exact absurd (show false=true from f) Ap
def oH {x:V}:∀ {xs:List V} {us:List Value},Vals xs us->xs.all bQ=true->us.any (eqU x)=xs.any λy=>eqV y x
 | _,_,.nil,_=>rfl
 | y::xs,u::us,.cons r t,f=>by
   rw [List.all_cons,Ea] at f;rw [Hk,Hk,bZR r f.1,oH t f.2]
def kW {A:Around} {s:Shared} {x:V} {v:Value} (rx:RelV x v) (fx:bQ x=true):∀ {xs:List V} {us:List Value},Vals xs us->xs.all bQ=true->∀ u∈us,SeqAt.EqAt A s u v (eqU x u)
 | _,_,.nil,_=>λu hu=>by cases hu
 | y::xs,u::us,.cons r t,f=>λu' hu=>by
   rw [List.all_cons,Ea] at f;rcases Ay.mp hu with rfl | hu
   . rw [bZR r f.1]; exact aXC r rx f.1 fx
   . exact kW rx fx t f.2 u' hu
def inV (x:V) (xs:List V):Bool:=xs.any λy=>eqV y x
def rIn (K:W.Frag) (neg:Bool):R2:=λx y H Q=>∃ p xs,y=.ref p/\(SqL K H p xs\/SqT K H p xs)/\bQ x=true/\xs.all bQ=true/\Q (.bl (if neg then !inV x xs else inV x xs)) H
def op_in_seq:OpR X (compareOp .In) (rIn X.K false):=by
 intro pins s σ H x y v u Q I rx ry h;obtain ⟨p,xs,rfl,hq,fx,fs,q⟩:=h;cases ry;rcases hq with hq | hq
 . obtain ⟨its,r,pl,hz⟩:=I.list hq;refine SeqAt.in_listAt (eqU x) pl.isList (λw hw=>kW rx fx r fs w (by simpa using hw)) ⟨.bl _,H,I,rfl,?_⟩
   rw [show its.toArray.any (eqU x)=its.any (eqU x) by simp,oH r fs]
   exact q
 . obtain ⟨its,r,pl,hz⟩:=I.tuple hq;refine SeqAt.in_tupleAt (eqU x) pl (λw hw=>kW rx fx r fs w (by simpa using hw)) ⟨.bl _,H,I,rfl,?_⟩
   rw [show its.toArray.any (eqU x)=its.any (eqU x) by simp,oH r fs]
   exact q
def op_notIn_seq:OpR X (compareOp .NotIn) (rIn X.K true):=by
 intro pins s σ H x y v u Q I rx ry h;obtain ⟨p,xs,rfl,hq,fx,fs,q⟩:=h;cases ry;rcases hq with hq | hq
 . obtain ⟨its,r,pl,hz⟩:=I.list hq;refine SeqAt.notIn_listAt (eqU x) pl.isList (λw hw=>kW rx fx r fs w (by simpa using hw)) ⟨.bl _,H,I,rfl,?_⟩
   rw [show its.toArray.any (eqU x)=its.any (eqU x) by simp,oH r fs]
   exact q
 . obtain ⟨its,r,pl,hz⟩:=I.tuple hq;refine SeqAt.notIn_tupleAt (eqU x) pl (λw hw=>kW rx fx r fs w (by simpa using hw)) ⟨.bl _,H,I,rfl,?_⟩
   rw [show its.toArray.any (eqU x)=its.any (eqU x) by simp,oH r fs]
   exact q
def wZ:CallR X (.builtin "len") (λxs H Q=>∃ p ys,xs=[.ref p]/\(SqL X.K H p ys\/SqT X.K H p ys)/\Q (.int ys.length) H):=by
 intro pins s σ H xs us Q I r h;obtain ⟨p,ys,rfl,hq,q⟩:=h;obtain ⟨u,rfl,rx⟩:=gD r;cases rx;have hn:=kD
 rcases hq with hq | hq
 . obtain ⟨its,r',pl,hz⟩:=I.list hq;have hlen:=r'.length
   exact Calls.call_len_list pl.isList (by simp only [List.size_toArray] <;> omega) ⟨.int ys.length,H,I.tok _,⟨s.toks+1,by rw [List.size_toArray,hlen]⟩,q⟩
 . obtain ⟨its,r',pl,hz⟩:=I.tuple hq;have hlen:=r'.length
   exact len_tuple pl (by simp only [List.size_toArray] <;> omega) ⟨.int ys.length,H,I.tok _,⟨s.toks+1,by rw [List.size_toArray,hlen]⟩,q⟩
def CallR.or {f:Value} {r r':List V->Hp->VK->Prop} (h:CallR X f r) (h':CallR X f r'):CallR X f (λxs H Q=>r xs H Q\/r' xs H Q):=by
 intro pins s σ H xs us Q I rs q;rcases q with q | q
 . exact h pins s σ H xs us Q I rs q
 . exact h' pins s σ H xs us Q I rs q
def call_list_of:CallR X (.type "list") (λxs H Q=>∃ p ys,xs=[.ref p]/\(SqL X.K H p ys\/SqT X.K H p ys)/\∀ l,H l=none->Q (.ref l) (upd H l (.lst ys))):=by
 intro pins s σ H xs us Q I r h;obtain ⟨p,ys,rfl,hq,q⟩:=h;obtain ⟨u,rfl,rx⟩:=gD r;cases rx;have fin:∀ (its:List Value),Vals ys its->ys.length<=sizeLine->∀ (h':Heap) (c':Nat),(∀ b o',s.heap.get? b=some o'->h'.get? b=some o')->
     h'.get? s.heap.objs.size=some { cls:=.type "list",dict:=none,data:=.seq its.toArray c',slots:=#[] }->EP X pins σ Q (.ref s.heap.objs.size) { s with heap:=h' }:=λits r' hz h' c' kp e=>
   ⟨.ref s.heap.objs.size,_,I.laid (t':=s.toks) kp (Ah _) (show ObjOk X.prog X.w _ h' _ (.lst ys) from ⟨hz,its,c',r',e⟩),rfl,q _ (I.hok.fresh (Ah _))⟩
 rcases hq with hq | hq
 . obtain ⟨its,r',pl,hz⟩:=I.list hq;have hlen:=r'.length
   obtain ⟨o,ho,hc,n,hd⟩:=pl.isList;exact call_list_seq p (.inl rfl) ho hc hd (λh' c' kp e=>fin its r' hz h' c' kp e) (by simp only [List.size_toArray] <;> omega)
 . obtain ⟨its,r',pl,hz⟩:=I.tuple hq;have hlen:=r'.length
   obtain ⟨o,ho,hc,n,hd⟩:=pl;exact call_list_seq p (.inr rfl) ho hc hd (λh' c' kp e=>fin its r' hz h' c' kp e) (by simp only [List.size_toArray] <;> omega)
def tyV (K:W.Frag) (T:String) (x:V) (H:Hp):Prop:=match x with
 | .str _=>T="str"
 | .int _=>T="int"
 | .ref p=>(T="list"/\∃ xs,SqL K H p xs)\/(T="tuple"/\∃ o,K.lookup p=some o/\o.cls=.type "tuple"/\o.dict=none)\/
     (T="dict"/\((∃ kvs,H p=some (.dK kvs))\/∃ kvs,H p=some (.dT kvs)))\/(T="set"/\∃ S n,H p=some (.set S n))
 | _=>False
def bXX {pins:Q2} {σ:St} {H:Hp} {s:Shared} {T:String} {x:V} {v:Value} (I:Inv X pins σ H s) (r:RelV x v) (ty:tyV X.K T x H) :
   s.TypeIs v T/\∀ a,v=.ref a->∃ ob,s.heap.get? a=some ob/\ob.dict=none:=by
 cases x with
 | str z=>
   obtain ⟨t,rfl⟩:=r;cases (show T="str" from ty);exact ⟨typeIs_str s z t,λ_ e=>nomatch e⟩
 | int i=>
   obtain ⟨t,rfl⟩:=r;cases (show T="int" from ty);exact ⟨typeIs_int s i t,λ_ e=>nomatch e⟩
 | ref p=>
   cases r;rcases ty with ⟨rfl,xs,hq⟩ | ⟨rfl,o,hk,hc,hd⟩ | ⟨rfl,hk⟩ | ⟨rfl,S,n,hk⟩
   . obtain ⟨its,_,pl,_⟩:=I.list hq;refine ⟨pl.isList.typeIs,λa e=>?_⟩;cases e;obtain ⟨o,n,e,c,hd,_⟩:=pl;exact ⟨o,e,hd⟩
   . refine ⟨⟨o,I.kIn p o hk,hc⟩,λa e=>?_⟩;cases e;exact ⟨o,I.kIn _ o hk,hd⟩
   . have z:∃ o,s.heap.get? p=some o/\o.ExactDict:=by
       rcases hk with ⟨kvs,hk⟩ | ⟨kvs,hk⟩
       . obtain ⟨_,_,_,_,o,_,_,e,ex,_⟩:=I.hok p _ hk;exact ⟨o,e,ex⟩
       . obtain ⟨_,_,_,_,o,_,_,e,ex,_⟩:=I.hok p _ hk;exact ⟨o,e,ex⟩
     obtain ⟨o,e,ex⟩:=z;refine ⟨⟨o,e,ex.1⟩,λa e2=>?_⟩;cases e2;exact ⟨o,e,ex.2.1⟩
   . obtain ⟨o,_,_,_,e,ex,_⟩:=I.hok p _ hk;refine ⟨⟨o,e,ex.1⟩,λa e2=>?_⟩;cases e2;exact ⟨o,e,ex.2.1⟩
 | _=>exact False.elim ty
variable {o e:Expr} {t:TA} {T id:String} {r:V->List V->Hp->VK->Prop}
end
def MtM (X:Cx) (id:String) (r:V->List V->Hp->VK->Prop):Prop :=
 ∀ (pins:Q2) (s:Shared) (σ:St) (H:Hp) (x:V) (xs:List V) (v:Value) (us:List Value) (Q:VK),Inv X pins σ H s->RelV x v->Vals xs us->r x xs H Q->
   wpAny (model X.prog X.w) X.A (call (.builtin id) (v::us)) (EP X pins σ Q) X.xe s
def Vals.one:∀ {x:V} {us:List Value},Vals [x] us->∃ u,us=[u]/\RelV x u
 | _,_,.cons r .nil=>⟨_,rfl,r⟩
def Vals.two:∀ {x y:V} {us:List Value},Vals [x,y] us->∃ u v,us=[u,v]/\RelV x u/\RelV y v
 | _,_,_,.cons r (.cons q .nil)=>⟨_,_,rfl,r,q⟩
def Vals.zero:∀ {us:List Value},Vals [] us->us=[]
 | _,.nil=>rfl
def Vals.dropLast {xs:List V} {us:List Value} (h:Vals xs us):Vals xs.dropLast us.dropLast:=by
 induction h with
 | nil=>exact .nil
 | cons r t ih=>
   cases t with
   | nil=>exact .nil
   | cons q t'=>exact .cons r ih
def Vals.eraseIdx:∀ {xs:List V} {us:List Value} (i:Nat),Vals xs us->Vals (xs.eraseIdx i) (us.eraseIdx i)
 | _,_,_,.nil=>.nil
 | _,_,0,.cons _ t=>t
 | _,_,i+1,.cons r t=>.cons r (Vals.eraseIdx i t)
def Vals.reverse {xs:List V} {us:List Value} (h:Vals xs us):Vals xs.reverse us.reverse:=by
 induction h with
 | nil=>exact .nil
 | cons r t ih=>rw [List.reverse_cons,List.reverse_cons]; exact Vals.append ih (.cons r .nil)
def Vals.rep {xs:List V} {us:List Value} (h:Vals xs us):∀ k:Nat,Vals (List.replicate k xs).flatten (List.replicate k us).flatten
 | 0=>.nil
 | k+1=>by
   rw [Dw,Dw,Ce,Ce];exact Vals.append h (Vals.rep h k)
def aX5 {α:Type} (l:List α):l.eraseIdx (l.length - 1)=l.dropLast:=by
 induction l with
 | nil=>rfl
 | cons a r ih=>
   cases r with
   | nil=>rfl
   | cons b r=>
     have e:(a::b::r).length - 1=((b::r).length - 1)+1:=by
       have h1:(a::b::r).length=r.length+2:=rfl
       have h2:(b::r).length=r.length+1:=rfl
       omega
     rw [e,List.eraseIdx_cons_succ,ih];all_goals rfl
def uH (its:List Value):∀ (k:Nat) (acc:List Value),
   List.foldl (λx1 x2=>x1++x2) acc.toArray (List.replicate k its.toArray)=(acc++(List.replicate k its).flatten).toArray
 | 0,acc=>by simp
 | k+1,acc=>by
   have e:acc.toArray++its.toArray=(acc++its).toArray:=by simp
   have e2:(acc++its)++(List.replicate k its).flatten=acc++(List.replicate (k+1) its).flatten:=by
     rw [Dw,Ce,Eu]
   rw [<-e2,<-uH its k (acc++its),<-e,Dw,List.foldl_cons]
section
variable {X:Cx} {pins:Q2} {σ:St} {H:Hp} {s:Shared} {l:Addr} {xs ys:List V}
def Inv.lset {its its':List Value} {n:Nat} {f:Array Value->Array Value} {t':Nat} (I:Inv X pins σ H s) (hH:H l=some (.lst xs))
   (e:s.heap.get? l=some { cls:=.type "list",data:=.seq its.toArray n }) (hf:f its.toArray=its'.toArray) (hv:Vals ys its') (hz:ys.length<=sizeLine) :
   Inv X pins σ (upd H l (.lst ys)) { s with heap:=s.heap.update l (Obj.mapSeq f),toks:=t' }:=by
 have q:=PySem.IsL.update e f
 rw [hf] at q;refine I.write (x:=l) (e:=l) (by rw [hH]; exact trivial) (.inl rfl) (λb' u hb hu=>(Cb s.heap (Obj.mapSeq f) (Ne.symm hb)).trans hu) ⟨_,q⟩ ?_
 exact ⟨hz,its',_,hv,q⟩
def Inv.lnew {its:List Value} {t':Nat} (I:Inv X pins σ H s) (hv:Vals ys its) (hz:ys.length<=sizeLine) :
   Inv X pins σ (upd H s.heap.objs.size (.lst ys)) { s with heap:=s.heap.push { cls:=.type "list",data:=.seq its.toArray },toks:=t' } :=
 I.laid (λ_ _ q=>Ai _ q) (Ah _) ⟨hz,its,0,hv,Ba _ rfl⟩
def Inv.fresh (I:Inv X pins σ H s):H s.heap.objs.size=none:=I.hok.fresh (Ah _)
def Inv.lstM (I:Inv X pins σ H s) (hH:H l=some (.lst xs)):xs.length<=sizeLine/\∃ (its:List Value) (n:Nat),Vals xs its/\xs.length=its.length/\s.heap.get? l=some { cls:=.type "list",data:=.seq its.toArray n }:=by
 obtain ⟨z,its,n,r,e⟩:=I.hok l _ hH;exact ⟨z,its,n,r,r.length,e⟩
def zT {n:Nat} (h:n<=sizeLine):Builtin.List.listTooLong n=false:=by
 unfold Builtin.List.listTooLong;exact Ax (by omega)
end
section
variable {X:Cx}
def aZZ:V->List V->Hp->VK->Prop:=λx vs H Q=>∃ l xs y,x=.ref l/\vs=[y]/\H l=some (.lst xs)/\xs.length<sizeLine/\Q .non (upd H l (.lst (xs++[y])))
def uB:MtM X "list.append" aZZ:=by
 intro pins s σ H x vs v us Q I rx rv h;obtain ⟨l,xs,y,rfl,rfl,hH,hz,q⟩:=h;cases rx;obtain ⟨u,rfl,ru⟩:=rv.one;obtain ⟨z,its,n,r,hl,e⟩:=I.lstM hH;refine Gq F.slot_list_append ⟨_,e,rfl⟩ F.entry_list_append (F.args_list_append_2 _ _) (PySem.list_append l its.toArray n u (by rw [Bb]; omega)) ⟨e,?_⟩
 refine ⟨.non,_,I.lset (its':=its++[u]) hH e (by simp) (r.append (.cons ru .nil)) ?_,rfl,q⟩
 rw [Ag,List.length_singleton];omega
def aZI:V->List V->Hp->VK->Prop:=λx vs H Q=>∃ l b xs zs,x=.ref l/\vs=[.ref b]/\H l=some (.lst xs)/\H b=some (.lst zs)/\xs.length+zs.length<=sizeLine/\Q .non (upd H l (.lst (xs++zs)))
def bQV:MtM X "list.extend" aZI:=by
 intro pins s σ H x vs v us Q I rx rv h;obtain ⟨l,b,xs,zs,rfl,rfl,hH,hB,hz,q⟩:=h;cases rx;obtain ⟨u,rfl,ru⟩:=rv.one;cases ru;obtain ⟨z,its,n,r,hl,e⟩:=I.lstM hH;obtain ⟨z2,its2,n2,r2,hl2,e2⟩:=I.lstM hB;have hsz:its.toArray.size+its2.toArray.size<=sizeLine:=by rw [Bb,Bb]; omega
 have hlong:¬ (!its.toArray.isEmpty && Builtin.List.listTooLong (its.toArray.size+its2.toArray.size))=true:=by
   rw [zT hsz,Bool.and_false];exact Ap
 refine Gq F.slot_list_extend ⟨_,e,rfl⟩ F.entry_list_extend (F.args_list_extend_2 _ _)
   (AutoSeq1.list_extend_list_list_0 l its.toArray n b its2.toArray n2 hlong (by rw [Bb]; omega) (by omega)) ⟨e,e2,?_⟩
 refine ⟨.non,_,I.lset (its':=its++its2) hH e (by simp) (r.append r2) ?_,rfl,q⟩
 rw [Ag];omega
def eJJ:V->List V->Hp->VK->Prop:=λx vs H Q=>∃ l xs y,x=.ref l/\vs=[]/\H l=some (.lst xs)/\xs[xs.length - 1]?=some y/\Q y (upd H l (.lst xs.dropLast))
def eJ6:MtM X "list.pop" eJJ:=by
 intro pins s σ H x vs v us Q I rx rv h;obtain ⟨l,xs,y,rfl,rfl,hH,hy,q⟩:=h;cases rx;have hus:=rv.zero
 subst hus;obtain ⟨z,its,n,r,hl,e⟩:=I.lstM hH;obtain ⟨u,hu,ru⟩:=r.get hy;have hy':its.toArray[its.toArray.size - 1]?=some u:=by
   show its.toArray[its.length - 1]?=some u
   rw [<-Dk,<-hl];exact hu
 refine Gq F.slot_list_pop ⟨_,e,rfl⟩ F.entry_list_pop (F.args_list_pop_1 _) (MeetsSeq.list_pop_last l its.toArray n u hy' (by rw [Bb]; omega)) ⟨e,?_⟩
 refine ⟨y,_,I.lset (its':=its.dropLast) hH e ?_ r.dropLast ?_,ru,q⟩
 . show its.toArray.eraseIdxIfInBounds (its.toArray.size - 1)=its.dropLast.toArray
   rw [Bb,List.eraseIdxIfInBounds_toArray,aX5]
 . rw [List.length_dropLast];omega
def bXW:V->List V->Hp->VK->Prop:=λx vs H Q=>∃ l xs,x=.ref l/\vs=[]/\H l=some (.lst xs)/\Q .non (upd H l (.lst []))
def cQW:MtM X "list.clear" bXW:=by
 intro pins s σ H x vs v us Q I rx rv h;obtain ⟨l,xs,rfl,rfl,hH,q⟩:=h;cases rx;have hus:=rv.zero
 subst hus;obtain ⟨z,its,n,r,hl,e⟩:=I.lstM hH;refine Gq F.slot_list_clear ⟨_,e,rfl⟩ F.entry_list_clear (F.args_list_clear_1 _) (AutoSeq1.list_clear_list_0 l its.toArray n (by rw [Bb]; omega)) ⟨e,?_⟩
 exact ⟨.non,_,I.lset (its':=[]) (ys:=[]) hH e rfl .nil (Cr _),rfl,q⟩
def eJ3:R2:=λx y H Q=>∃ l b xs zs,x=.ref l/\y=.ref b/\H l=some (.lst xs)/\H b=some (.lst zs)/\xs.length+zs.length<=sizeLine/\∀ p,H p=none->Q (.ref p) (upd H p (.lst (xs++zs)))
def dXY:OpR X (binaryOp .Add) eJ3:=by
 intro pins s σ H x y v u Q I rx ry h;obtain ⟨l,b,xs,zs,rfl,rfl,hH,hB,hz,q⟩:=h;cases rx;cases ry;obtain ⟨z,its,n,r,hl,e⟩:=I.lstM hH;obtain ⟨z2,its2,n2,r2,hl2,e2⟩:=I.lstM hB;refine PySem.P.add_list e e2 ?_ (by rw [Bb,Bb]; omega)
 have ea:its.toArray++its2.toArray=(its++its2).toArray:=by simp
 rw [ea];exact ⟨.ref _,_,I.lnew (t':=s.toks) (r.append r2) (by rw [Ag]; omega),rfl,q _ I.fresh⟩
def eJY:R2:=λx y H Q=>∃ l k xs,x=.ref l/\y=.int k/\H l=some (.lst xs)/\-(2 ^ 63)<=k/\k<2 ^ 63/\xs.length * k.toNat<=sizeLine/\
 ∀ p,H p=none->Q (.ref p) (upd H p (.lst (List.replicate k.toNat xs).flatten))
def dQJ {α:Type} (xs:List α) (k:Nat):(List.replicate k xs).flatten.length=k * xs.length:=by
 induction k with
 | zero=>simp
 | succ k ih=>rw [Dw,Ce,Ag,ih,Nat.succ_mul,Nat.add_comm]
def bJ1:OpR X (binaryOp .Mult) eJY:=by
 intro pins s σ H x y v u Q I rx ry h;obtain ⟨l,k,xs,rfl,rfl,hH,h1,h2,hz,q⟩:=h;cases rx;obtain ⟨t,rfl⟩:=ry;obtain ⟨z,its,n,r,hl,e⟩:=I.lstM hH;have hlen:its.toArray.size * k.toNat<=sizeLine:=by rw [Bb,<-hl]; exact hz
 have hcap:¬ its.toArray.size * k.toNat > (2 ^ 63 - 1) / 8:=by
   have:(sizeLine:Nat)<=(2 ^ 63 - 1) / 8:=by decide
   omega
 have hfit:¬ (!Builtin.List.listFitsIndex k)=true:=by
   rw [fitsIndex_both h1 h2];exact Ap
 have hlong:¬ Builtin.List.listTooLong (its.toArray.size * k.toNat)=true:=by
   rw [zT hlen];exact Ap
 have hnew:List.foldl (λx1 x2=>x1++x2) #[] (List.replicate (if its.toArray.isEmpty=true then 0 else k.toNat) its.toArray)=(List.replicate k.toNat its).flatten.toArray:=by
   have f0:∀ m:Nat,List.foldl (λx1 x2=>x1++x2) #[] (List.replicate m its.toArray)=(List.replicate m its).flatten.toArray:=λm=>by
     have:=uH its m []
     rw [List.nil_append] at this;exact this
   rw [f0];cases its with
   | nil=>simp
   | cons a r'=>rw [if_neg (by simp)]
 refine wpAny_binaryOp_repeat_ref (T := "list") (U := "int") (by decide) ⟨_,e,rfl⟩ (λs'=>typeIs_int s' k t) noFill_list_mul F.fills_int_mul F.slot_int_rmul repeat_list F.slot_int_index.lookup
   (Gq F.slot_int_rmul (typeIs_int s k t) F.entry_int_rmul (F.args_int_rmul_2 _ _) (int___rmul___int_list k t l its.toArray n)
     ⟨e,rfl,⟨_,e,rfl⟩,Gq F.slot_list_mul ⟨_,e,rfl⟩ F.entry_list_mul (F.args_list_mul_2 _ _) (AutoListH.list___mul___list_int_3 l its.toArray n k t hfit hcap hlong) ⟨e,?_⟩⟩)
 rw [hnew];exact ⟨.ref _,_,I.lnew (t':=s.toks) (r.rep k.toNat) (by rw [dQJ,Nat.mul_comm]; exact hz),rfl,q _ I.fresh⟩
end
section
end
section
end
end L2
namespace Att
open PySem PySem.W PySem.Calls PyProof.Rows
def pX {P:Params} {h:Heap}:∀ (ns:List Int) (vs:List Value),WellAll P h vs (ns.map WData.int)->IntsAre vs ns:=by
 intro ns;induction ns with
 | nil=>
   intro vs w;rw [Hq] at w;cases w;exact .nil
 | cons n ns ih=>
   intro vs w;rw [Au] at w;cases w with
   | cons a b=>
     cases a;exact .cons _ _ (ih _ b)
def bQ0 {l:OpenLaw} {n:Nat} (hn:l.most=some n) {P:Params} {h:Heap} {args:List WData} {vals:List Value}
   (hpre:l.row.toRowW.claim.pre args=true) (hwl:WellAll P h vals args) :
   ∃ a vs ns,vals=[Value.ref a]/\args=[WData.list (ns.map WData.int)]/\h.get? a=some { cls:=.type "list",data:=.seq vs.toArray }/\IntsAre vs ns/\ns.length<=n:=by
 have hsh:WShape.hasAll [] args [.list .int]=true:=(pre_splitW hpre).1
 have hc:l.pre.holds [] { args:=args }=true:=(pre_splitW hpre).2
 obtain ⟨d,r,rfl,h1,h2⟩:=hasAllW_cons hsh;obtain rfl:=hasAllW_nil h2;obtain ⟨xs,rfl,h3⟩:=hasW_list h1;obtain ⟨ns,rfl⟩:=items_int h3;have hlen:ns.length<=n:=by
   unfold OpenLaw.pre at hc;have h4:(WTm.not (.lt (.lit (.int (n:Int))) (.len (.arg 0)))).holds [] { args:=[.list (ns.map .int)] }=true:=by
     have h4:=(holds_andW hc).1
     rw [hn] at h4;exact h4
   have h5:=condW_of h4 (w_not (w_lt w_lit (w_len_list (w_arg rfl))))
   rw [Ab] at h5;refine Nat.le_of_not_lt λq=>?_;have q':(n:Int)<((ns.length:Nat):Int):=by omega
   first
     | (rw [An q'] at h5; exact absurd h5 (by decide))
     | (simp at h5; omega)
 cases hwl with
 | cons w1 w2=>
   cases w2;cases w1 with
   | list ho hall=>exact ⟨_,_,ns,rfl,rfl,ho,pX ns _ hall,hlen⟩
def bXK (l:OpenLaw) (args:List WData):l.row.toRowW.claim.post args (.bool true) args=true :=
 postW_of (r:=l.row.toRowW) (X:=(true == true))
   (show WShape.has [] (.bool true) .bool=true by first | rfl | decide | simp [WShape.has,WShape.arms,WShape.armsAll])
   (show (WTm.eq .res (.lit (.bool true))).value [] { args:=args,res:=some (.bool true),after:=args }=some (.bool (true == true)) from w_eq_bool (w_res rfl) w_lit) rfl
def attach_call {l:OpenLaw} {n:Nat} {q:Program} {loose:List Str} {XP:(Q4)->Heap->Prop} {YP:World->Heap->Prop} {d:DefRec}
   (hn:l.most=some n) (hdf:d.params.defaults=[])
   (call:∀ (w:World) (s₀ s₁:Shared) (mg mb:Q4) (fa:Addr) (o:Obj) (pm cd doc:Value) (a:Addr) (vs:List Value) (ns:List Int),
     Ground q loose [] XP w s₀ mg mb s₁.heap->YP w s₁.heap->
     s₁.heap.get? fa=some o->o.data=.func (docDef d.name d.params d.body d.scope pm cd doc)->s₁.heap.CodeRec cd d.name->mg d.name=some (.ref fa)->
     s₁.heap.get? a=some { cls:=.type "list",data:=.seq vs.toArray }->IntsAre vs ns->ns.length<=n->s₁.gens=#[]->
     codeAny (model l.prog w) callerA (.call (.ref fa) ⟨[.ref a],[]⟩) (λr s'=>r=.ok (.ret (.bool true))/\OldK s₁.heap s'.heap/\s'.os=s₁.os/\AllBare s'.gens) s₁) :
   WalkO q loose XP YP l.row.toRowW d [] (λf vs=>PySem.call f vs):=by
 intro w s₀ s₁ mg mb G Y fa o pm cd doc dV kV ho hd hcd hD hmg hg args vals as hpre hlay hrd hwl hlo;obtain rfl:dV=.none:=Dflts.none hD hdf;obtain rfl:kV=.none:=Dflts.noKw hD;obtain ⟨a,vs,ns,rfl,rfl,hobj,hints,hlen⟩:=bQ0 hn hpre hwl;refine enter_call (Et (call w s₀ s₁ mg mb fa o pm cd doc a vs ns G Y ho (fd_plain hd) hcd hmg hobj hints hlen hg) λr s' hq=>?_);obtain ⟨rfl,h2,h3,h4⟩:=hq;exact ⟨.inl ⟨.bool true,.bool true,[],rfl,λ_=>rfl,.bool true,bXK l _,λ_=>⟨List.Pairwise.nil,λ_ hm=>(nomatch hm)⟩⟩,h2,h3,h4⟩
section
end
end Att
namespace L2
open PySem PySem.Spec PyProof.Rows
def vB:∀ {vs:List Value} {ns:List Int},IntsAre vs ns->Vals (ns.map V.int) vs
 | _,_,.nil=>.nil
 | _,_,.cons n t h=>.cons ⟨t,rfl⟩ (vB h)
def aO (s:Stmt):Arguments:=match s with
 | .FunctionDef _ a _ _ _ _ _ _ _ _=>a
 | _=>{ posonlyargs:=[],args:=[],vararg:=none,kwonlyargs:=[],kw_defaults:=[],kwarg:=none,defaults:=[] }
def aM (s:Stmt):List Stmt:=match s with
 | .FunctionDef _ _ b _ _ _ _ _ _ _=>b
 | _=>[]
def aF (s:Stmt):Scope:=match s with
 | .FunctionDef _ _ _ _ _ _ sc _ _ _=>sc
 | _=>{ kind:=.function,names:=[],isGenerator:=false,isCoroutine:=false }
abbrev CX0:CXT:=λ_ _ _ _ _ _=>False
abbrev E0:XK:=λ_ _ _=>False
def bXV {X:Cx}:jQ CX0 X E0:=λ_ _ _ _ _ _ _ h=>h.elim
structure Fun (K:W.Frag) (x qual:Str) (st:Stmt) (f:Addr) (fd:FuncData):Prop where
 ex:∃ (oc:Value) (od:Option Addr) (kV doc pm:Value) (an:Option Addr) (cdv ct:Value) (osl:Array (Option Value)),
   fd=W.fnOf x qual (aO st) (aM st) (aF st) .none kV doc pm an cdv ct/\K.lookup f=some ⟨oc,od,.func fd,osl⟩/\W.codeIn K cdv qual=true
 kp:W.keepIn K (.ref f)=true
section
variable {P:Program} {w:World} {K:W.Frag} {mg:Q4} {base:Heap}
def Fun.ok {x qual:Str} {st:Stmt} {f:Addr} {fd:FuncData} {N ps:List Str} {k:Nat} {sp:Sp} (F:Fun K x qual st f fd) (S:FnScope N ps (aF st)) (len:∀ vs H Q E,sp vs H Q E->vs.length=ps.length)
   (hbody:∀ (cdv:Value) (A:Around) (outer:List Env) (s:Shared) (H:Hp) (vs:List V) (Q:VK) (E:XK),Room k (A.deeper (envOfC qual (aF st) s.heap.objs.size f cdv))->sp vs H Q E->
     ∃ t,PSs (iH CX0 P w K mg base N qual (aF st) f cdv A outer s H E).nox (aM st) t/\t { nx:=λ_ H'=>Q .non H',rt:=Q } (nV N vs) H):FnOk P w K mg base CX0 (k+1) f fd ps sp:=by
 obtain ⟨oc,od,kV,doc,pm,an,cdv,ct,osl,rfl,lk,hcd⟩:=F.ex;refine dXN lk hcd S len λA outer s H vs Q E hr hsp=>?_;obtain ⟨t,h,q⟩:=hbody cdv A outer s H vs Q E hr hsp;exact ⟨t,h.nox,q⟩
def Fun.binds {x qual:Str} {st:Stmt} {f:Addr} {fd:FuncData} {ps:List Str} (F:Fun K x qual st f fd)
   (h:∀ (kV doc pm:Value) (an:Option Addr) (cdv ct:Value) (us:List Value),us.length=ps.length->bindArgs (W.fnOf x qual (aO st) (aM st) (aF st) .none kV doc pm an cdv ct) ⟨us,[]⟩=pure (ps.zip us)):Binds K fd ps []:=by
 obtain ⟨oc,od,kV,doc,pm,an,cdv,ct,osl,rfl,lk,hcd⟩:=F.ex;exact .all (h kV doc pm an cdv ct)
def aX {x qual:Str} {st:Stmt} {f:Addr} {oc:Value} {od an:Option Addr} {osl:Array (Option Value)} {kV doc pm cdv ct:Value} (l:K.lookup f=some ⟨oc,od,.func (W.fnOf x qual (aO st) (aM st) (aF st) .none kV doc pm an cdv ct),osl⟩)
   (c:W.codeIn K cdv qual=true) (k:W.keepIn K (.ref f)=true):Fun K x qual st f (W.fnOf x qual (aO st) (aM st) (aF st) .none kV doc pm an cdv ct):=⟨⟨oc,od,kV,doc,pm,an,cdv,ct,osl,rfl,l,c⟩,k⟩
end
section
variable {X:Cx}
def pv (i:Nat) {x:Str} {pos:Pos} (hN:X.N[i]?=some x:=by rfl) (hv:Vis X.env.scope x:=by first | exact Or.inl rfl | exact Or.inr (Or.inl rfl) | exact Or.inr (Or.inr rfl)) (hd:(x == ("__debug__" : Str))=false:=by decide)
   (hcd:(x == ("__classdict__" : Str))=false:=by decide):PE X (.Name x pos) (eXW i):=dJU hN hv hd hcd
end
def eJN {A B:Prop} (h:B):if false=true then A else B:=by
 rw [if_neg Ap];exact h
def eJ2 {A B:Prop} (h:A):if true=true then A else B:=by
 rw [if_pos rfl];exact h
def gJ {c A B:Prop} [Decidable c] (h1:c->A) (h2:¬ c->B):if c then A else B:=by
 by_cases h:c
 . rw [if_pos h];exact h1 h
 . rw [if_neg h];exact h2 h
def Same (H H':Hp):Prop:=∀ b o,H b=some o->H' b=some o
def Same.refl (H:Hp):Same H H:=λ_ _ h=>h
def Same.trans {H H1 H2:Hp} (a:Same H H1) (b:Same H1 H2):Same H H2:=λc o h=>b c o (a c o h)
def Same.free {H H':Hp} (e:Same H H') {l:Addr} (h:H' l=Option.none):H l=Option.none:=by
 cases q:H l with
 | none=>rfl
 | some o=>
   rw [e l o q] at h;cases h
def Same.seq {K:W.Frag} {H H':Hp} {a:Addr} {xs:List V} (e:Same H H') (h:SqL K H a xs):SqL K H' a xs:=by
 rcases h with (h | ⟨o,h⟩) | h
 . exact .inl (.inl (e _ _ h))
 . exact .inl (.inr ⟨o,e _ _ h⟩)
 . exact .inr h
end L2
namespace FlT
open PySem PySem.Spec PyProof.Rows
def sIx (n d:Nat):Option Int->Nat
 | none=>d
 | some v=>if v<0 then (v+(n:Int)).toNat else min v.toNat n
def aQA (n d:Nat) (hd:d<=n) (o:Option Int):sIx n d o<=n:=by
 cases o with
 | none=>exact hd
 | some v=>
   show (if v<0 then (v+(n:Int)).toNat else min v.toNat n)<=n
   by_cases hv:v<0
   . rw [if_pos hv]; omega
   . rw [if_neg hv]; omega
def aZE (n d:Nat) (hd:d<=n) (v:Option Int):(match v with
   | none=>(d:Int)
   | some i=>if (1:Int) > 0 then max 0 (min (if i<0 then i+(n:Int) else i) (n:Int)) else max (-1) (min (if i<0 then i+(n:Int) else i) ((n:Int) - 1)))=((sIx n d v:Nat):Int):=by
 cases v with
 | none=>rfl
 | some i=>
   simp only [show (1:Int) > 0 by decide,if_true,sIx]
   by_cases h:i<0
   . simp only [h,if_true]; omega
   . simp only [h,if_false]; omega
def aJL (lo hi:Option Int) (n:Nat):Builtin.Str.strSliceIndices lo hi 1 n=(List.range (sIx n n hi - sIx n 0 lo)).map (sIx n 0 lo+·):=by
 have h1:=aZE n 0 (Cr _) lo
 have h2:=aZE n n (Ah _) hi
 rw [<-sliceRange_one,<-h1,<-h2];rfl
def slice_cps (z:Str) (lo hi:Option Int):(Txt.slice z lo hi).cps.toList=(z.cps.toList.drop (sIx z.length 0 lo)).take (sIx z.length z.length hi - sIx z.length 0 lo):=by
 have e:((Builtin.Str.strSliceIndices lo hi 1 z.length).filterMap (z.cps[·]?))=(z.cps.toList.drop (sIx z.length 0 lo)).take (sIx z.length z.length hi - sIx z.length 0 lo):=by
   rw [aJL,pick_run]
 unfold Txt.slice;split
 . rename_i h
   have hl:(Builtin.Str.strSliceIndices lo hi 1 z.length).length=z.length:=by simpa using h
   rw [aJL,Ab,Ca] at hl;have hn:z.cps.toList.length=z.length:=by simp [Str.length]
   have h1:=aQA z.length z.length (Ah _) hi
   have h2:=aQA z.length 0 (Cr _) lo
   have a0:sIx z.length 0 lo=0:=by omega
   rw [a0,List.drop_zero,Bf (by omega)]
 . show (List.toArray _).toList=_
   rw [<-e]
def app_cps (x y:Str):(x++y).cps.toList=x.cps.toList++y.cps.toList:=by
 show (x.cps++y.cps).toList=_
 simp
def str_ext {x y:Str} (h:x.cps.toList=y.cps.toList):x=y:=by
 obtain ⟨⟨x⟩⟩:=x;obtain ⟨⟨y⟩⟩:=y;cases h;rfl
end FlT
namespace L2
open PySem PySem.Spec PyProof.Rows
def PE.imp {X:Cx} {e:Expr} {t t':TE} (h:PE X e t) (i:∀ σ H Q,t' σ H Q->t σ H Q):PE X e t':=λpins s σ H Q I q=>h pins s σ H Q I (i σ H Q q)
def PT.imp {X:Cx} {e:Expr} {t t':TT} (h:PT X e t) (i:∀ σ H Q,t' σ H Q->t σ H Q):PT X e t':=λpins s σ H Q I q=>h pins s σ H Q I (i σ H Q q)
def OpR.imp {X:Cx} {f:Value->Value->Sem Value} {r r':R2} (h:OpR X f r) (i:∀ x y H Q,r' x y H Q->r x y H Q):OpR X f r':=λpins s σ H x y v u Q I rx ry q=>h pins s σ H x y v u Q I rx ry (i x y H Q q)
def CallR.imp {X:Cx} {f:Value} {r r':List V->Hp->VK->Prop} (h:CallR X f r) (i:∀ xs H Q,r' xs H Q->r xs H Q):CallR X f r':=λpins s σ H xs us Q I rx q=>h pins s σ H xs us Q I rx (i xs H Q q)
def MtR.imp {X:Cx} {id:String} {r r':V->List V->Hp->VK->Prop} (h:MtR X id r) (i:∀ x xs H Q,r' x xs H Q->r x xs H Q):MtR X id r':=λpins s σ H x xs v us Q I rx rs q=>h pins s σ H x xs v us Q I rx rs (i x xs H Q q)
def IxR.imp {X:Cx} {r r':R2} (h:IxR X r) (i:∀ x y H Q,r' x y H Q->r x y H Q):IxR X r':=λvalue slice pins s σ H x y v u Q I rx ry q hs=>h value slice pins s σ H x y v u Q I rx ry (i x y H Q q) hs
def SlR.imp {X:Cx} {r r':V->Option Int->Option Int->Hp->VK->Prop} (h:SlR X r) (i:∀ x lo hi H Q,r' x lo hi H Q->r x lo hi H Q):SlR X r':=λpins s σ H x v vl vu lo hi sl Q I rx hs pl pu q=>h pins s σ H x v vl vu lo hi sl Q I rx hs pl pu (i x lo hi H Q q)
def Its (z:Str):It:=⟨λi _=>i<z.cps.size,λi H x H'=>H'=H/\∃ c,z.cps[i]?=some c/\x=.str ⟨#[c]⟩,λi _=>z.cps.size<=i⟩
def aX7 {P:Program} {w:World} {K:W.Frag} {tg:Expr} (z:Str) (t:Tok) (it:Addr):Turn P w K tg (Its z) [it] it (λi h=>h.IsStrIter it "str_ascii_iterator" z t i) where
 mem:=by simp
 obj:=λi h st b hb=>by
   have e:b=it:=by simpa using hb
   subst e;obtain ⟨o,e,c,d⟩:=st;exact ⟨o,e,λv z=>by rw [d] at z; cases z⟩
 keep:=λi h h' st k=>let ⟨o,ho,r⟩:=st; ⟨o,k it (by simp) o ho,r⟩
 item:=by
   intro X hP hw hK hc i pins s σ H E I hf st hg;subst hP hw hK;obtain ⟨f0,f1,f2,f3,f4,f5⟩:=hf it (by simp)
   have hi:i<z.cps.size:=hg
   refine wpAny_pyNext_ascii_item st (c:=z.cps[i]) (by simp [hi]) λh' st' sb=>?_
   have I1:Inv X pins σ H { s with heap:=h',toks:=s.toks+1 }:=I.turned (λb o hb e=>(sb.2 b hb).trans e) f0 f1 f3 f4 f5
   obtain ⟨o,e,c,d⟩:=id st';exact ⟨_,rfl,uV (s:={ s with heap:=h',toks:=s.toks+1 }) e c d (by decide) ⟨.str ⟨#[z.cps[i]]⟩,H,I1,⟨_,rfl⟩,⟨rfl,_,by simp [hi],rfl⟩,st',λb hb=>(hf b hb).1⟩⟩
 done:=by
   intro X hP hw hK hc i pins s σ H E I hf st hg;subst hP hw hK;obtain ⟨f0,f1,f2,f3,f4,f5⟩:=hf it (by simp)
   have hi:z.cps.size<=i:=hg
   exact wpAny_pyNext_ascii_end (I.ok.hd hc) st (by simp [hi]) λh' eb=>⟨rfl,I.turned (t':=s.toks) (λb o hb e=>eb b o hb e) f0 f1 f3 f4 f5⟩
 self:=λ_ _ _ _ _ st h=>wpAny_pyIter_striter_ascii st h
def bQ3 {P:Program} {w:World} {K:W.Frag} {tg:Expr} (z:Str) (t:Tok) (it:Addr):Turn P w K tg (Its z) [it] it (λi h=>h.IsStrIter it "str_iterator" z t i) where
 mem:=by simp
 obj:=λi h st b hb=>by
   have e:b=it:=by simpa using hb
   subst e;obtain ⟨o,e,c,d⟩:=st;exact ⟨o,e,λv z=>by rw [d] at z; cases z⟩
 keep:=λi h h' st k=>let ⟨o,ho,r⟩:=st; ⟨o,k it (by simp) o ho,r⟩
 item:=by
   intro X hP hw hK hc i pins s σ H E I hf st hg;subst hP hw hK;obtain ⟨f0,f1,f2,f3,f4,f5⟩:=hf it (by simp)
   have hi:i<z.cps.size:=hg
   refine wpAny_pyNext_wide_item st (c:=z.cps[i]) (by simp [hi]) λh' st' sb=>?_
   have I1:Inv X pins σ H { s with heap:=h',toks:=s.toks+1 }:=I.turned (λb o hb e=>(sb.2 b hb).trans e) f0 f1 f3 f4 f5
   obtain ⟨o,e,c,d⟩:=id st';exact ⟨_,rfl,uV (s:={ s with heap:=h',toks:=s.toks+1 }) e c d (by decide) ⟨.str ⟨#[z.cps[i]]⟩,H,I1,⟨_,rfl⟩,⟨rfl,_,by simp [hi],rfl⟩,st',λb hb=>(hf b hb).1⟩⟩
 done:=by
   intro X hP hw hK hc i pins s σ H E I hf st hg;subst hP hw hK;obtain ⟨f0,f1,f2,f3,f4,f5⟩:=hf it (by simp)
   have hi:z.cps.size<=i:=hg
   exact wpAny_pyNext_wide_end (I.ok.hd hc) st (by simp [hi]) λh' eb=>⟨rfl,I.turned (t':=s.toks) (λb o hb e=>eb b o hb e) f0 f1 f3 f4 f5⟩
 self:=λ_ _ _ _ _ st h=>wpAny_pyIter_striter_wide st h
section
end
def cJ4 {z:Str} {g:TG} {tb:TS} {D:Ends} {σ:St} {H:Hp} (Pv:Nat->St->Hp->Prop) (h0:Pv 0 σ H)
   (hs:∀ i c σ H,z.cps.toList[i]?=some c->Pv i σ H->g (.str ⟨#[c]⟩) σ H λσ2 H2=>tb { D with nx:=Pv (i+1),ct:=Pv (i+1),bk:=D.nx } σ2 H2) (hd:∀ σ H,Pv z.cps.toList.length σ H->D.nx σ H) :
   ∃ W:Nat->Nat->St->Hp->Prop,(∃ m,W 0 m σ H)/\∀ i m σ H,W i m σ H->
     ((Its z).stop i H/\D.nx σ H)\/((Its z).go i H/\∃ N:St->Hp->Prop,(∀ σ' H',N σ' H'->∃ m',m' < m/\W (i+1) m' σ' H')/\∀ x H',(Its z).yld i H x H'->g x σ H' λσ2 H2=>tb { D with nx:=N,ct:=N,bk:=D.nx } σ2 H2):=by
 have hl:z.cps.toList.length=z.cps.size:=by simp
 rw [hl] at hd;refine ⟨λi m σ H=>m=z.cps.size - i/\i<=z.cps.size/\Pv i σ H,⟨z.cps.size,by simp,Nat.zero_le _,h0⟩,?_⟩
 rintro i m σ H ⟨rfl,hi,p⟩;by_cases hlt:i<z.cps.size
 . refine .inr ⟨hlt,Pv (i+1),λσ' H' p'=>⟨z.cps.size - (i+1),by omega,rfl,hlt,p'⟩,λx H' y=>?_⟩
   obtain ⟨e,c,hc,hx⟩:=y;subst e hx;exact hs i c σ _ (by simpa using hc) p
 . have e:i=z.cps.size:=by omega
   subst e;exact .inl ⟨Ah _,hd σ H p⟩
section
variable {X:Cx} {b:Expr}
def eJ4:V->Option Int->Option Int->Hp->VK->Prop:=λx lo hi H Q=>∃ z,x=.str z/\z.length<=sizeLine/\Q (.str (Txt.slice z lo hi)) H
def eQK:SlR X eJ4:=by
 intro pins s σ H x v vl vu lo hi sl Q I rx hs pl pu h;obtain ⟨z,rfl,hz,q⟩:=h;obtain ⟨t,rfl⟩:=rx;refine ⟨"str",_,PySem.F.slot_str_getitem.lookup,typeIs_str _ _ _,?_⟩;cases pl with
 | none=>
   cases pu with
   | none=>exact Fd (l:=none) (u:=none) (st:=none) hs rfl (post_val_or_str ⟨Bg (Txt.slice_le z _ _) hz,λt' k=>⟨.str (Txt.slice z none none),H,I.tok _,⟨_,rfl⟩,q⟩⟩)
   | int j uj=>exact Fd (l:=none) (u:=some (j,uj)) (st:=none) hs rfl (post_val_or_str ⟨Bg (Txt.slice_le z _ _) hz,λt' k=>⟨.str (Txt.slice z none (some j)),H,I.tok _,⟨_,rfl⟩,q⟩⟩)
 | int i ui=>
   cases pu with
   | none=>exact Fd (l:=some (i,ui)) (u:=none) (st:=none) hs rfl (post_val_or_str ⟨Bg (Txt.slice_le z _ _) hz,λt' k=>⟨.str (Txt.slice z (some i) none),H,I.tok _,⟨_,rfl⟩,q⟩⟩)
   | int j uj=>exact Fd (l:=some (i,ui)) (u:=some (j,uj)) (st:=none) hs rfl (post_val_or_str ⟨Bg (Txt.slice_le z _ _) hz,λt' k=>⟨.str (Txt.slice z (some i) (some j)),H,I.tok _,⟨_,rfl⟩,q⟩⟩)
def cZH:V->List V->Hp->VK->Prop:=λx vs H Q=>∃ z y i rest,x=.str z/\vs=[.str y]/\Builtin.Str.occurrences z y 0 z.length 1=i::rest/\Q (.int ((i:Nat):Int)) H
def mt_index:MtR X "str.index" cZH:=by
 intro pins s σ H x vs v us Q I rx rv h;obtain ⟨z,y,i,rest,rfl,rfl,ho,q⟩:=h;obtain ⟨t,rfl⟩:=rx;obtain ⟨u,rfl,ru⟩:=rv.one;obtain ⟨t',rfl⟩:=ru;exact SC.index ho ⟨.int i,H,I.tok _,⟨_,rfl⟩,q⟩
def aQM {ys:List Str}:∀ {us:List Value},Vals (ys.map V.str) us->StrsAre us ys:=by
 induction ys with
 | nil=>intro us r; rw [Hq] at r; cases r; exact .nil
 | cons n ns ih=>
   intro us r;rw [Au] at r;cases r with
   | cons r1 r2=>
     obtain ⟨t,e⟩:=r1;subst e;exact .cons n t (ih r2)
def eZI (K:W.Frag):V->List V->Hp->VK->Prop:=λx vs H Q=>∃ z p ys,x=.str z/\vs=[.ref p]/\SqL K H p (ys.map V.str)/\(ys.map (·.length)).sum+ys.length * z.length<=16777216/\Q (.str (Txt.join z ys)) H
def mt_join:MtR X "str.join" (eZI X.K):=by
 intro pins s σ H x vs v us Q I rx rv h;obtain ⟨z,p,ys,rfl,rfl,hp,hz,q⟩:=h;obtain ⟨t,rfl⟩:=rx;obtain ⟨u,rfl,ru⟩:=rv.one;cases ru;obtain ⟨its,r,pl,_⟩:=I.list hp;exact join_list pl.isList (by simpa using aQM r) hz λt' k=>⟨.str (Txt.join z ys),H,I.tok _,⟨_,rfl⟩,q⟩
def sV:CallR X (.type "int") (λxs H Q=>∃ x n,xs=[.str x]/\PySem.intText? x=some n/\x.length<=640/\Q (.int n) H):=by
 intro pins s σ H xs us Q I r h;obtain ⟨x,n,rfl,hn,hl,q⟩:=h;obtain ⟨u,rfl,t,rfl⟩:=gD r;exact W.KIN.call_text hn hl ⟨.int n,H,I.tok _,⟨_,rfl⟩,q⟩
def call_isinst:CallR X (.builtin "isinstance") (λxs H Q=>∃ x T t b,xs=[x,.ty T]/\TyOf X.K H x t/\W.kitOne X.K t (.type T)=some b/\Q (.bl b) H):=by
 intro pins s σ H xs us Q I r h;obtain ⟨x,T,t,b,rfl,ty,e,q⟩:=h;obtain ⟨u,w',rfl,rx,ry⟩:=cQJ r;cases (show w'=Value.type T from ry);exact bXA I rx ty e λtk=>⟨.bl b,H,I.tok _,rfl,q⟩
def zA {bs:List Bool}:∀ {us:List Value},Vals (bs.map V.bl) us->LSm.BoolsAre us bs:=by
 induction bs with
 | nil=>intro us r; rw [Hq] at r; cases r; exact .nil
 | cons n ns ih=>
   intro us r;rw [Au] at r;cases r with
   | cons r1 r2=>
     cases r1;exact .cons n (ih r2)
def tT (hc:X.calm=true):CallR X (.builtin "all") (λxs H Q=>∃ (p:Addr) (bs:List Bool),xs=[.ref p]/\SqL X.K H p (bs.map V.bl)/\Q (.bl (bs.all id)) H):=by
 intro pins s σ H xs us Q I r h;obtain ⟨p,bs,rfl,hp,q⟩:=h;obtain ⟨u,rfl,ru⟩:=gD r;cases ru;obtain ⟨its,rv,pl,hz⟩:=I.list hp;have hb:=zA rv
 have hl:=pl.isList
 have hlt:p<s.heap.objs.size:=by obtain ⟨_,e,_⟩:=hl; exact Av e
 refine call_all_walk (Fw hl ?_);refine ⟨s.heap.objs.size,[s.heap.objs.size,p],[s.heap.objs.size],its.toArray.size,_,_,λi=>(bs[i]?).getD true,rfl,Walks.list (A:=X.A.in1) (I.ok.hd hc) _ p (Bo hlt) its.toArray,
   ⟨⟨_,Ba _ rfl,rfl,rfl⟩,hl.push _⟩,λi v s' Q' E' hP hQ=>?_,λh' tk hk=>?_⟩
 . obtain ⟨b,e,rfl⟩:=hb.get i v (by simpa using hP)
   simp only [e,Option.getD_some] at hQ;exact Fv hQ
 . have e:((List.range its.toArray.size).all λi=>(bs[i]?).getD true)=bs.all id:=by
     rw [Bb,hb.length]; exact LSm.range_all bs
   rw [e];exact ⟨.bl (bs.all id),H,I.kept (LSm.kept_iter hk),rfl,q⟩
def oQ (xs ys:List V):Bool:=xs.length == ys.length && (List.range xs.length).all λj=>eqV (xs.getD j .non) (ys.getD j .non)
def Vals.getD_rel {xs:List V} {us:List Value} {j:Nat} (r:Vals xs us) (h:j<us.length):RelV (xs.getD j .non) us[j]:=by
 have hl:=r.length
 have hx:j<xs.length:=by omega
 obtain ⟨u,hu,ru⟩:=r.get (Aa hx);rw [Aa h] at hu;cases hu;rw [Ac,Aa hx];exact ru
def vF {xs:List V} (h:xs.all bQ=true) (j:Nat):bQ (xs.getD j .non)=true:=by
 rw [Ac];cases e:xs[j]? with
 | none=>rfl
 | some x=>exact Ck.mp h x (Al e)
def eQQ (K:W.Frag) (neg:Bool):R2:=λx y H Q=>∃ p q xs ys,x=.ref p/\y=.ref q/\SqL K H p xs/\SqL K H q ys/\xs.all bQ=true/\ys.all bQ=true/\Q (.bl (if neg then !oQ xs ys else oQ xs ys)) H
def cXS {xs ys:List V} (h:xs.length≠ys.length):oQ xs ys=false:=by
 unfold oQ;rw [Cp.mpr h,Bool.false_and]
def bQ8 {xs ys:List V} (h:xs.length=ys.length):oQ xs ys=(List.range xs.length).all λj=>eqV (xs.getD j .non) (ys.getD j .non):=by
 unfold oQ;rw [h,Fe,Bool.true_and]
def aXK (hu:X.A.units<cLine):OpR X (compareOp .Eq) (eQQ X.K false):=by
 intro pins s σ H x y v u Q I rx ry h;obtain ⟨p,q,xs,ys,rfl,rfl,hp,hq,fx,fy,k⟩:=h;cases rx;cases ry;obtain ⟨its,r1,l1,_⟩:=I.list hp;obtain ⟨its2,r2,l2,_⟩:=I.list hq;have e1:=r1.length
 have e2:=r2.length
 by_cases hl:xs.length=ys.length
 . refine SeqAt.eq_listAt (e:=λj=>eqV (xs.getD j .non) (ys.getD j .non)) l1.isList l2.isList (by simp only [List.size_toArray]; omega) hu (λj h1 h2=>?_) ?_
   . have h1':j<its.length:=by simpa using h1
     have h2':j<its2.length:=by simpa using h2
     simpa using aXC (A:=X.A.in1) (s:=s) (r1.getD_rel h1') (r2.getD_rel h2') (vF fx j) (vF fy j)
   . refine ⟨.bl (oQ xs ys),H,I,?_,k⟩;rw [bQ8 hl];simp only [List.size_toArray,<-e1];rfl
 . refine SeqAt.eq_list_lengthsAt l1.isList l2.isList (by simp only [List.size_toArray,bne_iff_ne]; omega) hu ⟨.bl (oQ xs ys),H,I,?_,k⟩
   rw [cXS hl];rfl
end
end L2
namespace L2
open PySem PySem.Spec PyProof.Rows
def rdO:Option HO->Option (List V)
 | some (.lst xs)=>some xs
 | some (.frz _ (.lst xs))=>some xs
 | _=>none
def rdL (H:Hp) (a:Addr):Option (List V):=rdO (H a)
def bB {K:W.Frag} {H:Hp} {a:Addr} {xs:List V} (h:rdL H a=some xs):SqL K H a xs:=by
 unfold rdL rdO at h;split at h
 . cases h; exact .inl (.inl (by assumption))
 . cases h; exact .inl (.inr ⟨_,by assumption⟩)
 . cases h
def aT {H:Hp} {a:Addr} {xs:List V} (h:H a=some (.lst xs)):rdL H a=some xs:=by unfold rdL; rw [h]; rfl
def dG {H:Hp} {a:Addr} {xs:List V}:rdL (upd H a (.lst xs)) a=some xs:=aT aD
def aQ3 {H:Hp} {a b:Addr} {o:HO} (h:b≠a):rdL (upd H a o) b=rdL H b:=by unfold rdL; rw [aH h]
def aK {H H':Hp} {a:Addr} {xs:List V} (e:Same H H') (h:rdL H a=some xs):rdL H' a=some xs:=by
 unfold rdL at h ⊢;cases q:H a with
 | none=>rw [q] at h; cases h
 | some o=>rw [e a o q,<-q]; exact h
def aG {H:Hp} {p:Addr} (h:H p=none) (o:HO):Same H (upd H p o):=λb u q=>by rw [aH (bF q h)]; exact q
def gI (H:Hp) (a:Addr):Option (List V):=match H a with | some (.lst xs)=>some xs | _=>none
def bL {H:Hp} {a:Addr} {xs:List V} (h:H a=some (.lst xs)):gI H a=some xs:=by unfold gI; rw [h]
def jW {H:Hp} {a:Addr} {xs:List V} (h:gI H a=some xs):H a=some (.lst xs):=by
 unfold gI at h;split at h
 . cases h; assumption
 . cases h
def dU {H:Hp} {a:Addr} {xs:List V}:gI (upd H a (.lst xs)) a=some xs:=bL aD
def vO {H:Hp} {a b:Addr} {o:HO} (h:b≠a):gI (upd H a o) b=gI H b:=by unfold gI; rw [aH h]
def nE (H:Hp) (a:Addr):Option (List V):=match H a with | some (.tup xs)=>some xs | _=>none
def cU {H:Hp} {a:Addr} {xs:List V} (h:H a=some (.tup xs)):nE H a=some xs:=by unfold nE; rw [h]
def qH {H:Hp} {a:Addr} {xs:List V} (h:nE H a=some xs):H a=some (.tup xs):=by
 unfold nE at h;split at h
 . cases h; assumption
 . cases h
def pF {H:Hp} {a:Addr} {xs:List V}:nE (upd H a (.tup xs)) a=some xs:=cU aD
section
variable {X:Cx} {a b c:Expr} {ta tb:TE} {pos:Pos}
def cJK (i:Nat):TE:=λσ H Q=>match σ[i]? with | some (some v)=>Q v H | _=>False
def mv (i:Nat) {x:Str} {pos:Pos} (hN:X.N[i]?=some x:=by rfl) (hv:Vis X.env.scope x:=by first | exact Or.inl rfl | exact Or.inr (Or.inl rfl) | exact Or.inr (Or.inr rfl)) (hd:(x == ("__debug__" : Str))=false:=by decide)
   (hcd:(x == ("__classdict__" : Str))=false:=by decide):PE X (.Name x pos) (cJK i):=(pv i hN hv hd hcd).imp λσ H Q q=>by
 unfold cJK at q;split at q
 . exact ⟨_,by assumption,q⟩
 . exact q.elim
def mI (g:Int->Int->V):R2:=λx y H Q=>match x,y with | .int i,.int j=>Q (g i j) H | _,_=>False
def xH {g:Int->Int->V} {x y:V} {H:Hp} {Q:VK} (q:mI g x y H Q):rI0 g x y H Q:=by
 unfold mI at q;split at q
 . exact ⟨_,_,rfl,rfl,q⟩
 . exact q.elim
def mIC (C:Int->Int->Prop) (g:Int->Int->V):R2:=λx y H Q=>match x,y with | .int i,.int j=>C i j/\Q (g i j) H | _,_=>False
def wJ {C:Int->Int->Prop} {g:Int->Int->V} {x y:V} {H:Hp} {Q:VK} (q:mIC C g x y H Q):rI C g x y H Q:=by
 unfold mIC at q;split at q
 . exact ⟨_,_,rfl,rfl,q.1,q.2⟩
 . exact q.elim
def bQ2:R2:=λx y H Q=>match x,y with
 | .int i,.int j=>Q (.int (i+j)) H
 | .str z,.str y=>z.length+y.length<=sizeLine/\Q (.str (z++y)) H
 | .ref p,.ref q=>(match gI H p,gI H q with
   | some xs,some zs=>xs.length+zs.length<=sizeLine/\∀ r,H r=none->Q (.ref r) (upd H r (.lst (xs++zs)))
   | _,_=>False)
 | _,_=>False
def bS:OpR X (binaryOp .Add) bQ2:=by
 intro pins s σ H x y v u Q I rx ry q;unfold bQ2 at q;split at q
 . exact dZY pins s σ H _ _ v u Q I rx ry ⟨_,_,rfl,rfl,q⟩
 . exact aQL pins s σ H _ _ v u Q I rx ry ⟨_,_,rfl,rfl,q.1,q.2⟩
 . split at q
   . exact dXY pins s σ H _ _ v u Q I rx ry ⟨_,_,_,_,rfl,rfl,jW (by assumption),jW (by assumption),q.1,q.2⟩
   . exact q.elim
 . exact q.elim
def uA:OpR X (binaryOp .Sub) (mI λi j=>.int (i - j)):=op_sub.imp λ_ _ _ _ q=>xH q
def lX:OpR X (binaryOp .Mult) (mIC CMul λi j=>.int (i * j)):=op_mul.imp λ_ _ _ _ q=>wJ q
def eJ:OpR X (binaryOp .Mod) (mIC (λ_ j=>0<j) λi j=>.int (i % j)):=op_mod.imp λ_ _ _ _ q=>wJ q
def iX:OpR X (binaryOp .FloorDiv) (mIC eXX λi j=>.int (i / j)):=op_fdiv.imp λ_ _ _ _ q=>wJ q
def aQJ:OpR X (compareOp .Lt) (mI λi j=>.bl (decide (i<j))):=op_lt.imp λ_ _ _ _ q=>xH q
def aJ8:OpR X (compareOp .Gt) (mI λi j=>.bl (decide (j<i))):=op_gt.imp λ_ _ _ _ q=>xH q
def eJP:OpR X (compareOp .GtE) (mI λi j=>.bl (decide (j<=i))):=op_ge.imp λ_ _ _ _ q=>xH q
def eQC:V->Hp->VK->Prop:=λx H Q=>match x with | .int i=>Q (.int (-i)) H | _=>False
def dXA:UnR X (unaryOp .USub) eQC:=λpins s σ H x v Q I rx q=>by
 unfold eQC at q;split at q
 . exact dJE pins s σ H _ v Q I rx ⟨_,rfl,q⟩
 . exact q.elim
def mEq:R2:=λx y H Q=>cJ2 x y=true/\Q (.bl (decide (x=y))) H
def mO:OpR X (compareOp .Eq) mEq:=eZT
def mNe:R2:=λx y H Q=>cJ2 x y=true/\Q (.bl (!decide (x=y))) H
def cJS:OpR X (compareOp .NotEq) mNe:=eQX
def cQ6 (neg:Bool):R2:=λx y H Q=>match x,y with
 | .ref p,.ref q=>(match rdL H p,rdL H q with
   | some xs,some ys=>xs.all bQ=true/\ys.all bQ=true/\Q (.bl (if neg then !oQ xs ys else oQ xs ys)) H
   | _,_=>False)
 | _,_=>False
def cQE {K:W.Frag} {neg:Bool} {x y:V} {H:Hp} {Q:VK} (q:cQ6 neg x y H Q):eQQ K neg x y H Q:=by
 unfold cQ6 at q;split at q
 . split at q
   . exact ⟨_,_,_,_,rfl,rfl,bB (by assumption),bB (by assumption),q.1,q.2.1,q.2.2⟩
   . exact q.elim
 . exact q.elim
def eZF (hu:X.A.units<cLine):OpR X (compareOp .Eq) (cQ6 false):=(aXK hu).imp λ_ _ _ _ q=>cQE q
def dJB:R2:=λx y H Q=>match y with | .non=>Q (.bl (decide (x=.non))) H | _=>False
def aZ4:OpR X (compareOp .Is) dJB:=op_isN.imp λ_ y _ _ q=>by
 unfold dJB at q;split at q
 . exact ⟨rfl,q⟩
 . exact q.elim
def cQA:R2:=λx y H Q=>match y with | .non=>Q (.bl (!decide (x=.non))) H | _=>False
def sA:OpR X (compareOp .IsNot) cQA:=op_notN.imp λ_ y _ _ q=>by
 unfold cQA at q;split at q
 . exact ⟨rfl,q⟩
 . exact q.elim
def subIn (y x:Str):Bool:=!(Builtin.Str.occurrences x y 0 x.length 1).isEmpty
def lQ (x:Str) (c:Nat):subIn ⟨#[c]⟩ x=decide (c∈x.cps.toList):=PySem.StrLaws.found_one x c
def dZB (neg:Bool):R2:=λx y H Q=>match x,y with | .str i,.str j=>Q (.bl (if neg then !subIn i j else subIn i j)) H | _,_=>False
def aJP:OpR X (compareOp .In) (dZB false):=op_in_str.imp λ_ _ _ _ q=>by
 unfold dZB at q;split at q
 . exact ⟨_,_,rfl,rfl,q⟩
 . exact q.elim
def bQB (neg:Bool):R2:=λx y H Q=>match y with
 | .ref p=>(match rdL H p with | some xs=>bQ x=true/\xs.all bQ=true/\Q (.bl (if neg then !inV x xs else inV x xs)) H | none=>False)
 | _=>False
def zX {K:W.Frag} {neg:Bool} {x y:V} {H:Hp} {Q:VK} (q:bQB neg x y H Q):rIn K neg x y H Q:=by
 unfold bQB at q;split at q
 . split at q
   . exact ⟨_,_,rfl,.inl (bB (by assumption)),q.1,q.2.1,q.2.2⟩
   . exact q.elim
 . exact q.elim
def eZM:OpR X (compareOp .In) (bQB false):=op_in_seq.imp λ_ _ _ _ q=>zX q
def xO:OpR X (compareOp .NotIn) (bQB true):=op_notIn_seq.imp λ_ _ _ _ q=>zX q
def mB (Q:Bool->Hp->Prop):VK:=λx H=>match x with | .bl k=>Q k H | _=>False
def dQ1 {Q:Bool->Hp->Prop} {x:V} {H:Hp} (q:mB Q x H):∃ k,x=.bl k/\Q k H:=by
 unfold mB at q;split at q
 . exact ⟨_,rfl,q⟩
 . exact q.elim
def dQU (t:TE):TT:=λσ H Q=>t σ H (mB Q)
def bA {op:CmpOp} {r:R2} (ho:OpR X (compareOp op) r) (ha:PE X a ta) (hb:PE X b tb) (hm:behindInMarks op b=false):PT X (.Compare a [op] [b] pos) (dQU (tOp r ta tb)):=by
 intro pins s σ H Q I h;refine wpAny_isTrue_Compare1 (thn (ha pins s σ H _ I h) λv s1 ⟨x,H1,I1,r1,q1⟩=>thn (hb pins s1 σ H1 _ I1 q1) λu s2 ⟨y,H2,I2,r2,q2⟩=>
   thn (ho pins s2 σ H2 x y v u _ I2 r1 r2 q2) λc s3 ⟨z,H3,I3,r3,q⟩=>?_) hm
 obtain ⟨k,e,q3⟩:=dQ1 q;subst e;cases r3;exact Fv ⟨H3,I3,q3⟩
def bZX (Q:Bool->Hp->Prop):VK:=λx H=>match x with
 | .non=>Q false H
 | .bl k=>Q k H
 | .int i=>Q (i != 0) H
 | .str y=>y.length<=sizeLine/\Q ((y.length:Int) != 0) H
 | .ref p=>(match rdL H p with
   | some xs=>Q (!xs.isEmpty) H
   | none=>(match H p with | some (.dK kvs)=>Q (!kvs.isEmpty) H | _=>False))
 | _=>False
def cZC {K:W.Frag} {Q:Bool->Hp->Prop} {x:V} {H:Hp} (q:bZX Q x H):∃ k,eXV K x H k/\Q k H:=by
 unfold bZX at q;split at q
 . exact ⟨_,rfl,q⟩
 . exact ⟨_,rfl,q⟩
 . exact ⟨_,rfl,q⟩
 . exact ⟨_,⟨q.1,rfl⟩,q.2⟩
 . split at q
   . exact ⟨_,.inl ⟨_,bB (by assumption),rfl⟩,q⟩
   . split at q
     . exact ⟨_,.inr (.inr ⟨_,by assumption,rfl⟩),q⟩
     . exact q.elim
 . exact q.elim
def bJV (t:TE):TT:=λσ H Q=>t σ H (bZX Q)
def fH (ha:PE X a ta) (he:∀ whole,isTrue a X.env whole=(do let v <-whole; standAt a.pos; holding [v] (truthy v)):=by intro _; rfl):PT X a (bJV ta):=by
 intro pins s σ H Q I h;refine isTrue_plain (thn (ha pins s σ H _ I h) λv s1 ⟨x,H1,I1,r1,q1⟩=>dXV pins s1 σ H1 x v Q I1 r1 (cZC q1)) (he _)
variable {rest:List Expr}
def dXF (ta tb:TE):TE:=λσ H Q=>ta σ H (mB λc H1=>if c=true then tb σ H1 Q else Q (.bl false) H1)
def aXU (ha:PE X a ta) (hb:PE X (.BoolOp .And (b::rest) pos) tb):PE X (.BoolOp .And (a::b::rest) pos) (dXF ta tb):=by
 intro pins s σ H Q I h;refine BoolOp_and (thn (ha pins s σ H _ I h) λv s1 ⟨x,H1,I1,r1,q1⟩=>?_);obtain ⟨c,rfl,q1⟩:=dQ1 q1;cases r1;refine Fv ?_;cases c with
 | true=>exact hb pins s1 σ H1 Q I1 q1
 | false=>exact ⟨.bl false,H1,I1,rfl,q1⟩
def mIx:R2:=λx y H Q=>match x,y with
 | .str z,.int i=>z.length<=sizeLine/\(match atI z.cps.toList i with | some c=>Q (.str ⟨#[c]⟩) H | none=>False)
 | .ref p,.int i=>(match rdL H p with
   | some xs=>(match atI xs i with | some v=>Q v H | none=>False)
   | none=>(match nE H p with
     | some xs=>(match atI xs i with | some v=>Q v H | none=>False)
     | none=>False))
 | _,_=>False
def cJJ {K:W.Frag} {x y:V} {H:Hp} {Q:VK} (q:mIx x y H Q):rIx K x y H Q:=by
 unfold mIx at q;split at q
 . obtain ⟨h1,q⟩:=q;split at q
   . exact .inr (.inr ⟨_,_,_,rfl,rfl,h1,by assumption,q⟩)
   . exact q.elim
 . split at q
   . split at q
     . exact .inl ⟨_,_,_,_,rfl,rfl,bB (by assumption),by assumption,q⟩
     . exact q.elim
   . split at q
     . split at q
       . exact .inr (.inl ⟨_,_,_,_,rfl,rfl,SqT.of (qH (by assumption)),by assumption,q⟩)
       . exact q.elim
     . exact q.elim
 . exact q.elim
def cF:IxR X mIx:=ix_seq.imp λ_ _ _ _ q=>cJJ q
def mSl:V->Option Int->Option Int->Hp->VK->Prop:=λx lo hi H Q=>match x with
 | .str z=>z.length<=sizeLine/\Q (.str (Txt.slice z lo hi)) H
 | .ref p=>(match rdL H p with | some xs=>∀ r,H r=none->Q (.ref r) (upd H r (.lst (kY xs lo hi))) | none=>False)
 | _=>False
def cJE:SlR X mSl:=(sl_list.or eQK).imp λ_ _ _ _ _ q=>by
 unfold mSl at q;split at q
 . exact .inr ⟨_,rfl,q.1,q.2⟩
 . split at q
   . exact .inl ⟨_,_,rfl,bB (by assumption),q⟩
   . exact q.elim
 . exact q.elim
def vU (Q:Option Int->Hp->Prop):VK:=λx H1=>match x with | .int i=>Q (some i) H1 | _=>False
def dXK (t:TE):TO:=λσ H Q=>t σ H (vU Q)
variable {e:Expr} {te:TE}
def gS (h:PE X e te):PO X (some e) (dXK te):=by
 intro pins s σ H Q I hw;rw [evalPart_some];refine thn (h pins s σ H _ I hw) λu s1 ⟨x,H1,I1,r1,q1⟩=>?_;unfold vU at q1;split at q1
 . obtain ⟨t,rfl⟩:=r1;exact ⟨_,H1,I1,.int _ t,q1⟩
 . exact q1.elim
def aXZ:List V->Hp->VK->Prop:=λxs H Q=>match xs with
 | [.str z]=>z.length<=sizeLine/\Q (.int z.length) H
 | [.ref p]=>(match rdL H p with
   | some xs=>Q (.int xs.length) H
   | none=>(match nE H p with | some xs=>Q (.int xs.length) H | none=>False))
 | _=>False
def eV:CallR X (.builtin "len") aXZ:=call_len.imp λ_ _ _ q=>by
 unfold aXZ at q;split at q
 . exact ⟨_,_,rfl,⟨q.1,rfl⟩,q.2⟩
 . split at q
   . exact ⟨_,_,rfl,.inl ⟨_,bB (by assumption),rfl⟩,q⟩
   . split at q
     . exact ⟨_,_,rfl,.inr ⟨_,SqT.of (qH (by assumption)),rfl⟩,q⟩
     . exact q.elim
 . exact q.elim
def eJ8:List V->Hp->VK->Prop:=λxs H Q=>match xs with | [.int i,.int j]=>Q (.int (if j<i then j else i)) H | _=>False
def dQB:List V->Hp->VK->Prop:=λxs H Q=>match xs with
 | [.int i]=>Q (.int i) H
 | [.str x]=>(match PySem.intText? x with | some n=>x.length<=640/\Q (.int n) H | none=>False)
 | _=>False
def aJM:CallR X (.type "int") dQB:=(call_int1.or sV).imp λ_ _ _ q=>by
 unfold dQB at q;split at q
 . exact .inl (.inl ⟨_,rfl,q⟩)
 . split at q
   . exact .inr ⟨_,_,rfl,by assumption,q.1,q.2⟩
   . exact q.elim
 . exact q.elim
def aZT:List V->Hp->VK->Prop:=λxs H Q=>match xs with
 | [.ref p]=>(match rdL H p with
   | some ys=>∀ l,H l=none->Q (.ref l) (upd H l (.lst ys))
   | none=>(match nE H p with | some ys=>∀ l,H l=none->Q (.ref l) (upd H l (.lst ys)) | none=>False))
 | _=>False
def kZ:CallR X (.type "list") aZT:=call_list_of.imp λ_ _ _ q=>by
 unfold aZT at q;split at q
 . split at q
   . exact ⟨_,_,rfl,.inl (bB (by assumption)),q⟩
   . split at q
     . exact ⟨_,_,rfl,.inr (SqT.of (qH (by assumption))),q⟩
     . exact q.elim
 . exact q.elim
def wB (T:String) (x:V) (H:Hp) (P:Prop):Prop:=match x with
 | .str _=>T="str"/\P
 | .ref p=>(match rdL H p with | some _=>T="list"/\P | none=>False)
 | _=>False
def xY {K:W.Frag} {T:String} {x:V} {H:Hp} {P:Prop} (q:wB T x H P):tyV K T x H/\P:=by
 unfold wB at q;split at q
 . exact ⟨q.1,q.2⟩
 . split at q
   . exact ⟨.inl ⟨q.1,_,bB (by assumption)⟩,q.2⟩
   . exact q.elim
 . exact q.elim
def dQ3 (T:String) (r:V->List V->Hp->VK->Prop) (to:TE) (t:TA):TE:=λσ H Q=>to σ H λx H1=>wB T x H1 (t σ H1 λxs H2=>r x xs H2 Q)
variable {o:Expr} {es:List Expr} {to:TE} {t:TA} {name:Str} {apos cpos:Pos} {T id:String} {r:V->List V->Hp->VK->Prop}
def dB (pa:PlainAttrs T) (slot:Slot T name id) (hty:typeOf (.builtin id)=pure (.type "method_descriptor")) (hm:MtR X id r) (ho:PE X o to) (ha:PA X (e::es) t)
   (hbase:attributeBase o name X.env (eval o X.env)=eval o X.env:=by rfl)
   (hfew:((backTo cpos (starEach (e::es) X.env)).all (λx=>!x.1) && (backToKw cpos (keywordEach [] X.env)).all (λx=>x.1.isSome)
     && decide ((e::es).length+([]:List Keyword).length+(if ([]:List Keyword).isEmpty then 0 else 1)<30))=true:=by rfl)
   (hline:(apos.endLine == cpos.line)=true:=by rfl) (hs:starEach (e::es) X.env=(false,eval e X.env)::starEach es X.env:=by rfl) (hplain:(backTo cpos (starEach es X.env)).any (·.1)=false:=by rfl) :
   PE X (.Call (.Attribute o name apos) (e::es) [] cpos) (dQ3 T r to t):=by
 intro pins s σ H Q I h;refine Gx hbase hfew hline rfl (thn (ho pins s σ H _ I h) λv s1 ⟨x,H1,I1,r1,q⟩=>?_);obtain ⟨ty,q1⟩:=xY (K:=X.K) q;obtain ⟨h1,h2⟩:=bXX I1 r1 ty;refine ⟨T,id,pa,slot,hty,h1,h2,?_⟩;have hA:=ha cpos pins s1 σ H1 _ I1 q1
 rw [hs] at hA ⊢;refine Fj (by show (false || (backTo cpos (starEach es X.env)).any (·.1))=false; rw [hplain] <;> rfl) (Gd ?_)
 exact thn hA λus s2 ⟨vs,H2,I2,r2,q2⟩=>hm pins s2 σ H2 x vs v us Q I2 r1 r2 q2
def cJU:V->List V->Hp->VK->Prop:=λx vs H Q=>match x,vs with
 | .ref l,[y]=>(match gI H l with | some xs=>xs.length<sizeLine/\Q .non (upd H l (.lst (xs++[y]))) | none=>False)
 | _,_=>False
def aJY:MtR X "list.append" cJU:=MtR.imp (r:=aZZ) uB λ_ _ _ _ q=>by
 unfold cJU at q;split at q
 . split at q
   . exact ⟨_,_,_,rfl,rfl,jW (by assumption),q.1,q.2⟩
   . exact q.elim
 . exact q.elim
def vL:V->List V->Hp->VK->Prop:=λx vs H Q=>match x,vs with
 | .str z,[.str y]=>(match Builtin.Str.occurrences z y 0 z.length 1 with | i::_=>Q (.int ((i:Nat):Int)) H | []=>False)
 | _,_=>False
def cZ7:MtR X "str.index" vL:=mt_index.imp λ_ _ _ _ q=>by
 unfold vL at q;split at q
 . split at q
   . exact ⟨_,_,_,_,rfl,rfl,by assumption,q⟩
   . exact q.elim
 . exact q.elim
def mR:List V->Option (List Str)
 | []=>some []
 | .str z::r=>(mR r).map (z::·)
 | _=>none
def aQE (ys:List Str):mR (ys.map V.str)=some ys:=by
 induction ys with
 | nil=>rfl
 | cons y r ih=>rw [Au,mR,ih]; rfl
def vG:∀ {xs:List V} {ys:List Str},mR xs=some ys->xs=ys.map V.str
 | [],_,h=>by cases h; rfl
 | .str z::r,_,h=>by
   rw [mR] at h;cases e:mR r with
   | none=>rw [e] at h; cases h
   | some l=>rw [e] at h; cases h; rw [vG e]; rfl
 | .non::_,_,h=>by cases h
 | .bl _::_,_,h=>by cases h
 | .int _::_,_,h=>by cases h
 | .byt _::_,_,h=>by cases h
 | .flt _::_,_,h=>by cases h
 | .ref _::_,_,h=>by cases h
 | .ty _::_,_,h=>by cases h
def aZ3:V->List V->Hp->VK->Prop:=λx vs H Q=>match x,vs with
 | .str z,[.ref p]=>(match rdL H p with
   | some xs=>(match mR xs with | some ys=>(ys.map (·.length)).sum+ys.length * z.length<=16777216/\Q (.str (Txt.join z ys)) H | none=>False)
   | none=>False)
 | _,_=>False
def dXO:MtR X "str.join" aZ3:=mt_join.imp λ_ _ _ _ q=>by
 unfold aZ3 at q;split at q
 . split at q
   . split at q
     . have e:=vG (by assumption)
       subst e;exact ⟨_,_,_,rfl,rfl,bB (by assumption),q.1,q.2⟩
     . exact q.elim
   . exact q.elim
 . exact q.elim
def nF:List V->Option (List Bool)
 | []=>some []
 | .bl z::r=>(nF r).map (z::·)
 | _=>none
def aX9 (ys:List Bool):nF (ys.map V.bl)=some ys:=by
 induction ys with
 | nil=>rfl
 | cons y r ih=>rw [Au,nF,ih]; rfl
def uP:∀ {xs:List V} {ys:List Bool},nF xs=some ys->xs=ys.map V.bl
 | [],_,h=>by cases h; rfl
 | .bl z::r,_,h=>by
   rw [nF] at h;cases e:nF r with
   | none=>rw [e] at h; cases h
   | some l=>rw [e] at h; cases h; rw [uP e]; rfl
 | .non::_,_,h=>by cases h
 | .str _::_,_,h=>by cases h
 | .int _::_,_,h=>by cases h
 | .byt _::_,_,h=>by cases h
 | .flt _::_,_,h=>by cases h
 | .ref _::_,_,h=>by cases h
 | .ty _::_,_,h=>by cases h
def cZS:List V->Hp->VK->Prop:=λvs H Q=>match vs with
 | [.ref p]=>(match rdL H p with
   | some xs=>(match nF xs with | some bs=>Q (.bl (bs.all _root_.id)) H | none=>False)
   | none=>False)
 | _=>False
def dQ6 (hc:X.calm=true):CallR X (.builtin "all") cZS:=(tT hc).imp λ_ _ _ q=>by
 unfold cZS at q;split at q
 . split at q
   . split at q
     . have e:=uP (by assumption)
       subst e;exact ⟨_,_,rfl,bB (by assumption),q⟩
     . exact q.elim
   . exact q.elim
 . exact q.elim
def tyN (x:V) (H:Hp):Option String:=match x with
 | .non=>some "NoneType"
 | .bl _=>some "bool"
 | .int _=>some "int"
 | .str _=>some "str"
 | .ref p=>(match H p with
   | some (.lst _)=>some "list"
   | some (.frz _ (.lst _))=>some "list"
   | some (.tup _)=>some "tuple"
   | some (.dK _)=>some "dict"
   | _=>none)
 | _=>none
def dZQ {K:W.Frag} {x:V} {H:Hp} {t:String} (h:tyN x H=some t):TyOf K H x (.type t):=by
 unfold tyN at h;split at h
 . cases h; exact .non
 . cases h; exact .bl _
 . cases h; exact .int _
 . cases h; exact .str _
 . split at h
   . cases h; exact .lst (by assumption)
   . cases h; exact .frz (by assumption)
   . cases h; exact .tup (by assumption)
   . cases h; exact .dK (by assumption)
   . cases h
 . cases h
def eX3 (t T:String):Bool:=decide (t=T) || (decide (t="bool") && decide (T="int"))
def dZC (t T:String):Bool:=["NoneType", "bool", "int", "str", "list", "tuple", "dict"].contains t && ["bool", "int", "str", "list", "tuple", "dict"].contains T
def bQQ (t T:String):Option Bool:=bif dZC t T then some (eX3 t T) else none
def cJY {K:W.Frag}:∀ t∈["NoneType", "bool", "int", "str", "list", "tuple", "dict"],∀ T∈["bool", "int", "str", "list", "tuple", "dict"],W.kitOne K (.type t) (.type T)=some (eX3 t T):=by
 simp only [List.forall_mem_cons,List.not_mem_nil,false_implies,implies_true,and_true];refine ⟨⟨rfl,rfl,rfl,rfl,rfl,rfl⟩,⟨rfl,rfl,rfl,rfl,rfl,rfl⟩,⟨rfl,rfl,rfl,rfl,rfl,rfl⟩,⟨rfl,rfl,rfl,rfl,rfl,rfl⟩,⟨rfl,rfl,rfl,rfl,rfl,rfl⟩,⟨rfl,rfl,rfl,rfl,rfl,rfl⟩,⟨rfl,rfl,rfl,rfl,rfl,rfl⟩⟩
def bJA {K:W.Frag} {t T:String} {b:Bool} (h:bQQ t T=some b):W.kitOne K (.type t) (.type T)=some b:=by
 unfold bQQ at h;cases hn:dZC t T with
 | false=>rw [hn] at h; cases h
 | true=>
   rw [hn] at h; cases h;unfold dZC at hn; rw [Ea] at hn;exact cJY t (List.contains_iff_mem.mp hn.1) T (List.contains_iff_mem.mp hn.2)
def cJ5:List V->Hp->VK->Prop:=λxs H Q=>match xs with
 | [x,.ty T]=>(match tyN x H with
   | some t=>(match bQQ t T with | some b=>Q (.bl b) H | none=>False)
   | none=>False)
 | _=>False
def bZZ:CallR X (.builtin "isinstance") cJ5:=call_isinst.imp λ_ _ _ q=>by
 unfold cJ5 at q;split at q
 . split at q
   . split at q
     . exact ⟨_,_,_,_,rfl,dZQ (by assumption),bJA (by assumption),q⟩
     . exact q.elim
   . exact q.elim
 . exact q.elim
end
def yU (R:Str->Hp->Prop):VK:=λx H=>match x with | .str z=>R z H | _=>False
def cQG {R:Str->Hp->Prop} {x:V} {H:Hp} (q:yU R x H):∃ z,x=.str z/\R z H:=by
 unfold yU at q;split at q
 . exact ⟨_,rfl,q⟩
 . exact q.elim
def onL (o:Option (List V)) (P:Prop):Prop:=match o with | some _=>P | none=>False
def iN (R:Addr->Hp->Prop):VK:=λx H=>match x with | .ref a=>R a H | _=>False
def cXM {R:Addr->Hp->Prop} {x:V} {H:Hp} (q:iN R x H):∃ a,x=.ref a/\R a H:=by
 unfold iN at q;split at q
 . exact ⟨_,rfl,q⟩
 . exact q.elim
section
variable {X:Cx} {tg l a b:Expr} {tl ta tb:TE} {p pos:Pos}
def eZ0 (tl:TE):TI:=λσ H R=>tl σ H (yU λz H1=>R (Its z) H1)
def mQ (hl:PE X l tl):PI X tg l (eZ0 tl):=by
 intro pins s σ H R I h;refine thn (hl pins s σ H _ I h) λv s1 ⟨x,H1,I1,r1,q1⟩=>?_;obtain ⟨z,rfl,q⟩:=cQG q1;obtain ⟨t,rfl⟩:=r1;have fb:∀ b∈[s1.heap.objs.size],lS X pins H1 b:=λb hb=>by
   have e:b=s1.heap.objs.size:=by simpa using hb
   subst e;exact I1.fpOk (Ah _) (I1.hok.fresh (Ah _))
 cases ha:z.cps.all (· < 128)
 . refine wpAny_pyIter_wide ha ?_;exact ⟨s1.heap.objs.size,[s1.heap.objs.size],_,_,H1,rfl,I1.kept (t':=s1.toks) λb o e=>Ai _ e,bQ3 z t _,⟨_,Ba _ rfl,rfl,rfl⟩,fb,q⟩
 . refine wpAny_pyIter_ascii ha ?_;exact ⟨s1.heap.objs.size,[s1.heap.objs.size],_,_,H1,rfl,I1.kept (t':=s1.toks) λb o e=>Ai _ e,aX7 z t _,⟨_,Ba _ rfl,rfl,rfl⟩,fb,q⟩
def dQY (K:W.Frag) (tl:TE):TI:=λσ H R=>tl σ H (iN λa H1=>onL (rdL H1 a) (R (Itl K a) H1))
def cL (hl:PE X l tl):PI X tg l (dQY X.K tl):=by
 intro pins s σ H R I h;refine thn (hl pins s σ H _ I h) λv s1 ⟨x,H1,I1,r1,q1⟩=>?_;obtain ⟨a,rfl,q⟩:=cXM q1;cases r1;unfold onL at q;split at q
 . rename_i xs e
   obtain ⟨its,rv,p,hz⟩:=I1.list (bB e);refine Fw p.isList ?_;refine ⟨s1.heap.objs.size,[s1.heap.objs.size],_,_,H1,rfl,I1.kept (t':=s1.toks) λb o e=>Ai _ e,bQR a _,⟨_,Ba _ rfl,rfl,rfl⟩,λb hb=>?_,q⟩;have e:b=s1.heap.objs.size:=by simpa using hb
   subst e;exact I1.fpOk (Ah _) (I1.hok.fresh (Ah _))
 . exact q.elim
def qP (R:Int->Hp->Prop):List V->Hp->Prop:=λvs H=>match vs with | [.int j]=>R j H | _=>False
def qE {R:Int->Hp->Prop} {vs:List V} {H:Hp} (q:qP R vs H):∃ j,vs=[.int j]/\R j H:=by
 unfold qP at q;split at q
 . exact ⟨_,rfl,q⟩
 . exact q.elim
def bXU (R:Int->Int->Hp->Prop):List V->Hp->Prop:=λvs H=>match vs with | [.int i,.int j]=>R i j H | _=>False
def cJ9 {R:Int->Int->Hp->Prop} {vs:List V} {H:Hp} (q:bXU R vs H):∃ i j,vs=[.int i,.int j]/\R i j H:=by
 unfold bXU at q;split at q
 . exact ⟨_,_,rfl,q⟩
 . exact q.elim
def dQT (ta:TA):TI:=λσ H R=>ta σ H (qP λj H1=>(-(2 ^ 62)<=j/\j<2 ^ 62)/\R (Itr 0 j.toNat) H1)
def dQ9 (ta:TA):TI:=λσ H R=>ta σ H (bXU λi j H1=>(-(2 ^ 62)<=i/\i<2 ^ 62/\-(2 ^ 62)<=j/\j<2 ^ 62)/\R (Itr i (j - i).toNat) H1)
def lO {ta:TA} (hg:Gl X "range") (hm:X.mg "range"=none) (ha:PA X [a] ta) (hs:starEach [a] X.env=[(false,eval a X.env)]:=by rfl):PI X tg (.Call (.Name "range" p) [a] [] pos) (dQT ta):=by
 intro pins s σ H R I h;refine Call_ (kC I hg hm boot_range (Ds (thn (ha pos pins s σ H _ I h) λus s1 ⟨vs,H1,I1,r1,q1⟩=>?_) hs rfl));obtain ⟨j,e,⟨b1,b2⟩,q⟩:=qE q1;subst e;cases r1 with
 | cons r rr=>
   cases rr;obtain ⟨t,rfl⟩:=r;exact call_range_1 (xT I1 (by omega) (by omega) b1 b2 (by simpa using q))
def aJ1 {ta:TA} (hg:Gl X "range") (hm:X.mg "range"=none) (ha:PA X [a,b] ta) (hs:starEach [a,b] X.env=[(false,eval a X.env),(false,eval b X.env)]:=by rfl) (hs2:starEach [b] X.env=[(false,eval b X.env)]:=by rfl) :
   PI X tg (.Call (.Name "range" p) [a,b] [] pos) (dQ9 ta):=by
 intro pins s σ H R I h;refine Call_ (kC I hg hm boot_range (Ds (thn (ha pos pins s σ H _ I h) λus s1 ⟨vs,H1,I1,r1,q1⟩=>?_) (by rw [hs,hs2]) (by rw [hs2]; rfl)))
 obtain ⟨i,j,e,⟨b1,b2,b3,b4⟩,q⟩:=cJ9 q1;subst e;cases r1 with
 | cons r rr=>
   cases rr with
   | cons r' rr=>
     cases rr;obtain ⟨t,rfl⟩:=r;obtain ⟨t',rfl⟩:=r';exact call_range_2 (xT I1 b1 b2 b3 b4 q)
def zW (J:It) (g:TG) (tb:TS) (D:Ends) (σ:St) (H1:Hp):Prop:=∃ W:Nat->Nat->St->Hp->Prop,(∃ m,W 0 m σ H1)/\∀ i m σ H,W i m σ H->
 (J.stop i H/\D.nx σ H)\/(J.go i H/\∃ N:St->Hp->Prop,(∀ σ' H',N σ' H'->∃ m',m' < m/\W (i+1) m' σ' H')/\∀ x H',J.yld i H x H'->g x σ H' λσ2 H2=>tb { D with nx:=N,ct:=N,bk:=D.nx } σ2 H2)
def dQO (wi:TI) (g:TG) (tb:TS):TS:=λD σ H=>wi σ H λJ H1=>zW J g tb D σ H1
def cR {iter:Expr} {body:List Stmt} {wi:TI} {g:TG} {tb:TS} (hp:PassesOwn (model X.prog X.w) X.A X.env X.xe) (hc:X.calm=true) (hi:PI X tg iter wi) (hg:PG X tg g) (hb:PSs X body tb)
   (hs:∀ x,foldedSetIterable iter X.env x=pure x:=by intro _; rfl):PS X (.For tg iter body [] pos) (dQO wi g tb):=eQD (wi:=wi) hp hc hi hg hb hs
section
variable {K:W.Frag} {c:Addr} {xs:List V} {z:Str} {lo:Int} {n:Nat} {g:TG} {tb:TS} {D:Ends} {σ:St} {H:Hp}
def iO (Pv:Nat->St->Hp->Prop) (h0:Pv 0 σ H) (hl:∀ i σ H,i<=xs.length->Pv i σ H->rdL H c=some xs)
   (hs:∀ i x σ H,xs[i]?=some x->Pv i σ H->g x σ H λσ2 H2=>tb { D with nx:=Pv (i+1),ct:=Pv (i+1),bk:=D.nx } σ2 H2) (hd:∀ σ H,Pv xs.length σ H->D.nx σ H):zW (Itl K c) g tb D σ H :=
 bZJ Pv h0 (λi σ H hi p=>bB (hl i σ H hi p)) hs hd
def aQS (Pv:Nat->St->Hp->Prop) (h0:Pv 0 σ H)
   (hs:∀ i c σ H,z.cps.toList[i]?=some c->Pv i σ H->g (.str ⟨#[c]⟩) σ H λσ2 H2=>tb { D with nx:=Pv (i+1),ct:=Pv (i+1),bk:=D.nx } σ2 H2) (hd:∀ σ H,Pv z.cps.toList.length σ H->D.nx σ H):zW (Its z) g tb D σ H :=
 cJ4 Pv h0 hs hd
def rP (Pv:Nat->St->Hp->Prop) (h0:Pv 0 σ H)
   (hs:∀ i σ H,i<n->Pv i σ H->g (.int (lo+i)) σ H λσ2 H2=>tb { D with nx:=Pv (i+1),ct:=Pv (i+1),bk:=D.nx } σ2 H2) (hd:∀ σ H,Pv n σ H->D.nx σ H):zW (Itr lo n) g tb D σ H :=
 bXI Pv h0 hs hd
end
def aQ5 {x:Str} {T:String} (hg:Gl X x) (hm:X.mg x=none) (hv:bootBuiltins x=some (.type T)) (hn:x≠"__name__" := by decide) (hd:(x == ("__debug__" : Str))=false:=by decide):PE X (.Name x pos) (tC (.ty T)):=cJ0 hg hm hv rfl hn hd
end
end L2
namespace L2
open PySem PySem.Spec PyProof.Rows
section
variable {K:W.Frag} {σ:St} {H:Hp} {Q:VK} {QB:Bool->Hp->Prop} {QA:List V->Hp->Prop} {QO:Option Int->Hp->Prop} {D:Ends} {t u:TS} {te ta tb:TE} {tt tu:TT} {tA:TA} {r:R2} {x y v:V} {i j:Int} {z z':Str} {p q:Addr} {xs ys vs:List V} {k:Nat}
def lY (h:t { D with nx:=u D } σ H):dXW t u D σ H:=h
def dZV (h:D.nx σ H):dXJ D σ H:=h
def eJ0 {c:TT} (h:c σ H λb H1=>if b=true then t D σ H1 else u D σ H1):eZA c t u D σ H:=h
def eZ6 (h:te σ H D.rt):eQS te D σ H:=h
def dJF (h:te σ H λ_ H1=>D.nx σ H1):dXH te D σ H:=h
def eQW {g:TG} (h:te σ H λx H1=>g x σ H1 D.nx):cZB te g D σ H:=h
def eX7 {wi:TI} {g:TG} {tb:TS} (h:wi σ H λJ H1=>zW J g tb D σ H1):dQO wi g tb D σ H:=h
def xE {QS:St->Hp->Prop} (h:QS (σ.set k (some v)) H):nS k v σ H QS:=h
def dJQ {QS:St->Hp->Prop} {to ti:TE} {ts:cJ8} (h:to σ H λo H1=>ti σ H1 λi H2=>ts o i v H2 λH3=>QS σ H3):eZW to ti ts v σ H QS:=h
def eXI (e:σ[k]?=some (some v)) (h:Q v H):cJK k σ H Q:=by unfold cJK; rw [e]; exact h
def s_c (h:Q v H):tC v σ H Q:=h
def eJZ (h:ta σ H λx H1=>tb σ H1 λy H2=>r x y H2 Q):tOp r ta tb σ H Q:=h
def eJO {ru:V->Hp->VK->Prop} (h:ta σ H λx H1=>ru x H1 Q):tUn ru ta σ H Q:=h
def eXO (h:QA [] H):bXG σ H QA:=h
def eQB {tr:TA} (h:ta σ H λx H1=>tr σ H1 λxs H2=>QA (x::xs) H2):aZF ta tr σ H QA:=h
def eZ1 (h:tA σ H λxs H1=>xs.length<=sizeLine/\∀ p,H1 p=none->Q (.ref p) (upd H1 p (.lst xs))):eZR tA σ H Q:=h
def eZ2 (h:tA σ H λxs H1=>xs.length<=sizeLine/\∀ p,H1 p=none->Q (.ref p) (upd H1 p (.tup xs))):eXD tA σ H Q:=h
def dZD {sp:Sp} {E:XK} (h:tA σ H λvs H1=>sp (vs++[]) H1 Q E):aZB sp [] E tA σ H Q:=h
def eJW {rc:List V->Hp->VK->Prop} (h:tA σ H λvs H1=>rc vs H1 Q):tCB rc tA σ H Q:=h
def eJH {rs:V->Option Int->Option Int->Hp->VK->Prop} {tl th:TO} (h:te σ H λx H1=>tl σ H1 λl H2=>th σ H2 λu H3=>rs x l u H3 Q):tSl rs te tl th σ H Q:=h
def cQN (h:QO none H):aJX σ H QO:=h
def dJI (h:te σ H (vU QO)):dXK te σ H QO:=h
def bZL (h:QO (some i) H):vU QO (.int i) H:=h
def dJT {T:String} {rm:V->List V->Hp->VK->Prop} {to:TE} (h:to σ H λx H1=>wB T x H1 (tA σ H1 λxs H2=>rm x xs H2 Q)):dQ3 T rm to tA σ H Q:=h
def eJA {P:Prop} (h:P):wB "str" (.str z) H P:=⟨rfl,h⟩
def eQ7 {P:Prop} (e:rdL H p=some xs) (h:P):wB "list" (.ref p) H P:=by unfold wB; simp only [e]; exact ⟨trivial,h⟩
def dJ5 (h:te σ H (mB QB)):dQU te σ H QB:=h
def cJC (h:te σ H (bZX QB)):bJV te σ H QB:=h
def eJV {b:Bool} (h:QB b H):mB QB (.bl b) H:=h
def dZ3 {b:Bool} (h:QB b H):bZX QB (.bl b) H:=h
def eQ5 (h:tt σ H λc H1=>if c=true then tu σ H1 QB else QB false H1):eZ3 tt tu σ H QB:=h
def eJM (h:tt σ H λc H1=>if c=true then QB true H1 else tu σ H1 QB):tOr tt tu σ H QB:=h
def eQ9 (h:tt σ H λc H1=>QB (!c) H1):eZN tt σ H QB:=h
def dZ8 (h:ta σ H (mB λc H1=>if c=true then tb σ H1 Q else Q (.bl false) H1)):dXF ta tb σ H Q:=h
def eZB (h:tt σ H λc H1=>if c=true then ta σ H1 Q else tb σ H1 Q):tIf tt ta tb σ H Q:=h
def eJQ {g:Int->Int->V} (h:Q (g i j) H):mI g (.int i) (.int j) H Q:=h
def eZQ {C:Int->Int->Prop} {g:Int->Int->V} (c:C i j) (h:Q (g i j) H):mIC C g (.int i) (.int j) H Q:=⟨c,h⟩
def eQH (h:Q (.int (i+j)) H):bQ2 (.int i) (.int j) H Q:=h
def dX2 (c:z.length+z'.length<=sizeLine) (h:Q (.str (z++z')) H):bQ2 (.str z) (.str z') H Q:=⟨c,h⟩
def jN (e:gI H p=some xs) (e':gI H q=some ys) (c:xs.length+ys.length<=sizeLine) (h:∀ r,H r=none->Q (.ref r) (upd H r (.lst (xs++ys)))):bQ2 (.ref p) (.ref q) H Q:=by
 unfold bQ2; simp only [e,e']; exact ⟨c,h⟩
def eQ4 (h:Q (.bl (decide (i=j))) H):mEq (.int i) (.int j) H Q:=⟨rfl,by
 rw [show decide (V.int i=V.int j)=decide (i=j) by simp]; exact h⟩
def eX8 (h:Q (.bl (decide (z=z'))) H):mEq (.str z) (.str z') H Q:=⟨rfl,by
 rw [show decide (V.str z=V.str z')=decide (z=z') by simp]; exact h⟩
def eZJ (h:Q (.bl (!decide (i=j))) H):mNe (.int i) (.int j) H Q:=⟨rfl,by
 rw [show decide (V.int i=V.int j)=decide (i=j) by simp]; exact h⟩
def eQ6 {neg:Bool} (e:rdL H p=some xs) (e':rdL H q=some ys) (f:xs.all bQ=true) (f':ys.all bQ=true) (h:Q (.bl (if neg then !oQ xs ys else oQ xs ys)) H):cQ6 neg (.ref p) (.ref q) H Q:=by
 unfold cQ6; simp only [e,e']; exact ⟨f,f',h⟩
def eXR (h:Q (.bl (decide (x=.non))) H):dJB x .non H Q:=h
def dJ6 (h:Q (.bl (!decide (x=.non))) H):cQA x .non H Q:=h
def eXL {neg:Bool} (h:Q (.bl (if neg then !subIn z z' else subIn z z')) H):dZB neg (.str z) (.str z') H Q:=h
def aZD {neg:Bool} (e:rdL H p=some xs) (f:bQ x=true) (f':xs.all bQ=true) (h:Q (.bl (if neg then !inV x xs else inV x xs)) H):bQB neg x (.ref p) H Q:=by
 unfold bQB; simp only [e]; exact ⟨f,f',h⟩
def xS {c:Nat} (l:z.length<=sizeLine) (e:atI z.cps.toList i=some c) (h:Q (.str ⟨#[c]⟩) H):mIx (.str z) (.int i) H Q:=by
 unfold mIx; simp only [e]; exact ⟨l,h⟩
def fO (e:rdL H p=some xs) (e':atI xs i=some v) (h:Q v H):mIx (.ref p) (.int i) H Q:=by
 unfold mIx; simp only [e,e']; exact h
def eXT {lo hi:Option Int} (e:rdL H p=some xs) (h:∀ r,H r=none->Q (.ref r) (upd H r (.lst (kY xs lo hi)))):mSl (.ref p) lo hi H Q:=by
 unfold mSl; simp only [e]; exact h
def dXQ (l:z.length<=sizeLine) (h:Q (.int z.length) H):aXZ [.str z] H Q:=⟨l,h⟩
def dZL (e:rdL H p=some xs) (h:Q (.int xs.length) H):aXZ [.ref p] H Q:=by unfold aXZ; simp only [e]; exact h
def wM (e:PySem.intText? z=some i) (l:z.length<=640) (h:Q (.int i) H):dQB [.str z] H Q:=by unfold dQB; simp only [e]; exact ⟨l,h⟩
def dJ8 (e:rdL H p=some xs) (h:∀ l,H l=none->Q (.ref l) (upd H l (.lst xs))):aZT [.ref p] H Q:=by unfold aZT; simp only [e]; exact h
def eXG (e:gI H p=some xs) (l:xs.length<sizeLine) (h:Q .non (upd H p (.lst (xs++[v])))):cJU (.ref p) [v] H Q:=by unfold cJU; simp only [e]; exact ⟨l,h⟩
def cX8 {rest:List Nat} (e:Builtin.Str.occurrences z z' 0 z.length 1=k::rest) (h:Q (.int ((k:Nat):Int)) H):vL (.str z) [.str z'] H Q:=by unfold vL; simp only [e]; exact h
def dZF {ss:List Str} (e:rdL H p=some (ss.map V.str)) (l:(ss.map (·.length)).sum+ss.length * z.length<=16777216) (h:Q (.str (Txt.join z ss)) H):aZ3 (.str z) [.ref p] H Q:=by
 unfold aZ3; simp only [e,aQE]; exact ⟨l,h⟩
def dQS {bs:List Bool} (e:rdL H p=some (bs.map V.bl)) (h:Q (.bl (bs.all id)) H):cZS [.ref p] H Q:=by
 unfold cZS; simp only [e,aX9]; exact h
def eXS {T t:String} {b:Bool} (e:tyN x H=some t) (e':bQQ t T=some b) (h:Q (.bl b) H):cJ5 [x,.ty T] H Q:=by
 unfold cJ5; simp only [e,e']; exact h
def dQI {tl:TE} {R:It->Hp->Prop} (h:tl σ H (iN λa H1=>onL (rdL H1 a) (R (Itl K a) H1))):dQY K tl σ H R:=h
def cZZ {R:Addr->Hp->Prop} (h:R p H):iN R (.ref p) H:=h
def eXJ {P:Prop} (e:rdL H p=some xs) (h:P):onL (rdL H p) P:=by unfold onL; simp only [e]; exact h
def dZ1 {tl:TE} {R:It->Hp->Prop} (h:tl σ H (yU λz H1=>R (Its z) H1)):eZ0 tl σ H R:=h
def cZQ {R:Str->Hp->Prop} (h:R z H):yU R (.str z) H:=h
def cZ8 {R:It->Hp->Prop} (h:tA σ H (qP λj H1=>(-(2 ^ 62)<=j/\j<2 ^ 62)/\R (Itr 0 j.toNat) H1)):dQT tA σ H R:=h
def cZ4 {R:It->Hp->Prop} (h:tA σ H (bXU λi j H1=>(-(2 ^ 62)<=i/\i<2 ^ 62/\-(2 ^ 62)<=j/\j<2 ^ 62)/\R (Itr i (j - i).toNat) H1)):dQ9 tA σ H R:=h
def dZI {R:Int->Hp->Prop} (h:R i H):qP R [.int i] H:=h
def dZG {R:Int->Int->Hp->Prop} (h:R i j H):bXU R [.int i,.int j] H:=h
def bJ7 {o:V} {QH:Hp->Prop} (e:gI H p=some xs) (e':ixN xs.length i=some k) (h:QH (upd H p (.lst (xs.set k v)))):dQR (.ref p) (.int i) v H QH:=⟨_,_,_,_,rfl,rfl,jW e,e',h⟩
end
def cXI {α:Type} {xs:List α} {i:Int} (h0:0<=i) (h1:i<xs.length):∃ v,atI xs i=some v/\xs[i.toNat]?=some v:=by
 have hk:i.toNat<xs.length:=by omega
 have e:i=((i.toNat:Nat):Int):=by omega
 have q:atI xs ((i.toNat:Nat):Int)=some xs[i.toNat]:=bJ (Aa hk)
 rw [<-e] at q;exact ⟨xs[i.toNat],q,Aa hk⟩
def aQ6 {n:Nat} {i:Int} (h0:0<=i) (h1:i<n):ixN n i=some i.toNat:=by
 unfold ixN;rw [if_pos h0,if_pos h1]
def bN {n:Nat} (h:n<=100000):n<=sizeLine:=Bg h (by decide)
def bG {n:Nat} (h:n<=100000):n<sizeLine:=Nat.lt_of_le_of_lt h (by decide)
def Cal (P:Program) (w:World) (K:W.Frag) (mg:Str->Option Value) (base:Heap) (k:Nat) (x:Str) (ps:List Str) (sp:Sp):Prop :=
 ∃ (f:Addr) (fd:FuncData),FnOk P w K mg base CX0 k f fd ps sp/\mg x=some (.ref f)/\W.keepIn K (.ref f)=true/\Binds K fd ps []
section
variable {X:Cx} {k k':Nat} {ps:List Str} {sp:Sp} {x:Str} {p pos:Pos} {e:Expr} {es:List Expr} {t:TA} {K:W.Frag} {H:Hp} {Q:VK} {xs:List V} {v:V} {i:Int} {a:Addr}
def aW (c:Cal X.prog X.w X.K X.mg X.base k x ps sp) (hr:Room k' X.A) (hk:k<=k') (hg:Gl X x)
   (ha:PA X (e::es) t) (hdb:(x == ("__debug__" : Str))=false:=by decide) (he:starEach (e::es) X.env=(false,eval e X.env)::starEach es X.env:=by rfl) (hpl:(backTo pos (starEach es X.env)).any (·.1)=false:=by rfl) :
   PE X (.Call (.Name x p) (e::es) [] pos) (aZB sp [] E0 t):=by
 obtain ⟨f,fd,F,hm,hk',hb⟩:=c;exact aZO F (hr.mono hk) hg hm hk' hb .nil bXV ha hdb he hpl
def fK {z:Str} (hg:Gl X x) (h:∃ t,X.mg x=some (.str z t)) (hd:(x == ("__debug__" : Str))=false:=by decide):PE X (.Name x pos) (tC (.str z)):=by
 obtain ⟨t,h⟩:=h;exact vW hg h ⟨t,rfl⟩ hd
def aJT {z:Int} (hg:Gl X x) (h:∃ t,X.mg x=some (.int z t)) (hd:(x == ("__debug__" : Str))=false:=by decide):PE X (.Name x pos) (tC (.int z)):=by
 obtain ⟨t,h⟩:=h;exact vW hg h ⟨t,rfl⟩ hd
def dQZ {lo hi:Option Int} (e:SqL K H a xs) (h:∀ r,H r=none->Q (.ref r) (upd H r (.lst (kY xs lo hi)))):eX5 K (.ref a) lo hi H Q:=⟨a,xs,rfl,e,h⟩
def eQR (e:SqL K H a xs) (e':atI xs i=some v) (h:Q v H):dXZ K (.ref a) (.int i) H Q:=⟨a,xs,i,v,rfl,rfl,e,e',h⟩
end
def cM:bootBuiltins "len"=some (.builtin "len"):=by decide +kernel
def iW:bootBuiltins "isinstance"=some (.builtin "isinstance"):=by decide +kernel
def cXB:bootBuiltins "all"=some (.builtin "all"):=by decide +kernel
def aQT:bootBuiltins "sum"=some (.builtin "sum"):=by decide +kernel
def cZR:bootBuiltins "bool"=some (.type "bool"):=by decide +kernel
def qN:bootBuiltins "int"=some (.type "int"):=by decide +kernel
def fY:bootBuiltins "list"=some (.type "list"):=by decide +kernel
def eQZ {A B:Prop} (h:B):if (!true)=true then A else B:=h
def eZK {A B:Prop} (h:A):if (!false)=true then A else B:=h
def gM {X:Cx} {x:Str} {j:Nat} {pos:Pos} {es:List Expr} {t:TA} (h:PA X es t):PA X (.Constant (.str x) j pos::es) (aZF (tC (.str x)) t):=aA gH h rfl
end L2
namespace L2
open PySem PySem.Spec PyProof.Rows
def aQG {prog:Program} {w:World} {A:Around} {R:Result->Shared->Prop} {s:Shared} {elt target iter:Expr} {ifs:List Expr} {scope:Scope} {pos:Pos} {it acc:Value} {env:Env} (I:Nat->Shared->Prop)
   (turn:∀ n s,I n s->wpAny (model prog w) A (pyNext it) (λr s₁=>match r with
     | none=>R (.ok .next) s₁
     | some v=>wpAny (model prog w) A (letOwnedTupleGo target it v) (λ_ s₁'=>wpAny (model prog w) A (assign target env v) (λ_ s₂=>
         wpAny (model prog w) A (forIn ifs true λc r=>if r=true then do let ok <-isTrue c env (eval c env); pure (ForInStep.yield ok) else pure (ForInStep.yield r)) (λok s₃=>
           if ok=true then wpAny (model prog w) A (eval elt env) (λx s₄=>
             wpAny (model prog w) A (call (.builtin "list.append") [acc,x]) (λ_ s₅=>∃ m,m<n/\I m s₅) (λ_ _=>False) s₄) (λ_ _=>False) s₃
           else ∃ m,m<n/\I m s₃) (λ_ _=>False) s₂) (λ_ _=>False) s₁') (λ_ _=>False) s₁) (λ_ _=>False) s)
   (n:Nat) (h:I n s) :
   codeAny (model prog w) A (.compLoop (.ListComp elt [⟨target,iter,ifs,0⟩] scope pos) 0 it acc env) R s:=by
 refine codeAny_loop rfl I (λn s hI=>?_) n h;show wpAny _ A ((compTurn (.ListComp elt [⟨target,iter,ifs,0⟩] scope pos) 0 it acc env).onRaise (λx=>do noteFrame x env; theTreesLotGoes x)) _ _ s
 refine wpAny_noted ?_;rw [compTurn_list];refine Ae (Fo (Ae (Ci (turn n s hI) (λr s₁ h₁=>?_) λ_ _ h'=>h'.elim)));cases r with
 | none=>exact As h₁
 | some v=>
   refine Ae (Ci h₁ (λ_ s₁' h₁'=>?_) λ_ _ h'=>h'.elim);refine Ae (Ci h₁' (λ_ s₂ h₂=>Ae (Ci h₂ (λok s₃ h₃=>?_) λ_ _ h'=>h'.elim)) λ_ _ h'=>h'.elim);cases ok with
   | false=>exact As ⟨rfl,h₃⟩
   | true=>
     exact Ae (Ae (Ci h₃ (λx s₄ h₄=>Ae (Ci h₄ (λ_ s₅ h₅=>As (As ⟨rfl,h₅⟩)) λ_ _ h'=>h'.elim)) λ_ _ h'=>h'.elim))
def cxC (X:Cx) (N:List Str) (scope:Scope) (cl:List (Str×Addr)) (C:Addr) (s₀:Shared) (H₀:Hp) (ex:List Addr):Cx :=
 { prog:=X.prog,w:=X.w,K:=X.K,mg:=X.mg,base:=X.base,A:=X.A,N:=N,s₀:=s₀,H₀:=H₀,env:=compEnvC scope cl C X.env,outer:=X.stack,stack:=X.stack,ex:=ex,fn:=λ_=>false,calm:=X.calm,pn:=[],xe:=λ_ _=>False }
structure ClOk (X:Cx) (N:List Str) (scope:Scope) (cl:List (Str×Addr)) (vals:St->St):Prop where
 clos:closureFor scope X.env=pure cl
 sub:∀ x c,cl.lookup x=some c->X.env.cells.lookup x=some c
 has:∀ x,((relabel scope X.env).names.lookup x=some .cell\/(relabel scope X.env).names.lookup x=some .free)->∃ c,cl.lookup x=some c
 len:∀ σ,(vals σ).length=N.length
 val:∀ σ (i:Nat) x v,N[i]?=some x->(vals σ)[i]?=some (some v)->∃ (j:Nat),X.N[j]?=some x/\σ[j]?=some (some v)/\X.env.scope.names.lookup x=some .cell/\(∃ c,cl.lookup x=some c)/\(relabel scope X.env).names.lookup x=some .cell
def PF (X:Cx) (ifs:List Expr) (t:TT):Prop:=∀ (pins:List (Addr×Obj)) (s:Shared) (σ:St) (H:Hp) (Q:Bool->Hp->Prop),Inv X pins σ H s->t σ H Q->
 wpAny (model X.prog X.w) X.A (forIn ifs true λc r=>if r=true then do let ok <-isTrue c X.env (eval c X.env); pure (ForInStep.yield ok) else pure (ForInStep.yield r)) (TP X pins σ Q) X.xe s
def eX6:TT:=λ_ H Q=>Q true H
def dO {X:Cx}:PF X [] eX6:=λpins s σ H Q I q=>wpAny_tests_nil ⟨H,I,q⟩
def mV {X:Cx} {c:Expr} {t:TT} (h:PT X c t):PF X [c] t:=λpins s σ H Q I q=>wpAny_tests_one (h pins s σ H Q I q)
section
variable {X:Cx} {pins:Q2} {σ:St} {H2:Hp} {s2:Shared} {N:List Str} {scope:Scope} {cl:List (Str×Addr)} {vals:St->St} {fp:List Addr}
def aQP {h1:Heap} {t1:Nat} (I:Inv X pins σ H2 s2) (ck:ClOk X N scope cl vals) (hkind:scope.kind=.function) (hf:∀ b∈fp,lS X pins H2 b) (hlt:∀ b∈fp,b<s2.heap.objs.size)
   (hns:h1.Ns s2.heap.objs.size λ_=>none) (hsb:Heap.SameBut s2.heap.objs.size (s2.heap.push { cls:=.type "dict",data:=.dict #[] }) h1) :
   Inv (cxC X N scope cl s2.heap.objs.size s2 H2 fp) [] (vals σ) H2 { s2 with heap:=h1,toks:=t1 }:=by
 have old:∀ b o,s2.heap.get? b=some o->h1.get? b=some o:=λb o e=>(hsb.2 b (Bo (Av e))).trans (Ai _ e)
 have hC:H2 s2.heap.objs.size=none:=I.hok.fresh (Ah _)
 refine ⟨⟨I.ok.mod,hkind,I.ok.glob,I.ok.blt,Ah _,λx y c h1 h2=>I.ok.inj x y c (ck.sub x c h1) (ck.sub y c h2),ck.has,(λx c h=>nomatch h),I.ok.hd,I.ok.frames,.inl rfl,λb hb=>⟨Bo (hlt b hb),λx c e=>(hf b hb).2.2.2.2.1 x c (ck.sub x c e)⟩,
   I.bs,Nat.le_trans I.ok.bsz I.sz,λb o e hb=>?_,λb hb hs=>?_,I.stack,I.stkFree⟩,rfl,I.bare,Un.kept old,⟨_,hns,λi x v e1 e2 _=>?_⟩,λx c e=>?_,hC,λx c e=>I.freeC x c (ck.sub x c e),λp hp=>absurd (show p∈([]:Q2) from hp) (by simp),I.hok.kept old,ck.len σ⟩
 . rcases (hf b hb).2.2.2.1 with z | z
   . exact I.ok.noex b o e z
   . exact absurd (Bc (Av e) (Bg I.ok.bsz z)) (Eb _)
 . rcases Ay.mp (I.stkSub b hs) with z | z
   . exact (hf b hb).2.1 z
   . exact (hf b hb).2.2.1 z
 . obtain ⟨j,h1,h2,h3,⟨c,h4⟩,h5⟩:=ck.val σ i x v e1 e2;obtain ⟨m,hn,hl⟩:=I.loc;obtain ⟨u,r,l⟩:=hl j x v h1 h2 (.inr (.inl h3));refine ⟨u,r,.inr ⟨.inl h5,c,h4,?_⟩⟩;rcases l with ⟨z,_⟩ | ⟨_,c',e',z⟩
   . have z':X.env.scope.names.lookup x=some .local:=z
     rw [h3] at z'; cases z'
   . rw [ck.sub x c h4] at e';cases e';obtain ⟨o,ho,hd⟩:=z;exact ⟨o,old _ o ho,hd⟩
 . obtain ⟨v,o,ho,hd⟩:=I.cell x c (ck.sub x c e);exact ⟨v,o,old _ o ho,hd⟩
def bXM {σ':St} {H':Hp} {s':Shared} {h'':Heap} {pins':Q2} (I:Inv X pins σ H2 s2) (hf:∀ b∈fp,lS X pins H2 b)
   (I':Inv (cxC X N scope cl s2.heap.objs.size s2 H2 fp) pins' σ' H' s') (hsb:Heap.SameBut s2.heap.objs.size s'.heap h''):Inv X pins σ H' { s' with heap:=h'' }:=by
 have u1:Un (frs X.stack) (s2.heap.objs.size::fp) H2 H' s2.heap s'.heap:=I'.base.mono (λ_ z=>z) λb z=>Ak _ z
 have hC:H' s2.heap.objs.size=none:=I'.free
 have k:∀ b o,b≠s2.heap.objs.size->s'.heap.get? b=some o->h''.get? b=some o:=λb o hb e=>(hsb.2 b hb).trans e
 have u2:Un (frs X.stack) (s2.heap.objs.size::fp) H' H' s'.heap h'':=⟨λb o e _ _ hx=>k b o (λz=>hx (by simp [z])) e,λb o e _ _ hx=>⟨o.slots,k b o (λz=>hx (by simp [z])) e⟩,λ_ _ _ n _=>n,
   λb o e hx=>⟨o,k b o (λz=>hx (by simp [z])) e⟩,λ_ _ e=>e,λ_ _ _ e=>e,λb ps e=>⟨#[],by rw [e]; simp⟩⟩
 have hok:HOk X.prog X.w H' h'':=λb u e=>by
   have nC:∀ c v,H' c=some v->c≠s2.heap.objs.size:=λc v e z=>by rw [z,hC] at e; cases e
   refine (I'.hok b u e).stay (λc v hc q=>k c v ?_ q) (λ_ q=>q) λ_ _ q=>q;rcases hc with z | z
   . rw [z]; exact nC b u e
   . exact nC c _ z
 refine I.call' (s':={ s' with heap:=h'' }) (ch:=s2.heap.objs.size::fp) I'.os (u1.trans u2) hok I'.bare λb hb=>?_
 have q:lS X pins H2 b:=by
   rcases Ay.mp hb with z | z
   . subst z; exact I.fpOk (Ah _) (I.hok.fresh (Ah _))
   . exact hf b z
 exact ⟨q.2.2.2.1,q.2.1,q.2.2.2.2.1,q.2.2.2.2.2⟩
end
def Wk (σ0 σ:St):Prop:=σ0.length=σ.length/\∀ (i:Nat) v,σ0[i]?=some (some v)->σ[i]?=some (some v)
def Wk.refl (σ:St):Wk σ σ:=⟨rfl,λ_ _ h=>h⟩
def Wk.set {σ0 σ:St} {k:Nat} {v:V} (h:σ0[k]?=some none) (w:Wk σ0 σ):Wk σ0 (σ.set k (some v)):=by
 refine ⟨by rw [Cg]; exact w.1,λi u e=>?_⟩
 have ne:k≠i:=λz=>by subst z; rw [h] at e; cases e
 rw [Da ne];exact w.2 i u e
def fA (g:TG) (tests:TT) (te:TE) (σ0:St) (Q:VK) (J:It) (H1:Hp):Prop:=∀ D,H1 D=none->∃ W:Nat->Nat->Hp->Prop,(∃ m,W 0 m (upd H1 D (.lst [])))/\∀ i m Hc,W i m Hc->
 (J.stop i Hc/\Q (.ref D) Hc)\/(J.go i Hc/\∀ x H',J.yld i Hc x H'->g x σ0 H' λσ2 H2=>Wk σ0 σ2/\tests σ2 H2 λb H3=>if b=true then
   te σ2 H3 λy H4=>∃ zs,H4 D=some (.lst zs)/\zs.length<sizeLine/\∃ m',m' < m/\W (i+1) m' (upd H4 D (.lst (zs++[y]))) else ∃ m',m' < m/\W (i+1) m' H3)
def cXE (wi:TI) (g:TG) (tests:TT) (te:TE) (vals:St->St):TE:=λσ H Q=>wi σ H λJ H1=>fA g tests te (vals σ) Q J H1
def yK {X:Cx} {pins:Q2} {σ:St} {H2:Hp} {s2:Shared} {N:List Str} {scope:Scope} {cl:List (Str×Addr)} {vals:St->St} {fp:List Addr} {it:Addr} {tn:Nat->Heap->Prop} {J:It} {tg elt iter:Expr} {ifs:List Expr} {pos:Pos}
   {g:TG} {tests:TT} {te:TE} {Q:VK} {E:Q0} {RR:Value->Addr->Result->Shared->Prop} (I2:Inv X pins σ H2 s2) (T:Turn X.prog X.w X.K tg J fp it tn) (st2:tn 0 s2.heap) (f2:∀ b∈fp,lS X pins H2 b) (hc:X.calm=true)
   (ck:ClOk X N scope cl vals) (hcell:∀ y∈scope.names,y.2≠.cell) (hkind:scope.kind=.function)
   (hg:∀ C s₀ H₀ ex,PG (cxC X N scope cl C s₀ H₀ ex) tg g) (ht:∀ C s₀ H₀ ex,PF (cxC X N scope cl C s₀ H₀ ex) ifs tests) (he:∀ C s₀ H₀ ex,PE (cxC X N scope cl C s₀ H₀ ex) elt te)
   (h:fA g tests te (vals σ) Q J H2)
   (hRR:∀ D C s' H' m,s'.heap.Ns C m->Q (.ref D) H'->(∀ h'',Heap.SameBut C s'.heap h''->Inv X pins σ H' { s' with heap:=h'' })->lS X pins H' C->RR (.ref D) C (.ok .next) s') :
   wpAny (model X.prog X.w) X.A (newList []) (λacc s₃=>wpAny (model X.prog X.w) X.A (newFunctionEnv scope X.env.globals cl [] X.env.qual none .none (some X.env)) (λcenv s₄=>
     codeAny (model X.prog X.w) X.A (.compStart (.ListComp elt [⟨tg,iter,ifs,0⟩] scope pos) 0 (.ref it) acc { cenv with scope:=relabel scope X.env }) (RR acc cenv.locals) s₄) E s₃) E s2:=by
 have hD:H2 s2.heap.objs.size=none:=I2.hok.fresh (Ah _)
 obtain ⟨W,⟨m0,w0⟩,turn⟩:=h _ hD;have hlt:∀ b∈fp,b<s2.heap.objs.size:=λb hb=>by
   obtain ⟨o,e,_⟩:=T.obj 0 _ st2 b hb;exact Av e
 refine Gy ?_
 -- the list is laid
 have I3:Inv X pins σ (upd H2 s2.heap.objs.size (.lst [])) { s2 with heap:=s2.heap.push { cls:=.type "list",dict:=none,data:=.seq ([]:List Value).toArray } } :=
   I2.lnew (ys:=[]) (its:=[]) (t':=s2.toks) .nil (Cr _)
 have f3:∀ b∈fp,lS X pins (upd H2 s2.heap.objs.size (.lst [])) b:=λb hb=>⟨by rw [aH (Bo (hlt b hb))]; exact (f2 b hb).1,(f2 b hb).2⟩
 have st3:tn 0 (s2.heap.push { cls:=.type "list",dict:=none,data:=.seq ([]:List Value).toArray }):=T.keep _ _ _ st2 λb _ o e=>Ai _ e
 generalize hs3:({ s2 with heap:=s2.heap.push { cls:=.type "list",dict:=none,data:=.seq ([]:List Value).toArray } }:Shared)=s3 at I3 ⊢
 have e3:s3.heap=s2.heap.push { cls:=.type "list",dict:=none,data:=.seq ([]:List Value).toArray }:=by rw [<-hs3]
 rw [<-e3] at st3;have hlt3:∀ b∈fp,b<s3.heap.objs.size:=λb hb=>by
   obtain ⟨o,e,_⟩:=T.obj 0 _ st3 b hb;exact Av e
 refine wpAny_newFunctionEnv hcell (by intro y hy; simp at hy) (λh₁ hns₁ hsb₁=>?_) hkind
 have hns:h₁.Ns s3.heap.objs.size λ_=>none:=hns₁
 have I4:=aQP (t1:=s3.toks) I3 ck hkind f3 hlt3 hns hsb₁
 have old:∀ b o,s3.heap.get? b=some o->h₁.get? b=some o:=λb o e=>(hsb₁.2 b (Bo (Av e))).trans (Ai _ e)
 have st4:tn 0 h₁:=T.keep _ _ _ st3 λb _ o e=>old b o e
 have loop:∀ s₄:Shared,s₄={ s3 with heap:=h₁,toks:=s3.toks }->
     codeAny (model X.prog X.w) X.A (.compLoop (.ListComp elt [⟨tg,iter,ifs,0⟩] scope pos) 0 (.ref it) (.ref s2.heap.objs.size) (compEnvC scope cl s3.heap.objs.size X.env))
       (RR (.ref s2.heap.objs.size) s3.heap.objs.size) s₄:=by
   rintro s₄ rfl;have fpX:∀ {H':Hp},(∀ b∈fp,H' b=none)->∀ b∈fp,lS (cxC X N scope cl s3.heap.objs.size s3 (upd H2 s2.heap.objs.size (.lst [])) fp) [] H' b:=λhn b hb=>
     ⟨hn b hb,Nat.ne_of_lt (hlt3 b hb),λhs=>I4.ok.exfs b hb hs,.inl hb,λx c e=>(I4.ok.exf b hb).2 x c e,λp hp=>absurd (show p∈([]:Q2) from hp) (by simp)⟩
   refine aQG (λn s'=>∃ i H',Inv (cxC X N scope cl s3.heap.objs.size s3 (upd H2 s2.heap.objs.size (.lst [])) fp) [] (vals σ) H' s'/\tn i s'.heap/\(∀ b∈fp,H' b=none)/\W i n H') ?_ m0
     ⟨0,_,I4,st4,λb hb=>(f3 b hb).1,w0⟩
   rintro n s5 ⟨i,H5,I5,st5,fr5,w5⟩;rcases turn i n H5 w5 with ⟨stop,q⟩ | ⟨go,step⟩
   . refine thn (T.done (cxC X N scope cl s3.heap.objs.size s3 (upd H2 s2.heap.objs.size (.lst [])) fp) rfl rfl rfl hc i [] s5 (vals σ) H5 (λ_ _=>False) I5 (fpX fr5) st5 stop) λr s6 ⟨hr,I6⟩=>?_;subst hr;obtain ⟨m,hn,_⟩:=id I6.loc;exact hRR _ _ s6 H5 m hn q (λh'' hsb=>bXM I3 f3 I6 hsb) (I3.fpOk (Ah _) I6.free)
   . refine thn (T.item (cxC X N scope cl s3.heap.objs.size s3 (upd H2 s2.heap.objs.size (.lst [])) fp) rfl rfl rfl hc i [] s5 (vals σ) H5 (λ_ _=>False) I5 (fpX fr5) st5 go) λr s6 ⟨u,hr,h6⟩=>?_;subst hr;refine thn h6 λ_ s7 ⟨x,H7,I7,r7,y7,st7,fr7⟩=>?_;have I7':=I7.pinned (fpX fr7) (T.obj _ _ st7)
     refine thn (hg _ _ _ _ _ s7 (vals σ) H7 x u _ I7' r7 (step x H7 y7)) λ_ s8 ⟨σ8,H8,I8,wk8,q8⟩=>?_;refine thn (ht _ _ _ _ _ s8 σ8 H8 _ I8 q8) λb s9 ⟨H9,I9,q9⟩=>?_;have again:∀ {m':Nat} {s':Shared} {H':Hp},Inv (cxC X N scope cl s3.heap.objs.size s3 (upd H2 s2.heap.objs.size (.lst [])) fp) ([]++oX fp s7.heap) σ8 H' s'->m' < n->W (i+1) m' H'->
         ∃ m,m<n/\∃ i H',Inv (cxC X N scope cl s3.heap.objs.size s3 (upd H2 s2.heap.objs.size (.lst [])) fp) [] (vals σ) H' s'/\tn i s'.heap/\(∀ b∈fp,H' b=none)/\W i m H':=fun {m' s' H'} J7 hm w7=>by
       refine ⟨m',hm,i+1,H',(J7.weak wk8.1 wk8.2).unpinned,T.keep _ _ _ st7 λb hb o e=>(J7.pin (b,o) (Bk _ (Bk _ (jP hb e)))).1,λb hb=>?_,w7⟩;obtain ⟨o,e,d⟩:=T.obj _ _ st7 b hb;exact (J7.pin (b,o) (Bk _ (Bk _ (jP hb e)))).2.1
     cases b with
     | true=>
       rw [if_pos rfl] at q9 ⊢;refine thn (he _ _ _ _ _ s9 σ8 H9 _ I9 q9) λv s10 ⟨y,H10,I10,r10,zs,hz,hl,m',hm,w10⟩=>?_;have ap:=uB ([]++oX fp s7.heap) s10 σ8 H10 (.ref s2.heap.objs.size) [y] (.ref s2.heap.objs.size) [v] (λ_ H'=>H'=upd H10 s2.heap.objs.size (.lst (zs++[y]))) I10 rfl (.cons r10 .nil) ⟨_,_,_,rfl,rfl,hz,hl,rfl⟩
       refine thn ap λ_ s11 ⟨_,H11,I11,_,e11⟩=>?_;subst e11;exact again I11 hm w10
     | false=>
       rw [if_neg Ap] at q9 ⊢;obtain ⟨m',hm,w9⟩:=q9;exact again I9 hm w9
 exact codeAny_compStart_list (loop _ rfl) (T.self _ 0 _ _ _ st4 (loop _ rfl))
section
variable {X:Cx} {N:List Str} {scope:Scope} {cl:List (Str×Addr)} {vals:St->St} {tg elt iter:Expr} {ifs:List Expr} {pos spos py:Pos} {wi:TI} {g:TG} {tests:TT} {te:TE}
def cT (hc:X.calm=true) (hi:PI X tg iter wi) (ck:ClOk X N scope cl vals) (hcell:∀ y∈scope.names,y.2≠.cell) (hkind:scope.kind=.function) (hnames:∀ x∈scope.names,x.2=.local->scope.names.lookup x.1=some .local)
   (hg:∀ C s₀ H₀ ex,PG (cxC X N scope cl C s₀ H₀ ex) tg g) (ht:∀ C s₀ H₀ ex,PF (cxC X N scope cl C s₀ H₀ ex) ifs tests) (he:∀ C s₀ H₀ ex,PE (cxC X N scope cl C s₀ H₀ ex) elt te)
   (hs:∀ x,foldedSetIterable iter X.env x=pure x:=by intro _; rfl):PE X (.ListComp elt [⟨tg,iter,ifs,0⟩] scope pos) (cXE wi g tests te vals):=by
 intro pins s σ H Q I h;rw [eval_ListComp];refine wpAny_comprehension_free (use:=none) rfl hs ck.clos hkind hnames (thn (hi pins s σ H _ I h) λv s1 h1=>thn h1 λitv s2 h2=>?_);obtain ⟨it,fp,tn,J,H2,e,I2,T,st2,f2,q⟩:=h2;subst e;refine yK (RR:=λacc C=>compPost (model X.prog X.w) X.A X.xe none (EP X pins σ Q) acc C) I2 T st2 f2 hc ck hcell hkind hg ht he q λD C s' H' m hn q' back _=>?_;exact ⟨m,hn,λh'' hsb=>⟨.ref D,H',back h'' hsb,rfl,q'⟩⟩
def iP {i:Nat} {x:Str} (hN:X.N.Nodup) (hix:X.N[i]?=some x) (hx:Loc X.env.scope x) (hc:X.calm=true) (hi:PI X tg iter wi) (ck:ClOk X N scope cl vals) (hcell:∀ y∈scope.names,y.2≠.cell) (hkind:scope.kind=.function)
   (hnames:∀ x∈scope.names,x.2=.local->scope.names.lookup x.1=some .local)
   (hg:∀ C s₀ H₀ ex,PG (cxC X N scope cl C s₀ H₀ ex) tg g) (ht:∀ C s₀ H₀ ex,PF (cxC X N scope cl C s₀ H₀ ex) ifs tests) (he:∀ C s₀ H₀ ex,PE (cxC X N scope cl C s₀ H₀ ex) elt te)
   (hsw:swapsWith (.ListComp elt [⟨tg,iter,ifs,0⟩] scope pos) (some (.Name x py)) spos.line X.env=pure true:=by rfl)
   (hf:X.fn x=true\/X.env.scope.names.lookup x=some .local:=by first | exact .inl rfl | exact .inr rfl | assumption)
   (hs:∀ x,foldedSetIterable iter X.env x=pure x:=by intro _; rfl):PS X (.Assign [.Name x py] (.ListComp elt [⟨tg,iter,ifs,0⟩] scope pos) spos) (cZB (cXE wi g tests te vals) (nS i)):=by
 intro pins s σ H D I h;rw [exec_Assign_Name_used _ _ _ _ hsw];refine Ae (Fo (Ae ?_));show wpAny _ X.A (do let _ <-comprehension (.ListComp elt [⟨tg,iter,ifs,0⟩] scope pos) scope X.env _ (newList []) false (eval iter X.env) (some (assign (.Name x py) X.env))) _ _ s
 refine Ae (Ci (wpAny_comprehension_free (use:=some (assign (.Name x py) X.env)) (Q:=λ_ s'=>SP X pins D .next s') rfl hs ck.clos hkind hnames
   (thn (hi pins s σ H _ I h) λv s1 h1=>thn h1 λitv s2 h2=>?_)) (λ_ s' hq=>As (As hq)) λ_ _ e=>e)
 obtain ⟨it,fp,tn,J,H2,e,I2,T,st2,f2,q⟩:=h2;subst e;refine yK (RR:=λacc C=>compPost (model X.prog X.w) X.A X.xe (some (assign (.Name x py) X.env)) (λ_ s'=>SP X pins D .next s') acc C) I2 T st2 f2 hc ck hcell hkind hg ht he q λDl C s' H' m hn q' back fC=>?_;show wpAny _ X.A (assign (.Name x py) X.env (.ref Dl)) _ _ s'
 have I':Inv X pins σ H' s':=back s'.heap (Heap.SameBut.refl ..)
 refine wpAny_assign_Name (vD I' hN hix hx (v:=.ref Dl) rfl (λs'' I'' hsb=>?_) hf);obtain ⟨a,hsb,ha⟩:=hsb;have hCa:C≠a:=by
   rcases ha with z | z
   . rw [z]; exact fC.2.1
   . exact λe=>fC.2.2.2.2.1 x a z e.symm
 refine ⟨m,hn.sameBut hsb hCa,λh3 hsb3=>?_⟩;exact ⟨σ.set i (some (.ref Dl)),H',I''.turned (t':=s''.toks) (λb o hb e=>(hsb3.2 b hb).trans e) fC.1 fC.2.1 fC.2.2.2.1 fC.2.2.2.2.1 fC.2.2.2.2.2,q'⟩
def mE (hfree:∀ x∈scope.names,x.2≠.free) (hcell:∀ y∈scope.names,y.2≠.cell):ClOk X N scope [] (λ_=>N.map λ_=>none) where
 clos:=closureFor_none hfree
 sub:=λx c h=>nomatch h
 has:=λx h=>by
   have e:(relabel scope X.env).names=scope.names:=by
     show List.map _ scope.names=scope.names
     refine map_eq_self λy hy=>?_;obtain ⟨n,k⟩:=y;have:(k == NameKind.free)=false:=by simpa using hfree _ hy
     simp [this]
   rw [e] at h;rcases h with h | h
   . exact absurd rfl (hcell _ (Dj h))
   . exact absurd rfl (hfree _ (Dj h))
 len:=λσ=>by simp
 val:=λσ i x v h1 h2=>by
   rw [Af] at h2;cases e:N[i]? with
   | none=>rw [e] at h2; cases h2
   | some y=>rw [e] at h2; cases h2
end
section
variable {g:TG} {tests:TT} {te:TE} {σ0:St} {Q:VK} {H1:Hp}
def cJD {J:It} {xs:List V} {ok:Hp->Prop} (f:V->Option V) (hgo:∀ (i:Nat) H,ok H->i<xs.length->J.go i H) (hst:∀ H,ok H->J.stop xs.length H) (hy:∀ (i:Nat) H x H',ok H->J.yld i H x H'->H'=H/\xs[i]?=some x)
   (hok:∀ D ys,H1 D=none->ok (upd H1 D (.lst ys))) (hlen:xs.length<sizeLine)
   (hs:∀ (i:Nat) x Hc (A:VK) (B:Hp->Prop),xs[i]?=some x->ok Hc->(match f x with | some y=>A y Hc | none=>B Hc)->g x σ0 Hc λσ2 H2=>Wk σ0 σ2/\tests σ2 H2 λb H3=>if b=true then te σ2 H3 A else B H3)
   (fin:∀ D,H1 D=none->Q (.ref D) (upd H1 D (.lst (xs.filterMap f)))):fA g tests te σ0 Q J H1:=by
 intro D hD;refine ⟨λi m Hc=>m=xs.length - i/\i<=xs.length/\Hc=upd H1 D (.lst ((xs.take i).filterMap f)),⟨xs.length,by simp,Nat.zero_le _,by simp⟩,?_⟩
 rintro i m Hc ⟨rfl,hi,rfl⟩;by_cases hlt:i<xs.length
 . refine .inr ⟨hgo i _ (hok D _ hD) hlt,λx H' y=>?_⟩;obtain ⟨e,hx⟩:=hy i _ x H' (hok D _ hD) y;subst e;refine hs i x _ _ _ hx (hok D _ hD) ?_;have tk:xs.take (i+1)=xs.take i++[x]:=by rw [Bd,hx]; rfl
   cases e:f x with
   | some y=>
     refine ⟨_,aD,?_,xs.length - (i+1),by omega,rfl,hlt,?_⟩
     . have:=Ct f (xs.take i)
       rw [Bt] at this;omega
     . rw [aZW,tk,Bv];simp [e]
   | none=>
     refine ⟨xs.length - (i+1),by omega,rfl,hlt,?_⟩
     rw [tk,Bv];simp [e]
 . have e:i=xs.length:=by omega
   subst e;rw [Bp];exact .inl ⟨hst _ (hok D _ hD),fin D hD⟩
def bZV {z:Str} (f:Nat->Option V) (hl:z.length<sizeLine)
   (hs:∀ (i:Nat) c Hc (A:VK) (B:Hp->Prop),z.cps.toList[i]?=some c->(match f c with | some y=>A y Hc | none=>B Hc)->g (.str ⟨#[c]⟩) σ0 Hc λσ2 H2=>Wk σ0 σ2/\tests σ2 H2 λb H3=>if b=true then te σ2 H3 A else B H3)
   (fin:∀ D,H1 D=none->Q (.ref D) (upd H1 D (.lst (z.cps.toList.filterMap f)))):fA g tests te σ0 Q (Its z) H1:=by
 have hz:z.cps.toList.length=z.length:=by simp [Str.length]
 have hz2:z.cps.size=z.length:=rfl
 refine cJD (xs:=z.cps.toList.map λc=>.str ⟨#[c]⟩) (ok:=λ_=>True) (λx=>match x with | .str y=>f (y.cps.toList.headD 0) | _=>none) (λi H _ h=>?_) (λH _=>?_) (λi H x H' _ y=>?_) (λ_ _ _=>trivial) (by rw [Ab,hz]; exact hl) (λi x Hc A B hx _ h=>?_) (λD hD=>?_)
 . rw [Ab,hz] at h; exact h
 . show z.cps.size<=_
   rw [Ab,hz]; exact Ah _
 . obtain ⟨e,c,hc,hx⟩:=y;refine ⟨e,?_⟩;rw [Af,Dk,hc,hx]; rfl
 . rw [Af] at hx;cases e:z.cps.toList[i]? with
   | none=>rw [e] at hx; cases hx
   | some c=>rw [e] at hx; cases hx; exact hs i c Hc A B e h
 . have q:=fin D hD
   rw [List.filterMap_map];exact q
end
def dJ0 {wi:TI} {g:TG} {tests:TT} {te:TE} {vals:St->St} {σ:St} {H:Hp} {Q:VK} (h:wi σ H λJ H1=>fA g tests te (vals σ) Q J H1):cXE wi g tests te vals σ H Q:=h
def eZ8 {σ:St} {H:Hp} {Q:Bool->Hp->Prop} (h:Q true H):eX6 σ H Q:=h
end L2
namespace L2
open PySem PySem.Spec PyProof.Rows
def clF (env:Env):List (Str×NameKind)->List (Str×Addr)->List (Str×Addr)
 | [],acc=>acc
 | (n,k)::r,acc=>if k == .free then clF env r ((n,(env.cells.lookup n).getD 0)::acc) else clF env r acc
def cQR (ix:List (Option Nat)):St->St:=λσ=>ix.map λo=>match o with | none=>none | some j=>(σ[j]?).join
def eX9 (N XN:List Str) (sn dn:List (Str×NameKind)) (ix:List (Option Nat)):Bool :=
 ix.length == N.length && (sn.all λy=>y.2 != .cell && (y.2 != .free || dn.lookup y.1 == some .cell)) && decide ((sn.map (·.1)).Nodup) &&
 ((List.range N.length).all λi=>match ix[i]? with | some (some j)=>N[i]? == XN[j]? && (match N[i]? with | some x=>sn.lookup x == some .free | none=>false) | _=>true)
def vS {env:Env}:∀ (names:List (Str×NameKind)) (acc:List (Str×Addr)),(∀ y∈names,y.2=.free->∃ c,env.cells.lookup y.1=some c)->
   (forIn names acc (λ(x:Str×NameKind) (cs:List (Str×Addr))=>(match x with
     | (name,kind)=>if (kind == NameKind.free)=true then do
         let a <-cellOf env name
         pure (ForInStep.yield ((name,a)::cs))
       else pure (ForInStep.yield cs):Sem (ForInStep (List (Str×Addr))))))=(pure (clF env names acc):Sem (List (Str×Addr)))
 | [],acc,_=>rfl
 | (n,k)::r,acc,h=>by
   rw [List.forIn_cons];unfold clF;cases e:k == NameKind.free with
   | false=>
     simp only [e,Bool.false_eq_true,if_false,pure_bind];exact vS r acc λy hy=>h y (Ak _ hy)
   | true=>
     obtain ⟨c,hc⟩:=h (n,k) List.mem_cons_self (by simpa using e)
     have hc':env.cells.lookup n=some c:=hc
     simp only [e,if_true,cellOf,hc',Option.getD_some,pure_bind];exact vS r _ λy hy=>h y (Ak _ hy)
def vM {env:Env}:∀ (names:List (Str×NameKind)) (acc:List (Str×Addr)) {x:Str} {c:Addr},(clF env names acc).lookup x=some c->
   acc.lookup x=some c\/((x,NameKind.free)∈names/\c=(env.cells.lookup x).getD 0)
 | [],acc,x,c,h=>.inl h
 | (n,k)::r,acc,x,c,h=>by
   unfold clF at h;cases e:k == NameKind.free with
   | false=>
     rw [e] at h;rcases vM r acc (by simpa using h) with z | ⟨z,q⟩
     . exact .inl z
     . exact .inr ⟨Ak _ z,q⟩
   | true=>
     rw [e] at h;have ek:k=.free:=by simpa using e
     rcases vM r _ (by simpa using h) with z | ⟨z,q⟩
     . rw [Dg] at z;cases ex:x == n with
       | true=>
         rw [ex] at z;have exn:x=n:=by simpa using ex
         subst exn; subst ek;cases z;exact .inr ⟨Am,rfl⟩
       | false=>rw [ex] at z; exact .inl z
     . exact .inr ⟨Ak _ z,q⟩
def xB {env:Env}:∀ (names:List (Str×NameKind)) (acc:List (Str×Addr)) {x:Str},(acc.lookup x).isSome=true->((clF env names acc).lookup x).isSome=true
 | [],acc,x,h=>h
 | (n,k)::r,acc,x,h=>by
   unfold clF;split
   . refine xB r _ ?_;rw [Dg];cases ex:x == n with
     | true=>rfl
     | false=>exact h
   . exact xB r acc h
def qB {env:Env}:∀ (names:List (Str×NameKind)) (acc:List (Str×Addr)) {x:Str},(x,NameKind.free)∈names->((clF env names acc).lookup x).isSome=true
 | (n,k)::r,acc,x,h=>by
   unfold clF;rcases Ay.mp h with z | z
   . cases z;simp only [beq_self_eq_true,if_true];refine xB r _ ?_;rw [Dg,Fe];rfl
   . split
     . exact qB r _ z
     . exact qB r acc z
def jU {env:Env} {x:Str}:∀ {names:List (Str×NameKind)} {k':NameKind},(names.map λ(n,k)=>if (k == NameKind.free && env.scope.kind == .function && env.kindOf n == some .cell) then (n,NameKind.cell) else (n,k)).lookup x=some k'->
   ∃ k,(x,k)∈names/\(k'=k\/(k=.free/\k'=.cell))
 | [],_,h=>by simp at h
 | (n,k)::r,k',h=>by
   rw [Au] at h;dsimp only at h;cases hc:(k == NameKind.free && env.scope.kind == .function && env.kindOf n == some .cell) with
   | true=>
     rw [hc,if_pos rfl,Dg] at h;cases ex:x == n with
     | true=>
       rw [ex] at h;cases h;have:x=n:=by simpa using ex
       subst this;have hk:k=.free:=by
         have:=(Ea _ _).mp hc
         have:=(Ea _ _).mp this.1
         simpa using this.1
       exact ⟨k,Am,.inr ⟨hk,rfl⟩⟩
     | false=>
       rw [ex] at h;obtain ⟨k1,h1,h2⟩:=jU h;exact ⟨k1,Ak _ h1,h2⟩
   | false=>
     rw [hc,if_neg Ap,Dg] at h;cases ex:x == n with
     | true=>
       rw [ex] at h;cases h;have:x=n:=by simpa using ex
       subst this;exact ⟨k,Am,.inl rfl⟩
     | false=>
       rw [ex] at h;obtain ⟨k1,h1,h2⟩:=jU h;exact ⟨k1,Ak _ h1,h2⟩
def pI {env:Env} {x:Str} (hk:env.scope.kind=.function) (hx:env.kindOf x=some .cell):∀ {names:List (Str×NameKind)},names.lookup x=some .free->
   (names.map λ(n,k)=>if (k == NameKind.free && env.scope.kind == .function && env.kindOf n == some .cell) then (n,NameKind.cell) else (n,k)).lookup x=some .cell
 | [],h=>by simp at h
 | (n,k)::r,h=>by
   rw [Au];dsimp only;rw [Dg] at h;cases ex:x == n with
   | true=>
     rw [ex] at h;cases h;have:x=n:=by simpa using ex
     subst this;rw [hk,hx];simp [List.lookup_cons]
   | false=>
     rw [ex] at h;have ih:=pI hk hx h
     split <;> (rw [Dg,ex]; exact ih)
def iK {X:Cx} {N:List Str} {scope:Scope} (XN:List Str) (sc:Scope) (ix:List (Option Nat)) (hN:X.N=XN) (hsc:X.env.scope=sc) (hk:sc.kind=.function)
   (hcs:∀ x,sc.names.lookup x=some .cell->∃ c,X.env.cells.lookup x=some c) (c:eX9 N XN scope.names sc.names ix=true):ClOk X N scope (clF X.env scope.names []) (cQR ix):=by
 unfold eX9 at c;simp only [Bool.and_eq_true,decide_eq_true_eq,List.all_eq_true,beq_iff_eq] at c;obtain ⟨⟨⟨c0,c1⟩,c2⟩,c3⟩:=c;have fr:∀ y,(y,NameKind.free)∈scope.names->sc.names.lookup y=some .cell:=λy hy=>by
   have z:=(c1 _ hy).2
   simpa using z
 have nocell:∀ y,(y,NameKind.cell) ∉ scope.names:=λy hy=>by
   have z:=(c1 _ hy).1
   simp at z
 refine ⟨?_,λx c h=>?_,λx h=>?_,λσ=>?_,λσ i x v h1 h2=>?_⟩
 . unfold closureFor;simp only [bind_pure];exact vS scope.names [] λy hy hf=>hcs y.1 (fr y.1 (by rw [<-hf]; exact hy))
 . rcases vM _ _ h with z | ⟨z,q⟩
   . simp at z
   . obtain ⟨c',e⟩:=hcs x (fr x z);rw [q,e]; rfl
 . have:∃ k,(x,k)∈scope.names/\k=.free:=by
     rcases h with h | h
     . obtain ⟨k,h1,h2⟩:=jU h;rcases h2 with z | ⟨z,_⟩
       . subst z; exact absurd h1 (nocell x)
       . exact ⟨k,h1,z⟩
     . obtain ⟨k,h1,h2⟩:=jU h;rcases h2 with z | ⟨z,z2⟩
       . exact ⟨k,h1,z.symm⟩
       . exact ⟨k,h1,z⟩
   obtain ⟨k,h1,rfl⟩:=this;exact Dm.mp (qB scope.names [] h1)
 . unfold cQR;rw [Ab,c0]
 . unfold cQR at h2;rw [Af] at h2;cases e:ix[i]? with
   | none=>rw [e] at h2; cases h2
   | some o=>
     rw [e] at h2;cases o with
     | none=>cases h2
     | some j=>
       have hi:i<N.length:=(Ad.mp h1).1
       have z:=c3 i (Bw.mpr hi)
       rw [e,h1] at z;simp only [Bool.and_eq_true,beq_iff_eq] at z;have hv:σ[j]?=some (some v):=by
         have h3:(σ[j]?).join=some v:=by simpa using h2
         cases e2:σ[j]? with
         | none=>rw [e2] at h3; cases h3
         | some o=>rw [e2] at h3; cases o with
           | none=>cases h3
           | some u=>cases h3; rfl
       have hm:(x,NameKind.free)∈scope.names:=Dj z.2
       have hx:=fr x hm
       refine ⟨j,by rw [hN]; exact z.1.symm,hv,by rw [hsc]; exact hx,Dm.mp (qB scope.names [] hm),?_⟩
       exact pI (by rw [hsc]; exact hk) (by show X.env.scope.names.lookup x=_; rw [hsc]; exact hx) z.2
end L2
namespace L2
open PySem PySem.Spec PyProof.Rows
open PySem.AutoSeq1 (wpAny_loadPart')
def bZ3 {α:Type} {M:Model} {A:Around} {E:Q0} {s:Shared} {c:Bool} {x y:Sem α} {Q:α->Shared->Prop} (h1:wpAny M A x Q E s) (h2:wpAny M A y Q E s):wpAny M A (if c=true then x else y) Q E s:=by
 cases c
 . exact h2
 . exact h1
def bXR (l:Addr) (its:Array Value) (n:Nat) (dc:Option Addr) (sl:Array (Option Value)) (k:Int) (t:Tok) (hk:Builtin.SmallTypes.fitsIndex k=true) :
   Meets (Builtin.«enumerate.__new__» ⟨[.type "enumerate",.ref l],[("start",.int k t)]⟩) (λ_ R s=>s.heap.get? l=some ⟨.type "list",dc,.seq its n,sl⟩/\
     R (.ok (.ret (.ref (s.heap.push { cls:=.type "list_iterator",data:=.fields #[.ref l,.int 0 0] }).objs.size)))
       { s with heap:=(s.heap.push { cls:=.type "list_iterator",data:=.fields #[.ref l,.int 0 0] }).push ⟨.type "enumerate",none,.fields #[.none,.bool false,.ref s.heap.objs.size,rawInt k,.none,.none],#[]⟩ }) :=
 .of_wp λprog w A R s h=>by
   obtain ⟨hp,g,d,tk,os⟩:=s;obtain ⟨hl,h⟩:=h;have hsub:=sub_enumerate
   have hL:Heap.IsList hp l its:=⟨_,hl,rfl,n,rfl⟩
   have hk':(!Builtin.SmallTypes.fitsIndex k)=false:=by rw [hk]; rfl
   wp_walk using wpAny_loadPart' hl
   refine wpAny_stack_any λst=>As ?_;refine bZ3 ?_ ?_ <;>
   . wp_walk using (wpAny_loadPart' hl),(Fw (s:=⟨hp,g,d,tk,os⟩) hL)
     exact ⟨_,rfl,h⟩
section
variable {prog:Program} {w:World} {A:Around} {E:Q0} {s:Shared}
def nZ {T newId:String} {Bn:Builtin} {args:List Value} {kw:List (Str×Value)} {S:PySem.Spec} {Q Q1:Q0} (ft:TypeCalled T newId "object.__init__")
   (hct:checkTypeCall T ⟨args,kw⟩=pure ()) (hcn:checkBuiltinCall newId ⟨.type T::args,kw⟩=pure ()) (eN:entryFor table newId=some Bn) (g:Meets (Bn ⟨.type T::args,kw⟩) S) (h:S A.in1 (wants Q1 E) s)
   (hnx:∀ o s1,Q1 o s1->s1.TypeIs o T/\argsOk "object.__init__" ⟨o::args,kw⟩/\∃ Si,Meets (Builtin.«object.__init__» ⟨o::args,kw⟩) Si/\Si A.in1 (wants (λr s2=>r=.none/\Q o s2) E) s1) :
   wpAny (model prog w) A (call (.type T) args kw) Q E s:=by
 obtain ⟨c,tl,hmro⟩:=ft.mro;have hmade:=ft.made
 have hsub:=ft.sub
 have h1:=ft.notType
 have h2:=ft.canCreate
 refine Gc (codeAny_of_tree (show wpAny _ _ (callAny (.type T) _) _ _ _ from As ⟨Code.quiet_builtin _ (by decide +kernel),codeAny_builtin F.entry_type_call ?_⟩))
 rw [Around.under_plain (weight_type_call_type T args kw) (units_type_call_type T args kw)];repeat (any_goals first | assumption | wp_step)
 refine Et (Ew ft.plain eN (wpAny_of_eq hcn (g prog w A.in1 _ s h))) ?_;rintro (e | fl) s1 hr
 . exact hr
 . cases fl with
   | ret o=>
     obtain ⟨hT,hok,Si,gi,hsi⟩:=hnx _ _ hr;have hli:=ft.init.lookup
     have hbi:=ft.init.bind o
     repeat (any_goals first | assumption | wp_step)
     refine Et (Ew ft.init.plain F.entry_object_init (ft.init.check _ _ _ _ _ _ _ _ hT hok (gi prog w A.in1 _ s1 hsi))) ?_;rintro (e | fl2) s2 hr2
     . exact hr2
     . cases fl2 with
       | ret r=>
         obtain ⟨rfl,hq⟩:=hr2;repeat (any_goals first | assumption | wp_step)
       | _=>exact hr2.elim
   | _=>exact hr.elim
def aJF {T newId:String} {self:Value} {rest:List Value} {kw:List (Str×Value)} (hl:typeLookup (.type T) "__init__"=pure (some (.builtin "object.__init__")))
   (hm:Bind.madeBy (.type T)=pure (some newId)) (hne:(some newId != some "object.__new__")=true) :
   Meets (Builtin.«object.__init__» ⟨self::rest,kw⟩) (λ_ R s=>s.TypeIs self T/\R (.ok (.ret .none)) s):=by
 refine Meets.of_wp λprog w A R s hs=>?_;obtain ⟨hT,hq⟩:=hs;cases rest with
 | nil=>
   cases kw with
   | nil=>exact As ⟨_,rfl,hq⟩
   | cons a r=>
     repeat (any_goals first | assumption | wp_step)
     exact ⟨_,rfl,hq⟩
 | cons a r=>
   repeat (any_goals first | assumption | wp_step)
   exact ⟨_,rfl,hq⟩
def nW {l:Addr} {its:Array Value} {k:Int} {t:Tok} {Q:Q0} (hk:Builtin.SmallTypes.fitsIndex k=true) (hL:s.heap.IsList l its)
   (h:∀ h',IsEnum h' (s.heap.objs.size+1) s.heap.objs.size k .none->h'.IsListIter s.heap.objs.size l 0->h'.objs.size=s.heap.objs.size+2->(∀ b o,s.heap.get? b=some o->h'.get? b=some o)->Q (.ref (s.heap.objs.size+1)) { s with heap:=h' }) :
   wpAny (model prog w) A (call (.type "enumerate") [.ref l] [("start",.int k t)]) Q E s:=by
 obtain ⟨⟨c,dc,dt,sl⟩,hl,hc,n,hd⟩:=hL;obtain rfl:c=.type "list" := hc;obtain rfl:dt=.seq its n:=hd;have hz:(s.heap.push { cls:=.type "list_iterator",data:=.fields #[.ref l,.int 0 0] }).objs.size=s.heap.objs.size+1:=Gb ..
 refine nZ (Q1:=λo s1=>s1.TypeIs o "enumerate"/\Q o s1) F.called_enumerate (by kernel_rfl) (by kernel_rfl) F.entry_enumerate_new (bXR l its n dc sl k t hk) ⟨hl,?_⟩ λo s1 hq=>⟨hq.1,?_,_,aJF F.called_enumerate.init.lookup F.called_enumerate.made (by decide),hq.1,rfl,hq.2⟩
 . show _/\_
   rw [hz];have he:IsEnum ((s.heap.push { cls:=.type "list_iterator",data:=.fields #[.ref l,.int 0 0] }).push ⟨.type "enumerate",none,.fields #[.none,.bool false,.ref s.heap.objs.size,rawInt k,.none,.none],#[]⟩) (s.heap.objs.size+1) s.heap.objs.size k .none:=by
     have q:=Ba (s.heap.push { cls:=.type "list_iterator",data:=.fields #[.ref l,.int 0 0] }) (o:=⟨.type "enumerate",none,.fields #[.none,.bool false,.ref s.heap.objs.size,rawInt k,.none,.none],#[]⟩) rfl
     rwa [hz] at q
   exact ⟨⟨_,he,rfl⟩,h _ he ⟨_,Ai _ (Ba _ rfl),rfl,rfl⟩ (by rw [Gb,hz]) λb o x=>Ai _ (Ai _ x)⟩
 . unfold argsOk;rw [signature?_of (n:=['_','_','t','i','n','i','_','_']) (o := "tcejbo".toList) (by kernel_rfl) F.owner_object]
   kernel_rfl
end
def iM {prog:Program} {w:World} {A:Around} {it:Addr} {fp:List Addr} {n:Nat} {P:Nat->Value->Prop} {S:Nat->Heap->Prop} (k:Nat) (D:Draws prog w A it fp n P S) :
   Draws prog w A it fp (k+n) (λj v=>P (j - k) v) (λj h=>k<=j/\S (j - k) h) where
 live:=λi h st=>D.live _ h st.2
 frame:=λi h h' st kk=>⟨st.1,D.frame _ h h' st.2 kk⟩
 item:=λi s Q E hi st hQ=>D.item (i - k) s Q E (by have:=st.1; omega) st.2 λx h' tk hP hS sb=>hQ x h' tk hP ⟨by have:=st.1; omega,by rw [show i+1 - k=i - k+1 by have:=st.1; omega]; exact hS⟩ sb
 done:=λs Q E st hE=>D.done s Q E (by have q:=st.2; rwa [show k+n - k=n by omega] at q) hE
section
variable {X:Cx} {pins:Q2} {σ:St} {H:Hp} {s:Shared} {h':Heap}
def Inv.turnLaid {ch:List Addr} {a:Addr} {o:HO} {t':Nat} (I:Inv X pins σ H s) (hch:∀ b ∈ ch,lS X pins H b) (k:∀ b u,b ∉ ch->s.heap.get? b=some u->h'.get? b=some u) (hp:s.heap.objs.size<=a)
   (new:ObjOk X.prog X.w (upd H a o) h' a o):Inv X pins σ (upd H a o) { s with heap:=h',toks:=t' }:=by
 have hn:=I.hok.fresh hp
 have nch:∀ b u,H b=some u->b ∉ ch:=λb u e z=>by rw [(hch b z).1] at e; cases e
 refine I.step (g':=s.gens) (d':=s.drawn) (ch:=ch) (λb hb=>?_) (λb o _ _ hc e _=>k b o hc e) (λb o _ _ hc e _=>⟨o.slots,k b o hc e⟩) (λb o _ e n=>?_) (λb o hc e=>⟨o,k b o hc e⟩)
   (λb xs e=>by rw [aH (bF e hn)]; exact e) (λb o u e=>by rw [aH (bF e hn)]; exact e) (λb ps e=>⟨#[],by rw [aH (bF e hn),e]; simp⟩) (λm hm=>?_) (λb u e=>?_) I.bare
 . obtain ⟨_,q1,_,q3,q4,q5⟩:=hch b hb;exact ⟨q3,q1,q4,q5⟩
 . rw [aH (Bo (Bc (Av e) hp))];exact n
 . obtain ⟨ob,es,ep,ho,r⟩:=hm;exact ⟨ob,es,ep,k _ ob (λz=>(hch _ z).2.1 rfl) ho,r⟩
 . by_cases hb:b=a
   . subst hb;rw [aD] at e;cases e;exact new
   . rw [aH hb] at e;refine (I.hok b u e).stay (λc v hc q=>k c v ?_ q) (λc q=>by rw [aH (bF q hn)]; exact q) λc xs q=>by rw [aH (bF q hn)]; exact q
     rcases hc with z | z
     . rw [z]; exact nch b u e
     . exact nch c _ z
def Inv.turnAll {ch:List Addr} {t':Nat} (I:Inv X pins σ H s) (hch:∀ b ∈ ch,lS X pins H b) (k:∀ b u,b ∉ ch->s.heap.get? b=some u->h'.get? b=some u):Inv X pins σ H { s with heap:=h',toks:=t' }:=by
 have nch:∀ b u,H b=some u->b ∉ ch:=λb u e z=>by rw [(hch b z).1] at e; cases e
 refine I.step (g':=s.gens) (d':=s.drawn) (ch:=ch) (λb hb=>?_) (λb o _ _ hc e _=>k b o hc e) (λb o _ _ hc e _=>⟨o.slots,k b o hc e⟩) (λb o _ e n=>n) (λb o hc e=>⟨o,k b o hc e⟩)
   (λb xs e=>e) (λb o u e=>e) (λb ps e=>⟨#[],by rw [e]; simp⟩) (λm hm=>?_) (λb u e=>?_) I.bare
 . obtain ⟨_,q1,_,q3,q4,q5⟩:=hch b hb;exact ⟨q3,q1,q4,q5⟩
 . obtain ⟨ob,es,ep,ho,r⟩:=hm;exact ⟨ob,es,ep,k _ ob (λz=>(hch _ z).2.1 rfl) ho,r⟩
 . refine (I.hok b u e).stay (λc v hc q=>k c v ?_ q) (λc q=>q) λc xs q=>q;rcases hc with z | z
   . rw [z]; exact nch b u e
   . exact nch c _ z
end
def Ite (K:W.Frag) (a:Addr) (k:Nat):It :=
 ⟨λi H=>∃ xs x,SqL K H a xs/\xs[i]?=some x,λi H v H'=>∃ p x,H p=none/\v=.ref p/\H'=upd H p (.tup [.int ((k+i:Nat):Int),x])/\∀ xs,SqL K H a xs->xs[i]?=some x,λi H=>∃ xs,SqL K H a xs/\xs.length=i⟩
def aJ4 {P:Program} {w:World} {K:W.Frag} {elts:List Expr} {x1:Nat} {tp:Pos} (a e it:Addr) (k:Nat) (hei:e≠it) :
   Turn P w K (.Tuple elts x1 tp) (Ite K a k) [e,it] e (λi h=>(∃ old,IsEnum h e it ((k+i:Nat):Int) old)/\h.IsListIter it a i) where
 mem:=by simp
 obj:=λi h st b hb=>by
   obtain ⟨⟨old,he⟩,o,ho,c,d⟩:=st;rcases Ay.mp hb with z | z
   . subst z; exact ⟨_,he,λv z=>by cases z⟩
   . rw [Aj.mp z]; exact ⟨o,ho,λv z=>by rw [d] at z; cases z⟩
 keep:=λi h h' st kk=>⟨let ⟨old,he⟩:=st.1; ⟨old,kk e (by simp) _ he⟩,st.2.at λo q=>kk it (by simp) o q⟩
 item:=by
   intro X hP hw hK hc i pins s σ H E I hf st hg;subst hP hw hK;obtain ⟨xs,x,hq,hx⟩:=hg;obtain ⟨its,rv,p,hz⟩:=I.list hq;obtain ⟨u,hu,ru⟩:=rv.get hx;obtain ⟨⟨old,he⟩,hit⟩:=st;have hai:a≠it:=by
     rintro rfl;obtain ⟨o,ho,c,_⟩:=hit;obtain ⟨o2,ho2,c2,_⟩:=p.isList;rw [ho] at ho2; cases ho2;rw [c] at c2; injection c2 with c2; exact absurd c2 (by decide)
   have hae:a≠e:=by
     rintro rfl;obtain ⟨o2,ho2,c2,_⟩:=p.isList;rw [he] at ho2; cases ho2;injection c2 with c2; exact absurd c2 (by decide)
   have hl:=rv.length
   have hil:i<its.length:=(Ad.mp hu).1
   have D:=iM k (Draws.list (prog:=X.prog) (w:=X.w) (A:=X.A.in1) (show X.A.in1.handled=none from I.ok.hd hc) it a hai its.toArray)
   refine wpAny_pyNext_enum_itemD D (i:=k+i) he ⟨Ff _ _,by rw [Cz]; exact ⟨hit,p.isList⟩⟩ (by rw [Bb]; omega) hei (λz=>by
     rcases Ay.mp z with z | z
     . exact hei z
     . exact hae (Aj.mp z).symm) λy h1 tk hP ho hS hT hsz kk=>?_
   refine ⟨_,rfl,wpAny_letOwnedTupleGo_enum ho λh2 he2 hs2=>?_⟩;have ey:y=u:=by
     have hP':its.toArray[k+i - k]?=some y:=hP
     rw [Cz] at hP';have:its[i]?=some y:=by simpa using hP'
     rw [hu] at this; cases this; rfl
   subst ey;have hTe:s.heap.objs.size≠e:=Gg (Av he)
   have hTi:s.heap.objs.size≠it:=by obtain ⟨o,q,_⟩:=hit; exact Gg (Av q)
   have hT2:h2.get? s.heap.objs.size=some { cls:=.type "tuple",data:=.seq #[.int ((k+i:Nat):Int) tk,y] }:=(hs2.2 _ hTe).trans hT
   have hS':h1.IsListIter it a (i+1):=by
     have q:=hS.2.1
     rwa [show k+i+1 - k=i+1 by omega] at q
   have I2:Inv X pins σ (upd H s.heap.objs.size (.tup [.int ((k+i:Nat):Int),x])) { s with heap:=h2,toks:=tk+1 }:=by
     refine I.turnLaid (ch:=[e,it]) hf (λb u hb q=>(hs2.2 b (λz=>hb (by simp [z]))).trans (kk b u (λz=>hb (by simp [z])) (λz=>hb (by simp [z])) q)) (Nat.le_refl _) ⟨bN (by show 2<=_; omega),[.int ((k+i:Nat):Int) tk,y],.cons ⟨tk,rfl⟩ (.cons ru .nil),_,hT2,rfl,_,rfl⟩
   refine ⟨.ref s.heap.objs.size,_,I2,rfl,⟨_,x,I.hok.fresh (Ah _),rfl,rfl,λys hy=>by rw [I.list_inj hy hq]; exact hx⟩,⟨⟨y,he2⟩,hS'.at λo q=>(hs2.2 it hei.symm).trans q⟩,λb hb=>?_⟩
   rcases Ay.mp hb with z | z
   . rw [z,aH hTe.symm]; exact (hf e (by simp)).1
   . rw [List.mem_singleton.mp z,aH hTi.symm]; exact (hf it (by simp)).1
 done:=by
   intro X hP hw hK hc i pins s σ H E I hf st hg;subst hP hw hK;obtain ⟨xs,hq,hx⟩:=hg;obtain ⟨its,rv,p,hz⟩:=I.list hq;obtain ⟨⟨old,he⟩,hit⟩:=st;have hl:=rv.length
   have hai:a≠it:=by
     rintro rfl;obtain ⟨o,ho,c,_⟩:=hit;obtain ⟨o2,ho2,c2,_⟩:=p.isList;rw [ho] at ho2; cases ho2;rw [c] at c2; injection c2 with c2; exact absurd c2 (by decide)
   have D:=iM k (Draws.list (prog:=X.prog) (w:=X.w) (A:=X.A.in1) (show X.A.in1.handled=none from I.ok.hd hc) it a hai its.toArray)
   refine wpAny_pyNext_enum_endD D he ⟨Ff _ _,by rw [Cz,Bb,<-hl,hx]; exact ⟨hit,p.isList⟩⟩ λh' eb=>⟨rfl,?_⟩
   exact I.turnAll (t':=s.toks) (ch:=[e,it]) hf λb u hb q=>eb b u (λz=>hb (by simp [z])) q
 self:=λ_ _ _ _ _ st h=>let ⟨⟨_,he⟩,_⟩:=st; Gz he h
section
variable {X:Cx} {l:Expr} {ta tk:TA} {elts:List Expr} {x1:Nat} {tp p pos kp:Pos}
def aQQ (R:Addr->Hp->Prop):List V->Hp->Prop:=λvs H=>match vs with | [.ref j]=>R j H | _=>False
def aZH {R:Addr->Hp->Prop} {vs:List V} {H:Hp} (q:aQQ R vs H):∃ j,vs=[.ref j]/\R j H:=by
 unfold aQQ at q;split at q
 . exact ⟨_,rfl,q⟩
 . exact q.elim
def dQQ (K:W.Frag) (ta:TA):TI:=λσ H R=>ta σ H (aQQ λa H1=>onL (rdL H1 a) (R (Ite K a 0) H1))
def cQP (K:W.Frag) (ta tk:TA):TI:=λσ H R=>ta σ H (aQQ λa H1=>tk σ H1 (qP λk H2=>(0<=k/\k<2 ^ 62)/\onL (rdL H2 a) (R (Ite K a k.toNat) H2)))
def wA {pins:Q2} {σ:St} {H1:Hp} {s1:Shared} {a:Addr} {k:Nat} {h':Heap} {R:It->Hp->Prop} {E:Q0} (I1:Inv X pins σ H1 s1) (he:IsEnum h' (s1.heap.objs.size+1) s1.heap.objs.size ((k:Nat):Int) .none) (hi:h'.IsListIter s1.heap.objs.size a 0) (hz:h'.objs.size=s1.heap.objs.size+2)
   (hk:∀ b o,s1.heap.get? b=some o->h'.get? b=some o) (q:R (Ite X.K a k) H1):wpAny (model X.prog X.w) X.A (pyIter (.ref (s1.heap.objs.size+1))) (PIE X pins σ (.Tuple elts x1 tp) R) E { s1 with heap:=h' }:=by
 refine Gz (s:={ s1 with heap:=h' }) he ⟨_,[s1.heap.objs.size+1,s1.heap.objs.size],_,_,H1,rfl,I1.kept (t':=s1.toks) hk,aJ4 a _ _ k (Nat.succ_ne_self _),⟨⟨_,he⟩,hi⟩,λb hb=>?_,q⟩
 have z:s1.heap.objs.size<=b:=by
   rcases Ay.mp hb with z | z
   . rw [z]; exact Nat.le_succ _
   . rw [Aj.mp z]; exact Ah _
 exact I1.fpOk z (I1.hok.fresh z)
def oA (hg:Gl X "enumerate") (hm:X.mg "enumerate"=none) (ha:PA X [l] ta) (hs:starEach [l] X.env=[(false,eval l X.env)]:=by rfl) :
   PI X (.Tuple elts x1 tp) (.Call (.Name "enumerate" p) [l] [] pos) (dQQ X.K ta):=by
 intro pins s σ H R I h;refine Call_ (kC I hg hm boot_enumerate (Ds (thn (ha pos pins s σ H _ I h) λus s1 ⟨vs,H1,I1,r1,q1⟩=>?_) hs rfl));obtain ⟨a,rfl,q⟩:=aZH q1;obtain ⟨u,rfl,ru⟩:=gD r1;cases ru;unfold onL at q;split at q
 . rename_i xs ex
   obtain ⟨its,rv,p,hz⟩:=I1.list (bB ex);exact call_enumerate_list p.isList λh' he hi hz hk=>wA I1 (k:=0) he hi hz hk q
 . exact q.elim
def nK {M:Model} {A:Around} {E:Q0} {s:Shared} {T:String} {args:List (Bool×Sem Value)} {kw:List (Option Str×Sem Value)} {Q:Q0}
   (h1:args.any (·.1)=false) (h2:kw.any (·.1.isNone)=false) (h:wpAny M A (evalArgs (.type T) true args kw) (λa s1=>wpAny M A (call (.type T) a.pos a.kw) Q E s1) E s):wpAny M A (callWith pos (.type T) [] args kw) Q E s:=by
 unfold callWith;refine Ae (Dc (Ci h (λa s1 q1=>Ae (Fo ?_)) λ_ _ x=>x));rw [h1,h2];exact Ae (As (Ae (Ci q1 (λr s2 hr=>Ae (Dc (wpAny_point (As hr)))) λ_ _ x=>x)))
def cXD {kx:Expr} (hg:Gl X "enumerate") (hm:X.mg "enumerate"=none) (ha:PA X [l] ta) (hk:PK X [⟨some "start",kx,kp⟩] tk) (hs:starEach [l] X.env=[(false,eval l X.env)]:=by rfl)
   (hks:keywordEach [⟨some "start",kx,kp⟩] X.env=[(some ("start" : Str),eval kx X.env)]:=by rfl) :
   PI X (.Tuple elts x1 tp) (.Call (.Name "enumerate" p) [l] [⟨some "start",kx,kp⟩] pos) (cQP X.K ta tk):=by
 intro pins s σ H R I h;have hs2:backTo pos (starEach [l] X.env)=[(false,eval l X.env)]:=by rw [hs]; rfl
 refine Dp (kC I hg hm boot_enumerate (nK (by rw [hs2]; rfl) (by rw [hks]; rfl) ?_))
 rw [hs2];refine evalArgs_kwB (by rw [hks]; rfl) ?_
 rw [<-hs2];refine thn (ha pos pins s σ H _ I h) λus s1 ⟨vs,H1,I1,r1,q1⟩=>?_;obtain ⟨a,rfl,q⟩:=aZH q1;refine thn (hk pos pins s1 σ H1 _ I1 q) λws s2 ⟨zs,H2,I2,r2,q2⟩=>?_;obtain ⟨k,rfl,⟨k0,k1⟩,q⟩:=qE q2;obtain ⟨u,rfl,ru⟩:=gD r1;cases ru;obtain ⟨u,rfl,t,rfl⟩:=gD r2;unfold onL at q;split at q
 . rename_i xs ex
   obtain ⟨its,rv,p,hz⟩:=I2.list (bB ex);have e:(backToKw pos (keywordEach [⟨some "start",kx,kp⟩] X.env)).filterMap (·.1)=(["start"]:List Str):=by rw [hks]; rfl
   rw [e];refine nW (by unfold Builtin.SmallTypes.fitsIndex; rw [An (by omega),An (by omega)]; rfl) p.isList λh' he hi hz hk=>wA I2 (k:=k.toNat) ?_ hi hz hk q
   rw [show ((k.toNat:Nat):Int)=k by omega]
   exact he
 . exact q.elim
end
section
variable {K:W.Frag} {a:Addr} {k:Nat} {xs:List V} {g:TG} {tb:TS} {D:Ends} {σ σ0:St} {H H1:Hp} {tests:TT} {te:TE} {Q:VK}
def qI (Pv:Nat->St->Hp->Prop) (h0:Pv 0 σ H) (hl:∀ i σ H,i<=xs.length->Pv i σ H->rdL H a=some xs)
   (hs:∀ i x σ H p,xs[i]?=some x->Pv i σ H->H p=none->g (.ref p) σ (upd H p (.tup [.int ((k+i:Nat):Int),x])) λσ2 H2=>tb { D with nx:=Pv (i+1),ct:=Pv (i+1),bk:=D.nx } σ2 H2) (hd:∀ σ H,Pv xs.length σ H->D.nx σ H):zW (Ite K a k) g tb D σ H:=by
 refine ⟨λi m σ H=>m=xs.length - i/\i<=xs.length/\Pv i σ H,⟨xs.length,by simp,Nat.zero_le _,h0⟩,?_⟩
 rintro i m σ H ⟨rfl,hi,p⟩;have hr:=hl i σ H hi p
 by_cases hlt:i<xs.length
 . refine .inr ⟨⟨xs,xs[i],bB hr,by simp [hlt]⟩,Pv (i+1),λσ' H' p'=>⟨xs.length - (i+1),by omega,rfl,hlt,p'⟩,λx H' y=>?_⟩
   obtain ⟨q,z,hq,rfl,rfl,hz⟩:=y;exact hs i z σ H q (hz xs (bB hr)) p hq
 . have e:i=xs.length:=by omega
   subst e;exact .inl ⟨⟨xs,bB hr,rfl⟩,hd σ H p⟩
def aZS (f:Nat->V->Option V) (ha:rdL H1 a=some xs) (hl:xs.length<sizeLine)
   (hs:∀ (i:Nat) x Hc p (A:VK) (B:Hp->Prop),xs[i]?=some x->Same H1 Hc->Hc p=none->(∀ Hd,Same (upd Hc p (.tup [.int ((k+i:Nat):Int),x])) Hd->match f i x with | some y=>A y Hd | none=>B Hd)->
     g (.ref p) σ0 (upd Hc p (.tup [.int ((k+i:Nat):Int),x])) λσ2 H2=>Wk σ0 σ2/\tests σ2 H2 λb H3=>if b=true then te σ2 H3 A else B H3)
   (fin:∀ D Hd,H1 D=none->Same H1 Hd->rdL Hd D=some ((List.range xs.length).filterMap λi=>f i (xs.getD i .non))->Q (.ref D) Hd):fA g tests te σ0 Q (Ite K a k) H1:=by
 intro D hD;refine ⟨λi m Hc=>m=xs.length - i/\i<=xs.length/\Same H1 Hc/\Hc D=some (.lst ((List.range i).filterMap λi=>f i (xs.getD i .non))),⟨xs.length,by simp,Nat.zero_le _,aG hD _,by rw [aD]; rfl⟩,?_⟩
 rintro i m Hc ⟨rfl,hi,sm,hDc⟩;have hr:=aK sm ha
 by_cases hlt:i<xs.length
 . refine .inr ⟨⟨xs,xs[i],bB hr,by simp [hlt]⟩,λv H' y=>?_⟩
   obtain ⟨q,z,hq,rfl,rfl,hz⟩:=y;have hx:=hz xs (bB hr)
   have hg:xs.getD i .non=z:=by rw [Ac,hx]; rfl
   refine hs i z Hc q _ _ hx sm hq λHd sd=>?_;have hDd:Hd D=some (.lst ((List.range i).filterMap λi=>f i (xs.getD i .non))):=sd _ _ (aG hq _ _ _ hDc)
   have sH:Same H1 Hd:=sm.trans ((aG hq _).trans sd)
   cases e:f i z with
   | some y=>
     refine ⟨_,hDd,?_,xs.length - (i+1),by omega,rfl,hlt,λb o hb=>?_,?_⟩
     . have:=Ct (λi=>f i (xs.getD i .non)) (List.range i)
       rw [Ca] at this;omega
     . rw [aH (bF hb hD)]; exact sH b o hb
     . rw [aD,Bx,Bv,Cu (b:=y) (by rw [hg,e]),Co]
   | none=>
     refine ⟨xs.length - (i+1),by omega,rfl,hlt,sH,?_⟩
     rw [hDd,Bx,Bv,Cv (by rw [hg,e]),Co,Bi]
 . have e:i=xs.length:=by omega
   subst e;exact .inl ⟨⟨xs,bB hr,rfl⟩,fin D Hc hD sm (aT hDc)⟩
def cZW {ta:TA} {R:It->Hp->Prop} (h:ta σ H (aQQ λa H1=>onL (rdL H1 a) (R (Ite K a 0) H1))):dQQ K ta σ H R:=h
def bZS {ta tk:TA} {R:It->Hp->Prop} (h:ta σ H (aQQ λa H1=>tk σ H1 (qP λk H2=>(0<=k/\k<2 ^ 62)/\onL (rdL H2 a) (R (Ite K a k.toNat) H2)))):cQP K ta tk σ H R:=h
def eQI {R:Addr->Hp->Prop} (h:R a H):aQQ R [.ref a] H:=h
end
section
end
section
variable {K:W.Frag} {n:Nat} {t:TG} {u:TGs} {v:V} {r xs:List V} {σ:St} {H:Hp} {Q:St->Hp->Prop} {a:Addr}
def dZ0 (e:nE H a=some xs) (hn:xs.length=n) (h:u xs σ H Q):dZZ K n u (.ref a) σ H Q:=⟨a,xs,rfl,.of (qH e),hn,h⟩
def cZY (h:t v σ H λσ' H'=>u r σ' H' Q):aJJ t u (v::r) σ H Q:=⟨v,r,rfl,h⟩
def dX4 (h:Q σ H):dZM [] σ H Q:=⟨rfl,h⟩
end
def fL {X:Cx} {K:W.Frag} {i j k:Nat} {x y:Str} {px py pos:Pos} (hK:X.K=K) (hc:X.calm=true) (hN:X.N.Nodup) (hi:X.N[i]?=some x) (hx:Loc X.env.scope x) (hfx:X.fn x=true\/X.env.scope.names.lookup x=some .local)
   (hj:X.N[j]?=some y) (hy:Loc X.env.scope y) (hfy:X.fn y=true\/X.env.scope.names.lookup y=some .local):PG X (.Tuple [.Name x px,.Name y py] k pos) (dZZ K 2 (aJJ (nS i) (aJJ (nS j) dZM))):=by
 subst hK;exact dJY hc (jJ (aY hN hi hx hfx) (jJ (aY hN hj hy hfy) aJK))
end L2
namespace L2
open PySem PySem.Spec PyProof.Rows
structure Fly (B:Heap) (l:List Env) (e:Addr) (cls:Value) (d:Option Addr) (fl:Value) (h:Heap):Prop where
 stays:B.StaysIn h
 new:B.get? e=none
 frames:h.FunFrames B l
 on:∃ oe vs T oT ts,h.get? e=some oe/\(oe.cls=cls/\oe.dict=d)/\oe.data=.fields vs/\vs[1]?=some (.ref T)/\B.get? T=none/\T≠e/\h.get? T=some oT/\oT.data=.fields ts/\ts[3]?=some fl/\vs[2]?=some .none
def zE (o:Obj) (f:Array Value->Array Value):(o.mapFields f).dict=o.dict:=by
 obtain ⟨c,d,dt,sl⟩:=o;cases dt <;> rfl
def pM {h:Heap} {a:Addr} {o:Obj} {vs:Array Value} {f:Obj->Obj} (ha:h.get? a=some o) (hd:o.data=.fields vs):∀ b u,h.get? b=some u->(∀ ws,u.data≠.fields ws)->(h.update a f).get? b=some u:=λb u e n=>by
 rw [Cb _ _ (λz:a=b=>by rw [<-z,ha] at e; cases e; exact n vs hd)]
 exact e
section
variable {M:Model} {A:Around} {E:Q0} {s:Shared} {B:Heap} {env:Env} {outer l:List Env} {L e:Addr} {cls:Value} {d:Option Addr} {Q:Unit->Shared->Prop}
def vE {oe:Obj} {vs:Array Value} {head:Value} {nx:Bool} (hfr:A.frames=some (env::outer)) (hl:s.heap.FunFrames B (env::outer)) (hf:env.frame=some L) (hB:B.StaysIn s.heap) (hn:B.get? e=none)
   (he:s.heap.get? e=some oe) (hd:oe.data=.fields vs) (h1:1<vs.size) (c2:vs[2]?=some .none) (hQ:∀ h',Fly B (env::outer) e oe.cls oe.dict (rawInt L) h'->s.heap.UpToSlots h'->Q () { s with heap:=h' }) :
   wpAny M A (do let a <-frameOf env; let pl <-entryPlaceOf L nx; let b <-EntryCells.newEntry head a .none (rawInt L) .none pl; setField (.ref e) 1 b) Q E s:=by
 have ne:e ∉ (env::outer).filterMap (·.frame):=λhm=>by
   obtain ⟨_,o,ho,nf⟩:=hl.mem hm;rw [he] at ho; cases ho;exact nf vs hd
 refine Ae (wpAny_frameOf_fun hfr hl hf λg1 so=>Ae (wpAny_entryPlaceOf λpl hpl=>?_));have e1:g1.get? e=some oe:=(so.2.1 e ne).trans he
 have b1:B.StaysIn g1:=λb o q=>(so.2.1 b λhm=>by rw [(hl.mem hm).1] at q; cases q).trans (hB b o q)
 unfold EntryCells.newEntry newFields;refine Ae (Gy ?_ (hpl.sizeOk5 _ _ _ _ _));generalize hts:(([head,.ref L,.none,rawInt L,.none]++(if pl.isEmpty then List.replicate 6 Value.none else pl):List Value)).toArray=ts
 have t3:ts[3]?=some (rawInt L):=by rw [<-hts]; simp
 have e2:=Ai (h:=g1) ⟨.type "traceback",none,.fields ts,#[]⟩ e1
 refine Ha e2 hd h1 (hQ _ ?_ ?_)
 . have te:g1.objs.size≠e:=Gg (Av e1)
   have dm:=Gr hd (·.setIfInBounds 1 (Value.ref g1.objs.size))
   refine ⟨λb o q=>?_,hn,hl.of_keeps λb o q nf=>?_,_,_,g1.objs.size,⟨.type "traceback",none,.fields ts,#[]⟩,ts,Heap.get?_update_self _ e2 (Obj.isFreed_of_fields dm),⟨Obj.cls_mapFields _ _,zE _ _⟩,dm,by simp [h1],b1.fresh,te,?_,rfl,t3,(Array.getElem?_setIfInBounds_ne (by decide)).trans c2⟩
   . rw [Cb _ _ (λz:e=b=>by rw [<-z,hn] at q; cases q)]
     exact Ai _ (b1 b o q)
   . obtain ⟨sl,q1⟩:=so.2.2 b o q;exact ⟨_,pM e2 hd b _ (Ai _ q1) nf,rfl⟩
   . rw [Cb _ _ te.symm];exact Ba g1 rfl
 . intro b o q nf;obtain ⟨sl,q1⟩:=so.2.2 b o q;exact ⟨sl,pM e2 hd b _ (Ai _ q1) nf⟩
def bQC {oe:Obj} {vs:Array Value} (hfr:A.frames=some (env::outer)) (hl:s.heap.FunFrames B (env::outer)) (hf:env.frame=some L) (hB:B.StaysIn s.heap) (hn:B.get? e=none)
   (he:s.heap.get? e=some oe) (hd:oe.data=.fields vs) (h1:vs[1]?=some .none) (c2:vs[2]?=some .none) (hQ:∀ h',Fly B (env::outer) e oe.cls oe.dict (rawInt L) h'->s.heap.UpToSlots h'->Q () { s with heap:=h' }):wpAny M A (noteFrame (.ref e) env) Q E s:=by
 unfold noteFrame;simp only [hf];refine Ae (Gu he hd h1 ?_);rw [if_neg (show ¬ ((Value.none != Value.none)=true) by decide)]
 exact vE hfr hl hf hB hn he hd (Cq.mp h1).1 c2 hQ
def qY (hfr:A.frames=some (env::outer)) (hf:env.frame=some L) (F:Fly B (env::outer) e cls d .none s.heap) (hQ:∀ h',Fly B (env::outer) e cls d (rawInt L) h'->s.heap.UpToSlots h'->Q () { s with heap:=h' }) :
   wpAny M A (noteFrame (.ref e) env) Q E s:=by
 obtain ⟨hB,hn,hl,oe,vs,T,oT,ts,he,⟨rfl,rfl⟩,hd,h1,hT,hTe,gT,dT,t3,c2⟩:=F;unfold noteFrame;simp only [hf];refine Ae (Gu he hd h1 ?_);rw [if_pos (show (Value.ref T != Value.none)=true by simp)]
 refine Ae (Gu gT dT t3 ?_);rw [if_neg (show ¬ ((Value.none == rawInt L)=true) by simp [rawInt])]
 refine Ae (Ha gT dT (Cq.mp t3).1 ?_);have keep:∀ b,b≠T->(s.heap.update T (Obj.mapFields (·.setIfInBounds 3 Value.none))).get? b=s.heap.get? b:=λb hb=>Cb _ _ (Ne.symm hb)
 refine vE (s:={ s with heap:=s.heap.update T (Obj.mapFields (·.setIfInBounds 3 Value.none)) }) hfr (hl.of_keeps λb o q nf=>⟨o,pM gT dT b o q nf,rfl⟩) hf
   (λb o q=>(keep b λz=>by rw [z,hT] at q; cases q).trans (hB b o q)) hn ((keep e hTe.symm).trans he) hd (Cq.mp h1).1 c2 λh' F' up=>hQ h' F' λb o q nf=>up b o (pM gT dT b o q nf) nf
def fV {fl:Value} (F:Fly B l e cls d fl s.heap) (hQ:∀ h',Fly B l e cls d .none h'->s.heap.UpToSlots h'->Q () { s with heap:=h' }):wpAny M A (setFlight (.ref e) none) Q E s:=by
 obtain ⟨hB,hn,hl,oe,vs,T,oT,ts,he,hc,hd,h1,hT,hTe,gT,dT,t3,c2⟩:=F;have z3:3<ts.size:=(Cq.mp t3).1
 unfold setFlight;refine Ae (Gu he hd h1 ?_);rw [if_pos (show (Value.ref T != Value.none)=true by simp)]
 refine Ha gT dT z3 (hQ _ ?_ λb o q nf=>⟨o.slots,pM gT dT b o q nf⟩);have dm:=Gr dT (·.setIfInBounds 3 Value.none)
 refine ⟨λb o q=>?_,hn,hl.of_keeps λb o q nf=>⟨o,pM gT dT b o q nf,rfl⟩,oe,vs,T,_,_,?_,hc,hd,h1,hT,hTe,Heap.get?_update_self _ gT (Obj.isFreed_of_fields dm),dm,by simp [z3],c2⟩
 . rw [Cb _ _ (λz:T=b=>by rw [<-z,hT] at q; cases q)]
   exact hB b o q
 . rw [Cb _ _ hTe];exact he
def Fly.less {fl:Value} {h:Heap} (F:Fly B (env::outer) e cls d fl h):Fly B outer e cls d fl h:=⟨F.stays,F.new,F.frames.2.2,F.on⟩
def aQZ {oe:Obj} {vs:Array Value} (hfr:A.frames=some (env::outer)) (hl:s.heap.FunFrames B (env::outer)) (hf:env.frame=some L) (hB:B.StaysIn s.heap) (hn:B.get? e=none)
   (he:s.heap.get? e=some oe) (hd:oe.data=.fields vs) (h1:vs[1]?=some .none) (c2:vs[2]?=some .none) (hQ:∀ h',Fly B outer e oe.cls oe.dict .none h'->s.heap.UpToSlots h'->Q () { s with heap:=h' }):wpAny M A (leaving env (.ref e)) Q E s:=by
 unfold leaving;exact Ae (bQC hfr hl hf hB hn he hd h1 c2 λh1 F1 u1=>fV (s:={ s with heap:=h1 }) F1 λh2 F2 u2=>hQ h2 F2.less (u1.trans u2))
def bXN (hfr:A.frames=some (env::outer)) (hf:env.frame=some L) (F:Fly B (env::outer) e cls d .none s.heap) (hQ:∀ h',Fly B outer e cls d .none h'->s.heap.UpToSlots h'->Q () { s with heap:=h' }):wpAny M A (leaving env (.ref e)) Q E s:=by
 unfold leaving;exact Ae (qY hfr hf F λh1 F1 u1=>fV (s:={ s with heap:=h1 }) F1 λh2 F2 u2=>hQ h2 F2.less (u1.trans u2))
end
end L2
namespace L2
open PySem PySem.Spec PyProof.Rows
structure UnB (fs:List Addr) (H H':Hp) (h B h':Heap):Prop where
 keep:∀ b o,h.get? b=some o->H b=none->b ∉ fs->B.get? b=some o
 slot:∀ b o,h.get? b=some o->H b=none->b∈fs->∃ sl,h'.get? b=some { o with slots:=sl }
 free:∀ b o,h.get? b=some o->H b=none->H' b=none
 there:∀ b o,h.get? b=some o->b ∉ fs->∃ o',B.get? b=some o'
 tups:∀ b xs,H b=some (.tup xs)->H' b=some (.tup xs)
 frzs:∀ b o u,H b=some (.frz o u)->H' b=some (.frz o u)
 tbls:∀ b ps,H b=some (.tbl ps)->∃ more,H' b=some (.tbl (ps++more))
def CXr (P:Program) (w:World):CXT:=λouter H s E e s'=>
 ∃ (ea:Addr) (cls:Value) (d:Option Addr) (B:Heap) (H':Hp),e=.ref ea/\s'.os=s.os/\AllBare s'.gens/\Fly B outer ea cls d .none s'.heap/\HOk P w H' B/\UnB (frs outer) H H' s.heap B s'.heap/\E cls d H'
def HOk.down {P:Program} {w:World} {H:Hp} {h B:Heap} (x:HOk P w H h) (k:∀ b o u,H b=some u->h.get? b=some o->B.get? b=some o):HOk P w H B:=λa u e=>
 (x a u e).stay (λb o hb q=>by
   rcases hb with z | z
   . subst z; exact k b o u e q
   . exact k b o _ z q) (λ_ q=>q) λ_ _ q=>q
def ObjOk.get {P:Program} {w:World} {H:Hp} {h:Heap} {a:Addr} {o:HO} (x:ObjOk P w H h a o):∃ ob,h.get? a=some ob:=by
 cases o with
 | lst xs=>obtain ⟨_,_,_,_,e⟩:=x; exact ⟨_,e⟩
 | tup xs=>obtain ⟨_,_,_,ob,e,_⟩:=x; exact ⟨_,e⟩
 | dK kvs=>obtain ⟨_,_,_,_,ob,_,_,e,_⟩:=x; exact ⟨_,e⟩
 | dT kvs=>obtain ⟨_,_,_,_,ob,_,_,e,_⟩:=x; exact ⟨_,e⟩
 | set S n=>obtain ⟨ob,_,_,_,e,_⟩:=x; exact ⟨_,e⟩
 | ins C dx fs=>obtain ⟨_,_,_,e,_⟩:=x; exact ⟨_,e⟩
 | own y=>exact x
 | xd fs=>obtain ⟨_,⟨od,_,_,e,_⟩,_⟩:=x; exact ⟨_,e⟩
 | rng lo hi=>obtain ⟨_,_,_,e⟩:=x; exact ⟨_,e⟩
 | frz ob u=>exact ⟨_,x.1⟩
 | tbl ps=>exact ⟨_,x⟩
 | met f y=>exact ⟨_,x⟩
 | ext φ=>exact x.2.1
def HOk.hole {P:Program} {w:World} {H:Hp} {h:Heap} {a:Addr} (x:HOk P w H h) (e:h.get? a=none):H a=none:=by
 cases q:H a with
 | none=>rfl
 | some o=>
   obtain ⟨ob,z⟩:=(x a o q).get;rw [e] at z;cases z
def iR {env:Env} {outer:List Env} {L b:Addr} (hf:env.frame=some L) (h1:b≠L) (h2:b ∉ frs outer):b ∉ frs (env::outer):=λhm=>by
 obtain ⟨e,he,q⟩:=Do.mp hm;rcases Ay.mp he with z | z
 . subst z;rw [hf] at q;exact h1 (Bh q).symm
 . exact h2 (Do.mpr ⟨e,z,q⟩)
section
variable {P:Program} {w:World} {K:W.Frag} {mg:Q4} {base:Heap} {N:List Str} {qual:Str} {scope:Scope} {f:Addr} {cd:Value} {A:Around} {outer:List Env} {s₀:Shared} {H₀:Hp} {E:XK}
 {pins:Q2} {σ:St} {H:Hp} {s:Shared}
def vX {ea:Addr} {oe:Obj} {vs:Array Value} (I:Inv (iH (CXr P w) P w K mg base N qual scope f cd A outer s₀ H₀ E) pins σ H s) (he:s.heap.get? ea=some oe) (hd:oe.data=.fields vs) (h1:vs[1]?=some .none) (c2:vs[2]?=some .none) (hn:H ea=none) (h0:s₀.heap.get? ea=none)
   (q:E oe.cls oe.dict H):(iH (CXr P w) P w K mg base N qual scope f cd A outer s₀ H₀ E).xe (.ref ea) s:=by
 have hfr:=I.ok.frames
 have hst:=I.stack
 have hsf:=I.stkFree
 have hbase:=I.base
 have hlo:∀ b o,s₀.heap.get? b=some o->b≠s₀.heap.objs.size:=λb o e=>Bo (Av e)
 have nea:∀ b o,s₀.heap.get? b=some o->b≠ea:=λb o e z=>by rw [z,h0] at e; cases e
 have hid:∀ b o,s.heap.get? b=some o->b≠ea->b ∉ frs (envOfC qual scope s₀.heap.objs.size f cd::outer)->(W.hideAll s.heap (ea::frs (envOfC qual scope s₀.heap.objs.size f cd::outer))).get? b=some o:=λb o e n1 n2=>
   W.hideAll_get _ e λhm=>(Ay.mp hm).elim n1 n2
 refine aQZ (B:=W.hideAll s.heap (ea::frs (envOfC qual scope s₀.heap.objs.size f cd::outer))) hfr (W.funFrames_hide hst λenv he b hb=>Ak _ (Do.mpr ⟨env,he,hb⟩)) rfl (λb o q=>Gp _ q)
   (W.hideAll_none _ Am) he hd h1 c2 λh2 fl up=>?_
 refine ⟨ea,_,_,_,H,rfl,I.os,I.bare,fl,I.hok.down λb o u e g=>hid b o g (λz=>by rw [z,hn] at e; cases e) λhm=>?_,⟨λb o e n hb=>?_,λb o e n hb=>?_,λb o e n=>hbase.free b o e n (by simp [iH]),λb o e hb=>?_,hbase.tups,hbase.frzs,hbase.tbls⟩,q⟩
 . rw [hsf b hm] at e;cases e
 . exact hid b o (hbase.keep b o e n hb (by simp [iH])) (nea b o e) (iR rfl (hlo b o e) hb)
 . obtain ⟨sl,q1⟩:=hbase.slot b o e n hb (by simp [iH])
   obtain ⟨_,o2,g2,nf⟩:=I.ok.funs.mem hb;have e2:s₀.heap.get? b=some o2:=g2
   rw [e] at e2;cases e2;obtain ⟨sl2,q2⟩:=up b _ q1 nf;exact ⟨sl2,q2⟩
 . obtain ⟨o',q1⟩:=hbase.there b o e (by simp [iH])
   exact ⟨o',hid b o' q1 (nea b o e) (iR rfl (hlo b o e) hb)⟩
def cP:jQ (CXr P w) (iH (CXr P w) P w K mg base N qual scope f cd A outer s₀ H₀ E) E:=by
 intro pins σ H s e s' I h;obtain ⟨ea,cls,d,B,H',rfl,os,bare,fl,hok,un,q⟩:=h;have hbase:=I.base
 have hlo:∀ b o,s₀.heap.get? b=some o->b≠s₀.heap.objs.size:=λb o e=>Bo (Av e)
 refine bXN I.ok.frames rfl fl λh2 fl2 up=>?_;have ns:∀ b o,s₀.heap.get? b=some o->b ∉ frs outer->b ∉ frs (envOfC qual scope s₀.heap.objs.size f cd::outer):=λb o e hb=>iR rfl (hlo b o e) hb
 have ins:∀ b,b∈frs outer->b∈frs (envOfC qual scope s₀.heap.objs.size f cd::outer):=λb hb=>by
   obtain ⟨e,he,q⟩:=Do.mp hb;exact Do.mpr ⟨e,Ak _ he,q⟩
 refine ⟨ea,cls,d,B,H',rfl,os.trans I.os,bare,fl2,hok,⟨λb o e n hb=>?_,λb o e n hb=>?_,λb o e n=>?_,λb o e hb=>?_,λb xs e=>un.tups b xs (hbase.tups b xs e),λb o u e=>un.frzs b o u (hbase.frzs b o u e),λb ps e=>?_⟩,q⟩
 . exact un.keep b o (hbase.keep b o e n hb (by simp [iH])) (hbase.free b o e n (by simp [iH])) (ns b o e hb)
 . obtain ⟨sl,q1⟩:=hbase.slot b o e n hb (by simp [iH])
   obtain ⟨sl1,q2⟩:=un.slot b _ q1 (hbase.free b o e n (by simp [iH])) (ins b hb)
   obtain ⟨_,o2,g2,nf⟩:=I.ok.funs.mem hb;have e2:s₀.heap.get? b=some o2:=g2
   rw [e] at e2;cases e2;obtain ⟨sl2,q3⟩:=up b _ q2 nf;exact ⟨sl2,q3⟩
 . obtain ⟨o',q1⟩:=hbase.there b o e (by simp [iH])
   exact un.free b o' q1 (hbase.free b o e n (by simp [iH]))
 . obtain ⟨o',q1⟩:=hbase.there b o e (by simp [iH])
   exact un.there b o' q1 (ns b o e hb)
 . obtain ⟨m1,e1⟩:=hbase.tbls b ps e;obtain ⟨m2,e2⟩:=un.tbls b _ e1;exact ⟨m1++m2,by rw [e2,Array.append_assoc]⟩
end
def cX5 {K:W.Frag} {h:Heap} {C:Addr} {bmB:List Value} {newId:String} (X:K.In h) (q:W.excIn K C bmB newId=true) :
   ∃ bm N nm qn bs hd sn sub ab col dd k0 k1 k2 k3 k5 mN,h.get? C=some (excClassObj nm qn C N bs bm hd sn sub ab col dd k0 k1 k2 k3 k5 newId)/\h.Ns N mN/\mN "__init__"=none/\OwnTail h bmB bm:=by
 unfold W.excIn at q;split at q
 . rename_i dd c sl ho
   split at q
   . rename_i C1 bm k0 k1 k2 k3 n k5 hm hs
     obtain ⟨⟨⟨⟨⟨q1,q2⟩,q3⟩,q4⟩,q5⟩,q6⟩:((((C1=C/\n=newId)/\c.hasDel=false)/\W.tailIn K bmB bm=true)/\W.nsOkIn K c.ns=true)/\W.nsIn K c.ns "__init__"=some none:=by
       simpa only [Bool.and_eq_true,beq_iff_eq,Bool.not_eq_true'] using q
     subst q1 q2;obtain ⟨nm,bs,mro,ns,qn,hd,sn,sub,ab,col,del⟩:=c;dsimp only at hm q3 q5 q6;subst hm q3;obtain rfl:sl=#[k0,k1,k2,k3,some (.builtin n),k5]:=by
       obtain ⟨l⟩:=sl;have hs':l=_:=hs
       rw [hs']
     exact ⟨bm,ns,nm,qn,bs,hd,sn,sub,ab,col,dd,k0,k1,k2,k3,k5,_,X _ _ ho,.of_isNs (W.isNs_of_in X q5),W.nsMap_none_of_in X q5 q6,W.tail_of_in X q4⟩
   . cases q
 . cases q
def dZW (X:Cx) (E:XK):Prop:=∀ (pins:List (Addr×Obj)) (σ:St) (H:Hp) (s:Shared) (ea:Addr) (oe:Obj) (vs:Array Value),Inv X pins σ H s->s.heap.get? ea=some oe->oe.data=.fields vs->vs[1]?=some .none->vs[2]?=some .none->H ea=none->X.s₀.heap.get? ea=none->
 E oe.cls oe.dict H->X.xe (.ref ea) s
def jR {P:Program} {w:World} {K:W.Frag} {mg:Q4} {base:Heap} {N:List Str} {qual:Str} {scope:Scope} {f:Addr} {cd:Value} {A:Around} {outer:List Env} {s₀:Shared} {H₀:Hp} {E:XK} :
   dZW (iH (CXr P w) P w K mg base N qual scope f cd A outer s₀ H₀ E) E:=λ_ _ _ _ _ _ _ I he hd h1 c2 hn h0 q=>vX I he hd h1 c2 hn h0 q
section
variable {X:Cx} {E:XK} {x:Str} {C:Addr} {bmB:List Value} {B newId initId:String} {e:Expr} {es:List Expr} {ta:TA} {np cpos pos:Pos}
def cQX (C:Addr) (E:XK) (ta:TA):TS:=λ_ σ H=>ta σ H λvs H1=>vs.length<=sizeLine/\E (.ref C) none H1
def sC (hR:dZW X E) (hex:X.ex=[]) (hc:X.calm=true) (hg:Gl X x) (hm:X.mg x=some (.ref C)) (hx:W.excIn X.K C bmB newId=true) (FB:ExcBaseFacts B newId initId bmB) (ha:PA X (e::es) ta)
   (hd:(x == ("__debug__" : Str))=false:=by decide) (he:starEach (e::es) X.env=(false,eval e X.env)::starEach es X.env:=by rfl) (hpl:(backTo cpos (starEach es X.env)).any (·.1)=false:=by rfl) :
   PS X (.Raise (some (.Call (.Name x np) (e::es) [] cpos)) none pos) (cQX C E ta):=by
 intro pins s σ H D I h;obtain ⟨bm,N,nm,q,bs,hdct,sn,sub,ab,col,dd,k0,k1,k2,k3,k5,mN,hC,hN,hni,T⟩:=cX5 I.ok.mod.kin hx;refine wpAny_Raise_call_subT (C:=C) (N:=N) (bm:=bm) (nm:=nm) (q:=q) (bs:=bs) (hdct:=hdct) (sn:=sn) (sub:=sub) (ab:=ab) (col:=col) (dd:=dd) (k0:=k0) (k1:=k1) (k2:=k2) (k3:=k3) (k5:=k5)
   FB (mN:=mN) (T.hasType FB.hasBase) (I.ok.hd hc) (by rw [he]; show (false || (backTo cpos (starEach es X.env)).any (·.1))=false; rw [hpl]; rfl) hni (gR I hg hm ⟨rfl,?_⟩ hd)
 have h1:=ha cpos pins s σ H _ I h
 rw [he] at h1 ⊢;refine Gd (thn h1 λus s2 ⟨vs,H2,I2,r,q2⟩=>⟨rfl,?_,I2.bk _ _ hC,hN.keeps I2.bk,T.keeps I2.bk,λh' ea hx=>?_⟩)
 . show us.length<=sizeLine
   rw [<-r.length];exact q2.1
 . obtain ⟨t,g,_,_⟩:=hx.there;refine hR pins σ H2 { s2 with heap:=h' } ea _ _ (I2.kept (t':=s2.toks) hx.keeps) g rfl rfl rfl (I2.hok.hole hx.new) ?_ q2.2
   cases z:X.s₀.heap.get? ea with
   | none=>rfl
   | some o=>
     obtain ⟨o',z'⟩:=I2.base.there ea o z (by rw [hex]; simp)
     rw [hx.new] at z';cases z'
end
abbrev Cx.tr (X:Cx) (pins:List (Addr×Obj)) (xe:Value->Shared->Prop):Cx:={ X with pn:=X.pn++pins,xe:=xe }
abbrev Cx.hnd (X:Cx) (pins:List (Addr×Obj)) (ea:Addr):Cx:={ X with A:=X.A.mark (some (.ref ea)),calm:=false,pn:=X.pn++pins,xe:=λ_ _=>False }
section
variable {X:Cx} {pins pins':Q2} {σ:St} {H:Hp} {s:Shared} {xe:Q0} {ea:Addr}
def Inv.tr (I:Inv X pins σ H s) (xe:Q0):Inv (X.tr pins xe) [] σ H s :=
 ⟨⟨I.ok.mod,I.ok.kind,I.ok.glob,I.ok.blt,I.ok.above,I.ok.inj,I.ok.has,I.ok.cab,I.ok.hd,I.ok.frames,I.ok.stk,I.ok.exf,I.ok.bs,I.ok.bsz,I.ok.noex,I.ok.exfs,I.ok.funs,I.ok.frf⟩,I.os,I.bare,I.base,I.loc,I.cell,I.free,I.freeC,
   λp hp=>I.pin p (by rwa [Bi] at hp),I.hok,I.len⟩
def Inv.untr (I:Inv (X.tr pins xe) pins' σ H s):Inv X pins σ H s :=
 ⟨⟨I.ok.mod,I.ok.kind,I.ok.glob,I.ok.blt,I.ok.above,I.ok.inj,I.ok.has,I.ok.cab,I.ok.hd,I.ok.frames,I.ok.stk,I.ok.exf,I.ok.bs,I.ok.bsz,I.ok.noex,I.ok.exfs,I.ok.funs,I.ok.frf⟩,I.os,I.bare,I.base,I.loc,I.cell,I.free,I.freeC,
   λp hp=>I.pin p (Cm _ hp),I.hok,I.len⟩
def Inv.hnd (I:Inv X pins σ H s) (ea:Addr):Inv (X.hnd pins ea) [] σ H s :=
 ⟨⟨I.ok.mod,I.ok.kind,I.ok.glob,I.ok.blt,I.ok.above,I.ok.inj,I.ok.has,I.ok.cab,(λz=>nomatch z),I.ok.frames,I.ok.stk,I.ok.exf,I.ok.bs,I.ok.bsz,I.ok.noex,I.ok.exfs,I.ok.funs,I.ok.frf⟩,I.os,I.bare,I.base,I.loc,I.cell,I.free,I.freeC,
   λp hp=>I.pin p (by rwa [Bi] at hp),I.hok,I.len⟩
def Inv.unhnd (I:Inv (X.hnd pins ea) pins' σ H s) (ok:X.Ok):Inv X pins σ H s :=
 ⟨ok,I.os,I.bare,I.base,I.loc,I.cell,I.free,I.freeC,λp hp=>I.pin p (Cm _ hp),I.hok,I.len⟩
structure Fre (X:Cx) (pins:List (Addr×Obj)) (a:Addr):Prop where
 s0:X.s₀.heap.get? a=none
 loc:a≠X.env.locals
 cell:∀ x c,X.env.cells.lookup x=some c->c≠a
 pin:∀ p∈X.pn++pins,p.1≠a
def Inv.adopt {a:Addr} {o:HO} (I:Inv X pins σ H s) (f:Fre X pins a) (hn:H a=none) (new:ObjOk X.prog X.w (upd H a o) s.heap a o):Inv X pins σ (upd H a o) s:=by
 have ne:∀ b u,H b=some u->b≠a:=λb u e=>bF e hn
 refine ⟨I.ok,I.os,I.bare,⟨I.base.keep,I.base.slot,λb u e n hx=>?_,I.base.there,λb xs e=>?_,λb u v e=>?_,λb ps e=>?_⟩,I.loc,I.cell,by rw [aH f.loc.symm]; exact I.free,λx c e=>by rw [aH (f.cell x c e)]; exact I.freeC x c e,λp hp=>?_,λb u e=>?_,I.len⟩
 . rw [aH (λz=>by rw [z,f.s0] at e; cases e)]
   exact I.base.free b u e n hx
 . have q:=I.base.tups b xs e
   rw [aH (ne b _ q)]; exact q
 . have q:=I.base.frzs b u v e
   rw [aH (ne b _ q)]; exact q
 . obtain ⟨m,q⟩:=I.base.tbls b ps e;exact ⟨m,by rw [aH (ne b _ q)]; exact q⟩
 . obtain ⟨h1,h2,h3⟩:=I.pin p hp;exact ⟨h1,by rw [aH (f.pin p hp)]; exact h2,h3⟩
 . by_cases hb:b=a
   . subst hb;rw [aD] at e;cases e;exact new
   . rw [aH hb] at e;exact (I.hok b u e).stay (λc v _ q=>q) (λc q=>by rw [aH (ne c _ q)]; exact q) λc xs q=>by rw [aH (ne c _ q)]; exact q
def Inv.unname {i:Nat} {n:Str} {h':Heap} {m:Q4} {v:Option Value} {t:Nat} (I:Inv X pins σ H s) (hN:X.N.Nodup) (hi:X.N[i]?=some n) (hm:s.heap.Ns X.env.locals m) (hl:X.env.scope.names.lookup n=some .local)
   (hn:h'.Ns X.env.locals (λx=>if x=n then v else m x)) (sb:Heap.SameBut X.env.locals s.heap h'):Inv X pins (σ.set i none) H { s with heap:=h',toks:=t }:=by
 have k:∀ b o,b≠X.env.locals->s.heap.get? b=some o->h'.get? b=some o:=λb o hb e=>(sb.2 b hb).trans e
 have nl:∀ b o,X.s₀.heap.get? b=some o->b≠X.env.locals:=λb o e=>Bo (Bc (Av e) I.ok.above)
 have there:∀ b o,s.heap.get? b=some o->∃ o',h'.get? b=some o':=λb o e=>by
   by_cases hb:b=X.env.locals
   . obtain ⟨o',_,_,q,_⟩:=hn;exact ⟨o',by rw [hb]; exact q⟩
   . exact ⟨o,k b o hb e⟩
 obtain ⟨m1,hm1,hl1⟩:=id I.loc;refine ⟨I.ok,I.os,I.bare,⟨λb o e n hb hx=>k b o (nl b o e) (I.base.keep b o e n hb hx),λb o e n hb hx=>?_,I.base.free,λb o e hx=>?_,I.base.tups,I.base.frzs,I.base.tbls⟩,⟨_,hn,λj y u e1 e2 e3=>?_⟩,λx c e=>?_,I.free,I.freeC,λp hp=>?_,λb u e=>?_,by rw [Cg]; exact I.len⟩
 . obtain ⟨sl,q⟩:=I.base.slot b o e n hb hx;exact ⟨sl,k b _ (nl b o e) q⟩
 . obtain ⟨o',q⟩:=I.base.there b o e hx;exact there b o' q
 . have hji:j≠i:=λz=>by
     subst z;rw [Df (by rw [I.len]; exact (Ad.mp hi).1)] at e2
     cases e2
   rw [Da (Ne.symm hji)] at e2;have hyn:y≠n:=λz=>hji (rK hN e1 (by rw [z]; exact hi))
   obtain ⟨u',r,look⟩:=hl1 j y u e1 e2 e3;have em:m1=m:=by
     obtain ⟨o1,es1,ep1,g1,d1,_,f1⟩:=hm1;obtain ⟨o2,es2,ep2,g2,d2,_,f2⟩:=hm;rw [g1] at g2; cases g2;rw [d1] at d2; cases d2;funext z
     rw [<-f1 z,f2 z]
   refine ⟨u',r,?_⟩;rcases look with ⟨z1,z2⟩ | ⟨z1,c,z2,o,z3,z4⟩
   . exact .inl ⟨z1,by show (if y=n then v else m y)=_; rw [if_neg hyn,<-em]; exact z2⟩
   . exact .inr ⟨z1,c,z2,o,k c o (I.cne y c z2) z3,z4⟩
 . obtain ⟨v',o,z1,z2⟩:=I.cell x c e;exact ⟨v',o,k c o (I.cne x c e) z1,z2⟩
 . obtain ⟨h1,h2,h3,h4⟩:=I.pin p hp;exact ⟨k _ _ h3 h1,h2,h3,h4⟩
 . refine (I.hok b u e).stay (λc o hc q=>k c o (λz=>?_) q) (λ_ q=>q) λ_ _ q=>q;have fr:=I.free
   rcases hc with z1 | z1
   . rw [<-z1,z,fr] at e; cases e
   . rw [z,fr] at z1; cases z1
end
def tX (ea:Addr) (cls:Value) (d:Option Addr):HO:=.ext λh=>∃ oe vs,h.get? ea=some oe/\oe.cls=cls/\oe.dict=d/\oe.data=.fields vs
def Fly.obj {P:Program} {w:World} {B:Heap} {l:List Env} {ea:Addr} {cls fl:Value} {d:Option Addr} {h:Heap} {H:Hp} (F:Fly B l ea cls d fl h):ObjOk P w H h ea (tX ea cls d):=by
 obtain ⟨oe,vs,T,oT,ts,he,hc,hd,_⟩:=F.on;exact ⟨⟨oe,vs,he,hc.1,hc.2,hd⟩,⟨oe,he⟩,λh1 h2 ⟨o,ws,g,q⟩ k=>⟨o,ws,k o g,q⟩⟩
def XS (X:Cx) (pins:List (Addr×Obj)) (R:Value->Option Addr->St->Hp->Prop):Value->Shared->Prop:=λe s1=>
 ∃ ea cls d B σ1 H1,e=.ref ea/\Fly B X.stack ea cls d .none s1.heap/\Fre X pins ea/\H1 ea=none/\(∀ h2,B.StaysIn h2->s1.heap.UpToSlots h2->Inv X pins σ1 H1 { s1 with heap:=h2 })/\R cls d σ1 H1
def uQ (CX:CXT) (X:Cx) (Es:St->XK):Prop:=∀ (pins:List (Addr×Obj)) (σ:St) (H:Hp) (s:Shared) (e:Value) (s':Shared),Inv X pins σ H s->CX X.stack H s (Es σ) e s'->X.xe e s'
def mY {X:Cx} {pins:Q2} {R:Value->Option Addr->St->Hp->Prop} (hex:X.ex=[]):uQ (CXr X.prog X.w) (X.tr pins (XS X pins R)) (λσ cls d H1=>R cls d σ H1):=by
 intro pins' σ H s e s1 I' h;obtain ⟨ea,cls,d,B,H1,rfl,os,bare,F,hok,un,q⟩:=h;have I:Inv X pins σ H s:=I'.untr
 have F:Fly B X.stack ea cls d .none s1.heap:=F
 have un:UnB (frs X.stack) H H1 s.heap B s1.heap:=un
 have nfs:ea ∉ frs X.stack:=λhm=>by
   obtain ⟨_,o,g,nf⟩:=F.frames.mem hm;obtain ⟨oe,vs,T,oT,ts,he,hc,hd,_⟩:=F.on;rw [g] at he; cases he;exact nf vs hd
 have ne:∀ b o,s.heap.get? b=some o->b≠ea:=λb o g z=>by
   subst z;obtain ⟨o',g'⟩:=un.there b o g nfs;rw [F.new] at g';cases g'
 refine ⟨ea,cls,d,B,σ,H1,rfl,F,⟨?_,?_,λx c z=>?_,λp hp=>?_⟩,hok.hole F.new,λh2 st up=>?_,q⟩
 . cases z:X.s₀.heap.get? ea with
   | none=>rfl
   | some o=>
     obtain ⟨o',z'⟩:=I.base.there ea o z (by rw [hex]; simp)
     exact absurd rfl (ne ea o' z')
 . obtain ⟨m,⟨o,_,_,g,_⟩,_⟩:=I.loc;exact (ne _ o g).symm
 . obtain ⟨v,o,g,_⟩:=I.cell x c z;exact ne c o g
 . exact ne p.1 p.2 (I.pin p hp).1
 . have slot:∀ b o,s.heap.get? b=some o->b∈frs X.stack->∃ sl,h2.get? b=some { o with slots:=sl }:=λb o g hb=>by
     obtain ⟨sl,g1⟩:=un.slot b o g (I.stkFree b hb) hb;obtain ⟨_,o2,g2,nf⟩:=I.stack.mem hb;rw [g] at g2; cases g2;obtain ⟨sl2,g3⟩:=up b _ g1 nf;exact ⟨sl2,g3⟩
   refine I.call' (s':={ s1 with heap:=h2 }) (ch:=[]) os ⟨λb o g n hb _=>st b o (un.keep b o g n hb),λb o g n hb _=>slot b o g hb,λb o g n _=>un.free b o g n,λb o g _=>?_,un.tups,un.frzs,un.tbls⟩ (hok.kept λb o g=>st b o g) bare λb hb=>absurd hb (by simp)
   by_cases hb:b∈frs X.stack
   . obtain ⟨sl,g1⟩:=slot b o g hb;exact ⟨_,g1⟩
   . obtain ⟨o',g1⟩:=un.there b o g hb;exact ⟨o',st b o' g1⟩
section
variable {X:Cx} {CX:CXT} {k:Nat} {f:Addr} {fd:FuncData} {ps:List Str} {sp:Sp} {Es:St->XK} {x:Str} {p pos:Pos} {e:Expr} {es:List Expr} {t:TA}
def aQ7 (sp:Sp) (Es:St->XK) (t:TA):TE:=λσ H Q=>t σ H λvs H1=>sp vs H1 Q (Es σ)
def bZ6 (F:FnOk X.prog X.w X.K X.mg X.base CX k f fd ps sp) (hr:Room k X.A) (hg:Gl X x) (hm:X.mg x=some (.ref f)) (hk:W.keepIn X.K (.ref f)=true) (hb:Binds X.K fd ps []) (hx:uQ CX X Es) (ha:PA X (e::es) t)
   (hdb:(x == ("__debug__" : Str))=false:=by decide) (he:starEach (e::es) X.env=(false,eval e X.env)::starEach es X.env:=by rfl) (hpl:(backTo pos (starEach es X.env)).any (·.1)=false:=by rfl) :
   PE X (.Call (.Name x p) (e::es) [] pos) (aQ7 sp Es t):=by
 intro pins s σ H Q I h;refine Dp (gR I hg hm ?_ hdb);refine Fi (h₀:=X.base) I.ok.mod.kin hk (thn (ha pos pins s σ H _ I h) λus s1 ⟨vs,H1,I1,r,q⟩=>⟨I1.kIn,?_⟩) he hpl;have hl:us.length=ps.length:=by rw [<-r.length]; exact F.len _ _ _ _ q
 have hb1:=hb s1 us I1.kIn (by rw [Bi]; exact hl)
 rw [Bi] at hb1;refine Gc (Et (F.run X.A X.stack s1 H1 ⟨us,[]⟩ us vs Q (Es σ) hr I1.env0 hb1 r q) λrs s' hq=>?_);cases rs with
 | error e=>exact hx pins σ H1 s1 e s' I1 hq
 | ok fl=>
   cases fl with
   | ret u=>exact I1.after hq
   | next=>exact False.elim hq
   | brk=>exact False.elim hq
   | cont=>exact False.elim hq
end
def eZP (K:W.Frag) (C:Addr) (i:Nat) (mk:(Value->Option Addr->St->Hp->Prop)->TS) (ts:TS):TS:=λD σ H=>
 mk (λcls d σ1 H1=>W.exmOne K cls (.ref C)=some true/\∀ ea,H1 ea=none->
   ts { nx:=λσ2 H2=>D.nx (σ2.set i none) H2,rt:=D.rt,bk:=λσ2 H2=>D.bk (σ2.set i none) H2,ct:=λσ2 H2=>D.ct (σ2.set i none) H2 } (σ1.set i (some (.ref ea))) (upd H1 ea (tX ea cls d))) D σ H
section
variable {X:Cx} {pins:Q2}
def SP.untr {xe:Q0} {D:Ends} {f:Flow} {s':Shared} (h:SP (X.tr pins xe) [] D f s'):SP X pins D f s':=by
 cases f with
 | next=>obtain ⟨σ',H',I,q⟩:=h; exact ⟨σ',H',I.untr,q⟩
 | brk=>obtain ⟨σ',H',I,q⟩:=h; exact ⟨σ',H',I.untr,q⟩
 | cont=>obtain ⟨σ',H',I,q⟩:=h; exact ⟨σ',H',I.untr,q⟩
 | ret u=>obtain ⟨v,σ',H',I,r,q⟩:=h; exact ⟨v,σ',H',I.untr,r,q⟩
def dZ5 {body suite:List Stmt} {b0:Stmt} {x n:Str} {np hp pos:Pos} {i:Nat} {C:Addr} {mk:(Value->Option Addr->St->Hp->Prop)->TS} {ts:TS} (hstk:X.stack=X.env::X.outer) (hfm:X.env.frame=some X.env.locals) (hex:X.ex=[])
   (hN:X.N.Nodup) (hi:X.N[i]?=some n) (hl:X.env.scope.names.lookup n=some .local) (hg:Gl X x) (hm:X.mg x=some (.ref C)) (hb:∀ pins R,PSs (X.tr pins (XS X pins R)) body (mk R)) (hs:∀ pins ea,PSs (X.hnd pins ea) (b0::suite) ts)
   (hd:(x == ("__debug__" : Str))=false:=by decide):PS X (.Try body [.ExceptHandler (some (.Name x np)) (some n) (b0::suite) hp] [] [] pos) (eZP X.K C i mk ts):=by
 intro pins s σ H D I h;have hfr:X.A.frames=some (X.env::X.outer):=by rw [<-hstk]; exact I.ok.frames
 have hcls:(X.env.scope.kind == .class || (X.env.scope.kind == .module && X.env.locals != X.env.globals))=false:=by rw [I.ok.kind]; rfl
 refine wpAny_Try_except (Ci (hb pins _ [] s σ H D (I.tr _) h) (λf s1 q=>?_) λe s1 q=>?_)
 . cases f with
   | next=>
     obtain ⟨σ',H',I',q⟩:=q.untr;exact bH pins s1 σ' H' D I' q
   | brk=>exact q.untr
   | cont=>exact q.untr
   | ret u=>exact q.untr
 . obtain ⟨ea,cls,d,B,σ1,H1,rfl,F,fre,hn,inv,hx,r⟩:=q;rw [hstk] at F;refine qY hfr hfm F λh2 F2 u2=>fV (s:={ s1 with heap:=h2 }) F2 λh3 F3 u3=>?_
   have I3:=inv h3 F3.stays (u2.trans u3)
   refine wpAny_handleBy_cons (codeAny_handlers_test (gR (I3.hnd ea) hg hm ?_ hd)) (by intro q; cases q)
   obtain ⟨oe,vs,T,oT,tts,he,hc,_⟩:=id F3.on;refine W.exm_one I3.kIn (hc.1 ▸ (W.Looks.ld he).andThen .now) hx _ _ _ _ (λ_ _ q=>q) ?_;refine codeAny_handlers_suite_as (fV (s:={ s1 with heap:=h3 }) F3 λh4 F4 u4=>?_)
   have I4:=(inv h4 F4.stays ((u2.trans u3).trans u4)).adopt (o:=tX ea cls d) fre hn F4.obj
   refine rM I4 hN hi (.inl hl) (v:=.ref ea) rfl (λs5 I5=>?_) (.inr hl);refine Ci (hs pins ea [] s5 _ _ _ (I5.hnd ea) (r ea hn)) (λf s6 q=>?_) λ_ _ z=>z.elim;have go:∀ {σ2:St} {H2:Hp} {Q:Unit->Shared->Prop} {E:Q0},Inv (X.hnd pins ea) [] σ2 H2 s6->(∀ s7,Inv X pins (σ2.set i none) H2 s7->Q () s7)->
       wpAny (model X.prog X.w) X.A (do bindName X.env n .none; unbindBehindTheSuite X.env n hp) Q E s6:=fun {σ2 H2 Q E} I6 k=>by
     have I6':=I6.unhnd I.ok
     obtain ⟨m,hm6,_⟩:=id I6'.loc;exact wpAny_nameGoes_keeps hl hm6 hcls λh7 v hn7 sb=>k _ (I6'.unname hN hi hm6 hl hn7 sb)
   cases f with
   | next=>
     obtain ⟨σ2,H2,I6,q⟩:=q;exact go I6 λs7 I7=>⟨_,H2,I7,q⟩
   | brk=>
     obtain ⟨σ2,H2,I6,q⟩:=q;exact go I6 λs7 I7=>⟨_,H2,I7,q⟩
   | cont=>
     obtain ⟨σ2,H2,I6,q⟩:=q;exact go I6 λs7 I7=>⟨_,H2,I7,q⟩
   | ret u=>
     obtain ⟨v,σ2,H2,I6,rv,q⟩:=q;exact go I6 λs7 I7=>⟨v,_,H2,I7,rv,q⟩
def SP.unhnd {ea:Addr} {D:Ends} {f:Flow} {s':Shared} (ok:X.Ok) (h:SP (X.hnd pins ea) [] D f s'):SP X pins D f s':=by
 cases f with
 | next=>obtain ⟨σ',H',I,q⟩:=h; exact ⟨σ',H',I.unhnd ok,q⟩
 | brk=>obtain ⟨σ',H',I,q⟩:=h; exact ⟨σ',H',I.unhnd ok,q⟩
 | cont=>obtain ⟨σ',H',I,q⟩:=h; exact ⟨σ',H',I.unhnd ok,q⟩
 | ret u=>obtain ⟨v,σ',H',I,r,q⟩:=h; exact ⟨v,σ',H',I.unhnd ok,r,q⟩
def dQ4 (K:W.Frag) (C:Addr) (mk:(Value->Option Addr->St->Hp->Prop)->TS) (ts:TS):TS:=λD σ H=>mk (λcls d σ1 H1=>W.exmOne K cls (.ref C)=some true/\ts D σ1 H1) D σ H
def cZO {body suite:List Stmt} {b0:Stmt} {x:Str} {np hp pos:Pos} {C:Addr} {mk:(Value->Option Addr->St->Hp->Prop)->TS} {ts:TS} (hstk:X.stack=X.env::X.outer) (hfm:X.env.frame=some X.env.locals) (hex:X.ex=[])
   (hg:Gl X x) (hm:X.mg x=some (.ref C)) (hb:∀ pins R,PSs (X.tr pins (XS X pins R)) body (mk R)) (hs:∀ pins ea,PSs (X.hnd pins ea) (b0::suite) ts)
   (hd:(x == ("__debug__" : Str))=false:=by decide):PS X (.Try body [.ExceptHandler (some (.Name x np)) none (b0::suite) hp] [] [] pos) (dQ4 X.K C mk ts):=by
 intro pins s σ H D I h;have hfr:X.A.frames=some (X.env::X.outer):=by rw [<-hstk]; exact I.ok.frames
 refine wpAny_Try_except (Ci (hb pins _ [] s σ H D (I.tr _) h) (λf s1 q=>?_) λe s1 q=>?_)
 . cases f with
   | next=>
     obtain ⟨σ',H',I',q⟩:=q.untr;exact bH pins s1 σ' H' D I' q
   | brk=>exact q.untr
   | cont=>exact q.untr
   | ret u=>exact q.untr
 . obtain ⟨ea,cls,d,B,σ1,H1,rfl,F,fre,hn,inv,hx,r⟩:=q;rw [hstk] at F;refine qY hfr hfm F λh2 F2 u2=>fV (s:={ s1 with heap:=h2 }) F2 λh3 F3 u3=>?_
   have I3:=inv h3 F3.stays (u2.trans u3)
   refine wpAny_handleBy_cons (codeAny_handlers_test (gR (I3.hnd ea) hg hm ?_ hd)) (by intro q; cases q)
   obtain ⟨oe,vs,T,oT,tts,he,hc,_⟩:=id F3.on;refine W.exm_one I3.kIn (hc.1 ▸ (W.Looks.ld he).andThen .now) hx _ _ _ _ (λ_ _ q=>q) ?_;refine codeAny_handlers_suite (fV (s:={ s1 with heap:=h3 }) F3 λh4 F4 u4=>?_)
   have I4:=inv h4 F4.stays ((u2.trans u3).trans u4)
   exact Ci (hs pins ea [] _ _ _ _ (I4.hnd ea) r) (λf s6 q=>q.unhnd I.ok) λ_ _ z=>z.elim
def dJV {K:W.Frag} {C:Addr} {mk:(Value->Option Addr->St->Hp->Prop)->TS} {ts:TS} {D:Ends} {σ:St} {H:Hp} (h:mk (λcls d σ1 H1=>W.exmOne K cls (.ref C)=some true/\ts D σ1 H1) D σ H):dQ4 K C mk ts D σ H:=h
end
end L2
namespace L2
open PySem PySem.Spec PyProof.Rows PySem.W
structure ExK (K:Frag) (D:Addr):Prop where
 cls:hasDictIn K D=true
 ga:findIn K (.ref D) "__getattribute__"=some (some (.builtin "BaseException.__getattribute__"))
 gh:findIn K (.ref D) "__getattr__"=some none
 ca:findIn K (.ref D) "__class__"=some (some (.builtin "object.__class__"))
 cg:specialIn K (.builtin "object.__class__") "__get__"=some (some (.builtin "getset_descriptor.__get__"))
 ct:takesIn K (.builtin "object.__class__")=some true
 mo:mroIn K D (.type "object")=some true
 mb:W.subIn K (.ref D) (.type "BaseException")=some true
section
variable {A:Around} {E:Q0} {s:Shared} {K:Frag} {x D:Addr} {ox:Obj} {od:Option Obj}
def bQW {M:Model} {nm:Value} {Q:Unit->Shared->Prop} (Z:ExK K D) (X:K.In s.heap) (I:InstAt s.heap x ox D od) (hq:Q () s):wpAny M A (checkBuiltinCall "BaseException.__getattribute__" ⟨[.ref x,nm],[]⟩) Q E s:=by
 have hk:builtinKind "BaseException.__getattribute__"=some .slot:=by decide +kernel
 have hs:splitId "BaseException.__getattribute__"=some ("BaseException", "__getattribute__"):=by decide +kernel
 have L0:=I.type (M:=M)
 have L1:=looks_subIn (M:=M) X Z.mb
 have ha:=F.args_bexc_ga (.ref x) nm
 simp only [checkBuiltinCall,hk,hs];refine Ae ((L0.andThen L1).at ?_);rw [if_neg (show ¬ ((!true)=true) by decide)]
 exact wpAny_of_eq ha hq
end
section
variable {H:Hp} {Q:VK} {D:Addr}
def cX1 {C:Addr} {E:XK} {ta:TA} {D:Ends} {σ:St} (h:ta σ H λvs H1=>vs.length<=sizeLine/\E (.ref C) none H1):cQX C E ta D σ H:=h
def cJQ {sp:Sp} {Es:St->XK} {t:TA} {σ:St} (h:t σ H λvs H1=>sp vs H1 Q (Es σ)):aQ7 sp Es t σ H Q:=h
end
def kH (P:Program) (w:World) (K:W.Frag) (mg:Str->Option Value) (base:Heap) (k:Nat) (x:Str) (ps:List Str) (sp:Sp):Prop :=
 ∃ (f:Addr) (fd:FuncData),FnOk P w K mg base (CXr P w) k f fd ps sp/\mg x=some (.ref f)/\W.keepIn K (.ref f)=true/\Binds K fd ps []
section
variable {X:Cx} {k k':Nat} {ps:List Str} {sp:Sp} {x:Str} {p pos:Pos} {e:Expr} {es:List Expr} {t:TA} {E:XK} {Es:St->XK}
def dM (c:kH X.prog X.w X.K X.mg X.base k x ps sp) (hx:jQ (CXr X.prog X.w) X E) (hr:Room k' X.A) (hk:k<=k') (hg:Gl X x)
   (ha:PA X (e::es) t) (hdb:(x == ("__debug__" : Str))=false:=by decide) (he:starEach (e::es) X.env=(false,eval e X.env)::starEach es X.env:=by rfl) (hpl:(backTo pos (starEach es X.env)).any (·.1)=false:=by rfl) :
   PE X (.Call (.Name x p) (e::es) [] pos) (aZB sp [] E t):=by
 obtain ⟨f,fd,F,hm,hk',hb⟩:=c;exact aZO F (hr.mono hk) hg hm hk' hb .nil hx ha hdb he hpl
def cZ3 (c:kH X.prog X.w X.K X.mg X.base k x ps sp) (hx:uQ (CXr X.prog X.w) X Es) (hr:Room k' X.A) (hk:k<=k') (hg:Gl X x)
   (ha:PA X (e::es) t) (hdb:(x == ("__debug__" : Str))=false:=by decide) (he:starEach (e::es) X.env=(false,eval e X.env)::starEach es X.env:=by rfl) (hpl:(backTo pos (starEach es X.env)).any (·.1)=false:=by rfl) :
   PE X (.Call (.Name x p) (e::es) [] pos) (aQ7 sp Es t):=by
 obtain ⟨f,fd,F,hm,hk',hb⟩:=c;exact bZ6 F (hr.mono hk) hg hm hk' hb hx ha hdb he hpl
def uF:jQ (CXr X.prog X.w) X E0:=λ_ _ _ _ _ _ _ h=>by
 obtain ⟨_,_,_,_,_,_,_,_,_,_,_,z⟩:=h;exact z.elim
def PS.nox {st:Stmt} {t:TS} (h:PS X.nox st t):PS X st t:=λpins s σ H D I hw=>
 Ci (h pins s σ H D (I.wish _) hw) (λ_ _ q=>q.unwish) λ_ _ z=>False.elim z
end
section
variable {P:Program} {w:World} {K:W.Frag} {mg:Q4} {base:Heap}
def Fun.okX {x qual:Str} {st:Stmt} {f:Addr} {fd:FuncData} {N ps:List Str} {k:Nat} {sp:Sp} (F:Fun K x qual st f fd) (S:FnScope N ps (aF st)) (len:∀ vs H Q E,sp vs H Q E->vs.length=ps.length)
   (hbody:∀ (cdv:Value) (A:Around) (outer:List Env) (s:Shared) (H:Hp) (vs:List V) (Q:VK) (E:XK),Room k (A.deeper (envOfC qual (aF st) s.heap.objs.size f cdv))->sp vs H Q E->
     ∃ t,PSs (iH (CXr P w) P w K mg base N qual (aF st) f cdv A outer s H E) (aM st) t/\t { nx:=λ_ H'=>Q .non H',rt:=Q } (nV N vs) H):FnOk P w K mg base (CXr P w) (k+1) f fd ps sp:=by
 obtain ⟨oc,od,kV,doc,pm,an,cdv,ct,osl,rfl,lk,hcd⟩:=F.ex;exact dXN lk hcd S len λA outer s H vs Q E hr hsp=>hbody cdv A outer s H vs Q E hr hsp
end
def eQU {K:W.Frag} {C:Addr} {i:Nat} {mk:(Value->Option Addr->St->Hp->Prop)->TS} {ts:TS} {D:Ends} {σ:St} {H:Hp}
   (h:mk (λcls d σ1 H1=>W.exmOne K cls (.ref C)=some true/\∀ ea,H1 ea=none->ts { nx:=λσ2 H2=>D.nx (σ2.set i none) H2,rt:=D.rt,bk:=λσ2 H2=>D.bk (σ2.set i none) H2,ct:=λσ2 H2=>D.ct (σ2.set i none) H2 } (σ1.set i (some (.ref ea))) (upd H1 ea (tX ea cls d))) D σ H):eZP K C i mk ts D σ H:=h
end L2
namespace L2
open PySem PySem.Spec PyProof.Rows
def Itz (K:W.Frag) (a b:Addr):It :=
 ⟨λi H=>∃ xs ys x y,SqL K H a xs/\SqL K H b ys/\xs[i]?=some x/\ys[i]?=some y,λi H v H'=>∃ p x y,H p=none/\v=.ref p/\H'=upd H p (.tup [x,y])/\(∀ xs,SqL K H a xs->xs[i]?=some x)/\(∀ ys,SqL K H b ys->ys[i]?=some y),
   λi H=>∃ xs ys,SqL K H a xs/\SqL K H b ys/\(xs.length<=i\/ys.length<=i)⟩
structure ZipOf (z TI TO i1 i2:Addr):Prop where
 d1:TI≠z
 d2:TO≠z
 d3:i1≠z
 d4:i2≠z
 d5:TI≠TO
 d6:TI≠i1
 d7:TI≠i2
 d8:TO≠i1
 d9:TO≠i2
 d0:i1≠i2
def kP {h:Heap} {a b:Addr} {o u:Obj} (ha:h.get? a=some o) (hb:h.get? b=some u) {S T:String} (hs:o.cls=.type S) (ht:u.cls=.type T) (n:S≠T):a≠b:=λz=>by
 subst z;rw [ha] at hb; cases hb;rw [hs] at ht; injection ht with ht; exact n ht
def tZ {h:Heap} {z TI TO i1 i2 a b:Addr} {f0 p q:Value} {k1 k2:Nat} {xs ys:Array Value} (D:ZipOf z TI TO i1 i2) (hz:IsZip h z TI TO f0) (hO:IsPair h TO p q) (h1:h.IsListIter i1 a k1) (h2:h.IsListIter i2 b k2) (ha:h.IsList a xs) (hb:h.IsList b ys):ZipApart z TI TO i1 i2 a b:=by
 obtain ⟨o1,g1,c1,_⟩:=h1;obtain ⟨o2,g2,c2,_⟩:=h2;obtain ⟨oa,ga,ca,_⟩:=ha;obtain ⟨ob,gb,cb,_⟩:=hb;exact ⟨D.d1,D.d2,D.d3,D.d4,D.d5,D.d6,D.d7,D.d8,D.d9,D.d0,kP ga hz ca rfl (by decide),kP ga hO ca rfl (by decide),kP ga g1 ca c1 (by decide),kP ga g2 ca c2 (by decide),kP gb hz cb rfl (by decide),kP gb hO cb rfl (by decide),kP gb g1 cb c1 (by decide),kP gb g2 cb c2 (by decide)⟩
def bJ5 {P:Program} {w:World} {K:W.Frag} {elts:List Expr} {x1:Nat} {tp:Pos} (a b z TI TO i1 i2:Addr) (D:ZipOf z TI TO i1 i2) :
   Turn P w K (.Tuple elts x1 tp) (Itz K a b) [z,TI,TO,i1,i2] z (λi h=>IsZip h z TI TO .none/\IsPair h TI (.ref i1) (.ref i2)/\(∃ p q,IsPair h TO p q)/\h.IsListIter i1 a i/\h.IsListIter i2 b i) where
 mem:=by simp
 obj:=λi h st c hc=>by
   obtain ⟨hz,hI,⟨p,q,hO⟩,⟨o1,g1,_,e1⟩,o2,g2,_,e2⟩:=st;simp only [List.mem_cons,List.not_mem_nil,or_false] at hc;rcases hc with z | z | z | z | z <;> subst z
   . exact ⟨_,hz,λv z=>by cases z⟩
   . exact ⟨_,hI,λv z=>by cases z⟩
   . exact ⟨_,hO,λv z=>by cases z⟩
   . exact ⟨o1,g1,λv z=>by rw [e1] at z; cases z⟩
   . exact ⟨o2,g2,λv z=>by rw [e2] at z; cases z⟩
 keep:=λi h h' st kk=>by
   obtain ⟨hz,hI,⟨p,q,hO⟩,g1,g2⟩:=st;exact ⟨kk z (by simp) _ hz,kk TI (by simp) _ hI,⟨p,q,kk TO (by simp) _ hO⟩,g1.at λo e=>kk i1 (by simp) o e,g2.at λo e=>kk i2 (by simp) o e⟩
 item:=by
   intro X hP hw hK hc i pins s σ H E I hf st hg;subst hP hw hK;obtain ⟨xs,ys,x,y,qa,qb,hx,hy⟩:=hg;obtain ⟨us,ra,pa,_⟩:=I.list qa;obtain ⟨vs,rb,pb,_⟩:=I.list qb;obtain ⟨u,hu,ru⟩:=ra.get hx;obtain ⟨v,hv,rv⟩:=rb.get hy;obtain ⟨hz,hI,⟨p,q,hO⟩,g1,g2⟩:=st;have D2:=tZ D hz hO g1 g2 pa.isList pb.isList
   have fr:∀ c o,s.heap.get? c=some o->s.heap.objs.size≠c:=λc o e=>Gg (Av e)
   refine wpAny_pyNext_zip_item D2 hz hI hO g1 g2 pa.isList pb.isList (x:=u) (y:=v) (by simpa using hu) (by simpa using hv) λh1 a1 a2 a3 a4 a5 a6 kk=>?_
   refine ⟨_,rfl,wpAny_letOwnedTupleGo_zip a1 λh2 z2 sb=>?_⟩;have up:∀ c o,c≠z->h1.get? c=some o->h2.get? c=some o:=λc o n e=>(sb.2 c n).trans e
   have I2:Inv X pins σ (upd H s.heap.objs.size (.tup [x,y])) { s with heap:=h2 }:=by
     refine I.turnLaid (t':=s.toks) (ch:=[z,TI,TO,i1,i2]) hf (λc o n e=>?_) (Ah _) ⟨bN (by show 2<=_; omega),[u,v],.cons ru (.cons rv .nil),_,up _ _ (fr z _ hz) a5,rfl,_,rfl⟩
     simp only [List.mem_cons,List.not_mem_nil,or_false,not_or] at n;exact up c o n.1 (kk c o n.1 n.2.2.1 n.2.2.2.1 n.2.2.2.2 e)
   refine ⟨.ref s.heap.objs.size,_,I2,rfl,⟨_,x,y,I.hok.fresh (Ah _),rfl,rfl,λzs hq=>by rw [I.list_inj hq qa]; exact hx,λzs hq=>by rw [I.list_inj hq qb]; exact hy⟩,
     ⟨z2,up _ _ D.d1 (kk _ _ D.d1 D.d5 D.d6 D.d7 hI),⟨_,_,up _ _ D.d2 a2⟩,a3.at λo e=>up _ o D.d3 e,a4.at λo e=>up _ o D.d4 e⟩,λc hc=>?_⟩
   have hn:=(hf c hc).1
   rw [aH]
   . exact hn
   . obtain ⟨o1,e1,_⟩:=g1;obtain ⟨o2,e2,_⟩:=g2;simp only [List.mem_cons,List.not_mem_nil,or_false] at hc;rcases hc with z | z | z | z | z <;> subst z
     . exact (fr _ _ hz).symm
     . exact (fr _ _ hI).symm
     . exact (fr _ _ hO).symm
     . exact (fr _ _ e1).symm
     . exact (fr _ _ e2).symm
 done:=by
   intro X hP hw hK hc i pins s σ H E I hf st hg;subst hP hw hK;obtain ⟨xs,ys,qa,qb,hl⟩:=hg;obtain ⟨us,ra,pa,_⟩:=I.list qa;obtain ⟨vs,rb,pb,_⟩:=I.list qb;have e1:=ra.length
   have e2:=rb.length
   obtain ⟨hz,hI,⟨p,q,hO⟩,g1,g2⟩:=st;refine wpAny_pyNext_zip_end (I.ok.hd hc) (tZ D hz hO g1 g2 pa.isList pb.isList) hz hI hO g1 g2 pa.isList pb.isList ?_ λh' kk=>⟨rfl,?_⟩
   . rcases hl with z | z
     . exact .inl (by simp; omega)
     . exact .inr (by simp; omega)
   . refine I.turnAll (t':=s.toks) (ch:=[z,TI,TO,i1,i2]) hf λc o n e=>?_;simp only [List.mem_cons,List.not_mem_nil,or_false,not_or] at n;exact kk c o n.1 n.2.2.1 n.2.2.2.1 n.2.2.2.2 e
 self:=λ_ _ _ _ _ st h=>wpAny_pyIter_zip st.1 h
def bX0:bootBuiltins "zip"=some (.type "zip"):=by decide +kernel
section
variable {X:Cx} {l1 l2:Expr} {ta:TA} {elts:List Expr} {x1:Nat} {tp p pos:Pos}
def bX3 (R:Addr->Addr->Hp->Prop):List V->Hp->Prop:=λvs H=>match vs with | [.ref i,.ref j]=>R i j H | _=>False
def cJO {R:Addr->Addr->Hp->Prop} {vs:List V} {H:Hp} (q:bX3 R vs H):∃ i j,vs=[.ref i,.ref j]/\R i j H:=by
 unfold bX3 at q;split at q
 . exact ⟨_,_,rfl,q⟩
 . exact q.elim
def eXZ (K:W.Frag) (ta:TA):TI:=λσ H R=>ta σ H (bX3 λa b H1=>onL (rdL H1 a) (onL (rdL H1 b) (R (Itz K a b) H1)))
def bJO (hg:Gl X "zip") (hm:X.mg "zip"=none) (ha:PA X [l1,l2] ta) (hs:starEach [l1,l2] X.env=[(false,eval l1 X.env),(false,eval l2 X.env)]:=by rfl) (hs2:starEach [l2] X.env=[(false,eval l2 X.env)]:=by rfl) :
   PI X (.Tuple elts x1 tp) (.Call (.Name "zip" p) [l1,l2] [] pos) (eXZ X.K ta):=by
 intro pins s σ H R I h;refine Call_ (kC I hg hm bX0 (Ds (thn (ha pos pins s σ H _ I h) λus s1 ⟨vs,H1,I1,r1,q1⟩=>?_) (by rw [hs,hs2]) (by rw [hs2]; rfl)))
 obtain ⟨a,b,rfl,q⟩:=cJO q1;obtain ⟨u,u2,rfl,ru,ru2⟩:=cQJ r1;cases ru;cases ru2;unfold onL at q;split at q
 . rename_i xs ex
   split at q
   . rename_i ys ey
     obtain ⟨us,ra,pa,_⟩:=I1.list (bB ex);obtain ⟨vs,rb,pb,_⟩:=I1.list (bB ey);refine call_zip_2 pa.isList pb.isList λh' hz hI hO g1 g2 hsz hk=>?_;refine wpAny_pyIter_zip (s:={ s1 with heap:=h' }) hz ⟨_,[s1.heap.objs.size+4,s1.heap.objs.size+2,s1.heap.objs.size+3,s1.heap.objs.size,s1.heap.objs.size+1],_,_,H1,rfl,I1.kept (t':=s1.toks) hk,
       bJ5 a b _ _ _ _ _ ⟨by simp,by simp,by simp,by simp,by simp,by simp,by simp,by simp,by simp,by simp⟩,⟨hz,hI,⟨_,_,hO⟩,g1,g2⟩,λc hc=>?_,q⟩
     have z:s1.heap.objs.size<=c:=by
       simp only [List.mem_cons,List.not_mem_nil,or_false] at hc;rcases hc with z | z | z | z | z <;> (rw [z]; first | exact Ah _ | exact Ff _ _)
     exact I1.fpOk z (I1.hok.fresh z)
   . exact q.elim
 . exact q.elim
end
section
variable {K:W.Frag} {a b:Addr} {xs ys:List V} {g:TG} {tb:TS} {D:Ends} {σ:St} {H:Hp}
def cXQ (Pv:Nat->St->Hp->Prop) (h0:Pv 0 σ H) (hl:∀ i σ H,i<=xs.length->i<=ys.length->Pv i σ H->rdL H a=some xs/\rdL H b=some ys)
   (hs:∀ i x y σ H p,xs[i]?=some x->ys[i]?=some y->Pv i σ H->H p=none->g (.ref p) σ (upd H p (.tup [x,y])) λσ2 H2=>tb { D with nx:=Pv (i+1),ct:=Pv (i+1),bk:=D.nx } σ2 H2)
   (hd:∀ σ H,Pv (min xs.length ys.length) σ H->D.nx σ H):zW (Itz K a b) g tb D σ H:=by
 refine ⟨λi m σ H=>m=min xs.length ys.length - i/\i<=min xs.length ys.length/\Pv i σ H,⟨min xs.length ys.length,by simp,Nat.zero_le _,h0⟩,?_⟩
 rintro i m σ H ⟨rfl,hi,p⟩;obtain ⟨hr1,hr2⟩:=hl i σ H (by omega) (by omega) p
 by_cases hlt:i<min xs.length ys.length
 . refine .inr ⟨⟨xs,ys,xs[i]'(by omega),ys[i]'(by omega),bB hr1,bB hr2,Aa _,Aa _⟩,Pv (i+1),λσ' H' p'=>⟨min xs.length ys.length - (i+1),by omega,rfl,hlt,p'⟩,λx H' y=>?_⟩
   obtain ⟨q,x1,y1,hq,rfl,rfl,hx,hy⟩:=y;exact hs i x1 y1 σ H q (hx xs (bB hr1)) (hy ys (bB hr2)) p hq
 . have e:i=min xs.length ys.length:=by omega
   subst e;exact .inl ⟨⟨xs,ys,bB hr1,bB hr2,by omega⟩,hd σ H p⟩
def dJG {ta:TA} {R:It->Hp->Prop} (h:ta σ H (bX3 λa b H1=>onL (rdL H1 a) (onL (rdL H1 b) (R (Itz K a b) H1)))):eXZ K ta σ H R:=h
def dX5 {R:Addr->Addr->Hp->Prop} (h:R a b H):bX3 R [.ref a,.ref b] H:=h
end
end L2
namespace L2
open PySem PySem.Spec PyProof.Rows
section
variable {X:Cx} {o:Expr} {to:TE} {name:Str} {apos cpos:Pos} {T id:String} {r:V->List V->Hp->VK->Prop}
def cXJ (T:String) (r:V->List V->Hp->VK->Prop) (to:TE):TE:=λσ H Q=>to σ H λx H1=>wB T x H1 (r x [] H1 Q)
def cXK (pa:PlainAttrs T) (slot:Slot T name id) (hty:typeOf (.builtin id)=pure (.type "method_descriptor")) (hm:MtR X id r) (ho:PE X o to)
   (hbase:attributeBase o name X.env (eval o X.env)=eval o X.env:=by rfl) (hline:(apos.endLine == cpos.line)=true:=by rfl):PE X (.Call (.Attribute o name apos) [] [] cpos) (cXJ T r to):=by
 intro pins s σ H Q I h;refine wpAny_Call_method0_late hbase hline (thn (ho pins s σ H _ I h) λv s1 ⟨x,H1,I1,r1,q⟩=>?_);obtain ⟨ty,q1⟩:=xY (K:=X.K) q;obtain ⟨h1,h2⟩:=bXX I1 r1 ty;exact ⟨T,id,pa,slot,hty,h1,h2,Fj rfl (PySem.evalArgs_none (hm pins s1 σ H1 x [] v [] Q I1 r1 .nil q1))⟩
def cJI:V->List V->Hp->VK->Prop:=λx vs H Q=>match x,vs with
 | .ref l,[.ref b]=>(match gI H l,gI H b with | some xs,some zs=>xs.length+zs.length<=sizeLine/\Q .non (upd H l (.lst (xs++zs))) | _,_=>False)
 | _,_=>False
def yM:MtR X "list.extend" cJI:=MtR.imp (r:=aZI) bQV λ_ _ _ _ q=>by
 unfold cJI at q;split at q
 . split at q
   . exact ⟨_,_,_,_,rfl,rfl,jW (by assumption),jW (by assumption),q.1,q.2⟩
   . exact q.elim
 . exact q.elim
def fQB:V->List V->Hp->VK->Prop:=λx vs H Q=>match x,vs with
 | .ref l,[]=>(match gI H l with | some xs=>(match xs[xs.length - 1]? with | some y=>Q y (upd H l (.lst xs.dropLast)) | none=>False) | none=>False)
 | .ref l,[.int i]=>(match gI H l with | some xs=>(-(2 ^ 63)<=i/\i<2 ^ 63)/\(match seqIndex? i xs.length with | some k=>(match xs[k]? with | some y=>Q y (upd H l (.lst (xs.eraseIdx k))) | none=>False) | none=>False) | none=>False)
 | _,_=>False
def fQA:V->List V->Hp->VK->Prop:=λx vs H Q=>match x,vs with
 | .ref l,[]=>(match gI H l with | some xs=>Q .non (upd H l (.lst xs.reverse)) | none=>False)
 | _,_=>False
def xJ:V->List V->Hp->VK->Prop:=λx vs H Q=>match x,vs with
 | .ref l,[]=>(match gI H l with | some _=>Q .non (upd H l (.lst [])) | none=>False)
 | _,_=>False
def cJN:MtR X "list.clear" xJ:=MtR.imp (r:=bXW) cQW λ_ _ _ _ q=>by
 unfold xJ at q;split at q
 . split at q
   . exact ⟨_,_,rfl,rfl,jW (by assumption),q⟩
   . exact q.elim
 . exact q.elim
end
section
variable {σ:St} {H:Hp} {Q:VK} {l b:Addr} {xs zs:List V} {to:TE} {T:String} {r:V->List V->Hp->VK->Prop}
def cZ2 (h:to σ H λx H1=>wB T x H1 (r x [] H1 Q)):cXJ T r to σ H Q:=h
def dQ8 (e:gI H l=some xs) (e':gI H b=some zs) (c:xs.length+zs.length<=sizeLine) (h:Q .non (upd H l (.lst (xs++zs)))):cJI (.ref l) [.ref b] H Q:=by unfold cJI; simp only [e,e']; exact ⟨c,h⟩
def cJR (e:gI H l=some xs) (h:Q .non (upd H l (.lst []))):xJ (.ref l) [] H Q:=by unfold xJ; simp only [e]; exact h
end
end L2
namespace L2
open PySem PySem.Spec PyProof.Rows
def aZ8 {H:Hp} {p:Addr} {xs:List V} (h:H p=some (.lst xs)):tyN (.ref p) H=some "list" := by unfold tyN; simp only [h]
def vZ {t u:TS} {D:Ends} {σ:St} {H:Hp} (Pj:St->Hp->Prop) (hj:∀ σ' H',Pj σ' H'->u D σ' H') (h:∀ N:St->Hp->Prop,(∀ σ' H',Pj σ' H'->N σ' H')->t { D with nx:=N } σ H):dXW t u D σ H:=h (u D) hj
def none_of {H H':Hp} {r:Addr} (s:Same H H') (h:H' r=none):H r=none:=by
 cases e:H r with
 | none=>rfl
 | some o=>rw [s _ _ e] at h; cases h
def bI {H H':Hp} {p:Addr} {o:HO} (hp:H p=none) (s:Same H H'):Same H (upd H' p o):=λb u q=>by rw [aH (bF q hp)]; exact s b u q
section
variable {g:TG} {tests:TT} {te:TE} {σ0:St} {Q:VK} {H1:Hp}
def jX {J:It} {n:Nat} (R:Addr->Nat->List V->Hp->Prop) (hl:n<sizeLine) (h0:∀ D,H1 D=none->R D 0 [] (upd H1 D (.lst [])))
   (hgo:∀ D i ys Hc,H1 D=none->R D i ys Hc->i<n->J.go i Hc) (hst:∀ D ys Hc,H1 D=none->R D n ys Hc->J.stop n Hc)
   (hs:∀ D i ys Hc x H' (A:VK) (B:Hp->Prop),H1 D=none->i<n->R D i ys Hc->Hc D=some (.lst ys)->J.yld i Hc x H'->
     (∀ y H4,H4 D=some (.lst ys)->R D (i+1) (ys++[y]) (upd H4 D (.lst (ys++[y])))->A y H4)->(∀ H3,H3 D=some (.lst ys)->R D (i+1) ys H3->B H3)->
     g x σ0 H' λσ2 H2=>Wk σ0 σ2/\tests σ2 H2 λb H3=>if b=true then te σ2 H3 A else B H3)
   (fin:∀ D ys Hc,H1 D=none->R D n ys Hc->Hc D=some (.lst ys)->ys.length<=n->Q (.ref D) Hc):fA g tests te σ0 Q J H1:=by
 intro D hD;refine ⟨λi m Hc=>m=n - i/\i<=n/\∃ ys,ys.length<=i/\Hc D=some (.lst ys)/\R D i ys Hc,⟨n,by simp,Nat.zero_le _,[],Nat.le_refl _,aD,h0 D hD⟩,?_⟩
 rintro i m Hc ⟨rfl,hi,ys,hy,hDc,r⟩;by_cases hlt:i<n
 . refine .inr ⟨hgo D i ys Hc hD r hlt,λx H' y=>hs D i ys Hc x H' _ _ hD hlt r hDc y (λz H4 e r4=>?_) (λH3 e r3=>?_)⟩
   . exact ⟨ys,e,by omega,n - (i+1),by omega,rfl,hlt,ys++[z],by rw [Ag]; show ys.length+1<=_; omega,aD,r4⟩
   . exact ⟨n - (i+1),by omega,rfl,hlt,ys,by omega,e,r3⟩
 . have e:i=n:=by omega
   subst e;exact .inl ⟨hst D ys Hc hD r,fin D ys Hc hD r hDc hy⟩
def Tups (H1 Hc:Hp) (ps:List Addr) (fs:List (List V)):Prop:=ps.length=fs.length/\∀ (j:Nat) p t,ps[j]?=some p->fs[j]?=some t->H1 p=none/\Hc p=some (.tup t)
def Tups.keep {H1 Hc Hd:Hp} {ps:List Addr} {fs:List (List V)} (t:Tups H1 Hc ps fs) (s:Same Hc Hd):Tups H1 Hd ps fs:=⟨t.1,λj p u hp hu=>⟨(t.2 j p u hp hu).1,s _ _ (t.2 j p u hp hu).2⟩⟩
def Tups.older {H0 H1 Hc:Hp} {ps:List Addr} {fs:List (List V)} (t:Tups H1 Hc ps fs) (s:Same H0 H1):Tups H0 Hc ps fs:=⟨t.1,λj p u hp hu=>⟨none_of s (t.2 j p u hp hu).1,(t.2 j p u hp hu).2⟩⟩
def Tups.put {H1 Hc:Hp} {ps:List Addr} {fs:List (List V)} {D:Addr} {ys zs:List V} (t:Tups H1 Hc ps fs) (h:Hc D=some (.lst ys)):Tups H1 (upd Hc D (.lst zs)) ps fs:=⟨t.1,λj p u hp hu=>by
 obtain ⟨a,b⟩:=t.2 j p u hp hu;refine ⟨a,?_⟩;rw [aH λz=>by rw [z,h] at b; cases b]
 exact b⟩
def Tups.app {H1 Hc:Hp} {ps qs:List Addr} {fs gs:List (List V)} (t:Tups H1 Hc ps fs) (u:Tups H1 Hc qs gs):Tups H1 Hc (ps++qs) (fs++gs):=by
 refine ⟨by rw [Ag,Ag,t.1,u.1],λj p v hp hv=>?_⟩
 by_cases h:j<ps.length
 . rw [Aq h] at hp;rw [Aq (by rw [<-t.1]; exact h)] at hv
   exact t.2 j p v hp hv
 . rw [Ar (by omega)] at hp
   rw [Ar (by rw [<-t.1]; omega),<-t.1] at hv
   exact u.2 _ p v hp hv
def Tups.nil {H1 Hc:Hp}:Tups H1 Hc [] []:=⟨rfl,λj p u hp=>by cases hp⟩
def Tups.one {H1 Hc:Hp} {p:Addr} {t:List V} (a:H1 p=none) (b:Hc p=some (.tup t)):Tups H1 Hc [p] [t]:=⟨rfl,λj q u hq hu=>by
 cases j with
 | zero=>cases hq; cases hu; exact ⟨a,b⟩
 | succ j=>cases hq⟩
def bQZ {n:Nat} {lo:Int} (f:Nat->List V) (hl:n<sizeLine)
   (hs:∀ (i:Nat) Hc (A:VK) (B:Hp->Prop),i<n->Same H1 Hc->(∀ p Hd,Hc p=none->Same Hc Hd->Hd p=some (.tup (f i))->A (.ref p) Hd)->
     g (.int (lo+i)) σ0 Hc λσ2 H2=>Wk σ0 σ2/\tests σ2 H2 λb H3=>if b=true then te σ2 H3 A else B H3)
   (fin:∀ D Hd ps,H1 D=none->Same H1 Hd->Hd D=some (.lst (ps.map V.ref))->ps.length=n->Tups H1 Hd ps ((List.range n).map f)->Q (.ref D) Hd):fA g tests te σ0 Q (Itr lo n) H1:=by
 refine jX (n:=n) (λD i ys Hc=>Same H1 Hc/\∃ ps,ys=ps.map V.ref/\ps.length=i/\Tups H1 Hc ps ((List.range i).map f)) hl (λD hD=>⟨aG hD _,[],rfl,rfl,.nil⟩) (λD i ys Hc _ r h=>h) (λD ys Hc _ r=>Ah n) ?_ ?_
 . rintro D i ys Hc x H' A B hD hi ⟨sm,ps,rfl,hn,tp⟩ hDc ⟨rfl,rfl⟩ ha hb;refine hs i H' A B hi sm (λp Hd hp sd hd=>?_);refine ha _ _ (sd _ _ hDc) ⟨bI hD (sm.trans sd),ps++[p],by rw [Ao]; rfl,by rw [Ag,hn]; rfl,?_⟩
   rw [Bx,Ao];exact ((tp.keep sd).app (.one (none_of sm hp) hd)).put (sd _ _ hDc)
 . rintro D ys Hc hD ⟨sm,ps,rfl,hn,tp⟩ hDc _;exact fin D Hc ps hD sm hDc hn tp
end
end L2
namespace L2
open PySem PySem.Spec PyProof.Rows
section
end
section
end
def Alk (H:Hp):Nat->V->V->Prop
 | 0,x,y=>x=y/\bQ x=true
 | n+1,x,y=>(x=y/\bQ x=true)\/∃ p q xs ys,x=.ref p/\y=.ref q/\((rdL H p=some xs/\rdL H q=some ys)\/(nE H p=some xs/\nE H q=some ys))/\xs.length=ys.length/\∀ (j:Nat) x' y',xs[j]?=some x'->ys[j]?=some y'->Alk H n x' y'
def Alk.flat {H:Hp} {n:Nat} {x:V} (h:bQ x=true):Alk H n x x:=by
 cases n with
 | zero=>exact ⟨rfl,h⟩
 | succ n=>exact .inl ⟨rfl,h⟩
def Alk.lst {H:Hp} {n:Nat} {p q:Addr} {xs ys:List V} (hp:rdL H p=some xs) (hq:rdL H q=some ys) (hl:xs.length=ys.length) (h:∀ (j:Nat) x y,xs[j]?=some x->ys[j]?=some y->Alk H n x y):Alk H (n+1) (.ref p) (.ref q):=.inr ⟨p,q,xs,ys,rfl,rfl,.inl ⟨hp,hq⟩,hl,h⟩
def Alk.tup {H:Hp} {n:Nat} {p q:Addr} {xs ys:List V} (hp:nE H p=some xs) (hq:nE H q=some ys) (hl:xs.length=ys.length) (h:∀ (j:Nat) x y,xs[j]?=some x->ys[j]?=some y->Alk H n x y):Alk H (n+1) (.ref p) (.ref q):=.inr ⟨p,q,xs,ys,rfl,rfl,.inr ⟨hp,hq⟩,hl,h⟩
def Alk.flats {H:Hp} {n:Nat} {xs:List V} (f:xs.all bQ=true):∀ (j:Nat) x y,xs[j]?=some x->xs[j]?=some y->Alk H n x y:=λj x y hx hy=>by
 rw [hx] at hy;cases hy;exact .flat (Ck.mp f x (Al hx))
def Alk.tups {H H1 H2:Hp} {n:Nat} {ps qs:List Addr} {fs:List (List V)} (tp:Tups H1 H ps fs) (tq:Tups H2 H qs fs) (f:∀ t∈fs,t.all bQ=true):∀ (j:Nat) x y,(ps.map V.ref)[j]?=some x->(qs.map V.ref)[j]?=some y->Alk H (n+1) x y:=λj x y hx hy=>by
 rw [Af] at hx hy;cases ep:ps[j]? with
 | none=>rw [ep] at hx; cases hx
 | some p=>
   cases eq:qs[j]? with
   | none=>rw [eq] at hy; cases hy
   | some q=>
     rw [ep] at hx;rw [eq] at hy;cases hx;cases hy;have hj:j<fs.length:=by rw [<-tp.1]; exact (Ad.mp ep).1
     have a:=(tp.2 j p fs[j] ep (Aa hj)).2
     have b:=(tq.2 j q fs[j] eq (Aa hj)).2
     exact .tup (cU a) (cU b) rfl (.flats (f _ (Bq _)))
section
end
def Lsts (H1 Hc:Hp) (ps:List Addr) (fs:List (List V)):Prop:=ps.length=fs.length/\∀ (j:Nat) p t,ps[j]?=some p->fs[j]?=some t->H1 p=none/\Hc p=some (.lst t)
def Lsts.keep {H1 Hc Hd:Hp} {ps:List Addr} {fs:List (List V)} (t:Lsts H1 Hc ps fs) (s:Same Hc Hd):Lsts H1 Hd ps fs:=⟨t.1,λj p u hp hu=>⟨(t.2 j p u hp hu).1,s _ _ (t.2 j p u hp hu).2⟩⟩
def Lsts.older {H0 H1 Hc:Hp} {ps:List Addr} {fs:List (List V)} (t:Lsts H1 Hc ps fs) (s:Same H0 H1):Lsts H0 Hc ps fs:=⟨t.1,λj p u hp hu=>⟨none_of s (t.2 j p u hp hu).1,(t.2 j p u hp hu).2⟩⟩
def Lsts.put {H1 Hc:Hp} {ps:List Addr} {fs:List (List V)} {D:Addr} {o:HO} (t:Lsts H1 Hc ps fs) (h:∀ p∈ps,p≠D):Lsts H1 (upd Hc D o) ps fs:=⟨t.1,λj p u hp hu=>by
 obtain ⟨a,b⟩:=t.2 j p u hp hu;refine ⟨a,?_⟩;rw [aH (h p (Al hp))];exact b⟩
def Lsts.snoc {H1 Hc:Hp} {ps:List Addr} {fs:List (List V)} {q:Addr} {g:List V} (t:Lsts H1 Hc ps fs) (a:H1 q=none) (b:Hc q=some (.lst g)):Lsts H1 Hc (ps++[q]) (fs++[g]):=by
 refine ⟨by rw [Ag,Ag,t.1]; rfl,λj p v hp hv=>?_⟩
 by_cases h:j<ps.length
 . rw [Aq h] at hp;rw [Aq (by rw [<-t.1]; exact h)] at hv
   exact t.2 j p v hp hv
 . rw [Ar (by omega)] at hp
   rw [Ar (by rw [<-t.1]; omega),<-t.1] at hv
   cases e:j - ps.length with
   | zero=>rw [e] at hp hv; cases hp; cases hv; exact ⟨a,b⟩
   | succ n=>rw [e] at hp; cases hp
def Lsts.nil {H1 Hc:Hp}:Lsts H1 Hc [] []:=⟨rfl,λj p u hp=>by cases hp⟩
def Lsts.mem {H1 Hc:Hp} {ps:List Addr} {fs:List (List V)} (t:Lsts H1 Hc ps fs) {p:Addr} (hp:p∈ps):∃ g∈fs,H1 p=none/\Hc p=some (.lst g):=by
 obtain ⟨j,hj⟩:=Fs.mp hp;have hl:j<fs.length:=by rw [<-t.1]; exact (Ad.mp hj).1
 exact ⟨fs[j],Bq _,t.2 j p _ hj (Aa hl)⟩
section
variable {X:Cx}
def lC (ns:List Int):∀ n,n<=ns.length->preSum (λi=>ns.getD i 0) n=(ns.take n).sum
 | 0,_=>by simp [preSum]
 | n+1,h=>by
   have ih:=lC ns n (by omega)
   have e:ns.take (n+1)=ns.take n++[ns.getD n 0]:=by rw [Bd,Ac,Aa (by omega)]; rfl
   rw [e,List.sum_append,<-ih];simp [preSum]
def bQ6 {ns:List Int} (h:∀ n∈ns,0<=n/\n<=1000000):0<=ns.sum/\ns.sum<=1000000 * (ns.length:Int):=by
 induction ns with
 | nil=>simp
 | cons n r ih=>
   obtain ⟨a,b⟩:=h n (Am ..);obtain ⟨c,d⟩:=ih λm hm=>h m (Ak _ hm);rw [Cj,Aw];constructor
   . omega
   . push_cast; omega
def dZR:List V->Hp->VK->Prop:=λxs H Q=>∃ (p:Addr) (ns:List Int),xs=[.ref p]/\rdL H p=some (ns.map V.int)/\(∀ n∈ns,0<=n/\n<=1000000)/\ns.length<=100000/\Q (.int ns.sum) H
def bXT (hc:X.calm=true):CallR X (.builtin "sum") dZR:=by
 intro pins s σ H xs us Q I r h;obtain ⟨p,ns,rfl,hp,hb,hn,q⟩:=h;obtain ⟨u,rfl,ru⟩:=gD r;cases ru;obtain ⟨its,rv,pl,hz⟩:=I.list (bB hp);have hl:=pl.isList
 have hlt:p<s.heap.objs.size:=by obtain ⟨_,e,_⟩:=hl; exact Av e
 have hle:its.length=ns.length:=by have:=rv.length; rw [Ab] at this; omega
 refine call_sum_walk (Fw hl ?_);refine ⟨s.heap.objs.size,[s.heap.objs.size,p],[s.heap.objs.size],its.toArray.size,_,_,λi=>ns.getD i 0,rfl,Walks.list (A:=X.A.in1) (I.ok.hd hc) _ p (Bo hlt) its.toArray,
   ⟨⟨_,Ba _ rfl,rfl,rfl⟩,hl.push _⟩,λb hb=>?_,λi v hv=>?_,λj hj=>?_,λh' tk t' hk=>?_⟩
 . rw [show ({ s with heap:=_ }:Shared).heap=_ from rfl]
   simp only [List.mem_cons,List.not_mem_nil,or_false] at hb;rcases hb with e | e
   . rw [e]; simp [Heap.push]
   . rw [e]; exact Nat.lt_of_lt_of_le hlt (by simp [Heap.push])
 . have hv':its[i]?=some v:=by simpa using hv
   have hi:i<ns.length:=by rw [<-hle]; exact (Ad.mp hv').1
   obtain ⟨u,hu,ru⟩:=rv.get (show (ns.map V.int)[i]?=some (.int ns[i]) by rw [Af,Aa hi]; rfl)
   rw [hv'] at hu;cases hu;obtain ⟨t,rfl⟩:=ru;exact ⟨t,by show Value.int ns[i] t=Value.int (ns.getD i 0) t; rw [Ac,Aa hi]; rfl⟩
 . have hj' : j < ns.length := by have : j < its.length := by simpa using hj
                                  omega
   have e:=lC ns (j+1) (by omega)
   obtain ⟨a1,a2⟩:=bQ6 (ns:=ns.take (j+1)) λm hm=>hb m (List.mem_of_mem_take hm);rw [Bt] at a2;have a3:ns.getD j 0∈ns:=by rw [Ac,Aa hj']; exact Bq _
   obtain ⟨b1,b2⟩:=hb _ a3;refine ⟨?_,?_⟩
   . show InLong (ns.getD j 0)
     unfold InLong;omega
   . rw [e];unfold InLong;omega
 . have e:preSum (λi=>ns.getD i 0) its.toArray.size=ns.sum:=by
     rw [Bb,hle,lC ns _ (Ah _),Bp]
   rw [e];exact ⟨.int ns.sum,H,I.kept (LSm.kept_iter hk),⟨_,rfl⟩,q⟩
def dQM {p:Addr} {ns:List Int} {H:Hp} {Q:VK} (e:rdL H p=some (ns.map V.int)) (hb:∀ n∈ns,0<=n/\n<=1000000) (hl:ns.length<=100000) (h:Q (.int ns.sum) H):dZR [.ref p] H Q:=⟨p,ns,rfl,e,hb,hl,h⟩
end
end L2
namespace L2
open PySem PySem.Spec PyProof.Rows
section
variable {κ:Type} [DecidableEq κ]
def bW (kvs:List (κ×V)) (k:κ):Option V:=(kvs.find? λkv=>decide (kv.1=k)).map (·.2)
def eP (kvs:List (κ×V)) (k:κ) (v:V):List (κ×V) :=
 if (kvs.any λkv=>decide (kv.1=k))=true then kvs.map (λkv=>if kv.1=k then (kv.1,v) else kv) else kvs++[(k,v)]
def dQP (kvs:List (κ×V)) (k:κ):List (κ×V):=kvs.filter λkv=>decide (kv.1≠k)
def cB {p:κ×V} {r:List (κ×V)} {k:κ} (e:p.1=k):bW (p::r) k=some p.2:=by simp [bW,List.find?_cons,e]
def bT {p:κ×V} {r:List (κ×V)} {k:κ} (e:¬ p.1=k):bW (p::r) k=bW r k:=by simp [bW,List.find?_cons,e]
def fM (k:κ):∀ kvs:List (κ×V),(kvs.any λkv=>decide (kv.1=k))=(bW kvs k).isSome
 | []=>rfl
 | p::r=>by
   rw [Hk];by_cases e:p.1=k
   . simp only [cB e,decide_eq_true e,Bool.true_or,Option.isSome_some]
   . rw [bT e,Ax e,Bool.false_or]; exact fM k r
def zM (k j:κ) (y:V):∀ kvs:List (κ×V),bW (kvs.map λkv=>if kv.1=k then (kv.1,y) else kv) j=(bW kvs j).map λx=>if j=k then y else x
 | []=>rfl
 | p::r=>by
   have ih:=zM k j y r
   rw [Au];by_cases h:p.1=k
   . rw [if_pos h];by_cases e:p.1=j
     . rw [cB (p:=(p.1,y)) e,cB e,Ep,if_pos (e.symm.trans h)]
     . rw [bT (p:=(p.1,y)) e,bT e,ih]
   . rw [if_neg h];by_cases e:p.1=j
     . rw [cB (p:=p) e,cB e,Ep,if_neg (λz=>h (e.trans z))]
     . rw [bT (p:=p) e,bT e,ih]
def vA (k j:κ) (y:V):∀ kvs:List (κ×V),bW kvs k=none->bW (kvs++[(k,y)]) j=if j=k then some y else bW kvs j
 | [],_=>by
   by_cases e:k=j
   . rw [if_pos e.symm]; exact cB (p:=(k,y)) e
   . rw [if_neg (λz=>e z.symm)]; exact bT (p:=(k,y)) e
 | p::r,hn=>by
   rw [List.cons_append];have hk:¬ p.1=k:=λz=>by rw [cB z] at hn; cases hn
   rw [bT hk] at hn;have ih:=vA k j y r hn
   by_cases e:p.1=j
   . rw [cB e,cB e,if_neg (λz=>hk (e.trans z))]
   . rw [bT e,bT e,ih]
def bJR (kvs:List (κ×V)) (k j:κ) (y:V):bW (eP kvs k y) j=if j=k then some y else bW kvs j:=by
 unfold eP;by_cases a:(kvs.any λkv=>decide (kv.1=k))=true
 . rw [if_pos a,zM];rw [fM] at a;by_cases e:j=k
   . obtain ⟨x,hx⟩:=Dm.mp a;rw [if_pos e,e,hx,Ep,if_pos rfl]
   . rw [if_neg e];cases bW kvs j with
     | none=>rfl
     | some x=>rw [Ep,if_neg e]
 . rw [if_neg a];refine vA k j y kvs ?_;rw [fM] at a;cases q:bW kvs k with
   | none=>rfl
   | some x=>rw [q] at a; exact (a rfl).elim
def gA (kvs:List (κ×V)) (k:κ) (v:V):(eP kvs k v).length<=kvs.length+1:=by
 unfold eP;split
 . rw [Ab]; omega
 . rw [Ag,Aw,List.length_nil]; omega
def kT {kvs:List (κ×V)} {k:κ} (v:V) (h:bW kvs k=none):eP kvs k v=kvs++[(k,v)]:=by
 unfold eP;rw [fM,h];exact if_neg (by decide)
def RelO.isSome_eq {o:Option V} {u:Option Value} (r:RelO o u):o.isSome=u.isSome:=by
 cases o with
 | none=>cases u with
   | none=>rfl
   | some _=>exact (show False from r).elim
 | some _=>cases u with
   | none=>exact (show False from r).elim
   | some _=>rfl
def RelO.getD {o:Option V} {u:Option Value} {d:V} {d':Value} (r:RelO o u) (rd:RelV d d'):RelV (o.getD d) (u.getD d'):=by
 cases o with
 | none=>cases u with
   | none=>exact rd
   | some _=>exact (show False from r).elim
 | some _=>cases u with
   | none=>exact (show False from r).elim
   | some _=>exact r
def KV.val {kvs:List (κ×V)} {vs:List (κ×Value)} (r:KV kvs vs) (k:κ):RelO (bW kvs k) (valueAt vs k):=by
 unfold KV at r;induction r with
 | nil=>exact True.intro
 | @cons p q ps qs h t ih=>
   obtain ⟨h1,h2⟩:=h;by_cases e:p.1=k
   . have e':q.1=k:=h1.symm.trans e
     have b:valueAt (q::qs) k=some q.2:=by simp [valueAt,List.find?_cons,e']
     rw [cB e,b]; exact h2
   . have e':¬ q.1=k:=λz=>e (h1.trans z)
     have b:valueAt (q::qs) k=valueAt qs k:=by simp [valueAt,List.find?_cons,e']
     rw [bT e,b]; exact ih
def KV.any {kvs:List (κ×V)} {vs:List (κ×Value)} (r:KV kvs vs) (k:κ):(kvs.any λkv=>decide (kv.1=k))=vs.any λkv=>decide (kv.1=k):=by
 unfold KV at r;induction r with
 | nil=>rfl
 | cons h t ih=>rw [Hk,Hk,ih,h.1]
def KV.repl {kvs:List (κ×V)} {vs:List (κ×Value)} (r:KV kvs vs) (k:κ) {y:V} {u:Value} (ry:RelV y u) :
   KV (kvs.map λkv=>if kv.1=k then (kv.1,y) else kv) (vs.map λkv=>if kv.1=k then (kv.1,u) else kv):=by
 unfold KV at r ⊢;induction r with
 | nil=>exact .nil
 | @cons p q ps qs h t ih=>
   rw [Au,Au];refine .cons ?_ ih;obtain ⟨h1,h2⟩:=h;by_cases e:p.1=k
   . rw [if_pos e,if_pos (h1.symm.trans e)]; exact ⟨h1,ry⟩
   . rw [if_neg e,if_neg (λz=>e (h1.trans z))]; exact ⟨h1,h2⟩
def KV.put {kvs:List (κ×V)} {vs:List (κ×Value)} (r:KV kvs vs) (k:κ) {y:V} {u:Value} (ry:RelV y u):KV (eP kvs k y) (stored vs k u):=by
 unfold eP stored;rw [r.any k];by_cases e:(vs.any λkv=>decide (kv.1=k))=true
 . rw [if_pos e,if_pos e]; exact r.repl k ry
 . rw [if_neg e,if_neg e]; exact Paired.snoc r ⟨rfl,ry⟩
def KV.drop {kvs:List (κ×V)} {vs:List (κ×Value)} (r:KV kvs vs) (k:κ):KV (dQP kvs k) (without vs k):=by
 unfold KV at r ⊢;unfold dQP without;induction r with
 | nil=>exact .nil
 | @cons p q ps qs h t ih=>
   obtain ⟨h1,h2⟩:=h;rw [Gh,Gh];by_cases e:p.1=k
   . have a:¬ decide (p.1≠k)=true:=by simp [e]
     have b:¬ decide (q.1≠k)=true:=by simp [h1.symm.trans e]
     rw [if_neg a,if_neg b]; exact ih
   . have e':¬ q.1=k:=λz=>e (h1.trans z)
     have a:decide (p.1≠k)=true:=by simp [e]
     have b:decide (q.1≠k)=true:=by simp [e']
     rw [if_pos a,if_pos b]; exact .cons ⟨h1,h2⟩ ih
def KV.keys {kvs:List (κ×V)} {vs:List (κ×Value)} (r:KV kvs vs):kvs.map (·.1)=vs.map (·.1):=by
 unfold KV at r;induction r with
 | nil=>rfl
 | cons h t ih=>rw [Au,Au,ih,h.1]
def KV.length {kvs:List (κ×V)} {vs:List (κ×Value)} (r:KV kvs vs):kvs.length=vs.length:=Paired.length r
end
def qR {P:Program} {w:World} {k:Key} {u:Value} (r:RelV (kV k) u):(aZ P w).is k u=true:=by
 cases k with
 | inl i=>obtain ⟨t,e⟩:=(show ∃ t,u=Value.int i t from r); subst e; exact yW P w i t
 | inr x=>obtain ⟨t,e⟩:=(show ∃ t,u=Value.str x t from r); subst e; exact yH P w x t
def uY {P:Program} {w:World}:∀ {ks:List Key} {us:List Value},Vals (ks.map kV) us->ItemsAre (aZ P w) ks us
 | [],_,r=>by rw [Hq] at r; cases r; exact .nil
 | k::ks,_,r=>by
   rw [Au] at r;cases r with
   | cons h t=>exact .cons (qR h) (uY t)
abbrev KT (H:Hp):List (List Key×V)->List (List Key×Addr×Value)->Prop:=Paired λp q=>p.1=q.1/\H q.2.1=some (.tup (p.1.map kV))/\RelV p.2 q.2.2
def KT.val {H:Hp} {kvs:List (List Key×V)} {xs:List (List Key×Addr×Value)} (r:KT H kvs xs) (k:List Key):RelO (bW kvs k) ((atKey xs k).map (·.2)):=by
 induction r with
 | nil=>exact True.intro
 | @cons p q ps qs h t ih=>
   obtain ⟨h1,_,h2⟩:=h;by_cases e:p.1=k
   . have e':q.1=k:=h1.symm.trans e
     have b:atKey (q::qs) k=some q.2:=by simp [atKey,List.find?_cons,e']
     rw [cB e,b]; exact h2
   . have e':¬ q.1=k:=λz=>e (h1.trans z)
     have b:atKey (q::qs) k=atKey qs k:=by simp [atKey,List.find?_cons,e']
     rw [bT e,b]; exact ih
def KT.repl {H:Hp} {kvs:List (List Key×V)} {xs:List (List Key×Addr×Value)} (r:KT H kvs xs) (k:List Key) {y:V} {u:Value} (ry:RelV y u) :
   KT H (kvs.map λkv=>if kv.1=k then (kv.1,y) else kv) (xs.map (putAt k u)):=by
 induction r with
 | nil=>exact .nil
 | @cons p q ps qs h t ih=>
   rw [Au,Au];refine .cons ?_ ih;obtain ⟨h1,h2,h3⟩:=h;unfold putAt;by_cases e:p.1=k
   . rw [if_pos e,if_pos (h1.symm.trans e)]; exact ⟨h1,h2,ry⟩
   . rw [if_neg e,if_neg (λz=>e (h1.trans z))]; exact ⟨h1,h2,h3⟩
def KT.put {H:Hp} {kvs:List (List Key×V)} {xs:List (List Key×Addr×Value)} (r:KT H kvs xs) (k:List Key) {b:Addr} {y:V} {u:Value} (hb:H b=some (.tup (k.map kV))) (ry:RelV y u) :
   KT H (eP kvs k y) (storedH xs k b u):=by
 have e:(kvs.any λkv=>decide (kv.1=k))=(atKey xs k).isSome:=by
   rw [fM,(r.val k).isSome_eq,Option.isSome_map]
 unfold eP storedH;rw [e];by_cases q:(atKey xs k).isSome=true
 . rw [if_pos q,if_pos q]; exact r.repl k ry
 . rw [if_neg q,if_neg q]; exact Paired.snoc r ⟨rfl,hb,ry⟩
def KT.keeps {H H':Hp} {kvs:List (List Key×V)} {xs:List (List Key×Addr×Value)} (r:KT H kvs xs) (ht:∀ b ys,H b=some (.tup ys)->H' b=some (.tup ys)):KT H' kvs xs :=
 Paired.mapP r λ_ _ z=>⟨z.1,ht _ _ z.2.1,z.2.2⟩
section
variable {P:Program} {w:World} {H:Hp} {h:Heap} {a:Addr}
def dXD {u:HO} (ok:HOk P w H h) (e:Rd H a u):ObjOk P w H h a u:=e.ok ok
def oF {kvs:List (Key×V)} (ok:HOk P w H h) (e:Rd H a (.dK kvs)):kvs.length<=sizeLine/\(a == sysModules)=false/\∃ vs,KV kvs vs/\h.DictOf (aZ P w) a vs :=
 show ObjOk P w H h a (.dK kvs) from dXD ok e
def dQV {kvs:List (Key×V)} (ok:HOk P w H h) (e:H a=some (.dK kvs)):kvs.length<=sizeLine/\(a == sysModules)=false/\∃ vs,KV kvs vs/\h.DictOf (aZ P w) a vs:=oF ok (.inl e)
def mZ {ks:List Key} (ok:HOk P w H h) (e:H a=some (.tup (ks.map kV))):(tupleKind (aZ P w)).is h ks a:=by
 obtain ⟨_,its,r,o,h1,h2,n,h3⟩:=(show ObjOk P w H h a (.tup (ks.map kV)) from ok a _ e);exact ⟨o,its.toArray,n,h1,h2,h3,by simpa using uY r⟩
def pJ {kvs:List (List Key×V)} (ok:HOk P w H h) (e:Rd H a (.dT kvs)):kvs.length<=sizeLine/\(a == sysModules)=false/\
   ∃ xs,KT H kvs xs/\h.DictOfH (tupleKind (aZ P w)) a xs:=by
 obtain ⟨z,y,xs,r,o,es,ep,h1,h2,h3,h4,h5⟩:=(show ObjOk P w H h a (.dT kvs) from dXD ok e);refine ⟨z,y,xs,r,o,es,ep,h1,h2,h3,h4,λx hx=>?_,h5⟩;have all:∀ {l:List (List Key×V)} {m:List (List Key×Addr×Value)},KT H l m->∀ x∈m,(tupleKind (aZ P w)).is h x.1 x.2.1:=by
   intro l m q;induction q with
   | nil=>intro x hx; exact nomatch hx
   | @cons p q ps qs hq t ih=>
     intro x hx;rcases Ay.mp hx with e | hx
     . subst e;exact mZ ok (by rw [<-hq.1]; exact hq.2.1)
     . exact ih x hx
 exact all r x hx
def dQW {kvs:List (List Key×V)} (ok:HOk P w H h) (e:H a=some (.dT kvs)):kvs.length<=sizeLine/\(a == sysModules)=false/\
   ∃ xs,KT H kvs xs/\h.DictOfH (tupleKind (aZ P w)) a xs:=pJ ok (.inl e)
end
def DGet (H:Hp) (a:Addr) (y:V) (r:Option V):Prop :=
 (∃ kvs k,Rd H a (.dK kvs)/\y=kV k/\r=bW kvs k)\/∃ kvs k b,Rd H a (.dT kvs)/\y=.ref b/\H b=some (.tup (k.map kV))/\r=bW kvs k
def DPut (H:Hp) (a:Addr) (y v:V) (H':Hp):Prop :=
 (∃ kvs k,H a=some (.dK kvs)/\y=kV k/\kvs.length<sizeLine/\H'=upd H a (.dK (eP kvs k v)))\/
 ∃ kvs k b,H a=some (.dT kvs)/\y=.ref b/\H b=some (.tup (k.map kV))/\kvs.length<sizeLine/\H'=upd H a (.dT (eP kvs k v))
def DGet.k {H:Hp} {a:Addr} {kvs:List (Key×V)} {k:Key} (e:H a=some (.dK kvs)):DGet H a (kV k) (bW kvs k):=.inl ⟨kvs,k,.inl e,rfl,rfl⟩
def DGet.t {H:Hp} {a b:Addr} {kvs:List (List Key×V)} {k:List Key} (e:H a=some (.dT kvs)) (eb:H b=some (.tup (k.map kV))):DGet H a (.ref b) (bW kvs k):=.inr ⟨kvs,k,b,.inl e,rfl,eb,rfl⟩
def DPut.k {H:Hp} {a:Addr} {kvs:List (Key×V)} {k:Key} {v:V} (e:H a=some (.dK kvs)) (hl:kvs.length<sizeLine):DPut H a (kV k) v (upd H a (.dK (eP kvs k v))):=.inl ⟨kvs,k,e,rfl,hl,rfl⟩
def DPut.t {H:Hp} {a b:Addr} {kvs:List (List Key×V)} {k:List Key} {v:V} (e:H a=some (.dT kvs)) (eb:H b=some (.tup (k.map kV))) (hl:kvs.length<sizeLine) :
   DPut H a (.ref b) v (upd H a (.dT (eP kvs k v))):=.inr ⟨kvs,k,b,e,rfl,eb,hl,rfl⟩
section
variable {X:Cx} {pins:Q2} {σ:St} {H:Hp} {s:Shared} {a:Addr} {y v:V} {u r:Value} {o:Option V} {A:Around} {E:Q0}
def Inv.big (I:Inv X pins σ H s):sysModules<s.heap.objs.size:=by
 have h:mainGlobals<s.heap.objs.size:=(I.mod.glob.keeps I.bk).lt
 exact Nat.lt_trans (by decide) h
def bQP {Q:Q0} (hu:A.units+1<cLine) (I:Inv X pins σ H s) (g:DGet H a y (some v)) (ry:RelV y u) (h:∀ w' s',Inv X pins σ H s'->RelV v w'->Q w' s') :
   wpAny (model X.prog X.w) A (getItem (.ref a) u) Q E s:=by
 rcases g with ⟨kvs,k,e,ey,l⟩ | ⟨kvs,k,b,e,ey,eb,l⟩
 . subst ey;obtain ⟨z,hd,vs,rel,dd⟩:=oF I.hok e;obtain ⟨w',hw,rw'⟩:=RelO.some_of (v:=v) (o:=valueAt vs k) (by rw [l]; exact rel.val k)
   exact wpAny_getItem_of (qR ry) dd.mapOf hw (h w' _ (I.tok _) rw')
 . subst ey;cases (show u=Value.ref b from ry);obtain ⟨z,hd,xs,rel,dd⟩:=pJ I.hok e;obtain ⟨w',hw,rw'⟩:=RelO.some_of (v:=v) (o:=(atKey xs k).map (·.2)) (by rw [l]; exact rel.val k)
   obtain ⟨p,hp,hp2⟩:=Cs.mp hw;refine wpAny_getItem_heap (El hu) (mZ I.hok eb) dd hp ?_;rw [hp2];exact h w' _ (I.tok _) rw'
def eZO {Q:Q0} (hu:A.units+1<cLine) (I:Inv X pins σ H s) (g:DGet H a y o) (ry:RelV y u) (h:∀ s',Inv X pins σ H s'->Q (.bool o.isSome) s') :
   wpAny (model X.prog X.w) A (compareOp .In u (.ref a)) Q E s:=by
 rcases g with ⟨kvs,k,e,ey,l⟩ | ⟨kvs,k,b,e,ey,eb,l⟩
 . subst ey;obtain ⟨z,hd,vs,rel,dd⟩:=oF I.hok e;refine wpAny_in_of (qR ry) hd dd.mapOf ?_;rw [<-(rel.val k).isSome_eq,<-l];exact h _ (I.tok _)
 . subst ey;cases (show u=Value.ref b from ry);obtain ⟨z,hd,xs,rel,dd⟩:=pJ I.hok e;refine wpAny_in_heap (El hu) (mZ I.hok eb) hd dd ?_;have q:=(rel.val k).isSome_eq
   rw [Option.isSome_map] at q;rw [<-q,<-l];exact h _ (I.tok _)
def cZE {Q:Q0} (hu:A.units+1<cLine) (I:Inv X pins σ H s) (g:DGet H a y o) (ry:RelV y u) (h:∀ s',Inv X pins σ H s'->Q (.bool (!o.isSome)) s') :
   wpAny (model X.prog X.w) A (compareOp .NotIn u (.ref a)) Q E s:=by
 rcases g with ⟨kvs,k,e,ey,l⟩ | ⟨kvs,k,b,e,ey,eb,l⟩
 . subst ey;obtain ⟨z,hd,vs,rel,dd⟩:=oF I.hok e;refine wpAny_notIn_of (qR ry) hd dd.mapOf ?_;rw [<-(rel.val k).isSome_eq,<-l];exact h _ (I.tok _)
 . subst ey;cases (show u=Value.ref b from ry);obtain ⟨z,hd,xs,rel,dd⟩:=pJ I.hok e;refine wpAny_notIn_heap (El hu) (mZ I.hok eb) hd dd ?_;have q:=(rel.val k).isSome_eq
   rw [Option.isSome_map] at q;rw [<-q,<-l];exact h _ (I.tok _)
def aJZ {h':Heap} {t':Nat} {ob:HO} (I:Inv X pins σ H s) (mu:Mut (H a)) (hs:Heap.SameBut a s.heap h') (he:∃ q,h'.get? a=some q) (new:ObjOk X.prog X.w (upd H a ob) h' a ob) :
   Inv X pins σ (upd H a ob) { s with heap:=h',toks:=t' } :=
 I.write (x:=a) (e:=a) mu (.inl rfl) (λb q hb z=>(hs.2 b hb).trans z) he new
def dJ9 {P:Program} {w:World} {H':Hp} {h':Heap} {kvs:List (Key×V)} {vs:List (Key×Value)} (z:kvs.length<=sizeLine) (hd:(a == sysModules)=false) (rel:KV kvs vs) (dd:h'.DictOf (aZ P w) a vs) :
   ObjOk P w H' h' a (.dK kvs):=⟨z,hd,vs,rel,dd⟩
def bQN {H':Hp} {Q:Unit->Shared->Prop} (hu:A.units+1<cLine) (I:Inv X pins σ H s) (g:DPut H a y v H') (ry:RelV y u) (rv:RelV v r) (h:∀ s',Inv X pins σ H' s'->Q () s') :
   wpAny (model X.prog X.w) A (setItem (.ref a) u r) Q E s:=by
 rcases g with ⟨kvs,k,e,ey,l,eH⟩ | ⟨kvs,k,b,e,ey,eb,l,eH⟩
 . subst ey eH;obtain ⟨z,hd,vs,rel,dd⟩:=dQV I.hok e;have hz:vs.length<=sizeLine:=by rw [<-rel.length]; exact z
   have hl:(eP kvs k v).length<=sizeLine:=by have:=gA kvs k v; omega
   refine wpAny_setItem_pairs (hsz:=hz) (qR ry) dd λh' dd' hs=>h _ ?_;have he:∃ q,h'.get? a=some q:=let ⟨q,_,_,hq,_⟩:=dd'; ⟨q,hq⟩
   exact aJZ I (by rw [e]; exact True.intro) hs he (dJ9 hl hd (rel.put k rv) dd')
 . subst ey eH;cases (show u=Value.ref b from ry);obtain ⟨z,hd,xs,rel,dd⟩:=dQW I.hok e;have hz:xs.length<=sizeLine:=by rw [<-Paired.length rel]; exact z
   have hl:(eP kvs k v).length<=sizeLine:=by have:=gA kvs k v; omega
   refine wpAny_setItem_heap (hsz:=hz) (El hu) (mZ I.hok eb) dd λh' dd' hs=>h _ ?_;obtain ⟨q,es,ep,hq,h2,h3,h4,_,h5⟩:=dd';refine aJZ I (by rw [e]; exact True.intro) hs ⟨q,hq⟩ ⟨hl,hd,_,(rel.put k eb rv).keeps λc ys ec=>?_,q,es,ep,hq,h2,h3,h4,h5⟩
   rw [aH (eZ4 ec e (λz=>nomatch z))]
   exact ec
end
section
end
def eXK (i:Expr):Prop:=∀ ov iv,subscripted i false ov iv=operate [ov,iv] (getItem ov iv)
def cJ3 {prog:Program} {w:World} {A:Around} {E:Q0} {s:Shared} {env:Env} {value slice:Expr} {pos:Pos} {T id:String} {Q:Q0}
   (hl:typeLookup (.type T) "__getitem__"=pure (some (.builtin id))) (hs:eXK slice)
   (h:wpAny (model prog w) A (eval value env) (λo s₁=>wpAny (model prog w) A (eval slice env) (λi s₂=>s₂.TypeIs o T/\wpAny (model prog w) A (getItem o i) Q E s₂) E s₁) E s) :
   wpAny (model prog w) A (eval (.Subscript value slice pos) env) Q E s:=by
 refine Subscript_ (Ci h (λo s₁ h₁=>Ci h₁ (λi s₂ h₂=>?_) λ_ _ x=>x) λ_ _ x=>x);obtain ⟨hT,h₂⟩:=h₂;unfold subscriptTail;refine Ae ?_;rw [getitemInPython_of_ne hT.not_modules];refine Ae (wpAny_specialOf hT hl ?_);have fin:wpAny (model prog w) A (subscripted slice false o i) (λr s₃=>wpAny (model prog w) A (letTemporaryGo value o r >>= λ_=>pure r) Q E s₃) E s₂:=by
   rw [hs o i];exact wpAny_operating (Ci h₂ (λr s₃ h₃=>Ae (wpAny_letTemporaryGo (As h₃))) λ_ _ x=>x)
 first
   | exact As (Ae fin)
   | exact Ae (As (Ae fin))
   | exact Ae fin
def xW {X:Cx} {pins:Q2} {σ:St} {H:Hp} {s:Shared} {a:Addr} {y:V} {o:Option V} (I:Inv X pins σ H s) (g:DGet H a y o):s.TypeIs (.ref a) "dict" := by
 rcases g with ⟨kvs,k,e,_,_⟩ | ⟨kvs,k,b,e,_,_,_⟩
 . obtain ⟨_,_,vs,_,dd⟩:=oF I.hok e;exact dd.typeIs
 . obtain ⟨_,_,xs,_,dd⟩:=pJ I.hok e;exact dd.typeIs
def dXC (td ty:TE):TE:=λσ H Q=>td σ H λx H1=>ty σ H1 λy H2=>∃ a v,x=.ref a/\DGet H2 a y (some v)/\Q v H2
def dXE (td ty tv:TE):TS:=λD σ H=>tv σ H λv H1=>td σ H1 λx H2=>ty σ H2 λy H3=>∃ a H4,x=.ref a/\DPut H3 a y v H4/\D.nx σ H4
section
variable {X:Cx} {o i value:Expr} {pos pos':Pos} {td ty tv:TE}
def kB (hu:X.A.units+1<cLine) (ho:PE X o td) (hi:PE X i ty) (hs:eXK i):PE X (.Subscript o i pos) (dXC td ty):=by
 intro pins s σ H Q I h;refine cJ3 PySem.F.slot_dict_getitem.lookup hs (thn (ho pins s σ H _ I h) λu s1 ⟨x,H1,I1,rx,q1⟩=>thn (hi pins s1 σ H1 _ I1 q1) λiv s2 ⟨y,H2,I2,ry,a,v,ex,g,q2⟩=>?_);subst ex;obtain rfl:u=Value.ref a:=rx;exact ⟨xW I2 g,bQP hu I2 g ry λw' s3 I3 rw'=>⟨v,H2,I3,rw',q2⟩⟩
def iI (hu:X.A.units+1<cLine) (ho:PE X o td) (hi:PE X i ty) (hv:PE X value tv) (hs:swapsWith value (some (.Subscript o i pos')) pos.line X.env=pure false) :
   PS X (.Assign [.Subscript o i pos'] value pos) (dXE td ty tv):=by
 intro pins s σ H D I h;refine wpAny_Assign_Subscript (thn (hv pins s σ H _ I h) λr s1 ⟨v,H1,I1,rv,q1⟩=>thn (ho pins s1 σ H1 _ I1 q1) λu s2 ⟨x,H2,I2,rx,q2⟩=>thn (hi pins s2 σ H2 _ I2 q2) λiv s3 ⟨y,H3,I3,ry,a,H4,ex,g,q3⟩=>?_) hs;subst ex;obtain rfl:u=Value.ref a:=rx;exact bQN hu I3 g ry rv λs4 I4=>⟨σ,H4,I4,q3⟩
end
def cQU {P:Program} {w:World} {H:Hp} (h:Heap) (hb:sysModules<h.objs.size):ObjOk P w H (h.push { cls:=.type "dict",data:=.dict #[] }) h.objs.size (.dK []) :=
 ⟨Cr _,Cp.mpr (Ne.symm (Bo hb)),[],.nil,Heap.DictOf.new h⟩
def bZ7 {P:Program} {w:World} {H:Hp} (h:Heap) (hb:sysModules<h.objs.size):ObjOk P w H (h.push { cls:=.type "dict",data:=.dict #[] }) h.objs.size (.dT []) :=
 ⟨Cr _,Cp.mpr (Ne.symm (Bo hb)),[],.nil,_,#[],0,Ba _ rfl,⟨rfl,rfl,rfl⟩,rfl,rfl,List.nodup_nil⟩
def bX8:TE:=λ_ H Q=>∀ p,H p=none->Q (.ref p) (upd H p (.dK []))
def cXF:TE:=λ_ H Q=>∀ p,H p=none->Q (.ref p) (upd H p (.dT []))
section
variable {X:Cx} {pos:Pos}
def rV:PE X (.Dict [] [] pos) bX8:=λpins s σ H Q I h=>
 wpAny_Dict_empty ⟨.ref s.heap.objs.size,_,I.laid (a:=s.heap.objs.size) (o:=.dK []) (t':=s.toks) (λ_ _ q=>Ai _ q) (Ah _) (cQU s.heap I.big),rfl,h _ (I.hok.fresh (Ah _))⟩
def zL:PE X (.Dict [] [] pos) cXF:=λpins s σ H Q I h=>
 wpAny_Dict_empty ⟨.ref s.heap.objs.size,_,I.laid (a:=s.heap.objs.size) (o:=.dT []) (t':=s.toks) (λ_ _ q=>Ai _ q) (Ah _) (bZ7 s.heap I.big),rfl,h _ (I.hok.fresh (Ah _))⟩
end
def IsD (H:Hp) (a:Addr):Prop:=(∃ kvs,Rd H a (.dK kvs))\/∃ kvs,Rd H a (.dT kvs)
def dJR {X:Cx} {pins:Q2} {σ:St} {H:Hp} {s:Shared} {a:Addr} (I:Inv X pins σ H s) (d:IsD H a) :
   s.TypeIs (.ref a) "dict"/\(∀ b,Value.ref a=.ref b->∃ ob,s.heap.get? b=some ob/\ob.dict=none)/\(a == sysModules)=false:=by
 rcases d with ⟨kvs,e⟩ | ⟨kvs,e⟩
 . obtain ⟨_,hd,vs,_,dd⟩:=oF I.hok e;refine ⟨dd.typeIs,λb q=>?_,hd⟩;cases q;obtain ⟨ob,_,_,h1,h2,_⟩:=dd;exact ⟨ob,h1,h2.2.1⟩
 . obtain ⟨_,hd,xs,_,dd⟩:=pJ I.hok e;refine ⟨dd.typeIs,λb q=>?_,hd⟩;cases q;obtain ⟨ob,_,_,h1,h2,_⟩:=dd;exact ⟨ob,h1,h2.2.1⟩
section
variable {X:Cx} {pins:Q2} {σ:St} {H:Hp} {s:Shared} {a:Addr} {y d:V} {u r:Value} {o:Option V} {A:Around} {E:Q0}
def dXX {Q:Q0} (hu:A.units+1<cLine) (I:Inv X pins σ H s) (g:DGet H a y o) (ry:RelV y u) (h:∀ w' s',Inv X pins σ H s'->RelV (o.getD .non) w'->Q w' s') :
   wpAny (model X.prog X.w) A (call (.builtin "dict.get") [.ref a,u]) Q E s:=by
 rcases g with ⟨kvs,k,e,ey,l⟩ | ⟨kvs,k,b,e,ey,eb,l⟩
 . subst ey;obtain ⟨z,hd,vs,rel,dd⟩:=oF I.hok e;refine Hr Bz dd.typeIs Eh (Gv _ _) (meets_dict_get (aZ X.prog X.w) a (qR ry) hd) ⟨_,dd.mapOf,h _ _ (I.tok _) ?_⟩;rw [l];exact (rel.val k).getD rfl
 . subst ey;cases (show u=Value.ref b from ry);obtain ⟨z,hd,xs,rel,dd⟩:=pJ I.hok e;refine Hr Bz dd.typeIs Eh (Gv _ _) (meetsH_dict_get (tupleKind (aZ X.prog X.w)) a b hd) ⟨El hu,k,xs,mZ I.hok eb,dd,h _ _ (I.tok _) ?_⟩;rw [l];exact (rel.val k).getD rfl
def dJZ {Q:Q0} (hu:A.units+1<cLine) (I:Inv X pins σ H s) (g:DGet H a y o) (ry:RelV y u) (rd:RelV d r) (h:∀ w' s',Inv X pins σ H s'->RelV (o.getD d) w'->Q w' s') :
   wpAny (model X.prog X.w) A (call (.builtin "dict.get") [.ref a,u,r]) Q E s:=by
 rcases g with ⟨kvs,k,e,ey,l⟩ | ⟨kvs,k,b,e,ey,eb,l⟩
 . subst ey;obtain ⟨z,hd,vs,rel,dd⟩:=oF I.hok e;refine Hr Bz dd.typeIs Eh (PySem.F.args_dict_get_3 _ _ _) (meets_dict_get_default (aZ X.prog X.w) a (qR ry) hd r) ⟨_,dd.mapOf,h _ _ (I.tok _) ?_⟩;rw [l];exact (rel.val k).getD rd
 . subst ey;cases (show u=Value.ref b from ry);obtain ⟨z,hd,xs,rel,dd⟩:=pJ I.hok e;refine Hr Bz dd.typeIs Eh (PySem.F.args_dict_get_3 _ _ _) (meetsH_dict_get_default (tupleKind (aZ X.prog X.w)) a b hd r) ⟨El hu,k,xs,mZ I.hok eb,dd,h _ _ (I.tok _) ?_⟩;rw [l];exact (rel.val k).getD rd
end
section
end
section
end
section
end
end L2
namespace L2
open PySem PySem.Spec PyProof.Rows
section
variable {X:Cx} {pins:Q2} {σ:St} {H:Hp} {s:Shared}
def Inv.re {H':Hp} (I:Inv X pins σ H s) (hn:∀ b,H b=none->H' b=none) (tups:∀ b xs,X.H₀ b=some (.tup xs)->H' b=some (.tup xs)) (frzs:∀ b o u,X.H₀ b=some (.frz o u)->H' b=some (.frz o u))
   (tbls:∀ b ps,X.H₀ b=some (.tbl ps)->∃ more,H' b=some (.tbl (ps++more))) (hok:HOk X.prog X.w H' s.heap):Inv X pins σ H' s :=
 ⟨I.ok,I.os,I.bare,⟨I.base.keep,I.base.slot,λb o e n hx=>hn b (I.base.free b o e n hx),I.base.there,tups,frzs,tbls⟩,I.loc,I.cell,hn _ I.free,λx c e=>hn c (I.freeC x c e),λp hp=>by
   obtain ⟨a,b,c,d,e⟩:=I.pin p hp;exact ⟨a,hn _ b,c,d,e⟩,hok,I.len⟩
def eX4:HO->Bool
 | .dK _=>true
 | .dT _=>true
 | _=>false
def Inv.freeze {a:Addr} {u:HO} {o:Obj} (I:Inv X pins σ H s) (ha:H a=some u) (hu:eX4 u=true) (ho:s.heap.get? a=some o):Inv X pins σ (upd H a (.frz o u)) s:=by
 have ne:∀ c v,H c=some v->eX4 v=false->c≠a:=λc v q n z=>by rw [z,ha] at q; cases q; rw [n] at hu; cases hu
 have own:∀ c y,H c=some (.own y)->upd H a (.frz o u) c=some (.own y):=λc y q=>by rw [aH (ne c _ q rfl)]; exact q
 have tup:∀ c xs,H c=some (.tup xs)->upd H a (.frz o u) c=some (.tup xs):=λc xs q=>by rw [aH (ne c _ q rfl)]; exact q
 refine I.re (λb q=>by rw [aH (λz=>by rw [z,ha] at q; cases q)]; exact q) (λb xs q=>tup b xs (I.base.tups b xs q)) (λb o' v q=>?_) (λb ps q=>?_) (λb v q=>?_)
 . have:=I.base.frzs b o' v q
   rw [aH (ne b _ this rfl)];exact this
 . obtain ⟨m,e⟩:=I.base.tbls b ps q;exact ⟨m,by rw [aH (ne b _ e rfl)]; exact e⟩
 . by_cases hb:b=a
   . subst hb;rw [aD] at q;cases q;exact (show s.heap.get? b=some o/\ObjOk X.prog X.w (upd H b (.frz o u)) s.heap b u from ⟨ho,(I.hok b _ ha).stay (λ_ _ _ q=>q) (λc=>own c b) tup⟩)
   . rw [aH hb] at q;exact (I.hok b v q).stay (λ_ _ _ q=>q) (λc=>own c b) tup
def unf (Hs H:Hp):Hp:=λb=>match H b with
 | some (.frz o u)=>(match Hs b with | some (.frz _ _)=>some (.frz o u) | _=>some u)
 | x=>x
def fJ {Hs H:Hp} {b:Addr} {u:HO} (h:H b=some u) (n:∀ o v,u≠.frz o v):unf Hs H b=some u:=by
 unfold unf;rw [h];cases u <;> first | rfl | exact absurd rfl (n _ _)
def yP {Hs H:Hp} {b:Addr} (h:H b=none):unf Hs H b=none:=by unfold unf; rw [h]
def xC {Hs H:Hp} {b:Addr} {o:Obj} {u:HO} (h:H b=some (.frz o u)) (n:∀ o v,Hs b≠some (.frz o v)):unf Hs H b=some u:=by
 unfold unf;rw [h];dsimp only;split
 . rename_i e
   exact absurd e (n _ _)
 . rfl
def oM {Hs H:Hp} {b:Addr} {o o':Obj} {u u':HO} (h:H b=some (.frz o u)) (n:Hs b=some (.frz o' u')):unf Hs H b=some (.frz o u):=by
 unfold unf;rw [h];dsimp only;rw [n]
def Inv.unfreeze {Hs:Hp} (I:Inv X pins σ H s) (h0:∀ b o u,X.H₀ b=some (.frz o u)->Hs b=some (.frz o u)):Inv X pins σ (unf Hs H) s:=by
 have own:∀ c y,H c=some (.own y)->unf Hs H c=some (.own y):=λc y q=>fJ q λ_ _ z=>by cases z
 have tup:∀ c xs,H c=some (.tup xs)->unf Hs H c=some (.tup xs):=λc xs q=>fJ q λ_ _ z=>by cases z
 refine I.re (λb q=>yP q) (λb xs q=>tup b xs (I.base.tups b xs q)) (λb o u q=>oM (I.base.frzs b o u q) (h0 b o u q)) (λb ps q=>?_) (λb u q=>?_)
 . obtain ⟨m,e⟩:=I.base.tbls b ps q;exact ⟨m,fJ e λ_ _ z=>by cases z⟩
 . cases e:H b with
   | none=>rw [yP e] at q; cases q
   | some v=>
     have ok:=I.hok b v e
     by_cases hf:∃ o v',v=.frz o v'
     . obtain ⟨o,v',rfl⟩:=hf;have ok2:s.heap.get? b=some o/\ObjOk X.prog X.w H s.heap b v':=ok
       by_cases hs:∃ o' u',Hs b=some (.frz o' u')
       . obtain ⟨o',u',hs⟩:=hs;rw [oM e hs] at q;cases q;exact ok.stay (λ_ _ _ q=>q) (λc=>own c b) tup
       . rw [xC e λo v z=>hs ⟨o,v,z⟩] at q;cases q;exact ok2.2.stay (λ_ _ _ q=>q) (λc=>own c b) tup
     . rw [fJ e λo v' z=>hf ⟨o,v',z⟩] at q;cases q;exact ok.stay (λ_ _ _ q=>q) (λc=>own c b) tup
def cQ3 (Hs:Hp) (D:Ends):Ends:=⟨λσ H=>D.nx σ (unf Hs H),λv H=>D.rt v (unf Hs H),λσ H=>D.bk σ (unf Hs H),λσ H=>D.ct σ (unf Hs H)⟩
end
section
variable {X:Cx} {e:Expr} {st:Stmt}
def eZC (t:TE):TE:=λσ H Q=>t σ H λv H'=>Q v (unf H H')
def dQ2 (t:TS):TS:=λD σ H=>t (cQ3 H D) σ H
def cQY {t:TE} (h:PE X e t):PE X e (eZC t):=λpins s σ H Q I q=>thn (h pins s σ H _ I q) λv s' ⟨x,H',I',r,q'⟩=>⟨x,unf H H',I'.unfreeze λb o u e=>I.base.frzs b o u e,r,q'⟩
def aXW {t:TS} (h:PS X st t):PS X st (dQ2 t):=λpins s σ H D I q=>thn (h pins s σ H _ I q) λf s' q'=>by
 cases f with
 | next=>obtain ⟨σ',H',I',r⟩:=q'; exact ⟨σ',unf H H',I'.unfreeze λb o u e=>I.base.frzs b o u e,r⟩
 | brk=>obtain ⟨σ',H',I',r⟩:=q'; exact ⟨σ',unf H H',I'.unfreeze λb o u e=>I.base.frzs b o u e,r⟩
 | cont=>obtain ⟨σ',H',I',r⟩:=q'; exact ⟨σ',unf H H',I'.unfreeze λb o u e=>I.base.frzs b o u e,r⟩
 | ret u=>obtain ⟨v,σ',H',I',rv,r⟩:=q'; exact ⟨v,σ',unf H H',I'.unfreeze λb o u e=>I.base.frzs b o u e,rv,r⟩
def eXA {t:TE} {σ:St} {H:Hp} {Q:VK} (h:t σ H λv H'=>Q v (unf H H')):eZC t σ H Q:=h
def dJ7 {t:TS} {D:Ends} {σ:St} {H:Hp} (h:t (cQ3 H D) σ H):dQ2 t D σ H:=h
end
def rZ {Hs H:Hp} {a:Addr} {o:Obj} {u:HO} (ha:Hs a=some u) (hu:∀ o v,u≠.frz o v) (h:Same (upd Hs a (.frz o u)) H):Same Hs (unf Hs H):=λb v q=>by
 by_cases e:b=a
 . subst e;rw [ha] at q;cases q;exact xC (h _ _ aD) λo v z=>by rw [ha] at z; cases z; exact hu _ _ rfl
 . have:=h b v (by rw [aH e]; exact q)
   by_cases hf:∃ o v',v=.frz o v'
   . obtain ⟨o',v',rfl⟩:=hf;exact oM this q
   . exact fJ this λo v' z=>hf ⟨o,v',z⟩
def bQX {Hs H:Hp} (h:Same Hs H):Same Hs (unf Hs H):=λb v q=>by
 have:=h b v q
 by_cases hf:∃ o v',v=.frz o v'
 . obtain ⟨o',v',rfl⟩:=hf;exact oM this q
 . exact fJ this λo v' z=>hf ⟨o,v',z⟩
def qU {α β:Type} {R:α->β->Prop} {xs:List α} {ys:List β} (r:Paired R xs ys):∀ {i:Nat} {x:α},xs[i]?=some x->∃ y,ys[i]?=some y/\R x y:=by
 induction r with
 | nil=>intro i x h; cases h
 | cons h t ih=>
   intro i x hx;cases i with
   | zero=>cases hx; exact ⟨_,rfl,h⟩
   | succ i=>exact ih (i:=i) hx
def eXQ {P:Program} {w:World} {k:Key} {u:Value} (h:(aZ P w).is k u=true):RelV (kV k) u:=by
 rcases bR h with ⟨i,t,rfl,rfl⟩ | ⟨x,t,rfl,rfl⟩
 . exact ⟨t,rfl⟩
 . exact ⟨t,rfl⟩
def Itd (a:Addr) (o:Obj) (kvs:List (Key×V)):It:=⟨λi H=>H a=some (.frz o (.dK kvs))/\i<kvs.length,λi H x H'=>H'=H/\∃ kv,kvs[i]?=some kv/\x=kV kv.1,λi H=>H a=some (.frz o (.dK kvs))/\kvs.length=i⟩
def aXR {X:Cx} {pins:Q2} {σ:St} {H:Hp} {s:Shared} {a:Addr} {o:Obj} {kvs:List (Key×V)} {ep:Nat} (I:Inv X pins σ H s) (ha:H a=some (.frz o (.dK kvs))) (hep:∃ es,o.data=.dict es ep) :
   kvs.length<=sizeLine/\(a == sysModules)=false/\∃ vs,KV kvs vs/\s.heap.DictAt (aZ X.prog X.w) a vs ep:=by
 have ok:s.heap.get? a=some o/\(kvs.length<=sizeLine/\(a == sysModules)=false/\∃ vs,KV kvs vs/\s.heap.DictOf (aZ X.prog X.w) a vs):=I.hok a _ ha
 obtain ⟨e,z,hd,vs,rel,o',es',ep',ho',hx,hdat,r⟩:=ok;rw [e] at ho';cases ho';obtain ⟨es,hes⟩:=hep;have q:=hdat
 rw [hes] at q;cases q;exact ⟨z,hd,vs,rel,o,_,e,hx,hdat,r⟩
def bXF {P:Program} {w:World} {K:W.Frag} {tg:Expr} (a it:Addr) (o:Obj) (kvs:List (Key×V)) (ep:Nat) (hep:∃ es,o.data=.dict es ep):Turn P w K tg (Itd a o kvs) [it] it (λi h=>h.IsKeyIter it a i kvs.length ep) where
 mem:=by simp
 obj:=λi h st b hb=>by
   have e:b=it:=by simpa using hb
   subst e;obtain ⟨o,e,c,d⟩:=st;exact ⟨o,e,λv z=>by rw [d] at z; cases z⟩
 keep:=λi h h' st k=>let ⟨o,ho,r⟩:=st; ⟨o,k it (by simp) o ho,r⟩
 item:=by
   intro X hP hw hK hc i pins s σ H E I hf st hg;subst hP hw hK;obtain ⟨ha,hi⟩:=hg;obtain ⟨z,hd,vs,rel,dd⟩:=aXR I ha hep;have hlv:=rel.length
   obtain ⟨f0,f1,f2,f3,f4,f5⟩:=hf it (by simp)
   obtain ⟨⟨k,v⟩,hx,hk1,_⟩:=qU rel (Aa hi);refine wpAny_pyNext_dict_item (knd:=aZ X.prog X.w) (by rw [<-hlv]; exact st) dd hx λkey h' hk st' sb=>?_
   have I1:Inv X pins σ H { s with heap:=h' }:=I.turned (t':=s.toks) (λb o hb e=>(sb.2 b hb).trans e) f0 f1 f3 f4 f5
   obtain ⟨oi,e,c,d⟩:=id st';refine ⟨key,rfl,uV (s:={ s with heap:=h' }) e c d (by decide) ⟨kV k,H,I1,eXQ hk,⟨rfl,kvs[i],Aa hi,by rw [hk1]⟩,?_,λb hb=>(hf b hb).1⟩⟩
   rw [hlv];exact st'
 done:=by
   intro X hP hw hK hc i pins s σ H E I hf st hg;subst hP hw hK;obtain ⟨ha,hi⟩:=hg;obtain ⟨z,hd,vs,rel,dd⟩:=aXR I ha hep;have hlv:=rel.length
   obtain ⟨f0,f1,f2,f3,f4,f5⟩:=hf it (by simp)
   exact wpAny_pyNext_dict_end (knd:=aZ X.prog X.w) (I.ok.hd hc) (by rw [<-hlv]; exact st) dd (Ft (by omega)) λh' eb=>⟨rfl,I.turned (t':=s.toks) (λb o hb e=>eb b o hb e) f0 f1 f3 f4 f5⟩
 self:=λ_ _ _ _ _ st h=>wpAny_pyIter_keyiter st h
section
variable {X:Cx} {tg:Expr}
def bZ2 {pins:Q2} {σ:St} {H:Hp} {s:Shared} {a:Addr} {kvs:List (Key×V)} (I:Inv X pins σ H s) (ha:H a=some (.dK kvs)):∃ o es ep,s.heap.get? a=some o/\o.data=.dict es ep:=by
 obtain ⟨_,_,vs,_,o,es,ep,ho,_,hd,_⟩:=dQV I.hok ha;exact ⟨o,es,ep,ho,hd⟩
def cJV {pins:Q2} {σ:St} {H:Hp} {s:Shared} {a:Addr} {o:Obj} {kvs:List (Key×V)} (I:Inv X pins σ H s) (ha:H a=some (.frz o (.dK kvs))):∃ ep,∃ es,o.data=.dict es ep:=by
 have ok:s.heap.get? a=some o/\(kvs.length<=sizeLine/\(a == sysModules)=false/\∃ vs,KV kvs vs/\s.heap.DictOf (aZ X.prog X.w) a vs):=I.hok a _ ha
 obtain ⟨e,_,_,vs,_,o',es,ep,ho,_,hd,_⟩:=ok;rw [e] at ho;cases ho;exact ⟨ep,es,hd⟩
def wX (H:Hp) (a:Addr) (R:Obj->List (Key×V)->Hp->Prop):Prop:=(∃ kvs,H a=some (.dK kvs)/\∀ o,R o kvs (upd H a (.frz o (.dK kvs))))\/∃ o kvs,H a=some (.frz o (.dK kvs))/\R o kvs H
def walk_at {pins:Q2} {σ:St} {H:Hp} {s:Shared} {a:Addr} {R:Obj->List (Key×V)->Hp->Prop} (I:Inv X pins σ H s) (h:wX H a R) :
   ∃ o kvs H' ep,Inv X pins σ H' s/\H' a=some (.frz o (.dK kvs))/\(∃ es,o.data=.dict es ep)/\R o kvs H':=by
 rcases h with ⟨kvs,ha,q⟩ | ⟨o,kvs,ha,q⟩
 . obtain ⟨o,es,ep,ho,hd⟩:=bZ2 I ha;exact ⟨o,kvs,_,ep,I.freeze ha rfl ho,aD,⟨es,hd⟩,q o⟩
 . obtain ⟨ep,es,hd⟩:=cJV I ha;exact ⟨o,kvs,H,ep,I,ha,⟨es,hd⟩,q⟩
def dQ5 (tl:TE):TI:=λσ H R=>tl σ H (iN λa H1=>wX H1 a λo kvs H2=>R (Itd a o kvs) H2)
def cZF {l:Expr} {tl:TE} (hl:PE X l tl):PI X tg l (dQ5 tl):=by
 intro pins s σ H R I h;refine thn (hl pins s σ H _ I h) λv s1 ⟨x,H1,I1,r1,q1⟩=>?_;unfold iN at q1;split at q1
 . cases r1;rename_i a0 _
   obtain ⟨o,kvs,H2,ep,I2,ha,hep,q⟩:=walk_at I1 q1;obtain ⟨z,hd,vs,rel,dd⟩:=aXR I2 ha hep;refine wpAny_pyIter_dict (knd:=aZ X.prog X.w) hd dd ?_;refine ⟨s1.heap.objs.size,[s1.heap.objs.size],_,_,H2,rfl,I2.kept (t':=s1.toks) λb o e=>Ai _ e,bXF a0 _ o kvs ep hep,⟨_,Ba _ rfl,rfl,by rw [rel.length]; rfl⟩,λb hb=>?_,q⟩
   have e:b=s1.heap.objs.size:=by simpa using hb
   subst e;exact I2.fpOk (Ah _) (I2.hok.fresh (Ah _))
 . exact q1.elim
def isD (H:Hp) (p:Addr):Bool:=match H p with
 | some (.dK _)=>true
 | some (.dT _)=>true
 | some (.frz _ (.dK _))=>true
 | some (.frz _ (.dT _))=>true
 | _=>false
def dJX {H:Hp} {p:Addr} (h:isD H p=true):IsD H p:=by
 unfold isD at h;split at h
 . exact .inl ⟨_,.inl (by assumption)⟩
 . exact .inr ⟨_,.inl (by assumption)⟩
 . exact .inl ⟨_,.inr ⟨_,by assumption⟩⟩
 . exact .inr ⟨_,.inr ⟨_,by assumption⟩⟩
 . cases h
def pB {H:Hp} {p:Addr} {kvs:List (Key×V)} (h:H p=some (.dK kvs)):isD H p=true:=by unfold isD; rw [h]
def cQ5 {H:Hp} {p:Addr} {o:Obj} {kvs:List (Key×V)} (h:H p=some (.frz o (.dK kvs))):isD H p=true:=by unfold isD; rw [h]
end
section
variable {a:Addr} {o:Obj} {kvs:List (Key×V)} {σ:St} {H:Hp} {R:It->Hp->Prop} {tl:TE}
def cZU (h:tl σ H (iN λa H1=>wX H1 a λo kvs H2=>R (Itd a o kvs) H2)):dQ5 tl σ H R:=h
def dXS {Rw:Obj->List (Key×V)->Hp->Prop} (e:H a=some (.dK kvs)) (h:∀ o,Rw o kvs (upd H a (.frz o (.dK kvs)))):wX H a Rw:=.inl ⟨kvs,e,h⟩
end
section
variable {X:Cx} {o e:Expr} {es:List Expr} {to:TE} {t:TA} {name:Str} {apos cpos:Pos} {id:String} {r:V->List V->Hp->VK->Prop}
def cQL (r:V->List V->Hp->VK->Prop) (to:TE) (t:TA):TE:=λσ H Q=>to σ H (iN λp H1=>isD H1 p=true/\t σ H1 λxs H2=>r (.ref p) xs H2 Q)
def jH (slot:Slot "dict" name id) (hty:typeOf (.builtin id)=pure (.type "method_descriptor")) (hm:MtR X id r) (ho:PE X o to) (ha:PA X (e::es) t)
   (hbase:attributeBase o name X.env (eval o X.env)=eval o X.env:=by rfl)
   (hfew:((backTo cpos (starEach (e::es) X.env)).all (λx=>!x.1) && (backToKw cpos (keywordEach [] X.env)).all (λx=>x.1.isSome)
     && decide ((e::es).length+([]:List Keyword).length+(if ([]:List Keyword).isEmpty then 0 else 1)<30))=true:=by rfl)
   (hline:(apos.endLine == cpos.line)=true:=by rfl) (hs:starEach (e::es) X.env=(false,eval e X.env)::starEach es X.env:=by rfl) (hplain:(backTo cpos (starEach es X.env)).any (·.1)=false:=by rfl) :
   PE X (.Call (.Attribute o name apos) (e::es) [] cpos) (cQL r to t):=by
 intro pins s σ H Q I h;refine Gx hbase hfew hline rfl (thn (ho pins s σ H _ I h) λv s1 ⟨x,H1,I1,r1,q⟩=>?_);unfold iN at q;split at q
 . obtain ⟨hd,q1⟩:=q;obtain ⟨h1,h2,_⟩:=dJR I1 (dJX hd);cases _root_.id r1;refine ⟨"dict",_,PySem.F.plainAttrs_dict,slot,hty,h1,h2,?_⟩;have hA:=ha cpos pins s1 σ H1 _ I1 q1
   rw [hs] at hA ⊢;refine Fj (by show (false || (backTo cpos (starEach es X.env)).any (·.1))=false; rw [hplain] <;> rfl) (Gd ?_)
   exact thn hA λus s2 ⟨vs,H2,I2,r2,q2⟩=>hm pins s2 σ H2 _ vs _ us Q I2 r1 r2 q2
 . exact q.elim
def eXC:V->List V->Hp->VK->Prop:=λx vs H Q=>∃ a y z o,x=.ref a/\vs=[y,z]/\DGet H a y o/\Q (o.getD z) H
def aZL (hu:X.A.units+1<cLine):MtR X "dict.get" eXC:=by
 intro pins s σ H x vs v us Q I rx rv h;obtain ⟨a,y,z,ov,rfl,rfl,g,q⟩:=h;cases rx;obtain ⟨u,w',rfl,ru,rw'⟩:=cQJ rv;exact dJZ hu I g ru rw' λw1 s1 I1 r1=>⟨_,H,I1,r1,q⟩
def dXP (x y:V) (H:Hp) (Q:VK):Prop:=∃ a v,x=.ref a/\DGet H a y (some v)/\Q v H
def bZE (D:Ends) (σ:St) (x y v:V) (H:Hp):Prop:=∃ a H4,x=.ref a/\DPut H a y v H4/\D.nx σ H4
end
section
variable {σ:St} {H:Hp} {Q:VK} {D:Ends} {a:Addr} {kvs:List (Key×V)} {z:Str} {v w:V} {to td ty tv:TE} {t:TA} {r:V->List V->Hp->VK->Prop}
def cJP (h:to σ H (iN λp H1=>isD H1 p=true/\t σ H1 λxs H2=>r (.ref p) xs H2 Q)):cQL r to t σ H Q:=h
def eZV {P:Prop} (e:isD H a=true) (h:P):isD H a=true/\P:=⟨e,h⟩
def aJH (e:Rd H a (.dK kvs)) (h:Q ((bW kvs (Sum.inr z)).getD w) H):eXC (.ref a) [.str z,w] H Q:=⟨a,.str z,w,_,rfl,rfl,.inl ⟨kvs,.inr z,e,rfl,rfl⟩,h⟩
def eQA (h:∀ p,H p=none->Q (.ref p) (upd H p (.dK []))):bX8 σ H Q:=h
def eQV (h:td σ H λx H1=>ty σ H1 λy H2=>dXP x y H2 Q):dXC td ty σ H Q:=h
def xA (e:Rd H a (.dK kvs)) (l:bW kvs (Sum.inr z)=some v) (h:Q v H):dXP (.ref a) (.str z) H Q:=⟨a,v,rfl,.inl ⟨kvs,.inr z,e,rfl,l.symm⟩,h⟩
def dJC (h:tv σ H λv H1=>td σ H1 λx H2=>ty σ H2 λy H3=>bZE D σ x y v H3):dXE td ty tv D σ H:=h
def lK (e:H a=some (.dK kvs)) (l:kvs.length<sizeLine) (h:D.nx σ (upd H a (.dK (eP kvs (Sum.inr z) v)))):bZE D σ (.ref a) (.str z) v H:=⟨a,_,rfl,.inl ⟨kvs,.inr z,e,rfl,l,rfl⟩,h⟩
end
end L2
namespace L2
open PySem PySem.Spec PyProof.Rows
open PySem.AutoSeq1 (wpAny_loadPart')
open PySem.MeetsSeq PySem.MeetsSeq2 PySem.MeetsSeq3
def EqW (P:Program) (w:World) (A:Around) (s:Shared) (u v:Value):Prop:=∀ (E:Value->Shared->Prop) (Q:Bool->Shared->Prop),Q true s->wpAny (model P w) A (eqBool u v) Q E s
section
variable {P:Program} {w:World} {A:Around} {E:Q0} {s:Shared} {l b:Addr}
def EqW.same (u:Value):EqW P w A s u u:=λE Q hq=>SeqAt.EqAt.same u P w E Q hq
def EqW.refs (hne:l≠b) (h:∀ (E:Q0) (Q:Q0),Q (.bool true) s->wpAny (model P w) A (richCompare .Eq (.ref l) (.ref b)) Q E s):EqW P w A s (.ref l) (.ref b):=λE Q hq=>by
 unfold eqBool;refine Dc (wpAny_ite_split (λhab=>absurd (by have:=eq_of_beq hab; injection this) hne) (λ_=>?_))
 exact Ae (h E _ (Fv hq))
end
def DEq (kvs kws:List (Key×V)):Prop:=kvs.length=kws.length/\∀ kv∈kvs,bQ kv.2=true/\bW kws kv.1=some kv.2
def Alw (H:Hp):Nat->V->V->Prop
 | 0,x,y=>x=y/\bQ x=true
 | n+1,x,y=>(x=y/\bQ x=true)\/∃ p q,x=.ref p/\y=.ref q/\((∃ xs ys,rdL H p=some xs/\rdL H q=some ys/\xs.length=ys.length/\∀ (j:Nat) x' y',xs[j]?=some x'->ys[j]?=some y'->Alw H n x' y')\/∃ kvs kws,Rd H p (.dK kvs)/\Rd H q (.dK kws)/\DEq kvs kws)
def Alw.flat {H:Hp} {n:Nat} {x:V} (h:bQ x=true):Alw H n x x:=by
 cases n with
 | zero=>exact ⟨rfl,h⟩
 | succ n=>exact .inl ⟨rfl,h⟩
def Alw.lst {H:Hp} {n:Nat} {p q:Addr} {xs ys:List V} (hp:rdL H p=some xs) (hq:rdL H q=some ys) (hl:xs.length=ys.length) (h:∀ (j:Nat) x y,xs[j]?=some x->ys[j]?=some y->Alw H n x y):Alw H (n+1) (.ref p) (.ref q):=.inr ⟨p,q,rfl,rfl,.inl ⟨xs,ys,hp,hq,hl,h⟩⟩
def Alw.flats {H:Hp} {n:Nat} {xs:List V} (f:xs.all bQ=true):∀ (j:Nat) x y,xs[j]?=some x->xs[j]?=some y->Alw H n x y:=λj x y hx hy=>by
 rw [hx] at hy;cases hy;exact .flat (Ck.mp f x (Al hx))
section
end
section
end
def Room.u1 {k:Nat} {A:Around} (r:Room k A):A.units+1<cLine:=by have:=r.un; omega
section
end
end L2
namespace L2
open PySem PySem.Spec PyProof.Rows
open PySem.AutoSeq1 (wpAny_loadPart')
section
end
section
def aZA:∀ {xs:List V} {us:List Value},us.length=xs.length->(∀ (j:Nat) x u,xs[j]?=some x->us[j]?=some u->RelV x u)->Vals xs us
 | [],[],_,_=>.nil
 | x::r,u::t,hl,h=>.cons (h 0 x u rfl rfl) (aZA (by simpa using hl) λj x' u' a b=>h (j+1) x' u' (by simpa using a) (by simpa using b))
 | [],_::_,hl,_=>absurd hl (by simp)
 | _::_,[],hl,_=>absurd hl (by simp)
end
end L2
namespace L2
open PySem PySem.Spec PyProof.Rows PySem.W
section
variable {prog:Program} {w:World} {A:Around} {E:Q0} {s:Shared} {K:Frag} {x D:Addr} {ox:Obj} {od:Option Obj}
def cJT {name:Str} {v:Value} {expr:Bool} {Q:Q0} (Z:ExK K D) (X:K.In s.heap) (I:InstAt s.heap x ox D od) (hf:findObj K D od name=some (.value v)) (hh:handedIn v=true) (h:Q v { s with toks:=s.toks+1 }) :
   wpAny (model prog w) A (getAttr (.ref x) name expr) Q E s:=by
 obtain ⟨hp,g,d,t,os⟩:=s;have L0:=I.type (M:=model prog w)
 have L1:=looks_findIn (M:=model prog w) X Z.ga
 have L2:=looks_findIn (M:=model prog w) X Z.gh
 have L3:=looks_find (M:=model prog w) X I hf
 unfold getAttr getAttrBy;refine Ae (wpAny_mkText (Dc (Ae (L0.at (Ae (L1.at ?_))))));have ne:(Value.builtin "BaseException.__getattribute__" == Value.builtin "object.__getattribute__")=false:=by decide +kernel
 have fb:=F.excAttr_ValueError.ga.bind (.ref x)
 dsimp only;rw [ne,Bool.and_false,if_neg Ap];unfold getAttrByItsOwn hookBefore;rw [if_pos (show onTheHeap (Value.ref D)=true from rfl)];refine Ae (L2.at (Ae (wpAny_attempt (Dc ?_))));unfold callGetattribute boundAndCalled;rw [if_neg (by rw [show onTheHeap (Value.builtin "BaseException.__getattribute__")=false from rfl,Bool.and_false]; exact Ap)]
 refine Ae (wpAny_of_eq fb ?_);refine Gc (Ew F.excAttr_ValueError.ga.plain F.entry_bexc_ga (bQW Z X I ?_));unfold Builtin.«object.__getattribute__»;refine Ae (As (Ae (As (Ae (L0.at (Ae (L3.at ?_)))))));refine As ?_;exact handed_on hh h
def bJL {e t0:Addr} {oe:Obj} {vs:Array Value} {rest:List Value} {Q:Q0} (Z:ExK K D) (X:K.In s.heap) (I:InstAt s.heap e oe D od) (hb:W.subIn K (.ref D) (.type "ValueError")=some true) (hd:oe.data=.fields vs) (h0:vs[0]?=some (.ref t0)) (hr:rest.length<=sizeLine)
   (h:Q .none { s with heap:=(s.heap.push { cls:=.type "tuple",data:=.seq rest.toArray }).update e (Obj.mapFields (·.setIfInBounds 0 (.ref s.heap.objs.size))) }) :
   wpAny (model prog w) A (call (.builtin "ValueError.__init__") (.ref e::rest)) Q E s:=by
 have he:=I.at_
 obtain ⟨cd,hc,_⟩:=any_some Z.cls;have FB:=Du
 have L0:=I.type (M:=model prog w)
 have L1:=looks_subIn (M:=model prog w) X hb
 refine Gc (Ew FB.init.plain FB.initEntry ?_);have ck:∀ (Q:Unit->Shared->Prop) (E:Q0) (B:Around),Q () s->wpAny (model prog w) B (checkBuiltinCall "ValueError.__init__" ⟨.ref e::rest,[]⟩) Q E s:=λQ E B hq=>by
   simp only [checkBuiltinCall,FB.initKind,FB.initSplit,FB.initRow];refine Ae ((L0.andThen L1).at ?_);have hst:=FB.noStar
   have sg:∀ (a b:String) (n:Nat),Bind.check ⟨.positional, "*", "ValueError",.self,[⟨"args",.varPos,false⟩]⟩ a b n (List.map (λx=>x.fst) ({ pos:=Value.ref e::rest }:Args).kw)=pure ():=λa b n=>check_star_args _ _ _ _ _ _
   repeat (first | wp_step)
   rw [I.cls];refine Ae ((looks_clsIn X hc).at (As ?_));repeat (first | wp_step)
   refine wpAny_onRaise ?_;rw [sg];exact As hq
 refine ck _ _ _ ?_;have hs0:0<vs.size:=(Cq.mp h0).1
 have hg:=Ai (h:=s.heap) { cls:=.type "tuple",data:=.seq rest.toArray } he
 unfold Builtin.«BaseException.__init__» newTuple Builtin.BaseException.bexcPut;dsimp only;rw [if_neg (by simp)]
 refine Ae (Gy (Ae (Ae (Gu hg hd h0 (Ae (Ha hg hd hs0 (wpAny_letGo (As h))))))) (by show rest.toArray.size<=sizeLine; rw [Bb]; exact hr))
def aQ0 (K:Frag) (D:Addr):Option (List Value):=(clsIn K D).map (·.mro)
def zR {T dx:Addr} {name:Str} {v:Value} {h1:Heap} {m:Q4} {ns:List Str} {Q:Unit->Shared->Prop} (Z:ExK K D) (X:K.In s.heap) (I:InstAt s.heap x ox D od)
   (hs:findIn K (.ref D) "__setattr__"=some (some (.builtin "object.__setattr__"))) (hm:aQ0 K D=some [.ref D,.ref T,.type "ValueError",.type "Exception",.type "BaseException",.type "object"]) (hna:findIn K (.ref D) name=some none)
   (hi:∀ (B:Around) (Q':Option Addr->Shared->Prop) (E':Q0),Q' (some dx) { s with heap:=h1,toks:=s.toks+1 }->wpAny (model prog w) B (instanceDict x true) Q' E' { s with toks:=s.toks+1 })
   (hn:h1.Ns1 dx m) (hw:Within m ns) (hz:ns.length<sizeLine)
   (h:∀ h' tk',h'.Ns1 dx (λy=>if y=name then some v else m y)->Heap.SameBut dx h1 h'->Q () { s with heap:=h',toks:=tk' }) :
   wpAny (model prog w) A (setAttr (.ref x) name v) Q E s:=by
 obtain ⟨cd,hc,hd'⟩:=any_some Z.cls;have hmr:cd.mro=[.ref D,.ref T,.type "ValueError",.type "Exception",.type "BaseException",.type "object"]:=by
   unfold aQ0 at hm;rw [hc] at hm;exact Bh hm
 have SF:=PySem.F.store_ValueError
 have sub:Looks (model prog w) s.heap (isInstance (.ref x) (.type "object")) true:=I.type.andThen (looks_mroIn X Z.mo)
 have hmm:Looks (model prog w) s.heap (mroOf (.ref D)) cd.mro:=(looks_clsIn X hc).andThen .now
 have hx:=I.at_
 refine set_plain X I hs ?_;refine Ew SF.slot.plain SF.entry (@check_slot (model prog w) _ _ { s with toks:=s.toks+1 } "object.__setattr__" "object" "__setattr__" (.ref x) [.str name s.toks,v] [] _ SF.kind SF.split sub (SF.args (.ref x) (.str name s.toks) v) ?_)
 rw [osa_eq,refuse_eq];refine Ae (Ae (I.type.here (s:={ s with toks:=s.toks+1 }) (Ae (hmm.here (s:={ s with toks:=s.toks+1 }) ?_))))
 rw [hmr,refuseLoop_ref,refuseLoop_ref,SF.passes];refine As (Ae (I.type.here (s:={ s with toks:=s.toks+1 }) (Ae ((looks_findIn X hna).here (s:={ s with toks:=s.toks+1 }) (Ae (As ?_))))))
 show wpAny (model prog w) A.in1 (Builtin.ObjectAttr.storeInOwnDict (Value.ref x) (Value.ref D) (Value.str name s.toks) name v false) _ _ _
 unfold Builtin.ObjectAttr.storeInOwnDict;refine Ae (As ?_);rw [if_neg (show ¬ ((Value.ref D == Value.type "module")=true) by simp)]
 unfold Builtin.ObjectAttr.ownDictForStores;refine Ae (hi _ _ _ ?_);show wpAny (model prog w) A.in1 (Builtin.ObjectAttr.storeInDict dx (Value.str name s.toks) name v) _ _ _
 unfold Builtin.ObjectAttr.storeInDict Builtin.ObjectAttr.newKeyGuard;refine Ae (As (Ae (wpAny_nsSet1 hn λh' hn' sb=>?_)));obtain ⟨oD,esD,epD,hoD,hdD,hcD⟩:=hn'.count (Within.cons name v hw);refine Ae (wpAny_lookBehind hoD (by rw [hdD]; exact pastItsLine_dict (Bg hcD (by rw [Aw]; omega))) ?_)
 exact As (h h' _ hn' sb)
def bZ9 {T:Addr} {name:Str} {v:Value} {vs:Array Value} {Q:Unit->Shared->Prop} (Z:ExK K D) (X:K.In s.heap) (I:InstAt s.heap x ox D none) (hda:ox.data=.fields vs) (hdn:ox.dict=none)
   (hs:findIn K (.ref D) "__setattr__"=some (some (.builtin "object.__setattr__"))) (hm:aQ0 K D=some [.ref D,.ref T,.type "ValueError",.type "Exception",.type "BaseException",.type "object"]) (hna:findIn K (.ref D) name=some none)
   (h:∀ h' tk',h'.get? x=some { ox with dict:=some s.heap.objs.size }->h'.Ns1 s.heap.objs.size (λy=>if y=name then some v else none)->(∀ b o,b≠x->s.heap.get? b=some o->h'.get? b=some o)->Q () { s with heap:=h',toks:=tk' }) :
   wpAny (model prog w) A (setAttr (.ref x) name v) Q E s:=by
 obtain ⟨cd,hc,hd'⟩:=any_some Z.cls;have hx:=I.at_
 have hx1:(s.heap.push { cls:=.type "dict",data:=.dict #[] }).get? x=some ox:=Ai _ hx
 have hxs:x≠s.heap.objs.size:=Bo (Av hx)
 have hgd:((s.heap.push { cls:=.type "dict",data:=.dict #[] }).update x λo=>{ o with dict:=some s.heap.objs.size }).get? s.heap.objs.size=some { cls:=.type "dict",data:=.dict #[] } :=
   (Heap.get?_update_ne _ _ _ _ hxs.symm).trans (Heap.get?_push_at rfl rfl)
 have hnd:((s.heap.push { cls:=.type "dict",data:=.dict #[] }).update x λo=>{ o with dict:=some s.heap.objs.size }).Ns s.heap.objs.size (λ_=>none) :=
   ⟨_,#[],_,hgd,rfl,λe he=>absurd he (by simp),λ_=>rfl⟩
 have hxu:((s.heap.push { cls:=.type "dict",data:=.dict #[] }).update x λo=>{ o with dict:=some s.heap.objs.size }).get? x=some { ox with dict:=some s.heap.objs.size }:=by
   refine Heap.get?_update_self _ hx1 ?_;obtain ⟨a,b,c,d⟩:=ox;cases hda;rfl
 refine zR Z X I hs hm hna (λB Q' E' q=>?_) (Heap.Ns1.of_empty hnd) Within.nil (by rw [List.length_nil,Hn]; omega) λh' tk' n sb=>h h' tk' ((sb.2 x hxs).trans hxu) n λb o hb e=>
   (sb.2 b (Bo (Av e))).trans ((Heap.get?_update_ne _ _ _ _ hb).trans (Ai _ e))
 unfold instanceDict;refine Ae (wpAny_loadPart hx ?_);rw [I.cls];refine Ae ((looks_clsIn X hc).here (s:={ s with toks:=s.toks+1 }) ?_)
 rw [hd',hdn,hda,if_neg (show ¬ ((!true)=true) by decide)]
 dsimp only;rw [if_neg (show ¬ ((!true || !typeHasDict (Value.ref D))=true) by simp [typeHasDict])]
 exact Ae (wpAny_alloc' (Ae (wpAny_update' hx1 (As q))))
def bZA {T dx:Addr} {name:Str} {v:Value} {m:Q4} {ns:List Str} {odx:Obj} {Q:Unit->Shared->Prop} (Z:ExK K D) (X:K.In s.heap) (I:InstAt s.heap x ox D (some odx)) (hdn:ox.dict=some dx)
   (hs:findIn K (.ref D) "__setattr__"=some (some (.builtin "object.__setattr__"))) (hm:aQ0 K D=some [.ref D,.ref T,.type "ValueError",.type "Exception",.type "BaseException",.type "object"]) (hna:findIn K (.ref D) name=some none)
   (hn:s.heap.Ns1 dx m) (hw:Within m ns) (hz:ns.length<sizeLine)
   (h:∀ h' tk',h'.Ns1 dx (λy=>if y=name then some v else m y)->Heap.SameBut dx s.heap h'->Q () { s with heap:=h',toks:=tk' }) :
   wpAny (model prog w) A (setAttr (.ref x) name v) Q E s:=by
 obtain ⟨cd,hc,hd'⟩:=any_some Z.cls;refine zR Z X I hs hm hna (λB Q' E' q=>?_) hn hw hz h;unfold instanceDict;refine Ae (wpAny_loadPart I.at_ ?_);rw [I.cls];refine Ae ((looks_clsIn X hc).here (s:={ s with toks:=s.toks+1 }) ?_)
 rw [hd',hdn,if_neg (show ¬ ((!true)=true) by decide)]
 exact As q
end
end L2
namespace L2
open PySem PySem.Spec PyProof.Rows PySem.W
def eX (ea C:Addr) (d:Option Addr):HO:=.ext λh=>∃ oe vs t0,h.get? ea=some oe/\oe.cls=.ref C/\oe.dict=d/\oe.data=.fields vs/\vs[1]?=some .none/\vs[0]?=some (.ref t0)/\vs[2]?=some .none
def xdO (dx:Addr) (fs:List (Str×V)):HO:=.ext λh=>∃ mA,h.Ns1 dx mA/\(∀ f,RelO (fs.lookup f) (mA f))/\Within mA (fs.map (·.1))
def wU {P:Program} {w:World} {H:Hp} {h:Heap} {ea C:Addr} {d:Option Addr} {oe:Obj} {vs:Array Value} {t0:Addr} (g:h.get? ea=some oe) (c:oe.cls=.ref C) (di:oe.dict=d) (da:oe.data=.fields vs) (h1:vs[1]?=some .none) (h0:vs[0]?=some (.ref t0)) (c2:vs[2]?=some .none) :
   ObjOk P w H h ea (eX ea C d):=⟨⟨oe,vs,t0,g,c,di,da,h1,h0,c2⟩,⟨oe,g⟩,λ_ _ ⟨o,ws,t,g,q⟩ k=>⟨o,ws,t,k o g,q⟩⟩
def cQ1 {P:Program} {w:World} {H:Hp} {h:Heap} {dx:Addr} {fs:List (Str×V)} {mA:Q4} (n:h.Ns1 dx mA) (r:∀ f,RelO (fs.lookup f) (mA f)) (wi:Within mA (fs.map (·.1))):ObjOk P w H h dx (xdO dx fs):=by
 refine ⟨⟨mA,n,r,wi⟩,?_,λ_ _ ⟨m,⟨o,es,ep,g,q⟩,r⟩ k=>⟨m,⟨o,es,ep,k o g,q⟩,r⟩⟩;obtain ⟨o,es,ep,g,_⟩:=n;exact ⟨o,g⟩
structure XcK (K:Frag) (C T:Addr):Prop where
 ex:ExK K C
 sa:findIn K (.ref C) "__setattr__"=some (some (.builtin "object.__setattr__"))
 mro:aQ0 K C=some [.ref C,.ref T,.type "ValueError",.type "Exception",.type "BaseException",.type "object"]
 vb:W.subIn K (.ref C) (.type "ValueError")=some true
def aQW (K:Frag) (C T:Addr):Bool:=(clsIn K C).any λc=>match c.mro with
 | [.ref a,.ref b,.type x,.type y,.type z,.type u]=>a == C && b == T && x == "ValueError" && y == "Exception" && z == "BaseException" && u == "object"
 | _=>false
def wR {K:Frag} {C T:Addr} (h:aQW K C T=true):aQ0 K C=some [.ref C,.ref T,.type "ValueError",.type "Exception",.type "BaseException",.type "object"]:=by
 obtain ⟨c,hc,h⟩:=any_some h;unfold aQ0;rw [hc];split at h
 . rename_i hm
   simp only [Bool.and_eq_true,beq_iff_eq] at h;obtain ⟨⟨⟨⟨⟨rfl,rfl⟩,rfl⟩,rfl⟩,rfl⟩,rfl⟩:=h;exact Dt some hm
 . cases h
def lJ {P:Program} {w:World} {H:Hp} {h:Heap} {ea D:Addr} {d:Option Addr} {oe:Obj} {vs:Array Value} (hok:HOk P w H h) (g:h.get? ea=some oe) (hc:oe.cls=.ref D) (hdi:oe.dict=d) (hda:oe.data=.fields vs) (hd:∀ dx,d=some dx->∃ o,H dx=some o) :
   ∃ od,InstAt h ea oe D od:=by
 have no:notCls oe=true:=by
   obtain ⟨c,di,da,sl⟩:=oe;cases hda;rfl
 cases d with
 | none=>exact ⟨none,g,hc,no,by rw [hdi]; trivial⟩
 | some dx=>
   obtain ⟨o,z⟩:=hd dx rfl;obtain ⟨ob,g2⟩:=(hok dx o z).get;exact ⟨some ob,g,hc,no,by rw [hdi]; exact g2⟩
def dX0 {H:Hp} {a:Addr} {o:HO} (e:H a=some o):upd H a o=H:=by
 funext b
 unfold upd;split
 . rename_i z; rw [z,e]
 . rfl
def aXJ (K:Frag):List V->Hp->VK->Prop:=λvs H Q=>∃ ea rest C T d,vs=.ref ea::rest/\rest.length<=sizeLine/\H ea=some (eX ea C d)/\(∀ dx,d=some dx->∃ o,H dx=some o)/\XcK K C T/\Q .non H
def bX7 (K:Frag) (t:TA):TE:=λσ H Q=>t σ H λvs H1=>aXJ K vs H1 Q
def cJH {X:Cx}:CallR X (.builtin "ValueError.__init__") (aXJ X.K):=by
 intro pins s σ H xs us Q I r h;obtain ⟨ea,rest,C,T,d,rfl,hl,he,hd,Z,q⟩:=h;cases r with
 | @cons _ _ _ l2 r0 rr=>
   cases r0;obtain ⟨oe,vs,t0,g,hc,hdi,hda,h1,h0,c2⟩:=(I.hok ea _ he).1;obtain ⟨od,hI⟩:=lJ I.hok g hc hdi hda hd;refine bJL Z.ex I.kIn hI Z.vb hda h0 (by rw [<-rr.length]; exact hl) ?_
   have g2:=Ai (h:=s.heap) { cls:=.type "tuple",data:=.seq l2.toArray } g
   have hs0:0<vs.size:=(Cq.mp h0).1
   have dm:=Gr hda (·.setIfInBounds 0 (Value.ref s.heap.objs.size))
   refine ⟨.non,H,?_,rfl,q⟩;have I2:=I.write (x:=ea) (e:=ea) (o:=eX ea C d) (t':=s.toks) (by rw [he]; exact True.intro) (.inl rfl) (λb u hb z=>(Cb _ (Obj.mapFields (·.setIfInBounds 0 (Value.ref s.heap.objs.size))) (Ne.symm hb)).trans (Ai _ z))
     ⟨_,Heap.get?_update_self _ g2 (Obj.isFreed_of_fields dm)⟩ (wU (Heap.get?_update_self _ g2 (Obj.isFreed_of_fields dm)) (by rw [Obj.cls_mapFields]; exact hc) (by rw [zE]; exact hdi) dm (by rw [Array.getElem?_setIfInBounds]; simp [h1]) (t0:=s.heap.objs.size) (by simp [hs0]) ((Array.getElem?_setIfInBounds_ne (by decide)).trans c2))
   rw [dX0 he] at I2;exact I2
section
variable {X:Cx} {x:Str} {T:Addr} {mc:Value} {e:Expr} {es:List Expr} {t:TA} {np apos pos:Pos}
def rX {pl:Sem Bool} (hg:Gl X x) (hm:X.mg x=some (.ref T)) (h1:specialIn X.K (.ref T) "__getattribute__"=some (some (.builtin "type.__getattribute__"))) (h2:readsIn X.K T mc=true)
   (h3:findCls X.K (.ref T) mc "__init__"=some (.val (.builtin "ValueError.__init__"))) (ha:PA X (e::es) t) (hdb:(x == ("__debug__" : Str))=false:=by decide)
   (hst:starEach (e::es) X.env=(false,eval e X.env)::starEach es X.env:=by rfl) (hpl:(backTo pos (starEach es X.env)).any (·.1)=false:=by rfl)
   (ht:eval (.Call (.Attribute (.Name x np) "__init__" apos) (e::es) [] pos) X.env=(do
     let ov <-eval (.Name x np) X.env
     standAt apos.atName
     let (f,first) <-holding [ov] (getMethod ov "__init__" pl)
     callWith pos f first (backTo pos (starEach (e::es) X.env)) (backToKw pos (keywordEach [] X.env))):=by rfl) :
   PE X (.Call (.Attribute (.Name x np) "__init__" apos) (e::es) [] pos) (bX7 X.K t):=by
 intro pins s σ H Q I h;refine Fp (pl:=pl) (gR I hg hm ?_ hdb) ht;refine method_cls I.kIn h1 (cls_value I.kIn h2 h3 rfl ?_);exact PyProof.Rows.callWith_builtin1 (thn (ha pos pins _ σ H _ (I.tok _) h) λus s1 ⟨vs,H1,I1,r1,q1⟩=>cJH pins s1 σ H1 vs us Q I1 r1 q1) hst hpl
end
def Inv.freAt {X:Cx} {pins:Q2} {σ:St} {H:Hp} {s:Shared} {a:Addr} (I:Inv X pins σ H s) (h:s.heap.objs.size<=a):Fre X pins a where
 s0:=Ga (Bg I.sz h)
 loc:=λz=>absurd (Bc I.lt h) (by rw [z]; exact Eb _)
 cell:=λx c e z=>by
   obtain ⟨_,o,g,_⟩:=I.cell x c e;exact absurd (Bc (Av g) h) (by rw [z]; exact Eb _)
 pin:=λp hp z=>absurd (Bc (Av (I.pin p hp).1) h) (by rw [z]; exact Eb _)
def dQ0 (K:Frag) (ta tv:TE) (f:Str):TS:=λD σ H=>tv σ H λy H1=>ta σ H1 λx H2=>∃ ea C T,x=.ref ea/\XcK K C T/\findIn K (.ref C) f=some none/\
 ((H2 ea=some (eX ea C none)/\∀ dx,H2 dx=none->D.nx σ (upd (upd H2 ea (eX ea C (some dx))) dx (xdO dx [(f,y)])))\/
  (∃ dx fs,H2 ea=some (eX ea C (some dx))/\H2 dx=some (xdO dx fs)/\fs.length<100/\D.nx σ (upd H2 dx (xdO dx ((f,y)::fs)))))
def vC {f g:Str} {y:V} {fs:List (Str×V)}:List.lookup g ((f,y)::fs)=if g=f then some y else fs.lookup g:=by
 rw [Dg];by_cases z:g=f
 . rw [if_pos z,z]; simp
 . rw [if_neg z];have:(g == f)=false:=by simpa using z
   rw [this]
def qD {X:Cx} {o value:Expr} {f:Str} {pos pos':Pos} {ta tv:TE} (ha:PE X o ta) (hv:PE X value tv) (hs:swapsWith value (some (.Attribute o f pos')) pos.line X.env=pure false):PS X (.Assign [.Attribute o f pos'] value pos) (dQ0 X.K ta tv f):=by
 intro pins s σ H D I h;refine plainObj_wpAny_Assign_Attribute (thn (hv pins s σ H _ I h) λu s1 ⟨y,H1,I1,ry,q⟩=>thn (ha pins s1 σ H1 _ I1 q) λov s2 ⟨x,H2,I2,rx,ea,C,T,ex,Z,hn,q2⟩=>?_) hs;subst ex;obtain rfl:ov=Value.ref ea:=rx;rcases q2 with ⟨he,q3⟩ | ⟨dx,fs,he,hdx,hl,q3⟩
 . obtain ⟨oe,vs,t0,g,hc,hdi,hda,h1,h0,c2⟩:=(I2.hok ea _ he).1;obtain ⟨od,hI⟩:=lJ I2.hok g hc hdi hda (λ_ z=>nomatch z)
   have hod:od=none:=by
     have z:=hI.dict
     rw [hdi] at z;cases od with
     | none=>rfl
     | some o=>exact z.elim
   subst hod;refine bZ9 Z.ex I2.kIn hI hda hdi Z.sa Z.mro hn λh' tk' gx ns kp=>?_;have fr:=I2.freAt (Ah _)
   have hfree:H2 s2.heap.objs.size=none:=I2.hok.fresh (Ah _)
   have ne:s2.heap.objs.size≠ea:=λz=>by rw [z,he] at hfree; cases hfree
   have I3:=I2.write (x:=ea) (e:=ea) (o:=eX ea C (some s2.heap.objs.size)) (h':=h') (t':=tk') (by rw [he]; exact True.intro) (.inl rfl) kp ⟨_,gx⟩ (wU gx hc rfl hda h1 h0 c2)
   have I4:=I3.adopt (a:=s2.heap.objs.size) (o:=xdO s2.heap.objs.size [(f,y)]) fr (by rw [aH ne]; exact hfree) (cQ1 ns (λg=>by
     rw [vC];split
     . exact ry
     . exact True.intro) (λg hg=>by
     by_cases z:g=f
     . rw [z]; exact Aj.mpr rfl
     . exact absurd (show (if g=f then some u else none)=none by rw [if_neg z]) hg))
   exact ⟨σ,_,I4,q3 _ hfree⟩
 . obtain ⟨oe,vs,t0,g,hc,hdi,hda,h1,h0,c2⟩:=(I2.hok ea _ he).1;obtain ⟨mA,n,r,wi⟩:=(I2.hok dx _ hdx).1;obtain ⟨od,hI⟩:=lJ I2.hok g hc hdi hda (λz e=>by cases e; exact ⟨_,hdx⟩)
   have hod:∃ o,od=some o:=by
     have z:=hI.dict
     rw [hdi] at z;cases od with
     | none=>exact z.elim
     | some o=>exact ⟨o,rfl⟩
   obtain ⟨o,rfl⟩:=hod;refine bZA Z.ex I2.kIn hI hdi Z.sa Z.mro hn n wi (by rw [Ab,Hn]; omega) λh' tk' ns sb=>?_
   have hd':∃ o,h'.get? dx=some o:=let ⟨o,_,_,e',_⟩:=ns; ⟨o,e'⟩
   have I3:=I2.write (x:=dx) (e:=dx) (o:=xdO dx ((f,y)::fs)) (h':=h') (t':=tk') (by rw [hdx]; exact True.intro) (.inl rfl) (λb q hb z=>(sb.2 b hb).trans z) hd' (cQ1 ns (λg=>by
     rw [vC];split
     . exact ry
     . exact r g) (λg hg=>by
     by_cases z:g=f
     . rw [z]; exact Am
     . refine Ak _ (wi g λz2=>hg ?_);show (if g=f then some u else mA g)=none
       rw [if_neg z]; exact z2))
   exact ⟨σ,_,I3,q3⟩
def cXN (K:Frag) (ta:TE) (f:Str):TE:=λσ H Q=>ta σ H λx H1=>∃ ea C dx fs v,x=.ref ea/\(H1 ea=some (tX ea (.ref C) (some dx))\/H1 ea=some (eX ea C (some dx)))/\H1 dx=some (xdO dx fs)/\ExK K C/\findIn K (.ref C) f=some none/\fs.lookup f=some v/\Q v H1
def cQ0 {v:V} {u:Value} (r:RelV v u):handedIn u=true:=by
 cases v <;> first | (obtain ⟨_,rfl⟩:=(show ∃ t,u=_ from r); rfl) | (cases r; rfl)
def dQE {X:Cx} {e:Expr} {f:Str} {pos:Pos} {ta:TE} (he:PE X e ta) (hb:attributeBase e f X.env (eval e X.env)=eval e X.env):PE X (.Attribute e f pos) (cXN X.K ta f):=by
 intro pins s σ H Q I h;refine aZ0 hb (thn (he pins s σ H _ I h) λu s1 ⟨x,H1,I1,rx,ea,C,dx,fs,v,ex,e1,e2,Z,n,l,q⟩=>?_);subst ex;obtain rfl:u=Value.ref ea:=rx;obtain ⟨oe,vs,g,hc,hdi,hda⟩:∃ oe vs,s1.heap.get? ea=some oe/\oe.cls=.ref C/\oe.dict=some dx/\oe.data=.fields vs:=by
   rcases e1 with e1 | e1
   . exact (I1.hok ea _ e1).1
   . obtain ⟨oe,vs,t0,g,hc,hdi,hda,_⟩:=(I1.hok ea _ e1).1;exact ⟨oe,vs,g,hc,hdi,hda⟩
 obtain ⟨⟨mA,ns,r,wi⟩,_⟩:=I1.hok dx _ e2;obtain ⟨od,hI⟩:=lJ I1.hok g hc hdi hda (λz e=>by cases e; exact ⟨_,e2⟩)
 obtain ⟨o,go,lo⟩:=uO ns;have hod:od=some o:=by
   have z:=hI.dict
   rw [hdi] at z;cases od with
   | none=>exact z.elim
   | some o'=>
     have z:s1.heap.get? dx=some o':=z
     rw [go] at z;exact z.symm
 subst hod;have rl:=r f
 rw [l] at rl;cases hu:mA f with
 | none=>rw [hu] at rl; exact rl.elim
 | some u=>
   rw [hu] at rl;exact cJT Z I1.kIn hI (findObj_own Z.cls n rfl (by rw [lo,hu])) (cQ0 rl) ⟨v,H1,I1.tok _,rl,q⟩
end L2
namespace L2
open PySem PySem.Spec PyProof.Rows PySem.W
def rY (K:Frag) (C:Addr) (bmB:List Value) (newId:String):Bool :=
 match K.lookup C with
 | some ⟨.type t,_,.cls c,sl⟩=>t == "type" && !c.hasDel && nsOkIn K c.ns &&
   (match c.mro with | .ref C1::bm=>C1 == C && tailIn K bmB bm | _=>false) && (match sl.toList with | [_,_,_,_,some (.builtin n),_]=>n == newId | _=>false)
 | _=>false
def dZX {K:Frag} {h:Heap} {C:Addr} {bmB:List Value} {newId:String} (X:K.In h) (q:rY K C bmB newId=true) :
   ∃ bm N nm qn bs hd sn sub ab col dd k0 k1 k2 k3 k5,h.get? C=some (excClassObj nm qn C N bs bm hd sn sub ab col dd k0 k1 k2 k3 k5 newId)/\OwnTail h bmB bm:=by
 unfold rY at q;split at q
 . rename_i t dd c sl ho
   simp only [Bool.and_eq_true,beq_iff_eq,Bool.not_eq_true'] at q;obtain ⟨⟨⟨⟨rfl,q1⟩,q2⟩,q3⟩,q4⟩:=q;split at q3
   . rename_i C1 bm hm
     obtain ⟨rfl,q5⟩:C1=C/\tailIn K bmB bm=true:=by simpa only [Bool.and_eq_true,beq_iff_eq] using q3
     split at q4
     . rename_i k0 k1 k2 k3 n k5 hs
       obtain rfl:n=newId:=by simpa using q4
       obtain ⟨nm,bs,mro,ns,qn,hd,sn,sub,ab,col,del⟩:=c;dsimp only at hm q1 q2;subst hm q1;obtain ⟨l⟩:=sl;cases (show l=_ from hs);exact ⟨bm,ns,nm,qn,bs,hd,sn,sub,ab,col,dd,k0,k1,k2,k3,k5,X _ _ ho,tail_of_in X q5⟩
     . cases q4
   . cases q3
 . cases q
section
variable {prog:Program} {w:World} {A:Around} {E:Q0} {s:Shared} {K:Frag} {C f:Addr} {bmB:List Value} {B newId initId:String}
def bQH {rest:List Value} {Q:Fin->Shared->Prop} (FB:ExcBaseFacts B newId initId bmB) (X:K.In s.heap) (hx:rY K C bmB newId=true) (hi:findIn K (.ref C) "__init__"=some (some (.ref f))) (hf:typeIn K (.ref f)=some (.type "function")) (hr:rest.length<=sizeLine)
   (hq:∀ h' e,Heap.MadeExcOf s.heap h' e (.ref C) rest->wpAny (model prog w) A (call (.ref f) (.ref e::rest)) (λr s'=>r=.none/\Q (.done (.ret (.ref e))) s') E { s with heap:=h' }) :
   wpAny (model prog w) A (Builtin.«type.__call__» ⟨.ref C::rest,[]⟩) Q E s:=by
 obtain ⟨h,g,d,t,os⟩:=s;obtain ⟨bm,N,nm,qn,bs,hd,sn,sub,ab,col,dd,k0,k1,k2,k3,k5,hC,Tl⟩:=dZX X hx;repeat (first | with_reducible refine wpAny_madeBy_exc hC ?_ | with_reducible refine Fx hC ?_ | wp_step)
 refine codeAny_call_builtin_code (Code.quiet_builtin _ FB.quiet) (wpAny_check_new_subT FB Tl hC (codeAny_exc_new_subT FB Tl hC ?_ hr));show wpAny _ _ _ _ _ _
 generalize hh1:(h.push { cls:=.type "tuple",data:=.seq rest.toArray }).push { cls:=.ref C,data:=.fields #[.ref h.objs.size,.none,.none,.none,.bool false,.none] }=h1;have kp:∀ b o,h.get? b=some o->h1.get? b=some o:=λb o e=>by rw [<-hh1]; exact Ai _ (Ai _ e)
 have eM:h1.get? (h.objs.size+1)=some { cls:=.ref C,data:=.fields #[.ref h.objs.size,.none,.none,.none,.bool false,.none] }:=by rw [<-hh1]; heap_get
 have X1:=X.keeps kp
 have hC1:=kp _ _ hC
 have hcC:(Value.ref C::bm).contains (.ref C)=true:=by simp
 unfold isInstance;repeat (first | (with_reducible refine wpAny_isSubtype_exc hC1 ?_; rw [hcC]) | with_reducible refine Fx eM ?_ | wp_step)
 show wpAny _ _ (typeLookup (.ref C) _) _ _ _
 refine (looks_findIn X1 hi).here (s:=⟨h1,g,d,t,os⟩) (Dc (Ae ?_));unfold bindSpecial;refine Ae ((looks_typeIn X1 hf).here (s:=⟨h1,g,d,t,os⟩) ?_);rw [if_pos (by decide)]
 refine As (Ae (Ci (hq h1 (h.objs.size+1) ⟨kp,Ga (Nat.le_succ _),h.objs.size,eM,Ga (Ah _),?_⟩) (λr s' hr=>?_) λ_ _ z=>z))
 . rw [<-hh1];exact Ai _ (Heap.get?_push_at rfl rfl)
 . obtain ⟨rfl,z⟩:=hr
   wp_walk
   exact z
def bZU {rest:List Value} {Q:Q0} (FB:ExcBaseFacts B newId initId bmB) (X:K.In s.heap) (hx:rY K C bmB newId=true) (hi:findIn K (.ref C) "__init__"=some (some (.ref f))) (hf:typeIn K (.ref f)=some (.type "function")) (hr:rest.length<=sizeLine)
   (hq:∀ h' e,Heap.MadeExcOf s.heap h' e (.ref C) rest->wpAny (model prog w) (A.under (.builtin "type.__call__" ⟨.ref C::rest,[]⟩)) (call (.ref f) (.ref e::rest)) (λr s'=>r=.none/\Q (.ref e) s') E { s with heap:=h' }) :
   wpAny (model prog w) A (call (.ref C) rest) Q E s:=by
 have X0:=X
 obtain ⟨h,g,d,t,os⟩:=s;obtain ⟨bm,N,nm,qn,bs,hd,sn,sub,ab,col,dd,k0,k1,k2,k3,k5,hC,Tl⟩:=dZX X hx;have c1:=tc_lookup
 have c2:=tc_bind (.ref C)
 have c3:(⟨h,g,d,t,os⟩:Shared).TypeIs (.ref C) "type" := ⟨_,hC,rfl⟩
 refine Gc (codeAny_of_tree ?_);show wpAny _ _ (callAny (.ref C) _) _ _ _
 repeat (any_goals (first | with_reducible refine Fx hC ?_ | assumption | wp_step))
 exact ⟨rfl,codeAny_call_builtin_at (Code.quiet_builtin _ (by decide +kernel)) entry_typeCall (wpAny_check_type_call_sub hC (bQH FB X0 hx hi hf hr λh' e hm=>hq h' e hm))⟩
def bXQ {env:Env} {x:Sem Value} {Q:Flow->Shared->Prop} (hh:A.handled=none)
   (h:wpAny (model prog w) A x (λv s1=>∃ e oe vs bm N nm qn bs hd sn sub ab col dd k0 k1 k2 k3 k5,v=.ref e/\s1.heap.get? C=some (excClassObj nm qn C N bs bm hd sn sub ab col dd k0 k1 k2 k3 k5 newId)/\bm.contains (.type "BaseException")=true/\
     s1.heap.get? e=some oe/\oe.cls=.ref C/\oe.data=.fields vs/\vs[1]?=some .none/\E (.ref e) s1) E s):wpAny (model prog w) A (raiseStmt env (some x) none) Q E s:=by
 unfold raiseStmt;refine Ae (Ci h (λv s1 q=>?_) λ_ _ z=>z);obtain ⟨e,oe,vs,bm,N,nm,qn,bs,hd,sn,sub,ab,col,dd,k0,k1,k2,k3,k5,rfl,hC,hb,he,hc,hda,h1,hE⟩:=q;obtain ⟨hp,g,d,tk,os⟩:=s1;obtain ⟨oc,odi,oda,osl⟩:=oe;dsimp only at hc hda;subst hc hda;have hcB:(Value.ref C::bm).contains (.type "BaseException")=true:=by rw [List.contains_cons,hb,Bool.or_true]
 repeat (first | with_reducible refine Fx hC ?_ | with_reducible refine Fx he ?_ | (with_reducible refine wpAny_isSubtype_exc hC ?_; rw [hcB]) | wp_step)
 rw [h1];refine As ?_;rw [if_neg (show ¬ ((Value.none != Value.none)=true) by decide)]
 exact As (wpAny_raiseNew_none hh hE)
end
def del (H:Hp) (a:Addr):Hp:=λb=>if b=a then none else H b
def eK {H:Hp} {a b:Addr} (h:b≠a):del H a b=H b:=if_neg h
def yD {H:Hp} {a:Addr}:del H a a=none:=if_pos rfl
section
variable {X:Cx} {pins:Q2} {σ:St} {H:Hp} {s:Shared}
def Inv.drop {ea:Addr} {φ:Heap->Prop} (I:Inv X pins σ H s) (e:H ea=some (.ext φ)):Inv X pins σ (del H ea) s:=by
 have ne:∀ b u,H b=some u->(∀ ψ,u≠.ext ψ)->b≠ea:=λb u q n z=>by
   rw [z,e] at q;cases q;exact n φ rfl
 refine I.re (λb n=>?_) (λb xs q=>?_) (λb o u q=>?_) (λb ps q=>?_) λb o q=>?_
 . unfold del;split
   . rfl
   . exact n
 . have q1:=I.base.tups b xs q
   rw [eK (ne b _ q1 λ_ z=>nomatch z)]
   exact q1
 . have q1:=I.base.frzs b o u q
   rw [eK (ne b _ q1 λ_ z=>nomatch z)]
   exact q1
 . obtain ⟨m,q1⟩:=I.base.tbls b ps q;exact ⟨m,by rw [eK (ne b _ q1 λ_ z=>nomatch z)]; exact q1⟩
 . have hb:b≠ea:=λz=>by rw [z,yD] at q; cases q
   rw [eK hb] at q;exact (I.hok b o q).stay (λ_ _ _ z=>z) (λc z=>by rw [eK (ne c _ z λ_ z=>nomatch z)]; exact z) λc xs z=>by rw [eK (ne c _ z λ_ z=>nomatch z)]; exact z
def Inv.freNew {a:Addr} (I:Inv X pins σ H s) (hex:X.ex=[]) (h:s.heap.get? a=none):Fre X pins a where
 s0:=by
   cases z:X.s₀.heap.get? a with
   | none=>rfl
   | some o=>
     obtain ⟨o',z'⟩:=I.base.there a o z (by rw [hex]; simp)
     rw [h] at z';cases z'
 loc:=λz=>by
   obtain ⟨m,⟨o,_,_,g,_⟩,_⟩:=I.loc;rw [<-z,h] at g;cases g
 cell:=λx c e z=>by
   obtain ⟨_,o,g,_⟩:=I.cell x c e;rw [z,h] at g;cases g
 pin:=λp hp z=>by
   have g:=(I.pin p hp).1
   rw [z,h] at g;cases g
end
def vQ (P:Program) (w:World) (K:W.Frag) (mg:Str->Option Value) (base:Heap) (k:Nat) (C:Addr) (ps:List Str) (sp:Sp):Prop :=
 ∃ (f:Addr) (fd:FuncData),FnOk P w K mg base CX0 k f fd ps sp/\findIn K (.ref C) "__init__"=some (some (.ref f))/\typeIn K (.ref f)=some (.type "function")/\Binds K fd ps []
structure XmK (K:Frag) (C:Addr):Prop where
 obj:rY K C [.type "ValueError",.type "Exception",.type "BaseException",.type "object"] "ValueError.__new__"=true
 kp:keepIn K (.ref C)=true
def aZQ (C:Addr) (sp:Sp) (E:XK) (ta:TA):TS:=λ_ σ H=>ta σ H λvs H1=>vs.length<=sizeLine/\∀ ea,H1 ea=none->sp (.ref ea::vs) (upd H1 ea (eX ea C none)) (λv H2=>v=.non/\∃ d,H2 ea=some (eX ea C d)/\E (.ref C) d (del H2 ea)) E0
section
variable {X:Cx} {E:XK} {x:Str} {C:Addr} {e:Expr} {es:List Expr} {ta:TA} {np cpos pos:Pos} {k:Nat} {ps:List Str} {sp:Sp}
def bQE {pins:Q2} {σ:St} {H1:Hp} {s1:Shared} {vs:List V} {us:List Value} {G:Addr->VK} {R:Q0} (hex:X.ex=[]) (M:XmK X.K C) (c:vQ X.prog X.w X.K X.mg X.base k C ps sp) (hr:Room (k+1) X.A) (I1:Inv X pins σ H1 s1) (r:Vals vs us)
   (hl:vs.length<=sizeLine) (q:∀ ea,H1 ea=none->sp (.ref ea::vs) (upd H1 ea (eX ea C none)) (G ea) E0)
   (hR:∀ ea H2 s2,X.s₀.heap.get? ea=none->Inv X pins σ H2 s2->(G ea) .non H2->R (.ref ea) s2) (hG:∀ ea v H2,G ea v H2->v=.non):wpAny (model X.prog X.w) X.A (call (.ref C) us) R X.xe s1:=by
 obtain ⟨f,fd,F,hi,hf,hb⟩:=c;refine bZU Du I1.kIn M.obj hi hf (by rw [<-r.length]; exact hl) λh' ea hm=>?_
 obtain ⟨t,g,_,_⟩:=hm.there;have hole:H1 ea=none:=I1.hok.hole hm.new
 have fr:=I1.freNew hex hm.new
 have I2:=(I1.kept (t':=s1.toks) hm.keeps).adopt (o:=eX ea C none) fr hole (wU g rfl rfl rfl rfl rfl rfl)
 have r2:Vals (V.ref ea::vs) (Value.ref ea::us):=.cons rfl r
 have hq:=q ea hole
 have hl2:((Value.ref ea::us)++[]).length=ps.length:=by rw [Bi,<-r2.length]; exact F.len _ _ _ _ hq
 have hbb:=hb { s1 with heap:=h' } (Value.ref ea::us) I2.kIn hl2
 rw [Bi] at hbb;refine Gc (Et (F.run _ X.stack { s1 with heap:=h' } _ ⟨Value.ref ea::us,[]⟩ (Value.ref ea::us) (V.ref ea::vs) _ E0 (hr.make C us []) (I2.env0.make C us []) hbb r2 hq) λrr s' hq'=>?_)
 cases rr with
 | error e=>exact False.elim hq'
 | ok fl=>
   cases fl with
   | ret u=>
     obtain ⟨v,H',I3,rv,q3⟩:=I2.after hq';have ev:=hG ea v H' q3
     subst ev;exact ⟨rv,hR ea H' s' fr.s0 I3 q3⟩
   | next=>exact False.elim hq'
   | brk=>exact False.elim hq'
   | cont=>exact False.elim hq'
def lL {k':Nat} (hR:dZW X E) (hex:X.ex=[]) (hc:X.calm=true) (hg:Gl X x) (hm:X.mg x=some (.ref C)) (M:XmK X.K C) (c:vQ X.prog X.w X.K X.mg X.base k C ps sp) (hr:Room k' X.A) (hkk:k+1<=k') (ha:PA X (e::es) ta)
   (hd:(x == ("__debug__" : Str))=false:=by decide) (he:starEach (e::es) X.env=(false,eval e X.env)::starEach es X.env:=by rfl) (hpl:(backTo cpos (starEach es X.env)).any (·.1)=false:=by rfl) :
   PS X (.Raise (some (.Call (.Name x np) (e::es) [] cpos)) none pos) (aZQ C sp E ta):=by
 intro pins s σ H D I h;rw [arm_exec_Raise];simp only [evalOpt,Option.map];refine Ae (Fo (bXQ (C:=C) (newId := "ValueError.__new__") (I.ok.hd hc) ?_));refine Ae (Ci (Q:=λv s1=>∃ e oe vs bm N nm qn bs hd sn sub ab col dd k0 k1 k2 k3 k5,v=.ref e/\s1.heap.get? C=some (excClassObj nm qn C N bs bm hd sn sub ab col dd k0 k1 k2 k3 k5 "ValueError.__new__")/\bm.contains (.type "BaseException")=true/\
     s1.heap.get? e=some oe/\oe.cls=.ref C/\oe.data=.fields vs/\vs[1]?=some .none/\X.xe (.ref e) s1) ?_ (λv s3 h3=>Ae (Fo (As h3))) λ_ _ z=>z)
 refine Dp (gR I hg hm ?_ hd);refine Fi (h₀:=X.base) I.ok.mod.kin M.kp (thn (ha cpos pins s σ H _ I h) λus s1 ⟨vs,H1,I1,r,hl,q⟩=>⟨I1.kIn,?_⟩) he hpl;refine bQE hex M c (hr.mono hkk) I1 r hl q (λea H' s' s0 I3 q3=>?_) λea v H2 z=>z.1;obtain ⟨_,d,e2,q3⟩:=q3;obtain ⟨oe,ws,t0,g2,hc2,hdi,hda,h1,h0,c2⟩:=(I3.hok ea _ e2).1;obtain ⟨bm,N,nm,qn,bs,hdct,sn,sub,ab,col,dd,k0,k1,k2,k3,k5,hC,Tl⟩:=dZX I3.kIn M.obj;refine ⟨ea,oe,ws,bm,N,nm,qn,bs,hdct,sn,sub,ab,col,dd,k0,k1,k2,k3,k5,rfl,hC,Tl.hasType PySem.F.excBase_ValueError.hasBase,g2,hc2,hda,h1,?_⟩;exact hR pins σ (del H' ea) s' ea oe ws (I3.drop e2) g2 hda h1 c2 yD s0 (by rw [hc2,hdi]; exact q3)
end
def uL (st:Stmt) (j:Nat):Stmt :=
 match st with
 | .ClassDef _ _ _ body _ _ _ _ _ _ _=>body.getD j (.Pass ⟨0,0,0,0⟩)
 | s=>s
section
end
section
variable {K:W.Frag} {H:Hp} {Q:VK} {ea C T dx:Addr} {d:Option Addr} {σ:St} {D':Ends} {sp:Sp} {E:XK} {ta:TA} {te tv:TE} {f:Str}
def cJ1 (h:ta σ H λvs H1=>aXJ K vs H1 Q):bX7 K ta σ H Q:=h
def bZK (h:ta σ H λvs H1=>vs.length<=sizeLine/\∀ ea,H1 ea=none->sp (.ref ea::vs) (upd H1 ea (eX ea C none)) (λv H2=>v=.non/\∃ d,H2 ea=some (eX ea C d)/\E (.ref C) d (del H2 ea)) E0):aZQ C sp E ta D' σ H:=h
def dJJ (h:te σ H λx H1=>∃ ea C dx fs v,x=.ref ea/\(H1 ea=some (tX ea (.ref C) (some dx))\/H1 ea=some (eX ea C (some dx)))/\H1 dx=some (xdO dx fs)/\ExK K C/\W.findIn K (.ref C) f=some none/\fs.lookup f=some v/\Q v H1):cXN K te f σ H Q:=h
def dJO (h:tv σ H λy H1=>te σ H1 λx H2=>∃ ea C T,x=.ref ea/\XcK K C T/\W.findIn K (.ref C) f=some none/\
 ((H2 ea=some (eX ea C none)/\∀ dx,H2 dx=none->D'.nx σ (upd (upd H2 ea (eX ea C (some dx))) dx (xdO dx [(f,y)])))\/
  (∃ dx fs,H2 ea=some (eX ea C (some dx))/\H2 dx=some (xdO dx fs)/\fs.length<100/\D'.nx σ (upd H2 dx (xdO dx ((f,y)::fs)))))):dQ0 K te tv f D' σ H:=h
end
end L2
namespace L2
open PySem PySem.Spec PyProof.Rows
section
end
section
end
def zK {X:Cx} {K:W.Frag} {e:Expr} {f:Str} {pos:Pos} {ta:TE} (h:X.K=K) (he:PE X e ta) (hb:attributeBase e f X.env (eval e X.env)=eval e X.env):PE X (.Attribute e f pos) (cXN K ta f):=by
 subst h;exact dQE he hb
end L2
namespace L2
open PySem PySem.Spec PyProof.Rows
section
variable {prog:Program} {w:World} {A:Around} {E:Q0}
def yZ {it l:Addr} {items:Array Value} (hne:l≠it):∀ (n i:Nat) (s:Shared) (Q:List Value->Shared->Prop),s.heap.IsListIter it l i->s.heap.IsList l items->i+n<=items.size->
   (∀ h',h'.IsListIter it l (i+n)->Heap.SameBut it s.heap h'->Q ((items.toList.drop i).take n) { s with heap:=h' })->wpAny (model prog w) A (draw (.ref it) n) Q E s
 | 0,i,s,Q,hit,_,_,k=>by
   refine As (M:=model prog w) ?_
   simpa using k s.heap hit (Heap.SameBut.refl ..)
 | n+1,i,s,Q,hit,hl,hle,k=>by
   have lt:i<items.size:=by omega
   show wpAny _ _ (pyNext (.ref it) >>= _) Q E s
   refine wpAny_bind (wpAny_pyNext_list_item hit hl (x:=items[i]) (by simp [lt]) λg1 it1 sb1=>?_)
   refine Ae (Dc (yZ hne n (i+1) _ _ it1 (hl.extBut sb1.extBut hne) (by omega) λg2 it2 sb2=>As ?_))
   have e:items.toList.drop i=items[i]::items.toList.drop (i+1):=by simp [List.drop_eq_getElem_cons,lt]
   have z:=k g2 (by rw [show i+(n+1)=i+1+n by omega]; exact it2) (sb1.trans sb2)
   rw [e,Gi] at z;exact z
def aXG {s:Shared} {l:Addr} {items:Array Value} {targets:List (Bool×(Value->Sem Unit))} {Q:Unit->Shared->Prop} (hh:A.handled=none) (hl:s.heap.IsList l items)
   (hn:targets.length=items.size) (hs:targets.findIdx? (·.1)=none)
   (k:∀ h',Heap.ExtBut s.heap.objs.size s.heap h'->wpAny (model prog w) A (assignInOrder (targets.map (·.2)) items.toList) Q E { s with heap:=h' }) :
   wpAny (model prog w) A (unpack (.ref l) targets) Q E s:=by
 have hlt:l≠s.heap.objs.size:=by obtain ⟨o,ho,_⟩:=hl; exact Bo (Av ho)
 unfold unpack;rw [hn,hs];refine Ae (Dc ?_);unfold unpackItems notIterableAtAll;refine Ae (Ae (wpAny_specialOf hl.typeIs slot_list_iter.lookup (As ?_)));rw [if_neg (by simp)]
 refine Ae (Dc (Fw hl ?_));refine Ae (Dc (yZ hlt items.size 0 _ _ ⟨_,Ba _ rfl,rfl,rfl⟩ (hl.push _) (by omega) λg1 it1 sb1=>?_))
 have al:List.take items.size (List.drop 0 items.toList)=items.toList:=by rw [List.drop_zero]; exact List.take_of_length_le (by simp)
 rw [al,if_neg (by simp)]
 refine wpAny_bind (wpAny_holding (wpAny_pyNext_list_end hh it1 ((hl.push _).extBut sb1.extBut hlt) (by simp) λg2 eb=>?_))
 simp only [Option.isSome_none,Bool.false_eq_true,if_false];exact As (k g2 λb o hb e=>eb b o hb (sb1.extBut b o hb (Ai _ e)))
end
def eZU (n:Nat) (t:TGs):TG:=λv σ H Q=>∃ a xs,v=.ref a/\rdL H a=some xs/\xs.length=n/\t xs σ H Q
def dZA {X:Cx} {es:List Expr} {k:Nat} {t:TGs} {n:Nat} {pos:Pos} (hc:X.calm=true) (h:PGs X es t)
   (hn:(assignEach es X.env).length=n:=by rfl) (hst:(assignEach es X.env).findIdx? (·.1)=none:=by rfl):PG X (.Tuple es k pos) (eZU n t):=by
 intro pins s σ H v u Q I r hw;obtain ⟨a,xs,e1,hq,hl,hw⟩:=hw;subst e1;cases r;obtain ⟨its,rv,⟨o,nn,ho,hcl,_,hda⟩,hz⟩:=I.list (bB hq);rw [assign_Tuple];refine wpAny_bind (wpAny_standAt (aXG (I.ok.hd hc) ⟨o,ho,hcl,nn,hda⟩ (by simp [hn,<-hl,rv.length]) hst λh' hx=>?_))
 have I1:Inv X pins σ H { s with heap:=h' }:=I.kept (t':=s.toks) λb o e=>hx b o (Bo (Av e)) e
 exact h pins _ σ H xs _ Q I1 (by simpa using rv) hw
def dJK {n:Nat} {t:TGs} {a:Addr} {xs:List V} {σ:St} {H:Hp} {Q:St->Hp->Prop} (e:rdL H a=some xs) (hn:xs.length=n) (h:t xs σ H Q):eZU n t (.ref a) σ H Q:=⟨a,xs,rfl,e,hn,h⟩
def hid (H:Hp) (ps:List Addr):Hp:=λb=>if b∈ps then none else H b
end L2
namespace L2
open PySem PySem.Spec PyProof.Rows
open PySem.AutoSeq1 (wpAny_loadPart')
def aXI (z:Str) (tz:Tok) (k:Int) (t:Tok) (ha:z.cps.all (· < 128)=true) (hk:Builtin.SmallTypes.fitsIndex k=true) :
   Meets (Builtin.«enumerate.__new__» ⟨[.type "enumerate",.str z tz],[("start",.int k t)]⟩) (λ_ R s=>
     R (.ok (.ret (.ref (s.heap.push { cls:=.type "str_ascii_iterator",data:=.fields #[.str z tz,.int 0 0] }).objs.size)))
       { s with heap:=(s.heap.push { cls:=.type "str_ascii_iterator",data:=.fields #[.str z tz,.int 0 0] }).push ⟨.type "enumerate",none,.fields #[.none,.bool false,.ref s.heap.objs.size,rawInt k,.none,.none],#[]⟩ }) :=
 .of_wp λprog w A R s h=>by
   obtain ⟨hp,g,d,tk,os⟩:=s;have hsub:=sub_enumerate
   have hk':(!Builtin.SmallTypes.fitsIndex k)=false:=by rw [hk]; rfl
   wp_walk
   refine wpAny_stack_any λst=>As ?_;refine bZ3 ?_ ?_ <;>
   . wp_walk using (wpAny_pyIter_ascii (s:=⟨hp,g,d,tk,os⟩) ha)
     exact ⟨_,rfl,h⟩
section
variable {prog:Program} {w:World} {A:Around} {E:Q0} {s:Shared}
def sZ {z:Str} {tz:Tok} {k:Int} {t:Tok} {Q:Q0} (ha:z.cps.all (· < 128)=true) (hk:Builtin.SmallTypes.fitsIndex k=true)
   (h:∀ h',IsEnum h' (s.heap.objs.size+1) s.heap.objs.size k .none->h'.IsStrIter s.heap.objs.size "str_ascii_iterator" z tz 0->h'.objs.size=s.heap.objs.size+2->(∀ b o,s.heap.get? b=some o->h'.get? b=some o)->Q (.ref (s.heap.objs.size+1)) { s with heap:=h' }) :
   wpAny (model prog w) A (call (.type "enumerate") [.str z tz] [("start",.int k t)]) Q E s:=by
 have hz:(s.heap.push { cls:=.type "str_ascii_iterator",data:=.fields #[.str z tz,.int 0 0] }).objs.size=s.heap.objs.size+1:=Gb ..
 refine nZ (Q1:=λo s1=>s1.TypeIs o "enumerate"/\Q o s1) F.called_enumerate (by kernel_rfl) (by kernel_rfl) F.entry_enumerate_new (aXI z tz k t ha hk) ?_ λo s1 hq=>⟨hq.1,?_,_,aJF F.called_enumerate.init.lookup F.called_enumerate.made (by decide),hq.1,rfl,hq.2⟩
 . show _/\_
   rw [hz];have he:IsEnum ((s.heap.push { cls:=.type "str_ascii_iterator",data:=.fields #[.str z tz,.int 0 0] }).push ⟨.type "enumerate",none,.fields #[.none,.bool false,.ref s.heap.objs.size,rawInt k,.none,.none],#[]⟩) (s.heap.objs.size+1) s.heap.objs.size k .none:=by
     have q:=Ba (s.heap.push { cls:=.type "str_ascii_iterator",data:=.fields #[.str z tz,.int 0 0] }) (o:=⟨.type "enumerate",none,.fields #[.none,.bool false,.ref s.heap.objs.size,rawInt k,.none,.none],#[]⟩) rfl
     rwa [hz] at q
   exact ⟨⟨_,he,rfl⟩,h _ he ⟨_,Ai _ (Ba _ rfl),rfl,rfl⟩ (by rw [Gb,hz]) λb o x=>Ai _ (Ai _ x)⟩
 . unfold argsOk;rw [signature?_of (n:=['_','_','t','i','n','i','_','_']) (o := "tcejbo".toList) (by kernel_rfl) F.owner_object]
   kernel_rfl
end
def bZT (z:Str) (k:Nat):It :=
 ⟨λi _=>i<z.cps.size,λi H v H'=>∃ p c,H p=none/\v=.ref p/\H'=upd H p (.tup [.int ((k+i:Nat):Int),.str ⟨#[c]⟩])/\z.cps[i]?=some c,λi _=>z.cps.size=i⟩
def aQ8 {P:Program} {w:World} {K:W.Frag} {elts:List Expr} {x1:Nat} {tp:Pos} (z:Str) (tz:Tok) (e it:Addr) (k:Nat) (hei:e≠it) :
   Turn P w K (.Tuple elts x1 tp) (bZT z k) [e,it] e (λi h=>(∃ old,IsEnum h e it ((k+i:Nat):Int) old)/\h.IsStrIter it "str_ascii_iterator" z tz i) where
 mem:=by simp
 obj:=λi h st b hb=>by
   obtain ⟨⟨old,he⟩,o,ho,c,d⟩:=st;rcases Ay.mp hb with z | z
   . subst z; exact ⟨_,he,λv z=>by cases z⟩
   . rw [Aj.mp z]; exact ⟨o,ho,λv z=>by rw [d] at z; cases z⟩
 keep:=λi h h' st kk=>⟨let ⟨old,he⟩:=st.1; ⟨old,kk e (by simp) _ he⟩,let ⟨o,ho,r⟩:=st.2; ⟨o,kk it (by simp) o ho,r⟩⟩
 item:=by
   intro X hP hw hK hc i pins s σ H E I hf st hg;subst hP hw hK;obtain ⟨⟨old,he⟩,hit⟩:=st;have hi:i<z.cps.size:=hg
   have D:=iM k (Draws.strAscii (prog:=X.prog) (w:=X.w) (A:=X.A.in1) (show X.A.in1.handled=none from I.ok.hd hc) it z tz)
   refine wpAny_pyNext_enum_itemD D (i:=k+i) he ⟨Ff _ _,by rw [Cz]; exact hit⟩ (by omega) hei (λz=>hei (Aj.mp z)) λy h1 tk hP ho hS hT hsz kk=>?_
   refine ⟨_,rfl,wpAny_letOwnedTupleGo_enum ho λh2 he2 hs2=>?_⟩;obtain ⟨c,u,hcu,rfl⟩:=hP;rw [Cz] at hcu;have hTe:s.heap.objs.size≠e:=Gg (Av he)
   have hTi:s.heap.objs.size≠it:=by obtain ⟨o,q,_⟩:=hit; exact Gg (Av q)
   have hT2:h2.get? s.heap.objs.size=some { cls:=.type "tuple",data:=.seq #[.int ((k+i:Nat):Int) tk,.str ⟨#[c]⟩ u] }:=(hs2.2 _ hTe).trans hT
   have hS':h1.IsStrIter it "str_ascii_iterator" z tz (i+1):=by
     have q:=hS.2
     rwa [show k+i+1 - k=i+1 by omega] at q
   have I2:Inv X pins σ (upd H s.heap.objs.size (.tup [.int ((k+i:Nat):Int),.str ⟨#[c]⟩])) { s with heap:=h2,toks:=tk+1 }:=by
     refine I.turnLaid (ch:=[e,it]) hf (λb u hb q=>(hs2.2 b (λz=>hb (by simp [z]))).trans (kk b u (λz=>hb (by simp [z])) (λz=>hb (by simp [z])) q)) (Nat.le_refl _) ⟨bN (by show 2<=_; omega),[.int ((k+i:Nat):Int) tk,.str ⟨#[c]⟩ u],.cons ⟨tk,rfl⟩ (.cons ⟨u,rfl⟩ .nil),_,hT2,rfl,_,rfl⟩
   refine ⟨.ref s.heap.objs.size,_,I2,rfl,⟨_,c,I.hok.fresh (Ah _),rfl,rfl,hcu⟩,⟨⟨_,he2⟩,let ⟨o,ho,r⟩:=hS'; ⟨o,(hs2.2 it hei.symm).trans ho,r⟩⟩,λb hb=>?_⟩
   rcases Ay.mp hb with z | z
   . rw [z,aH hTe.symm]; exact (hf e (by simp)).1
   . rw [List.mem_singleton.mp z,aH hTi.symm]; exact (hf it (by simp)).1
 done:=by
   intro X hP hw hK hc i pins s σ H E I hf st hg;subst hP hw hK;have hx:z.cps.size=i:=hg
   obtain ⟨⟨old,he⟩,hit⟩:=st;have D:=iM k (Draws.strAscii (prog:=X.prog) (w:=X.w) (A:=X.A.in1) (show X.A.in1.handled=none from I.ok.hd hc) it z tz)
   refine wpAny_pyNext_enum_endD D he ⟨Ff _ _,by rw [Cz,hx]; exact hit⟩ λh' eb=>⟨rfl,?_⟩
   exact I.turnAll (t':=s.toks) (ch:=[e,it]) hf λb u hb q=>eb b u (λz=>hb (by simp [z])) q
 self:=λ_ _ _ _ _ st h=>let ⟨⟨_,he⟩,_⟩:=st; Gz he h
section
variable {X:Cx} {l:Expr} {ta tk:TA} {elts:List Expr} {x1:Nat} {tp p pos kp:Pos}
def bQ4 (R:Addr->Hp->Prop) (S:Str->Hp->Prop):List V->Hp->Prop:=λvs H=>match vs with | [.ref j]=>R j H | [.str z]=>S z H | _=>False
def dQA {R:Addr->Hp->Prop} {S:Str->Hp->Prop} {vs:List V} {H:Hp} (q:bQ4 R S vs H):(∃ j,vs=[.ref j]/\R j H)\/(∃ z,vs=[.str z]/\S z H):=by
 unfold bQ4 at q;split at q
 . exact .inl ⟨_,rfl,q⟩
 . exact .inr ⟨_,rfl,q⟩
 . exact q.elim
def cQF (K:W.Frag) (ta tk:TA):TI:=λσ H R=>ta σ H (bQ4 (λa H1=>tk σ H1 (qP λk H2=>(0<=k/\k<2 ^ 62)/\onL (rdL H2 a) (R (Ite K a k.toNat) H2))) λz H1=>tk σ H1 (qP λk H2=>(0<=k/\k<2 ^ 62)/\z.cps.all (· < 128)=true/\R (bZT z k.toNat) H2))
def bZD {pins:Q2} {σ:St} {H1:Hp} {s1:Shared} {z:Str} {tz:Tok} {k:Nat} {h':Heap} {R:It->Hp->Prop} {E:Q0} (I1:Inv X pins σ H1 s1) (he:IsEnum h' (s1.heap.objs.size+1) s1.heap.objs.size ((k:Nat):Int) .none) (hi:h'.IsStrIter s1.heap.objs.size "str_ascii_iterator" z tz 0) (hz:h'.objs.size=s1.heap.objs.size+2)
   (hk:∀ b o,s1.heap.get? b=some o->h'.get? b=some o) (q:R (bZT z k) H1):wpAny (model X.prog X.w) X.A (pyIter (.ref (s1.heap.objs.size+1))) (PIE X pins σ (.Tuple elts x1 tp) R) E { s1 with heap:=h' }:=by
 refine Gz (s:={ s1 with heap:=h' }) he ⟨_,[s1.heap.objs.size+1,s1.heap.objs.size],_,_,H1,rfl,I1.kept (t':=s1.toks) hk,aQ8 z tz _ _ k (Nat.succ_ne_self _),⟨⟨_,he⟩,hi⟩,λb hb=>?_,q⟩
 have z:s1.heap.objs.size<=b:=by
   rcases Ay.mp hb with z | z
   . rw [z]; exact Nat.le_succ _
   . rw [Aj.mp z]; exact Ah _
 exact I1.fpOk z (I1.hok.fresh z)
def xP {kx:Expr} (hg:Gl X "enumerate") (hm:X.mg "enumerate"=none) (ha:PA X [l] ta) (hk:PK X [⟨some "start",kx,kp⟩] tk) (hs:starEach [l] X.env=[(false,eval l X.env)]:=by rfl)
   (hks:keywordEach [⟨some "start",kx,kp⟩] X.env=[(some ("start" : Str),eval kx X.env)]:=by rfl) :
   PI X (.Tuple elts x1 tp) (.Call (.Name "enumerate" p) [l] [⟨some "start",kx,kp⟩] pos) (cQF X.K ta tk):=by
 intro pins s σ H R I h;have hs2:backTo pos (starEach [l] X.env)=[(false,eval l X.env)]:=by rw [hs]; rfl
 refine Dp (kC I hg hm boot_enumerate (nK (by rw [hs2]; rfl) (by rw [hks]; rfl) ?_))
 rw [hs2];refine evalArgs_kwB (by rw [hks]; rfl) ?_
 rw [<-hs2];refine thn (ha pos pins s σ H _ I h) λus s1 ⟨vs,H1,I1,r1,q1⟩=>?_;have e:(backToKw pos (keywordEach [⟨some "start",kx,kp⟩] X.env)).filterMap (·.1)=(["start"]:List Str):=by rw [hks]; rfl
 rcases dQA q1 with ⟨a,rfl,q⟩ | ⟨z,rfl,q⟩
 . refine thn (hk pos pins s1 σ H1 _ I1 q) λws s2 ⟨zs,H2,I2,r2,q2⟩=>?_;obtain ⟨k,rfl,⟨k0,k1⟩,q⟩:=qE q2;obtain ⟨u,rfl,ru⟩:=gD r1;cases ru;obtain ⟨u,rfl,t,rfl⟩:=gD r2;unfold onL at q;split at q
   . rename_i xs ex
     obtain ⟨its,rv,p,hz⟩:=I2.list (bB ex);rw [e];refine nW (by unfold Builtin.SmallTypes.fitsIndex; rw [An (by omega),An (by omega)]; rfl) p.isList λh' he hi hz hk=>wA I2 (k:=k.toNat) ?_ hi hz hk q
     rw [show ((k.toNat:Nat):Int)=k by omega]
     exact he
   . exact q.elim
 . refine thn (hk pos pins s1 σ H1 _ I1 q) λws s2 ⟨zs,H2,I2,r2,q2⟩=>?_;obtain ⟨k,rfl,⟨k0,k1⟩,hz,q⟩:=qE q2;obtain ⟨u,rfl,ru⟩:=gD r1;obtain ⟨tz,rfl⟩:=ru;obtain ⟨u,rfl,t,rfl⟩:=gD r2;rw [e];refine sZ hz (by unfold Builtin.SmallTypes.fitsIndex; rw [An (by omega),An (by omega)]; rfl) λh' he hi hz hk=>bZD I2 (k:=k.toNat) ?_ hi hz hk q
   rw [show ((k.toNat:Nat):Int)=k by omega]
   exact he
end
section
variable {K:W.Frag} {a:Addr} {k:Nat} {g:TG} {D:Ends} {σ σ0:St} {H H1:Hp} {tests:TT} {te:TE} {Q:VK} {z:Str} {ta tk:TA}
def cXC (f:Nat->Nat->Option V) (hl:z.length<sizeLine)
   (hs:∀ (i:Nat) c Hc p (A:VK) (B:Hp->Prop),z.cps.toList[i]?=some c->Same H1 Hc->Hc p=none->(∀ Hd,Same (upd Hc p (.tup [.int ((k+i:Nat):Int),.str ⟨#[c]⟩])) Hd->match f i c with | some y=>A y Hd | none=>B Hd)->
     g (.ref p) σ0 (upd Hc p (.tup [.int ((k+i:Nat):Int),.str ⟨#[c]⟩])) λσ2 H2=>Wk σ0 σ2/\tests σ2 H2 λb H3=>if b=true then te σ2 H3 A else B H3)
   (fin:∀ D Hd,H1 D=none->Same H1 Hd->rdL Hd D=some ((List.range z.length).filterMap λi=>f i (z.cps.toList.getD i 0))->Q (.ref D) Hd):fA g tests te σ0 Q (bZT z k) H1:=by
 intro D hD;have hzz:z.cps.size=z.length:=rfl
 refine ⟨λi m Hc=>m=z.length - i/\i<=z.length/\Same H1 Hc/\Hc D=some (.lst ((List.range i).filterMap λi=>f i (z.cps.toList.getD i 0))),⟨z.length,by simp,Nat.zero_le _,aG hD _,by rw [aD]; rfl⟩,?_⟩
 rintro i m Hc ⟨rfl,hi,sm,hDc⟩;by_cases hlt:i<z.length
 . refine .inr ⟨hlt,λv H' y=>?_⟩;obtain ⟨q,c,hq,rfl,rfl,hz⟩:=y;have hx:z.cps.toList[i]?=some c:=by rw [Dk]; exact hz
   have hg:z.cps.toList.getD i 0=c:=by rw [Ac,hx]; rfl
   refine hs i c Hc q _ _ hx sm hq λHd sd=>?_;have hDd:Hd D=some (.lst ((List.range i).filterMap λi=>f i (z.cps.toList.getD i 0))):=sd _ _ (aG hq _ _ _ hDc)
   have sH:Same H1 Hd:=sm.trans ((aG hq _).trans sd)
   cases e:f i c with
   | some y=>
     refine ⟨_,hDd,?_,z.length - (i+1),by omega,rfl,hlt,λb o hb=>?_,?_⟩
     . have:=Ct (λi=>f i (z.cps.toList.getD i 0)) (List.range i)
       rw [Ca] at this;omega
     . rw [aH (bF hb hD)]; exact sH b o hb
     . rw [aD,Bx,Bv,Cu (b:=y) (by rw [hg,e]),Co]
   | none=>
     refine ⟨z.length - (i+1),by omega,rfl,hlt,sH,?_⟩
     rw [hDd,Bx,Bv,Cv (by rw [hg,e]),Co,Bi]
 . have e:i=z.length:=by omega
   subst e;exact .inl ⟨hzz,fin D Hc hD sm (aT hDc)⟩
def cQB {R:It->Hp->Prop} (h:ta σ H (bQ4 (λa H1=>tk σ H1 (qP λk H2=>(0<=k/\k<2 ^ 62)/\onL (rdL H2 a) (R (Ite K a k.toNat) H2))) λz H1=>tk σ H1 (qP λk H2=>(0<=k/\k<2 ^ 62)/\z.cps.all (· < 128)=true/\R (bZT z k.toNat) H2))):cQF K ta tk σ H R:=h
def eQ8 {i:Int} (h:Q (.int (-i)) H):eQC (.int i) H Q:=h
def dQD {R:Addr->Hp->Prop} {S:Str->Hp->Prop} (h:R a H):bQ4 R S [.ref a] H:=h
def cZD {R:Addr->Hp->Prop} {S:Str->Hp->Prop} (h:S z H):bQ4 R S [.str z] H:=h
end
end L2
namespace L2
open PySem PySem.Spec PyProof.Rows
section
variable {X:Cx} {a b:Expr} {ta tb:TE} {pos:Pos} {rest:List Expr}
def bJQ:Value->Bool
 | .none=>true
 | _=>false
def aJW {x:V} {u:Value} (f:bQ x=true) (r:RelV x u):eqV x .non=bJQ u:=by
 cases x with
 | non=>cases r; rfl
 | bl b=>cases r; rfl
 | int i=>obtain ⟨t,rfl⟩:=r; rfl
 | str i=>obtain ⟨t,rfl⟩:=r; rfl
 | byt i=>cases f
 | flt i=>cases f
 | ref i=>cases f
 | ty i=>cases f
def aZK:V->List V->Hp->VK->Prop:=λx vs H Q=>∃ (p:Addr) (xs:List V) (j:Nat),x=.ref p/\vs=[.non]/\rdL H p=some xs/\xs.all bQ=true/\xs[j]?=some .non/\(∀ i y,i<j->xs[i]?=some y->y≠.non)/\Q (.int (j:Int)) H
def cQI:MtR X "list.index" aZK:=by
 intro pins s σ H x vs v us Q I rx rv h;obtain ⟨p,xs,j,rfl,rfl,hp,hf,hj,hb,q⟩:=h;cases rx;obtain ⟨u,rfl,ru⟩:=rv.one;cases ru;obtain ⟨its,r,pl,hz⟩:=I.list (bB hp);obtain ⟨⟨c,dd,dt,sl⟩,ho,hc,n,hd⟩:=pl.isList;obtain rfl:c=.type "list" := hc;obtain rfl:dt=.seq its.toArray n:=hd;have hlen:=r.length
 have hjl:j<xs.length:=(Ad.mp hj).1
 have hn:=kD
 have rel:∀ m (hm:m<its.length),∃ x,xs[m]?=some x/\bQ x=true/\RelV x its[m]:=λm hm=>by
   have hm':m<xs.length:=by omega
   obtain ⟨u,hu,ru⟩:=r.get (Aa hm');rw [Aa hm] at hu;cases hu;exact ⟨_,Aa hm',Ck.mp hf _ (Bq _),ru⟩
 have fl:∀ m (hm:m<its.length) x,xs[m]?=some x->bJQ its[m]=eqV x .non:=λm hm x hx=>by
   obtain ⟨y,hy,fy,ry⟩:=rel m hm;rw [hx] at hy;cases hy;exact (aJW fy ry).symm
 refine Gq Fg ⟨_,ho,rfl⟩ PySem.F.entry_list_index (PySem.F.args_list_index_2 _ _) (SeqAt.list_indexAt p its.toArray n dd sl .none bJQ j (by rw [Bb]; omega) (by omega) ?_ ?_) ⟨ho,λy hy=>?_,⟨.int j,H,I.tok _,⟨_,rfl⟩,q⟩⟩
 . rw [Ge,fl j (by omega) _ hj]
   rfl
 . intro m hm hmj;have hm':m<its.length:=by rw [Bb] at hm; exact hm
   obtain ⟨y,hy,fy,ry⟩:=rel m hm';rw [Ge,fl m hm' _ hy];have:=hb m y hmj hy
   cases y with
   | non=>exact absurd rfl this
   | _=>rfl
 . have hy':y∈its:=by simpa using hy
   obtain ⟨m,hm,rfl⟩:=By.mp hy';obtain ⟨z,hz,fz,rz⟩:=rel m hm;rw [<-aJW fz rz];exact aXC rz (show RelV .non .none from rfl) fz rfl
def bJ6:List V->Hp->VK->Prop:=λxs H Q=>∃ z:Str,xs=[.str z]/\z.length<=sizeLine/\∀ l,H l=none->Q (.ref l) (upd H l (.lst (z.cps.toList.map λc=>.str ⟨#[c]⟩)))
def cZJ (hc:X.calm=true):CallR X (.type "list") bJ6:=by
 intro pins s σ H xs us Q I r h;obtain ⟨z,rfl,hl,q⟩:=h;obtain ⟨u,rfl,t,rfl⟩:=gD r;refine call_list_str (I.ok.hd hc) z t (λh' tk acc c' hk hS hacc=>?_) hl;have hsz:z.cps.toList.length=z.length:=by simp [Str.length]
 refine ⟨.ref s.heap.objs.size,_,I.laid (t':=tk) hk (Ah _) (show ObjOk X.prog X.w _ h' _ (.lst (z.cps.toList.map λc=>.str ⟨#[c]⟩)) from ⟨by rw [Ab,hsz]; exact hl,acc.toList,c',aZA ?_ λj x u hx hu=>?_,hS⟩),rfl,q _ (I.hok.fresh (Ah _))⟩
 . rw [Ab,hsz,Gj,hacc.1]; rfl
 . obtain ⟨c,w,hc,rfl⟩:=hacc.2 j u (by rw [<-Dk]; exact hu)
   rw [Af,Dk,hc] at hx;cases hx;exact ⟨w,rfl⟩
section
variable {H:Hp} {Q:VK} {p:Addr} {xs:List V} {z:Str} {j:Nat}
def aJG {g:TG} {tests:TT} {te:TE} {σ0:St} {H1:Hp} (f:Nat->Option V) (hl:z.length<sizeLine)
   (hs:∀ (i:Nat) c Hc (A:VK) (B:Hp->Prop),z.cps.toList[i]?=some c->Same H1 Hc->(∀ Hd,Same Hc Hd->match f c with | some y=>A y Hd | none=>B Hd)->
     g (.str ⟨#[c]⟩) σ0 Hc λσ2 H2=>Wk σ0 σ2/\tests σ2 H2 λb H3=>if b=true then te σ2 H3 A else B H3)
   (fin:∀ D Hd,H1 D=none->Same H1 Hd->Hd D=some (.lst (z.cps.toList.filterMap f))->Q (.ref D) Hd):fA g tests te σ0 Q (Its z) H1:=by
 intro D hD;have hzz:z.cps.size=z.length:=rfl
 have hz2:z.cps.toList.length=z.length:=by simp [Str.length]
 refine ⟨λi m Hc=>m=z.length - i/\i<=z.length/\Same H1 Hc/\Hc D=some (.lst ((z.cps.toList.take i).filterMap f)),⟨z.length,by simp,Nat.zero_le _,aG hD _,by rw [aD]; rfl⟩,?_⟩
 rintro i m Hc ⟨rfl,hi,sm,hDc⟩;by_cases hlt:i<z.length
 . refine .inr ⟨hlt,λv H' y=>?_⟩;obtain ⟨rfl,c,hz,rfl⟩:=y;have hx:z.cps.toList[i]?=some c:=by rw [Dk]; exact hz
   refine hs i c H' _ _ hx sm λHd sd=>?_;have hDd:Hd D=some (.lst ((z.cps.toList.take i).filterMap f)):=sd _ _ hDc
   have sH:Same H1 Hd:=sm.trans sd
   cases e:f c with
   | some y=>
     refine ⟨_,hDd,?_,z.length - (i+1),by omega,rfl,hlt,λb o hb=>?_,?_⟩
     . have:=Ct f (z.cps.toList.take i)
       rw [Bt] at this;omega
     . rw [aH (bF hb hD)]; exact sH b o hb
     . rw [aD,Bd,hx,Bv];show some (HO.lst (_++[y]))=some (HO.lst (_++[c].filterMap f))
       rw [Cu e,Co]
   | none=>
     refine ⟨z.length - (i+1),by omega,rfl,hlt,sH,?_⟩
     rw [hDd,Bd,hx,Bv];show some (HO.lst _)=some (HO.lst (_++[c].filterMap f))
     rw [Cv e,Co,Bi]
 . have e:i=z.length:=by omega
   subst e;refine .inl ⟨Ah _,fin D Hc hD sm ?_⟩;rw [hDc,Bf (by omega)]
def bQD {g:TG} {tests:TT} {te:TE} {σ0:St} {H1:Hp} {n:Nat} {lo:Int} (f:Nat->Option V) (hl:n<sizeLine)
   (hs:∀ (i:Nat) Hc (A:VK) (B:Hp->Prop),i<n->Same H1 Hc->(∀ Hd,Same Hc Hd->match f i with | some y=>A y Hd | none=>B Hd)->
     g (.int (lo+i)) σ0 Hc λσ2 H2=>Wk σ0 σ2/\tests σ2 H2 λb H3=>if b=true then te σ2 H3 A else B H3)
   (fin:∀ D Hd,H1 D=none->Same H1 Hd->Hd D=some (.lst ((List.range n).filterMap f))->Q (.ref D) Hd):fA g tests te σ0 Q (Itr lo n) H1:=by
 intro D hD;refine ⟨λi m Hc=>m=n - i/\i<=n/\Same H1 Hc/\Hc D=some (.lst ((List.range i).filterMap f)),⟨n,by simp,Nat.zero_le _,aG hD _,by rw [aD]; rfl⟩,?_⟩
 rintro i m Hc ⟨rfl,hi,sm,hDc⟩;by_cases hlt:i<n
 . refine .inr ⟨hlt,λv H' y=>?_⟩;obtain ⟨rfl,rfl⟩:=y;refine hs i H' _ _ hlt sm λHd sd=>?_;have hDd:Hd D=some (.lst ((List.range i).filterMap f)):=sd _ _ hDc
   have sH:Same H1 Hd:=sm.trans sd
   cases e:f i with
   | some y=>
     refine ⟨_,hDd,?_,n - (i+1),by omega,rfl,hlt,λb o hb=>?_,?_⟩
     . have:=Ct f (List.range i)
       rw [Ca] at this;omega
     . rw [aH (bF hb hD)]; exact sH b o hb
     . rw [aD,Bx,Bv,Cu e,Co]
   | none=>
     refine ⟨n - (i+1),by omega,rfl,hlt,sH,?_⟩
     rw [hDd,Bx,Bv,Cv e,Co,Bi]
 . have e:i=n:=by omega
   subst e;exact .inl ⟨Ah _,fin D Hc hD sm hDc⟩
def bJT (e:rdL H p=some xs) (f:xs.all bQ=true) (hj:xs[j]?=some .non) (hb:∀ i y,i<j->xs[i]?=some y->y≠.non) (h:Q (.int (j:Int)) H):aZK (.ref p) [.non] H Q:=⟨p,xs,j,rfl,rfl,e,f,hj,hb,h⟩
def cZP (hl:z.length<=sizeLine) (h:∀ l,H l=none->Q (.ref l) (upd H l (.lst (z.cps.toList.map λc=>.str ⟨#[c]⟩)))):bJ6 [.str z] H Q:=⟨z,rfl,hl,h⟩
end
end
end L2
namespace L2
open PySem PySem.Spec PyProof.Rows
section
variable {X:Cx}
def dZJ (neg:Bool):R2:=λx y H Q=>∃ a ov,y=.ref a/\DGet H a x ov/\Q (.bl (if neg then !ov.isSome else ov.isSome)) H
def eXP (hu:X.A.units+1<cLine):OpR X (compareOp .In) (dZJ false):=by
 intro pins s σ H x y v u Q I rx ry h;obtain ⟨a,ov,rfl,g,q⟩:=h;cases ry;exact eZO hu I g rx λs3 I3=>⟨.bl ov.isSome,H,I3,rfl,q⟩
def bZ1 (hu:X.A.units+1<cLine):OpR X (compareOp .NotIn) (dZJ true):=by
 intro pins s σ H x y v u Q I rx ry h;obtain ⟨a,ov,rfl,g,q⟩:=h;cases ry;exact cZE hu I g rx λs3 I3=>⟨.bl (!ov.isSome),H,I3,rfl,q⟩
section
variable {H:Hp} {Q:VK} {a:Addr} {kvs:List (Key×V)} {z:Str}
def dQX {neg:Bool} (e:Rd H a (.dK kvs)) (h:Q (.bl (if neg then !(bW kvs (Sum.inr z)).isSome else (bW kvs (Sum.inr z)).isSome)) H):dZJ neg (.str z) (.ref a) H Q:=⟨a,_,rfl,.inl ⟨kvs,.inr z,e,rfl,rfl⟩,h⟩
end
end
end L2
namespace L2
open PySem PySem.Spec PyProof.Rows PySem.Builtin PySem.Builtin.Str
section
end
end L2
namespace L2
open PySem PySem.Spec PyProof.Rows
section
end
section
end
section
end
section
end
section
end
end L2
namespace L2
open PySem PySem.Spec PyProof.Rows
section
variable {g:TG} {tests:TT} {te:TE} {σ0:St} {Q:VK} {H1:Hp}
def iS {f:Nat->Option V} {i:Nat} {y:V} (h:f i=some y):(List.range (i+1)).filterMap f=(List.range i).filterMap f++[y]:=by
 rw [Bx,Bv,Cu h,Co]
def mL {f:Nat->Option V} {i:Nat} (h:f i=none):(List.range (i+1)).filterMap f=(List.range i).filterMap f:=by
 rw [Bx,Bv,Cv h,Co,Bi]
def gE {K:W.Frag} {a:Addr} {xs:List V} (f:Nat->Option V) (ha:rdL H1 a=some xs) (hl:xs.length<sizeLine)
   (hs:∀ (i:Nat) x Hc (A:VK) (B:Hp->Prop),xs[i]?=some x->Same H1 Hc->(∀ y,f i=some y->∀ Hd,Same Hc Hd->A y Hd)->(f i=none->∀ Hd,Same Hc Hd->B Hd)->
     g x σ0 Hc λσ2 H2=>Wk σ0 σ2/\tests σ2 H2 λb H3=>if b=true then te σ2 H3 A else B H3)
   (fin:∀ D Hd,H1 D=none->Same H1 Hd->Hd D=some (.lst ((List.range xs.length).filterMap f))->Q (.ref D) Hd):fA g tests te σ0 Q (Itl K a) H1:=by
 refine jX (n:=xs.length) (λD i ys Hc=>Same H1 Hc/\ys=(List.range i).filterMap f) hl (λD hD=>⟨aG hD _,rfl⟩)
   (λD i ys Hc _ r h=>⟨xs,xs[i],bB (aK r.1 ha),by simp [h]⟩) (λD ys Hc _ r=>⟨xs,bB (aK r.1 ha),Nat.le_refl _⟩) ?_ ?_
 . rintro D i ys Hc x H' A B hD hi ⟨sm,rfl⟩ hDc ⟨rfl,hz⟩ ha' hb;refine hs i x H' A B (hz xs (bB (aK sm ha))) sm (λy hy Hd sd=>?_) (λhn Hd sd=>?_)
   . exact ha' _ _ (sd _ _ hDc) ⟨bI hD (sm.trans sd),(iS hy).symm⟩
   . exact hb _ (sd _ _ hDc) ⟨sm.trans sd,(mL hn).symm⟩
 . rintro D ys Hc hD ⟨sm,rfl⟩ hDc _;exact fin D Hc hD sm hDc
def cXG {K:W.Frag} {a:Addr} {k:Nat} {xs:List V} (f:Nat->Option V) (ha:rdL H1 a=some xs) (hl:xs.length<sizeLine)
   (hs:∀ (i:Nat) x Hc p (A:VK) (B:Hp->Prop),xs[i]?=some x->Same H1 Hc->Hc p=none->(∀ y,f i=some y->∀ Hd,Same (upd Hc p (.tup [.int ((k+i:Nat):Int),x])) Hd->A y Hd)->(f i=none->∀ Hd,Same (upd Hc p (.tup [.int ((k+i:Nat):Int),x])) Hd->B Hd)->
     g (.ref p) σ0 (upd Hc p (.tup [.int ((k+i:Nat):Int),x])) λσ2 H2=>Wk σ0 σ2/\tests σ2 H2 λb H3=>if b=true then te σ2 H3 A else B H3)
   (fin:∀ D Hd,H1 D=none->Same H1 Hd->Hd D=some (.lst ((List.range xs.length).filterMap f))->Q (.ref D) Hd):fA g tests te σ0 Q (Ite K a k) H1:=by
 refine jX (n:=xs.length) (λD i ys Hc=>Same H1 Hc/\ys=(List.range i).filterMap f) hl (λD hD=>⟨aG hD _,rfl⟩)
   (λD i ys Hc _ r h=>⟨xs,xs[i],bB (aK r.1 ha),by simp [h]⟩) (λD ys Hc _ r=>⟨xs,bB (aK r.1 ha),rfl⟩) ?_ ?_
 . rintro D i ys Hc x H' A B hD hi ⟨sm,rfl⟩ hDc ⟨q,z,hq,rfl,rfl,hz⟩ ha' hb;refine hs i z Hc q A B (hz xs (bB (aK sm ha))) sm hq (λy hy Hd sd=>?_) (λhn Hd sd=>?_)
   . exact ha' _ _ (sd _ _ (aG hq _ _ _ hDc)) ⟨bI hD (sm.trans ((aG hq _).trans sd)),(iS hy).symm⟩
   . exact hb _ (sd _ _ (aG hq _ _ _ hDc)) ⟨sm.trans ((aG hq _).trans sd),(mL hn).symm⟩
 . rintro D ys Hc hD ⟨sm,rfl⟩ hDc _;exact fin D Hc hD sm hDc
end
section
end
end L2
namespace L2
open PySem PySem.Spec PyProof.Rows
section
end
end L2
namespace L2
open PySem PySem.Spec PyProof.Rows PySem.Builtin PySem.Builtin.Str
section
end
end L2
namespace L2
open PySem PySem.Spec PyProof.Rows
section
variable {prog:Program} {w:World} {A:Around} {E:Q0} {s:Shared} {jt dq:Addr} {n0 ep:Nat} {en:Array DictEntry} {od:Obj}
def cXA {Q:Option Value->Shared->Prop} (hit:s.heap.IsKeyIter jt dq n0 en.size ep) (hod:s.heap.get? dq=some od) (hdd:od.data=.dict en ep) (hi:n0<en.size)
   (hq:∀ h',h'.IsKeyIter jt dq (n0+1) en.size ep->Heap.SameBut jt s.heap h'->Q (some en[n0].key) { s with heap:=h' }):wpAny (model prog w) A (pyNext (.ref jt)) Q E s:=by
 obtain ⟨oi,hoi,ci,di⟩:=id hit;have ow:Builtin.Dict_items.ownsTuple "dict_keyiterator"=false:=by decide
 have tI:=hit.typeIs
 unfold pyNext;refine Ae (wpAny_attempt (wpAny_callSpecial?_slot (name:=Str.ofString "__next__") tI Ef (Hh Ef tI F.entry_dict_keyiterator_next ?_ (F.args_dict_keyiterator_next_1 _))));refine Ae (As (Ae (Ae ?_)));refine Ae (Ee tI (As (Ae (wpAny_fieldsOf hoi di ?_))));simp only [ow,Bool.false_eq_true,if_false];show wpAny _ _ (if (Value.ref dq == Value.none)=true then _ else _) _ _ s
 rw [if_neg (by exact Ap)]
 refine Ae (As (Ae (wpAny_dictEntries hod hdd ?_)));rw [if_neg (by simp)]
 refine Ae (As (Ae (wpAny_dictEpoch hod hdd ?_)));rw [if_neg (by simp)]
 refine As ?_;simp only [show ¬ ((n0:Int)<0) by omega,if_false,Int.toNat_natCast,Array.getElem?_eq_getElem hi]
 refine Ae (Ae (Ee tI (As ?_)));refine Ae (wpAny_isOneOf_keyiter tI ?_);show wpAny _ _ (setField (.ref jt) 1 (rawInt ((n0:Int)+1)) >>= _) _ _ s
 have nx:(s.heap.update jt (Obj.mapFields (·.setIfInBounds 1 (rawInt ((n0:Int)+1))))).IsKeyIter jt dq (n0+1) en.size ep :=
   ⟨_,Heap.get?_update_self _ hoi (Obj.isFreed_of_fields (Obj.data_mapFields di _)),(Obj.cls_mapFields ..).trans ci,by rw [Obj.data_mapFields di]; simp [rawInt]⟩
 refine wpAny_bind (wpAny_setField hoi di (by simp) (wpAny_bind (wpAny_holding (wpAny_bind (wpAny_isOneOf_keyiter (s:={ s with heap:=s.heap.update jt (Obj.mapFields (·.setIfInBounds 1 (rawInt ((n0:Int)+1)))) }) nx.typeIs ?_)))))
 show wpAny _ _ (pure en[n0].key) _ _ _
 exact As (As ⟨_,rfl,As (hq _ nx (Heap.SameBut.update ..))⟩)
def bQ1 {Q:Option Value->Shared->Prop} (hh:A.handled=none) (hit:s.heap.IsKeyIter jt dq en.size en.size ep) (hod:s.heap.get? dq=some od) (hdd:od.data=.dict en ep)
   (hq:∀ h',Heap.ExtBut jt s.heap h'->Q none { s with heap:=h' }):wpAny (model prog w) A (pyNext (.ref jt)) Q E s:=by
 obtain ⟨oi,hoi,ci,di⟩:=id hit;have ow:Builtin.Dict_items.ownsTuple "dict_keyiterator"=false:=by decide
 have tI:=hit.typeIs
 unfold pyNext;refine Ae (wpAny_attempt (wpAny_callSpecial?_slot (name:=Str.ofString "__next__") tI Ef (Hh Ef tI F.entry_dict_keyiterator_next ?_ (F.args_dict_keyiterator_next_1 _))));refine Ae (As (Ae (Ae ?_)));refine Ae (Ee tI (As (Ae (wpAny_fieldsOf hoi di ?_))));simp only [ow,Bool.false_eq_true,if_false];show wpAny _ _ (if (Value.ref dq == Value.none)=true then _ else _) _ _ s
 rw [if_neg (by exact Ap)]
 refine Ae (As (Ae (wpAny_dictEntries hod hdd ?_)));rw [if_neg (by simp)]
 refine Ae (As (Ae (wpAny_dictEpoch hod hdd ?_)));rw [if_neg (by simp)]
 refine As ?_;simp only [show ¬ ((en.size:Int)<0) by omega,if_false,Int.toNat_natCast,Array.getElem?_eq_none (Nat.le_refl en.size)]
 refine Ae (Ae (Ee tI (As ?_)));show wpAny _ _ (setField (.ref jt) 0 .none >>= _) _ _ s
 refine wpAny_bind (wpAny_setField hoi di (by simp) ?_)
 show wpAny _ _ (newExc (Value.type "StopIteration") [] >>= _) _ _ _
 refine Ae ?_;simp only [newTuple,newExc];refine wpAny_bind (wpAny_newObj_type (wpAny_bind (m:=firstArgMember _ _) (wpAny_of_eq (a:=Value.none) (by first | rfl | (simp only [firstArgMember]; rfl)) (wpAny_newObj_type ?_ (by size_fits)))) (by size_fits))
 simp only [raiseNew];refine Ae (wpAny_handled (?_:_));rw [show A.in1.handled=none by exact hh]
 refine Ae (As (wpAny_throw ?thr));case thr=>
  refine Ae (wpAny_isInstance (b:=true) (T := "StopIteration") ⟨_,Ba _ rfl,rfl⟩ isSubtype_stop ?_);exact As (hq _ (((Heap.SameBut.update ..).extBut.push _).push _))
end
def ItT (a:Addr) (o:Obj) (kvs:List (List Key×V)):It:=⟨λi H=>H a=some (.frz o (.dT kvs))/\i<kvs.length,λi H x H'=>H'=H/\∃ kv b,kvs[i]?=some kv/\x=.ref b/\H b=some (.tup (kv.1.map kV)),λi H=>H a=some (.frz o (.dT kvs))/\kvs.length=i⟩
def vJ {X:Cx} {pins:Q2} {σ:St} {H:Hp} {s:Shared} {a:Addr} {o:Obj} {kvs:List (List Key×V)} {ep:Nat} (I:Inv X pins σ H s) (ha:H a=some (.frz o (.dT kvs))) (hep:∃ es,o.data=.dict es ep) :
   kvs.length<=sizeLine/\(a == sysModules)=false/\∃ xs es,KT H kvs xs/\s.heap.get? a=some o/\o.data=.dict es ep/\o.ExactDict/\es.toList=xs.map (entryOfKey (tupleKind (aZ X.prog X.w))):=by
 have ok:s.heap.get? a=some o/\ObjOk X.prog X.w H s.heap a (.dT kvs):=I.hok a _ ha
 obtain ⟨e,z,hd,xs,rel,o',es',ep',ho',hx,hdat,he,_⟩:=ok;rw [e] at ho';cases ho';obtain ⟨es,hes⟩:=hep;have q:=hdat
 rw [hes] at q;cases q;exact ⟨z,hd,xs,_,rel,e,hdat,hx,he⟩
def aQK {P:Program} {w:World} {K:W.Frag} {tg:Expr} (a it:Addr) (o:Obj) (kvs:List (List Key×V)) (ep:Nat) (hep:∃ es,o.data=.dict es ep):Turn P w K tg (ItT a o kvs) [it] it (λi h=>h.IsKeyIter it a i kvs.length ep) where
 mem:=by simp
 obj:=λi h st b hb=>by
   obtain ⟨o,e,c,d⟩:=st;rw [Aj.mp hb];exact ⟨o,e,λv z=>by rw [d] at z; cases z⟩
 keep:=λi h h' st k=>let ⟨o,ho,r⟩:=st; ⟨o,k it (by simp) o ho,r⟩
 item:=by
   intro X hP hw hK hc i pins s σ H E I hf st hg;subst hP hw hK;obtain ⟨ha,hi⟩:=hg;obtain ⟨z,hd,xs,es,rel,ho,hdat,hx,he⟩:=vJ I ha hep;have hlv:=rel.length
   have hsz:es.size=xs.length:=by rw [<-Gj,he,Ab]
   obtain ⟨f0,f1,f2,f3,f4,f5⟩:=hf it (by simp)
   obtain ⟨⟨k,b,v⟩,hxi,hk1,hk2,_⟩:=qU rel (Aa hi);have hie:i<es.size:=by omega
   have hkey:es[i].key=.ref b:=by
     have q:es[i]?=some (entryOfKey (tupleKind (aZ X.prog X.w)) (k,b,v)):=by rw [<-Dk,he,Af,hxi]; rfl
     rw [Di hie] at q;rw [Bh q];rfl
   refine cXA (en:=es) (by rw [hsz,<-hlv]; exact st) ho hdat hie λh' st' sb=>?_
   rw [hkey];have I1:Inv X pins σ H { s with heap:=h' }:=I.turned (t':=s.toks) (λb o hb e=>(sb.2 b hb).trans e) f0 f1 f3 f4 f5
   obtain ⟨oi,e,c,d⟩:=id st';refine ⟨.ref b,rfl,uV (s:={ s with heap:=h' }) e c d (by decide) ⟨.ref b,H,I1,rfl,⟨rfl,kvs[i],b,Aa hi,rfl,hk2⟩,?_,λb hb=>(hf b hb).1⟩⟩
   rw [hlv,<-hsz];exact st'
 done:=by
   intro X hP hw hK hc i pins s σ H E I hf st hg;subst hP hw hK;obtain ⟨ha,hi⟩:=hg;obtain ⟨z,hd,xs,es,rel,ho,hdat,hx,he⟩:=vJ I ha hep;have hlv:=rel.length
   have hsz:es.size=xs.length:=by rw [<-Gj,he,Ab]
   obtain ⟨f0,f1,f2,f3,f4,f5⟩:=hf it (by simp)
   exact bQ1 (en:=es) (I.ok.hd hc) (by rw [hsz,<-hlv]; rw [<-hi] at st; exact st) ho hdat λh' eb=>⟨rfl,I.turned (t':=s.toks) (λb o hb e=>eb b o hb e) f0 f1 f3 f4 f5⟩
 self:=λ_ _ _ _ _ st h=>wpAny_pyIter_keyiter st h
section
variable {prog:Program} {w:World} {A:Around} {E:Q0} {s:Shared} {dq:Addr} {en:Array DictEntry} {ep:Nat} {od:Obj}
def aJ3 {Q:Q0} (hs:(dq == sysModules)=false) (hod:s.heap.get? dq=some od) (hx:od.ExactDict) (hdd:od.data=.dict en ep)
   (hq:Q (.ref s.heap.objs.size) { s with heap:=s.heap.push { cls:=.type "dict_keyiterator",data:=.fields #[.ref dq,.int 0 0,.int en.size 0,.int ep 0] } }):wpAny (model prog w) A (pyIter (.ref dq)) Q E s:=by
 have tD:s.TypeIs (.ref dq) "dict" := ⟨od,hod,hx.1⟩
 refine wpAny_pyIter_slot tD F.slot_dict_iter (Hh F.slot_dict_iter tD F.entry_dict_iter ?_ (F.args_dict_iter_1 _));unfold Builtin.«dict.__iter__» ; refine Ae ?_;unfold Builtin.Dict.dictSlotNone ; refine Ae (wpAny_notOrdered_dict tD ?_);show wpAny _ _ (pure (Value.ref dq)) _ _ s
 refine As ?_;show wpAny _ _ (Builtin.Dict.showsAll dq >>= _) _ _ s
 unfold Builtin.Dict.showsAll;rw [if_neg (by rw [hs]; decide)]
 refine Ae (As (Ae (wpAny_dictEntries hod hdd (Ae (wpAny_dictEpoch hod hdd ?_)))));refine Ae (Gy (As ⟨_,rfl, "dict_keyiterator",_,⟨_,Ba _ rfl,rfl⟩,F.slot_dict_keyiterator_next.lookup,(?_:_)⟩))
 simpa [rawInt] using hq
end
section
variable {X:Cx} {tg:Expr} {pins:Q2} {σ:St} {H:Hp} {s:Shared} {a:Addr}
def bQ5 {kvs:List (List Key×V)} (I:Inv X pins σ H s) (ha:H a=some (.dT kvs)):∃ o es ep,s.heap.get? a=some o/\o.data=.dict es ep:=by
 obtain ⟨_,_,xs,_,o,es,ep,ho,_,hd,_⟩:=dQW I.hok ha;exact ⟨o,es,ep,ho,hd⟩
def bZB {o:Obj} {kvs:List (List Key×V)} (I:Inv X pins σ H s) (ha:H a=some (.frz o (.dT kvs))):∃ ep,∃ es,o.data=.dict es ep:=by
 have ok:s.heap.get? a=some o/\ObjOk X.prog X.w H s.heap a (.dT kvs):=I.hok a _ ha
 obtain ⟨e,_,_,xs,_,o',es,ep,ho,_,hd,_⟩:=ok;rw [e] at ho;cases ho;exact ⟨ep,es,hd⟩
def nJ (H:Hp) (a:Addr) (R:Obj->List (List Key×V)->Hp->Prop):Prop:=(∃ kvs,H a=some (.dT kvs)/\∀ o,R o kvs (upd H a (.frz o (.dT kvs))))\/∃ o kvs,H a=some (.frz o (.dT kvs))/\R o kvs H
def bZ8 {R:Obj->List (List Key×V)->Hp->Prop} (I:Inv X pins σ H s) (h:nJ H a R) :
   ∃ o kvs H' ep,Inv X pins σ H' s/\H' a=some (.frz o (.dT kvs))/\(∃ es,o.data=.dict es ep)/\R o kvs H':=by
 rcases h with ⟨kvs,ha,q⟩ | ⟨o,kvs,ha,q⟩
 . obtain ⟨o,es,ep,ho,hd⟩:=bQ5 I ha;exact ⟨o,kvs,_,ep,I.freeze ha rfl ho,aD,⟨es,hd⟩,q o⟩
 . obtain ⟨ep,es,hd⟩:=bZB I ha;exact ⟨o,kvs,H,ep,I,ha,⟨es,hd⟩,q⟩
def bZC (tl:TE):TI:=λσ H R=>tl σ H (iN λa H1=>nJ H1 a λo kvs H2=>R (ItT a o kvs) H2)
def nM {l:Expr} {tl:TE} (hl:PE X l tl):PI X tg l (bZC tl):=by
 intro pins s σ H R I h;refine thn (hl pins s σ H _ I h) λv s1 ⟨x,H1,I1,r1,q1⟩=>?_;unfold iN at q1;split at q1
 . cases r1;rename_i a0 _
   obtain ⟨o,kvs,H2,ep,I2,ha,hep,q⟩:=bZ8 I1 q1;obtain ⟨z,hd,xs,es,rel,ho,hdat,hx,he⟩:=vJ I2 ha hep;have hsz:es.size=kvs.length:=by rw [<-Gj,he,Ab,rel.length]
   refine aJ3 hd ho hx hdat ?_;refine ⟨s1.heap.objs.size,[s1.heap.objs.size],_,_,H2,rfl,I2.kept (t':=s1.toks) λb o e=>Ai _ e,aQK a0 _ o kvs ep hep,⟨_,Ba _ rfl,rfl,by rw [hsz]; rfl⟩,λb hb=>?_,q⟩
   rw [Aj.mp hb];exact I2.fpOk (Ah _) (I2.hok.fresh (Ah _))
 . exact q1.elim
def dXM:V->List V->Hp->VK->Prop:=λx vs H Q=>∃ a y ov,x=.ref a/\vs=[y]/\DGet H a y ov/\Q (ov.getD .non) H
end
section
variable {σ:St} {H:Hp} {Q:VK} {D:Ends} {a b:Addr} {kvs:List (List Key×V)} {k:List Key} {v:V} {tl:TE} {R:It->Hp->Prop} {g:TG} {tb:TS} {o:Obj}
def bJ2 (Pv:Nat->St->Hp->Prop) (h0:Pv 0 σ H) (hl:∀ i σ H,i<=kvs.length->Pv i σ H->H a=some (.frz o (.dT kvs)))
   (hs:∀ i kv b σ H,kvs[i]?=some kv->H b=some (.tup (kv.1.map kV))->Pv i σ H->g (.ref b) σ H λσ2 H2=>tb { D with nx:=Pv (i+1),ct:=Pv (i+1),bk:=D.nx } σ2 H2) (hd:∀ σ H,Pv kvs.length σ H->D.nx σ H):zW (ItT a o kvs) g tb D σ H:=by
 refine ⟨λi m σ H=>m=kvs.length - i/\i<=kvs.length/\Pv i σ H,⟨kvs.length,by simp,Nat.zero_le _,h0⟩,?_⟩
 rintro i m σ H ⟨rfl,hi,p⟩;have hr:=hl i σ H hi p
 by_cases hlt:i<kvs.length
 . refine .inr ⟨⟨hr,hlt⟩,Pv (i+1),λσ' H' p'=>⟨kvs.length - (i+1),by omega,rfl,hlt,p'⟩,λx H' y=>?_⟩
   obtain ⟨rfl,kv,b,hx,rfl,hb⟩:=y;exact hs i kv b σ _ hx hb p
 . have e:i=kvs.length:=by omega
   subst e;exact .inl ⟨⟨hr,rfl⟩,hd σ H p⟩
def bZQ (h:tl σ H (iN λa H1=>nJ H1 a λo kvs H2=>R (ItT a o kvs) H2)):bZC tl σ H R:=h
def xI {Rw:Obj->List (List Key×V)->Hp->Prop} (e:H a=some (.dT kvs)) (h:∀ o,Rw o kvs (upd H a (.frz o (.dT kvs)))):nJ H a Rw:=.inl ⟨kvs,e,h⟩
def bX1 {Rw:Obj->List (List Key×V)->Hp->Prop} (e:H a=some (.frz o (.dT kvs))) (h:Rw o kvs H):nJ H a Rw:=.inr ⟨o,kvs,e,h⟩
def cJB (h:∀ p,H p=none->Q (.ref p) (upd H p (.dT []))):cXF σ H Q:=h
def aXM (e:Rd H a (.dT kvs)) (eb:H b=some (.tup (k.map kV))) (l:bW kvs k=some v) (h:Q v H):dXP (.ref a) (.ref b) H Q:=⟨a,v,rfl,.inr ⟨kvs,k,b,e,rfl,eb,l.symm⟩,h⟩
def xF (e:H a=some (.dT kvs)) (eb:H b=some (.tup (k.map kV))) (l:kvs.length<sizeLine) (h:D.nx σ (upd H a (.dT (eP kvs k v)))):bZE D σ (.ref a) (.ref b) v H:=⟨a,_,rfl,.inr ⟨kvs,k,b,e,rfl,eb,l,rfl⟩,h⟩
def aZ1 (e:Rd H a (.dT kvs)) (eb:H b=some (.tup (k.map kV))) (h:Q ((bW kvs k).getD .non) H):dXM (.ref a) [.ref b] H Q:=⟨a,_,_,rfl,rfl,.inr ⟨kvs,k,b,e,rfl,eb,rfl⟩,h⟩
end
def bXH {prog:Program} {w:World} {A:Around} {E:Q0} {s:Shared} {Q:Int->Shared->Prop} (h:Q 0xFCA86420 { s with toks:=s.toks+1 }):wpAny (model prog w) A (pyHash .none) Q E s:=by
 have tN:s.TypeIs .none "NoneType" := rfl
 unfold pyHash pyHashByItsType;refine Ae ?_;rw [cRoomFor,if_neg (by decide)]
 refine As (Ae (wpAny_specialOf tN F.slot_NoneType_hash.lookup ?_));show wpAny _ _ (if (some (Value.builtin "NoneType.__hash__") == some Value.none)=true then _ else _) Q E s
 rw [if_neg (by rw [beq_builtin_none]; decide)]
 refine Ae (wpAny_specialOf tN F.slot_NoneType_hash.lookup ?_);show wpAny _ _ (callSpecialIfBoundUnlessNone? .none "__hash__" _ >>= _) Q E s
 refine Ae (wpAny_callSpecialIfBoundUnlessNone?_slot tN F.slot_NoneType_hash (Hh F.slot_NoneType_hash tN F.entry_NoneType_hash (show wpAny _ _ (do ret (<-mkInt 0xFCA86420)) _ _ s from wpAny_ret_mkInt ?_) (F.args_NoneType_hash_1 _)))
 show wpAny _ _ (if (decide (-(2:Int) ^ 63<=0xFCA86420) && decide ((0xFCA86420:Int)<2 ^ 63))=true then _ else _) Q E _
 rw [if_pos (by decide)]
 exact As h
def bZO:Option Key->Value->Bool
 | none,.none=>true
 | none,_=>false
 | some k,v=>mC k v
def dC {v:Value} (h:bZO none v=true):v=.none:=by
 cases v <;> first | rfl | (exact absurd h (by decide)) | cases h
def mT {k:Key} {v:Value} (h:mC k v=true):v≠.none:=λz=>by
 rcases bR h with ⟨i,t,_,e⟩ | ⟨x,t,_,e⟩ <;> rw [z] at e <;> cases e
def eJK (w:World):Option Key->Int
 | none=>0xFCA86420
 | some k=>eQ3 w k
def aJB (prog:Program) (w:World):PySem.KeyKind prog w (Option Key) where
 is:=bZO
 hash:=eJK w
 inj:=λv a b ha hb=>by
   cases a with
   | none=>
     cases b with
     | none=>rfl
     | some b=>exact absurd (dC ha) (mT hb)
   | some a=>
     cases b with
     | none=>exact absurd (dC hb) (mT ha)
     | some b=>exact Dt some ((aZ prog w).inj v a b ha hb)
 byValue:=λk v h=>by
   cases k with
   | none=>rw [dC h]; rfl
   | some k=>exact (aZ prog w).byValue k v h
 pyHash:=fun {A E s k v Q} hv h=>by
   cases k with
   | none=>rw [dC hv]; exact bXH h
   | some k=>exact (aZ prog w).pyHash hv h
 eqBool:=fun {A E s a b u v Q} hu hv h=>by
   cases a with
   | none=>
     rw [dC hu];cases b with
     | none=>rw [dC hv]; exact SeqAt.EqAt.same _ _ _ _ _ (by simpa using h)
     | some b=>
       have h2:Q false s:=by simpa using h
       rcases bR (show mC b v=true from hv) with ⟨j,t,_,rfl⟩ | ⟨y,t,_,rfl⟩
       . exact SeqAt.EqAt.none_int _ _ _ _ _ _ h2
       . exact SeqAt.EqAt.none_str _ _ _ _ _ _ h2
   | some a=>
     cases b with
     | none=>
       rw [dC hv];have h2:Q false s:=by simpa using h
       rcases bR (show mC a u=true from hu) with ⟨j,t,_,rfl⟩ | ⟨y,t,_,rfl⟩
       . exact SeqAt.EqAt.int_none _ _ _ _ _ _ h2
       . exact SeqAt.EqAt.str_none _ _ _ _ _ _ h2
     | some b=>
       refine (aZ prog w).eqBool hu hv ?_;have e:decide (some a=some b)=decide (a=b):=Dh.mpr ⟨Bh,λz=>by rw [z]⟩
       rw [e] at h;exact h
 «strs» := λk x t v h=>by
   cases k with
   | none=>exact absurd (dC h) (λz=>nomatch z)
   | some k=>exact (aZ prog w).strs k x t v h
def dZT {prog:Program} {w:World} {h:Heap} {a:Addr} {f:Key->Option Value} (hm:h.MapOf (aZ prog w) a f):h.MapOf (aJB prog w) a (λk=>k.bind f):=by
 obtain ⟨o,es,ep,ho,hx,hd,hk,hf⟩:=hm;refine ⟨o,es,ep,ho,hx,hd,λe he=>?_,λk=>?_⟩
 . obtain ⟨k,h1,h2⟩:=hk e he;exact ⟨some k,h1,h2⟩
 . cases k with
   | some k=>exact hf k
   | none=>
     show findBy bZO es none=none
     unfold findBy;rw [Option.map_eq_none_iff,Array.find?_eq_none];intro e he z;obtain ⟨k,h1,_⟩:=hk e he;exact mT h1 (dC z)
section
variable {X:Cx}
def bJM:R2:=λx y H Q=>∃ a,y=.ref a/\((∃ ov,DGet H a x ov/\Q (.bl ov.isSome) H)\/(x=.non/\∃ kvs,Rd H a (.dK kvs)/\Q (.bl false) H))
def dX6 (hu:X.A.units+1<cLine):OpR X (compareOp .In) bJM:=by
 intro pins s σ H x y v u Q I rx ry h;obtain ⟨a,rfl,h⟩:=h;cases ry;rcases h with ⟨ov,g,q⟩ | ⟨rfl,kvs,e,q⟩
 . exact eZO hu I g rx λs3 I3=>⟨.bl ov.isSome,H,I3,rfl,q⟩
 . cases rx;obtain ⟨z,hd,vs,rel,dd⟩:=oF I.hok e;exact wpAny_in_of (knd:=aJB X.prog X.w) (k:=none) (key:=Value.none) rfl hd (dZT dd.mapOf) ⟨.bl false,H,I.tok _,rfl,q⟩
def bX9 (hu:X.A.units+1<cLine):MtR X "dict.get" dXM:=by
 intro pins s σ H x vs v us Q I rx rv h;obtain ⟨a,y,ov,rfl,rfl,g,q⟩:=h;cases rx;obtain ⟨u,rfl,ru⟩:=rv.one;exact dXX hu I g ru λw1 s1 I1 r1=>⟨_,H,I1,r1,q⟩
end
section
variable {H:Hp} {Q:VK} {a:Addr} {kvs:List (Key×V)} {z:Str}
def dZN (e:Rd H a (.dK kvs)) (h:Q (.bl false) H):bJM .non (.ref a) H Q:=⟨a,rfl,.inr ⟨rfl,kvs,e,h⟩⟩
def cJM (e:Rd H a (.dK kvs)) (h:Q (.bl (bW kvs (Sum.inr z)).isSome) H):bJM (.str z) (.ref a) H Q:=⟨a,rfl,.inl ⟨_,.inl ⟨kvs,.inr z,e,rfl,rfl⟩,h⟩⟩
end
section
variable {X:Cx}
def eX0:R2:=λx y H Q=>∃ (p q:Addr) (a b c d:Int),x=.ref p/\y=.ref q/\H p=some (.tup [.int a,.int b])/\H q=some (.tup [.int c,.int d])/\Q (.bl (decide (a=c/\b=d))) H
def eQ1 (hu:X.A.units<cLine):OpR X (compareOp .Eq) eX0:=by
 intro pins s σ H x y v u Q I rx ry h;obtain ⟨p,q,a,b,c,d,rfl,rfl,hp,hq,k⟩:=h;cases rx;cases ry;obtain ⟨its,r1,l1,_⟩:=I.tuple (SqT.of (K:=X.K) hp);obtain ⟨its2,r2,l2,_⟩:=I.tuple (SqT.of (K:=X.K) hq);obtain ⟨u1,u2,rfl,⟨t1,rfl⟩,⟨t2,rfl⟩⟩:=r1.two;obtain ⟨w1,w2,rfl,⟨t3,rfl⟩,⟨t4,rfl⟩⟩:=r2.two;refine SeqAt.eq_tupleAt (e:=λj=>if j=0 then a == c else b == d) (show s.heap.IsTuple p _ from l1) (show s.heap.IsTuple q _ from l2) hu (λj h1 h2=>?_) ?_
 . match j,h1,h2 with
   | 0,_,_=>exact SeqAt.EqAt.int_int a t1 c t3
   | 1,_,_=>exact SeqAt.EqAt.int_int b t2 d t4
   | j+2,h1,_=>exact absurd h1 (by show ¬ j+2<2; omega)
 . refine ⟨.bl (decide (a=c/\b=d)),H,I,?_,k⟩;show Value.bool _=Value.bool _
   congr 1
   show (((if (0:Nat)=0 then a == c else b == d) && ((if (1:Nat)=0 then a == c else b == d) && true)) && true)=_
   rw [if_pos rfl,if_neg (by decide),Bool.and_true,Bool.and_true]
   by_cases e1:a=c
   . by_cases e2:b=d
     . simp [e1,e2]
     . simp [e1,e2]
   . simp [e1]
def eZE {H:Hp} {Q:VK} {p q:Addr} {a b c d:Int} (hp:H p=some (.tup [.int a,.int b])) (hq:H q=some (.tup [.int c,.int d])) (h:Q (.bl (decide (a=c/\b=d))) H):eX0 (.ref p) (.ref q) H Q:=⟨p,q,a,b,c,d,rfl,rfl,hp,hq,h⟩
end
end L2
namespace L2
open PySem PySem.Spec PyProof.Rows
open PySem.AutoSeq1 (wpAny_loadPart')
open PySem.MeetsSeq PySem.MeetsSeq2 PySem.MeetsSeq3
def EqB (P:Program) (w:World) (A:Around) (s:Shared) (u v:Value):Prop:=∃ b:Bool,∀ (E:Value->Shared->Prop) (Q:Bool->Shared->Prop),Q b s->wpAny (model P w) A (eqBool u v) Q E s
section
variable {P:Program} {w:World} {A:Around} {E:Q0} {s:Shared}
def EqB.same (u:Value):EqB P w A s u u:=⟨true,λE Q hq=>SeqAt.EqAt.same u P w E Q hq⟩
end
section
end
section
end
end L2
namespace L2
open PySem PySem.Spec PyProof.Rows
section
def CtxNone (h:Heap) (ea:Addr):Prop:=∃ o fs,h.get? ea=some o/\o.data=.fields fs/\fs[2]?=some .none
def CtxNone.ext {h h':Heap} {ea:Addr} (c:CtxNone h ea) (k:∀ o,h.get? ea=some o->h'.get? ea=some o):CtxNone h' ea:=by
 obtain ⟨o,fs,h1,h2,h3⟩:=c;exact ⟨o,fs,k o h1,h2,h3⟩
end
end L2
namespace L2
open PySem PySem.Spec PyProof.Rows
section
end
section
def CtxNone.some {h:Heap} {ea:Addr} (c:CtxNone h ea):∃ o,h.get? ea=Option.some o:=by
 obtain ⟨o,_,e,_⟩:=c;exact ⟨o,e⟩
end
end L2
namespace L2
open PySem PySem.Spec PyProof.Rows
section
end
section
end
end L2
namespace L2
open PySem PySem.Spec PyProof.Rows
section
end
section
end
section
end
end L2
namespace L2
open PySem PySem.Spec PyProof.Rows
section
variable {M:Model} {A:Around} {E:Q0} {s:Shared} {B:Heap} {env:Env} {l:List Env} {L e:Addr} {cls fl:Value} {d:Option Addr} {Q:Unit->Shared->Prop}
def zF {o:Option Addr} (F:Fly B l e cls d fl s.heap) (hQ:∀ h' fl',Fly B l e cls d fl' h'->s.heap.UpToSlots h'->Q () { s with heap:=h' }):wpAny M A (setFlight (.ref e) o) Q E s:=by
 obtain ⟨hB,hn,hl,oe,vs,T,oT,ts,he,hc,hd,h1,hT,hTe,gT,dT,t3,c2⟩:=F;have z3:3<ts.size:=(Cq.mp t3).1
 unfold setFlight;refine Ae (Gu he hd h1 ?_);rw [if_pos (show (Value.ref T != Value.none)=true by simp)]
 refine Ha gT dT z3 (hQ _ (o.elim .none λf=>rawInt f) ?_ λb o q nf=>⟨o.slots,pM gT dT b o q nf⟩);have dm:=Gr dT (·.setIfInBounds 3 (o.elim Value.none λf=>rawInt f))
 refine ⟨λb u q=>?_,hn,hl.of_keeps λb u q nf=>⟨u,pM gT dT b u q nf,rfl⟩,oe,vs,T,_,_,?_,hc,hd,h1,hT,hTe,Heap.get?_update_self _ gT (Obj.isFreed_of_fields dm),dm,by simp [z3],c2⟩
 . rw [Cb _ _ (λz:T=b=>by rw [<-z,hT] at q; cases q)]
   exact hB b u q
 . rw [Cb _ _ hTe];exact he
def aX1 {α:Type} {what:String} {cenv:Env} {Q:α->Shared->Prop} (F:Fly B l e cls d fl s.heap) (hE:∀ h' fl',Fly B l e cls d fl' h'->s.heap.UpToSlots h'->E (.ref e) { s with heap:=h' }) :
   wpAny M A (passOn what (.ref e) cenv:Sem α) Q E s:=by
 obtain ⟨oe,vs,T,oT,ts,he,hc,hd,h1,_⟩:=id F.on;unfold PySem.passOn;refine Ae (Gu he hd h1 ?_);rw [if_neg (show ¬ ((Value.ref T == Value.none)=true) by simp)]
 exact Ae (zF F λh' fl' F' up=>wpAny_throw (hE h' fl' F' up))
def Fly.hid {h h':Heap} {C:Addr} {oC:Obj} (F:Fly B l e cls d fl h) (hC:B.get? C=some oC) (sb:Heap.SameBut C h h'):Fly (W.hideAll B [C]) l e cls d fl h':=by
 have nC:∀ b,B.get? b=none->b≠C:=λb hb z=>by rw [z,hC] at hb; cases hb
 have gone:∀ b,B.get? b=none->(W.hideAll B [C]).get? b=none:=λb hb=>by
   cases q:(W.hideAll B [C]).get? b with
   | none=>rfl
   | some o=>
     have:=Gp _ q
     rw [hb] at this;cases this
 obtain ⟨hB,hn,hl,oe,vs,T,oT,ts,he,hc,hd,h1,hT,hTe,gT,r⟩:=F;refine ⟨λb o q=>?_,gone e hn,?_,oe,vs,T,oT,ts,(sb.2 e (nC e hn)).trans he,hc,hd,h1,gone T hT,hTe,(sb.2 T (nC T hT)).trans gT,r⟩
 . have hb:b≠C:=λz=>by
     rw [z,W.hideAll_none _ Am] at q;cases q
   exact (sb.2 b hb).trans (hB b o (Gp _ q))
 . have all:∀ l:List Env,h.FunFrames B l->h'.FunFrames (W.hideAll B [C]) l:=λl=>by
     induction l with
     | nil=>exact λ_=>trivial
     | cons env r ih=>exact λ⟨hk,⟨L,o,hf,hn,ho,hd⟩,hr⟩=>⟨hk,⟨L,o,hf,gone L hn,(sb.2 L (nC L hn)).trans ho,hd⟩,ih hr⟩
   exact all l hl
end
def LX (X:Cx) (Ex:XK):Value->Shared->Prop:=λe s'=>∃ ea cls d B H' fl,e=.ref ea/\s'.os=X.s₀.os/\AllBare s'.gens/\Fly B X.stack ea cls d fl s'.heap/\HOk X.prog X.w H' B/\UnB X.fs X.H₀ H' X.s₀.heap B s'.heap/\Ex cls d H'
def eJX (X:Cx) (Ex:XK):Prop:=∀ e s',X.Ok->LX X Ex e s'->X.xe e s'
def CErr (X:Cx) (Ex:XK) (C:Addr) (e:Value) (s':Shared):Prop:=∃ ea cls d B H' fl m,e=.ref ea/\s'.os=X.s₀.os/\AllBare s'.gens/\Fly B X.stack ea cls d fl s'.heap/\B.Ns C m/\HOk X.prog X.w H' B/\H' C=none/\UnB X.fs X.H₀ H' X.s₀.heap B s'.heap/\X.s₀.heap.objs.size<=C/\Ex cls d H'
def CErr.post {X:Cx} {Ex:XK} {C:Addr} {e:Value} {s':Shared} (h:CErr X Ex C e s') (ok:X.Ok) (hL:eJX X Ex):∃ m,s'.heap.Ns C m/\∀ h',Heap.SameBut C s'.heap h'->∀ cenv:Env,cenv.locals=C->
   wpAny (model X.prog X.w) X.A (passOn "comprehension.variables-let-go" e cenv:Sem Value) (λ_ _=>False) X.xe { s' with heap:=h' }:=by
 obtain ⟨ea,cls,d,B,H',fl,m,rfl,os,bare,F,nB,hok,hC,un,hz,q⟩:=h;refine ⟨m,nB.keeps λb o e=>F.stays b o e,λh' sb cenv _=>?_⟩;obtain ⟨oC,_,_,gC,_⟩:=id nB;refine aX1 (s:={ s' with heap:=h' }) (F.hid gC sb) λh2 fl2 F2 up=>hL _ _ ok ?_
 have neC:∀ b o,X.s₀.heap.get? b=some o->b≠C:=λb o e z=>absurd (Av e) (Nat.not_lt.mpr (by rw [z]; exact hz))
 have hid:∀ b o,B.get? b=some o->b≠C->(W.hideAll B [C]).get? b=some o:=λb o e n=>W.hideAll_get _ e λhm=>n (Aj.mp hm)
 refine ⟨ea,cls,d,_,H',fl2,rfl,os,bare,F2,hok.down λb o u e g=>hid b o g λz=>?_,⟨λb o e n hb=>hid b o (un.keep b o e n hb) (neC b o e),λb o e n hb=>?_,un.free,λb o e hb=>?_,un.tups,un.frzs,un.tbls⟩,q⟩
 . rw [z,hC] at e;cases e
 . obtain ⟨sl,q1⟩:=un.slot b o e n hb;obtain ⟨_,o2,g2,nf⟩:=ok.funs.mem hb;rw [e] at g2;cases g2;obtain ⟨sl2,q2⟩:=up b _ ((sb.2 b (neC b o e)).trans q1) nf;exact ⟨sl2,q2⟩
 . obtain ⟨o',q1⟩:=un.there b o e hb;exact ⟨o',hid b o' q1 (neC b o e)⟩
section
end
end L2
namespace L2
open PySem PySem.Spec PyProof.Rows
def dXI:V->List V->Hp->VK->Prop:=λx vs H Q=>∃ z y:Str,x=.str z/\vs=[.str y]/\Q (.int (Txt.find z y)) H
def bXZ {X:Cx}:MtR X "str.find" dXI:=by
 intro pins s σ H x vs v us Q I rx rv h;obtain ⟨z,y,rfl,rfl,q⟩:=h;obtain ⟨t,rfl⟩:=rx;obtain ⟨u,rfl,ru⟩:=rv.one;obtain ⟨t',rfl⟩:=ru;exact SC.find ⟨.int (Txt.find z y),H,I.tok _,⟨_,rfl⟩,q⟩
def cQT {H:Hp} {Q:VK} {z y:Str} (h:Q (.int (Txt.find z y)) H):dXI (.str z) [.str y] H Q:=⟨z,y,rfl,rfl,h⟩
end L2
namespace L2
open PySem PySem.Spec PyProof.Rows
section
end
section
def bare (led:Bool):Obj:={ cls:=.type "set",dict:=none,data:=.set #[] 0 (.fresh 0 0 led) }
end
end L2
namespace L2
open PySem PySem.Spec PyProof.Rows
end L2
namespace L2
open PySem PySem.Spec PyProof.Rows
def cXO {P:Program} {w:World} {K:W.Frag} {mg:Q4} {base:Heap} {f:Addr} {fd:FuncData} {ps:List Str} {x:Str} (sp:Nat->Sp) (h0:∀ vs H Q E,¬ sp 0 vs H Q E) (hm:mg x=some (.ref f)) (hk:W.keepIn K (.ref f)=true) (hb:Binds K fd ps [])
   (st:∀ d n,Cal P w K mg base (d+1) x ps (sp n)->FnOk P w K mg base CX0 (d+2) f fd ps (sp (n+1))):∀ n,FnOk P w K mg base CX0 (n+1) f fd ps (sp n)
 | 0=>⟨λvs H Q E h=>(h0 _ _ _ _ h).elim,λA outer s H args us vs Q E _ _ _ _ h=>(h0 _ _ _ _ h).elim⟩
 | n+1=>st n n ⟨f,fd,cXO sp h0 hm hk hb st n,hm,hk,hb⟩
def Lsts.app {H1 Hc:Hp} {ps qs:List Addr} {fs gs:List (List V)} (t:Lsts H1 Hc ps fs) (u:Lsts H1 Hc qs gs):Lsts H1 Hc (ps++qs) (fs++gs):=by
 refine ⟨by rw [Ag,Ag,t.1,u.1],λj p v hp hv=>?_⟩
 by_cases h:j<ps.length
 . rw [Aq h] at hp;rw [Aq (by rw [<-t.1]; exact h)] at hv
   exact t.2 j p v hp hv
 . rw [Ar (by omega)] at hp
   rw [Ar (by rw [<-t.1]; omega),<-t.1] at hv
   exact u.2 _ p v hp hv
section
variable {g:TG} {tests:TT} {te:TE} {σ0:St} {Q:VK} {H1:Hp}
def cZ1 {K:W.Frag} {a:Addr} {xs:List V} (f:Nat->List V) (ha:rdL H1 a=some xs) (hl:xs.length<sizeLine)
   (hs:∀ (i:Nat) x Hc (A:VK) (B:Hp->Prop),xs[i]?=some x->Same H1 Hc->(∀ q Hd,Hc q=none->Same Hc Hd->Hd q=some (.lst (f i))->A (.ref q) Hd)->
     g x σ0 Hc λσ2 H2=>Wk σ0 σ2/\tests σ2 H2 λb H3=>if b=true then te σ2 H3 A else B H3)
   (fin:∀ D Hd ps,H1 D=none->Same H1 Hd->Hd D=some (.lst (ps.map V.ref))->ps.length=xs.length->Lsts H1 Hd ps ((List.range xs.length).map f)->(∀ p∈ps,p≠D)->Q (.ref D) Hd):fA g tests te σ0 Q (Itl K a) H1:=by
 refine jX (n:=xs.length) (λD i ys Hc=>Same H1 Hc/\∃ ps,ys=ps.map V.ref/\ps.length=i/\Lsts H1 Hc ps ((List.range i).map f)/\∀ p∈ps,p≠D) hl (λD hD=>⟨aG hD _,[],rfl,rfl,.nil,λp hp=>nomatch hp⟩)
   (λD i ys Hc _ r h=>⟨xs,xs[i],bB (aK r.1 ha),by simp [h]⟩) (λD ys Hc _ r=>⟨xs,bB (aK r.1 ha),Nat.le_refl _⟩) ?_ ?_
 . rintro D i ys Hc x H' A B hD hi ⟨sm,ps,rfl,hn,ls,nd⟩ hDc ⟨rfl,hz⟩ ha' hb;refine hs i x H' A B (hz xs (bB (aK sm ha))) sm (λq Hd hq sd hd=>?_);have nq:q≠D:=λz=>by rw [z,hDc] at hq; cases hq
   have nd2:∀ p∈ps++[q],p≠D:=λp hp=>by
     rcases Bl.mp hp with e | e
     . exact nd p e
     . rw [Aj.mp e]; exact nq
   refine ha' _ _ (sd _ _ hDc) ⟨bI hD (sm.trans sd),ps++[q],by rw [Ao]; rfl,by rw [Ag,hn]; rfl,?_,nd2⟩
   rw [Bx,Ao];exact ((ls.keep sd).snoc (none_of sm hq) hd).put nd2
 . rintro D ys Hc hD ⟨sm,ps,rfl,hn,ls,nd⟩ hDc _;exact fin D Hc ps hD sm hDc hn ls nd
end
end L2
namespace L2
open PySem
def iD (mask:Nat) (x:Nat×Nat):Nat->Nat×Nat
 | 0=>x
 | n+1=>iD mask (SetTable.leap mask x.1 x.2) n
def uJ (mask m:Nat):∀ (n:Nat) (x:Nat×Nat),iD mask x (n+m)=iD mask (iD mask x n) m
 | 0,x=>by rw [Nat.zero_add]; rfl
 | n+1,x=>by rw [Nat.succ_add]; exact uJ mask m n _
def uC (mask:Nat):∀ (n:Nat) (x:Nat×Nat),(iD mask x n).2=x.2 / 32 ^ n
 | 0,x=>by show x.2=x.2 / 1; rw [Nat.div_one]
 | n+1,x=>by
   show (iD mask (SetTable.leap mask x.1 x.2) n).2=_
   rw [uC mask n];show x.2 / 32 / 32 ^ n=_
   rw [Nat.div_div_eq_div_mul,Nat.pow_succ,Nat.mul_comm]
def cyc (M:Nat):Nat->Nat
 | 0=>0
 | n+1=>(cyc M n * 5+1) % M
def oW (mask:Nat):∀ (n a:Nat),(iD mask (cyc (mask+1) a,0) n)=(cyc (mask+1) (a+n),0)
 | 0,a=>rfl
 | n+1,a=>by
   show iD mask (SetTable.leap mask (cyc (mask+1) a) 0) n=_
   have e:SetTable.leap mask (cyc (mask+1) a) 0=(cyc (mask+1) (a+1),0):=by
     show ((cyc (mask+1) a * 5+1+0 / 32) % (mask+1),0 / 32)=_
     rw [Nat.zero_div,Nat.add_zero];rfl
   rw [e,oW mask n (a+1),Nat.add_right_comm,Nat.add_assoc]
def Full (M:Nat):Prop:=cyc M M=0/\∀ e,e<M->∃ n,n<M/\cyc M n=e
def aZC (M:Nat) (h:cyc M M=0):∀ n,cyc M (M+n)=cyc M n
 | 0=>h
 | n+1=>by
   show (cyc M (M+n) * 5+1) % M=_
   rw [aZC M h n];rfl
def Full.reach {mask:Nat} (F:Full (mask+1)) {x e:Nat} (hx:x<mask+1) (he:e<mask+1):∃ m,m<=mask/\(iD mask (x,0) m).1=e:=by
 obtain ⟨a,ha,rfl⟩:=F.2 x hx;obtain ⟨b,hb,rfl⟩:=F.2 e he;by_cases h:a<=b
 . exact ⟨b - a,by omega,by rw [oW,Nat.add_sub_cancel' h]⟩
 . exact ⟨mask+1+b - a,by omega,by rw [oW,show a+(mask+1+b - a)=mask+1+b by omega,aZC _ F.1]⟩
def aZ2 {mask:Nat}:∀ (n:Nat) {x:Nat×Nat},x.1<mask+1->(iD mask x n).1<mask+1
 | 0,x,h=>h
 | n+1,x,h=>aZ2 n (x:=SetTable.leap mask x.1 x.2) (Nat.mod_lt _ (Nat.succ_pos _))
def eJ9 {mask:Nat} (F:Full (mask+1)) {i per e:Nat} (hi:i<mask+1) (hp:per<2 ^ 64) (he:e<mask+1):∃ m,m<=mask+13/\(iD mask (i,per) m).1=e:=by
 obtain ⟨m,hm,e1⟩:=F.reach (x:=(iD mask (i,per) 13).1) (aZ2 13 hi) he;refine ⟨13+m,by omega,?_⟩
 rw [uJ];have hz:(iD mask (i,per) 13).2=0:=by
   rw [uC];exact Nat.div_eq_of_lt (Bc hp (by decide))
 rw [show iD mask (i,per) 13=((iD mask (i,per) 13).1,0) from Prod.ext rfl hz];exact e1
section
end
end L2
namespace L2
open PySem PySem.Spec PyProof.Rows
section
end
end L2
namespace L2
open PySem PySem.Spec PyProof.Rows
open PySem.AutoSeq1 (wpAny_loadPart')
open PySem.MeetsSeq PySem.MeetsSeq2 PySem.MeetsSeq3
section
end
open PySem.W (KasT kas_sort kas_cmp kas_item kas_item_eq kas_range kas_runs kas_kind kas_st)
def eZ5 {α:Type} (lt:Nat->Nat->Bool):KasT α->α
 | .ret a=>a
 | .ask i j k=>eZ5 lt (k (lt i j))
def kok {α:Type} (lt:Nat->Nat->Bool) (n:Nat):KasT α->Bool
 | .ret _=>true
 | .ask i j k=>decide (i<n) && decide (j<n) && kok lt n (k (lt i j))
section
end
end L2
namespace L2
open PySem PySem.Spec PyProof.Rows
end L2
namespace L2
open PySem
def Ris (xs:Array Nat):Prop:=∀ (i k a b:Nat),i<k->xs[i]?=some a->xs[k]?=some b->a<b
def getD_none {owner:Array (Option Nat)} {j:Nat} (h:owner.getD j (some 0)=none):j<owner.size/\owner.getD j none=none:=by
 have hj:j<owner.size:=by
   refine Nat.lt_of_not_le λz=>?_;rw [Cy,Array.getElem?_eq_none z] at h;cases h
 rw [Cy,Di hj] at h ⊢;exact ⟨hj,h⟩
def getD_some {owner:Array (Option Nat)} {j:Nat} (hj:j<owner.size) (h:owner.getD j (some 0)≠none):∃ k,owner.getD j none=some k:=by
 rw [Cy,Di hj] at h ⊢;cases e:owner[j] with
 | none=>rw [e] at h; exact absurd rfl h
 | some k=>exact ⟨k,rfl⟩
section
end
open PySem.Spec PyProof.Rows
def Alx (H:Hp):Nat->V->V->Prop
 | 0,x,y=>x=y/\(bQ x=true\/∃ p,x=.ref p)
 | n+1,x,y=>(x=y/\(bQ x=true\/∃ p,x=.ref p))\/∃ p q,x=.ref p/\y=.ref q/\((∃ xs ys,rdL H p=some xs/\rdL H q=some ys/\xs.length=ys.length/\∀ (j:Nat) x' y',xs[j]?=some x'->ys[j]?=some y'->Alx H n x' y')\/∃ kvs kws,Rd H p (.dK kvs)/\Rd H q (.dK kws)/\DEq kvs kws)
def Alx.same {H:Hp} {n:Nat} {x:V} (h:bQ x=true\/∃ p,x=.ref p):Alx H n x x:=by
 cases n with
 | zero=>exact ⟨rfl,h⟩
 | succ n=>exact .inl ⟨rfl,h⟩
end L2
namespace L2
open PySem PySem.Spec PyProof.Rows
def hdl (i:Nat) (ts:TS) (D:Ends) (cls:Value) (d:Option Addr) (σ1:St) (H1:Hp):Prop:=∀ ea,H1 ea=none->
 ts { nx:=λσ2 H2=>D.nx (σ2.set i none) H2,rt:=D.rt,bk:=λσ2 H2=>D.bk (σ2.set i none) H2,ct:=λσ2 H2=>D.ct (σ2.set i none) H2 } (σ1.set i (some (.ref ea))) (upd H1 ea (tX ea cls d))
section
end
end L2
namespace L2
open PySem PySem.Spec PyProof.Rows
section
end
end L2
namespace L2
open PySem PySem.Spec PyProof.Rows
open PySem.AutoSeq1 (wpAny_loadPart')
section
end
section
end
section
def KV.at {kvs:List (Key×V)} {vs:List (Key×Value)} (r:KV kvs vs):∀ {i:Nat} {k:Key} {u:Value},vs[i]?=some (k,u)->∃ v,kvs[i]?=some (k,v)/\RelV v u:=by
 unfold KV at r;induction r with
 | nil=>intro i k u h; cases h
 | @cons kv vv _ _ hk t ih=>
   intro i k u h;obtain ⟨e,ru⟩:=hk;cases i with
   | zero=>cases h; exact ⟨kv.2,by rw [List.getElem?_cons_zero]; exact Dt some (Prod.ext e rfl),ru⟩
   | succ i=>exact ih h
end
end L2
namespace L2
open PySem PySem.Spec PyProof.Rows
section
end
section
end
end L2
namespace L2
open PySem PySem.Spec PyProof.Rows
open PySem.AutoSeq1 (wpAny_loadPart')
open PySem.MeetsSeq PySem.MeetsSeq2 PySem.MeetsSeq3
open PySem.W (KasT kas_sort kas_cmp kas_item kas_item_eq kas_range kas_runs kas_kind kas_st kat_kind kat_lt kat_cons kat_nil kat_yes kat_no kat_go kat_one KatTups KatLex)
section
end
section
end
end L2
namespace L2
open PySem PySem.Spec PyProof.Rows
section
end
end L2
namespace L2
open PySem PySem.Spec PyProof.Rows
def Alt (H:Hp):Nat->V->V->Prop
 | 0,x,y=>x=y/\bQ x=true
 | n+1,x,y=>(x=y/\bQ x=true)\/∃ p q xs ys,x=.ref p/\y=.ref q/\((rdL H p=some xs/\rdL H q=some ys)\/(H p=some (.tup xs)/\H q=some (.tup ys)))/\xs.length=ys.length/\∀ (j:Nat) x' y',xs[j]?=some x'->ys[j]?=some y'->Alt H n x' y'
def Alt.flat {H:Hp} {n:Nat} {x:V} (h:bQ x=true):Alt H n x x:=by
 cases n with
 | zero=>exact ⟨rfl,h⟩
 | succ n=>exact .inl ⟨rfl,h⟩
def Alt.flats {H:Hp} {n:Nat} {xs:List V} (f:xs.all bQ=true):∀ (j:Nat) x y,xs[j]?=some x->xs[j]?=some y->Alt H n x y:=λj x y hx hy=>by
 rw [hx] at hy;cases hy;exact .flat (Ck.mp f x (Al hx))
def Alt.lst {H:Hp} {n:Nat} {p q:Addr} {xs ys:List V} (hp:rdL H p=some xs) (hq:rdL H q=some ys) (hl:xs.length=ys.length) (h:∀ (j:Nat) x y,xs[j]?=some x->ys[j]?=some y->Alt H n x y):Alt H (n+1) (.ref p) (.ref q):=.inr ⟨p,q,xs,ys,rfl,rfl,.inl ⟨hp,hq⟩,hl,h⟩
def Alt.tup {H:Hp} {n:Nat} {p q:Addr} {xs ys:List V} (hp:H p=some (.tup xs)) (hq:H q=some (.tup ys)) (hl:xs.length=ys.length) (h:∀ (j:Nat) x y,xs[j]?=some x->ys[j]?=some y->Alt H n x y):Alt H (n+1) (.ref p) (.ref q):=.inr ⟨p,q,xs,ys,rfl,rfl,.inr ⟨hp,hq⟩,hl,h⟩
section
end
end L2
namespace L2
open PySem PySem.Spec PyProof.Rows
section
end
section
end
section
end
end L2
namespace L2
open PySem PySem.Spec PyProof.Rows
section
end
section
end
end L2
namespace L2
open PySem PySem.Spec PyProof.Rows
def SetIt (h:Heap) (it a:Addr) (slot i n ep:Nat):Prop:=∃ o,h.get? it=some o/\o.cls=.type "set_iterator"/\o.data=.fields #[.int slot 0,.int i 0,.ref a,.int n 0,.int ep 0]
structure SetAt (h:Heap) (a:Addr) (es:Array (Int×Value)) (ep:Nat) (t:SetTable):Prop where
 ob:∃ o,h.get? a=some o/\o.cls=.type "set"/\o.data=.set es ep t
 fits:t.fits es.size=true
 plain:t.plain=true
 ris:Ris t.place
 sz:t.place.size=es.size
section
end
end L2
namespace L2
open PySem PySem.Spec PyProof.Rows
section
end
section
end
end L2
namespace L2
open PySem PySem.Spec PyProof.Rows
section
end
end L2
namespace L2
open PySem PySem.Spec PyProof.Rows
end L2
namespace L2
open PySem PySem.Spec PyProof.Rows
def SetIt.at {h h':Heap} {it a:Addr} {slot i n ep:Nat} (x:SetIt h it a slot i n ep) (k:∀ o,h.get? it=some o->h'.get? it=some o):SetIt h' it a slot i n ep:=by
 obtain ⟨o,e,q⟩:=x;exact ⟨o,k o e,q⟩
def SetAt.at {h h':Heap} {a:Addr} {es:Array (Int×Value)} {ep:Nat} {t:SetTable} (x:SetAt h a es ep t) (k:∀ o,h.get? a=some o->h'.get? a=some o):SetAt h' a es ep t:=by
 obtain ⟨⟨o,e,q⟩,r1,r2,r3,r4⟩:=x;exact ⟨⟨o,k o e,q⟩,r1,r2,r3,r4⟩
section
end
end L2
namespace L2
open PySem PySem.Spec PyProof.Rows
open PySem.W (KasT kas_sort kas_rev kas_asc kas_desc kas_tail3 kas_descPart kas_count kas_place kas_bin)
def KR {α:Type} (lt:Nat->Nat->Bool) (n:Nat) (t:KasT α) (a:α):Prop:=kok lt n t=true/\eZ5 lt t=a
def KR.ret {α:Type} {lt:Nat->Nat->Bool} {n:Nat} (a:α):KR lt n (.ret a) a:=⟨rfl,rfl⟩
def KR.ask {α:Type} {lt:Nat->Nat->Bool} {n i j:Nat} {k:Bool->KasT α} {a:α} (hi:i<n) (hj:j<n) (h:KR lt n (k (lt i j)) a):KR lt n (.ask i j k) a:=⟨by simp only [kok,hi,hj,decide_true,Bool.true_and]; exact h.1,h.2⟩
def KR.bind {α β:Type} {lt:Nat->Nat->Bool} {n:Nat} {f:α->KasT β} {b:β}:∀ {t:KasT α} {a:α},KR lt n t a->KR lt n (f a) b->KR lt n (t.bind f) b
 | .ret a',a,h,g=>by
   obtain ⟨_,rfl⟩:=h;exact g
 | .ask i j k,a,h,g=>by
   obtain ⟨h1,h2⟩:=h;simp only [kok,Bool.and_eq_true,decide_eq_true_eq] at h1;exact KR.ask h1.1.1 h1.1.2 (KR.bind (t:=k (lt i j)) ⟨h1.2,h2⟩ g)
section
variable {r:Nat->Nat} {n:Nat}
structure Ord (r:Nat->Nat) (n:Nat) (p:Array Nat):Prop where
 perm:p.toList.Perm (List.range n)
 inj:∀ i j,i<n->j<n->r i=r j->i=j
def Ord.size {p:Array Nat} (h:Ord r n p):p.size=n:=by
 have:=h.perm.length_eq
 simpa using this
def Ord.lt {p:Array Nat} (h:Ord r n p) {i:Nat} (hi:i<n):p.getD i 0<n:=by
 have hs:=h.size
 have:p.getD i 0∈p.toList:=by
   rw [Cy,Di (by omega)]
   exact Array.getElem_mem_toList _
 exact Bw.mp (h.perm.subset this)
def Ord.ne {p:Array Nat} (h:Ord r n p) {i j:Nat} (hij:i<j) (hj:j<n):r (p.getD i 0)≠r (p.getD j 0):=λz=>by
 have hs:=h.size
 have e:=h.inj _ _ (h.lt (by omega)) (h.lt hj) z
 have nd:p.toList.Nodup:=h.perm.nodup_iff.mpr List.nodup_range
 rw [Cy,Cy,Di (by omega),Di (by omega)] at e
 have:=(List.pairwise_iff_getElem.mp nd) i j (by simp; omega) (by simp; omega) hij
 exact this (by simpa using e)
def Up (r:Nat->Nat) (p:Array Nat) (k:Nat):Prop:=∀ i j,i<j->j<k->r (p.getD i 0)<r (p.getD j 0)
def Dn (r:Nat->Nat) (p:Array Nat) (k:Nat):Prop:=∀ i j,i<j->j<k->r (p.getD j 0)<r (p.getD i 0)
def Up.succ {p:Array Nat} {k:Nat} (h:Up r p k) (hk:1<=k) (e:r (p.getD (k - 1) 0)<r (p.getD k 0)):Up r p (k+1):=λi j hij hj=>by
 by_cases z:j=k
 . subst z;by_cases y:i=j - 1
   . subst y; exact e
   . exact Nat.lt_trans (h i (j - 1) (by omega) (by omega)) e
 . exact h i j hij (by omega)
def Dn.succ {p:Array Nat} {k:Nat} (h:Dn r p k) (hk:1<=k) (e:r (p.getD k 0)<r (p.getD (k - 1) 0)):Dn r p (k+1):=λi j hij hj=>by
 by_cases z:j=k
 . subst z;by_cases y:i=j - 1
   . subst y; exact e
   . exact Nat.lt_trans e (h i (j - 1) (by omega) (by omega))
 . exact h i j hij (by omega)
end
end L2
namespace L2
open PySem PySem.Spec PyProof.Rows
open PySem.W (KasT kas_sort kas_cmp kas_item kas_item_eq kas_range kas_runs kas_kind kas_st)
section
end
end L2
namespace L2
open PySem PySem.Spec PyProof.Rows
open PySem.W (KasT kas_sort KatTups kat_kind kat_lt kat_cons kat_yes kat_no kat_nil kat_one KatGo)
section
end
end L2
namespace L2
open PySem PySem.Spec PyProof.Rows
end L2
namespace L2
open PySem PySem.Spec PyProof.Rows
open PySem.W (KasT kas_sort)
end L2
namespace L2
open PySem PySem.Spec PyProof.Rows
open PySem.W (KasT kas_sort)
section
end
end L2
namespace L2
open PySem PySem.Spec PyProof.Rows
open PySem.W (KasT kas_sort)
end L2
namespace L2
open PySem PySem.Spec PyProof.Rows
open PySem.W (CodeHd tabObj)
structure LamB (mg:Str->Option Value) (base:Heap) (c Pt:Addr):Prop where
 code:CodeHd base c Pt
 bm:∃ bm ob,mg "__builtins__"=some (.ref bm)/\bm≠builtinsNs/\base.get? bm=some ob/\ob.cls=.type "module"/\ob.dict=some builtinsNs/\ob.data=.plain
def bZF (h:Heap) (mg:Str->Option Value) (x:Str) (c:Addr):Prop:=∃ f o fd,mg x=some (.ref f)/\h.get? f=some o/\o.data=.func fd/\fd.code=.ref c
def bQJ {P:Program} {w:World} {K:W.Frag} {mg mb:Q4} {CX:CXT} {k:Nat} {fa a c Pt:Addr} {fd:FuncData} {x:Str} {sp:Sp} {s₁:Shared} {vs:List Value} {ns:List Int}
   (KX:K.In s₁.heap) (hns:s₁.heap.Ns mainGlobals mg) (hb:s₁.heap.Ns builtinsNs mb) (hbb:∀ x:Str,x≠"__name__"->mb x=bootBuiltins x) (hlim:s₁.heap.NoLimit) (hg:s₁.gens=#[])
   (ha:s₁.heap.get? a=some { cls:=.type "list",data:=.seq vs.toArray }) (hi:IntsAre vs ns) (hl:ns.length<=sizeLine) (hr:Room k callerA)
   (hC:CodeHd s₁.heap c Pt) (hP:s₁.heap.get? Pt=some (tabObj #[])) (hbm:∃ bm ob,mg "__builtins__"=some (.ref bm)/\bm≠builtinsNs/\s₁.heap.get? bm=some ob/\ob.cls=.type "module"/\ob.dict=some builtinsNs/\ob.data=.plain) (hKP:K.lookup Pt=none)
   (F:∀ base:Heap,K.In base->base.Ns mainGlobals mg->LamB mg base c Pt->FnOk P w K mg base CX k fa fd [x] sp) (hbind:∀ (s:Shared) (u:Value),BindsTo s fd ⟨[u],[]⟩ [(x,u)])
   (hsp:∀ H:Hp,H Pt=some (.tbl #[])->SqL K H a (ns.map V.int)->sp [.ref a] H (λv _=>v=.bl true) λ_ _ _=>False)
   (hCX:∀ H e s',CX [] H s₁ (λ_ _ _=>False) e s'->False) :
   codeAny (model P w) callerA (.call (.ref fa) ⟨[.ref a],[]⟩) (λr s'=>r=.ok (.ret (.bool true))/\OldK s₁.heap s'.heap/\s'.os=s₁.os/\AllBare s'.gens) s₁:=by
 have rv:=vB hi
 have lenV:=hi.length
 have naP:a≠Pt:=λz=>by rw [z,hP] at ha; cases ha
 have core:∀ H:Hp,(∀ b,H b=none\/(∃ o xs,H b=some (.frz o (.lst xs)))\/b=Pt)->H Pt=some (.tbl #[])->SqL K H a (ns.map V.int)->HOk P w H s₁.heap->(∀ b,H b≠none->b=a\/b=Pt)->(H a≠none->K.lookup a=none)->
     codeAny (model P w) callerA (.call (.ref fa) ⟨[.ref a],[]⟩) (λr s'=>r=.ok (.ret (.bool true))/\OldK s₁.heap s'.heap/\s'.os=s₁.os/\AllBare s'.gens) s₁:=by
   intro H hO hHP hS hok hA hK;have base_of:∀ {b:Addr} {o:Obj},s₁.heap.get? b=some o->H b=none->(tO s₁.heap H).get? b=some o:=λe n=>bXY e n
   have noT:∀ {b:Addr} {o:Obj},s₁.heap.get? b=some o->(∀ its n,o.data≠.seq its n)->(∀ ps,o.cls=.none->o.data≠.fields ps)->H b=none:=fun {b o} e d d2=>by
     cases q:H b with
     | none=>rfl
     | some u=>
       rcases hA b (by rw [q]; simp) with e' | e'
       . subst e';rw [ha] at e; cases e;exact absurd rfl (d _ _)
       . subst e';rw [hP] at e; cases e;exact absurd rfl (d2 _ rfl)
   have noA:∀ {b:Addr} {o:Obj} {es:Array DictEntry} {ep:Nat},s₁.heap.get? b=some o->o.data=.dict es ep->H b=none:=fun {b o es ep} e d=>noT e (λ_ _ z=>by rw [d] at z; cases z) λ_ _ z=>by rw [d] at z; cases z
   have nsK:∀ {b:Addr} {m:Q4},s₁.heap.Ns b m->(tO s₁.heap H).Ns b m:=fun {b m} ⟨o,es,ep,e,d,r⟩=>⟨o,es,ep,base_of e (noA e d),d,r⟩
   have hKb:K.In (tO s₁.heap H):=λb o e=>base_of (KX b o e) (by
     cases q:H b with
     | none=>rfl
     | some u=>
       rcases hA b (by rw [q]; simp) with e' | e'
       . subst e';rw [hK (by rw [q]; simp)] at e; cases e
       . subst e';rw [hKP] at e; cases e)
   have hM:Mod K mg (tO s₁.heap H):=⟨hKb,nsK hns,⟨mb,nsK hb,hbb⟩,let ⟨mc,h1,h2⟩:=hlim; ⟨mc,nsK h1,h2⟩⟩
   have hLB:LamB mg (tO s₁.heap H) c Pt:=by
     refine ⟨?_,?_⟩
     . obtain ⟨o,vs,file,tf,flags,tg,inF,text,tt,e,ecl,eda,r⟩:=hC;exact ⟨o,vs,file,tf,flags,tg,inF,text,tt,base_of e (noT e (λ_ _ z=>by rw [eda] at z; cases z) λ_ z=>by rw [ecl] at z; cases z),ecl,eda,r⟩
     . obtain ⟨bm,ob,b1,b2,b3,b4,b5,b6⟩:=hbm;exact ⟨bm,ob,b1,b2,base_of b3 (noT b3 (λ_ _ z=>by rw [b6] at z; cases z) λ_ z=>by rw [b4] at z; cases z),b4,b5,b6⟩
   have e0:Env0 P w K mg (tO s₁.heap H) callerA [] s₁ H:=⟨rfl,hM,λb o e=>dQF e,Nat.le_of_eq (bXP _ _),trivial,λb hb=>absurd (show b∈([]:List Addr) from hb) (by simp),hok,.of_eq hg⟩
   refine Et ((F _ hKb (nsK hns) hLB).run callerA [] s₁ H ⟨[.ref a],[]⟩ [.ref a] [.ref a] _ _ hr e0 (hbind s₁ (.ref a)) (.cons rfl .nil) (hsp H hHP hS)) λr s' h=>?_;cases r with
   | error e=>exact (hCX H e s' h).elim
   | ok fl=>
     cases fl with
     | next=>exact False.elim h
     | brk=>exact False.elim h
     | cont=>exact False.elim h
     | ret u=>
       obtain ⟨v,H',os,bare,un,hok',r',q⟩:=h;have q':v=.bl true:=q
       subst q';obtain rfl:u=Value.bool true:=r';refine ⟨rfl,⟨λb o e=>?_,λb o e=>?_⟩,os,bare⟩
       . cases q:H b with
         | none=>exact .inl (un.keep b o e q (by intro z; exact absurd (show b∈([]:List Addr) from z) (by simp)) (by simp))
         | some u=>
           rcases hO b with z | ⟨ob,xs,z⟩ | z
           . rw [q] at z; cases z
           . have z2:=un.frzs b ob _ z
             obtain ⟨e1,_⟩:=hok b _ z;obtain ⟨e2,_⟩:=hok' b _ z2;rw [e] at e1; cases e1;exact .inl e2
           . subst z;rw [hP] at e;cases e;obtain ⟨more,z2⟩:=un.tbls b _ hHP;exact .inr (.inl ⟨(hC.tab hP).isCodeTable,rfl,#[],more,rfl,hok' b _ z2⟩)
       . exact un.there b o e (by simp)
 have tblOk:∀ H:Hp,H Pt=some (.tbl #[])->ObjOk P w H s₁.heap Pt (.tbl #[]):=λ_ _=>hP
 cases hk:K.lookup a with
 | some o=>
   have e:=KX a o hk
   rw [ha] at e;cases e;refine core (λb=>if b=Pt then some (.tbl #[]) else none) (λb=>?_) (if_pos rfl) (.inr ⟨_,vs.toArray,_,hk,rfl,rfl,rfl,by rw [List.size_toArray,lenV]; exact hl,by simpa using rv⟩) (λb u z=>?_) (λb z=>?_) λz=>?_
   . by_cases hb:b=Pt
     . exact .inr (.inr hb)
     . exact .inl (if_neg hb)
   . by_cases hb:b=Pt
     . have z':=(if_pos hb).symm.trans z
       cases z';subst hb;exact hP
     . have z':=(if_neg hb).symm.trans z
       cases z'
   . by_cases hb:b=Pt
     . exact .inr hb
     . exact absurd (if_neg hb) z
   . exact absurd (if_neg naP) z
 | none=>
   refine core (λb=>if b=a then some (.frz { cls:=.type "list",data:=.seq vs.toArray } (.lst (ns.map V.int))) else if b=Pt then some (.tbl #[]) else none) (λb=>?_) ((if_neg naP.symm).trans (if_pos rfl)) (.inl (.inr ⟨{ cls:=.type "list",data:=.seq vs.toArray },if_pos rfl⟩)) (λb u z=>?_) (λb z=>?_) λ_=>hk
   . by_cases hb:b=a
     . exact .inr (.inl ⟨_,_,if_pos hb⟩)
     . by_cases hb2:b=Pt
       . exact .inr (.inr hb2)
       . exact .inl ((if_neg hb).trans (if_neg hb2))
   . by_cases hb:b=a
     . have z':=(if_pos hb).symm.trans z
       cases z';subst hb;exact ⟨ha,by rw [Ab]; exact hl,vs,_,rv,ha⟩
     . by_cases hb2:b=Pt
       . have z':=((if_neg hb).trans (if_pos hb2)).symm.trans z
         cases z';subst hb2;exact hP
       . have z':=((if_neg hb).trans (if_neg hb2)).symm.trans z
         cases z'
   . by_cases hb:b=a
     . exact .inl hb
     . by_cases hb2:b=Pt
       . exact .inr hb2
       . exact absurd ((if_neg hb).trans (if_neg hb2)) z
def bJH {l:W.OpenLaw} {n k:Nat} {q:Program} {loose:List Str} {XP:(Q4)->Heap->Prop} {YP:World->Heap->Prop} {d d2:DefRec} {K:Params->W.Frag} {CX:World->CXT} {sp:World->Addr->Sp} {x:Str}
   (hn:l.most=some n) (hn2:n<=sizeLine) (hdf:d.params.defaults=[]) (hr:Room k callerA)
   (hd2:d2∈recsOf q) (hno:∀ w:World,W.noTabs (K w.params)=true)
   (hY:∀ (w:World) (h:Heap),YP w h->(K w.params).In h)
   (F:∀ (w:World) (mg:Q4) (fa:Addr) (h:Heap) (c Pt:Addr),(K w.params).In h->h.Ns mainGlobals mg->mg d.name=some (.ref fa)->bZF h mg d2.name c->
     ∃ fd:FuncData,(∀ (s:Shared) (u:Value),BindsTo s fd ⟨[u],[]⟩ [(x,u)])/\
       ∀ base:Heap,(K w.params).In base->base.Ns mainGlobals mg->LamB mg base c Pt->FnOk l.prog w (K w.params) mg base (CX w) k fa fd [x] (sp w Pt))
   (hsp:∀ (w:World) (H:Hp) (a Pt:Addr) (ns:List Int),ns.length<=n->H Pt=some (.tbl #[])->SqL (K w.params) H a (ns.map V.int)->sp w Pt [.ref a] H (λv _=>v=.bl true) λ_ _ _=>False)
   (hCX:∀ (w:World) (H:Hp) (s:Shared) (e:Value) (s':Shared),CX w [] H s (λ_ _ _=>False) e s'->False) :
   W.WalkO q loose XP YP l.row.toRowW d [] (λf vs=>PySem.call f vs):=by
 refine Att.attach_call hn hdf λw s₀ s₁ mg mb fa o pm cd doc a vs ns G Y ho hd hcd hmg hobj hints hlen hg=>?_;have KX:=hY w _ Y
 obtain ⟨a2,o2,fd2,c,Pt,t1,t2,t3,t4,t5,t6⟩:=G.T.tab d2 hd2;have hC:=CodeHd.of t5 t6
 have hP:s₁.heap.get? Pt=some (tabObj #[]):=t6.2
 have hKP:(K w.params).lookup Pt=none:=by
   cases e:(K w.params).lookup Pt with
   | none=>rfl
   | some o=>
     have h1:=KX _ _ e
     rw [hP] at h1;cases h1;have h2:=Ck.mp (hno w) (Pt,tabObj #[]) (W.mem_of_lookupK e)
     exact absurd (show false=true from h2) Ap
 obtain ⟨fd,hb,hF⟩:=F w mg fa _ c Pt KX G.T.g hmg ⟨a2,o2,fd2,t1,t2,t3,t4⟩;exact bQJ KX G.T.g G.T.b G.T.builtins G.T.nolimit hg hobj hints (Bg hlen hn2) hr hC hP G.T.bmain hKP hF hb (λH hO hS=>hsp w H a Pt ns hlen hO hS) λH e s'=>hCX w H s₁ e s'
end L2
namespace L2
open PySem PySem.Spec PyProof.Rows
open PySem.W (CodeHd tabObj kla_obj kla_fn envX)
def eZH (c:Addr) (q:Str):HO:=.ext λh=>h.CodeRec (.ref c) q
def LamT (Pt:Addr) (q:Str) (pos:Pos) (H:Hp):Prop:=H Pt=some (.tbl #[])\/∃ c,H Pt=some (.tbl (#[]++#[rawInt pos.line,rawInt pos.col,.ref c]))/\H c=some (eZH c q)
def SameP (Pt:Addr) (H H':Hp):Prop:=∀ b o,b≠Pt->H b=some o->H' b=some o
def SameP.refl {Pt:Addr} {H:Hp}:SameP Pt H H:=λ_ _ _ e=>e
def SameP.trans {Pt:Addr} {H H1 H2:Hp} (a:SameP Pt H H1) (b:SameP Pt H1 H2):SameP Pt H H2:=λc o n e=>b c o n (a c o n e)
def Same.p {Pt:Addr} {H H':Hp} (s:Same H H'):SameP Pt H H':=λb o _ e=>s b o e
def LamT.keep {Pt:Addr} {q:Str} {pos:Pos} {H H':Hp} (h:LamT Pt q pos H) (s:Same H H'):LamT Pt q pos H':=by
 rcases h with h | ⟨c,h1,h2⟩
 . exact .inl (s _ _ h)
 . exact .inr ⟨c,s _ _ h1,s _ _ h2⟩
def LamT.tb {Pt:Addr} {q:Str} {pos:Pos} {H:Hp} (h:LamT Pt q pos H):∃ ps,H Pt=some (.tbl ps):=by
 rcases h with h | ⟨c,h1,h2⟩
 . exact ⟨_,h⟩
 . exact ⟨_,h1⟩
section
variable {X:Cx} {pins:Q2} {σ:St} {H:Hp} {s:Shared} {q:Str} {c Pt:Addr}
def Inv.table {ps more:Array Value} {h':Heap} {t':Nat} (I:Inv X pins σ H s) (hP:H Pt=some (.tbl ps)) (hx:Heap.ExtBut Pt s.heap h') (ht:h'.get? Pt=some (tabObj (ps++more))):Inv X pins σ (upd H Pt (.tbl (ps++more))) { s with heap:=h',toks:=t' }:=by
 have neP:∀ b u,H b=some u->(∀ z,u≠.tbl z)->b≠Pt:=λb u e n z=>by rw [z,hP] at e; cases e; exact n _ rfl
 have nn:∀ b,H b=none->b≠Pt:=λb e z=>by rw [z,hP] at e; cases e
 refine I.un ⟨λb o e n _ _=>hx b o (nn b n) e,λb o e n _ _=>⟨o.slots,hx b o (nn b n) e⟩,λb o e n _=>by rw [aH (nn b n)]; exact n,λb o e _=>?_,λb xs e=>by rw [aH (neP b _ e λ_=>nofun)]; exact e,λb o u e=>by rw [aH (neP b _ e λ_=>nofun)]; exact e,λb qs e=>?_⟩ λb u e=>?_
 . by_cases hb:b=Pt
   . exact ⟨_,hb ▸ ht⟩
   . exact ⟨o,hx b o hb e⟩
 . by_cases hb:b=Pt
   . subst hb;rw [hP] at e;cases e;exact ⟨more,aD⟩
   . exact ⟨#[],by rw [aH hb,e]; simp⟩
 . by_cases hb:b=Pt
   . subst hb;rw [aD] at e;cases e;exact ht
   . rw [aH hb] at e;refine (I.hok b u e).stay (λc v hc q=>hx c v ?_ q) (λc q=>by rw [aH (neP c _ q λ_=>nofun)]; exact q) λc xs q=>by rw [aH (neP c _ q λ_=>nofun)]; exact q
     rcases hc with z | z
     . rw [z]; exact hb
     . exact neP c _ z λ_=>nofun
end
end L2
namespace L2
open PySem PySem.Spec PyProof.Rows
open PySem.W (CodeHd tabObj kla_obj kla_fn envX)
section
end
section
end
end L2
namespace L2
open PySem PySem.Spec PyProof.Rows
section
end
section
end
end L2
namespace L2
open PySem PySem.Spec PyProof.Rows
section
open PySem.AutoSeq1 (wpAny_loadPart')
open PySem.MeetsSeq PySem.MeetsSeq2 PySem.MeetsSeq3
end
section
end
section
end
section
end
section
end
end L2
namespace L2
open PySem PySem.Spec PyProof.Rows
def bQK (CX:CXT) (P:Program) (w:World) (K:W.Frag) (mg:Str->Option Value) (base:Heap) (k:Nat) (C:Addr) (m:Str) (ps:List Str) (sp:Sp):Prop :=
 ∃ (f:Addr) (fd:FuncData),FnOk P w K mg base CX k f fd ps sp/\Meth K C m f/\Binds K fd ps []
def dX3 (CX:CXT) (P:Program) (w:World) (K:W.Frag) (mg:Str->Option Value) (base:Heap) (k:Nat) (C:Addr) (ps:List Str) (sp:Sp):Prop :=
 ∃ (f:Addr) (fd:FuncData),FnOk P w K mg base CX k f fd ps sp/\Mk K C f/\Binds K fd ps []
section
variable {X:Cx} {CX:CXT} {k k':Nat} {f C:Addr} {fd:FuncData} {ps:List Str} {sp:Sp} {Es:St->XK} {E:XK} {x m:Str} {p pos apos:Pos} {e o:Expr} {es:List Expr} {ta:TE} {t:TA} {σ:St} {H:Hp} {Q:VK}
def aQX (C:Addr) (m:Str) (sp:Sp) (Es:St->XK) (ta:TE) (t:TA):TE:=λσ H Q=>ta σ H λx H1=>∃ a dx fs,x=.ref a/\H1 a=some (.ins C dx fs)/\fs.lookup m=none/\
 t σ H1 λvs H2=>sp (x::vs) H2 Q (Es σ)
def cX4 {pins:Q2} {s1:Shared} {us:List Value} {vs:List V} (F:FnOk X.prog X.w X.K X.mg X.base CX k f fd ps sp) (hr:Room k X.A) (hb:Binds X.K fd ps []) (hx:uQ CX X Es)
   (I1:Inv X pins σ H s1) (r:Vals vs us) (q:sp vs H Q (Es σ)):wpAny (model X.prog X.w) X.A (call (.ref f) us) (EP X pins σ Q) X.xe s1:=by
 have hl:us.length=ps.length:=by rw [<-r.length]; exact F.len _ _ _ _ q
 have hb1:=hb s1 us I1.kIn (by rw [Bi]; exact hl)
 rw [Bi] at hb1;refine Gc (Et (F.run X.A X.stack s1 H ⟨us,[]⟩ us vs Q (Es σ) hr I1.env0 hb1 r q) λrs s' hq=>?_);cases rs with
 | error e=>exact hx pins σ H s1 e s' I1 hq
 | ok fl=>
   cases fl with
   | ret u=>exact I1.after hq
   | next=>exact False.elim hq
   | brk=>exact False.elim hq
   | cont=>exact False.elim hq
def bZ5 {pl:Sem Bool} (he:PE X o ta) (c:Cls X.K C) (hm:Meth X.K C m f) (F:FnOk X.prog X.w X.K X.mg X.base CX k f fd ps sp) (hr:Room k X.A) (hb:Binds X.K fd ps []) (hx:uQ CX X Es) (ha:PA X (e::es) t)
   (hst:starEach (e::es) X.env=(false,eval e X.env)::starEach es X.env:=by rfl) (hpl:(backTo pos (starEach es X.env)).any (·.1)=false:=by rfl)
   (ht:eval (.Call (.Attribute o m apos) (e::es) [] pos) X.env=(do
     let ov <-eval o X.env
     standAt apos.atName
     let (f,first) <-holding [ov] (getMethod ov m pl)
     callWith pos f first (backTo pos (starEach (e::es) X.env)) (backToKw pos (keywordEach [] X.env))):=by rfl) :
   PE X (.Call (.Attribute o m apos) (e::es) [] pos) (aQX C m sp Es ta t):=by
 intro pins s σ H Q I h;refine Fp (pl:=pl) (thn (he pins s σ H _ I h) λu s1 ⟨x,H1,I1,rx,a,dx,fs,ex,ea,l,q⟩=>?_) ht;subst ex;obtain rfl:u=Value.ref a:=rx;refine mM I1 ea c hm l ?_;refine Fi (first:=[.ref a]) (h₀:=X.base) I.ok.mod.kin hm.kp (thn (ha pos pins s1 σ H1 _ I1 q) λus s2 ⟨vs,H2,I2,r,q2⟩=>⟨I2.kIn,?_⟩) hst hpl
 exact cX4 (us:=.ref a::us) (vs:=.ref a::vs) F hr hb hx I2 (.cons rfl r) q2
def aJV {pl:Sem Bool} (c:bQK CX0 X.prog X.w X.K X.mg X.base k C m ps sp) (cl:Cls X.K C) (hr:Room k' X.A) (hk:k<=k') (he:PE X o ta)
   (ht:eval (.Call (.Attribute o m apos) [] [] pos) X.env=(do
     let ov <-eval o X.env
     standAt apos.atName
     let (f,first) <-holding [ov] (getMethod ov m pl)
     callWith pos f first (backTo pos (starEach [] X.env)) (backToKw pos (keywordEach [] X.env))):=by rfl) :
   PE X (.Call (.Attribute o m apos) [] [] pos) (bX5 C m sp [] E0 ta bXG):=by
 obtain ⟨f,fd,F,hm,hb⟩:=c;exact cQ4 (pl:=pl) he cl hm F (hr.mono hk) hb .nil bXV ht
def aZY {pl:Sem Bool} (c:bQK (CXr X.prog X.w) X.prog X.w X.K X.mg X.base k C m ps sp) (cl:Cls X.K C) (hx:uQ (CXr X.prog X.w) X Es) (hr:Room k' X.A) (hk:k<=k') (he:PE X o ta) (ha:PA X (e::es) t)
   (hst:starEach (e::es) X.env=(false,eval e X.env)::starEach es X.env:=by rfl) (hpl:(backTo pos (starEach es X.env)).any (·.1)=false:=by rfl)
   (ht:eval (.Call (.Attribute o m apos) (e::es) [] pos) X.env=(do
     let ov <-eval o X.env
     standAt apos.atName
     let (f,first) <-holding [ov] (getMethod ov m pl)
     callWith pos f first (backTo pos (starEach (e::es) X.env)) (backToKw pos (keywordEach [] X.env))):=by rfl) :
   PE X (.Call (.Attribute o m apos) (e::es) [] pos) (aQX C m sp Es ta t):=by
 obtain ⟨f,fd,F,hm,hb⟩:=c;exact bZ5 (pl:=pl) he cl hm F (hr.mono hk) hb hx ha hst hpl ht
def dJ3 (c:dX3 CX0 X.prog X.w X.K X.mg X.base k C ps sp) (hr:Room k' X.A) (hk:k+1<=k') (hg:Gl X x) (hm:X.mg x=some (.ref C)) (ha:PA X (e::es) t) (hdb:(x == ("__debug__" : Str))=false:=by decide) (he:starEach (e::es) X.env=(false,eval e X.env)::starEach es X.env:=by rfl) (hpl:(backTo pos (starEach es X.env)).any (·.1)=false:=by rfl) :
   PE X (.Call (.Name x p) (e::es) [] pos) (bJ4 C sp [] E0 t):=by
 obtain ⟨f,fd,F,M,hb⟩:=c;exact cZM M F (hr.mono hk) hg hm hb .nil bXV ha hdb he hpl
def eXB {dvs:List V} (h:ta σ H λx H1=>∃ a dx fs,x=.ref a/\H1 a=some (.ins C dx fs)/\fs.lookup m=none/\t σ H1 λvs H2=>sp (x::(vs++dvs)) H2 Q E):bX5 C m sp dvs E ta t σ H Q:=h
def dZS (h:ta σ H λx H1=>∃ a dx fs,x=.ref a/\H1 a=some (.ins C dx fs)/\fs.lookup m=none/\t σ H1 λvs H2=>sp (x::vs) H2 Q (Es σ)):aQX C m sp Es ta t σ H Q:=h
def eZ7 {dvs:List V} (h:t σ H λvs H1=>∀ x dx,H1 x=none->H1 dx=none->dx≠x->sp (.ref x::(vs++dvs)) (upd (upd H1 dx (.own x)) x (.ins C dx [])) (λv H2=>v=.non/\Q (.ref x) H2) E):bJ4 C sp dvs E t σ H Q:=h
def eZS {K:W.Frag} {f:Str} (h:ta σ H λx H1=>∃ a C dx fs v,x=.ref a/\H1 a=some (.ins C dx fs)/\Cls K C/\NoAttr K C f/\fs.lookup f=some v/\Q v H1):eZG K ta f σ H Q:=h
def dXU {K:W.Frag} {f:Str} {tv:TE} {D:Ends} (h:tv σ H λy H1=>ta σ H1 λx H2=>∃ a C dx fs,x=.ref a/\H2 a=some (.ins C dx fs)/\Cls K C/\NoAttr K C f/\fs.length<1000/\D.nx σ (upd H2 a (.ins C dx (gL f y fs)))):eZZ K ta tv f D σ H:=h
end
def vT (w:World):List DictEntry->List (Str×Int)->Prop
 | [],[]=>True
 | e::es,kn::r=>e.hash=PyData.keyHash w.params kn.1/\(∃ t,e.key=.str kn.1 t)/\(∃ t,e.val=.int kn.2 t)/\vT w es r
 | _,_=>False
def eZL (w:World) (K:W.Frag) (mg:Str->Option Value) (x:Str) (kvs:List (Str×Int)):Prop :=
 ∃ (d:Addr) (es:Array DictEntry) (ep:Nat),mg x=some (.ref d)/\K.lookup d=some ⟨.type "dict",none,.dict es ep,#[]⟩/\(d == sysModules)=false/\vT w es.toList kvs/\(kvs.map (·.1)).Nodup
def sB {P:Program} {w:World}:∀ {es:List DictEntry} {kvs:List (Str×Int)},vT w es kvs->∃ vs:List (Key×Value),Pairs (aZ P w) es vs/\vs.map (·.1)=kvs.map (λkn=>(Sum.inr kn.1:Key))/\(∀ e∈es,∃ k,(aZ P w).is k e.key=true/\e.hash=(aZ P w).hash k)/\
   ∀ z,(match valueAt vs (Sum.inr z:Key) with | some u=>∃ n t,kvs.lookup z=some n/\u=.int n t | none=>kvs.lookup z=none)
 | [],[],_=>⟨[],.nil,rfl,(λe he=>nomatch he),λz=>rfl⟩
 | e::es,(k,n)::r,h=>by
   obtain ⟨h1,⟨t,h2⟩,⟨t',h3⟩,h4⟩:=h;obtain ⟨vs,p,m,ke,va⟩:=sB (P:=P) h4;refine ⟨((Sum.inr k:Key),.int n t')::vs,.cons (by rw [h2]; exact lI k t) h3 p,by rw [Au,m]; rfl,λe' he=>?_,λz=>?_⟩
   . rcases Ay.mp he with rfl | q
     . exact ⟨Sum.inr k,by rw [h2]; exact lI k t,h1⟩
     . exact ke e' q
   . have va':=va z
     unfold valueAt at va' ⊢;rw [List.find?_cons];by_cases ez:k=z
     . subst ez;rw [An rfl];exact ⟨n,t',by rw [Dg,Fe],rfl⟩
     . rw [Ax λq=>ez (Sum.inr.inj q)];rw [Dg,show (z == k)=false from Cp.mpr λq=>ez q.symm];exact va'
 | [],_::_,h=>h.elim
 | _::_,[],h=>h.elim
def dXL (kvs:List (Str×Int)) (ta:TA):TE:=λσ H Q=>ta σ H λvs H1=>∃ z,vs=[.str z]/\Q (match kvs.lookup z with | some n=>.int n | none=>.non) H1
def dQG {X:Cx} {x:Str} {kvs:List (Str×Int)} {e:Expr} {p apos cpos:Pos} {ta:TA} (hg:Gl X x) (hk:eZL X.w X.K X.mg x kvs) (ha:PA X [e] ta) (hdb:(x == ("__debug__" : Str))=false:=by decide)
   (hbase:attributeBase (.Name x p) "get" X.env (eval (.Name x p) X.env)=eval (.Name x p) X.env:=by rfl)
   (hfew:((backTo cpos (starEach [e] X.env)).all (λx=>!x.1) && (backToKw cpos (keywordEach [] X.env)).all (λx=>x.1.isSome)
     && decide (([e]:List Expr).length+([]:List Keyword).length+(if ([]:List Keyword).isEmpty then 0 else 1)<30))=true:=by rfl)
   (hline:(apos.endLine == cpos.line)=true:=by rfl) (hs:starEach [e] X.env=(false,eval e X.env)::starEach [] X.env:=by rfl) (hplain:(backTo cpos (starEach [] X.env)).any (·.1)=false:=by rfl) :
   PE X (.Call (.Attribute (.Name x p) "get" apos) [e] [] cpos) (dXL kvs ta):=by
 intro pins s σ H Q I h;obtain ⟨d,es,ep,hm,hl,hd,ok,nd⟩:=hk;obtain ⟨vs,pr,m,ke,va⟩:=sB (P:=X.prog) ok;have dd:∀ s':Shared,X.K.In s'.heap->s'.heap.DictOf (aZ X.prog X.w) d vs:=λs' k=>⟨_,es,ep,k _ _ hl,by first | exact ⟨rfl,rfl,rfl⟩ | exact ⟨rfl,rfl⟩ | (constructor <;> rfl),rfl,λe he=>ke e (by simpa using he),pr,by rw [m,show kvs.map (λkn=>(Sum.inr kn.1:Key))=(kvs.map (·.1)).map (λz=>(Sum.inr z:Key)) by rw [List.map_map]; rfl]; exact List.pairwise_map.mpr (nd.imp λn q=>n (Sum.inr.inj q))⟩
 have ho:PE X (.Name x p) (tC (.ref d)):=vW hg hm rfl hdb
 refine Gx hbase hfew hline rfl (thn (ho pins s σ H (λy H1=>y=.ref d/\H1=H) I ⟨rfl,rfl⟩) λv s1 ⟨x',H1,I1,r1,q⟩=>?_);obtain ⟨rfl,rfl⟩:=q;cases r1;have d1:=dd s1 I1.kIn
 refine ⟨"dict",_,PySem.F.plainAttrs_dict,Bz,rfl,d1.typeIs,λb q=>?_,?_⟩
 . cases q;obtain ⟨ob,_,_,h1,h2,_⟩:=d1;exact ⟨ob,h1,h2.2.1⟩
 have hA:=ha cpos pins s1 σ H1 _ I1 h
 rw [hs] at hA ⊢;refine Fj (by show (false || (backTo cpos (starEach [] X.env)).any (·.1))=false; rw [hplain] <;> rfl) (Gd ?_)
 refine thn hA λus s2 ⟨vs',H2,I2,r2,z,ez,q2⟩=>?_;subst ez;obtain ⟨u,rfl,t,rfl⟩:=gD r2;have d2:=dd s2 I2.kIn
 refine Hr Bz d2.typeIs Eh (Gv _ _) (meets_dict_get (aZ X.prog X.w) d (show (aZ X.prog X.w).is (Sum.inr z:Key) (Value.str z t)=true from lI z t) hd) ⟨_,d2.mapOf,?_⟩;have va':=va z
 cases e:valueAt vs (Sum.inr z:Key) with
 | none=>
   rw [e] at va';have va2:kvs.lookup z=none:=va'
   rw [va2] at q2;exact ⟨.non,H2,I2.tok _,rfl,q2⟩
 | some u=>
   rw [e] at va';obtain ⟨n,t',e2,rfl⟩:=va';rw [e2] at q2;exact ⟨.int n,H2,I2.tok _,⟨t',rfl⟩,q2⟩
def eQE {kvs:List (Str×Int)} {ta:TA} {σ:St} {H:Hp} {Q:VK} (h:ta σ H λvs H1=>∃ z,vs=[.str z]/\Q (match kvs.lookup z with | some n=>.int n | none=>.non) H1):dXL kvs ta σ H Q:=h
section
variable {X:Cx}
def dXB:R2:=λx y H Q=>∃ (p q:Addr) (xs:List V),x=.ref p/\y=.ref q/\H p=some (.tup xs)/\H q=some (.tup [])/\Q (.bl xs.isEmpty) H
def dZE (hu:X.A.units<cLine):OpR X (compareOp .Eq) dXB:=by
 intro pins s σ H x y v u Q I rx ry h;obtain ⟨p,q,xs,rfl,rfl,hp,hq,k⟩:=h;cases rx;cases ry;obtain ⟨its,r1,l1,_⟩:=I.tuple (SqT.of (K:=X.K) hp);obtain ⟨its2,r2,l2,_⟩:=I.tuple (SqT.of (K:=X.K) hq);have e1:=r1.length
 cases r2;refine SeqAt.eq_tupleAt (e:=λ_=>true) (show s.heap.IsTuple p _ from l1) (show s.heap.IsTuple q _ from l2) hu (λj h1 h2=>absurd h2 (by simp)) ?_
 refine ⟨.bl xs.isEmpty,H,I,?_,k⟩;show Value.bool _=Value.bool _
 congr 1
 cases xs with
 | nil=>
   have:its=[]:=Fh e1.symm
   subst this;rfl
 | cons a r=>
   cases its with
   | nil=>simp at e1
   | cons b t=>simp
def dZU {H:Hp} {Q:VK} {p q:Addr} {xs:List V} (hp:H p=some (.tup xs)) (hq:H q=some (.tup [])) (h:Q (.bl xs.isEmpty) H):dXB (.ref p) (.ref q) H Q:=⟨p,q,xs,rfl,rfl,hp,hq,h⟩
end
section
variable {X:Cx}
def eJS (z:Str):Value->Bool
 | .str y _=>y == z
 | _=>false
def aZU:V->List V->Hp->VK->Prop:=λx vs H Q=>∃ (p:Addr) (ss:List Str) (z:Str) (j:Nat),x=.ref p/\vs=[.str z]/\rdL H p=some (ss.map V.str)/\ss[j]?=some z/\(∀ (i:Nat) y,i<j->ss[i]?=some y->y≠z)/\Q (.int (j:Int)) H
def bX4:MtR X "list.index" aZU:=by
 intro pins s σ H x vs v us Q I rx rv h;obtain ⟨p,ss,z,j,rfl,rfl,hp,hj,hb,q⟩:=h;cases rx;obtain ⟨u,rfl,t0,rfl⟩:=rv.one;obtain ⟨its,r,pl,hz⟩:=I.list (bB hp);obtain ⟨⟨c,dd,dt,sl⟩,ho,hc,n,hd⟩:=pl.isList;obtain rfl:c=.type "list" := hc;obtain rfl:dt=.seq its.toArray n:=hd;have hlen:=r.length
 rw [Ab] at hlen hz;have hjl:j<ss.length:=(Ad.mp hj).1
 have hn:=kD
 have rel:∀ m (hm:m<its.length),∃ y t,ss[m]?=some y/\its[m]=.str y t:=λm hm=>by
   have hm':m<ss.length:=by omega
   obtain ⟨u,hu,t,ru⟩:=r.get (show (ss.map V.str)[m]?=some (.str ss[m]) by rw [Af,Aa hm']; rfl)
   rw [Aa hm] at hu;cases hu;exact ⟨ss[m],t,Aa hm',ru⟩
 refine Gq Fg ⟨_,ho,rfl⟩ PySem.F.entry_list_index (PySem.F.args_list_index_2 _ _) (SeqAt.list_indexAt p its.toArray n dd sl (.str z t0) (eJS z) j (by rw [Bb]; omega) (by omega) ?_ ?_) ⟨ho,λy hy=>?_,⟨.int j,H,I.tok _,⟨_,rfl⟩,q⟩⟩
 . obtain ⟨y,t,hy,e⟩:=rel j (by omega)
   rw [hj] at hy;cases hy;rw [Ge,e];exact Fe _
 . intro m hm hmj;have hm':m<its.length:=by rw [Bb] at hm; exact hm
   obtain ⟨y,t,hy,e⟩:=rel m hm';rw [Ge,e];exact Cp.mpr (hb m y hmj hy)
 . have hy':y∈its:=by simpa using hy
   obtain ⟨m,hm,rfl⟩:=By.mp hy';obtain ⟨y,t,_,e⟩:=rel m hm;rw [e];exact SeqAt.EqAt.str_str y t z t0
def cXT {H:Hp} {Q:VK} {p:Addr} {ss:List Str} {z:Str} {j:Nat} (e:rdL H p=some (ss.map V.str)) (hj:ss[j]?=some z) (hb:∀ (i:Nat) y,i<j->ss[i]?=some y->y≠z) (h:Q (.int (j:Int)) H):aZU (.ref p) [.str z] H Q:=⟨p,ss,z,j,rfl,rfl,e,hj,hb,h⟩
end
end L2
namespace Mine
open PySem L2
local macro_rules | `(tactic| walk_at "rd") => `(tactic| first | assumption | exact dG | exact dU | exact pF | exact aT (by assumption) | exact bL (by assumption) | (apply aK (aG (by assumption) _); walk_at "rd"))
local macro_rules | `(tactic| walk_at "dd") => `(tactic| first | exact pB (by assumption) | exact cQ5 (by assumption) | exact pB aD | assumption)
local macro_rules | `(tactic| walk_at "lo") => `(tactic| first | assumption | decide | omega | (simp only [List.length_map,List.length_append,List.length_cons,List.length_nil,Str.length_append]; omega))
local macro_rules | `(tactic| walk_at "ln") => `(tactic| first | assumption | decide | exact bN (by walk_at "lo") | exact bG (by walk_at "lo"))
local macro_rules | `(tactic| walk_at "ar") => `(tactic| first | assumption | decide | omega | exact ⟨by omega,by omega⟩ | exact Or.inl ⟨by omega,by omega⟩ | exact Or.inr ⟨by omega,by omega⟩ | (dsimp only; done) | (dsimp only; omega))
local macro_rules | `(tactic| walk_at "s") => `(tactic| first
 | (with_reducible first | refine lY ?_ | refine dZV ?_ | refine eJ0 ?_ | refine eZ6 ?_ | refine dJF ?_ | refine eQW ?_ | refine eX7 ?_ | refine xE ?_ | refine dJQ ?_)
 | ((with_reducible refine' eXI ?sv ?_); (case sv => exact rfl))
 | (with_reducible first | refine s_c ?_ | refine eJZ ?_ | refine eJO ?_ | refine eXO ?_ | refine eQB ?_ | refine dZD ?_ | refine eJW ?_ | refine eJH ?_ | refine cQN ?_ | refine dJI ?_ | refine dJT ?_ | refine eJA ?_)
 | ((with_reducible refine' eQ7 ?se ?_); (case se => walk_at "rd"))
 | (with_reducible first | refine dJ5 ?_ | refine cJC ?_ | refine eJV ?_ | refine dZ3 ?_ | refine eQ5 ?_ | refine eJM ?_ | refine eQ9 ?_ | refine dZ8 ?_ | refine eZB ?_ | refine eJQ ?_)
 | ((with_reducible refine eZQ ?sc ?_); (case sc => walk_at "ar"))
 | with_reducible refine eQH ?_
 | ((with_reducible refine dX2 ?sc ?_); (case sc => walk_at "ln"))
 | (with_reducible first | refine eQ4 ?_ | refine eX8 ?_ | refine eZJ ?_ | refine eXR ?_ | refine dJ6 ?_ | refine eXL ?_)
 | ((with_reducible refine' eXT ?sc ?_); (case sc => walk_at "rd"))
 | ((with_reducible refine dXQ ?sc ?_); (case sc => walk_at "ln"))
 | ((with_reducible refine' dZL ?sc ?_); (case sc => walk_at "rd"))
 | ((with_reducible refine' dJ8 ?sc ?_); (case sc => walk_at "rd"))
 | ((with_reducible refine' eXS ?se ?se2 ?_); (case se => first | exact rfl | exact aZ8 (by assumption) | exact tyN_dK (by assumption) | exact tyN_tup (by assumption) | exact aZ8 aD | exact tyN_dK aD); (case se2 => first | exact (show bQQ _ _ = some true from rfl) | exact (show bQQ _ _ = some false from rfl) | exact rfl))
 | (with_reducible first | refine dZ1 ?_ | refine cZ8 ?_ | refine cZ4 ?_ | refine dQI ?_ | refine cZQ ?_ | refine cZZ ?_ | refine dZI ?_ | refine dZG ?_ | refine bZL ?_)
 | ((with_reducible refine' eXJ ?se ?_); (case se => walk_at "rd"))
 | ((with_reducible refine' eXG ?se ?sl ?_); (case se => walk_at "rd"); (case sl => walk_at "ln"))
 | with_reducible refine cZ2 ?_
 | ((with_reducible refine' dQ8 ?se ?sf ?sl ?_); (case se => walk_at "rd"); (case sf => walk_at "rd"); (case sl => walk_at "ln"))
 | ((with_reducible refine' cJR ?se ?_); (case se => walk_at "rd"))
 | (with_reducible first | refine cZW ?_ | refine bZS ?_ | refine eQI ?_ | refine dJG ?_ | refine dX5 ?_ | refine cZY ?_ | refine dX4 ?_)
 | ((with_reducible refine' dZ0 ?se ?sn ?_); (case se => walk_at "rd"); (case sn => exact rfl))
 | (with_reducible first | refine eZ1 ?_ | refine eZ2 ?_ | refine cX1 ?_ | refine cJQ ?_ | refine eQU ?_ | refine dJV ?_ | refine cJP ?_)
 | ((with_reducible refine eZV ?sd ?_); (case sd => walk_at "dd"))
 | (with_reducible first | refine eQA ?_ | refine eQV ?_ | refine dJC ?_ | refine cZU ?_ | refine bZQ ?_ | refine cJB ?_ | refine dJ7 ?_ | refine eXA ?_)
 | ((with_reducible refine' dJK ?se ?sn ?_); (case se => walk_at "rd"); (case sn => exact rfl))
 | (with_reducible first | refine cJ1 ?_ | refine dJO ?_ | refine dJJ ?_ | refine bZK ?_)
 | ((with_reducible refine cZP ?sc ?_); (case sc => walk_at "ln"))
 | (with_reducible first | refine eQ8 ?_ | refine cQB ?_ | refine dQD ?_ | refine cZD ?_ | refine dJ0 ?_ | refine eZ8 ?_ | refine dXU ?_ | refine eZS ?_ | refine eXB ?_ | refine dZS ?_ | refine eZ7 ?_ | refine eQE ?_ | refine eJ2 ?_ | refine eJN ?_ | refine eQZ ?_ | refine eZK ?_)
 | dsimp only)
local macro_rules | `(tactic| walk_at "go") => `(tactic| repeat' (walk_at "s"))
local macro_rules | `(tactic| walk_at "sc") => `(tactic| exact ⟨rfl,rfl,rfl,by decide +kernel,rfl,by decide +kernel,by decide +kernel⟩)
local macro_rules | `(tactic| walk_at "o") => `(tactic| first | exact Or.inl rfl | exact Or.inr rfl)
local macro_rules | `(tactic| walk_at "gs") => `(tactic| repeat' ((fail_if_success (with_reducible refine lY ?_)); (walk_at "s")))
def top (i:Nat):Stmt:=PySem.Challenge.pw_flaglocker_k58_read_of_a_tower.main.body.getD i (.Pass ⟨0,0,0,0⟩)
abbrev gW:Stmt:=top 82
abbrev jK:Stmt:=top 83
abbrev jL:Stmt:=top 85
abbrev dQ:Stmt:=top 84
abbrev hZ:Stmt:=top 86
abbrev fF:Stmt:=top 81
abbrev cX:Stmt:=top 46
abbrev dX:Stmt:=uL (top 79) 0
abbrev iC:Stmt:=top 87
abbrev gX:Stmt:=top 6
abbrev dW:Stmt:=top 10
abbrev bY:Stmt:=top 12
abbrev fP:Stmt:=top 13
abbrev eF:Stmt:=top 14
abbrev hV:Stmt:=top 7
abbrev fD:Stmt:=top 41
abbrev fR:Stmt:=top 42
abbrev iA:Stmt:=top 43
abbrev dD:Stmt:=uL (top 79) 5
abbrev fU:Stmt:=top 88
abbrev oZ:Stmt:=top 89
abbrev fI:Stmt:=top 77
abbrev bU:Stmt:=top 70
abbrev jG:Stmt:=top 48
abbrev cK:Stmt:=top 60
abbrev iB:Stmt:=top 64
abbrev fB:Stmt:=uL (top 19) 0
abbrev cQ:Stmt:=top 62
abbrev eY:Stmt:=top 51
abbrev cY:Stmt:=top 50
abbrev eE:Stmt:=top 54
abbrev fE:Stmt:=top 52
abbrev dA:Stmt:=top 55
abbrev dZ:Stmt:=top 56
abbrev cS:Stmt:=top 57
abbrev hU:Stmt:=top 58
abbrev fW:Stmt:=top 63
abbrev cZ:Stmt:=top 65
abbrev fG:Stmt:=top 66
abbrev eC:Stmt:=uL (top 18) 0
abbrev lR:Stmt:=top 47
abbrev jD:Stmt:=top 67
abbrev hJ:Stmt:=top 8
abbrev eG:Stmt:=top 11
abbrev dH:Stmt:=uL (top 22) 0
abbrev dI:Stmt:=top 73
abbrev cV:Stmt:=top 74
abbrev eT:Stmt:=top 75
abbrev eU:Stmt:=top 76
abbrev dJ:Stmt:=top 78
abbrev fT:Stmt:=uL (top 79) 1
abbrev mK:Stmt:=top 90
structure Gs (K:W.Frag) (mg:Str->Option Value) (w:World) (Zt Zz Zu Zx Z0 Zw Zy Zv:Addr):Prop where
 c_Lack:mg "Lack"=some (.ref Zt)
 c_TowerError:mg "TowerError"=some (.ref Zz)
 c_Short:mg "Short"=some (.ref Zu)
 c_NoHoist:mg "NoHoist"=some (.ref Zx)
 c_Tower:mg "Tower"=some (.ref Z0)
 c_NoDeed:mg "NoDeed"=some (.ref Zw)
 c_NoHalyard:mg "NoHalyard"=some (.ref Zy)
 c_NoWord:mg "NoWord"=some (.ref Zv)
 m_Lack:W.exmOne K (.ref Zt) (.ref Zt)=some true
 x_NoHoist:W.excIn K Zx [.type "ValueError",.type "Exception",.type "BaseException",.type "object"] "ValueError.__new__"=true
 m_Short:W.exmOne K (.ref Zu) (.ref Zu)=some true
 x_NoDeed:W.excIn K Zw [.type "ValueError",.type "Exception",.type "BaseException",.type "object"] "ValueError.__new__"=true
 x_NoHalyard:W.excIn K Zy [.type "ValueError",.type "Exception",.type "BaseException",.type "object"] "ValueError.__new__"=true
 t1_TowerError:W.specialIn K (.ref Zz) "__getattribute__"=some (some (.builtin "type.__getattribute__"))
 t2_TowerError:W.readsIn K Zz (.type "type")=true
 t3_TowerError:W.findCls K (.ref Zz) (.type "type") "__init__"=some (.val (.builtin "ValueError.__init__"))
 xo_Lack:rY K Zt [.type "ValueError",.type "Exception",.type "BaseException",.type "object"] "ValueError.__new__"=true
 xk_Lack:W.keepIn K (.ref Zt)=true
 xe1_Lack:W.hasDictIn K Zt=true
 xe2_Lack:W.findIn K (.ref Zt) "__getattribute__"=some (some (.builtin "BaseException.__getattribute__"))
 xe3_Lack:W.findIn K (.ref Zt) "__getattr__"=some none
 xe4_Lack:W.findIn K (.ref Zt) "__class__"=some (some (.builtin "object.__class__"))
 xe5_Lack:W.specialIn K (.builtin "object.__class__") "__get__"=some (some (.builtin "getset_descriptor.__get__"))
 xe6_Lack:W.takesIn K (.builtin "object.__class__")=some true
 xe7_Lack:W.mroIn K Zt (.type "object")=some true
 xe8_Lack:W.subIn K (.ref Zt) (.type "BaseException")=some true
 xs_Lack:W.findIn K (.ref Zt) "__setattr__"=some (some (.builtin "object.__setattr__"))
 xr_Lack:aQW K Zt Zz=true
 xv_Lack:W.subIn K (.ref Zt) (.type "ValueError")=some true
 xn_Lack_wants:W.findIn K (.ref Zt) "wants"=some none
 xn_Lack_flags:W.findIn K (.ref Zt) "flags"=some none
 xo_Short:rY K Zu [.type "ValueError",.type "Exception",.type "BaseException",.type "object"] "ValueError.__new__"=true
 xk_Short:W.keepIn K (.ref Zu)=true
 xe1_Short:W.hasDictIn K Zu=true
 xe2_Short:W.findIn K (.ref Zu) "__getattribute__"=some (some (.builtin "BaseException.__getattribute__"))
 xe3_Short:W.findIn K (.ref Zu) "__getattr__"=some none
 xe4_Short:W.findIn K (.ref Zu) "__class__"=some (some (.builtin "object.__class__"))
 xe5_Short:W.specialIn K (.builtin "object.__class__") "__get__"=some (some (.builtin "getset_descriptor.__get__"))
 xe6_Short:W.takesIn K (.builtin "object.__class__")=some true
 xe7_Short:W.mroIn K Zu (.type "object")=some true
 xe8_Short:W.subIn K (.ref Zu) (.type "BaseException")=some true
 xs_Short:W.findIn K (.ref Zu) "__setattr__"=some (some (.builtin "object.__setattr__"))
 xr_Short:aQW K Zu Zz=true
 xv_Short:W.subIn K (.ref Zu) (.type "ValueError")=some true
 xn_Short_flag:W.findIn K (.ref Zu) "flag"=some none
 xo_NoWord:rY K Zv [.type "ValueError",.type "Exception",.type "BaseException",.type "object"] "ValueError.__new__"=true
 xk_NoWord:W.keepIn K (.ref Zv)=true
 xe1_NoWord:W.hasDictIn K Zv=true
 xe2_NoWord:W.findIn K (.ref Zv) "__getattribute__"=some (some (.builtin "BaseException.__getattribute__"))
 xe3_NoWord:W.findIn K (.ref Zv) "__getattr__"=some none
 xe4_NoWord:W.findIn K (.ref Zv) "__class__"=some (some (.builtin "object.__class__"))
 xe5_NoWord:W.specialIn K (.builtin "object.__class__") "__get__"=some (some (.builtin "getset_descriptor.__get__"))
 xe6_NoWord:W.takesIn K (.builtin "object.__class__")=some true
 xe7_NoWord:W.mroIn K Zv (.type "object")=some true
 xe8_NoWord:W.subIn K (.ref Zv) (.type "BaseException")=some true
 xs_NoWord:W.findIn K (.ref Zv) "__setattr__"=some (some (.builtin "object.__setattr__"))
 xr_NoWord:aQW K Zv Zz=true
 xv_NoWord:W.subIn K (.ref Zv) (.type "ValueError")=some true
 xn_NoWord_at:W.findIn K (.ref Zv) "at"=some none
 cl1_Tower:W.plainGet K Z0 Str.empty=true
 cl2_Tower:W.hasDictIn K Z0=true
 cl3_Tower:W.plainOver K Z0=true
 cl4_Tower:W.findIn K (.ref Z0) "__setattr__"=some (some (.builtin "object.__setattr__"))
 mk1_Tower:W.makesIn K Z0=true
 mk2_Tower:W.keepIn K (.ref Z0)=true
 na_Tower_book:W.findIn K (.ref Z0) "book"=some none
 na_Tower_many:W.findIn K (.ref Z0) "many"=some none
 na_Tower_stock_at_first:W.findIn K (.ref Z0) "stock_at_first"=some none
 na_Tower_stock:W.findIn K (.ref Z0) "stock"=some none
 na_Tower_hung:W.findIn K (.ref Z0) "hung"=some none
 na_Tower_deeds:W.findIn K (.ref Z0) "deeds"=some none
 d_THINGS_IN:eZL w K mg "THINGS_IN" [("haul",3),("lower",2),("lose",2),("find",2),("say",2)]
 b_range:mg "range"=none
 b_enumerate:mg "enumerate"=none
 b_sum:mg "sum"=none
 b_len:mg "len"=none
 b_list:mg "list"=none
 b_int:mg "int"=none
 b_all:mg "all"=none
 b_zip:mg "zip"=none
 b_isinstance:mg "isinstance"=none
 b_bool:mg "bool"=none
 s_FLAGS:∃ t,mg "FLAGS"=some (.str "abcdefghijklmnopqrstuvw1234" t)
 s_LETTERS:∃ t,mg "LETTERS"=some (.str "abcdefghijklmnopqrstuvw" t)
 s_SUBSTITUTES:∃ t,mg "SUBSTITUTES"=some (.str "1234" t)
 s_MOST_PLACES:∃ t,mg "MOST_PLACES"=some (.int 7 t)
def Gs.xx_Lack {K:W.Frag} {mg:Q4} {w:World} {Zt Zz Zu Zx Z0 Zw Zy Zv:Addr} (G:Gs K mg w Zt Zz Zu Zx Z0 Zw Zy Zv):ExK K Zt:=⟨G.xe1_Lack,G.xe2_Lack,G.xe3_Lack,G.xe4_Lack,G.xe5_Lack,G.xe6_Lack,G.xe7_Lack,G.xe8_Lack⟩
def Gs.xc_Lack {K:W.Frag} {mg:Q4} {w:World} {Zt Zz Zu Zx Z0 Zw Zy Zv:Addr} (G:Gs K mg w Zt Zz Zu Zx Z0 Zw Zy Zv):XcK K Zt Zz:=⟨G.xx_Lack,G.xs_Lack,wR G.xr_Lack,G.xv_Lack⟩
def Gs.xm_Lack {K:W.Frag} {mg:Q4} {w:World} {Zt Zz Zu Zx Z0 Zw Zy Zv:Addr} (G:Gs K mg w Zt Zz Zu Zx Z0 Zw Zy Zv):XmK K Zt:=⟨G.xo_Lack,G.xk_Lack⟩
def Gs.xx_Short {K:W.Frag} {mg:Q4} {w:World} {Zt Zz Zu Zx Z0 Zw Zy Zv:Addr} (G:Gs K mg w Zt Zz Zu Zx Z0 Zw Zy Zv):ExK K Zu:=⟨G.xe1_Short,G.xe2_Short,G.xe3_Short,G.xe4_Short,G.xe5_Short,G.xe6_Short,G.xe7_Short,G.xe8_Short⟩
def Gs.xc_Short {K:W.Frag} {mg:Q4} {w:World} {Zt Zz Zu Zx Z0 Zw Zy Zv:Addr} (G:Gs K mg w Zt Zz Zu Zx Z0 Zw Zy Zv):XcK K Zu Zz:=⟨G.xx_Short,G.xs_Short,wR G.xr_Short,G.xv_Short⟩
def Gs.xm_Short {K:W.Frag} {mg:Q4} {w:World} {Zt Zz Zu Zx Z0 Zw Zy Zv:Addr} (G:Gs K mg w Zt Zz Zu Zx Z0 Zw Zy Zv):XmK K Zu:=⟨G.xo_Short,G.xk_Short⟩
def Gs.xx_NoWord {K:W.Frag} {mg:Q4} {w:World} {Zt Zz Zu Zx Z0 Zw Zy Zv:Addr} (G:Gs K mg w Zt Zz Zu Zx Z0 Zw Zy Zv):ExK K Zv:=⟨G.xe1_NoWord,G.xe2_NoWord,G.xe3_NoWord,G.xe4_NoWord,G.xe5_NoWord,G.xe6_NoWord,G.xe7_NoWord,G.xe8_NoWord⟩
def Gs.xc_NoWord {K:W.Frag} {mg:Q4} {w:World} {Zt Zz Zu Zx Z0 Zw Zy Zv:Addr} (G:Gs K mg w Zt Zz Zu Zx Z0 Zw Zy Zv):XcK K Zv Zz:=⟨G.xx_NoWord,G.xs_NoWord,wR G.xr_NoWord,G.xv_NoWord⟩
def Gs.xm_NoWord {K:W.Frag} {mg:Q4} {w:World} {Zt Zz Zu Zx Z0 Zw Zy Zv:Addr} (G:Gs K mg w Zt Zz Zu Zx Z0 Zw Zy Zv):XmK K Zv:=⟨G.xo_NoWord,G.xk_NoWord⟩
def Gs.cl_Tower {K:W.Frag} {mg:Q4} {w:World} {Zt Zz Zu Zx Z0 Zw Zy Zv:Addr} (G:Gs K mg w Zt Zz Zu Zx Z0 Zw Zy Zv):Cls K Z0:=⟨G.cl1_Tower,G.cl2_Tower,G.cl3_Tower,G.cl4_Tower⟩
abbrev lettersT:Str := "abcdefghijklmnopqrstuvw"
abbrev subsT:Str := "1234"
abbrev flagsT:Str := "abcdefghijklmnopqrstuvw1234"
abbrev one (c:Nat):Str:=⟨#[c]⟩
def cXX:lettersT.cps.toList=[97,98,99,100,101,102,103,104,105,106,107,108,109,110,111,112,113,114,115,116,117,118,119]:=by decide
def aXP:subsT.cps.toList=[49,50,51,52]:=by decide
def xN:flagsT.cps.toList=lettersT.cps.toList++subsT.cps.toList:=by decide
def aQ (c:Nat):Prop:=97<=c/\c<=119
def eI (c:Nat):Prop:=49<=c/\c<=52
instance (c:Nat):Decidable (aQ c):=inferInstanceAs (Decidable (_/\_))
instance (c:Nat):Decidable (eI c):=inferInstanceAs (Decidable (_/\_))
def mem_letters {c:Nat}:c∈lettersT.cps.toList ↔ aQ c:=by
 have h1:∀ c∈lettersT.cps.toList,aQ c:=by decide +kernel
 have h2:∀ k:_root_.Fin 23,97+k.val∈lettersT.cps.toList:=by decide +kernel
 refine ⟨h1 c,λh=>?_⟩;have e:=h2 ⟨c - 97,by have:=h.1; have:=h.2; omega⟩
 rwa [show 97+(c - 97)=c by have:=h.1; omega] at e
def mem_subs {c:Nat}:c∈subsT.cps.toList ↔ eI c:=by
 have h1:∀ c∈subsT.cps.toList,eI c:=by decide +kernel
 have h2:∀ k:_root_.Fin 4,49+k.val∈subsT.cps.toList:=by decide +kernel
 refine ⟨h1 c,λh=>?_⟩;have e:=h2 ⟨c - 49,by have:=h.1; have:=h.2; omega⟩
 rwa [show 49+(c - 49)=c by have:=h.1; omega] at e
def mem_flags {c:Nat}:c∈flagsT.cps.toList ↔ aQ c\/eI c:=by
 rw [xN,Bl,mem_letters,mem_subs]
def fZ {c:Nat} (h:aQ c):¬ eI c:=λz=>by unfold aQ at h; unfold eI at z; omega
def sM (c:Nat):subIn (one c) subsT=decide (eI c):=by
 rw [lQ];exact Dh.mpr mem_subs
def dX8 (c:Nat):subIn (one c) lettersT=decide (aQ c):=by
 rw [lQ];exact Dh.mpr mem_letters
def fQ (z:Str):z.cps.toList.length=z.length:=by simp [Str.length]
def qS {z:Str} (h:z.length=1):∃ c,z=one c:=by
 obtain ⟨⟨l⟩⟩:=z
 match l,h with
 | [c],_=>exact ⟨c,rfl⟩
def jT (z:Str):Bool:=if z.length=1 then subIn z flagsT else false
def pT {z:Str} (h:z.length≠1):jT z=false:=if_neg h
def rA {c:Nat}:jT (one c)=decide (aQ c\/eI c):=by
 unfold jT;rw [if_pos (by rfl),lQ]
 exact Dh.mpr mem_flags
def aJ9 {z:Str} (h:jT z=true):∃ c,z=one c/\(aQ c\/eI c):=by
 by_cases h1:z.length=1
 . obtain ⟨c,rfl⟩:=qS h1;rw [rA] at h;exact ⟨c,rfl,Az h⟩
 . rw [pT h1] at h;cases h
def kO (c:Nat) (p:Int):Prop:=aQ c\/(eI c/\(c:Int) - 48<p)
instance (c:Nat) (p:Int):Decidable (kO c p):=inferInstanceAs (Decidable (_\/_))
def dE (z:Str) (p:Int):Bool:=if z.length=1 then decide (kO (z.cps.toList.headD 0) p) else false
def nT {c:Nat} {p:Int}:dE (one c) p=decide (kO c p):=rfl
def tF {z:Str} {p:Int} (h:dE z p=true):∃ c,z=one c/\kO c p:=by
 by_cases h1:z.length=1
 . obtain ⟨c,rfl⟩:=qS h1;exact ⟨c,rfl,Az h⟩
 . unfold dE at h;rw [if_neg h1] at h;cases h
def cN (zs:List Str):Bool:=if zs.length<1\/7<zs.length then false else (List.range zs.length).all λi=>dE (zs.getD i ⟨#[]⟩) ((1+i:Nat):Int)
def fS {zs:List Str} (h:cN zs=true):1<=zs.length/\zs.length<=7:=by
 unfold cN at h;split at h
 . cases h
 . omega
def cQD {zs:List Str} (h:cN zs=true) {i:Nat} (hi:i<zs.length):dE (zs.getD i ⟨#[]⟩) ((1+i:Nat):Int)=true:=by
 unfold cN at h;split at h
 . cases h
 . exact Ck.mp h i (Bw.mpr hi)
def stp (w:List Nat) (c:Nat):Nat:=if eI c then w.getD (c - 49) 0 else c
def rdC (fs:List Nat):List Nat:=fs.foldl (λw c=>w++[stp w c]) []
def xM (fs:List Nat) (c:Nat):rdC (fs++[c])=rdC fs++[stp (rdC fs) c]:=by
 unfold rdC;rw [List.foldl_append];rfl
def kJ {fs:List Nat} {i c:Nat} (h:fs[i]?=some c):rdC (fs.take (i+1))=rdC (fs.take i)++[stp (rdC (fs.take i)) c]:=by
 rw [Bd,h];exact xM _ _
def wK:∀ fs:List Nat,(rdC fs).length=fs.length:=by
 intro fs;have h:∀ i,i<=fs.length->(rdC (fs.take i)).length=i:=by
   intro i;induction i with
   | zero=>intro _; rfl
   | succ i ih=>
     intro hi;rw [kJ (Aa (by omega)),Ag,ih (by omega)]
     rfl
 have q:=h fs.length (Ah _)
 rwa [Bp] at q
def gO {fs:List Nat} {i:Nat} (h:i<=fs.length):(rdC (fs.take i)).length=i:=by
 rw [wK,Bt]; omega
def aU (cs:List Nat):Str:=⟨cs.toArray⟩
def cJ (cs:List Nat):(aU cs).length=cs.length:=by show cs.toArray.size=_; simp
def dY (cs:List Nat):(aU cs).cps.toList=cs:=rfl
def jA (cs:List Nat) (c:Nat):aU cs++one c=aU (cs++[c]):=FlT.str_ext (by rw [FlT.app_cps]; rfl)
def eQT {a b:List Nat} (h:aU a=aU b):a=b:=Dt (λz:Str=>z.cps.toList) h
def lA (z:Str):Nat:=z.cps.toList.headD 0
def bQI (cs:List Nat):(cs.map one).map lA=cs:=by
 rw [Cc];exact List.map_id cs
def rJ {zs:List Str} (h:cN zs=true) {i:Nat} {z:Str} (hz:zs[i]?=some z):∃ c,z=one c/\(zs.map lA)[i]?=some c/\(aQ c\/(eI c/\c - 49<i)):=by
 have hi:i<zs.length:=(Ad.mp hz).1
 have q:=cQD h hi
 rw [Ac,hz] at q;obtain ⟨c,e,st⟩:=tF q;have e':z=one c:=e
 refine ⟨c,e',by rw [Af,hz,e']; rfl,?_⟩
 rcases st with l | ⟨s,l⟩
 . exact .inl l
 . refine .inr ⟨s,?_⟩;unfold eI at s;omega
def kM (zs:List Str):Str:=aU (rdC (zs.map lA))
def dZH (z:Str):Bool:=z.cps.toList.all λc=>decide (c∈lettersT.cps.toList)
def mW (z:Str):Bool:=if z.length<1\/7<z.length then false else dZH z
def pZ {α β:Type} (f:α->β):∀ l:List α,l.filterMap (λx=>some (f x))=l.map f
 | []=>rfl
 | x::r=>by rw [Cu (f:=λx=>some (f x)) (b:=f x) rfl,Au,pZ f r]
def iZ {α β:Type} {f g:α->Option β}:∀ {l:List α},(∀ x∈l,f x=g x)->l.filterMap f=l.filterMap g
 | [],_=>rfl
 | x::r,h=>by rw [Eg,Eg,h x Am,iZ λy hy=>h y (Ak _ hy)]
def cXW {β:Type} {F:Nat->Option β} {i:Nat} (h:F i=none):(List.range (i+1)).filterMap F=(List.range i).filterMap F:=by
 rw [Bx,Bv,Cv h,Co,Bi]
def one_inj {a b:Nat}:one a=one b ↔ a=b:=⟨λh=>by injection h with h; injection h with h; injection h,λh=>by rw [h]⟩
def aZ5 (a b:Nat):decide (one a=one b)=decide (a=b):=Dh.mpr one_inj
def cJW {cw:List Nat} {k:Nat} (h:k<cw.length):atI (aU cw).cps.toList ((k:Nat):Int)=some (cw.getD k 0):=by
 refine bJ ?_;rw [dY,Ac,Aa h];rfl
def cJF {k:Nat} (h:k<23):atI lettersT.cps.toList ((k:Nat):Int)=some (97+k):=by
 refine bJ ?_;have q:∀ k:_root_.Fin 23,lettersT.cps.toList[k.val]?=some (97+k.val):=by decide +kernel
 exact q ⟨k,h⟩
def eX1 {k:Nat} (h:k<27):∃ c,atI flagsT.cps.toList ((k:Nat):Int)=some c/\(aQ c\/eI c):=by
 have hl:flagsT.cps.toList.length=27:=by decide
 refine ⟨flagsT.cps.toList[k]'(by omega),bJ (Aa (by omega)),mem_flags.mp (Bq _)⟩
def cXU {xs:List V} {k:Int} (h:0<=k):kY xs none (some k)=xs.take k.toNat:=by
 unfold kY;show (xs.drop 0).take ((if k<0 then (k+(xs.length:Int)).toNat else min k.toNat xs.length) - 0)=_
 rw [if_neg (by omega),List.drop_zero,Nat.sub_zero]
 by_cases hk:k.toNat<=xs.length
 . rw [Er hk]
 . rw [Ek (by omega),Bf (Ah _),Bf (by omega)]
def eXM (cs:List Nat):((cs.map one).map (·.length)).sum=cs.length:=by
 induction cs with
 | nil=>rfl
 | cons m r ih=>rw [Au,Au,Cj,ih,Aw]; show 1+r.length=_; omega
def bZH (cs:List Nat):∀ z∈cs.map one,z.length<=1000:=λz hz=>by
 obtain ⟨c,_,rfl⟩:=Be.mp hz;show 1<=1000
 decide
def aJE {ns:List Int} {i:Int} (h0:0<=i) (h:i<ns.length):∃ n,n∈ns/\atI (ns.map V.int) i=some (.int n):=by
 obtain ⟨v,h1,h2⟩:=cXI (xs:=ns.map V.int) (i:=i) h0 (by rw [Ab]; exact h)
 rw [Af,Aa (by omega)] at h2
 cases h2;exact ⟨_,Bq _,h1⟩
def eJG {ss:List Str} {i:Int} (h0:0<=i) (h:i<ss.length):∃ n,n∈ss/\atI (ss.map V.str) i=some (.str n)/\ss[i.toNat]?=some n:=by
 obtain ⟨v,h1,h2⟩:=cXI (xs:=ss.map V.str) (i:=i) h0 (by rw [Ab]; exact h)
 rw [Af,Aa (by omega)] at h2
 cases h2;exact ⟨_,Bq _,h1,Aa (by omega)⟩
def aQH {ns:List Int} {j:Nat} {x:V} (h:(ns.map V.int)[j]?=some x):∃ n,n∈ns/\x=V.int n:=by
 obtain ⟨n,hn,e⟩:=Be.mp (Al h);exact ⟨n,hn,e.symm⟩
def jS {ns:List Str} {j:Nat} {x:V} (h:(ns.map V.str)[j]?=some x):∃ n,ns[j]?=some n/\x=V.str n:=by
 rw [Af] at h;cases e:ns[j]? with
 | none=>rw [e] at h; cases h
 | some n=>rw [e] at h; cases h; exact ⟨n,rfl,rfl⟩
def qA {c:Nat} (h:eI c):PySem.intText? (one c)=some ((c:Int) - 48):=by
 unfold eI at h;have:c=49\/c=50\/c=51\/c=52:=by omega
 rcases this with rfl | rfl | rfl | rfl <;> decide +kernel
def gF (zs:List Str):(zs.map V.str).all bQ=true:=by
 rw [Ck];intro x hx;obtain ⟨z,_,rfl⟩:=Be.mp hx;rfl
def aJR:∀ (b a:List Nat),∃ t,rdC (a++b)=rdC a++t
 | [],a=>⟨[],by rw [Bi,Bi]⟩
 | c::b,a=>by
   obtain ⟨t,e⟩:=aJR b (a++[c]);refine ⟨[stp (rdC a) c]++t,?_⟩;rw [<-Eu,<-xM,<-e,Eu];rfl
def bX6 {fs:List Nat} {i:Nat} (h:i<=fs.length):(rdC fs).take i=rdC (fs.take i):=by
 obtain ⟨t,e⟩:=aJR (fs.drop i) (fs.take i);rw [Em] at e;have hl:(rdC (fs.take i)).length=i:=gO h
 rw [e,List.take_append_of_le_length (by omega),Bf (by omega)]
def eJB {fs:List Nat} {i c:Nat} (h:fs[i]?=some c):(rdC fs).getD i 0=stp (rdC (fs.take i)) c:=by
 have hi:i<fs.length:=(Ad.mp h).1
 have e:(rdC fs).take (i+1)=rdC (fs.take i)++[stp (rdC (fs.take i)) c]:=by rw [bX6 (by omega),kJ h]
 have hl:(rdC (fs.take i)).length=i:=gO (by omega)
 have q:((rdC fs).take (i+1))[i]?=(rdC fs)[i]? := Ey (by omega)
 rw [e,Ar (by omega),hl,Ei] at q
 rw [Ac,<-q];rfl
def cQ8 {fs:List Nat} (h1:1<=fs.length) (h7:fs.length<=7) (h:∀ k,k<fs.length->kO (fs.getD k 0) ((1+k:Nat):Int)):cN (fs.map one)=true:=by
 unfold cN;rw [Ab,if_neg (by omega),Ck]
 intro i hi;have hi':=Bw.mp hi
 rw [Ac,Af,Aa hi'];have q:=h i hi'
 rw [Ac,Aa hi'] at q;exact An q
def chF (cw:List Nat) (k n:Nat):Option Nat:=if cw.getD n 0=cw.getD k 0 then some (49+n) else none
def chs (cw:List Nat) (k:Nat):List Nat:=cw.getD k 0::(List.range (min k 4)).filterMap (chF cw k)
def ch_iff {cw:List Nat} {k c:Nat}:c∈chs cw k ↔ c=cw.getD k 0\/∃ n,n<k/\n<4/\cw.getD n 0=cw.getD k 0/\c=49+n:=by
 unfold chs;rw [Ay,Do];constructor
 . rintro (h | ⟨n,hn,h⟩)
   . exact .inl h
   . have:=Bw.mp hn
     unfold chF at h;split at h
     . cases h;exact .inr ⟨n,by omega,by omega,by assumption,rfl⟩
     . cases h
 . rintro (h | ⟨n,h1,h2,h3,rfl⟩)
   . exact .inl h
   . exact .inr ⟨n,Bw.mpr (by omega),if_pos h3⟩
def cJL (cw:List Nat) (k:Nat):1<=(chs cw k).length/\(chs cw k).length<=5:=by
 unfold chs;have:=Ct (chF cw k) (List.range (min k 4))
 rw [Ca] at this;rw [Aw];omega
def bJ9 {cw:List Nat} {k c:Nat} (hL:aQ (cw.getD k 0)) (h:c∈chs cw k):kO c ((1+k:Nat):Int):=by
 rcases ch_iff.mp h with rfl | ⟨n,h1,h2,_,rfl⟩
 . exact .inl hL
 . exact .inr ⟨⟨by omega,by omega⟩,by omega⟩
def dJ4 {cw:List Nat} {k c:Nat} (hL:aQ (cw.getD k 0)) (hk:k<cw.length) (h:c∈chs cw k):stp (cw.take k) c=cw.getD k 0:=by
 rcases ch_iff.mp h with rfl | ⟨n,h1,h2,h3,rfl⟩
 . exact if_neg (fZ hL)
 . unfold stp;rw [if_pos ⟨by omega,by omega⟩,show 49+n - 49=n by omega,Ac,Ey h1,<-Ac,h3]
def eQP {cw:List Nat} {k c:Nat} (hc:aQ c\/(eI c/\c - 49<k)) (hk:k<cw.length) (h:stp (cw.take k) c=cw.getD k 0):c∈chs cw k:=by
 rcases hc with l | ⟨s,l⟩
 . rw [stp,if_neg (fZ l)] at h;exact ch_iff.mpr (.inl h)
 . rw [stp,if_pos s,Ac,Ey l,<-Ac] at h;have:=s.1
   have:=s.2
   exact ch_iff.mpr (.inr ⟨c - 49,l,by omega,h,by omega⟩)
def zO {cw fs:List Nat} (hL:∀ d∈cw,aQ d) (hl:fs.length<=cw.length):∀ i,i<=fs.length->(∀ k,k<i->fs.getD k 0∈chs cw k)->rdC (fs.take i)=cw.take i
 | 0,_,_=>rfl
 | i+1,hi,h=>by
   have hc:cw[i]?=some (cw.getD i 0):=by rw [Ac,Aa (by omega)]; rfl
   have hf:fs[i]?=some (fs.getD i 0):=by rw [Ac,Aa (by omega)]; rfl
   rw [kJ hf,zO hL hl i (by omega) λk hk=>h k (by omega),dJ4 (hL _ (Al hc)) (by omega) (h i (by omega)),Bd,hc]
   rfl
def lB {cw:List Nat} (hL:∀ d∈cw,aQ d) {k:Nat} (hk:k<cw.length):aQ (cw.getD k 0):=by
 rw [Ac,Aa hk];exact hL _ (Bq hk)
def dJM {cw fs:List Nat} (hL:∀ d∈cw,aQ d) (hl:fs.length=cw.length) (h:∀ k,k<fs.length->fs.getD k 0∈chs cw k):rdC fs=cw:=by
 have q:=zO hL (by omega) fs.length (Ah _) h
 rwa [Bp,hl,Bp] at q
def cQ2 {cw fs:List Nat} (hL:∀ d∈cw,aQ d) (h1:1<=fs.length) (h7:fs.length<=7) (hl:fs.length<=cw.length) (h:∀ k,k<fs.length->fs.getD k 0∈chs cw k):cN (fs.map one)=true :=
 cQ8 h1 h7 λk hk=>bJ9 (lB hL (by omega)) (h k hk)
def cZG {c:Nat} (h:aQ c):Builtin.Str.occurrences lettersT (one c) 0 lettersT.length 1=[c - 97]:=by
 have q:∀ k:_root_.Fin 23,Builtin.Str.occurrences lettersT (one (97+k.val)) 0 lettersT.length 1=[k.val]:=by decide +kernel
 unfold aQ at h;have e:=q ⟨c - 97,by omega⟩
 rwa [show 97+(c - 97)=c by omega] at e
def lG (cs:List Nat) (n:Nat):Int:=((List.range n).map λi:Nat=>((1+i:Nat):Int) * ((cs.getD i 0 - 97:Nat):Int)).sum
def eQN (cs:List Nat):lG cs 0=0:=rfl
def jC (cs:List Nat) (n:Nat):lG cs (n+1)=lG cs n+((1+n:Nat):Int) * ((cs.getD n 0 - 97:Nat):Int):=by
 unfold lG;rw [Bx,Ao,List.sum_append];simp
def nI {cs ds:List Nat}:∀ {n:Nat},(∀ i,i<n->cs.getD i 0=ds.getD i 0)->lG cs n=lG ds n
 | 0,_=>rfl
 | n+1,h=>by rw [jC,jC,nI λi hi=>h i (by omega),h n (by omega)]
def yE {cs ds:List Nat} {k:Nat}:∀ {n:Nat},k<n->(∀ i,i<n->i≠k->cs.getD i 0=ds.getD i 0)->
   lG ds n=lG cs n+((1+k:Nat):Int) * (((ds.getD k 0 - 97:Nat):Int) - ((cs.getD k 0 - 97:Nat):Int))
 | 0,h,_=>absurd h (Fm _)
 | n+1,h,hh=>by
   rw [jC,jC];by_cases e:k=n
   . subst e;rw [nI (cs:=ds) (ds:=cs) λi hi=>(hh i (by omega) (by omega)).symm,Int.mul_sub]
     omega
   . rw [yE (k:=k) (n:=n) (by omega) λi hi=>hh i (by omega),hh n (by omega) (λz=>e z.symm)]
     omega
def bQS {m x y:Int} {k:Nat} (hk:k<7) (hx:0<=x/\x<23) (hy:0<=y/\y<23) (h:m % 23=0):(m+((1+k:Nat):Int) * (y - x)) % 23=0 ↔ y=x:=by
 have hk':k=0\/k=1\/k=2\/k=3\/k=4\/k=5\/k=6:=by omega
 rcases hk' with rfl | rfl | rfl | rfl | rfl | rfl | rfl <;> simp only [Nat.reduceAdd] <;> omega
def gU (cs:List Nat):Bool:=decide (lG cs cs.length % 23=0)
def rN (cs:List Nat):Bool:=decide (1<cs.length) && gU cs
def rF {cs:List Nat} {k d i:Nat} (hk:k<cs.length):(cs.set k d).getD i 0=if i=k then d else cs.getD i 0:=by
 rw [Ac,Hb,Ac];by_cases e:i=k
 . subst e; rw [if_pos rfl,if_pos rfl,if_pos hk]; rfl
 . rw [if_neg (λz=>e z.symm),if_neg e]
def aJA {cs:List Nat} (hL:∀ d∈cs,aQ d) {k c:Nat} (hc:aQ c):∀ d∈cs.set k c,aQ d:=λd hd=>by
 rcases Dy hd with h | h
 . exact hL d h
 . rw [h]; exact hc
def qL {cs:List Nat} {k d:Nat} (hk:k<cs.length):lG (cs.set k d) cs.length=lG cs cs.length+((1+k:Nat):Int) * (((d - 97:Nat):Int) - ((cs.getD k 0 - 97:Nat):Int)):=by
 have e:(cs.set k d).getD k 0=d:=by rw [rF hk,if_pos rfl]
 rw [yE (cs:=cs) (ds:=cs.set k d) (k:=k) hk (λi hi hn=>by rw [rF hk,if_neg hn]),e]
def cZ9 {cs:List Nat} (h7:cs.length<=7) (hL:∀ d∈cs,aQ d) {k d:Nat} (hk:k<cs.length) (hd:aQ d) (h:gU cs=true):gU (cs.set k d)=decide (d=cs.getD k 0):=by
 unfold gU at h ⊢;have hm:=Az h
 have hg:=lB hL hk
 unfold aQ at hd hg;rw [Cg,qL hk];refine Dh.mpr ((bQS (by omega) ⟨by omega,by omega⟩ ⟨by omega,by omega⟩ hm).trans ?_)
 omega
def yV {cs:List Nat} (h7:cs.length<=7) {k:Nat} (hk:k<cs.length):∃ d,aQ d/\gU (cs.set k d)=true:=by
 have q:∀ k:_root_.Fin 7,∀ m:_root_.Fin 23,∃ d:_root_.Fin 23,(m.val+(1+k.val) * d.val) % 23=0:=by decide +kernel
 have hs:=qL (cs:=cs) (k:=k) (d:=97) hk
 obtain ⟨d,hd⟩:=q ⟨k,by omega⟩ ⟨(lG (cs.set k 97) cs.length % 23).toNat,by omega⟩
 refine ⟨97+d.val,⟨by omega,by have:=d.isLt; omega⟩,?_⟩
 unfold gU;rw [Cg];have e2:=qL (cs:=cs) (k:=k) (d:=97+d.val) hk
 simp only at hd;have hk':k=0\/k=1\/k=2\/k=3\/k=4\/k=5\/k=6:=by omega
 refine An ?_;rcases hk' with rfl | rfl | rfl | rfl | rfl | rfl | rfl <;> simp only [Nat.reduceAdd] at hs e2 hd <;> omega
def dZ2 {cw:List Nat} {k:Int} (h:0<=k):Txt.slice (aU cw) (some k) none=aU (cw.drop k.toNat):=by
 refine FlT.str_ext ?_;rw [FlT.slice_cps,dY,dY,cJ];show (cw.drop (if k<0 then (k+(cw.length:Int)).toNat else min k.toNat cw.length)).take (cw.length - (if k<0 then (k+(cw.length:Int)).toNat else min k.toNat cw.length))=_
 rw [if_neg (by omega)]
 by_cases hk:k.toNat<=cw.length
 . rw [Er hk,Bf (by rw [Cd]; omega)]
 . rw [Ek (by omega),Ej (by omega),Ej (by omega),Hl]
def cQ7 {cs:List Nat} (hL:∀ d∈cs,aQ d):(aU cs).cps.all (· < 128)=true:=by
 rw [Array.all_eq_true];intro i hi;have h1:(aU cs).cps[i]∈cs:=by
   have:(aU cs).cps[i]∈(aU cs).cps:=Array.getElem_mem hi
   rw [<-Array.mem_toList_iff] at this;exact this
 have:=hL _ h1
 unfold aQ at this;exact An (by omega)
def bJJ {cs:List Nat} (hL:∀ d∈cs,aQ d) (h7:cs.length<=7):mW (aU cs)=decide (1<=cs.length):=by
 unfold mW;rw [cJ];by_cases h:1<=cs.length
 . rw [if_neg (by omega),An h]
   unfold dZH;rw [dY,Ck];intro d hd;exact An (mem_letters.mpr (hL d hd))
 . rw [if_pos (by omega),Ax h]
def BkAt (H:Hp) (r:Addr) (bk:List (Str×Str)):Prop:=∃ ps:List Addr,H r=some (.lst (ps.map V.ref))/\ps.length=bk.length/\∀ (j:Nat) p b,ps[j]?=some p->bk[j]?=some b->H p=some (.tup [.str b.1,.str b.2])
def wF (K:W.Frag) (Pt:Addr):Sp:=λvs H Q _=>∃ (a:Addr) (ns:List Int),vs=[.ref a]/\SqL K H a (ns.map V.int)/\ns.length<=63/\H Pt=some (.tbl #[])/\∀ H',Q (.bl true) H'
def sI:Sp:=λvs H Q _=>∃ z,vs=[.str z]/\z.length<=1000/\Q (.bl (jT z)) H
def oE:Sp:=λvs H Q _=>∃ z p,vs=[.str z,.int p]/\z.length<=1000/\Q (.bl (dE z p)) H
def pK:Sp:=λvs H Q _=>∃ a zs,vs=[.ref a]/\rdL H a=some (zs.map V.str)/\zs.length<=1000/\(∀ z∈zs,z.length<=1000)/\∀ H',Same H H'->Q (.bl (cN zs)) H'
def nD (aN:Addr):Sp:=λvs H Q E=>∃ a zs,vs=[.ref a]/\rdL H a=some (zs.map V.str)/\zs.length<=1000/\(∀ z∈zs,z.length<=1000)/\(cN zs=true->∀ H',Same H H'->Q (.str (kM zs)) H')/\(cN zs=false->∀ H',Same H H'->E (.ref aN) none H')
def wI {cw:List Nat} {k:Nat} {j:Int} (e:j=(k:Int)) (h:k<cw.length):atI (aU cw).cps.toList j=some (cw.getD k 0):=by
 rw [e];exact cJW h
def dS {H:Hp} {Q:VK} {p:Addr} {xs:List V} {i:Int} {v:V} (e:H p=some (.tup xs)) (e':atI xs i=some v) (h:Q v H):mIx (.ref p) (.int i) H Q:=by
 have e1:rdL H p=none:=by unfold rdL; rw [e]; rfl
 unfold mIx;simp only [e1,cU e,e'];exact h
section
variable {P:Program} {w:World} {K:W.Frag} {mg:Q4} {base:Heap}
def iT (aC:Addr):Sp:=λvs H Q _=>∃ ea v,vs=[.ref ea,v]/\H ea=some (eX ea aC none)/\∀ dx,H dx=none->Q .non (upd (upd H ea (eX ea aC (some dx))) dx (xdO dx [("flag",v)]))
def tL:FnScope ["self", "flag"] ["self", "flag"] (aF eC):=by walk_at "sc"
def tQ {Zt Zz Zu Zx Z0 Zw Zy Zv:Addr} {f:Addr} {fd:FuncData} (F:Fun K "__init__" "Short.__init__" eC f fd) (G:Gs K mg w Zt Zz Zu Zx Z0 Zw Zy Zv)  : FnOk P w K mg base CX0 1 f fd ["self", "flag"] (iT Zu):=by
 refine F.ok tL (λvs H Q E h=>?_) (λcdv A outer s H vs Q E hr h=>?_)
 . obtain ⟨ea,v,rfl,_⟩:=h; rfl
 obtain ⟨ea,v,rfl,he,q⟩:=h;refine ⟨_,(@aE _ _ _ _ _ (cD (rX rfl G.c_TowerError G.t1_TowerError G.t2_TowerError G.t3_TowerError (aA (mv 0) (aA (mv 1) aB)))) (@aI _ _ _ (qD (mv 0) (mv 1) rfl))),?_⟩;walk_at "go";refine ⟨ea,[v],Zu,Zz,none,rfl,by show 1<=sizeLine; decide,he,(λ_ z=>nomatch z),G.xc_Short,?_⟩
 walk_at "go";exact ⟨ea,Zu,Zz,rfl,G.xc_Short,G.xn_Short_flag,.inl ⟨he,q⟩⟩
def cQS {H H1:Hp} {ea dx:Addr} {o o' o'':HO} (s:Same H H1) (h1:H1 ea=none) (h2:upd H1 ea o dx=none):Same H (del (upd (upd (upd H1 ea o) ea o') dx o'') ea):=λb u e=>by
 have e1:=s b u e
 have n1:b≠ea:=bF e1 h1
 have n3:dx≠ea:=λz=>by rw [z,aD] at h2; cases h2
 have n2:b≠dx:=λz=>by rw [<-z,aH n1,e1] at h2; cases h2
 rw [eK n1,aH n2,aH n1,aH n1];exact e1
def cXR {H1:Hp} {ea dx:Addr} {o o' o'':HO} (h2:upd H1 ea o dx=none):upd (upd (upd H1 ea o) ea o') dx o'' ea=some o'/\del (upd (upd (upd H1 ea o) ea o') dx o'') ea dx=some o'':=by
 have n3:dx≠ea:=λz=>by rw [z,aD] at h2; cases h2
 exact ⟨by rw [aH n3.symm,aD],by rw [eK n3,aD]⟩
structure Lk (kvs:List (Key×V)) (f:Nat->Option Int):Prop where
 nd:(kvs.map (·.1)).Nodup
 ks:∀ kv∈kvs,∃ (c:Nat) (n:Int),kv=(Sum.inr (one c),V.int n)
 val:∀ c,bW kvs (Sum.inr (one c))=(f c).map V.int
def Lk.nil:Lk [] (λ_=>none):=⟨List.nodup_nil,(λkv h=>nomatch h),λc=>rfl⟩
def key_one {a b:Nat}:((Sum.inr (one a):Key)=Sum.inr (one b)) ↔ a=b:=⟨λh=>one_inj.mp (Sum.inr.inj h),λh=>by rw [h]⟩
def aJD {α:Type}:∀ {l:List α} {k:α},l.Nodup->¬ k∈l->(l++[k]).Nodup
 | [],k,_,_=>by simp
 | a::r,k,h,hk=>by
   obtain ⟨h1,h2⟩:=Cf.mp h;refine Cf.mpr ⟨λm=>?_,aJD h2 λm=>hk (Ak _ m)⟩;rcases Bl.mp m with q | q
   . exact h1 q
   . exact hk (by rw [Aj.mp q]; exact Am ..)
def cZX {kvs:List (Key×V)} {k:Key} (h:bW kvs k=none):¬ k∈kvs.map (·.1):=λm=>by
 obtain ⟨p,hp,e⟩:=Be.mp m;have q:(kvs.any λkv=>decide (kv.1=k))=true:=List.any_eq_true.mpr ⟨p,hp,An e⟩
 rw [fM,h] at q;cases q
def yX (kvs:List (Key×V)) (k:Key) (v:V) (h:bW kvs k≠none):(eP kvs k v).map (·.1)=kvs.map (·.1):=by
 unfold eP;have e:(kvs.any λkv=>decide (kv.1=k))=true:=by
   rw [fM];cases q:bW kvs k with
   | none=>exact absurd q h
   | some _=>rfl
 rw [if_pos e,Cc];refine Cw λkv _=>?_;show (if kv.1=k then (kv.1,v) else kv).1=kv.1
 split <;> rfl
def Lk.put {kvs:List (Key×V)} {f:Nat->Option Int} (h:Lk kvs f) (c:Nat) (n:Int):Lk (eP kvs (Sum.inr (one c)) (.int n)) (λd=>if d=c then some n else f d) where
 nd:=by
   cases e:bW kvs (Sum.inr (one c)) with
   | none=>rw [kT _ e,Ao]; exact aJD h.nd (cZX e)
   | some v=>rw [yX _ _ _ (by rw [e]; exact λz=>nomatch z)]; exact h.nd
 ks:=λkv hkv=>by
   unfold eP at hkv;split at hkv
   . obtain ⟨kv',h',e⟩:=Be.mp hkv;obtain ⟨c',n',e'⟩:=h.ks kv' h';subst e';dsimp only at e;split at e
     . exact ⟨c',n,e.symm⟩
     . exact ⟨c',n',e.symm⟩
   . rcases Bl.mp hkv with q | q
     . exact h.ks kv q
     . exact ⟨c,n,Aj.mp q⟩
 val:=λd=>by
   rw [bJR];by_cases e:d=c
   . rw [if_pos (key_one.mpr e),if_pos e]; rfl
   . rw [if_neg (λz=>e (key_one.mp z)),if_neg e]; exact h.val d
def cQM {kvs:List (Key×V)} (nd:(kvs.map (·.1)).Nodup) {kv:Key×V} (h:kv∈kvs):bW kvs kv.1=some kv.2:=by
 induction kvs with
 | nil=>cases h
 | cons p r ih=>
   obtain ⟨n1,n2⟩:=Cf.mp nd;rcases Ay.mp h with e | e
   . subst e; exact cB rfl
   . rw [bT λz=>n1 (by show p.1∈_; rw [z]; exact Be.mpr ⟨kv,e,rfl⟩)]
     exact ih n2 e
def wD {α:Type} [DecidableEq α]:∀ {l m:List α},l.Nodup->(∀ x∈l,x∈m)->l.length<=m.length
 | [],m,_,_=>Cr _
 | a::r,m,h,s=>by
   obtain ⟨h1,h2⟩:=Cf.mp h;have q:=wD (l:=r) (m:=m.erase a) h2 λx hx=>(List.mem_erase_of_ne λz=>h1 (by rw [<-z]; exact hx)).mpr (s x (Ak _ hx))
   have ha:=s a (Am ..)
   rw [List.length_erase_of_mem ha] at q;have:=List.length_pos_of_mem ha
   rw [Aw];omega
def Lk.at_mem {kvs:List (Key×V)} {f:Nat->Option Int} (h:Lk kvs f) {kv:Key×V} (hkv:kv∈kvs):∃ c n,kv=(Sum.inr (one c),V.int n)/\f c=some n:=by
 obtain ⟨c,n,e⟩:=h.ks kv hkv;have v:=cQM h.nd hkv
 rw [e] at v;have v2:=h.val c
 rw [v2] at v;cases q:f c with
 | none=>rw [q] at v; cases v
 | some m=>rw [q] at v; cases v; exact ⟨c,_,e,q⟩
def Lk.keys {kvs kws:List (Key×V)} {f:Nat->Option Int} (h:Lk kvs f) (h':Lk kws f):∀ x∈kvs.map (·.1),x∈kws.map (·.1):=λx hx=>by
 obtain ⟨kv,hkv,rfl⟩:=Be.mp hx;obtain ⟨c,n,rfl,hf⟩:=h.at_mem hkv;have v:=h'.val c
 rw [hf] at v;have q:(kws.any λkv=>decide (kv.1=Sum.inr (one c)))=true:=by rw [fM,v]; rfl
 obtain ⟨p,hp,e⟩:=List.any_eq_true.mp q;exact Be.mpr ⟨p,hp,Az e⟩
def Lk.deq {kvs kws:List (Key×V)} {f:Nat->Option Int} (h:Lk kvs f) (h':Lk kws f):DEq kvs kws:=by
 refine ⟨?_,λkv hkv=>?_⟩
 . have a:=wD h.nd (h.keys h')
   have b:=wD h'.nd (h'.keys h)
   rw [Ab,Ab] at a b;omega
 . obtain ⟨c,n,rfl,hf⟩:=h.at_mem hkv;exact ⟨rfl,by rw [h'.val c,hf]; rfl⟩
def aS (f:Nat->Option Int) (c:Nat):Int:=(f c).getD 0
def oV (c:Nat):Prop:=aQ c\/eI c
instance (c:Nat):Decidable (oV c):=inferInstanceAs (Decidable (_\/_))
def bM (n:Nat->Int) (c:Nat):Option Int:=if oV c/\0<n c then some (n c) else none
def oI {m n:Nat->Int} (h:∀ c,oV c->m c=n c):bM m=bM n:=by
 funext c
 unfold bM;by_cases q:oV c
 . rw [h c q]
 . rw [if_neg λz=>q z.1,if_neg λz=>q z.1]
def lH {n:Nat->Int} {c:Nat} (hc:oV c) (h:0<=n c):aS (bM n) c=n c:=by
 unfold aS bM;by_cases q:0<n c
 . rw [if_pos ⟨hc,q⟩]; rfl
 . rw [if_neg λz=>q z.2]; show (0:Int)=n c; omega
def Lk.ext {kvs:List (Key×V)} {f g:Nat->Option Int} (h:Lk kvs f) (e:f=g):Lk kvs g:=e ▸ h
def qG (f:Nat->Option Int) (c:Nat):((f c).map V.int).getD (.int 0)=.int (aS f c):=by
 unfold aS;cases f c <;> rfl
def flags_mem {c:Nat}:c∈flagsT.cps.toList ↔ oV c:=mem_flags
def cZN (n:Nat->Int) (i c:Nat):Option Int:=if c∈flagsT.cps.toList.take i/\0<n c then some (n c) else none
def eQ2 (n:Nat->Int):cZN n flagsT.cps.toList.length=bM n:=by
 funext c
 unfold cZN bM;rw [Bp];by_cases h:oV c/\0<n c
 . rw [if_pos h,if_pos ⟨flags_mem.mpr h.1,h.2⟩]
 . rw [if_neg h,if_neg λz=>h ⟨flags_mem.mp z.1,z.2⟩]
def eQM (n:Nat->Int):cZN n 0=λ_=>none:=by
 funext c
 unfold cZN;rw [He];exact if_neg λz=>nomatch z.1
def eQF (cs:List Nat) (c:Nat):(cs.map one).countP (· == one c)=cs.countP (· == c):=by
 rw [List.countP_map];refine List.countP_congr λd _=>?_;show (one d == one c)=true ↔ (d == c)=true
 rw [Hf,Hf,one_inj]
def kvL (g:Nat->Int) (L:List Nat):List (Key×V):=L.map λc=>(Sum.inr (one c),V.int (g c))
def bP (n:Nat->Int) (i:Nat):List Nat:=(flagsT.cps.toList.take i).filter λc=>decide (0<n c)
def zG {g:Nat->Int} {L:List Nat} {c:Nat} (h:c ∉ L):bW (kvL g L) (Sum.inr (one c))=none:=by
 induction L with
 | nil=>rfl
 | cons d r ih=>
   show bW ((Sum.inr (one d),V.int (g d))::kvL g r) _=none
   rw [bT (λz=>h (by rw [key_one.mp z]; exact Am)),ih λz=>h (Ak _ z)]
def flags_nd:flagsT.cps.toList.Nodup:=by decide +kernel
def plainL_mem {n:Nat->Int} {i c:Nat}:c∈bP n i ↔ c∈flagsT.cps.toList.take i/\0<n c:=by
 unfold bP;rw [Dx,Bj]
def aQC {n:Nat->Int} {i c:Nat} (h:flagsT.cps.toList[i]?=some c):c ∉ bP n i:=λz=>by
 have m:=(plainL_mem.mp z).1
 obtain ⟨j,hj,e⟩:=By.mp m;rw [Bt] at hj;rw [List.getElem_take] at e;obtain ⟨hi,e2⟩:=Ad.mp h;have:=(Gf flags_nd).mp (e.trans e2.symm)
 omega
def aXT {n:Nat->Int} {i c:Nat} (h:flagsT.cps.toList[i]?=some c) (p:0<n c):bP n (i+1)=bP n i++[c]:=by
 unfold bP;rw [Bd,h,Fk];show _++[c].filter _=_
 rw [show [c].filter (λc=>decide (0<n c))=[c] by simp [p]]
def aQU {n:Nat->Int} {i c:Nat} (h:flagsT.cps.toList[i]?=some c) (p:¬ 0<n c):bP n (i+1)=bP n i:=by
 unfold bP;rw [Bd,h,Fk];show _++[c].filter _=_
 rw [show [c].filter (λc=>decide (0<n c))=[] by simp; omega,List.append_nil]
def kA (n:Nat->Int) (i:Nat):(bP n i).length<=27:=by
 unfold bP;exact Bg (List.length_filter_le ..) (by rw [Bt]; exact Bg (Nat.min_le_right ..) (by decide))
def bXB (n:Nat->Int) (i:Nat):(bP n i).Nodup:=(flags_nd.sublist (Gw ..)).filter _
def aJ6 (g:Nat->Int) (L:List Nat) (d:Nat):Option Int:=if d∈L then some (g d) else none
def cXV (g:Nat->Int) {r:List Nat} {c:Nat} (hc:c ∉ r) (h:Lk (kvL g r) (aJ6 g r)):Lk (kvL g (r++[c])) (aJ6 g (r++[c])):=by
 have l:=h.put c (g c)
 rw [kT _ (zG hc)] at l;have e:kvL g (r++[c])=kvL g r++[(Sum.inr (one c),V.int (g c))]:=by unfold kvL; rw [Ao]; rfl
 rw [e];refine l.ext ?_;funext d
 unfold aJ6;by_cases hd:d=c
 . subst hd;rw [if_pos rfl,if_pos (Bk _ (Aj.mpr rfl))]
 . rw [if_neg hd];by_cases hr:d∈r
   . rw [if_pos hr,if_pos (Cm _ hr)]
   . rw [if_neg hr,if_neg (λz=>(Bl.mp z).elim hr λy=>hd (Aj.mp y))]
def aJC (g:Nat->Int):∀ (L r:List Nat),(r++L).Nodup->Lk (kvL g r) (aJ6 g r)->Lk (kvL g (r++L)) (aJ6 g (r++L))
 | [],r,_,h=>by rw [Bi]; exact h
 | c::L,r,nd,h=>by
   have e:r++c::L=(r++[c])++L:=by rw [Eu]; rfl
   have hc:c ∉ r:=λz=>(Dv.mp nd).2.2 c z c Am rfl
   rw [e] at nd ⊢;exact aJC g L (r++[c]) nd (cXV g hc h)
def dX1 (g:Nat->Int) {L:List Nat} (nd:L.Nodup):Lk (kvL g L) (λd=>if d∈L then some (g d) else none):=by
 have r:=aJC g L [] nd (Lk.nil.ext (by funext d; unfold aJ6; rw [if_neg (λz=>nomatch z)]))
 exact r
def gY (n:Nat->Int):Lk (kvL n (bP n 27)) (bM n):=by
 refine (dX1 n (bXB n 27)).ext ?_;funext d
 unfold bM;have e:d∈bP n 27 ↔ oV d/\0<n d:=by
   rw [plainL_mem,Bf (by decide),flags_mem]
 by_cases h:d∈bP n 27
 . rw [if_pos h,if_pos (e.mp h)]
 . rw [if_neg h,if_neg (λz=>h (e.mpr z))]
def dF:Sp:=λvs H Q _=>∃ (a:Addr) (kvs:List (Key×V)) (f:Nat->Option Int),vs=[.ref a]/\Rd H a (.dK kvs)/\Lk kvs f/\
 ∀ (r:Addr) (H':Hp),H r=none->Same H H'->H' r=some (.dK (kvL (aS f) (bP (aS f) 27)))->Q (.ref r) H'
def sc_plain_locker:FnScope ["locker", "plain", "flag"] ["locker"] (aF cX):=by walk_at "sc"
def pY {Zt Zz Zu Zx Z0 Zw Zy Zv:Addr} {f:Addr} {fd:FuncData} (F:Fun K "plain_locker" "plain_locker" cX f fd) (G:Gs K mg w Zt Zz Zu Zx Z0 Zw Zy Zv)  : FnOk P w K mg base CX0 1 f fd ["locker"] dF:=by
 refine F.ok sc_plain_locker (λvs H Q E h=>?_) (λcdv A outer s H vs Q E hr h=>?_)
 . obtain ⟨a,kvs,f,rfl,_⟩:=h; rfl
 obtain ⟨a,kvs,f,rfl,ha,lk,q⟩:=h;refine ⟨_,(@aE _ _ _ _ _ (@aP _ _ 1 _ _ _ _ sc_plain_locker.nd (by rfl) (by exact (Or.inl rfl)) rV (by rfl) (by walk_at "o")) (@aE _ _ _ _ _ (cR Br rfl (mQ (fK rfl G.s_FLAGS)) (aY (i:=2) sc_plain_locker.nd rfl (Or.inl rfl)) (@aI _ _ _ (cG (bA aJ8 (jH Bz Dz (aZL (Room.u1 hr)) (mv 0) (aA (mv 2) (aA aJ aB))) aJ (bE _)) (@aI _ _ _ (iI (Room.u1 hr) (mv 1) (mv 2) (kB (Room.u1 hr) (mv 0) (mv 2) (λ_ _=>rfl)) rfl)) bH))) (@aI _ _ _ (aV (mv 1))))),?_⟩
 walk_at "go";intro p hp;walk_at "go";refine aQS (λi σ H'=>∃ (v:Option V),σ=[some (.ref a),some (.ref p),v]/\Same H H'/\H' p=some (.dK (kvL (aS f) (bP (aS f) i))))
   ⟨none,rfl,aG hp _,aD⟩ ?_ ?_
 . rintro i c σ H2 hc ⟨v,rfl,s2,hH⟩;have hi:i<27:=(Ad.mp hc).1
   have ha2:Rd H2 a (.dK kvs):=ha.elim (λe=>.inl (s2 _ _ e)) λ⟨o,e⟩=>.inr ⟨o,s2 _ _ e⟩
   have hd2:isD H2 a=true:=ha2.elim pB λ⟨o,e⟩=>cQ5 e
   have hpl:(kvL (aS f) (bP (aS f) i)).length<sizeLine:=bG (by unfold kvL; rw [Ab]; have:=kA (aS f) i; omega)
   walk_at "go";refine aJH (z:=one c) ha2 ?_;rw [lk.val c,qG];walk_at "go";refine gJ (λhd=>?_) (λhd=>?_)
   . have hd':=Az hd
     obtain ⟨n,hn⟩:∃ n,f c=some n:=by
       cases e:f c with
       | none=>rw [show aS f c=0 by unfold aS; rw [e]; rfl] at hd'; omega
       | some n=>exact ⟨n,rfl⟩
     have hcn:aS f c=n:=by unfold aS; rw [hn]; rfl
     walk_at "go";refine xA (z:=one c) ha2 (by rw [lk.val c,hn]; rfl) ?_
     walk_at "go";refine lK (z:=one c) hH hpl ?_;refine ⟨_,rfl,bI hp s2,?_⟩;rw [aD,kT _ (zG (aQC hc)),aXT hc (by omega)]
     unfold kvL;rw [Ao,<-hcn];rfl
   . have hd':=Bm (Bs.mpr hd)
     walk_at "go";exact ⟨_,rfl,s2,by rw [hH,aQU hc (by omega)]⟩
 . rintro σ H2 ⟨v,rfl,s2,hH⟩;walk_at "go";exact q p H2 hp s2 hH
def cnt (cs:List Nat) (c:Nat):Int:=((cs.countP (· == c):Nat):Int)
def nO {cs:List Nat} {i c:Nat} (h:cs[i]?=some c) (d:Nat):cnt (cs.take (i+1)) d=cnt (cs.take i) d+if d=c then 1 else 0:=by
 unfold cnt;rw [Bd,h,List.countP_append];show (((cs.take i).countP (· == d)+[c].countP (· == d):Nat):Int)=_
 by_cases e:d=c
 . subst e;rw [if_pos rfl,List.countP_cons,List.countP_nil,if_pos (by simp)]
   push_cast
   rfl
 . rw [if_neg e,List.countP_cons,List.countP_nil,if_neg (by simp; exact λz=>e z.symm)]
   push_cast
   rfl
def bJY {cs:List Nat} {i c:Nat} (h:cs[i]?=some c):cnt (cs.take i) c+1<=cnt cs c:=by
 have e:=nO h c
 rw [if_pos rfl] at e;rw [<-e];unfold cnt;have:(cs.take (i+1)).countP (· == c)<=cs.countP (· == c):=List.Sublist.countP_le (Gw _ _)
 omega
def dZ7 (cs:List Nat) (c:Nat):0<=cnt cs c:=by unfold cnt; omega
def sF (f:Nat->Option Int) (cs:List Nat) (k:Nat):Prop:=∀ j d,j<k->cs[j]?=some d->cnt (cs.take j) d<aS f d
def uU {f:Nat->Option Int} {cs:List Nat} (c:Nat) (h0:0<=aS f c):∀ {k:Nat},sF f cs k->cnt (cs.take k) c<=aS f c
 | 0,_=>by rw [He]; exact h0
 | k+1,h=>by
   have ih:=uU c h0 (k:=k) λj d hj=>h j d (by omega)
   cases e:cs[k]? with
   | none=>rw [List.take_add_one,e]; simpa using ih
   | some d=>
     rw [nO e];have hd:=h k d (by omega) e
     by_cases z:c=d
     . subst z;rw [if_pos rfl];omega
     . rw [if_neg z];omega
def zD (aC:Addr):Sp:=λvs H Q E=>∃ (a b:Addr) (kvs:List (Key×V)) (f:Nat->Option Int) (cs:List Nat),vs=[.ref a,.ref b]/\H a=some (.dK kvs)/\Lk kvs f/\(∀ c,0<=aS f c)/\rdL H b=some ((cs.map one).map V.str)/\cs.length<=1000/\(∀ c∈cs,oV c)/\
 (sF f cs cs.length->∀ (r:Addr) (kws:List (Key×V)) (H':Hp),H r=none->Same H H'->H' r=some (.dK kws)->Lk kws (bM λc=>aS f c - cnt cs c)->Q (.ref r) H')/\
 (∀ i c,cs[i]?=some c->sF f cs i->aS f c<=cnt (cs.take i) c->∀ (dx:Addr) (H':Hp),Same H H'->H' dx=some (xdO dx [("flag",.str (one c))])->E (.ref aC) (some dx) H')
def sc_taken:FnScope ["locker", "flags", "left", "flag"] ["locker", "flags"] (aF lR):=by walk_at "sc"
def bJB {Zt Zz Zu Zx Z0 Zw Zy Zv:Addr} {f:Addr} {fd:FuncData} (F:Fun K "taken" "taken" lR f fd) (G:Gs K mg w Zt Zz Zu Zx Z0 Zw Zy Zv) (c_plain_locker:Cal P w K mg base 1 "plain_locker" ["locker"] dF) (c_Short_init:vQ P w K mg base 1 Zu ["self", "flag"] (iT Zu)):FnOk P w K mg base (CXr P w) 3 f fd ["locker", "flags"] (zD Zu):=by
 refine F.okX sc_taken (λvs H Q E h=>?_) (λcdv A outer s H vs Q E hr h=>?_)
 . obtain ⟨a,b,kvs,f,cs,rfl,_⟩:=h; rfl
 obtain ⟨a,b,kvs,f,cs,rfl,ha,lk,hf0,hb,hcs,hfl,q,qe⟩:=h;refine ⟨_,(@aE _ _ _ _ _ (@aP _ _ 2 _ _ _ _ sc_taken.nd (by rfl) (by exact (Or.inl rfl)) (aW c_plain_locker hr (by decide) rfl (aA (mv 0) aB)) (by rfl) (by walk_at "o")) (@aE _ _ _ _ _ (cR PassesOwn.leaving rfl (cL (mv 1)) (aY (i:=3) sc_taken.nd rfl (Or.inl rfl)) (@aE _ _ _ _ _ (cG (bA mO (jH Bz Dz (aZL (Room.u1 hr)) (mv 2) (aA (mv 3) (aA aJ aB))) aJ (bE _)) (@aI _ _ _ (lL jR rfl rfl rfl G.c_Short G.xm_Short c_Short_init hr (by decide) (aA (mv 3) aB))) bH) (@aI _ _ _ (iI (Room.u1 hr) (mv 2) (mv 3) (aR uA (kB (Room.u1 hr) (mv 2) (mv 3) (λ_ _=>rfl)) aJ) rfl)))) (@aI _ _ _ (aV (aW c_plain_locker hr (by decide) rfl (aA (mv 2) aB)))))),?_⟩
 walk_at "go";refine ⟨a,kvs,f,rfl,.inl ha,lk,λp H1 hp s1 hp1=>?_⟩;have lw:Lk (kvL (aS f) (bP (aS f) 27)) _:=gY (aS f)
 have hwl:(kvL (aS f) (bP (aS f) 27)).length<=27:=by unfold kvL; rw [Ab]; exact kA _ _
 generalize kvL (aS f) (bP (aS f) 27)=kws at hp1 lw hwl;have hb1:=aK s1 hb
 walk_at "go";refine iO (xs:=(cs.map one).map V.str) (λi σ H'=>∃ (kvs':List (Key×V)) (g:Nat->Option Int) (v:Option V),σ=[some (.ref a),some (.ref b),some (.ref p),v]/\Same H H'/\H' p=some (.dK kvs')/\Lk kvs' g/\(∀ c,aS g c=aS (bM (aS f)) c - cnt (cs.take i) c)/\kvs'.length<=27+i/\sF f cs i)
   ⟨kws,_,_,rfl,s1,hp1,lw,λc=>by rw [He]; show _=_ - ((0:Nat):Int); omega,by omega,λj d hj=>by omega⟩ (λi σ H' _ ⟨_,_,_,_,e,_⟩=>aK e hb) ?_ ?_
 . rintro i x σ H2 hx ⟨kvs',g,v,rfl,s2,hH,lg,hg,hl,hen⟩;have hi:i<cs.length:=by have:=(Ad.mp hx).1; rw [Ab,Ab] at this; exact this
   obtain ⟨c,hc⟩:∃ c,cs[i]?=some c:=⟨_,Aa hi⟩;obtain rfl:x=V.str (one c):=by rw [Af,Af,hc] at hx; cases hx; rfl
   have hpl:kvs'.length<sizeLine:=bG (by omega)
   have hfc:=hfl c (Al hc)
   have hgc:=hg c
   rw [lH hfc (hf0 c)] at hgc;have hle:=uU c (hf0 c) hen
   walk_at "go";refine aJH (z:=one c) (.inl hH) ?_;rw [lg.val c,qG];walk_at "go";refine gJ (λhd=>?_) (λhd=>?_)
   . have hd':=Az hd
     walk_at "go";refine ⟨by show 1<=sizeLine; decide,λea hea=>⟨ea,_,rfl,aD,λdx hdx=>⟨rfl,some dx,(cXR hdx).1,?_⟩⟩⟩
     exact qe i c hc hen (by omega) dx _ (cQS s2 hea hdx) (cXR hdx).2
   . have hd':=Bm (Bs.mpr hd)
     obtain ⟨n,hn⟩:∃ n,g c=some n:=by
       cases e:g c with
       | none=>exact absurd (show aS g c=0 by unfold aS; rw [e]; rfl) hd'
       | some n=>exact ⟨n,rfl⟩
     have hcn:aS g c=n:=by unfold aS; rw [hn]; rfl
     walk_at "go";refine xA (z:=one c) (.inl hH) (by rw [lg.val c,hn]; rfl) ?_
     walk_at "go";refine lK (z:=one c) hH hpl ?_;refine ⟨_,_,_,rfl,bI hp s2,aD,lg.put c (n - 1),λd=>?_,by have:=gA kvs' (Sum.inr (one c)) (.int (n - 1)); omega,λj d hj hjd=>?_⟩
     . rw [nO hc];have:=hg d
       by_cases e:d=c
       . subst e;show ((if d=d then some (n - 1) else g d):Option Int).getD 0=_
         rw [if_pos rfl,if_pos rfl];show n - 1=_
         omega
       . show ((if d=c then some (n - 1) else g d):Option Int).getD 0=_
         rw [if_neg e,if_neg e];show aS g d=_
         omega
     . by_cases e:j=i
       . subst e;rw [hc] at hjd;cases hjd;omega
       . exact hen j d (by omega) hjd
 . rintro σ H2 ⟨kvs',g,v,rfl,s2,hH,lg,hg,hl,hen⟩;have ecs:((cs.map one).map V.str).length=cs.length:=by rw [Ab,Ab]
   rw [ecs] at hg hl hen;walk_at "go";refine ⟨p,kvs',g,rfl,.inl hH,lg,λr H3 hr s3 hr3=>?_⟩;have l3:Lk (kvL (aS g) (bP (aS g) 27)) _:=gY (aS g)
   generalize kvL (aS g) (bP (aS g) 27)=kws' at hr3 l3;refine q hen r kws' H3 (none_of s2 hr) (s2.trans s3) hr3 (l3.ext (oI λc hc=>?_));rw [hg c,lH hc (hf0 c),Bf (Ah _)]
def lN:Sp:=λvs H Q _=>∃ (a b:Addr) (kvs:List (Key×V)) (f:Nat->Option Int) (cs:List Nat),vs=[.ref a,.ref b]/\H a=some (.dK kvs)/\Lk kvs f/\(∀ c,0<=aS f c)/\rdL H b=some ((cs.map one).map V.str)/\cs.length<=1000/\
 ∀ (r:Addr) (kws:List (Key×V)) (H':Hp),H r=none->Same H H'->H' r=some (.dK kws)->Lk kws (bM λc=>aS f c+cnt cs c)->Q (.ref r) H'
def sc_put_in:FnScope ["locker", "flags", "more", "flag"] ["locker", "flags"] (aF jG):=by walk_at "sc"
def bQM {Zt Zz Zu Zx Z0 Zw Zy Zv:Addr} {f:Addr} {fd:FuncData} (F:Fun K "put_in" "put_in" jG f fd) (G:Gs K mg w Zt Zz Zu Zx Z0 Zw Zy Zv) (c_plain_locker:Cal P w K mg base 1 "plain_locker" ["locker"] dF):FnOk P w K mg base CX0 2 f fd ["locker", "flags"] lN:=by
 refine F.ok sc_put_in (λvs H Q E h=>?_) (λcdv A outer s H vs Q E hr h=>?_)
 . obtain ⟨a,b,kvs,f,cs,rfl,_⟩:=h; rfl
 obtain ⟨a,b,kvs,f,cs,rfl,ha,lk,hf0,hb,hcs,q⟩:=h;refine ⟨_,(@aE _ _ _ _ _ (@aP _ _ 2 _ _ _ _ sc_put_in.nd (by rfl) (by exact (Or.inl rfl)) (aW c_plain_locker hr (by decide) rfl (aA (mv 0) aB)) (by rfl) (by walk_at "o")) (@aE _ _ _ _ _ (cR Br rfl (cL (mv 1)) (aY (i:=3) sc_put_in.nd rfl (Or.inl rfl)) (@aI _ _ _ (iI (Room.u1 hr) (mv 2) (mv 3) (aR bS (jH Bz Dz (aZL (Room.u1 hr)) (mv 2) (aA (mv 3) (aA aJ aB))) aJ) rfl))) (@aI _ _ _ (aV (aW c_plain_locker hr (by decide) rfl (aA (mv 2) aB)))))),?_⟩
 walk_at "go";refine ⟨a,kvs,f,rfl,.inl ha,lk,λp H1 hp s1 hp1=>?_⟩;have lw:Lk (kvL (aS f) (bP (aS f) 27)) _:=gY (aS f)
 have hwl:(kvL (aS f) (bP (aS f) 27)).length<=27:=by unfold kvL; rw [Ab]; exact kA _ _
 generalize kvL (aS f) (bP (aS f) 27)=kws at hp1 lw hwl;have hb1:=aK s1 hb
 walk_at "go";refine iO (xs:=(cs.map one).map V.str) (λi σ H'=>∃ (kvs':List (Key×V)) (g:Nat->Option Int) (v:Option V),σ=[some (.ref a),some (.ref b),some (.ref p),v]/\Same H H'/\H' p=some (.dK kvs')/\Lk kvs' g/\(∀ c,aS g c=aS (bM (aS f)) c+cnt (cs.take i) c)/\kvs'.length<=27+i)
   ⟨kws,_,_,rfl,s1,hp1,lw,λc=>by rw [He]; show _=_+((0:Nat):Int); omega,by omega⟩ (λi σ H' _ ⟨_,_,_,_,e,_⟩=>aK e hb) ?_ ?_
 . rintro i x σ H2 hx ⟨kvs',g,v,rfl,s2,hH,lg,hg,hl⟩;have hi:i<cs.length:=by have:=(Ad.mp hx).1; rw [Ab,Ab] at this; exact this
   obtain ⟨c,hc⟩:∃ c,cs[i]?=some c:=⟨_,Aa hi⟩;obtain rfl:x=V.str (one c):=by rw [Af,Af,hc] at hx; cases hx; rfl
   have hpl:kvs'.length<sizeLine:=bG (by omega)
   walk_at "go";refine aJH (z:=one c) (.inl hH) ?_;rw [lg.val c,qG];walk_at "go";refine lK (z:=one c) hH hpl ?_;refine ⟨_,_,_,rfl,bI hp s2,aD,lg.put c (aS g c+1),λd=>?_,by have:=gA kvs' (Sum.inr (one c)) (.int (aS g c+1)); omega⟩
   rw [nO hc];have:=hg d
   by_cases e:d=c
   . subst e;show ((if d=d then some (aS g d+1) else g d):Option Int).getD 0=_
     rw [if_pos rfl,if_pos rfl];show aS g d+1=_
     omega
   . show ((if d=c then some (aS g c+1) else g d):Option Int).getD 0=_
     rw [if_neg e,if_neg e];show aS g d=_
     omega
 . rintro σ H2 ⟨kvs',g,v,rfl,s2,hH,lg,hg,hl⟩;walk_at "go";refine ⟨p,kvs',g,rfl,.inl hH,lg,λr H3 hr s3 hr3=>?_⟩;refine q r _ H3 (none_of s2 hr) (s2.trans s3) hr3 ((gY (aS g)).ext (oI λc hc=>?_));rw [hg c,lH hc (hf0 c),Bf (by rw [Ab,Ab]; exact Ah _)]
def mH:Sp:=λvs H Q _=>∃ (cw:List Nat) (k:Nat) (p:Int),vs=[.str (aU cw),.int p]/\p=(k:Int)+1/\k<cw.length/\cw.length<=7/\
 ∀ (r:Addr) (H':Hp),H r=none->Same H H'->H' r=some (.lst (((chs cw k).map one).map V.str))->Q (.ref r) H'
def cJG {β:Type} (G:Nat->Option β) (k:Nat):[0,1,2,3].filterMap (λn=>if n<k then G n else none)=(List.range (min k 4)).filterMap G:=by
 match k with
 | 0=>rfl
 | 1=>rfl
 | 2=>rfl
 | 3=>rfl
 | k+4=>
   rw [Ek (by omega)]
   exact iZ λn hn=>if_pos (by simp only [List.mem_cons,List.not_mem_nil,or_false] at hn; omega)
def atF (cw:List Nat) (k:Nat) (c:Nat):Option V:=if c - 49<k then (if cw.getD (c - 49) 0=cw.getD k 0 then some (.str (one c)) else none) else none
def eZX (cw:List Nat) (k:Nat):subsT.cps.toList.filterMap (atF cw k)=(((List.range (min k 4)).filterMap (chF cw k)).map one).map V.str:=by
 rw [aXP,show [49,50,51,52]=[0,1,2,3].map (49+·) from rfl,List.filterMap_map,Cc,List.map_filterMap,<-cJG];refine iZ λn _=>?_;show atF cw k (49+n)=_
 unfold atF chF;rw [show 49+n - 49=n by omega]
 by_cases h1:n<k
 . rw [if_pos h1,if_pos h1];by_cases h2:cw.getD n 0=cw.getD k 0
   . rw [if_pos h2,if_pos h2]; rfl
   . rw [if_neg h2,if_neg h2]; rfl
 . rw [if_neg h1,if_neg h1]
def sc_choices_at:FnScope ["word", "place", "letter", "above"] ["word", "place"] (aF cY):=by walk_at "sc"
def tP {Zt Zz Zu Zx Z0 Zw Zy Zv:Addr} {f:Addr} {fd:FuncData} (F:Fun K "choices_at" "choices_at" cY f fd) (G:Gs K mg w Zt Zz Zu Zx Z0 Zw Zy Zv)  : FnOk P w K mg base CX0 1 f fd ["word", "place"] mH:=by
 refine F.ok sc_choices_at (λvs H Q E h=>?_) (λcdv A outer s H vs Q E hr h=>?_)
 . obtain ⟨cw,k,p,rfl,_⟩:=h; rfl
 obtain ⟨cw,k,pl,rfl,hpl,hk,h7,q⟩:=h;refine ⟨_,(@aE _ _ _ _ _ (@aP _ _ 2 _ _ _ _ sc_choices_at.nd (by rfl) (by exact (Or.inr rfl)) (bK cF (mv 0) (aR uA (mv 1) aJ) (λ_ _=>rfl)) (by rfl) (by walk_at "o")) (@aE _ _ _ _ _ (iP (i:=3) sc_choices_at.nd rfl (Or.inl rfl) rfl (mQ (fK rfl G.s_SUBSTITUTES)) (iK (N:=["sign", "place", "letter", "word"]) ["word", "place", "letter", "above"] (aF cY) [none,some 1,some 2,some 0] rfl rfl rfl (λx h=>cA h) (by decide +kernel)) (by decide +kernel) rfl (by decide +kernel) (λ_ _ _ _=>(aY (i:=0) (show List.Nodup (["sign", "place", "letter", "word"]:List Str) by decide +kernel) rfl (Or.inl rfl))) (λ_ _ _ _=>(mV (PW.pt (qV (bA aQJ (cH aJM rfl G.b_int qN (aA (mv 0) aB)) (mv 1) (bE _)) (oJ (bA mO (bK cF (mv 3) (aR uA (cH aJM rfl G.b_int qN (aA (mv 0) aB)) aJ) (λ_ _=>rfl)) (mv 2) (bE _))))))) (λ_ _ _ _=>(mv 0))) (@aI _ _ _ (aV (aR bS (bV (aA (mv 2) aB)) (mv 3)))))),?_⟩
 have hwl:(aU cw).length=cw.length:=cJ cw
 walk_at "go";refine xS (by rw [hwl]; exact bN (by omega)) (wI (k:=k) (by omega) hk) ?_
 walk_at "go";refine bZV (atF cw k) (bG (by decide)) (λi c Hc A B hc' hA=>?_) (λD hD=>?_)
 . have hs:eI c:=mem_subs.mp (Al hc')
   have h49:49<=c:=hs.1
   walk_at "go";refine ⟨Wk.set rfl (Wk.refl _),?_⟩;walk_at "go";refine wM (qA hs) (by show 1<=640; decide) ?_
   walk_at "go";unfold atF at hA;refine gJ (λhd=>?_) (λhd=>?_)
   . have hd':=Az hd
     have hck:c - 49<k:=by omega
     rw [if_pos hck] at hA;walk_at "go";refine wM (qA hs) (by show 1<=640; decide) ?_
     walk_at "go";refine xS (by rw [hwl]; exact bN (by omega)) (wI (k:=c - 49) (by omega) (by omega)) ?_
     walk_at "go";rw [show decide (({ cps:=#[cw.getD (c - 49) 0] }:Str)={ cps:=#[cw.getD k 0] })=decide (cw.getD (c - 49) 0=cw.getD k 0) from aZ5 _ _];by_cases he:cw.getD (c - 49) 0=cw.getD k 0
     . rw [An he];rw [if_pos he] at hA;walk_at "go";exact hA
     . rw [Ax he];rw [if_neg he] at hA;walk_at "go";exact hA
   . have hd':=Bm (Bs.mpr hd)
     have hck:¬ c - 49<k:=by omega
     rw [if_neg hck] at hA;walk_at "go";exact hA
 . rw [show (Str.ofString "1234").cps.toList.filterMap (atF cw k)=_ from eZX cw k];walk_at "go";refine ⟨by show 1<=sizeLine; decide,λp hp=>?_⟩
   have hDp:D≠p:=λz=>by rw [z,aD] at hp; cases hp
   have hp0:H p=none:=by rw [aH (Ne.symm hDp)] at hp; exact hp
   have hlen:((((List.range (min k 4)).filterMap (chF cw k)).map one).map V.str).length<=4:=by
     have:=Ct (chF cw k) (List.range (min k 4))
     rw [Ca] at this;rw [Ab,Ab];omega
   walk_at "go";refine jN (xs:=[V.str (one (cw.getD k 0))]) (ys:=(((List.range (min k 4)).filterMap (chF cw k)).map one).map V.str) dU (by rw [vO hDp]; exact dU) (bN (by show 1+_<=_; omega)) λr hr=>?_
   have hr0:H r=none:=by
     by_cases z:r=p
     . rw [z]; exact hp0
     . rw [aH z] at hr;by_cases z2:r=D
       . rw [z2]; exact hD
       . rw [aH z2] at hr; exact hr
   walk_at "go";exact q r _ hr0 ((aG hD _).trans ((aG hp _).trans (aG hr _))) aD
def zC (cws:List (List Nat)) (k:Nat):List (List V):=(List.range (cws.getD k []).length).map λj:Nat=>[V.int (k:Int),V.int (1+(j:Int))]
def lE (cws:List (List Nat)) (i:Nat):List (List V):=((List.range i).map (zC cws)).flatten
def iJ (cws:Q5) (i:Nat):lE cws (i+1)=lE cws i++zC cws i:=by
 unfold lE;rw [Bx,Ao,List.flatten_append];simp
def cXL {cws:Q5} {k:Nat} (h7:∀ c∈cws,c.length<=7):(zC cws k).length<=7:=by
 unfold zC;rw [Ab,Ca,Ac];cases e:cws[k]? with
 | none=>exact Cr _
 | some c=>exact h7 c (Al e)
def nH {cws:Q5} (h7:∀ c∈cws,c.length<=7):∀ i,(lE cws i).length<=7 * i
 | 0=>Ah _
 | i+1=>by
   rw [iJ,Ag];have:=nH h7 i
   have:=cXL (k:=i) h7
   omega
def bXE {cws:Q5} {k:Nat}:∀ t∈zC cws k,∃ a b:Int,t=[V.int a,V.int b]:=λt ht=>by
 obtain ⟨j,_,rfl⟩:=Be.mp ht;exact ⟨_,_,rfl⟩
def yJ {cws:Q5}:∀ i,∀ t∈lE cws i,∃ a b:Int,t=[V.int a,V.int b]
 | 0,t,ht=>nomatch ht
 | i+1,t,ht=>by
   rw [iJ] at ht;rcases Bl.mp ht with h | h
   . exact yJ i t h
   . exact bXE t h
def xR {cws:Q5} {i:Nat} {x:V} (h:((cws.map aU).map V.str)[i]?=some x):∃ c,cws[i]?=some c/\c∈cws/\x=.str (aU c):=by
 rw [Af,Af] at h;cases e:cws[i]? with
 | none=>rw [e] at h; cases h
 | some c=>rw [e] at h; cases h; exact ⟨c,rfl,Al e,rfl⟩
def eZ9 {ys:List V} (h:∀ y∈ys,∃ cw:List Nat,y=.str (aU cw)/\cw.length<=7):∃ cws:List (List Nat),ys=(cws.map aU).map V.str/\∀ c∈cws,c.length<=7:=by
 induction ys with
 | nil=>exact ⟨[],rfl,λc hc=>nomatch hc⟩
 | cons y r ih=>
   obtain ⟨cw,rfl,h7⟩:=h _ (Am ..);obtain ⟨cws,rfl,hc⟩:=ih λy hy=>h y (Ak _ hy);exact ⟨cw::cws,rfl,λc hcc=>by
     rcases Ay.mp hcc with e | e
     . rw [e]; exact h7
     . exact hc c e⟩
def pN:Sp:=λvs H Q _=>∃ (a:Addr) (cws:List (List Nat)),vs=[.ref a]/\rdL H a=some ((cws.map aU).map V.str)/\cws.length<=8/\(∀ c∈cws,c.length<=7)/\
 ∀ (r:Addr) (ps:List Addr) (H':Hp),H r=none->Same H H'->H' r=some (.lst (ps.map V.ref))->Tups H H' ps (lE cws cws.length)->Q (.ref r) H'
def sc_wants_of:FnScope ["words", "wants", "number", "word"] ["words"] (aF eY):=by walk_at "sc"
def yC {Zt Zz Zu Zx Z0 Zw Zy Zv:Addr} {f:Addr} {fd:FuncData} (F:Fun K "wants_of" "wants_of" eY f fd) (G:Gs K mg w Zt Zz Zu Zx Z0 Zw Zy Zv)  : FnOk P w K mg base CX0 1 f fd ["words"] pN:=by
 refine F.ok sc_wants_of (λvs H Q E h=>?_) (λcdv A outer s H vs Q E hr h=>?_)
 . obtain ⟨a,cws,rfl,_⟩:=h; rfl
 obtain ⟨a,cws,rfl,ha,h8,h7,q⟩:=h;refine ⟨_,(@aE _ _ _ _ _ (@aP _ _ 1 _ _ _ _ sc_wants_of.nd (by rfl) (by exact (Or.inl rfl)) (bV aB) (by rfl) (by walk_at "o")) (@aE _ _ _ _ _ (cR Br rfl (oA rfl G.b_enumerate (aA (mv 0) aB)) (fL (K:=K) (i:=2) (j:=3) (by rfl) (by rfl) sc_wants_of.nd (by rfl) (by exact (Or.inr rfl)) (by exact Or.inl rfl) (by rfl) (by exact (Or.inl rfl)) (by exact Or.inl rfl)) (@aI _ _ _ (cD (dB Bu Ec Ed yM (mv 1) (aA (cT rfl (aJ1 rfl G.b_range (aA aJ (aA (aR bS (bC eV rfl G.b_len cM (aA (mv 3) aB)) aJ) aB))) (iK (N:=["place", "number"]) ["words", "wants", "number", "word"] (aF eY) [none,some 2] rfl rfl rfl (λx h=>cA h) (by decide +kernel)) (by decide +kernel) rfl (by decide +kernel) (λ_ _ _ _=>(aY (i:=0) (show List.Nodup (["place", "number"]:List Str) by decide +kernel) rfl (Or.inl rfl))) (λ_ _ _ _=>dO) (λ_ _ _ _=>(gG (aA (mv 1) (aA (mv 0) aB))))) aB))))) (@aI _ _ _ (aV (mv 1))))),?_⟩
 walk_at "go";refine ⟨by decide,λp hp=>?_⟩
 have ha1:=aK (aG hp (HO.lst [])) ha
 walk_at "go";refine qI (xs:=(cws.map aU).map V.str) (λi σ H'=>∃ (ps:List Addr) (v1 v2:Option V),σ=[some (.ref a),some (.ref p),v1,v2]/\Same H H'/\H' p=some (.lst (ps.map V.ref))/\Tups H H' ps (lE cws i))
   ⟨[],_,_,rfl,aG hp _,aD,.nil⟩ (λj σ H' _ ⟨_,_,_,_,e,_⟩=>aK e ha) ?_ ?_
 . rintro i x σ H2 pt hx ⟨ps,v1,v2,rfl,s2,hH,tp⟩ hpt;have hi:i<cws.length:=by have:=(Ad.mp hx).1; rw [Ab,Ab] at this; exact this
   obtain ⟨cw,hcw,hm,rfl⟩:=xR hx;have hc7:=h7 cw hm
   have hwl:(aU cw).length=cw.length:=cJ cw
   walk_at "go";rw [hwl];refine ⟨⟨by omega,by omega,by omega,by omega⟩,?_⟩
   rw [show ((cw.length:Int)+1 - 1).toNat=cw.length by omega]
   have s3:=s2.trans (aG hpt (HO.tup [V.int ((0+i:Nat):Int),V.str (aU cw)]))
   have hH3:=aG hpt (HO.tup [V.int ((0+i:Nat):Int),V.str (aU cw)]) _ _ hH
   have tp3:=tp.keep (aG hpt (HO.tup [V.int ((0+i:Nat):Int),V.str (aU cw)]))
   generalize upd H2 pt (HO.tup [V.int ((0+i:Nat):Int),V.str (aU cw)])=H3 at s3 hH3 tp3 ⊢;refine bQZ (λj=>[V.int ((0+i:Nat):Int),V.int (1+(j:Int))]) (bG (by omega)) (λj Hc A B hj hs hA=>?_) (λD Hd qs hD sD hDd hqn tq=>?_)
   . walk_at "go";refine ⟨Wk.set rfl (Wk.refl _),?_⟩;walk_at "go";exact ⟨by show 2<=sizeLine; decide,λpp hpp=>hA pp _ hpp (aG hpp _) aD⟩
   . have hpd:=sD _ _ hH3
     have hpl:ps.length<=7 * i:=by rw [tp.1]; exact nH h7 i
     have e:(List.range cw.length).map (λj:Nat=>[V.int ((0+i:Nat):Int),V.int (1+(j:Int))])=zC cws i:=by
       unfold zC;rw [Ac,hcw,Nat.zero_add];rfl
     rw [e] at tq;walk_at "go";refine ⟨ps++qs,_,_,rfl,bI hp (s3.trans sD),by rw [aD,Ao],?_⟩
     rw [iJ];exact ((tp3.keep sD).app (tq.older s3)).put hpd
 . rintro σ H2 ⟨ps,v1,v2,rfl,s2,hH,tp⟩;walk_at "go";rw [show ((cws.map aU).map V.str).length=cws.length by rw [Ab,Ab]] at tp
   exact q p ps H2 hp s2 hH tp
def fN (cws:List (List Nat)) (i:Nat):Nat:=((cws.take i).map List.length).sum
def mS (cws:List (List Nat)) (cs:List Nat) (i:Nat):List V:=(((cs.drop (fN cws i)).take (cws.getD i []).length).map one).map V.str
def uE {cws:Q5} {i:Nat} {cw:List Nat} (h:cws[i]?=some cw):fN cws (i+1)=fN cws i+cw.length:=by
 unfold fN;rw [Bd,h,Ao,List.sum_append];simp
def eJE {cws:Q5} {i:Nat} (h:i<=cws.length):fN cws i<=fN cws cws.length:=by
 unfold fN;conv=>rhs; rw [<-Em i (cws.take cws.length)]
 rw [Ao,List.sum_append,List.take_take,Er h];exact Ff _ _
def cJA {xs:List V} {i j:Nat} (hj:i<=j):kY xs (some (i:Int)) (some (j:Int))=(xs.drop i).take (j - i):=by
 unfold kY;show (xs.drop (if (i:Int)<0 then ((i:Int)+(xs.length:Int)).toNat else min (i:Int).toNat xs.length)).take ((if (j:Int)<0 then ((j:Int)+(xs.length:Int)).toNat else min (j:Int).toNat xs.length) - (if (i:Int)<0 then ((i:Int)+(xs.length:Int)).toNat else min (i:Int).toNat xs.length))=_
 rw [if_neg (by omega),if_neg (by omega),Fy,Fy]
 by_cases h1:i<=xs.length
 . rw [Er h1];by_cases h2:j<=xs.length
   . rw [Er h2]
   . rw [Ek (by omega),Bf (by rw [Cd]; omega),Bf (by rw [Cd]; omega)]
 . rw [Ek (show xs.length<=i by omega),List.drop_of_length_le (Ah _),List.drop_of_length_le (by omega),Hl,Hl]
def oG:Sp:=λvs H Q _=>∃ (a b:Addr) (cws:List (List Nat)) (cs:List Nat),vs=[.ref a,.ref b]/\rdL H a=some ((cws.map aU).map V.str)/\rdL H b=some ((cs.map one).map V.str)/\cws.length<=8/\(∀ c∈cws,c.length<=7)/\
 ∀ (r:Addr) (ps:List Addr) (H':Hp),H r=none->Same H H'->H' r=some (.lst (ps.map V.ref))->(∀ p∈ps,p≠r)->Lsts H H' ps ((List.range cws.length).map (mS cws cs))->Q (.ref r) H'
def sc_hoists_of:FnScope ["words", "flags", "hoists", "start", "word", "end"] ["words", "flags"] (aF fE):=by walk_at "sc"
def vK {Zt Zz Zu Zx Z0 Zw Zy Zv:Addr} {f:Addr} {fd:FuncData} (F:Fun K "hoists_of" "hoists_of" fE f fd) (G:Gs K mg w Zt Zz Zu Zx Z0 Zw Zy Zv)  : FnOk P w K mg base CX0 1 f fd ["words", "flags"] oG:=by
 refine F.ok sc_hoists_of (λvs H Q E h=>?_) (λcdv A outer s H vs Q E hr h=>?_)
 . obtain ⟨a,b,cws,cs,rfl,_⟩:=h; rfl
 obtain ⟨a,b,cws,cs,rfl,ha,hb,h8,h7,q⟩:=h;refine ⟨_,(@aE _ _ _ _ _ (@aP _ _ 2 _ _ _ _ sc_hoists_of.nd (by rfl) (by exact (Or.inl rfl)) (bV aB) (by rfl) (by walk_at "o")) (@aE _ _ _ _ _ (@aP _ _ 3 _ _ _ _ sc_hoists_of.nd (by rfl) (by exact (Or.inl rfl)) aJ (by rfl) (by walk_at "o")) (@aE _ _ _ _ _ (cR Br rfl (cL (mv 0)) (aY (i:=4) sc_hoists_of.nd rfl (Or.inl rfl)) (@aE _ _ _ _ _ (@aP _ _ 5 _ _ _ _ sc_hoists_of.nd (by rfl) (by exact (Or.inl rfl)) (aR bS (mv 3) (bC eV rfl G.b_len cM (aA (mv 4) aB))) (by rfl) (by walk_at "o")) (@aE _ _ _ _ _ (cD (dB Bu Ez Fa aJY (mv 2) (aA (cH kZ rfl G.b_list fY (aA (jI cJE (mv 1) (gS (mv 3)) (gS (mv 5))) aB)) aB))) (@aI _ _ _ (@aP _ _ 3 _ _ _ _ sc_hoists_of.nd (by rfl) (by exact (Or.inl rfl)) (mv 5) (by rfl) (by walk_at "o")))))) (@aI _ _ _ (aV (mv 2)))))),?_⟩
 have hll:((cws.map aU).map V.str).length=cws.length:=by rw [Ab,Ab]
 walk_at "go";refine ⟨by decide,λp hp=>?_⟩
 have ha1:=aK (aG hp (HO.lst [])) ha
 walk_at "go";refine iO (xs:=(cws.map aU).map V.str) (λi σ H'=>∃ (ps:List Addr) (v4 v5:Option V),σ=[some (.ref a),some (.ref b),some (.ref p),some (.int ((fN cws i:Nat):Int)),v4,v5]/\Same H H'/\H' p=some (.lst (ps.map V.ref))/\(∀ x∈ps,x≠p)/\ps.length=i/\Lsts H H' ps ((List.range i).map (mS cws cs)))
   ⟨[],_,_,rfl,aG hp _,aD,(λx hx=>nomatch hx),rfl,.nil⟩ (λj σ H' _ ⟨_,_,_,_,e,_⟩=>aK e ha) ?_ ?_
 . rintro i x σ H2 hx ⟨ps,v4,v5,rfl,s2,hH,hne,hpl,tp⟩;have hi:i<cws.length:=by have:=(Ad.mp hx).1; rw [hll] at this; exact this
   obtain ⟨cw,hcw,hm,rfl⟩:=xR hx;have hc7:=h7 cw hm
   have hwl:(aU cw).length=cw.length:=cJ cw
   have hb2:=aK s2 hb
   walk_at "go";rw [hwl];intro r1 hr1;rw [show ((fN cws i:Nat):Int)+((cw.length:Nat):Int)=((fN cws i+cw.length:Nat):Int) by push_cast; rfl,cJA (by omega),show fN cws i+cw.length - fN cws i=cw.length by omega]
   have hrow_e:(((cs.map one).map V.str).drop (fN cws i)).take cw.length=mS cws cs i:=by
     unfold mS;rw [Ac,hcw,Hm,Hm,Gk,Gk];rfl
   rw [hrow_e];walk_at "go";intro r2 hr2;have hp1:r2≠p:=λz=>by
     have:=aG hr1 (HO.lst (mS cws cs i)) _ _ hH
     rw [<-z,hr2] at this;cases this
   have s3:Same H2 (upd (upd H2 r1 (HO.lst (mS cws cs i))) r2 (HO.lst (mS cws cs i))):=(aG hr1 _).trans (aG hr2 _)
   have hr3:(upd (upd H2 r1 (HO.lst (mS cws cs i))) r2 (HO.lst (mS cws cs i))) r2=some (.lst (mS cws cs i)):=aD
   have hr20:H2 r2=none:=none_of (aG hr1 _) hr2
   generalize upd (upd H2 r1 (HO.lst (mS cws cs i))) r2 (HO.lst (mS cws cs i))=H3 at s3 hr3 ⊢;have hH3:=s3 _ _ hH
   have hm3:=bL hH3
   walk_at "go";have hne2:∀ x∈ps++[r2],x≠p:=λx hx=>by
     rcases Bl.mp hx with e | e
     . exact hne x e
     . rw [Aj.mp e]; exact hp1
   refine ⟨ps++[r2],some (.str (aU cw)),some (.int ((fN cws i+cw.length:Nat):Int)),?_,bI hp (s2.trans s3),by rw [aD,Ao]; rfl,hne2,by rw [Ag,hpl]; rfl,?_⟩
   . rw [uE hcw];rfl
   . rw [Bx,Ao];exact ((tp.keep s3).snoc (none_of s2 hr20) hr3).put hne2
 . rintro σ H2 ⟨ps,v4,v5,rfl,s2,hH,hne,hpl,tp⟩;walk_at "go";rw [hll] at tp;exact q p ps H2 hp s2 hH hne tp
def aQ1:FnScope ["text"] ["text"] (aF hV):=by walk_at "sc"
def aX8 {Zt Zz Zu Zx Z0 Zw Zy Zv:Addr} {f:Addr} {fd:FuncData} (F:Fun K "is_flag" "is_flag" hV f fd) (G:Gs K mg w Zt Zz Zu Zx Z0 Zw Zy Zv)  : FnOk P w K mg base CX0 1 f fd ["text"] sI:=by
 refine F.ok aQ1 (λvs H Q E h=>?_) (λcdv A outer s H vs Q E hr h=>?_)
 . obtain ⟨z,rfl,_⟩:=h; rfl
 obtain ⟨z,rfl,hl,q⟩:=h;refine ⟨_,(@aI _ _ _ (aV (aXU (jO mO (bC eV rfl G.b_len cM (aA (mv 0) aB)) aJ (bE _)) (cQK (jO aJP (mv 0) (fK rfl G.s_FLAGS) (by rfl)))))),?_⟩
 walk_at "go";refine gJ (λhc=>?_) (λhc=>?_)
 . have e:jT z=subIn z flagsT:=if_pos (by have:=Az hc; omega)
   rw [e] at q;walk_at "go";exact q
 . have e:jT z=false:=pT (by have:=Bm (Bs.mpr hc); omega)
   rw [e] at q;exact q
def wC:FnScope ["text", "place"] ["text", "place"] (aF fD):=by walk_at "sc"
def wN {Zt Zz Zu Zx Z0 Zw Zy Zv:Addr} {f:Addr} {fd:FuncData} (F:Fun K "may_stand" "may_stand" fD f fd) (G:Gs K mg w Zt Zz Zu Zx Z0 Zw Zy Zv) (c_is_flag:Cal P w K mg base 1 "is_flag" ["text"] sI):FnOk P w K mg base CX0 2 f fd ["text", "place"] oE:=by
 refine F.ok wC (λvs H Q E h=>?_) (λcdv A outer s H vs Q E hr h=>?_)
 . obtain ⟨z,p,rfl,_⟩:=h; rfl
 obtain ⟨z,p,rfl,hl,q⟩:=h;refine ⟨_,(@aE _ _ _ _ _ (cG (nA (fH (aW c_is_flag hr (by decide) rfl (aA (mv 0) aB)))) (@aI _ _ _ (aV mG)) bH) (@aE _ _ _ _ _ (cG (bA aJP (mv 0) (fK rfl G.s_SUBSTITUTES) (by rfl)) (@aI _ _ _ (aV (jO aQJ (cH aJM rfl G.b_int qN (aA (mv 0) aB)) (mv 1) (bE _)))) bH) (@aI _ _ _ (aV mG)))),?_⟩
 walk_at "go";refine ⟨z,rfl,hl,?_⟩;walk_at "go";refine gJ (λhc=>?_) (λhc=>?_)
 . have hf:jT z=false:=by simpa using hc
   have e:dE z p=false:=by
     by_cases h1:z.length=1
     . obtain ⟨c,rfl⟩:=qS h1;rw [rA] at hf;have hf:=Bm hf
       rw [nT];exact Ax λst=>hf (st.elim .inl λz=>.inr z.1)
     . exact if_neg h1
   rw [e] at q;walk_at "go";exact q
 . have hf:jT z=true:=by simpa using hc
   obtain ⟨c,rfl,hcc⟩:=aJ9 hf;walk_at "go";rw [if_neg Ap,show subIn (one c) (Str.ofString "1234")=decide (eI c) from sM c];rw [nT] at q;refine gJ (λhd=>?_) (λhd=>?_)
   . have hs:=Az hd
     walk_at "go";refine wM (qA hs) (by show 1<=640; decide) ?_
     walk_at "go";rw [show decide (kO c p)=decide ((c:Int) - 48<p) from Dh.mpr ⟨λst=>st.elim (λl=>absurd hs (fZ l)) (·.2),λl=>.inr ⟨hs,l⟩⟩] at q;exact q
   . have hs:=Bm (Bs.mpr hd)
     walk_at "go";rw [An (show kO c p from .inl (hcc.resolve_right hs))] at q;exact q
def yT:FnScope ["flags"] ["flags"] (aF fR):=by walk_at "sc"
def xQ {Zt Zz Zu Zx Z0 Zw Zy Zv:Addr} {f:Addr} {fd:FuncData} (F:Fun K "is_hoist" "is_hoist" fR f fd) (G:Gs K mg w Zt Zz Zu Zx Z0 Zw Zy Zv) (c_may_stand:Cal P w K mg base 2 "may_stand" ["text", "place"] oE):FnOk P w K mg base CX0 3 f fd ["flags"] pK:=by
 refine F.ok yT (λvs H Q E h=>?_) (λcdv A outer s H vs Q E hr h=>?_)
 . obtain ⟨a,zs,rfl,_⟩:=h; rfl
 obtain ⟨a,zs,rfl,ha,hl,hz,q⟩:=h;refine ⟨_,(@aE _ _ _ _ _ (cG (PW.pt (pO (bA aQJ (bC eV rfl G.b_len cM (aA (mv 0) aB)) aJ (bE _)) (mP (bA aJ8 (bC eV rfl G.b_len cM (aA (mv 0) aB)) (aJT rfl G.s_MOST_PLACES) (bE _))))) (@aI _ _ _ (aV mG)) bH) (@aI _ _ _ (aV (bC (dQ6 rfl) rfl G.b_all cXB (aA (cT rfl (cXD rfl G.b_enumerate (aA (mv 0) aB) (vR aJ aXB)) (mE (N:=["place", "text"]) (by decide +kernel) (by decide +kernel)) (by decide +kernel) rfl (by decide +kernel) (λ_ _ _ _=>(fL (K:=K) (i:=0) (j:=1) (by rfl) (by rfl) (show List.Nodup (["place", "text"]:List Str) by decide +kernel) (by rfl) (by exact Or.inl rfl) (by exact Or.inr rfl) (by rfl) (by exact Or.inl rfl) (by exact Or.inr rfl))) (λ_ _ _ _=>dO) (λ_ _ _ _=>(aW c_may_stand hr (by decide) rfl (aA (mv 1) (aA (mv 0) aB))))) aB))))),?_⟩
 have hll:(zs.map V.str).length=zs.length:=Ab ..
 walk_at "go";rw [hll];refine gJ (λhc=>?_) (λhc=>?_)
 . walk_at "go";have e:cN zs=false:=if_pos (.inl (by have:=Az hc; omega))
   have r:=q H (Same.refl H)
   rw [e] at r;exact r
 . have hc':=Bm (Bs.mpr hc)
   walk_at "go";rw [hll];refine gJ (λhd=>?_) (λhd=>?_)
   . walk_at "go";have e:cN zs=false:=if_pos (.inr (by have:=Az hd; omega))
     have r:=q H (Same.refl H)
     rw [e] at r;exact r
   . have hd':=Bm (Bs.mpr hd)
     walk_at "go";refine ⟨⟨by omega,by omega⟩,?_⟩
     walk_at "go";refine aZS (λi x=>match x with | .str z=>some (.bl (dE z ((1+i:Nat):Int))) | _=>none) ha (by rw [hll]; exact bG (by omega)) (λi x Hc p A B hx sm hp hA=>?_) (λD Hd hD sd hr=>?_)
     . obtain ⟨z,hzi,rfl⟩:=jS hx;walk_at "go";refine ⟨Wk.set rfl (Wk.set rfl (Wk.refl _)),?_⟩;walk_at "go";refine ⟨z,_,rfl,hz z (Al hzi),?_⟩;exact hA _ (Same.refl _)
     . have e1:((List.range (zs.map V.str).length).filterMap λi=>(λi x=>match x with | .str z=>some (V.bl (dE z ((1+i:Nat):Int))) | _=>none:Nat->V->Option V) i ((zs.map V.str).getD i .non))=((List.range zs.length).map λi=>dE (zs.getD i ⟨#[]⟩) ((1+i:Nat):Int)).map V.bl:=by
         rw [hll,Cc];refine (iZ (g:=λi=>some (V.bl (dE (zs.getD i ⟨#[]⟩) ((1+i:Nat):Int)))) λi hi=>?_).trans (pZ _ _);have hi':=Bw.mp hi
         rw [Ac,Af,Aa hi',Ac,Aa hi'];rfl
       rw [e1] at hr;walk_at "go";refine dQS hr ?_;have e2:cN zs=((List.range zs.length).map λi=>dE (zs.getD i ⟨#[]⟩) ((1+i:Nat):Int)).all id:=by
         unfold cN;rw [if_neg (by omega),List.all_map]
         rfl
       have r:=q _ sd
       rw [e2] at r;exact r
def sc_read_of:FnScope ["flags", "word", "flag"] ["flags"] (aF iA):=by walk_at "sc"
def aXA {Zt Zz Zu Zx Z0 Zw Zy Zv:Addr} {f:Addr} {fd:FuncData} (F:Fun K "read_of" "read_of" iA f fd) (G:Gs K mg w Zt Zz Zu Zx Z0 Zw Zy Zv) (c_is_hoist:Cal P w K mg base 3 "is_hoist" ["flags"] pK):FnOk P w K mg base (CXr P w) 4 f fd ["flags"] (nD Zx):=by
 refine F.okX sc_read_of (λvs H Q E h=>?_) (λcdv A outer s H vs Q E hr h=>?_)
 . obtain ⟨a,zs,rfl,_⟩:=h; rfl
 obtain ⟨a,zs,rfl,ha,hl,hz,q,qe⟩:=h;refine ⟨_,(@aE _ _ _ _ _ (cG (nA (fH (aW c_is_hoist hr (by decide) rfl (aA (mv 0) aB)))) (@aI _ _ _ (sC jR rfl rfl rfl G.c_NoHoist G.x_NoHoist Du (@gM _ _ _ _ _ _ aB))) bH) (@aE _ _ _ _ _ (@aP _ _ 1 _ _ _ _ sc_read_of.nd (by rfl) (by exact (Or.inl rfl)) gH (by rfl) (by walk_at "o")) (@aE _ _ _ _ _ (PS.nox (cR Br rfl (cL (mv 0)) (aY (i:=2) sc_read_of.nd rfl (Or.inl rfl)) (@aI _ _ _ (cG (bA aJP (mv 2) (fK rfl G.s_SUBSTITUTES) (by rfl)) (@aI _ _ _ (@aP _ _ 1 _ _ _ _ sc_read_of.nd (by rfl) (by exact (Or.inl rfl)) (aR bS (mv 1) (bK cF (mv 1) (aR uA (cH aJM rfl G.b_int qN (aA (mv 2) aB)) aJ) (λ_ _=>rfl))) (by rfl) (by walk_at "o"))) (@aI _ _ _ (@aP _ _ 1 _ _ _ _ sc_read_of.nd (by rfl) (by exact (Or.inl rfl)) (aR bS (mv 1) (mv 2)) (by rfl) (by walk_at "o"))))))) (@aI _ _ _ (aV (mv 1)))))),?_⟩
 walk_at "go";refine ⟨a,zs,rfl,ha,hl,hz,λH1 s1=>?_⟩;have ha1:=aK s1 ha
 walk_at "go";cases hh:cN zs with
 | false=>
   walk_at "go";exact ⟨by show 1<=sizeLine; decide,qe hh H1 s1⟩
 | true=>
   walk_at "go";have h7:=fS hh
   refine iO (xs:=zs.map V.str) (λi σ H'=>∃ v,σ=[some (.ref a),some (.str (aU (rdC ((zs.map lA).take i)))),v]/\H'=H1)
     ⟨none,rfl,rfl⟩ (λi σ H' _ ⟨_,_,e⟩=>by rw [e]; exact ha1) ?_ ?_
   . rintro i x σ H' hx ⟨v,rfl,rfl⟩;obtain ⟨z,hzi,rfl⟩:=jS hx;obtain ⟨c,rfl,hci,hcc⟩:=rJ hh hzi;have hi:i<(zs.map lA).length:=(Ad.mp hci).1
     have hll:(zs.map lA).length=zs.length:=Ab ..
     have hrl:(rdC ((zs.map lA).take i)).length=i:=gO (by omega)
     have hst:=kJ hci
     generalize rdC ((zs.map lA).take i)=wd at hrl hst ⊢;have hwl:(aU wd).length=i:=(cJ wd).trans hrl
     walk_at "go";rw [if_neg Ap,show subIn (one c) (Str.ofString "1234")=decide (eI c) from sM c];refine gJ (λhd=>?_) (λhd=>?_)
     . have hs:=Az hd
       have hlt:c - 49<i:=(hcc.resolve_left λl=>fZ l hs).2
       have h49:49<=c:=hs.1
       walk_at "go";refine wM (qA hs) (by show 1<=640; decide) ?_
       walk_at "go";have e1:atI (aU wd).cps.toList ((c:Int) - 48 - 1)=some (wd.getD (c - 49) 0):=by
         rw [show ((c:Int) - 48 - 1)=((c - 49:Nat):Int) by omega]
         refine bJ ?_;rw [dY,Ac,Aa (by omega)]
         rfl
       have h2:(⟨#[wd.getD (c - 49) 0]⟩:Str).length=1:=rfl
       refine xS (by rw [hwl]; exact bN (by omega)) e1 ?_
       walk_at "go";refine ⟨some (.str (one c)),?_,rfl⟩;rw [hst,show stp wd c=wd.getD (c - 49) 0 from if_pos hs,<-jA];rfl
     . have hs:=Bm (Bs.mpr hd)
       have h2:(one c).length=1:=rfl
       walk_at "go";refine ⟨some (.str (one c)),?_,rfl⟩;rw [hst,show stp wd c=c from if_neg hs,<-jA];rfl
   . rintro σ H' ⟨v,rfl,rfl⟩;walk_at "go";have e:(zs.map lA).take (zs.map V.str).length=zs.map lA:=Bf (by rw [Ab,Ab]; exact Ah _)
     rw [e];exact q hh _ s1
abbrev Wt:=Nat×Nat
def dN (w:Wt):List Key:=[Sum.inl (w.1:Int),Sum.inl (w.2:Int)]
def nU {a b:Wt} (h:dN a=dN b):a=b:=by
 unfold dN at h;injection h with h1 h2
 injection h2 with h2 _
 have e1:=Sum.inl.inj h1
 have e2:=Sum.inl.inj h2
 exact Prod.ext (by omega) (by omega)
def eM (m:List (Wt×Nat)) (w:Wt):Option Nat:=(m.find? λx=>decide (x.1=w)).map (·.2)
def eW (m:List (Wt×Nat)) (f:Nat):List Wt:=(m.filter λx=>decide (x.2=f)).map (·.1)
def ctm (m:List (Wt×Nat)) (f:Nat):Nat:=m.countP λx=>decide (x.2=f)
def fX {x:Wt×Nat} {m:List (Wt×Nat)} {w:Wt}:eM (x::m) w=if x.1=w then some x.2 else eM m w:=by
 unfold eM;rw [List.find?_cons];by_cases h:x.1=w
 . simp [h]
 . simp [h]
def zQ {m:List (Wt×Nat)} {w:Wt} {f:Nat} (h:eM m w=some f):(w,f)∈m:=by
 induction m with
 | nil=>cases h
 | cons x m ih=>
   rw [fX] at h;by_cases e:x.1=w
   . rw [if_pos e] at h;cases h;rw [<-e];exact Am
   . rw [if_neg e] at h;exact Ak _ (ih h)
def oB {m:List (Wt×Nat)} (nd:(m.map (·.1)).Nodup) {w:Wt} {f:Nat} (h:(w,f)∈m):eM m w=some f:=by
 induction m with
 | nil=>cases h
 | cons x m ih=>
   rw [fX];rw [Au,Cf] at nd;rcases Ay.mp h with e | e
   . rw [<-e,if_pos rfl]
   . rw [if_neg (λz=>nd.1 (by rw [z]; exact Be.mpr ⟨_,e,rfl⟩)),ih nd.2 e]
def hget_none {m:List (Wt×Nat)} {w:Wt}:eM m w=none ↔ w ∉ m.map (·.1):=by
 induction m with
 | nil=>exact ⟨λ_ z=>(nomatch z),λ_=>rfl⟩
 | cons x m ih=>
   rw [fX,Au,Ay];by_cases e:x.1=w
   . rw [if_pos e];exact ⟨λz=>(nomatch z),λz=>absurd (Or.inl e.symm) z⟩
   . rw [if_neg e,ih];exact ⟨λz y=>y.elim (λq=>e q.symm) z,λz y=>z (Or.inr y)⟩
def by_mem {m:List (Wt×Nat)} {f:Nat} {w:Wt}:w∈eW m f ↔ (w,f)∈m:=by
 unfold eW;rw [Be];constructor
 . rintro ⟨x,hx,rfl⟩;rw [Dx,Bj] at hx;rw [<-hx.2];exact hx.1
 . intro h;exact ⟨(w,f),Dx.mpr ⟨h,An rfl⟩,rfl⟩
def aQ4 (m:List (Wt×Nat)) (f:Nat):(eW m f).length=ctm m f:=by
 unfold eW ctm;rw [Ab,Fn]
structure Asking (ch:Wt->List Nat) (m:List (Wt×Nat)) (first:Wt) (A:List (Nat×Wt)):Prop where
 nd:(A.map (·.1)).Nodup
 ok:∀ (j:Nat) f w,A[j]?=some (f,w)->f∈ch w/\(w=first\/∃ (g:Nat) (i:Nat) (v:Wt),i<j/\A[i]?=some (g,v)/\eM m w=some g)
def cE (m:List (Wt×Nat)) (first:Wt) (A:List (Nat×Wt)):List Wt:=first::(A.map (·.1)).flatMap (eW m)
def mX (m:List (Wt×Nat)) (first:Wt) (A:List (Nat×Wt)) (f:Nat) (w:Wt):cE m first (A++[(f,w)])=cE m first A++eW m f:=by
 unfold cE;rw [Ao,Fb];simp
def reach_mem {m:List (Wt×Nat)} {first:Wt} {A:List (Nat×Wt)} {w:Wt}:w∈cE m first A ↔ w=first\/∃ f∈A.map (·.1),(w,f)∈m:=by
 unfold cE;rw [Ay,Hi];constructor
 . rintro (h | ⟨f,hf,h⟩)
   . exact .inl h
   . exact .inr ⟨f,hf,by_mem.mp h⟩
 . rintro (h | ⟨f,hf,h⟩)
   . exact .inl h
   . exact .inr ⟨f,hf,by_mem.mpr h⟩
def sP (m:List (Wt×Nat)):∀ {fs:List Nat},fs.Nodup->(fs.flatMap (eW m)).length=m.countP (λx=>decide (x.2∈fs))
 | [],_=>by simp
 | f::fs,nd=>by
   rw [Fz,Ag,aQ4,sP m (Cf.mp nd).2];have hf:=(Cf.mp nd).1
   unfold ctm;clear nd;induction m with
   | nil=>rfl
   | cons x m ih=>
     rw [Dr,Dr,Dr,<-ih];by_cases h1:x.2=f
     . rw [if_pos (An h1),if_neg (by rw [Bj,h1]; exact hf),if_pos (An (by rw [h1]; exact Am))]
       omega
     . rw [if_neg (by rw [Bj]; exact h1)]
       by_cases h2:x.2∈fs
       . rw [if_pos (An h2),if_pos (An (Ak _ h2))];omega
       . rw [if_neg (by rw [Bj]; exact h2),if_neg (by rw [Bj]; exact λz=>(Ay.mp z).elim h1 h2)]
         omega
def uR {m:List (Wt×Nat)} {first:Wt} {A:List (Nat×Wt)} (nd:(A.map (·.1)).Nodup):(cE m first A).length<=1+m.length:=by
 unfold cE;rw [Aw,sP m nd];have:=List.countP_le_length (p:=λx:Wt×Nat=>decide (x.2∈A.map (·.1))) (l:=m)
 omega
def Asking.snoc {ch:Wt->List Nat} {m:List (Wt×Nat)} {first w:Wt} {A:List (Nat×Wt)} {f:Nat} (ndm:(m.map (·.1)).Nodup) (h:Asking ch m first A) (hf:f ∉ A.map (·.1)) (hc:f ∈ ch w) (hw:w ∈ cE m first A):Asking ch m first (A++[(f,w)]):=by
 refine ⟨?_,λj g v hj=>?_⟩
 . rw [Ao];exact List.nodup_append.mpr ⟨h.nd,by simp,λx hx y hy=>by rw [List.mem_singleton.mp hy]; intro z; have z2:x=f:=z; rw [z2] at hx; exact hf hx⟩
 . by_cases hlt:j<A.length
   . rw [Aq hlt] at hj;obtain ⟨h1,h2⟩:=h.ok j g v hj;refine ⟨h1,h2.imp id ?_⟩;rintro ⟨g',i,v',hi,hA,hg⟩;exact ⟨g',i,v',hi,by rw [Aq (by omega)]; exact hA,hg⟩
   . have hj2:j=A.length:=by
       have:=(Ad.mp hj).1
       rw [Ag] at this;have:j<A.length+1:=this
       omega
     subst hj2;rw [Ar (Ah _),Ei] at hj;cases hj;refine ⟨hc,?_⟩;rcases reach_mem.mp hw with e | ⟨g',hg',hm⟩
     . exact .inl e
     . obtain ⟨x,hx,rfl⟩:=Be.mp hg';obtain ⟨i,hi,ei⟩:=By.mp hx;exact .inr ⟨x.1,i,x.2,hi,by rw [Aq hi,Aa hi,ei],oB ndm hm⟩
structure Asked (ch:Wt->List Nat) (m:List (Wt×Nat)) (first:Wt) (A:List (Nat×Wt)):Prop extends Asking ch m first A where
 all1:∀ f∈ch first,f∈A.map (·.1)
 all:∀ w g,(w,g)∈m->g∈A.map (·.1)->∀ f∈ch w,f∈A.map (·.1)
def Asking.done {ch:Wt->List Nat} {m:List (Wt×Nat)} {first:Wt} {A:List (Nat×Wt)} (h:Asking ch m first A) (hc:∀ w∈cE m first A,∀ f∈ch w,f∈A.map (·.1)):Asked ch m first A :=
 ⟨h,hc first (reach_mem.mpr (.inl rfl)),λw g hm hg=>hc w (reach_mem.mpr (.inr ⟨g,hg,hm⟩))⟩
def bQ9 (m:List (Wt×Nat)) (w:Wt) (f:Nat):List (Wt×Nat):=if (eM m w).isSome=true then m.map λx=>if x.1=w then (x.1,f) else x else m++[(w,f)]
def bJG {m:List (Wt×Nat)} {w v:Wt} {f:Nat}:eM (m.map λx=>if x.1=w then (x.1,f) else x) v=(eM m v).map λg=>if v=w then f else g:=by
 induction m with
 | nil=>rfl
 | cons x m ih=>
   rw [Au,fX,fX,ih];by_cases e:x.1=w
   . rw [if_pos e];by_cases e2:x.1=v
     . rw [if_pos e2,if_pos e2,Ep,if_pos (e2.symm.trans e)]
     . rw [if_neg e2,if_neg e2]
   . rw [if_neg e];by_cases e2:x.1=v
     . rw [if_pos e2,if_pos e2,Ep,if_neg (λz=>e (e2.trans z))]
     . rw [if_neg e2,if_neg e2]
def keys_map {m:List (Wt×Nat)} {w:Wt} {f:Nat}:(m.map λx=>if x.1=w then (x.1,f) else x).map (·.1)=m.map (·.1):=by
 rw [Cc];refine Cw λx _=>?_;show (if x.1=w then (x.1,f) else x).1=x.1
 by_cases e:x.1=w
 . rw [if_pos e]
 . rw [if_neg e]
def eQG {m:List (Wt×Nat)} {w:Wt} {f g:Nat} (nd:(m.map (·.1)).Nodup) (h:eM m w=some g) (c:Nat) :
   ctm (m.map λx=>if x.1=w then (x.1,f) else x) c+(if c=g then 1 else 0)=ctm m c+(if c=f then 1 else 0):=by
 induction m with
 | nil=>cases h
 | cons x m ih=>
   rw [Au,Cf] at nd;rw [fX] at h;unfold ctm at ih ⊢;rw [Au,Dr,Dr];by_cases e:x.1=w
   . rw [if_pos e] at h;cases h;have hm:(m.map λx=>if x.1=w then (x.1,f) else x)=m:=by
       refine (Cw λy hy=>?_).trans (List.map_id _);show (if y.1=w then (y.1,f) else y)=y
       rw [if_neg (λz=>nd.1 (by rw [e,<-z]; exact Be.mpr ⟨y,hy,rfl⟩))]
     rw [if_pos e,hm];have e1:(decide ((x.1,f).2=c)=true)=(c=f):=by rw [Bj]; exact propext ⟨λz=>z.symm,λz=>z.symm⟩
     have e2:(decide (x.2=c)=true)=(c=x.2):=by rw [Bj]; exact propext ⟨λz=>z.symm,λz=>z.symm⟩
     simp only [e1,e2];omega
   . rw [if_neg e] at h;rw [if_neg e];have r:=ih nd.2 h
     omega
structure Along (ch:Wt->List Nat) (m0:List (Wt×Nat)) (A:List (Nat×Wt)) (f0:Nat) (m:List (Wt×Nat)) (c j:Nat) (w:Wt):Prop where
 keys:m.map (·.1)=m0.map (·.1)
 ok:∀ v f,(v,f)∈m->f∈ch v
 ct:∀ f,ctm m f+(if f=c then 1 else 0)=ctm m0 f+(if f=f0 then 1 else 0)
 at_:A[j]?=some (c,w)
 same:∀ v g i u,eM m0 v=some g->A[i]?=some (g,u)->i<j->eM m v=some g
def cX9 {A:List (Nat×Wt)} (nd:(A.map (·.1)).Nodup) {i j g:Nat} {u v:Wt} (hi:A[i]?=some (g,u)) (hj:A[j]?=some (g,v)):i=j:=by
 obtain ⟨h1,e1⟩:=Ad.mp hi;obtain ⟨h2,e2⟩:=Ad.mp hj;refine (Gf (h₀:=by rw [Ab]; exact h1) (h₁:=by rw [Ab]; exact h2) nd).mp ?_
 rw [Hj,Hj,e1,e2]
def Along.step {ch:Wt->List Nat} {m0 m:List (Wt×Nat)} {A:List (Nat×Wt)} {f0 c j g i:Nat} {first w v:Wt} (ha:Asking ch m0 first A) (nd0:(m0.map (·.1)).Nodup) (h:Along ch m0 A f0 m c j w) (hg:eM m0 w=some g) (hi:A[i]?=some (g,v)) (hij:i<j) :
   eM m w=some g/\Along ch m0 A f0 (m.map λx=>if x.1=w then (x.1,c) else x) g i v:=by
 have nd:(m.map (·.1)).Nodup:=by rw [h.keys]; exact nd0
 have hw:=h.same w g i v hg hi hij
 refine ⟨hw,keys_map.trans h.keys,λu f hu=>?_,λf=>?_,hi,λu g' i' u' h1 h2 h3=>?_⟩
 . obtain ⟨x,hx,e⟩:=Be.mp hu;by_cases ex:x.1=w
   . rw [if_pos ex] at e;cases e;rw [ex];exact (ha.ok j c w h.at_).1
   . rw [if_neg ex] at e;exact h.ok u f (e ▸ hx)
 . have r1:=eQG (f:=c) nd hw f
   have r2:=h.ct f
   omega
 . rw [bJG,h.same u g' i' u' h1 h2 (by omega),Ep]
   by_cases e:u=w
   . subst e;rw [hg] at h1;cases h1;exact absurd (cX9 ha.nd hi h2) (by omega)
   . rw [if_neg e]
def Along.last {ch:Wt->List Nat} {m0 m:List (Wt×Nat)} {A:List (Nat×Wt)} {f0 c j:Nat} {first:Wt} (ha:Asking ch m0 first A) (hf:first ∉ m0.map (·.1)) (h:Along ch m0 A f0 m c j first) :
   eM m first=none/\(m++[(first,c)]).map (·.1)=m0.map (·.1)++[first]/\(∀ v f,(v,f)∈m++[(first,c)]->f∈ch v)/\∀ f,ctm (m++[(first,c)]) f=ctm m0 f+(if f=f0 then 1 else 0):=by
 refine ⟨hget_none.mpr (by rw [h.keys]; exact hf),by rw [Ao,h.keys]; rfl,λv f hv=>?_,λf=>?_⟩
 . rcases Bl.mp hv with e | e
   . exact h.ok v f e
   . cases Aj.mp e;exact (ha.ok j c first h.at_).1
 . have r:=h.ct f
   unfold ctm at r ⊢;rw [List.countP_append];have e:List.countP (λx:Wt×Nat=>decide (x.2=f)) [(first,c)]=if f=c then 1 else 0:=by
     rw [List.countP_singleton];by_cases z:f=c
     . rw [if_pos z,if_pos (An z.symm)]
     . rw [if_neg z,if_neg (by rw [Bj]; exact λy=>z y.symm)]
   rw [e];exact r
def kL (m:List (Wt×Nat)) (first:Wt) (A:List (Nat×Wt)) (wl:List Wt):List Wt:=wl.filter λw=>decide (w=first) || (match eM m w with | some g=>decide (g∈A.map (·.1)) | none=>false)
def kF (m:List (Wt×Nat)) (first:Wt) (A:List (Nat×Wt)) (w:Wt):Bool:=decide (w=first) || (match eM m w with | some g=>decide (g∈A.map (·.1)) | none=>false)
def xU {m:List (Wt×Nat)} {first w:Wt} {A:List (Nat×Wt)} (h:w=first):kF m first A w=true:=by
 unfold kF;rw [An h,Bool.true_or]
def sK {m:List (Wt×Nat)} {first w:Wt} {A:List (Nat×Wt)} (h:w≠first) (e:eM m w=none):kF m first A w=false:=by
 unfold kF;rw [Ax h,e];rfl
def qW {m:List (Wt×Nat)} {first w:Wt} {A:List (Nat×Wt)} {g:Nat} (h:w≠first) (e:eM m w=some g):kF m first A w=decide (g∈A.map (·.1)):=by
 unfold kF;rw [Ax h,e,Bool.false_or]
def sT {m:List (Wt×Nat)} {first:Wt} {A:List (Nat×Wt)} {ws:List Wt} {w:Wt}:kL m first A (ws++[w])=kL m first A ws++if kF m first A w=true then [w] else []:=by
 have e:∀ l,kL m first A l=l.filter (kF m first A):=λl=>rfl
 rw [e,e,Fk,Gh];rfl
def lackW_mem {m:List (Wt×Nat)} {first w:Wt} {A:List (Nat×Wt)} {ws:List Wt}:w∈kL m first A ws ↔ w∈ws/\kF m first A w=true:=by
 have e:∀ l,kL m first A l=l.filter (kF m first A):=λl=>rfl
 rw [e,Dx]
def bJX {m:List (Wt×Nat)} {first:Wt} {A:List (Nat×Wt)} {l r:List Wt} (hk:m.map (·.1)=l) (nd:(l++first::r).Nodup):(kL m first A (l++first::r)).length=1+m.countP (λx=>decide (x.2∈A.map (·.1))):=by
 have hl:(m.map (·.1)).Nodup:=by rw [hk]; exact (Dv.mp nd).1
 have hfl:first ∉ l:=λz=>(Dv.mp nd).2.2 first z first Am rfl
 have hfr:first ∉ r:=(Cf.mp (Dv.mp nd).2.1).1
 have hrl:∀ w ∈ r,w ∉ l:=λw hw z=>(Dv.mp nd).2.2 w z w (Ak _ hw) rfl
 unfold kL;rw [Fk,Ag,Gh,if_pos (by rw [An rfl]; rfl),Aw]
 have er:r.filter (λw=>decide (w=first) || (match eM m w with | some g=>decide (g∈A.map (·.1)) | none=>false))=[]:=by
   refine List.filter_eq_nil_iff.mpr λw hw=>?_;have e:eM m w=none:=hget_none.mpr (by rw [hk]; exact hrl w hw)
   rw [Ax (show ¬ w=first from λz=>by rw [z] at hw; exact hfr hw),e,Bool.false_or]
   exact Ap
 have el:(l.filter (λw=>decide (w=first) || (match eM m w with | some g=>decide (g∈A.map (·.1)) | none=>false))).length=m.countP (λx=>decide (x.2∈A.map (·.1))):=by
   rw [<-hk,List.filter_map,Ab,<-Fn];refine List.countP_congr λx hx=>?_;show (decide (x.1=first) || (match eM m x.1 with | some g=>decide (g∈A.map (·.1)) | none=>false))=true ↔ _
   rw [oB hl (w:=x.1) (f:=x.2) hx,Ax (λz=>hfl (by rw [<-z,<-hk]; exact Be.mpr ⟨x,hx,rfl⟩)),Bool.false_or]
 rw [er,el,List.length_nil];omega
def dJH (m:List (Wt×Nat)):∀ {fs:List Nat},fs.Nodup->m.countP (λx=>decide (x.2∈fs))=(fs.map (ctm m)).sum:=fun {fs} nd=>by
 rw [<-sP m nd];induction fs with
 | nil=>rfl
 | cons f fs ih=>rw [Fz,Ag,aQ4,Au,Cj,ih (Cf.mp nd).2]
def nX (cws:List (List Nat)) (k:Nat):List Wt:=(List.range (cws.getD k []).length).map λj=>(k,1+j)
def wlP (cws:List (List Nat)) (i:Nat):List Wt:=(List.range i).flatMap (nX cws)
def wl (cws:List (List Nat)):List Wt:=wlP cws cws.length
def wV (w:Wt):List V:=[.int (w.1:Int),.int (w.2:Int)]
def eJU (w:Wt):wV w=(dN w).map kV:=rfl
def kX (cws:Q5) (i:Nat):wlP cws (i+1)=wlP cws i++nX cws i:=by
 unfold wlP;rw [Bx,Fb];simp
def rW (cws:Q5):∀ i,lE cws i=(wlP cws i).map wV
 | 0=>rfl
 | i+1=>by
   rw [iJ,kX,Ao,rW cws i];congr 1
   unfold zC nX;rw [Cc];refine Cw λj _=>?_;show [V.int ((i:Nat):Int),V.int (1+(j:Int))]=[V.int ((i:Nat):Int),V.int ((1+j:Nat):Int)]
   rw [show ((1+j:Nat):Int)=1+(j:Int) by omega]
def wlP_mem {cws:Q5} {w:Wt}:∀ {i:Nat},w∈wlP cws i ↔ w.1<i/\1<=w.2/\w.2<=(cws.getD w.1 []).length:=fun {i}=>by
 unfold wlP nX;rw [Hi];constructor
 . rintro ⟨k,hk,h⟩;obtain ⟨j,hj,rfl⟩:=Be.mp h;have:=Bw.mp hk
   have:=Bw.mp hj
   exact ⟨by omega,by show 1<=1+j; omega,by show 1+j<=(cws.getD k []).length; omega⟩
 . rintro ⟨h1,h2,h3⟩;refine ⟨w.1,Bw.mpr h1,Be.mpr ⟨w.2 - 1,Bw.mpr (by omega),?_⟩⟩
   exact Prod.ext rfl (by show 1+(w.2 - 1)=w.2; omega)
def oN (cws:Q5):∀ i,(wlP cws i).Nodup
 | 0=>List.nodup_nil
 | i+1=>by
   rw [kX];refine Dv.mpr ⟨oN cws i,?_,λa ha b hb e=>?_⟩
   . unfold nX;exact List.Pairwise.map _ (λa b h=>λz=>h (by have:=Dt Prod.snd z; have e:1+a=1+b:=this; omega)) List.nodup_range
   . subst e;have h1:=(wlP_mem.mp ha).1
     unfold nX at hb;obtain ⟨j,_,rfl⟩:=Be.mp hb;exact absurd h1 (Eb _)
def aZ7 {cws:Q5} (h7:∀ c∈cws,c.length<=7) (i:Nat):(wlP cws i).length<=7 * i:=by
 have:=nH h7 i
 rw [rW,Ab] at this;exact this
def chW (cws:List (List Nat)) (w:Wt):List Nat:=chs (cws.getD w.1 []) (w.2 - 1)
def eQ (ws:List Wt) (ds:List Addr):List (List Key×V):=List.zipWith (λw d=>(dN w,V.ref d)) ws ds
def eXN (H:Hp) (r:Addr) (cws:List (List Nat)) (i:Nat):Prop:=∃ ds:List Addr,ds.length=i/\H r=some (.dT (eQ ((wl cws).take i) ds))/\∀ (j:Nat) w d,j<i->(wl cws)[j]?=some w->ds[j]?=some d->H d=some (.lst (((chW cws w).map one).map V.str))
def aJ2 {ws:List Wt} {ds:List Addr} (nd:ws.Nodup) (hl:ds.length=ws.length) {j:Nat} {w:Wt} {d:Addr} (hw:ws[j]?=some w) (hd:ds[j]?=some d):bW (eQ ws ds) (dN w)=some (.ref d):=by
 induction ws generalizing ds j with
 | nil=>cases hw
 | cons x ws ih=>
   cases ds with
   | nil=>cases hl
   | cons e ds=>
     show bW ((dN x,V.ref e)::eQ ws ds) _=_
     cases j with
     | zero=>cases hw; cases hd; exact cB rfl
     | succ j=>
       have hm:=Al (show ws[j]?=some w from hw)
       rw [bT (λz=>(Cf.mp nd).1 (by rw [nU z]; exact hm))]
       exact ih (List.nodup_cons.mp nd).2 (by simpa using hl) hw hd
def aXL {ws:List Wt} {ds:List Addr} {w:Wt} (h:w ∉ ws):bW (eQ ws ds) (dN w)=none:=by
 induction ws generalizing ds with
 | nil=>rfl
 | cons x ws ih=>
   cases ds with
   | nil=>rfl
   | cons e ds=>
     show bW ((dN x,V.ref e)::eQ ws ds) _=_
     rw [bT (λz=>h (by rw [nU z]; exact Am))]
     exact ih λz=>h (Ak _ z)
def uT {ws:List Wt} {ds:List Addr} (hl:ds.length=ws.length):(eQ ws ds).length=ws.length:=by
 unfold eQ;rw [List.length_zipWith];omega
def aQI {ws:List Wt} {ds:List Addr} {w:Wt} {d:Addr} (hl:ds.length=ws.length):eQ (ws++[w]) (ds++[d])=eQ ws ds++[(dN w,V.ref d)]:=by
 unfold eQ;rw [List.zipWith_append (by omega)]
 rfl
def mF:Sp:=λvs H Q _=>∃ (a:Addr) (cws:List (List Nat)),vs=[.ref a]/\rdL H a=some ((cws.map aU).map V.str)/\cws.length<=8/\(∀ c∈cws,c.length<=7)/\
 ∀ (r:Addr) (H':Hp),H r=none->Same H H'->eXN H' r cws (wl cws).length->Q (.ref r) H'
def sc_choices_of:FnScope ["words", "choices", "want"] ["words"] (aF eE):=by walk_at "sc"
def tB {Zt Zz Zu Zx Z0 Zw Zy Zv:Addr} {f:Addr} {fd:FuncData} (F:Fun K "choices_of" "choices_of" eE f fd) (G:Gs K mg w Zt Zz Zu Zx Z0 Zw Zy Zv) (c_wants_of:Cal P w K mg base 1 "wants_of" ["words"] pN) (c_choices_at:Cal P w K mg base 1 "choices_at" ["word", "place"] mH):FnOk P w K mg base CX0 2 f fd ["words"] mF:=by
 refine F.ok sc_choices_of (λvs H Q E h=>?_) (λcdv A outer s H vs Q E hr h=>?_)
 . obtain ⟨a,cws,rfl,_⟩:=h; rfl
 obtain ⟨a,cws,rfl,ha,h8,h7,q⟩:=h;refine ⟨_,(@aE _ _ _ _ _ (@aP _ _ 1 _ _ _ _ sc_choices_of.nd (by rfl) (by exact (Or.inl rfl)) zL (by rfl) (by walk_at "o")) (@aE _ _ _ _ _ (cR Br rfl (cL (aW c_wants_of hr (by decide) rfl (aA (mv 0) aB))) (aY (i:=2) sc_choices_of.nd rfl (Or.inl rfl)) (@aI _ _ _ (iI (Room.u1 hr) (mv 1) (mv 2) (aW c_choices_at hr (by decide) rfl (aA (bK cF (mv 0) (bK cF (mv 2) aJ (λ_ _=>rfl)) (λ_ _=>rfl)) (aA (bK cF (mv 2) aJ (λ_ _=>rfl)) aB))) rfl))) (@aI _ _ _ (aV (mv 1))))),?_⟩
 walk_at "go";intro pc hpc;walk_at "go";refine ⟨a,cws,rfl,aK (aG hpc _) ha,h8,h7,λr ps H1 hr s1 e1 tp=>?_⟩;have s01:=(aG hpc (.dT [])).trans s1
 have ec1:=s1 _ _ (aD (H:=H) (a:=pc) (o:=.dT []))
 have hlw:(wl cws).length<=56:=Bg (aZ7 h7 _) (by omega)
 rw [rW] at tp;have hpl:ps.length=(wl cws).length:=by rw [tp.1,Ab]; rfl
 have hpm:(ps.map V.ref).length=(wl cws).length:=by rw [Ab,hpl]
 have tat:∀ (j:Nat) p w,ps[j]?=some p->(wl cws)[j]?=some w->H1 p=some (.tup (wV w)):=λj p w hp hw=>(tp.2 j p _ hp (by rw [Af]; exact Dt (Option.map wV) hw)).2
 have r1:=aT e1
 have hcr:pc≠r:=λz=>by rw [<-z,aD] at hr; cases hr
 walk_at "go";refine iO (xs:=ps.map V.ref) (λi σ H'=>∃ (v:Option V),σ=[some (.ref a),some (.ref pc),v]/\Same H H'/\(∀ b u,b≠pc->H1 b=some u->H' b=some u)/\eXN H' pc cws i)
   ⟨_,rfl,s01,λb u _ h=>h,[],rfl,ec1,λj w d hj=>absurd hj (Fm _)⟩ (λi σ H' _ ⟨_,_,_,k,_⟩=>aT (k _ _ (Ne.symm hcr) e1)) ?_ ?_
 . rintro i x σ H2 hx ⟨v,rfl,s2,k2,ds,dl,ed,hds⟩;rw [Af] at hx;cases e:ps[i]? with
   | none=>rw [e] at hx; cases hx
   | some p=>
     rw [e] at hx;cases hx;have hi:i<(wl cws).length:=by rw [<-hpl]; exact (Ad.mp e).1
     have ew:(wl cws)[i]?=some (wl cws)[i]:=Aa hi
     have hm:=wlP_mem.mp (Bq hi)
     have htp1:=tat i p _ e ew
     have hpne:p≠pc:=λz=>by rw [z,ec1] at htp1; cases htp1
     have ht:=k2 _ _ hpne htp1
     have hnew:(wl cws)[i] ∉ (wl cws).take i:=λz=>by
       obtain ⟨j,hj,ej⟩:=By.mp z;rw [Bt] at hj;rw [List.getElem_take] at ej;have:=(Gf (oN cws cws.length)).mp ej
       omega
     have htk:(wl cws).take (i+1)=(wl cws).take i++[(wl cws)[i]]:=by rw [Bd,ew]; rfl
     generalize hw:(wl cws)[i]=w at hm ht hnew htk ew;obtain ⟨h1,h2,h3⟩:=hm;have ecw:cws[w.1]?=some (cws.getD w.1 []):=by rw [Ac,Aa h1]; rfl
     have h7w:=h7 _ (Al ecw)
     have ha2:=aK s2 ha
     walk_at "go";refine dS ht (v:=.int (w.1:Int)) rfl ?_;walk_at "go";refine fO ha2 (v:=.str (aU (cws.getD w.1 []))) (bJ (by rw [Af,Af,ecw]; rfl)) ?_
     walk_at "go";refine dS ht (v:=.int (w.2:Int)) rfl ?_;walk_at "go";refine ⟨cws.getD w.1 [],w.2 - 1,_,rfl,by omega,by omega,h7w,λd H3 hd s3 e3=>?_⟩
     walk_at "go";have dl2:ds.length=((wl cws).take i).length:=by rw [dl,Bt]; omega
     refine xF (k:=dN w) (s3 _ _ ed) (s3 _ _ ht) (bG (by rw [uT dl2,Bt]; omega)) ?_
     have hdp:d≠pc:=λz=>by rw [z,ed] at hd; cases hd
     refine ⟨_,rfl,bI hpc (s2.trans s3),λb u hb hu=>by rw [aH hb]; exact s3 _ _ (k2 b u hb hu),ds++[d],by rw [Ag,dl]; rfl,?_,λj v' d' hj hv hd'=>?_⟩
     . rw [aD,kT _ (aXL hnew),htk,aQI dl2]
     . by_cases hjl:j<i
       . rw [Aq (by omega)] at hd'
         have hold:=hds j v' d' hjl hv hd'
         rw [aH (λz=>by rw [z,ed] at hold; cases hold)]
         exact s3 _ _ hold
       . have hj2:j=i:=by omega
         subst hj2;rw [ew] at hv;cases hv;rw [Ar (by omega),dl,Ei] at hd'
         cases hd';rw [aH hdp];exact e3
 . rintro σ H2 ⟨v,rfl,s2,k2,hch⟩;rw [hpm] at hch;walk_at "go";exact q pc H2 hpc s2 hch
def iF (m:List (Wt×Nat)):List (List Key×V):=m.map λx=>(dN x.1,V.str (one x.2))
def kS (m:List (Wt×Nat)) (w:Wt):bW (iF m) (dN w)=(eM m w).map λf=>V.str (one f):=by
 induction m with
 | nil=>rfl
 | cons x m ih=>
   show bW ((dN x.1,V.str (one x.2))::iF m) _=_
   rw [fX];by_cases e:x.1=w
   . rw [if_pos e,cB (by show dN x.1=dN w; rw [e])]
     rfl
   . rw [if_neg e,bT (λz=>e (nU z)),ih]
def gK (A:List (Nat×Wt)) (bs:List Addr):List (Key×V):=List.zipWith (λx b=>(Sum.inr (one x.1),V.ref b)) A bs
def lP {A:List (Nat×Wt)} {bs:List Addr} (hl:bs.length=A.length) (f:Nat):(bW (gK A bs) (Sum.inr (one f))).isSome=decide (f∈A.map (·.1)):=by
 induction A generalizing bs with
 | nil=>rfl
 | cons x A ih=>
   cases bs with
   | nil=>cases hl
   | cons b bs=>
     show (bW ((Sum.inr (one x.1),V.ref b)::gK A bs) _).isSome=_
     by_cases e:x.1=f
     . rw [cB (by show (Sum.inr (one x.1):Key)=Sum.inr (one f); rw [e]),An (by rw [<-e]; exact Am)]
       rfl
     . rw [bT (λz=>e (key_one.mp z)),ih (by simpa using hl)]
       exact Dh.mpr ⟨λz=>Ak _ z,λz=>(Ay.mp z).resolve_left λy=>e y.symm⟩
def bXL {A:List (Nat×Wt)} {bs:List Addr} (hl:bs.length=A.length) {f:Nat} (h:f ∉ A.map (·.1)):bW (gK A bs) (Sum.inr (one f))=none:=by
 have r:=lP hl f
 rw [Ax h] at r;cases e:bW (gK A bs) (Sum.inr (one f)) with
 | none=>rfl
 | some v=>rw [e] at r; cases r
def bQU {A:List (Nat×Wt)} {bs:List Addr} {x:Nat×Wt} {b:Addr} (hl:bs.length=A.length):gK (A++[x]) (bs++[b])=gK A bs++[(Sum.inr (one x.1),V.ref b)]:=by
 unfold gK;rw [List.zipWith_append (by omega)]
 rfl
def rL {A:List (Nat×Wt)} {bs:List Addr} (hl:bs.length=A.length):(gK A bs).length=A.length:=by
 unfold gK;rw [List.length_zipWith];omega
def cQV {A:List (Nat×Wt)} {bs:List Addr} (nd:(A.map (·.1)).Nodup) (hl:bs.length=A.length) {j f:Nat} {w:Wt} {b:Addr} (hA:A[j]?=some (f,w)) (hb:bs[j]?=some b):bW (gK A bs) (Sum.inr (one f))=some (.ref b):=by
 induction A generalizing bs j with
 | nil=>cases hA
 | cons x A ih=>
   cases bs with
   | nil=>cases hl
   | cons e bs=>
     show bW ((Sum.inr (one x.1),V.ref e)::gK A bs) _=_
     rw [Au,Cf] at nd;cases j with
     | zero=>cases hA; cases hb; exact cB rfl
     | succ j=>
       have hm:f∈A.map (·.1):=Be.mpr ⟨(f,w),Al (show A[j]?=some (f,w) from hA),rfl⟩
       rw [bT (λz=>nd.1 (by rw [key_one.mp z]; exact hm))]
       exact ih nd.2 (by simpa using hl) hA hb
def WtsAt (H:Hp) (rs:List Addr) (ws:List Wt):Prop:=rs.length=ws.length/\∀ (j:Nat) r w,rs[j]?=some r->ws[j]?=some w->H r=some (.tup (wV w))
def WtsAt.keep {H H':Hp} {rs:List Addr} {ws:List Wt} (h:WtsAt H rs ws) (k:∀ r w,H r=some (.tup (wV w))->H' r=some (.tup (wV w))):WtsAt H' rs ws:=⟨h.1,λj r w hr hw=>k _ _ (h.2 j r w hr hw)⟩
def WtsAt.app {H:Hp} {rs qs:List Addr} {ws vs:List Wt} (h:WtsAt H rs ws) (g:WtsAt H qs vs):WtsAt H (rs++qs) (ws++vs):=by
 refine ⟨by rw [Ag,Ag,h.1,g.1],λj r w hr hw=>?_⟩
 by_cases hj:j<rs.length
 . rw [Aq hj] at hr;rw [Aq (by rw [<-h.1]; exact hj)] at hw
   exact h.2 j r w hr hw
 . rw [Ar (by omega)] at hr
   rw [Ar (by rw [<-h.1]; omega),<-h.1] at hw
   exact g.2 _ r w hr hw
def WtsAt.one {H:Hp} {r:Addr} {w:Wt} (h:H r=some (.tup (wV w))):WtsAt H [r] [w]:=⟨rfl,λj q v hq hv=>by
 cases j with
 | zero=>cases hq; cases hv; exact h
 | succ j=>cases hq⟩
def ChRd (H:Hp) (r:Addr) (cws:List (List Nat)):Prop:=∃ ds:List Addr,ds.length=(wl cws).length/\Rd H r (.dT (eQ (wl cws) ds))/\∀ (j:Nat) w d,(wl cws)[j]?=some w->ds[j]?=some d->H d=some (.lst (((chW cws w).map one).map V.str))
def ChRd.keep {H H':Hp} {r:Addr} {cws:Q5} (h:ChRd H r cws) (s:Same H H'):ChRd H' r cws:=by
 obtain ⟨ds,h1,h2,h3⟩:=h;exact ⟨ds,h1,h2.elim (λe=>.inl (s _ _ e)) λ⟨o,e⟩=>.inr ⟨o,s _ _ e⟩,λj w d hw hd=>s _ _ (h3 j w d hw hd)⟩
structure HungOk (cws:List (List Nat)) (m:List (Wt×Nat)):Prop where
 nd:(m.map (·.1)).Nodup
 sub:∀ x∈m,x.1∈wl cws
def cXP {cws:Q5} (hL:∀ c∈cws,c.length<=7/\∀ d∈c,aQ d) {w:Wt} (hw:w∈wl cws) {f:Nat} (hf:f∈chW cws w):oV f:=by
 obtain ⟨h1,h2,h3⟩:=wlP_mem.mp hw;have ecw:cws[w.1]?=some (cws.getD w.1 []):=by rw [Ac,Aa h1]; rfl
 rcases ch_iff.mp hf with e | ⟨n,_,h4,_,e⟩
 . rw [e];exact .inl (lB (hL _ (Al ecw)).2 (by omega))
 . rw [e];exact .inr ⟨by omega,by omega⟩
def bJU {cws:Q5} {m:List (Wt×Nat)} {first:Wt} {A:List (Nat×Wt)} (hm:HungOk cws m) (hfw:first∈wl cws) (h:Asking (chW cws) m first A) {j f:Nat} {w:Wt} (hj:A[j]?=some (f,w)):w∈wl cws:=by
 rcases (h.ok j f w hj).2 with e | ⟨g,i,v,_,_,hg⟩
 . rw [e]; exact hfw
 . exact hm.sub _ (zQ hg)
def aZX {cws:Q5} {m:List (Wt×Nat)} {first:Wt} {A:List (Nat×Wt)} (hm:HungOk cws m) (hfw:first∈wl cws) (hL:∀ c∈cws,c.length<=7/\∀ d∈c,aQ d) (h:Asking (chW cws) m first A):A.length<=27:=by
 have r:=wD (m:=flagsT.cps.toList) h.nd λf hf=>by
   obtain ⟨x,hx,rfl⟩:=Be.mp hf;obtain ⟨j,hj,e⟩:=By.mp hx;have hj2:A[j]?=some (x.1,x.2):=by rw [Aa hj,e]
   exact flags_mem.mpr (cXP hL (bJU hm hfw h hj2) (h.ok j _ _ hj2).1)
 rw [Ab] at r;exact r
def lZ:Sp:=λvs H Q _=>∃ (bf ac ah:Addr) (cws:List (List Nat)) (m:List (Wt×Nat)) (first:Wt),vs=[.ref bf,.ref ac,.ref ah]/\H bf=some (.tup (wV first))/\first∈wl cws/\ChRd H ac cws/\H ah=some (.dT (iF m))/\HungOk cws m/\m.length<=56/\cws.length<=8/\(∀ c∈cws,c.length<=7/\∀ d∈c,aQ d)/\
 ∀ (r:Addr) (A:List (Nat×Wt)) (bs:List Addr) (H':Hp),H r=none->Same H H'->H' r=some (.dK (gK A bs))->WtsAt H' bs (A.map (·.2))->Asked (chW cws) m first A->Q (.ref r) H'
def sc_asked_from:FnScope ["first", "choices", "hung", "asked", "reached", "at", "asking", "flag"] ["first", "choices", "hung"] (aF dA):=by walk_at "sc"
def tG {Zt Zz Zu Zx Z0 Zw Zy Zv:Addr} {f:Addr} {fd:FuncData} (F:Fun K "asked_from" "asked_from" dA f fd) (G:Gs K mg w Zt Zz Zu Zx Z0 Zw Zy Zv)  : FnOk P w K mg base CX0 1 f fd ["first", "choices", "hung"] lZ:=by
 refine F.ok sc_asked_from (λvs H Q E h=>?_) (λcdv A outer s H vs Q E hr h=>?_)
 . obtain ⟨bf,ac,ah,cws,m,first,rfl,_⟩:=h; rfl
 obtain ⟨bf,ac,ah,cws,m,first,rfl,hbf,hfw,hch,hah,hm,hml,h8,hL,q⟩:=h
 refine ⟨_,(@aE _ _ _ _ _ (@aP _ _ 3 _ _ _ _ sc_asked_from.nd (by rfl) (by exact (Or.inl rfl)) rV (by rfl) (by walk_at "o")) (@aE _ _ _ _ _ (@aP _ _ 4 _ _ _ _ sc_asked_from.nd (by rfl) (by exact (Or.inl rfl)) (bV (aA (mv 0) aB)) (by rfl) (by walk_at "o")) (@aE _ _ _ _ _ (@aP _ _ 5 _ _ _ _ sc_asked_from.nd (by rfl) (by exact (Or.inl rfl)) aJ (by rfl) (by walk_at "o")) (@aE _ _ _ _ _ (zN Br (bA aQJ (mv 5) (bC eV rfl G.b_len cM (aA (mv 4) aB)) (bE _)) (@aE _ _ _ _ _ (@aP _ _ 6 _ _ _ _ sc_asked_from.nd (by rfl) (by exact (Or.inl rfl)) (bK cF (mv 4) (mv 5) (λ_ _=>rfl)) (by rfl) (by walk_at "o")) (@aE _ _ _ _ _ (cR Br rfl (cL (kB (Room.u1 hr) (mv 1) (mv 6) (λ_ _=>rfl))) (aY (i:=7) sc_asked_from.nd rfl (Or.inr rfl)) (@aI _ _ _ (cG (bA (bZ1 (Room.u1 hr)) (mv 7) (mv 3) (by rfl)) (@aE _ _ _ _ _ (iI (Room.u1 hr) (mv 3) (mv 7) (mv 6) rfl) (@aI _ _ _ (cD (dB Bu Ec Ed yM (mv 4) (aA (cQY (cT rfl (nM (mv 2)) (iK (N:=["want", "flag", "hung"]) ["first", "choices", "hung", "asked", "reached", "at", "asking", "flag"] (aF dA) [none,some 7,some 2] rfl rfl rfl (λx h=>cA h) (by decide +kernel)) (by decide +kernel) rfl (by decide +kernel) (λ_ _ _ _=>(aY (i:=0) (show List.Nodup (["want", "flag", "hung"]:List Str) by decide +kernel) rfl (Or.inl rfl))) (λ_ _ _ _=>(mV (bA mO (kB (Room.u1 hr) (mv 2) (mv 0) (λ_ _=>rfl)) (mv 1) (bE _)))) (λ_ _ _ _=>(mv 0)))) aB))))) bH))) (@aI _ _ _ (@aP _ _ 5 _ _ _ _ sc_asked_from.nd (by rfl) (by exact (Or.inl rfl)) (aR bS (mv 5) aJ) (by rfl) (by walk_at "o")))))) (@aI _ _ _ (aV (mv 3))))))),?_⟩
 walk_at "go";intro pa hpa;walk_at "go";refine ⟨by show 1<=sizeLine; decide,λpr hpr=>?_⟩
 have s1:=(aG hpa (.dK [])).trans (aG hpr (.lst [.ref bf]))
 have npr:pa≠pr:=λz=>by rw [<-z,aD] at hpr; cases hpr
 have ea1:(upd (upd H pa (.dK [])) pr (.lst [.ref bf])) pa=some (.dK []):=by rw [aH npr,aD]
 have er1:(upd (upd H pa (.dK [])) pr (.lst [.ref bf])) pr=_:=aD
 have hpr0:H pr=none:=none_of (aG hpa _) hpr
 generalize upd (upd H pa (.dK [])) pr (.lst [.ref bf])=H1 at s1 ea1 er1 ⊢;walk_at "go";refine ⟨λn σ H'=>∃ (A:List (Nat×Wt)) (bs rs:List Addr) (t:Nat) (v1 v2:Option V),σ=[some (.ref bf),some (.ref ac),some (.ref ah),some (.ref pa),some (.ref pr),some (.int (t:Int)),v1,v2]/\Same H H'/\H' pa=some (.dK (gK A bs))/\WtsAt H' bs (A.map (·.2))/\H' pr=some (.lst (rs.map V.ref))/\WtsAt H' rs (cE m first A)/\
     Asking (chW cws) m first A/\t<=(cE m first A).length/\(∀ (j:Nat) w,j<t->(cE m first A)[j]?=some w->∀ f∈chW cws w,f∈A.map (·.1))/\n=1+m.length - t,⟨_,[],[],[bf],0,_,_,rfl,s1,ea1,⟨rfl,λj r w hr=>(nomatch hr)⟩,er1,.one (s1 _ _ hbf),⟨List.nodup_nil,λj f w hj=>(nomatch hj)⟩,Cr _,λj w hj=>absurd hj (Fm _),rfl⟩,?_⟩
 rintro n σ H2 ⟨A,bs,rs,t,v1,v2,rfl,s2,ea2,wb2,er2,wr2,hask,htl,hcl,rfl⟩;have hrl:(rs.map V.ref).length=(cE m first A).length:=by rw [Ab,wr2.1]
 have rr2:=aT er2
 walk_at "go";rw [hrl];refine gJ (λhd=>?_) (λhd=>?_)
 . have hd':=Az hd
   have ht:t<(cE m first A).length:=by omega
   have hrm:=uR (m:=m) (first:=first) hask.nd
   have htr:t<rs.length:=by rw [wr2.1]; exact ht
   have ew:(cE m first A)[t]?=some (cE m first A)[t]:=Aa ht
   have er:rs[t]?=some rs[t]:=Aa htr
   have hwt:=wr2.2 t _ _ er ew
   have hww:(cE m first A)[t]∈wl cws:=by
     rcases reach_mem.mp (Bq ht) with e | ⟨f,_,hm2⟩
     . rw [e]; exact hfw
     . exact hm.sub _ hm2
   generalize hbw:rs[t]=b at hwt er;generalize hwe:(cE m first A)[t]=w at hwt hww ew
   clear hbw hwe hd hd';obtain ⟨ds,d1,d2,d3⟩:=id hch;obtain ⟨jw,hjw,ejw⟩:=By.mp hww;have ejw2:(wl cws)[jw]?=some w:=by rw [Aa hjw,ejw]
   have edw:ds[jw]?=some (ds[jw]'(by omega)):=Aa (by omega)
   have hdlH:=d3 jw w _ ejw2 edw
   have hdv:=aJ2 (oN cws cws.length) d1 ejw2 edw
   generalize (ds[jw]'(by omega))=dl at hdlH hdv
   have hdl:=s2 _ _ hdlH
   have d22:Rd H2 ac (.dT (eQ (wl cws) ds)):=d2.elim (λe=>.inl (s2 _ _ e)) λ⟨o,e⟩=>.inr ⟨o,s2 _ _ e⟩
   refine ⟨λσ' H'=>∃ (A:List (Nat×Wt)) (bs rs:List Addr) (v1 v2:Option V),σ'=[some (.ref bf),some (.ref ac),some (.ref ah),some (.ref pa),some (.ref pr),some (.int ((t+1:Nat):Int)),v1,v2]/\Same H H'/\H' pa=some (.dK (gK A bs))/\WtsAt H' bs (A.map (·.2))/\H' pr=some (.lst (rs.map V.ref))/\WtsAt H' rs (cE m first A)/\
     Asking (chW cws) m first A/\t+1<=(cE m first A).length/\(∀ (j:Nat) w,j<t+1->(cE m first A)[j]?=some w->∀ f∈chW cws w,f∈A.map (·.1)),?_,?_⟩
   . rintro σ' H' ⟨A',bs',rs',v1',v2',rfl,g1,g2,g3,g4,g5,g6,g7,g8⟩;exact ⟨1+m.length - (t+1),by omega,A',bs',rs',t+1,v1',v2',rfl,g1,g2,g3,g4,g5,g6,g7,g8,rfl⟩
   walk_at "go";refine fO rr2 (v:=.ref b) (bJ (by rw [Af,er]; rfl)) ?_
   walk_at "go";refine aXM (k:=dN w) d22 hwt hdv ?_;have rdl:=aT hdl
   have hcl5:=(cJL (cws.getD w.1 []) (w.2 - 1)).2
   have hcm:(((chW cws w).map one).map V.str).length=(chW cws w).length:=by rw [Ab,Ab]
   walk_at "go";have kt:∀ {H':Hp} {p:Addr} {u u':HO},H' p=some u->(∀ ws,u≠.tup ws)->∀ r w,H' r=some (.tup (wV w))->(upd H' p u') r=some (.tup (wV w)):=fun {H' p u u'} e ne r w h=>by
     rw [aH (λz=>by rw [z,e] at h; cases h; exact ne _ rfl)]
     exact h
   refine iO (xs:=((chW cws w).map one).map V.str) (λi σ H'=>∃ (A:List (Nat×Wt)) (bs rs:List Addr) (v2:Option V),σ=[some (.ref bf),some (.ref ac),some (.ref ah),some (.ref pa),some (.ref pr),some (.int (t:Int)),some (.ref b),v2]/\Same H H'/\H' pa=some (.dK (gK A bs))/\WtsAt H' bs (A.map (·.2))/\H' pr=some (.lst (rs.map V.ref))/\WtsAt H' rs (cE m first A)/\
       H' b=some (.tup (wV w))/\Asking (chW cws) m first A/\(cE m first A)[t]?=some w/\(∀ (j:Nat) v,j<t->(cE m first A)[j]?=some v->∀ f∈chW cws v,f∈A.map (·.1))/\∀ f∈(chW cws w).take i,f∈A.map (·.1))
     ⟨A,bs,rs,_,rfl,s2,ea2,wb2,er2,wr2,hwt,hask,ew,hcl,λf hf=>(nomatch hf)⟩ (λi σ H' _ ⟨_,_,_,_,_,e,_⟩=>aT (e _ _ hdlH)) ?_ ?_
   . clear hask ew hcl hrm htl hrl rr2 wr2 er2 wb2 ea2 er;rintro i x σ H3 hx ⟨A,bs,rs,v2,rfl,s3,ea,wb,er,wr,hb,hask,ew,hcl,hpre⟩;rw [Af,Af] at hx;cases ef:(chW cws w)[i]? with
     | none=>rw [ef] at hx; cases hx
     | some f=>
       rw [ef] at hx;cases hx;have hfc:=Al ef
       have htk:(chW cws w).take (i+1)=(chW cws w).take i++[f]:=by rw [Bd,ef]; rfl
       have hbl:bs.length=A.length:=by rw [wb.1,Ab]
       have hAl:=aZX hm hfw hL hask
       walk_at "go";refine dQX (neg:=true) (z:=one f) (.inl ea) ?_;rw [if_pos rfl,lP hbl];refine gJ (λhd=>?_) (λhd=>?_)
       . have hni:f ∉ A.map (·.1):=λz=>by rw [An z] at hd; cases hd
         walk_at "go";refine lK (z:=one f) ea (bG (by rw [rL hbl]; omega)) ?_
         rw [kT _ (bXL hbl hni),<-bQU (x:=(f,w)) hbl];have s4:Same H (upd H3 pa (.dK (gK (A++[(f,w)]) (bs++[b])))):=bI hpa s3
         have ea4:(upd H3 pa (.dK (gK (A++[(f,w)]) (bs++[b])))) pa=_:=aD
         have er4:(upd H3 pa (.dK (gK (A++[(f,w)]) (bs++[b])))) pr=_:=(aH (Ne.symm npr)).trans er
         have k4:=kt (u':=.dK (gK (A++[(f,w)]) (bs++[b]))) ea (λws z=>nomatch z)
         have wb4:=wb.keep k4
         have wr4:=wr.keep k4
         have hb4:=k4 _ _ hb
         generalize upd H3 pa (.dK (gK (A++[(f,w)]) (bs++[b])))=H4 at s4 ea4 er4 wb4 wr4 hb4 ⊢;have ah4:=s4 _ _ hah
         clear k4 wb wr er ea s3 hb;walk_at "go";refine xI ah4 λo=>?_;have fz:(upd H4 ah (.frz o (.dT (iF m)))) ah=_:=aD
         have hkl:(iF m).length=m.length:=by unfold iF; rw [Ab]
         refine jX (n:=m.length) (λD i ys Hc=>Same (upd H4 ah (.frz o (.dT (iF m)))) Hc/\∃ qs,ys=qs.map V.ref/\WtsAt Hc qs (eW (m.take i) f)) (bG (by omega)) (λD hD=>⟨aG hD _,[],rfl,rfl,λj r w hr=>(nomatch hr)⟩) (λD i ys Hc _ r h=>⟨r.1 _ _ fz,by omega⟩) (λD ys Hc _ r=>⟨r.1 _ _ fz,hkl⟩) ?_ ?_
         . rintro D i2 ys Hc x H' A' B' hD hi2 ⟨sm,qs,rfl,wq⟩ hDc ⟨rfl,kv,b2,hkv,rfl,hb2⟩ hA' hB';have em:m[i2]?=some m[i2]:=Aa hi2
           unfold iF at hkv;rw [Af,em] at hkv;cases hkv;have hbt:H' b2=some (.tup (wV m[i2].1)):=hb2
           have hv:bW (iF m) (dN m[i2].1)=some (.str (one m[i2].2)):=by
             rw [kS,oB hm.nd (w:=m[i2].1) (f:=m[i2].2) (Bq hi2)];rfl
           have tk:m.take (i2+1)=m.take i2++[m[i2]]:=by rw [Bd,em]; rfl
           rw [tk] at hA' hB';generalize m[i2]=x2 at hbt hv hA' hB';walk_at "go";refine ⟨Wk.set rfl (Wk.refl _),?_⟩;walk_at "go";refine aXM (k:=dN x2.1) (.inr ⟨o,sm _ _ fz⟩) hbt hv ?_;walk_at "go";rw [show decide (one x2.2=one f)=decide (x2.2=f) from aZ5 _ _];refine gJ (λhe=>?_) (λhe=>?_)
           . have he':=Az he
             walk_at "go";refine hA' _ _ hDc ⟨bI hD sm,qs++[b2],by rw [Ao]; rfl,?_⟩
             rw [show eW (m.take i2++[x2]) f=eW (m.take i2) f++[x2.1] by unfold eW; rw [List.filter_append,List.map_append]; simp [he']]
             exact (wq.app (.one hbt)).keep (kt hDc (λws z=>nomatch z))
           . have he':=Bm (Bs.mpr he)
             walk_at "go";refine hB' _ hDc ⟨sm,qs,rfl,?_⟩;rw [show eW (m.take i2++[x2]) f=eW (m.take i2) f by unfold eW; rw [List.filter_append,List.map_append]; simp [he']]
             exact wq
         . rintro D ys Hc hD ⟨sm,qs,rfl,wq⟩ hDc _;rw [Bp] at wq;have hD4:H4 D=none:=by
             by_cases z:D=ah
             . rw [z,aD] at hD; cases hD
             . rw [aH z] at hD; exact hD
           have su:=rZ ah4 (λo v z=>nomatch z) sm
           have eu:=fJ (Hs:=H4) hDc (λo v z=>nomatch z)
           have wqu:WtsAt (unf H4 Hc) qs (eW m f):=wq.keep λr w h=>fJ h (λo v z=>nomatch z)
           generalize unf H4 Hc=Hu at su eu wqu;have eru:=su _ _ er4
           have hmr:=bL eru
           have hmd:=bL eu
           have nDr:pr≠D:=bF er4 hD4
           have hq1:qs.length<=56:=by rw [wqu.1,aQ4]; unfold ctm; exact Bg List.countP_le_length hml
           have hr1:rs.length<=57:=by rw [wr4.1]; exact Bg (uR hask.nd) (by omega)
           have hlen:(rs.map V.ref).length+(qs.map V.ref).length<=sizeLine:=bN (by rw [Ab,Ab]; omega)
           walk_at "go";have kr:=kt (u':=.lst (rs.map V.ref++qs.map V.ref)) eru (λws z=>nomatch z)
           have hRt:=(Ad.mp ew).1
           refine ⟨A++[(f,w)],bs++[b],rs++qs,_,rfl,bI hpr0 (s4.trans su),?_,?_,?_,?_,?_,hask.snoc hm.nd hni hfc (Al ew),?_,λj v hj hv=>?_,λg hg=>?_⟩
           . rw [aH npr];exact su _ _ ea4
           . rw [Ao];exact ((wb4.keep λr w h=>su _ _ h).app (.one (su _ _ hb4))).keep kr
           . rw [aD,Ao]
           . rw [mX];exact ((wr4.keep λr w h=>su _ _ h).app wqu).keep kr
           . exact kr _ _ (su _ _ hb4)
           . rw [mX,Aq hRt];exact ew
           . rw [mX,Aq (by omega)] at hv
             intro g hg;rw [Ao];exact Cm _ (hcl j v hj hv g hg)
           . rw [htk] at hg;rw [Ao];rcases Bl.mp hg with z | z
             . exact Cm _ (hpre g z)
             . rw [Aj.mp z]; exact Bk _ (Aj.mpr rfl)
       . have hin:f∈A.map (·.1):=by
           rw [Bool.not_eq_true,Bool.not_eq_false'] at hd;exact Az hd
         walk_at "go";refine ⟨A,bs,rs,_,rfl,s3,ea,wb,er,wr,hb,hask,ew,hcl,λg hg=>?_⟩;rw [htk] at hg;rcases Bl.mp hg with z | z
         . exact hpre g z
         . rw [Aj.mp z]; exact hin
   . clear hask ew hcl hrm htl hrl rr2 wr2 er2 wb2 ea2 er;rintro σ H3 ⟨A,bs,rs,v2,rfl,s3,ea,wb,er,wr,hb,hask,ew,hcl,hpre⟩;rw [hcm,Bp] at hpre;walk_at "go";refine ⟨A,bs,rs,_,_,rfl,s3,ea,wb,er,wr,hask,(Ad.mp ew).1,λj v hj hv=>?_⟩;by_cases hjt:j<t
     . exact hcl j v hjt hv
     . have:j=t:=by omega
       subst this;rw [ew] at hv;cases hv;exact hpre
 . have hd':=Bm (Bs.mpr hd)
   walk_at "go";refine q pa A bs H2 hpa s2 ea2 wb2 (hask.done λw hw f hf=>?_);obtain ⟨j,hj,ej⟩:=By.mp hw;exact hcl j w (by omega) (by rw [Aa hj,ej]) f hf
def xK {m:List (Wt×Nat)} {w:Wt} {f:Nat}:eP (iF m) (dN w) (.str (one f))=iF (bQ9 m w f):=by
 have e:((iF m).any λkv=>decide (kv.1=dN w))=(eM m w).isSome:=by
   rw [fM,kS];cases eM m w <;> rfl
 unfold eP bQ9;rw [e];by_cases h:(eM m w).isSome=true
 . rw [if_pos h,if_pos h];unfold iF;rw [Cc,Cc];refine Cw λx _=>?_;show (if dN x.1=dN w then (dN x.1,V.str (one f)) else (dN x.1,V.str (one x.2)))=(λx:Wt×Nat=>(dN x.1,V.str (one x.2))) (if x.1=w then (x.1,f) else x)
   by_cases ex:x.1=w
   . rw [if_pos ex,if_pos (by rw [ex])]
   . rw [if_neg ex,if_neg (λz=>ex (nU z))]
 . rw [if_neg h,if_neg h];unfold iF;rw [Ao];rfl
def mD:Sp:=λvs H Q _=>∃ (aa ah:Addr) (cws:List (List Nat)) (m:List (Wt×Nat)) (first:Wt) (A:List (Nat×Wt)) (bs:List Addr) (f0:Nat),vs=[.str (one f0),.ref aa,.ref ah]/\H aa=some (.dK (gK A bs))/\WtsAt H bs (A.map (·.2))/\Asking (chW cws) m first A/\H ah=some (.dT (iF m))/\(m.map (·.1)).Nodup/\first ∉ m.map (·.1)/\(∀ v f,(v,f) ∈ m->f ∈ chW cws v)/\f0 ∈ A.map (·.1)/\m.length<=56/\
 ∀ (m':List (Wt×Nat)) (H':Hp),(∀ b u,b≠ah->H b=some u->H' b=some u)->H' ah=some (.dT (iF m'))->m'.map (·.1)=m.map (·.1)++[first]->(∀ v f,(v,f)∈m'->f∈chW cws v)->(∀ f,ctm m' f=ctm m f+(if f=f0 then 1 else 0))->Q .non H'
def sc_hang_along:FnScope ["flag", "asked", "hung", "want", "given"] ["flag", "asked", "hung"] (aF dZ):=by walk_at "sc"
def sU {Zt Zz Zu Zx Z0 Zw Zy Zv:Addr} {f:Addr} {fd:FuncData} (F:Fun K "hang_along" "hang_along" dZ f fd) (G:Gs K mg w Zt Zz Zu Zx Z0 Zw Zy Zv)  : FnOk P w K mg base CX0 1 f fd ["flag", "asked", "hung"] mD:=by
 refine F.ok sc_hang_along (λvs H Q E h=>?_) (λcdv A outer s H vs Q E hr h=>?_)
 . obtain ⟨aa,ah,cws,m,first,A,bs,f0,rfl,_⟩:=h; rfl
 obtain ⟨aa,ah,cws,m,first,A,bs,f0,rfl,haa,hwb,hask,hah,nd,hnf,hmc,hf0,hml,q⟩:=h
 refine ⟨_,(@aI _ _ _ (zN Br (bA sA (mv 0) cW (bE _)) (@aE _ _ _ _ _ (@aP _ _ 3 _ _ _ _ sc_hang_along.nd (by rfl) (by exact (Or.inl rfl)) (kB (Room.u1 hr) (mv 1) (mv 0) (λ_ _=>rfl)) (by rfl) (by walk_at "o")) (@aE _ _ _ _ _ (@aP _ _ 4 _ _ _ _ sc_hang_along.nd (by rfl) (by exact (Or.inl rfl)) (jH Bz Dz (bX9 (Room.u1 hr)) (mv 2) (aA (mv 3) aB)) (by rfl) (by walk_at "o")) (@aE _ _ _ _ _ (iI (Room.u1 hr) (mv 2) (mv 3) (mv 0) rfl) (@aI _ _ _ (@aP _ _ 0 _ _ _ _ sc_hang_along.nd (by rfl) (by exact (Or.inl rfl)) (mv 4) (by rfl) (by walk_at "o")))))))),?_⟩
 have hbl:bs.length=A.length:=by rw [hwb.1,Ab]
 have nah:aa≠ah:=λz=>by rw [z,hah] at haa; cases haa
 obtain ⟨x0,hx0,e0⟩:=Be.mp hf0;obtain ⟨j0,hj0,ej0⟩:=By.mp hx0;have ej:A[j0]?=some (f0,x0.2):=by rw [Aa hj0,ej0,<-e0]
 walk_at "go";refine ⟨λn σ H'=>(∃ (m2:List (Wt×Nat)) (c j:Nat) (w:Wt) (v1 v2:Option V),σ=[some (.str (one c)),some (.ref aa),some (.ref ah),v1,v2]/\(∀ b u,b≠ah->H b=some u->H' b=some u)/\H' ah=some (.dT (iF m2))/\Along (chW cws) m A f0 m2 c j w/\n=j+1)\/
     (∃ (m':List (Wt×Nat)) (v1 v2:Option V),σ=[some .non,some (.ref aa),some (.ref ah),v1,v2]/\(∀ b u,b≠ah->H b=some u->H' b=some u)/\H' ah=some (.dT (iF m'))/\m'.map (·.1)=m.map (·.1)++[first]/\(∀ v f,(v,f)∈m'->f∈chW cws v)/\(∀ f,ctm m' f=ctm m f+(if f=f0 then 1 else 0))/\n=0),
   ⟨_,.inl ⟨m,f0,j0,x0.2,none,none,rfl,λb u _ h=>h,hah,⟨rfl,hmc,λf=>rfl,ej,λv g i u hg _ _=>hg⟩,rfl⟩⟩,?_⟩
 rintro n σ H2 (⟨m2,c,j,w,v1,v2,rfl,fr,eh,al,rfl⟩ | ⟨m',v1,v2,rfl,fr,eh,hk,hc,hct,rfl⟩)
 . walk_at "go";rw [show (!decide (V.str (one c)=V.non))=true from rfl];walk_at "go";have hjl:=(Ad.mp al.at_).1
   have ebj:bs[j]?=some (bs[j]'(by omega)):=Aa (by omega)
   have hbt:=hwb.2 j _ w ebj (by rw [Af,al.at_]; rfl)
   have hav:=cQV hask.nd hbl al.at_ ebj
   generalize (bs[j]'(by omega))=b at hbt hav
   have nb:b≠ah:=λz=>by rw [z,hah] at hbt; cases hbt
   have haa2:=fr _ _ nah haa
   have hb2:=fr _ _ nb hbt
   have hkl:(iF m2).length<sizeLine:=by
     have:m2.length=m.length:=by rw [<-Ab (f:=(·.1)) (as:=m2),al.keys,Ab]
     unfold iF;rw [Ab];exact bG (by omega)
   have hdd:isD H2 ah=true:=by unfold isD; rw [eh]
   refine ⟨_,λσ' H' h=>h,?_⟩;walk_at "go";refine xA (z:=one c) (.inl haa2) hav ?_;walk_at "go";refine aZ1 (k:=dN w) (.inl eh) hb2 ?_;rw [kS];have fr2:∀ o,∀ b u,b≠ah->H b=some u->(upd H2 ah o) b=some u:=λo b u hb hu=>by rw [aH hb]; exact fr b u hb hu
   rcases (hask.ok j c w al.at_).2 with rfl | ⟨g,i,v,hij,hi,hg⟩
   . obtain ⟨l1,l2,l3,l4⟩:=al.last hask hnf;rw [l1];walk_at "go";refine xF (k:=dN w) eh hb2 hkl ?_;rw [xK,show bQ9 m2 w c=m2++[(w,c)] by unfold bQ9; rw [l1]; rfl]
     walk_at "go";exact ⟨0,by omega,.inr ⟨m2++[(w,c)],_,_,rfl,fr2 _,aD,l2,l3,l4,rfl⟩⟩
   . obtain ⟨l1,l2⟩:=al.step hask nd hg hi hij;rw [l1];walk_at "go";refine xF (k:=dN w) eh hb2 hkl ?_;rw [xK,show bQ9 m2 w c=m2.map λx=>if x.1=w then (x.1,c) else x by unfold bQ9; rw [l1]; rfl]
     walk_at "go";exact ⟨i+1,by omega,.inl ⟨_,g,i,v,_,_,rfl,fr2 _,aD,l2,rfl⟩⟩
 . walk_at "go";exact q m' H2 fr eh hk hc hct
def gP (aC:Addr):Sp:=λvs H Q _=>∃ (ea p q:Addr) (xs ys:List V),vs=[.ref ea,.ref p,.ref q]/\H ea=some (eX ea aC none)/\rdL H p=some xs/\rdL H q=some ys/\
 ∀ (dx l1 l2:Addr) (H':Hp),(∀ b u,b≠ea->H b=some u->H' b=some u)->H dx=none->dx≠ea->H' ea=some (eX ea aC (some dx))->H' dx=some (xdO dx [("flags",.ref l2),("wants",.ref l1)])->H' l1=some (.lst xs)->H' l2=some (.lst ys)->H l1=none->H l2=none->Q .non H'
def wH:FnScope ["self", "wants", "flags"] ["self", "wants", "flags"] (aF fB):=by walk_at "sc"
def wO {Zt Zz Zu Zx Z0 Zw Zy Zv:Addr} {f:Addr} {fd:FuncData} (F:Fun K "__init__" "Lack.__init__" fB f fd) (G:Gs K mg w Zt Zz Zu Zx Z0 Zw Zy Zv)  : FnOk P w K mg base CX0 1 f fd ["self", "wants", "flags"] (gP Zt):=by
 refine F.ok wH (λvs H Q E h=>?_) (λcdv A outer s H vs Q E hr h=>?_)
 . obtain ⟨ea,p,q,xs,ys,rfl,_⟩:=h; rfl
 obtain ⟨ea,p,q,xs,ys,rfl,he,hp,hq,qq⟩:=h;refine ⟨_,(@aE _ _ _ _ _ (cD (rX rfl G.c_TowerError G.t1_TowerError G.t2_TowerError G.t3_TowerError (aA (mv 0) (aA (cH kZ rfl G.b_list fY (aA (mv 1) aB)) (aA (cH kZ rfl G.b_list fY (aA (mv 2) aB)) aB))))) (@aE _ _ _ _ _ (qD (mv 0) (cH kZ rfl G.b_list fY (aA (mv 1) aB)) rfl) (@aI _ _ _ (qD (mv 0) (cH kZ rfl G.b_list fY (aA (mv 2) aB)) rfl)))),?_⟩;walk_at "go";intro l1 hl1;have s1:=aG hl1 (.lst xs)
 generalize upd H l1 (.lst xs)=H1 at s1 ⊢;have hq1:=aK s1 hq
 walk_at "go";intro l2 hl2;have s2:=s1.trans (aG hl2 (.lst ys))
 generalize upd H1 l2 (.lst ys)=H2 at s2 ⊢;have he2:=s2 _ _ he
 walk_at "go";refine ⟨ea,[.ref l1,.ref l2],Zt,Zz,none,rfl,by show 2<=sizeLine; decide,he2,(λ_ z=>nomatch z),G.xc_Lack,?_⟩
 have hp2:=aK s2 hp
 walk_at "go";intro l3 hl3;have s3:=s2.trans (aG hl3 (.lst xs))
 have e3:(upd H2 l3 (.lst xs)) l3=_:=aD
 generalize upd H2 l3 (.lst xs)=H3 at s3 e3 ⊢;have he3:=s3 _ _ he
 walk_at "go";refine ⟨ea,Zt,Zz,rfl,G.xc_Lack,G.xn_Lack_wants,.inl ⟨he3,λdx hdx=>?_⟩⟩;have nde:dx≠ea:=λz=>by rw [z,he3] at hdx; cases hdx
 have fr4:∀ b u,b≠ea->H b=some u->(upd (upd H3 ea (eX ea Zt (some dx))) dx (xdO dx [("wants",.ref l3)])) b=some u:=λb u hb hu=>by
   have e:=s3 _ _ hu
   rw [aH (λz=>by rw [z,hdx] at e; cases e),aH hb]
   exact e
 have ee4:(upd (upd H3 ea (eX ea Zt (some dx))) dx (xdO dx [("wants",.ref l3)])) ea=some (eX ea Zt (some dx)):=by rw [aH nde.symm,aD]
 have ed4:(upd (upd H3 ea (eX ea Zt (some dx))) dx (xdO dx [("wants",.ref l3)])) dx=_:=aD
 have n3e:l3≠ea:=λz=>by rw [z,he3] at e3; cases e3
 have n3d:l3≠dx:=λz=>by rw [z,hdx] at e3; cases e3
 have el4:(upd (upd H3 ea (eX ea Zt (some dx))) dx (xdO dx [("wants",.ref l3)])) l3=some (.lst xs):=by rw [aH n3d,aH n3e]; exact e3
 have hqe:q≠ea:=λz=>by rw [z] at hq; unfold rdL at hq; rw [he] at hq; cases hq
 have hq4:rdL (upd (upd H3 ea (eX ea Zt (some dx))) dx (xdO dx [("wants",.ref l3)])) q=some ys:=by
   have hq3:=aK s3 hq
   rw [aQ3 (λz=>by rw [z] at hq3; unfold rdL at hq3; rw [hdx] at hq3; cases hq3),aQ3 hqe]
   exact hq3
 generalize upd (upd H3 ea (eX ea Zt (some dx))) dx (xdO dx [("wants",.ref l3)])=H4 at fr4 ee4 ed4 el4 hq4 ⊢;walk_at "go";intro l4 hl4;have s5:=aG hl4 (.lst ys)
 have e5:(upd H4 l4 (.lst ys)) l4=_:=aD
 have ee5:=s5 _ _ ee4
 have ed5:=s5 _ _ ed4
 have el5:=s5 _ _ el4
 have n4d:l4≠dx:=λz=>by rw [z,ed4] at hl4; cases hl4
 have n4e:l4≠ea:=λz=>by rw [z,ee4] at hl4; cases hl4
 have h40:H l4=none:=by
   cases e:H l4 with
   | none=>rfl
   | some u=>rw [fr4 _ _ n4e e] at hl4; cases hl4
 generalize upd H4 l4 (.lst ys)=H5 at s5 e5 ee5 ed5 el5 ⊢;walk_at "go";refine ⟨ea,Zt,Zz,rfl,G.xc_Lack,G.xn_Lack_flags,.inr ⟨dx,_,ee5,ed5,(by show 1<100; decide),?_⟩⟩
 refine qq dx l3 l4 _ (λb u hb hu=>?_) (none_of s3 hdx) nde (by rw [aH nde.symm]; exact ee5) aD (by rw [aH n3d]; exact el5) (by rw [aH n4d]; exact e5) (none_of s2 hl3) h40
 have e:=s5 _ _ (fr4 b u hb hu)
 rw [aH (λz=>by have q9:=s3 _ _ hu; rw [z,hdx] at q9; cases q9)]
 exact e
structure LackOk (cws:List (List Nat)) (n:Nat->Int) (W:List Wt) (F:List Nat):Prop where
 sub:W.Sublist (wl cws)
 flags:∃ p:Nat->Bool,F=flagsT.cps.toList.filter p
 all:∀ w∈W,∀ f∈chW cws w,f∈F
 few:(F.map n).sum<(W.length:Int)
def ctn (fs:List Nat) (c:Nat):Nat:=fs.countP λx=>decide (x=c)
def oR (g:Nat->Nat):∀ L:List Nat,(L.map λc=>((g c:Nat):Int)).sum=(((L.map g).sum:Nat):Int)
 | []=>rfl
 | c::r=>by
   rw [Au,Cj,Au,Cj,oR g r];omega
def dQH {cws:Q5} {n0:Nat->Int} {m:List (Wt×Nat)} {first:Wt} {A:List (Nat×Wt)} {fl:Nat->Option Int} {l r:List Wt} (hw:wl cws=l++first::r) (hk:m.map (·.1)=l) (hL:∀ c∈cws,c.length<=7/\∀ d∈c,aQ d) (hmo:HungOk cws m) (hfw:first∈wl cws)
   (hA:Asked (chW cws) m first A) (hct:∀ c,aS fl c=n0 c - (ctm m c:Int)/\0<=aS fl c) (h0:∀ c∈A.map (·.1),¬ 0<aS fl c):LackOk cws n0 (kL m first A (wl cws)) (flagsT.cps.toList.filter λc=>decide (c∈A.map (·.1))):=by
 have hAf:∀ c∈A.map (·.1),oV c:=λc hc=>by
   obtain ⟨x,hx,rfl⟩:=Be.mp hc;obtain ⟨j,hj,e⟩:=By.mp hx;have hj2:A[j]?=some (x.1,x.2):=by rw [Aa hj,e]
   exact cXP hL (bJU hmo hfw hA.toAsking hj2) (hA.ok j _ _ hj2).1
 have hF:∀ c,c∈flagsT.cps.toList.filter (λc=>decide (c∈A.map (·.1))) ↔ c∈A.map (·.1):=λc=>by
   rw [Dx,Bj];exact ⟨λh=>h.2,λh=>⟨flags_mem.mpr (hAf c h),h⟩⟩
 have ndF:(flagsT.cps.toList.filter λc=>decide (c∈A.map (·.1))).Nodup:=List.Nodup.sublist Fc (by decide)
 have nd:=oN cws cws.length
 replace nd:(wl cws).Nodup:=nd
 refine ⟨Fc,⟨_,rfl⟩,λw hwm f hf=>?_,?_⟩
 . refine (hF f).mpr ?_;have h2:=(lackW_mem.mp hwm).2
   by_cases e:w=first
   . subst e;exact hA.all1 f hf
   . cases eg:eM m w with
     | none=>rw [sK e eg] at h2; cases h2
     | some g=>
       rw [qW e eg] at h2;exact hA.all w g (zQ eg) (Az h2) f hf
 . have e1:(kL m first A (wl cws)).length=1+m.countP (λx=>decide (x.2∈A.map (·.1))):=by
     rw [hw] at nd ⊢;exact bJX hk nd
   have e2:m.countP (λx=>decide (x.2∈A.map (·.1)))=m.countP (λx=>decide (x.2∈flagsT.cps.toList.filter λc=>decide (c∈A.map (·.1)))):=by
     congr 1
     funext x
     exact Dh.mpr (hF x.2).symm
   have e3:=dJH m ndF
   have e4:(flagsT.cps.toList.filter λc=>decide (c∈A.map (·.1))).map n0=(flagsT.cps.toList.filter λc=>decide (c∈A.map (·.1))).map λc=>((ctm m c:Nat):Int):=Cw λc hc=>by
     have h1:=hct c
     have h2:=h0 c ((hF c).mp hc)
     omega
   rw [e4,oR,e1,e2,e3];omega
def kR (aC:Addr):Sp:=λvs H Q E=>∃ (a b:Addr) (kvs:List (Key×V)) (f:Nat->Option Int) (cws:List (List Nat)),vs=[.ref a,.ref b]/\Rd H a (.dK kvs)/\Lk kvs f/\rdL H b=some ((cws.map aU).map V.str)/\cws.length<=8/\(∀ c∈cws,c.length<=7/\∀ d∈c,aQ d)/\
 (∀ (r:Addr) (ps:List Addr) (fs:List Nat) (H':Hp),H r=none->Same H H'->H' r=some (.lst (ps.map V.ref))->(∀ p∈ps,p≠r)->Lsts H H' ps ((List.range cws.length).map (mS cws fs))->fs.length=(wl cws).length->(∀ (j:Nat) w g,(wl cws)[j]?=some w->fs[j]?=some g->g∈chW cws w)->(∀ c,(ctn fs c:Int)<=aS (bM (aS f)) c)->Q (.ref r) H')/\
 (∀ (dx l1 l2:Addr) (rs:List Addr) (W:List Wt) (F:List Nat) (H':Hp),Same H H'->H' dx=some (xdO dx [("flags",.ref l2),("wants",.ref l1)])->H' l1=some (.lst (rs.map V.ref))->WtsAt H' rs W->H' l2=some (.lst ((F.map one).map V.str))->LackOk cws (aS (bM (aS f))) W F->H l1=none->H l2=none->E (.ref aC) (some dx) H')
def sc_hang_all:FnScope ["locker", "words", "choices", "left", "hung", "first", "asked", "free", "wants"] ["locker", "words"] (aF cS):=by walk_at "sc"
def zH {Zt Zz Zu Zx Z0 Zw Zy Zv:Addr} {f:Addr} {fd:FuncData} (F:Fun K "hang_all" "hang_all" cS f fd) (G:Gs K mg w Zt Zz Zu Zx Z0 Zw Zy Zv) (c_choices_of:Cal P w K mg base 2 "choices_of" ["words"] mF) (c_plain_locker:Cal P w K mg base 1 "plain_locker" ["locker"] dF) (c_hoists_of:Cal P w K mg base 1 "hoists_of" ["words", "flags"] oG) (c_asked_from:Cal P w K mg base 1 "asked_from" ["first", "choices", "hung"] lZ) (c_hang_along:Cal P w K mg base 1 "hang_along" ["flag", "asked", "hung"] mD) (c_Lack_init:vQ P w K mg base 1 Zt ["self", "wants", "flags"] (gP Zt)):FnOk P w K mg base (CXr P w) 3 f fd ["locker", "words"] (kR Zt):=by
 refine F.okX sc_hang_all (λvs H Q E h=>?_) (λcdv A outer s H vs Q E hr h=>?_)
 . obtain ⟨a,b,kvs,f,cws,rfl,_⟩:=h; rfl
 obtain ⟨a,b,kvs,f,cws,rfl,ha,lk,hb,h8,hL,q,qe⟩:=h;refine ⟨_,(@aE _ _ _ _ _ (@aP _ _ 2 _ _ _ _ sc_hang_all.nd (by rfl) (by exact (Or.inl rfl)) (aW c_choices_of hr (by decide) rfl (aA (mv 1) aB)) (by rfl) (by walk_at "o")) (@aE _ _ _ _ _ (@aP _ _ 3 _ _ _ _ sc_hang_all.nd (by rfl) (by exact (Or.inr rfl)) (aW c_plain_locker hr (by decide) rfl (aA (mv 0) aB)) (by rfl) (by walk_at "o")) (@aE _ _ _ _ _ (@aP _ _ 4 _ _ _ _ sc_hang_all.nd (by rfl) (by exact (Or.inr rfl)) zL (by rfl) (by walk_at "o")) (@aE _ _ _ _ _ (aXW (cR PassesOwn.leaving rfl (nM (mv 2)) (aY (i:=5) sc_hang_all.nd rfl (Or.inr rfl)) (@aE _ _ _ _ _ (@aP _ _ 6 _ _ _ _ sc_hang_all.nd (by rfl) (by exact (Or.inr rfl)) (aW c_asked_from hr (by decide) rfl (aA (mv 5) (aA (mv 2) (aA (mv 4) aB)))) (by rfl) (by walk_at "o")) (@aE _ _ _ _ _ (aXW (iP (i:=7) sc_hang_all.nd rfl (Or.inl rfl) rfl (cZF (mv 6)) (iK (N:=["flag", "left"]) ["locker", "words", "choices", "left", "hung", "first", "asked", "free", "wants"] (aF cS) [none,some 3] rfl rfl rfl (λx h=>cA h) (by decide +kernel)) (by decide +kernel) rfl (by decide +kernel) (λ_ _ _ _=>(aY (i:=0) (show List.Nodup (["flag", "left"]:List Str) by decide +kernel) rfl (Or.inl rfl))) (λ_ _ _ _=>(mV (bA aJ8 (jH Bz Dz (aZL (Room.u1 hr)) (mv 1) (aA (mv 0) (aA aJ aB))) aJ (bE _)))) (λ_ _ _ _=>(mv 0)))) (@aE _ _ _ _ _ (cG (bA (eZF hr.units0) (mv 7) (bV aB) (bE _)) (@aE _ _ _ _ _ (aXW (iP (i:=8) sc_hang_all.nd rfl (Or.inl rfl) rfl (nM (mv 2)) (iK (N:=["want", "first", "asked", "hung"]) ["locker", "words", "choices", "left", "hung", "first", "asked", "free", "wants"] (aF cS) [none,some 5,some 6,some 4] rfl rfl rfl (λx h=>cA h) (by decide +kernel)) (by decide +kernel) rfl (by decide +kernel) (λ_ _ _ _=>(aY (i:=0) (show List.Nodup (["want", "first", "asked", "hung"]:List Str) by decide +kernel) rfl (Or.inl rfl))) (λ_ _ _ _=>(mV (PW.pt (pO (bA (eQ1 hr.units0) (mv 0) (mv 1) (bE _)) (mP (bA (dX6 (Room.u1 hr)) (jH Bz Dz (bX9 (Room.u1 hr)) (mv 3) (aA (mv 0) aB)) (mv 2) (by rfl))))))) (λ_ _ _ _=>(mv 0)))) (@aI _ _ _ (lL jR rfl rfl rfl G.c_Lack G.xm_Lack c_Lack_init hr (by decide) (aA (mv 8) (aA (cT rfl (mQ (fK rfl G.s_FLAGS)) (iK (N:=["flag", "asked"]) ["locker", "words", "choices", "left", "hung", "first", "asked", "free", "wants"] (aF cS) [none,some 6] rfl rfl rfl (λx h=>cA h) (by decide +kernel)) (by decide +kernel) rfl (by decide +kernel) (λ_ _ _ _=>(aY (i:=0) (show List.Nodup (["flag", "asked"]:List Str) by decide +kernel) rfl (Or.inl rfl))) (λ_ _ _ _=>(mV (bA (eXP (Room.u1 hr)) (mv 0) (mv 1) (by rfl)))) (λ_ _ _ _=>(mv 0))) aB))))) bH) (@aE _ _ _ _ _ (iI (Room.u1 hr) (mv 3) (bK cF (mv 7) aJ (λ_ _=>rfl)) (aR uA (kB (Room.u1 hr) (mv 3) (bK cF (mv 7) aJ (λ_ _=>rfl)) (λ_ _=>rfl)) aJ) rfl) (@aI _ _ _ (cD (aW c_hang_along hr (by decide) rfl (aA (bK cF (mv 7) aJ (λ_ _=>rfl)) (aA (mv 6) (aA (mv 4) aB)))))))))))) (@aI _ _ _ (aV (aW c_hoists_of hr (by decide) rfl (aA (mv 1) (aA (cQY (cT rfl (nM (mv 2)) (iK (N:=["want", "hung"]) ["locker", "words", "choices", "left", "hung", "first", "asked", "free", "wants"] (aF cS) [none,some 4] rfl rfl rfl (λx h=>cA h) (by decide +kernel)) (by decide +kernel) rfl (by decide +kernel) (λ_ _ _ _=>(aY (i:=0) (show List.Nodup (["want", "hung"]:List Str) by decide +kernel) rfl (Or.inl rfl))) (λ_ _ _ _=>dO) (λ_ _ _ _=>(kB (Room.u1 hr) (mv 1) (mv 0) (λ_ _=>rfl))))) aB))))))))),?_⟩
 have h7:∀ c∈cws,c.length<=7:=λc hc=>(hL c hc).1
 have hlw:(wl cws).length<=56:=Bg (aZ7 h7 _) (by omega)
 walk_at "go";refine ⟨b,cws,rfl,hb,h8,h7,λac H1 hac s1 hch=>?_⟩;walk_at "go";refine ⟨a,kvs,f,rfl,ha.elim (λe=>.inl (s1 _ _ e)) (λ⟨o,e⟩=>.inr ⟨o,s1 _ _ e⟩),lk,λal H2 hal s2 el=>?_⟩;walk_at "go";intro ah hah;have s3:=s2.trans (aG hah (.dT []))
 have eh3:(upd H2 ah (.dT [])) ah=_:=aD
 have el3:=aG hah (.dT []) _ _ el
 generalize upd H2 ah (.dT [])=H3 at s3 eh3 el3 ⊢;obtain ⟨ds,dl,ed,hds⟩:=hch;rw [Bp] at ed;have ed3:=s3 _ _ ed
 walk_at "go";refine xI ed3 λo=>?_;have fz:(upd H3 ac (.frz o (.dT (eQ (wl cws) ds)))) ac=_:=aD
 have kl:(eQ (wl cws) ds).length=(wl cws).length:=uT dl
 have nac:ah≠ac:=λz=>by have e:=s2 _ _ ed; rw [<-z,hah] at e; cases e
 have nla:al≠ac:=λz=>by rw [z,ed3] at el3; cases el3
 have nlh:al≠ah:=λz=>by rw [z,eh3] at el3; cases el3
 have s13:Same H1 H3:=s3
 have hah1:H1 ah=none:=none_of s2 hah
 generalize hn0:aS (bM (aS f))=n0;refine bJ2 (λi σ H'=>∃ (m:List (Wt×Nat)) (kl2:List (Key×V)) (fl:Nat->Option Int) (v5 v6 v7 v8:Option V),σ=[some (.ref a),some (.ref b),some (.ref ac),some (.ref al),some (.ref ah),v5,v6,v7,v8]/\(∀ p u,p≠ac->p≠al->p≠ah->H1 p=some u->H' p=some u)/\H' ac=some (.frz o (.dT (eQ (wl cws) ds)))/\H' ah=some (.dT (iF m))/\H' al=some (.dK kl2)/\Lk kl2 fl/\kl2.length<=27/\m.map (·.1)=(wl cws).take i/\(∀ v g,(v,g)∈m->g∈chW cws v)/\(∀ c,aS fl c=n0 c - (ctm m c:Int)/\0<=aS fl c))
   ⟨[],_,bM (aS f),_,_,_,_,rfl,λp u h1 h2 h3 hu=>by rw [aH h1]; exact s13 _ _ hu,fz,by rw [aH nac]; exact eh3,by rw [aH nla]; exact el3,gY _,by unfold kvL; rw [Ab]; exact kA _ _,rfl,(λv g hv=>nomatch hv),λc=>?_⟩ (λi σ H' _ ⟨_,_,_,_,_,_,_,_,_,e,_⟩=>e) ?_ ?_
 . rw [hn0];refine ⟨by show n0 c=n0 c - ((0:Nat):Int); omega,?_⟩
   rw [<-hn0];show 0<=(bM (aS f) c).getD 0
   unfold bM;split
   . rename_i h; exact Int.le_of_lt h.2
   . exact Ho 0
 . rintro i kv bf σ H4 hkv hbf ⟨m,kl2,fl,v5,v6,v7,v8,rfl,fr,ec,eh,el4,lkl,l27,hk,hmc,hct⟩;have hi:i<(wl cws).length:=by rw [<-kl]; exact (Ad.mp hkv).1
   have ew:(wl cws)[i]?=some (wl cws)[i]:=Aa hi
   have ekv:kv=(dN (wl cws)[i],V.ref (ds[i]'(by omega))):=by
     unfold eQ at hkv;rw [Fu,ew,Aa (show i<ds.length by omega)] at hkv
     exact (Bh hkv).symm
   rw [ekv] at hbf;have hnd:=oN cws cws.length
   have hfw:(wl cws)[i]∈wl cws:=Bq hi
   have htk:(wl cws).take (i+1)=(wl cws).take i++[(wl cws)[i]]:=by rw [Bd,ew]; rfl
   have hfn:(wl cws)[i] ∉ m.map (·.1):=by
     rw [hk];intro z;obtain ⟨j,hj,ej⟩:=By.mp z;rw [Bt] at hj;rw [List.getElem_take] at ej;have:=(Gf hnd).mp ej
     omega
   have hml:m.length<=56:=by
     have e:m.length=(m.map (·.1)).length:=(Ab _).symm
     rw [e,hk,Bt];omega
   have hmo:HungOk cws m:=⟨by rw [hk]; exact hnd.sublist (Gw ..),λx hx=>List.mem_of_mem_take (by rw [<-hk]; exact Be.mpr ⟨x,hx,rfl⟩)⟩
   have hcr:ChRd H4 ac cws:=⟨ds,dl,.inr ⟨o,ec⟩,λj w d hw hd=>by
     have h1:=hds j w d (Ad.mp hw).1 hw hd
     exact fr d _ (λz=>by rw [z,ed] at h1; cases h1) (λz=>by rw [z,hal] at h1; cases h1) (λz=>by rw [z,hah1] at h1; cases h1) h1⟩
   replace hbf:H4 bf=some (.tup (wV (wl cws)[i])):=hbf
   clear ekv hkv;generalize (wl cws)[i]=first at hbf ew hfw htk hfn
   walk_at "go";refine ⟨bf,ac,ah,cws,m,first,rfl,hbf,hfw,hcr,eh,hmo,hml,h8,hL,λpa A bs H5 hpa s5 ea wb hask=>?_⟩
   have el5:=s5 _ _ el4
   have hbl:bs.length=A.length:=by rw [wb.1,Ab]
   have hA27:=aZX hmo hfw hL hask.toAsking
   have hdl5:=pB el5
   walk_at "go";refine dXS ea λoa=>?_;have fza:(upd H5 pa (.frz oa (.dK (gK A bs)))) pa=_:=aD
   have nlp:al≠pa:=λz=>by rw [z,hpa] at el4; cases el4
   have elf:(upd H5 pa (.frz oa (.dK (gK A bs)))) al=_:=(aH nlp).trans el5
   refine jX (n:=A.length) (λD i ys Hc=>Same (upd H5 pa (.frz oa (.dK (gK A bs)))) Hc/\ys=((((A.take i).map (·.1)).filter λc=>decide (0<aS fl c)).map one).map V.str) (bG (by omega)) (λD hD=>⟨aG hD _,rfl⟩) (λD i ys Hc _ r h=>⟨r.1 _ _ fza,by rw [rL hbl]; exact h⟩) (λD ys Hc _ r=>⟨r.1 _ _ fza,rL hbl⟩) ?_ ?_
   . rintro D i2 ys Hc x H' A' B' hD hi2 ⟨sm,rfl⟩ hDc ⟨rfl,kv,hkv,rfl⟩ hA' hB';have eA:A[i2]?=some A[i2]:=Aa hi2
     unfold gK at hkv;rw [Fu,eA,Aa (show i2<bs.length by omega)] at hkv
     cases hkv;have tk:A.take (i2+1)=A.take i2++[A[i2]]:=by rw [Bd,eA]; rfl
     rw [tk,Ao,Fk] at hA' hB';generalize A[i2]=xa at hA' hB';have elc:=sm _ _ elf
     have hdc:=pB elc
     dsimp only [kV];walk_at "go";refine ⟨Wk.set rfl (Wk.refl _),?_⟩;walk_at "go";refine aJH (z:=one xa.1) (.inl elc) ?_;rw [lkl.val xa.1,qG];walk_at "go";refine gJ (λhe=>?_) (λhe=>?_)
     . have he':=Az he
       walk_at "go";refine hA' _ _ hDc ⟨bI hD sm,?_⟩;rw [show ([xa].map (·.1)).filter (λc=>decide (0<aS fl c))=[xa.1] by simp [he'],List.map_append,List.map_append]
       rfl
     . have he':=Bm (Bs.mpr he)
       walk_at "go";refine hB' _ hDc ⟨sm,?_⟩;rw [show ([xa].map (·.1)).filter (λc=>decide (0<aS fl c))=[] by simp; omega,List.append_nil]
   . rintro D ys Hc hD ⟨sm,rfl⟩ hDc _;rw [Bp] at hDc;have su:=rZ ea (λo v z=>nomatch z) sm
     have eu:=fJ (Hs:=H5) hDc (λo v z=>nomatch z)
     refine xE ?_;unfold cQ3;dsimp only;generalize unf H5 Hc=H6 at su eu ⊢;have s46:=s5.trans su
     have ea6:=su _ _ ea
     have wb6:WtsAt H6 bs (A.map (·.2)):=wb.keep λr w h=>su _ _ h
     have ec6:=s46 _ _ ec
     have eh6:=s46 _ _ eh
     have el6:=s46 _ _ el4
     have hbf6:=s46 _ _ hbf
     have fr6:∀ p u,p≠ac->p≠al->p≠ah->H1 p=some u->H6 p=some u:=λp u h1 h2 h3 hu=>s46 _ _ (fr p u h1 h2 h3 hu)
     have hD4:H4 D=none:=by
       have h5:H5 D=none:=by
         by_cases z:D=pa
         . rw [z,aD] at hD; cases hD
         . rw [aH z] at hD; exact hD
       exact none_of s5 h5
     clear sm hDc hD fza elf hdl5 el5;walk_at "go";refine ⟨by decide,λpe hpe=>?_⟩
     refine eQ6 (neg:=false) (aK (aG hpe _) (aT eu)) dG (gF _) rfl ?_;have s67:=aG hpe (.lst [])
     generalize upd H6 pe (.lst [])=H7 at s67 ⊢;have en:∀ xs:List V,oQ xs []=xs.isEmpty:=λxs=>by cases xs <;> rfl
     rw [if_neg (by decide),en]
     cases hfr:(A.map (·.1)).filter (λc=>decide (0<aS fl c)) with
     | nil=>
       rw [hfr] at eu;rw [show (List.map V.str (List.map one [])).isEmpty=true from rfl];have ec7:=s67 _ _ ec6
       have eh7:=s67 _ _ eh6
       have ea7:=s67 _ _ ea6
       have hbf7:=s67 _ _ hbf6
       have fr7:∀ p u,p≠ac->p≠al->p≠ah->H1 p=some u->H7 p=some u:=λp u h1 h2 h3 hu=>s67 _ _ (fr6 p u h1 h2 h3 hu)
       clear eu wb6 hpe s67 fr6 fr ec6 eh6 ea6 hbf6 el6 su hD4 s46 hpa s5 ea wb el4 nlp;walk_at "go";refine bX1 ec7 ?_;refine jX (n:=(wl cws).length) (λD i ys Hc=>Same H7 Hc/\∃ rs,ys=rs.map V.ref/\WtsAt Hc rs (kL m first A ((wl cws).take i))) (bG (by omega)) (λD hD=>⟨aG hD _,[],rfl,rfl,λj r w hr=>nomatch hr⟩) (λD i ys Hc _ r h=>⟨r.1 _ _ ec7,by rw [kl]; exact h⟩) (λD ys Hc _ r=>⟨r.1 _ _ ec7,kl⟩) ?_ ?_
       . rintro D i2 ys Hc x H' A' B' hD hi2 ⟨sm,rs,rfl,hwt⟩ hDc ⟨rfl,kv,bk,hkv,rfl,hbk⟩ hA' hB';have ew2:(wl cws)[i2]?=some (wl cws)[i2]:=Aa hi2
         have ekv:kv=(dN (wl cws)[i2],V.ref (ds[i2]'(by omega))):=by
           unfold eQ at hkv;rw [Fu,ew2,Aa (show i2<ds.length by omega)] at hkv
           exact (Bh hkv).symm
         rw [ekv] at hbk;replace hbk:H' bk=some (.tup (wV (wl cws)[i2])):=hbk
         have tk:(wl cws).take (i2+1)=(wl cws).take i2++[(wl cws)[i2]]:=by rw [Bd,ew2]; rfl
         rw [tk] at hA' hB';clear ekv hkv ew2 tk;generalize (wl cws)[i2]=wx at hbk hA' hB';have ehc:=sm _ _ eh7
         have eac:=sm _ _ ea7
         have hfc:=sm _ _ hbf7
         have yes:kF m first A wx=true->A' (.ref bk) H':=λhb=>by
           refine hA' _ _ hDc ⟨bI hD sm,rs++[bk],by rw [Ao]; rfl,?_⟩
           rw [sT,hb,if_pos rfl];refine WtsAt.keep (hwt.app (.one hbk)) λr w h=>?_;rw [aH (λz=>by rw [z,hDc] at h; cases h)]
           exact h
         have no:kF m first A wx=false->B' H':=λhb=>by
           refine hB' _ hDc ⟨sm,rs,rfl,?_⟩;rw [sT,hb,if_neg (by decide),Bi]
           exact hwt
         clear hA' hB';walk_at "go";refine ⟨Wk.set rfl (Wk.refl _),?_⟩;walk_at "go";refine eZE hbk hfc ?_;have hd2:decide ((wx.1:Int)=(first.1:Int)/\(wx.2:Int)=(first.2:Int))=decide (wx=first):=Dh.mpr ⟨λh=>Prod.ext (by omega) (by omega),λh=>by rw [h]; exact ⟨rfl,rfl⟩⟩
         rw [hd2];by_cases e:wx=first
         . rw [An e];walk_at "go";exact yes (xU e)
         . rw [Ax e];have hdd:isD H' ah=true:=by unfold isD; rw [ehc]
           walk_at "go";refine aZ1 (k:=dN wx) (.inl ehc) hbk ?_;rw [kS];cases eg:eM m wx with
           | none=>
             refine dZN (.inl eac) ?_;walk_at "go";exact no (sK e eg)
           | some g=>
             have hlb:=qW (A:=A) e eg
             refine cJM (z:=one g) (.inl eac) ?_;rw [lP hbl];refine gJ (λhg=>?_) (λhg=>?_)
             . walk_at "go";exact yes (hlb.trans hg)
             . walk_at "go";exact no (hlb.trans (Bs.mpr hg))
       . rintro D ys Hc hD ⟨sm,rs,rfl,hwt⟩ hDc _;rw [Bp] at hwt;have su:=bQX sm
         have eu:=fJ (Hs:=H7) hDc (λo v z=>nomatch z)
         have hwu:WtsAt (unf H7 Hc) rs (kL m first A (wl cws)):=hwt.keep λr w h=>fJ h λo v z=>nomatch z
         refine xE ?_;unfold cQ3;dsimp only;generalize unf H7 Hc=H8 at su eu hwu ⊢;have ea8:=su _ _ ea7
         walk_at "go";refine aJG (λc=>if decide (c∈A.map (·.1))=true then some (.str (one c)) else none) (by decide) (λi3 c Hc2 A' B' hc sm2 hA'=>?_) (λD2 H9 hD2 s9 hr9=>?_)
         . have r:=hA' _ (Same.refl _)
           walk_at "go";refine ⟨Wk.set rfl (Wk.refl _),?_⟩;walk_at "go";refine dQX (z:=one c) (neg:=false) (.inl (sm2 _ _ ea8)) ?_;rw [if_neg (by decide),lP hbl]
           refine gJ (λhg=>?_) (λhg=>?_)
           . rw [if_pos hg] at r;walk_at "go";exact r
           . rw [if_neg hg] at r;exact r
         . have ef:(Str.ofString "abcdefghijklmnopqrstuvw1234").cps.toList.filterMap (λc=>if decide (c∈A.map (·.1))=true then some (V.str (one c)) else none)=((flagsT.cps.toList.filter λc=>decide (c∈A.map (·.1))).map one).map V.str:=by
             rw [show (Str.ofString "abcdefghijklmnopqrstuvw1234")=flagsT from rfl];generalize flagsT.cps.toList=L;induction L with
             | nil=>rfl
             | cons c r ih=>
               rw [Eg,Gh];by_cases hg:decide (c∈A.map (·.1))=true
               . rw [if_pos hg,if_pos hg,Au,Au,<-ih]
               . rw [if_neg hg,if_neg hg,<-ih]
           rw [ef] at hr9;have eD9:=s9 _ _ eu
           walk_at "go";refine ⟨by show 2<=sizeLine; decide,λea hea=>⟨ea,D,D2,_,_,rfl,aD,aK (aG hea _) (aT eD9),aK (aG hea _) (aT hr9),λdx l1 l2 H' frx hdx nde e1 e2 e3 e4 hl1 hl2=>⟨rfl,some dx,e1,?_⟩⟩⟩
           have n1:l1≠ea:=λz=>by rw [z,e1] at e3; cases e3
           have n2:l2≠ea:=λz=>by rw [z,e1] at e4; cases e4
           have go9:∀ b u,H9 b=some u->(del H' ea) b=some u:=λb u hu=>by
             have nb:b≠ea:=λz=>by rw [z,hea] at hu; cases hu
             rw [eK nb];exact frx b u nb (by rw [aH nb]; exact hu)
           have hto:∀ b u,H b=some u->H9 b=some u:=λb u hu=>by
             refine s9 _ _ (su _ _ (fr7 b u (λz=>by rw [z,hac] at hu; cases hu) (λz=>?_) (λz=>?_) (s1 _ _ hu)))
             . have:=s1 _ _ hu
               rw [z,hal] at this;cases this
             . have:=s1 _ _ hu
               rw [z,hah1] at this;cases this
           refine qe dx l1 l2 rs _ _ (del H' ea) (λb u hu=>go9 _ _ (hto b u hu)) ((eK nde).trans e2) ((eK n1).trans e3) (hwu.keep λr w h=>go9 _ _ (s9 _ _ h)) ((eK n2).trans e4) ?_ (none_of hto (by rw [aH n1] at hl1; exact hl1)) (none_of hto (by rw [aH n2] at hl2; exact hl2))
           . rw [hn0];refine dQH (l:=(wl cws).take i) (r:=(wl cws).drop (i+1)) (fl:=fl) ?_ hk hL hmo hfw hask hct (λc hc=>?_)
             . have e:=Em (i+1) (wl cws)
               rw [htk,Eu] at e;exact e.symm
             . have:=List.filter_eq_nil_iff.mp hfr c hc
               rw [Bj] at this;exact this
     | cons f0 fr0=>
       rw [hfr] at eu;rw [show (List.map V.str (List.map one (f0::fr0))).isEmpty=false from rfl];have hf0m:f0∈(A.map (·.1)).filter (λc=>decide (0<aS fl c)):=by rw [hfr]; exact Am
       rw [Dx,Bj] at hf0m;obtain ⟨hf0A,hf0p⟩:=hf0m;obtain ⟨n1,hn1⟩:∃ n1,fl f0=some n1:=by
         cases e:fl f0 with
         | none=>rw [show aS fl f0=0 by unfold aS; rw [e]; rfl] at hf0p; omega
         | some n=>exact ⟨n,rfl⟩
       have hcn1:aS fl f0=n1:=by unfold aS; rw [hn1]; rfl
       have el7:=s67 _ _ el6
       have ea7:=s67 _ _ ea6
       have eh7:=s67 _ _ eh6
       have ec7:=s67 _ _ ec6
       have eD7:=s67 _ _ eu
       have wb7:WtsAt H7 bs (A.map (·.2)):=wb6.keep λr w h=>s67 _ _ h
       have hdl7:=pB el7
       have at0:atI (List.map V.str (List.map one (f0::fr0))) 0=some (V.str (one f0)):=bJ (show (List.map V.str (List.map one (f0::fr0)))[0]?=some (V.str (one f0)) from rfl)
       walk_at "go";refine fO (aT eD7) (v:=.str (one f0)) at0 ?_;walk_at "go";refine xA (z:=one f0) (.inl el7) (by rw [lkl.val f0,hn1]; rfl) ?_
       walk_at "go";refine fO (aT eD7) (v:=.str (one f0)) at0 ?_;walk_at "go";refine lK (z:=one f0) el7 (bG (by omega)) ?_
       have nDl:D≠al:=λz=>by rw [z] at hD4; rw [hD4] at el4; cases el4
       have npl:pa≠al:=λz=>by rw [z] at hpa; rw [hpa] at el4; cases el4
       have nhl:ah≠al:=Ne.symm nlh
       have ncl:ac≠al:=Ne.symm nla
       have el8:(upd H7 al (.dK (eP kl2 (Sum.inr (one f0)) (V.int (n1 - 1))))) al=_:=aD
       have ea8:(upd H7 al (.dK (eP kl2 (Sum.inr (one f0)) (V.int (n1 - 1))))) pa=_:=(aH npl).trans ea7
       have eh8:(upd H7 al (.dK (eP kl2 (Sum.inr (one f0)) (V.int (n1 - 1))))) ah=_:=(aH nhl).trans eh7
       have ec8:(upd H7 al (.dK (eP kl2 (Sum.inr (one f0)) (V.int (n1 - 1))))) ac=_:=(aH ncl).trans ec7
       have eD8:(upd H7 al (.dK (eP kl2 (Sum.inr (one f0)) (V.int (n1 - 1))))) D=_:=(aH nDl).trans eD7
       have wb8:WtsAt (upd H7 al (.dK (eP kl2 (Sum.inr (one f0)) (V.int (n1 - 1))))) bs (A.map (·.2)):=wb7.keep λr w h=>by
         rw [aH (λz=>by rw [z,el7] at h; cases h)]
         exact h
       have fr8:∀ p u,p≠ac->p≠al->p≠ah->H1 p=some u->(upd H7 al (.dK (eP kl2 (Sum.inr (one f0)) (V.int (n1 - 1))))) p=some u:=λp u h1 h2 h3 hu=>by
         rw [aH h2];exact s67 _ _ (fr6 p u h1 h2 h3 hu)
       generalize upd H7 al (.dK (eP kl2 (Sum.inr (one f0)) (V.int (n1 - 1))))=H8 at el8 ea8 eh8 ec8 eD8 wb8 fr8 ⊢;walk_at "go";refine fO (aT eD8) (v:=.str (one f0)) at0 ?_;walk_at "go";refine ⟨pa,ah,cws,m,first,A,bs,f0,rfl,ea8,wb8,hask.toAsking,eh8,hmo.nd,hfn,hmc,hf0A,hml,λm' H9 fr9 eh9 hk9 hc9 hct9=>?_⟩
       walk_at "go";refine ⟨m',_,_,_,_,_,_,rfl,λp u h1 h2 h3 hu=>fr9 p u h3 (fr8 p u h1 h2 h3 hu),fr9 _ _ (Ne.symm nac) ec8,eh9,fr9 _ _ nlh el8,lkl.put f0 (n1 - 1),?_,?_,hc9,λc=>?_⟩
       . have hv:bW kl2 (Sum.inr (one f0))≠none:=by rw [lkl.val f0,hn1]; exact λz=>nomatch z
         have e:=Dt List.length (yX kl2 (Sum.inr (one f0)) (.int (n1 - 1)) hv)
         rw [Ab,Ab] at e;omega
       . rw [hk9,hk,htk]
       . have h1:=hct c
         have h2:=hct9 c
         have h3:aS (λd=>if d=f0 then some (n1 - 1) else fl d) c=if c=f0 then n1 - 1 else aS fl c:=by
           show ((if c=f0 then some (n1 - 1) else fl c):Option Int).getD 0=_
           by_cases z:c=f0
           . rw [if_pos z,if_pos z]; rfl
           . rw [if_neg z,if_neg z]; rfl
         rw [h3];by_cases z:c=f0
         . subst z;rw [if_pos rfl] at h2 ⊢;omega
         . rw [if_neg z] at h2 ⊢;omega
 . rintro σ H4 ⟨m,kl2,fl,v5,v6,v7,v8,rfl,fr,ec,eh,el4,lkl,l27,hk,hmc,hct⟩;rw [kl,Bp] at hk;have ec5:=xC (Hs:=H3) ec (λo v z=>by rw [ed3] at z; cases z)
   have eh5:=fJ (Hs:=H3) eh (λo v z=>nomatch z)
   have sh5:Same H (unf H3 H4):=λb u hu=>by
     have h1:=s1 _ _ hu
     have h4:=fr b u (λz=>by rw [z,hac] at hu; cases hu) (λz=>by rw [z,hal] at h1; cases h1) (λz=>by rw [z,hah1] at h1; cases h1) h1
     by_cases hf:∃ o v,u=.frz o v
     . obtain ⟨o',v',rfl⟩:=hf;exact oM h4 (s13 _ _ h1)
     . exact fJ h4 λo v z=>hf ⟨o,v,z⟩
   unfold cQ3;dsimp only;generalize unf H3 H4=H5 at ec5 eh5 sh5 ⊢;have hml:m.length=(wl cws).length:=by rw [<-hk,Ab]
   have hnd:(m.map (·.1)).Nodup:=by rw [hk]; exact oN cws cws.length
   walk_at "go";refine xI ec5 λo2=>?_;have fz2:(upd H5 ac (.frz o2 (.dT (eQ (wl cws) ds)))) ac=_:=aD
   have eh6:(upd H5 ac (.frz o2 (.dT (eQ (wl cws) ds)))) ah=_:=(aH nac).trans eh5
   refine jX (n:=(wl cws).length) (λD i ys Hc=>Same (upd H5 ac (.frz o2 (.dT (eQ (wl cws) ds)))) Hc/\ys=(((m.take i).map (·.2)).map one).map V.str) (bG (by omega)) (λD hD=>⟨aG hD _,rfl⟩) (λD i ys Hc _ r h=>⟨r.1 _ _ fz2,by rw [kl]; exact h⟩) (λD ys Hc _ r=>⟨r.1 _ _ fz2,kl⟩) ?_ ?_
   . rintro D i2 ys Hc x H' A' B' hD hi2 ⟨sm,rfl⟩ hDc ⟨rfl,kv,bk,hkv,rfl,hbk⟩ hA' hB';have ew2:(wl cws)[i2]?=some (wl cws)[i2]:=Aa hi2
     have ekv:kv=(dN (wl cws)[i2],V.ref (ds[i2]'(by omega))):=by
       unfold eQ at hkv;rw [Fu,ew2,Aa (show i2<ds.length by omega)] at hkv
       exact (Bh hkv).symm
     rw [ekv] at hbk;have em:m[i2]?=some m[i2]:=Aa (by omega)
     have e1:m[i2].1=(wl cws)[i2]:=by
       have e0:(m.map (·.1))[i2]?=some (wl cws)[i2]:=by rw [hk]; exact ew2
       rw [Af,em] at e0;exact Bh e0
     have tk:m.take (i2+1)=m.take i2++[m[i2]]:=by rw [Bd,em]; rfl
     rw [tk] at hA';replace hbk:H' bk=some (.tup ((dN m[i2].1).map kV)):=by rw [e1]; exact hbk
     have hval:bW (iF m) (dN m[i2].1)=some (.str (one m[i2].2)):=by
       have hm2:(m[i2].1,m[i2].2)∈m:=Al em
       rw [kS,oB hnd hm2];rfl
     clear ekv hkv ew2 tk e1 em;generalize m[i2]=mx at hbk hA' hval;have ehc:=sm _ _ eh6
     walk_at "go";refine ⟨Wk.set rfl (Wk.refl _),?_⟩;walk_at "go";refine aXM (k:=dN mx.1) (.inl ehc) hbk hval ?_;refine hA' _ _ hDc ⟨bI hD sm,?_⟩;rw [Ao,Ao,Ao];rfl
   . rintro D ys Hc hD ⟨sm,rfl⟩ hDc _;rw [<-hml,Bp] at hDc;have su:=rZ ec5 (λo v z=>nomatch z) sm
     have eu:=fJ (Hs:=H5) hDc (λo v z=>nomatch z)
     generalize unf H5 Hc=H6 at su eu ⊢;have s06:=sh5.trans su
     refine ⟨b,D,cws,m.map (·.2),rfl,aK s06 hb,aT eu,h8,h7,λr ps H7 hr s7 er hne hls=>?_⟩;refine q r ps (m.map (·.2)) H7 (none_of s06 hr) (s06.trans s7) er hne (hls.older s06) (by rw [Ab,hml]) (λj w g hw hg=>?_) (λc=>?_)
     . rw [<-hk,Af] at hw;rw [Af] at hg;cases em:m[j]? with
       | none=>rw [em] at hw; cases hw
       | some x=>
         rw [em] at hw hg;cases hw;cases hg;exact hmc x.1 x.2 (Al em)
     . rw [hn0];have h1:=hct c
       have h2:ctn (m.map (·.2)) c=ctm m c:=by
         unfold ctn ctm;rw [List.countP_map];rfl
       rw [h2];omega
def CanH (n:Nat->Int) (cws:List (List Nat)):Prop:=∃ fs:List Nat,fs.length=(wl cws).length/\(∀ (j:Nat) w g,(wl cws)[j]?=some w->fs[j]?=some g->g∈chW cws w)/\∀ c,(ctn fs c:Int)<=n c
def aZG (x:Nat):∀ {F:List Nat},F.Nodup->(F.map λc=>if x=c then 1 else 0).sum=if x∈F then 1 else 0
 | [],_=>rfl
 | c::r,h=>by
   have n1:=Cf.mp h
   rw [Au,Cj,aZG x n1.2];by_cases e:x=c
   . subst e;rw [if_pos rfl,if_neg n1.1,if_pos Am]
   . rw [if_neg e];by_cases m:x∈r
     . rw [if_pos m,if_pos (Ak _ m)]
     . rw [if_neg m,if_neg λz=>(Ay.mp z).elim e m]
def aZJ (g h:Nat->Nat):∀ F:List Nat,(F.map λc=>g c+h c).sum=(F.map g).sum+(F.map h).sum
 | []=>rfl
 | c::r=>by
   rw [Au,Cj,aZJ g h r,Au,Cj,Au,Cj];omega
def aJN {F:List Nat} (nd:F.Nodup):∀ fs:List Nat,(F.map (ctn fs)).sum=fs.countP λx=>decide (x∈F)
 | []=>by
   have:∀ F:List Nat,(F.map (ctn [])).sum=0:=λF=>by
     induction F with
     | nil=>rfl
     | cons c r ih=>rw [Au,Cj,ih]; rfl
   rw [this];rfl
 | x::r=>by
   have e:ctn (x::r)=λc=>ctn r c+if x=c then 1 else 0:=by
     funext c
     unfold ctn;rw [Dr];by_cases h:x=c
     . rw [if_pos h,if_pos (An h)]
     . rw [if_neg h,if_neg (by rw [Bj]; exact h)]
   rw [e,aZJ,aJN nd r,aZG x nd,Dr];by_cases h:x∈F
   . rw [if_pos h,if_pos (An h)]
   . rw [if_neg h,if_neg (by rw [Bj]; exact h)]
def rO {α β:Type} {p:α->Bool} {q:β->Bool}:∀ (L:List α) (M:List β),L.length=M.length->(∀ (j:Nat) a b,L[j]?=some a->M[j]?=some b->p a=true->q b=true)->L.countP p<=M.countP q
 | [],_,_,_=>Cr _
 | a::L,[],h,_=>by cases h
 | a::L,b::M,h,hpq=>by
   rw [Dr,Dr];have ih:=rO L M (by simpa using h) λj x y hx hy=>hpq (j+1) x y hx hy
   have h0:=hpq 0 a b rfl rfl
   by_cases pa:p a=true
   . rw [if_pos pa,if_pos (h0 pa)]; omega
   . rw [if_neg pa]; omega
def zP {g h:Nat->Int} (e:∀ c,g c<=h c):∀ F:List Nat,(F.map g).sum<=(F.map h).sum
 | []=>Ho _
 | c::r=>by
   rw [Au,Cj,Au,Cj];have:=zP e r
   have:=e c
   omega
def bQY {W L:List Wt} (s:W.Sublist L):W.length<=L.countP λw=>decide (w∈W):=by
 have h:=s.countP_le (p:=λw=>decide (w∈W))
 have e:W.countP (λw=>decide (w∈W))=W.length:=List.countP_eq_length.mpr λw hw=>An hw
 omega
def cXY {cws:Q5} {n:Nat->Int} {W:List Wt} {F:List Nat} (h:LackOk cws n W F):F.Nodup:=by
 obtain ⟨p,rfl⟩:=h.flags;exact List.Nodup.sublist Fc (by decide)
def yA {cws:Q5} {n:Nat->Int} {W:List Wt} {F:List Nat} (h:LackOk cws n W F):¬ CanH n cws:=by
 rintro ⟨fs,hl,hch,hct⟩;have h1:=bQY h.sub
 have h2:((wl cws).countP λw=>decide (w∈W))<=fs.countP λx=>decide (x∈F):=rO _ _ hl.symm λj w g hw hg hp=>An (h.all w (Az hp) g (hch j w g hw hg))
 have h3:=aJN (cXY h) fs
 have h4:=zP hct F
 rw [oR (ctn fs) F] at h4;have h5:=h.few
 omega
def sN:Sp:=λvs H Q _=>∃ (a b:Addr) (kvs:List (Key×V)) (f:Nat->Option Int) (cws:List (List Nat)),vs=[.ref a,.ref b]/\Rd H a (.dK kvs)/\Lk kvs f/\rdL H b=some ((cws.map aU).map V.str)/\cws.length<=8/\(∀ c∈cws,c.length<=7/\∀ d∈c,aQ d)/\
 (CanH (aS (bM (aS f))) cws->∀ H',Same H H'->Q .non H')/\(∀ (t l1 l2:Addr) (rs:List Addr) (W:List Wt) (F:List Nat) (H':Hp),Same H H'->H t=none->H' t=some (.tup [.ref l1,.ref l2])->H' l1=some (.lst (rs.map V.ref))->WtsAt H' rs W->H' l2=some (.lst ((F.map one).map V.str))->LackOk cws (aS (bM (aS f))) W F->H l1=none->H l2=none->Q (.ref t) H')
def sc_lack_of:FnScope ["locker", "words", "lack"] ["locker", "words"] (aF hU):=by walk_at "sc"
def aXH {Zt Zz Zu Zx Z0 Zw Zy Zv:Addr} {f:Addr} {fd:FuncData} (F:Fun K "lack_of" "lack_of" hU f fd) (G:Gs K mg w Zt Zz Zu Zx Z0 Zw Zy Zv) (c_hang_all:kH P w K mg base 3 "hang_all" ["locker", "words"] (kR Zt)):FnOk P w K mg base CX0 4 f fd ["locker", "words"] sN:=by
 refine F.ok sc_lack_of (λvs H Q E h=>?_) (λcdv A outer s H vs Q E hr h=>?_)
 . obtain ⟨a,b,kvs,f,cws,rfl,_⟩:=h; rfl
 obtain ⟨a,b,kvs,f,cws,rfl,ha,lk,hb,h8,hL,q1,q2⟩:=h;refine ⟨_,(@aE _ _ _ _ _ (dZ5 (i:=2) rfl rfl rfl sc_lack_of.nd rfl rfl rfl G.c_Lack (λpins R=>(@aI _ _ _ (cD (cZ3 c_hang_all (mY rfl) hr (by decide) rfl (aA (mv 0) (aA (mv 1) aB)))))) (λpins ea=>(@aI _ _ _ (aV (gG (aA (zK (K:=K) rfl (mv 2) rfl) (aA (zK (K:=K) rfl (mv 2) rfl) aB))))))) (@aI _ _ _ (aV cW))),?_⟩
 walk_at "go";refine ⟨a,b,kvs,f,cws,rfl,ha,lk,hb,h8,hL,λrh ps fs H1 hrh s1 er hne hls hfl hch hct=>?_,λdx l1 l2 rs W F H1 s1 ed el1 hwt el2 hlo hn1 hn2=>⟨G.m_Lack,λea hea=>?_⟩⟩
 . walk_at "go";exact q1 ⟨fs,hfl,hch,hct⟩ _ s1
 . have k2:=aG hea (tX ea (.ref Zt) (some dx))
   have e2:(upd H1 ea (tX ea (.ref Zt) (some dx))) ea=_:=aD
   have ed2:=k2 _ _ ed
   generalize upd H1 ea (tX ea (.ref Zt) (some dx))=H2 at k2 e2 ed2 ⊢;walk_at "go";refine ⟨ea,Zt,dx,_,_,rfl,.inl e2,ed2,G.xx_Lack,G.xn_Lack_wants,rfl,?_⟩;walk_at "go";refine ⟨ea,Zt,dx,_,_,rfl,.inl e2,ed2,G.xx_Lack,G.xn_Lack_flags,rfl,?_⟩;walk_at "go";refine ⟨by show 2<=sizeLine; decide,λt ht=>?_⟩
   have s3:=k2.trans (aG ht (.tup [.ref l1,.ref l2]))
   exact q2 t l1 l2 rs W F _ (s1.trans s3) (none_of (s1.trans k2) ht) aD (s3 _ _ el1) ⟨hwt.1,λj p w hp hw=>s3 _ _ (hwt.2 j p w hp hw)⟩ (s3 _ _ el2) hlo hn1 hn2
def qJ {ks:List Nat} {j:Nat} {x:V} (h:(ks.map λk=>V.int ((k:Nat):Int))[j]?=some x):∃ k,ks[j]?=some k/\x=.int ((k:Nat):Int):=by
 rw [Af] at h;cases e:ks[j]? with
 | none=>rw [e] at h; cases h
 | some k=>rw [e] at h; cases h; exact ⟨k,rfl,rfl⟩
def cI:List Nat->Nat->List (List Nat)
 | _,0=>[[]]
 | ks,m+1=>(List.range ks.length).flatMap λj=>(cI (ks.drop (j+1)) m).map λl=>ks.getD j 0::l
def jZ (ks:List Nat):cI ks 0=[[]]:=by cases ks <;> rfl
def jV (ks:List Nat) (m:Nat):cI ks (m+1)=(List.range ks.length).flatMap λj=>(cI (ks.drop (j+1)) m).map λl=>ks.getD j 0::l:=by rw [cI]
def zS {x:Nat} {l:List Nat}:∀ {ks:List Nat},(x::l).Sublist ks->∃ j,j<ks.length/\ks.getD j 0=x/\l.Sublist (ks.drop (j+1))
 | [],h=>by cases h
 | k::ks,h=>by
   rcases List.sublist_cons_iff.mp h with e | ⟨r,e,hr⟩
   . obtain ⟨j,h1,h2,h3⟩:=zS e;exact ⟨j+1,Nat.succ_lt_succ h1,h2,h3⟩
   . cases e;exact ⟨0,Nat.succ_pos _,rfl,hr⟩
def mem_combs:∀ {m:Nat} {ks l:List Nat},l∈cI ks m ↔ l.Sublist ks/\l.length=m
 | 0,ks,l=>by
   rw [jZ,Aj];constructor
   . rintro rfl;exact ⟨List.nil_sublist _,rfl⟩
   . exact λh=>Fh h.2
 | m+1,ks,l=>by
   rw [jV,Hi];constructor
   . rintro ⟨j,hj,hl⟩;rw [Bw] at hj;obtain ⟨l',h1,rfl⟩:=Be.mp hl;obtain ⟨h2,h3⟩:=mem_combs.mp h1;refine ⟨?_,by rw [Aw,h3]⟩
     have e:ks.getD j 0::ks.drop (j+1)=ks.drop j:=by
       rw [Ac,Aa hj];exact (List.drop_eq_getElem_cons hj).symm
     have h4:(ks.getD j 0::l').Sublist (ks.getD j 0::ks.drop (j+1)):=h2.cons_cons _
     rw [e] at h4;exact h4.trans (List.drop_sublist _ _)
   . rintro ⟨h1,h2⟩;cases l with
     | nil=>cases h2
     | cons x l=>
       obtain ⟨j,h3,h4,h5⟩:=zS h1;exact ⟨j,List.mem_range.mpr h3,List.mem_map.mpr ⟨l,mem_combs.mpr ⟨h5,by simpa using h2⟩,by rw [h4]⟩⟩
def pG {α β:Type} (f:α->List β) (b:Nat):∀ (L:List α),(∀ x∈L,(f x).length<=b)->(L.flatMap f).length<=L.length * b
 | [],_=>Cr _
 | x::r,h=>by
   rw [Fz,Ag,Aw,Nat.succ_mul];have h1:=pG f b r λy hy=>h y (Ak _ hy)
   have h2:=h x Am
   omega
def jE:∀ {m:Nat} {ks:List Nat},ks.length<=6->(cI ks m).length<=6 ^ m
 | 0,ks,_=>by rw [jZ]; decide
 | m+1,ks,h=>by
   rw [jV];refine Bg (pG _ (6 ^ m) _ λj _=>?_) ?_
   . rw [Ab];exact jE (by rw [Cd]; omega)
   . rw [Ca,Nat.pow_succ,Nat.mul_comm];exact Nat.mul_le_mul_left _ h
def eJF {k:Nat} {ks L:List Nat} (s:ks.Sublist L):k ∈ L->k ∉ ks->∃ l:List Nat,l.Sublist L/\l.Perm (k::ks):=by
 induction s with
 | slnil=>intro h; cases h
 | @cons ks L a s ih=>
   intro h h';by_cases e:k=a
   . subst e;exact ⟨_,s.cons_cons _,List.Perm.refl _⟩
   . obtain ⟨l,h1,h2⟩:=ih ((Ay.mp h).resolve_left e) h';exact ⟨l,h1.cons _,h2⟩
 | @cons_cons ks L a s ih=>
   intro h h';have e:k≠a:=λe=>h' (e ▸ Am)
   obtain ⟨l,h1,h2⟩:=ih ((Ay.mp h).resolve_left e) λz=>h' (Ak _ z);exact ⟨a::l,h1.cons_cons _,(h2.cons a).trans (List.Perm.swap k a ks)⟩
def bZM (ks:List Nat) (j:Nat):(ks.map λk=>V.int ((k:Nat):Int)).drop j=((ks.drop j).map λk=>V.int ((k:Nat):Int)):=(Gk ..).symm
def bXO {xs:List V} {k:Nat}:kY xs (some ((k:Nat):Int)) none=xs.drop k:=by
 unfold kY;show (xs.drop (if ((k:Nat):Int)<0 then (((k:Nat):Int)+(xs.length:Int)).toNat else min ((k:Nat):Int).toNat xs.length)).take (xs.length - (if ((k:Nat):Int)<0 then (((k:Nat):Int)+(xs.length:Int)).toNat else min ((k:Nat):Int).toNat xs.length))=_
 rw [if_neg (by omega),Fy]
 by_cases h:k<=xs.length
 . rw [Er h,Bf (by rw [Cd]; omega)]
 . rw [Ek (by omega),List.drop_length,Hl,Ej (by omega)]
def oO (ks:List Nat) (m i:Nat):List (List Nat):=(List.range i).flatMap λj=>(cI (ks.drop (j+1)) m).map λl=>ks.getD j 0::l
def yI (ks:List Nat) (m i:Nat):oO ks m (i+1)=oO ks m i++(cI (ks.drop (i+1)) m).map λl=>ks.getD i 0::l:=by
 unfold oO;rw [Bx,Fb,Fz,List.flatMap_nil,Bi]
def eJ5 {m:Nat} (h:m<=7):6 ^ m<=279936:=Bg (Nat.pow_le_pow_right (by decide) h) (by decide)
def aXN {ks:List Nat} {m i:Nat} (h:ks.length<=6):(oO ks m i).length<=i * 6 ^ m:=by
 have:=pG (λj=>(cI (ks.drop (j+1)) m).map λl=>ks.getD j 0::l) (6 ^ m) (List.range i) λj _=>by
   rw [Ab];exact jE (by rw [Cd]; omega)
 rwa [Ca] at this
def eZD {L:Q5} {j:Nat} {t:List V} (h:(L.map λl=>(l.map λk=>V.int ((k:Nat):Int)))[j]?=some t):∃ l,L[j]?=some l/\t=(l.map λk=>V.int ((k:Nat):Int)):=by
 rw [Af] at h;cases e:L[j]? with
 | none=>rw [e] at h; cases h
 | some l=>rw [e] at h; cases h; exact ⟨l,rfl,rfl⟩
def aXV {ps:List Addr} {j:Nat} {x:V} (h:(ps.map V.ref)[j]?=some x):∃ p,ps[j]?=some p/\x=.ref p:=by
 rw [Af] at h;cases e:ps[j]? with
 | none=>rw [e] at h; cases h
 | some p=>rw [e] at h; cases h; exact ⟨p,rfl,rfl⟩
def aQ2 (k:Nat) (L:Q5):(List.range L.length).map (λj=>V.int ((k:Nat):Int)::((L.getD j []).map λk=>V.int ((k:Nat):Int)))=(L.map λl=>k::l).map λl=>(l.map λk=>V.int ((k:Nat):Int)):=by
 rw [Cc];have h:∀ n,n<=L.length->(List.range n).map (λj=>V.int ((k:Nat):Int)::((L.getD j []).map λk=>V.int ((k:Nat):Int)))=(L.take n).map ((λl=>(l.map λk=>V.int ((k:Nat):Int))) ∘ λl=>k::l):=λn=>by
   induction n with
   | zero=>intro _; rfl
   | succ n ih=>
     intro hn;have e:L[n]?=some L[n]:=Aa (by omega)
     rw [Bx,Ao,ih (by omega),Bd,e,Ao]
     refine Dt _ ?_;show [V.int ((k:Nat):Int)::((L.getD n []).map λk=>V.int ((k:Nat):Int))]=[((k::L[n]).map λk=>V.int ((k:Nat):Int))]
     rw [Ac,e];rfl
 have r:=h L.length (Ah _)
 rwa [Bp] at r
def cO (n:Nat):Sp:=λvs H Q _=>∃ (b:Addr) (ks:List Nat) (m:Nat),vs=[.ref b,.int ((m:Nat):Int)]/\rdL H b=some (ks.map λk=>V.int ((k:Nat):Int))/\ks.length<=6/\m<n/\m<=7/\
 ∀ (r:Addr) (ps:List Addr) (H':Hp),H r=none->Same H H'->H' r=some (.lst (ps.map V.ref))->Lsts H H' ps ((cI ks m).map λl=>(l.map λk=>V.int ((k:Nat):Int)))->(∀ p∈ps,p≠r)->Q (.ref r) H'
def pA:∀ vs H Q E,¬ cO 0 vs H Q E:=λvs H Q E ⟨_,_,_,_,_,_,h,_⟩=>Fm _ h
def sc_rising_lists:FnScope ["numbers", "many", "lists", "at", "number", "behind"] ["numbers", "many"] (aF cK):=by walk_at "sc"
def pW {Zt Zz Zu Zx Z0 Zw Zy Zv:Addr} {f:Addr} {fd:FuncData} {d n:Nat} (F:Fun K "rising_lists" "rising_lists" cK f fd) (G:Gs K mg w Zt Zz Zu Zx Z0 Zw Zy Zv) (c_rising_lists:Cal P w K mg base (d+1) "rising_lists" ["numbers", "many"] (cO n)):FnOk P w K mg base CX0 (d+2) f fd ["numbers", "many"] (cO (n+1)):=by
 refine F.ok sc_rising_lists (λvs H Q E h=>?_) (λcdv A outer s H vs Q E hr h=>?_)
 . obtain ⟨b,ks,m,rfl,_⟩:=h; rfl
 obtain ⟨b,ks,m,rfl,hb,h6,hmn,h7,q⟩:=h;refine ⟨_,(@aE _ _ _ _ _ (cG (bA mO (mv 1) aJ (bE _)) (@aI _ _ _ (aV (bV (aA (bV aB) aB)))) bH) (@aE _ _ _ _ _ (@aP _ _ 2 _ _ _ _ sc_rising_lists.nd (by rfl) (by exact (Or.inl rfl)) (bV aB) (by rfl) (by walk_at "o")) (@aE _ _ _ _ _ (cR Br rfl (oA rfl G.b_enumerate (aA (mv 0) aB)) (fL (K:=K) (i:=3) (j:=4) (by rfl) (by rfl) sc_rising_lists.nd (by rfl) (by exact (Or.inl rfl)) (by exact Or.inl rfl) (by rfl) (by exact (Or.inr rfl)) (by exact Or.inl rfl)) (@aE _ _ _ _ _ (@aP _ _ 5 _ _ _ _ sc_rising_lists.nd (by rfl) (by exact (Or.inl rfl)) (aW c_rising_lists hr (Ah _) rfl (aA (jI cJE (mv 0) (gS (aR bS (mv 3) aJ)) vY) (aA (aR uA (mv 1) aJ) aB))) (by rfl) (by walk_at "o")) (@aI _ _ _ (cD (dB Bu Ec Ed yM (mv 2) (aA (cT rfl (cL (mv 5)) (iK (N:=["rest", "number"]) ["numbers", "many", "lists", "at", "number", "behind"] (aF cK) [none,some 4] rfl rfl rfl (λx h=>cA h) (by decide +kernel)) (by decide +kernel) rfl (by decide +kernel) (λ_ _ _ _=>(aY (i:=0) (show List.Nodup (["rest", "number"]:List Str) by decide +kernel) rfl (Or.inl rfl))) (λ_ _ _ _=>dO) (λ_ _ _ _=>(aR bS (bV (aA (mv 1) aB)) (mv 0)))) aB)))))) (@aI _ _ _ (aV (mv 2)))))),?_⟩
 cases m with
 | zero=>
   walk_at "go";rw [show decide (((0:Nat):Int)=0)=true from rfl];walk_at "go";refine ⟨by decide,λp hp=>?_⟩
   have s1:=aG hp (.lst [])
   have e1:(upd H p (.lst [])) p=some (.lst ((([]:List Nat)).map λk=>V.int ((k:Nat):Int))):=aD
   generalize upd H p (.lst [])=H1 at s1 e1 ⊢;walk_at "go";refine ⟨by show 1<=sizeLine; decide,λr hr=>?_⟩
   have s2:=aG hr (.lst [.ref p])
   have npr:p≠r:=λz=>by rw [z,hr] at e1; cases e1
   refine q r [p] _ (none_of s1 hr) (s1.trans s2) aD ?_ (λz hz=>by rw [Aj.mp hz]; exact npr)
   rw [jZ];exact Lsts.snoc (ps:=[]) (fs:=[]) .nil hp (s2 _ _ e1)
 | succ m=>
   have h6m:=eJ5 (m:=m+1) h7
   rw [Nat.pow_succ] at h6m;walk_at "go";rw [show decide (((m+1:Nat):Int)=0)=false from Ax (by omega)]
   walk_at "go";refine ⟨by decide,λp hp=>?_⟩
   have s1:=aG hp (.lst [])
   have e1:(upd H p (.lst [])) p=some (.lst (([]:List Addr).map V.ref)):=aD
   generalize upd H p (.lst [])=H1 at s1 e1 ⊢;have hb1:=aK s1 hb
   walk_at "go";refine qI (xs:=(ks.map λk=>V.int ((k:Nat):Int))) (λi σ H'=>∃ (ps:List Addr) (v3 v4 v5:Option V),σ=[some (.ref b),some (.int ((m+1:Nat):Int)),some (.ref p),v3,v4,v5]/\Same H H'/\H' p=some (.lst (ps.map V.ref))/\Lsts H H' ps ((oO ks m i).map λl=>(l.map λk=>V.int ((k:Nat):Int)))/\∀ z∈ps,z≠p)
     ⟨[],_,_,_,rfl,s1,e1,.nil,λz hz=>nomatch hz⟩ (λi σ H' _ ⟨_,_,_,_,_,e,_⟩=>aK e hb) ?_ ?_
   . rintro i x σ H2 pt hx ⟨ps,v3,v4,v5,rfl,s2,e2,ls,nd⟩ hpt;obtain ⟨k,ek,rfl⟩:=qJ hx;have hi:i<ks.length:=(Ad.mp ek).1
     have hps:ps.length=(oO ks m i).length:=by rw [ls.1,Ab]
     have hpl:=aXN (m:=m) (i:=i) h6
     have hpl2:i * 6 ^ m<=5 * 6 ^ m:=Nat.mul_le_mul_right _ (by omega)
     have s3:=s2.trans (aG hpt (.tup [.int ((0+i:Nat):Int),.int ((k:Nat):Int)]))
     have s23:=aG hpt (.tup [.int ((0+i:Nat):Int),.int ((k:Nat):Int)])
     have et3:(upd H2 pt (.tup [.int ((0+i:Nat):Int),.int ((k:Nat):Int)])) pt=some (.tup [.int ((0+i:Nat):Int),.int ((k:Nat):Int)]):=aD
     generalize upd H2 pt (.tup [.int ((0+i:Nat):Int),.int ((k:Nat):Int)])=H3 at s3 s23 et3 ⊢;have hb3:=aK s3 hb
     have tt3:=cU et3
     walk_at "go";rw [show ((0+i:Nat):Int)+1=((i+1:Nat):Int) by omega]
     intro ra hra;rw [bXO,bZM];have s4:=aG hra (.lst ((ks.drop (i+1)).map λk=>V.int ((k:Nat):Int)))
     have e4:rdL (upd H3 ra (.lst ((ks.drop (i+1)).map λk=>V.int ((k:Nat):Int)))) ra=some ((ks.drop (i+1)).map λk=>V.int ((k:Nat):Int)):=dG
     generalize upd H3 ra (.lst ((ks.drop (i+1)).map λk=>V.int ((k:Nat):Int)))=H4 at s4 e4 ⊢;have s24:=s23.trans s4
     walk_at "go";rw [show ((m+1:Nat):Int) - 1=((m:Nat):Int) by omega]
     refine ⟨ra,ks.drop (i+1),m,rfl,e4,by rw [Cd]; omega,by omega,by omega,λrb qs H5 hrb s5 e5 lq nq=>?_⟩
     have s25:=s24.trans s5
     have rb5:=aT e5
     have rp5:=aT (s25 _ _ e2)
     have hqs:qs.length=(cI (ks.drop (i+1)) m).length:=by rw [lq.1,Ab]
     have hql:(cI (ks.drop (i+1)) m).length<=6 ^ m:=jE (by rw [Cd]; omega)
     walk_at "go";refine cZ1 (λj=>V.int ((k:Nat):Int)::(((cI (ks.drop (i+1)) m).getD j []).map λk=>V.int ((k:Nat):Int))) rb5 (by rw [Ab,hqs]; exact Nat.lt_of_le_of_lt (Bg hql (Bg (Nat.le_mul_of_pos_right _ (by decide:0<6)) h6m)) (by decide)) (λj x Hc A B hx sm hA=>?_) (λD Hd us hD sd eD hul lu nu=>?_)
     . obtain ⟨u,eu,rfl⟩:=aXV hx;have hj:j<(cI (ks.drop (i+1)) m).length:=by rw [<-hqs]; exact (Ad.mp eu).1
       obtain ⟨l,el⟩:∃ l,(cI (ks.drop (i+1)) m)[j]?=some l:=⟨_,Aa hj⟩;have hu:=sm _ _ (lq.2 j u (l.map λk=>V.int ((k:Nat):Int)) eu (by rw [Af,el]; rfl)).2
       have hll:l.length=m:=(mem_combs.mp (Al el)).2
       have hgl:(cI (ks.drop (i+1)) m).getD j []=l:=by rw [Ac,el]; rfl
       rw [hgl] at hA;walk_at "go";refine ⟨Wk.set rfl (Wk.refl _),?_⟩;walk_at "go";refine ⟨by show 1<=sizeLine; decide,λp6 hp6=>?_⟩
       have s6:=aG hp6 (.lst [V.int ((k:Nat):Int)])
       have e6:(upd Hc p6 (.lst [V.int ((k:Nat):Int)])) p6=some (.lst [V.int ((k:Nat):Int)]):=aD
       have hu6:=s6 _ _ hu
       generalize upd Hc p6 (.lst [V.int ((k:Nat):Int)])=H6 at s6 e6 hu6 ⊢;refine jN (bL e6) (bL hu6) (bN (by rw [Ab]; show 1+_<=_; omega)) λp7 hp7=>?_
       exact hA p7 _ (none_of s6 hp7) (s6.trans (aG hp7 _)) aD
     . rw [Ab,hqs,aQ2] at lu;rw [Ab] at hul;have s2d:=s25.trans sd
       have e2d:=s2d _ _ e2
       have npD:∀ z∈us,z≠p:=λz hz zp=>by
         obtain ⟨g,_,h1,_⟩:=lu.mem hz;rw [zp,s25 _ _ e2] at h1;cases h1
       have hek:ks.getD i 0=k:=by rw [Ac,ek]; rfl
       walk_at "go";refine dQ8 (bL e2d) (bL eD) (Bg (by rw [Ab,Ab,hps,hul,hqs]; omega:_<=279936) (by decide)) ?_
       walk_at "go";refine ⟨ps++us,_,_,_,rfl,bI hp (s2.trans s2d),by rw [Ao]; exact aD,?_,λz hz=>?_⟩
       . rw [yI,Ao,hek];refine Lsts.put ?_ λz hz=>?_
         . exact (ls.keep s2d).app (lu.older (s2.trans s25))
         . rcases Bl.mp hz with e | e
           . exact nd z e
           . exact npD z e
       . rcases Bl.mp hz with e | e
         . exact nd z e
         . exact npD z e
   . rintro σ H2 ⟨ps,v3,v4,v5,rfl,s2,e2,ls,nd⟩;walk_at "go";refine q p ps H2 hp s2 e2 ?_ nd;rw [jV];rw [Ab] at ls;exact ls
def uW (sep:Array Nat):∀ (ys:List Str) (acc:Array Nat),(ys.foldl (λacc p=>acc++sep++p.cps) acc).toList=acc.toList++(ys.map λy=>sep.toList++y.cps.toList).flatten
 | [],acc=>by simp
 | y::r,acc=>by
   rw [List.foldl_cons,uW sep r];simp
def bZG (sep y:Str) (r:List Str):(Txt.join sep (y::r)).cps.toList=y.cps.toList++(r.map λy=>sep.cps.toList++y.cps.toList).flatten:=by
 have e:=uW sep.cps r y.cps
 rw [<-e];rfl
def cX0 {sep:Str} {n:Nat}:∀ {L:List Str},(∀ z∈L,z.length<=n)->(Txt.join sep L).length<=(n+sep.length) * L.length
 | [],_=>Cr _
 | y::r,h=>by
   have hl:∀ r:List Str,(∀ z∈r,z.length<=n)->(r.map λy=>sep.cps.toList++y.cps.toList).flatten.length<=(n+sep.length) * r.length:=λr h=>by
     induction r with
     | nil=>exact Ah _
     | cons u v ih=>
       rw [Au,Ce,Ag,Ag,Aw,fQ,fQ];have h1:=h u Am
       have h2:=ih λx hx=>h x (Ak _ hx)
       rw [Nat.mul_succ];omega
   rw [<-fQ,bZG,Ag,fQ,Aw,Nat.mul_succ];have h1:=h y Am
   have h2:=hl r λx hx=>h x (Ak _ hx)
   omega
def dP {α:Type} (F:α->V):∀ xs:List α,(List.range xs.length).filterMap (λj=>(xs[j]?).map F)=xs.map F:=λxs=>by
 have h:∀ n,n<=xs.length->(List.range n).filterMap (λj=>(xs[j]?).map F)=(xs.take n).map F:=λn=>by
   induction n with
   | zero=>intro _; rfl
   | succ n ih=>
     intro hn;have e:xs[n]?=some xs[n]:=Aa (by omega)
     rw [iS (y:=F xs[n]) (by rw [e]; rfl),ih (by omega),Bd,e,Ao]
     rfl
 have r:=h xs.length (Ah _)
 rw [Bp] at r;exact r
def eJ7:Option (List Nat)->Str
 | none=>⟨#[45]⟩
 | some cs=>aU cs
def HalV (H:Hp) (v:V):Option (List Nat)->Prop
 | none=>v=.non
 | some cs=>∃ p,v=.ref p/\H p=some (.lst ((cs.map one).map V.str))
def gN (hs:List (Option (List Nat))):Prop:=∀ cs,some cs∈hs->cN (cs.map one)=true
structure HalsAt (H:Hp) (vs:List V) (hs:List (Option (List Nat))):Prop where
 len:vs.length=hs.length
 val:∀ (j:Nat) v h,vs[j]?=some v->hs[j]?=some h->HalV H v h
def HalV.keep {H H':Hp} {v:V} {h:Option (List Nat)} (a:HalV H v h) (s:∀ p xs,H p=some (.lst xs)->v=.ref p->H' p=some (.lst xs)):HalV H' v h:=by
 cases h with
 | none=>exact a
 | some cs=>
   obtain ⟨p,e,hp⟩:=a;exact ⟨p,e,s p _ hp e⟩
def HalsAt.keep {H H':Hp} {vs:List V} {hs:Q3} (a:HalsAt H vs hs) (s:Same H H'):HalsAt H' vs hs:=⟨a.len,λj v h hv hh=>(a.val j v h hv hh).keep λp xs hp _=>s _ _ hp⟩
def HalsAt.nil {H:Hp}:HalsAt H [] []:=⟨rfl,λj v h hv=>nomatch hv⟩
def HalsAt.snoc {H:Hp} {vs:List V} {hs:Q3} {v:V} {h:Option (List Nat)} (a:HalsAt H vs hs) (b:HalV H v h):HalsAt H (vs++[v]) (hs++[h]):=by
 refine ⟨by rw [Ag,Ag,a.len]; rfl,λj x g hx hg=>?_⟩
 by_cases hj:j<vs.length
 . rw [Aq hj] at hx;rw [Aq (by rw [<-a.len]; exact hj)] at hg
   exact a.val j x g hx hg
 . have e:j=vs.length:=by
     have:=(Ad.mp hx).1
     rw [Ag] at this;have:j<vs.length+1:=this
     omega
   subst e;rw [Ar (Ah _),Ei] at hx;rw [a.len,Ar (Ah _),Ei] at hg;cases hx;cases hg;exact b
def HalV.ne {H:Hp} {r:Addr} {vs:List V} {h:Option (List Nat)} {j:Nat} {v:V} (hr:H r=some (.lst vs)) (hj:vs[j]?=some v) (a:HalV H v h):v≠.ref r:=λz=>by
 cases h with
 | none=>rw [show v=.non from a] at z; cases z
 | some cs=>
   obtain ⟨p,e,hp⟩:=a;rw [z] at e;cases e;rw [hr] at hp;cases hp;obtain ⟨u,_,hu⟩:=jS hj;rw [z] at hu;cases hu
def HalsAt.put {H:Hp} {r:Addr} {vs us:List V} {hs:Q3} (hr:H r=some (.lst vs)) (a:HalsAt H vs hs):HalsAt (upd H r (.lst us)) vs hs:=⟨a.len,λj v h hv hh=>(a.val j v h hv hh).keep λp xs hp e=>by
 rw [aH (λz=>(a.val j v h hv hh).ne hr hv (by rw [<-z]; exact e))]
 exact hp⟩
def HalsAt.at {H:Hp} {vs:List V} {hs:Q3} (a:HalsAt H vs hs) {j:Nat} {v:V} (hv:vs[j]?=some v):∃ h,hs[j]?=some h/\HalV H v h:=by
 have hj:j<hs.length:=by rw [<-a.len]; exact (Ad.mp hv).1
 exact ⟨hs[j],Aa hj,a.val j v _ hv (Aa hj)⟩
def eQ0 {cs:List Nat} (h:cN (cs.map one)=true):aU cs≠⟨#[45]⟩:=λz=>by
 have e:cs=[45]:=Dt (λz:Str=>z.cps.toList) z
 rw [e] at h
 revert h
 decide
def cZL {K:W.Frag} {g:TG} {tests:TT} {te:TE} {σ0:St} {H1:Hp} {Q:VK} {a:Addr} {xs:List V} {hs:Q3} (ha:rdL H1 a=some xs) (hl:xs.length<sizeLine) (hx:xs.length=hs.length)
   (step:∀ (i:Nat) x h Hc (A:VK) (B:Hp->Prop),xs[i]?=some x->hs[i]?=some h->Same H1 Hc->(∀ v Hd,Same Hc Hd->HalV Hd v h->(∀ p,v=.ref p->Hc p=none)->A v Hd)->
     g x σ0 Hc λσ2 H2=>Wk σ0 σ2/\tests σ2 H2 λb H3=>if b=true then te σ2 H3 A else B H3)
   (fin:∀ D Hd vs,H1 D=none->Same H1 Hd->Hd D=some (.lst vs)->HalsAt Hd vs hs->(∀ p,V.ref p∈vs->H1 p=none)->Q (.ref D) Hd):fA g tests te σ0 Q (Itl K a) H1:=by
 refine jX (n:=xs.length) (λD i ys Hc=>Same H1 Hc/\HalsAt Hc ys (hs.take i)/\∀ p,V.ref p∈ys->H1 p=none) hl (λD hD=>⟨aG hD _,.nil,λp hp=>nomatch hp⟩)
   (λD i ys Hc _ r h=>⟨xs,xs[i],bB (aK r.1 ha),by simp [h]⟩) (λD ys Hc _ r=>⟨xs,bB (aK r.1 ha),Nat.le_refl _⟩) ?_ ?_
 . rintro D i ys Hc x H' A B hD hi ⟨sm,at',fr⟩ hDc ⟨rfl,hz⟩ ha' hb;have hi2:i<hs.length:=by omega
   have eh:hs[i]?=some hs[i]:=Aa hi2
   refine step i x hs[i] H' A B (hz xs (bB (aK sm ha))) eh sm (λv Hd sd hv hn=>?_);refine ha' _ _ (sd _ _ hDc) ⟨bI hD (sm.trans sd),?_,λp hp=>?_⟩
   . rw [Bd,eh];refine HalsAt.snoc ((at'.keep sd).put (sd _ _ hDc)) (hv.keep λp zs hp e=>?_);rw [aH (λz=>by have:=hn p e; rw [z,hDc] at this; cases this)]
     exact hp
   . rcases Bl.mp hp with e | e
     . exact fr p e
     . exact none_of sm (hn p (Aj.mp e).symm)
 . rintro D ys Hc hD ⟨sm,at',fr⟩ hDc _;rw [hx,Bp] at at';exact fin D Hc ys hD sm hDc at' fr
def cQQ {f:Nat->Option Int} (hf0:∀ c,0<=aS f c) (c:Nat):aS (bM (aS f)) c<=aS f c:=by
 show (bM (aS f) c).getD 0<=_
 unfold bM;split
 . exact Ho _
 . exact hf0 c
def LackOk.plain {cws:Q5} {f:Nat->Option Int} {W:List Wt} {F:List Nat} (hf0:∀ c,0<=aS f c) (h:LackOk cws (aS (bM (aS f))) W F):LackOk cws (aS f) W F:=by
 refine ⟨h.sub,h.flags,h.all,?_⟩;have e:F.map (aS f)=F.map (aS (bM (aS f))):=Cw λc hc=>by
   obtain ⟨p,hp⟩:=h.flags;rw [hp] at hc;exact (lH (flags_mem.mp (Dx.mp hc).1) (hf0 c)).symm
 rw [e];exact h.few
def lD {cws:Q5}:∀ i,i<=cws.length->(wlP cws i).length=fN cws i
 | 0,_=>rfl
 | i+1,h=>by
   have e:cws[i]?=some cws[i]:=Aa (by omega)
   rw [kX,Ag,lD i (by omega),uE e]
   unfold nX;rw [Ab,Ca,Ac,e];rfl
def eXH {cws:Q5} {i k:Nat} {cw:List Nat} (hi:cws[i]?=some cw) (hk:k<cw.length):(wl cws)[fN cws i+k]?=some (i,1+k):=by
 have hil:=(Ad.mp hi).1
 have h:∀ n,i<n->n<=cws.length->(wlP cws n)[fN cws i+k]?=some (i,1+k):=λn=>by
   induction n with
   | zero=>intro h; omega
   | succ n ih=>
     intro h1 h2;rw [kX];by_cases hn:i=n
     . subst hn;have e:=lD (cws:=cws) i (by omega)
       rw [Ar (by omega),show fN cws i+k - (wlP cws i).length=k by omega]
       unfold nX;rw [Af,Ac,hi];show ((List.range cw.length)[k]?).map _=_
       rw [List.getElem?_range hk];rfl
     . have r:=ih (by omega) (by omega)
       rw [Aq (Ad.mp r).1];exact r
 exact h cws.length hil (Ah _)
def Hg (cw h:List Nat):Prop:=h.length=cw.length/\∀ (k g:Nat),h[k]?=some g->g∈chs cw k
inductive Hgs:List (List Nat)->List (List Nat)->Prop
 | nil:Hgs [] []
 | cons {cw h:List Nat} {cws hs:Q5}:Hg cw h->Hgs cws hs->Hgs (cw::cws) (h::hs)
def Hgs.app {xs ys hs gs:Q5} (a:Hgs xs hs) (b:Hgs ys gs):Hgs (xs++ys) (hs++gs):=by
 induction a with
 | nil=>exact b
 | cons h _ ih=>exact .cons h ih
def Hgs.split:∀ {xs ys hs:Q5},Hgs (xs++ys) hs->∃ h1 h2,hs=h1++h2/\Hgs xs h1/\Hgs ys h2
 | [],ys,hs,h=>⟨[],hs,rfl,.nil,h⟩
 | x::xs,ys,_,.cons a b=>by
   obtain ⟨h1,h2,rfl,p,q⟩:=Hgs.split b;exact ⟨_::h1,h2,rfl,.cons a p,q⟩
def jM (xs ys:List Nat) (c:Nat):ctn (xs++ys) c=ctn xs c+ctn ys c:=List.countP_append
def xD (xs ys:Q5) (c:Nat):ctn (xs++ys).flatten c=ctn xs.flatten c+ctn ys.flatten c:=by rw [List.flatten_append,jM]
def Hgs.sub {cws cws':Q5} (s:cws'.Sublist cws):∀ {hs:Q5},Hgs cws hs->∃ hs',Hgs cws' hs'/\∀ c,ctn hs'.flatten c<=ctn hs.flatten c:=by
 induction s with
 | slnil=>intro hs h; exact ⟨hs,h,λc=>Ah _⟩
 | cons a s ih=>
   rintro _ (_ | ⟨h1,h2⟩);obtain ⟨hs',p,q⟩:=ih h2;exact ⟨hs',p,λc=>by rw [Ce,jM]; have:=q c; omega⟩
 | cons_cons a s ih=>
   rintro _ (_ | ⟨h1,h2⟩);obtain ⟨hs',p,q⟩:=ih h2;exact ⟨_::hs',.cons h1 p,λc=>by rw [Ce,jM,Ce,jM]; have:=q c; omega⟩
def Hgs.perm {cws cws':Q5} (s:cws.Perm cws'):∀ {hs:Q5},Hgs cws hs->∃ hs',Hgs cws' hs'/\∀ c,ctn hs'.flatten c=ctn hs.flatten c:=by
 induction s with
 | nil=>intro hs h; exact ⟨hs,h,λc=>rfl⟩
 | cons a s ih=>
   rintro _ (_ | ⟨h1,h2⟩);obtain ⟨hs',p,q⟩:=ih h2;exact ⟨_::hs',.cons h1 p,λc=>by rw [Ce,jM,Ce,jM,q c]⟩
 | swap a b l=>
   rintro _ (_ | ⟨h1,h2⟩);rcases h2 with _ | ⟨h2,h3⟩
   exact ⟨_,.cons h2 (.cons h1 h3),λc=>by simp only [List.flatten_cons,jM]; omega⟩
 | trans _ _ ih1 ih2=>
   intro hs h;obtain ⟨h1,p1,q1⟩:=ih1 h;obtain ⟨h2,p2,q2⟩:=ih2 p1;exact ⟨h2,p2,λc=>(q2 c).trans (q1 c)⟩
def CanL (n:Nat->Int) (cws:List (List Nat)):Prop:=∃ hs,Hgs cws hs/\∀ c,(ctn hs.flatten c:Int)<=n c
def Hgs.len {cws hs:Q5} (h:Hgs cws hs):hs.length=cws.length:=by
 induction h with
 | nil=>rfl
 | cons _ _ ih=>rw [Aw,Aw,ih]
def bZ4 {cws:Q5} {j:Nat} {w:Wt}:∀ i,i<=cws.length->(wlP cws i)[j]?=some w->∃ (a k:Nat) (cw:List Nat),a<i/\cws[a]?=some cw/\k<cw.length/\w=(a,1+k)/\j=fN cws a+k
 | 0,_,h=>by cases h
 | i+1,hi,h=>by
   rw [kX] at h;have hl:=lD (cws:=cws) i (by omega)
   by_cases hj:j<(wlP cws i).length
   . rw [Aq hj] at h;obtain ⟨a,k,cw,p,q⟩:=bZ4 i (by omega) h
     exact ⟨a,k,cw,by omega,q⟩
   . rw [Ar (by omega)] at h
     have e:cws[i]?=some cws[i]:=Aa (by omega)
     unfold nX at h;rw [Af,Ac,e] at h;have hlt:j - (wlP cws i).length<(cws[i]).length:=by
       have hn:¬ (cws[i]).length<=j - (wlP cws i).length:=λz=>by
         rw [Ft (by rw [Ca]; exact z)] at h
         cases h
       omega
     refine ⟨i,j - (wlP cws i).length,cws[i],by omega,e,hlt,?_,by omega⟩
     rw [List.getElem?_range (by exact hlt)] at h
     cases h;rfl
def Hgs.at {cws hs:Q5} (h:Hgs cws hs):∀ {i:Nat} {cw:List Nat},cws[i]?=some cw->∃ g,hs[i]?=some g/\Hg cw g:=by
 induction h with
 | nil=>intro i cw e; cases e
 | cons a b ih=>
   intro i cw e;cases i with
   | zero=>cases e; exact ⟨_,rfl,a⟩
   | succ i=>exact ih e
def Hgs.offsL {cws hs:Q5} (h:Hgs cws hs):∀ (i:Nat),(hs.take i).flatten.length=fN cws i:=by
 induction h with
 | nil=>intro i; cases i <;> rfl
 | cons a b ih=>
   intro i;cases i with
   | zero=>rfl
   | succ i=>
     have:=ih i
     unfold fN at this ⊢;rw [Gi,Ce,Ag,this,Gi,Au,Cj,a.1]
def cX7 {hs:Q5} {i k:Nat} {g:List Nat} (h:hs[i]?=some g) (hk:k<g.length):hs.flatten[(hs.take i).flatten.length+k]?=g[k]? := by
 have e:hs=hs.take i++(g::hs.drop (i+1)):=by
   obtain ⟨h1,h2⟩:=Ad.mp h;rw [<-h2,<-List.drop_eq_getElem_cons h1,Em]
 have e2:hs.flatten=(hs.take i).flatten++(g++(hs.drop (i+1)).flatten):=by
   have:=Dt List.flatten e
   rwa [List.flatten_append,Ce] at this
 rw [e2,Ar (by omega),Cz,Aq hk]
def CanL.canH {n:Nat->Int} {cws:Q5} (h:CanL n cws):CanH n cws:=by
 obtain ⟨hs,hg,hc⟩:=h;refine ⟨hs.flatten,?_,λj w g hw hf=>?_,hc⟩
 . have h1:=hg.offsL cws.length
   rw [show hs.take cws.length=hs from Bf (Nat.le_of_eq hg.len)] at h1;rw [h1];exact (lD _ (Ah _)).symm
 . obtain ⟨a,k,cw,ha,hcw,hk,rfl,rfl⟩:=bZ4 cws.length (Ah _) hw;obtain ⟨h,hh,hgh⟩:=hg.at hcw;rw [<-hg.offsL a,cX7 hh (by rw [hgh.1]; exact hk)] at hf
   unfold chW;rw [Ac,hcw,show (a,1+k).2 - 1=k by show 1+k - 1=k; omega]
   exact hgh.2 k g hf
def mU:List (List Nat)->List Nat->List (List Nat)
 | [],_=>[]
 | cw::r,fs=>fs.take cw.length::mU r (fs.drop cw.length)
def lM:∀ {cws:Q5} {fs:List Nat},fs.length=(cws.map List.length).sum->(mU cws fs).flatten=fs
 | [],fs,h=>by rw [Fh h]; rfl
 | cw::r,fs,h=>by
   rw [Au,Cj] at h;rw [mU,Ce,lM (by rw [Cd]; omega),Em]
def zI:∀ {cws:Q5} {fs:List Nat},fs.length=(cws.map List.length).sum->(∀ (i k g:Nat) cw,cws[i]?=some cw->k<cw.length->fs[fN cws i+k]?=some g->g∈chs cw k)->Hgs cws (mU cws fs)
 | [],fs,h,_=>.nil
 | cw::r,fs,h,hc=>by
   rw [Au,Cj] at h;refine .cons ⟨by rw [Bt]; omega,λk g hk=>?_⟩ (zI (by rw [Cd]; omega) λi k g cw' hi hk hg=>?_)
   . have hkl:k<cw.length:=by
       have:=(Ad.mp hk).1
       rw [Bt] at this;omega
     rw [List.getElem?_take,if_pos hkl] at hk;exact hc 0 k g cw rfl hkl (by rw [show fN (cw::r) 0=0 from rfl,Nat.zero_add]; exact hk)
   . refine hc (i+1) k g cw' hi hk ?_;rw [List.getElem?_drop] at hg;rw [show fN (cw::r) (i+1)=cw.length+fN r i by unfold fN; rw [Gi,Au,Cj],Nat.add_assoc]
     exact hg
def vN (cws:Q5):(wl cws).length=(cws.map List.length).sum:=by
 have h:=lD (cws:=cws) cws.length (Ah _)
 unfold fN at h;rw [Bp] at h;exact h
def aXD {cws:Q5} {fs:List Nat} (hl:fs.length=(wl cws).length) (hch:∀ (j:Nat) w g,(wl cws)[j]?=some w->fs[j]?=some g->g∈chW cws w):Hgs cws (mU cws fs):=by
 refine zI (hl.trans (vN cws)) λi k g cw hi hk hg=>?_;have h:=hch _ _ g (eXH hi hk) hg
 unfold chW at h;rw [Ac,hi,show (i,1+k).2 - 1=k by show 1+k - 1=k; omega] at h
 exact h
def CanH.canL {n:Nat->Int} {cws:Q5} (h:CanH n cws):CanL n cws:=by
 obtain ⟨fs,hl,hch,hc⟩:=h;exact ⟨mU cws fs,aXD hl hch,by rw [lM (hl.trans (vN cws))]; exact hc⟩
def CanH.sub {n:Nat->Int} {cws cws':Q5} (h:CanH n cws) (s:cws'.Sublist cws):CanH n cws':=by
 obtain ⟨hs,hg,hc⟩:=h.canL;obtain ⟨hs',p,q⟩:=hg.sub s;exact CanL.canH ⟨hs',p,λc=>by have:=hc c; have:=q c; omega⟩
def CanH.perm {n:Nat->Int} {cws cws':Q5} (h:CanH n cws) (s:cws.Perm cws'):CanH n cws':=by
 obtain ⟨hs,hg,hc⟩:=h.canL;obtain ⟨hs',p,q⟩:=hg.perm s;exact CanL.canH ⟨hs',p,λc=>by rw [q c]; exact hc c⟩
def CanH.nil {n:Nat->Int} (h:∀ c,0<=n c):CanH n []:=CanL.canH ⟨[],.nil,h⟩
def CanH.more {n m:Nat->Int} {cws cws':Q5} {fs:List Nat} (hl:fs.length=(wl cws).length) (hch:∀ (j:Nat) w g,(wl cws)[j]?=some w->fs[j]?=some g->g∈chW cws w) (h:CanH m cws') (e:∀ c,(ctn fs c:Int)+m c<=n c):CanH n (cws++cws'):=by
 obtain ⟨hs,hg,hc⟩:=h.canL;refine CanL.canH ⟨_,(aXD hl hch).app hg,λc=>?_⟩;rw [xD,lM (hl.trans (vN cws))];have:=e c
 have:=hc c
 omega
def HalsAt.get {H:Hp} {vs:List V} {hs:Q3} (a:HalsAt H vs hs) {k:Nat} (hk:k<hs.length):∃ v,atI vs (k:Int)=some v/\vs[k]?=some v/\HalV H v (hs.getD k none):=by
 have hv:k<vs.length:=by rw [a.len]; exact hk
 refine ⟨vs[k],bJ (Aa hv),Aa hv,?_⟩;refine a.val k _ _ (Aa hv) ?_;rw [Ac,Aa hk];rfl
def bD (hs:List (Option (List Nat))) (n:Nat):List Nat:=(List.range hs.length).filter λk=>(hs.getD k none).isSome && !decide (k=n)
def gZ {hs:Q3} {n k:Nat} (h:k∈bD hs n):k<hs.length/\(hs.getD k none).isSome=true/\k≠n:=by
 obtain ⟨h1,h2⟩:=Dx.mp h;rw [Ea,Bool.not_eq_true',decide_eq_false_iff_not] at h2;exact ⟨Bw.mp h1,h2.1,h2.2⟩
def sG {hs:Q3} {n:Nat} (hn:n<hs.length):(bD hs n).length+1<=hs.length:=by
 have h1:(bD hs n).Sublist ((List.range hs.length).filter λk=>!decide (k=n)):=by
   have e:bD hs n=((List.range hs.length).filter λk=>!decide (k=n)).filter λk=>(hs.getD k none).isSome:=by
     unfold bD;rw [List.filter_filter]
   rw [e];exact Fc
 have h2:=h1.length_le
 have h3:=List.length_eq_countP_add_countP (p:=λk=>decide (k=n)) (l:=List.range hs.length)
 rw [Ca] at h3;have h4:1<=(List.range hs.length).countP λk=>decide (k=n):=by
   refine List.countP_pos_iff.mpr ⟨n,Bw.mpr hn,An rfl⟩
 have h5:((List.range hs.length).filter λk=>!decide (k=n)).length=(List.range hs.length).countP λk=>!decide (k=n):=Fn.symm
 have h6:((List.range hs.length).countP λa=>¬ (decide (a=n))=true)=(List.range hs.length).countP λk=>!decide (k=n):=by
   congr 1
   funext k
   cases decide (k=n) <;> rfl
 omega
def oth (hs:List (Option (List Nat))) (n:Nat) (i:Nat):Option V:=if ((hs.getD i none).isSome && !decide (i=n))=true then some (V.int ((i:Nat):Int)) else none
def eQJ (hs:Q3) (n m:Nat):(List.range m).filterMap (oth hs n)=((List.range m).filter λk=>(hs.getD k none).isSome && !decide (k=n)).map λk=>V.int ((k:Nat):Int):=by
 induction List.range m with
 | nil=>rfl
 | cons a r ih=>
   by_cases h:((hs.getD a none).isSome && !decide (a=n))=true
   . rw [Cu (b:=V.int ((a:Nat):Int)) (by unfold oth; rw [if_pos h]),List.filter_cons_of_pos (p:=λk=>(hs.getD k none).isSome && !decide (k=n)) h,Au,ih]
   . rw [Cv (by unfold oth; rw [if_neg h]),List.filter_cons_of_neg (p:=λk=>(hs.getD k none).isSome && !decide (k=n)) h,ih]
def kN:Sp:=λvs H Q _=>∃ (a:Addr) (us:List V) (hs:List (Option (List Nat))) (n:Nat),vs=[.ref a,.int ((n:Nat):Int)]/\rdL H a=some us/\HalsAt H us hs/\hs.length<=7/\
 ∀ (r:Addr) (H':Hp),H r=none->Same H H'->H' r=some (.lst ((bD hs n).map λk=>V.int ((k:Nat):Int)))->Q (.ref r) H'
def sQ:FnScope ["halyards", "number"] ["halyards", "number"] (aF cQ):=by walk_at "sc"
def rE {Zt Zz Zu Zx Z0 Zw Zy Zv:Addr} {f:Addr} {fd:FuncData} (F:Fun K "others_hung" "others_hung" cQ f fd) (G:Gs K mg w Zt Zz Zu Zx Z0 Zw Zy Zv)  : FnOk P w K mg base CX0 1 f fd ["halyards", "number"] kN:=by
 refine F.ok sQ (λvs H Q E h=>?_) (λcdv A outer s H vs Q E hr h=>?_)
 . obtain ⟨a,us,hs,n,rfl,_⟩:=h; rfl
 obtain ⟨a,us,hs,n,rfl,ha,hat,h7,q⟩:=h;refine ⟨_,(@aI _ _ _ (aV (cT rfl (oA rfl G.b_enumerate (aA (mv 0) aB)) (iK (N:=["other", "hoist", "number"]) ["halyards", "number"] (aF cQ) [none,none,some 1] rfl rfl rfl (λx h=>cA h) (by decide +kernel)) (by decide +kernel) rfl (by decide +kernel) (λ_ _ _ _=>(fL (K:=K) (i:=0) (j:=1) (by rfl) (by rfl) (show List.Nodup (["other", "hoist", "number"]:List Str) by decide +kernel) (by rfl) (by exact Or.inl rfl) (by exact Or.inr rfl) (by rfl) (by exact Or.inl rfl) (by exact Or.inr rfl))) (λ_ _ _ _=>(mV (PW.pt (qV (bA sA (mv 1) cW (bE _)) (oJ (bA cJS (mv 0) (mv 2) (bE _))))))) (λ_ _ _ _=>(mv 0))))),?_⟩
 have hul:=hat.len
 walk_at "go";refine cXG (xs:=us) (oth hs n) ha (bG (by omega)) (λi x Hc p A B hx sm hp hA hB=>?_) (λD Hd hD sD hd=>?_)
 . have hi:i<hs.length:=by rw [<-hul]; exact (Ad.mp hx).1
   have hv:=hat.val i x (hs.getD i none) hx (by rw [Ac,Aa hi]; rfl)
   have tp:nE (upd Hc p (.tup [.int ((0+i:Nat):Int),x])) p=some [.int ((0+i:Nat):Int),x]:=pF
   rw [Nat.zero_add] at tp hA hB ⊢;walk_at "go";refine ⟨Wk.set rfl (Wk.set rfl (Wk.refl _)),?_⟩;walk_at "go";cases eh:hs.getD i none with
   | none=>
     rw [eh] at hv;obtain rfl:x=V.non:=hv;rw [show decide (V.non=V.non)=true from rfl];walk_at "go";exact hB (by unfold oth; rw [eh]; rfl) _ (Same.refl _)
   | some cs=>
     rw [eh] at hv;obtain ⟨pc,rfl,_⟩:=hv;rw [show decide (V.ref pc=V.non)=false from Ax (λz=>nomatch z)]
     walk_at "go";by_cases hn:i=n
     . rw [An (show ((i:Nat):Int)=((n:Nat):Int) by omega)]
       exact hB (by unfold oth; rw [eh,An hn]; rfl) _ (Same.refl _)
     . rw [Ax (show ¬ ((i:Nat):Int)=((n:Nat):Int) by omega)]
       walk_at "go";exact hA _ (by unfold oth; rw [eh,Ax hn]; rfl) _ (Same.refl _)
 . rw [hul,eQJ] at hd;exact q D Hd hD sD hd
def cC (hs:List (Option (List Nat))) (ks:List Nat):List Nat:=ks.flatMap λk=>(hs.getD k none).getD []
def eQL (hs:Q3):cC hs []=[]:=rfl
def bXJ (hs:Q3) (A B:List Nat):cC hs (A++B)=cC hs A++cC hs B:=Fb ..
def uX {hs:Q3} (ok:gN hs) (k:Nat):((hs.getD k none).getD []).length<=7:=by
 cases e:hs[k]? with
 | none=>rw [Ac,e]; exact Cr _
 | some h=>
   rw [Ac,e];cases h with
   | none=>exact Cr _
   | some cs=>
     have:=fS (ok cs (Al e))
     rw [Ab] at this;exact this.2
def hX {hs:Q3} (ok:gN hs):∀ ks:List Nat,(cC hs ks).length<=7 * ks.length
 | []=>Cr _
 | k::r=>by
   show (((hs.getD k none).getD [])++cC hs r).length<=_
   rw [Ag,Aw];have:=uX ok k
   have:=hX ok r
   omega
def iL:Sp:=λvs H Q _=>∃ (a b:Addr) (us:List V) (hs:List (Option (List Nat))) (ks:List Nat),vs=[.ref a,.ref b]/\rdL H a=some us/\HalsAt H us hs/\gN hs/\rdL H b=some (ks.map λk=>V.int ((k:Nat):Int))/\ks.length<=7/\(∀ k∈ks,k<hs.length)/\
 ∀ (r:Addr) (H':Hp),H r=none->Same H H'->H' r=some (.lst (((cC hs ks).map one).map V.str))->Q (.ref r) H'
def sc_flags_on:FnScope ["halyards", "numbers", "flags", "number"] ["halyards", "numbers"] (aF fW):=by walk_at "sc"
def zV {Zt Zz Zu Zx Z0 Zw Zy Zv:Addr} {f:Addr} {fd:FuncData} (F:Fun K "flags_on" "flags_on" fW f fd) (G:Gs K mg w Zt Zz Zu Zx Z0 Zw Zy Zv)  : FnOk P w K mg base CX0 1 f fd ["halyards", "numbers"] iL:=by
 refine F.ok sc_flags_on (λvs H Q E h=>?_) (λcdv A outer s H vs Q E hr h=>?_)
 . obtain ⟨a,b,us,hs,ks,rfl,_⟩:=h; rfl
 obtain ⟨a,b,us,hs,ks,rfl,ha,hat,ok,hb,h7,hk,q⟩:=h;refine ⟨_,(@aE _ _ _ _ _ (@aP _ _ 2 _ _ _ _ sc_flags_on.nd (by rfl) (by exact (Or.inl rfl)) (bV aB) (by rfl) (by walk_at "o")) (@aE _ _ _ _ _ (cR Br rfl (cL (mv 1)) (aY (i:=3) sc_flags_on.nd rfl (Or.inl rfl)) (@aI _ _ _ (cG (bA sA (bK cF (mv 0) (mv 3) (λ_ _=>rfl)) cW (bE _)) (@aI _ _ _ (cD (dB Bu Ec Ed yM (mv 2) (aA (bK cF (mv 0) (mv 3) (λ_ _=>rfl)) aB)))) bH))) (@aI _ _ _ (aV (mv 2))))),?_⟩
 walk_at "go";refine ⟨by decide,λp hp=>?_⟩
 have sp:=aG hp (.lst [])
 have hb1:=aK sp hb
 walk_at "go";refine iO (xs:=(ks.map λk=>V.int ((k:Nat):Int))) (λi σ H'=>∃ v,σ=[some (.ref a),some (.ref b),some (.ref p),v]/\Same H H'/\H' p=some (.lst (((cC hs (ks.take i)).map one).map V.str)))
   ⟨_,rfl,sp,aD⟩ (λi σ H' _ ⟨_,_,e,_⟩=>aK e hb) ?_ ?_
 . rintro i x σ H2 hx ⟨v,rfl,s2,e2⟩;obtain ⟨k,hki,rfl⟩:=qJ hx;have hkl:=hk k (Al hki)
   obtain ⟨u,au,_,hv⟩:=(hat.keep s2).get hkl;have r2:=aK s2 ha
   have ft:cC hs (ks.take (i+1))=cC hs (ks.take i)++(hs.getD k none).getD []:=by
     rw [Bd,hki,bXJ];show _++(_++[])=_
     rw [Bi]
   walk_at "go";refine fO r2 au ?_;walk_at "go";cases eh:hs.getD k none with
   | none=>
     rw [eh] at hv ft;rw [show u=.non from hv,show decide (V.non=V.non)=true from rfl];walk_at "go";exact ⟨_,rfl,s2,by rw [ft]; show _=some (HO.lst (((_++[]).map one).map V.str)); rw [Bi]; exact e2⟩
   | some cs=>
     have h7c:=uX ok k
     rw [eh] at hv ft h7c;obtain ⟨pc,rfl,hpc⟩:=hv;rw [show decide (V.ref pc=V.non)=false from Ax (λz=>nomatch z)]
     have m2:=bL e2
     have rc:=aT hpc
     have l2:=hX ok (ks.take i)
     rw [Bt] at l2;have hln:(((cC hs (ks.take i)).map one).map V.str).length+((cs.map one).map V.str).length<=sizeLine:=bN (by rw [Ab,Ab,Ab,Ab]; have:cs.length<=7:=h7c; omega)
     walk_at "go";refine fO r2 au ?_;walk_at "go";refine ⟨_,rfl,bI hp s2,?_⟩;rw [aD,ft,Ao,Ao];rfl
 . rintro σ H2 ⟨v,rfl,s2,e2⟩;rw [Bf (by rw [Ab]; exact Ah _)] at e2
   walk_at "go";exact q p H2 hp s2 e2
def aXE {os:List Nat} {m:Nat} (h:os.length<m):cI os m=[]:=by
 cases e:cI os m with
 | nil=>rfl
 | cons l r=>
   have:=mem_combs.mp (show l∈cI os m by rw [e]; exact Am)
   have h2:=this.1.length_le
   omega
def sL:∀ os:List Nat,cI os os.length=[os]
 | []=>jZ []
 | k::r=>by
   rw [Aw,jV,Aw,List.range_succ_eq_map,Fz];have h1:((cI ((k::r).drop (0+1)) r.length).map λl=>(k::r).getD 0 0::l)=[k::r]:=by
     show ((cI r r.length).map λl=>k::l)=_
     rw [sL r];rfl
   rw [h1,List.flatMap_map];have h2:((List.range r.length).flatMap λj=>(cI ((k::r).drop (j.succ+1)) r.length).map λl=>(k::r).getD j.succ 0::l)=[]:=by
     rw [List.flatMap_eq_nil_iff];intro j hj;rw [aXE (by rw [Cd,Aw]; have:=Bw.mp hj; omega)]
     rfl
   rw [h2];rfl
def dL (os:List Nat):List (List Nat):=(List.range (os.length+1)).flatMap λm=>cI os m
def pP (os:List Nat) (i:Nat):List (List Nat):=(List.range i).flatMap λm=>cI os m
def nG (os:List Nat) (i:Nat):pP os (i+1)=pP os i++cI os i:=by
 unfold pP;rw [Bx,Fb];congr 1
 show cI os i++[]=_
 rw [Bi]
def mem_sets {os l:List Nat}:l∈dL os ↔ l.Sublist os:=by
 unfold dL;rw [Hi];constructor
 . rintro ⟨m,_,h⟩;exact (mem_combs.mp h).1
 . intro h;exact ⟨l.length,Bw.mpr (Nat.lt_succ_of_le h.length_le),mem_combs.mpr ⟨h,rfl⟩⟩
def oS {os:List Nat}:∀ {i:Nat},os.length<=6->i<=6->(pP os i).length<=i * 6 ^ 5
 | 0,_,_=>Cr _
 | i+1,h,hi=>by
   rw [nG,Ag,Nat.succ_mul];have h1:=oS (i:=i) h (by omega)
   have h2:(cI os i).length<=6 ^ 5:=Bg (jE h) (Nat.pow_le_pow_right (by decide) (by omega))
   omega
def rD:Sp:=λvs H Q _=>∃ (b:Addr) (os:List Nat),vs=[.ref b]/\rdL H b=some (os.map λk=>V.int ((k:Nat):Int))/\os.length<=5/\
 ∀ (r:Addr) (ps:List Addr) (H':Hp),H r=none->Same H H'->H' r=some (.lst (ps.map V.ref))->Lsts H H' ps ((dL os).map λl=>(l.map λk=>V.int ((k:Nat):Int)))->(∀ p∈ps,p≠r)->Q (.ref r) H'
def sc_sets_of:FnScope ["others", "sets", "many"] ["others"] (aF iB):=by walk_at "sc"
def aQB {Zt Zz Zu Zx Z0 Zw Zy Zv:Addr} {f:Addr} {fd:FuncData} (F:Fun K "sets_of" "sets_of" iB f fd) (G:Gs K mg w Zt Zz Zu Zx Z0 Zw Zy Zv) (c_rising_lists:Cal P w K mg base 9 "rising_lists" ["numbers", "many"] (cO 8)):FnOk P w K mg base CX0 10 f fd ["others"] rD:=by
 refine F.ok sc_sets_of (λvs H Q E h=>?_) (λcdv A outer s H vs Q E hr h=>?_)
 . obtain ⟨b,os,rfl,_⟩:=h; rfl
 obtain ⟨b,os,rfl,hb,h5,q⟩:=h;refine ⟨_,(@aE _ _ _ _ _ (@aP _ _ 1 _ _ _ _ sc_sets_of.nd (by rfl) (by exact (Or.inl rfl)) (bV aB) (by rfl) (by walk_at "o")) (@aE _ _ _ _ _ (cR Br rfl (lO rfl G.b_range (aA (aR bS (bC eV rfl G.b_len cM (aA (mv 0) aB)) aJ) aB)) (aY (i:=2) sc_sets_of.nd rfl (Or.inl rfl)) (@aI _ _ _ (cD (dB Bu Ec Ed yM (mv 1) (aA (aW c_rising_lists hr (by decide) rfl (aA (mv 0) (aA (mv 2) aB))) aB))))) (@aI _ _ _ (aV (mv 1))))),?_⟩
 have hbl:((os.map λk=>V.int ((k:Nat):Int))).length=os.length:=Ab ..
 walk_at "go";refine ⟨by decide,λp hp=>?_⟩
 have s1:=aG hp (.lst [])
 have e1:(upd H p (.lst [])) p=some (.lst (([]:List Addr).map V.ref)):=aD
 generalize upd H p (.lst [])=H1 at s1 e1 ⊢;have hb1:=aK s1 hb
 walk_at "go";rw [hbl];refine ⟨⟨by omega,by omega⟩,?_⟩
 refine rP (λi σ H'=>∃ (ps:List Addr) (v:Option V),σ=[some (.ref b),some (.ref p),v]/\Same H H'/\H' p=some (.lst (ps.map V.ref))/\Lsts H H' ps ((pP os i).map λl=>(l.map λk=>V.int ((k:Nat):Int)))/\∀ z∈ps,z≠p)
   ⟨[],_,rfl,s1,e1,.nil,λz hz=>nomatch hz⟩ ?_ ?_
 . rintro i σ H2 hi ⟨ps,v,rfl,s2,e2,ls,nd⟩;have hi6:i<=os.length:=by omega
   have hb2:=aK s2 hb
   have hps:ps.length=(pP os i).length:=by rw [ls.1,Ab]
   have hpl:=oS (os:=os) (i:=i) (by omega) (by omega)
   walk_at "go";rw [show (0:Int)+(i:Int)=((i:Nat):Int) by omega]
   refine ⟨b,os,i,rfl,hb2,by omega,by omega,by omega,λrb qs H5 hrb s5 e5 lq nq=>?_⟩
   have hqs:qs.length=(cI os i).length:=by rw [lq.1,Ab]
   have hql:(cI os i).length<=6 ^ 5:=Bg (jE (by omega)) (Nat.pow_le_pow_right (by decide) (by omega))
   have e25:=s5 _ _ e2
   have m5:=bL e25
   have r5:=aT e5
   have hln:(ps.map V.ref).length+(qs.map V.ref).length<=sizeLine:=bN (by rw [Ab,Ab,hps,hqs]; omega)
   walk_at "go";have npq:∀ z∈qs,z≠p:=λz hz zp=>by
     obtain ⟨g,_,h1,_⟩:=lq.mem hz;rw [zp,e2] at h1;cases h1
   have nd2:∀ z∈ps++qs,z≠p:=λz hz=>(Bl.mp hz).elim (nd z) (npq z)
   refine ⟨ps++qs,_,rfl,bI hp (s2.trans s5),?_,?_,nd2⟩
   . rw [aD,Ao]
   . rw [nG,Ao];exact ((ls.keep s5).app (lq.older s2)).put nd2
 . rintro σ H2 ⟨ps,v,rfl,s2,e2,ls,nd⟩;rw [show ((os.length:Int)+1).toNat=os.length+1 by omega] at ls
   walk_at "go";exact q p ps H2 hp s2 e2 ls nd
def bZ (hs:List (Option (List Nat))) (cw ks:List Nat):List (List Nat):=cw::ks.map λk=>rdC ((hs.getD k none).getD [])
def nN (ks:List Nat):((ks.map λk=>V.int ((k:Nat):Int))).length=ks.length:=Ab ..
def iY:Sp:=λvs H Q _=>∃ (a b:Addr) (us:List V) (hs:List (Option (List Nat))) (cw ks:List Nat),vs=[.ref a,.str (aU cw),.ref b]/\rdL H a=some us/\HalsAt H us hs/\gN hs/\rdL H b=some (ks.map λk=>V.int ((k:Nat):Int))/\ks.length<=7/\(∀ k∈ks,k<hs.length/\(hs.getD k none).isSome=true)/\
 ∀ (r:Addr) (H':Hp),H r=none->Same H H'->H' r=some (.lst (((bZ hs cw ks).map aU).map V.str))->Q (.ref r) H'
def tS:FnScope ["halyards", "word", "lowered"] ["halyards", "word", "lowered"] (aF cZ):=by walk_at "sc"
def sY {Zt Zz Zu Zx Z0 Zw Zy Zv:Addr} {f:Addr} {fd:FuncData} (F:Fun K "words_with" "words_with" cZ f fd) (G:Gs K mg w Zt Zz Zu Zx Z0 Zw Zy Zv) (c_read_of:kH P w K mg base 4 "read_of" ["flags"] (nD Zx)):FnOk P w K mg base CX0 5 f fd ["halyards", "word", "lowered"] iY:=by
 refine F.ok tS (λvs H Q E h=>?_) (λcdv A outer s H vs Q E hr h=>?_)
 . obtain ⟨a,b,us,hs,cw,ks,rfl,_⟩:=h; rfl
 obtain ⟨a,b,us,hs,cw,ks,rfl,ha,hat,ok,hb,h7,hk,q⟩:=h;refine ⟨_,(@aI _ _ _ (aV (aR bS (bV (aA (mv 1) aB)) (cT rfl (cL (mv 2)) (iK (N:=["other", "halyards"]) ["halyards", "word", "lowered"] (aF cZ) [none,some 0] rfl rfl rfl (λx h=>cA h) (by decide +kernel)) (by decide +kernel) rfl (by decide +kernel) (λ_ _ _ _=>(aY (i:=0) (show List.Nodup (["other", "halyards"]:List Str) by decide +kernel) rfl (Or.inl rfl))) (λ_ _ _ _=>dO) (λ_ _ _ _=>(dM c_read_of uF hr (by decide) rfl (aA (bK cF (mv 1) (mv 0) (λ_ _=>rfl)) aB))))))),?_⟩
 walk_at "go";refine ⟨by show 1<=sizeLine; decide,λp hp=>?_⟩
 have s1:=aG hp (.lst [V.str (aU cw)])
 have e1:(upd H p (.lst [V.str (aU cw)])) p=some (.lst [V.str (aU cw)]):=aD
 generalize upd H p (.lst [V.str (aU cw)])=H1 at s1 e1 ⊢;have hb1:=aK s1 hb
 have ha1:=aK s1 ha
 walk_at "go";refine gE (xs:=(ks.map λk=>V.int ((k:Nat):Int))) (λj=>(ks[j]?).map λk=>V.str (aU (rdC ((hs.getD k none).getD [])))) hb1 (bG (by rw [nN]; omega)) (λj x Hc A B hx sm hA hB=>?_) (λD Hd hD sD hd=>?_)
 . obtain ⟨k,hki,rfl⟩:=qJ hx;obtain ⟨hkl,hks⟩:=hk k (Al hki);obtain ⟨u,au,_,hv⟩:=(hat.keep (s1.trans sm)).get hkl;have hA2:=hA (V.str (aU (rdC ((hs.getD k none).getD [])))) (by rw [hki]; rfl)
   have r2:=aK sm ha1
   cases eh:hs.getD k none with
   | none=>rw [eh] at hks; cases hks
   | some cs=>
     rw [eh] at hv hA2;obtain ⟨pc,rfl,hpc⟩:=hv;have hb:=ok cs (by
       rw [Ac,Aa hkl] at eh;rw [<-show hs[k]=some cs from eh];exact Bq hkl)
     have h7c:=fS hb
     walk_at "go";refine ⟨Wk.set rfl (Wk.refl _),?_⟩;walk_at "go";refine fO r2 au ?_;walk_at "go";refine ⟨pc,cs.map one,rfl,aT hpc,by omega,bZH cs,λ_ H3 s3=>?_,λhf=>?_⟩
     . have e:kM (cs.map one)=aU (rdC cs):=by unfold kM; rw [bQI]
       rw [e];exact hA2 _ s3
     . rw [hb] at hf; cases hf
 . rw [nN,dP,show ks.map (λk=>V.str (aU (rdC ((hs.getD k none).getD []))))=((ks.map λk=>rdC ((hs.getD k none).getD [])).map aU).map V.str by rw [Cc,Cc]; rfl] at hd
   refine jN (bL (sD _ _ e1)) (bL hd) (bN (by rw [Ab,Ab,Ab]; show 1+_<=_; omega)) λr hr=>?_
   exact q r _ (none_of (s1.trans sD) hr) (s1.trans (sD.trans (aG hr _))) aD
def pR (f:Nat->Option Int) (hs:List (Option (List Nat))) (L:List Nat):Nat->Option Int:=bM λc=>aS f c+cnt (cC hs L) c
def aJI (f:Nat->Option Int) (hs:List (Option (List Nat))) (L:List Nat) (c:Nat):Int:=aS (bM (aS (pR f hs L))) c
def cQC (f:Nat->Option Int) (hs:List (Option (List Nat))) (n:Nat) (cw ks:List Nat):Prop:=CanH (aJI f hs (n::ks)) (bZ hs cw ks)
def PaperH (H:Hp) (f:Nat->Option Int) (hs:List (Option (List Nat))) (n:Nat) (cw ks:List Nat) (t:Addr):Prop:=∃ (c l1 l2:Addr) (rs:List Addr) (W:List Wt) (F:List Nat),H t=some (.tup [.ref c,.ref l1,.ref l2])/\H c=some (.lst (ks.map λk=>V.int ((k:Nat):Int)))/\H l1=some (.lst (rs.map V.ref))/\WtsAt H rs W/\H l2=some (.lst ((F.map one).map V.str))/\LackOk (bZ hs cw ks) (aJI f hs (n::ks)) W F
def PaperH.keep {H H':Hp} {f:Nat->Option Int} {hs:Q3} {n:Nat} {cw ks:List Nat} {t:Addr} (h:PaperH H f hs n cw ks t) (s:Same H H'):PaperH H' f hs n cw ks t:=by
 obtain ⟨c,l1,l2,rs,W,F,h1,h2,h3,h4,h5,h6⟩:=h;exact ⟨c,l1,l2,rs,W,F,s _ _ h1,s _ _ h2,s _ _ h3,⟨h4.1,λj p w hp hw=>s _ _ (h4.2 j p w hp hw)⟩,s _ _ h5,h6⟩
def PaperH.put {H:Hp} {f:Nat->Option Int} {hs:Q3} {n:Nat} {cw ks:List Nat} {t p:Addr} {o:HO} (h:PaperH H f hs n cw ks t) (h0:∀ c l1 l2,H t=some (.tup [.ref c,.ref l1,.ref l2])->c≠p/\l1≠p/\l2≠p) (hn:∀ xs,H p≠some (.tup xs)):PaperH (upd H p o) f hs n cw ks t:=by
 obtain ⟨c,l1,l2,rs,W,F,h1,h2,h3,h4,h5,h6⟩:=h;obtain ⟨n1,n2,n3⟩:=h0 _ _ _ h1;refine ⟨c,l1,l2,rs,W,F,?_,?_,?_,⟨h4.1,λj q w hq hw=>?_⟩,?_,h6⟩
 . rw [aH λz=>hn _ (by rw [<-z]; exact h1)]; exact h1
 . rw [aH n1]; exact h2
 . rw [aH n2]; exact h3
 . have e:=h4.2 j q w hq hw
   rw [aH λz=>hn _ (by rw [<-z]; exact e)]; exact e
 . rw [aH n3]; exact h5
def bJP (f:Nat->Option Int) (hs:List (Option (List Nat))) (n:Nat) (cw ks:List Nat) (j:Nat):Prop:=(dL (bD hs n))[j]?=some ks/\cQC f hs n cw ks/\∀ (i:Nat) l,i<j->(dL (bD hs n))[i]?=some l->¬ cQC f hs n cw l
def aZV {cs:List Nat} (hb:cN (cs.map one)=true):∀ d∈rdC cs,aQ d:=by
 have h:∀ i,i<=cs.length->∀ d∈rdC (cs.take i),aQ d:=λi=>by
   induction i with
   | zero=>intro _ d hd; rw [He] at hd; cases hd
   | succ i ih=>
     intro hi d hd;have hci:cs[i]?=some cs[i]:=Aa (by omega)
     have hrl:(rdC (cs.take i)).length=i:=gO (by omega)
     rw [kJ hci] at hd;obtain ⟨c,e1,e2,e3⟩:=rJ hb (i:=i) (z:=one cs[i]) (by rw [Af,hci]; rfl)
     have ec:cs[i]=c:=one_inj.mp e1
     rcases Bl.mp hd with e | e
     . exact ih (by omega) d e
     . rw [Aj.mp e,ec];unfold stp;rcases e3 with l | ⟨sb,lt⟩
       . rw [if_neg (fZ l)]; exact l
       . rw [if_pos sb,Ac,Aa (by omega)]
         exact ih (by omega) _ (Bq _)
 have r:=h cs.length (Ah _)
 rwa [Bp] at r
def yR {xs:List Addr} {u:Addr} (h:xs[xs.length - 1]?=some u):atI (xs.map V.ref) (-1)=some (.ref u):=by
 have hl:0<xs.length:=by have:=(Ad.mp h).1; omega
 unfold atI;rw [show ixN (xs.map V.ref).length (-1)=some (xs.length - 1) by
   rw [Ab];unfold ixN;rw [if_neg (by omega),if_pos (by omega)]
   exact Dt some (by omega)]
 show (xs.map V.ref)[xs.length - 1]?=_
 rw [Af,h];rfl
def bQ7 (os:List Nat):∃ A,dL os=A++[os]:=by
 refine ⟨pP os os.length,?_⟩;show pP os (os.length+1)=_
 rw [nG];congr 1
 exact sL os
def PapOk (H:Hp) (f:Nat->Option Int) (hs:List (Option (List Nat))) (n:Nat) (cw:List Nat) (p:Addr) (l:List Nat) (u:Addr):Prop:=PaperH H f hs n cw l u/\∀ c l1 l2,H u=some (.tup [.ref c,.ref l1,.ref l2])->c≠p/\l1≠p/\l2≠p
def PapOk.keep {H H':Hp} {f:Nat->Option Int} {hs:Q3} {n:Nat} {cw:List Nat} {p:Addr} {l:List Nat} {u:Addr} (h:PapOk H f hs n cw p l u) (s:Same H H'):PapOk H' f hs n cw p l u:=by
 refine ⟨h.1.keep s,λc l1 l2 e=>?_⟩;obtain ⟨c0,k1,k2,_,_,_,h1,_⟩:=h.1;have:=s _ _ h1
 rw [this] at e;cases e;exact h.2 _ _ _ h1
def PapOk.put {H:Hp} {f:Nat->Option Int} {hs:Q3} {n:Nat} {cw:List Nat} {p:Addr} {l:List Nat} {u:Addr} {xs ys:List V} (h:PapOk H f hs n cw p l u) (hp:H p=some (.lst xs)):PapOk (upd H p (.lst ys)) f hs n cw p l u:=by
 have hn:∀ zs,H p≠some (.tup zs):=λzs z=>by rw [hp] at z; cases z
 refine ⟨h.1.put h.2 hn,λc l1 l2 e=>?_⟩;obtain ⟨c0,k1,k2,_,_,_,h1,_⟩:=h.1;rw [aH λz=>hn _ (by rw [<-z]; exact h1)] at e
 exact h.2 _ _ _ e
def oY {hs:Q3} {cw ks:List Nat} (ok:gN hs) (hc:cw.length<=7/\∀ d∈cw,aQ d) (hk:∀ k∈ks,k<hs.length/\(hs.getD k none).isSome=true):∀ c∈bZ hs cw ks,c.length<=7/\∀ d∈c,aQ d:=λc hcm=>by
 rcases Ay.mp hcm with e | e
 . rw [e]; exact hc
 . obtain ⟨k,hkm,rfl⟩:=Be.mp e;obtain ⟨hkl,hks⟩:=hk k hkm;cases eh:hs.getD k none with
   | none=>rw [eh] at hks; cases hks
   | some cs=>
     have hb:=ok cs (by
       rw [Ac,Aa hkl] at eh;rw [<-show hs[k]=some cs from eh];exact Bq hkl)
     have h7c:=fS hb
     rw [Ab] at h7c;refine ⟨by show (rdC cs).length<=7; rw [wK]; exact h7c.2,?_⟩
     exact aZV hb
def nY (aC:Addr):Sp:=λvs H Q E=>∃ (a b:Addr) (kvs:List (Key×V)) (f:Nat->Option Int) (us:List V) (hs:List (Option (List Nat))) (n:Nat) (cw:List Nat),vs=[.ref a,.ref b,.int ((n:Nat):Int),.str (aU cw)]/\H a=some (.dK kvs)/\Lk kvs f/\(∀ c,0<=aS f c)/\rdL H b=some us/\HalsAt H us hs/\gN hs/\hs.length<=6/\n<hs.length/\cw.length<=7/\(∀ d∈cw,aQ d)/\
 (∀ (t L p:Addr) (ts:List Addr) (ks:List Nat) (j:Nat) (H':Hp),Same H H'->H t=none->H' t=some (.tup [.ref L,.ref p])->H L=none->H' L=some (.lst (ks.map λk=>V.int ((k:Nat):Int)))->bJP f hs n cw ks j->H p=none->H' p=some (.lst (ts.map V.ref))->ts.length=j->(∀ (i:Nat) u l,ts[i]?=some u->(dL (bD hs n))[i]?=some l->PaperH H' f hs n cw l u)->Q (.ref t) H')/\
 ((∀ l,l.Sublist (bD hs n)->¬ cQC f hs n cw l)->∀ (dx l1 l2:Addr) (rs:List Addr) (W:List Wt) (F:List Nat) (H':Hp),Same H H'->H' dx=some (xdO dx [("flags",.ref l2),("wants",.ref l1)])->H' l1=some (.lst (rs.map V.ref))->WtsAt H' rs W->H' l2=some (.lst ((F.map one).map V.str))->LackOk (bZ hs cw (bD hs n)) (aJI f hs (n::bD hs n)) W F->H l1=none->H l2=none->E (.ref aC) (some dx) H')
def sc_least_set:FnScope ["locker", "halyards", "number", "word", "papers", "lowered", "more", "lack"] ["locker", "halyards", "number", "word"] (aF fG):=by walk_at "sc"
def vI {Zt Zz Zu Zx Z0 Zw Zy Zv:Addr} {f:Addr} {fd:FuncData} (F:Fun K "least_set" "least_set" fG f fd) (G:Gs K mg w Zt Zz Zu Zx Z0 Zw Zy Zv) (c_sets_of:Cal P w K mg base 10 "sets_of" ["others"] rD) (c_Lack_init:vQ P w K mg base 1 Zt ["self", "wants", "flags"] (gP Zt)) (c_others_hung:Cal P w K mg base 1 "others_hung" ["halyards", "number"] kN) (c_put_in:Cal P w K mg base 2 "put_in" ["locker", "flags"] lN) (c_lack_of:Cal P w K mg base 4 "lack_of" ["locker", "words"] sN) (c_flags_on:Cal P w K mg base 1 "flags_on" ["halyards", "numbers"] iL) (c_words_with:Cal P w K mg base 5 "words_with" ["halyards", "word", "lowered"] iY):FnOk P w K mg base (CXr P w) 11 f fd ["locker", "halyards", "number", "word"] (nY Zt):=by
 refine F.okX sc_least_set (λvs H Q E h=>?_) (λcdv A outer s H vs Q E hr h=>?_)
 . obtain ⟨a,b,kvs,f,us,hs,n,cw,rfl,_⟩:=h; rfl
 obtain ⟨a,b,kvs,f,us,hs,n,cw,rfl,ha,lk,hf0,hb,hat,ok,h6,hn,hc7,hcL,q,qe⟩:=h;refine ⟨_,(@aE _ _ _ _ _ (@aP _ _ 4 _ _ _ _ sc_least_set.nd (by rfl) (by exact (Or.inl rfl)) (bV aB) (by rfl) (by walk_at "o")) (@aE _ _ _ _ _ (PS.nox (cR Br rfl (cL (aW c_sets_of hr (by decide) rfl (aA (aW c_others_hung hr (by decide) rfl (aA (mv 1) (aA (mv 2) aB))) aB))) (aY (i:=5) sc_least_set.nd rfl (Or.inl rfl)) (@aE _ _ _ _ _ (@aP _ _ 6 _ _ _ _ sc_least_set.nd (by rfl) (by exact (Or.inl rfl)) (aW c_put_in hr (by decide) rfl (aA (mv 0) (aA (aW c_flags_on hr (by decide) rfl (aA (mv 1) (aA (aR bS (bV (aA (mv 2) aB)) (mv 5)) aB))) aB))) (by rfl) (by walk_at "o")) (@aE _ _ _ _ _ (@aP _ _ 7 _ _ _ _ sc_least_set.nd (by rfl) (by exact (Or.inl rfl)) (aW c_lack_of hr (by decide) rfl (aA (mv 6) (aA (aW c_words_with hr (by decide) rfl (aA (mv 1) (aA (mv 3) (aA (mv 5) aB)))) aB))) (by rfl) (by walk_at "o")) (@aE _ _ _ _ _ (cG (bA aZ4 (mv 7) cW (bE _)) (@aI _ _ _ (aV (gG (aA (mv 5) (aA (mv 4) aB))))) bH) (@aI _ _ _ (cD (dB Bu Ez Fa aJY (mv 4) (aA (gG (aA (mv 5) (aA (bK cF (mv 7) aJ (λ_ _=>rfl)) (aA (bK cF (mv 7) aJ (λ_ _=>rfl)) aB)))) aB))))))))) (@aI _ _ _ (lL jR rfl rfl rfl G.c_Lack G.xm_Lack c_Lack_init hr (by decide) (aA (bK cF (bK cF (mv 4) (dQN dXA aJ) (λ_ _=>rfl)) aJ (λ_ _=>rfl)) (aA (bK cF (bK cF (mv 4) (dQN dXA aJ) (λ_ _=>rfl)) aJ (λ_ _=>rfl)) aB)))))),?_⟩
 have hol:=sG hn
 walk_at "go";refine ⟨by decide,λp hp=>?_⟩
 have s1:=aG hp (.lst [])
 have e1:(upd H p (.lst [])) p=some (.lst (([]:List Addr).map V.ref)):=aD
 generalize upd H p (.lst [])=H1 at s1 e1 ⊢;walk_at "go";refine ⟨b,us,hs,n,rfl,aK s1 hb,hat.keep s1,by omega,λro H2 hro s2 eo=>?_⟩
 walk_at "go";refine ⟨ro,bD hs n,rfl,aT eo,by omega,λrS ps H3 hrS s3 eS ls nd=>?_⟩
 have s13:=s2.trans s3
 walk_at "go";have hps:ps.length=(dL (bD hs n)).length:=by rw [ls.1,Ab]
 have hpl:(ps.map V.ref).length=(dL (bD hs n)).length:=by rw [Ab,hps]
 have hsl:(dL (bD hs n)).length<=6 * 6 ^ 5:=Bg (oS (i:=(bD hs n).length+1) (by omega) (by omega)) (Nat.mul_le_mul_right _ (by omega))
 have e13:=s13 _ _ e1
 have s03:=s1.trans s13
 have lat:∀ (j:Nat) c l,ps[j]?=some c->(dL (bD hs n))[j]?=some l->H3 c=some (.lst (l.map λk=>V.int ((k:Nat):Int)))/\c≠p/\H c=none:=λj c l hc hl=>by
   obtain ⟨h1,h2⟩:=ls.2 j c (l.map λk=>V.int ((k:Nat):Int)) hc (by rw [Af,hl]; rfl)
   exact ⟨h2,(λz=>by rw [z,s2 _ _ e1] at h1; cases h1),none_of (s1.trans s2) h1⟩
 have npS:rS≠p:=λz=>by rw [z,s2 _ _ e1] at hrS; cases hrS
 have hsub:∀ (j:Nat) l,(dL (bD hs n))[j]?=some l->l.Sublist (bD hs n):=λj l h=>mem_sets.mp (Al h)
 refine iO (xs:=ps.map V.ref) (λi σ H'=>∃ (ts:List Addr) (v5 v6 v7:Option V),σ=[some (.ref a),some (.ref b),some (.int ((n:Nat):Int)),some (.str (aU cw)),some (.ref p),v5,v6,v7]/\Same H H'/\(∀ z u,z≠p->H3 z=some u->H' z=some u)/\H' p=some (.lst (ts.map V.ref))/\ts.length=i/\
     (∀ (j:Nat) u l,ts[j]?=some u->(dL (bD hs n))[j]?=some l->PapOk H' f hs n cw p l u)/\∀ (j:Nat) l,j<i->(dL (bD hs n))[j]?=some l->¬ cQC f hs n cw l)
   ⟨[],_,_,_,rfl,s03,λz u _ h=>h,e13,rfl,λj u l hu=>(nomatch hu),λj l hj=>absurd hj (Fm _)⟩ (λi σ H' _ ⟨_,_,_,_,_,_,fr,_⟩=>aT (fr _ _ npS eS)) ?_ ?_
 . rintro i x σ H4 hx ⟨ts,v5,v6,v7,rfl,s4,fr4,e4,htl,hpap,hno⟩;have hi:i<(dL (bD hs n)).length:=by rw [<-hpl]; exact (Ad.mp hx).1
   obtain ⟨l,hl⟩:∃ l,(dL (bD hs n))[i]?=some l:=⟨_,Aa hi⟩;obtain ⟨c,hc,rfl⟩:=aXV hx;obtain ⟨lc3,ncp,hcn⟩:=lat i c l hc hl;have lc:=fr4 _ _ ncp lc3
   have hlk:∀ k∈l,k<hs.length/\(hs.getD k none).isSome=true:=λk hk=>by
     have:=gZ ((hsub i l hl).subset hk)
     exact ⟨this.1,this.2.1⟩
   have hll:l.length<=5:=by have:=(hsub i l hl).length_le; omega
   have hb4:=aK s4 hb
   have hat4:=hat.keep s4
   walk_at "go";refine ⟨by show 1<=sizeLine; decide,λp5 hp5=>?_⟩
   have s5:=aG hp5 (.lst [V.int ((n:Nat):Int)])
   have e5:(upd H4 p5 (.lst [V.int ((n:Nat):Int)])) p5=some (.lst [V.int ((n:Nat):Int)]):=aD
   generalize upd H4 p5 (.lst [V.int ((n:Nat):Int)])=H5 at s5 e5 ⊢;walk_at "go";refine jN (bL e5) (bL (s5 _ _ lc)) (bN (by rw [nN]; show 1+_<=_; omega)) λp6 hp6=>?_
   have s6:=aG hp6 (.lst ((n::l).map λk=>V.int ((k:Nat):Int)))
   have e6:rdL (upd H5 p6 (.lst ((n::l).map λk=>V.int ((k:Nat):Int)))) p6=some ((n::l).map λk=>V.int ((k:Nat):Int)):=dG
   change bXG _ (upd H5 p6 (.lst ((n::l).map λk=>V.int ((k:Nat):Int)))) _
   generalize upd H5 p6 (.lst ((n::l).map λk=>V.int ((k:Nat):Int)))=H6 at s6 e6 ⊢;have s46:=s5.trans s6
   walk_at "go";refine ⟨b,p6,us,hs,n::l,rfl,aK s46 hb4,hat4.keep s46,ok,e6,by show l.length+1<=7; omega,λk hk=>by rcases Ay.mp hk with e | e; (· rw [e]; exact hn); (· exact (hlk k e).1),λr7 H7 hr7 s7 e7=>?_⟩
   have s47:=s46.trans s7
   have fl7:=hX ok (n::l)
   walk_at "go";refine ⟨a,r7,kvs,f,cC hs (n::l),rfl,s47 _ _ (s4 _ _ ha),lk,hf0,aT e7,by rw [Aw] at fl7; omega,λr8 kws H8 hr8 s8 e8 lk8=>?_⟩
   have s48:=s47.trans s8
   walk_at "go";refine ⟨b,c,us,hs,cw,l,rfl,aK s48 hb4,hat4.keep s48,ok,aT (s48 _ _ lc),by omega,hlk,λr9 H9 hr9 s9 e9=>?_⟩
   have s49:=s48.trans s9
   walk_at "go";refine ⟨r8,r9,kws,pR f hs (n::l),bZ hs cw l,rfl,.inl (s9 _ _ e8),lk8,aT e9,by unfold bZ; rw [Aw,Ab]; omega,oY ok ⟨hc7,hcL⟩ hlk,λhcan H10 s10=>?_,λt0 l1 l2 rs W F H10 s10 ht0 e10 el1 hwt el2 hlo hn1 hn2=>?_⟩
   . have s410:=s49.trans s10
     walk_at "go";rw [show decide (V.non=V.non)=true from rfl];walk_at "go";refine ⟨by show 2<=sizeLine; decide,λt ht=>?_⟩
     have s11:=s410.trans (aG ht (.tup [.ref c,.ref p]))
     exact q t c p ts l i _ (s4.trans s11) (none_of (s4.trans s410) ht) aD hcn (s11 _ _ lc) ⟨hl,hcan,hno⟩ hp (s11 _ _ e4) htl λj u l' hu hl'=>((hpap j u l' hu hl').1.keep s11)
   . have s410:=s49.trans s10
     have n1:l1≠p:=λz=>by rw [z,s49 _ _ e4] at hn1; cases hn1
     have n2:l2≠p:=λz=>by rw [z,s49 _ _ e4] at hn2; cases hn2
     have m10:=bL (s410 _ _ e4)
     have r10:=aT (s410 _ _ e4)
     have hln:(ts.map V.ref).length<sizeLine:=bG (by rw [Ab,htl]; omega)
     walk_at "go";rw [show decide (V.ref t0=V.non)=false from Ax (λz=>nomatch z)]
     walk_at "go";refine dS e10 (v:=.ref l1) rfl ?_;walk_at "go";refine dS e10 (v:=.ref l2) rfl ?_;walk_at "go";refine ⟨by show 3<=sizeLine; decide,λtp htp=>?_⟩
     have s11:=aG htp (.tup [.ref c,.ref l1,.ref l2])
     have e11:(upd H10 tp (.tup [.ref c,.ref l1,.ref l2])) tp=some (.tup [.ref c,.ref l1,.ref l2]):=aD
     generalize upd H10 tp (.tup [.ref c,.ref l1,.ref l2])=H11 at s11 e11 ⊢;have s411:=s410.trans s11
     have ep:=s411 _ _ e4
     have m11:=bL ep
     walk_at "go";have pnew:PapOk H11 f hs n cw p l tp:=⟨⟨c,l1,l2,rs,W,F,e11,s411 _ _ lc,s11 _ _ el1,⟨hwt.1,λj q w hq hw=>s11 _ _ (hwt.2 j q w hq hw)⟩,s11 _ _ el2,hlo⟩,λc' k1 k2 e=>by rw [e11] at e; cases e; exact ⟨ncp,n1,n2⟩⟩
     refine ⟨ts++[tp],_,_,_,rfl,bI hp (s4.trans s411),λz u hz h=>by rw [aH hz]; exact s411 _ _ (fr4 z u hz h),by rw [aD,Ao]; rfl,by rw [Ag,htl]; rfl,λj u l' hu hl'=>?_,λj l' hj hl'=>?_⟩
     . by_cases hjl:j<ts.length
       . rw [Aq hjl] at hu;exact ((hpap j u l' hu hl').keep s411).put ep
       . have ej:j=ts.length:=by
           have:=(Ad.mp hu).1
           rw [Ag] at this;have:j<ts.length+1:=this
           omega
         rw [ej,Ar (Ah _),Ei] at hu;cases hu;rw [ej,htl,hl] at hl';cases hl';exact pnew.put ep
     . by_cases ej:j=i
       . rw [ej,hl] at hl';cases hl';exact yA hlo
       . exact hno j l' (by omega) hl'
 . rintro σ H4 ⟨ts,v5,v6,v7,rfl,s4,fr4,e4,htl,hpap,hno⟩;rw [hpl] at htl hno;obtain ⟨A0,hA0⟩:=bQ7 (bD hs n);have hlen:(dL (bD hs n)).length=A0.length+1:=by rw [hA0,Ag]; rfl
   have hlast:(dL (bD hs n))[ts.length - 1]?=some (bD hs n):=by
     rw [htl,hlen,hA0,Nat.add_sub_cancel,Ar (Ah _),Ei];rfl
   have hu:ts[ts.length - 1]?=some (ts[ts.length - 1]'(by omega)):=Aa (by omega)
   have hpp:=hpap _ _ _ hu hlast
   have au:=yR hu
   generalize ts[ts.length - 1]'(by omega)=u at hpp au
   obtain ⟨⟨c,l1,l2,rs,W,F,h1,h2,h3,h4,h5,h6⟩,_⟩:=hpp;have r4:=aT e4
   walk_at "go";refine fO r4 au ?_;walk_at "go";refine dS h1 (v:=.ref l1) rfl ?_;walk_at "go";refine fO r4 au ?_;walk_at "go";refine dS h1 (v:=.ref l2) rfl ?_;walk_at "go";refine ⟨by show 2<=sizeLine; decide,λea hea=>⟨ea,l1,l2,_,_,rfl,aD,aK (aG hea _) (aT h3),aK (aG hea _) (aT h5),λdx k1 k2 H' frx hdx nde g1 g2 g3 g4 hk1 hk2=>⟨rfl,some dx,g1,?_⟩⟩⟩
   have n1:k1≠ea:=λz=>by rw [z,g1] at g3; cases g3
   have n2:k2≠ea:=λz=>by rw [z,g1] at g4; cases g4
   have go9:∀ b u,H4 b=some u->(del H' ea) b=some u:=λb u hu=>by
     have nb:b≠ea:=λz=>by rw [z,hea] at hu; cases hu
     rw [eK nb];exact frx b u nb (by rw [aH nb]; exact hu)
   refine qe (λl hl=>?_) dx k1 k2 rs W F (del H' ea) (λb u hu=>go9 _ _ (s4 _ _ hu)) ((eK nde).trans g2) ((eK n1).trans g3) ⟨h4.1,λj q w hq hw=>go9 _ _ (h4.2 j q w hq hw)⟩ ((eK n2).trans g4) h6 (none_of s4 (by rw [aH n1] at hk1; exact hk1)) (none_of s4 (by rw [aH n2] at hk2; exact hk2))
   obtain ⟨j,hj,ej⟩:=By.mp (mem_sets.mpr hl);exact hno j l hj (by rw [Aa hj,ej])
def cQO:∀ (cws:Q5) (fs:List Nat),(mU cws fs).length=cws.length
 | [],_=>rfl
 | cw::r,fs=>by rw [mU,Aw,Aw,cQO r]
def yQ:∀ {cws:Q5} {fs:List Nat} {i:Nat} {cw:List Nat},cws[i]?=some cw->(mU cws fs)[i]?=some ((fs.drop (fN cws i)).take cw.length)
 | [],_,i,_,h=>by cases h
 | c::r,fs,0,cw,h=>by cases h; rfl
 | c::r,fs,i+1,cw,h=>by
   show (mU r (fs.drop c.length))[i]?=_
   rw [yQ (show r[i]?=some cw from h),List.drop_drop];rfl
def cZI (cs:List Nat) (c:Nat):cnt cs c=(ctn cs c:Int):=by
 unfold cnt ctn;refine Dt (λn:Nat=>(n:Int)) (List.countP_congr λx _=>?_);simp
def nL {α:Type} {p:List α->Prop} (h0:p []) (h1:∀ l a,p l->p (l++[a])):∀ l,p l:=λl=>by
 have h:∀ r:List α,p r.reverse:=λr=>by
   induction r with
   | nil=>exact h0
   | cons a r ih=>rw [List.reverse_cons]; exact h1 _ _ ih
 have:=h l.reverse
 rwa [List.reverse_reverse] at this
def iG (hs:List (Option (List Nat))) (zs:List (Nat×List Nat)):List (Option (List Nat)):=zs.foldl (λh z=>h.set z.1 (some z.2)) hs
def jF (hs:Q3) (zs:List (Nat×List Nat)) (z:Nat×List Nat):iG hs (zs++[z])=(iG hs zs).set z.1 (some z.2):=by
 unfold iG;rw [List.foldl_append];rfl
def kK (hs:Q3):∀ zs:List (Nat×List Nat),(iG hs zs).length=hs.length:=λzs=>by
 refine nL (p:=λzs=>(iG hs zs).length=hs.length) rfl (λzs z ih=>?_) zs;rw [jF,Cg,ih]
def aX2 (hs:Q3) {k:Nat}:∀ zs:List (Nat×List Nat),(∀ z∈zs,z.1≠k)->(iG hs zs).getD k none=hs.getD k none:=λzs=>by
 refine nL (p:=λzs=>(∀ z∈zs,z.1≠k)->(iG hs zs).getD k none=hs.getD k none) (λ_=>rfl) (λzs z ih=>?_) zs
 . intro h;rw [jF,Ac,Da (h z (Bk _ Am)),<-Ac];exact ih λy hy=>h y (Cm _ hy)
def aZN (hs:Q3):∀ (zs:List (Nat×List Nat)),(zs.map (·.1)).Nodup->(∀ z∈zs,z.1<hs.length)->∀ z∈zs,(iG hs zs).getD z.1 none=some z.2:=λzs=>by
 refine nL (p:=λzs=>(zs.map (·.1)).Nodup->(∀ z∈zs,z.1<hs.length)->∀ z∈zs,(iG hs zs).getD z.1 none=some z.2) (λ_ _ z hz=>nomatch hz) (λzs y ih=>?_) zs
 . intro nd hl z hz;rw [Ao,Au,Hq] at nd;rw [jF];rcases Bl.mp hz with e | e
   . have ne:y.1≠z.1:=λq=>(Dv.mp nd).2.2 z.1 (List.mem_map_of_mem e) y.1 Am q.symm
     rw [Ac,Da ne,<-Ac];exact ih (Dv.mp nd).1 (λw hw=>hl w (Cm _ hw)) z e
   . rw [Aj.mp e,Ac,Df (by rw [kK]; exact hl y (Bk _ Am))]
     rfl
def aZ6 {hs:Q3} (ok:gN hs):∀ zs:List (Nat×List Nat),(∀ z∈zs,cN (z.2.map one)=true)->gN (iG hs zs):=λzs=>by
 refine nL (p:=λzs=>(∀ z∈zs,cN (z.2.map one)=true)->gN (iG hs zs)) (λ_=>ok) (λzs z ih=>?_) zs;intro h cs hcs;rw [jF] at hcs;rcases Dy hcs with e | e
 . exact ih (λy hy=>h y (Cm _ hy)) cs e
 . cases e;exact h z (Bk _ Am)
def yY {hs:Q3}:∀ {L:List Nat} {gs:Q5},L.length=gs.length->(∀ z∈L.zip gs,hs.getD z.1 none=some z.2)->cC hs L=gs.flatten
 | [],[],_,_=>rfl
 | k::L,g::gs,hl,h=>by
   show ((hs.getD k none).getD [])++cC hs L=g++gs.flatten
   rw [show hs.getD k none=some g from h (k,g) List.mem_cons_self,yY (by simpa using hl) λz hz=>h z (List.mem_cons_of_mem _ hz)]
   rfl
 | [],_::_,hl,_=>by cases hl
 | _::_,[],hl,_=>by cases hl
def HalsAt.set {H:Hp} {vs:List V} {hs:Q3} {k:Nat} {v:V} {h:Option (List Nat)} (a:HalsAt H vs hs) (b:HalV H v h):HalsAt H (vs.set k v) (hs.set k h):=by
 refine ⟨by rw [Cg,Cg,a.len],λj u g hu hg=>?_⟩
 by_cases e:k=j
 . subst e;have h1:=(Ad.mp hu).1
   have h2:=(Ad.mp hg).1
   rw [Cg] at h1 h2;rw [Df h1] at hu;rw [Df h2] at hg;cases hu;cases hg;exact b
 . rw [Da e] at hu hg;exact a.val j u g hu hg
def aQO {H H':Hp} {p D:Addr} {xs:List V} (h:rdL H p=some xs) (n:p≠D) (fr:∀ z u,z≠D->H z=some u->H' z=some u):rdL H' p=some xs:=by
 refine aK (H:=λz=>if z=p then H z else none) (λz u e=>?_) ?_
 . dsimp only at e;by_cases zp:z=p
   . rw [if_pos zp] at e; rw [zp] at e ⊢; exact fr p u n e
   . rw [if_neg zp] at e; cases e
 . unfold rdL at h ⊢;dsimp only;rw [if_pos rfl];exact h
def cQH {α β:Type} {L:List α} {M:List β} {i:Nat} {a:α} {b:β} (h1:L[i]?=some a) (h2:M[i]?=some b):(L.zip M).take (i+1)=(L.zip M).take i++[(a,b)]:=by
 rw [Bd];congr 1
 have:(L.zip M)[i]?=some (a,b):=by rw [List.getElem?_zip_eq_some]; exact ⟨h1,h2⟩
 rw [this];rfl
def eXE {cw:List Nat} {k c:Nat} (hL:∀ d∈cw,aQ d) (hk:k<cw.length) (h:c∈chs cw k):oV c:=by
 rcases ch_iff.mp h with e | ⟨m,_,h4,_,e⟩
 . left
   rw [e,Ac,Aa hk];exact hL _ (Bq hk)
 . right
   rw [e];unfold eI;omega
def bJD:∀ {cws gs:Q5},Hgs cws gs->(∀ c∈cws,1<=c.length/\c.length<=7/\∀ d∈c,aQ d)->(∀ g∈gs,cN (g.map one)=true/\∀ c∈g,oV c)
 | _,_,.nil,_,g,hg=>nomatch hg
 | _,_,.cons (cw:=cw) (h:=h) a b,hW,g,hg=>by
   rcases Ay.mp hg with e | e
   . rw [e];obtain ⟨h1,h7,hL⟩:=hW cw Am;refine ⟨cQ2 hL (by rw [a.1]; exact h1) (by rw [a.1]; exact h7) (by rw [a.1]; exact Ah _) λk hk=>?_,λc hc=>?_⟩
     . exact a.2 k _ (by rw [Ac,Aa hk]; rfl)
     . obtain ⟨k,hk,ek⟩:=By.mp hc;exact eXE hL (by rw [<-a.1]; exact hk) (a.2 k c (by rw [Aa hk,ek]))
   . exact bJD b (λc hc=>hW c (Ak _ hc)) g e
def Hgs.lens:∀ {cws gs:Q5},Hgs cws gs->gs.length=cws.length
 | _,_,.nil=>rfl
 | _,_,.cons _ b=>by rw [Aw,Aw,b.lens]
def eQO {f:Nat->Option Int} {cs:List Nat} (h:∀ c,cnt cs c<=aS f c):sF f cs cs.length:=λj d hj hd=>by
 have:=bJY hd
 have:=h d
 omega
def pS (f:Nat->Option Int) (hs:Q3) (L:List Nat) (c:Nat):0<=aS (pR f hs L) c:=by
 show 0<=(bM _ c).getD 0
 unfold bM;split
 . rename_i h; exact Int.le_of_lt h.2
 . exact Ho _
def bQL (hs:Q3) (n:Nat):(bD hs n).Nodup:=List.Nodup.sublist Fc List.nodup_range
def uK {hs:Q3} {n:Nat} {ks:List Nat} (h:ks.Sublist (bD hs n)):(n::ks).Nodup:=Cf.mpr ⟨λz=>(gZ (h.subset z)).2.2 rfl,(bQL hs n).sublist h⟩
def qZ {hs:Q3} {cw ks:List Nat} (ok:gN hs) (h1:1<=cw.length) (hc:cw.length<=7/\∀ d∈cw,aQ d) (hk:∀ k∈ks,k<hs.length/\(hs.getD k none).isSome=true):∀ c∈bZ hs cw ks,1<=c.length/\c.length<=7/\∀ d∈c,aQ d:=λc hcm=>by
 refine ⟨?_,oY ok hc hk c hcm⟩;rcases Ay.mp hcm with e | e
 . rw [e]; exact h1
 . obtain ⟨k,hkm,rfl⟩:=Be.mp e;obtain ⟨hkl,hks⟩:=hk k hkm;cases eh:hs.getD k none with
   | none=>rw [eh] at hks; cases hks
   | some cs=>
     have hb:=ok cs (by
       rw [Ac,Aa hkl] at eh;rw [<-show hs[k]=some cs from eh];exact Bq hkl)
     have h7c:=fS hb
     rw [Ab] at h7c;show 1<=(rdC cs).length
     rw [wK];exact h7c.1
def dZ6 (H:Hp) (a b:Addr) (kvs:List (Key×V)) (f:Nat->Option Int) (us:List V) (hs:List (Option (List Nat))) (n:Nat) (cw:List Nat):Prop:=H a=some (.dK kvs)/\Lk kvs f/\(∀ c,0<=aS f c)/\rdL H b=some us/\HalsAt H us hs/\gN hs/\hs.length<=6/\n<hs.length/\1<=cw.length/\cw.length<=7/\(∀ d∈cw,aQ d)
def uG (aC:Addr):Sp:=λvs H Q E=>∃ (a b:Addr) (kvs:List (Key×V)) (f:Nat->Option Int) (us:List V) (hs:List (Option (List Nat))) (n:Nat) (cw:List Nat),vs=[.ref a,.ref b,.int ((n:Nat):Int),.str (aU cw)]/\dZ6 H a b kvs f us hs n cw/\
 (∀ (t L B R:Addr) (ks:List Nat) (gs:Q5) (j:Nat) (vs':List V) (kws:List (Key×V)) (H':Hp),Same H H'->H t=none->H' t=some (.tup [.ref L,.ref B,.ref R])->H L=none->H' L=some (.lst (ks.map λk=>V.int ((k:Nat):Int)))->bJP f hs n cw ks j->Hgs (bZ hs cw ks) gs->(∀ c,cnt gs.flatten c<=aS (pR f hs (n::ks)) c)->H B=none->H' B=some (.lst vs')->HalsAt H' vs' (iG hs ((n::ks).zip gs))->H R=none->H' R=some (.dK kws)->Lk kws (bM λc=>aS (pR f hs (n::ks)) c - cnt gs.flatten c)->Q (.ref t) H')/\
 ((∀ l,l.Sublist (bD hs n)->¬ cQC f hs n cw l)->∀ (dx l1 l2:Addr) (rs:List Addr) (W:List Wt) (F:List Nat) (H':Hp),Same H H'->H' dx=some (xdO dx [("flags",.ref l2),("wants",.ref l1)])->H' l1=some (.lst (rs.map V.ref))->WtsAt H' rs W->H' l2=some (.lst ((F.map one).map V.str))->LackOk (bZ hs cw (bD hs n)) (aJI f hs (n::bD hs n)) W F->H l1=none->H l2=none->E (.ref aC) (some dx) H')
def sc_hauled:FnScope ["locker", "halyards", "number", "word", "lowered", "rehung", "more", "behind", "at", "hoist"] ["locker", "halyards", "number", "word"] (aF jD):=by walk_at "sc"
def bXC {Zt Zz Zu Zx Z0 Zw Zy Zv:Addr} {f:Addr} {fd:FuncData} (F:Fun K "hauled" "hauled" jD f fd) (G:Gs K mg w Zt Zz Zu Zx Z0 Zw Zy Zv) (c_put_in:Cal P w K mg base 2 "put_in" ["locker", "flags"] lN) (c_least_set:kH P w K mg base 11 "least_set" ["locker", "halyards", "number", "word"] (nY Zt)) (c_flags_on:Cal P w K mg base 1 "flags_on" ["halyards", "numbers"] iL) (c_hang_all:kH P w K mg base 3 "hang_all" ["locker", "words"] (kR Zt)) (c_taken:kH P w K mg base 3 "taken" ["locker", "flags"] (zD Zu)) (c_words_with:Cal P w K mg base 5 "words_with" ["halyards", "word", "lowered"] iY):FnOk P w K mg base (CXr P w) 12 f fd ["locker", "halyards", "number", "word"] (uG Zt):=by
 refine F.okX sc_hauled (λvs H Q E h=>?_) (λcdv A outer s H vs Q E hr h=>?_)
 . obtain ⟨a,b,kvs,f,us,hs,n,cw,rfl,_⟩:=h; rfl
 obtain ⟨a,b,kvs,f,us,hs,n,cw,rfl,⟨ha,lk,hf0,hb,hat,ok,h6,hn,hc1,hc7,hcL⟩,q,qe⟩:=h;refine ⟨_,(@aE _ _ _ _ _ (@aP _ _ 4 _ _ _ _ sc_hauled.nd (by rfl) (by exact (Or.inl rfl)) (bK cF (dM c_least_set cP hr (by decide) rfl (aA (mv 0) (aA (mv 1) (aA (mv 2) (aA (mv 3) aB))))) aJ (λ_ _=>rfl)) (by rfl) (by walk_at "o")) (@aE _ _ _ _ _ (@aP _ _ 5 _ _ _ _ sc_hauled.nd (by rfl) (by exact (Or.inl rfl)) (aR bS (bV (aA (mv 2) aB)) (mv 4)) (by rfl) (by walk_at "o")) (@aE _ _ _ _ _ (@aP _ _ 6 _ _ _ _ sc_hauled.nd (by rfl) (by exact (Or.inl rfl)) (aW c_put_in hr (by decide) rfl (aA (mv 0) (aA (aW c_flags_on hr (by decide) rfl (aA (mv 1) (aA (mv 5) aB))) aB))) (by rfl) (by walk_at "o")) (@aE _ _ _ _ _ (iP (i:=7) sc_hauled.nd rfl (Or.inl rfl) rfl (cL (mv 1)) (mE (N:=["hoist"]) (by decide +kernel) (by decide +kernel)) (by decide +kernel) rfl (by decide +kernel) (λ_ _ _ _=>(aY (i:=0) (show List.Nodup (["hoist"]:List Str) by decide +kernel) rfl (Or.inl rfl))) (λ_ _ _ _=>dO) (λ_ _ _ _=>(qM (bA aZ4 (mv 0) cW (bE _)) cW (cH kZ rfl G.b_list fY (aA (mv 0) aB))))) (@aE _ _ _ _ _ (cR PassesOwn.leaving rfl (bJO rfl G.b_zip (aA (mv 5) (aA (dM c_hang_all cP hr (by decide) rfl (aA (mv 6) (aA (aW c_words_with hr (by decide) rfl (aA (mv 1) (aA (mv 3) (aA (mv 4) aB)))) aB))) aB))) (fL (K:=K) (i:=8) (j:=9) (by rfl) (by rfl) sc_hauled.nd (by rfl) (by exact (Or.inl rfl)) (by exact Or.inl rfl) (by rfl) (by exact (Or.inl rfl)) (by exact Or.inl rfl)) (@aI _ _ _ (wY (mv 9) (aQY (mv 7) (mv 8) qQ)))) (@aI _ _ _ (aV (gG (aA (mv 4) (aA (mv 7) (aA (dM c_taken cP hr (by decide) rfl (aA (mv 6) (aA (aW c_flags_on hr (by decide) rfl (aA (mv 7) (aA (mv 5) aB))) aB))) aB))))))))))),?_⟩
 have hol:=sG hn
 walk_at "go";refine ⟨a,b,kvs,f,us,hs,n,cw,rfl,ha,lk,hf0,hb,hat,ok,h6,hn,hc7,hcL,λt0 L p0 ts ks j H1 s1 ht0 et hL eL hfst _ _ _ _=>?_,qe⟩;have hks:=mem_sets.mp (Al hfst.1)
 have hlk:∀ k∈ks,k<hs.length/\(hs.getD k none).isSome=true:=λk hk=>by
   have:=gZ (hks.subset hk)
   exact ⟨this.1,this.2.1⟩
 have hkl:ks.length<=5:=by have:=hks.length_le; omega
 have hb1:=aK s1 hb
 have hat1:=hat.keep s1
 refine dS et (v:=.ref L) rfl ?_;walk_at "go";refine ⟨by show 1<=sizeLine; decide,λp5 hp5=>?_⟩
 have s5:=aG hp5 (.lst [V.int ((n:Nat):Int)])
 have e5:(upd H1 p5 (.lst [V.int ((n:Nat):Int)])) p5=some (.lst [V.int ((n:Nat):Int)]):=aD
 generalize upd H1 p5 (.lst [V.int ((n:Nat):Int)])=H5 at s5 e5 ⊢;walk_at "go";refine jN (bL e5) (bL (s5 _ _ eL)) (bN (by rw [nN]; show 1+_<=_; omega)) λp6 hp6=>?_
 have s6:=aG hp6 (.lst ((n::ks).map λk=>V.int ((k:Nat):Int)))
 have e6:rdL (upd H5 p6 (.lst ((n::ks).map λk=>V.int ((k:Nat):Int)))) p6=some ((n::ks).map λk=>V.int ((k:Nat):Int)):=dG
 change nS _ _ _ (upd H5 p6 (.lst ((n::ks).map λk=>V.int ((k:Nat):Int)))) _
 generalize upd H5 p6 (.lst ((n::ks).map λk=>V.int ((k:Nat):Int)))=H6 at s6 e6 ⊢;have s16:=s5.trans s6
 walk_at "go";refine ⟨b,p6,us,hs,n::ks,rfl,aK s16 hb1,hat1.keep s16,ok,e6,by show ks.length+1<=7; omega,λk hk=>by rcases Ay.mp hk with e | e; (· rw [e]; exact hn); (· exact (hlk k e).1),λr7 H7 hr7 s7 e7=>?_⟩
 have s17:=s16.trans s7
 have fl7:=hX ok (n::ks)
 walk_at "go";refine ⟨a,r7,kvs,f,cC hs (n::ks),rfl,s17 _ _ (s1 _ _ ha),lk,hf0,aT e7,by rw [Aw] at fl7; omega,λr8 kws H8 hr8 s8 e8 lk8=>?_⟩
 have s18:=s17.trans s8
 have e68:=aK (s7.trans s8) e6
 have hb8:=aK s18 hb1
 have hat8:=hat1.keep s18
 have hul:=hat.len
 walk_at "go";refine cZL (hs:=hs) hb8 (bG (by omega)) hul (λi x h Hc A B hx hh sm hA=>?_) (λD Hd vs hD sD hd hatD hfr=>?_)
 . have hv:=(hat8.keep sm).val i x h hx hh
   cases h with
   | none=>
     obtain rfl:x=V.non:=hv;walk_at "go";refine ⟨Wk.set rfl (Wk.refl _),?_⟩;walk_at "go";rw [show decide (V.non=V.non)=true from rfl];walk_at "go";exact hA .non _ (Same.refl _) rfl λp z=>nomatch z
   | some cs=>
     obtain ⟨pc,rfl,hpc⟩:=hv;have rc:=aT hpc
     walk_at "go";refine ⟨Wk.set rfl (Wk.refl _),?_⟩;walk_at "go";rw [show decide (V.ref pc=V.non)=false from Ax (λz=>nomatch z)]
     walk_at "go";intro l2 hl2;exact hA (.ref l2) _ (aG hl2 _) ⟨l2,rfl,aD⟩ λp z=>by cases z; exact hl2
 . have s1D:=s18.trans sD
   have e6D:=aK sD e68
   have eLD:=s1D _ _ eL
   walk_at "go";refine ⟨b,L,us,hs,cw,ks,rfl,aK s1D hb1,hat1.keep s1D,ok,aT eLD,by omega,hlk,λr9 H9 hr9 s9 e9=>?_⟩
   walk_at "go";refine ⟨r8,r9,kws,pR f hs (n::ks),bZ hs cw ks,rfl,.inl (s9 _ _ (sD _ _ e8)),lk8,aT e9,by unfold bZ; rw [Aw,Ab]; omega,oY ok ⟨hc7,hcL⟩ hlk,λrh ps fs H10 hrh s10 er hne hls hfl hch hct=>?_,λdx l1 l2 rs W F H10 s10 _ _ _ _ hlo _ _=>absurd hfst.2.1 (yA hlo)⟩
   have sD10:=s9.trans s10
   have hgs:=aXD hfl hch
   have hflat:=lM (hfl.trans (vN (bZ hs cw ks)))
   have hgl:=hgs.lens
   have hpg:∀ (i:Nat) p g,ps[i]?=some p->(mU (bZ hs cw ks) fs)[i]?=some g->H10 p=some (.lst ((g.map one).map V.str))/\p≠D:=λi p g hp hg=>by
     have hi:i<(bZ hs cw ks).length:=by rw [<-hgl]; exact (Ad.mp hg).1
     have ec:(bZ hs cw ks)[i]?=some (bZ hs cw ks)[i]:=Aa hi
     rw [yQ ec] at hg;obtain ⟨h1,h2⟩:=hls.2 i p (mS (bZ hs cw ks) fs i) hp (by rw [Af,List.getElem?_range hi]; rfl)
     refine ⟨?_,λz=>by rw [z,s9 _ _ hd] at h1; cases h1⟩
     unfold mS at h2;rw [Ac,ec] at h2;cases hg;exact h2
   have hcnt:∀ c,cnt (mU (bZ hs cw ks) fs).flatten c<=aS (pR f hs (n::ks)) c:=λc=>by
     rw [hflat,cZI];exact Int.le_trans (hct c) (cQQ (pS f hs (n::ks)) c)
   have hwone:=qZ ok hc1 ⟨hc7,hcL⟩ hlk
   have hgf:=bJD hgs hwone
   have hpsl:ps.length=(mU (bZ hs cw ks) fs).length:=by rw [hls.1,Ab,Ca,hgl]
   have hgl2:(mU (bZ hs cw ks) fs).length=(n::ks).length:=by rw [hgl]; show ((ks.map _).length+1)=ks.length+1; rw [Ab]
   generalize mU (bZ hs cw ks) fs=gs at hgs hflat hgl hpg hcnt hgf hpsl hgl2;have e610:=aK sD10 e6D
   have er10:=aT er
   have eD10:=sD10 _ _ hd
   have hat10:=hatD.keep sD10
   have nd6:p6≠D:=λz=>by rw [z] at e68; unfold rdL at e68; rw [hD] at e68; cases e68
   have ndh:rh≠D:=λz=>by rw [z,s9 _ _ hd] at hrh; cases hrh
   have s810:=sD.trans sD10
   walk_at "go";refine cXQ (xs:=((n::ks).map λk=>V.int ((k:Nat):Int))) (ys:=ps.map V.ref) (λi σ H'=>∃ (v8 v9:Option V) (ws:List V),σ=[some (.ref a),some (.ref b),some (.int ((n:Nat):Int)),some (.str (aU cw)),some (.ref L),some (.ref p6),some (.ref r8),some (.ref D),v8,v9]/\Same H8 H'/\(∀ z u,z≠D->H10 z=some u->H' z=some u)/\H' D=some (.lst ws)/\HalsAt H' ws (iG hs (((n::ks).zip gs).take i)))
     ⟨_,_,vs,rfl,s810,λz u _ h=>h,eD10,hat10⟩ (λi σ H' _ _ ⟨_,_,_,_,_,fr,_⟩=>⟨aQO e610 nd6 fr,aQO er10 ndh fr⟩) ?_ ?_
   . rintro i x y σ H11 pt hx hy ⟨v8,v9,ws,rfl,s11,fr11,e11,hat11⟩ hpt;obtain ⟨k,hk,rfl⟩:=qJ hx;obtain ⟨pg,hpgi,rfl⟩:=aXV hy;have hig:i<gs.length:=by rw [<-hpsl]; exact (Ad.mp hpgi).1
     have eg:gs[i]?=some gs[i]:=Aa hig
     obtain ⟨hp10,npD⟩:=hpg i pg _ hpgi eg;have hp11:=fr11 _ _ npD hp10
     have hkl2:k<hs.length:=by rcases Ay.mp (Al hk) with e | e; (· rw [e]; exact hn); (· exact (hlk k e).1)
     have hwl:ws.length=hs.length:=by rw [hat11.len,kK]
     have tk:=cQH hk eg
     generalize gs[i]=g at eg hp10 hp11 tk;have s12:=aG hpt (.tup [.int ((k:Nat):Int),.ref pg])
     have t12:nE (upd H11 pt (.tup [.int ((k:Nat):Int),.ref pg])) pt=some [.int ((k:Nat):Int),.ref pg]:=pF
     have e12:=s12 _ _ e11
     have hat12:=hat11.keep s12
     have hp12:=s12 _ _ hp11
     generalize upd H11 pt (.tup [.int ((k:Nat):Int),.ref pg])=H12 at s12 t12 e12 hat12 hp12 ⊢;walk_at "go";refine bJ7 (o:=.non) (bL e12) (aQ6 (by omega) (by rw [hwl]; omega)) ?_
     rw [show ((k:Nat):Int).toNat=k from rfl];refine ⟨_,_,ws.set k (.ref pg),rfl,bI hD (s11.trans s12),λz u hz h=>by rw [aH hz]; exact s12 _ _ (fr11 z u hz h),aD,?_⟩
     rw [tk,jF];exact (hat12.put e12).set ⟨pg,rfl,by rw [aH npD]; exact hp12⟩
   . rintro σ H11 ⟨v8,v9,ws,rfl,s11,fr11,e11,hat11⟩;have hzl:((n::ks).zip gs).length=(n::ks).length:=by rw [List.length_zip,hgl2,Nat.min_self]
     rw [nN,Ab,hpsl,hgl2,Nat.min_self,<-hzl,Bp] at hat11;have hzk:∀ z∈(n::ks).zip gs,z.1∈n::ks/\z.2∈gs:=λz hz=>Eo hz
     have ok':gN (iG hs ((n::ks).zip gs)):=aZ6 ok _ λz hz=>(hgf z.2 (hzk z hz).2).1
     have hkk:∀ k∈n::ks,k<hs.length:=λk hk=>by rcases Ay.mp hk with e | e; (· rw [e]; exact hn); (· exact (hlk k e).1)
     have ndz:(((n::ks).zip gs).map (·.1)).Nodup:=by
       rw [show ((n::ks).zip gs).map (·.1)=n::ks from List.map_fst_zip (by rw [hgl2]; exact Ah _)]
       exact uK hks
     have hfo:cC (iG hs ((n::ks).zip gs)) (n::ks)=gs.flatten:=yY hgl2.symm (aZN hs _ ndz λz hz=>hkk z.1 (hzk z hz).1)
     have e6b:=aQO e610 nd6 fr11
     have e8b:H11 r8=some (.dK kws):=s11 _ _ e8
     walk_at "go";refine ⟨D,p6,ws,_,n::ks,rfl,aT e11,hat11,ok',e6b,by show ks.length+1<=7; omega,λk hk=>by rw [kK]; exact hkk k hk,λr12 H12 hr12 s12 e12=>?_⟩
     rw [hfo] at e12;have hfle:gs.flatten.length<=42:=by
       have:=hX ok' (n::ks)
       rw [hfo,Aw] at this;omega
     walk_at "go";refine ⟨r8,r12,kws,pR f hs (n::ks),gs.flatten,rfl,s12 _ _ e8b,lk8,pS f hs (n::ks),aT e12,by omega,λc hc=>by obtain ⟨g,hg,hcg⟩:=List.mem_flatten.mp hc; exact (hgf g hg).2 c hcg,λ_ rR kwR H13 hrR s13 eR lkR=>?_,λi c hi _ hle=>?_⟩
     . walk_at "go";refine ⟨by show 3<=sizeLine; decide,λt ht=>?_⟩
       have k14:=aG ht (.tup [.ref L,.ref D,.ref rR])
       have s114:=s12.trans (s13.trans k14)
       have sH11:Same H H11:=s1.trans (s18.trans s11)
       refine q t L D rR ks gs j ws kwR _ (sH11.trans s114) (none_of (sH11.trans (s12.trans s13)) ht) aD hL (s114 _ _ (s11 _ _ (s18 _ _ eL))) hfst hgs hcnt (none_of (s1.trans s18) hD) (s114 _ _ e11) (hat11.keep s114) (none_of (sH11.trans s12) hrR) (k14 _ _ eR) lkR
     . have h1:=bJY hi
       have h2:=hcnt c
       omega
def iE (aC:Addr):Sp:=λvs H Q _=>∃ ea v,vs=[.ref ea,v]/\H ea=some (eX ea aC none)/\∀ dx,H dx=none->Q .non (upd (upd H ea (eX ea aC (some dx))) dx (xdO dx [("at",v)]))
def qT:FnScope ["self", "at"] ["self", "at"] (aF dH):=by walk_at "sc"
def sJ {Zt Zz Zu Zx Z0 Zw Zy Zv:Addr} {f:Addr} {fd:FuncData} (F:Fun K "__init__" "NoWord.__init__" dH f fd) (G:Gs K mg w Zt Zz Zu Zx Z0 Zw Zy Zv)  : FnOk P w K mg base CX0 1 f fd ["self", "at"] (iE Zv):=by
 refine F.ok qT (λvs H Q E h=>?_) (λcdv A outer s H vs Q E hr h=>?_)
 . obtain ⟨ea,v,rfl,_⟩:=h; rfl
 obtain ⟨ea,v,rfl,he,q⟩:=h;refine ⟨_,(@aE _ _ _ _ _ (cD (rX rfl G.c_TowerError G.t1_TowerError G.t2_TowerError G.t3_TowerError (aA (mv 0) (aA (mv 1) aB)))) (@aI _ _ _ (qD (mv 0) (mv 1) rfl))),?_⟩;walk_at "go";refine ⟨ea,[v],Zv,Zz,none,rfl,by show 1<=sizeLine; decide,he,(λ_ z=>nomatch z),G.xc_NoWord,?_⟩
 walk_at "go";exact ⟨ea,Zv,Zz,rfl,G.xc_NoWord,G.xn_NoWord_at,.inl ⟨he,q⟩⟩
def rQ:Sp:=λvs H Q _=>∃ c,vs=[.str (one c)]/\aQ c/\Q (.int ((c - 97:Nat):Int)) H
def qX:Sp:=λvs H Q _=>∃ z,vs=[.str z]/\z.length<=1000/\∀ H',Same H H'->Q (.bl (mW z)) H'
def iU:Sp:=λvs H Q _=>∃ (cs:List Nat),(vs=[.str (aU cs)]\/∃ a,vs=[.ref a]/\rdL H a=some ((cs.map one).map V.str))/\cs.length<=1000/\(∀ d∈cs,aQ d)/\∀ H',Same H H'->Q (.bl (gU cs)) H'
def lV:Sp:=λvs H Q _=>∃ (cs:List Nat),vs=[.str (aU cs)]/\cs.length<=7/\(∀ d∈cs,aQ d)/\∀ H',Same H H'->Q (.bl (rN cs)) H'
def aXO:FnScope ["letter"] ["letter"] (aF gX):=by walk_at "sc"
def aXX {Zt Zz Zu Zx Z0 Zw Zy Zv:Addr} {f:Addr} {fd:FuncData} (F:Fun K "rank_of" "rank_of" gX f fd) (G:Gs K mg w Zt Zz Zu Zx Z0 Zw Zy Zv)  : FnOk P w K mg base CX0 1 f fd ["letter"] rQ:=by
 refine F.ok aXO (λvs H Q E h=>?_) (λcdv A outer s H vs Q E hr h=>?_)
 . obtain ⟨c,rfl,_⟩:=h; rfl
 obtain ⟨c,rfl,hc,q⟩:=h;refine ⟨_,(@aI _ _ _ (aV (dB Fl PySem.F.slot_str_index PySem.F.type_str_index cZ7 (fK rfl G.s_LETTERS) (aA (mv 0) aB)))),?_⟩;walk_at "go";exact cX8 (cZG hc) q
def aQF:FnScope ["text"] ["text"] (aF hJ):=by walk_at "sc"
def aQV {Zt Zz Zu Zx Z0 Zw Zy Zv:Addr} {f:Addr} {fd:FuncData} (F:Fun K "is_word" "is_word" hJ f fd) (G:Gs K mg w Zt Zz Zu Zx Z0 Zw Zy Zv)  : FnOk P w K mg base CX0 1 f fd ["text"] qX:=by
 refine F.ok aQF (λvs H Q E h=>?_) (λcdv A outer s H vs Q E hr h=>?_)
 . obtain ⟨z,rfl,_⟩:=h; rfl
 obtain ⟨z,rfl,hl,q⟩:=h;refine ⟨_,(@aE _ _ _ _ _ (cG (PW.pt (pO (bA aQJ (bC eV rfl G.b_len cM (aA (mv 0) aB)) aJ (bE _)) (mP (bA aJ8 (bC eV rfl G.b_len cM (aA (mv 0) aB)) (aJT rfl G.s_MOST_PLACES) (bE _))))) (@aI _ _ _ (aV mG)) bH) (@aI _ _ _ (aV (bC (dQ6 rfl) rfl G.b_all cXB (aA (cT rfl (mQ (mv 0)) (mE (N:=["sign"]) (by decide +kernel) (by decide +kernel)) (by decide +kernel) rfl (by decide +kernel) (λ_ _ _ _=>(aY (i:=0) (show List.Nodup (["sign"]:List Str) by decide +kernel) rfl (Or.inl rfl))) (λ_ _ _ _=>dO) (λ_ _ _ _=>(jO aJP (mv 0) (fK rfl G.s_LETTERS) (by rfl)))) aB))))),?_⟩
 walk_at "go";refine gJ (λhc=>?_) (λhc=>?_)
 . walk_at "go";have e:mW z=false:=if_pos (.inl (by have:=Az hc; omega))
   have r:=q H (Same.refl H)
   rw [e] at r;exact r
 . have hc':=Bm (Bs.mpr hc)
   walk_at "go";refine gJ (λhd=>?_) (λhd=>?_)
   . walk_at "go";have e:mW z=false:=if_pos (.inr (by have:=Az hd; omega))
     have r:=q H (Same.refl H)
     rw [e] at r;exact r
   . have hd':=Bm (Bs.mpr hd)
     walk_at "go";refine bZV (λc=>some (.bl (decide (c∈lettersT.cps.toList)))) (bG (by omega)) (λi c Hc A B hc' hA=>?_) (λD hD=>?_)
     . walk_at "go";refine ⟨Wk.set rfl (Wk.refl _),?_⟩;walk_at "go";have e:subIn ⟨#[c]⟩ lettersT=decide (c∈lettersT.cps.toList):=lQ _ _
       show A (.bl (subIn ⟨#[c]⟩ lettersT)) Hc
       rw [e];exact hA
     . walk_at "go";have e:z.cps.toList.filterMap (λc=>some (V.bl (decide (c∈lettersT.cps.toList))))=(z.cps.toList.map λc=>decide (c∈lettersT.cps.toList)).map V.bl:=by
         rw [Cc];exact pZ _ _
       rw [e];have sm:Same H (upd H D (.lst ((z.cps.toList.map λc=>decide (c∈lettersT.cps.toList)).map V.bl))):=aG hD _
       refine dQS (bs:=z.cps.toList.map λc=>decide (c∈lettersT.cps.toList)) dG ?_;have e2:mW z=(z.cps.toList.map λc=>decide (c∈lettersT.cps.toList)).all id:=by
         unfold mW dZH;rw [if_neg (by omega),List.all_map]
         rfl
       have r:=q _ sm
       rw [e2] at r;exact r
def wgt (cs:List Nat) (i:Nat):Int:=((1+i:Nat):Int) * ((cs.getD i 0 - 97:Nat):Int)
def bJS {cs:List Nat} (hl:cs.length<=1000) (hL:∀ d∈cs,aQ d):∀ n∈(List.range cs.length).map (wgt cs),0<=n/\n<=1000000:=λn hn=>by
 obtain ⟨i,hi,rfl⟩:=Be.mp hn;have hi':=Bw.mp hi
 have hg:=lB hL hi'
 unfold aQ at hg;unfold wgt;have h2:((1+i:Nat):Int) * ((cs.getD i 0 - 97:Nat):Int)<=((1+i:Nat):Int) * 22:=Int.mul_le_mul_of_nonneg_left (by omega) (by omega)
 exact ⟨Int.mul_nonneg (by omega) (by omega),by omega⟩
def sc_is_divided:FnScope ["letters", "weighed"] ["letters"] (aF dW):=by walk_at "sc"
def tM {Zt Zz Zu Zx Z0 Zw Zy Zv:Addr} {f:Addr} {fd:FuncData} (F:Fun K "is_divided" "is_divided" dW f fd) (G:Gs K mg w Zt Zz Zu Zx Z0 Zw Zy Zv) (c_rank_of:Cal P w K mg base 1 "rank_of" ["letter"] rQ):FnOk P w K mg base CX0 2 f fd ["letters"] iU:=by
 refine F.ok sc_is_divided (λvs H Q E h=>?_) (λcdv A outer s H vs Q E hr h=>?_)
 . obtain ⟨cs,rfl | ⟨a,rfl,_⟩,_⟩:=h <;> rfl
 obtain ⟨cs,hv,hl,hL,q⟩:=h;have fin:∀ D Hd,Same H Hd->rdL Hd D=some (((List.range cs.length).map (wgt cs)).map V.int)->∀ (Q':VK),(Q' (.int (lG cs cs.length)) Hd)->dZR [.ref D] Hd Q':=λD Hd sD hD Q' q'=>
   dQM hD (bJS hl hL) (by rw [Ab,Ca]; omega) q'
 have fm:∀ (G:Nat->Option V),(∀ i,i<cs.length->G i=some (V.int (wgt cs i)))->(List.range cs.length).filterMap G=((List.range cs.length).map (wgt cs)).map V.int:=λG hG=>by
   rw [Cc,<-pZ];exact iZ λi hi=>hG i (Bw.mp hi)
 rcases hv with rfl | ⟨a,rfl,ha⟩
 . refine ⟨_,(@aE _ _ _ _ _ (iP (i:=1) sc_is_divided.nd rfl (Or.inl rfl) rfl (xP rfl G.b_enumerate (aA (mv 0) aB) (vR aJ aXB)) (mE (N:=["place", "letter"]) (by decide +kernel) (by decide +kernel)) (by decide +kernel) rfl (by decide +kernel) (λ_ _ _ _=>(fL (K:=K) (i:=0) (j:=1) (by rfl) (by rfl) (show List.Nodup (["place", "letter"]:List Str) by decide +kernel) (by rfl) (by exact Or.inl rfl) (by exact Or.inr rfl) (by rfl) (by exact Or.inl rfl) (by exact Or.inr rfl))) (λ_ _ _ _=>dO) (λ_ _ _ _=>(aR lX (mv 0) (aW c_rank_of hr (by decide) rfl (aA (mv 1) aB))))) (@aI _ _ _ (aV (jO mO (aR eJ (bC (bXT rfl) rfl G.b_sum aQT (aA (mv 1) aB)) (bC eV rfl G.b_len cM (aA (fK rfl G.s_LETTERS) aB))) aJ (bE _))))),?_⟩
   walk_at "go";refine ⟨⟨by omega,by omega⟩,cQ7 hL,?_⟩
   refine cXC (k:=1) (λi c=>some (V.int (((1+i:Nat):Int) * ((c - 97:Nat):Int)))) (by rw [cJ]; exact bG (by omega)) (λi c Hc p A B hc sm hp hA=>?_) (λD Hd hD sD hd=>?_)
   . have hi:=(Ad.mp hc).1
     rw [dY] at hi;walk_at "go";refine ⟨Wk.set rfl (Wk.set rfl (Wk.refl _)),?_⟩;walk_at "go";refine ⟨c,rfl,hL c (by rw [dY] at hc; exact Al hc),?_⟩
     walk_at "go";exact hA _ (Same.refl _)
   . rw [cJ,dY] at hd;rw [fm (λi=>some (V.int (((1+i:Nat):Int) * ((cs.getD i 0 - 97:Nat):Int)))) (λi _=>rfl)] at hd;walk_at "go";refine fin D Hd sD hd _ ?_;walk_at "go";have r:=q Hd sD
     exact r
 . refine ⟨_,(@aE _ _ _ _ _ (iP (i:=1) sc_is_divided.nd rfl (Or.inl rfl) rfl (xP rfl G.b_enumerate (aA (mv 0) aB) (vR aJ aXB)) (mE (N:=["place", "letter"]) (by decide +kernel) (by decide +kernel)) (by decide +kernel) rfl (by decide +kernel) (λ_ _ _ _=>(fL (K:=K) (i:=0) (j:=1) (by rfl) (by rfl) (show List.Nodup (["place", "letter"]:List Str) by decide +kernel) (by rfl) (by exact Or.inl rfl) (by exact Or.inr rfl) (by rfl) (by exact Or.inl rfl) (by exact Or.inr rfl))) (λ_ _ _ _=>dO) (λ_ _ _ _=>(aR lX (mv 0) (aW c_rank_of hr (by decide) rfl (aA (mv 1) aB))))) (@aI _ _ _ (aV (jO mO (aR eJ (bC (bXT rfl) rfl G.b_sum aQT (aA (mv 1) aB)) (bC eV rfl G.b_len cM (aA (fK rfl G.s_LETTERS) aB))) aJ (bE _))))),?_⟩
   walk_at "go";refine ⟨⟨by omega,by omega⟩,?_⟩
   walk_at "go";refine aZS (k:=1) (xs:=(cs.map one).map V.str) (λi x=>match x with | .str z=>some (V.int (((1+i:Nat):Int) * ((lA z - 97:Nat):Int))) | _=>none) ha (by rw [Ab,Ab]; exact bG (by omega)) (λi x Hc p A B hx sm hp hA=>?_) (λD Hd hD sD hd=>?_)
   . obtain ⟨z,hz,rfl⟩:=jS hx;rw [Af] at hz;cases e:cs[i]? with
     | none=>rw [e] at hz; cases hz
     | some c=>
       have hi:=(Ad.mp e).1
       rw [e] at hz;cases hz;walk_at "go";refine ⟨Wk.set rfl (Wk.set rfl (Wk.refl _)),?_⟩;walk_at "go";refine ⟨c,rfl,hL c (Al e),?_⟩;walk_at "go";exact hA _ (Same.refl _)
   . rw [Ab,Ab,fm _ (λi hi=>?_)] at hd
     . walk_at "go";refine fin D Hd sD hd _ ?_;walk_at "go";have r:=q Hd sD
       exact r
     . have e:((cs.map one).map V.str).getD i .non=.str (one (cs.getD i 0)):=by
         rw [Ac,Af,Af,Ac,Aa hi];rfl
       rw [e];rfl
def tU:FnScope ["word"] ["word"] (aF eG):=by walk_at "sc"
def tV {Zt Zz Zu Zx Z0 Zw Zy Zv:Addr} {f:Addr} {fd:FuncData} (F:Fun K "is_checked" "is_checked" eG f fd) (G:Gs K mg w Zt Zz Zu Zx Z0 Zw Zy Zv) (c_is_word:Cal P w K mg base 1 "is_word" ["text"] qX) (c_is_divided:Cal P w K mg base 2 "is_divided" ["letters"] iU):FnOk P w K mg base CX0 3 f fd ["word"] lV:=by
 refine F.ok tU (λvs H Q E h=>?_) (λcdv A outer s H vs Q E hr h=>?_)
 . obtain ⟨cs,rfl,_⟩:=h; rfl
 obtain ⟨cs,rfl,h7,hL,q⟩:=h;refine ⟨_,(@aI _ _ _ (aV (aXU (aW c_is_word hr (by decide) rfl (aA (mv 0) aB)) (aXU (jO aJ8 (bC eV rfl G.b_len cM (aA (mv 0) aB)) aJ (bE _)) (cQK (aW c_is_divided hr (by decide) rfl (aA (mv 0) aB))))))),?_⟩
 have hwl:(aU cs).length=cs.length:=cJ cs
 walk_at "go";refine ⟨_,rfl,by omega,λH1 s1=>?_⟩
 rw [bJJ hL h7];walk_at "go";refine gJ (λhc=>?_) (λhc=>?_)
 . walk_at "go";rw [hwl];refine gJ (λhd=>?_) (λhd=>?_)
   . have hd':=Az hd
     walk_at "go";refine ⟨cs,.inl rfl,by omega,hL,λH2 s2=>?_⟩
     have r:=q H2 (s1.trans s2)
     unfold rN at r;rw [An (by omega),Bool.true_and] at r
     exact r
   . have hd':=Bm (Bs.mpr hd)
     have r:=q H1 s1
     unfold rN at r;rw [Ax (by omega),Bool.false_and] at r
     exact r
 . have hc':=Bm (Bs.mpr hc)
   have r:=q H1 s1
   unfold rN at r;rw [Ax (by omega),Bool.false_and] at r
   exact r
def bQF {xs:List V} {k:Int} (h:0<=k):kY xs (some k) none=xs.drop k.toNat:=by
 unfold kY;show (xs.drop (if k<0 then (k+(xs.length:Int)).toNat else min k.toNat xs.length)).take (xs.length - (if k<0 then (k+(xs.length:Int)).toNat else min k.toNat xs.length))=_
 rw [if_neg (by omega)]
 by_cases hk:k.toNat<=xs.length
 . rw [Er hk,Bf (by rw [Cd]; omega)]
 . rw [Ek (by omega),Ej (by omega),Ej (by omega),Hl]
def kG (cs:List Nat) (k:Nat):List V:=((cs.map one).map V.str).set k .non
def bJE {cs:List Nat} {k:Nat} (hk:k<cs.length):(kG cs k).take k=((cs.take k).map one).map V.str:=by
 unfold kG;rw [List.take_set_of_le (Ah _),<-Hm,<-Hm]
def cQZ {cs:List Nat} {k:Nat}:(kG cs k).drop (k+1)=((cs.drop (k+1)).map one).map V.str:=by
 unfold kG;rw [List.drop_set_of_lt (by omega),<-Gk,<-Gk]
def eJC {cs:List Nat} {k:Nat}:(kG cs k).length=cs.length:=by unfold kG; rw [Cg,Ab,Ab]
def bZY {cs:List Nat} {k:Nat}:(kG cs k).all bQ=true:=by
 rw [Ck];intro x hx;rcases Dy hx with h | h
 . obtain ⟨z,_,rfl⟩:=Be.mp h;rfl
 . rw [h]; rfl
def dX7 {cs:List Nat} {k:Nat} (hk:k<cs.length):(kG cs k)[k]?=some .non:=by
 unfold kG;rw [Df (by rw [Ab,Ab]; exact hk)]
def dZO {cs:List Nat} {k:Nat}:∀ i y,i<k->(kG cs k)[i]?=some y->y≠.non:=λi y hi hy=>by
 unfold kG at hy;rw [Da (by omega),Af] at hy
 cases e:(cs.map one)[i]? with
 | none=>rw [e] at hy; cases hy
 | some z=>rw [e] at hy; cases hy; exact V.noConfusion
def bXS {cs:List Nat} {k d:Nat} (hk:k<cs.length):((cs.take k).map one).map V.str++[V.str (one d)]++((cs.drop (k+1)).map one).map V.str=((cs.set k d).map one).map V.str:=by
 rw [List.set_eq_take_append_cons_drop,if_pos hk,Ao,Ao,Au,Au,Eu];rfl
def set_set {cs:List Nat} {k d e:Nat}:(cs.set k d).set k e=cs.set k e:=List.set_set ..
def yB {cs:List Nat} (h7:cs.length<=7) (hL:∀ d∈cs,aQ d) {k d c:Nat} (hk:k<cs.length) (hd:aQ d) (h:gU (cs.set k d)=true) (hc:aQ c):gU (cs.set k c)=decide (c=d):=by
 have q:=cZ9 (cs:=cs.set k d) (by rw [Cg]; exact h7) (aJA hL hd) (k:=k) (d:=c) (by rw [Cg]; exact hk) hc h
 rw [set_set,rF hk,if_pos rfl] at q;exact q
def cZV {β:Type} (g:Nat->β) {F:Nat->Bool} {d:Nat} (hd:aQ d) (h:∀ c,aQ c->F c=decide (c=d)):lettersT.cps.toList.filterMap (λc=>if F c=true then some (g c) else none)=[g d]:=by
 have q:∀ k:_root_.Fin 23,lettersT.cps.toList.filterMap (λc=>if c=97+k.val then some c else none)=[97+k.val]:=by decide +kernel
 unfold aQ at hd;have e:=q ⟨d - 97,by omega⟩
 simp only [show 97+(d - 97)=d by omega] at e
 have e2:lettersT.cps.toList.filterMap (λc=>if F c=true then some (g c) else none)=(lettersT.cps.toList.filterMap (λc=>if c=d then some c else none)).map g:=by
   rw [List.map_filterMap];refine iZ λc hc=>?_;rw [h c (mem_letters.mp hc)];by_cases z:c=d
   . rw [if_pos (An z),if_pos z]; rfl
   . rw [if_neg (by rw [Ax z]; exact Ap),if_neg z]; rfl
 rw [e2,e];rfl
def jB:Sp:=λvs H Q _=>∃ (a:Addr) (cs:List Nat) (k:Nat),vs=[.ref a]/\rdL H a=some (kG cs k)/\k<cs.length/\cs.length<=7/\(∀ d∈cs,aQ d)/\
 ∀ (d:Nat) (H':Hp),Same H H'->aQ d->gU (cs.set k d)=true->Q (.str (one d)) H'
def sc_hidden_letter:FnScope ["letters", "at", "ahead", "behind"] ["letters"] (aF bY):=by walk_at "sc"
def pE {Zt Zz Zu Zx Z0 Zw Zy Zv:Addr} {f:Addr} {fd:FuncData} (F:Fun K "hidden_letter" "hidden_letter" bY f fd) (G:Gs K mg w Zt Zz Zu Zx Z0 Zw Zy Zv) (c_is_divided:Cal P w K mg base 2 "is_divided" ["letters"] iU):FnOk P w K mg base CX0 3 f fd ["letters"] jB:=by
 refine F.ok sc_hidden_letter (λvs H Q E h=>?_) (λcdv A outer s H vs Q E hr h=>?_)
 . obtain ⟨a,cs,k,rfl,_⟩:=h; rfl
 obtain ⟨a,cs,k,rfl,ha,hk,h7,hL,q⟩:=h;refine ⟨_,(@aE _ _ _ _ _ (@aP _ _ 1 _ _ _ _ sc_hidden_letter.nd (by rfl) (by exact (Or.inl rfl)) (dB Bu Fg PySem.F.type_list_index cQI (mv 0) (aA cW aB)) (by rfl) (by walk_at "o")) (@aE _ _ _ _ _ (@aP _ _ 2 _ _ _ _ sc_hidden_letter.nd (by rfl) (by exact (Or.inr rfl)) (jI cJE (mv 0) vY (gS (mv 1))) (by rfl) (by walk_at "o")) (@aE _ _ _ _ _ (@aP _ _ 3 _ _ _ _ sc_hidden_letter.nd (by rfl) (by exact (Or.inr rfl)) (jI cJE (mv 0) (gS (aR bS (mv 1) aJ)) vY) (by rfl) (by walk_at "o")) (@aI _ _ _ (aV (bK cF (cT rfl (mQ (fK rfl G.s_LETTERS)) (iK (N:=["letter", "behind", "ahead"]) ["letters", "at", "ahead", "behind"] (aF bY) [none,some 3,some 2] rfl rfl rfl (λx h=>cA h) (by decide +kernel)) (by decide +kernel) rfl (by decide +kernel) (λ_ _ _ _=>(aY (i:=0) (show List.Nodup (["letter", "behind", "ahead"]:List Str) by decide +kernel) rfl (Or.inl rfl))) (λ_ _ _ _=>(mV (fH (aW c_is_divided hr (by decide) rfl (aA (aR bS (aR bS (mv 2) (bV (aA (mv 0) aB))) (mv 1)) aB))))) (λ_ _ _ _=>(mv 0))) aJ (λ_ _=>rfl))))))),?_⟩
 walk_at "go";refine bJT ha bZY (dX7 hk) dZO ?_;walk_at "go";intro r hr;rw [cXU (by omega),show ((k:Nat):Int).toNat=k from rfl,bJE hk]
 have s1:Same H (upd H r (.lst (((cs.take k).map one).map V.str))):=aG hr _
 have m1:gI (upd H r (.lst (((cs.take k).map one).map V.str))) r=some (((cs.take k).map one).map V.str):=dU
 have e1:(upd H r (.lst (((cs.take k).map one).map V.str))) r=some (.lst (((cs.take k).map one).map V.str)):=aD
 generalize upd H r (.lst (((cs.take k).map one).map V.str))=H1 at s1 m1 e1 ⊢;have ha1:=aK s1 ha
 walk_at "go";intro r2 hr2;rw [bQF (by omega),show ((k:Nat)+1:Int).toNat=k+1 by omega,cQZ]
 have s2:Same H1 (upd H1 r2 (.lst (((cs.drop (k+1)).map one).map V.str))):=aG hr2 _
 have e2:(upd H1 r2 (.lst (((cs.drop (k+1)).map one).map V.str))) r2=some (.lst (((cs.drop (k+1)).map one).map V.str)):=aD
 generalize upd H1 r2 (.lst (((cs.drop (k+1)).map one).map V.str))=H2 at s2 e2 ⊢;have e1':=s2 _ _ e1
 walk_at "go";obtain ⟨d,hd,hdv⟩:=yV h7 hk;have lt:(((cs.take k).map one).map V.str).length<=7:=by rw [Ab,Ab,Bt]; omega
 have ld:(((cs.drop (k+1)).map one).map V.str).length<=7:=by rw [Ab,Ab,Cd]; omega
 refine aJG (λc=>if gU (cs.set k c)=true then some (V.str (one c)) else none) (bG (by decide)) (λi c Hc A B hc sm hA=>?_) (λD Hd hD sD hd'=>?_)
 . have hcl:aQ c:=mem_letters.mp (Al hc)
   walk_at "go";refine ⟨Wk.set rfl (Wk.refl _),?_⟩;walk_at "go";refine ⟨by show 1<=sizeLine; decide,λp1 hp1=>?_⟩
   have c1:=sm _ _ e1'
   have c2:=sm _ _ e2
   have n1:r≠p1:=bF c1 hp1
   have n2:r2≠p1:=bF c2 hp1
   walk_at "go";refine jN (xs:=((cs.take k).map one).map V.str) (ys:=[V.str (one c)]) (by rw [vO n1]; exact bL c1) dU (bN (by show _+1<=_; omega)) λl hl=>?_
   have c3:(upd (upd Hc p1 (.lst [V.str (one c)])) l (.lst (((cs.take k).map one).map V.str++[V.str (one c)]))) r2=some (.lst (((cs.drop (k+1)).map one).map V.str)):=aG hl _ _ _ (aG hp1 _ _ _ c2)
   walk_at "go";refine jN (xs:=((cs.take k).map one).map V.str++[V.str (one c)]) (ys:=((cs.drop (k+1)).map one).map V.str) dU (bL c3) (bN (by rw [Ag]; show _+1+_<=_; omega)) λl2 hl2=>?_
   rw [bXS hk];have s5:Same Hc (upd (upd (upd Hc p1 (.lst [V.str (one c)])) l (.lst (((cs.take k).map one).map V.str++[V.str (one c)]))) l2 (.lst (((cs.set k c).map one).map V.str))):=(aG hp1 _).trans ((aG hl _).trans (aG hl2 _))
   have c5:rdL (upd (upd (upd Hc p1 (.lst [V.str (one c)])) l (.lst (((cs.take k).map one).map V.str++[V.str (one c)]))) l2 (.lst (((cs.set k c).map one).map V.str))) l2=some (((cs.set k c).map one).map V.str):=dG
   generalize upd (upd (upd Hc p1 (.lst [V.str (one c)])) l (.lst (((cs.take k).map one).map V.str++[V.str (one c)]))) l2 (.lst (((cs.set k c).map one).map V.str))=H5 at s5 c5 ⊢;walk_at "go";refine ⟨cs.set k c,.inr ⟨l2,rfl,c5⟩,by rw [Cg]; omega,aJA hL hcl,λH6 s6=>?_⟩
   have r6:=hA H6 (s5.trans s6)
   walk_at "go";by_cases hb:gU (cs.set k c)=true
   . rw [if_pos hb] at r6;rw [if_pos hb];walk_at "go";exact r6
   . rw [if_neg hb] at r6;rw [if_neg hb];exact r6
 . rw [show (Str.ofString "abcdefghijklmnopqrstuvw").cps.toList.filterMap (λc=>if gU (cs.set k c)=true then some (V.str (one c)) else none)=[V.str (one d)] from cZV (λc=>V.str (one c)) hd λc hc=>yB h7 hL hk hd hdv hc] at hd'
   walk_at "go";refine fO (aT hd') (v:=V.str (one d)) rfl ?_;exact q d Hd (s1.trans (s2.trans sD)) hd hdv
def nQ {cs:List Nat} {x d:Nat}:(cs++[x]).set cs.length d=cs++[d]:=by
 rw [List.set_append_right _ _ (Ah _),Ei];rfl
def bJN {cs:List Nat}:(cs.map one).map V.str++[V.non]=kG (cs++[97]) cs.length:=by
 unfold kG;rw [Ao,Ao,List.set_append_right _ _ (by rw [Ab,Ab]; exact Ah _),Ab,Ab,Ei]
 rfl
def yG {cs:List Nat} (hL:∀ d∈cs,aQ d) {c:Nat} (hc:aQ c):∀ d∈cs++[c],aQ d:=λd hd=>by
 rcases Bl.mp hd with h | h
 . exact hL d h
 . rw [Aj.mp h]; exact hc
def pQ:Sp:=λvs H Q _=>∃ (cs:List Nat),vs=[.str (aU cs)]/\1<=cs.length/\cs.length<=6/\(∀ d∈cs,aQ d)/\∀ (d:Nat) (H':Hp),Same H H'->aQ d->gU (cs++[d])=true->Q (.str (one d)) H'
def xZ:FnScope ["word"] ["word"] (aF fP):=by walk_at "sc"
def xV {Zt Zz Zu Zx Z0 Zw Zy Zv:Addr} {f:Addr} {fd:FuncData} (F:Fun K "check_of" "check_of" fP f fd) (G:Gs K mg w Zt Zz Zu Zx Z0 Zw Zy Zv) (c_hidden_letter:Cal P w K mg base 3 "hidden_letter" ["letters"] jB):FnOk P w K mg base CX0 4 f fd ["word"] pQ:=by
 refine F.ok xZ (λvs H Q E h=>?_) (λcdv A outer s H vs Q E hr h=>?_)
 . obtain ⟨cs,rfl,_⟩:=h; rfl
 obtain ⟨cs,rfl,h1,h6,hL,q⟩:=h;refine ⟨_,(@aI _ _ _ (aV (aW c_hidden_letter hr (by decide) rfl (aA (aR bS (cH (cZJ rfl) rfl G.b_list fY (aA (mv 0) aB)) (bV (aA cW aB))) aB)))),?_⟩
 have hwl:(aU cs).length=cs.length:=cJ cs
 walk_at "go";intro r hr;have el:(aU cs).cps.toList.map (λc=>V.str ⟨#[c]⟩)=(cs.map one).map V.str:=by rw [dY,Cc]; rfl
 rw [el];walk_at "go";refine ⟨by show 1<=sizeLine; decide,λp hp=>?_⟩
 have nr:r≠p:=λz=>by rw [<-z,aD] at hp; cases hp
 refine jN (xs:=(cs.map one).map V.str) (ys:=[V.non]) (by rw [vO nr]; exact dU) dU (bN (by rw [Ab,Ab]; show _+1<=_; omega)) λl hl=>?_
 rw [bJN];have s1:Same H (upd (upd (upd H r (.lst ((cs.map one).map V.str))) p (.lst [V.non])) l (.lst (kG (cs++[97]) cs.length))):=(aG hr _).trans ((aG hp _).trans (aG hl _))
 have e1:rdL (upd (upd (upd H r (.lst ((cs.map one).map V.str))) p (.lst [V.non])) l (.lst (kG (cs++[97]) cs.length))) l=some (kG (cs++[97]) cs.length):=dG
 generalize upd (upd (upd H r (.lst ((cs.map one).map V.str))) p (.lst [V.non])) l (.lst (kG (cs++[97]) cs.length))=H1 at s1 e1 ⊢;walk_at "go";have ll:(cs++[97]).length=cs.length+1:=by rw [Ag]; rfl
 refine ⟨l,cs++[97],cs.length,rfl,e1,by omega,by omega,yG hL (by decide),λd H2 s2 hd hdv=>?_⟩
 rw [nQ] at hdv;exact q d H2 (s1.trans s2) hd hdv
def uN {cs:List Nat} (h6:cs.length<=6) (hL:∀ d∈cs,aQ d) {d c:Nat} (hd:aQ d) (h:gU (cs++[d])=true) (hc:aQ c):gU (cs++[c])=decide (c=d):=by
 have ll:(cs++[97]).length=cs.length+1:=by rw [Ag]; rfl
 have q:=yB (cs:=cs++[97]) (by omega) (yG hL (by decide)) (k:=cs.length) (d:=d) (c:=c) (by omega) hd (by rw [nQ]; exact h) hc
 rw [nQ] at q;exact q
def ckL (cs:List Nat):Nat:=(lettersT.cps.toList.find? λd=>gU (cs++[d])).getD 0
def dQ7 {cs:List Nat} (h6:cs.length<=6) (hL:∀ d∈cs,aQ d) {d:Nat} (hd:aQ d) (h:gU (cs++[d])=true):ckL cs=d:=by
 unfold ckL;cases e:lettersT.cps.toList.find? λd=>gU (cs++[d]) with
 | none=>exact absurd h (by have:=List.find?_eq_none.mp e d (mem_letters.mpr hd); exact this)
 | some c=>
   have hc:=List.find?_some e
   have hm:=mem_letters.mp (List.mem_of_find?_eq_some e)
   have r:=uN h6 hL hd h hm
   have hc2:gU (cs++[c])=true:=hc
   rw [hc2] at r;exact Az r.symm
def lW:Sp:=λvs H Q _=>∃ (cs:List Nat),vs=[.str (aU cs)]/\1<=cs.length/\cs.length<=6/\(∀ d∈cs,aQ d)/\∀ H',Same H H'->aQ (ckL cs)->gU (cs++[ckL cs])=true->Q (.str (aU (cs++[ckL cs]))) H'
def tW:FnScope ["word"] ["word"] (aF eF):=by walk_at "sc"
def tE {Zt Zz Zu Zx Z0 Zw Zy Zv:Addr} {f:Addr} {fd:FuncData} (F:Fun K "with_check" "with_check" eF f fd) (G:Gs K mg w Zt Zz Zu Zx Z0 Zw Zy Zv) (c_check_of:Cal P w K mg base 4 "check_of" ["word"] pQ):FnOk P w K mg base CX0 5 f fd ["word"] lW:=by
 refine F.ok tW (λvs H Q E h=>?_) (λcdv A outer s H vs Q E hr h=>?_)
 . obtain ⟨cs,rfl,_⟩:=h; rfl
 obtain ⟨cs,rfl,h1,h6,hL,q⟩:=h;refine ⟨_,(@aI _ _ _ (aV (aR bS (mv 0) (aW c_check_of hr (by decide) rfl (aA (mv 0) aB))))),?_⟩
 have hwl:(aU cs).length=cs.length:=cJ cs
 walk_at "go";refine ⟨cs,rfl,h1,h6,hL,λd H1 s1 hd hdv=>?_⟩;have e:=dQ7 h6 hL hd hdv
 have h1l:(one d).length=1:=rfl
 walk_at "go";have r:=q H1 s1
 rw [e] at r;rw [jA];exact r hd hdv
def mJ:Sp:=λ_ _ _ _=>False
def tK {Zt Zz Zu Zx Z0 Zw Zy Zv:Addr} {f:Addr} {fd:FuncData} (F:Fun K "behind_say" "behind_say" fI f fd) (G:Gs K mg w Zt Zz Zu Zx Z0 Zw Zy Zv):FnOk P w K mg base (CXr P w) 1 f fd ["book", "halyards", "locker", "text"] mJ:=⟨λ_ _ _ _ h=>h.elim,λ_ _ _ _ _ _ _ _ _ _ _ _ _ h=>h.elim⟩
def lF:Sp:=λ_ _ _ _=>False
def rG {Zt Zz Zu Zx Z0 Zw Zy Zv:Addr} {f:Addr} {fd:FuncData} (F:Fun K "behind_lose" "behind_lose" eT f fd) (G:Gs K mg w Zt Zz Zu Zx Z0 Zw Zy Zv):FnOk P w K mg base (CXr P w) 1 f fd ["halyards", "locker", "flag"] lF:=⟨λ_ _ _ _ h=>h.elim,λ_ _ _ _ _ _ _ _ _ _ _ _ _ h=>h.elim⟩
def kQ:Sp:=λ_ _ _ _=>False
def sR {Zt Zz Zu Zx Z0 Zw Zy Zv:Addr} {f:Addr} {fd:FuncData} (F:Fun K "behind_find" "behind_find" eU f fd) (G:Gs K mg w Zt Zz Zu Zx Z0 Zw Zy Zv):FnOk P w K mg base (CXr P w) 1 f fd ["halyards", "locker", "flag"] kQ:=⟨λ_ _ _ _ h=>h.elim,λ_ _ _ _ _ _ _ _ _ _ _ _ _ h=>h.elim⟩
def eO (aN:Addr):Sp:=λvs H Q E=>∃ (b:Addr) (us:List V) (n:Int),vs=[.ref b,.int n]/\rdL H b=some us/\us.length<=1000/\((0<=n/\n<(us.length:Int))->Q .non H)/\(¬ (0<=n/\n<(us.length:Int))->∀ H',Same H H'->E (.ref aN) none H')
def lT:FnScope ["halyards", "number"] ["halyards", "number"] (aF bU):=by walk_at "sc"
def lU {Zt Zz Zu Zx Z0 Zw Zy Zv:Addr} {f:Addr} {fd:FuncData} (F:Fun K "look_for_halyard" "look_for_halyard" bU f fd) (G:Gs K mg w Zt Zz Zu Zx Z0 Zw Zy Zv)  : FnOk P w K mg base (CXr P w) 1 f fd ["halyards", "number"] (eO Zy):=by
 refine F.okX lT (λvs H Q E h=>?_) (λcdv A outer s H vs Q E hr h=>?_)
 . obtain ⟨b,us,n,rfl,_⟩:=h; rfl
 obtain ⟨b,us,n,rfl,hb,hl,q1,q2⟩:=h;refine ⟨_,(@aI _ _ _ (cG (PW.pt (pO (bA aQJ (mv 1) aJ (bE _)) (mP (bA eJP (mv 1) (bC eV rfl G.b_len cM (aA (mv 0) aB)) (bE _))))) (@aI _ _ _ (sC jR rfl rfl rfl G.c_NoHalyard G.x_NoHalyard Du (@gM _ _ _ _ _ _ aB))) bH)),?_⟩;walk_at "go";refine gJ (λh1=>?_) (λh1=>?_)
 . have hn:=Az h1
   walk_at "go";exact ⟨by show 1<=sizeLine; decide,q2 (λz=>by omega) _ (Same.refl _)⟩
 . have hn:¬ n<0:=λz=>h1 (An z)
   walk_at "go";refine gJ (λh2=>?_) (λh2=>?_)
   . have hm:=Az h2
     walk_at "go";exact ⟨by show 1<=sizeLine; decide,q2 (λz=>by omega) _ (Same.refl _)⟩
   . have hm:¬ (us.length:Int)<=n:=λz=>h2 (An z)
     walk_at "go";exact q1 ⟨by omega,by omega⟩
def pD (m:Nat->Int) (c:Nat):0<=aS (bM m) c:=by
 unfold aS bM;split
 . rename_i h
   exact Int.le_of_lt (by simp only [Option.getD_some]; exact h.2)
 . exact Ho _
def rdW (hs:List (Option (List Nat))):List (Option (List Nat)):=hs.map λh=>h.map rdC
structure TwSt (H:Hp) (B R:Addr) (hs:List (Option (List Nat))) (f:Nat->Option Int):Prop where
 hal:∃ us,H B=some (.lst us)/\HalsAt H us hs
 ok:gN hs
 loc:∃ kvs,H R=some (.dK kvs)/\Lk kvs f
 pos:∀ c,0<=aS f c
def kE:Sp:=λvs H Q _=>∃ (B R:Addr) (hs:List (Option (List Nat))) (f:Nat->Option Int) (n:Nat),vs=[.ref B,.ref R,.int ((n:Nat):Int)]/\TwSt H B R hs f/\hs.length<=6/\n<hs.length/\
 ∀ (t B' R':Addr) (f':Nat->Option Int) (H':Hp),Same H H'->H t=none->H' t=some (.tup [.ref B',.ref R'])->H B'=none->TwSt H' B' R' (hs.set n none) f'->Q (.ref t) H'
def sc_behind_lower:FnScope ["halyards", "locker", "number", "behind"] ["halyards", "locker", "number"] (aF cV):=by walk_at "sc"
def pV {Zt Zz Zu Zx Z0 Zw Zy Zv:Addr} {f:Addr} {fd:FuncData} (F:Fun K "behind_lower" "behind_lower" cV f fd) (G:Gs K mg w Zt Zz Zu Zx Z0 Zw Zy Zv) (c_look_for_halyard:kH P w K mg base 1 "look_for_halyard" ["halyards", "number"] (eO Zy)) (c_put_in:Cal P w K mg base 2 "put_in" ["locker", "flags"] lN) (c_flags_on:Cal P w K mg base 1 "flags_on" ["halyards", "numbers"] iL):FnOk P w K mg base (CXr P w) 3 f fd ["halyards", "locker", "number"] kE:=by
 refine F.okX sc_behind_lower (λvs H Q E h=>?_) (λcdv A outer s H vs Q E hr h=>?_)
 . obtain ⟨B,R,hs,f,n,rfl,_⟩:=h; rfl
 obtain ⟨B,R,hs,f,n,rfl,tw,h6,hn,q⟩:=h;refine ⟨_,(@aE _ _ _ _ _ (cD (dM c_look_for_halyard cP hr (by decide) rfl (aA (mv 0) (aA (mv 2) aB)))) (@aE _ _ _ _ _ (@aP _ _ 3 _ _ _ _ sc_behind_lower.nd (by rfl) (by exact (Or.inl rfl)) (cH kZ rfl G.b_list fY (aA (mv 0) aB)) (by rfl) (by walk_at "o")) (@aE _ _ _ _ _ (wY cW (aQY (mv 3) (mv 2) qQ)) (@aI _ _ _ (aV (gG (aA (mv 3) (aA (aW c_put_in hr (by decide) rfl (aA (mv 1) (aA (aW c_flags_on hr (by decide) rfl (aA (mv 0) (aA (bV (aA (mv 2) aB)) aB))) aB))) aB)))))))),?_⟩
 obtain ⟨⟨us,hB,hat⟩,ok,⟨kvs,hR,lk⟩,hpos⟩:=tw;have rB:=aT hB
 have hul:=hat.len
 walk_at "go";refine ⟨B,us,_,rfl,rB,by omega,λ_=>?_,λz=>absurd ⟨by omega,by omega⟩ z⟩
 walk_at "go";intro B' hB';have k1:=aG hB' (.lst us)
 have e1:(upd H B' (.lst us)) B'=some (.lst us):=aD
 generalize upd H B' (.lst us)=H1 at k1 e1 ⊢;have m1:=bL e1
 walk_at "go";have hnu:n<us.length:=by omega
 refine bJ7 (o:=us[n]) m1 (aQ6 (by omega) (by omega)) ?_
 rw [show ((n:Nat):Int).toNat=n from rfl];have s2:Same H (upd H1 B' (.lst (us.set n .non))):=bI hB' k1
 have e2:(upd H1 B' (.lst (us.set n .non))) B'=some (.lst (us.set n .non)):=aD
 generalize upd H1 B' (.lst (us.set n .non))=H2 at s2 e2 ⊢;walk_at "go";refine ⟨by show 1<=sizeLine; decide,λp3 hp3=>?_⟩
 have k3:=aG hp3 (.lst [V.int ((n:Nat):Int)])
 have e3:(upd H2 p3 (.lst [V.int ((n:Nat):Int)])) p3=some (.lst (([n]).map λk=>V.int ((k:Nat):Int))):=aD
 generalize upd H2 p3 (.lst [V.int ((n:Nat):Int)])=H3 at k3 e3 ⊢;have s3:=s2.trans k3
 walk_at "go";refine ⟨B,p3,us,hs,[n],rfl,aK s3 rB,hat.keep s3,ok,aT e3,by show 1<=7; decide,(λk hk=>by rw [Aj.mp hk]; exact hn),λr4 H4 hr4 s4 e4=>?_⟩
 have s04:=s3.trans s4
 have fl:(cC hs [n]).length<=7 * 1:=hX ok [n]
 walk_at "go";refine ⟨R,r4,kvs,f,cC hs [n],rfl,s04 _ _ hR,lk,hpos,aT e4,by omega,λR' kws H5 hR' s5 e5 lk5=>?_⟩
 have s05:=s04.trans s5
 have e25:=(k3.trans (s4.trans s5)) _ _ e2
 walk_at "go";refine ⟨by show 2<=sizeLine; decide,λt ht=>?_⟩
 have k6:=aG ht (.tup [.ref B',.ref R'])
 have s06:=s05.trans k6
 refine q t B' R' _ _ s06 (none_of s05 ht) aD hB' ⟨⟨us.set n .non,k6 _ _ e25,?_⟩,?_,⟨kws,k6 _ _ e5,lk5⟩,?_⟩
 . refine ⟨by rw [Cg,Cg]; exact hul,λj v h hv hh=>?_⟩
   rw [Hb] at hv hh;by_cases e:n=j
   . subst e;rw [if_pos rfl,if_pos hnu] at hv;rw [if_pos rfl,if_pos hn] at hh;cases hv;cases hh;rfl
   . rw [if_neg e] at hv hh;exact (hat.keep s06).val j v h hv hh
 . intro cs hc;rcases Dy hc with z | z
   . exact ok cs z
   . cases z
 . intro c;exact pD _ c
def dQL {hs:Q3} {n:Nat} {cw ks:List Nat} {gs:Q5} (hn:n<hs.length) (hks:ks.Sublist (bD hs n)) (hg:Hgs (bZ hs cw ks) gs):(∃ g,(iG hs ((n::ks).zip gs)).getD n none=some g/\Hg cw g)/\(∀ k ∈ ks,∃ g,(iG hs ((n::ks).zip gs)).getD k none=some g/\Hg (rdC ((hs.getD k none).getD [])) g)/\∀ k,k≠n->k ∉ ks->(iG hs ((n::ks).zip gs)).getD k none=hs.getD k none:=by
 have hlen:(n::ks).length=gs.length:=by
   rw [hg.len];show _=(ks.map _).length+1
   rw [Ab];rfl
 have hlt:∀ z∈(n::ks).zip gs,z.1<hs.length:=λz hz=>by
   rcases Ay.mp (Eo hz).1 with e | e
   . rw [e]; exact hn
   . exact (gZ (hks.subset e)).1
 have ndz:(((n::ks).zip gs).map (·.1)).Nodup:=by
   rw [show ((n::ks).zip gs).map (·.1)=n::ks from List.map_fst_zip (by rw [hlen]; exact Ah _)]
   exact uK hks
 have hat:∀ (i k:Nat) c,(n::ks)[i]?=some k->(bZ hs cw ks)[i]?=some c->∃ g,(iG hs ((n::ks).zip gs)).getD k none=some g/\Hg c g:=λi k c hk hc=>by
   obtain ⟨g,eg,hgg⟩:=hg.at hc;refine ⟨g,?_,hgg⟩;exact aZN hs _ ndz hlt (k,g) (Al (i:=i) (by rw [List.getElem?_zip_eq_some]; exact ⟨hk,eg⟩))
 refine ⟨hat 0 n cw rfl rfl,λk hk=>?_,λk h1 h2=>?_⟩
 . obtain ⟨i,hi⟩:=Fs.mp hk;exact hat (i+1) k (rdC ((hs.getD k none).getD [])) hi (by show (ks.map _)[i]?=_; rw [Af,hi]; rfl)
 . refine aX2 hs _ λz hz q=>?_;rcases Ay.mp (Eo hz).1 with w | w
   . exact h1 (q.symm.trans w)
   . exact h2 (by rw [<-q]; exact w)
def zU {cw g:List Nat} (hL:∀ d∈cw,aQ d) (h:Hg cw g):rdC g=cw:=dJM hL h.1 λk hk=>h.2 k _ (by rw [Ac,Aa hk]; rfl)
def bZ0 {hs:Q3} {n:Nat} {cw ks:List Nat} {gs:Q5} (ok:gN hs) (hL:∀ d∈cw,aQ d) (hn:n<hs.length) (hks:ks.Sublist (bD hs n)) (hg:Hgs (bZ hs cw ks) gs):rdW (iG hs ((n::ks).zip gs))=(rdW hs).set n (some cw):=by
 obtain ⟨⟨g,e1,h1⟩,h2,h3⟩:=dQL hn hks hg;have hl:=kK hs ((n::ks).zip gs)
 refine List.ext_getElem? λk=>?_;unfold rdW;rw [Af,Hb,Ab];by_cases hk:k<hs.length
 . have eZ:(iG hs ((n::ks).zip gs))[k]?=some ((iG hs ((n::ks).zip gs)).getD k none):=by rw [Ac,Aa (by omega)]; rfl
   have eH:hs[k]?=some (hs.getD k none):=by rw [Ac,Aa hk]; rfl
   rw [eZ];by_cases e:n=k
   . subst e;rw [if_pos rfl,if_pos hk,e1];show some (some (rdC g))=_
     rw [zU hL h1]
   . rw [if_neg e,Af,eH];by_cases hm:k∈ks
     . obtain ⟨g2,e2,hg2⟩:=h2 k hm;obtain ⟨_,hsome,_⟩:=gZ (hks.subset hm);rw [e2];obtain ⟨cs,ecs⟩:=Dm.mp hsome;rw [ecs] at hg2 eH ⊢;have:=zU (cw:=rdC cs) (aZV (ok cs (Al eH))) hg2
       show some (some (rdC g2))=some (some (rdC cs))
       rw [this]
     . rw [h3 k (λz=>e z.symm) hm]
 . rw [Ft (by omega),Ft (by rw [Ab]; omega)]
   by_cases e:n=k
   . subst e; exact absurd hn hk
   . rw [if_neg e]; rfl
def kI (aL:Addr):Sp:=λvs H Q E=>∃ (B R:Addr) (hs:List (Option (List Nat))) (f:Nat->Option Int) (n:Nat) (cw:List Nat),vs=[.ref B,.ref R,.int ((n:Nat):Int),.str (aU cw)]/\TwSt H B R hs f/\hs.length<=6/\n<hs.length/\cw.length<=7/\(∀ d∈cw,aQ d)/\rN cw=true/\
 (∀ (t B' R':Addr) (hs':Q3) (f':Nat->Option Int) (H':Hp),Same H H'->H t=none->H' t=some (.tup [.ref B',.ref R'])->H B'=none->hs'.length=hs.length->rdW hs'=(rdW hs).set n (some cw)->TwSt H' B' R' hs' f'->Q (.ref t) H')/\
 ∀ (dx:Addr) (H':Hp),Same H H'->E (.ref aL) (some dx) H'
def sc_behind_haul:FnScope ["halyards", "locker", "number", "word", "told"] ["halyards", "locker", "number", "word"] (aF dI):=by walk_at "sc"
def rC {Zt Zz Zu Zx Z0 Zw Zy Zv:Addr} {f:Addr} {fd:FuncData} (F:Fun K "behind_haul" "behind_haul" dI f fd) (G:Gs K mg w Zt Zz Zu Zx Z0 Zw Zy Zv) (c_look_for_halyard:kH P w K mg base 1 "look_for_halyard" ["halyards", "number"] (eO Zy)) (c_hauled:kH P w K mg base 12 "hauled" ["locker", "halyards", "number", "word"] (uG Zt)) (c_is_checked:Cal P w K mg base 3 "is_checked" ["word"] lV) (c_NoWord_init:vQ P w K mg base 1 Zv ["self", "at"] (iE Zv)):FnOk P w K mg base (CXr P w) 13 f fd ["halyards", "locker", "number", "word"] (kI Zt):=by
 refine F.okX sc_behind_haul (λvs H Q E h=>?_) (λcdv A outer s H vs Q E hr h=>?_)
 . obtain ⟨B,R,hs,f,n,cw,rfl,_⟩:=h; rfl
 obtain ⟨B,R,hs,f,n,cw,rfl,tw,h6,hn,hc7,hcL,hck,q,qe⟩:=h;refine ⟨_,(@aE _ _ _ _ _ (cD (dM c_look_for_halyard cP hr (by decide) rfl (aA (mv 0) (aA (mv 2) aB)))) (@aE _ _ _ _ _ (cG (nA (fH (aW c_is_checked hr (by decide) rfl (aA (mv 3) aB)))) (@aI _ _ _ (lL jR rfl rfl rfl G.c_NoWord G.xm_NoWord c_NoWord_init hr (by decide) (aA aJ aB))) bH) (@aE _ _ _ _ _ (@aP _ _ 4 _ _ _ _ sc_behind_haul.nd (by rfl) (by exact (Or.inl rfl)) (dM c_hauled cP hr (by decide) rfl (aA (mv 1) (aA (mv 0) (aA (mv 2) (aA (mv 3) aB))))) (by rfl) (by walk_at "o")) (@aI _ _ _ (aV (gG (aA (bK cF (mv 4) aJ (λ_ _=>rfl)) (aA (bK cF (mv 4) aJ (λ_ _=>rfl)) aB)))))))),?_⟩
 obtain ⟨⟨us,hB,hat⟩,ok,⟨kvs,hR,lk⟩,hpos⟩:=tw;have rB:=aT hB
 have hul:=hat.len
 have hc1:1<=cw.length:=by
   unfold rN at hck;rw [Ea,Bj] at hck;omega
 walk_at "go";refine ⟨B,us,_,rfl,rB,by omega,λ_=>?_,λz=>absurd ⟨by omega,by omega⟩ z⟩
 walk_at "go";refine ⟨cw,rfl,hc7,hcL,λH1 s1=>?_⟩;rw [hck];walk_at "go";refine ⟨R,B,kvs,f,us,hs,n,cw,rfl,⟨s1 _ _ hR,lk,hpos,aK s1 rB,hat.keep s1,ok,h6,hn,hc1,hc7,hcL⟩,λt L B2 R2 ks gs j vs' kws H2 s2 ht et hL eL hfst hgs hcnt hB2 eB hatB hR2 eR lkR=>?_,λ_ dx l1 l2 rs W F H2 s2 _ _ _ _ _ _ _=>qe dx H2 (s1.trans s2)⟩;have tt:=cU et
 walk_at "go";refine dS et (v:=.ref B2) (bJ (j:=1) rfl) ?_;walk_at "go";refine dS et (v:=.ref R2) (bJ (j:=2) rfl) ?_;walk_at "go";refine ⟨by show 2<=sizeLine; decide,λt3 ht3=>?_⟩
 have k3:=aG ht3 (.tup [.ref B2,.ref R2])
 have s03:=s1.trans (s2.trans k3)
 have hks:ks.Sublist (bD hs n):=mem_sets.mp (Al hfst.1)
 have hlk:∀ k∈ks,k<hs.length/\(hs.getD k none).isSome=true:=λk hk=>by
   have:=gZ (hks.subset hk)
   exact ⟨this.1,this.2.1⟩
 have hgf:=bJD hgs (qZ ok hc1 ⟨hc7,hcL⟩ hlk)
 refine q t3 B2 R2 _ _ _ s03 (none_of (s1.trans s2) ht3) aD (none_of s1 hB2) (kK hs _) (bZ0 ok hcL hn hks hgs) ⟨⟨vs',k3 _ _ eB,hatB.keep k3⟩,aZ6 ok _ λz hz=>(hgf z.2 (Eo hz).2).1,⟨kws,k3 _ _ eR,lkR⟩,pD _⟩
def wW (H:Hp) (dp:Addr) (n:Nat):Option (List Nat)->Prop
 | none=>H dp=some (.tup [.str "lower",.int ((n:Nat):Int)])
 | some cw=>H dp=some (.tup [.str "haul",.int ((n:Nat):Int),.str (aU cw)])/\cw.length<=7/\(∀ d∈cw,aQ d)/\rN cw=true
def dR (aL:Addr):Sp:=λvs H Q E=>∃ (b hg st dp:Addr) (hs:List (Option (List Nat))) (f:Nat->Option Int) (n:Nat) (o:Option (List Nat)),vs=[.ref b,.ref hg,.ref st,.ref dp]/\TwSt H hg st hs f/\hs.length<=6/\n<hs.length/\wW H dp n o/\
 (∀ (t B' R':Addr) (hs':Q3) (f':Nat->Option Int) (H':Hp),Same H H'->H t=none->H' t=some (.tup [.ref B',.ref R'])->H B'=none->hs'.length=hs.length->rdW hs'=(rdW hs).set n o->TwSt H' B' R' hs' f'->Q (.ref t) H')/\
 ∀ (dx:Addr) (H':Hp),Same H H'->E (.ref aL) (some dx) H'
def cJ6 {aL:Addr} {vs:List V} {H:Hp} {Q Q':VK} {E:XK} (h:∀ v H,Q v H->Q' v H) (q:dR aL vs H Q E):dR aL vs H Q' E:=by
 obtain ⟨b,hg,st,dp,hs,f,n,o,e,a1,a2,a3,a4,q1,q2⟩:=q;exact ⟨b,hg,st,dp,hs,f,n,o,e,a1,a2,a3,a4,λt B' R' hs' f' H' b1 b2 b3 b4 b5 b6 b7=>h _ _ (q1 t B' R' hs' f' H' b1 b2 b3 b4 b5 b6 b7),q2⟩
def qK:FnScope ["book", "halyards", "locker", "deed"] ["book", "halyards", "locker", "deed"] (aF dJ):=by walk_at "sc"
def sO {Zt Zz Zu Zx Z0 Zw Zy Zv:Addr} {f:Addr} {fd:FuncData} (F:Fun K "behind_deed" "behind_deed" dJ f fd) (G:Gs K mg w Zt Zz Zu Zx Z0 Zw Zy Zv) (c_behind_say:kH P w K mg base 1 "behind_say" ["book", "halyards", "locker", "text"] mJ) (c_behind_haul:kH P w K mg base 13 "behind_haul" ["halyards", "locker", "number", "word"] (kI Zt)) (c_behind_lower:kH P w K mg base 3 "behind_lower" ["halyards", "locker", "number"] kE) (c_behind_lose:kH P w K mg base 1 "behind_lose" ["halyards", "locker", "flag"] lF) (c_behind_find:kH P w K mg base 1 "behind_find" ["halyards", "locker", "flag"] kQ):FnOk P w K mg base (CXr P w) 14 f fd ["book", "halyards", "locker", "deed"] (dR Zt):=by
 refine F.okX qK (λvs H Q E h=>?_) (λcdv A outer s H vs Q E hr h=>?_)
 . obtain ⟨b,hg,st,dp,hs,f,n,o,rfl,_⟩:=h; rfl
 obtain ⟨b,hg,st,dp,hs,f,n,o,rfl,tw,h6,hn,hd,q,qe⟩:=h;refine ⟨_,(@aE _ _ _ _ _ (cG (bA mO (bK cF (mv 3) aJ (λ_ _=>rfl)) gH (bE _)) (@aI _ _ _ (aV (dM c_behind_haul cP hr (by decide) rfl (aA (mv 1) (aA (mv 2) (aA (bK cF (mv 3) aJ (λ_ _=>rfl)) (aA (bK cF (mv 3) aJ (λ_ _=>rfl)) aB))))))) bH) (@aE _ _ _ _ _ (cG (bA mO (bK cF (mv 3) aJ (λ_ _=>rfl)) gH (bE _)) (@aI _ _ _ (aV (dM c_behind_lower cP hr (by decide) rfl (aA (mv 1) (aA (mv 2) (aA (bK cF (mv 3) aJ (λ_ _=>rfl)) aB)))))) bH) (@aE _ _ _ _ _ (cG (bA mO (bK cF (mv 3) aJ (λ_ _=>rfl)) gH (bE _)) (@aI _ _ _ (aV (dM c_behind_lose cP hr (by decide) rfl (aA (mv 1) (aA (mv 2) (aA (bK cF (mv 3) aJ (λ_ _=>rfl)) aB)))))) bH) (@aE _ _ _ _ _ (cG (bA mO (bK cF (mv 3) aJ (λ_ _=>rfl)) gH (bE _)) (@aI _ _ _ (aV (dM c_behind_find cP hr (by decide) rfl (aA (mv 1) (aA (mv 2) (aA (bK cF (mv 3) aJ (λ_ _=>rfl)) aB)))))) bH) (@aI _ _ _ (aV (dM c_behind_say cP hr (by decide) rfl (aA (mv 0) (aA (mv 1) (aA (mv 2) (aA (bK cF (mv 3) aJ (λ_ _=>rfl)) aB))))))))))),?_⟩
 cases o with
 | none=>
   have tp:H dp=some (.tup [.str "lower",.int ((n:Nat):Int)]):=hd
   have tt:=cU tp
   walk_at "go";refine dS tp (v:=.str "lower") (bJ (j:=0) rfl) ?_;walk_at "go";rw [show decide (("lower" : Str)=("haul" : Str))=false from by decide +kernel]
   walk_at "go";refine dS tp (v:=.str "lower") (bJ (j:=0) rfl) ?_;walk_at "go";rw [show decide (("lower" : Str)=("lower" : Str))=true from An rfl];walk_at "go";refine dS tp (v:=.int ((n:Nat):Int)) (bJ (j:=1) rfl) ?_;walk_at "go";exact ⟨hg,st,hs,f,n,rfl,tw,h6,hn,λt B' R' f' H' s' h1 h2 h3 h4=>q t B' R' _ f' H' s' h1 h2 h3 (by rw [Cg]) (by unfold rdW; rw [List.map_set]; rfl) h4⟩
 | some cw=>
   obtain ⟨tp,hc7,hcL,hck⟩:=hd;have tt:=cU tp
   walk_at "go";refine dS tp (v:=.str "haul") (bJ (j:=0) rfl) ?_;walk_at "go";rw [show decide (("haul" : Str)=("haul" : Str))=true from An rfl];walk_at "go";refine dS tp (v:=.int ((n:Nat):Int)) (bJ (j:=1) rfl) ?_;walk_at "go";refine dS tp (v:=.str (aU cw)) (bJ (j:=2) rfl) ?_;walk_at "go";exact ⟨hg,st,hs,f,n,cw,rfl,tw,h6,hn,hc7,hcL,hck,q,qe⟩
def twF (b:Addr) (m:Int) (s0 st hg dd:Addr):List (Str×V):=[("book",.ref b),("many",.int m),("stock_at_first",.ref s0),("stock",.ref st),("hung",.ref hg),("deeds",.ref dd)]
def tw1 (b:Addr):List (Str×V):=[("book",.ref b)]
def tw2 (b:Addr) (m:Int):List (Str×V):=[("book",.ref b),("many",.int m)]
def tw3 (b:Addr) (m:Int) (s0:Addr):List (Str×V):=[("book",.ref b),("many",.int m),("stock_at_first",.ref s0)]
def tw4 (b:Addr) (m:Int) (s0 st:Addr):List (Str×V):=[("book",.ref b),("many",.int m),("stock_at_first",.ref s0),("stock",.ref st)]
def tw5 (b:Addr) (m:Int) (s0 st hg:Addr):List (Str×V):=[("book",.ref b),("many",.int m),("stock_at_first",.ref s0),("stock",.ref st),("hung",.ref hg)]
def cZK {b:Addr}:gL "book" (.ref b) []=tw1 b:=rfl
def cJX {b:Addr} {m:Int}:gL "many" (.int m) (tw1 b)=tw2 b m:=rfl
def cZ6 {b:Addr} {m:Int} {s0:Addr}:gL "stock_at_first" (.ref s0) (tw2 b m)=tw3 b m s0:=rfl
def cZT {b:Addr} {m:Int} {s0 st:Addr}:gL "stock" (.ref st) (tw3 b m s0)=tw4 b m s0 st:=rfl
def cZ5 {b:Addr} {m:Int} {s0 st hg:Addr}:gL "hung" (.ref hg) (tw4 b m s0 st)=tw5 b m s0 st hg:=rfl
def cJ7 {b:Addr} {m:Int} {s0 st hg dd:Addr}:gL "deeds" (.ref dd) (tw5 b m s0 st hg)=twF b m s0 st hg dd:=rfl
def fQC (C:Addr) (H:Hp) (a b:Addr) (m:Int) (s0 st hg dd:Addr):Prop:=∃ dx,H a=some (.ins C dx (twF b m s0 st hg dd))
def aZP {b:Addr} {m:Int} {s0 st hg dd:Addr}:(twF b m s0 st hg dd).lookup ("book" : Str)=some (.ref b):=rfl
def eJD {b:Addr} {m:Int} {s0 st hg dd:Addr}:(twF b m s0 st hg dd).lookup ("many" : Str)=some (.int m):=rfl
def bJZ {b:Addr} {m:Int} {s0 st hg dd:Addr}:(twF b m s0 st hg dd).lookup ("stock" : Str)=some (.ref st):=rfl
def aJU {b:Addr} {m:Int} {s0 st hg dd:Addr}:(twF b m s0 st hg dd).lookup ("hung" : Str)=some (.ref hg):=rfl
def bX2 {b:Addr} {m:Int} {s0 st hg dd:Addr}:(twF b m s0 st hg dd).lookup ("deeds" : Str)=some (.ref dd):=rfl
def eXY {b:Addr} {m:Int} {s0 st hg dd:Addr}:(twF b m s0 st hg dd).lookup ("stock_at_first" : Str)=some (.ref s0):=rfl
def yN {b:Addr} {m:Int} {s0 st hg dd:Addr}:(twF b m s0 st hg dd).lookup ("do" : Str)=none:=rfl
def rT {b:Addr} {m:Int} {s0 st hg dd:Addr}:(twF b m s0 st hg dd).lookup ("read" : Str)=none:=rfl
def bZP {b:Addr} {m:Int} {s0 st hg dd:Addr}:(twF b m s0 st hg dd).lookup ("halyards" : Str)=none:=rfl
def zB {b:Addr} {m:Int} {s0 st hg dd h':Addr}:gL "hung" (.ref h') (twF b m s0 st hg dd)=twF b m s0 st h' dd:=rfl
def vP {b:Addr} {m:Int} {s0 st hg dd s':Addr}:gL "stock" (.ref s') (twF b m s0 st hg dd)=twF b m s0 s' hg dd:=rfl
def SameE (l:List Addr) (H H':Hp):Prop:=∀ b o,b ∉ l->H b=some o->H' b=some o
def SameE.of {l:List Addr} {H H':Hp} (s:Same H H'):SameE l H H':=λb o _ e=>s b o e
def SameE.trans {l:List Addr} {H H' H2:Hp} (s:SameE l H H') (t:SameE l H' H2):SameE l H H2:=λb o n e=>t b o n (s b o n e)
def SameE.put {l:List Addr} {H H':Hp} {x:Addr} {o:HO} (hx:x∈l) (s:SameE l H H'):SameE l H (upd H' x o):=λb u n e=>by rw [aH (λz=>n (by rw [z]; exact hx))]; exact s b u n e
def rdE {l:List Addr} {H H':Hp} {a:Addr} {u:HO} (s:SameE l H H') (n:a ∉ l) (h:Rd H a u):Rd H' a u:=by
 rcases h with h | ⟨o,h⟩
 . exact .inl (s _ _ n h)
 . exact .inr ⟨o,s _ _ n h⟩
def SameE.fresh {l:List Addr} {H H':Hp} {x:Addr} {o:HO} (s:SameE l H H') (hx:H' x=none):SameE l H (upd H' x o):=λb u n e=>by
 have e2:=s b u n e
 rw [aH (λz=>by rw [z,hx] at e2; cases e2)]
 exact e2
def SameE.none {l:List Addr} {H H':Hp} {x:Addr} (s:SameE l H H') (n:x ∉ l) (h:H' x=none):H x=none:=by
 cases e:H x with
 | none=>rfl
 | some o=>rw [s x o n e] at h; cases h
def aJQ (m:Nat):(List.replicate ((m:Int)).toNat [V.non]).flatten=List.replicate m V.non:=by
 rw [Fy];induction m with
 | zero=>rfl
 | succ n ih=>rw [Dw,Ce,ih,Dw]; rfl
def iV (C:Addr):Sp:=λvs H Q _=>∃ (x b l dx:Addr) (xs:List V) (kvs:List (Key×V)) (f:Nat->Option Int) (m:Nat),vs=[.ref x,.ref b,.ref l,.int (m:Int)]/\H x=some (.ins C dx [])/\rdL H b=some xs/\Rd H l (.dK kvs)/\Lk kvs f/\m<=6/\
 ∀ (b' s0 st hg dd:Addr) (H':Hp),H b'=none->H hg=none->H dd=none->hg≠dd->b'≠dd->SameE [x] H H'->H' x=some (.ins C dx (twF b' m s0 st hg dd))->H' b'=some (.lst xs)->H' s0=some (.dK (kvL (aS f) (bP (aS f) 27)))->H' st=some (.dK (kvL (aS f) (bP (aS f) 27)))->
   H' hg=some (.lst (List.replicate m V.non))->H' dd=some (.lst [])->Q .non H'
def tR:FnScope ["self", "book", "locker", "many"] ["self", "book", "locker", "many"] (aF dX):=by walk_at "sc"
def sX {Zt Zz Zu Zx Z0 Zw Zy Zv:Addr} {f:Addr} {fd:FuncData} (F:Fun K "__init__" "Tower.__init__" dX f fd) (G:Gs K mg w Zt Zz Zu Zx Z0 Zw Zy Zv) (c_plain_locker:Cal P w K mg base 1 "plain_locker" ["locker"] dF):FnOk P w K mg base CX0 2 f fd ["self", "book", "locker", "many"] (iV Z0):=by
 refine F.ok tR (λvs H Q E h=>?_) (λcdv A outer s H vs Q E hr h=>?_)
 . obtain ⟨x,b,l,dx,xs,kvs,f,m,rfl,_⟩:=h; rfl
 obtain ⟨x,b,l,dx,xs,kvs,f,m,rfl,hx,hb,hl,hk,hm,q⟩:=h;refine ⟨_,(@aE _ _ _ _ _ (kU (mv 0) (cH kZ rfl G.b_list fY (aA (mv 1) aB)) rfl) (@aE _ _ _ _ _ (kU (mv 0) (mv 3) rfl) (@aE _ _ _ _ _ (kU (mv 0) (aW c_plain_locker hr (by decide) rfl (aA (mv 2) aB)) rfl) (@aE _ _ _ _ _ (kU (mv 0) (aW c_plain_locker hr (by decide) rfl (aA (mv 2) aB)) rfl) (@aE _ _ _ _ _ (kU (mv 0) (aR bJ1 (bV (aA cW aB)) (mv 3)) rfl) (@aI _ _ _ (kU (mv 0) (bV aB) rfl))))))),?_⟩
 walk_at "go";intro b' hb';have nx:b'≠x:=λz=>by rw [z,hx] at hb'; cases hb'
 have nl:l ∉ [x]:=λz=>by
   rw [Aj.mp z] at hl;rcases hl with h | ⟨_,h⟩ <;> (rw [hx] at h; cases h)
 have sE1:SameE [x] H (upd H b' (.lst xs)):=.of (aG hb' (.lst xs))
 have e1:(upd H b' (.lst xs)) b'=some (.lst xs):=aD
 have x1:=aG hb' (.lst xs) _ _ hx
 generalize upd H b' (.lst xs)=H1 at sE1 e1 x1 ⊢;have nin:∀ {y:Addr} {o:HO} {H':Hp} {fs:List (Str×V)},H' y=some o->H' x=some (.ins Z0 dx fs)->(∀ fs',o≠.ins Z0 dx fs')->y≠x:=λe1 e2 n z=>by rw [z,e2] at e1; cases e1; exact n _ rfl
 walk_at "go";refine ⟨x,Z0,dx,[],rfl,x1,G.cl_Tower,G.na_Tower_book,by decide,?_⟩
 rw [cZK];have sE2:=sE1.put (o:=.ins Z0 dx (tw1 b')) (Aj.mpr rfl)
 have x2:(upd H1 x (.ins Z0 dx (tw1 b'))) x=some (.ins Z0 dx (tw1 b')):=aD
 have e2:(upd H1 x (.ins Z0 dx (tw1 b'))) b'=some (.lst xs):=by rw [aH nx]; exact e1
 generalize upd H1 x (.ins Z0 dx (tw1 b'))=H2 at sE2 x2 e2 ⊢;walk_at "go";refine ⟨x,Z0,dx,_,rfl,x2,G.cl_Tower,G.na_Tower_many,by show 1<1000; decide,?_⟩
 rw [cJX];have sE3:=sE2.put (o:=.ins Z0 dx (tw2 b' (m:Int))) (Aj.mpr rfl)
 have x3:(upd H2 x (.ins Z0 dx (tw2 b' (m:Int)))) x=some (.ins Z0 dx (tw2 b' (m:Int))):=aD
 have e3:(upd H2 x (.ins Z0 dx (tw2 b' (m:Int)))) b'=some (.lst xs):=by rw [aH nx]; exact e2
 generalize upd H2 x (.ins Z0 dx (tw2 b' (m:Int)))=H3 at sE3 x3 e3 ⊢;walk_at "go";refine ⟨l,kvs,f,rfl,rdE sE3 nl hl,hk,λs0 H4 hs0 s4 d4=>?_⟩;have sE4:=sE3.trans (.of s4)
 have x4:=s4 _ _ x3
 have e4:=s4 _ _ e3
 have n0:=nin d4 x4 λ_=>nofun
 walk_at "go";refine ⟨x,Z0,dx,_,rfl,x4,G.cl_Tower,G.na_Tower_stock_at_first,by show 2<1000; decide,?_⟩
 rw [cZ6];have sE5:=sE4.put (o:=.ins Z0 dx (tw3 b' (m:Int) s0)) (Aj.mpr rfl)
 have x5:(upd H4 x (.ins Z0 dx (tw3 b' (m:Int) s0))) x=some (.ins Z0 dx (tw3 b' (m:Int) s0)):=aD
 have e5:(upd H4 x (.ins Z0 dx (tw3 b' (m:Int) s0))) b'=some (.lst xs):=by rw [aH nx]; exact e4
 have d5:(upd H4 x (.ins Z0 dx (tw3 b' (m:Int) s0))) s0=some (.dK (kvL (aS f) (bP (aS f) 27))):=by rw [aH n0]; exact d4
 generalize upd H4 x (.ins Z0 dx (tw3 b' (m:Int) s0))=H5 at sE5 x5 e5 d5 ⊢;walk_at "go";refine ⟨l,kvs,f,rfl,rdE sE5 nl hl,hk,λst H6 hst s6 d6=>?_⟩;have sE6:=sE5.trans (.of s6)
 have x6:=s6 _ _ x5
 have e6:=s6 _ _ e5
 have d06:=s6 _ _ d5
 have n1:=nin d6 x6 λ_=>nofun
 walk_at "go";refine ⟨x,Z0,dx,_,rfl,x6,G.cl_Tower,G.na_Tower_stock,by show 3<1000; decide,?_⟩
 rw [cZT];have sE7:=sE6.put (o:=.ins Z0 dx (tw4 b' (m:Int) s0 st)) (Aj.mpr rfl)
 have x7:(upd H6 x (.ins Z0 dx (tw4 b' (m:Int) s0 st))) x=some (.ins Z0 dx (tw4 b' (m:Int) s0 st)):=aD
 have e7:(upd H6 x (.ins Z0 dx (tw4 b' (m:Int) s0 st))) b'=some (.lst xs):=by rw [aH nx]; exact e6
 have d07:(upd H6 x (.ins Z0 dx (tw4 b' (m:Int) s0 st))) s0=some (.dK (kvL (aS f) (bP (aS f) 27))):=by rw [aH n0]; exact d06
 have d17:(upd H6 x (.ins Z0 dx (tw4 b' (m:Int) s0 st))) st=some (.dK (kvL (aS f) (bP (aS f) 27))):=by rw [aH n1]; exact d6
 generalize upd H6 x (.ins Z0 dx (tw4 b' (m:Int) s0 st))=H7 at sE7 x7 e7 d07 d17 ⊢;walk_at "go";refine ⟨by show 1<=sizeLine; decide,λp0 hp0=>?_⟩
 have k8:=aG hp0 (.lst [V.non])
 have e8:(upd H7 p0 (.lst [V.non])) p0=some (.lst [V.non]):=aD
 generalize upd H7 p0 (.lst [V.non])=H8 at k8 e8 ⊢;walk_at "go";refine ⟨p0,_,[V.non],rfl,rfl,e8,by omega,by omega,by show 1 * ((m:Int)).toNat<=sizeLine; exact bN (by omega),λhg hhg=>?_⟩
 rw [aJQ];have k9:=k8.trans (aG hhg (.lst (List.replicate m V.non)))
 have h9:(upd H8 hg (.lst (List.replicate m V.non))) hg=some (.lst (List.replicate m V.non)):=aD
 have hg7:H7 hg=none:=none_of k8 hhg
 generalize upd H8 hg (.lst (List.replicate m V.non))=H9 at k9 h9 ⊢;have x9:=k9 _ _ x7
 have n2:=nin h9 x9 λ_=>nofun
 have nin1:∀ {y:Addr},y≠x->y ∉ [x]:=λn z=>n (Aj.mp z)
 have hgH:=sE7.none (nin1 n2) hg7
 walk_at "go";refine ⟨x,Z0,dx,_,rfl,x9,G.cl_Tower,G.na_Tower_hung,by show 4<1000; decide,?_⟩
 rw [cZ5];have sE10:=(sE7.trans (.of k9)).put (o:=.ins Z0 dx (tw5 b' (m:Int) s0 st hg)) (Aj.mpr rfl)
 have x10:(upd H9 x (.ins Z0 dx (tw5 b' (m:Int) s0 st hg))) x=some (.ins Z0 dx (tw5 b' (m:Int) s0 st hg)):=aD
 have e10:(upd H9 x (.ins Z0 dx (tw5 b' (m:Int) s0 st hg))) b'=some (.lst xs):=by rw [aH nx]; exact k9 _ _ e7
 have d010:(upd H9 x (.ins Z0 dx (tw5 b' (m:Int) s0 st hg))) s0=some (.dK (kvL (aS f) (bP (aS f) 27))):=by rw [aH n0]; exact k9 _ _ d07
 have d110:(upd H9 x (.ins Z0 dx (tw5 b' (m:Int) s0 st hg))) st=some (.dK (kvL (aS f) (bP (aS f) 27))):=by rw [aH n1]; exact k9 _ _ d17
 have h10:(upd H9 x (.ins Z0 dx (tw5 b' (m:Int) s0 st hg))) hg=some (.lst (List.replicate m V.non)):=by rw [aH n2]; exact h9
 generalize upd H9 x (.ins Z0 dx (tw5 b' (m:Int) s0 st hg))=H10 at sE10 x10 e10 d010 d110 h10 ⊢;walk_at "go";refine ⟨by decide,λdd hdd=>?_⟩
 have k11:=aG hdd (.lst [])
 have f11:(upd H10 dd (.lst [])) dd=some (.lst []):=aD
 have nhd:hg≠dd:=λz=>by rw [<-z,h10] at hdd; cases hdd
 have nbd:b'≠dd:=λz=>by rw [<-z,e10] at hdd; cases hdd
 have x11:=k11 _ _ x10
 have ndx:dd≠x:=λz=>by rw [z,x10] at hdd; cases hdd
 have ddH:=sE10.none (nin1 ndx) hdd
 generalize upd H10 dd (.lst [])=H11 at k11 f11 x11 ⊢;walk_at "go";refine ⟨x,Z0,dx,_,rfl,x11,G.cl_Tower,G.na_Tower_deeds,by show 5<1000; decide,?_⟩
 rw [cJ7];refine q b' s0 st hg dd _ hb' hgH ddH nhd nbd ((sE10.trans (.of k11)).put (Aj.mpr rfl)) aD ?_ ?_ ?_ ?_ ?_
 . rw [aH nx]; exact k11 _ _ e10
 . rw [aH n0]; exact k11 _ _ d010
 . rw [aH n1]; exact k11 _ _ d110
 . rw [aH n2]; exact k11 _ _ h10
 . rw [aH ndx]; exact f11
def bJK {H:Hp} {Q:VK} {p:Addr} {xs:List V} (e:H p=some (.tup xs)) (h:Q (.int (xs.length:Int)) H):L2.aXZ [.ref p] H Q:=by
 have e1:rdL H p=none:=by unfold rdL; rw [e]; rfl
 unfold L2.aXZ;simp only [e1,cU e];exact h
def things:List (Str×Int):=[("haul",3),("lower",2),("lose",2),("find",2),("say",2)]
def gB (C aL:Addr):Sp:=λvs H Q E=>∃ (a b s0 st hg dd dp dx:Addr) (m:Int) (z:Str) (zs ds:List V),vs=[.ref a,.ref dp]/\H a=some (.ins C dx (twF b m s0 st hg dd))/\H dp=some (.tup (.str z::zs))/\things.lookup z=some (((V.str z::zs).length:Nat):Int)/\H dd=some (.lst ds)/\ds.length<=1000/\
 ∀ p0,H p0=none->dR aL [.ref b,.ref hg,.ref st,.ref dp] (upd H p0 (.tup [])) (λv H1=>∃ (p hg' st':Addr),v=.ref p/\H1 p=some (.tup [.ref hg',.ref st'])/\H1 a=some (.ins C dx (twF b m s0 st hg dd))/\H1 dd=some (.lst ds)/\(∀ ys,H1 a≠some (.lst ys))/\
   Q .non (upd (upd H1 a (.ins C dx (twF b m s0 st' hg' dd))) dd (.lst (ds++[.ref dp])))) E
def sc_Tower_do:FnScope ["self", "deed", "behind"] ["self", "deed"] (aF fT):=by walk_at "sc"
def yL {Zt Zz Zu Zx Z0 Zw Zy Zv:Addr} {f:Addr} {fd:FuncData} (F:Fun K "do" "Tower.do" fT f fd) (G:Gs K mg w Zt Zz Zu Zx Z0 Zw Zy Zv) (c_behind_deed:kH P w K mg base 14 "behind_deed" ["book", "halyards", "locker", "deed"] (dR Zt)):FnOk P w K mg base (CXr P w) 15 f fd ["self", "deed"] (gB Z0 Zt):=by
 refine F.okX sc_Tower_do (λvs H Q E h=>?_) (λcdv A outer s H vs Q E hr h=>?_)
 . obtain ⟨a,b,s0,st,hg,dd,dp,dx,m,z,zs,ds,rfl,_⟩:=h; rfl
 obtain ⟨a,b,s0,st,hg,dd,dp,dx,m,z,zs,ds,rfl,ha,hdp,hz,hdd,hds,q⟩:=h;refine ⟨_,(@aE _ _ _ _ _ (cG (PW.pt (pO (bA (dZE hr.units0) (mv 1) (gG aB) (bE _)) (mP (bA cJS (dQG rfl G.d_THINGS_IN (aA (bK cF (mv 1) aJ (λ_ _=>rfl)) aB)) (bC eV rfl G.b_len cM (aA (mv 1) aB)) (bE _))))) (@aI _ _ _ (sC jR rfl rfl rfl G.c_NoDeed G.x_NoDeed Du (@gM _ _ _ _ _ _ aB))) bH) (@aE _ _ _ _ _ (@aP _ _ 2 _ _ _ _ sc_Tower_do.nd (by rfl) (by exact (Or.inl rfl)) (dM c_behind_deed cP hr (by decide) rfl (aA (oU (mv 0) rfl) (aA (oU (mv 0) rfl) (aA (oU (mv 0) rfl) (aA (mv 1) aB))))) (by rfl) (by walk_at "o")) (@aE _ _ _ _ _ (kU (mv 0) (bK cF (mv 2) aJ (λ_ _=>rfl)) rfl) (@aE _ _ _ _ _ (kU (mv 0) (bK cF (mv 2) aJ (λ_ _=>rfl)) rfl) (@aI _ _ _ (cD (dB Bu Ez Fa aJY (oU (mv 0) rfl) (aA (mv 1) aB)))))))),?_⟩
 have tdp:=cU hdp
 walk_at "go";refine ⟨by decide,λp0 hp0=>?_⟩
 have k1:=aG hp0 (.tup [])
 refine dZU (k1 _ _ hdp) aD ?_;have q0:=q p0 hp0
 have a1:=k1 _ _ ha
 have dp1:=k1 _ _ hdp
 have dd1:=k1 _ _ hdd
 generalize upd H p0 (.tup [])=H1 at k1 a1 dp1 dd1 q0 ⊢;have tdp1:=cU dp1
 walk_at "go";rw [show (V.str z::zs).isEmpty=false from rfl];walk_at "go";refine dS dp1 (v:=.str z) (bJ (j:=0) rfl) ?_;walk_at "go";refine ⟨z,rfl,?_⟩;rw [show List.lookup z [("haul",3),("lower",2),("lose",2),("find",2),("say",2)]=some (((V.str z::zs).length:Nat):Int) from hz];walk_at "go";refine bJK dp1 ?_;walk_at "go";rw [show (!decide ((((V.str z::zs).length:Nat):Int)=(((V.str z::zs).length:Nat):Int)))=false by rw [An rfl]; rfl]
 walk_at "go";refine ⟨a,Z0,dx,_,_,rfl,a1,G.cl_Tower,G.na_Tower_book,aZP,?_⟩;walk_at "go";refine ⟨a,Z0,dx,_,_,rfl,a1,G.cl_Tower,G.na_Tower_hung,aJU,?_⟩;walk_at "go";refine ⟨a,Z0,dx,_,_,rfl,a1,G.cl_Tower,G.na_Tower_stock,bJZ,?_⟩;walk_at "go";refine cJ6 (λv H2 hv=>?_) q0;obtain ⟨p,hg',st',rfl,ep,ea,edd,_,qq⟩:=hv;have nd:dd≠a:=λz=>by rw [z,ea] at edd; cases edd
 have np:p≠a:=λz=>by rw [z,ea] at ep; cases ep
 have up:∀ o u,upd (upd H2 a o) a u=upd H2 a u:=λo u=>aZW
 have tp2:=cU ep
 walk_at "go";refine dS ep (v:=.ref hg') (bJ (j:=0) rfl) ?_;walk_at "go";refine ⟨a,Z0,dx,_,rfl,ea,G.cl_Tower,G.na_Tower_hung,by show 6<1000; decide,?_⟩
 rw [zB];have a3:(upd H2 a (.ins Z0 dx (twF b m s0 st hg' dd))) a=some (.ins Z0 dx (twF b m s0 st hg' dd)):=aD
 have p3:(upd H2 a (.ins Z0 dx (twF b m s0 st hg' dd))) p=some (.tup [.ref hg',.ref st']):=by rw [aH np]; exact ep
 walk_at "go";refine dS p3 (v:=.ref st') (bJ (j:=1) rfl) ?_;walk_at "go";refine ⟨a,Z0,dx,_,rfl,a3,G.cl_Tower,G.na_Tower_stock,by show 6<1000; decide,?_⟩
 rw [vP,up];have a4:(upd H2 a (.ins Z0 dx (twF b m s0 st' hg' dd))) a=some (.ins Z0 dx (twF b m s0 st' hg' dd)):=aD
 have dd4:(upd H2 a (.ins Z0 dx (twF b m s0 st' hg' dd))) dd=some (.lst ds):=by rw [aH nd]; exact edd
 have md4:=bL dd4
 walk_at "go";refine ⟨a,Z0,dx,_,_,rfl,a4,G.cl_Tower,G.na_Tower_deeds,bX2,?_⟩;walk_at "go";exact qq
def tY (bk:List (Str×Str)) (cws:List (List Nat)):Prop:=cws.length=bk.length/\∀ (j:Nat) b cw,bk[j]?=some b->cws[j]?=some cw->b.1=aU cw/\1<=cw.length/\cw.length<=6/\∀ d∈cw,aQ d
def bX (cws:List (List Nat)):List Str:=cws.map λcw=>aU (cw++[ckL cw])
def yO:Option (List Nat)->V
 | none=>.non
 | some cs=>.str (kM (cs.map one))
def rdN (cws:List (List Nat)):Option (List Nat)->V
 | none=>.non
 | some cs=>match (bX cws).findIdx? (λy=>y == kM (cs.map one)) with | some j=>.int (j:Int) | none=>.non
def bJ8 (y:Str) (zs:List Str):inV (.str y) (zs.map V.str)=decide (y∈zs):=by
 unfold inV;rw [List.any_map,Gm,List.any_eq_true,Bj];constructor
 . rintro ⟨z,hz,e⟩;have e':(z == y)=true:=e
   rw [<-eq_of_beq e'];exact hz
 . intro h;exact ⟨y,h,show (y == y)=true from Fe _⟩
def dJW (zs:List Str):inV .non (zs.map V.str)=false:=by
 unfold inV;rw [List.any_map,List.any_eq_false];intro z _ h;cases h
def iQ (C:Addr):Sp:=λvs H Q _=>∃ (a b s0 st hg dd dx:Addr) (m:Int) (us:List V) (hs:List (Option (List Nat))) (bk:List (Str×Str)) (cws:List (List Nat)),vs=[.ref a]/\H a=some (.ins C dx (twF b m s0 st hg dd))/\rdL H hg=some us/\HalsAt H us hs/\us.length<=1000/\gN hs/\BkAt H b bk/\bk.length<=60/\tY bk cws/\
 ∀ (r:Addr) (H':Hp),H r=none->Same H H'->H' r=some (.lst (hs.map (rdN cws)))->Q (.ref r) H'
def sc_Tower_read:FnScope ["self", "spoken", "words"] ["self"] (aF dD):=by walk_at "sc"
def tH {Zt Zz Zu Zx Z0 Zw Zy Zv:Addr} {f:Addr} {fd:FuncData} (F:Fun K "read" "Tower.read" dD f fd) (G:Gs K mg w Zt Zz Zu Zx Z0 Zw Zy Zv) (c_with_check:Cal P w K mg base 5 "with_check" ["word"] lW) (c_read_of:kH P w K mg base 4 "read_of" ["flags"] (nD Zx)):FnOk P w K mg base CX0 6 f fd ["self"] (iQ Z0):=by
 refine F.ok sc_Tower_read (λvs H Q E h=>?_) (λcdv A outer s H vs Q E hr h=>?_)
 . obtain ⟨a,b,s0,st,hg,dd,dx,m,us,hs,bk,cws,rfl,_⟩:=h; rfl
 obtain ⟨a,b,s0,st,hg,dd,dx,m,us,hs,bk,cws,rfl,ha,hhg,hat,hul,hok,hbk,h60,hcw,q⟩:=h;refine ⟨_,(@aE _ _ _ _ _ (@aP _ _ 1 _ _ _ _ sc_Tower_read.nd (by rfl) (by exact (Or.inr rfl)) (cT rfl (cL (oU (mv 0) rfl)) (mE (N:=["word", "meaning"]) (by decide +kernel) (by decide +kernel)) (by decide +kernel) rfl (by decide +kernel) (λ_ _ _ _=>(fL (K:=K) (i:=0) (j:=1) (by rfl) (by rfl) (show List.Nodup (["word", "meaning"]:List Str) by decide +kernel) (by rfl) (by exact Or.inl rfl) (by exact Or.inr rfl) (by rfl) (by exact Or.inl rfl) (by exact Or.inr rfl))) (λ_ _ _ _=>dO) (λ_ _ _ _=>(aW c_with_check hr (by decide) rfl (aA (mv 0) aB)))) (by rfl) (by walk_at "o")) (@aE _ _ _ _ _ (iP (i:=2) sc_Tower_read.nd rfl (Or.inl rfl) rfl (cL (oU (mv 0) rfl)) (mE (N:=["hoist"]) (by decide +kernel) (by decide +kernel)) (by decide +kernel) rfl (by decide +kernel) (λ_ _ _ _=>(aY (i:=0) (show List.Nodup (["hoist"]:List Str) by decide +kernel) rfl (Or.inl rfl))) (λ_ _ _ _=>dO) (λ_ _ _ _=>(qM (bA aZ4 (mv 0) cW (bE _)) cW (dM c_read_of uF hr (by decide) rfl (aA (mv 0) aB))))) (@aI _ _ _ (aV (cT rfl (cL (mv 2)) (iK (N:=["word", "spoken"]) ["self", "spoken", "words"] (aF dD) [none,some 1] rfl rfl rfl (λx h=>cA h) (by decide +kernel)) (by decide +kernel) rfl (by decide +kernel) (λ_ _ _ _=>(aY (i:=0) (show List.Nodup (["word", "spoken"]:List Str) by decide +kernel) rfl (Or.inl rfl))) (λ_ _ _ _=>dO) (λ_ _ _ _=>(qM (bA eZM (mv 0) (mv 1) (by rfl)) (dB Bu Fg PySem.F.type_list_index bX4 (mv 1) (aA (mv 0) aB)) cW))))))),?_⟩
 obtain ⟨qs,b1,b2,b3⟩:=id hbk;have rq:=aT b1
 have hql:(qs.map V.ref).length=bk.length:=by rw [Ab,b2]
 walk_at "go";refine ⟨a,Z0,dx,_,_,rfl,ha,G.cl_Tower,G.na_Tower_book,aZP,?_⟩;walk_at "go";refine gE (xs:=qs.map V.ref) (λj=>(cws[j]?).map λcw=>V.str (aU (cw++[ckL cw]))) rq (by rw [hql]; exact bG (by omega)) (λj x Hc A B hx sm hA hB=>?_) (λD Hd hD sD hd=>?_)
 . rw [Af] at hx;obtain ⟨p,ep,rfl⟩:=Cs.mp hx;have hjb:j<bk.length:=by rw [<-b2]; exact (Ad.mp ep).1
   have ec:cws[j]?=some (cws[j]'(by rw [hcw.1]; exact hjb)):=Aa _
   obtain ⟨hw,hc1,hc6,hcL⟩:=hcw.2 j _ _ (Aa hjb) ec;have tp:=sm _ _ (b3 j p _ ep (Aa hjb))
   rw [hw] at tp;have tpl:=cU tp
   walk_at "go";refine ⟨Wk.set rfl (Wk.set rfl (Wk.refl _)),?_⟩;walk_at "go";exact ⟨_,rfl,hc1,hc6,hcL,λH' s' _ _=>hA _ (by rw [ec]; rfl) H' s'⟩
 . rw [hql,<-hcw.1,dP (λcw=>V.str (aU (cw++[ckL cw])))] at hd;have hspk:Hd D=some (.lst ((bX cws).map V.str)):=by rw [hd]; unfold bX; rw [Cc]; rfl
   have haD:=sD _ _ ha
   have hhD:=aK sD hhg
   have hatD:=hat.keep sD
   walk_at "go";refine ⟨a,Z0,dx,_,_,rfl,haD,G.cl_Tower,G.na_Tower_hung,aJU,?_⟩;walk_at "go";refine gE (xs:=us) (λj=>(hs[j]?).map yO) hhD (bG (by omega)) (λj x Hc A B hx sm hA hB=>?_) (λD2 Hd2 hD2 sD2 hd2=>?_)
   . have hjl:j<hs.length:=by rw [<-hat.len]; exact (Ad.mp hx).1
     obtain ⟨o,eh⟩:∃ o,hs[j]?=some o:=⟨_,Aa hjl⟩;have hv:=(hatD.keep sm).val j x _ hx eh
     cases o with
     | none=>
       obtain rfl:x=V.non:=hv;walk_at "go";refine ⟨Wk.set rfl (Wk.refl _),?_⟩;walk_at "go";rw [show decide (V.non=V.non)=true from rfl];walk_at "go";exact hA _ (by rw [eh]; rfl) _ (Same.refl _)
     | some cs=>
       obtain ⟨pc,rfl,hpc⟩:=hv;have hB':=hok cs (Al eh)
       have h7:=fS hB'
       walk_at "go";refine ⟨Wk.set rfl (Wk.refl _),?_⟩;walk_at "go";rw [show decide (V.ref pc=V.non)=false from Ax (λz=>nomatch z)]
       walk_at "go";exact ⟨pc,cs.map one,rfl,aT hpc,by omega,λz hz=>by obtain ⟨c,_,rfl⟩:=Be.mp hz; show 1<=1000; decide,λ_ H' s'=>hA _ (by rw [eh]; rfl) H' s',λz=>by rw [hB'] at z; cases z⟩
   . rw [hat.len,dP yO] at hd2;have r2:=aT hd2
     have rs2:=aT (sD2 _ _ hspk)
     have hll:(hs.map yO).length<=1000:=by rw [Ab,<-hat.len]; exact hul
     walk_at "go";refine gE (xs:=hs.map yO) (λj=>(hs[j]?).map (rdN cws)) r2 (bG (by omega)) (λj x Hc A B hx sm hA hB=>?_) (λD3 Hd3 hD3 sD3 hd3=>?_)
     . rw [Af] at hx;obtain ⟨o,eo,rfl⟩:=Cs.mp hx;have rsc:=aK sm rs2
       have r:=hA (rdN cws o) (by rw [eo]; rfl)
       cases o with
       | none=>
         walk_at "go";refine ⟨Wk.set rfl (Wk.refl _),?_⟩;walk_at "go";refine aZD (neg:=false) rsc rfl (gF _) ?_;rw [if_neg Ap,show yO none=V.non from rfl,dJW];walk_at "go";exact r _ (Same.refl _)
       | some cs=>
         have r':∀ Hd,Same Hc Hd->A (match (bX cws).findIdx? (λy=>y == kM (cs.map one)) with | some j=>V.int (j:Int) | none=>.non) Hd:=r
         change nS 0 (V.str (kM (cs.map one))) _ _ _
         generalize kM (cs.map one)=z at r' ⊢;walk_at "go";refine ⟨Wk.set rfl (Wk.refl _),?_⟩;walk_at "go";refine aZD (neg:=false) rsc rfl (gF _) ?_;rw [if_neg Ap,bJ8];cases e:(bX cws).findIdx? (λy=>y == z) with
         | none=>
           rw [e] at r';rw [decide_eq_false λhm=>by have:=List.findIdx?_eq_none_iff.mp e z hm; simp at this]
           walk_at "go";exact r' _ (Same.refl _)
         | some k=>
           rw [e] at r';obtain ⟨k1,k2,k3⟩:=List.findIdx?_eq_some_iff_getElem.mp e;have ez:(bX cws)[k]=z:=eq_of_beq k2
           rw [An (by rw [<-ez]; exact Bq _)]
           walk_at "go";refine cXT rsc (by rw [Aa k1,ez]) (λi y hi hy e2=>?_) (r' _ (Same.refl _))
           obtain ⟨i1,i2⟩:=Ad.mp hy;have:=k3 i hi
           rw [i2,e2] at this;simp at this
     . rw [Ab,dP (rdN cws)] at hd3;exact q D3 Hd3 (none_of (sD.trans sD2) hD3) (sD.trans (sD2.trans sD3)) hd3
def jY:Sp:=λvs H Q _=>∃ c k:Int,vs=[.int c,.int k]/\0<=k/\k<=1000/\∀ n:Int,0<=n->Q (.int n) H
def pC:Sp:=λvs H Q _=>∃ n m:Int,vs=[.int n,.int m]/\0<=n/\1<=m/\m<=7/\∀ (cw:List Nat) (H':Hp),Same H H'->1<=cw.length->(cw.length:Int)<=m->(∀ d∈cw,aQ d)->Q (.str (aU cw)) H'
def aQ9:FnScope ["_law_cell", "_law_k"] ["_law_cell", "_law_k"] (aF gW):=by walk_at "sc"
def aX0 {Zt Zz Zu Zx Z0 Zw Zy Zv:Addr} {f:Addr} {fd:FuncData} (F:Fun K "_law_mixed" "_law_mixed" gW f fd) (G:Gs K mg w Zt Zz Zu Zx Z0 Zw Zy Zv)  : FnOk P w K mg base CX0 1 f fd ["_law_cell", "_law_k"] jY:=by
 refine F.ok aQ9 (λvs H Q E h=>?_) (λcdv A outer s H vs Q E hr h=>?_)
 . obtain ⟨c,k,rfl,_⟩:=h; rfl
 obtain ⟨c,k,rfl,h0,h1,q⟩:=h;refine ⟨_,(@aI _ _ _ (aV (aR eJ (aR lX (aR bS (aR bS (aR bS (aR eJ (mv 0) aJ) (aR lX (aR lX aJ (mv 1)) (mv 1))) (mv 1)) aJ) aJ) aJ))),?_⟩;walk_at "go";exact q _ (De _ (by decide))
def sc_l_word:FnScope ["_law_number_here", "_law_most", "_law_letters", "_law_kinds", "_law_base", "_law_word_here", "_law_k"] ["_law_number_here", "_law_most"] (aF jK):=by walk_at "sc"
def aJ7 {Zt Zz Zu Zx Z0 Zw Zy Zv:Addr} {f:Addr} {fd:FuncData} (F:Fun K "_law_word" "_law_word" jK f fd) (G:Gs K mg w Zt Zz Zu Zx Z0 Zw Zy Zv)  : FnOk P w K mg base CX0 1 f fd ["_law_number_here", "_law_most"] pC:=by
 refine F.ok sc_l_word (λvs H Q E h=>?_) (λcdv A outer s H vs Q E hr h=>?_)
 . obtain ⟨n,m,rfl,_⟩:=h; rfl
 obtain ⟨n,m,rfl,h0,hm1,hm7,q⟩:=h;refine ⟨_,(@aE _ _ _ _ _ (@aP _ _ 2 _ _ _ _ sc_l_word.nd (by rfl) (by exact (Or.inl rfl)) gH (by rfl) (by walk_at "o")) (@aE _ _ _ _ _ (@aP _ _ 3 _ _ _ _ sc_l_word.nd (by rfl) (by exact (Or.inl rfl)) (@bK _ _ _ _ _ _ _ cF (@bV _ _ _ _ (aA aJ (aA aJ (aA aJ (aA aJ aB))))) (aR eJ (mv 0) aJ) (λ_ _=>rfl)) (by rfl) (by walk_at "o")) (@aE _ _ _ _ _ (@aP _ _ 4 _ _ _ _ sc_l_word.nd (by rfl) (by exact (Or.inl rfl)) (aR eJ (aR iX (mv 0) aJ) aJ) (by rfl) (by walk_at "o")) (@aE _ _ _ _ _ (@aP _ _ 5 _ _ _ _ sc_l_word.nd (by rfl) (by exact (Or.inl rfl)) gH (by rfl) (by walk_at "o")) (@aE _ _ _ _ _ (cR Br rfl (lO rfl G.b_range (aA (aR bS aJ (aR eJ (aR iX (mv 0) aJ) (mv 1))) aB)) (aY (i:=6) sc_l_word.nd rfl (Or.inl rfl)) (@aE _ _ _ _ _ (@aP _ _ 0 _ _ _ _ sc_l_word.nd (by rfl) (by exact (Or.inl rfl)) (aR eJ (aR lX (aR bS (aR bS (mv 0) (mv 6)) aJ) aJ) aJ) (by rfl) (by walk_at "o")) (@aI _ _ _ (@aP _ _ 5 _ _ _ _ sc_l_word.nd (by rfl) (by exact (Or.inl rfl)) (aR bS (mv 5) (bK cF (mv 2) (aR eJ (aR bS (mv 4) (aR lX (aR eJ (aR iX (mv 0) aJ) (mv 3)) aJ)) aJ) (λ_ _=>rfl))) (by rfl) (by walk_at "o"))))) (@aI _ _ _ (aV (mv 5)))))))),?_⟩
 walk_at "go";refine ⟨by decide,λp hp=>?_⟩
 walk_at "go";obtain ⟨kn,hkn,akn⟩:=aJE (ns:=[1,2,3,23]) (i:=n % 4) (by omega) (by show n % 4<4; omega)
 have hk:1<=kn:=(by decide:∀ x∈([1,2,3,23]:List Int),1<=x) kn hkn
 have hk2:kn<=23:=(by decide:∀ x∈([1,2,3,23]:List Int),x<=23) kn hkn
 refine fO (xs:=([1,2,3,23]:List Int).map V.int) dG akn ?_;have z0:=De (n / 92) (show m≠0 by omega)
 have z1:=Dq (n / 92) (show 0<m by omega)
 walk_at "go";generalize n / 92 % m=l at z0 z1 ⊢;refine ⟨⟨by omega,by omega⟩,?_⟩
 have s1:Same H (upd H p (.lst [V.int 1,V.int 2,V.int 3,V.int 23])):=aG hp _
 generalize upd H p (.lst [V.int 1,V.int 2,V.int 3,V.int 23])=H1 at s1 ⊢;refine rP (λi σ H'=>∃ (x:Int) (cw:List Nat) (v:Option V),σ=[some (.int x),some (.int m),some (.str (Str.ofString "abcdefghijklmnopqrstuvw")),some (.int kn),some (.int (n / 4 % 23)),some (.str (aU cw)),v]/\0<=x/\cw.length=i/\(∀ d∈cw,aQ d)/\H'=H1)
   ⟨n,[],none,rfl,h0,rfl,(λd hd=>nomatch hd),rfl⟩ ?_ ?_
 . rintro i σ H' hi ⟨x,cw,v,rfl,hx0,hn,hL,rfl⟩;have hwl:(aU cw).length=cw.length:=cJ cw
   walk_at "go";generalize (x+(0+(i:Int))+1) * 69621 % 2147483647 / 7 % kn * 5=y;have y0:=De (n / 4 % 23+y) (show (23:Int)≠0 by decide)
   have y1:=Dq (n / 4 % 23+y) (show (0:Int)<23 by decide)
   have e1:=cJF (k:=((n / 4 % 23+y) % 23).toNat) (by omega)
   rw [show ((((n / 4 % 23+y) % 23).toNat:Nat):Int)=(n / 4 % 23+y) % 23 by omega] at e1
   refine xS (by decide) e1 ?_
   have h1l:(⟨#[97+((n / 4 % 23+y) % 23).toNat]⟩:Str).length=1:=rfl
   walk_at "go";refine ⟨(x+(0+(i:Int))+1) * 69621 % 2147483647,cw++[97+((n / 4 % 23+y) % 23).toNat],some (.int (0+(i:Int))),?_,De _ (show (2147483647:Int)≠0 by decide),by rw [Ag,hn]; rfl,λd hd=>?_,rfl⟩
   . rw [<-jA];rfl
   . rcases Bl.mp hd with z | z
     . exact hL d z
     . rw [Aj.mp z];exact ⟨by omega,by omega⟩
 . rintro σ H' ⟨x,cw,v,rfl,hx0,hn,hL,rfl⟩;walk_at "go";exact q cw _ s1 (by omega) (by omega) hL
def oK (K:W.Frag):Sp:=λvs H Q _=>∃ (a:Addr) (ns:List Int) (k:Int),vs=[.ref a,.int k]/\SqL K H a (ns.map V.int)/\0<=k/\∀ n:Int,Q (.int n) H
def wQ:FnScope ["_law_script", "_law_k"] ["_law_script", "_law_k"] (aF fF):=by walk_at "sc"
def vV {Zt Zz Zu Zx Z0 Zw Zy Zv:Addr} {f:Addr} {fd:FuncData} (F:Fun K "_law_cell_at" "_law_cell_at" fF f fd) (G:Gs K mg w Zt Zz Zu Zx Z0 Zw Zy Zv)  : FnOk P w K mg base CX0 1 f fd ["_law_script", "_law_k"] (oK K):=by
 refine F.ok wQ (λvs H Q E h=>?_) (λcdv A outer s H vs Q E hr h=>?_)
 . obtain ⟨a,ns,k,rfl,_⟩:=h; rfl
 obtain ⟨a,ns,k,rfl,hS,hk,q⟩:=h;refine ⟨_,(@aE _ _ _ _ _ (cG (bA aQJ (mv 1) (bC wZ rfl G.b_len cM (aA (mv 0) aB)) (bE _)) (@aI _ _ _ (aV (bK ix_list (mv 0) (mv 1) (λ_ _=>rfl)))) bH) (@aI _ _ _ (aV aJ))),?_⟩;walk_at "go";refine ⟨_,_,rfl,.inl hS,?_⟩;have hnl:(ns.map V.int).length=ns.length:=Ab ..
 rw [hnl];walk_at "go";refine gJ (λhd=>?_) (λhd=>?_)
 . have hd':=Az hd
   obtain ⟨n,_,an⟩:=aJE (ns:=ns) (i:=k) hk hd';walk_at "go";exact eQR hS an (q n)
 . walk_at "go";exact q 0
def gQ:Sp:=λvs H Q _=>∃ (cs:List Nat),vs=[.str (aU cs)]/\1<=cs.length/\cs.length<=6/\(∀ d∈cs,aQ d)/\∀ H',Same H H'->aQ (ckL cs)->gU (cs++[ckL cs])=true->Q (.str (aU (cs++[ckL cs]))) H'
def bQT {cs:List Nat} {d:Nat}:lG (cs++[d]) (cs++[d]).length=lG cs cs.length+((1+cs.length:Nat):Int) * ((d - 97:Nat):Int):=by
 rw [Ag,show [d].length=1 from rfl,jC,nI (ds:=cs) (λi hi=>by rw [Ac,Aq hi,<-Ac])]
 rw [show (cs++[d]).getD cs.length 0=d by rw [Ac,Ar (Ah _),Ei]; rfl]
def dX9:Bool:=(List.range 23).all λi=>Txt.find lettersT ⟨#[97+i]⟩ == (i:Int)
def bJC:dX9=true:=by decide +kernel
def xL {d:Nat} (h:aQ d):Txt.find lettersT (one d)=((d - 97:Nat):Int):=by
 unfold aQ at h;have a:=Ck.mp bJC (d - 97) (Bw.mpr (by omega))
 rw [show 97+(d - 97)=d by omega] at a
 exact eq_of_beq a
def dJ1:Bool:=(List.range 23).all λi=>(Str.ofString "abcdefghijklmnopqrstuvw").cps.toList[i]? == some (97+i)
def bJW:dJ1=true:=by decide +kernel
def aX3 {i c:Nat} (h:i<23) (e:(Str.ofString "abcdefghijklmnopqrstuvw").cps.toList[i]?=some c):c=97+i:=by
 have a:=eq_of_beq (Ck.mp bJW i (Bw.mpr h))
 rw [e] at a;exact Bh a
def sc_l_checked:FnScope ["_law_word_here", "_law_letters", "_law_total", "_law_letter"] ["_law_word_here"] (aF dQ):=by walk_at "sc"
def xG {Zt Zz Zu Zx Z0 Zw Zy Zv:Addr} {f:Addr} {fd:FuncData} (F:Fun K "_law_checked" "_law_checked" dQ f fd) (G:Gs K mg w Zt Zz Zu Zx Z0 Zw Zy Zv)  : FnOk P w K mg base CX0 1 f fd ["_law_word_here"] gQ:=by
 refine F.ok sc_l_checked (λvs H Q E h=>?_) (λcdv A outer s H vs Q E hr h=>?_)
 . obtain ⟨cs,rfl,_⟩:=h; rfl
 obtain ⟨cs,rfl,h1,h6,hL,q⟩:=h;refine ⟨_,(@aE _ _ _ _ _ (@aP _ _ 1 _ _ _ _ sc_l_checked.nd (by rfl) (by exact (Or.inr rfl)) gH (by rfl) (by walk_at "o")) (@aE _ _ _ _ _ (@aP _ _ 2 _ _ _ _ sc_l_checked.nd (by rfl) (by exact (Or.inl rfl)) (bC (bXT rfl) rfl G.b_sum aQT (aA (cT rfl (lO rfl G.b_range (aA (bC eV rfl G.b_len cM (aA (mv 0) aB)) aB)) (iK (N:=["_law_k", "_law_letters", "_law_word_here"]) ["_law_word_here", "_law_letters", "_law_total", "_law_letter"] (aF dQ) [none,some 1,some 0] rfl rfl rfl (λx h=>cA h) (by decide +kernel)) (by decide +kernel) rfl (by decide +kernel) (λ_ _ _ _=>(aY (i:=0) (show List.Nodup (["_law_k", "_law_letters", "_law_word_here"]:List Str) by decide +kernel) rfl (Or.inl rfl))) (λ_ _ _ _=>dO) (λ_ _ _ _=>(aR lX (aR bS (mv 0) aJ) (dB Fl PySem.F.slot_str_find PySem.F.type_str_find bXZ (mv 1) (aA (bK cF (mv 2) (mv 0) (λ_ _=>rfl)) aB))))) aB)) (by rfl) (by walk_at "o")) (@aE _ _ _ _ _ (cR Br rfl (mQ (mv 1)) (aY (i:=3) sc_l_checked.nd rfl (Or.inl rfl)) (@aI _ _ _ (cG (bA mO (aR eJ (aR bS (mv 2) (aR lX (aR bS (bC eV rfl G.b_len cM (aA (mv 0) aB)) aJ) (dB Fl PySem.F.slot_str_find PySem.F.type_str_find bXZ (mv 1) (aA (mv 3) aB)))) aJ) aJ (bE _)) (@aI _ _ _ (aV (aR bS (mv 0) (mv 3)))) bH))) (@aI _ _ _ (aV (mv 0)))))),?_⟩
 have hwl:(aU cs).length=cs.length:=cJ cs
 walk_at "go";rw [hwl];refine ⟨⟨by omega,by omega⟩,?_⟩
 rw [show ((cs.length:Int)).toNat=cs.length from rfl];refine bQD (λi=>some (V.int (wgt cs i))) (bG (by omega)) (λi Hc A B hi sm hA=>?_) (λD Hd hD sD hd=>?_)
 . have hg:=lB hL hi
   have r:A (V.int (wgt cs i)) Hc:=hA _ (Same.refl _)
   walk_at "go";refine ⟨Wk.set rfl (Wk.refl _),?_⟩;walk_at "go";refine xS (by rw [hwl]; exact bN (by omega)) (wI (k:=i) (by omega) hi) ?_
   walk_at "go";refine cQT ?_;rw [show (⟨#[cs.getD i 0]⟩:Str)=one (cs.getD i 0) from rfl];rw [show Txt.find (Str.ofString "abcdefghijklmnopqrstuvw") (one (cs.getD i 0))=((cs.getD i 0 - 97:Nat):Int) from xL hg];walk_at "go";rw [show (0+(i:Int)+1) * ((cs.getD i 0 - 97:Nat):Int)=wgt cs i by unfold wgt; rw [show ((1+i:Nat):Int)=0+(i:Int)+1 by omega]]
   exact r
 . have hd':Hd D=some (.lst (((List.range cs.length).map (wgt cs)).map V.int)):=by
     rw [hd,Cc];congr 2
     exact List.filterMap_eq_map (f:=λi=>V.int (wgt cs i)) ▸ rfl
   walk_at "go";refine dQM (aT hd') (bJS (by omega) hL) (by rw [Ab,Ca]; omega) ?_
   rw [show ((List.range cs.length).map (wgt cs)).sum=lG cs cs.length from rfl];obtain ⟨d,hdl,hdv⟩:=yV (cs:=cs++[97]) (by rw [Ag]; show _+1<=_; omega) (k:=cs.length) (by rw [Ag]; show _<_+1; omega)
   rw [nQ] at hdv;have ec:=dQ7 h6 hL hdl hdv
   rw [ec] at q;have q2:=q Hd sD hdl hdv
   have hd2:=hdl
   unfold aQ at hd2;walk_at "go";refine aQS (λi σ H'=>∃ v3,σ=[some (.str (aU cs)),some (.str (Str.ofString "abcdefghijklmnopqrstuvw")),some (.int (lG cs cs.length)),v3]/\H'=Hd/\i<=d - 97) ⟨_,rfl,rfl,Cr _⟩ ?_ ?_
   . rintro i c σ H' hc ⟨v3,rfl,rfl,hid⟩;have hi23:i<23:=by have:=(Ad.mp hc).1; exact this
     have hcc:c=97+i:=aX3 hi23 hc
     subst hcc;have hic:aQ (97+i):=⟨by omega,by omega⟩
     have r:=uN h6 hL hdl hdv hic
     unfold gU at r;rw [bQT,show 97+i - 97=i by omega] at r
     walk_at "go";rw [hwl];refine cQT ?_;rw [show Txt.find (Str.ofString "abcdefghijklmnopqrstuvw") ⟨#[97+i]⟩=((97+i - 97:Nat):Int) from xL hic,show 97+i - 97=i by omega]
     walk_at "go";rw [show ((1+cs.length:Nat):Int)=(cs.length:Int)+1 by omega] at r
     rw [r];refine gJ (λhc=>?_) (λhc=>?_)
     . have hc':=Az hc
       have h1l:(⟨#[97+i]⟩:Str).length=1:=rfl
       walk_at "go";rw [show aU cs++⟨#[97+i]⟩=aU (cs++[97+i]) from jA cs (97+i),hc'];exact q2
     . have hc':=Bm (Bs.mpr hc)
       walk_at "go";exact ⟨_,rfl,rfl,by omega⟩
   . rintro σ H' ⟨v3,rfl,rfl,hid⟩;exact absurd (show 23<=d - 97 from hid) (by omega)
def zZ {ss:List Str} {i:Int} (h0:0<=i) (h1:i<(ss.length:Int)):∃ z,z∈ss/\atI (ss.map V.str) i=some (.str z):=by
 obtain ⟨k,rfl⟩:∃ k:Nat,i=(k:Int):=⟨i.toNat,by omega⟩
 have hk:k<ss.length:=by omega
 exact ⟨ss[k],Bq _,bJ (by rw [Af,Aa hk]; rfl)⟩
def uI:Sp:=λvs H Q _=>∃ (a:Addr) (ns:List Int),vs=[.ref a]/\rdL H a=some (ns.map V.int)/\ns.length<=7/\
 ∀ (r:Addr) (bk:List (Str×Str)) (cws:Q5) (H':Hp),H r=none->Same H H'->BkAt H' r bk->tY bk cws->cws.Nodup->1<=bk.length->bk.length<=8->Q (.ref r) H'
def sc_l_book:FnScope ["_law_cells", "_law_terms", "_law_book_here", "_law_k", "_law_cell", "_law_number_here", "_law_word_here", "_law_meaning"] ["_law_cells"] (aF jL):=by walk_at "sc"
def bQO {Zt Zz Zu Zx Z0 Zw Zy Zv:Addr} {f:Addr} {fd:FuncData} (F:Fun K "_law_book" "_law_book" jL f fd) (G:Gs K mg w Zt Zz Zu Zx Z0 Zw Zy Zv) (c_l_mixed:Cal P w K mg base 1 "_law_mixed" ["_law_cell", "_law_k"] jY) (c_l_word:Cal P w K mg base 1 "_law_word" ["_law_number_here", "_law_most"] pC):FnOk P w K mg base CX0 2 f fd ["_law_cells"] uI:=by
 refine F.ok sc_l_book (λvs H Q E h=>?_) (λcdv A outer s H vs Q E hr h=>?_)
 . obtain ⟨a,ns,rfl,_⟩:=h; rfl
 obtain ⟨a,ns,rfl,hns,h7,q⟩:=h;refine ⟨_,(@aE _ _ _ _ _ (@aP _ _ 1 _ _ _ _ sc_l_book.nd (by rfl) (by exact (Or.inl rfl)) (@bV _ _ _ _ (@gM _ _ _ _ _ _ (@gM _ _ _ _ _ _ (@gM _ _ _ _ _ _ (@gM _ _ _ _ _ _ (@gM _ _ _ _ _ _ aB)))))) (by rfl) (by walk_at "o")) (@aE _ _ _ _ _ (@aP _ _ 2 _ _ _ _ sc_l_book.nd (by rfl) (by exact (Or.inl rfl)) (bV (aA (gG (@gM _ _ _ _ _ _ (@gM _ _ _ _ _ _ aB))) aB)) (by rfl) (by walk_at "o")) (@aE _ _ _ _ _ (cR Br rfl (oA rfl G.b_enumerate (aA (mv 0) aB)) (fL (K:=K) (i:=3) (j:=4) (by rfl) (by rfl) sc_l_book.nd (by rfl) (by exact (Or.inl rfl)) (by exact Or.inl rfl) (by rfl) (by exact (Or.inl rfl)) (by exact Or.inl rfl)) (@aE _ _ _ _ _ (@aP _ _ 5 _ _ _ _ sc_l_book.nd (by rfl) (by exact (Or.inl rfl)) (aW c_l_mixed hr (by decide) rfl (aA (mv 4) (aA (mv 3) aB))) (by rfl) (by walk_at "o")) (@aE _ _ _ _ _ (@aP _ _ 6 _ _ _ _ sc_l_book.nd (by rfl) (by exact (Or.inl rfl)) (aW c_l_word hr (by decide) rfl (aA (mv 5) (aA aJ aB))) (by rfl) (by walk_at "o")) (@aE _ _ _ _ _ (@aP _ _ 7 _ _ _ _ sc_l_book.nd (by rfl) (by exact (Or.inl rfl)) (bK cF (mv 1) (aR eJ (aR iX (mv 5) aJ) aJ) (λ_ _=>rfl)) (by rfl) (by walk_at "o")) (@aE _ _ _ _ _ (cG (bA mO (aR eJ (aR iX (mv 5) aJ) aJ) aJ (bE _)) (@aI _ _ _ (@aP _ _ 7 _ _ _ _ sc_l_book.nd (by rfl) (by exact (Or.inl rfl)) (aR bS (aR bS (mv 7) gH) (bK cF (mv 1) (aR eJ (aR iX (mv 5) aJ) aJ) (λ_ _=>rfl))) (by rfl) (by walk_at "o"))) bH) (@aI _ _ _ (cG (PW.pt (qV (bA xO (mv 6) (cT rfl (cL (mv 2)) (mE (N:=["_law_page"]) (by decide +kernel) (by decide +kernel)) (by decide +kernel) rfl (by decide +kernel) (λ_ _ _ _=>(aY (i:=0) (show List.Nodup (["_law_page"]:List Str) by decide +kernel) rfl (Or.inl rfl))) (λ_ _ _ _=>dO) (λ_ _ _ _=>(bK cF (mv 0) aJ (λ_ _=>rfl)))) (by rfl)) (oJ (bA xO (mv 7) (cT rfl (cL (mv 2)) (mE (N:=["_law_page"]) (by decide +kernel) (by decide +kernel)) (by decide +kernel) rfl (by decide +kernel) (λ_ _ _ _=>(aY (i:=0) (show List.Nodup (["_law_page"]:List Str) by decide +kernel) rfl (Or.inl rfl))) (λ_ _ _ _=>dO) (λ_ _ _ _=>(bK cF (mv 0) aJ (λ_ _=>rfl)))) (by rfl))))) (@aI _ _ _ (cD (dB Bu Ez Fa aJY (mv 2) (aA (gG (aA (mv 6) (aA (mv 7) aB))) aB)))) bH))))))) (@aI _ _ _ (aV (mv 2)))))),?_⟩
 walk_at "go";refine ⟨by show 5<=sizeLine; decide,λrt hrt=>?_⟩
 have k1:=aG hrt (.lst ((["sail", "fog", "wind", "calm", "x"]:List Str).map V.str))
 have e1:rdL (upd H rt (.lst ((["sail", "fog", "wind", "calm", "x"]:List Str).map V.str))) rt=some ((["sail", "fog", "wind", "calm", "x"]:List Str).map V.str):=dG
 change nS 1 (V.ref rt) _ (upd H rt (.lst ((["sail", "fog", "wind", "calm", "x"]:List Str).map V.str))) _
 have htl:(["sail", "fog", "wind", "calm", "x"]:List Str).length=5:=rfl
 have hts:∀ z∈(["sail", "fog", "wind", "calm", "x"]:List Str),z.length<=10:=by decide +kernel
 generalize (["sail", "fog", "wind", "calm", "x"]:List Str)=ts at k1 e1 htl hts ⊢;generalize upd H rt (.lst (ts.map V.str))=H1 at k1 e1 ⊢;walk_at "go";refine ⟨by show 2<=sizeLine; decide,λp2 hp2=>?_⟩
 have k2:=aG hp2 (.tup [V.str (Str.ofString "ab"),V.str (Str.ofString "sail")])
 have t2:(upd H1 p2 (.tup [V.str (Str.ofString "ab"),V.str (Str.ofString "sail")])) p2=some (.tup [V.str (Str.ofString "ab"),V.str (Str.ofString "sail")]):=aD
 generalize upd H1 p2 (.tup [V.str (Str.ofString "ab"),V.str (Str.ofString "sail")])=H2 at k2 t2 ⊢;walk_at "go";refine ⟨by show 1<=sizeLine; decide,λrb hrb=>?_⟩
 have nrt:rt≠rb:=λz=>by
   have:=aK k2 e1
   rw [z] at this;unfold rdL at this;rw [hrb] at this;cases this
 have k3:=aG hrb (.lst [V.ref p2])
 have e3:BkAt (upd H2 rb (.lst [V.ref p2])) rb [(Str.ofString "ab",Str.ofString "sail")]:=⟨[p2],aD,rfl,λj p b hp hb=>by
   match j,hp,hb with
   | 0,hp,hb=>cases hp; cases hb; exact k3 _ _ t2
   | j+1,hp,_=>cases hp⟩
 have s03:=k1.trans (k2.trans k3)
 have hrbH:H rb=none:=none_of (k1.trans k2) hrb
 have et3:=aK (k2.trans k3) e1
 generalize upd H2 rb (.lst [V.ref p2])=H3 at k3 e3 s03 et3 ⊢;have hns3:=aK s03 hns
 walk_at "go";refine qI (xs:=ns.map V.int) (λi σ H'=>∃ (bk:List (Str×Str)) (cws:Q5) (v3 v4 v5 v6 v7:Option V),σ=[some (.ref a),some (.ref rt),some (.ref rb),v3,v4,v5,v6,v7]/\Same H H'/\rdL H' rt=some (ts.map V.str)/\BkAt H' rb bk/\tY bk cws/\cws.Nodup/\1<=bk.length/\bk.length<=1+i)
   ⟨_,[[97,98]],_,_,_,_,_,rfl,s03,et3,e3,⟨rfl,λj b cw hb hc=>by
     match j,hb,hc with
     | 0,hb,hc=>cases hb; cases hc; exact ⟨rfl,by decide,by decide,by unfold aQ; decide⟩
     | j+1,hb,_=>cases hb⟩,by simp,Nat.le_refl _,Nat.le_refl _⟩ (λi σ H' _ ⟨_,_,_,_,_,_,_,_,e,_⟩=>aK e hns) ?_ ?_
 . rintro i x σ H4 pe hx ⟨bk,cws,v3,v4,v5,v6,v7,rfl,s4,et4,hbk,hcw,hnd,hb1,hbl⟩ hpe;have hi:i<7:=by have:=(Ad.mp hx).1; rw [Ab] at this; omega
   obtain ⟨c,_,rfl⟩:=aQH hx;have k5:=aG hpe (.tup [V.int ((0+i:Nat):Int),V.int c])
   have te5:(upd H4 pe (.tup [V.int ((0+i:Nat):Int),V.int c])) pe=some (.tup [V.int ((0+i:Nat):Int),V.int c]):=aD
   have s5:=s4.trans k5
   have et5:=aK k5 et4
   obtain ⟨qs,b1,b2,b3⟩:=id hbk;generalize upd H4 pe (.tup [V.int ((0+i:Nat):Int),V.int c])=H5 at k5 te5 s5 et5 ⊢;have tt5:=cU te5
   walk_at "go";refine ⟨c,_,rfl,by omega,by omega,λN hN=>?_⟩
   walk_at "go";refine ⟨N,6,rfl,hN,by decide,by decide,λcw H6 s6 hc1 hc6 hcL=>?_⟩
   have y0:=De (N / 5) (show (5:Int)≠0 by decide)
   have y1:=Dq (N / 5) (show (0:Int)<5 by decide)
   have et6:=aK s6 et5
   walk_at "go";obtain ⟨z1,hz1,az1⟩:=zZ (ss:=ts) y0 (by rw [htl]; exact y1)
   have hzl:=hts z1 hz1
   refine fO et6 az1 ?_;have s06:=s5.trans s6
   have hbk6:BkAt H6 rb bk:=⟨qs,(k5.trans s6) _ _ b1,b2,λj p b hp hb=>(k5.trans s6) _ _ (b3 j p b hp hb)⟩
   walk_at "gs"
   with_reducible refine vZ (λσ' H'=>∃ z:Str,σ'=[some (.ref a),some (.ref rt),some (.ref rb),some (.int ((0+i:Nat):Int)),some (.int c),some (.int N),some (.str (aU cw)),some (.str z)]/\z.length<=30/\H'=H6) (λσ' H' j7=>?_) (λM hM=>?_)
   . obtain ⟨z,rfl,hz,rfl⟩:=j7;obtain ⟨qs',c1,c2,c3⟩:=id hbk6;have rq:=aT c1
     have hql:(qs'.map V.ref).length=bk.length:=by rw [Ab,c2]
     have words:bk.map (·.1)=cws.map aU:=by
       refine List.ext_getElem (by rw [Ab,Ab,hcw.1]) λj j1 j2=>?_
       rw [Ab] at j1 j2;rw [Hj,Hj];exact (hcw.2 j _ _ (Aa j1) (Aa j2)).1
     walk_at "go";refine gE (xs:=qs'.map V.ref) (λj=>(bk[j]?).map λb=>V.str b.1) rq (by rw [hql]; exact bG (by omega)) (λj x Hc A B hx sm hA hB=>?_) (λD Hd hD sD hd=>?_)
     . rw [Af] at hx;obtain ⟨p,ep,rfl⟩:=Cs.mp hx;have hjb:j<bk.length:=by rw [<-c2]; exact (Ad.mp ep).1
       have eb:=Aa hjb
       have tp:=sm _ _ (c3 j p _ ep eb)
       walk_at "go";refine ⟨Wk.set rfl (Wk.refl _),?_⟩;walk_at "go";exact dS tp (v:=.str bk[j].1) (bJ (j:=0) rfl) (hA _ (by rw [eb]; rfl) _ (Same.refl _))
     rw [hql,dP (λb:Str×Str=>V.str b.1),show bk.map (λb=>V.str b.1)=(bk.map (·.1)).map V.str by rw [Cc]; rfl] at hd
     refine aZD (neg:=true) (aT hd) rfl (gF _) ?_;rw [if_pos rfl,bJ8];have keep:∀ H9,Same H' H9->rdL H9 rt=some (ts.map V.str)/\BkAt H9 rb bk:=λH9 k=>⟨aK k et6,⟨qs',k _ _ c1,c2,λj p b hp hb=>k _ _ (c3 j p b hp hb)⟩⟩
     by_cases hw:aU cw∈bk.map (·.1)
     . rw [An hw];walk_at "go";exact ⟨bk,cws,_,_,_,_,_,rfl,s06.trans sD,(keep _ sD).1,(keep _ sD).2,hcw,hnd,hb1,by omega⟩
     . rw [Ax hw];have rqD:=aK sD rq
       walk_at "go";refine gE (xs:=qs'.map V.ref) (λj=>(bk[j]?).map λb=>V.str b.2) rqD (by rw [hql]; exact bG (by omega)) (λj x Hc A B hx sm hA hB=>?_) (λD2 Hd2 hD2 sD2 hd2=>?_)
       . rw [Af] at hx;obtain ⟨p,ep,rfl⟩:=Cs.mp hx;have hjb:j<bk.length:=by rw [<-c2]; exact (Ad.mp ep).1
         have eb:=Aa hjb
         have tp:=sm _ _ (sD _ _ (c3 j p _ ep eb))
         walk_at "go";refine ⟨Wk.set rfl (Wk.refl _),?_⟩;walk_at "go";exact dS tp (v:=.str bk[j].2) (bJ (j:=1) rfl) (hA _ (by rw [eb]; rfl) _ (Same.refl _))
       rw [hql,dP (λb:Str×Str=>V.str b.2),show bk.map (λb=>V.str b.2)=(bk.map (·.2)).map V.str by rw [Cc]; rfl] at hd2
       refine aZD (neg:=true) (aT hd2) rfl (gF _) ?_;rw [if_pos rfl,bJ8];have s62:=sD.trans sD2
       by_cases hm:z∈bk.map (·.2)
       . rw [An hm];walk_at "go";exact ⟨bk,cws,_,_,_,_,_,rfl,s06.trans s62,(keep _ s62).1,(keep _ s62).2,hcw,hnd,hb1,by omega⟩
       . rw [Ax hm];have c1':=s62 _ _ c1
         walk_at "go";refine ⟨by show 2<=sizeLine; decide,λpt hpt=>?_⟩
         have k8:=aG hpt (.tup [.str (aU cw),.str z])
         have t8:(upd Hd2 pt (.tup [.str (aU cw),.str z])) pt=some (.tup [.str (aU cw),.str z]):=aD
         have s68:=s62.trans k8
         have c18:=k8 _ _ c1'
         have et8:=(keep _ s68).1
         have c38:∀ (j:Nat) p b,qs'[j]?=some p->bk[j]?=some b->(upd Hd2 pt (.tup [.str (aU cw),.str z])) p=some (.tup [.str b.1,.str b.2]):=λj p b hp hb=>s68 _ _ (c3 j p b hp hb)
         generalize upd Hd2 pt (.tup [.str (aU cw),.str z])=H8 at k8 t8 s68 c18 et8 c38 ⊢;have m8:=bL c18
         walk_at "go";have ne:∀ p xs,H8 p=some (.tup xs)->p≠rb:=λp xs e z=>by rw [z,c18] at e; cases e
         refine ⟨bk++[(aU cw,z)],cws++[cw],_,_,_,_,_,rfl,bI hrbH (s06.trans s68),?_,?_,?_,?_,by rw [Ag]; omega,by rw [Ag]; show _+1<=_; omega⟩
         . rw [aQ3 nrt];exact et8
         . refine ⟨qs'++[pt],by rw [aD,Ao]; rfl,by rw [Ag,Ag,c2]; rfl,λj p b hp hb=>?_⟩
           rcases Nat.lt_or_ge j qs'.length with zz | zz
           . rw [Aq zz] at hp;rw [Aq (by omega)] at hb
             have:=c38 j p b hp hb
             rw [aH (ne _ _ this)];exact this
           . rw [Ar zz] at hp;rw [Ar (by omega)] at hb
             have w1:=(Ad.mp hp).1
             have eu:j - qs'.length=0:=by have:j - qs'.length<1:=w1; omega
             have ev:j - bk.length=0:=by omega
             rw [eu] at hp;rw [ev] at hb;cases hp;cases hb;rw [aH (ne _ _ t8)];exact t8
         . refine ⟨by rw [Ag,Ag,hcw.1]; rfl,λj b cw' hb hc=>?_⟩
           have hcl:=hcw.1
           rcases Nat.lt_or_ge j bk.length with zz | zz
           . rw [Aq zz] at hb;rw [Aq (by omega)] at hc
             exact hcw.2 j b cw' hb hc
           . rw [Ar zz] at hb;rw [Ar (by omega)] at hc
             have w1:=(Ad.mp hb).1
             have eu:j - bk.length=0:=by have:j - bk.length<1:=w1; omega
             have ev:j - cws.length=0:=by omega
             rw [eu] at hb;rw [ev] at hc;cases hb;cases hc;exact ⟨rfl,hc1,by omega,hcL⟩
         . rw [words] at hw;refine List.nodup_append.mpr ⟨hnd,by simp,λu hu v hv e=>?_⟩
           rw [Aj.mp hv] at e;exact hw (Be.mpr ⟨u,hu,by rw [e]⟩)
   . walk_at "go";refine gJ (λhg=>?_) (λhg=>?_)
     . have w0:=De (N / 50) (show (5:Int)≠0 by decide)
       have w1:=Dq (N / 50) (show (0:Int)<5 by decide)
       obtain ⟨z2,hz2,az2⟩:=zZ (ss:=ts) w0 (by rw [htl]; exact w1)
       have hzl2:=hts z2 hz2
       have hsp:(Str.ofString " ").length=1:=rfl
       have hl1:(z1++Str.ofString " ").length=z1.length+1:=by rw [Str.length_append]; rfl
       walk_at "go";refine fO et6 az2 ?_;walk_at "go";exact hM _ _ ⟨_,rfl,by rw [Str.length_append,hl1]; omega,rfl⟩
     . walk_at "go";exact hM _ _ ⟨z1,rfl,by omega,rfl⟩
 . rintro σ H4 ⟨bk,cws,v3,v4,v5,v6,v7,rfl,s4,et4,hbk,hcw,hnd,hb1,hbl⟩;rw [Ab] at hbl;walk_at "go";exact q rb bk cws H4 hrbH s4 hbk hcw hnd hb1 (by omega)
def rH:Sp:=λvs H Q _=>∃ (c:Int) (b:Addr) (bk:List (Str×Str)) (cws:List (List Nat)),vs=[.int c,.ref b]/\BkAt H b bk/\tY bk cws/\bk.length<=8/\
 ∀ (p:Addr) (kvs:List (Key×V)) (f:Nat->Option Int) (H':Hp),H p=none->Same H H'->H' p=some (.dK kvs)->Lk kvs f->(∀ c,0<=aS f c/\aS f c<=9)->Q (.ref p) H'
def sc_l_flags:FnScope ["_law_cell", "_law_book_here", "_law_number_here", "_law_most", "_law_locker", "_law_flag"] ["_law_cell", "_law_book_here"] (aF hZ):=by walk_at "sc"
def aXQ {Zt Zz Zu Zx Z0 Zw Zy Zv:Addr} {f:Addr} {fd:FuncData} (F:Fun K "_law_flags" "_law_flags" hZ f fd) (G:Gs K mg w Zt Zz Zu Zx Z0 Zw Zy Zv) (c_l_mixed:Cal P w K mg base 1 "_law_mixed" ["_law_cell", "_law_k"] jY) (c_l_checked:Cal P w K mg base 1 "_law_checked" ["_law_word_here"] gQ):FnOk P w K mg base CX0 2 f fd ["_law_cell", "_law_book_here"] rH:=by
 refine F.ok sc_l_flags (λvs H Q E h=>?_) (λcdv A outer s H vs Q E hr h=>?_)
 . obtain ⟨c,b,bk,cws,rfl,_⟩:=h; rfl
 obtain ⟨c,b,bk,cws,rfl,hbk,hcw,h8,q⟩:=h;refine ⟨_,(@aE _ _ _ _ _ (@aP _ _ 2 _ _ _ _ sc_l_flags.nd (by rfl) (by exact (Or.inl rfl)) (aW c_l_mixed hr (by decide) rfl (aA (mv 0) (aA aJ aB))) (by rfl) (by walk_at "o")) (@aE _ _ _ _ _ (@aP _ _ 3 _ _ _ _ sc_l_flags.nd (by rfl) (by exact (Or.inl rfl)) (aR bS aJ (aR eJ (mv 2) aJ)) (by rfl) (by walk_at "o")) (@aE _ _ _ _ _ (@aP _ _ 4 _ _ _ _ sc_l_flags.nd (by rfl) (by exact (Or.inl rfl)) rV (by rfl) (by walk_at "o")) (@aE _ _ _ _ _ (cR Br rfl (mQ (aR bS (dB Fl PySem.F.slot_str_join PySem.F.type_str_join dXO gH (aA (cT rfl (cL (mv 1)) (mE (N:=["_law_page"]) (by decide +kernel) (by decide +kernel)) (by decide +kernel) rfl (by decide +kernel) (λ_ _ _ _=>(aY (i:=0) (show List.Nodup (["_law_page"]:List Str) by decide +kernel) rfl (Or.inl rfl))) (λ_ _ _ _=>dO) (λ_ _ _ _=>(aW c_l_checked hr (by decide) rfl (aA (bK cF (mv 0) aJ (λ_ _=>rfl)) aB)))) aB)) gH)) (aY (i:=5) sc_l_flags.nd rfl (Or.inl rfl)) (@aE _ _ _ _ _ (@aP _ _ 2 _ _ _ _ sc_l_flags.nd (by rfl) (by exact (Or.inl rfl)) (aR eJ (aR lX (aR bS (mv 2) aJ) aJ) aJ) (by rfl) (by walk_at "o")) (@aI _ _ _ (iI (Room.u1 hr) (mv 4) (mv 5) (aR eJ (aR iX (mv 2) aJ) (aR bS (mv 3) aJ)) rfl)))) (@aI _ _ _ (aV (mv 4))))))),?_⟩
 obtain ⟨qs,b1,b2,b3⟩:=id hbk;have hql:(qs.map V.ref).length=bk.length:=by rw [Ab,b2]
 walk_at "go";refine ⟨c,90,rfl,by omega,by omega,λn hn=>?_⟩
 have y0:=De n (show (8:Int)≠0 by decide)
 have y1:=Dq n (show (0:Int)<8 by decide)
 walk_at "go";generalize n % 8=n9 at y0 y1 ⊢;intro pd hpd;have s1:=aG hpd (HO.dK [])
 have e1:(upd H pd (HO.dK [])) pd=some (.dK []):=aD
 generalize upd H pd (HO.dK [])=H1 at s1 e1 ⊢;have rq:=aT (s1 _ _ b1)
 walk_at "go";refine gE (xs:=qs.map V.ref) (λj=>(cws[j]?).map λcw=>V.str (aU (cw++[ckL cw]))) rq (by rw [hql]; exact bG (by omega)) (λj x Hc A B hx sm hA hB=>?_) (λD Hd hD sD hd=>?_)
 . rw [Af] at hx;obtain ⟨p,ep,rfl⟩:=Cs.mp hx;have hjb:j<bk.length:=by rw [<-b2]; exact (Ad.mp ep).1
   have ec:cws[j]?=some (cws[j]'(by rw [hcw.1]; exact hjb)):=Aa _
   obtain ⟨hw,hc1,hc6,hcL⟩:=hcw.2 j _ _ (Aa hjb) ec;have tp:=sm _ _ (s1 _ _ (b3 j p _ ep (Aa hjb)))
   rw [hw] at tp;walk_at "go";refine ⟨Wk.set rfl (Wk.refl _),?_⟩;walk_at "go";refine dS tp (v:=.str (aU (cws[j]'(by rw [hcw.1]; exact hjb)))) (bJ (j:=0) rfl) ?_
   walk_at "go";exact ⟨_,rfl,hc1,hc6,hcL,λH' s' _ _=>hA _ (by rw [ec]; rfl) H' s'⟩
 rw [hql,<-hcw.1,dP (λcw=>V.str (aU (cw++[ckL cw]))),show cws.map (λcw=>V.str (aU (cw++[ckL cw])))=((cws.map λcw=>cw++[ckL cw]).map aU).map V.str by rw [Cc,Cc]; rfl] at hd
 have h7:∀ c∈cws.map (λcw=>cw++[ckL cw]),c.length<=7:=λc hc=>by
   obtain ⟨cw,hm,rfl⟩:=Be.mp hc;obtain ⟨j,hj⟩:=Fs.mp hm;have hjl:=(Ad.mp hj).1
   have:=(hcw.2 j _ _ (Aa (by rw [<-hcw.1]; exact hjl)) hj).2.2.1
   rw [Ag];show _+1<=7
   omega
 have h8:(cws.map (λcw=>cw++[ckL cw])).length<=8:=by rw [Ab,hcw.1]; exact h8
 generalize cws.map (λcw=>cw++[ckL cw])=cws at hd h7 h8;have hb1:=aT hd
 have e1:=sD _ _ e1
 have s1:=s1.trans sD
 have hw7:∀ z∈cws.map aU,z.length<=7:=λz hz=>by
   obtain ⟨c,hc,rfl⟩:=Be.mp hz;rw [cJ];exact h7 c hc
 have hjl:(Txt.join (Str.ofString "") (cws.map aU)).length<=56:=by
   have:=cX0 (sep:=Str.ofString "") (n:=7) (L:=cws.map aU) hw7
   rw [Ab,show (Str.ofString "").length=0 from rfl] at this;omega
 have hsum:((cws.map aU).map (·.length)).sum<=7 * (cws.map aU).length:=by
   generalize cws.map aU=L at hw7;induction L with
   | nil=>exact Ah _
   | cons u v ih=>
     have h1:=hw7 u Am
     have h2:=ih λx hx=>hw7 x (Ak _ hx)
     rw [Au,Cj,Aw];omega
 rw [Ab] at hsum;walk_at "go";refine dZF (ss:=cws.map aU) hb1 (by rw [show (Str.ofString "").length=0 from rfl]; omega) ?_
 have h12:(Str.ofString "1234aw").length=6:=rfl
 walk_at "go";have htl:(Txt.join (Str.ofString "") (cws.map aU)++Str.ofString "1234aw").length<=62:=by rw [Str.length_append]; omega
 generalize Txt.join (Str.ofString "") (cws.map aU)++Str.ofString "1234aw"=zz at htl ⊢;refine aQS (λi σ H'=>∃ (n':Int) (kvs:List (Key×V)) (f:Nat->Option Int) (v5:Option V),σ=[some (.int c),some (.ref b),some (.int n'),some (.int (1+n9)),some (.ref pd),v5]/\0<=n'/\Same H H'/\H' pd=some (.dK kvs)/\Lk kvs f/\kvs.length<=i/\∀ c,0<=aS f c/\aS f c<=9)
   ⟨n,[],_,_,rfl,hn,s1,e1,.nil,Ah _,λc=>⟨Ho _,(by decide:(0:Int)<=9)⟩⟩ ?_ ?_
 . rintro i d σ H2 hd ⟨n',kvs,f,v5,rfl,hn',s2,e2,lk,hkl,hf⟩;have hi':i<62:=by have:=(Ad.mp hd).1; rw [fQ] at this; omega
   have x0:=De ((n'+11) * 69621) (show (2147483647:Int)≠0 by decide)
   walk_at "go";generalize (n'+11) * 69621 % 2147483647=n'' at x0 ⊢;have x1:=De (n'' / 7) (show 1+n9+1≠0 by omega)
   have x2:=Dq (n'' / 7) (show 0<1+n9+1 by omega)
   walk_at "go";refine lK (z:=one d) e2 (bG (by omega)) ?_
   refine ⟨n'',_,_,_,rfl,x0,bI hpd s2,aD,lk.put d _,?_,λc=>?_⟩
   . have:=gA kvs (Sum.inr (one d)) (.int (n'' / 7 % (1+n9+1)))
     omega
   . show 0<=((if c=d then some (n'' / 7 % (1+n9+1)) else f c):Option Int).getD 0/\((if c=d then some (n'' / 7 % (1+n9+1)) else f c):Option Int).getD 0<=9
     by_cases z:c=d
     . rw [if_pos z]; exact ⟨x1,by show n'' / 7 % (1+n9+1)<=9; omega⟩
     . rw [if_neg z]; exact hf c
 . rintro σ H2 ⟨n',kvs,f,v5,rfl,hn',s2,e2,lk,hkl,hf⟩;rw [fQ] at hkl;walk_at "go";exact q pd kvs f H2 hpd s2 e2 lk hf
def uZ (ns:List Int) (lo m:Int) (h:0<=lo) (h2:0<=m):∃ ms:List Int,kY (ns.map V.int) (some lo) (some (lo+m))=ms.map V.int/\ms.length<=m.toNat:=by
 refine ⟨(ns.drop (min lo.toNat ns.length)).take (min (lo+m).toNat ns.length - min lo.toNat ns.length),?_,?_⟩
 . unfold kY;rw [Hm,Gk];show ((ns.map V.int).drop (if lo<0 then (lo+((ns.map V.int).length:Int)).toNat else min lo.toNat (ns.map V.int).length)).take ((if lo+m<0 then (lo+m+((ns.map V.int).length:Int)).toNat else min (lo+m).toNat (ns.map V.int).length) - (if lo<0 then (lo+((ns.map V.int).length:Int)).toNat else min lo.toNat (ns.map V.int).length))=_
   rw [if_neg (by omega),if_neg (by omega),Ab]
 . rw [Bt,Cd]; omega
def qO (K:W.Frag) (C:Addr):Sp:=λvs H Q _=>∃ (a:Addr) (ns:List Int),vs=[.ref a]/\SqL K H a (ns.map V.int)/\ns.length<=63/\
 ∀ (r x dx rb rl rw b' s0 st hg dd:Addr) (bk:List (Str×Str)) (cws:Q5) (f:Nat->Option Int) (m:Nat) (H':Hp),Same H H'->H' r=some (.lst [.ref x,.ref rb,.ref rl,.ref rw])->BkAt H' rb bk->tY bk cws->cws.Nodup->1<=bk.length->bk.length<=8->1<=m->m<=6->
   H' x=some (.ins C dx (twF b' m s0 st hg dd))->BkAt H' b' bk->TwSt H' hg st (List.replicate m none) f->H' dd=some (.lst [])->hg≠dd->b'≠dd->H' rw=some (.lst (List.replicate m V.non))->rw≠dd->hg≠rw->Q (.ref r) H'
def sc_l_begun:FnScope ["_law_script", "_law_book_here", "_law_totals", "_law_many"] ["_law_script"] (aF iC):=by walk_at "sc"
def aXY {Zt Zz Zu Zx Z0 Zw Zy Zv:Addr} {f:Addr} {fd:FuncData} (F:Fun K "_law_begun" "_law_begun" iC f fd) (G:Gs K mg w Zt Zz Zu Zx Z0 Zw Zy Zv) (c_l_book:Cal P w K mg base 2 "_law_book" ["_law_cells"] uI) (c_l_flags:Cal P w K mg base 2 "_law_flags" ["_law_cell", "_law_book_here"] rH) (c_l_cell_at:Cal P w K mg base 1 "_law_cell_at" ["_law_script", "_law_k"] (oK K)) (c_Tower_init:dX3 CX0 P w K mg base 2 Z0 ["self", "book", "locker", "many"] (iV Z0)):FnOk P w K mg base CX0 4 f fd ["_law_script"] (qO K Z0):=by
 refine F.ok sc_l_begun (λvs H Q E h=>?_) (λcdv A outer s H vs Q E hr h=>?_)
 . obtain ⟨a,ns,rfl,_⟩:=h; rfl
 obtain ⟨a,ns,rfl,hS,h63,q⟩:=h;refine ⟨_,(@aE _ _ _ _ _ (@aP _ _ 1 _ _ _ _ sc_l_begun.nd (by rfl) (by exact (Or.inl rfl)) (aW c_l_book hr (by decide) rfl (aA (jI sl_list (mv 0) (gS aJ) (gS aJ)) aB)) (by rfl) (by walk_at "o")) (@aE _ _ _ _ _ (@aP _ _ 2 _ _ _ _ sc_l_begun.nd (by rfl) (by exact (Or.inl rfl)) (aW c_l_flags hr (by decide) rfl (aA (aW c_l_cell_at hr (by decide) rfl (aA (mv 0) (aA aJ aB))) (aA (mv 1) aB))) (by rfl) (by walk_at "o")) (@aE _ _ _ _ _ (@aP _ _ 3 _ _ _ _ sc_l_begun.nd (by rfl) (by exact (Or.inl rfl)) (aR bS aJ (aR eJ (aW c_l_cell_at hr (by decide) rfl (aA (mv 0) (aA aJ aB))) aJ)) (by rfl) (by walk_at "o")) (@aI _ _ _ (aV (@bV _ _ _ _ (aA (dJ3 c_Tower_init hr (by decide) rfl G.c_Tower (aA (mv 1) (aA (mv 2) (aA (mv 3) aB)))) (aA (mv 1) (aA (mv 2) (aA (aR bJ1 (bV (aA cW aB)) (mv 3)) aB)))))))))),?_⟩
 walk_at "go";refine dQZ hS λrc hrc=>?_;obtain ⟨ms,em,hml⟩:=uZ ns 2 7 (by decide) (by decide)
 rw [show (2:Int)+7=9 from rfl] at em;rw [em];have k1:=aG hrc (.lst (ms.map V.int))
 have e1:rdL (upd H rc (.lst (ms.map V.int))) rc=some (ms.map V.int):=dG
 generalize upd H rc (.lst (ms.map V.int))=H1 at k1 e1 ⊢;walk_at "go";refine ⟨rc,ms,rfl,e1,hml,λrb bk cws H2 hrb s2 hbk hcw hnd hb1 hb8=>?_⟩;have s02:=k1.trans s2
 walk_at "go";refine ⟨a,ns,1,rfl,s02.seq hS,by omega,λn1=>?_⟩
 walk_at "go";refine ⟨n1,rb,bk,cws,rfl,hbk,hcw,hb8,λrl kvs f H3 hrl s3 el lk hf=>?_⟩;have s03:=s02.trans s3
 walk_at "go";refine ⟨a,ns,0,rfl,s03.seq hS,by omega,λn0=>?_⟩
 have y0:=De n0 (show (6:Int)≠0 by decide)
 have y1:=Dq n0 (show (0:Int)<6 by decide)
 obtain ⟨m,em,m1,m6⟩:∃ m:Nat,1+n0 % 6=(m:Int)/\1<=m/\m<=6:=⟨(1+n0 % 6).toNat,by omega,by omega,by omega⟩
 walk_at "go";rw [em];walk_at "go";intro x dx hx hdx hne;obtain ⟨qs,b1,b2,b3⟩:=id hbk;have hkk:=(aG hdx (.own x)).trans (aG (show (upd H3 dx (.own x)) x=none by rw [aH (Ne.symm hne)]; exact hx) (.ins Z0 dx []))
 refine ⟨x,rb,rl,dx,qs.map V.ref,kvs,f,m,rfl,aD,aT (hkk _ _ (s3 _ _ b1)),.inl (hkk _ _ el),lk,m6,λb' s0 st hg dd H4 hb' hhg hdd nhd nbd sE x4 e4 d04 d14 h4 f4=>⟨rfl,?_⟩⟩;have s34:Same H3 H4:=λb o e=>sE b o (λz=>by rw [Aj.mp z,hx] at e; cases e) (hkk _ _ e)
 have s04:=s03.trans s34
 walk_at "go";refine ⟨by show 1<=sizeLine; decide,λp0 hp0=>?_⟩
 have k5:=aG hp0 (.lst [V.non])
 have e5:(upd H4 p0 (.lst [V.non])) p0=some (.lst [V.non]):=aD
 generalize upd H4 p0 (.lst [V.non])=H5 at k5 e5 ⊢;walk_at "go";refine ⟨p0,_,[V.non],rfl,rfl,e5,by omega,by omega,by show 1 * ((m:Int)).toNat<=sizeLine; exact bN (by omega),λrw' hrw=>?_⟩
 rw [aJQ];have k6:=k5.trans (aG hrw (.lst (List.replicate m V.non)))
 have e6:(upd H5 rw' (.lst (List.replicate m V.non))) rw'=some (.lst (List.replicate m V.non)):=aD
 have nrw:rw'≠dd:=λz=>by rw [z,k5 _ _ f4] at hrw; cases hrw
 have nhw:hg≠rw':=λz=>by rw [<-z,k5 _ _ h4] at hrw; cases hrw
 generalize upd H5 rw' (.lst (List.replicate m V.non))=H6 at k6 e6 ⊢;walk_at "go";refine ⟨by show 4<=sizeLine; decide,λr hr=>?_⟩
 have k7:=aG hr (.lst [.ref x,.ref rb,.ref rl,.ref rw'])
 have k47:=k6.trans k7
 have s07:=s04.trans k47
 have bkk:∀ (y:Addr),H4 y=some (.lst (qs.map V.ref))->BkAt (upd H6 r (.lst [.ref x,.ref rb,.ref rl,.ref rw'])) y bk:=λy hy=>⟨qs,k47 _ _ hy,b2,λj p b hp hb=>k47 _ _ (s34 _ _ (s3 _ _ (b3 j p b hp hb)))⟩
 refine q r x dx rb rl rw' b' s0 st hg dd bk cws (bM (aS f)) m _ s07 aD (bkk rb (s34 _ _ (s3 _ _ b1))) hcw hnd hb1 hb8 m1 m6 (k47 _ _ x4) (bkk b' e4) ⟨⟨_,k47 _ _ h4,?_⟩,?_,⟨_,k47 _ _ d14,gY _⟩,pD _⟩ (k47 _ _ f4) nhd nbd (k7 _ _ e6) nrw (λz=>nhw z)
 . refine ⟨by rw [Fq,Fq],λj v h hv hh=>?_⟩
   rw [List.getElem?_replicate] at hv hh;split at hv
   . rename_i hj
     rw [if_pos hj] at hh;cases hv;cases hh;rfl
   . cases hv
 . intro cs hc;cases (List.mem_replicate.mp hc).2
def wdV:Option (List Nat)->V
 | none=>.non
 | some cs=>.str (aU cs)
def nmV (cws:List (List Nat)):Option (List Nat)->V
 | none=>.non
 | some cs=>match (bX cws).findIdx? (λy=>y == aU cs) with | some j=>.int (j:Int) | none=>.non
def zJ {cws:Q5} {cs:List Nat} (e:(bX cws).findIdx? (λy=>y == aU cs)=none):nmV cws (some cs)=.non:=by
 show (match (bX cws).findIdx? (λy=>y == aU cs) with | some j=>V.int (j:Int) | none=>.non)=_
 rw [e]
def zY {cws:Q5} {cs:List Nat} {j:Nat} (e:(bX cws).findIdx? (λy=>y == aU cs)=some j):nmV cws (some cs)=.int (j:Int):=by
 show (match (bX cws).findIdx? (λy=>y == aU cs) with | some j=>V.int (j:Int) | none=>.non)=_
 rw [e]
def pU:Sp:=λvs H Q _=>∃ (b:Addr) (o:Option (List Nat)) (bk:List (Str×Str)) (cws:List (List Nat)),vs=[.ref b,wdV o]/\BkAt H b bk/\tY bk cws/\bk.length<=8/\∀ H',Same H H'->Q (nmV cws o) H'
def sc_l_number:FnScope ["_law_book_here", "_law_word_here", "_law_number_here"] ["_law_book_here", "_law_word_here"] (aF fU):=by walk_at "sc"
def yS {Zt Zz Zu Zx Z0 Zw Zy Zv:Addr} {f:Addr} {fd:FuncData} (F:Fun K "_law_number" "_law_number" fU f fd) (G:Gs K mg w Zt Zz Zu Zx Z0 Zw Zy Zv) (c_l_checked:Cal P w K mg base 1 "_law_checked" ["_law_word_here"] gQ):FnOk P w K mg base CX0 2 f fd ["_law_book_here", "_law_word_here"] pU:=by
 refine F.ok sc_l_number (λvs H Q E h=>?_) (λcdv A outer s H vs Q E hr h=>?_)
 . obtain ⟨b,o,bk,cws,rfl,_⟩:=h; rfl
 obtain ⟨b,o,bk,cws,rfl,hbk,hcw,h8,q⟩:=h;refine ⟨_,(@aE _ _ _ _ _ (cR Br rfl (lO rfl G.b_range (aA (bC eV rfl G.b_len cM (aA (mv 0) aB)) aB)) (aY (i:=2) sc_l_number.nd rfl (Or.inl rfl)) (@aI _ _ _ (cG (PW.pt (qV (bA sA (mv 1) cW (bE _)) (oJ (bA mO (aW c_l_checked hr (by decide) rfl (aA (bK cF (bK cF (mv 0) (mv 2) (λ_ _=>rfl)) aJ (λ_ _=>rfl)) aB)) (mv 1) (bE _))))) (@aI _ _ _ (aV (mv 2))) bH))) (@aI _ _ _ (aV cW))),?_⟩
 obtain ⟨qs,b1,b2,b3⟩:=id hbk;have hql:(qs.map V.ref).length=bk.length:=by rw [Ab,b2]
 have rq:=aT b1
 have hsl:(bX cws).length=bk.length:=by unfold bX; rw [Ab,hcw.1]
 walk_at "go";rw [hql];refine ⟨⟨by omega,by omega⟩,?_⟩
 rw [show ((bk.length:Nat):Int).toNat=bk.length from Fy _];refine rP (λi σ H'=>∃ v2,σ=[some (.ref b),some (wdV o),v2]/\Same H H'/\∀ cs,o=some cs->∀ j y,j<i->(bX cws)[j]?=some y->y≠aU cs) ⟨_,rfl,Same.refl _,λcs _ j y hj=>absurd hj (Fm _)⟩ ?_ ?_
 . rintro i σ H1 hi ⟨v2,rfl,s1,hno⟩;rw [show (0:Int)+(i:Int)=(i:Int) by omega]
   cases o with
   | none=>
     walk_at "go";rw [show (!decide (wdV none=V.non))=false by rw [show wdV none=V.non from rfl,An rfl]; rfl]
     walk_at "go";exact ⟨_,rfl,s1,λcs e=>nomatch e⟩
   | some cs=>
     have hib:i<bk.length:=hi
     have ec:cws[i]?=some (cws[i]'(by rw [hcw.1]; exact hib)):=Aa _
     obtain ⟨hw,hc1,hc6,hcL⟩:=hcw.2 i _ _ (Aa hib) ec;have ep:qs[i]?=some (qs[i]'(by omega)):=Aa _
     have tp:=s1 _ _ (b3 i _ _ ep (Aa hib))
     rw [hw] at tp;have esp:(bX cws)[i]?=some (aU (cws[i]'(by rw [hcw.1]; exact hib)++[ckL (cws[i]'(by rw [hcw.1]; exact hib))])):=by unfold bX; rw [Af,ec]; rfl
     generalize cws[i]'(by rw [hcw.1]; exact hib)=cw at *
     walk_at "go";rw [show (!decide (wdV (some cs)=V.non))=true by rw [Ax λz=>nomatch z]; rfl]
     walk_at "go";refine fO (aK s1 rq) (v:=.ref (qs[i]'(by omega))) (bJ (by rw [Af,ep]; rfl)) ?_
     walk_at "go";refine dS tp (v:=.str (aU cw)) (bJ (j:=0) rfl) ?_;walk_at "go";refine ⟨cw,rfl,hc1,hc6,hcL,λH2 s2 _ _=>?_⟩;walk_at "go";change mEq (V.str (aU (cw++[ckL cw]))) (V.str (aU cs)) H2 _
     walk_at "go";refine gJ (λhg=>?_) (λhg=>?_)
     . have he:=Az hg
       have hf:(bX cws).findIdx? (λy=>y == aU cs)=some i:=by
         obtain ⟨i1,i2⟩:=Ad.mp esp;refine List.findIdx?_eq_some_iff_getElem.mpr ⟨i1,by rw [i2,he]; exact Fe _,λj hj=>?_⟩
         have:=hno cs rfl j _ hj (Aa (by omega))
         simp [this]
       have r:=q H2 (s1.trans s2)
       rw [zY hf] at r;walk_at "go";exact r
     . have he:aU (cw++[ckL cw])≠aU cs:=λz=>hg (An z)
       walk_at "go";refine ⟨_,rfl,s1.trans s2,λcs' e j y hj hy=>?_⟩;cases e;by_cases ej:j=i
       . subst ej;rw [esp] at hy;cases hy;exact he
       . exact hno cs rfl j y (by omega) hy
 . rintro σ H1 ⟨v2,rfl,s1,hno⟩;walk_at "go";have r:=q H1 s1
   cases o with
   | none=>exact r
   | some cs=>
     have e:(bX cws).findIdx? (λy=>y == aU cs)=none:=List.findIdx?_eq_none_iff.mpr λy hy=>by
       obtain ⟨j,hj⟩:=Fs.mp hy;have hjl:=(Ad.mp hj).1
       exact Cp.mpr (hno cs rfl j y (by omega) hj)
     rw [zJ e] at r;exact r
def dJS (x:V):Prop:=x=.non\/∃ j:Nat,x=.int (j:Int)
def aZM:Sp:=λvs H Q _=>∃ (a b:Addr) (xs:List V),vs=[.ref a,.ref b]/\H a=some (.lst xs)/\rdL H b=some xs/\(∀ x∈xs,dJS x)/\xs.length<=1000/\∀ H',Same H H'->Q (.bl true) H'
def sc_l_is:FnScope ["_law_found", "_law_due", "_law_one", "_law_other"] ["_law_found", "_law_due"] (aF oZ):=by walk_at "sc"
def dQK {Zt Zz Zu Zx Z0 Zw Zy Zv:Addr} {f:Addr} {fd:FuncData} (F:Fun K "_law_is" "_law_is" oZ f fd) (G:Gs K mg w Zt Zz Zu Zx Z0 Zw Zy Zv)  : FnOk P w K mg base CX0 1 f fd ["_law_found", "_law_due"] aZM:=by
 refine F.ok sc_l_is (λvs H Q E h=>?_) (λcdv A outer s H vs Q E hr h=>?_)
 . obtain ⟨a,b,xs,rfl,_⟩:=h; rfl
 obtain ⟨a,b,xs,rfl,ha,hb,hx,hl,q⟩:=h;refine ⟨_,(@aE _ _ _ _ _ (cG (PW.pt (pO (nA (fH (bC bZZ rfl G.b_isinstance iW (aA (mv 0) (aA (aQ5 rfl G.b_list fY) aB))))) (mP (bA cJS (bC eV rfl G.b_len cM (aA (mv 0) aB)) (bC eV rfl G.b_len cM (aA (mv 1) aB)) (bE _))))) (@aI _ _ _ (aV mG)) bH) (@aE _ _ _ _ _ (cR Br rfl (bJO rfl G.b_zip (aA (mv 0) (aA (mv 1) aB))) (fL (K:=K) (i:=2) (j:=3) (by rfl) (by rfl) sc_l_is.nd (by rfl) (by exact (Or.inl rfl)) (by exact Or.inl rfl) (by rfl) (by exact (Or.inl rfl)) (by exact Or.inl rfl)) (@aI _ _ _ (cG (PW.pt (pO (fH (bC bZZ rfl G.b_isinstance iW (aA (mv 2) (aA (aQ5 rfl G.b_bool cZR) aB)))) (pO (PW.pt (qV (bA sA (mv 2) cW (bE _)) (oJ (nA (fH (bC bZZ rfl G.b_isinstance iW (aA (mv 2) (aA (aQ5 rfl G.b_int qN) aB)))))))) (mP (bA cJS (mv 2) (mv 3) (bE _)))))) (@aI _ _ _ (aV mG)) bH))) (@aI _ _ _ (aV mG)))),?_⟩
 have ra:=aT ha
 walk_at "go";rw [show (!decide (((xs.length:Nat):Int)=((xs.length:Nat):Int)))=false by rw [An rfl]; rfl]
 walk_at "go";refine cXQ (xs:=xs) (ys:=xs) (λi σ H'=>∃ v2 v3,σ=[some (.ref a),some (.ref b),v2,v3]/\Same H H') ⟨_,_,rfl,Same.refl _⟩ (λi σ H' _ _ ⟨_,_,_,e⟩=>⟨aK e ra,aK e hb⟩) ?_ ?_
 . rintro i x y σ H1 pt hx1 hy1 ⟨v2,v3,rfl,s1⟩ hpt;rw [hx1] at hy1;cases hy1;have k2:=aG hpt (.tup [x,x])
   have t2:(upd H1 pt (.tup [x,x])) pt=some (.tup [x,x]):=aD
   generalize upd H1 pt (.tup [x,x])=H2 at k2 t2 ⊢;have tt2:=cU t2
   rcases hx x (Al hx1) with rfl | ⟨j,rfl⟩
   . walk_at "go";rw [show (!decide (V.non=V.non))=false by rw [An rfl]; rfl]
     walk_at "go";refine ⟨rfl,?_⟩;rw [show (!decide (V.non=V.non))=false by rw [An rfl]; rfl]
     walk_at "go";exact ⟨_,_,rfl,s1.trans k2⟩
   . walk_at "go";rw [show (!decide (V.int (j:Int)=V.non))=true by rw [Ax λz=>nomatch z]; rfl]
     walk_at "go";rw [show (!decide ((j:Int)=(j:Int)))=false by rw [An rfl]; rfl]
     walk_at "go";exact ⟨_,_,rfl,s1.trans k2⟩
 . rintro σ H1 ⟨v2,v3,rfl,s1⟩;walk_at "go";exact q H1 s1
def Two (ws:List (Option (List Nat))):Prop:=∀ cs,some cs∈ws->2<=cs.length
def WOk:Option (List Nat)->Prop
 | none=>True
 | some cw=>cw.length<=7/\(∀ d∈cw,aQ d)/\rN cw=true
def cX6 {cw:List Nat} (h:rN cw=true):2<=cw.length:=by
 unfold rN at h;rw [Ea,Bj] at h;omega
def yF {cs:List Nat} (h1:1<=cs.length) (h6:cs.length<=6) (hL:∀ d∈cs,aQ d) (hd:aQ (ckL cs)) (h:gU (cs++[ckL cs])=true):WOk (some (cs++[ckL cs])):=by
 refine ⟨by rw [Ag]; show _+1<=_; omega,λd hd'=>?_,?_⟩
 . rcases Bl.mp hd' with z | z
   . exact hL d z
   . rw [Aj.mp z]; exact hd
 . unfold rN;rw [h,Bool.and_true,Bj,Ag];show 1<_+1
   omega
def dJD (cws:Q5) (o:Option (List Nat)):rdN cws o=nmV cws (o.map rdC):=by
 cases o with
 | none=>rfl
 | some cs=>
   have e:kM (cs.map one)=aU (rdC cs):=by
     unfold kM;rw [Cc];congr 2
     exact (Cw λc _=>rfl).trans (List.map_id cs)
   show (match (bX cws).findIdx? (λy=>y == kM (cs.map one)) with | some j=>V.int (j:Int) | none=>.non)=_
   rw [e];rfl
def aJS (cws:Q5) (hs:Q3):hs.map (rdN cws)=(rdW hs).map (nmV cws):=by
 unfold rdW;rw [Cc];exact Cw λo _=>dJD cws o
def dJA (cws:Q5) (o:Option (List Nat)):dJS (nmV cws o):=by
 cases o with
 | none=>exact .inl rfl
 | some cs=>
   cases e:(bX cws).findIdx? (λy=>y == aU cs) with
   | none=>rw [zJ e]; exact .inl rfl
   | some j=>rw [zY e]; exact .inr ⟨j,rfl⟩
def qC (hs:Q3):(rdW hs).length=hs.length:=by unfold rdW; rw [Ab]
def dJ2 {H:Hp} {us:List V} {hs:Q3} (hat:HalsAt H us hs) (ok:gN hs) {j:Nat} {p:Addr} {h:Option (List Nat)} (hv:us[j]?=some (V.ref p)) (hh:hs[j]?=some h):∃ c cs,h=some (c::cs)/\H p=some (.lst (V.str (one c)::(cs.map one).map V.str)):=by
 have r:=hat.val j _ _ hv hh
 cases h with
 | none=>cases r
 | some cs=>
   obtain ⟨q,e,hq⟩:=r;cases e;have:=(fS (ok cs (Al hh))).1
   cases cs with
   | nil=>exact absurd this (by decide)
   | cons c cs=>exact ⟨c,cs,rfl,hq⟩
def TwSt.keepE {l:List Addr} {H H':Hp} {B R:Addr} {hs:Q3} {f:Nat->Option Int} (tw:TwSt H B R hs f) (s:SameE l H H') (nB:B ∉ l) (nR:∀ kvs,H R=some (.dK kvs)->R ∉ l) (nP:∀ p c cs,H p=some (.lst (V.str (one c)::cs))->p ∉ l):TwSt H' B R hs f:=by
 obtain ⟨⟨us,u1,u2⟩,ok,⟨kvs,v1,v2⟩,ps⟩:=tw;refine ⟨⟨us,s _ _ nB u1,u2.len,λj v h hv hh=>?_⟩,ok,⟨kvs,s _ _ (nR _ v1) v1,v2⟩,ps⟩;have r:=u2.val j v h hv hh
 cases h with
 | none=>exact r
 | some cs=>
   obtain ⟨p,rfl,hp⟩:=r;obtain ⟨c,cs',e,hq⟩:=dJ2 u2 ok hv hh;exact ⟨p,rfl,s _ _ (nP p c _ hq) hp⟩
def bZW {ws:Q3} (t:Two ws) {c:Nat} {cs:List V}:ws.map wdV≠V.str (one c)::cs:=by
 intro z;cases ws with
 | nil=>cases z
 | cons w ws=>
   have h1:wdV w=V.str (one c):=by injection z
   cases w with
   | none=>cases h1
   | some cw=>
     have h2:aU cw=one c:=by injection h1
     have h3:=Dt Str.length h2
     rw [cJ] at h3;have:=t cw (Am ..)
     have h4:(one c).length=1:=rfl
     omega
def BkAt.keepE {l:List Addr} {H H':Hp} {r:Addr} {bk:List (Str×Str)} (h:BkAt H r bk) (s:SameE l H H') (nr:r ∉ l) (nt:∀ p xs,H p=some (.tup xs)->p ∉ l):BkAt H' r bk:=by
 obtain ⟨ps,h1,h2,h3⟩:=h;exact ⟨ps,s _ _ nr h1,h2,λj p b hp hb=>s _ _ (nt p _ (h3 j p b hp hb)) (h3 j p b hp hb)⟩
def BkAt.keepS {H H':Hp} {r:Addr} {bk:List (Str×Str)} (h:BkAt H r bk) (s:Same H H'):BkAt H' r bk:=by
 obtain ⟨ps,h1,h2,h3⟩:=h;exact ⟨ps,s _ _ h1,h2,λj p b hp hb=>s _ _ (h3 j p b hp hb)⟩
def no3 {x y z p:Addr} (h1:p≠x) (h2:p≠y) (h3:p≠z):p ∉ [x,y,z]:=λe=>by
 simp only [List.mem_cons,List.not_mem_nil,or_false] at e;rcases e with e | e | e
 . exact h1 e
 . exact h2 e
 . exact h3 e
def cX2 {H:Hp} {x dd rw' C dx p:Addr} {fs:List (Str×V)} {ys zs xs:List V} (ex:H x=some (.ins C dx fs)) (ed:H dd=some (.lst ys)) (er:H rw'=some (.lst zs)) (e:H p=some (.tup xs)):p ∉ [x,dd,rw'] :=
 no3 (λz=>by rw [z,ex] at e; cases e) (λz=>by rw [z,ed] at e; cases e) (λz=>by rw [z,er] at e; cases e)
def bZI {H:Hp} {x dd rw' C dx p:Addr} {fs:List (Str×V)} {m:Nat} {bk:List (Str×Str)} (ex:H x=some (.ins C dx fs)) (ed:H dd=some (.lst [])) (er:H rw'=some (.lst (List.replicate m V.non))) (hb1:1<=bk.length) (m1:1<=m) (h:BkAt H p bk):p ∉ [x,dd,rw']:=by
 obtain ⟨qs,h1,h2,_⟩:=h;refine no3 (λz=>by rw [z,ex] at h1; cases h1) (λz=>?_) (λz=>?_)
 . rw [z,ed] at h1;have e':([]:List V)=qs.map V.ref:=by injection Bh h1
   cases qs with
   | nil=>rw [<-h2] at hb1; exact absurd hb1 (by decide)
   | cons _ _=>cases e'
 . rw [z,er] at h1;have e':List.replicate m V.non=qs.map V.ref:=by injection Bh h1
   cases m with
   | zero=>omega
   | succ m=>
     cases qs with
     | nil=>cases e'
     | cons _ _=>injection e' with e1 _; cases e1
def bJ0 {n:Int} {m:Nat} (h:0<m):∃ k:Nat,n % ((m:Nat):Int)=(k:Int)/\k<m:=by
 have y0:=De n (show ((m:Nat):Int)≠0 by omega)
 have y1:=Dq n (show (0:Int)<((m:Nat):Int) by omega)
 exact ⟨(n % ((m:Nat):Int)).toNat,by omega,by omega⟩
def TwSt.keepS {H H':Hp} {B R:Addr} {hs:Q3} {f:Nat->Option Int} (tw:TwSt H B R hs f) (k:Same H H'):TwSt H' B R hs f:=by
 obtain ⟨⟨us,u1,u2⟩,ok,⟨kvs,v1,v2⟩,ps⟩:=tw;exact ⟨⟨us,k _ _ u1,u2.keep k⟩,ok,⟨kvs,k _ _ v1,v2⟩,ps⟩
def eQY {x y z p:Addr} (h:p∈[x,y]):p∈[x,y,z]:=by
 rcases Ay.mp h with e | e
 . rw [e]; exact Am ..
 . rw [Aj.mp e]; exact Ak _ (Am ..)
def no2 {x y p:Addr} (h1:p≠x) (h2:p≠y):p ∉ [x,y]:=λe=>by
 simp only [List.mem_cons,List.not_mem_nil,or_false] at e;rcases e with e | e
 . exact h1 e
 . exact h2 e
def cX3 {ws:Q3} {o:Option (List Nat)} {n:Nat} (t:Two ws) (w:WOk o):Two (ws.set n o):=λcs hc=>by
 rcases Dy hc with z | z
 . exact t cs z
 . subst z;exact cX6 w.2.2
def bJF {α:Type} {l:List α} {n:Nat} {y:α} (h:l[n]?=some y):l.set n y=l:=by
 refine List.ext_getElem? λk=>?_;rw [Hb];by_cases e:n=k
 . subst e;rw [if_pos rfl,if_pos (Ad.mp h).1,h]
 . rw [if_neg e]
def cXZ {C aL x b' s0 st hg dd dp dx:Addr} {m n:Nat} {hs:Q3} {f:Nat->Option Int} {dps:List Addr} {o:Option (List Nat)} {H:Hp} {Q:VK} {E:XK} (ex:H x=some (.ins C dx (twF b' m s0 st hg dd))) (tw:TwSt H hg st hs f) (hsl:hs.length=m) (hm:m<=6) (hn:n<m) (hD:wW H dp n o) (hdd:H dd=some (.lst (dps.map V.ref))) (hdl:dps.length<=1000)
   (q:∀ hs' f' st' hg' H2,SameE [x,dd] H H2->H2 x=some (.ins C dx (twF b' m s0 st' hg' dd))->H2 dd=some (.lst ((dps++[dp]).map V.ref))->hs'.length=m->rdW hs'=(rdW hs).set n o->H hg'=none->TwSt H2 hg' st' hs' f'->Q .non H2)
   (qe:∀ dy H1,Same H H1->E (.ref aL) (some dy) H1):gB C aL [.ref x,.ref dp] H Q E:=by
 obtain ⟨z,zs,e1,e2⟩:∃ z zs,H dp=some (.tup (.str z::zs))/\things.lookup z=some (((V.str z::zs).length:Nat):Int):=by
   cases o with
   | none=>exact ⟨_,_,hD,rfl⟩
   | some cw=>exact ⟨_,_,hD.1,rfl⟩
 refine ⟨x,b',s0,st,hg,dd,dp,dx,m,z,zs,_,rfl,ex,e1,e2,hdd,by rw [Ab]; exact hdl,λp0 hp0=>?_⟩
 have k1:=aG hp0 (.tup [])
 have tw1:TwSt (upd H p0 (.tup [])) hg st hs f:=by
   obtain ⟨⟨us,u1,u2⟩,ok,⟨kvs,v1,v2⟩,ps⟩:=tw;exact ⟨⟨us,k1 _ _ u1,u2.keep k1⟩,ok,⟨kvs,k1 _ _ v1,v2⟩,ps⟩
 have hD1:wW (upd H p0 (.tup [])) dp n o:=by
   cases o with
   | none=>exact k1 _ _ hD
   | some cw=>exact ⟨k1 _ _ hD.1,hD.2⟩
 refine ⟨b',hg,st,dp,hs,f,n,o,rfl,tw1,by omega,by omega,hD1,λt B' R' hs' f' H1 s1 _ et hB hl hr tw'=>?_,λdy H1 s1=>qe dy H1 (k1.trans s1)⟩
 have s01:=k1.trans s1
 have ex1:=s01 _ _ ex
 have ed1:=s01 _ _ hdd
 have hBH:=none_of k1 hB
 have ndx:dd≠x:=λz=>by rw [z,ex1] at ed1; cases ed1
 refine ⟨t,B',R',rfl,et,ex1,ed1,(λys z=>by rw [ex1] at z; cases z),?_⟩
 rw [show dps.map V.ref++[V.ref dp]=(dps++[dp]).map V.ref by rw [Ao]; rfl]
 have sE:SameE [x,dd] H1 (upd (upd H1 x (.ins C dx (twF b' m s0 R' B' dd))) dd (.lst ((dps++[dp]).map V.ref))):=λb o nb e=>by
   rw [aH (λz=>nb (by rw [z]; exact Ak _ (Am ..))),aH (λz=>nb (by rw [z]; exact Am ..))]
   exact e
 have no:∀ p,p≠x->p≠dd->p ∉ [x,dd]:=λp h1 h2 z=>by
   simp only [List.mem_cons,List.not_mem_nil,or_false] at z;rcases z with z | z
   . exact h1 z
   . exact h2 z
 obtain ⟨us,u1,u2⟩:=id tw'.hal;refine q hs' f' R' B' _ ((SameE.of s01).trans sE) (by rw [aH (Ne.symm ndx)]; exact aD) aD (by rw [hl,hsl]) hr hBH (tw'.keepE sE (no _ (λz=>by rw [z,ex1] at u1; cases u1) (λz=>by rw [z,hdd] at hBH; cases hBH)) (λkvs e=>no _ (λz=>by rw [z,ex1] at e; cases e) (λz=>by rw [z,ed1] at e; cases e)) (λp c cs e=>no _ (λz=>by rw [z,ex1] at e; cases e) (λz=>?_)))
 rw [z,ed1] at e;have e':dps.map V.ref=V.str (one c)::cs:=by injection Bh e
 cases dps with
 | nil=>cases e'
 | cons d ds=>injection e' with e1 _; cases e1
def sc_law:FnScope ["_law_script", "_law_tower", "_law_book_here", "_law_totals", "_law_words", "_law_k", "_law_cell", "_law_number_here", "_law_at", "_law_word_here", "_law_found", "_law_due"] ["_law_script"] (aF mK):=by walk_at "sc"
def dZK {Zt Zz Zu Zx Z0 Zw Zy Zv:Addr} {Pt:Addr} {f:Addr} {fd:FuncData} (F:Fun K "law" "law" mK f fd) (G:Gs K mg w Zt Zz Zu Zx Z0 Zw Zy Zv) (c_l_begun:Cal P w K mg base 4 "_law_begun" ["_law_script"] (qO K Z0)) (c_l_mixed:Cal P w K mg base 1 "_law_mixed" ["_law_cell", "_law_k"] jY) (c_Tower_read:bQK CX0 P w K mg base 6 Z0 "read" ["self"] (iQ Z0)) (c_l_checked:Cal P w K mg base 1 "_law_checked" ["_law_word_here"] gQ) (c_l_number:Cal P w K mg base 2 "_law_number" ["_law_book_here", "_law_word_here"] pU) (c_l_is:Cal P w K mg base 1 "_law_is" ["_law_found", "_law_due"] aZM) (c_l_word:Cal P w K mg base 1 "_law_word" ["_law_number_here", "_law_most"] pC) (c_Tower_do:bQK (CXr P w) P w K mg base 15 Z0 "do" ["self", "deed"] (gB Z0 Zt)):FnOk P w K mg base CX0 17 f fd ["_law_script"] (wF K Pt):=by
 refine F.ok sc_law (λvs H Q E h=>?_) (λcdv A outer s H vs Q E hr h=>?_)
 . obtain ⟨a,ns,rfl,_⟩:=h; rfl
 obtain ⟨a,ns,rfl,hS,h63,hP,q⟩:=h;refine ⟨_,(@aE _ _ _ _ _ (wY (aW c_l_begun hr (by decide) rfl (aA (mv 0) aB)) (dZA rfl (jJ (aY (i:=1) sc_law.nd rfl (Or.inl rfl)) (jJ (aY (i:=2) sc_law.nd rfl (Or.inr rfl)) (jJ (aY (i:=3) sc_law.nd rfl (Or.inl rfl)) (jJ (aY (i:=4) sc_law.nd rfl (Or.inl rfl)) aJK)))))) (@aE _ _ _ _ _ (cR Br rfl (oA rfl G.b_enumerate (aA (aR bS (bV (aA aJ aB)) (jI sl_list (mv 0) (gS aJ) (gS aJ))) aB)) (fL (K:=K) (i:=5) (j:=6) (by rfl) (by rfl) sc_law.nd (by rfl) (by exact (Or.inl rfl)) (by exact Or.inl rfl) (by rfl) (by exact (Or.inl rfl)) (by exact Or.inl rfl)) (@aE _ _ _ _ _ (@aP _ _ 7 _ _ _ _ sc_law.nd (by rfl) (by exact (Or.inl rfl)) (aW c_l_mixed hr (by decide) rfl (aA (mv 6) (aA (mv 5) aB))) (by rfl) (by walk_at "o")) (@aE _ _ _ _ _ (@aP _ _ 8 _ _ _ _ sc_law.nd (by rfl) (by exact (Or.inl rfl)) (aR eJ (aR iX (mv 7) aJ) (bC eV rfl G.b_len cM (aA (mv 4) aB))) (by rfl) (by walk_at "o")) (@aE _ _ _ _ _ (@aP _ _ 9 _ _ _ _ sc_law.nd (by rfl) (by exact (Or.inl rfl)) cW (by rfl) (by walk_at "o")) (@aE _ _ _ _ _ (cG (bA aJ8 (aR eJ (mv 7) aJ) aJ (bE _)) (@aI _ _ _ (@aP _ _ 9 _ _ _ _ sc_law.nd (by rfl) (by exact (Or.inl rfl)) (aW c_l_checked hr (by decide) rfl (aA (bK cF (bK cF (mv 2) (aR eJ (aR iX (mv 7) aJ) (bC eV rfl G.b_len cM (aA (mv 2) aB))) (λ_ _=>rfl)) aJ (λ_ _=>rfl)) aB)) (by rfl) (by walk_at "o"))) bH) (@aE _ _ _ _ _ (cG (bA mO (aR eJ (mv 7) aJ) aJ (bE _)) (@aI _ _ _ (@aP _ _ 9 _ _ _ _ sc_law.nd (by rfl) (by exact (Or.inl rfl)) (aW c_l_checked hr (by decide) rfl (aA (aW c_l_word hr (by decide) rfl (aA (aR iX (mv 7) aJ) (aA aJ aB))) aB)) (by rfl) (by walk_at "o"))) bH) (@aE _ _ _ _ _ (cZO rfl rfl rfl rfl G.c_Lack (λpins R=>(@aI _ _ _ (cG (bA aZ4 (mv 9) cW (bE _)) (@aI _ _ _ (cD (aZY c_Tower_do G.cl_Tower (mY rfl) hr (by decide) (mv 1) (aA (gG (@gM _ _ _ _ _ _ (aA (mv 8) aB))) aB)))) (@aI _ _ _ (cD (aZY c_Tower_do G.cl_Tower (mY rfl) hr (by decide) (mv 1) (aA (gG (@gM _ _ _ _ _ _ (aA (mv 8) (aA (mv 9) aB)))) aB))))))) (λpins ea=>(@aI _ _ _ (@aP _ _ 9 _ _ _ _ sc_law.nd (by rfl) (by exact (Or.inl rfl)) (bK cF (mv 4) (mv 8) (λ_ _=>rfl)) (by rfl) (by walk_at "o"))))) (@aE _ _ _ _ _ (wY (mv 9) (aQY (mv 4) (mv 8) qQ)) (@aE _ _ _ _ _ (@aP _ _ 10 _ _ _ _ sc_law.nd (by rfl) (by exact (Or.inl rfl)) (aJV c_Tower_read G.cl_Tower hr (by decide) (mv 1)) (by rfl) (by walk_at "o")) (@aE _ _ _ _ _ (iP (i:=11) sc_law.nd rfl (Or.inl rfl) rfl (cL (mv 4)) (iK (N:=["_law_one", "_law_book_here"]) ["_law_script", "_law_tower", "_law_book_here", "_law_totals", "_law_words", "_law_k", "_law_cell", "_law_number_here", "_law_at", "_law_word_here", "_law_found", "_law_due"] (aF mK) [none,some 2] rfl rfl rfl (λx h=>cA h) (by decide +kernel)) (by decide +kernel) rfl (by decide +kernel) (λ_ _ _ _=>(aY (i:=0) (show List.Nodup (["_law_one", "_law_book_here"]:List Str) by decide +kernel) rfl (Or.inl rfl))) (λ_ _ _ _=>dO) (λ_ _ _ _=>(aW c_l_number hr (by decide) rfl (aA (mv 1) (aA (mv 0) aB))))) (@aE _ _ _ _ _ (cG (nA (fH (aW c_l_is hr (by decide) rfl (aA (mv 10) (aA (mv 11) aB))))) (@aI _ _ _ (aV mG)) bH) (@aE _ _ _ _ _ (cD (cXK Bu PySem.F.slot_list_clear PySem.F.type_list_clear cJN (mv 10))) (@aI _ _ _ (cG (nA (fH (aW c_l_is hr (by decide) rfl (aA (aJV c_Tower_read G.cl_Tower hr (by decide) (mv 1)) (aA (mv 11) aB))))) (@aI _ _ _ (aV mG)) bH)))))))))))))) (@aI _ _ _ (aV mG)))),?_⟩
 walk_at "go";refine ⟨a,ns,rfl,hS,h63,λr x dx rb rl rw' b' s0 st0 hg0 dd bk cws f0 m H1 s1 er hbk hcw hnd hb1 hb8 m1 m6 ex hbk' tw0 edd nhd nbd erw nrw nhw=>?_⟩;have rr:=aT er
 have hS1:=s1.seq hS
 walk_at "go";refine ⟨by show 1<=sizeLine; decide,λp2 hp2=>?_⟩
 have k2:=aG hp2 (.lst [V.int 0])
 have e2:(upd H1 p2 (.lst [V.int 0])) p2=some (.lst [V.int 0]):=aD
 generalize upd H1 p2 (.lst [V.int 0])=H2 at k2 e2 ⊢;walk_at "go";refine dQZ (k2.seq hS1) λp3 hp3=>?_;obtain ⟨ms,em,hml⟩:=uZ ns 9 40 (by decide) (by decide)
 rw [show (9:Int)+40=49 from rfl] at em;rw [em];have hml40:ms.length<=40:=hml
 have k3:=aG hp3 (.lst (ms.map V.int))
 have m2:=bL (k3 _ _ e2)
 refine jN (xs:=[V.int 0]) (ys:=ms.map V.int) m2 dU (bN (by rw [Ab]; show 1+_<=_; omega)) λrc hrc=>?_
 rw [show [V.int 0]++ms.map V.int=((0:Int)::ms).map V.int from rfl];have k4:=k2.trans (k3.trans (aG hrc (.lst (((0:Int)::ms).map V.int))))
 have e4:rdL (upd (upd H2 p3 (.lst (ms.map V.int))) rc (.lst (((0:Int)::ms).map V.int))) rc=some (((0:Int)::ms).map V.int):=dG
 have hcl:((0:Int)::ms).length<=41:=by rw [Aw]; omega
 generalize (0:Int)::ms=cs at k4 e4 hcl ⊢;have hrc1:H1 rc=none:=none_of (k2.trans k3) hrc
 generalize upd (upd H2 p3 (.lst (ms.map V.int))) rc (.lst (cs.map V.int))=H4 at k4 e4 ⊢;walk_at "go";have n1:rc≠x:=λz=>by rw [z,ex] at hrc1; cases hrc1
 have n2:rc≠dd:=λz=>by rw [z,edd] at hrc1; cases hrc1
 have n3:rc≠rw':=λz=>by rw [z,erw] at hrc1; cases hrc1
 have rdE':∀ {l:List Addr} {H H':Hp} {y:Addr} {ys:List V},SameE l H H'->y ∉ l->rdL H y=some ys->rdL H' y=some ys:=fun {l H H' y ys} s n h=>by
   unfold rdL at h ⊢;cases e:H y with
   | none=>rw [e] at h; cases h
   | some o=>rw [s _ _ n e]; rw [e] at h; exact h
 have nin:rc ∉ [x,dd,rw']:=λz=>by
   simp only [List.mem_cons,List.not_mem_nil,or_false] at z;rcases z with z | z | z
   . exact n1 z
   . exact n2 z
   . exact n3 z
 have ex4:=k4 _ _ ex
 have edd4:=k4 _ _ edd
 have erw4:=k4 _ _ erw
 have tw4:TwSt H4 hg0 st0 (List.replicate m none) f0:=tw0.keepS k4
 have hbk4:=hbk.keepS k4
 have hbb4:=hbk'.keepS k4
 have no:=@no3 x dd rw'
 have ntt:∀ p xs,H4 p=some (.tup xs)->p ∉ [x,dd,rw']:=λp xs e=>cX2 ex4 edd4 erw4 e
 have nrb:rb ∉ [x,dd,rw']:=bZI ex4 edd4 erw4 hb1 m1 hbk4
 have nbb:b' ∉ [x,dd,rw']:=bZI ex4 edd4 erw4 hb1 m1 hbb4
 refine qI (xs:=cs.map V.int) (λi σ H'=>∃ (hs:Q3) (f:Nat->Option Int) (st hg:Addr) (dps:List Addr) (v5 v6 v7 v8 v9 v10 v11:Option V),σ=[some (.ref a),some (.ref x),some (.ref rb),some (.ref rl),some (.ref rw'),v5,v6,v7,v8,v9,v10,v11]/\SameE [x,dd,rw'] H4 H'/\H' x=some (.ins Z0 dx (twF b' m s0 st hg dd))/\TwSt H' hg st hs f/\hs.length=m/\H' rw'=some (.lst ((rdW hs).map wdV))/\H' dd=some (.lst (dps.map V.ref))/\dps.length<=i/\hg≠dd/\hg≠rw'/\Two (rdW hs))
   ⟨List.replicate m none,f0,st0,hg0,[],_,_,_,_,_,_,_,rfl,λb o _ e=>e,ex4,tw4,Fq ..,?_,edd4,Ah _,nhd,nhw,?_⟩ (λi σ H' _ ⟨_,_,_,_,_,_,_,_,_,_,_,_,_,sE,_⟩=>rdE' sE nin e4) ?_ ?_
 . rw [erw4];unfold rdW;rw [List.map_replicate,List.map_replicate];rfl
 . intro cs' hc;unfold rdW at hc;rw [List.map_replicate] at hc;cases (List.mem_replicate.mp hc).2
 . rintro i v σ H5 pt hv ⟨hs,f,st,hg,dps,v5,v6,v7,v8,v9,v10,v11,rfl,sE5,x5,tw5,hsl,w5,d5,hdl,ngd,ngw,two⟩ hpt;rw [Af] at hv;obtain ⟨cell,hcell,rfl⟩:=Cs.mp hv;have hi41:i<41:=by have:=(Ad.mp hcell).1; omega
   have k6:=aG hpt (.tup [.int ((0+i:Nat):Int),.int cell])
   have t6:=cU (show (upd H5 pt (.tup [.int ((0+i:Nat):Int),.int cell])) pt=_ from aD)
   generalize upd H5 pt (.tup [.int ((0+i:Nat):Int),.int cell])=H6 at k6 t6 ⊢;have sE6:=sE5.trans (.of k6)
   have x6:=k6 _ _ x5
   have w6:=k6 _ _ w5
   have rw6:=aT w6
   have hwl:((rdW hs).map wdV).length=m:=by rw [Ab,qC,hsl]
   walk_at "gs"
   with_reducible refine lY ?_
   walk_at "gs";refine ⟨cell,_,rfl,by omega,by omega,λn hn=>?_⟩
   walk_at "gs"
   with_reducible refine lY ?_
   walk_at "gs";rw [hwl];obtain ⟨at',eat,hat⟩:∃ k:Nat,n / 8 % ((m:Nat):Int)=(k:Int)/\k<m:=bJ0 m1;walk_at "gs";rw [eat]
   with_reducible refine lY ?_
   walk_at "gs"
   with_reducible refine vZ (λσ' H'=>∃ o,σ'=[some (.ref a),some (.ref x),some (.ref rb),some (.ref rl),some (.ref rw'),some (.int ((0+i:Nat):Int)),some (.int cell),some (.int n),some (.int (at':Int)),some (wdV o),v10,v11]/\WOk o/\Same H6 H') (λσ2 H7 j1=>?_) (λN hN=>?_)
   case refine_2=>
     have bk6:=hbk4.keepE sE6 nrb ntt
     obtain ⟨qs,b1,b2,b3⟩:=id bk6;have hql:(qs.map V.ref).length=bk.length:=by rw [Ab,b2]
     have rq:=aT b1
     walk_at "gs";by_cases h1:decide (1<n % 4)=true
     . rw [if_pos h1];obtain ⟨j,ej,hj⟩:∃ j:Nat,n / 48 % ((bk.length:Nat):Int)=(j:Int)/\j<bk.length:=bJ0 (by omega)
       have ec:cws[j]?=some (cws[j]'(by rw [hcw.1]; exact hj)):=Aa _
       obtain ⟨hw,hc1,hc6,hcL⟩:=hcw.2 j _ _ (Aa hj) ec;have ep:qs[j]?=some (qs[j]'(by omega)):=Aa _
       have tp:=b3 j _ _ ep (Aa hj)
       rw [hw] at tp;generalize cws[j]'(by rw [hcw.1]; exact hj)=cw at *
       walk_at "gs";rw [hql,ej];refine fO rq (v:=.ref (qs[j]'(by omega))) (bJ (by rw [Af,ep]; rfl)) ?_
       walk_at "gs";refine dS tp (v:=.str (aU cw)) (bJ (j:=0) rfl) ?_;walk_at "gs";refine ⟨cw,rfl,hc1,hc6,hcL,λH7 s7 hk1 hk2=>?_⟩;walk_at "gs";exact hN _ _ ⟨some (cw++[ckL cw]),rfl,yF hc1 hc6 hcL hk1 hk2,s7⟩
     . rw [if_neg h1];walk_at "gs";exact hN _ _ ⟨none,rfl,trivial,Same.refl _⟩
   obtain ⟨o1,rfl,w1,s7⟩:=j1
   with_reducible refine vZ (λσ' H'=>∃ o,σ'=[some (.ref a),some (.ref x),some (.ref rb),some (.ref rl),some (.ref rw'),some (.int ((0+i:Nat):Int)),some (.int cell),some (.int n),some (.int (at':Int)),some (wdV o),v10,v11]/\WOk o/\Same H6 H') (λσ2 H8 j2=>?_) (λN hN=>?_)
   case refine_2=>
     walk_at "gs";by_cases h1:decide (n % 4=1)=true
     . rw [if_pos h1];walk_at "gs";refine ⟨n / 48,6,rfl,by omega,by omega,by omega,λcw H8 s8 hc1 hc6 hcL=>?_⟩
       walk_at "gs";refine ⟨cw,rfl,hc1,by omega,hcL,λH9 s9 hk1 hk2=>?_⟩
       walk_at "gs";exact hN _ _ ⟨some (cw++[ckL cw]),rfl,yF hc1 (by omega) hcL hk1 hk2,s7.trans (s8.trans s9)⟩
     . rw [if_neg h1];walk_at "gs";exact hN _ _ ⟨o1,rfl,w1,s7⟩
   clear w1 s7;obtain ⟨o2,rfl,w2,s8⟩:=j2;have k8:=k6.trans s8
   have sE8:=sE6.trans (.of s8)
   have x8:=s8 _ _ x6
   have w8:=s8 _ _ w6
   have d8:=k8 _ _ d5
   have tw8:=tw5.keepS k8
   have hrl:(rdW hs).length=m:=by rw [qC,hsl]
   with_reducible refine vZ (λσ' H'=>∃ (hs':Q3) (f':Nat->Option Int) (st' hg':Addr) (dps':List Addr) (o:Option (List Nat)),σ'=[some (.ref a),some (.ref x),some (.ref rb),some (.ref rl),some (.ref rw'),some (.int ((0+i:Nat):Int)),some (.int cell),some (.int n),some (.int (at':Int)),some (wdV o),v10,v11]/\SameE [x,dd,rw'] H4 H'/\H' x=some (.ins Z0 dx (twF b' m s0 st' hg' dd))/\TwSt H' hg' st' hs' f'/\hs'.length=m/\H' rw'=some (.lst ((rdW hs).map wdV))/\rdW hs'=(rdW hs).set at' o/\H' dd=some (.lst (dps'.map V.ref))/\dps'.length<=i+1/\hg'≠dd/\hg'≠rw'/\Two (rdW hs')) (λσ2 H9 j3=>?_) (λN hN=>?_)
   case refine_2=>
     obtain ⟨oq,eo⟩:∃ oq,(rdW hs)[at']?=some oq:=⟨_,Aa (by omega)⟩
     have ndr:dd≠rw':=Ne.symm nrw
     have nxr:rw'≠x:=λz=>by rw [z,x8] at w8; cases w8
     have fin:∀ (dp:Addr) (Hd:Hp) (Q':VK) (E':XK),Same H8 Hd->wW Hd dp at' o2->(∀ H',N [some (.ref a),some (.ref x),some (.ref rb),some (.ref rl),some (.ref rw'),some (.int ((0+i:Nat):Int)),some (.int cell),some (.int n),some (.int (at':Int)),some (wdV o2),v10,v11] H'->Q' .non H')->
         (∀ dy H',Same H8 H'->N [some (.ref a),some (.ref x),some (.ref rb),some (.ref rl),some (.ref rw'),some (.int ((0+i:Nat):Int)),some (.int cell),some (.int n),some (.int (at':Int)),some (wdV oq),v10,v11] H'->E' (.ref Zt) (some dy) H')->gB Z0 Zt [.ref x,.ref dp] Hd Q' E':=by
       intro dp Hd Q' E' kd hD hq he;refine cXZ (kd _ _ x8) (tw8.keepS kd) hsl m6 hat hD (kd _ _ d8) (by omega) (λhs' f' st' hg' H2 sE x2 d2 hl2 er2 hn2 tw2=>hq _ (hN _ _ ⟨hs',f',st',hg',_,o2,rfl,sE8.trans ((SameE.of kd).trans (λb o nb e=>sE b o (λz=>nb (eQY z)) e)),x2,tw2,hl2,sE _ _ (no2 nxr (Ne.symm ndr)) (kd _ _ w8),er2,d2,by rw [Ag]; show _+1<=_; omega,λz=>?_,λz=>?_,?_⟩)) (λdy H1 s1=>?_)
       . rw [z,kd _ _ d8] at hn2; cases hn2
       . rw [z,kd _ _ w8] at hn2; cases hn2
       . rw [er2];exact cX3 two w2
       . have s81:=kd.trans s1
         exact he dy H1 s81 (hN _ _ ⟨hs,f,st,hg,dps,oq,rfl,sE8.trans (.of s81),s81 _ _ x8,tw8.keepS s81,hsl,s81 _ _ w8,(bJF eo).symm,s81 _ _ d8,by omega,ngd,ngw,two⟩)
     walk_at "gs";cases o2 with
     | none=>
       rw [if_pos (show decide (wdV none=V.non)=true from An rfl)];walk_at "gs";refine ⟨x,dx,_,rfl,x8,yN,?_⟩;walk_at "gs";refine ⟨by show 2<=sizeLine; decide,λdp hdp=>?_⟩
       walk_at "gs";refine fin dp _ _ _ (aG hdp _) aD (λH' h=>?_) (λdy H' s' h=>⟨G.m_Lack,?_⟩)
       . walk_at "gs";exact h
       . have rw9:=aT (s' _ _ w8)
         walk_at "gs";refine fO rw9 (v:=wdV oq) (bJ (by rw [Af,eo]; rfl)) ?_
         walk_at "gs";exact h
     | some cw=>
       rw [if_neg (show ¬ decide (wdV (some cw)=V.non)=true from λz=>nomatch Az z)]
       walk_at "gs";refine ⟨x,dx,_,rfl,x8,yN,?_⟩;walk_at "gs";refine ⟨by show 3<=sizeLine; decide,λdp hdp=>?_⟩
       walk_at "gs";refine fin dp _ _ _ (aG hdp _) ⟨aD,w2⟩ (λH' h=>?_) (λdy H' s' h=>⟨G.m_Lack,?_⟩)
       . walk_at "gs";exact h
       . have rw9:=aT (s' _ _ w8)
         walk_at "gs";refine fO rw9 (v:=wdV oq) (bJ (by rw [Af,eo]; rfl)) ?_
         walk_at "gs";exact h
   clear w2 s8 k8 sE8 x8 w8 d8 tw8;obtain ⟨hs',f',st',hg',dps',o,rfl,sE9,x9,tw9,hl9,w9,er9,d9,hdl9,n1',n2',two9⟩:=j3;have mw9:=bL w9
   have nxr:rw'≠x:=λz=>by rw [z,x9] at w9; cases w9
   with_reducible refine lY ?_
   walk_at "gs";refine bJ7 (o:=(((rdW hs).map wdV)[at']'(by rw [hwl]; exact hat))) mw9 (aQ6 (by omega) (by rw [hwl]; omega)) ?_
   rw [show ((at':Nat):Int).toNat=at' from rfl,show ((rdW hs).map wdV).set at' (wdV o)=(rdW hs').map wdV by rw [er9,List.map_set]]
   have sW:SameE [rw'] H9 (upd H9 rw' (.lst ((rdW hs').map wdV))):=(SameE.of (Same.refl _)).put (Aj.mpr rfl)
   have sE10:SameE [x,dd,rw'] H4 (upd H9 rw' (.lst ((rdW hs').map wdV))):=sE9.put (Ak _ (Ak _ (Am ..)))
   have x10:(upd H9 rw' (.lst ((rdW hs').map wdV))) x=some (.ins Z0 dx (twF b' m s0 st' hg' dd)):=by rw [aH (Ne.symm nxr)]; exact x9
   have w10:(upd H9 rw' (.lst ((rdW hs').map wdV))) rw'=some (.lst ((rdW hs').map wdV)):=aD
   have d10:(upd H9 rw' (.lst ((rdW hs').map wdV))) dd=some (.lst (dps'.map V.ref)):=by rw [aH (Ne.symm nrw)]; exact d9
   have tw10:=tw9.keepE sW (λz=>n2' (Aj.mp z)) (λkvs e z=>by rw [Aj.mp z,w9] at e; cases e) (λp c cs' e z=>by
     rw [Aj.mp z,w9] at e;exact bZW two (by injection Bh e))
   generalize upd H9 rw' (.lst ((rdW hs').map wdV))=H10 at sE10 x10 w10 d10 tw10 ⊢;clear sW tw9 w9 x9 d9 sE9 mw9 two tw5 sE5 sE6 x5 x6 w5 w6 k6 t6 rw6 hwl;walk_at "gs"
   with_reducible refine lY ?_
   walk_at "gs";obtain ⟨us,u1,u2⟩:=id tw10.hal;have hul:=u2.len
   refine ⟨x,dx,_,rfl,x10,rT,?_⟩;walk_at "gs";refine ⟨x,b',s0,st',hg',dd,dx,m,us,hs',bk,cws,rfl,x10,aT u1,u2,by omega,tw10.ok,hbb4.keepE sE10 nbb ntt,by omega,hcw,λr H11 hr s11 e11=>?_⟩
   rw [aJS] at e11;have rw11:=aT (s11 _ _ w10)
   have bk11:=(hbk4.keepE sE10 nrb ntt).keepS s11
   have hll:((rdW hs').map wdV).length=m:=by rw [Ab,qC,hl9]
   walk_at "gs"
   with_reducible refine lY ?_
   walk_at "gs";refine gE (xs:=(rdW hs').map wdV) (λj=>((rdW hs')[j]?).map (nmV cws)) rw11 (by rw [hll]; exact bG (by omega)) (λj v Hc A B hv sm hA hB=>?_) (λD Hd hD sD hd=>?_)
   . rw [Af] at hv;obtain ⟨oo,eoo,rfl⟩:=Cs.mp hv;walk_at "gs";refine ⟨Wk.set rfl (Wk.refl _),?_⟩;walk_at "gs";exact ⟨rb,oo,bk,cws,rfl,bk11.keepS sm,hcw,hb8,λH' s'=>hA _ (by rw [eoo]; rfl) H' s'⟩
   rw [Ab,dP (nmV cws)] at hd;have hnum:∀ v∈(rdW hs').map (nmV cws),dJS v:=λv hv=>by
     obtain ⟨oo,_,rfl⟩:=Be.mp hv;exact dJA cws oo
   have hnl:((rdW hs').map (nmV cws)).length<=1000:=by rw [Ab,qC,hl9]; omega
   generalize enums:(rdW hs').map (nmV cws)=nums at e11 hd hnum hnl ⊢;walk_at "gs";have e11d:=sD _ _ e11
   have hDr:D≠r:=λz=>by rw [z,e11] at hD; cases hD
   with_reducible refine lY ?_
   walk_at "gs";refine ⟨r,D,nums,rfl,e11d,aT hd,hnum,hnl,λH13 s13=>?_⟩;have e13:=s13 _ _ e11d
   have hd13:=s13 _ _ hd
   have mr13:=bL e13
   have s1013:=s11.trans (sD.trans s13)
   walk_at "gs"
   with_reducible refine lY ?_
   walk_at "gs";have k14:Same H10 (upd H13 r (.lst [])):=bI hr s1013
   have hd14:(upd H13 r (.lst [])) D=some (.lst nums):=by rw [aH hDr]; exact hd13
   generalize upd H13 r (.lst [])=H14 at k14 hd14 ⊢;have x14:=k14 _ _ x10
   have tw14:=tw10.keepS k14
   have sE14:=sE10.trans (.of k14)
   obtain ⟨us2,u12,u22⟩:=id tw14.hal;have hul2:=u22.len
   walk_at "gs";refine ⟨x,dx,_,rfl,x14,rT,?_⟩;walk_at "gs";refine ⟨x,b',s0,st',hg',dd,dx,m,us2,hs',bk,cws,rfl,x14,aT u12,u22,by omega,tw14.ok,hbb4.keepE sE14 nbb ntt,by omega,hcw,λr2 H15 hr2 s15 e15=>?_⟩
   rw [aJS,enums] at e15;walk_at "gs";refine ⟨r2,D,nums,rfl,e15,aT (s15 _ _ hd14),hnum,hnl,λH16 s16=>?_⟩;walk_at "gs";have k16:=k14.trans (s15.trans s16)
   exact ⟨hs',f',st',hg',dps',_,_,_,_,_,_,_,rfl,sE10.trans (.of k16),k16 _ _ x10,tw10.keepS k16,hl9,k16 _ _ w10,k16 _ _ d10,hdl9,n1',n2',two9⟩
 . rintro σ H5 ⟨hs,f,st,hg,dps,v5,v6,v7,v8,v9,v10,v11,rfl,_⟩;walk_at "go";exact q _
end
local macro_rules | `(tactic| walk_at "bd") => `(tactic| (intro a1 a2 a3 a4 a5 a6 us hl; iterate 7 (all_goals try (rcases us with _ | ⟨u,us⟩; (· first | rfl | (simp at hl)))); all_goals (simp at hl)))
def all_mk {l:W.OpenLaw} {w:World} {K:W.Frag} {h:Heap} {mg:Q4} {fa:Addr} {od_0 an_0 od_1 an_1 od_2 an_2 od_3 an_3 od_4 an_4 od_5 an_5 od_6 an_6 od_7 an_7 od_8 an_8 od_9 an_9 od_10 an_10 od_11 an_11 od_12 an_12 od_13 an_13 od_14 an_14 od_15 an_15 od_16 an_16 od_17 an_17 od_18 an_18 od_19 an_19 od_20 an_20 od_21 an_21 od_22 an_22 od_23 an_23 od_24 an_24 od_25 an_25 od_26 an_26 od_27 an_27 od_28 an_28 od_29 an_29 od_30 an_30 od_31 an_31 od_32 an_32 od_33 an_33 od_34 an_34 od_35 an_35 od_36 an_36 od_37 an_37 od_38 an_38 od_39 an_39 od_40 an_40 od_41 an_41 od_42 an_42 od_43 an_43 od_44 an_44 od_45 an_45 od_46 an_46 od_47 an_47 od_48 an_48 od_49 an_49 od_50 an_50 od_51 an_51:Option Addr} {sl_0 sl_1 sl_2 sl_3 sl_4 sl_5 sl_6 sl_7 sl_8 sl_9 sl_10 sl_11 sl_12 sl_13 sl_14 sl_15 sl_16 sl_17 sl_18 sl_19 sl_20 sl_21 sl_22 sl_23 sl_24 sl_25 sl_26 sl_27 sl_28 sl_29 sl_30 sl_31 sl_32 sl_33 sl_34 sl_35 sl_36 sl_37 sl_38 sl_39 sl_40 sl_41 sl_42 sl_43 sl_44 sl_45 sl_46 sl_47 sl_48 sl_49 sl_50 sl_51:Array (Option Value)} {f_0 f_1 f_2 f_3 f_4 f_5 f_6 f_7 f_8 f_9 f_10 f_11 f_12 f_13 f_14 f_15 f_16 f_17 f_18 f_19 f_20 f_21 f_22 f_23 f_24 f_25 f_26 f_27 f_28 f_29 f_30 f_31 f_32 f_33 f_34 f_35 f_36 f_37 f_38 f_39 f_40 f_41 f_42 f_43 f_44 f_45 f_46 f_47 f_48 f_49 f_50 f_51:Addr} {oc_0 kV_0 dc_0 pm_0 cd_0 ct_0 oc_1 kV_1 dc_1 pm_1 cd_1 ct_1 oc_2 kV_2 dc_2 pm_2 cd_2 ct_2 oc_3 kV_3 dc_3 pm_3 cd_3 ct_3 oc_4 kV_4 dc_4 pm_4 cd_4 ct_4 oc_5 kV_5 dc_5 pm_5 cd_5 ct_5 oc_6 kV_6 dc_6 pm_6 cd_6 ct_6 oc_7 kV_7 dc_7 pm_7 cd_7 ct_7 oc_8 kV_8 dc_8 pm_8 cd_8 ct_8 oc_9 kV_9 dc_9 pm_9 cd_9 ct_9 oc_10 kV_10 dc_10 pm_10 cd_10 ct_10 oc_11 kV_11 dc_11 pm_11 cd_11 ct_11 oc_12 kV_12 dc_12 pm_12 cd_12 ct_12 oc_13 kV_13 dc_13 pm_13 cd_13 ct_13 oc_14 kV_14 dc_14 pm_14 cd_14 ct_14 oc_15 kV_15 dc_15 pm_15 cd_15 ct_15 oc_16 kV_16 dc_16 pm_16 cd_16 ct_16 oc_17 kV_17 dc_17 pm_17 cd_17 ct_17 oc_18 kV_18 dc_18 pm_18 cd_18 ct_18 oc_19 kV_19 dc_19 pm_19 cd_19 ct_19 oc_20 kV_20 dc_20 pm_20 cd_20 ct_20 oc_21 kV_21 dc_21 pm_21 cd_21 ct_21 oc_22 kV_22 dc_22 pm_22 cd_22 ct_22 oc_23 kV_23 dc_23 pm_23 cd_23 ct_23 oc_24 kV_24 dc_24 pm_24 cd_24 ct_24 oc_25 kV_25 dc_25 pm_25 cd_25 ct_25 oc_26 kV_26 dc_26 pm_26 cd_26 ct_26 oc_27 kV_27 dc_27 pm_27 cd_27 ct_27 oc_28 kV_28 dc_28 pm_28 cd_28 ct_28 oc_29 kV_29 dc_29 pm_29 cd_29 ct_29 oc_30 kV_30 dc_30 pm_30 cd_30 ct_30 oc_31 kV_31 dc_31 pm_31 cd_31 ct_31 oc_32 kV_32 dc_32 pm_32 cd_32 ct_32 oc_33 kV_33 dc_33 pm_33 cd_33 ct_33 oc_34 kV_34 dc_34 pm_34 cd_34 ct_34 oc_35 kV_35 dc_35 pm_35 cd_35 ct_35 oc_36 kV_36 dc_36 pm_36 cd_36 ct_36 oc_37 kV_37 dc_37 pm_37 cd_37 ct_37 oc_38 kV_38 dc_38 pm_38 cd_38 ct_38 oc_39 kV_39 dc_39 pm_39 cd_39 ct_39 oc_40 kV_40 dc_40 pm_40 cd_40 ct_40 oc_41 kV_41 dc_41 pm_41 cd_41 ct_41 oc_42 kV_42 dc_42 pm_42 cd_42 ct_42 oc_43 kV_43 dc_43 pm_43 cd_43 ct_43 oc_44 kV_44 dc_44 pm_44 cd_44 ct_44 oc_45 kV_45 dc_45 pm_45 cd_45 ct_45 oc_46 kV_46 dc_46 pm_46 cd_46 ct_46 oc_47 kV_47 dc_47 pm_47 cd_47 ct_47 oc_48 kV_48 dc_48 pm_48 cd_48 ct_48 oc_49 kV_49 dc_49 pm_49 cd_49 ct_49 oc_50 kV_50 dc_50 pm_50 cd_50 ct_50 oc_51 kV_51 dc_51 pm_51 cd_51 ct_51:Value} {t_FLAGS:Tok} {t_LETTERS:Tok} {t_SUBSTITUTES:Tok} {t_MOST_PLACES:Tok} {Zt:Addr} {Zz:Addr} {Zu:Addr} {Zx:Addr} {Z0:Addr} {Zw:Addr} {Zy:Addr} {Zv:Addr} {dd_THINGS_IN:Addr} {es_THINGS_IN:Array DictEntry} {ep_THINGS_IN:Nat} {c Pt:Addr} (X:K.In h) (Gn:h.Ns mainGlobals mg) (hfa:mg "law"=some (.ref fa)) (TH:bZF h mg "longest_on" c)
   (a_0:W.nsIn K mainGlobals "_law_mixed"=some (some (.ref f_0))) (l_0:K.lookup f_0=some ⟨oc_0,od_0,.func (W.fnOf "_law_mixed" "_law_mixed" (aO gW) (aM gW) (aF gW) .none kV_0 dc_0 pm_0 an_0 cd_0 ct_0),sl_0⟩) (c_0:W.codeIn K cd_0 "_law_mixed"=true) (k_0:W.keepIn K (.ref f_0)=true)
   (a_1:W.nsIn K mainGlobals "_law_word"=some (some (.ref f_1))) (l_1:K.lookup f_1=some ⟨oc_1,od_1,.func (W.fnOf "_law_word" "_law_word" (aO jK) (aM jK) (aF jK) .none kV_1 dc_1 pm_1 an_1 cd_1 ct_1),sl_1⟩) (c_1:W.codeIn K cd_1 "_law_word"=true) (k_1:W.keepIn K (.ref f_1)=true)
   (a_2:W.nsIn K mainGlobals "_law_book"=some (some (.ref f_2))) (l_2:K.lookup f_2=some ⟨oc_2,od_2,.func (W.fnOf "_law_book" "_law_book" (aO jL) (aM jL) (aF jL) .none kV_2 dc_2 pm_2 an_2 cd_2 ct_2),sl_2⟩) (c_2:W.codeIn K cd_2 "_law_book"=true) (k_2:W.keepIn K (.ref f_2)=true)
   (a_3:W.nsIn K mainGlobals "_law_checked"=some (some (.ref f_3))) (l_3:K.lookup f_3=some ⟨oc_3,od_3,.func (W.fnOf "_law_checked" "_law_checked" (aO dQ) (aM dQ) (aF dQ) .none kV_3 dc_3 pm_3 an_3 cd_3 ct_3),sl_3⟩) (c_3:W.codeIn K cd_3 "_law_checked"=true) (k_3:W.keepIn K (.ref f_3)=true)
   (a_4:W.nsIn K mainGlobals "_law_flags"=some (some (.ref f_4))) (l_4:K.lookup f_4=some ⟨oc_4,od_4,.func (W.fnOf "_law_flags" "_law_flags" (aO hZ) (aM hZ) (aF hZ) .none kV_4 dc_4 pm_4 an_4 cd_4 ct_4),sl_4⟩) (c_4:W.codeIn K cd_4 "_law_flags"=true) (k_4:W.keepIn K (.ref f_4)=true)
   (a_5:W.nsIn K mainGlobals "_law_cell_at"=some (some (.ref f_5))) (l_5:K.lookup f_5=some ⟨oc_5,od_5,.func (W.fnOf "_law_cell_at" "_law_cell_at" (aO fF) (aM fF) (aF fF) .none kV_5 dc_5 pm_5 an_5 cd_5 ct_5),sl_5⟩) (c_5:W.codeIn K cd_5 "_law_cell_at"=true) (k_5:W.keepIn K (.ref f_5)=true)
   (a_6:W.nsIn K mainGlobals "plain_locker"=some (some (.ref f_6))) (l_6:K.lookup f_6=some ⟨oc_6,od_6,.func (W.fnOf "plain_locker" "plain_locker" (aO cX) (aM cX) (aF cX) .none kV_6 dc_6 pm_6 an_6 cd_6 ct_6),sl_6⟩) (c_6:W.codeIn K cd_6 "plain_locker"=true) (k_6:W.keepIn K (.ref f_6)=true)
   (y_7:W.isFn K (.ref f_7)=true)
   (a_7:W.findIn K (.ref Z0) "__init__"=some (some (.ref f_7))) (l_7:K.lookup f_7=some ⟨oc_7,od_7,.func (W.fnOf "__init__" "Tower.__init__" (aO dX) (aM dX) (aF dX) .none kV_7 dc_7 pm_7 an_7 cd_7 ct_7),sl_7⟩) (c_7:W.codeIn K cd_7 "Tower.__init__"=true) (k_7:W.keepIn K (.ref f_7)=true)
   (a_8:W.nsIn K mainGlobals "_law_begun"=some (some (.ref f_8))) (l_8:K.lookup f_8=some ⟨oc_8,od_8,.func (W.fnOf "_law_begun" "_law_begun" (aO iC) (aM iC) (aF iC) .none kV_8 dc_8 pm_8 an_8 cd_8 ct_8),sl_8⟩) (c_8:W.codeIn K cd_8 "_law_begun"=true) (k_8:W.keepIn K (.ref f_8)=true)
   (a_9:W.nsIn K mainGlobals "rank_of"=some (some (.ref f_9))) (l_9:K.lookup f_9=some ⟨oc_9,od_9,.func (W.fnOf "rank_of" "rank_of" (aO gX) (aM gX) (aF gX) .none kV_9 dc_9 pm_9 an_9 cd_9 ct_9),sl_9⟩) (c_9:W.codeIn K cd_9 "rank_of"=true) (k_9:W.keepIn K (.ref f_9)=true)
   (a_10:W.nsIn K mainGlobals "is_divided"=some (some (.ref f_10))) (l_10:K.lookup f_10=some ⟨oc_10,od_10,.func (W.fnOf "is_divided" "is_divided" (aO dW) (aM dW) (aF dW) .none kV_10 dc_10 pm_10 an_10 cd_10 ct_10),sl_10⟩) (c_10:W.codeIn K cd_10 "is_divided"=true) (k_10:W.keepIn K (.ref f_10)=true)
   (a_11:W.nsIn K mainGlobals "hidden_letter"=some (some (.ref f_11))) (l_11:K.lookup f_11=some ⟨oc_11,od_11,.func (W.fnOf "hidden_letter" "hidden_letter" (aO bY) (aM bY) (aF bY) .none kV_11 dc_11 pm_11 an_11 cd_11 ct_11),sl_11⟩) (c_11:W.codeIn K cd_11 "hidden_letter"=true) (k_11:W.keepIn K (.ref f_11)=true)
   (a_12:W.nsIn K mainGlobals "check_of"=some (some (.ref f_12))) (l_12:K.lookup f_12=some ⟨oc_12,od_12,.func (W.fnOf "check_of" "check_of" (aO fP) (aM fP) (aF fP) .none kV_12 dc_12 pm_12 an_12 cd_12 ct_12),sl_12⟩) (c_12:W.codeIn K cd_12 "check_of"=true) (k_12:W.keepIn K (.ref f_12)=true)
   (a_13:W.nsIn K mainGlobals "with_check"=some (some (.ref f_13))) (l_13:K.lookup f_13=some ⟨oc_13,od_13,.func (W.fnOf "with_check" "with_check" (aO eF) (aM eF) (aF eF) .none kV_13 dc_13 pm_13 an_13 cd_13 ct_13),sl_13⟩) (c_13:W.codeIn K cd_13 "with_check"=true) (k_13:W.keepIn K (.ref f_13)=true)
   (a_14:W.nsIn K mainGlobals "is_flag"=some (some (.ref f_14))) (l_14:K.lookup f_14=some ⟨oc_14,od_14,.func (W.fnOf "is_flag" "is_flag" (aO hV) (aM hV) (aF hV) .none kV_14 dc_14 pm_14 an_14 cd_14 ct_14),sl_14⟩) (c_14:W.codeIn K cd_14 "is_flag"=true) (k_14:W.keepIn K (.ref f_14)=true)
   (a_15:W.nsIn K mainGlobals "may_stand"=some (some (.ref f_15))) (l_15:K.lookup f_15=some ⟨oc_15,od_15,.func (W.fnOf "may_stand" "may_stand" (aO fD) (aM fD) (aF fD) .none kV_15 dc_15 pm_15 an_15 cd_15 ct_15),sl_15⟩) (c_15:W.codeIn K cd_15 "may_stand"=true) (k_15:W.keepIn K (.ref f_15)=true)
   (a_16:W.nsIn K mainGlobals "is_hoist"=some (some (.ref f_16))) (l_16:K.lookup f_16=some ⟨oc_16,od_16,.func (W.fnOf "is_hoist" "is_hoist" (aO fR) (aM fR) (aF fR) .none kV_16 dc_16 pm_16 an_16 cd_16 ct_16),sl_16⟩) (c_16:W.codeIn K cd_16 "is_hoist"=true) (k_16:W.keepIn K (.ref f_16)=true)
   (a_17:W.nsIn K mainGlobals "read_of"=some (some (.ref f_17))) (l_17:K.lookup f_17=some ⟨oc_17,od_17,.func (W.fnOf "read_of" "read_of" (aO iA) (aM iA) (aF iA) .none kV_17 dc_17 pm_17 an_17 cd_17 ct_17),sl_17⟩) (c_17:W.codeIn K cd_17 "read_of"=true) (k_17:W.keepIn K (.ref f_17)=true)
   (y_18:W.isFn K (.ref f_18)=true)
   (a_18:W.findIn K (.ref Z0) "read"=some (some (.ref f_18))) (l_18:K.lookup f_18=some ⟨oc_18,od_18,.func (W.fnOf "read" "Tower.read" (aO dD) (aM dD) (aF dD) .none kV_18 dc_18 pm_18 an_18 cd_18 ct_18),sl_18⟩) (c_18:W.codeIn K cd_18 "Tower.read"=true) (k_18:W.keepIn K (.ref f_18)=true)
   (a_19:W.nsIn K mainGlobals "_law_number"=some (some (.ref f_19))) (l_19:K.lookup f_19=some ⟨oc_19,od_19,.func (W.fnOf "_law_number" "_law_number" (aO fU) (aM fU) (aF fU) .none kV_19 dc_19 pm_19 an_19 cd_19 ct_19),sl_19⟩) (c_19:W.codeIn K cd_19 "_law_number"=true) (k_19:W.keepIn K (.ref f_19)=true)
   (a_20:W.nsIn K mainGlobals "_law_is"=some (some (.ref f_20))) (l_20:K.lookup f_20=some ⟨oc_20,od_20,.func (W.fnOf "_law_is" "_law_is" (aO oZ) (aM oZ) (aF oZ) .none kV_20 dc_20 pm_20 an_20 cd_20 ct_20),sl_20⟩) (c_20:W.codeIn K cd_20 "_law_is"=true) (k_20:W.keepIn K (.ref f_20)=true)
   (a_21:W.nsIn K mainGlobals "behind_say"=some (some (.ref f_21))) (l_21:K.lookup f_21=some ⟨oc_21,od_21,.func (W.fnOf "behind_say" "behind_say" (aO fI) (aM fI) (aF fI) .none kV_21 dc_21 pm_21 an_21 cd_21 ct_21),sl_21⟩) (c_21:W.codeIn K cd_21 "behind_say"=true) (k_21:W.keepIn K (.ref f_21)=true)
   (a_22:W.nsIn K mainGlobals "look_for_halyard"=some (some (.ref f_22))) (l_22:K.lookup f_22=some ⟨oc_22,od_22,.func (W.fnOf "look_for_halyard" "look_for_halyard" (aO bU) (aM bU) (aF bU) .none kV_22 dc_22 pm_22 an_22 cd_22 ct_22),sl_22⟩) (c_22:W.codeIn K cd_22 "look_for_halyard"=true) (k_22:W.keepIn K (.ref f_22)=true)
   (a_23:W.nsIn K mainGlobals "put_in"=some (some (.ref f_23))) (l_23:K.lookup f_23=some ⟨oc_23,od_23,.func (W.fnOf "put_in" "put_in" (aO jG) (aM jG) (aF jG) .none kV_23 dc_23 pm_23 an_23 cd_23 ct_23),sl_23⟩) (c_23:W.codeIn K cd_23 "put_in"=true) (k_23:W.keepIn K (.ref f_23)=true)
   (a_24:W.nsIn K mainGlobals "rising_lists"=some (some (.ref f_24))) (l_24:K.lookup f_24=some ⟨oc_24,od_24,.func (W.fnOf "rising_lists" "rising_lists" (aO cK) (aM cK) (aF cK) .none kV_24 dc_24 pm_24 an_24 cd_24 ct_24),sl_24⟩) (c_24:W.codeIn K cd_24 "rising_lists"=true) (k_24:W.keepIn K (.ref f_24)=true)
   (a_25:W.nsIn K mainGlobals "sets_of"=some (some (.ref f_25))) (l_25:K.lookup f_25=some ⟨oc_25,od_25,.func (W.fnOf "sets_of" "sets_of" (aO iB) (aM iB) (aF iB) .none kV_25 dc_25 pm_25 an_25 cd_25 ct_25),sl_25⟩) (c_25:W.codeIn K cd_25 "sets_of"=true) (k_25:W.keepIn K (.ref f_25)=true)
   (y_26:W.typeIn K (.ref f_26)=some (.type "function"))
   (a_26:W.findIn K (.ref Zt) "__init__"=some (some (.ref f_26))) (l_26:K.lookup f_26=some ⟨oc_26,od_26,.func (W.fnOf "__init__" "Lack.__init__" (aO fB) (aM fB) (aF fB) .none kV_26 dc_26 pm_26 an_26 cd_26 ct_26),sl_26⟩) (c_26:W.codeIn K cd_26 "Lack.__init__"=true) (k_26:W.keepIn K (.ref f_26)=true)
   (a_27:W.nsIn K mainGlobals "others_hung"=some (some (.ref f_27))) (l_27:K.lookup f_27=some ⟨oc_27,od_27,.func (W.fnOf "others_hung" "others_hung" (aO cQ) (aM cQ) (aF cQ) .none kV_27 dc_27 pm_27 an_27 cd_27 ct_27),sl_27⟩) (c_27:W.codeIn K cd_27 "others_hung"=true) (k_27:W.keepIn K (.ref f_27)=true)
   (a_28:W.nsIn K mainGlobals "wants_of"=some (some (.ref f_28))) (l_28:K.lookup f_28=some ⟨oc_28,od_28,.func (W.fnOf "wants_of" "wants_of" (aO eY) (aM eY) (aF eY) .none kV_28 dc_28 pm_28 an_28 cd_28 ct_28),sl_28⟩) (c_28:W.codeIn K cd_28 "wants_of"=true) (k_28:W.keepIn K (.ref f_28)=true)
   (a_29:W.nsIn K mainGlobals "choices_at"=some (some (.ref f_29))) (l_29:K.lookup f_29=some ⟨oc_29,od_29,.func (W.fnOf "choices_at" "choices_at" (aO cY) (aM cY) (aF cY) .none kV_29 dc_29 pm_29 an_29 cd_29 ct_29),sl_29⟩) (c_29:W.codeIn K cd_29 "choices_at"=true) (k_29:W.keepIn K (.ref f_29)=true)
   (a_30:W.nsIn K mainGlobals "choices_of"=some (some (.ref f_30))) (l_30:K.lookup f_30=some ⟨oc_30,od_30,.func (W.fnOf "choices_of" "choices_of" (aO eE) (aM eE) (aF eE) .none kV_30 dc_30 pm_30 an_30 cd_30 ct_30),sl_30⟩) (c_30:W.codeIn K cd_30 "choices_of"=true) (k_30:W.keepIn K (.ref f_30)=true)
   (a_31:W.nsIn K mainGlobals "hoists_of"=some (some (.ref f_31))) (l_31:K.lookup f_31=some ⟨oc_31,od_31,.func (W.fnOf "hoists_of" "hoists_of" (aO fE) (aM fE) (aF fE) .none kV_31 dc_31 pm_31 an_31 cd_31 ct_31),sl_31⟩) (c_31:W.codeIn K cd_31 "hoists_of"=true) (k_31:W.keepIn K (.ref f_31)=true)
   (a_32:W.nsIn K mainGlobals "asked_from"=some (some (.ref f_32))) (l_32:K.lookup f_32=some ⟨oc_32,od_32,.func (W.fnOf "asked_from" "asked_from" (aO dA) (aM dA) (aF dA) .none kV_32 dc_32 pm_32 an_32 cd_32 ct_32),sl_32⟩) (c_32:W.codeIn K cd_32 "asked_from"=true) (k_32:W.keepIn K (.ref f_32)=true)
   (a_33:W.nsIn K mainGlobals "hang_along"=some (some (.ref f_33))) (l_33:K.lookup f_33=some ⟨oc_33,od_33,.func (W.fnOf "hang_along" "hang_along" (aO dZ) (aM dZ) (aF dZ) .none kV_33 dc_33 pm_33 an_33 cd_33 ct_33),sl_33⟩) (c_33:W.codeIn K cd_33 "hang_along"=true) (k_33:W.keepIn K (.ref f_33)=true)
   (a_34:W.nsIn K mainGlobals "hang_all"=some (some (.ref f_34))) (l_34:K.lookup f_34=some ⟨oc_34,od_34,.func (W.fnOf "hang_all" "hang_all" (aO cS) (aM cS) (aF cS) .none kV_34 dc_34 pm_34 an_34 cd_34 ct_34),sl_34⟩) (c_34:W.codeIn K cd_34 "hang_all"=true) (k_34:W.keepIn K (.ref f_34)=true)
   (a_35:W.nsIn K mainGlobals "lack_of"=some (some (.ref f_35))) (l_35:K.lookup f_35=some ⟨oc_35,od_35,.func (W.fnOf "lack_of" "lack_of" (aO hU) (aM hU) (aF hU) .none kV_35 dc_35 pm_35 an_35 cd_35 ct_35),sl_35⟩) (c_35:W.codeIn K cd_35 "lack_of"=true) (k_35:W.keepIn K (.ref f_35)=true)
   (a_36:W.nsIn K mainGlobals "flags_on"=some (some (.ref f_36))) (l_36:K.lookup f_36=some ⟨oc_36,od_36,.func (W.fnOf "flags_on" "flags_on" (aO fW) (aM fW) (aF fW) .none kV_36 dc_36 pm_36 an_36 cd_36 ct_36),sl_36⟩) (c_36:W.codeIn K cd_36 "flags_on"=true) (k_36:W.keepIn K (.ref f_36)=true)
   (a_37:W.nsIn K mainGlobals "words_with"=some (some (.ref f_37))) (l_37:K.lookup f_37=some ⟨oc_37,od_37,.func (W.fnOf "words_with" "words_with" (aO cZ) (aM cZ) (aF cZ) .none kV_37 dc_37 pm_37 an_37 cd_37 ct_37),sl_37⟩) (c_37:W.codeIn K cd_37 "words_with"=true) (k_37:W.keepIn K (.ref f_37)=true)
   (a_38:W.nsIn K mainGlobals "least_set"=some (some (.ref f_38))) (l_38:K.lookup f_38=some ⟨oc_38,od_38,.func (W.fnOf "least_set" "least_set" (aO fG) (aM fG) (aF fG) .none kV_38 dc_38 pm_38 an_38 cd_38 ct_38),sl_38⟩) (c_38:W.codeIn K cd_38 "least_set"=true) (k_38:W.keepIn K (.ref f_38)=true)
   (y_39:W.typeIn K (.ref f_39)=some (.type "function"))
   (a_39:W.findIn K (.ref Zu) "__init__"=some (some (.ref f_39))) (l_39:K.lookup f_39=some ⟨oc_39,od_39,.func (W.fnOf "__init__" "Short.__init__" (aO eC) (aM eC) (aF eC) .none kV_39 dc_39 pm_39 an_39 cd_39 ct_39),sl_39⟩) (c_39:W.codeIn K cd_39 "Short.__init__"=true) (k_39:W.keepIn K (.ref f_39)=true)
   (a_40:W.nsIn K mainGlobals "taken"=some (some (.ref f_40))) (l_40:K.lookup f_40=some ⟨oc_40,od_40,.func (W.fnOf "taken" "taken" (aO lR) (aM lR) (aF lR) .none kV_40 dc_40 pm_40 an_40 cd_40 ct_40),sl_40⟩) (c_40:W.codeIn K cd_40 "taken"=true) (k_40:W.keepIn K (.ref f_40)=true)
   (a_41:W.nsIn K mainGlobals "hauled"=some (some (.ref f_41))) (l_41:K.lookup f_41=some ⟨oc_41,od_41,.func (W.fnOf "hauled" "hauled" (aO jD) (aM jD) (aF jD) .none kV_41 dc_41 pm_41 an_41 cd_41 ct_41),sl_41⟩) (c_41:W.codeIn K cd_41 "hauled"=true) (k_41:W.keepIn K (.ref f_41)=true)
   (a_42:W.nsIn K mainGlobals "is_word"=some (some (.ref f_42))) (l_42:K.lookup f_42=some ⟨oc_42,od_42,.func (W.fnOf "is_word" "is_word" (aO hJ) (aM hJ) (aF hJ) .none kV_42 dc_42 pm_42 an_42 cd_42 ct_42),sl_42⟩) (c_42:W.codeIn K cd_42 "is_word"=true) (k_42:W.keepIn K (.ref f_42)=true)
   (a_43:W.nsIn K mainGlobals "is_checked"=some (some (.ref f_43))) (l_43:K.lookup f_43=some ⟨oc_43,od_43,.func (W.fnOf "is_checked" "is_checked" (aO eG) (aM eG) (aF eG) .none kV_43 dc_43 pm_43 an_43 cd_43 ct_43),sl_43⟩) (c_43:W.codeIn K cd_43 "is_checked"=true) (k_43:W.keepIn K (.ref f_43)=true)
   (y_44:W.typeIn K (.ref f_44)=some (.type "function"))
   (a_44:W.findIn K (.ref Zv) "__init__"=some (some (.ref f_44))) (l_44:K.lookup f_44=some ⟨oc_44,od_44,.func (W.fnOf "__init__" "NoWord.__init__" (aO dH) (aM dH) (aF dH) .none kV_44 dc_44 pm_44 an_44 cd_44 ct_44),sl_44⟩) (c_44:W.codeIn K cd_44 "NoWord.__init__"=true) (k_44:W.keepIn K (.ref f_44)=true)
   (a_45:W.nsIn K mainGlobals "behind_haul"=some (some (.ref f_45))) (l_45:K.lookup f_45=some ⟨oc_45,od_45,.func (W.fnOf "behind_haul" "behind_haul" (aO dI) (aM dI) (aF dI) .none kV_45 dc_45 pm_45 an_45 cd_45 ct_45),sl_45⟩) (c_45:W.codeIn K cd_45 "behind_haul"=true) (k_45:W.keepIn K (.ref f_45)=true)
   (a_46:W.nsIn K mainGlobals "behind_lower"=some (some (.ref f_46))) (l_46:K.lookup f_46=some ⟨oc_46,od_46,.func (W.fnOf "behind_lower" "behind_lower" (aO cV) (aM cV) (aF cV) .none kV_46 dc_46 pm_46 an_46 cd_46 ct_46),sl_46⟩) (c_46:W.codeIn K cd_46 "behind_lower"=true) (k_46:W.keepIn K (.ref f_46)=true)
   (a_47:W.nsIn K mainGlobals "behind_lose"=some (some (.ref f_47))) (l_47:K.lookup f_47=some ⟨oc_47,od_47,.func (W.fnOf "behind_lose" "behind_lose" (aO eT) (aM eT) (aF eT) .none kV_47 dc_47 pm_47 an_47 cd_47 ct_47),sl_47⟩) (c_47:W.codeIn K cd_47 "behind_lose"=true) (k_47:W.keepIn K (.ref f_47)=true)
   (a_48:W.nsIn K mainGlobals "behind_find"=some (some (.ref f_48))) (l_48:K.lookup f_48=some ⟨oc_48,od_48,.func (W.fnOf "behind_find" "behind_find" (aO eU) (aM eU) (aF eU) .none kV_48 dc_48 pm_48 an_48 cd_48 ct_48),sl_48⟩) (c_48:W.codeIn K cd_48 "behind_find"=true) (k_48:W.keepIn K (.ref f_48)=true)
   (a_49:W.nsIn K mainGlobals "behind_deed"=some (some (.ref f_49))) (l_49:K.lookup f_49=some ⟨oc_49,od_49,.func (W.fnOf "behind_deed" "behind_deed" (aO dJ) (aM dJ) (aF dJ) .none kV_49 dc_49 pm_49 an_49 cd_49 ct_49),sl_49⟩) (c_49:W.codeIn K cd_49 "behind_deed"=true) (k_49:W.keepIn K (.ref f_49)=true)
   (y_50:W.isFn K (.ref f_50)=true)
   (a_50:W.findIn K (.ref Z0) "do"=some (some (.ref f_50))) (l_50:K.lookup f_50=some ⟨oc_50,od_50,.func (W.fnOf "do" "Tower.do" (aO fT) (aM fT) (aF fT) .none kV_50 dc_50 pm_50 an_50 cd_50 ct_50),sl_50⟩) (c_50:W.codeIn K cd_50 "Tower.do"=true) (k_50:W.keepIn K (.ref f_50)=true)
   (a_51:W.nsIn K mainGlobals "law"=some (some (.ref f_51))) (l_51:K.lookup f_51=some ⟨oc_51,od_51,.func (W.fnOf "law" "law" (aO mK) (aM mK) (aF mK) .none kV_51 dc_51 pm_51 an_51 cd_51 ct_51),sl_51⟩) (c_51:W.codeIn K cd_51 "law"=true) (k_51:W.keepIn K (.ref f_51)=true)
   (z_range:W.nsIn K mainGlobals "range"=some none)
   (z_enumerate:W.nsIn K mainGlobals "enumerate"=some none)
   (z_sum:W.nsIn K mainGlobals "sum"=some none)
   (z_len:W.nsIn K mainGlobals "len"=some none)
   (z_list:W.nsIn K mainGlobals "list"=some none)
   (z_int:W.nsIn K mainGlobals "int"=some none)
   (z_all:W.nsIn K mainGlobals "all"=some none)
   (z_zip:W.nsIn K mainGlobals "zip"=some none)
   (z_isinstance:W.nsIn K mainGlobals "isinstance"=some none)
   (z_bool:W.nsIn K mainGlobals "bool"=some none)
   (g_FLAGS:W.nsIn K mainGlobals "FLAGS"=some (some (.str "abcdefghijklmnopqrstuvw1234" t_FLAGS)))
   (g_LETTERS:W.nsIn K mainGlobals "LETTERS"=some (some (.str "abcdefghijklmnopqrstuvw" t_LETTERS)))
   (g_SUBSTITUTES:W.nsIn K mainGlobals "SUBSTITUTES"=some (some (.str "1234" t_SUBSTITUTES)))
   (g_MOST_PLACES:W.nsIn K mainGlobals "MOST_PLACES"=some (some (.int 7 t_MOST_PLACES)))
   (q_Lack:W.nsIn K mainGlobals "Lack"=some (some (.ref Zt)))
   (q_TowerError:W.nsIn K mainGlobals "TowerError"=some (some (.ref Zz)))
   (q_Short:W.nsIn K mainGlobals "Short"=some (some (.ref Zu)))
   (q_NoHoist:W.nsIn K mainGlobals "NoHoist"=some (some (.ref Zx)))
   (q_Tower:W.nsIn K mainGlobals "Tower"=some (some (.ref Z0)))
   (q_NoDeed:W.nsIn K mainGlobals "NoDeed"=some (some (.ref Zw)))
   (q_NoHalyard:W.nsIn K mainGlobals "NoHalyard"=some (some (.ref Zy)))
   (q_NoWord:W.nsIn K mainGlobals "NoWord"=some (some (.ref Zv)))
   (f_m_Lack:W.exmOne K (.ref Zt) (.ref Zt)=some true)
   (f_x_NoHoist:W.excIn K Zx [.type "ValueError",.type "Exception",.type "BaseException",.type "object"] "ValueError.__new__"=true)
   (f_m_Short:W.exmOne K (.ref Zu) (.ref Zu)=some true)
   (f_x_NoDeed:W.excIn K Zw [.type "ValueError",.type "Exception",.type "BaseException",.type "object"] "ValueError.__new__"=true)
   (f_x_NoHalyard:W.excIn K Zy [.type "ValueError",.type "Exception",.type "BaseException",.type "object"] "ValueError.__new__"=true)
   (f_t1_TowerError:W.specialIn K (.ref Zz) "__getattribute__"=some (some (.builtin "type.__getattribute__")))
   (f_t2_TowerError:W.readsIn K Zz (.type "type")=true)
   (f_t3_TowerError:W.findCls K (.ref Zz) (.type "type") "__init__"=some (.val (.builtin "ValueError.__init__")))
   (f_xo_Lack:rY K Zt [.type "ValueError",.type "Exception",.type "BaseException",.type "object"] "ValueError.__new__"=true)
   (f_xk_Lack:W.keepIn K (.ref Zt)=true)
   (f_xe1_Lack:W.hasDictIn K Zt=true)
   (f_xe2_Lack:W.findIn K (.ref Zt) "__getattribute__"=some (some (.builtin "BaseException.__getattribute__")))
   (f_xe3_Lack:W.findIn K (.ref Zt) "__getattr__"=some none)
   (f_xe4_Lack:W.findIn K (.ref Zt) "__class__"=some (some (.builtin "object.__class__")))
   (f_xe5_Lack:W.specialIn K (.builtin "object.__class__") "__get__"=some (some (.builtin "getset_descriptor.__get__")))
   (f_xe6_Lack:W.takesIn K (.builtin "object.__class__")=some true)
   (f_xe7_Lack:W.mroIn K Zt (.type "object")=some true)
   (f_xe8_Lack:W.subIn K (.ref Zt) (.type "BaseException")=some true)
   (f_xs_Lack:W.findIn K (.ref Zt) "__setattr__"=some (some (.builtin "object.__setattr__")))
   (f_xr_Lack:aQW K Zt Zz=true)
   (f_xv_Lack:W.subIn K (.ref Zt) (.type "ValueError")=some true)
   (f_xn_Lack_wants:W.findIn K (.ref Zt) "wants"=some none)
   (f_xn_Lack_flags:W.findIn K (.ref Zt) "flags"=some none)
   (f_xo_Short:rY K Zu [.type "ValueError",.type "Exception",.type "BaseException",.type "object"] "ValueError.__new__"=true)
   (f_xk_Short:W.keepIn K (.ref Zu)=true)
   (f_xe1_Short:W.hasDictIn K Zu=true)
   (f_xe2_Short:W.findIn K (.ref Zu) "__getattribute__"=some (some (.builtin "BaseException.__getattribute__")))
   (f_xe3_Short:W.findIn K (.ref Zu) "__getattr__"=some none)
   (f_xe4_Short:W.findIn K (.ref Zu) "__class__"=some (some (.builtin "object.__class__")))
   (f_xe5_Short:W.specialIn K (.builtin "object.__class__") "__get__"=some (some (.builtin "getset_descriptor.__get__")))
   (f_xe6_Short:W.takesIn K (.builtin "object.__class__")=some true)
   (f_xe7_Short:W.mroIn K Zu (.type "object")=some true)
   (f_xe8_Short:W.subIn K (.ref Zu) (.type "BaseException")=some true)
   (f_xs_Short:W.findIn K (.ref Zu) "__setattr__"=some (some (.builtin "object.__setattr__")))
   (f_xr_Short:aQW K Zu Zz=true)
   (f_xv_Short:W.subIn K (.ref Zu) (.type "ValueError")=some true)
   (f_xn_Short_flag:W.findIn K (.ref Zu) "flag"=some none)
   (f_xo_NoWord:rY K Zv [.type "ValueError",.type "Exception",.type "BaseException",.type "object"] "ValueError.__new__"=true)
   (f_xk_NoWord:W.keepIn K (.ref Zv)=true)
   (f_xe1_NoWord:W.hasDictIn K Zv=true)
   (f_xe2_NoWord:W.findIn K (.ref Zv) "__getattribute__"=some (some (.builtin "BaseException.__getattribute__")))
   (f_xe3_NoWord:W.findIn K (.ref Zv) "__getattr__"=some none)
   (f_xe4_NoWord:W.findIn K (.ref Zv) "__class__"=some (some (.builtin "object.__class__")))
   (f_xe5_NoWord:W.specialIn K (.builtin "object.__class__") "__get__"=some (some (.builtin "getset_descriptor.__get__")))
   (f_xe6_NoWord:W.takesIn K (.builtin "object.__class__")=some true)
   (f_xe7_NoWord:W.mroIn K Zv (.type "object")=some true)
   (f_xe8_NoWord:W.subIn K (.ref Zv) (.type "BaseException")=some true)
   (f_xs_NoWord:W.findIn K (.ref Zv) "__setattr__"=some (some (.builtin "object.__setattr__")))
   (f_xr_NoWord:aQW K Zv Zz=true)
   (f_xv_NoWord:W.subIn K (.ref Zv) (.type "ValueError")=some true)
   (f_xn_NoWord_at:W.findIn K (.ref Zv) "at"=some none)
   (f_cl1_Tower:W.plainGet K Z0 Str.empty=true)
   (f_cl2_Tower:W.hasDictIn K Z0=true)
   (f_cl3_Tower:W.plainOver K Z0=true)
   (f_cl4_Tower:W.findIn K (.ref Z0) "__setattr__"=some (some (.builtin "object.__setattr__")))
   (f_mk1_Tower:W.makesIn K Z0=true)
   (f_mk2_Tower:W.keepIn K (.ref Z0)=true)
   (f_na_Tower_book:W.findIn K (.ref Z0) "book"=some none)
   (f_na_Tower_many:W.findIn K (.ref Z0) "many"=some none)
   (f_na_Tower_stock_at_first:W.findIn K (.ref Z0) "stock_at_first"=some none)
   (f_na_Tower_stock:W.findIn K (.ref Z0) "stock"=some none)
   (f_na_Tower_hung:W.findIn K (.ref Z0) "hung"=some none)
   (f_na_Tower_deeds:W.findIn K (.ref Z0) "deeds"=some none)
   (qd_THINGS_IN:W.nsIn K mainGlobals "THINGS_IN"=some (some (.ref dd_THINGS_IN))) (ld_THINGS_IN:K.lookup dd_THINGS_IN=some ⟨.type "dict",none,.dict es_THINGS_IN ep_THINGS_IN,#[]⟩) (sd_THINGS_IN:(dd_THINGS_IN == sysModules)=false) (ed_THINGS_IN:vT w es_THINGS_IN.toList [("haul",3),("lower",2),("lose",2),("find",2),("say",2)])
   : ∃ fd:FuncData,(∀ (s:Shared) (v:Value),BindsTo s fd ⟨[v],[]⟩ [("_law_script",v)])/\∀ base:Heap,K.In base->base.Ns mainGlobals mg->LamB mg base c Pt->FnOk l.prog w K mg base CX0 17 fa fd ["_law_script"] (wF K Pt):=by
 have M:∀ {x:Str} {v:Value},W.nsIn K mainGlobals x=some (some v)->mg x=some v:=λh=>W.mg_of X Gn h
 have N:∀ {x:Str},W.nsIn K mainGlobals x=some none->mg x=none:=λh=>W.mg_none_of X Gn h
 have e:=hfa.symm.trans (M a_51)
 cases e;have G:Gs K mg w Zt Zz Zu Zx Z0 Zw Zy Zv:=⟨M q_Lack,M q_TowerError,M q_Short,M q_NoHoist,M q_Tower,M q_NoDeed,M q_NoHalyard,M q_NoWord,f_m_Lack,f_x_NoHoist,f_m_Short,f_x_NoDeed,f_x_NoHalyard,f_t1_TowerError,f_t2_TowerError,f_t3_TowerError,f_xo_Lack,f_xk_Lack,f_xe1_Lack,f_xe2_Lack,f_xe3_Lack,f_xe4_Lack,f_xe5_Lack,f_xe6_Lack,f_xe7_Lack,f_xe8_Lack,f_xs_Lack,f_xr_Lack,f_xv_Lack,f_xn_Lack_wants,f_xn_Lack_flags,f_xo_Short,f_xk_Short,f_xe1_Short,f_xe2_Short,f_xe3_Short,f_xe4_Short,f_xe5_Short,f_xe6_Short,f_xe7_Short,f_xe8_Short,f_xs_Short,f_xr_Short,f_xv_Short,f_xn_Short_flag,f_xo_NoWord,f_xk_NoWord,f_xe1_NoWord,f_xe2_NoWord,f_xe3_NoWord,f_xe4_NoWord,f_xe5_NoWord,f_xe6_NoWord,f_xe7_NoWord,f_xe8_NoWord,f_xs_NoWord,f_xr_NoWord,f_xv_NoWord,f_xn_NoWord_at,f_cl1_Tower,f_cl2_Tower,f_cl3_Tower,f_cl4_Tower,f_mk1_Tower,f_mk2_Tower,f_na_Tower_book,f_na_Tower_many,f_na_Tower_stock_at_first,f_na_Tower_stock,f_na_Tower_hung,f_na_Tower_deeds,⟨_,_,_,M qd_THINGS_IN,ld_THINGS_IN,sd_THINGS_IN,ed_THINGS_IN,by decide +kernel⟩,N z_range,N z_enumerate,N z_sum,N z_len,N z_list,N z_int,N z_all,N z_zip,N z_isinstance,N z_bool,⟨_,M g_FLAGS⟩,⟨_,M g_LETTERS⟩,⟨_,M g_SUBSTITUTES⟩,⟨_,M g_MOST_PLACES⟩⟩
 have F_0:=aX (st:=gW) l_0 c_0 k_0
 have b_0:=F_0.binds (ps:=["_law_cell", "_law_k"]) (by walk_at "bd")
 have F_1:=aX (st:=jK) l_1 c_1 k_1
 have b_1:=F_1.binds (ps:=["_law_number_here", "_law_most"]) (by walk_at "bd")
 have F_2:=aX (st:=jL) l_2 c_2 k_2
 have b_2:=F_2.binds (ps:=["_law_cells"]) (by walk_at "bd")
 have F_3:=aX (st:=dQ) l_3 c_3 k_3
 have b_3:=F_3.binds (ps:=["_law_word_here"]) (by walk_at "bd")
 have F_4:=aX (st:=hZ) l_4 c_4 k_4
 have b_4:=F_4.binds (ps:=["_law_cell", "_law_book_here"]) (by walk_at "bd")
 have F_5:=aX (st:=fF) l_5 c_5 k_5
 have b_5:=F_5.binds (ps:=["_law_script", "_law_k"]) (by walk_at "bd")
 have F_6:=aX (st:=cX) l_6 c_6 k_6
 have b_6:=F_6.binds (ps:=["locker"]) (by walk_at "bd")
 have F_7:=aX (st:=dX) l_7 c_7 k_7
 have b_7:=F_7.binds (ps:=["self", "book", "locker", "many"]) (by walk_at "bd")
 have F_8:=aX (st:=iC) l_8 c_8 k_8
 have b_8:=F_8.binds (ps:=["_law_script"]) (by walk_at "bd")
 have F_9:=aX (st:=gX) l_9 c_9 k_9
 have b_9:=F_9.binds (ps:=["letter"]) (by walk_at "bd")
 have F_10:=aX (st:=dW) l_10 c_10 k_10
 have b_10:=F_10.binds (ps:=["letters"]) (by walk_at "bd")
 have F_11:=aX (st:=bY) l_11 c_11 k_11
 have b_11:=F_11.binds (ps:=["letters"]) (by walk_at "bd")
 have F_12:=aX (st:=fP) l_12 c_12 k_12
 have b_12:=F_12.binds (ps:=["word"]) (by walk_at "bd")
 have F_13:=aX (st:=eF) l_13 c_13 k_13
 have b_13:=F_13.binds (ps:=["word"]) (by walk_at "bd")
 have F_14:=aX (st:=hV) l_14 c_14 k_14
 have b_14:=F_14.binds (ps:=["text"]) (by walk_at "bd")
 have F_15:=aX (st:=fD) l_15 c_15 k_15
 have b_15:=F_15.binds (ps:=["text", "place"]) (by walk_at "bd")
 have F_16:=aX (st:=fR) l_16 c_16 k_16
 have b_16:=F_16.binds (ps:=["flags"]) (by walk_at "bd")
 have F_17:=aX (st:=iA) l_17 c_17 k_17
 have b_17:=F_17.binds (ps:=["flags"]) (by walk_at "bd")
 have F_18:=aX (st:=dD) l_18 c_18 k_18
 have b_18:=F_18.binds (ps:=["self"]) (by walk_at "bd")
 have F_19:=aX (st:=fU) l_19 c_19 k_19
 have b_19:=F_19.binds (ps:=["_law_book_here", "_law_word_here"]) (by walk_at "bd")
 have F_20:=aX (st:=oZ) l_20 c_20 k_20
 have b_20:=F_20.binds (ps:=["_law_found", "_law_due"]) (by walk_at "bd")
 have F_21:=aX (st:=fI) l_21 c_21 k_21
 have b_21:=F_21.binds (ps:=["book", "halyards", "locker", "text"]) (by walk_at "bd")
 have F_22:=aX (st:=bU) l_22 c_22 k_22
 have b_22:=F_22.binds (ps:=["halyards", "number"]) (by walk_at "bd")
 have F_23:=aX (st:=jG) l_23 c_23 k_23
 have b_23:=F_23.binds (ps:=["locker", "flags"]) (by walk_at "bd")
 have F_24:=aX (st:=cK) l_24 c_24 k_24
 have b_24:=F_24.binds (ps:=["numbers", "many"]) (by walk_at "bd")
 have F_25:=aX (st:=iB) l_25 c_25 k_25
 have b_25:=F_25.binds (ps:=["others"]) (by walk_at "bd")
 have F_26:=aX (st:=fB) l_26 c_26 k_26
 have b_26:=F_26.binds (ps:=["self", "wants", "flags"]) (by walk_at "bd")
 have F_27:=aX (st:=cQ) l_27 c_27 k_27
 have b_27:=F_27.binds (ps:=["halyards", "number"]) (by walk_at "bd")
 have F_28:=aX (st:=eY) l_28 c_28 k_28
 have b_28:=F_28.binds (ps:=["words"]) (by walk_at "bd")
 have F_29:=aX (st:=cY) l_29 c_29 k_29
 have b_29:=F_29.binds (ps:=["word", "place"]) (by walk_at "bd")
 have F_30:=aX (st:=eE) l_30 c_30 k_30
 have b_30:=F_30.binds (ps:=["words"]) (by walk_at "bd")
 have F_31:=aX (st:=fE) l_31 c_31 k_31
 have b_31:=F_31.binds (ps:=["words", "flags"]) (by walk_at "bd")
 have F_32:=aX (st:=dA) l_32 c_32 k_32
 have b_32:=F_32.binds (ps:=["first", "choices", "hung"]) (by walk_at "bd")
 have F_33:=aX (st:=dZ) l_33 c_33 k_33
 have b_33:=F_33.binds (ps:=["flag", "asked", "hung"]) (by walk_at "bd")
 have F_34:=aX (st:=cS) l_34 c_34 k_34
 have b_34:=F_34.binds (ps:=["locker", "words"]) (by walk_at "bd")
 have F_35:=aX (st:=hU) l_35 c_35 k_35
 have b_35:=F_35.binds (ps:=["locker", "words"]) (by walk_at "bd")
 have F_36:=aX (st:=fW) l_36 c_36 k_36
 have b_36:=F_36.binds (ps:=["halyards", "numbers"]) (by walk_at "bd")
 have F_37:=aX (st:=cZ) l_37 c_37 k_37
 have b_37:=F_37.binds (ps:=["halyards", "word", "lowered"]) (by walk_at "bd")
 have F_38:=aX (st:=fG) l_38 c_38 k_38
 have b_38:=F_38.binds (ps:=["locker", "halyards", "number", "word"]) (by walk_at "bd")
 have F_39:=aX (st:=eC) l_39 c_39 k_39
 have b_39:=F_39.binds (ps:=["self", "flag"]) (by walk_at "bd")
 have F_40:=aX (st:=lR) l_40 c_40 k_40
 have b_40:=F_40.binds (ps:=["locker", "flags"]) (by walk_at "bd")
 have F_41:=aX (st:=jD) l_41 c_41 k_41
 have b_41:=F_41.binds (ps:=["locker", "halyards", "number", "word"]) (by walk_at "bd")
 have F_42:=aX (st:=hJ) l_42 c_42 k_42
 have b_42:=F_42.binds (ps:=["text"]) (by walk_at "bd")
 have F_43:=aX (st:=eG) l_43 c_43 k_43
 have b_43:=F_43.binds (ps:=["word"]) (by walk_at "bd")
 have F_44:=aX (st:=dH) l_44 c_44 k_44
 have b_44:=F_44.binds (ps:=["self", "at"]) (by walk_at "bd")
 have F_45:=aX (st:=dI) l_45 c_45 k_45
 have b_45:=F_45.binds (ps:=["halyards", "locker", "number", "word"]) (by walk_at "bd")
 have F_46:=aX (st:=cV) l_46 c_46 k_46
 have b_46:=F_46.binds (ps:=["halyards", "locker", "number"]) (by walk_at "bd")
 have F_47:=aX (st:=eT) l_47 c_47 k_47
 have b_47:=F_47.binds (ps:=["halyards", "locker", "flag"]) (by walk_at "bd")
 have F_48:=aX (st:=eU) l_48 c_48 k_48
 have b_48:=F_48.binds (ps:=["halyards", "locker", "flag"]) (by walk_at "bd")
 have F_49:=aX (st:=dJ) l_49 c_49 k_49
 have b_49:=F_49.binds (ps:=["book", "halyards", "locker", "deed"]) (by walk_at "bd")
 have F_50:=aX (st:=fT) l_50 c_50 k_50
 have b_50:=F_50.binds (ps:=["self", "deed"]) (by walk_at "bd")
 have F_51:=aX (st:=mK) l_51 c_51 k_51
 refine ⟨W.fnOf "law" "law" (aO mK) (aM mK) (aF mK) .none kV_51 dc_51 pm_51 an_51 cd_51 ct_51,λs v=>.of_eq rfl,λbase _ _ LB=>?_⟩;have mk:∀ {k:Nat} {x:Str} {ps:List Str} {sp:Sp} {f:Addr} {fd:FuncData},FnOk l.prog w K mg base CX0 k f fd ps sp->mg x=some (.ref f)->W.keepIn K (.ref f)=true->Binds K fd ps []->Cal l.prog w K mg base k x ps sp:=λa b c d=>⟨_,_,a,b,c,d⟩
 have mkX:∀ {k:Nat} {x:Str} {ps:List Str} {sp:Sp} {f:Addr} {fd:FuncData},FnOk l.prog w K mg base (CXr l.prog w) k f fd ps sp->mg x=some (.ref f)->W.keepIn K (.ref f)=true->Binds K fd ps []->kH l.prog w K mg base k x ps sp:=λa b c d=>⟨_,_,a,b,c,d⟩
 have c_l_mixed:=mk (aX0 F_0 G ) (M a_0) k_0 b_0
 have c_l_word:=mk (aJ7 F_1 G ) (M a_1) k_1 b_1
 have c_l_book:=mk (bQO F_2 G c_l_mixed c_l_word) (M a_2) k_2 b_2
 have c_l_checked:=mk (xG F_3 G ) (M a_3) k_3 b_3
 have c_l_flags:=mk (aXQ F_4 G c_l_mixed c_l_checked) (M a_4) k_4 b_4
 have c_l_cell_at:=mk (vV F_5 G ) (M a_5) k_5 b_5
 have c_plain_locker:=mk (pY F_6 G ) (M a_6) k_6 b_6
 have c_Tower_init:dX3 CX0 l.prog w K mg base 2 Z0 ["self", "book", "locker", "many"] (iV Z0):=⟨f_7,_,sX F_7 G c_plain_locker,⟨G.mk1_Tower,a_7,y_7,G.mk2_Tower⟩,b_7⟩
 have c_l_begun:=mk (aXY F_8 G c_l_book c_l_flags c_l_cell_at c_Tower_init) (M a_8) k_8 b_8
 have c_rank_of:=mk (aXX F_9 G ) (M a_9) k_9 b_9
 have c_is_divided:=mk (tM F_10 G c_rank_of) (M a_10) k_10 b_10
 have c_hidden_letter:=mk (pE F_11 G c_is_divided) (M a_11) k_11 b_11
 have c_check_of:=mk (xV F_12 G c_hidden_letter) (M a_12) k_12 b_12
 have c_with_check:=mk (tE F_13 G c_check_of) (M a_13) k_13 b_13
 have c_is_flag:=mk (aX8 F_14 G ) (M a_14) k_14 b_14
 have c_may_stand:=mk (wN F_15 G c_is_flag) (M a_15) k_15 b_15
 have c_is_hoist:=mk (xQ F_16 G c_may_stand) (M a_16) k_16 b_16
 have c_read_of:=mkX (aXA F_17 G c_is_hoist) (M a_17) k_17 b_17
 have c_Tower_read:bQK CX0 l.prog w K mg base 6 Z0 "read" ["self"] (iQ Z0):=⟨f_18,_,tH F_18 G c_with_check c_read_of,⟨a_18,y_18,k_18⟩,b_18⟩
 have c_l_number:=mk (yS F_19 G c_l_checked) (M a_19) k_19 b_19
 have c_l_is:=mk (dQK F_20 G ) (M a_20) k_20 b_20
 have c_behind_say:=mkX (tK F_21 G ) (M a_21) k_21 b_21
 have c_look_for_halyard:=mkX (lU F_22 G ) (M a_22) k_22 b_22
 have c_put_in:=mk (bQM F_23 G c_plain_locker) (M a_23) k_23 b_23
 have c_rising_lists:Cal l.prog w K mg base 9 "rising_lists" ["numbers", "many"] (cO 8):=⟨f_24,_,cXO cO pA (M a_24) k_24 b_24 (λd n c=>pW F_24 G c) 8,M a_24,k_24,b_24⟩
 have c_sets_of:=mk (aQB F_25 G c_rising_lists) (M a_25) k_25 b_25
 have c_Lack_init:vQ l.prog w K mg base 1 Zt ["self", "wants", "flags"] (gP Zt):=⟨f_26,_,wO F_26 G ,a_26,y_26,b_26⟩
 have c_others_hung:=mk (rE F_27 G ) (M a_27) k_27 b_27
 have c_wants_of:=mk (yC F_28 G ) (M a_28) k_28 b_28
 have c_choices_at:=mk (tP F_29 G ) (M a_29) k_29 b_29
 have c_choices_of:=mk (tB F_30 G c_wants_of c_choices_at) (M a_30) k_30 b_30
 have c_hoists_of:=mk (vK F_31 G ) (M a_31) k_31 b_31
 have c_asked_from:=mk (tG F_32 G ) (M a_32) k_32 b_32
 have c_hang_along:=mk (sU F_33 G ) (M a_33) k_33 b_33
 have c_hang_all:=mkX (zH F_34 G c_choices_of c_plain_locker c_hoists_of c_asked_from c_hang_along c_Lack_init) (M a_34) k_34 b_34
 have c_lack_of:=mk (aXH F_35 G c_hang_all) (M a_35) k_35 b_35
 have c_flags_on:=mk (zV F_36 G ) (M a_36) k_36 b_36
 have c_words_with:=mk (sY F_37 G c_read_of) (M a_37) k_37 b_37
 have c_least_set:=mkX (vI F_38 G c_sets_of c_Lack_init c_others_hung c_put_in c_lack_of c_flags_on c_words_with) (M a_38) k_38 b_38
 have c_Short_init:vQ l.prog w K mg base 1 Zu ["self", "flag"] (iT Zu):=⟨f_39,_,tQ F_39 G ,a_39,y_39,b_39⟩
 have c_taken:=mkX (bJB F_40 G c_plain_locker c_Short_init) (M a_40) k_40 b_40
 have c_hauled:=mkX (bXC F_41 G c_put_in c_least_set c_flags_on c_hang_all c_taken c_words_with) (M a_41) k_41 b_41
 have c_is_word:=mk (aQV F_42 G ) (M a_42) k_42 b_42
 have c_is_checked:=mk (tV F_43 G c_is_word c_is_divided) (M a_43) k_43 b_43
 have c_NoWord_init:vQ l.prog w K mg base 1 Zv ["self", "at"] (iE Zv):=⟨f_44,_,sJ F_44 G ,a_44,y_44,b_44⟩
 have c_behind_haul:=mkX (rC F_45 G c_look_for_halyard c_hauled c_is_checked c_NoWord_init) (M a_45) k_45 b_45
 have c_behind_lower:=mkX (pV F_46 G c_look_for_halyard c_put_in c_flags_on) (M a_46) k_46 b_46
 have c_behind_lose:=mkX (rG F_47 G ) (M a_47) k_47 b_47
 have c_behind_find:=mkX (sR F_48 G ) (M a_48) k_48 b_48
 have c_behind_deed:=mkX (sO F_49 G c_behind_say c_behind_haul c_behind_lower c_behind_lose c_behind_find) (M a_49) k_49 b_49
 have c_Tower_do:bQK (CXr l.prog w) l.prog w K mg base 15 Z0 "do" ["self", "deed"] (gB Z0 Zt):=⟨f_50,_,yL F_50 G c_behind_deed,⟨a_50,y_50,k_50⟩,b_50⟩
 exact dZK F_51 G c_l_begun c_l_mixed c_Tower_read c_l_checked c_l_number c_l_is c_l_word c_Tower_do
def walk {l:W.OpenLaw} {q:Program} {loose:List Str} {XP:(Q4)->Heap->Prop} {YP:World->Heap->Prop} {d:DefRec} {K:Params->W.Frag} (hn:l.most=some 63) (hdf:d.params.defaults=[])
   (hd2:((PyProof.Rows.recsOf q).find? λe=>e.name == PySem.Str.ofString "longest_on").isSome=true) (hno:∀ w:World,W.noTabs (K w.params)=true) (hY:∀ (w:World) (h:Heap),YP w h->(K w.params).In h)
   (F:∀ (w:World) (mg:Q4) (fa:Addr) (h:Heap) (c Pt:Addr),(K w.params).In h->h.Ns mainGlobals mg->mg d.name=some (.ref fa)->bZF h mg "longest_on" c->
     ∃ fd:FuncData,(∀ (s:Shared) (u:Value),BindsTo s fd ⟨[u],[]⟩ [("_law_script",u)])/\∀ base:Heap,(K w.params).In base->base.Ns mainGlobals mg->LamB mg base c Pt->FnOk l.prog w (K w.params) mg base CX0 17 fa fd ["_law_script"] (wF (K w.params) Pt)) :
   W.WalkO q loose XP YP l.row.toRowW d [] (λf vs=>PySem.call f vs):=by
 obtain ⟨d2,e⟩:=Dm.mp hd2;have e3:=List.find?_some e
 have e2:d2.name=PySem.Str.ofString "longest_on" := eq_of_beq e3
 exact L2.bJH (d2:=d2) (n:=63) (k:=17) (x := "_law_script") (CX:=λ_=>CX0) (sp:=λw=>wF (K w.params)) hn (by decide) hdf ⟨rfl,by decide,by decide⟩ (List.mem_of_find?_eq_some e) hno hY (λw mg fa h c Pt a1 a2 a3 a4=>F w mg fa h c Pt a1 a2 a3 (e2 ▸ a4)) (λ_ _ a Pt ns hl hP hS=>⟨a,ns,rfl,hS,hl,hP,λ_=>rfl⟩) λ_ _ _ _ _ z=>z
end Mine
namespace PySem.W.Fast
theorem tw5774685307507425806:True:=⟨⟩
theorem tw7346919512716896657:True:=⟨⟩
theorem tw1339960512323954538:True:=⟨⟩
theorem tw4658857989756581487:True:=⟨⟩
theorem tw10860080965269411052:True:=⟨⟩
theorem tw1483418715818422279:True:=⟨⟩
theorem tw6098012303678594988:True:=⟨⟩
theorem tw14401376497278757837:True:=⟨⟩
theorem tw12004140459542090824:True:=⟨⟩
theorem tw2286730159126411625:True:=⟨⟩
theorem tw17263780924194132754:True:=⟨⟩
theorem tw8904188362957619545:True:=⟨⟩
theorem tw3256919069624142529:True:=⟨⟩
theorem tw12940896176843476194:True:=⟨⟩
theorem tw3584632136506319200:True:=⟨⟩
theorem tw11878690867833672346:True:=⟨⟩
theorem tw7024631730996702589:True:=⟨⟩
theorem tw112272707851636811:True:=⟨⟩
theorem tw8048745424905253923:True:=⟨⟩
theorem tw12474349040161331875:True:=⟨⟩
theorem tw15996006913174544128:True:=⟨⟩
theorem tw10312070963253131808:True:=⟨⟩
theorem tw15622921750201309986:True:=⟨⟩
theorem tw5323157049239325209:True:=⟨⟩
theorem tw5139733274648338276:True:=⟨⟩
theorem tw16572255809851422204:True:=⟨⟩
theorem tw3383757603201233064:True:=⟨⟩
theorem tw6223162970731390046:True:=⟨⟩
theorem tw7428737340115705601:True:=⟨⟩
theorem tw16162703924095057685:True:=⟨⟩
theorem tw13346739372276205570:True:=⟨⟩
theorem tw332137367424539148:True:=⟨⟩
theorem tw982639689014889099:True:=⟨⟩
theorem tw3762424600359946940:True:=⟨⟩
theorem tw17629054613480441252:True:=⟨⟩
theorem tw2882059573233320216:True:=⟨⟩
theorem tw16323138228200029633:True:=⟨⟩
theorem tw14630266776575749471:True:=⟨⟩
theorem tw623806781844673575:True:=⟨⟩
theorem tw11115202421517862524:True:=⟨⟩
theorem tw1321426932593902791:True:=⟨⟩
theorem tw4465797836949221879:True:=⟨⟩
theorem tw8344133292944753275:True:=⟨⟩
theorem tw243938077021082505:True:=⟨⟩
theorem tw14713199007821113508:True:=⟨⟩
theorem tw15831114459594601288:True:=⟨⟩
theorem tw6793296349032267776:True:=⟨⟩
theorem tw7137187654893690350:True:=⟨⟩
theorem tw11430773495635790389:True:=⟨⟩
theorem tw13729707145595777153:True:=⟨⟩
theorem tw3929088571467632285:True:=⟨⟩
theorem tw18063409533111807754:True:=⟨⟩
theorem tw5984747784126203676:True:=⟨⟩
theorem tw4407561955341307763:True:=⟨⟩
theorem tw17342653080740321256:True:=⟨⟩
theorem tw11283283338678737372:True:=⟨⟩
theorem tw1182295369530910061:True:=⟨⟩
theorem tw14734043754355549988:True:=⟨⟩
theorem tw16148809157822993933:True:=⟨⟩
theorem tw12444748306690143428:True:=⟨⟩
theorem tw11160270887539366570:True:=⟨⟩
theorem tw10895177386378820207:True:=⟨⟩
theorem tw13096882912559545139:True:=⟨⟩
theorem tw18102735974484875938:True:=⟨⟩
theorem tw12447512210932055729:True:=⟨⟩
theorem tw4935536332496919883:True:=⟨⟩
theorem tw11665189040675604551:True:=⟨⟩
theorem tw18107329635620272845:True:=⟨⟩
theorem tw12340135025091360527:True:=⟨⟩
theorem tw562858821381871037:True:=⟨⟩
theorem tw8574857439566284134:True:=⟨⟩
theorem tw4162572570761542409:True:=⟨⟩
theorem tw7589562217235426397:True:=⟨⟩
theorem tw3038505428511997994:True:=⟨⟩
theorem tw14573880258706375421:True:=⟨⟩
theorem tw8834147197868951941:True:=⟨⟩
theorem tw6045560388945488522:True:=⟨⟩
theorem tw12229784374996125778:True:=⟨⟩
theorem tw6505057292542936943:True:=⟨⟩
theorem tw5766375641906834325:True:=⟨⟩
theorem tw14393005788406747697:True:=⟨⟩
theorem tw85840272832654249:True:=⟨⟩
theorem tw2664623542084833181:True:=⟨⟩
theorem tw13380737396188040235:True:=⟨⟩
theorem tw15145236560632978717:True:=⟨⟩
theorem tw8977902976456450192:True:=⟨⟩
theorem tw14857906532953588465:True:=⟨⟩
theorem tw15063802270323638775:True:=⟨⟩
theorem tw11025357250892375142:True:=⟨⟩
theorem tw11310653578941300040:True:=⟨⟩
theorem tw129857699641748834:True:=⟨⟩
theorem tw10718555748179837422:True:=⟨⟩
theorem tw15505815864191125123:True:=⟨⟩
theorem tw2874125901209466591:True:=⟨⟩
theorem tw11031859371093436501:True:=⟨⟩
theorem tw373998510124569594:True:=⟨⟩
theorem tw14344021034703792380:True:=⟨⟩
theorem tw286878814508646432:True:=⟨⟩
theorem tw2508979751785101171:True:=⟨⟩
theorem tw3653321489513665909:True:=⟨⟩
end PySem.W.Fast
open PySem PySem.W PyProof.Rows
set_option maxRecDepth 100000 in
set_option maxHeartbeats 0 in
theorem PySem.Challenge.cw_flaglocker_k58_read_of_a_tower_holds : PySem.Challenge.rw_flaglocker_k58_read_of_a_tower.Holds := by
  w_on; o_law; k_head; (case hw => w_witness2)
  k_fill
  refine Mine.walk (l:=PySem.Challenge.rw_flaglocker_k58_read_of_a_tower) rfl rfl ?hd2 ?hno (fun w h Y => PySem.W.km_in_of Y) ?F
  case hd2 => kernel_rfl!
  case hno => intro w; kernel_rfl!
  case F =>
    intro w mg fa h c Pt KX G hmg TH
    refine' Mine.all_mk KX G hmg TH ?a_0 ?l_0 ?c_0 ?k_0 ?a_1 ?l_1 ?c_1 ?k_1 ?a_2 ?l_2 ?c_2 ?k_2 ?a_3 ?l_3 ?c_3 ?k_3 ?a_4 ?l_4 ?c_4 ?k_4 ?a_5 ?l_5 ?c_5 ?k_5 ?a_6 ?l_6 ?c_6 ?k_6 ?y_7 ?a_7 ?l_7 ?c_7 ?k_7 ?a_8 ?l_8 ?c_8 ?k_8 ?a_9 ?l_9 ?c_9 ?k_9 ?a_10 ?l_10 ?c_10 ?k_10 ?a_11 ?l_11 ?c_11 ?k_11 ?a_12 ?l_12 ?c_12 ?k_12 ?a_13 ?l_13 ?c_13 ?k_13 ?a_14 ?l_14 ?c_14 ?k_14 ?a_15 ?l_15 ?c_15 ?k_15 ?a_16 ?l_16 ?c_16 ?k_16 ?a_17 ?l_17 ?c_17 ?k_17 ?y_18 ?a_18 ?l_18 ?c_18 ?k_18 ?a_19 ?l_19 ?c_19 ?k_19 ?a_20 ?l_20 ?c_20 ?k_20 ?a_21 ?l_21 ?c_21 ?k_21 ?a_22 ?l_22 ?c_22 ?k_22 ?a_23 ?l_23 ?c_23 ?k_23 ?a_24 ?l_24 ?c_24 ?k_24 ?a_25 ?l_25 ?c_25 ?k_25 ?y_26 ?a_26 ?l_26 ?c_26 ?k_26 ?a_27 ?l_27 ?c_27 ?k_27 ?a_28 ?l_28 ?c_28 ?k_28 ?a_29 ?l_29 ?c_29 ?k_29 ?a_30 ?l_30 ?c_30 ?k_30 ?a_31 ?l_31 ?c_31 ?k_31 ?a_32 ?l_32 ?c_32 ?k_32 ?a_33 ?l_33 ?c_33 ?k_33 ?a_34 ?l_34 ?c_34 ?k_34 ?a_35 ?l_35 ?c_35 ?k_35 ?a_36 ?l_36 ?c_36 ?k_36 ?a_37 ?l_37 ?c_37 ?k_37 ?a_38 ?l_38 ?c_38 ?k_38 ?y_39 ?a_39 ?l_39 ?c_39 ?k_39 ?a_40 ?l_40 ?c_40 ?k_40 ?a_41 ?l_41 ?c_41 ?k_41 ?a_42 ?l_42 ?c_42 ?k_42 ?a_43 ?l_43 ?c_43 ?k_43 ?y_44 ?a_44 ?l_44 ?c_44 ?k_44 ?a_45 ?l_45 ?c_45 ?k_45 ?a_46 ?l_46 ?c_46 ?k_46 ?a_47 ?l_47 ?c_47 ?k_47 ?a_48 ?l_48 ?c_48 ?k_48 ?a_49 ?l_49 ?c_49 ?k_49 ?y_50 ?a_50 ?l_50 ?c_50 ?k_50 ?a_51 ?l_51 ?c_51 ?k_51 ?z_range ?z_enumerate ?z_sum ?z_len ?z_list ?z_int ?z_all ?z_zip ?z_isinstance ?z_bool ?g_FLAGS ?g_LETTERS ?g_SUBSTITUTES ?g_MOST_PLACES ?q_Lack ?q_TowerError ?q_Short ?q_NoHoist ?q_Tower ?q_NoDeed ?q_NoHalyard ?q_NoWord ?f_m_Lack ?f_x_NoHoist ?f_m_Short ?f_x_NoDeed ?f_x_NoHalyard ?f_t1_TowerError ?f_t2_TowerError ?f_t3_TowerError ?f_xo_Lack ?f_xk_Lack ?f_xe1_Lack ?f_xe2_Lack ?f_xe3_Lack ?f_xe4_Lack ?f_xe5_Lack ?f_xe6_Lack ?f_xe7_Lack ?f_xe8_Lack ?f_xs_Lack ?f_xr_Lack ?f_xv_Lack ?f_xn_Lack_wants ?f_xn_Lack_flags ?f_xo_Short ?f_xk_Short ?f_xe1_Short ?f_xe2_Short ?f_xe3_Short ?f_xe4_Short ?f_xe5_Short ?f_xe6_Short ?f_xe7_Short ?f_xe8_Short ?f_xs_Short ?f_xr_Short ?f_xv_Short ?f_xn_Short_flag ?f_xo_NoWord ?f_xk_NoWord ?f_xe1_NoWord ?f_xe2_NoWord ?f_xe3_NoWord ?f_xe4_NoWord ?f_xe5_NoWord ?f_xe6_NoWord ?f_xe7_NoWord ?f_xe8_NoWord ?f_xs_NoWord ?f_xr_NoWord ?f_xv_NoWord ?f_xn_NoWord_at ?f_cl1_Tower ?f_cl2_Tower ?f_cl3_Tower ?f_cl4_Tower ?f_mk1_Tower ?f_mk2_Tower ?f_na_Tower_book ?f_na_Tower_many ?f_na_Tower_stock_at_first ?f_na_Tower_stock ?f_na_Tower_hung ?f_na_Tower_deeds ?qd_THINGS_IN ?ld_THINGS_IN ?sd_THINGS_IN ?ed_THINGS_IN
    (case q_Lack | q_TowerError | q_Short | q_NoHoist | q_Tower | q_NoDeed | q_NoHalyard | q_NoWord | a_0 | l_0 | c_0 | k_0 | a_1 | l_1 | c_1 | k_1 | a_2 | l_2 | c_2 | k_2 | a_3 | l_3 | c_3 | k_3 | a_4 | l_4 | c_4 | k_4 | a_5 | l_5 | c_5 | k_5 | a_6 | l_6 | c_6 | k_6 | a_7 | l_7 | c_7 | k_7 => k_is)
    (case a_8 | l_8 | c_8 | k_8 | a_9 | l_9 | c_9 | k_9 | a_10 | l_10 | c_10 | k_10 | a_11 | l_11 | c_11 | k_11 | a_12 | l_12 | c_12 | k_12 | a_13 | l_13 | c_13 | k_13 | a_14 | l_14 | c_14 | k_14 | a_15 | l_15 | c_15 | k_15 | a_16 | l_16 | c_16 | k_16 | a_17 | l_17 | c_17 | k_17 => k_is)
    (case a_18 | l_18 | c_18 | k_18 | a_19 | l_19 | c_19 | k_19 | a_20 | l_20 | c_20 | k_20 | a_21 | l_21 | c_21 | k_21 | a_22 | l_22 | c_22 | k_22 | a_23 | l_23 | c_23 | k_23 | a_24 | l_24 | c_24 | k_24 | a_25 | l_25 | c_25 | k_25 | a_26 | l_26 | c_26 | k_26 | a_27 | l_27 | c_27 | k_27 => k_is)
    (case a_28 | l_28 | c_28 | k_28 | a_29 | l_29 | c_29 | k_29 | a_30 | l_30 | c_30 | k_30 | a_31 | l_31 | c_31 | k_31 | a_32 | l_32 | c_32 | k_32 | a_33 | l_33 | c_33 | k_33 | a_34 | l_34 | c_34 | k_34 | a_35 | l_35 | c_35 | k_35 | a_36 | l_36 | c_36 | k_36 | a_37 | l_37 | c_37 | k_37 => k_is)
    (case a_38 | l_38 | c_38 | k_38 | a_39 | l_39 | c_39 | k_39 | a_40 | l_40 | c_40 | k_40 | a_41 | l_41 | c_41 | k_41 | a_42 | l_42 | c_42 | k_42 | a_43 | l_43 | c_43 | k_43 | a_44 | l_44 | c_44 | k_44 | a_45 | l_45 | c_45 | k_45 | a_46 | l_46 | c_46 | k_46 | a_47 | l_47 | c_47 | k_47 => k_is)
    (case a_48 | l_48 | c_48 | k_48 | a_49 | l_49 | c_49 | k_49 | a_50 | l_50 | c_50 | k_50 | a_51 | l_51 | c_51 | k_51 | z_range | z_enumerate | z_sum | z_len | z_list | z_int | z_all | z_zip | z_isinstance | z_bool | g_FLAGS | g_LETTERS | g_SUBSTITUTES | g_MOST_PLACES => k_is)
    (case f_m_Lack => kts_exm)
    (case f_x_NoHoist => k_exc)
    (case f_m_Short => kts_exm)
    (case f_x_NoDeed | f_x_NoHalyard => k_exc)
    (case f_t1_TowerError | f_t2_TowerError | f_t3_TowerError => k_is)
    (case f_xo_Lack => kernel_rfl!)
    (case f_xk_Lack | f_xe1_Lack | f_xe2_Lack | f_xe3_Lack | f_xe4_Lack | f_xe5_Lack | f_xe6_Lack | f_xe7_Lack | f_xe8_Lack | f_xs_Lack => k_is)
    (case f_xr_Lack => kernel_rfl!)
    (case f_xv_Lack | f_xn_Lack_wants | f_xn_Lack_flags => k_is)
    (case f_xo_Short => kernel_rfl!)
    (case f_xk_Short | f_xe1_Short | f_xe2_Short | f_xe3_Short | f_xe4_Short | f_xe5_Short | f_xe6_Short | f_xe7_Short | f_xe8_Short | f_xs_Short => k_is)
    (case f_xr_Short => kernel_rfl!)
    (case f_xv_Short | f_xn_Short_flag => k_is)
    (case f_xo_NoWord => kernel_rfl!)
    (case f_xk_NoWord | f_xe1_NoWord | f_xe2_NoWord | f_xe3_NoWord | f_xe4_NoWord | f_xe5_NoWord | f_xe6_NoWord | f_xe7_NoWord | f_xe8_NoWord | f_xs_NoWord => k_is)
    (case f_xr_NoWord => kernel_rfl!)
    (case f_xv_NoWord | f_xn_NoWord_at | f_cl1_Tower | f_cl2_Tower | f_cl3_Tower | f_cl4_Tower | f_mk1_Tower | f_mk2_Tower | f_na_Tower_book | f_na_Tower_many | f_na_Tower_stock_at_first | f_na_Tower_stock | f_na_Tower_hung | f_na_Tower_deeds | qd_THINGS_IN | ld_THINGS_IN => k_is)
    (case sd_THINGS_IN => kernel_rfl!)
    (case ed_THINGS_IN => exact ⟨rfl,⟨_,rfl⟩,⟨_,rfl⟩,rfl,⟨_,rfl⟩,⟨_,rfl⟩,rfl,⟨_,rfl⟩,⟨_,rfl⟩,rfl,⟨_,rfl⟩,⟨_,rfl⟩,rfl,⟨_,rfl⟩,⟨_,rfl⟩,trivial⟩)
    (case y_7 | y_18 | y_26 | y_39 | y_44 | y_50 => k_is)
