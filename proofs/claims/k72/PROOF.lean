import PyProof.Rows.All
import Wide.All
import OpenK.AllK
import Wide.FinOn
import Lean
import PyProof.EqAt
import PyProof.EqKinds
import PyProof.TupleCall
import PySem.Challenge.RW_flaglocker_k72_whole_texts_said
set_option Elab.async false
set_option compiler.extract_closed false
set_option linter.all false
set_option maxHeartbeats 4000000
set_option maxRecDepth 100000
abbrev Q0:=PySem.Value->PySem.Shared->Prop
abbrev Q2:=List (PySem.Addr × PySem.Obj)
abbrev Q4:=List (Option (List Nat))
abbrev Q5:=PySem.Str->Option PySem.Value
abbrev Q6:=List (List Nat)
abbrev Aa:=@List.getElem?_eq_getElem
abbrev Ab:=@List.length_map
abbrev Ac:=@List.getD_eq_getElem?_getD
abbrev Ad:=@PySem.wpAny_bind
abbrev Ae:=@List.getElem?_eq_some_iff
abbrev Af:=@List.getElem?_map
abbrev Ag:=@PySem.Heap.get?_push_of_some
abbrev Ah:=@List.length_append
abbrev Ai:=@List.mem_cons_of_mem
abbrev Aj:=@Nat.le_refl
abbrev Ak:=@List.mem_cons_self
abbrev Al:=@PySem.wpAny_pure
abbrev Am:=@List.mem_of_getElem?
abbrev An:=@decide_eq_true
abbrev Ao:=@Bool.false_ne_true
abbrev Ap:=@List.mem_singleton
abbrev Aq:=@List.map_cons
abbrev Ar:=@List.map_append
abbrev As:=@PySem.Heap.lt_size
abbrev Au:=@List.length_cons
abbrev Av:=@PySem.Heap.get?_push_size
abbrev Aw:=@decide_eq_false
abbrev Ax:=@List.getElem?_append_left
abbrev Ay:=@List.length_replicate
abbrev Az:=@List.size_toArray
abbrev Ba:=@List.getElem?_append_right
abbrev Bb:=@List.mem_map
abbrev Bc:=@Nat.lt_of_lt_of_le
abbrev Bd:=@Nat.ne_of_lt
abbrev Be:=@List.mem_cons
abbrev Bf:=@Option.some.inj
abbrev Bg:=@of_decide_eq_true
abbrev Bh:=@List.take_add_one
abbrev Bi:=@List.filterMap_cons_some
abbrev Bj:=@Option.map_eq_some_iff
abbrev Bk:=@List.take_of_length_le
abbrev Bl:=@PySem.F.plainAttrs_str
abbrev Bm:=@List.mem_iff_getElem
abbrev Bo:=@List.mem_append
abbrev Bp:=@List.length_take
abbrev Bq:=@List.length_range
abbrev Br:=@List.mem_append_right
abbrev Bs:=@List.append_nil
abbrev Bt:=@PySem.Heap.get?_update_other
abbrev Bu:=@PySem.PassesOwn.never
abbrev Bv:=@List.mem_filterMap
abbrev Bw:=@decide_eq_true_iff
abbrev Bx:=@List.getElem_mem
abbrev By:=@PySem.F.plainAttrs_list
abbrev Bz:=@List.filterMap_append
abbrev Ca:=@Nat.le_trans
abbrev Cb:=@List.mem_range
abbrev Cc:=@PySem.F.slot_dict_get
abbrev Cd:=@Bool.eq_false_iff
abbrev Ce:=@List.all_eq_true
abbrev Cf:=@of_decide_eq_false
abbrev Cg:=@PySem.wpAny_mono
abbrev Ci:=@List.flatten_cons
abbrev Cj:=@List.take_length
abbrev Ck:=@List.replicate_succ
abbrev Cm:=@List.map_map
abbrev Co:=@PySem.F.slot_str_split
abbrev Cp:=@PySem.F.type_str_split
abbrev Cq:=@List.filterMap_cons_none
abbrev Cr:=@List.mem_filter
abbrev Cs:=@List.nodup_cons
abbrev Ct:=@Nat.lt_irrefl
abbrev Cu:=@beq_eq_false_iff_ne
abbrev Cv:=@List.range_succ
abbrev Cw:=@List.length_drop
abbrev Cy:=@Nat.zero_le
abbrev Cz:=@List.filterMap_nil
abbrev Da:=@PySem.wpAny_holding
abbrev Dc:=@Option.isSome_iff_exists
abbrev Dd:=@List.length_filterMap_le
abbrev De:=@List.lookup_cons
abbrev Df:=@PySem.F.slot_list_append
abbrev Dg:=@PySem.F.type_list_append
abbrev Dh:=@PySem.mem_of_lookup
abbrev Di:=@List.map_congr_left
abbrev Dj:=@Array.getElem?_toList
abbrev Dk:=@congrArg
abbrev Dm:=@PyProof.Rows.callWith_type1
abbrev Dn:=@Nat.add_sub_cancel_left
abbrev Do:=@Array.getElem?_eq_some_iff
abbrev Dp:=@PySem.W.kia_one
abbrev Dq:=@List.length_set
abbrev Dr:=@PySem.F.plain_max_loop
abbrev Ds:=@Int.toNat_natCast
abbrev Dt:=@List.sum_cons
abbrev Du:=@PySem.wpAny_Call_Name_kw
abbrev Dv:=@List.mem_append_left
abbrev Dw:=@List.getElem?_replicate
abbrev Dx:=@decide_eq_decide
abbrev Dy:=@List.map_take
abbrev Dz:=@Nat.ne_of_gt
abbrev Ea:=@PySem.wpAny_pyIter_list
abbrev Eb:=@PySem.F.excBase_ValueError
abbrev Ec:=@Array.length_toList
abbrev Ed:=@PySem.F.type_dict_get
abbrev Ee:=@List.filter_append
abbrev Ef:=@List.filter_cons
abbrev Eg:=@List.map_drop
abbrev Eh:=@PySem.wpAny_typeNameOfWhole_keyiter
abbrev Ei:=@PySem.wpAny_seqItems
abbrev Ej:=@Option.map_some
abbrev Ek:=@PySem.F.slot_dict_keyiterator_next
abbrev El:=@List.filterMap_cons
abbrev Em:=@PySem.F.entry_dict_get
abbrev En:=@PySem.wpAny_field
abbrev Eo:=@Bool.and_eq_true
abbrev Ep:=@beq_self_eq_true
abbrev Er:=@List.getElem_map
abbrev Et:=@PySem.Heap.size_push
abbrev Eu:=@PySem.tupleKind_room_in1
abbrev Ew:=@List.getElem?_eq_none
abbrev Ey:=@List.length_filter_le
abbrev Ez:=@List.pairwise_iff_getElem
abbrev Fa:=@PySem.wpAny_passesOwn
abbrev Fb:=@PySem.wpAny_truthy_bool
abbrev Fc:=@PySem.codeAny_mono
abbrev Fd:=@List.append_assoc
abbrev Fe:=@PySem.Around.under_plainId
abbrev Ff:=@List.nodup_append
abbrev Fg:=@PySem.wpAny_standAt
abbrev Fh:=@List.getElem_inj
abbrev Fi:=@PySem.wpAny_getItem_str_slice
abbrev Fj:=@Nat.le_add_right
abbrev Fk:=@PySem.wpAny_tryCatch
abbrev Fl:=@PySem.F.slot_list_index
abbrev Fm:=@PySem.wpAny_call_entry
abbrev Fn:=@Nat.min_eq_right
abbrev Fo:=@PySem.call_meets
abbrev Fp:=@PySem.codeAny_builtin
abbrev Fq:=@List.length_nil
abbrev Fs:=@Nat.not_lt_zero
abbrev Ft:=@Nat.min_eq_left
abbrev Fu:=@PySem.W.methodCall_KW
abbrev Fv:=@List.getElem?_zipWith
abbrev Fw:=@List.take_append_drop
abbrev Fx:=@PySem.F.slot_str_join
abbrev Fy:=@PySem.F.type_str_join
abbrev Fz:=@PySem.wpAny_loadPart_at
abbrev Ga:=@PySem.StrLaws.glued_eq_join
abbrev Gb:=@PySem.Heap.get?_none_of_le
abbrev Gc:=@List.getElem?_set_ne
abbrev Gd:=@PySem.Calls.evalArgs_plain
abbrev Ge:=@PySem.codeAny_call_builtin
abbrev Gf:=@List.nodup_nil
abbrev Gg:=@PySem.wpAny_letGo
abbrev Gh:=@List.getElem_toArray
abbrev Gi:=@List.countP_cons
abbrev Gj:=@Nat.sub_self
abbrev Gk:=@List.ext_getElem
abbrev Gm:=@List.map_eq_nil_iff
abbrev Gp:=@PySem.plainId_quiet
abbrev Gq:=@PySem.F.slot_list_extend
abbrev Gr:=@PySem.F.type_list_extend
abbrev Gu:=@Bool.eq_iff_iff
abbrev Gv:=@Int.emod_nonneg
abbrev Gw:=@PySem.wpAny_call
abbrev Gx:=@PySem.W.callWith_K
abbrev Gy:=@List.filterMap_map
abbrev Gz:=@List.mem_replicate
abbrev Ha:=@PySem.sizeLine_eq
abbrev Hb:=@PySem.F.args_dict_get_2
abbrev He:=@List.getElem?_set_self
abbrev Hh:=@List.take_sublist
abbrev Hi:=@PySem.wpAny_Call_method_late
abbrev Hj:=@PySem.Calls.callWith_builtin
abbrev Hk:=@PySem.wpAny_newObj_type
abbrev Hl:=@PySem.wpAny_pyIter_enum
abbrev Hm:=@List.drop_of_length_le
abbrev Hn:=@PySem.F.entry_max_loop
abbrev Ho:=@List.drop_zero
abbrev Hq:=@List.length_pos_of_mem
abbrev Hr:=@List.any_cons
abbrev Ht:=@PySem.wpAny_onRaise
abbrev Hv:=@Nat.le_succ
abbrev Hw:=@Int.le_refl
abbrev Hx:=@PySem.call_meetsIn
abbrev Hy:=@PySem.typeIs_str
namespace L2
open PySem PySem.Spec PyProof.Rows
variable {A:Around}{C a b dx:Addr}{E Q:Q0}{K:W.Frag}{M:Model}{N ps:List Str}{P:Program}{body:List Stmt}{ch fp:List Addr}{e tg:Expr}{es:List Expr}{f:Value->Value->Sem Value}{h h':Heap}{i k t':Nat}{kindOf:Str->Option NameKind}{kw:List (Str×Value)}{pins:Q2}{pl:Sem Bool}{pos:Pos}{s:Shared}{u:Value}{us:List Value}{w:World}{x:Str}
abbrev Key:=Sum Int Str
def lH:Key->Value->Bool
 |.inl k,v=>Value.isInt k v
 |.inr x,v=>Value.isStrOf x v
def eZ3(w:World):Key->Int
 |.inl k=>hashInt k
 |.inr x=>hashStr w x
def bT:∀ {k:Key} {v:Value},lH k v=true->(∃i t,k=Sum.inl i/\v=Value.int i t)\/(∃x t,k=Sum.inr x/\v=Value.str x t)
 |.inl i,v,h=>by
  obtain⟨t,e⟩:=Value.isInt_shape (k:=i) (v:=v) h;exact .inl ⟨i,t,rfl,e⟩
 |.inr x,v,h=>by
  obtain⟨t,e⟩:=Value.isStrOf_shape (x:=x) (v:=v) h;exact .inr ⟨x,t,rfl,e⟩
def bQR(i:Int)(t:Tok):lH (.inl i) (.int i t)=true:=by simp[lH,Value.isInt]
def kG(x:Str)(t:Tok):lH (.inr x) (.str x t)=true:=by simp[lH,Value.isStrOf]
def eQ2(a b:Int):decide ((Sum.inl a:Key)=Sum.inl b)=(a==b):=by
 by_cases e:a=b
 ·subst e;simp
 ·have h:¬(Sum.inl a:Key)=Sum.inl b:=λq=>e (Sum.inl.inj q)
  rw[Aw h];exact(Cu.mpr e).symm
def eQ0(a b:Str):decide ((Sum.inr a:Key)=Sum.inr b)=decide (a=b):=by
 by_cases e:a=b
 ·subst e;simp
 ·have h:¬(Sum.inr a:Key)=Sum.inr b:=λq=>e (Sum.inr.inj q)
  rw[Aw h,Aw e]
def dZT(a:Int)(b:Str):decide ((Sum.inl a:Key)=Sum.inr b)=false:=Aw (λq=>nomatch q)
def eQ4(a:Str)(b:Int):decide ((Sum.inr a:Key)=Sum.inl b)=false:=Aw (λq=>nomatch q)
def bB(prog:Program)(w:World):PySem.KeyKind prog w Key where
 is:=lH
 hash:=eZ3 w
 inj:=λv a b ha hb=>by
  rcases bT ha with⟨i,t,rfl,rfl⟩|⟨x,t,rfl,rfl⟩
  ·rcases bT hb with⟨j,u,rfl,e⟩|⟨y,u,rfl,e⟩
   ·injection e with e1 _;rw[e1]
   ·exact nomatch e
  ·rcases bT hb with⟨j,u,rfl,e⟩|⟨y,u,rfl,e⟩
   ·exact nomatch e
   ·injection e with e1 _;rw[e1]
 byValue:=λk v h=>by
  rcases bT h with⟨i,t,rfl,rfl⟩|⟨x,t,rfl,rfl⟩ <;> rfl
 pyHash:=λhv h=>by
  rcases bT hv with⟨i,t,rfl,rfl⟩|⟨x,t,rfl,rfl⟩
  ·exact wpAny_pyHash_int h
  ·exact wpAny_pyHash_str h
 eqBool:=λhu hv h=>by
  rcases bT hu with⟨i,t,rfl,rfl⟩|⟨x,t,rfl,rfl⟩
  ·rcases bT hv with⟨j,u,rfl,rfl⟩|⟨y,u,rfl,rfl⟩
   ·rw[eQ2]at h;exact wpAny_eqBool_int h
   ·rw[dZT]at h;exact SeqAt.EqAt.int_str i t y u _ _ _ _ h
  ·rcases bT hv with⟨j,u,rfl,rfl⟩|⟨y,u,rfl,rfl⟩
   ·rw[eQ4]at h;exact SeqAt.EqAt.str_int x t j u _ _ _ _ h
   ·rw[eQ0]at h;exact wpAny_eqBool_str h
 «strs» := λk x t v h=>by
  rcases bT h with⟨i,u,rfl,e⟩|⟨y,u,rfl,e⟩
  ·exact nomatch e
  ·injection e with e1 _
   subst e1;cases v<;>rfl
def zU(prog:Program)(w:World)(i:Int)(t:Tok):(bB prog w).is (.inl i) (.int i t)=true:=bQR i t
def yL(prog:Program)(w:World)(x:Str)(t:Tok):(bB prog w).is (.inr x) (.str x t)=true:=kG x t
inductive V where
 |non|bl (b:Bool)|int (i:Int)|str (x:Str)|byt (b:Array UInt8)|flt (b:UInt64)|ref (a:Addr)|ty (n:String)
 deriving DecidableEq
variable {v:V}{xs:List V}
def RelV:V->Value->Prop
 |.non,u=>u=Value.none
 |.bl b,u=>u=Value.bool b
 |.int i,u=>∃t,u=Value.int i t
 |.str x,u=>∃t,u=Value.str x t
 |.byt b,u=>∃t,u=Value.bytes b t
 |.flt b,u=>∃t,u=Value.float b t
 |.ref a,u=>u=Value.ref a
 |.ty n,u=>u=Value.type n
abbrev Vals:List V->List Value->Prop:=Paired RelV
def Vals.length(r:Vals xs us):xs.length=us.length:=Paired.length r
def Vals.get:∀ {xs:List V} {us:List Value} {i:Nat} {x:V},Vals xs us->xs[i]?=some x->∃u,us[i]?=some u/\RelV x u
 |_,_,_,_,.nil,e=>by simp at e
 |_,_,0,_,.cons r _,e=>by simp at e;subst e;exact⟨_,rfl,r⟩
 |_,_,i+1,x,.cons _ t,e=>by
  obtain⟨u,h1,h2⟩:=Vals.get (i:=i) (x:=x) t (by simpa using e)
  exact⟨u,by simpa using h1,h2⟩
def Vals.set{x:V}(r:RelV x u):∀ {xs:List V} {us:List Value} (i:Nat),Vals xs us->Vals (xs.set i x) (us.set i u)
 |_,_,_,.nil=>.nil
 |_,_,0,.cons _ t=>.cons r t
 |_,_,i+1,.cons q t=>.cons q (Vals.set r i t)
def Vals.append:∀ {xs ys:List V} {us ws:List Value},Vals xs us->Vals ys ws->Vals (xs++ys) (us++ws)
 |_,_,_,_,.nil,s=>s
 |_,_,_,_,.cons r t,s=>.cons r (Vals.append t s)
def Vals.take:∀ {xs:List V} {us:List Value} (n:Nat),Vals xs us->Vals (xs.take n) (us.take n)
 |_,_,0,_=>.nil
 |_,_,_+1,.nil=>.nil
 |_,_,n+1,.cons r t=>.cons r (Vals.take n t)
def Vals.drop:∀ {xs:List V} {us:List Value} (n:Nat),Vals xs us->Vals (xs.drop n) (us.drop n)
 |_,_,0,r=>r
 |_,_,_+1,.nil=>.nil
 |_,_,n+1,.cons _ t=>Vals.drop n t
def RelO:Option V->Option Value->Prop
 |some v,some u=>RelV v u
 |none,none=>True
 |_,_=>False
def KV{κ:Type}:List (κ×V)->List (κ×Value)->Prop:=Paired λ(p:κ×V) (q:κ×Value)=>p.1=q.1/\RelV p.2 q.2
def kV:Key->V
 |.inl i=>.int i
 |.inr x=>.str x
inductive HO where
 |lst (xs:List V)
 |tup (xs:List V)
 |dK (kvs:List (Key×V))|dT (kvs:List (List Key×V))
 |set (S:Int->Bool) (n:Nat)
 |ins (C dx:Addr) (fs:List (Str×V))
 |own (x:Addr)
 |xd (fs:List (Str×V))
 |met (f x:Addr)
 |rng (lo hi:Int)
 |frz (o:Obj) (u:HO)
 |tbl (ps:Array Value)
 |ext (φ:Heap->Prop)
variable {o:HO}
abbrev Hp:=Addr->Option HO
variable {H:Hp}
def upd(H:Hp)(a:Addr)(o:HO):Hp:=λb=>if b=a then some o else H b
def aD:upd H a o a=some o:=by unfold upd;rw[if_pos rfl]
def aG(h:b≠a):upd H a o b=H b:=by unfold upd;rw[if_neg h]
def yA{u:HO}:upd (upd H a o) a u=upd H a u:=by
 funext b;unfold upd;split<;>rfl
def eJK{u:HO}(h:H a=some o)(h':H b=some u)(d:o≠u):a≠b:=by
 intro e;subst e;rw[h]at h';exact d (Bf h')
def bG(h:H a=some o)(h':H b=none):a≠b:=by
 intro e;subst e;rw[h]at h';cases h'
section
variable (P:Program) (w:World)
def ObjOk(H:Hp)(h:Heap)(a:Addr):HO->Prop
 |.lst xs=>xs.length<=sizeLine/\∃(its:List Value) (n:Nat),Vals xs its/\h.get? a=some {cls:=.type "list",data:=.seq its.toArray n}
 |.tup xs=>xs.length<=sizeLine/\∃its:List Value,Vals xs its/\IsTup h a its.toArray
 |.dK kvs=>kvs.length<=sizeLine/\(a==sysModules)=false/\∃vs,KV kvs vs/\h.DictOf (bB P w) a vs
 | .dT kvs=>kvs.length<=sizeLine/\(a == sysModules)=false/\∃ xs:List (List Key×Addr×Value),
     Paired (λ(p:List Key×V) (q:List Key×Addr×Value)=>p.1=q.1/\H q.2.1=some (.tup (p.1.map kV))/\RelV p.2 q.2.2) kvs xs/\
     ∃o es ep,h.get? a=some o/\o.ExactDict/\o.data=.dict es ep/\es.toList=xs.map (entryOfKey (tupleKind (bB P w)))/\(xs.map (·.1)).Nodup
 |.set S n=>h.SetOf (intKind P w) a S n
 | .ins C dx fs=>H dx=some (.own a)/\fs.length<=1000/\dx≠a/\h.get? a=some (W.instObj C dx)/\
     ∃mA,h.Ns1 dx mA/\(∀f,RelO (fs.lookup f) (mA f))/\PySem.Within mA (fs.map (·.1))
 |.own _=>∃o,h.get? a=some o
 |.xd fs=>∃mA,h.Ns1 a mA/\∀f,RelO (fs.lookup f) (mA f)
 |.rng lo hi=>∃t u v,h.get? a=some {cls:=.type "range",data:=.fields #[.int lo t,.int hi u,.int 1 v]}
 |.frz o u=>h.get? a=some o/\ObjOk H h a u
 |.tbl ps=>h.get? a=some {cls:=.none,data:=.fields ps}
 |.met f x=>h.get? a=some (W.methodObj (.ref f) (.ref x))
 |.ext φ=>φ h/\(∃o,h.get? a=some o)/\∀h1 h2:Heap,φ h1->(∀o,h1.get? a=some o->h2.get? a=some o)->φ h2
def HOk(H:Hp)(h:Heap):Prop:=∀a o,H a=some o->ObjOk P w H h a o
end
section
variable {H':Hp}
def ObjOk.lt(x:ObjOk P w H h a o):a<h.objs.size:=by
 cases o with
 |lst xs=>obtain⟨_,_,_,_,e⟩:=x;exact As e
 |tup xs=>obtain⟨_,_,_,p⟩:=x;exact p.lt
 |dK kvs=>obtain⟨_,_,_,_,o,_,_,e,_⟩:=x;exact As e
 |dT kvs=>obtain⟨_,_,_,_,o,_,_,e,_⟩:=x;exact As e
 |set S n=>obtain⟨o,_,_,_,e,_⟩:=x;exact As e
 |ins C dx fs=>obtain⟨_,_,_,e,_⟩:=x;exact As e
 |own y=>obtain⟨_,e⟩:=x;exact As e
 |xd fs=>obtain⟨_,⟨_,_,_,e,_⟩,_⟩:=x;exact As e
 |rng lo hi=>obtain⟨_,_,_,e⟩:=x;exact As e
 |frz ob u=>obtain⟨e,_⟩:=x;exact As e
 |tbl ps=>exact As (show h.get? a=some _ from x)
 |met f y=>exact As (show h.get? a=some _ from x)
 |ext φ=>obtain⟨_,⟨_,e⟩,_⟩:=x;exact As e
def Paired.mapP{α β:Type}{F G:α->β->Prop}:∀ {l₁:List α} {l₂:List β},Paired F l₁ l₂->(∀a b,F a b->G a b)->Paired G l₁ l₂
 |_,_,.nil,_=>.nil
 |_,_,.cons r t,f=>.cons (f _ _ r) (Paired.mapP t f)
def ObjOk.stay(x:ObjOk P w H h a o)(k:∀b u,(b=a\/H b=some (.own a))->h.get? b=some u->h'.get? b=some u)(ho:∀b,H b=some (.own a)->H' b=some (.own a))(ht:∀b xs,H b=some (.tup xs)->H' b=some (.tup xs)):ObjOk P w H' h' a o:=by
 induction o with
 |lst xs=>obtain⟨z,its,n,r,e⟩:=x;exact⟨z,its,n,r,k _ _ (.inl rfl) e⟩
 |tup xs=>obtain⟨z,its,r,ob,e,c⟩:=x;exact⟨z,its,r,ob,k _ _ (.inl rfl) e,c⟩
 |dK kvs=>obtain⟨z,y,vs,r,ob,es,ep,e,c⟩:=x;exact⟨z,y,vs,r,ob,es,ep,k _ _ (.inl rfl) e,c⟩
 |dT kvs=>
  obtain⟨z,y,xs,r,ob,es,ep,e,c⟩:=x;exact⟨z,y,xs,Paired.mapP r λp q z=>⟨z.1,ht _ _ z.2.1,z.2.2⟩,ob,es,ep,k _ _ (.inl rfl) e,c⟩
 |set S n=>obtain⟨ob,es,ep,t,e,c⟩:=x;exact⟨ob,es,ep,t,k _ _ (.inl rfl) e,c⟩
 |ins C dx fs=>
  obtain⟨d,z,ne,e,mA,⟨od,es,ep,e2,c⟩,r⟩:=x;exact⟨ho _ d,z,ne,k _ _ (.inl rfl) e,mA,⟨od,es,ep,k _ _ (.inr d) e2,c⟩,r⟩
 |own y=>obtain⟨ob,e⟩:=x;exact⟨ob,k _ _ (.inl rfl) e⟩
 |xd fs=>obtain⟨mA,⟨od,es,ep,e,c⟩,r⟩:=x;exact⟨mA,⟨od,es,ep,k _ _ (.inl rfl) e,c⟩,r⟩
 |rng lo hi=>obtain⟨t,u,v,e⟩:=x;exact⟨t,u,v,k _ _ (.inl rfl) e⟩
 |frz ob u ih=>obtain⟨e,q⟩:=x;exact⟨k _ _ (.inl rfl) e,ih q⟩
 |tbl ps=>
  have e:h.get? a=some {cls:=.none,data:=.fields ps}:=x
  show h'.get? a=some {cls:=.none,data:=.fields ps}
  exact k a _ (.inl rfl) e
 |met f y=>
  have e:h.get? a=some (W.methodObj (.ref f) (.ref y)):=x
  show h'.get? a=some (W.methodObj (.ref f) (.ref y))
  exact k a _ (.inl rfl) e
 |ext φ=>obtain⟨p,⟨o,e⟩,st⟩:=x;exact⟨st _ _ p λo q=>k _ _ (.inl rfl) q,⟨o,k _ _ (.inl rfl) e⟩,st⟩
def HOk.lt(x:HOk P w H h)(e:H a=some o):a<h.objs.size:=(x a o e).lt
def HOk.fresh(x:HOk P w H h)(e:h.objs.size<=a):H a=none:=by
 cases q:H a with
 |none=>rfl
 |some u=>exact absurd (Bc (x.lt q) e) (Ct _)
def HOk.kept(x:HOk P w H h)(k:∀b u,h.get? b=some u->h'.get? b=some u):HOk P w H h':=λa o e=>
 (x a o e).stay (λb u _ q=>k b u q) (λ_ q=>q) λ_ _ q=>q
def HOk.laid(x:HOk P w H h)(k:∀b u,h.get? b=some u->h'.get? b=some u)(hp:h.objs.size<=a)(new:ObjOk P w (upd H a o) h' a o):HOk P w (upd H a o) h':=λb u e=>by
 have hn:=x.fresh hp
 by_cases hb:b=a
 ·subst hb;rw[aD]at e;cases e;exact new
 ·rw[aG hb]at e;exact(x b u e).stay (λc v _ q=>k c v q) (λc q=>by rw[aG (bG q hn)];exact q) λc xs q=>by rw[aG (bG q hn)];exact q
end
def Rd(H:Hp)(a:Addr)(u:HO):Prop:=H a=some u\/∃o,H a=some (.frz o u)
def Rd.ok{u:HO}(r:Rd H a u)(x:HOk P w H h):ObjOk P w H h a u:=by
 rcases r with r|⟨o,r⟩
 ·exact x a u r
 ·obtain⟨_,q⟩:=x a _ r;exact q
def Mut:Option HO->Prop
 |some (.lst _)=>True
 |some (.dK _)=>True
 |some (.dT _)=>True
 |some (.set _ _)=>True
 |some (.ins _ _ _)=>True
 |some (.ext _)=>True
 |_=>False
section
variable {x e:Addr} {o':HO}
def HOk.write(ok:HOk P w H h)(mu:Mut (H x))(he:e=x\/H e=some (.own x))(k:∀b u,b≠e->h.get? b=some u->h'.get? b=some u)(heo:∃u,h'.get? e=some u)(new:ObjOk P w (upd H x o') h' x o'):HOk P w (upd H x o') h':=λb u q=>by
 have nown:∀c y,H c=some (.own y)->c≠x:=λc y r z=>by subst z;rw[r]at mu;exact mu
 have ntup:∀c xs,H c=some (.tup xs)->c≠x:=λc xs r z=>by subst z;rw[r]at mu;exact mu
 by_cases hb:b=x
 ·subst hb;rw[aD]at q;cases q;exact new
 ·rw[aG hb]at q;by_cases hbe:b=e
  ·have q':H b=some (.own x):=by
    rcases he with z|z
    ·exact absurd (hbe.trans z) hb
    ·rw[hbe];exact z
   rw[q]at q';cases q';obtain⟨v,hv⟩:=heo;exact⟨v,by rw[hbe];exact hv⟩
  ·refine(ok b u q).stay (λc v hc r=>k c v ?_ r) (λc r=>by rw[aG (nown c b r)];exact r) λc xs r=>by rw[aG (ntup c xs r)];exact r
   rcases hc with rfl|hc
   ·exact hbe
   ·rintro rfl;rcases he with z|z
    ·exact nown c b hc z
    ·rw[hc]at z;cases z;exact hb rfl
end
structure Un (fs ex:List Addr) (H H':Hp) (h h':Heap):Prop where
 keep:∀b o,h.get? b=some o->H b=none->b∉fs->b∉ex->h'.get? b=some o
 slot:∀b o,h.get? b=some o->H b=none->b∈fs->b∉ex->∃sl,h'.get? b=some {o with slots:=sl}
 free:∀b o,h.get? b=some o->H b=none->b∉ex->H' b=none
 there:∀b o,h.get? b=some o->b∉ex->∃o',h'.get? b=some o'
 tups:∀b xs,H b=some (.tup xs)->H' b=some (.tup xs)
 frzs:∀b o u,H b=some (.frz o u)->H' b=some (.frz o u)
 tbls:∀b ps,H b=some (.tbl ps)->∃more,H' b=some (.tbl (ps++more))
section
variable {fs fs' ex ex':List Addr} {H1 H2:Hp} {h1 h2:Heap} {x e:Addr}
def Un.any(u:Un fs ex H H1 h h1){ob:Obj}(q:h.get? b=some ob)(n:H b=none)(hx:b∉ex):∃sl,h1.get? b=some {ob with slots:=sl}:=by
 by_cases hb:b∈fs
 ·exact u.slot b ob q n hb hx
 ·exact⟨ob.slots,u.keep b ob q n hb hx⟩
def Un.trans(a:Un fs ex H H1 h h1)(b:Un fs ex H1 H2 h1 h2):Un fs ex H H2 h h2 where
 keep:=λc ob q n hc hx=>b.keep c ob (a.keep c ob q n hc hx) (a.free c ob q n hx) hc hx
 slot:=λc ob q n hc hx=>by
  obtain⟨sl,e1⟩:=a.slot c ob q n hc hx;obtain⟨sl',e2⟩:=b.slot c _ e1 (a.free c ob q n hx) hc hx;exact⟨sl',e2⟩
 free:=λc ob q n hx=>by
  obtain⟨o',e1⟩:=a.there c ob q hx;exact b.free c o' e1 (a.free c ob q n hx) hx
 there:=λc ob q hx=>by
  obtain⟨o',e1⟩:=a.there c ob q hx;exact b.there c o' e1 hx
 tups:=λc xs q=>b.tups c xs (a.tups c xs q)
 frzs:=λc ob xs q=>b.frzs c ob xs (a.frzs c ob xs q)
 tbls:=λc ps q=>by
  obtain⟨m1,e1⟩:=a.tbls c ps q;obtain⟨m2,e2⟩:=b.tbls c _ e1;exact⟨m1++m2,by rw[e2,Array.append_assoc]⟩
def Un.kept(k:∀b u,h.get? b=some u->h'.get? b=some u):Un fs ex H H h h':=
 ⟨λb ob q _ _ _=>k b ob q,λb ob q _ _ _=>⟨ob.slots,k b ob q⟩,λ_ _ _ n _=>n,λb ob q _=>⟨ob,k b ob q⟩,λ_ _ q=>q,λ_ _ _ q=>q,λ_ ps q=>⟨#[],by rw[q];simp⟩⟩
def Un.refl:Un fs ex H H h h:=Un.kept λ_ _ q=>q
def Un.laid(k:∀b u,h.get? b=some u->h'.get? b=some u)(hp:h.objs.size<=a)(hn:H a=none):Un fs ex H (upd H a o) h h' where
 keep:=λb u q _ _ _=>k b u q
 slot:=λb u q _ _ _=>⟨u.slots,k b u q⟩
 free:=λb u q n _=>by rw[aG (Bd (Bc (As q) hp))];exact n
 there:=λb u q _=>⟨u,k b u q⟩
 tups:=λb xs q=>by rw[aG (bG q hn)];exact q
 frzs:=λb u xs q=>by rw[aG (bG q hn)];exact q
 tbls:=λb ps q=>⟨#[],by rw[aG (bG q hn),q];simp⟩
def Un.write(mu:Mut (H x))(he:e=x\/H e=some (.own x))(k:∀b u,b≠e->h.get? b=some u->h'.get? b=some u)(heo:∃u,h'.get? e=some u):Un fs ex H (upd H x o) h h':=by
 have hx:∀b,H b=none->b≠x:=λb n z=>by subst z;rw[n]at mu;exact mu
 have hb:∀b,H b=none->b≠e:=λb n z=>by
  subst z;rcases he with r|r
  ·exact hx b n r
  ·rw[n]at r;cases r
 have hm:∀b u,H b=some u->¬Mut (some u)->b≠x:=λb u q nm z=>by subst z;rw[q]at mu;exact nm mu
 refine⟨λb u q n _ _=>k b u (hb b n) q,λb u q n _ _=>⟨u.slots,k b u (hb b n) q⟩,λb u q n _=>by rw[aG (hx b n)];exact n,λb u q _=>?_,
  λb xs q=>by rw[aG (hm b _ q λz=>z)];exact q,λb u xs q=>by rw[aG (hm b _ q λz=>z)];exact q,λb ps q=>⟨#[],by rw[aG (hm b _ q λz=>z),q];simp⟩⟩
 by_cases hbe:b=e
 ·subst hbe;exact heo
 ·exact⟨u,k b u hbe q⟩
def Un.mono(u:Un fs ex H H1 h h1)(hs:∀b∈fs,b∈fs')(hx:∀b∈ex,b∈ex'):Un fs' ex' H H1 h h1:=
 ⟨λb ob q n hb he=>u.keep b ob q n (λz=>hb (hs b z)) λz=>he (hx b z),λ_ _ q n _ he=>u.any q n λz=>he (hx _ z),λb ob q n he=>u.free b ob q n λz=>he (hx b z),λb ob q he=>u.there b ob q λz=>he (hx b z),u.tups,u.frzs,u.tbls⟩
end
def trk(h:Heap)(H:Hp):List Addr:=(List.range h.objs.size).filter λa=>(H a).isSome
def tU(h:Heap)(H:Hp):Heap:=W.hideAll h (trk h H)
def bZE(h:Heap)(H:Hp):(tU h H).objs.size=h.objs.size:=W.hideAll_size _ _
def cQL{o:Obj}(e:h.get? b=some o)(n:H b=none):(tU h H).get? b=some o:=
 W.hideAll_get _ e λhm=>by
  have q:(H b).isSome=true:=(Cr.mp hm).2
  rw[n]at q;simp at q
def cJQ{o:Obj}(e:(tU h H).get? b=some o):h.get? b=some o/\H b=none:=by
 have e':h.get? b=some o:=W.of_hideAll (trk h H) e
 refine⟨e',?_⟩;cases q:H b with
 |none=>rfl
 |some x=>
  have hm:b∈trk h H:=List.mem_filter.mpr ⟨List.mem_range.mpr (Heap.lt_size e'),by simp[q]⟩
  have z:(tU h H).get? b=none:=W.hideAll_none (trk h H) hm
  rw[z]at e;cases e
def dQU(g h:Heap)(L:Addr):List (Addr×Obj):=(List.range h.objs.size).filterMap λa=>if a=L\/(g.get? a).isSome=true then none else (h.get? a).map λo=>(a,o)
def rest(g h:Heap)(L d:Addr):List (Addr×Obj):=(dQU g h L).filter λp=>decide (p.1≠d)
structure Mod (K:W.Frag) (mg:Str->Option Value) (base:Heap):Prop where
 kin:K.In base
 glob:base.Ns mainGlobals mg
 blt:∃mb,base.Ns builtinsNs mb/\∀x:Str,x≠"__name__"->mb x=bootBuiltins x
 nolimit:base.NoLimit
structure Cx where
 prog:Program
 w:World
 K:W.Frag
 mg:Str->Option Value
 base:Heap
 A:Around
 N:List Str
 s₀:Shared
 H₀:Hp
 env:Env
 outer:List Env
 stack:List Env
 ex:List Addr
 fn:Str->Bool
 calm:Bool
 pn:List (Addr×Obj)
 xe:Value->Shared->Prop
variable {X:Cx}
def frs(l:List Env):List Addr:=l.filterMap (·.frame)
abbrev Cx.fs(X:Cx):List Addr:=frs X.outer
def Vis(sc:Scope)(x:Str):Prop:=sc.names.lookup x=some .local\/sc.names.lookup x=some .cell\/sc.names.lookup x=some .free
def Loc(sc:Scope)(x:Str):Prop:=sc.names.lookup x=some .local\/sc.names.lookup x=some .cell
def fQB(env:Env)(h:Heap)(m:Str->Option Value)(x:Str)(u:Value):Prop:=
 (env.kindOf x=some .local/\m x=some u)\/((env.kindOf x=some .cell\/env.kindOf x=some .free)/\∃c,env.cells.lookup x=some c/\h.IsCell c (some u))
structure Cx.Ok (X:Cx):Prop where
 mod:Mod X.K X.mg X.base
 kind:X.env.scope.kind=.function
 glob:X.env.globals=mainGlobals
 blt:X.env.builtins=builtinsNs
 above:X.s₀.heap.objs.size<=X.env.locals
 inj:∀x y c,X.env.cells.lookup x=some c->X.env.cells.lookup y=some c->x=y
 has:∀x,(X.env.kindOf x=some .cell\/X.env.kindOf x=some .free)->∃c,X.env.cells.lookup x=some c
 cab:∀x c,X.fn x=true->X.env.cells.lookup x=some c->X.s₀.heap.objs.size<=c
 hd:X.calm=true->X.A.handled=none
 frames:X.A.frames=some X.stack
 stk:X.stack=X.outer\/(X.stack=X.env::X.outer/\X.env.frame=some X.env.locals)
 exf:∀b∈X.ex,b≠X.env.locals/\∀x c,X.env.cells.lookup x=some c->c≠b
 bs:∀b o,X.base.get? b=some o->X.s₀.heap.get? b=some o/\X.H₀ b=none
 bsz:X.base.objs.size<=X.s₀.heap.objs.size
 noex:∀b o,X.base.get? b=some o->b∉X.ex
 exfs:∀b∈X.ex,b∉X.fs
 funs:X.s₀.heap.FunFrames X.base X.outer
 frf:∀b∈X.fs,X.H₀ b=none
structure Inv (X:Cx) (pins:List (Addr×Obj)) (σ:List (Option V)) (H:Hp) (s:Shared):Prop where
 ok:X.Ok
 os:s.os=X.s₀.os
 bare:AllBare s.gens
 base:Un X.fs X.ex X.H₀ H X.s₀.heap s.heap
 loc:∃m,s.heap.Ns X.env.locals m/\∀(i:Nat) (x:Str) (v:V),X.N[i]?=some x->σ[i]?=some (some v)->Vis X.env.scope x->∃u,RelV v u/\fQB X.env s.heap m x u
 cell:∀x c,X.env.cells.lookup x=some c->∃v,s.heap.IsCell c v
 free:H X.env.locals=none
 freeC:∀x c,X.env.cells.lookup x=some c->H c=none
 pin:∀p∈X.pn++pins,s.heap.get? p.1=some p.2/\H p.1=none/\p.1≠X.env.locals/\p.1∉X.fs/\∀v,p.2.data≠.cell v
 hok:HOk X.prog X.w H s.heap
 len:σ.length=X.N.length
section
variable {σ:List (Option V)} {H':Hp}
def Cx.Ok.nofr(ok:X.Ok){o:Obj}(e:X.base.get? b=some o):b∉X.fs:=λhb=>by
 have:=(ok.funs.mem hb).1
 rw[e]at this;cases this
def Inv.bs(I:Inv X pins σ H s):∀b o,X.base.get? b=some o->s.heap.get? b=some o/\H b=none:=λb o e=>
 ⟨I.base.keep b o (I.ok.bs b o e).1 (I.ok.bs b o e).2 (I.ok.nofr e) (I.ok.noex b o e),I.base.free b o (I.ok.bs b o e).1 (I.ok.bs b o e).2 (I.ok.noex b o e)⟩
def Inv.bk(I:Inv X pins σ H s):∀b o,X.base.get? b=some o->s.heap.get? b=some o:=λb o e=>(I.bs b o e).1
def Inv.mod(I:Inv X pins σ H s):Mod X.K X.mg X.base:=I.ok.mod
def Inv.kIn(I:Inv X pins σ H s):X.K.In s.heap:=I.ok.mod.kin.keeps I.bk
def Inv.nolimit(I:Inv X pins σ H s):s.heap.NoLimit:=I.ok.mod.nolimit.keeps I.bk
def Inv.fr(I:Inv X pins σ H s):∃m,Fr X.base X.env.locals s.heap m:=
 let ⟨m,hn,_⟩:=I.loc
 ⟨m,hn,I.bk,Ca I.ok.bsz I.ok.above⟩
def Inv.lt(I:Inv X pins σ H s):X.env.locals<s.heap.objs.size:=let ⟨_,hn,_⟩:=I.loc;hn.lt
def Inv.sz(I:Inv X pins σ H s):X.s₀.heap.objs.size<=s.heap.objs.size:=Ca I.ok.above (Nat.le_of_lt I.lt)
def Inv.nofs(I:Inv X pins σ H s)(h:s.heap.objs.size<=a):a∉X.fs:=λhb=>by
 obtain⟨_,o,ho,_⟩:=I.ok.funs.mem hb;exact absurd (Bc (As ho) (Ca I.sz h)) (Ct _)
def Inv.cne(I:Inv X pins σ H s):∀x c,X.env.cells.lookup x=some c->c≠X.env.locals:=λx c e z=>by
 obtain⟨v,o,ho,hd⟩:=I.cell x c e;obtain⟨m,⟨o',es,ep,ho',hd',_⟩,_⟩:=I.loc;rw[z,ho']at ho;cases ho;rw[hd']at hd;cases hd
def Inv.funs(I:Inv X pins σ H s):s.heap.FunFrames X.base X.outer:=by
 have all:∀(l:List Env),(∀b∈frs l,b∈X.fs)->X.s₀.heap.FunFrames X.base l->s.heap.FunFrames X.base l:=by
  intro l;induction l with
  |nil=>intro _ _;trivial
  |cons env r ih=>
   intro hs hl;obtain⟨hk,⟨L,o,hf,hn,ho,hd⟩,hr⟩:=hl;have hL:L∈X.fs:=hs L (by unfold frs;rw[El,hf];exact Ak)
   obtain⟨sl,e⟩:=I.base.slot L o ho (I.ok.frf L hL) hL λz=>I.ok.exfs L z hL;exact⟨hk,⟨L,_,hf,hn,e,hd⟩,ih (λb hb=>hs b (by unfold frs;rw[El,hf];exact Ai _ hb)) hr⟩
 exact all X.outer (λ_ hb=>hb) I.ok.funs
def Inv.stack(I:Inv X pins σ H s):s.heap.FunFrames X.base X.stack:=by
 rcases I.ok.stk with e|⟨e,hf⟩
 ·rw[e];exact I.funs
 ·rw[e];obtain⟨m,hn,_⟩:=I.loc;refine .cons (by rw[I.ok.kind];decide) hf hn ?_ I.funs
  exact Gb (Ca I.ok.bsz I.ok.above)
def Inv.stkSub(I:Inv X pins σ H s):∀b∈frs X.stack,b∈X.env.locals::X.fs:=λb hb=>by
 rcases I.ok.stk with e|⟨e,hf⟩
 ·rw[e]at hb;exact Ai _ hb
 ·rw[e]at hb;unfold frs at hb;rw[El,hf]at hb;exact hb
def Inv.stkFree(I:Inv X pins σ H s):∀b∈frs X.stack,H b=none:=λb hb=>by
 rcases Be.mp (I.stkSub b hb) with e|hb
 ·rw[e];exact I.free
 ·obtain⟨_,o,ho,_⟩:=I.ok.funs.mem hb;exact I.base.free b o ho (I.ok.frf b hb) λz=>I.ok.exfs b z hb
def Inv.step{g':Array GenState}{d':Drawn}{ch:List Addr}(I:Inv X pins σ H s)(hch:∀b∈ch,(b∈X.ex\/X.s₀.heap.objs.size<=b)/\b≠X.env.locals/\(∀x c,X.env.cells.lookup x=some c->c≠b)/\∀p∈X.pn++pins,p.1≠b)(keep:∀b o,b≠X.env.locals->b∉X.fs->b∉ch->s.heap.get? b=some o->H b=none->h'.get? b=some o)(slot:∀b o,b≠X.env.locals->b∈X.fs->b∉ch->s.heap.get? b=some o->H b=none->∃sl,h'.get? b=some {o with slots:=sl})(free:∀b o,b∉ch->s.heap.get? b=some o->H b=none->H' b=none)(there:∀b o,b∉ch->s.heap.get? b=some o->∃o',h'.get? b=some o')(tups:∀b xs,H b=some (.tup xs)->H' b=some (.tup xs))(frzs:∀b o u,H b=some (.frz o u)->H' b=some (.frz o u))(tbls:∀b ps,H b=some (.tbl ps)->∃more,H' b=some (.tbl (ps++more)))(ns:∀m,s.heap.Ns X.env.locals m->h'.Ns X.env.locals m)(hok:HOk X.prog X.w H' h')(hg:AllBare g'):Inv X pins σ H' {s with heap:=h',gens:=g',drawn:=d',toks:=t'}:=by
 have neL:∀b o,X.s₀.heap.get? b=some o->b≠X.env.locals:=λb o e=>Bd (Bc (As e) I.ok.above)
 have neC:∀b o,X.s₀.heap.get? b=some o->b∉X.ex->b∉ch:=λb o e hx hb=>by
  rcases (hch b hb).1 with z|z
  ·exact hx z
  ·exact absurd (Bc (As e) z) (Ct _)
 have cellK:∀x c,X.env.cells.lookup x=some c->∀v,s.heap.IsCell c v->h'.IsCell c v:=λx c e v ⟨o,ho,hd⟩=>by
  have nch:c∉ch:=λz=>(hch c z).2.2.1 x c e rfl
  by_cases hc:c∈X.fs
  ·obtain⟨sl,q⟩:=slot c o (I.cne x c e) hc nch ho (I.freeC x c e);exact⟨_,q,hd⟩
  ·exact⟨o,keep c o (I.cne x c e) hc nch ho (I.freeC x c e),hd⟩
 refine⟨I.ok,I.os,hg,⟨λb o e n hb hx=>?_,λb o e n hb hx=>?_,λb o e n hx=>?_,λb o e hx=>?_,λb xs e=>tups b xs (I.base.tups b xs e),λb o xs e=>frzs b o xs (I.base.frzs b o xs e),λb ps e=>?_⟩,?_,λx c e=>?_,?_,λx c e=>?_,λp hp=>?_,hok,I.len⟩
 ·exact keep b o (neL b o e) hb (neC b o e hx) (I.base.keep b o e n hb hx) (I.base.free b o e n hx)
 ·obtain⟨sl,e1⟩:=I.base.slot b o e n hb hx;obtain⟨sl',e2⟩:=slot b _ (neL b o e) hb (neC b o e hx) e1 (I.base.free b o e n hx);exact⟨sl',e2⟩
 ·obtain⟨o',e1⟩:=I.base.there b o e hx;exact free b o' (neC b o e hx) e1 (I.base.free b o e n hx)
 ·obtain⟨o',e1⟩:=I.base.there b o e hx;exact there b o' (neC b o e hx) e1
 ·obtain⟨m1,e1⟩:=I.base.tbls b ps e;obtain⟨m2,e2⟩:=tbls b _ e1;exact⟨m1++m2,by rw[e2,Array.append_assoc]⟩
 ·obtain⟨m,hn,hl⟩:=I.loc;refine⟨m,ns m hn,λi x v e1 e2 e3=>?_⟩;obtain⟨u,r,l⟩:=hl i x v e1 e2 e3;refine⟨u,r,?_⟩;rcases l with l|⟨k,c,e,z⟩
  ·exact .inl l
  ·exact .inr ⟨k,c,e,cellK x c e _ z⟩
 ·obtain⟨v,z⟩:=I.cell x c e;exact⟨v,cellK x c e v z⟩
 ·obtain⟨m,⟨o,_,_,ho,_⟩,_⟩:=I.loc;exact free _ o (λz=>(hch _ z).2.1 rfl) ho I.free
 ·obtain⟨v,o,ho,hd⟩:=I.cell x c e;exact free c o (λz=>(hch c z).2.2.1 x c e rfl) ho (I.freeC x c e)
 ·obtain⟨e,n,ne,nf,d⟩:=I.pin p hp;have nch:p.1∉ch:=λz=>(hch p.1 z).2.2.2 p hp rfl
  exact⟨keep p.1 p.2 ne nf nch e n,free p.1 p.2 nch e n,ne,nf,d⟩
def Inv.un{t':Nat}(I:Inv X pins σ H s)(u:Un X.fs [] H H' s.heap h')(hok:HOk X.prog X.w H' h'):Inv X pins σ H' {s with heap:=h',toks:=t'}:=by
 obtain⟨m,⟨o,es,ep,ho,r⟩,_⟩:=id I.loc;obtain⟨sl,hL⟩:=u.any ho I.free (by simp)
 exact I.step (g':=s.gens) (d':=s.drawn) (ch:=[]) (λ_ z=>nomatch z) (λb o _ hb _ e n=>u.keep b o e n hb (by simp)) (λb o _ hb _ e n=>u.slot b o e n hb (by simp)) (λb o _ e n=>u.free b o e n (by simp)) (λb o _ e=>u.there b o e (by simp)) u.tups u.frzs u.tbls (λm' hm=>by
  obtain⟨o',es',ep',ho',r'⟩:=hm;rw[ho]at ho';cases ho';exact⟨_,es',ep',hL,r'⟩) hok I.bare
def Inv.call{g':Array GenState}{t':Nat}{d':Drawn}{ch:List Addr}(I:Inv X pins σ H s)(u:Un (frs X.stack) ch H H' s.heap h')(hok:HOk X.prog X.w H' h')(hg:AllBare g')(hch:∀b∈ch,(b∈X.ex\/X.s₀.heap.objs.size<=b)/\b≠X.env.locals/\(∀x c,X.env.cells.lookup x=some c->c≠b)/\∀p∈X.pn++pins,p.1≠b):Inv X pins σ H' {s with heap:=h',gens:=g',drawn:=d',toks:=t'}:=by
 obtain⟨m,⟨o,es,ep,ho,r⟩,_⟩:=id I.loc;obtain⟨sl,hL⟩:=u.any ho I.free λz=>(hch _ z).2.1 rfl;exact I.step (ch:=ch) hch (λb o hL hb hc e n=>u.keep b o e n (λz=>(Be.mp (I.stkSub b z)).elim hL hb) hc) (λb o _ _ hc e n=>u.any e n hc) (λb o hc e n=>u.free b o e n hc) (λb o hc e=>u.there b o e hc) u.tups u.frzs u.tbls (λm' hm=>by
  obtain⟨o',es',ep',ho',r'⟩:=hm;rw[ho]at ho';cases ho';exact⟨_,es',ep',hL,r'⟩) hok hg
def Inv.turned{t':Nat}{it:Addr}(I:Inv X pins σ H s)(k:∀b o,b≠it->s.heap.get? b=some o->h'.get? b=some o)(hn:H it=none)(hL:it≠X.env.locals)(h1:it∈X.ex\/X.s₀.heap.objs.size<=it)(h2:∀x c,X.env.cells.lookup x=some c->c≠it)(h3:∀p∈X.pn++pins,p.1≠it):Inv X pins σ H {s with heap:=h',toks:=t'}:=by
 have nit:∀b u,H b=some u->b≠it:=λb u e z=>by rw[z,hn]at e;cases e
 refine I.step (g':=s.gens) (d':=s.drawn) (ch:=[it]) (λb hb=>?_) (λb o _ _ hc e _=>k b o (λz=>hc (by simp[z])) e) (λb o _ _ hc e _=>⟨o.slots,k b o (λz=>hc (by simp[z])) e⟩) (λ_ _ _ _ n=>n)
  (λb o hc e=>⟨o,k b o (λz=>hc (by simp[z])) e⟩) (λ_ _ e=>e) (λ_ _ _ e=>e) (λb ps e=>⟨#[],by rw[e];simp⟩) (λm hm=>?_) (λb u e=>?_) I.bare
 ·have e:b=it:=by simpa using hb
  subst e;exact⟨h1,hL,h2,h3⟩
 ·obtain⟨o,es,ep,ho,r⟩:=hm;exact⟨o,es,ep,k _ o (Ne.symm hL) ho,r⟩
 ·refine(I.hok b u e).stay (λc v hc q=>k c v ?_ q) (λ_ q=>q) λ_ _ q=>q;rcases hc with z|z
  ·rw[z];exact nit b u e
  ·exact nit c _ z
def Inv.tok(I:Inv X pins σ H s)(t:Nat):Inv X pins σ H {s with toks:=t}:=I.un (h':=s.heap) (t':=t) Un.refl I.hok
def Inv.kept{t':Nat}(I:Inv X pins σ H s)(k:∀b u,s.heap.get? b=some u->h'.get? b=some u):Inv X pins σ H {s with heap:=h',toks:=t'}:=I.un (Un.kept k) (I.hok.kept k)
def Inv.laid{a:Addr}{o:HO}{t':Nat}(I:Inv X pins σ H s)(k:∀b u,s.heap.get? b=some u->h'.get? b=some u)(hp:s.heap.objs.size<=a)(new:ObjOk X.prog X.w (upd H a o) h' a o):Inv X pins σ (upd H a o) {s with heap:=h',toks:=t'}:=I.un (Un.laid k hp (I.hok.fresh hp)) (I.hok.laid k hp new)
def Inv.write{x e:Addr}{o:HO}{t':Nat}(I:Inv X pins σ H s)(mu:Mut (H x))(he:e=x\/H e=some (.own x))(k:∀b u,b≠e->s.heap.get? b=some u->h'.get? b=some u)(heo:∃u,h'.get? e=some u)(new:ObjOk X.prog X.w (upd H x o) h' x o):Inv X pins σ (upd H x o) {s with heap:=h',toks:=t'}:=I.un (Un.write mu he k heo) (I.hok.write mu he k heo new)
def Inv.weak{σ':List (Option V)}(I:Inv X pins σ H s)(hl:σ'.length=σ.length)(w:∀(i:Nat) v,σ'[i]?=some (some v)->σ[i]?=some (some v)):Inv X pins σ' H s:=
 ⟨I.ok,I.os,I.bare,I.base,let ⟨m,hn,hl'⟩:=I.loc;⟨m,hn,λi x v e1 e2 e3=>hl' i x v e1 (w i v e2) e3⟩,I.cell,I.free,I.freeC,I.pin,I.hok,hl.trans I.len⟩
def Inv.pins_of{pins':Q2}(I:Inv X pins σ H s)(h:∀p∈pins',s.heap.get? p.1=some p.2/\H p.1=none/\p.1≠X.env.locals/\p.1∉X.fs/\∀v,p.2.data≠.cell v):Inv X pins' σ H s:=
 ⟨I.ok,I.os,I.bare,I.base,I.loc,I.cell,I.free,I.freeC,λp hp=>(Bo.mp hp).elim (λz=>I.pin p (Dv _ z)) (h p),I.hok,I.len⟩
def zN(hN:N.Nodup){j:Nat}(a:N[i]?=some x)(b:N[j]?=some x):i=j:=by
 obtain⟨h1,e1⟩:=Ae.mp a;obtain⟨h2,e2⟩:=Ae.mp b;exact(Fh hN).mp (e1.trans e2.symm)
def vK{Q:Unit->Shared->Prop}(I:Inv X pins σ H s)(hN:X.N.Nodup)(hi:X.N[i]?=some x)(hx:Loc X.env.scope x)(r:RelV v u)(h:∀s',Inv X pins (σ.set i (some v)) H s'->(∃a,Heap.SameBut a s.heap s'.heap/\(a=X.env.locals\/X.env.cells.lookup x=some a))->Q () s')(hf:X.fn x=true\/X.env.scope.names.lookup x=some .local:=by first|exact .inl rfl|exact .inr rfl|assumption):wpAny M A (storeName X.env x u) Q E s:=by
 obtain⟨m,hn,hl⟩:=id I.loc;have hcls:(X.env.scope.kind == .class || (X.env.scope.kind == .module&&X.env.locals != X.env.globals))=false:=by rw[I.ok.kind];rfl
 have hiσ:i<σ.length:=by rw[I.len];exact(Ae.mp hi).1
 have cne:=I.cne
 have tracked:∀ {a:Addr} {h':Heap},(∃o,s.heap.get? a=some o/\H a=none)->Heap.SameBut a s.heap h'->HOk X.prog X.w H h':=fun {a h'} ha hs b ob e=>by
  obtain⟨_,_,hfree⟩:=ha;refine(I.hok b ob e).stay (λc w' hc q=>(hs.2 c ?_).trans q) (λ_ q=>q) λ_ _ q=>q;rintro rfl;rcases hc with rfl|hc
  ·rw[hfree]at e;cases e
  ·rw[hfree]at hc;cases hc
 rcases hx with hk|hk
 ·refine wpAny_storeName_local hk hn (λh' hn' hs=>?_) hcls;obtain⟨oL,_,_,hoL,_⟩:=id hn;refine h _ ⟨I.ok,I.os,I.bare,⟨λb o e n hb hx=>?_,λb o e n hb hx=>?_,I.base.free,λb o e hx=>?_,I.base.tups,I.base.frzs,I.base.tbls⟩,⟨_,hn',λj y v' e1 e2 e3=>?_⟩,λy c e=>?_,I.free,I.freeC,λp hp=>?_,tracked ⟨oL,hoL,I.free⟩ hs,by simpa using I.len⟩ ⟨_,hs,.inl rfl⟩
  ·exact(hs.2 b (Bd (Bc (As e) I.ok.above))).trans (I.base.keep b o e n hb hx)
  ·obtain⟨sl,e1⟩:=I.base.slot b o e n hb hx;exact⟨sl,(hs.2 b (Bd (Bc (As e) I.ok.above))).trans e1⟩
  ·obtain⟨o',e1⟩:=I.base.there b o e hx;exact⟨o',(hs.2 b (Bd (Bc (As e) I.ok.above))).trans e1⟩
  ·by_cases hj:j=i
   ·subst hj;rw[hi]at e1;cases e1;rw[He hiσ]at e2;cases e2;exact⟨u,r,.inl ⟨hk,by simp⟩⟩
   ·rw[Gc (Ne.symm hj)]at e2;obtain⟨u',r',q⟩:=hl j y v' e1 e2 e3;refine⟨u',r',?_⟩;rcases q with⟨k,e⟩|⟨k,c,e,z⟩
    ·refine .inl ⟨k,?_⟩;have:y≠x:=λe=>hj (zN hN e1 (e▸hi))
     simp[this,e]
    ·exact .inr ⟨k,c,e,z.sameBut hs (cne y c e)⟩
  ·obtain⟨w',z⟩:=I.cell y c e;exact⟨w',z.sameBut hs (cne y c e)⟩
  ·obtain⟨e,n,ne,nf,d⟩:=I.pin p hp;exact⟨(hs.2 p.1 ne).trans e,n,ne,nf,d⟩
 ·have hfn:X.fn x=true:=by
   rcases hf with z|z
   ·exact z
   ·rw[z]at hk;cases hk
  obtain⟨c,hc⟩:=I.ok.has x (.inl hk);obtain⟨w',z⟩:=I.cell x c hc;refine wpAny_storeName_cell I.ok.kind hk hc z (λh' hc' hs=>?_);obtain⟨oc,hoc,hocd⟩:=id z;refine h {s with heap:=h'} ⟨I.ok,I.os,I.bare,⟨λb o e n hb hx=>?_,λb o e n hb hx=>?_,I.base.free,λb o e hx=>?_,I.base.tups,I.base.frzs,I.base.tbls⟩,⟨m,hn.sameBut hs (Ne.symm (cne x c hc)),λj y v' e1 e2 e3=>?_⟩,λy c' e=>?_,I.free,I.freeC,λp hp=>?_,tracked ⟨oc,hoc,I.freeC x c hc⟩ hs,by simpa using I.len⟩ ⟨c,hs,.inr hc⟩
  ·exact(hs.2 b (Bd (Bc (As e) (I.ok.cab x c hfn hc)))).trans (I.base.keep b o e n hb hx)
  ·obtain⟨sl,e1⟩:=I.base.slot b o e n hb hx;exact⟨sl,(hs.2 b (Bd (Bc (As e) (I.ok.cab x c hfn hc)))).trans e1⟩
  ·obtain⟨o',e1⟩:=I.base.there b o e hx;exact⟨o',(hs.2 b (Bd (Bc (As e) (I.ok.cab x c hfn hc)))).trans e1⟩
  ·by_cases hj:j=i
   ·subst hj;rw[hi]at e1;cases e1;rw[He hiσ]at e2;cases e2;exact⟨u,r,.inr ⟨.inl hk,c,hc,hc'⟩⟩
   ·rw[Gc (Ne.symm hj)]at e2;obtain⟨u',r',q⟩:=hl j y v' e1 e2 e3;refine⟨u',r',?_⟩;rcases q with q|⟨k,c',e,z'⟩
    ·exact .inl q
    ·refine .inr ⟨k,c',e,z'.sameBut hs ?_⟩;rintro rfl;exact hj (zN hN e1 (I.ok.inj _ _ _ e hc▸hi))
  ·by_cases hcc:c'=c
   ·subst hcc;exact⟨_,hc'⟩
   ·obtain⟨w2,z2⟩:=I.cell y c' e;exact⟨w2,z2.sameBut hs hcc⟩
  ·obtain⟨e,n,ne,nf,d⟩:=I.pin p hp;refine⟨(hs.2 p.1 ?_).trans e,n,ne,nf,d⟩;intro q;rw[q,hoc]at e;have q':oc=p.2:=Bf e
   exact d w' (by rw[<-q'];exact hocd)
def zL{Q:Unit->Shared->Prop}(I:Inv X pins σ H s)(hN:X.N.Nodup)(hi:X.N[i]?=some x)(hx:Loc X.env.scope x)(r:RelV v u)(h:∀s',Inv X pins (σ.set i (some v)) H s'->Q () s')(hf:X.fn x=true\/X.env.scope.names.lookup x=some .local:=by first|exact .inl rfl|exact .inr rfl|assumption):wpAny M A (storeName X.env x u) Q E s:=
 vK I hN hi hx r (λs' I' _=>h s' I') hf
def Inv.call'{s':Shared}{ch:List Addr}(I:Inv X pins σ H s)(ho:s'.os=s.os)(u:Un (frs X.stack) ch H H' s.heap s'.heap)(hok:HOk X.prog X.w H' s'.heap)(hg:AllBare s'.gens)(hch:∀b∈ch,(b∈X.ex\/X.s₀.heap.objs.size<=b)/\b≠X.env.locals/\(∀x c,X.env.cells.lookup x=some c->c≠b)/\∀p∈X.pn++pins,p.1≠b):Inv X pins σ H' s':=by
 obtain⟨h',g',d',t',o'⟩:=s';have e:o'=s.os:=ho
 subst e;exact I.call (g':=g') (t':=t') (d':=d') u hok hg hch
end
abbrev XK:=Value->Option Addr->Hp->Prop
abbrev St:=List (Option V)
variable {σ:St}
abbrev VK:=V->Hp->Prop
abbrev TE:=St->Hp->VK->Prop
variable {ta tb te:TE}
abbrev TT:=St->Hp->(Bool->Hp->Prop)->Prop
abbrev TA:=St->Hp->(List V->Hp->Prop)->Prop
variable {t:TA}
structure Ends where
 nx:St->Hp->Prop
 rt:VK
 bk:St->Hp->Prop:=λ_ _=>False
 ct:St->Hp->Prop:=λ_ _=>False
abbrev TS:=Ends->St->Hp->Prop
def EP(X:Cx)(pins:List (Addr×Obj))(σ:St)(Q:VK)(u:Value)(s':Shared):Prop:=∃v H',Inv X pins σ H' s'/\RelV v u/\Q v H'
def TP(X:Cx)(pins:List (Addr×Obj))(σ:St)(Q:Bool->Hp->Prop)(b:Bool)(s':Shared):Prop:=∃H',Inv X pins σ H' s'/\Q b H'
def AP(X:Cx)(pins:List (Addr×Obj))(σ:St)(Q:List V->Hp->Prop)(us:List Value)(s':Shared):Prop:=∃vs H',Inv X pins σ H' s'/\Vals vs us/\Q vs H'
def SP(X:Cx)(pins:List (Addr×Obj))(D:Ends)(f:Flow)(s':Shared):Prop:=
 match f with
 |.next=>∃σ' H',Inv X pins σ' H' s'/\D.nx σ' H'
 |.brk=>∃σ' H',Inv X pins σ' H' s'/\D.bk σ' H'
 |.cont=>∃σ' H',Inv X pins σ' H' s'/\D.ct σ' H'
 |.ret u=>∃v σ' H',Inv X pins σ' H' s'/\RelV v u/\D.rt v H'
def PE(X:Cx)(e:Expr)(t:TE):Prop:=
 ∀(pins:Q2) (s:Shared) (σ:St) (H:Hp) (Q:VK),Inv X pins σ H s->t σ H Q->wpAny (model X.prog X.w) X.A (eval e X.env) (EP X pins σ Q) X.xe s
def PT(X:Cx)(e:Expr)(t:TT):Prop:=
 ∀(pins:Q2) (s:Shared) (σ:St) (H:Hp) (Q:Bool->Hp->Prop),Inv X pins σ H s->t σ H Q->wpAny (model X.prog X.w) X.A (isTrue e X.env (eval e X.env)) (TP X pins σ Q) X.xe s
def PW(X:Cx)(e:Expr)(t:TT):Prop:=
 ∀(whole:Sem Value) (pins:Q2) (s:Shared) (σ:St) (H:Hp) (Q:Bool->Hp->Prop),Inv X pins σ H s->t σ H Q->wpAny (model X.prog X.w) X.A (isTrue e X.env whole) (TP X pins σ Q) X.xe s
def PW.pt{t:TT}(h:PW X e t):PT X e t:=h _
def PA(X:Cx)(es:List Expr)(t:TA):Prop:=
 ∀(pos:Pos) (pins:Q2) (s:Shared) (σ:St) (H:Hp) (Q:List V->Hp->Prop),Inv X pins σ H s->t σ H Q->wpAny (model X.prog X.w) X.A (spliced (backTo pos (starEach es X.env))) (AP X pins σ Q) X.xe s
def PS(X:Cx)(st:Stmt)(t:TS):Prop:=
 ∀(pins:Q2) (s:Shared) (σ:St) (H:Hp) (D:Ends),Inv X pins σ H s->t D σ H->wpAny (model X.prog X.w) X.A (exec st X.env) (SP X pins D) X.xe s
def PSs(X:Cx)(st:List Stmt)(t:TS):Prop:=
 ∀(pins:Q2) (s:Shared) (σ:St) (H:Hp) (D:Ends),Inv X pins σ H s->t D σ H->wpAny (model X.prog X.w) X.A (execs st X.env) (SP X pins D) X.xe s
def thn{α:Type}{t:Sem α}{Q Q':α->Shared->Prop}(h:wpAny M A t Q E s)(hQ:∀a s,Q a s->Q' a s):wpAny M A t Q' E s:=Cg h hQ λ_ _ x=>x
section
def bin{a b:Expr}(ha:PE X a ta)(hb:PE X b tb){R:V->V->Hp->Prop}(I:Inv X pins σ H s)(h:ta σ H λx H1=>tb σ H1 λy H2=>R x y H2){α:Type}{Q:α->Shared->Prop}{f:Value->Value->Sem α}(hf:∀v u s2 x y H2,Inv X pins σ H2 s2->RelV x v->RelV y u->R x y H2->wpAny (model X.prog X.w) X.A (f v u) Q X.xe s2):wpAny (model X.prog X.w) X.A (eval a X.env) (λv s₁=>wpAny (model X.prog X.w) X.A (eval b X.env) (λu s₂=>wpAny (model X.prog X.w) X.A (f v u) Q X.xe s₂) X.xe s₁) X.xe s:=by
 refine thn (ha pins s σ H _ I h) λv s1 ⟨x,H1,I1,r1,q1⟩=>?_;refine thn (hb pins s1 σ H1 _ I1 q1) λu s2 ⟨y,H2,I2,r2,q2⟩=>?_;exact hf v u s2 x y H2 I2 r1 r2 q2
def eJD(i:Nat):TE:=λσ H Q=>∃v,σ[i]?=some (some v)/\Q v H
def tC(v:V):TE:=λ_ H Q=>Q v H
def dJL(hN:X.N[i]?=some x)(hv:Vis X.env.scope x)(hd:(x==("__debug__" : Str))=false:=by decide)(hcd:(x==("__classdict__" : Str))=false:=by decide):PE X (.Name x pos) (eJD i):=by
 intro pins s σ H Q I h;obtain⟨v,e,h⟩:=h;obtain⟨m,hn,hl⟩:=I.loc;obtain⟨u,r,l⟩:=hl i x v hN e hv;have fin:EP X pins σ Q u s:=⟨v,H,I,r,h⟩
 rcases l with⟨hk,hm⟩|⟨hk,c,hc,hcell⟩
 ·exact wpAny_Name (wpAny_loadName_local I.ok.kind hk hn hm fin) hd
 ·rcases hk with hk|hk
  ·exact wpAny_Name (wpAny_loadName_cell I.ok.kind hk hc hcell fin) hd
  ·exact wpAny_Name (wpAny_loadName_free I.ok.kind hk hc hcell fin hcd) hd
def aK{i j pos}:PE X (.Constant (.int i) j pos) (tC (.int i)):=λ_ _ _ H _ I h=>wpAny_Constant_int ⟨.int i,H,I.tok _,⟨_,rfl⟩,h⟩
def pQ{b j pos}:PE X (.Constant (.bool b) j pos) (tC (.bl b)):=λ_ _ _ H _ I h=>Constant_bool ⟨.bl b,H,I,rfl,h⟩
def cZ{j pos}:PE X (.Constant .none j pos) (tC .non):=λ_ _ _ H _ I h=>Constant_none ⟨.non,H,I,rfl,h⟩
def dP{x j pos}:PE X (.Constant (.str x) j pos) (tC (.str x)):=λ_ _ _ H _ I h=>Calls.Constant_str ⟨.str x,H,I.tok _,⟨_,rfl⟩,h⟩
def Gl(X:Cx)(x:Str):Prop:=X.env.kindOf x=some .globalImplicit
def gO(I:Inv X pins σ H s)(hg:Gl X x)(hm:X.mg x=some u)(h:Q u s)(hd:(x==("__debug__" : Str))=false:=by decide):wpAny (model X.prog X.w) X.A (eval (.Name x pos) X.env) Q E s:=
 Calls.Name_function_global I.ok.kind hg (Calls.loadGlobal_global (by rw[I.ok.glob];exact I.mod.glob.keeps I.bk) hm h) hd
def gC(I:Inv X pins σ H s)(hg:Gl X x)(hm:X.mg x=none)(hv:bootBuiltins x=some u)(h:Q u s)(hn:x≠"__name__" := by decide)(hd:(x==("__debug__" : Str))=false:=by decide):wpAny (model X.prog X.w) X.A (eval (.Name x pos) X.env) Q E s:=by
 obtain⟨mb,h1,h2⟩:=I.mod.blt;exact Calls.Name_function_global I.ok.kind hg (Calls.loadGlobal_builtin (by rw[I.ok.glob];exact I.mod.glob.keeps I.bk) hm (by rw[I.ok.blt];exact h1.keeps I.bk) ((h2 x hn).trans hv) h) hd
def xY(hg:Gl X x)(hm:X.mg x=some u)(r:RelV v u)(hd:(x==("__debug__" : Str))=false:=by decide):PE X (.Name x pos) (tC v):=
 λ_ _ _ H _ I h=>gO I hg hm ⟨v,H,I,r,h⟩ hd
def dQI(hg:Gl X x)(hm:X.mg x=none)(hv:bootBuiltins x=some u)(r:RelV v u)(hn:x≠"__name__" := by decide)(hd:(x==("__debug__" : Str))=false:=by decide):PE X (.Name x pos) (tC v):=
 λ_ _ _ H _ I h=>gC I hg hm hv ⟨v,H,I,r,h⟩ hn hd
variable {a b:Expr}
variable {tA tB':TT} {rest:List Expr}
def eZN(t u:TT):TT:=λσ H Q=>t σ H λc H1=>if c=true then u σ H1 Q else Q false H1
def tOr(t u:TT):TT:=λσ H Q=>t σ H λc H1=>if c=true then Q true H1 else u σ H1 Q
def eX1(t:TT):TT:=λσ H Q=>t σ H λc H1=>Q (!c) H1
def wJ(ha:PT X a tA):PW X (.BoolOp .And [a] pos) tA:=by
 intro wh pins s σ H Q I h;refine isTrue_and (thn (ha pins s σ H Q I h) λc s1 e=>?_);cases c with
 |true=>exact isTrue_and_nil e
 |false=>exact e
def jW(ha:PT X a tA):PW X (.BoolOp .Or [a] pos) tA:=by
 intro wh pins s σ H Q I h;refine isTrue_or (thn (ha pins s σ H Q I h) λc s1 e=>?_);cases c with
 |false=>exact isTrue_or_nil e
 |true=>exact e
def rO(ha:PT X a tA)(hb:PW X (.BoolOp .And (b::rest) pos) tB'):PW X (.BoolOp .And (a::b::rest) pos) (eZN tA tB'):=by
 intro wh pins s σ H Q I h;refine isTrue_and (thn (ha pins s σ H _ I h) λc s1 ⟨H1,I1,q1⟩=>?_);cases c with
 |true=>exact hb wh pins s1 σ H1 Q I1 q1
 |false=>exact⟨H1,I1,q1⟩
def pP(ha:PT X a tA)(hb:PW X (.BoolOp .Or (b::rest) pos) tB'):PW X (.BoolOp .Or (a::b::rest) pos) (tOr tA tB'):=by
 intro wh pins s σ H Q I h;refine isTrue_or (thn (ha pins s σ H _ I h) λc s1 ⟨H1,I1,q1⟩=>?_);cases c with
 |true=>exact⟨H1,I1,q1⟩
 |false=>exact hb wh pins s1 σ H1 Q I1 q1
def xA(ha:PT X a tA):PT X (.UnaryOp .Not a pos) (eX1 tA):=by
 intro pins s σ H Q I h;exact isTrue_not (ha pins s σ H (λc H1=>Q (!c) H1) I h)
def xZ{op}{t:TE}(h:PE X a t):PE X (.BoolOp op [a] pos) t:=λpins s σ H Q I hw=>BoolOp_one (h pins s σ H Q I hw)
def tIf(t:TT)(ta tb:TE):TE:=λσ H Q=>t σ H λc H1=>if c=true then ta σ H1 Q else tb σ H1 Q
def aQ3{c:Expr}(hc:PT X c tA)(ha:PE X a ta)(hb:PE X b tb):PE X (.IfExp c a b pos) (tIf tA ta tb):=by
 intro pins s σ H Q I h;refine wpAny_IfExp (thn (hc pins s σ H _ I h) λd s1 ⟨H1,I1,q1⟩=>?_);cases d with
 |true=>exact ha pins s1 σ H1 Q I1 q1
 |false=>exact hb pins s1 σ H1 Q I1 q1
end
def SqL(K:W.Frag)(H:Hp)(a:Addr)(xs:List V):Prop:=
 Rd H a (.lst xs)\/
  ∃(o:Obj) (its:Array Value) (n:Nat),K.lookup a=some o/\o.cls=.type "list"/\o.dict=none/\o.data=.seq its n/\its.size<=sizeLine/\Vals xs its.toList
def SqT(K:W.Frag)(H:Hp)(a:Addr)(xs:List V):Prop:=
 Rd H a (.tup xs)\/
  ∃(o:Obj) (its:Array Value) (n:Nat),K.lookup a=some o/\o.cls=.type "tuple"/\o.data=.seq its n/\its.size<=sizeLine/\Vals xs its.toList
def fQM:Value->Option V
 |.none=>some .non
 |.bool b=>some (.bl b)
 |.int i _=>some (.int i)
 |.str x _=>some (.str x)
 |.bytes b _=>some (.byt b)
 |.float b _=>some (.flt b)
 |.ref a=>some (.ref a)
 |.type n=>some (.ty n)
 |_=>none
def RelV.abs{x:V}(r:RelV x u):fQM u=some x:=by
 cases x with
 |non=>cases r;rfl
 |bl _=>cases r;rfl
 |int _=>obtain⟨t,rfl⟩:=r;rfl
 |str _=>obtain⟨t,rfl⟩:=r;rfl
 |byt _=>obtain⟨t,rfl⟩:=r;rfl
 |flt _=>obtain⟨t,rfl⟩:=r;rfl
 |ref _=>cases r;rfl
 |ty _=>cases r;rfl
def RelV.inj{x y:V}(r:RelV x u)(q:RelV y u):x=y:=Bf (r.abs.symm.trans q.abs)
def Vals.inj:∀ {xs ys:List V} {us:List Value},Vals xs us->Vals ys us->xs=ys
 |_,_,_,.nil,.nil=>rfl
 |_,_,_,.cons r t,.cons r' t'=>by rw[r.inj r',Vals.inj t t']
section
variable {ys:List V}
def SqT.of(h:H a=some (.tup xs)):SqT K H a xs:=.inl (.inl h)
def Inv.list(I:Inv X pins σ H s)(h:SqL X.K H a xs):∃its:List Value,Vals xs its/\PlainL s.heap a its.toArray/\xs.length<=sizeLine:=by
 rcases h with h|⟨o,its,n,hk,hc,hd,hs,hz,r⟩
 ·obtain⟨z,its,n,r,e⟩:=h.ok I.hok;exact⟨its,r,⟨_,n,e,rfl,rfl,rfl⟩,z⟩
 ·refine⟨its.toList,r,⟨o,n,I.kIn a o hk,hc,hd,by simpa using hs⟩,?_⟩
  have e:=r.length
  simp only[Array.length_toList]at e;omega
def Inv.tuple(I:Inv X pins σ H s)(h:SqT X.K H a xs):∃its:List Value,Vals xs its/\IsTup s.heap a its.toArray/\xs.length<=sizeLine:=by
 rcases h with h|⟨o,its,n,hk,hc,hs,hz,r⟩
 ·obtain⟨z,its,r,p⟩:=h.ok I.hok;exact⟨its,r,p,z⟩
 ·refine⟨its.toList,r,⟨o,I.kIn a o hk,hc,n,by simpa using hs⟩,?_⟩
  have e:=r.length
  simp only[Array.length_toList]at e;omega
def Inv.list_inj(I:Inv X pins σ H s)(h:SqL X.K H a xs)(h':SqL X.K H a ys):xs=ys:=by
 obtain⟨its,r,⟨o,n,e,_,_,d⟩,_⟩:=I.list h;obtain⟨its',r',⟨o',n',e',_,_,d'⟩,_⟩:=I.list h';rw[e]at e';cases e';rw[d]at d';injection d' with d1 _
 have:its=its':=by simpa using congrArg Array.toList d1
 subst this;exact r.inj r'
end
abbrev Cx.wish(X:Cx)(E:Value->Shared->Prop):Cx:={X with xe:=E}
abbrev Cx.nox(X:Cx):Cx:=X.wish λ_ _=>False
def Cx.Ok.wish(ok:X.Ok)(E:Q0):(X.wish E).Ok:=
 ⟨ok.mod,ok.kind,ok.glob,ok.blt,ok.above,ok.inj,ok.has,ok.cab,ok.hd,ok.frames,ok.stk,ok.exf,ok.bs,ok.bsz,ok.noex,ok.exfs,ok.funs,ok.frf⟩
def Cx.Ok.unwish(ok:(X.wish E).Ok):X.Ok:=
 ⟨ok.mod,ok.kind,ok.glob,ok.blt,ok.above,ok.inj,ok.has,ok.cab,ok.hd,ok.frames,ok.stk,ok.exf,ok.bs,ok.bsz,ok.noex,ok.exfs,ok.funs,ok.frf⟩
def Inv.wish(I:Inv X pins σ H s)(E:Q0):Inv (X.wish E) pins σ H s:=⟨I.ok.wish E,I.os,I.bare,I.base,I.loc,I.cell,I.free,I.freeC,I.pin,I.hok,I.len⟩
def Inv.unwish(I:Inv (X.wish E) pins σ H s):Inv X pins σ H s:=⟨I.ok.unwish,I.os,I.bare,I.base,I.loc,I.cell,I.free,I.freeC,I.pin,I.hok,I.len⟩
def SP.unwish{D:Ends}{f:Flow}{s':Shared}(h:SP (X.wish E) pins D f s'):SP X pins D f s':=by
 cases f with
 |next=>obtain⟨σ',H',I,q⟩:=h;exact⟨σ',H',I.unwish,q⟩
 |brk=>obtain⟨σ',H',I,q⟩:=h;exact⟨σ',H',I.unwish,q⟩
 |cont=>obtain⟨σ',H',I,q⟩:=h;exact⟨σ',H',I.unwish,q⟩
 |ret u=>obtain⟨v,σ',H',I,r,q⟩:=h;exact⟨v,σ',H',I.unwish,r,q⟩
def PSs.nox{st:List Stmt}{t:TS}(h:PSs X.nox st t):PSs X st t:=λpins s σ H D I hw=>
 Cg (h pins s σ H D (I.wish _) hw) (λ_ _ q=>q.unwish) λ_ _ z=>False.elim z
section
variable {X:Cx} {st:Stmt} {rest:List Stmt} {t u:TS} {e:Expr} {te:TE} {pos:Pos}
def dZA:TS:=λD σ H=>D.nx σ H
def eXN(t u:TS):TS:=λD σ H=>t {D with nx:=u D} σ H
def bK:PSs X [] dZA:=λ_ _ σ H _ I h=>wpAny_execs_nil ⟨σ,H,I,h⟩
def aE(h1:PS X st t)(h2:PSs X rest u):PSs X (st::rest) (eXN t u):=by
 intro pins s σ H D I h;refine wpAny_execs_cons (thn (h1 pins s σ H {D with nx:=u D} I h) λf s1 q=>?_)
 cases f with
 |next=>
  obtain⟨σ',H',I',q⟩:=q;exact h2 pins s1 σ' H' D I' q
 |ret v=>exact q
 |brk=>exact q
 |cont=>exact q
def aH(h1:PS X st t):PSs X [st] t:=by
 intro pins s σ H D I h;refine wpAny_execs_cons (thn (h1 pins s σ H D I h) λf s1 q=>?_);cases f with
 |next=>exact wpAny_execs_nil q
 |ret v=>exact q
 |brk=>exact q
 |cont=>exact q
def Inv.quiet(I:Inv X pins σ H s):interactive X.env=false:=by simp[interactive,I.ok.kind]
def dXL(te:TE):TS:=λD σ H=>te σ H λ_ H1=>D.nx σ H1
def dB(he:PE X e te)(hs:swapsWith e none pos.line X.env=pure false:=by rfl):PS X (.Expr e pos) (dXL te):=by
 intro pins s σ H D I h;exact wpAny_Expr_any (thn (he pins s σ H _ I h) λv s1 ⟨x,H1,I1,r1,q1⟩=>⟨σ,H1,I1,q1⟩) I.quiet hs
def eZM(te:TE):TS:=λD σ H=>te σ H D.rt
def aY(he:PE X e te):PS X (.Return (some e) pos) (eZM te):=by
 intro pins s σ H D I h;exact wpAny_Return_some (thn (he pins s σ H _ I h) λv s1 ⟨x,H1,I1,r1,q1⟩=>⟨x,σ,H1,I1,r1,q1⟩)
def eXS(c:TT)(t u:TS):TS:=λD σ H=>c σ H λb H1=>if b=true then t D σ H1 else u D σ H1
def cI{c:Expr}{a b:List Stmt}{tc:TT}(hc:PT X c tc)(ha:PSs X a t)(hb:PSs X b u):PS X (.If c a b pos) (eXS tc t u):=by
 intro pins s σ H D I h;refine wpAny_If (thn (hc pins s σ H _ I h) λd s1 ⟨H1,I1,q1⟩=>?_);cases d with
 |true=>exact ha pins s1 σ H1 D I1 q1
 |false=>exact hb pins s1 σ H1 D I1 q1
def dJJ:TS:=λ_ _ _=>False
def nS:PS X st dJJ:=λ_ _ _ _ _ _ h=>h.elim
end
abbrev TG:=V->St->Hp->(St->Hp->Prop)->Prop
variable {g:TG}
abbrev TGs:=List V->St->Hp->(St->Hp->Prop)->Prop
def PG(X:Cx)(target:Expr)(t:TG):Prop:=
 ∀(pins:Q2) (s:Shared) (σ:St) (H:Hp) (v:V) (u:Value) (Q:St->Hp->Prop),Inv X pins σ H s->RelV v u->t v σ H Q->
  wpAny (model X.prog X.w) X.A (assign target X.env u) (λ_ s'=>∃σ' H',Inv X pins σ' H' s'/\Q σ' H') X.xe s
def PGs(X:Cx)(ts:List Expr)(t:TGs):Prop:=
 ∀(pins:Q2) (s:Shared) (σ:St) (H:Hp) (vs:List V) (us:List Value) (Q:St->Hp->Prop),Inv X pins σ H s->Vals vs us->t vs σ H Q->
  wpAny (model X.prog X.w) X.A (assignInOrder ((assignEach ts X.env).map (·.2)) us) (λ_ s'=>∃σ' H',Inv X pins σ' H' s'/\Q σ' H') X.xe s
abbrev dQT:=V->V->V->Hp->(Hp->Prop)->Prop
def eXQ(X:Cx)(t:dQT):Prop:=
 ∀(pins:Q2) (s:Shared) (σ:St) (H:Hp) (o i v:V) (ov iv u:Value) (Q:Hp->Prop),Inv X pins σ H s->RelV o ov->RelV i iv->RelV v u->t o i v H Q->
  wpAny (model X.prog X.w) X.A (setItem ov iv u) (λ_ s'=>∃H',Inv X pins σ H' s'/\Q H') X.xe s
section
variable {X:Cx} {pos:Pos}
def lP(i:Nat):TG:=λv σ H Q=>Q (σ.set i (some v)) H
def bE{i:Nat}(hN:X.N.Nodup)(hi:X.N[i]?=some x)(hx:Loc X.env.scope x)(hf:X.fn x=true\/X.env.scope.names.lookup x=some .local:=by first|exact .inl rfl|exact .inr rfl|assumption):PG X (.Name x pos) (lP i):=by
 intro pins s σ H v u Q I r h;exact wpAny_assign_Name (zL I hN hi hx r (λs' I'=>⟨_,H,I',h⟩) hf)
def dZS:TGs:=λvs σ H Q=>vs=[]/\Q σ H
def aJI(t:TG)(u:TGs):TGs:=λvs σ H Q=>∃v r,vs=v::r/\t v σ H λσ' H'=>u r σ' H' Q
def cJO:PGs X [] dZS:=by
 intro pins s σ H vs us Q I r h;obtain⟨e,h⟩:=h;subst e;cases r;exact assignInOrder_nil ⟨σ,H,I,h⟩
def aQP{t:TG}{u:TGs}(h1:PG X e t)(h2:PGs X es u)(hs:(assignEach (e::es) X.env).map (·.2)=assign e X.env::(assignEach es X.env).map (·.2):=by rfl):PGs X (e::es) (aJI t u):=by
 intro pins s σ H vs us Q I r h;obtain⟨v,vr,e1,h⟩:=h;subst e1;cases r with
 |cons r rr=>
  rw[hs];refine assignInOrder_cons (thn (h1 pins s σ H _ _ _ I r h) λ_ s1 ⟨σ1,H1,I1,q1⟩=>?_);exact h2 pins s1 σ1 H1 _ _ Q I1 rr q1
def dZP(K:W.Frag)(n:Nat)(t:TGs):TG:=λv σ H Q=>∃a xs,v=.ref a/\SqT K H a xs/\xs.length=n/\t xs σ H Q
def eXD{t:TGs}{n:Nat}(hc:X.calm=true)(h:PGs X es t)(hn:(assignEach es X.env).length=n:=by rfl)(hst:(assignEach es X.env).findIdx? (·.1)=none:=by rfl):PG X (.Tuple es k pos) (dZP X.K n t):=by
 intro pins s σ H v u Q I r hw;obtain⟨a,xs,e1,hq,hl,hw⟩:=hw;subst e1;cases r;obtain⟨its,rv,ht,hz⟩:=I.tuple hq;refine assign_Tuple_tuple (I.ok.hd hc) ht (by simp[hn,<-hl,rv.length]) hst λh' hx=>?_
 have I1:Inv X pins σ H {s with heap:=h'}:=I.kept (t':=s.toks) λb o e=>hx b o (Bd (As e)) e
 exact h pins _ σ H xs _ Q I1 (by simpa using rv) hw
def eJB(to ti:TE)(t:dQT):TG:=λv σ H Q=>to σ H λo H1=>ti σ H1 λi H2=>t o i v H2 λH3=>Q σ H3
def bJF{o i:Expr}{to ti:TE}{t:dQT}(ho:PE X o to)(hi:PE X i ti)(hs:eXQ X t)(ha:∀v,assign (.Subscript o i pos) X.env v=(do
 let ov <-holding [v] (eval o X.env)
 let iv <-holding [v,ov] (eval i X.env)
 standAt pos
 holding [v,ov,iv] (setItem ov iv v)
 release [v,ov,iv] []):=by intro _;rfl):PG X (.Subscript o i pos) (eJB to ti t):=by
 intro pins s σ H v u Q I r h;rw[ha];refine Ad (Da (thn (ho pins s σ H _ I h) λov s1 ⟨x,H1,I1,r1,q1⟩=>?_));refine Ad (Da (thn (hi pins s1 σ H1 _ I1 q1) λiv s2 ⟨y,H2,I2,r2,q2⟩=>?_));refine Ad (Fg (Ad (Da (thn (hs pins s2 σ H2 x y v ov iv u _ I2 r1 r2 r q2) λ_ s3 ⟨H3,I3,q3⟩=>?_))));exact wpAny_release ⟨σ,H3,I3,q3⟩
def cQS(te:TE)(g:TG):TS:=λD σ H=>te σ H λx H1=>g x σ H1 D.nx
def cQK(he:PE X e te)(hg:PG X tg g)(hs:swapsWithSole [tg] e pos.line X.env=pure false:=by rfl)(hw:swappedStores [tg] e X.env=pure none:=by rfl)(h1:(assignEach [tg] X.env).map (·.2)=[assign tg X.env]:=by rfl):PS X (.Assign [tg] e pos) (cQS te g):=by
 intro pins s σ H D I h;refine wpAny_Assign_stores (thn (he pins s σ H _ I h) λv s1 ⟨x,H1,I1,r1,q1⟩=>?_) hs hw;rw[h1];exact thn (hg pins s1 σ H1 x v _ I1 r1 q1) λ_ s2 q=>q
def aXW{i:Nat}{x:Str}{e:Expr}{te:TE}{pos':Pos}(hN:X.N.Nodup)(hi:X.N[i]?=some x)(hx:Loc X.env.scope x)(he:PE X e te)(hs:swapsWith e (some (.Name x pos')) pos.line X.env=pure false:=by rfl)(hf:X.fn x=true\/X.env.scope.names.lookup x=some .local:=by first|exact .inl rfl|exact .inr rfl|assumption):PS X (.Assign [.Name x pos'] e pos) (cQS te (lP i)):=by
 intro pins s σ H D I h;refine wpAny_Assign_Name (thn (he pins s σ H _ I h) λv s1 ⟨y,H1,I1,r1,q1⟩=>?_) hs;exact zL I1 hN hi hx r1 (λs2 I2=>⟨_,H1,I2,q1⟩) hf
end
def dJ0(c:TT)(tb:TS):TS:=λD σ H=>∃W:Nat->St->Hp->Prop,(∃m,W m σ H)/\∀m σ H,W m σ H->
 c σ H λb H1=>if b=true then ∃N:St->Hp->Prop,(∀σ' H',N σ' H'->∃m',m' < m/\W m' σ' H')/\tb {D with nx:=N,ct:=N,bk:=D.nx} σ H1 else D.nx σ H1
def mW{c:Expr}{tc:TT}{tb:TS}(hp:PassesOwn (model X.prog X.w) X.A X.env X.xe)(hc:PT X c tc)(hb:PSs X body tb):PS X (.While c body [] pos) (dJ0 tc tb):=by
 intro pins s σ H D I h;obtain⟨W,⟨m0,w0⟩,turn⟩:=h;refine wpAny_While (codeAny_whileLoop (λn s'=>∃σ' H',Inv X pins σ' H' s'/\W n σ' H') ?_ m0 ⟨σ,H,I,w0⟩);rintro n s1 ⟨σ1,H1,I1,w1⟩;refine Fa hp (thn (hc pins s1 σ1 H1 _ I1 (turn n σ1 H1 w1)) λb s2 ⟨H2,I2,q2⟩=>?_);cases b with
 |true=>
  obtain⟨N,hN,q2⟩:=q2;rw[if_pos rfl];refine Fa hp (thn (hb pins s2 σ1 H2 _ I2 q2) λf s3 q3=>?_);cases f with
  |next=>
   obtain⟨σ3,H3,I3,n3⟩:=q3;obtain⟨m',hm,w3⟩:=hN σ3 H3 n3;exact⟨m',hm,σ3,H3,I3,w3⟩
  |cont=>
   obtain⟨σ3,H3,I3,n3⟩:=q3;obtain⟨m',hm,w3⟩:=hN σ3 H3 n3;exact⟨m',hm,σ3,H3,I3,w3⟩
  |brk=>exact q3
  |ret v=>exact q3
 |false=>
  rw[if_neg Ao];exact wpAny_execs_nil ⟨σ1,H2,I2,q2⟩
structure It where
 go:Nat->Hp->Prop
 yld:Nat->Hp->V->Hp->Prop
 stop:Nat->Hp->Prop
def kS(X:Cx)(pins:List (Addr×Obj))(H:Hp)(b:Addr):Prop:=
 H b=none/\b≠X.env.locals/\b∉X.fs/\(b∈X.ex\/X.s₀.heap.objs.size<=b)/\(∀x c,X.env.cells.lookup x=some c->c≠b)/\∀p∈X.pn++pins,p.1≠b
def Inv.fpOk{H':Hp}(I:Inv X pins σ H s)(hb:s.heap.objs.size<=b)(hn:H' b=none):kS X pins H' b:=by
 refine⟨hn,Dz (Bc I.lt hb),I.nofs hb,.inr (Ca I.sz hb),λx c e z=>?_,λp hp z=>?_⟩
 ·obtain⟨v,q⟩:=I.cell x c e;exact absurd (Bc q.lt (by rw[z];exact hb)) (Ct _)
 ·exact absurd (Bc (As (I.pin p hp).1) (by rw[z];exact hb)) (Ct _)
structure Turn (P:Program) (w:World) (K:W.Frag) (tg:Expr) (J:It) (fp:List Addr) (it:Addr) (tn:Nat->Heap->Prop):Prop where
 mem:it∈fp
 obj:∀i h,tn i h->∀b∈fp,∃o,h.get? b=some o/\∀v,o.data≠.cell v
 keep:∀i h h',tn i h->(∀b∈fp,∀o,h.get? b=some o->h'.get? b=some o)->tn i h'
 item:∀(X:Cx),X.prog=P->X.w=w->X.K=K->X.calm=true->∀(i:Nat) (pins:Q2) (s:Shared) (σ:St) (H:Hp) (E:Q0),Inv X pins σ H s->(∀b∈fp,kS X pins H b)->tn i s.heap->J.go i H->
  wpAny (model P w) X.A (pyNext (.ref it)) (λr s1=>∃u,r=some u/\
   wpAny (model P w) X.A (letOwnedTupleGo tg (.ref it) u) (λ_ s2=>∃x H',Inv X pins σ H' s2/\RelV x u/\J.yld i H x H'/\tn (i+1) s2.heap/\∀b∈fp,H' b=none) E s1) E s
 done:∀(X:Cx),X.prog=P->X.w=w->X.K=K->X.calm=true->∀(i:Nat) (pins:Q2) (s:Shared) (σ:St) (H:Hp) (E:Q0),Inv X pins σ H s->(∀b∈fp,kS X pins H b)->tn i s.heap->J.stop i H->
  wpAny (model P w) X.A (pyNext (.ref it)) (λr s1=>r=none/\Inv X pins σ H s1) E s
 self:∀(A:Around) (i:Nat) (s:Shared) (Q:Q0) (E:Q0),tn i s.heap->Q (.ref it) s->wpAny (model P w) A (pyIter (.ref it)) Q E s
abbrev TI:=St->Hp->(It->Hp->Prop)->Prop
def PIE(X:Cx)(pins:List (Addr×Obj))(σ:St)(tg:Expr)(R:It->Hp->Prop)(itv:Value)(s2:Shared):Prop:=
 ∃(it:Addr) (fp:List Addr) (tn:Nat->Heap->Prop) (J:It) (H':Hp),itv=.ref it/\Inv X pins σ H' s2/\Turn X.prog X.w X.K tg J fp it tn/\tn 0 s2.heap/\(∀b∈fp,kS X pins H' b)/\R J H'
def PI(X:Cx)(tg iter:Expr)(wi:TI):Prop:=
 ∀(pins:Q2) (s:Shared) (σ:St) (H:Hp) (R:It->Hp->Prop),Inv X pins σ H s->wi σ H R->
  wpAny (model X.prog X.w) X.A (eval iter X.env) (λv s1=>wpAny (model X.prog X.w) X.A (pyIter v) (PIE X pins σ tg R) X.xe s1) X.xe s
def rH{s:Shared}{it:Addr}{o:Obj}{n:String}{vs:Array Value}{Q:Unit->Shared->Prop}(ho:s.heap.get? it=some o)(hc:o.cls=.type n)(hd:o.data=.fields vs)(hn:["enumerate", "zip", "dict_itemiterator", "dict_reverseitemiterator", "odict_iterator", "itertools.zip_longest", "itertools.pairwise"].contains n=false)(hQ:Q () s):wpAny M A (letOwnedTupleGo tg (.ref it) u) Q E s:=by
 unfold letOwnedTupleGo;cases tg<;>first
  |exact Al hQ
  | (cases u <;> first
      |exact Al hQ
      | (refine Ad (wpAny_load ho ?_)
         rw[hc,hd];show wpAny M A (if (["enumerate", "zip", "dict_itemiterator", "dict_reverseitemiterator", "odict_iterator", "itertools.zip_longest", "itertools.pairwise"].contains n&&vs[0]? == some (rawInt _))=true then _ else _) Q E s
         rw[if_neg (by intro h;rw[hn,Bool.false_and]at h;cases h)]
         exact Al hQ))
def Itl(K:W.Frag)(a:Addr):It:=
 ⟨λi H=>∃xs x,SqL K H a xs/\xs[i]?=some x,λi H x H'=>H'=H/\∀xs,SqL K H a xs->xs[i]?=some x,λi H=>∃xs,SqL K H a xs/\xs.length<=i⟩
def Itr(lo:Int)(n:Nat):It:=⟨λi _=>i<n,λi H x H'=>H'=H/\x=.int (lo+i),λi _=>n<=i⟩
def bXO(a it:Addr):Turn P w K tg (Itl K a) [it] it (λi h=>h.IsListIter it a i) where
 mem:=by simp
 obj:=λi h st b hb=>by
  have e:b=it:=by simpa using hb
  subst e;obtain⟨o,e,c,d⟩:=st;exact⟨o,e,λv z=>by rw[d]at z;cases z⟩
 keep:=λi h h' st k=>st.at λo e=>k it (by simp) o e
 item:=by
  intro X hP hw hK hc i pins s σ H E I hf st hg;subst hP hw hK;obtain⟨xs,x,hq,hx⟩:=hg;obtain⟨its,rv,p,hz⟩:=I.list hq;obtain⟨u,hu,ru⟩:=rv.get hx;obtain⟨f0,f1,f2,f3,f4,f5⟩:=hf it (by simp)
  refine wpAny_pyNext_list_item st p.isList (x:=u) (by simpa using hu) λh' st' sb=>?_
  have I1:Inv X pins σ H {s with heap:=h'}:=I.turned (t':=s.toks) (λb o hb e=>(sb.2 b hb).trans e) f0 f1 f3 f4 f5
  obtain⟨o,e,c,d⟩:=id st';exact⟨u,rfl,rH (s:={s with heap:=h'}) e c d (by decide) ⟨x,H,I1,ru,⟨rfl,λys hy=>by rw[I.list_inj hy hq];exact hx⟩,st',λb hb=>(hf b hb).1⟩⟩
 done:=by
  intro X hP hw hK hc i pins s σ H E I hf st hg;subst hP hw hK;obtain⟨xs,hq,hx⟩:=hg;obtain⟨its,rv,p,hz⟩:=I.list hq;obtain⟨f0,f1,f2,f3,f4,f5⟩:=hf it (by simp)
  have hl:=rv.length
  exact wpAny_pyNext_list_end (I.ok.hd hc) st p.isList (by simp;omega) λh' eb=>⟨rfl,I.turned (t':=s.toks) (λb o hb e=>eb b o hb e) f0 f1 f3 f4 f5⟩
 self:=λ_ _ _ _ _ st h=>wpAny_pyIter_listiter st h
def aXC{K:PySem.W.Frag}(it:Addr)(lo:Int)(n:Nat):Turn P w K tg (Itr lo n) [it] it (λi h=>IsRangeIter h it (lo+(i:Nat)*1) ((n:Int)-(i:Nat)) 1) where
 mem:=by simp
 obj:=λi h st b hb=>by
  have e:b=it:=by simpa using hb
  subst e;exact⟨_,st,λv z=>by
   have z':Data.fields _=Data.cell v:=z
   cases z'⟩
 keep:=λi h h' st k=>k it (by simp) _ st
 item:=by
  intro X hP hw hK hc i pins s σ H E I hf st hg;subst hP hw hK;obtain⟨f0,f1,f2,f3,f4,f5⟩:=hf it (by simp)
  have W:=Walks.range (prog:=X.prog) (w:=X.w) (I.ok.hd hc) it lo 1 n
  refine W.item i s _ _ hg st λv h' tk hv st' kk=>?_;obtain⟨t,rfl⟩:=hv;have I1:Inv X pins σ H {s with heap:=h',toks:=tk}:=I.turned (λb o hb e=>kk b o (by simpa using hb) e) f0 f1 f3 f4 f5
  refine⟨_,rfl,rH (s:={s with heap:=h',toks:=tk}) (n := "range_iterator") st' rfl rfl (by decide) ⟨.int (lo+i),H,I1,⟨t,?_⟩,⟨rfl,rfl⟩,st',λb hb=>(hf b hb).1⟩⟩
  rw[Int.mul_one]
 done:=by
  intro X hP hw hK hc i pins s σ H E I hf st hg;subst hP hw hK;obtain⟨f0,f1,f2,f3,f4,f5⟩:=hf it (by simp)
  exact wpAny_pyNext_range_end (I.ok.hd hc) st (by have:n<=i:=hg;omega) λh' eb=>⟨rfl,I.turned (t':=s.toks) (λb o hb e=>eb b o hb e) f0 f1 f3 f4 f5⟩
 self:=λ_ _ _ _ _ st h=>wpAny_pyIter_rangeiter st h
def zD{R:It->Hp->Prop}{lo hi:Int}{t u v:Tok}{tk:Nat}(I:Inv X pins σ H s)(h1:-(2^62)<=lo)(h2:lo<2^62)(h3:-(2^62)<=hi)(h4:hi<2^62)(q:R (Itr lo (hi-lo).toNat) H):wpAny (model X.prog X.w) X.A (pyIter (.ref s.heap.objs.size)) (PIE X pins σ tg R) E {s with heap:=s.heap.push {cls:=.type "range",data:=.fields #[.int lo t,.int hi u,.int 1 v]},toks:=tk}:=by
 refine wpAny_pyIter_range (IsRange.new ..) (small_one h1 h2 h3 h4) ?_;have I1:Inv X pins σ H {s with heap:=s.heap.push {cls:=.type "range",data:=.fields #[.int lo t,.int hi u,.int 1 v]},toks:=tk}:=I.kept λb o e=>Ag _ e
 refine⟨(s.heap.push {cls:=.type "range",data:=.fields #[.int lo t,.int hi u,.int 1 v]}).objs.size,[(s.heap.push {cls:=.type "range",data:=.fields #[.int lo t,.int hi u,.int 1 v]}).objs.size],_,_,H,rfl,
  I1.kept (t':=tk) λb o e=>Ag _ e,aXC _ lo (hi-lo).toNat,?_,λb hb=>?_,q⟩
 ·have e1:lo+((0:Nat):Int)*1=lo:=by simp
  have e2:(((hi-lo).toNat:Nat):Int)-((0:Nat):Int)=Builtin.Range.rangeSize lo hi 1:=by rw[rangeSize_one];split<;>omega
  show IsRangeIter _ _ (lo+((0:Nat):Int)*1) ((((hi-lo).toNat:Nat):Int)-((0:Nat):Int)) 1
  rw[e1,e2];exact Av _ rfl
 ·have e:b=(s.heap.push {cls:=.type "range",data:=.fields #[.int lo t,.int hi u,.int 1 v]}).objs.size:=by simpa using hb
  subst e;exact I1.fpOk (Aj _) (I1.hok.fresh (Aj _))
def eJ9(wi:TI)(g:TG)(tb:TS):TS:=λD σ H=>wi σ H λJ H1=>∃W:Nat->Nat->St->Hp->Prop,(∃m,W 0 m σ H1)/\∀i m σ H,W i m σ H->
 (J.stop i H/\D.nx σ H)\/(J.go i H/\∃N:St->Hp->Prop,(∀σ' H',N σ' H'->∃m',m' < m/\W (i+1) m' σ' H')/\∀x H',J.yld i H x H'->g x σ H' λσ2 H2=>tb {D with nx:=N,ct:=N,bk:=D.nx} σ2 H2)
def oU(fp:List Addr)(h:Heap):List (Addr×Obj):=fp.filterMap λb=>(h.get? b).map λo=>(b,o)
def iS{o:Obj}(hb:b∈fp)(e:h.get? b=some o):(b,o)∈oU fp h:=Bv.mpr ⟨b,hb,by rw[e];rfl⟩
def bQK{p:Addr×Obj}(hp:p∈oU fp h):p.1∈fp/\h.get? p.1=some p.2:=by
 obtain⟨b,hb,e⟩:=Bv.mp hp;cases q:h.get? b with
 |none=>rw[q]at e;cases e
 |some o=>
  rw[q]at e;have e':(b,o)=p:=Bf e
  subst e';exact⟨hb,q⟩
def Inv.pinned(I:Inv X pins σ H s)(hf:∀b∈fp,kS X pins H b)(ho:∀b∈fp,∃o,s.heap.get? b=some o/\∀v,o.data≠.cell v):Inv X (pins++oU fp s.heap) σ H s:=
 I.pins_of λp hp=>(Bo.mp hp).elim (λz=>I.pin p (Br _ z)) λz=>by
  obtain⟨hb,e⟩:=bQK z;obtain⟨f0,f1,f2,_⟩:=hf p.1 hb;obtain⟨o,e',d⟩:=ho p.1 hb;rw[e]at e';cases e';exact⟨e,f0,f1,f2,d⟩
def Inv.unpinned{pl:Q2}(I:Inv X (pins++pl) σ H s):Inv X pins σ H s:=I.pins_of λp hp=>I.pin p (Br _ (Dv _ hp))
def dJG{iter:Expr}{wi:TI}{tb:TS}(hp:PassesOwn (model X.prog X.w) X.A X.env X.xe)(hc:X.calm=true)(hi:PI X tg iter wi)(hg:PG X tg g)(hb:PSs X body tb)(hs:∀x,foldedSetIterable iter X.env x=pure x:=by intro _;rfl):PS X (.For tg iter body [] pos) (eJ9 wi g tb):=by
 intro pins s σ H D I h;refine wpAny_For (thn (hi pins s σ H _ I h) λv s1 h1=>thn h1 λitv s2 h2=>?_) hs;obtain⟨it,fp,tn,J,H2,e,I2,T,st2,f2,W,⟨m0,w0⟩,turn⟩:=h2;subst e
 -- what stays true of the iterator's objects through the loop
 have stat:∀ {H':Hp},(∀b∈fp,H' b=none)->∀b∈fp,kS X pins H' b:=λhn b hb=>⟨hn b hb,(f2 b hb).2⟩
 refine codeAny_forLoop_any (λn s'=>∃i σ' H',Inv X pins σ' H' s'/\tn i s'.heap/\(∀b∈fp,H' b=none)/\W i n σ' H') ?_ m0 ⟨0,σ,H2,I2,st2,λb hb=>(f2 b hb).1,w0⟩;rintro n s3 ⟨i,σ3,H3,I3,st3,fr3,w3⟩;rcases turn i n σ3 H3 w3 with⟨stop,qn⟩|⟨go,N,hN,step⟩
 ·refine Fa hp (thn (T.done X rfl rfl rfl hc i pins s3 σ3 H3 X.xe I3 (stat fr3) st3 stop) λr s4 ⟨hr,I4⟩=>?_);subst hr;exact wpAny_execs_nil ⟨σ3,H3,I4,qn⟩
 ·refine Fa hp (thn (T.item X rfl rfl rfl hc i pins s3 σ3 H3 X.xe I3 (stat fr3) st3 go) λr s4 ⟨u,hr,h4⟩=>?_);subst hr;refine Fa hp (thn h4 λ_ s5 ⟨x,H5,I5,r5,y5,st5,fr5⟩=>?_);have I5':=I5.pinned (stat fr5) (T.obj _ _ st5)
  refine Fa hp (thn (hg _ s5 σ3 H5 x u _ I5' r5 (step x H5 y5)) λ_ s6 ⟨σ6,H6,I6,q6⟩=>?_);refine Fa hp (thn (hb _ s6 σ6 H6 _ I6 q6) λf s7 q7=>?_);have again:∀ {σ7:St} {H7:Hp},Inv X (pins++oU fp s5.heap) σ7 H7 s7->N σ7 H7->∃m,m<n/\∃i σ' H',Inv X pins σ' H' s7/\tn i s7.heap/\(∀b∈fp,H' b=none)/\W i m σ' H':=fun {σ7 H7} I7 n7=>by
   obtain⟨m',hm,w7⟩:=hN σ7 H7 n7;refine⟨m',hm,i+1,σ7,H7,I7.unpinned,T.keep _ _ _ st5 λb hb o e=>(I7.pin (b,o) (Br _ (Br _ (iS hb e)))).1,λb hb=>?_,w7⟩;obtain⟨o,e,d⟩:=T.obj _ _ st5 b hb;exact(I7.pin (b,o) (Br _ (Br _ (iS hb e)))).2.1
  cases f with
  |next=>obtain⟨σ7,H7,I7,n7⟩:=q7;exact again I7 n7
  |cont=>obtain⟨σ7,H7,I7,n7⟩:=q7;exact again I7 n7
  |brk=>obtain⟨σ7,H7,I7,q7⟩:=q7;exact⟨σ7,H7,I7.unpinned,q7⟩
  |ret v=>obtain⟨x7,σ7,H7,I7,r7,q7⟩:=q7;exact⟨x7,σ7,H7,I7.unpinned,r7,q7⟩
def bJ7{K:PySem.W.Frag}{tb:TS}{D:Ends}(Pv:Nat->St->Hp->Prop)(h0:Pv 0 σ H)(hl:∀i σ H,i<=xs.length->Pv i σ H->SqL K H a xs)(hs:∀i x σ H,xs[i]?=some x->Pv i σ H->g x σ H λσ2 H2=>tb {D with nx:=Pv (i+1),ct:=Pv (i+1),bk:=D.nx} σ2 H2)(hd:∀σ H,Pv xs.length σ H->D.nx σ H):∃W:Nat->Nat->St->Hp->Prop,(∃m,W 0 m σ H)/\∀i m σ H,W i m σ H->
 ((Itl K a).stop i H/\D.nx σ H)\/((Itl K a).go i H/\∃N:St->Hp->Prop,(∀σ' H',N σ' H'->∃m',m' < m/\W (i+1) m' σ' H')/\∀x H',(Itl K a).yld i H x H'->g x σ H' λσ2 H2=>tb {D with nx:=N,ct:=N,bk:=D.nx} σ2 H2):=by
 refine⟨λi m σ H=>m=xs.length-i/\i<=xs.length/\Pv i σ H,⟨xs.length,by simp,Nat.zero_le _,h0⟩,?_⟩
 rintro i m σ H ⟨rfl,hi,p⟩;have q:=hl i σ H hi p
 by_cases hlt:i<xs.length
 ·refine .inr ⟨⟨xs,xs[i],q,by simp[hlt]⟩,Pv (i+1),λσ' H' p'=>⟨xs.length-(i+1),by omega,rfl,hlt,p'⟩,λx H' y=>?_⟩
  obtain⟨e,y⟩:=y;subst e;exact hs i x σ _ (y xs q) p
 ·have e:i=xs.length:=by omega
  subst e;exact .inl ⟨⟨xs,q,Aj _⟩,hd σ H p⟩
def bQY{lo:Int}{n:Nat}{tb:TS}{D:Ends}(Pv:Nat->St->Hp->Prop)(h0:Pv 0 σ H)(hs:∀i σ H,i<n->Pv i σ H->g (.int (lo+i)) σ H λσ2 H2=>tb {D with nx:=Pv (i+1),ct:=Pv (i+1),bk:=D.nx} σ2 H2)(hd:∀σ H,Pv n σ H->D.nx σ H):∃W:Nat->Nat->St->Hp->Prop,(∃m,W 0 m σ H)/\∀i m σ H,W i m σ H->
 ((Itr lo n).stop i H/\D.nx σ H)\/((Itr lo n).go i H/\∃N:St->Hp->Prop,(∀σ' H',N σ' H'->∃m',m' < m/\W (i+1) m' σ' H')/\∀x H',(Itr lo n).yld i H x H'->g x σ H' λσ2 H2=>tb {D with nx:=N,ct:=N,bk:=D.nx} σ2 H2):=by
 refine⟨λi m σ H=>m=n-i/\i<=n/\Pv i σ H,⟨n,by simp,Nat.zero_le _,h0⟩,?_⟩
 rintro i m σ H ⟨rfl,hi,p⟩;by_cases hlt:i<n
 ·refine .inr ⟨hlt,Pv (i+1),λσ' H' p'=>⟨n-(i+1),by omega,rfl,hlt,p'⟩,λx H' y=>?_⟩
  obtain⟨e,y⟩:=y;subst e y;exact hs i σ _ hlt p
 ·have e:i=n:=by omega
  subst e;exact .inl ⟨Aj _,hd σ H p⟩
abbrev R2:=V->V->Hp->VK->Prop
def OpR(X:Cx)(f:Value->Value->Sem Value)(r:R2):Prop:=
 ∀(pins:Q2) (s:Shared) (σ:St) (H:Hp) (x y:V) (v u:Value) (Q:VK),Inv X pins σ H s->RelV x v->RelV y u->r x y H Q->
  wpAny (model X.prog X.w) X.A (f v u) (EP X pins σ Q) X.xe s
def UnR(X:Cx)(f:Value->Sem Value)(r:V->Hp->VK->Prop):Prop:=
 ∀(pins:Q2) (s:Shared) (σ:St) (H:Hp) (x:V) (v:Value) (Q:VK),Inv X pins σ H s->RelV x v->r x H Q->
  wpAny (model X.prog X.w) X.A (f v) (EP X pins σ Q) X.xe s
def CallR(X:Cx)(f:Value)(r:List V->Hp->VK->Prop):Prop:=
 ∀(pins:Q2) (s:Shared) (σ:St) (H:Hp) (xs:List V) (us:List Value) (Q:VK),Inv X pins σ H s->Vals xs us->r xs H Q->
  wpAny (model X.prog X.w) X.A (call f us) (EP X pins σ Q) X.xe s
def fQF(X:Cx)(r:V->Hp->(Bool->Hp->Prop)->Prop):Prop:=
 ∀(pins:Q2) (s:Shared) (σ:St) (H:Hp) (x:V) (v:Value) (Q:Bool->Hp->Prop),Inv X pins σ H s->RelV x v->r x H Q->
  wpAny (model X.prog X.w) X.A (truthy v) (TP X pins σ Q) X.xe s
def tOp(r:R2)(ta tb:TE):TE:=λσ H Q=>ta σ H λx H1=>tb σ H1 λy H2=>r x y H2 Q
def tUn(r:V->Hp->VK->Prop)(ta:TE):TE:=λσ H Q=>ta σ H λx H1=>r x H1 Q
def rI(C:Int->Int->Prop)(g:Int->Int->V):R2:=λx y H Q=>∃i j,x=.int i/\y=.int j/\C i j/\Q (g i j) H
def rI0(g:Int->Int->V):R2:=λx y H Q=>∃i j,x=.int i/\y=.int j/\Q (g i j) H
def rU(g:Int->V):V->Hp->VK->Prop:=λx H Q=>∃i,x=.int i/\Q (g i) H
section
variable {a b:Expr}
def dZ7(ha:PE X a ta)(hb:PE X b tb){R:V->V->Hp->Prop}(I:Inv X pins σ H s)(h:ta σ H λx H1=>tb σ H1 λy H2=>R x y H2)(hf:∀v u s2 x y H2,Inv X pins σ H2 s2->RelV x v->RelV y u->R x y H2->wpAny (model X.prog X.w) X.A (f v u) Q X.xe s2):wpAny (model X.prog X.w) X.A (eval a X.env) (λv s₁=>wpAny (model X.prog X.w) X.A (eval b X.env) (λu s₂=>wpAny (model X.prog X.w) X.A (f v u) Q X.xe s₂) X.xe s₁) X.xe s:=by
 refine thn (ha pins s σ H _ I h) λv s1 ⟨x,H1,I1,r1,q1⟩=>?_;refine thn (hb pins s1 σ H1 _ I1 q1) λu s2 ⟨y,H2,I2,r2,q2⟩=>?_;exact hf v u s2 x y H2 I2 r1 r2 q2
def aS{op:Operator}{r:R2}(ho:OpR X (binaryOp op) r)(ha:PE X a ta)(hb:PE X b tb):PE X (.BinOp a op b pos) (tOp r ta tb):=by
 intro pins s σ H Q I h;exact wpAny_BinOp (dZ7 ha hb I h λv u s2 x y H2 I2 rx ry q=>ho pins s2 σ H2 x y v u Q I2 rx ry q)
def aJ4{op:UnaryOp}{r:V->Hp->VK->Prop}(ho:UnR X (unaryOp op) r)(ha:PE X a ta):PE X (.UnaryOp op a pos) (tUn r ta):=by
 intro pins s σ H Q I h;exact UnaryOp_ (thn (ha pins s σ H _ I h) λv s1 ⟨x,H1,I1,r1,q1⟩=>ho pins s1 σ H1 x v Q I1 r1 q1)
def opI{C:Int->Int->Prop}{g:Int->Int->Int}(rule:∀(i j:Int) (t u:Tok) (s:Shared) (Q:Q0) (E:Q0),C i j->Q (.int (g i j) s.toks) {s with toks:=s.toks+1}->wpAny (model X.prog X.w) X.A (f (.int i t) (.int j u)) Q E s):OpR X f (rI C λi j=>.int (g i j)):=by
 intro pins s σ H x y v u Q I rx ry h;obtain⟨i,j,rfl,rfl,hc,q⟩:=h;obtain⟨t,rfl⟩:=rx;obtain⟨t',rfl⟩:=ry;exact rule i j t t' s _ _ hc ⟨.int (g i j),H,I.tok _,⟨_,rfl⟩,q⟩
def eZ1{g:Int->Int->Int}(rule:∀(i j:Int) (t u:Tok) (s:Shared) (Q:Q0) (E:Q0),Q (.int (g i j) s.toks) {s with toks:=s.toks+1}->wpAny (model X.prog X.w) X.A (f (.int i t) (.int j u)) Q E s):OpR X f (rI0 λi j=>.int (g i j)):=by
 intro pins s σ H x y v u Q I rx ry h;obtain⟨i,j,rfl,rfl,q⟩:=h;obtain⟨t,rfl⟩:=rx;obtain⟨t',rfl⟩:=ry;exact rule i j t t' s _ _ ⟨.int (g i j),H,I.tok _,⟨_,rfl⟩,q⟩
def eXB{g:Int->Int->Bool}(rule:∀(i j:Int) (t u:Tok) (s:Shared) (Q:Q0) (E:Q0),Q (.bool (g i j)) s->wpAny (model X.prog X.w) X.A (f (.int i t) (.int j u)) Q E s):OpR X f (rI0 λi j=>.bl (g i j)):=by
 intro pins s σ H x y v u Q I rx ry h;obtain⟨i,j,rfl,rfl,q⟩:=h;obtain⟨t,rfl⟩:=rx;obtain⟨t',rfl⟩:=ry;exact rule i j t t' s _ _ ⟨.bl (g i j),H,I,rfl,q⟩
def eX5(i j:Int):Prop:=0<j/\j<1073741824
def CMul(i j:Int):Prop:=(-(2^64)<i/\i<2^64)\/(-(2^64)<j/\j<2^64)
def CMul.ok{i j:Int}(h:CMul i j):IntMulOk i j:=by
 rcases h with⟨h1,h2⟩|⟨h1,h2⟩
 ·exact .of_left (intBits_le_64 h1 h2)
 ·exact .of_right (intBits_le_64 h1 h2)
def eQH:OpR X (binaryOp .Add) (rI0 λi j=>.int (i+j)):=eZ1 λ_ _ _ _ _ _ _ q=>add_int q
def op_sub:OpR X (binaryOp .Sub) (rI0 λi j=>.int (i-j)):=eZ1 λ_ _ _ _ _ _ _ q=>sub_int q
def op_mul:OpR X (binaryOp .Mult) (rI CMul λi j=>.int (i*j)):=opI λ_ _ _ _ _ _ _ hc q=>mul_int q hc.ok
def op_fdiv:OpR X (binaryOp .FloorDiv) (rI eX5 λi j=>.int (i / j)):=opI λi j _ _ _ _ _ hc q=>by
 have h1:(0:Int)<j:=hc.1
 have h2:j<1073741824:=hc.2
 exact floordiv_int (by omega) (by rw[Int.fdiv_eq_ediv_of_nonneg i (by omega)];exact q) (.inl (PyProof.noPylong_small (by omega)))
def op_mod:OpR X (binaryOp .Mod) (rI (λ_ j=>0<j) λi j=>.int (i%j)):=opI λi j _ _ _ _ _ hc q=>by
 have h1:(0:Int)<j:=hc
 exact mod_int' (by omega) (by rw[Int.fmod_eq_emod_of_nonneg i (by omega)];exact q)
def unI{f:Value->Sem Value}{g:Int->Int}(rule:∀(i:Int) (t:Tok) (s:Shared) (Q:Q0) (E:Q0),Q (.int (g i) s.toks) {s with toks:=s.toks+1}->wpAny (model X.prog X.w) X.A (f (.int i t)) Q E s):UnR X f (rU λi=>.int (g i)):=by
 intro pins s σ H x v Q I rx h;obtain⟨i,rfl,q⟩:=h;obtain⟨t,rfl⟩:=rx;exact rule i t s _ _ ⟨.int (g i),H,I.tok _,⟨_,rfl⟩,q⟩
def dJM:UnR X (unaryOp .USub) (rU λi=>.int (-i)):=unI λ_ _ _ _ _ q=>neg_int q
end
def dQ4:V->V->Bool
 |.non,.non=>true|.non,.int _=>true|.int _,.non=>true|.non,.bl _=>true|.bl _,.non=>true|.non,.str _=>true|.str _,.non=>true
 |.int _,.int _=>true|.bl _,.bl _=>true|.str _,.str _=>true|.byt _,.byt _=>true
 |.int _,.str _=>true|.str _,.int _=>true|.bl _,.str _=>true|.str _,.bl _=>true
 |_,_=>false
def rEq:R2:=λx y H Q=>dQ4 x y=true/\Q (.bl (decide (x=y))) H
def rNe:R2:=λx y H Q=>dQ4 x y=true/\Q (.bl (!decide (x=y))) H
def aJL{i j:Int}:decide (V.int i=V.int j)=(i==j):=by
 rw[Gu];simp
def cQJ{i j:Bool}:decide (V.bl i=V.bl j)=(i==j):=by
 rw[Gu];simp
def aZ9{i j:Str}:decide (V.str i=V.str j)=(i==j):=by
 rw[Gu];simp
def aJT{i j:Array UInt8}:decide (V.byt i=V.byt j)=(i.toList==j.toList):=by
 rw[Gu];cases i;cases j;simp
section
variable {a b:Expr}
def bQ{Q:VK}{k k':Bool}(I:Inv X pins σ H s)(q:Q (.bl k) H)(e:k=k'):EP X pins σ Q (.bool k') s:=by
 subst e;exact⟨.bl k,H,I,rfl,q⟩
def eZ4:OpR X (compareOp .Eq) rEq:=by
 intro pins s σ H x y v u Q I rx ry h;obtain⟨hs,q⟩:=h;cases x with
 |non=>
  cases rx;cases y with
  |non=>cases ry;exact PySem.EqNone.eq_none_none (bQ I q (by simp))
  |bl j=>cases ry;exact PySem.EqNone.eq_none_bool (bQ I q (by simp))
  |int j=>obtain⟨t',rfl⟩:=ry;exact PySem.EqNone.eq_none_int (bQ I q (by simp))
  |str j=>obtain⟨t',rfl⟩:=ry;exact PySem.EqNone.eq_none_str (bQ I q (by simp))
  |_=>exact absurd (show false=true from hs) Ao
 |bl i=>
  cases rx;cases y with
  |non=>cases ry;exact PySem.EqNone.eq_bool_none (bQ I q (by simp))
  |bl j=>cases ry;exact eq_bool (bQ I q cQJ)
  |str j=>obtain⟨t',rfl⟩:=ry;exact PySem.EqMixed.eq_bool_str (bQ I q (by simp))
  |_=>exact absurd (show false=true from hs) Ao
 |int i=>
  obtain⟨t,rfl⟩:=rx;cases y with
  |non=>cases ry;exact PySem.EqNone.eq_int_none (bQ I q (by simp))
  |int j=>obtain⟨t',rfl⟩:=ry;exact eq_int (bQ I q aJL)
  |str j=>obtain⟨t',rfl⟩:=ry;exact PySem.EqMixed.eq_int_str (bQ I q (by simp))
  |_=>exact absurd (show false=true from hs) Ao
 |str i=>
  obtain⟨t,rfl⟩:=rx;cases y with
  |non=>cases ry;exact PySem.EqNone.eq_str_none (bQ I q (by simp))
  |bl j=>cases ry;exact PySem.EqMixed.eq_str_bool (bQ I q (by simp))
  |int j=>obtain⟨t',rfl⟩:=ry;exact PySem.EqMixed.eq_str_int (bQ I q (by simp))
  |str j=>obtain⟨t',rfl⟩:=ry;exact eq_str (bQ I q aZ9)
  |_=>exact absurd (show false=true from hs) Ao
 |byt i=>
  obtain⟨t,rfl⟩:=rx;cases y with
  |byt j=>obtain⟨t',rfl⟩:=ry;exact W.eq_bytes (bQ I q aJT)
  |_=>exact absurd (show false=true from hs) Ao
 |_=>cases y<;>exact absurd (show false=true from hs) Ao
def eXM:OpR X (compareOp .NotEq) rNe:=by
 intro pins s σ H x y v u Q I rx ry h;obtain⟨hs,q⟩:=h;cases x with
 |non=>
  cases rx;cases y with
  |non=>cases ry;exact PySem.EqNone.ne_none_none (bQ I q (by simp))
  |bl j=>cases ry;exact PySem.EqNone.ne_none_bool (bQ I q (by simp))
  |int j=>obtain⟨t',rfl⟩:=ry;exact PySem.EqNone.ne_none_int (bQ I q (by simp))
  |str j=>obtain⟨t',rfl⟩:=ry;exact PySem.EqNone.ne_none_str (bQ I q (by simp))
  |_=>exact absurd (show false=true from hs) Ao
 |bl i=>
  cases rx;cases y with
  |non=>cases ry;exact PySem.EqNone.ne_bool_none (bQ I q (by simp))
  |bl j=>cases ry;exact ne_bool (bQ I q (Dk not cQJ))
  |str j=>obtain⟨t',rfl⟩:=ry;exact PySem.EqMixed.ne_bool_str (bQ I q (by simp))
  |_=>exact absurd (show false=true from hs) Ao
 |int i=>
  obtain⟨t,rfl⟩:=rx;cases y with
  |non=>cases ry;exact PySem.EqNone.ne_int_none (bQ I q (by simp))
  |int j=>obtain⟨t',rfl⟩:=ry;exact ne_int (bQ I q (Dk not aJL))
  |str j=>obtain⟨t',rfl⟩:=ry;exact PySem.EqMixed.ne_int_str (bQ I q (by simp))
  |_=>exact absurd (show false=true from hs) Ao
 |str i=>
  obtain⟨t,rfl⟩:=rx;cases y with
  |non=>cases ry;exact PySem.EqNone.ne_str_none (bQ I q (by simp))
  |bl j=>cases ry;exact PySem.EqMixed.ne_str_bool (bQ I q (by simp))
  |int j=>obtain⟨t',rfl⟩:=ry;exact PySem.EqMixed.ne_str_int (bQ I q (by simp))
  |str j=>obtain⟨t',rfl⟩:=ry;exact ne_str (bQ I q (Dk not aZ9))
  |_=>exact absurd (show false=true from hs) Ao
 |byt i=>
  obtain⟨t,rfl⟩:=rx;cases y with
  |byt j=>obtain⟨t',rfl⟩:=ry;exact W.ne_bytes (bQ I q (Dk not aJT))
  |_=>exact absurd (show false=true from hs) Ao
 |_=>cases y<;>exact absurd (show false=true from hs) Ao
def op_lt:OpR X (compareOp .Lt) (rI0 λi j=>.bl (decide (i<j))):=eXB λ_ _ _ _ _ _ _ q=>lt_int q
def op_le:OpR X (compareOp .LtE) (rI0 λi j=>.bl (decide (i<=j))):=eXB λ_ _ _ _ _ _ _ q=>le_int q
def op_gt:OpR X (compareOp .Gt) (rI0 λi j=>.bl (decide (j<i))):=eXB λ_ _ _ _ _ _ _ q=>gt_int q
def op_in_str:OpR X (compareOp .In) (λx y H Q=>∃i j,x=.str i/\y=.str j/\Q (.bl (!(Builtin.Str.occurrences j i 0 j.length 1).isEmpty)) H):=by
 intro pins s σ H x y v u Q I rx ry h;obtain⟨i,j,rfl,rfl,q⟩:=h;obtain⟨t,rfl⟩:=rx;obtain⟨t',rfl⟩:=ry;exact in_str (bQ I q rfl)
def op_isN:OpR X (compareOp .Is) (λx y H Q=>y=.non/\Q (.bl (decide (x=.non))) H):=by
 intro pins s σ H x y v u Q I rx ry h;obtain⟨rfl,q⟩:=h;cases ry;refine is_none_gen (bQ I q ?_);cases x<;>first
  |(cases rx;rfl)
  |(obtain⟨t,rfl⟩:=rx;rfl)
def op_notN:OpR X (compareOp .IsNot) (λx y H Q=>y=.non/\Q (.bl (!decide (x=.non))) H):=by
 intro pins s σ H x y v u Q I rx ry h;obtain⟨rfl,q⟩:=h;cases ry;refine isnot_none_gen (bQ I q ?_);cases x<;>first
  |(cases rx;rfl)
  |(obtain⟨t,rfl⟩:=rx;rfl)
def aW(b:Expr){op:CmpOp}(h:op≠.In:=by decide)(h2:op≠.NotIn:=by decide):behindInMarks op b=false:=by
 have e1:(op==CmpOp.In)=false:=by cases op<;>first|rfl|exact absurd rfl h
 have e2:(op==CmpOp.NotIn)=false:=by cases op<;>first|rfl|exact absurd rfl h2
 cases b<;>simp[behindInMarks,e1,e2]
def eG{op:CmpOp}{r:R2}(ho:OpR X (compareOp op) r)(ha:PE X a ta)(hb:PE X b tb)(hm:behindInMarks op b=false):PE X (.Compare a [op] [b] pos) (tOp r ta tb):=by
 intro pins s σ H Q I h;exact wpAny_Compare1 (dZ7 ha hb I h λv u s2 x y H2 I2 rx ry q=>ho pins s2 σ H2 x y v u Q I2 rx ry q) hm
def eZW(K:W.Frag)(x:V)(H:Hp)(k:Bool):Prop:=
 match x with
 |.non=>k=false
 |.bl b=>k=b
 |.int i=>k=(i != 0)
 |.str y=>y.length<=sizeLine/\k=((y.length:Int) != 0)
 |.byt y=>y.size<=sizeLine/\k=((y.size:Int) != 0)
 |.ref p=>(∃xs,SqL K H p xs/\k=!xs.isEmpty)\/(∃xs,SqT K H p xs/\k=!xs.isEmpty)\/∃kvs,H p=some (.dK kvs)/\k=!kvs.isEmpty
 |_=>False
def aX2{κ:Type}{kvs:List (κ×V)}{vs:List (κ×Value)}(r:KV kvs vs):(!vs.isEmpty)=!kvs.isEmpty:=by
 cases r<;>rfl
def qT{its:List Value}(r:Vals xs its):(!its.toArray.isEmpty)=!xs.isEmpty:=by
 cases r<;>simp
def iW:(sizeLine:Nat)<2^63:=by rw[Ha];decide
def dZZ:fQF X (λx H Q=>∃k,eZW X.K x H k/\Q k H):=by
 intro pins s σ H x v Q I rx h;obtain⟨k,e,q⟩:=h;have hl:=iW
 have hs:sizeLine=16777216:=Ha
 cases x with
 |non=>
  cases rx;have e':k=false:=e
  subst e';exact truthy_none ⟨H,I,q⟩
 |bl b=>
  cases rx;have e':k=b:=e
  subst e';exact Fb ⟨H,I,q⟩
 |int i=>
  obtain⟨t,rfl⟩:=rx;have e':k=(i != 0):=e
  subst e';exact PySem.P.truthy_int ⟨H,I,q⟩
 |str y=>
  obtain⟨t,rfl⟩:=rx;obtain⟨hy,e'⟩:y.length<=sizeLine/\k=((y.length:Int) != 0):=e;subst e';exact PySem.P.truthy_str (by omega) ⟨H,I.tok _,q⟩
 |byt y=>
  obtain⟨t,rfl⟩:=rx;obtain⟨hy,e'⟩:y.size<=sizeLine/\k=((y.size:Int) != 0):=e;subst e';exact W.truthy_bytes (by omega) ⟨H,I.tok _,q⟩
 |ref p=>
  cases rx;have e':(∃xs,SqL X.K H p xs/\k=!xs.isEmpty)\/(∃xs,SqT X.K H p xs/\k=!xs.isEmpty)\/∃kvs,H p=some (.dK kvs)/\k=!kvs.isEmpty:=e
  rcases e' with⟨xs,hx,e'⟩|⟨xs,hx,e'⟩|⟨kvs,hx,e'⟩
  ·subst e';obtain⟨its,r,pl,hz⟩:=I.list hx;have hlen:=r.length
   exact wpAny_truthy_list pl.isList (by simp only[List.size_toArray];omega) ⟨H,I.tok _,by rw[qT r];exact q⟩
  ·subst e';obtain⟨its,r,pl,hz⟩:=I.tuple hx;have hlen:=r.length
   exact truthy_tuple pl (by simp only[List.size_toArray];omega) ⟨H,I.tok _,by rw[qT r];exact q⟩
  ·subst e';obtain⟨hz,hS,vs,r,m⟩:kvs.length<=sizeLine/\(p==sysModules)=false/\∃vs,KV kvs vs/\s.heap.DictOf (bB X.prog X.w) p vs:=I.hok p _ hx;have hlen:kvs.length=vs.length:=Paired.length r
   exact wpAny_truthy_dict hS m (by omega) ⟨H,I.tok _,by rw[aX2 r];exact q⟩
 |_=>exact(show False from e).elim
def aX5:OpR X (binaryOp .Add) (λx y H Q=>∃i j,x=.str i/\y=.str j/\i.length+j.length<=sizeLine/\Q (.str (i++j)) H):=by
 intro pins s σ H x y v u Q I rx ry h;obtain⟨i,j,rfl,rfl,hz,q⟩:=h;obtain⟨t,rfl⟩:=rx;obtain⟨t',rfl⟩:=ry;exact add_str (λt' tk=>⟨.str (i++j),H,I.tok _,⟨_,rfl⟩,q⟩) hz
def dI{x:V}(r:Vals [x] us):∃u,us=[u]/\RelV x u:=by
 cases r with
 |cons r1 r2=>cases r2;exact⟨_,rfl,r1⟩
def yI{x y:V}(r:Vals [x,y] us):∃u w',us=[u,w']/\RelV x u/\RelV y w':=by
 cases r with
 |cons r1 r2=>
  cases r2 with
  |cons r3 r4=>cases r4;exact⟨_,_,rfl,r1,r3⟩
def call_int1:CallR X (.type "int") (λxs H Q=>(∃i,xs=[.int i]/\Q (.int i) H)\/∃k,xs=[.bl k]/\Q (.int (if k then 1 else 0)) H):=by
 intro pins s σ H xs us Q I r h;rcases h with⟨i,rfl,q⟩|⟨k,rfl,q⟩
 ·obtain⟨u,rfl,t,rfl⟩:=dI r;exact call_int_int ⟨.int i,H,I,⟨_,rfl⟩,q⟩
 ·obtain⟨u,rfl,r1⟩:=dI r;cases r1;exact call_int_bool ⟨.int (if k then 1 else 0),H,I.tok _,⟨_,rfl⟩,q⟩
def fQJ(K:W.Frag)(x:V)(H:Hp)(n:Nat):Prop:=
 match x with
 |.str y=>y.length<=sizeLine/\n=y.length
 |.byt y=>y.size<=sizeLine/\n=y.size
 |.ref p=>(∃xs,SqL K H p xs/\n=xs.length)\/∃xs,SqT K H p xs/\n=xs.length
 |_=>False
def call_len:CallR X (.builtin "len") (λxs H Q=>∃x n,xs=[x]/\fQJ X.K x H n/\Q (.int n) H):=by
 intro pins s σ H xs us Q I r h;obtain⟨x,n,rfl,e,q⟩:=h;obtain⟨u,rfl,rx⟩:=dI r;have hl:=iW
 have hs:sizeLine=16777216:=Ha
 cases x with
 |str y=>
  obtain⟨t,rfl⟩:=rx;obtain⟨hy,e'⟩:y.length<=sizeLine/\n=y.length:=e;subst e';exact len_str (by omega) ⟨.int _,H,I.tok _,⟨_,rfl⟩,q⟩
 |byt y=>
  obtain⟨t,rfl⟩:=rx;obtain⟨hy,e'⟩:y.size<=sizeLine/\n=y.size:=e;subst e';exact W.len_bytes (by omega) ⟨.int _,H,I.tok _,⟨_,rfl⟩,q⟩
 |ref p=>
  cases rx;have e':(∃xs,SqL X.K H p xs/\n=xs.length)\/∃xs,SqT X.K H p xs/\n=xs.length:=e
  rcases e' with⟨xs,hx,e'⟩|⟨xs,hx,e'⟩
  ·subst e';obtain⟨its,r',pl,hz⟩:=I.list hx;have hlen:=r'.length
   exact Calls.call_len_list pl.isList (by simp only[List.size_toArray];omega) ⟨.int xs.length,H,I.tok _,⟨_,by simp only[List.size_toArray];rw[hlen]⟩,q⟩
  ·subst e';obtain⟨its,r',pl,hz⟩:=I.tuple hx;have hlen:=r'.length
   exact len_tuple pl (by simp only[List.size_toArray];omega) ⟨.int xs.length,H,I.tok _,⟨_,by simp only[List.size_toArray];rw[hlen]⟩,q⟩
 |_=>exact(show False from e).elim
end
structure ObjM (h:Heap) (x dx C:Addr) (mA:Str->Option Value):Prop where
 obj:h.get? x=some (W.instObj C dx)
 ns:h.Ns1 dx mA
 ne:dx≠x
def bQN{mA:Q5}(n:h.Ns1 dx mA):∃od,h.get? dx=some od/\∀name,W.lookIn name od=some (mA name):=by
 obtain⟨o,es,ep,ho,hd,hk,_,hm⟩:=n;refine⟨o,ho,λname=>?_⟩;have e:=hm name
 unfold nsFind findBy at e;rw[<-Array.find?_toList]at e;unfold W.lookIn;rw[hd];dsimp only;split
 ·rename_i y q
  rw[q]at e;exact Dk some e
 ·rename_i q
  rw[q]at e;have a:es.toList.any (·.refKey)=false:=by
   rw[List.any_eq_false];intro y hy;obtain⟨z,t,hkey⟩:=hk y (Array.mem_toList_iff.mp hy);simp[DictEntry.refKey,hkey]
  have a':¬es.toList.any (·.refKey)=true:=by rw[a];exact Ao
  rw[if_neg a'];exact Dk some e
def ObjM.look{x:Addr}{mA:Q5}(I:ObjM h x dx C mA):∃od,W.InstAt h x (W.instObj C dx) C (some od)/\∀name,W.lookIn name od=some (mA name):=
 let ⟨od,ho,hl⟩:=bQN I.ns
 ⟨od,⟨I.obj,rfl,rfl,ho⟩,hl⟩
section
variable {prog:Program} {x f:Addr} {mA:Q5} {name:Str} {v:Value}
def cJV{expr:Bool}(X:K.In s.heap)(I:ObjM s.heap x dx C mA)(hg:W.plainGet K C name=true)(hh:W.hasDictIn K C=true)(ha:W.findIn K (.ref C) name=some none)(hv:mA name=some v)(hv':W.handedIn v=true)(h:Q v {s with toks:=s.toks+1}):wpAny (model prog w) A (getAttr (.ref x) name expr) Q E s:=by
 obtain⟨od,J,hl⟩:=I.look;exact W.get_value X J (W.plainGet_of hg).1 (W.findObj_own hh ha rfl (by rw[hl,hv])) hv' h
def bJJ{Q:Value×List Value->Shared->Prop}(X:K.In s.heap)(I:ObjM s.heap x dx C mA)(hg:W.plainGet K C name=true)(hf:W.findIn K (.ref C) name=some (some (.ref f)))(ht:W.isFn K (.ref f)=true)(hv:mA name=none)(h:Q (.ref f,[.ref x]) s):wpAny (model prog w) A (getMethod (.ref x) name pl) Q E s:=by
 obtain⟨od,J,hl⟩:=I.look;exact W.method_fn X J (W.plainGet_of hg).1 (W.plainGet_of hg).2 hf (beq_iff_eq.mp ht) (by show (W.lookIn name od).map (·.isSome)=some false;rw[hl,hv];rfl) h
def dQ5{ns:List Str}{Q:Unit->Shared->Prop}(X:K.In s.heap)(I:ObjM s.heap x dx C mA)(hs:W.findIn K (.ref C) "__setattr__"=some (some (.builtin "object.__setattr__")))(hp:W.plainOver K C=true)(ht:W.takerIn K C name=some none)(hh:W.hasDictIn K C=true)(hw:PySem.Within mA ns)(hsz:ns.length<=sizeLine)(h:∀h',ObjM h' x dx C (λy=>if y=name then some v else mA y)->Heap.SameBut dx s.heap h'->Q () {s with heap:=h',toks:=s.toks+2}):wpAny (model prog w) A (setAttr (.ref x) name v) Q E s:=by
 obtain⟨od,J,hl⟩:=I.look;refine W.set_plain X J hs (W.osa_open (s:={s with toks:=s.toks+1}) (r:=none) X J hp ht λb=>?_)
 obtain⟨cd,hc,hd'⟩:=W.any_some hh;have hx:s.heap.get? x=some ⟨.ref C,some dx,.plain,#[]⟩:=I.obj
 refine Ad (Al (Ad (Ad (wpAny_loadPart hx (Ad (W.Looks.here (s:={s with toks:=s.toks+1}) (W.looks_clsIn X hc) ?_))))))
 rw[hd'];refine Al (a:=some dx) (Ad (Al (Ad ?_)));refine wpAny_nsSet1 (s:={s with toks:=s.toks+1}) I.ns λh' hn2 hs2=>?_
 obtain⟨oD,esD,epD,hoD,hdD,hcD⟩:=hn2.count (PySem.Within.cons name v hw);refine Ad (wpAny_lookBehind hoD (by rw[hdD];exact pastItsLine_dict (Ca hcD (by rw[Au];omega))) ?_)
 exact Al (h _ ⟨(hs2.2 _ (Ne.symm I.ne)).trans I.obj,hn2,I.ne⟩ hs2)
def cQ3{R:Result->Shared->Prop}{vs:List Value}(X:K.In s.heap)(hm:W.makesIn K C=true)(hi:W.findIn K (.ref C) "__init__"=some (some (.ref f)))(hf:W.typeIn K (.ref f)=some (.type "function"))(h:codeAny (model prog w) (A.under (.builtin "type.__call__" ⟨.ref C::vs,kw⟩)) (.call (.ref f) ⟨.ref (s.heap.objs.size+1)::vs,kw⟩) (W.InitBack (s.heap.objs.size+1) R)
 {s with heap:=(s.heap.push W.emptyDict).push (W.instObj C s.heap.objs.size)}):codeAny (model prog w) A (.call (.ref C) ⟨vs,kw⟩) R s:=by
 obtain⟨hh,g,d,t,os⟩:=s;exact W.make_core (W.makes_of X hm) (W.looks_findIn X hi) (λself=>W.bind_fn X self hf) (.inl rfl) h
end
def fM(f:Str)(v:V):List (Str×V)->List (Str×V)
 |[]=>[(f,v)]
 |(g,x)::r=>if g=f then (g,v)::r else (g,x)::fM f v r
def pJ(f g:Str)(v:V):∀fs:List (Str×V),(fM f v fs).lookup g=if g=f then some v else fs.lookup g
 |[]=>by
  show List.lookup g [(f,v)]=_
  by_cases h:g=f
  ·have hb:(g==f)=true:=beq_iff_eq.mpr h
   simp only[List.lookup,hb,if_pos h]
  ·have hb:(g==f)=false:=Cu.mpr h
   simp only[List.lookup,hb,if_neg h]
 |(k,x)::r=>by
  have ih:=pJ f g v r
  rw[show fM f v ((k,x)::r)=(if k=f then (k,v)::r else (k,x)::fM f v r) from rfl]
  by_cases hk:k=f
  ·rw[if_pos hk];by_cases h:g=k
   ·have hb:(g==k)=true:=beq_iff_eq.mpr h
    simp only[List.lookup,hb,if_pos (h.trans hk)]
   ·have hb:(g==k)=false:=Cu.mpr h
    simp only[List.lookup,hb,if_neg (λe:g=f=>h (e.trans hk.symm))]
  ·rw[if_neg hk];by_cases h:g=k
   ·have hb:(g==k)=true:=beq_iff_eq.mpr h
    simp only[List.lookup,hb,if_neg (λe:g=f=>hk (h.symm.trans e))]
   ·have hb:(g==k)=false:=Cu.mpr h
    simp only[List.lookup,hb];exact ih
def oO(f:Str)(v:V):∀fs:List (Str×V),f∈(fM f v fs).map (·.1)/\∀g,g∈fs.map (·.1)->g∈(fM f v fs).map (·.1)
 |[]=>⟨by simp[fM],λg h=>by simp at h⟩
 |(k,x)::r=>by
  obtain⟨i1,i2⟩:=oO f v r;rw[show fM f v ((k,x)::r)=(if k=f then (k,v)::r else (k,x)::fM f v r) from rfl]
  by_cases hk:k=f
  ·rw[if_pos hk];subst hk;exact⟨by simp,λg h=>by simpa using h⟩
  ·rw[if_neg hk];refine⟨?_,λg h=>?_⟩
   ·rw[Aq];exact Ai _ i1
   ·rw[Aq]at h ⊢;rcases Be.mp h with e|e
    ·exact Be.mpr (.inl e)
    ·exact Ai _ (i2 g e)
def pW(f:Str)(v:V):∀fs:List (Str×V),(fM f v fs).length<=fs.length+1
 |[]=>by simp[fM]
 |(k,x)::r=>by
  have ih:=pW f v r
  rw[show fM f v ((k,x)::r)=(if k=f then (k,v)::r else (k,x)::fM f v r) from rfl]
  by_cases hk:k=f
  ·rw[if_pos hk,Au,Au];omega
  ·rw[if_neg hk,Au,Au];omega
def RelO.some_of{v:V}{o:Option Value}(r:RelO (some v) o):∃u,o=some u/\RelV v u:=by
 cases o with
 |none=>exact(show False from r).elim
 |some u=>exact⟨u,rfl,r⟩
def RelO.none_of{o:Option Value}(r:RelO none o):o=none:=by
 cases o with
 |none=>rfl
 |some u=>exact(show False from r).elim
def bQP(r:RelV v u):W.handedIn u=true:=by
 cases v with
 |non=>cases (show u=Value.none from r);rfl
 |bl b=>cases (show u=Value.bool b from r);rfl
 |int i=>obtain⟨t,e⟩:=(show ∃t,u=Value.int i t from r);cases e;rfl
 |str x=>obtain⟨t,e⟩:=(show ∃t,u=Value.str x t from r);cases e;rfl
 |byt b=>obtain⟨t,e⟩:=(show ∃t,u=Value.bytes b t from r);cases e;rfl
 |flt b=>obtain⟨t,e⟩:=(show ∃t,u=Value.float b t from r);cases e;rfl
 |ref a=>cases (show u=Value.ref a from r);rfl
 |ty n=>cases (show u=Value.type n from r);rfl
section
variable {fs:List (Str×V)}
def qH(hok:HOk P w H h)(e:H a=some (.ins C dx fs)):∃mA,ObjM h a dx C mA/\(∀f,RelO (fs.lookup f) (mA f))/\PySem.Within mA (fs.map (·.1))/\fs.length<=1000/\H dx=some (.own a):=by
 obtain⟨d,z,ne,ob,mA,n,r,q⟩:=(show ObjOk P w H h a (.ins C dx fs) from hok a _ e);exact⟨mA,⟨ob,n,ne⟩,r,q,z,d⟩
end
structure Cls (K:W.Frag) (C:Addr):Prop where
 pg:W.plainGet K C Str.empty=true
 hd:W.hasDictIn K C=true
 po:W.plainOver K C=true
 sa:W.findIn K (.ref C) "__setattr__"=some (some (.builtin "object.__setattr__"))
def Cls.get(c:Cls K C)(f:Str):W.plainGet K C f=true:=c.pg
def NoAttr(K:W.Frag)(C:Addr)(f:Str):Prop:=W.findIn K (.ref C) f=some none
def NoAttr.taker{f:Str}(n:NoAttr K C f):W.takerIn K C f=some none:=by
 unfold W.takerIn;rw[show W.findIn K (.ref C) f=some none from n];rfl
structure Meth (K:W.Frag) (C:Addr) (m:Str) (f:Addr):Prop where
 at_:W.findIn K (.ref C) m=some (some (.ref f))
 fn:W.isFn K (.ref f)=true
 kp:W.keepIn K (.ref f)=true
section
variable {fs:List (Str×V)} {f:Str}
def aX6{b:Bool}(I:Inv X pins σ H s)(e:H a=some (.ins C dx fs))(c:Cls X.K C)(n:NoAttr X.K C f)(l:fs.lookup f=some v)(h:∀u s',Inv X pins σ H s'->RelV v u->Q u s'):wpAny (model X.prog X.w) A (getAttr (.ref a) f b) Q E s:=by
 obtain⟨mA,O,r,_,_,_⟩:=qH I.hok e;obtain⟨u,hu,ru⟩:=RelO.some_of (v:=v) (o:=mA f) (by rw[<-l];exact r f)
 exact cJV I.kIn O (c.get f) c.hd n hu (bQP ru) (h u _ (I.tok _) ru)
def mM{m:Str}{g:Addr}{Q:Value×List Value->Shared->Prop}(I:Inv X pins σ H s)(e:H a=some (.ins C dx fs))(c:Cls X.K C)(k:Meth X.K C m g)(l:fs.lookup m=none)(h:Q (.ref g,[.ref a]) s):wpAny (model X.prog X.w) A (getMethod (.ref a) m pl) Q E s:=by
 obtain⟨mA,O,r,_,_,_⟩:=qH I.hok e;have hn:mA m=none:=RelO.none_of (by rw[<-l];exact r m)
 exact bJJ I.kIn O (c.get m) k.at_ k.fn hn h
def aXB{y:V}{Q:Unit->Shared->Prop}(I:Inv X pins σ H s)(e:H a=some (.ins C dx fs))(c:Cls X.K C)(n:NoAttr X.K C f)(hl:fs.length<1000)(ry:RelV y u)(h:∀s',Inv X pins σ (upd H a (.ins C dx (fM f y fs))) s'->Q () s'):wpAny (model X.prog X.w) A (setAttr (.ref a) f u) Q E s:=by
 obtain⟨mA,O,r,wi,_,ho⟩:=qH I.hok e;have hz:(fs.map (·.1)).length<=sizeLine:=by rw[Ab,Ha];omega
 refine dQ5 I.kIn O c.sa c.po n.taker c.hd wi hz λh' O' sb=>h _ ?_;have hd:∃o,h'.get? dx=some o:=let ⟨o,_,_,e',_⟩:=O'.ns;⟨o,e'⟩
 refine I.write (x:=a) (e:=dx) (by rw[e];exact True.intro) (.inr ho) (λb q hb z=>(sb.2 b hb).trans z) hd ?_
 refine⟨by rw[aG O.ne];exact ho,?_,O.ne,O'.obj,_,O'.ns,λg=>?_,λg hg=>?_⟩
 ·have:=pW f y fs;omega
 ·show RelO ((fM f y fs).lookup g) (if g=f then some u else mA g)
  rw[pJ];by_cases q:g=f
  ·rw[if_pos q,if_pos q];exact ry
  ·rw[if_neg q,if_neg q];exact r g
 ·by_cases q:g=f
  ·rw[q];exact(oO f y fs).1
  ·refine(oO f y fs).2 g (wi g λz=>hg ?_);show (if g=f then some u else mA g)=none
   rw[if_neg q];exact z
def Inv.made(I:Inv X pins σ H s):Inv X pins σ (upd (upd H s.heap.objs.size (.own (s.heap.objs.size+1))) (s.heap.objs.size+1) (.ins C s.heap.objs.size []))
 {s with heap:=(s.heap.push W.emptyDict).push (W.instObj C s.heap.objs.size)}:=by
 have e1:(s.heap.push W.emptyDict).get? s.heap.objs.size=some W.emptyDict:=Av s.heap rfl
 have e2:((s.heap.push W.emptyDict).push (W.instObj C s.heap.objs.size)).get? (s.heap.objs.size+1)=some (W.instObj C s.heap.objs.size):=by
  have:=Av (s.heap.push W.emptyDict) (o:=W.instObj C s.heap.objs.size) rfl
  rwa [Et]at this
 have e3:(s.heap.push W.emptyDict).Ns s.heap.objs.size (λ_=>none):=⟨W.emptyDict,#[],_,e1,rfl,(λe he=>absurd he (by simp)),λ_=>rfl⟩
 have I1:=I.laid (a:=s.heap.objs.size) (o:=.own (s.heap.objs.size+1)) (h':=s.heap.push W.emptyDict) (t':=s.toks) (λb u q=>Ag _ q) (Aj _) ⟨_,e1⟩
 refine I1.laid (a:=s.heap.objs.size+1) (o:=.ins C s.heap.objs.size []) (t':=s.toks) (λb u q=>Ag _ q) (Nat.le_of_eq (Et _ _)) ?_;have ne:s.heap.objs.size≠s.heap.objs.size+1:=Bd (Nat.lt_succ_self _)
 refine⟨by rw[aG ne,aD],Cy _,ne,e2,λ_=>none,(Heap.Ns1.of_empty e3).at λo q=>Ag _ q,λ_=>True.intro,λy hy=>absurd rfl hy⟩
def cZT{prog:Program}{env:Env}{f:Str}(hb:attributeBase e f env (eval e env)=eval e env)(h:wpAny (model prog w) A (eval e env) (λo s₁=>wpAny (model prog w) A (getAttr o f true) Q E s₁) E s):wpAny (model prog w) A (eval (.Attribute e f pos) env) Q E s:=
 Attribute_any_ h (by rw[arm_eval_Attribute,hb])
end
def eZK(K:W.Frag)(ta:TE)(f:Str):TE:=λσ H Q=>ta σ H λx H1=>∃a C dx fs v,x=.ref a/\H1 a=some (.ins C dx fs)/\Cls K C/\NoAttr K C f/\fs.lookup f=some v/\Q v H1
def eZD(K:W.Frag)(ta tv:TE)(f:Str):TS:=λD σ H=>tv σ H λy H1=>ta σ H1 λx H2=>∃a C dx fs,x=.ref a/\H2 a=some (.ins C dx fs)/\Cls K C/\NoAttr K C f/\fs.length<1000/\
 D.nx σ (upd H2 a (.ins C dx (fM f y fs)))
section
variable {o value:Expr} {f:Str} {pos':Pos} {tv:TE}
def oX(he:PE X e ta)(hb:attributeBase e f X.env (eval e X.env)=eval e X.env):PE X (.Attribute e f pos) (eZK X.K ta f):=by
 intro pins s σ H Q I h;refine cZT hb (thn (he pins s σ H _ I h) λu s1 ⟨x,H1,I1,rx,a,C,dx,fs,v,ex,ea,c,n,l,q⟩=>?_);subst ex;obtain rfl:u=Value.ref a:=rx;exact aX6 I1 ea c n l λu' s2 I2 ru=>⟨v,H1,I2,ru,q⟩
def jC(ha:PE X o ta)(hv:PE X value tv)(hs:swapsWith value (some (.Attribute o f pos')) pos.line X.env=pure false):PS X (.Assign [.Attribute o f pos'] value pos) (eZD X.K ta tv f):=by
 intro pins s σ H D I h;refine plainObj_wpAny_Assign_Attribute (thn (hv pins s σ H _ I h) λu s1 ⟨y,H1,I1,ry,q⟩=>thn (ha pins s1 σ H1 _ I1 q) λov s2 ⟨x,H2,I2,rx,a,C,dx,fs,ex,ea,c,n,l,q2⟩=>?_) hs;subst ex;obtain rfl:ov=Value.ref a:=rx;exact aXB I2 ea c n l ry λs3 I3=>⟨σ,_,I3,q2⟩
def dXV{m:Str}{apos:Pos}{args:List Expr}(he:PE X e te)(I:Inv X pins σ H s)(h:te σ H λx H1=>∃a C dx fs g,x=.ref a/\H1 a=some (.ins C dx fs)/\Cls X.K C/\Meth X.K C m g/\fs.lookup m=none/\
 ∀s1,Inv X pins σ H1 s1->wpAny (model X.prog X.w) X.A (callWith pos (.ref g) [.ref a] (backTo pos (starEach args X.env)) (backToKw pos (keywordEach [] X.env))) Q X.xe s1)(ht:eval (.Call (.Attribute e m apos) args [] pos) X.env=(do
 let ov <-eval e X.env
 standAt apos.atName
 let (f,first) <-holding [ov] (getMethod ov m pl)
 callWith pos f first (backTo pos (starEach args X.env)) (backToKw pos (keywordEach [] X.env)))):wpAny (model X.prog X.w) X.A (eval (.Call (.Attribute e m apos) args [] pos) X.env) Q X.xe s:=by
 refine Fu (pl:=pl) (thn (he pins s σ H _ I h) λu s1 ⟨x,H1,I1,rx,a,C,dx,fs,g,ex,ea,c,k,l,q⟩=>?_) ht;subst ex;obtain rfl:u=Value.ref a:=rx;exact mM I1 ea c k l (q s1 I1)
end
section
variable {c:Value} {b:Bool}
inductive TyOf (K:W.Frag) (H:Hp):V->Value->Prop where
 |non:TyOf K H .non (.type "NoneType")
 |bl (x:Bool):TyOf K H (.bl x) (.type "bool")
 |int (i:Int):TyOf K H (.int i) (.type "int")
 |str (x:Str):TyOf K H (.str x) (.type "str")
 |flt (x:UInt64):TyOf K H (.flt x) (.type "float")
 |lst {a:Addr} {xs:List V} (e:H a=some (.lst xs)):TyOf K H (.ref a) (.type "list")
 |frz {a:Addr} {o:Obj} {xs:List V} (e:H a=some (.frz o (.lst xs))):TyOf K H (.ref a) (.type "list")
 |tup {a:Addr} {xs:List V} (e:H a=some (.tup xs)):TyOf K H (.ref a) (.type "tuple")
 |dK {a:Addr} {kvs:List (Key×V)} (e:H a=some (.dK kvs)):TyOf K H (.ref a) (.type "dict")
 |dT {a:Addr} {kvs:List (List Key×V)} (e:H a=some (.dT kvs)):TyOf K H (.ref a) (.type "dict")
 | ins {a C dx:Addr} {fs:List (Str×V)} (e:H a=some (.ins C dx fs)) (cl:Cls K C) (ha:W.findIn K (.ref C) "__class__"=some (some (.builtin "object.__class__")))
     (hn:W.specialIn K (.builtin "object.__class__") "__get__"=some (some (.builtin "getset_descriptor.__get__"))) (htk:W.takesIn K (.builtin "object.__class__")=some true)
     (hm:W.mroIn K C (.type "object")=some true):TyOf K H (.ref a) (.ref C)
def bXA{x:V}{t:Value}(I:Inv X pins σ H s)(rx:RelV x u)(ty:TyOf X.K H x t)(e:W.kitOne X.K t c=some b)(h:∀tk,Q (.bool b) {s with toks:=tk}):wpAny (model X.prog X.w) A (call (.builtin "isinstance") [u,c]) Q E s:=by
 cases ty with
 |non=>cases (show u=Value.none from rx);exact Dp W.kitx_none I.kIn True.intro e (λz=>nomatch z) h
 |bl y=>cases (show u=Value.bool y from rx);exact Dp W.kitx_bool I.kIn True.intro e (λz=>nomatch z) h
 |int i=>obtain⟨t,q⟩:=(show ∃t,u=Value.int i t from rx);cases q;exact Dp W.kitx_int I.kIn True.intro e (λz=>nomatch z) h
 |str y=>obtain⟨t,q⟩:=(show ∃t,u=Value.str y t from rx);cases q;exact Dp W.kitx_str I.kIn True.intro e (λz=>nomatch z) h
 |flt y=>obtain⟨t,q⟩:=(show ∃t,u=Value.float y t from rx);cases q;exact Dp W.kitx_float I.kIn True.intro e (λz=>nomatch z) h
 | @lst a xs ea=>
  cases (show u=Value.ref a from rx);obtain⟨_,_,n,_,h1⟩:=(show ObjOk X.prog X.w H s.heap a (.lst xs) from I.hok a _ ea);exact Dp W.kitx_list I.kIn ⟨_,h1,rfl⟩ e (λz=>nomatch z) h
 | @frz a ob xs ea=>
  cases (show u=Value.ref a from rx);obtain⟨_,_,_,n,_,h1⟩:=(show ObjOk X.prog X.w H s.heap a (.frz ob (.lst xs)) from I.hok a _ ea);exact Dp W.kitx_list I.kIn ⟨_,h1,rfl⟩ e (λz=>nomatch z) h
 | @tup a xs ea=>
  cases (show u=Value.ref a from rx);obtain⟨_,_,_,p⟩:=(show ObjOk X.prog X.w H s.heap a (.tup xs) from I.hok a _ ea);obtain⟨o,h1,h2,_⟩:=p;exact Dp W.kitx_tuple I.kIn ⟨o,h1,h2⟩ e (λz=>nomatch z) h
 | @dK a kvs ea=>
  cases (show u=Value.ref a from rx);obtain⟨_,_,vs,_,p⟩:=(show ObjOk X.prog X.w H s.heap a (.dK kvs) from I.hok a _ ea);obtain⟨o,es,ep,h1,h2,_⟩:=p;exact Dp W.kitx_dict I.kIn ⟨o,h1,h2.1⟩ e (λz=>nomatch z) h
 | @dT a kvs ea=>
  cases (show u=Value.ref a from rx);obtain⟨_,_,xs,_,o,es,ep,h1,h2,_⟩:=(show ObjOk X.prog X.w H s.heap a (.dT kvs) from I.hok a _ ea);exact Dp W.kitx_dict I.kIn ⟨o,h1,h2.1⟩ e (λz=>nomatch z) h
 | @ins a C dx fs ea cl ha hn htk hm=>
  cases (show u=Value.ref a from rx);obtain⟨mA,O,_⟩:=qH I.hok ea;obtain⟨od,J,_⟩:=O.look;exact Dp (W.kitx_own (cl.get _) cl.hd ha hn htk hm) I.kIn J e (λz=>nomatch z) h
end
structure Room (k:Nat) (A:Around):Prop where
 hd:A.handled=none
 dp:A.depth+3*k+5<recursionLimit
 un:A.units+16*k+200<cLine
def Room.mono{j:Nat}(r:Room k A)(h:j<=k):Room j A:=⟨r.hd,by have:=r.dp;omega,by have:=r.un;omega⟩
def Room.deeper(r:Room (k+1) A)(env:Env):Room k (A.deeper env):=
 ⟨r.hd,by have:=r.dp;show A.depth+1+3*k+5<_;omega,by have:=r.un;show A.units+3+16*k+200<_;omega⟩
def aXY:(A.under (.builtin "type.__call__" ⟨.ref C::us,kw⟩)).depth=A.depth+1:=by
 first|rfl|simp[Around.under,Code.weight,Code.isCreation,Code.isGuard,Code.isCaller,Code.frames,Code.isFrame,guardIds]
def aXM:(A.under (.builtin "type.__call__" ⟨.ref C::us,kw⟩)).units=A.units+1:=by
 first|rfl|simp[Around.under,Code.cUnits,Code.frames,Code.isFrame]
def Room.make(r:Room (k+1) A)(C:Addr)(us:List Value)(kw:List (Str×Value)):Room k (A.under (.builtin "type.__call__" ⟨.ref C::us,kw⟩)):=
 ⟨r.hd,by have:=r.dp;rw[aXY];omega,by have:=r.un;rw[aXM];omega⟩
def Room.depth(r:Room k A):A.depth<recursionLimit:=by have:=r.dp;omega
def Room.units0(r:Room k A):A.units<cLine:=by have:=r.un;omega
def bXG:TA:=λ_ H Q=>Q [] H
def aQD(ta:TE)(tr:TA):TA:=λσ H Q=>ta σ H λx H1=>tr σ H1 λxs H2=>Q (x::xs) H2
section
variable {X:Cx} {e:Expr} {es:List Expr} {te:TE} {t:TA} {pos:Pos}
def aB:PA X [] bXG:=λ_ _ _ _ H Q I h=>Calls.spliced_nil ⟨[],H,I,.nil,h⟩
def aA(ha:PE X e te)(hr:PA X es t)(hs:starEach (e::es) X.env=(false,eval e X.env)::starEach es X.env:=by rfl):PA X (e::es) (aQD te t):=by
 intro pos pins s σ H Q I h;rw[hs];show wpAny _ _ (spliced ((false,eval e X.env)::backTo pos (starEach es X.env))) _ _ s
 refine Calls.spliced_cons (thn (ha pins s σ H _ I h) λu s1 ⟨x,H1,I1,r1,q1⟩=>?_);exact thn (hr pos pins s1 σ H1 _ I1 q1) λus s2 ⟨xs,H2,I2,r2,q2⟩=>⟨x::xs,H2,I2,.cons r1 r2,q2⟩
def eXV(t:TA):TE:=λσ H Q=>t σ H λxs H1=>xs.length<=sizeLine/\∀p,H1 p=none->Q (.ref p) (upd H1 p (.tup xs))
def eZF(t:TA):TE:=λσ H Q=>t σ H λxs H1=>xs.length<=sizeLine/\∀p,H1 p=none->Q (.ref p) (upd H1 p (.lst xs))
def tM{x1}(h:PA X es t):PE X (.Tuple es x1 pos) (eXV t):=by
 intro pins s σ H Q I hq;refine wpAny_Tuple_spliced (thn (h pos pins s σ H _ I hq) λus s1 ⟨xs,H1,I1,r,z,q⟩=>⟨by rw[<-r.length];exact z,?_⟩)
 have hf:H1 s1.heap.objs.size=none:=I1.hok.fresh (Aj _)
 refine⟨.ref s1.heap.objs.size,upd H1 s1.heap.objs.size (.tup xs),I1.laid (t':=s1.toks) (λb u e=>Ag _ e) (Aj _) ?_,rfl,q _ hf⟩;exact⟨z,us,r,⟨_,Av _ rfl,rfl,_,rfl⟩⟩
def cG(h:PA X es t):PE X (.List es pos) (eZF t):=by
 intro pins s σ H Q I hq;refine wpAny_List_spliced (thn (h pos pins s σ H _ I hq) λus s1 ⟨xs,H1,I1,r,z,q⟩=>⟨by rw[<-r.length];exact z,?_⟩)
 have hf:H1 s1.heap.objs.size=none:=I1.hok.fresh (Aj _)
 refine⟨.ref s1.heap.objs.size,upd H1 s1.heap.objs.size (.lst xs),I1.laid (t':=s1.toks) (λb u e=>Ag _ e) (Aj _) ?_,rfl,q _ hf⟩;exact⟨z,us,0,r,Av _ rfl⟩
end
abbrev Sp:=List V->Hp->VK->XK->Prop
abbrev CXT:=List Env->Hp->Shared->XK->Value->Shared->Prop
structure Env0 (P:Program) (w:World) (K:W.Frag) (mg:Str->Option Value) (base:Heap) (A:Around) (outer:List Env) (s:Shared) (H:Hp):Prop where
 frames:A.frames=some outer
 mod:Mod K mg base
 bs:∀b o,base.get? b=some o->s.heap.get? b=some o/\H b=none
 bsz:base.objs.size<=s.heap.objs.size
 funs:s.heap.FunFrames base outer
 frf:∀b∈frs outer,H b=none
 hok:HOk P w H s.heap
 bare:AllBare s.gens
def CE(outer:List Env)(P:Program)(w:World)(H:Hp)(s:Shared)(Q:VK)(u:Value)(s':Shared):Prop:=
 ∃v H',s'.os=s.os/\AllBare s'.gens/\Un (frs outer) [] H H' s.heap s'.heap/\HOk P w H' s'.heap/\RelV v u/\Q v H'
def CR(CX:CXT)(outer:List Env)(P:Program)(w:World)(H:Hp)(s:Shared)(Q:VK)(E:XK)(r:Result)(s':Shared):Prop:=
 match r with
 |.ok (.ret u)=>CE outer P w H s Q u s'
 |.ok _=>False
 |.error e=>CX outer H s E e s'
structure FnOk (P:Program) (w:World) (K:W.Frag) (mg:Str->Option Value) (base:Heap) (CX:CXT) (k:Nat) (f:Addr) (fd:FuncData) (ps:List Str) (sp:Sp):Prop where
 len:∀vs H Q E,sp vs H Q E->vs.length=ps.length
 run:∀(A:Around) (outer:List Env) (s:Shared) (H:Hp) (args:Args) (us:List Value) (vs:List V) (Q:VK) (E:XK),Room k A->Env0 P w K mg base A outer s H->BindsTo s fd args (ps.zip us)->Vals vs us->sp vs H Q E->
  codeAny (model P w) A (.call (.ref f) args) (CR CX outer P w H s Q E) s
def Env0.make{mg:Q5}{base:Heap}{outer:List Env}(e:Env0 P w K mg base A outer s H)(C:Addr)(us:List Value)(kw:List (Str×Value)):Env0 P w K mg base (A.under (.builtin "type.__call__" ⟨.ref C::us,kw⟩)) outer s H:=⟨by first|exact e.frames|(simpa [Around.under,Code.envs,Code.isFrame,pushEnvs]using e.frames),e.mod,e.bs,e.bsz,e.funs,e.frf,e.hok,e.bare⟩
section
variable {s':Shared}
def Inv.env0(I:Inv X pins σ H s):Env0 X.prog X.w X.K X.mg X.base X.A X.stack s H:=
 ⟨I.ok.frames,I.ok.mod,I.bs,Ca I.ok.bsz I.sz,I.stack,I.stkFree,I.hok,I.bare⟩
def Inv.after{Q:VK}(I:Inv X pins σ H s)(h:CE X.stack X.prog X.w H s Q u s'):EP X pins σ Q u s':=by
 obtain⟨v,H',os,bare,un,hok,r,q⟩:=h;obtain⟨hh,g,d,t,os'⟩:=s';obtain rfl:os'=s.os:=os;exact⟨v,H',I.call (h':=hh) (g':=g) (d':=d) (t':=t) (ch:=[]) un hok bare (λb z=>absurd z (by simp)),r,q⟩
end
def aZ7(sp:Sp)(dvs:List V)(E:XK)(t:TA):TE:=λσ H Q=>t σ H λvs H1=>sp (vs++dvs) H1 Q E
def cQI(C:Addr)(m:Str)(sp:Sp)(dvs:List V)(E:XK)(ta:TE)(t:TA):TE:=λσ H Q=>ta σ H λx H1=>∃a dx fs,x=.ref a/\H1 a=some (.ins C dx fs)/\fs.lookup m=none/\
 t σ H1 λvs H2=>sp (x::(vs++dvs)) H2 Q E
def cXV(C:Addr)(sp:Sp)(dvs:List V)(E:XK)(t:TA):TE:=λσ H Q=>t σ H λvs H1=>∀x dx,H1 x=none->H1 dx=none->dx≠x->
 sp (.ref x::(vs++dvs)) (upd (upd H1 dx (.own x)) x (.ins C dx [])) (λv H2=>v=.non/\Q (.ref x) H2) E
def Binds(K:W.Frag)(fd:FuncData)(ps:List Str)(ds:List Value):Prop:=
 ∀(s:Shared) (us:List Value),K.In s.heap->(us++ds).length=ps.length->BindsTo s fd ⟨us,[]⟩ (ps.zip (us++ds))
def Binds.all{fd:FuncData}(h:∀us:List Value,us.length=ps.length->bindArgs fd ⟨us,[]⟩=pure (ps.zip us)):Binds K fd ps []:=λs us _ hl=>by
 rw[Bs]at hl ⊢;exact .of_eq (h us hl)
def iK(CX:CXT)(X:Cx)(E:XK):Prop:=∀(pins:List (Addr×Obj)) (σ:St) (H:Hp) (s:Shared) (e:Value) (s':Shared),Inv X pins σ H s->CX X.stack H s E e s'->X.xe e s'
section
variable {CX:CXT} {f:Addr} {fd:FuncData} {sp:Sp} {dvs:List V} {ds:List Value} {E:XK} {m:Str} {p apos:Pos} {o:Expr}
def bZ3{Q:VK}{vs:List V}(F:FnOk X.prog X.w X.K X.mg X.base CX k f fd ps sp)(hr:Room k X.A)(hb:Binds X.K fd ps ds)(hd:Vals dvs ds)(hx:iK CX X E)(I:Inv X pins σ H s)(r:Vals vs us)(h:sp (vs++dvs) H Q E):wpAny (model X.prog X.w) X.A (call (.ref f) us) (EP X pins σ Q) X.xe s:=by
 have r2:Vals (vs++dvs) (us++ds):=r.append hd
 have hl:(us++ds).length=ps.length:=by rw[<-r2.length];exact F.len _ _ _ _ h
 refine Gw (Fc (F.run X.A X.stack s H ⟨us,[]⟩ (us++ds) (vs++dvs) Q E hr I.env0 (hb s us I.kIn hl) r2 h) λr s' hq=>?_);cases r with
 |error e=>exact hx pins σ H s e s' I hq
 |ok fl=>
  cases fl with
  |ret u=>exact I.after hq
  |next=>exact False.elim hq
  |brk=>exact False.elim hq
  |cont=>exact False.elim hq
def aJS(F:FnOk X.prog X.w X.K X.mg X.base CX k f fd ps sp)(hr:Room k X.A)(hg:Gl X x)(hm:X.mg x=some (.ref f))(hk:W.keepIn X.K (.ref f)=true)(hb:Binds X.K fd ps ds)(hd:Vals dvs ds)(hx:iK CX X E)(ha:PA X (e::es) t)(hdb:(x==("__debug__" : Str))=false:=by decide)(he:starEach (e::es) X.env=(false,eval e X.env)::starEach es X.env:=by rfl)(hpl:(backTo pos (starEach es X.env)).any (·.1)=false:=by rfl):PE X (.Call (.Name x p) (e::es) [] pos) (aZ7 sp dvs E t):=by
 intro pins s σ H Q I h;refine Du (gO I hg hm ?_ hdb);refine Gx (h₀:=X.base) I.ok.mod.kin hk (thn (ha pos pins s σ H _ I h) λus s1 ⟨vs,H1,I1,r,q⟩=>⟨I1.kIn,?_⟩) he hpl;exact bZ3 F hr hb hd hx I1 r q
def cXU{pl:Sem Bool}(he:PE X o ta)(c:Cls X.K C)(hm:Meth X.K C m f)(F:FnOk X.prog X.w X.K X.mg X.base CX k f fd ps sp)(hr:Room k X.A)(hb:Binds X.K fd ps ds)(hd:Vals dvs ds)(hx:iK CX X E)(ht:eval (.Call (.Attribute o m apos) [] [] pos) X.env=(do
 let ov <-eval o X.env
 standAt apos.atName
 let (f,first) <-holding [ov] (getMethod ov m pl)
 callWith pos f first (backTo pos (starEach [] X.env)) (backToKw pos (keywordEach [] X.env))):=by rfl):PE X (.Call (.Attribute o m apos) [] [] pos) (cQI C m sp dvs E ta bXG):=by
 intro pins s σ H Q I h;refine Fu (pl:=pl) (thn (he pins s σ H _ I h) λu s1 ⟨x,H1,I1,rx,a,dx,fs,ex,ea,l,q⟩=>?_) ht;subst ex;obtain rfl:u=Value.ref a:=rx;refine mM I1 ea c hm l ?_;exact W.callWith_K0 (first:=[.ref a]) I1.kIn hm.kp (bZ3 (us:=[.ref a]) (vs:=[.ref a]) F hr hb hd hx I1 (.cons rfl .nil) q)
structure Mk (K:W.Frag) (C f:Addr):Prop where
 makes:W.makesIn K C=true
 init:W.findIn K (.ref C) "__init__"=some (some (.ref f))
 fn:W.isFn K (.ref f)=true
 kp:W.keepIn K (.ref C)=true
def cXN{Q:VK}{vs:List V}(M:Mk X.K C f)(F:FnOk X.prog X.w X.K X.mg X.base CX k f fd ps sp)(hr:Room (k+1) X.A)(hb:Binds X.K fd ps ds)(hd:Vals dvs ds)(hx:iK CX X E)(I:Inv X pins σ H s)(r:Vals vs us)(h:∀x dx,H x=none->H dx=none->dx≠x->sp (.ref x::(vs++dvs)) (upd (upd H dx (.own x)) x (.ins C dx [])) (λv H2=>v=.non/\Q (.ref x) H2) E):wpAny (model X.prog X.w) X.A (call (.ref C) us) (EP X pins σ Q) X.xe s:=by
 have hq:=h (s.heap.objs.size+1) s.heap.objs.size (I.hok.fresh (Hv _)) (I.hok.fresh (Aj _)) (Bd (Nat.lt_succ_self _))
 have I2:=Inv.made (C:=C) I
 have r2:Vals (V.ref (s.heap.objs.size+1)::(vs++dvs)) (Value.ref (s.heap.objs.size+1)::(us++ds)):=.cons rfl (r.append hd)
 have hl:(Value.ref (s.heap.objs.size+1)::us++ds).length=ps.length:=by
  have e:=r2.length
  rw[F.len _ _ _ _ hq]at e;exact e.symm
 refine Gw (cQ3 (f:=f) I.kIn M.makes M.init (beq_iff_eq.mp M.fn) (Fc (F.run _ X.stack _ _ ⟨Value.ref (s.heap.objs.size+1)::us,[]⟩ (Value.ref (s.heap.objs.size+1)::(us++ds)) _ _ E (hr.make C us [])
  (I2.env0.make C us []) (hb _ (Value.ref (s.heap.objs.size+1)::us) I2.kIn hl) r2 hq) λr s' hq'=>?_))
 cases r with
 |error e=>exact hx pins σ _ _ e s' I2 hq'
 |ok fl=>
  cases fl with
  |ret u=>
   obtain⟨v,H',I3,rv,ev,q3⟩:=I2.after hq';subst ev;exact⟨rv,⟨V.ref (s.heap.objs.size+1),H',I3,rfl,q3⟩⟩
  |next=>exact False.elim hq'
  |brk=>exact False.elim hq'
  |cont=>exact False.elim hq'
def cJU(M:Mk X.K C f)(F:FnOk X.prog X.w X.K X.mg X.base CX k f fd ps sp)(hr:Room (k+1) X.A)(hg:Gl X x)(hm:X.mg x=some (.ref C))(hb:Binds X.K fd ps ds)(hd:Vals dvs ds)(hx:iK CX X E)(ha:PA X (e::es) t)(hdb:(x==("__debug__" : Str))=false:=by decide)(he:starEach (e::es) X.env=(false,eval e X.env)::starEach es X.env:=by rfl)(hpl:(backTo pos (starEach es X.env)).any (·.1)=false:=by rfl):PE X (.Call (.Name x p) (e::es) [] pos) (cXV C sp dvs E t):=by
 intro pins s σ H Q I h;refine Du (gO I hg hm ?_ hdb);refine Gx (h₀:=X.base) I.ok.mod.kin M.kp (thn (ha pos pins s σ H _ I h) λus s1 ⟨vs,H1,I1,r,q⟩=>⟨I1.kIn,?_⟩) he hpl;exact cXN M F hr hb hd hx I1 r q
end
def PK(X:Cx)(kws:List Keyword)(t:TA):Prop:=
 ∀(pos:Pos) (pins:Q2) (s:Shared) (σ:St) (H:Hp) (Q:List V->Hp->Prop),Inv X pins σ H s->t σ H Q->wpAny (model X.prog X.w) X.A (evalAll ((backToKw pos (keywordEach kws X.env)).map (·.2))) (AP X pins σ Q) X.xe s
section
variable {kpos:Pos} {kws:List Keyword} {nm:Option Str}
def xU:PK X [] bXG:=λ_ _ _ _ H Q I h=>wpAny_evalAll_nil ⟨[],H,I,.nil,h⟩
def qN(ha:PE X e te)(hr:PK X kws t):PK X (⟨nm,e,kpos⟩::kws) (aQD te t):=by
 intro pos pins s σ H Q I h;show wpAny _ _ (evalAll ((do let v <-eval e X.env;standAt pos;pure v)::(backToKw pos (keywordEach kws X.env)).map (·.2))) _ _ s
 refine wpAny_evalAll_cons (Ad (thn (ha pins s σ H _ I h) λu s1 ⟨x,H1,I1,r1,q1⟩=>Ad (Fg (Al ?_))));exact thn (hr pos pins s1 σ H1 _ I1 q1) λus s2 ⟨xs,H2,I2,r2,q2⟩=>⟨x::xs,H2,I2,.cons r1 r2,q2⟩
end
structure FnScope (N P:List Str) (sc:Scope):Prop where
 kind:sc.kind=.function
 co:sc.isCoroutine=false
 gen:sc.isGenerator=false
 nd:N.Nodup
 pre:N.take P.length=P
 par:∀x∈P,sc.names.lookup x=some .local\/sc.names.lookup x=some .cell
 nofree:∀y∈sc.names,y.2≠.free
def uR:∀ {binds:List (Str×Value)} {m:Q5},(∀v,(x,v)∉binds)->bindL kindOf binds m x=m x
 |[],_,_=>rfl
 |(n,v)::r,m,h=>by
  unfold bindL;rw[uR λw hw=>h w (Ai _ hw)];split
  ·have:x≠n:=by rintro rfl;exact h v Ak
   simp[this]
  ·rfl
def vD:∀ {binds:List (Str×Value)} {m:Q5},(∀v,(x,v)∉binds)->bindC kindOf binds m x=m x
 |[],_,_=>rfl
 |(n,v)::r,m,h=>by
  unfold bindC;rw[vD λw hw=>h w (Ai _ hw)];split
  ·rfl
  ·have:x≠n:=by rintro rfl;exact h v Ak
   simp[this]
def vQ{v:Value}:∀ {P:List Str} {vs:List Value} {i:Nat} {m:Q5},P.Nodup->P[i]?=some x->vs[i]?=some v->kindOf x=some .local->
 bindL kindOf (P.zip vs) m x=some v
 |[],_,_,_,_,h,_,_=>by simp at h
 |_::_,[],_,_,_,_,h,_=>by simp at h
 |p::P,w::vs,0,m,nd,h1,h2,hk=>by
  simp at h1 h2;subst h1;subst h2;show bindL kindOf ((p,w)::P.zip vs) m p=_
  unfold bindL;rw[uR λv hv=>(Cs.mp nd).1 (List.of_mem_zip hv).1,if_pos hk];simp
 |p::P,w::vs,i+1,m,nd,h1,h2,hk=>by
  show bindL kindOf ((p,w)::P.zip vs) m x=_
  unfold bindL;exact vQ (i:=i) (List.nodup_cons.mp nd).2 (by simpa using h1) (by simpa using h2) hk
def vW{v:Value}:∀ {P:List Str} {vs:List Value} {i:Nat} {m:Q5},P.Nodup->P[i]?=some x->vs[i]?=some v->kindOf x≠some .local->
 bindC kindOf (P.zip vs) m x=some v
 |[],_,_,_,_,h,_,_=>by simp at h
 |_::_,[],_,_,_,_,h,_=>by simp at h
 |p::P,w::vs,0,m,nd,h1,h2,hk=>by
  simp at h1 h2;subst h1;subst h2;show bindC kindOf ((p,w)::P.zip vs) m p=_
  unfold bindC;rw[vD λv hv=>(Cs.mp nd).1 (List.of_mem_zip hv).1,if_neg hk];simp
 |p::P,w::vs,i+1,m,nd,h1,h2,hk=>by
  show bindC kindOf ((p,w)::P.zip vs) m x=_
  unfold bindC;exact vW (i:=i) (List.nodup_cons.mp nd).2 (by simpa using h1) (by simpa using h2) hk
def lI(N:List Str)(vs:List V):St:=vs.map some++List.replicate (N.length-vs.length) none
def fY(CX:CXT)(P:Program)(w:World)(K:W.Frag)(mg:Str->Option Value)(base:Heap)(N:List Str)(qual:Str)(scope:Scope)(f:Addr)(cd:Value)(A:Around)(outer:List Env)(s:Shared)(H:Hp)(E:XK):Cx where
 prog:=P
 w:=w
 K:=K
 mg:=mg
 base:=base
 A:=A.deeper (envOfC qual scope s.heap.objs.size f cd)
 N:=N
 s₀:=s
 H₀:=H
 env:=envOfC qual scope s.heap.objs.size f cd
 outer:=outer
 stack:=envOfC qual scope s.heap.objs.size f cd::outer
 ex:=[]
 calm:=true
 fn:=λ_=>true
 pn:=[]
 xe:=λe s'=>wpAny (model P w) (A.deeper (envOfC qual scope s.heap.objs.size f cd)) (leaving (envOfC qual scope s.heap.objs.size f cd) e) (λ_ s''=>CX outer H s E e s'') (λe' s''=>CX outer H s E e' s'') s'
def bO{sc:Scope}{n:Nat}(h:sc.names.lookup x=some .cell):∃c,(cellsFrom n sc.names []).lookup x=some c:=by
 have q:=W.cellsFrom_some sc.names n [] (.inl h)
 exact Dc.mp q
def bX2{CX:CXT}{mg:Q5}{base:Heap}{qual:Str}{scope:Scope}{f:Addr}{cd:Value}{outer:List Env}{s1:Shared}{E:XK}{vs:List V}(S:FnScope N ps scope)(hd:A.handled=none)(e0:Env0 P w K mg base A outer s H)(hl:vs.length=ps.length)(r:Vals vs us)(x:InCallC s s.heap.objs.size (bindL (envOfC qual scope s.heap.objs.size f cd).kindOf (ps.zip us) λ_=>none) (cellsFrom (s.heap.objs.size+1) scope.names []) (bindC (envOfC qual scope s.heap.objs.size f cd).kindOf (ps.zip us) λ_=>none) s1):Inv (fY CX P w K mg base N qual scope f cd A outer s H E) [] (lI N vs) H s1:=by
 have hpl:ps.length<=N.length:=by have:=Dk List.length S.pre;rw[Bp]at this;omega
 obtain⟨h1,tk,rfl,hk⟩:=x.done;have noA:∀b:Addr,b∉(fY CX P w K mg base N qual scope f cd A outer s H E).ex:=λb z=>absurd (show b∈([]:List Addr) from z) (by simp)
 refine⟨⟨e0.mod,S.kind,rfl,rfl,Aj _,λy z c h1 h2=>?_,λy hy=>?_,λy c _ h=>?_,λ_=>hd,Around.frames_deeper e0.frames,.inr ⟨rfl,rfl⟩,λb z=>absurd z (noA b),e0.bs,e0.bsz,λb _ _=>noA b,λb z=>absurd z (noA b),e0.funs,e0.frf⟩,
  rfl,e0.bare,Un.kept hk,⟨_,x.toInCall.ns,λi y v h1 h2 h3=>?_⟩,λy c h=>⟨_,x.cell y c h⟩,e0.hok.fresh (Nat.le_refl _),λy c h=>?_,λp hp=>absurd (show p∈([]:Q2) from hp) (by simp),e0.hok.kept hk,?_⟩
 ·exact name_of_addr x.apart (Dh h1) (Dh h2)
 ·have hy:scope.names.lookup y=some .cell\/scope.names.lookup y=some .free:=hy
  rcases hy with hy|hy
  ·exact bO hy
  ·exact absurd rfl (S.nofree _ (Dh hy))
 ·exact Nat.le_of_lt (x.above y c (Dh h))
 ·have hi:i<vs.length:=by
   unfold lI at h2;by_cases hi:i<vs.length
   ·exact hi
   ·rw[List.getElem?_append_right (by simpa using hi)]at h2
    rw[Dw]at h2;split at h2<;>cases h2
  have ha:vs[i]?=some v:=by
   unfold lI at h2;rw[List.getElem?_append_left (by simpa using hi),List.getElem?_map]at h2
   cases e:vs[i]? with
   |none=>rw[e]at h2;cases h2
   |some a=>rw[e]at h2;cases h2;rfl
  obtain⟨u,hu,rv⟩:=r.get ha;have hp:ps[i]?=some y:=by
   rw[<-S.pre,List.getElem?_take_of_lt (by omega)];exact h1
  have ndP:ps.Nodup:=by rw[<-S.pre];exact S.nd.sublist (Hh _ _)
  refine⟨u,rv,?_⟩;rcases S.par y (Am hp) with k|k
  ·exact .inl ⟨k,vQ ndP hp hu k⟩
  ·obtain⟨c,e⟩:=bO (n:=s.heap.objs.size+1) k;refine .inr ⟨.inl k,c,e,?_⟩;have q:=x.cell y c e
   rw[vW ndP hp hu (by show scope.names.lookup y≠_;rw[k];decide)]at q
   exact q
 ·exact e0.hok.fresh (Nat.le_of_lt (x.above y c (Dh h)))
 ·unfold lI;show _=N.length
  rw[Ah,Ab,Ay];omega
def bZQ{CX:CXT}{mg:Q5}{base:Heap}{f:Addr}{name qual:Str}{params:Arguments}{scope:Scope}{dV kV doc pm cdv ct oc:Value}{an od:Option Addr}{osl:Array (Option Value)}{sp:Sp}(lk:K.lookup f=some ⟨oc,od,.func (W.fnOf name qual params body scope dV kV doc pm an cdv ct),osl⟩)(hcd:W.codeIn K cdv qual=true)(S:FnScope N ps scope)(len:∀vs H Q E,sp vs H Q E->vs.length=ps.length)(hbody:∀(A:Around) (outer:List Env) (s:Shared) (H:Hp) (vs:List V) (Q:VK) (E:XK),Room k (A.deeper (envOfC qual scope s.heap.objs.size f cdv))->sp vs H Q E->
 ∃t,PSs (fY CX P w K mg base N qual scope f cdv A outer s H E) body t/\t {nx:=λ_ H'=>Q .non H',rt:=Q} (lI N vs) H):FnOk P w K mg base CX (k+1) f (W.fnOf name qual params body scope dV kV doc pm an cdv ct) ps sp:=by
 refine⟨len,λA outer s H args us vs Q E hr e0 hb r hsp=>?_⟩;have hl:=len _ _ _ _ hsp
 have KX:K.In s.heap:=e0.mod.kin.keeps λb o e=>(e0.bs b o e).1
 have lim:s.heap.NoLimit:=e0.mod.nolimit.keeps λb o e=>(e0.bs b o e).1
 have hkind:∀y∈ps.zip us,scope.names.lookup y.1=some .local\/(scope.names.lookup y.1=some .cell/\((cellsFrom (s.heap.objs.size+1) scope.names []).lookup y.1).isSome=true):=λ⟨n,v⟩ hy=>by
  rcases S.par n (List.of_mem_zip hy).1 with q|q
  ·exact .inl q
  ·exact .inr ⟨q,W.cellsFrom_some _ _ _ (.inl q)⟩
 refine codeAny_call_function hr.depth (KX _ _ lk) rfl S.co S.gen rfl (W.codeRec_of KX hcd) (hb _ _ _ _ ?_);refine wpAny_newFunctionEnv_cells S.kind hkind λenv he s1 x=>?_;subst he;refine⟨lim.keeps x.toInCall.keep,codeAny_func ?_⟩;obtain⟨t,ht,hq⟩:=hbody A outer s H vs Q E (hr.deeper _) hsp;have I:Inv (fY CX P w K mg base N qual scope f cdv A outer s H E) [] (lI N vs) H s1:=bX2 S hr.hd e0 hl r x
 refine Cg (ht [] s1 (lI N vs) H _ I hq) (λfl s' hs=>?_) λe s' hs=>hs;have fin:∀ {σ':St} {H':Hp} {v:V} {u:Value},Inv (fY CX P w K mg base N qual scope f cdv A outer s H E) [] σ' H' s'->RelV v u->Q v H'->CE outer P w H s Q u s':=
  fun {σ' H' v u} J rv q=>⟨v,H',J.os,J.bare,J.base,J.hok,rv,q⟩
 cases fl with
 |ret u=>
  obtain⟨v,σ',H',J,rv,q⟩:=hs;exact fin J rv q
 |next=>
  obtain⟨σ',H',J,q⟩:=hs;exact fin (v:=V.non) (u:=Value.none) J rfl q
 |brk=>
  obtain⟨_,_,_,q⟩:=hs;exact False.elim q
 |cont=>
  obtain⟨_,_,_,q⟩:=hs;exact False.elim q
section
variable {p:Pos} {id T:String} {r:List V->Hp->VK->Prop}
def tCB(r:List V->Hp->VK->Prop)(t:TA):TE:=λσ H Q=>t σ H λvs H1=>r vs H1 Q
def aP(hc:CallR X (.builtin id) r)(hg:Gl X x)(hm:X.mg x=none)(hv:bootBuiltins x=some (.builtin id))(ha:PA X (e::es) t)(hn:x≠"__name__" := by decide)(hdb:(x==("__debug__" : Str))=false:=by decide)(he:starEach (e::es) X.env=(false,eval e X.env)::starEach es X.env:=by rfl)(hpl:(backTo pos (starEach es X.env)).any (·.1)=false:=by rfl):PE X (.Call (.Name x p) (e::es) [] pos) (tCB r t):=by
 intro pins s σ H Q I h;refine Du (gC I hg hm hv ?_ hn hdb);exact PyProof.Rows.callWith_builtin1 (thn (ha pos pins s σ H _ I h) λus s1 ⟨vs,H1,I1,r1,q1⟩=>hc pins s1 σ H1 vs us Q I1 r1 q1) he hpl
def cB(hc:CallR X (.type T) r)(hg:Gl X x)(hm:X.mg x=none)(hv:bootBuiltins x=some (.type T))(ha:PA X (e::es) t)(hn:x≠"__name__" := by decide)(hdb:(x==("__debug__" : Str))=false:=by decide)(he:starEach (e::es) X.env=(false,eval e X.env)::starEach es X.env:=by rfl)(hpl:(backTo pos (starEach es X.env)).any (·.1)=false:=by rfl):PE X (.Call (.Name x p) (e::es) [] pos) (tCB r t):=by
 intro pins s σ H Q I h;refine Du (gC I hg hm hv ?_ hn hdb);exact Dm (thn (ha pos pins s σ H _ I h) λus s1 ⟨vs,H1,I1,r1,q1⟩=>hc pins s1 σ H1 vs us Q I1 r1 q1) he hpl
end
end L2
namespace HT
open PySem PyProof.Rows
def sIx(n d:Nat):Option Int->Nat
 |none=>d
 |some v=>if v<0 then (v+(n:Int)).toNat else min v.toNat n
end HT
namespace L2
open PySem PySem.Spec PyProof.Rows
variable {H:Hp}{X:Cx}{its:List Value}{n:Nat}{pins:Q2}{s:Shared}{x:V}{xs:List V}{α:Type}{σ:St}
abbrev TO:=St->Hp->(Option Int->Hp->Prop)->Prop
def PO(X:Cx)(e:Option Expr)(t:TO):Prop:=
 ∀(pins:Q2) (s:Shared) (σ:St) (H:Hp) (Q:Option Int->Hp->Prop),Inv X pins σ H s->t σ H Q->
  wpAny (model X.prog X.w) X.A (evalPart e X.env) (λu s'=>∃o H',Inv X pins σ H' s'/\IsPart u o/\Q o H') X.xe s
def aZU:TO:=λ_ H Q=>Q none H
section
variable {e:Expr} {te:TE} {lo hi:Option Expr} {tl th:TO} {pos p2:Pos}
def xP:PO X none aZU:=by
 intro pins s σ H Q I h;rw[evalPart_none];exact Al ⟨none,H,I,.none,h⟩
def SlR(X:Cx)(r:V->Option Int->Option Int->Hp->VK->Prop):Prop:=
 ∀(pins:Q2) (s:Shared) (σ:St) (H:Hp) (x:V) (v vl vu:Value) (lo hi:Option Int) (sl:Addr) (Q:VK),Inv X pins σ H s->RelV x v->s.heap.IsSliceOf sl vl vu .none->IsPart vl lo->IsPart vu hi->r x lo hi H Q->
  ∃T id,typeLookup (.type T) "__getitem__"=pure (some (.builtin id))/\s.TypeIs v T/\wpAny (model X.prog X.w) X.A (getItem v (.ref sl)) (EP X pins σ Q) X.xe s
def SlR.or{r r':V->Option Int->Option Int->Hp->VK->Prop}(h:SlR X r)(h':SlR X r'):SlR X (λx lo hi H Q=>r x lo hi H Q\/r' x lo hi H Q):=by
 intro pins s σ H x v vl vu lo hi sl Q I rx hs pl pu q;rcases q with q|q
 ·exact h pins s σ H x v vl vu lo hi sl Q I rx hs pl pu q
 ·exact h' pins s σ H x v vl vu lo hi sl Q I rx hs pl pu q
def tSl(r:V->Option Int->Option Int->Hp->VK->Prop)(te:TE)(tl th:TO):TE:=λσ H Q=>te σ H λx H1=>tl σ H1 λl H2=>th σ H2 λu H3=>r x l u H3 Q
def gG{r:V->Option Int->Option Int->Hp->VK->Prop}(hr:SlR X r)(he:PE X e te)(hl:PO X lo tl)(hu:PO X hi th):PE X (.Subscript e (.Slice lo hi none p2) pos) (tSl r te tl th):=by
 intro pins s σ H Q I h;refine Subscript_ (thn (he pins s σ H _ I h) λv s1 ⟨x,H1,I1,r1,q1⟩=>?_);refine wpAny_Slice (thn (hl pins s1 σ H1 _ I1 q1) λvl s2 ⟨l,H2,I2,pl,q2⟩=>thn (hu pins s2 σ H2 _ I2 q2) λvu s3 ⟨u,H3,I3,pu,q3⟩=>?_);rw[evalPart_none];refine Al ?_;have I4:Inv X pins σ H3 {s3 with heap:=s3.heap.push {cls:=.type "slice",data:=.fields #[vl,vu,.none]}}:=I3.kept (t':=s3.toks) λb ob q=>Ag _ q
 obtain⟨T,id,hT,ht,hg⟩:=hr pins {s3 with heap:=s3.heap.push {cls:=.type "slice",data:=.fields #[vl,vu,.none]}} σ H3 x v vl vu l u s3.heap.objs.size Q I4 r1 (Heap.IsSliceOf.new ..) pl pu q3
 show wpAny (model X.prog X.w) X.A (subscriptTail e (.Slice lo hi none p2) v (.ref s3.heap.objs.size)) (EP X pins σ Q) X.xe {s3 with heap:=s3.heap.push {cls:=.type "slice",data:=.fields #[vl,vu,.none]}}
 exact tail_any (ops:=[.ref s3.heap.objs.size,v]) ht hT hg (by with_unfolding_all rfl)
def nX(xs:List V)(lo hi:Option Int):List V:=(xs.drop (HT.sIx xs.length 0 lo)).take (HT.sIx xs.length xs.length hi-HT.sIx xs.length 0 lo)
def aQV(xs:List V)(lo hi:Option Int):(nX xs lo hi).length<=xs.length:=by
 unfold nX;rw[Bp,Cw];omega
end
def ixN(n:Nat)(i:Int):Option Nat:=if 0<=i then (if i<n then some i.toNat else none) else if -(n:Int)<=i then some (i+n).toNat else none
def atI(xs:List α)(i:Int):Option α:=(ixN xs.length i).bind λj=>xs[j]?
def aZ5{i:Int}{j:Nat}(h:ixN n i=some j):seqIndex? i n=some j/\j<n/\-(n:Int)<=i/\i<n:=by
 unfold ixN at h;by_cases h0:0<=i
 ·rw[if_pos h0]at h;by_cases h1:i<n
  ·rw[if_pos h1]at h;have e:i.toNat=j:=Bf h
   exact⟨by rw[seqIndex_of h0 h1,e],by omega,by omega,h1⟩
  ·rw[if_neg h1]at h;cases h
 ·rw[if_neg h0]at h;by_cases h1:-(n:Int)<=i
  ·rw[if_pos h1]at h;have e:(i+n).toNat=j:=Bf h
   exact⟨by rw[seqIndex_neg (by omega) h1,e],by omega,h1,by omega⟩
  ·rw[if_neg h1]at h;cases h
def xH{xs:List α}{i:Int}{v:α}(h:atI xs i=some v):∃j,seqIndex? i xs.length=some j/\xs[j]?=some v/\j<xs.length/\-(xs.length:Int)<=i/\i<xs.length:=by
 unfold atI at h;cases e:ixN xs.length i with
 |none=>rw[e]at h;cases h
 |some j=>
  rw[e]at h;obtain⟨h1,h2,h3,h4⟩:=aZ5 e;exact⟨j,h1,h,h2,h3,h4⟩
def bC{xs:List α}{j:Nat}{v:α}(h:xs[j]?=some v):atI xs (j:Int)=some v:=by
 have hj:j<xs.length:=(Ae.mp h).1
 have e:ixN xs.length (j:Int)=some j:=by
  unfold ixN;rw[if_pos (by omega),if_pos (by omega)];simp
 unfold atI;rw[e];exact h
def dQO(b:Expr):Prop:=∀o i,subscripted b false o i=operate [o,i] (getItem o i)
def IxR(X:Cx)(r:R2):Prop:=
 ∀(value slice:Expr) (pins:Q2) (s:Shared) (σ:St) (H:Hp) (x y:V) (v u:Value) (Q:VK),Inv X pins σ H s->RelV x v->RelV y u->r x y H Q->
  subscripted slice false v u=operate [v,u] (getItem v u)->wpAny (model X.prog X.w) X.A (subscriptTail value slice v u) (EP X pins σ Q) X.xe s
def MtR(X:Cx)(id:String)(r:V->List V->Hp->VK->Prop):Prop:=
 ∀(pins:Q2) (s:Shared) (σ:St) (H:Hp) (x:V) (xs:List V) (v:Value) (us:List Value) (Q:VK),Inv X pins σ H s->RelV x v->Vals xs us->r x xs H Q->
  wpAny (model X.prog X.w) X.A (call (.builtin id) (v::us)) (EP X pins σ Q) X.xe s
section
variable {X:Cx} {a b:Expr} {ta tb:TE} {pos:Pos}
def IxR.or{r r':R2}(h:IxR X r)(h':IxR X r'):IxR X (λx y H Q=>r x y H Q\/r' x y H Q):=by
 intro value slice pins s σ H x y v u Q I rx ry q hs;rcases q with q|q
 ·exact h value slice pins s σ H x y v u Q I rx ry q hs
 ·exact h' value slice pins s σ H x y v u Q I rx ry q hs
def bF{r:R2}(hr:IxR X r)(ha:PE X a ta)(hb:PE X b tb)(hs:dQO b):PE X (.Subscript a b pos) (tOp r ta tb):=by
 intro pins s σ H Q I h;exact Subscript_ (dZ7 ha hb I h λv u s2 x y H2 I2 rx ry q=>hr a b pins s2 σ H2 x y v u Q I2 rx ry q (hs _ _))
def dJZ(K:W.Frag):R2:=λx y H Q=>∃p xs i v,x=.ref p/\y=.int i/\SqL K H p xs/\atI xs i=some v/\Q v H
def eXP(K:W.Frag):R2:=λx y H Q=>∃p xs i v,x=.ref p/\y=.int i/\SqT K H p xs/\atI xs i=some v/\Q v H
def eZU:R2:=λx y H Q=>∃z i c,x=.str z/\y=.int i/\z.length<=sizeLine/\atI z.cps.toList i=some c/\Q (.str ⟨#[c]⟩) H
def ix_list:IxR X (dJZ X.K):=by
 intro value slice pins s σ H x y v u Q I rx ry h hs;obtain⟨p,xs,i,z,rfl,rfl,hq,he,q⟩:=h;cases rx;obtain⟨t,rfl⟩:=ry;obtain⟨its,r,pl,hz⟩:=I.list hq;obtain⟨j,h1,h2,h3,h4,h5⟩:=xH he;obtain⟨w,ew,rw'⟩:=r.get h2;have hl:=r.length
 have hn:=iW
 have fin:EP X pins σ Q w s:=⟨z,H,I,rw',q⟩
 by_cases h0:0<=i
 ·have hj:i.toNat=j:=by
   rw[seqIndex_of h0 h5]at h1;exact Bf h1
  exact item_listR pl.isList h0 (by omega) (by rw[hj];simpa using ew) fin hs
 ·have hj:(i+(its.toArray.size:Int)).toNat=j:=by
   rw[seqIndex_neg (by omega) h4]at h1
   rw[Az,<-hl];exact Bf h1
  exact subscriptTail_builtinR (x:=w) pl.isList.typeIs slot_list_getitem.lookup
   (wpAny_getItem_list_neg (Q:=λr s'=>r=w/\EP X pins σ Q r s') pl.isList (by omega) (by rw[List.size_toArray]<;>omega) (by omega) (by rw[hj];simpa using ew) ⟨rfl,fin⟩) hs
def ix_tup:IxR X (eXP X.K):=by
 intro value slice pins s σ H x y v u Q I rx ry h hs;obtain⟨p,xs,i,z,rfl,rfl,hq,he,q⟩:=h;cases rx;obtain⟨t,rfl⟩:=ry;obtain⟨its,r,pl,hz⟩:=I.tuple hq;obtain⟨j,h1,h2,h3,h4,h5⟩:=xH he;obtain⟨w,ew,rw'⟩:=r.get h2;have hl:=r.length
 have hn:=iW
 have fin:EP X pins σ Q w s:=⟨z,H,I,rw',q⟩
 exact subscriptTail_builtinR (x:=w) pl.typeIs slot_tuple_getitem.lookup
  (getItem_tuple (j:=j) (Q:=λr s'=>r=w/\EP X pins σ Q r s') pl (by omega) (by omega) (by rw[List.size_toArray,<-hl];exact h1) (by simpa using ew) ⟨rfl,fin⟩) hs
def dZW:IxR X eZU:=by
 intro value slice pins s σ H x y v u Q I rx ry h hs;obtain⟨z,i,c,rfl,rfl,hz,he,q⟩:=h;obtain⟨t,rfl⟩:=rx;obtain⟨t',rfl⟩:=ry;obtain⟨j,h1,h2,h3,h4,h5⟩:=xH he;have hl:z.cps.toList.length=z.length:=by simp[Str.length]
 rw[hl]at h1 h4 h5;have hn:=iW
 exact tail_any (Hy s z t) slot_str_getitem.lookup (getItem_str (c:=c) (by
  have e1:decide (i < -(2^63:Int))=false:=Aw (by omega)
  have e2:decide (i ≥ 2^63)=false:=Aw (by omega)
  rw[e1,e2,Bool.or_false]) (by rw[h1];simpa using h2) ⟨.str ⟨#[c]⟩,H,I.tok _,⟨_,rfl⟩,q⟩) hs
def rIx(K:W.Frag):R2:=λx y H Q=>dJZ K x y H Q\/eXP K x y H Q\/eZU x y H Q
def ix_seq:IxR X (rIx X.K):=ix_list.or (ix_tup.or dZW)
def aXE(its:List Value)(n j:Nat)(u:Value):Obj.mapSeq (·.setIfInBounds j u) {cls:=.type "list",data:=.seq its.toArray n}={cls:=.type "list",data:=.seq (its.set j u).toArray n}:=by
 simp[Obj.mapSeq]
def Inv.lst{pins:Q2}{σ:St}{H:Hp}{s:Shared}{p:Addr}{xs:List V}(I:Inv X pins σ H s)(h:H p=some (.lst xs)):∃(its:List Value) (n:Nat),Vals xs its/\s.heap.get? p=some {cls:=.type "list",data:=.seq its.toArray n}/\xs.length<=sizeLine:=by
 obtain⟨z,its,n,r,e⟩:=I.hok p _ h;exact⟨its,n,r,e,z⟩
def Inv.lstUpd{p:Addr}{ys:List V}{its':List Value}{n':Nat}{f:Obj->Obj}(I:Inv X pins σ H s)(h:H p=some (.lst xs))(ho:s.heap.get? p=some {cls:=.type "list",data:=.seq its.toArray n})(hf:f {cls:=.type "list",data:=.seq its.toArray n}={cls:=.type "list",data:=.seq its'.toArray n'})(r:Vals ys its')(hz:ys.length<=sizeLine)(t:Nat):Inv X pins σ (upd H p (.lst ys)) {s with heap:=s.heap.update p f,toks:=t}:=by
 have e:(s.heap.update p f).get? p=some {cls:=.type "list",data:=.seq its'.toArray n'}:=by
  rw[Heap.get?_update_self f ho (by rw[hf]<;>rfl),hf]
 refine I.write (x:=p) (e:=p) (by rw[h];trivial) (.inl rfl) (λb u hb q=>(Bt _ _ (Ne.symm hb)).trans q) ⟨_,e⟩ ?_
 exact⟨hz,its',n',r,e⟩
def dXP:V->V->V->Hp->(Hp->Prop)->Prop:=λo i v H Q=>∃p xs k j,o=.ref p/\i=.int k/\H p=some (.lst xs)/\ixN xs.length k=some j/\Q (upd H p (.lst (xs.set j v)))
def yX:eXQ X dXP:=by
 intro pins s σ H o i v ov iv u Q I ro ri rv h;obtain⟨p,xs,k,j,rfl,rfl,hp,hj,q⟩:=h;cases ro;obtain⟨t,rfl⟩:=ri;obtain⟨its,n,r,ho,hz⟩:=I.lst hp;obtain⟨h1,h2,h3,h4⟩:=aZ5 hj;have hl:=r.length
 have hn:=iW
 have I':Inv X pins σ (upd H p (.lst (xs.set j v))) {s with heap:=s.heap.update p (Obj.mapSeq (·.setIfInBounds j u))}:=
  I.lstUpd hp ho (aXE its n j u) (r.set rv j) (by rw[Dq];exact hz) s.toks
 by_cases h0:0<=k
 ·have hk:k.toNat=j:=by
   rw[seqIndex_of h0 h4]at h1;exact Bf h1
  exact W.ki_setAt ho h0 (by omega) (by rw[Az,<-hl];exact h4) (by rw[hk];exact⟨_,I',q⟩)
 ·have hk:(k+(its.toArray.size:Int)).toNat=j:=by
   rw[seqIndex_neg (by omega) h3]at h1
   rw[Az,<-hl];exact Bf h1
  exact W.ki_setBack ho (by omega) (by rw[Az,<-hl];exact h3) (by omega) (by rw[hk];exact⟨_,I',q⟩)
def wC(lo hi:Option Int)(n:Nat):(sliceBounds lo hi none n).1=((HT.sIx n 0 lo:Nat):Int)/\(sliceBounds lo hi none n).2.1=((HT.sIx n n hi:Nat):Int)/\(sliceBounds lo hi none n).2.2=1:=by
 refine⟨?_,?_,rfl⟩
 ·cases lo with
  |none=>simp[sliceBounds,HT.sIx]
  |some i=>
   simp only[sliceBounds,HT.sIx,Option.getD_none,show (1:Int)>0 by decide,if_true]
   by_cases h:i<0
   ·simp only[h,if_true]<;>omega
   ·simp only[h,if_false]<;>omega
 ·cases hi with
  |none=>simp[sliceBounds,HT.sIx]
  |some i=>
   simp only[sliceBounds,HT.sIx,Option.getD_none,show (1:Int)>0 by decide,if_true]
   by_cases h:i<0
   ·simp only[h,if_true]<;>omega
   ·simp only[h,if_false]<;>omega
def uM(its:List Value)(lo hi:Option Int):slicePick its.toArray lo hi none=((its.drop (HT.sIx its.length 0 lo)).take (HT.sIx its.length its.length hi-HT.sIx its.length 0 lo)).toArray:=by
 obtain⟨h1,h2,h3⟩:=wC lo hi its.toArray.size;unfold slicePick;rw[h1,h2,h3];simp only[sliceRange_one,pick_run,List.size_toArray]<;>rfl
def eJ1(K:W.Frag):V->Option Int->Option Int->Hp->VK->Prop:=λx lo hi H Q=>∃a xs,x=.ref a/\SqL K H a xs/\∀p,H p=none->Q (.ref p) (upd H p (.lst (nX xs lo hi)))
def sl_list:SlR X (eJ1 X.K):=by
 intro pins s σ H x v vl vu lo hi sl Q I rx hs pl pu h;obtain⟨a,xs,rfl,hx,q⟩:=h;cases rx;obtain⟨its,r,ht,hz⟩:=I.list hx;have hlen:=r.length
 refine⟨"list",_,slot_list_getitem.lookup,ht.isList.typeIs,?_⟩;refine wpAny_getItem_list_slice ht.isList hs pl pu .none (by simp) ?_ (by rw[List.size_toArray]<;>omega)
 rw[uM,<-hlen];refine⟨.ref s.heap.objs.size,_,I.laid (t':=s.toks) (o:=.lst (nX xs lo hi)) (λb ob q=>Ag _ q) (Aj _) ?_,rfl,q _ (I.hok.fresh (Aj _))⟩;exact⟨Ca (aQV xs lo hi) hz,_,0,(r.drop (HT.sIx xs.length 0 lo)).take (HT.sIx xs.length xs.length hi-HT.sIx xs.length 0 lo),Av _ rfl⟩
def cN:V->Bool
 |.non=>true
 |.bl _=>true
 |.int _=>true
 |.str _=>true
 |_=>false
def eqV:V->V->Bool
 |.non,.non=>true
 |.bl a,.bl b=>a==b
 |.bl a,.int b=>(if a then 1 else 0)==b
 |.int a,.bl b=>a==(if b then 1 else 0)
 |.int a,.int b=>a==b
 |.str a,.str b=>a==b
 |_,_=>false
def xS{A:Around}{s:Shared}{y:V}{u v:Value}(ry:RelV y u)(rx:RelV x v)(fy:cN y=true)(fx:cN x=true):SeqAt.EqAt A s u v (eqV y x):=by
 cases y with
 |non=>
  cases ry;cases x with
  |non=>cases rx;exact SeqAt.EqAt.same _
  |bl b=>cases rx;exact SeqAt.EqAt.none_bool b
  |int b=>obtain⟨t,rfl⟩:=rx;exact SeqAt.EqAt.none_int b t
  |str b=>obtain⟨t,rfl⟩:=rx;exact SeqAt.EqAt.none_str b t
  |_=>exact absurd (show false=true from fx) Ao
 |bl a=>
  cases ry;cases x with
  |non=>cases rx;exact SeqAt.EqAt.bool_none a
  |bl b=>cases rx;exact SeqAt.EqAt.bool_bool a b
  |int b=>obtain⟨t,rfl⟩:=rx;exact SeqAt.EqAt.bool_int a b t
  |str b=>obtain⟨t,rfl⟩:=rx;exact SeqAt.EqAt.bool_str a b t
  |_=>exact absurd (show false=true from fx) Ao
 |int a=>
  obtain⟨t',rfl⟩:=ry;cases x with
  |non=>cases rx;exact SeqAt.EqAt.int_none a t'
  |bl b=>cases rx;exact SeqAt.EqAt.int_bool a t' b
  |int b=>obtain⟨t,rfl⟩:=rx;exact SeqAt.EqAt.int_int a t' b t
  |str b=>obtain⟨t,rfl⟩:=rx;exact SeqAt.EqAt.int_str a t' b t
  |_=>exact absurd (show false=true from fx) Ao
 |str a=>
  obtain⟨t',rfl⟩:=ry;cases x with
  |non=>cases rx;exact SeqAt.EqAt.str_none a t'
  |bl b=>cases rx;exact SeqAt.EqAt.str_bool a t' b
  |int b=>obtain⟨t,rfl⟩:=rx;exact SeqAt.EqAt.str_int a t' b t
  |str b=>obtain⟨t,rfl⟩:=rx;exact SeqAt.EqAt.str_str a t' b t
  |_=>exact absurd (show false=true from fx) Ao
 |_=>exact absurd (show false=true from fy) Ao
def eqU(x:V)(u:Value):Bool:=match u with
 |.none=>eqV .non x
 |.bool b=>eqV (.bl b) x
 |.int i _=>eqV (.int i) x
 |.str z _=>eqV (.str z) x
 |_=>false
def bJK{y:V}{u:Value}(r:RelV y u)(f:cN y=true):eqU x u=eqV y x:=by
 cases y with
 |non=>cases r;rfl
 |bl b=>cases r;rfl
 |int i=>obtain⟨t,rfl⟩:=r;rfl
 |str z=>obtain⟨t,rfl⟩:=r;rfl
 |_=>exact absurd (show false=true from f) Ao
def mY:∀ {xs:List V} {us:List Value},Vals xs us->xs.all cN=true->us.any (eqU x)=xs.any λy=>eqV y x
 |_,_,.nil,_=>rfl
 |y::xs,u::us,.cons r t,f=>by
  rw[List.all_cons,Eo]at f;rw[Hr,Hr,bJK r f.1,mY t f.2]
def jI{A:Around}{v:Value}(rx:RelV x v)(fx:cN x=true):∀ {xs:List V} {us:List Value},Vals xs us->xs.all cN=true->∀u∈us,SeqAt.EqAt A s u v (eqU x u)
 |_,_,.nil,_=>λu hu=>by cases hu
 |y::xs,u::us,.cons r t,f=>λu' hu=>by
  rw[List.all_cons,Eo]at f;rcases Be.mp hu with rfl|hu
  ·rw[bJK r f.1];exact xS r rx f.1 fx
  ·exact jI rx fx t f.2 u' hu
def inV(x:V)(xs:List V):Bool:=xs.any λy=>eqV y x
def rIn(K:W.Frag)(neg:Bool):R2:=λx y H Q=>∃p xs,y=.ref p/\(SqL K H p xs\/SqT K H p xs)/\cN x=true/\xs.all cN=true/\Q (.bl (if neg then !inV x xs else inV x xs)) H
def op_in_seq:OpR X (compareOp .In) (rIn X.K false):=by
 intro pins s σ H x y v u Q I rx ry h;obtain⟨p,xs,rfl,hq,fx,fs,q⟩:=h;cases ry;rcases hq with hq|hq
 ·obtain⟨its,r,pl,hz⟩:=I.list hq;refine SeqAt.in_listAt (eqU x) pl.isList (λw hw=>jI rx fx r fs w (by simpa using hw)) ⟨.bl _,H,I,rfl,?_⟩
  rw[show its.toArray.any (eqU x)=its.any (eqU x) by simp,mY r fs]
  exact q
 ·obtain⟨its,r,pl,hz⟩:=I.tuple hq;refine SeqAt.in_tupleAt (eqU x) pl (λw hw=>jI rx fx r fs w (by simpa using hw)) ⟨.bl _,H,I,rfl,?_⟩
  rw[show its.toArray.any (eqU x)=its.any (eqU x) by simp,mY r fs]
  exact q
def op_notIn_seq:OpR X (compareOp .NotIn) (rIn X.K true):=by
 intro pins s σ H x y v u Q I rx ry h;obtain⟨p,xs,rfl,hq,fx,fs,q⟩:=h;cases ry;rcases hq with hq|hq
 ·obtain⟨its,r,pl,hz⟩:=I.list hq;refine SeqAt.notIn_listAt (eqU x) pl.isList (λw hw=>jI rx fx r fs w (by simpa using hw)) ⟨.bl _,H,I,rfl,?_⟩
  rw[show its.toArray.any (eqU x)=its.any (eqU x) by simp,mY r fs]
  exact q
 ·obtain⟨its,r,pl,hz⟩:=I.tuple hq;refine SeqAt.notIn_tupleAt (eqU x) pl (λw hw=>jI rx fx r fs w (by simpa using hw)) ⟨.bl _,H,I,rfl,?_⟩
  rw[show its.toArray.any (eqU x)=its.any (eqU x) by simp,mY r fs]
  exact q
def wN:CallR X (.builtin "len") (λxs H Q=>∃p ys,xs=[.ref p]/\(SqL X.K H p ys\/SqT X.K H p ys)/\Q (.int ys.length) H):=by
 intro pins s σ H xs us Q I r h;obtain⟨p,ys,rfl,hq,q⟩:=h;obtain⟨u,rfl,rx⟩:=dI r;cases rx;have hn:=iW
 rcases hq with hq|hq
 ·obtain⟨its,r',pl,hz⟩:=I.list hq;have hlen:=r'.length
  exact Calls.call_len_list pl.isList (by simp only[List.size_toArray]<;>omega) ⟨.int ys.length,H,I.tok _,⟨s.toks+1,by rw[List.size_toArray,hlen]⟩,q⟩
 ·obtain⟨its,r',pl,hz⟩:=I.tuple hq;have hlen:=r'.length
  exact len_tuple pl (by simp only[List.size_toArray]<;>omega) ⟨.int ys.length,H,I.tok _,⟨s.toks+1,by rw[List.size_toArray,hlen]⟩,q⟩
def CallR.or{f:Value}{r r':List V->Hp->VK->Prop}(h:CallR X f r)(h':CallR X f r'):CallR X f (λxs H Q=>r xs H Q\/r' xs H Q):=by
 intro pins s σ H xs us Q I rs q;rcases q with q|q
 ·exact h pins s σ H xs us Q I rs q
 ·exact h' pins s σ H xs us Q I rs q
def call_list_of:CallR X (.type "list") (λxs H Q=>∃p ys,xs=[.ref p]/\(SqL X.K H p ys\/SqT X.K H p ys)/\∀l,H l=none->Q (.ref l) (upd H l (.lst ys))):=by
 intro pins s σ H xs us Q I r h;obtain ⟨p,ys,rfl,hq,q⟩:=h;obtain ⟨u,rfl,rx⟩:=dI r;cases rx;have fin:∀ (its:List Value),Vals ys its->ys.length<=sizeLine->∀ (h':Heap) (c':Nat),(∀ b o',s.heap.get? b=some o'->h'.get? b=some o')->
     h'.get? s.heap.objs.size=some {cls:=.type "list",dict:=none,data:=.seq its.toArray c',slots:=#[]}->EP X pins σ Q (.ref s.heap.objs.size) {s with heap:=h'}:=λits r' hz h' c' kp e=>
  ⟨.ref s.heap.objs.size,_,I.laid (t':=s.toks) kp (Aj _) (show ObjOk X.prog X.w _ h' _ (.lst ys) from⟨hz,its,c',r',e⟩),rfl,q _ (I.hok.fresh (Aj _))⟩
 rcases hq with hq|hq
 ·obtain⟨its,r',pl,hz⟩:=I.list hq;have hlen:=r'.length
  obtain⟨o,ho,hc,n,hd⟩:=pl.isList;exact call_list_seq p (.inl rfl) ho hc hd (λh' c' kp e=>fin its r' hz h' c' kp e) (by simp only[List.size_toArray]<;>omega)
 ·obtain⟨its,r',pl,hz⟩:=I.tuple hq;have hlen:=r'.length
  obtain⟨o,ho,hc,n,hd⟩:=pl;exact call_list_seq p (.inr rfl) ho hc hd (λh' c' kp e=>fin its r' hz h' c' kp e) (by simp only[List.size_toArray]<;>omega)
def tyV(K:W.Frag)(T:String)(x:V)(H:Hp):Prop:=match x with
 |.str _=>T="str"
 |.int _=>T="int"
 | .ref p=>(T="list"/\∃ xs,SqL K H p xs)\/(T="tuple"/\∃ o,K.lookup p=some o/\o.cls=.type "tuple"/\o.dict=none)\/
     (T="dict"/\((∃kvs,H p=some (.dK kvs))\/∃kvs,H p=some (.dT kvs)))\/(T="set"/\∃S n,H p=some (.set S n))
 |_=>False
def dJW{T:String}{v:Value}(I:Inv X pins σ H s)(r:RelV x v)(ty:tyV X.K T x H):s.TypeIs v T/\∀a,v=.ref a->∃ob,s.heap.get? a=some ob/\ob.dict=none:=by
 cases x with
 |str z=>
  obtain⟨t,rfl⟩:=r;cases (show T="str" from ty);exact⟨Hy s z t,λ_ e=>nomatch e⟩
 |int i=>
  obtain⟨t,rfl⟩:=r;cases (show T="int" from ty);exact⟨typeIs_int s i t,λ_ e=>nomatch e⟩
 |ref p=>
  cases r;rcases ty with⟨rfl,xs,hq⟩|⟨rfl,o,hk,hc,hd⟩|⟨rfl,hk⟩|⟨rfl,S,n,hk⟩
  ·obtain⟨its,_,pl,_⟩:=I.list hq;refine⟨pl.isList.typeIs,λa e=>?_⟩;cases e;obtain⟨o,n,e,c,hd,_⟩:=pl;exact⟨o,e,hd⟩
  ·refine⟨⟨o,I.kIn p o hk,hc⟩,λa e=>?_⟩;cases e;exact⟨o,I.kIn _ o hk,hd⟩
  ·have z:∃ o,s.heap.get? p=some o/\o.ExactDict:=by
    rcases hk with⟨kvs,hk⟩|⟨kvs,hk⟩
    ·obtain⟨_,_,_,_,o,_,_,e,ex,_⟩:=I.hok p _ hk;exact⟨o,e,ex⟩
    ·obtain⟨_,_,_,_,o,_,_,e,ex,_⟩:=I.hok p _ hk;exact⟨o,e,ex⟩
   obtain⟨o,e,ex⟩:=z;refine⟨⟨o,e,ex.1⟩,λa e2=>?_⟩;cases e2;exact⟨o,e,ex.2.1⟩
  ·obtain⟨o,_,_,_,e,ex,_⟩:=I.hok p _ hk;refine⟨⟨o,e,ex.1⟩,λa e2=>?_⟩;cases e2;exact⟨o,e,ex.2.1⟩
 |_=>exact False.elim ty
variable {o e:Expr} {t:TA} {T:String} {r:V->List V->Hp->VK->Prop}
end
def MtM(X:Cx)(id:String)(r:V->List V->Hp->VK->Prop):Prop:=
 ∀(pins:Q2) (s:Shared) (σ:St) (H:Hp) (x:V) (xs:List V) (v:Value) (us:List Value) (Q:VK),Inv X pins σ H s->RelV x v->Vals xs us->r x xs H Q->
  wpAny (model X.prog X.w) X.A (call (.builtin id) (v::us)) (EP X pins σ Q) X.xe s
def Vals.one:∀ {x:V} {us:List Value},Vals [x] us->∃u,us=[u]/\RelV x u
 |_,_,.cons r .nil=>⟨_,rfl,r⟩
def Vals.two:∀ {x y:V} {us:List Value},Vals [x,y] us->∃u v,us=[u,v]/\RelV x u/\RelV y v
 |_,_,_,.cons r (.cons q .nil)=>⟨_,_,rfl,r,q⟩
def Vals.rep{us:List Value}(h:Vals xs us):∀k:Nat,Vals (List.replicate k xs).flatten (List.replicate k us).flatten
 |0=>.nil
 |k+1=>by
  rw[Ck,Ck,Ci,Ci];exact Vals.append h (Vals.rep h k)
def vP(its:List Value):∀(k:Nat) (acc:List Value),
 List.foldl (λx1 x2=>x1++x2) acc.toArray (List.replicate k its.toArray)=(acc++(List.replicate k its).flatten).toArray
 |0,acc=>by simp
 |k+1,acc=>by
  have e:acc.toArray++its.toArray=(acc++its).toArray:=by simp
  have e2:(acc++its)++(List.replicate k its).flatten=acc++(List.replicate (k+1) its).flatten:=by
   rw[Ck,Ci,Fd]
  rw[<-e2,<-vP its k (acc++its),<-e,Ck,List.foldl_cons]
section
variable {l:Addr} {ys:List V}
def Inv.lset{its':List Value}{f:Array Value->Array Value}{t':Nat}(I:Inv X pins σ H s)(hH:H l=some (.lst xs))(e:s.heap.get? l=some {cls:=.type "list",data:=.seq its.toArray n})(hf:f its.toArray=its'.toArray)(hv:Vals ys its')(hz:ys.length<=sizeLine):Inv X pins σ (upd H l (.lst ys)) {s with heap:=s.heap.update l (Obj.mapSeq f),toks:=t'}:=by
 have q:=PySem.IsL.update e f
 rw[hf]at q;refine I.write (x:=l) (e:=l) (by rw[hH];exact trivial) (.inl rfl) (λb' u hb hu=>(Bt s.heap (Obj.mapSeq f) (Ne.symm hb)).trans hu) ⟨_,q⟩ ?_
 exact⟨hz,its',_,hv,q⟩
def Inv.lnew{its:List Value}{t':Nat}(I:Inv X pins σ H s)(hv:Vals ys its)(hz:ys.length<=sizeLine):Inv X pins σ (upd H s.heap.objs.size (.lst ys)) {s with heap:=s.heap.push {cls:=.type "list",data:=.seq its.toArray},toks:=t'}:=
 I.laid (λ_ _ q=>Ag _ q) (Aj _) ⟨hz,its,0,hv,Av _ rfl⟩
def Inv.fresh(I:Inv X pins σ H s):H s.heap.objs.size=none:=I.hok.fresh (Aj _)
def Inv.lstM(I:Inv X pins σ H s)(hH:H l=some (.lst xs)):xs.length<=sizeLine/\∃(its:List Value) (n:Nat),Vals xs its/\xs.length=its.length/\s.heap.get? l=some {cls:=.type "list",data:=.seq its.toArray n}:=by
 obtain⟨z,its,n,r,e⟩:=I.hok l _ hH;exact⟨z,its,n,r,r.length,e⟩
def aQS(h:n<=sizeLine):Builtin.List.listTooLong n=false:=by
 unfold Builtin.List.listTooLong;exact Aw (by omega)
end
def aZ2:V->List V->Hp->VK->Prop:=λx vs H Q=>∃l xs y,x=.ref l/\vs=[y]/\H l=some (.lst xs)/\xs.length<sizeLine/\Q .non (upd H l (.lst (xs++[y])))
def vX:MtM X "list.append" aZ2:=by
 intro pins s σ H x vs v us Q I rx rv h;obtain⟨l,xs,y,rfl,rfl,hH,hz,q⟩:=h;cases rx;obtain⟨u,rfl,ru⟩:=rv.one;obtain⟨z,its,n,r,hl,e⟩:=I.lstM hH;refine Fo F.slot_list_append ⟨_,e,rfl⟩ F.entry_list_append (F.args_list_append_2 _ _) (PySem.list_append l its.toArray n u (by rw[Az];omega)) ⟨e,?_⟩
 refine⟨.non,_,I.lset (its':=its++[u]) hH e (by simp) (r.append (.cons ru .nil)) ?_,rfl,q⟩
 rw[Ah,List.length_singleton];omega
def aJP:V->List V->Hp->VK->Prop:=λx vs H Q=>∃l b xs zs,x=.ref l/\vs=[.ref b]/\H l=some (.lst xs)/\H b=some (.lst zs)/\xs.length+zs.length<=sizeLine/\Q .non (upd H l (.lst (xs++zs)))
def bXS:MtM X "list.extend" aJP:=by
 intro pins s σ H x vs v us Q I rx rv h;obtain⟨l,b,xs,zs,rfl,rfl,hH,hB,hz,q⟩:=h;cases rx;obtain⟨u,rfl,ru⟩:=rv.one;cases ru;obtain⟨z,its,n,r,hl,e⟩:=I.lstM hH;obtain⟨z2,its2,n2,r2,hl2,e2⟩:=I.lstM hB;have hsz:its.toArray.size+its2.toArray.size<=sizeLine:=by rw[Az,Az];omega
 have hlong:¬(!its.toArray.isEmpty&&Builtin.List.listTooLong (its.toArray.size+its2.toArray.size))=true:=by
  rw[aQS hsz,Bool.and_false];exact Ao
 refine Fo F.slot_list_extend ⟨_,e,rfl⟩ F.entry_list_extend (F.args_list_extend_2 _ _)
  (AutoSeq1.list_extend_list_list_0 l its.toArray n b its2.toArray n2 hlong (by rw[Az];omega) (by omega)) ⟨e,e2,?_⟩
 refine⟨.non,_,I.lset (its':=its++its2) hH e (by simp) (r.append r2) ?_,rfl,q⟩
 rw[Ah];omega
def fQC:R2:=λx y H Q=>∃l b xs zs,x=.ref l/\y=.ref b/\H l=some (.lst xs)/\H b=some (.lst zs)/\xs.length+zs.length<=sizeLine/\∀p,H p=none->Q (.ref p) (upd H p (.lst (xs++zs)))
def eQL:OpR X (binaryOp .Add) fQC:=by
 intro pins s σ H x y v u Q I rx ry h;obtain⟨l,b,xs,zs,rfl,rfl,hH,hB,hz,q⟩:=h;cases rx;cases ry;obtain⟨z,its,n,r,hl,e⟩:=I.lstM hH;obtain⟨z2,its2,n2,r2,hl2,e2⟩:=I.lstM hB;refine PySem.P.add_list e e2 ?_ (by rw[Az,Az];omega)
 have ea:its.toArray++its2.toArray=(its++its2).toArray:=by simp
 rw[ea];exact⟨.ref _,_,I.lnew (t':=s.toks) (r.append r2) (by rw[Ah];omega),rfl,q _ I.fresh⟩
def eJZ:R2:=λx y H Q=>∃l k xs,x=.ref l/\y=.int k/\H l=some (.lst xs)/\-(2^63)<=k/\k<2^63/\xs.length*k.toNat<=sizeLine/\
 ∀p,H p=none->Q (.ref p) (upd H p (.lst (List.replicate k.toNat xs).flatten))
def cJE(xs:List α)(k:Nat):(List.replicate k xs).flatten.length=k*xs.length:=by
 induction k with
 |zero=>simp
 |succ k ih=>rw[Ck,Ci,Ah,ih,Nat.succ_mul,Nat.add_comm]
def oH:OpR X (binaryOp .Mult) eJZ:=by
 intro pins s σ H x y v u Q I rx ry h;obtain⟨l,k,xs,rfl,rfl,hH,h1,h2,hz,q⟩:=h;cases rx;obtain⟨t,rfl⟩:=ry;obtain⟨z,its,n,r,hl,e⟩:=I.lstM hH;have hlen:its.toArray.size*k.toNat<=sizeLine:=by rw[Az,<-hl];exact hz
 have hcap:¬its.toArray.size*k.toNat>(2^63-1) / 8:=by
  have:(sizeLine:Nat)<=(2^63-1) / 8:=by decide
  omega
 have hfit:¬(!Builtin.List.listFitsIndex k)=true:=by
  rw[fitsIndex_both h1 h2];exact Ao
 have hlong:¬Builtin.List.listTooLong (its.toArray.size*k.toNat)=true:=by
  rw[aQS hlen];exact Ao
 have hnew:List.foldl (λx1 x2=>x1++x2) #[] (List.replicate (if its.toArray.isEmpty=true then 0 else k.toNat) its.toArray)=(List.replicate k.toNat its).flatten.toArray:=by
  have f0:∀m:Nat,List.foldl (λx1 x2=>x1++x2) #[] (List.replicate m its.toArray)=(List.replicate m its).flatten.toArray:=λm=>by
   have:=vP its m []
   rw[List.nil_append]at this;exact this
  rw[f0];cases its with
  |nil=>simp
  |cons a r'=>rw[if_neg (by simp)]
 refine wpAny_binaryOp_repeat_ref (T := "list") (U := "int") (by decide) ⟨_,e,rfl⟩ (λs'=>typeIs_int s' k t) noFill_list_mul F.fills_int_mul F.slot_int_rmul repeat_list F.slot_int_index.lookup
  (Fo F.slot_int_rmul (typeIs_int s k t) F.entry_int_rmul (F.args_int_rmul_2 _ _) (int___rmul___int_list k t l its.toArray n)
   ⟨e,rfl,⟨_,e,rfl⟩,Fo F.slot_list_mul ⟨_,e,rfl⟩ F.entry_list_mul (F.args_list_mul_2 _ _) (AutoListH.list___mul___list_int_3 l its.toArray n k t hfit hcap hlong) ⟨e,?_⟩⟩)
 rw[hnew];exact⟨.ref _,_,I.lnew (t':=s.toks) (r.rep k.toNat) (by rw[cJE,Nat.mul_comm];exact hz),rfl,q _ I.fresh⟩
end L2
namespace Att
open PySem PySem.W PySem.Calls PyProof.Rows
def qD{P:Params}{h:Heap}:∀(ns:List Int) (vs:List Value),WellAll P h vs (ns.map WData.int)->IntsAre vs ns:=by
 intro ns;induction ns with
 |nil=>
  intro vs w;rw[List.map_nil]at w;cases w;exact .nil
 |cons n ns ih=>
  intro vs w;rw[Aq]at w;cases w with
  |cons a b=>
   cases a;exact .cons _ _ (ih _ b)
def bQ7{l:OpenLaw}{n:Nat}(hn:l.most=some n){P:Params}{h:Heap}{args:List WData}{vals:List Value}(hpre:l.row.toRowW.claim.pre args=true)(hwl:WellAll P h vals args):∃a vs ns,vals=[Value.ref a]/\args=[WData.list (ns.map WData.int)]/\h.get? a=some {cls:=.type "list",data:=.seq vs.toArray}/\IntsAre vs ns/\ns.length<=n:=by
 have hsh:WShape.hasAll [] args [.list .int]=true:=(pre_splitW hpre).1
 have hc:l.pre.holds [] {args:=args}=true:=(pre_splitW hpre).2
 obtain⟨d,r,rfl,h1,h2⟩:=hasAllW_cons hsh;obtain rfl:=hasAllW_nil h2;obtain⟨xs,rfl,h3⟩:=hasW_list h1;obtain⟨ns,rfl⟩:=items_int h3;have hlen:ns.length<=n:=by
  unfold OpenLaw.pre at hc;have h4:(WTm.not (.lt (.lit (.int (n:Int))) (.len (.arg 0)))).holds [] {args:=[.list (ns.map .int)]}=true:=by
   have h4:=(holds_andW hc).1
   rw[hn]at h4;exact h4
  have h5:=condW_of h4 (w_not (w_lt w_lit (w_len_list (w_arg rfl))))
  rw[Ab]at h5;refine Nat.le_of_not_lt λq=>?_;have q':(n:Int)<((ns.length:Nat):Int):=by omega
  first
   |(rw[An q']at h5;exact absurd h5 (by decide))
   |(simp at h5;omega)
 cases hwl with
 |cons w1 w2=>
  cases w2;cases w1 with
  |list ho hall=>exact⟨_,_,ns,rfl,rfl,ho,qD ns _ hall,hlen⟩
def bXK(l:OpenLaw)(args:List WData):l.row.toRowW.claim.post args (.bool true) args=true:=
 postW_of (r:=l.row.toRowW) (X:=(true==true))
  (show WShape.has [] (.bool true) .bool=true by first|rfl|decide|simp[WShape.has,WShape.arms,WShape.armsAll])
  (show (WTm.eq .res (.lit (.bool true))).value [] {args:=args,res:=some (.bool true),after:=args}=some (.bool (true==true)) from w_eq_bool (w_res rfl) w_lit) rfl
def attach_call{l:OpenLaw}{n:Nat}{q:Program}{loose:List Str}{XP:(Q5)->Heap->Prop}{YP:World->Heap->Prop}{d:DefRec}(hn:l.most=some n)(hdf:d.params.defaults=[])(call:∀(w:World) (s₀ s₁:Shared) (mg mb:Q5) (fa:Addr) (o:Obj) (pm cd doc:Value) (a:Addr) (vs:List Value) (ns:List Int),
 Ground q loose [] XP w s₀ mg mb s₁.heap->YP w s₁.heap->
 s₁.heap.get? fa=some o->o.data=.func (docDef d.name d.params d.body d.scope pm cd doc)->s₁.heap.CodeRec cd d.name->mg d.name=some (.ref fa)->
 s₁.heap.get? a=some {cls:=.type "list",data:=.seq vs.toArray}->IntsAre vs ns->ns.length<=n->s₁.gens=#[]->
 codeAny (model l.prog w) callerA (.call (.ref fa) ⟨[.ref a],[]⟩) (λr s'=>r=.ok (.ret (.bool true))/\OldK s₁.heap s'.heap/\s'.os=s₁.os/\AllBare s'.gens) s₁):WalkO q loose XP YP l.row.toRowW d [] (λf vs=>PySem.call f vs):=by
 intro w s₀ s₁ mg mb G Y fa o pm cd doc dV kV ho hd hcd hD hmg hg args vals as hpre hlay hrd hwl hlo;obtain rfl:dV=.none:=Dflts.none hD hdf;obtain rfl:kV=.none:=Dflts.noKw hD;obtain⟨a,vs,ns,rfl,rfl,hobj,hints,hlen⟩:=bQ7 hn hpre hwl;refine enter_call (Fc (call w s₀ s₁ mg mb fa o pm cd doc a vs ns G Y ho (fd_plain hd) hcd hmg hobj hints hlen hg) λr s' hq=>?_);obtain⟨rfl,h2,h3,h4⟩:=hq;exact⟨.inl ⟨.bool true,.bool true,[],rfl,λ_=>rfl,.bool true,bXK l _,λ_=>⟨List.Pairwise.nil,λ_ hm=>(nomatch hm)⟩⟩,h2,h3,h4⟩
end Att
namespace L2
open PySem PySem.Spec PyProof.Rows
variable {x:Str}
def vC:∀ {vs:List Value} {ns:List Int},IntsAre vs ns->Vals (ns.map V.int) vs
 |_,_,.nil=>.nil
 |_,_,.cons n t h=>.cons ⟨t,rfl⟩ (vC h)
def iM(s:Stmt):Arguments:=match s with
 |.FunctionDef _ a _ _ _ _ _ _ _ _=>a
 |_=>{posonlyargs:=[],args:=[],vararg:=none,kwonlyargs:=[],kw_defaults:=[],kwarg:=none,defaults:=[]}
def eW(s:Stmt):List Stmt:=match s with
 |.FunctionDef _ _ b _ _ _ _ _ _ _=>b
 |_=>[]
def aJ(s:Stmt):Scope:=match s with
 |.FunctionDef _ _ _ _ _ _ sc _ _ _=>sc
 |_=>{kind:=.function,names:=[],isGenerator:=false,isCoroutine:=false}
abbrev CX0:CXT:=λ_ _ _ _ _ _=>False
abbrev E0:XK:=λ_ _ _=>False
def bZ8{X:Cx}:iK CX0 X E0:=λ_ _ _ _ _ _ _ h=>h.elim
structure Fun (K:W.Frag) (x qual:Str) (st:Stmt) (f:Addr) (fd:FuncData):Prop where
 ex:∃(oc:Value) (od:Option Addr) (kV doc pm:Value) (an:Option Addr) (cdv ct:Value) (osl:Array (Option Value)),
  fd=W.fnOf x qual (iM st) (eW st) (aJ st) .none kV doc pm an cdv ct/\K.lookup f=some ⟨oc,od,.func fd,osl⟩/\W.codeIn K cdv qual=true
 kp:W.keepIn K (.ref f)=true
section
variable {P:Program} {w:World} {K:W.Frag} {mg:Q5} {base:Heap}
def Fun.ok{qual:Str}{st:Stmt}{f:Addr}{fd:FuncData}{N ps:List Str}{k:Nat}{sp:Sp}(F:Fun K x qual st f fd)(S:FnScope N ps (aJ st))(len:∀vs H Q E,sp vs H Q E->vs.length=ps.length)(hbody:∀(cdv:Value) (A:Around) (outer:List Env) (s:Shared) (H:Hp) (vs:List V) (Q:VK) (E:XK),Room k (A.deeper (envOfC qual (aJ st) s.heap.objs.size f cdv))->sp vs H Q E->
 ∃t,PSs (fY CX0 P w K mg base N qual (aJ st) f cdv A outer s H E).nox (eW st) t/\t {nx:=λ_ H'=>Q .non H',rt:=Q} (lI N vs) H):FnOk P w K mg base CX0 (k+1) f fd ps sp:=by
 obtain⟨oc,od,kV,doc,pm,an,cdv,ct,osl,rfl,lk,hcd⟩:=F.ex;refine bZQ lk hcd S len λA outer s H vs Q E hr hsp=>?_;obtain⟨t,h,q⟩:=hbody cdv A outer s H vs Q E hr hsp;exact⟨t,h.nox,q⟩
def Fun.binds{qual:Str}{st:Stmt}{f:Addr}{fd:FuncData}{ps:List Str}(F:Fun K x qual st f fd)(h:∀(kV doc pm:Value) (an:Option Addr) (cdv ct:Value) (us:List Value),us.length=ps.length->bindArgs (W.fnOf x qual (iM st) (eW st) (aJ st) .none kV doc pm an cdv ct) ⟨us,[]⟩=pure (ps.zip us)):Binds K fd ps []:=by
 obtain⟨oc,od,kV,doc,pm,an,cdv,ct,osl,rfl,lk,hcd⟩:=F.ex;exact .all (h kV doc pm an cdv ct)
def aZC{qual:Str}{st:Stmt}{f:Addr}{oc:Value}{od an:Option Addr}{osl:Array (Option Value)}{kV doc pm cdv ct:Value}(l:K.lookup f=some ⟨oc,od,.func (W.fnOf x qual (iM st) (eW st) (aJ st) .none kV doc pm an cdv ct),osl⟩)(c:W.codeIn K cdv qual=true)(k:W.keepIn K (.ref f)=true):Fun K x qual st f (W.fnOf x qual (iM st) (eW st) (aJ st) .none kV doc pm an cdv ct):=⟨⟨oc,od,kV,doc,pm,an,cdv,ct,osl,rfl,l,c⟩,k⟩
end
section
variable {X:Cx}
def pv(i:Nat){pos:Pos}(hN:X.N[i]?=some x:=by rfl)(hv:Vis X.env.scope x:=by first|exact Or.inl rfl|exact Or.inr (Or.inl rfl)|exact Or.inr (Or.inr rfl))(hd:(x==("__debug__" : Str))=false:=by decide)(hcd:(x==("__classdict__" : Str))=false:=by decide):PE X (.Name x pos) (eJD i):=dJL hN hv hd hcd
end
def eJ7{A B:Prop}(h:B):if false=true then A else B:=by
 rw[if_neg Ao];exact h
def eJ5{A B:Prop}(h:A):if true=true then A else B:=by
 rw[if_pos rfl];exact h
def gS{c A B:Prop}[Decidable c](h1:c->A)(h2:¬c->B):if c then A else B:=by
 by_cases h:c
 ·rw[if_pos h];exact h1 h
 ·rw[if_neg h];exact h2 h
def Same(H H':Hp):Prop:=∀b o,H b=some o->H' b=some o
def Same.refl(H:Hp):Same H H:=λ_ _ h=>h
def Same.trans{H H1 H2:Hp}(a:Same H H1)(b:Same H1 H2):Same H H2:=λc o h=>b c o (a c o h)
def Same.seq{K:W.Frag}{H H':Hp}{a:Addr}{xs:List V}(e:Same H H')(h:SqL K H a xs):SqL K H' a xs:=by
 rcases h with(h|⟨o,h⟩)|h
 ·exact .inl (.inl (e _ _ h))
 ·exact .inl (.inr ⟨o,e _ _ h⟩)
 ·exact .inr h
end L2
namespace FlT
open PySem PySem.Spec PyProof.Rows
def app_cps(x y:Str):(x++y).cps.toList=x.cps.toList++y.cps.toList:=by
 show (x.cps++y.cps).toList=_
 simp
def str_ext{x y:Str}(h:x.cps.toList=y.cps.toList):x=y:=by
 obtain⟨⟨x⟩⟩:=x;obtain⟨⟨y⟩⟩:=y;cases h;rfl
end FlT
namespace L2
open PySem PySem.Spec PyProof.Rows
variable {A:Around}{C Pt a b c dx ea f:Addr}{D:Ends}{E:Q0}{H H' H1 Hc Hs:Hp}{K:W.Frag}{M:Model}{N:List Str}{P prog:Program}{Q:VK}{R:It->Hp->Prop}{S:Str->Hp->Prop}{T newId:String}{X:Cx}{apos cpos pos tp:Pos}{base h h':Heap}{bmB us:List Value}{cl:List (Str×Addr)}{d:Option Addr}{e iter l tg:Expr}{elts es ifs:List Expr}{env:Env}{ep j k' n t' x1:Nat}{fd:FuncData}{fp ps:List Addr}{fs:List (List V)}{g:TG}{i lo:Int}{kvs:List (Key×V)}{mg:Q5}{name q qual x z:Str}{neg:Bool}{ns:List Int}{o oe:Obj}{outer:List Env}{params:Arguments}{pins:Q2}{pl:Sem Bool}{r:V->List V->Hp->VK->Prop}{s s1:Shared}{scope:Scope}{sp:Sp}{st:Stmt}{t ta tk:TA}{te tl to tv:TE}{tests:TT}{u:Value}{v y:V}{vs xs ys:List V}{w:World}{α:Type}
def PE.imp{t t':TE}(h:PE X e t)(i:∀σ H Q,t' σ H Q->t σ H Q):PE X e t':=λpins s σ H Q I q=>h pins s σ H Q I (i σ H Q q)
def OpR.imp{f:Value->Value->Sem Value}{r r':R2}(h:OpR X f r)(i:∀x y H Q,r' x y H Q->r x y H Q):OpR X f r':=λpins s σ H x y v u Q I rx ry q=>h pins s σ H x y v u Q I rx ry (i x y H Q q)
def CallR.imp{f:Value}{r r':List V->Hp->VK->Prop}(h:CallR X f r)(i:∀xs H Q,r' xs H Q->r xs H Q):CallR X f r':=λpins s σ H xs us Q I rx q=>h pins s σ H xs us Q I rx (i xs H Q q)
def MtR.imp{id:String}{r r':V->List V->Hp->VK->Prop}(h:MtR X id r)(i:∀x xs H Q,r' x xs H Q->r x xs H Q):MtR X id r':=λpins s σ H x xs v us Q I rx rs q=>h pins s σ H x xs v us Q I rx rs (i x xs H Q q)
def IxR.imp{r r':R2}(h:IxR X r)(i:∀x y H Q,r' x y H Q->r x y H Q):IxR X r':=λvalue slice pins s σ H x y v u Q I rx ry q hs=>h value slice pins s σ H x y v u Q I rx ry (i x y H Q q) hs
def SlR.imp{r r':V->Option Int->Option Int->Hp->VK->Prop}(h:SlR X r)(i:∀x lo hi H Q,r' x lo hi H Q->r x lo hi H Q):SlR X r':=λpins s σ H x v vl vu lo hi sl Q I rx hs pl pu q=>h pins s σ H x v vl vu lo hi sl Q I rx hs pl pu (i x lo hi H Q q)
def Its(z:Str):It:=⟨λi _=>i<z.cps.size,λi H x H'=>H'=H/\∃c,z.cps[i]?=some c/\x=.str ⟨#[c]⟩,λi _=>z.cps.size<=i⟩
def aZS(z:Str)(t:Tok)(it:Addr):Turn P w K tg (Its z) [it] it (λi h=>h.IsStrIter it "str_ascii_iterator" z t i) where
 mem:=by simp
 obj:=λi h st b hb=>by
  have e:b=it:=by simpa using hb
  subst e;obtain⟨o,e,c,d⟩:=st;exact⟨o,e,λv z=>by rw[d]at z;cases z⟩
 keep:=λi h h' st k=>let ⟨o,ho,r⟩:=st;⟨o,k it (by simp) o ho,r⟩
 item:=by
  intro X hP hw hK hc i pins s σ H E I hf st hg;subst hP hw hK;obtain⟨f0,f1,f2,f3,f4,f5⟩:=hf it (by simp)
  have hi:i<z.cps.size:=hg
  refine wpAny_pyNext_ascii_item st (c:=z.cps[i]) (by simp[hi]) λh' st' sb=>?_
  have I1:Inv X pins σ H {s with heap:=h',toks:=s.toks+1}:=I.turned (λb o hb e=>(sb.2 b hb).trans e) f0 f1 f3 f4 f5
  obtain⟨o,e,c,d⟩:=id st';exact⟨_,rfl,rH (s:={s with heap:=h',toks:=s.toks+1}) e c d (by decide) ⟨.str ⟨#[z.cps[i]]⟩,H,I1,⟨_,rfl⟩,⟨rfl,_,by simp[hi],rfl⟩,st',λb hb=>(hf b hb).1⟩⟩
 done:=by
  intro X hP hw hK hc i pins s σ H E I hf st hg;subst hP hw hK;obtain⟨f0,f1,f2,f3,f4,f5⟩:=hf it (by simp)
  have hi:z.cps.size<=i:=hg
  exact wpAny_pyNext_ascii_end (I.ok.hd hc) st (by simp[hi]) λh' eb=>⟨rfl,I.turned (t':=s.toks) (λb o hb e=>eb b o hb e) f0 f1 f3 f4 f5⟩
 self:=λ_ _ _ _ _ st h=>wpAny_pyIter_striter_ascii st h
def bXW(z:Str)(t:Tok)(it:Addr):Turn P w K tg (Its z) [it] it (λi h=>h.IsStrIter it "str_iterator" z t i) where
 mem:=by simp
 obj:=λi h st b hb=>by
  have e:b=it:=by simpa using hb
  subst e;obtain⟨o,e,c,d⟩:=st;exact⟨o,e,λv z=>by rw[d]at z;cases z⟩
 keep:=λi h h' st k=>let ⟨o,ho,r⟩:=st;⟨o,k it (by simp) o ho,r⟩
 item:=by
  intro X hP hw hK hc i pins s σ H E I hf st hg;subst hP hw hK;obtain⟨f0,f1,f2,f3,f4,f5⟩:=hf it (by simp)
  have hi:i<z.cps.size:=hg
  refine wpAny_pyNext_wide_item st (c:=z.cps[i]) (by simp[hi]) λh' st' sb=>?_
  have I1:Inv X pins σ H {s with heap:=h',toks:=s.toks+1}:=I.turned (λb o hb e=>(sb.2 b hb).trans e) f0 f1 f3 f4 f5
  obtain⟨o,e,c,d⟩:=id st';exact⟨_,rfl,rH (s:={s with heap:=h',toks:=s.toks+1}) e c d (by decide) ⟨.str ⟨#[z.cps[i]]⟩,H,I1,⟨_,rfl⟩,⟨rfl,_,by simp[hi],rfl⟩,st',λb hb=>(hf b hb).1⟩⟩
 done:=by
  intro X hP hw hK hc i pins s σ H E I hf st hg;subst hP hw hK;obtain⟨f0,f1,f2,f3,f4,f5⟩:=hf it (by simp)
  have hi:z.cps.size<=i:=hg
  exact wpAny_pyNext_wide_end (I.ok.hd hc) st (by simp[hi]) λh' eb=>⟨rfl,I.turned (t':=s.toks) (λb o hb e=>eb b o hb e) f0 f1 f3 f4 f5⟩
 self:=λ_ _ _ _ _ st h=>wpAny_pyIter_striter_wide st h
def cZQ{tb:TS}{σ:St}(Pv:Nat->St->Hp->Prop)(h0:Pv 0 σ H)(hs:∀i c σ H,z.cps.toList[i]?=some c->Pv i σ H->g (.str ⟨#[c]⟩) σ H λσ2 H2=>tb {D with nx:=Pv (i+1),ct:=Pv (i+1),bk:=D.nx} σ2 H2)(hd:∀σ H,Pv z.cps.toList.length σ H->D.nx σ H):∃W:Nat->Nat->St->Hp->Prop,(∃m,W 0 m σ H)/\∀i m σ H,W i m σ H->
 ((Its z).stop i H/\D.nx σ H)\/((Its z).go i H/\∃N:St->Hp->Prop,(∀σ' H',N σ' H'->∃m',m' < m/\W (i+1) m' σ' H')/\∀x H',(Its z).yld i H x H'->g x σ H' λσ2 H2=>tb {D with nx:=N,ct:=N,bk:=D.nx} σ2 H2):=by
 have hl:z.cps.toList.length=z.cps.size:=by simp
 rw[hl]at hd;refine⟨λi m σ H=>m=z.cps.size-i/\i<=z.cps.size/\Pv i σ H,⟨z.cps.size,by simp,Nat.zero_le _,h0⟩,?_⟩
 rintro i m σ H ⟨rfl,hi,p⟩;by_cases hlt:i<z.cps.size
 ·refine .inr ⟨hlt,Pv (i+1),λσ' H' p'=>⟨z.cps.size-(i+1),by omega,rfl,hlt,p'⟩,λx H' y=>?_⟩
  obtain⟨e,c,hc,hx⟩:=y;subst e hx;exact hs i c σ _ (by simpa using hc) p
 ·have e:i=z.cps.size:=by omega
  subst e;exact .inl ⟨Aj _,hd σ H p⟩
section
variable {b:Expr}
def fQN:V->Option Int->Option Int->Hp->VK->Prop:=λx lo hi H Q=>∃z,x=.str z/\z.length<=sizeLine/\Q (.str (Txt.slice z lo hi)) H
def eQ7:SlR X fQN:=by
 intro pins s σ H x v vl vu lo hi sl Q I rx hs pl pu h;obtain⟨z,rfl,hz,q⟩:=h;obtain⟨t,rfl⟩:=rx;refine⟨"str",_,PySem.F.slot_str_getitem.lookup,Hy _ _ _,?_⟩;cases pl with
 |none=>
  cases pu with
  |none=>exact Fi (l:=none) (u:=none) (st:=none) hs rfl (post_val_or_str ⟨Ca (Txt.slice_le z _ _) hz,λt' k=>⟨.str (Txt.slice z none none),H,I.tok _,⟨_,rfl⟩,q⟩⟩)
  |int j uj=>exact Fi (l:=none) (u:=some (j,uj)) (st:=none) hs rfl (post_val_or_str ⟨Ca (Txt.slice_le z _ _) hz,λt' k=>⟨.str (Txt.slice z none (some j)),H,I.tok _,⟨_,rfl⟩,q⟩⟩)
 |int i ui=>
  cases pu with
  |none=>exact Fi (l:=some (i,ui)) (u:=none) (st:=none) hs rfl (post_val_or_str ⟨Ca (Txt.slice_le z _ _) hz,λt' k=>⟨.str (Txt.slice z (some i) none),H,I.tok _,⟨_,rfl⟩,q⟩⟩)
  |int j uj=>exact Fi (l:=some (i,ui)) (u:=some (j,uj)) (st:=none) hs rfl (post_val_or_str ⟨Ca (Txt.slice_le z _ _) hz,λt' k=>⟨.str (Txt.slice z (some i) (some j)),H,I.tok _,⟨_,rfl⟩,q⟩⟩)
def cJ2:V->List V->Hp->VK->Prop:=λx vs H Q=>∃z y i rest,x=.str z/\vs=[.str y]/\Builtin.Str.occurrences z y 0 z.length 1=i::rest/\Q (.int ((i:Nat):Int)) H
def mt_index:MtR X "str.index" cJ2:=by
 intro pins s σ H x vs v us Q I rx rv h;obtain⟨z,y,i,rest,rfl,rfl,ho,q⟩:=h;obtain⟨t,rfl⟩:=rx;obtain⟨u,rfl,ru⟩:=rv.one;obtain⟨t',rfl⟩:=ru;exact SC.index ho ⟨.int i,H,I.tok _,⟨_,rfl⟩,q⟩
def aXF{ys:List Str}:∀ {us:List Value},Vals (ys.map V.str) us->StrsAre us ys:=by
 induction ys with
 |nil=>intro us r;rw[List.map_nil]at r;cases r;exact .nil
 |cons n ns ih=>
  intro us r;rw[Aq]at r;cases r with
  |cons r1 r2=>
   obtain⟨t,e⟩:=r1;subst e;exact .cons n t (ih r2)
def eJU(K:W.Frag):V->List V->Hp->VK->Prop:=λx vs H Q=>∃z p ys,x=.str z/\vs=[.ref p]/\SqL K H p (ys.map V.str)/\(ys.map (·.length)).sum+ys.length*z.length<=16777216/\Q (.str (Txt.join z ys)) H
def mt_join:MtR X "str.join" (eJU X.K):=by
 intro pins s σ H x vs v us Q I rx rv h;obtain⟨z,p,ys,rfl,rfl,hp,hz,q⟩:=h;obtain⟨t,rfl⟩:=rx;obtain⟨u,rfl,ru⟩:=rv.one;cases ru;obtain⟨its,r,pl,_⟩:=I.list hp;exact join_list pl.isList (by simpa using aXF r) hz λt' k=>⟨.str (Txt.join z ys),H,I.tok _,⟨_,rfl⟩,q⟩
def tQ:CallR X (.type "int") (λxs H Q=>∃x n,xs=[.str x]/\PySem.intText? x=some n/\x.length<=640/\Q (.int n) H):=by
 intro pins s σ H xs us Q I r h;obtain⟨x,n,rfl,hn,hl,q⟩:=h;obtain⟨u,rfl,t,rfl⟩:=dI r;exact W.KIN.call_text hn hl ⟨.int n,H,I.tok _,⟨_,rfl⟩,q⟩
def call_isinst:CallR X (.builtin "isinstance") (λxs H Q=>∃x T t b,xs=[x,.ty T]/\TyOf X.K H x t/\W.kitOne X.K t (.type T)=some b/\Q (.bl b) H):=by
 intro pins s σ H xs us Q I r h;obtain⟨x,T,t,b,rfl,ty,e,q⟩:=h;obtain⟨u,w',rfl,rx,ry⟩:=yI r;cases (show w'=Value.type T from ry);exact bXA I rx ty e λtk=>⟨.bl b,H,I.tok _,rfl,q⟩
def aQC{bs:List Bool}:∀ {us:List Value},Vals (bs.map V.bl) us->LSm.BoolsAre us bs:=by
 induction bs with
 |nil=>intro us r;rw[List.map_nil]at r;cases r;exact .nil
 |cons n ns ih=>
  intro us r;rw[Aq]at r;cases r with
  |cons r1 r2=>
   cases r1;exact .cons n (ih r2)
def uN(hc:X.calm=true):CallR X (.builtin "all") (λxs H Q=>∃(p:Addr) (bs:List Bool),xs=[.ref p]/\SqL X.K H p (bs.map V.bl)/\Q (.bl (bs.all id)) H):=by
 intro pins s σ H xs us Q I r h;obtain⟨p,bs,rfl,hp,q⟩:=h;obtain⟨u,rfl,ru⟩:=dI r;cases ru;obtain⟨its,rv,pl,hz⟩:=I.list hp;have hb:=aQC rv
 have hl:=pl.isList
 have hlt:p<s.heap.objs.size:=by obtain⟨_,e,_⟩:=hl;exact As e
 refine call_all_walk (Ea hl ?_);refine⟨s.heap.objs.size,[s.heap.objs.size,p],[s.heap.objs.size],its.toArray.size,_,_,λi=>(bs[i]?).getD true,rfl,Walks.list (A:=X.A.in1) (I.ok.hd hc) _ p (Bd hlt) its.toArray,
  ⟨⟨_,Av _ rfl,rfl,rfl⟩,hl.push _⟩,λi v s' Q' E' hP hQ=>?_,λh' tk hk=>?_⟩
 ·obtain⟨b,e,rfl⟩:=hb.get i v (by simpa using hP)
  simp only[e,Option.getD_some]at hQ;exact Fb hQ
 ·have e:((List.range its.toArray.size).all λi=>(bs[i]?).getD true)=bs.all id:=by
   rw[Az,hb.length];exact LSm.range_all bs
  rw[e];exact⟨.bl (bs.all id),H,I.kept (LSm.kept_iter hk),rfl,q⟩
def hV(xs ys:List V):Bool:=xs.length==ys.length&&(List.range xs.length).all λj=>eqV (xs.getD j .non) (ys.getD j .non)
def Vals.getD_rel(r:Vals xs us)(h:j<us.length):RelV (xs.getD j .non) us[j]:=by
 have hl:=r.length
 have hx:j<xs.length:=by omega
 obtain⟨u,hu,ru⟩:=r.get (Aa hx);rw[Aa h]at hu;cases hu;rw[Ac,Aa hx];exact ru
def iF(h:xs.all cN=true)(j:Nat):cN (xs.getD j .non)=true:=by
 rw[Ac];cases e:xs[j]? with
 |none=>rfl
 |some x=>exact Ce.mp h x (Am e)
def dZQ(K:W.Frag)(neg:Bool):R2:=λx y H Q=>∃p q xs ys,x=.ref p/\y=.ref q/\SqL K H p xs/\SqL K H q ys/\xs.all cN=true/\ys.all cN=true/\Q (.bl (if neg then !hV xs ys else hV xs ys)) H
def qS(h:xs.length≠ys.length):hV xs ys=false:=by
 unfold hV;rw[Cu.mpr h,Bool.false_and]
def kQ(h:xs.length=ys.length):hV xs ys=(List.range xs.length).all λj=>eqV (xs.getD j .non) (ys.getD j .non):=by
 unfold hV;rw[h,Ep,Bool.true_and]
def aXD(hu:X.A.units<cLine):OpR X (compareOp .Eq) (dZQ X.K false):=by
 intro pins s σ H x y v u Q I rx ry h;obtain⟨p,q,xs,ys,rfl,rfl,hp,hq,fx,fy,k⟩:=h;cases rx;cases ry;obtain⟨its,r1,l1,_⟩:=I.list hp;obtain⟨its2,r2,l2,_⟩:=I.list hq;have e1:=r1.length
 have e2:=r2.length
 by_cases hl:xs.length=ys.length
 ·refine SeqAt.eq_listAt (e:=λj=>eqV (xs.getD j .non) (ys.getD j .non)) l1.isList l2.isList (by simp only[List.size_toArray];omega) hu (λj h1 h2=>?_) ?_
  ·have h1':j<its.length:=by simpa using h1
   have h2':j<its2.length:=by simpa using h2
   simpa using xS (A:=X.A.in1) (s:=s) (r1.getD_rel h1') (r2.getD_rel h2') (iF fx j) (iF fy j)
  ·refine⟨.bl (hV xs ys),H,I,?_,k⟩;rw[kQ hl];simp only[List.size_toArray,<-e1];rfl
 ·refine SeqAt.eq_list_lengthsAt l1.isList l2.isList (by simp only[List.size_toArray,bne_iff_ne];omega) hu ⟨.bl (hV xs ys),H,I,?_,k⟩
  rw[qS hl];rfl
def aXG(hu:X.A.units<cLine):OpR X (compareOp .NotEq) (dZQ X.K true):=by
 intro pins s σ H x y v u Q I rx ry h;obtain⟨p,q,xs,ys,rfl,rfl,hp,hq,fx,fy,k⟩:=h;cases rx;cases ry;obtain⟨its,r1,l1,_⟩:=I.list hp;obtain⟨its2,r2,l2,_⟩:=I.list hq;have e1:=r1.length
 have e2:=r2.length
 by_cases hl:xs.length=ys.length
 ·refine SeqAt.RcNeAt.lists (e:=λj=>eqV (xs.getD j .non) (ys.getD j .non)) l1.isList l2.isList (by simp only[List.size_toArray];omega) hu (λj h1 h2=>?_) X.prog X.w _ _ ?_
  ·have h1':j<its.length:=by simpa using h1
   have h2':j<its2.length:=by simpa using h2
   simpa using xS (A:=X.A.in1) (s:=s) (r1.getD_rel h1') (r2.getD_rel h2') (iF fx j) (iF fy j)
  ·refine⟨.bl (!hV xs ys),H,I,?_,k⟩;rw[kQ hl];simp only[List.size_toArray,<-e1];rfl
 ·refine SeqAt.RcNeAt.lists_lengths l1.isList l2.isList (by simp only[List.size_toArray,bne_iff_ne];omega) hu X.prog X.w _ _ ⟨.bl (!hV xs ys),H,I,?_,k⟩
  rw[qS hl];rfl
end
def rdO:Option HO->Option (List V)
 |some (.lst xs)=>some xs
 |some (.frz _ (.lst xs))=>some xs
 |_=>none
def rdL(H:Hp)(a:Addr):Option (List V):=rdO (H a)
def bI(h:rdL H a=some xs):SqL K H a xs:=by
 unfold rdL rdO at h;split at h
 ·cases h;exact .inl (.inl (by assumption))
 ·cases h;exact .inl (.inr ⟨_,by assumption⟩)
 ·cases h
def aM(h:H a=some (.lst xs)):rdL H a=some xs:=by unfold rdL;rw[h];rfl
def bU:rdL (upd H a (.lst xs)) a=some xs:=aM aD
def tG{o:HO}(h:b≠a):rdL (upd H a o) b=rdL H b:=by unfold rdL;rw[aG h]
def aI(e:Same H H')(h:rdL H a=some xs):rdL H' a=some xs:=by
 unfold rdL at h ⊢;cases q:H a with
 |none=>rw[q]at h;cases h
 |some o=>rw[e a o q,<-q];exact h
def aF{p:Addr}(h:H p=none)(o:HO):Same H (upd H p o):=λb u q=>by rw[aG (bG q h)];exact q
def iC(H:Hp)(a:Addr):Option (List V):=match H a with|some (.lst xs)=>some xs|_=>none
def cC(h:H a=some (.lst xs)):iC H a=some xs:=by unfold iC;rw[h]
def kF(h:iC H a=some xs):H a=some (.lst xs):=by
 unfold iC at h;split at h
 ·cases h;assumption
 ·cases h
def cX:iC (upd H a (.lst xs)) a=some xs:=cC aD
def nQ{o:HO}(h:b≠a):iC (upd H a o) b=iC H b:=by unfold iC;rw[aG h]
def uC(H:Hp)(a:Addr):Option (List V):=match H a with|some (.tup xs)=>some xs|_=>none
def eE(h:H a=some (.tup xs)):uC H a=some xs:=by unfold uC;rw[h]
def qK(h:uC H a=some xs):H a=some (.tup xs):=by
 unfold uC at h;split at h
 ·cases h;assumption
 ·cases h
def vL:uC (upd H a (.tup xs)) a=some xs:=eE aD
section
variable {a b c:Expr} {ta tb:TE}
def bQ5(i:Nat):TE:=λσ H Q=>match σ[i]? with|some (some v)=>Q v H|_=>False
def mv(i:Nat)(hN:X.N[i]?=some x:=by rfl)(hv:Vis X.env.scope x:=by first|exact Or.inl rfl|exact Or.inr (Or.inl rfl)|exact Or.inr (Or.inr rfl))(hd:(x==("__debug__" : Str))=false:=by decide)(hcd:(x==("__classdict__" : Str))=false:=by decide):PE X (.Name x pos) (bQ5 i):=(pv i hN hv hd hcd).imp λσ H Q q=>by
 unfold bQ5 at q;split at q
 ·exact⟨_,by assumption,q⟩
 ·exact q.elim
def mI(g:Int->Int->V):R2:=λx y H Q=>match x,y with|.int i,.int j=>Q (g i j) H|_,_=>False
def xV{g:Int->Int->V}{x:V}(q:mI g x y H Q):rI0 g x y H Q:=by
 unfold mI at q;split at q
 ·exact⟨_,_,rfl,rfl,q⟩
 ·exact q.elim
def mIC(C:Int->Int->Prop)(g:Int->Int->V):R2:=λx y H Q=>match x,y with|.int i,.int j=>C i j/\Q (g i j) H|_,_=>False
def xD{C:Int->Int->Prop}{g:Int->Int->V}{x:V}(q:mIC C g x y H Q):rI C g x y H Q:=by
 unfold mIC at q;split at q
 ·exact⟨_,_,rfl,rfl,q.1,q.2⟩
 ·exact q.elim
def bQH:R2:=λx y H Q=>match x,y with
 |.int i,.int j=>Q (.int (i+j)) H
 |.str z,.str y=>z.length+y.length<=sizeLine/\Q (.str (z++y)) H
 |.ref p,.ref q=>(match iC H p,iC H q with
  |some xs,some zs=>xs.length+zs.length<=sizeLine/\∀r,H r=none->Q (.ref r) (upd H r (.lst (xs++zs)))
  |_,_=>False)
 |_,_=>False
def bW:OpR X (binaryOp .Add) bQH:=by
 intro pins s σ H x y v u Q I rx ry q;unfold bQH at q;split at q
 ·exact eQH pins s σ H _ _ v u Q I rx ry ⟨_,_,rfl,rfl,q⟩
 ·exact aX5 pins s σ H _ _ v u Q I rx ry ⟨_,_,rfl,rfl,q.1,q.2⟩
 ·split at q
  ·exact eQL pins s σ H _ _ v u Q I rx ry ⟨_,_,_,_,rfl,rfl,kF (by assumption),kF (by assumption),q.1,q.2⟩
  ·exact q.elim
 ·exact q.elim
def kW:OpR X (binaryOp .Sub) (mI λi j=>.int (i-j)):=op_sub.imp λ_ _ _ _ q=>xV q
def uZ:OpR X (binaryOp .Mult) (mIC CMul λi j=>.int (i*j)):=op_mul.imp λ_ _ _ _ q=>xD q
def gM:OpR X (binaryOp .Mod) (mIC (λ_ j=>0<j) λi j=>.int (i%j)):=op_mod.imp λ_ _ _ _ q=>xD q
def bZX:OpR X (binaryOp .FloorDiv) (mIC eX5 λi j=>.int (i / j)):=op_fdiv.imp λ_ _ _ _ q=>xD q
def xN:OpR X (compareOp .Lt) (mI λi j=>.bl (decide (i<j))):=op_lt.imp λ_ _ _ _ q=>xV q
def eQW:OpR X (compareOp .LtE) (mI λi j=>.bl (decide (i<=j))):=op_le.imp λ_ _ _ _ q=>xV q
def yO:OpR X (compareOp .Gt) (mI λi j=>.bl (decide (j<i))):=op_gt.imp λ_ _ _ _ q=>xV q
def dZ0:V->Hp->VK->Prop:=λx H Q=>match x with|.int i=>Q (.int (-i)) H|_=>False
def aJK:UnR X (unaryOp .USub) dZ0:=λpins s σ H x v Q I rx q=>by
 unfold dZ0 at q;split at q
 ·exact dJM pins s σ H _ v Q I rx ⟨_,rfl,q⟩
 ·exact q.elim
def mEq:R2:=λx y H Q=>dQ4 x y=true/\Q (.bl (decide (x=y))) H
def oJ:OpR X (compareOp .Eq) mEq:=eZ4
def mNe:R2:=λx y H Q=>dQ4 x y=true/\Q (.bl (!decide (x=y))) H
def cJY:OpR X (compareOp .NotEq) mNe:=eXM
def aZR(neg:Bool):R2:=λx y H Q=>match x,y with
 |.ref p,.ref q=>(match rdL H p,rdL H q with
  |some xs,some ys=>xs.all cN=true/\ys.all cN=true/\Q (.bl (if neg then !hV xs ys else hV xs ys)) H
  |_,_=>False)
 |_,_=>False
def zJ{x:V}(q:aZR neg x y H Q):dZQ K neg x y H Q:=by
 unfold aZR at q;split at q
 ·split at q
  ·exact⟨_,_,_,_,rfl,rfl,bI (by assumption),bI (by assumption),q.1,q.2.1,q.2.2⟩
  ·exact q.elim
 ·exact q.elim
def sQ(hu:X.A.units<cLine):OpR X (compareOp .Eq) (aZR false):=(aXD hu).imp λ_ _ _ _ q=>zJ q
def dZC(hu:X.A.units<cLine):OpR X (compareOp .NotEq) (aZR true):=(aXG hu).imp λ_ _ _ _ q=>zJ q
def eQV:R2:=λx y H Q=>match y with|.non=>Q (.bl (decide (x=.non))) H|_=>False
def cZA:OpR X (compareOp .Is) eQV:=op_isN.imp λ_ y _ _ q=>by
 unfold eQV at q;split at q
 ·exact⟨rfl,q⟩
 ·exact q.elim
def bZW:R2:=λx y H Q=>match y with|.non=>Q (.bl (!decide (x=.non))) H|_=>False
def qY:OpR X (compareOp .IsNot) bZW:=op_notN.imp λ_ y _ _ q=>by
 unfold bZW at q;split at q
 ·exact⟨rfl,q⟩
 ·exact q.elim
def subIn(y x:Str):Bool:=!(Builtin.Str.occurrences x y 0 x.length 1).isEmpty
def oV(x:Str)(c:Nat):subIn ⟨#[c]⟩ x=decide (c∈x.cps.toList):=PySem.StrLaws.found_one x c
def eQD(neg:Bool):R2:=λx y H Q=>match x,y with|.str i,.str j=>Q (.bl (if neg then !subIn i j else subIn i j)) H|_,_=>False
def aJV:OpR X (compareOp .In) (eQD false):=op_in_str.imp λ_ _ _ _ q=>by
 unfold eQD at q;split at q
 ·exact⟨_,_,rfl,rfl,q⟩
 ·exact q.elim
def aJ7(neg:Bool):R2:=λx y H Q=>match y with
 |.ref p=>(match rdL H p with|some xs=>cN x=true/\xs.all cN=true/\Q (.bl (if neg then !inV x xs else inV x xs)) H|none=>False)
 |_=>False
def yW{x:V}(q:aJ7 neg x y H Q):rIn K neg x y H Q:=by
 unfold aJ7 at q;split at q
 ·split at q
  ·exact⟨_,_,rfl,.inl (bI (by assumption)),q.1,q.2.1,q.2.2⟩
  ·exact q.elim
 ·exact q.elim
def eZV:OpR X (compareOp .In) (aJ7 false):=op_in_seq.imp λ_ _ _ _ q=>yW q
def cQD:OpR X (compareOp .NotIn) (aJ7 true):=op_notIn_seq.imp λ_ _ _ _ q=>yW q
def mB(Q:Bool->Hp->Prop):VK:=λx H=>match x with|.bl k=>Q k H|_=>False
def cXH{Q:Bool->Hp->Prop}{x:V}(q:mB Q x H):∃k,x=.bl k/\Q k H:=by
 unfold mB at q;split at q
 ·exact⟨_,rfl,q⟩
 ·exact q.elim
def dXC(t:TE):TT:=λσ H Q=>t σ H (mB Q)
def aZ{op:CmpOp}{r:R2}(ho:OpR X (compareOp op) r)(ha:PE X a ta)(hb:PE X b tb)(hm:behindInMarks op b=false):PT X (.Compare a [op] [b] pos) (dXC (tOp r ta tb)):=by
 intro pins s σ H Q I h;refine wpAny_isTrue_Compare1 (thn (ha pins s σ H _ I h) λv s1 ⟨x,H1,I1,r1,q1⟩=>thn (hb pins s1 σ H1 _ I1 q1) λu s2 ⟨y,H2,I2,r2,q2⟩=>
  thn (ho pins s2 σ H2 x y v u _ I2 r1 r2 q2) λc s3 ⟨z,H3,I3,r3,q⟩=>?_) hm
 obtain⟨k,e,q3⟩:=cXH q;subst e;cases r3;exact Fb ⟨H3,I3,q3⟩
def bZO(Q:Bool->Hp->Prop):VK:=λx H=>match x with
 |.non=>Q false H
 |.bl k=>Q k H
 |.int i=>Q (i != 0) H
 |.str y=>y.length<=sizeLine/\Q ((y.length:Int) != 0) H
 |.ref p=>(match rdL H p with
  |some xs=>Q (!xs.isEmpty) H
  |none=>(match H p with|some (.dK kvs)=>Q (!kvs.isEmpty) H|_=>False))
 |_=>False
def dQS{Q:Bool->Hp->Prop}{x:V}(q:bZO Q x H):∃k,eZW K x H k/\Q k H:=by
 unfold bZO at q;split at q
 ·exact⟨_,rfl,q⟩
 ·exact⟨_,rfl,q⟩
 ·exact⟨_,rfl,q⟩
 ·exact⟨_,⟨q.1,rfl⟩,q.2⟩
 ·split at q
  ·exact⟨_,.inl ⟨_,bI (by assumption),rfl⟩,q⟩
  ·split at q
   ·exact⟨_,.inr (.inr ⟨_,by assumption,rfl⟩),q⟩
   ·exact q.elim
 ·exact q.elim
def bZZ(t:TE):TT:=λσ H Q=>t σ H (bZO Q)
def kA(ha:PE X a ta)(he:∀whole,isTrue a X.env whole=(do let v <-whole;standAt a.pos;holding [v] (truthy v)):=by intro _;rfl):PT X a (bZZ ta):=by
 intro pins s σ H Q I h;refine isTrue_plain (thn (ha pins s σ H _ I h) λv s1 ⟨x,H1,I1,r1,q1⟩=>dZZ pins s1 σ H1 x v Q I1 r1 (dQS q1)) (he _)
variable {rest:List Expr}
def dX6(ta tb:TE):TE:=λσ H Q=>ta σ H (mB λc H1=>if c=true then tb σ H1 Q else Q (.bl false) H1)
def eZ2(ta tb:TE):TE:=λσ H Q=>ta σ H (mB λc H1=>if c=true then Q (.bl true) H1 else tb σ H1 Q)
def aZA(ha:PE X a ta)(hb:PE X (.BoolOp .And (b::rest) pos) tb):PE X (.BoolOp .And (a::b::rest) pos) (dX6 ta tb):=by
 intro pins s σ H Q I h;refine BoolOp_and (thn (ha pins s σ H _ I h) λv s1 ⟨x,H1,I1,r1,q1⟩=>?_);obtain⟨c,rfl,q1⟩:=cXH q1;cases r1;refine Fb ?_;cases c with
 |true=>exact hb pins s1 σ H1 Q I1 q1
 |false=>exact⟨.bl false,H1,I1,rfl,q1⟩
def eJE(ha:PE X a ta)(hb:PE X (.BoolOp .Or (b::rest) pos) tb):PE X (.BoolOp .Or (a::b::rest) pos) (eZ2 ta tb):=by
 intro pins s σ H Q I h;refine BoolOp_or (thn (ha pins s σ H _ I h) λv s1 ⟨x,H1,I1,r1,q1⟩=>?_);obtain⟨c,rfl,q1⟩:=cXH q1;cases r1;refine Fb ?_;cases c with
 |false=>exact hb pins s1 σ H1 Q I1 q1
 |true=>exact⟨.bl true,H1,I1,rfl,q1⟩
def mIx:R2:=λx y H Q=>match x,y with
 |.str z,.int i=>z.length<=sizeLine/\(match atI z.cps.toList i with|some c=>Q (.str ⟨#[c]⟩) H|none=>False)
 |.ref p,.int i=>(match rdL H p with
  |some xs=>(match atI xs i with|some v=>Q v H|none=>False)
  |none=>(match uC H p with
   |some xs=>(match atI xs i with|some v=>Q v H|none=>False)
   |none=>False))
 |_,_=>False
def cJA{x:V}(q:mIx x y H Q):rIx K x y H Q:=by
 unfold mIx at q;split at q
 ·obtain⟨h1,q⟩:=q;split at q
  ·exact .inr (.inr ⟨_,_,_,rfl,rfl,h1,by assumption,q⟩)
  ·exact q.elim
 ·split at q
  ·split at q
   ·exact .inl ⟨_,_,_,_,rfl,rfl,bI (by assumption),by assumption,q⟩
   ·exact q.elim
  ·split at q
   ·split at q
    ·exact .inr (.inl ⟨_,_,_,_,rfl,rfl,SqT.of (qK (by assumption)),by assumption,q⟩)
    ·exact q.elim
   ·exact q.elim
 ·exact q.elim
def bV:IxR X mIx:=ix_seq.imp λ_ _ _ _ q=>cJA q
def mSl:V->Option Int->Option Int->Hp->VK->Prop:=λx lo hi H Q=>match x with
 |.str z=>z.length<=sizeLine/\Q (.str (Txt.slice z lo hi)) H
 |.ref p=>(match rdL H p with|some xs=>∀r,H r=none->Q (.ref r) (upd H r (.lst (nX xs lo hi)))|none=>False)
 |_=>False
def aXN:SlR X mSl:=(sl_list.or eQ7).imp λ_ _ _ _ _ q=>by
 unfold mSl at q;split at q
 ·exact .inr ⟨_,rfl,q.1,q.2⟩
 ·split at q
  ·exact .inl ⟨_,_,rfl,bI (by assumption),q⟩
  ·exact q.elim
 ·exact q.elim
def xX(Q:Option Int->Hp->Prop):VK:=λx H1=>match x with|.int i=>Q (some i) H1|_=>False
def dXR(t:TE):TO:=λσ H Q=>t σ H (xX Q)
def eJ(h:PE X e te):PO X (some e) (dXR te):=by
 intro pins s σ H Q I hw;rw[evalPart_some];refine thn (h pins s σ H _ I hw) λu s1 ⟨x,H1,I1,r1,q1⟩=>?_;unfold xX at q1;split at q1
 ·obtain⟨t,rfl⟩:=r1;exact⟨_,H1,I1,.int _ t,q1⟩
 ·exact q1.elim
def aV:List V->Hp->VK->Prop:=λxs H Q=>match xs with
 |[.str z]=>z.length<=sizeLine/\Q (.int z.length) H
 |[.ref p]=>(match rdL H p with
  |some xs=>Q (.int xs.length) H
  |none=>(match uC H p with|some xs=>Q (.int xs.length) H|none=>False))
 |_=>False
def bS:CallR X (.builtin "len") aV:=call_len.imp λ_ _ _ q=>by
 unfold aV at q;split at q
 ·exact⟨_,_,rfl,⟨q.1,rfl⟩,q.2⟩
 ·split at q
  ·exact⟨_,_,rfl,.inl ⟨_,bI (by assumption),rfl⟩,q⟩
  ·split at q
   ·exact⟨_,_,rfl,.inr ⟨_,SqT.of (qK (by assumption)),rfl⟩,q⟩
   ·exact q.elim
 ·exact q.elim
def fQQ:List V->Hp->VK->Prop:=λxs H Q=>match xs with|[.int i,.int j]=>Q (.int (if j<i then j else i)) H|_=>False
def cJC:List V->Hp->VK->Prop:=λxs H Q=>match xs with
 |[.int i]=>Q (.int i) H
 |[.str x]=>(match PySem.intText? x with|some n=>x.length<=640/\Q (.int n) H|none=>False)
 |_=>False
def aJB:CallR X (.type "int") cJC:=(call_int1.or tQ).imp λ_ _ _ q=>by
 unfold cJC at q;split at q
 ·exact .inl (.inl ⟨_,rfl,q⟩)
 ·split at q
  ·exact .inr ⟨_,_,rfl,by assumption,q.1,q.2⟩
  ·exact q.elim
 ·exact q.elim
def aJW:List V->Hp->VK->Prop:=λxs H Q=>match xs with
 |[.ref p]=>(match rdL H p with
  |some ys=>∀l,H l=none->Q (.ref l) (upd H l (.lst ys))
  |none=>(match uC H p with|some ys=>∀l,H l=none->Q (.ref l) (upd H l (.lst ys))|none=>False))
 |_=>False
def lZ:CallR X (.type "list") aJW:=call_list_of.imp λ_ _ _ q=>by
 unfold aJW at q;split at q
 ·split at q
  ·exact⟨_,_,rfl,.inl (bI (by assumption)),q⟩
  ·split at q
   ·exact⟨_,_,rfl,.inr (SqT.of (qK (by assumption))),q⟩
   ·exact q.elim
 ·exact q.elim
def aX4(T:String)(x:V)(H:Hp)(P:Prop):Prop:=match x with
 |.str _=>T="str"/\P
 |.ref p=>(match rdL H p with|some _=>T="list"/\P|none=>False)
 |_=>False
def cXL{K:W.Frag}{x:V}{P:Prop}(q:aX4 T x H P):tyV K T x H/\P:=by
 unfold aX4 at q;split at q
 ·exact⟨q.1,q.2⟩
 ·split at q
  ·exact⟨.inl ⟨q.1,_,bI (by assumption)⟩,q.2⟩
  ·exact q.elim
 ·exact q.elim
def dX3(T:String)(r:V->List V->Hp->VK->Prop)(to:TE)(t:TA):TE:=λσ H Q=>to σ H λx H1=>aX4 T x H1 (t σ H1 λxs H2=>r x xs H2 Q)
variable {o:Expr} {id:String}
def bN(pa:PlainAttrs T)(slot:Slot T name id)(hty:typeOf (.builtin id)=pure (.type "method_descriptor"))(hm:MtR X id r)(ho:PE X o to)(ha:PA X (e::es) t)(hbase:attributeBase o name X.env (eval o X.env)=eval o X.env:=by rfl)(hfew:((backTo cpos (starEach (e::es) X.env)).all (λx=>!x.1)&&(backToKw cpos (keywordEach [] X.env)).all (λx=>x.1.isSome)
 && decide ((e::es).length+([]:List Keyword).length+(if ([]:List Keyword).isEmpty then 0 else 1)<30))=true:=by rfl)(hline:(apos.endLine==cpos.line)=true:=by rfl)(hs:starEach (e::es) X.env=(false,eval e X.env)::starEach es X.env:=by rfl)(hplain:(backTo cpos (starEach es X.env)).any (·.1)=false:=by rfl):PE X (.Call (.Attribute o name apos) (e::es) [] cpos) (dX3 T r to t):=by
 intro pins s σ H Q I h;refine Hi hbase hfew hline rfl (thn (ho pins s σ H _ I h) λv s1 ⟨x,H1,I1,r1,q⟩=>?_);obtain⟨ty,q1⟩:=cXL (K:=X.K) q;obtain⟨h1,h2⟩:=dJW I1 r1 ty;refine⟨T,id,pa,slot,hty,h1,h2,?_⟩;have hA:=ha cpos pins s1 σ H1 _ I1 q1
 rw[hs]at hA ⊢;refine Hj (by show (false || (backTo cpos (starEach es X.env)).any (·.1))=false;rw[hplain]<;>rfl) (Gd ?_)
 exact thn hA λus s2 ⟨vs,H2,I2,r2,q2⟩=>hm pins s2 σ H2 x vs v us Q I2 r1 r2 q2
def dQ0:V->List V->Hp->VK->Prop:=λx vs H Q=>match x,vs with
 |.ref l,[y]=>(match iC H l with|some xs=>xs.length<sizeLine/\Q .non (upd H l (.lst (xs++[y])))|none=>False)
 |_,_=>False
def qW:MtR X "list.append" dQ0:=MtR.imp (r:=aZ2) vX λ_ _ _ _ q=>by
 unfold dQ0 at q;split at q
 ·split at q
  ·exact⟨_,_,_,rfl,rfl,kF (by assumption),q.1,q.2⟩
  ·exact q.elim
 ·exact q.elim
def wO:V->List V->Hp->VK->Prop:=λx vs H Q=>match x,vs with
 |.str z,[.str y]=>(match Builtin.Str.occurrences z y 0 z.length 1 with|i::_=>Q (.int ((i:Nat):Int)) H|[]=>False)
 |_,_=>False
def cZ9:MtR X "str.index" wO:=mt_index.imp λ_ _ _ _ q=>by
 unfold wO at q;split at q
 ·split at q
  ·exact⟨_,_,_,_,rfl,rfl,by assumption,q⟩
  ·exact q.elim
 ·exact q.elim
def lV:List V->Option (List Str)
 |[]=>some []
 |.str z::r=>(lV r).map (z::·)
 |_=>none
def aXU(ys:List Str):lV (ys.map V.str)=some ys:=by
 induction ys with
 |nil=>rfl
 |cons y r ih=>rw[Aq,lV,ih];rfl
def vZ:∀ {xs:List V} {ys:List Str},lV xs=some ys->xs=ys.map V.str
 |[],_,h=>by cases h;rfl
 |.str z::r,_,h=>by
  rw[lV]at h;cases e:lV r with
  |none=>rw[e]at h;cases h
  |some l=>rw[e]at h;cases h;rw[vZ e];rfl
 |.non::_,_,h=>by cases h
 |.bl _::_,_,h=>by cases h
 |.int _::_,_,h=>by cases h
 |.byt _::_,_,h=>by cases h
 |.flt _::_,_,h=>by cases h
 |.ref _::_,_,h=>by cases h
 |.ty _::_,_,h=>by cases h
def yR:V->List V->Hp->VK->Prop:=λx vs H Q=>match x,vs with
 |.str z,[.ref p]=>(match rdL H p with
  |some xs=>(match lV xs with|some ys=>(ys.map (·.length)).sum+ys.length*z.length<=16777216/\Q (.str (Txt.join z ys)) H|none=>False)
  |none=>False)
 |_,_=>False
def xI:MtR X "str.join" yR:=mt_join.imp λ_ _ _ _ q=>by
 unfold yR at q;split at q
 ·split at q
  ·split at q
   ·have e:=vZ (by assumption)
    subst e;exact⟨_,_,_,rfl,rfl,bI (by assumption),q.1,q.2⟩
   ·exact q.elim
  ·exact q.elim
 ·exact q.elim
def mG:List V->Option (List Bool)
 |[]=>some []
 |.bl z::r=>(mG r).map (z::·)
 |_=>none
def aZM(ys:List Bool):mG (ys.map V.bl)=some ys:=by
 induction ys with
 |nil=>rfl
 |cons y r ih=>rw[Aq,mG,ih];rfl
def vB:∀ {xs:List V} {ys:List Bool},mG xs=some ys->xs=ys.map V.bl
 |[],_,h=>by cases h;rfl
 |.bl z::r,_,h=>by
  rw[mG]at h;cases e:mG r with
  |none=>rw[e]at h;cases h
  |some l=>rw[e]at h;cases h;rw[vB e];rfl
 |.non::_,_,h=>by cases h
 |.str _::_,_,h=>by cases h
 |.int _::_,_,h=>by cases h
 |.byt _::_,_,h=>by cases h
 |.flt _::_,_,h=>by cases h
 |.ref _::_,_,h=>by cases h
 |.ty _::_,_,h=>by cases h
def dQ7:List V->Hp->VK->Prop:=λvs H Q=>match vs with
 |[.ref p]=>(match rdL H p with
  |some xs=>(match mG xs with|some bs=>Q (.bl (bs.all _root_.id)) H|none=>False)
  |none=>False)
 |_=>False
def bZ9(hc:X.calm=true):CallR X (.builtin "all") dQ7:=(uN hc).imp λ_ _ _ q=>by
 unfold dQ7 at q;split at q
 ·split at q
  ·split at q
   ·have e:=vB (by assumption)
    subst e;exact⟨_,_,rfl,bI (by assumption),q⟩
   ·exact q.elim
  ·exact q.elim
 ·exact q.elim
def tyN(x:V)(H:Hp):Option String:=match x with
 |.non=>some "NoneType"
 |.bl _=>some "bool"
 |.int _=>some "int"
 |.str _=>some "str"
 |.ref p=>(match H p with
  |some (.lst _)=>some "list"
  |some (.frz _ (.lst _))=>some "list"
  |some (.tup _)=>some "tuple"
  |some (.dK _)=>some "dict"
  |_=>none)
 |_=>none
def dJX{x:V}{t:String}(h:tyN x H=some t):TyOf K H x (.type t):=by
 unfold tyN at h;split at h
 ·cases h;exact .non
 ·cases h;exact .bl _
 ·cases h;exact .int _
 ·cases h;exact .str _
 ·split at h
  ·cases h;exact .lst (by assumption)
  ·cases h;exact .frz (by assumption)
  ·cases h;exact .tup (by assumption)
  ·cases h;exact .dK (by assumption)
  ·cases h
 ·cases h
def eXU(t T:String):Bool:=decide (t=T) || (decide (t="bool")&&decide (T="int"))
def eQG(t T:String):Bool:=["NoneType", "bool", "int", "str", "list", "tuple", "dict"].contains t && ["bool", "int", "str", "list", "tuple", "dict"].contains T
def bQZ(t T:String):Option Bool:=bif eQG t T then some (eXU t T) else none
def dQL:∀t∈["NoneType", "bool", "int", "str", "list", "tuple", "dict"],∀T∈["bool", "int", "str", "list", "tuple", "dict"],W.kitOne K (.type t) (.type T)=some (eXU t T):=by
 simp only[List.forall_mem_cons,List.not_mem_nil,false_implies,implies_true,and_true];refine⟨⟨rfl,rfl,rfl,rfl,rfl,rfl⟩,⟨rfl,rfl,rfl,rfl,rfl,rfl⟩,⟨rfl,rfl,rfl,rfl,rfl,rfl⟩,⟨rfl,rfl,rfl,rfl,rfl,rfl⟩,⟨rfl,rfl,rfl,rfl,rfl,rfl⟩,⟨rfl,rfl,rfl,rfl,rfl,rfl⟩,⟨rfl,rfl,rfl,rfl,rfl,rfl⟩⟩
def bZY{t:String}{b:Bool}(h:bQZ t T=some b):W.kitOne K (.type t) (.type T)=some b:=by
 unfold bQZ at h;cases hn:eQG t T with
 |false=>rw[hn]at h;cases h
 |true=>
  rw[hn]at h;cases h;unfold eQG at hn;rw[Eo]at hn;exact dQL t (List.contains_iff_mem.mp hn.1) T (List.contains_iff_mem.mp hn.2)
def dQM:List V->Hp->VK->Prop:=λxs H Q=>match xs with
 |[x,.ty T]=>(match tyN x H with
  |some t=>(match bQZ t T with|some b=>Q (.bl b) H|none=>False)
  |none=>False)
 |_=>False
def eJC:CallR X (.builtin "isinstance") dQM:=call_isinst.imp λ_ _ _ q=>by
 unfold dQM at q;split at q
 ·split at q
  ·split at q
   ·exact⟨_,_,_,_,rfl,dJX (by assumption),bZY (by assumption),q⟩
   ·exact q.elim
  ·exact q.elim
 ·exact q.elim
end
def aQL(R:Str->Hp->Prop):VK:=λx H=>match x with|.str z=>R z H|_=>False
def cXE{R:Str->Hp->Prop}{x:V}(q:aQL R x H):∃z,x=.str z/\R z H:=by
 unfold aQL at q;split at q
 ·exact⟨_,rfl,q⟩
 ·exact q.elim
def onL(o:Option (List V))(P:Prop):Prop:=match o with|some _=>P|none=>False
def gL(R:Addr->Hp->Prop):VK:=λx H=>match x with|.ref a=>R a H|_=>False
def cXK{R:Addr->Hp->Prop}{x:V}(q:gL R x H):∃a,x=.ref a/\R a H:=by
 unfold gL at q;split at q
 ·exact⟨_,rfl,q⟩
 ·exact q.elim
section
variable {a b:Expr} {ta tb:TE} {p:Pos}
def eXK(tl:TE):TI:=λσ H R=>tl σ H (aQL λz H1=>R (Its z) H1)
def sF(hl:PE X l tl):PI X tg l (eXK tl):=by
 intro pins s σ H R I h;refine thn (hl pins s σ H _ I h) λv s1 ⟨x,H1,I1,r1,q1⟩=>?_;obtain⟨z,rfl,q⟩:=cXE q1;obtain⟨t,rfl⟩:=r1;have fb:∀b∈[s1.heap.objs.size],kS X pins H1 b:=λb hb=>by
  have e:b=s1.heap.objs.size:=by simpa using hb
  subst e;exact I1.fpOk (Aj _) (I1.hok.fresh (Aj _))
 cases ha:z.cps.all (· < 128)
 ·refine wpAny_pyIter_wide ha ?_;exact⟨s1.heap.objs.size,[s1.heap.objs.size],_,_,H1,rfl,I1.kept (t':=s1.toks) λb o e=>Ag _ e,bXW z t _,⟨_,Av _ rfl,rfl,rfl⟩,fb,q⟩
 ·refine wpAny_pyIter_ascii ha ?_;exact⟨s1.heap.objs.size,[s1.heap.objs.size],_,_,H1,rfl,I1.kept (t':=s1.toks) λb o e=>Ag _ e,aZS z t _,⟨_,Av _ rfl,rfl,rfl⟩,fb,q⟩
def dXJ(K:W.Frag)(tl:TE):TI:=λσ H R=>tl σ H (gL λa H1=>onL (rdL H1 a) (R (Itl K a) H1))
def bX(hl:PE X l tl):PI X tg l (dXJ X.K tl):=by
 intro pins s σ H R I h;refine thn (hl pins s σ H _ I h) λv s1 ⟨x,H1,I1,r1,q1⟩=>?_;obtain⟨a,rfl,q⟩:=cXK q1;cases r1;unfold onL at q;split at q
 ·rename_i xs e
  obtain⟨its,rv,p,hz⟩:=I1.list (bI e);refine Ea p.isList ?_;refine⟨s1.heap.objs.size,[s1.heap.objs.size],_,_,H1,rfl,I1.kept (t':=s1.toks) λb o e=>Ag _ e,bXO a _,⟨_,Av _ rfl,rfl,rfl⟩,λb hb=>?_,q⟩;have e:b=s1.heap.objs.size:=by simpa using hb
  subst e;exact I1.fpOk (Aj _) (I1.hok.fresh (Aj _))
 ·exact q.elim
def rK(R:Int->Hp->Prop):List V->Hp->Prop:=λvs H=>match vs with|[.int j]=>R j H|_=>False
def qJ{R:Int->Hp->Prop}(q:rK R vs H):∃j,vs=[.int j]/\R j H:=by
 unfold rK at q;split at q
 ·exact⟨_,rfl,q⟩
 ·exact q.elim
def cQZ(R:Int->Int->Hp->Prop):List V->Hp->Prop:=λvs H=>match vs with|[.int i,.int j]=>R i j H|_=>False
def dQN{R:Int->Int->Hp->Prop}(q:cQZ R vs H):∃i j,vs=[.int i,.int j]/\R i j H:=by
 unfold cQZ at q;split at q
 ·exact⟨_,_,rfl,q⟩
 ·exact q.elim
def dZE(ta:TA):TI:=λσ H R=>ta σ H (rK λj H1=>(-(2^62)<=j/\j<2^62)/\R (Itr 0 j.toNat) H1)
def dX7(ta:TA):TI:=λσ H R=>ta σ H (cQZ λi j H1=>(-(2^62)<=i/\i<2^62/\-(2^62)<=j/\j<2^62)/\R (Itr i (j-i).toNat) H1)
def kR{ta:TA}(hg:Gl X "range")(hm:X.mg "range"=none)(ha:PA X [a] ta)(hs:starEach [a] X.env=[(false,eval a X.env)]:=by rfl):PI X tg (.Call (.Name "range" p) [a] [] pos) (dZE ta):=by
 intro pins s σ H R I h;refine Call_ (gC I hg hm boot_range (Dm (thn (ha pos pins s σ H _ I h) λus s1 ⟨vs,H1,I1,r1,q1⟩=>?_) hs rfl));obtain⟨j,e,⟨b1,b2⟩,q⟩:=qJ q1;subst e;cases r1 with
 |cons r rr=>
  cases rr;obtain⟨t,rfl⟩:=r;exact call_range_1 (zD I1 (by omega) (by omega) b1 b2 (by simpa using q))
def bX5{ta:TA}(hg:Gl X "range")(hm:X.mg "range"=none)(ha:PA X [a,b] ta)(hs:starEach [a,b] X.env=[(false,eval a X.env),(false,eval b X.env)]:=by rfl)(hs2:starEach [b] X.env=[(false,eval b X.env)]:=by rfl):PI X tg (.Call (.Name "range" p) [a,b] [] pos) (dX7 ta):=by
 intro pins s σ H R I h;refine Call_ (gC I hg hm boot_range (Dm (thn (ha pos pins s σ H _ I h) λus s1 ⟨vs,H1,I1,r1,q1⟩=>?_) (by rw[hs,hs2]) (by rw[hs2];rfl)))
 obtain⟨i,j,e,⟨b1,b2,b3,b4⟩,q⟩:=dQN q1;subst e;cases r1 with
 |cons r rr=>
  cases rr with
  |cons r' rr=>
   cases rr;obtain⟨t,rfl⟩:=r;obtain⟨t',rfl⟩:=r';exact call_range_2 (zD I1 b1 b2 b3 b4 q)
def xT(J:It)(g:TG)(tb:TS)(D:Ends)(σ:St)(H1:Hp):Prop:=∃W:Nat->Nat->St->Hp->Prop,(∃m,W 0 m σ H1)/\∀i m σ H,W i m σ H->
 (J.stop i H/\D.nx σ H)\/(J.go i H/\∃N:St->Hp->Prop,(∀σ' H',N σ' H'->∃m',m' < m/\W (i+1) m' σ' H')/\∀x H',J.yld i H x H'->g x σ H' λσ2 H2=>tb {D with nx:=N,ct:=N,bk:=D.nx} σ2 H2)
def dXI(wi:TI)(g:TG)(tb:TS):TS:=λD σ H=>wi σ H λJ H1=>xT J g tb D σ H1
def dA{body:List Stmt}{wi:TI}{tb:TS}(hp:PassesOwn (model X.prog X.w) X.A X.env X.xe)(hc:X.calm=true)(hi:PI X tg iter wi)(hg:PG X tg g)(hb:PSs X body tb)(hs:∀x,foldedSetIterable iter X.env x=pure x:=by intro _;rfl):PS X (.For tg iter body [] pos) (dXI wi g tb):=dJG (wi:=wi) hp hc hi hg hb hs
section
variable {tb:TS} {σ:St}
def gN(Pv:Nat->St->Hp->Prop)(h0:Pv 0 σ H)(hl:∀i σ H,i<=xs.length->Pv i σ H->rdL H c=some xs)(hs:∀i x σ H,xs[i]?=some x->Pv i σ H->g x σ H λσ2 H2=>tb {D with nx:=Pv (i+1),ct:=Pv (i+1),bk:=D.nx} σ2 H2)(hd:∀σ H,Pv xs.length σ H->D.nx σ H):xT (Itl K c) g tb D σ H:=
 bJ7 Pv h0 (λi σ H hi p=>bI (hl i σ H hi p)) hs hd
def eQX(Pv:Nat->St->Hp->Prop)(h0:Pv 0 σ H)(hs:∀i c σ H,z.cps.toList[i]?=some c->Pv i σ H->g (.str ⟨#[c]⟩) σ H λσ2 H2=>tb {D with nx:=Pv (i+1),ct:=Pv (i+1),bk:=D.nx} σ2 H2)(hd:∀σ H,Pv z.cps.toList.length σ H->D.nx σ H):xT (Its z) g tb D σ H:=
 cZQ Pv h0 hs hd
def sA(Pv:Nat->St->Hp->Prop)(h0:Pv 0 σ H)(hs:∀i σ H,i<n->Pv i σ H->g (.int (lo+i)) σ H λσ2 H2=>tb {D with nx:=Pv (i+1),ct:=Pv (i+1),bk:=D.nx} σ2 H2)(hd:∀σ H,Pv n σ H->D.nx σ H):xT (Itr lo n) g tb D σ H:=
 bQY Pv h0 hs hd
end
def eXC(hg:Gl X x)(hm:X.mg x=none)(hv:bootBuiltins x=some (.type T))(hn:x≠"__name__" := by decide)(hd:(x==("__debug__" : Str))=false:=by decide):PE X (.Name x pos) (tC (.ty T)):=dQI hg hm hv rfl hn hd
end
section
variable {σ:St} {QB:Bool->Hp->Prop} {QA:List V->Hp->Prop} {QO:Option Int->Hp->Prop} {t u:TS} {ta tb:TE} {tt tu:TT} {tA:TA} {r:R2} {x:V} {j:Int} {z':Str} {p q:Addr} {k:Nat}
def cP(h:t {D with nx:=u D} σ H):eXN t u D σ H:=h
def eQN(h:D.nx σ H):dZA D σ H:=h
def eJ4{c:TT}(h:c σ H λb H1=>if b=true then t D σ H1 else u D σ H1):eXS c t u D σ H:=h
def eXG(h:te σ H D.rt):eZM te D σ H:=h
def dJK(h:te σ H λ_ H1=>D.nx σ H1):dXL te D σ H:=h
def eJQ(h:te σ H λx H1=>g x σ H1 D.nx):cQS te g D σ H:=h
def eX4{wi:TI}{tb:TS}(h:wi σ H λJ H1=>xT J g tb D σ H1):dXI wi g tb D σ H:=h
def xL{QS:St->Hp->Prop}(h:QS (σ.set k (some v)) H):lP k v σ H QS:=h
def eXE{QS:St->Hp->Prop}{ti:TE}{ts:dQT}(h:to σ H λo H1=>ti σ H1 λi H2=>ts o i v H2 λH3=>QS σ H3):eJB to ti ts v σ H QS:=h
def eZH(e:σ[k]?=some (some v))(h:Q v H):bQ5 k σ H Q:=by unfold bQ5;rw[e];exact h
def s_c(h:Q v H):tC v σ H Q:=h
def fQA(h:ta σ H λx H1=>tb σ H1 λy H2=>r x y H2 Q):tOp r ta tb σ H Q:=h
def eJ2{ru:V->Hp->VK->Prop}(h:ta σ H λx H1=>ru x H1 Q):tUn ru ta σ H Q:=h
def eJP(h:QA [] H):bXG σ H QA:=h
def dJT{tr:TA}(h:ta σ H λx H1=>tr σ H1 λxs H2=>QA (x::xs) H2):aQD ta tr σ H QA:=h
def eZP(h:tA σ H λxs H1=>xs.length<=sizeLine/\∀p,H1 p=none->Q (.ref p) (upd H1 p (.lst xs))):eZF tA σ H Q:=h
def eZ0(h:tA σ H λxs H1=>xs.length<=sizeLine/\∀p,H1 p=none->Q (.ref p) (upd H1 p (.tup xs))):eXV tA σ H Q:=h
def eQB{E:XK}(h:tA σ H λvs H1=>sp (vs++[]) H1 Q E):aZ7 sp [] E tA σ H Q:=h
def fQH{rc:List V->Hp->VK->Prop}(h:tA σ H λvs H1=>rc vs H1 Q):tCB rc tA σ H Q:=h
def fQG{rs:V->Option Int->Option Int->Hp->VK->Prop}{tl th:TO}(h:te σ H λx H1=>tl σ H1 λl H2=>th σ H2 λu H3=>rs x l u H3 Q):tSl rs te tl th σ H Q:=h
def cXC(h:QO none H):aZU σ H QO:=h
def dZ6(h:te σ H (xX QO)):dXR te σ H QO:=h
def bZ6(h:QO (some i) H):xX QO (.int i) H:=h
def dJ3{rm:V->List V->Hp->VK->Prop}(h:to σ H λx H1=>aX4 T x H1 (tA σ H1 λxs H2=>rm x xs H2 Q)):dX3 T rm to tA σ H Q:=h
def eZI{P:Prop}(h:P):aX4 "str" (.str z) H P:=⟨rfl,h⟩
def eJR{P:Prop}(e:rdL H p=some xs)(h:P):aX4 "list" (.ref p) H P:=by unfold aX4;simp only[e];exact⟨trivial,h⟩
def dJ4(h:te σ H (mB QB)):dXC te σ H QB:=h
def dQ6(h:te σ H (bZO QB)):bZZ te σ H QB:=h
def fQK{b:Bool}(h:QB b H):mB QB (.bl b) H:=h
def eQI{b:Bool}(h:QB b H):bZO QB (.bl b) H:=h
def eX7(h:tt σ H λc H1=>if c=true then tu σ H1 QB else QB false H1):eZN tt tu σ H QB:=h
def eJW(h:tt σ H λc H1=>if c=true then QB true H1 else tu σ H1 QB):tOr tt tu σ H QB:=h
def eZQ(h:tt σ H λc H1=>QB (!c) H1):eX1 tt σ H QB:=h
def dJA(h:ta σ H (mB λc H1=>if c=true then tb σ H1 Q else Q (.bl false) H1)):dX6 ta tb σ H Q:=h
def eX0(h:ta σ H (mB λc H1=>if c=true then Q (.bl true) H1 else tb σ H1 Q)):eZ2 ta tb σ H Q:=h
def eZZ(h:tt σ H λc H1=>if c=true then ta σ H1 Q else tb σ H1 Q):tIf tt ta tb σ H Q:=h
def eJX{g:Int->Int->V}(h:Q (g i j) H):mI g (.int i) (.int j) H Q:=h
def eXY{C:Int->Int->Prop}{g:Int->Int->V}(c:C i j)(h:Q (g i j) H):mIC C g (.int i) (.int j) H Q:=⟨c,h⟩
def dZY(h:Q (.int (i+j)) H):bQH (.int i) (.int j) H Q:=h
def dJF(c:z.length+z'.length<=sizeLine)(h:Q (.str (z++z')) H):bQH (.str z) (.str z') H Q:=⟨c,h⟩
def jN(e:iC H p=some xs)(e':iC H q=some ys)(c:xs.length+ys.length<=sizeLine)(h:∀r,H r=none->Q (.ref r) (upd H r (.lst (xs++ys)))):bQH (.ref p) (.ref q) H Q:=by
 unfold bQH;simp only[e,e'];exact⟨c,h⟩
def eX2(h:Q (.bl (decide (i=j))) H):mEq (.int i) (.int j) H Q:=⟨rfl,by
 rw[show decide (V.int i=V.int j)=decide (i=j) by simp];exact h⟩
def eXI(h:Q (.bl (decide (z=z'))) H):mEq (.str z) (.str z') H Q:=⟨rfl,by
 rw[show decide (V.str z=V.str z')=decide (z=z') by simp];exact h⟩
def eJN(h:Q (.bl (!decide (i=j))) H):mNe (.int i) (.int j) H Q:=⟨rfl,by
 rw[show decide (V.int i=V.int j)=decide (i=j) by simp];exact h⟩
def eZY(h:Q (.bl (!decide (z=z'))) H):mNe (.str z) (.str z') H Q:=⟨rfl,by
 rw[show decide (V.str z=V.str z')=decide (z=z') by simp];exact h⟩
def nZ{neg:Bool}(e:rdL H p=some xs)(e':rdL H q=some ys)(f:xs.all cN=true)(f':ys.all cN=true)(h:Q (.bl (if neg then !hV xs ys else hV xs ys)) H):aZR neg (.ref p) (.ref q) H Q:=by
 unfold aZR;simp only[e,e'];exact⟨f,f',h⟩
def eXL(h:Q (.bl (decide (x=.non))) H):eQV x .non H Q:=h
def dJQ(h:Q (.bl (!decide (x=.non))) H):bZW x .non H Q:=h
def eJG(h:Q (.bl (if neg then !subIn z z' else subIn z z')) H):eQD neg (.str z) (.str z') H Q:=h
def bJN{neg:Bool}(e:rdL H p=some xs)(f:cN x=true)(f':xs.all cN=true)(h:Q (.bl (if neg then !inV x xs else inV x xs)) H):aJ7 neg x (.ref p) H Q:=by
 unfold aJ7;simp only[e];exact⟨f,f',h⟩
def zA{c:Nat}(l:z.length<=sizeLine)(e:atI z.cps.toList i=some c)(h:Q (.str ⟨#[c]⟩) H):mIx (.str z) (.int i) H Q:=by
 unfold mIx;simp only[e];exact⟨l,h⟩
def cD(e:rdL H p=some xs)(e':atI xs i=some v)(h:Q v H):mIx (.ref p) (.int i) H Q:=by
 unfold mIx;simp only[e,e'];exact h
def eX8{lo hi:Option Int}(e:rdL H p=some xs)(h:∀r,H r=none->Q (.ref r) (upd H r (.lst (nX xs lo hi)))):mSl (.ref p) lo hi H Q:=by
 unfold mSl;simp only[e];exact h
def eQ1(l:z.length<=sizeLine)(h:Q (.int z.length) H):aV [.str z] H Q:=⟨l,h⟩
def dJP(e:rdL H p=some xs)(h:Q (.int xs.length) H):aV [.ref p] H Q:=by unfold aV;simp only[e];exact h
def yC(e:PySem.intText? z=some i)(l:z.length<=640)(h:Q (.int i) H):cJC [.str z] H Q:=by unfold cJC;simp only[e];exact⟨l,h⟩
def dJI(e:rdL H p=some xs)(h:∀l,H l=none->Q (.ref l) (upd H l (.lst xs))):aJW [.ref p] H Q:=by unfold aJW;simp only[e];exact h
def dXW(e:iC H p=some xs)(l:xs.length<sizeLine)(h:Q .non (upd H p (.lst (xs++[v])))):dQ0 (.ref p) [v] H Q:=by unfold dQ0;simp only[e];exact⟨l,h⟩
def cZX{rest:List Nat}(e:Builtin.Str.occurrences z z' 0 z.length 1=k::rest)(h:Q (.int ((k:Nat):Int)) H):wO (.str z) [.str z'] H Q:=by unfold wO;simp only[e];exact h
def aZE{ss:List Str}(e:rdL H p=some (ss.map V.str))(l:(ss.map (·.length)).sum+ss.length*z.length<=16777216)(h:Q (.str (Txt.join z ss)) H):yR (.str z) [.ref p] H Q:=by
 unfold yR;simp only[e,aXU];exact⟨l,h⟩
def bJU{bs:List Bool}(e:rdL H p=some (bs.map V.bl))(h:Q (.bl (bs.all id)) H):dQ7 [.ref p] H Q:=by
 unfold dQ7;simp only[e,aZM];exact h
def eJM{t:String}{b:Bool}(e:tyN x H=some t)(e':bQZ t T=some b)(h:Q (.bl b) H):dQM [x,.ty T] H Q:=by
 unfold dQM;simp only[e,e'];exact h
def cZ2(h:tl σ H (gL λa H1=>onL (rdL H1 a) (R (Itl K a) H1))):dXJ K tl σ H R:=h
def cJI{R:Addr->Hp->Prop}(h:R p H):gL R (.ref p) H:=h
def eXX{P:Prop}(e:rdL H p=some xs)(h:P):onL (rdL H p) P:=by unfold onL;simp only[e];exact h
def dJU(h:tl σ H (aQL λz H1=>R (Its z) H1)):eXK tl σ H R:=h
def cJ4{R:Str->Hp->Prop}(h:R z H):aQL R (.str z) H:=h
def cZP(h:tA σ H (rK λj H1=>(-(2^62)<=j/\j<2^62)/\R (Itr 0 j.toNat) H1)):dZE tA σ H R:=h
def cZW(h:tA σ H (cQZ λi j H1=>(-(2^62)<=i/\i<2^62/\-(2^62)<=j/\j<2^62)/\R (Itr i (j-i).toNat) H1)):dX7 tA σ H R:=h
def eQO{R:Int->Hp->Prop}(h:R i H):rK R [.int i] H:=h
def eQY{R:Int->Int->Hp->Prop}(h:R i j H):cQZ R [.int i,.int j] H:=h
def cQT{o:V}{QH:Hp->Prop}(e:iC H p=some xs)(e':ixN xs.length i=some k)(h:QH (upd H p (.lst (xs.set k v)))):dXP (.ref p) (.int i) v H QH:=⟨_,_,_,_,rfl,rfl,kF e,e',h⟩
end
def dZK{xs:List α}{i:Int}(h0:0<=i)(h1:i<xs.length):∃v,atI xs i=some v/\xs[i.toNat]?=some v:=by
 have hk:i.toNat<xs.length:=by omega
 have e:i=((i.toNat:Nat):Int):=by omega
 have q:atI xs ((i.toNat:Nat):Int)=some xs[i.toNat]:=bC (Aa hk)
 rw[<-e]at q;exact⟨xs[i.toNat],q,Aa hk⟩
def aXO(h0:0<=i)(h1:i<n):ixN n i=some i.toNat:=by
 unfold ixN;rw[if_pos h0,if_pos h1]
def bJ(h:n<=100000):n<=sizeLine:=Ca h (by decide)
def bD(h:n<=100000):n<sizeLine:=Nat.lt_of_le_of_lt h (by decide)
def Cal(P:Program)(w:World)(K:W.Frag)(mg:Str->Option Value)(base:Heap)(k:Nat)(x:Str)(ps:List Str)(sp:Sp):Prop:=
 ∃(f:Addr) (fd:FuncData),FnOk P w K mg base CX0 k f fd ps sp/\mg x=some (.ref f)/\W.keepIn K (.ref f)=true/\Binds K fd ps []
section
variable {k:Nat} {ps:List Str} {p:Pos}
def aU(c:Cal X.prog X.w X.K X.mg X.base k x ps sp)(hr:Room k' X.A)(hk:k<=k')(hg:Gl X x)(ha:PA X (e::es) t)(hdb:(x==("__debug__" : Str))=false:=by decide)(he:starEach (e::es) X.env=(false,eval e X.env)::starEach es X.env:=by rfl)(hpl:(backTo pos (starEach es X.env)).any (·.1)=false:=by rfl):PE X (.Call (.Name x p) (e::es) [] pos) (aZ7 sp [] E0 t):=by
 obtain⟨f,fd,F,hm,hk',hb⟩:=c;exact aJS F (hr.mono hk) hg hm hk' hb .nil bZ8 ha hdb he hpl
def eO(hg:Gl X x)(h:∃t,X.mg x=some (.str z t))(hd:(x==("__debug__" : Str))=false:=by decide):PE X (.Name x pos) (tC (.str z)):=by
 obtain⟨t,h⟩:=h;exact xY hg h ⟨t,rfl⟩ hd
def xK{z:Int}(hg:Gl X x)(h:∃t,X.mg x=some (.int z t))(hd:(x==("__debug__" : Str))=false:=by decide):PE X (.Name x pos) (tC (.int z)):=by
 obtain⟨t,h⟩:=h;exact xY hg h ⟨t,rfl⟩ hd
def eZT(e:SqL K H a xs)(e':atI xs i=some v)(h:Q v H):dJZ K (.ref a) (.int i) H Q:=⟨a,xs,i,v,rfl,rfl,e,e',h⟩
end
def bH:bootBuiltins "len"=some (.builtin "len"):=by decide +kernel
def uB:bootBuiltins "isinstance"=some (.builtin "isinstance"):=by decide +kernel
def dZR:bootBuiltins "min"=some (.builtin "min"):=by decide +kernel
def aXV:bootBuiltins "all"=some (.builtin "all"):=by decide +kernel
def cQ7:bootBuiltins "sum"=some (.builtin "sum"):=by decide +kernel
def xE:bootBuiltins "int"=some (.type "int"):=by decide +kernel
def eY:bootBuiltins "list"=some (.type "list"):=by decide +kernel
def cJX:bootBuiltins "dict"=some (.type "dict"):=by decide +kernel
def bJ3:bootBuiltins "range"=some (.type "range"):=by decide +kernel
def eZO{A B:Prop}(h:B):if (!true)=true then A else B:=h
def eZL{A B:Prop}(h:A):if (!false)=true then A else B:=h
def cU{X:Cx}{x:Str}{j:Nat}{pos:Pos}{es:List Expr}{t:TA}(h:PA X es t):PA X (.Constant (.str x) j pos::es) (aQD (tC (.str x)) t):=aA dP h rfl
def aXP{R:Result->Shared->Prop}{elt target:Expr}{it acc:Value}(I:Nat->Shared->Prop)(turn:∀n s,I n s->wpAny (model prog w) A (pyNext it) (λr s₁=>match r with
 |none=>R (.ok .next) s₁
 | some v=>wpAny (model prog w) A (letOwnedTupleGo target it v) (λ_ s₁'=>wpAny (model prog w) A (assign target env v) (λ_ s₂=>
     wpAny (model prog w) A (forIn ifs true λc r=>if r=true then do let ok <-isTrue c env (eval c env);pure (ForInStep.yield ok) else pure (ForInStep.yield r)) (λok s₃=>
      if ok=true then wpAny (model prog w) A (eval elt env) (λx s₄=>
       wpAny (model prog w) A (call (.builtin "list.append") [acc,x]) (λ_ s₅=>∃m,m<n/\I m s₅) (λ_ _=>False) s₄) (λ_ _=>False) s₃
      else ∃m,m<n/\I m s₃) (λ_ _=>False) s₂) (λ_ _=>False) s₁') (λ_ _=>False) s₁) (λ_ _=>False) s)(n:Nat)(h:I n s):codeAny (model prog w) A (.compLoop (.ListComp elt [⟨target,iter,ifs,0⟩] scope pos) 0 it acc env) R s:=by
 refine codeAny_loop rfl I (λn s hI=>?_) n h;show wpAny _ A ((compTurn (.ListComp elt [⟨target,iter,ifs,0⟩] scope pos) 0 it acc env).onRaise (λx=>do noteFrame x env;theTreesLotGoes x)) _ _ s
 refine wpAny_noted ?_;rw[compTurn_list];refine Ad (Fg (Ad (Cg (turn n s hI) (λr s₁ h₁=>?_) λ_ _ h'=>h'.elim)));cases r with
 |none=>exact Al h₁
 |some v=>
  refine Ad (Cg h₁ (λ_ s₁' h₁'=>?_) λ_ _ h'=>h'.elim);refine Ad (Cg h₁' (λ_ s₂ h₂=>Ad (Cg h₂ (λok s₃ h₃=>?_) λ_ _ h'=>h'.elim)) λ_ _ h'=>h'.elim);cases ok with
  |false=>exact Al ⟨rfl,h₃⟩
  |true=>
   exact Ad (Ad (Cg h₃ (λx s₄ h₄=>Ad (Cg h₄ (λ_ s₅ h₅=>Al (Al ⟨rfl,h₅⟩)) λ_ _ h'=>h'.elim)) λ_ _ h'=>h'.elim))
def cxC(X:Cx)(N:List Str)(scope:Scope)(cl:List (Str×Addr))(C:Addr)(s₀:Shared)(H₀:Hp)(ex:List Addr):Cx:=
 {prog:=X.prog,w:=X.w,K:=X.K,mg:=X.mg,base:=X.base,A:=X.A,N:=N,s₀:=s₀,H₀:=H₀,env:=compEnvC scope cl C X.env,outer:=X.stack,stack:=X.stack,ex:=ex,fn:=λ_=>false,calm:=X.calm,pn:=[],xe:=λ_ _=>False}
structure ClOk (X:Cx) (N:List Str) (scope:Scope) (cl:List (Str×Addr)) (vals:St->St):Prop where
 clos:closureFor scope X.env=pure cl
 sub:∀x c,cl.lookup x=some c->X.env.cells.lookup x=some c
 has:∀x,((relabel scope X.env).names.lookup x=some .cell\/(relabel scope X.env).names.lookup x=some .free)->∃c,cl.lookup x=some c
 len:∀σ,(vals σ).length=N.length
 val:∀σ (i:Nat) x v,N[i]?=some x->(vals σ)[i]?=some (some v)->∃(j:Nat),X.N[j]?=some x/\σ[j]?=some (some v)/\X.env.scope.names.lookup x=some .cell/\(∃c,cl.lookup x=some c)/\(relabel scope X.env).names.lookup x=some .cell
def PF(X:Cx)(ifs:List Expr)(t:TT):Prop:=∀(pins:List (Addr×Obj)) (s:Shared) (σ:St) (H:Hp) (Q:Bool->Hp->Prop),Inv X pins σ H s->t σ H Q->
 wpAny (model X.prog X.w) X.A (forIn ifs true λc r=>if r=true then do let ok <-isTrue c X.env (eval c X.env);pure (ForInStep.yield ok) else pure (ForInStep.yield r)) (TP X pins σ Q) X.xe s
def eJJ:TT:=λ_ H Q=>Q true H
def cQ:PF X [] eJJ:=λpins s σ H Q I q=>wpAny_tests_nil ⟨H,I,q⟩
def iO{c:Expr}{t:TT}(h:PT X c t):PF X [c] t:=λpins s σ H Q I q=>wpAny_tests_one (h pins s σ H Q I q)
section
variable {σ:St} {H2:Hp} {s2:Shared} {vals:St->St}
def aQ7{h1:Heap}{t1:Nat}(I:Inv X pins σ H2 s2)(ck:ClOk X N scope cl vals)(hkind:scope.kind=.function)(hf:∀b∈fp,kS X pins H2 b)(hlt:∀b∈fp,b<s2.heap.objs.size)(hns:h1.Ns s2.heap.objs.size λ_=>none)(hsb:Heap.SameBut s2.heap.objs.size (s2.heap.push {cls:=.type "dict",data:=.dict #[]}) h1):Inv (cxC X N scope cl s2.heap.objs.size s2 H2 fp) [] (vals σ) H2 {s2 with heap:=h1,toks:=t1}:=by
 have old:∀b o,s2.heap.get? b=some o->h1.get? b=some o:=λb o e=>(hsb.2 b (Bd (As e))).trans (Ag _ e)
 have hC:H2 s2.heap.objs.size=none:=I.hok.fresh (Aj _)
 refine⟨⟨I.ok.mod,hkind,I.ok.glob,I.ok.blt,Aj _,λx y c h1 h2=>I.ok.inj x y c (ck.sub x c h1) (ck.sub y c h2),ck.has,(λx c h=>nomatch h),I.ok.hd,I.ok.frames,.inl rfl,λb hb=>⟨Bd (hlt b hb),λx c e=>(hf b hb).2.2.2.2.1 x c (ck.sub x c e)⟩,
  I.bs,Nat.le_trans I.ok.bsz I.sz,λb o e hb=>?_,λb hb hs=>?_,I.stack,I.stkFree⟩,rfl,I.bare,Un.kept old,⟨_,hns,λi x v e1 e2 _=>?_⟩,λx c e=>?_,hC,λx c e=>I.freeC x c (ck.sub x c e),λp hp=>absurd (show p∈([]:Q2) from hp) (by simp),I.hok.kept old,ck.len σ⟩
 ·rcases (hf b hb).2.2.2.1 with z|z
  ·exact I.ok.noex b o e z
  ·exact absurd (Bc (As e) (Ca I.ok.bsz z)) (Ct _)
 ·rcases Be.mp (I.stkSub b hs) with z|z
  ·exact(hf b hb).2.1 z
  ·exact(hf b hb).2.2.1 z
 ·obtain⟨j,h1,h2,h3,⟨c,h4⟩,h5⟩:=ck.val σ i x v e1 e2;obtain⟨m,hn,hl⟩:=I.loc;obtain⟨u,r,l⟩:=hl j x v h1 h2 (.inr (.inl h3));refine⟨u,r,.inr ⟨.inl h5,c,h4,?_⟩⟩;rcases l with⟨z,_⟩|⟨_,c',e',z⟩
  ·have z':X.env.scope.names.lookup x=some .local:=z
   rw[h3]at z';cases z'
  ·rw[ck.sub x c h4]at e';cases e';obtain⟨o,ho,hd⟩:=z;exact⟨o,old _ o ho,hd⟩
 ·obtain⟨v,o,ho,hd⟩:=I.cell x c (ck.sub x c e);exact⟨v,o,old _ o ho,hd⟩
def bX8{σ':St}{s':Shared}{h'':Heap}{pins':Q2}(I:Inv X pins σ H2 s2)(hf:∀b∈fp,kS X pins H2 b)(I':Inv (cxC X N scope cl s2.heap.objs.size s2 H2 fp) pins' σ' H' s')(hsb:Heap.SameBut s2.heap.objs.size s'.heap h''):Inv X pins σ H' {s' with heap:=h''}:=by
 have u1:Un (frs X.stack) (s2.heap.objs.size::fp) H2 H' s2.heap s'.heap:=I'.base.mono (λ_ z=>z) λb z=>Ai _ z
 have hC:H' s2.heap.objs.size=none:=I'.free
 have k:∀b o,b≠s2.heap.objs.size->s'.heap.get? b=some o->h''.get? b=some o:=λb o hb e=>(hsb.2 b hb).trans e
 have u2:Un (frs X.stack) (s2.heap.objs.size::fp) H' H' s'.heap h'':=⟨λb o e _ _ hx=>k b o (λz=>hx (by simp[z])) e,λb o e _ _ hx=>⟨o.slots,k b o (λz=>hx (by simp[z])) e⟩,λ_ _ _ n _=>n,
  λb o e hx=>⟨o,k b o (λz=>hx (by simp[z])) e⟩,λ_ _ e=>e,λ_ _ _ e=>e,λb ps e=>⟨#[],by rw[e];simp⟩⟩
 have hok:HOk X.prog X.w H' h'':=λb u e=>by
  have nC:∀c v,H' c=some v->c≠s2.heap.objs.size:=λc v e z=>by rw[z,hC]at e;cases e
  refine(I'.hok b u e).stay (λc v hc q=>k c v ?_ q) (λ_ q=>q) λ_ _ q=>q;rcases hc with z|z
  ·rw[z];exact nC b u e
  ·exact nC c _ z
 refine I.call' (s':={s' with heap:=h''}) (ch:=s2.heap.objs.size::fp) I'.os (u1.trans u2) hok I'.bare λb hb=>?_
 have q:kS X pins H2 b:=by
  rcases Be.mp hb with z|z
  ·subst z;exact I.fpOk (Aj _) (I.hok.fresh (Aj _))
  ·exact hf b z
 exact⟨q.2.2.2.1,q.2.1,q.2.2.2.2.1,q.2.2.2.2.2⟩
end
def Wk(σ0 σ:St):Prop:=σ0.length=σ.length/\∀(i:Nat) v,σ0[i]?=some (some v)->σ[i]?=some (some v)
def Wk.refl(σ:St):Wk σ σ:=⟨rfl,λ_ _ h=>h⟩
def Wk.set{σ0 σ:St}{k:Nat}(h:σ0[k]?=some none)(w:Wk σ0 σ):Wk σ0 (σ.set k (some v)):=by
 refine⟨by rw[Dq];exact w.1,λi u e=>?_⟩
 have ne:k≠i:=λz=>by subst z;rw[h]at e;cases e
 rw[Gc ne];exact w.2 i u e
def fI(g:TG)(tests:TT)(te:TE)(σ0:St)(Q:VK)(J:It)(H1:Hp):Prop:=∀D,H1 D=none->∃W:Nat->Nat->Hp->Prop,(∃m,W 0 m (upd H1 D (.lst [])))/\∀i m Hc,W i m Hc->
 (J.stop i Hc/\Q (.ref D) Hc)\/(J.go i Hc/\∀x H',J.yld i Hc x H'->g x σ0 H' λσ2 H2=>Wk σ0 σ2/\tests σ2 H2 λb H3=>if b=true then
  te σ2 H3 λy H4=>∃zs,H4 D=some (.lst zs)/\zs.length<sizeLine/\∃m',m' < m/\W (i+1) m' (upd H4 D (.lst (zs++[y]))) else ∃m',m' < m/\W (i+1) m' H3)
def bZ1(wi:TI)(g:TG)(tests:TT)(te:TE)(vals:St->St):TE:=λσ H Q=>wi σ H λJ H1=>fI g tests te (vals σ) Q J H1
def yQ{σ:St}{H2:Hp}{s2:Shared}{vals:St->St}{it:Addr}{tn:Nat->Heap->Prop}{J:It}{elt:Expr}{RR:Value->Addr->Result->Shared->Prop}(I2:Inv X pins σ H2 s2)(T:Turn X.prog X.w X.K tg J fp it tn)(st2:tn 0 s2.heap)(f2:∀b∈fp,kS X pins H2 b)(hc:X.calm=true)(ck:ClOk X N scope cl vals)(hcell:∀y∈scope.names,y.2≠.cell)(hkind:scope.kind=.function)(hg:∀C s₀ H₀ ex,PG (cxC X N scope cl C s₀ H₀ ex) tg g)(ht:∀C s₀ H₀ ex,PF (cxC X N scope cl C s₀ H₀ ex) ifs tests)(he:∀C s₀ H₀ ex,PE (cxC X N scope cl C s₀ H₀ ex) elt te)(h:fI g tests te (vals σ) Q J H2)(hRR:∀D C s' H' m,s'.heap.Ns C m->Q (.ref D) H'->(∀h'',Heap.SameBut C s'.heap h''->Inv X pins σ H' {s' with heap:=h''})->kS X pins H' C->RR (.ref D) C (.ok .next) s'):wpAny (model X.prog X.w) X.A (newList []) (λacc s₃=>wpAny (model X.prog X.w) X.A (newFunctionEnv scope X.env.globals cl [] X.env.qual none .none (some X.env)) (λcenv s₄=>
 codeAny (model X.prog X.w) X.A (.compStart (.ListComp elt [⟨tg,iter,ifs,0⟩] scope pos) 0 (.ref it) acc {cenv with scope:=relabel scope X.env}) (RR acc cenv.locals) s₄) E s₃) E s2:=by
 have hD:H2 s2.heap.objs.size=none:=I2.hok.fresh (Aj _)
 obtain⟨W,⟨m0,w0⟩,turn⟩:=h _ hD;have hlt:∀b∈fp,b<s2.heap.objs.size:=λb hb=>by
  obtain⟨o,e,_⟩:=T.obj 0 _ st2 b hb;exact As e
 refine Hk ?_
 -- the list is laid
 have I3:Inv X pins σ (upd H2 s2.heap.objs.size (.lst [])) {s2 with heap:=s2.heap.push {cls:=.type "list",dict:=none,data:=.seq ([]:List Value).toArray}}:=
  I2.lnew (ys:=[]) (its:=[]) (t':=s2.toks) .nil (Cy _)
 have f3:∀b∈fp,kS X pins (upd H2 s2.heap.objs.size (.lst [])) b:=λb hb=>⟨by rw[aG (Bd (hlt b hb))];exact(f2 b hb).1,(f2 b hb).2⟩
 have st3:tn 0 (s2.heap.push {cls:=.type "list",dict:=none,data:=.seq ([]:List Value).toArray}):=T.keep _ _ _ st2 λb _ o e=>Ag _ e
 generalize hs3:({s2 with heap:=s2.heap.push {cls:=.type "list",dict:=none,data:=.seq ([]:List Value).toArray}}:Shared)=s3 at I3 ⊢
 have e3:s3.heap=s2.heap.push {cls:=.type "list",dict:=none,data:=.seq ([]:List Value).toArray}:=by rw[<-hs3]
 rw[<-e3]at st3;have hlt3:∀b∈fp,b<s3.heap.objs.size:=λb hb=>by
  obtain⟨o,e,_⟩:=T.obj 0 _ st3 b hb;exact As e
 refine wpAny_newFunctionEnv hcell (by intro y hy;simp at hy) (λh₁ hns₁ hsb₁=>?_) hkind
 have hns:h₁.Ns s3.heap.objs.size λ_=>none:=hns₁
 have I4:=aQ7 (t1:=s3.toks) I3 ck hkind f3 hlt3 hns hsb₁
 have old:∀b o,s3.heap.get? b=some o->h₁.get? b=some o:=λb o e=>(hsb₁.2 b (Bd (As e))).trans (Ag _ e)
 have st4:tn 0 h₁:=T.keep _ _ _ st3 λb _ o e=>old b o e
 have loop:∀ s₄:Shared,s₄={ s3 with heap:=h₁,toks:=s3.toks }->
     codeAny (model X.prog X.w) X.A (.compLoop (.ListComp elt [⟨tg,iter,ifs,0⟩] scope pos) 0 (.ref it) (.ref s2.heap.objs.size) (compEnvC scope cl s3.heap.objs.size X.env))
      (RR (.ref s2.heap.objs.size) s3.heap.objs.size) s₄:=by
  rintro s₄ rfl;have fpX:∀ {H':Hp},(∀b∈fp,H' b=none)->∀b∈fp,kS (cxC X N scope cl s3.heap.objs.size s3 (upd H2 s2.heap.objs.size (.lst [])) fp) [] H' b:=λhn b hb=>
   ⟨hn b hb,Nat.ne_of_lt (hlt3 b hb),λhs=>I4.ok.exfs b hb hs,.inl hb,λx c e=>(I4.ok.exf b hb).2 x c e,λp hp=>absurd (show p∈([]:Q2) from hp) (by simp)⟩
  refine aXP (λn s'=>∃i H',Inv (cxC X N scope cl s3.heap.objs.size s3 (upd H2 s2.heap.objs.size (.lst [])) fp) [] (vals σ) H' s'/\tn i s'.heap/\(∀b∈fp,H' b=none)/\W i n H') ?_ m0
   ⟨0,_,I4,st4,λb hb=>(f3 b hb).1,w0⟩
  rintro n s5 ⟨i,H5,I5,st5,fr5,w5⟩;rcases turn i n H5 w5 with⟨stop,q⟩|⟨go,step⟩
  ·refine thn (T.done (cxC X N scope cl s3.heap.objs.size s3 (upd H2 s2.heap.objs.size (.lst [])) fp) rfl rfl rfl hc i [] s5 (vals σ) H5 (λ_ _=>False) I5 (fpX fr5) st5 stop) λr s6 ⟨hr,I6⟩=>?_;subst hr;obtain⟨m,hn,_⟩:=id I6.loc;exact hRR _ _ s6 H5 m hn q (λh'' hsb=>bX8 I3 f3 I6 hsb) (I3.fpOk (Aj _) I6.free)
  ·refine thn (T.item (cxC X N scope cl s3.heap.objs.size s3 (upd H2 s2.heap.objs.size (.lst [])) fp) rfl rfl rfl hc i [] s5 (vals σ) H5 (λ_ _=>False) I5 (fpX fr5) st5 go) λr s6 ⟨u,hr,h6⟩=>?_;subst hr;refine thn h6 λ_ s7 ⟨x,H7,I7,r7,y7,st7,fr7⟩=>?_;have I7':=I7.pinned (fpX fr7) (T.obj _ _ st7)
   refine thn (hg _ _ _ _ _ s7 (vals σ) H7 x u _ I7' r7 (step x H7 y7)) λ_ s8 ⟨σ8,H8,I8,wk8,q8⟩=>?_;refine thn (ht _ _ _ _ _ s8 σ8 H8 _ I8 q8) λb s9 ⟨H9,I9,q9⟩=>?_;have again:∀ {m':Nat} {s':Shared} {H':Hp},Inv (cxC X N scope cl s3.heap.objs.size s3 (upd H2 s2.heap.objs.size (.lst [])) fp) ([]++oU fp s7.heap) σ8 H' s'->m' < n->W (i+1) m' H'->
       ∃m,m<n/\∃i H',Inv (cxC X N scope cl s3.heap.objs.size s3 (upd H2 s2.heap.objs.size (.lst [])) fp) [] (vals σ) H' s'/\tn i s'.heap/\(∀b∈fp,H' b=none)/\W i m H':=fun {m' s' H'} J7 hm w7=>by
    refine⟨m',hm,i+1,H',(J7.weak wk8.1 wk8.2).unpinned,T.keep _ _ _ st7 λb hb o e=>(J7.pin (b,o) (Br _ (Br _ (iS hb e)))).1,λb hb=>?_,w7⟩;obtain⟨o,e,d⟩:=T.obj _ _ st7 b hb;exact(J7.pin (b,o) (Br _ (Br _ (iS hb e)))).2.1
   cases b with
   |true=>
    rw[if_pos rfl]at q9 ⊢;refine thn (he _ _ _ _ _ s9 σ8 H9 _ I9 q9) λv s10 ⟨y,H10,I10,r10,zs,hz,hl,m',hm,w10⟩=>?_;have ap:=vX ([]++oU fp s7.heap) s10 σ8 H10 (.ref s2.heap.objs.size) [y] (.ref s2.heap.objs.size) [v] (λ_ H'=>H'=upd H10 s2.heap.objs.size (.lst (zs++[y]))) I10 rfl (.cons r10 .nil) ⟨_,_,_,rfl,rfl,hz,hl,rfl⟩
    refine thn ap λ_ s11 ⟨_,H11,I11,_,e11⟩=>?_;subst e11;exact again I11 hm w10
   |false=>
    rw[if_neg Ao]at q9 ⊢;obtain⟨m',hm,w9⟩:=q9;exact again I9 hm w9
 exact codeAny_compStart_list (loop _ rfl) (T.self _ 0 _ _ _ st4 (loop _ rfl))
section
variable {vals:St->St} {elt:Expr} {spos py:Pos} {wi:TI}
def cL(hc:X.calm=true)(hi:PI X tg iter wi)(ck:ClOk X N scope cl vals)(hcell:∀y∈scope.names,y.2≠.cell)(hkind:scope.kind=.function)(hnames:∀x∈scope.names,x.2=.local->scope.names.lookup x.1=some .local)(hg:∀C s₀ H₀ ex,PG (cxC X N scope cl C s₀ H₀ ex) tg g)(ht:∀C s₀ H₀ ex,PF (cxC X N scope cl C s₀ H₀ ex) ifs tests)(he:∀C s₀ H₀ ex,PE (cxC X N scope cl C s₀ H₀ ex) elt te)(hs:∀x,foldedSetIterable iter X.env x=pure x:=by intro _;rfl):PE X (.ListComp elt [⟨tg,iter,ifs,0⟩] scope pos) (bZ1 wi g tests te vals):=by
 intro pins s σ H Q I h;rw[eval_ListComp];refine wpAny_comprehension_free (use:=none) rfl hs ck.clos hkind hnames (thn (hi pins s σ H _ I h) λv s1 h1=>thn h1 λitv s2 h2=>?_);obtain⟨it,fp,tn,J,H2,e,I2,T,st2,f2,q⟩:=h2;subst e;refine yQ (RR:=λacc C=>compPost (model X.prog X.w) X.A X.xe none (EP X pins σ Q) acc C) I2 T st2 f2 hc ck hcell hkind hg ht he q λD C s' H' m hn q' back _=>?_;exact⟨m,hn,λh'' hsb=>⟨.ref D,H',back h'' hsb,rfl,q'⟩⟩
def eM{i:Nat}(hN:X.N.Nodup)(hix:X.N[i]?=some x)(hx:Loc X.env.scope x)(hc:X.calm=true)(hi:PI X tg iter wi)(ck:ClOk X N scope cl vals)(hcell:∀y∈scope.names,y.2≠.cell)(hkind:scope.kind=.function)(hnames:∀x∈scope.names,x.2=.local->scope.names.lookup x.1=some .local)(hg:∀C s₀ H₀ ex,PG (cxC X N scope cl C s₀ H₀ ex) tg g)(ht:∀C s₀ H₀ ex,PF (cxC X N scope cl C s₀ H₀ ex) ifs tests)(he:∀C s₀ H₀ ex,PE (cxC X N scope cl C s₀ H₀ ex) elt te)(hsw:swapsWith (.ListComp elt [⟨tg,iter,ifs,0⟩] scope pos) (some (.Name x py)) spos.line X.env=pure true:=by rfl)(hf:X.fn x=true\/X.env.scope.names.lookup x=some .local:=by first|exact .inl rfl|exact .inr rfl|assumption)(hs:∀x,foldedSetIterable iter X.env x=pure x:=by intro _;rfl):PS X (.Assign [.Name x py] (.ListComp elt [⟨tg,iter,ifs,0⟩] scope pos) spos) (cQS (bZ1 wi g tests te vals) (lP i)):=by
 intro pins s σ H D I h;rw[exec_Assign_Name_used _ _ _ _ hsw];refine Ad (Fg (Ad ?_));show wpAny _ X.A (do let _ <-comprehension (.ListComp elt [⟨tg,iter,ifs,0⟩] scope pos) scope X.env _ (newList []) false (eval iter X.env) (some (assign (.Name x py) X.env))) _ _ s
 refine Ad (Cg (wpAny_comprehension_free (use:=some (assign (.Name x py) X.env)) (Q:=λ_ s'=>SP X pins D .next s') rfl hs ck.clos hkind hnames
  (thn (hi pins s σ H _ I h) λv s1 h1=>thn h1 λitv s2 h2=>?_)) (λ_ s' hq=>Al (Al hq)) λ_ _ e=>e)
 obtain⟨it,fp,tn,J,H2,e,I2,T,st2,f2,q⟩:=h2;subst e;refine yQ (RR:=λacc C=>compPost (model X.prog X.w) X.A X.xe (some (assign (.Name x py) X.env)) (λ_ s'=>SP X pins D .next s') acc C) I2 T st2 f2 hc ck hcell hkind hg ht he q λDl C s' H' m hn q' back fC=>?_;show wpAny _ X.A (assign (.Name x py) X.env (.ref Dl)) _ _ s'
 have I':Inv X pins σ H' s':=back s'.heap (Heap.SameBut.refl ..)
 refine wpAny_assign_Name (vK I' hN hix hx (v:=.ref Dl) rfl (λs'' I'' hsb=>?_) hf);obtain⟨a,hsb,ha⟩:=hsb;have hCa:C≠a:=by
  rcases ha with z|z
  ·rw[z];exact fC.2.1
  ·exact λe=>fC.2.2.2.2.1 x a z e.symm
 refine⟨m,hn.sameBut hsb hCa,λh3 hsb3=>?_⟩;exact⟨σ.set i (some (.ref Dl)),H',I''.turned (t':=s''.toks) (λb o hb e=>(hsb3.2 b hb).trans e) fC.1 fC.2.1 fC.2.2.2.1 fC.2.2.2.2.1 fC.2.2.2.2.2,q'⟩
def lJ(hfree:∀x∈scope.names,x.2≠.free)(hcell:∀y∈scope.names,y.2≠.cell):ClOk X N scope [] (λ_=>N.map λ_=>none) where
 clos:=closureFor_none hfree
 sub:=λx c h=>nomatch h
 has:=λx h=>by
  have e:(relabel scope X.env).names=scope.names:=by
   show List.map _ scope.names=scope.names
   refine map_eq_self λy hy=>?_;obtain⟨n,k⟩:=y;have:(k==NameKind.free)=false:=by simpa using hfree _ hy
   simp[this]
  rw[e]at h;rcases h with h|h
  ·exact absurd rfl (hcell _ (Dh h))
  ·exact absurd rfl (hfree _ (Dh h))
 len:=λσ=>by simp
 val:=λσ i x v h1 h2=>by
  rw[Af]at h2;cases e:N[i]? with
  |none=>rw[e]at h2;cases h2
  |some y=>rw[e]at h2;cases h2
end
section
variable {σ0:St}
def dQB{J:It}{xs:List V}{ok:Hp->Prop}(f:V->Option V)(hgo:∀(i:Nat) H,ok H->i<xs.length->J.go i H)(hst:∀H,ok H->J.stop xs.length H)(hy:∀(i:Nat) H x H',ok H->J.yld i H x H'->H'=H/\xs[i]?=some x)(hok:∀D ys,H1 D=none->ok (upd H1 D (.lst ys)))(hlen:xs.length<sizeLine)(hs:∀(i:Nat) x Hc (A:VK) (B:Hp->Prop),xs[i]?=some x->ok Hc->(match f x with|some y=>A y Hc|none=>B Hc)->g x σ0 Hc λσ2 H2=>Wk σ0 σ2/\tests σ2 H2 λb H3=>if b=true then te σ2 H3 A else B H3)(fin:∀D,H1 D=none->Q (.ref D) (upd H1 D (.lst (xs.filterMap f)))):fI g tests te σ0 Q J H1:=by
 intro D hD;refine⟨λi m Hc=>m=xs.length-i/\i<=xs.length/\Hc=upd H1 D (.lst ((xs.take i).filterMap f)),⟨xs.length,by simp,Nat.zero_le _,by simp⟩,?_⟩
 rintro i m Hc ⟨rfl,hi,rfl⟩;by_cases hlt:i<xs.length
 ·refine .inr ⟨hgo i _ (hok D _ hD) hlt,λx H' y=>?_⟩;obtain⟨e,hx⟩:=hy i _ x H' (hok D _ hD) y;subst e;refine hs i x _ _ _ hx (hok D _ hD) ?_;have tk:xs.take (i+1)=xs.take i++[x]:=by rw[Bh,hx];rfl
  cases e:f x with
  |some y=>
   refine⟨_,aD,?_,xs.length-(i+1),by omega,rfl,hlt,?_⟩
   ·have:=Dd f (xs.take i)
    rw[Bp]at this;omega
   ·rw[yA,tk,Bz];simp[e]
  |none=>
   refine⟨xs.length-(i+1),by omega,rfl,hlt,?_⟩
   rw[tk,Bz];simp[e]
 ·have e:i=xs.length:=by omega
  subst e;rw[Cj];exact .inl ⟨hst _ (hok D _ hD),fin D hD⟩
def bZI(f:Nat->Option V)(hl:z.length<sizeLine)(hs:∀(i:Nat) c Hc (A:VK) (B:Hp->Prop),z.cps.toList[i]?=some c->(match f c with|some y=>A y Hc|none=>B Hc)->g (.str ⟨#[c]⟩) σ0 Hc λσ2 H2=>Wk σ0 σ2/\tests σ2 H2 λb H3=>if b=true then te σ2 H3 A else B H3)(fin:∀D,H1 D=none->Q (.ref D) (upd H1 D (.lst (z.cps.toList.filterMap f)))):fI g tests te σ0 Q (Its z) H1:=by
 have hz:z.cps.toList.length=z.length:=by simp[Str.length]
 have hz2:z.cps.size=z.length:=rfl
 refine dQB (xs:=z.cps.toList.map λc=>.str ⟨#[c]⟩) (ok:=λ_=>True) (λx=>match x with|.str y=>f (y.cps.toList.headD 0)|_=>none) (λi H _ h=>?_) (λH _=>?_) (λi H x H' _ y=>?_) (λ_ _ _=>trivial) (by rw[Ab,hz];exact hl) (λi x Hc A B hx _ h=>?_) (λD hD=>?_)
 ·rw[Ab,hz]at h;exact h
 ·show z.cps.size<=_
  rw[Ab,hz];exact Aj _
 ·obtain⟨e,c,hc,hx⟩:=y;refine⟨e,?_⟩;rw[Af,Dj,hc,hx];rfl
 ·rw[Af]at hx;cases e:z.cps.toList[i]? with
  |none=>rw[e]at hx;cases hx
  |some c=>rw[e]at hx;cases hx;exact hs i c Hc A B e h
 ·have q:=fin D hD
  rw[Gy];exact q
end
def eQ8{wi:TI}{vals:St->St}{σ:St}(h:wi σ H λJ H1=>fI g tests te (vals σ) Q J H1):bZ1 wi g tests te vals σ H Q:=h
def eZS{σ:St}{Q:Bool->Hp->Prop}(h:Q true H):eJJ σ H Q:=h
def clF(env:Env):List (Str×NameKind)->List (Str×Addr)->List (Str×Addr)
 |[],acc=>acc
 |(n,k)::r,acc=>if k == .free then clF env r ((n,(env.cells.lookup n).getD 0)::acc) else clF env r acc
def cXD(ix:List (Option Nat)):St->St:=λσ=>ix.map λo=>match o with|none=>none|some j=>(σ[j]?).join
def eXW(N XN:List Str)(sn dn:List (Str×NameKind))(ix:List (Option Nat)):Bool:=
 ix.length==N.length&&(sn.all λy=>y.2 != .cell&&(y.2 != .free || dn.lookup y.1==some .cell))&&decide ((sn.map (·.1)).Nodup) &&
 ((List.range N.length).all λi=>match ix[i]? with|some (some j)=>N[i]? == XN[j]? && (match N[i]? with|some x=>sn.lookup x==some .free|none=>false)|_=>true)
def qL:∀(names:List (Str×NameKind)) (acc:List (Str×Addr)),(∀y∈names,y.2=.free->∃c,env.cells.lookup y.1=some c)->
 (forIn names acc (λ(x:Str×NameKind) (cs:List (Str×Addr))=>(match x with
  | (name,kind)=>if (kind == NameKind.free)=true then do
      let a <-cellOf env name
      pure (ForInStep.yield ((name,a)::cs))
   else pure (ForInStep.yield cs):Sem (ForInStep (List (Str×Addr))))))=(pure (clF env names acc):Sem (List (Str×Addr)))
 |[],acc,_=>rfl
 |(n,k)::r,acc,h=>by
  rw[List.forIn_cons];unfold clF;cases e:k==NameKind.free with
  |false=>
   simp only[e,Bool.false_eq_true,if_false,pure_bind];exact qL r acc λy hy=>h y (Ai _ hy)
  |true=>
   obtain⟨c,hc⟩:=h (n,k) List.mem_cons_self (by simpa using e)
   have hc':env.cells.lookup n=some c:=hc
   simp only[e,if_true,cellOf,hc',Option.getD_some,pure_bind];exact qL r _ λy hy=>h y (Ai _ hy)
def qP:∀(names:List (Str×NameKind)) (acc:List (Str×Addr)) {x:Str} {c:Addr},(clF env names acc).lookup x=some c->
 acc.lookup x=some c\/((x,NameKind.free)∈names/\c=(env.cells.lookup x).getD 0)
 |[],acc,x,c,h=>.inl h
 |(n,k)::r,acc,x,c,h=>by
  unfold clF at h;cases e:k==NameKind.free with
  |false=>
   rw[e]at h;rcases qP r acc (by simpa using h) with z|⟨z,q⟩
   ·exact .inl z
   ·exact .inr ⟨Ai _ z,q⟩
  |true=>
   rw[e]at h;have ek:k=.free:=by simpa using e
   rcases qP r _ (by simpa using h) with z|⟨z,q⟩
   ·rw[De]at z;cases ex:x==n with
    |true=>
     rw[ex]at z;have exn:x=n:=by simpa using ex
     subst exn;subst ek;cases z;exact .inr ⟨Ak,rfl⟩
    |false=>rw[ex]at z;exact .inl z
   ·exact .inr ⟨Ai _ z,q⟩
def wI:∀(names:List (Str×NameKind)) (acc:List (Str×Addr)) {x:Str},(acc.lookup x).isSome=true->((clF env names acc).lookup x).isSome=true
 |[],acc,x,h=>h
 |(n,k)::r,acc,x,h=>by
  unfold clF;split
  ·refine wI r _ ?_;rw[De];cases ex:x==n with
   |true=>rfl
   |false=>exact h
  ·exact wI r acc h
def mV:∀(names:List (Str×NameKind)) (acc:List (Str×Addr)) {x:Str},(x,NameKind.free)∈names->((clF env names acc).lookup x).isSome=true
 |(n,k)::r,acc,x,h=>by
  unfold clF;rcases Be.mp h with z|z
  ·cases z;simp only[beq_self_eq_true,if_true];refine wI r _ ?_;rw[De,Ep];rfl
  ·split
   ·exact mV r _ z
   ·exact mV r acc z
def iL:∀ {names:List (Str×NameKind)} {k':NameKind},(names.map λ(n,k)=>if (k==NameKind.free&&env.scope.kind == .function&&env.kindOf n==some .cell) then (n,NameKind.cell) else (n,k)).lookup x=some k'->
 ∃k,(x,k)∈names/\(k'=k\/(k=.free/\k'=.cell))
 |[],_,h=>by simp at h
 |(n,k)::r,k',h=>by
  rw[Aq]at h;dsimp only at h;cases hc:(k==NameKind.free&&env.scope.kind == .function&&env.kindOf n==some .cell) with
  |true=>
   rw[hc,if_pos rfl,De]at h;cases ex:x==n with
   |true=>
    rw[ex]at h;cases h;have:x=n:=by simpa using ex
    subst this;have hk:k=.free:=by
     have:=(Eo _ _).mp hc
     have:=(Eo _ _).mp this.1
     simpa using this.1
    exact⟨k,Ak,.inr ⟨hk,rfl⟩⟩
   |false=>
    rw[ex]at h;obtain⟨k1,h1,h2⟩:=iL h;exact⟨k1,Ai _ h1,h2⟩
  |false=>
   rw[hc,if_neg Ao,De]at h;cases ex:x==n with
   |true=>
    rw[ex]at h;cases h;have:x=n:=by simpa using ex
    subst this;exact⟨k,Ak,.inl rfl⟩
   |false=>
    rw[ex]at h;obtain⟨k1,h1,h2⟩:=iL h;exact⟨k1,Ai _ h1,h2⟩
def pF(hk:env.scope.kind=.function)(hx:env.kindOf x=some .cell):∀ {names:List (Str×NameKind)},names.lookup x=some .free->
 (names.map λ(n,k)=>if (k==NameKind.free&&env.scope.kind == .function&&env.kindOf n==some .cell) then (n,NameKind.cell) else (n,k)).lookup x=some .cell
 |[],h=>by simp at h
 |(n,k)::r,h=>by
  rw[Aq];dsimp only;rw[De]at h;cases ex:x==n with
  |true=>
   rw[ex]at h;cases h;have:x=n:=by simpa using ex
   subst this;rw[hk,hx];simp[List.lookup_cons]
  |false=>
   rw[ex]at h;have ih:=pF hk hx h
   split<;>(rw[De,ex];exact ih)
def eF{N:List Str}(XN:List Str)(sc:Scope)(ix:List (Option Nat))(hN:X.N=XN)(hsc:X.env.scope=sc)(hk:sc.kind=.function)(hcs:∀x,sc.names.lookup x=some .cell->∃c,X.env.cells.lookup x=some c)(c:eXW N XN scope.names sc.names ix=true):ClOk X N scope (clF X.env scope.names []) (cXD ix):=by
 unfold eXW at c;simp only[Bool.and_eq_true,decide_eq_true_eq,List.all_eq_true,beq_iff_eq]at c;obtain⟨⟨⟨c0,c1⟩,c2⟩,c3⟩:=c;have fr:∀y,(y,NameKind.free)∈scope.names->sc.names.lookup y=some .cell:=λy hy=>by
  have z:=(c1 _ hy).2
  simpa using z
 have nocell:∀y,(y,NameKind.cell)∉scope.names:=λy hy=>by
  have z:=(c1 _ hy).1
  simp at z
 refine⟨?_,λx c h=>?_,λx h=>?_,λσ=>?_,λσ i x v h1 h2=>?_⟩
 ·unfold closureFor;simp only[bind_pure];exact qL scope.names [] λy hy hf=>hcs y.1 (fr y.1 (by rw[<-hf];exact hy))
 ·rcases qP _ _ h with z|⟨z,q⟩
  ·simp at z
  ·obtain⟨c',e⟩:=hcs x (fr x z);rw[q,e];rfl
 ·have:∃ k,(x,k)∈scope.names/\k=.free:=by
   rcases h with h|h
   ·obtain⟨k,h1,h2⟩:=iL h;rcases h2 with z|⟨z,_⟩
    ·subst z;exact absurd h1 (nocell x)
    ·exact⟨k,h1,z⟩
   ·obtain⟨k,h1,h2⟩:=iL h;rcases h2 with z|⟨z,z2⟩
    ·exact⟨k,h1,z.symm⟩
    ·exact⟨k,h1,z⟩
  obtain⟨k,h1,rfl⟩:=this;exact Dc.mp (mV scope.names [] h1)
 ·unfold cXD;rw[Ab,c0]
 ·unfold cXD at h2;rw[Af]at h2;cases e:ix[i]? with
  |none=>rw[e]at h2;cases h2
  |some o=>
   rw[e]at h2;cases o with
   |none=>cases h2
   |some j=>
    have hi:i<N.length:=(Ae.mp h1).1
    have z:=c3 i (Cb.mpr hi)
    rw[e,h1]at z;simp only[Bool.and_eq_true,beq_iff_eq]at z;have hv:σ[j]?=some (some v):=by
     have h3:(σ[j]?).join=some v:=by simpa using h2
     cases e2:σ[j]? with
     |none=>rw[e2]at h3;cases h3
     |some o=>rw[e2]at h3;cases o with
      |none=>cases h3
      |some u=>cases h3;rfl
    have hm:(x,NameKind.free)∈scope.names:=Dh z.2
    have hx:=fr x hm
    refine⟨j,by rw[hN];exact z.1.symm,hv,by rw[hsc];exact hx,Dc.mp (mV scope.names [] hm),?_⟩
    exact pF (by rw[hsc];exact hk) (by show X.env.scope.names.lookup x=_;rw[hsc];exact hx) z.2
section
open PySem.AutoSeq1 (wpAny_loadPart')
def cX4{c:Bool}{x y:Sem α}{Q:α->Shared->Prop}(h1:wpAny M A x Q E s)(h2:wpAny M A y Q E s):wpAny M A (if c=true then x else y) Q E s:=by
 cases c
 ·exact h2
 ·exact h1
def bQD(l:Addr)(its:Array Value)(n:Nat)(dc:Option Addr)(sl:Array (Option Value))(k:Int)(t:Tok)(hk:Builtin.SmallTypes.fitsIndex k=true):Meets (Builtin.«enumerate.__new__» ⟨[.type "enumerate",.ref l],[("start",.int k t)]⟩) (λ_ R s=>s.heap.get? l=some ⟨.type "list",dc,.seq its n,sl⟩/\
 R (.ok (.ret (.ref (s.heap.push {cls:=.type "list_iterator",data:=.fields #[.ref l,.int 0 0]}).objs.size)))
  {s with heap:=(s.heap.push {cls:=.type "list_iterator",data:=.fields #[.ref l,.int 0 0]}).push ⟨.type "enumerate",none,.fields #[.none,.bool false,.ref s.heap.objs.size,rawInt k,.none,.none],#[]⟩}):=
 .of_wp λprog w A R s h=>by
  obtain⟨hp,g,d,tk,os⟩:=s;obtain⟨hl,h⟩:=h;have hsub:=sub_enumerate
  have hL:Heap.IsList hp l its:=⟨_,hl,rfl,n,rfl⟩
  have hk':(!Builtin.SmallTypes.fitsIndex k)=false:=by rw[hk];rfl
  wp_walk using wpAny_loadPart' hl
  refine wpAny_stack_any λst=>Al ?_;refine cX4 ?_ ?_ <;>
  ·wp_walk using (wpAny_loadPart' hl),(Ea (s:=⟨hp,g,d,tk,os⟩) hL)
   exact⟨_,rfl,h⟩
def oE{Bn:Builtin}{args:List Value}{kw:List (Str×Value)}{S:PySem.Spec}{Q Q1:Q0}(ft:TypeCalled T newId "object.__init__")(hct:checkTypeCall T ⟨args,kw⟩=pure ())(hcn:checkBuiltinCall newId ⟨.type T::args,kw⟩=pure ())(eN:entryFor table newId=some Bn)(g:Meets (Bn ⟨.type T::args,kw⟩) S)(h:S A.in1 (wants Q1 E) s)(hnx:∀o s1,Q1 o s1->s1.TypeIs o T/\argsOk "object.__init__" ⟨o::args,kw⟩/\∃Si,Meets (Builtin.«object.__init__» ⟨o::args,kw⟩) Si/\Si A.in1 (wants (λr s2=>r=.none/\Q o s2) E) s1):wpAny (model prog w) A (call (.type T) args kw) Q E s:=by
 obtain⟨c,tl,hmro⟩:=ft.mro;have hmade:=ft.made
 have hsub:=ft.sub
 have h1:=ft.notType
 have h2:=ft.canCreate
 refine Gw (codeAny_of_tree (show wpAny _ _ (callAny (.type T) _) _ _ _ from Al ⟨Code.quiet_builtin _ (by decide +kernel),Fp F.entry_type_call ?_⟩))
 rw[Around.under_plain (weight_type_call_type T args kw) (units_type_call_type T args kw)];repeat (any_goals first|assumption|wp_step)
 refine Fc (Ge ft.plain eN (wpAny_of_eq hcn (g prog w A.in1 _ s h))) ?_;rintro(e|fl) s1 hr
 ·exact hr
 ·cases fl with
  |ret o=>
   obtain⟨hT,hok,Si,gi,hsi⟩:=hnx _ _ hr;have hli:=ft.init.lookup
   have hbi:=ft.init.bind o
   repeat (any_goals first|assumption|wp_step)
   refine Fc (Ge ft.init.plain F.entry_object_init (ft.init.check _ _ _ _ _ _ _ _ hT hok (gi prog w A.in1 _ s1 hsi))) ?_;rintro(e|fl2) s2 hr2
   ·exact hr2
   ·cases fl2 with
    |ret r=>
     obtain⟨rfl,hq⟩:=hr2;repeat (any_goals first|assumption|wp_step)
    |_=>exact hr2.elim
  |_=>exact hr.elim
def aZ8{self:Value}{rest:List Value}{kw:List (Str×Value)}(hl:typeLookup (.type T) "__init__"=pure (some (.builtin "object.__init__")))(hm:Bind.madeBy (.type T)=pure (some newId))(hne:(some newId != some "object.__new__")=true):Meets (Builtin.«object.__init__» ⟨self::rest,kw⟩) (λ_ R s=>s.TypeIs self T/\R (.ok (.ret .none)) s):=by
 refine Meets.of_wp λprog w A R s hs=>?_;obtain⟨hT,hq⟩:=hs;cases rest with
 |nil=>
  cases kw with
  |nil=>exact Al ⟨_,rfl,hq⟩
  |cons a r=>
   repeat (any_goals first|assumption|wp_step)
   exact⟨_,rfl,hq⟩
 |cons a r=>
  repeat (any_goals first|assumption|wp_step)
  exact⟨_,rfl,hq⟩
def nU{l:Addr}{its:Array Value}{k:Int}{t:Tok}{Q:Q0}(hk:Builtin.SmallTypes.fitsIndex k=true)(hL:s.heap.IsList l its)(h:∀h',IsEnum h' (s.heap.objs.size+1) s.heap.objs.size k .none->h'.IsListIter s.heap.objs.size l 0->h'.objs.size=s.heap.objs.size+2->(∀b o,s.heap.get? b=some o->h'.get? b=some o)->Q (.ref (s.heap.objs.size+1)) {s with heap:=h'}):wpAny (model prog w) A (call (.type "enumerate") [.ref l] [("start",.int k t)]) Q E s:=by
 obtain⟨⟨c,dc,dt,sl⟩,hl,hc,n,hd⟩:=hL;obtain rfl:c=.type "list" := hc;obtain rfl:dt=.seq its n:=hd;have hz:(s.heap.push {cls:=.type "list_iterator",data:=.fields #[.ref l,.int 0 0]}).objs.size=s.heap.objs.size+1:=Et ..
 refine oE (Q1:=λo s1=>s1.TypeIs o "enumerate"/\Q o s1) F.called_enumerate (by kernel_rfl) (by kernel_rfl) F.entry_enumerate_new (bQD l its n dc sl k t hk) ⟨hl,?_⟩ λo s1 hq=>⟨hq.1,?_,_,aZ8 F.called_enumerate.init.lookup F.called_enumerate.made (by decide),hq.1,rfl,hq.2⟩
 ·show _/\_
  rw[hz];have he:IsEnum ((s.heap.push {cls:=.type "list_iterator",data:=.fields #[.ref l,.int 0 0]}).push ⟨.type "enumerate",none,.fields #[.none,.bool false,.ref s.heap.objs.size,rawInt k,.none,.none],#[]⟩) (s.heap.objs.size+1) s.heap.objs.size k .none:=by
   have q:=Av (s.heap.push {cls:=.type "list_iterator",data:=.fields #[.ref l,.int 0 0]}) (o:=⟨.type "enumerate",none,.fields #[.none,.bool false,.ref s.heap.objs.size,rawInt k,.none,.none],#[]⟩) rfl
   rwa [hz]at q
  exact⟨⟨_,he,rfl⟩,h _ he ⟨_,Ag _ (Av _ rfl),rfl,rfl⟩ (by rw[Et,hz]) λb o x=>Ag _ (Ag _ x)⟩
 ·unfold argsOk;rw[signature?_of (n:=['_','_','t','i','n','i','_','_']) (o := "tcejbo".toList) (by kernel_rfl) F.owner_object]
  kernel_rfl
def gQ{it:Addr}{P:Nat->Value->Prop}{S:Nat->Heap->Prop}(k:Nat)(D:Draws prog w A it fp n P S):Draws prog w A it fp (k+n) (λj v=>P (j-k) v) (λj h=>k<=j/\S (j-k) h) where
 live:=λi h st=>D.live _ h st.2
 frame:=λi h h' st kk=>⟨st.1,D.frame _ h h' st.2 kk⟩
 item:=λi s Q E hi st hQ=>D.item (i-k) s Q E (by have:=st.1;omega) st.2 λx h' tk hP hS sb=>hQ x h' tk hP ⟨by have:=st.1;omega,by rw[show i+1-k=i-k+1 by have:=st.1;omega];exact hS⟩ sb
 done:=λs Q E st hE=>D.done s Q E (by have q:=st.2;rwa [show k+n-k=n by omega]at q) hE
section
variable {σ:St}
def Inv.turnLaid{ch:List Addr}{o:HO}{t':Nat}(I:Inv X pins σ H s)(hch:∀b∈ch,kS X pins H b)(k:∀b u,b∉ch->s.heap.get? b=some u->h'.get? b=some u)(hp:s.heap.objs.size<=a)(new:ObjOk X.prog X.w (upd H a o) h' a o):Inv X pins σ (upd H a o) {s with heap:=h',toks:=t'}:=by
 have hn:=I.hok.fresh hp
 have nch:∀b u,H b=some u->b∉ch:=λb u e z=>by rw[(hch b z).1]at e;cases e
 refine I.step (g':=s.gens) (d':=s.drawn) (ch:=ch) (λb hb=>?_) (λb o _ _ hc e _=>k b o hc e) (λb o _ _ hc e _=>⟨o.slots,k b o hc e⟩) (λb o _ e n=>?_) (λb o hc e=>⟨o,k b o hc e⟩)
  (λb xs e=>by rw[aG (bG e hn)];exact e) (λb o u e=>by rw[aG (bG e hn)];exact e) (λb ps e=>⟨#[],by rw[aG (bG e hn),e];simp⟩) (λm hm=>?_) (λb u e=>?_) I.bare
 ·obtain⟨_,q1,_,q3,q4,q5⟩:=hch b hb;exact⟨q3,q1,q4,q5⟩
 ·rw[aG (Bd (Bc (As e) hp))];exact n
 ·obtain⟨ob,es,ep,ho,r⟩:=hm;exact⟨ob,es,ep,k _ ob (λz=>(hch _ z).2.1 rfl) ho,r⟩
 ·by_cases hb:b=a
  ·subst hb;rw[aD]at e;cases e;exact new
  ·rw[aG hb]at e;refine(I.hok b u e).stay (λc v hc q=>k c v ?_ q) (λc q=>by rw[aG (bG q hn)];exact q) λc xs q=>by rw[aG (bG q hn)];exact q
   rcases hc with z|z
   ·rw[z];exact nch b u e
   ·exact nch c _ z
def Inv.turnAll{ch:List Addr}{t':Nat}(I:Inv X pins σ H s)(hch:∀b∈ch,kS X pins H b)(k:∀b u,b∉ch->s.heap.get? b=some u->h'.get? b=some u):Inv X pins σ H {s with heap:=h',toks:=t'}:=by
 have nch:∀b u,H b=some u->b∉ch:=λb u e z=>by rw[(hch b z).1]at e;cases e
 refine I.step (g':=s.gens) (d':=s.drawn) (ch:=ch) (λb hb=>?_) (λb o _ _ hc e _=>k b o hc e) (λb o _ _ hc e _=>⟨o.slots,k b o hc e⟩) (λb o _ e n=>n) (λb o hc e=>⟨o,k b o hc e⟩)
  (λb xs e=>e) (λb o u e=>e) (λb ps e=>⟨#[],by rw[e];simp⟩) (λm hm=>?_) (λb u e=>?_) I.bare
 ·obtain⟨_,q1,_,q3,q4,q5⟩:=hch b hb;exact⟨q3,q1,q4,q5⟩
 ·obtain⟨ob,es,ep,ho,r⟩:=hm;exact⟨ob,es,ep,k _ ob (λz=>(hch _ z).2.1 rfl) ho,r⟩
 ·refine(I.hok b u e).stay (λc v hc q=>k c v ?_ q) (λc q=>q) λc xs q=>q;rcases hc with z|z
  ·rw[z];exact nch b u e
  ·exact nch c _ z
end
def Ite(K:W.Frag)(a:Addr)(k:Nat):It:=
 ⟨λi H=>∃xs x,SqL K H a xs/\xs[i]?=some x,λi H v H'=>∃p x,H p=none/\v=.ref p/\H'=upd H p (.tup [.int ((k+i:Nat):Int),x])/\∀xs,SqL K H a xs->xs[i]?=some x,λi H=>∃xs,SqL K H a xs/\xs.length=i⟩
def bQ2(a e it:Addr)(k:Nat)(hei:e≠it):Turn P w K (.Tuple elts x1 tp) (Ite K a k) [e,it] e (λi h=>(∃old,IsEnum h e it ((k+i:Nat):Int) old)/\h.IsListIter it a i) where
 mem:=by simp
 obj:=λi h st b hb=>by
  obtain⟨⟨old,he⟩,o,ho,c,d⟩:=st;rcases Be.mp hb with z|z
  ·subst z;exact⟨_,he,λv z=>by cases z⟩
  ·rw[Ap.mp z];exact⟨o,ho,λv z=>by rw[d]at z;cases z⟩
 keep:=λi h h' st kk=>⟨let ⟨old,he⟩:=st.1;⟨old,kk e (by simp) _ he⟩,st.2.at λo q=>kk it (by simp) o q⟩
 item:=by
  intro X hP hw hK hc i pins s σ H E I hf st hg;subst hP hw hK;obtain⟨xs,x,hq,hx⟩:=hg;obtain⟨its,rv,p,hz⟩:=I.list hq;obtain⟨u,hu,ru⟩:=rv.get hx;obtain⟨⟨old,he⟩,hit⟩:=st;have hai:a≠it:=by
   rintro rfl;obtain⟨o,ho,c,_⟩:=hit;obtain⟨o2,ho2,c2,_⟩:=p.isList;rw[ho]at ho2;cases ho2;rw[c]at c2;injection c2 with c2;exact absurd c2 (by decide)
  have hae:a≠e:=by
   rintro rfl;obtain⟨o2,ho2,c2,_⟩:=p.isList;rw[he]at ho2;cases ho2;injection c2 with c2;exact absurd c2 (by decide)
  have hl:=rv.length
  have hil:i<its.length:=(Ae.mp hu).1
  have D:=gQ k (Draws.list (prog:=X.prog) (w:=X.w) (A:=X.A.in1) (show X.A.in1.handled=none from I.ok.hd hc) it a hai its.toArray)
  refine wpAny_pyNext_enum_itemD D (i:=k+i) he ⟨Fj _ _,by rw[Dn];exact⟨hit,p.isList⟩⟩ (by rw[Az];omega) hei (λz=>by
   rcases Be.mp z with z|z
   ·exact hei z
   ·exact hae (Ap.mp z).symm) λy h1 tk hP ho hS hT hsz kk=>?_
  refine⟨_,rfl,wpAny_letOwnedTupleGo_enum ho λh2 he2 hs2=>?_⟩;have ey:y=u:=by
   have hP':its.toArray[k+i-k]?=some y:=hP
   rw[Dn]at hP';have:its[i]?=some y:=by simpa using hP'
   rw[hu]at this;cases this;rfl
  subst ey;have hTe:s.heap.objs.size≠e:=Dz (As he)
  have hTi:s.heap.objs.size≠it:=by obtain⟨o,q,_⟩:=hit;exact Dz (As q)
  have hT2:h2.get? s.heap.objs.size=some {cls:=.type "tuple",data:=.seq #[.int ((k+i:Nat):Int) tk,y]}:=(hs2.2 _ hTe).trans hT
  have hS':h1.IsListIter it a (i+1):=by
   have q:=hS.2.1
   rwa [show k+i+1-k=i+1 by omega]at q
  have I2:Inv X pins σ (upd H s.heap.objs.size (.tup [.int ((k+i:Nat):Int),x])) {s with heap:=h2,toks:=tk+1}:=by
   refine I.turnLaid (ch:=[e,it]) hf (λb u hb q=>(hs2.2 b (λz=>hb (by simp[z]))).trans (kk b u (λz=>hb (by simp[z])) (λz=>hb (by simp[z])) q)) (Nat.le_refl _) ⟨bJ (by show 2<=_;omega),[.int ((k+i:Nat):Int) tk,y],.cons ⟨tk,rfl⟩ (.cons ru .nil),_,hT2,rfl,_,rfl⟩
  refine⟨.ref s.heap.objs.size,_,I2,rfl,⟨_,x,I.hok.fresh (Aj _),rfl,rfl,λys hy=>by rw[I.list_inj hy hq];exact hx⟩,⟨⟨y,he2⟩,hS'.at λo q=>(hs2.2 it hei.symm).trans q⟩,λb hb=>?_⟩
  rcases Be.mp hb with z|z
  ·rw[z,aG hTe.symm];exact(hf e (by simp)).1
  ·rw[List.mem_singleton.mp z,aG hTi.symm];exact(hf it (by simp)).1
 done:=by
  intro X hP hw hK hc i pins s σ H E I hf st hg;subst hP hw hK;obtain⟨xs,hq,hx⟩:=hg;obtain⟨its,rv,p,hz⟩:=I.list hq;obtain⟨⟨old,he⟩,hit⟩:=st;have hl:=rv.length
  have hai:a≠it:=by
   rintro rfl;obtain⟨o,ho,c,_⟩:=hit;obtain⟨o2,ho2,c2,_⟩:=p.isList;rw[ho]at ho2;cases ho2;rw[c]at c2;injection c2 with c2;exact absurd c2 (by decide)
  have D:=gQ k (Draws.list (prog:=X.prog) (w:=X.w) (A:=X.A.in1) (show X.A.in1.handled=none from I.ok.hd hc) it a hai its.toArray)
  refine wpAny_pyNext_enum_endD D he ⟨Fj _ _,by rw[Dn,Az,<-hl,hx];exact⟨hit,p.isList⟩⟩ λh' eb=>⟨rfl,?_⟩
  exact I.turnAll (t':=s.toks) (ch:=[e,it]) hf λb u hb q=>eb b u (λz=>hb (by simp[z])) q
 self:=λ_ _ _ _ _ st h=>let ⟨⟨_,he⟩,_⟩:=st;Hl he h
section
variable {p kp:Pos}
def aXJ(R:Addr->Hp->Prop):List V->Hp->Prop:=λvs H=>match vs with|[.ref j]=>R j H|_=>False
def aJ5{R:Addr->Hp->Prop}(q:aXJ R vs H):∃j,vs=[.ref j]/\R j H:=by
 unfold aXJ at q;split at q
 ·exact⟨_,rfl,q⟩
 ·exact q.elim
def dX1(K:W.Frag)(ta:TA):TI:=λσ H R=>ta σ H (aXJ λa H1=>onL (rdL H1 a) (R (Ite K a 0) H1))
def cQ1(K:W.Frag)(ta tk:TA):TI:=λσ H R=>ta σ H (aXJ λa H1=>tk σ H1 (rK λk H2=>(0<=k/\k<2^62)/\onL (rdL H2 a) (R (Ite K a k.toNat) H2)))
def wG{σ:St}{k:Nat}(I1:Inv X pins σ H1 s1)(he:IsEnum h' (s1.heap.objs.size+1) s1.heap.objs.size ((k:Nat):Int) .none)(hi:h'.IsListIter s1.heap.objs.size a 0)(hz:h'.objs.size=s1.heap.objs.size+2)(hk:∀b o,s1.heap.get? b=some o->h'.get? b=some o)(q:R (Ite X.K a k) H1):wpAny (model X.prog X.w) X.A (pyIter (.ref (s1.heap.objs.size+1))) (PIE X pins σ (.Tuple elts x1 tp) R) E {s1 with heap:=h'}:=by
 refine Hl (s:={s1 with heap:=h'}) he ⟨_,[s1.heap.objs.size+1,s1.heap.objs.size],_,_,H1,rfl,I1.kept (t':=s1.toks) hk,bQ2 a _ _ k (Nat.succ_ne_self _),⟨⟨_,he⟩,hi⟩,λb hb=>?_,q⟩
 have z:s1.heap.objs.size<=b:=by
  rcases Be.mp hb with z|z
  ·rw[z];exact Hv _
  ·rw[Ap.mp z];exact Aj _
 exact I1.fpOk z (I1.hok.fresh z)
def wH(hg:Gl X "enumerate")(hm:X.mg "enumerate"=none)(ha:PA X [l] ta)(hs:starEach [l] X.env=[(false,eval l X.env)]:=by rfl):PI X (.Tuple elts x1 tp) (.Call (.Name "enumerate" p) [l] [] pos) (dX1 X.K ta):=by
 intro pins s σ H R I h;refine Call_ (gC I hg hm boot_enumerate (Dm (thn (ha pos pins s σ H _ I h) λus s1 ⟨vs,H1,I1,r1,q1⟩=>?_) hs rfl));obtain⟨a,rfl,q⟩:=aJ5 q1;obtain⟨u,rfl,ru⟩:=dI r1;cases ru;unfold onL at q;split at q
 ·rename_i xs ex
  obtain⟨its,rv,p,hz⟩:=I1.list (bI ex);exact call_enumerate_list p.isList λh' he hi hz hk=>wG I1 (k:=0) he hi hz hk q
 ·exact q.elim
def oC{args:List (Bool×Sem Value)}{kw:List (Option Str×Sem Value)}{Q:Q0}(h1:args.any (·.1)=false)(h2:kw.any (·.1.isNone)=false)(h:wpAny M A (evalArgs (.type T) true args kw) (λa s1=>wpAny M A (call (.type T) a.pos a.kw) Q E s1) E s):wpAny M A (callWith pos (.type T) [] args kw) Q E s:=by
 unfold callWith;refine Ad (Da (Cg h (λa s1 q1=>Ad (Fg ?_)) λ_ _ x=>x));rw[h1,h2];exact Ad (Al (Ad (Cg q1 (λr s2 hr=>Ad (Da (wpAny_point (Al hr)))) λ_ _ x=>x)))
def cZE{kx:Expr}(hg:Gl X "enumerate")(hm:X.mg "enumerate"=none)(ha:PA X [l] ta)(hk:PK X [⟨some "start",kx,kp⟩] tk)(hs:starEach [l] X.env=[(false,eval l X.env)]:=by rfl)(hks:keywordEach [⟨some "start",kx,kp⟩] X.env=[(some ("start" : Str),eval kx X.env)]:=by rfl):PI X (.Tuple elts x1 tp) (.Call (.Name "enumerate" p) [l] [⟨some "start",kx,kp⟩] pos) (cQ1 X.K ta tk):=by
 intro pins s σ H R I h;have hs2:backTo pos (starEach [l] X.env)=[(false,eval l X.env)]:=by rw[hs];rfl
 refine Du (gC I hg hm boot_enumerate (oC (by rw[hs2];rfl) (by rw[hks];rfl) ?_))
 rw[hs2];refine evalArgs_kwB (by rw[hks];rfl) ?_
 rw[<-hs2];refine thn (ha pos pins s σ H _ I h) λus s1 ⟨vs,H1,I1,r1,q1⟩=>?_;obtain⟨a,rfl,q⟩:=aJ5 q1;refine thn (hk pos pins s1 σ H1 _ I1 q) λws s2 ⟨zs,H2,I2,r2,q2⟩=>?_;obtain⟨k,rfl,⟨k0,k1⟩,q⟩:=qJ q2;obtain⟨u,rfl,ru⟩:=dI r1;cases ru;obtain⟨u,rfl,t,rfl⟩:=dI r2;unfold onL at q;split at q
 ·rename_i xs ex
  obtain⟨its,rv,p,hz⟩:=I2.list (bI ex);have e:(backToKw pos (keywordEach [⟨some "start",kx,kp⟩] X.env)).filterMap (·.1)=(["start"]:List Str):=by rw[hks];rfl
  rw[e];refine nU (by unfold Builtin.SmallTypes.fitsIndex;rw[An (by omega),An (by omega)];rfl) p.isList λh' he hi hz hk=>wG I2 (k:=k.toNat) ?_ hi hz hk q
  rw[show ((k.toNat:Nat):Int)=k by omega]
  exact he
 ·exact q.elim
end
section
variable {k:Nat} {tb:TS} {σ σ0:St}
def aJO(Pv:Nat->St->Hp->Prop)(h0:Pv 0 σ H)(hl:∀i σ H,i<=xs.length->Pv i σ H->rdL H a=some xs)(hs:∀i x σ H p,xs[i]?=some x->Pv i σ H->H p=none->g (.ref p) σ (upd H p (.tup [.int ((k+i:Nat):Int),x])) λσ2 H2=>tb {D with nx:=Pv (i+1),ct:=Pv (i+1),bk:=D.nx} σ2 H2)(hd:∀σ H,Pv xs.length σ H->D.nx σ H):xT (Ite K a k) g tb D σ H:=by
 refine⟨λi m σ H=>m=xs.length-i/\i<=xs.length/\Pv i σ H,⟨xs.length,by simp,Nat.zero_le _,h0⟩,?_⟩
 rintro i m σ H ⟨rfl,hi,p⟩;have hr:=hl i σ H hi p
 by_cases hlt:i<xs.length
 ·refine .inr ⟨⟨xs,xs[i],bI hr,by simp[hlt]⟩,Pv (i+1),λσ' H' p'=>⟨xs.length-(i+1),by omega,rfl,hlt,p'⟩,λx H' y=>?_⟩
  obtain⟨q,z,hq,rfl,rfl,hz⟩:=y;exact hs i z σ H q (hz xs (bI hr)) p hq
 ·have e:i=xs.length:=by omega
  subst e;exact .inl ⟨⟨xs,bI hr,rfl⟩,hd σ H p⟩
def yE(f:Nat->V->Option V)(ha:rdL H1 a=some xs)(hl:xs.length<sizeLine)(hs:∀(i:Nat) x Hc p (A:VK) (B:Hp->Prop),xs[i]?=some x->Same H1 Hc->Hc p=none->(∀Hd,Same (upd Hc p (.tup [.int ((k+i:Nat):Int),x])) Hd->match f i x with|some y=>A y Hd|none=>B Hd)->
 g (.ref p) σ0 (upd Hc p (.tup [.int ((k+i:Nat):Int),x])) λσ2 H2=>Wk σ0 σ2/\tests σ2 H2 λb H3=>if b=true then te σ2 H3 A else B H3)(fin:∀D Hd,H1 D=none->Same H1 Hd->rdL Hd D=some ((List.range xs.length).filterMap λi=>f i (xs.getD i .non))->Q (.ref D) Hd):fI g tests te σ0 Q (Ite K a k) H1:=by
 intro D hD;refine⟨λi m Hc=>m=xs.length-i/\i<=xs.length/\Same H1 Hc/\Hc D=some (.lst ((List.range i).filterMap λi=>f i (xs.getD i .non))),⟨xs.length,by simp,Nat.zero_le _,aF hD _,by rw[aD];rfl⟩,?_⟩
 rintro i m Hc ⟨rfl,hi,sm,hDc⟩;have hr:=aI sm ha
 by_cases hlt:i<xs.length
 ·refine .inr ⟨⟨xs,xs[i],bI hr,by simp[hlt]⟩,λv H' y=>?_⟩
  obtain⟨q,z,hq,rfl,rfl,hz⟩:=y;have hx:=hz xs (bI hr)
  have hg:xs.getD i .non=z:=by rw[Ac,hx];rfl
  refine hs i z Hc q _ _ hx sm hq λHd sd=>?_;have hDd:Hd D=some (.lst ((List.range i).filterMap λi=>f i (xs.getD i .non))):=sd _ _ (aF hq _ _ _ hDc)
  have sH:Same H1 Hd:=sm.trans ((aF hq _).trans sd)
  cases e:f i z with
  |some y=>
   refine⟨_,hDd,?_,xs.length-(i+1),by omega,rfl,hlt,λb o hb=>?_,?_⟩
   ·have:=Dd (λi=>f i (xs.getD i .non)) (List.range i)
    rw[Bq]at this;omega
   ·rw[aG (bG hb hD)];exact sH b o hb
   ·rw[aD,Cv,Bz,Bi (b:=y) (by rw[hg,e]),Cz]
  |none=>
   refine⟨xs.length-(i+1),by omega,rfl,hlt,sH,?_⟩
   rw[hDd,Cv,Bz,Cq (by rw[hg,e]),Cz,Bs]
 ·have e:i=xs.length:=by omega
  subst e;exact .inl ⟨⟨xs,bI hr,rfl⟩,fin D Hc hD sm (aM hDc)⟩
def dQH(h:ta σ H (aXJ λa H1=>onL (rdL H1 a) (R (Ite K a 0) H1))):dX1 K ta σ H R:=h
def cX0(h:ta σ H (aXJ λa H1=>tk σ H1 (rK λk H2=>(0<=k/\k<2^62)/\onL (rdL H2 a) (R (Ite K a k.toNat) H2)))):cQ1 K ta tk σ H R:=h
def eQR{R:Addr->Hp->Prop}(h:R a H):aXJ R [.ref a] H:=h
end
section
variable {t:TG} {u:TGs} {r:List V} {σ:St} {Q:St->Hp->Prop}
def dJE(e:uC H a=some xs)(hn:xs.length=n)(h:u xs σ H Q):dZP K n u (.ref a) σ H Q:=⟨a,xs,rfl,.of (qK e),hn,h⟩
def cJ7(h:t v σ H λσ' H'=>u r σ' H' Q):aJI t u (v::r) σ H Q:=⟨v,r,rfl,h⟩
def dZV(h:Q σ H):dZS [] σ H Q:=⟨rfl,h⟩
end
def fA{K:W.Frag}{i j k:Nat}{y:Str}{px py:Pos}(hK:X.K=K)(hc:X.calm=true)(hN:X.N.Nodup)(hi:X.N[i]?=some x)(hx:Loc X.env.scope x)(hfx:X.fn x=true\/X.env.scope.names.lookup x=some .local)(hj:X.N[j]?=some y)(hy:Loc X.env.scope y)(hfy:X.fn y=true\/X.env.scope.names.lookup y=some .local):PG X (.Tuple [.Name x px,.Name y py] k pos) (dZP K 2 (aJI (lP i) (aJI (lP j) dZS))):=by
 subst hK;exact eXD hc (aQP (bE hN hi hx hfx) (aQP (bE hN hj hy hfy) cJO))
end
structure Fly (B:Heap) (l:List Env) (e:Addr) (cls:Value) (d:Option Addr) (fl:Value) (h:Heap):Prop where
 stays:B.StaysIn h
 new:B.get? e=none
 frames:h.FunFrames B l
 on:∃oe vs T oT ts,h.get? e=some oe/\(oe.cls=cls/\oe.dict=d)/\oe.data=.fields vs/\vs[1]?=some (.ref T)/\B.get? T=none/\T≠e/\h.get? T=some oT/\oT.data=.fields ts/\ts[3]?=some fl/\vs[2]?=some .none
def aQW(o:Obj)(f:Array Value->Array Value):(o.mapFields f).dict=o.dict:=by
 obtain⟨c,d,dt,sl⟩:=o;cases dt<;>rfl
def vY{vs:Array Value}{f:Obj->Obj}(ha:h.get? a=some o)(hd:o.data=.fields vs):∀b u,h.get? b=some u->(∀ws,u.data≠.fields ws)->(h.update a f).get? b=some u:=λb u e n=>by
 rw[Bt _ _ (λz:a=b=>by rw[<-z,ha]at e;cases e;exact n vs hd)]
 exact e
section
variable {B:Heap} {l:List Env} {L e:Addr} {cls:Value} {Q:Unit->Shared->Prop}
def vA{vs:Array Value}{head:Value}{nx:Bool}(hfr:A.frames=some (env::outer))(hl:s.heap.FunFrames B (env::outer))(hf:env.frame=some L)(hB:B.StaysIn s.heap)(hn:B.get? e=none)(he:s.heap.get? e=some oe)(hd:oe.data=.fields vs)(h1:1<vs.size)(c2:vs[2]?=some .none)(hQ:∀h',Fly B (env::outer) e oe.cls oe.dict (rawInt L) h'->s.heap.UpToSlots h'->Q () {s with heap:=h'}):wpAny M A (do let a <-frameOf env;let pl <-entryPlaceOf L nx;let b <-EntryCells.newEntry head a .none (rawInt L) .none pl;setField (.ref e) 1 b) Q E s:=by
 have ne:e∉(env::outer).filterMap (·.frame):=λhm=>by
  obtain⟨_,o,ho,nf⟩:=hl.mem hm;rw[he]at ho;cases ho;exact nf vs hd
 refine Ad (wpAny_frameOf_fun hfr hl hf λg1 so=>Ad (wpAny_entryPlaceOf λpl hpl=>?_));have e1:g1.get? e=some oe:=(so.2.1 e ne).trans he
 have b1:B.StaysIn g1:=λb o q=>(so.2.1 b λhm=>by rw[(hl.mem hm).1]at q;cases q).trans (hB b o q)
 unfold EntryCells.newEntry newFields;refine Ad (Hk ?_ (hpl.sizeOk5 _ _ _ _ _));generalize hts:(([head,.ref L,.none,rawInt L,.none]++(if pl.isEmpty then List.replicate 6 Value.none else pl):List Value)).toArray=ts
 have t3:ts[3]?=some (rawInt L):=by rw[<-hts];simp
 have e2:=Ag (h:=g1) ⟨.type "traceback",none,.fields ts,#[]⟩ e1
 refine wpAny_setField e2 hd h1 (hQ _ ?_ ?_)
 ·have te:g1.objs.size≠e:=Dz (As e1)
  have dm:=Obj.data_mapFields hd (·.setIfInBounds 1 (Value.ref g1.objs.size))
  refine⟨λb o q=>?_,hn,hl.of_keeps λb o q nf=>?_,_,_,g1.objs.size,⟨.type "traceback",none,.fields ts,#[]⟩,ts,Heap.get?_update_self _ e2 (Obj.isFreed_of_fields dm),⟨Obj.cls_mapFields _ _,aQW _ _⟩,dm,by simp[h1],b1.fresh,te,?_,rfl,t3,(Array.getElem?_setIfInBounds_ne (by decide)).trans c2⟩
  ·rw[Bt _ _ (λz:e=b=>by rw[<-z,hn]at q;cases q)]
   exact Ag _ (b1 b o q)
  ·obtain⟨sl,q1⟩:=so.2.2 b o q;exact⟨_,vY e2 hd b _ (Ag _ q1) nf,rfl⟩
  ·rw[Bt _ _ te.symm];exact Av g1 rfl
 ·intro b o q nf;obtain⟨sl,q1⟩:=so.2.2 b o q;exact⟨sl,vY e2 hd b _ (Ag _ q1) nf⟩
def bQJ{vs:Array Value}(hfr:A.frames=some (env::outer))(hl:s.heap.FunFrames B (env::outer))(hf:env.frame=some L)(hB:B.StaysIn s.heap)(hn:B.get? e=none)(he:s.heap.get? e=some oe)(hd:oe.data=.fields vs)(h1:vs[1]?=some .none)(c2:vs[2]?=some .none)(hQ:∀h',Fly B (env::outer) e oe.cls oe.dict (rawInt L) h'->s.heap.UpToSlots h'->Q () {s with heap:=h'}):wpAny M A (noteFrame (.ref e) env) Q E s:=by
 unfold noteFrame;simp only[hf];refine Ad (En he hd h1 ?_);rw[if_neg (show ¬((Value.none != Value.none)=true) by decide)]
 exact vA hfr hl hf hB hn he hd (Do.mp h1).1 c2 hQ
def zF(hfr:A.frames=some (env::outer))(hf:env.frame=some L)(F:Fly B (env::outer) e cls d .none s.heap)(hQ:∀h',Fly B (env::outer) e cls d (rawInt L) h'->s.heap.UpToSlots h'->Q () {s with heap:=h'}):wpAny M A (noteFrame (.ref e) env) Q E s:=by
 obtain⟨hB,hn,hl,oe,vs,T,oT,ts,he,⟨rfl,rfl⟩,hd,h1,hT,hTe,gT,dT,t3,c2⟩:=F;unfold noteFrame;simp only[hf];refine Ad (En he hd h1 ?_);rw[if_pos (show (Value.ref T != Value.none)=true by simp)]
 refine Ad (En gT dT t3 ?_);rw[if_neg (show ¬((Value.none==rawInt L)=true) by simp[rawInt])]
 refine Ad (wpAny_setField gT dT (Do.mp t3).1 ?_);have keep:∀b,b≠T->(s.heap.update T (Obj.mapFields (·.setIfInBounds 3 Value.none))).get? b=s.heap.get? b:=λb hb=>Bt _ _ (Ne.symm hb)
 refine vA (s:={s with heap:=s.heap.update T (Obj.mapFields (·.setIfInBounds 3 Value.none))}) hfr (hl.of_keeps λb o q nf=>⟨o,vY gT dT b o q nf,rfl⟩) hf
  (λb o q=>(keep b λz=>by rw[z,hT]at q;cases q).trans (hB b o q)) hn ((keep e hTe.symm).trans he) hd (Do.mp h1).1 c2 λh' F' up=>hQ h' F' λb o q nf=>up b o (vY gT dT b o q nf) nf
def gE{fl:Value}(F:Fly B l e cls d fl s.heap)(hQ:∀h',Fly B l e cls d .none h'->s.heap.UpToSlots h'->Q () {s with heap:=h'}):wpAny M A (setFlight (.ref e) none) Q E s:=by
 obtain⟨hB,hn,hl,oe,vs,T,oT,ts,he,hc,hd,h1,hT,hTe,gT,dT,t3,c2⟩:=F;have z3:3<ts.size:=(Do.mp t3).1
 unfold setFlight;refine Ad (En he hd h1 ?_);rw[if_pos (show (Value.ref T != Value.none)=true by simp)]
 refine wpAny_setField gT dT z3 (hQ _ ?_ λb o q nf=>⟨o.slots,vY gT dT b o q nf⟩);have dm:=Obj.data_mapFields dT (·.setIfInBounds 3 Value.none)
 refine⟨λb o q=>?_,hn,hl.of_keeps λb o q nf=>⟨o,vY gT dT b o q nf,rfl⟩,oe,vs,T,_,_,?_,hc,hd,h1,hT,hTe,Heap.get?_update_self _ gT (Obj.isFreed_of_fields dm),dm,by simp[z3],c2⟩
 ·rw[Bt _ _ (λz:T=b=>by rw[<-z,hT]at q;cases q)]
  exact hB b o q
 ·rw[Bt _ _ hTe];exact he
def Fly.less{fl:Value}(F:Fly B (env::outer) e cls d fl h):Fly B outer e cls d fl h:=⟨F.stays,F.new,F.frames.2.2,F.on⟩
def aX9{vs:Array Value}(hfr:A.frames=some (env::outer))(hl:s.heap.FunFrames B (env::outer))(hf:env.frame=some L)(hB:B.StaysIn s.heap)(hn:B.get? e=none)(he:s.heap.get? e=some oe)(hd:oe.data=.fields vs)(h1:vs[1]?=some .none)(c2:vs[2]?=some .none)(hQ:∀h',Fly B outer e oe.cls oe.dict .none h'->s.heap.UpToSlots h'->Q () {s with heap:=h'}):wpAny M A (leaving env (.ref e)) Q E s:=by
 unfold leaving;exact Ad (bQJ hfr hl hf hB hn he hd h1 c2 λh1 F1 u1=>gE (s:={s with heap:=h1}) F1 λh2 F2 u2=>hQ h2 F2.less (u1.trans u2))
def bXE(hfr:A.frames=some (env::outer))(hf:env.frame=some L)(F:Fly B (env::outer) e cls d .none s.heap)(hQ:∀h',Fly B outer e cls d .none h'->s.heap.UpToSlots h'->Q () {s with heap:=h'}):wpAny M A (leaving env (.ref e)) Q E s:=by
 unfold leaving;exact Ad (zF hfr hf F λh1 F1 u1=>gE (s:={s with heap:=h1}) F1 λh2 F2 u2=>hQ h2 F2.less (u1.trans u2))
end
structure UnB (fs:List Addr) (H H':Hp) (h B h':Heap):Prop where
 keep:∀b o,h.get? b=some o->H b=none->b∉fs->B.get? b=some o
 slot:∀b o,h.get? b=some o->H b=none->b∈fs->∃sl,h'.get? b=some {o with slots:=sl}
 free:∀b o,h.get? b=some o->H b=none->H' b=none
 there:∀b o,h.get? b=some o->b∉fs->∃o',B.get? b=some o'
 tups:∀b xs,H b=some (.tup xs)->H' b=some (.tup xs)
 frzs:∀b o u,H b=some (.frz o u)->H' b=some (.frz o u)
 tbls:∀b ps,H b=some (.tbl ps)->∃more,H' b=some (.tbl (ps++more))
def CXr(P:Program)(w:World):CXT:=λouter H s E e s'=>
 ∃(ea:Addr) (cls:Value) (d:Option Addr) (B:Heap) (H':Hp),e=.ref ea/\s'.os=s.os/\AllBare s'.gens/\Fly B outer ea cls d .none s'.heap/\HOk P w H' B/\UnB (frs outer) H H' s.heap B s'.heap/\E cls d H'
def HOk.down{B:Heap}(x:HOk P w H h)(k:∀b o u,H b=some u->h.get? b=some o->B.get? b=some o):HOk P w H B:=λa u e=>
 (x a u e).stay (λb o hb q=>by
  rcases hb with z|z
  ·subst z;exact k b o u e q
  ·exact k b o _ z q) (λ_ q=>q) λ_ _ q=>q
def ObjOk.get{o:HO}(x:ObjOk P w H h a o):∃ob,h.get? a=some ob:=by
 cases o with
 |lst xs=>obtain⟨_,_,_,_,e⟩:=x;exact⟨_,e⟩
 |tup xs=>obtain⟨_,_,_,ob,e,_⟩:=x;exact⟨_,e⟩
 |dK kvs=>obtain⟨_,_,_,_,ob,_,_,e,_⟩:=x;exact⟨_,e⟩
 |dT kvs=>obtain⟨_,_,_,_,ob,_,_,e,_⟩:=x;exact⟨_,e⟩
 |set S n=>obtain⟨ob,_,_,_,e,_⟩:=x;exact⟨_,e⟩
 |ins C dx fs=>obtain⟨_,_,_,e,_⟩:=x;exact⟨_,e⟩
 |own y=>exact x
 |xd fs=>obtain⟨_,⟨od,_,_,e,_⟩,_⟩:=x;exact⟨_,e⟩
 |rng lo hi=>obtain⟨_,_,_,e⟩:=x;exact⟨_,e⟩
 |frz ob u=>exact⟨_,x.1⟩
 |tbl ps=>exact⟨_,x⟩
 |met f y=>exact⟨_,x⟩
 |ext φ=>exact x.2.1
def HOk.hole(x:HOk P w H h)(e:h.get? a=none):H a=none:=by
 cases q:H a with
 |none=>rfl
 |some o=>
  obtain⟨ob,z⟩:=(x a o q).get;rw[e]at z;cases z
def hJ{L:Addr}(hf:env.frame=some L)(h1:b≠L)(h2:b∉frs outer):b∉frs (env::outer):=λhm=>by
 obtain⟨e,he,q⟩:=Bv.mp hm;rcases Be.mp he with z|z
 ·subst z;rw[hf]at q;exact h1 (Bf q).symm
 ·exact h2 (Bv.mpr ⟨e,z,q⟩)
section
variable {cd:Value} {s₀:Shared} {H₀:Hp} {E:XK} {σ:St}
def wR{vs:Array Value}(I:Inv (fY (CXr P w) P w K mg base N qual scope f cd A outer s₀ H₀ E) pins σ H s)(he:s.heap.get? ea=some oe)(hd:oe.data=.fields vs)(h1:vs[1]?=some .none)(c2:vs[2]?=some .none)(hn:H ea=none)(h0:s₀.heap.get? ea=none)(q:E oe.cls oe.dict H):(fY (CXr P w) P w K mg base N qual scope f cd A outer s₀ H₀ E).xe (.ref ea) s:=by
 have hfr:=I.ok.frames
 have hst:=I.stack
 have hsf:=I.stkFree
 have hbase:=I.base
 have hlo:∀b o,s₀.heap.get? b=some o->b≠s₀.heap.objs.size:=λb o e=>Bd (As e)
 have nea:∀b o,s₀.heap.get? b=some o->b≠ea:=λb o e z=>by rw[z,h0]at e;cases e
 have hid:∀b o,s.heap.get? b=some o->b≠ea->b∉frs (envOfC qual scope s₀.heap.objs.size f cd::outer)->(W.hideAll s.heap (ea::frs (envOfC qual scope s₀.heap.objs.size f cd::outer))).get? b=some o:=λb o e n1 n2=>
  W.hideAll_get _ e λhm=>(Be.mp hm).elim n1 n2
 refine aX9 (B:=W.hideAll s.heap (ea::frs (envOfC qual scope s₀.heap.objs.size f cd::outer))) hfr (W.funFrames_hide hst λenv he b hb=>Ai _ (Bv.mpr ⟨env,he,hb⟩)) rfl (λb o q=>W.of_hideAll _ q)
  (W.hideAll_none _ Ak) he hd h1 c2 λh2 fl up=>?_
 refine⟨ea,_,_,_,H,rfl,I.os,I.bare,fl,I.hok.down λb o u e g=>hid b o g (λz=>by rw[z,hn]at e;cases e) λhm=>?_,⟨λb o e n hb=>?_,λb o e n hb=>?_,λb o e n=>hbase.free b o e n (by simp[fY]),λb o e hb=>?_,hbase.tups,hbase.frzs,hbase.tbls⟩,q⟩
 ·rw[hsf b hm]at e;cases e
 ·exact hid b o (hbase.keep b o e n hb (by simp[fY])) (nea b o e) (hJ rfl (hlo b o e) hb)
 ·obtain⟨sl,q1⟩:=hbase.slot b o e n hb (by simp[fY])
  obtain⟨_,o2,g2,nf⟩:=I.ok.funs.mem hb;have e2:s₀.heap.get? b=some o2:=g2
  rw[e]at e2;cases e2;obtain⟨sl2,q2⟩:=up b _ q1 nf;exact⟨sl2,q2⟩
 ·obtain⟨o',q1⟩:=hbase.there b o e (by simp[fY])
  exact⟨o',hid b o' q1 (nea b o e) (hJ rfl (hlo b o e) hb)⟩
def kO:iK (CXr P w) (fY (CXr P w) P w K mg base N qual scope f cd A outer s₀ H₀ E) E:=by
 intro pins σ H s e s' I h;obtain⟨ea,cls,d,B,H',rfl,os,bare,fl,hok,un,q⟩:=h;have hbase:=I.base
 have hlo:∀b o,s₀.heap.get? b=some o->b≠s₀.heap.objs.size:=λb o e=>Bd (As e)
 refine bXE I.ok.frames rfl fl λh2 fl2 up=>?_;have ns:∀b o,s₀.heap.get? b=some o->b∉frs outer->b∉frs (envOfC qual scope s₀.heap.objs.size f cd::outer):=λb o e hb=>hJ rfl (hlo b o e) hb
 have ins:∀b,b∈frs outer->b∈frs (envOfC qual scope s₀.heap.objs.size f cd::outer):=λb hb=>by
  obtain⟨e,he,q⟩:=Bv.mp hb;exact Bv.mpr ⟨e,Ai _ he,q⟩
 refine⟨ea,cls,d,B,H',rfl,os.trans I.os,bare,fl2,hok,⟨λb o e n hb=>?_,λb o e n hb=>?_,λb o e n=>?_,λb o e hb=>?_,λb xs e=>un.tups b xs (hbase.tups b xs e),λb o u e=>un.frzs b o u (hbase.frzs b o u e),λb ps e=>?_⟩,q⟩
 ·exact un.keep b o (hbase.keep b o e n hb (by simp[fY])) (hbase.free b o e n (by simp[fY])) (ns b o e hb)
 ·obtain⟨sl,q1⟩:=hbase.slot b o e n hb (by simp[fY])
  obtain⟨sl1,q2⟩:=un.slot b _ q1 (hbase.free b o e n (by simp[fY])) (ins b hb)
  obtain⟨_,o2,g2,nf⟩:=I.ok.funs.mem hb;have e2:s₀.heap.get? b=some o2:=g2
  rw[e]at e2;cases e2;obtain⟨sl2,q3⟩:=up b _ q2 nf;exact⟨sl2,q3⟩
 ·obtain⟨o',q1⟩:=hbase.there b o e (by simp[fY])
  exact un.free b o' q1 (hbase.free b o e n (by simp[fY]))
 ·obtain⟨o',q1⟩:=hbase.there b o e (by simp[fY])
  exact un.there b o' q1 (ns b o e hb)
 ·obtain⟨m1,e1⟩:=hbase.tbls b ps e;obtain⟨m2,e2⟩:=un.tbls b _ e1;exact⟨m1++m2,by rw[e2,Array.append_assoc]⟩
end
def cJ6(X:K.In h)(q:W.excIn K C bmB newId=true):∃bm N nm qn bs hd sn sub ab col dd k0 k1 k2 k3 k5 mN,h.get? C=some (excClassObj nm qn C N bs bm hd sn sub ab col dd k0 k1 k2 k3 k5 newId)/\h.Ns N mN/\mN "__init__"=none/\OwnTail h bmB bm:=by
 unfold W.excIn at q;split at q
 ·rename_i dd c sl ho
  split at q
  ·rename_i C1 bm k0 k1 k2 k3 n k5 hm hs
   obtain⟨⟨⟨⟨⟨q1,q2⟩,q3⟩,q4⟩,q5⟩,q6⟩:((((C1=C/\n=newId)/\c.hasDel=false)/\W.tailIn K bmB bm=true)/\W.nsOkIn K c.ns=true)/\W.nsIn K c.ns "__init__"=some none:=by
    simpa only[Bool.and_eq_true,beq_iff_eq,Bool.not_eq_true']using q
   subst q1 q2;obtain⟨nm,bs,mro,ns,qn,hd,sn,sub,ab,col,del⟩:=c;dsimp only at hm q3 q5 q6;subst hm q3;obtain rfl:sl=#[k0,k1,k2,k3,some (.builtin n),k5]:=by
    obtain⟨l⟩:=sl;have hs':l=_:=hs
    rw[hs']
   exact⟨bm,ns,nm,qn,bs,hd,sn,sub,ab,col,dd,k0,k1,k2,k3,k5,_,X _ _ ho,.of_isNs (W.isNs_of_in X q5),W.nsMap_none_of_in X q5 q6,W.tail_of_in X q4⟩
  ·cases q
 ·cases q
def dZ1(X:Cx)(E:XK):Prop:=∀(pins:List (Addr×Obj)) (σ:St) (H:Hp) (s:Shared) (ea:Addr) (oe:Obj) (vs:Array Value),Inv X pins σ H s->s.heap.get? ea=some oe->oe.data=.fields vs->vs[1]?=some .none->vs[2]?=some .none->H ea=none->X.s₀.heap.get? ea=none->
 E oe.cls oe.dict H->X.xe (.ref ea) s
def nW{cd:Value}{s₀:Shared}{H₀:Hp}{E:XK}:dZ1 (fY (CXr P w) P w K mg base N qual scope f cd A outer s₀ H₀ E) E:=λ_ _ _ _ _ _ _ I he hd h1 c2 hn h0 q=>wR I he hd h1 c2 hn h0 q
section
variable {E:XK} {B initId:String} {np:Pos}
def cQE(C:Addr)(E:XK)(ta:TA):TS:=λ_ σ H=>ta σ H λvs H1=>vs.length<=sizeLine/\E (.ref C) none H1
def rQ(hR:dZ1 X E)(hex:X.ex=[])(hc:X.calm=true)(hg:Gl X x)(hm:X.mg x=some (.ref C))(hx:W.excIn X.K C bmB newId=true)(FB:ExcBaseFacts B newId initId bmB)(ha:PA X (e::es) ta)(hd:(x==("__debug__" : Str))=false:=by decide)(he:starEach (e::es) X.env=(false,eval e X.env)::starEach es X.env:=by rfl)(hpl:(backTo cpos (starEach es X.env)).any (·.1)=false:=by rfl):PS X (.Raise (some (.Call (.Name x np) (e::es) [] cpos)) none pos) (cQE C E ta):=by
 intro pins s σ H D I h;obtain⟨bm,N,nm,q,bs,hdct,sn,sub,ab,col,dd,k0,k1,k2,k3,k5,mN,hC,hN,hni,T⟩:=cJ6 I.ok.mod.kin hx;refine wpAny_Raise_call_subT (C:=C) (N:=N) (bm:=bm) (nm:=nm) (q:=q) (bs:=bs) (hdct:=hdct) (sn:=sn) (sub:=sub) (ab:=ab) (col:=col) (dd:=dd) (k0:=k0) (k1:=k1) (k2:=k2) (k3:=k3) (k5:=k5)
  FB (mN:=mN) (T.hasType FB.hasBase) (I.ok.hd hc) (by rw[he];show (false || (backTo cpos (starEach es X.env)).any (·.1))=false;rw[hpl];rfl) hni (gO I hg hm ⟨rfl,?_⟩ hd)
 have h1:=ha cpos pins s σ H _ I h
 rw[he]at h1 ⊢;refine Gd (thn h1 λus s2 ⟨vs,H2,I2,r,q2⟩=>⟨rfl,?_,I2.bk _ _ hC,hN.keeps I2.bk,T.keeps I2.bk,λh' ea hx=>?_⟩)
 ·show us.length<=sizeLine
  rw[<-r.length];exact q2.1
 ·obtain⟨t,g,_,_⟩:=hx.there;refine hR pins σ H2 {s2 with heap:=h'} ea _ _ (I2.kept (t':=s2.toks) hx.keeps) g rfl rfl rfl (I2.hok.hole hx.new) ?_ q2.2
  cases z:X.s₀.heap.get? ea with
  |none=>rfl
  |some o=>
   obtain⟨o',z'⟩:=I2.base.there ea o z (by rw[hex];simp)
   rw[hx.new]at z';cases z'
end
abbrev Cx.tr(X:Cx)(pins:List (Addr×Obj))(xe:Value->Shared->Prop):Cx:={X with pn:=X.pn++pins,xe:=xe}
abbrev Cx.hnd(X:Cx)(pins:List (Addr×Obj))(ea:Addr):Cx:={X with A:=X.A.mark (some (.ref ea)),calm:=false,pn:=X.pn++pins,xe:=λ_ _=>False}
section
variable {pins':Q2} {σ:St} {xe:Q0}
def Inv.tr(I:Inv X pins σ H s)(xe:Q0):Inv (X.tr pins xe) [] σ H s:=
 ⟨⟨I.ok.mod,I.ok.kind,I.ok.glob,I.ok.blt,I.ok.above,I.ok.inj,I.ok.has,I.ok.cab,I.ok.hd,I.ok.frames,I.ok.stk,I.ok.exf,I.ok.bs,I.ok.bsz,I.ok.noex,I.ok.exfs,I.ok.funs,I.ok.frf⟩,I.os,I.bare,I.base,I.loc,I.cell,I.free,I.freeC,
  λp hp=>I.pin p (by rwa [Bs]at hp),I.hok,I.len⟩
def Inv.untr(I:Inv (X.tr pins xe) pins' σ H s):Inv X pins σ H s:=
 ⟨⟨I.ok.mod,I.ok.kind,I.ok.glob,I.ok.blt,I.ok.above,I.ok.inj,I.ok.has,I.ok.cab,I.ok.hd,I.ok.frames,I.ok.stk,I.ok.exf,I.ok.bs,I.ok.bsz,I.ok.noex,I.ok.exfs,I.ok.funs,I.ok.frf⟩,I.os,I.bare,I.base,I.loc,I.cell,I.free,I.freeC,
  λp hp=>I.pin p (Dv _ hp),I.hok,I.len⟩
def Inv.hnd(I:Inv X pins σ H s)(ea:Addr):Inv (X.hnd pins ea) [] σ H s:=
 ⟨⟨I.ok.mod,I.ok.kind,I.ok.glob,I.ok.blt,I.ok.above,I.ok.inj,I.ok.has,I.ok.cab,(λz=>nomatch z),I.ok.frames,I.ok.stk,I.ok.exf,I.ok.bs,I.ok.bsz,I.ok.noex,I.ok.exfs,I.ok.funs,I.ok.frf⟩,I.os,I.bare,I.base,I.loc,I.cell,I.free,I.freeC,
  λp hp=>I.pin p (by rwa [Bs]at hp),I.hok,I.len⟩
def Inv.unhnd(I:Inv (X.hnd pins ea) pins' σ H s)(ok:X.Ok):Inv X pins σ H s:=
 ⟨ok,I.os,I.bare,I.base,I.loc,I.cell,I.free,I.freeC,λp hp=>I.pin p (Dv _ hp),I.hok,I.len⟩
structure Fre (X:Cx) (pins:List (Addr×Obj)) (a:Addr):Prop where
 s0:X.s₀.heap.get? a=none
 loc:a≠X.env.locals
 cell:∀x c,X.env.cells.lookup x=some c->c≠a
 pin:∀p∈X.pn++pins,p.1≠a
def Inv.adopt{a:Addr}{o:HO}(I:Inv X pins σ H s)(f:Fre X pins a)(hn:H a=none)(new:ObjOk X.prog X.w (upd H a o) s.heap a o):Inv X pins σ (upd H a o) s:=by
 have ne:∀b u,H b=some u->b≠a:=λb u e=>bG e hn
 refine⟨I.ok,I.os,I.bare,⟨I.base.keep,I.base.slot,λb u e n hx=>?_,I.base.there,λb xs e=>?_,λb u v e=>?_,λb ps e=>?_⟩,I.loc,I.cell,by rw[aG f.loc.symm];exact I.free,λx c e=>by rw[aG (f.cell x c e)];exact I.freeC x c e,λp hp=>?_,λb u e=>?_,I.len⟩
 ·rw[aG (λz=>by rw[z,f.s0]at e;cases e)]
  exact I.base.free b u e n hx
 ·have q:=I.base.tups b xs e
  rw[aG (ne b _ q)];exact q
 ·have q:=I.base.frzs b u v e
  rw[aG (ne b _ q)];exact q
 ·obtain⟨m,q⟩:=I.base.tbls b ps e;exact⟨m,by rw[aG (ne b _ q)];exact q⟩
 ·obtain⟨h1,h2,h3⟩:=I.pin p hp;exact⟨h1,by rw[aG (f.pin p hp)];exact h2,h3⟩
 ·by_cases hb:b=a
  ·subst hb;rw[aD]at e;cases e;exact new
  ·rw[aG hb]at e;exact(I.hok b u e).stay (λc v _ q=>q) (λc q=>by rw[aG (ne c _ q)];exact q) λc xs q=>by rw[aG (ne c _ q)];exact q
end
def eJ8(ea:Addr)(cls:Value)(d:Option Addr):HO:=.ext λh=>∃oe vs,h.get? ea=some oe/\oe.cls=cls/\oe.dict=d/\oe.data=.fields vs
def XS(X:Cx)(pins:List (Addr×Obj))(R:Value->Option Addr->St->Hp->Prop):Value->Shared->Prop:=λe s1=>
 ∃ea cls d B σ1 H1,e=.ref ea/\Fly B X.stack ea cls d .none s1.heap/\Fre X pins ea/\H1 ea=none/\(∀h2,B.StaysIn h2->s1.heap.UpToSlots h2->Inv X pins σ1 H1 {s1 with heap:=h2})/\R cls d σ1 H1
def aJ1(CX:CXT)(X:Cx)(Es:St->XK):Prop:=∀(pins:List (Addr×Obj)) (σ:St) (H:Hp) (s:Shared) (e:Value) (s':Shared),Inv X pins σ H s->CX X.stack H s (Es σ) e s'->X.xe e s'
def aX1{R:Value->Option Addr->St->Hp->Prop}(hex:X.ex=[]):aJ1 (CXr X.prog X.w) (X.tr pins (XS X pins R)) (λσ cls d H1=>R cls d σ H1):=by
 intro pins' σ H s e s1 I' h;obtain⟨ea,cls,d,B,H1,rfl,os,bare,F,hok,un,q⟩:=h;have I:Inv X pins σ H s:=I'.untr
 have F:Fly B X.stack ea cls d .none s1.heap:=F
 have un:UnB (frs X.stack) H H1 s.heap B s1.heap:=un
 have nfs:ea∉frs X.stack:=λhm=>by
  obtain⟨_,o,g,nf⟩:=F.frames.mem hm;obtain⟨oe,vs,T,oT,ts,he,hc,hd,_⟩:=F.on;rw[g]at he;cases he;exact nf vs hd
 have ne:∀b o,s.heap.get? b=some o->b≠ea:=λb o g z=>by
  subst z;obtain⟨o',g'⟩:=un.there b o g nfs;rw[F.new]at g';cases g'
 refine⟨ea,cls,d,B,σ,H1,rfl,F,⟨?_,?_,λx c z=>?_,λp hp=>?_⟩,hok.hole F.new,λh2 st up=>?_,q⟩
 ·cases z:X.s₀.heap.get? ea with
  |none=>rfl
  |some o=>
   obtain⟨o',z'⟩:=I.base.there ea o z (by rw[hex];simp)
   exact absurd rfl (ne ea o' z')
 ·obtain⟨m,⟨o,_,_,g,_⟩,_⟩:=I.loc;exact(ne _ o g).symm
 ·obtain⟨v,o,g,_⟩:=I.cell x c z;exact ne c o g
 ·exact ne p.1 p.2 (I.pin p hp).1
 ·have slot:∀ b o,s.heap.get? b=some o->b∈frs X.stack->∃ sl,h2.get? b=some { o with slots:=sl }:=λb o g hb=>by
   obtain⟨sl,g1⟩:=un.slot b o g (I.stkFree b hb) hb;obtain⟨_,o2,g2,nf⟩:=I.stack.mem hb;rw[g]at g2;cases g2;obtain⟨sl2,g3⟩:=up b _ g1 nf;exact⟨sl2,g3⟩
  refine I.call' (s':={s1 with heap:=h2}) (ch:=[]) os ⟨λb o g n hb _=>st b o (un.keep b o g n hb),λb o g n hb _=>slot b o g hb,λb o g n _=>un.free b o g n,λb o g _=>?_,un.tups,un.frzs,un.tbls⟩ (hok.kept λb o g=>st b o g) bare λb hb=>absurd hb (by simp)
  by_cases hb:b∈frs X.stack
  ·obtain⟨sl,g1⟩:=slot b o g hb;exact⟨_,g1⟩
  ·obtain⟨o',g1⟩:=un.there b o g hb;exact⟨o',st b o' g1⟩
def SP.untr{xe:Q0}{f:Flow}{s':Shared}(h:SP (X.tr pins xe) [] D f s'):SP X pins D f s':=by
 cases f with
 |next=>obtain⟨σ',H',I,q⟩:=h;exact⟨σ',H',I.untr,q⟩
 |brk=>obtain⟨σ',H',I,q⟩:=h;exact⟨σ',H',I.untr,q⟩
 |cont=>obtain⟨σ',H',I,q⟩:=h;exact⟨σ',H',I.untr,q⟩
 |ret u=>obtain⟨v,σ',H',I,r,q⟩:=h;exact⟨v,σ',H',I.untr,r,q⟩
def SP.unhnd{f:Flow}{s':Shared}(ok:X.Ok)(h:SP (X.hnd pins ea) [] D f s'):SP X pins D f s':=by
 cases f with
 |next=>obtain⟨σ',H',I,q⟩:=h;exact⟨σ',H',I.unhnd ok,q⟩
 |brk=>obtain⟨σ',H',I,q⟩:=h;exact⟨σ',H',I.unhnd ok,q⟩
 |cont=>obtain⟨σ',H',I,q⟩:=h;exact⟨σ',H',I.unhnd ok,q⟩
 |ret u=>obtain⟨v,σ',H',I,r,q⟩:=h;exact⟨v,σ',H',I.unhnd ok,r,q⟩
section
open PySem.W
structure ExK (K:Frag) (D:Addr):Prop where
 cls:hasDictIn K D=true
 ga:findIn K (.ref D) "__getattribute__"=some (some (.builtin "BaseException.__getattribute__"))
 gh:findIn K (.ref D) "__getattr__"=some none
 ca:findIn K (.ref D) "__class__"=some (some (.builtin "object.__class__"))
 cg:specialIn K (.builtin "object.__class__") "__get__"=some (some (.builtin "getset_descriptor.__get__"))
 ct:takesIn K (.builtin "object.__class__")=some true
 mo:mroIn K D (.type "object")=some true
 mb:W.subIn K (.ref D) (.type "BaseException")=some true
section
variable {D:Addr}
def cJJ{E:XK}{D:Ends}{σ:St}(h:ta σ H λvs H1=>vs.length<=sizeLine/\E (.ref C) none H1):cQE C E ta D σ H:=h
end
def bXI(P:Program)(w:World)(K:W.Frag)(mg:Str->Option Value)(base:Heap)(k:Nat)(x:Str)(ps:List Str)(sp:Sp):Prop:=
 ∃(f:Addr) (fd:FuncData),FnOk P w K mg base (CXr P w) k f fd ps sp/\mg x=some (.ref f)/\W.keepIn K (.ref f)=true/\Binds K fd ps []
section
variable {k:Nat} {ps:List Str} {p:Pos} {E:XK}
def nF(c:bXI X.prog X.w X.K X.mg X.base k x ps sp)(hx:iK (CXr X.prog X.w) X E)(hr:Room k' X.A)(hk:k<=k')(hg:Gl X x)(ha:PA X (e::es) t)(hdb:(x==("__debug__" : Str))=false:=by decide)(he:starEach (e::es) X.env=(false,eval e X.env)::starEach es X.env:=by rfl)(hpl:(backTo pos (starEach es X.env)).any (·.1)=false:=by rfl):PE X (.Call (.Name x p) (e::es) [] pos) (aZ7 sp [] E t):=by
 obtain⟨f,fd,F,hm,hk',hb⟩:=c;exact aJS F (hr.mono hk) hg hm hk' hb .nil hx ha hdb he hpl
def bQB:iK (CXr X.prog X.w) X E0:=λ_ _ _ _ _ _ _ h=>by
 obtain⟨_,_,_,_,_,_,_,_,_,_,_,z⟩:=h;exact z.elim
def PS.nox{t:TS}(h:PS X.nox st t):PS X st t:=λpins s σ H D I hw=>
 Cg (h pins s σ H D (I.wish _) hw) (λ_ _ q=>q.unwish) λ_ _ z=>False.elim z
end
def Fun.okX{ps:List Str}{k:Nat}(F:Fun K x qual st f fd)(S:FnScope N ps (aJ st))(len:∀vs H Q E,sp vs H Q E->vs.length=ps.length)(hbody:∀(cdv:Value) (A:Around) (outer:List Env) (s:Shared) (H:Hp) (vs:List V) (Q:VK) (E:XK),Room k (A.deeper (envOfC qual (aJ st) s.heap.objs.size f cdv))->sp vs H Q E->
 ∃t,PSs (fY (CXr P w) P w K mg base N qual (aJ st) f cdv A outer s H E) (eW st) t/\t {nx:=λ_ H'=>Q .non H',rt:=Q} (lI N vs) H):FnOk P w K mg base (CXr P w) (k+1) f fd ps sp:=by
 obtain⟨oc,od,kV,doc,pm,an,cdv,ct,osl,rfl,lk,hcd⟩:=F.ex;exact bZQ lk hcd S len λA outer s H vs Q E hr hsp=>hbody cdv A outer s H vs Q E hr hsp
end
structure ZipOf (z TI TO i1 i2:Addr):Prop where
 d1:TI≠z
 d2:TO≠z
 d3:i1≠z
 d4:i2≠z
 d5:TI≠TO
 d6:TI≠i1
 d7:TI≠i2
 d8:TO≠i1
 d9:TO≠i2
 d0:i1≠i2
def jL{u:Obj}(ha:h.get? a=some o)(hb:h.get? b=some u){S:String}(hs:o.cls=.type S)(ht:u.cls=.type T)(n:S≠T):a≠b:=λz=>by
 subst z;rw[ha]at hb;cases hb;rw[hs]at ht;injection ht with ht;exact n ht
def bJB:bootBuiltins "zip"=some (.type "zip"):=by decide +kernel
def cZ8:V->List V->Hp->VK->Prop:=λx vs H Q=>match x,vs with
 |.ref l,[.ref b]=>(match iC H l,iC H b with|some xs,some zs=>xs.length+zs.length<=sizeLine/\Q .non (upd H l (.lst (xs++zs)))|_,_=>False)
 |_,_=>False
def cQW:MtR X "list.extend" cZ8:=MtR.imp (r:=aJP) bXS λ_ _ _ _ q=>by
 unfold cZ8 at q;split at q
 ·split at q
  ·exact⟨_,_,_,_,rfl,rfl,kF (by assumption),kF (by assumption),q.1,q.2⟩
  ·exact q.elim
 ·exact q.elim
section
variable {l:Addr} {zs:List V}
def eZX(e:iC H l=some xs)(e':iC H b=some zs)(c:xs.length+zs.length<=sizeLine)(h:Q .non (upd H l (.lst (xs++zs)))):cZ8 (.ref l) [.ref b] H Q:=by unfold cZ8;simp only[e,e'];exact⟨c,h⟩
end
def aJA{p:Addr}(h:H p=some (.lst xs)):tyN (.ref p) H=some "list" := by unfold tyN;simp only[h]
def none_of{r:Addr}(s:Same H H')(h:H' r=none):H r=none:=by
 cases e:H r with
 |none=>rfl
 |some o=>rw[s _ _ e]at h;cases h
def bL{p:Addr}{o:HO}(hp:H p=none)(s:Same H H'):Same H (upd H' p o):=λb u q=>by rw[aG (bG q hp)];exact s b u q
section
variable {σ0:St}
def kD{J:It}{n:Nat}(R:Addr->Nat->List V->Hp->Prop)(hl:n<sizeLine)(h0:∀D,H1 D=none->R D 0 [] (upd H1 D (.lst [])))(hgo:∀D i ys Hc,H1 D=none->R D i ys Hc->i<n->J.go i Hc)(hst:∀D ys Hc,H1 D=none->R D n ys Hc->J.stop n Hc)(hs:∀D i ys Hc x H' (A:VK) (B:Hp->Prop),H1 D=none->i<n->R D i ys Hc->Hc D=some (.lst ys)->J.yld i Hc x H'->
 (∀y H4,H4 D=some (.lst ys)->R D (i+1) (ys++[y]) (upd H4 D (.lst (ys++[y])))->A y H4)->(∀H3,H3 D=some (.lst ys)->R D (i+1) ys H3->B H3)->
 g x σ0 H' λσ2 H2=>Wk σ0 σ2/\tests σ2 H2 λb H3=>if b=true then te σ2 H3 A else B H3)(fin:∀D ys Hc,H1 D=none->R D n ys Hc->Hc D=some (.lst ys)->ys.length<=n->Q (.ref D) Hc):fI g tests te σ0 Q J H1:=by
 intro D hD;refine⟨λi m Hc=>m=n-i/\i<=n/\∃ys,ys.length<=i/\Hc D=some (.lst ys)/\R D i ys Hc,⟨n,by simp,Nat.zero_le _,[],Nat.le_refl _,aD,h0 D hD⟩,?_⟩
 rintro i m Hc ⟨rfl,hi,ys,hy,hDc,r⟩;by_cases hlt:i<n
 ·refine .inr ⟨hgo D i ys Hc hD r hlt,λx H' y=>hs D i ys Hc x H' _ _ hD hlt r hDc y (λz H4 e r4=>?_) (λH3 e r3=>?_)⟩
  ·exact⟨ys,e,by omega,n-(i+1),by omega,rfl,hlt,ys++[z],by rw[Ah];show ys.length+1<=_;omega,aD,r4⟩
  ·exact⟨n-(i+1),by omega,rfl,hlt,ys,by omega,e,r3⟩
 ·have e:i=n:=by omega
  subst e;exact .inl ⟨hst D ys Hc hD r,fin D ys Hc hD r hDc hy⟩
def Tups(H1 Hc:Hp)(ps:List Addr)(fs:List (List V)):Prop:=ps.length=fs.length/\∀(j:Nat) p t,ps[j]?=some p->fs[j]?=some t->H1 p=none/\Hc p=some (.tup t)
def Tups.keep{Hd:Hp}(t:Tups H1 Hc ps fs)(s:Same Hc Hd):Tups H1 Hd ps fs:=⟨t.1,λj p u hp hu=>⟨(t.2 j p u hp hu).1,s _ _ (t.2 j p u hp hu).2⟩⟩
def Tups.older{H0:Hp}(t:Tups H1 Hc ps fs)(s:Same H0 H1):Tups H0 Hc ps fs:=⟨t.1,λj p u hp hu=>⟨none_of s (t.2 j p u hp hu).1,(t.2 j p u hp hu).2⟩⟩
def Tups.put{D:Addr}{zs:List V}(t:Tups H1 Hc ps fs)(h:Hc D=some (.lst ys)):Tups H1 (upd Hc D (.lst zs)) ps fs:=⟨t.1,λj p u hp hu=>by
 obtain⟨a,b⟩:=t.2 j p u hp hu;refine⟨a,?_⟩;rw[aG λz=>by rw[z,h]at b;cases b]
 exact b⟩
def Tups.app{qs:List Addr}{gs:List (List V)}(t:Tups H1 Hc ps fs)(u:Tups H1 Hc qs gs):Tups H1 Hc (ps++qs) (fs++gs):=by
 refine⟨by rw[Ah,Ah,t.1,u.1],λj p v hp hv=>?_⟩
 by_cases h:j<ps.length
 ·rw[Ax h]at hp;rw[Ax (by rw[<-t.1];exact h)]at hv
  exact t.2 j p v hp hv
 ·rw[Ba (by omega)]at hp
  rw[Ba (by rw[<-t.1];omega),<-t.1]at hv
  exact u.2 _ p v hp hv
def Tups.nil:Tups H1 Hc [] []:=⟨rfl,λj p u hp=>by cases hp⟩
def Tups.one{p:Addr}{t:List V}(a:H1 p=none)(b:Hc p=some (.tup t)):Tups H1 Hc [p] [t]:=⟨rfl,λj q u hq hu=>by
 cases j with
 |zero=>cases hq;cases hu;exact⟨a,b⟩
 |succ j=>cases hq⟩
def bQU(f:Nat->List V)(hl:n<sizeLine)(hs:∀(i:Nat) Hc (A:VK) (B:Hp->Prop),i<n->Same H1 Hc->(∀p Hd,Hc p=none->Same Hc Hd->Hd p=some (.tup (f i))->A (.ref p) Hd)->
 g (.int (lo+i)) σ0 Hc λσ2 H2=>Wk σ0 σ2/\tests σ2 H2 λb H3=>if b=true then te σ2 H3 A else B H3)(fin:∀D Hd ps,H1 D=none->Same H1 Hd->Hd D=some (.lst (ps.map V.ref))->ps.length=n->Tups H1 Hd ps ((List.range n).map f)->Q (.ref D) Hd):fI g tests te σ0 Q (Itr lo n) H1:=by
 refine kD (n:=n) (λD i ys Hc=>Same H1 Hc/\∃ps,ys=ps.map V.ref/\ps.length=i/\Tups H1 Hc ps ((List.range i).map f)) hl (λD hD=>⟨aF hD _,[],rfl,rfl,.nil⟩) (λD i ys Hc _ r h=>h) (λD ys Hc _ r=>Aj n) ?_ ?_
 ·rintro D i ys Hc x H' A B hD hi ⟨sm,ps,rfl,hn,tp⟩ hDc ⟨rfl,rfl⟩ ha hb;refine hs i H' A B hi sm (λp Hd hp sd hd=>?_);refine ha _ _ (sd _ _ hDc) ⟨bL hD (sm.trans sd),ps++[p],by rw[Ar];rfl,by rw[Ah,hn];rfl,?_⟩
  rw[Cv,Ar];exact((tp.keep sd).app (.one (none_of sm hp) hd)).put (sd _ _ hDc)
 ·rintro D ys Hc hD ⟨sm,ps,rfl,hn,tp⟩ hDc _;exact fin D Hc ps hD sm hDc hn tp
end
def cQV(lo c:Int)(n:Nat):It:=⟨λi _=>i<n,λi H x H'=>H'=H/\x=.int (lo+(i:Int)*c),λi _=>n<=i⟩
def yG{K:PySem.W.Frag}(it:Addr)(lo c:Int)(n:Nat):Turn P w K tg (cQV lo c n) [it] it (λi h=>IsRangeIter h it (lo+(i:Nat)*c) ((n:Int)-(i:Nat)) c) where
 mem:=by simp
 obj:=λi h st b hb=>by
  have e:b=it:=by simpa using hb
  subst e;exact⟨_,st,λv z=>by
   have z':Data.fields _=Data.cell v:=z
   cases z'⟩
 keep:=λi h h' st k=>k it (by simp) _ st
 item:=by
  intro X hP hw hK hc i pins s σ H E I hf st hg;subst hP hw hK;obtain⟨f0,f1,f2,f3,f4,f5⟩:=hf it (by simp)
  have W:=Walks.range (prog:=X.prog) (w:=X.w) (I.ok.hd hc) it lo c n
  refine W.item i s _ _ hg st λv h' tk hv st' kk=>?_;obtain⟨t,rfl⟩:=hv;have I1:Inv X pins σ H {s with heap:=h',toks:=tk}:=I.turned (λb o hb e=>kk b o (by simpa using hb) e) f0 f1 f3 f4 f5
  exact⟨_,rfl,rH (s:={s with heap:=h',toks:=tk}) (n := "range_iterator") st' rfl rfl (by decide) ⟨.int (lo+i*c),H,I1,⟨t,rfl⟩,⟨rfl,rfl⟩,st',λb hb=>(hf b hb).1⟩⟩
 done:=by
  intro X hP hw hK hc i pins s σ H E I hf st hg;subst hP hw hK;obtain⟨f0,f1,f2,f3,f4,f5⟩:=hf it (by simp)
  exact wpAny_pyNext_range_end (I.ok.hd hc) st (by have:n<=i:=hg;omega) λh' eb=>⟨rfl,I.turned (t':=s.toks) (λb o hb e=>eb b o hb e) f0 f1 f3 f4 f5⟩
 self:=λ_ _ _ _ _ st h=>wpAny_pyIter_rangeiter st h
def bJM(R:Int->Int->Int->Hp->Prop):List V->Hp->Prop:=λvs H=>match vs with|[.int i,.int j,.int k]=>R i j k H|_=>False
def dQW{R:Int->Int->Int->Hp->Prop}(q:bJM R vs H):∃i j k,vs=[.int i,.int j,.int k]/\R i j k H:=by
 unfold bJM at q;split at q
 ·exact⟨_,_,_,rfl,q⟩
 ·exact q.elim
section
variable {st:Int} {tb:TS} {σ:St} {j k:Int}
def vT(Pv:Nat->St->Hp->Prop)(h0:Pv 0 σ H)(hs:∀i σ H,i<n->Pv i σ H->g (.int (lo+(i:Int)*st)) σ H λσ2 H2=>tb {D with nx:=Pv (i+1),ct:=Pv (i+1),bk:=D.nx} σ2 H2)(hd:∀σ H,Pv n σ H->D.nx σ H):xT (cQV lo st n) g tb D σ H:=by
 refine⟨λi m σ H=>m=n-i/\i<=n/\Pv i σ H,⟨n,by simp,Nat.zero_le _,h0⟩,?_⟩
 rintro i m σ H ⟨rfl,hi,p⟩;by_cases hlt:i<n
 ·refine .inr ⟨hlt,Pv (i+1),λσ' H' p'=>⟨n-(i+1),by omega,rfl,hlt,p'⟩,λx H' y=>?_⟩
  obtain⟨e,y⟩:=y;subst e y;exact hs i σ _ hlt p
 ·have e:i=n:=by omega
  subst e;exact .inl ⟨Aj _,hd σ H p⟩
def eQJ{R:Int->Int->Int->Hp->Prop}(h:R i j k H):bJM R [.int i,.int j,.int k] H:=h
end
def Lsts(H1 Hc:Hp)(ps:List Addr)(fs:List (List V)):Prop:=ps.length=fs.length/\∀(j:Nat) p t,ps[j]?=some p->fs[j]?=some t->H1 p=none/\Hc p=some (.lst t)
def Lsts.keep{Hd:Hp}(t:Lsts H1 Hc ps fs)(s:Same Hc Hd):Lsts H1 Hd ps fs:=⟨t.1,λj p u hp hu=>⟨(t.2 j p u hp hu).1,s _ _ (t.2 j p u hp hu).2⟩⟩
def Lsts.older{H0:Hp}(t:Lsts H1 Hc ps fs)(s:Same H0 H1):Lsts H0 Hc ps fs:=⟨t.1,λj p u hp hu=>⟨none_of s (t.2 j p u hp hu).1,(t.2 j p u hp hu).2⟩⟩
def Lsts.put{D:Addr}{o:HO}(t:Lsts H1 Hc ps fs)(h:∀p∈ps,p≠D):Lsts H1 (upd Hc D o) ps fs:=⟨t.1,λj p u hp hu=>by
 obtain⟨a,b⟩:=t.2 j p u hp hu;refine⟨a,?_⟩;rw[aG (h p (Am hp))];exact b⟩
def Lsts.snoc{H1 Hc:Hp}{ps:List Addr}{fs:List (List V)}{q:Addr}{g:List V}(t:Lsts H1 Hc ps fs)(a:H1 q=none)(b:Hc q=some (.lst g)):Lsts H1 Hc (ps++[q]) (fs++[g]):=by
 refine⟨by rw[Ah,Ah,t.1];rfl,λj p v hp hv=>?_⟩
 by_cases h:j<ps.length
 ·rw[Ax h]at hp;rw[Ax (by rw[<-t.1];exact h)]at hv
  exact t.2 j p v hp hv
 ·rw[Ba (by omega)]at hp
  rw[Ba (by rw[<-t.1];omega),<-t.1]at hv
  cases e:j-ps.length with
  |zero=>rw[e]at hp hv;cases hp;cases hv;exact⟨a,b⟩
  |succ n=>rw[e]at hp;cases hp
def Lsts.nil:Lsts H1 Hc [] []:=⟨rfl,λj p u hp=>by cases hp⟩
def kB(ns:List Int):∀n,n<=ns.length->preSum (λi=>ns.getD i 0) n=(ns.take n).sum
 |0,_=>by simp[preSum]
 |n+1,h=>by
  have ih:=kB ns n (by omega)
  have e:ns.take (n+1)=ns.take n++[ns.getD n 0]:=by rw[Bh,Ac,Aa (by omega)];rfl
  rw[e,List.sum_append,<-ih];simp[preSum]
def aJ8{ns:List Int}(h:∀n∈ns,0<=n/\n<=1000000):0<=ns.sum/\ns.sum<=1000000*(ns.length:Int):=by
 induction ns with
 |nil=>simp
 |cons n r ih=>
  obtain⟨a,b⟩:=h n (Ak ..);obtain⟨c,d⟩:=ih λm hm=>h m (Ai _ hm);rw[Dt,Au];constructor
  ·omega
  ·push_cast;omega
def dJH:List V->Hp->VK->Prop:=λxs H Q=>∃(p:Addr) (ns:List Int),xs=[.ref p]/\rdL H p=some (ns.map V.int)/\(∀n∈ns,0<=n/\n<=1000000)/\ns.length<=100000/\Q (.int ns.sum) H
def dXE(hc:X.calm=true):CallR X (.builtin "sum") dJH:=by
 intro pins s σ H xs us Q I r h;obtain⟨p,ns,rfl,hp,hb,hn,q⟩:=h;obtain⟨u,rfl,ru⟩:=dI r;cases ru;obtain⟨its,rv,pl,hz⟩:=I.list (bI hp);have hl:=pl.isList
 have hlt:p<s.heap.objs.size:=by obtain⟨_,e,_⟩:=hl;exact As e
 have hle:its.length=ns.length:=by have:=rv.length;rw[Ab]at this;omega
 refine call_sum_walk (Ea hl ?_);refine⟨s.heap.objs.size,[s.heap.objs.size,p],[s.heap.objs.size],its.toArray.size,_,_,λi=>ns.getD i 0,rfl,Walks.list (A:=X.A.in1) (I.ok.hd hc) _ p (Bd hlt) its.toArray,
  ⟨⟨_,Av _ rfl,rfl,rfl⟩,hl.push _⟩,λb hb=>?_,λi v hv=>?_,λj hj=>?_,λh' tk t' hk=>?_⟩
 ·rw[show ({s with heap:=_}:Shared).heap=_ from rfl]
  simp only[List.mem_cons,List.not_mem_nil,or_false]at hb;rcases hb with e|e
  ·rw[e];simp[Heap.push]
  ·rw[e];exact Nat.lt_of_lt_of_le hlt (by simp[Heap.push])
 ·have hv':its[i]?=some v:=by simpa using hv
  have hi:i<ns.length:=by rw[<-hle];exact(Ae.mp hv').1
  obtain⟨u,hu,ru⟩:=rv.get (show (ns.map V.int)[i]?=some (.int ns[i]) by rw[Af,Aa hi];rfl)
  rw[hv']at hu;cases hu;obtain⟨t,rfl⟩:=ru;exact⟨t,by show Value.int ns[i] t=Value.int (ns.getD i 0) t;rw[Ac,Aa hi];rfl⟩
 ·have hj' : j < ns.length := by have : j < its.length := by simpa using hj
                                 omega
  have e:=kB ns (j+1) (by omega)
  obtain⟨a1,a2⟩:=aJ8 (ns:=ns.take (j+1)) λm hm=>hb m (List.mem_of_mem_take hm);rw[Bp]at a2;have a3:ns.getD j 0∈ns:=by rw[Ac,Aa hj'];exact Bx _
  obtain⟨b1,b2⟩:=hb _ a3;refine⟨?_,?_⟩
  ·show InLong (ns.getD j 0)
   unfold InLong;omega
  ·rw[e];unfold InLong;omega
 ·have e:preSum (λi=>ns.getD i 0) its.toArray.size=ns.sum:=by
   rw[Az,hle,kB ns _ (Aj _),Cj]
  rw[e];exact⟨.int ns.sum,H,I.kept (LSm.kept_iter hk),⟨_,rfl⟩,q⟩
def eXT{p:Addr}(e:rdL H p=some (ns.map V.int))(hb:∀n∈ns,0<=n/\n<=1000000)(hl:ns.length<=100000)(h:Q (.int ns.sum) H):dJH [.ref p] H Q:=⟨p,ns,rfl,e,hb,hl,h⟩
section
variable {κ:Type} [DecidableEq κ]
def bY(kvs:List (κ×V))(k:κ):Option V:=(kvs.find? λkv=>decide (kv.1=k)).map (·.2)
def cM(kvs:List (κ×V))(k:κ)(v:V):List (κ×V):=
 if (kvs.any λkv=>decide (kv.1=k))=true then kvs.map (λkv=>if kv.1=k then (kv.1,v) else kv) else kvs++[(k,v)]
def cJ{p:κ×V}{r:List (κ×V)}{k:κ}(e:p.1=k):bY (p::r) k=some p.2:=by simp[bY,List.find?_cons,e]
def cE{p:κ×V}{r:List (κ×V)}{k:κ}(e:¬p.1=k):bY (p::r) k=bY r k:=by simp[bY,List.find?_cons,e]
def fG(k:κ):∀kvs:List (κ×V),(kvs.any λkv=>decide (kv.1=k))=(bY kvs k).isSome
 |[]=>rfl
 |p::r=>by
  rw[Hr];by_cases e:p.1=k
  ·simp only[cJ e,decide_eq_true e,Bool.true_or,Option.isSome_some]
  ·rw[cE e,Aw e,Bool.false_or];exact fG k r
def aQF(k j:κ)(y:V):∀kvs:List (κ×V),bY (kvs.map λkv=>if kv.1=k then (kv.1,y) else kv) j=(bY kvs j).map λx=>if j=k then y else x
 |[]=>rfl
 |p::r=>by
  have ih:=aQF k j y r
  rw[Aq];by_cases h:p.1=k
  ·rw[if_pos h];by_cases e:p.1=j
   ·rw[cJ (p:=(p.1,y)) e,cJ e,Ej,if_pos (e.symm.trans h)]
   ·rw[cE (p:=(p.1,y)) e,cE e,ih]
  ·rw[if_neg h];by_cases e:p.1=j
   ·rw[cJ (p:=p) e,cJ e,Ej,if_neg (λz=>h (e.trans z))]
   ·rw[cE (p:=p) e,cE e,ih]
def vR(k j:κ)(y:V):∀kvs:List (κ×V),bY kvs k=none->bY (kvs++[(k,y)]) j=if j=k then some y else bY kvs j
 |[],_=>by
  by_cases e:k=j
  ·rw[if_pos e.symm];exact cJ (p:=(k,y)) e
  ·rw[if_neg (λz=>e z.symm)];exact cE (p:=(k,y)) e
 |p::r,hn=>by
  rw[List.cons_append];have hk:¬p.1=k:=λz=>by rw[cJ z]at hn;cases hn
  rw[cE hk]at hn;have ih:=vR k j y r hn
  by_cases e:p.1=j
  ·rw[cJ e,cJ e,if_neg (λz=>hk (e.trans z))]
  ·rw[cE e,cE e,ih]
def yN(kvs:List (κ×V))(k j:κ)(y:V):bY (cM kvs k y) j=if j=k then some y else bY kvs j:=by
 unfold cM;by_cases a:(kvs.any λkv=>decide (kv.1=k))=true
 ·rw[if_pos a,aQF];rw[fG]at a;by_cases e:j=k
  ·obtain⟨x,hx⟩:=Dc.mp a;rw[if_pos e,e,hx,Ej,if_pos rfl]
  ·rw[if_neg e];cases bY kvs j with
   |none=>rfl
   |some x=>rw[Ej,if_neg e]
 ·rw[if_neg a];refine vR k j y kvs ?_;rw[fG]at a;cases q:bY kvs k with
  |none=>rfl
  |some x=>rw[q]at a;exact(a rfl).elim
def dE(kvs:List (κ×V))(k:κ)(v:V):(cM kvs k v).length<=kvs.length+1:=by
 unfold cM;split
 ·rw[Ab];omega
 ·rw[Ah,Au,Fq];omega
def jK{kvs:List (κ×V)}{k:κ}(v:V)(h:bY kvs k=none):cM kvs k v=kvs++[(k,v)]:=by
 unfold cM;rw[fG,h];exact if_neg (by decide)
def RelO.isSome_eq{o:Option V}{u:Option Value}(r:RelO o u):o.isSome=u.isSome:=by
 cases o with
 |none=>cases u with
  |none=>rfl
  |some _=>exact(show False from r).elim
 |some _=>cases u with
  |none=>exact(show False from r).elim
  |some _=>rfl
def RelO.getD{o:Option V}{u:Option Value}{d:V}{d':Value}(r:RelO o u)(rd:RelV d d'):RelV (o.getD d) (u.getD d'):=by
 cases o with
 |none=>cases u with
  |none=>exact rd
  |some _=>exact(show False from r).elim
 |some _=>cases u with
  |none=>exact(show False from r).elim
  |some _=>exact r
def KV.val{kvs:List (κ×V)}{vs:List (κ×Value)}(r:KV kvs vs)(k:κ):RelO (bY kvs k) (valueAt vs k):=by
 unfold KV at r;induction r with
 |nil=>exact True.intro
 | @cons p q ps qs h t ih=>
  obtain⟨h1,h2⟩:=h;by_cases e:p.1=k
  ·have e':q.1=k:=h1.symm.trans e
   have b:valueAt (q::qs) k=some q.2:=by simp[valueAt,List.find?_cons,e']
   rw[cJ e,b];exact h2
  ·have e':¬q.1=k:=λz=>e (h1.trans z)
   have b:valueAt (q::qs) k=valueAt qs k:=by simp[valueAt,List.find?_cons,e']
   rw[cE e,b];exact ih
def KV.any{kvs:List (κ×V)}{vs:List (κ×Value)}(r:KV kvs vs)(k:κ):(kvs.any λkv=>decide (kv.1=k))=vs.any λkv=>decide (kv.1=k):=by
 unfold KV at r;induction r with
 |nil=>rfl
 |cons h t ih=>rw[Hr,Hr,ih,h.1]
def KV.repl{kvs:List (κ×V)}{vs:List (κ×Value)}(r:KV kvs vs)(k:κ)(ry:RelV y u):KV (kvs.map λkv=>if kv.1=k then (kv.1,y) else kv) (vs.map λkv=>if kv.1=k then (kv.1,u) else kv):=by
 unfold KV at r ⊢;induction r with
 |nil=>exact .nil
 | @cons p q ps qs h t ih=>
  rw[Aq,Aq];refine .cons ?_ ih;obtain⟨h1,h2⟩:=h;by_cases e:p.1=k
  ·rw[if_pos e,if_pos (h1.symm.trans e)];exact⟨h1,ry⟩
  ·rw[if_neg e,if_neg (λz=>e (h1.trans z))];exact⟨h1,h2⟩
def KV.put{kvs:List (κ×V)}{vs:List (κ×Value)}(r:KV kvs vs)(k:κ)(ry:RelV y u):KV (cM kvs k y) (stored vs k u):=by
 unfold cM stored;rw[r.any k];by_cases e:(vs.any λkv=>decide (kv.1=k))=true
 ·rw[if_pos e,if_pos e];exact r.repl k ry
 ·rw[if_neg e,if_neg e];exact Paired.snoc r ⟨rfl,ry⟩
def KV.length{kvs:List (κ×V)}{vs:List (κ×Value)}(r:KV kvs vs):kvs.length=vs.length:=Paired.length r
end
def pH{k:Key}(r:RelV (kV k) u):(bB P w).is k u=true:=by
 cases k with
 |inl i=>obtain⟨t,e⟩:=(show ∃t,u=Value.int i t from r);subst e;exact zU P w i t
 |inr x=>obtain⟨t,e⟩:=(show ∃t,u=Value.str x t from r);subst e;exact yL P w x t
def vS:∀ {ks:List Key} {us:List Value},Vals (ks.map kV) us->ItemsAre (bB P w) ks us
 |[],_,r=>by rw[List.map_nil]at r;cases r;exact .nil
 |k::ks,_,r=>by
  rw[Aq]at r;cases r with
  |cons h t=>exact .cons (pH h) (vS t)
abbrev KT(H:Hp):List (List Key×V)->List (List Key×Addr×Value)->Prop:=Paired λp q=>p.1=q.1/\H q.2.1=some (.tup (p.1.map kV))/\RelV p.2 q.2.2
def KT.val{kvs:List (List Key×V)}{xs:List (List Key×Addr×Value)}(r:KT H kvs xs)(k:List Key):RelO (bY kvs k) ((atKey xs k).map (·.2)):=by
 induction r with
 |nil=>exact True.intro
 | @cons p q ps qs h t ih=>
  obtain⟨h1,_,h2⟩:=h;by_cases e:p.1=k
  ·have e':q.1=k:=h1.symm.trans e
   have b:atKey (q::qs) k=some q.2:=by simp[atKey,List.find?_cons,e']
   rw[cJ e,b];exact h2
  ·have e':¬q.1=k:=λz=>e (h1.trans z)
   have b:atKey (q::qs) k=atKey qs k:=by simp[atKey,List.find?_cons,e']
   rw[cE e,b];exact ih
def KT.repl{kvs:List (List Key×V)}{xs:List (List Key×Addr×Value)}(r:KT H kvs xs)(k:List Key)(ry:RelV y u):KT H (kvs.map λkv=>if kv.1=k then (kv.1,y) else kv) (xs.map (putAt k u)):=by
 induction r with
 |nil=>exact .nil
 | @cons p q ps qs h t ih=>
  rw[Aq,Aq];refine .cons ?_ ih;obtain⟨h1,h2,h3⟩:=h;unfold putAt;by_cases e:p.1=k
  ·rw[if_pos e,if_pos (h1.symm.trans e)];exact⟨h1,h2,ry⟩
  ·rw[if_neg e,if_neg (λz=>e (h1.trans z))];exact⟨h1,h2,h3⟩
def KT.put{kvs:List (List Key×V)}{xs:List (List Key×Addr×Value)}(r:KT H kvs xs)(k:List Key)(hb:H b=some (.tup (k.map kV)))(ry:RelV y u):KT H (cM kvs k y) (storedH xs k b u):=by
 have e:(kvs.any λkv=>decide (kv.1=k))=(atKey xs k).isSome:=by
  rw[fG,(r.val k).isSome_eq,Option.isSome_map]
 unfold cM storedH;rw[e];by_cases q:(atKey xs k).isSome=true
 ·rw[if_pos q,if_pos q];exact r.repl k ry
 ·rw[if_neg q,if_neg q];exact Paired.snoc r ⟨rfl,hb,ry⟩
def KT.keeps{kvs:List (List Key×V)}{xs:List (List Key×Addr×Value)}(r:KT H kvs xs)(ht:∀b ys,H b=some (.tup ys)->H' b=some (.tup ys)):KT H' kvs xs:=
 Paired.mapP r λ_ _ z=>⟨z.1,ht _ _ z.2.1,z.2.2⟩
def dXQ{u:HO}(ok:HOk P w H h)(e:Rd H a u):ObjOk P w H h a u:=e.ok ok
def mU(ok:HOk P w H h)(e:Rd H a (.dK kvs)):kvs.length<=sizeLine/\(a==sysModules)=false/\∃vs,KV kvs vs/\h.DictOf (bB P w) a vs:=
 show ObjOk P w H h a (.dK kvs) from dXQ ok e
def dXO(ok:HOk P w H h)(e:H a=some (.dK kvs)):kvs.length<=sizeLine/\(a==sysModules)=false/\∃vs,KV kvs vs/\h.DictOf (bB P w) a vs:=mU ok (.inl e)
def lX{ks:List Key}(ok:HOk P w H h)(e:H a=some (.tup (ks.map kV))):(tupleKind (bB P w)).is h ks a:=by
 obtain⟨_,its,r,o,h1,h2,n,h3⟩:=(show ObjOk P w H h a (.tup (ks.map kV)) from ok a _ e);exact⟨o,its.toArray,n,h1,h2,h3,by simpa using vS r⟩
def pG{kvs:List (List Key×V)}(ok:HOk P w H h)(e:Rd H a (.dT kvs)):kvs.length<=sizeLine/\(a==sysModules)=false/\
 ∃xs,KT H kvs xs/\h.DictOfH (tupleKind (bB P w)) a xs:=by
 obtain⟨z,y,xs,r,o,es,ep,h1,h2,h3,h4,h5⟩:=(show ObjOk P w H h a (.dT kvs) from dXQ ok e);refine⟨z,y,xs,r,o,es,ep,h1,h2,h3,h4,λx hx=>?_,h5⟩;have all:∀ {l:List (List Key×V)} {m:List (List Key×Addr×Value)},KT H l m->∀x∈m,(tupleKind (bB P w)).is h x.1 x.2.1:=by
  intro l m q;induction q with
  |nil=>intro x hx;exact nomatch hx
  | @cons p q ps qs hq t ih=>
   intro x hx;rcases Be.mp hx with e|hx
   ·subst e;exact lX ok (by rw[<-hq.1];exact hq.2.1)
   ·exact ih x hx
 exact all r x hx
def dXT{kvs:List (List Key×V)}(ok:HOk P w H h)(e:H a=some (.dT kvs)):kvs.length<=sizeLine/\(a==sysModules)=false/\
 ∃xs,KT H kvs xs/\h.DictOfH (tupleKind (bB P w)) a xs:=pG ok (.inl e)
def DGet(H:Hp)(a:Addr)(y:V)(r:Option V):Prop:=
 (∃kvs k,Rd H a (.dK kvs)/\y=kV k/\r=bY kvs k)\/∃kvs k b,Rd H a (.dT kvs)/\y=.ref b/\H b=some (.tup (k.map kV))/\r=bY kvs k
def DPut(H:Hp)(a:Addr)(y v:V)(H':Hp):Prop:=
 (∃kvs k,H a=some (.dK kvs)/\y=kV k/\kvs.length<sizeLine/\H'=upd H a (.dK (cM kvs k v)))\/
 ∃kvs k b,H a=some (.dT kvs)/\y=.ref b/\H b=some (.tup (k.map kV))/\kvs.length<sizeLine/\H'=upd H a (.dT (cM kvs k v))
def DGet.k{k:Key}(e:H a=some (.dK kvs)):DGet H a (kV k) (bY kvs k):=.inl ⟨kvs,k,.inl e,rfl,rfl⟩
def DPut.k{k:Key}(e:H a=some (.dK kvs))(hl:kvs.length<sizeLine):DPut H a (kV k) v (upd H a (.dK (cM kvs k v))):=.inl ⟨kvs,k,e,rfl,hl,rfl⟩
section
variable {σ:St} {r:Value} {o:Option V}
def Inv.big(I:Inv X pins σ H s):sysModules<s.heap.objs.size:=by
 have h:mainGlobals<s.heap.objs.size:=(I.mod.glob.keeps I.bk).lt
 exact Nat.lt_trans (by decide) h
def bQE{Q:Q0}(hu:A.units+1<cLine)(I:Inv X pins σ H s)(g:DGet H a y (some v))(ry:RelV y u)(h:∀w' s',Inv X pins σ H s'->RelV v w'->Q w' s'):wpAny (model X.prog X.w) A (getItem (.ref a) u) Q E s:=by
 rcases g with⟨kvs,k,e,ey,l⟩|⟨kvs,k,b,e,ey,eb,l⟩
 ·subst ey;obtain⟨z,hd,vs,rel,dd⟩:=mU I.hok e;obtain⟨w',hw,rw'⟩:=RelO.some_of (v:=v) (o:=valueAt vs k) (by rw[l];exact rel.val k)
  exact wpAny_getItem_of (pH ry) dd.mapOf hw (h w' _ (I.tok _) rw')
 ·subst ey;cases (show u=Value.ref b from ry);obtain⟨z,hd,xs,rel,dd⟩:=pG I.hok e;obtain⟨w',hw,rw'⟩:=RelO.some_of (v:=v) (o:=(atKey xs k).map (·.2)) (by rw[l];exact rel.val k)
  obtain⟨p,hp,hp2⟩:=Bj.mp hw;refine wpAny_getItem_heap (Eu hu) (lX I.hok eb) dd hp ?_;rw[hp2];exact h w' _ (I.tok _) rw'
def eJO{Q:Q0}(hu:A.units+1<cLine)(I:Inv X pins σ H s)(g:DGet H a y o)(ry:RelV y u)(h:∀s',Inv X pins σ H s'->Q (.bool o.isSome) s'):wpAny (model X.prog X.w) A (compareOp .In u (.ref a)) Q E s:=by
 rcases g with⟨kvs,k,e,ey,l⟩|⟨kvs,k,b,e,ey,eb,l⟩
 ·subst ey;obtain⟨z,hd,vs,rel,dd⟩:=mU I.hok e;refine wpAny_in_of (pH ry) hd dd.mapOf ?_;rw[<-(rel.val k).isSome_eq,<-l];exact h _ (I.tok _)
 ·subst ey;cases (show u=Value.ref b from ry);obtain⟨z,hd,xs,rel,dd⟩:=pG I.hok e;refine wpAny_in_heap (Eu hu) (lX I.hok eb) hd dd ?_;have q:=(rel.val k).isSome_eq
  rw[Option.isSome_map]at q;rw[<-q,<-l];exact h _ (I.tok _)
def dQA{Q:Q0}(hu:A.units+1<cLine)(I:Inv X pins σ H s)(g:DGet H a y o)(ry:RelV y u)(h:∀s',Inv X pins σ H s'->Q (.bool (!o.isSome)) s'):wpAny (model X.prog X.w) A (compareOp .NotIn u (.ref a)) Q E s:=by
 rcases g with⟨kvs,k,e,ey,l⟩|⟨kvs,k,b,e,ey,eb,l⟩
 ·subst ey;obtain⟨z,hd,vs,rel,dd⟩:=mU I.hok e;refine wpAny_notIn_of (pH ry) hd dd.mapOf ?_;rw[<-(rel.val k).isSome_eq,<-l];exact h _ (I.tok _)
 ·subst ey;cases (show u=Value.ref b from ry);obtain⟨z,hd,xs,rel,dd⟩:=pG I.hok e;refine wpAny_notIn_heap (Eu hu) (lX I.hok eb) hd dd ?_;have q:=(rel.val k).isSome_eq
  rw[Option.isSome_map]at q;rw[<-q,<-l];exact h _ (I.tok _)
def aJY{ob:HO}(I:Inv X pins σ H s)(mu:Mut (H a))(hs:Heap.SameBut a s.heap h')(he:∃q,h'.get? a=some q)(new:ObjOk X.prog X.w (upd H a ob) h' a ob):Inv X pins σ (upd H a ob) {s with heap:=h',toks:=t'}:=
 I.write (x:=a) (e:=a) mu (.inl rfl) (λb q hb z=>(hs.2 b hb).trans z) he new
def cZD{vs:List (Key×Value)}(z:kvs.length<=sizeLine)(hd:(a==sysModules)=false)(rel:KV kvs vs)(dd:h'.DictOf (bB P w) a vs):ObjOk P w H' h' a (.dK kvs):=⟨z,hd,vs,rel,dd⟩
def bXX{Q:Unit->Shared->Prop}(hu:A.units+1<cLine)(I:Inv X pins σ H s)(g:DPut H a y v H')(ry:RelV y u)(rv:RelV v r)(h:∀s',Inv X pins σ H' s'->Q () s'):wpAny (model X.prog X.w) A (setItem (.ref a) u r) Q E s:=by
 rcases g with⟨kvs,k,e,ey,l,eH⟩|⟨kvs,k,b,e,ey,eb,l,eH⟩
 ·subst ey eH;obtain⟨z,hd,vs,rel,dd⟩:=dXO I.hok e;have hz:vs.length<=sizeLine:=by rw[<-rel.length];exact z
  have hl:(cM kvs k v).length<=sizeLine:=by have:=dE kvs k v;omega
  refine wpAny_setItem_pairs (hsz:=hz) (pH ry) dd λh' dd' hs=>h _ ?_;have he:∃q,h'.get? a=some q:=let ⟨q,_,_,hq,_⟩:=dd';⟨q,hq⟩
  exact aJY I (by rw[e];exact True.intro) hs he (cZD hl hd (rel.put k rv) dd')
 ·subst ey eH;cases (show u=Value.ref b from ry);obtain⟨z,hd,xs,rel,dd⟩:=dXT I.hok e;have hz:xs.length<=sizeLine:=by rw[<-Paired.length rel];exact z
  have hl:(cM kvs k v).length<=sizeLine:=by have:=dE kvs k v;omega
  refine wpAny_setItem_heap (hsz:=hz) (Eu hu) (lX I.hok eb) dd λh' dd' hs=>h _ ?_;obtain⟨q,es,ep,hq,h2,h3,h4,_,h5⟩:=dd';refine aJY I (by rw[e];exact True.intro) hs ⟨q,hq⟩ ⟨hl,hd,_,(rel.put k eb rv).keeps λc ys ec=>?_,q,es,ep,hq,h2,h3,h4,h5⟩
  rw[aG (eJK ec e (λz=>nomatch z))]
  exact ec
end
def eXR(i:Expr):Prop:=∀ov iv,subscripted i false ov iv=operate [ov,iv] (getItem ov iv)
def cJM{value slice:Expr}{id:String}{Q:Q0}(hl:typeLookup (.type T) "__getitem__"=pure (some (.builtin id)))(hs:eXR slice)(h:wpAny (model prog w) A (eval value env) (λo s₁=>wpAny (model prog w) A (eval slice env) (λi s₂=>s₂.TypeIs o T/\wpAny (model prog w) A (getItem o i) Q E s₂) E s₁) E s):wpAny (model prog w) A (eval (.Subscript value slice pos) env) Q E s:=by
 refine Subscript_ (Cg h (λo s₁ h₁=>Cg h₁ (λi s₂ h₂=>?_) λ_ _ x=>x) λ_ _ x=>x);obtain⟨hT,h₂⟩:=h₂;unfold subscriptTail;refine Ad ?_;rw[getitemInPython_of_ne hT.not_modules];refine Ad (wpAny_specialOf hT hl ?_);have fin:wpAny (model prog w) A (subscripted slice false o i) (λr s₃=>wpAny (model prog w) A (letTemporaryGo value o r >>= λ_=>pure r) Q E s₃) E s₂:=by
  rw[hs o i];exact wpAny_operating (Cg h₂ (λr s₃ h₃=>Ad (wpAny_letTemporaryGo (Al h₃))) λ_ _ x=>x)
 first
  |exact Al (Ad fin)
  |exact Ad (Al (Ad fin))
  |exact Ad fin
def aQT{σ:St}{o:Option V}(I:Inv X pins σ H s)(g:DGet H a y o):s.TypeIs (.ref a) "dict" := by
 rcases g with⟨kvs,k,e,_,_⟩|⟨kvs,k,b,e,_,_,_⟩
 ·obtain⟨_,_,vs,_,dd⟩:=mU I.hok e;exact dd.typeIs
 ·obtain⟨_,_,xs,_,dd⟩:=pG I.hok e;exact dd.typeIs
def dX8(td ty:TE):TE:=λσ H Q=>td σ H λx H1=>ty σ H1 λy H2=>∃a v,x=.ref a/\DGet H2 a y (some v)/\Q v H2
def dXU(td ty tv:TE):TS:=λD σ H=>tv σ H λv H1=>td σ H1 λx H2=>ty σ H2 λy H3=>∃a H4,x=.ref a/\DPut H3 a y v H4/\D.nx σ H4
section
variable {o i value:Expr} {pos':Pos} {td ty:TE}
def gP(hu:X.A.units+1<cLine)(ho:PE X o td)(hi:PE X i ty)(hs:eXR i):PE X (.Subscript o i pos) (dX8 td ty):=by
 intro pins s σ H Q I h;refine cJM PySem.F.slot_dict_getitem.lookup hs (thn (ho pins s σ H _ I h) λu s1 ⟨x,H1,I1,rx,q1⟩=>thn (hi pins s1 σ H1 _ I1 q1) λiv s2 ⟨y,H2,I2,ry,a,v,ex,g,q2⟩=>?_);subst ex;obtain rfl:u=Value.ref a:=rx;exact⟨aQT I2 g,bQE hu I2 g ry λw' s3 I3 rw'=>⟨v,H2,I3,rw',q2⟩⟩
def fT(hu:X.A.units+1<cLine)(ho:PE X o td)(hi:PE X i ty)(hv:PE X value tv)(hs:swapsWith value (some (.Subscript o i pos')) pos.line X.env=pure false):PS X (.Assign [.Subscript o i pos'] value pos) (dXU td ty tv):=by
 intro pins s σ H D I h;refine wpAny_Assign_Subscript (thn (hv pins s σ H _ I h) λr s1 ⟨v,H1,I1,rv,q1⟩=>thn (ho pins s1 σ H1 _ I1 q1) λu s2 ⟨x,H2,I2,rx,q2⟩=>thn (hi pins s2 σ H2 _ I2 q2) λiv s3 ⟨y,H3,I3,ry,a,H4,ex,g,q3⟩=>?_) hs;subst ex;obtain rfl:u=Value.ref a:=rx;exact bXX hu I3 g ry rv λs4 I4=>⟨σ,H4,I4,q3⟩
end
def bJZ(h:Heap)(hb:sysModules<h.objs.size):ObjOk P w H (h.push {cls:=.type "dict",data:=.dict #[]}) h.objs.size (.dK []):=
 ⟨Cy _,Cu.mpr (Ne.symm (Bd hb)),[],.nil,Heap.DictOf.new h⟩
def bZV(h:Heap)(hb:sysModules<h.objs.size):ObjOk P w H (h.push {cls:=.type "dict",data:=.dict #[]}) h.objs.size (.dT []):=
 ⟨Cy _,Cu.mpr (Ne.symm (Bd hb)),[],.nil,_,#[],0,Av _ rfl,⟨rfl,rfl,rfl⟩,rfl,rfl,Gf⟩
def bZR:TE:=λ_ H Q=>∀p,H p=none->Q (.ref p) (upd H p (.dK []))
def cXT:TE:=λ_ H Q=>∀p,H p=none->Q (.ref p) (upd H p (.dT []))
def oA:PE X (.Dict [] [] pos) bZR:=λpins s σ H Q I h=>
 wpAny_Dict_empty ⟨.ref s.heap.objs.size,_,I.laid (a:=s.heap.objs.size) (o:=.dK []) (t':=s.toks) (λ_ _ q=>Ag _ q) (Aj _) (bJZ s.heap I.big),rfl,h _ (I.hok.fresh (Aj _))⟩
def aQB:PE X (.Dict [] [] pos) cXT:=λpins s σ H Q I h=>
 wpAny_Dict_empty ⟨.ref s.heap.objs.size,_,I.laid (a:=s.heap.objs.size) (o:=.dT []) (t':=s.toks) (λ_ _ q=>Ag _ q) (Aj _) (bZV s.heap I.big),rfl,h _ (I.hok.fresh (Aj _))⟩
def fH(kvs more:List (Key×V)):List (Key×V):=more.foldl (λacc kv=>cM acc kv.1 kv.2) kvs
def KV.merge:∀ {more:List (Key×V)} {rs:List (Key×Value)} {kvs:List (Key×V)} {vs:List (Key×Value)},KV more rs->KV kvs vs->KV (fH kvs more) (merged vs rs):=by
 intro more rs kvs vs r;unfold KV at r;induction r generalizing kvs vs with
 |nil=>intro q;exact q
 | @cons p q ps qs h t ih=>
  intro r0;have e:KV (cM kvs p.1 p.2) (stored vs q.1 q.2):=by
   have:=r0.put p.1 h.2
   rw[<-h.1];exact this
  exact ih e
def lM:∀(more kvs:List (Key×V)),(fH kvs more).length<=kvs.length+more.length
 |[],kvs=>by show kvs.length<=kvs.length+0;omega
 |p::r,kvs=>by
  have h1:=lM r (cM kvs p.1 p.2)
  have h2:=dE kvs p.1 p.2
  show (fH (cM kvs p.1 p.2) r).length<=_
  rw[Au];omega
def IsD(H:Hp)(a:Addr):Prop:=(∃kvs,Rd H a (.dK kvs))\/∃kvs,Rd H a (.dT kvs)
def dZH{σ:St}(I:Inv X pins σ H s)(d:IsD H a):s.TypeIs (.ref a) "dict"/\(∀b,Value.ref a=.ref b->∃ob,s.heap.get? b=some ob/\ob.dict=none)/\(a==sysModules)=false:=by
 rcases d with⟨kvs,e⟩|⟨kvs,e⟩
 ·obtain⟨_,hd,vs,_,dd⟩:=mU I.hok e;refine⟨dd.typeIs,λb q=>?_,hd⟩;cases q;obtain⟨ob,_,_,h1,h2,_⟩:=dd;exact⟨ob,h1,h2.2.1⟩
 ·obtain⟨_,hd,xs,_,dd⟩:=pG I.hok e;refine⟨dd.typeIs,λb q=>?_,hd⟩;cases q;obtain⟨ob,_,_,h1,h2,_⟩:=dd;exact⟨ob,h1,h2.2.1⟩
section
variable {σ:St} {d:V} {r:Value} {o:Option V}
def eXA{Q:Q0}(hu:A.units+1<cLine)(I:Inv X pins σ H s)(g:DGet H a y o)(ry:RelV y u)(h:∀w' s',Inv X pins σ H s'->RelV (o.getD .non) w'->Q w' s'):wpAny (model X.prog X.w) A (call (.builtin "dict.get") [.ref a,u]) Q E s:=by
 rcases g with⟨kvs,k,e,ey,l⟩|⟨kvs,k,b,e,ey,eb,l⟩
 ·subst ey;obtain⟨z,hd,vs,rel,dd⟩:=mU I.hok e;refine Hx Cc dd.typeIs Em (Hb _ _) (meets_dict_get (bB X.prog X.w) a (pH ry) hd) ⟨_,dd.mapOf,h _ _ (I.tok _) ?_⟩;rw[l];exact(rel.val k).getD rfl
 ·subst ey;cases (show u=Value.ref b from ry);obtain⟨z,hd,xs,rel,dd⟩:=pG I.hok e;refine Hx Cc dd.typeIs Em (Hb _ _) (meetsH_dict_get (tupleKind (bB X.prog X.w)) a b hd) ⟨Eu hu,k,xs,lX I.hok eb,dd,h _ _ (I.tok _) ?_⟩;rw[l];exact(rel.val k).getD rfl
def eQU{Q:Q0}(hu:A.units+1<cLine)(I:Inv X pins σ H s)(g:DGet H a y o)(ry:RelV y u)(rd:RelV d r)(h:∀w' s',Inv X pins σ H s'->RelV (o.getD d) w'->Q w' s'):wpAny (model X.prog X.w) A (call (.builtin "dict.get") [.ref a,u,r]) Q E s:=by
 rcases g with⟨kvs,k,e,ey,l⟩|⟨kvs,k,b,e,ey,eb,l⟩
 ·subst ey;obtain⟨z,hd,vs,rel,dd⟩:=mU I.hok e;refine Hx Cc dd.typeIs Em (PySem.F.args_dict_get_3 _ _ _) (meets_dict_get_default (bB X.prog X.w) a (pH ry) hd r) ⟨_,dd.mapOf,h _ _ (I.tok _) ?_⟩;rw[l];exact(rel.val k).getD rd
 ·subst ey;cases (show u=Value.ref b from ry);obtain⟨z,hd,xs,rel,dd⟩:=pG I.hok e;refine Hx Cc dd.typeIs Em (PySem.F.args_dict_get_3 _ _ _) (meetsH_dict_get_default (tupleKind (bB X.prog X.w)) a b hd r) ⟨Eu hu,k,xs,lX I.hok eb,dd,h _ _ (I.tok _) ?_⟩;rw[l];exact(rel.val k).getD rd
end
section
variable {σ:St}
def Inv.re(I:Inv X pins σ H s)(hn:∀b,H b=none->H' b=none)(tups:∀b xs,X.H₀ b=some (.tup xs)->H' b=some (.tup xs))(frzs:∀b o u,X.H₀ b=some (.frz o u)->H' b=some (.frz o u))(tbls:∀b ps,X.H₀ b=some (.tbl ps)->∃more,H' b=some (.tbl (ps++more)))(hok:HOk X.prog X.w H' s.heap):Inv X pins σ H' s:=
 ⟨I.ok,I.os,I.bare,⟨I.base.keep,I.base.slot,λb o e n hx=>hn b (I.base.free b o e n hx),I.base.there,tups,frzs,tbls⟩,I.loc,I.cell,hn _ I.free,λx c e=>hn c (I.freeC x c e),λp hp=>by
  obtain⟨a,b,c,d,e⟩:=I.pin p hp;exact⟨a,hn _ b,c,d,e⟩,hok,I.len⟩
def eJT:HO->Bool
 |.dK _=>true
 |.dT _=>true
 |_=>false
def Inv.freeze{u:HO}(I:Inv X pins σ H s)(ha:H a=some u)(hu:eJT u=true)(ho:s.heap.get? a=some o):Inv X pins σ (upd H a (.frz o u)) s:=by
 have ne:∀c v,H c=some v->eJT v=false->c≠a:=λc v q n z=>by rw[z,ha]at q;cases q;rw[n]at hu;cases hu
 have own:∀c y,H c=some (.own y)->upd H a (.frz o u) c=some (.own y):=λc y q=>by rw[aG (ne c _ q rfl)];exact q
 have tup:∀c xs,H c=some (.tup xs)->upd H a (.frz o u) c=some (.tup xs):=λc xs q=>by rw[aG (ne c _ q rfl)];exact q
 refine I.re (λb q=>by rw[aG (λz=>by rw[z,ha]at q;cases q)];exact q) (λb xs q=>tup b xs (I.base.tups b xs q)) (λb o' v q=>?_) (λb ps q=>?_) (λb v q=>?_)
 ·have:=I.base.frzs b o' v q
  rw[aG (ne b _ this rfl)];exact this
 ·obtain⟨m,e⟩:=I.base.tbls b ps q;exact⟨m,by rw[aG (ne b _ e rfl)];exact e⟩
 ·by_cases hb:b=a
  ·subst hb;rw[aD]at q;cases q;exact(show s.heap.get? b=some o/\ObjOk X.prog X.w (upd H b (.frz o u)) s.heap b u from⟨ho,(I.hok b _ ha).stay (λ_ _ _ q=>q) (λc=>own c b) tup⟩)
  ·rw[aG hb]at q;exact(I.hok b v q).stay (λ_ _ _ q=>q) (λc=>own c b) tup
def unf(Hs H:Hp):Hp:=λb=>match H b with
 |some (.frz o u)=>(match Hs b with|some (.frz _ _)=>some (.frz o u)|_=>some u)
 |x=>x
def dY{Hs:Hp}{u:HO}(h:H b=some u)(n:∀o v,u≠.frz o v):unf Hs H b=some u:=by
 unfold unf;rw[h];cases u<;>first|rfl|exact absurd rfl (n _ _)
def rS(h:H b=none):unf Hs H b=none:=by unfold unf;rw[h]
def qO{Hs:Hp}{u:HO}(h:H b=some (.frz o u))(n:∀o v,Hs b≠some (.frz o v)):unf Hs H b=some u:=by
 unfold unf;rw[h];dsimp only;split
 ·rename_i e
  exact absurd e (n _ _)
 ·rfl
def kK{o':Obj}{u u':HO}(h:H b=some (.frz o u))(n:Hs b=some (.frz o' u')):unf Hs H b=some (.frz o u):=by
 unfold unf;rw[h];dsimp only;rw[n]
def Inv.unfreeze{Hs:Hp}(I:Inv X pins σ H s)(h0:∀b o u,X.H₀ b=some (.frz o u)->Hs b=some (.frz o u)):Inv X pins σ (unf Hs H) s:=by
 have own:∀c y,H c=some (.own y)->unf Hs H c=some (.own y):=λc y q=>dY q λ_ _ z=>by cases z
 have tup:∀c xs,H c=some (.tup xs)->unf Hs H c=some (.tup xs):=λc xs q=>dY q λ_ _ z=>by cases z
 refine I.re (λb q=>rS q) (λb xs q=>tup b xs (I.base.tups b xs q)) (λb o u q=>kK (I.base.frzs b o u q) (h0 b o u q)) (λb ps q=>?_) (λb u q=>?_)
 ·obtain⟨m,e⟩:=I.base.tbls b ps q;exact⟨m,dY e λ_ _ z=>by cases z⟩
 ·cases e:H b with
  |none=>rw[rS e]at q;cases q
  |some v=>
   have ok:=I.hok b v e
   by_cases hf:∃o v',v=.frz o v'
   ·obtain⟨o,v',rfl⟩:=hf;have ok2:s.heap.get? b=some o/\ObjOk X.prog X.w H s.heap b v':=ok
    by_cases hs:∃o' u',Hs b=some (.frz o' u')
    ·obtain⟨o',u',hs⟩:=hs;rw[kK e hs]at q;cases q;exact ok.stay (λ_ _ _ q=>q) (λc=>own c b) tup
    ·rw[qO e λo v z=>hs ⟨o,v,z⟩]at q;cases q;exact ok2.2.stay (λ_ _ _ q=>q) (λc=>own c b) tup
   ·rw[dY e λo v' z=>hf ⟨o,v',z⟩]at q;cases q;exact ok.stay (λ_ _ _ q=>q) (λc=>own c b) tup
def cXO(Hs:Hp)(D:Ends):Ends:=⟨λσ H=>D.nx σ (unf Hs H),λv H=>D.rt v (unf Hs H),λσ H=>D.bk σ (unf Hs H),λσ H=>D.ct σ (unf Hs H)⟩
end
def eZ6(t:TE):TE:=λσ H Q=>t σ H λv H'=>Q v (unf H H')
def dZB(t:TS):TS:=λD σ H=>t (cXO H D) σ H
def bZK{t:TE}(h:PE X e t):PE X e (eZ6 t):=λpins s σ H Q I q=>thn (h pins s σ H _ I q) λv s' ⟨x,H',I',r,q'⟩=>⟨x,unf H H',I'.unfreeze λb o u e=>I.base.frzs b o u e,r,q'⟩
def aXR{t:TS}(h:PS X st t):PS X st (dZB t):=λpins s σ H D I q=>thn (h pins s σ H _ I q) λf s' q'=>by
 cases f with
 |next=>obtain⟨σ',H',I',r⟩:=q';exact⟨σ',unf H H',I'.unfreeze λb o u e=>I.base.frzs b o u e,r⟩
 |brk=>obtain⟨σ',H',I',r⟩:=q';exact⟨σ',unf H H',I'.unfreeze λb o u e=>I.base.frzs b o u e,r⟩
 |cont=>obtain⟨σ',H',I',r⟩:=q';exact⟨σ',unf H H',I'.unfreeze λb o u e=>I.base.frzs b o u e,r⟩
 |ret u=>obtain⟨v,σ',H',I',rv,r⟩:=q';exact⟨v,σ',unf H H',I'.unfreeze λb o u e=>I.base.frzs b o u e,rv,r⟩
def eZB{t:TE}{σ:St}(h:t σ H λv H'=>Q v (unf H H')):eZ6 t σ H Q:=h
def dZL{t:TS}{σ:St}(h:t (cXO H D) σ H):dZB t D σ H:=h
def sU{u:HO}(ha:Hs a=some u)(hu:∀o v,u≠.frz o v)(h:Same (upd Hs a (.frz o u)) H):Same Hs (unf Hs H):=λb v q=>by
 by_cases e:b=a
 ·subst e;rw[ha]at q;cases q;exact qO (h _ _ aD) λo v z=>by rw[ha]at z;cases z;exact hu _ _ rfl
 ·have:=h b v (by rw[aG e];exact q)
  by_cases hf:∃o v',v=.frz o v'
  ·obtain⟨o',v',rfl⟩:=hf;exact kK this q
  ·exact dY this λo v' z=>hf ⟨o,v',z⟩
def bX7(h:Same Hs H):Same Hs (unf Hs H):=λb v q=>by
 have:=h b v q
 by_cases hf:∃o v',v=.frz o v'
 ·obtain⟨o',v',rfl⟩:=hf;exact kK this q
 ·exact dY this λo v' z=>hf ⟨o,v',z⟩
def rP{β:Type}{R:α->β->Prop}{xs:List α}{ys:List β}(r:Paired R xs ys):∀ {i:Nat} {x:α},xs[i]?=some x->∃y,ys[i]?=some y/\R x y:=by
 induction r with
 |nil=>intro i x h;cases h
 |cons h t ih=>
  intro i x hx;cases i with
  |zero=>cases hx;exact⟨_,rfl,h⟩
  |succ i=>exact ih (i:=i) hx
def eZE{k:Key}(h:(bB P w).is k u=true):RelV (kV k) u:=by
 rcases bT h with⟨i,t,rfl,rfl⟩|⟨x,t,rfl,rfl⟩
 ·exact⟨t,rfl⟩
 ·exact⟨t,rfl⟩
def Itd(a:Addr)(o:Obj)(kvs:List (Key×V)):It:=⟨λi H=>H a=some (.frz o (.dK kvs))/\i<kvs.length,λi H x H'=>H'=H/\∃kv,kvs[i]?=some kv/\x=kV kv.1,λi H=>H a=some (.frz o (.dK kvs))/\kvs.length=i⟩
def aQ9{σ:St}(I:Inv X pins σ H s)(ha:H a=some (.frz o (.dK kvs)))(hep:∃es,o.data=.dict es ep):kvs.length<=sizeLine/\(a==sysModules)=false/\∃vs,KV kvs vs/\s.heap.DictAt (bB X.prog X.w) a vs ep:=by
 have ok:s.heap.get? a=some o/\(kvs.length<=sizeLine/\(a==sysModules)=false/\∃vs,KV kvs vs/\s.heap.DictOf (bB X.prog X.w) a vs):=I.hok a _ ha
 obtain⟨e,z,hd,vs,rel,o',es',ep',ho',hx,hdat,r⟩:=ok;rw[e]at ho';cases ho';obtain⟨es,hes⟩:=hep;have q:=hdat
 rw[hes]at q;cases q;exact⟨z,hd,vs,rel,o,_,e,hx,hdat,r⟩
def bQX(a it:Addr)(o:Obj)(kvs:List (Key×V))(ep:Nat)(hep:∃es,o.data=.dict es ep):Turn P w K tg (Itd a o kvs) [it] it (λi h=>h.IsKeyIter it a i kvs.length ep) where
 mem:=by simp
 obj:=λi h st b hb=>by
  have e:b=it:=by simpa using hb
  subst e;obtain⟨o,e,c,d⟩:=st;exact⟨o,e,λv z=>by rw[d]at z;cases z⟩
 keep:=λi h h' st k=>let ⟨o,ho,r⟩:=st;⟨o,k it (by simp) o ho,r⟩
 item:=by
  intro X hP hw hK hc i pins s σ H E I hf st hg;subst hP hw hK;obtain⟨ha,hi⟩:=hg;obtain⟨z,hd,vs,rel,dd⟩:=aQ9 I ha hep;have hlv:=rel.length
  obtain⟨f0,f1,f2,f3,f4,f5⟩:=hf it (by simp)
  obtain⟨⟨k,v⟩,hx,hk1,_⟩:=rP rel (Aa hi);refine wpAny_pyNext_dict_item (knd:=bB X.prog X.w) (by rw[<-hlv];exact st) dd hx λkey h' hk st' sb=>?_
  have I1:Inv X pins σ H {s with heap:=h'}:=I.turned (t':=s.toks) (λb o hb e=>(sb.2 b hb).trans e) f0 f1 f3 f4 f5
  obtain⟨oi,e,c,d⟩:=id st';refine⟨key,rfl,rH (s:={s with heap:=h'}) e c d (by decide) ⟨kV k,H,I1,eZE hk,⟨rfl,kvs[i],Aa hi,by rw[hk1]⟩,?_,λb hb=>(hf b hb).1⟩⟩
  rw[hlv];exact st'
 done:=by
  intro X hP hw hK hc i pins s σ H E I hf st hg;subst hP hw hK;obtain⟨ha,hi⟩:=hg;obtain⟨z,hd,vs,rel,dd⟩:=aQ9 I ha hep;have hlv:=rel.length
  obtain⟨f0,f1,f2,f3,f4,f5⟩:=hf it (by simp)
  exact wpAny_pyNext_dict_end (knd:=bB X.prog X.w) (I.ok.hd hc) (by rw[<-hlv];exact st) dd (Ew (by omega)) λh' eb=>⟨rfl,I.turned (t':=s.toks) (λb o hb e=>eb b o hb e) f0 f1 f3 f4 f5⟩
 self:=λ_ _ _ _ _ st h=>wpAny_pyIter_keyiter st h
def cXZ{σ:St}(I:Inv X pins σ H s)(ha:H a=some (.dK kvs)):∃o es ep,s.heap.get? a=some o/\o.data=.dict es ep:=by
 obtain⟨_,_,vs,_,o,es,ep,ho,_,hd,_⟩:=dXO I.hok ha;exact⟨o,es,ep,ho,hd⟩
def cJT{σ:St}(I:Inv X pins σ H s)(ha:H a=some (.frz o (.dK kvs))):∃ep,∃es,o.data=.dict es ep:=by
 have ok:s.heap.get? a=some o/\(kvs.length<=sizeLine/\(a==sysModules)=false/\∃vs,KV kvs vs/\s.heap.DictOf (bB X.prog X.w) a vs):=I.hok a _ ha
 obtain⟨e,_,_,vs,_,o',es,ep,ho,_,hd,_⟩:=ok;rw[e]at ho;cases ho;exact⟨ep,es,hd⟩
def wK(H:Hp)(a:Addr)(R:Obj->List (Key×V)->Hp->Prop):Prop:=(∃kvs,H a=some (.dK kvs)/\∀o,R o kvs (upd H a (.frz o (.dK kvs))))\/∃o kvs,H a=some (.frz o (.dK kvs))/\R o kvs H
def walk_at{σ:St}{R:Obj->List (Key×V)->Hp->Prop}(I:Inv X pins σ H s)(h:wK H a R):∃o kvs H' ep,Inv X pins σ H' s/\H' a=some (.frz o (.dK kvs))/\(∃es,o.data=.dict es ep)/\R o kvs H':=by
 rcases h with⟨kvs,ha,q⟩|⟨o,kvs,ha,q⟩
 ·obtain⟨o,es,ep,ho,hd⟩:=cXZ I ha;exact⟨o,kvs,_,ep,I.freeze ha rfl ho,aD,⟨es,hd⟩,q o⟩
 ·obtain⟨ep,es,hd⟩:=cJT I ha;exact⟨o,kvs,H,ep,I,ha,⟨es,hd⟩,q⟩
def dXM(tl:TE):TI:=λσ H R=>tl σ H (gL λa H1=>wK H1 a λo kvs H2=>R (Itd a o kvs) H2)
def cZL(hl:PE X l tl):PI X tg l (dXM tl):=by
 intro pins s σ H R I h;refine thn (hl pins s σ H _ I h) λv s1 ⟨x,H1,I1,r1,q1⟩=>?_;unfold gL at q1;split at q1
 ·cases r1;rename_i a0 _
  obtain⟨o,kvs,H2,ep,I2,ha,hep,q⟩:=walk_at I1 q1;obtain⟨z,hd,vs,rel,dd⟩:=aQ9 I2 ha hep;refine wpAny_pyIter_dict (knd:=bB X.prog X.w) hd dd ?_;refine⟨s1.heap.objs.size,[s1.heap.objs.size],_,_,H2,rfl,I2.kept (t':=s1.toks) λb o e=>Ag _ e,bQX a0 _ o kvs ep hep,⟨_,Av _ rfl,rfl,by rw[rel.length];rfl⟩,λb hb=>?_,q⟩
  have e:b=s1.heap.objs.size:=by simpa using hb
  subst e;exact I2.fpOk (Aj _) (I2.hok.fresh (Aj _))
 ·exact q1.elim
def isD(H:Hp)(p:Addr):Bool:=match H p with
 |some (.dK _)=>true
 |some (.dT _)=>true
 |some (.frz _ (.dK _))=>true
 |some (.frz _ (.dT _))=>true
 |_=>false
def dJC{p:Addr}(h:isD H p=true):IsD H p:=by
 unfold isD at h;split at h
 ·exact .inl ⟨_,.inl (by assumption)⟩
 ·exact .inr ⟨_,.inl (by assumption)⟩
 ·exact .inl ⟨_,.inr ⟨_,by assumption⟩⟩
 ·exact .inr ⟨_,.inr ⟨_,by assumption⟩⟩
 ·cases h
def pD{p:Addr}(h:H p=some (.dK kvs)):isD H p=true:=by unfold isD;rw[h]
def cZB{p:Addr}(h:H p=some (.frz o (.dK kvs))):isD H p=true:=by unfold isD;rw[h]
section
variable {σ:St}
def cJH(h:tl σ H (gL λa H1=>wK H1 a λo kvs H2=>R (Itd a o kvs) H2)):dXM tl σ H R:=h
def dJ8{Rw:Obj->List (Key×V)->Hp->Prop}(e:H a=some (.dK kvs))(h:∀o,Rw o kvs (upd H a (.frz o (.dK kvs)))):wK H a Rw:=.inl ⟨kvs,e,h⟩
end
section
variable {o:Expr} {id:String}
def cQ0(r:V->List V->Hp->VK->Prop)(to:TE)(t:TA):TE:=λσ H Q=>to σ H (gL λp H1=>isD H1 p=true/\t σ H1 λxs H2=>r (.ref p) xs H2 Q)
def hZ(slot:Slot "dict" name id)(hty:typeOf (.builtin id)=pure (.type "method_descriptor"))(hm:MtR X id r)(ho:PE X o to)(ha:PA X (e::es) t)(hbase:attributeBase o name X.env (eval o X.env)=eval o X.env:=by rfl)(hfew:((backTo cpos (starEach (e::es) X.env)).all (λx=>!x.1)&&(backToKw cpos (keywordEach [] X.env)).all (λx=>x.1.isSome)
 && decide ((e::es).length+([]:List Keyword).length+(if ([]:List Keyword).isEmpty then 0 else 1)<30))=true:=by rfl)(hline:(apos.endLine==cpos.line)=true:=by rfl)(hs:starEach (e::es) X.env=(false,eval e X.env)::starEach es X.env:=by rfl)(hplain:(backTo cpos (starEach es X.env)).any (·.1)=false:=by rfl):PE X (.Call (.Attribute o name apos) (e::es) [] cpos) (cQ0 r to t):=by
 intro pins s σ H Q I h;refine Hi hbase hfew hline rfl (thn (ho pins s σ H _ I h) λv s1 ⟨x,H1,I1,r1,q⟩=>?_);unfold gL at q;split at q
 ·obtain⟨hd,q1⟩:=q;obtain⟨h1,h2,_⟩:=dZH I1 (dJC hd);cases _root_.id r1;refine⟨"dict",_,PySem.F.plainAttrs_dict,slot,hty,h1,h2,?_⟩;have hA:=ha cpos pins s1 σ H1 _ I1 q1
  rw[hs]at hA ⊢;refine Hj (by show (false || (backTo cpos (starEach es X.env)).any (·.1))=false;rw[hplain]<;>rfl) (Gd ?_)
  exact thn hA λus s2 ⟨vs,H2,I2,r2,q2⟩=>hm pins s2 σ H2 _ vs _ us Q I2 r1 r2 q2
 ·exact q.elim
def eJL:V->List V->Hp->VK->Prop:=λx vs H Q=>∃a y z o,x=.ref a/\vs=[y,z]/\DGet H a y o/\Q (o.getD z) H
def aZ0(hu:X.A.units+1<cLine):MtR X "dict.get" eJL:=by
 intro pins s σ H x vs v us Q I rx rv h;obtain⟨a,y,z,ov,rfl,rfl,g,q⟩:=h;cases rx;obtain⟨u,w',rfl,ru,rw'⟩:=yI rv;exact eQU hu I g ru rw' λw1 s1 I1 r1=>⟨_,H,I1,r1,q⟩
def eQK(x y:V)(H:Hp)(Q:VK):Prop:=∃a v,x=.ref a/\DGet H a y (some v)/\Q v H
def bJ5(D:Ends)(σ:St)(x y v:V)(H:Hp):Prop:=∃a H4,x=.ref a/\DPut H a y v H4/\D.nx σ H4
end
section
variable {σ:St} {w:V} {td ty:TE}
def cZ4(h:to σ H (gL λp H1=>isD H1 p=true/\t σ H1 λxs H2=>r (.ref p) xs H2 Q)):cQ0 r to t σ H Q:=h
def eZR{P:Prop}(e:isD H a=true)(h:P):isD H a=true/\P:=⟨e,h⟩
def aJJ(e:Rd H a (.dK kvs))(h:Q ((bY kvs (Sum.inr z)).getD w) H):eJL (.ref a) [.str z,w] H Q:=⟨a,.str z,w,_,rfl,rfl,.inl ⟨kvs,.inr z,e,rfl,rfl⟩,h⟩
def eQ5(h:∀p,H p=none->Q (.ref p) (upd H p (.dK []))):bZR σ H Q:=h
def eZC(h:td σ H λx H1=>ty σ H1 λy H2=>eQK x y H2 Q):dX8 td ty σ H Q:=h
def sN(e:Rd H a (.dK kvs))(l:bY kvs (Sum.inr z)=some v)(h:Q v H):eQK (.ref a) (.str z) H Q:=⟨a,v,rfl,.inl ⟨kvs,.inr z,e,rfl,l.symm⟩,h⟩
def dZ4(h:tv σ H λv H1=>td σ H1 λx H2=>ty σ H2 λy H3=>bJ5 D σ x y v H3):dXU td ty tv D σ H:=h
def iI(e:H a=some (.dK kvs))(l:kvs.length<sizeLine)(h:D.nx σ (upd H a (.dK (cM kvs (Sum.inr z) v)))):bJ5 D σ (.ref a) (.str z) v H:=⟨a,_,rfl,.inl ⟨kvs,.inr z,e,rfl,l,rfl⟩,h⟩
end
section
open PySem.AutoSeq1 (wpAny_loadPart')
open PySem.MeetsSeq PySem.MeetsSeq2 PySem.MeetsSeq3
def Room.u1{k:Nat}(r:Room k A):A.units+1<cLine:=by have:=r.un;omega
end
section
open PySem.AutoSeq1 (wpAny_loadPart')
def dQX:typeLookup (.type "list") "keys"=pure none:=by rw[typeLookup_type,builtinLookup_eq_fast];kernel_rfl
def bQ3{xs:Array Value}{k:Nat}{sl:Array (Option Value)}{Q:Option Value->Shared->Prop}(hx:s.heap.get? a=some ⟨.type "list",none,.seq xs k,sl⟩)(hA:A.handled=none)(h:∀h' tk,(∀b o,s.heap.get? b=some o->h'.get? b=some o)->Q none {s with heap:=h',toks:=tk}):wpAny (model prog w) A (getAttr? (.ref a) "keys") Q E s:=by
 obtain⟨hp,g,d,tk,os⟩:=s;have hT:∀tk',(⟨hp,g,d,tk',os⟩:Shared).TypeIs (.ref a) "list" := λ_=>⟨_,hx,rfl⟩
 have f1:=sub_AttributeError
 have f3:=PySem.F.slot_list_getattribute.lookup
 have f4:=PySem.F.slot_list_getattribute.bind (.ref a)
 have f5:=am_list_getattr_none
 unfold getAttr? getAttrBy? getAttrBy;repeat (any_goals (first|assumption|exact hT _|((with_reducible show wpAny _ _ (call (Value.builtin "list.__getattribute__") _ _) _ _ _);refine Fo PySem.F.slot_list_getattribute (hT _) am_entry_list_getattribute (PySem.F.args_list_getattribute_2 _ _) (meets_getattribute_miss_list a xs k sl "keys" _ dQX (by decide +kernel) (by decide)) ⟨hx,hA,λh' tk' e hx'=>?_⟩)|wp_step))
 obtain⟨t',u',he⟩:=hx'.there;show wpAny _ _ (getattributeRaised _ _ _ _ _ _ _) _ _ _
 unfold getattributeRaised;repeat (any_goals (first|assumption|wp_step))
 exact h _ _ hx'.keeps
def bQL{t:Addr}{xs:Array Value}{Q:Option (Array Value)->Shared->Prop}(h:s.heap.IsTuple t xs)(q:Q (some xs) s):wpAny (model prog w) A (seqItems? (.ref t)) Q E s:=by
 obtain⟨o,ho,hc,n,hd⟩:=h;unfold seqItems?;refine Ad (wpAny_load ho ?_);rw[hd];exact Al q
def eI:plainId "dict.update.loop"=true:=by decide +kernel
def jY:entryFor table "dict.update.loop"=some Builtin.«dict.update.loop» := entryFor_of_tree (by kernel_rfl)
def cX8{K:Type}[DecidableEq K]{knd:PySem.KeyKind P w K}(d I l:Addr)(its:Array Value)(ps:List (K×Value))(hpl:ps.length=its.size)(hdI:d≠I)(hlI:l≠I)(hld:l≠d)(k:Nat):∀i:Nat,its.size-i=k->i<=its.size->∀kvs:List (K×Value),kvs.length+k<=sizeLine->MeetsIn P w (Builtin.«dict.update.loop» ⟨[.ref d,.ref I,rawInt i,.none],[]⟩)
 (λA R s=>A.handled=none/\s.heap.IsListIter I l i/\s.heap.IsList l its/\s.heap.DictOf knd d kvs/\
  (∀j (h:j<its.size),∃t key val k',its[j]=.ref t/\t≠I/\t≠d/\s.heap.IsTuple t #[key,val]/\ps[j]?=some (k',val)/\knd.is k' key=true)/\
  ∀h' tk,(∀b o,b≠I->b≠d->s.heap.get? b=some o->h'.get? b=some o)->h'.DictOf knd d (merged kvs (ps.drop i))->R (.ok (.ret .none)) {s with heap:=h',toks:=tk}):=by
 induction k with
 |zero=>
  intro i hk hi kvs hz A R s h;obtain⟨hA,hit,hl,hd,hp,h⟩:=h;unfold Builtin.«dict.update.loop»;dsimp only[rawInt];refine wpAny_bind (wpAny_pyNext_list_end (show A.in1.handled=none from hA) hit hl (by simp;omega) λh' eb=>?_)
  dsimp only;unfold Builtin.Dict.addKeywords;refine Ad (Al (Al ?_));refine h h' s.toks (λb o hb _ e=>eb b o hb e) ?_;obtain⟨o,es,ep,ho,r⟩:=hd;rw[Hm (by omega)]
  exact⟨o,es,ep,eb d o hdI ho,r⟩
 |succ k ih=>
  intro i hk hi kvs hz A R s h;obtain⟨hA,hit,hl,hd,hp,h⟩:=h;unfold Builtin.«dict.update.loop»;dsimp only[rawInt];have hlt:i<its.size:=by omega
  obtain⟨t,key,val,k',et,htI,htd,hT,hps,hk'⟩:=hp i hlt;refine wpAny_bind (wpAny_pyNext_list_item hit hl (x:=its[i]) (by simp[hlt]) λh' st' sb=>?_)
  dsimp only;rw[et];have hT':h'.IsTuple t #[key,val]:=by
   obtain⟨o,ho,r⟩:=hT;exact⟨o,(sb.2 t htI).trans ho,r⟩
  have hd':h'.DictOf knd d kvs:=by
   obtain⟨o,es,ep,ho,r⟩:=hd;exact⟨o,es,ep,(sb.2 d hdI).trans ho,r⟩
  refine Ad (Da (Ad (Fk ?_)));unfold Builtin.Dict.pairItems;refine Ad (wpAny_typeOf (T := "tuple") (s:={s with heap:=h'}) (by obtain⟨o,ho,hc,_⟩:=id hT';exact⟨o,ho,hc⟩) ?_)
  rw[if_pos (by decide)]
  obtain⟨o,ho,hc,n,hdt⟩:=id hT';refine Ad (bQL (s:={s with heap:=h'}) hT' ?_)
  refine Al ?_;dsimp only[Option.getD];refine Da (wpAny_dictSet_pairs (s:={s with heap:=h'}) (knd:=knd) hk' hd' (λh2 hd2 sb2=>?_) (by omega))
  refine Al ?_;rw[show ((i:Int)+1)=((i+1:Nat):Int) by push_cast;rfl]
  refine⟨Gp eI _,Fp jY ?_⟩;rw[Fe eI _];have hst:(stored kvs k' val).length<=kvs.length+1:=by
   unfold stored;split
   ·rw[Ab];omega
   ·rw[Ah];exact Aj _
  refine ih (i+1) (by omega) (by omega) (stored kvs k' val) (by omega) A R _ ⟨hA,?_,?_,hd2,λj hj=>?_,λh3 tk hk3 hd3=>?_⟩
  ·obtain⟨oi,hoi,r⟩:=st';exact⟨oi,(sb2.2 I (Ne.symm hdI)).trans hoi,r⟩
  ·obtain⟨ol,hol,r⟩:=hl;exact⟨ol,(sb2.2 l hld).trans ((sb.2 l hlI).trans hol),r⟩
  ·obtain⟨t2,key2,val2,k2,e2,n2,n3,⟨o2,ho2,r2⟩,p2,q2⟩:=hp j hj;exact⟨t2,key2,val2,k2,e2,n2,n3,⟨o2,(sb2.2 t2 n3).trans ((sb.2 t2 n2).trans ho2),r2⟩,p2,q2⟩
  ·refine h h3 tk (λb o hb1 hb2 e=>hk3 b o hb1 hb2 ((sb2.2 b hb2).trans ((sb.2 b hb1).trans e))) ?_;have hdr:ps.drop i=(k',val)::ps.drop (i+1):=by
    have hi':i<ps.length:=by omega
    rw[List.drop_eq_getElem_cons hi'];have:=Aa hi'
    rw[hps]at this;rw[<-Bf this]
   rw[hdr];exact hd3
def qB{K:Type}[DecidableEq K]{knd:PySem.KeyKind prog w K}{l:Addr}{its:Array Value}{ps:List (K×Value)}{Q:Q0}(hx:s.heap.get? l=some ⟨.type "list",none,.seq its n,#[]⟩)(hA:A.handled=none)(hpl:ps.length=its.size)(hz:its.size<=sizeLine)(hp:∀j (h:j<its.size),∃t key val k',its[j]=.ref t/\s.heap.IsTuple t #[key,val]/\ps[j]?=some (k',val)/\knd.is k' key=true)(h:∀h' tk,h'.DictOf knd s.heap.objs.size (merged [] ps)->(∀b o,s.heap.get? b=some o->h'.get? b=some o)->Q (.ref s.heap.objs.size) {s with heap:=h',toks:=tk}):wpAny (model prog w) A (call (.type "dict") [.ref l]) Q E s:=by
 refine callType_codes (Q₁:=λob s1=>ob=.ref s.heap.objs.size/\s1={s with heap:=s.heap.push {cls:=.type "dict",data:=.dict #[]}}) PySem.F.kt_called_dict (PySem.F.kt_typeCall_dict_1 _) PySem.F.entry_dict_init (kt_code_dict_new _ ⟨rfl,rfl⟩) ?_
 rintro ob s1 ⟨rfl,rfl⟩;have hnw:(s.heap.push {cls:=.type "dict",data:=.dict #[]}).DictOf knd s.heap.objs.size []:=Heap.DictOf.new s.heap
 have hlx:(s.heap.push {cls:=.type "dict",data:=.dict #[]}).get? l=some ⟨.type "list",none,.seq its n,#[]⟩:=Ag _ hx
 have hlt:l<s.heap.objs.size:=As hx
 refine⟨hnw.typeIs,PySem.F.args_dict_init_2 _ _,?_⟩;unfold Builtin.«dict.__init__» Builtin.Dict.selfAndRest;refine Ad (Ad (wpAny_notOrdered_dict hnw.typeIs (show wpAny _ _ (pure (s.heap.objs.size,[Value.ref l])) _ _ _ from Al ?_)));show wpAny _ _ (Builtin.Dict.updateFrom "dict.__init__" s.heap.objs.size (.ref l) [] .none) _ _ _
 unfold Builtin.Dict.updateFrom;refine Ad (wpAny_typeOf (T := "list") ⟨_,hlx,rfl⟩ ?_);rw[if_pos (by decide)]
 refine Ad (bQ3 (s:={s with heap:=s.heap.push {cls:=.type "dict",data:=.dict #[]}}) hlx (show A.in1.in1.handled=none from hA) λh1 tk1 k1=>?_)
 rw[if_pos (show (none:Option Value).isNone=true from rfl)];refine Ad (wpAny_rule ?_);have hl1:h1.IsList l its:=⟨_,k1 _ _ hlx,rfl,n,rfl⟩
 refine Ad (Ea (s:={s with heap:=h1,toks:=tk1}) hl1 ?_)
 refine Al ⟨Gp eI _,Fp jY ?_⟩;rw[Fe eI _];have hd1:h1.DictOf knd s.heap.objs.size []:=by
  obtain⟨o,es,ep,ho,r⟩:=hnw;exact⟨o,es,ep,k1 _ _ ho,r⟩
 have hdl:s.heap.objs.size<h1.objs.size:=by
  obtain⟨o,_,_,ho,_⟩:=hd1;exact As ho
 have kk:∀b o,s.heap.get? b=some o->(h1.push {cls:=.type "list_iterator",data:=.fields #[.ref l,.int 0 0]}).get? b=some o:=λb o e=>Ag _ (k1 _ _ (Ag _ e))
 refine cX8 (knd:=knd) s.heap.objs.size h1.objs.size l its ps hpl (Bd hdl) (Bd (Nat.lt_trans hlt hdl)) (Bd hlt) _ 0 rfl (Cy _) [] (by show 0+its.size<=_;omega) A.in1 _ _ ⟨hA,⟨_,Av _ rfl,rfl,rfl⟩,hl1.push _,hd1.push _,λj hj=>?_,λh' tk k2 d2=>⟨rfl,?_⟩⟩
 ·obtain⟨t,key,val,k',e,⟨ot,hot,r⟩,p,q⟩:=hp j hj;have ltt:=As hot
  exact⟨t,key,val,k',e,Bd (Nat.lt_trans ltt hdl),Bd ltt,⟨ot,kk _ _ hot,r⟩,p,q⟩
 ·exact h h' tk d2 λb o e=>k2 b o (Bd (Nat.lt_trans (As e) hdl)) (Bd (As e)) (kk b o e)
def xR(H:Hp)(qs:List Addr)(kvs:List (Key×V)):Prop:=qs.length=kvs.length/\∀(j:Nat) q kv,qs[j]?=some q->kvs[j]?=some kv->H q=some (.tup [kV kv.1,kv.2])
def sR:List V->Hp->VK->Prop:=λxs H Q=>∃(p:Addr) (qs:List Addr) (kvs:List (Key×V)),xs=[.ref p]/\H p=some (.lst (qs.map V.ref))/\xR H qs kvs/\∀r,H r=none->Q (.ref r) (upd H r (.dK (fH [] kvs)))
def wA{σ:St}(I:Inv X pins σ H s):∀(kvs:List (Key×V)) (qs:List Addr),xR H qs kvs->∃rs:List (Key×Value),KV kvs rs/\∀(j:Nat) q,qs[j]?=some q->∃key val k',s.heap.IsTuple q #[key,val]/\rs[j]?=some (k',val)/\(bB X.prog X.w).is k' key=true
 | [],qs,h=>⟨[],.nil,λj q hq=>by
     have:=(Ae.mp hq).1
     rw[h.1]at this;exact absurd this (Fs _)⟩
 |kv::r,qs,h=>by
  cases qs with
  |nil=>exact absurd h.1 (by simp)
  |cons q qr=>
   obtain⟨rs,rel,hr⟩:=wA I r qr ⟨by have:=h.1;simpa using this,λj q' kv' hq hk=>h.2 (j+1) q' kv' (by simpa using hq) (by simpa using hk)⟩
   have ht:=h.2 0 q kv rfl rfl
   obtain⟨its,rv,pl,_⟩:=I.tuple (SqT.of (K:=X.K) ht);obtain⟨key,val,rfl,r1,r2⟩:=yI rv;refine⟨(kv.1,val)::rs,.cons ⟨rfl,r2⟩ rel,λj q' hq=>?_⟩;cases j with
   |zero=>
    cases hq;exact⟨key,val,kv.1,pl,rfl,pH r1⟩
   |succ j=>exact hr j q' (by simpa using hq)
def aQZ(hc:X.calm=true):CallR X (.type "dict") sR:=by
 intro pins s σ H xs us Q I r h;obtain⟨p,qs,kvs,rfl,hp,pa,q⟩:=h;obtain⟨u,rfl,ru⟩:=dI r;cases ru;obtain⟨hz,its,n,rv,hx⟩:(qs.map V.ref).length<=sizeLine/\∃(its:List Value) (n:Nat),Vals (qs.map V.ref) its/\s.heap.get? p=some {cls:=.type "list",data:=.seq its.toArray n}:=I.hok p _ hp;obtain⟨rs,rel,hr⟩:=wA I kvs qs pa;have hl:=rv.length
 have hrl:=rel.length
 have hpk:=pa.1
 rw[Ab]at hl hz;refine qB (knd:=bB X.prog X.w) (ps:=rs) hx (I.ok.hd hc) (by rw[Az];omega) (by rw[Az];omega) (λj hj=>?_) (λh' tk dd kk=>?_)
 ·have hj':j<its.length:=by simpa using hj
  have hjq:j<qs.length:=by omega
  obtain⟨u,hu,ru⟩:=rv.get (show (qs.map V.ref)[j]?=some (.ref qs[j]) by rw[Af,Aa hjq];rfl)
  obtain⟨key,val,k',a1,a2,a3⟩:=hr j _ (Aa hjq);rw[Aa hj']at hu;have ee:=Bf hu
  exact⟨qs[j],key,val,k',by simpa using ee.trans ru,a1,a2,a3⟩
 ·refine⟨.ref s.heap.objs.size,_,I.laid (a:=s.heap.objs.size) (o:=.dK (fH [] kvs)) (t':=tk) kk (Aj _) (cZD (by have:=lM kvs [];rw[Fq]at this;omega) (Cu.mpr (Ne.symm (Bd I.big))) (KV.merge rel .nil) dd),rfl,q _ (I.hok.fresh (Aj _))⟩
def zY{p:Addr}{qs:List Addr}{kvs:List (Key×V)}(hp:H p=some (.lst (qs.map V.ref)))(pa:xR H qs kvs)(h:∀r,H r=none->Q (.ref r) (upd H r (.dK (fH [] kvs)))):sR [.ref p] H Q:=⟨p,qs,kvs,rfl,hp,pa,h⟩
def wY:∀ {xs:List V} {us:List Value},us.length=xs.length->(∀(j:Nat) x u,xs[j]?=some x->us[j]?=some u->RelV x u)->Vals xs us
 |[],[],_,_=>.nil
 |x::r,u::t,hl,h=>.cons (h 0 x u rfl rfl) (wY (by simpa using hl) λj x' u' a b=>h (j+1) x' u' (by simpa using a) (by simpa using b))
 |[],_::_,hl,_=>absurd hl (by simp)
 |_::_,[],hl,_=>absurd hl (by simp)
end
section
open PySem.W
section
variable {K:Frag} {x D:Addr} {ox:Obj} {od:Option Obj}
def bZT{e t0:Addr}{vs:Array Value}{rest:List Value}{Q:Q0}(Z:ExK K D)(X:K.In s.heap)(I:InstAt s.heap e oe D od)(hb:W.subIn K (.ref D) (.type "ValueError")=some true)(hd:oe.data=.fields vs)(h0:vs[0]?=some (.ref t0))(hr:rest.length<=sizeLine)(h:Q .none {s with heap:=(s.heap.push {cls:=.type "tuple",data:=.seq rest.toArray}).update e (Obj.mapFields (·.setIfInBounds 0 (.ref s.heap.objs.size)))}):wpAny (model prog w) A (call (.builtin "ValueError.__init__") (.ref e::rest)) Q E s:=by
 have he:=I.at_
 obtain⟨cd,hc,_⟩:=any_some Z.cls;have FB:=Eb
 have L0:=I.type (M:=model prog w)
 have L1:=looks_subIn (M:=model prog w) X hb
 refine Gw (Ge FB.init.plain FB.initEntry ?_);have ck:∀(Q:Unit->Shared->Prop) (E:Q0) (B:Around),Q () s->wpAny (model prog w) B (checkBuiltinCall "ValueError.__init__" ⟨.ref e::rest,[]⟩) Q E s:=λQ E B hq=>by
  simp only[checkBuiltinCall,FB.initKind,FB.initSplit,FB.initRow];refine Ad ((L0.andThen L1).at ?_);have hst:=FB.noStar
  have sg:∀(a b:String) (n:Nat),Bind.check ⟨.positional, "*", "ValueError",.self,[⟨"args",.varPos,false⟩]⟩ a b n (List.map (λx=>x.fst) ({pos:=Value.ref e::rest}:Args).kw)=pure ():=λa b n=>check_star_args _ _ _ _ _ _
  repeat (first|wp_step)
  rw[I.cls];refine Ad ((looks_clsIn X hc).at (Al ?_));repeat (first|wp_step)
  refine Ht ?_;rw[sg];exact Al hq
 refine ck _ _ _ ?_;have hs0:0<vs.size:=(Do.mp h0).1
 have hg:=Ag (h:=s.heap) {cls:=.type "tuple",data:=.seq rest.toArray} he
 unfold Builtin.«BaseException.__init__» newTuple Builtin.BaseException.bexcPut;dsimp only;rw[if_neg (by simp)]
 refine Ad (Hk (Ad (Ad (En hg hd h0 (Ad (wpAny_setField hg hd hs0 (Gg (Al h))))))) (by show rest.toArray.size<=sizeLine;rw[Az];exact hr))
def aX8(K:Frag)(D:Addr):Option (List Value):=(clsIn K D).map (·.mro)
def zR{T:Addr}{v:Value}{h1:Heap}{m:Q5}{ns:List Str}{Q:Unit->Shared->Prop}(Z:ExK K D)(X:K.In s.heap)(I:InstAt s.heap x ox D od)(hs:findIn K (.ref D) "__setattr__"=some (some (.builtin "object.__setattr__")))(hm:aX8 K D=some [.ref D,.ref T,.type "ValueError",.type "Exception",.type "BaseException",.type "object"])(hna:findIn K (.ref D) name=some none)(hi:∀(B:Around) (Q':Option Addr->Shared->Prop) (E':Q0),Q' (some dx) {s with heap:=h1,toks:=s.toks+1}->wpAny (model prog w) B (instanceDict x true) Q' E' {s with toks:=s.toks+1})(hn:h1.Ns1 dx m)(hw:Within m ns)(hz:ns.length<sizeLine)(h:∀h' tk',h'.Ns1 dx (λy=>if y=name then some v else m y)->Heap.SameBut dx h1 h'->Q () {s with heap:=h',toks:=tk'}):wpAny (model prog w) A (setAttr (.ref x) name v) Q E s:=by
 obtain⟨cd,hc,hd'⟩:=any_some Z.cls;have hmr:cd.mro=[.ref D,.ref T,.type "ValueError",.type "Exception",.type "BaseException",.type "object"]:=by
  unfold aX8 at hm;rw[hc]at hm;exact Bf hm
 have SF:=PySem.F.store_ValueError
 have sub:Looks (model prog w) s.heap (isInstance (.ref x) (.type "object")) true:=I.type.andThen (looks_mroIn X Z.mo)
 have hmm:Looks (model prog w) s.heap (mroOf (.ref D)) cd.mro:=(looks_clsIn X hc).andThen .now
 have hx:=I.at_
 refine set_plain X I hs ?_;refine Ge SF.slot.plain SF.entry (@check_slot (model prog w) _ _ {s with toks:=s.toks+1} "object.__setattr__" "object" "__setattr__" (.ref x) [.str name s.toks,v] [] _ SF.kind SF.split sub (SF.args (.ref x) (.str name s.toks) v) ?_)
 rw[osa_eq,refuse_eq];refine Ad (Ad (I.type.here (s:={s with toks:=s.toks+1}) (Ad (hmm.here (s:={s with toks:=s.toks+1}) ?_))))
 rw[hmr,refuseLoop_ref,refuseLoop_ref,SF.passes];refine Al (Ad (I.type.here (s:={s with toks:=s.toks+1}) (Ad ((looks_findIn X hna).here (s:={s with toks:=s.toks+1}) (Ad (Al ?_))))))
 show wpAny (model prog w) A.in1 (Builtin.ObjectAttr.storeInOwnDict (Value.ref x) (Value.ref D) (Value.str name s.toks) name v false) _ _ _
 unfold Builtin.ObjectAttr.storeInOwnDict;refine Ad (Al ?_);rw[if_neg (show ¬((Value.ref D==Value.type "module")=true) by simp)]
 unfold Builtin.ObjectAttr.ownDictForStores;refine Ad (hi _ _ _ ?_);show wpAny (model prog w) A.in1 (Builtin.ObjectAttr.storeInDict dx (Value.str name s.toks) name v) _ _ _
 unfold Builtin.ObjectAttr.storeInDict Builtin.ObjectAttr.newKeyGuard;refine Ad (Al (Ad (wpAny_nsSet1 hn λh' hn' sb=>?_)));obtain⟨oD,esD,epD,hoD,hdD,hcD⟩:=hn'.count (Within.cons name v hw);refine Ad (wpAny_lookBehind hoD (by rw[hdD];exact pastItsLine_dict (Ca hcD (by rw[Au];omega))) ?_)
 exact Al (h h' _ hn' sb)
def cX5{T:Addr}{v:Value}{vs:Array Value}{Q:Unit->Shared->Prop}(Z:ExK K D)(X:K.In s.heap)(I:InstAt s.heap x ox D none)(hda:ox.data=.fields vs)(hdn:ox.dict=none)(hs:findIn K (.ref D) "__setattr__"=some (some (.builtin "object.__setattr__")))(hm:aX8 K D=some [.ref D,.ref T,.type "ValueError",.type "Exception",.type "BaseException",.type "object"])(hna:findIn K (.ref D) name=some none)(h:∀h' tk',h'.get? x=some {ox with dict:=some s.heap.objs.size}->h'.Ns1 s.heap.objs.size (λy=>if y=name then some v else none)->(∀b o,b≠x->s.heap.get? b=some o->h'.get? b=some o)->Q () {s with heap:=h',toks:=tk'}):wpAny (model prog w) A (setAttr (.ref x) name v) Q E s:=by
 obtain⟨cd,hc,hd'⟩:=any_some Z.cls;have hx:=I.at_
 have hx1:(s.heap.push {cls:=.type "dict",data:=.dict #[]}).get? x=some ox:=Ag _ hx
 have hxs:x≠s.heap.objs.size:=Bd (As hx)
 have hgd:((s.heap.push {cls:=.type "dict",data:=.dict #[]}).update x λo=>{o with dict:=some s.heap.objs.size}).get? s.heap.objs.size=some {cls:=.type "dict",data:=.dict #[]}:=
  (Heap.get?_update_ne _ _ _ _ hxs.symm).trans (Heap.get?_push_at rfl rfl)
 have hnd:((s.heap.push {cls:=.type "dict",data:=.dict #[]}).update x λo=>{o with dict:=some s.heap.objs.size}).Ns s.heap.objs.size (λ_=>none):=
  ⟨_,#[],_,hgd,rfl,λe he=>absurd he (by simp),λ_=>rfl⟩
 have hxu:((s.heap.push {cls:=.type "dict",data:=.dict #[]}).update x λo=>{o with dict:=some s.heap.objs.size}).get? x=some {ox with dict:=some s.heap.objs.size}:=by
  refine Heap.get?_update_self _ hx1 ?_;obtain⟨a,b,c,d⟩:=ox;cases hda;rfl
 refine zR Z X I hs hm hna (λB Q' E' q=>?_) (Heap.Ns1.of_empty hnd) Within.nil (by rw[Fq,Ha];omega) λh' tk' n sb=>h h' tk' ((sb.2 x hxs).trans hxu) n λb o hb e=>
  (sb.2 b (Bd (As e))).trans ((Heap.get?_update_ne _ _ _ _ hb).trans (Ag _ e))
 unfold instanceDict;refine Ad (wpAny_loadPart hx ?_);rw[I.cls];refine Ad ((looks_clsIn X hc).here (s:={s with toks:=s.toks+1}) ?_)
 rw[hd',hdn,hda,if_neg (show ¬((!true)=true) by decide)]
 dsimp only;rw[if_neg (show ¬((!true || !typeHasDict (Value.ref D))=true) by simp[typeHasDict])]
 exact Ad (wpAny_alloc' (Ad (wpAny_update' hx1 (Al q))))
def cXR{T:Addr}{v:Value}{m:Q5}{ns:List Str}{odx:Obj}{Q:Unit->Shared->Prop}(Z:ExK K D)(X:K.In s.heap)(I:InstAt s.heap x ox D (some odx))(hdn:ox.dict=some dx)(hs:findIn K (.ref D) "__setattr__"=some (some (.builtin "object.__setattr__")))(hm:aX8 K D=some [.ref D,.ref T,.type "ValueError",.type "Exception",.type "BaseException",.type "object"])(hna:findIn K (.ref D) name=some none)(hn:s.heap.Ns1 dx m)(hw:Within m ns)(hz:ns.length<sizeLine)(h:∀h' tk',h'.Ns1 dx (λy=>if y=name then some v else m y)->Heap.SameBut dx s.heap h'->Q () {s with heap:=h',toks:=tk'}):wpAny (model prog w) A (setAttr (.ref x) name v) Q E s:=by
 obtain⟨cd,hc,hd'⟩:=any_some Z.cls;refine zR Z X I hs hm hna (λB Q' E' q=>?_) hn hw hz h;unfold instanceDict;refine Ad (wpAny_loadPart I.at_ ?_);rw[I.cls];refine Ad ((looks_clsIn X hc).here (s:={s with toks:=s.toks+1}) ?_)
 rw[hd',hdn,if_neg (show ¬((!true)=true) by decide)]
 exact Al q
end
end
section
open PySem.W
def eS(ea C:Addr)(d:Option Addr):HO:=.ext λh=>∃oe vs t0,h.get? ea=some oe/\oe.cls=.ref C/\oe.dict=d/\oe.data=.fields vs/\vs[1]?=some .none/\vs[0]?=some (.ref t0)/\vs[2]?=some .none
def xdO(dx:Addr)(fs:List (Str×V)):HO:=.ext λh=>∃mA,h.Ns1 dx mA/\(∀f,RelO (fs.lookup f) (mA f))/\Within mA (fs.map (·.1))
def xB{vs:Array Value}{t0:Addr}(g:h.get? ea=some oe)(c:oe.cls=.ref C)(di:oe.dict=d)(da:oe.data=.fields vs)(h1:vs[1]?=some .none)(h0:vs[0]?=some (.ref t0))(c2:vs[2]?=some .none):ObjOk P w H h ea (eS ea C d):=⟨⟨oe,vs,t0,g,c,di,da,h1,h0,c2⟩,⟨oe,g⟩,λ_ _ ⟨o,ws,t,g,q⟩ k=>⟨o,ws,t,k o g,q⟩⟩
def bJG{fs:List (Str×V)}{mA:Q5}(n:h.Ns1 dx mA)(r:∀f,RelO (fs.lookup f) (mA f))(wi:Within mA (fs.map (·.1))):ObjOk P w H h dx (xdO dx fs):=by
 refine⟨⟨mA,n,r,wi⟩,?_,λ_ _ ⟨m,⟨o,es,ep,g,q⟩,r⟩ k=>⟨m,⟨o,es,ep,k o g,q⟩,r⟩⟩;obtain⟨o,es,ep,g,_⟩:=n;exact⟨o,g⟩
structure XcK (K:Frag) (C T:Addr):Prop where
 ex:ExK K C
 sa:findIn K (.ref C) "__setattr__"=some (some (.builtin "object.__setattr__"))
 mro:aX8 K C=some [.ref C,.ref T,.type "ValueError",.type "Exception",.type "BaseException",.type "object"]
 vb:W.subIn K (.ref C) (.type "ValueError")=some true
def dJN(K:Frag)(C T:Addr):Bool:=(clsIn K C).any λc=>match c.mro with
 |[.ref a,.ref b,.type x,.type y,.type z,.type u]=>a==C&&b==T&&x == "ValueError" && y == "Exception" && z == "BaseException" && u == "object"
 |_=>false
def aJ3{K:Frag}{T:Addr}(h:dJN K C T=true):aX8 K C=some [.ref C,.ref T,.type "ValueError",.type "Exception",.type "BaseException",.type "object"]:=by
 obtain⟨c,hc,h⟩:=any_some h;unfold aX8;rw[hc];split at h
 ·rename_i hm
  simp only[Bool.and_eq_true,beq_iff_eq]at h;obtain⟨⟨⟨⟨⟨rfl,rfl⟩,rfl⟩,rfl⟩,rfl⟩,rfl⟩:=h;exact Dk some hm
 ·cases h
def oN{D:Addr}{vs:Array Value}(hok:HOk P w H h)(g:h.get? ea=some oe)(hc:oe.cls=.ref D)(hdi:oe.dict=d)(hda:oe.data=.fields vs)(hd:∀dx,d=some dx->∃o,H dx=some o):∃od,InstAt h ea oe D od:=by
 have no:notCls oe=true:=by
  obtain⟨c,di,da,sl⟩:=oe;cases hda;rfl
 cases d with
 |none=>exact⟨none,g,hc,no,by rw[hdi];trivial⟩
 |some dx=>
  obtain⟨o,z⟩:=hd dx rfl;obtain⟨ob,g2⟩:=(hok dx o z).get;exact⟨some ob,g,hc,no,by rw[hdi];exact g2⟩
def dZN{o:HO}(e:H a=some o):upd H a o=H:=by
 funext b
 unfold upd;split
 ·rename_i z;rw[z,e]
 ·rfl
def aXI(K:Frag):List V->Hp->VK->Prop:=λvs H Q=>∃ea rest C T d,vs=.ref ea::rest/\rest.length<=sizeLine/\H ea=some (eS ea C d)/\(∀dx,d=some dx->∃o,H dx=some o)/\XcK K C T/\Q .non H
def cXJ(K:Frag)(t:TA):TE:=λσ H Q=>t σ H λvs H1=>aXI K vs H1 Q
def dQ1:CallR X (.builtin "ValueError.__init__") (aXI X.K):=by
 intro pins s σ H xs us Q I r h;obtain⟨ea,rest,C,T,d,rfl,hl,he,hd,Z,q⟩:=h;cases r with
 | @cons _ _ _ l2 r0 rr=>
  cases r0;obtain⟨oe,vs,t0,g,hc,hdi,hda,h1,h0,c2⟩:=(I.hok ea _ he).1;obtain⟨od,hI⟩:=oN I.hok g hc hdi hda hd;refine bZT Z.ex I.kIn hI Z.vb hda h0 (by rw[<-rr.length];exact hl) ?_
  have g2:=Ag (h:=s.heap) {cls:=.type "tuple",data:=.seq l2.toArray} g
  have hs0:0<vs.size:=(Do.mp h0).1
  have dm:=Obj.data_mapFields hda (·.setIfInBounds 0 (Value.ref s.heap.objs.size))
  refine⟨.non,H,?_,rfl,q⟩;have I2:=I.write (x:=ea) (e:=ea) (o:=eS ea C d) (t':=s.toks) (by rw[he];exact True.intro) (.inl rfl) (λb u hb z=>(Bt _ (Obj.mapFields (·.setIfInBounds 0 (Value.ref s.heap.objs.size))) (Ne.symm hb)).trans (Ag _ z))
   ⟨_,Heap.get?_update_self _ g2 (Obj.isFreed_of_fields dm)⟩ (xB (Heap.get?_update_self _ g2 (Obj.isFreed_of_fields dm)) (by rw[Obj.cls_mapFields];exact hc) (by rw[aQW];exact hdi) dm (by rw[Array.getElem?_setIfInBounds];simp[h1]) (t0:=s.heap.objs.size) (by simp[hs0]) ((Array.getElem?_setIfInBounds_ne (by decide)).trans c2))
  rw[dZN he]at I2;exact I2
section
variable {T:Addr} {mc:Value} {np:Pos}
def zE(hg:Gl X x)(hm:X.mg x=some (.ref T))(h1:specialIn X.K (.ref T) "__getattribute__"=some (some (.builtin "type.__getattribute__")))(h2:readsIn X.K T mc=true)(h3:findCls X.K (.ref T) mc "__init__"=some (.val (.builtin "ValueError.__init__")))(ha:PA X (e::es) t)(hdb:(x==("__debug__" : Str))=false:=by decide)(hst:starEach (e::es) X.env=(false,eval e X.env)::starEach es X.env:=by rfl)(hpl:(backTo pos (starEach es X.env)).any (·.1)=false:=by rfl)(ht:eval (.Call (.Attribute (.Name x np) "__init__" apos) (e::es) [] pos) X.env=(do
 let ov <-eval (.Name x np) X.env
 standAt apos.atName
 let (f,first) <-holding [ov] (getMethod ov "__init__" pl)
 callWith pos f first (backTo pos (starEach (e::es) X.env)) (backToKw pos (keywordEach [] X.env))):=by rfl):PE X (.Call (.Attribute (.Name x np) "__init__" apos) (e::es) [] pos) (cXJ X.K t):=by
 intro pins s σ H Q I h;refine Fu (pl:=pl) (gO I hg hm ?_ hdb) ht;refine method_cls I.kIn h1 (cls_value I.kIn h2 h3 rfl ?_);exact PyProof.Rows.callWith_builtin1 (thn (ha pos pins _ σ H _ (I.tok _) h) λus s1 ⟨vs,H1,I1,r1,q1⟩=>dQ1 pins s1 σ H1 vs us Q I1 r1 q1) hst hpl
end
def Inv.freAt{σ:St}(I:Inv X pins σ H s)(h:s.heap.objs.size<=a):Fre X pins a where
 s0:=Gb (Ca I.sz h)
 loc:=λz=>absurd (Bc I.lt h) (by rw[z];exact Ct _)
 cell:=λx c e z=>by
  obtain⟨_,o,g,_⟩:=I.cell x c e;exact absurd (Bc (As g) h) (by rw[z];exact Ct _)
 pin:=λp hp z=>absurd (Bc (As (I.pin p hp).1) h) (by rw[z];exact Ct _)
def dX0(K:Frag)(ta tv:TE)(f:Str):TS:=λD σ H=>tv σ H λy H1=>ta σ H1 λx H2=>∃ea C T,x=.ref ea/\XcK K C T/\findIn K (.ref C) f=some none/\
 ((H2 ea=some (eS ea C none)/\∀dx,H2 dx=none->D.nx σ (upd (upd H2 ea (eS ea C (some dx))) dx (xdO dx [(f,y)])))\/
  (∃dx fs,H2 ea=some (eS ea C (some dx))/\H2 dx=some (xdO dx fs)/\fs.length<100/\D.nx σ (upd H2 dx (xdO dx ((f,y)::fs)))))
def vF{f g:Str}{fs:List (Str×V)}:List.lookup g ((f,y)::fs)=if g=f then some y else fs.lookup g:=by
 rw[De];by_cases z:g=f
 ·rw[if_pos z,z];simp
 ·rw[if_neg z];have:(g==f)=false:=by simpa using z
  rw[this]
def wD{o value:Expr}{f:Str}{pos':Pos}{ta:TE}(ha:PE X o ta)(hv:PE X value tv)(hs:swapsWith value (some (.Attribute o f pos')) pos.line X.env=pure false):PS X (.Assign [.Attribute o f pos'] value pos) (dX0 X.K ta tv f):=by
 intro pins s σ H D I h;refine plainObj_wpAny_Assign_Attribute (thn (hv pins s σ H _ I h) λu s1 ⟨y,H1,I1,ry,q⟩=>thn (ha pins s1 σ H1 _ I1 q) λov s2 ⟨x,H2,I2,rx,ea,C,T,ex,Z,hn,q2⟩=>?_) hs;subst ex;obtain rfl:ov=Value.ref ea:=rx;rcases q2 with⟨he,q3⟩|⟨dx,fs,he,hdx,hl,q3⟩
 ·obtain⟨oe,vs,t0,g,hc,hdi,hda,h1,h0,c2⟩:=(I2.hok ea _ he).1;obtain⟨od,hI⟩:=oN I2.hok g hc hdi hda (λ_ z=>nomatch z)
  have hod:od=none:=by
   have z:=hI.dict
   rw[hdi]at z;cases od with
   |none=>rfl
   |some o=>exact z.elim
  subst hod;refine cX5 Z.ex I2.kIn hI hda hdi Z.sa Z.mro hn λh' tk' gx ns kp=>?_;have fr:=I2.freAt (Aj _)
  have hfree:H2 s2.heap.objs.size=none:=I2.hok.fresh (Aj _)
  have ne:s2.heap.objs.size≠ea:=λz=>by rw[z,he]at hfree;cases hfree
  have I3:=I2.write (x:=ea) (e:=ea) (o:=eS ea C (some s2.heap.objs.size)) (h':=h') (t':=tk') (by rw[he];exact True.intro) (.inl rfl) kp ⟨_,gx⟩ (xB gx hc rfl hda h1 h0 c2)
  have I4:=I3.adopt (a:=s2.heap.objs.size) (o:=xdO s2.heap.objs.size [(f,y)]) fr (by rw[aG ne];exact hfree) (bJG ns (λg=>by
   rw[vF];split
   ·exact ry
   ·exact True.intro) (λg hg=>by
   by_cases z:g=f
   ·rw[z];exact Ap.mpr rfl
   ·exact absurd (show (if g=f then some u else none)=none by rw[if_neg z]) hg))
  exact⟨σ,_,I4,q3 _ hfree⟩
 ·obtain⟨oe,vs,t0,g,hc,hdi,hda,h1,h0,c2⟩:=(I2.hok ea _ he).1;obtain⟨mA,n,r,wi⟩:=(I2.hok dx _ hdx).1;obtain⟨od,hI⟩:=oN I2.hok g hc hdi hda (λz e=>by cases e;exact⟨_,hdx⟩)
  have hod:∃o,od=some o:=by
   have z:=hI.dict
   rw[hdi]at z;cases od with
   |none=>exact z.elim
   |some o=>exact⟨o,rfl⟩
  obtain⟨o,rfl⟩:=hod;refine cXR Z.ex I2.kIn hI hdi Z.sa Z.mro hn n wi (by rw[Ab,Ha];omega) λh' tk' ns sb=>?_
  have hd':∃o,h'.get? dx=some o:=let ⟨o,_,_,e',_⟩:=ns;⟨o,e'⟩
  have I3:=I2.write (x:=dx) (e:=dx) (o:=xdO dx ((f,y)::fs)) (h':=h') (t':=tk') (by rw[hdx];exact True.intro) (.inl rfl) (λb q hb z=>(sb.2 b hb).trans z) hd' (bJG ns (λg=>by
   rw[vF];split
   ·exact ry
   ·exact r g) (λg hg=>by
   by_cases z:g=f
   ·rw[z];exact Ak
   ·refine Ai _ (wi g λz2=>hg ?_);show (if g=f then some u else mA g)=none
    rw[if_neg z];exact z2))
  exact⟨σ,_,I3,q3⟩
end
section
open PySem.W
def aQ8(K:Frag)(C:Addr)(bmB:List Value)(newId:String):Bool:=
 match K.lookup C with
 |some ⟨.type t,_,.cls c,sl⟩=>t == "type" && !c.hasDel&&nsOkIn K c.ns &&
  (match c.mro with|.ref C1::bm=>C1==C&&tailIn K bmB bm|_=>false)&&(match sl.toList with|[_,_,_,_,some (.builtin n),_]=>n==newId|_=>false)
 |_=>false
def dJ1{K:Frag}(X:K.In h)(q:aQ8 K C bmB newId=true):∃bm N nm qn bs hd sn sub ab col dd k0 k1 k2 k3 k5,h.get? C=some (excClassObj nm qn C N bs bm hd sn sub ab col dd k0 k1 k2 k3 k5 newId)/\OwnTail h bmB bm:=by
 unfold aQ8 at q;split at q
 ·rename_i t dd c sl ho
  simp only[Bool.and_eq_true,beq_iff_eq,Bool.not_eq_true']at q;obtain⟨⟨⟨⟨rfl,q1⟩,q2⟩,q3⟩,q4⟩:=q;split at q3
  ·rename_i C1 bm hm
   obtain⟨rfl,q5⟩:C1=C/\tailIn K bmB bm=true:=by simpa only[Bool.and_eq_true,beq_iff_eq]using q3
   split at q4
   ·rename_i k0 k1 k2 k3 n k5 hs
    obtain rfl:n=newId:=by simpa using q4
    obtain⟨nm,bs,mro,ns,qn,hd,sn,sub,ab,col,del⟩:=c;dsimp only at hm q1 q2;subst hm q1;obtain⟨l⟩:=sl;cases (show l=_ from hs);exact⟨bm,ns,nm,qn,bs,hd,sn,sub,ab,col,dd,k0,k1,k2,k3,k5,X _ _ ho,tail_of_in X q5⟩
   ·cases q4
  ·cases q3
 ·cases q
section
variable {K:Frag} {B initId:String}
def bXP{rest:List Value}{Q:Fin->Shared->Prop}(FB:ExcBaseFacts B newId initId bmB)(X:K.In s.heap)(hx:aQ8 K C bmB newId=true)(hi:findIn K (.ref C) "__init__"=some (some (.ref f)))(hf:typeIn K (.ref f)=some (.type "function"))(hr:rest.length<=sizeLine)(hq:∀h' e,Heap.MadeExcOf s.heap h' e (.ref C) rest->wpAny (model prog w) A (call (.ref f) (.ref e::rest)) (λr s'=>r=.none/\Q (.done (.ret (.ref e))) s') E {s with heap:=h'}):wpAny (model prog w) A (Builtin.«type.__call__» ⟨.ref C::rest,[]⟩) Q E s:=by
 obtain⟨h,g,d,t,os⟩:=s;obtain⟨bm,N,nm,qn,bs,hd,sn,sub,ab,col,dd,k0,k1,k2,k3,k5,hC,Tl⟩:=dJ1 X hx;repeat (first|with_reducible refine wpAny_madeBy_exc hC ?_|with_reducible refine Fz hC ?_|wp_step)
 refine codeAny_call_builtin_code (Code.quiet_builtin _ FB.quiet) (wpAny_check_new_subT FB Tl hC (codeAny_exc_new_subT FB Tl hC ?_ hr));show wpAny _ _ _ _ _ _
 generalize hh1:(h.push {cls:=.type "tuple",data:=.seq rest.toArray}).push {cls:=.ref C,data:=.fields #[.ref h.objs.size,.none,.none,.none,.bool false,.none]}=h1;have kp:∀b o,h.get? b=some o->h1.get? b=some o:=λb o e=>by rw[<-hh1];exact Ag _ (Ag _ e)
 have dO:h1.get? (h.objs.size+1)=some {cls:=.ref C,data:=.fields #[.ref h.objs.size,.none,.none,.none,.bool false,.none]}:=by rw[<-hh1];heap_get
 have X1:=X.keeps kp
 have hC1:=kp _ _ hC
 have hcC:(Value.ref C::bm).contains (.ref C)=true:=by simp
 unfold isInstance;repeat (first|(with_reducible refine wpAny_isSubtype_exc hC1 ?_;rw[hcC])|with_reducible refine Fz dO ?_|wp_step)
 show wpAny _ _ (typeLookup (.ref C) _) _ _ _
 refine(looks_findIn X1 hi).here (s:=⟨h1,g,d,t,os⟩) (Da (Ad ?_));unfold bindSpecial;refine Ad ((looks_typeIn X1 hf).here (s:=⟨h1,g,d,t,os⟩) ?_);rw[if_pos (by decide)]
 refine Al (Ad (Cg (hq h1 (h.objs.size+1) ⟨kp,Gb (Hv _),h.objs.size,dO,Gb (Aj _),?_⟩) (λr s' hr=>?_) λ_ _ z=>z))
 ·rw[<-hh1];exact Ag _ (Heap.get?_push_at rfl rfl)
 ·obtain⟨rfl,z⟩:=hr
  wp_walk
  exact z
def cXS{rest:List Value}{Q:Q0}(FB:ExcBaseFacts B newId initId bmB)(X:K.In s.heap)(hx:aQ8 K C bmB newId=true)(hi:findIn K (.ref C) "__init__"=some (some (.ref f)))(hf:typeIn K (.ref f)=some (.type "function"))(hr:rest.length<=sizeLine)(hq:∀h' e,Heap.MadeExcOf s.heap h' e (.ref C) rest->wpAny (model prog w) (A.under (.builtin "type.__call__" ⟨.ref C::rest,[]⟩)) (call (.ref f) (.ref e::rest)) (λr s'=>r=.none/\Q (.ref e) s') E {s with heap:=h'}):wpAny (model prog w) A (call (.ref C) rest) Q E s:=by
 have X0:=X
 obtain⟨h,g,d,t,os⟩:=s;obtain⟨bm,N,nm,qn,bs,hd,sn,sub,ab,col,dd,k0,k1,k2,k3,k5,hC,Tl⟩:=dJ1 X hx;have c1:=tc_lookup
 have c2:=tc_bind (.ref C)
 have c3:(⟨h,g,d,t,os⟩:Shared).TypeIs (.ref C) "type" := ⟨_,hC,rfl⟩
 refine Gw (codeAny_of_tree ?_);show wpAny _ _ (callAny (.ref C) _) _ _ _
 repeat (any_goals (first|with_reducible refine Fz hC ?_|assumption|wp_step))
 exact⟨rfl,codeAny_call_builtin_at (Code.quiet_builtin _ (by decide +kernel)) entry_typeCall (wpAny_check_type_call_sub hC (bXP FB X0 hx hi hf hr λh' e hm=>hq h' e hm))⟩
def bXB{x:Sem Value}{Q:Flow->Shared->Prop}(hh:A.handled=none)(h:wpAny (model prog w) A x (λv s1=>∃e oe vs bm N nm qn bs hd sn sub ab col dd k0 k1 k2 k3 k5,v=.ref e/\s1.heap.get? C=some (excClassObj nm qn C N bs bm hd sn sub ab col dd k0 k1 k2 k3 k5 newId)/\bm.contains (.type "BaseException")=true/\
 s1.heap.get? e=some oe/\oe.cls=.ref C/\oe.data=.fields vs/\vs[1]?=some .none/\E (.ref e) s1) E s):wpAny (model prog w) A (raiseStmt env (some x) none) Q E s:=by
 unfold raiseStmt;refine Ad (Cg h (λv s1 q=>?_) λ_ _ z=>z);obtain⟨e,oe,vs,bm,N,nm,qn,bs,hd,sn,sub,ab,col,dd,k0,k1,k2,k3,k5,rfl,hC,hb,he,hc,hda,h1,hE⟩:=q;obtain⟨hp,g,d,tk,os⟩:=s1;obtain⟨oc,odi,oda,osl⟩:=oe;dsimp only at hc hda;subst hc hda;have hcB:(Value.ref C::bm).contains (.type "BaseException")=true:=by rw[List.contains_cons,hb,Bool.or_true]
 repeat (first|with_reducible refine Fz hC ?_|with_reducible refine Fz he ?_|(with_reducible refine wpAny_isSubtype_exc hC ?_;rw[hcB])|wp_step)
 rw[h1];refine Al ?_;rw[if_neg (show ¬((Value.none != Value.none)=true) by decide)]
 exact Al (wpAny_raiseNew_none hh hE)
end
def del(H:Hp)(a:Addr):Hp:=λb=>if b=a then none else H b
def fN(h:b≠a):del H a b=H b:=if_neg h
def yK:del H a a=none:=if_pos rfl
section
variable {σ:St}
def Inv.drop{φ:Heap->Prop}(I:Inv X pins σ H s)(e:H ea=some (.ext φ)):Inv X pins σ (del H ea) s:=by
 have ne:∀b u,H b=some u->(∀ψ,u≠.ext ψ)->b≠ea:=λb u q n z=>by
  rw[z,e]at q;cases q;exact n φ rfl
 refine I.re (λb n=>?_) (λb xs q=>?_) (λb o u q=>?_) (λb ps q=>?_) λb o q=>?_
 ·unfold del;split
  ·rfl
  ·exact n
 ·have q1:=I.base.tups b xs q
  rw[fN (ne b _ q1 λ_ z=>nomatch z)]
  exact q1
 ·have q1:=I.base.frzs b o u q
  rw[fN (ne b _ q1 λ_ z=>nomatch z)]
  exact q1
 ·obtain⟨m,q1⟩:=I.base.tbls b ps q;exact⟨m,by rw[fN (ne b _ q1 λ_ z=>nomatch z)];exact q1⟩
 ·have hb:b≠ea:=λz=>by rw[z,yK]at q;cases q
  rw[fN hb]at q;exact(I.hok b o q).stay (λ_ _ _ z=>z) (λc z=>by rw[fN (ne c _ z λ_ z=>nomatch z)];exact z) λc xs z=>by rw[fN (ne c _ z λ_ z=>nomatch z)];exact z
def Inv.freNew(I:Inv X pins σ H s)(hex:X.ex=[])(h:s.heap.get? a=none):Fre X pins a where
 s0:=by
  cases z:X.s₀.heap.get? a with
  |none=>rfl
  |some o=>
   obtain⟨o',z'⟩:=I.base.there a o z (by rw[hex];simp)
   rw[h]at z';cases z'
 loc:=λz=>by
  obtain⟨m,⟨o,_,_,g,_⟩,_⟩:=I.loc;rw[<-z,h]at g;cases g
 cell:=λx c e z=>by
  obtain⟨_,o,g,_⟩:=I.cell x c e;rw[z,h]at g;cases g
 pin:=λp hp z=>by
  have g:=(I.pin p hp).1
  rw[z,h]at g;cases g
end
def bJV(P:Program)(w:World)(K:W.Frag)(mg:Str->Option Value)(base:Heap)(k:Nat)(C:Addr)(ps:List Str)(sp:Sp):Prop:=
 ∃(f:Addr) (fd:FuncData),FnOk P w K mg base CX0 k f fd ps sp/\findIn K (.ref C) "__init__"=some (some (.ref f))/\typeIn K (.ref f)=some (.type "function")/\Binds K fd ps []
structure XmK (K:Frag) (C:Addr):Prop where
 obj:aQ8 K C [.type "ValueError",.type "Exception",.type "BaseException",.type "object"] "ValueError.__new__"=true
 kp:keepIn K (.ref C)=true
def aZV(C:Addr)(sp:Sp)(E:XK)(ta:TA):TS:=λ_ σ H=>ta σ H λvs H1=>vs.length<=sizeLine/\∀ea,H1 ea=none->sp (.ref ea::vs) (upd H1 ea (eS ea C none)) (λv H2=>v=.non/\∃d,H2 ea=some (eS ea C d)/\E (.ref C) d (del H2 ea)) E0
section
variable {E:XK} {np:Pos} {k:Nat} {ps:List Str}
def bZF{σ:St}{G:Addr->VK}{R:Q0}(hex:X.ex=[])(M:XmK X.K C)(c:bJV X.prog X.w X.K X.mg X.base k C ps sp)(hr:Room (k+1) X.A)(I1:Inv X pins σ H1 s1)(r:Vals vs us)(hl:vs.length<=sizeLine)(q:∀ea,H1 ea=none->sp (.ref ea::vs) (upd H1 ea (eS ea C none)) (G ea) E0)(hR:∀ea H2 s2,X.s₀.heap.get? ea=none->Inv X pins σ H2 s2->(G ea) .non H2->R (.ref ea) s2)(hG:∀ea v H2,G ea v H2->v=.non):wpAny (model X.prog X.w) X.A (call (.ref C) us) R X.xe s1:=by
 obtain⟨f,fd,F,hi,hf,hb⟩:=c;refine cXS Eb I1.kIn M.obj hi hf (by rw[<-r.length];exact hl) λh' ea hm=>?_
 obtain⟨t,g,_,_⟩:=hm.there;have hole:H1 ea=none:=I1.hok.hole hm.new
 have fr:=I1.freNew hex hm.new
 have I2:=(I1.kept (t':=s1.toks) hm.keeps).adopt (o:=eS ea C none) fr hole (xB g rfl rfl rfl rfl rfl rfl)
 have r2:Vals (V.ref ea::vs) (Value.ref ea::us):=.cons rfl r
 have hq:=q ea hole
 have hl2:((Value.ref ea::us)++[]).length=ps.length:=by rw[Bs,<-r2.length];exact F.len _ _ _ _ hq
 have hbb:=hb {s1 with heap:=h'} (Value.ref ea::us) I2.kIn hl2
 rw[Bs]at hbb;refine Gw (Fc (F.run _ X.stack {s1 with heap:=h'} _ ⟨Value.ref ea::us,[]⟩ (Value.ref ea::us) (V.ref ea::vs) _ E0 (hr.make C us []) (I2.env0.make C us []) hbb r2 hq) λrr s' hq'=>?_)
 cases rr with
 |error e=>exact False.elim hq'
 |ok fl=>
  cases fl with
  |ret u=>
   obtain⟨v,H',I3,rv,q3⟩:=I2.after hq';have ev:=hG ea v H' q3
   subst ev;exact⟨rv,hR ea H' s' fr.s0 I3 q3⟩
  |next=>exact False.elim hq'
  |brk=>exact False.elim hq'
  |cont=>exact False.elim hq'
def uX(hR:dZ1 X E)(hex:X.ex=[])(hc:X.calm=true)(hg:Gl X x)(hm:X.mg x=some (.ref C))(M:XmK X.K C)(c:bJV X.prog X.w X.K X.mg X.base k C ps sp)(hr:Room k' X.A)(hkk:k+1<=k')(ha:PA X (e::es) ta)(hd:(x==("__debug__" : Str))=false:=by decide)(he:starEach (e::es) X.env=(false,eval e X.env)::starEach es X.env:=by rfl)(hpl:(backTo cpos (starEach es X.env)).any (·.1)=false:=by rfl):PS X (.Raise (some (.Call (.Name x np) (e::es) [] cpos)) none pos) (aZV C sp E ta):=by
 intro pins s σ H D I h;rw [arm_exec_Raise];simp only [evalOpt,Option.map];refine Ad (Fg (bXB (C:=C) (newId := "ValueError.__new__") (I.ok.hd hc) ?_));refine Ad (Cg (Q:=λv s1=>∃ e oe vs bm N nm qn bs hd sn sub ab col dd k0 k1 k2 k3 k5,v=.ref e/\s1.heap.get? C=some (excClassObj nm qn C N bs bm hd sn sub ab col dd k0 k1 k2 k3 k5 "ValueError.__new__")/\bm.contains (.type "BaseException")=true/\
     s1.heap.get? e=some oe/\oe.cls=.ref C/\oe.data=.fields vs/\vs[1]?=some .none/\X.xe (.ref e) s1) ?_ (λv s3 h3=>Ad (Fg (Al h3))) λ_ _ z=>z)
 refine Du (gO I hg hm ?_ hd);refine Gx (h₀:=X.base) I.ok.mod.kin M.kp (thn (ha cpos pins s σ H _ I h) λus s1 ⟨vs,H1,I1,r,hl,q⟩=>⟨I1.kIn,?_⟩) he hpl;refine bZF hex M c (hr.mono hkk) I1 r hl q (λea H' s' s0 I3 q3=>?_) λea v H2 z=>z.1;obtain⟨_,d,e2,q3⟩:=q3;obtain⟨oe,ws,t0,g2,hc2,hdi,hda,h1,h0,c2⟩:=(I3.hok ea _ e2).1;obtain⟨bm,N,nm,qn,bs,hdct,sn,sub,ab,col,dd,k0,k1,k2,k3,k5,hC,Tl⟩:=dJ1 I3.kIn M.obj;refine⟨ea,oe,ws,bm,N,nm,qn,bs,hdct,sn,sub,ab,col,dd,k0,k1,k2,k3,k5,rfl,hC,Tl.hasType PySem.F.excBase_ValueError.hasBase,g2,hc2,hda,h1,?_⟩;exact hR pins σ (del H' ea) s' ea oe ws (I3.drop e2) g2 hda h1 c2 yK s0 (by rw[hc2,hdi];exact q3)
end
def aQO(st:Stmt)(j:Nat):Stmt:=
 match st with
 |.ClassDef _ _ _ body _ _ _ _ _ _ _=>body.getD j (.Pass ⟨0,0,0,0⟩)
 |s=>s
section
variable {T:Addr} {σ:St} {D':Ends} {E:XK} {f:Str}
def cZ6(h:ta σ H λvs H1=>aXI K vs H1 Q):cXJ K ta σ H Q:=h
def bZJ(h:ta σ H λvs H1=>vs.length<=sizeLine/\∀ea,H1 ea=none->sp (.ref ea::vs) (upd H1 ea (eS ea C none)) (λv H2=>v=.non/\∃d,H2 ea=some (eS ea C d)/\E (.ref C) d (del H2 ea)) E0):aZV C sp E ta D' σ H:=h
def dZI(h:tv σ H λy H1=>te σ H1 λx H2=>∃ea C T,x=.ref ea/\XcK K C T/\W.findIn K (.ref C) f=some none/\
 ((H2 ea=some (eS ea C none)/\∀dx,H2 dx=none->D'.nx σ (upd (upd H2 ea (eS ea C (some dx))) dx (xdO dx [(f,y)])))\/
  (∃dx fs,H2 ea=some (eS ea C (some dx))/\H2 dx=some (xdO dx fs)/\fs.length<100/\D'.nx σ (upd H2 dx (xdO dx ((f,y)::fs)))))):dX0 K te tv f D' σ H:=h
end
end
section
open PySem.AutoSeq1 (wpAny_loadPart')
def aX7(z:Str)(tz:Tok)(k:Int)(t:Tok)(ha:z.cps.all (· < 128)=true)(hk:Builtin.SmallTypes.fitsIndex k=true):Meets (Builtin.«enumerate.__new__» ⟨[.type "enumerate",.str z tz],[("start",.int k t)]⟩) (λ_ R s=>
 R (.ok (.ret (.ref (s.heap.push {cls:=.type "str_ascii_iterator",data:=.fields #[.str z tz,.int 0 0]}).objs.size)))
  {s with heap:=(s.heap.push {cls:=.type "str_ascii_iterator",data:=.fields #[.str z tz,.int 0 0]}).push ⟨.type "enumerate",none,.fields #[.none,.bool false,.ref s.heap.objs.size,rawInt k,.none,.none],#[]⟩}):=
 .of_wp λprog w A R s h=>by
  obtain⟨hp,g,d,tk,os⟩:=s;have hsub:=sub_enumerate
  have hk':(!Builtin.SmallTypes.fitsIndex k)=false:=by rw[hk];rfl
  wp_walk
  refine wpAny_stack_any λst=>Al ?_;refine cX4 ?_ ?_ <;>
  ·wp_walk using (wpAny_pyIter_ascii (s:=⟨hp,g,d,tk,os⟩) ha)
   exact⟨_,rfl,h⟩
def uF{tz:Tok}{k:Int}{t:Tok}{Q:Q0}(ha:z.cps.all (· < 128)=true)(hk:Builtin.SmallTypes.fitsIndex k=true)(h:∀h',IsEnum h' (s.heap.objs.size+1) s.heap.objs.size k .none->h'.IsStrIter s.heap.objs.size "str_ascii_iterator" z tz 0->h'.objs.size=s.heap.objs.size+2->(∀b o,s.heap.get? b=some o->h'.get? b=some o)->Q (.ref (s.heap.objs.size+1)) {s with heap:=h'}):wpAny (model prog w) A (call (.type "enumerate") [.str z tz] [("start",.int k t)]) Q E s:=by
 have hz:(s.heap.push {cls:=.type "str_ascii_iterator",data:=.fields #[.str z tz,.int 0 0]}).objs.size=s.heap.objs.size+1:=Et ..
 refine oE (Q1:=λo s1=>s1.TypeIs o "enumerate"/\Q o s1) F.called_enumerate (by kernel_rfl) (by kernel_rfl) F.entry_enumerate_new (aX7 z tz k t ha hk) ?_ λo s1 hq=>⟨hq.1,?_,_,aZ8 F.called_enumerate.init.lookup F.called_enumerate.made (by decide),hq.1,rfl,hq.2⟩
 ·show _/\_
  rw[hz];have he:IsEnum ((s.heap.push {cls:=.type "str_ascii_iterator",data:=.fields #[.str z tz,.int 0 0]}).push ⟨.type "enumerate",none,.fields #[.none,.bool false,.ref s.heap.objs.size,rawInt k,.none,.none],#[]⟩) (s.heap.objs.size+1) s.heap.objs.size k .none:=by
   have q:=Av (s.heap.push {cls:=.type "str_ascii_iterator",data:=.fields #[.str z tz,.int 0 0]}) (o:=⟨.type "enumerate",none,.fields #[.none,.bool false,.ref s.heap.objs.size,rawInt k,.none,.none],#[]⟩) rfl
   rwa [hz]at q
  exact⟨⟨_,he,rfl⟩,h _ he ⟨_,Ag _ (Av _ rfl),rfl,rfl⟩ (by rw[Et,hz]) λb o x=>Ag _ (Ag _ x)⟩
 ·unfold argsOk;rw[signature?_of (n:=['_','_','t','i','n','i','_','_']) (o := "tcejbo".toList) (by kernel_rfl) F.owner_object]
  kernel_rfl
def cQ9(z:Str)(k:Nat):It:=
 ⟨λi _=>i<z.cps.size,λi H v H'=>∃p c,H p=none/\v=.ref p/\H'=upd H p (.tup [.int ((k+i:Nat):Int),.str ⟨#[c]⟩])/\z.cps[i]?=some c,λi _=>z.cps.size=i⟩
def aXX(z:Str)(tz:Tok)(e it:Addr)(k:Nat)(hei:e≠it):Turn P w K (.Tuple elts x1 tp) (cQ9 z k) [e,it] e (λi h=>(∃old,IsEnum h e it ((k+i:Nat):Int) old)/\h.IsStrIter it "str_ascii_iterator" z tz i) where
 mem:=by simp
 obj:=λi h st b hb=>by
  obtain⟨⟨old,he⟩,o,ho,c,d⟩:=st;rcases Be.mp hb with z|z
  ·subst z;exact⟨_,he,λv z=>by cases z⟩
  ·rw[Ap.mp z];exact⟨o,ho,λv z=>by rw[d]at z;cases z⟩
 keep:=λi h h' st kk=>⟨let ⟨old,he⟩:=st.1;⟨old,kk e (by simp) _ he⟩,let ⟨o,ho,r⟩:=st.2;⟨o,kk it (by simp) o ho,r⟩⟩
 item:=by
  intro X hP hw hK hc i pins s σ H E I hf st hg;subst hP hw hK;obtain⟨⟨old,he⟩,hit⟩:=st;have hi:i<z.cps.size:=hg
  have D:=gQ k (Draws.strAscii (prog:=X.prog) (w:=X.w) (A:=X.A.in1) (show X.A.in1.handled=none from I.ok.hd hc) it z tz)
  refine wpAny_pyNext_enum_itemD D (i:=k+i) he ⟨Fj _ _,by rw[Dn];exact hit⟩ (by omega) hei (λz=>hei (Ap.mp z)) λy h1 tk hP ho hS hT hsz kk=>?_
  refine⟨_,rfl,wpAny_letOwnedTupleGo_enum ho λh2 he2 hs2=>?_⟩;obtain⟨c,u,hcu,rfl⟩:=hP;rw[Dn]at hcu;have hTe:s.heap.objs.size≠e:=Dz (As he)
  have hTi:s.heap.objs.size≠it:=by obtain⟨o,q,_⟩:=hit;exact Dz (As q)
  have hT2:h2.get? s.heap.objs.size=some {cls:=.type "tuple",data:=.seq #[.int ((k+i:Nat):Int) tk,.str ⟨#[c]⟩ u]}:=(hs2.2 _ hTe).trans hT
  have hS':h1.IsStrIter it "str_ascii_iterator" z tz (i+1):=by
   have q:=hS.2
   rwa [show k+i+1-k=i+1 by omega]at q
  have I2:Inv X pins σ (upd H s.heap.objs.size (.tup [.int ((k+i:Nat):Int),.str ⟨#[c]⟩])) {s with heap:=h2,toks:=tk+1}:=by
   refine I.turnLaid (ch:=[e,it]) hf (λb u hb q=>(hs2.2 b (λz=>hb (by simp[z]))).trans (kk b u (λz=>hb (by simp[z])) (λz=>hb (by simp[z])) q)) (Nat.le_refl _) ⟨bJ (by show 2<=_;omega),[.int ((k+i:Nat):Int) tk,.str ⟨#[c]⟩ u],.cons ⟨tk,rfl⟩ (.cons ⟨u,rfl⟩ .nil),_,hT2,rfl,_,rfl⟩
  refine⟨.ref s.heap.objs.size,_,I2,rfl,⟨_,c,I.hok.fresh (Aj _),rfl,rfl,hcu⟩,⟨⟨_,he2⟩,let ⟨o,ho,r⟩:=hS';⟨o,(hs2.2 it hei.symm).trans ho,r⟩⟩,λb hb=>?_⟩
  rcases Be.mp hb with z|z
  ·rw[z,aG hTe.symm];exact(hf e (by simp)).1
  ·rw[List.mem_singleton.mp z,aG hTi.symm];exact(hf it (by simp)).1
 done:=by
  intro X hP hw hK hc i pins s σ H E I hf st hg;subst hP hw hK;have hx:z.cps.size=i:=hg
  obtain⟨⟨old,he⟩,hit⟩:=st;have D:=gQ k (Draws.strAscii (prog:=X.prog) (w:=X.w) (A:=X.A.in1) (show X.A.in1.handled=none from I.ok.hd hc) it z tz)
  refine wpAny_pyNext_enum_endD D he ⟨Fj _ _,by rw[Dn,hx];exact hit⟩ λh' eb=>⟨rfl,?_⟩
  exact I.turnAll (t':=s.toks) (ch:=[e,it]) hf λb u hb q=>eb b u (λz=>hb (by simp[z])) q
 self:=λ_ _ _ _ _ st h=>let ⟨⟨_,he⟩,_⟩:=st;Hl he h
section
variable {p kp:Pos}
def bXT(R:Addr->Hp->Prop)(S:Str->Hp->Prop):List V->Hp->Prop:=λvs H=>match vs with|[.ref j]=>R j H|[.str z]=>S z H|_=>False
def cJW{R:Addr->Hp->Prop}(q:bXT R S vs H):(∃j,vs=[.ref j]/\R j H)\/(∃z,vs=[.str z]/\S z H):=by
 unfold bXT at q;split at q
 ·exact .inl ⟨_,rfl,q⟩
 ·exact .inr ⟨_,rfl,q⟩
 ·exact q.elim
def bJO(K:W.Frag)(ta tk:TA):TI:=λσ H R=>ta σ H (bXT (λa H1=>tk σ H1 (rK λk H2=>(0<=k/\k<2^62)/\onL (rdL H2 a) (R (Ite K a k.toNat) H2))) λz H1=>tk σ H1 (rK λk H2=>(0<=k/\k<2^62)/\z.cps.all (· < 128)=true/\R (cQ9 z k.toNat) H2))
def cX7{σ:St}{tz:Tok}{k:Nat}(I1:Inv X pins σ H1 s1)(he:IsEnum h' (s1.heap.objs.size+1) s1.heap.objs.size ((k:Nat):Int) .none)(hi:h'.IsStrIter s1.heap.objs.size "str_ascii_iterator" z tz 0)(hz:h'.objs.size=s1.heap.objs.size+2)(hk:∀b o,s1.heap.get? b=some o->h'.get? b=some o)(q:R (cQ9 z k) H1):wpAny (model X.prog X.w) X.A (pyIter (.ref (s1.heap.objs.size+1))) (PIE X pins σ (.Tuple elts x1 tp) R) E {s1 with heap:=h'}:=by
 refine Hl (s:={s1 with heap:=h'}) he ⟨_,[s1.heap.objs.size+1,s1.heap.objs.size],_,_,H1,rfl,I1.kept (t':=s1.toks) hk,aXX z tz _ _ k (Nat.succ_ne_self _),⟨⟨_,he⟩,hi⟩,λb hb=>?_,q⟩
 have z:s1.heap.objs.size<=b:=by
  rcases Be.mp hb with z|z
  ·rw[z];exact Hv _
  ·rw[Ap.mp z];exact Aj _
 exact I1.fpOk z (I1.hok.fresh z)
def aQR{kx:Expr}(hg:Gl X "enumerate")(hm:X.mg "enumerate"=none)(ha:PA X [l] ta)(hk:PK X [⟨some "start",kx,kp⟩] tk)(hs:starEach [l] X.env=[(false,eval l X.env)]:=by rfl)(hks:keywordEach [⟨some "start",kx,kp⟩] X.env=[(some ("start" : Str),eval kx X.env)]:=by rfl):PI X (.Tuple elts x1 tp) (.Call (.Name "enumerate" p) [l] [⟨some "start",kx,kp⟩] pos) (bJO X.K ta tk):=by
 intro pins s σ H R I h;have hs2:backTo pos (starEach [l] X.env)=[(false,eval l X.env)]:=by rw[hs];rfl
 refine Du (gC I hg hm boot_enumerate (oC (by rw[hs2];rfl) (by rw[hks];rfl) ?_))
 rw[hs2];refine evalArgs_kwB (by rw[hks];rfl) ?_
 rw[<-hs2];refine thn (ha pos pins s σ H _ I h) λus s1 ⟨vs,H1,I1,r1,q1⟩=>?_;have e:(backToKw pos (keywordEach [⟨some "start",kx,kp⟩] X.env)).filterMap (·.1)=(["start"]:List Str):=by rw[hks];rfl
 rcases cJW q1 with⟨a,rfl,q⟩|⟨z,rfl,q⟩
 ·refine thn (hk pos pins s1 σ H1 _ I1 q) λws s2 ⟨zs,H2,I2,r2,q2⟩=>?_;obtain⟨k,rfl,⟨k0,k1⟩,q⟩:=qJ q2;obtain⟨u,rfl,ru⟩:=dI r1;cases ru;obtain⟨u,rfl,t,rfl⟩:=dI r2;unfold onL at q;split at q
  ·rename_i xs ex
   obtain⟨its,rv,p,hz⟩:=I2.list (bI ex);rw[e];refine nU (by unfold Builtin.SmallTypes.fitsIndex;rw[An (by omega),An (by omega)];rfl) p.isList λh' he hi hz hk=>wG I2 (k:=k.toNat) ?_ hi hz hk q
   rw[show ((k.toNat:Nat):Int)=k by omega]
   exact he
  ·exact q.elim
 ·refine thn (hk pos pins s1 σ H1 _ I1 q) λws s2 ⟨zs,H2,I2,r2,q2⟩=>?_;obtain⟨k,rfl,⟨k0,k1⟩,hz,q⟩:=qJ q2;obtain⟨u,rfl,ru⟩:=dI r1;obtain⟨tz,rfl⟩:=ru;obtain⟨u,rfl,t,rfl⟩:=dI r2;rw[e];refine uF hz (by unfold Builtin.SmallTypes.fitsIndex;rw[An (by omega),An (by omega)];rfl) λh' he hi hz hk=>cX7 I2 (k:=k.toNat) ?_ hi hz hk q
  rw[show ((k.toNat:Nat):Int)=k by omega]
  exact he
end
section
variable {k:Nat} {σ σ0:St}
def bJL(f:Nat->Nat->Option V)(hl:z.length<sizeLine)(hs:∀(i:Nat) c Hc p (A:VK) (B:Hp->Prop),z.cps.toList[i]?=some c->Same H1 Hc->Hc p=none->(∀Hd,Same (upd Hc p (.tup [.int ((k+i:Nat):Int),.str ⟨#[c]⟩])) Hd->match f i c with|some y=>A y Hd|none=>B Hd)->
 g (.ref p) σ0 (upd Hc p (.tup [.int ((k+i:Nat):Int),.str ⟨#[c]⟩])) λσ2 H2=>Wk σ0 σ2/\tests σ2 H2 λb H3=>if b=true then te σ2 H3 A else B H3)(fin:∀D Hd,H1 D=none->Same H1 Hd->rdL Hd D=some ((List.range z.length).filterMap λi=>f i (z.cps.toList.getD i 0))->Q (.ref D) Hd):fI g tests te σ0 Q (cQ9 z k) H1:=by
 intro D hD;have hzz:z.cps.size=z.length:=rfl
 refine⟨λi m Hc=>m=z.length-i/\i<=z.length/\Same H1 Hc/\Hc D=some (.lst ((List.range i).filterMap λi=>f i (z.cps.toList.getD i 0))),⟨z.length,by simp,Nat.zero_le _,aF hD _,by rw[aD];rfl⟩,?_⟩
 rintro i m Hc ⟨rfl,hi,sm,hDc⟩;by_cases hlt:i<z.length
 ·refine .inr ⟨hlt,λv H' y=>?_⟩;obtain⟨q,c,hq,rfl,rfl,hz⟩:=y;have hx:z.cps.toList[i]?=some c:=by rw[Dj];exact hz
  have hg:z.cps.toList.getD i 0=c:=by rw[Ac,hx];rfl
  refine hs i c Hc q _ _ hx sm hq λHd sd=>?_;have hDd:Hd D=some (.lst ((List.range i).filterMap λi=>f i (z.cps.toList.getD i 0))):=sd _ _ (aF hq _ _ _ hDc)
  have sH:Same H1 Hd:=sm.trans ((aF hq _).trans sd)
  cases e:f i c with
  |some y=>
   refine⟨_,hDd,?_,z.length-(i+1),by omega,rfl,hlt,λb o hb=>?_,?_⟩
   ·have:=Dd (λi=>f i (z.cps.toList.getD i 0)) (List.range i)
    rw[Bq]at this;omega
   ·rw[aG (bG hb hD)];exact sH b o hb
   ·rw[aD,Cv,Bz,Bi (b:=y) (by rw[hg,e]),Cz]
  |none=>
   refine⟨z.length-(i+1),by omega,rfl,hlt,sH,?_⟩
   rw[hDd,Cv,Bz,Cq (by rw[hg,e]),Cz,Bs]
 ·have e:i=z.length:=by omega
  subst e;exact .inl ⟨hzz,fin D Hc hD sm (aM hDc)⟩
def cQQ(h:ta σ H (bXT (λa H1=>tk σ H1 (rK λk H2=>(0<=k/\k<2^62)/\onL (rdL H2 a) (R (Ite K a k.toNat) H2))) λz H1=>tk σ H1 (rK λk H2=>(0<=k/\k<2^62)/\z.cps.all (· < 128)=true/\R (cQ9 z k.toNat) H2))):bJO K ta tk σ H R:=h
def eX6(h:Q (.int (-i)) H):dZ0 (.int i) H Q:=h
def cJ5{R:Addr->Hp->Prop}(h:R a H):bXT R S [.ref a] H:=h
def cJP{R:Addr->Hp->Prop}(h:S z H):bXT R S [.str z] H:=h
end
end
section
variable {a b:Expr} {ta tb:TE} {rest:List Expr}
def cZG:Value->Bool
 |.none=>true
 |_=>false
def aJR{x:V}(f:cN x=true)(r:RelV x u):eqV x .non=cZG u:=by
 cases x with
 |non=>cases r;rfl
 |bl b=>cases r;rfl
 |int i=>obtain⟨t,rfl⟩:=r;rfl
 |str i=>obtain⟨t,rfl⟩:=r;rfl
 |byt i=>cases f
 |flt i=>cases f
 |ref i=>cases f
 |ty i=>cases f
def aZX:V->List V->Hp->VK->Prop:=λx vs H Q=>∃(p:Addr) (xs:List V) (j:Nat),x=.ref p/\vs=[.non]/\rdL H p=some xs/\xs.all cN=true/\xs[j]?=some .non/\(∀i y,i<j->xs[i]?=some y->y≠.non)/\Q (.int (j:Int)) H
def bZL:MtR X "list.index" aZX:=by
 intro pins s σ H x vs v us Q I rx rv h;obtain⟨p,xs,j,rfl,rfl,hp,hf,hj,hb,q⟩:=h;cases rx;obtain⟨u,rfl,ru⟩:=rv.one;cases ru;obtain⟨its,r,pl,hz⟩:=I.list (bI hp);obtain⟨⟨c,dd,dt,sl⟩,ho,hc,n,hd⟩:=pl.isList;obtain rfl:c=.type "list" := hc;obtain rfl:dt=.seq its.toArray n:=hd;have hlen:=r.length
 have hjl:j<xs.length:=(Ae.mp hj).1
 have hn:=iW
 have rel:∀m (hm:m<its.length),∃x,xs[m]?=some x/\cN x=true/\RelV x its[m]:=λm hm=>by
  have hm':m<xs.length:=by omega
  obtain⟨u,hu,ru⟩:=r.get (Aa hm');rw[Aa hm]at hu;cases hu;exact⟨_,Aa hm',Ce.mp hf _ (Bx _),ru⟩
 have fl:∀m (hm:m<its.length) x,xs[m]?=some x->cZG its[m]=eqV x .non:=λm hm x hx=>by
  obtain⟨y,hy,fy,ry⟩:=rel m hm;rw[hx]at hy;cases hy;exact(aJR fy ry).symm
 refine Fo Fl ⟨_,ho,rfl⟩ PySem.F.entry_list_index (PySem.F.args_list_index_2 _ _) (SeqAt.list_indexAt p its.toArray n dd sl .none cZG j (by rw[Az];omega) (by omega) ?_ ?_) ⟨ho,λy hy=>?_,⟨.int j,H,I.tok _,⟨_,rfl⟩,q⟩⟩
 ·rw[Gh,fl j (by omega) _ hj]
  rfl
 ·intro m hm hmj;have hm':m<its.length:=by rw[Az]at hm;exact hm
  obtain⟨y,hy,fy,ry⟩:=rel m hm';rw[Gh,fl m hm' _ hy];have:=hb m y hmj hy
  cases y with
  |non=>exact absurd rfl this
  |_=>rfl
 ·have hy':y∈its:=by simpa using hy
  obtain⟨m,hm,rfl⟩:=Bm.mp hy';obtain⟨z,hz,fz,rz⟩:=rel m hm;rw[<-aJR fz rz];exact xS rz (show RelV .non .none from rfl) fz rfl
def cX9:List V->Hp->VK->Prop:=λxs H Q=>∃z:Str,xs=[.str z]/\z.length<=sizeLine/\∀l,H l=none->Q (.ref l) (upd H l (.lst (z.cps.toList.map λc=>.str ⟨#[c]⟩)))
def dQ8(hc:X.calm=true):CallR X (.type "list") cX9:=by
 intro pins s σ H xs us Q I r h;obtain⟨z,rfl,hl,q⟩:=h;obtain⟨u,rfl,t,rfl⟩:=dI r;refine call_list_str (I.ok.hd hc) z t (λh' tk acc c' hk hS hacc=>?_) hl;have hsz:z.cps.toList.length=z.length:=by simp[Str.length]
 refine⟨.ref s.heap.objs.size,_,I.laid (t':=tk) hk (Aj _) (show ObjOk X.prog X.w _ h' _ (.lst (z.cps.toList.map λc=>.str ⟨#[c]⟩)) from⟨by rw[Ab,hsz];exact hl,acc.toList,c',wY ?_ λj x u hx hu=>?_,hS⟩),rfl,q _ (I.hok.fresh (Aj _))⟩
 ·rw[Ab,hsz,Ec,hacc.1];rfl
 ·obtain⟨c,w,hc,rfl⟩:=hacc.2 j u (by rw[<-Dj];exact hu)
  rw[Af,Dj,hc]at hx;cases hx;exact⟨w,rfl⟩
section
variable {p:Addr}
def aJC{σ0:St}(f:Nat->Option V)(hl:z.length<sizeLine)(hs:∀(i:Nat) c Hc (A:VK) (B:Hp->Prop),z.cps.toList[i]?=some c->Same H1 Hc->(∀Hd,Same Hc Hd->match f c with|some y=>A y Hd|none=>B Hd)->
 g (.str ⟨#[c]⟩) σ0 Hc λσ2 H2=>Wk σ0 σ2/\tests σ2 H2 λb H3=>if b=true then te σ2 H3 A else B H3)(fin:∀D Hd,H1 D=none->Same H1 Hd->Hd D=some (.lst (z.cps.toList.filterMap f))->Q (.ref D) Hd):fI g tests te σ0 Q (Its z) H1:=by
 intro D hD;have hzz:z.cps.size=z.length:=rfl
 have hz2:z.cps.toList.length=z.length:=by simp[Str.length]
 refine⟨λi m Hc=>m=z.length-i/\i<=z.length/\Same H1 Hc/\Hc D=some (.lst ((z.cps.toList.take i).filterMap f)),⟨z.length,by simp,Nat.zero_le _,aF hD _,by rw[aD];rfl⟩,?_⟩
 rintro i m Hc ⟨rfl,hi,sm,hDc⟩;by_cases hlt:i<z.length
 ·refine .inr ⟨hlt,λv H' y=>?_⟩;obtain⟨rfl,c,hz,rfl⟩:=y;have hx:z.cps.toList[i]?=some c:=by rw[Dj];exact hz
  refine hs i c H' _ _ hx sm λHd sd=>?_;have hDd:Hd D=some (.lst ((z.cps.toList.take i).filterMap f)):=sd _ _ hDc
  have sH:Same H1 Hd:=sm.trans sd
  cases e:f c with
  |some y=>
   refine⟨_,hDd,?_,z.length-(i+1),by omega,rfl,hlt,λb o hb=>?_,?_⟩
   ·have:=Dd f (z.cps.toList.take i)
    rw[Bp]at this;omega
   ·rw[aG (bG hb hD)];exact sH b o hb
   ·rw[aD,Bh,hx,Bz];show some (HO.lst (_++[y]))=some (HO.lst (_++[c].filterMap f))
    rw[Bi e,Cz]
  |none=>
   refine⟨z.length-(i+1),by omega,rfl,hlt,sH,?_⟩
   rw[hDd,Bh,hx,Bz];show some (HO.lst _)=some (HO.lst (_++[c].filterMap f))
   rw[Cq e,Cz,Bs]
 ·have e:i=z.length:=by omega
  subst e;refine .inl ⟨Aj _,fin D Hc hD sm ?_⟩;rw[hDc,Bk (by omega)]
def cQ8(e:rdL H p=some xs)(f:xs.all cN=true)(hj:xs[j]?=some .non)(hb:∀i y,i<j->xs[i]?=some y->y≠.non)(h:Q (.int (j:Int)) H):aZX (.ref p) [.non] H Q:=⟨p,xs,j,rfl,rfl,e,f,hj,hb,h⟩
def cZU(hl:z.length<=sizeLine)(h:∀l,H l=none->Q (.ref l) (upd H l (.lst (z.cps.toList.map λc=>.str ⟨#[c]⟩)))):cX9 [.str z] H Q:=⟨z,rfl,hl,h⟩
end
end
def dZ2(neg:Bool):R2:=λx y H Q=>∃a ov,y=.ref a/\DGet H a x ov/\Q (.bl (if neg then !ov.isSome else ov.isSome)) H
def eX9(hu:X.A.units+1<cLine):OpR X (compareOp .In) (dZ2 false):=by
 intro pins s σ H x y v u Q I rx ry h;obtain⟨a,ov,rfl,g,q⟩:=h;cases ry;exact eJO hu I g rx λs3 I3=>⟨.bl ov.isSome,H,I3,rfl,q⟩
def zK(hu:X.A.units+1<cLine):OpR X (compareOp .NotIn) (dZ2 true):=by
 intro pins s σ H x y v u Q I rx ry h;obtain⟨a,ov,rfl,g,q⟩:=h;cases ry;exact dQA hu I g rx λs3 I3=>⟨.bl (!ov.isSome),H,I3,rfl,q⟩
def fE{σ0:St}{xs:List V}(f:V->Option V)(ha:rdL H1 a=some xs)(hl:xs.length<sizeLine)(hs:∀(i:Nat) x Hc (A:VK) (B:Hp->Prop),xs[i]?=some x->Same H1 Hc->(∀Hd,Same Hc Hd->match f x with|some y=>A y Hd|none=>B Hd)->
 g x σ0 Hc λσ2 H2=>Wk σ0 σ2/\tests σ2 H2 λb H3=>if b=true then te σ2 H3 A else B H3)(fin:∀D Hd,H1 D=none->Same H1 Hd->Hd D=some (.lst (xs.filterMap f))->Q (.ref D) Hd):fI g tests te σ0 Q (Itl K a) H1:=by
 intro D hD;refine⟨λi m Hc=>m=xs.length-i/\i<=xs.length/\Same H1 Hc/\Hc D=some (.lst ((xs.take i).filterMap f)),⟨xs.length,by simp,Nat.zero_le _,aF hD _,by rw[aD];rfl⟩,?_⟩
 rintro i m Hc ⟨rfl,hi,sm,hDc⟩;have hr:=aI sm ha
 by_cases hlt:i<xs.length
 ·refine .inr ⟨⟨xs,xs[i],bI hr,by simp[hlt]⟩,λv H' y=>?_⟩
  obtain⟨rfl,hz⟩:=y;have hx:xs[i]?=some v:=hz xs (bI hr)
  refine hs i v H' _ _ hx sm λHd sd=>?_;have hDd:Hd D=some (.lst ((xs.take i).filterMap f)):=sd _ _ hDc
  have sH:Same H1 Hd:=sm.trans sd
  cases e:f v with
  |some y=>
   refine⟨_,hDd,?_,xs.length-(i+1),by omega,rfl,hlt,λb o hb=>?_,?_⟩
   ·have:=Dd f (xs.take i)
    rw[Bp]at this;omega
   ·rw[aG (bG hb hD)];exact sH b o hb
   ·rw[aD,Bh,hx,Bz];show some (HO.lst (_++[y]))=some (HO.lst (_++[v].filterMap f))
    rw[Bi e,Cz]
  |none=>
   refine⟨xs.length-(i+1),by omega,rfl,hlt,sH,?_⟩
   rw[hDd,Bh,hx,Bz];show some (HO.lst _)=some (HO.lst (_++[v].filterMap f))
   rw[Cq e,Cz,Bs]
 ·have e:i=xs.length:=by omega
  subst e;refine .inl ⟨⟨xs,bI hr,Aj _⟩,fin D Hc hD sm ?_⟩;rw[hDc,Bk (by omega)]
def cQH{neg:Bool}(e:Rd H a (.dK kvs))(h:Q (.bl (if neg then !(bY kvs (Sum.inr z)).isSome else (bY kvs (Sum.inr z)).isSome)) H):dZ2 neg (.str z) (.ref a) H Q:=⟨a,_,rfl,.inl ⟨kvs,.inr z,e,rfl,rfl⟩,h⟩
section
open PySem.Builtin PySem.Builtin.Str
def vH:∀l:List (Str×Tok),Vals ((l.map (·.1)).map V.str) (strValues l)
 |[]=>.nil
 |p::r=>.cons ⟨p.2,rfl⟩ (vH r)
def bJE:V->List V->Hp->VK->Prop:=λx vs H Q=>∃z y:Str,x=.str z/\vs=[.str y]/\(y.length==0)=false/\z.length+2<=sizeLine/\∀l,H l=none->Q (.ref l) (upd H l (.lst ((Txt.split z y).map V.str)))
def eV:MtR X "str.split" bJE:=by
 intro pins s σ H x vs v us Q I rx rv h;obtain⟨z,y,rfl,rfl,hy,hsz,q⟩:=h;obtain⟨t,rfl⟩:=rx;obtain⟨u,rfl,ru⟩:=rv.one;obtain⟨u,rfl⟩:=ru;have hn:(partsBetween z (occurrences z y 0 z.length (z.length+1)) y.length).length<=sizeLine:=by
  have e1:=StrLaws.occ_length_le z y 0 z.length (z.length+1)
  rw[length_partsBetween];omega
 have fin:∀(l:List (Str×Tok)) (k:Nat),l.map (·.1)=Txt.split z y->(Txt.split z y).length<=sizeLine->EP X pins σ Q (.ref s.heap.objs.size) {s with heap:=s.heap.push {cls:=.type "list",data:=.seq (strValues l).toArray},toks:=k}:=λl k e hl=>
  ⟨.ref _,_,I.lnew (ys:=(Txt.split z y).map V.str) (t':=k) (by rw[<-e];exact vH l) (by rw[Ab];exact hl),rfl,q _ I.fresh⟩
 cases h1:(decide (z.length<y.length) || decide (strKind z<strKind y))
 ·cases hf:(occurrences z y 0 z.length (z.length+1)).isEmpty
  ·have es:Txt.split z y=partsBetween z (occurrences z y 0 z.length (z.length+1)) y.length:=(if_neg (ne_true_of_eq_false h1)).trans (if_neg (ne_true_of_eq_false hf))
   refine Fo F.slot_str_split (Hy _ _ _) F.entry_str_split (F.args_str_split_2 _ _) (meets_str_split_sep z y t u h1 hy hf (by omega) hn) ?_
   show wants _ _ _ {s with toks:=_,heap:=s.heap.push {cls:=.type "list",data:=.seq (strsFrom s.toks (partsBetween z (occurrences z y 0 z.length (z.length+1)) y.length)).toArray}}
   rw[strsFrom_eq];exact fin (numbered s.toks _) _ ((numbered_texts _ _).trans es.symm) (by rw[es];exact hn)
  ·have es:Txt.split z y=[z]:=(if_neg (ne_true_of_eq_false h1)).trans (if_pos hf)
   exact Fo F.slot_str_split (Hy _ _ _) F.entry_str_split (F.args_str_split_2 _ _) (meets_str_split_not_found z y t u h1 hy hf)
    (fin [(z,t)] s.toks es.symm (by rw[es];exact bJ (by show 1<=_;omega)))
 ·have es:Txt.split z y=[z]:=if_pos h1
  exact Fo F.slot_str_split (Hy _ _ _) F.entry_str_split (F.args_str_split_2 _ _) (meets_str_split_cannot_occur z y t u h1)
   (fin [(z,t)] s.toks es.symm (by rw[es];exact bJ (by show 1<=_;omega)))
def eX{y:Str}(hy:(y.length==0)=false)(hl:z.length<=10000)(h:∀l,H l=none->Q (.ref l) (upd H l (.lst ((Txt.split z y).map V.str)))):bJE (.str z) [.str y] H Q:=⟨z,y,rfl,rfl,hy,bJ (by omega),h⟩
def jc:List (List Nat)->List Nat
 |[]=>[]
 |[t]=>t
 |t::u::r=>t++32::jc (u::r)
def xJ:∀L:List Str,(Str.join ⟨#[32]⟩ L).cps.toList=jc (L.map λz=>z.cps.toList)
 |[]=>rfl
 |[z]=>rfl
 |z::y::r=>by
  have e:Str.join ⟨#[32]⟩ (z::y::r)=z++⟨#[32]⟩++Str.join ⟨#[32]⟩ (y::r):=rfl
  rw[e,FlT.app_cps,FlT.app_cps,xJ (y::r)];show z.cps.toList++[32]++_=z.cps.toList++32::_
  rw[Fd];rfl
def uT:∀(t u a b:List Nat),32∉t->32∉u->t++32::a=u++32::b->t=u/\a=b
 |[],[],a,b,_,_,h=>by injection h with _ h;exact⟨rfl,h⟩
 |[],c::u,a,b,_,h2,h=>by injection h with h _;exact absurd (by rw[h];exact Ak) h2
 |c::t,[],a,b,h1,_,h=>by injection h with h _;exact absurd (by rw[<-h];exact Ak) h1
 |c::t,d::u,a,b,h1,h2,h=>by
  injection h with e h
  obtain⟨e1,e2⟩:=uT t u a b (λm=>h1 (Ai _ m)) (λm=>h2 (Ai _ m)) h;exact⟨by rw[e,e1],e2⟩
def bZ4:∀(L M:Q6),L≠[]->M≠[]->(∀t∈L,32∉t)->(∀t∈M,32∉t)->jc L=jc M->L=M
 |[],_,h,_,_,_,_=>absurd rfl h
 |_::_,[],_,h,_,_,_=>absurd rfl h
 |[t],[u],_,_,_,_,h=>by rw[show t=u from h]
 |[t],u::v::r,_,_,h1,_,h=>by
  have e:t=u++32::jc (v::r):=h
  exact absurd (by rw[e];exact Br _ Ak) (h1 t Ak)
 |t::u::r,[v],_,_,_,h2,h=>by
  have e:t++32::jc (u::r)=v:=h
  exact absurd (by rw[<-e];exact Br _ Ak) (h2 v Ak)
 |t::u::r,v::w::q,_,_,h1,h2,h=>by
  obtain⟨e1,e2⟩:=uT t v _ _ (h1 t Ak) (h2 v Ak) h;rw[e1,bZ4 (u::r) (w::q) (λz=>nomatch z) (λz=>nomatch z) (λx hx=>h1 x (Ai _ hx)) (λx hx=>h2 x (Ai _ hx)) e2]
def cXG(x y:Str):Txt.split x y≠[]:=by
 unfold Txt.split;split
 ·exact λz=>nomatch z
 ·split
  ·exact λz=>nomatch z
  ·intro z;have:=Dk List.length z
   rw[length_partsBetween]at this;cases this
def aZG{L:List Str}(hn:L≠[])(hf:∀z∈L,32∉z.cps.toList):Txt.split (Txt.join ⟨#[32]⟩ L) ⟨#[32]⟩=L:=by
 have e1:=StrLaws.join_split (Txt.join ⟨#[32]⟩ L) ⟨#[32]⟩
 have f1:=StrLaws.split_free (Txt.join ⟨#[32]⟩ L) 32
 have n1:=cXG (Txt.join ⟨#[32]⟩ L) ⟨#[32]⟩
 have e2:Txt.join ⟨#[32]⟩ L=Str.join ⟨#[32]⟩ L:=StrLaws.glued_eq_join _ _
 generalize Txt.split (Txt.join ⟨#[32]⟩ L) ⟨#[32]⟩=M at e1 f1 n1 ⊢;rw[e2]at e1;have e3:=Dk (λz:Str=>z.cps.toList) e1
 rw[xJ,xJ]at e3;have q:=bZ4 _ _ (by intro z;exact n1 (Gm.mp z)) (by intro z;exact hn (Gm.mp z)) (λt ht=>by obtain⟨z,hz,rfl⟩:=Bb.mp ht;exact f1 z hz) (λt ht=>by obtain⟨z,hz,rfl⟩:=Bb.mp ht;exact hf z hz) e3
 exact List.map_inj_right (λa b h=>FlT.str_ext h) |>.mp q
end
def dX5:List V->Hp->VK->Prop:=λxs H Q=>∃(p:Addr) (ns:List Int),xs=[.ref p]/\rdL H p=some (ns.map V.int)/\0<ns.length/\∀m,m∈ns->(∀a∈ns,m<=a)->Q (.int m) H
def dJ5(hc:X.calm=true):CallR X (.builtin "min") dX5:=by
 intro pins s σ H xs us Q I r h;obtain⟨p,ns,rfl,hp,hn,q⟩:=h;obtain⟨u,rfl,ru⟩:=dI r;cases ru;obtain⟨its,rv,pl,hz⟩:=I.list (bI hp);have hl:=pl.isList
 have hlt:p<s.heap.objs.size:=by obtain⟨_,e,_⟩:=hl;exact As e
 have hle:its.length=ns.length:=by have:=rv.length;rw[Ab]at this;omega
 have at':∀(i:Nat) (v:Value),its.toArray[i]?=some v->∃t,v=Value.int (ns.getD i 0) t:=λi v hv=>by
  have hv':its[i]?=some v:=by simpa using hv
  have hi:i<ns.length:=by rw[<-hle];exact(Ae.mp hv').1
  obtain⟨u,hu,ru⟩:=rv.get (show (ns.map V.int)[i]?=some (.int ns[i]) by rw[Af,Aa hi];rfl)
  rw[hv']at hu;cases hu;obtain⟨t,rfl⟩:=ru;exact⟨t,by rw[Ac,Aa hi];rfl⟩
 refine call_min_walk (Ea hl ?_);refine⟨s.heap.objs.size,[s.heap.objs.size,p],[s.heap.objs.size],its.toArray.size,_,_,_,rfl,Walks.list (A:=X.A.in1) (I.ok.hd hc) _ p (Bd hlt) its.toArray,
  ⟨⟨_,Av _ rfl,rfl,rfl⟩,hl.push _⟩,λb hb=>?_,by rw[Az];omega,CmpOf.ints_lt (λi=>ns.getD i 0) at',λv h' tk hv hk=>?_⟩
 ·rw[show ({s with heap:=_}:Shared).heap=_ from rfl]
  simp only[List.mem_cons,List.not_mem_nil,or_false]at hb;rcases hb with e|e
  ·rw[e];simp[Heap.push]
  ·rw[e];exact Nat.lt_of_lt_of_le hlt (by simp[Heap.push])
 ·obtain⟨t,rfl⟩:=at' _ _ hv;obtain⟨h1,h2⟩:=argBest_lt (λi=>ns.getD i 0) (its.toArray.size-1);rw[Az,hle]at h1 h2;have hb:argBest (λi j=>decide (ns.getD i 0<ns.getD j 0)) (its.toArray.size-1)<ns.length:=by rw[Az,hle];omega
  refine⟨.int _,H,I.kept (LSm.kept_iter hk),⟨_,rfl⟩,q _ ?_ λa ha=>?_⟩
  ·rw[Ac,Aa hb];exact Bx _
  ·obtain⟨j,hj,e⟩:=Bm.mp ha;have:=h2 j (by omega)
   rw[Az,hle];rw[<-e];have e2:ns.getD j 0=ns[j]:=by rw[Ac,Aa hj];rfl
   rw[<-e2];exact this
def eQM{p:Addr}{ns:List Int}(e:rdL H p=some (ns.map V.int))(hn:0<ns.length)(h:∀m,m∈ns->(∀a∈ns,m<=a)->Q (.int m) H):dX5 [.ref p] H Q:=⟨p,ns,rfl,e,hn,h⟩
def aQQ{id:String}{args:List (Bool×Sem Value)}{kw:List (Option Str×Sem Value)}{Q:Q0}(h1:args.any (·.1)=false)(h2:kw.any (·.1.isNone)=false)(h:wpAny M A (evalArgs (.builtin id) true args kw) (λa s1=>wpAny M A (call (.builtin id) a.pos a.kw) Q E s1) E s):wpAny M A (callWith pos (.builtin id) [] args kw) Q E s:=by
 unfold callWith;refine Ad (Da (Cg h (λa s1 q1=>Ad (Fg ?_)) λ_ _ x=>x));rw[h1,h2];exact Ad (Al (Ad (Cg q1 (λr s2 hr=>Ad (Da (wpAny_point (Al hr)))) λ_ _ x=>x)))
section
variable {a b c:Expr} {p:Pos}
def oS(lo hi:Int):Nat:=(lo-hi).toNat
def dXF(lo hi:Int):Builtin.Range.rangeSize lo hi (-1)=((oS lo hi:Nat):Int):=by
 unfold Builtin.Range.rangeSize oS;rw[if_neg (by decide)]
 split
 ·simp;omega
 ·omega
def dJD{hi:Int}(h1:-1000000<=lo)(h2:lo<=1000000)(h3:-1000000<=hi)(h4:hi<=1000000):Builtin.Range.small lo hi (-1)=true:=by
 have hs:=dXF lo hi
 unfold Builtin.Range.small;rw[hs];unfold oS;simp only[Builtin.Range.rangeFitsLong,Bool.and_eq_true,Bool.or_eq_true,decide_eq_true_eq,beq_iff_eq];rcases Int.lt_or_le hi lo with hl|hl
 ·refine⟨by omega,.inr ?_⟩
  rw[if_neg (by decide),Eo]
  exact⟨An (by omega),An (by omega)⟩
 ·refine⟨by omega,.inl ?_⟩
  omega
def dX2(ta:TA):TI:=λσ H R=>ta σ H (bJM λi j k H1=>(-1000000<=i/\i<=1000000/\-1000000<=j/\j<=1000000/\k=-1)/\R (cQV i (-1) (oS i j)) H1)
def bQM{σ:St}{hi:Int}{t u v:Tok}{tk:Nat}(I:Inv X pins σ H s)(h1:-1000000<=lo)(h2:lo<=1000000)(h3:-1000000<=hi)(h4:hi<=1000000)(q:R (cQV lo (-1) (oS lo hi)) H):wpAny (model X.prog X.w) X.A (pyIter (.ref s.heap.objs.size)) (PIE X pins σ tg R) E {s with heap:=s.heap.push {cls:=.type "range",data:=.fields #[.int lo t,.int hi u,.int (-1) v]},toks:=tk}:=by
 refine wpAny_pyIter_range (IsRange.new ..) (dJD h1 h2 h3 h4) ?_;have I1:Inv X pins σ H {s with heap:=s.heap.push {cls:=.type "range",data:=.fields #[.int lo t,.int hi u,.int (-1) v]},toks:=tk}:=I.kept λb o e=>Ag _ e
 refine⟨(s.heap.push {cls:=.type "range",data:=.fields #[.int lo t,.int hi u,.int (-1) v]}).objs.size,[(s.heap.push {cls:=.type "range",data:=.fields #[.int lo t,.int hi u,.int (-1) v]}).objs.size],_,_,H,rfl,
  I1.kept (t':=tk) λb o e=>Ag _ e,yG _ lo (-1) (oS lo hi),?_,λb hb=>?_,q⟩
 ·have e1:lo+((0:Nat):Int)*(-1)=lo:=by simp
  have e2:((oS lo hi:Nat):Int)-((0:Nat):Int)=Builtin.Range.rangeSize lo hi (-1):=by rw[dXF];simp
  show IsRangeIter _ _ (lo+((0:Nat):Int)*(-1)) (((oS lo hi:Nat):Int)-((0:Nat):Int)) (-1)
  rw[e1,e2];exact Av _ rfl
 ·have e:b=(s.heap.push {cls:=.type "range",data:=.fields #[.int lo t,.int hi u,.int (-1) v]}).objs.size:=by simpa using hb
  subst e;exact I1.fpOk (Aj _) (I1.hok.fresh (Aj _))
def uO(hg:Gl X "range")(hm:X.mg "range"=none)(ha:PA X [a,b,c] ta)(hs:starEach [a,b,c] X.env=[(false,eval a X.env),(false,eval b X.env),(false,eval c X.env)]:=by rfl)(hs2:starEach [b,c] X.env=[(false,eval b X.env),(false,eval c X.env)]:=by rfl):PI X tg (.Call (.Name "range" p) [a,b,c] [] pos) (dX2 ta):=by
 intro pins s σ H R I h;refine Call_ (gC I hg hm boot_range (Dm (thn (ha pos pins s σ H _ I h) λus s1 ⟨vs,H1,I1,r1,q1⟩=>?_) (by rw[hs,hs2]) (by rw[hs2];rfl)))
 obtain⟨i,j,k,e,⟨b1,b2,b3,b4,rfl⟩,q⟩:=dQW q1;subst e;cases r1 with
 |cons r rr=>
  cases rr with
  |cons r' rr=>
   cases rr with
   |cons r'' rr=>
    cases rr;obtain⟨t,rfl⟩:=r;obtain⟨t',rfl⟩:=r';obtain⟨t'',rfl⟩:=r'';exact call_range_3 (by omega) (bQM I1 b1 b2 b3 b4 q) (Or.inl (PyProof.noPylong_small (by omega)))
def cZ5{σ:St}(h:ta σ H (bJM λi j k H1=>(-1000000<=i/\i<=1000000/\-1000000<=j/\j<=1000000/\k=-1)/\R (cQV i (-1) (oS i j)) H1)):dX2 ta σ H R:=h
end
section
variable {σ0:St}
def lA{f:Nat->Option V}{i:Nat}{y:V}(h:f i=some y):(List.range (i+1)).filterMap f=(List.range i).filterMap f++[y]:=by
 rw[Cv,Bz,Bi h,Cz]
def uA{f:Nat->Option V}{i:Nat}(h:f i=none):(List.range (i+1)).filterMap f=(List.range i).filterMap f:=by
 rw[Cv,Bz,Cq h,Cz,Bs]
def iE{xs:List V}(f:Nat->Option V)(ha:rdL H1 a=some xs)(hl:xs.length<sizeLine)(hs:∀(i:Nat) x Hc (A:VK) (B:Hp->Prop),xs[i]?=some x->Same H1 Hc->(∀y,f i=some y->∀Hd,Same Hc Hd->A y Hd)->(f i=none->∀Hd,Same Hc Hd->B Hd)->
 g x σ0 Hc λσ2 H2=>Wk σ0 σ2/\tests σ2 H2 λb H3=>if b=true then te σ2 H3 A else B H3)(fin:∀D Hd,H1 D=none->Same H1 Hd->Hd D=some (.lst ((List.range xs.length).filterMap f))->Q (.ref D) Hd):fI g tests te σ0 Q (Itl K a) H1:=by
 refine kD (n:=xs.length) (λD i ys Hc=>Same H1 Hc/\ys=(List.range i).filterMap f) hl (λD hD=>⟨aF hD _,rfl⟩)
  (λD i ys Hc _ r h=>⟨xs,xs[i],bI (aI r.1 ha),by simp[h]⟩) (λD ys Hc _ r=>⟨xs,bI (aI r.1 ha),Nat.le_refl _⟩) ?_ ?_
 ·rintro D i ys Hc x H' A B hD hi ⟨sm,rfl⟩ hDc ⟨rfl,hz⟩ ha' hb;refine hs i x H' A B (hz xs (bI (aI sm ha))) sm (λy hy Hd sd=>?_) (λhn Hd sd=>?_)
  ·exact ha' _ _ (sd _ _ hDc) ⟨bL hD (sm.trans sd),(lA hy).symm⟩
  ·exact hb _ (sd _ _ hDc) ⟨sm.trans sd,(uA hn).symm⟩
 ·rintro D ys Hc hD ⟨sm,rfl⟩ hDc _;exact fin D Hc hD sm hDc
end
def dXG:R2:=λx y H Q=>∃z n,x=.str z/\y=.int n/\0<=n/\n<=1000/\z.length<=1000/\Q (.str (Txt.mul z n)) H
def eQ3:OpR X (binaryOp .Mult) dXG:=by
 intro pins s σ H x y v u Q I rx ry h;obtain⟨z,n,rfl,rfl,h1,h2,hz,q⟩:=h;obtain⟨t,rfl⟩:=rx;obtain⟨t',rfl⟩:=ry;refine SB.mul ⟨?_,λ_ _=>?_,λ_ _=>?_⟩ λt' k=>⟨.str _,H,I.tok _,⟨_,rfl⟩,q⟩
 ·rw[Aw (by omega),Aw (by omega)];rfl
 ·rename_i h3 _
  have:(1000:Int)<=(2^63-1) / n:=(Int.le_ediv_iff_mul_le (by omega)).mpr (by omega)
  omega
 ·have:z.length*n.toNat<=1000*1000:=Nat.mul_le_mul hz (by omega)
  unfold Builtin.Str.tooLong;have hs:=Ha
  simp;omega
def dJS{n:Int}(h1:0<=n)(h2:n<=1000)(hz:z.length<=1000)(h:Q (.str (Txt.mul z n)) H):dXG (.str z) (.int n) H Q:=⟨z,n,rfl,rfl,h1,h2,hz,h⟩
section
variable {jt dq:Addr} {n0:Nat} {en:Array DictEntry} {od:Obj}
def cXF{Q:Option Value->Shared->Prop}(hit:s.heap.IsKeyIter jt dq n0 en.size ep)(hod:s.heap.get? dq=some od)(hdd:od.data=.dict en ep)(hi:n0<en.size)(hq:∀h',h'.IsKeyIter jt dq (n0+1) en.size ep->Heap.SameBut jt s.heap h'->Q (some en[n0].key) {s with heap:=h'}):wpAny (model prog w) A (pyNext (.ref jt)) Q E s:=by
 obtain⟨oi,hoi,ci,di⟩:=id hit;have ow:Builtin.Dict_items.ownsTuple "dict_keyiterator"=false:=by decide
 have tI:=hit.typeIs
 unfold pyNext;refine Ad (wpAny_attempt (wpAny_callSpecial?_slot (name:=Str.ofString "__next__") tI Ek (Fm Ek tI F.entry_dict_keyiterator_next ?_ (F.args_dict_keyiterator_next_1 _))));refine Ad (Al (Ad (Ad ?_)));refine Ad (Eh tI (Al (Ad (wpAny_fieldsOf hoi di ?_))));simp only[ow,Bool.false_eq_true,if_false];show wpAny _ _ (if (Value.ref dq==Value.none)=true then _ else _) _ _ s
 rw[if_neg (by exact Ao)]
 refine Ad (Al (Ad (wpAny_dictEntries hod hdd ?_)));rw[if_neg (by simp)]
 refine Ad (Al (Ad (wpAny_dictEpoch hod hdd ?_)));rw[if_neg (by simp)]
 refine Al ?_;simp only[show ¬((n0:Int)<0) by omega,if_false,Int.toNat_natCast,Array.getElem?_eq_getElem hi]
 refine Ad (Ad (Eh tI (Al ?_)));refine Ad (wpAny_isOneOf_keyiter tI ?_);show wpAny _ _ (setField (.ref jt) 1 (rawInt ((n0:Int)+1)) >>= _) _ _ s
 have nx:(s.heap.update jt (Obj.mapFields (·.setIfInBounds 1 (rawInt ((n0:Int)+1))))).IsKeyIter jt dq (n0+1) en.size ep:=
  ⟨_,Heap.get?_update_self _ hoi (Obj.isFreed_of_fields (Obj.data_mapFields di _)),(Obj.cls_mapFields ..).trans ci,by rw[Obj.data_mapFields di];simp[rawInt]⟩
 refine wpAny_bind (wpAny_setField hoi di (by simp) (wpAny_bind (wpAny_holding (wpAny_bind (wpAny_isOneOf_keyiter (s:={s with heap:=s.heap.update jt (Obj.mapFields (·.setIfInBounds 1 (rawInt ((n0:Int)+1))))}) nx.typeIs ?_)))))
 show wpAny _ _ (pure en[n0].key) _ _ _
 exact Al (Al ⟨_,rfl,Al (hq _ nx (Heap.SameBut.update ..))⟩)
def bXN{Q:Option Value->Shared->Prop}(hh:A.handled=none)(hit:s.heap.IsKeyIter jt dq en.size en.size ep)(hod:s.heap.get? dq=some od)(hdd:od.data=.dict en ep)(hq:∀h',Heap.ExtBut jt s.heap h'->Q none {s with heap:=h'}):wpAny (model prog w) A (pyNext (.ref jt)) Q E s:=by
 obtain⟨oi,hoi,ci,di⟩:=id hit;have ow:Builtin.Dict_items.ownsTuple "dict_keyiterator"=false:=by decide
 have tI:=hit.typeIs
 unfold pyNext;refine Ad (wpAny_attempt (wpAny_callSpecial?_slot (name:=Str.ofString "__next__") tI Ek (Fm Ek tI F.entry_dict_keyiterator_next ?_ (F.args_dict_keyiterator_next_1 _))));refine Ad (Al (Ad (Ad ?_)));refine Ad (Eh tI (Al (Ad (wpAny_fieldsOf hoi di ?_))));simp only[ow,Bool.false_eq_true,if_false];show wpAny _ _ (if (Value.ref dq==Value.none)=true then _ else _) _ _ s
 rw[if_neg (by exact Ao)]
 refine Ad (Al (Ad (wpAny_dictEntries hod hdd ?_)));rw[if_neg (by simp)]
 refine Ad (Al (Ad (wpAny_dictEpoch hod hdd ?_)));rw[if_neg (by simp)]
 refine Al ?_;simp only[show ¬((en.size:Int)<0) by omega,if_false,Int.toNat_natCast,Array.getElem?_eq_none (Nat.le_refl en.size)]
 refine Ad (Ad (Eh tI (Al ?_)));show wpAny _ _ (setField (.ref jt) 0 .none >>= _) _ _ s
 refine wpAny_bind (wpAny_setField hoi di (by simp) ?_)
 show wpAny _ _ (newExc (Value.type "StopIteration") [] >>= _) _ _ _
 refine Ad ?_;simp only[newTuple,newExc];refine wpAny_bind (wpAny_newObj_type (wpAny_bind (m:=firstArgMember _ _) (wpAny_of_eq (a:=Value.none) (by first|rfl|(simp only[firstArgMember];rfl)) (wpAny_newObj_type ?_ (by size_fits)))) (by size_fits))
 simp only[raiseNew];refine Ad (wpAny_handled (?_:_));rw[show A.in1.handled=none by exact hh]
 refine Ad (Al (wpAny_throw ?thr));case thr=>
  refine Ad (wpAny_isInstance (b:=true) (T := "StopIteration") ⟨_,Av _ rfl,rfl⟩ isSubtype_stop ?_);exact Al (hq _ (((Heap.SameBut.update ..).extBut.push _).push _))
end
def ItT(a:Addr)(o:Obj)(kvs:List (List Key×V)):It:=⟨λi H=>H a=some (.frz o (.dT kvs))/\i<kvs.length,λi H x H'=>H'=H/\∃kv b,kvs[i]?=some kv/\x=.ref b/\H b=some (.tup (kv.1.map kV)),λi H=>H a=some (.frz o (.dT kvs))/\kvs.length=i⟩
def xF{σ:St}{kvs:List (List Key×V)}(I:Inv X pins σ H s)(ha:H a=some (.frz o (.dT kvs)))(hep:∃es,o.data=.dict es ep):kvs.length<=sizeLine/\(a==sysModules)=false/\∃xs es,KT H kvs xs/\s.heap.get? a=some o/\o.data=.dict es ep/\o.ExactDict/\es.toList=xs.map (entryOfKey (tupleKind (bB X.prog X.w))):=by
 have ok:s.heap.get? a=some o/\ObjOk X.prog X.w H s.heap a (.dT kvs):=I.hok a _ ha
 obtain⟨e,z,hd,xs,rel,o',es',ep',ho',hx,hdat,he,_⟩:=ok;rw[e]at ho';cases ho';obtain⟨es,hes⟩:=hep;have q:=hdat
 rw[hes]at q;cases q;exact⟨z,hd,xs,_,rel,e,hdat,hx,he⟩
def aXK(a it:Addr)(o:Obj)(kvs:List (List Key×V))(ep:Nat)(hep:∃es,o.data=.dict es ep):Turn P w K tg (ItT a o kvs) [it] it (λi h=>h.IsKeyIter it a i kvs.length ep) where
 mem:=by simp
 obj:=λi h st b hb=>by
  obtain⟨o,e,c,d⟩:=st;rw[Ap.mp hb];exact⟨o,e,λv z=>by rw[d]at z;cases z⟩
 keep:=λi h h' st k=>let ⟨o,ho,r⟩:=st;⟨o,k it (by simp) o ho,r⟩
 item:=by
  intro X hP hw hK hc i pins s σ H E I hf st hg;subst hP hw hK;obtain⟨ha,hi⟩:=hg;obtain⟨z,hd,xs,es,rel,ho,hdat,hx,he⟩:=xF I ha hep;have hlv:=rel.length
  have hsz:es.size=xs.length:=by rw[<-Ec,he,Ab]
  obtain⟨f0,f1,f2,f3,f4,f5⟩:=hf it (by simp)
  obtain⟨⟨k,b,v⟩,hxi,hk1,hk2,_⟩:=rP rel (Aa hi);have hie:i<es.size:=by omega
  have hkey:es[i].key=.ref b:=by
   have q:es[i]?=some (entryOfKey (tupleKind (bB X.prog X.w)) (k,b,v)):=by rw[<-Dj,he,Af,hxi];rfl
   rw[Array.getElem?_eq_getElem hie]at q;rw[Bf q];rfl
  refine cXF (en:=es) (by rw[hsz,<-hlv];exact st) ho hdat hie λh' st' sb=>?_
  rw[hkey];have I1:Inv X pins σ H {s with heap:=h'}:=I.turned (t':=s.toks) (λb o hb e=>(sb.2 b hb).trans e) f0 f1 f3 f4 f5
  obtain⟨oi,e,c,d⟩:=id st';refine⟨.ref b,rfl,rH (s:={s with heap:=h'}) e c d (by decide) ⟨.ref b,H,I1,rfl,⟨rfl,kvs[i],b,Aa hi,rfl,hk2⟩,?_,λb hb=>(hf b hb).1⟩⟩
  rw[hlv,<-hsz];exact st'
 done:=by
  intro X hP hw hK hc i pins s σ H E I hf st hg;subst hP hw hK;obtain⟨ha,hi⟩:=hg;obtain⟨z,hd,xs,es,rel,ho,hdat,hx,he⟩:=xF I ha hep;have hlv:=rel.length
  have hsz:es.size=xs.length:=by rw[<-Ec,he,Ab]
  obtain⟨f0,f1,f2,f3,f4,f5⟩:=hf it (by simp)
  exact bXN (en:=es) (I.ok.hd hc) (by rw[hsz,<-hlv];rw[<-hi]at st;exact st) ho hdat λh' eb=>⟨rfl,I.turned (t':=s.toks) (λb o hb e=>eb b o hb e) f0 f1 f3 f4 f5⟩
 self:=λ_ _ _ _ _ st h=>wpAny_pyIter_keyiter st h
section
variable {dq:Addr} {en:Array DictEntry} {od:Obj}
def bXC{Q:Q0}(hs:(dq==sysModules)=false)(hod:s.heap.get? dq=some od)(hx:od.ExactDict)(hdd:od.data=.dict en ep)(hq:Q (.ref s.heap.objs.size) {s with heap:=s.heap.push {cls:=.type "dict_keyiterator",data:=.fields #[.ref dq,.int 0 0,.int en.size 0,.int ep 0]}}):wpAny (model prog w) A (pyIter (.ref dq)) Q E s:=by
 have tD:s.TypeIs (.ref dq) "dict" := ⟨od,hod,hx.1⟩
 refine wpAny_pyIter_slot tD F.slot_dict_iter (Fm F.slot_dict_iter tD F.entry_dict_iter ?_ (F.args_dict_iter_1 _));unfold Builtin.«dict.__iter__» ;refine Ad ?_;unfold Builtin.Dict.dictSlotNone ;refine Ad (wpAny_notOrdered_dict tD ?_);show wpAny _ _ (pure (Value.ref dq)) _ _ s
 refine Al ?_;show wpAny _ _ (Builtin.Dict.showsAll dq >>= _) _ _ s
 unfold Builtin.Dict.showsAll;rw[if_neg (by rw[hs];decide)]
 refine Ad (Al (Ad (wpAny_dictEntries hod hdd (Ad (wpAny_dictEpoch hod hdd ?_)))));refine Ad (Hk (Al ⟨_,rfl, "dict_keyiterator",_,⟨_,Av _ rfl,rfl⟩,F.slot_dict_keyiterator_next.lookup,(?_:_)⟩))
 simpa [rawInt]using hq
end
section
variable {σ:St}
def bQI{kvs:List (List Key×V)}(I:Inv X pins σ H s)(ha:H a=some (.dT kvs)):∃o es ep,s.heap.get? a=some o/\o.data=.dict es ep:=by
 obtain⟨_,_,xs,_,o,es,ep,ho,_,hd,_⟩:=dXT I.hok ha;exact⟨o,es,ep,ho,hd⟩
def cQG{kvs:List (List Key×V)}(I:Inv X pins σ H s)(ha:H a=some (.frz o (.dT kvs))):∃ep,∃es,o.data=.dict es ep:=by
 have ok:s.heap.get? a=some o/\ObjOk X.prog X.w H s.heap a (.dT kvs):=I.hok a _ ha
 obtain⟨e,_,_,xs,_,o',es,ep,ho,_,hd,_⟩:=ok;rw[e]at ho;cases ho;exact⟨ep,es,hd⟩
def nA(H:Hp)(a:Addr)(R:Obj->List (List Key×V)->Hp->Prop):Prop:=(∃kvs,H a=some (.dT kvs)/\∀o,R o kvs (upd H a (.frz o (.dT kvs))))\/∃o kvs,H a=some (.frz o (.dT kvs))/\R o kvs H
def cXP{R:Obj->List (List Key×V)->Hp->Prop}(I:Inv X pins σ H s)(h:nA H a R):∃o kvs H' ep,Inv X pins σ H' s/\H' a=some (.frz o (.dT kvs))/\(∃es,o.data=.dict es ep)/\R o kvs H':=by
 rcases h with⟨kvs,ha,q⟩|⟨o,kvs,ha,q⟩
 ·obtain⟨o,es,ep,ho,hd⟩:=bQI I ha;exact⟨o,kvs,_,ep,I.freeze ha rfl ho,aD,⟨es,hd⟩,q o⟩
 ·obtain⟨ep,es,hd⟩:=cQG I ha;exact⟨o,kvs,H,ep,I,ha,⟨es,hd⟩,q⟩
def cQA(tl:TE):TI:=λσ H R=>tl σ H (gL λa H1=>nA H1 a λo kvs H2=>R (ItT a o kvs) H2)
def nI(hl:PE X l tl):PI X tg l (cQA tl):=by
 intro pins s σ H R I h;refine thn (hl pins s σ H _ I h) λv s1 ⟨x,H1,I1,r1,q1⟩=>?_;unfold gL at q1;split at q1
 ·cases r1;rename_i a0 _
  obtain⟨o,kvs,H2,ep,I2,ha,hep,q⟩:=cXP I1 q1;obtain⟨z,hd,xs,es,rel,ho,hdat,hx,he⟩:=xF I2 ha hep;have hsz:es.size=kvs.length:=by rw[<-Ec,he,Ab,rel.length]
  refine bXC hd ho hx hdat ?_;refine⟨s1.heap.objs.size,[s1.heap.objs.size],_,_,H2,rfl,I2.kept (t':=s1.toks) λb o e=>Ag _ e,aXK a0 _ o kvs ep hep,⟨_,Av _ rfl,rfl,by rw[hsz];rfl⟩,λb hb=>?_,q⟩
  rw[Ap.mp hb];exact I2.fpOk (Aj _) (I2.hok.fresh (Aj _))
 ·exact q1.elim
def dXY:V->List V->Hp->VK->Prop:=λx vs H Q=>∃a y ov,x=.ref a/\vs=[y]/\DGet H a y ov/\Q (ov.getD .non) H
end
section
variable {σ:St} {kvs:List (List Key×V)} {k:List Key} {tb:TS}
def bZS(Pv:Nat->St->Hp->Prop)(h0:Pv 0 σ H)(hl:∀i σ H,i<=kvs.length->Pv i σ H->H a=some (.frz o (.dT kvs)))(hs:∀i kv b σ H,kvs[i]?=some kv->H b=some (.tup (kv.1.map kV))->Pv i σ H->g (.ref b) σ H λσ2 H2=>tb {D with nx:=Pv (i+1),ct:=Pv (i+1),bk:=D.nx} σ2 H2)(hd:∀σ H,Pv kvs.length σ H->D.nx σ H):xT (ItT a o kvs) g tb D σ H:=by
 refine⟨λi m σ H=>m=kvs.length-i/\i<=kvs.length/\Pv i σ H,⟨kvs.length,by simp,Nat.zero_le _,h0⟩,?_⟩
 rintro i m σ H ⟨rfl,hi,p⟩;have hr:=hl i σ H hi p
 by_cases hlt:i<kvs.length
 ·refine .inr ⟨⟨hr,hlt⟩,Pv (i+1),λσ' H' p'=>⟨kvs.length-(i+1),by omega,rfl,hlt,p'⟩,λx H' y=>?_⟩
  obtain⟨rfl,kv,b,hx,rfl,hb⟩:=y;exact hs i kv b σ _ hx hb p
 ·have e:i=kvs.length:=by omega
  subst e;exact .inl ⟨⟨hr,rfl⟩,hd σ H p⟩
def bJ1(h:tl σ H (gL λa H1=>nA H1 a λo kvs H2=>R (ItT a o kvs) H2)):cQA tl σ H R:=h
def wB{Rw:Obj->List (List Key×V)->Hp->Prop}(e:H a=some (.dT kvs))(h:∀o,Rw o kvs (upd H a (.frz o (.dT kvs)))):nA H a Rw:=.inl ⟨kvs,e,h⟩
def cXI{Rw:Obj->List (List Key×V)->Hp->Prop}(e:H a=some (.frz o (.dT kvs)))(h:Rw o kvs H):nA H a Rw:=.inr ⟨o,kvs,e,h⟩
def cZ3(h:∀p,H p=none->Q (.ref p) (upd H p (.dT []))):cXT σ H Q:=h
def aXT(e:Rd H a (.dT kvs))(eb:H b=some (.tup (k.map kV)))(l:bY kvs k=some v)(h:Q v H):eQK (.ref a) (.ref b) H Q:=⟨a,v,rfl,.inr ⟨kvs,k,b,e,rfl,eb,l.symm⟩,h⟩
def yD(e:H a=some (.dT kvs))(eb:H b=some (.tup (k.map kV)))(l:kvs.length<sizeLine)(h:D.nx σ (upd H a (.dT (cM kvs k v)))):bJ5 D σ (.ref a) (.ref b) v H:=⟨a,_,rfl,.inr ⟨kvs,k,b,e,rfl,eb,l,rfl⟩,h⟩
def aJ0(e:Rd H a (.dT kvs))(eb:H b=some (.tup (k.map kV)))(h:Q ((bY kvs k).getD .non) H):dXY (.ref a) [.ref b] H Q:=⟨a,_,_,rfl,rfl,.inr ⟨kvs,k,b,e,rfl,eb,rfl⟩,h⟩
end
def bXJ{Q:Int->Shared->Prop}(h:Q 0xFCA86420 {s with toks:=s.toks+1}):wpAny (model prog w) A (pyHash .none) Q E s:=by
 have tN:s.TypeIs .none "NoneType" := rfl
 unfold pyHash pyHashByItsType;refine Ad ?_;rw[cRoomFor,if_neg (by decide)]
 refine Al (Ad (wpAny_specialOf tN F.slot_NoneType_hash.lookup ?_));show wpAny _ _ (if (some (Value.builtin "NoneType.__hash__")==some Value.none)=true then _ else _) Q E s
 rw[if_neg (by rw[beq_builtin_none];decide)]
 refine Ad (wpAny_specialOf tN F.slot_NoneType_hash.lookup ?_);show wpAny _ _ (callSpecialIfBoundUnlessNone? .none "__hash__" _ >>= _) Q E s
 refine Ad (wpAny_callSpecialIfBoundUnlessNone?_slot tN F.slot_NoneType_hash (Fm F.slot_NoneType_hash tN F.entry_NoneType_hash (show wpAny _ _ (do ret (<-mkInt 0xFCA86420)) _ _ s from wpAny_ret_mkInt ?_) (F.args_NoneType_hash_1 _)))
 show wpAny _ _ (if (decide (-(2:Int)^63<=0xFCA86420)&&decide ((0xFCA86420:Int)<2^63))=true then _ else _) Q E _
 rw[if_pos (by decide)]
 exact Al h
def cZI:Option Key->Value->Bool
 |none,.none=>true
 |none,_=>false
 |some k,v=>lH k v
def cT{v:Value}(h:cZI none v=true):v=.none:=by
 cases v<;>first|rfl|(exact absurd h (by decide))|cases h
def mL{k:Key}{v:Value}(h:lH k v=true):v≠.none:=λz=>by
 rcases bT h with⟨i,t,_,e⟩|⟨x,t,_,e⟩ <;> rw[z]at e<;>cases e
def fQO(w:World):Option Key->Int
 |none=>0xFCA86420
 |some k=>eZ3 w k
def aJ6(prog:Program)(w:World):PySem.KeyKind prog w (Option Key) where
 is:=cZI
 hash:=fQO w
 inj:=λv a b ha hb=>by
  cases a with
  |none=>
   cases b with
   |none=>rfl
   |some b=>exact absurd (cT ha) (mL hb)
  |some a=>
   cases b with
   |none=>exact absurd (cT hb) (mL ha)
   |some b=>exact Dk some ((bB prog w).inj v a b ha hb)
 byValue:=λk v h=>by
  cases k with
  |none=>rw[cT h];rfl
  |some k=>exact(bB prog w).byValue k v h
 pyHash:=fun {A E s k v Q} hv h=>by
  cases k with
  |none=>rw[cT hv];exact bXJ h
  |some k=>exact(bB prog w).pyHash hv h
 eqBool:=fun {A E s a b u v Q} hu hv h=>by
  cases a with
  |none=>
   rw[cT hu];cases b with
   |none=>rw[cT hv];exact SeqAt.EqAt.same _ _ _ _ _ (by simpa using h)
   |some b=>
    have h2:Q false s:=by simpa using h
    rcases bT (show lH b v=true from hv) with⟨j,t,_,rfl⟩|⟨y,t,_,rfl⟩
    ·exact SeqAt.EqAt.none_int _ _ _ _ _ _ h2
    ·exact SeqAt.EqAt.none_str _ _ _ _ _ _ h2
  |some a=>
   cases b with
   |none=>
    rw[cT hv];have h2:Q false s:=by simpa using h
    rcases bT (show lH a u=true from hu) with⟨j,t,_,rfl⟩|⟨y,t,_,rfl⟩
    ·exact SeqAt.EqAt.int_none _ _ _ _ _ _ h2
    ·exact SeqAt.EqAt.str_none _ _ _ _ _ _ h2
   |some b=>
    refine(bB prog w).eqBool hu hv ?_;have e:decide (some a=some b)=decide (a=b):=Dx.mpr ⟨Bf,λz=>by rw[z]⟩
    rw[e]at h;exact h
 «strs» := λk x t v h=>by
  cases k with
  |none=>exact absurd (cT h) (λz=>nomatch z)
  |some k=>exact(bB prog w).strs k x t v h
def eQF{f:Key->Option Value}(hm:h.MapOf (bB prog w) a f):h.MapOf (aJ6 prog w) a (λk=>k.bind f):=by
 obtain⟨o,es,ep,ho,hx,hd,hk,hf⟩:=hm;refine⟨o,es,ep,ho,hx,hd,λe he=>?_,λk=>?_⟩
 ·obtain⟨k,h1,h2⟩:=hk e he;exact⟨some k,h1,h2⟩
 ·cases k with
  |some k=>exact hf k
  |none=>
   show findBy cZI es none=none
   unfold findBy;rw[Option.map_eq_none_iff,Array.find?_eq_none];intro e he z;obtain⟨k,h1,_⟩:=hk e he;exact mL h1 (cT z)
def cXA:R2:=λx y H Q=>∃a,y=.ref a/\((∃ov,DGet H a x ov/\Q (.bl ov.isSome) H)\/(x=.non/\∃kvs,Rd H a (.dK kvs)/\Q (.bl false) H))
def dZO(hu:X.A.units+1<cLine):OpR X (compareOp .In) cXA:=by
 intro pins s σ H x y v u Q I rx ry h;obtain⟨a,rfl,h⟩:=h;cases ry;rcases h with⟨ov,g,q⟩|⟨rfl,kvs,e,q⟩
 ·exact eJO hu I g rx λs3 I3=>⟨.bl ov.isSome,H,I3,rfl,q⟩
 ·cases rx;obtain⟨z,hd,vs,rel,dd⟩:=mU I.hok e;exact wpAny_in_of (knd:=aJ6 X.prog X.w) (k:=none) (key:=Value.none) rfl hd (eQF dd.mapOf) ⟨.bl false,H,I.tok _,rfl,q⟩
def cZH(hu:X.A.units+1<cLine):MtR X "dict.get" dXY:=by
 intro pins s σ H x vs v us Q I rx rv h;obtain⟨a,y,ov,rfl,rfl,g,q⟩:=h;cases rx;obtain⟨u,rfl,ru⟩:=rv.one;exact eXA hu I g ru λw1 s1 I1 r1=>⟨_,H,I1,r1,q⟩
def eQ6(e:Rd H a (.dK kvs))(h:Q (.bl false) H):cXA .non (.ref a) H Q:=⟨a,rfl,.inr ⟨rfl,kvs,e,h⟩⟩
def cJR(e:Rd H a (.dK kvs))(h:Q (.bl (bY kvs (Sum.inr z)).isSome) H):cXA (.str z) (.ref a) H Q:=⟨a,rfl,.inl ⟨_,.inl ⟨kvs,.inr z,e,rfl,rfl⟩,h⟩⟩
def eZ9:R2:=λx y H Q=>∃(p q:Addr) (a b c d:Int),x=.ref p/\y=.ref q/\H p=some (.tup [.int a,.int b])/\H q=some (.tup [.int c,.int d])/\Q (.bl (decide (a=c/\b=d))) H
def eZJ(hu:X.A.units<cLine):OpR X (compareOp .Eq) eZ9:=by
 intro pins s σ H x y v u Q I rx ry h;obtain⟨p,q,a,b,c,d,rfl,rfl,hp,hq,k⟩:=h;cases rx;cases ry;obtain⟨its,r1,l1,_⟩:=I.tuple (SqT.of (K:=X.K) hp);obtain⟨its2,r2,l2,_⟩:=I.tuple (SqT.of (K:=X.K) hq);obtain⟨u1,u2,rfl,⟨t1,rfl⟩,⟨t2,rfl⟩⟩:=r1.two;obtain⟨w1,w2,rfl,⟨t3,rfl⟩,⟨t4,rfl⟩⟩:=r2.two;refine SeqAt.eq_tupleAt (e:=λj=>if j=0 then a==c else b==d) (show s.heap.IsTuple p _ from l1) (show s.heap.IsTuple q _ from l2) hu (λj h1 h2=>?_) ?_
 ·match j,h1,h2 with
  |0,_,_=>exact SeqAt.EqAt.int_int a t1 c t3
  |1,_,_=>exact SeqAt.EqAt.int_int b t2 d t4
  |j+2,h1,_=>exact absurd h1 (by show ¬j+2<2;omega)
 ·refine⟨.bl (decide (a=c/\b=d)),H,I,?_,k⟩;show Value.bool _=Value.bool _
  congr 1
  show (((if (0:Nat)=0 then a==c else b==d)&&((if (1:Nat)=0 then a==c else b==d)&&true))&&true)=_
  rw[if_pos rfl,if_neg (by decide),Bool.and_true,Bool.and_true]
  by_cases e1:a=c
  ·by_cases e2:b=d
   ·simp[e1,e2]
   ·simp[e1,e2]
  ·simp[e1]
def eZG{p q:Addr}{a b c d:Int}(hp:H p=some (.tup [.int a,.int b]))(hq:H q=some (.tup [.int c,.int d]))(h:Q (.bl (decide (a=c/\b=d))) H):eZ9 (.ref p) (.ref q) H Q:=⟨p,q,a,b,c,d,rfl,rfl,hp,hq,h⟩
def CtxNone(h:Heap)(ea:Addr):Prop:=∃o fs,h.get? ea=some o/\o.data=.fields fs/\fs[2]?=some .none
def CtxNone.ext(c:CtxNone h ea)(k:∀o,h.get? ea=some o->h'.get? ea=some o):CtxNone h' ea:=by
 obtain⟨o,fs,h1,h2,h3⟩:=c;exact⟨o,fs,k o h1,h2,h3⟩
def CtxNone.some(c:CtxNone h ea):∃o,h.get? ea=Option.some o:=by
 obtain⟨o,_,e,_⟩:=c;exact⟨o,e⟩
def dX9:List V->Hp->VK->Prop:=λxs H Q=>(∃j:Int,xs=[.int j]/\∀r,H r=none->Q (.ref r) (upd H r (.rng 0 j)))\/(∃i j:Int,xs=[.int i,.int j]/\∀r,H r=none->Q (.ref r) (upd H r (.rng i j)))
def Inv.rngNew{σ:St}{hi:Int}{t u v:Tok}{tk:Nat}(I:Inv X pins σ H s):Inv X pins σ (upd H s.heap.objs.size (.rng lo hi)) {s with heap:=s.heap.push {cls:=.type "range",data:=.fields #[.int lo t,.int hi u,.int 1 v]},toks:=tk}:=
 (I.kept (t':=tk) λb o e=>Ag _ e).adopt (I.freAt (Aj _)) (I.hok.fresh (Aj _)) ⟨t,u,v,Av _ rfl⟩
def dZ5:CallR X (.type "range") dX9:=by
 intro pins s σ H xs us Q I r h;rcases h with⟨j,rfl,q⟩|⟨i,j,rfl,q⟩
 ·obtain⟨u,rfl,⟨t,rfl⟩⟩:=dI r;exact call_range_1 ⟨.ref _,_,I.rngNew,rfl,q _ (I.hok.fresh (Aj _))⟩
 ·obtain⟨u,w',rfl,⟨t,rfl⟩,⟨t',rfl⟩⟩:=yI r;exact call_range_2 ⟨.ref _,_,I.rngNew,rfl,q _ (I.hok.fresh (Aj _))⟩
def cZ0{j:Int}(h:∀r,H r=none->Q (.ref r) (upd H r (.rng 0 j))):dX9 [.int j] H Q:=.inl ⟨j,rfl,h⟩
def bJ4:List V->Hp->VK->Prop:=λxs H Q=>∃(a:Addr) (n:Nat),xs=[.ref a]/\H a=some (.rng 0 (n:Int))/\n<=100000/\∀r,H r=none->Q (.ref r) (upd H r (.lst ((List.range n).map λi=>V.int ((i:Nat):Int))))
def dQQ(hc:X.calm=true):CallR X (.type "list") bJ4:=by
 intro pins s σ H xs us Q I r h;obtain⟨a,n,rfl,ha,hn,q⟩:=h;obtain⟨u,rfl,ru⟩:=dI r;cases ru;obtain⟨t0,t1,t2,ho⟩:=I.hok a _ ha;refine call_list_range (n:=n) (I.ok.hd hc) ho (small_one (by decide) (by decide) (by omega) (by omega)) (by rw[rangeSize_nat];omega) (by omega) λh' tk acc c hk hS hacc=>?_
 refine⟨.ref s.heap.objs.size,_,I.laid (a:=s.heap.objs.size) (o:=.lst ((List.range n).map λi=>V.int ((i:Nat):Int))) (t':=tk) hk (Aj _) ⟨by rw[Ab,Bq];exact bJ hn,acc.toList,c,?_,by rw[hS]⟩,rfl,q _ (I.hok.fresh (Aj _))⟩
 refine wY (by rw[Ab,Bq,Ec,hacc.1]) λj x u hx hu=>?_
 obtain⟨tk',rfl⟩:=hacc.2 j u (by rw[<-Dj];exact hu)
 have hj:j<n:=by
  have:=(Ae.mp hu).1
  rw[Ec,hacc.1]at this;exact this
 rw[Af,List.getElem?_range hj]at hx;cases hx;exact⟨tk',by rw[show (0:Int)+((j:Nat):Int)*1=((j:Nat):Int) by omega]⟩
def dQJ(ha:H a=some (.rng 0 (n:Int)))(hn:n<=100000)(h:∀r,H r=none->Q (.ref r) (upd H r (.lst ((List.range n).map λi=>V.int ((i:Nat):Int))))):bJ4 [.ref a] H Q:=⟨a,n,rfl,ha,hn,h⟩
def hdl(i:Nat)(ts:TS)(D:Ends)(cls:Value)(d:Option Addr)(σ1:St)(H1:Hp):Prop:=∀ea,H1 ea=none->
 ts {nx:=λσ2 H2=>D.nx (σ2.set i none) H2,rt:=D.rt,bk:=λσ2 H2=>D.bk (σ2.set i none) H2,ct:=λσ2 H2=>D.ct (σ2.set i none) H2} (σ1.set i (some (.ref ea))) (upd H1 ea (eJ8 ea cls d))
def btV(val:Nat->Int)(i j:Nat):Bool:=decide (val i>val j)
section
variable {R:Result->Shared->Prop} {J B:Addr} {us ws:List Addr} {P:Nat->Value->Prop} {St:Nat->Heap->Prop} {G:Shared->Prop} {val:Nat->Int}
def dZJ{j:Int}{t u:Tok}{Q:Q0}(h:Q (.bool (decide (i>j))) s):wpAny (model prog w) A (richCompare .Gt (.int i t) (.int j u)) Q E s:=
 CmpOf.ints_gt (P:=λk v=>(k=0->∃t,v=Value.int i t)/\(k=1->∃t,v=.int j t)/\k<=1) (λk=>if k=0 then i else j) (λk v hv=>by
  obtain⟨h0,h1,h2⟩:=hv;by_cases e:k=0
  ·obtain⟨t,rfl⟩:=h0 e;exact⟨t,by rw[if_pos e]⟩
  ·obtain⟨t,rfl⟩:=h1 (by omega);exact⟨t,by rw[if_neg e]⟩) 0 1 _ _ s Q E ⟨λ_=>⟨t,rfl⟩,λe=>absurd e (by decide),by decide⟩ ⟨λe=>absurd e (by decide),λ_=>⟨u,rfl⟩,by decide⟩ h
def bQS(W:Walks prog w A.in1 J us ws n P St)(nB:B∉us)(hG:∀(s:Shared) h' tk,G s->(∀b o,b∉ws->b≠B->s.heap.get? b=some o->h'.get? b=some o)->G {s with heap:=h',toks:=tk})(hcall:∀(i:Nat) v (s:Shared) (Q:Q0) (E:Q0),P i v->G s->(∀t s',G s'->(∀b o,b∈B::us->s.heap.get? b=some o->s'.heap.get? b=some o)->Q (.int (val i) t) s')->wpAny (model prog w) A.in1 (call (.ref f) [v]) Q E s)(hR:∀z s',P (argBest (btV val) (n-1)) z->G s'->R (.ok (.ret z)) s'):∀(r i:Nat) (s:Shared) (y:Value) (t:Tok) (c:Nat),n-(i+1)=r->i+1<=n->St (i+1) s.heap->P (argBest (btV val) i) y->s.heap.get? B=some {cls:=.type "list",data:=.seq #[y,.int (val (argBest (btV val) i)) t] c}->G s->
 codeAny (model prog w) A (.builtin "max.loop" ⟨[.ref J,.ref f,.ref B],[]⟩) R s:=by
 have nBw:B∉ws:=λz=>nB (W.sub _ z)
 have nm:(toString "max" ++ toString ".loop" : String)="max.loop" := by decide
 intro r;induction r with
 |zero=>
  intro i s y t c er hi st py eB g;have en:i+1=n:=by omega
  refine Fp Hn ?_;rw[Fe Dr _];show wpAny _ A.in1 (seqItems? (.ref B) >>= _) _ _ s
  refine Ad (Ei eB rfl ?_);show wpAny _ A.in1 (tryCatch (pyNext (.ref J)) _ >>= _) _ _ s
  refine Ad (Fk (W.done s _ _ (en▸st) λh' tk kp=>?_));have eB2:=kp B _ nBw eB
  show wpAny _ A.in1 (updateSeq B (λ_=>#[]) >>= _) _ _ _
  refine Ad (wpAny_updateSeq eB2 rfl (Ad (Gg (Al ?_))));exact hR y _ (by rw[<-en];exact py) (hG s _ tk g λb o n1 n2 e=>(Bt _ _ (Ne.symm n2)).trans (kp b o n1 e))
 |succ r ih=>
  intro i s y t c er hi st py eB g;have lt:i+1<n:=by omega
  refine Fp Hn ?_;rw[Fe Dr _];show wpAny _ A.in1 (seqItems? (.ref B) >>= _) _ _ s
  refine Ad (Ei eB rfl ?_);show wpAny _ A.in1 (tryCatch (pyNext (.ref J)) _ >>= _) _ _ s
  refine Ad (Fk (W.item (i+1) s _ _ lt st λz h' tk pz st2 kp=>?_));have eB2:=kp B _ nBw eB
  have g2:G {s with heap:=h',toks:=tk}:=hG _ _ tk g λb o n1 _ e=>kp b o n1 e
  show wpAny _ A.in1 (tryCatch (holding [z] (call (.ref f) [z])) _ >>= _) _ _ _
  refine Ad (Fk (Da (hcall (i+1) z _ _ _ pz g2 λu s3 g3 k3=>?_)));have eB3:=k3 B _ Ak eB2
  have st3:=W.frame _ _ _ st2 λb hb o e=>k3 b o (Ai _ hb) e
  show wpAny _ A.in1 (tryCatch (holding [z,.int (val (i+1)) u] (richCompare .Gt (.int (val (i+1)) u) (.int (val (argBest (btV val) i)) t) >>= _)) _ >>= _) _ _ _
  refine Ad (Fk (Da (Ad (dZJ ?_))));refine Ad (Da (Fb (Ad (Gg (Al ?_)))));have eb:decide (val (i+1)>val (argBest (btV val) i))=btV val (i+1) (argBest (btV val) i):=rfl
  rw[eb];cases e:btV val (i+1) (argBest (btV val) i) with
  |true=>
   simp only[if_true];refine Ad (wpAny_updateSeq eB3 rfl (Ad (Gg ?_)));rw[nm];have ea:argBest (btV val) (i+1)=i+1:=by unfold argBest;rw[e];rfl
   refine Al ⟨Gp Dr _,ih (i+1) _ z u _ (by omega) lt (W.frame _ _ _ st3 λb hb o q=>(Bt _ _ (λy:B=b=>nB (y▸hb))).trans q) (by rw[ea];exact pz) (by rw[ea];exact Heap.get?_update_self _ eB3 rfl) (hG s3 _ s3.toks g3 λb o n1 n2 q=>(Bt _ _ (Ne.symm n2)).trans q)⟩
  |false=>
   simp only[Bool.false_eq_true,if_false];refine Ad (Gg ?_);rw[nm]
   have ea : argBest (btV val) (i + 1) = argBest (btV val) i := by conv => lhs; unfold argBest; rw [e]
                                                                   rfl
   refine Al ⟨Gp Dr _,ih (i+1) s3 y t c (by omega) lt st3 (by rw[ea];exact py) (by rw[ea];exact eB3) g3⟩
end
section
open PySem.W (KasT kas_sort kas_rev kas_asc kas_desc kas_tail3 kas_descPart kas_count kas_place kas_bin)
section
variable {r:Nat->Nat}
structure Ord (r:Nat->Nat) (n:Nat) (p:Array Nat):Prop where
 perm:p.toList.Perm (List.range n)
 inj:∀i j,i<n->j<n->r i=r j->i=j
def Ord.size{p:Array Nat}(h:Ord r n p):p.size=n:=by
 have:=h.perm.length_eq
 simpa using this
end
end
section
open PySem.W (CodeHd tabObj)
structure LamB (mg:Str->Option Value) (base:Heap) (c Pt:Addr):Prop where
 code:CodeHd base c Pt
 bm:∃bm ob,mg "__builtins__"=some (.ref bm)/\bm≠builtinsNs/\base.get? bm=some ob/\ob.cls=.type "module"/\ob.dict=some builtinsNs/\ob.data=.plain
def aJX(h:Heap)(mg:Str->Option Value)(x:Str)(c:Addr):Prop:=∃f o fd,mg x=some (.ref f)/\h.get? f=some o/\o.data=.func fd/\fd.code=.ref c
def bXQ{mb:Q5}{CX:CXT}{k:Nat}{fa:Addr}{s₁:Shared}{vs:List Value}(KX:K.In s₁.heap)(hns:s₁.heap.Ns mainGlobals mg)(hb:s₁.heap.Ns builtinsNs mb)(hbb:∀x:Str,x≠"__name__"->mb x=bootBuiltins x)(hlim:s₁.heap.NoLimit)(hg:s₁.gens=#[])(ha:s₁.heap.get? a=some {cls:=.type "list",data:=.seq vs.toArray})(hi:IntsAre vs ns)(hl:ns.length<=sizeLine)(hr:Room k callerA)(hC:CodeHd s₁.heap c Pt)(hP:s₁.heap.get? Pt=some (tabObj #[]))(hbm:∃bm ob,mg "__builtins__"=some (.ref bm)/\bm≠builtinsNs/\s₁.heap.get? bm=some ob/\ob.cls=.type "module"/\ob.dict=some builtinsNs/\ob.data=.plain)(hKP:K.lookup Pt=none)(F:∀base:Heap,K.In base->base.Ns mainGlobals mg->LamB mg base c Pt->FnOk P w K mg base CX k fa fd [x] sp)(hbind:∀(s:Shared) (u:Value),BindsTo s fd ⟨[u],[]⟩ [(x,u)])(hsp:∀H:Hp,H Pt=some (.tbl #[])->SqL K H a (ns.map V.int)->sp [.ref a] H (λv _=>v=.bl true) λ_ _ _=>False)(hCX:∀H e s',CX [] H s₁ (λ_ _ _=>False) e s'->False):codeAny (model P w) callerA (.call (.ref fa) ⟨[.ref a],[]⟩) (λr s'=>r=.ok (.ret (.bool true))/\OldK s₁.heap s'.heap/\s'.os=s₁.os/\AllBare s'.gens) s₁:=by
 have rv:=vC hi
 have lenV:=hi.length
 have naP:a≠Pt:=λz=>by rw[z,hP]at ha;cases ha
 have core:∀ H:Hp,(∀ b,H b=none\/(∃ o xs,H b=some (.frz o (.lst xs)))\/b=Pt)->H Pt=some (.tbl #[])->SqL K H a (ns.map V.int)->HOk P w H s₁.heap->(∀ b,H b≠none->b=a\/b=Pt)->(H a≠none->K.lookup a=none)->
     codeAny (model P w) callerA (.call (.ref fa) ⟨[.ref a],[]⟩) (λr s'=>r=.ok (.ret (.bool true))/\OldK s₁.heap s'.heap/\s'.os=s₁.os/\AllBare s'.gens) s₁:=by
  intro H hO hHP hS hok hA hK;have base_of:∀ {b:Addr} {o:Obj},s₁.heap.get? b=some o->H b=none->(tU s₁.heap H).get? b=some o:=λe n=>cQL e n
  have noT:∀ {b:Addr} {o:Obj},s₁.heap.get? b=some o->(∀its n,o.data≠.seq its n)->(∀ps,o.cls=.none->o.data≠.fields ps)->H b=none:=fun {b o} e d d2=>by
   cases q:H b with
   |none=>rfl
   |some u=>
    rcases hA b (by rw[q];simp) with e'|e'
    ·subst e';rw[ha]at e;cases e;exact absurd rfl (d _ _)
    ·subst e';rw[hP]at e;cases e;exact absurd rfl (d2 _ rfl)
  have noA:∀ {b:Addr} {o:Obj} {es:Array DictEntry} {ep:Nat},s₁.heap.get? b=some o->o.data=.dict es ep->H b=none:=fun {b o es ep} e d=>noT e (λ_ _ z=>by rw[d]at z;cases z) λ_ _ z=>by rw[d]at z;cases z
  have nsK:∀ {b:Addr} {m:Q5},s₁.heap.Ns b m->(tU s₁.heap H).Ns b m:=fun {b m} ⟨o,es,ep,e,d,r⟩=>⟨o,es,ep,base_of e (noA e d),d,r⟩
  have hKb:K.In (tU s₁.heap H):=λb o e=>base_of (KX b o e) (by
   cases q:H b with
   |none=>rfl
   |some u=>
    rcases hA b (by rw[q];simp) with e'|e'
    ·subst e';rw[hK (by rw[q];simp)]at e;cases e
    ·subst e';rw[hKP]at e;cases e)
  have hM:Mod K mg (tU s₁.heap H):=⟨hKb,nsK hns,⟨mb,nsK hb,hbb⟩,let ⟨mc,h1,h2⟩:=hlim;⟨mc,nsK h1,h2⟩⟩
  have hLB:LamB mg (tU s₁.heap H) c Pt:=by
   refine⟨?_,?_⟩
   ·obtain⟨o,vs,file,tf,flags,tg,inF,text,tt,e,ecl,eda,r⟩:=hC;exact⟨o,vs,file,tf,flags,tg,inF,text,tt,base_of e (noT e (λ_ _ z=>by rw[eda]at z;cases z) λ_ z=>by rw[ecl]at z;cases z),ecl,eda,r⟩
   ·obtain⟨bm,ob,b1,b2,b3,b4,b5,b6⟩:=hbm;exact⟨bm,ob,b1,b2,base_of b3 (noT b3 (λ_ _ z=>by rw[b6]at z;cases z) λ_ z=>by rw[b4]at z;cases z),b4,b5,b6⟩
  have e0:Env0 P w K mg (tU s₁.heap H) callerA [] s₁ H:=⟨rfl,hM,λb o e=>cJQ e,Nat.le_of_eq (bZE _ _),trivial,λb hb=>absurd (show b∈([]:List Addr) from hb) (by simp),hok,.of_eq hg⟩
  refine Fc ((F _ hKb (nsK hns) hLB).run callerA [] s₁ H ⟨[.ref a],[]⟩ [.ref a] [.ref a] _ _ hr e0 (hbind s₁ (.ref a)) (.cons rfl .nil) (hsp H hHP hS)) λr s' h=>?_;cases r with
  |error e=>exact(hCX H e s' h).elim
  |ok fl=>
   cases fl with
   |next=>exact False.elim h
   |brk=>exact False.elim h
   |cont=>exact False.elim h
   |ret u=>
    obtain⟨v,H',os,bare,un,hok',r',q⟩:=h;have q':v=.bl true:=q
    subst q';obtain rfl:u=Value.bool true:=r';refine⟨rfl,⟨λb o e=>?_,λb o e=>?_⟩,os,bare⟩
    ·cases q:H b with
     |none=>exact .inl (un.keep b o e q (by intro z;exact absurd (show b∈([]:List Addr) from z) (by simp)) (by simp))
     |some u=>
      rcases hO b with z|⟨ob,xs,z⟩|z
      ·rw[q]at z;cases z
      ·have z2:=un.frzs b ob _ z
       obtain⟨e1,_⟩:=hok b _ z;obtain⟨e2,_⟩:=hok' b _ z2;rw[e]at e1;cases e1;exact .inl e2
      ·subst z;rw[hP]at e;cases e;obtain⟨more,z2⟩:=un.tbls b _ hHP;exact .inr (.inl ⟨(hC.tab hP).isCodeTable,rfl,#[],more,rfl,hok' b _ z2⟩)
    ·exact un.there b o e (by simp)
 have tblOk:∀H:Hp,H Pt=some (.tbl #[])->ObjOk P w H s₁.heap Pt (.tbl #[]):=λ_ _=>hP
 cases hk:K.lookup a with
 |some o=>
  have e:=KX a o hk
  rw[ha]at e;cases e;refine core (λb=>if b=Pt then some (.tbl #[]) else none) (λb=>?_) (if_pos rfl) (.inr ⟨_,vs.toArray,_,hk,rfl,rfl,rfl,by rw[List.size_toArray,lenV];exact hl,by simpa using rv⟩) (λb u z=>?_) (λb z=>?_) λz=>?_
  ·by_cases hb:b=Pt
   ·exact .inr (.inr hb)
   ·exact .inl (if_neg hb)
  ·by_cases hb:b=Pt
   ·have z':=(if_pos hb).symm.trans z
    cases z';subst hb;exact hP
   ·have z':=(if_neg hb).symm.trans z
    cases z'
  ·by_cases hb:b=Pt
   ·exact .inr hb
   ·exact absurd (if_neg hb) z
  ·exact absurd (if_neg naP) z
 |none=>
  refine core (λb=>if b=a then some (.frz {cls:=.type "list",data:=.seq vs.toArray} (.lst (ns.map V.int))) else if b=Pt then some (.tbl #[]) else none) (λb=>?_) ((if_neg naP.symm).trans (if_pos rfl)) (.inl (.inr ⟨{cls:=.type "list",data:=.seq vs.toArray},if_pos rfl⟩)) (λb u z=>?_) (λb z=>?_) λ_=>hk
  ·by_cases hb:b=a
   ·exact .inr (.inl ⟨_,_,if_pos hb⟩)
   ·by_cases hb2:b=Pt
    ·exact .inr (.inr hb2)
    ·exact .inl ((if_neg hb).trans (if_neg hb2))
  ·by_cases hb:b=a
   ·have z':=(if_pos hb).symm.trans z
    cases z';subst hb;exact⟨ha,by rw[Ab];exact hl,vs,_,rv,ha⟩
   ·by_cases hb2:b=Pt
    ·have z':=((if_neg hb).trans (if_pos hb2)).symm.trans z
     cases z';subst hb2;exact hP
    ·have z':=((if_neg hb).trans (if_neg hb2)).symm.trans z
     cases z'
  ·by_cases hb:b=a
   ·exact .inl hb
   ·by_cases hb2:b=Pt
    ·exact .inr hb2
    ·exact absurd ((if_neg hb).trans (if_neg hb2)) z
def bZH{l:W.OpenLaw}{n k:Nat}{q:Program}{loose:List Str}{XP:(Q5)->Heap->Prop}{YP:World->Heap->Prop}{d d2:DefRec}{K:Params->W.Frag}{CX:World->CXT}{sp:World->Addr->Sp}(hn:l.most=some n)(hn2:n<=sizeLine)(hdf:d.params.defaults=[])(hr:Room k callerA)(hd2:d2∈recsOf q)(hno:∀w:World,W.noTabs (K w.params)=true)(hY:∀(w:World) (h:Heap),YP w h->(K w.params).In h)(F:∀(w:World) (mg:Q5) (fa:Addr) (h:Heap) (c Pt:Addr),(K w.params).In h->h.Ns mainGlobals mg->mg d.name=some (.ref fa)->aJX h mg d2.name c->
 ∃fd:FuncData,(∀(s:Shared) (u:Value),BindsTo s fd ⟨[u],[]⟩ [(x,u)])/\
  ∀base:Heap,(K w.params).In base->base.Ns mainGlobals mg->LamB mg base c Pt->FnOk l.prog w (K w.params) mg base (CX w) k fa fd [x] (sp w Pt))(hsp:∀(w:World) (H:Hp) (a Pt:Addr) (ns:List Int),ns.length<=n->H Pt=some (.tbl #[])->SqL (K w.params) H a (ns.map V.int)->sp w Pt [.ref a] H (λv _=>v=.bl true) λ_ _ _=>False)(hCX:∀(w:World) (H:Hp) (s:Shared) (e:Value) (s':Shared),CX w [] H s (λ_ _ _=>False) e s'->False):W.WalkO q loose XP YP l.row.toRowW d [] (λf vs=>PySem.call f vs):=by
 refine Att.attach_call hn hdf λw s₀ s₁ mg mb fa o pm cd doc a vs ns G Y ho hd hcd hmg hobj hints hlen hg=>?_;have KX:=hY w _ Y
 obtain⟨a2,o2,fd2,c,Pt,t1,t2,t3,t4,t5,t6⟩:=G.T.tab d2 hd2;have hC:=CodeHd.of t5 t6
 have hP:s₁.heap.get? Pt=some (tabObj #[]):=t6.2
 have hKP:(K w.params).lookup Pt=none:=by
  cases e:(K w.params).lookup Pt with
  |none=>rfl
  |some o=>
   have h1:=KX _ _ e
   rw[hP]at h1;cases h1;have h2:=Ce.mp (hno w) (Pt,tabObj #[]) (W.mem_of_lookupK e)
   exact absurd (show false=true from h2) Ao
 obtain⟨fd,hb,hF⟩:=F w mg fa _ c Pt KX G.T.g hmg ⟨a2,o2,fd2,t1,t2,t3,t4⟩;exact bXQ KX G.T.g G.T.b G.T.builtins G.T.nolimit hg hobj hints (Ca hlen hn2) hr hC hP G.T.bmain hKP hF hb (λH hO hS=>hsp w H a Pt ns hlen hO hS) λH e s'=>hCX w H s₁ e s'
def Fun.okC{ps:List Str}{k:Nat}(F:Fun K x qual st f fd)(hc:fd.code=.ref c)(S:FnScope N ps (aJ st))(len:∀vs H Q E,sp vs H Q E->vs.length=ps.length)(hbody:∀(cdv:Value) (A:Around) (outer:List Env) (s:Shared) (H:Hp) (vs:List V) (Q:VK) (E:XK),cdv=.ref c->Room k (A.deeper (envOfC qual (aJ st) s.heap.objs.size f cdv))->sp vs H Q E->
 ∃t,PSs (fY CX0 P w K mg base N qual (aJ st) f cdv A outer s H E).nox (eW st) t/\t {nx:=λ_ H'=>Q .non H',rt:=Q} (lI N vs) H):FnOk P w K mg base CX0 (k+1) f fd ps sp:=by
 obtain⟨oc,od,kV,doc,pm,an,cdv,ct,osl,rfl,lk,hcd⟩:=F.ex;refine bZQ lk hcd S len λA outer s H vs Q E hr hsp=>?_;obtain⟨t,h,q⟩:=hbody cdv A outer s H vs Q E hc hr hsp;exact⟨t,h.nox,q⟩
def dQ3{oc:Value}{od:Option Addr}{osl:Array (Option Value)}(T:aJX h mg x c)(KX:K.In h)(hm:mg x=some (.ref f))(lk:K.lookup f=some ⟨oc,od,.func fd,osl⟩):fd.code=.ref c:=by
 obtain⟨f',o',fd',e1,e2,e3,e4⟩:=T;rw[hm]at e1;cases e1;have:=KX _ _ lk
 rw[e2]at this;cases this;cases e3;exact e4
end
section
open PySem.W (CodeHd tabObj kla_obj kla_fn envX)
def rX(c:Addr)(q:Str):HO:=.ext λh=>h.CodeRec (.ref c) q
def bJ2(r:h.CodeRec (.ref c) q):ObjOk P w H h c (rX c q):=by
 obtain⟨c2,oc,vs,t,e,ho,hd,hv⟩:=id r;cases e;refine⟨r,⟨oc,ho⟩,λh1 h2 r1 k=>?_⟩;obtain⟨c3,oc,vs,t,e,ho,hd,hv⟩:=r1;cases e;exact⟨_,oc,vs,t,rfl,k _ ho,hd,hv⟩
def LamT(Pt:Addr)(q:Str)(pos:Pos)(H:Hp):Prop:=H Pt=some (.tbl #[])\/∃c,H Pt=some (.tbl (#[]++#[rawInt pos.line,rawInt pos.col,.ref c]))/\H c=some (rX c q)
def SameP(Pt:Addr)(H H':Hp):Prop:=∀b o,b≠Pt->H b=some o->H' b=some o
def SameP.trans{H2:Hp}(a:SameP Pt H H1)(b:SameP Pt H1 H2):SameP Pt H H2:=λc o n e=>b c o n (a c o n e)
def Same.p(s:Same H H'):SameP Pt H H':=λb o _ e=>s b o e
def LamT.keep(h:LamT Pt q pos H)(s:Same H H'):LamT Pt q pos H':=by
 rcases h with h|⟨c,h1,h2⟩
 ·exact .inl (s _ _ h)
 ·exact .inr ⟨c,s _ _ h1,s _ _ h2⟩
def LamT.tb(h:LamT Pt q pos H):∃ps,H Pt=some (.tbl ps):=by
 rcases h with h|⟨c,h1,h2⟩
 ·exact⟨_,h⟩
 ·exact⟨_,h1⟩
structure ClOkL (X:Cx) (N:List Str) (scope:Scope) (cl:List (Str×Addr)) (vals:St->St) (x:Str):Prop where
 clos:closureFor scope X.env=pure cl
 sub:∀y c,cl.lookup y=some c->X.env.cells.lookup y=some c
 has:∀y,(scope.names.lookup y=some .cell\/scope.names.lookup y=some .free)->∃c,cl.lookup y=some c
 len:∀σ,(vals σ).length+1=N.length
 par:N[0]?=some x/\scope.names.lookup x=some .local
 val:∀σ (i:Nat) y v,N[i+1]?=some y->(vals σ)[i]?=some (some v)->∃(j:Nat),X.N[j]?=some y/\σ[j]?=some (some v)/\X.env.scope.names.lookup y=some .cell/\(∃c,cl.lookup y=some c)/\scope.names.lookup y=some .free
def cQU(ix:List Nat):St->St:=λσ=>ix.map λj=>(σ[j]?).join
def eZA(N XN:List Str)(sn dn:List (Str×NameKind))(ix:List Nat)(x:Str):Bool:=
 (ix.length+1==N.length)&&(N[0]? == some x)&&(sn.lookup x==some .local)&&(sn.all λy=>y.2 != .cell&&(y.2 != .free || dn.lookup y.1==some .cell)) &&
 ((List.range ix.length).all λi=>match ix[i]? with|some j=>N[i+1]? == XN[j]? && (match N[i+1]? with|some y=>sn.lookup y==some .free|none=>false)|_=>true)
def jX{k:α}:∀ {l:List (Str×α)},l.lookup x=some k->(x,k)∈l:=fun {l} h=>Dh h
def eZ8(XN:List Str)(sc:Scope)(ix:List Nat)(hN:X.N=XN)(hsc:X.env.scope=sc)(hcell:∀x,sc.names.lookup x=some .cell->∃c,X.env.cells.lookup x=some c)(hchk:eZA N XN scope.names sc.names ix x=true):ClOkL X N scope (clF X.env scope.names []) (cQU ix) x:=by
 unfold eZA at hchk;simp only[Bool.and_eq_true]at hchk;obtain⟨⟨⟨⟨h1,h2⟩,h3⟩,h4⟩,h5⟩:=hchk;have h4':=Ce.mp h4
 have fr:∀y,(y,NameKind.free)∈scope.names->∃c,X.env.cells.lookup y=some c:=λy hy=>by
  have:=h4' _ hy
  simp at this;exact hcell y this
 have hfree:∀y,scope.names.lookup y=some .free->∃c,(clF X.env scope.names []).lookup y=some c:=λy hy=>Dc.mp (mV scope.names [] (jX hy))
 refine⟨?_,λy c e=>?_,λy hy=>?_,λσ=>?_,⟨by simpa using h2,by simpa using h3⟩,λσ i y v e1 e2=>?_⟩
 ·unfold closureFor;exact(congrArg (· >>= λr=>pure r) (qL scope.names [] λy hy hk=>by obtain⟨n,k⟩:=y;cases (show k=.free from hk);exact fr n hy)).trans (by simp)
 ·rcases qP scope.names [] e with z|⟨z,rfl⟩
  ·cases z
  ·obtain⟨c,hc⟩:=fr y z;rw[hc];rfl
 ·rcases hy with hy|hy
  ·have:=h4' _ (jX hy)
   simp at this
  ·exact hfree y hy
 ·unfold cQU;rw[Ab]
  simpa using h1
 ·unfold cQU at e2;rw[Af]at e2;cases ej:ix[i]? with
  |none=>rw[ej]at e2;cases e2
  |some j=>
   rw[ej]at e2;have e2':(σ[j]?).join=some v:=Bf e2
   have hi:i<ix.length:=(Ae.mp ej).1
   have h6:=Ce.mp h5 i (Cb.mpr hi)
   rw[ej]at h6;dsimp only at h6;rw[e1]at h6;simp at h6;have hsg:σ[j]?=some (some v):=by
    cases q:σ[j]? with
    |none=>rw[q]at e2';cases e2'
    |some o=>rw[q]at e2';exact Dk some e2'
   have hdn:=h4' _ (jX h6.2)
   simp at hdn;exact⟨j,by rw[hN];exact h6.1.symm,hsg,by rw[hsc];exact hdn,hfree y h6.2,h6.2⟩
def cxL(X:Cx)(A:Around)(N:List Str)(q:Str)(scope:Scope)(cl:List (Str×Addr))(f c:Addr)(s₀:Shared)(H₀:Hp):Cx where
 prog:=X.prog
 w:=X.w
 K:=X.K
 mg:=X.mg
 base:=X.base
 A:=A.deeper (envX q scope s₀.heap.objs.size f (.ref c) cl)
 N:=N
 s₀:=s₀
 H₀:=H₀
 env:=envX q scope s₀.heap.objs.size f (.ref c) cl
 outer:=X.stack
 stack:=envX q scope s₀.heap.objs.size f (.ref c) cl::X.stack
 ex:=[]
 fn:=λ_=>false
 calm:=true
 pn:=[]
 xe:=λ_ _=>False
section
variable {σ:St} {vals:St->St} {c':Addr}
def bQ8{h1:Heap}{t1:Nat}{v:Value}(I:Inv X pins σ H s)(ck:ClOkL X N scope cl vals x)(hA:A.frames=some X.stack)(hh:A.handled=none)(hkind:scope.kind=.function)(rv:RelV y v)(hns:h1.Ns s.heap.objs.size λz=>[(x,v)].reverse.lookup z)(hsb:Heap.SameBut s.heap.objs.size (s.heap.push {cls:=.type "frame",data:=.dict #[]}) h1):Inv (cxL X A N q scope cl f c' s H) [] (some y::vals σ) H {s with heap:=h1,toks:=t1}:=by
 have old:∀b o,s.heap.get? b=some o->h1.get? b=some o:=λb o e=>(hsb.2 b (Bd (As e))).trans (Ag _ e)
 have hC:H s.heap.objs.size=none:=I.hok.fresh (Aj _)
 have noA:∀b:Addr,b∉(cxL X A N q scope cl f c' s H).ex:=λb z=>absurd (show b∈([]:List Addr) from z) (by simp)
 refine⟨⟨I.ok.mod,hkind,rfl,rfl,Aj _,λy z c h1 h2=>I.ok.inj y z c (ck.sub y c h1) (ck.sub z c h2),ck.has,(λx c h=>nomatch h),λ_=>hh,Around.frames_deeper hA,.inr ⟨rfl,rfl⟩,λb z=>absurd z (noA b),
  I.bs,Nat.le_trans I.ok.bsz I.sz,λb _ _=>noA b,λb z=>absurd z (noA b),I.stack,I.stkFree⟩,rfl,I.bare,Un.kept old,⟨_,hns,λi z v' e1 e2 _=>?_⟩,λy c e=>?_,hC,λy c e=>I.freeC y c (ck.sub y c e),λp hp=>absurd (show p∈([]:Q2) from hp) (by simp),I.hok.kept old,?_⟩
 ·cases i with
  |zero=>
   have e1':N[0]?=some z:=e1
   rw[ck.par.1]at e1';cases e1';cases e2;refine⟨v,rv,.inl ⟨ck.par.2,?_⟩⟩;show [(x,v)].lookup x=some v
   rw[De,Ep]
  |succ i=>
   obtain⟨j,h1,h2,h3,⟨c,h4⟩,h5⟩:=ck.val σ i z v' e1 e2;obtain⟨m,hn,hl⟩:=I.loc;obtain⟨u,r,l⟩:=hl j z v' h1 h2 (.inr (.inl h3));refine⟨u,r,.inr ⟨.inr h5,c,h4,?_⟩⟩;rcases l with⟨z',_⟩|⟨_,c',e',z'⟩
   ·have z2:X.env.scope.names.lookup z=some .local:=z'
    rw[h3]at z2;cases z2
   ·rw[ck.sub z c h4]at e';cases e';obtain⟨o,ho,hd⟩:=z';exact⟨o,old _ o ho,hd⟩
 ·obtain⟨v,o,ho,hd⟩:=I.cell y c (ck.sub y c e);exact⟨v,o,old _ o ho,hd⟩
 ·show (some y::vals σ).length=N.length
  rw[Au];exact ck.len σ
def bJA{body:Expr}{pm ctv v:Value}{y:V}{tb:TE}{Q:VK}(I:Inv X pins σ H s)(ck:ClOkL X N scope cl vals x)(hA:A.frames=some X.stack)(hh:A.handled=none)(hroom:A.depth<recursionLimit)(hf:s.heap.get? f=some (kla_obj "<lambda>" q params body scope cl pm c' ctv))(hcd:s.heap.CodeRec (.ref c') q)(hco:scope.isCoroutine=false)(hgen:scope.isGenerator=false)(hk:scope.kind=.function)(hcell:∀z∈scope.names,z.2≠.cell)(hbind:bindArgs (kla_fn "<lambda>" q params body scope cl pm (.ref c') ctv) ⟨[v],[]⟩=pure [(x,v)])(rv:RelV y v)(hb:PE (cxL X A N q scope cl f c' s H) body tb)(h:tb (some y::vals σ) H Q):codeAny (model X.prog X.w) A (.call (.ref f) ⟨[v],[]⟩) (λr s'=>match r with|.ok (.ret u)=>CE X.stack X.prog X.w H s Q u s'|_=>False) s:=by
 refine W.kla_callFunE hroom hf rfl hco hgen rfl hcd ?_;rw[hbind];refine Al (wpAny_newFunctionEnv hcell (λz hz=>by rw[Ap.mp hz];exact ck.par.2) (λh1 hns hsb=>⟨(I.nolimit).fresh _ hsb,?_⟩) hk)
 show codeAny _ _ (.expr body (envX q scope s.heap.objs.size f (.ref c') cl)) _ _
 refine W.kla_codeExpr ?_;have I1:=bQ8 (A:=A) (q:=q) (f:=f) (c':=c') (t1:=s.toks+[(x,v)].length) I ck hA hh hk rv hns hsb
 exact Cg (hb [] _ _ H _ I1 h) (λu s' ⟨v',H',J,r,q⟩=>⟨v',H',J.os,J.bare,J.base,J.hok,r,q⟩) λe s' z=>z.elim
def Inv.table{ps more:Array Value}{t':Nat}(I:Inv X pins σ H s)(hP:H Pt=some (.tbl ps))(hx:Heap.ExtBut Pt s.heap h')(ht:h'.get? Pt=some (tabObj (ps++more))):Inv X pins σ (upd H Pt (.tbl (ps++more))) {s with heap:=h',toks:=t'}:=by
 have neP:∀b u,H b=some u->(∀z,u≠.tbl z)->b≠Pt:=λb u e n z=>by rw[z,hP]at e;cases e;exact n _ rfl
 have nn:∀b,H b=none->b≠Pt:=λb e z=>by rw[z,hP]at e;cases e
 refine I.un ⟨λb o e n _ _=>hx b o (nn b n) e,λb o e n _ _=>⟨o.slots,hx b o (nn b n) e⟩,λb o e n _=>by rw[aG (nn b n)];exact n,λb o e _=>?_,λb xs e=>by rw[aG (neP b _ e λ_=>nofun)];exact e,λb o u e=>by rw[aG (neP b _ e λ_=>nofun)];exact e,λb qs e=>?_⟩ λb u e=>?_
 ·by_cases hb:b=Pt
  ·exact⟨_,hb▸ht⟩
  ·exact⟨o,hx b o hb e⟩
 ·by_cases hb:b=Pt
  ·subst hb;rw[hP]at e;cases e;exact⟨more,aD⟩
  ·exact⟨#[],by rw[aG hb,e];simp⟩
 ·by_cases hb:b=Pt
  ·subst hb;rw[aD]at e;cases e;exact ht
  ·rw[aG hb]at e;refine(I.hok b u e).stay (λc v hc q=>hx c v ?_ q) (λc q=>by rw[aG (neP c _ q λ_=>nofun)];exact q) λc xs q=>by rw[aG (neP c _ q λ_=>nofun)];exact q
   rcases hc with z|z
   ·rw[z];exact hb
   ·exact neP c _ z λ_=>nofun
def Inv.fsLt(I:Inv X pins σ H s)(h:b∈X.fs):b<s.heap.objs.size:=by
 obtain⟨_,o',g',_⟩:=I.ok.funs.mem h;exact Bc (As g') I.sz
def fnO(f:Addr)(o:Obj):HO:=.ext λh=>h.get? f=some o
def cZC(e:h.get? f=some o):ObjOk P w H h f (fnO f o):=⟨e,⟨o,e⟩,λh1 h2 e1 k=>k o e1⟩
def fQI(Pt:Addr)(q:Str)(params:Arguments)(body:Expr)(scope:Scope)(cl:List (Str×Addr))(pos:Pos):TE:=λσ H Q=>LamT Pt q pos H/\∀f c' pm ctv H',SameP Pt H H'->LamT Pt q pos H'->H' c'=some (rX c' q)->H' f=some (fnO f (kla_obj "<lambda>" q params body scope cl pm c' ctv))->Q (.ref f) H'
def eQC{body:Expr}(ck:ClOkL X N scope cl vals x)(hcode:X.env.code=.ref c)(LB:LamB X.mg X.base c Pt)(hdef:defaultsOf params X.env=([],[])):PE X (.Lambda params body scope pos) (fQI Pt (X.env.qual ++ "<lambda>") params body scope cl pos):=by
 intro pins s σ H Q I hT;obtain⟨T,h⟩:=hT;refine W.kla_eval hdef ?_;generalize X.env.qual ++ "<lambda>"=q at T h ⊢;have hg:s.heap.Ns mainGlobals X.mg:=I.mod.glob.keeps I.bk
 obtain⟨ps0,hHP⟩:=T.tb;have hPs:s.heap.get? Pt=some (tabObj ps0):=I.hok Pt _ hHP
 obtain⟨bm,ob,b1,b2,b3,b4,b5,b6⟩:=LB.bm;have hbG:bm≠mainGlobals:=λz=>by
  obtain⟨o,es,ep,e,hd,_⟩:=I.mod.glob;rw[z,e]at b3;cases b3;rw[hd]at b6;cases b6
 have hbP:bm≠Pt:=λz=>by
  have:=(I.bs _ _ b3).2
  rw[z,hHP]at this;cases this
 have hgP:mainGlobals≠Pt:=λz=>by
  obtain⟨o,es,ep,e,hd,_⟩:=I.mod.glob;have:=(I.bs _ _ e).2
  rw[z,hHP]at this;cases this
 have hB:s.heap.BuiltinsAt X.mg Pt:=⟨bm,ob,b1,b2,hbG,hbP,I.bk _ _ b3,b4,b5,b6⟩
 have hPlt:Pt<s.heap.objs.size:=As hPs
 rcases T with T|⟨c',T,Tc⟩
 ·have hP0:s.heap.get? Pt=some (tabObj #[]):=I.hok Pt _ T
  refine W.kla_makeFunction ck.clos I.ok.glob hg hcode (LB.code.keeps I.bk) hP0 trivial rfl hgP hB λc' ctv h' tk hx hge hlt hrec htb=>?_;have I1:=I.table (t':=tk) T hx htb
  have hle:s.heap.objs.size<=h'.objs.size:=Ca hge (Nat.le_of_lt hlt)
  have nc:c'≠Pt:=Dz (Bc hPlt hge)
  have hcn:(upd H Pt (.tbl (#[]++#[rawInt pos.line,rawInt pos.col,.ref c']))) c'=none:=by rw[aG nc];exact I.hok.fresh hge
  have fr:=I.freAt hge
  have I2:=I1.adopt (a:=c') (o:=rX c' q) ⟨fr.s0,fr.loc,fr.cell,fr.pin⟩ hcn (bJ2 hrec)
  have I3:=I2.kept (t':=tk) (h':=h'.push (kla_obj "<lambda>" q params body scope cl ((X.mg "__name__").getD .none) c' ctv)) λb u e=>Ag _ e
  have nfP:h'.objs.size≠Pt:=Dz (Bc hPlt hle)
  have nfc:h'.objs.size≠c':=Dz hlt
  have ff:=I.freAt hle
  have hfn:(upd (upd H Pt (.tbl (#[]++#[rawInt pos.line,rawInt pos.col,.ref c']))) c' (rX c' q)) h'.objs.size=none:=by
   rw[aG nfc,aG nfP];exact I.hok.fresh hle
  have I4:=I3.adopt (a:=h'.objs.size) (o:=fnO h'.objs.size (kla_obj "<lambda>" q params body scope cl ((X.mg "__name__").getD .none) c' ctv)) ⟨ff.s0,ff.loc,ff.cell,ff.pin⟩ hfn (cZC (Av _ rfl))
  refine⟨.ref h'.objs.size,_,I4,rfl,h h'.objs.size c' ((X.mg "__name__").getD .none) ctv _ (λb o n e=>?_) (.inr ⟨c',?_,?_⟩) ?_ aD⟩
  ·rw[aG (λz=>by rw[z,I.hok.fresh hle]at e;cases e),aG (λz=>by rw[z,I.hok.fresh hge]at e;cases e),aG n]
   exact e
  ·rw[aG nfP.symm,aG nc.symm];exact aD
  ·rw[aG nfc.symm];exact aD
  ·rw[aG nfc.symm];exact aD
 ·have hP0:s.heap.get? Pt=some (tabObj (#[]++#[rawInt pos.line,rawInt pos.col,.ref c'])):=I.hok Pt _ T
  refine W.kla_makeFunctionHit (cv:=.ref c') ck.clos I.ok.glob hg hcode (LB.code.keeps I.bk) hP0 trivial (codeAmong_snoc [] trivial rfl) hB λctv h' tk hk hsz=>?_;have I3:=I.kept (t':=tk) (h':=h'.push (kla_obj "<lambda>" q params body scope cl ((X.mg "__name__").getD .none) c' ctv)) λb u e=>Ag _ (hk b u e)
  have ff:=I.freAt hsz
  have hfn:=I.hok.fresh hsz
  have I4:=I3.adopt (a:=h'.objs.size) (o:=fnO h'.objs.size (kla_obj "<lambda>" q params body scope cl ((X.mg "__name__").getD .none) c' ctv)) ⟨ff.s0,ff.loc,ff.cell,ff.pin⟩ hfn (cZC (Av _ rfl))
  have sm:=aF hfn (fnO h'.objs.size (kla_obj "<lambda>" q params body scope cl ((X.mg "__name__").getD .none) c' ctv))
  exact⟨.ref h'.objs.size,_,I4,rfl,h h'.objs.size c' ((X.mg "__name__").getD .none) ctv _ (Same.p sm) (LamT.keep (.inr ⟨c',T,Tc⟩) sm) (sm _ _ Tc) aD⟩
end
end
section
open PySem.W (CodeHd tabObj kla_obj kla_fn envX)
def bXD(a v:Value):argsOk "max" ⟨[a],[(Str.ofString "key",v)]⟩:=by unfold argsOk;kernel_rfl
section
variable {l:Addr} {its:List Value} {G:Shared->Prop} {val:Nat->Int} {Q:Q0}
def bZG(hl:s.heap.IsList l its.toArray)(hne:0<its.length)(hh:A.handled=none)(hG0:∀h' tk,(∀b o,s.heap.get? b=some o->h'.get? b=some o)->G {s with heap:=h',toks:=tk})(hG:∀(s1:Shared) h' tk,G s1->(∀b o,b≠s.heap.objs.size->b≠s.heap.objs.size+1->s1.heap.get? b=some o->h'.get? b=some o)->G {s1 with heap:=h',toks:=tk})(hcall:∀(i:Nat) v (s1:Shared) (Q:Q0) (E:Q0),its[i]?=some v->G s1->(∀t s',G s'->(∀b o,(b=s.heap.objs.size\/b=s.heap.objs.size+1\/b=l)->s1.heap.get? b=some o->s'.heap.get? b=some o)->Q (.int (val i) t) s')->wpAny (model prog w) A.in1 (call (.ref f) [v]) Q E s1)(hQ:∀z s',its[argBest (btV val) (its.length-1)]?=some z->G s'->Q z s'):wpAny (model prog w) A (call (.builtin "max") [.ref l] [(Str.ofString "key",.ref f)]) Q E s:=by
 have hname:(toString "max" ++ toString ".loop" : String)="max.loop" := by decide
 obtain⟨ol,hol,_⟩:=id hl;have hll:l<s.heap.objs.size:=As hol
 refine kmk_tree PySem.F.kind_max PySem.F.plain_max PySem.F.entry_max (bXD _ _) ?_;show wpAny _ A.in1 (Builtin.Builtins.bindParams "max" ["key", "default"] 0 ⟨[],[(Str.ofString "key",.ref f)]⟩ >>= _) _ _ s
 refine Ad (wpAny_of_eq (show Builtin.Builtins.bindParams "max" ["key", "default"] 0 ⟨[],[(Str.ofString "key",.ref f)]⟩=pure [some (.ref f),none] from rfl) ?_);refine Ad (Al ?_);refine Ad (Ea hl ?_);refine Ad (wpAny_newList ?_ (Cy _));rw[hname];have hS:(s.heap.push {cls:=.type "list_iterator",data:=.fields #[.ref l,.int 0 0]}).objs.size=s.heap.objs.size+1:=by rw[Et]
 have nlJ:l≠s.heap.objs.size:=Bd hll
 have nlB:l≠s.heap.objs.size+1:=Bd (Nat.lt_succ_of_lt hll)
 have W:=Walks.list (prog:=prog) (w:=w) (A:=A.in1) hh s.heap.objs.size l nlJ its.toArray
 have hsz:its.toArray.size=its.length:=Az ..
 have nB:s.heap.objs.size+1∉[s.heap.objs.size,l]:=λz=>by
  simp only[List.mem_cons,List.not_mem_nil,or_false]at z;rcases z with z|z
  ·exact Nat.succ_ne_self _ z
  ·exact nlB z.symm
 rw[hS];refine Al ⟨Gp Dr _,?_⟩;generalize hhp:(s.heap.push {cls:=.type "list_iterator",data:=.fields #[.ref l,.int 0 0]}).push {cls:=.type "list",data:=.seq #[]}=h0;have k0:∀b o,s.heap.get? b=some o->h0.get? b=some o:=λb o e=>by rw[<-hhp];exact Ag _ (Ag _ e)
 have gJ:h0.get? s.heap.objs.size=some {cls:=.type "list_iterator",data:=.fields #[.ref l,.int 0 0]}:=by rw[<-hhp];exact Ag _ (Av _ rfl)
 have gB:h0.get? (s.heap.objs.size+1)=some {cls:=.type "list",data:=.seq #[]}:=by rw[<-hhp,<-hS];exact Av _ rfl
 have hl0:h0.IsList l its.toArray:=by obtain⟨o,e,r⟩:=hl;exact⟨o,k0 _ _ e,r⟩
 refine Fp Hn ?_;rw[Fe Dr _];show wpAny _ A.in1 (seqItems? (.ref (s.heap.objs.size+1)) >>= _) _ _ _
 refine Ad (Ei gB rfl ?_);show wpAny _ A.in1 (tryCatch (pyNext (.ref s.heap.objs.size)) _ >>= _) _ _ _
 refine Ad (Fk (W.item 0 _ _ _ (by rw[hsz];exact hne) ⟨⟨_,gJ,rfl,rfl⟩,hl0⟩ λv h' tk' hP st1 hk'=>?_))
 have hv:its[0]?=some v:=by simpa using hP
 have g1:G {s with heap:=h',toks:=tk'}:=by
  refine hG {s with heap:=h0,toks:=s.toks} h' tk' (hG0 h0 s.toks k0) λb o n1 n2 e=>hk' b o (λz=>n1 (by simpa using z)) e
 have gB1:=hk' (s.heap.objs.size+1) _ (λz=>absurd (show s.heap.objs.size+1=s.heap.objs.size by simpa using z) (Nat.succ_ne_self _)) gB
 show wpAny _ A.in1 (tryCatch (holding [v] (call (.ref f) [v])) _ >>= _) _ _ _
 refine Ad (Fk (Da (hcall 0 v _ _ _ hv g1 λt2 s2 g2 k2=>?_)));have gB2:=k2 _ _ (.inr (.inl rfl)) gB1
 have st2:=W.frame _ _ _ st1 λb hb o e=>k2 b o (by
  simp only[List.mem_cons,List.not_mem_nil,or_false]at hb;rcases hb with z|z
  ·exact .inl z
  ·exact .inr (.inr z)) e
 show wpAny _ A.in1 (updateSeq (s.heap.objs.size+1) (λ_=>#[v,.int (val 0) t2]) >>= _) _ _ _
 refine Ad (wpAny_updateSeq gB2 rfl ?_);rw[hname];refine Al ⟨Gp Dr _,?_⟩;refine bQS (J:=s.heap.objs.size) (B:=s.heap.objs.size+1) (f:=f) (G:=G) (val:=val) W nB (λs1 h1 tk g k=>hG s1 h1 tk g λb o n1 n2 e=>k b o (λz=>n1 (by simpa using z)) n2 e)
  (λi u s1 Q1 E1 hu g k=>hcall i u s1 Q1 E1 (by simpa using hu) g λt s3 g3 k3=>k t s3 g3 λb o hb e=>k3 b o (by
   simp only[List.mem_cons,List.not_mem_nil,or_false]at hb;rcases hb with z|z|z
   ·exact .inr (.inl z)
   ·exact .inl z
   ·exact .inr (.inr z)) e)
  (λz s' pz g=>hQ z s' (by rw[hsz]at pz;simpa using pz) g) (its.toArray.size-1) 0 _ v t2 _ (by omega) (by omega) (W.frame _ _ _ st2 λb hb o e=>(Heap.get?_update_other _ _ (λz:s.heap.objs.size+1=b=>nB (z▸hb))).trans e) (show its.toArray[0]?=some v by simpa using hv) (Heap.get?_update_self _ gB2 rfl)
  (hG s2 _ s2.toks g2 λb o n1 n2 e=>(Bt _ _ (Ne.symm n2)).trans e)
end
section
variable {σ:St}
def Inv.freezeL(I:Inv X pins σ H s)(ha:H a=some (.lst xs))(ho:s.heap.get? a=some o):Inv X pins σ (upd H a (.frz o (.lst xs))) s:=by
 have ne:∀c v,H c=some v->(∀z,v≠.lst z)->c≠a:=λc v q n z=>by rw[z,ha]at q;cases q;exact n _ rfl
 have own:∀c y,H c=some (.own y)->upd H a (.frz o (.lst xs)) c=some (.own y):=λc y q=>by rw[aG (ne c _ q λ_=>nofun)];exact q
 have tup:∀c zs,H c=some (.tup zs)->upd H a (.frz o (.lst xs)) c=some (.tup zs):=λc zs q=>by rw[aG (ne c _ q λ_=>nofun)];exact q
 refine I.re (λb q=>by rw[aG (λz=>by rw[z,ha]at q;cases q)];exact q) (λb zs q=>tup b zs (I.base.tups b zs q)) (λb o' v q=>?_) (λb ps q=>?_) (λb v q=>?_)
 ·have:=I.base.frzs b o' v q
  rw[aG (ne b _ this λ_=>nofun)];exact this
 ·obtain⟨m,e⟩:=I.base.tbls b ps q;exact⟨m,by rw[aG (ne b _ e λ_=>nofun)];exact e⟩
 ·by_cases hb:b=a
  ·subst hb;rw[aD]at q;cases q;exact(show s.heap.get? b=some o/\ObjOk X.prog X.w (upd H b (.frz o (.lst xs))) s.heap b (.lst xs) from⟨ho,(I.hok b _ ha).stay (λ_ _ _ q=>q) (λc=>own c b) tup⟩)
  ·rw[aG hb]at q;exact(I.hok b v q).stay (λ_ _ _ q=>q) (λc=>own c b) tup
def cQO(ha:H a=some (.lst xs)):unf H (upd H a (.frz o (.lst xs)))=H:=by
 funext b
 by_cases hb:b=a
 ·subst hb;rw[qO aD (λo v z=>by rw[ha]at z;cases z),ha]
 ·cases e:H b with
  |none=>exact rS (by rw[aG hb];exact e)
  |some u=>
   by_cases hf:∃o v,u=.frz o v
   ·obtain⟨o',v,rfl⟩:=hf;exact kK (by rw[aG hb];exact e) e
   ·exact dY (by rw[aG hb];exact e) λo v z=>hf ⟨o,v,z⟩
def Inv.turned2(I:Inv X pins σ H s)(k:∀c o,c≠a->c≠b->s.heap.get? c=some o->h'.get? c=some o)(fa:Fre X pins a)(fb:Fre X pins b)(na:H a=none)(nb:H b=none)(ha:X.s₀.heap.objs.size<=a)(hb:X.s₀.heap.objs.size<=b):Inv X pins σ H {s with heap:=h',toks:=t'}:=by
 have nit:∀c u,H c=some u->c≠a/\c≠b:=λc u e=>⟨(λz=>by rw[z,na]at e;cases e),(λz=>by rw[z,nb]at e;cases e)⟩
 have nch:∀ {c},c∉[a,b]->c≠a/\c≠b:=fun {c} h=>⟨λz=>h (by simp[z]),λz=>h (by simp[z])⟩
 refine I.step (g':=s.gens) (d':=s.drawn) (ch:=[a,b]) (λc hc=>?_) (λc o _ _ hc e _=>k c o (nch hc).1 (nch hc).2 e) (λc o _ _ hc e _=>⟨o.slots,k c o (nch hc).1 (nch hc).2 e⟩) (λ_ _ _ _ n=>n)
  (λc o hc e=>⟨o,k c o (nch hc).1 (nch hc).2 e⟩) (λ_ _ e=>e) (λ_ _ _ e=>e) (λb ps e=>⟨#[],by rw[e];simp⟩) (λm hm=>?_) (λc u e=>?_) I.bare
 ·simp only[List.mem_cons,List.not_mem_nil,or_false]at hc;rcases hc with rfl|rfl
  ·exact⟨.inr ha,fa.loc,fa.cell,fa.pin⟩
  ·exact⟨.inr hb,fb.loc,fb.cell,fb.pin⟩
 ·obtain⟨o,es,ep,ho,r⟩:=hm;exact⟨o,es,ep,k _ o fa.loc.symm fb.loc.symm ho,r⟩
 ·refine(I.hok c u e).stay (λd v hd q=>k d v ?_ ?_ q) (λ_ q=>q) λ_ _ q=>q
  ·rcases hd with z|z
   ·rw[z];exact(nit c u e).1
   ·exact(nit d _ z).1
  ·rcases hd with z|z
   ·rw[z];exact(nit c u e).2
   ·exact(nit d _ z).2
end
def aZ4(Pt:Addr)(q:Str)(lpos:Pos)(tb:TE)(vals:St->St)(ta:TA):TE:=λσ H Q=>ta σ H λxs H1=>∃(p:Addr) (ns:List Int) (val:Nat->Int),xs=[.ref p]/\rdL H1 p=some (ns.map V.int)/\0<ns.length/\LamT Pt q lpos H1/\
 (∀H2,(∀a zs,rdL H1 a=some zs->rdL H2 a=some zs)->∀(i:Nat) n,ns[i]?=some n->tb (some (.int n)::vals σ) H2 λv H3=>v=.int (val i)/\H3=H2)/\
 ∀(i:Nat) m H2,ns[i]?=some m->(∀j,j<ns.length->val j<=val i)->SameP Pt H1 H2->LamT Pt q lpos H2->Q (.int m) H2
def aQ2(val:Nat->Int):∀n,argBest (btV val) n<=n/\∀j,j<=n->val j<=val (argBest (btV val) n):=λn=>argBest_gt val n
def aZ1(s:SameP Pt H H')(h:rdL H a=some xs)(hP:∃ps,H Pt=some (.tbl ps)):rdL H' a=some xs:=by
 have na:a≠Pt:=λz=>by
  obtain⟨ps,e⟩:=hP;unfold rdL at h;rw[z,e]at h;cases h
 unfold rdL at h ⊢;cases e:H a with
 |none=>rw[e]at h;cases h
 |some o=>rw[s a o na e];rw[e]at h;exact h
def bXU(h:rdL H a=some xs):H a=some (.lst xs)\/∃o,H a=some (.frz o (.lst xs)):=by
 unfold rdL at h;cases e:H a with
 |none=>rw[e]at h;cases h
 |some o=>
  rw[e]at h;cases o with
  |lst ys=>cases h;exact .inl rfl
  |frz o u=>
   cases u with
   |lst ys=>cases h;exact .inr ⟨o,rfl⟩
   |_=>cases h
  |_=>cases h
def bXY{vals:St->St}{body:Expr}{p lpos kp:Pos}{tb:TE}(hc:X.calm=true)(hdp:X.A.depth+3<recursionLimit)(hg:Gl X "max")(hm:X.mg "max"=none)(ha:PA X [l] ta)(hcode:X.env.code=.ref c)(LB:LamB X.mg X.base c Pt)(ck:ClOkL X N scope cl vals x)(hb:∀(A:Around) (f c':Addr) (s₀:Shared) (H₀:Hp),PE (cxL X A N (X.env.qual ++ "<lambda>") scope cl f c' s₀ H₀) body tb)(hdef:defaultsOf params X.env=([],[]))(hco:scope.isCoroutine=false)(hgen:scope.isGenerator=false)(hk:scope.kind=.function)(hcell:∀z∈scope.names,z.2≠.cell)(hbind:∀(q:Str) (pm ctv v:Value) (c':Addr),bindArgs (kla_fn "<lambda>" q params body scope cl pm (.ref c') ctv) ⟨[v],[]⟩=pure [(x,v)])(hs:starEach [l] X.env=[(false,eval l X.env)]:=by rfl)(hks:keywordEach [⟨some "key",.Lambda params body scope lpos,kp⟩] X.env=[(some ("key" : Str),eval (.Lambda params body scope lpos) X.env)]:=by rfl):PE X (.Call (.Name "max" p) [l] [⟨some "key",.Lambda params body scope lpos,kp⟩] pos) (aZ4 Pt (X.env.qual ++ "<lambda>") lpos tb vals ta):=by
 intro pins s σ H Q I h;have hs2:backTo pos (starEach [l] X.env)=[(false,eval l X.env)]:=by rw[hs];rfl
 refine Du (gC I hg hm boot_max (aQQ (by rw[hs2];rfl) (by rw[hks];rfl) ?_))
 rw[hs2];refine evalArgs_kwB (by rw[hks];rfl) ?_
 rw[<-hs2];refine thn (ha pos pins s σ H _ I h) λus s1 ⟨vs,H1,I1,r1,q1⟩=>?_;obtain⟨p,ns,val,rfl,hp,hn,T,hbd,qe⟩:=q1;refine thn (qN (eQC ck hcode LB hdef) xU pos pins s1 σ H1 (λzs H2=>∃f c' pm ctv,zs=[.ref f]/\SameP Pt H1 H2/\LamT Pt (X.env.qual ++ "<lambda>") lpos H2/\H2 c'=some (rX c' (X.env.qual ++ "<lambda>"))/\H2 f=some (fnO f (kla_obj "<lambda>" (X.env.qual ++ "<lambda>") params body scope cl pm c' ctv))) I1 ⟨T,λf c' pm ctv H' a b c d=>⟨f,c',pm,ctv,rfl,a,b,c,d⟩⟩) λws s2 ⟨zs,H2,I2,r2,q2⟩=>?_;obtain⟨f,c',pm,ctv,rfl,sP,T2,hc',hf⟩:=q2;obtain⟨u,rfl,ru⟩:=dI r1;cases ru;obtain⟨u,rfl,ru⟩:=dI r2;cases ru;have e:(backToKw pos (keywordEach [⟨some "key",.Lambda params body scope lpos,kp⟩] X.env)).filterMap (·.1)=(["key"]:List Str):=by rw[hks];rfl
 rw[e];show wpAny (model X.prog X.w) X.A (call (.builtin "max") [.ref p] [(Str.ofString "key",.ref f)]) _ _ _
 generalize X.env.qual ++ "<lambda>"=q at *;have hp2:=aZ1 sP hp T.tb
 -- the list is known from here on
 obtain⟨ol,hol⟩:∃o,s2.heap.get? p=some o:=by
  obtain⟨its,rv,pl,hz⟩:=I2.list (bI hp2);obtain⟨o,e,_⟩:=pl.isList;exact⟨o,e⟩
 obtain⟨Hf,If,hpf,hback,hrd,hcf,hff⟩:∃Hf,Inv X pins σ Hf s2/\Hf p=some (.frz ol (.lst (ns.map V.int)))/\(∀s',Inv X pins σ Hf s'->Inv X pins σ H2 s')/\(∀a zs,rdL H1 a=some zs->rdL Hf a=some zs)/\Hf c'=some (rX c' q)/\Hf f=some (fnO f (kla_obj "<lambda>" q params body scope cl pm c' ctv)):=by
  rcases bXU hp2 with z|⟨o,z⟩
  ·have ne:∀b u,H2 b=some u->(∀y,u≠.lst y)->b≠p:=λb u e n y=>by rw[y,z]at e;cases e;exact n _ rfl
   refine⟨upd H2 p (.frz ol (.lst (ns.map V.int))),I2.freezeL z hol,aD,λs' J=>?_,λa zs h=>?_,?_,?_⟩
   ·have:=J.unfreeze (Hs:=H2) λb o u e=>I2.base.frzs b o u e
    rw[cQO z]at this;exact this
   ·have h2:=aZ1 sP h T.tb
    by_cases ea:a=p
    ·subst ea;rw[hp2]at h2;cases h2;show rdO (upd H2 a (.frz ol (.lst (ns.map V.int))) a)=_
     rw[aD];rfl
    ·unfold rdL at h2 ⊢;rw[aG ea];exact h2
   ·rw[aG (ne _ _ hc' λ_=>nofun)];exact hc'
   ·rw[aG (ne _ _ hf λ_=>nofun)];exact hf
  ·obtain⟨eo,_⟩:=I2.hok p _ z;rw[hol]at eo;cases eo;exact⟨H2,I2,z,λ_ J=>J,λa zs h=>aZ1 sP h T.tb,hc',hf⟩
 obtain⟨its,rv,pl,hz⟩:=If.list (bI (hrd p _ hp));have hl:=pl.isList
 have hle:its.length=ns.length:=by have:=rv.length;rw[Ab]at this;omega
 have at':∀(i:Nat) (v:Value),its[i]?=some v->∃n t,ns[i]?=some n/\v=Value.int n t:=λi v hv'=>by
  have hi:i<ns.length:=by rw[<-hle];exact(Ae.mp hv').1
  obtain⟨u,hu,ru⟩:=rv.get (show (ns.map V.int)[i]?=some (.int ns[i]) by rw[Af,Aa hi];rfl)
  rw[hv']at hu;cases hu;obtain⟨t,rfl⟩:=ru;exact⟨_,t,Aa hi,rfl⟩
 have fJ:=If.freAt (Aj s2.heap.objs.size)
 have fB:=If.freAt (Hv s2.heap.objs.size)
 have nJ:Hf s2.heap.objs.size=none:=If.hok.fresh (Aj _)
 have nB:Hf (s2.heap.objs.size+1)=none:=If.hok.fresh (Hv _)
 have sz0:=If.sz
 have ns0:∀b,s2.heap.objs.size<=b->b∉frs X.stack:=λb hb z=>by
  rcases Be.mp (If.stkSub b z) with y|y
  ·exact absurd (Bc If.lt hb) (by rw[y];exact Ct _)
  ·exact absurd (Bc (If.fsLt y) hb) (Ct _)
 refine bZG (val:=val) (G:=λs'=>Inv X pins σ Hf s') hl (by omega) (If.ok.hd hc) (λh' tk k=>If.kept k) (λs3 h' tk J k=>?_) (λi v s3 Q3 E3 hv J k=>?_) λz s' hz' J=>?_
 ·exact J.turned2 k fJ fB nJ nB sz0 (Nat.le_succ_of_le sz0)
 ·obtain⟨n,t,en,rfl⟩:=at' i v hv;refine Gw (Fc (bJA (A:=X.A.in1) (q:=q) (f:=f) (c':=c') (pm:=pm) (ctv:=ctv) (v:=.int n t) (y:=.int n) (Q:=λv H3=>v=.int (val i)/\H3=Hf) J ck If.ok.frames (If.ok.hd hc) (by show X.A.depth<_;omega) (J.hok f _ hff).1 (J.hok c' _ hcf).1 hco hgen hk hcell (hbind q pm ctv _ c') ⟨t,rfl⟩ (hb _ _ _ _ _) (hbd Hf hrd i n en)) λr s4 hr=>?_)
  match r,hr with
  |.ok (.ret u),hr=>
   have un:Un (frs X.stack) [] Hf Hf s3.heap s4.heap:=by obtain⟨v',H',_,_,un,_,_,⟨_,rfl⟩⟩:=hr;exact un
   obtain⟨v',H',J',rv',⟨rfl,rfl⟩⟩:=J.after hr;obtain⟨t',rfl⟩:=rv';refine k t' s4 J' λb o hb e=>?_;rcases hb with z|z|z
   ·subst z;exact un.keep _ o e nJ (ns0 _ (Nat.le_refl _)) (by simp)
   ·subst z;exact un.keep _ o e nB (ns0 _ (Nat.le_succ _)) (by simp)
   ·subst z;have e1:=(J.hok _ _ hpf).1
    rw[e]at e1;cases e1;exact(J'.hok _ _ hpf).1
 ·obtain⟨h1,h2⟩:=aQ2 val (its.length-1);obtain⟨m,t,em,rfl⟩:=at' _ _ hz';exact⟨.int m,H2,hback s' J,⟨t,rfl⟩,qe _ m H2 em (λj hj=>h2 j (by omega)) sP T2⟩
def cXM{lpos:Pos}{tb:TE}{vals:St->St}{σ:St}(h:ta σ H λxs H1=>∃(p:Addr) (ns:List Int) (val:Nat->Int),xs=[.ref p]/\rdL H1 p=some (ns.map V.int)/\0<ns.length/\LamT Pt q lpos H1/\
 (∀H2,(∀a zs,rdL H1 a=some zs->rdL H2 a=some zs)->∀(i:Nat) n,ns[i]?=some n->tb (some (.int n)::vals σ) H2 λv H3=>v=.int (val i)/\H3=H2)/\
 ∀(i:Nat) m H2,ns[i]?=some m->(∀j,j<ns.length->val j<=val i)->SameP Pt H1 H2->LamT Pt q lpos H2->Q (.int m) H2):aZ4 Pt q lpos tb vals ta σ H Q:=h
def dZ3{k:Nat}(r:Room k A):A.depth+3<recursionLimit:=by have:=r.dp;omega
end
def bXZ(CX:CXT)(P:Program)(w:World)(K:W.Frag)(mg:Str->Option Value)(base:Heap)(k:Nat)(C:Addr)(m:Str)(ps:List Str)(sp:Sp):Prop:=
 ∃(f:Addr) (fd:FuncData),FnOk P w K mg base CX k f fd ps sp/\Meth K C m f/\Binds K fd ps []
def dZU(CX:CXT)(P:Program)(w:World)(K:W.Frag)(mg:Str->Option Value)(base:Heap)(k:Nat)(C:Addr)(ps:List Str)(sp:Sp):Prop:=
 ∃(f:Addr) (fd:FuncData),FnOk P w K mg base CX k f fd ps sp/\Mk K C f/\Binds K fd ps []
section
variable {CX:CXT} {k:Nat} {ps:List Str} {Es:St->XK} {E:XK} {m:Str} {p:Pos} {o:Expr} {ta:TE} {σ:St}
def aZD(C:Addr)(m:Str)(sp:Sp)(Es:St->XK)(ta:TE)(t:TA):TE:=λσ H Q=>ta σ H λx H1=>∃a dx fs,x=.ref a/\H1 a=some (.ins C dx fs)/\fs.lookup m=none/\
 t σ H1 λvs H2=>sp (x::vs) H2 Q (Es σ)
def cZR{us:List Value}{vs:List V}(F:FnOk X.prog X.w X.K X.mg X.base CX k f fd ps sp)(hr:Room k X.A)(hb:Binds X.K fd ps [])(hx:aJ1 CX X Es)(I1:Inv X pins σ H s1)(r:Vals vs us)(q:sp vs H Q (Es σ)):wpAny (model X.prog X.w) X.A (call (.ref f) us) (EP X pins σ Q) X.xe s1:=by
 have hl:us.length=ps.length:=by rw[<-r.length];exact F.len _ _ _ _ q
 have hb1:=hb s1 us I1.kIn (by rw[Bs];exact hl)
 rw[Bs]at hb1;refine Gw (Fc (F.run X.A X.stack s1 H ⟨us,[]⟩ us vs Q (Es σ) hr I1.env0 hb1 r q) λrs s' hq=>?_);cases rs with
 |error e=>exact hx pins σ H s1 e s' I1 hq
 |ok fl=>
  cases fl with
  |ret u=>exact I1.after hq
  |next=>exact False.elim hq
  |brk=>exact False.elim hq
  |cont=>exact False.elim hq
def cQY{pl:Sem Bool}(he:PE X o ta)(c:Cls X.K C)(hm:Meth X.K C m f)(F:FnOk X.prog X.w X.K X.mg X.base CX k f fd ps sp)(hr:Room k X.A)(hb:Binds X.K fd ps [])(hx:aJ1 CX X Es)(ha:PA X (e::es) t)(hst:starEach (e::es) X.env=(false,eval e X.env)::starEach es X.env:=by rfl)(hpl:(backTo pos (starEach es X.env)).any (·.1)=false:=by rfl)(ht:eval (.Call (.Attribute o m apos) (e::es) [] pos) X.env=(do
 let ov <-eval o X.env
 standAt apos.atName
 let (f,first) <-holding [ov] (getMethod ov m pl)
 callWith pos f first (backTo pos (starEach (e::es) X.env)) (backToKw pos (keywordEach [] X.env))):=by rfl):PE X (.Call (.Attribute o m apos) (e::es) [] pos) (aZD C m sp Es ta t):=by
 intro pins s σ H Q I h;refine Fu (pl:=pl) (thn (he pins s σ H _ I h) λu s1 ⟨x,H1,I1,rx,a,dx,fs,ex,ea,l,q⟩=>?_) ht;subst ex;obtain rfl:u=Value.ref a:=rx;refine mM I1 ea c hm l ?_;refine Gx (first:=[.ref a]) (h₀:=X.base) I.ok.mod.kin hm.kp (thn (ha pos pins s1 σ H1 _ I1 q) λus s2 ⟨vs,H2,I2,r,q2⟩=>⟨I2.kIn,?_⟩) hst hpl
 exact cZR (us:=.ref a::us) (vs:=.ref a::vs) F hr hb hx I2 (.cons rfl r) q2
def aZZ(c:bXZ CX0 X.prog X.w X.K X.mg X.base k C m ps sp)(cl:Cls X.K C)(hr:Room k' X.A)(hk:k<=k')(he:PE X o ta)(ht:eval (.Call (.Attribute o m apos) [] [] pos) X.env=(do
 let ov <-eval o X.env
 standAt apos.atName
 let (f,first) <-holding [ov] (getMethod ov m pl)
 callWith pos f first (backTo pos (starEach [] X.env)) (backToKw pos (keywordEach [] X.env))):=by rfl):PE X (.Call (.Attribute o m apos) [] [] pos) (cQI C m sp [] E0 ta bXG):=by
 obtain⟨f,fd,F,hm,hb⟩:=c;exact cXU (pl:=pl) he cl hm F (hr.mono hk) hb .nil bZ8 ht
def dQY(c:bXZ (CXr X.prog X.w) X.prog X.w X.K X.mg X.base k C m ps sp)(cl:Cls X.K C)(hx:aJ1 (CXr X.prog X.w) X Es)(hr:Room k' X.A)(hk:k<=k')(he:PE X o ta)(ha:PA X (e::es) t)(hst:starEach (e::es) X.env=(false,eval e X.env)::starEach es X.env:=by rfl)(hpl:(backTo pos (starEach es X.env)).any (·.1)=false:=by rfl)(ht:eval (.Call (.Attribute o m apos) (e::es) [] pos) X.env=(do
 let ov <-eval o X.env
 standAt apos.atName
 let (f,first) <-holding [ov] (getMethod ov m pl)
 callWith pos f first (backTo pos (starEach (e::es) X.env)) (backToKw pos (keywordEach [] X.env))):=by rfl):PE X (.Call (.Attribute o m apos) (e::es) [] pos) (aZD C m sp Es ta t):=by
 obtain⟨f,fd,F,hm,hb⟩:=c;exact cQY (pl:=pl) he cl hm F (hr.mono hk) hb hx ha hst hpl ht
def aZH(c:dZU CX0 X.prog X.w X.K X.mg X.base k C ps sp)(hr:Room k' X.A)(hk:k+1<=k')(hg:Gl X x)(hm:X.mg x=some (.ref C))(ha:PA X (e::es) t)(hdb:(x==("__debug__" : Str))=false:=by decide)(he:starEach (e::es) X.env=(false,eval e X.env)::starEach es X.env:=by rfl)(hpl:(backTo pos (starEach es X.env)).any (·.1)=false:=by rfl):PE X (.Call (.Name x p) (e::es) [] pos) (cXV C sp [] E0 t):=by
 obtain⟨f,fd,F,M,hb⟩:=c;exact cJU M F (hr.mono hk) hg hm hb .nil bZ8 ha hdb he hpl
def eXJ{dvs:List V}(h:ta σ H λx H1=>∃a dx fs,x=.ref a/\H1 a=some (.ins C dx fs)/\fs.lookup m=none/\t σ H1 λvs H2=>sp (x::(vs++dvs)) H2 Q E):cQI C m sp dvs E ta t σ H Q:=h
def dJ2(h:ta σ H λx H1=>∃a dx fs,x=.ref a/\H1 a=some (.ins C dx fs)/\fs.lookup m=none/\t σ H1 λvs H2=>sp (x::vs) H2 Q (Es σ)):aZD C m sp Es ta t σ H Q:=h
def eJS{dvs:List V}(h:t σ H λvs H1=>∀x dx,H1 x=none->H1 dx=none->dx≠x->sp (.ref x::(vs++dvs)) (upd (upd H1 dx (.own x)) x (.ins C dx [])) (λv H2=>v=.non/\Q (.ref x) H2) E):cXV C sp dvs E t σ H Q:=h
def eJI{f:Str}(h:ta σ H λx H1=>∃a C dx fs v,x=.ref a/\H1 a=some (.ins C dx fs)/\Cls K C/\NoAttr K C f/\fs.lookup f=some v/\Q v H1):eZK K ta f σ H Q:=h
def eQA{f:Str}(h:tv σ H λy H1=>ta σ H1 λx H2=>∃a C dx fs,x=.ref a/\H2 a=some (.ins C dx fs)/\Cls K C/\NoAttr K C f/\fs.length<1000/\D.nx σ (upd H2 a (.ins C dx (fM f y fs)))):eZD K ta tv f D σ H:=h
end
def wW(w:World):List DictEntry->List (Str×Int)->Prop
 |[],[]=>True
 |e::es,kn::r=>e.hash=PyData.keyHash w.params kn.1/\(∃t,e.key=.str kn.1 t)/\(∃t,e.val=.int kn.2 t)/\wW w es r
 |_,_=>False
def eJF(w:World)(K:W.Frag)(mg:Str->Option Value)(x:Str)(kvs:List (Str×Int)):Prop:=
 ∃(d:Addr) (es:Array DictEntry) (ep:Nat),mg x=some (.ref d)/\K.lookup d=some ⟨.type "dict",none,.dict es ep,#[]⟩/\(d==sysModules)=false/\wW w es.toList kvs/\(kvs.map (·.1)).Nodup
def rA{P:Program}:∀ {es:List DictEntry} {kvs:List (Str×Int)},wW w es kvs->∃vs:List (Key×Value),Pairs (bB P w) es vs/\vs.map (·.1)=kvs.map (λkn=>(Sum.inr kn.1:Key))/\(∀e∈es,∃k,(bB P w).is k e.key=true/\e.hash=(bB P w).hash k)/\
 ∀z,(match valueAt vs (Sum.inr z:Key) with|some u=>∃n t,kvs.lookup z=some n/\u=.int n t|none=>kvs.lookup z=none)
 |[],[],_=>⟨[],.nil,rfl,(λe he=>nomatch he),λz=>rfl⟩
 |e::es,(k,n)::r,h=>by
  obtain⟨h1,⟨t,h2⟩,⟨t',h3⟩,h4⟩:=h;obtain⟨vs,p,m,ke,va⟩:=rA (P:=P) h4;refine⟨((Sum.inr k:Key),.int n t')::vs,.cons (by rw[h2];exact kG k t) h3 p,by rw[Aq,m];rfl,λe' he=>?_,λz=>?_⟩
  ·rcases Be.mp he with rfl|q
   ·exact⟨Sum.inr k,by rw[h2];exact kG k t,h1⟩
   ·exact ke e' q
  ·have va':=va z
   unfold valueAt at va' ⊢;rw[List.find?_cons];by_cases ez:k=z
   ·subst ez;rw[An rfl];exact⟨n,t',by rw[De,Ep],rfl⟩
   ·rw[Aw λq=>ez (Sum.inr.inj q)];rw[De,show (z==k)=false from Cu.mpr λq=>ez q.symm];exact va'
 |[],_::_,h=>h.elim
 |_::_,[],h=>h.elim
def dXN(kvs:List (Str×Int))(ta:TA):TE:=λσ H Q=>ta σ H λvs H1=>∃z,vs=[.str z]/\Q (match kvs.lookup z with|some n=>.int n|none=>.non) H1
def cZY{kvs:List (Str×Int)}{p:Pos}(hg:Gl X x)(hk:eJF X.w X.K X.mg x kvs)(ha:PA X [e] ta)(hdb:(x==("__debug__" : Str))=false:=by decide)(hbase:attributeBase (.Name x p) "get" X.env (eval (.Name x p) X.env)=eval (.Name x p) X.env:=by rfl)(hfew:((backTo cpos (starEach [e] X.env)).all (λx=>!x.1)&&(backToKw cpos (keywordEach [] X.env)).all (λx=>x.1.isSome)
 && decide (([e]:List Expr).length+([]:List Keyword).length+(if ([]:List Keyword).isEmpty then 0 else 1)<30))=true:=by rfl)(hline:(apos.endLine==cpos.line)=true:=by rfl)(hs:starEach [e] X.env=(false,eval e X.env)::starEach [] X.env:=by rfl)(hplain:(backTo cpos (starEach [] X.env)).any (·.1)=false:=by rfl):PE X (.Call (.Attribute (.Name x p) "get" apos) [e] [] cpos) (dXN kvs ta):=by
 intro pins s σ H Q I h;obtain⟨d,es,ep,hm,hl,hd,ok,nd⟩:=hk;obtain⟨vs,pr,m,ke,va⟩:=rA (P:=X.prog) ok;have dd:∀s':Shared,X.K.In s'.heap->s'.heap.DictOf (bB X.prog X.w) d vs:=λs' k=>⟨_,es,ep,k _ _ hl,by first|exact⟨rfl,rfl,rfl⟩|exact⟨rfl,rfl⟩|(constructor<;>rfl),rfl,λe he=>ke e (by simpa using he),pr,by rw[m,show kvs.map (λkn=>(Sum.inr kn.1:Key))=(kvs.map (·.1)).map (λz=>(Sum.inr z:Key)) by rw[List.map_map];rfl];exact List.pairwise_map.mpr (nd.imp λn q=>n (Sum.inr.inj q))⟩
 have ho:PE X (.Name x p) (tC (.ref d)):=xY hg hm rfl hdb
 refine Hi hbase hfew hline rfl (thn (ho pins s σ H (λy H1=>y=.ref d/\H1=H) I ⟨rfl,rfl⟩) λv s1 ⟨x',H1,I1,r1,q⟩=>?_);obtain⟨rfl,rfl⟩:=q;cases r1;have d1:=dd s1 I1.kIn
 refine⟨"dict",_,PySem.F.plainAttrs_dict,Cc,rfl,d1.typeIs,λb q=>?_,?_⟩
 ·cases q;obtain⟨ob,_,_,h1,h2,_⟩:=d1;exact⟨ob,h1,h2.2.1⟩
 have hA:=ha cpos pins s1 σ H1 _ I1 h
 rw[hs]at hA ⊢;refine Hj (by show (false || (backTo cpos (starEach [] X.env)).any (·.1))=false;rw[hplain]<;>rfl) (Gd ?_)
 refine thn hA λus s2 ⟨vs',H2,I2,r2,z,ez,q2⟩=>?_;subst ez;obtain⟨u,rfl,t,rfl⟩:=dI r2;have d2:=dd s2 I2.kIn
 refine Hx Cc d2.typeIs Em (Hb _ _) (meets_dict_get (bB X.prog X.w) d (show (bB X.prog X.w).is (Sum.inr z:Key) (Value.str z t)=true from kG z t) hd) ⟨_,d2.mapOf,?_⟩;have va':=va z
 cases e:valueAt vs (Sum.inr z:Key) with
 |none=>
  rw[e]at va';have va2:kvs.lookup z=none:=va'
  rw[va2]at q2;exact⟨.non,H2,I2.tok _,rfl,q2⟩
 |some u=>
  rw[e]at va';obtain⟨n,t',e2,rfl⟩:=va';rw[e2]at q2;exact⟨.int n,H2,I2.tok _,⟨t',rfl⟩,q2⟩
def eQE{kvs:List (Str×Int)}{σ:St}(h:ta σ H λvs H1=>∃z,vs=[.str z]/\Q (match kvs.lookup z with|some n=>.int n|none=>.non) H1):dXN kvs ta σ H Q:=h
def dZD:R2:=λx y H Q=>∃(p q:Addr) (xs:List V),x=.ref p/\y=.ref q/\H p=some (.tup xs)/\H q=some (.tup [])/\Q (.bl xs.isEmpty) H
def eQ9(hu:X.A.units<cLine):OpR X (compareOp .Eq) dZD:=by
 intro pins s σ H x y v u Q I rx ry h;obtain⟨p,q,xs,rfl,rfl,hp,hq,k⟩:=h;cases rx;cases ry;obtain⟨its,r1,l1,_⟩:=I.tuple (SqT.of (K:=X.K) hp);obtain⟨its2,r2,l2,_⟩:=I.tuple (SqT.of (K:=X.K) hq);have e1:=r1.length
 cases r2;refine SeqAt.eq_tupleAt (e:=λ_=>true) (show s.heap.IsTuple p _ from l1) (show s.heap.IsTuple q _ from l2) hu (λj h1 h2=>absurd h2 (by simp)) ?_
 refine⟨.bl xs.isEmpty,H,I,?_,k⟩;show Value.bool _=Value.bool _
 congr 1
 cases xs with
 |nil=>
  have:its=[]:=List.eq_nil_of_length_eq_zero e1.symm
  subst this;rfl
 |cons a r=>
  cases its with
  |nil=>simp at e1
  |cons b t=>simp
def dJY{p q:Addr}(hp:H p=some (.tup xs))(hq:H q=some (.tup []))(h:Q (.bl xs.isEmpty) H):dZD (.ref p) (.ref q) H Q:=⟨p,q,xs,rfl,rfl,hp,hq,h⟩
def eJ6(z:Str):Value->Bool
 |.str y _=>y==z
 |_=>false
def aJU:V->List V->Hp->VK->Prop:=λx vs H Q=>∃(p:Addr) (ss:List Str) (z:Str) (j:Nat),x=.ref p/\vs=[.str z]/\rdL H p=some (ss.map V.str)/\ss[j]?=some z/\(∀(i:Nat) y,i<j->ss[i]?=some y->y≠z)/\Q (.int (j:Int)) H
def bZ7:MtR X "list.index" aJU:=by
 intro pins s σ H x vs v us Q I rx rv h;obtain⟨p,ss,z,j,rfl,rfl,hp,hj,hb,q⟩:=h;cases rx;obtain⟨u,rfl,t0,rfl⟩:=rv.one;obtain⟨its,r,pl,hz⟩:=I.list (bI hp);obtain⟨⟨c,dd,dt,sl⟩,ho,hc,n,hd⟩:=pl.isList;obtain rfl:c=.type "list" := hc;obtain rfl:dt=.seq its.toArray n:=hd;have hlen:=r.length
 rw[Ab]at hlen hz;have hjl:j<ss.length:=(Ae.mp hj).1
 have hn:=iW
 have rel:∀m (hm:m<its.length),∃y t,ss[m]?=some y/\its[m]=.str y t:=λm hm=>by
  have hm':m<ss.length:=by omega
  obtain⟨u,hu,t,ru⟩:=r.get (show (ss.map V.str)[m]?=some (.str ss[m]) by rw[Af,Aa hm'];rfl)
  rw[Aa hm]at hu;cases hu;exact⟨ss[m],t,Aa hm',ru⟩
 refine Fo Fl ⟨_,ho,rfl⟩ PySem.F.entry_list_index (PySem.F.args_list_index_2 _ _) (SeqAt.list_indexAt p its.toArray n dd sl (.str z t0) (eJ6 z) j (by rw[Az];omega) (by omega) ?_ ?_) ⟨ho,λy hy=>?_,⟨.int j,H,I.tok _,⟨_,rfl⟩,q⟩⟩
 ·obtain⟨y,t,hy,e⟩:=rel j (by omega)
  rw[hj]at hy;cases hy;rw[Gh,e];exact Ep _
 ·intro m hm hmj;have hm':m<its.length:=by rw[Az]at hm;exact hm
  obtain⟨y,t,hy,e⟩:=rel m hm';rw[Gh,e];exact Cu.mpr (hb m y hmj hy)
 ·have hy':y∈its:=by simpa using hy
  obtain⟨m,hm,rfl⟩:=Bm.mp hy';obtain⟨y,t,_,e⟩:=rel m hm;rw[e];exact SeqAt.EqAt.str_str y t z t0
def bJH{p:Addr}{ss:List Str}(e:rdL H p=some (ss.map V.str))(hj:ss[j]?=some z)(hb:∀(i:Nat) y,i<j->ss[i]?=some y->y≠z)(h:Q (.int (j:Int)) H):aJU (.ref p) [.str z] H Q:=⟨p,ss,z,j,rfl,rfl,e,hj,hb,h⟩
def aO(i:Nat){pos':Pos}(hN:X.N.Nodup)(he:PE X e te)(hi:X.N[i]?=some x:=by rfl)(hx:Loc X.env.scope x:=by first|exact Or.inl rfl|exact Or.inr rfl)(hs:swapsWith e (some (.Name x pos')) pos.line X.env=pure false:=by rfl)(hf:X.fn x=true\/X.env.scope.names.lookup x=some .local:=by first|exact Or.inl rfl|exact Or.inr rfl):PS X (.Assign [.Name x pos'] e pos) (cQS te (lP i)):=aXW hN hi hx he hs hf
structure ZAp (z TI TO i1 i2:Addr) (fp1 fp2:List Addr):Prop where
 a1:TO≠z
 a2:i1≠z
 a3:i2≠z
 a4:i1≠TO
 a5:i2≠TO
 a6:TI≠z
 a7:TI≠TO
 a8:TI≠i1
 a9:TI≠i2
 f1:z∉fp1/\TO∉fp1/\i2∉fp1
 f2:z∉fp2/\TO∉fp2/\i1∉fp2
def Draws.bare{it x:Addr}{i:Nat}{P:Nat->Value->Prop}{S:Nat->Heap->Prop}(D:Draws prog w A it fp n P S)(st:S i h)(sb:Heap.SameBut x h h')(hx:x∉fp):S i h':=
 D.frame i h h' st λb hb o e=>(sb.2 b (λz=>hx (z▸hb))).trans e
section
variable {z TI TO i1 i2:Addr} {fp1 fp2:List Addr} {n1 n2 i:Nat} {P1 P2:Nat->Value->Prop} {S1 S2:Nat->Heap->Prop} {a b:Value}
def cJ8{Q:Option Value->Shared->Prop}(D1:Draws prog w A.in1 i1 fp1 n1 P1 S1)(D2:Draws prog w A.in1 i2 fp2 n2 P2 S2)(D:ZAp z TI TO i1 i2 fp1 fp2)(hz:IsZip s.heap z TI TO .none)(hI:IsPair s.heap TI (.ref i1) (.ref i2))(hO:IsPair s.heap TO a b)(st1:S1 i s.heap)(st2:S2 i s.heap)(l1:i<n1)(l2:i<n2)(q:∀x y h' tk,P1 i x->P2 i y->IsZip h' z TI TO (rawInt s.heap.objs.size)->IsPair h' TO x y->S1 (i+1) h'->S2 (i+1) h'->IsPair h' s.heap.objs.size x y->(∀c o,c≠z->c≠TO->c≠i1->c≠i2->s.heap.get? c=some o->h'.get? c=some o)->Q (some (.ref s.heap.objs.size)) {s with heap:=h',toks:=tk}):wpAny (model prog w) A (pyNext (.ref z)) Q E s:=by
 have hT:s.TypeIs (.ref z) "zip" := ⟨_,hz,rfl⟩
 unfold pyNext;refine Ad (wpAny_attempt (wpAny_callSpecial?_slot (name:=Str.ofString "__next__") hT F.slot_zip_next (Fm F.slot_zip_next hT F.entry_zip_next ?_ (F.args_zip_next_1 _))));show wpAny _ _ (field (.ref z) 2 >>= _) _ _ _
 refine Ad (En hz rfl (x:=.bool false) rfl ?_);show wpAny _ _ (field (.ref z) 3 >>= _) _ _ _
 refine Ad (En hz rfl (x:=.ref TI) rfl (Ad (Ei hI rfl ?_)));show wpAny _ _ (Builtin.SmallTypes.ownedTupleIsFree (.ref z) >>= _) _ _ _
 unfold Builtin.SmallTypes.ownedTupleIsFree;refine Ad (Ad (En hz rfl (x:=.none) rfl (Al ?_)));simp only[if_true];refine wpAny_bind (wpAny_rule (wpAny_bind (wpAny_field hz rfl (x:=.ref TO) rfl (wpAny_bind (wpAny_setField_rec hz (by simp) λg1 y1 u1=>wpAny_bind ?_)))))
 replace y1:IsZip g1 z TI TO .ellipsis:=y1
 simp only[List.zipIdx_cons,List.zipIdx_nil,List.forIn_cons,List.forIn_nil];have k1:=Draws.bare D1 st1 u1 D.f1.1
 have k2:=Draws.bare D2 st2 u1 D.f2.1
 have o1:IsPair g1 TO a b:=(u1.2 _ D.a1).trans hO
 refine Ad (Ad (Ht ?_));show wpAny _ _ (Builtin.SmallTypes.nextOf (.ref i1) >>= _) _ _ _
 refine Ad (D1.item i {s with heap:=g1} _ _ l1 k1 λx g2 t2 px m1 u2=>Al ?_)
 have k22:=Draws.bare D2 k2 u2 D.f2.2.2
 have o2:IsPair g2 TO a b:=(u2.2 _ D.a4.symm).trans o1
 refine Ad (Ei (s:={s with heap:=g2,toks:=t2}) o2 rfl (Ad (wpAny_updateSeq_pair (s:={s with heap:=g2,toks:=t2}) o2 λg3 o3 u3=>Ad (Gg (Al ?_)))))
 replace o3:IsPair g3 TO x b:=o3
 have m3:=Draws.bare D1 m1 u3 D.f1.2.1
 have k23:=Draws.bare D2 k22 u3 D.f2.2.1
 refine Ad (Ad (Ht ?_));show wpAny _ _ (Builtin.SmallTypes.nextOf (.ref i2) >>= _) _ _ _
 refine Ad (D2.item i {s with heap:=g3,toks:=t2} _ _ l2 k23 λy g4 t4 py m2 u4=>Al ?_)
 have m4:=Draws.bare D1 m3 u4 D.f1.2.2
 have o4:IsPair g4 TO x b:=(u4.2 _ D.a5.symm).trans o3
 refine Ad (Ei (s:={s with heap:=g4,toks:=t4}) o4 rfl (Ad (wpAny_updateSeq_pair (s:={s with heap:=g4,toks:=t4}) o4 λg5 o5 u5=>Ad (Gg (Al (Al ?_))))))
 replace o5:IsPair g5 TO x y:=o5
 have m5:=Draws.bare D1 m4 u5 D.f1.2.1
 have m25:=Draws.bare D2 m2 u5 D.f2.2.1
 have sz:g5.objs.size=s.heap.objs.size:=by rw[u5.1,u4.1,u3.1,u2.1,u1.1]
 have y5:IsZip g5 z TI TO .ellipsis:=(u5.2 _ D.a1.symm).trans ((u4.2 _ D.a3.symm).trans ((u3.2 _ D.a1.symm).trans ((u2.2 _ D.a2.symm).trans y1)))
 have kk:∀c o,c≠z->c≠TO->c≠i1->c≠i2->s.heap.get? c=some o->g5.get? c=some o:=λc o c1 c2 c3 c4 e=>(u5.2 _ c2).trans ((u4.2 _ c4).trans ((u3.2 _ c2).trans ((u2.2 _ c3).trans ((u1.2 _ c1).trans e))))
 have zlt:z<g5.objs.size:=As y5
 refine Ad (Ei (s:={s with heap:=g5,toks:=t4}) o5 rfl (Ad (wpAny_newTuple ?_)))
 show wpAny _ _ (Builtin.SmallTypes.ownedTupleHandOut (.ref z) (.ref g5.objs.size) >>= _) _ _ _
 unfold Builtin.SmallTypes.ownedTupleHandOut;have y6:IsZip (g5.push {cls:=.type "tuple",data:=.seq #[x,y]}) z TI TO .ellipsis:=Ag _ y5
 refine wpAny_bind (wpAny_bind (wpAny_setField_rec (s:={s with heap:=g5.push {cls:=.type "tuple",data:=.seq #[x,y]},toks:=t4}) y6 (by simp) λg7 y7 u7=>?_))
 replace y7:IsZip g7 z TI TO (rawInt g5.objs.size):=y7
 refine wpAny_setField_rec (s:={s with heap:=g7,toks:=t4}) y7 (by simp) λg8 y8 u8=>wpAny_pure ⟨_,rfl,wpAny_pure ?_⟩
 replace y8:IsZip g8 z TI TO (rawInt g5.objs.size):=y8
 have up:∀c o,c≠z->g5.get? c=some o->g8.get? c=some o:=λc o n e=>(u8.2 c n).trans ((u7.2 c n).trans (Ag _ e))
 have tT:IsPair g8 g5.objs.size x y:=(u8.2 _ (Dz zlt)).trans ((u7.2 _ (Dz zlt)).trans (Av _ rfl))
 rw[sz]at y8 tT;show Q (some (.ref g5.objs.size)) _
 rw[sz];exact q x y g8 t4 px py y8 (up _ _ D.a1 o5) (D1.frame _ _ _ m5 λc hc o e=>up c o (λe2=>D.f1.1 (e2▸hc)) e) (D2.frame _ _ _ m25 λc hc o e=>up c o (λe2=>D.f2.1 (e2▸hc)) e) tT λc o c1 c2 c3 c4 e=>up c o c1 (kk c o c1 c2 c3 c4 e)
def dZM{Q:Option Value->Shared->Prop}(D1:Draws prog w A.in1 i1 fp1 n1 P1 S1)(D2:Draws prog w A.in1 i2 fp2 n2 P2 S2)(D:ZAp z TI TO i1 i2 fp1 fp2)(hz:IsZip s.heap z TI TO .none)(hI:IsPair s.heap TI (.ref i1) (.ref i2))(hO:IsPair s.heap TO a b)(st1:S1 i s.heap)(st2:S2 i s.heap)(l:i=n1\/(i<n1/\i=n2))(q:∀h' tk,(∀c o,c≠z->c≠TO->c≠i1->c≠i2->s.heap.get? c=some o->h'.get? c=some o)->Q none {s with heap:=h',toks:=tk}):wpAny (model prog w) A (pyNext (.ref z)) Q E s:=by
 have hT:s.TypeIs (.ref z) "zip" := ⟨_,hz,rfl⟩
 have stop:∀ {g:Heap} {tk:Nat} {e:Addr},IsZip g z TI TO .ellipsis->(∃ o,g.get? e=some o/\o.cls=.type "StopIteration")->(∀ c o,c≠z->c≠TO->c≠i1->c≠i2->s.heap.get? c=some o->g.get? c=some o)->
     wpAny (model prog w) A.in1 (setField (.ref z) 0 .none) (λ_ s'=>∃h',s'={s with heap:=h',toks:=tk}/\(∃o,h'.get? e=some o/\o.cls=.type "StopIteration")/\∀c o,c≠z->c≠TO->c≠i1->c≠i2->s.heap.get? c=some o->h'.get? c=some o) (λ_ _=>False) {s with heap:=g,toks:=tk}:=fun {g tk e} y he kk=>by
  obtain⟨oe,hoe,hce⟩:=he;have hez:e≠z:=λx=>by subst x;rw[y]at hoe;cases hoe;simp at hce
  exact wpAny_setField_rec (s:={s with heap:=g,toks:=tk}) y (by simp) λh3 _ u3=>⟨h3,rfl,⟨oe,(u3.2 e hez).trans hoe,hce⟩,λc o c1 c2 c3 c4 x=>(u3.2 c c1).trans (kk c o c1 c2 c3 c4 x)⟩
 unfold pyNext;refine Ad (wpAny_attempt (wpAny_callSpecial?_slot (name:=Str.ofString "__next__") hT F.slot_zip_next (Fm F.slot_zip_next hT F.entry_zip_next ?_ (F.args_zip_next_1 _))));show wpAny _ _ (field (.ref z) 2 >>= _) _ _ _
 refine Ad (En hz rfl (x:=.bool false) rfl ?_);show wpAny _ _ (field (.ref z) 3 >>= _) _ _ _
 refine Ad (En hz rfl (x:=.ref TI) rfl (Ad (Ei hI rfl ?_)));show wpAny _ _ (Builtin.SmallTypes.ownedTupleIsFree (.ref z) >>= _) _ _ _
 unfold Builtin.SmallTypes.ownedTupleIsFree;refine Ad (Ad (En hz rfl (x:=.none) rfl (Al ?_)));simp only[if_true];refine wpAny_bind (wpAny_rule (wpAny_bind (wpAny_field hz rfl (x:=.ref TO) rfl (wpAny_bind (wpAny_setField_rec hz (by simp) λg1 y1 u1=>wpAny_bind ?_)))))
 replace y1:IsZip g1 z TI TO .ellipsis:=y1
 simp only[List.zipIdx_cons,List.zipIdx_nil,List.forIn_cons,List.forIn_nil];have k1:=Draws.bare D1 st1 u1 D.f1.1
 have k2:=Draws.bare D2 st2 u1 D.f2.1
 have o1:IsPair g1 TO a b:=(u1.2 _ D.a1).trans hO
 have fin:∀ {tk:Nat} {e:Addr} {s':Shared},(∃h',s'={s with heap:=h',toks:=tk}/\(∃o,h'.get? e=some o/\o.cls=.type "StopIteration")/\∀c o,c≠z->c≠TO->c≠i1->c≠i2->s.heap.get? c=some o->h'.get? c=some o)->wpAny (model prog w) A (do if <-isInstance (.ref e) (.type "StopIteration") then return none else throw (Value.ref e)) Q E s':=fun {tk e s'} ⟨h',es,⟨o,ho,hc⟩,kk⟩=>by
  subst es;exact Ad (wpAny_isInstance (T := "StopIteration") (b:=true) ⟨o,ho,hc⟩ isSubtype_stop (Al (q h' tk kk)))
 refine Ad (Ad (Ht ?_));show wpAny _ _ (Builtin.SmallTypes.nextOf (.ref i1) >>= _) _ _ _
 rcases l with e|⟨l1,e⟩
 ·subst e;refine Ad (D1.done {s with heap:=g1} _ _ k1 λg2 ex u2 he=>?_)
  refine Cg (stop (tk:=s.toks) (u2 _ _ D.a2.symm y1) he λc o c1 c2 c3 c4 x=>u2 _ _ c3 ((u1.2 _ c1).trans x)) (λ_ s' hq=>?_) λ_ _ f=>f.elim;exact fin (tk:=s.toks) (e:=ex) hq
 ·subst e;refine Ad (D1.item i {s with heap:=g1} _ _ l1 k1 λx g2 t2 px m1 u2=>Al ?_)
  have k22:=Draws.bare D2 k2 u2 D.f2.2.2
  have o2:IsPair g2 TO a b:=(u2.2 _ D.a4.symm).trans o1
  refine Ad (Ei (s:={s with heap:=g2,toks:=t2}) o2 rfl (Ad (wpAny_updateSeq_pair (s:={s with heap:=g2,toks:=t2}) o2 λg3 o3 u3=>Ad (Gg (Al ?_)))))
  have k23:=Draws.bare D2 k22 u3 D.f2.2.1
  refine Ad (Ad (Ht ?_));show wpAny _ _ (Builtin.SmallTypes.nextOf (.ref i2) >>= _) _ _ _
  refine Ad (D2.done {s with heap:=g3,toks:=t2} _ _ k23 λg4 ex u4 he=>?_)
  refine Cg (stop (tk:=t2) (u4 _ _ D.a3.symm ((u3.2 _ D.a1.symm).trans ((u2.2 _ D.a2.symm).trans y1))) he λc o c1 c2 c3 c4 x=>u4 _ _ c4 ((u3.2 _ c2).trans ((u2.2 _ c3).trans ((u1.2 _ c1).trans x)))) (λ_ s' hq=>?_) λ_ _ f=>f.elim;exact fin (tk:=t2) (e:=ex) hq
end
def bQQ(z:Str)(tz:Tok)(l2:Addr)(ys:Array Value)(ha:z.cps.all (· < 128)=true):Meets (Builtin.«zip.__new__» ⟨[.type "zip",.str z tz,.ref l2],[]⟩) (λ_ R s=>s.heap.IsList l2 ys/\∀h',IsZip h' (s.heap.objs.size+4) (s.heap.objs.size+2) (s.heap.objs.size+3) .none->IsPair h' (s.heap.objs.size+2) (.ref s.heap.objs.size) (.ref (s.heap.objs.size+1))->
 IsPair h' (s.heap.objs.size+3) .none .none->h'.IsStrIter s.heap.objs.size "str_ascii_iterator" z tz 0->h'.IsListIter (s.heap.objs.size+1) l2 0->(∀c o,s.heap.get? c=some o->h'.get? c=some o)->R (.ok (.ret (.ref (s.heap.objs.size+4)))) {s with heap:=h'}):=
 .of_wp λprog w A R s h=>by
  obtain⟨hp,g,d,tk,os⟩:=s;obtain⟨hl,h⟩:=h;have hsub:=sub_zip
  have hL:Heap.IsList (Shared.heap ⟨hp.push {cls:=.type "str_ascii_iterator",data:=.fields #[.str z tz,.int 0 0]},g,d,tk,os⟩) l2 ys:=Heap.IsList.push hl _
  wp_walk using (wpAny_pyIter_ascii (s:=⟨hp,g,d,tk,os⟩) ha),Ea hL
  refine⟨_,rfl,?_⟩;have at1:∀ {h:Heap} {o:Obj} {n:Nat},h.objs.size=n->o.isFreed=false->(h.push o).get? n=some o:=λe r=>by subst e;exact Av _ r
  have z1:∀(h:Heap) (o:Obj) {n:Nat},h.objs.size=n->(h.push o).objs.size=n+1:=λh o n e=>by rw[Et,e]
  simp only[Heap.size_push];refine h _ (at1 ?_ rfl) (Heap.get?_push_of_some _ (Heap.get?_push_of_some _ (at1 ?_ rfl))) (Heap.get?_push_of_some _ (at1 ?_ rfl)) ⟨_,Heap.get?_push_of_some _ (Heap.get?_push_of_some _ (Heap.get?_push_of_some _ (Heap.get?_push_of_some _ (at1 rfl rfl)))),rfl,rfl⟩ ⟨_,Heap.get?_push_of_some _ (Heap.get?_push_of_some _ (Heap.get?_push_of_some _ (at1 ?_ rfl))),rfl,rfl⟩ λc o e=>Heap.get?_push_of_some _ (Heap.get?_push_of_some _ (Heap.get?_push_of_some _ (Heap.get?_push_of_some _ (Heap.get?_push_of_some _ e))))<;>simp only[Heap.size_push]
def bQG{tz:Tok}{l2:Addr}{ys:Array Value}{Q:Q0}(ha:z.cps.all (· < 128)=true)(hl:s.heap.IsList l2 ys)(h:∀h',IsZip h' (s.heap.objs.size+4) (s.heap.objs.size+2) (s.heap.objs.size+3) .none->IsPair h' (s.heap.objs.size+2) (.ref s.heap.objs.size) (.ref (s.heap.objs.size+1))->
 IsPair h' (s.heap.objs.size+3) .none .none->h'.IsStrIter s.heap.objs.size "str_ascii_iterator" z tz 0->h'.IsListIter (s.heap.objs.size+1) l2 0->(∀c o,s.heap.get? c=some o->h'.get? c=some o)->Q (.ref (s.heap.objs.size+4)) {s with heap:=h'}):wpAny (model prog w) A (call (.type "zip") [.str z tz,.ref l2]) Q E s:=by
 refine callType_new F.called_zip (by decide) (F.typeCall_zip_2 _ _) (F.newCall_zip_2 _ _) (λobj=>F.args_object_init_3 obj _ _) F.entry_zip_new (bQQ z tz l2 ys ha) ⟨hl,λh' y1 y2 y3 y4 y5 y6=>?_⟩
 exact⟨⟨_,y1,rfl⟩,h h' y1 y2 y3 y4 y5 y6⟩
def cJF(K:W.Frag)(z:Str)(b:Addr):It:=
 ⟨λi H=>∃ys y,SqL K H b ys/\i<z.cps.size/\ys[i]?=some y,λi H v H'=>∃p c y,H p=none/\v=.ref p/\H'=upd H p (.tup [.str ⟨#[c]⟩,y])/\z.cps[i]?=some c/\∀ys,SqL K H b ys->ys[i]?=some y,
  λi H=>∃ys,SqL K H b ys/\((z.cps.size=i)\/(i<z.cps.size/\ys.length=i))⟩
def bXR(zz:Str)(tz:Tok)(b z TI TO i1 i2:Addr)(D:ZipOf z TI TO i1 i2):Turn P w K (.Tuple elts x1 tp) (cJF K zz b) [z,TI,TO,i1,i2] z (λi h=>IsZip h z TI TO .none/\IsPair h TI (.ref i1) (.ref i2)/\(∃p q,IsPair h TO p q)/\h.IsStrIter i1 "str_ascii_iterator" zz tz i/\h.IsListIter i2 b i) where
 mem:=by simp
 obj:=λi h st c hc=>by
  obtain⟨hz,hI,⟨p,q,hO⟩,⟨o1,g1,_,e1⟩,o2,g2,_,e2⟩:=st;simp only[List.mem_cons,List.not_mem_nil,or_false]at hc;rcases hc with z|z|z|z|z<;>subst z
  ·exact⟨_,hz,λv z=>by cases z⟩
  ·exact⟨_,hI,λv z=>by cases z⟩
  ·exact⟨_,hO,λv z=>by cases z⟩
  ·exact⟨o1,g1,λv z=>by rw[e1]at z;cases z⟩
  ·exact⟨o2,g2,λv z=>by rw[e2]at z;cases z⟩
 keep:=λi h h' st kk=>by
  obtain⟨hz,hI,⟨p,q,hO⟩,⟨o1,g1,r1⟩,g2⟩:=st;exact⟨kk z (by simp) _ hz,kk TI (by simp) _ hI,⟨p,q,kk TO (by simp) _ hO⟩,⟨o1,kk i1 (by simp) o1 g1,r1⟩,g2.at λo e=>kk i2 (by simp) o e⟩
 item:=by
  intro X hP hw hK hc i pins s σ H E I hf st hg;subst hP hw hK;obtain⟨ys,y,qb,hi,hy⟩:=hg;obtain⟨vs,rb,pb,_⟩:=I.list qb;obtain⟨v,hv,rv⟩:=rb.get hy;obtain⟨hz,hI,⟨p,q,hO⟩,g1,g2⟩:=st;obtain⟨ob,gb,cb,_⟩:=id pb.isList;obtain⟨o1,e1,c1,_⟩:=id g1;obtain⟨o2,e2,c2,_⟩:=id g2;have hh:X.A.in1.handled=none:=I.ok.hd hc
  have nb:b≠z/\b≠TO/\b≠i1/\b≠i2:=⟨jL gb hz cb rfl (by decide),jL gb hO cb rfl (by decide),jL gb e1 cb c1 (by decide),jL gb e2 cb c2 (by decide)⟩
  have D2:=Draws.list (prog:=X.prog) (w:=X.w) (A:=X.A.in1) hh i2 b nb.2.2.2 vs.toArray
  have D1:=Draws.strAscii (prog:=X.prog) (w:=X.w) (A:=X.A.in1) hh i1 zz tz
  have n1:∀ {c:Addr},c≠i1->c∉[i1]:=λn e=>n (Ap.mp e)
  have n2:∀ {c:Addr},c≠i2->c≠b->c∉[i2,b]:=λn m e=>by
   rcases Be.mp e with e|e
   ·exact n e
   ·exact m (Ap.mp e)
  have fr:∀c o,s.heap.get? c=some o->s.heap.objs.size≠c:=λc o e=>Dz (As e)
  have il:i<vs.toArray.size:=by rw[Az];exact(Ae.mp hv).1
  refine cJ8 D1 D2 ⟨D.d2,D.d3,D.d4,D.d8.symm,D.d9.symm,D.d1,D.d5,D.d6,D.d7,⟨n1 D.d3.symm,n1 D.d8,n1 D.d0.symm⟩,⟨n2 D.d4.symm (Ne.symm nb.1),n2 D.d9 (Ne.symm nb.2.1),n2 D.d0 (Ne.symm nb.2.2.1)⟩⟩ hz hI hO g1 ⟨g2,pb.isList⟩ hi il λx y' h1 tk px py a1 a2 a3 a4 a5 kk=>?_;obtain⟨c,u,hcu,rfl⟩:=px;obtain rfl:v=y':=by
   rw[List.getElem?_toArray,hv]at py;exact Bf py
  refine⟨_,rfl,wpAny_letOwnedTupleGo_zip (s:={s with heap:=h1,toks:=tk}) a1 λh2 z2 sb=>?_⟩
  have up:∀c o,c≠z->h1.get? c=some o->h2.get? c=some o:=λc o n e=>(sb.2 c n).trans e
  have I2:Inv X pins σ (upd H s.heap.objs.size (.tup [.str ⟨#[c]⟩,y])) {s with heap:=h2,toks:=tk}:=by
   refine I.turnLaid (t':=tk) (ch:=[z,TI,TO,i1,i2]) hf (λc o n e=>?_) (Aj _) ⟨bJ (by show 2<=_;omega),[.str ⟨#[c]⟩ u,v],.cons ⟨u,rfl⟩ (.cons rv .nil),_,up _ _ (fr z _ hz) a5,rfl,_,rfl⟩
   simp only[List.mem_cons,List.not_mem_nil,or_false,not_or]at n;exact up c o n.1 (kk c o n.1 n.2.2.1 n.2.2.2.1 n.2.2.2.2 e)
  refine⟨.ref s.heap.objs.size,_,I2,rfl,⟨_,c,y,I.hok.fresh (Aj _),rfl,rfl,hcu,λzs hq=>by rw[I.list_inj hq qb];exact hy⟩,
   ⟨z2,up _ _ D.d1 (kk _ _ D.d1 D.d5 D.d6 D.d7 hI),⟨_,_,up _ _ D.d2 a2⟩,?_,a4.1.at λo e=>up _ o D.d4 e⟩,λc hc=>?_⟩
  ·obtain⟨o,ho,r⟩:=a3;exact⟨o,up _ o D.d3 ho,r⟩
  have hn:=(hf c hc).1
  rw[aG]
  ·exact hn
  ·simp only[List.mem_cons,List.not_mem_nil,or_false]at hc;rcases hc with z|z|z|z|z<;>subst z
   ·exact(fr _ _ hz).symm
   ·exact(fr _ _ hI).symm
   ·exact(fr _ _ hO).symm
   ·exact(fr _ _ e1).symm
   ·exact(fr _ _ e2).symm
 done:=by
  intro X hP hw hK hc i pins s σ H E I hf st hg;subst hP hw hK;obtain⟨ys,qb,hl⟩:=hg;obtain⟨vs,rb,pb,_⟩:=I.list qb;have el:=rb.length
  obtain⟨hz,hI,⟨p,q,hO⟩,g1,g2⟩:=st;obtain⟨ob,gb,cb,_⟩:=id pb.isList;obtain⟨o1,e1,c1,_⟩:=id g1;obtain⟨o2,e2,c2,_⟩:=id g2;have hh:X.A.in1.handled=none:=I.ok.hd hc
  have nb:b≠z/\b≠TO/\b≠i1/\b≠i2:=⟨jL gb hz cb rfl (by decide),jL gb hO cb rfl (by decide),jL gb e1 cb c1 (by decide),jL gb e2 cb c2 (by decide)⟩
  have D2:=Draws.list (prog:=X.prog) (w:=X.w) (A:=X.A.in1) hh i2 b nb.2.2.2 vs.toArray
  have D1:=Draws.strAscii (prog:=X.prog) (w:=X.w) (A:=X.A.in1) hh i1 zz tz
  have n1:∀ {c:Addr},c≠i1->c∉[i1]:=λn e=>n (Ap.mp e)
  have n2:∀ {c:Addr},c≠i2->c≠b->c∉[i2,b]:=λn m e=>by
   rcases Be.mp e with e|e
   ·exact n e
   ·exact m (Ap.mp e)
  refine dZM D1 D2 ⟨D.d2,D.d3,D.d4,D.d8.symm,D.d9.symm,D.d1,D.d5,D.d6,D.d7,⟨n1 D.d3.symm,n1 D.d8,n1 D.d0.symm⟩,⟨n2 D.d4.symm (Ne.symm nb.1),n2 D.d9 (Ne.symm nb.2.1),n2 D.d0 (Ne.symm nb.2.2.1)⟩⟩ hz hI hO g1 ⟨g2,pb.isList⟩ ?_ λh' tk kk=>⟨rfl,?_⟩
  ·have ev:vs.toArray.size=vs.length:=Az ..
   rcases hl with z|⟨z1,z2⟩
   ·exact .inl z.symm
   ·exact .inr ⟨z1,by omega⟩
  ·refine I.turnAll (t':=tk) (ch:=[z,TI,TO,i1,i2]) hf λc o n e=>?_;simp only[List.mem_cons,List.not_mem_nil,or_false,not_or]at n;exact kk c o n.1 n.2.2.1 n.2.2.2.1 n.2.2.2.2 e
 self:=λ_ _ _ _ _ st h=>wpAny_pyIter_zip st.1 h
section
variable {l1 l2:Expr} {p:Pos}
def bZN(R:Str->Addr->Hp->Prop):List V->Hp->Prop:=λvs H=>match vs with|[.str z,.ref j]=>R z j H|_=>False
def cJB{R:Str->Addr->Hp->Prop}(q:bZN R vs H):∃z j,vs=[.str z,.ref j]/\R z j H:=by
 unfold bZN at q;split at q
 ·exact⟨_,_,rfl,q⟩
 ·exact q.elim
def dXX(K:W.Frag)(ta:TA):TI:=λσ H R=>ta σ H (bZN λz b H1=>z.cps.all (· < 128)=true/\onL (rdL H1 b) (R (cJF K z b) H1))
def cZS(hg:Gl X "zip")(hm:X.mg "zip"=none)(ha:PA X [l1,l2] ta)(hs:starEach [l1,l2] X.env=[(false,eval l1 X.env),(false,eval l2 X.env)]:=by rfl)(hs2:starEach [l2] X.env=[(false,eval l2 X.env)]:=by rfl):PI X (.Tuple elts x1 tp) (.Call (.Name "zip" p) [l1,l2] [] pos) (dXX X.K ta):=by
 intro pins s σ H R I h;refine Call_ (gC I hg hm bJB (Dm (thn (ha pos pins s σ H _ I h) λus s1 ⟨vs,H1,I1,r1,q1⟩=>?_) (by rw[hs,hs2]) (by rw[hs2];rfl)))
 obtain⟨z,b,rfl,has,q⟩:=cJB q1;obtain⟨u,u2,rfl,ru,ru2⟩:=yI r1;obtain⟨tz,rfl⟩:=ru;cases ru2;unfold onL at q;split at q
 ·rename_i ys ey
  obtain⟨vs,rb,pb,_⟩:=I1.list (bI ey);refine bQG has pb.isList λh' hz hI hO g1 g2 hk=>?_;refine wpAny_pyIter_zip (s:={s1 with heap:=h'}) hz ⟨_,[s1.heap.objs.size+4,s1.heap.objs.size+2,s1.heap.objs.size+3,s1.heap.objs.size,s1.heap.objs.size+1],_,_,H1,rfl,I1.kept (t':=s1.toks) hk,
   bXR z tz b _ _ _ _ _ ⟨by simp,by simp,by simp,by simp,by simp,by simp,by simp,by simp,by simp,by simp⟩,⟨hz,hI,⟨_,_,hO⟩,g1,g2⟩,λc hc=>?_,q⟩
  have y:s1.heap.objs.size<=c:=by
   simp only[List.mem_cons,List.not_mem_nil,or_false]at hc;rcases hc with z|z|z|z|z<;>(rw[z];first|exact Aj _|exact Fj _ _)
  exact I1.fpOk y (I1.hok.fresh y)
 ·exact q.elim
end
section
variable {tb:TS} {σ:St}
def dQ9(Pv:Nat->St->Hp->Prop)(h0:Pv 0 σ H)(hl:∀i σ H,i<=z.cps.toList.length->i<=ys.length->Pv i σ H->rdL H b=some ys)(hs:∀i c y σ H p,z.cps.toList[i]?=some c->ys[i]?=some y->Pv i σ H->H p=none->g (.ref p) σ (upd H p (.tup [.str ⟨#[c]⟩,y])) λσ2 H2=>tb {D with nx:=Pv (i+1),ct:=Pv (i+1),bk:=D.nx} σ2 H2)(hd:∀σ H,Pv (min z.cps.toList.length ys.length) σ H->D.nx σ H):xT (cJF K z b) g tb D σ H:=by
 have ez:z.cps.toList.length=z.cps.size:=Ec
 refine⟨λi m σ H=>m=min z.cps.toList.length ys.length-i/\i<=min z.cps.toList.length ys.length/\Pv i σ H,⟨min z.cps.toList.length ys.length,by simp,Nat.zero_le _,h0⟩,?_⟩
 rintro i m σ H ⟨rfl,hi,p⟩;have hr:=hl i σ H (by omega) (by omega) p
 by_cases hlt:i<min z.cps.toList.length ys.length
 ·refine .inr ⟨⟨ys,ys[i]'(by omega),bI hr,by omega,Aa _⟩,Pv (i+1),λσ' H' p'=>⟨min z.cps.toList.length ys.length-(i+1),by omega,rfl,hlt,p'⟩,λx H' y=>?_⟩
  obtain⟨q,c,y1,hq,rfl,rfl,hx,hy⟩:=y;exact hs i c y1 σ H q (by rw[Dj];exact hx) (hy ys (bI hr)) p hq
 ·have e:i=min z.cps.toList.length ys.length:=by omega
  subst e;exact .inl ⟨⟨ys,bI hr,by omega⟩,hd σ H p⟩
def cZ7(h:ta σ H (bZN λz b H1=>z.cps.all (· < 128)=true/\onL (rdL H1 b) (R (cJF K z b) H1))):dXX K ta σ H R:=h
def dZX{R:Str->Addr->Hp->Prop}(h:R z b H):bZN R [.str z,.ref b] H:=h
end
def fQD:R2:=λx y H Q=>(∃z q ys,x=.str z/\y=.ref q/\rdL H q=some ys/\Q (.bl false) H)\/aZR false x y H Q
def eJH(hu:X.A.units<cLine):OpR X (compareOp .Eq) fQD:=by
 intro pins s σ H x y v u Q I rx ry h;rcases h with⟨z,q,ys,rfl,rfl,hq,k⟩|h
 ·obtain⟨t,rfl⟩:=rx;cases ry;obtain⟨its,rv,pl,hz⟩:=I.list (bI hq);exact PySem.SeqAt.RcAt.str_list _ _ pl.isList hu _ _ _ _ ⟨.bl false,H,I,rfl,k⟩
 ·exact sQ hu pins s σ H x y v u Q I rx ry h
end L2
namespace Mine
open PySem L2
variable {H H':Hp}{Pt Z0 Zu Zv Zw Zx Zy Zz a b dd f hg p r s0 st x:Addr}{Q:VK}{T cws:Q6}{TB TC:List (Option Int)}{bk:List (Str×Str)}{bs ds l:List Addr}{cs cw fs js ks:List Nat}{d g i j k:Nat}{fd:FuncData}{hs:Q4}{kvs:List (Key×V)}{mg:Q5}{mss:List (Q6)}{n:Nat->Int}{o:HO}{vs xs:List V}{z:Str}{zs:List Str}{α β:Type}
local macro_rules | `(tactic| walk_at "rd") => `(tactic| first | assumption | exact bU | exact cX | exact vL | exact aM (by assumption) | exact cC (by assumption) | (apply aI (aF (by assumption) _); walk_at "rd"))
local macro_rules | `(tactic| walk_at "dd") => `(tactic| first | exact pD (by assumption) | exact cZB (by assumption) | exact pD aD | assumption)
local macro_rules | `(tactic| walk_at "lo") => `(tactic| first | assumption | decide | omega | (simp only [List.length_map,List.length_append,List.length_cons,List.length_nil,Str.length_append]; omega))
local macro_rules | `(tactic| walk_at "ln") => `(tactic| first | assumption | decide | exact bJ (by walk_at "lo") | exact bD (by walk_at "lo"))
local macro_rules | `(tactic| walk_at "ar") => `(tactic| first | assumption | decide | omega | exact ⟨by omega,by omega⟩ | exact Or.inl ⟨by omega,by omega⟩ | exact Or.inr ⟨by omega,by omega⟩ | (dsimp only; done) | (dsimp only; omega))
local macro_rules | `(tactic| walk_at "s") => `(tactic| first
 | (with_reducible first | refine cP ?_ | refine eQN ?_ | refine eJ4 ?_ | refine eXG ?_ | refine dJK ?_ | refine eJQ ?_ | refine eX4 ?_ | refine xL ?_ | refine eXE ?_)
 | ((with_reducible refine' eZH ?sv ?_); (case sv => exact rfl))
 | (with_reducible first | refine s_c ?_ | refine fQA ?_ | refine eJ2 ?_ | refine eJP ?_ | refine dJT ?_ | refine eQB ?_ | refine fQH ?_ | refine fQG ?_ | refine cXC ?_ | refine dZ6 ?_ | refine dJ3 ?_ | refine eZI ?_)
 | ((with_reducible refine' eJR ?se ?_); (case se => walk_at "rd"))
 | (with_reducible first | refine dJ4 ?_ | refine dQ6 ?_ | refine fQK ?_ | refine eQI ?_ | refine eX7 ?_ | refine eJW ?_ | refine eZQ ?_ | refine dJA ?_ | refine eX0 ?_ | refine eZZ ?_ | refine eJX ?_)
 | ((with_reducible refine eXY ?sc ?_); (case sc => walk_at "ar"))
 | with_reducible refine dZY ?_
 | ((with_reducible refine dJF ?sc ?_); (case sc => walk_at "ln"))
 | (with_reducible first | refine eX2 ?_ | refine eXI ?_ | refine eJN ?_ | refine eZY ?_ | refine eXL ?_ | refine dJQ ?_ | refine eJG ?_)
 | ((with_reducible refine' eX8 ?sc ?_); (case sc => walk_at "rd"))
 | ((with_reducible refine eQ1 ?sc ?_); (case sc => walk_at "ln"))
 | ((with_reducible refine' dJP ?sc ?_); (case sc => walk_at "rd"))
 | ((with_reducible refine' dJI ?sc ?_); (case sc => walk_at "rd"))
 | ((with_reducible refine' eJM ?se ?se2 ?_); (case se => first | exact rfl | exact aJA (by assumption) | exact tyN_dK (by assumption) | exact tyN_tup (by assumption) | exact aJA aD | exact tyN_dK aD); (case se2 => first | exact (show bQZ _ _ = some true from rfl) | exact (show bQZ _ _ = some false from rfl) | exact rfl))
 | (with_reducible first | refine dJU ?_ | refine cZP ?_ | refine cZW ?_ | refine cZ2 ?_ | refine cJ4 ?_ | refine cJI ?_ | refine eQO ?_ | refine eQY ?_ | refine bZ6 ?_)
 | ((with_reducible refine' eXX ?se ?_); (case se => walk_at "rd"))
 | ((with_reducible refine' dXW ?se ?sl ?_); (case se => walk_at "rd"); (case sl => walk_at "ln"))
 | ((with_reducible refine' eZX ?se ?sf ?sl ?_); (case se => walk_at "rd"); (case sf => walk_at "rd"); (case sl => walk_at "ln"))
 | (with_reducible first | refine dQH ?_ | refine cX0 ?_ | refine eQR ?_ | refine cZ7 ?_ | refine dZX ?_ | refine cJ7 ?_ | refine dZV ?_)
 | ((with_reducible refine' dJE ?se ?sn ?_); (case se => walk_at "rd"); (case sn => exact rfl))
 | (with_reducible first | refine eZP ?_ | refine eZ0 ?_ | refine eQJ ?_ | refine cJJ ?_ | refine cZ4 ?_)
 | ((with_reducible refine eZR ?sd ?_); (case sd => walk_at "dd"))
 | (with_reducible first | refine eQ5 ?_ | refine eZC ?_ | refine dZ4 ?_ | refine cJH ?_ | refine bJ1 ?_ | refine cZ3 ?_ | refine dZL ?_ | refine eZB ?_ | refine cZ6 ?_ | refine dZI ?_ | refine bZJ ?_ | refine cZ5 ?_)
 | ((with_reducible refine cZU ?sc ?_); (case sc => walk_at "ln"))
 | (with_reducible first | refine eX6 ?_ | refine cQQ ?_ | refine cJ5 ?_ | refine cJP ?_ | refine eQ8 ?_ | refine eZS ?_ | refine eQA ?_ | refine eJI ?_ | refine eXJ ?_ | refine dJ2 ?_ | refine eJS ?_ | refine eQE ?_ | refine eJ5 ?_ | refine eJ7 ?_ | refine eZO ?_ | refine eZL ?_)
 | dsimp only)
local macro_rules | `(tactic| walk_at "go") => `(tactic| repeat' (walk_at "s"))
local macro_rules | `(tactic| walk_at "sc") => `(tactic| exact ⟨rfl,rfl,rfl,by decide +kernel,rfl,by decide +kernel,by decide +kernel⟩)
local macro_rules | `(tactic| walk_at "o") => `(tactic| first | exact Or.inl rfl | exact Or.inr rfl)
local macro_rules | `(tactic| walk_at "gs") => `(tactic| repeat' ((fail_if_success (with_reducible refine cP ?_)); (walk_at "s")))
def top(i:Nat):Stmt:=PySem.Challenge.pw_flaglocker_k72_whole_texts_said.main.body.getD i (.Pass ⟨0,0,0,0⟩)
abbrev mQ:Stmt:=top 83
abbrev rE:Stmt:=top 82
abbrev nY:Stmt:=top 84
abbrev oK:Stmt:=top 29
abbrev eK:Stmt:=top 30
abbrev mO:Stmt:=top 34
abbrev gU:Stmt:=top 35
abbrev fD:Stmt:=top 36
abbrev dS:Stmt:=top 37
abbrev dJ:Stmt:=top 39
abbrev lU:Stmt:=top 40
abbrev gA:Stmt:=top 47
abbrev iJ:Stmt:=aQO (top 80) 0
abbrev pC:Stmt:=top 6
abbrev iU:Stmt:=top 10
abbrev dU:Stmt:=top 12
abbrev mH:Stmt:=top 13
abbrev iP:Stmt:=top 14
abbrev oP:Stmt:=top 7
abbrev jE:Stmt:=top 42
abbrev mJ:Stmt:=top 43
abbrev oW:Stmt:=top 44
abbrev fS:Stmt:=aQO (top 80) 5
abbrev sY:Stmt:=top 49
abbrev iG:Stmt:=top 52
abbrev fR:Stmt:=top 51
abbrev iT:Stmt:=top 55
abbrev jJ:Stmt:=top 53
abbrev fP:Stmt:=top 56
abbrev iH:Stmt:=top 57
abbrev kC:Stmt:=aQO (top 19) 0
abbrev dZ:Stmt:=top 58
abbrev mP:Stmt:=top 64
abbrev gD:Stmt:=top 73
abbrev iV:Stmt:=aQO (top 18) 0
abbrev wL:Stmt:=top 48
abbrev fQ:Stmt:=top 78
abbrev lG:Stmt:=top 74
abbrev jG:Stmt:=top 75
abbrev lD:Stmt:=top 76
abbrev lB:Stmt:=top 77
abbrev hU:Stmt:=top 79
abbrev lW:Stmt:=aQO (top 80) 1
abbrev rV:Stmt:=top 87
abbrev gR:Stmt:=top 31
abbrev oF:Stmt:=top 85
abbrev pE:Stmt:=top 86
abbrev jO:Stmt:=top 88
structure KFs (K:W.Frag) (Zu Zz Zv Zx Z0 Zw Zy:Addr):Prop where
 x_NoDeed:W.excIn K Zw [.type "ValueError",.type "Exception",.type "BaseException",.type "object"] "ValueError.__new__"=true
 x_NoHoist:W.excIn K Zx [.type "ValueError",.type "Exception",.type "BaseException",.type "object"] "ValueError.__new__"=true
 x_NoHalyard:W.excIn K Zy [.type "ValueError",.type "Exception",.type "BaseException",.type "object"] "ValueError.__new__"=true
 m_Lack_NoHalyard:W.exmOne K (.ref Zu) (.ref Zy)=some false
 m_NoHalyard_NoHalyard:W.exmOne K (.ref Zy) (.ref Zy)=some true
 m_Lack_Lack:W.exmOne K (.ref Zu) (.ref Zu)=some true
 m_Short_Short:W.exmOne K (.ref Zv) (.ref Zv)=some true
 t1_TowerError:W.specialIn K (.ref Zz) "__getattribute__"=some (some (.builtin "type.__getattribute__"))
 t2_TowerError:W.readsIn K Zz (.type "type")=true
 t3_TowerError:W.findCls K (.ref Zz) (.type "type") "__init__"=some (.val (.builtin "ValueError.__init__"))
 xo_Lack:aQ8 K Zu [.type "ValueError",.type "Exception",.type "BaseException",.type "object"] "ValueError.__new__"=true
 xk_Lack:W.keepIn K (.ref Zu)=true
 xe1_Lack:W.hasDictIn K Zu=true
 xe2_Lack:W.findIn K (.ref Zu) "__getattribute__"=some (some (.builtin "BaseException.__getattribute__"))
 xe3_Lack:W.findIn K (.ref Zu) "__getattr__"=some none
 xe4_Lack:W.findIn K (.ref Zu) "__class__"=some (some (.builtin "object.__class__"))
 xe5_Lack:W.specialIn K (.builtin "object.__class__") "__get__"=some (some (.builtin "getset_descriptor.__get__"))
 xe6_Lack:W.takesIn K (.builtin "object.__class__")=some true
 xe7_Lack:W.mroIn K Zu (.type "object")=some true
 xe8_Lack:W.subIn K (.ref Zu) (.type "BaseException")=some true
 xs_Lack:W.findIn K (.ref Zu) "__setattr__"=some (some (.builtin "object.__setattr__"))
 xr_Lack:dJN K Zu Zz=true
 xv_Lack:W.subIn K (.ref Zu) (.type "ValueError")=some true
 xn_Lack_wants:W.findIn K (.ref Zu) "wants"=some none
 xn_Lack_flags:W.findIn K (.ref Zu) "flags"=some none
 xo_Short:aQ8 K Zv [.type "ValueError",.type "Exception",.type "BaseException",.type "object"] "ValueError.__new__"=true
 xk_Short:W.keepIn K (.ref Zv)=true
 xe1_Short:W.hasDictIn K Zv=true
 xe2_Short:W.findIn K (.ref Zv) "__getattribute__"=some (some (.builtin "BaseException.__getattribute__"))
 xe3_Short:W.findIn K (.ref Zv) "__getattr__"=some none
 xe4_Short:W.findIn K (.ref Zv) "__class__"=some (some (.builtin "object.__class__"))
 xe5_Short:W.specialIn K (.builtin "object.__class__") "__get__"=some (some (.builtin "getset_descriptor.__get__"))
 xe6_Short:W.takesIn K (.builtin "object.__class__")=some true
 xe7_Short:W.mroIn K Zv (.type "object")=some true
 xe8_Short:W.subIn K (.ref Zv) (.type "BaseException")=some true
 xs_Short:W.findIn K (.ref Zv) "__setattr__"=some (some (.builtin "object.__setattr__"))
 xr_Short:dJN K Zv Zz=true
 xv_Short:W.subIn K (.ref Zv) (.type "ValueError")=some true
 xn_Short_flag:W.findIn K (.ref Zv) "flag"=some none
 cl1_Tower:W.plainGet K Z0 Str.empty=true
 cl2_Tower:W.hasDictIn K Z0=true
 cl3_Tower:W.plainOver K Z0=true
 cl4_Tower:W.findIn K (.ref Z0) "__setattr__"=some (some (.builtin "object.__setattr__"))
 mk1_Tower:W.makesIn K Z0=true
 mk2_Tower:W.keepIn K (.ref Z0)=true
 na_Tower_book:W.findIn K (.ref Z0) "book"=some none
 na_Tower_many:W.findIn K (.ref Z0) "many"=some none
 na_Tower_stock_at_first:W.findIn K (.ref Z0) "stock_at_first"=some none
 na_Tower_stock:W.findIn K (.ref Z0) "stock"=some none
 na_Tower_hung:W.findIn K (.ref Z0) "hung"=some none
 na_Tower_deeds:W.findIn K (.ref Z0) "deeds"=some none
structure Gs (K:W.Frag) (mg:Str->Option Value) (w:World) (Zu Zz Zv Zx Z0 Zw Zy:Addr):Prop extends KFs K Zu Zz Zv Zx Z0 Zw Zy where
 c_Lack:mg "Lack"=some (.ref Zu)
 c_TowerError:mg "TowerError"=some (.ref Zz)
 c_Short:mg "Short"=some (.ref Zv)
 c_NoHoist:mg "NoHoist"=some (.ref Zx)
 c_Tower:mg "Tower"=some (.ref Z0)
 c_NoDeed:mg "NoDeed"=some (.ref Zw)
 c_NoHalyard:mg "NoHalyard"=some (.ref Zy)
 d_THINGS_IN:eJF w K mg "THINGS_IN" [("haul",3),("lower",2),("lose",2),("find",2),("say",2)]
 b_range:mg "range"=none
 b_len:mg "len"=none
 b_all:mg "all"=none
 b_enumerate:mg "enumerate"=none
 b_min:mg "min"=none
 b_max:mg "max"=none
 b_list:mg "list"=none
 b_sum:mg "sum"=none
 b_int:mg "int"=none
 b_dict:mg "dict"=none
 b_zip:mg "zip"=none
 b_isinstance:mg "isinstance"=none
 s_LONGEST_TERM:∃t,mg "LONGEST_TERM"=some (.int 10 t)
 s_TERM_LETTERS:∃t,mg "TERM_LETTERS"=some (.str "abcdefghijklmnopqrstuvwxyz" t)
 s_MOST_TERMS:∃t,mg "MOST_TERMS"=some (.int 40 t)
 s_FLAGS:∃t,mg "FLAGS"=some (.str "abcdefghijklmnopqrstuvw1234" t)
 s_LETTERS:∃t,mg "LETTERS"=some (.str "abcdefghijklmnopqrstuvw" t)
 s_SUBSTITUTES:∃t,mg "SUBSTITUTES"=some (.str "1234" t)
 s_MOST_PLACES:∃t,mg "MOST_PLACES"=some (.int 7 t)
def Gs.xx_Lack{K:W.Frag}{w:World}(G:Gs K mg w Zu Zz Zv Zx Z0 Zw Zy):ExK K Zu:=⟨G.xe1_Lack,G.xe2_Lack,G.xe3_Lack,G.xe4_Lack,G.xe5_Lack,G.xe6_Lack,G.xe7_Lack,G.xe8_Lack⟩
def Gs.xc_Lack{K:W.Frag}{w:World}(G:Gs K mg w Zu Zz Zv Zx Z0 Zw Zy):XcK K Zu Zz:=⟨G.xx_Lack,G.xs_Lack,aJ3 G.xr_Lack,G.xv_Lack⟩
def Gs.xm_Lack{K:W.Frag}{w:World}(G:Gs K mg w Zu Zz Zv Zx Z0 Zw Zy):XmK K Zu:=⟨G.xo_Lack,G.xk_Lack⟩
def Gs.xx_Short{K:W.Frag}{w:World}(G:Gs K mg w Zu Zz Zv Zx Z0 Zw Zy):ExK K Zv:=⟨G.xe1_Short,G.xe2_Short,G.xe3_Short,G.xe4_Short,G.xe5_Short,G.xe6_Short,G.xe7_Short,G.xe8_Short⟩
def Gs.xc_Short{K:W.Frag}{w:World}(G:Gs K mg w Zu Zz Zv Zx Z0 Zw Zy):XcK K Zv Zz:=⟨G.xx_Short,G.xs_Short,aJ3 G.xr_Short,G.xv_Short⟩
def Gs.xm_Short{K:W.Frag}{w:World}(G:Gs K mg w Zu Zz Zv Zx Z0 Zw Zy):XmK K Zv:=⟨G.xo_Short,G.xk_Short⟩
def Gs.cl_Tower{K:W.Frag}{w:World}(G:Gs K mg w Zu Zz Zv Zx Z0 Zw Zy):Cls K Z0:=⟨G.cl1_Tower,G.cl2_Tower,G.cl3_Tower,G.cl4_Tower⟩
abbrev lettersT:Str := "abcdefghijklmnopqrstuvw"
abbrev subsT:Str := "1234"
abbrev flagsT:Str := "abcdefghijklmnopqrstuvw1234"
abbrev one(c:Nat):Str:=⟨#[c]⟩
def aZN:subsT.cps.toList=[49,50,51,52]:=by decide
def aQ0:flagsT.cps.toList=lettersT.cps.toList++subsT.cps.toList:=by decide
def aX(c:Nat):Prop:=97<=c/\c<=119
def eD(c:Nat):Prop:=49<=c/\c<=52
instance (c:Nat):Decidable (aX c):=inferInstanceAs (Decidable (_/\_))
instance (c:Nat):Decidable (eD c):=inferInstanceAs (Decidable (_/\_))
def mem_letters{c:Nat}:c∈lettersT.cps.toList ↔ aX c:=by
 have h1:∀c∈lettersT.cps.toList,aX c:=by decide +kernel
 have h2:∀k:_root_.Fin 23,97+k.val∈lettersT.cps.toList:=by decide +kernel
 refine⟨h1 c,λh=>?_⟩;have e:=h2 ⟨c-97,by have:=h.1;have:=h.2;omega⟩
 rwa [show 97+(c-97)=c by have:=h.1;omega]at e
def mem_subs{c:Nat}:c∈subsT.cps.toList ↔ eD c:=by
 have h1:∀c∈subsT.cps.toList,eD c:=by decide +kernel
 have h2:∀k:_root_.Fin 4,49+k.val∈subsT.cps.toList:=by decide +kernel
 refine⟨h1 c,λh=>?_⟩;have e:=h2 ⟨c-49,by have:=h.1;have:=h.2;omega⟩
 rwa [show 49+(c-49)=c by have:=h.1;omega]at e
def vE{c:Nat}:c∈flagsT.cps.toList ↔ aX c\/eD c:=by
 rw[aQ0,Bo,mem_letters,mem_subs]
def jP{c:Nat}(h:aX c):¬eD c:=λz=>by unfold aX at h;unfold eD at z;omega
def qU(c:Nat):subIn (one c) subsT=decide (eD c):=by
 rw[oV];exact Dx.mpr mem_subs
def fW(z:Str):z.cps.toList.length=z.length:=by simp[Str.length]
def rZ(h:z.length=1):∃c,z=one c:=by
 obtain⟨⟨l⟩⟩:=z
 match l,h with
 |[c],_=>exact⟨c,rfl⟩
def iN(z:Str):Bool:=if z.length=1 then subIn z flagsT else false
def pT(h:z.length≠1):iN z=false:=if_neg h
def rG{c:Nat}:iN (one c)=decide (aX c\/eD c):=by
 unfold iN;rw[if_pos (by rfl),oV]
 exact Dx.mpr vE
def bQV(h:iN z=true):∃c,z=one c/\(aX c\/eD c):=by
 by_cases h1:z.length=1
 ·obtain⟨c,rfl⟩:=rZ h1;rw[rG]at h;exact⟨c,rfl,Bg h⟩
 ·rw[pT h1]at h;cases h
def jH(c:Nat)(p:Int):Prop:=aX c\/(eD c/\(c:Int)-48<p)
instance (c:Nat) (p:Int):Decidable (jH c p):=inferInstanceAs (Decidable (_\/_))
def cW(z:Str)(p:Int):Bool:=if z.length=1 then decide (jH (z.cps.toList.headD 0) p) else false
def nV{c:Nat}{p:Int}:cW (one c) p=decide (jH c p):=rfl
def uD{p:Int}(h:cW z p=true):∃c,z=one c/\jH c p:=by
 by_cases h1:z.length=1
 ·obtain⟨c,rfl⟩:=rZ h1;exact⟨c,rfl,Bg h⟩
 ·unfold cW at h;rw[if_neg h1]at h;cases h
def cY(zs:List Str):Bool:=if zs.length<1\/7<zs.length then false else (List.range zs.length).all λi=>cW (zs.getD i ⟨#[]⟩) ((1+i:Nat):Int)
def iD(h:cY zs=true):1<=zs.length/\zs.length<=7:=by
 unfold cY at h;split at h
 ·cases h
 ·omega
def bJT(h:cY zs=true)(hi:i<zs.length):cW (zs.getD i ⟨#[]⟩) ((1+i:Nat):Int)=true:=by
 unfold cY at h;split at h
 ·cases h
 ·exact Ce.mp h i (Cb.mpr hi)
def stp(w:List Nat)(c:Nat):Nat:=if eD c then w.getD (c-49) 0 else c
def rdC(fs:List Nat):List Nat:=fs.foldl (λw c=>w++[stp w c]) []
def cX2(fs:List Nat)(c:Nat):rdC (fs++[c])=rdC fs++[stp (rdC fs) c]:=by
 unfold rdC;rw[List.foldl_append];rfl
def rY{c:Nat}(h:fs[i]?=some c):rdC (fs.take (i+1))=rdC (fs.take i)++[stp (rdC (fs.take i)) c]:=by
 rw[Bh,h];exact cX2 _ _
def cZK:∀fs:List Nat,(rdC fs).length=fs.length:=by
 intro fs;have h:∀i,i<=fs.length->(rdC (fs.take i)).length=i:=by
  intro i;induction i with
  |zero=>intro _;rfl
  |succ i ih=>
   intro hi;rw[rY (Aa (by omega)),Ah,ih (by omega)]
   rfl
 have q:=h fs.length (Aj _)
 rwa [Cj]at q
def wQ(h:i<=fs.length):(rdC (fs.take i)).length=i:=by
 rw[cZK,Bp];omega
def aQ(cs:List Nat):Str:=⟨cs.toArray⟩
def dG(cs:List Nat):(aQ cs).length=cs.length:=by show cs.toArray.size=_;simp
def cR(cs:List Nat):(aQ cs).cps.toList=cs:=rfl
def kM(cs:List Nat)(c:Nat):aQ cs++one c=aQ (cs++[c]):=FlT.str_ext (by rw[FlT.app_cps];rfl)
def tB{a b:List Nat}(h:aQ a=aQ b):a=b:=Dk (λz:Str=>z.cps.toList) h
def lO(z:Str):Nat:=z.cps.toList.headD 0
def aXZ(h:cY zs=true)(hz:zs[i]?=some z):∃c,z=one c/\(zs.map lO)[i]?=some c/\(aX c\/(eD c/\c-49<i)):=by
 have hi:i<zs.length:=(Ae.mp hz).1
 have q:=bJT h hi
 rw[Ac,hz]at q;obtain⟨c,e,st⟩:=uD q;have e':z=one c:=e
 refine⟨c,e',by rw[Af,hz,e'];rfl,?_⟩
 rcases st with l|⟨s,l⟩
 ·exact .inl l
 ·refine .inr ⟨s,?_⟩;unfold eD at s;omega
def lQ(zs:List Str):Str:=aQ (rdC (zs.map lO))
def kP(f:α->β):∀l:List α,l.filterMap (λx=>some (f x))=l.map f
 |[]=>rfl
 |x::r=>by rw[Bi (f:=λx=>some (f x)) (b:=f x) rfl,Aq,kP f r]
def iA{f g:α->Option β}:∀ {l:List α},(∀x∈l,f x=g x)->l.filterMap f=l.filterMap g
 |[],_=>rfl
 |x::r,h=>by rw[El,El,h x Ak,iA λy hy=>h y (Ai _ hy)]
def one_inj{a b:Nat}:one a=one b ↔ a=b:=⟨λh=>by injection h with h;injection h with h;injection h,λh=>by rw[h]⟩
def aJG(a b:Nat):decide (one a=one b)=decide (a=b):=Dx.mpr one_inj
def dQR(h:k<cw.length):atI (aQ cw).cps.toList ((k:Nat):Int)=some (cw.getD k 0):=by
 refine bC ?_;rw[cR,Ac,Aa h];rfl
def yH{k:Int}(h:0<=k):nX xs none (some k)=xs.take k.toNat:=by
 unfold nX;show (xs.drop 0).take ((if k<0 then (k+(xs.length:Int)).toNat else min k.toNat xs.length)-0)=_
 rw[if_neg (by omega),Ho,Nat.sub_zero]
 by_cases hk:k.toNat<=xs.length
 ·rw[Ft hk]
 ·rw[Fn (by omega),Bk (Aj _),Bk (by omega)]
def cJZ{ns:List Int}{i:Int}(h0:0<=i)(h:i<ns.length):∃n,n∈ns/\atI (ns.map V.int) i=some (.int n):=by
 obtain⟨v,h1,h2⟩:=dZK (xs:=ns.map V.int) (i:=i) h0 (by rw[Ab];exact h)
 rw[Af,Aa (by omega)]at h2
 cases h2;exact⟨_,Bx _,h1⟩
def eU{ns:List Str}{x:V}(h:(ns.map V.str)[j]?=some x):∃n,ns[j]?=some n/\x=V.str n:=by
 rw[Af]at h;cases e:ns[j]? with
 |none=>rw[e]at h;cases h
 |some n=>rw[e]at h;cases h;exact⟨n,rfl,rfl⟩
def qQ{c:Nat}(h:eD c):PySem.intText? (one c)=some ((c:Int)-48):=by
 unfold eD at h;have:c=49\/c=50\/c=51\/c=52:=by omega
 rcases this with rfl|rfl|rfl|rfl<;>decide +kernel
def bZ(zs:List Str):(zs.map V.str).all cN=true:=by
 rw[Ce];intro x hx;obtain⟨z,_,rfl⟩:=Bb.mp hx;rfl
def bJR(h1:1<=fs.length)(h7:fs.length<=7)(h:∀k,k<fs.length->jH (fs.getD k 0) ((1+k:Nat):Int)):cY (fs.map one)=true:=by
 unfold cY;rw[Ab,if_neg (by omega),Ce]
 intro i hi;have hi':=Cb.mp hi
 rw[Ac,Af,Aa hi'];have q:=h i hi'
 rw[Ac,Aa hi']at q;exact An q
def chF(cw:List Nat)(k n:Nat):Option Nat:=if cw.getD n 0=cw.getD k 0 then some (49+n) else none
def chs(cw:List Nat)(k:Nat):List Nat:=cw.getD k 0::(List.range (min k 4)).filterMap (chF cw k)
def ch_iff{c:Nat}:c∈chs cw k ↔ c=cw.getD k 0\/∃n,n<k/\n<4/\cw.getD n 0=cw.getD k 0/\c=49+n:=by
 unfold chs;rw[Be,Bv];constructor
 ·rintro(h|⟨n,hn,h⟩)
  ·exact .inl h
  ·have:=Cb.mp hn
   unfold chF at h;split at h
   ·cases h;exact .inr ⟨n,by omega,by omega,by assumption,rfl⟩
   ·cases h
 ·rintro(h|⟨n,h1,h2,h3,rfl⟩)
  ·exact .inl h
  ·exact .inr ⟨n,Cb.mpr (by omega),if_pos h3⟩
def dXB(cw:List Nat)(k:Nat):1<=(chs cw k).length/\(chs cw k).length<=5:=by
 unfold chs;have:=Dd (chF cw k) (List.range (min k 4))
 rw[Bq]at this;rw[Au];omega
def bJ9{c:Nat}(hL:aX (cw.getD k 0))(h:c∈chs cw k):jH c ((1+k:Nat):Int):=by
 rcases ch_iff.mp h with rfl|⟨n,h1,h2,_,rfl⟩
 ·exact .inl hL
 ·exact .inr ⟨⟨by omega,by omega⟩,by omega⟩
def dJ7{c:Nat}(hL:aX (cw.getD k 0))(hk:k<cw.length)(h:c∈chs cw k):stp (cw.take k) c=cw.getD k 0:=by
 rcases ch_iff.mp h with rfl|⟨n,h1,h2,h3,rfl⟩
 ·exact if_neg (jP hL)
 ·unfold stp;rw[if_pos ⟨by omega,by omega⟩,show 49+n-49=n by omega,Ac,List.getElem?_take_of_lt h1,<-Ac,h3]
def yP(hL:∀d∈cw,aX d)(hl:fs.length<=cw.length):∀i,i<=fs.length->(∀k,k<i->fs.getD k 0∈chs cw k)->rdC (fs.take i)=cw.take i
 |0,_,_=>rfl
 |i+1,hi,h=>by
  have hc:cw[i]?=some (cw.getD i 0):=by rw[Ac,Aa (by omega)];rfl
  have hf:fs[i]?=some (fs.getD i 0):=by rw[Ac,Aa (by omega)];rfl
  rw[rY hf,yP hL hl i (by omega) λk hk=>h k (by omega),dJ7 (hL _ (Am hc)) (by omega) (h i (by omega)),Bh,hc]
  rfl
def nT(hL:∀d∈cw,aX d)(hk:k<cw.length):aX (cw.getD k 0):=by
 rw[Ac,Aa hk];exact hL _ (Bx hk)
def eQS(hL:∀d∈cw,aX d)(hl:fs.length=cw.length)(h:∀k,k<fs.length->fs.getD k 0∈chs cw k):rdC fs=cw:=by
 have q:=yP hL (by omega) fs.length (Aj _) h
 rwa [Cj,hl,Cj]at q
def bJP(hL:∀d∈cw,aX d)(h1:1<=fs.length)(h7:fs.length<=7)(hl:fs.length<=cw.length)(h:∀k,k<fs.length->fs.getD k 0∈chs cw k):cY (fs.map one)=true:=
 bJR h1 h7 λk hk=>bJ9 (nT hL (by omega)) (h k hk)
def cJ0{c:Nat}(h:aX c):Builtin.Str.occurrences lettersT (one c) 0 lettersT.length 1=[c-97]:=by
 have q:∀k:_root_.Fin 23,Builtin.Str.occurrences lettersT (one (97+k.val)) 0 lettersT.length 1=[k.val]:=by decide +kernel
 unfold aX at h;have e:=q ⟨c-97,by omega⟩
 rwa [show 97+(c-97)=c by omega]at e
def qC(cs:List Nat)(n:Nat):Int:=((List.range n).map λi:Nat=>((1+i:Nat):Int)*((cs.getD i 0-97:Nat):Int)).sum
def kI(cs:List Nat)(n:Nat):qC cs (n+1)=qC cs n+((1+n:Nat):Int)*((cs.getD n 0-97:Nat):Int):=by
 unfold qC;rw[Cv,Ar,List.sum_append];simp
def sM{cs ds:List Nat}:∀ {n:Nat},(∀i,i<n->cs.getD i 0=ds.getD i 0)->qC cs n=qC ds n
 |0,_=>rfl
 |n+1,h=>by rw[kI,kI,sM λi hi=>h i (by omega),h n (by omega)]
def zQ{cs ds:List Nat}{k:Nat}:∀ {n:Nat},k<n->(∀i,i<n->i≠k->cs.getD i 0=ds.getD i 0)->
 qC ds n=qC cs n+((1+k:Nat):Int)*(((ds.getD k 0-97:Nat):Int)-((cs.getD k 0-97:Nat):Int))
 |0,h,_=>absurd h (Fs _)
 |n+1,h,hh=>by
  rw[kI,kI];by_cases e:k=n
  ·subst e;rw[sM (cs:=ds) (ds:=cs) λi hi=>(hh i (by omega) (by omega)).symm,Int.mul_sub]
   omega
  ·rw[zQ (k:=k) (n:=n) (by omega) λi hi=>hh i (by omega),hh n (by omega) (λz=>e z.symm)]
   omega
def bZC{m x y:Int}(hk:k<7)(hx:0<=x/\x<23)(hy:0<=y/\y<23)(h:m%23=0):(m+((1+k:Nat):Int)*(y-x))%23=0 ↔ y=x:=by
 have hk':k=0\/k=1\/k=2\/k=3\/k=4\/k=5\/k=6:=by omega
 rcases hk' with rfl|rfl|rfl|rfl|rfl|rfl|rfl<;>simp only[Nat.reduceAdd]<;>omega
def gY(cs:List Nat):Bool:=decide (qC cs cs.length%23=0)
def sO(hk:k<cs.length):(cs.set k d).getD i 0=if i=k then d else cs.getD i 0:=by
 rw[Ac,List.getElem?_set,Ac];by_cases e:i=k
 ·subst e;rw[if_pos rfl,if_pos rfl,if_pos hk];rfl
 ·rw[if_neg (λz=>e z.symm),if_neg e]
def aZ3(hL:∀d∈cs,aX d){c:Nat}(hc:aX c):∀d∈cs.set k c,aX d:=λd hd=>by
 rcases List.mem_or_eq_of_mem_set hd with h|h
 ·exact hL d h
 ·rw[h];exact hc
def sC{cs:List Nat}{k d:Nat}(hk:k<cs.length):qC (cs.set k d) cs.length=qC cs cs.length+((1+k:Nat):Int)*(((d-97:Nat):Int)-((cs.getD k 0-97:Nat):Int)):=by
 have e:(cs.set k d).getD k 0=d:=by rw[sO hk,if_pos rfl]
 rw[zQ (cs:=cs) (ds:=cs.set k d) (k:=k) hk (λi hi hn=>by rw[sO hk,if_neg hn]),e]
def cJ3{cs:List Nat}(h7:cs.length<=7)(hL:∀d∈cs,aX d){k d:Nat}(hk:k<cs.length)(hd:aX d)(h:gY cs=true):gY (cs.set k d)=decide (d=cs.getD k 0):=by
 unfold gY at h ⊢;have hm:=Bg h
 have hg:=nT hL hk
 unfold aX at hd hg;rw[Dq,sC hk];refine Dx.mpr ((bZC (by omega) ⟨by omega,by omega⟩ ⟨by omega,by omega⟩ hm).trans ?_)
 omega
def aQM{cs:List Nat}(h7:cs.length<=7){k:Nat}(hk:k<cs.length):∃d,aX d/\gY (cs.set k d)=true:=by
 have q:∀k:_root_.Fin 7,∀m:_root_.Fin 23,∃d:_root_.Fin 23,(m.val+(1+k.val)*d.val)%23=0:=by decide +kernel
 have hs:=sC (cs:=cs) (k:=k) (d:=97) hk
 obtain⟨d,hd⟩:=q ⟨k,by omega⟩ ⟨(qC (cs.set k 97) cs.length%23).toNat,by omega⟩
 refine⟨97+d.val,⟨by omega,by have:=d.isLt;omega⟩,?_⟩
 unfold gY;rw[Dq];have e2:=sC (cs:=cs) (k:=k) (d:=97+d.val) hk
 simp only at hd;have hk':k=0\/k=1\/k=2\/k=3\/k=4\/k=5\/k=6:=by omega
 refine An ?_;rcases hk' with rfl|rfl|rfl|rfl|rfl|rfl|rfl<;>simp only[Nat.reduceAdd]at hs e2 hd<;>omega
def bZ0(hL:∀d∈cs,aX d):(aQ cs).cps.all (· < 128)=true:=by
 rw[Array.all_eq_true];intro i hi;have h1:(aQ cs).cps[i]∈cs:=by
  have:(aQ cs).cps[i]∈(aQ cs).cps:=Array.getElem_mem hi
  rw[<-Array.mem_toList_iff]at this;exact this
 have:=hL _ h1
 unfold aX at this;exact An (by omega)
def cZM(c:Nat):Prop:=97<=c/\c<=122
def eL(t:List Nat):Prop:=1<=t.length/\t.length<=10/\∀c∈t,cZM c
abbrev tmsT:Str := "abcdefghijklmnopqrstuvwxyz"
def BkAt(H:Hp)(r:Addr)(bk:List (Str×Str)):Prop:=∃ps:List Addr,H r=some (.lst (ps.map V.ref))/\ps.length=bk.length/\∀(j:Nat) p b,ps[j]?=some p->bk[j]?=some b->H p=some (.tup [.str b.1,.str b.2])
def BkAt.keep(h:BkAt H r bk)(s:Same H H'):BkAt H' r bk:=by
 obtain⟨ps,h1,h2,h3⟩:=h;exact⟨ps,s _ _ h1,h2,λj p b hp hb=>s _ _ (h3 j p b hp hb)⟩
def bA(ts:List (List Nat)):Str:=Txt.join " " (ts.map aQ)
structure GoodBk (bk:List (Str×Str)):Prop where
 le:bk.length<=60
 words:(bk.map (·.1)).Nodup
 means:(bk.map (·.2)).Nodup
 word:∀b∈bk,∃cw:List Nat,b.1=aQ cw/\1<=cw.length/\cw.length<=6/\∀d∈cw,aX d
 mean:∀b∈bk,∃ts:List (List Nat),b.2=bA ts/\1<=ts.length/\ts.length<=5/\∀t∈ts,eL t
def vI:∀ts:List (List Nat),(∀t∈ts,eL t)->((ts.map aQ).map (·.length)).sum<=10*ts.length
 |[],_=>Aj _
 |t::r,h=>by
  rw[Aq,Aq,Dt,Au,dG];have h1:=(h t Ak).2.1
  have:=vI r λx hx=>h x (Ai _ hx)
  omega
def bXM{k:Int}(h:0<=k):nX xs (some k) none=xs.drop k.toNat:=by
 unfold nX;show (xs.drop (if k<0 then (k+(xs.length:Int)).toNat else min k.toNat xs.length)).take (xs.length-(if k<0 then (k+(xs.length:Int)).toNat else min k.toNat xs.length))=_
 rw[if_neg (by omega)]
 by_cases hk:k.toNat<=xs.length
 ·rw[Ft hk,Bk (by rw[Cw];omega)]
 ·rw[Fn (by omega),List.drop_eq_nil_of_le (by omega),List.drop_eq_nil_of_le (by omega),List.take_nil]
def vV(sep:Array Nat):∀(ys:List Str) (acc:Array Nat),(ys.foldl (λacc p=>acc++sep++p.cps) acc).toList=acc.toList++(ys.map λy=>sep.toList++y.cps.toList).flatten
 |[],acc=>by simp
 |y::r,acc=>by
  rw[List.foldl_cons,vV sep r];simp
def aQI(sep y:Str)(r:List Str):(Txt.join sep (y::r)).cps.toList=y.cps.toList++(r.map λy=>sep.cps.toList++y.cps.toList).flatten:=by
 have e:=vV sep.cps r y.cps
 rw[<-e];rfl
def bJC{ts:Q6}(h5:ts.length<=5)(h:∀t∈ts,eL t):(bA ts).length<=60:=by
 unfold bA;cases ts with
 |nil=>exact Cy _
 |cons t r=>
  have hl:∀r:List (List Nat),(∀t∈r,eL t)->((r.map aQ).map λy=>(Str.ofString " ").cps.toList++y.cps.toList).flatten.length<=11*r.length:=λr h=>by
   induction r with
   |nil=>exact Aj _
   |cons u v ih=>
    rw[Aq,Aq,Ci,Ah,Ah,Au];have h1:=(h u Ak).2.1
    have h2:=ih λx hx=>h x (Ai _ hx)
    rw[cR];have h3:(Str.ofString " ").cps.toList.length=1:=rfl
    omega
  have e:=aQI (Str.ofString " ") (aQ t) (r.map aQ)
  have h1:=(h t Ak).2.1
  have h2:=hl r λx hx=>h x (Ai _ hx)
  rw[<-fW,Aq,show Txt.join " " (aQ t::r.map aQ)=Txt.join (Str.ofString " ") (aQ t::r.map aQ) from rfl,e,Ah,cR];rw[Au]at h5;omega
def wF(K:W.Frag)(Pt:Addr):Sp:=λvs H Q _=>∃(a:Addr) (ns:List Int),vs=[.ref a]/\SqL K H a (ns.map V.int)/\ns.length<=63/\H Pt=some (.tbl #[])/\∀H',Q (.bl true) H'
def rN:Sp:=λvs H Q _=>∃z,vs=[.str z]/\z.length<=1000/\Q (.bl (iN z)) H
def nM:Sp:=λvs H Q _=>∃z p,vs=[.str z,.int p]/\z.length<=1000/\Q (.bl (cW z p)) H
def pV:Sp:=λvs H Q _=>∃a zs,vs=[.ref a]/\rdL H a=some (zs.map V.str)/\zs.length<=1000/\(∀z∈zs,z.length<=1000)/\∀H',Same H H'->Q (.bl (cY zs)) H'
def sK(aN:Addr):Sp:=λvs H Q E=>∃a zs,vs=[.ref a]/\rdL H a=some (zs.map V.str)/\zs.length<=1000/\(∀z∈zs,z.length<=1000)/\(cY zs=true->∀H',Same H H'->Q (.str (lQ zs)) H')/\(cY zs=false->∀H',Same H H'->E (.ref aN) none H')
def aJ2{j:Int}(e:j=(k:Int))(h:k<cw.length):atI (aQ cw).cps.toList j=some (cw.getD k 0):=by
 rw[e];exact dQR h
def eP{i:Int}{v:V}(e:H p=some (.tup xs))(e':atI xs i=some v)(h:Q v H):mIx (.ref p) (.int i) H Q:=by
 have e1:rdL H p=none:=by unfold rdL;rw[e];rfl
 unfold mIx;simp only[e1,eE e,e'];exact h
section
variable {P:Program} {w:World} {K:W.Frag} {mg:Q5} {base:Heap}
def lC(aC:Addr):Sp:=λvs H Q _=>∃ea v,vs=[.ref ea,v]/\H ea=some (eS ea aC none)/\∀dx,H dx=none->Q .non (upd (upd H ea (eS ea aC (some dx))) dx (xdO dx [("flag",v)]))
def uG:FnScope ["self", "flag"] ["self", "flag"] (aJ iV):=by walk_at "sc"
def tR(F:Fun K "__init__" "Short.__init__" iV f fd)(G:Gs K mg w Zu Zz Zv Zx Z0 Zw Zy):FnOk P w K mg base CX0 1 f fd ["self", "flag"] (lC Zv):=by
 refine F.ok uG (λvs H Q E h=>?_) (λcdv A outer s H vs Q E hr h=>?_)
 ·obtain⟨ea,v,rfl,_⟩:=h;rfl
 obtain⟨ea,v,rfl,he,q⟩:=h;refine⟨_,(@aE _ _ _ _ _ (dB (zE rfl G.c_TowerError G.t1_TowerError G.t2_TowerError G.t3_TowerError (aA (mv 0) (aA (mv 1) aB)))) (@aH _ _ _ (wD (mv 0) (mv 1) rfl))),?_⟩;walk_at "go";refine⟨ea,[v],Zv,Zz,none,rfl,by show 1<=sizeLine;decide,he,(λ_ z=>nomatch z),G.xc_Short,?_⟩
 walk_at "go";exact⟨ea,Zv,Zz,rfl,G.xc_Short,G.xn_Short_flag,.inl ⟨he,q⟩⟩
def cQN{H1:Hp}{ea dx:Addr}{o' o'':HO}(s:Same H H1)(h1:H1 ea=none)(h2:upd H1 ea o dx=none):Same H (del (upd (upd (upd H1 ea o) ea o') dx o'') ea):=λb u e=>by
 have e1:=s b u e
 have n1:b≠ea:=bG e1 h1
 have n3:dx≠ea:=λz=>by rw[z,aD]at h2;cases h2
 have n2:b≠dx:=λz=>by rw[<-z,aG n1,e1]at h2;cases h2
 rw[fN n1,aG n2,aG n1,aG n1];exact e1
def cQ6{H1:Hp}{ea dx:Addr}{o' o'':HO}(h2:upd H1 ea o dx=none):upd (upd (upd H1 ea o) ea o') dx o'' ea=some o'/\del (upd (upd (upd H1 ea o) ea o') dx o'') ea dx=some o'':=by
 have n3:dx≠ea:=λz=>by rw[z,aD]at h2;cases h2
 exact⟨by rw[aG n3.symm,aD],by rw[fN n3,aD]⟩
structure Lk (kvs:List (Key×V)) (f:Nat->Option Int):Prop where
 nd:(kvs.map (·.1)).Nodup
 ks:∀kv∈kvs,∃(c:Nat) (n:Int),kv=(Sum.inr (one c),V.int n)
 val:∀c,bY kvs (Sum.inr (one c))=(f c).map V.int
def Lk.nil:Lk [] (λ_=>none):=⟨Gf,(λkv h=>nomatch h),λc=>rfl⟩
def key_one{a b:Nat}:((Sum.inr (one a):Key)=Sum.inr (one b)) ↔ a=b:=⟨λh=>one_inj.mp (Sum.inr.inj h),λh=>by rw[h]⟩
def qG:∀ {l:List α} {k:α},l.Nodup->¬k∈l->(l++[k]).Nodup
 |[],k,_,_=>by simp
 |a::r,k,h,hk=>by
  obtain⟨h1,h2⟩:=Cs.mp h;refine Cs.mpr ⟨λm=>?_,qG h2 λm=>hk (Ai _ m)⟩;rcases Bo.mp m with q|q
  ·exact h1 q
  ·exact hk (by rw[Ap.mp q];exact Ak ..)
def cZN{k:Key}(h:bY kvs k=none):¬k∈kvs.map (·.1):=λm=>by
 obtain⟨p,hp,e⟩:=Bb.mp m;have q:(kvs.any λkv=>decide (kv.1=k))=true:=List.any_eq_true.mpr ⟨p,hp,An e⟩
 rw[fG,h]at q;cases q
def yY(kvs:List (Key×V))(k:Key)(v:V)(h:bY kvs k≠none):(cM kvs k v).map (·.1)=kvs.map (·.1):=by
 unfold cM;have e:(kvs.any λkv=>decide (kv.1=k))=true:=by
  rw[fG];cases q:bY kvs k with
  |none=>exact absurd q h
  |some _=>rfl
 rw[if_pos e,Cm];refine Di λkv _=>?_;show (if kv.1=k then (kv.1,v) else kv).1=kv.1
 split<;>rfl
def Lk.put{f:Nat->Option Int}(h:Lk kvs f)(c:Nat)(n:Int):Lk (cM kvs (Sum.inr (one c)) (.int n)) (λd=>if d=c then some n else f d) where
 nd:=by
  cases e:bY kvs (Sum.inr (one c)) with
  |none=>rw[jK _ e,Ar];exact qG h.nd (cZN e)
  |some v=>rw[yY _ _ _ (by rw[e];exact λz=>nomatch z)];exact h.nd
 ks:=λkv hkv=>by
  unfold cM at hkv;split at hkv
  ·obtain⟨kv',h',e⟩:=Bb.mp hkv;obtain⟨c',n',e'⟩:=h.ks kv' h';subst e';dsimp only at e;split at e
   ·exact⟨c',n,e.symm⟩
   ·exact⟨c',n',e.symm⟩
  ·rcases Bo.mp hkv with q|q
   ·exact h.ks kv q
   ·exact⟨c,n,Ap.mp q⟩
 val:=λd=>by
  rw[yN];by_cases e:d=c
  ·rw[if_pos (key_one.mpr e),if_pos e];rfl
  ·rw[if_neg (λz=>e (key_one.mp z)),if_neg e];exact h.val d
def bJD[DecidableEq α]:∀ {l m:List α},l.Nodup->(∀x∈l,x∈m)->l.length<=m.length
 |[],m,_,_=>Cy _
 |a::r,m,h,s=>by
  obtain⟨h1,h2⟩:=Cs.mp h;have q:=bJD (l:=r) (m:=m.erase a) h2 λx hx=>(List.mem_erase_of_ne λz=>h1 (by rw[<-z];exact hx)).mpr (s x (Ai _ hx))
  have ha:=s a (Ak ..)
  rw[List.length_erase_of_mem ha]at q;have:=Hq ha
  rw[Au];omega
def aR(f:Nat->Option Int)(c:Nat):Int:=(f c).getD 0
def kU(c:Nat):Prop:=aX c\/eD c
instance (c:Nat):Decidable (kU c):=inferInstanceAs (Decidable (_\/_))
def bM(n:Nat->Int)(c:Nat):Option Int:=if kU c/\0<n c then some (n c) else none
def nL{m:Nat->Int}(h:∀c,kU c->m c=n c):bM m=bM n:=by
 funext c
 unfold bM;by_cases q:kU c
 ·rw[h c q]
 ·rw[if_neg λz=>q z.1,if_neg λz=>q z.1]
def oM{c:Nat}(hc:kU c)(h:0<=n c):aR (bM n) c=n c:=by
 unfold aR bM;by_cases q:0<n c
 ·rw[if_pos ⟨hc,q⟩];rfl
 ·rw[if_neg λz=>q z.2];show (0:Int)=n c;omega
def Lk.ext{f g:Nat->Option Int}(h:Lk kvs f)(e:f=g):Lk kvs g:=e▸h
def qM(f:Nat->Option Int)(c:Nat):((f c).map V.int).getD (.int 0)=.int (aR f c):=by
 unfold aR;cases f c<;>rfl
def flags_mem{c:Nat}:c∈flagsT.cps.toList ↔ kU c:=vE
def eXH(n:Nat->Int)(i c:Nat):Option Int:=if c∈flagsT.cps.toList.take i/\0<n c then some (n c) else none
def eXF(n:Nat->Int):eXH n 0=λ_=>none:=by
 funext c
 unfold eXH;rw[List.take_zero];exact if_neg λz=>nomatch z.1
def kvL(g:Nat->Int)(L:List Nat):List (Key×V):=L.map λc=>(Sum.inr (one c),V.int (g c))
def bR(n:Nat->Int)(i:Nat):List Nat:=(flagsT.cps.toList.take i).filter λc=>decide (0<n c)
def zO{g:Nat->Int}{L:List Nat}{c:Nat}(h:c∉L):bY (kvL g L) (Sum.inr (one c))=none:=by
 induction L with
 |nil=>rfl
 |cons d r ih=>
  show bY ((Sum.inr (one d),V.int (g d))::kvL g r) _=none
  rw[cE (λz=>h (by rw[key_one.mp z];exact Ak)),ih λz=>h (Ai _ z)]
def flags_nd:flagsT.cps.toList.Nodup:=by decide +kernel
def plainL_mem{c:Nat}:c∈bR n i ↔ c∈flagsT.cps.toList.take i/\0<n c:=by
 unfold bR;rw[Cr,Bw]
def aXS{c:Nat}(h:flagsT.cps.toList[i]?=some c):c∉bR n i:=λz=>by
 have m:=(plainL_mem.mp z).1
 obtain⟨j,hj,e⟩:=Bm.mp m;rw[Bp]at hj;rw[List.getElem_take]at e;obtain⟨hi,e2⟩:=Ae.mp h;have:=(Fh flags_nd).mp (e.trans e2.symm)
 omega
def aZL{c:Nat}(h:flagsT.cps.toList[i]?=some c)(p:0<n c):bR n (i+1)=bR n i++[c]:=by
 unfold bR;rw[Bh,h,Ee];show _++[c].filter _=_
 rw[show [c].filter (λc=>decide (0<n c))=[c] by simp[p]]
def aZQ{c:Nat}(h:flagsT.cps.toList[i]?=some c)(p:¬0<n c):bR n (i+1)=bR n i:=by
 unfold bR;rw[Bh,h,Ee];show _++[c].filter _=_
 rw[show [c].filter (λc=>decide (0<n c))=[] by simp;omega,List.append_nil]
def iX(n:Nat->Int)(i:Nat):(bR n i).length<=27:=by
 unfold bR;exact Ca (Ey ..) (by rw[Bp];exact Ca (Nat.min_le_right ..) (by decide))
def bZA(n:Nat->Int)(i:Nat):(bR n i).Nodup:=(flags_nd.sublist (Hh ..)).filter _
def bQF(g:Nat->Int)(L:List Nat)(d:Nat):Option Int:=if d∈L then some (g d) else none
def cXW(g:Nat->Int){r:List Nat}{c:Nat}(hc:c∉r)(h:Lk (kvL g r) (bQF g r)):Lk (kvL g (r++[c])) (bQF g (r++[c])):=by
 have l:=h.put c (g c)
 rw[jK _ (zO hc)]at l;have e:kvL g (r++[c])=kvL g r++[(Sum.inr (one c),V.int (g c))]:=by unfold kvL;rw[Ar];rfl
 rw[e];refine l.ext ?_;funext d
 unfold bQF;by_cases hd:d=c
 ·subst hd;rw[if_pos rfl,if_pos (Br _ (Ap.mpr rfl))]
 ·rw[if_neg hd];by_cases hr:d∈r
  ·rw[if_pos hr,if_pos (Dv _ hr)]
  ·rw[if_neg hr,if_neg (λz=>(Bo.mp z).elim hr λy=>hd (Ap.mp y))]
def aJD(g:Nat->Int):∀(L r:List Nat),(r++L).Nodup->Lk (kvL g r) (bQF g r)->Lk (kvL g (r++L)) (bQF g (r++L))
 |[],r,_,h=>by rw[Bs];exact h
 |c::L,r,nd,h=>by
  have e:r++c::L=(r++[c])++L:=by rw[Fd];rfl
  have hc:c∉r:=λz=>(Ff.mp nd).2.2 c z c Ak rfl
  rw[e]at nd ⊢;exact aJD g L (r++[c]) nd (cXW g hc h)
def eQT(g:Nat->Int){L:List Nat}(nd:L.Nodup):Lk (kvL g L) (λd=>if d∈L then some (g d) else none):=by
 have r:=aJD g L [] nd (Lk.nil.ext (by funext d;unfold bQF;rw[if_neg (λz=>nomatch z)]))
 exact r
def fU(n:Nat->Int):Lk (kvL n (bR n 27)) (bM n):=by
 refine(eQT n (bZA n 27)).ext ?_;funext d
 unfold bM;have e:d∈bR n 27 ↔ kU d/\0<n d:=by
  rw[plainL_mem,Bk (by decide),flags_mem]
 by_cases h:d∈bR n 27
 ·rw[if_pos h,if_pos (e.mp h)]
 ·rw[if_neg h,if_neg (λz=>h (e.mpr z))]
def cV:Sp:=λvs H Q _=>∃(a:Addr) (kvs:List (Key×V)) (f:Nat->Option Int),vs=[.ref a]/\Rd H a (.dK kvs)/\Lk kvs f/\
 ∀(r:Addr) (H':Hp),H r=none->Same H H'->H' r=some (.dK (kvL (aR f) (bR (aR f) 27)))->Q (.ref r) H'
def sc_plain_locker:FnScope ["locker", "plain", "flag"] ["locker"] (aJ gA):=by walk_at "sc"
def pZ(F:Fun K "plain_locker" "plain_locker" gA f fd)(G:Gs K mg w Zu Zz Zv Zx Z0 Zw Zy):FnOk P w K mg base CX0 1 f fd ["locker"] cV:=by
 refine F.ok sc_plain_locker (λvs H Q E h=>?_) (λcdv A outer s H vs Q E hr h=>?_)
 ·obtain⟨a,kvs,f,rfl,_⟩:=h;rfl
 obtain⟨a,kvs,f,rfl,ha,lk,q⟩:=h;refine⟨_,(@aE _ _ _ _ _ (aO 1 sc_plain_locker.nd oA) (@aE _ _ _ _ _ (dA Bu rfl (sF (eO rfl G.s_FLAGS)) (bE (i:=2) sc_plain_locker.nd rfl (Or.inl rfl)) (@aH _ _ _ (cI (aZ yO (hZ Cc Ed (aZ0 (Room.u1 hr)) (mv 0) (aA (mv 2) (aA aK aB))) aK (aW _)) (@aH _ _ _ (fT (Room.u1 hr) (mv 1) (mv 2) (gP (Room.u1 hr) (mv 0) (mv 2) (λ_ _=>rfl)) rfl)) bK))) (@aH _ _ _ (aY (mv 1))))),?_⟩;walk_at "go";intro p hp;walk_at "go";refine eQX (λi σ H'=>∃(v:Option V),σ=[some (.ref a),some (.ref p),v]/\Same H H'/\H' p=some (.dK (kvL (aR f) (bR (aR f) i))))
  ⟨none,rfl,aF hp _,aD⟩ ?_ ?_
 ·rintro i c σ H2 hc ⟨v,rfl,s2,hH⟩;have hi:i<27:=(Ae.mp hc).1
  have ha2:Rd H2 a (.dK kvs):=ha.elim (λe=>.inl (s2 _ _ e)) λ⟨o,e⟩=>.inr ⟨o,s2 _ _ e⟩
  have hd2:isD H2 a=true:=ha2.elim pD λ⟨o,e⟩=>cZB e
  have hpl:(kvL (aR f) (bR (aR f) i)).length<sizeLine:=bD (by unfold kvL;rw[Ab];have:=iX (aR f) i;omega)
  walk_at "go";refine aJJ (z:=one c) ha2 ?_;rw[lk.val c,qM];walk_at "go";refine gS (λhd=>?_) (λhd=>?_)
  ·have hd':=Bg hd
   obtain⟨n,hn⟩:∃n,f c=some n:=by
    cases e:f c with
    |none=>rw[show aR f c=0 by unfold aR;rw[e];rfl]at hd';omega
    |some n=>exact⟨n,rfl⟩
   have hcn:aR f c=n:=by unfold aR;rw[hn];rfl
   walk_at "go";refine sN (z:=one c) ha2 (by rw[lk.val c,hn];rfl) ?_
   walk_at "go";refine iI (z:=one c) hH hpl ?_;refine⟨_,rfl,bL hp s2,?_⟩;rw[aD,jK _ (zO (aXS hc)),aZL hc (by omega)]
   unfold kvL;rw[Ar,<-hcn];rfl
  ·have hd':=Cf (Cd.mpr hd)
   walk_at "go";exact⟨_,rfl,s2,by rw[hH,aZQ hc (by omega)]⟩
 ·rintro σ H2 ⟨v,rfl,s2,hH⟩;walk_at "go";exact q p H2 hp s2 hH
def cnt(cs:List Nat)(c:Nat):Int:=((cs.countP (· == c):Nat):Int)
def mZ{c:Nat}(h:cs[i]?=some c)(d:Nat):cnt (cs.take (i+1)) d=cnt (cs.take i) d+if d=c then 1 else 0:=by
 unfold cnt;rw[Bh,h,List.countP_append];show (((cs.take i).countP (· == d)+[c].countP (· == d):Nat):Int)=_
 by_cases e:d=c
 ·subst e;rw[if_pos rfl,List.countP_cons,List.countP_nil,if_pos (by simp)]
  push_cast
  rfl
 ·rw[if_neg e,List.countP_cons,List.countP_nil,if_neg (by simp;exact λz=>e z.symm)]
  push_cast
  rfl
def eQZ{c:Nat}(h:cs[i]?=some c):cnt (cs.take i) c+1<=cnt cs c:=by
 have e:=mZ h c
 rw[if_pos rfl]at e;rw[<-e];unfold cnt;have:(cs.take (i+1)).countP (· == c)<=cs.countP (· == c):=List.Sublist.countP_le (Hh _ _)
 omega
def tJ(f:Nat->Option Int)(cs:List Nat)(k:Nat):Prop:=∀j d,j<k->cs[j]?=some d->cnt (cs.take j) d<aR f d
def uW{f:Nat->Option Int}(c:Nat)(h0:0<=aR f c):∀ {k:Nat},tJ f cs k->cnt (cs.take k) c<=aR f c
 |0,_=>by rw[List.take_zero];exact h0
 |k+1,h=>by
  have ih:=uW c h0 (k:=k) λj d hj=>h j d (by omega)
  cases e:cs[k]? with
  |none=>rw[List.take_add_one,e];simpa using ih
  |some d=>
   rw[mZ e];have hd:=h k d (by omega) e
   by_cases z:c=d
   ·subst z;rw[if_pos rfl];omega
   ·rw[if_neg z];omega
def zG(aC:Addr):Sp:=λvs H Q E=>∃(a b:Addr) (kvs:List (Key×V)) (f:Nat->Option Int) (cs:List Nat),vs=[.ref a,.ref b]/\H a=some (.dK kvs)/\Lk kvs f/\(∀c,0<=aR f c)/\rdL H b=some ((cs.map one).map V.str)/\cs.length<=1000/\(∀c∈cs,kU c)/\
 (tJ f cs cs.length->∀(r:Addr) (kws:List (Key×V)) (H':Hp),H r=none->Same H H'->H' r=some (.dK kws)->Lk kws (bM λc=>aR f c-cnt cs c)->Q (.ref r) H')/\
 (∀i c,cs[i]?=some c->tJ f cs i->aR f c<=cnt (cs.take i) c->∀(dx:Addr) (H':Hp),Same H H'->H' dx=some (xdO dx [("flag",.str (one c))])->E (.ref aC) (some dx) H')
def sc_taken:FnScope ["locker", "flags", "left", "flag"] ["locker", "flags"] (aJ wL):=by walk_at "sc"
def bJ6(F:Fun K "taken" "taken" wL f fd)(G:Gs K mg w Zu Zz Zv Zx Z0 Zw Zy)(c_plain_locker:Cal P w K mg base 1 "plain_locker" ["locker"] cV)(c_Short_init:bJV P w K mg base 1 Zv ["self", "flag"] (lC Zv)):FnOk P w K mg base (CXr P w) 3 f fd ["locker", "flags"] (zG Zv):=by
 refine F.okX sc_taken (λvs H Q E h=>?_) (λcdv A outer s H vs Q E hr h=>?_)
 ·obtain⟨a,b,kvs,f,cs,rfl,_⟩:=h;rfl
 obtain⟨a,b,kvs,f,cs,rfl,ha,lk,hf0,hb,hcs,hfl,q,qe⟩:=h;refine⟨_,(@aE _ _ _ _ _ (aO 2 sc_taken.nd (aU c_plain_locker hr (by decide) rfl (aA (mv 0) aB))) (@aE _ _ _ _ _ (dA PassesOwn.leaving rfl (bX (mv 1)) (bE (i:=3) sc_taken.nd rfl (Or.inl rfl)) (@aE _ _ _ _ _ (cI (aZ oJ (hZ Cc Ed (aZ0 (Room.u1 hr)) (mv 2) (aA (mv 3) (aA aK aB))) aK (aW _)) (@aH _ _ _ (uX nW rfl rfl rfl G.c_Short G.xm_Short c_Short_init hr (by decide) (aA (mv 3) aB))) bK) (@aH _ _ _ (fT (Room.u1 hr) (mv 2) (mv 3) (aS kW (gP (Room.u1 hr) (mv 2) (mv 3) (λ_ _=>rfl)) aK) rfl)))) (@aH _ _ _ (aY (aU c_plain_locker hr (by decide) rfl (aA (mv 2) aB)))))),?_⟩
 walk_at "go";refine⟨a,kvs,f,rfl,.inl ha,lk,λp H1 hp s1 hp1=>?_⟩;have lw:Lk (kvL (aR f) (bR (aR f) 27)) _:=fU (aR f)
 have hwl:(kvL (aR f) (bR (aR f) 27)).length<=27:=by unfold kvL;rw[Ab];exact iX _ _
 generalize kvL (aR f) (bR (aR f) 27)=kws at hp1 lw hwl;have hb1:=aI s1 hb
 walk_at "go";refine gN (xs:=(cs.map one).map V.str) (λi σ H'=>∃(kvs':List (Key×V)) (g:Nat->Option Int) (v:Option V),σ=[some (.ref a),some (.ref b),some (.ref p),v]/\Same H H'/\H' p=some (.dK kvs')/\Lk kvs' g/\(∀c,aR g c=aR (bM (aR f)) c-cnt (cs.take i) c)/\kvs'.length<=27+i/\tJ f cs i)
  ⟨kws,_,_,rfl,s1,hp1,lw,λc=>by rw[List.take_zero];show _=_-((0:Nat):Int);omega,by omega,λj d hj=>by omega⟩ (λi σ H' _ ⟨_,_,_,_,e,_⟩=>aI e hb) ?_ ?_
 ·rintro i x σ H2 hx ⟨kvs',g,v,rfl,s2,hH,lg,hg,hl,hen⟩;have hi:i<cs.length:=by have:=(Ae.mp hx).1;rw[Ab,Ab]at this;exact this
  obtain⟨c,hc⟩:∃c,cs[i]?=some c:=⟨_,Aa hi⟩;obtain rfl:x=V.str (one c):=by rw[Af,Af,hc]at hx;cases hx;rfl
  have hpl:kvs'.length<sizeLine:=bD (by omega)
  have hfc:=hfl c (Am hc)
  have hgc:=hg c
  rw[oM hfc (hf0 c)]at hgc;have hle:=uW c (hf0 c) hen
  walk_at "go";refine aJJ (z:=one c) (.inl hH) ?_;rw[lg.val c,qM];walk_at "go";refine gS (λhd=>?_) (λhd=>?_)
  ·have hd':=Bg hd
   walk_at "go";refine⟨by show 1<=sizeLine;decide,λea hea=>⟨ea,_,rfl,aD,λdx hdx=>⟨rfl,some dx,(cQ6 hdx).1,?_⟩⟩⟩
   exact qe i c hc hen (by omega) dx _ (cQN s2 hea hdx) (cQ6 hdx).2
  ·have hd':=Cf (Cd.mpr hd)
   obtain⟨n,hn⟩:∃n,g c=some n:=by
    cases e:g c with
    |none=>exact absurd (show aR g c=0 by unfold aR;rw[e];rfl) hd'
    |some n=>exact⟨n,rfl⟩
   have hcn:aR g c=n:=by unfold aR;rw[hn];rfl
   walk_at "go";refine sN (z:=one c) (.inl hH) (by rw[lg.val c,hn];rfl) ?_
   walk_at "go";refine iI (z:=one c) hH hpl ?_;refine⟨_,_,_,rfl,bL hp s2,aD,lg.put c (n-1),λd=>?_,by have:=dE kvs' (Sum.inr (one c)) (.int (n-1));omega,λj d hj hjd=>?_⟩
   ·rw[mZ hc];have:=hg d
    by_cases e:d=c
    ·subst e;show ((if d=d then some (n-1) else g d):Option Int).getD 0=_
     rw[if_pos rfl,if_pos rfl];show n-1=_
     omega
    ·show ((if d=c then some (n-1) else g d):Option Int).getD 0=_
     rw[if_neg e,if_neg e];show aR g d=_
     omega
   ·by_cases e:j=i
    ·subst e;rw[hc]at hjd;cases hjd;omega
    ·exact hen j d (by omega) hjd
 ·rintro σ H2 ⟨kvs',g,v,rfl,s2,hH,lg,hg,hl,hen⟩;have ecs:((cs.map one).map V.str).length=cs.length:=by rw[Ab,Ab]
  rw[ecs]at hg hl hen;walk_at "go";refine⟨p,kvs',g,rfl,.inl hH,lg,λr H3 hr s3 hr3=>?_⟩;have l3:Lk (kvL (aR g) (bR (aR g) 27)) _:=fU (aR g)
  generalize kvL (aR g) (bR (aR g) 27)=kws' at hr3 l3;refine q hen r kws' H3 (none_of s2 hr) (s2.trans s3) hr3 (l3.ext (nL λc hc=>?_));rw[hg c,oM hc (hf0 c),Bk (Aj _)]
def vG:Sp:=λvs H Q _=>∃(a b:Addr) (kvs:List (Key×V)) (f:Nat->Option Int) (cs:List Nat),vs=[.ref a,.ref b]/\H a=some (.dK kvs)/\Lk kvs f/\(∀c,0<=aR f c)/\rdL H b=some ((cs.map one).map V.str)/\cs.length<=1000/\
 ∀(r:Addr) (kws:List (Key×V)) (H':Hp),H r=none->Same H H'->H' r=some (.dK kws)->Lk kws (bM λc=>aR f c+cnt cs c)->Q (.ref r) H'
def sc_put_in:FnScope ["locker", "flags", "more", "flag"] ["locker", "flags"] (aJ sY):=by walk_at "sc"
def bQ6(F:Fun K "put_in" "put_in" sY f fd)(G:Gs K mg w Zu Zz Zv Zx Z0 Zw Zy)(c_plain_locker:Cal P w K mg base 1 "plain_locker" ["locker"] cV):FnOk P w K mg base CX0 2 f fd ["locker", "flags"] vG:=by
 refine F.ok sc_put_in (λvs H Q E h=>?_) (λcdv A outer s H vs Q E hr h=>?_)
 ·obtain⟨a,b,kvs,f,cs,rfl,_⟩:=h;rfl
 obtain⟨a,b,kvs,f,cs,rfl,ha,lk,hf0,hb,hcs,q⟩:=h;refine⟨_,(@aE _ _ _ _ _ (aO 2 sc_put_in.nd (aU c_plain_locker hr (by decide) rfl (aA (mv 0) aB))) (@aE _ _ _ _ _ (dA Bu rfl (bX (mv 1)) (bE (i:=3) sc_put_in.nd rfl (Or.inl rfl)) (@aH _ _ _ (fT (Room.u1 hr) (mv 2) (mv 3) (aS bW (hZ Cc Ed (aZ0 (Room.u1 hr)) (mv 2) (aA (mv 3) (aA aK aB))) aK) rfl))) (@aH _ _ _ (aY (aU c_plain_locker hr (by decide) rfl (aA (mv 2) aB)))))),?_⟩
 walk_at "go";refine⟨a,kvs,f,rfl,.inl ha,lk,λp H1 hp s1 hp1=>?_⟩;have lw:Lk (kvL (aR f) (bR (aR f) 27)) _:=fU (aR f)
 have hwl:(kvL (aR f) (bR (aR f) 27)).length<=27:=by unfold kvL;rw[Ab];exact iX _ _
 generalize kvL (aR f) (bR (aR f) 27)=kws at hp1 lw hwl;have hb1:=aI s1 hb
 walk_at "go";refine gN (xs:=(cs.map one).map V.str) (λi σ H'=>∃(kvs':List (Key×V)) (g:Nat->Option Int) (v:Option V),σ=[some (.ref a),some (.ref b),some (.ref p),v]/\Same H H'/\H' p=some (.dK kvs')/\Lk kvs' g/\(∀c,aR g c=aR (bM (aR f)) c+cnt (cs.take i) c)/\kvs'.length<=27+i)
  ⟨kws,_,_,rfl,s1,hp1,lw,λc=>by rw[List.take_zero];show _=_+((0:Nat):Int);omega,by omega⟩ (λi σ H' _ ⟨_,_,_,_,e,_⟩=>aI e hb) ?_ ?_
 ·rintro i x σ H2 hx ⟨kvs',g,v,rfl,s2,hH,lg,hg,hl⟩;have hi:i<cs.length:=by have:=(Ae.mp hx).1;rw[Ab,Ab]at this;exact this
  obtain⟨c,hc⟩:∃c,cs[i]?=some c:=⟨_,Aa hi⟩;obtain rfl:x=V.str (one c):=by rw[Af,Af,hc]at hx;cases hx;rfl
  have hpl:kvs'.length<sizeLine:=bD (by omega)
  walk_at "go";refine aJJ (z:=one c) (.inl hH) ?_;rw[lg.val c,qM];walk_at "go";refine iI (z:=one c) hH hpl ?_;refine⟨_,_,_,rfl,bL hp s2,aD,lg.put c (aR g c+1),λd=>?_,by have:=dE kvs' (Sum.inr (one c)) (.int (aR g c+1));omega⟩
  rw[mZ hc];have:=hg d
  by_cases e:d=c
  ·subst e;show ((if d=d then some (aR g d+1) else g d):Option Int).getD 0=_
   rw[if_pos rfl,if_pos rfl];show aR g d+1=_
   omega
  ·show ((if d=c then some (aR g c+1) else g d):Option Int).getD 0=_
   rw[if_neg e,if_neg e];show aR g d=_
   omega
 ·rintro σ H2 ⟨kvs',g,v,rfl,s2,hH,lg,hg,hl⟩;walk_at "go";refine⟨p,kvs',g,rfl,.inl hH,lg,λr H3 hr s3 hr3=>?_⟩;refine q r _ H3 (none_of s2 hr) (s2.trans s3) hr3 ((fU (aR g)).ext (nL λc hc=>?_));rw[hg c,oM hc (hf0 c),Bk (by rw[Ab,Ab];exact Aj _)]
def lN:Sp:=λvs H Q _=>∃(cw:List Nat) (k:Nat) (p:Int),vs=[.str (aQ cw),.int p]/\p=(k:Int)+1/\k<cw.length/\cw.length<=7/\
 ∀(r:Addr) (H':Hp),H r=none->Same H H'->H' r=some (.lst (((chs cw k).map one).map V.str))->Q (.ref r) H'
def cJG(G:Nat->Option β)(k:Nat):[0,1,2,3].filterMap (λn=>if n<k then G n else none)=(List.range (min k 4)).filterMap G:=by
 match k with
 |0=>rfl
 |1=>rfl
 |2=>rfl
 |3=>rfl
 |k+4=>
  rw[Fn (by omega)]
  exact iA λn hn=>if_pos (by simp only[List.mem_cons,List.not_mem_nil,or_false]at hn;omega)
def atF(cw:List Nat)(k:Nat)(c:Nat):Option V:=if c-49<k then (if cw.getD (c-49) 0=cw.getD k 0 then some (.str (one c)) else none) else none
def eXO(cw:List Nat)(k:Nat):subsT.cps.toList.filterMap (atF cw k)=(((List.range (min k 4)).filterMap (chF cw k)).map one).map V.str:=by
 rw[aZN,show [49,50,51,52]=[0,1,2,3].map (49+·) from rfl,Gy,Cm,List.map_filterMap,<-cJG];refine iA λn _=>?_;show atF cw k (49+n)=_
 unfold atF chF;rw[show 49+n-49=n by omega]
 by_cases h1:n<k
 ·rw[if_pos h1,if_pos h1];by_cases h2:cw.getD n 0=cw.getD k 0
  ·rw[if_pos h2,if_pos h2];rfl
  ·rw[if_neg h2,if_neg h2];rfl
 ·rw[if_neg h1,if_neg h1]
def sc_choices_at:FnScope ["word", "place", "letter", "above"] ["word", "place"] (aJ fR):=by walk_at "sc"
def uK(F:Fun K "choices_at" "choices_at" fR f fd)(G:Gs K mg w Zu Zz Zv Zx Z0 Zw Zy):FnOk P w K mg base CX0 1 f fd ["word", "place"] lN:=by
 refine F.ok sc_choices_at (λvs H Q E h=>?_) (λcdv A outer s H vs Q E hr h=>?_)
 ·obtain⟨cw,k,p,rfl,_⟩:=h;rfl
 obtain⟨cw,k,pl,rfl,hpl,hk,h7,q⟩:=h;refine⟨_,(@aE _ _ _ _ _ (aO 2 sc_choices_at.nd (bF bV (mv 0) (aS kW (mv 1) aK) (λ_ _=>rfl))) (@aE _ _ _ _ _ (eM (i:=3) sc_choices_at.nd rfl (Or.inl rfl) rfl (sF (eO rfl G.s_SUBSTITUTES)) (eF (N:=["sign", "place", "letter", "word"]) ["word", "place", "letter", "above"] (aJ fR) [none,some 1,some 2,some 0] rfl rfl rfl (λx h=>bO h) (by decide +kernel)) (by decide +kernel) rfl (by decide +kernel) (λ_ _ _ _=>(bE (i:=0) (show List.Nodup (["sign", "place", "letter", "word"]:List Str) by decide +kernel) rfl (Or.inl rfl))) (λ_ _ _ _=>(iO (PW.pt (rO (aZ xN (cB aJB rfl G.b_int xE (aA (mv 0) aB)) (mv 1) (aW _)) (wJ (aZ oJ (bF bV (mv 3) (aS kW (cB aJB rfl G.b_int xE (aA (mv 0) aB)) aK) (λ_ _=>rfl)) (mv 2) (aW _))))))) (λ_ _ _ _=>(mv 0))) (@aH _ _ _ (aY (aS bW (cG (aA (mv 2) aB)) (mv 3)))))),?_⟩
 have hwl:(aQ cw).length=cw.length:=dG cw
 walk_at "go";refine zA (by rw[hwl];exact bJ (by omega)) (aJ2 (k:=k) (by omega) hk) ?_
 walk_at "go";refine bZI (atF cw k) (bD (by decide)) (λi c Hc A B hc' hA=>?_) (λD hD=>?_)
 ·have hs:eD c:=mem_subs.mp (Am hc')
  have h49:49<=c:=hs.1
  walk_at "go";refine⟨Wk.set rfl (Wk.refl _),?_⟩;walk_at "go";refine yC (qQ hs) (by show 1<=640;decide) ?_
  walk_at "go";unfold atF at hA;refine gS (λhd=>?_) (λhd=>?_)
  ·have hd':=Bg hd
   have hck:c-49<k:=by omega
   rw[if_pos hck]at hA;walk_at "go";refine yC (qQ hs) (by show 1<=640;decide) ?_
   walk_at "go";refine zA (by rw[hwl];exact bJ (by omega)) (aJ2 (k:=c-49) (by omega) (by omega)) ?_
   walk_at "go";rw[show decide (({cps:=#[cw.getD (c-49) 0]}:Str)={cps:=#[cw.getD k 0]})=decide (cw.getD (c-49) 0=cw.getD k 0) from aJG _ _];by_cases he:cw.getD (c-49) 0=cw.getD k 0
   ·rw[An he];rw[if_pos he]at hA;walk_at "go";exact hA
   ·rw[Aw he];rw[if_neg he]at hA;walk_at "go";exact hA
  ·have hd':=Cf (Cd.mpr hd)
   have hck:¬c-49<k:=by omega
   rw[if_neg hck]at hA;walk_at "go";exact hA
 ·rw[show (Str.ofString "1234").cps.toList.filterMap (atF cw k)=_ from eXO cw k];walk_at "go";refine⟨by show 1<=sizeLine;decide,λp hp=>?_⟩
  have hDp:D≠p:=λz=>by rw[z,aD]at hp;cases hp
  have hp0:H p=none:=by rw[aG (Ne.symm hDp)]at hp;exact hp
  have hlen:((((List.range (min k 4)).filterMap (chF cw k)).map one).map V.str).length<=4:=by
   have:=Dd (chF cw k) (List.range (min k 4))
   rw[Bq]at this;rw[Ab,Ab];omega
  walk_at "go";refine jN (xs:=[V.str (one (cw.getD k 0))]) (ys:=(((List.range (min k 4)).filterMap (chF cw k)).map one).map V.str) cX (by rw[nQ hDp];exact cX) (bJ (by show 1+_<=_;omega)) λr hr=>?_
  have hr0:H r=none:=by
   by_cases z:r=p
   ·rw[z];exact hp0
   ·rw[aG z]at hr;by_cases z2:r=D
    ·rw[z2];exact hD
    ·rw[aG z2]at hr;exact hr
  walk_at "go";exact q r _ hr0 ((aF hD _).trans ((aF hp _).trans (aF hr _))) aD
def aZO(cws:List (List Nat))(k:Nat):List (List V):=(List.range (cws.getD k []).length).map λj:Nat=>[V.int (k:Int),V.int (1+(j:Int))]
def lS(cws:List (List Nat))(i:Nat):List (List V):=((List.range i).map (aZO cws)).flatten
def jQ(cws:Q6)(i:Nat):lS cws (i+1)=lS cws i++aZO cws i:=by
 unfold lS;rw[Cv,Ar,List.flatten_append];simp
def cQF{k:Nat}(h7:∀c∈cws,c.length<=7):(aZO cws k).length<=7:=by
 unfold aZO;rw[Ab,Bq,Ac];cases e:cws[k]? with
 |none=>exact Cy _
 |some c=>exact h7 c (Am e)
def mD(h7:∀c∈cws,c.length<=7):∀i,(lS cws i).length<=7*i
 |0=>Aj _
 |i+1=>by
  rw[jQ,Ah];have:=mD h7 i
  have:=cQF (k:=i) h7
  omega
def yZ{x:V}(h:((cws.map aQ).map V.str)[i]?=some x):∃c,cws[i]?=some c/\c∈cws/\x=.str (aQ c):=by
 rw[Af,Af]at h;cases e:cws[i]? with
 |none=>rw[e]at h;cases h
 |some c=>rw[e]at h;cases h;exact⟨c,rfl,Am e,rfl⟩
def pN:Sp:=λvs H Q _=>∃(a:Addr) (cws:List (List Nat)),vs=[.ref a]/\rdL H a=some ((cws.map aQ).map V.str)/\cws.length<=8/\(∀c∈cws,c.length<=7)/\
 ∀(r:Addr) (ps:List Addr) (H':Hp),H r=none->Same H H'->H' r=some (.lst (ps.map V.ref))->Tups H H' ps (lS cws cws.length)->Q (.ref r) H'
def sc_wants_of:FnScope ["words", "wants", "number", "word"] ["words"] (aJ iG):=by walk_at "sc"
def zV(F:Fun K "wants_of" "wants_of" iG f fd)(G:Gs K mg w Zu Zz Zv Zx Z0 Zw Zy):FnOk P w K mg base CX0 1 f fd ["words"] pN:=by
 refine F.ok sc_wants_of (λvs H Q E h=>?_) (λcdv A outer s H vs Q E hr h=>?_)
 ·obtain⟨a,cws,rfl,_⟩:=h;rfl
 obtain⟨a,cws,rfl,ha,h8,h7,q⟩:=h;refine⟨_,(@aE _ _ _ _ _ (aO 1 sc_wants_of.nd (cG aB)) (@aE _ _ _ _ _ (dA Bu rfl (wH rfl G.b_enumerate (aA (mv 0) aB)) (fA (K:=K) (i:=2) (j:=3) (by rfl) (by rfl) sc_wants_of.nd (by rfl) (by exact(Or.inr rfl)) (by exact Or.inl rfl) (by rfl) (by exact(Or.inl rfl)) (by exact Or.inl rfl)) (@aH _ _ _ (dB (bN By Gq Gr cQW (mv 1) (aA (cL rfl (bX5 rfl G.b_range (aA aK (aA (aS bW (aP bS rfl G.b_len bH (aA (mv 3) aB)) aK) aB))) (eF (N:=["place", "number"]) ["words", "wants", "number", "word"] (aJ iG) [none,some 2] rfl rfl rfl (λx h=>bO h) (by decide +kernel)) (by decide +kernel) rfl (by decide +kernel) (λ_ _ _ _=>(bE (i:=0) (show List.Nodup (["place", "number"]:List Str) by decide +kernel) rfl (Or.inl rfl))) (λ_ _ _ _=>cQ) (λ_ _ _ _=>(tM (aA (mv 1) (aA (mv 0) aB))))) aB))))) (@aH _ _ _ (aY (mv 1))))),?_⟩
 walk_at "go";refine⟨by decide,λp hp=>?_⟩
 have ha1:=aI (aF hp (HO.lst [])) ha
 walk_at "go";refine aJO (xs:=(cws.map aQ).map V.str) (λi σ H'=>∃(ps:List Addr) (v1 v2:Option V),σ=[some (.ref a),some (.ref p),v1,v2]/\Same H H'/\H' p=some (.lst (ps.map V.ref))/\Tups H H' ps (lS cws i))
  ⟨[],_,_,rfl,aF hp _,aD,.nil⟩ (λj σ H' _ ⟨_,_,_,_,e,_⟩=>aI e ha) ?_ ?_
 ·rintro i x σ H2 pt hx ⟨ps,v1,v2,rfl,s2,hH,tp⟩ hpt;have hi:i<cws.length:=by have:=(Ae.mp hx).1;rw[Ab,Ab]at this;exact this
  obtain⟨cw,hcw,hm,rfl⟩:=yZ hx;have hc7:=h7 cw hm
  have hwl:(aQ cw).length=cw.length:=dG cw
  walk_at "go";rw[hwl];refine⟨⟨by omega,by omega,by omega,by omega⟩,?_⟩
  rw[show ((cw.length:Int)+1-1).toNat=cw.length by omega]
  have s3:=s2.trans (aF hpt (HO.tup [V.int ((0+i:Nat):Int),V.str (aQ cw)]))
  have hH3:=aF hpt (HO.tup [V.int ((0+i:Nat):Int),V.str (aQ cw)]) _ _ hH
  have tp3:=tp.keep (aF hpt (HO.tup [V.int ((0+i:Nat):Int),V.str (aQ cw)]))
  generalize upd H2 pt (HO.tup [V.int ((0+i:Nat):Int),V.str (aQ cw)])=H3 at s3 hH3 tp3 ⊢;refine bQU (λj=>[V.int ((0+i:Nat):Int),V.int (1+(j:Int))]) (bD (by omega)) (λj Hc A B hj hs hA=>?_) (λD Hd qs hD sD hDd hqn tq=>?_)
  ·walk_at "go";refine⟨Wk.set rfl (Wk.refl _),?_⟩;walk_at "go";exact⟨by show 2<=sizeLine;decide,λpp hpp=>hA pp _ hpp (aF hpp _) aD⟩
  ·have hpd:=sD _ _ hH3
   have hpl:ps.length<=7*i:=by rw[tp.1];exact mD h7 i
   have e:(List.range cw.length).map (λj:Nat=>[V.int ((0+i:Nat):Int),V.int (1+(j:Int))])=aZO cws i:=by
    unfold aZO;rw[Ac,hcw,Nat.zero_add];rfl
   rw[e]at tq;walk_at "go";refine⟨ps++qs,_,_,rfl,bL hp (s3.trans sD),by rw[aD,Ar],?_⟩
   rw[jQ];exact((tp3.keep sD).app (tq.older s3)).put hpd
 ·rintro σ H2 ⟨ps,v1,v2,rfl,s2,hH,tp⟩;walk_at "go";rw[show ((cws.map aQ).map V.str).length=cws.length by rw[Ab,Ab]]at tp
  exact q p ps H2 hp s2 hH tp
def gI(cws:List (List Nat))(i:Nat):Nat:=((cws.take i).map List.length).sum
def fO(cws:List (List Nat))(cs:List Nat)(i:Nat):List V:=(((cs.drop (gI cws i)).take (cws.getD i []).length).map one).map V.str
def uS(h:cws[i]?=some cw):gI cws (i+1)=gI cws i+cw.length:=by
 unfold gI;rw[Bh,h,Ar,List.sum_append];simp
def cJ9(hj:i<=j):nX xs (some (i:Int)) (some (j:Int))=(xs.drop i).take (j-i):=by
 unfold nX;show (xs.drop (if (i:Int)<0 then ((i:Int)+(xs.length:Int)).toNat else min (i:Int).toNat xs.length)).take ((if (j:Int)<0 then ((j:Int)+(xs.length:Int)).toNat else min (j:Int).toNat xs.length)-(if (i:Int)<0 then ((i:Int)+(xs.length:Int)).toNat else min (i:Int).toNat xs.length))=_
 rw[if_neg (by omega),if_neg (by omega),Ds,Ds]
 by_cases h1:i<=xs.length
 ·rw[Ft h1];by_cases h2:j<=xs.length
  ·rw[Ft h2]
  ·rw[Fn (by omega),Bk (by rw[Cw];omega),Bk (by rw[Cw];omega)]
 ·rw[Fn (show xs.length<=i by omega),Hm (Aj _),Hm (by omega),List.take_nil,List.take_nil]
def oB:Sp:=λvs H Q _=>∃(a b:Addr) (cws:List (List Nat)) (cs:List Nat),vs=[.ref a,.ref b]/\rdL H a=some ((cws.map aQ).map V.str)/\rdL H b=some ((cs.map one).map V.str)/\cws.length<=8/\(∀c∈cws,c.length<=7)/\
 ∀(r:Addr) (ps:List Addr) (H':Hp),H r=none->Same H H'->H' r=some (.lst (ps.map V.ref))->(∀p∈ps,p≠r)->Lsts H H' ps ((List.range cws.length).map (fO cws cs))->Q (.ref r) H'
def sc_hoists_of:FnScope ["words", "flags", "hoists", "start", "word", "end"] ["words", "flags"] (aJ jJ):=by walk_at "sc"
def xQ(F:Fun K "hoists_of" "hoists_of" jJ f fd)(G:Gs K mg w Zu Zz Zv Zx Z0 Zw Zy):FnOk P w K mg base CX0 1 f fd ["words", "flags"] oB:=by
 refine F.ok sc_hoists_of (λvs H Q E h=>?_) (λcdv A outer s H vs Q E hr h=>?_)
 ·obtain⟨a,b,cws,cs,rfl,_⟩:=h;rfl
 obtain⟨a,b,cws,cs,rfl,ha,hb,h8,h7,q⟩:=h;refine⟨_,(@aE _ _ _ _ _ (aO 2 sc_hoists_of.nd (cG aB)) (@aE _ _ _ _ _ (aO 3 sc_hoists_of.nd aK) (@aE _ _ _ _ _ (dA Bu rfl (bX (mv 0)) (bE (i:=4) sc_hoists_of.nd rfl (Or.inl rfl)) (@aE _ _ _ _ _ (aO 5 sc_hoists_of.nd (aS bW (mv 3) (aP bS rfl G.b_len bH (aA (mv 4) aB)))) (@aE _ _ _ _ _ (dB (bN By Df Dg qW (mv 2) (aA (cB lZ rfl G.b_list eY (aA (gG aXN (mv 1) (eJ (mv 3)) (eJ (mv 5))) aB)) aB))) (@aH _ _ _ (aO 3 sc_hoists_of.nd (mv 5)))))) (@aH _ _ _ (aY (mv 2)))))),?_⟩;have hll:((cws.map aQ).map V.str).length=cws.length:=by rw[Ab,Ab]
 walk_at "go";refine⟨by decide,λp hp=>?_⟩
 have ha1:=aI (aF hp (HO.lst [])) ha
 walk_at "go";refine gN (xs:=(cws.map aQ).map V.str) (λi σ H'=>∃(ps:List Addr) (v4 v5:Option V),σ=[some (.ref a),some (.ref b),some (.ref p),some (.int ((gI cws i:Nat):Int)),v4,v5]/\Same H H'/\H' p=some (.lst (ps.map V.ref))/\(∀x∈ps,x≠p)/\ps.length=i/\Lsts H H' ps ((List.range i).map (fO cws cs)))
  ⟨[],_,_,rfl,aF hp _,aD,(λx hx=>nomatch hx),rfl,.nil⟩ (λj σ H' _ ⟨_,_,_,_,e,_⟩=>aI e ha) ?_ ?_
 ·rintro i x σ H2 hx ⟨ps,v4,v5,rfl,s2,hH,hne,hpl,tp⟩;have hi:i<cws.length:=by have:=(Ae.mp hx).1;rw[hll]at this;exact this
  obtain⟨cw,hcw,hm,rfl⟩:=yZ hx;have hc7:=h7 cw hm
  have hwl:(aQ cw).length=cw.length:=dG cw
  have hb2:=aI s2 hb
  walk_at "go";rw[hwl];intro r1 hr1;rw[show ((gI cws i:Nat):Int)+((cw.length:Nat):Int)=((gI cws i+cw.length:Nat):Int) by push_cast;rfl,cJ9 (by omega),show gI cws i+cw.length-gI cws i=cw.length by omega]
  have hrow_e:(((cs.map one).map V.str).drop (gI cws i)).take cw.length=fO cws cs i:=by
   unfold fO;rw[Ac,hcw,Dy,Dy,Eg,Eg];rfl
  rw[hrow_e];walk_at "go";intro r2 hr2;have hp1:r2≠p:=λz=>by
   have:=aF hr1 (HO.lst (fO cws cs i)) _ _ hH
   rw[<-z,hr2]at this;cases this
  have s3:Same H2 (upd (upd H2 r1 (HO.lst (fO cws cs i))) r2 (HO.lst (fO cws cs i))):=(aF hr1 _).trans (aF hr2 _)
  have hr3:(upd (upd H2 r1 (HO.lst (fO cws cs i))) r2 (HO.lst (fO cws cs i))) r2=some (.lst (fO cws cs i)):=aD
  have hr20:H2 r2=none:=none_of (aF hr1 _) hr2
  generalize upd (upd H2 r1 (HO.lst (fO cws cs i))) r2 (HO.lst (fO cws cs i))=H3 at s3 hr3 ⊢;have hH3:=s3 _ _ hH
  have hm3:=cC hH3
  walk_at "go";have hne2:∀x∈ps++[r2],x≠p:=λx hx=>by
   rcases Bo.mp hx with e|e
   ·exact hne x e
   ·rw[Ap.mp e];exact hp1
  refine⟨ps++[r2],some (.str (aQ cw)),some (.int ((gI cws i+cw.length:Nat):Int)),?_,bL hp (s2.trans s3),by rw[aD,Ar];rfl,hne2,by rw[Ah,hpl];rfl,?_⟩
  ·rw[uS hcw];rfl
  ·rw[Cv,Ar];exact((tp.keep s3).snoc (none_of s2 hr20) hr3).put hne2
 ·rintro σ H2 ⟨ps,v4,v5,rfl,s2,hH,hne,hpl,tp⟩;walk_at "go";rw[hll]at tp;exact q p ps H2 hp s2 hH hne tp
def aQ6:FnScope ["text"] ["text"] (aJ oP):=by walk_at "sc"
def aZF(F:Fun K "is_flag" "is_flag" oP f fd)(G:Gs K mg w Zu Zz Zv Zx Z0 Zw Zy):FnOk P w K mg base CX0 1 f fd ["text"] rN:=by
 refine F.ok aQ6 (λvs H Q E h=>?_) (λcdv A outer s H vs Q E hr h=>?_)
 ·obtain⟨z,rfl,_⟩:=h;rfl
 obtain⟨z,rfl,hl,q⟩:=h;refine⟨_,(@aH _ _ _ (aY (aZA (eG oJ (aP bS rfl G.b_len bH (aA (mv 0) aB)) aK (aW _)) (xZ (eG aJV (mv 0) (eO rfl G.s_FLAGS) (by rfl)))))),?_⟩
 walk_at "go";refine gS (λhc=>?_) (λhc=>?_)
 ·have e:iN z=subIn z flagsT:=if_pos (by have:=Bg hc;omega)
  rw[e]at q;walk_at "go";exact q
 ·have e:iN z=false:=pT (by have:=Cf (Cd.mpr hc);omega)
  rw[e]at q;exact q
def yF:FnScope ["text", "place"] ["text", "place"] (aJ jE):=by walk_at "sc"
def wX(F:Fun K "may_stand" "may_stand" jE f fd)(G:Gs K mg w Zu Zz Zv Zx Z0 Zw Zy)(c_is_flag:Cal P w K mg base 1 "is_flag" ["text"] rN):FnOk P w K mg base CX0 2 f fd ["text", "place"] nM:=by
 refine F.ok yF (λvs H Q E h=>?_) (λcdv A outer s H vs Q E hr h=>?_)
 ·obtain⟨z,p,rfl,_⟩:=h;rfl
 obtain⟨z,p,rfl,hl,q⟩:=h;refine⟨_,(@aE _ _ _ _ _ (cI (xA (kA (aU c_is_flag hr (by decide) rfl (aA (mv 0) aB)))) (@aH _ _ _ (aY pQ)) bK) (@aE _ _ _ _ _ (cI (aZ aJV (mv 0) (eO rfl G.s_SUBSTITUTES) (by rfl)) (@aH _ _ _ (aY (eG xN (cB aJB rfl G.b_int xE (aA (mv 0) aB)) (mv 1) (aW _)))) bK) (@aH _ _ _ (aY pQ)))),?_⟩
 walk_at "go";refine⟨z,rfl,hl,?_⟩;walk_at "go";refine gS (λhc=>?_) (λhc=>?_)
 ·have hf:iN z=false:=by simpa using hc
  have e:cW z p=false:=by
   by_cases h1:z.length=1
   ·obtain⟨c,rfl⟩:=rZ h1;rw[rG]at hf;have hf:=Cf hf
    rw[nV];exact Aw λst=>hf (st.elim .inl λz=>.inr z.1)
   ·exact if_neg h1
  rw[e]at q;walk_at "go";exact q
 ·have hf:iN z=true:=by simpa using hc
  obtain⟨c,rfl,hcc⟩:=bQV hf;walk_at "go";rw[if_neg Ao,show subIn (one c) (Str.ofString "1234")=decide (eD c) from qU c];rw[nV]at q;refine gS (λhd=>?_) (λhd=>?_)
  ·have hs:=Bg hd
   walk_at "go";refine yC (qQ hs) (by show 1<=640;decide) ?_
   walk_at "go";rw[show decide (jH c p)=decide ((c:Int)-48<p) from Dx.mpr ⟨λst=>st.elim (λl=>absurd hs (jP l)) (·.2),λl=>.inr ⟨hs,l⟩⟩]at q;exact q
  ·have hs:=Cf (Cd.mpr hd)
   walk_at "go";rw[An (show jH c p from .inl (hcc.resolve_right hs))]at q;exact q
def aQJ:FnScope ["flags"] ["flags"] (aJ mJ):=by walk_at "sc"
def aQX(F:Fun K "is_hoist" "is_hoist" mJ f fd)(G:Gs K mg w Zu Zz Zv Zx Z0 Zw Zy)(c_may_stand:Cal P w K mg base 2 "may_stand" ["text", "place"] nM):FnOk P w K mg base CX0 3 f fd ["flags"] pV:=by
 refine F.ok aQJ (λvs H Q E h=>?_) (λcdv A outer s H vs Q E hr h=>?_)
 ·obtain⟨a,zs,rfl,_⟩:=h;rfl
 obtain⟨a,zs,rfl,ha,hl,hz,q⟩:=h;refine⟨_,(@aE _ _ _ _ _ (cI (PW.pt (pP (aZ xN (aP bS rfl G.b_len bH (aA (mv 0) aB)) aK (aW _)) (jW (aZ yO (aP bS rfl G.b_len bH (aA (mv 0) aB)) (xK rfl G.s_MOST_PLACES) (aW _))))) (@aH _ _ _ (aY pQ)) bK) (@aH _ _ _ (aY (aP (bZ9 rfl) rfl G.b_all aXV (aA (cL rfl (cZE rfl G.b_enumerate (aA (mv 0) aB) (qN aK xU)) (lJ (N:=["place", "text"]) (by decide +kernel) (by decide +kernel)) (by decide +kernel) rfl (by decide +kernel) (λ_ _ _ _=>(fA (K:=K) (i:=0) (j:=1) (by rfl) (by rfl) (show List.Nodup (["place", "text"]:List Str) by decide +kernel) (by rfl) (by exact Or.inl rfl) (by exact Or.inr rfl) (by rfl) (by exact Or.inl rfl) (by exact Or.inr rfl))) (λ_ _ _ _=>cQ) (λ_ _ _ _=>(aU c_may_stand hr (by decide) rfl (aA (mv 1) (aA (mv 0) aB))))) aB))))),?_⟩
 have hll:(zs.map V.str).length=zs.length:=Ab ..
 walk_at "go";rw[hll];refine gS (λhc=>?_) (λhc=>?_)
 ·walk_at "go";have e:cY zs=false:=if_pos (.inl (by have:=Bg hc;omega))
  have r:=q H (Same.refl H)
  rw[e]at r;exact r
 ·have hc':=Cf (Cd.mpr hc)
  walk_at "go";rw[hll];refine gS (λhd=>?_) (λhd=>?_)
  ·walk_at "go";have e:cY zs=false:=if_pos (.inr (by have:=Bg hd;omega))
   have r:=q H (Same.refl H)
   rw[e]at r;exact r
  ·have hd':=Cf (Cd.mpr hd)
   walk_at "go";refine⟨⟨by omega,by omega⟩,?_⟩
   walk_at "go";refine yE (λi x=>match x with|.str z=>some (.bl (cW z ((1+i:Nat):Int)))|_=>none) ha (by rw[hll];exact bD (by omega)) (λi x Hc p A B hx sm hp hA=>?_) (λD Hd hD sd hr=>?_)
   ·obtain⟨z,hzi,rfl⟩:=eU hx;walk_at "go";refine⟨Wk.set rfl (Wk.set rfl (Wk.refl _)),?_⟩;walk_at "go";refine⟨z,_,rfl,hz z (Am hzi),?_⟩;exact hA _ (Same.refl _)
   ·have e1:((List.range (zs.map V.str).length).filterMap λi=>(λi x=>match x with | .str z=>some (V.bl (cW z ((1+i:Nat):Int))) | _=>none:Nat->V->Option V) i ((zs.map V.str).getD i .non))=((List.range zs.length).map λi=>cW (zs.getD i ⟨#[]⟩) ((1+i:Nat):Int)).map V.bl:=by
     rw[hll,Cm];refine(iA (g:=λi=>some (V.bl (cW (zs.getD i ⟨#[]⟩) ((1+i:Nat):Int)))) λi hi=>?_).trans (kP _ _);have hi':=Cb.mp hi
     rw[Ac,Af,Aa hi',Ac,Aa hi'];rfl
    rw[e1]at hr;walk_at "go";refine bJU hr ?_;have e2:cY zs=((List.range zs.length).map λi=>cW (zs.getD i ⟨#[]⟩) ((1+i:Nat):Int)).all id:=by
     unfold cY;rw[if_neg (by omega),List.all_map]
     rfl
    have r:=q _ sd
    rw[e2]at r;exact r
def sc_read_of:FnScope ["flags", "word", "flag"] ["flags"] (aJ oW):=by walk_at "sc"
def aXA(F:Fun K "read_of" "read_of" oW f fd)(G:Gs K mg w Zu Zz Zv Zx Z0 Zw Zy)(c_is_hoist:Cal P w K mg base 3 "is_hoist" ["flags"] pV):FnOk P w K mg base (CXr P w) 4 f fd ["flags"] (sK Zx):=by
 refine F.okX sc_read_of (λvs H Q E h=>?_) (λcdv A outer s H vs Q E hr h=>?_)
 ·obtain⟨a,zs,rfl,_⟩:=h;rfl
 obtain⟨a,zs,rfl,ha,hl,hz,q,qe⟩:=h;refine⟨_,(@aE _ _ _ _ _ (cI (xA (kA (aU c_is_hoist hr (by decide) rfl (aA (mv 0) aB)))) (@aH _ _ _ (rQ nW rfl rfl rfl G.c_NoHoist G.x_NoHoist Eb (@cU _ _ _ _ _ _ aB))) bK) (@aE _ _ _ _ _ (aO 1 sc_read_of.nd dP) (@aE _ _ _ _ _ (PS.nox (dA Bu rfl (bX (mv 0)) (bE (i:=2) sc_read_of.nd rfl (Or.inl rfl)) (@aH _ _ _ (cI (aZ aJV (mv 2) (eO rfl G.s_SUBSTITUTES) (by rfl)) (@aH _ _ _ (aO 1 sc_read_of.nd (aS bW (mv 1) (bF bV (mv 1) (aS kW (cB aJB rfl G.b_int xE (aA (mv 2) aB)) aK) (λ_ _=>rfl))))) (@aH _ _ _ (aO 1 sc_read_of.nd (aS bW (mv 1) (mv 2)))))))) (@aH _ _ _ (aY (mv 1)))))),?_⟩
 walk_at "go";refine⟨a,zs,rfl,ha,hl,hz,λH1 s1=>?_⟩;have ha1:=aI s1 ha
 walk_at "go";cases hh:cY zs with
 |false=>
  walk_at "go";exact⟨by show 1<=sizeLine;decide,qe hh H1 s1⟩
 |true=>
  walk_at "go";have h7:=iD hh
  refine gN (xs:=zs.map V.str) (λi σ H'=>∃v,σ=[some (.ref a),some (.str (aQ (rdC ((zs.map lO).take i)))),v]/\H'=H1)
   ⟨none,rfl,rfl⟩ (λi σ H' _ ⟨_,_,e⟩=>by rw[e];exact ha1) ?_ ?_
  ·rintro i x σ H' hx ⟨v,rfl,rfl⟩;obtain⟨z,hzi,rfl⟩:=eU hx;obtain⟨c,rfl,hci,hcc⟩:=aXZ hh hzi;have hi:i<(zs.map lO).length:=(Ae.mp hci).1
   have hll:(zs.map lO).length=zs.length:=Ab ..
   have hrl:(rdC ((zs.map lO).take i)).length=i:=wQ (by omega)
   have hst:=rY hci
   generalize rdC ((zs.map lO).take i)=wd at hrl hst ⊢;have hwl:(aQ wd).length=i:=(dG wd).trans hrl
   walk_at "go";rw[if_neg Ao,show subIn (one c) (Str.ofString "1234")=decide (eD c) from qU c];refine gS (λhd=>?_) (λhd=>?_)
   ·have hs:=Bg hd
    have hlt:c-49<i:=(hcc.resolve_left λl=>jP l hs).2
    have h49:49<=c:=hs.1
    walk_at "go";refine yC (qQ hs) (by show 1<=640;decide) ?_
    walk_at "go";have e1:atI (aQ wd).cps.toList ((c:Int)-48-1)=some (wd.getD (c-49) 0):=by
     rw[show ((c:Int)-48-1)=((c-49:Nat):Int) by omega]
     refine bC ?_;rw[cR,Ac,Aa (by omega)]
     rfl
    have h2:(⟨#[wd.getD (c-49) 0]⟩:Str).length=1:=rfl
    refine zA (by rw[hwl];exact bJ (by omega)) e1 ?_
    walk_at "go";refine⟨some (.str (one c)),?_,rfl⟩;rw[hst,show stp wd c=wd.getD (c-49) 0 from if_pos hs,<-kM];rfl
   ·have hs:=Cf (Cd.mpr hd)
    have h2:(one c).length=1:=rfl
    walk_at "go";refine⟨some (.str (one c)),?_,rfl⟩;rw[hst,show stp wd c=c from if_neg hs,<-kM];rfl
  ·rintro σ H' ⟨v,rfl,rfl⟩;walk_at "go";have e:(zs.map lO).take (zs.map V.str).length=zs.map lO:=Bk (by rw[Ab,Ab];exact Aj _)
   rw[e];exact q hh _ s1
abbrev Wt:=Nat×Nat
def dD(w:Wt):List Key:=[Sum.inl (w.1:Int),Sum.inl (w.2:Int)]
def mR{a b:Wt}(h:dD a=dD b):a=b:=by
 unfold dD at h;injection h with h1 h2
 injection h2 with h2 _
 have e1:=Sum.inl.inj h1
 have e2:=Sum.inl.inj h2
 exact Prod.ext (by omega) (by omega)
def dO(m:List (Wt×Nat))(w:Wt):Option Nat:=(m.find? λx=>decide (x.1=w)).map (·.2)
def dX(m:List (Wt×Nat))(f:Nat):List Wt:=(m.filter λx=>decide (x.2=f)).map (·.1)
def ctm(m:List (Wt×Nat))(f:Nat):Nat:=m.countP λx=>decide (x.2=f)
def eQ{x:Wt×Nat}{m:List (Wt×Nat)}{w:Wt}:dO (x::m) w=if x.1=w then some x.2 else dO m w:=by
 unfold dO;rw[List.find?_cons];by_cases h:x.1=w
 ·simp[h]
 ·simp[h]
def zZ{m:List (Wt×Nat)}{w:Wt}{f:Nat}(h:dO m w=some f):(w,f)∈m:=by
 induction m with
 |nil=>cases h
 |cons x m ih=>
  rw[eQ]at h;by_cases e:x.1=w
  ·rw[if_pos e]at h;cases h;rw[<-e];exact Ak
  ·rw[if_neg e]at h;exact Ai _ (ih h)
def nK{m:List (Wt×Nat)}(nd:(m.map (·.1)).Nodup){w:Wt}{f:Nat}(h:(w,f)∈m):dO m w=some f:=by
 induction m with
 |nil=>cases h
 |cons x m ih=>
  rw[eQ];rw[Aq,Cs]at nd;rcases Be.mp h with e|e
  ·rw[<-e,if_pos rfl]
  ·rw[if_neg (λz=>nd.1 (by rw[z];exact Bb.mpr ⟨_,e,rfl⟩)),ih nd.2 e]
def hget_none{m:List (Wt×Nat)}{w:Wt}:dO m w=none ↔ w∉m.map (·.1):=by
 induction m with
 |nil=>exact⟨λ_ z=>(nomatch z),λ_=>rfl⟩
 |cons x m ih=>
  rw[eQ,Aq,Be];by_cases e:x.1=w
  ·rw[if_pos e];exact⟨λz=>(nomatch z),λz=>absurd (Or.inl e.symm) z⟩
  ·rw[if_neg e,ih];exact⟨λz y=>y.elim (λq=>e q.symm) z,λz y=>z (Or.inr y)⟩
def by_mem{m:List (Wt×Nat)}{f:Nat}{w:Wt}:w∈dX m f ↔ (w,f)∈m:=by
 unfold dX;rw[Bb];constructor
 ·rintro⟨x,hx,rfl⟩;rw[Cr,Bw]at hx;rw[<-hx.2];exact hx.1
 ·intro h;exact⟨(w,f),Cr.mpr ⟨h,An rfl⟩,rfl⟩
def aZI(m:List (Wt×Nat))(f:Nat):(dX m f).length=ctm m f:=by
 unfold dX ctm;rw[Ab,List.countP_eq_length_filter]
structure Asking (ch:Wt->List Nat) (m:List (Wt×Nat)) (first:Wt) (A:List (Nat×Wt)):Prop where
 nd:(A.map (·.1)).Nodup
 ok:∀(j:Nat) f w,A[j]?=some (f,w)->f∈ch w/\(w=first\/∃(g:Nat) (i:Nat) (v:Wt),i<j/\A[i]?=some (g,v)/\dO m w=some g)
def cH(m:List (Wt×Nat))(first:Wt)(A:List (Nat×Wt)):List Wt:=first::(A.map (·.1)).flatMap (dX m)
def mK(m:List (Wt×Nat))(first:Wt)(A:List (Nat×Wt))(f:Nat)(w:Wt):cH m first (A++[(f,w)])=cH m first A++dX m f:=by
 unfold cH;rw[Ar,List.flatMap_append];simp
def reach_mem{m:List (Wt×Nat)}{first:Wt}{A:List (Nat×Wt)}{w:Wt}:w∈cH m first A ↔ w=first\/∃f∈A.map (·.1),(w,f)∈m:=by
 unfold cH;rw[Be,List.mem_flatMap];constructor
 ·rintro(h|⟨f,hf,h⟩)
  ·exact .inl h
  ·exact .inr ⟨f,hf,by_mem.mp h⟩
 ·rintro(h|⟨f,hf,h⟩)
  ·exact .inl h
  ·exact .inr ⟨f,hf,by_mem.mpr h⟩
def sT(m:List (Wt×Nat)):∀ {fs:List Nat},fs.Nodup->(fs.flatMap (dX m)).length=m.countP (λx=>decide (x.2∈fs))
 |[],_=>by simp
 |f::fs,nd=>by
  rw[List.flatMap_cons,Ah,aZI,sT m (Cs.mp nd).2];have hf:=(Cs.mp nd).1
  unfold ctm;clear nd;induction m with
  |nil=>rfl
  |cons x m ih=>
   rw[Gi,Gi,Gi,<-ih];by_cases h1:x.2=f
   ·rw[if_pos (An h1),if_neg (by rw[Bw,h1];exact hf),if_pos (An (by rw[h1];exact Ak))]
    omega
   ·rw[if_neg (by rw[Bw];exact h1)]
    by_cases h2:x.2∈fs
    ·rw[if_pos (An h2),if_pos (An (Ai _ h2))];omega
    ·rw[if_neg (by rw[Bw];exact h2),if_neg (by rw[Bw];exact λz=>(Be.mp z).elim h1 h2)]
     omega
def vJ{m:List (Wt×Nat)}{first:Wt}{A:List (Nat×Wt)}(nd:(A.map (·.1)).Nodup):(cH m first A).length<=1+m.length:=by
 unfold cH;rw[Au,sT m nd];have:=List.countP_le_length (p:=λx:Wt×Nat=>decide (x.2∈A.map (·.1))) (l:=m)
 omega
def Asking.snoc{ch:Wt->List Nat}{m:List (Wt×Nat)}{first w:Wt}{A:List (Nat×Wt)}{f:Nat}(ndm:(m.map (·.1)).Nodup)(h:Asking ch m first A)(hf:f∉A.map (·.1))(hc:f∈ch w)(hw:w∈cH m first A):Asking ch m first (A++[(f,w)]):=by
 refine⟨?_,λj g v hj=>?_⟩
 ·rw[Ar];exact List.nodup_append.mpr ⟨h.nd,by simp,λx hx y hy=>by rw[List.mem_singleton.mp hy];intro z;have z2:x=f:=z;rw[z2]at hx;exact hf hx⟩
 ·by_cases hlt:j<A.length
  ·rw[Ax hlt]at hj;obtain⟨h1,h2⟩:=h.ok j g v hj;refine⟨h1,h2.imp id ?_⟩;rintro⟨g',i,v',hi,hA,hg⟩;exact⟨g',i,v',hi,by rw[Ax (by omega)];exact hA,hg⟩
  ·have hj2:j=A.length:=by
    have:=(Ae.mp hj).1
    rw[Ah]at this;have:j<A.length+1:=this
    omega
   subst hj2;rw[Ba (Aj _),Gj]at hj;cases hj;refine⟨hc,?_⟩;rcases reach_mem.mp hw with e|⟨g',hg',hm⟩
   ·exact .inl e
   ·obtain⟨x,hx,rfl⟩:=Bb.mp hg';obtain⟨i,hi,ei⟩:=Bm.mp hx;exact .inr ⟨x.1,i,x.2,hi,by rw[Ax hi,Aa hi,ei],nK ndm hm⟩
structure Asked (ch:Wt->List Nat) (m:List (Wt×Nat)) (first:Wt) (A:List (Nat×Wt)):Prop extends Asking ch m first A where
 all1:∀f∈ch first,f∈A.map (·.1)
 all:∀w g,(w,g)∈m->g∈A.map (·.1)->∀f∈ch w,f∈A.map (·.1)
def Asking.done{ch:Wt->List Nat}{m:List (Wt×Nat)}{first:Wt}{A:List (Nat×Wt)}(h:Asking ch m first A)(hc:∀w∈cH m first A,∀f∈ch w,f∈A.map (·.1)):Asked ch m first A:=
 ⟨h,hc first (reach_mem.mpr (.inl rfl)),λw g hm hg=>hc w (reach_mem.mpr (.inr ⟨g,hg,hm⟩))⟩
def bX9(m:List (Wt×Nat))(w:Wt)(f:Nat):List (Wt×Nat):=if (dO m w).isSome=true then m.map λx=>if x.1=w then (x.1,f) else x else m++[(w,f)]
def bJX{m:List (Wt×Nat)}{w v:Wt}{f:Nat}:dO (m.map λx=>if x.1=w then (x.1,f) else x) v=(dO m v).map λg=>if v=w then f else g:=by
 induction m with
 |nil=>rfl
 |cons x m ih=>
  rw[Aq,eQ,eQ,ih];by_cases e:x.1=w
  ·rw[if_pos e];by_cases e2:x.1=v
   ·rw[if_pos e2,if_pos e2,Ej,if_pos (e2.symm.trans e)]
   ·rw[if_neg e2,if_neg e2]
  ·rw[if_neg e];by_cases e2:x.1=v
   ·rw[if_pos e2,if_pos e2,Ej,if_neg (λz=>e (e2.trans z))]
   ·rw[if_neg e2,if_neg e2]
def keys_map{m:List (Wt×Nat)}{w:Wt}{f:Nat}:(m.map λx=>if x.1=w then (x.1,f) else x).map (·.1)=m.map (·.1):=by
 rw[Cm];refine Di λx _=>?_;show (if x.1=w then (x.1,f) else x).1=x.1
 by_cases e:x.1=w
 ·rw[if_pos e]
 ·rw[if_neg e]
def dJB{m:List (Wt×Nat)}{w:Wt}{f:Nat}(nd:(m.map (·.1)).Nodup)(h:dO m w=some g)(c:Nat):ctm (m.map λx=>if x.1=w then (x.1,f) else x) c+(if c=g then 1 else 0)=ctm m c+(if c=f then 1 else 0):=by
 induction m with
 |nil=>cases h
 |cons x m ih=>
  rw[Aq,Cs]at nd;rw[eQ]at h;unfold ctm at ih ⊢;rw[Aq,Gi,Gi];by_cases e:x.1=w
  ·rw [if_pos e] at h;cases h;have hm:(m.map λx=>if x.1=w then (x.1,f) else x)=m:=by
    refine(Di λy hy=>?_).trans (List.map_id _);show (if y.1=w then (y.1,f) else y)=y
    rw[if_neg (λz=>nd.1 (by rw[e,<-z];exact Bb.mpr ⟨y,hy,rfl⟩))]
   rw[if_pos e,hm];have e1:(decide ((x.1,f).2=c)=true)=(c=f):=by rw[Bw];exact propext ⟨λz=>z.symm,λz=>z.symm⟩
   have e2:(decide (x.2=c)=true)=(c=x.2):=by rw[Bw];exact propext ⟨λz=>z.symm,λz=>z.symm⟩
   simp only[e1,e2];omega
  ·rw[if_neg e]at h;rw[if_neg e];have r:=ih nd.2 h
   omega
structure Along (ch:Wt->List Nat) (m0:List (Wt×Nat)) (A:List (Nat×Wt)) (f0:Nat) (m:List (Wt×Nat)) (c j:Nat) (w:Wt):Prop where
 keys:m.map (·.1)=m0.map (·.1)
 ok:∀v f,(v,f)∈m->f∈ch v
 ct:∀f,ctm m f+(if f=c then 1 else 0)=ctm m0 f+(if f=f0 then 1 else 0)
 at_:A[j]?=some (c,w)
 same:∀v g i u,dO m0 v=some g->A[i]?=some (g,u)->i<j->dO m v=some g
def dQG{A:List (Nat×Wt)}(nd:(A.map (·.1)).Nodup){u v:Wt}(hi:A[i]?=some (g,u))(hj:A[j]?=some (g,v)):i=j:=by
 obtain⟨h1,e1⟩:=Ae.mp hi;obtain⟨h2,e2⟩:=Ae.mp hj;refine(Fh (h₀:=by rw[Ab];exact h1) (h₁:=by rw[Ab];exact h2) nd).mp ?_
 rw[Er,Er,e1,e2]
def Along.step{ch:Wt->List Nat}{m0 m:List (Wt×Nat)}{A:List (Nat×Wt)}{f0 c:Nat}{first w v:Wt}(ha:Asking ch m0 first A)(nd0:(m0.map (·.1)).Nodup)(h:Along ch m0 A f0 m c j w)(hg:dO m0 w=some g)(hi:A[i]?=some (g,v))(hij:i<j):dO m w=some g/\Along ch m0 A f0 (m.map λx=>if x.1=w then (x.1,c) else x) g i v:=by
 have nd:(m.map (·.1)).Nodup:=by rw[h.keys];exact nd0
 have hw:=h.same w g i v hg hi hij
 refine⟨hw,keys_map.trans h.keys,λu f hu=>?_,λf=>?_,hi,λu g' i' u' h1 h2 h3=>?_⟩
 ·obtain⟨x,hx,e⟩:=Bb.mp hu;by_cases ex:x.1=w
  ·rw[if_pos ex]at e;cases e;rw[ex];exact(ha.ok j c w h.at_).1
  ·rw[if_neg ex]at e;exact h.ok u f (e▸hx)
 ·have r1:=dJB (f:=c) nd hw f
  have r2:=h.ct f
  omega
 ·rw[bJX,h.same u g' i' u' h1 h2 (by omega),Ej]
  by_cases e:u=w
  ·subst e;rw[hg]at h1;cases h1;exact absurd (dQG ha.nd hi h2) (by omega)
  ·rw[if_neg e]
def Along.last{ch:Wt->List Nat}{m0 m:List (Wt×Nat)}{A:List (Nat×Wt)}{f0 c:Nat}{first:Wt}(ha:Asking ch m0 first A)(hf:first∉m0.map (·.1))(h:Along ch m0 A f0 m c j first):dO m first=none/\(m++[(first,c)]).map (·.1)=m0.map (·.1)++[first]/\(∀v f,(v,f)∈m++[(first,c)]->f∈ch v)/\∀f,ctm (m++[(first,c)]) f=ctm m0 f+(if f=f0 then 1 else 0):=by
 refine⟨hget_none.mpr (by rw[h.keys];exact hf),by rw[Ar,h.keys];rfl,λv f hv=>?_,λf=>?_⟩
 ·rcases Bo.mp hv with e|e
  ·exact h.ok v f e
  ·cases Ap.mp e;exact(ha.ok j c first h.at_).1
 ·have r:=h.ct f
  unfold ctm at r ⊢;rw[List.countP_append];have e:List.countP (λx:Wt×Nat=>decide (x.2=f)) [(first,c)]=if f=c then 1 else 0:=by
   rw[List.countP_singleton];by_cases z:f=c
   ·rw[if_pos z,if_pos (An z.symm)]
   ·rw[if_neg z,if_neg (by rw[Bw];exact λy=>z y.symm)]
  rw[e];exact r
def jU(m:List (Wt×Nat))(first:Wt)(A:List (Nat×Wt))(wl:List Wt):List Wt:=wl.filter λw=>decide (w=first) || (match dO m w with|some g=>decide (g∈A.map (·.1))|none=>false)
def iZ(m:List (Wt×Nat))(first:Wt)(A:List (Nat×Wt))(w:Wt):Bool:=decide (w=first) || (match dO m w with|some g=>decide (g∈A.map (·.1))|none=>false)
def aQU{m:List (Wt×Nat)}{first w:Wt}{A:List (Nat×Wt)}(h:w=first):iZ m first A w=true:=by
 unfold iZ;rw[An h,Bool.true_or]
def qZ{m:List (Wt×Nat)}{first w:Wt}{A:List (Nat×Wt)}(h:w≠first)(e:dO m w=none):iZ m first A w=false:=by
 unfold iZ;rw[Aw h,e];rfl
def rC{m:List (Wt×Nat)}{first w:Wt}{A:List (Nat×Wt)}(h:w≠first)(e:dO m w=some g):iZ m first A w=decide (g∈A.map (·.1)):=by
 unfold iZ;rw[Aw h,e,Bool.false_or]
def sW{m:List (Wt×Nat)}{first:Wt}{A:List (Nat×Wt)}{ws:List Wt}{w:Wt}:jU m first A (ws++[w])=jU m first A ws++if iZ m first A w=true then [w] else []:=by
 have e:∀l,jU m first A l=l.filter (iZ m first A):=λl=>rfl
 rw[e,e,Ee,Ef];rfl
def lackW_mem{m:List (Wt×Nat)}{first w:Wt}{A:List (Nat×Wt)}{ws:List Wt}:w∈jU m first A ws ↔ w∈ws/\iZ m first A w=true:=by
 have e:∀l,jU m first A l=l.filter (iZ m first A):=λl=>rfl
 rw[e,Cr]
def cXX{m:List (Wt×Nat)}{first:Wt}{A:List (Nat×Wt)}{l r:List Wt}(hk:m.map (·.1)=l)(nd:(l++first::r).Nodup):(jU m first A (l++first::r)).length=1+m.countP (λx=>decide (x.2∈A.map (·.1))):=by
 have hl:(m.map (·.1)).Nodup:=by rw[hk];exact(Ff.mp nd).1
 have hfl:first∉l:=λz=>(Ff.mp nd).2.2 first z first Ak rfl
 have hfr:first∉r:=(Cs.mp (Ff.mp nd).2.1).1
 have hrl:∀w∈r,w∉l:=λw hw z=>(Ff.mp nd).2.2 w z w (Ai _ hw) rfl
 unfold jU;rw[Ee,Ah,Ef,if_pos (by rw[An rfl];rfl),Au]
 have er:r.filter (λw=>decide (w=first) || (match dO m w with|some g=>decide (g∈A.map (·.1))|none=>false))=[]:=by
  refine List.filter_eq_nil_iff.mpr λw hw=>?_;have e:dO m w=none:=hget_none.mpr (by rw[hk];exact hrl w hw)
  rw[Aw (show ¬w=first from λz=>by rw[z]at hw;exact hfr hw),e,Bool.false_or]
  exact Ao
 have el:(l.filter (λw=>decide (w=first) || (match dO m w with|some g=>decide (g∈A.map (·.1))|none=>false))).length=m.countP (λx=>decide (x.2∈A.map (·.1))):=by
  rw[<-hk,List.filter_map,Ab,<-List.countP_eq_length_filter];refine List.countP_congr λx hx=>?_;show (decide (x.1=first) || (match dO m x.1 with|some g=>decide (g∈A.map (·.1))|none=>false))=true ↔ _
  rw[nK hl (w:=x.1) (f:=x.2) hx,Aw (λz=>hfl (by rw[<-z,<-hk];exact Bb.mpr ⟨x,hx,rfl⟩)),Bool.false_or]
 rw[er,el,Fq];omega
def dJ6(m:List (Wt×Nat)):∀ {fs:List Nat},fs.Nodup->m.countP (λx=>decide (x.2∈fs))=(fs.map (ctm m)).sum:=fun {fs} nd=>by
 rw[<-sT m nd];induction fs with
 |nil=>rfl
 |cons f fs ih=>rw[List.flatMap_cons,Ah,aZI,Aq,Dt,ih (Cs.mp nd).2]
def pY(cws:List (List Nat))(k:Nat):List Wt:=(List.range (cws.getD k []).length).map λj=>(k,1+j)
def wlP(cws:List (List Nat))(i:Nat):List Wt:=(List.range i).flatMap (pY cws)
def wl(cws:List (List Nat)):List Wt:=wlP cws cws.length
def wV(w:Wt):List V:=[.int (w.1:Int),.int (w.2:Int)]
def mS(cws:Q6)(i:Nat):wlP cws (i+1)=wlP cws i++pY cws i:=by
 unfold wlP;rw[Cv,List.flatMap_append];simp
def tE(cws:Q6):∀i,lS cws i=(wlP cws i).map wV
 |0=>rfl
 |i+1=>by
  rw[jQ,mS,Ar,tE cws i];congr 1
  unfold aZO pY;rw[Cm];refine Di λj _=>?_;show [V.int ((i:Nat):Int),V.int (1+(j:Int))]=[V.int ((i:Nat):Int),V.int ((1+j:Nat):Int)]
  rw[show ((1+j:Nat):Int)=1+(j:Int) by omega]
def wlP_mem{w:Wt}:∀ {i:Nat},w∈wlP cws i ↔ w.1<i/\1<=w.2/\w.2<=(cws.getD w.1 []).length:=fun {i}=>by
 unfold wlP pY;rw[List.mem_flatMap];constructor
 ·rintro⟨k,hk,h⟩;obtain⟨j,hj,rfl⟩:=Bb.mp h;have:=Cb.mp hk
  have:=Cb.mp hj
  exact⟨by omega,by show 1<=1+j;omega,by show 1+j<=(cws.getD k []).length;omega⟩
 ·rintro⟨h1,h2,h3⟩;refine⟨w.1,Cb.mpr h1,Bb.mpr ⟨w.2-1,Cb.mpr (by omega),?_⟩⟩
  exact Prod.ext rfl (by show 1+(w.2-1)=w.2;omega)
def pB(cws:Q6):∀i,(wlP cws i).Nodup
 |0=>Gf
 |i+1=>by
  rw[mS];refine Ff.mpr ⟨pB cws i,?_,λa ha b hb e=>?_⟩
  ·unfold pY;exact List.Pairwise.map _ (λa b h=>λz=>h (by have:=Dk Prod.snd z;have e:1+a=1+b:=this;omega)) List.nodup_range
  ·subst e;have h1:=(wlP_mem.mp ha).1
   unfold pY at hb;obtain⟨j,_,rfl⟩:=Bb.mp hb;exact absurd h1 (Ct _)
def aJN(h7:∀c∈cws,c.length<=7)(i:Nat):(wlP cws i).length<=7*i:=by
 have:=mD h7 i
 rw[tE,Ab]at this;exact this
def chW(cws:List (List Nat))(w:Wt):List Nat:=chs (cws.getD w.1 []) (w.2-1)
def dQ(ws:List Wt)(ds:List Addr):List (List Key×V):=List.zipWith (λw d=>(dD w,V.ref d)) ws ds
def eXZ(H:Hp)(r:Addr)(cws:List (List Nat))(i:Nat):Prop:=∃ds:List Addr,ds.length=i/\H r=some (.dT (dQ ((wl cws).take i) ds))/\∀(j:Nat) w d,j<i->(wl cws)[j]?=some w->ds[j]?=some d->H d=some (.lst (((chW cws w).map one).map V.str))
def bXL{ws:List Wt}(nd:ws.Nodup)(hl:ds.length=ws.length){w:Wt}{d:Addr}(hw:ws[j]?=some w)(hd:ds[j]?=some d):bY (dQ ws ds) (dD w)=some (.ref d):=by
 induction ws generalizing ds j with
 |nil=>cases hw
 |cons x ws ih=>
  cases ds with
  |nil=>cases hl
  |cons e ds=>
   show bY ((dD x,V.ref e)::dQ ws ds) _=_
   cases j with
   |zero=>cases hw;cases hd;exact cJ rfl
   |succ j=>
    have hm:=Am (show ws[j]?=some w from hw)
    rw[cE (λz=>(Cs.mp nd).1 (by rw[mR z];exact hm))]
    exact ih (List.nodup_cons.mp nd).2 (by simpa using hl) hw hd
def aZK{ws:List Wt}{w:Wt}(h:w∉ws):bY (dQ ws ds) (dD w)=none:=by
 induction ws generalizing ds with
 |nil=>rfl
 |cons x ws ih=>
  cases ds with
  |nil=>rfl
  |cons e ds=>
   show bY ((dD x,V.ref e)::dQ ws ds) _=_
   rw[cE (λz=>h (by rw[mR z];exact Ak))]
   exact ih λz=>h (Ai _ z)
def uP{ws:List Wt}(hl:ds.length=ws.length):(dQ ws ds).length=ws.length:=by
 unfold dQ;rw[List.length_zipWith];omega
def aZJ{ws:List Wt}{w:Wt}{d:Addr}(hl:ds.length=ws.length):dQ (ws++[w]) (ds++[d])=dQ ws ds++[(dD w,V.ref d)]:=by
 unfold dQ;rw[List.zipWith_append (by omega)]
 rfl
def kZ:Sp:=λvs H Q _=>∃(a:Addr) (cws:List (List Nat)),vs=[.ref a]/\rdL H a=some ((cws.map aQ).map V.str)/\cws.length<=8/\(∀c∈cws,c.length<=7)/\
 ∀(r:Addr) (H':Hp),H r=none->Same H H'->eXZ H' r cws (wl cws).length->Q (.ref r) H'
def sc_choices_of:FnScope ["words", "choices", "want"] ["words"] (aJ iT):=by walk_at "sc"
def tS(F:Fun K "choices_of" "choices_of" iT f fd)(G:Gs K mg w Zu Zz Zv Zx Z0 Zw Zy)(c_wants_of:Cal P w K mg base 1 "wants_of" ["words"] pN)(c_choices_at:Cal P w K mg base 1 "choices_at" ["word", "place"] lN):FnOk P w K mg base CX0 2 f fd ["words"] kZ:=by
 refine F.ok sc_choices_of (λvs H Q E h=>?_) (λcdv A outer s H vs Q E hr h=>?_)
 ·obtain⟨a,cws,rfl,_⟩:=h;rfl
 obtain⟨a,cws,rfl,ha,h8,h7,q⟩:=h;refine⟨_,(@aE _ _ _ _ _ (@aXW _ _ 1 _ _ _ _ sc_choices_of.nd (by rfl) (by exact(Or.inl rfl)) aQB (by rfl) (by walk_at "o")) (@aE _ _ _ _ _ (dA Bu rfl (bX (aU c_wants_of hr (by decide) rfl (aA (mv 0) aB))) (bE (i:=2) sc_choices_of.nd rfl (Or.inl rfl)) (@aH _ _ _ (fT (Room.u1 hr) (mv 1) (mv 2) (aU c_choices_at hr (by decide) rfl (aA (bF bV (mv 0) (bF bV (mv 2) aK (λ_ _=>rfl)) (λ_ _=>rfl)) (aA (bF bV (mv 2) aK (λ_ _=>rfl)) aB))) rfl))) (@aH _ _ _ (aY (mv 1))))),?_⟩
 walk_at "go";intro pc hpc;walk_at "go";refine⟨a,cws,rfl,aI (aF hpc _) ha,h8,h7,λr ps H1 hr s1 e1 tp=>?_⟩;have s01:=(aF hpc (.dT [])).trans s1
 have ec1:=s1 _ _ (aD (H:=H) (a:=pc) (o:=.dT []))
 have hlw:(wl cws).length<=56:=Ca (aJN h7 _) (by omega)
 rw[tE]at tp;have hpl:ps.length=(wl cws).length:=by rw[tp.1,Ab];rfl
 have hpm:(ps.map V.ref).length=(wl cws).length:=by rw[Ab,hpl]
 have tat:∀(j:Nat) p w,ps[j]?=some p->(wl cws)[j]?=some w->H1 p=some (.tup (wV w)):=λj p w hp hw=>(tp.2 j p _ hp (by rw[Af];exact Dk (Option.map wV) hw)).2
 have r1:=aM e1
 have hcr:pc≠r:=λz=>by rw[<-z,aD]at hr;cases hr
 walk_at "go";refine gN (xs:=ps.map V.ref) (λi σ H'=>∃(v:Option V),σ=[some (.ref a),some (.ref pc),v]/\Same H H'/\(∀b u,b≠pc->H1 b=some u->H' b=some u)/\eXZ H' pc cws i)
  ⟨_,rfl,s01,λb u _ h=>h,[],rfl,ec1,λj w d hj=>absurd hj (Fs _)⟩ (λi σ H' _ ⟨_,_,_,k,_⟩=>aM (k _ _ (Ne.symm hcr) e1)) ?_ ?_
 ·rintro i x σ H2 hx ⟨v,rfl,s2,k2,ds,dl,ed,hds⟩;rw[Af]at hx;cases e:ps[i]? with
  |none=>rw[e]at hx;cases hx
  |some p=>
   rw[e]at hx;cases hx;have hi:i<(wl cws).length:=by rw[<-hpl];exact(Ae.mp e).1
   have ew:(wl cws)[i]?=some (wl cws)[i]:=Aa hi
   have hm:=wlP_mem.mp (Bx hi)
   have htp1:=tat i p _ e ew
   have hpne:p≠pc:=λz=>by rw[z,ec1]at htp1;cases htp1
   have ht:=k2 _ _ hpne htp1
   have hnew:(wl cws)[i]∉(wl cws).take i:=λz=>by
    obtain⟨j,hj,ej⟩:=Bm.mp z;rw[Bp]at hj;rw[List.getElem_take]at ej;have:=(Fh (pB cws cws.length)).mp ej
    omega
   have htk:(wl cws).take (i+1)=(wl cws).take i++[(wl cws)[i]]:=by rw[Bh,ew];rfl
   generalize hw:(wl cws)[i]=w at hm ht hnew htk ew;obtain⟨h1,h2,h3⟩:=hm;have ecw:cws[w.1]?=some (cws.getD w.1 []):=by rw[Ac,Aa h1];rfl
   have h7w:=h7 _ (Am ecw)
   have ha2:=aI s2 ha
   walk_at "go";refine eP ht (v:=.int (w.1:Int)) rfl ?_;walk_at "go";refine cD ha2 (v:=.str (aQ (cws.getD w.1 []))) (bC (by rw[Af,Af,ecw];rfl)) ?_
   walk_at "go";refine eP ht (v:=.int (w.2:Int)) rfl ?_;walk_at "go";refine⟨cws.getD w.1 [],w.2-1,_,rfl,by omega,by omega,h7w,λd H3 hd s3 e3=>?_⟩
   walk_at "go";have dl2:ds.length=((wl cws).take i).length:=by rw[dl,Bp];omega
   refine yD (k:=dD w) (s3 _ _ ed) (s3 _ _ ht) (bD (by rw[uP dl2,Bp];omega)) ?_
   have hdp:d≠pc:=λz=>by rw[z,ed]at hd;cases hd
   refine⟨_,rfl,bL hpc (s2.trans s3),λb u hb hu=>by rw[aG hb];exact s3 _ _ (k2 b u hb hu),ds++[d],by rw[Ah,dl];rfl,?_,λj v' d' hj hv hd'=>?_⟩
   ·rw[aD,jK _ (aZK hnew),htk,aZJ dl2]
   ·by_cases hjl:j<i
    ·rw[Ax (by omega)]at hd'
     have hold:=hds j v' d' hjl hv hd'
     rw[aG (λz=>by rw[z,ed]at hold;cases hold)]
     exact s3 _ _ hold
    ·have hj2:j=i:=by omega
     subst hj2;rw[ew]at hv;cases hv;rw[Ba (by omega),dl,Gj]at hd'
     cases hd';rw[aG hdp];exact e3
 ·rintro σ H2 ⟨v,rfl,s2,k2,hch⟩;rw[hpm]at hch;walk_at "go";exact q pc H2 hpc s2 hch
def gK(m:List (Wt×Nat)):List (List Key×V):=m.map λx=>(dD x.1,V.str (one x.2))
def jT(m:List (Wt×Nat))(w:Wt):bY (gK m) (dD w)=(dO m w).map λf=>V.str (one f):=by
 induction m with
 |nil=>rfl
 |cons x m ih=>
  show bY ((dD x.1,V.str (one x.2))::gK m) _=_
  rw[eQ];by_cases e:x.1=w
  ·rw[if_pos e,cJ (by show dD x.1=dD w;rw[e])]
   rfl
  ·rw[if_neg e,cE (λz=>e (mR z)),ih]
def fK(A:List (Nat×Wt))(bs:List Addr):List (Key×V):=List.zipWith (λx b=>(Sum.inr (one x.1),V.ref b)) A bs
def kJ{A:List (Nat×Wt)}(hl:bs.length=A.length)(f:Nat):(bY (fK A bs) (Sum.inr (one f))).isSome=decide (f∈A.map (·.1)):=by
 induction A generalizing bs with
 |nil=>rfl
 |cons x A ih=>
  cases bs with
  |nil=>cases hl
  |cons b bs=>
   show (bY ((Sum.inr (one x.1),V.ref b)::fK A bs) _).isSome=_
   by_cases e:x.1=f
   ·rw[cJ (by show (Sum.inr (one x.1):Key)=Sum.inr (one f);rw[e]),An (by rw[<-e];exact Ak)]
    rfl
   ·rw[cE (λz=>e (key_one.mp z)),ih (by simpa using hl)]
    exact Dx.mpr ⟨λz=>Ai _ z,λz=>(Be.mp z).resolve_left λy=>e y.symm⟩
def bQ0{A:List (Nat×Wt)}(hl:bs.length=A.length){f:Nat}(h:f∉A.map (·.1)):bY (fK A bs) (Sum.inr (one f))=none:=by
 have r:=kJ hl f
 rw[Aw h]at r;cases e:bY (fK A bs) (Sum.inr (one f)) with
 |none=>rfl
 |some v=>rw[e]at r;cases r
def bX6{A:List (Nat×Wt)}{x:Nat×Wt}(hl:bs.length=A.length):fK (A++[x]) (bs++[b])=fK A bs++[(Sum.inr (one x.1),V.ref b)]:=by
 unfold fK;rw[List.zipWith_append (by omega)]
 rfl
def qV{A:List (Nat×Wt)}(hl:bs.length=A.length):(fK A bs).length=A.length:=by
 unfold fK;rw[List.length_zipWith];omega
def bJI{A:List (Nat×Wt)}(nd:(A.map (·.1)).Nodup)(hl:bs.length=A.length){f:Nat}{w:Wt}(hA:A[j]?=some (f,w))(hb:bs[j]?=some b):bY (fK A bs) (Sum.inr (one f))=some (.ref b):=by
 induction A generalizing bs j with
 |nil=>cases hA
 |cons x A ih=>
  cases bs with
  |nil=>cases hl
  |cons e bs=>
   show bY ((Sum.inr (one x.1),V.ref e)::fK A bs) _=_
   rw[Aq,Cs]at nd;cases j with
   |zero=>cases hA;cases hb;exact cJ rfl
   |succ j=>
    have hm:f∈A.map (·.1):=Bb.mpr ⟨(f,w),Am (show A[j]?=some (f,w) from hA),rfl⟩
    rw[cE (λz=>nd.1 (by rw[key_one.mp z];exact hm))]
    exact ih nd.2 (by simpa using hl) hA hb
def WtsAt(H:Hp)(rs:List Addr)(ws:List Wt):Prop:=rs.length=ws.length/\∀(j:Nat) r w,rs[j]?=some r->ws[j]?=some w->H r=some (.tup (wV w))
def WtsAt.keep{rs:List Addr}{ws:List Wt}(h:WtsAt H rs ws)(k:∀r w,H r=some (.tup (wV w))->H' r=some (.tup (wV w))):WtsAt H' rs ws:=⟨h.1,λj r w hr hw=>k _ _ (h.2 j r w hr hw)⟩
def WtsAt.app{rs qs:List Addr}{ws vs:List Wt}(h:WtsAt H rs ws)(g:WtsAt H qs vs):WtsAt H (rs++qs) (ws++vs):=by
 refine⟨by rw[Ah,Ah,h.1,g.1],λj r w hr hw=>?_⟩
 by_cases hj:j<rs.length
 ·rw[Ax hj]at hr;rw[Ax (by rw[<-h.1];exact hj)]at hw
  exact h.2 j r w hr hw
 ·rw[Ba (by omega)]at hr
  rw[Ba (by rw[<-h.1];omega),<-h.1]at hw
  exact g.2 _ r w hr hw
def WtsAt.one{w:Wt}(h:H r=some (.tup (wV w))):WtsAt H [r] [w]:=⟨rfl,λj q v hq hv=>by
 cases j with
 |zero=>cases hq;cases hv;exact h
 |succ j=>cases hq⟩
def ChRd(H:Hp)(r:Addr)(cws:List (List Nat)):Prop:=∃ds:List Addr,ds.length=(wl cws).length/\Rd H r (.dT (dQ (wl cws) ds))/\∀(j:Nat) w d,(wl cws)[j]?=some w->ds[j]?=some d->H d=some (.lst (((chW cws w).map one).map V.str))
def ChRd.keep(h:ChRd H r cws)(s:Same H H'):ChRd H' r cws:=by
 obtain⟨ds,h1,h2,h3⟩:=h;exact⟨ds,h1,h2.elim (λe=>.inl (s _ _ e)) λ⟨o,e⟩=>.inr ⟨o,s _ _ e⟩,λj w d hw hd=>s _ _ (h3 j w d hw hd)⟩
structure HungOk (cws:List (List Nat)) (m:List (Wt×Nat)):Prop where
 nd:(m.map (·.1)).Nodup
 sub:∀x∈m,x.1∈wl cws
def bZ5(hL:∀c∈cws,c.length<=7/\∀d∈c,aX d){w:Wt}(hw:w∈wl cws){f:Nat}(hf:f∈chW cws w):kU f:=by
 obtain⟨h1,h2,h3⟩:=wlP_mem.mp hw;have ecw:cws[w.1]?=some (cws.getD w.1 []):=by rw[Ac,Aa h1];rfl
 rcases ch_iff.mp hf with e|⟨n,_,h4,_,e⟩
 ·rw[e];exact .inl (nT (hL _ (Am ecw)).2 (by omega))
 ·rw[e];exact .inr ⟨by omega,by omega⟩
def cX3{m:List (Wt×Nat)}{first:Wt}{A:List (Nat×Wt)}(hm:HungOk cws m)(hfw:first∈wl cws)(h:Asking (chW cws) m first A){f:Nat}{w:Wt}(hj:A[j]?=some (f,w)):w∈wl cws:=by
 rcases (h.ok j f w hj).2 with e|⟨g,i,v,_,_,hg⟩
 ·rw[e];exact hfw
 ·exact hm.sub _ (zZ hg)
def aZT{m:List (Wt×Nat)}{first:Wt}{A:List (Nat×Wt)}(hm:HungOk cws m)(hfw:first∈wl cws)(hL:∀c∈cws,c.length<=7/\∀d∈c,aX d)(h:Asking (chW cws) m first A):A.length<=27:=by
 have r:=bJD (m:=flagsT.cps.toList) h.nd λf hf=>by
  obtain⟨x,hx,rfl⟩:=Bb.mp hf;obtain⟨j,hj,e⟩:=Bm.mp hx;have hj2:A[j]?=some (x.1,x.2):=by rw[Aa hj,e]
  exact flags_mem.mpr (bZ5 hL (cX3 hm hfw h hj2) (h.ok j _ _ hj2).1)
 rw[Ab]at r;exact r
def kY:Sp:=λvs H Q _=>∃(bf ac ah:Addr) (cws:List (List Nat)) (m:List (Wt×Nat)) (first:Wt),vs=[.ref bf,.ref ac,.ref ah]/\H bf=some (.tup (wV first))/\first∈wl cws/\ChRd H ac cws/\H ah=some (.dT (gK m))/\HungOk cws m/\m.length<=56/\cws.length<=8/\(∀c∈cws,c.length<=7/\∀d∈c,aX d)/\
 ∀(r:Addr) (A:List (Nat×Wt)) (bs:List Addr) (H':Hp),H r=none->Same H H'->H' r=some (.dK (fK A bs))->WtsAt H' bs (A.map (·.2))->Asked (chW cws) m first A->Q (.ref r) H'
def sc_asked_from:FnScope ["first", "choices", "hung", "asked", "reached", "at", "asking", "flag"] ["first", "choices", "hung"] (aJ fP):=by walk_at "sc"
def tY(F:Fun K "asked_from" "asked_from" fP f fd)(G:Gs K mg w Zu Zz Zv Zx Z0 Zw Zy):FnOk P w K mg base CX0 1 f fd ["first", "choices", "hung"] kY:=by
 refine F.ok sc_asked_from (λvs H Q E h=>?_) (λcdv A outer s H vs Q E hr h=>?_)
 ·obtain⟨bf,ac,ah,cws,m,first,rfl,_⟩:=h;rfl
 obtain⟨bf,ac,ah,cws,m,first,rfl,hbf,hfw,hch,hah,hm,hml,h8,hL,q⟩:=h
 refine⟨_,(@aE _ _ _ _ _ (aO 3 sc_asked_from.nd oA) (@aE _ _ _ _ _ (aO 4 sc_asked_from.nd (cG (aA (mv 0) aB))) (@aE _ _ _ _ _ (aO 5 sc_asked_from.nd aK) (@aE _ _ _ _ _ (mW Bu (aZ xN (mv 5) (aP bS rfl G.b_len bH (aA (mv 4) aB)) (aW _)) (@aE _ _ _ _ _ (aO 6 sc_asked_from.nd (bF bV (mv 4) (mv 5) (λ_ _=>rfl))) (@aE _ _ _ _ _ (dA Bu rfl (bX (gP (Room.u1 hr) (mv 1) (mv 6) (λ_ _=>rfl))) (bE (i:=7) sc_asked_from.nd rfl (Or.inr rfl)) (@aH _ _ _ (cI (aZ (zK (Room.u1 hr)) (mv 7) (mv 3) (by rfl)) (@aE _ _ _ _ _ (fT (Room.u1 hr) (mv 3) (mv 7) (mv 6) rfl) (@aH _ _ _ (dB (bN By Gq Gr cQW (mv 4) (aA (bZK (cL rfl (nI (mv 2)) (eF (N:=["want", "flag", "hung"]) ["first", "choices", "hung", "asked", "reached", "at", "asking", "flag"] (aJ fP) [none,some 7,some 2] rfl rfl rfl (λx h=>bO h) (by decide +kernel)) (by decide +kernel) rfl (by decide +kernel) (λ_ _ _ _=>(bE (i:=0) (show List.Nodup (["want", "flag", "hung"]:List Str) by decide +kernel) rfl (Or.inl rfl))) (λ_ _ _ _=>(iO (aZ oJ (gP (Room.u1 hr) (mv 2) (mv 0) (λ_ _=>rfl)) (mv 1) (aW _)))) (λ_ _ _ _=>(mv 0)))) aB))))) bK))) (@aH _ _ _ (aO 5 sc_asked_from.nd (aS bW (mv 5) aK)))))) (@aH _ _ _ (aY (mv 3))))))),?_⟩
 walk_at "go";intro pa hpa;walk_at "go";refine⟨by show 1<=sizeLine;decide,λpr hpr=>?_⟩
 have s1:=(aF hpa (.dK [])).trans (aF hpr (.lst [.ref bf]))
 have npr:pa≠pr:=λz=>by rw[<-z,aD]at hpr;cases hpr
 have ea1:(upd (upd H pa (.dK [])) pr (.lst [.ref bf])) pa=some (.dK []):=by rw[aG npr,aD]
 have er1:(upd (upd H pa (.dK [])) pr (.lst [.ref bf])) pr=_:=aD
 have hpr0:H pr=none:=none_of (aF hpa _) hpr
 generalize upd (upd H pa (.dK [])) pr (.lst [.ref bf])=H1 at s1 ea1 er1 ⊢;walk_at "go";refine ⟨λn σ H'=>∃ (A:List (Nat×Wt)) (bs rs:List Addr) (t:Nat) (v1 v2:Option V),σ=[some (.ref bf),some (.ref ac),some (.ref ah),some (.ref pa),some (.ref pr),some (.int (t:Int)),v1,v2]/\Same H H'/\H' pa=some (.dK (fK A bs))/\WtsAt H' bs (A.map (·.2))/\H' pr=some (.lst (rs.map V.ref))/\WtsAt H' rs (cH m first A)/\
     Asking (chW cws) m first A/\t<=(cH m first A).length/\(∀(j:Nat) w,j<t->(cH m first A)[j]?=some w->∀f∈chW cws w,f∈A.map (·.1))/\n=1+m.length-t,⟨_,[],[],[bf],0,_,_,rfl,s1,ea1,⟨rfl,λj r w hr=>(nomatch hr)⟩,er1,.one (s1 _ _ hbf),⟨Gf,λj f w hj=>(nomatch hj)⟩,Cy _,λj w hj=>absurd hj (Fs _),rfl⟩,?_⟩
 rintro n σ H2 ⟨A,bs,rs,t,v1,v2,rfl,s2,ea2,wb2,er2,wr2,hask,htl,hcl,rfl⟩;have hrl:(rs.map V.ref).length=(cH m first A).length:=by rw[Ab,wr2.1]
 have rr2:=aM er2
 walk_at "go";rw[hrl];refine gS (λhd=>?_) (λhd=>?_)
 ·have hd':=Bg hd
  have ht:t<(cH m first A).length:=by omega
  have hrm:=vJ (m:=m) (first:=first) hask.nd
  have htr:t<rs.length:=by rw[wr2.1];exact ht
  have ew:(cH m first A)[t]?=some (cH m first A)[t]:=Aa ht
  have er:rs[t]?=some rs[t]:=Aa htr
  have hwt:=wr2.2 t _ _ er ew
  have hww:(cH m first A)[t]∈wl cws:=by
   rcases reach_mem.mp (Bx ht) with e|⟨f,_,hm2⟩
   ·rw[e];exact hfw
   ·exact hm.sub _ hm2
  generalize hbw:rs[t]=b at hwt er;generalize hwe:(cH m first A)[t]=w at hwt hww ew
  clear hbw hwe hd hd';obtain⟨ds,d1,d2,d3⟩:=id hch;obtain⟨jw,hjw,ejw⟩:=Bm.mp hww;have ejw2:(wl cws)[jw]?=some w:=by rw[Aa hjw,ejw]
  have edw:ds[jw]?=some (ds[jw]'(by omega)):=Aa (by omega)
  have hdlH:=d3 jw w _ ejw2 edw
  have hdv:=bXL (pB cws cws.length) d1 ejw2 edw
  generalize (ds[jw]'(by omega))=dl at hdlH hdv
  have hdl:=s2 _ _ hdlH
  have d22:Rd H2 ac (.dT (dQ (wl cws) ds)):=d2.elim (λe=>.inl (s2 _ _ e)) λ⟨o,e⟩=>.inr ⟨o,s2 _ _ e⟩
  refine⟨λσ' H'=>∃(A:List (Nat×Wt)) (bs rs:List Addr) (v1 v2:Option V),σ'=[some (.ref bf),some (.ref ac),some (.ref ah),some (.ref pa),some (.ref pr),some (.int ((t+1:Nat):Int)),v1,v2]/\Same H H'/\H' pa=some (.dK (fK A bs))/\WtsAt H' bs (A.map (·.2))/\H' pr=some (.lst (rs.map V.ref))/\WtsAt H' rs (cH m first A)/\
   Asking (chW cws) m first A/\t+1<=(cH m first A).length/\(∀(j:Nat) w,j<t+1->(cH m first A)[j]?=some w->∀f∈chW cws w,f∈A.map (·.1)),?_,?_⟩
  ·rintro σ' H' ⟨A',bs',rs',v1',v2',rfl,g1,g2,g3,g4,g5,g6,g7,g8⟩;exact⟨1+m.length-(t+1),by omega,A',bs',rs',t+1,v1',v2',rfl,g1,g2,g3,g4,g5,g6,g7,g8,rfl⟩
  walk_at "go";refine cD rr2 (v:=.ref b) (bC (by rw[Af,er];rfl)) ?_
  walk_at "go";refine aXT (k:=dD w) d22 hwt hdv ?_;have rdl:=aM hdl
  have hcl5:=(dXB (cws.getD w.1 []) (w.2-1)).2
  have hcm:(((chW cws w).map one).map V.str).length=(chW cws w).length:=by rw[Ab,Ab]
  walk_at "go";have kt:∀ {H':Hp} {p:Addr} {u u':HO},H' p=some u->(∀ws,u≠.tup ws)->∀r w,H' r=some (.tup (wV w))->(upd H' p u') r=some (.tup (wV w)):=fun {H' p u u'} e ne r w h=>by
   rw[aG (λz=>by rw[z,e]at h;cases h;exact ne _ rfl)]
   exact h
  refine gN (xs:=((chW cws w).map one).map V.str) (λi σ H'=>∃ (A:List (Nat×Wt)) (bs rs:List Addr) (v2:Option V),σ=[some (.ref bf),some (.ref ac),some (.ref ah),some (.ref pa),some (.ref pr),some (.int (t:Int)),some (.ref b),v2]/\Same H H'/\H' pa=some (.dK (fK A bs))/\WtsAt H' bs (A.map (·.2))/\H' pr=some (.lst (rs.map V.ref))/\WtsAt H' rs (cH m first A)/\
      H' b=some (.tup (wV w))/\Asking (chW cws) m first A/\(cH m first A)[t]?=some w/\(∀(j:Nat) v,j<t->(cH m first A)[j]?=some v->∀f∈chW cws v,f∈A.map (·.1))/\∀f∈(chW cws w).take i,f∈A.map (·.1))
   ⟨A,bs,rs,_,rfl,s2,ea2,wb2,er2,wr2,hwt,hask,ew,hcl,λf hf=>(nomatch hf)⟩ (λi σ H' _ ⟨_,_,_,_,_,e,_⟩=>aM (e _ _ hdlH)) ?_ ?_
  ·clear hask ew hcl hrm htl hrl rr2 wr2 er2 wb2 ea2 er;rintro i x σ H3 hx ⟨A,bs,rs,v2,rfl,s3,ea,wb,er,wr,hb,hask,ew,hcl,hpre⟩;rw[Af,Af]at hx;cases ef:(chW cws w)[i]? with
   |none=>rw[ef]at hx;cases hx
   |some f=>
    rw[ef]at hx;cases hx;have hfc:=Am ef
    have htk:(chW cws w).take (i+1)=(chW cws w).take i++[f]:=by rw[Bh,ef];rfl
    have hbl:bs.length=A.length:=by rw[wb.1,Ab]
    have hAl:=aZT hm hfw hL hask
    walk_at "go";refine cQH (neg:=true) (z:=one f) (.inl ea) ?_;rw[if_pos rfl,kJ hbl];refine gS (λhd=>?_) (λhd=>?_)
    ·have hni:f∉A.map (·.1):=λz=>by rw[An z]at hd;cases hd
     walk_at "go";refine iI (z:=one f) ea (bD (by rw[qV hbl];omega)) ?_
     rw[jK _ (bQ0 hbl hni),<-bX6 (x:=(f,w)) hbl];have s4:Same H (upd H3 pa (.dK (fK (A++[(f,w)]) (bs++[b])))):=bL hpa s3
     have ea4:(upd H3 pa (.dK (fK (A++[(f,w)]) (bs++[b])))) pa=_:=aD
     have er4:(upd H3 pa (.dK (fK (A++[(f,w)]) (bs++[b])))) pr=_:=(aG (Ne.symm npr)).trans er
     have k4:=kt (u':=.dK (fK (A++[(f,w)]) (bs++[b]))) ea (λws z=>nomatch z)
     have wb4:=wb.keep k4
     have wr4:=wr.keep k4
     have hb4:=k4 _ _ hb
     generalize upd H3 pa (.dK (fK (A++[(f,w)]) (bs++[b])))=H4 at s4 ea4 er4 wb4 wr4 hb4 ⊢;have ah4:=s4 _ _ hah
     clear k4 wb wr er ea s3 hb;walk_at "go";refine wB ah4 λo=>?_;have fz:(upd H4 ah (.frz o (.dT (gK m)))) ah=_:=aD
     have hkl:(gK m).length=m.length:=by unfold gK;rw[Ab]
     refine kD (n:=m.length) (λD i ys Hc=>Same (upd H4 ah (.frz o (.dT (gK m)))) Hc/\∃qs,ys=qs.map V.ref/\WtsAt Hc qs (dX (m.take i) f)) (bD (by omega)) (λD hD=>⟨aF hD _,[],rfl,rfl,λj r w hr=>(nomatch hr)⟩) (λD i ys Hc _ r h=>⟨r.1 _ _ fz,by omega⟩) (λD ys Hc _ r=>⟨r.1 _ _ fz,hkl⟩) ?_ ?_
     ·rintro D i2 ys Hc x H' A' B' hD hi2 ⟨sm,qs,rfl,wq⟩ hDc ⟨rfl,kv,b2,hkv,rfl,hb2⟩ hA' hB';have em:m[i2]?=some m[i2]:=Aa hi2
      unfold gK at hkv;rw[Af,em]at hkv;cases hkv;have hbt:H' b2=some (.tup (wV m[i2].1)):=hb2
      have hv:bY (gK m) (dD m[i2].1)=some (.str (one m[i2].2)):=by
       rw[jT,nK hm.nd (w:=m[i2].1) (f:=m[i2].2) (Bx hi2)];rfl
      have tk:m.take (i2+1)=m.take i2++[m[i2]]:=by rw[Bh,em];rfl
      rw[tk]at hA' hB';generalize m[i2]=x2 at hbt hv hA' hB';walk_at "go";refine⟨Wk.set rfl (Wk.refl _),?_⟩;walk_at "go";refine aXT (k:=dD x2.1) (.inr ⟨o,sm _ _ fz⟩) hbt hv ?_;walk_at "go";rw[show decide (one x2.2=one f)=decide (x2.2=f) from aJG _ _];refine gS (λhe=>?_) (λhe=>?_)
      ·have he':=Bg he
       walk_at "go";refine hA' _ _ hDc ⟨bL hD sm,qs++[b2],by rw[Ar];rfl,?_⟩
       rw[show dX (m.take i2++[x2]) f=dX (m.take i2) f++[x2.1] by unfold dX;rw[List.filter_append,List.map_append];simp[he']]
       exact(wq.app (.one hbt)).keep (kt hDc (λws z=>nomatch z))
      ·have he':=Cf (Cd.mpr he)
       walk_at "go";refine hB' _ hDc ⟨sm,qs,rfl,?_⟩;rw[show dX (m.take i2++[x2]) f=dX (m.take i2) f by unfold dX;rw[List.filter_append,List.map_append];simp[he']]
       exact wq
     ·rintro D ys Hc hD ⟨sm,qs,rfl,wq⟩ hDc _;rw [Cj] at wq;have hD4:H4 D=none:=by
       by_cases z:D=ah
       ·rw[z,aD]at hD;cases hD
       ·rw[aG z]at hD;exact hD
      have su:=sU ah4 (λo v z=>nomatch z) sm
      have eu:=dY (Hs:=H4) hDc (λo v z=>nomatch z)
      have wqu:WtsAt (unf H4 Hc) qs (dX m f):=wq.keep λr w h=>dY h (λo v z=>nomatch z)
      generalize unf H4 Hc=Hu at su eu wqu;have eru:=su _ _ er4
      have hmr:=cC eru
      have hmd:=cC eu
      have nDr:pr≠D:=bG er4 hD4
      have hq1:qs.length<=56:=by rw[wqu.1,aZI];unfold ctm;exact Ca List.countP_le_length hml
      have hr1:rs.length<=57:=by rw[wr4.1];exact Ca (vJ hask.nd) (by omega)
      have hlen:(rs.map V.ref).length+(qs.map V.ref).length<=sizeLine:=bJ (by rw[Ab,Ab];omega)
      walk_at "go";have kr:=kt (u':=.lst (rs.map V.ref++qs.map V.ref)) eru (λws z=>nomatch z)
      have hRt:=(Ae.mp ew).1
      refine⟨A++[(f,w)],bs++[b],rs++qs,_,rfl,bL hpr0 (s4.trans su),?_,?_,?_,?_,?_,hask.snoc hm.nd hni hfc (Am ew),?_,λj v hj hv=>?_,λg hg=>?_⟩
      ·rw[aG npr];exact su _ _ ea4
      ·rw[Ar];exact((wb4.keep λr w h=>su _ _ h).app (.one (su _ _ hb4))).keep kr
      ·rw[aD,Ar]
      ·rw[mK];exact((wr4.keep λr w h=>su _ _ h).app wqu).keep kr
      ·exact kr _ _ (su _ _ hb4)
      ·rw[mK,Ax hRt];exact ew
      ·rw[mK,Ax (by omega)]at hv
       intro g hg;rw[Ar];exact Dv _ (hcl j v hj hv g hg)
      ·rw[htk]at hg;rw[Ar];rcases Bo.mp hg with z|z
       ·exact Dv _ (hpre g z)
       ·rw[Ap.mp z];exact Br _ (Ap.mpr rfl)
    ·have hin:f∈A.map (·.1):=by
      rw[Bool.not_eq_true,Bool.not_eq_false']at hd;exact Bg hd
     walk_at "go";refine⟨A,bs,rs,_,rfl,s3,ea,wb,er,wr,hb,hask,ew,hcl,λg hg=>?_⟩;rw[htk]at hg;rcases Bo.mp hg with z|z
     ·exact hpre g z
     ·rw[Ap.mp z];exact hin
  ·clear hask ew hcl hrm htl hrl rr2 wr2 er2 wb2 ea2 er;rintro σ H3 ⟨A,bs,rs,v2,rfl,s3,ea,wb,er,wr,hb,hask,ew,hcl,hpre⟩;rw[hcm,Cj]at hpre;walk_at "go";refine⟨A,bs,rs,_,_,rfl,s3,ea,wb,er,wr,hask,(Ae.mp ew).1,λj v hj hv=>?_⟩;by_cases hjt:j<t
   ·exact hcl j v hjt hv
   ·have:j=t:=by omega
    subst this;rw[ew]at hv;cases hv;exact hpre
 ·have hd':=Cf (Cd.mpr hd)
  walk_at "go";refine q pa A bs H2 hpa s2 ea2 wb2 (hask.done λw hw f hf=>?_);obtain⟨j,hj,ej⟩:=Bm.mp hw;exact hcl j w (by omega) (by rw[Aa hj,ej]) f hf
def yJ{m:List (Wt×Nat)}{w:Wt}{f:Nat}:cM (gK m) (dD w) (.str (one f))=gK (bX9 m w f):=by
 have e:((gK m).any λkv=>decide (kv.1=dD w))=(dO m w).isSome:=by
  rw[fG,jT];cases dO m w<;>rfl
 unfold cM bX9;rw[e];by_cases h:(dO m w).isSome=true
 ·rw[if_pos h,if_pos h];unfold gK;rw[Cm,Cm];refine Di λx _=>?_;show (if dD x.1=dD w then (dD x.1,V.str (one f)) else (dD x.1,V.str (one x.2)))=(λx:Wt×Nat=>(dD x.1,V.str (one x.2))) (if x.1=w then (x.1,f) else x)
  by_cases ex:x.1=w
  ·rw[if_pos ex,if_pos (by rw[ex])]
  ·rw[if_neg ex,if_neg (λz=>ex (mR z))]
 ·rw[if_neg h,if_neg h];unfold gK;rw[Ar];rfl
def lL:Sp:=λvs H Q _=>∃(aa ah:Addr) (cws:List (List Nat)) (m:List (Wt×Nat)) (first:Wt) (A:List (Nat×Wt)) (bs:List Addr) (f0:Nat),vs=[.str (one f0),.ref aa,.ref ah]/\H aa=some (.dK (fK A bs))/\WtsAt H bs (A.map (·.2))/\Asking (chW cws) m first A/\H ah=some (.dT (gK m))/\(m.map (·.1)).Nodup/\first∉m.map (·.1)/\(∀v f,(v,f)∈m->f∈chW cws v)/\f0∈A.map (·.1)/\m.length<=56/\
 ∀(m':List (Wt×Nat)) (H':Hp),(∀b u,b≠ah->H b=some u->H' b=some u)->H' ah=some (.dT (gK m'))->m'.map (·.1)=m.map (·.1)++[first]->(∀v f,(v,f)∈m'->f∈chW cws v)->(∀f,ctm m' f=ctm m f+(if f=f0 then 1 else 0))->Q .non H'
def sc_hang_along:FnScope ["flag", "asked", "hung", "want", "given"] ["flag", "asked", "hung"] (aJ iH):=by walk_at "sc"
def tW(F:Fun K "hang_along" "hang_along" iH f fd)(G:Gs K mg w Zu Zz Zv Zx Z0 Zw Zy):FnOk P w K mg base CX0 1 f fd ["flag", "asked", "hung"] lL:=by
 refine F.ok sc_hang_along (λvs H Q E h=>?_) (λcdv A outer s H vs Q E hr h=>?_)
 ·obtain⟨aa,ah,cws,m,first,A,bs,f0,rfl,_⟩:=h;rfl
 obtain⟨aa,ah,cws,m,first,A,bs,f0,rfl,haa,hwb,hask,hah,nd,hnf,hmc,hf0,hml,q⟩:=h
 refine⟨_,(@aH _ _ _ (mW Bu (aZ qY (mv 0) cZ (aW _)) (@aE _ _ _ _ _ (aO 3 sc_hang_along.nd (gP (Room.u1 hr) (mv 1) (mv 0) (λ_ _=>rfl))) (@aE _ _ _ _ _ (aO 4 sc_hang_along.nd (hZ Cc Ed (cZH (Room.u1 hr)) (mv 2) (aA (mv 3) aB))) (@aE _ _ _ _ _ (fT (Room.u1 hr) (mv 2) (mv 3) (mv 0) rfl) (@aH _ _ _ (aO 0 sc_hang_along.nd (mv 4)))))))),?_⟩;have hbl:bs.length=A.length:=by rw[hwb.1,Ab]
 have nah:aa≠ah:=λz=>by rw[z,hah]at haa;cases haa
 obtain⟨x0,hx0,e0⟩:=Bb.mp hf0;obtain⟨j0,hj0,ej0⟩:=Bm.mp hx0;have ej:A[j0]?=some (f0,x0.2):=by rw[Aa hj0,ej0,<-e0]
 walk_at "go";refine ⟨λn σ H'=>(∃ (m2:List (Wt×Nat)) (c j:Nat) (w:Wt) (v1 v2:Option V),σ=[some (.str (one c)),some (.ref aa),some (.ref ah),v1,v2]/\(∀ b u,b≠ah->H b=some u->H' b=some u)/\H' ah=some (.dT (gK m2))/\Along (chW cws) m A f0 m2 c j w/\n=j+1)\/
     (∃(m':List (Wt×Nat)) (v1 v2:Option V),σ=[some .non,some (.ref aa),some (.ref ah),v1,v2]/\(∀b u,b≠ah->H b=some u->H' b=some u)/\H' ah=some (.dT (gK m'))/\m'.map (·.1)=m.map (·.1)++[first]/\(∀v f,(v,f)∈m'->f∈chW cws v)/\(∀f,ctm m' f=ctm m f+(if f=f0 then 1 else 0))/\n=0),
  ⟨_,.inl ⟨m,f0,j0,x0.2,none,none,rfl,λb u _ h=>h,hah,⟨rfl,hmc,λf=>rfl,ej,λv g i u hg _ _=>hg⟩,rfl⟩⟩,?_⟩
 rintro n σ H2 (⟨m2,c,j,w,v1,v2,rfl,fr,eh,al,rfl⟩|⟨m',v1,v2,rfl,fr,eh,hk,hc,hct,rfl⟩)
 ·walk_at "go";rw[show (!decide (V.str (one c)=V.non))=true from rfl];walk_at "go";have hjl:=(Ae.mp al.at_).1
  have ebj:bs[j]?=some (bs[j]'(by omega)):=Aa (by omega)
  have hbt:=hwb.2 j _ w ebj (by rw[Af,al.at_];rfl)
  have hav:=bJI hask.nd hbl al.at_ ebj
  generalize (bs[j]'(by omega))=b at hbt hav
  have nb:b≠ah:=λz=>by rw[z,hah]at hbt;cases hbt
  have haa2:=fr _ _ nah haa
  have hb2:=fr _ _ nb hbt
  have hkl:(gK m2).length<sizeLine:=by
   have:m2.length=m.length:=by rw[<-Ab (f:=(·.1)) (as:=m2),al.keys,Ab]
   unfold gK;rw[Ab];exact bD (by omega)
  have hdd:isD H2 ah=true:=by unfold isD;rw[eh]
  refine⟨_,λσ' H' h=>h,?_⟩;walk_at "go";refine sN (z:=one c) (.inl haa2) hav ?_;walk_at "go";refine aJ0 (k:=dD w) (.inl eh) hb2 ?_;rw[jT];have fr2:∀o,∀b u,b≠ah->H b=some u->(upd H2 ah o) b=some u:=λo b u hb hu=>by rw[aG hb];exact fr b u hb hu
  rcases (hask.ok j c w al.at_).2 with rfl|⟨g,i,v,hij,hi,hg⟩
  ·obtain⟨l1,l2,l3,l4⟩:=al.last hask hnf;rw[l1];walk_at "go";refine yD (k:=dD w) eh hb2 hkl ?_;rw[yJ,show bX9 m2 w c=m2++[(w,c)] by unfold bX9;rw[l1];rfl]
   walk_at "go";exact⟨0,by omega,.inr ⟨m2++[(w,c)],_,_,rfl,fr2 _,aD,l2,l3,l4,rfl⟩⟩
  ·obtain⟨l1,l2⟩:=al.step hask nd hg hi hij;rw[l1];walk_at "go";refine yD (k:=dD w) eh hb2 hkl ?_;rw[yJ,show bX9 m2 w c=m2.map λx=>if x.1=w then (x.1,c) else x by unfold bX9;rw[l1];rfl]
   walk_at "go";exact⟨i+1,by omega,.inl ⟨_,g,i,v,_,_,rfl,fr2 _,aD,l2,rfl⟩⟩
 ·walk_at "go";exact q m' H2 fr eh hk hc hct
def nN(aC:Addr):Sp:=λvs H Q _=>∃(ea p q:Addr) (xs ys:List V),vs=[.ref ea,.ref p,.ref q]/\H ea=some (eS ea aC none)/\rdL H p=some xs/\rdL H q=some ys/\
 ∀(dx l1 l2:Addr) (H':Hp),(∀b u,b≠ea->H b=some u->H' b=some u)->H dx=none->dx≠ea->H' ea=some (eS ea aC (some dx))->H' dx=some (xdO dx [("flags",.ref l2),("wants",.ref l1)])->H' l1=some (.lst xs)->H' l2=some (.lst ys)->H l1=none->H l2=none->Q .non H'
def yB:FnScope ["self", "wants", "flags"] ["self", "wants", "flags"] (aJ kC):=by walk_at "sc"
def wM(F:Fun K "__init__" "Lack.__init__" kC f fd)(G:Gs K mg w Zu Zz Zv Zx Z0 Zw Zy):FnOk P w K mg base CX0 1 f fd ["self", "wants", "flags"] (nN Zu):=by
 refine F.ok yB (λvs H Q E h=>?_) (λcdv A outer s H vs Q E hr h=>?_)
 ·obtain⟨ea,p,q,xs,ys,rfl,_⟩:=h;rfl
 obtain⟨ea,p,q,xs,ys,rfl,he,hp,hq,qq⟩:=h;refine⟨_,(@aE _ _ _ _ _ (dB (zE rfl G.c_TowerError G.t1_TowerError G.t2_TowerError G.t3_TowerError (aA (mv 0) (aA (cB lZ rfl G.b_list eY (aA (mv 1) aB)) (aA (cB lZ rfl G.b_list eY (aA (mv 2) aB)) aB))))) (@aE _ _ _ _ _ (wD (mv 0) (cB lZ rfl G.b_list eY (aA (mv 1) aB)) rfl) (@aH _ _ _ (wD (mv 0) (cB lZ rfl G.b_list eY (aA (mv 2) aB)) rfl)))),?_⟩;walk_at "go";intro l1 hl1;have s1:=aF hl1 (.lst xs)
 generalize upd H l1 (.lst xs)=H1 at s1 ⊢;have hq1:=aI s1 hq
 walk_at "go";intro l2 hl2;have s2:=s1.trans (aF hl2 (.lst ys))
 generalize upd H1 l2 (.lst ys)=H2 at s2 ⊢;have he2:=s2 _ _ he
 walk_at "go";refine⟨ea,[.ref l1,.ref l2],Zu,Zz,none,rfl,by show 2<=sizeLine;decide,he2,(λ_ z=>nomatch z),G.xc_Lack,?_⟩
 have hp2:=aI s2 hp
 walk_at "go";intro l3 hl3;have s3:=s2.trans (aF hl3 (.lst xs))
 have e3:(upd H2 l3 (.lst xs)) l3=_:=aD
 generalize upd H2 l3 (.lst xs)=H3 at s3 e3 ⊢;have he3:=s3 _ _ he
 walk_at "go";refine⟨ea,Zu,Zz,rfl,G.xc_Lack,G.xn_Lack_wants,.inl ⟨he3,λdx hdx=>?_⟩⟩;have nde:dx≠ea:=λz=>by rw[z,he3]at hdx;cases hdx
 have fr4:∀b u,b≠ea->H b=some u->(upd (upd H3 ea (eS ea Zu (some dx))) dx (xdO dx [("wants",.ref l3)])) b=some u:=λb u hb hu=>by
  have e:=s3 _ _ hu
  rw[aG (λz=>by rw[z,hdx]at e;cases e),aG hb]
  exact e
 have ee4:(upd (upd H3 ea (eS ea Zu (some dx))) dx (xdO dx [("wants",.ref l3)])) ea=some (eS ea Zu (some dx)):=by rw[aG nde.symm,aD]
 have ed4:(upd (upd H3 ea (eS ea Zu (some dx))) dx (xdO dx [("wants",.ref l3)])) dx=_:=aD
 have n3e:l3≠ea:=λz=>by rw[z,he3]at e3;cases e3
 have n3d:l3≠dx:=λz=>by rw[z,hdx]at e3;cases e3
 have el4:(upd (upd H3 ea (eS ea Zu (some dx))) dx (xdO dx [("wants",.ref l3)])) l3=some (.lst xs):=by rw[aG n3d,aG n3e];exact e3
 have hqe:q≠ea:=λz=>by rw[z]at hq;unfold rdL at hq;rw[he]at hq;cases hq
 have hq4:rdL (upd (upd H3 ea (eS ea Zu (some dx))) dx (xdO dx [("wants",.ref l3)])) q=some ys:=by
  have hq3:=aI s3 hq
  rw[tG (λz=>by rw[z]at hq3;unfold rdL at hq3;rw[hdx]at hq3;cases hq3),tG hqe]
  exact hq3
 generalize upd (upd H3 ea (eS ea Zu (some dx))) dx (xdO dx [("wants",.ref l3)])=H4 at fr4 ee4 ed4 el4 hq4 ⊢;walk_at "go";intro l4 hl4;have s5:=aF hl4 (.lst ys)
 have e5:(upd H4 l4 (.lst ys)) l4=_:=aD
 have ee5:=s5 _ _ ee4
 have ed5:=s5 _ _ ed4
 have el5:=s5 _ _ el4
 have n4d:l4≠dx:=λz=>by rw[z,ed4]at hl4;cases hl4
 have n4e:l4≠ea:=λz=>by rw[z,ee4]at hl4;cases hl4
 have h40:H l4=none:=by
  cases e:H l4 with
  |none=>rfl
  |some u=>rw[fr4 _ _ n4e e]at hl4;cases hl4
 generalize upd H4 l4 (.lst ys)=H5 at s5 e5 ee5 ed5 el5 ⊢;walk_at "go";refine⟨ea,Zu,Zz,rfl,G.xc_Lack,G.xn_Lack_flags,.inr ⟨dx,_,ee5,ed5,(by show 1<100;decide),?_⟩⟩
 refine qq dx l3 l4 _ (λb u hb hu=>?_) (none_of s3 hdx) nde (by rw[aG nde.symm];exact ee5) aD (by rw[aG n3d];exact el5) (by rw[aG n4d];exact e5) (none_of s2 hl3) h40
 have e:=s5 _ _ (fr4 b u hb hu)
 rw[aG (λz=>by have q9:=s3 _ _ hu;rw[z,hdx]at q9;cases q9)]
 exact e
structure LackOk (cws:List (List Nat)) (n:Nat->Int) (W:List Wt) (F:List Nat):Prop where
 sub:W.Sublist (wl cws)
 flags:∃p:Nat->Bool,F=flagsT.cps.toList.filter p
 all:∀w∈W,∀f∈chW cws w,f∈F
 few:(F.map n).sum<(W.length:Int)
def ctn(fs:List Nat)(c:Nat):Nat:=fs.countP λx=>decide (x=c)
def uU(g:Nat->Nat):∀L:List Nat,(L.map λc=>((g c:Nat):Int)).sum=(((L.map g).sum:Nat):Int)
 |[]=>rfl
 |c::r=>by
  rw[Aq,Dt,Aq,Dt,uU g r];omega
def dQV{n0:Nat->Int}{m:List (Wt×Nat)}{first:Wt}{A:List (Nat×Wt)}{fl:Nat->Option Int}{l r:List Wt}(hw:wl cws=l++first::r)(hk:m.map (·.1)=l)(hL:∀c∈cws,c.length<=7/\∀d∈c,aX d)(hmo:HungOk cws m)(hfw:first∈wl cws)(hA:Asked (chW cws) m first A)(hct:∀c,aR fl c=n0 c-(ctm m c:Int)/\0<=aR fl c)(h0:∀c∈A.map (·.1),¬0<aR fl c):LackOk cws n0 (jU m first A (wl cws)) (flagsT.cps.toList.filter λc=>decide (c∈A.map (·.1))):=by
 have hAf:∀c∈A.map (·.1),kU c:=λc hc=>by
  obtain⟨x,hx,rfl⟩:=Bb.mp hc;obtain⟨j,hj,e⟩:=Bm.mp hx;have hj2:A[j]?=some (x.1,x.2):=by rw[Aa hj,e]
  exact bZ5 hL (cX3 hmo hfw hA.toAsking hj2) (hA.ok j _ _ hj2).1
 have hF:∀c,c∈flagsT.cps.toList.filter (λc=>decide (c∈A.map (·.1))) ↔ c∈A.map (·.1):=λc=>by
  rw[Cr,Bw];exact⟨λh=>h.2,λh=>⟨flags_mem.mpr (hAf c h),h⟩⟩
 have ndF:(flagsT.cps.toList.filter λc=>decide (c∈A.map (·.1))).Nodup:=List.Nodup.sublist List.filter_sublist (by decide)
 have nd:=pB cws cws.length
 replace nd:(wl cws).Nodup:=nd
 refine⟨List.filter_sublist,⟨_,rfl⟩,λw hwm f hf=>?_,?_⟩
 ·refine(hF f).mpr ?_;have h2:=(lackW_mem.mp hwm).2
  by_cases e:w=first
  ·subst e;exact hA.all1 f hf
  ·cases eg:dO m w with
   |none=>rw[qZ e eg]at h2;cases h2
   |some g=>
    rw[rC e eg]at h2;exact hA.all w g (zZ eg) (Bg h2) f hf
 ·have e1:(jU m first A (wl cws)).length=1+m.countP (λx=>decide (x.2∈A.map (·.1))):=by
   rw[hw]at nd ⊢;exact cXX hk nd
  have e2:m.countP (λx=>decide (x.2∈A.map (·.1)))=m.countP (λx=>decide (x.2∈flagsT.cps.toList.filter λc=>decide (c∈A.map (·.1)))):=by
   congr 1
   funext x
   exact Dx.mpr (hF x.2).symm
  have e3:=dJ6 m ndF
  have e4:(flagsT.cps.toList.filter λc=>decide (c∈A.map (·.1))).map n0=(flagsT.cps.toList.filter λc=>decide (c∈A.map (·.1))).map λc=>((ctm m c:Nat):Int):=Di λc hc=>by
   have h1:=hct c
   have h2:=h0 c ((hF c).mp hc)
   omega
  rw[e4,uU,e1,e2,e3];omega
def pK(aC:Addr):Sp:=λvs H Q E=>∃(a b:Addr) (kvs:List (Key×V)) (f:Nat->Option Int) (cws:List (List Nat)),vs=[.ref a,.ref b]/\Rd H a (.dK kvs)/\Lk kvs f/\rdL H b=some ((cws.map aQ).map V.str)/\cws.length<=8/\(∀c∈cws,c.length<=7/\∀d∈c,aX d)/\
 (∀(r:Addr) (ps:List Addr) (fs:List Nat) (H':Hp),H r=none->Same H H'->H' r=some (.lst (ps.map V.ref))->(∀p∈ps,p≠r)->Lsts H H' ps ((List.range cws.length).map (fO cws fs))->fs.length=(wl cws).length->(∀(j:Nat) w g,(wl cws)[j]?=some w->fs[j]?=some g->g∈chW cws w)->(∀c,(ctn fs c:Int)<=aR (bM (aR f)) c)->Q (.ref r) H')/\
 (∀(dx l1 l2:Addr) (rs:List Addr) (W:List Wt) (F:List Nat) (H':Hp),Same H H'->H' dx=some (xdO dx [("flags",.ref l2),("wants",.ref l1)])->H' l1=some (.lst (rs.map V.ref))->WtsAt H' rs W->H' l2=some (.lst ((F.map one).map V.str))->LackOk cws (aR (bM (aR f))) W F->H l1=none->H l2=none->E (.ref aC) (some dx) H')
def sc_hang_all:FnScope ["locker", "words", "choices", "left", "hung", "first", "asked", "free", "wants"] ["locker", "words"] (aJ dZ):=by walk_at "sc"
def zM(F:Fun K "hang_all" "hang_all" dZ f fd)(G:Gs K mg w Zu Zz Zv Zx Z0 Zw Zy)(c_choices_of:Cal P w K mg base 2 "choices_of" ["words"] kZ)(c_plain_locker:Cal P w K mg base 1 "plain_locker" ["locker"] cV)(c_hoists_of:Cal P w K mg base 1 "hoists_of" ["words", "flags"] oB)(c_asked_from:Cal P w K mg base 1 "asked_from" ["first", "choices", "hung"] kY)(c_hang_along:Cal P w K mg base 1 "hang_along" ["flag", "asked", "hung"] lL)(c_Lack_init:bJV P w K mg base 1 Zu ["self", "wants", "flags"] (nN Zu)):FnOk P w K mg base (CXr P w) 3 f fd ["locker", "words"] (pK Zu):=by
 refine F.okX sc_hang_all (λvs H Q E h=>?_) (λcdv A outer s H vs Q E hr h=>?_)
 ·obtain⟨a,b,kvs,f,cws,rfl,_⟩:=h;rfl
 obtain⟨a,b,kvs,f,cws,rfl,ha,lk,hb,h8,hL,q,qe⟩:=h;refine⟨_,(@aE _ _ _ _ _ (aO 2 sc_hang_all.nd (aU c_choices_of hr (by decide) rfl (aA (mv 1) aB))) (@aE _ _ _ _ _ (aO 3 sc_hang_all.nd (aU c_plain_locker hr (by decide) rfl (aA (mv 0) aB))) (@aE _ _ _ _ _ (@aXW _ _ 4 _ _ _ _ sc_hang_all.nd (by rfl) (by exact(Or.inr rfl)) aQB (by rfl) (by walk_at "o")) (@aE _ _ _ _ _ (aXR (dA PassesOwn.leaving rfl (nI (mv 2)) (bE (i:=5) sc_hang_all.nd rfl (Or.inr rfl)) (@aE _ _ _ _ _ (aO 6 sc_hang_all.nd (aU c_asked_from hr (by decide) rfl (aA (mv 5) (aA (mv 2) (aA (mv 4) aB))))) (@aE _ _ _ _ _ (aXR (eM (i:=7) sc_hang_all.nd rfl (Or.inl rfl) rfl (cZL (mv 6)) (eF (N:=["flag", "left"]) ["locker", "words", "choices", "left", "hung", "first", "asked", "free", "wants"] (aJ dZ) [none,some 3] rfl rfl rfl (λx h=>bO h) (by decide +kernel)) (by decide +kernel) rfl (by decide +kernel) (λ_ _ _ _=>(bE (i:=0) (show List.Nodup (["flag", "left"]:List Str) by decide +kernel) rfl (Or.inl rfl))) (λ_ _ _ _=>(iO (aZ yO (hZ Cc Ed (aZ0 (Room.u1 hr)) (mv 1) (aA (mv 0) (aA aK aB))) aK (aW _)))) (λ_ _ _ _=>(mv 0)))) (@aE _ _ _ _ _ (cI (aZ (sQ hr.units0) (mv 7) (cG aB) (aW _)) (@aE _ _ _ _ _ (aXR (eM (i:=8) sc_hang_all.nd rfl (Or.inl rfl) rfl (nI (mv 2)) (eF (N:=["want", "first", "asked", "hung"]) ["locker", "words", "choices", "left", "hung", "first", "asked", "free", "wants"] (aJ dZ) [none,some 5,some 6,some 4] rfl rfl rfl (λx h=>bO h) (by decide +kernel)) (by decide +kernel) rfl (by decide +kernel) (λ_ _ _ _=>(bE (i:=0) (show List.Nodup (["want", "first", "asked", "hung"]:List Str) by decide +kernel) rfl (Or.inl rfl))) (λ_ _ _ _=>(iO (PW.pt (pP (aZ (eZJ hr.units0) (mv 0) (mv 1) (aW _)) (jW (aZ (dZO (Room.u1 hr)) (hZ Cc Ed (cZH (Room.u1 hr)) (mv 3) (aA (mv 0) aB)) (mv 2) (by rfl))))))) (λ_ _ _ _=>(mv 0)))) (@aH _ _ _ (uX nW rfl rfl rfl G.c_Lack G.xm_Lack c_Lack_init hr (by decide) (aA (mv 8) (aA (cL rfl (sF (eO rfl G.s_FLAGS)) (eF (N:=["flag", "asked"]) ["locker", "words", "choices", "left", "hung", "first", "asked", "free", "wants"] (aJ dZ) [none,some 6] rfl rfl rfl (λx h=>bO h) (by decide +kernel)) (by decide +kernel) rfl (by decide +kernel) (λ_ _ _ _=>(bE (i:=0) (show List.Nodup (["flag", "asked"]:List Str) by decide +kernel) rfl (Or.inl rfl))) (λ_ _ _ _=>(iO (aZ (eX9 (Room.u1 hr)) (mv 0) (mv 1) (by rfl)))) (λ_ _ _ _=>(mv 0))) aB))))) bK) (@aE _ _ _ _ _ (fT (Room.u1 hr) (mv 3) (bF bV (mv 7) aK (λ_ _=>rfl)) (aS kW (gP (Room.u1 hr) (mv 3) (bF bV (mv 7) aK (λ_ _=>rfl)) (λ_ _=>rfl)) aK) rfl) (@aH _ _ _ (dB (aU c_hang_along hr (by decide) rfl (aA (bF bV (mv 7) aK (λ_ _=>rfl)) (aA (mv 6) (aA (mv 4) aB)))))))))))) (@aH _ _ _ (aY (aU c_hoists_of hr (by decide) rfl (aA (mv 1) (aA (bZK (cL rfl (nI (mv 2)) (eF (N:=["want", "hung"]) ["locker", "words", "choices", "left", "hung", "first", "asked", "free", "wants"] (aJ dZ) [none,some 4] rfl rfl rfl (λx h=>bO h) (by decide +kernel)) (by decide +kernel) rfl (by decide +kernel) (λ_ _ _ _=>(bE (i:=0) (show List.Nodup (["want", "hung"]:List Str) by decide +kernel) rfl (Or.inl rfl))) (λ_ _ _ _=>cQ) (λ_ _ _ _=>(gP (Room.u1 hr) (mv 1) (mv 0) (λ_ _=>rfl))))) aB))))))))),?_⟩
 have h7:∀c∈cws,c.length<=7:=λc hc=>(hL c hc).1
 have hlw:(wl cws).length<=56:=Ca (aJN h7 _) (by omega)
 walk_at "go";refine⟨b,cws,rfl,hb,h8,h7,λac H1 hac s1 hch=>?_⟩;walk_at "go";refine⟨a,kvs,f,rfl,ha.elim (λe=>.inl (s1 _ _ e)) (λ⟨o,e⟩=>.inr ⟨o,s1 _ _ e⟩),lk,λal H2 hal s2 el=>?_⟩;walk_at "go";intro ah hah;have s3:=s2.trans (aF hah (.dT []))
 have eh3:(upd H2 ah (.dT [])) ah=_:=aD
 have el3:=aF hah (.dT []) _ _ el
 generalize upd H2 ah (.dT [])=H3 at s3 eh3 el3 ⊢;obtain⟨ds,dl,ed,hds⟩:=hch;rw[Cj]at ed;have ed3:=s3 _ _ ed
 walk_at "go";refine wB ed3 λo=>?_;have fz:(upd H3 ac (.frz o (.dT (dQ (wl cws) ds)))) ac=_:=aD
 have kl:(dQ (wl cws) ds).length=(wl cws).length:=uP dl
 have nac:ah≠ac:=λz=>by have e:=s2 _ _ ed;rw[<-z,hah]at e;cases e
 have nla:al≠ac:=λz=>by rw[z,ed3]at el3;cases el3
 have nlh:al≠ah:=λz=>by rw[z,eh3]at el3;cases el3
 have s13:Same H1 H3:=s3
 have hah1:H1 ah=none:=none_of s2 hah
 generalize hn0:aR (bM (aR f))=n0;refine bZS (λi σ H'=>∃(m:List (Wt×Nat)) (kl2:List (Key×V)) (fl:Nat->Option Int) (v5 v6 v7 v8:Option V),σ=[some (.ref a),some (.ref b),some (.ref ac),some (.ref al),some (.ref ah),v5,v6,v7,v8]/\(∀p u,p≠ac->p≠al->p≠ah->H1 p=some u->H' p=some u)/\H' ac=some (.frz o (.dT (dQ (wl cws) ds)))/\H' ah=some (.dT (gK m))/\H' al=some (.dK kl2)/\Lk kl2 fl/\kl2.length<=27/\m.map (·.1)=(wl cws).take i/\(∀v g,(v,g)∈m->g∈chW cws v)/\(∀c,aR fl c=n0 c-(ctm m c:Int)/\0<=aR fl c))
  ⟨[],_,bM (aR f),_,_,_,_,rfl,λp u h1 h2 h3 hu=>by rw[aG h1];exact s13 _ _ hu,fz,by rw[aG nac];exact eh3,by rw[aG nla];exact el3,fU _,by unfold kvL;rw[Ab];exact iX _ _,rfl,(λv g hv=>nomatch hv),λc=>?_⟩ (λi σ H' _ ⟨_,_,_,_,_,_,_,_,_,e,_⟩=>e) ?_ ?_
 ·rw[hn0];refine⟨by show n0 c=n0 c-((0:Nat):Int);omega,?_⟩
  rw[<-hn0];show 0<=(bM (aR f) c).getD 0
  unfold bM;split
  ·rename_i h;exact Int.le_of_lt h.2
  ·exact Hw 0
 ·rintro i kv bf σ H4 hkv hbf ⟨m,kl2,fl,v5,v6,v7,v8,rfl,fr,ec,eh,el4,lkl,l27,hk,hmc,hct⟩;have hi:i<(wl cws).length:=by rw[<-kl];exact(Ae.mp hkv).1
  have ew:(wl cws)[i]?=some (wl cws)[i]:=Aa hi
  have ekv:kv=(dD (wl cws)[i],V.ref (ds[i]'(by omega))):=by
   unfold dQ at hkv;rw[Fv,ew,Aa (show i<ds.length by omega)]at hkv
   exact(Bf hkv).symm
  rw[ekv]at hbf;have hnd:=pB cws cws.length
  have hfw:(wl cws)[i]∈wl cws:=Bx hi
  have htk:(wl cws).take (i+1)=(wl cws).take i++[(wl cws)[i]]:=by rw[Bh,ew];rfl
  have hfn:(wl cws)[i]∉m.map (·.1):=by
   rw[hk];intro z;obtain⟨j,hj,ej⟩:=Bm.mp z;rw[Bp]at hj;rw[List.getElem_take]at ej;have:=(Fh hnd).mp ej
   omega
  have hml:m.length<=56:=by
   have e:m.length=(m.map (·.1)).length:=(Ab _).symm
   rw[e,hk,Bp];omega
  have hmo:HungOk cws m:=⟨by rw[hk];exact hnd.sublist (Hh ..),λx hx=>List.mem_of_mem_take (by rw[<-hk];exact Bb.mpr ⟨x,hx,rfl⟩)⟩
  have hcr:ChRd H4 ac cws:=⟨ds,dl,.inr ⟨o,ec⟩,λj w d hw hd=>by
   have h1:=hds j w d (Ae.mp hw).1 hw hd
   exact fr d _ (λz=>by rw[z,ed]at h1;cases h1) (λz=>by rw[z,hal]at h1;cases h1) (λz=>by rw[z,hah1]at h1;cases h1) h1⟩
  replace hbf:H4 bf=some (.tup (wV (wl cws)[i])):=hbf
  clear ekv hkv;generalize (wl cws)[i]=first at hbf ew hfw htk hfn
  walk_at "go";refine⟨bf,ac,ah,cws,m,first,rfl,hbf,hfw,hcr,eh,hmo,hml,h8,hL,λpa A bs H5 hpa s5 ea wb hask=>?_⟩
  have el5:=s5 _ _ el4
  have hbl:bs.length=A.length:=by rw[wb.1,Ab]
  have hA27:=aZT hmo hfw hL hask.toAsking
  have hdl5:=pD el5
  walk_at "go";refine dJ8 ea λoa=>?_;have fza:(upd H5 pa (.frz oa (.dK (fK A bs)))) pa=_:=aD
  have nlp:al≠pa:=λz=>by rw[z,hpa]at el4;cases el4
  have elf:(upd H5 pa (.frz oa (.dK (fK A bs)))) al=_:=(aG nlp).trans el5
  refine kD (n:=A.length) (λD i ys Hc=>Same (upd H5 pa (.frz oa (.dK (fK A bs)))) Hc/\ys=((((A.take i).map (·.1)).filter λc=>decide (0<aR fl c)).map one).map V.str) (bD (by omega)) (λD hD=>⟨aF hD _,rfl⟩) (λD i ys Hc _ r h=>⟨r.1 _ _ fza,by rw[qV hbl];exact h⟩) (λD ys Hc _ r=>⟨r.1 _ _ fza,qV hbl⟩) ?_ ?_
  ·rintro D i2 ys Hc x H' A' B' hD hi2 ⟨sm,rfl⟩ hDc ⟨rfl,kv,hkv,rfl⟩ hA' hB';have eA:A[i2]?=some A[i2]:=Aa hi2
   unfold fK at hkv;rw[Fv,eA,Aa (show i2<bs.length by omega)]at hkv
   cases hkv;have tk:A.take (i2+1)=A.take i2++[A[i2]]:=by rw[Bh,eA];rfl
   rw[tk,Ar,Ee]at hA' hB';generalize A[i2]=xa at hA' hB';have elc:=sm _ _ elf
   have hdc:=pD elc
   dsimp only[kV];walk_at "go";refine⟨Wk.set rfl (Wk.refl _),?_⟩;walk_at "go";refine aJJ (z:=one xa.1) (.inl elc) ?_;rw[lkl.val xa.1,qM];walk_at "go";refine gS (λhe=>?_) (λhe=>?_)
   ·have he':=Bg he
    walk_at "go";refine hA' _ _ hDc ⟨bL hD sm,?_⟩;rw[show ([xa].map (·.1)).filter (λc=>decide (0<aR fl c))=[xa.1] by simp[he'],List.map_append,List.map_append]
    rfl
   ·have he':=Cf (Cd.mpr he)
    walk_at "go";refine hB' _ hDc ⟨sm,?_⟩;rw[show ([xa].map (·.1)).filter (λc=>decide (0<aR fl c))=[] by simp;omega,List.append_nil]
  ·rintro D ys Hc hD ⟨sm,rfl⟩ hDc _;rw[Cj]at hDc;have su:=sU ea (λo v z=>nomatch z) sm
   have eu:=dY (Hs:=H5) hDc (λo v z=>nomatch z)
   refine xL ?_;unfold cXO;dsimp only;generalize unf H5 Hc=H6 at su eu ⊢;have s46:=s5.trans su
   have ea6:=su _ _ ea
   have wb6:WtsAt H6 bs (A.map (·.2)):=wb.keep λr w h=>su _ _ h
   have ec6:=s46 _ _ ec
   have eh6:=s46 _ _ eh
   have el6:=s46 _ _ el4
   have hbf6:=s46 _ _ hbf
   have fr6:∀p u,p≠ac->p≠al->p≠ah->H1 p=some u->H6 p=some u:=λp u h1 h2 h3 hu=>s46 _ _ (fr p u h1 h2 h3 hu)
   have hD4:H4 D=none:=by
    have h5:H5 D=none:=by
     by_cases z:D=pa
     ·rw[z,aD]at hD;cases hD
     ·rw[aG z]at hD;exact hD
    exact none_of s5 h5
   clear sm hDc hD fza elf hdl5 el5;walk_at "go";refine⟨by decide,λpe hpe=>?_⟩
   refine nZ (neg:=false) (aI (aF hpe _) (aM eu)) bU (bZ _) rfl ?_;have s67:=aF hpe (.lst [])
   generalize upd H6 pe (.lst [])=H7 at s67 ⊢;have en:∀xs:List V,hV xs []=xs.isEmpty:=λxs=>by cases xs<;>rfl
   rw[if_neg (by decide),en]
   cases hfr:(A.map (·.1)).filter (λc=>decide (0<aR fl c)) with
   |nil=>
    rw[hfr]at eu;rw[show (List.map V.str (List.map one [])).isEmpty=true from rfl];have ec7:=s67 _ _ ec6
    have eh7:=s67 _ _ eh6
    have ea7:=s67 _ _ ea6
    have hbf7:=s67 _ _ hbf6
    have fr7:∀p u,p≠ac->p≠al->p≠ah->H1 p=some u->H7 p=some u:=λp u h1 h2 h3 hu=>s67 _ _ (fr6 p u h1 h2 h3 hu)
    clear eu wb6 hpe s67 fr6 fr ec6 eh6 ea6 hbf6 el6 su hD4 s46 hpa s5 ea wb el4 nlp;walk_at "go";refine cXI ec7 ?_;refine kD (n:=(wl cws).length) (λD i ys Hc=>Same H7 Hc/\∃rs,ys=rs.map V.ref/\WtsAt Hc rs (jU m first A ((wl cws).take i))) (bD (by omega)) (λD hD=>⟨aF hD _,[],rfl,rfl,λj r w hr=>nomatch hr⟩) (λD i ys Hc _ r h=>⟨r.1 _ _ ec7,by rw[kl];exact h⟩) (λD ys Hc _ r=>⟨r.1 _ _ ec7,kl⟩) ?_ ?_
    ·rintro D i2 ys Hc x H' A' B' hD hi2 ⟨sm,rs,rfl,hwt⟩ hDc ⟨rfl,kv,bk,hkv,rfl,hbk⟩ hA' hB';have ew2:(wl cws)[i2]?=some (wl cws)[i2]:=Aa hi2
     have ekv:kv=(dD (wl cws)[i2],V.ref (ds[i2]'(by omega))):=by
      unfold dQ at hkv;rw[Fv,ew2,Aa (show i2<ds.length by omega)]at hkv
      exact(Bf hkv).symm
     rw[ekv]at hbk;replace hbk:H' bk=some (.tup (wV (wl cws)[i2])):=hbk
     have tk:(wl cws).take (i2+1)=(wl cws).take i2++[(wl cws)[i2]]:=by rw[Bh,ew2];rfl
     rw[tk]at hA' hB';clear ekv hkv ew2 tk;generalize (wl cws)[i2]=wx at hbk hA' hB';have ehc:=sm _ _ eh7
     have eac:=sm _ _ ea7
     have hfc:=sm _ _ hbf7
     have yes:iZ m first A wx=true->A' (.ref bk) H':=λhb=>by
      refine hA' _ _ hDc ⟨bL hD sm,rs++[bk],by rw[Ar];rfl,?_⟩
      rw[sW,hb,if_pos rfl];refine WtsAt.keep (hwt.app (.one hbk)) λr w h=>?_;rw[aG (λz=>by rw[z,hDc]at h;cases h)]
      exact h
     have no:iZ m first A wx=false->B' H':=λhb=>by
      refine hB' _ hDc ⟨sm,rs,rfl,?_⟩;rw[sW,hb,if_neg (by decide),Bs]
      exact hwt
     clear hA' hB';walk_at "go";refine⟨Wk.set rfl (Wk.refl _),?_⟩;walk_at "go";refine eZG hbk hfc ?_;have hd2:decide ((wx.1:Int)=(first.1:Int)/\(wx.2:Int)=(first.2:Int))=decide (wx=first):=Dx.mpr ⟨λh=>Prod.ext (by omega) (by omega),λh=>by rw[h];exact⟨rfl,rfl⟩⟩
     rw[hd2];by_cases e:wx=first
     ·rw[An e];walk_at "go";exact yes (aQU e)
     ·rw[Aw e];have hdd:isD H' ah=true:=by unfold isD;rw[ehc]
      walk_at "go";refine aJ0 (k:=dD wx) (.inl ehc) hbk ?_;rw[jT];cases eg:dO m wx with
      |none=>
       refine eQ6 (.inl eac) ?_;walk_at "go";exact no (qZ e eg)
      |some g=>
       have hlb:=rC (A:=A) e eg
       refine cJR (z:=one g) (.inl eac) ?_;rw[kJ hbl];refine gS (λhg=>?_) (λhg=>?_)
       ·walk_at "go";exact yes (hlb.trans hg)
       ·walk_at "go";exact no (hlb.trans (Cd.mpr hg))
    ·rintro D ys Hc hD ⟨sm,rs,rfl,hwt⟩ hDc _;rw[Cj]at hwt;have su:=bX7 sm
     have eu:=dY (Hs:=H7) hDc (λo v z=>nomatch z)
     have hwu:WtsAt (unf H7 Hc) rs (jU m first A (wl cws)):=hwt.keep λr w h=>dY h λo v z=>nomatch z
     refine xL ?_;unfold cXO;dsimp only;generalize unf H7 Hc=H8 at su eu hwu ⊢;have ea8:=su _ _ ea7
     walk_at "go";refine aJC (λc=>if decide (c∈A.map (·.1))=true then some (.str (one c)) else none) (by decide) (λi3 c Hc2 A' B' hc sm2 hA'=>?_) (λD2 H9 hD2 s9 hr9=>?_)
     ·have r:=hA' _ (Same.refl _)
      walk_at "go";refine⟨Wk.set rfl (Wk.refl _),?_⟩;walk_at "go";refine cQH (z:=one c) (neg:=false) (.inl (sm2 _ _ ea8)) ?_;rw[if_neg (by decide),kJ hbl]
      refine gS (λhg=>?_) (λhg=>?_)
      ·rw[if_pos hg]at r;walk_at "go";exact r
      ·rw[if_neg hg]at r;exact r
     ·have ef:(Str.ofString "abcdefghijklmnopqrstuvw1234").cps.toList.filterMap (λc=>if decide (c∈A.map (·.1))=true then some (V.str (one c)) else none)=((flagsT.cps.toList.filter λc=>decide (c∈A.map (·.1))).map one).map V.str:=by
       rw[show (Str.ofString "abcdefghijklmnopqrstuvw1234")=flagsT from rfl];generalize flagsT.cps.toList=L;induction L with
       |nil=>rfl
       |cons c r ih=>
        rw[El,Ef];by_cases hg:decide (c∈A.map (·.1))=true
        ·rw[if_pos hg,if_pos hg,Aq,Aq,<-ih]
        ·rw[if_neg hg,if_neg hg,<-ih]
      rw[ef]at hr9;have eD9:=s9 _ _ eu
      walk_at "go";refine⟨by show 2<=sizeLine;decide,λea hea=>⟨ea,D,D2,_,_,rfl,aD,aI (aF hea _) (aM eD9),aI (aF hea _) (aM hr9),λdx l1 l2 H' frx hdx nde e1 e2 e3 e4 hl1 hl2=>⟨rfl,some dx,e1,?_⟩⟩⟩
      have n1:l1≠ea:=λz=>by rw[z,e1]at e3;cases e3
      have n2:l2≠ea:=λz=>by rw[z,e1]at e4;cases e4
      have go9:∀b u,H9 b=some u->(del H' ea) b=some u:=λb u hu=>by
       have nb:b≠ea:=λz=>by rw[z,hea]at hu;cases hu
       rw[fN nb];exact frx b u nb (by rw[aG nb];exact hu)
      have hto:∀b u,H b=some u->H9 b=some u:=λb u hu=>by
       refine s9 _ _ (su _ _ (fr7 b u (λz=>by rw[z,hac]at hu;cases hu) (λz=>?_) (λz=>?_) (s1 _ _ hu)))
       ·have:=s1 _ _ hu
        rw[z,hal]at this;cases this
       ·have:=s1 _ _ hu
        rw[z,hah1]at this;cases this
      refine qe dx l1 l2 rs _ _ (del H' ea) (λb u hu=>go9 _ _ (hto b u hu)) ((fN nde).trans e2) ((fN n1).trans e3) (hwu.keep λr w h=>go9 _ _ (s9 _ _ h)) ((fN n2).trans e4) ?_ (none_of hto (by rw[aG n1]at hl1;exact hl1)) (none_of hto (by rw[aG n2]at hl2;exact hl2))
      ·rw[hn0];refine dQV (l:=(wl cws).take i) (r:=(wl cws).drop (i+1)) (fl:=fl) ?_ hk hL hmo hfw hask hct (λc hc=>?_)
       ·have e:=Fw (i+1) (wl cws)
        rw[htk,Fd]at e;exact e.symm
       ·have:=List.filter_eq_nil_iff.mp hfr c hc
        rw[Bw]at this;exact this
   |cons f0 fr0=>
    rw[hfr]at eu;rw[show (List.map V.str (List.map one (f0::fr0))).isEmpty=false from rfl];have hf0m:f0∈(A.map (·.1)).filter (λc=>decide (0<aR fl c)):=by rw[hfr];exact Ak
    rw[Cr,Bw]at hf0m;obtain⟨hf0A,hf0p⟩:=hf0m;obtain⟨n1,hn1⟩:∃n1,fl f0=some n1:=by
     cases e:fl f0 with
     |none=>rw[show aR fl f0=0 by unfold aR;rw[e];rfl]at hf0p;omega
     |some n=>exact⟨n,rfl⟩
    have hcn1:aR fl f0=n1:=by unfold aR;rw[hn1];rfl
    have el7:=s67 _ _ el6
    have ea7:=s67 _ _ ea6
    have eh7:=s67 _ _ eh6
    have ec7:=s67 _ _ ec6
    have eD7:=s67 _ _ eu
    have wb7:WtsAt H7 bs (A.map (·.2)):=wb6.keep λr w h=>s67 _ _ h
    have hdl7:=pD el7
    have at0:atI (List.map V.str (List.map one (f0::fr0))) 0=some (V.str (one f0)):=bC (show (List.map V.str (List.map one (f0::fr0)))[0]?=some (V.str (one f0)) from rfl)
    walk_at "go";refine cD (aM eD7) (v:=.str (one f0)) at0 ?_;walk_at "go";refine sN (z:=one f0) (.inl el7) (by rw[lkl.val f0,hn1];rfl) ?_
    walk_at "go";refine cD (aM eD7) (v:=.str (one f0)) at0 ?_;walk_at "go";refine iI (z:=one f0) el7 (bD (by omega)) ?_
    have nDl:D≠al:=λz=>by rw[z]at hD4;rw[hD4]at el4;cases el4
    have npl:pa≠al:=λz=>by rw[z]at hpa;rw[hpa]at el4;cases el4
    have nhl:ah≠al:=Ne.symm nlh
    have ncl:ac≠al:=Ne.symm nla
    have el8:(upd H7 al (.dK (cM kl2 (Sum.inr (one f0)) (V.int (n1-1))))) al=_:=aD
    have ea8:(upd H7 al (.dK (cM kl2 (Sum.inr (one f0)) (V.int (n1-1))))) pa=_:=(aG npl).trans ea7
    have eh8:(upd H7 al (.dK (cM kl2 (Sum.inr (one f0)) (V.int (n1-1))))) ah=_:=(aG nhl).trans eh7
    have ec8:(upd H7 al (.dK (cM kl2 (Sum.inr (one f0)) (V.int (n1-1))))) ac=_:=(aG ncl).trans ec7
    have eD8:(upd H7 al (.dK (cM kl2 (Sum.inr (one f0)) (V.int (n1-1))))) D=_:=(aG nDl).trans eD7
    have wb8:WtsAt (upd H7 al (.dK (cM kl2 (Sum.inr (one f0)) (V.int (n1-1))))) bs (A.map (·.2)):=wb7.keep λr w h=>by
     rw[aG (λz=>by rw[z,el7]at h;cases h)]
     exact h
    have fr8:∀p u,p≠ac->p≠al->p≠ah->H1 p=some u->(upd H7 al (.dK (cM kl2 (Sum.inr (one f0)) (V.int (n1-1))))) p=some u:=λp u h1 h2 h3 hu=>by
     rw[aG h2];exact s67 _ _ (fr6 p u h1 h2 h3 hu)
    generalize upd H7 al (.dK (cM kl2 (Sum.inr (one f0)) (V.int (n1-1))))=H8 at el8 ea8 eh8 ec8 eD8 wb8 fr8 ⊢;walk_at "go";refine cD (aM eD8) (v:=.str (one f0)) at0 ?_;walk_at "go";refine⟨pa,ah,cws,m,first,A,bs,f0,rfl,ea8,wb8,hask.toAsking,eh8,hmo.nd,hfn,hmc,hf0A,hml,λm' H9 fr9 eh9 hk9 hc9 hct9=>?_⟩
    walk_at "go";refine⟨m',_,_,_,_,_,_,rfl,λp u h1 h2 h3 hu=>fr9 p u h3 (fr8 p u h1 h2 h3 hu),fr9 _ _ (Ne.symm nac) ec8,eh9,fr9 _ _ nlh el8,lkl.put f0 (n1-1),?_,?_,hc9,λc=>?_⟩
    ·have hv:bY kl2 (Sum.inr (one f0))≠none:=by rw[lkl.val f0,hn1];exact λz=>nomatch z
     have e:=Dk List.length (yY kl2 (Sum.inr (one f0)) (.int (n1-1)) hv)
     rw[Ab,Ab]at e;omega
    ·rw[hk9,hk,htk]
    ·have h1:=hct c
     have h2:=hct9 c
     have h3:aR (λd=>if d=f0 then some (n1-1) else fl d) c=if c=f0 then n1-1 else aR fl c:=by
      show ((if c=f0 then some (n1-1) else fl c):Option Int).getD 0=_
      by_cases z:c=f0
      ·rw[if_pos z,if_pos z];rfl
      ·rw[if_neg z,if_neg z];rfl
     rw[h3];by_cases z:c=f0
     ·subst z;rw[if_pos rfl]at h2 ⊢;omega
     ·rw[if_neg z]at h2 ⊢;omega
 ·rintro σ H4 ⟨m,kl2,fl,v5,v6,v7,v8,rfl,fr,ec,eh,el4,lkl,l27,hk,hmc,hct⟩;rw[kl,Cj]at hk;have ec5:=qO (Hs:=H3) ec (λo v z=>by rw[ed3]at z;cases z)
  have eh5:=dY (Hs:=H3) eh (λo v z=>nomatch z)
  have sh5:Same H (unf H3 H4):=λb u hu=>by
   have h1:=s1 _ _ hu
   have h4:=fr b u (λz=>by rw[z,hac]at hu;cases hu) (λz=>by rw[z,hal]at h1;cases h1) (λz=>by rw[z,hah1]at h1;cases h1) h1
   by_cases hf:∃o v,u=.frz o v
   ·obtain⟨o',v',rfl⟩:=hf;exact kK h4 (s13 _ _ h1)
   ·exact dY h4 λo v z=>hf ⟨o,v,z⟩
  unfold cXO;dsimp only;generalize unf H3 H4=H5 at ec5 eh5 sh5 ⊢;have hml:m.length=(wl cws).length:=by rw[<-hk,Ab]
  have hnd:(m.map (·.1)).Nodup:=by rw[hk];exact pB cws cws.length
  walk_at "go";refine wB ec5 λo2=>?_;have fz2:(upd H5 ac (.frz o2 (.dT (dQ (wl cws) ds)))) ac=_:=aD
  have eh6:(upd H5 ac (.frz o2 (.dT (dQ (wl cws) ds)))) ah=_:=(aG nac).trans eh5
  refine kD (n:=(wl cws).length) (λD i ys Hc=>Same (upd H5 ac (.frz o2 (.dT (dQ (wl cws) ds)))) Hc/\ys=(((m.take i).map (·.2)).map one).map V.str) (bD (by omega)) (λD hD=>⟨aF hD _,rfl⟩) (λD i ys Hc _ r h=>⟨r.1 _ _ fz2,by rw[kl];exact h⟩) (λD ys Hc _ r=>⟨r.1 _ _ fz2,kl⟩) ?_ ?_
  ·rintro D i2 ys Hc x H' A' B' hD hi2 ⟨sm,rfl⟩ hDc ⟨rfl,kv,bk,hkv,rfl,hbk⟩ hA' hB';have ew2:(wl cws)[i2]?=some (wl cws)[i2]:=Aa hi2
   have ekv:kv=(dD (wl cws)[i2],V.ref (ds[i2]'(by omega))):=by
    unfold dQ at hkv;rw[Fv,ew2,Aa (show i2<ds.length by omega)]at hkv
    exact(Bf hkv).symm
   rw[ekv]at hbk;have em:m[i2]?=some m[i2]:=Aa (by omega)
   have e1:m[i2].1=(wl cws)[i2]:=by
    have e0:(m.map (·.1))[i2]?=some (wl cws)[i2]:=by rw[hk];exact ew2
    rw[Af,em]at e0;exact Bf e0
   have tk:m.take (i2+1)=m.take i2++[m[i2]]:=by rw[Bh,em];rfl
   rw[tk]at hA';replace hbk:H' bk=some (.tup ((dD m[i2].1).map kV)):=by rw[e1];exact hbk
   have hval:bY (gK m) (dD m[i2].1)=some (.str (one m[i2].2)):=by
    have hm2:(m[i2].1,m[i2].2)∈m:=Am em
    rw[jT,nK hnd hm2];rfl
   clear ekv hkv ew2 tk e1 em;generalize m[i2]=mx at hbk hA' hval;have ehc:=sm _ _ eh6
   walk_at "go";refine⟨Wk.set rfl (Wk.refl _),?_⟩;walk_at "go";refine aXT (k:=dD mx.1) (.inl ehc) hbk hval ?_;refine hA' _ _ hDc ⟨bL hD sm,?_⟩;rw[Ar,Ar,Ar];rfl
  ·rintro D ys Hc hD ⟨sm,rfl⟩ hDc _;rw[<-hml,Cj]at hDc;have su:=sU ec5 (λo v z=>nomatch z) sm
   have eu:=dY (Hs:=H5) hDc (λo v z=>nomatch z)
   generalize unf H5 Hc=H6 at su eu ⊢;have s06:=sh5.trans su
   refine⟨b,D,cws,m.map (·.2),rfl,aI s06 hb,aM eu,h8,h7,λr ps H7 hr s7 er hne hls=>?_⟩;refine q r ps (m.map (·.2)) H7 (none_of s06 hr) (s06.trans s7) er hne (hls.older s06) (by rw[Ab,hml]) (λj w g hw hg=>?_) (λc=>?_)
   ·rw[<-hk,Af]at hw;rw[Af]at hg;cases em:m[j]? with
    |none=>rw[em]at hw;cases hw
    |some x=>
     rw[em]at hw hg;cases hw;cases hg;exact hmc x.1 x.2 (Am em)
   ·rw[hn0];have h1:=hct c
    have h2:ctn (m.map (·.2)) c=ctm m c:=by
     unfold ctn ctm;rw[List.countP_map];rfl
    rw[h2];omega
def eJV{sep:Str}{n:Nat}:∀ {L:List Str},(∀z∈L,z.length<=n)->(Txt.join sep L).length<=(n+sep.length)*L.length
 |[],_=>Cy _
 |y::r,h=>by
  have hl:∀r:List Str,(∀z∈r,z.length<=n)->(r.map λy=>sep.cps.toList++y.cps.toList).flatten.length<=(n+sep.length)*r.length:=λr h=>by
   induction r with
   |nil=>exact Aj _
   |cons u v ih=>
    rw[Aq,Ci,Ah,Ah,Au,fW,fW];have h1:=h u Ak
    have h2:=ih λx hx=>h x (Ai _ hx)
    rw[Nat.mul_succ];omega
  rw[<-fW,aQI,Ah,fW,Au,Nat.mul_succ];have h1:=h y Ak
  have h2:=hl r λx hx=>h x (Ai _ hx)
  omega
def eR(F:α->V):∀xs:List α,(List.range xs.length).filterMap (λj=>(xs[j]?).map F)=xs.map F:=λxs=>by
 have h:∀n,n<=xs.length->(List.range n).filterMap (λj=>(xs[j]?).map F)=(xs.take n).map F:=λn=>by
  induction n with
  |zero=>intro _;rfl
  |succ n ih=>
   intro hn;have e:xs[n]?=some xs[n]:=Aa (by omega)
   rw[lA (y:=F xs[n]) (by rw[e];rfl),ih (by omega),Bh,e,Ar]
   rfl
 have r:=h xs.length (Aj _)
 rw[Cj]at r;exact r
def fQP:Option (List Nat)->Str
 |none=>⟨#[45]⟩
 |some cs=>aQ cs
def HalV(H:Hp)(v:V):Option (List Nat)->Prop
 |none=>v=.non
 |some cs=>∃p,v=.ref p/\H p=some (.lst ((cs.map one).map V.str))
def sI(hs:List (Option (List Nat))):Prop:=∀cs,some cs∈hs->cY (cs.map one)=true
structure HalsAt (H:Hp) (vs:List V) (hs:List (Option (List Nat))):Prop where
 len:vs.length=hs.length
 val:∀(j:Nat) v h,vs[j]?=some v->hs[j]?=some h->HalV H v h
def HalV.keep{v:V}{h:Option (List Nat)}(a:HalV H v h)(s:∀p xs,H p=some (.lst xs)->v=.ref p->H' p=some (.lst xs)):HalV H' v h:=by
 cases h with
 |none=>exact a
 |some cs=>
  obtain⟨p,e,hp⟩:=a;exact⟨p,e,s p _ hp e⟩
def HalsAt.keep(a:HalsAt H vs hs)(s:Same H H'):HalsAt H' vs hs:=⟨a.len,λj v h hv hh=>(a.val j v h hv hh).keep λp xs hp _=>s _ _ hp⟩
def HalsAt.nil:HalsAt H [] []:=⟨rfl,λj v h hv=>nomatch hv⟩
def cQB{f:Nat->Option Int}(hf0:∀c,0<=aR f c)(c:Nat):aR (bM (aR f)) c<=aR f c:=by
 show (bM (aR f) c).getD 0<=_
 unfold bM;split
 ·exact Hw _
 ·exact hf0 c
def rJ{cws:Q6}:∀i,i<=cws.length->(wlP cws i).length=gI cws i
 |0,_=>rfl
 |i+1,h=>by
  have e:cws[i]?=some cws[i]:=Aa (by omega)
  rw[mS,Ah,rJ i (by omega),uS e]
  unfold pY;rw[Ab,Bq,Ac,e];rfl
def eX3(hi:cws[i]?=some cw)(hk:k<cw.length):(wl cws)[gI cws i+k]?=some (i,1+k):=by
 have hil:=(Ae.mp hi).1
 have h:∀n,i<n->n<=cws.length->(wlP cws n)[gI cws i+k]?=some (i,1+k):=λn=>by
  induction n with
  |zero=>intro h;omega
  |succ n ih=>
   intro h1 h2;rw[mS];by_cases hn:i=n
   ·subst hn;have e:=rJ (cws:=cws) i (by omega)
    rw[Ba (by omega),show gI cws i+k-(wlP cws i).length=k by omega]
    unfold pY;rw[Af,Ac,hi];show ((List.range cw.length)[k]?).map _=_
    rw[List.getElem?_range hk];rfl
   ·have r:=ih (by omega) (by omega)
    rw[Ax (Ae.mp r).1];exact r
 exact h cws.length hil (Aj _)
def Hg(cw h:List Nat):Prop:=h.length=cw.length/\∀(k g:Nat),h[k]?=some g->g∈chs cw k
inductive Hgs:List (List Nat)->List (List Nat)->Prop
 |nil:Hgs [] []
 |cons {cw h:List Nat} {cws hs:Q6}:Hg cw h->Hgs cws hs->Hgs (cw::cws) (h::hs)
def xW(xs ys:List Nat)(c:Nat):ctn (xs++ys) c=ctn xs c+ctn ys c:=List.countP_append
def Hgs.perm{cws':Q6}(s:cws.Perm cws'):∀ {hs:Q6},Hgs cws hs->∃hs',Hgs cws' hs'/\∀c,ctn hs'.flatten c=ctn hs.flatten c:=by
 induction s with
 |nil=>intro hs h;exact⟨hs,h,λc=>rfl⟩
 |cons a s ih=>
  rintro _ (_|⟨h1,h2⟩);obtain⟨hs',p,q⟩:=ih h2;exact⟨_::hs',.cons h1 p,λc=>by rw[Ci,xW,Ci,xW,q c]⟩
 |swap a b l=>
  rintro _ (_|⟨h1,h2⟩);rcases h2 with _|⟨h2,h3⟩
  exact⟨_,.cons h2 (.cons h1 h3),λc=>by simp only[List.flatten_cons,xW];omega⟩
 |trans _ _ ih1 ih2=>
  intro hs h;obtain⟨h1,p1,q1⟩:=ih1 h;obtain⟨h2,p2,q2⟩:=ih2 p1;exact⟨h2,p2,λc=>(q2 c).trans (q1 c)⟩
def tO:List (List Nat)->List Nat->List (List Nat)
 |[],_=>[]
 |cw::r,fs=>fs.take cw.length::tO r (fs.drop cw.length)
def vO:∀ {cws:Q6} {fs:List Nat},fs.length=(cws.map List.length).sum->(tO cws fs).flatten=fs
 |[],fs,h=>by rw[List.eq_nil_of_length_eq_zero h];rfl
 |cw::r,fs,h=>by
  rw[Aq,Dt]at h;rw[tO,Ci,vO (by rw[Cw];omega),Fw]
def aQK:∀ {cws:Q6} {fs:List Nat},fs.length=(cws.map List.length).sum->(∀(i k g:Nat) cw,cws[i]?=some cw->k<cw.length->fs[gI cws i+k]?=some g->g∈chs cw k)->Hgs cws (tO cws fs)
 |[],fs,h,_=>.nil
 |cw::r,fs,h,hc=>by
  rw[Aq,Dt]at h;refine .cons ⟨by rw[Bp];omega,λk g hk=>?_⟩ (aQK (by rw[Cw];omega) λi k g cw' hi hk hg=>?_)
  ·have hkl:k<cw.length:=by
    have:=(Ae.mp hk).1
    rw[Bp]at this;omega
   rw[List.getElem?_take,if_pos hkl]at hk;exact hc 0 k g cw rfl hkl (by rw[show gI (cw::r) 0=0 from rfl,Nat.zero_add];exact hk)
  ·refine hc (i+1) k g cw' hi hk ?_;rw[List.getElem?_drop]at hg;rw[show gI (cw::r) (i+1)=cw.length+gI r i by unfold gI;rw[List.take_succ_cons,Aq,Dt],Nat.add_assoc]
   exact hg
def aX0(cws:Q6):(wl cws).length=(cws.map List.length).sum:=by
 have h:=rJ (cws:=cws) cws.length (Aj _)
 unfold gI at h;rw[Cj]at h;exact h
def dJV(hl:fs.length=(wl cws).length)(hch:∀(j:Nat) w g,(wl cws)[j]?=some w->fs[j]?=some g->g∈chW cws w):Hgs cws (tO cws fs):=by
 refine aQK (hl.trans (aX0 cws)) λi k g cw hi hk hg=>?_;have h:=hch _ _ g (eX3 hi hk) hg
 unfold chW at h;rw[Ac,hi,show (i,1+k).2-1=k by show 1+k-1=k;omega]at h
 exact h
def yS:∀ {cws:Q6} {fs:List Nat} {i:Nat} {cw:List Nat},cws[i]?=some cw->(tO cws fs)[i]?=some ((fs.drop (gI cws i)).take cw.length)
 |[],_,i,_,h=>by cases h
 |c::r,fs,0,cw,h=>by cases h;rfl
 |c::r,fs,i+1,cw,h=>by
  show (tO r (fs.drop c.length))[i]?=_
  rw[yS (show r[i]?=some cw from h),List.drop_drop];rfl
def cJD(cs:List Nat)(c:Nat):cnt cs c=(ctn cs c:Int):=by
 unfold cnt ctn;refine Dk (λn:Nat=>(n:Int)) (List.countP_congr λx _=>?_);simp
def eZ7{c:Nat}(hL:∀d∈cw,aX d)(hk:k<cw.length)(h:c∈chs cw k):kU c:=by
 rcases ch_iff.mp h with e|⟨m,_,h4,_,e⟩
 ·left
  rw[e,Ac,Aa hk];exact hL _ (Bx hk)
 ·right
  rw[e];unfold eD;omega
def dXS:∀ {cws gs:Q6},Hgs cws gs->(∀c∈cws,1<=c.length/\c.length<=7/\∀d∈c,aX d)->(∀g∈gs,cY (g.map one)=true/\∀c∈g,kU c)
 |_,_,.nil,_,g,hg=>nomatch hg
 |_,_,.cons (cw:=cw) (h:=h) a b,hW,g,hg=>by
  rcases Be.mp hg with e|e
  ·rw[e];obtain⟨h1,h7,hL⟩:=hW cw Ak;refine⟨bJP hL (by rw[a.1];exact h1) (by rw[a.1];exact h7) (by rw[a.1];exact Aj _) λk hk=>?_,λc hc=>?_⟩
   ·exact a.2 k _ (by rw[Ac,Aa hk];rfl)
   ·obtain⟨k,hk,ek⟩:=Bm.mp hc;exact eZ7 hL (by rw[<-a.1];exact hk) (a.2 k c (by rw[Aa hk,ek]))
  ·exact dXS b (λc hc=>hW c (Ai _ hc)) g e
def Hgs.lens:∀ {cws gs:Q6},Hgs cws gs->gs.length=cws.length
 |_,_,.nil=>rfl
 |_,_,.cons _ b=>by rw[Au,Au,b.lens]
def bX0{f:Nat->Option Int}(h:∀c,cnt cs c<=aR f c):tJ f cs cs.length:=λj d hj hd=>by
 have:=eQZ hd
 have:=h d
 omega
def aJZ{x:V}(h:(ks.map λk=>V.int ((k:Nat):Int))[j]?=some x):∃k,ks[j]?=some k/\x=.int ((k:Nat):Int):=by
 rw[Af]at h;cases e:ks[j]? with
 |none=>rw[e]at h;cases h
 |some k=>rw[e]at h;cases h;exact⟨k,rfl,rfl⟩
def HalsAt.get(a:HalsAt H vs hs)(hk:k<hs.length):∃v,atI vs (k:Int)=some v/\vs[k]?=some v/\HalV H v (hs.getD k none):=by
 have hv:k<vs.length:=by rw[a.len];exact hk
 refine⟨vs[k],bC (Aa hv),Aa hv,?_⟩;refine a.val k _ _ (Aa hv) ?_;rw[Ac,Aa hk];rfl
def cA(hs:List (Option (List Nat)))(ks:List Nat):List Nat:=ks.flatMap λk=>(hs.getD k none).getD []
def bXV(hs:Q4)(A B:List Nat):cA hs (A++B)=cA hs A++cA hs B:=List.flatMap_append ..
def vU(ok:sI hs)(k:Nat):((hs.getD k none).getD []).length<=7:=by
 cases e:hs[k]? with
 |none=>rw[Ac,e];exact Cy _
 |some h=>
  rw[Ac,e];cases h with
  |none=>exact Cy _
  |some cs=>
   have:=iD (ok cs (Am e))
   rw[Ab]at this;exact this.2
def oZ(ok:sI hs):∀ks:List Nat,(cA hs ks).length<=7*ks.length
 |[]=>Cy _
 |k::r=>by
  show (((hs.getD k none).getD [])++cA hs r).length<=_
  rw[Ah,Au];have:=vU ok k
  have:=oZ ok r
  omega
def pL:Sp:=λvs H Q _=>∃(a b:Addr) (us:List V) (hs:List (Option (List Nat))) (ks:List Nat),vs=[.ref a,.ref b]/\rdL H a=some us/\HalsAt H us hs/\sI hs/\rdL H b=some (ks.map λk=>V.int ((k:Nat):Int))/\ks.length<=7/\(∀k∈ks,k<hs.length)/\
 ∀(r:Addr) (H':Hp),H r=none->Same H H'->H' r=some (.lst (((cA hs ks).map one).map V.str))->Q (.ref r) H'
def sc_flags_on:FnScope ["halyards", "numbers", "flags", "number"] ["halyards", "numbers"] (aJ mP):=by walk_at "sc"
def yU(F:Fun K "flags_on" "flags_on" mP f fd)(G:Gs K mg w Zu Zz Zv Zx Z0 Zw Zy):FnOk P w K mg base CX0 1 f fd ["halyards", "numbers"] pL:=by
 refine F.ok sc_flags_on (λvs H Q E h=>?_) (λcdv A outer s H vs Q E hr h=>?_)
 ·obtain⟨a,b,us,hs,ks,rfl,_⟩:=h;rfl
 obtain⟨a,b,us,hs,ks,rfl,ha,hat,ok,hb,h7,hk,q⟩:=h;refine⟨_,(@aE _ _ _ _ _ (aO 2 sc_flags_on.nd (cG aB)) (@aE _ _ _ _ _ (dA Bu rfl (bX (mv 1)) (bE (i:=3) sc_flags_on.nd rfl (Or.inl rfl)) (@aH _ _ _ (cI (aZ qY (bF bV (mv 0) (mv 3) (λ_ _=>rfl)) cZ (aW _)) (@aH _ _ _ (dB (bN By Gq Gr cQW (mv 2) (aA (bF bV (mv 0) (mv 3) (λ_ _=>rfl)) aB)))) bK))) (@aH _ _ _ (aY (mv 2))))),?_⟩;walk_at "go";refine⟨by decide,λp hp=>?_⟩
 have sp:=aF hp (.lst [])
 have hb1:=aI sp hb
 walk_at "go";refine gN (xs:=(ks.map λk=>V.int ((k:Nat):Int))) (λi σ H'=>∃v,σ=[some (.ref a),some (.ref b),some (.ref p),v]/\Same H H'/\H' p=some (.lst (((cA hs (ks.take i)).map one).map V.str)))
  ⟨_,rfl,sp,aD⟩ (λi σ H' _ ⟨_,_,e,_⟩=>aI e hb) ?_ ?_
 ·rintro i x σ H2 hx ⟨v,rfl,s2,e2⟩;obtain⟨k,hki,rfl⟩:=aJZ hx;have hkl:=hk k (Am hki)
  obtain⟨u,au,_,hv⟩:=(hat.keep s2).get hkl;have r2:=aI s2 ha
  have ft:cA hs (ks.take (i+1))=cA hs (ks.take i)++(hs.getD k none).getD []:=by
   rw[Bh,hki,bXV];show _++(_++[])=_
   rw[Bs]
  walk_at "go";refine cD r2 au ?_;walk_at "go";cases eh:hs.getD k none with
  |none=>
   rw[eh]at hv ft;rw[show u=.non from hv,show decide (V.non=V.non)=true from rfl];walk_at "go";exact⟨_,rfl,s2,by rw[ft];show _=some (HO.lst (((_++[]).map one).map V.str));rw[Bs];exact e2⟩
  |some cs=>
   have h7c:=vU ok k
   rw[eh]at hv ft h7c;obtain⟨pc,rfl,hpc⟩:=hv;rw[show decide (V.ref pc=V.non)=false from Aw (λz=>nomatch z)]
   have m2:=cC e2
   have rc:=aM hpc
   have l2:=oZ ok (ks.take i)
   rw[Bp]at l2;have hln:(((cA hs (ks.take i)).map one).map V.str).length+((cs.map one).map V.str).length<=sizeLine:=bJ (by rw[Ab,Ab,Ab,Ab];have:cs.length<=7:=h7c;omega)
   walk_at "go";refine cD r2 au ?_;walk_at "go";refine⟨_,rfl,bL hp s2,?_⟩;rw[aD,ft,Ar,Ar];rfl
 ·rintro σ H2 ⟨v,rfl,s2,e2⟩;rw[Bk (by rw[Ab];exact Aj _)]at e2
  walk_at "go";exact q p H2 hp s2 e2
def mean:List (Str×Str)->Str->Option Str
 |[],_=>none
 |b::r,w=>if b.1=w then some b.2 else mean r w
def bkK(bk:List (Str×Str)):List (Key×V):=bk.map λb=>(Sum.inr b.1,V.str b.2)
def pO:∀(bk:List (Str×Str)) (kv:List (Key×V)),(bk.map (·.1)).Nodup->(∀b∈bk,bY kv (Sum.inr b.1)=none)->∀w:Str,bY (fH kv (bkK bk)) (Sum.inr w)=((mean bk w).map V.str).or (bY kv (Sum.inr w))
 |[],kv,_,_,w=>by
  show bY kv (Sum.inr w)=_
  rfl
 |b::r,kv,nd,h,w=>by
  obtain⟨n1,n2⟩:=Cs.mp nd;replace n1:¬b.1∈r.map (·.1):=n1
  have hb:=h b Ak
  have e:∀j,bY (cM kv (Sum.inr b.1) (V.str b.2)) j=if j=Sum.inr b.1 then some (V.str b.2) else bY kv j:=λj=>by
   rw[yN]
  show bY (fH (cM kv (Sum.inr b.1) (V.str b.2)) (bkK r)) (Sum.inr w)=_
  rw[pO r _ n2 (λc hc=>?_) w,e]
  ·show _=((if b.1=w then some b.2 else mean r w).map V.str).or _
   by_cases z:b.1=w
   ·subst z;rw [if_pos rfl,if_pos rfl];have:mean r b.1=none:=by
     clear e hb h nd n2;induction r with
     |nil=>rfl
     |cons c t ih=>
      show (if c.1=b.1 then _ else _)=none
      rw[if_neg (λz=>n1 (by rw[<-z];exact Ak))]
      exact ih λm=>n1 (Ai _ m)
    rw[this];rfl
   ·have z2:¬(Sum.inr w:Key)=Sum.inr b.1:=λk=>z (by injection k with k;exact k.symm)
    rw[if_neg z,if_neg z2]
  ·rw[e];rw[if_neg (λk=>n1 (by injection k with k;rw[<-k];exact Bb.mpr ⟨c,hc,rfl⟩))]
   exact h c (Ai _ hc)
def sV(nd:(bk.map (·.1)).Nodup)(w:Str):bY (fH [] (bkK bk)) (Sum.inr w)=(mean bk w).map V.str:=by
 rw[pO bk [] nd (λb _=>rfl) w];cases mean bk w<;>rfl
def zS(nd:(bk.map (·.1)).Nodup){b:Str×Str}(h:b∈bk):mean bk b.1=some b.2:=by
 induction bk with
 |nil=>cases h
 |cons c r ih=>
  obtain⟨n1,n2⟩:=Cs.mp nd;replace n1:¬c.1∈r.map (·.1):=n1
  show (if c.1=b.1 then some c.2 else mean r b.1)=some b.2
  rcases Be.mp h with z|z
  ·subst z;rw[if_pos rfl]
  ·rw[if_neg (λk=>n1 (by rw[k];exact Bb.mpr ⟨b,z,rfl⟩))]
   exact ih n2 z
def cZV{w m:Str}(h:mean bk w=some m):(w,m)∈bk:=by
 induction bk with
 |nil=>cases h
 |cons c r ih=>
  unfold mean at h;split at h
  ·rename_i e
   cases h;rw[<-e];exact Ak
  ·exact Ai _ (ih h)
def dZ9(bk:List (Str×Str))(ws ms:List Str):Prop:=ws.length=ms.length/\∀(i:Nat) w,ws[i]?=some w->mean bk w=ms[i]?
def iR:Sp:=λvs H Q _=>∃(a b:Addr) (bk:List (Str×Str)) (ws:List Str),vs=[.ref a,.ref b]/\BkAt H a bk/\(bk.map (·.1)).Nodup/\(∀x∈bk,x.2.length<=100)/\rdL H b=some (ws.map V.str)/\ws.length<=1000/\1<=ws.length/\(∀(i:Nat) w,ws[i]?=some w->mean bk w≠none)/\
 ∀ms,1<=ws.length->dZ9 bk ws ms->∀H',Same H H'->Q (.str (Txt.join " " ms)) H'
def sc_text_said:FnScope ["book", "words", "meaning_of", "at", "word"] ["book", "words"] (aJ gR):=by walk_at "sc"
def xC(F:Fun K "text_said" "text_said" gR f fd)(G:Gs K mg w Zu Zz Zv Zx Z0 Zw Zy):FnOk P w K mg base CX0 1 f fd ["book", "words"] iR:=by
 refine F.ok sc_text_said (λvs H Q E h=>?_) (λcdv A outer s H vs Q E hr h=>?_)
 ·obtain⟨a,b,bk,ws,rfl,_⟩:=h;rfl
 obtain⟨a,b,bk,ws,rfl,hbk,hnd,h100,hb,hwl,hw1',hall,q⟩:=h;refine⟨_,(@aE _ _ _ _ _ (cI (aZ (sQ hr.units0) (mv 1) (cG aB) (aW _)) (@aH _ _ _ nS) bK) (@aE _ _ _ _ _ (aO 2 sc_text_said.nd (cB (aQZ rfl) rfl G.b_dict cJX (aA (mv 0) aB))) (@aE _ _ _ _ _ (dA Bu rfl (wH rfl G.b_enumerate (aA (mv 1) aB)) (fA (K:=K) (i:=3) (j:=4) (by rfl) (by rfl) sc_text_said.nd (by rfl) (by exact(Or.inl rfl)) (by exact Or.inl rfl) (by rfl) (by exact(Or.inl rfl)) (by exact Or.inl rfl)) (@aH _ _ _ (cI (aZ (zK (Room.u1 hr)) (mv 4) (mv 2) (by rfl)) (@aH _ _ _ nS) bK))) (@aH _ _ _ (aY (bN Bl Fx Fy xI dP (aA (cL rfl (bX (mv 1)) (eF (N:=["word", "meaning_of"]) ["book", "words", "meaning_of", "at", "word"] (aJ gR) [none,some 2] rfl rfl rfl (λx h=>bO h) (by decide +kernel)) (by decide +kernel) rfl (by decide +kernel) (λ_ _ _ _=>(bE (i:=0) (show List.Nodup (["word", "meaning_of"]:List Str) by decide +kernel) rfl (Or.inl rfl))) (λ_ _ _ _=>cQ) (λ_ _ _ _=>(gP (Room.u1 hr) (mv 1) (mv 0) (λ_ _=>rfl)))) aB))))))),?_⟩
 walk_at "go";refine⟨by decide,λpe hpe=>?_⟩
 have s1:=aF hpe (.lst [])
 have r1:rdL (upd H pe (.lst [])) pe=some []:=bU
 generalize upd H pe (.lst [])=H1 at s1 r1 ⊢;have hb1:=aI s1 hb
 refine nZ hb1 r1 (bZ _) rfl ?_;rw[if_neg Ao];walk_at "go";cases ws with
 |nil=>exact absurd hw1' (by decide)
 |cons w0 wr=>
  rw[show hV (List.map V.str (w0::wr)) []=false from rfl];generalize hws:w0::wr=ws at hb hwl q hall hw1' hb1;have h1:1<=ws.length:=by rw[<-hws,Au];omega
  clear hws;have bk1:=hbk.keep s1
  obtain⟨qs,b1,b2,b3⟩:=bk1;have hql:qs.length=(bkK bk).length:=by unfold bkK;rw[Ab,b2]
  walk_at "go";refine zY (kvs:=bkK bk) b1 ⟨hql,λj p kv hp hkv=>?_⟩ λr hr=>?_
  ·unfold bkK at hkv;rw[Af]at hkv;cases e:bk[j]? with
   |none=>rw[e]at hkv;cases hkv
   |some u=>
    rw[e]at hkv;cases hkv;exact b3 j p u hp e
  ·have s2:=s1.trans (aF hr (.dK (fH [] (bkK bk))))
   have d2:(upd H1 r (.dK (fH [] (bkK bk)))) r=_:=aD
   generalize upd H1 r (.dK (fH [] (bkK bk)))=H2 at s2 d2 ⊢;have hb2:=aI s2 hb
   walk_at "go";refine aJO (xs:=ws.map V.str) (λi σ H'=>∃v3 v4:Option V,σ=[some (.ref a),some (.ref b),some (.ref r),v3,v4]/\Same H2 H'/\∀(j:Nat) v,j<i->ws[j]?=some v->mean bk v≠none)
    ⟨_,_,rfl,Same.refl _,λj v hj=>absurd hj (Fs _)⟩ (λi σ H' _ ⟨_,_,_,e,_⟩=>aI e hb2) ?_ ?_
   ·rintro i x σ H3 pt hx ⟨v3,v4,rfl,s3,hfd⟩ hpt;obtain⟨w1,hw1,rfl⟩:=eU hx;have s4:=s3.trans (aF hpt (.tup [V.int ((0+i:Nat):Int),V.str w1]))
    have d4:=s4 _ _ d2
    walk_at "go";refine cQH (neg:=true) (z:=w1) (.inl d4) ?_;rw[sV hnd,if_pos rfl];walk_at "go";cases e:mean bk w1 with
    |none=>exact absurd e (hall i w1 hw1)
    |some m=>
     rw[show (Option.map V.str (some m)).isSome=true from rfl];walk_at "go";refine⟨_,_,rfl,s4,λj v hj hjv=>?_⟩;by_cases ej:j=i
     ·subst ej;rw[hw1]at hjv;cases hjv;rw[e];exact λz=>by cases z
     ·exact hfd j v (by omega) hjv
   ·rintro σ H3 ⟨v3,v4,rfl,s3,hfd⟩;have hwm:(ws.map V.str).length=ws.length:=Ab ..
    have d3:=s3 _ _ d2
    have hb3:=aI s3 hb2
    have all:∀w1∈ws,∃m,mean bk w1=some m:=λw1 hw=>by
     obtain⟨j,hj,e⟩:=Bm.mp hw;have:=hfd j w1 (by rw[hwm];exact hj) (by rw[Aa hj,e])
     cases e2:mean bk w1 with
     |none=>exact absurd e2 this
     |some m=>exact⟨m,rfl⟩
    walk_at "go";refine fE (xs:=ws.map V.str) (λx=>match x with|.str z=>(mean bk z).map V.str|_=>none) hb3 (by rw[hwm];exact bD (by omega)) (λi x Hc A B hx sm hA=>?_) (λD Hd hD sD hd=>?_)
    ·obtain⟨w1,hw1,rfl⟩:=eU hx;obtain⟨m,hm⟩:=all w1 (Am hw1);walk_at "go";refine⟨Wk.set rfl (Wk.refl _),?_⟩;walk_at "go";refine sN (z:=w1) (.inl (sm _ _ d3)) (by rw[sV hnd,hm];rfl) ?_
     have r:=hA _ (Same.refl _)
     simp only[hm]at r;exact r
    ·have said:dZ9 bk ws (ws.filterMap (mean bk))/\(ws.map V.str).filterMap (λx=>match x with | .str z=>(mean bk z).map V.str | _=>none)=(ws.filterMap (mean bk)).map V.str:=by
      clear hfd hb hb1 hb2 hb3 q hall hw1' hwl h1 hwm hd sD hD;induction ws with
      |nil=>exact⟨⟨rfl,λi w h=>by cases h⟩,rfl⟩
      |cons w1 t ih=>
       obtain⟨m,hm⟩:=all w1 Ak;obtain⟨⟨i1,i2⟩,i3⟩:=ih λv hv=>all v (Ai _ hv);rw[Bi hm];refine⟨⟨by rw[Au,Au,i1],λi w hw=>?_⟩,?_⟩
       ·cases i with
        |zero=>cases hw;exact hm
        |succ i=>exact i2 i w (by simpa using hw)
       ·rw[Aq,Bi (b:=V.str m) (by show (mean bk w1).map V.str=_;rw[hm];rfl),i3]
        rfl
     rw[said.2]at hd;have hml:∀m∈ws.filterMap (mean bk),m.length<=100:=λm hm=>by
      obtain⟨w1,_,e⟩:=Bv.mp hm;exact h100 _ (cZV e)
     have hsl:(ws.filterMap (mean bk)).length=ws.length:=said.1.1.symm
     have sums:∀ms:List Str,(∀m∈ms,m.length<=100)->(ms.map (·.length)).sum<=100*ms.length:=λms h=>by
      induction ms with
      |nil=>exact Aj _
      |cons m t ih=>
       rw[Aq,Dt,Au];have h1:=h m Ak
       have h2:=ih λx hx=>h x (Ai _ hx)
       omega
     have hsum:=sums _ hml
     walk_at "go";refine aZE (aM hd) (by rw[show (Str.ofString " ").length=1 from rfl];omega) ?_
     exact q _ h1 said.1 Hd (s2.trans (s3.trans sD))
def gF(z:Str):Bool:=if z.length<1\/10<z.length then false else z.cps.toList.all λc=>decide (c∈tmsT.cps.toList)
abbrev dM(z:Str):List Str:=Txt.split z (Str.ofString " ")
def dQZ(z:Str)(n:Int):Bool:=decide (((dM z).length:Int)<=n)&&(dM z).all gF
def bX1{y:Str}(h:y∈dM z):y.length<=z.length:=by
 have:=PySem.join_mem_le (Str.ofString " ") (dM z) y h
 rw[StrLaws.join_split]at this;exact this
def aXQ(z:Str):(dM z).length<=z.length+2:=by
 unfold dM Txt.split;split
 ·show 1<=_;omega
 ·split
  ·show 1<=_;omega
  ·rw[PySem.length_partsBetween];have e1:=StrLaws.occ_length_le z (Str.ofString " ") 0 z.length (z.length+1)
   omega
def rW:Sp:=λvs H Q _=>∃z,vs=[.str z]/\z.length<=1000/\∀H',Same H H'->Q (.bl (gF z)) H'
def fV:Sp:=λvs H Q _=>∃z n,vs=[.str z,.int n]/\z.length<=1000/\∀H',Same H H'->Q (.bl (dQZ z n)) H'
def aZP:FnScope ["text"] ["text"] (aJ oK):=by walk_at "sc"
def aXH(F:Fun K "is_term" "is_term" oK f fd)(G:Gs K mg w Zu Zz Zv Zx Z0 Zw Zy):FnOk P w K mg base CX0 1 f fd ["text"] rW:=by
 refine F.ok aZP (λvs H Q E h=>?_) (λcdv A outer s H vs Q E hr h=>?_)
 ·obtain⟨z,rfl,_⟩:=h;rfl
 obtain⟨z,rfl,hl,q⟩:=h;refine⟨_,(@aE _ _ _ _ _ (cI (PW.pt (pP (aZ xN (aP bS rfl G.b_len bH (aA (mv 0) aB)) aK (aW _)) (jW (aZ yO (aP bS rfl G.b_len bH (aA (mv 0) aB)) (xK rfl G.s_LONGEST_TERM) (aW _))))) (@aH _ _ _ (aY pQ)) bK) (@aH _ _ _ (aY (aP (bZ9 rfl) rfl G.b_all aXV (aA (cL rfl (sF (mv 0)) (lJ (N:=["sign"]) (by decide +kernel) (by decide +kernel)) (by decide +kernel) rfl (by decide +kernel) (λ_ _ _ _=>(bE (i:=0) (show List.Nodup (["sign"]:List Str) by decide +kernel) rfl (Or.inl rfl))) (λ_ _ _ _=>cQ) (λ_ _ _ _=>(eG aJV (mv 0) (eO rfl G.s_TERM_LETTERS) (by rfl)))) aB))))),?_⟩
 walk_at "go";refine gS (λhc=>?_) (λhc=>?_)
 ·walk_at "go";have e:gF z=false:=if_pos (.inl (by have:=Bg hc;omega))
  have r:=q H (Same.refl H)
  rw[e]at r;exact r
 ·have hc':=Cf (Cd.mpr hc)
  walk_at "go";refine gS (λhd=>?_) (λhd=>?_)
  ·walk_at "go";have e:gF z=false:=if_pos (.inr (by have:=Bg hd;omega))
   have r:=q H (Same.refl H)
   rw[e]at r;exact r
  ·have hd':=Cf (Cd.mpr hd)
   walk_at "go";refine bZI (λc=>some (.bl (decide (c∈tmsT.cps.toList)))) (bD (by omega)) (λi c Hc A B hc' hA=>?_) (λD hD=>?_)
   ·walk_at "go";refine⟨Wk.set rfl (Wk.refl _),?_⟩;walk_at "go";have e:subIn ⟨#[c]⟩ tmsT=decide (c∈tmsT.cps.toList):=oV _ _
    show A (.bl (subIn ⟨#[c]⟩ tmsT)) Hc
    rw[e];exact hA
   ·walk_at "go";have e:z.cps.toList.filterMap (λc=>some (V.bl (decide (c∈tmsT.cps.toList))))=(z.cps.toList.map λc=>decide (c∈tmsT.cps.toList)).map V.bl:=by
     rw[Cm];exact kP _ _
    rw[e];have sm:Same H (upd H D (.lst ((z.cps.toList.map λc=>decide (c∈tmsT.cps.toList)).map V.bl))):=aF hD _
    refine bJU (bs:=z.cps.toList.map λc=>decide (c∈tmsT.cps.toList)) bU ?_;have e2:gF z=(z.cps.toList.map λc=>decide (c∈tmsT.cps.toList)).all id:=by
     unfold gF;rw[if_neg (by omega),List.all_map]
     rfl
    have r:=q _ sm
    rw[e2]at r;exact r
def sc_is_row_of_terms:FnScope ["text", "most", "terms"] ["text", "most"] (aJ eK):=by walk_at "sc"
def mF(F:Fun K "is_row_of_terms" "is_row_of_terms" eK f fd)(G:Gs K mg w Zu Zz Zv Zx Z0 Zw Zy)(c_is_term:Cal P w K mg base 1 "is_term" ["text"] rW):FnOk P w K mg base CX0 2 f fd ["text", "most"] fV:=by
 refine F.ok sc_is_row_of_terms (λvs H Q E h=>?_) (λcdv A outer s H vs Q E hr h=>?_)
 ·obtain⟨z,n,rfl,_⟩:=h;rfl
 obtain⟨z,n,rfl,hl,q⟩:=h;refine⟨_,(@aE _ _ _ _ _ (aO 2 sc_is_row_of_terms.nd (bN Bl Co Cp eV (mv 0) (@cU _ _ _ _ _ _ aB))) (@aH _ _ _ (aY (aZA (eG eQW (aP bS rfl G.b_len bH (aA (mv 2) aB)) (mv 1) (aW _)) (xZ (aP (bZ9 rfl) rfl G.b_all aXV (aA (cL rfl (bX (mv 2)) (lJ (N:=["term"]) (by decide +kernel) (by decide +kernel)) (by decide +kernel) rfl (by decide +kernel) (λ_ _ _ _=>(bE (i:=0) (show List.Nodup (["term"]:List Str) by decide +kernel) rfl (Or.inl rfl))) (λ_ _ _ _=>cQ) (λ_ _ _ _=>(aU c_is_term hr (by decide) rfl (aA (mv 0) aB)))) aB))))))),?_⟩
 walk_at "go";refine eX rfl (by omega) λr hr=>?_
 have s1:=aF hr (.lst ((dM z).map V.str))
 have r1:rdL (upd H r (.lst ((dM z).map V.str))) r=some ((dM z).map V.str):=bU
 show lP _ _ _ (upd H r (.lst ((dM z).map V.str))) _
 generalize upd H r (.lst ((dM z).map V.str))=H1 at s1 r1 ⊢;have hpl:((dM z).map V.str).length=(dM z).length:=Ab ..
 have hpm:=aXQ z
 walk_at "go";rw[hpl];unfold dQZ at q;refine gS (λhc=>?_) (λhc=>?_)
 ·rw[show decide (((dM z).length:Int)<=n)=true from hc,Bool.true_and]at q;walk_at "go";refine fE (xs:=(dM z).map V.str) (λx=>match x with|.str y=>some (.bl (gF y))|_=>none) r1 (by rw[hpl];exact bD (by omega)) (λi x Hc A B hx sm hA=>?_) (λD Hd hD sD hd=>?_)
  ·obtain⟨y,hy,rfl⟩:=eU hx;walk_at "go";refine⟨Wk.set rfl (Wk.refl _),?_⟩;walk_at "go";refine⟨y,rfl,by have:=bX1 (Am hy);omega,λH2 s2=>?_⟩
   exact hA _ s2
  ·have e:((dM z).map V.str).filterMap (λx=>match x with | .str y=>some (V.bl (gF y)) | _=>none)=((dM z).map gF).map V.bl:=by
    rw[Gy,Cm];exact kP (λy=>V.bl (gF y)) _
   rw[e]at hd;walk_at "go";refine bJU (bs:=(dM z).map gF) (aM hd) ?_;have r:=q Hd (s1.trans sD)
   rw[show ((dM z).map gF).all id=(dM z).all gF by rw[List.all_map];rfl]
   exact r
 ·have hc':decide (((dM z).length:Int)<=n)=false:=Cd.mpr hc
  rw[hc',Bool.false_and]at q;exact q _ s1
def bZD{t:List Nat}(h:eL t):gF (aQ t)=true:=by
 unfold gF;rw[dG,if_neg (by have:=h.1;have:=h.2.1;omega),cR,Ce]
 intro c hc;have:=h.2.2 c hc
 refine An ?_;have q:∀k:_root_.Fin 26,(97+k.val)∈tmsT.cps.toList:=by decide +kernel
 unfold cZM at this;have e:=q ⟨c-97,by omega⟩
 rwa [show 97+(c-97)=c by omega]at e
def cS{ts:Q6}(h1:1<=ts.length)(h:∀t∈ts,eL t):dM (bA ts)=ts.map aQ:=by
 refine aZG (L:=ts.map aQ) (λz=>?_) (λz hz=>?_)
 ·rw[Gm]at z;rw[z]at h1;exact absurd h1 (by decide)
 ·obtain⟨t,ht,rfl⟩:=Bb.mp hz;rw[cR];intro m;have:=(h t ht).2.2 32 m
  unfold cZM at this;omega
def eC(ts:Q6)(h:∀t∈ts,eL t):(bA ts).length<=11*ts.length:=by
 have e:=PySem.StrLaws.join_length_le (Str.ofString " ") (ts.map aQ)
 have e2:bA ts=Str.join (Str.ofString " ") (ts.map aQ):=Ga _ _
 have s1:=vI ts h
 rw[e2];rw[Ab,show (Str.ofString " ").length=1 from rfl]at e;omega
def yV(H:Hp)(r:Addr)(ts:List (List Nat)):Prop:=H r=some (.lst ((ts.map aQ).map V.str))
def pI:Sp:=λvs H Q _=>∃ts:List (List Nat),vs=[.str (bA ts)]/\1<=ts.length/\ts.length<=40/\(∀t∈ts,eL t)/\∀(r:Addr) (H':Hp),H r=none->Same H H'->yV H' r ts->Q (.ref r) H'
def zW:FnScope ["text"] ["text"] (aJ mO):=by walk_at "sc"
def zX(F:Fun K "terms_of" "terms_of" mO f fd)(G:Gs K mg w Zu Zz Zv Zx Z0 Zw Zy)(c_is_row_of_terms:Cal P w K mg base 2 "is_row_of_terms" ["text", "most"] fV):FnOk P w K mg base CX0 3 f fd ["text"] pI:=by
 refine F.ok zW (λvs H Q E h=>?_) (λcdv A outer s H vs Q E hr h=>?_)
 ·obtain⟨ts,rfl,_⟩:=h;rfl
 obtain⟨ts,rfl,h1,h40,hT,q⟩:=h;refine⟨_,(@aE _ _ _ _ _ (cI (xA (kA (aU c_is_row_of_terms hr (by decide) rfl (aA (mv 0) (aA (xK rfl G.s_MOST_TERMS) aB))))) (@aH _ _ _ nS) bK) (@aH _ _ _ (aY (bN Bl Co Cp eV (mv 0) (@cU _ _ _ _ _ _ aB))))),?_⟩
 have hl:=eC ts hT
 have hp:=cS h1 hT
 have hr:dQZ (bA ts) 40=true:=by
  unfold dQZ;rw[hp,Ab,An (by omega),Bool.true_and,Ce]
  intro z hz;obtain⟨t,ht,rfl⟩:=Bb.mp hz;exact bZD (hT t ht)
 walk_at "go";refine⟨bA ts,40,rfl,by omega,λH1 s1=>?_⟩
 rw[hr];walk_at "go";refine eX rfl (by omega) λr hr1=>?_
 rw[show Txt.split (bA ts) (Str.ofString " ")=ts.map aQ from hp];exact q r _ (none_of s1 hr1) (s1.trans (aF hr1 _)) aD
def MsAt(H:Hp)(r:Addr)(mss:List (List (List Nat))):Prop:=∃ps:List Addr,H r=some (.lst (ps.map V.ref))/\ps.length=mss.length/\∀(j:Nat) p ms,ps[j]?=some p->mss[j]?=some ms->yV H p ms
def MsAt.keep(h:MsAt H r mss)(s:Same H H'):MsAt H' r mss:=by
 obtain⟨ps,h1,h2,h3⟩:=h;exact⟨ps,s _ _ h1,h2,λj p ms hp hm=>s _ _ (h3 j p ms hp hm)⟩
def cK(bk:List (Str×Str))(mss:List (List (List Nat))):Prop:=mss.length=bk.length/\∀(j:Nat) b ms,bk[j]?=some b->mss[j]?=some ms->b.2=bA ms/\1<=ms.length/\ms.length<=5/\∀t∈ms,eL t
def bJ0(h:GoodBk bk):∃mss,cK bk mss:=by
 have hm:=h.mean
 clear h;induction bk with
 |nil=>exact⟨[],rfl,λj b ms hb=>by cases hb⟩
 |cons b r ih=>
  obtain⟨ms,e,h1,h5,hT⟩:=hm b Ak;obtain⟨mss,hl,hh⟩:=ih λc hc=>hm c (Ai _ hc);refine⟨ms::mss,by rw[Au,Au,hl],λj c us hc hu=>?_⟩
  cases j with
  |zero=>cases hc;cases hu;exact⟨e,h1,h5,hT⟩
  |succ j=>exact hh j c us (by simpa using hc) (by simpa using hu)
def jS:Sp:=λvs H Q _=>∃(a:Addr) (bk:List (Str×Str)) (mss:List (List (List Nat))),vs=[.ref a]/\BkAt H a bk/\bk.length<=60/\cK bk mss/\∀(r:Addr) (H':Hp),H r=none->Same H H'->MsAt H' r mss->Q (.ref r) H'
def sL:FnScope ["book"] ["book"] (aJ gU):=by walk_at "sc"
def qR(F:Fun K "meanings_of" "meanings_of" gU f fd)(G:Gs K mg w Zu Zz Zv Zx Z0 Zw Zy):FnOk P w K mg base CX0 1 f fd ["book"] jS:=by
 refine F.ok sL (λvs H Q E h=>?_) (λcdv A outer s H vs Q E hr h=>?_)
 ·obtain⟨a,bk,mss,rfl,_⟩:=h;rfl
 obtain⟨a,bk,mss,rfl,hbk,h60,hms,q⟩:=h;refine⟨_,(@aH _ _ _ (aY (cL rfl (bX (mv 0)) (lJ (N:=["word", "meaning"]) (by decide +kernel) (by decide +kernel)) (by decide +kernel) rfl (by decide +kernel) (λ_ _ _ _=>(fA (K:=K) (i:=0) (j:=1) (by rfl) (by rfl) (show List.Nodup (["word", "meaning"]:List Str) by decide +kernel) (by rfl) (by exact Or.inl rfl) (by exact Or.inr rfl) (by rfl) (by exact Or.inl rfl) (by exact Or.inr rfl))) (λ_ _ _ _=>cQ) (λ_ _ _ _=>(bN Bl Co Cp eV (mv 1) (@cU _ _ _ _ _ _ aB)))))),?_⟩
 obtain⟨qs,b1,b2,b3⟩:=id hbk;have rq:=aM b1
 have hql:(qs.map V.ref).length=bk.length:=by rw[Ab,b2]
 walk_at "go";refine kD (n:=bk.length) (λD i ys Hc=>Same H Hc/\∃ps:List Addr,ys=ps.map V.ref/\ps.length=i/\∀(j:Nat) p ms,ps[j]?=some p->mss[j]?=some ms->p≠D/\yV Hc p ms) (bD (by omega)) (λD hD=>⟨aF hD _,[],rfl,rfl,λj p ms hp=>by cases hp⟩) (λD i ys Hc hD r hi=>?_) (λD ys Hc hD r=>?_) ?_ (λD ys Hc hD r hDc hyl=>?_)
 ·exact⟨_,(qs.map V.ref)[i]'(by omega),bI (aI r.1 rq),Aa _⟩
 ·exact⟨_,bI (aI r.1 rq),by omega⟩
 ·rintro D i ys Hc x H' A B hD hi ⟨sm,ps,rfl,hpl,hps⟩ hDc y hA hB;obtain⟨rfl,hx⟩:=y;have hx':=hx _ (bI (aI sm rq))
  rw[Af]at hx';have hq:qs[i]?=some (qs[i]'(by omega)):=Aa _
  rw[hq]at hx';cases hx';have hbi:bk[i]?=some bk[i]:=Aa hi
  have tp:=sm _ _ (b3 i _ _ hq hbi)
  obtain⟨ms,hmi⟩:∃ms,mss[i]?=some ms:=⟨_,Aa (by rw[hms.1];exact hi)⟩
  obtain⟨e2,m1,m5,mT⟩:=hms.2 i _ ms hbi hmi;have hl:=eC ms mT
  have hp:=cS m1 mT
  rw[e2]at tp;have tpl:=eE tp
  walk_at "go";refine⟨Wk.set rfl (Wk.set rfl (Wk.refl _)),?_⟩;walk_at "go";refine eX rfl (by omega) λp5 hp5=>?_
  rw[show Txt.split (bA ms) (Str.ofString " ")=ms.map aQ from hp];have nD:p5≠D:=λz=>by rw[z,hDc]at hp5;cases hp5
  refine hA (.ref p5) _ (by rw[aG (Ne.symm nD)];exact hDc) ⟨?_,ps++[p5],by rw[Ar];rfl,by rw[Ah,hpl];rfl,λj p us hpj hmj=>?_⟩
  ·refine bL hD (sm.trans (aF hp5 _))
  ·by_cases hj:j<ps.length
   ·rw[Ax hj]at hpj;obtain⟨n1,t1⟩:=hps j p us hpj hmj;refine⟨n1,?_⟩;unfold yV at t1 ⊢;rw[aG n1];exact aF hp5 _ _ _ t1
   ·have ej:j=ps.length:=by
     have:=(Ae.mp hpj).1
     rw[Ah]at this;have:j<ps.length+1:=this
     omega
    subst ej;rw[Ba (Aj _),Gj]at hpj;cases hpj;rw[hpl,hmi]at hmj;cases hmj;refine⟨nD,?_⟩;unfold yV;rw[aG nD,aD]
 ·obtain⟨sm,ps,rfl,hpl,hps⟩:=r;exact q D Hc hD sm ⟨ps,hDc,by rw[hpl,hms.1],λj p ms hp hm=>(hps j p ms hp hm).2⟩
def mC:∀xs:List V,xs.all cN=true->hV xs xs=true:=λxs h=>by
 rw[kQ rfl,Ce];intro i hi;have f:=iF h i
 generalize xs.getD i .non=x at f ⊢;cases x with
 |non=>rfl
 |bl b=>show (b==b)=true;simp
 |int i=>show (i==i)=true;simp
 |str z=>show (z==z)=true;simp
 |_=>cases f
def oG(xs ys:List Str):hV (xs.map V.str) (ys.map V.str)=decide (xs=ys):=by
 by_cases e:xs=ys
 ·subst e;rw[mC _ (bZ _),An rfl]
 ·rw[Aw e];by_cases hl:xs.length=ys.length
  ·cases h:hV (xs.map V.str) (ys.map V.str) with
   |false=>rfl
   |true=>
    rw[kQ (by rw[Ab,Ab,hl]),Ce,Ab]at h
    refine absurd (Gk hl λj h1 h2=>?_) e;have q:=h j (Cb.mpr h1)
    rw[Ac,Ac,Af,Af,Aa h1,Aa h2]at q;have q2:(xs[j]==ys[j])=true:=q
    exact eq_of_beq q2
  ·exact qS (by rw[Ab,Ab];exact hl)
def tF{s l:Nat}(h:s<=xs.length):nX xs (some (s:Int)) (some ((s:Int)+(l:Int)))=(xs.drop s).take l:=by
 unfold nX;show (xs.drop (if (s:Int)<0 then ((s:Int)+(xs.length:Int)).toNat else min (s:Int).toNat xs.length)).take ((if (s:Int)+(l:Int)<0 then ((s:Int)+(l:Int)+(xs.length:Int)).toNat else min ((s:Int)+(l:Int)).toNat xs.length)-(if (s:Int)<0 then ((s:Int)+(xs.length:Int)).toNat else min (s:Int).toNat xs.length))=_
 rw[if_neg (by omega),if_neg (by omega),show (s:Int).toNat=s from rfl,show ((s:Int)+(l:Int)).toNat=s+l by omega,Ft h]
 by_cases hl:s+l<=xs.length
 ·rw[Ft hl,Dn]
 ·rw[Fn (by omega),Bk (by rw[Cw];omega),Bk (by rw[Cw];omega)]
def iQ{a b:Q6}(h:a.map aQ=b.map aQ):a=b:=List.map_inj_right (λ_ _ e=>tB e) |>.mp h
def aV(mss:List (List (List Nat)))(j:Nat):Nat:=(mss.getD j []).length
def dF(mss:List (List (List Nat)))(T:List (List Nat))(s j:Nat):Prop:=(T.drop s).take (aV mss j)=mss.getD j []
instance (mss:List (Q6)) (T:Q6) (s j:Nat):Decidable (dF mss T s j):=inferInstanceAs (Decidable (_=_))
def cF(mss:List (List (List Nat)))(T:List (List Nat))(s:Nat):List Nat:=(List.range mss.length).filter λj=>decide (dF mss T s j)
def cX1(mss:List (List (List Nat)))(T:List (List Nat))(s i:Nat):Option V:=if dF mss T s i then some (V.int (i:Int)) else none
def bJ8(mss:List (Q6))(T:Q6)(s:Nat):∀n,(List.range n).filterMap (cX1 mss T s)=((List.range n).filter λj=>decide (dF mss T s j)).map λj:Nat=>V.int (j:Int)
 |0=>rfl
 |n+1=>by
  rw[Cv,Bz,Ee,Ar,bJ8 mss T s n];congr 1
  by_cases h:dF mss T s n
  ·rw[Bi (b:=V.int (n:Int)) (by unfold cX1;rw[if_pos h]),Ef,if_pos (An h)]
   rfl
  ·rw[Cq (by unfold cX1;rw[if_neg h]),Ef,if_neg (by rw[Aw h];exact Ao)]
   rfl
def bP{s:Nat}(h:j∈cF mss T s):j<mss.length/\dF mss T s j:=by
 obtain⟨h1,h2⟩:=Cr.mp h;exact⟨Cb.mp h1,Bg h2⟩
def gH{s:Nat}(h:dF mss T s j)(hs:s<=T.length):s+aV mss j<=T.length:=by
 have:=Dk List.length h
 rw[Bp,Cw]at this;unfold aV at this ⊢;omega
def dR{ms:Q6}(h:mss[j]?=some ms):mss.getD j []=ms:=by
 rw[Ac,h];rfl
def fZ:Sp:=λvs H Q _=>∃(a b:Addr) (mss:List (List (List Nat))) (T:List (List Nat)) (s:Nat),vs=[.ref a,.ref b,.int (s:Int)]/\MsAt H a mss/\mss.length<=60/\yV H b T/\T.length<=1000/\s<=T.length/\
 ∀(r:Addr) (H':Hp),Same H H'->rdL H' r=some ((cF mss T s).map λj:Nat=>V.int (j:Int))->Q (.ref r) H'
def rM:FnScope ["meanings", "terms", "start"] ["meanings", "terms", "start"] (aJ fD):=by walk_at "sc"
def tL(F:Fun K "standing_at" "standing_at" fD f fd)(G:Gs K mg w Zu Zz Zv Zx Z0 Zw Zy):FnOk P w K mg base CX0 1 f fd ["meanings", "terms", "start"] fZ:=by
 refine F.ok rM (λvs H Q E h=>?_) (λcdv A outer s H vs Q E hr h=>?_)
 ·obtain⟨a,b,mss,T,s,rfl,_⟩:=h;rfl
 obtain⟨a,b,mss,T,st,rfl,hms,h60,hT,hTl,hst,q⟩:=h;refine⟨_,(@aH _ _ _ (aY (cL rfl (wH rfl G.b_enumerate (aA (mv 0) aB)) (eF (N:=["number", "meaning", "terms", "start"]) ["meanings", "terms", "start"] (aJ fD) [none,none,some 1,some 2] rfl rfl rfl (λx h=>bO h) (by decide +kernel)) (by decide +kernel) rfl (by decide +kernel) (λ_ _ _ _=>(fA (K:=K) (i:=0) (j:=1) (by rfl) (by rfl) (show List.Nodup (["number", "meaning", "terms", "start"]:List Str) by decide +kernel) (by rfl) (by exact Or.inl rfl) (by exact Or.inr rfl) (by rfl) (by exact Or.inl rfl) (by exact Or.inr rfl))) (λ_ _ _ _=>(iO (aZ (sQ hr.units0) (gG aXN (mv 2) (eJ (mv 3)) (eJ (aS bW (mv 3) (aP bS rfl G.b_len bH (aA (mv 1) aB))))) (mv 1) (aW _)))) (λ_ _ _ _=>(mv 0))))),?_⟩
 obtain⟨ps,p1,p2,p3⟩:=id hms;have rp:=aM p1
 have hpl:(ps.map V.ref).length=mss.length:=by rw[Ab,p2]
 walk_at "go";refine yE (k:=0) (xs:=ps.map V.ref) (λi _=>cX1 mss T st i) rp (by rw[hpl];exact bD (by omega)) (λi x Hc pt A B hx sm hpt hA=>?_) (λD Hd hD sD hd=>?_)
 ·rw[Af]at hx;cases e:ps[i]? with
  |none=>rw[e]at hx;cases hx
  |some pm=>
   rw[e]at hx;cases hx;have hi:i<mss.length:=by rw[<-p2];exact(Ae.mp e).1
   obtain⟨ms,hmi⟩:∃ms,mss[i]?=some ms:=⟨_,Aa hi⟩;have sc:=sm.trans (aF hpt (.tup [V.int ((0+i:Nat):Int),V.ref pm]))
   have tm:=sc _ _ (p3 i pm ms e hmi)
   have tt:=sc _ _ hT
   have rm:=aM tm
   have rt:=aM tt
   have tpt:uC (upd Hc pt (.tup [V.int ((0+i:Nat):Int),V.ref pm])) pt=some [V.int ((0+i:Nat):Int),V.ref pm]:=vL
   have hml:((ms.map aQ).map V.str).length=ms.length:=by rw[Ab,Ab]
   have htl:((T.map aQ).map V.str).length=T.length:=by rw[Ab,Ab]
   have eg:=dR hmi
   have hSt:dF mss T st i ↔ (T.drop st).take ms.length=ms:=by unfold dF aV;rw[eg]
   generalize upd Hc pt (.tup [V.int ((0+i:Nat):Int),V.ref pm])=H2 at hA sc tm tt rm rt tpt ⊢;walk_at "go";refine⟨Wk.set rfl (Wk.set rfl (Wk.refl _)),?_⟩;walk_at "go";rw[hml];intro r hr;rw[tF (by rw[htl];exact hst),<-Eg,<-Eg,<-Dy,<-Dy]
   have s3:=aF hr (.lst ((((T.drop st).take ms.length).map aQ).map V.str))
   refine nZ bU (aI s3 rm) (bZ _) (bZ _) ?_;rw[if_neg Ao,oG];have r4:=hA _ s3
   generalize upd H2 r (.lst ((((T.drop st).take ms.length).map aQ).map V.str))=H3 at r4 ⊢;walk_at "go";unfold cX1 at r4;by_cases z:dF mss T st i
   ·rw[if_pos z]at r4;rw[An (Dk (List.map aQ) (hSt.mp z))];walk_at "go";rw[Nat.zero_add];exact r4
   ·rw[if_neg z]at r4;rw[Aw (λk=>z (hSt.mpr (iQ k)))];exact r4
 ·rw[hpl,bJ8]at hd;exact q D Hd sD hd
def tV:Option Int->V
 |none=>.non
 |some n=>.int n
def jR(mss:List (List (List Nat)))(T:List (List Nat))(TB:List (Option Int))(i:Nat):List (Option Int):=(cF mss T i).map λj=>TB.getD (i+aV mss j) none
def knL(mss:List (List (List Nat)))(T:List (List Nat))(TB:List (Option Int))(i:Nat):List Int:=(jR mss T TB i).filterMap id
def jZ(mss:List (List (List Nat)))(T:List (List Nat))(TB:List (Option Int))(i:Nat):Prop:=(knL mss T TB i=[]/\TB.getD i none=none)\/∃m,m∈knL mss T TB i/\(∀a∈knL mss T TB i,m<=a)/\TB.getD i none=some (1+m)
def oR(mss:List (List (List Nat))):Prop:=mss.length<=60/\∀ms∈mss,1<=ms.length/\ms.length<=5
def fX(h:oR mss)(hj:j<mss.length):1<=aV mss j/\aV mss j<=5:=by
 unfold aV;rw[Ac,Aa hj];exact h.2 _ (Bx hj)
def kH(hL:oR mss)(h:∀k,i<k->TB.getD k none=TC.getD k none):jR mss T TB i=jR mss T TC i:=by
 unfold jR;refine Di λj hj=>?_;have:=fX hL (bP hj).1
 exact h _ (by omega)
def uY(hL:oR mss)(h:∀k,i<=k->TB.getD k none=TC.getD k none)(r:jZ mss T TB i):jZ mss T TC i:=by
 unfold jZ knL at r ⊢;rw[kH hL (λk hk=>h k (by omega)),h i (Aj _)]at r
 exact r
structure TabOk (mss:List (List (List Nat))) (T:List (List Nat)) (TB:List (Option Int)):Prop where
 len:TB.length=T.length+1
 last:TB.getD T.length none=some 0
 small:∀k n,TB.getD k none=some n->0<=n/\n<=1000
 row:∀i,i<T.length->jZ mss T TB i
def pM(h:k<TB.length):atI (TB.map tV) (k:Int)=some (tV (TB.getD k none)):=by
 refine bC ?_;rw[Af,Aa h,Ac,Aa h];rfl
def dL{v:Option Int}(hk:k<TB.length):(TB.set k v).getD i none=if i=k then v else TB.getD i none:=by
 rw[Ac,List.getElem?_set,Ac];by_cases e:i=k
 ·subst e;rw[if_pos rfl,if_pos rfl,if_pos hk];rfl
 ·rw[if_neg (λz=>e z.symm),if_neg e]
def eJA(bs:List (Option Int)):(bs.map tV).filterMap (λx=>match x with|.int n=>some (V.int n)|_=>none)=(bs.filterMap id).map V.int:=by
 induction bs with
 |nil=>rfl
 |cons b r ih=>
  cases b with
  |none=>rw[Aq,Cq rfl,ih,Cq rfl]
  |some n=>rw[Aq,Bi (f:=λx=>match x with|.int n=>some (V.int n)|_=>none) (a:=tV (some n)) (b:=V.int n) rfl,ih,Bi (f:=id) (a:=some n) (b:=n) rfl];rfl
def hX:Sp:=λvs H Q _=>∃(a b:Addr) (mss:List (List (List Nat))) (T:List (List Nat)),vs=[.ref a,.ref b]/\MsAt H a mss/\oR mss/\yV H b T/\T.length<=40/\
 ∀(r:Addr) (TB:List (Option Int)) (H':Hp),H r=none->Same H H'->H' r=some (.lst (TB.map tV))->TabOk mss T TB->Q (.ref r) H'
def sc_least_numbers:FnScope ["meanings", "terms", "table", "start", "behind", "known"] ["meanings", "terms"] (aJ dS):=by walk_at "sc"
def oY(F:Fun K "least_numbers" "least_numbers" dS f fd)(G:Gs K mg w Zu Zz Zv Zx Z0 Zw Zy)(c_standing_at:Cal P w K mg base 1 "standing_at" ["meanings", "terms", "start"] fZ):FnOk P w K mg base CX0 2 f fd ["meanings", "terms"] hX:=by
 refine F.ok sc_least_numbers (λvs H Q E h=>?_) (λcdv A outer s H vs Q E hr h=>?_)
 ·obtain⟨a,b,mss,T,rfl,_⟩:=h;rfl
 obtain⟨a,b,mss,T,rfl,hms,hL,hT,h40,q⟩:=h;refine⟨_,(@aE _ _ _ _ _ (aO 2 sc_least_numbers.nd (aS bW (aS oH (cG (aA cZ aB)) (aP bS rfl G.b_len bH (aA (mv 1) aB))) (cG (aA aK aB)))) (@aE _ _ _ _ _ (dA Bu rfl (uO rfl G.b_range (aA (aS kW (aP bS rfl G.b_len bH (aA (mv 1) aB)) aK) (aA (aJ4 aJK aK) (aA (aJ4 aJK aK) aB)))) (bE (i:=3) sc_least_numbers.nd rfl (Or.inr rfl)) (@aE _ _ _ _ _ (eM (i:=4) sc_least_numbers.nd rfl (Or.inl rfl) rfl (bX (aU c_standing_at hr (by decide) rfl (aA (mv 0) (aA (mv 1) (aA (mv 3) aB))))) (eF (N:=["number", "table", "start", "meanings"]) ["meanings", "terms", "table", "start", "behind", "known"] (aJ dS) [none,some 2,some 3,some 0] rfl rfl rfl (λx h=>bO h) (by decide +kernel)) (by decide +kernel) rfl (by decide +kernel) (λ_ _ _ _=>(bE (i:=0) (show List.Nodup (["number", "table", "start", "meanings"]:List Str) by decide +kernel) rfl (Or.inl rfl))) (λ_ _ _ _=>cQ) (λ_ _ _ _=>(bF bV (mv 1) (aS bW (mv 2) (aP bS rfl G.b_len bH (aA (bF bV (mv 3) (mv 0) (λ_ _=>rfl)) aB))) (λ_ _=>rfl)))) (@aE _ _ _ _ _ (eM (i:=5) sc_least_numbers.nd rfl (Or.inl rfl) rfl (bX (mv 4)) (lJ (N:=["many"]) (by decide +kernel) (by decide +kernel)) (by decide +kernel) rfl (by decide +kernel) (λ_ _ _ _=>(bE (i:=0) (show List.Nodup (["many"]:List Str) by decide +kernel) rfl (Or.inl rfl))) (λ_ _ _ _=>(iO (aZ qY (mv 0) cZ (aW _)))) (λ_ _ _ _=>(mv 0))) (@aH _ _ _ (cI (aZ (dZC hr.units0) (mv 5) (cG aB) (aW _)) (@aH _ _ _ (cQK (aS bW aK (aP (dJ5 rfl) rfl G.b_min dZR (aA (mv 5) aB))) (bJF (mv 2) (mv 3) yX))) bK))))) (@aH _ _ _ (aY (mv 2))))),?_⟩
 have htl:((T.map aQ).map V.str).length=T.length:=by rw[Ab,Ab]
 have rT:=aM hT
 walk_at "go";refine⟨by show 1<=sizeLine;decide,λp0 hp0=>?_⟩
 have s0:=aF hp0 (.lst [V.non])
 have e0:(upd H p0 (.lst [V.non])) p0=some (.lst [V.non]):=aD
 generalize upd H p0 (.lst [V.non])=H0 at s0 e0 ⊢;have rT0:=aI s0 rT
 walk_at "go";rw[htl];refine⟨p0,_,[V.non],rfl,rfl,e0,by omega,by omega,by show 1*((T.length:Int)).toNat<=sizeLine;exact bJ (by omega),λp1 hp1=>?_⟩
 have er:(List.replicate ((T.length:Int)).toNat [V.non]).flatten=(List.replicate T.length (none:Option Int)).map tV:=by
  rw[show ((T.length:Int)).toNat=T.length from rfl];generalize T.length=n;induction n with
  |zero=>rfl
  |succ n ih=>rw[Ck,Ci,ih,Ck,Aq];rfl
 rw[er];have s1:=s0.trans (aF hp1 (.lst ((List.replicate T.length (none:Option Int)).map tV)))
 have e1:(upd H0 p1 (.lst ((List.replicate T.length (none:Option Int)).map tV))) p1=_:=aD
 generalize upd H0 p1 (.lst ((List.replicate T.length (none:Option Int)).map tV))=H1 at s1 e1 ⊢;walk_at "go";refine⟨by show 1<=sizeLine;decide,λp2 hp2=>?_⟩
 have n2:p1≠p2:=bG e1 hp2
 refine jN (xs:=(List.replicate T.length (none:Option Int)).map tV) (ys:=[V.int 0]) (by rw[nQ n2];exact cC e1) cX (bJ (by rw[Ab,Ay];show _+1<=_;omega)) λtb htb=>?_
 rw[show (List.replicate T.length (none:Option Int)).map tV++[V.int 0]=(List.replicate T.length (none:Option Int)++[some 0]).map tV by rw[Ar];rfl]
 have htbH:H tb=none:=none_of (s1.trans (aF hp2 _)) htb
 have s3:=s1.trans ((aF hp2 (.lst [V.int 0])).trans (aF htb (.lst ((List.replicate T.length (none:Option Int)++[some 0]).map tV))))
 have e3:(upd (upd H1 p2 (.lst [V.int 0])) tb (.lst ((List.replicate T.length (none:Option Int)++[some 0]).map tV))) tb=_:=aD
 generalize upd (upd H1 p2 (.lst [V.int 0])) tb (.lst ((List.replicate T.length (none:Option Int)++[some 0]).map tV))=H3 at s3 e3 ⊢;have rT3:=aI s3 rT
 walk_at "go";rw[htl];refine⟨⟨by omega,by omega,by omega,by omega,rfl⟩,?_⟩
 have hcn:oS ((T.length:Int)-1) (-1)=T.length:=by unfold oS;omega
 rw[hcn];have ini:∀k,(List.replicate T.length (none:Option Int)++[some 0]).getD k none=if k=T.length then some 0 else none:=λk=>by
  rw[Ac];by_cases h1:k<T.length
  ·rw[Ax (by rw[Ay];exact h1),Dw,if_pos h1,if_neg (by omega)]
   rfl
  ·rw[Ba (by rw[Ay];omega),Ay]
   by_cases h2:k=T.length
   ·subst h2;rw[if_pos rfl,Gj];rfl
   ·rw[if_neg h2,Ew (by show 1<=_;omega)];rfl
 refine vT (λt σ H'=>∃(TB:List (Option Int)) (v3 v4 v5:Option V),σ=[some (.ref a),some (.ref b),some (.ref tb),v3,v4,v5]/\Same H H'/\H' tb=some (.lst (TB.map tV))/\TB.length=T.length+1/\TB.getD T.length none=some 0/\(∀k v,TB.getD k none=some v->0<=v/\v<=(t:Int))/\(∀i,T.length<=i+t->i<T.length->jZ mss T TB i)/\∀i,i+t<T.length->TB.getD i none=none)
  ⟨List.replicate T.length none++[some 0],_,_,_,rfl,s3,e3,by rw[Ah,Ay];rfl,by rw[ini,if_pos rfl],λk v hv=>?_,λi h1 h2=>absurd h1 (by omega),λi hi=>by rw[ini,if_neg (by omega)]⟩ ?_ ?_
 ·rw[ini]at hv;split at hv
  ·cases hv;omega
  ·cases hv
 ·rintro t σ H4 ht ⟨TB,v3,v4,v5,rfl,s4,e4,hlen,hlast,hsm,fO,hnone⟩;obtain⟨st,hst⟩:∃st:Nat,st+t+1=T.length:=⟨T.length-1-t,by omega⟩
  rw[show (T.length:Int)-1+(t:Int)*(-1)=(st:Int) by omega]
  have hms4:=hms.keep s4
  have hT4:=s4 _ _ hT
  walk_at "go";refine⟨a,b,mss,T,st,rfl,hms4,hL.1,hT4,by omega,by omega,λrs H5 s5 e5=>?_⟩
  have e45:=s5 _ _ e4
  obtain⟨ps,p1',p2',p3'⟩:=hms4.keep s5;walk_at "go";refine fE (xs:=(cF mss T st).map λj:Nat=>V.int (j:Int)) (λx=>match x with|.int j=>some (tV (TB.getD (st+aV mss j.toNat) none))|_=>none) e5 (by
   rw[Ab];have:(cF mss T st).length<=mss.length:=by unfold cF;have:=Ey (λj=>decide (dF mss T st j)) (List.range mss.length);rw[Bq]at this;exact this
   exact bD (by have:=hL.1;omega)) (λi x Hc A B hx sm hA=>?_) (λD Hd hD sD hd=>?_)
  ·rw[Af]at hx;cases e:(cF mss T st)[i]? with
   |none=>rw[e]at hx;cases hx
   |some j=>
    rw[e]at hx;cases hx;obtain⟨hj,hS⟩:=bP (Am e);have hle:=gH hS (by omega)
    have hpj:ps[j]?=some (ps[j]'(by omega)):=Aa _
    obtain⟨ms,hmj⟩:∃ms,mss[j]?=some ms:=⟨_,Aa hj⟩;have tm:=sm _ _ (p3' j _ ms hpj hmj)
    have rm:=aM tm
    have eg:=dR hmj
    have hml:((ms.map aQ).map V.str).length=aV mss j:=by unfold aV;rw[eg,Ab,Ab]
    have rps:=aM (sm _ _ p1')
    have rtb:=aM (sm _ _ e45)
    walk_at "go";refine⟨Wk.set rfl (Wk.refl _),?_⟩;walk_at "go";refine cD rps (v:=.ref (ps[j]'(by omega))) (bC (by rw[Af,hpj];rfl)) ?_
    walk_at "go";rw[hml];refine cD rtb (by rw[show (st:Int)+(aV mss j:Int)=((st+aV mss j:Nat):Int) by omega];exact pM (by omega)) ?_
    exact hA _ (Same.refl _)
  ·have eb:((cF mss T st).map λj:Nat=>V.int (j:Int)).filterMap (λx=>match x with | .int j=>some (tV (TB.getD (st+aV mss j.toNat) none)) | _=>none)=(jR mss T TB st).map tV:=by
    unfold jR;rw[Gy,Cm];exact kP (λj:Nat=>tV (TB.getD (st+aV mss j) none)) _
   rw[eb]at hd;have e4d:=sD _ _ e45
   have rbD:=aM hd
   have hbl:((jR mss T TB st).map tV).length<=60:=by
    rw[Ab];unfold jR cF;rw[Ab];have:=Ey (λj=>decide (dF mss T st j)) (List.range mss.length)
    rw[Bq]at this;have:=hL.1
    omega
   walk_at "go";refine fE (xs:=(jR mss T TB st).map tV) (λx=>match x with|.int n=>some (V.int n)|_=>none) rbD (bD (by omega)) (λi x Hc A B hx sm hA=>?_) (λD2 Hd2 hD2 sD2 hd2=>?_)
   ·rw[Af]at hx;cases e:(jR mss T TB st)[i]? with
    |none=>rw[e]at hx;cases hx
    |some o=>
     rw[e]at hx;cases hx;have r:=hA _ (Same.refl _)
     cases o with
     |none=>
      walk_at "go";refine⟨Wk.set rfl (Wk.refl _),?_⟩;walk_at "go";exact r
     |some n=>
      walk_at "go";refine⟨Wk.set rfl (Wk.refl _),?_⟩;walk_at "go";exact r
   ·rw[eJA]at hd2;have hd2':Hd2 D2=some (.lst ((knL mss T TB st).map V.int)):=hd2
    have e42:=sD2 _ _ e4d
    walk_at "go";refine⟨by decide,λpe hpe=>?_⟩
    have s6:=aF hpe (.lst [])
    refine nZ (neg:=true) (aI s6 (aM hd2')) bU (by rw[Ce];intro x hx;obtain⟨n,_,rfl⟩:=Bb.mp hx;rfl) rfl ?_
    have e6:=s6 _ _ e42
    have d6:=s6 _ _ hd2'
    have s06:=s4.trans (s5.trans (sD.trans (sD2.trans s6)))
    generalize upd Hd2 pe (.lst [])=H6 at s6 e6 d6 s06 ⊢;have en:∀xs:List V,hV xs []=xs.isEmpty:=λxs=>by cases xs<;>rfl
    rw[if_pos rfl,en];have hst1:st<TB.length:=by omega
    have hstn:TB.getD st none=none:=hnone st (by omega)
    walk_at "go";cases hk:knL mss T TB st with
    |nil=>
     rw[show (List.map V.int ([]:List Int)).isEmpty=true from rfl];walk_at "go";refine⟨TB,_,_,_,rfl,s06,e6,hlen,hlast,λk v hv=>by have:=hsm k v hv;omega,λi h1 h2=>?_,λi hi=>hnone i (by omega)⟩
     by_cases ei:i=st
     ·subst ei;exact .inl ⟨hk,hstn⟩
     ·exact fO i (by omega) h2
    |cons k0 kr=>
     rw[show (List.map V.int (k0::kr)).isEmpty=false from rfl];rw[hk]at d6;have nD:D2≠tb:=λz=>by rw[z,sD2 _ _ e4d]at hd2';rw[z]at hD2;rw[e4d]at hD2;cases hD2
     walk_at "go";refine eQM (ns:=k0::kr) (aM d6) (by rw[Au];omega) λm hm hmin=>?_
     walk_at "go";refine cQT (o:=.non) (cC e6) (aXO (by omega) (by rw[Ab];omega)) ?_
     rw[show ((st:Nat):Int).toNat=st from rfl,show V.int (1+m)=tV (some (1+m)) from rfl,<-List.map_set];have hmk:m∈knL mss T TB st:=by rw[hk];exact hm
     have hmo:some m∈jR mss T TB st:=by
      obtain⟨o,ho,e⟩:=Bv.mp hmk;have e2:o=some m:=e
      rw[<-e2];exact ho
     obtain⟨jj,hjj,ejj⟩:=Bb.mp hmo;have hmb:=hsm _ _ ejj
     have gd:∀k,k≠st->TB.getD k none=(TB.set st (some (1+m))).getD k none:=λk hk=>by rw[dL hst1,if_neg hk]
     walk_at "go";refine⟨TB.set st (some (1+m)),_,_,_,rfl,bL htbH s06,aD,by rw[Dq];exact hlen,by rw[<-gd _ (by omega)];exact hlast,λk v hv=>?_,λi h1 h2=>?_,λi hi=>by rw[<-gd _ (by omega)];exact hnone i (by omega)⟩
     ·by_cases ek:k=st
      ·subst ek;rw[dL hst1,if_pos rfl]at hv;cases hv;omega
      ·rw[<-gd k ek]at hv;have:=hsm k v hv
       omega
     ·by_cases ei:i=st
      ·subst ei;have ebe:jR mss T (TB.set i (some (1+m))) i=jR mss T TB i:=kH hL λk hk=>(gd k (by omega)).symm
       refine .inr ⟨m,?_,?_,by rw[dL hst1,if_pos rfl]⟩
       ·unfold knL;rw[ebe];exact hmk
       ·unfold knL;rw[ebe];intro x hx;have hx2:x∈knL mss T TB i:=hx
        rw[hk]at hx2;exact hmin x hx2
      ·exact uY hL (λk hk=>gd k (by omega)) (fO i (by omega) h2)
 ·rintro σ H4 ⟨TB,v3,v4,v5,rfl,s4,e4,hlen,hlast,hsm,fO,hnone⟩;walk_at "go";exact q tb TB H4 htbH s4 e4 ⟨hlen,hlast,λk n hn=>by have:=hsm k n hn;omega,λi hi=>fO i (by omega) hi⟩
def qI(h:cK bk mss)(h60:bk.length<=60):oR mss:=by
 refine⟨by rw[h.1];exact h60,λms hm=>?_⟩
 obtain⟨j,hj,e⟩:=Bm.mp hm;have hb:j<bk.length:=by rw[<-h.1];exact hj
 have:=h.2 j _ ms (Aa hb) (by rw[Aa hj,e])
 exact⟨this.2.1,this.2.2.1⟩
def jV:Sp:=λ_ _ _ _=>False
def sZ(F:Fun K "behind_haul" "behind_haul" lG f fd)(G:Gs K mg w Zu Zz Zv Zx Z0 Zw Zy):FnOk P w K mg base CX0 1 f fd ["halyards", "locker", "number", "word"] jV:=⟨λ_ _ _ _ h=>h.elim,λ_ _ _ _ _ _ _ _ _ _ _ _ _ h=>h.elim⟩
def iY:Sp:=λ_ _ _ _=>False
def qA(F:Fun K "behind_lower" "behind_lower" jG f fd)(G:Gs K mg w Zu Zz Zv Zx Z0 Zw Zy):FnOk P w K mg base CX0 1 f fd ["halyards", "locker", "number"] iY:=⟨λ_ _ _ _ h=>h.elim,λ_ _ _ _ _ _ _ _ _ _ _ _ _ h=>h.elim⟩
def jB:Sp:=λ_ _ _ _=>False
def rL(F:Fun K "behind_lose" "behind_lose" lD f fd)(G:Gs K mg w Zu Zz Zv Zx Z0 Zw Zy):FnOk P w K mg base CX0 1 f fd ["halyards", "locker", "flag"] jB:=⟨λ_ _ _ _ h=>h.elim,λ_ _ _ _ _ _ _ _ _ _ _ _ _ h=>h.elim⟩
def jM:Sp:=λ_ _ _ _=>False
def sJ(F:Fun K "behind_find" "behind_find" lB f fd)(G:Gs K mg w Zu Zz Zv Zx Z0 Zw Zy):FnOk P w K mg base CX0 1 f fd ["halyards", "locker", "flag"] jM:=⟨λ_ _ _ _ h=>h.elim,λ_ _ _ _ _ _ _ _ _ _ _ _ _ h=>h.elim⟩
def eJ3:Str:=("longest_on" : Str) ++ ".<locals>." ++ "<lambda>"
def eJY:Pos:=⟨112,29,112,65⟩
def dN(Pt:Addr)(H:Hp):Prop:=LamT Pt eJ3 eJY H
structure Best (mss:List (List (List Nat))) (T:List (List Nat)) (TB:List (Option Int)) (i k:Nat):Prop where
 st:k∈cF mss T i
 one:∃n,TB.getD i none=some n/\TB.getD (i+aV mss k) none=some (n-1)
 most:∀j∈cF mss T i,TB.getD (i+aV mss j) none=TB.getD (i+aV mss k) none->aV mss j<=aV mss k
inductive Path (mss:List (List (List Nat))) (T:List (List Nat)) (TB:List (Option Int)):Nat->List Nat->Prop
 |nil:Path mss T TB T.length []
 |cons {i k:Nat} {ks:List Nat}:i<T.length->Best mss T TB i k->Path mss T TB (i+aV mss k) ks->Path mss T TB i (k::ks)
def bJY(p:Nat->Bool):∀L:List Nat,(L.map λj:Nat=>V.int (j:Int)).filterMap (λx=>match x with|.int j=>if p j.toNat=true then some (V.int j) else none|_=>none)=(L.filter p).map λj:Nat=>V.int (j:Int)
 |[]=>rfl
 |j::r=>by
  rw[Aq];cases h:p j with
  |true=>
   rw[Bi (b:=V.int (j:Int)) (by show (if p ((j:Int)).toNat=true then _ else _)=_;rw[Ds,if_pos h]),bJY p r,Ef,if_pos h]
   rfl
  |false=>
   rw[Cq (by show (if p ((j:Int)).toNat=true then _ else _)=_;rw[Ds,if_neg (by rw[h];decide)]),bJY p r,Ef,if_neg (by rw[h];decide)]
def gZ(Pt:Addr):Sp:=λvs H Q _=>∃(a b tb:Addr) (mss:List (List (List Nat))) (T:List (List Nat)) (TB:List (Option Int)) (i:Nat) (n:Int),vs=[.ref a,.ref b,.ref tb,.int (i:Int)]/\MsAt H a mss/\oR mss/\yV H b T/\T.length<=40/\H tb=some (.lst (TB.map tV))/\TabOk mss T TB/\i<T.length/\TB.getD i none=some n/\dN Pt H/\
 ∀(k:Nat) (H':Hp),Best mss T TB i k->SameP Pt H H'->dN Pt H'->Q (.int (k:Int)) H'
def sc_longest_on:FnScope ["meanings", "terms", "table", "start", "left", "standing", "shortest"] ["meanings", "terms", "table", "start"] (aJ dJ):=by walk_at "sc"
def uI{c:Addr}(F:Fun K "longest_on" "longest_on" dJ f fd)(G:Gs K mg w Zu Zz Zv Zx Z0 Zw Zy)(hfc:fd.code=.ref c)(LB:LamB mg base c Pt)(c_standing_at:Cal P w K mg base 1 "standing_at" ["meanings", "terms", "start"] fZ):FnOk P w K mg base CX0 2 f fd ["meanings", "terms", "table", "start"] (gZ Pt):=by
 refine F.okC hfc sc_longest_on (λvs H Q E h=>?_) (λcdv A outer s H vs Q E hcdv hr h=>?_)
 ·obtain⟨a,b,tb,mss,T,TB,i,n,rfl,_⟩:=h;rfl
 obtain⟨a,b,tb,mss,T,TB,st,n,rfl,hms,hL,hT,h40,etb,ok,hst,hn,hlam,q⟩:=h;refine⟨_,(@aE _ _ _ _ _ (aO 4 sc_longest_on.nd (aS kW (bF bV (mv 2) (mv 3) (λ_ _=>rfl)) aK)) (@aE _ _ _ _ _ (aO 5 sc_longest_on.nd (aU c_standing_at hr (by decide) rfl (aA (mv 0) (aA (mv 1) (aA (mv 3) aB))))) (@aE _ _ _ _ _ (eM (i:=6) sc_longest_on.nd rfl (Or.inl rfl) rfl (bX (mv 5)) (eF (N:=["number", "left", "table", "start", "meanings"]) ["meanings", "terms", "table", "start", "left", "standing", "shortest"] (aJ dJ) [none,some 4,some 2,some 3,some 0] rfl rfl rfl (λx h=>bO h) (by decide +kernel)) (by decide +kernel) rfl (by decide +kernel) (λ_ _ _ _=>(bE (i:=0) (show List.Nodup (["number", "left", "table", "start", "meanings"]:List Str) by decide +kernel) rfl (Or.inl rfl))) (λ_ _ _ _=>(iO (aZ oJ (bF bV (mv 2) (aS bW (mv 3) (aP bS rfl G.b_len bH (aA (bF bV (mv 4) (mv 0) (λ_ _=>rfl)) aB))) (λ_ _=>rfl)) (mv 1) (aW _)))) (λ_ _ _ _=>(mv 0))) (@aH _ _ _ (aY (bXY rfl (dZ3 hr) rfl G.b_max (aA (mv 6) aB) hcdv LB (eZ8 (N:=["number", "meanings"]) (x := "number") ["meanings", "terms", "table", "start", "left", "standing", "shortest"] (aJ dJ) [0] rfl rfl (λx h=>bO h) (by decide +kernel)) (λA f c' s₀ H₀=>(aP bS rfl G.b_len bH (aA (bF bV (mv 1) (mv 0) (λ_ _=>rfl)) aB))) rfl rfl rfl rfl (by decide +kernel) (λ_ _ _ _ _=>rfl))))))),?_⟩
 have rtb0:=aM etb
 have hlen:=ok.len
 walk_at "go";refine cD rtb0 (v:=.int n) (by rw[pM (by omega),hn];rfl) ?_
 walk_at "go";refine⟨a,b,mss,T,st,rfl,hms,hL.1,hT,by omega,by omega,λrs H5 s5 e5=>?_⟩
 have e45:=s5 _ _ etb
 obtain⟨ps,p1',p2',p3'⟩:=hms.keep s5;have hsl:(cF mss T st).length<=60:=by
  have:=Ey (λj=>decide (dF mss T st j)) (List.range mss.length)
  rw[Bq]at this;have:=hL.1
  unfold cF;omega
 walk_at "go";refine fE (xs:=(cF mss T st).map λj:Nat=>V.int (j:Int)) (λx=>match x with|.int j=>if decide (TB.getD (st+aV mss j.toNat) none=some (n-1))=true then some (V.int j) else none|_=>none) e5 (by rw[Ab];exact bD (by omega)) (λi x Hc A B hx sm hA=>?_) (λD Hd hD sD hd=>?_)
 ·rw[Af]at hx;cases e:(cF mss T st)[i]? with
  |none=>rw[e]at hx;cases hx
  |some j=>
   rw[e]at hx;cases hx;obtain⟨hj,hS⟩:=bP (Am e);have hle:=gH hS (by omega)
   have hpj:ps[j]?=some (ps[j]'(by omega)):=Aa _
   obtain⟨ms,hmj⟩:∃ms,mss[j]?=some ms:=⟨_,Aa hj⟩;have tm:=sm _ _ (p3' j _ ms hpj hmj)
   have rm:=aM tm
   have eg:=dR hmj
   have hml:((ms.map aQ).map V.str).length=aV mss j:=by unfold aV;rw[eg,Ab,Ab]
   have rps:=aM (sm _ _ p1')
   have rtb:=aM (sm _ _ e45)
   have r:(match (if decide (TB.getD (st+aV mss j) none=some (n-1))=true then some (V.int (j:Int)) else none) with|some y=>A y Hc|none=>B Hc):=hA _ (Same.refl _)
   walk_at "go";refine⟨Wk.set rfl (Wk.refl _),?_⟩;walk_at "go";refine cD rps (v:=.ref (ps[j]'(by omega))) (bC (by rw[Af,hpj];rfl)) ?_
   walk_at "go";rw[hml];refine cD rtb (by rw[show (st:Int)+(aV mss j:Int)=((st+aV mss j:Nat):Int) by omega];exact pM (by omega)) ?_
   generalize TB.getD (st+aV mss j) none=o at r ⊢;cases o with
   |none=>
    rw[if_neg (by simp)]at r
    refine⟨rfl,?_⟩;rw[show decide (tV none=V.int (n-1))=false from Aw λz=>nomatch z]
    exact r
   |some m=>
    show mEq (V.int m) (V.int (n-1)) _ _
    walk_at "go";by_cases z:m=n-1
    ·rw[An (by rw[z]),if_pos rfl]at r
     rw[An z];walk_at "go";exact r
    ·rw[Aw (λy=>z (by injection y)),if_neg (by decide)]at r
     rw[Aw z];exact r
 ·rw[bJY λj=>decide (TB.getD (st+aV mss j) none=some (n-1))]at hd;generalize hks:(cF mss T st).filter (λj=>decide (TB.getD (st+aV mss j) none=some (n-1)))=ks at hd;have hmem:∀j,j∈ks ↔ j∈cF mss T st/\TB.getD (st+aV mss j) none=some (n-1):=λj=>by rw[<-hks,Cr,Bw]
  have hpos:0<ks.length:=by
   rcases ok.row st hst with⟨_,z⟩|⟨m,hm,_,hm2⟩
   ·rw[hn]at z;cases z
   ·rw[hn]at hm2;obtain⟨o,ho,e⟩:=Bv.mp hm;have e2:o=some m:=e
    obtain⟨j,hj,ej⟩:=Bb.mp ho;have:j∈ks:=(hmem j).mpr ⟨hj,by rw[ej,e2];injection hm2 with hm2;rw[hm2];congr 1;omega⟩
    exact Hq this
  have hlD:=hlam.keep (s5.trans sD)
  have hpsD:=sD _ _ p1'
  walk_at "go";refine cXM ?_;walk_at "go";refine⟨D,ks.map λj:Nat=>(j:Int),λi=>((aV mss (ks.getD i 0):Nat):Int),rfl,by rw[Cm];exact aM hd,by rw[Ab];exact hpos,hlD,λH2 hrd i n0 hn0=>?_,λi m H2 hm hbest sP hl2=>?_⟩
  ·rw[Af]at hn0;obtain⟨k,ek,rfl⟩:=Bj.mp hn0;obtain⟨hk1,hk2⟩:=(hmem k).mp (Am ek);obtain⟨hj,hS⟩:=bP hk1;have hpj:ps[k]?=some (ps[k]'(by omega)):=Aa _
   obtain⟨ms,hmj⟩:∃ms,mss[k]?=some ms:=⟨_,Aa hj⟩;have rps:=hrd _ _ (aM hpsD)
   have rm:=hrd _ _ (aM (sD _ _ (p3' k _ ms hpj hmj)))
   have hml:((ms.map aQ).map V.str).length=aV mss k:=by unfold aV;rw[dR hmj,Ab,Ab]
   have egk:ks.getD i 0=k:=by rw[Ac,ek];rfl
   change tCB L2.aV (aQD (tOp mIx (bQ5 1) (bQ5 0)) bXG) [some (V.int (k:Int)),some (V.ref a)] H2 _
   walk_at "go";refine cD rps (v:=.ref (ps[k]'(by omega))) (bC (by rw[Af,hpj];rfl)) ?_
   walk_at "go";rw[hml,egk];exact⟨rfl,rfl⟩
  ·rw[Af]at hm;obtain⟨k,ek,rfl⟩:=Bj.mp hm;obtain⟨hk1,hk2⟩:=(hmem k).mp (Am ek);have egk:ks.getD i 0=k:=by rw[Ac,ek];rfl
   refine q k H2 ⟨hk1,⟨n,hn,hk2⟩,λj hj ej=>?_⟩ ((Same.p (s5.trans sD)).trans sP) hl2;obtain⟨u,hu⟩:=List.mem_iff_getElem?.mp ((hmem j).mpr ⟨hj,ej.trans hk2⟩);have hul:=(Ae.mp hu).1
   have h2:((aV mss (ks.getD u 0):Nat):Int)<=((aV mss (ks.getD i 0):Nat):Int):=hbest u (by rw[Ab];exact hul)
   rw[egk,show ks.getD u 0=j by rw[Ac,hu];rfl]at h2
   omega
def rdP(s:SameP Pt H H')(l:dN Pt H)(h:rdL H a=some xs):rdL H' a=some xs:=aZ1 s h l.tb
def atP(s:SameP Pt H H')(l:dN Pt H)(h:H a=some o)(ht:∀ps,o≠.tbl ps):H' a=some o:=s a o (λz=>by
 obtain⟨ps,e⟩:=l.tb;rw[z,e]at h;cases h;exact ht _ rfl) h
def msP(h:MsAt H r mss)(s:SameP Pt H H')(l:dN Pt H):MsAt H' r mss:=by
 obtain⟨ps,h1,h2,h3⟩:=h;exact⟨ps,atP s l h1 (λ_=>nofun),h2,λj p ms hp hm=>atP s l (h3 j p ms hp hm) λ_=>nofun⟩
def bkP(h:BkAt H r bk)(s:SameP Pt H H')(l:dN Pt H):BkAt H' r bk:=by
 obtain⟨ps,h1,h2,h3⟩:=h;exact⟨ps,atP s l h1 (λ_=>nofun),h2,λj p b hp hb=>atP s l (h3 j p b hp hb) λ_=>nofun⟩
def aZY(h:dN Pt H)(e:H p=some (.lst xs)):dN Pt (upd H p o):=by
 have ne:∀b u,H b=some u->(∀z,u≠.lst z)->b≠p:=λb u h n y=>by rw[y,e]at h;cases h;exact n _ rfl
 rcases h with h|⟨c,h1,h2⟩
 ·exact .inl (by rw[aG (ne _ _ h λ_=>nofun)];exact h)
 ·exact .inr ⟨c,by rw[aG (ne _ _ h1 λ_=>nofun)];exact h1,by rw[aG (ne _ _ h2 λ_=>nofun)];exact h2⟩
def fQL(hp:H p=none)(s:SameP Pt H H'):SameP Pt H (upd H' p o):=λb u n e=>by rw[aG (λz=>by rw[z,hp]at e;cases e)];exact s b u n e
inductive Cov (mss:List (List (List Nat))) (T:List (List Nat)):Nat->Nat->Prop
 |nil:Cov mss T T.length 0
 |cons {i k n:Nat}:i<T.length->k∈cF mss T i->Cov mss T (i+aV mss k) n->Cov mss T i (n+1)
def xM(hL:oR mss)(ok:TabOk mss T TB):∀d i,i+d=T.length->(∀n,Cov mss T i n->∃m:Nat,m<=n/\TB.getD i none=some (m:Int))/\∀v,TB.getD i none=some v->∃n:Nat,v=(n:Int)/\Cov mss T i n:=λd=>by
 induction d using Nat.strongRecOn with
 |ind d ih=>
  intro i hi;by_cases h0:d=0
  ·obtain rfl:i=T.length:=by omega
   refine⟨λn _=>⟨0,Cy _,ok.last⟩,λv hv=>?_⟩;rw[ok.last]at hv;cases hv;exact⟨0,rfl,.nil⟩
  ·have hlt:i<T.length:=by omega
   have step:∀k∈cF mss T i,i+aV mss k<=T.length/\1<=aV mss k:=λk hk=>by
    obtain⟨h1,h2⟩:=bP hk;exact⟨gH h2 (by omega),(fX hL h1).1⟩
   have kn:∀k∈cF mss T i,∀m,TB.getD (i+aV mss k) none=some m->m∈knL mss T TB i:=λk hk m e=>Bv.mpr ⟨some m,Bb.mpr ⟨k,hk,e⟩,rfl⟩
   refine⟨λn hc=>?_,λv hv=>?_⟩
   ·cases hc with
    |nil=>exact absurd hlt (Ct _)
    | @cons _ k n _ hk hc=>
     obtain⟨s1,s2⟩:=step k hk;obtain⟨m,hm,e⟩:=(ih (T.length-(i+aV mss k)) (by omega) (i+aV mss k) (by omega)).1 n hc
     rcases ok.row i hlt with⟨z,_⟩|⟨m0,hm0,hmin,e0⟩
     ·have:=kn k hk _ e
      rw[z]at this;cases this
     ·have h1:=hmin _ (kn k hk _ e)
      have h2:=ok.small i _ e0
      refine⟨(1+m0).toNat,by omega,?_⟩
      rw[e0,Int.toNat_of_nonneg (by omega)]
   ·rcases ok.row i hlt with⟨_,z⟩|⟨m0,hm0,hmin,e0⟩
    ·rw[hv]at z;cases z
    ·rw[hv]at e0;cases e0;obtain⟨o,ho,e⟩:=Bv.mp hm0;have e2:o=some m0:=e
     obtain⟨k,hk,ek⟩:=Bb.mp ho;obtain⟨s1,s2⟩:=step k hk;obtain⟨n,en,hc⟩:=(ih (T.length-(i+aV mss k)) (by omega) (i+aV mss k) (by omega)).2 m0 (ek.trans e2)
     exact⟨n+1,by omega,.cons hlt hk hc⟩
def jD(Pt:Addr):Sp:=λvs H Q _=>∃(a:Addr) (bk:List (Str×Str)) (mss:List (List (List Nat))) (T:List (List Nat)) (n:Nat),vs=[.ref a,.str (bA T)]/\BkAt H a bk/\bk.length<=60/\cK bk mss/\1<=T.length/\T.length<=40/\(∀t∈T,eL t)/\Cov mss T 0 n/\dN Pt H/\
 ∀(r:Addr) (TB:List (Option Int)) (ks:List Nat) (H':Hp),H r=none->SameP Pt H H'->dN Pt H'->H' r=some (.lst (ks.map λk=>V.int ((k:Nat):Int)))->TabOk mss T TB->Path mss T TB 0 ks->Q (.ref r) H'
inductive PathTo (mss:List (List (List Nat))) (T:List (List Nat)) (TB:List (Option Int)):Nat->List Nat->Prop
 |nil:PathTo mss T TB 0 []
 |snoc {i k:Nat} {ks:List Nat}:i<T.length->Best mss T TB i k->PathTo mss T TB i ks->PathTo mss T TB (i+aV mss k) (ks++[k])
def PathTo.path(h:PathTo mss T TB i ks):∀ {rs:List Nat},Path mss T TB i rs->Path mss T TB 0 (ks++rs):=by
 induction h with
 |nil=>exact λh=>h
 |snoc h1 h2 _ ih=>
  intro rs hr;rw[Fd];exact ih (.cons h1 h2 hr)
def PathTo.len(hL:oR mss)(h:PathTo mss T TB i ks):ks.length<=i:=by
 induction h with
 |nil=>exact Aj _
 | @snoc i k ks h1 h2 _ ih=>
  have:=(fX hL (bP h2.st).1).1
  rw[Ah];show ks.length+1<=_
  omega
def sc_cut_text:FnScope ["book", "text", "terms", "meanings", "table", "numbers", "start", "number"] ["book", "text"] (aJ lU):=by walk_at "sc"
def aQ1(F:Fun K "cut_text" "cut_text" lU f fd)(G:Gs K mg w Zu Zz Zv Zx Z0 Zw Zy)(c_terms_of:Cal P w K mg base 3 "terms_of" ["text"] pI)(c_meanings_of:Cal P w K mg base 1 "meanings_of" ["book"] jS)(c_least_numbers:Cal P w K mg base 2 "least_numbers" ["meanings", "terms"] hX)(c_longest_on:Cal P w K mg base 2 "longest_on" ["meanings", "terms", "table", "start"] (gZ Pt)):FnOk P w K mg base CX0 4 f fd ["book", "text"] (jD Pt):=by
 refine F.ok sc_cut_text (λvs H Q E h=>?_) (λcdv A outer s H vs Q E hr h=>?_)
 ·obtain⟨a,bk,mss,T,n,rfl,_⟩:=h;rfl
 obtain⟨a,bk,mss,T,n,rfl,hbk,h60,hms,h1,h40,hT,hcov,hlam,q⟩:=h;refine⟨_,(@aE _ _ _ _ _ (aO 2 sc_cut_text.nd (aU c_terms_of hr (by decide) rfl (aA (mv 1) aB))) (@aE _ _ _ _ _ (aO 3 sc_cut_text.nd (aU c_meanings_of hr (by decide) rfl (aA (mv 0) aB))) (@aE _ _ _ _ _ (aO 4 sc_cut_text.nd (aU c_least_numbers hr (by decide) rfl (aA (mv 3) (aA (mv 2) aB)))) (@aE _ _ _ _ _ (cI (aZ cZA (bF bV (mv 4) aK (λ_ _=>rfl)) cZ (aW _)) (@aH _ _ _ nS) bK) (@aE _ _ _ _ _ (aO 5 sc_cut_text.nd (cG aB)) (@aE _ _ _ _ _ (aO 6 sc_cut_text.nd aK) (@aE _ _ _ _ _ (mW Bu (aZ xN (mv 6) (aP bS rfl G.b_len bH (aA (mv 2) aB)) (aW _)) (@aE _ _ _ _ _ (aO 7 sc_cut_text.nd (aU c_longest_on hr (by decide) rfl (aA (mv 3) (aA (mv 2) (aA (mv 4) (aA (mv 6) aB)))))) (@aE _ _ _ _ _ (dB (bN By Df Dg qW (mv 5) (aA (mv 7) aB))) (@aH _ _ _ (aO 6 sc_cut_text.nd (aS bW (mv 6) (aP bS rfl G.b_len bH (aA (bF bV (mv 3) (mv 7) (λ_ _=>rfl)) aB)))))))) (@aH _ _ _ (aY (mv 5)))))))))),?_⟩
 have hL:=qI hms h60
 walk_at "go";refine⟨T,rfl,h1,h40,hT,λrt H1 hrt s1 ht1=>?_⟩;walk_at "go";refine⟨a,bk,mss,rfl,hbk.keep s1,h60,hms,λrm H2 hrm s2 hm2=>?_⟩;walk_at "go";refine⟨rm,rt,mss,T,rfl,hm2,hL,s2 _ _ ht1,h40,λtb TB H3 htb s3 e3 ok=>?_⟩;obtain⟨m,hmn,em⟩:=(xM hL ok T.length 0 (by omega)).1 n hcov
 have s03:=s1.trans (s2.trans s3)
 have ht3:=s3 _ _ (s2 _ _ ht1)
 have hm3:=hm2.keep s3
 have l3:=hlam.keep s03
 clear hcov hmn hbk s2 hrm hm2 ht1 hrt htb;walk_at "go";refine cD (aM e3) (v:=.int (m:Int)) (by rw[show (0:Int)=((0:Nat):Int) from rfl,pM (by rw[ok.len];omega),em];rfl) ?_
 walk_at "go";refine⟨by decide,λpn hpn=>?_⟩
 have s4:=aF hpn (.lst [])
 have e4:(upd H3 pn (.lst [])) pn=some (.lst ((([]:List Nat)).map λk=>V.int ((k:Nat):Int))):=aD
 generalize upd H3 pn (.lst [])=H4 at s4 e4 ⊢;have htl:((T.map aQ).map V.str).length=T.length:=by rw[Ab,Ab]
 have hpnH:H pn=none:=none_of s03 hpn
 walk_at "go";refine⟨λm σ H'=>∃(i:Nat) (ks:List Nat) (v7:Option V),σ=[some (.ref a),some (.str (bA T)),some (.ref rt),some (.ref rm),some (.ref tb),some (.ref pn),some (.int (i:Int)),v7]/\m+i=T.length/\SameP Pt H3 H'/\dN Pt H'/\H' pn=some (.lst (ks.map λk=>V.int ((k:Nat):Int)))/\PathTo mss T TB i ks/\∃v,TB.getD i none=some v,
  ⟨T.length,0,[],_,rfl,rfl,Same.p s4,l3.keep s4,e4,.nil,_,em⟩,?_⟩
 rintro m0 σ H5 ⟨i,ks,v7,rfl,hi,sP,l5,e5,hp,v,ev⟩;have ht5:=atP sP l3 ht3 (λ_=>nofun)
 have hm5:=msP hm3 sP l3
 have e35:=atP sP l3 e3 λ_=>nofun
 have rt5:=aM ht5
 have hpl:=hp.len hL
 walk_at "go";rw[htl];refine gS (λhg=>?_) (λhg=>?_)
 ·have hlt:i<T.length:=by have:=Bg hg;omega
  refine⟨λσ' H'=>∃(i':Nat) (ks:List Nat) (v7:Option V),i<i'/\i'<=T.length/\σ'=[some (.ref a),some (.str (bA T)),some (.ref rt),some (.ref rm),some (.ref tb),some (.ref pn),some (.int (i':Int)),v7]/\SameP Pt H3 H'/\dN Pt H'/\H' pn=some (.lst (ks.map λk=>V.int ((k:Nat):Int)))/\PathTo mss T TB i' ks/\∃v,TB.getD i' none=some v,λσ' H' ⟨i',ks,v7,a1,a2,a3,a4⟩=>⟨T.length-i',by omega,i',ks,v7,a3,by omega,a4⟩,?_⟩
  walk_at "go";refine⟨rm,rt,tb,mss,T,TB,i,v,rfl,hm5,hL,ht5,h40,e35,ok,hlt,ev,l5,λk H6 hb sP6 l6=>?_⟩;have sP36:=sP.trans sP6
  have e6:=atP sP6 l5 e5 λ_=>nofun
  have hm6:=cC e6
  obtain⟨ps,p1,p2,p3⟩:=id hm3;obtain⟨hk,hS⟩:=bP hb.st;have hle:=gH hS (by omega)
  have hk1:=(fX hL hk).1
  have hkl:(ks.map λk=>V.int ((k:Nat):Int)).length<=40:=by rw[Ab];omega
  obtain⟨n',en,en2⟩:=hb.one;have hpj:ps[k]?=some (ps[k]'(by omega)):=Aa _
  obtain⟨ms,hmj⟩:∃ms,mss[k]?=some ms:=⟨_,Aa hk⟩;have hml:((ms.map aQ).map V.str).length=aV mss k:=by unfold aV;rw[dR hmj,Ab,Ab]
  walk_at "go";have s37:SameP Pt H3 (upd H6 pn (.lst ((ks.map λk=>V.int ((k:Nat):Int))++[V.int (k:Int)]))):=fQL hpn sP36
  have l7:dN Pt (upd H6 pn (.lst ((ks.map λk=>V.int ((k:Nat):Int))++[V.int (k:Int)]))):=aZY l6 e6
  have e7:(upd H6 pn (.lst ((ks.map λk=>V.int ((k:Nat):Int))++[V.int (k:Int)]))) pn=some (.lst ((ks++[k]).map λk=>V.int ((k:Nat):Int))):=by rw[aD,Ar];rfl
  generalize upd H6 pn (.lst ((ks.map λk=>V.int ((k:Nat):Int))++[V.int (k:Int)]))=H7 at s37 l7 e7 ⊢;have rps:=rdP s37 l3 (aM p1)
  have rmk:=rdP s37 l3 (aM (p3 k _ ms hpj hmj))
  refine cD rps (v:=.ref (ps[k]'(by omega))) (bC (by rw[Af,hpj];rfl)) ?_
  walk_at "go";rw[hml];exact⟨i+aV mss k,ks++[k],_,by omega,hle,rfl,s37,l7,e7,.snoc hlt hb hp,_,en2⟩
 ·walk_at "go";obtain rfl:i=T.length:=by rw[Bw]at hg;omega
  exact q pn TB ks H5 hpnH ((Same.p s03).trans sP) l5 e5 ok (by have:=hp.path .nil;rw[Bs]at this;exact this)
def sG:Sp:=λvs H Q _=>∃c,vs=[.str (one c)]/\aX c/\Q (.int ((c-97:Nat):Int)) H
def kX:Sp:=λvs H Q _=>∃(cs:List Nat),(vs=[.str (aQ cs)]\/∃a,vs=[.ref a]/\rdL H a=some ((cs.map one).map V.str))/\cs.length<=1000/\(∀d∈cs,aX d)/\∀H',Same H H'->Q (.bl (gY cs)) H'
def aZB:FnScope ["letter"] ["letter"] (aJ pC):=by walk_at "sc"
def aX3(F:Fun K "rank_of" "rank_of" pC f fd)(G:Gs K mg w Zu Zz Zv Zx Z0 Zw Zy):FnOk P w K mg base CX0 1 f fd ["letter"] sG:=by
 refine F.ok aZB (λvs H Q E h=>?_) (λcdv A outer s H vs Q E hr h=>?_)
 ·obtain⟨c,rfl,_⟩:=h;rfl
 obtain⟨c,rfl,hc,q⟩:=h;refine⟨_,(@aH _ _ _ (aY (bN Bl PySem.F.slot_str_index PySem.F.type_str_index cZ9 (eO rfl G.s_LETTERS) (aA (mv 0) aB)))),?_⟩;walk_at "go";exact cZX (cJ0 hc) q
def wgt(cs:List Nat)(i:Nat):Int:=((1+i:Nat):Int)*((cs.getD i 0-97:Nat):Int)
def eQP(hl:cs.length<=1000)(hL:∀d∈cs,aX d):∀n∈(List.range cs.length).map (wgt cs),0<=n/\n<=1000000:=λn hn=>by
 obtain⟨i,hi,rfl⟩:=Bb.mp hn;have hi':=Cb.mp hi
 have hg:=nT hL hi'
 unfold aX at hg;unfold wgt;have h2:((1+i:Nat):Int)*((cs.getD i 0-97:Nat):Int)<=((1+i:Nat):Int)*22:=Int.mul_le_mul_of_nonneg_left (by omega) (by omega)
 exact⟨Int.mul_nonneg (by omega) (by omega),by omega⟩
def sc_is_divided:FnScope ["letters", "weighed"] ["letters"] (aJ iU):=by walk_at "sc"
def uJ(F:Fun K "is_divided" "is_divided" iU f fd)(G:Gs K mg w Zu Zz Zv Zx Z0 Zw Zy)(c_rank_of:Cal P w K mg base 1 "rank_of" ["letter"] sG):FnOk P w K mg base CX0 2 f fd ["letters"] kX:=by
 refine F.ok sc_is_divided (λvs H Q E h=>?_) (λcdv A outer s H vs Q E hr h=>?_)
 ·obtain⟨cs,rfl|⟨a,rfl,_⟩,_⟩:=h<;>rfl
 obtain⟨cs,hv,hl,hL,q⟩:=h;have fin:∀D Hd,Same H Hd->rdL Hd D=some (((List.range cs.length).map (wgt cs)).map V.int)->∀(Q':VK),(Q' (.int (qC cs cs.length)) Hd)->dJH [.ref D] Hd Q':=λD Hd sD hD Q' q'=>
  eXT hD (eQP hl hL) (by rw[Ab,Bq];omega) q'
 have fm:∀(G:Nat->Option V),(∀i,i<cs.length->G i=some (V.int (wgt cs i)))->(List.range cs.length).filterMap G=((List.range cs.length).map (wgt cs)).map V.int:=λG hG=>by
  rw[Cm,<-kP];exact iA λi hi=>hG i (Cb.mp hi)
 rcases hv with rfl|⟨a,rfl,ha⟩
 ·refine⟨_,(@aE _ _ _ _ _ (eM (i:=1) sc_is_divided.nd rfl (Or.inl rfl) rfl (aQR rfl G.b_enumerate (aA (mv 0) aB) (qN aK xU)) (lJ (N:=["place", "letter"]) (by decide +kernel) (by decide +kernel)) (by decide +kernel) rfl (by decide +kernel) (λ_ _ _ _=>(fA (K:=K) (i:=0) (j:=1) (by rfl) (by rfl) (show List.Nodup (["place", "letter"]:List Str) by decide +kernel) (by rfl) (by exact Or.inl rfl) (by exact Or.inr rfl) (by rfl) (by exact Or.inl rfl) (by exact Or.inr rfl))) (λ_ _ _ _=>cQ) (λ_ _ _ _=>(aS uZ (mv 0) (aU c_rank_of hr (by decide) rfl (aA (mv 1) aB))))) (@aH _ _ _ (aY (eG oJ (aS gM (aP (dXE rfl) rfl G.b_sum cQ7 (aA (mv 1) aB)) (aP bS rfl G.b_len bH (aA (eO rfl G.s_LETTERS) aB))) aK (aW _))))),?_⟩
  walk_at "go";refine⟨⟨by omega,by omega⟩,bZ0 hL,?_⟩
  refine bJL (k:=1) (λi c=>some (V.int (((1+i:Nat):Int)*((c-97:Nat):Int)))) (by rw[dG];exact bD (by omega)) (λi c Hc p A B hc sm hp hA=>?_) (λD Hd hD sD hd=>?_)
  ·have hi:=(Ae.mp hc).1
   rw[cR]at hi;walk_at "go";refine⟨Wk.set rfl (Wk.set rfl (Wk.refl _)),?_⟩;walk_at "go";refine⟨c,rfl,hL c (by rw[cR]at hc;exact Am hc),?_⟩
   walk_at "go";exact hA _ (Same.refl _)
  ·rw[dG,cR]at hd;rw[fm (λi=>some (V.int (((1+i:Nat):Int)*((cs.getD i 0-97:Nat):Int)))) (λi _=>rfl)]at hd;walk_at "go";refine fin D Hd sD hd _ ?_;walk_at "go";have r:=q Hd sD
   exact r
 ·refine⟨_,(@aE _ _ _ _ _ (eM (i:=1) sc_is_divided.nd rfl (Or.inl rfl) rfl (aQR rfl G.b_enumerate (aA (mv 0) aB) (qN aK xU)) (lJ (N:=["place", "letter"]) (by decide +kernel) (by decide +kernel)) (by decide +kernel) rfl (by decide +kernel) (λ_ _ _ _=>(fA (K:=K) (i:=0) (j:=1) (by rfl) (by rfl) (show List.Nodup (["place", "letter"]:List Str) by decide +kernel) (by rfl) (by exact Or.inl rfl) (by exact Or.inr rfl) (by rfl) (by exact Or.inl rfl) (by exact Or.inr rfl))) (λ_ _ _ _=>cQ) (λ_ _ _ _=>(aS uZ (mv 0) (aU c_rank_of hr (by decide) rfl (aA (mv 1) aB))))) (@aH _ _ _ (aY (eG oJ (aS gM (aP (dXE rfl) rfl G.b_sum cQ7 (aA (mv 1) aB)) (aP bS rfl G.b_len bH (aA (eO rfl G.s_LETTERS) aB))) aK (aW _))))),?_⟩
  walk_at "go";refine⟨⟨by omega,by omega⟩,?_⟩
  walk_at "go";refine yE (k:=1) (xs:=(cs.map one).map V.str) (λi x=>match x with|.str z=>some (V.int (((1+i:Nat):Int)*((lO z-97:Nat):Int)))|_=>none) ha (by rw[Ab,Ab];exact bD (by omega)) (λi x Hc p A B hx sm hp hA=>?_) (λD Hd hD sD hd=>?_)
  ·obtain⟨z,hz,rfl⟩:=eU hx;rw[Af]at hz;cases e:cs[i]? with
   |none=>rw[e]at hz;cases hz
   |some c=>
    have hi:=(Ae.mp e).1
    rw[e]at hz;cases hz;walk_at "go";refine⟨Wk.set rfl (Wk.set rfl (Wk.refl _)),?_⟩;walk_at "go";refine⟨c,rfl,hL c (Am e),?_⟩;walk_at "go";exact hA _ (Same.refl _)
  ·rw[Ab,Ab,fm _ (λi hi=>?_)]at hd
   ·walk_at "go";refine fin D Hd sD hd _ ?_;walk_at "go";have r:=q Hd sD
    exact r
   ·have e:((cs.map one).map V.str).getD i .non=.str (one (cs.getD i 0)):=by
     rw[Ac,Af,Af,Ac,Aa hi];rfl
    rw[e];rfl
def kT(cs:List Nat)(k:Nat):List V:=((cs.map one).map V.str).set k .non
def cQ5(hk:k<cs.length):(kT cs k).take k=((cs.take k).map one).map V.str:=by
 unfold kT;rw[List.take_set_of_le (Aj _),<-Dy,<-Dy]
def cQR:(kT cs k).drop (k+1)=((cs.drop (k+1)).map one).map V.str:=by
 unfold kT;rw[List.drop_set_of_lt (by omega),<-Eg,<-Eg]
def cXQ:(kT cs k).all cN=true:=by
 rw[Ce];intro x hx;rcases List.mem_or_eq_of_mem_set hx with h|h
 ·obtain⟨z,_,rfl⟩:=Bb.mp h;rfl
 ·rw[h];rfl
def dZF(hk:k<cs.length):(kT cs k)[k]?=some .non:=by
 unfold kT;rw[He (by rw[Ab,Ab];exact hk)]
def dJO:∀i y,i<k->(kT cs k)[i]?=some y->y≠.non:=λi y hi hy=>by
 unfold kT at hy;rw[Gc (by omega),Af]at hy
 cases e:(cs.map one)[i]? with
 |none=>rw[e]at hy;cases hy
 |some z=>rw[e]at hy;cases hy;exact V.noConfusion
def bZU(hk:k<cs.length):((cs.take k).map one).map V.str++[V.str (one d)]++((cs.drop (k+1)).map one).map V.str=((cs.set k d).map one).map V.str:=by
 rw[List.set_eq_take_append_cons_drop,if_pos hk,Ar,Ar,Aq,Aq,Fd];rfl
def set_set{e:Nat}:(cs.set k d).set k e=cs.set k e:=List.set_set ..
def zH{cs:List Nat}(h7:cs.length<=7)(hL:∀d∈cs,aX d){k d c:Nat}(hk:k<cs.length)(hd:aX d)(h:gY (cs.set k d)=true)(hc:aX c):gY (cs.set k c)=decide (c=d):=by
 have q:=cJ3 (cs:=cs.set k d) (by rw[Dq];exact h7) (aZ3 hL hd) (k:=k) (d:=c) (by rw[Dq];exact hk) hc h
 rw[set_set,sO hk,if_pos rfl]at q;exact q
def cJS(g:Nat->β){F:Nat->Bool}(hd:aX d)(h:∀c,aX c->F c=decide (c=d)):lettersT.cps.toList.filterMap (λc=>if F c=true then some (g c) else none)=[g d]:=by
 have q:∀k:_root_.Fin 23,lettersT.cps.toList.filterMap (λc=>if c=97+k.val then some c else none)=[97+k.val]:=by decide +kernel
 unfold aX at hd;have e:=q ⟨d-97,by omega⟩
 simp only[show 97+(d-97)=d by omega]at e
 have e2:lettersT.cps.toList.filterMap (λc=>if F c=true then some (g c) else none)=(lettersT.cps.toList.filterMap (λc=>if c=d then some c else none)).map g:=by
  rw[List.map_filterMap];refine iA λc hc=>?_;rw[h c (mem_letters.mp hc)];by_cases z:c=d
  ·rw[if_pos (An z),if_pos z];rfl
  ·rw[if_neg (by rw[Aw z];exact Ao),if_neg z];rfl
 rw[e2,e];rfl
def iB:Sp:=λvs H Q _=>∃(a:Addr) (cs:List Nat) (k:Nat),vs=[.ref a]/\rdL H a=some (kT cs k)/\k<cs.length/\cs.length<=7/\(∀d∈cs,aX d)/\
 ∀(d:Nat) (H':Hp),Same H H'->aX d->gY (cs.set k d)=true->Q (.str (one d)) H'
def sc_hidden_letter:FnScope ["letters", "at", "ahead", "behind"] ["letters"] (aJ dU):=by walk_at "sc"
def pA(F:Fun K "hidden_letter" "hidden_letter" dU f fd)(G:Gs K mg w Zu Zz Zv Zx Z0 Zw Zy)(c_is_divided:Cal P w K mg base 2 "is_divided" ["letters"] kX):FnOk P w K mg base CX0 3 f fd ["letters"] iB:=by
 refine F.ok sc_hidden_letter (λvs H Q E h=>?_) (λcdv A outer s H vs Q E hr h=>?_)
 ·obtain⟨a,cs,k,rfl,_⟩:=h;rfl
 obtain⟨a,cs,k,rfl,ha,hk,h7,hL,q⟩:=h;refine⟨_,(@aE _ _ _ _ _ (aO 1 sc_hidden_letter.nd (bN By Fl PySem.F.type_list_index bZL (mv 0) (aA cZ aB))) (@aE _ _ _ _ _ (aO 2 sc_hidden_letter.nd (gG aXN (mv 0) xP (eJ (mv 1)))) (@aE _ _ _ _ _ (aO 3 sc_hidden_letter.nd (gG aXN (mv 0) (eJ (aS bW (mv 1) aK)) xP)) (@aH _ _ _ (aY (bF bV (cL rfl (sF (eO rfl G.s_LETTERS)) (eF (N:=["letter", "behind", "ahead"]) ["letters", "at", "ahead", "behind"] (aJ dU) [none,some 3,some 2] rfl rfl rfl (λx h=>bO h) (by decide +kernel)) (by decide +kernel) rfl (by decide +kernel) (λ_ _ _ _=>(bE (i:=0) (show List.Nodup (["letter", "behind", "ahead"]:List Str) by decide +kernel) rfl (Or.inl rfl))) (λ_ _ _ _=>(iO (kA (aU c_is_divided hr (by decide) rfl (aA (aS bW (aS bW (mv 2) (cG (aA (mv 0) aB))) (mv 1)) aB))))) (λ_ _ _ _=>(mv 0))) aK (λ_ _=>rfl))))))),?_⟩
 walk_at "go";refine cQ8 ha cXQ (dZF hk) dJO ?_;walk_at "go";intro r hr;rw[yH (by omega),show ((k:Nat):Int).toNat=k from rfl,cQ5 hk]
 have s1:Same H (upd H r (.lst (((cs.take k).map one).map V.str))):=aF hr _
 have m1:iC (upd H r (.lst (((cs.take k).map one).map V.str))) r=some (((cs.take k).map one).map V.str):=cX
 have e1:(upd H r (.lst (((cs.take k).map one).map V.str))) r=some (.lst (((cs.take k).map one).map V.str)):=aD
 generalize upd H r (.lst (((cs.take k).map one).map V.str))=H1 at s1 m1 e1 ⊢;have ha1:=aI s1 ha
 walk_at "go";intro r2 hr2;rw[bXM (by omega),show ((k:Nat)+1:Int).toNat=k+1 by omega,cQR]
 have s2:Same H1 (upd H1 r2 (.lst (((cs.drop (k+1)).map one).map V.str))):=aF hr2 _
 have e2:(upd H1 r2 (.lst (((cs.drop (k+1)).map one).map V.str))) r2=some (.lst (((cs.drop (k+1)).map one).map V.str)):=aD
 generalize upd H1 r2 (.lst (((cs.drop (k+1)).map one).map V.str))=H2 at s2 e2 ⊢;have e1':=s2 _ _ e1
 walk_at "go";obtain⟨d,hd,hdv⟩:=aQM h7 hk;have lt:(((cs.take k).map one).map V.str).length<=7:=by rw[Ab,Ab,Bp];omega
 have ld:(((cs.drop (k+1)).map one).map V.str).length<=7:=by rw[Ab,Ab,Cw];omega
 refine aJC (λc=>if gY (cs.set k c)=true then some (V.str (one c)) else none) (bD (by decide)) (λi c Hc A B hc sm hA=>?_) (λD Hd hD sD hd'=>?_)
 ·have hcl:aX c:=mem_letters.mp (Am hc)
  walk_at "go";refine⟨Wk.set rfl (Wk.refl _),?_⟩;walk_at "go";refine⟨by show 1<=sizeLine;decide,λp1 hp1=>?_⟩
  have c1:=sm _ _ e1'
  have c2:=sm _ _ e2
  have n1:r≠p1:=bG c1 hp1
  have n2:r2≠p1:=bG c2 hp1
  walk_at "go";refine jN (xs:=((cs.take k).map one).map V.str) (ys:=[V.str (one c)]) (by rw[nQ n1];exact cC c1) cX (bJ (by show _+1<=_;omega)) λl hl=>?_
  have c3:(upd (upd Hc p1 (.lst [V.str (one c)])) l (.lst (((cs.take k).map one).map V.str++[V.str (one c)]))) r2=some (.lst (((cs.drop (k+1)).map one).map V.str)):=aF hl _ _ _ (aF hp1 _ _ _ c2)
  walk_at "go";refine jN (xs:=((cs.take k).map one).map V.str++[V.str (one c)]) (ys:=((cs.drop (k+1)).map one).map V.str) cX (cC c3) (bJ (by rw[Ah];show _+1+_<=_;omega)) λl2 hl2=>?_
  rw[bZU hk];have s5:Same Hc (upd (upd (upd Hc p1 (.lst [V.str (one c)])) l (.lst (((cs.take k).map one).map V.str++[V.str (one c)]))) l2 (.lst (((cs.set k c).map one).map V.str))):=(aF hp1 _).trans ((aF hl _).trans (aF hl2 _))
  have c5:rdL (upd (upd (upd Hc p1 (.lst [V.str (one c)])) l (.lst (((cs.take k).map one).map V.str++[V.str (one c)]))) l2 (.lst (((cs.set k c).map one).map V.str))) l2=some (((cs.set k c).map one).map V.str):=bU
  generalize upd (upd (upd Hc p1 (.lst [V.str (one c)])) l (.lst (((cs.take k).map one).map V.str++[V.str (one c)]))) l2 (.lst (((cs.set k c).map one).map V.str))=H5 at s5 c5 ⊢;walk_at "go";refine⟨cs.set k c,.inr ⟨l2,rfl,c5⟩,by rw[Dq];omega,aZ3 hL hcl,λH6 s6=>?_⟩
  have r6:=hA H6 (s5.trans s6)
  walk_at "go";by_cases hb:gY (cs.set k c)=true
  ·rw[if_pos hb]at r6;rw[if_pos hb];walk_at "go";exact r6
  ·rw[if_neg hb]at r6;rw[if_neg hb];exact r6
 ·rw[show (Str.ofString "abcdefghijklmnopqrstuvw").cps.toList.filterMap (λc=>if gY (cs.set k c)=true then some (V.str (one c)) else none)=[V.str (one d)] from cJS (λc=>V.str (one c)) hd λc hc=>zH h7 hL hk hd hdv hc]at hd'
  walk_at "go";refine cD (aM hd') (v:=V.str (one d)) rfl ?_;exact q d Hd (s1.trans (s2.trans sD)) hd hdv
def nO{x:Nat}:(cs++[x]).set cs.length d=cs++[d]:=by
 rw[List.set_append_right _ _ (Aj _),Gj];rfl
def cQ4:(cs.map one).map V.str++[V.non]=kT (cs++[97]) cs.length:=by
 unfold kT;rw[Ar,Ar,List.set_append_right _ _ (by rw[Ab,Ab];exact Aj _),Ab,Ab,Gj]
 rfl
def aQN(hL:∀d∈cs,aX d){c:Nat}(hc:aX c):∀d∈cs++[c],aX d:=λd hd=>by
 rcases Bo.mp hd with h|h
 ·exact hL d h
 ·rw[Ap.mp h];exact hc
def pU:Sp:=λvs H Q _=>∃(cs:List Nat),vs=[.str (aQ cs)]/\1<=cs.length/\cs.length<=6/\(∀d∈cs,aX d)/\∀(d:Nat) (H':Hp),Same H H'->aX d->gY (cs++[d])=true->Q (.str (one d)) H'
def aQG:FnScope ["word"] ["word"] (aJ mH):=by walk_at "sc"
def zB(F:Fun K "check_of" "check_of" mH f fd)(G:Gs K mg w Zu Zz Zv Zx Z0 Zw Zy)(c_hidden_letter:Cal P w K mg base 3 "hidden_letter" ["letters"] iB):FnOk P w K mg base CX0 4 f fd ["word"] pU:=by
 refine F.ok aQG (λvs H Q E h=>?_) (λcdv A outer s H vs Q E hr h=>?_)
 ·obtain⟨cs,rfl,_⟩:=h;rfl
 obtain⟨cs,rfl,h1,h6,hL,q⟩:=h;refine⟨_,(@aH _ _ _ (aY (aU c_hidden_letter hr (by decide) rfl (aA (aS bW (cB (dQ8 rfl) rfl G.b_list eY (aA (mv 0) aB)) (cG (aA cZ aB))) aB)))),?_⟩
 have hwl:(aQ cs).length=cs.length:=dG cs
 walk_at "go";intro r hr;have el:(aQ cs).cps.toList.map (λc=>V.str ⟨#[c]⟩)=(cs.map one).map V.str:=by rw[cR,Cm];rfl
 rw[el];walk_at "go";refine⟨by show 1<=sizeLine;decide,λp hp=>?_⟩
 have nr:r≠p:=λz=>by rw[<-z,aD]at hp;cases hp
 refine jN (xs:=(cs.map one).map V.str) (ys:=[V.non]) (by rw[nQ nr];exact cX) cX (bJ (by rw[Ab,Ab];show _+1<=_;omega)) λl hl=>?_
 rw[cQ4];have s1:Same H (upd (upd (upd H r (.lst ((cs.map one).map V.str))) p (.lst [V.non])) l (.lst (kT (cs++[97]) cs.length))):=(aF hr _).trans ((aF hp _).trans (aF hl _))
 have e1:rdL (upd (upd (upd H r (.lst ((cs.map one).map V.str))) p (.lst [V.non])) l (.lst (kT (cs++[97]) cs.length))) l=some (kT (cs++[97]) cs.length):=bU
 generalize upd (upd (upd H r (.lst ((cs.map one).map V.str))) p (.lst [V.non])) l (.lst (kT (cs++[97]) cs.length))=H1 at s1 e1 ⊢;walk_at "go";have ll:(cs++[97]).length=cs.length+1:=by rw[Ah];rfl
 refine⟨l,cs++[97],cs.length,rfl,e1,by omega,by omega,aQN hL (by decide),λd H2 s2 hd hdv=>?_⟩
 rw[nO]at hdv;exact q d H2 (s1.trans s2) hd hdv
def bQT(h6:cs.length<=6)(hL:∀d∈cs,aX d){c:Nat}(hd:aX d)(h:gY (cs++[d])=true)(hc:aX c):gY (cs++[c])=decide (c=d):=by
 have ll:(cs++[97]).length=cs.length+1:=by rw[Ah];rfl
 have q:=zH (cs:=cs++[97]) (by omega) (aQN hL (by decide)) (k:=cs.length) (d:=d) (c:=c) (by omega) hd (by rw[nO];exact h) hc
 rw[nO]at q;exact q
def ckL(cs:List Nat):Nat:=(lettersT.cps.toList.find? λd=>gY (cs++[d])).getD 0
def dXZ(h6:cs.length<=6)(hL:∀d∈cs,aX d)(hd:aX d)(h:gY (cs++[d])=true):ckL cs=d:=by
 unfold ckL;cases e:lettersT.cps.toList.find? λd=>gY (cs++[d]) with
 |none=>exact absurd h (by have:=List.find?_eq_none.mp e d (mem_letters.mpr hd);exact this)
 |some c=>
  have hc:=List.find?_some e
  have hm:=mem_letters.mp (List.mem_of_find?_eq_some e)
  have r:=bQT h6 hL hd h hm
  have hc2:gY (cs++[c])=true:=hc
  rw[hc2]at r;exact Bg r.symm
def gX:Sp:=λvs H Q _=>∃(cs:List Nat),vs=[.str (aQ cs)]/\1<=cs.length/\cs.length<=6/\(∀d∈cs,aX d)/\∀H',Same H H'->aX (ckL cs)->gY (cs++[ckL cs])=true->Q (.str (aQ (cs++[ckL cs]))) H'
def uH:FnScope ["word"] ["word"] (aJ iP):=by walk_at "sc"
def tX(F:Fun K "with_check" "with_check" iP f fd)(G:Gs K mg w Zu Zz Zv Zx Z0 Zw Zy)(c_check_of:Cal P w K mg base 4 "check_of" ["word"] pU):FnOk P w K mg base CX0 5 f fd ["word"] gX:=by
 refine F.ok uH (λvs H Q E h=>?_) (λcdv A outer s H vs Q E hr h=>?_)
 ·obtain⟨cs,rfl,_⟩:=h;rfl
 obtain⟨cs,rfl,h1,h6,hL,q⟩:=h;refine⟨_,(@aH _ _ _ (aY (aS bW (mv 0) (aU c_check_of hr (by decide) rfl (aA (mv 0) aB))))),?_⟩
 have hwl:(aQ cs).length=cs.length:=dG cs
 walk_at "go";refine⟨cs,rfl,h1,h6,hL,λd H1 s1 hd hdv=>?_⟩;have e:=dXZ h6 hL hd hdv
 have h1l:(one d).length=1:=rfl
 walk_at "go";have r:=q H1 s1
 rw[e]at r;rw[kM];exact r hd hdv
def cO(mss:List (List (List Nat)))(js:List Nat):List (List Nat):=(js.map λj=>mss.getD j []).flatten
def bZB(mss:List (Q6))(a b:List Nat):cO mss (a++b)=cO mss a++cO mss b:=by
 unfold cO;rw[Ar,List.flatten_append]
def dC(mss:List (Q6))(j:Nat)(b:List Nat):cO mss (j::b)=mss.getD j []++cO mss b:=by
 unfold cO;rw[Aq,Ci]
def uV(sep:Str):∀(a b:List Str),a≠[]->b≠[]->Str.join sep (a++b)=Str.join sep a++sep++Str.join sep b
 |[],_,h,_=>absurd rfl h
 |[x],y::r,_,_=>rfl
 |[x],[],_,h=>absurd rfl h
 |x::z::a,b,_,h=>by
  have ih:=uV sep (z::a) b (by simp) h
  show x++sep++Str.join sep ((z::a)++b)=(x++sep++Str.join sep (z::a))++sep++Str.join sep b
  rw[ih];simp only[Str.append_assoc]
def bQA{a b:Q6}(ha:a≠[])(hb:b≠[]):bA (a++b)=bA a++Str.ofString " " ++ bA b:=by
 have e:∀ts:List (List Nat),bA ts=Str.join (Str.ofString " ") (ts.map aQ):=λts=>Ga _ _
 rw[e,e,e,Ar];exact uV _ _ _ (by simpa using ha) (by simpa using hb)
def cQP(l:List Str):Txt.join " " l=Str.join (Str.ofString " ") l:=Ga _ _
def oQ:∀ {js:List Nat},js≠[]->(∀j∈js,mss.getD j []≠[])->Txt.join " " (js.map λj=>bA (mss.getD j []))=bA (cO mss js)
 |[],h,_=>absurd rfl h
 |[j],_,_=>by
  rw[cQP];show bA (mss.getD j [])=_
  rw[dC];unfold cO;simp
 |j::k::r,_,h=>by
  have ih:=oQ (js:=k::r) (by simp) λj hj=>h j (List.mem_cons_of_mem _ hj)
  have hne:cO mss (k::r)≠[]:=by
   rw[dC];exact λz=>h k (by simp) (List.append_eq_nil_iff.mp z).1
  rw[dC,bQA (h j (by simp)) hne,<-ih,cQP,cQP]
  rfl
def nG{T:Q6}(hL:oR mss):∀ {js:List Nat} {i:Nat},i<=T.length->(∀j∈js,j<mss.length)->T.drop i=cO mss js->Cov mss T i js.length
 |[],i,hi,_,h=>by
  have:i=T.length:=by
   have:=Dk List.length h
   rw[Cw]at this;have e:(cO mss []).length=0:=rfl
   omega
  subst this;exact .nil
 |j::r,i,hi,hj,h=>by
  rw[dC]at h;have hjl:=hj j Ak
  have hm:=(fX hL hjl).1
  have hlen:=Dk List.length h
  rw[Cw,Ah]at hlen;have hml:(mss.getD j []).length=aV mss j:=rfl
  have hst:j∈cF mss T i:=by
   refine Cr.mpr ⟨Cb.mpr hjl,An ?_⟩;show (T.drop i).take (aV mss j)=_
   rw[h,<-hml,List.take_left'];rfl
  refine .cons (by omega) hst (nG hL (by omega) (λk hk=>hj k (Ai _ hk)) ?_)
  rw[<-List.drop_drop,h,<-hml,List.drop_left'];rfl
def eZ5{n:Nat}(h:Cov mss T i n):∃js:List Nat,(∀j∈js,j<mss.length)/\T.drop i=cO mss js/\js.length=n:=by
 induction h with
 |nil=>exact⟨[],(λj hj=>nomatch hj),List.drop_length,rfl⟩
 | @cons i k n hi hk _ ih=>
  obtain⟨js,h1,h2,h3⟩:=ih;obtain⟨hkl,hS⟩:=bP hk;refine⟨k::js,λj hj=>?_,?_,by rw[Au,h3]⟩
  ·rcases Be.mp hj with rfl|z
   ·exact hkl
   ·exact h1 j z
  ·rw[dC,<-h2,<-List.drop_drop,<-show (T.drop i).take (aV mss k)=mss.getD k [] from hS];exact(Fw _ _).symm
def bJQ(hk:k∈cF mss T i):T.drop i=mss.getD k []++T.drop (i+aV mss k):=by
 obtain⟨hkl,hS⟩:=bP hk;rw[<-List.drop_drop,<-show (T.drop i).take (aV mss k)=mss.getD k [] from hS];exact(Fw _ _).symm
def kL(h:Path mss T TB i ks):T.drop i=cO mss ks/\∀k∈ks,k<mss.length:=by
 induction h with
 |nil=>exact⟨List.drop_length,λk hk=>nomatch hk⟩
 | @cons i k ks hi hb _ ih=>
  refine⟨by rw[dC,<-ih.1];exact bJQ hb.st,λj hj=>?_⟩
  rcases Be.mp hj with rfl|z
  ·exact(bP hb.st).1
  ·exact ih.2 j z
def aQE(ok:TabOk mss T TB)(h:Path mss T TB i ks):TB.getD i none=some (ks.length:Int):=by
 induction h with
 |nil=>exact ok.last
 | @cons i k ks hi hb _ ih=>
  obtain⟨n,e1,e2⟩:=hb.one;rw[ih]at e2;injection e2 with e2
  rw[e1,Au];congr 1
  omega
def pR(hL:oR mss)(ok:TabOk mss T TB)(h:Path mss T TB 0 ks)(hj:∀j∈js,j<mss.length)(e:cO mss js=T):ks.length<=js.length:=by
 obtain⟨m,hm,em⟩:=(xM hL ok T.length 0 (by omega)).1 _ (nG hL (Cy _) hj (by rw[Ho];exact e.symm))
 rw[aQE ok h]at em;injection em with em
 omega
def bQ1(nd:mss.Nodup)(h:Best mss T TB i k)(g:Best mss T TB i j):k=j:=by
 obtain⟨n,e1,e2⟩:=h.one;obtain⟨m,f1,f2⟩:=g.one;rw[e1]at f1;cases f1;have h1:=h.most j g.st (by rw[e2,f2])
 have h2:=g.most k h.st (by rw[e2,f2])
 obtain⟨hk,hS⟩:=bP h.st;obtain⟨hj,hS2⟩:=bP g.st;have el:aV mss k=aV mss j:=by omega
 have e:mss.getD k []=mss.getD j []:=by
  rw[<-show (T.drop i).take (aV mss k)=mss.getD k [] from hS,<-show (T.drop i).take (aV mss j)=mss.getD j [] from hS2,el]
 rw[Ac,Aa hk,Ac,Aa hj]at e;have e':mss[k]=mss[j]:=e
 rcases Nat.lt_trichotomy k j with z|z|z
 ·exact absurd e' (Ez.mp nd k j hk hj z)
 ·exact z
 ·exact absurd e'.symm (Ez.mp nd j k hj hk z)
def aJ9(nd:mss.Nodup)(h:Path mss T TB i ks)(g:Path mss T TB i js):ks=js:=by
 induction h generalizing js with
 |nil=>
  cases g with
  |nil=>rfl
  |cons hi _ _=>exact absurd hi (Ct _)
 | @cons i k ks hi hb _ ih=>
  cases g with
  |nil=>exact absurd hi (Ct _)
  |cons _ hb2 g2=>
   obtain rfl:=bQ1 nd hb hb2;rw[ih g2]
def cJK(hL:oR mss)(h:∀k,i<k->TB.getD k none=TC.getD k none)(r1:jZ mss T TB i)(r2:jZ mss T TC i):TB.getD i none=TC.getD i none:=by
 unfold jZ knL at r1 r2;rw[kH hL h]at r1;rcases r1 with⟨a1,a2⟩|⟨m,a1,a2,a3⟩ <;> rcases r2 with⟨b1,b2⟩|⟨m',b1,b2,b3⟩
 ·rw[a2,b2]
 ·rw[a1]at b1;cases b1
 ·rw[b1]at a1;cases a1
 ·have:=a2 m' b1
  have:=b2 m a1
  rw[a3,b3,show m=m' by omega]
def zT(hL:oR mss)(h1:TabOk mss T TB)(h2:TabOk mss T TC):TB=TC:=by
 have hi:∀n i,T.length<=i+n->TB.getD i none=TC.getD i none:=λn=>by
  induction n with
  |zero=>
   intro i hi;by_cases e:i=T.length
   ·rw[e,h1.last,h2.last]
   ·rw[Ac,Ac,Ew (by rw[h1.len];omega),Ew (by rw[h2.len];omega)]
  |succ n ih=>
   intro i hi;by_cases e:T.length<=i+n
   ·exact ih i e
   ·exact cJK hL (λk hk=>ih k (by omega)) (h1.row i (by omega)) (h2.row i (by omega))
 refine Gk (by rw[h1.len,h2.len]) λj j1 j2=>?_
 have:=hi T.length j (by omega)
 rw[Ac,Ac,Aa j1,Aa j2]at this;exact this
def bZM(hg:(bk.map (·.2)).Nodup)(h:cK bk mss):mss.Nodup:=by
 refine Ez.mpr λi j hi hj hij e=>?_;have hbi:i<bk.length:=by rw[<-h.1];exact hi
 have hbj:j<bk.length:=by rw[<-h.1];exact hj
 have h1:=(h.2 i _ _ (Aa hbi) (Aa hi)).1
 have h2:=(h.2 j _ _ (Aa hbj) (Aa hj)).1
 have:=Ez.mp hg i j (by rw[Ab];exact hbi) (by rw[Ab];exact hbj) hij
 rw[Er,Er]at this;exact this (by rw[h1,h2,e])
def yT(bk:List (Str×Str))(cws:List (List Nat)):Prop:=cws.length=bk.length/\∀(j:Nat) b cw,bk[j]?=some b->cws[j]?=some cw->b.1=aQ cw/\1<=cw.length/\cw.length<=6/\∀d∈cw,aX d
def kE(m:Nat->Int)(c:Nat):0<=aR (bM m) c:=by
 unfold aR bM;split
 ·rename_i h
  exact Int.le_of_lt (by simp only[Option.getD_some];exact h.2)
 ·exact Hw _
structure TwSt (H:Hp) (B R:Addr) (hs:List (Option (List Nat))) (f:Nat->Option Int):Prop where
 hal:∃us,H B=some (.lst us)/\HalsAt H us hs
 ok:sI hs
 loc:∃kvs,H R=some (.dK kvs)/\Lk kvs f
 pos:∀c,0<=aR f c
def aQA{g:List Nat}(hL:∀d∈cw,aX d)(h:Hg cw g):rdC g=cw:=eQS hL h.1 λk hk=>h.2 k _ (by rw[Ac,Aa hk];rfl)
def zI:∀ {L:List Nat} {gs:Q6},L.length=gs.length->(∀z∈L.zip gs,hs.getD z.1 none=some z.2)->cA hs L=gs.flatten
 |[],[],_,_=>rfl
 |k::L,g::gs,hl,h=>by
  show ((hs.getD k none).getD [])++cA hs L=g++gs.flatten
  rw[show hs.getD k none=some g from h (k,g) List.mem_cons_self,zI (by simpa using hl) λz hz=>h z (List.mem_cons_of_mem _ hz)]
  rfl
 |[],_::_,hl,_=>by cases hl
 |_::_,[],hl,_=>by cases hl
def TwSt.keepS{B R:Addr}{f:Nat->Option Int}(tw:TwSt H B R hs f)(k:Same H H'):TwSt H' B R hs f:=by
 obtain⟨⟨us,u1,u2⟩,ok,⟨kvs,v1,v2⟩,ps⟩:=tw;exact⟨⟨us,k _ _ u1,u2.keep k⟩,ok,⟨kvs,k _ _ v1,v2⟩,ps⟩
def fwS(cws:List (List Nat))(k:Nat):List Nat:=cws.getD k []++[ckL (cws.getD k [])]
def bX4(gs:Q6):cA (gs.map some) (List.range gs.length)=gs.flatten:=zI (by rw[Bq]) λz hz=>by
 obtain⟨i,hi,e⟩:=Bm.mp hz;rw[List.length_zip,Bq,Nat.min_self]at hi;rw[List.getElem_zip]at e;rw[<-e,List.getElem_range,Ac,Af,Aa hi];rfl
def twP{B R:Addr}{f:Nat->Option Int}(tw:TwSt H B R hs f)(s:SameP Pt H H')(l:dN Pt H):TwSt H' B R hs f:=by
 obtain⟨⟨us,u1,u2⟩,ok,⟨kvs,v1,v2⟩,ps⟩:=tw;exact⟨⟨us,atP s l u1 (λ_=>nofun),u2.len,λj v h hv hh=>(u2.val j v h hv hh).keep λp xs hp _=>atP s l hp λ_=>nofun⟩,ok,⟨kvs,atP s l v1 (λ_=>nofun),v2⟩,ps⟩
def jA:Sp:=λvs H Q _=>∃(hg:Addr) (us:List V) (hs:List (Option (List Nat))),vs=[.ref hg]/\rdL H hg=some us/\HalsAt H us hs/\sI hs/\hs.length<=7/\∀(r:Addr) (H':Hp),H r=none->Same H H'->H' r=some (.lst (((cA hs (List.range hs.length)).map one).map V.str))->Q (.ref r) H'
def qE:FnScope ["halyards"] ["halyards"] (aJ gD):=by walk_at "sc"
def qF(F:Fun K "all_flags_on" "all_flags_on" gD f fd)(G:Gs K mg w Zu Zz Zv Zx Z0 Zw Zy)(c_flags_on:Cal P w K mg base 1 "flags_on" ["halyards", "numbers"] pL):FnOk P w K mg base CX0 2 f fd ["halyards"] jA:=by
 refine F.ok qE (λvs H Q E h=>?_) (λcdv A outer s H vs Q E hr h=>?_)
 ·obtain⟨hg,us,hs,rfl,_⟩:=h;rfl
 obtain⟨hg,us,hs,rfl,rh,hat,ok,h7,q⟩:=h;refine⟨_,(@aH _ _ _ (aY (aU c_flags_on hr (by decide) rfl (aA (mv 0) (aA (cB (dQQ rfl) rfl G.b_list eY (aA (cB dZ5 rfl G.b_range bJ3 (aA (aP bS rfl G.b_len bH (aA (mv 0) aB)) aB)) aB)) aB))))),?_⟩
 walk_at "go";rw[hat.len];refine cZ0 λr1 hr1=>?_;have k1:=aF hr1 (HO.rng 0 ((hs.length:Nat):Int))
 have e1:(upd H r1 (HO.rng 0 ((hs.length:Nat):Int))) r1=some (HO.rng 0 ((hs.length:Nat):Int)):=aD
 generalize upd H r1 (HO.rng 0 ((hs.length:Nat):Int))=H1 at k1 e1 ⊢;walk_at "go";refine dQJ e1 (by omega) λr2 hr2=>?_
 have k2:=k1.trans (aF hr2 (.lst ((List.range hs.length).map λk=>V.int ((k:Nat):Int))))
 have e2:rdL (upd H1 r2 (.lst ((List.range hs.length).map λk=>V.int ((k:Nat):Int)))) r2=some ((List.range hs.length).map λk=>V.int ((k:Nat):Int)):=bU
 generalize upd H1 r2 (.lst ((List.range hs.length).map λk=>V.int ((k:Nat):Int)))=H2 at k2 e2 ⊢;walk_at "go";exact⟨hg,r2,us,hs,List.range hs.length,rfl,aI k2 rh,hat.keep k2,ok,e2,by rw[Bq];omega,(λk hk=>Cb.mp hk),λr H' hr s' e=>q r H' (none_of k2 hr) (k2.trans s') e⟩
def dXH(cws:List (List Nat))(ks:List Nat)(hs:List (Option (List Nat))):Prop:=∃gs:List (List Nat),hs=gs.map some++List.replicate (hs.length-ks.length) none/\Hgs (ks.map (fwS cws)) gs/\ks.length<=hs.length
structure SayIn (H:Hp) (b:Addr) (bk:List (Str×Str)) (cws:List (List Nat)) (mss:List (List (List Nat))) (T:List (List Nat)) (n0:Nat):Prop where
 bkA:BkAt H b bk
 cw:yT bk cws
 le:bk.length<=60
 ms:cK bk mss
 t1:1<=T.length
 t40:T.length<=40
 tT:∀t∈T,eL t
 cov:Cov mss T 0 n0
def nH(m:Nat):(List.replicate ((m:Int)).toNat [V.non]).flatten=List.replicate m V.non:=by
 rw[Ds];induction m with
 |zero=>rfl
 |succ n ih=>rw[Ck,Ci,ih,Ck];rfl
def bJS:∀ {cws gs:Q6},Hgs cws gs->(∀c∈cws,∀d∈c,aX d)->gs.map rdC=cws
 |_,_,.nil,_=>rfl
 |_,_,.cons (cw:=cw) (h:=h) a b,hL=>by
  rw[Aq,aQA (hL cw Ak) a,bJS b λc hc=>hL c (Ai _ hc)]
def mE:∀ {gs:Q6},(∀g∈gs,g.length<=7)->gs.flatten.length<=7*gs.length
 |[],_=>Aj _
 |g::r,h=>by
  rw[Ci,Ah,Au];have:=h g Ak
  have:=mE λx hx=>h x (Ai g hx)
  omega
def HalsAt.app{us:List V}{gs:Q4}(a:HalsAt H us hs)(b:HalsAt H vs gs):HalsAt H (us++vs) (hs++gs):=by
 refine⟨by rw[Ah,Ah,a.len,b.len],λj v h hv hh=>?_⟩
 have hl:=a.len
 rcases Nat.lt_or_ge j us.length with z|z
 ·rw[Ax z]at hv;rw[Ax (by omega)]at hh
  exact a.val j v h hv hh
 ·rw[Ba z]at hv;rw[Ba (by omega),<-hl]at hh
  exact b.val _ v h hv hh
def aXL{m:Nat}:HalsAt H (List.replicate m V.non) (List.replicate m none):=by
 refine⟨by rw[Ay,Ay],λj v h hv hh=>?_⟩
 rw[Dw]at hv hh;split at hv
 ·rename_i hj
  rw[if_pos hj]at hh;cases hv;cases hh;rfl
 ·cases hv
def bZP(hms:cK bk mss)(h:Path mss T TB i ks):i+ks.length<=T.length:=by
 induction h with
 |nil=>exact Aj _
 | @cons i k ks hi hb _ ih=>
  have hk:=(kL (.cons hi hb ‹_›)).2 k (Ak ..)
  have h1:1<=aV mss k:=by
   unfold aV;rw[Ac,Aa hk];exact(hms.2 k _ _ (Aa (by rw[<-hms.1];exact hk)) (Aa hk)).2.1
  rw[Au];omega
def dXD(h6:cs.length<=6)(hL:∀d∈cs,aX d):aX (ckL cs)/\gY (cs++[ckL cs])=true:=by
 obtain⟨d,hdl,hdv⟩:=aQM (cs:=cs++[97]) (by rw[Ah];show _+1<=_;omega) (k:=cs.length) (by rw[Ah];show _<_+1;omega)
 rw[nO]at hdv;rw[dXZ h6 hL hdl hdv];exact⟨hdl,hdv⟩
def lK(aL aN Pt:Addr):Sp:=λvs H Q E=>∃(b B R:Addr) (hs:List (Option (List Nat))) (f:Nat->Option Int) (bk:List (Str×Str)) (cws:List (List Nat)) (mss:List (List (List Nat))) (T:List (List Nat)) (n0:Nat),vs=[.ref b,.ref B,.ref R,.str (bA T)]/\TwSt H B R hs f/\hs.length<=6/\SayIn H b bk cws mss T n0/\dN Pt H/\
 (∀(t B' R':Addr) (hs':Q4) (f':Nat->Option Int) (ks:List Nat) (TB:List (Option Int)) (H':Hp),SameP Pt H H'->dN Pt H'->H t=none->H' t=some (.tup [.ref B',.ref R'])->H B'=none->hs'.length=hs.length->dXH cws ks hs'->TabOk mss T TB->Path mss T TB 0 ks->TwSt H' B' R' hs' f'->Q (.ref t) H')/\
 (∀(ks:List Nat) (TB:List (Option Int)) (dx:Addr) (W:List Wt) (F:List Nat) (H':Hp),TabOk mss T TB->Path mss T TB 0 ks->ks.length<=hs.length->LackOk (ks.map (fwS cws)) (aR (bM (aR (bM λc=>aR f c+cnt (cA hs (List.range hs.length)) c)))) W F->SameP Pt H H'->dN Pt H'->E (.ref aL) (some dx) H')/\(∀(ks:List Nat) (TB:List (Option Int)) (H':Hp),TabOk mss T TB->Path mss T TB 0 ks->hs.length<ks.length->SameP Pt H H'->dN Pt H'->E (.ref aN) none H')
def sc_behind_say:FnScope ["book", "halyards", "locker", "text", "words", "more", "hoists", "bare"] ["book", "halyards", "locker", "text"] (aJ fQ):=by walk_at "sc"
def uE(F:Fun K "behind_say" "behind_say" fQ f fd)(G:Gs K mg w Zu Zz Zv Zx Z0 Zw Zy)(c_put_in:Cal P w K mg base 2 "put_in" ["locker", "flags"] vG)(c_hang_all:bXI P w K mg base 3 "hang_all" ["locker", "words"] (pK Zu))(c_with_check:Cal P w K mg base 5 "with_check" ["word"] gX)(c_all_flags_on:Cal P w K mg base 2 "all_flags_on" ["halyards"] jA)(c_taken:bXI P w K mg base 3 "taken" ["locker", "flags"] (zG Zv))(c_cut_text:Cal P w K mg base 4 "cut_text" ["book", "text"] (jD Pt)):FnOk P w K mg base (CXr P w) 6 f fd ["book", "halyards", "locker", "text"] (lK Zu Zy Pt):=by
 refine F.okX sc_behind_say (λvs H Q E h=>?_) (λcdv A outer s H vs Q E hr h=>?_)
 ·obtain⟨b,B,R,hs,f,bk,cws,mss,T,n0,rfl,_⟩:=h;rfl
 obtain⟨b,B,R,hs,f,bk,cws,mss,T,n0,rfl,tw,h6,⟨hbk,hcw,h60,hms,t1,t40,tT,hcov⟩,lam,q,qe,qn⟩:=h;refine⟨_,(@aE _ _ _ _ _ (eM (i:=4) sc_behind_say.nd rfl (Or.inl rfl) rfl (bX (aU c_cut_text hr (by decide) rfl (aA (mv 0) (aA (mv 3) aB)))) (eF (N:=["number", "book"]) ["book", "halyards", "locker", "text", "words", "more", "hoists", "bare"] (aJ fQ) [none,some 0] rfl rfl rfl (λx h=>bO h) (by decide +kernel)) (by decide +kernel) rfl (by decide +kernel) (λ_ _ _ _=>(bE (i:=0) (show List.Nodup (["number", "book"]:List Str) by decide +kernel) rfl (Or.inl rfl))) (λ_ _ _ _=>cQ) (λ_ _ _ _=>(aU c_with_check hr (by decide) rfl (aA (bF bV (bF bV (mv 1) (mv 0) (λ_ _=>rfl)) aK (λ_ _=>rfl)) aB)))) (@aE _ _ _ _ _ (cI (aZ yO (aP bS rfl G.b_len bH (aA (mv 4) aB)) (aP bS rfl G.b_len bH (aA (mv 1) aB)) (aW _)) (@aH _ _ _ (rQ nW rfl rfl rfl G.c_NoHalyard G.x_NoHalyard Eb (@cU _ _ _ _ _ _ aB))) bK) (@aE _ _ _ _ _ (aO 5 sc_behind_say.nd (aU c_put_in hr (by decide) rfl (aA (mv 2) (aA (aU c_all_flags_on hr (by decide) rfl (aA (mv 1) aB)) aB)))) (@aE _ _ _ _ _ (aO 6 sc_behind_say.nd (nF c_hang_all kO hr (by decide) rfl (aA (mv 5) (aA (mv 4) aB)))) (@aE _ _ _ _ _ (aO 7 sc_behind_say.nd (aS oH (cG (aA cZ aB)) (aS kW (aP bS rfl G.b_len bH (aA (mv 1) aB)) (aP bS rfl G.b_len bH (aA (mv 6) aB))))) (@aH _ _ _ (aY (tM (aA (aS bW (mv 6) (mv 7)) (aA (nF c_taken kO hr (by decide) rfl (aA (mv 5) (aA (aU c_all_flags_on hr (by decide) rfl (aA (mv 6) aB)) aB))) aB)))))))))),?_⟩
 walk_at "go";refine⟨b,bk,mss,T,n0,rfl,hbk,h60,hms,t1,t40,tT,hcov,lam,λr1 TB ks H1 hr1 s1 l1 e1 htab hpath=>?_⟩;obtain⟨_,hklt⟩:=kL hpath;have hkb:∀k∈ks,k<bk.length:=λk hk=>by have:=hklt k hk;rw[hms.1]at this;exact this
 have bk1:=bkP hbk s1 lam
 have tw1:=twP tw s1 lam
 obtain⟨qs,b1,b2,b3⟩:=id bk1;have rq:=aM b1
 have hkl:ks.length<=40:=by
  have:=bZP hms hpath
  omega
 have hvl:((ks.map λk=>V.int ((k:Nat):Int))).length=ks.length:=Ab ..
 walk_at "go";refine iE (xs:=(ks.map λk=>V.int ((k:Nat):Int))) (λj=>(ks[j]?).map λk=>V.str (aQ (fwS cws k))) (aM e1) (by rw[hvl];exact bD (by omega)) (λj x Hc A B hx sm hA hB=>?_) (λD H2 hD sD hd=>?_)
 ·obtain⟨k,hk,rfl⟩:=aJZ hx;have hkb':=hkb k (Am hk)
  have ec:cws[k]?=some (cws[k]'(by rw[hcw.1];exact hkb')):=Aa _
  obtain⟨hw,hc1,hc6,hcL⟩:=hcw.2 k _ _ (Aa hkb') ec;have ep:qs[k]?=some (qs[k]'(by omega)):=Aa _
  have tp:=sm _ _ (b3 k _ _ ep (Aa hkb'))
  rw[hw]at tp;have ef:fwS cws k=cws[k]'(by rw[hcw.1];exact hkb')++[ckL (cws[k]'(by rw[hcw.1];exact hkb'))]:=by unfold fwS;rw[Ac,ec];rfl
  walk_at "go";refine⟨Wk.set rfl (Wk.refl _),?_⟩;walk_at "go";refine cD (aI sm rq) (v:=.ref (qs[k]'(by omega))) (bC (by rw[Af,ep];rfl)) ?_
  walk_at "go";refine eP tp (v:=.str (aQ (cws[k]'(by rw[hcw.1];exact hkb')))) (bC (j:=0) rfl) ?_
  walk_at "go";exact⟨_,rfl,hc1,hc6,hcL,λH' s' _ _=>hA _ (by rw[hk,<-ef];rfl) H' s'⟩
 rw[hvl,eR (λk=>V.str (aQ (fwS cws k)))]at hd;have hd':H2 D=some (.lst (((ks.map (fwS cws)).map aQ).map V.str)):=by rw[hd,Cm,Cm];rfl
 have s2:=s1.trans (Same.p sD)
 have l2:=l1.keep sD
 have tw2:=tw1.keepS sD
 have hwd:∀c∈ks.map (fwS cws),1<=c.length/\c.length<=7/\∀d∈c,aX d:=λc hc=>by
  obtain⟨k,hk,rfl⟩:=Bb.mp hc;have hkb':=hkb k hk
  have ec:cws[k]?=some (cws[k]'(by rw[hcw.1];exact hkb')):=Aa _
  obtain⟨_,hc1,hc6,hcL⟩:=hcw.2 k _ _ (Aa hkb') ec;have ef:fwS cws k=cws[k]'(by rw[hcw.1];exact hkb')++[ckL (cws[k]'(by rw[hcw.1];exact hkb'))]:=by unfold fwS;rw[Ac,ec];rfl
  rw[ef,Ah];refine⟨by show 1<=_+1;omega,by show _+1<=7;omega,λd hd=>?_⟩
  rcases Bo.mp hd with z|z
  ·exact hcL d z
  ·rw[Ap.mp z];exact(dXD hc6 hcL).1
 obtain⟨⟨us,hB,hat⟩,ok,⟨kvs,hR,lk⟩,hpos⟩:=id tw2;have rB:=aM hB
 have rd2:=aM hd'
 have hul:=hat.len
 have hwl:(((ks.map (fwS cws)).map aQ).map V.str).length=ks.length:=by rw[Ab,Ab,Ab]
 walk_at "go";rw[hwl,hul];by_cases hgt:hs.length<ks.length
 ·rw[An (show ((hs.length:Nat):Int)<((ks.length:Nat):Int) by omega)]
  walk_at "go";exact⟨by show 1<=sizeLine;decide,qn ks TB _ htab hpath hgt s2 l2⟩
 rw[Aw (show ¬((hs.length:Nat):Int)<((ks.length:Nat):Int) by omega)]
 walk_at "go";refine⟨B,us,hs,rfl,rB,hat,ok,by omega,λr3 H3 hr3 s3 e3=>?_⟩
 have fl3:(cA hs (List.range hs.length)).length<=7*(List.range hs.length).length:=oZ ok _
 rw[Bq]at fl3;walk_at "go";refine⟨R,r3,kvs,f,_,rfl,s3 _ _ hR,lk,hpos,aM e3,by omega,λr4 kws H4 hr4 s4 e4 lk4=>?_⟩
 have s24:=s3.trans s4
 have rd4:=aI s24 rd2
 walk_at "go";have s25:∀ {H5:Hp},Same H4 H5->SameP Pt H H5/\dN Pt H5:=λk=>⟨s2.trans (Same.p (s24.trans k)),l2.keep (s24.trans k)⟩
 refine⟨r4,D,kws,_,ks.map (fwS cws),rfl,.inl e4,lk4,rd4,by rw[Ab];omega,(λc hc=>⟨(hwd c hc).2.1,(hwd c hc).2.2⟩),λrh ps fs H5 hrh s5 er hne hls hfl hch hct=>?_,λdx l1 l2 rs W F H5 s5 _ _ _ _ hlk _ _=>qe ks TB dx W F H5 htab hpath (by omega) hlk (s25 s5).1 (s25 s5).2⟩
 have hgs:=dJV hfl hch
 have hflat:=vO (hfl.trans (aX0 (ks.map (fwS cws))))
 have hgl:=hgs.lens
 have hpg:∀(i:Nat) p g,ps[i]?=some p->(tO (ks.map (fwS cws)) fs)[i]?=some g->H5 p=some (.lst ((g.map one).map V.str)):=λi p g hp hg=>by
  have hi:i<(ks.map (fwS cws)).length:=by rw[<-hgl];exact(Ae.mp hg).1
  have ec:(ks.map (fwS cws))[i]?=some (ks.map (fwS cws))[i]:=Aa hi
  rw[yS ec]at hg;obtain⟨_,h2⟩:=hls.2 i p (fO (ks.map (fwS cws)) fs i) hp (by rw[Af,List.getElem?_range hi];rfl)
  unfold fO at h2;rw[Ac,ec]at h2;cases hg;exact h2
 have hgf:=dXS hgs hwd
 have hrd:=bJS hgs λc hc=>(hwd c hc).2.2
 have hpsl:ps.length=(tO (ks.map (fwS cws)) fs).length:=by rw[hls.1,Ab,Bq,hgl]
 rw[Ab]at hgl;generalize tO (ks.map (fwS cws)) fs=gs at hgs hflat hgl hpg hgf hrd hpsl;have hatG:HalsAt H5 (ps.map V.ref) (gs.map some):=⟨by rw[Ab,Ab,hpsl],λj v h hv hh=>by
  rw[Af]at hv hh;obtain⟨pj,ep,rfl⟩:=Bj.mp hv;obtain⟨g,eg,rfl⟩:=Bj.mp hh;exact⟨pj,rfl,hpg j pj g ep eg⟩⟩
 have okG:sI (gs.map some):=λcs hc=>by
  obtain⟨g,hg,e⟩:=Bb.mp hc;cases e;exact(hgf cs hg).1
 obtain⟨m2,em2⟩:∃m2:Nat,hs.length=gs.length+m2:=⟨hs.length-gs.length,by omega⟩
 have rer:=aM er
 have rB5:=aI (s24.trans s5) rB
 walk_at "go";refine⟨by show 1<=sizeLine;decide,λp6 hp6=>?_⟩
 have k6:=aF hp6 (.lst [V.non])
 have e6:(upd H5 p6 (.lst [V.non])) p6=some (.lst [V.non]):=aD
 generalize upd H5 p6 (.lst [V.non])=H6 at k6 e6 ⊢;have rB6:=aI k6 rB5
 have rer6:=aI k6 rer
 walk_at "go";rw[hul,Ab,show ((hs.length:Nat):Int)-((ps.length:Nat):Int)=((m2:Nat):Int) by omega]
 refine⟨p6,_,[V.non],rfl,rfl,e6,by omega,by omega,by show 1*((m2:Int)).toNat<=sizeLine;exact bJ (by omega),λp7 hp7=>?_⟩
 rw[nH];have k7:=k6.trans (aF hp7 (.lst (List.replicate m2 V.non)))
 have e7:(upd H6 p7 (.lst (List.replicate m2 V.non))) p7=some (.lst (List.replicate m2 V.non)):=aD
 generalize upd H6 p7 (.lst (List.replicate m2 V.non))=H7 at k7 e7 ⊢;walk_at "go";refine jN (xs:=ps.map V.ref) (ys:=List.replicate m2 V.non) (cC (k7 _ _ er)) (cC e7) (bJ (by rw[Ab,Ay];omega)) λp8 hp8=>?_
 have k8:=k7.trans (aF hp8 (.lst (ps.map V.ref++List.replicate m2 V.non)))
 have e8:(upd H7 p8 (.lst (ps.map V.ref++List.replicate m2 V.non))) p8=some (.lst (ps.map V.ref++List.replicate m2 V.non)):=aD
 have hp85:H5 p8=none:=none_of k7 hp8
 generalize upd H7 p8 (.lst (ps.map V.ref++List.replicate m2 V.non))=H8 at k8 e8 ⊢;walk_at "go";refine⟨rh,_,gs.map some,rfl,aI k8 rer,hatG.keep k8,okG,by rw[Ab];omega,λr9 H9 hr9 s9 e9=>?_⟩
 rw[Ab,bX4,hflat]at e9;have s59:=k8.trans s9
 have hcnt:∀c,cnt fs c<=aR (bM λc=>aR f c+cnt (cA hs (List.range hs.length)) c) c:=λc=>by
  rw[cJD];exact Int.le_trans (hct c) (cQB (kE _) c)
 have hfsl:fs.length<=1000:=by
  rw[<-hflat];have:gs.flatten.length<=7*gs.length:=mE λg hg=>by
   have:=(iD (hgf g hg).1).2
   rw[Ab]at this;exact this
  omega
 have hfl2:∀c∈fs,kU c:=λc hc=>by
  rw[<-hflat]at hc;obtain⟨g,hg,hcg⟩:=List.mem_flatten.mp hc;exact(hgf g hg).2 c hcg
 walk_at "go";refine⟨r4,r9,kws,_,fs,rfl,(s5.trans s59) _ _ e4,lk4,kE _,aM e9,hfsl,hfl2,λ_ r10 kwt H10 hr10 s10 e10 lk10=>?_,λi c hi _ hlt=>absurd (bX0 hcnt i c (Ae.mp hi).1 hi) (by omega)⟩
 have s510:=s59.trans s10
 walk_at "go";refine⟨by show 2<=sizeLine;decide,λt ht=>?_⟩
 have kt:=aF ht (.tup [.ref p8,.ref r10])
 have s511:=s510.trans kt
 have sH:=s25 (s5.trans s511)
 have e811:=(s9.trans (s10.trans kt)) _ _ e8
 have noneP:∀ {y:Addr},H5 y=none->H y=none:=fun {y} hy=>by
  by_cases e:y=Pt
  ·obtain⟨tb,htb⟩:=(s25 s5).2.tb;rw[e,htb]at hy;cases hy
  ·cases eH:H y with
   |none=>rfl
   |some o=>rw[(s25 s5).1 y o e eH]at hy;cases hy
 have hsl:(gs.map some++List.replicate m2 none).length=hs.length:=by rw[Ah,Ab,Ay];omega
 refine q t p8 r10 (gs.map some++List.replicate m2 none) _ ks TB _ sH.1 sH.2 (noneP (none_of s510 ht)) aD (noneP hp85) hsl ⟨gs,by rw[hsl,show hs.length-ks.length=m2 by omega],hgs,by rw[hsl];omega⟩ htab hpath ⟨⟨_,e811,?_⟩,?_,⟨_,kt _ _ e10,lk10⟩,kE _⟩
 ·exact(hatG.keep s511).app aXL
 ·intro cs hc;rcases Bo.mp hc with z|z
  ·exact okG cs z
  ·cases (Gz.mp z).2
def dH(aL aN Pt:Addr):Sp:=λvs H Q E=>∃(b hg st dp:Addr) (hs:List (Option (List Nat))) (f:Nat->Option Int) (bk:List (Str×Str)) (cws:List (List Nat)) (mss:List (List (List Nat))) (T:List (List Nat)) (n0:Nat),vs=[.ref b,.ref hg,.ref st,.ref dp]/\TwSt H hg st hs f/\hs.length<=6/\SayIn H b bk cws mss T n0/\dN Pt H/\H dp=some (.tup [.str (Str.ofString "say"),.str (bA T)])/\
 (∀(t B' R':Addr) (hs':Q4) (f':Nat->Option Int) (ks:List Nat) (TB:List (Option Int)) (H':Hp),SameP Pt H H'->dN Pt H'->H t=none->H' t=some (.tup [.ref B',.ref R'])->H B'=none->hs'.length=hs.length->dXH cws ks hs'->TabOk mss T TB->Path mss T TB 0 ks->TwSt H' B' R' hs' f'->Q (.ref t) H')/\
 (∀(ks:List Nat) (TB:List (Option Int)) (dx:Addr) (W:List Wt) (F:List Nat) (H':Hp),TabOk mss T TB->Path mss T TB 0 ks->ks.length<=hs.length->LackOk (ks.map (fwS cws)) (aR (bM (aR (bM λc=>aR f c+cnt (cA hs (List.range hs.length)) c)))) W F->SameP Pt H H'->dN Pt H'->E (.ref aL) (some dx) H')/\(∀(ks:List Nat) (TB:List (Option Int)) (H':Hp),TabOk mss T TB->Path mss T TB 0 ks->hs.length<ks.length->SameP Pt H H'->dN Pt H'->E (.ref aN) none H')
def cZ1{aL aN:Addr}{Q':VK}{E:XK}(h:∀v H,Q v H->Q' v H)(q:dH aL aN Pt vs H Q E):dH aL aN Pt vs H Q' E:=by
 obtain⟨b,hg,st,dp,hs,f,bk,cws,mss,T,n0,e,a1,a2,a3,a4,a5,q1,q2⟩:=q;exact⟨b,hg,st,dp,hs,f,bk,cws,mss,T,n0,e,a1,a2,a3,a4,a5,λt B' R' hs' f' ks TB H' b1 b2 b3 b4 b5 b6 b7 b8 b9 b10=>h _ _ (q1 t B' R' hs' f' ks TB H' b1 b2 b3 b4 b5 b6 b7 b8 b9 b10),q2⟩
def tK:FnScope ["book", "halyards", "locker", "deed"] ["book", "halyards", "locker", "deed"] (aJ hU):=by walk_at "sc"
def tH(F:Fun K "behind_deed" "behind_deed" hU f fd)(G:Gs K mg w Zu Zz Zv Zx Z0 Zw Zy)(c_behind_say:bXI P w K mg base 6 "behind_say" ["book", "halyards", "locker", "text"] (lK Zu Zy Pt))(c_behind_haul:Cal P w K mg base 1 "behind_haul" ["halyards", "locker", "number", "word"] jV)(c_behind_lower:Cal P w K mg base 1 "behind_lower" ["halyards", "locker", "number"] iY)(c_behind_lose:Cal P w K mg base 1 "behind_lose" ["halyards", "locker", "flag"] jB)(c_behind_find:Cal P w K mg base 1 "behind_find" ["halyards", "locker", "flag"] jM):FnOk P w K mg base (CXr P w) 7 f fd ["book", "halyards", "locker", "deed"] (dH Zu Zy Pt):=by
 refine F.okX tK (λvs H Q E h=>?_) (λcdv A outer s H vs Q E hr h=>?_)
 ·obtain⟨b,hg,st,dp,hs,f,bk,cws,mss,T,n0,rfl,_⟩:=h;rfl
 obtain⟨b,hg,st,dp,hs,f,bk,cws,mss,T,n0,rfl,tw,h6,si,lam,tp,q⟩:=h;refine⟨_,(@aE _ _ _ _ _ (cI (aZ oJ (bF bV (mv 3) aK (λ_ _=>rfl)) dP (aW _)) (@aH _ _ _ (aY (aU c_behind_haul hr (by decide) rfl (aA (mv 1) (aA (mv 2) (aA (bF bV (mv 3) aK (λ_ _=>rfl)) (aA (bF bV (mv 3) aK (λ_ _=>rfl)) aB))))))) bK) (@aE _ _ _ _ _ (cI (aZ oJ (bF bV (mv 3) aK (λ_ _=>rfl)) dP (aW _)) (@aH _ _ _ (aY (aU c_behind_lower hr (by decide) rfl (aA (mv 1) (aA (mv 2) (aA (bF bV (mv 3) aK (λ_ _=>rfl)) aB)))))) bK) (@aE _ _ _ _ _ (cI (aZ oJ (bF bV (mv 3) aK (λ_ _=>rfl)) dP (aW _)) (@aH _ _ _ (aY (aU c_behind_lose hr (by decide) rfl (aA (mv 1) (aA (mv 2) (aA (bF bV (mv 3) aK (λ_ _=>rfl)) aB)))))) bK) (@aE _ _ _ _ _ (cI (aZ oJ (bF bV (mv 3) aK (λ_ _=>rfl)) dP (aW _)) (@aH _ _ _ (aY (aU c_behind_find hr (by decide) rfl (aA (mv 1) (aA (mv 2) (aA (bF bV (mv 3) aK (λ_ _=>rfl)) aB)))))) bK) (@aH _ _ _ (aY (nF c_behind_say kO hr (by decide) rfl (aA (mv 0) (aA (mv 1) (aA (mv 2) (aA (bF bV (mv 3) aK (λ_ _=>rfl)) aB))))))))))),?_⟩
 have tt:=eE tp
 walk_at "go";refine eP tp (v:=.str (Str.ofString "say")) (bC (j:=0) rfl) ?_;walk_at "go";rw[show decide ((Str.ofString "say")=(Str.ofString "haul"))=false from by decide +kernel]
 walk_at "go";refine eP tp (v:=.str (Str.ofString "say")) (bC (j:=0) rfl) ?_;walk_at "go";rw[show decide ((Str.ofString "say")=(Str.ofString "lower"))=false from by decide +kernel]
 walk_at "go";refine eP tp (v:=.str (Str.ofString "say")) (bC (j:=0) rfl) ?_;walk_at "go";rw[show decide ((Str.ofString "say")=(Str.ofString "lose"))=false from by decide +kernel]
 walk_at "go";refine eP tp (v:=.str (Str.ofString "say")) (bC (j:=0) rfl) ?_;walk_at "go";rw[show decide ((Str.ofString "say")=(Str.ofString "find"))=false from by decide +kernel]
 walk_at "go";refine eP tp (v:=.str (bA T)) (bC (j:=1) rfl) ?_;walk_at "go";exact⟨b,hg,st,hs,f,bk,cws,mss,T,n0,rfl,tw,h6,si,lam,q⟩
def twF(b:Addr)(m:Int)(s0 st hg dd:Addr):List (Str×V):=[("book",.ref b),("many",.int m),("stock_at_first",.ref s0),("stock",.ref st),("hung",.ref hg),("deeds",.ref dd)]
def tw1(b:Addr):List (Str×V):=[("book",.ref b)]
def tw2(b:Addr)(m:Int):List (Str×V):=[("book",.ref b),("many",.int m)]
def tw3(b:Addr)(m:Int)(s0:Addr):List (Str×V):=[("book",.ref b),("many",.int m),("stock_at_first",.ref s0)]
def tw4(b:Addr)(m:Int)(s0 st:Addr):List (Str×V):=[("book",.ref b),("many",.int m),("stock_at_first",.ref s0),("stock",.ref st)]
def tw5(b:Addr)(m:Int)(s0 st hg:Addr):List (Str×V):=[("book",.ref b),("many",.int m),("stock_at_first",.ref s0),("stock",.ref st),("hung",.ref hg)]
def dQC:fM "book" (.ref b) []=tw1 b:=rfl
def cJN{m:Int}:fM "many" (.int m) (tw1 b)=tw2 b m:=rfl
def dQE{m:Int}:fM "stock_at_first" (.ref s0) (tw2 b m)=tw3 b m s0:=rfl
def cZZ{m:Int}:fM "stock" (.ref st) (tw3 b m s0)=tw4 b m s0 st:=rfl
def cZJ{m:Int}:fM "hung" (.ref hg) (tw4 b m s0 st)=tw5 b m s0 st hg:=rfl
def cJL{m:Int}:fM "deeds" (.ref dd) (tw5 b m s0 st hg)=twF b m s0 st hg dd:=rfl
def aZ6{m:Int}:(twF b m s0 st hg dd).lookup ("book" : Str)=some (.ref b):=rfl
def cQC{m:Int}:(twF b m s0 st hg dd).lookup ("stock" : Str)=some (.ref st):=rfl
def aJH{m:Int}:(twF b m s0 st hg dd).lookup ("hung" : Str)=some (.ref hg):=rfl
def cXB{m:Int}:(twF b m s0 st hg dd).lookup ("deeds" : Str)=some (.ref dd):=rfl
def cQX{m:Int}:(twF b m s0 st hg dd).lookup ("do" : Str)=none:=rfl
def rF{m:Int}:(twF b m s0 st hg dd).lookup ("read" : Str)=none:=rfl
def zP{m:Int}{h':Addr}:fM "hung" (.ref h') (twF b m s0 st hg dd)=twF b m s0 st h' dd:=rfl
def wU{m:Int}{s':Addr}:fM "stock" (.ref s') (twF b m s0 st hg dd)=twF b m s0 s' hg dd:=rfl
def SameE(l:List Addr)(H H':Hp):Prop:=∀b o,b∉l->H b=some o->H' b=some o
def SameE.of(s:Same H H'):SameE l H H':=λb o _ e=>s b o e
def SameE.trans{H2:Hp}(s:SameE l H H')(t:SameE l H' H2):SameE l H H2:=λb o n e=>t b o n (s b o n e)
def SameE.put{o:HO}(hx:x∈l)(s:SameE l H H'):SameE l H (upd H' x o):=λb u n e=>by rw[aG (λz=>n (by rw[z];exact hx))];exact s b u n e
def rdE{u:HO}(s:SameE l H H')(n:a∉l)(h:Rd H a u):Rd H' a u:=by
 rcases h with h|⟨o,h⟩
 ·exact .inl (s _ _ n h)
 ·exact .inr ⟨o,s _ _ n h⟩
def SameE.none(s:SameE l H H')(n:x∉l)(h:H' x=none):H x=none:=by
 cases e:H x with
 |none=>rfl
 |some o=>rw[s x o n e]at h;cases h
def eZ(C:Addr):Sp:=λvs H Q _=>∃(x b l dx:Addr) (xs:List V) (kvs:List (Key×V)) (f:Nat->Option Int) (m:Nat),vs=[.ref x,.ref b,.ref l,.int (m:Int)]/\H x=some (.ins C dx [])/\rdL H b=some xs/\Rd H l (.dK kvs)/\Lk kvs f/\m<=6/\
 ∀(b' s0 st hg dd:Addr) (H':Hp),H b'=none->H hg=none->H dd=none->hg≠dd->b'≠dd->SameE [x] H H'->H' x=some (.ins C dx (twF b' m s0 st hg dd))->H' b'=some (.lst xs)->H' s0=some (.dK (kvL (aR f) (bR (aR f) 27)))->H' st=some (.dK (kvL (aR f) (bR (aR f) 27)))->
  H' hg=some (.lst (List.replicate m V.non))->H' dd=some (.lst [])->Q .non H'
def uL:FnScope ["self", "book", "locker", "many"] ["self", "book", "locker", "many"] (aJ iJ):=by walk_at "sc"
def tZ(F:Fun K "__init__" "Tower.__init__" iJ f fd)(G:Gs K mg w Zu Zz Zv Zx Z0 Zw Zy)(c_plain_locker:Cal P w K mg base 1 "plain_locker" ["locker"] cV):FnOk P w K mg base CX0 2 f fd ["self", "book", "locker", "many"] (eZ Z0):=by
 refine F.ok uL (λvs H Q E h=>?_) (λcdv A outer s H vs Q E hr h=>?_)
 ·obtain⟨x,b,l,dx,xs,kvs,f,m,rfl,_⟩:=h;rfl
 obtain⟨x,b,l,dx,xs,kvs,f,m,rfl,hx,hb,hl,hk,hm,q⟩:=h;refine⟨_,(@aE _ _ _ _ _ (jC (mv 0) (cB lZ rfl G.b_list eY (aA (mv 1) aB)) rfl) (@aE _ _ _ _ _ (jC (mv 0) (mv 3) rfl) (@aE _ _ _ _ _ (jC (mv 0) (aU c_plain_locker hr (by decide) rfl (aA (mv 2) aB)) rfl) (@aE _ _ _ _ _ (jC (mv 0) (aU c_plain_locker hr (by decide) rfl (aA (mv 2) aB)) rfl) (@aE _ _ _ _ _ (jC (mv 0) (aS oH (cG (aA cZ aB)) (mv 3)) rfl) (@aH _ _ _ (jC (mv 0) (cG aB) rfl))))))),?_⟩
 walk_at "go";intro b' hb';have nx:b'≠x:=λz=>by rw[z,hx]at hb';cases hb'
 have nl:l∉[x]:=λz=>by
  rw[Ap.mp z]at hl;rcases hl with h|⟨_,h⟩ <;> (rw[hx]at h;cases h)
 have sE1:SameE [x] H (upd H b' (.lst xs)):=.of (aF hb' (.lst xs))
 have e1:(upd H b' (.lst xs)) b'=some (.lst xs):=aD
 have x1:=aF hb' (.lst xs) _ _ hx
 generalize upd H b' (.lst xs)=H1 at sE1 e1 x1 ⊢;have nin:∀ {y:Addr} {o:HO} {H':Hp} {fs:List (Str×V)},H' y=some o->H' x=some (.ins Z0 dx fs)->(∀fs',o≠.ins Z0 dx fs')->y≠x:=λe1 e2 n z=>by rw[z,e2]at e1;cases e1;exact n _ rfl
 walk_at "go";refine⟨x,Z0,dx,[],rfl,x1,G.cl_Tower,G.na_Tower_book,by decide,?_⟩
 rw[dQC];have sE2:=sE1.put (o:=.ins Z0 dx (tw1 b')) (Ap.mpr rfl)
 have x2:(upd H1 x (.ins Z0 dx (tw1 b'))) x=some (.ins Z0 dx (tw1 b')):=aD
 have e2:(upd H1 x (.ins Z0 dx (tw1 b'))) b'=some (.lst xs):=by rw[aG nx];exact e1
 generalize upd H1 x (.ins Z0 dx (tw1 b'))=H2 at sE2 x2 e2 ⊢;walk_at "go";refine⟨x,Z0,dx,_,rfl,x2,G.cl_Tower,G.na_Tower_many,by show 1<1000;decide,?_⟩
 rw[cJN];have sE3:=sE2.put (o:=.ins Z0 dx (tw2 b' (m:Int))) (Ap.mpr rfl)
 have x3:(upd H2 x (.ins Z0 dx (tw2 b' (m:Int)))) x=some (.ins Z0 dx (tw2 b' (m:Int))):=aD
 have e3:(upd H2 x (.ins Z0 dx (tw2 b' (m:Int)))) b'=some (.lst xs):=by rw[aG nx];exact e2
 generalize upd H2 x (.ins Z0 dx (tw2 b' (m:Int)))=H3 at sE3 x3 e3 ⊢;walk_at "go";refine⟨l,kvs,f,rfl,rdE sE3 nl hl,hk,λs0 H4 hs0 s4 d4=>?_⟩;have sE4:=sE3.trans (.of s4)
 have x4:=s4 _ _ x3
 have e4:=s4 _ _ e3
 have n0:=nin d4 x4 λ_=>nofun
 walk_at "go";refine⟨x,Z0,dx,_,rfl,x4,G.cl_Tower,G.na_Tower_stock_at_first,by show 2<1000;decide,?_⟩
 rw[dQE];have sE5:=sE4.put (o:=.ins Z0 dx (tw3 b' (m:Int) s0)) (Ap.mpr rfl)
 have x5:(upd H4 x (.ins Z0 dx (tw3 b' (m:Int) s0))) x=some (.ins Z0 dx (tw3 b' (m:Int) s0)):=aD
 have e5:(upd H4 x (.ins Z0 dx (tw3 b' (m:Int) s0))) b'=some (.lst xs):=by rw[aG nx];exact e4
 have d5:(upd H4 x (.ins Z0 dx (tw3 b' (m:Int) s0))) s0=some (.dK (kvL (aR f) (bR (aR f) 27))):=by rw[aG n0];exact d4
 generalize upd H4 x (.ins Z0 dx (tw3 b' (m:Int) s0))=H5 at sE5 x5 e5 d5 ⊢;walk_at "go";refine⟨l,kvs,f,rfl,rdE sE5 nl hl,hk,λst H6 hst s6 d6=>?_⟩;have sE6:=sE5.trans (.of s6)
 have x6:=s6 _ _ x5
 have e6:=s6 _ _ e5
 have d06:=s6 _ _ d5
 have n1:=nin d6 x6 λ_=>nofun
 walk_at "go";refine⟨x,Z0,dx,_,rfl,x6,G.cl_Tower,G.na_Tower_stock,by show 3<1000;decide,?_⟩
 rw[cZZ];have sE7:=sE6.put (o:=.ins Z0 dx (tw4 b' (m:Int) s0 st)) (Ap.mpr rfl)
 have x7:(upd H6 x (.ins Z0 dx (tw4 b' (m:Int) s0 st))) x=some (.ins Z0 dx (tw4 b' (m:Int) s0 st)):=aD
 have e7:(upd H6 x (.ins Z0 dx (tw4 b' (m:Int) s0 st))) b'=some (.lst xs):=by rw[aG nx];exact e6
 have d07:(upd H6 x (.ins Z0 dx (tw4 b' (m:Int) s0 st))) s0=some (.dK (kvL (aR f) (bR (aR f) 27))):=by rw[aG n0];exact d06
 have d17:(upd H6 x (.ins Z0 dx (tw4 b' (m:Int) s0 st))) st=some (.dK (kvL (aR f) (bR (aR f) 27))):=by rw[aG n1];exact d6
 generalize upd H6 x (.ins Z0 dx (tw4 b' (m:Int) s0 st))=H7 at sE7 x7 e7 d07 d17 ⊢;walk_at "go";refine⟨by show 1<=sizeLine;decide,λp0 hp0=>?_⟩
 have k8:=aF hp0 (.lst [V.non])
 have e8:(upd H7 p0 (.lst [V.non])) p0=some (.lst [V.non]):=aD
 generalize upd H7 p0 (.lst [V.non])=H8 at k8 e8 ⊢;walk_at "go";refine⟨p0,_,[V.non],rfl,rfl,e8,by omega,by omega,by show 1*((m:Int)).toNat<=sizeLine;exact bJ (by omega),λhg hhg=>?_⟩
 rw[nH];have k9:=k8.trans (aF hhg (.lst (List.replicate m V.non)))
 have h9:(upd H8 hg (.lst (List.replicate m V.non))) hg=some (.lst (List.replicate m V.non)):=aD
 have hg7:H7 hg=none:=none_of k8 hhg
 generalize upd H8 hg (.lst (List.replicate m V.non))=H9 at k9 h9 ⊢;have x9:=k9 _ _ x7
 have n2:=nin h9 x9 λ_=>nofun
 have nin1:∀ {y:Addr},y≠x->y∉[x]:=λn z=>n (Ap.mp z)
 have hgH:=sE7.none (nin1 n2) hg7
 walk_at "go";refine⟨x,Z0,dx,_,rfl,x9,G.cl_Tower,G.na_Tower_hung,by show 4<1000;decide,?_⟩
 rw[cZJ];have sE10:=(sE7.trans (.of k9)).put (o:=.ins Z0 dx (tw5 b' (m:Int) s0 st hg)) (Ap.mpr rfl)
 have x10:(upd H9 x (.ins Z0 dx (tw5 b' (m:Int) s0 st hg))) x=some (.ins Z0 dx (tw5 b' (m:Int) s0 st hg)):=aD
 have e10:(upd H9 x (.ins Z0 dx (tw5 b' (m:Int) s0 st hg))) b'=some (.lst xs):=by rw[aG nx];exact k9 _ _ e7
 have d010:(upd H9 x (.ins Z0 dx (tw5 b' (m:Int) s0 st hg))) s0=some (.dK (kvL (aR f) (bR (aR f) 27))):=by rw[aG n0];exact k9 _ _ d07
 have d110:(upd H9 x (.ins Z0 dx (tw5 b' (m:Int) s0 st hg))) st=some (.dK (kvL (aR f) (bR (aR f) 27))):=by rw[aG n1];exact k9 _ _ d17
 have h10:(upd H9 x (.ins Z0 dx (tw5 b' (m:Int) s0 st hg))) hg=some (.lst (List.replicate m V.non)):=by rw[aG n2];exact h9
 generalize upd H9 x (.ins Z0 dx (tw5 b' (m:Int) s0 st hg))=H10 at sE10 x10 e10 d010 d110 h10 ⊢;walk_at "go";refine⟨by decide,λdd hdd=>?_⟩
 have k11:=aF hdd (.lst [])
 have f11:(upd H10 dd (.lst [])) dd=some (.lst []):=aD
 have nhd:hg≠dd:=λz=>by rw[<-z,h10]at hdd;cases hdd
 have nbd:b'≠dd:=λz=>by rw[<-z,e10]at hdd;cases hdd
 have x11:=k11 _ _ x10
 have ndx:dd≠x:=λz=>by rw[z,x10]at hdd;cases hdd
 have ddH:=sE10.none (nin1 ndx) hdd
 generalize upd H10 dd (.lst [])=H11 at k11 f11 x11 ⊢;walk_at "go";refine⟨x,Z0,dx,_,rfl,x11,G.cl_Tower,G.na_Tower_deeds,by show 5<1000;decide,?_⟩
 rw[cJL];refine q b' s0 st hg dd _ hb' hgH ddH nhd nbd ((sE10.trans (.of k11)).put (Ap.mpr rfl)) aD ?_ ?_ ?_ ?_ ?_
 ·rw[aG nx];exact k11 _ _ e10
 ·rw[aG n0];exact k11 _ _ d010
 ·rw[aG n1];exact k11 _ _ d110
 ·rw[aG n2];exact k11 _ _ h10
 ·rw[aG ndx];exact f11
def cZF(e:H p=some (.tup xs))(h:Q (.int (xs.length:Int)) H):L2.aV [.ref p] H Q:=by
 have e1:rdL H p=none:=by unfold rdL;rw[e];rfl
 unfold L2.aV;simp only[e1,eE e];exact h
def things:List (Str×Int):=[("haul",3),("lower",2),("lose",2),("find",2),("say",2)]
def pS(C aL aN Pt:Addr):Sp:=λvs H Q E=>∃(a b s0 st hg dd dp dx:Addr) (m:Int) (z:Str) (zs ds:List V),vs=[.ref a,.ref dp]/\H a=some (.ins C dx (twF b m s0 st hg dd))/\H dp=some (.tup (.str z::zs))/\things.lookup z=some (((V.str z::zs).length:Nat):Int)/\H dd=some (.lst ds)/\ds.length<=1000/\
 ∀p0,H p0=none->dH aL aN Pt [.ref b,.ref hg,.ref st,.ref dp] (upd H p0 (.tup [])) (λv H1=>∃(p hg' st':Addr),v=.ref p/\H1 p=some (.tup [.ref hg',.ref st'])/\H1 a=some (.ins C dx (twF b m s0 st hg dd))/\H1 dd=some (.lst ds)/\(∀ys,H1 a≠some (.lst ys))/\
  Q .non (upd (upd H1 a (.ins C dx (twF b m s0 st' hg' dd))) dd (.lst (ds++[.ref dp])))) E
def sc_Tower_do:FnScope ["self", "deed", "behind"] ["self", "deed"] (aJ lW):=by walk_at "sc"
def zC(F:Fun K "do" "Tower.do" lW f fd)(G:Gs K mg w Zu Zz Zv Zx Z0 Zw Zy)(c_behind_deed:bXI P w K mg base 7 "behind_deed" ["book", "halyards", "locker", "deed"] (dH Zu Zy Pt)):FnOk P w K mg base (CXr P w) 8 f fd ["self", "deed"] (pS Z0 Zu Zy Pt):=by
 refine F.okX sc_Tower_do (λvs H Q E h=>?_) (λcdv A outer s H vs Q E hr h=>?_)
 ·obtain⟨a,b,s0,st,hg,dd,dp,dx,m,z,zs,ds,rfl,_⟩:=h;rfl
 obtain⟨a,b,s0,st,hg,dd,dp,dx,m,z,zs,ds,rfl,ha,hdp,hz,hdd,hds,q⟩:=h;refine⟨_,(@aE _ _ _ _ _ (cI (PW.pt (pP (aZ (eQ9 hr.units0) (mv 1) (tM aB) (aW _)) (jW (aZ cJY (cZY rfl G.d_THINGS_IN (aA (bF bV (mv 1) aK (λ_ _=>rfl)) aB)) (aP bS rfl G.b_len bH (aA (mv 1) aB)) (aW _))))) (@aH _ _ _ (rQ nW rfl rfl rfl G.c_NoDeed G.x_NoDeed Eb (@cU _ _ _ _ _ _ aB))) bK) (@aE _ _ _ _ _ (aO 2 sc_Tower_do.nd (nF c_behind_deed kO hr (by decide) rfl (aA (oX (mv 0) rfl) (aA (oX (mv 0) rfl) (aA (oX (mv 0) rfl) (aA (mv 1) aB)))))) (@aE _ _ _ _ _ (jC (mv 0) (bF bV (mv 2) aK (λ_ _=>rfl)) rfl) (@aE _ _ _ _ _ (jC (mv 0) (bF bV (mv 2) aK (λ_ _=>rfl)) rfl) (@aH _ _ _ (dB (bN By Df Dg qW (oX (mv 0) rfl) (aA (mv 1) aB)))))))),?_⟩
 have tdp:=eE hdp
 walk_at "go";refine⟨by decide,λp0 hp0=>?_⟩
 have k1:=aF hp0 (.tup [])
 refine dJY (k1 _ _ hdp) aD ?_;have q0:=q p0 hp0
 have a1:=k1 _ _ ha
 have dp1:=k1 _ _ hdp
 have dd1:=k1 _ _ hdd
 generalize upd H p0 (.tup [])=H1 at k1 a1 dp1 dd1 q0 ⊢;have tdp1:=eE dp1
 walk_at "go";rw[show (V.str z::zs).isEmpty=false from rfl];walk_at "go";refine eP dp1 (v:=.str z) (bC (j:=0) rfl) ?_;walk_at "go";refine⟨z,rfl,?_⟩;rw[show List.lookup z [("haul",3),("lower",2),("lose",2),("find",2),("say",2)]=some (((V.str z::zs).length:Nat):Int) from hz];walk_at "go";refine cZF dp1 ?_;walk_at "go";rw[show (!decide ((((V.str z::zs).length:Nat):Int)=(((V.str z::zs).length:Nat):Int)))=false by rw[An rfl];rfl]
 walk_at "go";refine⟨a,Z0,dx,_,_,rfl,a1,G.cl_Tower,G.na_Tower_book,aZ6,?_⟩;walk_at "go";refine⟨a,Z0,dx,_,_,rfl,a1,G.cl_Tower,G.na_Tower_hung,aJH,?_⟩;walk_at "go";refine⟨a,Z0,dx,_,_,rfl,a1,G.cl_Tower,G.na_Tower_stock,cQC,?_⟩;walk_at "go";refine cZ1 (λv H2 hv=>?_) q0;obtain⟨p,hg',st',rfl,ep,ea,edd,_,qq⟩:=hv;have nd:dd≠a:=λz=>by rw[z,ea]at edd;cases edd
 have np:p≠a:=λz=>by rw[z,ea]at ep;cases ep
 have up:∀o u,upd (upd H2 a o) a u=upd H2 a u:=λo u=>yA
 have tp2:=eE ep
 walk_at "go";refine eP ep (v:=.ref hg') (bC (j:=0) rfl) ?_;walk_at "go";refine⟨a,Z0,dx,_,rfl,ea,G.cl_Tower,G.na_Tower_hung,by show 6<1000;decide,?_⟩
 rw[zP];have a3:(upd H2 a (.ins Z0 dx (twF b m s0 st hg' dd))) a=some (.ins Z0 dx (twF b m s0 st hg' dd)):=aD
 have p3:(upd H2 a (.ins Z0 dx (twF b m s0 st hg' dd))) p=some (.tup [.ref hg',.ref st']):=by rw[aG np];exact ep
 walk_at "go";refine eP p3 (v:=.ref st') (bC (j:=1) rfl) ?_;walk_at "go";refine⟨a,Z0,dx,_,rfl,a3,G.cl_Tower,G.na_Tower_stock,by show 6<1000;decide,?_⟩
 rw[wU,up];have a4:(upd H2 a (.ins Z0 dx (twF b m s0 st' hg' dd))) a=some (.ins Z0 dx (twF b m s0 st' hg' dd)):=aD
 have dd4:(upd H2 a (.ins Z0 dx (twF b m s0 st' hg' dd))) dd=some (.lst ds):=by rw[aG nd];exact edd
 have md4:=cC dd4
 walk_at "go";refine⟨a,Z0,dx,_,_,rfl,a4,G.cl_Tower,G.na_Tower_deeds,cXB,?_⟩;walk_at "go";exact qq
def dW(cws:List (List Nat)):List Str:=cws.map λcw=>aQ (cw++[ckL cw])
def aQH:Option (List Nat)->V
 |none=>.non
 |some cs=>.str (lQ (cs.map one))
def rdN(cws:List (List Nat)):Option (List Nat)->V
 |none=>.non
 |some cs=>match (dW cws).findIdx? (λy=>y==lQ (cs.map one)) with|some j=>.int (j:Int)|none=>.non
def dXK(y:Str)(zs:List Str):inV (.str y) (zs.map V.str)=decide (y∈zs):=by
 unfold inV;rw[List.any_map,Gu,List.any_eq_true,Bw];constructor
 ·rintro⟨z,hz,e⟩;have e':(z==y)=true:=e
  rw[<-eq_of_beq e'];exact hz
 ·intro h;exact⟨y,h,show (y==y)=true from Ep _⟩
def eQQ(zs:List Str):inV .non (zs.map V.str)=false:=by
 unfold inV;rw[List.any_map,List.any_eq_false];intro z _ h;cases h
def gW(C:Addr):Sp:=λvs H Q _=>∃(a b s0 st hg dd dx:Addr) (m:Int) (us:List V) (hs:List (Option (List Nat))) (bk:List (Str×Str)) (cws:List (List Nat)),vs=[.ref a]/\H a=some (.ins C dx (twF b m s0 st hg dd))/\rdL H hg=some us/\HalsAt H us hs/\us.length<=1000/\sI hs/\BkAt H b bk/\bk.length<=60/\yT bk cws/\
 ∀(r:Addr) (H':Hp),H r=none->Same H H'->H' r=some (.lst (hs.map (rdN cws)))->Q (.ref r) H'
def sc_Tower_read:FnScope ["self", "spoken", "words"] ["self"] (aJ fS):=by walk_at "sc"
def tP(F:Fun K "read" "Tower.read" fS f fd)(G:Gs K mg w Zu Zz Zv Zx Z0 Zw Zy)(c_with_check:Cal P w K mg base 5 "with_check" ["word"] gX)(c_read_of:bXI P w K mg base 4 "read_of" ["flags"] (sK Zx)):FnOk P w K mg base CX0 6 f fd ["self"] (gW Z0):=by
 refine F.ok sc_Tower_read (λvs H Q E h=>?_) (λcdv A outer s H vs Q E hr h=>?_)
 ·obtain⟨a,b,s0,st,hg,dd,dx,m,us,hs,bk,cws,rfl,_⟩:=h;rfl
 obtain⟨a,b,s0,st,hg,dd,dx,m,us,hs,bk,cws,rfl,ha,hhg,hat,hul,hok,hbk,h60,hcw,q⟩:=h;refine⟨_,(@aE _ _ _ _ _ (aO 1 sc_Tower_read.nd (cL rfl (bX (oX (mv 0) rfl)) (lJ (N:=["word", "meaning"]) (by decide +kernel) (by decide +kernel)) (by decide +kernel) rfl (by decide +kernel) (λ_ _ _ _=>(fA (K:=K) (i:=0) (j:=1) (by rfl) (by rfl) (show List.Nodup (["word", "meaning"]:List Str) by decide +kernel) (by rfl) (by exact Or.inl rfl) (by exact Or.inr rfl) (by rfl) (by exact Or.inl rfl) (by exact Or.inr rfl))) (λ_ _ _ _=>cQ) (λ_ _ _ _=>(aU c_with_check hr (by decide) rfl (aA (mv 0) aB))))) (@aE _ _ _ _ _ (eM (i:=2) sc_Tower_read.nd rfl (Or.inl rfl) rfl (bX (oX (mv 0) rfl)) (lJ (N:=["hoist"]) (by decide +kernel) (by decide +kernel)) (by decide +kernel) rfl (by decide +kernel) (λ_ _ _ _=>(bE (i:=0) (show List.Nodup (["hoist"]:List Str) by decide +kernel) rfl (Or.inl rfl))) (λ_ _ _ _=>cQ) (λ_ _ _ _=>(aQ3 (aZ cZA (mv 0) cZ (aW _)) cZ (nF c_read_of bQB hr (by decide) rfl (aA (mv 0) aB))))) (@aH _ _ _ (aY (cL rfl (bX (mv 2)) (eF (N:=["word", "spoken"]) ["self", "spoken", "words"] (aJ fS) [none,some 1] rfl rfl rfl (λx h=>bO h) (by decide +kernel)) (by decide +kernel) rfl (by decide +kernel) (λ_ _ _ _=>(bE (i:=0) (show List.Nodup (["word", "spoken"]:List Str) by decide +kernel) rfl (Or.inl rfl))) (λ_ _ _ _=>cQ) (λ_ _ _ _=>(aQ3 (aZ eZV (mv 0) (mv 1) (by rfl)) (bN By Fl PySem.F.type_list_index bZ7 (mv 1) (aA (mv 0) aB)) cZ))))))),?_⟩
 obtain⟨qs,b1,b2,b3⟩:=id hbk;have rq:=aM b1
 have hql:(qs.map V.ref).length=bk.length:=by rw[Ab,b2]
 walk_at "go";refine⟨a,Z0,dx,_,_,rfl,ha,G.cl_Tower,G.na_Tower_book,aZ6,?_⟩;walk_at "go";refine iE (xs:=qs.map V.ref) (λj=>(cws[j]?).map λcw=>V.str (aQ (cw++[ckL cw]))) rq (by rw[hql];exact bD (by omega)) (λj x Hc A B hx sm hA hB=>?_) (λD Hd hD sD hd=>?_)
 ·rw[Af]at hx;obtain⟨p,ep,rfl⟩:=Bj.mp hx;have hjb:j<bk.length:=by rw[<-b2];exact(Ae.mp ep).1
  have ec:cws[j]?=some (cws[j]'(by rw[hcw.1];exact hjb)):=Aa _
  obtain⟨hw,hc1,hc6,hcL⟩:=hcw.2 j _ _ (Aa hjb) ec;have tp:=sm _ _ (b3 j p _ ep (Aa hjb))
  rw[hw]at tp;have tpl:=eE tp
  walk_at "go";refine⟨Wk.set rfl (Wk.set rfl (Wk.refl _)),?_⟩;walk_at "go";exact⟨_,rfl,hc1,hc6,hcL,λH' s' _ _=>hA _ (by rw[ec];rfl) H' s'⟩
 ·rw[hql,<-hcw.1,eR (λcw=>V.str (aQ (cw++[ckL cw])))]at hd;have hspk:Hd D=some (.lst ((dW cws).map V.str)):=by rw[hd];unfold dW;rw[Cm];rfl
  have haD:=sD _ _ ha
  have hhD:=aI sD hhg
  have hatD:=hat.keep sD
  walk_at "go";refine⟨a,Z0,dx,_,_,rfl,haD,G.cl_Tower,G.na_Tower_hung,aJH,?_⟩;walk_at "go";refine iE (xs:=us) (λj=>(hs[j]?).map aQH) hhD (bD (by omega)) (λj x Hc A B hx sm hA hB=>?_) (λD2 Hd2 hD2 sD2 hd2=>?_)
  ·have hjl:j<hs.length:=by rw[<-hat.len];exact(Ae.mp hx).1
   obtain⟨o,eh⟩:∃o,hs[j]?=some o:=⟨_,Aa hjl⟩;have hv:=(hatD.keep sm).val j x _ hx eh
   cases o with
   |none=>
    obtain rfl:x=V.non:=hv;walk_at "go";refine⟨Wk.set rfl (Wk.refl _),?_⟩;walk_at "go";rw[show decide (V.non=V.non)=true from rfl];walk_at "go";exact hA _ (by rw[eh];rfl) _ (Same.refl _)
   |some cs=>
    obtain⟨pc,rfl,hpc⟩:=hv;have hB':=hok cs (Am eh)
    have h7:=iD hB'
    walk_at "go";refine⟨Wk.set rfl (Wk.refl _),?_⟩;walk_at "go";rw[show decide (V.ref pc=V.non)=false from Aw (λz=>nomatch z)]
    walk_at "go";exact⟨pc,cs.map one,rfl,aM hpc,by omega,λz hz=>by obtain⟨c,_,rfl⟩:=Bb.mp hz;show 1<=1000;decide,λ_ H' s'=>hA _ (by rw[eh];rfl) H' s',λz=>by rw[hB']at z;cases z⟩
  ·rw[hat.len,eR aQH]at hd2;have r2:=aM hd2
   have rs2:=aM (sD2 _ _ hspk)
   have hll:(hs.map aQH).length<=1000:=by rw[Ab,<-hat.len];exact hul
   walk_at "go";refine iE (xs:=hs.map aQH) (λj=>(hs[j]?).map (rdN cws)) r2 (bD (by omega)) (λj x Hc A B hx sm hA hB=>?_) (λD3 Hd3 hD3 sD3 hd3=>?_)
   ·rw[Af]at hx;obtain⟨o,eo,rfl⟩:=Bj.mp hx;have rsc:=aI sm rs2
    have r:=hA (rdN cws o) (by rw[eo];rfl)
    cases o with
    |none=>
     walk_at "go";refine⟨Wk.set rfl (Wk.refl _),?_⟩;walk_at "go";refine bJN (neg:=false) rsc rfl (bZ _) ?_;rw[if_neg Ao,show aQH none=V.non from rfl,eQQ];walk_at "go";exact r _ (Same.refl _)
    |some cs=>
     have r':∀Hd,Same Hc Hd->A (match (dW cws).findIdx? (λy=>y==lQ (cs.map one)) with|some j=>V.int (j:Int)|none=>.non) Hd:=r
     change lP 0 (V.str (lQ (cs.map one))) _ _ _
     generalize lQ (cs.map one)=z at r' ⊢;walk_at "go";refine⟨Wk.set rfl (Wk.refl _),?_⟩;walk_at "go";refine bJN (neg:=false) rsc rfl (bZ _) ?_;rw[if_neg Ao,dXK];cases e:(dW cws).findIdx? (λy=>y==z) with
     |none=>
      rw[e]at r';rw[decide_eq_false λhm=>by have:=List.findIdx?_eq_none_iff.mp e z hm;simp at this]
      walk_at "go";exact r' _ (Same.refl _)
     |some k=>
      rw[e]at r';obtain⟨k1,k2,k3⟩:=List.findIdx?_eq_some_iff_getElem.mp e;have ez:(dW cws)[k]=z:=eq_of_beq k2
      rw[An (by rw[<-ez];exact Bx _)]
      walk_at "go";refine bJH rsc (by rw[Aa k1,ez]) (λi y hi hy e2=>?_) (r' _ (Same.refl _))
      obtain⟨i1,i2⟩:=Ae.mp hy;have:=k3 i hi
      rw[i2,e2]at this;simp at this
   ·rw[Ab,eR (rdN cws)]at hd3;exact q D3 Hd3 (none_of (sD.trans sD2) hD3) (sD.trans (sD2.trans sD3)) hd3
def jF:Sp:=λvs H Q _=>∃c m:Int,vs=[.int c,.int m]/\0<=m/\m<=1000/\
 ∀(r:Addr) (ns:List Int) (H':Hp),H r=none->Same H H'->ns.length=m.toNat->(∀n∈ns,0<=n)->H' r=some (.lst (ns.map V.int))->Q (.ref r) H'
def kN(K:W.Frag):Sp:=λvs H Q _=>∃(a:Addr) (ns:List Int) (k:Int),vs=[.ref a,.int k]/\SqL K H a (ns.map V.int)/\0<=k/\∀n:Int,Q (.int n) H
def bQ9:FnScope ["_law_script", "_law_k"] ["_law_script", "_law_k"] (aJ rE):=by walk_at "sc"
def bQW(F:Fun K "_law_cell" "_law_cell" rE f fd)(G:Gs K mg w Zu Zz Zv Zx Z0 Zw Zy):FnOk P w K mg base CX0 1 f fd ["_law_script", "_law_k"] (kN K):=by
 refine F.ok bQ9 (λvs H Q E h=>?_) (λcdv A outer s H vs Q E hr h=>?_)
 ·obtain⟨a,ns,k,rfl,_⟩:=h;rfl
 obtain⟨a,ns,k,rfl,hS,h0,q⟩:=h;refine⟨_,(@aE _ _ _ _ _ (cI (aZ xN (mv 1) (aP wN rfl G.b_len bH (aA (mv 0) aB)) (aW _)) (@aH _ _ _ (aY (bF ix_list (mv 0) (mv 1) (λ_ _=>rfl)))) bK) (@aH _ _ _ (aY aK))),?_⟩;walk_at "go";refine⟨_,_,rfl,.inl hS,?_⟩;have hnl:(ns.map V.int).length=ns.length:=Ab ..
 rw[hnl];walk_at "go";refine gS (λhd=>?_) (λhd=>?_)
 ·have hd':=Bg hd
  obtain⟨n,_,an⟩:=cJZ (ns:=ns) (i:=k) h0 hd';walk_at "go";exact eZT hS an (q n)
 ·walk_at "go";exact q 0
def sc_l_stream:FnScope ["_law_cell_here", "_law_many", "_law_number", "_law_found", "_law_k"] ["_law_cell_here", "_law_many"] (aJ mQ):=by walk_at "sc"
def yM(F:Fun K "_law_stream" "_law_stream" mQ f fd)(G:Gs K mg w Zu Zz Zv Zx Z0 Zw Zy):FnOk P w K mg base CX0 1 f fd ["_law_cell_here", "_law_many"] jF:=by
 refine F.ok sc_l_stream (λvs H Q E h=>?_) (λcdv A outer s H vs Q E hr h=>?_)
 ·obtain⟨c,m,rfl,_⟩:=h;rfl
 obtain⟨c,m,rfl,h0,h1,q⟩:=h;refine⟨_,(@aE _ _ _ _ _ (aO 2 sc_l_stream.nd (aS bW (aS gM (mv 0) aK) aK)) (@aE _ _ _ _ _ (aO 3 sc_l_stream.nd (cG aB)) (@aE _ _ _ _ _ (dA Bu rfl (kR rfl G.b_range (aA (mv 1) aB)) (bE (i:=4) sc_l_stream.nd rfl (Or.inl rfl)) (@aE _ _ _ _ _ (aO 2 sc_l_stream.nd (aS gM (aS bW (aS bW (aS bW (aS uZ (mv 2) (mv 2)) (aS uZ aK (mv 2))) (aS uZ aK (mv 4))) aK) aK)) (@aH _ _ _ (dB (bN By Df Dg qW (mv 3) (aA (aS bZX (mv 2) aK) aB)))))) (@aH _ _ _ (aY (mv 3)))))),?_⟩;walk_at "go";refine⟨by decide,λp hp=>?_⟩
 walk_at "go";refine⟨⟨by omega,by omega⟩,?_⟩
 refine sA (λi σ H'=>∃(x:Int) (ns:List Int) (v:Option V),σ=[some (.int c),some (.int m),some (.int x),some (.ref p),v]/\0<=x/\x<2147531918/\ns.length=i/\(∀n∈ns,0<=n)/\H'=upd H p (.lst (ns.map V.int)))
  ⟨_,[],none,rfl,by omega,by omega,rfl,(λn hn=>nomatch hn),rfl⟩ ?_ ?_
 ·rintro i σ H' hi ⟨x,ns,v,rfl,hx0,hx1,hn,hns,rfl⟩;walk_at "go";refine⟨_,ns++[(x*x+48271*x+7*(0+(i:Int))+1)%2147483647 / 64],_,rfl,Gv _ (by decide),?_,?_,?_,?_⟩
  ·have:=Int.emod_lt_of_pos (x*x+48271*x+7*(0+(i:Int))+1) (show (0:Int)<2147483647 by decide)
   omega
  ·rw[Ah,hn];rfl
  ·intro n hn;rcases Bo.mp hn with z|z
   ·exact hns n z
   ·rw[Ap.mp z];have:=Gv (x*x+48271*x+7*(0+(i:Int))+1) (show (2147483647:Int)≠0 by decide)
    omega
  ·rw[yA,Ar];rfl
 ·rintro σ H' ⟨x,ns,v,rfl,hx0,hx1,hn,hns,rfl⟩;walk_at "go";exact q p ns _ hp (aF hp _) hn hns aD
def dX4(z:Str):Prop:=∃ts:List (List Nat),z=bA ts/\1<=ts.length/\ts.length<=5/\∀t∈ts,eL t
def cX6(bk:List (Str×Str)):Prop:=∀b∈bk,dX4 b.2
def dQK(hcw:yT bk cws)(hnd:cws.Nodup)(h:bk.length<=60)(hm:(bk.map (·.2)).Nodup)(ho:cX6 bk):GoodBk bk:=by
 have words:bk.map (·.1)=cws.map aQ:=by
  refine Gk (by rw[Ab,Ab,hcw.1]) λj j1 j2=>?_
  rw[Ab]at j1 j2;rw[Er,Er];exact(hcw.2 j _ _ (Aa j1) (Aa j2)).1
 refine⟨h,?_,hm,λb hb=>?_,ho⟩
 ·rw[words];exact List.pairwise_map.mpr (hnd.imp λhne e=>hne (tB e))
 ·obtain⟨j,hj⟩:=List.mem_iff_getElem?.mp hb;have hl:=(Ae.mp hj).1
  exact⟨_,hcw.2 j b _ hj (Aa (by rw[hcw.1];exact hl))⟩
def dZG:∀z∈(["up", "upon", "on", "o"]:List Str),eL z.cps.toList:=by
 unfold eL cZM;decide +kernel
def bXH{zs:List Str}(h1:1<=zs.length)(h5:zs.length<=5)(h:∀z∈zs,eL z.cps.toList):dX4 (Txt.join (Str.ofString " ") zs):=by
 refine⟨zs.map λz=>z.cps.toList,?_,by rw[Ab];exact h1,by rw[Ab];exact h5,λt ht=>?_⟩
 ·show _=Txt.join (Str.ofString " ") ((zs.map λz=>z.cps.toList).map aQ)
  rw[Cm,show zs.map (aQ ∘ λz=>z.cps.toList)=zs from(Di λz _=>FlT.str_ext (by show (aQ z.cps.toList).cps.toList=_;rw[cR];rfl)).trans (List.map_id zs)]
 ·obtain⟨z,hz,rfl⟩:=Bb.mp ht;exact h z hz
def fQE:∀i,i<9->(Str.ofString "abcdefghijklmnopqrstuvw").cps.toList[i]?=some (97+i):=by decide +kernel
def vw2:∀j,j<2->(Str.ofString "vw").cps.toList[j]?=some (118+j):=by decide +kernel
def eJ0:∀i,i<9->∀m,m<5->Txt.mul ⟨#[97+i]⟩ ((1+m:Nat):Int)=aQ (List.replicate (1+m) (97+i)):=by decide +kernel
def dQF:∀i,i<9->aX (97+i)/\aX (118+i%2):=by unfold aX;decide +kernel
def vN(K:W.Frag):Sp:=λvs H Q _=>∃(a:Addr) (ns:List Int),vs=[.ref a]/\SqL K H a (ns.map V.int)/\
 ∀(r:Addr) (bk:List (Str×Str)) (cws:Q6) (H':Hp),H r=none->Same H H'->BkAt H' r bk->yT bk cws->cws.Nodup->1<=bk.length->bk.length<=9->GoodBk bk->Q (.ref r) H'
def sc_l_book:FnScope ["_law_script", "_law_book_here", "_law_terms", "_law_k", "_law_some", "_law_meaning"] ["_law_script"] (aJ nY):=by walk_at "sc"
def bQ4(F:Fun K "_law_book" "_law_book" nY f fd)(G:Gs K mg w Zu Zz Zv Zx Z0 Zw Zy)(c_l_stream:Cal P w K mg base 1 "_law_stream" ["_law_cell_here", "_law_many"] jF)(c_l_cell:Cal P w K mg base 1 "_law_cell" ["_law_script", "_law_k"] (kN K)):FnOk P w K mg base CX0 2 f fd ["_law_script"] (vN K):=by
 refine F.ok sc_l_book (λvs H Q E h=>?_) (λcdv A outer s H vs Q E hr h=>?_)
 ·obtain⟨a,ns,rfl,_⟩:=h;rfl
 obtain⟨a,ns,rfl,hS,q⟩:=h;refine⟨_,(@aE _ _ _ _ _ (aO 1 sc_l_book.nd (cG aB)) (@aE _ _ _ _ _ (aO 2 sc_l_book.nd (@cG _ _ _ _ (@cU _ _ _ _ _ _ (@cU _ _ _ _ _ _ (@cU _ _ _ _ _ _ (@cU _ _ _ _ _ _ aB)))))) (@aE _ _ _ _ _ (dA Bu rfl (kR rfl G.b_range (aA (aS bW aK (aS gM (aU c_l_cell hr (by decide) rfl (aA (mv 0) (aA aK aB))) aK)) aB)) (bE (i:=3) sc_l_book.nd rfl (Or.inl rfl)) (@aE _ _ _ _ _ (aO 4 sc_l_book.nd (aU c_l_stream hr (by decide) rfl (aA (aS bW (aU c_l_cell hr (by decide) rfl (aA (mv 0) (aA aK aB))) (aS uZ (mv 3) (mv 3))) (aA aK aB)))) (@aE _ _ _ _ _ (aO 5 sc_l_book.nd (bN Bl Fx Fy xI dP (aA (cL rfl (bX (gG aXN (mv 4) xP (eJ (aS bW aK (aS gM (bF bV (mv 4) aK (λ_ _=>rfl)) aK))))) (eF (N:=["_law_number", "_law_terms"]) ["_law_script", "_law_book_here", "_law_terms", "_law_k", "_law_some", "_law_meaning"] (aJ nY) [none,some 2] rfl rfl rfl (λx h=>bO h) (by decide +kernel)) (by decide +kernel) rfl (by decide +kernel) (λ_ _ _ _=>(bE (i:=0) (show List.Nodup (["_law_number", "_law_terms"]:List Str) by decide +kernel) rfl (Or.inl rfl))) (λ_ _ _ _=>cQ) (λ_ _ _ _=>(bF bV (mv 1) (aS gM (mv 0) aK) (λ_ _=>rfl)))) aB))) (@aH _ _ _ (cI (aZ cQD (mv 5) (cL rfl (bX (mv 1)) (lJ (N:=["_law_one"]) (by decide +kernel) (by decide +kernel)) (by decide +kernel) rfl (by decide +kernel) (λ_ _ _ _=>(bE (i:=0) (show List.Nodup (["_law_one"]:List Str) by decide +kernel) rfl (Or.inl rfl))) (λ_ _ _ _=>cQ) (λ_ _ _ _=>(bF bV (mv 0) aK (λ_ _=>rfl)))) (by rfl)) (@aH _ _ _ (dB (bN By Df Dg qW (mv 1) (aA (tM (aA (aS bW (aS eQ3 (bF bV dP (mv 3) (λ_ _=>rfl)) (aS bW aK (aS gM (bF bV (mv 4) aK (λ_ _=>rfl)) aK))) (bF bV dP (aS gM (mv 3) aK) (λ_ _=>rfl))) (aA (mv 5) aB))) aB)))) bK))))) (@aH _ _ _ (aY (mv 1)))))),?_⟩
 walk_at "go";refine⟨by decide,λrb hrb=>?_⟩
 have k1:=aF hrb (.lst [])
 have e1:(upd H rb (.lst [])) rb=some (.lst []):=aD
 generalize upd H rb (.lst [])=H1 at k1 e1 ⊢;walk_at "go";refine⟨by show 4<=sizeLine;decide,λrt hrt=>?_⟩
 have k2:=aF hrt (.lst ((["up", "upon", "on", "o"]:List Str).map V.str))
 have e2:rdL (upd H1 rt (.lst ((["up", "upon", "on", "o"]:List Str).map V.str))) rt=some ((["up", "upon", "on", "o"]:List Str).map V.str):=bU
 change lP 2 (V.ref rt) _ (upd H1 rt (.lst ((["up", "upon", "on", "o"]:List Str).map V.str))) _
 have htl:(["up", "upon", "on", "o"]:List Str).length=4:=rfl
 have hts:∀z∈(["up", "upon", "on", "o"]:List Str),z.length<=4:=by decide +kernel
 have htT:=dZG
 generalize (["up", "upon", "on", "o"]:List Str)=ts at k2 e2 htl hts htT ⊢;have nrt:rt≠rb:=λz=>by rw[z,e1]at hrt;cases hrt
 have s02:=k1.trans k2
 have e12:=k2 _ _ e1
 generalize upd H1 rt (.lst (ts.map V.str))=H2 at k2 e2 s02 e12 ⊢;walk_at "go";refine⟨a,ns,0,rfl,s02.seq hS,by omega,λn0=>?_⟩
 have x0:=Gv n0 (show (7:Int)≠0 by decide)
 have x1:=Int.emod_lt_of_pos n0 (show (0:Int)<7 by decide)
 walk_at "go";obtain⟨n,en,hn9⟩:∃n:Nat,3+n0%7=(n:Int)/\n<=9:=⟨(3+n0%7).toNat,by omega,by omega⟩
 rw[en];refine⟨⟨by omega,by omega⟩,?_⟩
 rw[show ((n:Nat):Int).toNat=n from Ds _];refine sA (λi σ H'=>∃(bk:List (Str×Str)) (cws:Q6) (v3 v4 v5:Option V),σ=[some (.ref a),some (.ref rb),some (.ref rt),v3,v4,v5]/\Same H H'/\rdL H' rt=some (ts.map V.str)/\BkAt H' rb bk/\yT bk cws/\cws.Nodup/\(1<=i->1<=bk.length)/\bk.length<=i/\(bk.map (·.2)).Nodup/\cX6 bk/\∀cw∈cws,∀d r,cw=d::r->d<97+i)
  ⟨[],[],_,_,_,rfl,s02,e2,⟨[],e12,rfl,λj p b hp=>nomatch hp⟩,⟨rfl,λj b cw hb=>nomatch hb⟩,Gf,(λh=>absurd h (by decide)),Aj _,Gf,(λb hb=>nomatch hb),λcw hc=>nomatch hc⟩ ?_ ?_
 ·rintro i σ H4 hi ⟨bk,cws,v3,v4,v5,rfl,s4,et4,hbk,hcw,hnd,hb1,hbl,hmn,hmo,hhd⟩;have hi9:i<9:=by omega
  obtain⟨qs,b1,b2,b3⟩:=id hbk;walk_at "gs"
  with_reducible refine cP ?_
  walk_at "gs";refine⟨a,ns,1,rfl,s4.seq hS,by omega,λn1=>?_⟩
  walk_at "gs";refine⟨_,4,rfl,by omega,by omega,λr5 ms H5 hr5 s5 hml hm0 e5=>?_⟩
  have r5':=aM e5
  have hml4:ms.length=4:=hml
  have m3:ms[3]?=some (ms[3]'(by omega)):=Aa _
  have m2:ms[2]?=some (ms[2]'(by omega)):=Aa _
  have h3:=hm0 _ (Am m3)
  have h2:=hm0 _ (Am m2)
  generalize ms[3]'(by omega)=c3 at m3 h3
  generalize ms[2]'(by omega)=c2 at m2 h2
  walk_at "gs"
  with_reducible refine cP ?_
  walk_at "gs";refine cD r5' (v:=.int c3) (bC (j:=3) (by rw[Af,m3];rfl)) ?_
  walk_at "gs";intro r6 hr6;obtain⟨m,em,hm1,hm3⟩:∃m:Nat,(1+c3%3).toNat=m/\1<=m/\m<=3:=⟨_,rfl,by omega,by omega⟩
  rw[yH (by omega),em,<-Dy]
  have hul:(ms.take m).length=m:=by rw[Bp];omega
  have hu0:∀n∈ms.take m,0<=n:=λn hn=>hm0 n (List.mem_of_mem_take hn)
  have k6:=s5.trans (aF hr6 (.lst ((ms.take m).map V.int)))
  have e6:rdL (upd H5 r6 (.lst ((ms.take m).map V.int))) r6=some ((ms.take m).map V.int):=bU
  have e56:=aI (aF hr6 (.lst ((ms.take m).map V.int))) r5'
  generalize ms.take m=us at hul hu0 k6 e6 e56 ⊢;generalize upd H5 r6 (.lst (us.map V.int))=H6 at k6 e6 e56 ⊢;have hF:∀n:Int,0<=n->atI (ts.map V.str) (n%4)=some (.str (ts.getD (n%4).toNat Str.empty))/\ts.getD (n%4).toNat Str.empty∈ts:=λn hn=>by
   obtain⟨j,ej,hj⟩:∃j:Nat,n%4=(j:Int)/\j<4:=⟨(n%4).toNat,by omega,by omega⟩
   have eg:ts[j]?=some (ts[j]'(by omega)):=Aa _
   have ed:ts.getD j Str.empty=ts[j]'(by omega):=by rw[Ac,eg];rfl
   rw[ej,Ds,ed];exact⟨bC (by rw[Af,eg];rfl),Bx _⟩
  have et6:=aI k6 et4
  walk_at "gs";refine iE (xs:=us.map V.int) (λj=>(us[j]?).map λn=>V.str (ts.getD (n%4).toNat Str.empty)) e6 (by rw[Ab];exact bD (by omega)) (λj x Hc A B hx sm hA hB=>?_) (λD H7 hD sD hd=>?_)
  ·rw[Af]at hx;obtain⟨n,hn,rfl⟩:=Bj.mp hx;walk_at "gs";refine⟨Wk.set rfl (Wk.refl _),?_⟩;walk_at "gs";exact cD (aI sm et6) (hF n (hu0 n (Am hn))).1 (hA _ (by rw[hn];rfl) _ (Same.refl _))
  rw[Ab,eR (λn:Int=>V.str (ts.getD (n%4).toNat Str.empty)),show us.map (λn:Int=>V.str (ts.getD (n%4).toNat Str.empty))=(us.map λn:Int=>ts.getD (n%4).toNat Str.empty).map V.str by rw[Cm];rfl]at hd
  have hzs:∀z∈us.map (λn:Int=>ts.getD (n%4).toNat Str.empty),z∈ts:=λz hz=>by
   obtain⟨n,hn,rfl⟩:=Bb.mp hz;exact(hF n (hu0 n hn)).2
  have hzl:(us.map (λn:Int=>ts.getD (n%4).toNat Str.empty)).length=m:=by rw[Ab,hul]
  generalize us.map (λn:Int=>ts.getD (n%4).toNat Str.empty)=zs at hd hzs hzl;have hmz:=bXH (zs:=zs) (by omega) (by omega) λz hz=>htT z (hzs z hz)
  have hsum:(zs.map (·.length)).sum<=4*zs.length:=by
   clear hd hmz hzl;induction zs with
   |nil=>exact Aj _
   |cons u v ih=>
    have h1:=hts u (hzs u Ak)
    have h2:=ih λx hx=>hzs x (Ai _ hx)
    rw[Aq,Dt,Au];omega
  walk_at "gs";refine aZE (ss:=zs) (aM hd) (by rw[show (Str.ofString " ").length=1 from rfl];omega) ?_
  generalize Txt.join (Str.ofString " ") zs=z at hmz ⊢;have k7:=k6.trans sD
  have s07:=s4.trans k7
  have hbk7:BkAt H7 rb bk:=⟨qs,k7 _ _ b1,b2,λj p b hp hb=>k7 _ _ (b3 j p b hp hb)⟩
  have et7:=aI k7 et4
  have e57:=aI sD e56
  obtain⟨qs',c1,c2',c3'⟩:=id hbk7;have rq:=aM c1
  have hql:(qs'.map V.ref).length=bk.length:=by rw[Ab,c2']
  have keep:∀H9,Same H7 H9->rdL H9 rt=some (ts.map V.str)/\BkAt H9 rb bk:=λH9 k=>⟨aI k et7,⟨qs',k _ _ c1,c2',λj p b hp hb=>k _ _ (c3' j p b hp hb)⟩⟩
  walk_at "gs";refine iE (xs:=qs'.map V.ref) (λj=>(bk[j]?).map λb=>V.str b.2) rq (by rw[hql];exact bD (by omega)) (λj x Hc A B hx sm hA hB=>?_) (λD2 Hd2 hD2 sD2 hd2=>?_)
  ·rw[Af]at hx;obtain⟨p,ep,rfl⟩:=Bj.mp hx;have hjb:j<bk.length:=by rw[<-c2'];exact(Ae.mp ep).1
   have eb:=Aa hjb
   have tp:=sm _ _ (c3' j p _ ep eb)
   walk_at "gs";refine⟨Wk.set rfl (Wk.refl _),?_⟩;walk_at "gs";exact eP tp (v:=.str bk[j].2) (bC (j:=1) rfl) (hA _ (by rw[eb];rfl) _ (Same.refl _))
  rw[hql,eR (λb:Str×Str=>V.str b.2),show bk.map (λb=>V.str b.2)=(bk.map (·.2)).map V.str by rw[Cm];rfl]at hd2
  refine bJN (neg:=true) (aM hd2) rfl (bZ _) ?_;rw[if_pos rfl,dXK];have up1:∀cw∈cws,∀d r,cw=d::r->d<97+(i+1):=λcw hc d r e=>Nat.lt_succ_of_lt (hhd cw hc d r e)
  by_cases hm:z∈bk.map (·.2)
  ·rw[An hm];walk_at "gs";refine⟨bk,cws,_,_,_,rfl,s07.trans sD2,(keep _ sD2).1,(keep _ sD2).2,hcw,hnd,(λ_=>?_),by omega,hmn,hmo,up1⟩
   cases bk with
   |nil=>cases hm
   |cons _ _=>rw[Au];omega
  ·rw[Aw hm];have c1D:=sD2 _ _ c1
   have e5D:=aI sD2 e57
   have rD:=aM c1D
   obtain⟨m5,em5,hm5⟩:∃m5:Nat,1+c2%5=((1+m5:Nat):Int)/\m5<5:=⟨(c2%5).toNat,by omega,by omega⟩
   have h1l:(⟨#[97+i]⟩:Str).length=1:=rfl
   have ei:(0:Int)+(i:Int)=(i:Int):=Int.zero_add _
   have ei2:(i:Int)%2=((i%2:Nat):Int):=by omega
   have hl6:(aQ (List.replicate (1+m5) (97+i))).length<=6:=by rw[dG,Ay];omega
   walk_at "gs";rw[ei];refine zA (by decide) (bC (fQE i hi9)) ?_
   walk_at "gs";refine cD e5D (v:=.int c2) (bC (j:=2) (by rw[Af,m2];rfl)) ?_
   walk_at "gs";rw[em5];refine dJS (by omega) (by omega) (by rw[h1l];decide) ?_
   rw[eJ0 i hi9 m5 hm5];walk_at "gs";rw[ei2];refine zA (by decide) (bC (vw2 _ (Nat.mod_lt _ (by decide)))) ?_
   have h2l:(⟨#[118+i%2]⟩:Str).length=1:=rfl
   walk_at "gs";rw[show aQ (List.replicate (1+m5) (97+i))++(⟨#[118+i%2]⟩:Str)=aQ (List.replicate (1+m5) (97+i)++[118+i%2]) from kM _ _];obtain⟨l1,l2⟩:=dQF i hi9;have hwL:∀d∈List.replicate (1+m5) (97+i)++[118+i%2],aX d:=λd hd=>by
    rcases Bo.mp hd with y|y
    ·rw[(Gz.mp y).2];exact l1
    ·rw[Ap.mp y];exact l2
   have hwl:(List.replicate (1+m5) (97+i)++[118+i%2]).length=m5+2:=by rw[Ah,Ay];show 1+m5+1=_;omega
   have hwh:∃r,List.replicate (1+m5) (97+i)++[118+i%2]=(97+i)::r:=⟨_,by rw[show 1+m5=m5+1 from Nat.add_comm _ _,Ck];rfl⟩
   generalize List.replicate (1+m5) (97+i)++[118+i%2]=cw at hwL hwl hwh ⊢;refine⟨by show 2<=sizeLine;decide,λpt hpt=>?_⟩
   have k8:=aF hpt (.tup [.str (aQ cw),.str z])
   have t8:(upd Hd2 pt (.tup [.str (aQ cw),.str z])) pt=some (.tup [.str (aQ cw),.str z]):=aD
   have s78:=sD2.trans k8
   have c18:=k8 _ _ c1D
   have et8:=(keep _ s78).1
   have c38:∀(j:Nat) p b,qs'[j]?=some p->bk[j]?=some b->(upd Hd2 pt (.tup [.str (aQ cw),.str z])) p=some (.tup [.str b.1,.str b.2]):=λj p b hp hb=>s78 _ _ (c3' j p b hp hb)
   generalize upd Hd2 pt (.tup [.str (aQ cw),.str z])=H8 at k8 t8 s78 c18 et8 c38 ⊢;have m8:=cC c18
   walk_at "gs";have ne:∀p xs,H8 p=some (.tup xs)->p≠rb:=λp xs e z=>by rw[z,c18]at e;cases e
   have hnew:cw∉cws:=λy=>by
    obtain⟨r,er⟩:=hwh;exact Ct _ (hhd cw y _ _ er)
   refine⟨bk++[(aQ cw,z)],cws++[cw],_,_,_,rfl,bL hrb (s07.trans s78),by rw[tG nrt];exact et8,?_,?_,qG hnd hnew,(λ_=>by rw[Ah];show 1<=_+1;omega),by rw[Ah];show _+1<=_;omega,?_,?_,?_⟩
   ·refine⟨qs'++[pt],by rw[aD,Ar];rfl,by rw[Ah,Ah,c2'];rfl,λj p b hp hb=>?_⟩
    rcases Nat.lt_or_ge j qs'.length with zz|zz
    ·rw[Ax zz]at hp;rw[Ax (by omega)]at hb
     have:=c38 j p b hp hb
     rw[aG (ne _ _ this)];exact this
    ·rw[Ba zz]at hp;rw[Ba (by omega)]at hb
     have w1:=(Ae.mp hp).1
     have eu:j-qs'.length=0:=by have:j-qs'.length<1:=w1;omega
     have ev:j-bk.length=0:=by omega
     rw[eu]at hp;rw[ev]at hb;cases hp;cases hb;rw[aG (ne _ _ t8)];exact t8
   ·refine⟨by rw[Ah,Ah,hcw.1];rfl,λj b cw' hb hc=>?_⟩
    rcases Nat.lt_or_ge j bk.length with zz|zz
    ·rw[Ax zz]at hb;rw[Ax (by rw[hcw.1];exact zz)]at hc
     exact hcw.2 j b cw' hb hc
    ·rw[Ba zz]at hb;rw[Ba (by rw[hcw.1];exact zz),hcw.1]at hc
     have w1:=(Ae.mp hb).1
     have eu:j-bk.length=0:=by have:j-bk.length<1:=w1;omega
     rw[eu]at hb hc;cases hb;cases hc;exact⟨rfl,by omega,by omega,hwL⟩
   ·rw[Ar];exact qG hmn hm
   ·intro b hb;rcases Bo.mp hb with y|y
    ·exact hmo b y
    ·rw[Ap.mp y];exact hmz
   ·intro cw' hc d r e;rcases Bo.mp hc with y|y
    ·exact up1 cw' y d r e
    ·obtain⟨r',er⟩:=hwh;rw[Ap.mp y,er]at e;injection e with e1 _
     omega
 ·rintro σ H4 ⟨bk,cws,v3,v4,v5,rfl,s4,et4,hbk,hcw,hnd,hb1,hbl,hmn,hmo,hhd⟩;walk_at "go";exact q rb bk cws H4 hrb s4 hbk hcw hnd (hb1 (by omega)) (by omega) (dQK hcw hnd (by omega) hmn hmo)
def MinTo(mss:List (List (List Nat)))(T:List (List Nat))(TB:List (Option Int))(i j:Nat)(o:Option Int):Prop:=
 (o=none/\∀j',j' < j->j'∈cF mss T i->TB.getD (i+aV mss j') none=none)\/
 ∃m,o=some (1+m)/\(∃j',j' < j/\j'∈cF mss T i/\TB.getD (i+aV mss j') none=some m)/\∀j',j' < j->j'∈cF mss T i->∀a,TB.getD (i+aV mss j') none=some a->m<=a
def MinTo.skip{o:Option Int}(h:MinTo mss T TB i j o)(hn:j∈cF mss T i->TB.getD (i+aV mss j) none=none):MinTo mss T TB i (j+1) o:=by
 rcases h with⟨h1,h2⟩|⟨m,h1,⟨j0,a,b,c⟩,h3⟩
 ·refine .inl ⟨h1,λj' hj hs=>?_⟩;by_cases e:j'=j
  ·subst e;exact hn hs
  ·exact h2 j' (by omega) hs
 ·refine .inr ⟨m,h1,⟨j0,by omega,b,c⟩,λj' hj hs a ha=>?_⟩
  by_cases e:j'=j
  ·subst e;rw[hn hs]at ha;cases ha
  ·exact h3 j' (by omega) hs a ha
def MinTo.stay{m a:Int}(h:MinTo mss T TB i j (some m))(hn:TB.getD (i+aV mss j) none=some a)(hm:¬a+1<m):MinTo mss T TB i (j+1) (some m):=by
 rcases h with⟨h1,_⟩|⟨m0,h1,⟨j0,u,b,c⟩,h3⟩
 ·cases h1
 ·cases h1;refine .inr ⟨m0,rfl,⟨j0,by omega,b,c⟩,λj' hj hs a' ha=>?_⟩
  by_cases e:j'=j
  ·subst e;rw[hn]at ha;cases ha;omega
  ·exact h3 j' (by omega) hs a' ha
def MinTo.put{a:Int}{o:Option Int}(h:MinTo mss T TB i j o)(hs:j∈cF mss T i)(hn:TB.getD (i+aV mss j) none=some a)(hm:∀m,o=some m->a+1<m):MinTo mss T TB i (j+1) (some (a+1)):=by
 refine .inr ⟨a,by rw[Int.add_comm],⟨j,Nat.lt_succ_self _,hs,hn⟩,λj' hj hs' b hb=>?_⟩
 by_cases e:j'=j
 ·subst e;rw[hn]at hb;cases hb;exact Hw _
 ·rcases h with⟨_,h2⟩|⟨m0,h1,_,h3⟩
  ·rw[h2 j' (by omega) hs']at hb;cases hb
  ·have:=h3 j' (by omega) hs' b hb
   have:=hm _ h1
   omega
def MinTo.row(hL:oR mss){o:Option Int}(h:MinTo mss T TB i mss.length o)(hi:i<TB.length):jZ mss T (TB.set i o) i:=by
 have ebe:jR mss T (TB.set i o) i=jR mss T TB i:=kH hL λk hk=>by rw[dL hi,if_neg (by omega)]
 unfold jZ knL;rw[ebe,dL hi,if_pos rfl];have mem:∀a,a∈(jR mss T TB i).filterMap id ↔ ∃j∈cF mss T i,TB.getD (i+aV mss j) none=some a:=λa=>by
  constructor
  ·intro h;obtain⟨o',ho,e⟩:=Bv.mp h;have e2:o'=some a:=e
   obtain⟨j,hj,ej⟩:=Bb.mp ho;exact⟨j,hj,ej.trans e2⟩
  ·rintro⟨j,hj,e⟩;exact Bv.mpr ⟨some a,Bb.mpr ⟨j,hj,e⟩,rfl⟩
 rcases h with⟨h1,h2⟩|⟨m,h1,⟨j0,u,b,c⟩,h3⟩
 ·refine .inl ⟨List.eq_nil_iff_forall_not_mem.mpr λa ha=>?_,h1⟩;obtain⟨j,hj,e⟩:=(mem a).mp ha;rw[h2 j (bP hj).1 hj]at e;cases e
 ·refine .inr ⟨m,(mem m).mpr ⟨j0,b,c⟩,λa ha=>?_,h1⟩;obtain⟨j,hj,e⟩:=(mem a).mp ha;exact h3 j (bP hj).1 hj a e
def lR:Sp:=λvs H Q _=>∃(rb:Addr) (bk:List (Str×Str)) (mss:List (List (List Nat))) (T:List (List Nat)),vs=[.ref rb,.str (bA T)]/\BkAt H rb bk/\bk.length<=60/\cK bk mss/\1<=T.length/\T.length<=40/\(∀t∈T,eL t)/\
 ∀(r:Addr) (TB:List (Option Int)) (H':Hp),H r=none->Same H H'->H' r=some (.lst (TB.map tV))->TabOk mss T TB->Q (.ref r) H'
def sc_l_walks:FnScope ["_law_book_here", "_law_text", "_law_terms", "_law_least", "_law_at", "_law_word", "_law_meaning", "_law_behind"] ["_law_book_here", "_law_text"] (aJ oF):=by walk_at "sc"
def aQ5(F:Fun K "_law_walks" "_law_walks" oF f fd)(G:Gs K mg w Zu Zz Zv Zx Z0 Zw Zy):FnOk P w K mg base CX0 1 f fd ["_law_book_here", "_law_text"] lR:=by
 refine F.ok sc_l_walks (λvs H Q E h=>?_) (λcdv A outer s H vs Q E hr h=>?_)
 ·obtain⟨rb,bk,mss,T,rfl,_⟩:=h;rfl
 obtain⟨rb,bk,mss,T,rfl,hbk,h60,hms,hT1,h40,hTT,q⟩:=h;refine⟨_,(@aE _ _ _ _ _ (aO 2 sc_l_walks.nd (bN Bl Co Cp eV (mv 1) (@cU _ _ _ _ _ _ aB))) (@aE _ _ _ _ _ (aO 3 sc_l_walks.nd (aS bW (aS oH (cG (aA cZ aB)) (aP bS rfl G.b_len bH (aA (mv 2) aB))) (cG (aA aK aB)))) (@aE _ _ _ _ _ (dA Bu rfl (uO rfl G.b_range (aA (aS kW (aP bS rfl G.b_len bH (aA (mv 2) aB)) aK) (aA (aJ4 aJK aK) (aA (aJ4 aJK aK) aB)))) (bE (i:=4) sc_l_walks.nd rfl (Or.inl rfl)) (@aH _ _ _ (dA Bu rfl (bX (mv 0)) (fA (K:=K) (i:=5) (j:=6) (by rfl) (by rfl) sc_l_walks.nd (by rfl) (by exact(Or.inl rfl)) (by exact Or.inl rfl) (by rfl) (by exact(Or.inl rfl)) (by exact Or.inl rfl)) (@aE _ _ _ _ _ (aO 7 sc_l_walks.nd (aS bW (mv 4) (aP bS rfl G.b_len bH (aA (bN Bl Co Cp eV (mv 6) (@cU _ _ _ _ _ _ aB)) aB)))) (@aH _ _ _ (cI (PW.pt (rO (aZ (sQ hr.units0) (gG aXN (mv 2) (eJ (mv 4)) (eJ (mv 7))) (bN Bl Co Cp eV (mv 6) (@cU _ _ _ _ _ _ aB)) (aW _)) (rO (aZ eQW (mv 7) (aP bS rfl G.b_len bH (aA (mv 2) aB)) (aW _)) (wJ (aZ qY (bF bV (mv 3) (mv 7) (λ_ _=>rfl)) cZ (aW _)))))) (@aH _ _ _ (cI (PW.pt (pP (aZ cZA (bF bV (mv 3) (mv 4) (λ_ _=>rfl)) cZ (aW _)) (jW (aZ xN (aS bW (bF bV (mv 3) (mv 7) (λ_ _=>rfl)) aK) (bF bV (mv 3) (mv 4) (λ_ _=>rfl)) (aW _))))) (@aH _ _ _ (cQK (aS bW (bF bV (mv 3) (mv 7) (λ_ _=>rfl)) aK) (bJF (mv 3) (mv 4) yX))) bK)) bK)))))) (@aH _ _ _ (aY (mv 3)))))),?_⟩
 have hL:=qI hms h60
 have htl:((T.map aQ).map V.str).length=T.length:=by rw[Ab,Ab]
 have hTm:=eC T hTT
 walk_at "go";refine eX rfl (by omega) λrt hrt=>?_
 rw[show Txt.split (bA T) (Str.ofString " ")=T.map aQ from cS hT1 hTT];have sS:=aF hrt (.lst ((T.map aQ).map V.str))
 have hTt:(upd H rt (.lst ((T.map aQ).map V.str))) rt=some (.lst ((T.map aQ).map V.str)):=aD
 have hbk:=hbk.keep sS
 generalize upd H rt (.lst ((T.map aQ).map V.str))=HS at sS hTt hbk ⊢;have q':∀(r:Addr) (TB:List (Option Int)) (H':Hp),HS r=none->Same HS H'->H' r=some (.lst (TB.map tV))->TabOk mss T TB->Q (.ref r) H':=λr TB H' a b c d=>q r TB H' (none_of sS a) (sS.trans b) c d
 clear q;have rT:=aM hTt
 obtain⟨qs,b1,b2,b3⟩:=id hbk;have rq:=aM b1
 have hql:(qs.map V.ref).length=bk.length:=by rw[Ab,b2]
 walk_at "go";refine⟨by show 1<=sizeLine;decide,λp0 hp0=>?_⟩
 have s0:=aF hp0 (.lst [V.non])
 have e0:(upd HS p0 (.lst [V.non])) p0=some (.lst [V.non]):=aD
 generalize upd HS p0 (.lst [V.non])=H0 at s0 e0 ⊢;have rT0:=aI s0 rT
 walk_at "go";rw[htl];refine⟨p0,_,[V.non],rfl,rfl,e0,by omega,by omega,by show 1*((T.length:Int)).toNat<=sizeLine;exact bJ (by omega),λp1 hp1=>?_⟩
 have er:(List.replicate ((T.length:Int)).toNat [V.non]).flatten=(List.replicate T.length (none:Option Int)).map tV:=by
  rw[show ((T.length:Int)).toNat=T.length from rfl];generalize T.length=n;induction n with
  |zero=>rfl
  |succ n ih=>rw[Ck,Ci,ih,Ck,Aq];rfl
 rw[er];have s1:=s0.trans (aF hp1 (.lst ((List.replicate T.length (none:Option Int)).map tV)))
 have e1:(upd H0 p1 (.lst ((List.replicate T.length (none:Option Int)).map tV))) p1=_:=aD
 generalize upd H0 p1 (.lst ((List.replicate T.length (none:Option Int)).map tV))=H1 at s1 e1 ⊢;walk_at "go";refine⟨by show 1<=sizeLine;decide,λp2 hp2=>?_⟩
 have n2:p1≠p2:=bG e1 hp2
 refine jN (xs:=(List.replicate T.length (none:Option Int)).map tV) (ys:=[V.int 0]) (by rw[nQ n2];exact cC e1) cX (bJ (by rw[Ab,Ay];show _+1<=_;omega)) λtb htb=>?_
 rw[show (List.replicate T.length (none:Option Int)).map tV++[V.int 0]=(List.replicate T.length (none:Option Int)++[some 0]).map tV by rw[Ar];rfl]
 have htbH:HS tb=none:=none_of (s1.trans (aF hp2 _)) htb
 have s3:=s1.trans ((aF hp2 (.lst [V.int 0])).trans (aF htb (.lst ((List.replicate T.length (none:Option Int)++[some 0]).map tV))))
 have e3:(upd (upd H1 p2 (.lst [V.int 0])) tb (.lst ((List.replicate T.length (none:Option Int)++[some 0]).map tV))) tb=_:=aD
 generalize upd (upd H1 p2 (.lst [V.int 0])) tb (.lst ((List.replicate T.length (none:Option Int)++[some 0]).map tV))=H3 at s3 e3 ⊢;have rT3:=aI s3 rT
 walk_at "go";rw[htl];refine⟨by omega,?_⟩
 rw[show oS ((T.length:Int)-1) (-1)=T.length by unfold oS;omega]
 have s3':=s3
 have e3':=e3
 have ini:∀k,(List.replicate T.length (none:Option Int)++[some 0]).getD k none=if k=T.length then some 0 else none:=λk=>by
  rw[Ac];by_cases h1:k<T.length
  ·rw[Ax (by rw[Ay];exact h1),Dw,if_pos h1,if_neg (by omega)]
   rfl
  ·rw[Ba (by rw[Ay];omega),Ay]
   by_cases h2:k=T.length
   ·subst h2;rw[if_pos rfl,Gj];rfl
   ·rw[if_neg h2,Ew (by show 1<=_;omega)];rfl
 refine vT (λt σ H'=>∃(TB:List (Option Int)) (v3 v4 v5 v7:Option V),σ=[some (.ref rb),some (.str (bA T)),some (.ref rt),some (.ref tb),v3,v4,v5,v7]/\Same HS H'/\H' tb=some (.lst (TB.map tV))/\TB.length=T.length+1/\TB.getD T.length none=some 0/\(∀k v,TB.getD k none=some v->0<=v/\v<=(t:Int))/\(∀i,T.length<=i+t->i<T.length->jZ mss T TB i)/\∀i,i+t<T.length->TB.getD i none=none)
  ⟨List.replicate T.length none++[some 0],_,_,_,_,rfl,s3',e3',by rw[Ah,Ay];rfl,by rw[ini,if_pos rfl],λk v hv=>?_,λi h1 h2=>absurd h1 (by omega),λi hi=>by rw[ini,if_neg (by omega)]⟩ ?_ ?_
 ·rw[ini]at hv;split at hv
  ·cases hv;omega
  ·cases hv
 ·rintro t σ H4 ht ⟨TB,v3,v4,v5,v7,rfl,s4,e4,hlen,hlast,hsm,fO,hnone⟩;obtain⟨st,hst⟩:∃st:Nat,st+t+1=T.length:=⟨T.length-1-t,by omega⟩
  rw[show (T.length:Int)-1+(t:Int)*(-1)=(st:Int) by omega]
  have rq4:=aI s4 rq
  have hst1:st<TB.length:=by omega
  walk_at "go";refine gN (xs:=qs.map V.ref) (λj σ H'=>∃(o:Option Int) (v4 v5 v7:Option V),σ=[some (.ref rb),some (.str (bA T)),some (.ref rt),some (.ref tb),some (.int (st:Int)),v4,v5,v7]/\Same HS H'/\H' tb=some (.lst ((TB.set st o).map tV))/\MinTo mss T TB st j o)
   ⟨none,_,_,_,rfl,s4,?_,.inl ⟨rfl,λj' hj=>absurd hj (Fs _)⟩⟩ (λj σ H' _ ⟨_,_,_,_,_,e,_⟩=>aI e rq) ?_ ?_
  ·rw[show TB.set st none=TB from ?_]
   ·exact e4
   ·have:=hnone st (by omega)
    rw[Ac,Aa hst1]at this;refine Gk (Dq ..) λk k1 k2=>?_;rw[List.getElem_set];by_cases e:st=k
    ·subst e;rw[if_pos rfl];exact this.symm
    ·rw[if_neg e]
  ·rintro j x σ H5 hx ⟨o,v4,v5,v7,rfl,s5,e5,hmin⟩;rw[Af]at hx;obtain⟨p,ep,rfl⟩:=Bj.mp hx;have hjb:j<bk.length:=by rw[<-b2];exact(Ae.mp ep).1
   have hjm:j<mss.length:=by rw[hms.1];exact hjb
   obtain⟨hmn,hm1,hm5,hmt⟩:=hms.2 j _ _ (Aa hjb) (Aa hjm);have hml:mss[j].length=aV mss j:=by unfold aV;rw[dR (Aa hjm)]
   have tt5:=eE (s5 _ _ (b3 j p _ ep (Aa hjb)))
   have hmb:=eC mss[j] hmt
   have hSt:dF mss T st j ↔ (T.drop st).take (aV mss j)=mss[j]:=by unfold dF;rw[dR (Aa hjm)]
   walk_at "go";rw[hmn];refine eX rfl (by omega) λq6 hq6=>?_
   rw[show Txt.split (bA mss[j]) (Str.ofString " ")=mss[j].map aQ from cS hm1 hmt];have s6:=s5.trans (aF hq6 (.lst ((mss[j].map aQ).map V.str)))
   have r66:rdL (upd H5 q6 (.lst ((mss[j].map aQ).map V.str))) q6=some ((mss[j].map aQ).map V.str):=bU
   have e6:=aF hq6 (.lst ((mss[j].map aQ).map V.str)) _ _ e5
   generalize upd H5 q6 (.lst ((mss[j].map aQ).map V.str))=H6 at s6 r66 e6 ⊢;have hl6:((mss[j].map aQ).map V.str).length=aV mss j:=by rw[Ab,Ab,hml]
   have rT6:=aI s6 rT
   walk_at "go";rw[hl6];intro r7 hr7;rw[tF (by rw[htl];omega),<-Eg,<-Eg,<-Dy,<-Dy]
   have k7:=aF hr7 (.lst ((((T.drop st).take (aV mss j)).map aQ).map V.str))
   have r77:rdL (upd H6 r7 (.lst ((((T.drop st).take (aV mss j)).map aQ).map V.str))) r7=some ((((T.drop st).take (aV mss j)).map aQ).map V.str):=bU
   generalize upd H6 r7 (.lst ((((T.drop st).take (aV mss j)).map aQ).map V.str))=H7' at k7 r77 ⊢;walk_at "go";refine eX rfl (by omega) λq8 hq8=>?_
   rw[show Txt.split (bA mss[j]) (Str.ofString " ")=mss[j].map aQ from cS hm1 hmt];have k8:=aF hq8 (.lst ((mss[j].map aQ).map V.str))
   refine nZ (aI k8 r77) bU (bZ _) (bZ _) ?_;rw[if_neg Ao,oG];have s7:=s6.trans (k7.trans k8)
   have e7:=(k7.trans k8) _ _ e6
   generalize upd H7' q8 (.lst ((mss[j].map aQ).map V.str))=H7 at k8 s7 e7 ⊢;by_cases hS:(T.drop st).take (aV mss j)=mss[j]
   ·rw[An (Dk (List.map aQ) hS)];have hmem:j∈cF mss T st:=Cr.mpr ⟨Cb.mpr hjm,An (hSt.mpr hS)⟩
    have hle:=gH (bP hmem).2 (show st<=T.length by omega)
    have hj1:=(fX hL hjm).1
    have r7':=aM e7
    have hsl:(TB.set st o).length=TB.length:=Dq ..
    have abe:atI ((TB.set st o).map tV) ((st:Int)+(aV mss j:Int))=some (tV (TB.getD (st+aV mss j) none)):=by
     rw[show (st:Int)+(aV mss j:Int)=((st+aV mss j:Nat):Int) by omega,pM (by omega),dL hst1,if_neg (by omega)]
    have ast:atI ((TB.set st o).map tV) (st:Int)=some (tV o):=by rw[pM (by omega),dL hst1,if_pos rfl]
    have rT7:=aI s7 rT
    walk_at "go";rw[htl,An (show (st:Int)+(aV mss j:Int)<=(T.length:Int) by omega)]
    walk_at "go";refine cD r7' abe ?_;cases ob:TB.getD (st+aV mss j) none with
    |none=>
     walk_at "go";exact⟨o,_,_,_,rfl,s7,e7,hmin.skip λ_=>ob⟩
    |some b=>
     rw[ob]at abe;have hbb:=hsm _ _ ob
     have abe':atI ((TB.set st o).map tV) ((st:Int)+(aV mss j:Int))=some (.int b):=abe
     have sib:∀n:Int,decide (tV (some n)=V.non)=false:=λn=>Aw λz=>nomatch z
     have mst:=cC e7
     have fin:(∀m,o=some m->b+1<m)->∃o':Option Int,(upd H7 tb (.lst ((TB.set st (some (b+1))).map tV))) tb=some (.lst ((TB.set st o').map tV))/\MinTo mss T TB st (j+1) o':=λhm=>⟨some (b+1),aD,hmin.put hmem ob hm⟩
     have hsx:((TB.set st o).map tV).set st (.int (b+1))=(TB.set st (some (b+1))).map tV:=by
      rw[show V.int (b+1)=tV (some (b+1)) from rfl,<-List.map_set,List.set_set]
     walk_at "go";rw[sib];walk_at "go";refine cD r7' ast ?_;cases o with
     |none=>
      walk_at "go";rw[show decide (tV none=V.non)=true from An rfl];walk_at "go";refine cD r7' abe' ?_;walk_at "go";refine cQT (o:=.non) mst (aXO (by omega) (by rw[Ab];omega)) ?_
      rw[show ((st:Nat):Int).toNat=st from rfl,hsx];walk_at "go";obtain⟨o',f1,f2⟩:=fin λm hm=>nomatch hm
      exact⟨o',_,_,_,rfl,bL htbH s7,f1,f2⟩
     |some m=>
      walk_at "go";rw[sib];walk_at "go";refine cD r7' abe' ?_;walk_at "go";refine cD r7' (v:=.int m) ast ?_;walk_at "go";refine gS (λhg=>?_) (λhg=>?_)
      ·walk_at "go";refine cD r7' abe' ?_;walk_at "go";refine cQT (o:=.int m) mst (aXO (by omega) (by rw[Ab];omega)) ?_
       rw[show ((st:Nat):Int).toNat=st from rfl,hsx];walk_at "go";obtain⟨o',f1,f2⟩:=fin λm' hm=>by cases hm;exact Bg hg
       exact⟨o',_,_,_,rfl,bL htbH s7,f1,f2⟩
      ·walk_at "go";exact⟨some m,_,_,_,rfl,s7,e7,hmin.stay ob λz=>hg (An z)⟩
   ·rw[Aw (λz=>hS (iQ z))];walk_at "go";exact⟨o,_,_,_,rfl,s7,e7,hmin.skip λz=>absurd (hSt.mp (bP z).2) hS⟩
  ·rintro σ H5 ⟨o,v4,v5,v7,rfl,s5,e5,hmin⟩;rw[hql,<-hms.1]at hmin;have gd:∀k,k≠st->TB.getD k none=(TB.set st o).getD k none:=λk hk=>by rw[dL hst1,if_neg hk]
   refine⟨TB.set st o,_,_,_,_,rfl,s5,e5,by rw[Dq];exact hlen,by rw[<-gd _ (by omega)];exact hlast,λk v hv=>?_,λi h1 h2=>?_,λi hi=>by rw[<-gd _ (by omega)];exact hnone i (by omega)⟩
   ·by_cases ek:k=st
    ·subst ek;rw[dL hst1,if_pos rfl]at hv;subst hv;rcases hmin with⟨z,_⟩|⟨m,z,⟨j0,_,_,c⟩,_⟩
     ·cases z
     ·cases z;have:=hsm _ _ c
      omega
    ·rw[<-gd k ek]at hv;have:=hsm k v hv
     omega
   ·by_cases ei:i=st
    ·subst ei;exact hmin.row hL hst1
    ·exact uY hL (λk hk=>gd k (by omega)) (fO i (by omega) h2)
 ·rintro σ H4 ⟨TB,v3,v4,v5,v7,rfl,s4,e4,hlen,hlast,hsm,fO,hnone⟩;walk_at "go";exact q' tb TB H4 htbH s4 e4 ⟨hlen,hlast,λk n hn=>by have:=hsm k n hn;omega,λi hi=>fO i (by omega) hi⟩
def wZ(a:Int){n:Nat}(h:1<=n):∃y:Nat,a%(n:Int)=(y:Int)/\y<n:=by
 have x0:=Gv a (show ((n:Nat):Int)≠0 by omega)
 have x1:=Int.emod_lt_of_pos a (show (0:Int)<(n:Int) by omega)
 exact⟨(a%(n:Int)).toNat,(Int.toNat_of_nonneg x0).symm,by omega⟩
def aQY(a:Int){n:Nat}(h:1<=n):∃y:Nat,1+a%(n:Int)=(y:Int)/\1<=y/\y<=n:=by
 obtain⟨y,e,l⟩:=wZ a h;exact⟨1+y,by rw[e];rfl,Fj ..,by omega⟩
def fF(mss:List (List (List Nat)))(T:List (List Nat))(TB:List (Option Int))(i j:Nat):List Nat:=(List.range j).filter λk=>decide (k∈cF mss T i)&&(TB.getD (i+aV mss k) none).isSome
def bX3(ok:TabOk mss T TB)(hi:i<T.length){v:Int}(hv:TB.getD i none=some v):1<=(fF mss T TB i mss.length).length:=by
 rcases ok.row i hi with⟨_,h⟩|⟨m,hm,_,_⟩
 ·rw[h]at hv;cases hv
 ·unfold knL at hm;obtain ⟨o,ho,e⟩:=Bv.mp hm;unfold jR at ho;obtain ⟨j,hj,ej⟩:=Bb.mp ho;have:j∈fF mss T TB i mss.length:=Cr.mpr ⟨Cb.mpr (bP hj).1,by
   rw[An hj,ej];have e2:o=some m:=e
   rw[e2];rfl⟩
  exact List.length_pos_iff.mpr λz=>by rw[z]at this;cases this
def dQD(h:k∈fF mss T TB i j):k∈cF mss T i/\∃v,TB.getD (i+aV mss k) none=some v:=by
 have:=(Cr.mp h).2
 rw[Eo,Bw]at this;exact⟨this.1,Dc.mp this.2⟩
def oI:fF mss T TB i (j+1)=fF mss T TB i j++(if (decide (j∈cF mss T i)&&(TB.getD (i+aV mss j) none).isSome)=true then [j] else []):=by
 unfold fF;rw[Cv,Ee];congr 1
 rw[Ef];rfl
def rR(K:W.Frag):Sp:=λvs H Q _=>∃(rb a:Addr) (bk:List (Str×Str)) (mss:List (List (List Nat))) (T:List (List Nat)) (ns:List Int) (n0:Nat),vs=[.ref rb,.str (bA T),.ref a]/\BkAt H rb bk/\bk.length<=60/\cK bk mss/\1<=T.length/\T.length<=40/\(∀t∈T,eL t)/\Cov mss T 0 n0/\SqL K H a (ns.map V.int)/\
 ∀(r:Addr) (ks:List Nat) (H':Hp),H r=none->Same H H'->H' r=some (.lst (ks.map λk=>V.int ((k:Nat):Int)))->cO mss ks=T->(∀k∈ks,k<mss.length)->Q (.ref r) H'
def sc_l_other:FnScope ["_law_book_here", "_law_text", "_law_script", "_law_terms", "_law_least", "_law_found", "_law_at", "_law_ways", "_law_k", "_law_behind", "_law_one"] ["_law_book_here", "_law_text", "_law_script"] (aJ pE):=by walk_at "sc"
def aQ4(F:Fun K "_law_other" "_law_other" pE f fd)(G:Gs K mg w Zu Zz Zv Zx Z0 Zw Zy)(c_l_walks:Cal P w K mg base 1 "_law_walks" ["_law_book_here", "_law_text"] lR)(c_l_cell:Cal P w K mg base 1 "_law_cell" ["_law_script", "_law_k"] (kN K)):FnOk P w K mg base CX0 2 f fd ["_law_book_here", "_law_text", "_law_script"] (rR K):=by
 refine F.ok sc_l_other (λvs H Q E h=>?_) (λcdv A outer s H vs Q E hr h=>?_)
 ·obtain⟨rb,a,bk,mss,T,ns,n0,rfl,_⟩:=h;rfl
 obtain⟨rb,a,bk,mss,T,ns,n0,rfl,hbk,h60,hms,hT1,h40,hTT,hcov,hS,q⟩:=h;refine⟨_,(@aE _ _ _ _ _ (aO 3 sc_l_other.nd (bN Bl Co Cp eV (mv 1) (@cU _ _ _ _ _ _ aB))) (@aE _ _ _ _ _ (aO 4 sc_l_other.nd (aU c_l_walks hr (by decide) rfl (aA (mv 0) (aA (mv 1) aB)))) (@aE _ _ _ _ _ (aO 5 sc_l_other.nd (cG aB)) (@aE _ _ _ _ _ (aO 6 sc_l_other.nd aK) (@aE _ _ _ _ _ (mW Bu (aZ xN (mv 6) (aP bS rfl G.b_len bH (aA (mv 3) aB)) (aW _)) (@aE _ _ _ _ _ (aO 7 sc_l_other.nd (cG aB)) (@aE _ _ _ _ _ (dA Bu rfl (kR rfl G.b_range (aA (aP bS rfl G.b_len bH (aA (mv 0) aB)) aB)) (bE (i:=8) sc_l_other.nd rfl (Or.inl rfl)) (@aE _ _ _ _ _ (aO 9 sc_l_other.nd (aS bW (mv 6) (aP bS rfl G.b_len bH (aA (bN Bl Co Cp eV (bF bV (bF bV (mv 0) (mv 8) (λ_ _=>rfl)) aK (λ_ _=>rfl)) (@cU _ _ _ _ _ _ aB)) aB)))) (@aH _ _ _ (cI (PW.pt (rO (aZ (sQ hr.units0) (gG aXN (mv 3) (eJ (mv 6)) (eJ (mv 9))) (bN Bl Co Cp eV (bF bV (bF bV (mv 0) (mv 8) (λ_ _=>rfl)) aK (λ_ _=>rfl)) (@cU _ _ _ _ _ _ aB)) (aW _)) (rO (aZ eQW (mv 9) (aP bS rfl G.b_len bH (aA (mv 3) aB)) (aW _)) (wJ (aZ qY (bF bV (mv 4) (mv 9) (λ_ _=>rfl)) cZ (aW _)))))) (@aH _ _ _ (dB (bN By Df Dg qW (mv 7) (aA (mv 8) aB)))) bK)))) (@aE _ _ _ _ _ (aO 10 sc_l_other.nd (bF bV (mv 7) (aS gM (aU c_l_cell hr (by decide) rfl (aA (mv 2) (aA (aS bW aK (aP bS rfl G.b_len bH (aA (mv 5) aB))) aB))) (aP bS rfl G.b_len bH (aA (mv 7) aB))) (λ_ _=>rfl))) (@aE _ _ _ _ _ (dB (bN By Df Dg qW (mv 5) (aA (mv 10) aB))) (@aH _ _ _ (aO 6 sc_l_other.nd (aS bW (mv 6) (aP bS rfl G.b_len bH (aA (bN Bl Co Cp eV (bF bV (bF bV (mv 0) (mv 10) (λ_ _=>rfl)) aK (λ_ _=>rfl)) (@cU _ _ _ _ _ _ aB)) aB)))))))))) (@aH _ _ _ (aY (mv 5)))))))),?_⟩
 have hL:=qI hms h60
 have htl:((T.map aQ).map V.str).length=T.length:=by rw[Ab,Ab]
 have hTm:=eC T hTT
 walk_at "go";refine eX rfl (by omega) λrt hrt=>?_
 rw[show Txt.split (bA T) (Str.ofString " ")=T.map aQ from cS hT1 hTT];have k1:=aF hrt (.lst ((T.map aQ).map V.str))
 have eT:(upd H rt (.lst ((T.map aQ).map V.str))) rt=some (.lst ((T.map aQ).map V.str)):=aD
 generalize upd H rt (.lst ((T.map aQ).map V.str))=H1 at k1 eT ⊢;walk_at "go";refine⟨rb,bk,mss,T,rfl,hbk.keep k1,h60,hms,hT1,h40,hTT,λtl TB H2 htl2 s2 etl ok=>?_⟩;have s02:=k1.trans s2
 have eT2:=s2 _ _ eT
 walk_at "go";refine⟨by decide,λrf hrf=>?_⟩
 have k3:=aF hrf (.lst [])
 have ef:(upd H2 rf (.lst [])) rf=some (.lst []):=aD
 generalize upd H2 rf (.lst [])=H3 at k3 ef ⊢;have s03:=s02.trans k3
 have rT3:=aM (k3 _ _ eT2)
 obtain⟨m0,_,hv0⟩:=(xM hL ok T.length 0 (by omega)).1 _ hcov
 walk_at "go";refine⟨λm σ H'=>∃(i:Nat) (ks:List Nat) (v7 v8 v9 v10:Option V),σ=[some (.ref rb),some (.str (bA T)),some (.ref a),some (.ref rt),some (.ref tl),some (.ref rf),some (.int (i:Int)),v7,v8,v9,v10]/\m+i=T.length/\Same H2 H'/\H' rf=some (.lst (ks.map λk=>V.int ((k:Nat):Int)))/\cO mss ks=T.take i/\(∀k∈ks,k<mss.length)/\ks.length<=i/\∃v,TB.getD i none=some v,
  ⟨T.length,0,[],_,_,_,_,rfl,by omega,k3,ef,rfl,(λk hk=>nomatch hk),Aj _,_,hv0⟩,?_⟩
 rintro m0' σ H4 ⟨i,ks,v7,v8,v9,v10,rfl,hmi,s4,ef4,hfl,hkl,hkn,v,hv⟩;have rT4:=aM (s4 _ _ eT2)
 walk_at "go";rw[htl];by_cases hi:i<T.length
 ·rw[An (show (i:Int)<((T.length:Nat):Int) by omega)]
  walk_at "go";obtain⟨N,hN⟩:∃N:List (Option V)->Hp->Prop,N=λσ H'=>∃(i':Nat) (ks':List Nat) (v7 v8 v9 v10:Option V),σ=[some (.ref rb),some (.str (bA T)),some (.ref a),some (.ref rt),some (.ref tl),some (.ref rf),some (.int (i':Int)),v7,v8,v9,v10]/\i<i'/\i'<=T.length/\Same H2 H'/\H' rf=some (.lst ((ks').map λk=>V.int ((k:Nat):Int)))/\cO mss ks'=T.take i'/\(∀k∈ks',k<mss.length)/\ks'.length<=i'/\∃v,TB.getD i' none=some v:=⟨_,rfl⟩;refine⟨N,λσ' H' hn=>?_,?_⟩
  ·rw[hN]at hn;obtain⟨i',ks',w7,w8,w9,w10,r,r1,r2,r3,r4,r5,r6,r7,r8⟩:=hn;exact⟨T.length-i',by omega,i',ks',w7,w8,w9,w10,r,by omega,r3,r4,r5,r6,r7,r8⟩
  walk_at "gs"
  with_reducible refine cP ?_
  walk_at "gs";refine⟨by decide,λrw' hrw=>?_⟩
  have k5:=s4.trans (aF hrw (.lst []))
  have ew5:(upd H4 rw' (.lst [])) rw'=some (.lst []):=aD
  have ef5:=aF hrw (.lst []) _ _ ef4
  have hrw2:H2 rw'=none:=none_of s4 hrw
  generalize upd H4 rw' (.lst [])=H5 at k5 ew5 ef5 ⊢;obtain⟨qs,b1,b2,b3⟩:=id (hbk.keep s02);have rq:=aM b1
  have hql:(qs.map V.ref).length=bk.length:=by rw[Ab,b2]
  have rq5:=aI k5 rq
  have hmb:=hms.1
  have nfw:rw'≠rf:=λz=>by rw[z,ef4]at hrw;cases hrw
  walk_at "gs"
  with_reducible refine cP ?_
  walk_at "gs";rw[hql];refine⟨⟨by omega,by omega⟩,?_⟩
  rw[show ((bk.length:Nat):Int).toNat=bk.length from Ds _];refine sA (λj σ H'=>∃(v8 v9 v10:Option V),σ=[some (.ref rb),some (.str (bA T)),some (.ref a),some (.ref rt),some (.ref tl),some (.ref rf),some (.int (i:Int)),some (.ref rw'),v8,v9,v10]/\Same H2 H'/\H' rf=some (.lst (ks.map λk=>V.int ((k:Nat):Int)))/\H' rw'=some (.lst ((fF mss T TB i j).map λk=>V.int ((k:Nat):Int))))
   ⟨_,_,_,rfl,k5,ef5,ew5⟩ ?_ ?_
  ·rintro j σ H6 hj ⟨v8,v9,v10,rfl,s6,ef6,ew6⟩;have hjm:j<mss.length:=by omega
   obtain⟨hmn,hm1,hm5,hmt⟩:=hms.2 j _ _ (Aa hj) (Aa hjm);have hml:mss[j].length=aV mss j:=by unfold aV;rw[dR (Aa hjm)]
   have ep:qs[j]?=some (qs[j]'(by omega)):=Aa _
   have tp:=b3 j _ _ ep (Aa hj)
   have aq:atI (qs.map V.ref) (j:Int)=some (.ref (qs[j]'(by omega))):=bC (by rw[Af,ep];rfl)
   have hmb5:=eC mss[j] hmt
   have hSt:dF mss T i j ↔ (T.drop i).take (aV mss j)=mss[j]:=by unfold dF;rw[dR (Aa hjm)]
   rw[Int.zero_add];walk_at "gs"
   with_reducible refine cP ?_
   walk_at "gs";refine cD (aI s6 rq) aq ?_;walk_at "gs";refine eP (s6 _ _ tp) (v:=.str (bA mss[j])) (bC (j:=1) (by rw[hmn];rfl)) ?_
   walk_at "gs";refine eX rfl (by omega) λq7 hq7=>?_
   rw[show Txt.split (bA mss[j]) (Str.ofString " ")=mss[j].map aQ from cS hm1 hmt];have x7:=aF hq7 (.lst ((mss[j].map aQ).map V.str))
   have s7:=s6.trans x7
   have r77:rdL (upd H6 q7 (.lst ((mss[j].map aQ).map V.str))) q7=some ((mss[j].map aQ).map V.str):=bU
   have ef7:=x7 _ _ ef6
   have ew7:=x7 _ _ ew6
   generalize upd H6 q7 (.lst ((mss[j].map aQ).map V.str))=H7 at x7 s7 r77 ef7 ew7 ⊢;have hl7:((mss[j].map aQ).map V.str).length=aV mss j:=by rw[Ab,Ab,hml]
   have rT7:=aM (s7 _ _ eT2)
   walk_at "gs";rw[hl7];intro r8 hr8;rw[tF (by rw[htl];omega),<-Eg,<-Eg,<-Dy,<-Dy]
   have x8:=aF hr8 (.lst ((((T.drop i).take (aV mss j)).map aQ).map V.str))
   have r88:rdL (upd H7 r8 (.lst ((((T.drop i).take (aV mss j)).map aQ).map V.str))) r8=some ((((T.drop i).take (aV mss j)).map aQ).map V.str):=bU
   generalize upd H7 r8 (.lst ((((T.drop i).take (aV mss j)).map aQ).map V.str))=H8 at x8 r88 ⊢;have s8:=s7.trans x8
   walk_at "gs";refine cD (aI s8 rq) aq ?_;walk_at "gs";refine eP (s8 _ _ tp) (v:=.str (bA mss[j])) (bC (j:=1) (by rw[hmn];rfl)) ?_
   walk_at "gs";refine eX rfl (by omega) λq9 hq9=>?_
   rw[show Txt.split (bA mss[j]) (Str.ofString " ")=mss[j].map aQ from cS hm1 hmt];have x9:=aF hq9 (.lst ((mss[j].map aQ).map V.str))
   refine nZ (aI x9 r88) bU (bZ _) (bZ _) ?_;rw[if_neg Ao,oG];have s9:=s8.trans x9
   have ef9:=(x8.trans x9) _ _ ef7
   have ew9:=(x8.trans x9) _ _ ew7
   generalize upd H8 q9 (.lst ((mss[j].map aQ).map V.str))=H9 at x9 s9 ef9 ew9 ⊢;by_cases hS:(T.drop i).take (aV mss j)=mss[j]
   ·rw[An (Dk (List.map aQ) hS)];have hmem:j∈cF mss T i:=Cr.mpr ⟨Cb.mpr hjm,An (hSt.mpr hS)⟩
    have hle:=gH (bP hmem).2 (show i<=T.length by omega)
    have rT9:=aM (s9 _ _ eT2)
    have rt9:=aM (s9 _ _ etl)
    have hTBl:=ok.len
    have abe:atI (TB.map tV) ((i:Int)+(aV mss j:Int))=some (tV (TB.getD (i+aV mss j) none)):=by
     rw[show (i:Int)+(aV mss j:Int)=((i+aV mss j:Nat):Int) by omega,pM (by omega)]
    walk_at "gs";rw[htl,An (show (i:Int)+(aV mss j:Int)<=(T.length:Int) by omega)]
    walk_at "gs";refine cD rt9 abe ?_;cases ob:TB.getD (i+aV mss j) none with
    |none=>
     walk_at "gs";refine⟨_,_,_,rfl,s9,ef9,?_⟩;rw[oI,ob,An hmem,if_neg (by decide),Bs]
     exact ew9
    |some b=>
     have sib:∀n:Int,decide (tV (some n)=V.non)=false:=λn=>Aw λz=>nomatch z
     have mw9:=cC ew9
     walk_at "gs";rw[sib];walk_at "gs";refine dXW mw9 (bD (by rw[Ab];have:=Ey (λk=>decide (k∈cF mss T i)&&(TB.getD (i+aV mss k) none).isSome) (List.range j);rw[Bq]at this;show (fF mss T TB i j).length<=_;unfold fF;omega)) ?_
     refine⟨_,_,_,rfl,bL hrw2 s9,by rw[aG (Ne.symm nfw)];exact ef9,?_⟩
     rw[oI,ob,An hmem,if_pos (show (true&&(some b).isSome)=true from rfl),Ar];exact aD
   ·rw[Aw (λz=>hS (iQ z))];walk_at "gs";refine⟨_,_,_,rfl,s9,ef9,?_⟩;rw[oI,decide_eq_false (λz=>hS (hSt.mp (bP z).2)),if_neg (by simp),List.append_nil]
    exact ew9
  ·rintro σ H6 ⟨v8,v9,v10,rfl,s6,ef6,ew6⟩;rw[<-hmb]at ew6;have w1:=bX3 ok hi hv
   have rw6:=aM ew6
   have rf6:=aM ef6
   have hwl:(((fF mss T TB i mss.length).map λk=>V.int ((k:Nat):Int))).length=(fF mss T TB i mss.length).length:=Ab ..
   have hkl':((ks.map λk=>V.int ((k:Nat):Int))).length=ks.length:=Ab ..
   dsimp only
   with_reducible refine cP ?_
   walk_at "gs";rw[hkl'];refine⟨a,ns,_,rfl,(s02.trans s6).seq hS,by omega,λn7=>?_⟩
   walk_at "gs";rw[hwl];obtain⟨y,ey,hy⟩:∃y:Nat,n7%((fF mss T TB i mss.length).length:Int)=(y:Int)/\y<(fF mss T TB i mss.length).length:=wZ n7 w1;have ek:(fF mss T TB i mss.length)[y]?=some ((fF mss T TB i mss.length)[y]):=Aa hy
   have hkw:=Bx hy
   rw[ey];refine cD rw6 (v:=.int ((((fF mss T TB i mss.length)[y]:Nat)):Int)) (bC (by rw[Af,ek];rfl)) ?_
   generalize (fF mss T TB i mss.length)[y]=k at ek hkw ⊢;obtain⟨hks,v',hv'⟩:=dQD hkw;have hkm:=(bP hks).1
   have hkb:k<bk.length:=by omega
   obtain⟨hmn,hm1,hm5,hmt⟩:=hms.2 k _ _ (Aa hkb) (Aa hkm);have hml:mss[k].length=aV mss k:=by unfold aV;rw[dR (Aa hkm)]
   have ep:qs[k]?=some (qs[k]'(by omega)):=Aa _
   have tp:=b3 k _ _ ep (Aa hkb)
   have aq:atI (qs.map V.ref) (k:Int)=some (.ref (qs[k]'(by omega))):=bC (by rw[Af,ep];rfl)
   have hmb5:=eC mss[k] hmt
   have hle:=gH (bP hks).2 (show i<=T.length by omega)
   have hst:=(bP hks).2
   have mf6:=cC ef6
   walk_at "gs"
   with_reducible refine cP ?_
   walk_at "gs";have s7:=bL (o:=.lst ((ks.map λk=>V.int ((k:Nat):Int))++[V.int (k:Int)])) hrf s6
   have ef7:(upd H6 rf (.lst ((ks.map λk=>V.int ((k:Nat):Int))++[V.int (k:Int)]))) rf=_:=aD
   generalize upd H6 rf (.lst ((ks.map λk=>V.int ((k:Nat):Int))++[V.int (k:Int)]))=H7 at s7 ef7 ⊢;refine cD (aI s7 rq) aq ?_;walk_at "gs";refine eP (s7 _ _ tp) (v:=.str (bA mss[k])) (bC (j:=1) (by rw[hmn];rfl)) ?_
   walk_at "gs";refine eX rfl (by omega) λq8 hq8=>?_
   rw[show Txt.split (bA mss[k]) (Str.ofString " ")=mss[k].map aQ from cS hm1 hmt];have x8:=aF hq8 (.lst ((mss[k].map aQ).map V.str))
   have r88:rdL (upd H7 q8 (.lst ((mss[k].map aQ).map V.str))) q8=some ((mss[k].map aQ).map V.str):=bU
   have hl8:((mss[k].map aQ).map V.str).length=aV mss k:=by rw[Ab,Ab,hml]
   have ef8:=x8 _ _ ef7
   generalize upd H7 q8 (.lst ((mss[k].map aQ).map V.str))=H8 at x8 r88 ef8 ⊢;have hfin:cO mss (ks++[k])=T.take (i+aV mss k):=by
    rw[bZB,hfl,dC,show cO mss []=[] from rfl,Bs,List.take_add];exact Dk _ hst.symm
   have hml1:=(fX hL hkm).1
   walk_at "gs";rw[hl8,hN];refine⟨i+aV mss k,ks++[k],_,_,_,_,rfl,by omega,hle,s7.trans x8,by rw[Ar];exact ef8,hfin,λx hx=>?_,by rw[Ah];show _+1<=_;omega,v',hv'⟩
   rcases Bo.mp hx with z|z
   ·exact hkl x z
   ·rw[Ap.mp z];exact hkm
 ·rw[Aw (show ¬(i:Int)<((T.length:Nat):Int) by omega)]
  walk_at "go";refine q rf ks H4 (none_of s02 hrf) (s02.trans s4) ef4 ?_ hkl;rw[hfl,show i=T.length by omega,Cj]
def xG(l:dN Pt H)(h:H a=some o)(ht:∀ps,o≠.tbl ps):a≠Pt:=λz=>by
 obtain⟨ps,e⟩:=l.tb;rw[z,e]at h;cases h;exact ht _ rfl
def TwSt.keepE{B R:Addr}{f:Nat->Option Int}(tw:TwSt H B R hs f)(s:SameE l H H')(nB:B∉l)(nR:∀kvs,H R=some (.dK kvs)->R∉l)(nP:∀p c cs,H p=some (.lst (V.str (one c)::cs))->p∉l):TwSt H' B R hs f:=by
 obtain⟨⟨us,u1,u2⟩,ok,⟨kvs,v1,v2⟩,ps⟩:=tw;refine⟨⟨us,s _ _ nB u1,u2.len,λj v h hv hh=>?_⟩,ok,⟨kvs,s _ _ (nR _ v1) v1,v2⟩,ps⟩;have r:=u2.val j v h hv hh
 cases h with
 |none=>exact r
 |some cs=>
  obtain⟨p,rfl,hp⟩:=r;have h1:=(iD (ok cs (Am hh))).1
  cases cs with
  |nil=>exact absurd h1 (by decide)
  |cons c cs=>exact⟨p,rfl,s _ _ (nP p c _ hp) hp⟩
def no2{y:Addr}(h1:p≠x)(h2:p≠y):p∉[x,y]:=λe=>by
 simp only[List.mem_cons,List.not_mem_nil,or_false]at e;rcases e with e|e
 ·exact h1 e
 ·exact h2 e
def cQM{C dx:Addr}{fs:List (Str×V)}(h:dN Pt H)(e:H p=some (.ins C dx fs)):dN Pt (upd H p o):=by
 have ne:∀b u,H b=some u->(∀c d f,u≠.ins c d f)->b≠p:=λb u h n y=>by rw[y,e]at h;cases h;exact n _ _ _ rfl
 rcases h with h|⟨c,h1,h2⟩
 ·exact .inl (by rw[aG (ne _ _ h λ_ _ _=>nofun)];exact h)
 ·exact .inr ⟨c,by rw[aG (ne _ _ h1 λ_ _ _=>nofun)];exact h1,by rw[aG (ne _ _ h2 λ_ _ _=>nofun)];exact h2⟩
def dJR(nd:cws.Nodup)(hj:j<cws.length)(hk:k<cws.length)(e:fwS cws j=fwS cws k):j=k:=by
 unfold fwS at e;rw[Ac,Ac,Aa hj,Aa hk]at e;have e2:cws[j]=cws[k]:=List.append_inj_left' e rfl
 exact(Fh nd).mp e2
def cXY(nd:cws.Nodup)(hk:k<cws.length){g:List Nat}(e:rdC g=fwS cws k):rdN cws (some g)=.int (k:Int):=by
 have er:lQ (g.map one)=aQ (fwS cws k):=by
  unfold lQ;rw[Cm,<-e];congr 2
  exact(Di λc _=>rfl).trans (List.map_id g)
 have sp:∀j,j<cws.length->(dW cws)[j]?=some (aQ (fwS cws j)):=λj hj=>by
  unfold dW fwS;rw[Af,Aa hj,Ac,Aa hj];rfl
 have sl:(dW cws).length=cws.length:=by unfold dW;rw[Ab]
 have hf:(dW cws).findIdx? (λy=>y==lQ (g.map one))=some k:=by
  rw[er];obtain⟨i1,i2⟩:=Ae.mp (sp k hk);refine List.findIdx?_eq_some_iff_getElem.mpr ⟨i1,by rw[i2];exact Ep _,λj hj=>?_⟩
  obtain⟨j1,j2⟩:=Ae.mp (sp j (by omega))
  rw[j2];have:aQ (fwS cws j)≠aQ (fwS cws k):=λz=>by have:=dJR nd (by omega) hk (tB z);omega
  simp[this]
 show (match (dW cws).findIdx? (λy=>y==lQ (g.map one)) with|some j=>V.int (j:Int)|none=>.non)=_
 rw[hf]
def vM(nd:cws.Nodup)(hL:∀c∈cws,c.length<=6/\∀d∈c,aX d):∀ {ks:List Nat} {gs:Q6},Hgs (ks.map (fwS cws)) gs->(∀k∈ks,k<cws.length)->(gs.map some).map (rdN cws)=(ks.map λk=>V.int ((k:Nat):Int))
 |[],_,.nil,_=>rfl
 |k::ks,_,.cons (h:=g) a b,hk=>by
  have hkl:=hk k Ak
  have fL:∀d∈fwS cws k,aX d:=λd hd=>by
   unfold fwS at hd;rw[Ac,Aa hkl]at hd;have:=hL _ (Bx hkl)
   rcases Bo.mp hd with z|z
   ·exact this.2 d z
   ·rw[Ap.mp z];exact(dXD this.1 this.2).1
  rw[Aq,Aq,cXY nd hkl (aQA fL a),vM nd hL b λx hx=>hk x (Ai _ hx),Aq]
def BkAt.keepE(h:BkAt H r bk)(s:SameE l H H')(nr:r∉l)(nt:∀p xs,H p=some (.tup xs)->p∉l):BkAt H' r bk:=by
 obtain⟨ps,h1,h2,h3⟩:=h;exact⟨ps,s _ _ nr h1,h2,λj p b hp hb=>s _ _ (nt p _ (h3 j p b hp hb)) (h3 j p b hp hb)⟩
def no3{y z:Addr}(h1:p≠x)(h2:p≠y)(h3:p≠z):p∉[x,y,z]:=λe=>by
 simp only[List.mem_cons,List.not_mem_nil,or_false]at e;rcases e with e|e|e
 ·exact h1 e
 ·exact h2 e
 ·exact h3 e
def pX(bk:List (Str×Str))(js:List Nat):List Str:=js.map λj=>(bk.getD j (Str.empty,Str.empty)).1
def dQ2(hg:GoodBk bk)(hm:cK bk mss)(hj:∀j∈js,j<bk.length){ms:List Str}(h:dZ9 bk (pX bk js) ms):ms=js.map λj=>bA (mss.getD j []):=by
 obtain⟨h1,h2⟩:=h;have hl:(pX bk js).length=js.length:=Ab ..
 refine Gk (by rw[Ab];omega) λi a b=>?_
 rw[Ab]at b;have hi:=hj _ (Bx b)
 have eb:bk.getD js[i] (Str.empty,Str.empty)=bk[js[i]]:=by rw[Ac,Aa hi];rfl
 have e:=h2 i (bk[js[i]]).1 (by unfold pX;rw[Af,Aa b,Ej,eb])
 rw[zS hg.words (Bx hi),Aa a]at e;have hmi:js[i]<mss.length:=by rw[hm.1];exact hi
 have h3:=(hm.2 js[i] _ _ (Aa hi) (Aa hmi)).1
 rw[Er,dR (Aa hmi),<-h3];injection e with e
 exact e.symm
def cZO(hg:GoodBk bk)(hm:cK bk mss){rb rw':Addr}{E:XK}(hb:BkAt H rb bk)(hr:rdL H rw'=some ((pX bk js).map V.str))(h1:1<=js.length)(h1000:js.length<=1000)(hj:∀j∈js,j<bk.length)(q:∀H',Same H H'->Q (.str (bA (cO mss js))) H'):iR [.ref rb,.ref rw'] H Q E:=by
 have hl:(pX bk js).length=js.length:=Ab ..
 refine⟨rb,rw',bk,pX bk js,rfl,hb,hg.words,λx hx=>?_,hr,by omega,by omega,λi v hv hn=>?_,λms _ hs H' s=>?_⟩
 ·obtain⟨ts,e,a1,a5,aT⟩:=hg.mean x hx;have:=eC ts aT
  rw[e];omega
 ·unfold pX at hv;rw[Af]at hv;obtain⟨j,ej,rfl⟩:=Bj.mp hv;have hjl:=hj j (Am ej)
  rw[Ac,Aa hjl]at hn;have:=zS hg.words (Bx hjl)
  rw[show mean bk bk[j].1=none from hn]at this;cases this
 ·rw[dQ2 hg hm hj hs,oQ (λz=>by rw[z]at h1;exact absurd h1 (by decide)) λj hj'=>?_]
  ·exact q H' s
  ·have hjl:j<mss.length:=by rw[hm.1];exact hj j hj'
   have h2:=(hm.2 j _ _ (Aa (hj j hj')) (Aa hjl)).2.1
   rw[dR (Aa hjl)];intro z;rw[z]at h2;exact absurd h2 (by decide)
def dZ8(bk:List (Str×Str)):V->Option V
 |.int j=>some (V.str (bk.getD j.toNat (Str.empty,Str.empty)).1)
 |_=>none
def aJE(bk:List (Str×Str)):∀rs:List Nat,(rs.map λk=>V.int ((k:Nat):Int)).filterMap (dZ8 bk)=(pX bk rs).map V.str
 |[]=>rfl
 |k::r=>by
  rw[Aq,Bi (f:=dZ8 bk) (b:=V.str (bk.getD k (Str.empty,Str.empty)).1) rfl,aJE bk r];rfl
def cQ2(K:W.Frag)(C1 C2:Addr)(mk:(Value->Option Addr->L2.St->Hp->Prop)->TS)(t1 t2:TS):TS:=λD σ H=>
 mk (λcls d σ1 H1=>(W.exmOne K cls (.ref C1)=some true/\t1 D σ1 H1)\/(W.exmOne K cls (.ref C1)=some false/\W.exmOne K cls (.ref C2)=some true/\t2 D σ1 H1)) D σ H
open PySem.Spec PyProof.Rows in
def bJW{X:Cx}{body suite1 suite2:List Stmt}{b1 b2:Stmt}{x1 x2:Str}{np1 np2 hp1 hp2 pos:Pos}{C1 C2:Addr}{mk:(Value->Option Addr->L2.St->Hp->Prop)->TS}{t1 t2:TS}(hstk:X.stack=X.env::X.outer)(hfm:X.env.frame=some X.env.locals)(hex:X.ex=[])(hg1:Gl X x1)(hm1:X.mg x1=some (.ref C1))(hg2:Gl X x2)(hm2:X.mg x2=some (.ref C2))(hb:∀pins R,PSs (X.tr pins (XS X pins R)) body (mk R))(hs1:∀pins ea,PSs (X.hnd pins ea) (b1::suite1) t1)(hs2:∀pins ea,PSs (X.hnd pins ea) (b2::suite2) t2)(hd1:(x1==("__debug__" : Str))=false:=by decide)(hd2:(x2==("__debug__" : Str))=false:=by decide):PS X (.Try body [.ExceptHandler (some (.Name x1 np1)) none (b1::suite1) hp1,.ExceptHandler (some (.Name x2 np2)) none (b2::suite2) hp2] [] [] pos) (cQ2 X.K C1 C2 mk t1 t2):=by
 intro pins s σ H D I h;have hfr:X.A.frames=some (X.env::X.outer):=by rw[<-hstk];exact I.ok.frames
 refine wpAny_Try_except (Cg (hb pins _ [] s σ H D (I.tr _) h) (λf s1 q=>?_) λe s1 q=>?_)
 ·cases f with
  |next=>
   obtain⟨σ',H',I',q⟩:=q.untr;exact bK pins s1 σ' H' D I' q
  |brk=>exact q.untr
  |cont=>exact q.untr
  |ret u=>exact q.untr
 ·obtain⟨ea,cls,d,B,σ1,H1,rfl,F,fre,hn,inv,hxr⟩:=q;rw[hstk]at F;refine zF hfr hfm F λh2 F2 u2=>gE (s:={s1 with heap:=h2}) F2 λh3 F3 u3=>?_
  have I3:=inv h3 F3.stays (u2.trans u3)
  refine wpAny_handleBy_cons (codeAny_handlers_test (gO (I3.hnd ea) hg1 hm1 ?_ hd1)) (by intro q;cases q)
  obtain⟨oe,vs,T,oT,tts,he,hc,_⟩:=id F3.on;rcases hxr with⟨hx,r⟩|⟨hx0,hx,r⟩
  ·refine W.exm_one I3.kIn (hc.1▸(W.Looks.ld he).andThen .now) hx _ _ _ _ (λ_ _ q=>q) ?_;refine codeAny_handlers_suite (gE (s:={s1 with heap:=h3}) F3 λh4 F4 u4=>?_)
   have I4:=inv h4 F4.stays ((u2.trans u3).trans u4)
   exact Cg (hs1 pins ea [] _ _ _ _ (I4.hnd ea) r) (λf s6 q=>q.unhnd I.ok) λ_ _ z=>z.elim
  ·refine W.exm_one I3.kIn (hc.1▸(W.Looks.ld he).andThen .now) hx0 _ _ _ _ (λ_ _ q=>q) ?_;rw[if_neg (show ¬(false=true) from λz=>nomatch z)]
   dsimp only;refine wpAny_handleBy_cons (codeAny_handlers_test (gO (I3.hnd ea) hg2 hm2 ?_ hd2)) (by intro q;cases q)
   refine W.exm_one I3.kIn (hc.1▸(W.Looks.ld he).andThen .now) hx _ _ _ _ (λ_ _ q=>q) ?_;refine codeAny_handlers_suite (gE (s:={s1 with heap:=h3}) F3 λh4 F4 u4=>?_)
   have I4:=inv h4 F4.stays ((u2.trans u3).trans u4)
   exact Cg (hs2 pins ea [] _ _ _ _ (I4.hnd ea) r) (λf s6 q=>q.unhnd I.ok) λ_ _ z=>z.elim
def dXA{K:W.Frag}{C1 C2:Addr}{mk:(Value->Option Addr->L2.St->Hp->Prop)->TS}{t1 t2:TS}{D:Ends}{σ:St}(h:mk (λcls d σ1 H1=>(W.exmOne K cls (.ref C1)=some true/\t1 D σ1 H1)\/(W.exmOne K cls (.ref C1)=some false/\W.exmOne K cls (.ref C2)=some true/\t2 D σ1 H1)) D σ H):cQ2 K C1 C2 mk t1 t2 D σ H:=h
def uQ(C aL aN Pt:Addr):Sp:=λvs H Q _=>∃(x dx b s0 st hg dd:Addr) (m:Nat) (hs:List (Option (List Nat))) (f:Nat->Option Int) (bk:List (Str×Str)) (cws:List (List Nat)) (mss:List (List (List Nat))) (T:List (List Nat)) (n0:Nat),vs=[.ref x,.str (bA T)]/\H x=some (.ins C dx (twF b m s0 st hg dd))/\TwSt H hg st hs f/\hs.length=m/\m<=6/\SayIn H b bk cws mss T n0/\cws.Nodup/\1<=bk.length/\dN Pt H/\H dd=some (.lst [])/\
 (∀(ks:List Nat) (TB:List (Option Int)) (H':Hp),TabOk mss T TB->Path mss T TB 0 ks->m<ks.length->SameP Pt H H'->dN Pt H'->Q (.str (Str.ofString "halyard")) H')/\
 (∀(ks:List Nat) (TB:List (Option Int)) (W:List Wt) (F:List Nat) (H':Hp),TabOk mss T TB->Path mss T TB 0 ks->ks.length<=m->LackOk (ks.map (fwS cws)) (aR (bM (aR (bM λc=>aR f c+cnt (cA hs (List.range hs.length)) c)))) W F->SameP Pt H H'->dN Pt H'->Q (.str (Str.ofString "lack")) H')/\
 ∀(ks:List Nat) (TB:List (Option Int)) (r:Addr) (H':Hp),TabOk mss T TB->Path mss T TB 0 ks->ks.length<=m->SameE [Pt,x,dd] H H'->dN Pt H'->H' r=some (.lst ((ks.map λk=>V.int ((k:Nat):Int))++List.replicate (m-ks.length) V.non))->Q (.ref r) H'
def bXF:FnScope ["_law_tower", "_law_text"] ["_law_tower", "_law_text"] (aJ rV):=by walk_at "sc"
def bQC(F:Fun K "_law_said" "_law_said" rV f fd)(G:Gs K mg w Zu Zz Zv Zx Z0 Zw Zy)(c_Tower_read:bXZ CX0 P w K mg base 6 Z0 "read" ["self"] (gW Z0))(c_Tower_do:bXZ (CXr P w) P w K mg base 8 Z0 "do" ["self", "deed"] (pS Z0 Zu Zy Pt)):FnOk P w K mg base CX0 10 f fd ["_law_tower", "_law_text"] (uQ Z0 Zu Zy Pt):=by
 refine F.ok bXF (λvs H Q E h=>?_) (λcdv A outer s H vs Q E hr h=>?_)
 ·obtain⟨x,dx,b,s0,st,hg,dd,m,hs,f,bk,cws,mss,T,n0,rfl,_⟩:=h;rfl
 obtain⟨x,dx,b,s0,st,hg,dd,m,hs,f,bk,cws,mss,T,n0,rfl,ex,tw,hsl,h6,si,hnd,hb1,lam,edd,qh,ql,qt⟩:=h;refine⟨_,(@aE _ _ _ _ _ (bJW rfl rfl rfl rfl G.c_NoHalyard rfl G.c_Lack (λpins R=>(@aH _ _ _ (dB (dQY c_Tower_do G.cl_Tower (aX1 rfl) hr (by decide) (mv 0) (aA (tM (@cU _ _ _ _ _ _ (aA (mv 1) aB))) aB))))) (λpins ea=>(@aH _ _ _ (aY dP))) (λpins ea=>(@aH _ _ _ (aY dP)))) (@aH _ _ _ (aY (aZZ c_Tower_read G.cl_Tower hr (by decide) (mv 0))))),?_⟩
 walk_at "gs"
 with_reducible refine cP ?_
 walk_at "gs"
 with_reducible refine dXA ?_
 walk_at "gs";refine⟨x,dx,_,rfl,ex,cQX,?_⟩;walk_at "gs";refine⟨by show 2<=sizeLine;decide,λdp hdp=>?_⟩
 have k1:=aF hdp (.tup [.str (Str.ofString "say"),.str (bA T)])
 have e1:(upd H dp (.tup [.str (Str.ofString "say"),.str (bA T)])) dp=some (.tup [.str (Str.ofString "say"),.str (bA T)]):=aD
 generalize upd H dp (.tup [.str (Str.ofString "say"),.str (bA T)])=H1 at k1 e1 ⊢;walk_at "gs";refine⟨x,b,s0,st,hg,dd,dp,dx,m,Str.ofString "say",[.str (bA T)],[],rfl,k1 _ _ ex,e1,rfl,k1 _ _ edd,by show (0:Nat)<=1000;decide,λp0 hp0=>?_⟩
 have k2:=aF hp0 (.tup [])
 have s02:=k1.trans k2
 obtain⟨i1,i2,i3,i4,i5,i6,i7,i8⟩:=si;refine⟨b,hg,st,dp,hs,f,bk,cws,mss,T,n0,rfl,tw.keepS s02,by omega,⟨i1.keep s02,i2,i3,i4,i5,i6,i7,i8⟩,lam.keep s02,k2 _ _ e1,λt B' R' hs' f' ks TB H3 s3 l3 ht et hB hl hsd htab hpath tw3=>?_,λks TB dy W F H3 htab hpath hkm hlk s3 l3=>.inr ⟨G.m_Lack_NoHalyard,G.m_Lack_Lack,?_⟩,λks TB H3 htab hpath hkm s3 l3=>.inl ⟨G.m_NoHalyard_NoHalyard,?_⟩⟩
 ·have l2:=lam.keep s02
  have ex3:=atP s3 l2 (s02 _ _ ex) (λ_=>nofun)
  have ed3:=atP s3 l2 (s02 _ _ edd) (λ_=>nofun)
  have ndx:dd≠x:=λz=>by rw[z,ex3]at ed3;cases ed3
  have nxP:x≠Pt:=xG l3 ex3 λ_=>nofun
  have ndP:dd≠Pt:=xG l3 ed3 λ_=>nofun
  refine⟨t,B',R',rfl,et,ex3,ed3,(λys z=>by rw[ex3]at z;cases z),?_⟩
  rw[show ([]:List V)++[V.ref dp]=[V.ref dp] from rfl];have sX:SameE [x,dd] H3 (upd (upd H3 x (.ins Z0 dx (twF b m s0 R' B' dd))) dd (.lst [V.ref dp])):=λy o ny e=>by
   rw[aG (λz=>ny (by rw[z];exact Ai _ (Ak ..))),aG (λz=>ny (by rw[z];exact Ak ..))]
   exact e
  have sE:SameE [Pt,x,dd] H (upd (upd H3 x (.ins Z0 dx (twF b m s0 R' B' dd))) dd (.lst [V.ref dp])):=λy o ny e=>sX y o (λz=>ny (Ai _ z)) (s3 y o (λz=>ny (by rw[z];exact Ak ..)) (s02 _ _ e))
  have lF:dN Pt (upd (upd H3 x (.ins Z0 dx (twF b m s0 R' B' dd))) dd (.lst [V.ref dp])):=aZY (cQM l3 ex3) (by rw[aG ndx];exact ed3)
  have hBH:=none_of s02 hB
  obtain⟨us,u1,u2⟩:=id tw3.hal;have twF':=tw3.keepE sX (no2 (λz=>by rw[z,ex3]at u1;cases u1) (λz=>by rw[z,edd]at hBH;cases hBH)) (λkvs e=>no2 (λz=>by rw[z,ex3]at e;cases e) (λz=>by rw[z,ed3]at e;cases e)) (λp c cs e=>no2 (λz=>by rw[z,ex3]at e;cases e) (λz=>by
   rw[z,ed3]at e;have e':([]:List V)=V.str (one c)::cs:=by injection Bf e
   cases e'))
  have bk3:BkAt H3 b bk:=bkP (i1.keep s02) s3 l2
  have bkF:BkAt (upd (upd H3 x (.ins Z0 dx (twF b m s0 R' B' dd))) dd (.lst [V.ref dp])) b bk:=bk3.keepE sX (by
   obtain⟨qs,c1,c2,_⟩:=id bk3;refine no2 (λz=>by rw[z,ex3]at c1;cases c1) (λz=>?_)
   rw[z,ed3]at c1;have e':([]:List V)=qs.map V.ref:=by injection Bf c1
   cases qs with
   |nil=>rw[<-c2]at hb1;exact absurd hb1 (by decide)
   |cons _ _=>cases e') (λp xs e=>no2 (λz=>by rw[z,ex3]at e;cases e) (λz=>by rw[z,ed3]at e;cases e))
  have exF:(upd (upd H3 x (.ins Z0 dx (twF b m s0 R' B' dd))) dd (.lst [V.ref dp])) x=some (.ins Z0 dx (twF b m s0 R' B' dd)):=by rw[aG (Ne.symm ndx)];exact aD
  generalize upd (upd H3 x (.ins Z0 dx (twF b m s0 R' B' dd))) dd (.lst [V.ref dp])=HF at sX sE lF twF' bkF exF ⊢;obtain⟨⟨vs,v1,v2⟩,vok,_,_⟩:=id twF';obtain⟨gs,g1,g2,g3⟩:=hsd;have hkl:=(kL hpath).2
  have hgl:gs.length=ks.length:=by rw[g2.lens,Ab]
  have hcL:∀c∈cws,c.length<=6/\∀d∈c,aX d:=λcs h=>by
   obtain⟨j,hj⟩:=List.mem_iff_getElem?.mp h;have hl:=(Ae.mp hj).1
   exact(i2.2 j _ cs (Aa (by rw[<-i2.1];exact hl)) hj).2.2
  have hcb:=i2.1
  have hmb:=i4.1
  have hkc:∀k∈ks,k<cws.length:=λk hk=>by have:=hkl k hk;omega
  have hul:=v2.len
  walk_at "gs";refine⟨x,dx,_,rfl,exF,rF,?_⟩;walk_at "gs";refine⟨x,b,s0,R',B',dd,dx,m,vs,hs',bk,cws,rfl,exF,aM v1,v2,by omega,vok,bkF,i3,i2,λr9 H9 hr9 s9 e9=>?_⟩
  have erd:hs'.map (rdN cws)=(ks.map λk=>V.int ((k:Nat):Int))++List.replicate (m-ks.length) V.non:=by
   rw[g1,Ar,vM hnd hcL g2 hkc,List.map_replicate,hl,hsl];rfl
  rw[erd]at e9;walk_at "gs";exact qt ks TB r9 H9 htab hpath (by omega) (λy o ny e=>s9 _ _ (sE y o ny e)) (lF.keep s9) e9
 ·walk_at "gs";exact ql ks TB W F H3 htab hpath (by omega) hlk ((Same.p s02).trans s3) l3
 ·walk_at "gs";exact qh ks TB H3 htab hpath (by omega) ((Same.p s02).trans s3) l3
def bZ2(h:cK bk mss):∀j,j<mss.length->mss.getD j []≠[]/\(mss.getD j []).length<=5/\∀t∈mss.getD j [],eL t:=λj hj=>by
 obtain⟨_,h1,h5,hT⟩:=h.2 j _ _ (Aa (by rw[<-h.1];exact hj)) (Aa hj)
 rw[Ac,Aa hj];exact⟨λz=>by rw[show (some mss[j]).getD []=mss[j] from rfl]at z;rw[z]at h1;exact absurd h1 (by decide),h5,hT⟩
def sB(h:cK bk mss):∀ {js:List Nat},(∀j∈js,j<mss.length)->js.length<=(cO mss js).length/\(cO mss js).length<=5*js.length/\∀t∈cO mss js,eL t
 |[],_=>⟨Aj _,Aj _,λt ht=>nomatch ht⟩
 |j::r,hj=>by
  obtain⟨i0,i1,i2⟩:=sB h (js:=r) λx hx=>hj x (Ai _ hx);obtain⟨n1,l5,lT⟩:=bZ2 h j (hj j Ak);have:=List.length_pos_iff.mpr n1
  rw[dC,Ah,Au];refine⟨by omega,by omega,λt ht=>?_⟩
  rcases Bo.mp ht with z|z
  ·exact lT t z
  ·exact i2 t z
def aJM{n:Nat}:∀ {L:List Str},(∀z∈L,z.length<=n)->(L.map (·.length)).sum<=n*L.length
 |[],_=>Aj _
 |z::r,h=>by
  rw[Aq,Dt,Au,Nat.mul_succ];have:=h z Ak
  have:=aJM λx hx=>h x (Ai z hx)
  omega
def aZW(hms:cK bk mss)(hj:∀j∈js,j<mss.length)(h1:1<=js.length)(h40:js.length<=40)(e:rdL H r=some ((js.map λj=>bA (mss.getD j [])).map V.str))(q:Q (.str (bA (cO mss js))) H):yR (.str (Str.ofString " ")) [.ref r] H Q:=by
 refine aZE e ?_ ?_
 ·have h1:((js.map λj=>bA (mss.getD j [])).map (·.length)).sum<=60 * (js.map λj=>bA (mss.getD j [])).length:=aJM λz hz=>by
   obtain⟨j,hj',rfl⟩:=Bb.mp hz;obtain⟨_,l5,lT⟩:=bZ2 hms j (hj j hj');exact bJC l5 lT
  rw[Ab]at h1 ⊢;rw[show (Str.ofString " ").length=1 from rfl];omega
 ·rw[show Txt.join (Str.ofString " ") (js.map λj=>bA (mss.getD j []))=bA (cO mss js) from oQ (λz=>by rw[z]at h1;exact absurd h1 (by decide)) λj hj'=>(bZ2 hms j (hj j hj')).1]
  exact q
def aJF(mss:List (List (List Nat))):V->Option V
 |.int j=>some (V.str (bA (mss.getD j.toNat [])))
 |_=>none
def xO(mss:List (Q6)):∀rs:List Nat,(rs.map λk=>V.int ((k:Nat):Int)).filterMap (aJF mss)=(rs.map λj=>bA (mss.getD j [])).map V.str
 |[]=>rfl
 |k::r=>by
  rw[Aq,Bi (f:=aJF mss) (b:=V.str (bA (mss.getD k []))) rfl,xO mss r];rfl
def aJQ(hms:cK bk mss)(hj:j<bk.length):bk[j].2=bA (mss.getD j []):=by
 have hjm:j<mss.length:=by rw[hms.1];exact hj
 rw[(hms.2 j _ _ (Aa hj) (Aa hjm)).1,Ac,Aa hjm];rfl
def sqP(l:dN Pt H)(s:SameP Pt H H')(h:SqL K H a xs):SqL K H' a xs:=by
 rcases h with(h|⟨o,h⟩)|h
 ·exact .inl (.inl (atP s l h λ_=>nofun))
 ·exact .inl (.inr ⟨o,atP s l h λ_=>nofun⟩)
 ·exact .inr h
def bQO{m:Nat}:HalsAt H (List.replicate m V.non) (List.replicate m none):=by
 refine⟨by rw[Ay,Ay],λj v h hv hh=>?_⟩
 rw[Dw]at hv hh;split at hv
 ·rename_i hj
  rw[if_pos hj]at hh;cases hv;cases hh;rfl
 ·cases hv
def mX{m:Nat}:∀ks:List Nat,cA (List.replicate m none) ks=[]
 |[]=>rfl
 |k::r=>by
  show ((List.replicate m none).getD k none).getD []++cA (List.replicate m none) r=[]
  rw[mX r,Bs,Ac,Dw];split<;>rfl
def qX{C:Addr}{rb rl:Addr}{f:Nat->Option Int}{m:Nat}{Q:Addr->Hp->Prop}{E:XK}(hbk:BkAt H rb bk)(el:H rl=some (.dK kvs))(lk:Lk kvs f)(m6:m<=6)(q:∀(x dx b' s0 st hg dd:Addr) (H':Hp),Same H H'->H' x=some (.ins C dx (twF b' m s0 st hg dd))->BkAt H' b' bk->TwSt H' hg st (List.replicate m none) (bM (aR f))->H' dd=some (.lst [])->Q x H'):∀x dx,H x=none->H dx=none->dx≠x->eZ C [.ref x,.ref rb,.ref rl,.int (m:Int)] (upd (upd H dx (.own x)) x (.ins C dx [])) (λv H2=>v=.non/\Q x H2) E:=by
 intro x dx hx hdx hne;obtain⟨qs,b1,b2,b3⟩:=id hbk;have hkk:=(aF hdx (.own x)).trans (aF (show (upd H dx (.own x)) x=none by rw[aG (Ne.symm hne)];exact hx) (.ins C dx []))
 refine⟨x,rb,rl,dx,qs.map V.ref,kvs,f,m,rfl,aD,aM (hkk _ _ b1),.inl (hkk _ _ el),lk,m6,λb' s0 st hg dd H4 hb' hhg hdd nhd nbd sE x4 e4 d04 d14 h4 f4=>⟨rfl,?_⟩⟩;have s34:Same H H4:=λb o e=>sE b o (λz=>by rw[Ap.mp z,hx]at e;cases e) (hkk _ _ e)
 exact q x dx b' s0 st hg dd H4 s34 x4 ⟨qs,e4,b2,λj p b hp hb=>s34 _ _ (b3 j p b hp hb)⟩ ⟨⟨_,h4,bQO⟩,(λcs hc=>by cases (Gz.mp hc).2),⟨_,d14,fU _⟩,kE _⟩ f4
def lY{g:Nat->Int}{c:Nat}(h:kU c)(p:0<g c):aR (bM g) c=g c:=by
 unfold aR bM;rw[if_pos ⟨h,p⟩];rfl
def dQP{W:List Wt}{F:List Nat}(hL:∀c∈cws,c.length<=7)(h6:cws.length<=6)(hn:∀c,kU c->n c=50)(h:LackOk cws n W F):False:=by
 obtain⟨hsub,⟨p,hp⟩,hall,hfew⟩:=h;have hF:∀c∈F,n c=50:=λc hc=>hn c (flags_mem.mp (by rw[hp]at hc;exact(Cr.mp hc).1))
 have hW:W.length<=42:=by
  have h1:=hsub.length_le
  rw[aX0,<-List.length_flatten]at h1;have h2:cws.flatten.length<=7*cws.length:=mE hL
  omega
 have hs:(F.map n).sum=50*(F.length:Int):=by
  clear hp hall hfew;induction F with
  |nil=>rfl
  |cons c r ih=>
   rw[Aq,Dt,hF c Ak,ih λd hd=>hF d (Ai _ hd),Au];omega
 rw[hs]at hfew;cases W with
 |nil=>rw[Fq]at hfew;omega
 |cons w r=>
  have:=Hq (hall w Ak _ (ch_iff.mpr (.inl rfl)))
  omega
def sc_law:FnScope ["_law_script", "_law_book_here", "_law_drawn", "_law_text", "_law_found", "_law_many", "_law_locker", "_law_few", "_law_flag", "_law_number", "_law_due", "_law_tower", "_law_said_here"] ["_law_script"] (aJ jO):=by walk_at "sc"
def dJ9(F:Fun K "law" "law" jO f fd)(G:Gs K mg w Zu Zz Zv Zx Z0 Zw Zy)(c_l_book:Cal P w K mg base 2 "_law_book" ["_law_script"] (vN K))(c_cut_text:Cal P w K mg base 4 "cut_text" ["book", "text"] (jD Pt))(c_Tower_init:dZU CX0 P w K mg base 2 Z0 ["self", "book", "locker", "many"] (eZ Z0))(c_l_said:Cal P w K mg base 10 "_law_said" ["_law_tower", "_law_text"] (uQ Z0 Zu Zy Pt))(c_l_stream:Cal P w K mg base 1 "_law_stream" ["_law_cell_here", "_law_many"] jF)(c_l_cell:Cal P w K mg base 1 "_law_cell" ["_law_script", "_law_k"] (kN K))(c_text_said:Cal P w K mg base 1 "text_said" ["book", "words"] iR)(c_l_other:Cal P w K mg base 2 "_law_other" ["_law_book_here", "_law_text", "_law_script"] (rR K))(c_l_walks:Cal P w K mg base 1 "_law_walks" ["_law_book_here", "_law_text"] lR)(c_Tower_read:bXZ CX0 P w K mg base 6 Z0 "read" ["self"] (gW Z0)):FnOk P w K mg base CX0 11 f fd ["_law_script"] (wF K Pt):=by
 refine F.ok sc_law (λvs H Q E h=>?_) (λcdv A outer s H vs Q E hr h=>?_)
 ·obtain⟨a,ns,rfl,_⟩:=h;rfl
 obtain⟨a,ns,rfl,hS,h63,hP,q⟩:=h;refine⟨_,(@aE _ _ _ _ _ (aO 1 sc_law.nd (aU c_l_book hr (by decide) rfl (aA (mv 0) aB))) (@aE _ _ _ _ _ (eM (i:=2) sc_law.nd rfl (Or.inl rfl) rfl (kR rfl G.b_range (aA (aS bW aK (aS gM (aU c_l_cell hr (by decide) rfl (aA (mv 0) (aA aK aB))) aK)) aB)) (eF (N:=["_law_k", "_law_script", "_law_book_here"]) ["_law_script", "_law_book_here", "_law_drawn", "_law_text", "_law_found", "_law_many", "_law_locker", "_law_few", "_law_flag", "_law_number", "_law_due", "_law_tower", "_law_said_here"] (aJ jO) [none,some 0,some 1] rfl rfl rfl (λx h=>bO h) (by decide +kernel)) (by decide +kernel) rfl (by decide +kernel) (λ_ _ _ _=>(bE (i:=0) (show List.Nodup (["_law_k", "_law_script", "_law_book_here"]:List Str) by decide +kernel) rfl (Or.inl rfl))) (λ_ _ _ _=>cQ) (λ_ _ _ _=>(aS gM (aU c_l_cell hr (by decide) rfl (aA (mv 1) (aA (aS bW aK (mv 0)) aB))) (aP bS rfl G.b_len bH (aA (mv 2) aB))))) (@aE _ _ _ _ _ (aO 3 sc_law.nd (bN Bl Fx Fy xI dP (aA (cL rfl (bX (mv 2)) (eF (N:=["_law_number", "_law_book_here"]) ["_law_script", "_law_book_here", "_law_drawn", "_law_text", "_law_found", "_law_many", "_law_locker", "_law_few", "_law_flag", "_law_number", "_law_due", "_law_tower", "_law_said_here"] (aJ jO) [none,some 1] rfl rfl rfl (λx h=>bO h) (by decide +kernel)) (by decide +kernel) rfl (by decide +kernel) (λ_ _ _ _=>(bE (i:=0) (show List.Nodup (["_law_number", "_law_book_here"]:List Str) by decide +kernel) rfl (Or.inl rfl))) (λ_ _ _ _=>cQ) (λ_ _ _ _=>(bF bV (bF bV (mv 1) (mv 0) (λ_ _=>rfl)) aK (λ_ _=>rfl)))) aB))) (@aE _ _ _ _ _ (aO 4 sc_law.nd (aU c_cut_text hr (by decide) rfl (aA (cB lZ rfl G.b_list eY (aA (mv 1) aB)) (aA (mv 3) aB)))) (@aE _ _ _ _ _ (cI (PW.pt (pP (xA (kA (aP eJC rfl G.b_isinstance uB (aA (mv 4) (aA (eXC rfl G.b_list eY) aB))))) (jW (aZ cJY (bN Bl Fx Fy xI dP (aA (cL rfl (bX (mv 4)) (eF (N:=["_law_number", "_law_book_here"]) ["_law_script", "_law_book_here", "_law_drawn", "_law_text", "_law_found", "_law_many", "_law_locker", "_law_few", "_law_flag", "_law_number", "_law_due", "_law_tower", "_law_said_here"] (aJ jO) [none,some 1] rfl rfl rfl (λx h=>bO h) (by decide +kernel)) (by decide +kernel) rfl (by decide +kernel) (λ_ _ _ _=>(bE (i:=0) (show List.Nodup (["_law_number", "_law_book_here"]:List Str) by decide +kernel) rfl (Or.inl rfl))) (λ_ _ _ _=>cQ) (λ_ _ _ _=>(bF bV (bF bV (mv 1) (mv 0) (λ_ _=>rfl)) aK (λ_ _=>rfl)))) aB)) (mv 3) (aW _))))) (@aH _ _ _ (aY pQ)) bK) (@aE _ _ _ _ _ (cI (PW.pt (pP (aZ yO (aP bS rfl G.b_len bH (aA (mv 4) aB)) (aP bS rfl G.b_len bH (aA (mv 2) aB)) (aW _)) (jW (aZ yO (aP bS rfl G.b_len bH (aA (mv 4) aB)) (aP bS rfl G.b_len bH (aA (aU c_l_other hr (by decide) rfl (aA (mv 1) (aA (mv 3) (aA (mv 0) aB)))) aB)) (aW _))))) (@aH _ _ _ (aY pQ)) bK) (@aE _ _ _ _ _ (cI (PW.pt (pP (aZ cJY (aP bS rfl G.b_len bH (aA (mv 4) aB)) (bF bV (aU c_l_walks hr (by decide) rfl (aA (mv 1) (aA (mv 3) aB))) aK (λ_ _=>rfl)) (aW _)) (jW (aZ cJY (aU c_text_said hr (by decide) rfl (aA (mv 1) (aA (cL rfl (bX (mv 4)) (eF (N:=["_law_number", "_law_book_here"]) ["_law_script", "_law_book_here", "_law_drawn", "_law_text", "_law_found", "_law_many", "_law_locker", "_law_few", "_law_flag", "_law_number", "_law_due", "_law_tower", "_law_said_here"] (aJ jO) [none,some 1] rfl rfl rfl (λx h=>bO h) (by decide +kernel)) (by decide +kernel) rfl (by decide +kernel) (λ_ _ _ _=>(bE (i:=0) (show List.Nodup (["_law_number", "_law_book_here"]:List Str) by decide +kernel) rfl (Or.inl rfl))) (λ_ _ _ _=>cQ) (λ_ _ _ _=>(bF bV (bF bV (mv 1) (mv 0) (λ_ _=>rfl)) aK (λ_ _=>rfl)))) aB))) (mv 3) (aW _))))) (@aH _ _ _ (aY pQ)) bK) (@aE _ _ _ _ _ (aO 5 sc_law.nd (aS bW aK (aS gM (aS bZX (aU c_l_cell hr (by decide) rfl (aA (mv 0) (aA aK aB))) aK) aK))) (@aE _ _ _ _ _ (aO 6 sc_law.nd oA) (@aE _ _ _ _ _ (aO 7 sc_law.nd oA) (@aE _ _ _ _ _ (dA Bu rfl (cZS rfl G.b_zip (@cU _ _ _ _ _ _ (aA (aU c_l_stream hr (by decide) rfl (aA (aU c_l_cell hr (by decide) rfl (aA (mv 0) (aA aK aB))) (aA aK aB))) aB))) (fA (K:=K) (i:=8) (j:=9) (by rfl) (by rfl) sc_law.nd (by rfl) (by exact(Or.inl rfl)) (by exact Or.inl rfl) (by rfl) (by exact(Or.inl rfl)) (by exact Or.inl rfl)) (@aE _ _ _ _ _ (fT (Room.u1 hr) (mv 6) (mv 8) aK rfl) (@aH _ _ _ (fT (Room.u1 hr) (mv 7) (mv 8) (aS gM (mv 9) aK) rfl)))) (@aE _ _ _ _ _ (cI (aZ yO (aP bS rfl G.b_len bH (aA (mv 4) aB)) (mv 5) (aW _)) (@aH _ _ _ (aY (eG oJ (aU c_l_said hr (by decide) rfl (aA (aZH c_Tower_init hr (by decide) rfl G.c_Tower (aA (mv 1) (aA (mv 6) (aA (mv 5) aB)))) (aA (mv 3) aB))) dP (aW _)))) bK) (@aE _ _ _ _ _ (aO 10 sc_law.nd (aS bW (mv 4) (aS oH (cG (aA cZ aB)) (aS kW (mv 5) (aP bS rfl G.b_len bH (aA (mv 4) aB)))))) (@aE _ _ _ _ _ (cI (aZ (dZC hr.units0) (aU c_l_said hr (by decide) rfl (aA (aZH c_Tower_init hr (by decide) rfl G.c_Tower (aA (mv 1) (aA (mv 6) (aA (mv 5) aB)))) (aA (mv 3) aB))) (mv 10) (aW _)) (@aH _ _ _ (aY pQ)) bK) (@aE _ _ _ _ _ (aO 11 sc_law.nd (aZH c_Tower_init hr (by decide) rfl G.c_Tower (aA (mv 1) (aA (mv 7) (aA (mv 5) aB))))) (@aE _ _ _ _ _ (aO 12 sc_law.nd (aU c_l_said hr (by decide) rfl (aA (mv 11) (aA (mv 3) aB)))) (@aH _ _ _ (aY (eJE (eG (eJH hr.units0) (mv 12) (mv 10) (aW _)) (xZ (aZA (eG oJ (mv 12) dP (aW _)) (xZ (eG (sQ hr.units0) (aZZ c_Tower_read G.cl_Tower hr (by decide) (mv 11)) (aS oH (cG (aA cZ aB)) (mv 5)) (aW _)))))))))))))))))))))))),?_⟩
 have lam0:dN Pt H:=.inl hP
 walk_at "gs"
 with_reducible refine cP ?_
 walk_at "gs";refine⟨a,ns,rfl,hS,λrb bk cws H1 hrb s1 hbk hcw hnd hb1 hb9 hgb=>?_⟩;obtain⟨mss,hms⟩:=bJ0 hgb;have hL:=qI hms hgb.le
 have nd:=bZM hgb.means hms
 have hmb:=hms.1
 obtain⟨qs,b1,b2,b3⟩:=id hbk;have rq:=aM b1
 have hql:(qs.map V.ref).length=bk.length:=by rw[Ab,b2]
 walk_at "gs"
 with_reducible refine cP ?_
 walk_at "gs";refine⟨a,ns,2,rfl,s1.seq hS,by omega,λn2=>?_⟩
 walk_at "gs";obtain⟨n,en,hn1,hn8⟩:∃n:Nat,1+n2%8=(n:Int)/\1<=n/\n<=8:=aQY n2 (n:=8) (by decide)
 rw[en];refine⟨⟨by omega,by omega⟩,?_⟩
 rw[show ((n:Nat):Int).toNat=n from Ds _];refine kD (n:=n) (λD i ys Hc=>Same H1 Hc/\∃js:List Nat,ys=(js.map λk=>V.int ((k:Nat):Int))/\js.length=i/\∀j∈js,j<bk.length) (bD (by omega)) (λD hD=>⟨aF hD _,[],rfl,rfl,λj hj=>nomatch hj⟩) (λD i ys Hc _ r h=>h) (λD ys Hc _ r=>Aj n) ?_ ?_
 ·rintro D i ys Hc x H' A B hD hi ⟨sm,js,rfl,hjl,hjb⟩ hDc ⟨rfl,rfl⟩ ha hb;have rqc:=aI sm rq
  walk_at "gs";refine⟨Wk.set rfl (Wk.refl _),?_⟩;walk_at "gs";refine⟨a,ns,_,rfl,(s1.trans sm).seq hS,by omega,λn3=>?_⟩
  walk_at "gs";rw[hql];obtain⟨j,ej,hjb'⟩:∃j:Nat,n3%((bk.length:Nat):Int)=(j:Int)/\j<bk.length:=wZ n3 hb1;rw[ej];refine ha _ _ hDc ⟨bL hD sm,js++[j],by rw[Ar];rfl,by rw[Ah,hjl];rfl,λj' hj'=>?_⟩
  rcases Bo.mp hj' with z|z
  ·exact hjb j' z
  ·rw[Ap.mp z];exact hjb'
 rintro rd ys H2 hrd ⟨s2,js,rfl,hjl,hjb⟩ ed _;have hjm:∀j∈js,j<mss.length:=λj hj=>by rw[hmb];exact hjb j hj
 obtain⟨f0,f1,f2⟩:=sB hms hjm;have hbk2:=hbk.keep s2
 have hcov:=nG (T:=cO mss js) hL (Cy _) hjm Ho
 walk_at "gs"
 with_reducible refine cP ?_
 walk_at "gs";refine fE (xs:=(js.map λk=>V.int ((k:Nat):Int))) (aJF mss) (aM ed) (by rw[Ab];exact bD (by omega)) (λi' x Hc A B hx sm hA=>?_) (λD3 H3 hD3 s3 e3=>?_)
 ·rw[Af]at hx;obtain⟨k,ek,rfl⟩:=Bj.mp hx;have hk:=hjb k (Am ek)
  have hqk:qs[k]?=some (qs[k]'(by omega)):=Aa _
  have htp:=(s2.trans sm) _ _ (b3 k _ _ hqk (Aa hk))
  rw[(aJQ hms hk)]at htp;have r:A (V.str (bA (mss.getD k []))) Hc:=hA _ (Same.refl _)
  walk_at "gs";refine⟨Wk.set rfl (Wk.refl _),?_⟩;walk_at "gs";refine cD (aI (s2.trans sm) rq) (v:=.ref (qs[k]'(by omega))) (bC (by rw[Af,hqk];rfl)) ?_
  walk_at "gs";refine eP htp (v:=.str (bA (mss.getD k []))) (bC (j:=1) rfl) ?_;exact r
 rw[xO]at e3;walk_at "gs";refine aZW hms hjm (by omega) (by omega) (aM e3) ?_
 have edl:=s3 _ _ ed
 have s13:=s2.trans s3
 generalize hTe:cO mss js=T at hcov f0 f1 f2 ⊢;have hT1:1<=T.length:=by omega
 have hT40:T.length<=40:=by omega
 have rq3:=aI s13 rq
 walk_at "gs"
 with_reducible refine cP ?_
 walk_at "gs";intro rl hrl;have k4:=aF hrl (.lst (qs.map V.ref))
 have el4:(upd H3 rl (.lst (qs.map V.ref))) rl=some (.lst (qs.map V.ref)):=aD
 have s14:=s13.trans k4
 have ed4:=k4 _ _ edl
 generalize upd H3 rl (.lst (qs.map V.ref))=H4 at k4 el4 s14 ed4 ⊢;have l4:=lam0.keep (s1.trans s14)
 walk_at "gs";refine⟨rl,bk,mss,T,_,rfl,⟨qs,el4,b2,λj p b hp hb=>s14 _ _ (b3 j p b hp hb)⟩,hgb.le,hms,hT1,hT40,f2,hcov,l4,λrf TB ks H5 hrf s5 l5 ef ok hp=>?_⟩;have hbk5:BkAt H5 rb bk:=bkP (hbk.keep s14) s5 l4
 have ed5:=atP s5 l4 ed4 λ_=>nofun
 have sq5:SameP Pt H H5:=(Same.p (s1.trans s14)).trans s5
 obtain⟨hfl,hkm⟩:=kL hp;rw[Ho]at hfl;have hkb:∀k∈ks,k<bk.length:=λk hk=>by rw[<-hmb];exact hkm k hk
 have hkle:=pR hL ok hp hjm hTe
 have hk1:1<=ks.length:=by
  cases ks with
  |nil=>rw[hfl]at hT1;exact absurd hT1 (by show ¬1<=0;decide)
  |cons _ _=>rw[Au];omega
 have hvl:((ks.map λk=>V.int ((k:Nat):Int))).length=ks.length:=Ab ..
 have hjl':((js.map λk=>V.int ((k:Nat):Int))).length=n:=by rw[Ab];exact hjl
 have hk8:ks.length<=8:=by omega
 clear s3 s13 e3 edl s14 k4 el4 ed4 rq3 hrl hD3 f0 f1 ed;obtain⟨qs',b1',b2',b3'⟩:=id hbk5;have rq5:=aM b1'
 have rf5:=aM ef
 have rd5:=aM ed5
 walk_at "gs"
 with_reducible refine cP ?_
 walk_at "gs";refine fE (xs:=(ks.map λk=>V.int ((k:Nat):Int))) (aJF mss) rf5 (by rw[Ab];exact bD (by omega)) (λi' x Hc A B hx sm hA=>?_) (λD6 H6 hD6 s6 e6=>?_)
 ·rw[Af]at hx;obtain⟨k,ek,rfl⟩:=Bj.mp hx;have hk:=hkb k (Am ek)
  have hqk:qs'[k]?=some (qs'[k]'(by omega)):=Aa _
  have htp:=sm _ _ (b3' k _ _ hqk (Aa hk))
  rw[(aJQ hms hk)]at htp;have r:A (V.str (bA (mss.getD k []))) Hc:=hA _ (Same.refl _)
  walk_at "gs";refine⟨Wk.set rfl (Wk.refl _),?_⟩;walk_at "gs";refine cD (aI sm rq5) (v:=.ref (qs'[k]'(by omega))) (bC (by rw[Af,hqk];rfl)) ?_
  walk_at "gs";refine eP htp (v:=.str (bA (mss.getD k []))) (bC (j:=1) rfl) ?_;exact r
 rw[xO]at e6;walk_at "gs";refine aZW hms hkm hk1 (by omega) (aM e6) ?_
 rw[<-hfl];have rf6:=aI s6 rf5
 have rd6:=aI s6 rd5
 have hbk6:=hbk5.keep s6
 have hcov':Cov mss T 0 ks.length:=nG hL (Cy _) hkm (by rw[Ho];exact hfl)
 walk_at "gs";rw[show (!decide (bA T=bA T))=false by rw[An rfl];rfl]
 walk_at "gs"
 with_reducible refine cP ?_
 walk_at "gs";rw[hvl,hjl',Aw (show ¬((n:Nat):Int)<((ks.length:Nat):Int) by omega)]
 walk_at "gs";have hS6:=s6.seq (sqP lam0 sq5 hS)
 refine⟨rb,a,bk,mss,T,ns,_,rfl,hbk6,hgb.le,hms,hT1,hT40,f2,hcov',hS6,λro k2 H7 hro s7 eo ho hk2=>?_⟩;have hfew:=pR hL ok hp hk2 ho
 have ro7:=aM eo
 have hk2l:((k2.map λk=>V.int ((k:Nat):Int))).length=k2.length:=Ab ..
 have rf7:=aI s7 rf6
 walk_at "gs";rw[hvl,hk2l,Aw (show ¬((k2.length:Nat):Int)<((ks.length:Nat):Int) by omega)]
 walk_at "gs"
 with_reducible refine cP ?_
 walk_at "gs";refine⟨rb,bk,mss,T,rfl,hbk6.keep s7,hgb.le,hms,hT1,hT40,f2,λrt TC H8 hrt s8 et ok8=>?_⟩;obtain rfl:=zT hL ok8 ok;have h0:=aQE ok hp
 have hTBl:=ok.len
 walk_at "gs";refine cD (aM et) (v:=.int (ks.length:Int)) (by rw[show (0:Int)=((0:Nat):Int) from rfl,pM (by omega),h0];rfl) ?_
 rw[hvl];walk_at "gs";rw[show (!decide (((ks.length:Nat):Int)=((ks.length:Nat):Int)))=false by rw[An rfl];rfl]
 have s68:=s7.trans s8
 have hbk8:=hbk6.keep s68
 obtain⟨qs8,c1,c2,c3⟩:=id hbk8;have rq8:=aM c1
 have rf8:=aI s68 rf6
 walk_at "gs";refine fE (xs:=(ks.map λk=>V.int ((k:Nat):Int))) (dZ8 bk) rf8 (by rw[Ab];exact bD (by omega)) (λi' x Hc A B hx sm hA=>?_) (λD9 H9 hD9 s9 e9=>?_)
 ·rw[Af]at hx;obtain⟨k,ek,rfl⟩:=Bj.mp hx;have hk:=hkb k (Am ek)
  have hqk:qs8[k]?=some (qs8[k]'(by omega)):=Aa _
  have hbk':bk[k]?=some bk[k]:=Aa hk
  have htp:=sm _ _ (c3 k _ _ hqk hbk')
  have hwk:(bk.getD k (Str.empty,Str.empty)).1=bk[k].1:=by rw[Ac,hbk'];rfl
  have r:A (V.str (bk.getD k (Str.empty,Str.empty)).1) Hc:=hA _ (Same.refl _)
  walk_at "gs";refine⟨Wk.set rfl (Wk.refl _),?_⟩;walk_at "gs";refine cD (aI sm rq8) (v:=.ref (qs8[k]'(by omega))) (bC (by rw[Af,hqk];rfl)) ?_
  walk_at "gs";refine eP htp (v:=.str bk[k].1) (bC (j:=0) rfl) ?_;rw[hwk]at r;exact r
 rw[aJE]at e9;have s69:=s68.trans s9
 walk_at "gs";refine cZO hgb hms (hbk6.keep s69) (aM e9) hk1 (by omega) hkb λH10 s10=>?_
 rw[<-hfl];walk_at "gs";rw[show (!decide (bA T=bA T))=false by rw[An rfl];rfl]
 have s610:=s69.trans s10
 have rf10:=aI s610 rf6
 have ef10:=(s6.trans s610) _ _ ef
 have hbk10:=hbk6.keep s610
 have hS10:=s610.seq hS6
 have l10:=l5.keep (s6.trans s610)
 clear s7 s8 s9 s10 s68 s69 s610 hbk8 c1 c2 c3 rq8 rf8 e9 hD9 hrt et ro7 eo hro rf7 rd6 hbk6 hS6 e6 hD6 s6 ed5 rd5 hrf b1' b2' b3' rq5 rf5 hbk5 sq5 s5 l5 ef rf6 qs8 qs' hk2l hfew ho hk2 s2 hbk2 hrd;walk_at "gs"
 with_reducible refine cP ?_
 walk_at "gs";refine⟨a,ns,2,rfl,hS10,by omega,λn4=>?_⟩
 obtain⟨m,em,m1,m6⟩:∃m:Nat,1+n4 / 8%6=(m:Int)/\1<=m/\m<=6:=aQY (n4 / 8) (n:=6) (by decide)
 walk_at "gs";rw[em]
 with_reducible refine cP ?_
 walk_at "gs";intro rk hrk;have k11:=aF hrk (.dK [])
 have ek11:(upd H10 rk (.dK [])) rk=some (.dK []):=aD
 generalize upd H10 rk (.dK [])=H11 at k11 ek11 ⊢;walk_at "gs"
 with_reducible refine cP ?_
 walk_at "gs";intro rw' hrw;have k12:=k11.trans (aF hrw (.dK []))
 have ew12:(upd H11 rw' (.dK [])) rw'=some (.dK []):=aD
 have ek12:=aF hrw (.dK []) _ _ ek11
 have nkw:rk≠rw':=λz=>by rw[<-z,ek11]at hrw;cases hrw
 have hrw10:H10 rw'=none:=none_of k11 hrw
 generalize upd H11 rw' (.dK [])=H12 at k12 ew12 ek12 ⊢;walk_at "gs"
 with_reducible refine cP ?_
 walk_at "gs";refine⟨a,ns,1,rfl,k12.seq hS10,by omega,λn5=>?_⟩
 walk_at "gs";refine⟨n5,27,rfl,by omega,by omega,λrs ms H13 hrs s13 hml hm0 es=>?_⟩
 have k13:=k12.trans s13
 have ek13:=s13 _ _ ek12
 have ew13:=s13 _ _ ew12
 have nrk:rs≠rk:=λz=>by rw[z,ek12]at hrs;cases hrs
 have nrw:rs≠rw':=λz=>by rw[z,ew12]at hrs;cases hrs
 have rs13:=aM es
 walk_at "gs";have hfT:(Str.ofString "abcdefghijklmnopqrstuvw1234").cps.toList.length=27:=by decide +kernel
 have hyl:(ms.map V.int).length=27:=by rw[Ab];exact hml
 refine⟨by decide +kernel,?_⟩
 rw[rs13];refine dQ9 (z:=Str.ofString "abcdefghijklmnopqrstuvw1234") (ys:=ms.map V.int) (λi σ H'=>∃(kvs kws:List (Key×V)) (f g:Nat->Option Int) (v8 v9:Option V),σ=[some (.ref a),some (.ref rb),some (.ref rd),some (.str (bA T)),some (.ref rf),some (.int (m:Int)),some (.ref rk),some (.ref rw'),v8,v9,none,none,none]/\Same H10 H'/\H' rk=some (.dK kvs)/\Lk kvs f/\kvs.length<=i/\H' rw'=some (.dK kws)/\Lk kws g/\kws.length<=i/\rdL H' rs=some (ms.map V.int)/\(∀c,0<=aR f c)/\(∀c,0<=aR g c)/\∀c∈(Str.ofString "abcdefghijklmnopqrstuvw1234").cps.toList.take i,aR f c=50)
  ⟨[],[],_,_,_,_,rfl,k13,ek13,.nil,Aj _,ew13,.nil,Aj _,rs13,(λc=>Hw _),(λc=>Hw _),λc hc=>nomatch hc⟩ (λi σ H' _ _ ⟨_,_,_,_,_,_,_,_,_,_,_,_,_,_,r,_⟩=>r) ?_ ?_
 ·rintro i c y σ H14 pt hc hy ⟨kvs,kws,f,g,v8,v9,rfl,s14,ek,lk,hkl,ew,lw,hwl,r14,hf0,hg0,h50⟩ hpt;rw[Af]at hy;obtain⟨y,ey,rfl⟩:=Bj.mp hy;have hy0:=hm0 y (Am ey)
  have k15:=aF hpt (.tup [.str ⟨#[c]⟩,.int y])
  have t15:=eE (show (upd H14 pt (.tup [.str ⟨#[c]⟩,.int y])) pt=_ from aD)
  have s15:=s14.trans k15
  have ek15:=k15 _ _ ek
  have ew15:=k15 _ _ ew
  have r15:=aI k15 r14
  generalize upd H14 pt (.tup [.str ⟨#[c]⟩,.int y])=H15 at k15 t15 s15 ek15 ew15 r15 ⊢;have hi27:i<27:=by have:=(Ae.mp hc).1;omega
  walk_at "gs"
  with_reducible refine cP ?_
  walk_at "gs";refine iI (z:=one c) ek15 (bD (by omega)) ?_
  have l1:=dE kvs (Sum.inr (one c)) (.int 50)
  have lk':=lk.put c 50
  have ew16:(upd H15 rk (.dK (cM kvs (Sum.inr (one c)) (.int 50)))) rw'=some (.dK kws):=by rw[aG (Ne.symm nkw)];exact ew15
  have ek16:(upd H15 rk (.dK (cM kvs (Sum.inr (one c)) (.int 50)))) rk=some (.dK (cM kvs (Sum.inr (one c)) (.int 50))):=aD
  have s16:Same H10 (upd H15 rk (.dK (cM kvs (Sum.inr (one c)) (.int 50)))):=bL hrk s15
  have r16:rdL (upd H15 rk (.dK (cM kvs (Sum.inr (one c)) (.int 50)))) rs=some (ms.map V.int):=by rw[tG nrk];exact r15
  generalize upd H15 rk (.dK (cM kvs (Sum.inr (one c)) (.int 50)))=H16 at ew16 ek16 s16 r16 ⊢;generalize cM kvs (Sum.inr (one c)) (.int 50)=kvs' at l1 lk' ek16;have x0:=Gv y (show (3:Int)≠0 by decide)
  walk_at "gs";refine iI (z:=one c) ew16 (bD (by omega)) ?_
  have l2:=dE kws (Sum.inr (one c)) (.int (y%3))
  refine⟨_,_,_,_,_,_,rfl,bL hrw10 s16,by rw[aG nkw];exact ek16,lk',by omega,aD,lw.put c _,by omega,by rw[tG nrw];exact r16,λd=>?_,λd=>?_,λd hd=>?_⟩
  ·show 0<=((if d=c then some (50:Int) else f d):Option Int).getD 0
   by_cases z:d=c
   ·rw[if_pos z];decide
   ·rw[if_neg z];exact hf0 d
  ·show 0<=((if d=c then some (y%3) else g d):Option Int).getD 0
   by_cases z:d=c
   ·rw[if_pos z];exact x0
   ·rw[if_neg z];exact hg0 d
  ·show ((if d=c then some (50:Int) else f d):Option Int).getD 0=50
   by_cases z:d=c
   ·rw[if_pos z];rfl
   ·rw[if_neg z];rw[Bh,hc]at hd;rcases Bo.mp hd with u|u
    ·exact h50 d u
    ·exact absurd (Ap.mp u) z
 ·rintro σ H14 ⟨kvs,kws,f,g,v8,v9,rfl,s14,ek,lk,hkl,ew,lw,hwl,r14,hf0,hg0,h50⟩;rw[hfT,hyl,Nat.min_self]at h50;have h50':∀c,kU c->aR f c=50:=λc hc=>h50 c (by rw[Bk (by omega)];exact flags_mem.mpr hc)
  clear h50 hkl hwl r14;have ef14:=s14 _ _ ef10
  have rf14:=aM ef14
  have hbk14:=hbk10.keep s14
  have l14:=l10.keep s14
  have lhs:(((ks.map λk=>V.int ((k:Nat):Int))).length:Int)=(ks.length:Int):=by rw[hvl]
  have sn:∀ {H':Hp} {b':Addr},BkAt H' b' bk->SayIn H' b' bk cws mss T ks.length:=λh=>⟨h,hcw,hgb.le,hms,hT1,hT40,f2,hcov'⟩
  have uq:∀ {k2:List Nat} {TC:List (Option Int)},TabOk mss T TC->Path mss T TC 0 k2->k2=ks:=fun {k2 TC} o p=>by rw[zT hL o ok]at p;exact aJ9 nd p hp
  dsimp only
  with_reducible refine cP ?_
  walk_at "gs";rw[lhs];by_cases hgt:m<ks.length
  ·rw[An (show ((m:Nat):Int)<((ks.length:Nat):Int) by omega)]
   walk_at "gs";refine qX hbk14 ek lk m6 λx dx b' s0 st hg dd H15 s15 ex hb15 tw edd=>?_;walk_at "gs";refine⟨x,dx,b',s0,st,hg,dd,m,_,_,bk,cws,mss,T,_,rfl,ex,tw,Ay ..,m6,sn hb15,hnd,hb1,l14.keep s15,edd,λk2 TC H16 o2 p2 _ _ _=>?_,λk2 TC W F H16 o2 p2 hle _ _ _=>?_,λk2 TC r H16 o2 p2 hle _ _ _=>?_⟩
   ·walk_at "gs";rw[An rfl];exact q _
   ·obtain rfl:=uq o2 p2;omega
   ·obtain rfl:=uq o2 p2;omega
  rw[Aw (show ¬((m:Nat):Int)<((ks.length:Nat):Int) by omega)]
  have hle:ks.length<=m:=by omega
  walk_at "gs"
  with_reducible refine cP ?_
  walk_at "gs";refine⟨by show 1<=sizeLine;decide,λp15 hp15=>?_⟩
  have k15:=aF hp15 (.lst [V.non])
  have e15:(upd H14 p15 (.lst [V.non])) p15=some (.lst [V.non]):=aD
  generalize upd H14 p15 (.lst [V.non])=H15 at k15 e15 ⊢;have rf15:=aI k15 rf14
  walk_at "gs";obtain⟨m2,em2⟩:∃m2:Nat,m=ks.length+m2:=⟨m-ks.length,by omega⟩
  rw[hvl,show ((m:Nat):Int)-((ks.length:Nat):Int)=((m2:Nat):Int) by omega]
  refine⟨p15,_,[V.non],rfl,rfl,e15,by omega,by omega,by show 1*((m2:Int)).toNat<=sizeLine;exact bJ (by omega),λp16 hp16=>?_⟩
  rw[nH];have k16:=k15.trans (aF hp16 (.lst (List.replicate m2 V.non)))
  have e16:(upd H15 p16 (.lst (List.replicate m2 V.non))) p16=some (.lst (List.replicate m2 V.non)):=aD
  generalize upd H15 p16 (.lst (List.replicate m2 V.non))=H16 at k16 e16 ⊢;refine jN (xs:=(ks.map λk=>V.int ((k:Nat):Int))) (ys:=List.replicate m2 V.non) (cC (k16 _ _ ef14)) (cC e16) (bJ (by rw[Ab,Ay];omega)) λru hru=>?_
  have k17:=k16.trans (aF hru (.lst ((ks.map λk=>V.int ((k:Nat):Int))++List.replicate m2 V.non)))
  have e17:(upd H16 ru (.lst ((ks.map λk=>V.int ((k:Nat):Int))++List.replicate m2 V.non))) ru=some (.lst ((ks.map λk=>V.int ((k:Nat):Int))++List.replicate m2 V.non)):=aD
  generalize upd H16 ru (.lst ((ks.map λk=>V.int ((k:Nat):Int))++List.replicate m2 V.non))=H17 at k17 e17 ⊢;have em3:m-ks.length=m2:=by omega
  have l17:=l14.keep k17
  have hfl7:∀n7:Nat,(List.replicate n7 V.non).all cN=true:=λn7=>Ce.mpr λv hv=>by rw[(Gz.mp hv).2];rfl
  have hflat:((ks.map λk=>V.int ((k:Nat):Int))++List.replicate m2 V.non).all cN=true:=by
   rw[List.all_append,hfl7,Bool.and_true];exact Ce.mpr λv hv=>by obtain⟨k,_,rfl⟩:=Bb.mp hv;rfl
  have eqs:=mC _ hflat
  have hdne:(ks.map λk=>V.int ((k:Nat):Int))++List.replicate m2 V.non≠[]:=λz=>by have:=Dk List.length z;rw[Ah,hvl,Fq]at this;omega
  have hcb:=hcw.1
  walk_at "gs"
  with_reducible refine cP ?_
  walk_at "gs";refine qX (hbk14.keep k17) (k17 _ _ ek) lk m6 λx dx b' s0 st hg dd H18 s18 ex hb18 tw edd=>?_;have e18:=s18 _ _ e17
  walk_at "gs";refine⟨x,dx,b',s0,st,hg,dd,m,_,_,bk,cws,mss,T,_,rfl,ex,tw,Ay ..,m6,sn hb18,hnd,hb1,l17.keep s18,edd,λk2 TC H19 o2 p2 hlt _ _=>?_,λk2 TC W F H19 o2 p2 _ hlk _ _=>?_,λk2 TC r H19 o2 p2 _ sE lE er=>?_⟩
  ·obtain rfl:=uq o2 p2;omega
  ·refine(dQP (λc hc=>?_) (by rw[Ab];obtain rfl:=uq o2 p2;omega) (λc hc=>?_) hlk).elim
   ·obtain⟨k,hk,rfl⟩:=Bb.mp hc;obtain rfl:=uq o2 p2;have hk':k<cws.length:=by have:=hkb k hk;omega
    have:=(hcw.2 k _ _ (Aa (hkb k hk)) (Aa hk')).2.2.1
    unfold fwS;rw[Ac,Aa hk',Ah];show _+1<=7
    show cws[k].length+1<=7
    omega
   ·have v1:aR (bM (aR f)) c=50:=by rw[lY hc (by rw[h50' c hc];decide)];exact h50' c hc
    have v2:aR (bM λc=>aR (bM (aR f)) c+cnt (cA (List.replicate m none) (List.range (List.replicate m (none:Option (List Nat))).length)) c) c=50:=by
     rw[mX,lY hc (by rw[v1];show (0:Int)<50+0;decide),v1]
     rfl
    rw[lY hc (by rw[v2];decide)]
    exact v2
  obtain rfl:=uq o2 p2;rw[em3]at er;have l18:=l17.keep s18
  have nE:∀y o,H18 y=some o->(∀ps,o≠.tbl ps)->(∀c d f,o≠.ins c d f)->o≠.lst []->H19 y=some o:=λy o e n1 n2 n3=>sE y o (no3 (xG l18 e n1) (λz=>by rw[z,ex]at e;exact n2 _ _ _ (Bf e).symm) (λz=>by rw[z,edd]at e;exact n3 (Bf e).symm)) e
  have e19:=nE _ _ e18 (λ_=>nofun) (λ_ _ _=>nofun) (λz=>hdne (by injection z))
  have bk18:BkAt H18 rb bk:=(hbk14.keep k17).keep s18
  have bk19:BkAt H19 rb bk:=by
   obtain⟨qs,c1,c2,c3⟩:=bk18;exact⟨qs,nE _ _ c1 (λ_=>nofun) (λ_ _ _=>nofun) (λz=>by
    have:qs.map V.ref=[]:=by injection z
    rw[Gm]at this;rw[this]at c2;rw[<-c2]at hb1;exact absurd hb1 (by decide)),c2,λj p b hp hb=>nE _ _ (c3 j p b hp hb) (λ_=>nofun) (λ_ _ _=>nofun) nofun⟩
  have ew19:=nE _ _ (s18 _ _ (k17 _ _ ew)) (λ_=>nofun) (λ_ _ _=>nofun) nofun
  walk_at "gs";refine nZ (aM er) (aM e19) hflat hflat ?_;rw[if_pos rfl,eqs];clear ex hb18 tw edd sE nE bk18 e18 s18 l18 er;walk_at "gs"
  with_reducible refine cP ?_
  walk_at "gs";refine qX bk19 ew19 lw m6 λx dx b' s0 st hg dd H20 s20 ex hb20 tw edd=>?_;have e20:=s20 _ _ e19
  have l20:=lE.keep s20
  walk_at "gs"
  with_reducible refine cP ?_
  walk_at "gs";refine⟨x,dx,b',s0,st,hg,dd,m,_,_,bk,cws,mss,T,_,rfl,ex,tw,Ay ..,m6,sn hb20,hnd,hb1,l20,edd,λk2 TC H21 o3 p3 hlt _ _=>?_,λk2 TC W F H21 o3 p3 _ _ s21 l21=>?_,λk2 TC r3 H21 o3 p3 _ sE3 lE3 er3=>?_⟩
  ·obtain rfl:=uq o3 p3;omega
  ·have e21:=atP s21 l20 e20 λ_=>nofun
   have ex21:=atP s21 l20 ex λ_=>nofun
   have bk21:=bkP hb20 s21 l20
   have tw21:=twP tw s21 l20
   obtain⟨⟨us,u1,u2⟩,uok,_,_⟩:=id tw21;have hul:=u2.len
   rw[Ay]at hul;walk_at "gs";refine .inl ⟨_,_,_,rfl,rfl,aM e21,?_⟩;walk_at "gs";rw[An (rfl:Str.ofString "lack"=Str.ofString "lack")];walk_at "gs";refine⟨x,dx,_,rfl,ex21,rF,?_⟩;walk_at "gs";refine⟨x,b',s0,st,hg,dd,dx,m,us,_,bk,cws,rfl,ex21,aM u1,u2,by omega,uok,bk21,hgb.le,hcw,λr9 H22 hr9 s22 e22=>?_⟩
   rw[List.map_replicate,show rdN cws none=V.non from rfl]at e22;walk_at "gs";refine⟨by show 1<=sizeLine;decide,λp23 hp23=>?_⟩
   have k23:=aF hp23 (.lst [V.non])
   have e23:(upd H22 p23 (.lst [V.non])) p23=some (.lst [V.non]):=aD
   generalize upd H22 p23 (.lst [V.non])=H23 at k23 e23 ⊢;walk_at "gs";refine⟨p23,_,[V.non],rfl,rfl,e23,by omega,by omega,by show 1*((m:Int)).toNat<=sizeLine;exact bJ (by omega),λp24 hp24=>?_⟩
   rw[nH];have k24:=k23.trans (aF hp24 (.lst (List.replicate m V.non)))
   refine nZ (aM (k24 _ _ e22)) bU (hfl7 m) (hfl7 m) ?_;rw[if_neg Ao,mC _ (hfl7 m)];exact q _
  ·obtain rfl:=uq o3 p3;rw[em3]at er3;have e21:=sE3 _ _ (no3 (xG l20 e20 λ_=>nofun) (λz=>by rw[z,ex]at e20;cases e20) (λz=>by rw[z,edd]at e20;exact hdne (by injection (Bf e20).symm))) e20
   walk_at "gs";refine .inr (nZ (aM er3) (aM e21) hflat hflat ?_);rw[if_neg Ao,eqs];walk_at "gs";exact q _
end
variable {A:List (Nat×Wt)}{ch:Wt->List Nat}{first w:Wt}{m:List (Wt×Nat)}{ws:List Wt}
def FnP(K:W.Frag)(x q:Str)(st:Stmt)(f:Addr):Prop:=∃(oc:Value) (od:Option Addr) (sl:Array (Option Value)) (kV dc pm:Value) (an:Option Addr) (cd ct:Value),K.lookup f=some ⟨oc,od,.func (W.fnOf x q (iM st) (eW st) (aJ st) .none kV dc pm an cd ct),sl⟩/\W.codeIn K cd q=true/\W.keepIn K (.ref f)=true
abbrev FnG(K:W.Frag)(x:Str)(st:Stmt)(f:Addr):Prop:=W.nsIn K mainGlobals x=some (some (.ref f))/\FnP K x x st f
abbrev FnM(K:W.Frag)(C:Addr)(x q:Str)(st:Stmt)(f:Addr):Prop:=W.findIn K (.ref C) x=some (some (.ref f))/\W.isFn K (.ref f)=true/\FnP K x q st f
abbrev FnI(K:W.Frag)(C:Addr)(q:Str)(st:Stmt)(f:Addr):Prop:=W.findIn K (.ref C) "__init__"=some (some (.ref f))/\W.typeIn K (.ref f)=some (.type "function")/\FnP K "__init__" q st f
abbrev cJ1(x q:Str)(st:Stmt)(ps:List Str):Prop:=∀(kV doc pm:Value) (an:Option Addr) (cdv ct:Value) (us:List Value),us.length=ps.length->bindArgs (W.fnOf x q (iM st) (eW st) (aJ st) .none kV doc pm an cdv ct) ⟨us,[]⟩=pure (ps.zip us)
def FnP.c{P:Program}{w:World}{K:W.Frag}{base:Heap}{CX:CXT}{x q:Str}{st:Stmt}{ps:List Str}{sp:Sp}(p:FnP K x q st f)(o:∀ {fd:FuncData},Fun K x q st f fd->FnOk P w K mg base CX k f fd ps sp)(hb:cJ1 x q st ps):∃fd:FuncData,FnOk P w K mg base CX k f fd ps sp/\W.keepIn K (.ref f)=true/\Binds K fd ps []:=by
 obtain⟨_,_,_,_,_,_,_,_,_,l,c,k⟩:=p;have F:=aZC (st:=st) l c k
 exact⟨_,o F,k,F.binds hb⟩
local macro_rules | `(tactic| walk_at "bd") => `(tactic| (intro a1 a2 a3 a4 a5 a6 us hl; iterate 7 (all_goals try (rcases us with _ | ⟨u,us⟩; (· first | rfl | (simp at hl)))); all_goals (simp at hl)))
def all_mk{l:W.OpenLaw}{w:World}{K:W.Frag}{h:Heap}{fa:Addr}{f_0 f_1 f_2 f_3 f_4 f_5 f_6 f_7 f_8 f_9 f_10 f_11 f_12 f_13 f_14 f_15 f_16 f_17 f_18 f_19 f_20 f_21 f_22 f_23 f_24 f_25 f_26 f_27 f_28 f_29 f_30 f_31 f_32 f_33 f_34 f_35 f_36 f_37 f_38 f_39 f_40 f_41 f_42 f_43 f_44 f_45 f_46 f_47:Addr}{t_LONGEST_TERM t_TERM_LETTERS t_MOST_TERMS t_FLAGS t_LETTERS t_SUBSTITUTES t_MOST_PLACES:Tok}{dd_THINGS_IN:Addr}{es_THINGS_IN:Array DictEntry}{ep_THINGS_IN:Nat}{c:Addr}(X:K.In h)(Gn:h.Ns mainGlobals mg)(hfa:mg "law"=some (.ref fa))(TH:aJX h mg "longest_on" c)(q_Lack:W.nsIn K mainGlobals "Lack"=some (some (.ref Zu)))(q_TowerError:W.nsIn K mainGlobals "TowerError"=some (some (.ref Zz)))(q_Short:W.nsIn K mainGlobals "Short"=some (some (.ref Zv)))(q_NoHoist:W.nsIn K mainGlobals "NoHoist"=some (some (.ref Zx)))(q_Tower:W.nsIn K mainGlobals "Tower"=some (some (.ref Z0)))(q_NoDeed:W.nsIn K mainGlobals "NoDeed"=some (some (.ref Zw)))(q_NoHalyard:W.nsIn K mainGlobals "NoHalyard"=some (some (.ref Zy)))(p_0:FnG K "_law_stream" mQ f_0)(p_1:FnG K "_law_cell" rE f_1)(p_2:FnG K "_law_book" nY f_2)(p_3:FnG K "is_term" oK f_3)(p_4:FnG K "is_row_of_terms" eK f_4)(p_5:FnG K "terms_of" mO f_5)(p_6:FnG K "meanings_of" gU f_6)(p_7:FnG K "standing_at" fD f_7)(p_8:FnG K "least_numbers" dS f_8)(p_9:FnG K "longest_on" dJ f_9)(p_10:FnG K "cut_text" lU f_10)(p_11:FnG K "plain_locker" gA f_11)(p_12:FnM K Z0 "__init__" "Tower.__init__" iJ f_12)(p_13:FnG K "rank_of" pC f_13)(p_14:FnG K "is_divided" iU f_14)(p_15:FnG K "hidden_letter" dU f_15)(p_16:FnG K "check_of" mH f_16)(p_17:FnG K "with_check" iP f_17)(p_18:FnG K "is_flag" oP f_18)(p_19:FnG K "may_stand" jE f_19)(p_20:FnG K "is_hoist" mJ f_20)(p_21:FnG K "read_of" oW f_21)(p_22:FnM K Z0 "read" "Tower.read" fS f_22)(p_23:FnG K "put_in" sY f_23)(p_24:FnG K "wants_of" iG f_24)(p_25:FnG K "choices_at" fR f_25)(p_26:FnG K "choices_of" iT f_26)(p_27:FnG K "hoists_of" jJ f_27)(p_28:FnG K "asked_from" fP f_28)(p_29:FnG K "hang_along" iH f_29)(p_30:FnI K Zu "Lack.__init__" kC f_30)(p_31:FnG K "hang_all" dZ f_31)(p_32:FnG K "flags_on" mP f_32)(p_33:FnG K "all_flags_on" gD f_33)(p_34:FnI K Zv "Short.__init__" iV f_34)(p_35:FnG K "taken" wL f_35)(p_36:FnG K "behind_say" fQ f_36)(p_37:FnG K "behind_haul" lG f_37)(p_38:FnG K "behind_lower" jG f_38)(p_39:FnG K "behind_lose" lD f_39)(p_40:FnG K "behind_find" lB f_40)(p_41:FnG K "behind_deed" hU f_41)(p_42:FnM K Z0 "do" "Tower.do" lW f_42)(p_43:FnG K "_law_said" rV f_43)(p_44:FnG K "text_said" gR f_44)(p_45:FnG K "_law_walks" oF f_45)(p_46:FnG K "_law_other" pE f_46)(p_47:FnG K "law" jO f_47)(z_range:W.nsIn K mainGlobals "range"=some none)(z_len:W.nsIn K mainGlobals "len"=some none)(z_all:W.nsIn K mainGlobals "all"=some none)(z_enumerate:W.nsIn K mainGlobals "enumerate"=some none)(z_min:W.nsIn K mainGlobals "min"=some none)(z_max:W.nsIn K mainGlobals "max"=some none)(z_list:W.nsIn K mainGlobals "list"=some none)(z_sum:W.nsIn K mainGlobals "sum"=some none)(z_int:W.nsIn K mainGlobals "int"=some none)(z_dict:W.nsIn K mainGlobals "dict"=some none)(z_zip:W.nsIn K mainGlobals "zip"=some none)(z_isinstance:W.nsIn K mainGlobals "isinstance"=some none)(g_LONGEST_TERM:W.nsIn K mainGlobals "LONGEST_TERM"=some (some (.int 10 t_LONGEST_TERM)))(g_TERM_LETTERS:W.nsIn K mainGlobals "TERM_LETTERS"=some (some (.str "abcdefghijklmnopqrstuvwxyz" t_TERM_LETTERS)))(g_MOST_TERMS:W.nsIn K mainGlobals "MOST_TERMS"=some (some (.int 40 t_MOST_TERMS)))(g_FLAGS:W.nsIn K mainGlobals "FLAGS"=some (some (.str "abcdefghijklmnopqrstuvw1234" t_FLAGS)))(g_LETTERS:W.nsIn K mainGlobals "LETTERS"=some (some (.str "abcdefghijklmnopqrstuvw" t_LETTERS)))(g_SUBSTITUTES:W.nsIn K mainGlobals "SUBSTITUTES"=some (some (.str "1234" t_SUBSTITUTES)))(g_MOST_PLACES:W.nsIn K mainGlobals "MOST_PLACES"=some (some (.int 7 t_MOST_PLACES)))(KF:KFs K Zu Zz Zv Zx Z0 Zw Zy)(qd_THINGS_IN:W.nsIn K mainGlobals "THINGS_IN"=some (some (.ref dd_THINGS_IN)))(ld_THINGS_IN:K.lookup dd_THINGS_IN=some ⟨.type "dict",none,.dict es_THINGS_IN ep_THINGS_IN,#[]⟩)(sd_THINGS_IN:(dd_THINGS_IN==sysModules)=false)(ed_THINGS_IN:wW w es_THINGS_IN.toList [("haul",3),("lower",2),("lose",2),("find",2),("say",2)]):∃fd:FuncData,(∀(s:Shared) (v:Value),BindsTo s fd ⟨[v],[]⟩ [("_law_script",v)])/\∀base:Heap,K.In base->base.Ns mainGlobals mg->LamB mg base c Pt->FnOk l.prog w K mg base CX0 11 fa fd ["_law_script"] (wF K Pt):=by
 have M:∀ {x:Str} {v:Value},W.nsIn K mainGlobals x=some (some v)->mg x=some v:=λh=>W.mg_of X Gn h
 have N:∀ {x:Str},W.nsIn K mainGlobals x=some none->mg x=none:=λh=>W.mg_none_of X Gn h
 have e:=hfa.symm.trans (M p_47.1)
 cases e;have G:Gs K mg w Zu Zz Zv Zx Z0 Zw Zy:=⟨KF,M q_Lack,M q_TowerError,M q_Short,M q_NoHoist,M q_Tower,M q_NoDeed,M q_NoHalyard,⟨_,_,_,M qd_THINGS_IN,ld_THINGS_IN,sd_THINGS_IN,ed_THINGS_IN,by decide +kernel⟩,N z_range,N z_len,N z_all,N z_enumerate,N z_min,N z_max,N z_list,N z_sum,N z_int,N z_dict,N z_zip,N z_isinstance,⟨_,M g_LONGEST_TERM⟩,⟨_,M g_TERM_LETTERS⟩,⟨_,M g_MOST_TERMS⟩,⟨_,M g_FLAGS⟩,⟨_,M g_LETTERS⟩,⟨_,M g_SUBSTITUTES⟩,⟨_,M g_MOST_PLACES⟩⟩
 obtain⟨_,_,_,kV,dc,pm,an,cd,ct,lk,hc,hk⟩:=p_47.2;have F:=aZC (st:=jO) lk hc hk
 refine⟨W.fnOf "law" "law" (iM jO) (eW jO) (aJ jO) .none kV dc pm an cd ct,λs v=>.of_eq rfl,λbase _ _ LB=>?_⟩;have mk:∀ {CX:CXT} {k:Nat} {x:Str} {st:Stmt} {f:Addr} {ps:List Str} {sp:Sp},FnG K x st f->(∀ {fd:FuncData},Fun K x x st f fd->FnOk l.prog w K mg base CX k f fd ps sp)->cJ1 x x st ps->∃(f:Addr) (fd:FuncData),FnOk l.prog w K mg base CX k f fd ps sp/\mg x=some (.ref f)/\W.keepIn K (.ref f)=true/\Binds K fd ps []:=λp o hb=>by
  obtain⟨fd,a,b,c⟩:=p.2.c o hb;exact⟨_,fd,a,M p.1,b,c⟩
 have mt:∀ {CX:CXT} {k:Nat} {x:Str} {st:Stmt} {f:Addr} {ps:List Str} {sp:Sp} {C:Addr} {q:Str},FnM K C x q st f->(∀ {fd:FuncData},Fun K x q st f fd->FnOk l.prog w K mg base CX k f fd ps sp)->cJ1 x q st ps->bXZ CX l.prog w K mg base k C x ps sp:=λp o hb=>by
  obtain⟨fd,a,b,c⟩:=p.2.2.c o hb;exact⟨_,fd,a,⟨p.1,p.2.1,b⟩,c⟩
 have mi:∀ {k:Nat} {st:Stmt} {f:Addr} {ps:List Str} {sp:Sp} {C:Addr} {q:Str},FnI K C q st f->(∀ {fd:FuncData},Fun K "__init__" q st f fd->FnOk l.prog w K mg base CX0 k f fd ps sp)->cJ1 "__init__" q st ps->bJV l.prog w K mg base k C ps sp:=λp o hb=>by
  obtain⟨fd,a,b,c⟩:=p.2.2.c o hb;exact⟨_,fd,a,p.1,p.2.1,c⟩
 have c_l_stream:=mk p_0 (λF=>yM F G ) (by walk_at "bd")
 have c_l_cell:=mk p_1 (λF=>bQW F G ) (by walk_at "bd")
 have c_l_book:=mk p_2 (λF=>bQ4 F G c_l_stream c_l_cell) (by walk_at "bd")
 have c_is_term:=mk p_3 (λF=>aXH F G ) (by walk_at "bd")
 have c_is_row_of_terms:=mk p_4 (λF=>mF F G c_is_term) (by walk_at "bd")
 have c_terms_of:=mk p_5 (λF=>zX F G c_is_row_of_terms) (by walk_at "bd")
 have c_meanings_of:=mk p_6 (λF=>qR F G ) (by walk_at "bd")
 have c_standing_at:=mk p_7 (λF=>tL F G ) (by walk_at "bd")
 have c_least_numbers:=mk p_8 (λF=>oY F G c_standing_at) (by walk_at "bd")
 have c_longest_on:Cal l.prog w K mg base 2 "longest_on" ["meanings", "terms", "table", "start"] (gZ Pt):=by
  obtain⟨_,_,_,_,_,_,_,_,_,l,c,k⟩:=p_9.2;have F:=aZC (st:=dJ) l c k
  have b:=F.binds (ps:=["meanings", "terms", "table", "start"]) (by walk_at "bd")
  exact⟨_,_,uI F G (dQ3 TH X (M p_9.1) l) LB c_standing_at,M p_9.1,k,b⟩
 have c_cut_text:=mk p_10 (λF=>aQ1 F G c_terms_of c_meanings_of c_least_numbers c_longest_on) (by walk_at "bd")
 have c_plain_locker:=mk p_11 (λF=>pZ F G ) (by walk_at "bd")
 have c_Tower_init:dZU CX0 l.prog w K mg base 2 Z0 ["self", "book", "locker", "many"] (eZ Z0):=by
  obtain⟨fd,a,b,c⟩:=p_12.2.2.c (λF=>tZ F G c_plain_locker) (by walk_at "bd")
  exact⟨_,fd,a,⟨G.mk1_Tower,p_12.1,p_12.2.1,G.mk2_Tower⟩,c⟩
 have c_rank_of:=mk p_13 (λF=>aX3 F G ) (by walk_at "bd")
 have c_is_divided:=mk p_14 (λF=>uJ F G c_rank_of) (by walk_at "bd")
 have c_hidden_letter:=mk p_15 (λF=>pA F G c_is_divided) (by walk_at "bd")
 have c_check_of:=mk p_16 (λF=>zB F G c_hidden_letter) (by walk_at "bd")
 have c_with_check:=mk p_17 (λF=>tX F G c_check_of) (by walk_at "bd")
 have c_is_flag:=mk p_18 (λF=>aZF F G ) (by walk_at "bd")
 have c_may_stand:=mk p_19 (λF=>wX F G c_is_flag) (by walk_at "bd")
 have c_is_hoist:=mk p_20 (λF=>aQX F G c_may_stand) (by walk_at "bd")
 have c_read_of:=mk p_21 (λF=>aXA F G c_is_hoist) (by walk_at "bd")
 have c_Tower_read:=mt p_22 (λF=>tP F G c_with_check c_read_of) (by walk_at "bd")
 have c_put_in:=mk p_23 (λF=>bQ6 F G c_plain_locker) (by walk_at "bd")
 have c_wants_of:=mk p_24 (λF=>zV F G ) (by walk_at "bd")
 have c_choices_at:=mk p_25 (λF=>uK F G ) (by walk_at "bd")
 have c_choices_of:=mk p_26 (λF=>tS F G c_wants_of c_choices_at) (by walk_at "bd")
 have c_hoists_of:=mk p_27 (λF=>xQ F G ) (by walk_at "bd")
 have c_asked_from:=mk p_28 (λF=>tY F G ) (by walk_at "bd")
 have c_hang_along:=mk p_29 (λF=>tW F G ) (by walk_at "bd")
 have c_Lack_init:=mi p_30 (λF=>wM F G ) (by walk_at "bd")
 have c_hang_all:=mk p_31 (λF=>zM F G c_choices_of c_plain_locker c_hoists_of c_asked_from c_hang_along c_Lack_init) (by walk_at "bd")
 have c_flags_on:=mk p_32 (λF=>yU F G ) (by walk_at "bd")
 have c_all_flags_on:=mk p_33 (λF=>qF F G c_flags_on) (by walk_at "bd")
 have c_Short_init:=mi p_34 (λF=>tR F G ) (by walk_at "bd")
 have c_taken:=mk p_35 (λF=>bJ6 F G c_plain_locker c_Short_init) (by walk_at "bd")
 have c_behind_say:=mk p_36 (λF=>uE F G c_put_in c_hang_all c_with_check c_all_flags_on c_taken c_cut_text) (by walk_at "bd")
 have c_behind_haul:=mk p_37 (λF=>sZ F G ) (by walk_at "bd")
 have c_behind_lower:=mk p_38 (λF=>qA F G ) (by walk_at "bd")
 have c_behind_lose:=mk p_39 (λF=>rL F G ) (by walk_at "bd")
 have c_behind_find:=mk p_40 (λF=>sJ F G ) (by walk_at "bd")
 have c_behind_deed:=mk p_41 (λF=>tH F G c_behind_say c_behind_haul c_behind_lower c_behind_lose c_behind_find) (by walk_at "bd")
 have c_Tower_do:=mt p_42 (λF=>zC F G c_behind_deed) (by walk_at "bd")
 have c_l_said:=mk p_43 (λF=>bQC F G c_Tower_read c_Tower_do) (by walk_at "bd")
 have c_text_said:=mk p_44 (λF=>xC F G ) (by walk_at "bd")
 have c_l_walks:=mk p_45 (λF=>aQ5 F G ) (by walk_at "bd")
 have c_l_other:=mk p_46 (λF=>aQ4 F G c_l_walks c_l_cell) (by walk_at "bd")
 exact dJ9 F G c_l_book c_cut_text c_Tower_init c_l_said c_l_stream c_l_cell c_text_said c_l_other c_l_walks c_Tower_read
def walk{l:W.OpenLaw}{q:Program}{loose:List Str}{XP:(Q5)->Heap->Prop}{YP:World->Heap->Prop}{d:DefRec}{K:Params->W.Frag}(hn:l.most=some 63)(hdf:d.params.defaults=[])(hd2:((PyProof.Rows.recsOf q).find? λe=>e.name==PySem.Str.ofString "longest_on").isSome=true)(hno:∀w:World,W.noTabs (K w.params)=true)(hY:∀(w:World) (h:Heap),YP w h->(K w.params).In h)(F:∀(w:World) (mg:Q5) (fa:Addr) (h:Heap) (c Pt:Addr),(K w.params).In h->h.Ns mainGlobals mg->mg d.name=some (.ref fa)->aJX h mg "longest_on" c->
 ∃fd:FuncData,(∀(s:Shared) (u:Value),BindsTo s fd ⟨[u],[]⟩ [("_law_script",u)])/\∀base:Heap,(K w.params).In base->base.Ns mainGlobals mg->LamB mg base c Pt->FnOk l.prog w (K w.params) mg base CX0 11 fa fd ["_law_script"] (wF (K w.params) Pt)):W.WalkO q loose XP YP l.row.toRowW d [] (λf vs=>PySem.call f vs):=by
 obtain⟨d2,e⟩:=Dc.mp hd2;have e3:=List.find?_some e
 have e2:d2.name=PySem.Str.ofString "longest_on" := eq_of_beq e3
 exact L2.bZH (d2:=d2) (n:=63) (k:=11) (x := "_law_script") (CX:=λ_=>CX0) (sp:=λw=>wF (K w.params)) hn (by decide) hdf ⟨rfl,by decide,by decide⟩ (List.mem_of_find?_eq_some e) hno hY (λw mg fa h c Pt a1 a2 a3 a4=>F w mg fa h c Pt a1 a2 a3 (e2▸a4)) (λ_ _ a Pt ns hl hP hS=>⟨a,ns,rfl,hS,hl,hP,λ_=>rfl⟩) λ_ _ _ _ _ z=>z
end Mine
namespace PySem.W.Fast
theorem tw4460997426191529267:True:=⟨⟩
theorem tw14910586169747659178:True:=⟨⟩
theorem tw14788322832152816113:True:=⟨⟩
theorem tw11390852403722534402:True:=⟨⟩
theorem tw209090852518941868:True:=⟨⟩
theorem tw17715659888022903847:True:=⟨⟩
theorem tw1768349566728470251:True:=⟨⟩
theorem tw2572437202965227825:True:=⟨⟩
theorem tw12126878297921302712:True:=⟨⟩
theorem tw18017995912164041816:True:=⟨⟩
theorem tw3497002235204526309:True:=⟨⟩
theorem tw2789790493877113801:True:=⟨⟩
theorem tw17097256559320200477:True:=⟨⟩
theorem tw13752879781555252244:True:=⟨⟩
theorem tw5013256320566175915:True:=⟨⟩
theorem tw798065783906166095:True:=⟨⟩
theorem tw13688844732709376994:True:=⟨⟩
theorem tw1807438993071365220:True:=⟨⟩
theorem tw13251944702595820967:True:=⟨⟩
theorem tw9366022721151718593:True:=⟨⟩
theorem tw6136056262441010535:True:=⟨⟩
theorem tw13660372001618833764:True:=⟨⟩
theorem tw4396902206613395718:True:=⟨⟩
theorem tw16570615732859616701:True:=⟨⟩
theorem tw7642844148280145464:True:=⟨⟩
theorem tw10395097429186661139:True:=⟨⟩
theorem tw4642708558942622120:True:=⟨⟩
theorem tw13724425607808677560:True:=⟨⟩
theorem tw2914139358318901748:True:=⟨⟩
theorem tw9391201133505762204:True:=⟨⟩
theorem tw9167419817451113255:True:=⟨⟩
theorem tw11072164074886765371:True:=⟨⟩
theorem tw72391739934550636:True:=⟨⟩
theorem tw7344879791557793961:True:=⟨⟩
theorem tw603938499732268445:True:=⟨⟩
theorem tw6342163067752345724:True:=⟨⟩
theorem tw15495127546879070889:True:=⟨⟩
theorem tw11890529574528417600:True:=⟨⟩
theorem tw762262780214561648:True:=⟨⟩
theorem tw8166624601385863256:True:=⟨⟩
theorem tw18188984182521073628:True:=⟨⟩
theorem tw7648540370459756623:True:=⟨⟩
theorem tw900020822742220559:True:=⟨⟩
theorem tw14885863341753230050:True:=⟨⟩
theorem tw1037211374987877523:True:=⟨⟩
theorem tw14248141780048527633:True:=⟨⟩
theorem tw5004258708019623652:True:=⟨⟩
theorem tw14143703775699297360:True:=⟨⟩
theorem tw2653449297316244672:True:=⟨⟩
theorem tw8125841836922409538:True:=⟨⟩
theorem tw479279741720794290:True:=⟨⟩
theorem tw11413184261469984049:True:=⟨⟩
theorem tw12731441933651133206:True:=⟨⟩
theorem tw16485356009541482472:True:=⟨⟩
theorem tw12055968903138867613:True:=⟨⟩
theorem tw11194721379997389657:True:=⟨⟩
theorem tw8535501884054448314:True:=⟨⟩
theorem tw4436082736312870700:True:=⟨⟩
theorem tw13411385135338723375:True:=⟨⟩
theorem tw6476684686192265904:True:=⟨⟩
theorem tw3973480132373329947:True:=⟨⟩
theorem tw992208117218551489:True:=⟨⟩
theorem tw11551588245193088042:True:=⟨⟩
theorem tw7156582925735642465:True:=⟨⟩
theorem tw3786782799547476252:True:=⟨⟩
theorem tw7790382660746318357:True:=⟨⟩
theorem tw13593562296215046514:True:=⟨⟩
theorem tw10086596709049295171:True:=⟨⟩
theorem tw11814344571365351396:True:=⟨⟩
theorem tw1194773287855372744:True:=⟨⟩
theorem tw6704579684950354625:True:=⟨⟩
theorem tw2761180507907789433:True:=⟨⟩
theorem tw11729548556110081822:True:=⟨⟩
theorem tw5173006165894222762:True:=⟨⟩
theorem tw1130278977496604982:True:=⟨⟩
theorem tw13096609230777954027:True:=⟨⟩
theorem tw9734703621921134143:True:=⟨⟩
theorem tw8676905437450043144:True:=⟨⟩
theorem tw9091049339365764112:True:=⟨⟩
theorem tw2083779008429332291:True:=⟨⟩
theorem tw14247245750808832124:True:=⟨⟩
theorem tw6581487546398088885:True:=⟨⟩
theorem tw15189882808371132359:True:=⟨⟩
theorem tw13265202126897711213:True:=⟨⟩
theorem tw7094993014517022863:True:=⟨⟩
theorem tw8394919129994003755:True:=⟨⟩
theorem tw18112780359048847472:True:=⟨⟩
theorem tw15656677575548683900:True:=⟨⟩
theorem tw14529499934275506868:True:=⟨⟩
theorem tw1243602345890932352:True:=⟨⟩
theorem tw14996616970795225091:True:=⟨⟩
theorem tw8424193510620854458:True:=⟨⟩
theorem tw15409840458689647366:True:=⟨⟩
theorem tw2675981923762662020:True:=⟨⟩
theorem tw4532620098735920811:True:=⟨⟩
theorem tw5603420857799031834:True:=⟨⟩
theorem tw18206766125223140542:True:=⟨⟩
theorem tw16566881247414443959:True:=⟨⟩
theorem tw15531020528784375019:True:=⟨⟩
theorem tw117255702492239301:True:=⟨⟩
theorem tw16081329597346484141:True:=⟨⟩
theorem tw17830988716637145673:True:=⟨⟩
theorem tw13857038134022980527:True:=⟨⟩
theorem tw8604761022703362978:True:=⟨⟩
theorem tw8336716301905950506:True:=⟨⟩
theorem tw2822317610515325238:True:=⟨⟩
theorem tw53585540906639158:True:=⟨⟩
theorem tw7163120184994778030:True:=⟨⟩
theorem tw8587605787694536720:True:=⟨⟩
theorem tw14203650916280266911:True:=⟨⟩
theorem tw7697532941848417498:True:=⟨⟩
theorem tw8961026716251512434:True:=⟨⟩
theorem tw17529850526584426113:True:=⟨⟩
theorem tw8046637151090310397:True:=⟨⟩
theorem tw6685439151491825706:True:=⟨⟩
theorem tw10585778196036908892:True:=⟨⟩
theorem tw9968629992985435001:True:=⟨⟩
theorem tw11841133826418536061:True:=⟨⟩
theorem tw13874595571017429791:True:=⟨⟩
theorem tw18123142556485623566:True:=⟨⟩
theorem tw13797741955913738170:True:=⟨⟩
theorem tw18299932491962700951:True:=⟨⟩
theorem tw10626175860314362324:True:=⟨⟩
theorem tw604897400862930378:True:=⟨⟩
theorem tw3097971975195579185:True:=⟨⟩
theorem tw15420657286948618898:True:=⟨⟩
theorem tw13107959634524079855:True:=⟨⟩
theorem tw1596383824045359957:True:=⟨⟩
theorem tw3064886909534841334:True:=⟨⟩
theorem tw12898653291312405030:True:=⟨⟩
theorem tw8010877965485046053:True:=⟨⟩
theorem tw12555787695222053066:True:=⟨⟩
theorem tw2290282467791369981:True:=⟨⟩
theorem tw9420372536383256277:True:=⟨⟩
theorem tw1341523115814313349:True:=⟨⟩
theorem tw512650794148881548:True:=⟨⟩
theorem tw6214751204584733560:True:=⟨⟩
theorem tw644230104704360638:True:=⟨⟩
theorem tw3632231542982289581:True:=⟨⟩
theorem tw11571198925180988330:True:=⟨⟩
theorem tw14037639814351877052:True:=⟨⟩
theorem tw4228000772205040846:True:=⟨⟩
theorem tw9409609868963051456:True:=⟨⟩
theorem tw4678640220357477391:True:=⟨⟩
theorem tw7788673768479915450:True:=⟨⟩
theorem tw8293251669057587412:True:=⟨⟩
theorem tw5196161207436505826:True:=⟨⟩
theorem tw5392839891468770885:True:=⟨⟩
theorem tw15528918953427603445:True:=⟨⟩
theorem tw17045990311158574621:True:=⟨⟩
theorem tw16380635473306493955:True:=⟨⟩
theorem tw12021037565454598689:True:=⟨⟩
theorem tw5693579802077006:True:=⟨⟩
theorem tw8334135065374036994:True:=⟨⟩
theorem tw16254913578608476877:True:=⟨⟩
theorem tw14197931419521145483:True:=⟨⟩
theorem tw16876565955168066417:True:=⟨⟩
theorem tw465109770504639362:True:=⟨⟩
theorem tw6112885654211050724:True:=⟨⟩
theorem tw9619055871543742099:True:=⟨⟩
theorem tw15223905016420754490:True:=⟨⟩
theorem tw13927503979524321940:True:=⟨⟩
theorem tw15217813478587185547:True:=⟨⟩
theorem tw13469407705277048791:True:=⟨⟩
theorem tw2628554882140697954:True:=⟨⟩
theorem tw14851431881045811320:True:=⟨⟩
theorem tw515074784451981038:True:=⟨⟩
theorem tw10848670344883309611:True:=⟨⟩
theorem tw4991491273593169750:True:=⟨⟩
theorem tw11106668630209370958:True:=⟨⟩
theorem tw13366582353703296684:True:=⟨⟩
theorem tw6449101966073438345:True:=⟨⟩
theorem tw238865542299854040:True:=⟨⟩
theorem tw4756669311503445531:True:=⟨⟩
theorem tw6794383185121334363:True:=⟨⟩
theorem tw15677554973637915337:True:=⟨⟩
theorem tw10761001435297093661:True:=⟨⟩
theorem tw1121492673317507939:True:=⟨⟩
theorem tw4543063319954743800:True:=⟨⟩
theorem tw3963801902071852264:True:=⟨⟩
theorem tw6463696635368167363:True:=⟨⟩
theorem tw7000273302523372865:True:=⟨⟩
theorem tw7651238178041768214:True:=⟨⟩
theorem tw14861032783735837893:True:=⟨⟩
theorem tw5476456082545403511:True:=⟨⟩
theorem tw4595046452706995377:True:=⟨⟩
theorem tw18329459589711254773:True:=⟨⟩
theorem tw16457558866172888487:True:=⟨⟩
theorem tw719443320298456722:True:=⟨⟩
theorem tw10291403124969284034:True:=⟨⟩
theorem tw5589962052593236997:True:=⟨⟩
theorem tw7451493378779498035:True:=⟨⟩
theorem tw17830649054405428496:True:=⟨⟩
theorem tw11606300149462847314:True:=⟨⟩
theorem tw6076847641524005350:True:=⟨⟩
theorem tw16511581265487201442:True:=⟨⟩
theorem tw17358762214731475520:True:=⟨⟩
theorem tw4580574245966815058:True:=⟨⟩
theorem tw13715753796197361258:True:=⟨⟩
theorem tw15883694956710066955:True:=⟨⟩
theorem tw15130034969644293009:True:=⟨⟩
theorem tw8071095077809438124:True:=⟨⟩
theorem tw1883126699264986901:True:=⟨⟩
theorem tw1212957865484009015:True:=⟨⟩
theorem tw5800170160008532771:True:=⟨⟩
theorem tw4866699110468094715:True:=⟨⟩
theorem tw12000784257694124326:True:=⟨⟩
theorem tw4569731126903158743:True:=⟨⟩
theorem tw7504472065477082485:True:=⟨⟩
theorem tw16064042061610475678:True:=⟨⟩
theorem tw17822966975299605547:True:=⟨⟩
theorem tw7761712311584124264:True:=⟨⟩
theorem tw17211934086736308399:True:=⟨⟩
theorem tw14315583392373700240:True:=⟨⟩
theorem tw5000274227300817707:True:=⟨⟩
theorem tw6072887686446019887:True:=⟨⟩
theorem tw6441243707644628605:True:=⟨⟩
theorem tw14754400260251590349:True:=⟨⟩
theorem tw4587521036301291483:True:=⟨⟩
theorem tw6049813562985516279:True:=⟨⟩
theorem tw16609210424243668296:True:=⟨⟩
theorem tw16349851207900754623:True:=⟨⟩
theorem tw8720712177205609789:True:=⟨⟩
theorem tw10734085063858966012:True:=⟨⟩
theorem tw11214225338670317352:True:=⟨⟩
theorem tw8231924267045285995:True:=⟨⟩
theorem tw6350834190800855421:True:=⟨⟩
theorem tw15228792415140309373:True:=⟨⟩
theorem tw17140506383644977594:True:=⟨⟩
theorem tw9433745617116460911:True:=⟨⟩
theorem tw18238658967097824216:True:=⟨⟩
theorem tw10014381247745009654:True:=⟨⟩
theorem tw17471851784863431927:True:=⟨⟩
theorem tw15559826629101652697:True:=⟨⟩
theorem tw17997829739498749041:True:=⟨⟩
theorem tw11669882476458262986:True:=⟨⟩
theorem tw8504759878629928760:True:=⟨⟩
theorem tw214497805944431111:True:=⟨⟩
theorem tw1320858828734537939:True:=⟨⟩
theorem tw4375572962050297809:True:=⟨⟩
theorem tw10433423122692520401:True:=⟨⟩
theorem tw15933471070617115578:True:=⟨⟩
theorem tw16532385577947523778:True:=⟨⟩
theorem tw6763103773740281164:True:=⟨⟩
theorem tw9143143158310560755:True:=⟨⟩
theorem tw14160189648946248461:True:=⟨⟩
theorem tw14336731853208586925:True:=⟨⟩
theorem tw2042508336385246971:True:=⟨⟩
theorem tw1903022741961650993:True:=⟨⟩
theorem tw5011231623099306997:True:=⟨⟩
theorem tw7793956070261582916:True:=⟨⟩
theorem tw5823092913009079057:True:=⟨⟩
theorem tw18254835449095803609:True:=⟨⟩
theorem tw8138455229347667525:True:=⟨⟩
theorem tw2521437793264343215:True:=⟨⟩
theorem tw18398006110397951328:True:=⟨⟩
theorem tw17751168247997439:True:=⟨⟩
theorem tw18395381667085729128:True:=⟨⟩
theorem tw15850566806139249665:True:=⟨⟩
theorem tw4949697438822749022:True:=⟨⟩
theorem tw1606262207543384086:True:=⟨⟩
theorem tw16355125004657900456:True:=⟨⟩
theorem tw1051174964428454124:True:=⟨⟩
theorem tw11027835530158960838:True:=⟨⟩
theorem tw14246260387857083307:True:=⟨⟩
theorem tw11735727898079335603:True:=⟨⟩
theorem tw1829495857835491624:True:=⟨⟩
theorem tw16145055811829768551:True:=⟨⟩
theorem tw8690880833787441595:True:=⟨⟩
theorem tw4851944290920772531:True:=⟨⟩
theorem tw8221099134065470998:True:=⟨⟩
theorem tw6352209011408142597:True:=⟨⟩
theorem tw18154829180615468071:True:=⟨⟩
theorem tw2314115539783991880:True:=⟨⟩
theorem tw4140308568832205354:True:=⟨⟩
theorem tw12976110767583267851:True:=⟨⟩
theorem tw18093293277754113580:True:=⟨⟩
theorem tw3984376679716292549:True:=⟨⟩
theorem tw6132871528220651181:True:=⟨⟩
theorem tw9282518861391463878:True:=⟨⟩
theorem tw3397114971245393969:True:=⟨⟩
theorem tw390967863455097902:True:=⟨⟩
theorem tw10558117382677539730:True:=⟨⟩
theorem tw4435106250477055957:True:=⟨⟩
theorem tw17200169419039915060:True:=⟨⟩
theorem tw1679878972479329884:True:=⟨⟩
theorem tw2485436645952752892:True:=⟨⟩
theorem tw14851498763569060131:True:=⟨⟩
theorem tw2822214427539352334:True:=⟨⟩
theorem tw7131529446949976317:True:=⟨⟩
theorem tw16940281478588687668:True:=⟨⟩
theorem tw7899895230806330527:True:=⟨⟩
theorem tw3707160284583844464:True:=⟨⟩
theorem tw12257431723257986585:True:=⟨⟩
theorem tw18379000390134350801:True:=⟨⟩
theorem tw4063452977763278281:True:=⟨⟩
theorem tw4360437214051245998:True:=⟨⟩
theorem tw697722343950854604:True:=⟨⟩
theorem tw887492802195208751:True:=⟨⟩
theorem tw6254751083459931808:True:=⟨⟩
theorem tw4300256190363844708:True:=⟨⟩
theorem tw3136526618859983430:True:=⟨⟩
theorem tw15152526629507521698:True:=⟨⟩
theorem tw1053629933875862872:True:=⟨⟩
theorem tw17602974161121096838:True:=⟨⟩
theorem tw9046090289450793310:True:=⟨⟩
theorem tw3506891033079108109:True:=⟨⟩
theorem tw233864730770133562:True:=⟨⟩
theorem tw9160547712274594205:True:=⟨⟩
theorem tw14405272843772592060:True:=⟨⟩
theorem tw13640234816834803496:True:=⟨⟩
theorem tw3297403957303446894:True:=⟨⟩
theorem tw254511634021806088:True:=⟨⟩
theorem tw11859770867709981227:True:=⟨⟩
theorem tw17863000343297985872:True:=⟨⟩
theorem tw16751711512161278040:True:=⟨⟩
theorem tw18363781626092415583:True:=⟨⟩
theorem tw13792339488645505918:True:=⟨⟩
theorem tw13945869627876807982:True:=⟨⟩
theorem tw12342984209321693216:True:=⟨⟩
theorem tw1876676475028704811:True:=⟨⟩
theorem tw1449899681389667291:True:=⟨⟩
theorem tw12880574969846030998:True:=⟨⟩
theorem tw15764432561940936655:True:=⟨⟩
theorem tw3500085281624214694:True:=⟨⟩
theorem tw15413473984077395057:True:=⟨⟩
theorem tw7370216938964356488:True:=⟨⟩
theorem tw2669543416133858719:True:=⟨⟩
theorem tw18192019401119510467:True:=⟨⟩
theorem tw4460681938298260685:True:=⟨⟩
theorem tw12807720796593672533:True:=⟨⟩
theorem tw3436999042104212068:True:=⟨⟩
theorem tw13698276252988885442:True:=⟨⟩
theorem tw14337831264012391790:True:=⟨⟩
theorem tw11432510856611890533:True:=⟨⟩
theorem tw4282549926422257084:True:=⟨⟩
theorem tw1280401637077140841:True:=⟨⟩
theorem tw9903957588809768640:True:=⟨⟩
theorem tw345527551420021573:True:=⟨⟩
theorem tw11307368969094529060:True:=⟨⟩
theorem tw11999096124933427690:True:=⟨⟩
theorem tw2083186413592567806:True:=⟨⟩
theorem tw1520153310055344413:True:=⟨⟩
theorem tw15466778451627053392:True:=⟨⟩
theorem tw1355397290098431837:True:=⟨⟩
theorem tw774085160992670144:True:=⟨⟩
theorem tw11161509067459027976:True:=⟨⟩
theorem tw143317812530122370:True:=⟨⟩
theorem tw5413477112948477797:True:=⟨⟩
theorem tw17100280609629620161:True:=⟨⟩
theorem tw691219321811139856:True:=⟨⟩
theorem tw3565268542277815232:True:=⟨⟩
theorem tw2120071428239632565:True:=⟨⟩
theorem tw4841766809089288345:True:=⟨⟩
theorem tw13408841836247929272:True:=⟨⟩
theorem tw12128287320160319886:True:=⟨⟩
theorem tw12017853493841707623:True:=⟨⟩
theorem tw837389122280610395:True:=⟨⟩
theorem tw2722776134392414154:True:=⟨⟩
theorem tw3922979501510307061:True:=⟨⟩
theorem tw3590719533249544909:True:=⟨⟩
theorem tw3459241150440393871:True:=⟨⟩
theorem tw16842878376496026359:True:=⟨⟩
theorem tw17942266972240994808:True:=⟨⟩
theorem tw15712140990659001503:True:=⟨⟩
theorem tw15821806094097625390:True:=⟨⟩
theorem tw2366202942687803340:True:=⟨⟩
theorem tw11253917634276139657:True:=⟨⟩
theorem tw6343194357736206851:True:=⟨⟩
theorem tw4155935550419115802:True:=⟨⟩
theorem tw3444178874294002090:True:=⟨⟩
theorem tw2147759674963134369:True:=⟨⟩
theorem tw6253115699742852659:True:=⟨⟩
theorem tw16649932147446021434:True:=⟨⟩
theorem tw2453727340906276414:True:=⟨⟩
theorem tw14105146172090016631:True:=⟨⟩
theorem tw9861602152767948900:True:=⟨⟩
theorem tw12781756325308463577:True:=⟨⟩
theorem tw16696247583004328861:True:=⟨⟩
theorem tw15553367217844940516:True:=⟨⟩
theorem tw13634480173989034988:True:=⟨⟩
theorem tw8234291207414672183:True:=⟨⟩
theorem tw10927899610967158045:True:=⟨⟩
theorem tw13523616177544230833:True:=⟨⟩
theorem tw5638201393164504152:True:=⟨⟩
theorem tw12385741980992274077:True:=⟨⟩
theorem tw10493918031057035715:True:=⟨⟩
theorem tw9889233408151170915:True:=⟨⟩
theorem tw7355580555632945479:True:=⟨⟩
theorem tw1068225771842487099:True:=⟨⟩
theorem tw18407258527561251512:True:=⟨⟩
theorem tw6648987427339932360:True:=⟨⟩
theorem tw12925747659976990594:True:=⟨⟩
theorem tw12574323056431963205:True:=⟨⟩
theorem tw17045683284290263070:True:=⟨⟩
theorem tw970914439268105754:True:=⟨⟩
theorem tw6218373683169877206:True:=⟨⟩
theorem tw6625083282980249600:True:=⟨⟩
theorem tw17484712259281326645:True:=⟨⟩
theorem tw5952838242806997283:True:=⟨⟩
theorem tw4551236463772717866:True:=⟨⟩
theorem tw1035604702596119132:True:=⟨⟩
theorem tw12688538702691150179:True:=⟨⟩
theorem tw15877327559066931775:True:=⟨⟩
theorem tw18177251216910987411:True:=⟨⟩
theorem tw9939389226256445907:True:=⟨⟩
theorem tw224701434454290249:True:=⟨⟩
theorem tw5667719243787616527:True:=⟨⟩
theorem tw12085162911146638347:True:=⟨⟩
theorem tw18118898614137794988:True:=⟨⟩
theorem tw17627078867592184529:True:=⟨⟩
theorem tw12279150326660397050:True:=⟨⟩
theorem tw13911182983866558117:True:=⟨⟩
theorem tw17140080371634987727:True:=⟨⟩
theorem tw11288687950837508953:True:=⟨⟩
theorem tw16693413169950010294:True:=⟨⟩
theorem tw17124027150363578685:True:=⟨⟩
theorem tw11474941231416119304:True:=⟨⟩
theorem tw14532506126872517674:True:=⟨⟩
theorem tw8089126873533537270:True:=⟨⟩
theorem tw10979122516939065579:True:=⟨⟩
theorem tw3018124997959430614:True:=⟨⟩
theorem tw13614495137846838432:True:=⟨⟩
theorem tw9140190752741728561:True:=⟨⟩
theorem tw16507368463263991838:True:=⟨⟩
theorem tw17497015283234534146:True:=⟨⟩
theorem tw6435261311276448032:True:=⟨⟩
theorem tw10494470034597490090:True:=⟨⟩
theorem tw13369408535329377958:True:=⟨⟩
theorem tw3257477104666429662:True:=⟨⟩
theorem tw5812752922403092200:True:=⟨⟩
theorem tw13226263157855608001:True:=⟨⟩
theorem tw12230598538349835780:True:=⟨⟩
theorem tw2984205445989982128:True:=⟨⟩
theorem tw9638488361308310388:True:=⟨⟩
theorem tw2430535444888703007:True:=⟨⟩
theorem tw9169493657628570394:True:=⟨⟩
theorem tw18411614477570323470:True:=⟨⟩
theorem tw16570070092156691530:True:=⟨⟩
theorem tw17867882659352002595:True:=⟨⟩
theorem tw332783460346032557:True:=⟨⟩
theorem tw8631413522389375558:True:=⟨⟩
theorem tw14898508738551737496:True:=⟨⟩
theorem tw7911443866337474676:True:=⟨⟩
theorem tw17557551773079709333:True:=⟨⟩
theorem tw1952222243566052944:True:=⟨⟩
theorem tw13848448761688345595:True:=⟨⟩
theorem tw3920612568429031195:True:=⟨⟩
theorem tw1768806706079909221:True:=⟨⟩
theorem tw9908072952968070827:True:=⟨⟩
theorem tw5937280432259704324:True:=⟨⟩
theorem tw3668002759934990045:True:=⟨⟩
theorem tw13558527589130105545:True:=⟨⟩
theorem tw1999381702136882498:True:=⟨⟩
theorem tw15891374436562002300:True:=⟨⟩
theorem tw11688171100379777549:True:=⟨⟩
theorem tw9858497363090217093:True:=⟨⟩
theorem tw5048544027321442184:True:=⟨⟩
theorem tw3845651322458626516:True:=⟨⟩
theorem tw14209306578526873779:True:=⟨⟩
theorem tw3994354166589896850:True:=⟨⟩
theorem tw5544209420568393878:True:=⟨⟩
theorem tw11025051789214649827:True:=⟨⟩
theorem tw6069130057070953542:True:=⟨⟩
theorem tw13059696186277828653:True:=⟨⟩
theorem tw9063314138734934094:True:=⟨⟩
theorem tw8319663526680268432:True:=⟨⟩
theorem tw6309504331818463738:True:=⟨⟩
theorem tw91110399859839488:True:=⟨⟩
theorem tw6486450428521219066:True:=⟨⟩
theorem tw558350556259970294:True:=⟨⟩
theorem tw5864058775994091797:True:=⟨⟩
theorem tw16180002086038879642:True:=⟨⟩
theorem tw1236459153633054415:True:=⟨⟩
theorem tw7180880927671847816:True:=⟨⟩
theorem tw149155310878904363:True:=⟨⟩
theorem tw5696855161123040379:True:=⟨⟩
theorem tw11400408886799027788:True:=⟨⟩
theorem tw6967403737213256600:True:=⟨⟩
theorem tw13564351292762503005:True:=⟨⟩
theorem tw12599665079557682075:True:=⟨⟩
theorem tw15279857605574672756:True:=⟨⟩
theorem tw10216339037065713927:True:=⟨⟩
theorem tw15630027128377750876:True:=⟨⟩
theorem tw4614157507136038976:True:=⟨⟩
theorem tw12571993331372919996:True:=⟨⟩
theorem tw14145934238543494763:True:=⟨⟩
theorem tw9124761222195696368:True:=⟨⟩
theorem tw9579842865464332764:True:=⟨⟩
theorem tw8660371614490882668:True:=⟨⟩
theorem tw12996575821489737126:True:=⟨⟩
theorem tw4995995297731854496:True:=⟨⟩
theorem tw683292619499216231:True:=⟨⟩
theorem tw3280667068286773270:True:=⟨⟩
theorem tw9229469471698854922:True:=⟨⟩
theorem tw15462969630821018715:True:=⟨⟩
theorem tw9904065338872410767:True:=⟨⟩
theorem tw8435521999390436264:True:=⟨⟩
theorem tw8335476503376924450:True:=⟨⟩
theorem tw7072289465632046821:True:=⟨⟩
theorem tw13687712024610834585:True:=⟨⟩
theorem tw7660232286518571620:True:=⟨⟩
theorem tw16497857272737644774:True:=⟨⟩
theorem tw1216438746838323221:True:=⟨⟩
theorem tw8062482093027033348:True:=⟨⟩
theorem tw10827460585437427484:True:=⟨⟩
theorem tw2606503259607560177:True:=⟨⟩
theorem tw3144178726693930025:True:=⟨⟩
theorem tw673121523725589695:True:=⟨⟩
theorem tw10289641679758359840:True:=⟨⟩
theorem tw13972312201816371580:True:=⟨⟩
theorem tw8465593619147413669:True:=⟨⟩
theorem tw335044065878443325:True:=⟨⟩
theorem tw15367769611157463145:True:=⟨⟩
theorem tw1450921670425558644:True:=⟨⟩
theorem tw3847523783774766621:True:=⟨⟩
theorem tw14391773767038375331:True:=⟨⟩
theorem tw8159014006537415826:True:=⟨⟩
theorem tw451372023599990658:True:=⟨⟩
theorem tw6382593307244702392:True:=⟨⟩
theorem tw9174491257513611508:True:=⟨⟩
theorem tw7682598755864944315:True:=⟨⟩
theorem tw205935014393334705:True:=⟨⟩
theorem tw18166586253748792683:True:=⟨⟩
theorem tw6014110295764610440:True:=⟨⟩
theorem tw990949625088524421:True:=⟨⟩
theorem tw8534032846621068648:True:=⟨⟩
theorem tw10740560465922425261:True:=⟨⟩
theorem tw11054472010820792688:True:=⟨⟩
theorem tw2020984720716881253:True:=⟨⟩
theorem tw7566170876296438770:True:=⟨⟩
theorem tw12338374770863951315:True:=⟨⟩
theorem tw11985783015357369749:True:=⟨⟩
theorem tw1940264534649032418:True:=⟨⟩
theorem tw10802284562017780573:True:=⟨⟩
theorem tw1785375179050444482:True:=⟨⟩
theorem tw9733153773768003718:True:=⟨⟩
theorem tw12178775474714378278:True:=⟨⟩
theorem tw8015366601324343619:True:=⟨⟩
theorem tw14250092854533427854:True:=⟨⟩
theorem tw14041360938992074648:True:=⟨⟩
theorem tw10178787527481037775:True:=⟨⟩
theorem tw17274242634481802437:True:=⟨⟩
theorem tw6443322182999961371:True:=⟨⟩
end PySem.W.Fast
open PySem PySem.W PyProof.Rows
set_option maxRecDepth 100000 in
set_option maxHeartbeats 0 in
theorem PySem.Challenge.cw_flaglocker_k72_whole_texts_said_holds : PySem.Challenge.rw_flaglocker_k72_whole_texts_said.Holds := by
  w_on; o_law; k_head; (case hw => w_witness2)
  k_fill
  refine Mine.walk (l:=PySem.Challenge.rw_flaglocker_k72_whole_texts_said) rfl rfl ?hd2 ?hno (fun w h Y => PySem.W.km_in_of Y) ?F
  case hd2 => kernel_rfl!
  case hno => intro w; kernel_rfl!
  case F =>
    intro w mg fa h c Pt KX G hmg TH
    apply Mine.all_mk KX G hmg TH
    all_goals first | exact ⟨by k_is,_,_,_,_,_,_,_,_,_,by k_is,by k_is,by k_is⟩ | exact ⟨by k_is,by k_is,_,_,_,_,_,_,_,_,_,by k_is,by k_is,by k_is⟩ | k_is | kernel_rfl! | (constructor <;> first | k_is | k_exc | kts_exm | kit_is | kernel_rfl!) | exact ⟨rfl,⟨_,rfl⟩,⟨_,rfl⟩,rfl,⟨_,rfl⟩,⟨_,rfl⟩,rfl,⟨_,rfl⟩,⟨_,rfl⟩,rfl,⟨_,rfl⟩,⟨_,rfl⟩,rfl,⟨_,rfl⟩,⟨_,rfl⟩,trivial⟩
