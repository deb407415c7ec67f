import PyProof.Rows.All
import Wide.All
import OpenK.AllK
import Wide.FinOn
import Lean
import PyProof.EqAt
import PyProof.EqKinds
import PyProof.TupleCall
import PySem.Challenge.RW_flaglocker_k74_whole_fewest_lowered
set_option Elab.async false
set_option compiler.extract_closed false
set_option linter.all false
set_option maxHeartbeats 4000000
set_option maxRecDepth 100000
abbrev Q0:=PySem.Value->PySem.Shared->Prop
abbrev Q2:=List (PySem.Addr × PySem.Obj)
abbrev Q4:=List (Option (List Nat))
abbrev Q5:=PySem.Str->Option PySem.Value
abbrev Q6:=List (List Nat)
abbrev Aa:=@List.getElem?_eq_getElem
abbrev Ab:=@List.length_map
abbrev Ac:=@List.getD_eq_getElem?_getD
abbrev Ad:=@List.getElem?_eq_some_iff
abbrev Ae:=@PySem.wpAny_bind
abbrev Af:=@List.getElem?_map
abbrev Ag:=@PySem.Heap.get?_push_of_some
abbrev Ah:=@List.mem_of_getElem?
abbrev Ai:=@Nat.le_refl
abbrev Aj:=@List.map_append
abbrev Ak:=@List.length_append
abbrev Al:=@decide_eq_false
abbrev Am:=@PySem.wpAny_pure
abbrev An:=@Bool.false_ne_true
abbrev Ao:=@List.mem_cons_of_mem
abbrev Ap:=@decide_eq_true
abbrev Aq:=@List.mem_cons_self
abbrev Ar:=@List.map_cons
abbrev As:=@PySem.Heap.lt_size
abbrev Au:=@List.getElem?_append_left
abbrev Av:=@List.length_cons
abbrev Aw:=@List.getElem?_append_right
abbrev Ax:=@PySem.Heap.get?_push_size
abbrev Ay:=@List.size_toArray
abbrev Az:=@List.mem_cons
abbrev Ba:=@PySem.wpAny_loadPart'
abbrev Bb:=@Nat.lt_of_lt_of_le
abbrev Bc:=@List.mem_singleton
abbrev Bd:=@Nat.le_trans
abbrev Be:=@List.take_add_one
abbrev Bf:=@PySem.PassesOwn.never
abbrev Bg:=@List.mem_map
abbrev Bh:=@decide_eq_true_iff
abbrev Bi:=@of_decide_eq_true
abbrev Bj:=@Nat.ne_of_lt
abbrev Bk:=@List.mem_append_right
abbrev Bl:=@List.take_of_length_le
abbrev Bm:=@List.length_range
abbrev Bo:=@List.getElem_mem
abbrev Bp:=@PySem.Heap.get?_update_other
abbrev Bq:=@List.append_nil
abbrev Br:=@List.take_length
abbrev Bs:=@List.mem_append
abbrev Bt:=@List.length_take
abbrev Bu:=@List.map_map
abbrev Bv:=@Option.some.inj
abbrev Bw:=@List.map_congr_left
abbrev Bx:=@PySem.F.slot_dict_get
abbrev By:=@List.mem_range
abbrev Bz:=@List.nodup_cons
abbrev Ca:=@of_decide_eq_false
abbrev Cb:=@List.mem_append_left
abbrev Cc:=@PySem.F.plainAttrs_list
abbrev Cd:=@List.flatten_cons
abbrev Ce:=@Bool.eq_false_iff
abbrev Cf:=@PySem.wpAny_holding
abbrev Cg:=@List.mem_iff_getElem
abbrev Ci:=@List.all_eq_true
abbrev Cj:=@decide_eq_decide
abbrev Ck:=@PySem.wpAny_mono
abbrev Cm:=@List.range_succ
abbrev Co:=@Int.toNat_natCast
abbrev Cp:=@List.filterMap_append
abbrev Cq:=@List.mem_iff_getElem?
abbrev Cr:=@PySem.F.type_dict_get
abbrev Cs:=@Nat.zero_le
abbrev Ct:=@List.length_drop
abbrev Cu:=@Option.map_eq_some_iff
abbrev Cv:=@PySem.Around.under_plainId
abbrev Cw:=@List.sum_cons
abbrev Cy:=@Nat.lt_irrefl
abbrev Cz:=@PySem.mem_of_lookup
abbrev Da:=@congrArg
abbrev Dc:=@List.nodup_append
abbrev Dd:=@List.getElem?_set_ne
abbrev De:=@Array.getElem?_eq_some_iff
abbrev Df:=@Int.emod_lt_of_pos
abbrev Dg:=@PySem.W.kia_one
abbrev Dh:=@PySem.codeAny_builtin
abbrev Di:=@List.getElem?_set_self
abbrev Dj:=@PySem.F.plain_min_loop
abbrev Dk:=@Array.length_toList
abbrev Dm:=@Option.isSome_iff_exists
abbrev Do:=@List.length_filterMap_le
abbrev Dp:=@List.filterMap_cons_some
abbrev Dq:=@PySem.plainId_quiet
abbrev Dr:=@List.mem_filter
abbrev Ds:=@Int.emod_nonneg
abbrev Dt:=@List.mem_filterMap
abbrev Du:=@PySem.wpAny_Call_Name_kw
abbrev Dv:=@PySem.SeqAt.EqAt.int_int
abbrev Dw:=@List.filterMap_nil
abbrev Dx:=@List.lookup_cons
abbrev Dy:=@List.countP_cons
abbrev Dz:=@PyProof.Rows.callWith_type1
abbrev Ea:=@beq_eq_false_iff_ne
abbrev Eb:=@List.filterMap_cons
abbrev Ec:=@List.replicate_succ
abbrev Ed:=@PySem.Heap.SameBut.update
abbrev Ee:=@List.filter_sublist
abbrev Ef:=@List.of_mem_zip
abbrev Eg:=@List.drop_eq_getElem_cons
abbrev Eh:=@Array.getElem?_toList
abbrev Ei:=@List.getElem?_eq_none
abbrev Ej:=@List.filterMap_cons_none
abbrev Ek:=@PySem.F.slot_list_extend
abbrev El:=@PySem.F.type_list_extend
abbrev Em:=@PySem.F.slot_list_append
abbrev En:=@PySem.F.type_list_append
abbrev Eo:=@PySem.codeAny_call_builtin
abbrev Ep:=@PySem.wpAny_typeNameOfWhole_keyiter
abbrev Er:=@PySem.wpAny_truthy_bool
abbrev Et:=@PySem.wpAny_pyIter_list
abbrev Eu:=@List.flatMap_cons
abbrev Ew:=@Bool.eq_iff_iff
abbrev Ey:=@PySem.F.slot_dict_keyiterator_next
abbrev Ez:=@List.flatMap_append
abbrev Fa:=@Nat.le_of_lt
abbrev Fb:=@PySem.wpAny_richCompare_same_room
abbrev Fc:=@Bool.and_eq_true
abbrev Fd:=@PySem.tupleKind_room_in1
abbrev Fe:=@List.filter_append
abbrev Ff:=@List.length_replicate
abbrev Fg:=@PySem.wpAny_passesOwn
abbrev Fh:=@List.length_set
abbrev Fi:=@Option.map_some
abbrev Fj:=@Nat.pow_le_pow_right
abbrev Fk:=@PySem.wpAny_standAt
abbrev Fl:=@List.getElem?_range
abbrev Fm:=@PySem.wpAny_getItem_str_slice
abbrev Fn:=@beq_self_eq_true
abbrev Fo:=@Nat.le_add_right
abbrev Fp:=@Nat.add_sub_cancel_left
abbrev Fq:=@List.filter_cons
abbrev Fs:=@PySem.wpAny_tryCatch
abbrev Ft:=@List.any_eq_true
abbrev Fu:=@Nat.min_eq_right
abbrev Fv:=@List.take_zero
abbrev Fw:=@List.eq_nil_of_length_eq_zero
abbrev Fx:=@Nat.ne_of_gt
abbrev Fy:=@PySem.codeAny_mono
abbrev Fz:=@List.map_nil
abbrev Ga:=@PySem.F.entry_dict_get
abbrev Gb:=@PySem.SeqAt.EqAt.same
abbrev Gc:=@List.countP_eq_length_filter
abbrev Gd:=@PySem.Heap.get?_update_self
abbrev Ge:=@List.countP_le_length
abbrev Gf:=@List.getElem?_zipWith
abbrev Gg:=@PySem.wpAny_newObj_type
abbrev Gh:=@PySem.wpAny_loadPart_at
abbrev Gi:=@PySem.Heap.get?_none_of_le
abbrev Gj:=@PySem.wpAny_call
abbrev Gk:=@PySem.F.excBase_ValueError
abbrev Gm:=@List.getElem_inj
abbrev Gp:=@PySem.call_meetsIn
abbrev Gq:=@List.mem_flatMap
abbrev Gr:=@List.take_succ_cons
abbrev Gu:=@Nat.min_eq_left
abbrev Gv:=@PySem.SeqAt.EqAt.of_refs
abbrev Gw:=@beq_iff_eq
abbrev Gx:=@List.countP_append
abbrev Gy:=@List.getElem?_replicate
abbrev Gz:=@List.filter_cons_of_neg
abbrev Ha:=@List.take_sublist
abbrev Hb:=@PySem.AutoSeq1.sub_list_list
abbrev He:=@PySem.F.entry_min_loop
abbrev Hf:=@List.drop_eq_nil_of_le
abbrev Hh:=@PySem.F.plain_max_loop
abbrev Hi:=@Nat.zero_add
abbrev Hj:=@Nat.sub_self
abbrev Hk:=@PySem.wpAny_call_entry
abbrev Hl:=@List.any_cons
abbrev Hm:=@Bool.false_or
abbrev Hn:=@PySem.wpAny_of_eq
abbrev Ho:=@PySem.wpAny_letGo
abbrev Hq:=@Int.le_refl
namespace L2
open PySem PySem.Spec PyProof.Rows
variable {A:Around}{C a b:Addr}{E Q:Q0}{K:W.Frag}{M:Model}{N ps:List Str}{P:Program}{body:List Stmt}{ch fp:List Addr}{e tg:Expr}{es:List Expr}{f:Value->Value->Sem Value}{h h':Heap}{i k t':Nat}{kindOf:Str->Option NameKind}{y4:Q2}{pos:Pos}{s:Shared}{u:Value}{us:List Value}{w:World}{x:Str}
abbrev Key:=Sum Int Str
def kT:Key->Value->Bool
 |.inl k,v=>Value.isInt k v
 |.inr x,v=>Value.isStrOf x v
def Ut(w:World):Key->Int
 |.inl k=>hashInt k
 |.inr x=>hashStr w x
def bQ:∀ {k:Key} {v:Value},kT k v=true->(∃i t,k=Sum.inl i/\v=Value.int i t)\/(∃x t,k=Sum.inr x/\v=Value.str x t)
 |.inl i,v,h=>by
  obtain⟨t,e⟩:=Value.isInt_shape (k:=i) (v:=v) h;exact .inl ⟨i,t,rfl,e⟩
 |.inr x,v,h=>by
  obtain⟨t,e⟩:=Value.isStrOf_shape (x:=x) (v:=v) h;exact .inr ⟨x,t,rfl,e⟩
def P0(i:Int)(t:Tok):kT (.inl i) (.int i t)=true:=by simp[kT,Value.isInt]
def JX(x:Str)(t:Tok):kT (.inr x) (.str x t)=true:=by simp[kT,Value.isStrOf]
def N5(a b:Int):decide ((Sum.inl a:Key)=Sum.inl b)=(a==b):=by
 by_cases e:a=b
 .subst e;simp
 .have h:¬(Sum.inl a:Key)=Sum.inl b:=λq=>e (Sum.inl.inj q)
  rw[Al h];exact(Ea.mpr e).symm
def Od(a b:Str):decide ((Sum.inr a:Key)=Sum.inr b)=decide (a=b):=by
 by_cases e:a=b
 .subst e;simp
 .have h:¬(Sum.inr a:Key)=Sum.inr b:=λq=>e (Sum.inr.inj q)
  rw[Al h,Al e]
def Nl(a:Int)(b:Str):decide ((Sum.inl a:Key)=Sum.inr b)=false:=Al (λq=>nomatch q)
def JI(a:Str)(b:Int):decide ((Sum.inr a:Key)=Sum.inl b)=false:=Al (λq=>nomatch q)
def bH(prog:Program)(w:World):PySem.KeyKind prog w Key where
 is:=kT
 hash:=Ut w
 inj:=λv a b ha hb=>by
  rcases bQ ha with⟨i,t,rfl,rfl⟩|⟨x,t,rfl,rfl⟩
  .rcases bQ hb with⟨j,u,rfl,e⟩|⟨y,u,rfl,e⟩
   .injection e with e1 _;rw[e1]
   .exact nomatch e
  .rcases bQ hb with⟨j,u,rfl,e⟩|⟨y,u,rfl,e⟩
   .exact nomatch e
   .injection e with e1 _;rw[e1]
 byValue:=λk v h=>by
  rcases bQ h with⟨i,t,rfl,rfl⟩|⟨x,t,rfl,rfl⟩ <;> rfl
 pyHash:=λhv h=>by
  rcases bQ hv with⟨i,t,rfl,rfl⟩|⟨x,t,rfl,rfl⟩
  .exact wpAny_pyHash_int h
  .exact wpAny_pyHash_str h
 eqBool:=λhu hv h=>by
  rcases bQ hu with⟨i,t,rfl,rfl⟩|⟨x,t,rfl,rfl⟩
  .rcases bQ hv with⟨j,u,rfl,rfl⟩|⟨y,u,rfl,rfl⟩
   .rw[N5]at h;exact wpAny_eqBool_int h
   .rw[Nl]at h;exact SeqAt.EqAt.int_str i t y u _ _ _ _ h
  .rcases bQ hv with⟨j,u,rfl,rfl⟩|⟨y,u,rfl,rfl⟩
   .rw[JI]at h;exact SeqAt.EqAt.str_int x t j u _ _ _ _ h
   .rw[Od]at h;exact wpAny_eqBool_str h
 «strs» := λk x t v h=>by
  rcases bQ h with⟨i,u,rfl,e⟩|⟨y,u,rfl,e⟩
  .exact nomatch e
  .injection e with e1 _
   subst e1;cases v<;>rfl
def xO(prog:Program)(w:World)(i:Int)(t:Tok):(bH prog w).is (.inl i) (.int i t)=true:=P0 i t
def xT(prog:Program)(w:World)(x:Str)(t:Tok):(bH prog w).is (.inr x) (.str x t)=true:=JX x t
inductive V where
 |non|bl (b:Bool)|int (i:Int)|str (x:Str)|byt (b:Array UInt8)|flt (b:UInt64)|ref (a:Addr)|ty (n:String)
 deriving DecidableEq
variable {v:V}{xs:List V}
def RelV:V->Value->Prop
 |.non,u=>u=Value.none
 |.bl b,u=>u=Value.bool b
 |.int i,u=>∃t,u=Value.int i t
 |.str x,u=>∃t,u=Value.str x t
 |.byt b,u=>∃t,u=Value.bytes b t
 |.flt b,u=>∃t,u=Value.float b t
 |.ref a,u=>u=Value.ref a
 |.ty n,u=>u=Value.type n
abbrev Vals:List V->List Value->Prop:=Paired RelV
def Vals.length(r:Vals xs us):xs.length=us.length:=Paired.length r
def Vals.get:∀ {xs:List V} {us:List Value} {i:Nat} {x:V},Vals xs us->xs[i]?=some x->∃u,us[i]?=some u/\RelV x u
 |_,_,_,_,.nil,e=>by simp at e
 |_,_,0,_,.cons r _,e=>by simp at e;subst e;exact⟨_,rfl,r⟩
 |_,_,i+1,x,.cons _ t,e=>by
  obtain⟨u,h1,h2⟩:=Vals.get (i:=i) (x:=x) t (by simpa using e)
  exact⟨u,by simpa using h1,h2⟩
def Vals.set{x:V}(r:RelV x u):∀ {xs:List V} {us:List Value} (i:Nat),Vals xs us->Vals (xs.set i x) (us.set i u)
 |_,_,_,.nil=>.nil
 |_,_,0,.cons _ t=>.cons r t
 |_,_,i+1,.cons q t=>.cons q (Vals.set r i t)
def Vals.append:∀ {xs ys:List V} {us ws:List Value},Vals xs us->Vals ys ws->Vals (xs++ys) (us++ws)
 |_,_,_,_,.nil,s=>s
 |_,_,_,_,.cons r t,s=>.cons r (Vals.append t s)
def Vals.take:∀ {xs:List V} {us:List Value} (n:Nat),Vals xs us->Vals (xs.take n) (us.take n)
 |_,_,0,_=>.nil
 |_,_,_+1,.nil=>.nil
 |_,_,n+1,.cons r t=>.cons r (Vals.take n t)
def Vals.drop:∀ {xs:List V} {us:List Value} (n:Nat),Vals xs us->Vals (xs.drop n) (us.drop n)
 |_,_,0,r=>r
 |_,_,_+1,.nil=>.nil
 |_,_,n+1,.cons _ t=>Vals.drop n t
def Zo:Option V->Option Value->Prop
 |some v,some u=>RelV v u
 |none,none=>True
 |_,_=>False
def KV{κ:Type}:List (κ×V)->List (κ×Value)->Prop:=Paired λ(p:κ×V) (q:κ×Value)=>p.1=q.1/\RelV p.2 q.2
def kV:Key->V
 |.inl i=>.int i
 |.inr x=>.str x
inductive HO where
 |lst (xs:List V)
 |tup (xs:List V)
 |dK (kvs:List (Key×V))|dT (kvs:List (List Key×V))
 |set (S:Int->Bool) (n:Nat)
 |ins (C dx:Addr) (fs:List (Str×V))
 |own (x:Addr)
 |xd (fs:List (Str×V))
 |met (f x:Addr)
 |rng (lo hi:Int)
 |frz (o:Obj) (u:HO)
 |tbl (ps:Array Value)
 |ext (φ:Heap->Prop)
variable {o:HO}
abbrev Hp:=Addr->Option HO
variable {H:Hp}
def upd(H:Hp)(a:Addr)(o:HO):Hp:=λb=>if b=a then some o else H b
def aD:upd H a o a=some o:=by unfold upd;rw[if_pos rfl]
def aI(h:b≠a):upd H a o b=H b:=by unfold upd;rw[if_neg h]
def SA{u:HO}:upd (upd H a o) a u=upd H a u:=by
 funext b;unfold upd;split<;>rfl
def Lz{u:HO}(h:H a=some o)(h':H b=some u)(d:o≠u):a≠b:=by
 intro e;subst e;rw[h]at h';exact d (Bv h')
def bM(h:H a=some o)(h':H b=none):a≠b:=by
 intro e;subst e;rw[h]at h';cases h'
section
variable (P:Program) (w:World)
def Z3(H:Hp)(h:Heap)(a:Addr):HO->Prop
 |.lst xs=>xs.length<=sizeLine/\∃(its:List Value) (n:Nat),Vals xs its/\h.get? a=some {cls:=.type "list",data:=.seq its.toArray n}
 |.tup xs=>xs.length<=sizeLine/\∃its:List Value,Vals xs its/\IsTup h a its.toArray
 |.dK kvs=>kvs.length<=sizeLine/\(a==sysModules)=false/\∃vs,KV kvs vs/\h.DictOf (bH P w) a vs
 | .dT kvs=>kvs.length<=sizeLine/\(a == sysModules)=false/\∃ xs:List (List Key×Addr×Value),
     Paired (λ(p:List Key×V) (q:List Key×Addr×Value)=>p.1=q.1/\H q.2.1=some (.tup (p.1.map kV))/\RelV p.2 q.2.2) kvs xs/\
     ∃o es ep,h.get? a=some o/\o.ExactDict/\o.data=.dict es ep/\es.toList=xs.map (entryOfKey (tupleKind (bH P w)))/\(xs.map (·.1)).Nodup
 |.set S n=>h.SetOf (intKind P w) a S n
 | .ins C dx fs=>H dx=some (.own a)/\fs.length<=1000/\dx≠a/\h.get? a=some (W.instObj C dx)/\
     ∃mA,h.Ns1 dx mA/\(∀f,Zo (fs.lookup f) (mA f))/\PySem.Within mA (fs.map (·.1))
 |.own _=>∃o,h.get? a=some o
 |.xd fs=>∃mA,h.Ns1 a mA/\∀f,Zo (fs.lookup f) (mA f)
 |.rng lo hi=>∃t u v,h.get? a=some {cls:=.type "range",data:=.fields #[.int lo t,.int hi u,.int 1 v]}
 |.frz o u=>h.get? a=some o/\Z3 H h a u
 |.tbl ps=>h.get? a=some {cls:=.none,data:=.fields ps}
 |.met f x=>h.get? a=some (W.methodObj (.ref f) (.ref x))
 |.ext φ=>φ h/\(∃o,h.get? a=some o)/\∀h1 h2:Heap,φ h1->(∀o,h1.get? a=some o->h2.get? a=some o)->φ h2
def ZD(H:Hp)(h:Heap):Prop:=∀a o,H a=some o->Z3 P w H h a o
end
section
variable {H':Hp}
def Z3.lt(x:Z3 P w H h a o):a<h.objs.size:=by
 cases o with
 |lst xs=>obtain⟨_,_,_,_,e⟩:=x;exact As e
 |tup xs=>obtain⟨_,_,_,p⟩:=x;exact p.lt
 |dK kvs=>obtain⟨_,_,_,_,o,_,_,e,_⟩:=x;exact As e
 |dT kvs=>obtain⟨_,_,_,_,o,_,_,e,_⟩:=x;exact As e
 |set S n=>obtain⟨o,_,_,_,e,_⟩:=x;exact As e
 |ins C dx fs=>obtain⟨_,_,_,e,_⟩:=x;exact As e
 |own y=>obtain⟨_,e⟩:=x;exact As e
 |xd fs=>obtain⟨_,⟨_,_,_,e,_⟩,_⟩:=x;exact As e
 |rng lo hi=>obtain⟨_,_,_,e⟩:=x;exact As e
 |frz ob u=>obtain⟨e,_⟩:=x;exact As e
 |tbl ps=>exact As (show h.get? a=some _ from x)
 |met f y=>exact As (show h.get? a=some _ from x)
 |ext φ=>obtain⟨_,⟨_,e⟩,_⟩:=x;exact As e
def Paired.WY{α β:Type}{F G:α->β->Prop}:∀ {l₁:List α} {l₂:List β},Paired F l₁ l₂->(∀a b,F a b->G a b)->Paired G l₁ l₂
 |_,_,.nil,_=>.nil
 |_,_,.cons r t,f=>.cons (f _ _ r) (Paired.WY t f)
def Z3.ZE(x:Z3 P w H h a o)(k:∀b u,(b=a\/H b=some (.own a))->h.get? b=some u->h'.get? b=some u)(ho:∀b,H b=some (.own a)->H' b=some (.own a))(ht:∀b xs,H b=some (.tup xs)->H' b=some (.tup xs)):Z3 P w H' h' a o:=by
 induction o with
 |lst xs=>obtain⟨z,its,n,r,e⟩:=x;exact⟨z,its,n,r,k _ _ (.inl rfl) e⟩
 |tup xs=>obtain⟨z,its,r,ob,e,c⟩:=x;exact⟨z,its,r,ob,k _ _ (.inl rfl) e,c⟩
 |dK kvs=>obtain⟨z,y,vs,r,ob,es,ep,e,c⟩:=x;exact⟨z,y,vs,r,ob,es,ep,k _ _ (.inl rfl) e,c⟩
 |dT kvs=>
  obtain⟨z,y,xs,r,ob,es,ep,e,c⟩:=x;exact⟨z,y,xs,Paired.WY r λp q z=>⟨z.1,ht _ _ z.2.1,z.2.2⟩,ob,es,ep,k _ _ (.inl rfl) e,c⟩
 |set S n=>obtain⟨ob,es,ep,t,e,c⟩:=x;exact⟨ob,es,ep,t,k _ _ (.inl rfl) e,c⟩
 |ins C dx fs=>
  obtain⟨d,z,ne,e,mA,⟨od,es,ep,e2,c⟩,r⟩:=x;exact⟨ho _ d,z,ne,k _ _ (.inl rfl) e,mA,⟨od,es,ep,k _ _ (.inr d) e2,c⟩,r⟩
 |own y=>obtain⟨ob,e⟩:=x;exact⟨ob,k _ _ (.inl rfl) e⟩
 |xd fs=>obtain⟨mA,⟨od,es,ep,e,c⟩,r⟩:=x;exact⟨mA,⟨od,es,ep,k _ _ (.inl rfl) e,c⟩,r⟩
 |rng lo hi=>obtain⟨t,u,v,e⟩:=x;exact⟨t,u,v,k _ _ (.inl rfl) e⟩
 |frz ob u ih=>obtain⟨e,q⟩:=x;exact⟨k _ _ (.inl rfl) e,ih q⟩
 |tbl ps=>
  have e:h.get? a=some {cls:=.none,data:=.fields ps}:=x
  show h'.get? a=some {cls:=.none,data:=.fields ps}
  exact k a _ (.inl rfl) e
 |met f y=>
  have e:h.get? a=some (W.methodObj (.ref f) (.ref y)):=x
  show h'.get? a=some (W.methodObj (.ref f) (.ref y))
  exact k a _ (.inl rfl) e
 |ext φ=>obtain⟨p,⟨o,e⟩,st⟩:=x;exact⟨st _ _ p λo q=>k _ _ (.inl rfl) q,⟨o,k _ _ (.inl rfl) e⟩,st⟩
def ZD.lt(x:ZD P w H h)(e:H a=some o):a<h.objs.size:=(x a o e).lt
def ZD.fresh(x:ZD P w H h)(e:h.objs.size<=a):H a=none:=by
 cases q:H a with
 |none=>rfl
 |some u=>exact absurd (Bb (x.lt q) e) (Cy _)
def ZD.kept(x:ZD P w H h)(k:∀b u,h.get? b=some u->h'.get? b=some u):ZD P w H h':=λa o e=>
 (x a o e).ZE (λb u _ q=>k b u q) (λ_ q=>q) λ_ _ q=>q
def ZD.laid(x:ZD P w H h)(k:∀b u,h.get? b=some u->h'.get? b=some u)(hp:h.objs.size<=a)(new:Z3 P w (upd H a o) h' a o):ZD P w (upd H a o) h':=λb u e=>by
 have hn:=x.fresh hp
 by_cases hb:b=a
 .subst hb;rw[aD]at e;cases e;exact new
 .rw[aI hb]at e;exact(x b u e).ZE (λc v _ q=>k c v q) (λc q=>by rw[aI (bM q hn)];exact q) λc xs q=>by rw[aI (bM q hn)];exact q
end
def Rd(H:Hp)(a:Addr)(u:HO):Prop:=H a=some u\/∃o,H a=some (.frz o u)
def Rd.ok{u:HO}(r:Rd H a u)(x:ZD P w H h):Z3 P w H h a u:=by
 rcases r with r|⟨o,r⟩
 .exact x a u r
 .obtain⟨_,q⟩:=x a _ r;exact q
def Wo:Option HO->Prop
 |some (.lst _)=>True
 |some (.dK _)=>True
 |some (.dT _)=>True
 |some (.set _ _)=>True
 |some (.ins _ _ _)=>True
 |some (.ext _)=>True
 |_=>False
section
variable {x e:Addr} {o':HO}
def ZD.write(ok:ZD P w H h)(mu:Wo (H x))(he:e=x\/H e=some (.own x))(k:∀b u,b≠e->h.get? b=some u->h'.get? b=some u)(heo:∃u,h'.get? e=some u)(new:Z3 P w (upd H x o') h' x o'):ZD P w (upd H x o') h':=λb u q=>by
 have nown:∀c y,H c=some (.own y)->c≠x:=λc y r z=>by subst z;rw[r]at mu;exact mu
 have ntup:∀c xs,H c=some (.tup xs)->c≠x:=λc xs r z=>by subst z;rw[r]at mu;exact mu
 by_cases hb:b=x
 .subst hb;rw[aD]at q;cases q;exact new
 .rw[aI hb]at q;by_cases hbe:b=e
  .have q':H b=some (.own x):=by
    rcases he with z|z
    .exact absurd (hbe.trans z) hb
    .rw[hbe];exact z
   rw[q]at q';cases q';obtain⟨v,hv⟩:=heo;exact⟨v,by rw[hbe];exact hv⟩
  .refine(ok b u q).ZE (λc v hc r=>k c v ?_ r) (λc r=>by rw[aI (nown c b r)];exact r) λc xs r=>by rw[aI (ntup c xs r)];exact r
   rcases hc with rfl|hc
   .exact hbe
   .rintro rfl;rcases he with z|z
    .exact nown c b hc z
    .rw[hc]at z;cases z;exact hb rfl
end
structure Un (fs ex:List Addr) (H H':Hp) (h h':Heap):Prop where
 keep:∀b o,h.get? b=some o->H b=none->b∉fs->b∉ex->h'.get? b=some o
 slot:∀b o,h.get? b=some o->H b=none->b∈fs->b∉ex->∃sl,h'.get? b=some {o with slots:=sl}
 free:∀b o,h.get? b=some o->H b=none->b∉ex->H' b=none
 there:∀b o,h.get? b=some o->b∉ex->∃o',h'.get? b=some o'
 tups:∀b xs,H b=some (.tup xs)->H' b=some (.tup xs)
 frzs:∀b o u,H b=some (.frz o u)->H' b=some (.frz o u)
 tbls:∀b ps,H b=some (.tbl ps)->∃more,H' b=some (.tbl (ps++more))
section
variable {fs fs' ex ex':List Addr} {H1 H2:Hp} {h1 h2:Heap} {x e:Addr}
def Un.any(u:Un fs ex H H1 h h1){ob:Obj}(q:h.get? b=some ob)(n:H b=none)(hx:b∉ex):∃sl,h1.get? b=some {ob with slots:=sl}:=by
 by_cases hb:b∈fs
 .exact u.slot b ob q n hb hx
 .exact⟨ob.slots,u.keep b ob q n hb hx⟩
def Un.trans(a:Un fs ex H H1 h h1)(b:Un fs ex H1 H2 h1 h2):Un fs ex H H2 h h2 where
 keep:=λc ob q n hc hx=>b.keep c ob (a.keep c ob q n hc hx) (a.free c ob q n hx) hc hx
 slot:=λc ob q n hc hx=>by
  obtain⟨sl,e1⟩:=a.slot c ob q n hc hx;obtain⟨sl',e2⟩:=b.slot c _ e1 (a.free c ob q n hx) hc hx;exact⟨sl',e2⟩
 free:=λc ob q n hx=>by
  obtain⟨o',e1⟩:=a.there c ob q hx;exact b.free c o' e1 (a.free c ob q n hx) hx
 there:=λc ob q hx=>by
  obtain⟨o',e1⟩:=a.there c ob q hx;exact b.there c o' e1 hx
 tups:=λc xs q=>b.tups c xs (a.tups c xs q)
 frzs:=λc ob xs q=>b.frzs c ob xs (a.frzs c ob xs q)
 tbls:=λc ps q=>by
  obtain⟨m1,e1⟩:=a.tbls c ps q;obtain⟨m2,e2⟩:=b.tbls c _ e1;exact⟨m1++m2,by rw[e2,Array.append_assoc]⟩
def Un.kept(k:∀b u,h.get? b=some u->h'.get? b=some u):Un fs ex H H h h':=
 ⟨λb ob q _ _ _=>k b ob q,λb ob q _ _ _=>⟨ob.slots,k b ob q⟩,λ_ _ _ n _=>n,λb ob q _=>⟨ob,k b ob q⟩,λ_ _ q=>q,λ_ _ _ q=>q,λ_ ps q=>⟨#[],by rw[q];simp⟩⟩
def Un.refl:Un fs ex H H h h:=Un.kept λ_ _ q=>q
def Un.laid(k:∀b u,h.get? b=some u->h'.get? b=some u)(hp:h.objs.size<=a)(hn:H a=none):Un fs ex H (upd H a o) h h' where
 keep:=λb u q _ _ _=>k b u q
 slot:=λb u q _ _ _=>⟨u.slots,k b u q⟩
 free:=λb u q n _=>by rw[aI (Bj (Bb (As q) hp))];exact n
 there:=λb u q _=>⟨u,k b u q⟩
 tups:=λb xs q=>by rw[aI (bM q hn)];exact q
 frzs:=λb u xs q=>by rw[aI (bM q hn)];exact q
 tbls:=λb ps q=>⟨#[],by rw[aI (bM q hn),q];simp⟩
def Un.write(mu:Wo (H x))(he:e=x\/H e=some (.own x))(k:∀b u,b≠e->h.get? b=some u->h'.get? b=some u)(heo:∃u,h'.get? e=some u):Un fs ex H (upd H x o) h h':=by
 have hx:∀b,H b=none->b≠x:=λb n z=>by subst z;rw[n]at mu;exact mu
 have hb:∀b,H b=none->b≠e:=λb n z=>by
  subst z;rcases he with r|r
  .exact hx b n r
  .rw[n]at r;cases r
 have hm:∀b u,H b=some u->¬Wo (some u)->b≠x:=λb u q nm z=>by subst z;rw[q]at mu;exact nm mu
 refine⟨λb u q n _ _=>k b u (hb b n) q,λb u q n _ _=>⟨u.slots,k b u (hb b n) q⟩,λb u q n _=>by rw[aI (hx b n)];exact n,λb u q _=>?_,
  λb xs q=>by rw[aI (hm b _ q λz=>z)];exact q,λb u xs q=>by rw[aI (hm b _ q λz=>z)];exact q,λb ps q=>⟨#[],by rw[aI (hm b _ q λz=>z),q];simp⟩⟩
 by_cases hbe:b=e
 .subst hbe;exact heo
 .exact⟨u,k b u hbe q⟩
def Un.mono(u:Un fs ex H H1 h h1)(hs:∀b∈fs,b∈fs')(hx:∀b∈ex,b∈ex'):Un fs' ex' H H1 h h1:=
 ⟨λb ob q n hb he=>u.keep b ob q n (λz=>hb (hs b z)) λz=>he (hx b z),λ_ _ q n _ he=>u.any q n λz=>he (hx _ z),λb ob q n he=>u.free b ob q n λz=>he (hx b z),λb ob q he=>u.there b ob q λz=>he (hx b z),u.tups,u.frzs,u.tbls⟩
end
def VB(h:Heap)(H:Hp):List Addr:=(List.range h.objs.size).filter λa=>(H a).isSome
def sQ(h:Heap)(H:Hp):Heap:=W.hideAll h (VB h H)
def J8(h:Heap)(H:Hp):(sQ h H).objs.size=h.objs.size:=W.hideAll_size _ _
def Mi{o:Obj}(e:h.get? b=some o)(n:H b=none):(sQ h H).get? b=some o:=
 W.hideAll_get _ e λhm=>by
  have q:(H b).isSome=true:=(Dr.mp hm).2
  rw[n]at q;simp at q
def Mf{o:Obj}(e:(sQ h H).get? b=some o):h.get? b=some o/\H b=none:=by
 have e':h.get? b=some o:=W.of_hideAll (VB h H) e
 refine⟨e',?_⟩;cases q:H b with
 |none=>rfl
 |some x=>
  have hm:b∈VB h H:=List.mem_filter.mpr ⟨List.mem_range.mpr (Heap.lt_size e'),by simp[q]⟩
  have z:(sQ h H).get? b=none:=W.hideAll_none (VB h H) hm
  rw[z]at e;cases e
def Pn(g h:Heap)(L:Addr):List (Addr×Obj):=(List.range h.objs.size).filterMap λa=>if a=L\/(g.get? a).isSome=true then none else (h.get? a).map λo=>(a,o)
def rest(g h:Heap)(L d:Addr):List (Addr×Obj):=(Pn g h L).filter λp=>decide (p.1≠d)
structure Mod (K:W.Frag) (mg:Str->Option Value) (base:Heap):Prop where
 Wr:K.In base
 glob:base.Ns mainGlobals mg
 blt:∃mb,base.Ns builtinsNs mb/\∀x:Str,x≠"__name__"->mb x=bootBuiltins x
 nolimit:base.NoLimit
structure Cx where
 prog:Program
 w:World
 K:W.Frag
 mg:Str->Option Value
 base:Heap
 A:Around
 N:List Str
 s₀:Shared
 H₀:Hp
 env:Env
 outer:List Env
 stack:List Env
 ex:List Addr
 fn:Str->Bool
 calm:Bool
 pn:List (Addr×Obj)
 xe:Value->Shared->Prop
variable {X:Cx}
def Zm(l:List Env):List Addr:=l.filterMap (·.frame)
abbrev Cx.fs(X:Cx):List Addr:=Zm X.outer
def VQ(sc:Scope)(x:Str):Prop:=sc.names.lookup x=some .local\/sc.names.lookup x=some .cell\/sc.names.lookup x=some .free
def Loc(sc:Scope)(x:Str):Prop:=sc.names.lookup x=some .local\/sc.names.lookup x=some .cell
def O_(env:Env)(h:Heap)(m:Str->Option Value)(x:Str)(u:Value):Prop:=
 (env.kindOf x=some .local/\m x=some u)\/((env.kindOf x=some .cell\/env.kindOf x=some .free)/\∃c,env.cells.lookup x=some c/\h.IsCell c (some u))
structure Cx.Ok (X:Cx):Prop where
 mod:Mod X.K X.mg X.base
 kind:X.env.scope.kind=.function
 glob:X.env.globals=mainGlobals
 blt:X.env.builtins=builtinsNs
 above:X.s₀.heap.objs.size<=X.env.locals
 inj:∀x y c,X.env.cells.lookup x=some c->X.env.cells.lookup y=some c->x=y
 has:∀x,(X.env.kindOf x=some .cell\/X.env.kindOf x=some .free)->∃c,X.env.cells.lookup x=some c
 Xe:∀x c,X.fn x=true->X.env.cells.lookup x=some c->X.s₀.heap.objs.size<=c
 hd:X.calm=true->X.A.handled=none
 frames:X.A.frames=some X.stack
 WQ:X.stack=X.outer\/(X.stack=X.env::X.outer/\X.env.frame=some X.env.locals)
 Wu:∀b∈X.ex,b≠X.env.locals/\∀x c,X.env.cells.lookup x=some c->c≠b
 bs:∀b o,X.base.get? b=some o->X.s₀.heap.get? b=some o/\X.H₀ b=none
 Ya:X.base.objs.size<=X.s₀.heap.objs.size
 YA:∀b o,X.base.get? b=some o->b∉X.ex
 YC:∀b∈X.ex,b∉X.fs
 ZA:X.s₀.heap.FunFrames X.base X.outer
 Xy:∀b∈X.fs,X.H₀ b=none
structure Inv (X:Cx) (y4:List (Addr×Obj)) (U:List (Option V)) (H:Hp) (s:Shared):Prop where
 ok:X.Ok
 os:s.os=X.s₀.os
 bare:AllBare s.gens
 base:Un X.fs X.ex X.H₀ H X.s₀.heap s.heap
 loc:∃m,s.heap.Ns X.env.locals m/\∀(i:Nat) (x:Str) (v:V),X.N[i]?=some x->U[i]?=some (some v)->VQ X.env.scope x->∃u,RelV v u/\O_ X.env s.heap m x u
 cell:∀x c,X.env.cells.lookup x=some c->∃v,s.heap.IsCell c v
 free:H X.env.locals=none
 ZT:∀x c,X.env.cells.lookup x=some c->H c=none
 pin:∀p∈X.pn++y4,s.heap.get? p.1=some p.2/\H p.1=none/\p.1≠X.env.locals/\p.1∉X.fs/\∀v,p.2.data≠.cell v
 Z7:ZD X.prog X.w H s.heap
 len:U.length=X.N.length
section
variable {U:List (Option V)} {H':Hp}
def Cx.Ok.Va(ok:X.Ok){o:Obj}(e:X.base.get? b=some o):b∉X.fs:=λhb=>by
 have:=(ok.ZA.mem hb).1
 rw[e]at this;cases this
def Inv.bs(I:Inv X y4 U H s):∀b o,X.base.get? b=some o->s.heap.get? b=some o/\H b=none:=λb o e=>
 ⟨I.base.keep b o (I.ok.bs b o e).1 (I.ok.bs b o e).2 (I.ok.Va e) (I.ok.YA b o e),I.base.free b o (I.ok.bs b o e).1 (I.ok.bs b o e).2 (I.ok.YA b o e)⟩
def Inv.bk(I:Inv X y4 U H s):∀b o,X.base.get? b=some o->s.heap.get? b=some o:=λb o e=>(I.bs b o e).1
def Inv.mod(I:Inv X y4 U H s):Mod X.K X.mg X.base:=I.ok.mod
def Inv.Zn(I:Inv X y4 U H s):X.K.In s.heap:=I.ok.mod.Wr.keeps I.bk
def Inv.nolimit(I:Inv X y4 U H s):s.heap.NoLimit:=I.ok.mod.nolimit.keeps I.bk
def Inv.fr(I:Inv X y4 U H s):∃m,Fr X.base X.env.locals s.heap m:=
 let ⟨m,hn,_⟩:=I.loc
 ⟨m,hn,I.bk,Bd I.ok.Ya I.ok.above⟩
def Inv.lt(I:Inv X y4 U H s):X.env.locals<s.heap.objs.size:=let ⟨_,hn,_⟩:=I.loc;hn.lt
def Inv.sz(I:Inv X y4 U H s):X.s₀.heap.objs.size<=s.heap.objs.size:=Bd I.ok.above (Fa I.lt)
def Inv.Uw(I:Inv X y4 U H s)(h:s.heap.objs.size<=a):a∉X.fs:=λhb=>by
 obtain⟨_,o,ho,_⟩:=I.ok.ZA.mem hb;exact absurd (Bb (As ho) (Bd I.sz h)) (Cy _)
def Inv.cne(I:Inv X y4 U H s):∀x c,X.env.cells.lookup x=some c->c≠X.env.locals:=λx c e z=>by
 obtain⟨v,o,ho,hd⟩:=I.cell x c e;obtain⟨m,⟨o',es,ep,ho',hd',_⟩,_⟩:=I.loc;rw[z,ho']at ho;cases ho;rw[hd']at hd;cases hd
def Inv.ZA(I:Inv X y4 U H s):s.heap.FunFrames X.base X.outer:=by
 have all:∀(l:List Env),(∀b∈Zm l,b∈X.fs)->X.s₀.heap.FunFrames X.base l->s.heap.FunFrames X.base l:=by
  intro l;induction l with
  |nil=>intro _ _;trivial
  |cons env r ih=>
   intro hs hl;obtain⟨hk,⟨L,o,hf,hn,ho,hd⟩,hr⟩:=hl;have hL:L∈X.fs:=hs L (by unfold Zm;rw[Eb,hf];exact Aq)
   obtain⟨sl,e⟩:=I.base.slot L o ho (I.ok.Xy L hL) hL λz=>I.ok.YC L z hL;exact⟨hk,⟨L,_,hf,hn,e,hd⟩,ih (λb hb=>hs b (by unfold Zm;rw[Eb,hf];exact Ao _ hb)) hr⟩
 exact all X.outer (λ_ hb=>hb) I.ok.ZA
def Inv.stack(I:Inv X y4 U H s):s.heap.FunFrames X.base X.stack:=by
 rcases I.ok.WQ with e|⟨e,hf⟩
 .rw[e];exact I.ZA
 .rw[e];obtain⟨m,hn,_⟩:=I.loc;refine .cons (by rw[I.ok.kind];decide) hf hn ?_ I.ZA
  exact Gi (Bd I.ok.Ya I.ok.above)
def Inv.YK(I:Inv X y4 U H s):∀b∈Zm X.stack,b∈X.env.locals::X.fs:=λb hb=>by
 rcases I.ok.WQ with e|⟨e,hf⟩
 .rw[e]at hb;exact Ao _ hb
 .rw[e]at hb;unfold Zm at hb;rw[Eb,hf]at hb;exact hb
def Inv.Zd(I:Inv X y4 U H s):∀b∈Zm X.stack,H b=none:=λb hb=>by
 rcases Az.mp (I.YK b hb) with e|hb
 .rw[e];exact I.free
 .obtain⟨_,o,ho,_⟩:=I.ok.ZA.mem hb;exact I.base.free b o ho (I.ok.Xy b hb) λz=>I.ok.YC b z hb
def Inv.step{g':Array GenState}{d':Drawn}{ch:List Addr}(I:Inv X y4 U H s)(hch:∀b∈ch,(b∈X.ex\/X.s₀.heap.objs.size<=b)/\b≠X.env.locals/\(∀x c,X.env.cells.lookup x=some c->c≠b)/\∀p∈X.pn++y4,p.1≠b)(keep:∀b o,b≠X.env.locals->b∉X.fs->b∉ch->s.heap.get? b=some o->H b=none->h'.get? b=some o)(slot:∀b o,b≠X.env.locals->b∈X.fs->b∉ch->s.heap.get? b=some o->H b=none->∃sl,h'.get? b=some {o with slots:=sl})(free:∀b o,b∉ch->s.heap.get? b=some o->H b=none->H' b=none)(there:∀b o,b∉ch->s.heap.get? b=some o->∃o',h'.get? b=some o')(tups:∀b xs,H b=some (.tup xs)->H' b=some (.tup xs))(frzs:∀b o u,H b=some (.frz o u)->H' b=some (.frz o u))(tbls:∀b ps,H b=some (.tbl ps)->∃more,H' b=some (.tbl (ps++more)))(ns:∀m,s.heap.Ns X.env.locals m->h'.Ns X.env.locals m)(Z7:ZD X.prog X.w H' h')(hg:AllBare g'):Inv X y4 U H' {s with heap:=h',gens:=g',drawn:=d',toks:=t'}:=by
 have neL:∀b o,X.s₀.heap.get? b=some o->b≠X.env.locals:=λb o e=>Bj (Bb (As e) I.ok.above)
 have neC:∀b o,X.s₀.heap.get? b=some o->b∉X.ex->b∉ch:=λb o e hx hb=>by
  rcases (hch b hb).1 with z|z
  .exact hx z
  .exact absurd (Bb (As e) z) (Cy _)
 have cellK:∀x c,X.env.cells.lookup x=some c->∀v,s.heap.IsCell c v->h'.IsCell c v:=λx c e v ⟨o,ho,hd⟩=>by
  have nch:c∉ch:=λz=>(hch c z).2.2.1 x c e rfl
  by_cases hc:c∈X.fs
  .obtain⟨sl,q⟩:=slot c o (I.cne x c e) hc nch ho (I.ZT x c e);exact⟨_,q,hd⟩
  .exact⟨o,keep c o (I.cne x c e) hc nch ho (I.ZT x c e),hd⟩
 refine⟨I.ok,I.os,hg,⟨λb o e n hb hx=>?_,λb o e n hb hx=>?_,λb o e n hx=>?_,λb o e hx=>?_,λb xs e=>tups b xs (I.base.tups b xs e),λb o xs e=>frzs b o xs (I.base.frzs b o xs e),λb ps e=>?_⟩,?_,λx c e=>?_,?_,λx c e=>?_,λp hp=>?_,Z7,I.len⟩
 .exact keep b o (neL b o e) hb (neC b o e hx) (I.base.keep b o e n hb hx) (I.base.free b o e n hx)
 .obtain⟨sl,e1⟩:=I.base.slot b o e n hb hx;obtain⟨sl',e2⟩:=slot b _ (neL b o e) hb (neC b o e hx) e1 (I.base.free b o e n hx);exact⟨sl',e2⟩
 .obtain⟨o',e1⟩:=I.base.there b o e hx;exact free b o' (neC b o e hx) e1 (I.base.free b o e n hx)
 .obtain⟨o',e1⟩:=I.base.there b o e hx;exact there b o' (neC b o e hx) e1
 .obtain⟨m1,e1⟩:=I.base.tbls b ps e;obtain⟨m2,e2⟩:=tbls b _ e1;exact⟨m1++m2,by rw[e2,Array.append_assoc]⟩
 .obtain⟨m,hn,hl⟩:=I.loc;refine⟨m,ns m hn,λi x v e1 e2 e3=>?_⟩;obtain⟨u,r,l⟩:=hl i x v e1 e2 e3;refine⟨u,r,?_⟩;rcases l with l|⟨k,c,e,z⟩
  .exact .inl l
  .exact .inr ⟨k,c,e,cellK x c e _ z⟩
 .obtain⟨v,z⟩:=I.cell x c e;exact⟨v,cellK x c e v z⟩
 .obtain⟨m,⟨o,_,_,ho,_⟩,_⟩:=I.loc;exact free _ o (λz=>(hch _ z).2.1 rfl) ho I.free
 .obtain⟨v,o,ho,hd⟩:=I.cell x c e;exact free c o (λz=>(hch c z).2.2.1 x c e rfl) ho (I.ZT x c e)
 .obtain⟨e,n,ne,nf,d⟩:=I.pin p hp;have nch:p.1∉ch:=λz=>(hch p.1 z).2.2.2 p hp rfl
  exact⟨keep p.1 p.2 ne nf nch e n,free p.1 p.2 nch e n,ne,nf,d⟩
def Inv.un{t':Nat}(I:Inv X y4 U H s)(u:Un X.fs [] H H' s.heap h')(Z7:ZD X.prog X.w H' h'):Inv X y4 U H' {s with heap:=h',toks:=t'}:=by
 obtain⟨m,⟨o,es,ep,ho,r⟩,_⟩:=id I.loc;obtain⟨sl,hL⟩:=u.any ho I.free (by simp)
 exact I.step (g':=s.gens) (d':=s.drawn) (ch:=[]) (λ_ z=>nomatch z) (λb o _ hb _ e n=>u.keep b o e n hb (by simp)) (λb o _ hb _ e n=>u.slot b o e n hb (by simp)) (λb o _ e n=>u.free b o e n (by simp)) (λb o _ e=>u.there b o e (by simp)) u.tups u.frzs u.tbls (λm' hm=>by
  obtain⟨o',es',ep',ho',r'⟩:=hm;rw[ho]at ho';cases ho';exact⟨_,es',ep',hL,r'⟩) Z7 I.bare
def Inv.call{g':Array GenState}{t':Nat}{d':Drawn}{ch:List Addr}(I:Inv X y4 U H s)(u:Un (Zm X.stack) ch H H' s.heap h')(Z7:ZD X.prog X.w H' h')(hg:AllBare g')(hch:∀b∈ch,(b∈X.ex\/X.s₀.heap.objs.size<=b)/\b≠X.env.locals/\(∀x c,X.env.cells.lookup x=some c->c≠b)/\∀p∈X.pn++y4,p.1≠b):Inv X y4 U H' {s with heap:=h',gens:=g',drawn:=d',toks:=t'}:=by
 obtain⟨m,⟨o,es,ep,ho,r⟩,_⟩:=id I.loc;obtain⟨sl,hL⟩:=u.any ho I.free λz=>(hch _ z).2.1 rfl;exact I.step (ch:=ch) hch (λb o hL hb hc e n=>u.keep b o e n (λz=>(Az.mp (I.YK b z)).elim hL hb) hc) (λb o _ _ hc e n=>u.any e n hc) (λb o hc e n=>u.free b o e n hc) (λb o hc e=>u.there b o e hc) u.tups u.frzs u.tbls (λm' hm=>by
  obtain⟨o',es',ep',ho',r'⟩:=hm;rw[ho]at ho';cases ho';exact⟨_,es',ep',hL,r'⟩) Z7 hg
def Inv.turned{t':Nat}{it:Addr}(I:Inv X y4 U H s)(k:∀b o,b≠it->s.heap.get? b=some o->h'.get? b=some o)(hn:H it=none)(hL:it≠X.env.locals)(h1:it∈X.ex\/X.s₀.heap.objs.size<=it)(h2:∀x c,X.env.cells.lookup x=some c->c≠it)(h3:∀p∈X.pn++y4,p.1≠it):Inv X y4 U H {s with heap:=h',toks:=t'}:=by
 have nit:∀b u,H b=some u->b≠it:=λb u e z=>by rw[z,hn]at e;cases e
 refine I.step (g':=s.gens) (d':=s.drawn) (ch:=[it]) (λb hb=>?_) (λb o _ _ hc e _=>k b o (λz=>hc (by simp[z])) e) (λb o _ _ hc e _=>⟨o.slots,k b o (λz=>hc (by simp[z])) e⟩) (λ_ _ _ _ n=>n)
  (λb o hc e=>⟨o,k b o (λz=>hc (by simp[z])) e⟩) (λ_ _ e=>e) (λ_ _ _ e=>e) (λb ps e=>⟨#[],by rw[e];simp⟩) (λm hm=>?_) (λb u e=>?_) I.bare
 .have e:b=it:=by simpa using hb
  subst e;exact⟨h1,hL,h2,h3⟩
 .obtain⟨o,es,ep,ho,r⟩:=hm;exact⟨o,es,ep,k _ o (Ne.symm hL) ho,r⟩
 .refine(I.Z7 b u e).ZE (λc v hc q=>k c v ?_ q) (λ_ q=>q) λ_ _ q=>q;rcases hc with z|z
  .rw[z];exact nit b u e
  .exact nit c _ z
def Inv.tok(I:Inv X y4 U H s)(t:Nat):Inv X y4 U H {s with toks:=t}:=I.un (h':=s.heap) (t':=t) Un.refl I.Z7
def Inv.kept{t':Nat}(I:Inv X y4 U H s)(k:∀b u,s.heap.get? b=some u->h'.get? b=some u):Inv X y4 U H {s with heap:=h',toks:=t'}:=I.un (Un.kept k) (I.Z7.kept k)
def Inv.laid{a:Addr}{o:HO}{t':Nat}(I:Inv X y4 U H s)(k:∀b u,s.heap.get? b=some u->h'.get? b=some u)(hp:s.heap.objs.size<=a)(new:Z3 X.prog X.w (upd H a o) h' a o):Inv X y4 U (upd H a o) {s with heap:=h',toks:=t'}:=I.un (Un.laid k hp (I.Z7.fresh hp)) (I.Z7.laid k hp new)
def Inv.write{x e:Addr}{o:HO}{t':Nat}(I:Inv X y4 U H s)(mu:Wo (H x))(he:e=x\/H e=some (.own x))(k:∀b u,b≠e->s.heap.get? b=some u->h'.get? b=some u)(heo:∃u,h'.get? e=some u)(new:Z3 X.prog X.w (upd H x o) h' x o):Inv X y4 U (upd H x o) {s with heap:=h',toks:=t'}:=I.un (Un.write mu he k heo) (I.Z7.write mu he k heo new)
def Inv.weak{U':List (Option V)}(I:Inv X y4 U H s)(hl:U'.length=U.length)(w:∀(i:Nat) v,U'[i]?=some (some v)->U[i]?=some (some v)):Inv X y4 U' H s:=
 ⟨I.ok,I.os,I.bare,I.base,let ⟨m,hn,hl'⟩:=I.loc;⟨m,hn,λi x v e1 e2 e3=>hl' i x v e1 (w i v e2) e3⟩,I.cell,I.free,I.ZT,I.pin,I.Z7,hl.trans I.len⟩
def Inv.Yd{pins':Q2}(I:Inv X y4 U H s)(h:∀p∈pins',s.heap.get? p.1=some p.2/\H p.1=none/\p.1≠X.env.locals/\p.1∉X.fs/\∀v,p.2.data≠.cell v):Inv X pins' U H s:=
 ⟨I.ok,I.os,I.bare,I.base,I.loc,I.cell,I.free,I.ZT,λp hp=>(Bs.mp hp).elim (λz=>I.pin p (Cb _ z)) (h p),I.Z7,I.len⟩
def qT(hN:N.Nodup){j:Nat}(a:N[i]?=some x)(b:N[j]?=some x):i=j:=by
 obtain⟨h1,e1⟩:=Ad.mp a;obtain⟨h2,e2⟩:=Ad.mp b;exact(Gm hN).mp (e1.trans e2.symm)
def tJ{Q:Unit->Shared->Prop}(I:Inv X y4 U H s)(hN:X.N.Nodup)(hi:X.N[i]?=some x)(hx:Loc X.env.scope x)(r:RelV v u)(h:∀s',Inv X y4 (U.set i (some v)) H s'->(∃a,Heap.SameBut a s.heap s'.heap/\(a=X.env.locals\/X.env.cells.lookup x=some a))->Q () s')(hf:X.fn x=true\/X.env.scope.names.lookup x=some .local:=by first|exact .inl rfl|exact .inr rfl|assumption):wpAny M A (storeName X.env x u) Q E s:=by
 obtain⟨m,hn,hl⟩:=id I.loc;have hcls:(X.env.scope.kind == .class || (X.env.scope.kind == .module&&X.env.locals != X.env.globals))=false:=by rw[I.ok.kind];rfl
 have hiU:i<U.length:=by rw[I.len];exact(Ad.mp hi).1
 have cne:=I.cne
 have tracked:∀ {a:Addr} {h':Heap},(∃o,s.heap.get? a=some o/\H a=none)->Heap.SameBut a s.heap h'->ZD X.prog X.w H h':=fun {a h'} ha hs b ob e=>by
  obtain⟨_,_,hfree⟩:=ha;refine(I.Z7 b ob e).ZE (λc w' hc q=>(hs.2 c ?_).trans q) (λ_ q=>q) λ_ _ q=>q;rintro rfl;rcases hc with rfl|hc
  .rw[hfree]at e;cases e
  .rw[hfree]at hc;cases hc
 rcases hx with hk|hk
 .refine wpAny_storeName_local hk hn (λh' hn' hs=>?_) hcls;obtain⟨oL,_,_,hoL,_⟩:=id hn;refine h _ ⟨I.ok,I.os,I.bare,⟨λb o e n hb hx=>?_,λb o e n hb hx=>?_,I.base.free,λb o e hx=>?_,I.base.tups,I.base.frzs,I.base.tbls⟩,⟨_,hn',λj y v' e1 e2 e3=>?_⟩,λy c e=>?_,I.free,I.ZT,λp hp=>?_,tracked ⟨oL,hoL,I.free⟩ hs,by simpa using I.len⟩ ⟨_,hs,.inl rfl⟩
  .exact(hs.2 b (Bj (Bb (As e) I.ok.above))).trans (I.base.keep b o e n hb hx)
  .obtain⟨sl,e1⟩:=I.base.slot b o e n hb hx;exact⟨sl,(hs.2 b (Bj (Bb (As e) I.ok.above))).trans e1⟩
  .obtain⟨o',e1⟩:=I.base.there b o e hx;exact⟨o',(hs.2 b (Bj (Bb (As e) I.ok.above))).trans e1⟩
  .by_cases hj:j=i
   .subst hj;rw[hi]at e1;cases e1;rw[Di hiU]at e2;cases e2;exact⟨u,r,.inl ⟨hk,by simp⟩⟩
   .rw[Dd (Ne.symm hj)]at e2;obtain⟨u',r',q⟩:=hl j y v' e1 e2 e3;refine⟨u',r',?_⟩;rcases q with⟨k,e⟩|⟨k,c,e,z⟩
    .refine .inl ⟨k,?_⟩;have:y≠x:=λe=>hj (qT hN e1 (e▸hi))
     simp[this,e]
    .exact .inr ⟨k,c,e,z.sameBut hs (cne y c e)⟩
  .obtain⟨w',z⟩:=I.cell y c e;exact⟨w',z.sameBut hs (cne y c e)⟩
  .obtain⟨e,n,ne,nf,d⟩:=I.pin p hp;exact⟨(hs.2 p.1 ne).trans e,n,ne,nf,d⟩
 .have hfn:X.fn x=true:=by
   rcases hf with z|z
   .exact z
   .rw[z]at hk;cases hk
  obtain⟨c,hc⟩:=I.ok.has x (.inl hk);obtain⟨w',z⟩:=I.cell x c hc;refine wpAny_storeName_cell I.ok.kind hk hc z (λh' hc' hs=>?_);obtain⟨oc,hoc,hocd⟩:=id z;refine h {s with heap:=h'} ⟨I.ok,I.os,I.bare,⟨λb o e n hb hx=>?_,λb o e n hb hx=>?_,I.base.free,λb o e hx=>?_,I.base.tups,I.base.frzs,I.base.tbls⟩,⟨m,hn.sameBut hs (Ne.symm (cne x c hc)),λj y v' e1 e2 e3=>?_⟩,λy c' e=>?_,I.free,I.ZT,λp hp=>?_,tracked ⟨oc,hoc,I.ZT x c hc⟩ hs,by simpa using I.len⟩ ⟨c,hs,.inr hc⟩
  .exact(hs.2 b (Bj (Bb (As e) (I.ok.Xe x c hfn hc)))).trans (I.base.keep b o e n hb hx)
  .obtain⟨sl,e1⟩:=I.base.slot b o e n hb hx;exact⟨sl,(hs.2 b (Bj (Bb (As e) (I.ok.Xe x c hfn hc)))).trans e1⟩
  .obtain⟨o',e1⟩:=I.base.there b o e hx;exact⟨o',(hs.2 b (Bj (Bb (As e) (I.ok.Xe x c hfn hc)))).trans e1⟩
  .by_cases hj:j=i
   .subst hj;rw[hi]at e1;cases e1;rw[Di hiU]at e2;cases e2;exact⟨u,r,.inr ⟨.inl hk,c,hc,hc'⟩⟩
   .rw[Dd (Ne.symm hj)]at e2;obtain⟨u',r',q⟩:=hl j y v' e1 e2 e3;refine⟨u',r',?_⟩;rcases q with q|⟨k,c',e,z'⟩
    .exact .inl q
    .refine .inr ⟨k,c',e,z'.sameBut hs ?_⟩;rintro rfl;exact hj (qT hN e1 (I.ok.inj _ _ _ e hc▸hi))
  .by_cases hcc:c'=c
   .subst hcc;exact⟨_,hc'⟩
   .obtain⟨w2,z2⟩:=I.cell y c' e;exact⟨w2,z2.sameBut hs hcc⟩
  .obtain⟨e,n,ne,nf,d⟩:=I.pin p hp;refine⟨(hs.2 p.1 ?_).trans e,n,ne,nf,d⟩;intro q;rw[q,hoc]at e;have q':oc=p.2:=Bv e
   exact d w' (by rw[<-q'];exact hocd)
def rT{Q:Unit->Shared->Prop}(I:Inv X y4 U H s)(hN:X.N.Nodup)(hi:X.N[i]?=some x)(hx:Loc X.env.scope x)(r:RelV v u)(h:∀s',Inv X y4 (U.set i (some v)) H s'->Q () s')(hf:X.fn x=true\/X.env.scope.names.lookup x=some .local:=by first|exact .inl rfl|exact .inr rfl|assumption):wpAny M A (storeName X.env x u) Q E s:=
 tJ I hN hi hx r (λs' I' _=>h s' I') hf
def Inv.Xg{s':Shared}{ch:List Addr}(I:Inv X y4 U H s)(ho:s'.os=s.os)(u:Un (Zm X.stack) ch H H' s.heap s'.heap)(Z7:ZD X.prog X.w H' s'.heap)(hg:AllBare s'.gens)(hch:∀b∈ch,(b∈X.ex\/X.s₀.heap.objs.size<=b)/\b≠X.env.locals/\(∀x c,X.env.cells.lookup x=some c->c≠b)/\∀p∈X.pn++y4,p.1≠b):Inv X y4 U H' s':=by
 obtain⟨h',g',d',t',o'⟩:=s';have e:o'=s.os:=ho
 subst e;exact I.call (g':=g') (t':=t') (d':=d') u Z7 hg hch
end
abbrev XK:=Value->Option Addr->Hp->Prop
abbrev St:=List (Option V)
variable {U:St}
abbrev VK:=V->Hp->Prop
abbrev TE:=St->Hp->VK->Prop
variable {ta tb te:TE}
abbrev TT:=St->Hp->(Bool->Hp->Prop)->Prop
abbrev TA:=St->Hp->(List V->Hp->Prop)->Prop
variable {t:TA}
structure Ends where
 nx:St->Hp->Prop
 rt:VK
 bk:St->Hp->Prop:=λ_ _=>False
 ct:St->Hp->Prop:=λ_ _=>False
abbrev TS:=Ends->St->Hp->Prop
def EP(X:Cx)(y4:List (Addr×Obj))(U:St)(Q:VK)(u:Value)(s':Shared):Prop:=∃v H',Inv X y4 U H' s'/\RelV v u/\Q v H'
def TP(X:Cx)(y4:List (Addr×Obj))(U:St)(Q:Bool->Hp->Prop)(b:Bool)(s':Shared):Prop:=∃H',Inv X y4 U H' s'/\Q b H'
def AP(X:Cx)(y4:List (Addr×Obj))(U:St)(Q:List V->Hp->Prop)(us:List Value)(s':Shared):Prop:=∃vs H',Inv X y4 U H' s'/\Vals vs us/\Q vs H'
def SP(X:Cx)(y4:List (Addr×Obj))(D:Ends)(f:Flow)(s':Shared):Prop:=
 match f with
 |.next=>∃U' H',Inv X y4 U' H' s'/\D.nx U' H'
 |.brk=>∃U' H',Inv X y4 U' H' s'/\D.bk U' H'
 |.cont=>∃U' H',Inv X y4 U' H' s'/\D.ct U' H'
 |.ret u=>∃v U' H',Inv X y4 U' H' s'/\RelV v u/\D.rt v H'
def PE(X:Cx)(e:Expr)(t:TE):Prop:=
 ∀(y4:Q2) (s:Shared) (U:St) (H:Hp) (Q:VK),Inv X y4 U H s->t U H Q->wpAny (model X.prog X.w) X.A (eval e X.env) (EP X y4 U Q) X.xe s
def PT(X:Cx)(e:Expr)(t:TT):Prop:=
 ∀(y4:Q2) (s:Shared) (U:St) (H:Hp) (Q:Bool->Hp->Prop),Inv X y4 U H s->t U H Q->wpAny (model X.prog X.w) X.A (isTrue e X.env (eval e X.env)) (TP X y4 U Q) X.xe s
def PW(X:Cx)(e:Expr)(t:TT):Prop:=
 ∀(whole:Sem Value) (y4:Q2) (s:Shared) (U:St) (H:Hp) (Q:Bool->Hp->Prop),Inv X y4 U H s->t U H Q->wpAny (model X.prog X.w) X.A (isTrue e X.env whole) (TP X y4 U Q) X.xe s
def PW.pt{t:TT}(h:PW X e t):PT X e t:=h _
def PA(X:Cx)(es:List Expr)(t:TA):Prop:=
 ∀(pos:Pos) (y4:Q2) (s:Shared) (U:St) (H:Hp) (Q:List V->Hp->Prop),Inv X y4 U H s->t U H Q->wpAny (model X.prog X.w) X.A (spliced (backTo pos (starEach es X.env))) (AP X y4 U Q) X.xe s
def PS(X:Cx)(st:Stmt)(t:TS):Prop:=
 ∀(y4:Q2) (s:Shared) (U:St) (H:Hp) (D:Ends),Inv X y4 U H s->t D U H->wpAny (model X.prog X.w) X.A (exec st X.env) (SP X y4 D) X.xe s
def YF(X:Cx)(st:List Stmt)(t:TS):Prop:=
 ∀(y4:Q2) (s:Shared) (U:St) (H:Hp) (D:Ends),Inv X y4 U H s->t D U H->wpAny (model X.prog X.w) X.A (execs st X.env) (SP X y4 D) X.xe s
def Z0{α:Type}{t:Sem α}{Q Q':α->Shared->Prop}(h:wpAny M A t Q E s)(hQ:∀a s,Q a s->Q' a s):wpAny M A t Q' E s:=Ck h hQ λ_ _ x=>x
section
def bin{a b:Expr}(ha:PE X a ta)(hb:PE X b tb){R:V->V->Hp->Prop}(I:Inv X y4 U H s)(h:ta U H λx H1=>tb U H1 λy H2=>R x y H2){α:Type}{Q:α->Shared->Prop}{f:Value->Value->Sem α}(hf:∀v u s2 x y H2,Inv X y4 U H2 s2->RelV x v->RelV y u->R x y H2->wpAny (model X.prog X.w) X.A (f v u) Q X.xe s2):wpAny (model X.prog X.w) X.A (eval a X.env) (λv s₁=>wpAny (model X.prog X.w) X.A (eval b X.env) (λu s₂=>wpAny (model X.prog X.w) X.A (f v u) Q X.xe s₂) X.xe s₁) X.xe s:=by
 refine Z0 (ha y4 s U H _ I h) λv s1 ⟨x,H1,I1,r1,q1⟩=>?_;refine Z0 (hb y4 s1 U H1 _ I1 q1) λu s2 ⟨y,H2,I2,r2,q2⟩=>?_;exact hf v u s2 x y H2 I2 r1 r2 q2
def Uh(i:Nat):TE:=λU H Q=>∃v,U[i]?=some (some v)/\Q v H
def tC(v:V):TE:=λ_ H Q=>Q v H
def Kz(hN:X.N[i]?=some x)(hv:VQ X.env.scope x)(hd:(x==("__debug__" : Str))=false:=by decide)(hcd:(x==("__classdict__" : Str))=false:=by decide):PE X (.Name x pos) (Uh i):=by
 intro y4 s U H Q I h;obtain⟨v,e,h⟩:=h;obtain⟨m,hn,hl⟩:=I.loc;obtain⟨u,r,l⟩:=hl i x v hN e hv;have fin:EP X y4 U Q u s:=⟨v,H,I,r,h⟩
 rcases l with⟨hk,hm⟩|⟨hk,c,hc,hcell⟩
 .exact wpAny_Name (wpAny_loadName_local I.ok.kind hk hn hm fin) hd
 .rcases hk with hk|hk
  .exact wpAny_Name (wpAny_loadName_cell I.ok.kind hk hc hcell fin) hd
  .exact wpAny_Name (wpAny_loadName_free I.ok.kind hk hc hcell fin hcd) hd
def aK{i j pos}:PE X (.Constant (.int i) j pos) (tC (.int i)):=λ_ _ _ H _ I h=>wpAny_Constant_int ⟨.int i,H,I.tok _,⟨_,rfl⟩,h⟩
def dE{b j pos}:PE X (.Constant (.bool b) j pos) (tC (.bl b)):=λ_ _ _ H _ I h=>Constant_bool ⟨.bl b,H,I,rfl,h⟩
def cV{j pos}:PE X (.Constant .none j pos) (tC .non):=λ_ _ _ H _ I h=>Constant_none ⟨.non,H,I,rfl,h⟩
def gU{x j pos}:PE X (.Constant (.str x) j pos) (tC (.str x)):=λ_ _ _ H _ I h=>Calls.Constant_str ⟨.str x,H,I.tok _,⟨_,rfl⟩,h⟩
def Gl(X:Cx)(x:Str):Prop:=X.env.kindOf x=some .globalImplicit
def iO(I:Inv X y4 U H s)(hg:Gl X x)(hm:X.mg x=some u)(h:Q u s)(hd:(x==("__debug__" : Str))=false:=by decide):wpAny (model X.prog X.w) X.A (eval (.Name x pos) X.env) Q E s:=
 Calls.Name_function_global I.ok.kind hg (Calls.loadGlobal_global (by rw[I.ok.glob];exact I.mod.glob.keeps I.bk) hm h) hd
def gK(I:Inv X y4 U H s)(hg:Gl X x)(hm:X.mg x=none)(hv:bootBuiltins x=some u)(h:Q u s)(hn:x≠"__name__" := by decide)(hd:(x==("__debug__" : Str))=false:=by decide):wpAny (model X.prog X.w) X.A (eval (.Name x pos) X.env) Q E s:=by
 obtain⟨mb,h1,h2⟩:=I.mod.blt;exact Calls.Name_function_global I.ok.kind hg (Calls.loadGlobal_builtin (by rw[I.ok.glob];exact I.mod.glob.keeps I.bk) hm (by rw[I.ok.blt];exact h1.keeps I.bk) ((h2 x hn).trans hv) h) hd
def RB(hg:Gl X x)(hm:X.mg x=some u)(r:RelV v u)(hd:(x==("__debug__" : Str))=false:=by decide):PE X (.Name x pos) (tC v):=
 λ_ _ _ H _ I h=>iO I hg hm ⟨v,H,I,r,h⟩ hd
def Px(hg:Gl X x)(hm:X.mg x=none)(hv:bootBuiltins x=some u)(r:RelV v u)(hn:x≠"__name__" := by decide)(hd:(x==("__debug__" : Str))=false:=by decide):PE X (.Name x pos) (tC v):=
 λ_ _ _ H _ I h=>gK I hg hm hv ⟨v,H,I,r,h⟩ hn hd
variable {a b:Expr}
variable {tA tB':TT} {rest:List Expr}
def T5(t u:TT):TT:=λU H Q=>t U H λc H1=>if c=true then u U H1 Q else Q false H1
def SS(t u:TT):TT:=λU H Q=>t U H λc H1=>if c=true then Q true H1 else u U H1 Q
def Se(t:TT):TT:=λU H Q=>t U H λc H1=>Q (!c) H1
def gC(ha:PT X a tA):PW X (.BoolOp .And [a] pos) tA:=by
 intro wh y4 s U H Q I h;refine isTrue_and (Z0 (ha y4 s U H Q I h) λc s1 e=>?_);cases c with
 |true=>exact isTrue_and_nil e
 |false=>exact e
def iB(ha:PT X a tA):PW X (.BoolOp .Or [a] pos) tA:=by
 intro wh y4 s U H Q I h;refine isTrue_or (Z0 (ha y4 s U H Q I h) λc s1 e=>?_);cases c with
 |false=>exact isTrue_or_nil e
 |true=>exact e
def hU(ha:PT X a tA)(hb:PW X (.BoolOp .And (b::rest) pos) tB'):PW X (.BoolOp .And (a::b::rest) pos) (T5 tA tB'):=by
 intro wh y4 s U H Q I h;refine isTrue_and (Z0 (ha y4 s U H _ I h) λc s1 ⟨H1,I1,q1⟩=>?_);cases c with
 |true=>exact hb wh y4 s1 U H1 Q I1 q1
 |false=>exact⟨H1,I1,q1⟩
def kX(ha:PT X a tA)(hb:PW X (.BoolOp .Or (b::rest) pos) tB'):PW X (.BoolOp .Or (a::b::rest) pos) (SS tA tB'):=by
 intro wh y4 s U H Q I h;refine isTrue_or (Z0 (ha y4 s U H _ I h) λc s1 ⟨H1,I1,q1⟩=>?_);cases c with
 |true=>exact⟨H1,I1,q1⟩
 |false=>exact hb wh y4 s1 U H1 Q I1 q1
def dG(ha:PT X a tA):PT X (.UnaryOp .Not a pos) (Se tA):=by
 intro y4 s U H Q I h;exact isTrue_not (ha y4 s U H (λc H1=>Q (!c) H1) I h)
def Ro{op}{t:TE}(h:PE X a t):PE X (.BoolOp op [a] pos) t:=λy4 s U H Q I hw=>BoolOp_one (h y4 s U H Q I hw)
def RJ(t:TT)(ta tb:TE):TE:=λU H Q=>t U H λc H1=>if c=true then ta U H1 Q else tb U H1 Q
def yN{c:Expr}(hc:PT X c tA)(ha:PE X a ta)(hb:PE X b tb):PE X (.IfExp c a b pos) (RJ tA ta tb):=by
 intro y4 s U H Q I h;refine wpAny_IfExp (Z0 (hc y4 s U H _ I h) λd s1 ⟨H1,I1,q1⟩=>?_);cases d with
 |true=>exact ha y4 s1 U H1 Q I1 q1
 |false=>exact hb y4 s1 U H1 Q I1 q1
end
def ZJ(K:W.Frag)(H:Hp)(a:Addr)(xs:List V):Prop:=
 Rd H a (.lst xs)\/
  ∃(o:Obj) (its:Array Value) (n:Nat),K.lookup a=some o/\o.cls=.type "list"/\o.dict=none/\o.data=.seq its n/\its.size<=sizeLine/\Vals xs its.toList
def Y9(K:W.Frag)(H:Hp)(a:Addr)(xs:List V):Prop:=
 Rd H a (.tup xs)\/
  ∃(o:Obj) (its:Array Value) (n:Nat),K.lookup a=some o/\o.cls=.type "tuple"/\o.data=.seq its n/\its.size<=sizeLine/\Vals xs its.toList
def P1:Value->Option V
 |.none=>some .non
 |.bool b=>some (.bl b)
 |.int i _=>some (.int i)
 |.str x _=>some (.str x)
 |.bytes b _=>some (.byt b)
 |.float b _=>some (.flt b)
 |.ref a=>some (.ref a)
 |.type n=>some (.ty n)
 |_=>none
def RelV.abs{x:V}(r:RelV x u):P1 u=some x:=by
 cases x with
 |non=>cases r;rfl
 |bl _=>cases r;rfl
 |int _=>obtain⟨t,rfl⟩:=r;rfl
 |str _=>obtain⟨t,rfl⟩:=r;rfl
 |byt _=>obtain⟨t,rfl⟩:=r;rfl
 |flt _=>obtain⟨t,rfl⟩:=r;rfl
 |ref _=>cases r;rfl
 |ty _=>cases r;rfl
def RelV.inj{x y:V}(r:RelV x u)(q:RelV y u):x=y:=Bv (r.abs.symm.trans q.abs)
def Vals.inj{b a:List V}{c:List Value}(h:Vals b c)(g:Vals a c):b=a:=by
 induction h generalizing a with
 |nil=>cases g;rfl
 |cons r _ i=>cases g with|cons q t=>rw[r.inj q,i t]
section
variable {ys:List V}
def Y9.of{K:W.Frag}(h:H a=some (.tup xs)):Y9 K H a xs:=.inl (.inl h)
def Inv.list(I:Inv X y4 U H s)(h:ZJ X.K H a xs):∃its:List Value,Vals xs its/\PlainL s.heap a its.toArray/\xs.length<=sizeLine:=by
 rcases h with h|⟨o,its,n,hk,hc,hd,hs,hz,r⟩
 .obtain⟨z,its,n,r,e⟩:=h.ok I.Z7;exact⟨its,r,⟨_,n,e,rfl,rfl,rfl⟩,z⟩
 .refine⟨its.toList,r,⟨o,n,I.Zn a o hk,hc,hd,by simpa using hs⟩,?_⟩
  have e:=r.length
  simp only[Array.length_toList]at e;omega
def Inv.tuple(I:Inv X y4 U H s)(h:Y9 X.K H a xs):∃its:List Value,Vals xs its/\IsTup s.heap a its.toArray/\xs.length<=sizeLine:=by
 rcases h with h|⟨o,its,n,hk,hc,hs,hz,r⟩
 .obtain⟨z,its,r,p⟩:=h.ok I.Z7;exact⟨its,r,p,z⟩
 .refine⟨its.toList,r,⟨o,I.Zn a o hk,hc,n,by simpa using hs⟩,?_⟩
  have e:=r.length
  simp only[Array.length_toList]at e;omega
def Inv.Zg(I:Inv X y4 U H s)(h:ZJ X.K H a xs)(h':ZJ X.K H a ys):xs=ys:=by
 obtain⟨its,r,⟨o,n,e,_,_,d⟩,_⟩:=I.list h;obtain⟨its',r',⟨o',n',e',_,_,d'⟩,_⟩:=I.list h';rw[e]at e';cases e';rw[d]at d';injection d' with d1 _
 have:its=its':=by simpa using congrArg Array.toList d1
 subst this;exact r.inj r'
end
abbrev Cx.YX(X:Cx)(E:Value->Shared->Prop):Cx:={X with xe:=E}
abbrev Cx.Xu(X:Cx):Cx:=X.YX λ_ _=>False
def Cx.Ok.YX(ok:X.Ok)(E:Q0):(X.YX E).Ok:=
 ⟨ok.mod,ok.kind,ok.glob,ok.blt,ok.above,ok.inj,ok.has,ok.Xe,ok.hd,ok.frames,ok.WQ,ok.Wu,ok.bs,ok.Ya,ok.YA,ok.YC,ok.ZA,ok.Xy⟩
def Cx.Ok.ZC(ok:(X.YX E).Ok):X.Ok:=
 ⟨ok.mod,ok.kind,ok.glob,ok.blt,ok.above,ok.inj,ok.has,ok.Xe,ok.hd,ok.frames,ok.WQ,ok.Wu,ok.bs,ok.Ya,ok.YA,ok.YC,ok.ZA,ok.Xy⟩
def Inv.YX(I:Inv X y4 U H s)(E:Q0):Inv (X.YX E) y4 U H s:=⟨I.ok.YX E,I.os,I.bare,I.base,I.loc,I.cell,I.free,I.ZT,I.pin,I.Z7,I.len⟩
def Inv.ZC(I:Inv (X.YX E) y4 U H s):Inv X y4 U H s:=⟨I.ok.ZC,I.os,I.bare,I.base,I.loc,I.cell,I.free,I.ZT,I.pin,I.Z7,I.len⟩
def SP.ZC{D:Ends}{f:Flow}{s':Shared}(h:SP (X.YX E) y4 D f s'):SP X y4 D f s':=by
 cases f with
 |next=>obtain⟨U',H',I,q⟩:=h;exact⟨U',H',I.ZC,q⟩
 |brk=>obtain⟨U',H',I,q⟩:=h;exact⟨U',H',I.ZC,q⟩
 |cont=>obtain⟨U',H',I,q⟩:=h;exact⟨U',H',I.ZC,q⟩
 |ret u=>obtain⟨v,U',H',I,r,q⟩:=h;exact⟨v,U',H',I.ZC,r,q⟩
def YF.Xu{st:List Stmt}{t:TS}(h:YF X.Xu st t):YF X st t:=λy4 s U H D I hw=>
 Ck (h y4 s U H D (I.YX _) hw) (λ_ _ q=>q.ZC) λ_ _ z=>False.elim z
section
variable {X:Cx} {st:Stmt} {rest:List Stmt} {t u:TS} {e:Expr} {te:TE} {pos:Pos}
def Rr:TS:=λD U H=>D.nx U H
def SR(t u:TS):TS:=λD U H=>t {D with nx:=u D} U H
def bA:YF X [] Rr:=λ_ _ U H _ I h=>wpAny_execs_nil ⟨U,H,I,h⟩
def aE(h1:PS X st t)(h2:YF X rest u):YF X (st::rest) (SR t u):=by
 intro y4 s U H D I h;refine wpAny_execs_cons (Z0 (h1 y4 s U H {D with nx:=u D} I h) λf s1 q=>?_)
 cases f with
 |next=>
  obtain⟨U',H',I',q⟩:=q;exact h2 y4 s1 U' H' D I' q
 |ret v=>exact q
 |brk=>exact q
 |cont=>exact q
def aH(h1:PS X st t):YF X [st] t:=by
 intro y4 s U H D I h;refine wpAny_execs_cons (Z0 (h1 y4 s U H D I h) λf s1 q=>?_);cases f with
 |next=>exact wpAny_execs_nil q
 |ret v=>exact q
 |brk=>exact q
 |cont=>exact q
def Inv.quiet(I:Inv X y4 U H s):interactive X.env=false:=by simp[interactive,I.ok.kind]
def SI(te:TE):TS:=λD U H=>te U H λ_ H1=>D.nx U H1
def cZ(he:PE X e te)(hs:swapsWith e none pos.line X.env=pure false:=by rfl):PS X (.Expr e pos) (SI te):=by
 intro y4 s U H D I h;exact wpAny_Expr_any (Z0 (he y4 s U H _ I h) λv s1 ⟨x,H1,I1,r1,q1⟩=>⟨U,H1,I1,q1⟩) I.quiet hs
def S6(te:TE):TS:=λD U H=>te U H D.rt
def aR(he:PE X e te):PS X (.Return (some e) pos) (S6 te):=by
 intro y4 s U H D I h;exact wpAny_Return_some (Z0 (he y4 s U H _ I h) λv s1 ⟨x,H1,I1,r1,q1⟩=>⟨x,U,H1,I1,r1,q1⟩)
def TR(c:TT)(t u:TS):TS:=λD U H=>c U H λb H1=>if b=true then t D U H1 else u D U H1
def bT{c:Expr}{a b:List Stmt}{tc:TT}(hc:PT X c tc)(ha:YF X a t)(hb:YF X b u):PS X (.If c a b pos) (TR tc t u):=by
 intro y4 s U H D I h;refine wpAny_If (Z0 (hc y4 s U H _ I h) λd s1 ⟨H1,I1,q1⟩=>?_);cases d with
 |true=>exact ha y4 s1 U H1 D I1 q1
 |false=>exact hb y4 s1 U H1 D I1 q1
end
abbrev TG:=V->St->Hp->(St->Hp->Prop)->Prop
variable {g:TG}
abbrev XJ:=List V->St->Hp->(St->Hp->Prop)->Prop
def PG(X:Cx)(target:Expr)(t:TG):Prop:=
 ∀(y4:Q2) (s:Shared) (U:St) (H:Hp) (v:V) (u:Value) (Q:St->Hp->Prop),Inv X y4 U H s->RelV v u->t v U H Q->
  wpAny (model X.prog X.w) X.A (assign target X.env u) (λ_ s'=>∃U' H',Inv X y4 U' H' s'/\Q U' H') X.xe s
def V7(X:Cx)(ts:List Expr)(t:XJ):Prop:=
 ∀(y4:Q2) (s:Shared) (U:St) (H:Hp) (vs:List V) (us:List Value) (Q:St->Hp->Prop),Inv X y4 U H s->Vals vs us->t vs U H Q->
  wpAny (model X.prog X.w) X.A (assignInOrder ((assignEach ts X.env).map (·.2)) us) (λ_ s'=>∃U' H',Inv X y4 U' H' s'/\Q U' H') X.xe s
abbrev VL:=V->V->V->Hp->(Hp->Prop)->Prop
def Rq(X:Cx)(t:VL):Prop:=
 ∀(y4:Q2) (s:Shared) (U:St) (H:Hp) (o i v:V) (ov iv u:Value) (Q:Hp->Prop),Inv X y4 U H s->RelV o ov->RelV i iv->RelV v u->t o i v H Q->
  wpAny (model X.prog X.w) X.A (setItem ov iv u) (λ_ s'=>∃H',Inv X y4 U H' s'/\Q H') X.xe s
section
variable {X:Cx} {pos:Pos}
def pM(i:Nat):TG:=λv U H Q=>Q (U.set i (some v)) H
def aQ{i:Nat}(hN:X.N.Nodup)(hi:X.N[i]?=some x)(hx:Loc X.env.scope x)(hf:X.fn x=true\/X.env.scope.names.lookup x=some .local:=by first|exact .inl rfl|exact .inr rfl|assumption):PG X (.Name x pos) (pM i):=by
 intro y4 s U H v u Q I r h;exact wpAny_assign_Name (rT I hN hi hx r (λs' I'=>⟨_,H,I',h⟩) hf)
def Vk:XJ:=λvs U H Q=>vs=[]/\Q U H
def Vy(t:TG)(u:XJ):XJ:=λvs U H Q=>∃v r,vs=v::r/\t v U H λU' H'=>u r U' H' Q
def pV:V7 X [] Vk:=by
 intro y4 s U H vs us Q I r h;obtain⟨e,h⟩:=h;subst e;cases r;exact assignInOrder_nil ⟨U,H,I,h⟩
def dM{t:TG}{u:XJ}(h1:PG X e t)(h2:V7 X es u)(hs:(assignEach (e::es) X.env).map (·.2)=assign e X.env::(assignEach es X.env).map (·.2):=by rfl):V7 X (e::es) (Vy t u):=by
 intro y4 s U H vs us Q I r h;obtain⟨v,vr,e1,h⟩:=h;subst e1;cases r with
 |cons r rr=>
  rw[hs];refine assignInOrder_cons (Z0 (h1 y4 s U H _ _ _ I r h) λ_ s1 ⟨U1,H1,I1,q1⟩=>?_);exact h2 y4 s1 U1 H1 _ _ Q I1 rr q1
def U_(K:W.Frag)(n:Nat)(t:XJ):TG:=λv U H Q=>∃a xs,v=.ref a/\Y9 K H a xs/\xs.length=n/\t xs U H Q
def Vi{t:XJ}{n:Nat}(hc:X.calm=true)(h:V7 X es t)(hn:(assignEach es X.env).length=n:=by rfl)(hst:(assignEach es X.env).findIdx? (·.1)=none:=by rfl):PG X (.Tuple es k pos) (U_ X.K n t):=by
 intro y4 s U H v u Q I r hw;obtain⟨a,xs,e1,hq,hl,hw⟩:=hw;subst e1;cases r;obtain⟨its,rv,ht,hz⟩:=I.tuple hq;refine assign_Tuple_tuple (I.ok.hd hc) ht (by simp[hn,<-hl,rv.length]) hst λh' hx=>?_
 have I1:Inv X y4 U H {s with heap:=h'}:=I.kept (t':=s.toks) λb o e=>hx b o (Bj (As e)) e
 exact h y4 _ U H xs _ Q I1 (by simpa using rv) hw
def T_(to ti:TE)(t:VL):TG:=λv U H Q=>to U H λo H1=>ti U H1 λi H2=>t o i v H2 λH3=>Q U H3
def K1{o i:Expr}{to ti:TE}{t:VL}(ho:PE X o to)(hi:PE X i ti)(hs:Rq X t)(ha:∀v,assign (.Subscript o i pos) X.env v=(do
 let ov <-holding [v] (eval o X.env)
 let iv <-holding [v,ov] (eval i X.env)
 standAt pos
 holding [v,ov,iv] (setItem ov iv v)
 release [v,ov,iv] []):=by intro _;rfl):PG X (.Subscript o i pos) (T_ to ti t):=by
 intro y4 s U H v u Q I r h;rw[ha];refine Ae (Cf (Z0 (ho y4 s U H _ I h) λov s1 ⟨x,H1,I1,r1,q1⟩=>?_));refine Ae (Cf (Z0 (hi y4 s1 U H1 _ I1 q1) λiv s2 ⟨y,H2,I2,r2,q2⟩=>?_));refine Ae (Fk (Ae (Cf (Z0 (hs y4 s2 U H2 x y v ov iv u _ I2 r1 r2 r q2) λ_ s3 ⟨H3,I3,q3⟩=>?_))));exact wpAny_release ⟨U,H3,I3,q3⟩
def V5(te:TE)(g:TG):TS:=λD U H=>te U H λx H1=>g x U H1 D.nx
def zU(he:PE X e te)(hg:PG X tg g)(hs:swapsWithSole [tg] e pos.line X.env=pure false:=by rfl)(hw:swappedStores [tg] e X.env=pure none:=by rfl)(h1:(assignEach [tg] X.env).map (·.2)=[assign tg X.env]:=by rfl):PS X (.Assign [tg] e pos) (V5 te g):=by
 intro y4 s U H D I h;refine wpAny_Assign_stores (Z0 (he y4 s U H _ I h) λv s1 ⟨x,H1,I1,r1,q1⟩=>?_) hs hw;rw[h1];exact Z0 (hg y4 s1 U H1 x v _ I1 r1 q1) λ_ s2 q=>q
def UP{i:Nat}{x:Str}{e:Expr}{te:TE}{pos':Pos}(hN:X.N.Nodup)(hi:X.N[i]?=some x)(hx:Loc X.env.scope x)(he:PE X e te)(hs:swapsWith e (some (.Name x pos')) pos.line X.env=pure false:=by rfl)(hf:X.fn x=true\/X.env.scope.names.lookup x=some .local:=by first|exact .inl rfl|exact .inr rfl|assumption):PS X (.Assign [.Name x pos'] e pos) (V5 te (pM i)):=by
 intro y4 s U H D I h;refine wpAny_Assign_Name (Z0 (he y4 s U H _ I h) λv s1 ⟨y,H1,I1,r1,q1⟩=>?_) hs;exact rT I1 hN hi hx r1 (λs2 I2=>⟨_,H1,I2,q1⟩) hf
end
def Nx(c:TT)(tb:TS):TS:=λD U H=>∃W:Nat->St->Hp->Prop,(∃m,W m U H)/\∀m U H,W m U H->
 c U H λb H1=>if b=true then ∃N:St->Hp->Prop,(∀U' H',N U' H'->∃m',m' < m/\W m' U' H')/\tb {D with nx:=N,ct:=N,bk:=D.nx} U H1 else D.nx U H1
def yU{c:Expr}{tc:TT}{tb:TS}(hp:PassesOwn (model X.prog X.w) X.A X.env X.xe)(hc:PT X c tc)(hb:YF X body tb):PS X (.While c body [] pos) (Nx tc tb):=by
 intro y4 s U H D I h;obtain⟨W,⟨m0,w0⟩,turn⟩:=h;refine wpAny_While (codeAny_whileLoop (λn s'=>∃U' H',Inv X y4 U' H' s'/\W n U' H') ?_ m0 ⟨U,H,I,w0⟩);rintro n s1 ⟨U1,H1,I1,w1⟩;refine Fg hp (Z0 (hc y4 s1 U1 H1 _ I1 (turn n U1 H1 w1)) λb s2 ⟨H2,I2,q2⟩=>?_);cases b with
 |true=>
  obtain⟨N,hN,q2⟩:=q2;rw[if_pos rfl];refine Fg hp (Z0 (hb y4 s2 U1 H2 _ I2 q2) λf s3 q3=>?_);cases f with
  |next=>
   obtain⟨U3,H3,I3,n3⟩:=q3;obtain⟨m',hm,w3⟩:=hN U3 H3 n3;exact⟨m',hm,U3,H3,I3,w3⟩
  |cont=>
   obtain⟨U3,H3,I3,n3⟩:=q3;obtain⟨m',hm,w3⟩:=hN U3 H3 n3;exact⟨m',hm,U3,H3,I3,w3⟩
  |brk=>exact q3
  |ret v=>exact q3
 |false=>
  rw[if_neg An];exact wpAny_execs_nil ⟨U1,H2,I2,q2⟩
structure It where
 go:Nat->Hp->Prop
 Xs:Nat->Hp->V->Hp->Prop
 stop:Nat->Hp->Prop
def kO(X:Cx)(y4:List (Addr×Obj))(H:Hp)(b:Addr):Prop:=
 H b=none/\b≠X.env.locals/\b∉X.fs/\(b∈X.ex\/X.s₀.heap.objs.size<=b)/\(∀x c,X.env.cells.lookup x=some c->c≠b)/\∀p∈X.pn++y4,p.1≠b
def Inv.YJ{H':Hp}(I:Inv X y4 U H s)(hb:s.heap.objs.size<=b)(hn:H' b=none):kO X y4 H' b:=by
 refine⟨hn,Fx (Bb I.lt hb),I.Uw hb,.inr (Bd I.sz hb),λx c e z=>?_,λp hp z=>?_⟩
 .obtain⟨v,q⟩:=I.cell x c e;exact absurd (Bb q.lt (by rw[z];exact hb)) (Cy _)
 .exact absurd (Bb (As (I.pin p hp).1) (by rw[z];exact hb)) (Cy _)
structure Turn (P:Program) (w:World) (K:W.Frag) (tg:Expr) (J:It) (fp:List Addr) (it:Addr) (tn:Nat->Heap->Prop):Prop where
 mem:it∈fp
 obj:∀i h,tn i h->∀b∈fp,∃o,h.get? b=some o/\∀v,o.data≠.cell v
 keep:∀i h h',tn i h->(∀b∈fp,∀o,h.get? b=some o->h'.get? b=some o)->tn i h'
 item:∀(X:Cx),X.prog=P->X.w=w->X.K=K->X.calm=true->∀(i:Nat) (y4:Q2) (s:Shared) (U:St) (H:Hp) (E:Q0),Inv X y4 U H s->(∀b∈fp,kO X y4 H b)->tn i s.heap->J.go i H->
  wpAny (model P w) X.A (pyNext (.ref it)) (λr s1=>∃u,r=some u/\
   wpAny (model P w) X.A (letOwnedTupleGo tg (.ref it) u) (λ_ s2=>∃x H',Inv X y4 U H' s2/\RelV x u/\J.Xs i H x H'/\tn (i+1) s2.heap/\∀b∈fp,H' b=none) E s1) E s
 done:∀(X:Cx),X.prog=P->X.w=w->X.K=K->X.calm=true->∀(i:Nat) (y4:Q2) (s:Shared) (U:St) (H:Hp) (E:Q0),Inv X y4 U H s->(∀b∈fp,kO X y4 H b)->tn i s.heap->J.stop i H->
  wpAny (model P w) X.A (pyNext (.ref it)) (λr s1=>r=none/\Inv X y4 U H s1) E s
 self:∀(A:Around) (i:Nat) (s:Shared) (Q:Q0) (E:Q0),tn i s.heap->Q (.ref it) s->wpAny (model P w) A (pyIter (.ref it)) Q E s
abbrev TI:=St->Hp->(It->Hp->Prop)->Prop
def UJ(X:Cx)(y4:List (Addr×Obj))(U:St)(tg:Expr)(R:It->Hp->Prop)(itv:Value)(s2:Shared):Prop:=
 ∃(it:Addr) (fp:List Addr) (tn:Nat->Heap->Prop) (J:It) (H':Hp),itv=.ref it/\Inv X y4 U H' s2/\Turn X.prog X.w X.K tg J fp it tn/\tn 0 s2.heap/\(∀b∈fp,kO X y4 H' b)/\R J H'
def PI(X:Cx)(tg iter:Expr)(wi:TI):Prop:=
 ∀(y4:Q2) (s:Shared) (U:St) (H:Hp) (R:It->Hp->Prop),Inv X y4 U H s->wi U H R->
  wpAny (model X.prog X.w) X.A (eval iter X.env) (λv s1=>wpAny (model X.prog X.w) X.A (pyIter v) (UJ X y4 U tg R) X.xe s1) X.xe s
def uE{s:Shared}{it:Addr}{o:Obj}{n:String}{vs:Array Value}{Q:Unit->Shared->Prop}(ho:s.heap.get? it=some o)(hc:o.cls=.type n)(hd:o.data=.fields vs)(hn:["enumerate", "zip", "dict_itemiterator", "dict_reverseitemiterator", "odict_iterator", "itertools.zip_longest", "itertools.pairwise"].contains n=false)(hQ:Q () s):wpAny M A (letOwnedTupleGo tg (.ref it) u) Q E s:=by
 unfold letOwnedTupleGo;cases tg<;>first
  |exact Am hQ
  | (cases u <;> first
      |exact Am hQ
      | (refine Ae (wpAny_load ho ?_)
         rw[hc,hd];show wpAny M A (if (["enumerate", "zip", "dict_itemiterator", "dict_reverseitemiterator", "odict_iterator", "itertools.zip_longest", "itertools.pairwise"].contains n&&vs[0]? == some (rawInt _))=true then _ else _) Q E s
         rw[if_neg (by intro h;rw[hn,Bool.false_and]at h;cases h)]
         exact Am hQ))
def Xw(K:W.Frag)(a:Addr):It:=
 ⟨λi H=>∃xs x,ZJ K H a xs/\xs[i]?=some x,λi H x H'=>H'=H/\∀xs,ZJ K H a xs->xs[i]?=some x,λi H=>∃xs,ZJ K H a xs/\xs.length<=i⟩
def XW(lo:Int)(n:Nat):It:=⟨λi _=>i<n,λi H x H'=>H'=H/\x=.int (lo+i),λi _=>n<=i⟩
def OK(a it:Addr):Turn P w K tg (Xw K a) [it] it (λi h=>h.IsListIter it a i) where
 mem:=by simp
 obj:=λi h st b hb=>by
  have e:b=it:=by simpa using hb
  subst e;obtain⟨o,e,c,d⟩:=st;exact⟨o,e,λv z=>by rw[d]at z;cases z⟩
 keep:=λi h h' st k=>st.at λo e=>k it (by simp) o e
 item:=by
  intro X hP hw hK hc i y4 s U H E I hf st hg;subst hP hw hK;obtain⟨xs,x,hq,hx⟩:=hg;obtain⟨its,rv,p,hz⟩:=I.list hq;obtain⟨u,hu,ru⟩:=rv.get hx;obtain⟨f0,f1,f2,f3,f4,f5⟩:=hf it (by simp)
  refine wpAny_pyNext_list_item st p.isList (x:=u) (by simpa using hu) λh' st' sb=>?_
  have I1:Inv X y4 U H {s with heap:=h'}:=I.turned (t':=s.toks) (λb o hb e=>(sb.2 b hb).trans e) f0 f1 f3 f4 f5
  obtain⟨o,e,c,d⟩:=id st';exact⟨u,rfl,uE (s:={s with heap:=h'}) e c d (by decide) ⟨x,H,I1,ru,⟨rfl,λys hy=>by rw[I.Zg hy hq];exact hx⟩,st',λb hb=>(hf b hb).1⟩⟩
 done:=by
  intro X hP hw hK hc i y4 s U H E I hf st hg;subst hP hw hK;obtain⟨xs,hq,hx⟩:=hg;obtain⟨its,rv,p,hz⟩:=I.list hq;obtain⟨f0,f1,f2,f3,f4,f5⟩:=hf it (by simp)
  have hl:=rv.length
  exact wpAny_pyNext_list_end (I.ok.hd hc) st p.isList (by simp;omega) λh' eb=>⟨rfl,I.turned (t':=s.toks) (λb o hb e=>eb b o hb e) f0 f1 f3 f4 f5⟩
 self:=λ_ _ _ _ _ st h=>wpAny_pyIter_listiter st h
def zV{K:PySem.W.Frag}(it:Addr)(lo:Int)(n:Nat):Turn P w K tg (XW lo n) [it] it (λi h=>IsRangeIter h it (lo+(i:Nat)*1) ((n:Int)-(i:Nat)) 1) where
 mem:=by simp
 obj:=λi h st b hb=>by
  have e:b=it:=by simpa using hb
  subst e;exact⟨_,st,λv z=>by
   have z':Data.fields _=Data.cell v:=z
   cases z'⟩
 keep:=λi h h' st k=>k it (by simp) _ st
 item:=by
  intro X hP hw hK hc i y4 s U H E I hf st hg;subst hP hw hK;obtain⟨f0,f1,f2,f3,f4,f5⟩:=hf it (by simp)
  have W:=Walks.range (prog:=X.prog) (w:=X.w) (I.ok.hd hc) it lo 1 n
  refine W.item i s _ _ hg st λv h' tk hv st' kk=>?_;obtain⟨t,rfl⟩:=hv;have I1:Inv X y4 U H {s with heap:=h',toks:=tk}:=I.turned (λb o hb e=>kk b o (by simpa using hb) e) f0 f1 f3 f4 f5
  refine⟨_,rfl,uE (s:={s with heap:=h',toks:=tk}) (n := "range_iterator") st' rfl rfl (by decide) ⟨.int (lo+i),H,I1,⟨t,?_⟩,⟨rfl,rfl⟩,st',λb hb=>(hf b hb).1⟩⟩
  rw[Int.mul_one]
 done:=by
  intro X hP hw hK hc i y4 s U H E I hf st hg;subst hP hw hK;obtain⟨f0,f1,f2,f3,f4,f5⟩:=hf it (by simp)
  exact wpAny_pyNext_range_end (I.ok.hd hc) st (by have:n<=i:=hg;omega) λh' eb=>⟨rfl,I.turned (t':=s.toks) (λb o hb e=>eb b o hb e) f0 f1 f3 f4 f5⟩
 self:=λ_ _ _ _ _ st h=>wpAny_pyIter_rangeiter st h
def yP{R:It->Hp->Prop}{lo hi:Int}{t u v:Tok}{tk:Nat}(I:Inv X y4 U H s)(h1:-(2^62)<=lo)(h2:lo<2^62)(h3:-(2^62)<=hi)(h4:hi<2^62)(q:R (XW lo (hi-lo).toNat) H):wpAny (model X.prog X.w) X.A (pyIter (.ref s.heap.objs.size)) (UJ X y4 U tg R) E {s with heap:=s.heap.push {cls:=.type "range",data:=.fields #[.int lo t,.int hi u,.int 1 v]},toks:=tk}:=by
 refine wpAny_pyIter_range (IsRange.new ..) (small_one h1 h2 h3 h4) ?_;have I1:Inv X y4 U H {s with heap:=s.heap.push {cls:=.type "range",data:=.fields #[.int lo t,.int hi u,.int 1 v]},toks:=tk}:=I.kept λb o e=>Ag _ e
 refine⟨(s.heap.push {cls:=.type "range",data:=.fields #[.int lo t,.int hi u,.int 1 v]}).objs.size,[(s.heap.push {cls:=.type "range",data:=.fields #[.int lo t,.int hi u,.int 1 v]}).objs.size],_,_,H,rfl,
  I1.kept (t':=tk) λb o e=>Ag _ e,zV _ lo (hi-lo).toNat,?_,λb hb=>?_,q⟩
 .have e1:lo+((0:Nat):Int)*1=lo:=by simp
  have e2:(((hi-lo).toNat:Nat):Int)-((0:Nat):Int)=Builtin.Range.rangeSize lo hi 1:=by rw[rangeSize_one];split<;>omega
  show IsRangeIter _ _ (lo+((0:Nat):Int)*1) ((((hi-lo).toNat:Nat):Int)-((0:Nat):Int)) 1
  rw[e1,e2];exact Ax _ rfl
 .have e:b=(s.heap.push {cls:=.type "range",data:=.fields #[.int lo t,.int hi u,.int 1 v]}).objs.size:=by simpa using hb
  subst e;exact I1.YJ (Ai _) (I1.Z7.fresh (Ai _))
def Kk(wi:TI)(g:TG)(tb:TS):TS:=λD U H=>wi U H λJ H1=>∃W:Nat->Nat->St->Hp->Prop,(∃m,W 0 m U H1)/\∀i m U H,W i m U H->
 (J.stop i H/\D.nx U H)\/(J.go i H/\∃N:St->Hp->Prop,(∀U' H',N U' H'->∃m',m' < m/\W (i+1) m' U' H')/\∀x H',J.Xs i H x H'->g x U H' λU2 H2=>tb {D with nx:=N,ct:=N,bk:=D.nx} U2 H2)
def nT(fp:List Addr)(h:Heap):List (Addr×Obj):=fp.filterMap λb=>(h.get? b).map λo=>(b,o)
def gZ{o:Obj}(hb:b∈fp)(e:h.get? b=some o):(b,o)∈nT fp h:=Dt.mpr ⟨b,hb,by rw[e];rfl⟩
def My{p:Addr×Obj}(hp:p∈nT fp h):p.1∈fp/\h.get? p.1=some p.2:=by
 obtain⟨b,hb,e⟩:=Dt.mp hp;cases q:h.get? b with
 |none=>rw[q]at e;cases e
 |some o=>
  rw[q]at e;have e':(b,o)=p:=Bv e
  subst e';exact⟨hb,q⟩
def Inv.pinned(I:Inv X y4 U H s)(hf:∀b∈fp,kO X y4 H b)(ho:∀b∈fp,∃o,s.heap.get? b=some o/\∀v,o.data≠.cell v):Inv X (y4++nT fp s.heap) U H s:=
 I.Yd λp hp=>(Bs.mp hp).elim (λz=>I.pin p (Bk _ z)) λz=>by
  obtain⟨hb,e⟩:=My z;obtain⟨f0,f1,f2,_⟩:=hf p.1 hb;obtain⟨o,e',d⟩:=ho p.1 hb;rw[e]at e';cases e';exact⟨e,f0,f1,f2,d⟩
def Inv.Zj{pl:Q2}(I:Inv X (y4++pl) U H s):Inv X y4 U H s:=I.Yd λp hp=>I.pin p (Bk _ (Cb _ hp))
def KH{iter:Expr}{wi:TI}{tb:TS}(hp:PassesOwn (model X.prog X.w) X.A X.env X.xe)(hc:X.calm=true)(hi:PI X tg iter wi)(hg:PG X tg g)(hb:YF X body tb)(hs:∀x,foldedSetIterable iter X.env x=pure x:=by intro _;rfl):PS X (.For tg iter body [] pos) (Kk wi g tb):=by
 intro y4 s U H D I h;refine wpAny_For (Z0 (hi y4 s U H _ I h) λv s1 h1=>Z0 h1 λitv s2 h2=>?_) hs;obtain⟨it,fp,tn,J,H2,e,I2,T,st2,f2,W,⟨m0,w0⟩,turn⟩:=h2;subst e
 -- what stays true of the iterator's objects through the loop
 have stat:∀ {H':Hp},(∀b∈fp,H' b=none)->∀b∈fp,kO X y4 H' b:=λhn b hb=>⟨hn b hb,(f2 b hb).2⟩
 refine codeAny_forLoop_any (λn s'=>∃i U' H',Inv X y4 U' H' s'/\tn i s'.heap/\(∀b∈fp,H' b=none)/\W i n U' H') ?_ m0 ⟨0,U,H2,I2,st2,λb hb=>(f2 b hb).1,w0⟩;rintro n s3 ⟨i,U3,H3,I3,st3,fr3,w3⟩;rcases turn i n U3 H3 w3 with⟨stop,qn⟩|⟨go,N,hN,step⟩
 .refine Fg hp (Z0 (T.done X rfl rfl rfl hc i y4 s3 U3 H3 X.xe I3 (stat fr3) st3 stop) λr s4 ⟨hr,I4⟩=>?_);subst hr;exact wpAny_execs_nil ⟨U3,H3,I4,qn⟩
 .refine Fg hp (Z0 (T.item X rfl rfl rfl hc i y4 s3 U3 H3 X.xe I3 (stat fr3) st3 go) λr s4 ⟨u,hr,h4⟩=>?_);subst hr;refine Fg hp (Z0 h4 λ_ s5 ⟨x,H5,I5,r5,y5,st5,fr5⟩=>?_);have I5':=I5.pinned (stat fr5) (T.obj _ _ st5)
  refine Fg hp (Z0 (hg _ s5 U3 H5 x u _ I5' r5 (step x H5 y5)) λ_ s6 ⟨U6,H6,I6,q6⟩=>?_);refine Fg hp (Z0 (hb _ s6 U6 H6 _ I6 q6) λf s7 q7=>?_);have again:∀ {U7:St} {H7:Hp},Inv X (y4++nT fp s5.heap) U7 H7 s7->N U7 H7->∃m,m<n/\∃i U' H',Inv X y4 U' H' s7/\tn i s7.heap/\(∀b∈fp,H' b=none)/\W i m U' H':=fun {U7 H7} I7 n7=>by
   obtain⟨m',hm,w7⟩:=hN U7 H7 n7;refine⟨m',hm,i+1,U7,H7,I7.Zj,T.keep _ _ _ st5 λb hb o e=>(I7.pin (b,o) (Bk _ (Bk _ (gZ hb e)))).1,λb hb=>?_,w7⟩;obtain⟨o,e,d⟩:=T.obj _ _ st5 b hb;exact(I7.pin (b,o) (Bk _ (Bk _ (gZ hb e)))).2.1
  cases f with
  |next=>obtain⟨U7,H7,I7,n7⟩:=q7;exact again I7 n7
  |cont=>obtain⟨U7,H7,I7,n7⟩:=q7;exact again I7 n7
  |brk=>obtain⟨U7,H7,I7,q7⟩:=q7;exact⟨U7,H7,I7.Zj,q7⟩
  |ret v=>obtain⟨x7,U7,H7,I7,r7,q7⟩:=q7;exact⟨x7,U7,H7,I7.Zj,r7,q7⟩
def PH{K:PySem.W.Frag}{tb:TS}{D:Ends}(Pv:Nat->St->Hp->Prop)(h0:Pv 0 U H)(hl:∀i U H,i<=xs.length->Pv i U H->ZJ K H a xs)(hs:∀i x U H,xs[i]?=some x->Pv i U H->g x U H λU2 H2=>tb {D with nx:=Pv (i+1),ct:=Pv (i+1),bk:=D.nx} U2 H2)(hd:∀U H,Pv xs.length U H->D.nx U H):∃W:Nat->Nat->St->Hp->Prop,(∃m,W 0 m U H)/\∀i m U H,W i m U H->
 ((Xw K a).stop i H/\D.nx U H)\/((Xw K a).go i H/\∃N:St->Hp->Prop,(∀U' H',N U' H'->∃m',m' < m/\W (i+1) m' U' H')/\∀x H',(Xw K a).Xs i H x H'->g x U H' λU2 H2=>tb {D with nx:=N,ct:=N,bk:=D.nx} U2 H2):=by
 refine⟨λi m U H=>m=xs.length-i/\i<=xs.length/\Pv i U H,⟨xs.length,by simp,Nat.zero_le _,h0⟩,?_⟩
 rintro i m U H ⟨rfl,hi,p⟩;have q:=hl i U H hi p
 by_cases hlt:i<xs.length
 .refine .inr ⟨⟨xs,xs[i],q,by simp[hlt]⟩,Pv (i+1),λU' H' p'=>⟨xs.length-(i+1),by omega,rfl,hlt,p'⟩,λx H' y=>?_⟩
  obtain⟨e,y⟩:=y;subst e;exact hs i x U _ (y xs q) p
 .have e:i=xs.length:=by omega
  subst e;exact .inl ⟨⟨xs,q,Ai _⟩,hd U H p⟩
def Mr{lo:Int}{n:Nat}{tb:TS}{D:Ends}(Pv:Nat->St->Hp->Prop)(h0:Pv 0 U H)(hs:∀i U H,i<n->Pv i U H->g (.int (lo+i)) U H λU2 H2=>tb {D with nx:=Pv (i+1),ct:=Pv (i+1),bk:=D.nx} U2 H2)(hd:∀U H,Pv n U H->D.nx U H):∃W:Nat->Nat->St->Hp->Prop,(∃m,W 0 m U H)/\∀i m U H,W i m U H->
 ((XW lo n).stop i H/\D.nx U H)\/((XW lo n).go i H/\∃N:St->Hp->Prop,(∀U' H',N U' H'->∃m',m' < m/\W (i+1) m' U' H')/\∀x H',(XW lo n).Xs i H x H'->g x U H' λU2 H2=>tb {D with nx:=N,ct:=N,bk:=D.nx} U2 H2):=by
 refine⟨λi m U H=>m=n-i/\i<=n/\Pv i U H,⟨n,by simp,Nat.zero_le _,h0⟩,?_⟩
 rintro i m U H ⟨rfl,hi,p⟩;by_cases hlt:i<n
 .refine .inr ⟨hlt,Pv (i+1),λU' H' p'=>⟨n-(i+1),by omega,rfl,hlt,p'⟩,λx H' y=>?_⟩
  obtain⟨e,y⟩:=y;subst e y;exact hs i U _ hlt p
 .have e:i=n:=by omega
  subst e;exact .inl ⟨Ai _,hd U H p⟩
abbrev R2:=V->V->Hp->VK->Prop
def ZS(X:Cx)(f:Value->Value->Sem Value)(r:R2):Prop:=
 ∀(y4:Q2) (s:Shared) (U:St) (H:Hp) (x y:V) (v u:Value) (Q:VK),Inv X y4 U H s->RelV x v->RelV y u->r x y H Q->
  wpAny (model X.prog X.w) X.A (f v u) (EP X y4 U Q) X.xe s
def VF(X:Cx)(f:Value->Sem Value)(r:V->Hp->VK->Prop):Prop:=
 ∀(y4:Q2) (s:Shared) (U:St) (H:Hp) (x:V) (v:Value) (Q:VK),Inv X y4 U H s->RelV x v->r x H Q->
  wpAny (model X.prog X.w) X.A (f v) (EP X y4 U Q) X.xe s
def ZZ(X:Cx)(f:Value)(r:List V->Hp->VK->Prop):Prop:=
 ∀(y4:Q2) (s:Shared) (U:St) (H:Hp) (xs:List V) (us:List Value) (Q:VK),Inv X y4 U H s->Vals xs us->r xs H Q->
  wpAny (model X.prog X.w) X.A (call f us) (EP X y4 U Q) X.xe s
def J3(X:Cx)(r:V->Hp->(Bool->Hp->Prop)->Prop):Prop:=
 ∀(y4:Q2) (s:Shared) (U:St) (H:Hp) (x:V) (v:Value) (Q:Bool->Hp->Prop),Inv X y4 U H s->RelV x v->r x H Q->
  wpAny (model X.prog X.w) X.A (truthy v) (TP X y4 U Q) X.xe s
def Wl(r:R2)(ta tb:TE):TE:=λU H Q=>ta U H λx H1=>tb U H1 λy H2=>r x y H2 Q
def Sv(r:V->Hp->VK->Prop)(ta:TE):TE:=λU H Q=>ta U H λx H1=>r x H1 Q
def rI(C:Int->Int->Prop)(g:Int->Int->V):R2:=λx y H Q=>∃i j,x=.int i/\y=.int j/\C i j/\Q (g i j) H
def WJ(g:Int->Int->V):R2:=λx y H Q=>∃i j,x=.int i/\y=.int j/\Q (g i j) H
def rU(g:Int->V):V->Hp->VK->Prop:=λx H Q=>∃i,x=.int i/\Q (g i) H
section
variable {a b:Expr}
def UR(ha:PE X a ta)(hb:PE X b tb){R:V->V->Hp->Prop}(I:Inv X y4 U H s)(h:ta U H λx H1=>tb U H1 λy H2=>R x y H2)(hf:∀v u s2 x y H2,Inv X y4 U H2 s2->RelV x v->RelV y u->R x y H2->wpAny (model X.prog X.w) X.A (f v u) Q X.xe s2):wpAny (model X.prog X.w) X.A (eval a X.env) (λv s₁=>wpAny (model X.prog X.w) X.A (eval b X.env) (λu s₂=>wpAny (model X.prog X.w) X.A (f v u) Q X.xe s₂) X.xe s₁) X.xe s:=by
 refine Z0 (ha y4 s U H _ I h) λv s1 ⟨x,H1,I1,r1,q1⟩=>?_;refine Z0 (hb y4 s1 U H1 _ I1 q1) λu s2 ⟨y,H2,I2,r2,q2⟩=>?_;exact hf v u s2 x y H2 I2 r1 r2 q2
def aX{op:Operator}{r:R2}(ho:ZS X (binaryOp op) r)(ha:PE X a ta)(hb:PE X b tb):PE X (.BinOp a op b pos) (Wl r ta tb):=by
 intro y4 s U H Q I h;exact wpAny_BinOp (UR ha hb I h λv u s2 x y H2 I2 rx ry q=>ho y4 s2 U H2 x y v u Q I2 rx ry q)
def RG{op:UnaryOp}{r:V->Hp->VK->Prop}(ho:VF X (unaryOp op) r)(ha:PE X a ta):PE X (.UnaryOp op a pos) (Sv r ta):=by
 intro y4 s U H Q I h;exact UnaryOp_ (Z0 (ha y4 s U H _ I h) λv s1 ⟨x,H1,I1,r1,q1⟩=>ho y4 s1 U H1 x v Q I1 r1 q1)
def UZ{C:Int->Int->Prop}{g:Int->Int->Int}(rule:∀(i j:Int) (t u:Tok) (s:Shared) (Q:Q0) (E:Q0),C i j->Q (.int (g i j) s.toks) {s with toks:=s.toks+1}->wpAny (model X.prog X.w) X.A (f (.int i t) (.int j u)) Q E s):ZS X f (rI C λi j=>.int (g i j)):=by
 intro y4 s U H x y v u Q I rx ry h;obtain⟨i,j,rfl,rfl,hc,q⟩:=h;obtain⟨t,rfl⟩:=rx;obtain⟨t',rfl⟩:=ry;exact rule i j t t' s _ _ hc ⟨.int (g i j),H,I.tok _,⟨_,rfl⟩,q⟩
def Tv{g:Int->Int->Int}(rule:∀(i j:Int) (t u:Tok) (s:Shared) (Q:Q0) (E:Q0),Q (.int (g i j) s.toks) {s with toks:=s.toks+1}->wpAny (model X.prog X.w) X.A (f (.int i t) (.int j u)) Q E s):ZS X f (WJ λi j=>.int (g i j)):=by
 intro y4 s U H x y v u Q I rx ry h;obtain⟨i,j,rfl,rfl,q⟩:=h;obtain⟨t,rfl⟩:=rx;obtain⟨t',rfl⟩:=ry;exact rule i j t t' s _ _ ⟨.int (g i j),H,I.tok _,⟨_,rfl⟩,q⟩
def R3{g:Int->Int->Bool}(rule:∀(i j:Int) (t u:Tok) (s:Shared) (Q:Q0) (E:Q0),Q (.bool (g i j)) s->wpAny (model X.prog X.w) X.A (f (.int i t) (.int j u)) Q E s):ZS X f (WJ λi j=>.bl (g i j)):=by
 intro y4 s U H x y v u Q I rx ry h;obtain⟨i,j,rfl,rfl,q⟩:=h;obtain⟨t,rfl⟩:=rx;obtain⟨t',rfl⟩:=ry;exact rule i j t t' s _ _ ⟨.bl (g i j),H,I,rfl,q⟩
def Tn(i j:Int):Prop:=0<j/\j<1073741824
def Xk(i j:Int):Prop:=(-(2^64)<i/\i<2^64)\/(-(2^64)<j/\j<2^64)
def Xk.ok{i j:Int}(h:Xk i j):IntMulOk i j:=by
 rcases h with⟨h1,h2⟩|⟨h1,h2⟩
 .exact .of_left (intBits_le_64 h1 h2)
 .exact .of_right (intBits_le_64 h1 h2)
def Le:ZS X (binaryOp .Add) (WJ λi j=>.int (i+j)):=Tv λ_ _ _ _ _ _ _ q=>add_int q
def WL:ZS X (binaryOp .Sub) (WJ λi j=>.int (i-j)):=Tv λ_ _ _ _ _ _ _ q=>sub_int q
def WX:ZS X (binaryOp .Mult) (rI Xk λi j=>.int (i*j)):=UZ λ_ _ _ _ _ _ _ hc q=>mul_int q hc.ok
def Xm:ZS X (binaryOp .FloorDiv) (rI Tn λi j=>.int (i / j)):=UZ λi j _ _ _ _ _ hc q=>by
 have h1:(0:Int)<j:=hc.1
 have h2:j<1073741824:=hc.2
 exact floordiv_int (by omega) (by rw[Int.fdiv_eq_ediv_of_nonneg i (by omega)];exact q) (.inl (PyProof.noPylong_small (by omega)))
def Xb:ZS X (binaryOp .Mod) (rI (λ_ j=>0<j) λi j=>.int (i%j)):=UZ λi j _ _ _ _ _ hc q=>by
 have h1:(0:Int)<j:=hc
 exact mod_int' (by omega) (by rw[Int.fmod_eq_emod_of_nonneg i (by omega)];exact q)
def N7{f:Value->Sem Value}{g:Int->Int}(rule:∀(i:Int) (t:Tok) (s:Shared) (Q:Q0) (E:Q0),Q (.int (g i) s.toks) {s with toks:=s.toks+1}->wpAny (model X.prog X.w) X.A (f (.int i t)) Q E s):VF X f (rU λi=>.int (g i)):=by
 intro y4 s U H x v Q I rx h;obtain⟨i,rfl,q⟩:=h;obtain⟨t,rfl⟩:=rx;exact rule i t s _ _ ⟨.int (g i),H,I.tok _,⟨_,rfl⟩,q⟩
def QW:VF X (unaryOp .USub) (rU λi=>.int (-i)):=N7 λ_ _ _ _ _ q=>neg_int q
end
def VM:V->V->Bool
 |.non,.non=>true|.non,.int _=>true|.int _,.non=>true|.non,.bl _=>true|.bl _,.non=>true|.non,.str _=>true|.str _,.non=>true
 |.int _,.int _=>true|.bl _,.bl _=>true|.str _,.str _=>true|.byt _,.byt _=>true
 |.int _,.str _=>true|.str _,.int _=>true|.bl _,.str _=>true|.str _,.bl _=>true
 |_,_=>false
def Pa:R2:=λx y H Q=>VM x y=true/\Q (.bl (decide (x=y))) H
def N6:R2:=λx y H Q=>VM x y=true/\Q (.bl (!decide (x=y))) H
def S2{i j:Int}:decide (V.int i=V.int j)=(i==j):=by
 rw[Ew];simp
def Th{i j:Bool}:decide (V.bl i=V.bl j)=(i==j):=by
 rw[Ew];simp
def uV{i j:Str}:decide (V.str i=V.str j)=(i==j):=by
 rw[Ew];simp
def TC{i j:Array UInt8}:decide (V.byt i=V.byt j)=(i.toList==j.toList):=by
 rw[Ew];cases i;cases j;simp
section
variable {a b:Expr}
def bO{Q:VK}{k k':Bool}(I:Inv X y4 U H s)(q:Q (.bl k) H)(e:k=k'):EP X y4 U Q (.bool k') s:=by
 subst e;exact⟨.bl k,H,I,rfl,q⟩
def N_:ZS X (compareOp .Eq) Pa:=by
 intro y4 s U H x y v u Q I rx ry h;obtain⟨hs,q⟩:=h;cases x with
 |non=>
  cases rx;cases y with
  |non=>cases ry;exact PySem.EqNone.eq_none_none (bO I q (by simp))
  |bl j=>cases ry;exact PySem.EqNone.eq_none_bool (bO I q (by simp))
  |int j=>obtain⟨t',rfl⟩:=ry;exact PySem.EqNone.eq_none_int (bO I q (by simp))
  |str j=>obtain⟨t',rfl⟩:=ry;exact PySem.EqNone.eq_none_str (bO I q (by simp))
  |_=>exact absurd (show false=true from hs) An
 |bl i=>
  cases rx;cases y with
  |non=>cases ry;exact PySem.EqNone.eq_bool_none (bO I q (by simp))
  |bl j=>cases ry;exact eq_bool (bO I q Th)
  |str j=>obtain⟨t',rfl⟩:=ry;exact PySem.EqMixed.eq_bool_str (bO I q (by simp))
  |_=>exact absurd (show false=true from hs) An
 |int i=>
  obtain⟨t,rfl⟩:=rx;cases y with
  |non=>cases ry;exact PySem.EqNone.eq_int_none (bO I q (by simp))
  |int j=>obtain⟨t',rfl⟩:=ry;exact eq_int (bO I q S2)
  |str j=>obtain⟨t',rfl⟩:=ry;exact PySem.EqMixed.eq_int_str (bO I q (by simp))
  |_=>exact absurd (show false=true from hs) An
 |str i=>
  obtain⟨t,rfl⟩:=rx;cases y with
  |non=>cases ry;exact PySem.EqNone.eq_str_none (bO I q (by simp))
  |bl j=>cases ry;exact PySem.EqMixed.eq_str_bool (bO I q (by simp))
  |int j=>obtain⟨t',rfl⟩:=ry;exact PySem.EqMixed.eq_str_int (bO I q (by simp))
  |str j=>obtain⟨t',rfl⟩:=ry;exact eq_str (bO I q uV)
  |_=>exact absurd (show false=true from hs) An
 |byt i=>
  obtain⟨t,rfl⟩:=rx;cases y with
  |byt j=>obtain⟨t',rfl⟩:=ry;exact W.eq_bytes (bO I q TC)
  |_=>exact absurd (show false=true from hs) An
 |_=>cases y<;>exact absurd (show false=true from hs) An
def LH:ZS X (compareOp .NotEq) N6:=by
 intro y4 s U H x y v u Q I rx ry h;obtain⟨hs,q⟩:=h;cases x with
 |non=>
  cases rx;cases y with
  |non=>cases ry;exact PySem.EqNone.ne_none_none (bO I q (by simp))
  |bl j=>cases ry;exact PySem.EqNone.ne_none_bool (bO I q (by simp))
  |int j=>obtain⟨t',rfl⟩:=ry;exact PySem.EqNone.ne_none_int (bO I q (by simp))
  |str j=>obtain⟨t',rfl⟩:=ry;exact PySem.EqNone.ne_none_str (bO I q (by simp))
  |_=>exact absurd (show false=true from hs) An
 |bl i=>
  cases rx;cases y with
  |non=>cases ry;exact PySem.EqNone.ne_bool_none (bO I q (by simp))
  |bl j=>cases ry;exact ne_bool (bO I q (Da not Th))
  |str j=>obtain⟨t',rfl⟩:=ry;exact PySem.EqMixed.ne_bool_str (bO I q (by simp))
  |_=>exact absurd (show false=true from hs) An
 |int i=>
  obtain⟨t,rfl⟩:=rx;cases y with
  |non=>cases ry;exact PySem.EqNone.ne_int_none (bO I q (by simp))
  |int j=>obtain⟨t',rfl⟩:=ry;exact ne_int (bO I q (Da not S2))
  |str j=>obtain⟨t',rfl⟩:=ry;exact PySem.EqMixed.ne_int_str (bO I q (by simp))
  |_=>exact absurd (show false=true from hs) An
 |str i=>
  obtain⟨t,rfl⟩:=rx;cases y with
  |non=>cases ry;exact PySem.EqNone.ne_str_none (bO I q (by simp))
  |bl j=>cases ry;exact PySem.EqMixed.ne_str_bool (bO I q (by simp))
  |int j=>obtain⟨t',rfl⟩:=ry;exact PySem.EqMixed.ne_str_int (bO I q (by simp))
  |str j=>obtain⟨t',rfl⟩:=ry;exact ne_str (bO I q (Da not uV))
  |_=>exact absurd (show false=true from hs) An
 |byt i=>
  obtain⟨t,rfl⟩:=rx;cases y with
  |byt j=>obtain⟨t',rfl⟩:=ry;exact W.ne_bytes (bO I q (Da not TC))
  |_=>exact absurd (show false=true from hs) An
 |_=>cases y<;>exact absurd (show false=true from hs) An
def Wb:ZS X (compareOp .Lt) (WJ λi j=>.bl (decide (i<j))):=R3 λ_ _ _ _ _ _ _ q=>lt_int q
def V8:ZS X (compareOp .Gt) (WJ λi j=>.bl (decide (j<i))):=R3 λ_ _ _ _ _ _ _ q=>gt_int q
def X6:ZS X (compareOp .In) (λx y H Q=>∃i j,x=.str i/\y=.str j/\Q (.bl (!(Builtin.Str.occurrences j i 0 j.length 1).isEmpty)) H):=by
 intro y4 s U H x y v u Q I rx ry h;obtain⟨i,j,rfl,rfl,q⟩:=h;obtain⟨t,rfl⟩:=rx;obtain⟨t',rfl⟩:=ry;exact in_str (bO I q rfl)
def W7:ZS X (compareOp .Is) (λx y H Q=>y=.non/\Q (.bl (decide (x=.non))) H):=by
 intro y4 s U H x y v u Q I rx ry h;obtain⟨rfl,q⟩:=h;cases ry;refine is_none_gen (bO I q ?_);cases x<;>first
  |(cases rx;rfl)
  |(obtain⟨t,rfl⟩:=rx;rfl)
def Xr:ZS X (compareOp .IsNot) (λx y H Q=>y=.non/\Q (.bl (!decide (x=.non))) H):=by
 intro y4 s U H x y v u Q I rx ry h;obtain⟨rfl,q⟩:=h;cases ry;refine isnot_none_gen (bO I q ?_);cases x<;>first
  |(cases rx;rfl)
  |(obtain⟨t,rfl⟩:=rx;rfl)
def bC(b:Expr){op:CmpOp}(h:op≠.In:=by decide)(h2:op≠.NotIn:=by decide):behindInMarks op b=false:=by
 have e1:(op==CmpOp.In)=false:=by cases op<;>first|rfl|exact absurd rfl h
 have e2:(op==CmpOp.NotIn)=false:=by cases op<;>first|rfl|exact absurd rfl h2
 cases b<;>simp[behindInMarks,e1,e2]
def nN{op:CmpOp}{r:R2}(ho:ZS X (compareOp op) r)(ha:PE X a ta)(hb:PE X b tb)(hm:behindInMarks op b=false):PE X (.Compare a [op] [b] pos) (Wl r ta tb):=by
 intro y4 s U H Q I h;exact wpAny_Compare1 (UR ha hb I h λv u s2 x y H2 I2 rx ry q=>ho y4 s2 U H2 x y v u Q I2 rx ry q) hm
def Uo(K:W.Frag)(x:V)(H:Hp)(k:Bool):Prop:=
 match x with
 |.non=>k=false
 |.bl b=>k=b
 |.int i=>k=(i != 0)
 |.str y=>y.length<=sizeLine/\k=((y.length:Int) != 0)
 |.byt y=>y.size<=sizeLine/\k=((y.size:Int) != 0)
 |.ref p=>(∃xs,ZJ K H p xs/\k=!xs.isEmpty)\/(∃xs,Y9 K H p xs/\k=!xs.isEmpty)\/∃kvs,H p=some (.dK kvs)/\k=!kvs.isEmpty
 |_=>False
def LL{κ:Type}{kvs:List (κ×V)}{vs:List (κ×Value)}(r:KV kvs vs):(!vs.isEmpty)=!kvs.isEmpty:=by
 cases r<;>rfl
def qX{its:List Value}(r:Vals xs its):(!its.toArray.isEmpty)=!xs.isEmpty:=by
 cases r<;>simp
def jX:(sizeLine:Nat)<2^63:=by rw[sizeLine_eq];decide
def uW:J3 X (λx H Q=>∃k,Uo X.K x H k/\Q k H):=by
 intro y4 s U H x v Q I rx h;obtain⟨k,e,q⟩:=h;have hl:=jX
 have hs:sizeLine=16777216:=sizeLine_eq
 cases x with
 |non=>
  cases rx;have e':k=false:=e
  subst e';exact truthy_none ⟨H,I,q⟩
 |bl b=>
  cases rx;have e':k=b:=e
  subst e';exact Er ⟨H,I,q⟩
 |int i=>
  obtain⟨t,rfl⟩:=rx;have e':k=(i != 0):=e
  subst e';exact PySem.P.truthy_int ⟨H,I,q⟩
 |str y=>
  obtain⟨t,rfl⟩:=rx;obtain⟨hy,e'⟩:y.length<=sizeLine/\k=((y.length:Int) != 0):=e;subst e';exact PySem.P.truthy_str (by omega) ⟨H,I.tok _,q⟩
 |byt y=>
  obtain⟨t,rfl⟩:=rx;obtain⟨hy,e'⟩:y.size<=sizeLine/\k=((y.size:Int) != 0):=e;subst e';exact W.truthy_bytes (by omega) ⟨H,I.tok _,q⟩
 |ref p=>
  cases rx;have e':(∃xs,ZJ X.K H p xs/\k=!xs.isEmpty)\/(∃xs,Y9 X.K H p xs/\k=!xs.isEmpty)\/∃kvs,H p=some (.dK kvs)/\k=!kvs.isEmpty:=e
  rcases e' with⟨xs,hx,e'⟩|⟨xs,hx,e'⟩|⟨kvs,hx,e'⟩
  .subst e';obtain⟨its,r,pl,hz⟩:=I.list hx;have hlen:=r.length
   exact wpAny_truthy_list pl.isList (by simp only[List.size_toArray];omega) ⟨H,I.tok _,by rw[qX r];exact q⟩
  .subst e';obtain⟨its,r,pl,hz⟩:=I.tuple hx;have hlen:=r.length
   exact truthy_tuple pl (by simp only[List.size_toArray];omega) ⟨H,I.tok _,by rw[qX r];exact q⟩
  .subst e';obtain⟨hz,hS,vs,r,m⟩:kvs.length<=sizeLine/\(p==sysModules)=false/\∃vs,KV kvs vs/\s.heap.DictOf (bH X.prog X.w) p vs:=I.Z7 p _ hx;have hlen:kvs.length=vs.length:=Paired.length r
   exact wpAny_truthy_dict hS m (by omega) ⟨H,I.tok _,by rw[LL r];exact q⟩
 |_=>exact(show False from e).elim
def KD:ZS X (binaryOp .Add) (λx y H Q=>∃i j,x=.str i/\y=.str j/\i.length+j.length<=sizeLine/\Q (.str (i++j)) H):=by
 intro y4 s U H x y v u Q I rx ry h;obtain⟨i,j,rfl,rfl,hz,q⟩:=h;obtain⟨t,rfl⟩:=rx;obtain⟨t',rfl⟩:=ry;exact add_str (λt' tk=>⟨.str (i++j),H,I.tok _,⟨_,rfl⟩,q⟩) hz
def eE{x:V}(r:Vals [x] us):∃u,us=[u]/\RelV x u:=by
 cases r with
 |cons r1 r2=>cases r2;exact⟨_,rfl,r1⟩
def sT{x y:V}(r:Vals [x,y] us):∃u w',us=[u,w']/\RelV x u/\RelV y w':=by
 cases r with
 |cons r1 r2=>
  cases r2 with
  |cons r3 r4=>cases r4;exact⟨_,_,rfl,r1,r3⟩
def MU(hc:X.calm=true):ZZ X (.builtin "min") (λxs H Q=>∃i j,xs=[.int i,.int j]/\Q (.int (if j<i then j else i)) H):=by
 intro y4 s U H xs us Q I r h;obtain⟨i,j,rfl,q⟩:=h;obtain⟨u,w',rfl,⟨t,rfl⟩,⟨t',rfl⟩⟩:=sT r;refine min_two_ints (I.ok.hd hc) λh' tk k=>⟨_,H,I.kept k,?_,q⟩;by_cases hj:j<i
 .rw[if_pos hj,if_pos hj];exact⟨_,rfl⟩
 .rw[if_neg hj,if_neg hj];exact⟨_,rfl⟩
def X2:ZZ X (.type "int") (λxs H Q=>(∃i,xs=[.int i]/\Q (.int i) H)\/∃k,xs=[.bl k]/\Q (.int (if k then 1 else 0)) H):=by
 intro y4 s U H xs us Q I r h;rcases h with⟨i,rfl,q⟩|⟨k,rfl,q⟩
 .obtain⟨u,rfl,t,rfl⟩:=eE r;exact call_int_int ⟨.int i,H,I,⟨_,rfl⟩,q⟩
 .obtain⟨u,rfl,r1⟩:=eE r;cases r1;exact call_int_bool ⟨.int (if k then 1 else 0),H,I.tok _,⟨_,rfl⟩,q⟩
def YO:ZZ X (.type "str") (λxs H Q=>∃i,xs=[.int i]/\i.natAbs.log2<1920/\Q (.str (toString i)) H):=by
 intro y4 s U H xs us Q I r h;obtain⟨i,rfl,hz,q⟩:=h;obtain⟨u,rfl,t,rfl⟩:=eE r;exact PySem.P.str_of_int hz ⟨.str _,H,I.tok _,⟨_,rfl⟩,q⟩
def Kv(K:W.Frag)(x:V)(H:Hp)(n:Nat):Prop:=
 match x with
 |.str y=>y.length<=sizeLine/\n=y.length
 |.byt y=>y.size<=sizeLine/\n=y.size
 |.ref p=>(∃xs,ZJ K H p xs/\n=xs.length)\/∃xs,Y9 K H p xs/\n=xs.length
 |_=>False
def XU:ZZ X (.builtin "len") (λxs H Q=>∃x n,xs=[x]/\Kv X.K x H n/\Q (.int n) H):=by
 intro y4 s U H xs us Q I r h;obtain⟨x,n,rfl,e,q⟩:=h;obtain⟨u,rfl,rx⟩:=eE r;have hl:=jX
 have hs:sizeLine=16777216:=sizeLine_eq
 cases x with
 |str y=>
  obtain⟨t,rfl⟩:=rx;obtain⟨hy,e'⟩:y.length<=sizeLine/\n=y.length:=e;subst e';exact len_str (by omega) ⟨.int _,H,I.tok _,⟨_,rfl⟩,q⟩
 |byt y=>
  obtain⟨t,rfl⟩:=rx;obtain⟨hy,e'⟩:y.size<=sizeLine/\n=y.size:=e;subst e';exact W.len_bytes (by omega) ⟨.int _,H,I.tok _,⟨_,rfl⟩,q⟩
 |ref p=>
  cases rx;have e':(∃xs,ZJ X.K H p xs/\n=xs.length)\/∃xs,Y9 X.K H p xs/\n=xs.length:=e
  rcases e' with⟨xs,hx,e'⟩|⟨xs,hx,e'⟩
  .subst e';obtain⟨its,r',pl,hz⟩:=I.list hx;have hlen:=r'.length
   exact Calls.call_len_list pl.isList (by simp only[List.size_toArray];omega) ⟨.int xs.length,H,I.tok _,⟨_,by simp only[List.size_toArray];rw[hlen]⟩,q⟩
  .subst e';obtain⟨its,r',pl,hz⟩:=I.tuple hx;have hlen:=r'.length
   exact len_tuple pl (by simp only[List.size_toArray];omega) ⟨.int xs.length,H,I.tok _,⟨_,by simp only[List.size_toArray];rw[hlen]⟩,q⟩
 |_=>exact(show False from e).elim
end
structure WW (h:Heap) (x dx C:Addr) (mA:Str->Option Value):Prop where
 obj:h.get? x=some (W.instObj C dx)
 ns:h.Ns1 dx mA
 ne:dx≠x
def sY{dx:Addr}{mA:Q5}(n:h.Ns1 dx mA):∃od,h.get? dx=some od/\∀name,W.lookIn name od=some (mA name):=by
 obtain⟨o,es,ep,ho,hd,hk,_,hm⟩:=n;refine⟨o,ho,λname=>?_⟩;have e:=hm name
 unfold nsFind findBy at e;rw[<-Array.find?_toList]at e;unfold W.lookIn;rw[hd];dsimp only;split
 .rename_i y q
  rw[q]at e;exact Da some e
 .rename_i q
  rw[q]at e;have a:es.toList.any (·.refKey)=false:=by
   rw[List.any_eq_false];intro y hy;obtain⟨z,t,hkey⟩:=hk y (Array.mem_toList_iff.mp hy);simp[DictEntry.refKey,hkey]
  have a':¬es.toList.any (·.refKey)=true:=by rw[a];exact An
  rw[if_neg a'];exact Da some e
def WW.look{x dx:Addr}{mA:Q5}(I:WW h x dx C mA):∃od,W.InstAt h x (W.instObj C dx) C (some od)/\∀name,W.lookIn name od=some (mA name):=
 let ⟨od,ho,hl⟩:=sY I.ns
 ⟨od,⟨I.obj,rfl,rfl,ho⟩,hl⟩
def Zo.some_of{v:V}{o:Option Value}(r:Zo (some v) o):∃u,o=some u/\RelV v u:=by
 cases o with
 |none=>exact(show False from r).elim
 |some u=>exact⟨u,rfl,r⟩
section
variable {dx:Addr} {fs:List (Str×V)}
def QP(Z7:ZD P w H h)(e:H a=some (.ins C dx fs)):∃mA,WW h a dx C mA/\(∀f,Zo (fs.lookup f) (mA f))/\PySem.Within mA (fs.map (·.1))/\fs.length<=1000/\H dx=some (.own a):=by
 obtain⟨d,z,ne,ob,mA,n,r,q⟩:=(show Z3 P w H h a (.ins C dx fs) from Z7 a _ e);exact⟨mA,⟨ob,n,ne⟩,r,q,z,d⟩
end
structure UA (K:W.Frag) (C:Addr):Prop where
 pg:W.plainGet K C Str.empty=true
 hd:W.hasDictIn K C=true
 po:W.plainOver K C=true
 sa:W.findIn K (.ref C) "__setattr__"=some (some (.builtin "object.__setattr__"))
def UA.get(c:UA K C)(f:Str):W.plainGet K C f=true:=c.pg
section
variable {f:Str}
def JE{prog:Program}{env:Env}{f:Str}(hb:attributeBase e f env (eval e env)=eval e env)(h:wpAny (model prog w) A (eval e env) (λo s₁=>wpAny (model prog w) A (getAttr o f true) Q E s₁) E s):wpAny (model prog w) A (eval (.Attribute e f pos) env) Q E s:=
 Attribute_any_ h (by rw[arm_eval_Attribute,hb])
end
section
variable {c:Value} {b:Bool}
inductive Zf (K:W.Frag) (H:Hp):V->Value->Prop where
 |non:Zf K H .non (.type "NoneType")
 |bl (x:Bool):Zf K H (.bl x) (.type "bool")
 |int (i:Int):Zf K H (.int i) (.type "int")
 |str (x:Str):Zf K H (.str x) (.type "str")
 |flt (x:UInt64):Zf K H (.flt x) (.type "float")
 |lst {a:Addr} {xs:List V} (e:H a=some (.lst xs)):Zf K H (.ref a) (.type "list")
 |frz {a:Addr} {o:Obj} {xs:List V} (e:H a=some (.frz o (.lst xs))):Zf K H (.ref a) (.type "list")
 |tup {a:Addr} {xs:List V} (e:H a=some (.tup xs)):Zf K H (.ref a) (.type "tuple")
 |dK {a:Addr} {kvs:List (Key×V)} (e:H a=some (.dK kvs)):Zf K H (.ref a) (.type "dict")
 |dT {a:Addr} {kvs:List (List Key×V)} (e:H a=some (.dT kvs)):Zf K H (.ref a) (.type "dict")
 | ins {a C dx:Addr} {fs:List (Str×V)} (e:H a=some (.ins C dx fs)) (cl:UA K C) (ha:W.findIn K (.ref C) "__class__"=some (some (.builtin "object.__class__")))
     (hn:W.specialIn K (.builtin "object.__class__") "__get__"=some (some (.builtin "getset_descriptor.__get__"))) (htk:W.takesIn K (.builtin "object.__class__")=some true)
     (hm:W.mroIn K C (.type "object")=some true):Zf K H (.ref a) (.ref C)
def M6{x:V}{t:Value}(I:Inv X y4 U H s)(rx:RelV x u)(ty:Zf X.K H x t)(e:W.kitOne X.K t c=some b)(h:∀tk,Q (.bool b) {s with toks:=tk}):wpAny (model X.prog X.w) A (call (.builtin "isinstance") [u,c]) Q E s:=by
 cases ty with
 |non=>cases (show u=Value.none from rx);exact Dg W.kitx_none I.Zn True.intro e (λz=>nomatch z) h
 |bl y=>cases (show u=Value.bool y from rx);exact Dg W.kitx_bool I.Zn True.intro e (λz=>nomatch z) h
 |int i=>obtain⟨t,q⟩:=(show ∃t,u=Value.int i t from rx);cases q;exact Dg W.kitx_int I.Zn True.intro e (λz=>nomatch z) h
 |str y=>obtain⟨t,q⟩:=(show ∃t,u=Value.str y t from rx);cases q;exact Dg W.kitx_str I.Zn True.intro e (λz=>nomatch z) h
 |flt y=>obtain⟨t,q⟩:=(show ∃t,u=Value.float y t from rx);cases q;exact Dg W.kitx_float I.Zn True.intro e (λz=>nomatch z) h
 | @lst a xs ea=>
  cases (show u=Value.ref a from rx);obtain⟨_,_,n,_,h1⟩:=(show Z3 X.prog X.w H s.heap a (.lst xs) from I.Z7 a _ ea);exact Dg W.kitx_list I.Zn ⟨_,h1,rfl⟩ e (λz=>nomatch z) h
 | @frz a ob xs ea=>
  cases (show u=Value.ref a from rx);obtain⟨_,_,_,n,_,h1⟩:=(show Z3 X.prog X.w H s.heap a (.frz ob (.lst xs)) from I.Z7 a _ ea);exact Dg W.kitx_list I.Zn ⟨_,h1,rfl⟩ e (λz=>nomatch z) h
 | @tup a xs ea=>
  cases (show u=Value.ref a from rx);obtain⟨_,_,_,p⟩:=(show Z3 X.prog X.w H s.heap a (.tup xs) from I.Z7 a _ ea);obtain⟨o,h1,h2,_⟩:=p;exact Dg W.kitx_tuple I.Zn ⟨o,h1,h2⟩ e (λz=>nomatch z) h
 | @dK a kvs ea=>
  cases (show u=Value.ref a from rx);obtain⟨_,_,vs,_,p⟩:=(show Z3 X.prog X.w H s.heap a (.dK kvs) from I.Z7 a _ ea);obtain⟨o,es,ep,h1,h2,_⟩:=p;exact Dg W.kitx_dict I.Zn ⟨o,h1,h2.1⟩ e (λz=>nomatch z) h
 | @dT a kvs ea=>
  cases (show u=Value.ref a from rx);obtain⟨_,_,xs,_,o,es,ep,h1,h2,_⟩:=(show Z3 X.prog X.w H s.heap a (.dT kvs) from I.Z7 a _ ea);exact Dg W.kitx_dict I.Zn ⟨o,h1,h2.1⟩ e (λz=>nomatch z) h
 | @ins a C dx fs ea cl ha hn htk hm=>
  cases (show u=Value.ref a from rx);obtain⟨mA,O,_⟩:=QP I.Z7 ea;obtain⟨od,J,_⟩:=O.look;exact Dg (W.kitx_own (cl.get _) cl.hd ha hn htk hm) I.Zn J e (λz=>nomatch z) h
end
structure Z5 (k:Nat) (A:Around):Prop where
 hd:A.handled=none
 dp:A.depth+3*k+5<recursionLimit
 un:A.units+16*k+200<cLine
def Z5.mono{j:Nat}(r:Z5 k A)(h:j<=k):Z5 j A:=⟨r.hd,by have:=r.dp;omega,by have:=r.un;omega⟩
def Z5.deeper(r:Z5 (k+1) A)(env:Env):Z5 k (A.deeper env):=
 ⟨r.hd,by have:=r.dp;show A.depth+1+3*k+5<_;omega,by have:=r.un;show A.units+3+16*k+200<_;omega⟩
def zX{kw:List (Str×Value)}:(A.under (.builtin "type.__call__" ⟨.ref C::us,kw⟩)).depth=A.depth+1:=by
 first|rfl|simp[Around.under,Code.weight,Code.isCreation,Code.isGuard,Code.isCaller,Code.frames,Code.isFrame,guardIds]
def JR{kw:List (Str×Value)}:(A.under (.builtin "type.__call__" ⟨.ref C::us,kw⟩)).units=A.units+1:=by
 first|rfl|simp[Around.under,Code.cUnits,Code.frames,Code.isFrame]
def Z5.make(r:Z5 (k+1) A)(C:Addr)(us:List Value)(kw:List (Str×Value)):Z5 k (A.under (.builtin "type.__call__" ⟨.ref C::us,kw⟩)):=
 ⟨r.hd,by have:=r.dp;rw[zX];omega,by have:=r.un;rw[JR];omega⟩
def Z5.depth(r:Z5 k A):A.depth<recursionLimit:=by have:=r.dp;omega
def Z5.units(r:Z5 k A):A.units+64<cLine:=by have:=r.un;omega
def Z5.Y3(r:Z5 k A):A.units<cLine:=by have:=r.un;omega
def uY:TA:=λ_ H Q=>Q [] H
def Vz(ta:TE)(tr:TA):TA:=λU H Q=>ta U H λx H1=>tr U H1 λxs H2=>Q (x::xs) H2
section
variable {X:Cx} {e:Expr} {es:List Expr} {te:TE} {t:TA} {pos:Pos}
def aB:PA X [] uY:=λ_ _ _ _ H Q I h=>Calls.spliced_nil ⟨[],H,I,.nil,h⟩
def aA(ha:PE X e te)(hr:PA X es t)(hs:starEach (e::es) X.env=(false,eval e X.env)::starEach es X.env:=by rfl):PA X (e::es) (Vz te t):=by
 intro pos y4 s U H Q I h;rw[hs];show wpAny _ _ (spliced ((false,eval e X.env)::backTo pos (starEach es X.env))) _ _ s
 refine Calls.spliced_cons (Z0 (ha y4 s U H _ I h) λu s1 ⟨x,H1,I1,r1,q1⟩=>?_);exact Z0 (hr pos y4 s1 U H1 _ I1 q1) λus s2 ⟨xs,H2,I2,r2,q2⟩=>⟨x::xs,H2,I2,.cons r1 r2,q2⟩
def Tt(t:TA):TE:=λU H Q=>t U H λxs H1=>xs.length<=sizeLine/\∀p,H1 p=none->Q (.ref p) (upd H1 p (.tup xs))
def Wh(t:TA):TE:=λU H Q=>t U H λxs H1=>xs.length<=sizeLine/\∀p,H1 p=none->Q (.ref p) (upd H1 p (.lst xs))
def lB{x1}(h:PA X es t):PE X (.Tuple es x1 pos) (Tt t):=by
 intro y4 s U H Q I hq;refine wpAny_Tuple_spliced (Z0 (h pos y4 s U H _ I hq) λus s1 ⟨xs,H1,I1,r,z,q⟩=>⟨by rw[<-r.length];exact z,?_⟩)
 have hf:H1 s1.heap.objs.size=none:=I1.Z7.fresh (Ai _)
 refine⟨.ref s1.heap.objs.size,upd H1 s1.heap.objs.size (.tup xs),I1.laid (t':=s1.toks) (λb u e=>Ag _ e) (Ai _) ?_,rfl,q _ hf⟩;exact⟨z,us,r,⟨_,Ax _ rfl,rfl,_,rfl⟩⟩
def bL(h:PA X es t):PE X (.List es pos) (Wh t):=by
 intro y4 s U H Q I hq;refine wpAny_List_spliced (Z0 (h pos y4 s U H _ I hq) λus s1 ⟨xs,H1,I1,r,z,q⟩=>⟨by rw[<-r.length];exact z,?_⟩)
 have hf:H1 s1.heap.objs.size=none:=I1.Z7.fresh (Ai _)
 refine⟨.ref s1.heap.objs.size,upd H1 s1.heap.objs.size (.lst xs),I1.laid (t':=s1.toks) (λb u e=>Ag _ e) (Ai _) ?_,rfl,q _ hf⟩;exact⟨z,us,0,r,Ax _ rfl⟩
end
abbrev Sp:=List V->Hp->VK->XK->Prop
abbrev Yi:=List Env->Hp->Shared->XK->Value->Shared->Prop
structure Yj (P:Program) (w:World) (K:W.Frag) (mg:Str->Option Value) (base:Heap) (A:Around) (outer:List Env) (s:Shared) (H:Hp):Prop where
 frames:A.frames=some outer
 mod:Mod K mg base
 bs:∀b o,base.get? b=some o->s.heap.get? b=some o/\H b=none
 Ya:base.objs.size<=s.heap.objs.size
 ZA:s.heap.FunFrames base outer
 Xy:∀b∈Zm outer,H b=none
 Z7:ZD P w H s.heap
 bare:AllBare s.gens
def CE(outer:List Env)(P:Program)(w:World)(H:Hp)(s:Shared)(Q:VK)(u:Value)(s':Shared):Prop:=
 ∃v H',s'.os=s.os/\AllBare s'.gens/\Un (Zm outer) [] H H' s.heap s'.heap/\ZD P w H' s'.heap/\RelV v u/\Q v H'
def CR(CX:Yi)(outer:List Env)(P:Program)(w:World)(H:Hp)(s:Shared)(Q:VK)(E:XK)(r:Result)(s':Shared):Prop:=
 match r with
 |.ok (.ret u)=>CE outer P w H s Q u s'
 |.ok _=>False
 |.error e=>CX outer H s E e s'
structure Z4 (P:Program) (w:World) (K:W.Frag) (mg:Str->Option Value) (base:Heap) (CX:Yi) (k:Nat) (f:Addr) (fd:FuncData) (ps:List Str) (sp:Sp):Prop where
 len:∀vs H Q E,sp vs H Q E->vs.length=ps.length
 run:∀(A:Around) (outer:List Env) (s:Shared) (H:Hp) (args:Args) (us:List Value) (vs:List V) (Q:VK) (E:XK),Z5 k A->Yj P w K mg base A outer s H->BindsTo s fd args (ps.zip us)->Vals vs us->sp vs H Q E->
  codeAny (model P w) A (.call (.ref f) args) (CR CX outer P w H s Q E) s
def Yj.make{mg:Q5}{base:Heap}{outer:List Env}(e:Yj P w K mg base A outer s H)(C:Addr)(us:List Value)(kw:List (Str×Value)):Yj P w K mg base (A.under (.builtin "type.__call__" ⟨.ref C::us,kw⟩)) outer s H:=⟨by first|exact e.frames|(simpa [Around.under,Code.envs,Code.isFrame,pushEnvs]using e.frames),e.mod,e.bs,e.Ya,e.ZA,e.Xy,e.Z7,e.bare⟩
section
variable {s':Shared}
def Inv.WK(I:Inv X y4 U H s):Yj X.prog X.w X.K X.mg X.base X.A X.stack s H:=
 ⟨I.ok.frames,I.ok.mod,I.bs,Bd I.ok.Ya I.sz,I.stack,I.Zd,I.Z7,I.bare⟩
def Inv.after{Q:VK}(I:Inv X y4 U H s)(h:CE X.stack X.prog X.w H s Q u s'):EP X y4 U Q u s':=by
 obtain⟨v,H',os,bare,un,Z7,r,q⟩:=h;obtain⟨hh,g,d,t,os'⟩:=s';obtain rfl:os'=s.os:=os;exact⟨v,H',I.call (h':=hh) (g':=g) (d':=d) (t':=t) (ch:=[]) un Z7 bare (λb z=>absurd z (by simp)),r,q⟩
end
def VH(sp:Sp)(dvs:List V)(E:XK)(t:TA):TE:=λU H Q=>t U H λvs H1=>sp (vs++dvs) H1 Q E
def Binds(K:W.Frag)(fd:FuncData)(ps:List Str)(ds:List Value):Prop:=
 ∀(s:Shared) (us:List Value),K.In s.heap->(us++ds).length=ps.length->BindsTo s fd ⟨us,[]⟩ (ps.zip (us++ds))
def Binds.all{fd:FuncData}(h:∀us:List Value,us.length=ps.length->bindArgs fd ⟨us,[]⟩=pure (ps.zip us)):Binds K fd ps []:=λs us _ hl=>by
 rw[Bq]at hl ⊢;exact .of_eq (h us hl)
def nX(CX:Yi)(X:Cx)(E:XK):Prop:=∀(y4:List (Addr×Obj)) (U:St) (H:Hp) (s:Shared) (e:Value) (s':Shared),Inv X y4 U H s->CX X.stack H s E e s'->X.xe e s'
section
variable {CX:Yi} {f:Addr} {fd:FuncData} {sp:Sp} {dvs:List V} {ds:List Value} {E:XK} {p:Pos}
def Nf{Q:VK}{vs:List V}(F:Z4 X.prog X.w X.K X.mg X.base CX k f fd ps sp)(hr:Z5 k X.A)(hb:Binds X.K fd ps ds)(hd:Vals dvs ds)(hx:nX CX X E)(I:Inv X y4 U H s)(r:Vals vs us)(h:sp (vs++dvs) H Q E):wpAny (model X.prog X.w) X.A (call (.ref f) us) (EP X y4 U Q) X.xe s:=by
 have r2:Vals (vs++dvs) (us++ds):=r.append hd
 have hl:(us++ds).length=ps.length:=by rw[<-r2.length];exact F.len _ _ _ _ h
 refine Gj (Fy (F.run X.A X.stack s H ⟨us,[]⟩ (us++ds) (vs++dvs) Q E hr I.WK (hb s us I.Zn hl) r2 h) λr s' hq=>?_);cases r with
 |error e=>exact hx y4 U H s e s' I hq
 |ok fl=>
  cases fl with
  |ret u=>exact I.after hq
  |next=>exact False.elim hq
  |brk=>exact False.elim hq
  |cont=>exact False.elim hq
def RY(F:Z4 X.prog X.w X.K X.mg X.base CX k f fd ps sp)(hr:Z5 k X.A)(hg:Gl X x)(hm:X.mg x=some (.ref f))(hk:W.keepIn X.K (.ref f)=true)(hb:Binds X.K fd ps ds)(hd:Vals dvs ds)(hx:nX CX X E)(ha:PA X (e::es) t)(hdb:(x==("__debug__" : Str))=false:=by decide)(he:starEach (e::es) X.env=(false,eval e X.env)::starEach es X.env:=by rfl)(hpl:(backTo pos (starEach es X.env)).any (·.1)=false:=by rfl):PE X (.Call (.Name x p) (e::es) [] pos) (VH sp dvs E t):=by
 intro y4 s U H Q I h;refine Du (iO I hg hm ?_ hdb);refine W.callWith_K (h₀:=X.base) I.ok.mod.Wr hk (Z0 (ha pos y4 s U H _ I h) λus s1 ⟨vs,H1,I1,r,q⟩=>⟨I1.Zn,?_⟩) he hpl;exact Nf F hr hb hd hx I1 r q
end
def PK(X:Cx)(kws:List Keyword)(t:TA):Prop:=
 ∀(pos:Pos) (y4:Q2) (s:Shared) (U:St) (H:Hp) (Q:List V->Hp->Prop),Inv X y4 U H s->t U H Q->wpAny (model X.prog X.w) X.A (evalAll ((backToKw pos (keywordEach kws X.env)).map (·.2))) (AP X y4 U Q) X.xe s
section
variable {kpos:Pos} {kws:List Keyword} {nm:Option Str}
def UQ:PK X [] uY:=λ_ _ _ _ H Q I h=>wpAny_evalAll_nil ⟨[],H,I,.nil,h⟩
def vY(ha:PE X e te)(hr:PK X kws t):PK X (⟨nm,e,kpos⟩::kws) (Vz te t):=by
 intro pos y4 s U H Q I h;show wpAny _ _ (evalAll ((do let v <-eval e X.env;standAt pos;pure v)::(backToKw pos (keywordEach kws X.env)).map (·.2))) _ _ s
 refine wpAny_evalAll_cons (Ae (Z0 (ha y4 s U H _ I h) λu s1 ⟨x,H1,I1,r1,q1⟩=>Ae (Fk (Am ?_))));exact Z0 (hr pos y4 s1 U H1 _ I1 q1) λus s2 ⟨xs,H2,I2,r2,q2⟩=>⟨x::xs,H2,I2,.cons r1 r2,q2⟩
end
structure Z9 (N P:List Str) (sc:Scope):Prop where
 kind:sc.kind=.function
 co:sc.isCoroutine=false
 gen:sc.isGenerator=false
 nd:N.Nodup
 pre:N.take P.length=P
 par:∀x∈P,sc.names.lookup x=some .local\/sc.names.lookup x=some .cell
 W6:∀y∈sc.names,y.2≠.free
def tL:∀ {binds:List (Str×Value)} {m:Q5},(∀v,(x,v)∉binds)->bindL kindOf binds m x=m x
 |[],_,_=>rfl
 |(n,v)::r,m,h=>by
  unfold bindL;rw[tL λw hw=>h w (Ao _ hw)];split
  .have:x≠n:=by rintro rfl;exact h v Aq
   simp[this]
  .rfl
def tH:∀ {binds:List (Str×Value)} {m:Q5},(∀v,(x,v)∉binds)->bindC kindOf binds m x=m x
 |[],_,_=>rfl
 |(n,v)::r,m,h=>by
  unfold bindC;rw[tH λw hw=>h w (Ao _ hw)];split
  .rfl
  .have:x≠n:=by rintro rfl;exact h v Aq
   simp[this]
def tT{v:Value}:∀ {P:List Str} {vs:List Value} {i:Nat} {m:Q5},P.Nodup->P[i]?=some x->vs[i]?=some v->kindOf x=some .local->
 bindL kindOf (P.zip vs) m x=some v
 |[],_,_,_,_,h,_,_=>by simp at h
 |_::_,[],_,_,_,_,h,_=>by simp at h
 |p::P,w::vs,0,m,nd,h1,h2,hk=>by
  simp at h1 h2;subst h1;subst h2;show bindL kindOf ((p,w)::P.zip vs) m p=_
  unfold bindL;rw[tL λv hv=>(Bz.mp nd).1 (Ef hv).1,if_pos hk];simp
 |p::P,w::vs,i+1,m,nd,h1,h2,hk=>by
  show bindL kindOf ((p,w)::P.zip vs) m x=_
  unfold bindL;exact tT (i:=i) (List.nodup_cons.mp nd).2 (by simpa using h1) (by simpa using h2) hk
def uB{v:Value}:∀ {P:List Str} {vs:List Value} {i:Nat} {m:Q5},P.Nodup->P[i]?=some x->vs[i]?=some v->kindOf x≠some .local->
 bindC kindOf (P.zip vs) m x=some v
 |[],_,_,_,_,h,_,_=>by simp at h
 |_::_,[],_,_,_,_,h,_=>by simp at h
 |p::P,w::vs,0,m,nd,h1,h2,hk=>by
  simp at h1 h2;subst h1;subst h2;show bindC kindOf ((p,w)::P.zip vs) m p=_
  unfold bindC;rw[tH λv hv=>(Bz.mp nd).1 (Ef hv).1,if_neg hk];simp
 |p::P,w::vs,i+1,m,nd,h1,h2,hk=>by
  show bindC kindOf ((p,w)::P.zip vs) m x=_
  unfold bindC;exact uB (i:=i) (List.nodup_cons.mp nd).2 (by simpa using h1) (by simpa using h2) hk
def iQ(N:List Str)(vs:List V):St:=vs.map some++List.replicate (N.length-vs.length) none
def fQ(CX:Yi)(P:Program)(w:World)(K:W.Frag)(mg:Str->Option Value)(base:Heap)(N:List Str)(qual:Str)(scope:Scope)(f:Addr)(cd:Value)(A:Around)(outer:List Env)(s:Shared)(H:Hp)(E:XK):Cx where
 prog:=P
 w:=w
 K:=K
 mg:=mg
 base:=base
 A:=A.deeper (envOfC qual scope s.heap.objs.size f cd)
 N:=N
 s₀:=s
 H₀:=H
 env:=envOfC qual scope s.heap.objs.size f cd
 outer:=outer
 stack:=envOfC qual scope s.heap.objs.size f cd::outer
 ex:=[]
 calm:=true
 fn:=λ_=>true
 pn:=[]
 xe:=λe s'=>wpAny (model P w) (A.deeper (envOfC qual scope s.heap.objs.size f cd)) (leaving (envOfC qual scope s.heap.objs.size f cd) e) (λ_ s''=>CX outer H s E e s'') (λe' s''=>CX outer H s E e' s'') s'
def bJ{sc:Scope}{n:Nat}(h:sc.names.lookup x=some .cell):∃c,(cellsFrom n sc.names []).lookup x=some c:=by
 have q:=W.cellsFrom_some sc.names n [] (.inl h)
 exact Dm.mp q
def Pw{CX:Yi}{mg:Q5}{base:Heap}{qual:Str}{scope:Scope}{f:Addr}{cd:Value}{outer:List Env}{s1:Shared}{E:XK}{vs:List V}(S:Z9 N ps scope)(hd:A.handled=none)(e0:Yj P w K mg base A outer s H)(hl:vs.length=ps.length)(r:Vals vs us)(x:InCallC s s.heap.objs.size (bindL (envOfC qual scope s.heap.objs.size f cd).kindOf (ps.zip us) λ_=>none) (cellsFrom (s.heap.objs.size+1) scope.names []) (bindC (envOfC qual scope s.heap.objs.size f cd).kindOf (ps.zip us) λ_=>none) s1):Inv (fQ CX P w K mg base N qual scope f cd A outer s H E) [] (iQ N vs) H s1:=by
 have hpl:ps.length<=N.length:=by have:=Da List.length S.pre;rw[Bt]at this;omega
 obtain⟨h1,tk,rfl,hk⟩:=x.done;have noA:∀b:Addr,b∉(fQ CX P w K mg base N qual scope f cd A outer s H E).ex:=λb z=>absurd (show b∈([]:List Addr) from z) (by simp)
 refine⟨⟨e0.mod,S.kind,rfl,rfl,Ai _,λy z c h1 h2=>?_,λy hy=>?_,λy c _ h=>?_,λ_=>hd,Around.frames_deeper e0.frames,.inr ⟨rfl,rfl⟩,λb z=>absurd z (noA b),e0.bs,e0.Ya,λb _ _=>noA b,λb z=>absurd z (noA b),e0.ZA,e0.Xy⟩,
  rfl,e0.bare,Un.kept hk,⟨_,x.toInCall.ns,λi y v h1 h2 h3=>?_⟩,λy c h=>⟨_,x.cell y c h⟩,e0.Z7.fresh (Nat.le_refl _),λy c h=>?_,λp hp=>absurd (show p∈([]:Q2) from hp) (by simp),e0.Z7.kept hk,?_⟩
 .exact name_of_addr x.apart (Cz h1) (Cz h2)
 .have hy:scope.names.lookup y=some .cell\/scope.names.lookup y=some .free:=hy
  rcases hy with hy|hy
  .exact bJ hy
  .exact absurd rfl (S.W6 _ (Cz hy))
 .exact Fa (x.above y c (Cz h))
 .have hi:i<vs.length:=by
   unfold iQ at h2;by_cases hi:i<vs.length
   .exact hi
   .rw[List.getElem?_append_right (by simpa using hi)]at h2
    rw[Gy]at h2;split at h2<;>cases h2
  have ha:vs[i]?=some v:=by
   unfold iQ at h2;rw[List.getElem?_append_left (by simpa using hi),List.getElem?_map]at h2
   cases e:vs[i]? with
   |none=>rw[e]at h2;cases h2
   |some a=>rw[e]at h2;cases h2;rfl
  obtain⟨u,hu,rv⟩:=r.get ha;have hp:ps[i]?=some y:=by
   rw[<-S.pre,List.getElem?_take_of_lt (by omega)];exact h1
  have ndP:ps.Nodup:=by rw[<-S.pre];exact S.nd.sublist (Ha _ _)
  refine⟨u,rv,?_⟩;rcases S.par y (Ah hp) with k|k
  .exact .inl ⟨k,tT ndP hp hu k⟩
  .obtain⟨c,e⟩:=bJ (n:=s.heap.objs.size+1) k;refine .inr ⟨.inl k,c,e,?_⟩;have q:=x.cell y c e
   rw[uB ndP hp hu (by show scope.names.lookup y≠_;rw[k];decide)]at q
   exact q
 .exact e0.Z7.fresh (Fa (x.above y c (Cz h)))
 .unfold iQ;show _=N.length
  rw[Ak,Ab,Ff];omega
def Ve{CX:Yi}{mg:Q5}{base:Heap}{f:Addr}{name qual:Str}{params:Arguments}{scope:Scope}{dV kV doc pm cdv ct oc:Value}{an od:Option Addr}{osl:Array (Option Value)}{sp:Sp}(lk:K.lookup f=some ⟨oc,od,.func (W.fnOf name qual params body scope dV kV doc pm an cdv ct),osl⟩)(hcd:W.codeIn K cdv qual=true)(S:Z9 N ps scope)(len:∀vs H Q E,sp vs H Q E->vs.length=ps.length)(hbody:∀(A:Around) (outer:List Env) (s:Shared) (H:Hp) (vs:List V) (Q:VK) (E:XK),Z5 k (A.deeper (envOfC qual scope s.heap.objs.size f cdv))->sp vs H Q E->
 ∃t,YF (fQ CX P w K mg base N qual scope f cdv A outer s H E) body t/\t {nx:=λ_ H'=>Q .non H',rt:=Q} (iQ N vs) H):Z4 P w K mg base CX (k+1) f (W.fnOf name qual params body scope dV kV doc pm an cdv ct) ps sp:=by
 refine⟨len,λA outer s H args us vs Q E hr e0 hb r hsp=>?_⟩;have hl:=len _ _ _ _ hsp
 have KX:K.In s.heap:=e0.mod.Wr.keeps λb o e=>(e0.bs b o e).1
 have lim:s.heap.NoLimit:=e0.mod.nolimit.keeps λb o e=>(e0.bs b o e).1
 have hkind:∀y∈ps.zip us,scope.names.lookup y.1=some .local\/(scope.names.lookup y.1=some .cell/\((cellsFrom (s.heap.objs.size+1) scope.names []).lookup y.1).isSome=true):=λ⟨n,v⟩ hy=>by
  rcases S.par n (Ef hy).1 with q|q
  .exact .inl q
  .exact .inr ⟨q,W.cellsFrom_some _ _ _ (.inl q)⟩
 refine codeAny_call_function hr.depth (KX _ _ lk) rfl S.co S.gen rfl (W.codeRec_of KX hcd) (hb _ _ _ _ ?_);refine wpAny_newFunctionEnv_cells S.kind hkind λenv he s1 x=>?_;subst he;refine⟨lim.keeps x.toInCall.keep,codeAny_func ?_⟩;obtain⟨t,ht,hq⟩:=hbody A outer s H vs Q E (hr.deeper _) hsp;have I:Inv (fQ CX P w K mg base N qual scope f cdv A outer s H E) [] (iQ N vs) H s1:=Pw S hr.hd e0 hl r x
 refine Ck (ht [] s1 (iQ N vs) H _ I hq) (λfl s' hs=>?_) λe s' hs=>hs;have fin:∀ {U':St} {H':Hp} {v:V} {u:Value},Inv (fQ CX P w K mg base N qual scope f cdv A outer s H E) [] U' H' s'->RelV v u->Q v H'->CE outer P w H s Q u s':=
  fun {U' H' v u} J rv q=>⟨v,H',J.os,J.bare,J.base,J.Z7,rv,q⟩
 cases fl with
 |ret u=>
  obtain⟨v,U',H',J,rv,q⟩:=hs;exact fin J rv q
 |next=>
  obtain⟨U',H',J,q⟩:=hs;exact fin (v:=V.non) (u:=Value.none) J rfl q
 |brk=>
  obtain⟨_,_,_,q⟩:=hs;exact False.elim q
 |cont=>
  obtain⟨_,_,_,q⟩:=hs;exact False.elim q
section
variable {p:Pos} {id T:String} {r:List V->Hp->VK->Prop}
def UX(r:List V->Hp->VK->Prop)(t:TA):TE:=λU H Q=>t U H λvs H1=>r vs H1 Q
def aU(hc:ZZ X (.builtin id) r)(hg:Gl X x)(hm:X.mg x=none)(hv:bootBuiltins x=some (.builtin id))(ha:PA X (e::es) t)(hn:x≠"__name__" := by decide)(hdb:(x==("__debug__" : Str))=false:=by decide)(he:starEach (e::es) X.env=(false,eval e X.env)::starEach es X.env:=by rfl)(hpl:(backTo pos (starEach es X.env)).any (·.1)=false:=by rfl):PE X (.Call (.Name x p) (e::es) [] pos) (UX r t):=by
 intro y4 s U H Q I h;refine Du (gK I hg hm hv ?_ hn hdb);exact PyProof.Rows.callWith_builtin1 (Z0 (ha pos y4 s U H _ I h) λus s1 ⟨vs,H1,I1,r1,q1⟩=>hc y4 s1 U H1 vs us Q I1 r1 q1) he hpl
def bV(hc:ZZ X (.type T) r)(hg:Gl X x)(hm:X.mg x=none)(hv:bootBuiltins x=some (.type T))(ha:PA X (e::es) t)(hn:x≠"__name__" := by decide)(hdb:(x==("__debug__" : Str))=false:=by decide)(he:starEach (e::es) X.env=(false,eval e X.env)::starEach es X.env:=by rfl)(hpl:(backTo pos (starEach es X.env)).any (·.1)=false:=by rfl):PE X (.Call (.Name x p) (e::es) [] pos) (UX r t):=by
 intro y4 s U H Q I h;refine Du (gK I hg hm hv ?_ hn hdb);exact Dz (Z0 (ha pos y4 s U H _ I h) λus s1 ⟨vs,H1,I1,r1,q1⟩=>hc y4 s1 U H1 vs us Q I1 r1 q1) he hpl
end
end L2
namespace HT
open PySem PyProof.Rows
def Yl(n d:Nat):Option Int->Nat
 |none=>d
 |some v=>if v<0 then (v+(n:Int)).toNat else min v.toNat n
end HT
namespace L2
open PySem PySem.Spec PyProof.Rows
variable {H:Hp}{X:Cx}{its:List Value}{n:Nat}{y4:Q2}{s:Shared}{x:V}{xs:List V}{α:Type}{U:St}
abbrev TO:=St->Hp->(Option Int->Hp->Prop)->Prop
def PO(X:Cx)(e:Option Expr)(t:TO):Prop:=
 ∀(y4:Q2) (s:Shared) (U:St) (H:Hp) (Q:Option Int->Hp->Prop),Inv X y4 U H s->t U H Q->
  wpAny (model X.prog X.w) X.A (evalPart e X.env) (λu s'=>∃o H',Inv X y4 U H' s'/\IsPart u o/\Q o H') X.xe s
def Sn:TO:=λ_ H Q=>Q none H
def lQ{ns:List Int}:∀ {us:List Value},Vals (ns.map V.int) us->IntsAre us ns:=by
 induction ns with
 |nil=>intro us r;rw[Fz]at r;cases r;exact .nil
 |cons n ns ih=>
  intro us r;rw[Ar]at r;cases r with
  |cons r1 r2=>
   obtain⟨t,e⟩:=r1;subst e;exact .cons n t (ih r2)
section
variable {e:Expr} {te:TE} {lo hi:Option Expr} {tl th:TO} {pos p2:Pos}
def uZ:PO X none Sn:=by
 intro y4 s U H Q I h;rw[evalPart_none];exact Am ⟨none,H,I,.none,h⟩
def XR(X:Cx)(r:V->Option Int->Option Int->Hp->VK->Prop):Prop:=
 ∀(y4:Q2) (s:Shared) (U:St) (H:Hp) (x:V) (v vl vu:Value) (lo hi:Option Int) (sl:Addr) (Q:VK),Inv X y4 U H s->RelV x v->s.heap.IsSliceOf sl vl vu .none->IsPart vl lo->IsPart vu hi->r x lo hi H Q->
  ∃T id,typeLookup (.type T) "__getitem__"=pure (some (.builtin id))/\s.TypeIs v T/\wpAny (model X.prog X.w) X.A (getItem v (.ref sl)) (EP X y4 U Q) X.xe s
def XR.or{r r':V->Option Int->Option Int->Hp->VK->Prop}(h:XR X r)(h':XR X r'):XR X (λx lo hi H Q=>r x lo hi H Q\/r' x lo hi H Q):=by
 intro y4 s U H x v vl vu lo hi sl Q I rx hs pl pu q;rcases q with q|q
 .exact h y4 s U H x v vl vu lo hi sl Q I rx hs pl pu q
 .exact h' y4 s U H x v vl vu lo hi sl Q I rx hs pl pu q
def S1(r:V->Option Int->Option Int->Hp->VK->Prop)(te:TE)(tl th:TO):TE:=λU H Q=>te U H λx H1=>tl U H1 λl H2=>th U H2 λu H3=>r x l u H3 Q
def mO{r:V->Option Int->Option Int->Hp->VK->Prop}(hr:XR X r)(he:PE X e te)(hl:PO X lo tl)(hu:PO X hi th):PE X (.Subscript e (.Slice lo hi none p2) pos) (S1 r te tl th):=by
 intro y4 s U H Q I h;refine Subscript_ (Z0 (he y4 s U H _ I h) λv s1 ⟨x,H1,I1,r1,q1⟩=>?_);refine wpAny_Slice (Z0 (hl y4 s1 U H1 _ I1 q1) λvl s2 ⟨l,H2,I2,pl,q2⟩=>Z0 (hu y4 s2 U H2 _ I2 q2) λvu s3 ⟨u,H3,I3,pu,q3⟩=>?_);rw[evalPart_none];refine Am ?_;have I4:Inv X y4 U H3 {s3 with heap:=s3.heap.push {cls:=.type "slice",data:=.fields #[vl,vu,.none]}}:=I3.kept (t':=s3.toks) λb ob q=>Ag _ q
 obtain⟨T,id,hT,ht,hg⟩:=hr y4 {s3 with heap:=s3.heap.push {cls:=.type "slice",data:=.fields #[vl,vu,.none]}} U H3 x v vl vu l u s3.heap.objs.size Q I4 r1 (Heap.IsSliceOf.new ..) pl pu q3
 show wpAny (model X.prog X.w) X.A (subscriptTail e (.Slice lo hi none p2) v (.ref s3.heap.objs.size)) (EP X y4 U Q) X.xe {s3 with heap:=s3.heap.push {cls:=.type "slice",data:=.fields #[vl,vu,.none]}}
 exact tail_any (ops:=[.ref s3.heap.objs.size,v]) ht hT hg (by with_unfolding_all rfl)
def mP(xs:List V)(lo hi:Option Int):List V:=(xs.drop (HT.Yl xs.length 0 lo)).take (HT.Yl xs.length xs.length hi-HT.Yl xs.length 0 lo)
def yF(xs:List V)(lo hi:Option Int):(mP xs lo hi).length<=xs.length:=by
 unfold mP;rw[Bt,Ct];omega
end
def XX(n:Nat)(i:Int):Option Nat:=if 0<=i then (if i<n then some i.toNat else none) else if -(n:Int)<=i then some (i+n).toNat else none
def Zc(xs:List α)(i:Int):Option α:=(XX xs.length i).bind λj=>xs[j]?
def SH{i:Int}{j:Nat}(h:XX n i=some j):seqIndex? i n=some j/\j<n/\-(n:Int)<=i/\i<n:=by
 unfold XX at h;by_cases h0:0<=i
 .rw[if_pos h0]at h;by_cases h1:i<n
  .rw[if_pos h1]at h;have e:i.toNat=j:=Bv h
   exact⟨by rw[seqIndex_of h0 h1,e],by omega,by omega,h1⟩
  .rw[if_neg h1]at h;cases h
 .rw[if_neg h0]at h;by_cases h1:-(n:Int)<=i
  .rw[if_pos h1]at h;have e:(i+n).toNat=j:=Bv h
   exact⟨by rw[seqIndex_neg (by omega) h1,e],by omega,h1,by omega⟩
  .rw[if_neg h1]at h;cases h
def uM{xs:List α}{i:Int}{v:α}(h:Zc xs i=some v):∃j,seqIndex? i xs.length=some j/\xs[j]?=some v/\j<xs.length/\-(xs.length:Int)<=i/\i<xs.length:=by
 unfold Zc at h;cases e:XX xs.length i with
 |none=>rw[e]at h;cases h
 |some j=>
  rw[e]at h;obtain⟨h1,h2,h3,h4⟩:=SH e;exact⟨j,h1,h,h2,h3,h4⟩
def fJ{xs:List α}{j:Nat}{v:α}(h:xs[j]?=some v):Zc xs (j:Int)=some v:=by
 have hj:j<xs.length:=(Ad.mp h).1
 have e:XX xs.length (j:Int)=some j:=by
  unfold XX;rw[if_pos (by omega),if_pos (by omega)];simp
 unfold Zc;rw[e];exact h
def Kc(b:Expr):Prop:=∀o i,subscripted b false o i=operate [o,i] (getItem o i)
def X9(X:Cx)(r:R2):Prop:=
 ∀(value slice:Expr) (y4:Q2) (s:Shared) (U:St) (H:Hp) (x y:V) (v u:Value) (Q:VK),Inv X y4 U H s->RelV x v->RelV y u->r x y H Q->
  subscripted slice false v u=operate [v,u] (getItem v u)->wpAny (model X.prog X.w) X.A (subscriptTail value slice v u) (EP X y4 U Q) X.xe s
def Yo(X:Cx)(id:String)(r:V->List V->Hp->VK->Prop):Prop:=
 ∀(y4:Q2) (s:Shared) (U:St) (H:Hp) (x:V) (xs:List V) (v:Value) (us:List Value) (Q:VK),Inv X y4 U H s->RelV x v->Vals xs us->r x xs H Q->
  wpAny (model X.prog X.w) X.A (call (.builtin id) (v::us)) (EP X y4 U Q) X.xe s
section
variable {X:Cx} {a b:Expr} {ta tb:TE} {pos:Pos}
def X9.or{r r':R2}(h:X9 X r)(h':X9 X r'):X9 X (λx y H Q=>r x y H Q\/r' x y H Q):=by
 intro value slice y4 s U H x y v u Q I rx ry q hs;rcases q with q|q
 .exact h value slice y4 s U H x y v u Q I rx ry q hs
 .exact h' value slice y4 s U H x y v u Q I rx ry q hs
def bI{r:R2}(hr:X9 X r)(ha:PE X a ta)(hb:PE X b tb)(hs:Kc b):PE X (.Subscript a b pos) (Wl r ta tb):=by
 intro y4 s U H Q I h;exact Subscript_ (UR ha hb I h λv u s2 x y H2 I2 rx ry q=>hr a b y4 s2 U H2 x y v u Q I2 rx ry q (hs _ _))
def UY(K:W.Frag):R2:=λx y H Q=>∃p xs i v,x=.ref p/\y=.int i/\ZJ K H p xs/\Zc xs i=some v/\Q v H
def RT(K:W.Frag):R2:=λx y H Q=>∃p xs i v,x=.ref p/\y=.int i/\Y9 K H p xs/\Zc xs i=some v/\Q v H
def Sm:R2:=λx y H Q=>∃z i c,x=.str z/\y=.int i/\z.length<=sizeLine/\Zc z.cps.toList i=some c/\Q (.str ⟨#[c]⟩) H
def Ye:X9 X (UY X.K):=by
 intro value slice y4 s U H x y v u Q I rx ry h hs;obtain⟨p,xs,i,z,rfl,rfl,hq,he,q⟩:=h;cases rx;obtain⟨t,rfl⟩:=ry;obtain⟨its,r,pl,hz⟩:=I.list hq;obtain⟨j,h1,h2,h3,h4,h5⟩:=uM he;obtain⟨w,ew,rw'⟩:=r.get h2;have hl:=r.length
 have hn:=jX
 have fin:EP X y4 U Q w s:=⟨z,H,I,rw',q⟩
 by_cases h0:0<=i
 .have hj:i.toNat=j:=by
   rw[seqIndex_of h0 h5]at h1;exact Bv h1
  exact item_listR pl.isList h0 (by omega) (by rw[hj];simpa using ew) fin hs
 .have hj:(i+(its.toArray.size:Int)).toNat=j:=by
   rw[seqIndex_neg (by omega) h4]at h1
   rw[Ay,<-hl];exact Bv h1
  exact subscriptTail_builtinR (x:=w) pl.isList.typeIs slot_list_getitem.lookup
   (wpAny_getItem_list_neg (Q:=λr s'=>r=w/\EP X y4 U Q r s') pl.isList (by omega) (by rw[List.size_toArray]<;>omega) (by omega) (by rw[hj];simpa using ew) ⟨rfl,fin⟩) hs
def W9:X9 X (RT X.K):=by
 intro value slice y4 s U H x y v u Q I rx ry h hs;obtain⟨p,xs,i,z,rfl,rfl,hq,he,q⟩:=h;cases rx;obtain⟨t,rfl⟩:=ry;obtain⟨its,r,pl,hz⟩:=I.tuple hq;obtain⟨j,h1,h2,h3,h4,h5⟩:=uM he;obtain⟨w,ew,rw'⟩:=r.get h2;have hl:=r.length
 have hn:=jX
 have fin:EP X y4 U Q w s:=⟨z,H,I,rw',q⟩
 exact subscriptTail_builtinR (x:=w) pl.typeIs slot_tuple_getitem.lookup
  (getItem_tuple (j:=j) (Q:=λr s'=>r=w/\EP X y4 U Q r s') pl (by omega) (by omega) (by rw[List.size_toArray,<-hl];exact h1) (by simpa using ew) ⟨rfl,fin⟩) hs
def Ln:X9 X Sm:=by
 intro value slice y4 s U H x y v u Q I rx ry h hs;obtain⟨z,i,c,rfl,rfl,hz,he,q⟩:=h;obtain⟨t,rfl⟩:=rx;obtain⟨t',rfl⟩:=ry;obtain⟨j,h1,h2,h3,h4,h5⟩:=uM he;have hl:z.cps.toList.length=z.length:=by simp[Str.length]
 rw[hl]at h1 h4 h5;have hn:=jX
 exact tail_any (typeIs_str s z t) slot_str_getitem.lookup (getItem_str (c:=c) (by
  have e1:decide (i < -(2^63:Int))=false:=Al (by omega)
  have e2:decide (i ≥ 2^63)=false:=Al (by omega)
  rw[e1,e2,Bool.or_false]) (by rw[h1];simpa using h2) ⟨.str ⟨#[c]⟩,H,I.tok _,⟨_,rfl⟩,q⟩) hs
def TX(K:W.Frag):R2:=λx y H Q=>UY K x y H Q\/RT K x y H Q\/Sm x y H Q
def Xc:X9 X (TX X.K):=Ye.or (W9.or Ln)
def Qa(its:List Value)(n j:Nat)(u:Value):Obj.mapSeq (·.setIfInBounds j u) {cls:=.type "list",data:=.seq its.toArray n}={cls:=.type "list",data:=.seq (its.set j u).toArray n}:=by
 simp[Obj.mapSeq]
def Inv.lst{y4:Q2}{U:St}{H:Hp}{s:Shared}{p:Addr}{xs:List V}(I:Inv X y4 U H s)(h:H p=some (.lst xs)):∃(its:List Value) (n:Nat),Vals xs its/\s.heap.get? p=some {cls:=.type "list",data:=.seq its.toArray n}/\xs.length<=sizeLine:=by
 obtain⟨z,its,n,r,e⟩:=I.Z7 p _ h;exact⟨its,n,r,e,z⟩
def Inv.WS{p:Addr}{ys:List V}{its':List Value}{n':Nat}{f:Obj->Obj}(I:Inv X y4 U H s)(h:H p=some (.lst xs))(ho:s.heap.get? p=some {cls:=.type "list",data:=.seq its.toArray n})(hf:f {cls:=.type "list",data:=.seq its.toArray n}={cls:=.type "list",data:=.seq its'.toArray n'})(r:Vals ys its')(hz:ys.length<=sizeLine)(t:Nat):Inv X y4 U (upd H p (.lst ys)) {s with heap:=s.heap.update p f,toks:=t}:=by
 have e:(s.heap.update p f).get? p=some {cls:=.type "list",data:=.seq its'.toArray n'}:=by
  rw[Gd f ho (by rw[hf]<;>rfl),hf]
 refine I.write (x:=p) (e:=p) (by rw[h];trivial) (.inl rfl) (λb u hb q=>(Bp _ _ (Ne.symm hb)).trans q) ⟨_,e⟩ ?_
 exact⟨hz,its',n',r,e⟩
def SM:V->V->V->Hp->(Hp->Prop)->Prop:=λo i v H Q=>∃p xs k j,o=.ref p/\i=.int k/\H p=some (.lst xs)/\XX xs.length k=some j/\Q (upd H p (.lst (xs.set j v)))
def JA:Rq X SM:=by
 intro y4 s U H o i v ov iv u Q I ro ri rv h;obtain⟨p,xs,k,j,rfl,rfl,hp,hj,q⟩:=h;cases ro;obtain⟨t,rfl⟩:=ri;obtain⟨its,n,r,ho,hz⟩:=I.lst hp;obtain⟨h1,h2,h3,h4⟩:=SH hj;have hl:=r.length
 have hn:=jX
 have I':Inv X y4 U (upd H p (.lst (xs.set j v))) {s with heap:=s.heap.update p (Obj.mapSeq (·.setIfInBounds j u))}:=
  I.WS hp ho (Qa its n j u) (r.set rv j) (by rw[Fh];exact hz) s.toks
 by_cases h0:0<=k
 .have hk:k.toNat=j:=by
   rw[seqIndex_of h0 h4]at h1;exact Bv h1
  exact W.ki_setAt ho h0 (by omega) (by rw[Ay,<-hl];exact h4) (by rw[hk];exact⟨_,I',q⟩)
 .have hk:(k+(its.toArray.size:Int)).toNat=j:=by
   rw[seqIndex_neg (by omega) h3]at h1
   rw[Ay,<-hl];exact Bv h1
  exact W.ki_setBack ho (by omega) (by rw[Ay,<-hl];exact h3) (by omega) (by rw[hk];exact⟨_,I',q⟩)
def vE(lo hi:Option Int)(n:Nat):(sliceBounds lo hi none n).1=((HT.Yl n 0 lo:Nat):Int)/\(sliceBounds lo hi none n).2.1=((HT.Yl n n hi:Nat):Int)/\(sliceBounds lo hi none n).2.2=1:=by
 refine⟨?_,?_,rfl⟩
 .cases lo with
  |none=>simp[sliceBounds,HT.Yl]
  |some i=>
   simp only[sliceBounds,HT.Yl,Option.getD_none,show (1:Int)>0 by decide,if_true]
   by_cases h:i<0
   .simp only[h,if_true]<;>omega
   .simp only[h,if_false]<;>omega
 .cases hi with
  |none=>simp[sliceBounds,HT.Yl]
  |some i=>
   simp only[sliceBounds,HT.Yl,Option.getD_none,show (1:Int)>0 by decide,if_true]
   by_cases h:i<0
   .simp only[h,if_true]<;>omega
   .simp only[h,if_false]<;>omega
def sB(its:List Value)(lo hi:Option Int):slicePick its.toArray lo hi none=((its.drop (HT.Yl its.length 0 lo)).take (HT.Yl its.length its.length hi-HT.Yl its.length 0 lo)).toArray:=by
 obtain⟨h1,h2,h3⟩:=vE lo hi its.toArray.size;unfold slicePick;rw[h1,h2,h3];simp only[sliceRange_one,pick_run,List.size_toArray]<;>rfl
def MT(K:W.Frag):V->Option Int->Option Int->Hp->VK->Prop:=λx lo hi H Q=>∃a xs,x=.ref a/\ZJ K H a xs/\∀p,H p=none->Q (.ref p) (upd H p (.lst (mP xs lo hi)))
def Xn:XR X (MT X.K):=by
 intro y4 s U H x v vl vu lo hi sl Q I rx hs pl pu h;obtain⟨a,xs,rfl,hx,q⟩:=h;cases rx;obtain⟨its,r,ht,hz⟩:=I.list hx;have hlen:=r.length
 refine⟨"list",_,slot_list_getitem.lookup,ht.isList.typeIs,?_⟩;refine wpAny_getItem_list_slice ht.isList hs pl pu .none (by simp) ?_ (by rw[List.size_toArray]<;>omega)
 rw[sB,<-hlen];refine⟨.ref s.heap.objs.size,_,I.laid (t':=s.toks) (o:=.lst (mP xs lo hi)) (λb ob q=>Ag _ q) (Ai _) ?_,rfl,q _ (I.Z7.fresh (Ai _))⟩;exact⟨Bd (yF xs lo hi) hz,_,0,(r.drop (HT.Yl xs.length 0 lo)).take (HT.Yl xs.length xs.length hi-HT.Yl xs.length 0 lo),Ax _ rfl⟩
def bR:V->Bool
 |.non=>true
 |.bl _=>true
 |.int _=>true
 |.str _=>true
 |_=>false
def Yb:V->V->Bool
 |.non,.non=>true
 |.bl a,.bl b=>a==b
 |.bl a,.int b=>(if a then 1 else 0)==b
 |.int a,.bl b=>a==(if b then 1 else 0)
 |.int a,.int b=>a==b
 |.str a,.str b=>a==b
 |_,_=>false
def iP{A:Around}{s:Shared}{y:V}{u v:Value}(ry:RelV y u)(rx:RelV x v)(fy:bR y=true)(fx:bR x=true):SeqAt.EqAt A s u v (Yb y x):=by
 cases y with
 |non=>
  cases ry;cases x with
  |non=>cases rx;exact Gb _
  |bl b=>cases rx;exact SeqAt.EqAt.none_bool b
  |int b=>obtain⟨t,rfl⟩:=rx;exact SeqAt.EqAt.none_int b t
  |str b=>obtain⟨t,rfl⟩:=rx;exact SeqAt.EqAt.none_str b t
  |_=>exact absurd (show false=true from fx) An
 |bl a=>
  cases ry;cases x with
  |non=>cases rx;exact SeqAt.EqAt.bool_none a
  |bl b=>cases rx;exact SeqAt.EqAt.bool_bool a b
  |int b=>obtain⟨t,rfl⟩:=rx;exact SeqAt.EqAt.bool_int a b t
  |str b=>obtain⟨t,rfl⟩:=rx;exact SeqAt.EqAt.bool_str a b t
  |_=>exact absurd (show false=true from fx) An
 |int a=>
  obtain⟨t',rfl⟩:=ry;cases x with
  |non=>cases rx;exact SeqAt.EqAt.int_none a t'
  |bl b=>cases rx;exact SeqAt.EqAt.int_bool a t' b
  |int b=>obtain⟨t,rfl⟩:=rx;exact Dv a t' b t
  |str b=>obtain⟨t,rfl⟩:=rx;exact SeqAt.EqAt.int_str a t' b t
  |_=>exact absurd (show false=true from fx) An
 |str a=>
  obtain⟨t',rfl⟩:=ry;cases x with
  |non=>cases rx;exact SeqAt.EqAt.str_none a t'
  |bl b=>cases rx;exact SeqAt.EqAt.str_bool a t' b
  |int b=>obtain⟨t,rfl⟩:=rx;exact SeqAt.EqAt.str_int a t' b t
  |str b=>obtain⟨t,rfl⟩:=rx;exact SeqAt.EqAt.str_str a t' b t
  |_=>exact absurd (show false=true from fx) An
 |_=>exact absurd (show false=true from fy) An
def Ym(x:V)(u:Value):Bool:=match u with
 |.none=>Yb .non x
 |.bool b=>Yb (.bl b) x
 |.int i _=>Yb (.int i) x
 |.str z _=>Yb (.str z) x
 |_=>false
def R5{y:V}{u:Value}(r:RelV y u)(f:bR y=true):Ym x u=Yb y x:=by
 cases y with
 |non=>cases r;rfl
 |bl b=>cases r;rfl
 |int i=>obtain⟨t,rfl⟩:=r;rfl
 |str z=>obtain⟨t,rfl⟩:=r;rfl
 |_=>exact absurd (show false=true from f) An
def nD:∀ {xs:List V} {us:List Value},Vals xs us->xs.all bR=true->us.any (Ym x)=xs.any λy=>Yb y x
 |_,_,.nil,_=>rfl
 |y::xs,u::us,.cons r t,f=>by
  rw[List.all_cons,Fc]at f;rw[Hl,Hl,R5 r f.1,nD t f.2]
def jT{A:Around}{v:Value}(rx:RelV x v)(fx:bR x=true):∀ {xs:List V} {us:List Value},Vals xs us->xs.all bR=true->∀u∈us,SeqAt.EqAt A s u v (Ym x u)
 |_,_,.nil,_=>λu hu=>by cases hu
 |y::xs,u::us,.cons r t,f=>λu' hu=>by
  rw[List.all_cons,Fc]at f;rcases Az.mp hu with rfl|hu
  .rw[R5 r f.1];exact iP r rx f.1 fx
  .exact jT rx fx t f.2 u' hu
def Xx(x:V)(xs:List V):Bool:=xs.any λy=>Yb y x
def Vr(K:W.Frag)(neg:Bool):R2:=λx y H Q=>∃p xs,y=.ref p/\(ZJ K H p xs\/Y9 K H p xs)/\bR x=true/\xs.all bR=true/\Q (.bl (if neg then !Xx x xs else Xx x xs)) H
def XY:ZS X (compareOp .In) (Vr X.K false):=by
 intro y4 s U H x y v u Q I rx ry h;obtain⟨p,xs,rfl,hq,fx,fs,q⟩:=h;cases ry;rcases hq with hq|hq
 .obtain⟨its,r,pl,hz⟩:=I.list hq;refine SeqAt.in_listAt (Ym x) pl.isList (λw hw=>jT rx fx r fs w (by simpa using hw)) ⟨.bl _,H,I,rfl,?_⟩
  rw[show its.toArray.any (Ym x)=its.any (Ym x) by simp,nD r fs]
  exact q
 .obtain⟨its,r,pl,hz⟩:=I.tuple hq;refine SeqAt.in_tupleAt (Ym x) pl (λw hw=>jT rx fx r fs w (by simpa using hw)) ⟨.bl _,H,I,rfl,?_⟩
  rw[show its.toArray.any (Ym x)=its.any (Ym x) by simp,nD r fs]
  exact q
def YL:ZS X (compareOp .NotIn) (Vr X.K true):=by
 intro y4 s U H x y v u Q I rx ry h;obtain⟨p,xs,rfl,hq,fx,fs,q⟩:=h;cases ry;rcases hq with hq|hq
 .obtain⟨its,r,pl,hz⟩:=I.list hq;refine SeqAt.notIn_listAt (Ym x) pl.isList (λw hw=>jT rx fx r fs w (by simpa using hw)) ⟨.bl _,H,I,rfl,?_⟩
  rw[show its.toArray.any (Ym x)=its.any (Ym x) by simp,nD r fs]
  exact q
 .obtain⟨its,r,pl,hz⟩:=I.tuple hq;refine SeqAt.notIn_tupleAt (Ym x) pl (λw hw=>jT rx fx r fs w (by simpa using hw)) ⟨.bl _,H,I,rfl,?_⟩
  rw[show its.toArray.any (Ym x)=its.any (Ym x) by simp,nD r fs]
  exact q
def wG:ZZ X (.builtin "len") (λxs H Q=>∃p ys,xs=[.ref p]/\(ZJ X.K H p ys\/Y9 X.K H p ys)/\Q (.int ys.length) H):=by
 intro y4 s U H xs us Q I r h;obtain⟨p,ys,rfl,hq,q⟩:=h;obtain⟨u,rfl,rx⟩:=eE r;cases rx;have hn:=jX
 rcases hq with hq|hq
 .obtain⟨its,r',pl,hz⟩:=I.list hq;have hlen:=r'.length
  exact Calls.call_len_list pl.isList (by simp only[List.size_toArray]<;>omega) ⟨.int ys.length,H,I.tok _,⟨s.toks+1,by rw[List.size_toArray,hlen]⟩,q⟩
 .obtain⟨its,r',pl,hz⟩:=I.tuple hq;have hlen:=r'.length
  exact len_tuple pl (by simp only[List.size_toArray]<;>omega) ⟨.int ys.length,H,I.tok _,⟨s.toks+1,by rw[List.size_toArray,hlen]⟩,q⟩
def ZZ.or{f:Value}{r r':List V->Hp->VK->Prop}(h:ZZ X f r)(h':ZZ X f r'):ZZ X f (λxs H Q=>r xs H Q\/r' xs H Q):=by
 intro y4 s U H xs us Q I rs q;rcases q with q|q
 .exact h y4 s U H xs us Q I rs q
 .exact h' y4 s U H xs us Q I rs q
def YM:ZZ X (.type "list") (λxs H Q=>∃p ys,xs=[.ref p]/\(ZJ X.K H p ys\/Y9 X.K H p ys)/\∀l,H l=none->Q (.ref l) (upd H l (.lst ys))):=by
 intro y4 s U H xs us Q I r h;obtain ⟨p,ys,rfl,hq,q⟩:=h;obtain ⟨u,rfl,rx⟩:=eE r;cases rx;have fin:∀ (its:List Value),Vals ys its->ys.length<=sizeLine->∀ (h':Heap) (c':Nat),(∀ b o',s.heap.get? b=some o'->h'.get? b=some o')->
     h'.get? s.heap.objs.size=some {cls:=.type "list",dict:=none,data:=.seq its.toArray c',slots:=#[]}->EP X y4 U Q (.ref s.heap.objs.size) {s with heap:=h'}:=λits r' hz h' c' kp e=>
  ⟨.ref s.heap.objs.size,_,I.laid (t':=s.toks) kp (Ai _) (show Z3 X.prog X.w _ h' _ (.lst ys) from⟨hz,its,c',r',e⟩),rfl,q _ (I.Z7.fresh (Ai _))⟩
 rcases hq with hq|hq
 .obtain⟨its,r',pl,hz⟩:=I.list hq;have hlen:=r'.length
  obtain⟨o,ho,hc,n,hd⟩:=pl.isList;exact call_list_seq p (.inl rfl) ho hc hd (λh' c' kp e=>fin its r' hz h' c' kp e) (by simp only[List.size_toArray]<;>omega)
 .obtain⟨its,r',pl,hz⟩:=I.tuple hq;have hlen:=r'.length
  obtain⟨o,ho,hc,n,hd⟩:=pl;exact call_list_seq p (.inr rfl) ho hc hd (λh' c' kp e=>fin its r' hz h' c' kp e) (by simp only[List.size_toArray]<;>omega)
def TQ(K:W.Frag)(T:String)(x:V)(H:Hp):Prop:=match x with
 |.str _=>T="str"
 |.int _=>T="int"
 | .ref p=>(T="list"/\∃ xs,ZJ K H p xs)\/(T="tuple"/\∃ o,K.lookup p=some o/\o.cls=.type "tuple"/\o.dict=none)\/
     (T="dict"/\((∃kvs,H p=some (.dK kvs))\/∃kvs,H p=some (.dT kvs)))\/(T="set"/\∃S n,H p=some (.set S n))
 |_=>False
def QY{T:String}{v:Value}(I:Inv X y4 U H s)(r:RelV x v)(ty:TQ X.K T x H):s.TypeIs v T/\∀a,v=.ref a->∃ob,s.heap.get? a=some ob/\ob.dict=none:=by
 cases x with
 |str z=>
  obtain⟨t,rfl⟩:=r;cases (show T="str" from ty);exact⟨typeIs_str s z t,λ_ e=>nomatch e⟩
 |int i=>
  obtain⟨t,rfl⟩:=r;cases (show T="int" from ty);exact⟨typeIs_int s i t,λ_ e=>nomatch e⟩
 |ref p=>
  cases r;rcases ty with⟨rfl,xs,hq⟩|⟨rfl,o,hk,hc,hd⟩|⟨rfl,hk⟩|⟨rfl,S,n,hk⟩
  .obtain⟨its,_,pl,_⟩:=I.list hq;refine⟨pl.isList.typeIs,λa e=>?_⟩;cases e;obtain⟨o,n,e,c,hd,_⟩:=pl;exact⟨o,e,hd⟩
  .refine⟨⟨o,I.Zn p o hk,hc⟩,λa e=>?_⟩;cases e;exact⟨o,I.Zn _ o hk,hd⟩
  .have z:∃ o,s.heap.get? p=some o/\o.ExactDict:=by
    rcases hk with⟨kvs,hk⟩|⟨kvs,hk⟩
    .obtain⟨_,_,_,_,o,_,_,e,ex,_⟩:=I.Z7 p _ hk;exact⟨o,e,ex⟩
    .obtain⟨_,_,_,_,o,_,_,e,ex,_⟩:=I.Z7 p _ hk;exact⟨o,e,ex⟩
   obtain⟨o,e,ex⟩:=z;refine⟨⟨o,e,ex.1⟩,λa e2=>?_⟩;cases e2;exact⟨o,e,ex.2.1⟩
  .obtain⟨o,_,_,_,e,ex,_⟩:=I.Z7 p _ hk;refine⟨⟨o,e,ex.1⟩,λa e2=>?_⟩;cases e2;exact⟨o,e,ex.2.1⟩
 |_=>exact False.elim ty
variable {o e:Expr} {t:TA} {T:String} {r:V->List V->Hp->VK->Prop}
end
def TM(X:Cx)(id:String)(r:V->List V->Hp->VK->Prop):Prop:=
 ∀(y4:Q2) (s:Shared) (U:St) (H:Hp) (x:V) (xs:List V) (v:Value) (us:List Value) (Q:VK),Inv X y4 U H s->RelV x v->Vals xs us->r x xs H Q->
  wpAny (model X.prog X.w) X.A (call (.builtin id) (v::us)) (EP X y4 U Q) X.xe s
def Vals.one{x:V}{a:List Value}(h:Vals [x] a):∃u,a=[u]/\RelV x u:=by cases h with|cons r t=>cases t;exact⟨_,rfl,r⟩
def Vals.two{x y:V}{a:List Value}(h:Vals [x,y] a):∃u v,a=[u,v]/\RelV x u/\RelV y v:=by cases h with|cons r t=>obtain⟨v,rfl,q⟩:=Vals.one t;exact⟨_,_,rfl,r,q⟩
def Vals.zero:∀ {us:List Value},Vals [] us->us=[]
 |_,.nil=>rfl
def Vals.rep{us:List Value}(h:Vals xs us):∀k:Nat,Vals (List.replicate k xs).flatten (List.replicate k us).flatten
 |0=>.nil
 |k+1=>by
  rw[Ec,Ec,Cd,Cd];exact Vals.append h (Vals.rep h k)
def tK(its:List Value):∀(k:Nat) (acc:List Value),
 List.foldl (λx1 x2=>x1++x2) acc.toArray (List.replicate k its.toArray)=(acc++(List.replicate k its).flatten).toArray
 |0,acc=>by simp
 |k+1,acc=>by
  have e:acc.toArray++its.toArray=(acc++its).toArray:=by simp
  have e2:(acc++its)++(List.replicate k its).flatten=acc++(List.replicate (k+1) its).flatten:=by
   rw[Ec,Cd,List.append_assoc]
  rw[<-e2,<-tK its k (acc++its),<-e,Ec,List.foldl_cons]
section
variable {l:Addr} {ys:List V}
def Inv.V6{its':List Value}{f:Array Value->Array Value}{t':Nat}(I:Inv X y4 U H s)(hH:H l=some (.lst xs))(e:s.heap.get? l=some {cls:=.type "list",data:=.seq its.toArray n})(hf:f its.toArray=its'.toArray)(hv:Vals ys its')(hz:ys.length<=sizeLine):Inv X y4 U (upd H l (.lst ys)) {s with heap:=s.heap.update l (Obj.mapSeq f),toks:=t'}:=by
 have q:=PySem.IsL.update e f
 rw[hf]at q;refine I.write (x:=l) (e:=l) (by rw[hH];exact trivial) (.inl rfl) (λb' u hb hu=>(Bp s.heap (Obj.mapSeq f) (Ne.symm hb)).trans hu) ⟨_,q⟩ ?_
 exact⟨hz,its',_,hv,q⟩
def Inv.W4{its:List Value}{t':Nat}(I:Inv X y4 U H s)(hv:Vals ys its)(hz:ys.length<=sizeLine):Inv X y4 U (upd H s.heap.objs.size (.lst ys)) {s with heap:=s.heap.push {cls:=.type "list",data:=.seq its.toArray},toks:=t'}:=
 I.laid (λ_ _ q=>Ag _ q) (Ai _) ⟨hz,its,0,hv,Ax _ rfl⟩
def Inv.fresh(I:Inv X y4 U H s):H s.heap.objs.size=none:=I.Z7.fresh (Ai _)
def Inv.X7(I:Inv X y4 U H s)(hH:H l=some (.lst xs)):xs.length<=sizeLine/\∃(its:List Value) (n:Nat),Vals xs its/\xs.length=its.length/\s.heap.get? l=some {cls:=.type "list",data:=.seq its.toArray n}:=by
 obtain⟨z,its,n,r,e⟩:=I.Z7 l _ hH;exact⟨z,its,n,r,r.length,e⟩
def xX(h:n<=sizeLine):Builtin.List.listTooLong n=false:=by
 unfold Builtin.List.listTooLong;exact Al (by omega)
end
def Ta:V->List V->Hp->VK->Prop:=λx vs H Q=>∃l xs y,x=.ref l/\vs=[y]/\H l=some (.lst xs)/\xs.length<sizeLine/\Q .non (upd H l (.lst (xs++[y])))
def tZ:TM X "list.append" Ta:=by
 intro y4 s U H x vs v us Q I rx rv h;obtain⟨l,xs,y,rfl,rfl,hH,hz,q⟩:=h;cases rx;obtain⟨u,rfl,ru⟩:=rv.one;obtain⟨z,its,n,r,hl,e⟩:=I.X7 hH;refine call_meets F.slot_list_append ⟨_,e,rfl⟩ F.entry_list_append (F.args_list_append_2 _ _) (PySem.list_append l its.toArray n u (by rw[Ay];omega)) ⟨e,?_⟩
 refine⟨.non,_,I.V6 (its':=its++[u]) hH e (by simp) (r.append (.cons ru .nil)) ?_,rfl,q⟩
 rw[Ak,List.length_singleton];omega
def Us:V->List V->Hp->VK->Prop:=λx vs H Q=>∃l b xs zs,x=.ref l/\vs=[.ref b]/\H l=some (.lst xs)/\H b=some (.lst zs)/\xs.length+zs.length<=sizeLine/\Q .non (upd H l (.lst (xs++zs)))
def KU:TM X "list.extend" Us:=by
 intro y4 s U H x vs v us Q I rx rv h;obtain⟨l,b,xs,zs,rfl,rfl,hH,hB,hz,q⟩:=h;cases rx;obtain⟨u,rfl,ru⟩:=rv.one;cases ru;obtain⟨z,its,n,r,hl,e⟩:=I.X7 hH;obtain⟨z2,its2,n2,r2,hl2,e2⟩:=I.X7 hB;have hsz:its.toArray.size+its2.toArray.size<=sizeLine:=by rw[Ay,Ay];omega
 have hlong:¬(!its.toArray.isEmpty&&Builtin.List.listTooLong (its.toArray.size+its2.toArray.size))=true:=by
  rw[xX hsz,Bool.and_false];exact An
 refine call_meets F.slot_list_extend ⟨_,e,rfl⟩ F.entry_list_extend (F.args_list_extend_2 _ _)
  (AutoSeq1.list_extend_list_list_0 l its.toArray n b its2.toArray n2 hlong (by rw[Ay];omega) (by omega)) ⟨e,e2,?_⟩
 refine⟨.non,_,I.V6 (its':=its++its2) hH e (by simp) (r.append r2) ?_,rfl,q⟩
 rw[Ak];omega
def O8:R2:=λx y H Q=>∃l b xs zs,x=.ref l/\y=.ref b/\H l=some (.lst xs)/\H b=some (.lst zs)/\xs.length+zs.length<=sizeLine/\∀p,H p=none->Q (.ref p) (upd H p (.lst (xs++zs)))
def K2:ZS X (binaryOp .Add) O8:=by
 intro y4 s U H x y v u Q I rx ry h;obtain⟨l,b,xs,zs,rfl,rfl,hH,hB,hz,q⟩:=h;cases rx;cases ry;obtain⟨z,its,n,r,hl,e⟩:=I.X7 hH;obtain⟨z2,its2,n2,r2,hl2,e2⟩:=I.X7 hB;refine PySem.P.add_list e e2 ?_ (by rw[Ay,Ay];omega)
 have ea:its.toArray++its2.toArray=(its++its2).toArray:=by simp
 rw[ea];exact⟨.ref _,_,I.W4 (t':=s.toks) (r.append r2) (by rw[Ak];omega),rfl,q _ I.fresh⟩
def JQ:R2:=λx y H Q=>∃l k xs,x=.ref l/\y=.int k/\H l=some (.lst xs)/\-(2^63)<=k/\k<2^63/\xs.length*k.toNat<=sizeLine/\
 ∀p,H p=none->Q (.ref p) (upd H p (.lst (List.replicate k.toNat xs).flatten))
def LZ(xs:List α)(k:Nat):(List.replicate k xs).flatten.length=k*xs.length:=by
 induction k with
 |zero=>simp
 |succ k ih=>rw[Ec,Cd,Ak,ih,Nat.succ_mul,Nat.add_comm]
def J6:ZS X (binaryOp .Mult) JQ:=by
 intro y4 s U H x y v u Q I rx ry h;obtain⟨l,k,xs,rfl,rfl,hH,h1,h2,hz,q⟩:=h;cases rx;obtain⟨t,rfl⟩:=ry;obtain⟨z,its,n,r,hl,e⟩:=I.X7 hH;have hlen:its.toArray.size*k.toNat<=sizeLine:=by rw[Ay,<-hl];exact hz
 have hcap:¬its.toArray.size*k.toNat>(2^63-1) / 8:=by
  have:(sizeLine:Nat)<=(2^63-1) / 8:=by decide
  omega
 have hfit:¬(!Builtin.List.listFitsIndex k)=true:=by
  rw[fitsIndex_both h1 h2];exact An
 have hlong:¬Builtin.List.listTooLong (its.toArray.size*k.toNat)=true:=by
  rw[xX hlen];exact An
 have hnew:List.foldl (λx1 x2=>x1++x2) #[] (List.replicate (if its.toArray.isEmpty=true then 0 else k.toNat) its.toArray)=(List.replicate k.toNat its).flatten.toArray:=by
  have f0:∀m:Nat,List.foldl (λx1 x2=>x1++x2) #[] (List.replicate m its.toArray)=(List.replicate m its).flatten.toArray:=λm=>by
   have:=tK its m []
   rw[List.nil_append]at this;exact this
  rw[f0];cases its with
  |nil=>simp
  |cons a r'=>rw[if_neg (by simp)]
 refine wpAny_binaryOp_repeat_ref (T := "list") (U := "int") (by decide) ⟨_,e,rfl⟩ (λs'=>typeIs_int s' k t) noFill_list_mul F.fills_int_mul F.slot_int_rmul repeat_list F.slot_int_index.lookup
  (call_meets F.slot_int_rmul (typeIs_int s k t) F.entry_int_rmul (F.args_int_rmul_2 _ _) (int___rmul___int_list k t l its.toArray n)
   ⟨e,rfl,⟨_,e,rfl⟩,call_meets F.slot_list_mul ⟨_,e,rfl⟩ F.entry_list_mul (F.args_list_mul_2 _ _) (AutoListH.list___mul___list_int_3 l its.toArray n k t hfit hcap hlong) ⟨e,?_⟩⟩)
 rw[hnew];exact⟨.ref _,_,I.W4 (t':=s.toks) (r.rep k.toNat) (by rw[LZ,Nat.mul_comm];exact hz),rfl,q _ I.fresh⟩
end L2
namespace Att
open PySem PySem.W PySem.Calls PyProof.Rows
def pU{P:Params}{h:Heap}:∀(ns:List Int) (vs:List Value),WellAll P h vs (ns.map WData.int)->IntsAre vs ns:=by
 intro ns;induction ns with
 |nil=>
  intro vs w;rw[Fz]at w;cases w;exact .nil
 |cons n ns ih=>
  intro vs w;rw[Ar]at w;cases w with
  |cons a b=>
   cases a;exact .cons _ _ (ih _ b)
def OY{l:OpenLaw}{n:Nat}(hn:l.most=some n){P:Params}{h:Heap}{args:List WData}{vals:List Value}(hpre:l.row.toRowW.claim.pre args=true)(hwl:WellAll P h vals args):∃a vs ns,vals=[Value.ref a]/\args=[WData.list (ns.map WData.int)]/\h.get? a=some {cls:=.type "list",data:=.seq vs.toArray}/\IntsAre vs ns/\ns.length<=n:=by
 have hsh:WShape.hasAll [] args [.list .int]=true:=(pre_splitW hpre).1
 have hc:l.pre.holds [] {args:=args}=true:=(pre_splitW hpre).2
 obtain⟨d,r,rfl,h1,h2⟩:=hasAllW_cons hsh;obtain rfl:=hasAllW_nil h2;obtain⟨xs,rfl,h3⟩:=hasW_list h1;obtain⟨ns,rfl⟩:=items_int h3;have hlen:ns.length<=n:=by
  unfold OpenLaw.pre at hc;have h4:(WTm.not (.lt (.lit (.int (n:Int))) (.len (.arg 0)))).holds [] {args:=[.list (ns.map .int)]}=true:=by
   have h4:=(holds_andW hc).1
   rw[hn]at h4;exact h4
  have h5:=condW_of h4 (w_not (w_lt w_lit (w_len_list (w_arg rfl))))
  rw[Ab]at h5;refine Nat.le_of_not_lt λq=>?_;have q':(n:Int)<((ns.length:Nat):Int):=by omega
  first
   |(rw[Ap q']at h5;exact absurd h5 (by decide))
   |(simp at h5;omega)
 cases hwl with
 |cons w1 w2=>
  cases w2;cases w1 with
  |list ho hall=>exact⟨_,_,ns,rfl,rfl,ho,pU ns _ hall,hlen⟩
def LM(l:OpenLaw)(args:List WData):l.row.toRowW.claim.post args (.bool true) args=true:=
 postW_of (r:=l.row.toRowW) (X:=(true==true))
  (show WShape.has [] (.bool true) .bool=true by first|rfl|decide|simp[WShape.has,WShape.arms,WShape.armsAll])
  (show (WTm.eq .res (.lit (.bool true))).value [] {args:=args,res:=some (.bool true),after:=args}=some (.bool (true==true)) from w_eq_bool (w_res rfl) w_lit) rfl
def Yu{l:OpenLaw}{n:Nat}{q:Program}{loose:List Str}{XP:(Q5)->Heap->Prop}{YP:World->Heap->Prop}{d:DefRec}(hn:l.most=some n)(hdf:d.params.defaults=[])(call:∀(w:World) (s₀ s₁:Shared) (mg mb:Q5) (fa:Addr) (o:Obj) (pm cd doc:Value) (a:Addr) (vs:List Value) (ns:List Int),
 Ground q loose [] XP w s₀ mg mb s₁.heap->YP w s₁.heap->
 s₁.heap.get? fa=some o->o.data=.func (docDef d.name d.params d.body d.scope pm cd doc)->s₁.heap.CodeRec cd d.name->mg d.name=some (.ref fa)->
 s₁.heap.get? a=some {cls:=.type "list",data:=.seq vs.toArray}->IntsAre vs ns->ns.length<=n->s₁.gens=#[]->
 codeAny (model l.prog w) callerA (.call (.ref fa) ⟨[.ref a],[]⟩) (λr s'=>r=.ok (.ret (.bool true))/\OldK s₁.heap s'.heap/\s'.os=s₁.os/\AllBare s'.gens) s₁):WalkO q loose XP YP l.row.toRowW d [] (λf vs=>PySem.call f vs):=by
 intro w s₀ s₁ mg mb G Y fa o pm cd doc dV kV ho hd hcd hD hmg hg args vals as hpre hlay hrd hwl hlo;obtain rfl:dV=.none:=Dflts.none hD hdf;obtain rfl:kV=.none:=Dflts.noKw hD;obtain⟨a,vs,ns,rfl,rfl,hobj,hints,hlen⟩:=OY hn hpre hwl;refine enter_call (Fy (call w s₀ s₁ mg mb fa o pm cd doc a vs ns G Y ho (fd_plain hd) hcd hmg hobj hints hlen hg) λr s' hq=>?_);obtain⟨rfl,h2,h3,h4⟩:=hq;exact⟨.inl ⟨.bool true,.bool true,[],rfl,λ_=>rfl,.bool true,LM l _,λ_=>⟨List.Pairwise.nil,λ_ hm=>(nomatch hm)⟩⟩,h2,h3,h4⟩
end Att
namespace L2
open PySem PySem.Spec PyProof.Rows
variable {x:Str}
def uF:∀ {vs:List Value} {ns:List Int},IntsAre vs ns->Vals (ns.map V.int) vs
 |_,_,.nil=>.nil
 |_,_,.cons n t h=>.cons ⟨t,rfl⟩ (uF h)
def gX(s:Stmt):Arguments:=match s with
 |.FunctionDef _ a _ _ _ _ _ _ _ _=>a
 |_=>{posonlyargs:=[],args:=[],vararg:=none,kwonlyargs:=[],kw_defaults:=[],kwarg:=none,defaults:=[]}
def eT(s:Stmt):List Stmt:=match s with
 |.FunctionDef _ _ b _ _ _ _ _ _ _=>b
 |_=>[]
def aJ(s:Stmt):Scope:=match s with
 |.FunctionDef _ _ _ _ _ _ sc _ _ _=>sc
 |_=>{kind:=.function,names:=[],isGenerator:=false,isCoroutine:=false}
abbrev ZO:Yi:=λ_ _ _ _ _ _=>False
abbrev E0:XK:=λ_ _ _=>False
def Jo{X:Cx}:nX ZO X E0:=λ_ _ _ _ _ _ _ h=>h.elim
structure ZR (K:W.Frag) (x qual:Str) (st:Stmt) (f:Addr) (fd:FuncData):Prop where
 ex:∃(oc:Value) (od:Option Addr) (kV doc pm:Value) (an:Option Addr) (cdv ct:Value) (osl:Array (Option Value)),
  fd=W.fnOf x qual (gX st) (eT st) (aJ st) .none kV doc pm an cdv ct/\K.lookup f=some ⟨oc,od,.func fd,osl⟩/\W.codeIn K cdv qual=true
 kp:W.keepIn K (.ref f)=true
section
variable {P:Program} {w:World} {K:W.Frag} {mg:Q5} {base:Heap}
def ZR.ok{qual:Str}{st:Stmt}{f:Addr}{fd:FuncData}{N ps:List Str}{k:Nat}{sp:Sp}(F:ZR K x qual st f fd)(S:Z9 N ps (aJ st))(len:∀vs H Q E,sp vs H Q E->vs.length=ps.length)(hbody:∀(cdv:Value) (A:Around) (outer:List Env) (s:Shared) (H:Hp) (vs:List V) (Q:VK) (E:XK),Z5 k (A.deeper (envOfC qual (aJ st) s.heap.objs.size f cdv))->sp vs H Q E->
 ∃t,YF (fQ ZO P w K mg base N qual (aJ st) f cdv A outer s H E).Xu (eT st) t/\t {nx:=λ_ H'=>Q .non H',rt:=Q} (iQ N vs) H):Z4 P w K mg base ZO (k+1) f fd ps sp:=by
 obtain⟨oc,od,kV,doc,pm,an,cdv,ct,osl,rfl,lk,hcd⟩:=F.ex;refine Ve lk hcd S len λA outer s H vs Q E hr hsp=>?_;obtain⟨t,h,q⟩:=hbody cdv A outer s H vs Q E hr hsp;exact⟨t,h.Xu,q⟩
def ZR.binds{qual:Str}{st:Stmt}{f:Addr}{fd:FuncData}{ps:List Str}(F:ZR K x qual st f fd)(h:∀(kV doc pm:Value) (an:Option Addr) (cdv ct:Value) (us:List Value),us.length=ps.length->bindArgs (W.fnOf x qual (gX st) (eT st) (aJ st) .none kV doc pm an cdv ct) ⟨us,[]⟩=pure (ps.zip us)):Binds K fd ps []:=by
 obtain⟨oc,od,kV,doc,pm,an,cdv,ct,osl,rfl,lk,hcd⟩:=F.ex;exact .all (h kV doc pm an cdv ct)
def uR{qual:Str}{st:Stmt}{f:Addr}{oc:Value}{od an:Option Addr}{osl:Array (Option Value)}{kV doc pm cdv ct:Value}(l:K.lookup f=some ⟨oc,od,.func (W.fnOf x qual (gX st) (eT st) (aJ st) .none kV doc pm an cdv ct),osl⟩)(c:W.codeIn K cdv qual=true)(k:W.keepIn K (.ref f)=true):ZR K x qual st f (W.fnOf x qual (gX st) (eT st) (aJ st) .none kV doc pm an cdv ct):=⟨⟨oc,od,kV,doc,pm,an,cdv,ct,osl,rfl,l,c⟩,k⟩
end
section
variable {X:Cx}
def pv(i:Nat){pos:Pos}(hN:X.N[i]?=some x:=by rfl)(hv:VQ X.env.scope x:=by first|exact Or.inl rfl|exact Or.inr (Or.inl rfl)|exact Or.inr (Or.inr rfl))(hd:(x==("__debug__" : Str))=false:=by decide)(hcd:(x==("__classdict__" : Str))=false:=by decide):PE X (.Name x pos) (Uh i):=Kz hN hv hd hcd
end
def Mq{A B:Prop}(h:B):if false=true then A else B:=by
 rw[if_neg An];exact h
def O0{A B:Prop}(h:A):if true=true then A else B:=by
 rw[if_pos rfl];exact h
def gM{c A B:Prop}[Decidable c](h1:c->A)(h2:¬c->B):if c then A else B:=by
 by_cases h:c
 .rw[if_pos h];exact h1 h
 .rw[if_neg h];exact h2 h
def Z_(H H':Hp):Prop:=∀b o,H b=some o->H' b=some o
def Z_.refl(H:Hp):Z_ H H:=λ_ _ h=>h
def Z_.trans{H H1 H2:Hp}(a:Z_ H H1)(b:Z_ H1 H2):Z_ H H2:=λc o h=>b c o (a c o h)
def Z_.seq{K:W.Frag}{H H':Hp}{a:Addr}{xs:List V}(e:Z_ H H')(h:ZJ K H a xs):ZJ K H' a xs:=by
 rcases h with(h|⟨o,h⟩)|h
 .exact .inl (.inl (e _ _ h))
 .exact .inl (.inr ⟨o,e _ _ h⟩)
 .exact .inr h
end L2
namespace FlT
open PySem PySem.Spec PyProof.Rows
def sU:∀(ys:List Str) (acc:Array Nat),(ys.foldl (λacc p=>acc++(#[]:Array Nat)++p.cps) acc).toList=acc.toList++(ys.map λy=>y.cps.toList).flatten
 |[],acc=>by simp
 |y::r,acc=>by
  rw[List.foldl_cons,sU r];simp
def XC(ys:List Str):(Txt.join ⟨#[]⟩ ys).cps.toList=(ys.map λy=>y.cps.toList).flatten:=by
 cases ys with
 |nil=>rfl
 |cons y r=>
  have e:=sU r y.cps
  rw[Ar,Cd,<-e];rfl
def Xl(x y:Str):(x++y).cps.toList=x.cps.toList++y.cps.toList:=by
 show (x.cps++y.cps).toList=_
 simp
def Yc{x y:Str}(h:x.cps.toList=y.cps.toList):x=y:=by
 obtain⟨⟨x⟩⟩:=x;obtain⟨⟨y⟩⟩:=y;cases h;rfl
end FlT
namespace L2
open PySem PySem.Spec PyProof.Rows
variable {A:Around}{C Pt a b c dx ea f it l q:Addr}{D:Ends}{E:Q0}{H H' H1 Hc Hs:Hp}{K:W.Frag}{M:Model}{N:List Str}{P prog:Program}{Q:VK}{R:It->Hp->Prop}{T newId:String}{X:Cx}{base h h':Heap}{bmB its ks vs:List Value}{cl:List (Str×Addr)}{cpos np pos tp:Pos}{d:Option Addr}{e iter tg:Expr}{elts es ifs:List Expr}{env:Env}{ep i j n t' x1:Nat}{fd:FuncData}{fp ps:List Addr}{fs:List (List V)}{g:TG}{kvs kws:List (Key×V)}{lo:Int}{lt:Nat->Nat->Bool}{m ns:List Int}{mg:Q5}{name qual x z:Str}{neg:Bool}{o oe:Obj}{outer:List Env}{params:Arguments}{y4:Q2}{r:V->List V->Hp->VK->Prop}{s:Shared}{scope:Scope}{sp:Sp}{st:Stmt}{ta:TA}{te tl to tv:TE}{tests:TT}{u:Value}{v y:V}{w:World}{xs ys:List V}{α:Type}
def PE.imp{t t':TE}(h:PE X e t)(i:∀U H Q,t' U H Q->t U H Q):PE X e t':=λy4 s U H Q I q=>h y4 s U H Q I (i U H Q q)
def ZS.imp{f:Value->Value->Sem Value}{r r':R2}(h:ZS X f r)(i:∀x y H Q,r' x y H Q->r x y H Q):ZS X f r':=λy4 s U H x y v u Q I rx ry q=>h y4 s U H x y v u Q I rx ry (i x y H Q q)
def ZZ.imp{f:Value}{r r':List V->Hp->VK->Prop}(h:ZZ X f r)(i:∀xs H Q,r' xs H Q->r xs H Q):ZZ X f r':=λy4 s U H xs us Q I rx q=>h y4 s U H xs us Q I rx (i xs H Q q)
def Yo.imp{id:String}{r r':V->List V->Hp->VK->Prop}(h:Yo X id r)(i:∀x xs H Q,r' x xs H Q->r x xs H Q):Yo X id r':=λy4 s U H x xs v us Q I rx rs q=>h y4 s U H x xs v us Q I rx rs (i x xs H Q q)
def X9.imp{r r':R2}(h:X9 X r)(i:∀x y H Q,r' x y H Q->r x y H Q):X9 X r':=λvalue slice y4 s U H x y v u Q I rx ry q hs=>h value slice y4 s U H x y v u Q I rx ry (i x y H Q q) hs
def XR.imp{r r':V->Option Int->Option Int->Hp->VK->Prop}(h:XR X r)(i:∀x lo hi H Q,r' x lo hi H Q->r x lo hi H Q):XR X r':=λy4 s U H x v vl vu lo hi sl Q I rx hs pl pu q=>h y4 s U H x v vl vu lo hi sl Q I rx hs pl pu (i x lo hi H Q q)
def Xv(z:Str):It:=⟨λi _=>i<z.cps.size,λi H x H'=>H'=H/\∃c,z.cps[i]?=some c/\x=.str ⟨#[c]⟩,λi _=>z.cps.size<=i⟩
def JG(z:Str)(t:Tok)(it:Addr):Turn P w K tg (Xv z) [it] it (λi h=>h.IsStrIter it "str_ascii_iterator" z t i) where
 mem:=by simp
 obj:=λi h st b hb=>by
  have e:b=it:=by simpa using hb
  subst e;obtain⟨o,e,c,d⟩:=st;exact⟨o,e,λv z=>by rw[d]at z;cases z⟩
 keep:=λi h h' st k=>let ⟨o,ho,r⟩:=st;⟨o,k it (by simp) o ho,r⟩
 item:=by
  intro X hP hw hK hc i y4 s U H E I hf st hg;subst hP hw hK;obtain⟨f0,f1,f2,f3,f4,f5⟩:=hf it (by simp)
  have hi:i<z.cps.size:=hg
  refine wpAny_pyNext_ascii_item st (c:=z.cps[i]) (by simp[hi]) λh' st' sb=>?_
  have I1:Inv X y4 U H {s with heap:=h',toks:=s.toks+1}:=I.turned (λb o hb e=>(sb.2 b hb).trans e) f0 f1 f3 f4 f5
  obtain⟨o,e,c,d⟩:=id st';exact⟨_,rfl,uE (s:={s with heap:=h',toks:=s.toks+1}) e c d (by decide) ⟨.str ⟨#[z.cps[i]]⟩,H,I1,⟨_,rfl⟩,⟨rfl,_,by simp[hi],rfl⟩,st',λb hb=>(hf b hb).1⟩⟩
 done:=by
  intro X hP hw hK hc i y4 s U H E I hf st hg;subst hP hw hK;obtain⟨f0,f1,f2,f3,f4,f5⟩:=hf it (by simp)
  have hi:z.cps.size<=i:=hg
  exact wpAny_pyNext_ascii_end (I.ok.hd hc) st (by simp[hi]) λh' eb=>⟨rfl,I.turned (t':=s.toks) (λb o hb e=>eb b o hb e) f0 f1 f3 f4 f5⟩
 self:=λ_ _ _ _ _ st h=>wpAny_pyIter_striter_ascii st h
def LU(z:Str)(t:Tok)(it:Addr):Turn P w K tg (Xv z) [it] it (λi h=>h.IsStrIter it "str_iterator" z t i) where
 mem:=by simp
 obj:=λi h st b hb=>by
  have e:b=it:=by simpa using hb
  subst e;obtain⟨o,e,c,d⟩:=st;exact⟨o,e,λv z=>by rw[d]at z;cases z⟩
 keep:=λi h h' st k=>let ⟨o,ho,r⟩:=st;⟨o,k it (by simp) o ho,r⟩
 item:=by
  intro X hP hw hK hc i y4 s U H E I hf st hg;subst hP hw hK;obtain⟨f0,f1,f2,f3,f4,f5⟩:=hf it (by simp)
  have hi:i<z.cps.size:=hg
  refine wpAny_pyNext_wide_item st (c:=z.cps[i]) (by simp[hi]) λh' st' sb=>?_
  have I1:Inv X y4 U H {s with heap:=h',toks:=s.toks+1}:=I.turned (λb o hb e=>(sb.2 b hb).trans e) f0 f1 f3 f4 f5
  obtain⟨o,e,c,d⟩:=id st';exact⟨_,rfl,uE (s:={s with heap:=h',toks:=s.toks+1}) e c d (by decide) ⟨.str ⟨#[z.cps[i]]⟩,H,I1,⟨_,rfl⟩,⟨rfl,_,by simp[hi],rfl⟩,st',λb hb=>(hf b hb).1⟩⟩
 done:=by
  intro X hP hw hK hc i y4 s U H E I hf st hg;subst hP hw hK;obtain⟨f0,f1,f2,f3,f4,f5⟩:=hf it (by simp)
  have hi:z.cps.size<=i:=hg
  exact wpAny_pyNext_wide_end (I.ok.hd hc) st (by simp[hi]) λh' eb=>⟨rfl,I.turned (t':=s.toks) (λb o hb e=>eb b o hb e) f0 f1 f3 f4 f5⟩
 self:=λ_ _ _ _ _ st h=>wpAny_pyIter_striter_wide st h
def Ng{tb:TS}{U:St}(Pv:Nat->St->Hp->Prop)(h0:Pv 0 U H)(hs:∀i c U H,z.cps.toList[i]?=some c->Pv i U H->g (.str ⟨#[c]⟩) U H λU2 H2=>tb {D with nx:=Pv (i+1),ct:=Pv (i+1),bk:=D.nx} U2 H2)(hd:∀U H,Pv z.cps.toList.length U H->D.nx U H):∃W:Nat->Nat->St->Hp->Prop,(∃m,W 0 m U H)/\∀i m U H,W i m U H->
 ((Xv z).stop i H/\D.nx U H)\/((Xv z).go i H/\∃N:St->Hp->Prop,(∀U' H',N U' H'->∃m',m' < m/\W (i+1) m' U' H')/\∀x H',(Xv z).Xs i H x H'->g x U H' λU2 H2=>tb {D with nx:=N,ct:=N,bk:=D.nx} U2 H2):=by
 have hl:z.cps.toList.length=z.cps.size:=by simp
 rw[hl]at hd;refine⟨λi m U H=>m=z.cps.size-i/\i<=z.cps.size/\Pv i U H,⟨z.cps.size,by simp,Nat.zero_le _,h0⟩,?_⟩
 rintro i m U H ⟨rfl,hi,p⟩;by_cases hlt:i<z.cps.size
 .refine .inr ⟨hlt,Pv (i+1),λU' H' p'=>⟨z.cps.size-(i+1),by omega,rfl,hlt,p'⟩,λx H' y=>?_⟩
  obtain⟨e,c,hc,hx⟩:=y;subst e hx;exact hs i c U _ (by simpa using hc) p
 .have e:i=z.cps.size:=by omega
  subst e;exact .inl ⟨Ai _,hd U H p⟩
section
variable {b:Expr}
def Kd:V->Option Int->Option Int->Hp->VK->Prop:=λx lo hi H Q=>∃z,x=.str z/\z.length<=sizeLine/\Q (.str (Txt.slice z lo hi)) H
def Ov:XR X Kd:=by
 intro y4 s U H x v vl vu lo hi sl Q I rx hs pl pu h;obtain⟨z,rfl,hz,q⟩:=h;obtain⟨t,rfl⟩:=rx;refine⟨"str",_,PySem.F.slot_str_getitem.lookup,typeIs_str _ _ _,?_⟩;cases pl with
 |none=>
  cases pu with
  |none=>exact Fm (l:=none) (u:=none) (st:=none) hs rfl (post_val_or_str ⟨Bd (Txt.slice_le z _ _) hz,λt' k=>⟨.str (Txt.slice z none none),H,I.tok _,⟨_,rfl⟩,q⟩⟩)
  |int j uj=>exact Fm (l:=none) (u:=some (j,uj)) (st:=none) hs rfl (post_val_or_str ⟨Bd (Txt.slice_le z _ _) hz,λt' k=>⟨.str (Txt.slice z none (some j)),H,I.tok _,⟨_,rfl⟩,q⟩⟩)
 |int i ui=>
  cases pu with
  |none=>exact Fm (l:=some (i,ui)) (u:=none) (st:=none) hs rfl (post_val_or_str ⟨Bd (Txt.slice_le z _ _) hz,λt' k=>⟨.str (Txt.slice z (some i) none),H,I.tok _,⟨_,rfl⟩,q⟩⟩)
  |int j uj=>exact Fm (l:=some (i,ui)) (u:=some (j,uj)) (st:=none) hs rfl (post_val_or_str ⟨Bd (Txt.slice_le z _ _) hz,λt' k=>⟨.str (Txt.slice z (some i) (some j)),H,I.tok _,⟨_,rfl⟩,q⟩⟩)
def J1:V->List V->Hp->VK->Prop:=λx vs H Q=>∃z y i rest,x=.str z/\vs=[.str y]/\Builtin.Str.occurrences z y 0 z.length 1=i::rest/\Q (.int ((i:Nat):Int)) H
def XI:Yo X "str.index" J1:=by
 intro y4 s U H x vs v us Q I rx rv h;obtain⟨z,y,i,rest,rfl,rfl,ho,q⟩:=h;obtain⟨t,rfl⟩:=rx;obtain⟨u,rfl,ru⟩:=rv.one;obtain⟨t',rfl⟩:=ru;exact SC.index ho ⟨.int i,H,I.tok _,⟨_,rfl⟩,q⟩
def Mw{ys:List Str}:∀ {us:List Value},Vals (ys.map V.str) us->StrsAre us ys:=by
 induction ys with
 |nil=>intro us r;rw[Fz]at r;cases r;exact .nil
 |cons n ns ih=>
  intro us r;rw[Ar]at r;cases r with
  |cons r1 r2=>
   obtain⟨t,e⟩:=r1;subst e;exact .cons n t (ih r2)
def Lo(K:W.Frag):V->List V->Hp->VK->Prop:=λx vs H Q=>∃z p ys,x=.str z/\vs=[.ref p]/\ZJ K H p (ys.map V.str)/\(ys.map (·.length)).sum+ys.length*z.length<=16777216/\Q (.str (Txt.join z ys)) H
def Xq:Yo X "str.join" (Lo X.K):=by
 intro y4 s U H x vs v us Q I rx rv h;obtain⟨z,p,ys,rfl,rfl,hp,hz,q⟩:=h;obtain⟨t,rfl⟩:=rx;obtain⟨u,rfl,ru⟩:=rv.one;cases ru;obtain⟨its,r,pl,_⟩:=I.list hp;exact join_list pl.isList (by simpa using Mw r) hz λt' k=>⟨.str (Txt.join z ys),H,I.tok _,⟨_,rfl⟩,q⟩
def sL:ZZ X (.type "int") (λxs H Q=>∃x n,xs=[.str x]/\PySem.intText? x=some n/\x.length<=640/\Q (.int n) H):=by
 intro y4 s U H xs us Q I r h;obtain⟨x,n,rfl,hn,hl,q⟩:=h;obtain⟨u,rfl,t,rfl⟩:=eE r;exact W.KIN.call_text hn hl ⟨.int n,H,I.tok _,⟨_,rfl⟩,q⟩
def YB:ZZ X (.builtin "isinstance") (λxs H Q=>∃x T t b,xs=[x,.ty T]/\Zf X.K H x t/\W.kitOne X.K t (.type T)=some b/\Q (.bl b) H):=by
 intro y4 s U H xs us Q I r h;obtain⟨x,T,t,b,rfl,ty,e,q⟩:=h;obtain⟨u,w',rfl,rx,ry⟩:=sT r;cases (show w'=Value.type T from ry);exact M6 I rx ty e λtk=>⟨.bl b,H,I.tok _,rfl,q⟩
def wR{bs:List Bool}:∀ {us:List Value},Vals (bs.map V.bl) us->LSm.BoolsAre us bs:=by
 induction bs with
 |nil=>intro us r;rw[Fz]at r;cases r;exact .nil
 |cons n ns ih=>
  intro us r;rw[Ar]at r;cases r with
  |cons r1 r2=>
   cases r1;exact .cons n (ih r2)
def rY(hc:X.calm=true):ZZ X (.builtin "all") (λxs H Q=>∃(p:Addr) (bs:List Bool),xs=[.ref p]/\ZJ X.K H p (bs.map V.bl)/\Q (.bl (bs.all id)) H):=by
 intro y4 s U H xs us Q I r h;obtain⟨p,bs,rfl,hp,q⟩:=h;obtain⟨u,rfl,ru⟩:=eE r;cases ru;obtain⟨its,rv,pl,hz⟩:=I.list hp;have hb:=wR rv
 have hl:=pl.isList
 have hlt:p<s.heap.objs.size:=by obtain⟨_,e,_⟩:=hl;exact As e
 refine call_all_walk (Et hl ?_);refine⟨s.heap.objs.size,[s.heap.objs.size,p],[s.heap.objs.size],its.toArray.size,_,_,λi=>(bs[i]?).getD true,rfl,Walks.list (A:=X.A.in1) (I.ok.hd hc) _ p (Bj hlt) its.toArray,
  ⟨⟨_,Ax _ rfl,rfl,rfl⟩,hl.push _⟩,λi v s' Q' E' hP hQ=>?_,λh' tk hk=>?_⟩
 .obtain⟨b,e,rfl⟩:=hb.get i v (by simpa using hP)
  simp only[e,Option.getD_some]at hQ;exact Er hQ
 .have e:((List.range its.toArray.size).all λi=>(bs[i]?).getD true)=bs.all id:=by
   rw[Ay,hb.length];exact LSm.range_all bs
  rw[e];exact⟨.bl (bs.all id),H,I.kept (LSm.kept_iter hk),rfl,q⟩
def jP(xs ys:List V):Bool:=xs.length==ys.length&&(List.range xs.length).all λj=>Yb (xs.getD j .non) (ys.getD j .non)
def Vals.Zl{us:List Value}(r:Vals xs us)(h:j<us.length):RelV (xs.getD j .non) us[j]:=by
 have hl:=r.length
 have hx:j<xs.length:=by omega
 obtain⟨u,hu,ru⟩:=r.get (Aa hx);rw[Aa h]at hu;cases hu;rw[Ac,Aa hx];exact ru
def fN(h:xs.all bR=true)(j:Nat):bR (xs.getD j .non)=true:=by
 rw[Ac];cases e:xs[j]? with
 |none=>rfl
 |some x=>exact Ci.mp h x (Ah e)
def UW(K:W.Frag)(neg:Bool):R2:=λx y H Q=>∃p q xs ys,x=.ref p/\y=.ref q/\ZJ K H p xs/\ZJ K H q ys/\xs.all bR=true/\ys.all bR=true/\Q (.bl (if neg then !jP xs ys else jP xs ys)) H
def xH(h:xs.length≠ys.length):jP xs ys=false:=by
 unfold jP;rw[Ea.mpr h,Bool.false_and]
def kI(h:xs.length=ys.length):jP xs ys=(List.range xs.length).all λj=>Yb (xs.getD j .non) (ys.getD j .non):=by
 unfold jP;rw[h,Fn,Bool.true_and]
def Ow(hu:X.A.units<cLine):ZS X (compareOp .Eq) (UW X.K false):=by
 intro y4 s U H x y v u Q I rx ry h;obtain⟨p,q,xs,ys,rfl,rfl,hp,hq,fx,fy,k⟩:=h;cases rx;cases ry;obtain⟨its,r1,l1,_⟩:=I.list hp;obtain⟨its2,r2,l2,_⟩:=I.list hq;have e1:=r1.length
 have e2:=r2.length
 by_cases hl:xs.length=ys.length
 .refine SeqAt.eq_listAt (e:=λj=>Yb (xs.getD j .non) (ys.getD j .non)) l1.isList l2.isList (by simp only[List.size_toArray];omega) hu (λj h1 h2=>?_) ?_
  .have h1':j<its.length:=by simpa using h1
   have h2':j<its2.length:=by simpa using h2
   simpa using iP (A:=X.A.in1) (s:=s) (r1.Zl h1') (r2.Zl h2') (fN fx j) (fN fy j)
  .refine⟨.bl (jP xs ys),H,I,?_,k⟩;rw[kI hl];simp only[List.size_toArray,<-e1];rfl
 .refine SeqAt.eq_list_lengthsAt l1.isList l2.isList (by simp only[List.size_toArray,bne_iff_ne];omega) hu ⟨.bl (jP xs ys),H,I,?_,k⟩
  rw[xH hl];rfl
def JU(hu:X.A.units<cLine):ZS X (compareOp .NotEq) (UW X.K true):=by
 intro y4 s U H x y v u Q I rx ry h;obtain⟨p,q,xs,ys,rfl,rfl,hp,hq,fx,fy,k⟩:=h;cases rx;cases ry;obtain⟨its,r1,l1,_⟩:=I.list hp;obtain⟨its2,r2,l2,_⟩:=I.list hq;have e1:=r1.length
 have e2:=r2.length
 by_cases hl:xs.length=ys.length
 .refine SeqAt.RcNeAt.lists (e:=λj=>Yb (xs.getD j .non) (ys.getD j .non)) l1.isList l2.isList (by simp only[List.size_toArray];omega) hu (λj h1 h2=>?_) X.prog X.w _ _ ?_
  .have h1':j<its.length:=by simpa using h1
   have h2':j<its2.length:=by simpa using h2
   simpa using iP (A:=X.A.in1) (s:=s) (r1.Zl h1') (r2.Zl h2') (fN fx j) (fN fy j)
  .refine⟨.bl (!jP xs ys),H,I,?_,k⟩;rw[kI hl];simp only[List.size_toArray,<-e1];rfl
 .refine SeqAt.RcNeAt.lists_lengths l1.isList l2.isList (by simp only[List.size_toArray,bne_iff_ne];omega) hu X.prog X.w _ _ ⟨.bl (!jP xs ys),H,I,?_,k⟩
  rw[xH hl];rfl
end
def RI:Option HO->Option (List V)
 |some (.lst xs)=>some xs
 |some (.frz _ (.lst xs))=>some xs
 |_=>none
def Z8(H:Hp)(a:Addr):Option (List V):=RI (H a)
def aT(h:Z8 H a=some xs):ZJ K H a xs:=by
 unfold Z8 RI at h;split at h
 .cases h;exact .inl (.inl (by assumption))
 .cases h;exact .inl (.inr ⟨_,by assumption⟩)
 .cases h
def aL(h:H a=some (.lst xs)):Z8 H a=some xs:=by unfold Z8;rw[h];rfl
def dA:Z8 (upd H a (.lst xs)) a=some xs:=aL aD
def U4{o:HO}(h:b≠a):Z8 (upd H a o) b=Z8 H b:=by unfold Z8;rw[aI h]
def aG{H:Hp}(e:Z_ H H')(h:Z8 H a=some xs):Z8 H' a=some xs:=by
 unfold Z8 at h ⊢;cases q:H a with
 |none=>rw[q]at h;cases h
 |some o=>rw[e a o q,<-q];exact h
def aF{p:Addr}(h:H p=none)(o:HO):Z_ H (upd H p o):=λb u q=>by rw[aI (bM q h)];exact q
def gL(H:Hp)(a:Addr):Option (List V):=match H a with|some (.lst xs)=>some xs|_=>none
def aZ(h:H a=some (.lst xs)):gL H a=some xs:=by unfold gL;rw[h]
def kG(h:gL H a=some xs):H a=some (.lst xs):=by
 unfold gL at h;split at h
 .cases h;assumption
 .cases h
def oF:gL (upd H a (.lst xs)) a=some xs:=aZ aD
def OS{o:HO}(h:b≠a):gL (upd H a o) b=gL H b:=by unfold gL;rw[aI h]
def kN(H:Hp)(a:Addr):Option (List V):=match H a with|some (.tup xs)=>some xs|_=>none
def eU(h:H a=some (.tup xs)):kN H a=some xs:=by unfold kN;rw[h]
def fZ(h:kN H a=some xs):H a=some (.tup xs):=by
 unfold kN at h;split at h
 .cases h;assumption
 .cases h
def oG:kN (upd H a (.tup xs)) a=some xs:=eU aD
section
variable {a b c:Expr} {ta tb:TE}
def VO(i:Nat):TE:=λU H Q=>match U[i]? with|some (some v)=>Q v H|_=>False
def mv(i:Nat)(hN:X.N[i]?=some x:=by rfl)(hv:VQ X.env.scope x:=by first|exact Or.inl rfl|exact Or.inr (Or.inl rfl)|exact Or.inr (Or.inr rfl))(hd:(x==("__debug__" : Str))=false:=by decide)(hcd:(x==("__classdict__" : Str))=false:=by decide):PE X (.Name x pos) (VO i):=(pv i hN hv hd hcd).imp λU H Q q=>by
 unfold VO at q;split at q
 .exact⟨_,by assumption,q⟩
 .exact q.elim
def mI(g:Int->Int->V):R2:=λx y H Q=>match x,y with|.int i,.int j=>Q (g i j) H|_,_=>False
def UH{g:Int->Int->V}{x:V}(q:mI g x y H Q):WJ g x y H Q:=by
 unfold mI at q;split at q
 .exact⟨_,_,rfl,rfl,q⟩
 .exact q.elim
def WA(C:Int->Int->Prop)(g:Int->Int->V):R2:=λx y H Q=>match x,y with|.int i,.int j=>C i j/\Q (g i j) H|_,_=>False
def vR{C:Int->Int->Prop}{g:Int->Int->V}{x:V}(q:WA C g x y H Q):rI C g x y H Q:=by
 unfold WA at q;split at q
 .exact⟨_,_,rfl,rfl,q.1,q.2⟩
 .exact q.elim
def WI:R2:=λx y H Q=>match x,y with
 |.int i,.int j=>Q (.int (i+j)) H
 |.str z,.str y=>z.length+y.length<=sizeLine/\Q (.str (z++y)) H
 |.ref p,.ref q=>(match gL H p,gL H q with
  |some xs,some zs=>xs.length+zs.length<=sizeLine/\∀r,H r=none->Q (.ref r) (upd H r (.lst (xs++zs)))
  |_,_=>False)
 |_,_=>False
def bS:ZS X (binaryOp .Add) WI:=by
 intro y4 s U H x y v u Q I rx ry q;unfold WI at q;split at q
 .exact Le y4 s U H _ _ v u Q I rx ry ⟨_,_,rfl,rfl,q⟩
 .exact KD y4 s U H _ _ v u Q I rx ry ⟨_,_,rfl,rfl,q.1,q.2⟩
 .split at q
  .exact K2 y4 s U H _ _ v u Q I rx ry ⟨_,_,_,_,rfl,rfl,kG (by assumption),kG (by assumption),q.1,q.2⟩
  .exact q.elim
 .exact q.elim
def kQ:ZS X (binaryOp .Sub) (mI λi j=>.int (i-j)):=WL.imp λ_ _ _ _ q=>UH q
def VC:ZS X (binaryOp .Mult) (WA Xk λi j=>.int (i*j)):=WX.imp λ_ _ _ _ q=>vR q
def iY:ZS X (binaryOp .Mod) (WA (λ_ j=>0<j) λi j=>.int (i%j)):=Xb.imp λ_ _ _ _ q=>vR q
def uP:ZS X (binaryOp .FloorDiv) (WA Tn λi j=>.int (i / j)):=Xm.imp λ_ _ _ _ q=>vR q
def Wv:ZS X (compareOp .Lt) (mI λi j=>.bl (decide (i<j))):=Wb.imp λ_ _ _ _ q=>UH q
def Wc:ZS X (compareOp .Gt) (mI λi j=>.bl (decide (j<i))):=V8.imp λ_ _ _ _ q=>UH q
def UB:V->Hp->VK->Prop:=λx H Q=>match x with|.int i=>Q (.int (-i)) H|_=>False
def S9:VF X (unaryOp .USub) UB:=λy4 s U H x v Q I rx q=>by
 unfold UB at q;split at q
 .exact QW y4 s U H _ v Q I rx ⟨_,rfl,q⟩
 .exact q.elim
def Ux:R2:=λx y H Q=>VM x y=true/\Q (.bl (decide (x=y))) H
def sM:ZS X (compareOp .Eq) Ux:=N_
def RL:R2:=λx y H Q=>VM x y=true/\Q (.bl (!decide (x=y))) H
def Wz:ZS X (compareOp .NotEq) RL:=LH
def W5(neg:Bool):R2:=λx y H Q=>match x,y with
 |.ref p,.ref q=>(match Z8 H p,Z8 H q with
  |some xs,some ys=>xs.all bR=true/\ys.all bR=true/\Q (.bl (if neg then !jP xs ys else jP xs ys)) H
  |_,_=>False)
 |_,_=>False
def wL{x:V}(q:W5 neg x y H Q):UW K neg x y H Q:=by
 unfold W5 at q;split at q
 .split at q
  .exact⟨_,_,_,_,rfl,rfl,aT (by assumption),aT (by assumption),q.1,q.2.1,q.2.2⟩
  .exact q.elim
 .exact q.elim
def TL(hu:X.A.units<cLine):ZS X (compareOp .Eq) (W5 false):=(Ow hu).imp λ_ _ _ _ q=>wL q
def RU(hu:X.A.units<cLine):ZS X (compareOp .NotEq) (W5 true):=(JU hu).imp λ_ _ _ _ q=>wL q
def Vq:R2:=λx y H Q=>match y with|.non=>Q (.bl (decide (x=.non))) H|_=>False
def yT:ZS X (compareOp .Is) Vq:=W7.imp λ_ y _ _ q=>by
 unfold Vq at q;split at q
 .exact⟨rfl,q⟩
 .exact q.elim
def UT:R2:=λx y H Q=>match y with|.non=>Q (.bl (!decide (x=.non))) H|_=>False
def vT:ZS X (compareOp .IsNot) UT:=Xr.imp λ_ y _ _ q=>by
 unfold UT at q;split at q
 .exact⟨rfl,q⟩
 .exact q.elim
def subIn(y x:Str):Bool:=!(Builtin.Str.occurrences x y 0 x.length 1).isEmpty
def uD(x:Str)(c:Nat):subIn ⟨#[c]⟩ x=decide (c∈x.cps.toList):=PySem.StrLaws.found_one x c
def Vt(neg:Bool):R2:=λx y H Q=>match x,y with|.str i,.str j=>Q (.bl (if neg then !subIn i j else subIn i j)) H|_,_=>False
def Vw:ZS X (compareOp .In) (Vt false):=X6.imp λ_ _ _ _ q=>by
 unfold Vt at q;split at q
 .exact⟨_,_,rfl,rfl,q⟩
 .exact q.elim
def Wy(neg:Bool):R2:=λx y H Q=>match y with
 |.ref p=>(match Z8 H p with|some xs=>bR x=true/\xs.all bR=true/\Q (.bl (if neg then !Xx x xs else Xx x xs)) H|none=>False)
 |_=>False
def yL{x:V}(q:Wy neg x y H Q):Vr K neg x y H Q:=by
 unfold Wy at q;split at q
 .split at q
  .exact⟨_,_,rfl,.inl (aT (by assumption)),q.1,q.2.1,q.2.2⟩
  .exact q.elim
 .exact q.elim
def Vo:ZS X (compareOp .In) (Wy false):=XY.imp λ_ _ _ _ q=>yL q
def rQ:ZS X (compareOp .NotIn) (Wy true):=YL.imp λ_ _ _ _ q=>yL q
def mB(Q:Bool->Hp->Prop):VK:=λx H=>match x with|.bl k=>Q k H|_=>False
def SN{Q:Bool->Hp->Prop}{x:V}(q:mB Q x H):∃k,x=.bl k/\Q k H:=by
 unfold mB at q;split at q
 .exact⟨_,rfl,q⟩
 .exact q.elim
def SV(t:TE):TT:=λU H Q=>t U H (mB Q)
def aW{op:CmpOp}{r:R2}(ho:ZS X (compareOp op) r)(ha:PE X a ta)(hb:PE X b tb)(hm:behindInMarks op b=false):PT X (.Compare a [op] [b] pos) (SV (Wl r ta tb)):=by
 intro y4 s U H Q I h;refine wpAny_isTrue_Compare1 (Z0 (ha y4 s U H _ I h) λv s1 ⟨x,H1,I1,r1,q1⟩=>Z0 (hb y4 s1 U H1 _ I1 q1) λu s2 ⟨y,H2,I2,r2,q2⟩=>
  Z0 (ho y4 s2 U H2 x y v u _ I2 r1 r2 q2) λc s3 ⟨z,H3,I3,r3,q⟩=>?_) hm
 obtain⟨k,e,q3⟩:=SN q;subst e;cases r3;exact Er ⟨H3,I3,q3⟩
def Wn(Q:Bool->Hp->Prop):VK:=λx H=>match x with
 |.non=>Q false H
 |.bl k=>Q k H
 |.int i=>Q (i != 0) H
 |.str y=>y.length<=sizeLine/\Q ((y.length:Int) != 0) H
 |.ref p=>(match Z8 H p with
  |some xs=>Q (!xs.isEmpty) H
  |none=>(match H p with|some (.dK kvs)=>Q (!kvs.isEmpty) H|_=>False))
 |_=>False
def O7{Q:Bool->Hp->Prop}{x:V}(q:Wn Q x H):∃k,Uo K x H k/\Q k H:=by
 unfold Wn at q;split at q
 .exact⟨_,rfl,q⟩
 .exact⟨_,rfl,q⟩
 .exact⟨_,rfl,q⟩
 .exact⟨_,⟨q.1,rfl⟩,q.2⟩
 .split at q
  .exact⟨_,.inl ⟨_,aT (by assumption),rfl⟩,q⟩
  .split at q
   .exact⟨_,.inr (.inr ⟨_,by assumption,rfl⟩),q⟩
   .exact q.elim
 .exact q.elim
def Uj(t:TE):TT:=λU H Q=>t U H (Wn Q)
def cB(ha:PE X a ta)(he:∀whole,isTrue a X.env whole=(do let v <-whole;standAt a.pos;holding [v] (truthy v)):=by intro _;rfl):PT X a (Uj ta):=by
 intro y4 s U H Q I h;refine isTrue_plain (Z0 (ha y4 s U H _ I h) λv s1 ⟨x,H1,I1,r1,q1⟩=>uW y4 s1 U H1 x v Q I1 r1 (O7 q1)) (he _)
variable {rest:List Expr}
def RN(ta tb:TE):TE:=λU H Q=>ta U H (mB λc H1=>if c=true then tb U H1 Q else Q (.bl false) H1)
def Qv(ha:PE X a ta)(hb:PE X (.BoolOp .And (b::rest) pos) tb):PE X (.BoolOp .And (a::b::rest) pos) (RN ta tb):=by
 intro y4 s U H Q I h;refine BoolOp_and (Z0 (ha y4 s U H _ I h) λv s1 ⟨x,H1,I1,r1,q1⟩=>?_);obtain⟨c,rfl,q1⟩:=SN q1;cases r1;refine Er ?_;cases c with
 |true=>exact hb y4 s1 U H1 Q I1 q1
 |false=>exact⟨.bl false,H1,I1,rfl,q1⟩
def Xp:R2:=λx y H Q=>match x,y with
 |.str z,.int i=>z.length<=sizeLine/\(match Zc z.cps.toList i with|some c=>Q (.str ⟨#[c]⟩) H|none=>False)
 |.ref p,.int i=>(match Z8 H p with
  |some xs=>(match Zc xs i with|some v=>Q v H|none=>False)
  |none=>(match kN H p with
   |some xs=>(match Zc xs i with|some v=>Q v H|none=>False)
   |none=>False))
 |_,_=>False
def Js{x:V}(q:Xp x y H Q):TX K x y H Q:=by
 unfold Xp at q;split at q
 .obtain⟨h1,q⟩:=q;split at q
  .exact .inr (.inr ⟨_,_,_,rfl,rfl,h1,by assumption,q⟩)
  .exact q.elim
 .split at q
  .split at q
   .exact .inl ⟨_,_,_,_,rfl,rfl,aT (by assumption),by assumption,q⟩
   .exact q.elim
  .split at q
   .split at q
    .exact .inr (.inl ⟨_,_,_,_,rfl,rfl,Y9.of (fZ (by assumption)),by assumption,q⟩)
    .exact q.elim
   .exact q.elim
 .exact q.elim
def cE:X9 X Xp:=Xc.imp λ_ _ _ _ q=>Js q
def VI:V->Option Int->Option Int->Hp->VK->Prop:=λx lo hi H Q=>match x with
 |.str z=>z.length<=sizeLine/\Q (.str (Txt.slice z lo hi)) H
 |.ref p=>(match Z8 H p with|some xs=>∀r,H r=none->Q (.ref r) (upd H r (.lst (mP xs lo hi)))|none=>False)
 |_=>False
def VZ:XR X VI:=(Xn.or Ov).imp λ_ _ _ _ _ q=>by
 unfold VI at q;split at q
 .exact .inr ⟨_,rfl,q.1,q.2⟩
 .split at q
  .exact .inl ⟨_,_,rfl,aT (by assumption),q⟩
  .exact q.elim
 .exact q.elim
def vQ(Q:Option Int->Hp->Prop):VK:=λx H1=>match x with|.int i=>Q (some i) H1|_=>False
def Sr(t:TE):TO:=λU H Q=>t U H (vQ Q)
def nH(h:PE X e te):PO X (some e) (Sr te):=by
 intro y4 s U H Q I hw;rw[evalPart_some];refine Z0 (h y4 s U H _ I hw) λu s1 ⟨x,H1,I1,r1,q1⟩=>?_;unfold vQ at q1;split at q1
 .obtain⟨t,rfl⟩:=r1;exact⟨_,H1,I1,.int _ t,q1⟩
 .exact q1.elim
def Xd:List V->Hp->VK->Prop:=λxs H Q=>match xs with
 |[.str z]=>z.length<=sizeLine/\Q (.int z.length) H
 |[.ref p]=>(match Z8 H p with
  |some xs=>Q (.int xs.length) H
  |none=>(match kN H p with|some xs=>Q (.int xs.length) H|none=>False))
 |_=>False
def cS:ZZ X (.builtin "len") Xd:=XU.imp λ_ _ _ q=>by
 unfold Xd at q;split at q
 .exact⟨_,_,rfl,⟨q.1,rfl⟩,q.2⟩
 .split at q
  .exact⟨_,_,rfl,.inl ⟨_,aT (by assumption),rfl⟩,q⟩
  .split at q
   .exact⟨_,_,rfl,.inr ⟨_,Y9.of (fZ (by assumption)),rfl⟩,q⟩
   .exact q.elim
 .exact q.elim
def Vp:List V->Hp->VK->Prop:=λxs H Q=>match xs with|[.int i,.int j]=>Q (.int (if j<i then j else i)) H|_=>False
def LO(hc:X.calm=true):ZZ X (.builtin "min") Vp:=(MU hc).imp λ_ _ _ q=>by
 unfold Vp at q;split at q
 .exact⟨_,_,rfl,q⟩
 .exact q.elim
def VS:List V->Hp->VK->Prop:=λxs H Q=>match xs with
 |[.int i]=>Q (.int i) H
 |[.str x]=>(match PySem.intText? x with|some n=>x.length<=640/\Q (.int n) H|none=>False)
 |_=>False
def V1:ZZ X (.type "int") VS:=(X2.or sL).imp λ_ _ _ q=>by
 unfold VS at q;split at q
 .exact .inl (.inl ⟨_,rfl,q⟩)
 .split at q
  .exact .inr ⟨_,_,rfl,by assumption,q.1,q.2⟩
  .exact q.elim
 .exact q.elim
def VA:List V->Hp->VK->Prop:=λxs H Q=>match xs with
 |[.ref p]=>(match Z8 H p with
  |some ys=>∀l,H l=none->Q (.ref l) (upd H l (.lst ys))
  |none=>(match kN H p with|some ys=>∀l,H l=none->Q (.ref l) (upd H l (.lst ys))|none=>False))
 |_=>False
def lM:ZZ X (.type "list") VA:=YM.imp λ_ _ _ q=>by
 unfold VA at q;split at q
 .split at q
  .exact⟨_,_,rfl,.inl (aT (by assumption)),q⟩
  .split at q
   .exact⟨_,_,rfl,.inr (Y9.of (fZ (by assumption))),q⟩
   .exact q.elim
 .exact q.elim
def WR(T:String)(x:V)(H:Hp)(P:Prop):Prop:=match x with
 |.str _=>T="str"/\P
 |.ref p=>(match Z8 H p with|some _=>T="list"/\P|none=>False)
 |_=>False
def OI{K:W.Frag}{x:V}{P:Prop}(q:WR T x H P):TQ K T x H/\P:=by
 unfold WR at q;split at q
 .exact⟨q.1,q.2⟩
 .split at q
  .exact⟨.inl ⟨q.1,_,aT (by assumption)⟩,q.2⟩
  .exact q.elim
 .exact q.elim
def Sj(T:String)(r:V->List V->Hp->VK->Prop)(to:TE)(t:TA):TE:=λU H Q=>to U H λx H1=>WR T x H1 (t U H1 λxs H2=>r x xs H2 Q)
variable {o:Expr} {t:TA} {apos:Pos} {id:String}
def dD(pa:PlainAttrs T)(slot:Slot T name id)(hty:typeOf (.builtin id)=pure (.type "method_descriptor"))(hm:Yo X id r)(ho:PE X o to)(ha:PA X (e::es) t)(hbase:attributeBase o name X.env (eval o X.env)=eval o X.env:=by rfl)(hfew:((backTo cpos (starEach (e::es) X.env)).all (λx=>!x.1)&&(backToKw cpos (keywordEach [] X.env)).all (λx=>x.1.isSome)
 && decide ((e::es).length+([]:List Keyword).length+(if ([]:List Keyword).isEmpty then 0 else 1)<30))=true:=by rfl)(hline:(apos.endLine==cpos.line)=true:=by rfl)(hs:starEach (e::es) X.env=(false,eval e X.env)::starEach es X.env:=by rfl)(hplain:(backTo cpos (starEach es X.env)).any (·.1)=false:=by rfl):PE X (.Call (.Attribute o name apos) (e::es) [] cpos) (Sj T r to t):=by
 intro y4 s U H Q I h;refine wpAny_Call_method_late hbase hfew hline rfl (Z0 (ho y4 s U H _ I h) λv s1 ⟨x,H1,I1,r1,q⟩=>?_);obtain⟨ty,q1⟩:=OI (K:=X.K) q;obtain⟨h1,h2⟩:=QY I1 r1 ty;refine⟨T,id,pa,slot,hty,h1,h2,?_⟩;have hA:=ha cpos y4 s1 U H1 _ I1 q1
 rw[hs]at hA ⊢;refine Calls.callWith_builtin (by show (false || (backTo cpos (starEach es X.env)).any (·.1))=false;rw[hplain]<;>rfl) (Calls.evalArgs_plain ?_)
 exact Z0 hA λus s2 ⟨vs,H2,I2,r2,q2⟩=>hm y4 s2 U H2 x vs v us Q I2 r1 r2 q2
def VE:V->List V->Hp->VK->Prop:=λx vs H Q=>match x,vs with
 |.ref l,[y]=>(match gL H l with|some xs=>xs.length<sizeLine/\Q .non (upd H l (.lst (xs++[y])))|none=>False)
 |_,_=>False
def xK:Yo X "list.append" VE:=Yo.imp (r:=Ta) tZ λ_ _ _ _ q=>by
 unfold VE at q;split at q
 .split at q
  .exact⟨_,_,_,rfl,rfl,kG (by assumption),q.1,q.2⟩
  .exact q.elim
 .exact q.elim
def vG:V->List V->Hp->VK->Prop:=λx vs H Q=>match x,vs with
 |.str z,[.str y]=>(match Builtin.Str.occurrences z y 0 z.length 1 with|i::_=>Q (.int ((i:Nat):Int)) H|[]=>False)
 |_,_=>False
def MJ:Yo X "str.index" vG:=XI.imp λ_ _ _ _ q=>by
 unfold vG at q;split at q
 .split at q
  .exact⟨_,_,_,_,rfl,rfl,by assumption,q⟩
  .exact q.elim
 .exact q.elim
def lD:List V->Option (List Str)
 |[]=>some []
 |.str z::r=>(lD r).map (z::·)
 |_=>none
def Ka(ys:List Str):lD (ys.map V.str)=some ys:=by
 induction ys with
 |nil=>rfl
 |cons y r ih=>rw[Ar,lD,ih];rfl
def tB:∀ {xs:List V} {ys:List Str},lD xs=some ys->xs=ys.map V.str
 |[],_,h=>by cases h;rfl
 |.str z::r,_,h=>by
  rw[lD]at h;cases e:lD r with
  |none=>rw[e]at h;cases h
  |some l=>rw[e]at h;cases h;rw[tB e];rfl
 |.non::_,_,h=>by cases h
 |.bl _::_,_,h=>by cases h
 |.int _::_,_,h=>by cases h
 |.byt _::_,_,h=>by cases h
 |.flt _::_,_,h=>by cases h
 |.ref _::_,_,h=>by cases h
 |.ty _::_,_,h=>by cases h
def VW:V->List V->Hp->VK->Prop:=λx vs H Q=>match x,vs with
 |.str z,[.ref p]=>(match Z8 H p with
  |some xs=>(match lD xs with|some ys=>(ys.map (·.length)).sum+ys.length*z.length<=16777216/\Q (.str (Txt.join z ys)) H|none=>False)
  |none=>False)
 |_,_=>False
def J9:Yo X "str.join" VW:=Xq.imp λ_ _ _ _ q=>by
 unfold VW at q;split at q
 .split at q
  .split at q
   .have e:=tB (by assumption)
    subst e;exact⟨_,_,_,rfl,rfl,aT (by assumption),q.1,q.2⟩
   .exact q.elim
  .exact q.elim
 .exact q.elim
def lZ:List V->Option (List Bool)
 |[]=>some []
 |.bl z::r=>(lZ r).map (z::·)
 |_=>none
def KO(ys:List Bool):lZ (ys.map V.bl)=some ys:=by
 induction ys with
 |nil=>rfl
 |cons y r ih=>rw[Ar,lZ,ih];rfl
def tR:∀ {xs:List V} {ys:List Bool},lZ xs=some ys->xs=ys.map V.bl
 |[],_,h=>by cases h;rfl
 |.bl z::r,_,h=>by
  rw[lZ]at h;cases e:lZ r with
  |none=>rw[e]at h;cases h
  |some l=>rw[e]at h;cases h;rw[tR e];rfl
 |.non::_,_,h=>by cases h
 |.str _::_,_,h=>by cases h
 |.int _::_,_,h=>by cases h
 |.byt _::_,_,h=>by cases h
 |.flt _::_,_,h=>by cases h
 |.ref _::_,_,h=>by cases h
 |.ty _::_,_,h=>by cases h
def VN:List V->Hp->VK->Prop:=λvs H Q=>match vs with
 |[.ref p]=>(match Z8 H p with
  |some xs=>(match lZ xs with|some bs=>Q (.bl (bs.all _root_.id)) H|none=>False)
  |none=>False)
 |_=>False
def MF(hc:X.calm=true):ZZ X (.builtin "all") VN:=(rY hc).imp λ_ _ _ q=>by
 unfold VN at q;split at q
 .split at q
  .split at q
   .have e:=tR (by assumption)
    subst e;exact⟨_,_,rfl,aT (by assumption),q⟩
   .exact q.elim
  .exact q.elim
 .exact q.elim
def Xj(x:V)(H:Hp):Option String:=match x with
 |.non=>some "NoneType"
 |.bl _=>some "bool"
 |.int _=>some "int"
 |.str _=>some "str"
 |.ref p=>(match H p with
  |some (.lst _)=>some "list"
  |some (.frz _ (.lst _))=>some "list"
  |some (.tup _)=>some "tuple"
  |some (.dK _)=>some "dict"
  |_=>none)
 |_=>none
def L_{x:V}{t:String}(h:Xj x H=some t):Zf K H x (.type t):=by
 unfold Xj at h;split at h
 .cases h;exact .non
 .cases h;exact .bl _
 .cases h;exact .int _
 .cases h;exact .str _
 .split at h
  .cases h;exact .lst (by assumption)
  .cases h;exact .frz (by assumption)
  .cases h;exact .tup (by assumption)
  .cases h;exact .dK (by assumption)
  .cases h
 .cases h
def Sx(t T:String):Bool:=decide (t=T) || (decide (t="bool")&&decide (T="int"))
def US(t T:String):Bool:=["NoneType", "bool", "int", "str", "list", "tuple", "dict"].contains t && ["bool", "int", "str", "list", "tuple", "dict"].contains T
def Ww(t T:String):Option Bool:=bif US t T then some (Sx t T) else none
def QE:∀t∈["NoneType", "bool", "int", "str", "list", "tuple", "dict"],∀T∈["bool", "int", "str", "list", "tuple", "dict"],W.kitOne K (.type t) (.type T)=some (Sx t T):=by
 simp only[List.forall_mem_cons,List.not_mem_nil,false_implies,implies_true,and_true];refine⟨⟨rfl,rfl,rfl,rfl,rfl,rfl⟩,⟨rfl,rfl,rfl,rfl,rfl,rfl⟩,⟨rfl,rfl,rfl,rfl,rfl,rfl⟩,⟨rfl,rfl,rfl,rfl,rfl,rfl⟩,⟨rfl,rfl,rfl,rfl,rfl,rfl⟩,⟨rfl,rfl,rfl,rfl,rfl,rfl⟩,⟨rfl,rfl,rfl,rfl,rfl,rfl⟩⟩
def MQ{t:String}{b:Bool}(h:Ww t T=some b):W.kitOne K (.type t) (.type T)=some b:=by
 unfold Ww at h;cases hn:US t T with
 |false=>rw[hn]at h;cases h
 |true=>
  rw[hn]at h;cases h;unfold US at hn;rw[Fc]at hn;exact QE t (List.contains_iff_mem.mp hn.1) T (List.contains_iff_mem.mp hn.2)
def VP:List V->Hp->VK->Prop:=λxs H Q=>match xs with
 |[x,.ty T]=>(match Xj x H with
  |some t=>(match Ww t T with|some b=>Q (.bl b) H|none=>False)
  |none=>False)
 |_=>False
def mV:ZZ X (.builtin "isinstance") VP:=YB.imp λ_ _ _ q=>by
 unfold VP at q;split at q
 .split at q
  .split at q
   .exact⟨_,_,_,_,rfl,L_ (by assumption),MQ (by assumption),q⟩
   .exact q.elim
  .exact q.elim
 .exact q.elim
end
def xJ(R:Str->Hp->Prop):VK:=λx H=>match x with|.str z=>R z H|_=>False
def K0{R:Str->Hp->Prop}{x:V}(q:xJ R x H):∃z,x=.str z/\R z H:=by
 unfold xJ at q;split at q
 .exact⟨_,rfl,q⟩
 .exact q.elim
def Yq(o:Option (List V))(P:Prop):Prop:=match o with|some _=>P|none=>False
def gE(R:Addr->Hp->Prop):VK:=λx H=>match x with|.ref a=>R a H|_=>False
def QT{R:Addr->Hp->Prop}{x:V}(q:gE R x H):∃a,x=.ref a/\R a H:=by
 unfold gE at q;split at q
 .exact⟨_,rfl,q⟩
 .exact q.elim
section
variable {l a b:Expr} {ta tb:TE} {p:Pos}
def R4(tl:TE):TI:=λU H R=>tl U H (xJ λz H1=>R (Xv z) H1)
def pA(hl:PE X l tl):PI X tg l (R4 tl):=by
 intro y4 s U H R I h;refine Z0 (hl y4 s U H _ I h) λv s1 ⟨x,H1,I1,r1,q1⟩=>?_;obtain⟨z,rfl,q⟩:=K0 q1;obtain⟨t,rfl⟩:=r1;have fb:∀b∈[s1.heap.objs.size],kO X y4 H1 b:=λb hb=>by
  have e:b=s1.heap.objs.size:=by simpa using hb
  subst e;exact I1.YJ (Ai _) (I1.Z7.fresh (Ai _))
 cases ha:z.cps.all (· < 128)
 .refine wpAny_pyIter_wide ha ?_;exact⟨s1.heap.objs.size,[s1.heap.objs.size],_,_,H1,rfl,I1.kept (t':=s1.toks) λb o e=>Ag _ e,LU z t _,⟨_,Ax _ rfl,rfl,rfl⟩,fb,q⟩
 .refine wpAny_pyIter_ascii ha ?_;exact⟨s1.heap.objs.size,[s1.heap.objs.size],_,_,H1,rfl,I1.kept (t':=s1.toks) λb o e=>Ag _ e,JG z t _,⟨_,Ax _ rfl,rfl,rfl⟩,fb,q⟩
def SE(K:W.Frag)(tl:TE):TI:=λU H R=>tl U H (gE λa H1=>Yq (Z8 H1 a) (R (Xw K a) H1))
def bP(hl:PE X l tl):PI X tg l (SE X.K tl):=by
 intro y4 s U H R I h;refine Z0 (hl y4 s U H _ I h) λv s1 ⟨x,H1,I1,r1,q1⟩=>?_;obtain⟨a,rfl,q⟩:=QT q1;cases r1;unfold Yq at q;split at q
 .rename_i xs e
  obtain⟨its,rv,p,hz⟩:=I1.list (aT e);refine Et p.isList ?_;refine⟨s1.heap.objs.size,[s1.heap.objs.size],_,_,H1,rfl,I1.kept (t':=s1.toks) λb o e=>Ag _ e,OK a _,⟨_,Ax _ rfl,rfl,rfl⟩,λb hb=>?_,q⟩;have e:b=s1.heap.objs.size:=by simpa using hb
  subst e;exact I1.YJ (Ai _) (I1.Z7.fresh (Ai _))
 .exact q.elim
def zN(R:Int->Hp->Prop):List V->Hp->Prop:=λvs H=>match vs with|[.int j]=>R j H|_=>False
def T9{R:Int->Hp->Prop}{vs:List V}(q:zN R vs H):∃j,vs=[.int j]/\R j H:=by
 unfold zN at q;split at q
 .exact⟨_,rfl,q⟩
 .exact q.elim
def Wg(R:Int->Int->Hp->Prop):List V->Hp->Prop:=λvs H=>match vs with|[.int i,.int j]=>R i j H|_=>False
def N0{R:Int->Int->Hp->Prop}{vs:List V}(q:Wg R vs H):∃i j,vs=[.int i,.int j]/\R i j H:=by
 unfold Wg at q;split at q
 .exact⟨_,_,rfl,q⟩
 .exact q.elim
def Rv(ta:TA):TI:=λU H R=>ta U H (zN λj H1=>(-(2^62)<=j/\j<2^62)/\R (XW 0 j.toNat) H1)
def Ts(ta:TA):TI:=λU H R=>ta U H (Wg λi j H1=>(-(2^62)<=i/\i<2^62/\-(2^62)<=j/\j<2^62)/\R (XW i (j-i).toNat) H1)
def dZ{ta:TA}(hg:Gl X "range")(hm:X.mg "range"=none)(ha:PA X [a] ta)(hs:starEach [a] X.env=[(false,eval a X.env)]:=by rfl):PI X tg (.Call (.Name "range" p) [a] [] pos) (Rv ta):=by
 intro y4 s U H R I h;refine Call_ (gK I hg hm boot_range (Dz (Z0 (ha pos y4 s U H _ I h) λus s1 ⟨vs,H1,I1,r1,q1⟩=>?_) hs rfl));obtain⟨j,e,⟨b1,b2⟩,q⟩:=T9 q1;subst e;cases r1 with
 |cons r rr=>
  cases rr;obtain⟨t,rfl⟩:=r;exact call_range_1 (yP I1 (by omega) (by omega) b1 b2 (by simpa using q))
def oH{ta:TA}(hg:Gl X "range")(hm:X.mg "range"=none)(ha:PA X [a,b] ta)(hs:starEach [a,b] X.env=[(false,eval a X.env),(false,eval b X.env)]:=by rfl)(hs2:starEach [b] X.env=[(false,eval b X.env)]:=by rfl):PI X tg (.Call (.Name "range" p) [a,b] [] pos) (Ts ta):=by
 intro y4 s U H R I h;refine Call_ (gK I hg hm boot_range (Dz (Z0 (ha pos y4 s U H _ I h) λus s1 ⟨vs,H1,I1,r1,q1⟩=>?_) (by rw[hs,hs2]) (by rw[hs2];rfl)))
 obtain⟨i,j,e,⟨b1,b2,b3,b4⟩,q⟩:=N0 q1;subst e;cases r1 with
 |cons r rr=>
  cases rr with
  |cons r' rr=>
   cases rr;obtain⟨t,rfl⟩:=r;obtain⟨t',rfl⟩:=r';exact call_range_2 (yP I1 b1 b2 b3 b4 q)
def xD(J:It)(g:TG)(tb:TS)(D:Ends)(U:St)(H1:Hp):Prop:=∃W:Nat->Nat->St->Hp->Prop,(∃m,W 0 m U H1)/\∀i m U H,W i m U H->
 (J.stop i H/\D.nx U H)\/(J.go i H/\∃N:St->Hp->Prop,(∀U' H',N U' H'->∃m',m' < m/\W (i+1) m' U' H')/\∀x H',J.Xs i H x H'->g x U H' λU2 H2=>tb {D with nx:=N,ct:=N,bk:=D.nx} U2 H2)
def T6(wi:TI)(g:TG)(tb:TS):TS:=λD U H=>wi U H λJ H1=>xD J g tb D U H1
def bU{body:List Stmt}{wi:TI}{tb:TS}(hp:PassesOwn (model X.prog X.w) X.A X.env X.xe)(hc:X.calm=true)(hi:PI X tg iter wi)(hg:PG X tg g)(hb:YF X body tb)(hs:∀x,foldedSetIterable iter X.env x=pure x:=by intro _;rfl):PS X (.For tg iter body [] pos) (T6 wi g tb):=KH (wi:=wi) hp hc hi hg hb hs
section
variable {tb:TS} {U:St}
def cP(Pv:Nat->St->Hp->Prop)(h0:Pv 0 U H)(hl:∀i U H,i<=xs.length->Pv i U H->Z8 H c=some xs)(hs:∀i x U H,xs[i]?=some x->Pv i U H->g x U H λU2 H2=>tb {D with nx:=Pv (i+1),ct:=Pv (i+1),bk:=D.nx} U2 H2)(hd:∀U H,Pv xs.length U H->D.nx U H):xD (Xw K c) g tb D U H:=
 PH Pv h0 (λi U H hi p=>aT (hl i U H hi p)) hs hd
def Pu(Pv:Nat->St->Hp->Prop)(h0:Pv 0 U H)(hs:∀i c U H,z.cps.toList[i]?=some c->Pv i U H->g (.str ⟨#[c]⟩) U H λU2 H2=>tb {D with nx:=Pv (i+1),ct:=Pv (i+1),bk:=D.nx} U2 H2)(hd:∀U H,Pv z.cps.toList.length U H->D.nx U H):xD (Xv z) g tb D U H:=
 Ng Pv h0 hs hd
def eY(Pv:Nat->St->Hp->Prop)(h0:Pv 0 U H)(hs:∀i U H,i<n->Pv i U H->g (.int (lo+i)) U H λU2 H2=>tb {D with nx:=Pv (i+1),ct:=Pv (i+1),bk:=D.nx} U2 H2)(hd:∀U H,Pv n U H->D.nx U H):xD (XW lo n) g tb D U H:=
 Mr Pv h0 hs hd
end
def hZ(hg:Gl X x)(hm:X.mg x=none)(hv:bootBuiltins x=some (.type T))(hn:x≠"__name__" := by decide)(hd:(x==("__debug__" : Str))=false:=by decide):PE X (.Name x pos) (tC (.ty T)):=Px hg hm hv rfl hn hd
end
section
variable {U:St} {QB:Bool->Hp->Prop} {QA:List V->Hp->Prop} {QO:Option Int->Hp->Prop} {t u:TS} {ta tb:TE} {tt tu:TT} {tA:TA} {r:R2} {x:V} {i j:Int} {z':Str} {p:Addr} {vs:List V} {k:Nat}
def OG(h:t {D with nx:=u D} U H):SR t u D U H:=h
def NK(h:D.nx U H):Rr D U H:=h
def KR{c:TT}(h:c U H λb H1=>if b=true then t D U H1 else u D U H1):TR c t u D U H:=h
def Nr(h:te U H D.rt):S6 te D U H:=h
def Lj(h:te U H λ_ H1=>D.nx U H1):SI te D U H:=h
def Qg(h:te U H λx H1=>g x U H1 D.nx):V5 te g D U H:=h
def Lb{wi:TI}{tb:TS}(h:wi U H λJ H1=>xD J g tb D U H1):T6 wi g tb D U H:=h
def vH{QS:St->Hp->Prop}(h:QS (U.set k (some v)) H):pM k v U H QS:=h
def LG{QS:St->Hp->Prop}{ti:TE}{ts:VL}(h:to U H λo H1=>ti U H1 λi H2=>ts o i v H2 λH3=>QS U H3):T_ to ti ts v U H QS:=h
def Ob(e:U[k]?=some (some v))(h:Q v H):VO k U H Q:=by unfold VO;rw[e];exact h
def Lw(h:Q v H):tC v U H Q:=h
def Mv(h:ta U H λx H1=>tb U H1 λy H2=>r x y H2 Q):Wl r ta tb U H Q:=h
def Pm{ru:V->Hp->VK->Prop}(h:ta U H λx H1=>ru x H1 Q):Sv ru ta U H Q:=h
def Kl(h:QA [] H):uY U H QA:=h
def OO{tr:TA}(h:ta U H λx H1=>tr U H1 λxs H2=>QA (x::xs) H2):Vz ta tr U H QA:=h
def MI(h:tA U H λxs H1=>xs.length<=sizeLine/\∀p,H1 p=none->Q (.ref p) (upd H1 p (.lst xs))):Wh tA U H Q:=h
def Po(h:tA U H λxs H1=>xs.length<=sizeLine/\∀p,H1 p=none->Q (.ref p) (upd H1 p (.tup xs))):Tt tA U H Q:=h
def MO{E:XK}(h:tA U H λvs H1=>sp (vs++[]) H1 Q E):VH sp [] E tA U H Q:=h
def Ou{rc:List V->Hp->VK->Prop}(h:tA U H λvs H1=>rc vs H1 Q):UX rc tA U H Q:=h
def J_{rs:V->Option Int->Option Int->Hp->VK->Prop}{tl th:TO}(h:te U H λx H1=>tl U H1 λl H2=>th U H2 λu H3=>rs x l u H3 Q):S1 rs te tl th U H Q:=h
def Py(h:QO none H):Sn U H QO:=h
def LX(h:te U H (vQ QO)):Sr te U H QO:=h
def QV(h:QO (some i) H):vQ QO (.int i) H:=h
def NO{rm:V->List V->Hp->VK->Prop}(h:to U H λx H1=>WR T x H1 (tA U H1 λxs H2=>rm x xs H2 Q)):Sj T rm to tA U H Q:=h
def Rm{P:Prop}(h:P):WR "str" (.str z) H P:=⟨rfl,h⟩
def Qc{P:Prop}(e:Z8 H p=some xs)(h:P):WR "list" (.ref p) H P:=by unfold WR;simp only[e];exact⟨trivial,h⟩
def Ki(h:te U H (mB QB)):SV te U H QB:=h
def Mp(h:te U H (Wn QB)):Uj te U H QB:=h
def K8{b:Bool}(h:QB b H):mB QB (.bl b) H:=h
def Ke{b:Bool}(h:QB b H):Wn QB (.bl b) H:=h
def Om(h:tt U H λc H1=>if c=true then tu U H1 QB else QB false H1):T5 tt tu U H QB:=h
def Pd(h:tt U H λc H1=>if c=true then QB true H1 else tu U H1 QB):SS tt tu U H QB:=h
def P8(h:tt U H λc H1=>QB (!c) H1):Se tt U H QB:=h
def Q9(h:ta U H (mB λc H1=>if c=true then tb U H1 Q else Q (.bl false) H1)):RN ta tb U H Q:=h
def LP(h:tt U H λc H1=>if c=true then ta U H1 Q else tb U H1 Q):RJ tt ta tb U H Q:=h
def Rl{g:Int->Int->V}(h:Q (g i j) H):mI g (.int i) (.int j) H Q:=h
def N9{C:Int->Int->Prop}{g:Int->Int->V}(c:C i j)(h:Q (g i j) H):WA C g (.int i) (.int j) H Q:=⟨c,h⟩
def OD(h:Q (.int (i+j)) H):WI (.int i) (.int j) H Q:=h
def Oc(c:z.length+z'.length<=sizeLine)(h:Q (.str (z++z')) H):WI (.str z) (.str z') H Q:=⟨c,h⟩
def eM(e:gL H p=some xs)(e':gL H q=some ys)(c:xs.length+ys.length<=sizeLine)(h:∀r,H r=none->Q (.ref r) (upd H r (.lst (xs++ys)))):WI (.ref p) (.ref q) H Q:=by
 unfold WI;simp only[e,e'];exact⟨c,h⟩
def Lv(h:Q (.bl (decide (i=j))) H):Ux (.int i) (.int j) H Q:=⟨rfl,by
 rw[show decide (V.int i=V.int j)=decide (i=j) by simp];exact h⟩
def OX(h:Q (.bl (decide (z=z'))) H):Ux (.str z) (.str z') H Q:=⟨rfl,by
 rw[show decide (V.str z=V.str z')=decide (z=z') by simp];exact h⟩
def Kt(h:Q (.bl (!decide (i=j))) H):RL (.int i) (.int j) H Q:=⟨rfl,by
 rw[show decide (V.int i=V.int j)=decide (i=j) by simp];exact h⟩
def V2{neg:Bool}(e:Z8 H p=some xs)(e':Z8 H q=some ys)(f:xs.all bR=true)(f':ys.all bR=true)(h:Q (.bl (if neg then !jP xs ys else jP xs ys)) H):W5 neg (.ref p) (.ref q) H Q:=by
 unfold W5;simp only[e,e'];exact⟨f,f',h⟩
def K5(h:Q (.bl (decide (x=.non))) H):Vq x .non H Q:=h
def NR(h:Q (.bl (!decide (x=.non))) H):UT x .non H Q:=h
def MZ(h:Q (.bl (if neg then !subIn z z' else subIn z z')) H):Vt neg (.str z) (.str z') H Q:=h
def kU{neg:Bool}(e:Z8 H p=some xs)(f:bR x=true)(f':xs.all bR=true)(h:Q (.bl (if neg then !Xx x xs else Xx x xs)) H):Wy neg x (.ref p) H Q:=by
 unfold Wy;simp only[e];exact⟨f,f',h⟩
def pJ{c:Nat}(l:z.length<=sizeLine)(e:Zc z.cps.toList i=some c)(h:Q (.str ⟨#[c]⟩) H):Xp (.str z) (.int i) H Q:=by
 unfold Xp;simp only[e];exact⟨l,h⟩
def cL(e:Z8 H p=some xs)(e':Zc xs i=some v)(h:Q v H):Xp (.ref p) (.int i) H Q:=by
 unfold Xp;simp only[e,e'];exact h
def NZ{lo hi:Option Int}(e:Z8 H p=some xs)(h:∀r,H r=none->Q (.ref r) (upd H r (.lst (mP xs lo hi)))):VI (.ref p) lo hi H Q:=by
 unfold VI;simp only[e];exact h
def M3(l:z.length<=sizeLine)(h:Q (.int z.length) H):Xd [.str z] H Q:=⟨l,h⟩
def LN(e:Z8 H p=some xs)(h:Q (.int xs.length) H):Xd [.ref p] H Q:=by unfold Xd;simp only[e];exact h
def KA(h:Q (.int (if j<i then j else i)) H):Vp [.int i,.int j] H Q:=h
def wF(e:PySem.intText? z=some i)(l:z.length<=640)(h:Q (.int i) H):VS [.str z] H Q:=by unfold VS;simp only[e];exact⟨l,h⟩
def KZ(e:Z8 H p=some xs)(h:∀l,H l=none->Q (.ref l) (upd H l (.lst xs))):VA [.ref p] H Q:=by unfold VA;simp only[e];exact h
def PZ(e:gL H p=some xs)(l:xs.length<sizeLine)(h:Q .non (upd H p (.lst (xs++[v])))):VE (.ref p) [v] H Q:=by unfold VE;simp only[e];exact⟨l,h⟩
def Np{rest:List Nat}(e:Builtin.Str.occurrences z z' 0 z.length 1=k::rest)(h:Q (.int ((k:Nat):Int)) H):vG (.str z) [.str z'] H Q:=by unfold vG;simp only[e];exact h
def O5{ss:List Str}(e:Z8 H p=some (ss.map V.str))(l:(ss.map (·.length)).sum+ss.length*z.length<=16777216)(h:Q (.str (Txt.join z ss)) H):VW (.str z) [.ref p] H Q:=by
 unfold VW;simp only[e,Ka];exact⟨l,h⟩
def ND{bs:List Bool}(e:Z8 H p=some (bs.map V.bl))(h:Q (.bl (bs.all id)) H):VN [.ref p] H Q:=by
 unfold VN;simp only[e,KO];exact h
def Qu{t:String}{b:Bool}(e:Xj x H=some t)(e':Ww t T=some b)(h:Q (.bl b) H):VP [x,.ty T] H Q:=by
 unfold VP;simp only[e,e'];exact h
def Jp(h:tl U H (gE λa H1=>Yq (Z8 H1 a) (R (Xw K a) H1))):SE K tl U H R:=h
def LS{R:Addr->Hp->Prop}(h:R p H):gE R (.ref p) H:=h
def QD{P:Prop}(e:Z8 H p=some xs)(h:P):Yq (Z8 H p) P:=by unfold Yq;simp only[e];exact h
def Nm(h:tl U H (xJ λz H1=>R (Xv z) H1)):R4 tl U H R:=h
def K_{R:Str->Hp->Prop}(h:R z H):xJ R (.str z) H:=h
def Oj(h:tA U H (zN λj H1=>(-(2^62)<=j/\j<2^62)/\R (XW 0 j.toNat) H1)):Rv tA U H R:=h
def OW(h:tA U H (Wg λi j H1=>(-(2^62)<=i/\i<2^62/\-(2^62)<=j/\j<2^62)/\R (XW i (j-i).toNat) H1)):Ts tA U H R:=h
def QL{R:Int->Hp->Prop}(h:R i H):zN R [.int i] H:=h
def PB{R:Int->Int->Hp->Prop}(h:R i j H):Wg R [.int i,.int j] H:=h
def NT{o:V}{QH:Hp->Prop}(e:gL H p=some xs)(e':XX xs.length i=some k)(h:QH (upd H p (.lst (xs.set k v)))):SM (.ref p) (.int i) v H QH:=⟨_,_,_,_,rfl,rfl,kG e,e',h⟩
end
def Uv{xs:List α}{i:Int}(h0:0<=i)(h1:i<xs.length):∃v,Zc xs i=some v/\xs[i.toNat]?=some v:=by
 have hk:i.toNat<xs.length:=by omega
 have e:i=((i.toNat:Nat):Int):=by omega
 have q:Zc xs ((i.toNat:Nat):Int)=some xs[i.toNat]:=fJ (Aa hk)
 rw[<-e]at q;exact⟨xs[i.toNat],q,Aa hk⟩
def Og{i:Int}(h0:0<=i)(h1:i<n):XX n i=some i.toNat:=by
 unfold XX;rw[if_pos h0,if_pos h1]
def bE(h:n<=100000):n<=sizeLine:=Bd h (by decide)
def aY(h:n<=100000):n<sizeLine:=Nat.lt_of_le_of_lt h (by decide)
def ZP(P:Program)(w:World)(K:W.Frag)(mg:Str->Option Value)(base:Heap)(k:Nat)(x:Str)(ps:List Str)(sp:Sp):Prop:=
 ∃(f:Addr) (fd:FuncData),Z4 P w K mg base ZO k f fd ps sp/\mg x=some (.ref f)/\W.keepIn K (.ref f)=true/\Binds K fd ps []
section
variable {k k':Nat} {ps:List Str} {p:Pos} {t:TA} {i:Int}
def aV(c:ZP X.prog X.w X.K X.mg X.base k x ps sp)(hr:Z5 k' X.A)(hk:k<=k')(hg:Gl X x)(ha:PA X (e::es) t)(hdb:(x==("__debug__" : Str))=false:=by decide)(he:starEach (e::es) X.env=(false,eval e X.env)::starEach es X.env:=by rfl)(hpl:(backTo pos (starEach es X.env)).any (·.1)=false:=by rfl):PE X (.Call (.Name x p) (e::es) [] pos) (VH sp [] E0 t):=by
 obtain⟨f,fd,F,hm,hk',hb⟩:=c;exact RY F (hr.mono hk) hg hm hk' hb .nil Jo ha hdb he hpl
def kL(hg:Gl X x)(h:∃t,X.mg x=some (.str z t))(hd:(x==("__debug__" : Str))=false:=by decide):PE X (.Name x pos) (tC (.str z)):=by
 obtain⟨t,h⟩:=h;exact RB hg h ⟨t,rfl⟩ hd
def NL{z:Int}(hg:Gl X x)(h:∃t,X.mg x=some (.int z t))(hd:(x==("__debug__" : Str))=false:=by decide):PE X (.Name x pos) (tC (.int z)):=by
 obtain⟨t,h⟩:=h;exact RB hg h ⟨t,rfl⟩ hd
def L8(e:ZJ K H a xs)(e':Zc xs i=some v)(h:Q v H):UY K (.ref a) (.int i) H Q:=⟨a,xs,i,v,rfl,rfl,e,e',h⟩
end
def cC:bootBuiltins "len"=some (.builtin "len"):=by decide +kernel
def cA:bootBuiltins "isinstance"=some (.builtin "isinstance"):=by decide +kernel
def NC:bootBuiltins "min"=some (.builtin "min"):=by decide +kernel
def Jr:bootBuiltins "all"=some (.builtin "all"):=by decide +kernel
def KW:bootBuiltins "sum"=some (.builtin "sum"):=by decide +kernel
def Km:bootBuiltins "sorted"=some (.builtin "sorted"):=by decide +kernel
def uS:bootBuiltins "int"=some (.type "int"):=by decide +kernel
def RO:bootBuiltins "str"=some (.type "str"):=by decide +kernel
def cR:bootBuiltins "list"=some (.type "list"):=by decide +kernel
def Rg:bootBuiltins "tuple"=some (.type "tuple"):=by decide +kernel
def Rz:bootBuiltins "dict"=some (.type "dict"):=by decide +kernel
def Ol:bootBuiltins "range"=some (.type "range"):=by decide +kernel
def KG{A B:Prop}(h:B):if (!true)=true then A else B:=h
def Mt{A B:Prop}(h:A):if (!false)=true then A else B:=h
def qG{X:Cx}{x:Str}{j:Nat}{pos:Pos}{es:List Expr}{t:TA}(h:PA X es t):PA X (.Constant (.str x) j pos::es) (Vz (tC (.str x)) t):=aA gU h rfl
def zF{R:Result->Shared->Prop}{elt target:Expr}{it acc:Value}(I:Nat->Shared->Prop)(turn:∀n s,I n s->wpAny (model prog w) A (pyNext it) (λr s₁=>match r with
 |none=>R (.ok .next) s₁
 | some v=>wpAny (model prog w) A (letOwnedTupleGo target it v) (λ_ s₁'=>wpAny (model prog w) A (assign target env v) (λ_ s₂=>
     wpAny (model prog w) A (forIn ifs true λc r=>if r=true then do let ok <-isTrue c env (eval c env);pure (ForInStep.yield ok) else pure (ForInStep.yield r)) (λok s₃=>
      if ok=true then wpAny (model prog w) A (eval elt env) (λx s₄=>
       wpAny (model prog w) A (call (.builtin "list.append") [acc,x]) (λ_ s₅=>∃m,m<n/\I m s₅) (λ_ _=>False) s₄) (λ_ _=>False) s₃
      else ∃m,m<n/\I m s₃) (λ_ _=>False) s₂) (λ_ _=>False) s₁') (λ_ _=>False) s₁) (λ_ _=>False) s)(n:Nat)(h:I n s):codeAny (model prog w) A (.compLoop (.ListComp elt [⟨target,iter,ifs,0⟩] scope pos) 0 it acc env) R s:=by
 refine codeAny_loop rfl I (λn s hI=>?_) n h;show wpAny _ A ((compTurn (.ListComp elt [⟨target,iter,ifs,0⟩] scope pos) 0 it acc env).onRaise (λx=>do noteFrame x env;theTreesLotGoes x)) _ _ s
 refine wpAny_noted ?_;rw[compTurn_list];refine Ae (Fk (Ae (Ck (turn n s hI) (λr s₁ h₁=>?_) λ_ _ h'=>h'.elim)));cases r with
 |none=>exact Am h₁
 |some v=>
  refine Ae (Ck h₁ (λ_ s₁' h₁'=>?_) λ_ _ h'=>h'.elim);refine Ae (Ck h₁' (λ_ s₂ h₂=>Ae (Ck h₂ (λok s₃ h₃=>?_) λ_ _ h'=>h'.elim)) λ_ _ h'=>h'.elim);cases ok with
  |false=>exact Am ⟨rfl,h₃⟩
  |true=>
   exact Ae (Ae (Ck h₃ (λx s₄ h₄=>Ae (Ck h₄ (λ_ s₅ h₅=>Am (Am ⟨rfl,h₅⟩)) λ_ _ h'=>h'.elim)) λ_ _ h'=>h'.elim))
def Yt(X:Cx)(N:List Str)(scope:Scope)(cl:List (Str×Addr))(C:Addr)(s₀:Shared)(H₀:Hp)(ex:List Addr):Cx:=
 {prog:=X.prog,w:=X.w,K:=X.K,mg:=X.mg,base:=X.base,A:=X.A,N:=N,s₀:=s₀,H₀:=H₀,env:=compEnvC scope cl C X.env,outer:=X.stack,stack:=X.stack,ex:=ex,fn:=λ_=>false,calm:=X.calm,pn:=[],xe:=λ_ _=>False}
structure X3 (X:Cx) (N:List Str) (scope:Scope) (cl:List (Str×Addr)) (vals:St->St):Prop where
 clos:closureFor scope X.env=pure cl
 sub:∀x c,cl.lookup x=some c->X.env.cells.lookup x=some c
 has:∀x,((relabel scope X.env).names.lookup x=some .cell\/(relabel scope X.env).names.lookup x=some .free)->∃c,cl.lookup x=some c
 len:∀U,(vals U).length=N.length
 val:∀U (i:Nat) x v,N[i]?=some x->(vals U)[i]?=some (some v)->∃(j:Nat),X.N[j]?=some x/\U[j]?=some (some v)/\X.env.scope.names.lookup x=some .cell/\(∃c,cl.lookup x=some c)/\(relabel scope X.env).names.lookup x=some .cell
def PF(X:Cx)(ifs:List Expr)(t:TT):Prop:=∀(y4:List (Addr×Obj)) (s:Shared) (U:St) (H:Hp) (Q:Bool->Hp->Prop),Inv X y4 U H s->t U H Q->
 wpAny (model X.prog X.w) X.A (forIn ifs true λc r=>if r=true then do let ok <-isTrue c X.env (eval c X.env);pure (ForInStep.yield ok) else pure (ForInStep.yield r)) (TP X y4 U Q) X.xe s
def Ug:TT:=λ_ H Q=>Q true H
def cW:PF X [] Ug:=λy4 s U H Q I q=>wpAny_tests_nil ⟨H,I,q⟩
def jI{c:Expr}{t:TT}(h:PT X c t):PF X [c] t:=λy4 s U H Q I q=>wpAny_tests_one (h y4 s U H Q I q)
section
variable {U:St} {H2:Hp} {s2:Shared} {vals:St->St}
def J4{h1:Heap}{t1:Nat}(I:Inv X y4 U H2 s2)(ck:X3 X N scope cl vals)(hkind:scope.kind=.function)(hf:∀b∈fp,kO X y4 H2 b)(hlt:∀b∈fp,b<s2.heap.objs.size)(hns:h1.Ns s2.heap.objs.size λ_=>none)(hsb:Heap.SameBut s2.heap.objs.size (s2.heap.push {cls:=.type "dict",data:=.dict #[]}) h1):Inv (Yt X N scope cl s2.heap.objs.size s2 H2 fp) [] (vals U) H2 {s2 with heap:=h1,toks:=t1}:=by
 have old:∀b o,s2.heap.get? b=some o->h1.get? b=some o:=λb o e=>(hsb.2 b (Bj (As e))).trans (Ag _ e)
 have hC:H2 s2.heap.objs.size=none:=I.Z7.fresh (Ai _)
 refine⟨⟨I.ok.mod,hkind,I.ok.glob,I.ok.blt,Ai _,λx y c h1 h2=>I.ok.inj x y c (ck.sub x c h1) (ck.sub y c h2),ck.has,(λx c h=>nomatch h),I.ok.hd,I.ok.frames,.inl rfl,λb hb=>⟨Bj (hlt b hb),λx c e=>(hf b hb).2.2.2.2.1 x c (ck.sub x c e)⟩,
  I.bs,Nat.le_trans I.ok.Ya I.sz,λb o e hb=>?_,λb hb hs=>?_,I.stack,I.Zd⟩,rfl,I.bare,Un.kept old,⟨_,hns,λi x v e1 e2 _=>?_⟩,λx c e=>?_,hC,λx c e=>I.ZT x c (ck.sub x c e),λp hp=>absurd (show p∈([]:Q2) from hp) (by simp),I.Z7.kept old,ck.len U⟩
 .rcases (hf b hb).2.2.2.1 with z|z
  .exact I.ok.YA b o e z
  .exact absurd (Bb (As e) (Bd I.ok.Ya z)) (Cy _)
 .rcases Az.mp (I.YK b hs) with z|z
  .exact(hf b hb).2.1 z
  .exact(hf b hb).2.2.1 z
 .obtain⟨j,h1,h2,h3,⟨c,h4⟩,h5⟩:=ck.val U i x v e1 e2;obtain⟨m,hn,hl⟩:=I.loc;obtain⟨u,r,l⟩:=hl j x v h1 h2 (.inr (.inl h3));refine⟨u,r,.inr ⟨.inl h5,c,h4,?_⟩⟩;rcases l with⟨z,_⟩|⟨_,c',e',z⟩
  .have z':X.env.scope.names.lookup x=some .local:=z
   rw[h3]at z';cases z'
  .rw[ck.sub x c h4]at e';cases e';obtain⟨o,ho,hd⟩:=z;exact⟨o,old _ o ho,hd⟩
 .obtain⟨v,o,ho,hd⟩:=I.cell x c (ck.sub x c e);exact⟨v,o,old _ o ho,hd⟩
def Kw{U':St}{s':Shared}{h'':Heap}{pins':Q2}(I:Inv X y4 U H2 s2)(hf:∀b∈fp,kO X y4 H2 b)(I':Inv (Yt X N scope cl s2.heap.objs.size s2 H2 fp) pins' U' H' s')(hsb:Heap.SameBut s2.heap.objs.size s'.heap h''):Inv X y4 U H' {s' with heap:=h''}:=by
 have u1:Un (Zm X.stack) (s2.heap.objs.size::fp) H2 H' s2.heap s'.heap:=I'.base.mono (λ_ z=>z) λb z=>Ao _ z
 have hC:H' s2.heap.objs.size=none:=I'.free
 have k:∀b o,b≠s2.heap.objs.size->s'.heap.get? b=some o->h''.get? b=some o:=λb o hb e=>(hsb.2 b hb).trans e
 have u2:Un (Zm X.stack) (s2.heap.objs.size::fp) H' H' s'.heap h'':=⟨λb o e _ _ hx=>k b o (λz=>hx (by simp[z])) e,λb o e _ _ hx=>⟨o.slots,k b o (λz=>hx (by simp[z])) e⟩,λ_ _ _ n _=>n,
  λb o e hx=>⟨o,k b o (λz=>hx (by simp[z])) e⟩,λ_ _ e=>e,λ_ _ _ e=>e,λb ps e=>⟨#[],by rw[e];simp⟩⟩
 have Z7:ZD X.prog X.w H' h'':=λb u e=>by
  have nC:∀c v,H' c=some v->c≠s2.heap.objs.size:=λc v e z=>by rw[z,hC]at e;cases e
  refine(I'.Z7 b u e).ZE (λc v hc q=>k c v ?_ q) (λ_ q=>q) λ_ _ q=>q;rcases hc with z|z
  .rw[z];exact nC b u e
  .exact nC c _ z
 refine I.Xg (s':={s' with heap:=h''}) (ch:=s2.heap.objs.size::fp) I'.os (u1.trans u2) Z7 I'.bare λb hb=>?_
 have q:kO X y4 H2 b:=by
  rcases Az.mp hb with z|z
  .subst z;exact I.YJ (Ai _) (I.Z7.fresh (Ai _))
  .exact hf b z
 exact⟨q.2.2.2.1,q.2.1,q.2.2.2.2.1,q.2.2.2.2.2⟩
end
def Wk(U0 U:St):Prop:=U0.length=U.length/\∀(i:Nat) v,U0[i]?=some (some v)->U[i]?=some (some v)
def Wk.refl(U:St):Wk U U:=⟨rfl,λ_ _ h=>h⟩
def Wk.set{U0 U:St}{k:Nat}(h:U0[k]?=some none)(w:Wk U0 U):Wk U0 (U.set k (some v)):=by
 refine⟨by rw[Fh];exact w.1,λi u e=>?_⟩
 have ne:k≠i:=λz=>by subst z;rw[h]at e;cases e
 rw[Dd ne];exact w.2 i u e
def eG(g:TG)(tests:TT)(te:TE)(U0:St)(Q:VK)(J:It)(H1:Hp):Prop:=∀D,H1 D=none->∃W:Nat->Nat->Hp->Prop,(∃m,W 0 m (upd H1 D (.lst [])))/\∀i m Hc,W i m Hc->
 (J.stop i Hc/\Q (.ref D) Hc)\/(J.go i Hc/\∀x H',J.Xs i Hc x H'->g x U0 H' λU2 H2=>Wk U0 U2/\tests U2 H2 λb H3=>if b=true then
  te U2 H3 λy H4=>∃zs,H4 D=some (.lst zs)/\zs.length<sizeLine/\∃m',m' < m/\W (i+1) m' (upd H4 D (.lst (zs++[y]))) else ∃m',m' < m/\W (i+1) m' H3)
def Vv(wi:TI)(g:TG)(tests:TT)(te:TE)(vals:St->St):TE:=λU H Q=>wi U H λJ H1=>eG g tests te (vals U) Q J H1
def wJ{U:St}{H2:Hp}{s2:Shared}{vals:St->St}{tn:Nat->Heap->Prop}{J:It}{elt:Expr}{RR:Value->Addr->Result->Shared->Prop}(I2:Inv X y4 U H2 s2)(T:Turn X.prog X.w X.K tg J fp it tn)(st2:tn 0 s2.heap)(f2:∀b∈fp,kO X y4 H2 b)(hc:X.calm=true)(ck:X3 X N scope cl vals)(hcell:∀y∈scope.names,y.2≠.cell)(hkind:scope.kind=.function)(hg:∀C s₀ H₀ ex,PG (Yt X N scope cl C s₀ H₀ ex) tg g)(ht:∀C s₀ H₀ ex,PF (Yt X N scope cl C s₀ H₀ ex) ifs tests)(he:∀C s₀ H₀ ex,PE (Yt X N scope cl C s₀ H₀ ex) elt te)(h:eG g tests te (vals U) Q J H2)(hRR:∀D C s' H' m,s'.heap.Ns C m->Q (.ref D) H'->(∀h'',Heap.SameBut C s'.heap h''->Inv X y4 U H' {s' with heap:=h''})->kO X y4 H' C->RR (.ref D) C (.ok .next) s'):wpAny (model X.prog X.w) X.A (newList []) (λacc s₃=>wpAny (model X.prog X.w) X.A (newFunctionEnv scope X.env.globals cl [] X.env.qual none .none (some X.env)) (λcenv s₄=>
 codeAny (model X.prog X.w) X.A (.compStart (.ListComp elt [⟨tg,iter,ifs,0⟩] scope pos) 0 (.ref it) acc {cenv with scope:=relabel scope X.env}) (RR acc cenv.locals) s₄) E s₃) E s2:=by
 have hD:H2 s2.heap.objs.size=none:=I2.Z7.fresh (Ai _)
 obtain⟨W,⟨m0,w0⟩,turn⟩:=h _ hD;have hlt:∀b∈fp,b<s2.heap.objs.size:=λb hb=>by
  obtain⟨o,e,_⟩:=T.obj 0 _ st2 b hb;exact As e
 refine Gg ?_
 -- the list is laid
 have I3:Inv X y4 U (upd H2 s2.heap.objs.size (.lst [])) {s2 with heap:=s2.heap.push {cls:=.type "list",dict:=none,data:=.seq ([]:List Value).toArray}}:=
  I2.W4 (ys:=[]) (its:=[]) (t':=s2.toks) .nil (Cs _)
 have f3:∀b∈fp,kO X y4 (upd H2 s2.heap.objs.size (.lst [])) b:=λb hb=>⟨by rw[aI (Bj (hlt b hb))];exact(f2 b hb).1,(f2 b hb).2⟩
 have st3:tn 0 (s2.heap.push {cls:=.type "list",dict:=none,data:=.seq ([]:List Value).toArray}):=T.keep _ _ _ st2 λb _ o e=>Ag _ e
 generalize hs3:({s2 with heap:=s2.heap.push {cls:=.type "list",dict:=none,data:=.seq ([]:List Value).toArray}}:Shared)=s3 at I3 ⊢
 have e3:s3.heap=s2.heap.push {cls:=.type "list",dict:=none,data:=.seq ([]:List Value).toArray}:=by rw[<-hs3]
 rw[<-e3]at st3;have hlt3:∀b∈fp,b<s3.heap.objs.size:=λb hb=>by
  obtain⟨o,e,_⟩:=T.obj 0 _ st3 b hb;exact As e
 refine wpAny_newFunctionEnv hcell (by intro y hy;simp at hy) (λh₁ hns₁ hsb₁=>?_) hkind
 have hns:h₁.Ns s3.heap.objs.size λ_=>none:=hns₁
 have I4:=J4 (t1:=s3.toks) I3 ck hkind f3 hlt3 hns hsb₁
 have old:∀b o,s3.heap.get? b=some o->h₁.get? b=some o:=λb o e=>(hsb₁.2 b (Bj (As e))).trans (Ag _ e)
 have st4:tn 0 h₁:=T.keep _ _ _ st3 λb _ o e=>old b o e
 have loop:∀ s₄:Shared,s₄={ s3 with heap:=h₁,toks:=s3.toks }->
     codeAny (model X.prog X.w) X.A (.compLoop (.ListComp elt [⟨tg,iter,ifs,0⟩] scope pos) 0 (.ref it) (.ref s2.heap.objs.size) (compEnvC scope cl s3.heap.objs.size X.env))
      (RR (.ref s2.heap.objs.size) s3.heap.objs.size) s₄:=by
  rintro s₄ rfl;have fpX:∀ {H':Hp},(∀b∈fp,H' b=none)->∀b∈fp,kO (Yt X N scope cl s3.heap.objs.size s3 (upd H2 s2.heap.objs.size (.lst [])) fp) [] H' b:=λhn b hb=>
   ⟨hn b hb,Nat.ne_of_lt (hlt3 b hb),λhs=>I4.ok.YC b hb hs,.inl hb,λx c e=>(I4.ok.Wu b hb).2 x c e,λp hp=>absurd (show p∈([]:Q2) from hp) (by simp)⟩
  refine zF (λn s'=>∃i H',Inv (Yt X N scope cl s3.heap.objs.size s3 (upd H2 s2.heap.objs.size (.lst [])) fp) [] (vals U) H' s'/\tn i s'.heap/\(∀b∈fp,H' b=none)/\W i n H') ?_ m0
   ⟨0,_,I4,st4,λb hb=>(f3 b hb).1,w0⟩
  rintro n s5 ⟨i,H5,I5,st5,fr5,w5⟩;rcases turn i n H5 w5 with⟨stop,q⟩|⟨go,step⟩
  .refine Z0 (T.done (Yt X N scope cl s3.heap.objs.size s3 (upd H2 s2.heap.objs.size (.lst [])) fp) rfl rfl rfl hc i [] s5 (vals U) H5 (λ_ _=>False) I5 (fpX fr5) st5 stop) λr s6 ⟨hr,I6⟩=>?_;subst hr;obtain⟨m,hn,_⟩:=id I6.loc;exact hRR _ _ s6 H5 m hn q (λh'' hsb=>Kw I3 f3 I6 hsb) (I3.YJ (Ai _) I6.free)
  .refine Z0 (T.item (Yt X N scope cl s3.heap.objs.size s3 (upd H2 s2.heap.objs.size (.lst [])) fp) rfl rfl rfl hc i [] s5 (vals U) H5 (λ_ _=>False) I5 (fpX fr5) st5 go) λr s6 ⟨u,hr,h6⟩=>?_;subst hr;refine Z0 h6 λ_ s7 ⟨x,H7,I7,r7,y7,st7,fr7⟩=>?_;have I7':=I7.pinned (fpX fr7) (T.obj _ _ st7)
   refine Z0 (hg _ _ _ _ _ s7 (vals U) H7 x u _ I7' r7 (step x H7 y7)) λ_ s8 ⟨U8,H8,I8,wk8,q8⟩=>?_;refine Z0 (ht _ _ _ _ _ s8 U8 H8 _ I8 q8) λb s9 ⟨H9,I9,q9⟩=>?_;have again:∀ {m':Nat} {s':Shared} {H':Hp},Inv (Yt X N scope cl s3.heap.objs.size s3 (upd H2 s2.heap.objs.size (.lst [])) fp) ([]++nT fp s7.heap) U8 H' s'->m' < n->W (i+1) m' H'->
       ∃m,m<n/\∃i H',Inv (Yt X N scope cl s3.heap.objs.size s3 (upd H2 s2.heap.objs.size (.lst [])) fp) [] (vals U) H' s'/\tn i s'.heap/\(∀b∈fp,H' b=none)/\W i m H':=fun {m' s' H'} J7 hm w7=>by
    refine⟨m',hm,i+1,H',(J7.weak wk8.1 wk8.2).Zj,T.keep _ _ _ st7 λb hb o e=>(J7.pin (b,o) (Bk _ (Bk _ (gZ hb e)))).1,λb hb=>?_,w7⟩;obtain⟨o,e,d⟩:=T.obj _ _ st7 b hb;exact(J7.pin (b,o) (Bk _ (Bk _ (gZ hb e)))).2.1
   cases b with
   |true=>
    rw[if_pos rfl]at q9 ⊢;refine Z0 (he _ _ _ _ _ s9 U8 H9 _ I9 q9) λv s10 ⟨y,H10,I10,r10,zs,hz,hl,m',hm,w10⟩=>?_;have ap:=tZ ([]++nT fp s7.heap) s10 U8 H10 (.ref s2.heap.objs.size) [y] (.ref s2.heap.objs.size) [v] (λ_ H'=>H'=upd H10 s2.heap.objs.size (.lst (zs++[y]))) I10 rfl (.cons r10 .nil) ⟨_,_,_,rfl,rfl,hz,hl,rfl⟩
    refine Z0 ap λ_ s11 ⟨_,H11,I11,_,e11⟩=>?_;subst e11;exact again I11 hm w10
   |false=>
    rw[if_neg An]at q9 ⊢;obtain⟨m',hm,w9⟩:=q9;exact again I9 hm w9
 exact codeAny_compStart_list (loop _ rfl) (T.self _ 0 _ _ _ st4 (loop _ rfl))
section
variable {vals:St->St} {elt:Expr} {spos py:Pos} {wi:TI}
def bW(hc:X.calm=true)(hi:PI X tg iter wi)(ck:X3 X N scope cl vals)(hcell:∀y∈scope.names,y.2≠.cell)(hkind:scope.kind=.function)(hnames:∀x∈scope.names,x.2=.local->scope.names.lookup x.1=some .local)(hg:∀C s₀ H₀ ex,PG (Yt X N scope cl C s₀ H₀ ex) tg g)(ht:∀C s₀ H₀ ex,PF (Yt X N scope cl C s₀ H₀ ex) ifs tests)(he:∀C s₀ H₀ ex,PE (Yt X N scope cl C s₀ H₀ ex) elt te)(hs:∀x,foldedSetIterable iter X.env x=pure x:=by intro _;rfl):PE X (.ListComp elt [⟨tg,iter,ifs,0⟩] scope pos) (Vv wi g tests te vals):=by
 intro y4 s U H Q I h;rw[eval_ListComp];refine wpAny_comprehension_free (use:=none) rfl hs ck.clos hkind hnames (Z0 (hi y4 s U H _ I h) λv s1 h1=>Z0 h1 λitv s2 h2=>?_);obtain⟨it,fp,tn,J,H2,e,I2,T,st2,f2,q⟩:=h2;subst e;refine wJ (RR:=λacc C=>compPost (model X.prog X.w) X.A X.xe none (EP X y4 U Q) acc C) I2 T st2 f2 hc ck hcell hkind hg ht he q λD C s' H' m hn q' back _=>?_;exact⟨m,hn,λh'' hsb=>⟨.ref D,H',back h'' hsb,rfl,q'⟩⟩
def qD{i:Nat}(hN:X.N.Nodup)(hix:X.N[i]?=some x)(hx:Loc X.env.scope x)(hc:X.calm=true)(hi:PI X tg iter wi)(ck:X3 X N scope cl vals)(hcell:∀y∈scope.names,y.2≠.cell)(hkind:scope.kind=.function)(hnames:∀x∈scope.names,x.2=.local->scope.names.lookup x.1=some .local)(hg:∀C s₀ H₀ ex,PG (Yt X N scope cl C s₀ H₀ ex) tg g)(ht:∀C s₀ H₀ ex,PF (Yt X N scope cl C s₀ H₀ ex) ifs tests)(he:∀C s₀ H₀ ex,PE (Yt X N scope cl C s₀ H₀ ex) elt te)(hsw:swapsWith (.ListComp elt [⟨tg,iter,ifs,0⟩] scope pos) (some (.Name x py)) spos.line X.env=pure true:=by rfl)(hf:X.fn x=true\/X.env.scope.names.lookup x=some .local:=by first|exact .inl rfl|exact .inr rfl|assumption)(hs:∀x,foldedSetIterable iter X.env x=pure x:=by intro _;rfl):PS X (.Assign [.Name x py] (.ListComp elt [⟨tg,iter,ifs,0⟩] scope pos) spos) (V5 (Vv wi g tests te vals) (pM i)):=by
 intro y4 s U H D I h;rw[exec_Assign_Name_used _ _ _ _ hsw];refine Ae (Fk (Ae ?_));show wpAny _ X.A (do let _ <-comprehension (.ListComp elt [⟨tg,iter,ifs,0⟩] scope pos) scope X.env _ (newList []) false (eval iter X.env) (some (assign (.Name x py) X.env))) _ _ s
 refine Ae (Ck (wpAny_comprehension_free (use:=some (assign (.Name x py) X.env)) (Q:=λ_ s'=>SP X y4 D .next s') rfl hs ck.clos hkind hnames
  (Z0 (hi y4 s U H _ I h) λv s1 h1=>Z0 h1 λitv s2 h2=>?_)) (λ_ s' hq=>Am (Am hq)) λ_ _ e=>e)
 obtain⟨it,fp,tn,J,H2,e,I2,T,st2,f2,q⟩:=h2;subst e;refine wJ (RR:=λacc C=>compPost (model X.prog X.w) X.A X.xe (some (assign (.Name x py) X.env)) (λ_ s'=>SP X y4 D .next s') acc C) I2 T st2 f2 hc ck hcell hkind hg ht he q λDl C s' H' m hn q' back fC=>?_;show wpAny _ X.A (assign (.Name x py) X.env (.ref Dl)) _ _ s'
 have I':Inv X y4 U H' s':=back s'.heap (Heap.SameBut.refl ..)
 refine wpAny_assign_Name (tJ I' hN hix hx (v:=.ref Dl) rfl (λs'' I'' hsb=>?_) hf);obtain⟨a,hsb,ha⟩:=hsb;have hCa:C≠a:=by
  rcases ha with z|z
  .rw[z];exact fC.2.1
  .exact λe=>fC.2.2.2.2.1 x a z e.symm
 refine⟨m,hn.sameBut hsb hCa,λh3 hsb3=>?_⟩;exact⟨U.set i (some (.ref Dl)),H',I''.turned (t':=s''.toks) (λb o hb e=>(hsb3.2 b hb).trans e) fC.1 fC.2.1 fC.2.2.2.1 fC.2.2.2.2.1 fC.2.2.2.2.2,q'⟩
def VJ(hfree:∀x∈scope.names,x.2≠.free)(hcell:∀y∈scope.names,y.2≠.cell):X3 X N scope [] (λ_=>N.map λ_=>none) where
 clos:=closureFor_none hfree
 sub:=λx c h=>nomatch h
 has:=λx h=>by
  have e:(relabel scope X.env).names=scope.names:=by
   show List.map _ scope.names=scope.names
   refine map_eq_self λy hy=>?_;obtain⟨n,k⟩:=y;have:(k==NameKind.free)=false:=by simpa using hfree _ hy
   simp[this]
  rw[e]at h;rcases h with h|h
  .exact absurd rfl (hcell _ (Cz h))
  .exact absurd rfl (hfree _ (Cz h))
 len:=λU=>by simp
 val:=λU i x v h1 h2=>by
  rw[Af]at h2;cases e:N[i]? with
  |none=>rw[e]at h2;cases h2
  |some y=>rw[e]at h2;cases h2
end
section
variable {U0:St}
def NW{J:It}{xs:List V}{ok:Hp->Prop}(f:V->Option V)(hgo:∀(i:Nat) H,ok H->i<xs.length->J.go i H)(hst:∀H,ok H->J.stop xs.length H)(hy:∀(i:Nat) H x H',ok H->J.Xs i H x H'->H'=H/\xs[i]?=some x)(Z7:∀D ys,H1 D=none->ok (upd H1 D (.lst ys)))(hlen:xs.length<sizeLine)(hs:∀(i:Nat) x Hc (A:VK) (B:Hp->Prop),xs[i]?=some x->ok Hc->(match f x with|some y=>A y Hc|none=>B Hc)->g x U0 Hc λU2 H2=>Wk U0 U2/\tests U2 H2 λb H3=>if b=true then te U2 H3 A else B H3)(fin:∀D,H1 D=none->Q (.ref D) (upd H1 D (.lst (xs.filterMap f)))):eG g tests te U0 Q J H1:=by
 intro D hD;refine⟨λi m Hc=>m=xs.length-i/\i<=xs.length/\Hc=upd H1 D (.lst ((xs.take i).filterMap f)),⟨xs.length,by simp,Nat.zero_le _,by simp⟩,?_⟩
 rintro i m Hc ⟨rfl,hi,rfl⟩;by_cases hlt:i<xs.length
 .refine .inr ⟨hgo i _ (Z7 D _ hD) hlt,λx H' y=>?_⟩;obtain⟨e,hx⟩:=hy i _ x H' (Z7 D _ hD) y;subst e;refine hs i x _ _ _ hx (Z7 D _ hD) ?_;have tk:xs.take (i+1)=xs.take i++[x]:=by rw[Be,hx];rfl
  cases e:f x with
  |some y=>
   refine⟨_,aD,?_,xs.length-(i+1),by omega,rfl,hlt,?_⟩
   .have:=Do f (xs.take i)
    rw[Bt]at this;omega
   .rw[SA,tk,Cp];simp[e]
  |none=>
   refine⟨xs.length-(i+1),by omega,rfl,hlt,?_⟩
   rw[tk,Cp];simp[e]
 .have e:i=xs.length:=by omega
  subst e;rw[Br];exact .inl ⟨hst _ (Z7 D _ hD),fin D hD⟩
def Ma(f:Nat->Option V)(hl:z.length<sizeLine)(hs:∀(i:Nat) c Hc (A:VK) (B:Hp->Prop),z.cps.toList[i]?=some c->(match f c with|some y=>A y Hc|none=>B Hc)->g (.str ⟨#[c]⟩) U0 Hc λU2 H2=>Wk U0 U2/\tests U2 H2 λb H3=>if b=true then te U2 H3 A else B H3)(fin:∀D,H1 D=none->Q (.ref D) (upd H1 D (.lst (z.cps.toList.filterMap f)))):eG g tests te U0 Q (Xv z) H1:=by
 have hz:z.cps.toList.length=z.length:=by simp[Str.length]
 have hz2:z.cps.size=z.length:=rfl
 refine NW (xs:=z.cps.toList.map λc=>.str ⟨#[c]⟩) (ok:=λ_=>True) (λx=>match x with|.str y=>f (y.cps.toList.headD 0)|_=>none) (λi H _ h=>?_) (λH _=>?_) (λi H x H' _ y=>?_) (λ_ _ _=>trivial) (by rw[Ab,hz];exact hl) (λi x Hc A B hx _ h=>?_) (λD hD=>?_)
 .rw[Ab,hz]at h;exact h
 .show z.cps.size<=_
  rw[Ab,hz];exact Ai _
 .obtain⟨e,c,hc,hx⟩:=y;refine⟨e,?_⟩;rw[Af,Eh,hc,hx];rfl
 .rw[Af]at hx;cases e:z.cps.toList[i]? with
  |none=>rw[e]at hx;cases hx
  |some c=>rw[e]at hx;cases hx;exact hs i c Hc A B e h
 .have q:=fin D hD
  rw[List.filterMap_map];exact q
end
def JH{wi:TI}{vals:St->St}{U:St}(h:wi U H λJ H1=>eG g tests te (vals U) Q J H1):Vv wi g tests te vals U H Q:=h
def LC{U:St}{Q:Bool->Hp->Prop}(h:Q true H):Ug U H Q:=h
def X_(env:Env):List (Str×NameKind)->List (Str×Addr)->List (Str×Addr)
 |[],acc=>acc
 |(n,k)::r,acc=>if k == .free then X_ env r ((n,(env.cells.lookup n).getD 0)::acc) else X_ env r acc
def Vg(ix:List (Option Nat)):St->St:=λU=>ix.map λo=>match o with|none=>none|some j=>(U[j]?).join
def Sa(N XN:List Str)(sn dn:List (Str×NameKind))(ix:List (Option Nat)):Bool:=
 ix.length==N.length&&(sn.all λy=>y.2 != .cell&&(y.2 != .free || dn.lookup y.1==some .cell))&&decide ((sn.map (·.1)).Nodup) &&
 ((List.range N.length).all λi=>match ix[i]? with|some (some j)=>N[i]? == XN[j]? && (match N[i]? with|some x=>sn.lookup x==some .free|none=>false)|_=>true)
def pW:∀(names:List (Str×NameKind)) (acc:List (Str×Addr)),(∀y∈names,y.2=.free->∃c,env.cells.lookup y.1=some c)->
 (forIn names acc (λ(x:Str×NameKind) (cs:List (Str×Addr))=>(match x with
  | (name,kind)=>if (kind == NameKind.free)=true then do
      let a <-cellOf env name
      pure (ForInStep.yield ((name,a)::cs))
   else pure (ForInStep.yield cs):Sem (ForInStep (List (Str×Addr))))))=(pure (X_ env names acc):Sem (List (Str×Addr)))
 |[],acc,_=>rfl
 |(n,k)::r,acc,h=>by
  rw[List.forIn_cons];unfold X_;cases e:k==NameKind.free with
  |false=>
   simp only[e,Bool.false_eq_true,if_false,pure_bind];exact pW r acc λy hy=>h y (Ao _ hy)
  |true=>
   obtain⟨c,hc⟩:=h (n,k) List.mem_cons_self (by simpa using e)
   have hc':env.cells.lookup n=some c:=hc
   simp only[e,if_true,cellOf,hc',Option.getD_some,pure_bind];exact pW r _ λy hy=>h y (Ao _ hy)
def qB:∀(names:List (Str×NameKind)) (acc:List (Str×Addr)) {x:Str} {c:Addr},(X_ env names acc).lookup x=some c->
 acc.lookup x=some c\/((x,NameKind.free)∈names/\c=(env.cells.lookup x).getD 0)
 |[],acc,x,c,h=>.inl h
 |(n,k)::r,acc,x,c,h=>by
  unfold X_ at h;cases e:k==NameKind.free with
  |false=>
   rw[e]at h;rcases qB r acc (by simpa using h) with z|⟨z,q⟩
   .exact .inl z
   .exact .inr ⟨Ao _ z,q⟩
  |true=>
   rw[e]at h;have ek:k=.free:=by simpa using e
   rcases qB r _ (by simpa using h) with z|⟨z,q⟩
   .rw[Dx]at z;cases ex:x==n with
    |true=>
     rw[ex]at z;have exn:x=n:=by simpa using ex
     subst exn;subst ek;cases z;exact .inr ⟨Aq,rfl⟩
    |false=>rw[ex]at z;exact .inl z
   .exact .inr ⟨Ao _ z,q⟩
def vO:∀(names:List (Str×NameKind)) (acc:List (Str×Addr)) {x:Str},(acc.lookup x).isSome=true->((X_ env names acc).lookup x).isSome=true
 |[],acc,x,h=>h
 |(n,k)::r,acc,x,h=>by
  unfold X_;split
  .refine vO r _ ?_;rw[Dx];cases ex:x==n with
   |true=>rfl
   |false=>exact h
  .exact vO r acc h
def nL:∀(names:List (Str×NameKind)) (acc:List (Str×Addr)) {x:Str},(x,NameKind.free)∈names->((X_ env names acc).lookup x).isSome=true
 |(n,k)::r,acc,x,h=>by
  unfold X_;rcases Az.mp h with z|z
  .cases z;simp only[beq_self_eq_true,if_true];refine vO r _ ?_;rw[Dx,Fn];rfl
  .split
   .exact nL r _ z
   .exact nL r acc z
def iC:∀ {names:List (Str×NameKind)} {k':NameKind},(names.map λ(n,k)=>if (k==NameKind.free&&env.scope.kind == .function&&env.kindOf n==some .cell) then (n,NameKind.cell) else (n,k)).lookup x=some k'->
 ∃k,(x,k)∈names/\(k'=k\/(k=.free/\k'=.cell))
 |[],_,h=>by simp at h
 |(n,k)::r,k',h=>by
  rw[Ar]at h;dsimp only at h;cases hc:(k==NameKind.free&&env.scope.kind == .function&&env.kindOf n==some .cell) with
  |true=>
   rw[hc,if_pos rfl,Dx]at h;cases ex:x==n with
   |true=>
    rw[ex]at h;cases h;have:x=n:=by simpa using ex
    subst this;have hk:k=.free:=by
     have:=(Fc _ _).mp hc
     have:=(Fc _ _).mp this.1
     simpa using this.1
    exact⟨k,Aq,.inr ⟨hk,rfl⟩⟩
   |false=>
    rw[ex]at h;obtain⟨k1,h1,h2⟩:=iC h;exact⟨k1,Ao _ h1,h2⟩
  |false=>
   rw[hc,if_neg An,Dx]at h;cases ex:x==n with
   |true=>
    rw[ex]at h;cases h;have:x=n:=by simpa using ex
    subst this;exact⟨k,Aq,.inl rfl⟩
   |false=>
    rw[ex]at h;obtain⟨k1,h1,h2⟩:=iC h;exact⟨k1,Ao _ h1,h2⟩
def pP(hk:env.scope.kind=.function)(hx:env.kindOf x=some .cell):∀ {names:List (Str×NameKind)},names.lookup x=some .free->
 (names.map λ(n,k)=>if (k==NameKind.free&&env.scope.kind == .function&&env.kindOf n==some .cell) then (n,NameKind.cell) else (n,k)).lookup x=some .cell
 |[],h=>by simp at h
 |(n,k)::r,h=>by
  rw[Ar];dsimp only;rw[Dx]at h;cases ex:x==n with
  |true=>
   rw[ex]at h;cases h;have:x=n:=by simpa using ex
   subst this;rw[hk,hx];simp[List.lookup_cons]
  |false=>
   rw[ex]at h;have ih:=pP hk hx h
   split<;>(rw[Dx,ex];exact ih)
def dF{N:List Str}(XN:List Str)(sc:Scope)(ix:List (Option Nat))(hN:X.N=XN)(hsc:X.env.scope=sc)(hk:sc.kind=.function)(hcs:∀x,sc.names.lookup x=some .cell->∃c,X.env.cells.lookup x=some c)(c:Sa N XN scope.names sc.names ix=true):X3 X N scope (X_ X.env scope.names []) (Vg ix):=by
 unfold Sa at c;simp only[Bool.and_eq_true,decide_eq_true_eq,List.all_eq_true,beq_iff_eq]at c;obtain⟨⟨⟨c0,c1⟩,c2⟩,c3⟩:=c;have fr:∀y,(y,NameKind.free)∈scope.names->sc.names.lookup y=some .cell:=λy hy=>by
  have z:=(c1 _ hy).2
  simpa using z
 have nocell:∀y,(y,NameKind.cell)∉scope.names:=λy hy=>by
  have z:=(c1 _ hy).1
  simp at z
 refine⟨?_,λx c h=>?_,λx h=>?_,λU=>?_,λU i x v h1 h2=>?_⟩
 .unfold closureFor;simp only[bind_pure];exact pW scope.names [] λy hy hf=>hcs y.1 (fr y.1 (by rw[<-hf];exact hy))
 .rcases qB _ _ h with z|⟨z,q⟩
  .simp at z
  .obtain⟨c',e⟩:=hcs x (fr x z);rw[q,e];rfl
 .have:∃ k,(x,k)∈scope.names/\k=.free:=by
   rcases h with h|h
   .obtain⟨k,h1,h2⟩:=iC h;rcases h2 with z|⟨z,_⟩
    .subst z;exact absurd h1 (nocell x)
    .exact⟨k,h1,z⟩
   .obtain⟨k,h1,h2⟩:=iC h;rcases h2 with z|⟨z,z2⟩
    .exact⟨k,h1,z.symm⟩
    .exact⟨k,h1,z⟩
  obtain⟨k,h1,rfl⟩:=this;exact Dm.mp (nL scope.names [] h1)
 .unfold Vg;rw[Ab,c0]
 .unfold Vg at h2;rw[Af]at h2;cases e:ix[i]? with
  |none=>rw[e]at h2;cases h2
  |some o=>
   rw[e]at h2;cases o with
   |none=>cases h2
   |some j=>
    have hi:i<N.length:=(Ad.mp h1).1
    have z:=c3 i (By.mpr hi)
    rw[e,h1]at z;simp only[Bool.and_eq_true,beq_iff_eq]at z;have hv:U[j]?=some (some v):=by
     have h3:(U[j]?).join=some v:=by simpa using h2
     cases e2:U[j]? with
     |none=>rw[e2]at h3;cases h3
     |some o=>rw[e2]at h3;cases o with
      |none=>cases h3
      |some u=>cases h3;rfl
    have hm:(x,NameKind.free)∈scope.names:=Cz z.2
    have hx:=fr x hm
    refine⟨j,by rw[hN];exact z.1.symm,hv,by rw[hsc];exact hx,Dm.mp (nL scope.names [] hm),?_⟩
    exact pP (by rw[hsc];exact hk) (by show X.env.scope.names.lookup x=_;rw[hsc];exact hx) z.2
section
open PySem.AutoSeq1 (wpAny_loadPart')
def Qo{c:Bool}{x y:Sem α}{Q:α->Shared->Prop}(h1:wpAny M A x Q E s)(h2:wpAny M A y Q E s):wpAny M A (if c=true then x else y) Q E s:=by
 cases c
 .exact h2
 .exact h1
def Jq(l:Addr)(its:Array Value)(n:Nat)(dc:Option Addr)(sl:Array (Option Value))(k:Int)(t:Tok)(hk:Builtin.SmallTypes.fitsIndex k=true):Meets (Builtin.«enumerate.__new__» ⟨[.type "enumerate",.ref l],[("start",.int k t)]⟩) (λ_ R s=>s.heap.get? l=some ⟨.type "list",dc,.seq its n,sl⟩/\
 R (.ok (.ret (.ref (s.heap.push {cls:=.type "list_iterator",data:=.fields #[.ref l,.int 0 0]}).objs.size)))
  {s with heap:=(s.heap.push {cls:=.type "list_iterator",data:=.fields #[.ref l,.int 0 0]}).push ⟨.type "enumerate",none,.fields #[.none,.bool false,.ref s.heap.objs.size,rawInt k,.none,.none],#[]⟩}):=
 .of_wp λprog w A R s h=>by
  obtain⟨hp,g,d,tk,os⟩:=s;obtain⟨hl,h⟩:=h;have hsub:=sub_enumerate
  have hL:Heap.IsList hp l its:=⟨_,hl,rfl,n,rfl⟩
  have hk':(!Builtin.SmallTypes.fitsIndex k)=false:=by rw[hk];rfl
  wp_walk using Ba hl
  refine wpAny_stack_any λst=>Am ?_;refine Qo ?_ ?_ <;>
  .wp_walk using (Ba hl),(Et (s:=⟨hp,g,d,tk,os⟩) hL)
   exact⟨_,rfl,h⟩
def uQ{Bn:Builtin}{args:List Value}{kw:List (Str×Value)}{S:PySem.Spec}{Q Q1:Q0}(ft:TypeCalled T newId "object.__init__")(hct:checkTypeCall T ⟨args,kw⟩=pure ())(hcn:checkBuiltinCall newId ⟨.type T::args,kw⟩=pure ())(eN:entryFor table newId=some Bn)(g:Meets (Bn ⟨.type T::args,kw⟩) S)(h:S A.in1 (wants Q1 E) s)(hnx:∀o s1,Q1 o s1->s1.TypeIs o T/\argsOk "object.__init__" ⟨o::args,kw⟩/\∃Si,Meets (Builtin.«object.__init__» ⟨o::args,kw⟩) Si/\Si A.in1 (wants (λr s2=>r=.none/\Q o s2) E) s1):wpAny (model prog w) A (call (.type T) args kw) Q E s:=by
 obtain⟨c,tl,hmro⟩:=ft.mro;have hmade:=ft.made
 have hsub:=ft.sub
 have h1:=ft.notType
 have h2:=ft.canCreate
 refine Gj (codeAny_of_tree (show wpAny _ _ (callAny (.type T) _) _ _ _ from Am ⟨Code.quiet_builtin _ (by decide +kernel),Dh F.entry_type_call ?_⟩))
 rw[Around.under_plain (weight_type_call_type T args kw) (units_type_call_type T args kw)];repeat (any_goals first|assumption|wp_step)
 refine Fy (Eo ft.plain eN (Hn hcn (g prog w A.in1 _ s h))) ?_;rintro(e|fl) s1 hr
 .exact hr
 .cases fl with
  |ret o=>
   obtain⟨hT,Z7,Si,gi,hsi⟩:=hnx _ _ hr;have hli:=ft.init.lookup
   have hbi:=ft.init.bind o
   repeat (any_goals first|assumption|wp_step)
   refine Fy (Eo ft.init.plain F.entry_object_init (ft.init.check _ _ _ _ _ _ _ _ hT Z7 (gi prog w A.in1 _ s1 hsi))) ?_;rintro(e|fl2) s2 hr2
   .exact hr2
   .cases fl2 with
    |ret r=>
     obtain⟨rfl,hq⟩:=hr2;repeat (any_goals first|assumption|wp_step)
    |_=>exact hr2.elim
  |_=>exact hr.elim
def LY{self:Value}{rest:List Value}{kw:List (Str×Value)}(hl:typeLookup (.type T) "__init__"=pure (some (.builtin "object.__init__")))(hm:Bind.madeBy (.type T)=pure (some newId))(hne:(some newId != some "object.__new__")=true):Meets (Builtin.«object.__init__» ⟨self::rest,kw⟩) (λ_ R s=>s.TypeIs self T/\R (.ok (.ret .none)) s):=by
 refine Meets.of_wp λprog w A R s hs=>?_;obtain⟨hT,hq⟩:=hs;cases rest with
 |nil=>
  cases kw with
  |nil=>exact Am ⟨_,rfl,hq⟩
  |cons a r=>
   repeat (any_goals first|assumption|wp_step)
   exact⟨_,rfl,hq⟩
 |cons a r=>
  repeat (any_goals first|assumption|wp_step)
  exact⟨_,rfl,hq⟩
def vL{its:Array Value}{k:Int}{t:Tok}{Q:Q0}(hk:Builtin.SmallTypes.fitsIndex k=true)(hL:s.heap.IsList l its)(h:∀h',IsEnum h' (s.heap.objs.size+1) s.heap.objs.size k .none->h'.IsListIter s.heap.objs.size l 0->h'.objs.size=s.heap.objs.size+2->(∀b o,s.heap.get? b=some o->h'.get? b=some o)->Q (.ref (s.heap.objs.size+1)) {s with heap:=h'}):wpAny (model prog w) A (call (.type "enumerate") [.ref l] [("start",.int k t)]) Q E s:=by
 obtain⟨⟨c,dc,dt,sl⟩,hl,hc,n,hd⟩:=hL;obtain rfl:c=.type "list" := hc;obtain rfl:dt=.seq its n:=hd;have hz:(s.heap.push {cls:=.type "list_iterator",data:=.fields #[.ref l,.int 0 0]}).objs.size=s.heap.objs.size+1:=Heap.size_push ..
 refine uQ (Q1:=λo s1=>s1.TypeIs o "enumerate"/\Q o s1) F.called_enumerate (by kernel_rfl) (by kernel_rfl) F.entry_enumerate_new (Jq l its n dc sl k t hk) ⟨hl,?_⟩ λo s1 hq=>⟨hq.1,?_,_,LY F.called_enumerate.init.lookup F.called_enumerate.made (by decide),hq.1,rfl,hq.2⟩
 .show _/\_
  rw[hz];have he:IsEnum ((s.heap.push {cls:=.type "list_iterator",data:=.fields #[.ref l,.int 0 0]}).push ⟨.type "enumerate",none,.fields #[.none,.bool false,.ref s.heap.objs.size,rawInt k,.none,.none],#[]⟩) (s.heap.objs.size+1) s.heap.objs.size k .none:=by
   have q:=Ax (s.heap.push {cls:=.type "list_iterator",data:=.fields #[.ref l,.int 0 0]}) (o:=⟨.type "enumerate",none,.fields #[.none,.bool false,.ref s.heap.objs.size,rawInt k,.none,.none],#[]⟩) rfl
   rwa [hz]at q
  exact⟨⟨_,he,rfl⟩,h _ he ⟨_,Ag _ (Ax _ rfl),rfl,rfl⟩ (by rw[Heap.size_push,hz]) λb o x=>Ag _ (Ag _ x)⟩
 .unfold argsOk;rw[signature?_of (n:=['_','_','t','i','n','i','_','_']) (o := "tcejbo".toList) (by kernel_rfl) F.owner_object]
  kernel_rfl
def pR{P:Nat->Value->Prop}{S:Nat->Heap->Prop}(k:Nat)(D:Draws prog w A it fp n P S):Draws prog w A it fp (k+n) (λj v=>P (j-k) v) (λj h=>k<=j/\S (j-k) h) where
 live:=λi h st=>D.live _ h st.2
 frame:=λi h h' st kk=>⟨st.1,D.frame _ h h' st.2 kk⟩
 item:=λi s Q E hi st hQ=>D.item (i-k) s Q E (by have:=st.1;omega) st.2 λx h' tk hP hS sb=>hQ x h' tk hP ⟨by have:=st.1;omega,by rw[show i+1-k=i-k+1 by have:=st.1;omega];exact hS⟩ sb
 done:=λs Q E st hE=>D.done s Q E (by have q:=st.2;rwa [show k+n-k=n by omega]at q) hE
section
variable {U:St}
def Inv.Yx{ch:List Addr}{o:HO}{t':Nat}(I:Inv X y4 U H s)(hch:∀b∈ch,kO X y4 H b)(k:∀b u,b∉ch->s.heap.get? b=some u->h'.get? b=some u)(hp:s.heap.objs.size<=a)(new:Z3 X.prog X.w (upd H a o) h' a o):Inv X y4 U (upd H a o) {s with heap:=h',toks:=t'}:=by
 have hn:=I.Z7.fresh hp
 have nch:∀b u,H b=some u->b∉ch:=λb u e z=>by rw[(hch b z).1]at e;cases e
 refine I.step (g':=s.gens) (d':=s.drawn) (ch:=ch) (λb hb=>?_) (λb o _ _ hc e _=>k b o hc e) (λb o _ _ hc e _=>⟨o.slots,k b o hc e⟩) (λb o _ e n=>?_) (λb o hc e=>⟨o,k b o hc e⟩)
  (λb xs e=>by rw[aI (bM e hn)];exact e) (λb o u e=>by rw[aI (bM e hn)];exact e) (λb ps e=>⟨#[],by rw[aI (bM e hn),e];simp⟩) (λm hm=>?_) (λb u e=>?_) I.bare
 .obtain⟨_,q1,_,q3,q4,q5⟩:=hch b hb;exact⟨q3,q1,q4,q5⟩
 .rw[aI (Bj (Bb (As e) hp))];exact n
 .obtain⟨ob,es,ep,ho,r⟩:=hm;exact⟨ob,es,ep,k _ ob (λz=>(hch _ z).2.1 rfl) ho,r⟩
 .by_cases hb:b=a
  .subst hb;rw[aD]at e;cases e;exact new
  .rw[aI hb]at e;refine(I.Z7 b u e).ZE (λc v hc q=>k c v ?_ q) (λc q=>by rw[aI (bM q hn)];exact q) λc xs q=>by rw[aI (bM q hn)];exact q
   rcases hc with z|z
   .rw[z];exact nch b u e
   .exact nch c _ z
def Inv.Yg{ch:List Addr}{t':Nat}(I:Inv X y4 U H s)(hch:∀b∈ch,kO X y4 H b)(k:∀b u,b∉ch->s.heap.get? b=some u->h'.get? b=some u):Inv X y4 U H {s with heap:=h',toks:=t'}:=by
 have nch:∀b u,H b=some u->b∉ch:=λb u e z=>by rw[(hch b z).1]at e;cases e
 refine I.step (g':=s.gens) (d':=s.drawn) (ch:=ch) (λb hb=>?_) (λb o _ _ hc e _=>k b o hc e) (λb o _ _ hc e _=>⟨o.slots,k b o hc e⟩) (λb o _ e n=>n) (λb o hc e=>⟨o,k b o hc e⟩)
  (λb xs e=>e) (λb o u e=>e) (λb ps e=>⟨#[],by rw[e];simp⟩) (λm hm=>?_) (λb u e=>?_) I.bare
 .obtain⟨_,q1,_,q3,q4,q5⟩:=hch b hb;exact⟨q3,q1,q4,q5⟩
 .obtain⟨ob,es,ep,ho,r⟩:=hm;exact⟨ob,es,ep,k _ ob (λz=>(hch _ z).2.1 rfl) ho,r⟩
 .refine(I.Z7 b u e).ZE (λc v hc q=>k c v ?_ q) (λc q=>q) λc xs q=>q;rcases hc with z|z
  .rw[z];exact nch b u e
  .exact nch c _ z
end
def Xo(K:W.Frag)(a:Addr)(k:Nat):It:=
 ⟨λi H=>∃xs x,ZJ K H a xs/\xs[i]?=some x,λi H v H'=>∃p x,H p=none/\v=.ref p/\H'=upd H p (.tup [.int ((k+i:Nat):Int),x])/\∀xs,ZJ K H a xs->xs[i]?=some x,λi H=>∃xs,ZJ K H a xs/\xs.length=i⟩
def Jn(a e it:Addr)(k:Nat)(hei:e≠it):Turn P w K (.Tuple elts x1 tp) (Xo K a k) [e,it] e (λi h=>(∃old,IsEnum h e it ((k+i:Nat):Int) old)/\h.IsListIter it a i) where
 mem:=by simp
 obj:=λi h st b hb=>by
  obtain⟨⟨old,he⟩,o,ho,c,d⟩:=st;rcases Az.mp hb with z|z
  .subst z;exact⟨_,he,λv z=>by cases z⟩
  .rw[Bc.mp z];exact⟨o,ho,λv z=>by rw[d]at z;cases z⟩
 keep:=λi h h' st kk=>⟨let ⟨old,he⟩:=st.1;⟨old,kk e (by simp) _ he⟩,st.2.at λo q=>kk it (by simp) o q⟩
 item:=by
  intro X hP hw hK hc i y4 s U H E I hf st hg;subst hP hw hK;obtain⟨xs,x,hq,hx⟩:=hg;obtain⟨its,rv,p,hz⟩:=I.list hq;obtain⟨u,hu,ru⟩:=rv.get hx;obtain⟨⟨old,he⟩,hit⟩:=st;have hai:a≠it:=by
   rintro rfl;obtain⟨o,ho,c,_⟩:=hit;obtain⟨o2,ho2,c2,_⟩:=p.isList;rw[ho]at ho2;cases ho2;rw[c]at c2;injection c2 with c2;exact absurd c2 (by decide)
  have hae:a≠e:=by
   rintro rfl;obtain⟨o2,ho2,c2,_⟩:=p.isList;rw[he]at ho2;cases ho2;injection c2 with c2;exact absurd c2 (by decide)
  have hl:=rv.length
  have hil:i<its.length:=(Ad.mp hu).1
  have D:=pR k (Draws.list (prog:=X.prog) (w:=X.w) (A:=X.A.in1) (show X.A.in1.handled=none from I.ok.hd hc) it a hai its.toArray)
  refine wpAny_pyNext_enum_itemD D (i:=k+i) he ⟨Fo _ _,by rw[Fp];exact⟨hit,p.isList⟩⟩ (by rw[Ay];omega) hei (λz=>by
   rcases Az.mp z with z|z
   .exact hei z
   .exact hae (Bc.mp z).symm) λy h1 tk hP ho hS hT hsz kk=>?_
  refine⟨_,rfl,wpAny_letOwnedTupleGo_enum ho λh2 he2 hs2=>?_⟩;have ey:y=u:=by
   have hP':its.toArray[k+i-k]?=some y:=hP
   rw[Fp]at hP';have:its[i]?=some y:=by simpa using hP'
   rw[hu]at this;cases this;rfl
  subst ey;have hTe:s.heap.objs.size≠e:=Fx (As he)
  have hTi:s.heap.objs.size≠it:=by obtain⟨o,q,_⟩:=hit;exact Fx (As q)
  have hT2:h2.get? s.heap.objs.size=some {cls:=.type "tuple",data:=.seq #[.int ((k+i:Nat):Int) tk,y]}:=(hs2.2 _ hTe).trans hT
  have hS':h1.IsListIter it a (i+1):=by
   have q:=hS.2.1
   rwa [show k+i+1-k=i+1 by omega]at q
  have I2:Inv X y4 U (upd H s.heap.objs.size (.tup [.int ((k+i:Nat):Int),x])) {s with heap:=h2,toks:=tk+1}:=by
   refine I.Yx (ch:=[e,it]) hf (λb u hb q=>(hs2.2 b (λz=>hb (by simp[z]))).trans (kk b u (λz=>hb (by simp[z])) (λz=>hb (by simp[z])) q)) (Nat.le_refl _) ⟨bE (by show 2<=_;omega),[.int ((k+i:Nat):Int) tk,y],.cons ⟨tk,rfl⟩ (.cons ru .nil),_,hT2,rfl,_,rfl⟩
  refine⟨.ref s.heap.objs.size,_,I2,rfl,⟨_,x,I.Z7.fresh (Ai _),rfl,rfl,λys hy=>by rw[I.Zg hy hq];exact hx⟩,⟨⟨y,he2⟩,hS'.at λo q=>(hs2.2 it hei.symm).trans q⟩,λb hb=>?_⟩
  rcases Az.mp hb with z|z
  .rw[z,aI hTe.symm];exact(hf e (by simp)).1
  .rw[List.mem_singleton.mp z,aI hTi.symm];exact(hf it (by simp)).1
 done:=by
  intro X hP hw hK hc i y4 s U H E I hf st hg;subst hP hw hK;obtain⟨xs,hq,hx⟩:=hg;obtain⟨its,rv,p,hz⟩:=I.list hq;obtain⟨⟨old,he⟩,hit⟩:=st;have hl:=rv.length
  have hai:a≠it:=by
   rintro rfl;obtain⟨o,ho,c,_⟩:=hit;obtain⟨o2,ho2,c2,_⟩:=p.isList;rw[ho]at ho2;cases ho2;rw[c]at c2;injection c2 with c2;exact absurd c2 (by decide)
  have D:=pR k (Draws.list (prog:=X.prog) (w:=X.w) (A:=X.A.in1) (show X.A.in1.handled=none from I.ok.hd hc) it a hai its.toArray)
  refine wpAny_pyNext_enum_endD D he ⟨Fo _ _,by rw[Fp,Ay,<-hl,hx];exact⟨hit,p.isList⟩⟩ λh' eb=>⟨rfl,?_⟩
  exact I.Yg (t':=s.toks) (ch:=[e,it]) hf λb u hb q=>eb b u (λz=>hb (by simp[z])) q
 self:=λ_ _ _ _ _ st h=>let ⟨⟨_,he⟩,_⟩:=st;wpAny_pyIter_enum he h
section
variable {l:Expr} {tk:TA} {p kp:Pos}
def W8(R:Addr->Hp->Prop):List V->Hp->Prop:=λvs H=>match vs with|[.ref j]=>R j H|_=>False
def S4{R:Addr->Hp->Prop}{vs:List V}(q:W8 R vs H):∃j,vs=[.ref j]/\R j H:=by
 unfold W8 at q;split at q
 .exact⟨_,rfl,q⟩
 .exact q.elim
def SW(K:W.Frag)(ta:TA):TI:=λU H R=>ta U H (W8 λa H1=>Yq (Z8 H1 a) (R (Xo K a 0) H1))
def RW(K:W.Frag)(ta tk:TA):TI:=λU H R=>ta U H (W8 λa H1=>tk U H1 (zN λk H2=>(0<=k/\k<2^62)/\Yq (Z8 H2 a) (R (Xo K a k.toNat) H2)))
def Ud{U:St}{s1:Shared}{k:Nat}(I1:Inv X y4 U H1 s1)(he:IsEnum h' (s1.heap.objs.size+1) s1.heap.objs.size ((k:Nat):Int) .none)(hi:h'.IsListIter s1.heap.objs.size a 0)(hz:h'.objs.size=s1.heap.objs.size+2)(hk:∀b o,s1.heap.get? b=some o->h'.get? b=some o)(q:R (Xo X.K a k) H1):wpAny (model X.prog X.w) X.A (pyIter (.ref (s1.heap.objs.size+1))) (UJ X y4 U (.Tuple elts x1 tp) R) E {s1 with heap:=h'}:=by
 refine wpAny_pyIter_enum (s:={s1 with heap:=h'}) he ⟨_,[s1.heap.objs.size+1,s1.heap.objs.size],_,_,H1,rfl,I1.kept (t':=s1.toks) hk,Jn a _ _ k (Nat.succ_ne_self _),⟨⟨_,he⟩,hi⟩,λb hb=>?_,q⟩
 have z:s1.heap.objs.size<=b:=by
  rcases Az.mp hb with z|z
  .rw[z];exact Nat.le_succ _
  .rw[Bc.mp z];exact Ai _
 exact I1.YJ z (I1.Z7.fresh z)
def vN(hg:Gl X "enumerate")(hm:X.mg "enumerate"=none)(ha:PA X [l] ta)(hs:starEach [l] X.env=[(false,eval l X.env)]:=by rfl):PI X (.Tuple elts x1 tp) (.Call (.Name "enumerate" p) [l] [] pos) (SW X.K ta):=by
 intro y4 s U H R I h;refine Call_ (gK I hg hm boot_enumerate (Dz (Z0 (ha pos y4 s U H _ I h) λus s1 ⟨vs,H1,I1,r1,q1⟩=>?_) hs rfl));obtain⟨a,rfl,q⟩:=S4 q1;obtain⟨u,rfl,ru⟩:=eE r1;cases ru;unfold Yq at q;split at q
 .rename_i xs ex
  obtain⟨its,rv,p,hz⟩:=I1.list (aT ex);exact call_enumerate_list p.isList λh' he hi hz hk=>Ud I1 (k:=0) he hi hz hk q
 .exact q.elim
def vJ{args:List (Bool×Sem Value)}{kw:List (Option Str×Sem Value)}{Q:Q0}(h1:args.any (·.1)=false)(h2:kw.any (·.1.isNone)=false)(h:wpAny M A (evalArgs (.type T) true args kw) (λa s1=>wpAny M A (call (.type T) a.pos a.kw) Q E s1) E s):wpAny M A (callWith pos (.type T) [] args kw) Q E s:=by
 unfold callWith;refine Ae (Cf (Ck h (λa s1 q1=>Ae (Fk ?_)) λ_ _ x=>x));rw[h1,h2];exact Ae (Am (Ae (Ck q1 (λr s2 hr=>Ae (Cf (wpAny_point (Am hr)))) λ_ _ x=>x)))
def Pb{kx:Expr}(hg:Gl X "enumerate")(hm:X.mg "enumerate"=none)(ha:PA X [l] ta)(hk:PK X [⟨some "start",kx,kp⟩] tk)(hs:starEach [l] X.env=[(false,eval l X.env)]:=by rfl)(hks:keywordEach [⟨some "start",kx,kp⟩] X.env=[(some ("start" : Str),eval kx X.env)]:=by rfl):PI X (.Tuple elts x1 tp) (.Call (.Name "enumerate" p) [l] [⟨some "start",kx,kp⟩] pos) (RW X.K ta tk):=by
 intro y4 s U H R I h;have hs2:backTo pos (starEach [l] X.env)=[(false,eval l X.env)]:=by rw[hs];rfl
 refine Du (gK I hg hm boot_enumerate (vJ (by rw[hs2];rfl) (by rw[hks];rfl) ?_))
 rw[hs2];refine evalArgs_kwB (by rw[hks];rfl) ?_
 rw[<-hs2];refine Z0 (ha pos y4 s U H _ I h) λus s1 ⟨vs,H1,I1,r1,q1⟩=>?_;obtain⟨a,rfl,q⟩:=S4 q1;refine Z0 (hk pos y4 s1 U H1 _ I1 q) λws s2 ⟨zs,H2,I2,r2,q2⟩=>?_;obtain⟨k,rfl,⟨k0,k1⟩,q⟩:=T9 q2;obtain⟨u,rfl,ru⟩:=eE r1;cases ru;obtain⟨u,rfl,t,rfl⟩:=eE r2;unfold Yq at q;split at q
 .rename_i xs ex
  obtain⟨its,rv,p,hz⟩:=I2.list (aT ex);have e:(backToKw pos (keywordEach [⟨some "start",kx,kp⟩] X.env)).filterMap (·.1)=(["start"]:List Str):=by rw[hks];rfl
  rw[e];refine vL (by unfold Builtin.SmallTypes.fitsIndex;rw[Ap (by omega),Ap (by omega)];rfl) p.isList λh' he hi hz hk=>Ud I2 (k:=k.toNat) ?_ hi hz hk q
  rw[show ((k.toNat:Nat):Int)=k by omega]
  exact he
 .exact q.elim
end
section
variable {k:Nat} {tb:TS} {U U0:St}
def Tq(Pv:Nat->St->Hp->Prop)(h0:Pv 0 U H)(hl:∀i U H,i<=xs.length->Pv i U H->Z8 H a=some xs)(hs:∀i x U H p,xs[i]?=some x->Pv i U H->H p=none->g (.ref p) U (upd H p (.tup [.int ((k+i:Nat):Int),x])) λU2 H2=>tb {D with nx:=Pv (i+1),ct:=Pv (i+1),bk:=D.nx} U2 H2)(hd:∀U H,Pv xs.length U H->D.nx U H):xD (Xo K a k) g tb D U H:=by
 refine⟨λi m U H=>m=xs.length-i/\i<=xs.length/\Pv i U H,⟨xs.length,by simp,Nat.zero_le _,h0⟩,?_⟩
 rintro i m U H ⟨rfl,hi,p⟩;have hr:=hl i U H hi p
 by_cases hlt:i<xs.length
 .refine .inr ⟨⟨xs,xs[i],aT hr,by simp[hlt]⟩,Pv (i+1),λU' H' p'=>⟨xs.length-(i+1),by omega,rfl,hlt,p'⟩,λx H' y=>?_⟩
  obtain⟨q,z,hq,rfl,rfl,hz⟩:=y;exact hs i z U H q (hz xs (aT hr)) p hq
 .have e:i=xs.length:=by omega
  subst e;exact .inl ⟨⟨xs,aT hr,rfl⟩,hd U H p⟩
def QG(f:Nat->V->Option V)(ha:Z8 H1 a=some xs)(hl:xs.length<sizeLine)(hs:∀(i:Nat) x Hc p (A:VK) (B:Hp->Prop),xs[i]?=some x->Z_ H1 Hc->Hc p=none->(∀Hd,Z_ (upd Hc p (.tup [.int ((k+i:Nat):Int),x])) Hd->match f i x with|some y=>A y Hd|none=>B Hd)->
 g (.ref p) U0 (upd Hc p (.tup [.int ((k+i:Nat):Int),x])) λU2 H2=>Wk U0 U2/\tests U2 H2 λb H3=>if b=true then te U2 H3 A else B H3)(fin:∀D Hd,H1 D=none->Z_ H1 Hd->Z8 Hd D=some ((List.range xs.length).filterMap λi=>f i (xs.getD i .non))->Q (.ref D) Hd):eG g tests te U0 Q (Xo K a k) H1:=by
 intro D hD;refine⟨λi m Hc=>m=xs.length-i/\i<=xs.length/\Z_ H1 Hc/\Hc D=some (.lst ((List.range i).filterMap λi=>f i (xs.getD i .non))),⟨xs.length,by simp,Nat.zero_le _,aF hD _,by rw[aD];rfl⟩,?_⟩
 rintro i m Hc ⟨rfl,hi,sm,hDc⟩;have hr:=aG sm ha
 by_cases hlt:i<xs.length
 .refine .inr ⟨⟨xs,xs[i],aT hr,by simp[hlt]⟩,λv H' y=>?_⟩
  obtain⟨q,z,hq,rfl,rfl,hz⟩:=y;have hx:=hz xs (aT hr)
  have hg:xs.getD i .non=z:=by rw[Ac,hx];rfl
  refine hs i z Hc q _ _ hx sm hq λHd sd=>?_;have hDd:Hd D=some (.lst ((List.range i).filterMap λi=>f i (xs.getD i .non))):=sd _ _ (aF hq _ _ _ hDc)
  have sH:Z_ H1 Hd:=sm.trans ((aF hq _).trans sd)
  cases e:f i z with
  |some y=>
   refine⟨_,hDd,?_,xs.length-(i+1),by omega,rfl,hlt,λb o hb=>?_,?_⟩
   .have:=Do (λi=>f i (xs.getD i .non)) (List.range i)
    rw[Bm]at this;omega
   .rw[aI (bM hb hD)];exact sH b o hb
   .rw[aD,Cm,Cp,Dp (b:=y) (by rw[hg,e]),Dw]
  |none=>
   refine⟨xs.length-(i+1),by omega,rfl,hlt,sH,?_⟩
   rw[hDd,Cm,Cp,Ej (by rw[hg,e]),Dw,Bq]
 .have e:i=xs.length:=by omega
  subst e;exact .inl ⟨⟨xs,aT hr,rfl⟩,fin D Hc hD sm (aL hDc)⟩
def KL(h:ta U H (W8 λa H1=>Yq (Z8 H1 a) (R (Xo K a 0) H1))):SW K ta U H R:=h
def QQ{tk:TA}(h:ta U H (W8 λa H1=>tk U H1 (zN λk H2=>(0<=k/\k<2^62)/\Yq (Z8 H2 a) (R (Xo K a k.toNat) H2)))):RW K ta tk U H R:=h
def O9{R:Addr->Hp->Prop}(h:R a H):W8 R [.ref a] H:=h
end
section
variable {t:TG} {u:XJ} {r:List V} {U:St} {Q:St->Hp->Prop}
def L9(e:kN H a=some xs)(hn:xs.length=n)(h:u xs U H Q):U_ K n u (.ref a) U H Q:=⟨a,xs,rfl,.of (fZ e),hn,h⟩
def Mx(h:t v U H λU' H'=>u r U' H' Q):Vy t u (v::r) U H Q:=⟨v,r,rfl,h⟩
def Lc(h:Q U H):Vk [] U H Q:=⟨rfl,h⟩
end
def hJ{K:W.Frag}{i j k:Nat}{y:Str}{px py:Pos}(hK:X.K=K)(hc:X.calm=true)(hN:X.N.Nodup)(hi:X.N[i]?=some x)(hx:Loc X.env.scope x)(hfx:X.fn x=true\/X.env.scope.names.lookup x=some .local)(hj:X.N[j]?=some y)(hy:Loc X.env.scope y)(hfy:X.fn y=true\/X.env.scope.names.lookup y=some .local):PG X (.Tuple [.Name x px,.Name y py] k pos) (U_ K 2 (Vy (pM i) (Vy (pM j) Vk))):=by
 subst hK;exact Vi hc (dM (aQ hN hi hx hfx) (dM (aQ hN hj hy hfy) pV))
end
structure Yv (B:Heap) (l:List Env) (e:Addr) (cls:Value) (d:Option Addr) (fl:Value) (h:Heap):Prop where
 stays:B.StaysIn h
 new:B.get? e=none
 frames:h.FunFrames B l
 on:∃oe vs T oT ts,h.get? e=some oe/\(oe.cls=cls/\oe.dict=d)/\oe.data=.fields vs/\vs[1]?=some (.ref T)/\B.get? T=none/\T≠e/\h.get? T=some oT/\oT.data=.fields ts/\ts[3]?=some fl/\vs[2]?=some .none
def yC(o:Obj)(f:Array Value->Array Value):(o.mapFields f).dict=o.dict:=by
 obtain⟨c,d,dt,sl⟩:=o;cases dt<;>rfl
def tV{vs:Array Value}{f:Obj->Obj}(ha:h.get? a=some o)(hd:o.data=.fields vs):∀b u,h.get? b=some u->(∀ws,u.data≠.fields ws)->(h.update a f).get? b=some u:=λb u e n=>by
 rw[Bp _ _ (λz:a=b=>by rw[<-z,ha]at e;cases e;exact n vs hd)]
 exact e
section
variable {B:Heap} {l:List Env} {L e:Addr} {cls:Value} {Q:Unit->Shared->Prop}
def uI{vs:Array Value}{head:Value}{nx:Bool}(hfr:A.frames=some (env::outer))(hl:s.heap.FunFrames B (env::outer))(hf:env.frame=some L)(hB:B.StaysIn s.heap)(hn:B.get? e=none)(he:s.heap.get? e=some oe)(hd:oe.data=.fields vs)(h1:1<vs.size)(c2:vs[2]?=some .none)(hQ:∀h',Yv B (env::outer) e oe.cls oe.dict (rawInt L) h'->s.heap.UpToSlots h'->Q () {s with heap:=h'}):wpAny M A (do let a <-frameOf env;let pl <-entryPlaceOf L nx;let b <-EntryCells.newEntry head a .none (rawInt L) .none pl;setField (.ref e) 1 b) Q E s:=by
 have ne:e∉(env::outer).filterMap (·.frame):=λhm=>by
  obtain⟨_,o,ho,nf⟩:=hl.mem hm;rw[he]at ho;cases ho;exact nf vs hd
 refine Ae (wpAny_frameOf_fun hfr hl hf λg1 so=>Ae (wpAny_entryPlaceOf λpl hpl=>?_));have e1:g1.get? e=some oe:=(so.2.1 e ne).trans he
 have b1:B.StaysIn g1:=λb o q=>(so.2.1 b λhm=>by rw[(hl.mem hm).1]at q;cases q).trans (hB b o q)
 unfold EntryCells.newEntry newFields;refine Ae (Gg ?_ (hpl.sizeOk5 _ _ _ _ _));generalize hts:(([head,.ref L,.none,rawInt L,.none]++(if pl.isEmpty then List.replicate 6 Value.none else pl):List Value)).toArray=ts
 have t3:ts[3]?=some (rawInt L):=by rw[<-hts];simp
 have e2:=Ag (h:=g1) ⟨.type "traceback",none,.fields ts,#[]⟩ e1
 refine wpAny_setField e2 hd h1 (hQ _ ?_ ?_)
 .have te:g1.objs.size≠e:=Fx (As e1)
  have dm:=Obj.data_mapFields hd (·.setIfInBounds 1 (Value.ref g1.objs.size))
  refine⟨λb o q=>?_,hn,hl.of_keeps λb o q nf=>?_,_,_,g1.objs.size,⟨.type "traceback",none,.fields ts,#[]⟩,ts,Heap.get?_update_self _ e2 (Obj.isFreed_of_fields dm),⟨Obj.cls_mapFields _ _,yC _ _⟩,dm,by simp[h1],b1.fresh,te,?_,rfl,t3,(Array.getElem?_setIfInBounds_ne (by decide)).trans c2⟩
  .rw[Bp _ _ (λz:e=b=>by rw[<-z,hn]at q;cases q)]
   exact Ag _ (b1 b o q)
  .obtain⟨sl,q1⟩:=so.2.2 b o q;exact⟨_,tV e2 hd b _ (Ag _ q1) nf,rfl⟩
  .rw[Bp _ _ te.symm];exact Ax g1 rfl
 .intro b o q nf;obtain⟨sl,q1⟩:=so.2.2 b o q;exact⟨sl,tV e2 hd b _ (Ag _ q1) nf⟩
def NV{vs:Array Value}(hfr:A.frames=some (env::outer))(hl:s.heap.FunFrames B (env::outer))(hf:env.frame=some L)(hB:B.StaysIn s.heap)(hn:B.get? e=none)(he:s.heap.get? e=some oe)(hd:oe.data=.fields vs)(h1:vs[1]?=some .none)(c2:vs[2]?=some .none)(hQ:∀h',Yv B (env::outer) e oe.cls oe.dict (rawInt L) h'->s.heap.UpToSlots h'->Q () {s with heap:=h'}):wpAny M A (noteFrame (.ref e) env) Q E s:=by
 unfold noteFrame;simp only[hf];refine Ae (wpAny_field he hd h1 ?_);rw[if_neg (show ¬((Value.none != Value.none)=true) by decide)]
 exact uI hfr hl hf hB hn he hd (De.mp h1).1 c2 hQ
def xB(hfr:A.frames=some (env::outer))(hf:env.frame=some L)(F:Yv B (env::outer) e cls d .none s.heap)(hQ:∀h',Yv B (env::outer) e cls d (rawInt L) h'->s.heap.UpToSlots h'->Q () {s with heap:=h'}):wpAny M A (noteFrame (.ref e) env) Q E s:=by
 obtain⟨hB,hn,hl,oe,vs,T,oT,ts,he,⟨rfl,rfl⟩,hd,h1,hT,hTe,gT,dT,t3,c2⟩:=F;unfold noteFrame;simp only[hf];refine Ae (wpAny_field he hd h1 ?_);rw[if_pos (show (Value.ref T != Value.none)=true by simp)]
 refine Ae (wpAny_field gT dT t3 ?_);rw[if_neg (show ¬((Value.none==rawInt L)=true) by simp[rawInt])]
 refine Ae (wpAny_setField gT dT (De.mp t3).1 ?_);have keep:∀b,b≠T->(s.heap.update T (Obj.mapFields (·.setIfInBounds 3 Value.none))).get? b=s.heap.get? b:=λb hb=>Bp _ _ (Ne.symm hb)
 refine uI (s:={s with heap:=s.heap.update T (Obj.mapFields (·.setIfInBounds 3 Value.none))}) hfr (hl.of_keeps λb o q nf=>⟨o,tV gT dT b o q nf,rfl⟩) hf
  (λb o q=>(keep b λz=>by rw[z,hT]at q;cases q).trans (hB b o q)) hn ((keep e hTe.symm).trans he) hd (De.mp h1).1 c2 λh' F' up=>hQ h' F' λb o q nf=>up b o (tV gT dT b o q nf) nf
def iE{fl:Value}(F:Yv B l e cls d fl s.heap)(hQ:∀h',Yv B l e cls d .none h'->s.heap.UpToSlots h'->Q () {s with heap:=h'}):wpAny M A (setFlight (.ref e) none) Q E s:=by
 obtain⟨hB,hn,hl,oe,vs,T,oT,ts,he,hc,hd,h1,hT,hTe,gT,dT,t3,c2⟩:=F;have z3:3<ts.size:=(De.mp t3).1
 unfold setFlight;refine Ae (wpAny_field he hd h1 ?_);rw[if_pos (show (Value.ref T != Value.none)=true by simp)]
 refine wpAny_setField gT dT z3 (hQ _ ?_ λb o q nf=>⟨o.slots,tV gT dT b o q nf⟩);have dm:=Obj.data_mapFields dT (·.setIfInBounds 3 Value.none)
 refine⟨λb o q=>?_,hn,hl.of_keeps λb o q nf=>⟨o,tV gT dT b o q nf,rfl⟩,oe,vs,T,_,_,?_,hc,hd,h1,hT,hTe,Heap.get?_update_self _ gT (Obj.isFreed_of_fields dm),dm,by simp[z3],c2⟩
 .rw[Bp _ _ (λz:T=b=>by rw[<-z,hT]at q;cases q)]
  exact hB b o q
 .rw[Bp _ _ hTe];exact he
def Yv.less{fl:Value}(F:Yv B (env::outer) e cls d fl h):Yv B outer e cls d fl h:=⟨F.stays,F.new,F.frames.2.2,F.on⟩
def zP{vs:Array Value}(hfr:A.frames=some (env::outer))(hl:s.heap.FunFrames B (env::outer))(hf:env.frame=some L)(hB:B.StaysIn s.heap)(hn:B.get? e=none)(he:s.heap.get? e=some oe)(hd:oe.data=.fields vs)(h1:vs[1]?=some .none)(c2:vs[2]?=some .none)(hQ:∀h',Yv B outer e oe.cls oe.dict .none h'->s.heap.UpToSlots h'->Q () {s with heap:=h'}):wpAny M A (leaving env (.ref e)) Q E s:=by
 unfold leaving;exact Ae (NV hfr hl hf hB hn he hd h1 c2 λh1 F1 u1=>iE (s:={s with heap:=h1}) F1 λh2 F2 u2=>hQ h2 F2.less (u1.trans u2))
def Lu(hfr:A.frames=some (env::outer))(hf:env.frame=some L)(F:Yv B (env::outer) e cls d .none s.heap)(hQ:∀h',Yv B outer e cls d .none h'->s.heap.UpToSlots h'->Q () {s with heap:=h'}):wpAny M A (leaving env (.ref e)) Q E s:=by
 unfold leaving;exact Ae (xB hfr hf F λh1 F1 u1=>iE (s:={s with heap:=h1}) F1 λh2 F2 u2=>hQ h2 F2.less (u1.trans u2))
end
structure Tb (fs:List Addr) (H H':Hp) (h B h':Heap):Prop where
 keep:∀b o,h.get? b=some o->H b=none->b∉fs->B.get? b=some o
 slot:∀b o,h.get? b=some o->H b=none->b∈fs->∃sl,h'.get? b=some {o with slots:=sl}
 free:∀b o,h.get? b=some o->H b=none->H' b=none
 there:∀b o,h.get? b=some o->b∉fs->∃o',B.get? b=some o'
 tups:∀b xs,H b=some (.tup xs)->H' b=some (.tup xs)
 frzs:∀b o u,H b=some (.frz o u)->H' b=some (.frz o u)
 tbls:∀b ps,H b=some (.tbl ps)->∃more,H' b=some (.tbl (ps++more))
def YG(P:Program)(w:World):Yi:=λouter H s E e s'=>
 ∃(ea:Addr) (cls:Value) (d:Option Addr) (B:Heap) (H':Hp),e=.ref ea/\s'.os=s.os/\AllBare s'.gens/\Yv B outer ea cls d .none s'.heap/\ZD P w H' B/\Tb (Zm outer) H H' s.heap B s'.heap/\E cls d H'
def ZD.down{B:Heap}(x:ZD P w H h)(k:∀b o u,H b=some u->h.get? b=some o->B.get? b=some o):ZD P w H B:=λa u e=>
 (x a u e).ZE (λb o hb q=>by
  rcases hb with z|z
  .subst z;exact k b o u e q
  .exact k b o _ z q) (λ_ q=>q) λ_ _ q=>q
def Z3.get{o:HO}(x:Z3 P w H h a o):∃ob,h.get? a=some ob:=by
 cases o with
 |lst xs=>obtain⟨_,_,_,_,e⟩:=x;exact⟨_,e⟩
 |tup xs=>obtain⟨_,_,_,ob,e,_⟩:=x;exact⟨_,e⟩
 |dK kvs=>obtain⟨_,_,_,_,ob,_,_,e,_⟩:=x;exact⟨_,e⟩
 |dT kvs=>obtain⟨_,_,_,_,ob,_,_,e,_⟩:=x;exact⟨_,e⟩
 |set S n=>obtain⟨ob,_,_,_,e,_⟩:=x;exact⟨_,e⟩
 |ins C dx fs=>obtain⟨_,_,_,e,_⟩:=x;exact⟨_,e⟩
 |own y=>exact x
 |xd fs=>obtain⟨_,⟨od,_,_,e,_⟩,_⟩:=x;exact⟨_,e⟩
 |rng lo hi=>obtain⟨_,_,_,e⟩:=x;exact⟨_,e⟩
 |frz ob u=>exact⟨_,x.1⟩
 |tbl ps=>exact⟨_,x⟩
 |met f y=>exact⟨_,x⟩
 |ext φ=>exact x.2.1
def ZD.hole(x:ZD P w H h)(e:h.get? a=none):H a=none:=by
 cases q:H a with
 |none=>rfl
 |some o=>
  obtain⟨ob,z⟩:=(x a o q).get;rw[e]at z;cases z
def gI{L:Addr}(hf:env.frame=some L)(h1:b≠L)(h2:b∉Zm outer):b∉Zm (env::outer):=λhm=>by
 obtain⟨e,he,q⟩:=Dt.mp hm;rcases Az.mp he with z|z
 .subst z;rw[hf]at q;exact h1 (Bv q).symm
 .exact h2 (Dt.mpr ⟨e,z,q⟩)
section
variable {cd:Value} {s₀:Shared} {H₀:Hp} {E:XK} {U:St}
def uN{vs:Array Value}(I:Inv (fQ (YG P w) P w K mg base N qual scope f cd A outer s₀ H₀ E) y4 U H s)(he:s.heap.get? ea=some oe)(hd:oe.data=.fields vs)(h1:vs[1]?=some .none)(c2:vs[2]?=some .none)(hn:H ea=none)(h0:s₀.heap.get? ea=none)(q:E oe.cls oe.dict H):(fQ (YG P w) P w K mg base N qual scope f cd A outer s₀ H₀ E).xe (.ref ea) s:=by
 have hfr:=I.ok.frames
 have hst:=I.stack
 have hsf:=I.Zd
 have hbase:=I.base
 have hlo:∀b o,s₀.heap.get? b=some o->b≠s₀.heap.objs.size:=λb o e=>Bj (As e)
 have nea:∀b o,s₀.heap.get? b=some o->b≠ea:=λb o e z=>by rw[z,h0]at e;cases e
 have hid:∀b o,s.heap.get? b=some o->b≠ea->b∉Zm (envOfC qual scope s₀.heap.objs.size f cd::outer)->(W.hideAll s.heap (ea::Zm (envOfC qual scope s₀.heap.objs.size f cd::outer))).get? b=some o:=λb o e n1 n2=>
  W.hideAll_get _ e λhm=>(Az.mp hm).elim n1 n2
 refine zP (B:=W.hideAll s.heap (ea::Zm (envOfC qual scope s₀.heap.objs.size f cd::outer))) hfr (W.funFrames_hide hst λenv he b hb=>Ao _ (Dt.mpr ⟨env,he,hb⟩)) rfl (λb o q=>W.of_hideAll _ q)
  (W.hideAll_none _ Aq) he hd h1 c2 λh2 fl up=>?_
 refine⟨ea,_,_,_,H,rfl,I.os,I.bare,fl,I.Z7.down λb o u e g=>hid b o g (λz=>by rw[z,hn]at e;cases e) λhm=>?_,⟨λb o e n hb=>?_,λb o e n hb=>?_,λb o e n=>hbase.free b o e n (by simp[fQ]),λb o e hb=>?_,hbase.tups,hbase.frzs,hbase.tbls⟩,q⟩
 .rw[hsf b hm]at e;cases e
 .exact hid b o (hbase.keep b o e n hb (by simp[fQ])) (nea b o e) (gI rfl (hlo b o e) hb)
 .obtain⟨sl,q1⟩:=hbase.slot b o e n hb (by simp[fQ])
  obtain⟨_,o2,g2,nf⟩:=I.ok.ZA.mem hb;have e2:s₀.heap.get? b=some o2:=g2
  rw[e]at e2;cases e2;obtain⟨sl2,q2⟩:=up b _ q1 nf;exact⟨sl2,q2⟩
 .obtain⟨o',q1⟩:=hbase.there b o e (by simp[fQ])
  exact⟨o',hid b o' q1 (nea b o e) (gI rfl (hlo b o e) hb)⟩
def kC:nX (YG P w) (fQ (YG P w) P w K mg base N qual scope f cd A outer s₀ H₀ E) E:=by
 intro y4 U H s e s' I h;obtain⟨ea,cls,d,B,H',rfl,os,bare,fl,Z7,un,q⟩:=h;have hbase:=I.base
 have hlo:∀b o,s₀.heap.get? b=some o->b≠s₀.heap.objs.size:=λb o e=>Bj (As e)
 refine Lu I.ok.frames rfl fl λh2 fl2 up=>?_;have ns:∀b o,s₀.heap.get? b=some o->b∉Zm outer->b∉Zm (envOfC qual scope s₀.heap.objs.size f cd::outer):=λb o e hb=>gI rfl (hlo b o e) hb
 have ins:∀b,b∈Zm outer->b∈Zm (envOfC qual scope s₀.heap.objs.size f cd::outer):=λb hb=>by
  obtain⟨e,he,q⟩:=Dt.mp hb;exact Dt.mpr ⟨e,Ao _ he,q⟩
 refine⟨ea,cls,d,B,H',rfl,os.trans I.os,bare,fl2,Z7,⟨λb o e n hb=>?_,λb o e n hb=>?_,λb o e n=>?_,λb o e hb=>?_,λb xs e=>un.tups b xs (hbase.tups b xs e),λb o u e=>un.frzs b o u (hbase.frzs b o u e),λb ps e=>?_⟩,q⟩
 .exact un.keep b o (hbase.keep b o e n hb (by simp[fQ])) (hbase.free b o e n (by simp[fQ])) (ns b o e hb)
 .obtain⟨sl,q1⟩:=hbase.slot b o e n hb (by simp[fQ])
  obtain⟨sl1,q2⟩:=un.slot b _ q1 (hbase.free b o e n (by simp[fQ])) (ins b hb)
  obtain⟨_,o2,g2,nf⟩:=I.ok.ZA.mem hb;have e2:s₀.heap.get? b=some o2:=g2
  rw[e]at e2;cases e2;obtain⟨sl2,q3⟩:=up b _ q2 nf;exact⟨sl2,q3⟩
 .obtain⟨o',q1⟩:=hbase.there b o e (by simp[fQ])
  exact un.free b o' q1 (hbase.free b o e n (by simp[fQ]))
 .obtain⟨o',q1⟩:=hbase.there b o e (by simp[fQ])
  exact un.there b o' q1 (ns b o e hb)
 .obtain⟨m1,e1⟩:=hbase.tbls b ps e;obtain⟨m2,e2⟩:=un.tbls b _ e1;exact⟨m1++m2,by rw[e2,Array.append_assoc]⟩
end
def Nw(X:K.In h)(q:W.excIn K C bmB newId=true):∃bm N nm qn bs hd sn sub ab col dd k0 k1 k2 k3 k5 mN,h.get? C=some (excClassObj nm qn C N bs bm hd sn sub ab col dd k0 k1 k2 k3 k5 newId)/\h.Ns N mN/\mN "__init__"=none/\OwnTail h bmB bm:=by
 unfold W.excIn at q;split at q
 .rename_i dd c sl ho
  split at q
  .rename_i C1 bm k0 k1 k2 k3 n k5 hm hs
   obtain⟨⟨⟨⟨⟨q1,q2⟩,q3⟩,q4⟩,q5⟩,q6⟩:((((C1=C/\n=newId)/\c.hasDel=false)/\W.tailIn K bmB bm=true)/\W.nsOkIn K c.ns=true)/\W.nsIn K c.ns "__init__"=some none:=by
    simpa only[Bool.and_eq_true,beq_iff_eq,Bool.not_eq_true']using q
   subst q1 q2;obtain⟨nm,bs,mro,ns,qn,hd,sn,sub,ab,col,del⟩:=c;dsimp only at hm q3 q5 q6;subst hm q3;obtain rfl:sl=#[k0,k1,k2,k3,some (.builtin n),k5]:=by
    obtain⟨l⟩:=sl;have hs':l=_:=hs
    rw[hs']
   exact⟨bm,ns,nm,qn,bs,hd,sn,sub,ab,col,dd,k0,k1,k2,k3,k5,_,X _ _ ho,.of_isNs (W.isNs_of_in X q5),W.nsMap_none_of_in X q5 q6,W.tail_of_in X q4⟩
  .cases q
 .cases q
def Uz(X:Cx)(E:XK):Prop:=∀(y4:List (Addr×Obj)) (U:St) (H:Hp) (s:Shared) (ea:Addr) (oe:Obj) (vs:Array Value),Inv X y4 U H s->s.heap.get? ea=some oe->oe.data=.fields vs->vs[1]?=some .none->vs[2]?=some .none->H ea=none->X.s₀.heap.get? ea=none->
 E oe.cls oe.dict H->X.xe (.ref ea) s
def qC{cd:Value}{s₀:Shared}{H₀:Hp}{E:XK}:Uz (fQ (YG P w) P w K mg base N qual scope f cd A outer s₀ H₀ E) E:=λ_ _ _ _ _ _ _ I he hd h1 c2 hn h0 q=>uN I he hd h1 c2 hn h0 q
section
variable {E:XK} {B initId:String}
def S5(C:Addr)(E:XK)(ta:TA):TS:=λ_ U H=>ta U H λvs H1=>vs.length<=sizeLine/\E (.ref C) none H1
def Pq(hR:Uz X E)(hex:X.ex=[])(hc:X.calm=true)(hg:Gl X x)(hm:X.mg x=some (.ref C))(hx:W.excIn X.K C bmB newId=true)(FB:ExcBaseFacts B newId initId bmB)(ha:PA X (e::es) ta)(hd:(x==("__debug__" : Str))=false:=by decide)(he:starEach (e::es) X.env=(false,eval e X.env)::starEach es X.env:=by rfl)(hpl:(backTo cpos (starEach es X.env)).any (·.1)=false:=by rfl):PS X (.Raise (some (.Call (.Name x np) (e::es) [] cpos)) none pos) (S5 C E ta):=by
 intro y4 s U H D I h;obtain⟨bm,N,nm,q,bs,hdct,sn,sub,ab,col,dd,k0,k1,k2,k3,k5,mN,hC,hN,hni,T⟩:=Nw I.ok.mod.Wr hx;refine wpAny_Raise_call_subT (C:=C) (N:=N) (bm:=bm) (nm:=nm) (q:=q) (bs:=bs) (hdct:=hdct) (sn:=sn) (sub:=sub) (ab:=ab) (col:=col) (dd:=dd) (k0:=k0) (k1:=k1) (k2:=k2) (k3:=k3) (k5:=k5)
  FB (mN:=mN) (T.hasType FB.hasBase) (I.ok.hd hc) (by rw[he];show (false || (backTo cpos (starEach es X.env)).any (·.1))=false;rw[hpl];rfl) hni (iO I hg hm ⟨rfl,?_⟩ hd)
 have h1:=ha cpos y4 s U H _ I h
 rw[he]at h1 ⊢;refine Calls.evalArgs_plain (Z0 h1 λus s2 ⟨vs,H2,I2,r,q2⟩=>⟨rfl,?_,I2.bk _ _ hC,hN.keeps I2.bk,T.keeps I2.bk,λh' ea hx=>?_⟩)
 .show us.length<=sizeLine
  rw[<-r.length];exact q2.1
 .obtain⟨t,g,_,_⟩:=hx.there;refine hR y4 U H2 {s2 with heap:=h'} ea _ _ (I2.kept (t':=s2.toks) hx.keeps) g rfl rfl rfl (I2.Z7.hole hx.new) ?_ q2.2
  cases z:X.s₀.heap.get? ea with
  |none=>rfl
  |some o=>
   obtain⟨o',z'⟩:=I2.base.there ea o z (by rw[hex];simp)
   rw[hx.new]at z';cases z'
end
abbrev Cx.tr(X:Cx)(y4:List (Addr×Obj))(xe:Value->Shared->Prop):Cx:={X with pn:=X.pn++y4,xe:=xe}
abbrev Cx.hnd(X:Cx)(y4:List (Addr×Obj))(ea:Addr):Cx:={X with A:=X.A.mark (some (.ref ea)),calm:=false,pn:=X.pn++y4,xe:=λ_ _=>False}
section
variable {pins':Q2} {U:St} {xe:Q0}
def Inv.tr(I:Inv X y4 U H s)(xe:Q0):Inv (X.tr y4 xe) [] U H s:=
 ⟨⟨I.ok.mod,I.ok.kind,I.ok.glob,I.ok.blt,I.ok.above,I.ok.inj,I.ok.has,I.ok.Xe,I.ok.hd,I.ok.frames,I.ok.WQ,I.ok.Wu,I.ok.bs,I.ok.Ya,I.ok.YA,I.ok.YC,I.ok.ZA,I.ok.Xy⟩,I.os,I.bare,I.base,I.loc,I.cell,I.free,I.ZT,
  λp hp=>I.pin p (by rwa [Bq]at hp),I.Z7,I.len⟩
def Inv.YV(I:Inv (X.tr y4 xe) pins' U H s):Inv X y4 U H s:=
 ⟨⟨I.ok.mod,I.ok.kind,I.ok.glob,I.ok.blt,I.ok.above,I.ok.inj,I.ok.has,I.ok.Xe,I.ok.hd,I.ok.frames,I.ok.WQ,I.ok.Wu,I.ok.bs,I.ok.Ya,I.ok.YA,I.ok.YC,I.ok.ZA,I.ok.Xy⟩,I.os,I.bare,I.base,I.loc,I.cell,I.free,I.ZT,
  λp hp=>I.pin p (Cb _ hp),I.Z7,I.len⟩
def Inv.hnd(I:Inv X y4 U H s)(ea:Addr):Inv (X.hnd y4 ea) [] U H s:=
 ⟨⟨I.ok.mod,I.ok.kind,I.ok.glob,I.ok.blt,I.ok.above,I.ok.inj,I.ok.has,I.ok.Xe,(λz=>nomatch z),I.ok.frames,I.ok.WQ,I.ok.Wu,I.ok.bs,I.ok.Ya,I.ok.YA,I.ok.YC,I.ok.ZA,I.ok.Xy⟩,I.os,I.bare,I.base,I.loc,I.cell,I.free,I.ZT,
  λp hp=>I.pin p (by rwa [Bq]at hp),I.Z7,I.len⟩
def Inv.Wi(I:Inv (X.hnd y4 ea) pins' U H s)(ok:X.Ok):Inv X y4 U H s:=
 ⟨ok,I.os,I.bare,I.base,I.loc,I.cell,I.free,I.ZT,λp hp=>I.pin p (Cb _ hp),I.Z7,I.len⟩
structure WB (X:Cx) (y4:List (Addr×Obj)) (a:Addr):Prop where
 s0:X.s₀.heap.get? a=none
 loc:a≠X.env.locals
 cell:∀x c,X.env.cells.lookup x=some c->c≠a
 pin:∀p∈X.pn++y4,p.1≠a
def Inv.adopt{a:Addr}{o:HO}(I:Inv X y4 U H s)(f:WB X y4 a)(hn:H a=none)(new:Z3 X.prog X.w (upd H a o) s.heap a o):Inv X y4 U (upd H a o) s:=by
 have ne:∀b u,H b=some u->b≠a:=λb u e=>bM e hn
 refine⟨I.ok,I.os,I.bare,⟨I.base.keep,I.base.slot,λb u e n hx=>?_,I.base.there,λb xs e=>?_,λb u v e=>?_,λb ps e=>?_⟩,I.loc,I.cell,by rw[aI f.loc.symm];exact I.free,λx c e=>by rw[aI (f.cell x c e)];exact I.ZT x c e,λp hp=>?_,λb u e=>?_,I.len⟩
 .rw[aI (λz=>by rw[z,f.s0]at e;cases e)]
  exact I.base.free b u e n hx
 .have q:=I.base.tups b xs e
  rw[aI (ne b _ q)];exact q
 .have q:=I.base.frzs b u v e
  rw[aI (ne b _ q)];exact q
 .obtain⟨m,q⟩:=I.base.tbls b ps e;exact⟨m,by rw[aI (ne b _ q)];exact q⟩
 .obtain⟨h1,h2,h3⟩:=I.pin p hp;exact⟨h1,by rw[aI (f.pin p hp)];exact h2,h3⟩
 .by_cases hb:b=a
  .subst hb;rw[aD]at e;cases e;exact new
  .rw[aI hb]at e;exact(I.Z7 b u e).ZE (λc v _ q=>q) (λc q=>by rw[aI (ne c _ q)];exact q) λc xs q=>by rw[aI (ne c _ q)];exact q
def Inv.WZ{n:Str}{m:Q5}{v:Option Value}{t:Nat}(I:Inv X y4 U H s)(hN:X.N.Nodup)(hi:X.N[i]?=some n)(hm:s.heap.Ns X.env.locals m)(hl:X.env.scope.names.lookup n=some .local)(hn:h'.Ns X.env.locals (λx=>if x=n then v else m x))(sb:Heap.SameBut X.env.locals s.heap h'):Inv X y4 (U.set i none) H {s with heap:=h',toks:=t}:=by
 have k:∀b o,b≠X.env.locals->s.heap.get? b=some o->h'.get? b=some o:=λb o hb e=>(sb.2 b hb).trans e
 have nl:∀b o,X.s₀.heap.get? b=some o->b≠X.env.locals:=λb o e=>Bj (Bb (As e) I.ok.above)
 have there:∀b o,s.heap.get? b=some o->∃o',h'.get? b=some o':=λb o e=>by
  by_cases hb:b=X.env.locals
  .obtain⟨o',_,_,q,_⟩:=hn;exact⟨o',by rw[hb];exact q⟩
  .exact⟨o,k b o hb e⟩
 obtain⟨m1,hm1,hl1⟩:=id I.loc;refine⟨I.ok,I.os,I.bare,⟨λb o e n hb hx=>k b o (nl b o e) (I.base.keep b o e n hb hx),λb o e n hb hx=>?_,I.base.free,λb o e hx=>?_,I.base.tups,I.base.frzs,I.base.tbls⟩,⟨_,hn,λj y u e1 e2 e3=>?_⟩,λx c e=>?_,I.free,I.ZT,λp hp=>?_,λb u e=>?_,by rw[Fh];exact I.len⟩
 .obtain⟨sl,q⟩:=I.base.slot b o e n hb hx;exact⟨sl,k b _ (nl b o e) q⟩
 .obtain⟨o',q⟩:=I.base.there b o e hx;exact there b o' q
 .have hji:j≠i:=λz=>by
   subst z;rw[Di (by rw[I.len];exact(Ad.mp hi).1)]at e2
   cases e2
  rw[Dd (Ne.symm hji)]at e2;have hyn:y≠n:=λz=>hji (qT hN e1 (by rw[z];exact hi))
  obtain⟨u',r,look⟩:=hl1 j y u e1 e2 e3;have em:m1=m:=by
   obtain⟨o1,es1,ep1,g1,d1,_,f1⟩:=hm1;obtain⟨o2,es2,ep2,g2,d2,_,f2⟩:=hm;rw[g1]at g2;cases g2;rw[d1]at d2;cases d2;funext z
   rw[<-f1 z,f2 z]
  refine⟨u',r,?_⟩;rcases look with⟨z1,z2⟩|⟨z1,c,z2,o,z3,z4⟩
  .exact .inl ⟨z1,by show (if y=n then v else m y)=_;rw[if_neg hyn,<-em];exact z2⟩
  .exact .inr ⟨z1,c,z2,o,k c o (I.cne y c z2) z3,z4⟩
 .obtain⟨v',o,z1,z2⟩:=I.cell x c e;exact⟨v',o,k c o (I.cne x c e) z1,z2⟩
 .obtain⟨h1,h2,h3,h4⟩:=I.pin p hp;exact⟨k _ _ h3 h1,h2,h3,h4⟩
 .refine(I.Z7 b u e).ZE (λc o hc q=>k c o (λz=>?_) q) (λ_ q=>q) λ_ _ q=>q;have fr:=I.free
  rcases hc with z1|z1
  .rw[<-z1,z,fr]at e;cases e
  .rw[z,fr]at z1;cases z1
end
def oN(ea:Addr)(cls:Value)(d:Option Addr):HO:=.ext λh=>∃oe vs,h.get? ea=some oe/\oe.cls=cls/\oe.dict=d/\oe.data=.fields vs
def Yv.obj{B:Heap}{l:List Env}{cls fl:Value}(F:Yv B l ea cls d fl h):Z3 P w H h ea (oN ea cls d):=by
 obtain⟨oe,vs,T,oT,ts,he,hc,hd,_⟩:=F.on;exact⟨⟨oe,vs,he,hc.1,hc.2,hd⟩,⟨oe,he⟩,λh1 h2 ⟨o,ws,g,q⟩ k=>⟨o,ws,k o g,q⟩⟩
def XS(X:Cx)(y4:List (Addr×Obj))(R:Value->Option Addr->St->Hp->Prop):Value->Shared->Prop:=λe s1=>
 ∃ea cls d B U1 H1,e=.ref ea/\Yv B X.stack ea cls d .none s1.heap/\WB X y4 ea/\H1 ea=none/\(∀h2,B.StaysIn h2->s1.heap.UpToSlots h2->Inv X y4 U1 H1 {s1 with heap:=h2})/\R cls d U1 H1
def UI(CX:Yi)(X:Cx)(Es:St->XK):Prop:=∀(y4:List (Addr×Obj)) (U:St) (H:Hp) (s:Shared) (e:Value) (s':Shared),Inv X y4 U H s->CX X.stack H s (Es U) e s'->X.xe e s'
def qM{R:Value->Option Addr->St->Hp->Prop}(hex:X.ex=[]):UI (YG X.prog X.w) (X.tr y4 (XS X y4 R)) (λU cls d H1=>R cls d U H1):=by
 intro pins' U H s e s1 I' h;obtain⟨ea,cls,d,B,H1,rfl,os,bare,F,Z7,un,q⟩:=h;have I:Inv X y4 U H s:=I'.YV
 have F:Yv B X.stack ea cls d .none s1.heap:=F
 have un:Tb (Zm X.stack) H H1 s.heap B s1.heap:=un
 have nfs:ea∉Zm X.stack:=λhm=>by
  obtain⟨_,o,g,nf⟩:=F.frames.mem hm;obtain⟨oe,vs,T,oT,ts,he,hc,hd,_⟩:=F.on;rw[g]at he;cases he;exact nf vs hd
 have ne:∀b o,s.heap.get? b=some o->b≠ea:=λb o g z=>by
  subst z;obtain⟨o',g'⟩:=un.there b o g nfs;rw[F.new]at g';cases g'
 refine⟨ea,cls,d,B,U,H1,rfl,F,⟨?_,?_,λx c z=>?_,λp hp=>?_⟩,Z7.hole F.new,λh2 st up=>?_,q⟩
 .cases z:X.s₀.heap.get? ea with
  |none=>rfl
  |some o=>
   obtain⟨o',z'⟩:=I.base.there ea o z (by rw[hex];simp)
   exact absurd rfl (ne ea o' z')
 .obtain⟨m,⟨o,_,_,g,_⟩,_⟩:=I.loc;exact(ne _ o g).symm
 .obtain⟨v,o,g,_⟩:=I.cell x c z;exact ne c o g
 .exact ne p.1 p.2 (I.pin p hp).1
 .have slot:∀ b o,s.heap.get? b=some o->b∈Zm X.stack->∃ sl,h2.get? b=some { o with slots:=sl }:=λb o g hb=>by
   obtain⟨sl,g1⟩:=un.slot b o g (I.Zd b hb) hb;obtain⟨_,o2,g2,nf⟩:=I.stack.mem hb;rw[g]at g2;cases g2;obtain⟨sl2,g3⟩:=up b _ g1 nf;exact⟨sl2,g3⟩
  refine I.Xg (s':={s1 with heap:=h2}) (ch:=[]) os ⟨λb o g n hb _=>st b o (un.keep b o g n hb),λb o g n hb _=>slot b o g hb,λb o g n _=>un.free b o g n,λb o g _=>?_,un.tups,un.frzs,un.tbls⟩ (Z7.kept λb o g=>st b o g) bare λb hb=>absurd hb (by simp)
  by_cases hb:b∈Zm X.stack
  .obtain⟨sl,g1⟩:=slot b o g hb;exact⟨_,g1⟩
  .obtain⟨o',g1⟩:=un.there b o g hb;exact⟨o',st b o' g1⟩
section
variable {CX:Yi} {k:Nat} {ps:List Str} {Es:St->XK} {p:Pos} {t:TA}
def Uu(sp:Sp)(Es:St->XK)(t:TA):TE:=λU H Q=>t U H λvs H1=>sp vs H1 Q (Es U)
def JB(F:Z4 X.prog X.w X.K X.mg X.base CX k f fd ps sp)(hr:Z5 k X.A)(hg:Gl X x)(hm:X.mg x=some (.ref f))(hk:W.keepIn X.K (.ref f)=true)(hb:Binds X.K fd ps [])(hx:UI CX X Es)(ha:PA X (e::es) t)(hdb:(x==("__debug__" : Str))=false:=by decide)(he:starEach (e::es) X.env=(false,eval e X.env)::starEach es X.env:=by rfl)(hpl:(backTo pos (starEach es X.env)).any (·.1)=false:=by rfl):PE X (.Call (.Name x p) (e::es) [] pos) (Uu sp Es t):=by
 intro y4 s U H Q I h;refine Du (iO I hg hm ?_ hdb);refine W.callWith_K (h₀:=X.base) I.ok.mod.Wr hk (Z0 (ha pos y4 s U H _ I h) λus s1 ⟨vs,H1,I1,r,q⟩=>⟨I1.Zn,?_⟩) he hpl;have hl:us.length=ps.length:=by rw[<-r.length];exact F.len _ _ _ _ q
 have hb1:=hb s1 us I1.Zn (by rw[Bq];exact hl)
 rw[Bq]at hb1;refine Gj (Fy (F.run X.A X.stack s1 H1 ⟨us,[]⟩ us vs Q (Es U) hr I1.WK hb1 r q) λrs s' hq=>?_);cases rs with
 |error e=>exact hx y4 U H1 s1 e s' I1 hq
 |ok fl=>
  cases fl with
  |ret u=>exact I1.after hq
  |next=>exact False.elim hq
  |brk=>exact False.elim hq
  |cont=>exact False.elim hq
end
def Tg(K:W.Frag)(C:Addr)(i:Nat)(mk:(Value->Option Addr->St->Hp->Prop)->TS)(ts:TS):TS:=λD U H=>
 mk (λcls d U1 H1=>W.exmOne K cls (.ref C)=some true/\∀ea,H1 ea=none->
  ts {nx:=λU2 H2=>D.nx (U2.set i none) H2,rt:=D.rt,bk:=λU2 H2=>D.bk (U2.set i none) H2,ct:=λU2 H2=>D.ct (U2.set i none) H2} (U1.set i (some (.ref ea))) (upd H1 ea (oN ea cls d))) D U H
def SP.YV{xe:Q0}{f:Flow}{s':Shared}(h:SP (X.tr y4 xe) [] D f s'):SP X y4 D f s':=by
 cases f with
 |next=>obtain⟨U',H',I,q⟩:=h;exact⟨U',H',I.YV,q⟩
 |brk=>obtain⟨U',H',I,q⟩:=h;exact⟨U',H',I.YV,q⟩
 |cont=>obtain⟨U',H',I,q⟩:=h;exact⟨U',H',I.YV,q⟩
 |ret u=>obtain⟨v,U',H',I,r,q⟩:=h;exact⟨v,U',H',I.YV,r,q⟩
def Sw{body suite:List Stmt}{b0:Stmt}{n:Str}{hp:Pos}{i:Nat}{mk:(Value->Option Addr->St->Hp->Prop)->TS}{ts:TS}(hstk:X.stack=X.env::X.outer)(hfm:X.env.frame=some X.env.locals)(hex:X.ex=[])(hN:X.N.Nodup)(hi:X.N[i]?=some n)(hl:X.env.scope.names.lookup n=some .local)(hg:Gl X x)(hm:X.mg x=some (.ref C))(hb:∀y4 R,YF (X.tr y4 (XS X y4 R)) body (mk R))(hs:∀y4 ea,YF (X.hnd y4 ea) (b0::suite) ts)(hd:(x==("__debug__" : Str))=false:=by decide):PS X (.Try body [.ExceptHandler (some (.Name x np)) (some n) (b0::suite) hp] [] [] pos) (Tg X.K C i mk ts):=by
 intro y4 s U H D I h;have hfr:X.A.frames=some (X.env::X.outer):=by rw[<-hstk];exact I.ok.frames
 have hcls:(X.env.scope.kind == .class || (X.env.scope.kind == .module&&X.env.locals != X.env.globals))=false:=by rw[I.ok.kind];rfl
 refine wpAny_Try_except (Ck (hb y4 _ [] s U H D (I.tr _) h) (λf s1 q=>?_) λe s1 q=>?_)
 .cases f with
  |next=>
   obtain⟨U',H',I',q⟩:=q.YV;exact bA y4 s1 U' H' D I' q
  |brk=>exact q.YV
  |cont=>exact q.YV
  |ret u=>exact q.YV
 .obtain⟨ea,cls,d,B,U1,H1,rfl,F,fre,hn,inv,hx,r⟩:=q;rw[hstk]at F;refine xB hfr hfm F λh2 F2 u2=>iE (s:={s1 with heap:=h2}) F2 λh3 F3 u3=>?_
  have I3:=inv h3 F3.stays (u2.trans u3)
  refine wpAny_handleBy_cons (codeAny_handlers_test (iO (I3.hnd ea) hg hm ?_ hd)) (by intro q;cases q)
  obtain⟨oe,vs,T,oT,tts,he,hc,_⟩:=id F3.on;refine W.exm_one I3.Zn (hc.1▸(W.Looks.ld he).andThen .now) hx _ _ _ _ (λ_ _ q=>q) ?_;refine codeAny_handlers_suite_as (iE (s:={s1 with heap:=h3}) F3 λh4 F4 u4=>?_)
  have I4:=(inv h4 F4.stays ((u2.trans u3).trans u4)).adopt (o:=oN ea cls d) fre hn F4.obj
  refine rT I4 hN hi (.inl hl) (v:=.ref ea) rfl (λs5 I5=>?_) (.inr hl);refine Ck (hs y4 ea [] s5 _ _ _ (I5.hnd ea) (r ea hn)) (λf s6 q=>?_) λ_ _ z=>z.elim;have go:∀ {U2:St} {H2:Hp} {Q:Unit->Shared->Prop} {E:Q0},Inv (X.hnd y4 ea) [] U2 H2 s6->(∀ s7,Inv X y4 (U2.set i none) H2 s7->Q () s7)->
      wpAny (model X.prog X.w) X.A (do bindName X.env n .none;unbindBehindTheSuite X.env n hp) Q E s6:=fun {U2 H2 Q E} I6 k=>by
   have I6':=I6.Wi I.ok
   obtain⟨m,hm6,_⟩:=id I6'.loc;exact wpAny_nameGoes_keeps hl hm6 hcls λh7 v hn7 sb=>k _ (I6'.WZ hN hi hm6 hl hn7 sb)
  cases f with
  |next=>
   obtain⟨U2,H2,I6,q⟩:=q;exact go I6 λs7 I7=>⟨_,H2,I7,q⟩
  |brk=>
   obtain⟨U2,H2,I6,q⟩:=q;exact go I6 λs7 I7=>⟨_,H2,I7,q⟩
  |cont=>
   obtain⟨U2,H2,I6,q⟩:=q;exact go I6 λs7 I7=>⟨_,H2,I7,q⟩
  |ret u=>
   obtain⟨v,U2,H2,I6,rv,q⟩:=q;exact go I6 λs7 I7=>⟨v,_,H2,I7,rv,q⟩
section
open PySem.W
structure XG (K:Frag) (D:Addr):Prop where
 cls:hasDictIn K D=true
 ga:findIn K (.ref D) "__getattribute__"=some (some (.builtin "BaseException.__getattribute__"))
 gh:findIn K (.ref D) "__getattr__"=some none
 ca:findIn K (.ref D) "__class__"=some (some (.builtin "object.__class__"))
 cg:specialIn K (.builtin "object.__class__") "__get__"=some (some (.builtin "getset_descriptor.__get__"))
 ct:takesIn K (.builtin "object.__class__")=some true
 mo:mroIn K D (.type "object")=some true
 mb:W.subIn K (.ref D) (.type "BaseException")=some true
section
variable {K:Frag} {x D:Addr} {ox:Obj} {od:Option Obj}
def Qt{nm:Value}{Q:Unit->Shared->Prop}(Z:XG K D)(X:K.In s.heap)(I:InstAt s.heap x ox D od)(hq:Q () s):wpAny M A (checkBuiltinCall "BaseException.__getattribute__" ⟨[.ref x,nm],[]⟩) Q E s:=by
 have hk:builtinKind "BaseException.__getattribute__"=some .slot:=by decide +kernel
 have hs:splitId "BaseException.__getattribute__"=some ("BaseException", "__getattribute__"):=by decide +kernel
 have L0:=I.type (M:=M)
 have L1:=looks_subIn (M:=M) X Z.mb
 have ha:=F.args_bexc_ga (.ref x) nm
 simp only[checkBuiltinCall,hk,hs];refine Ae ((L0.andThen L1).at ?_);rw[if_neg (show ¬((!true)=true) by decide)]
 exact Hn ha hq
end
section
variable {D:Addr}
def LQ{E:XK}{D:Ends}{U:St}(h:ta U H λvs H1=>vs.length<=sizeLine/\E (.ref C) none H1):S5 C E ta D U H:=h
def NS{Es:St->XK}{t:TA}{U:St}(h:t U H λvs H1=>sp vs H1 Q (Es U)):Uu sp Es t U H Q:=h
end
def sI(P:Program)(w:World)(K:W.Frag)(mg:Str->Option Value)(base:Heap)(k:Nat)(x:Str)(ps:List Str)(sp:Sp):Prop:=
 ∃(f:Addr) (fd:FuncData),Z4 P w K mg base (YG P w) k f fd ps sp/\mg x=some (.ref f)/\W.keepIn K (.ref f)=true/\Binds K fd ps []
section
variable {k k':Nat} {ps:List Str} {p:Pos} {t:TA} {E:XK} {Es:St->XK}
def kD(c:sI X.prog X.w X.K X.mg X.base k x ps sp)(hx:nX (YG X.prog X.w) X E)(hr:Z5 k' X.A)(hk:k<=k')(hg:Gl X x)(ha:PA X (e::es) t)(hdb:(x==("__debug__" : Str))=false:=by decide)(he:starEach (e::es) X.env=(false,eval e X.env)::starEach es X.env:=by rfl)(hpl:(backTo pos (starEach es X.env)).any (·.1)=false:=by rfl):PE X (.Call (.Name x p) (e::es) [] pos) (VH sp [] E t):=by
 obtain⟨f,fd,F,hm,hk',hb⟩:=c;exact RY F (hr.mono hk) hg hm hk' hb .nil hx ha hdb he hpl
def Uc(c:sI X.prog X.w X.K X.mg X.base k x ps sp)(hx:UI (YG X.prog X.w) X Es)(hr:Z5 k' X.A)(hk:k<=k')(hg:Gl X x)(ha:PA X (e::es) t)(hdb:(x==("__debug__" : Str))=false:=by decide)(he:starEach (e::es) X.env=(false,eval e X.env)::starEach es X.env:=by rfl)(hpl:(backTo pos (starEach es X.env)).any (·.1)=false:=by rfl):PE X (.Call (.Name x p) (e::es) [] pos) (Uu sp Es t):=by
 obtain⟨f,fd,F,hm,hk',hb⟩:=c;exact JB F (hr.mono hk) hg hm hk' hb hx ha hdb he hpl
def tF:nX (YG X.prog X.w) X E0:=λ_ _ _ _ _ _ _ h=>by
 obtain⟨_,_,_,_,_,_,_,_,_,_,_,z⟩:=h;exact z.elim
def PS.Xu{t:TS}(h:PS X.Xu st t):PS X st t:=λy4 s U H D I hw=>
 Ck (h y4 s U H D (I.YX _) hw) (λ_ _ q=>q.ZC) λ_ _ z=>False.elim z
end
def ZR.Wx{ps:List Str}{k:Nat}(F:ZR K x qual st f fd)(S:Z9 N ps (aJ st))(len:∀vs H Q E,sp vs H Q E->vs.length=ps.length)(hbody:∀(cdv:Value) (A:Around) (outer:List Env) (s:Shared) (H:Hp) (vs:List V) (Q:VK) (E:XK),Z5 k (A.deeper (envOfC qual (aJ st) s.heap.objs.size f cdv))->sp vs H Q E->
 ∃t,YF (fQ (YG P w) P w K mg base N qual (aJ st) f cdv A outer s H E) (eT st) t/\t {nx:=λ_ H'=>Q .non H',rt:=Q} (iQ N vs) H):Z4 P w K mg base (YG P w) (k+1) f fd ps sp:=by
 obtain⟨oc,od,kV,doc,pm,an,cdv,ct,osl,rfl,lk,hcd⟩:=F.ex;exact Ve lk hcd S len λA outer s H vs Q E hr hsp=>hbody cdv A outer s H vs Q E hr hsp
def Pk{mk:(Value->Option Addr->St->Hp->Prop)->TS}{ts:TS}{U:St}(h:mk (λcls d U1 H1=>W.exmOne K cls (.ref C)=some true/\∀ea,H1 ea=none->ts {nx:=λU2 H2=>D.nx (U2.set i none) H2,rt:=D.rt,bk:=λU2 H2=>D.bk (U2.set i none) H2,ct:=λU2 H2=>D.ct (U2.set i none) H2} (U1.set i (some (.ref ea))) (upd H1 ea (oN ea cls d))) D U H):Tg K C i mk ts D U H:=h
end
def VG(K:W.Frag)(a b:Addr):It:=
 ⟨λi H=>∃xs ys x y,ZJ K H a xs/\ZJ K H b ys/\xs[i]?=some x/\ys[i]?=some y,λi H v H'=>∃p x y,H p=none/\v=.ref p/\H'=upd H p (.tup [x,y])/\(∀xs,ZJ K H a xs->xs[i]?=some x)/\(∀ys,ZJ K H b ys->ys[i]?=some y),
  λi H=>∃xs ys,ZJ K H a xs/\ZJ K H b ys/\(xs.length<=i\/ys.length<=i)⟩
structure Xh (z TI TO i1 i2:Addr):Prop where
 d1:TI≠z
 d2:TO≠z
 d3:i1≠z
 d4:i2≠z
 d5:TI≠TO
 d6:TI≠i1
 d7:TI≠i2
 d8:TO≠i1
 d9:TO≠i2
 d0:i1≠i2
def jC{u:Obj}(ha:h.get? a=some o)(hb:h.get? b=some u){S:String}(hs:o.cls=.type S)(ht:u.cls=.type T)(n:S≠T):a≠b:=λz=>by
 subst z;rw[ha]at hb;cases hb;rw[hs]at ht;injection ht with ht;exact n ht
def uK{z TI TO i1 i2:Addr}{f0 p q:Value}{k1 k2:Nat}{xs ys:Array Value}(D:Xh z TI TO i1 i2)(hz:IsZip h z TI TO f0)(hO:IsPair h TO p q)(h1:h.IsListIter i1 a k1)(h2:h.IsListIter i2 b k2)(ha:h.IsList a xs)(hb:h.IsList b ys):ZipApart z TI TO i1 i2 a b:=by
 obtain⟨o1,g1,c1,_⟩:=h1;obtain⟨o2,g2,c2,_⟩:=h2;obtain⟨oa,ga,ca,_⟩:=ha;obtain⟨ob,gb,cb,_⟩:=hb;exact⟨D.d1,D.d2,D.d3,D.d4,D.d5,D.d6,D.d7,D.d8,D.d9,D.d0,jC ga hz ca rfl (by decide),jC ga hO ca rfl (by decide),jC ga g1 ca c1 (by decide),jC ga g2 ca c2 (by decide),jC gb hz cb rfl (by decide),jC gb hO cb rfl (by decide),jC gb g1 cb c1 (by decide),jC gb g2 cb c2 (by decide)⟩
def PJ(a b z TI TO i1 i2:Addr)(D:Xh z TI TO i1 i2):Turn P w K (.Tuple elts x1 tp) (VG K a b) [z,TI,TO,i1,i2] z (λi h=>IsZip h z TI TO .none/\IsPair h TI (.ref i1) (.ref i2)/\(∃p q,IsPair h TO p q)/\h.IsListIter i1 a i/\h.IsListIter i2 b i) where
 mem:=by simp
 obj:=λi h st c hc=>by
  obtain⟨hz,hI,⟨p,q,hO⟩,⟨o1,g1,_,e1⟩,o2,g2,_,e2⟩:=st;simp only[List.mem_cons,List.not_mem_nil,or_false]at hc;rcases hc with z|z|z|z|z<;>subst z
  .exact⟨_,hz,λv z=>by cases z⟩
  .exact⟨_,hI,λv z=>by cases z⟩
  .exact⟨_,hO,λv z=>by cases z⟩
  .exact⟨o1,g1,λv z=>by rw[e1]at z;cases z⟩
  .exact⟨o2,g2,λv z=>by rw[e2]at z;cases z⟩
 keep:=λi h h' st kk=>by
  obtain⟨hz,hI,⟨p,q,hO⟩,g1,g2⟩:=st;exact⟨kk z (by simp) _ hz,kk TI (by simp) _ hI,⟨p,q,kk TO (by simp) _ hO⟩,g1.at λo e=>kk i1 (by simp) o e,g2.at λo e=>kk i2 (by simp) o e⟩
 item:=by
  intro X hP hw hK hc i y4 s U H E I hf st hg;subst hP hw hK;obtain⟨xs,ys,x,y,qa,qb,hx,hy⟩:=hg;obtain⟨us,ra,pa,_⟩:=I.list qa;obtain⟨vs,rb,pb,_⟩:=I.list qb;obtain⟨u,hu,ru⟩:=ra.get hx;obtain⟨v,hv,rv⟩:=rb.get hy;obtain⟨hz,hI,⟨p,q,hO⟩,g1,g2⟩:=st;have D2:=uK D hz hO g1 g2 pa.isList pb.isList
  have fr:∀c o,s.heap.get? c=some o->s.heap.objs.size≠c:=λc o e=>Fx (As e)
  refine wpAny_pyNext_zip_item D2 hz hI hO g1 g2 pa.isList pb.isList (x:=u) (y:=v) (by simpa using hu) (by simpa using hv) λh1 a1 a2 a3 a4 a5 a6 kk=>?_
  refine⟨_,rfl,wpAny_letOwnedTupleGo_zip a1 λh2 z2 sb=>?_⟩;have up:∀c o,c≠z->h1.get? c=some o->h2.get? c=some o:=λc o n e=>(sb.2 c n).trans e
  have I2:Inv X y4 U (upd H s.heap.objs.size (.tup [x,y])) {s with heap:=h2}:=by
   refine I.Yx (t':=s.toks) (ch:=[z,TI,TO,i1,i2]) hf (λc o n e=>?_) (Ai _) ⟨bE (by show 2<=_;omega),[u,v],.cons ru (.cons rv .nil),_,up _ _ (fr z _ hz) a5,rfl,_,rfl⟩
   simp only[List.mem_cons,List.not_mem_nil,or_false,not_or]at n;exact up c o n.1 (kk c o n.1 n.2.2.1 n.2.2.2.1 n.2.2.2.2 e)
  refine⟨.ref s.heap.objs.size,_,I2,rfl,⟨_,x,y,I.Z7.fresh (Ai _),rfl,rfl,λzs hq=>by rw[I.Zg hq qa];exact hx,λzs hq=>by rw[I.Zg hq qb];exact hy⟩,
   ⟨z2,up _ _ D.d1 (kk _ _ D.d1 D.d5 D.d6 D.d7 hI),⟨_,_,up _ _ D.d2 a2⟩,a3.at λo e=>up _ o D.d3 e,a4.at λo e=>up _ o D.d4 e⟩,λc hc=>?_⟩
  have hn:=(hf c hc).1
  rw[aI]
  .exact hn
  .obtain⟨o1,e1,_⟩:=g1;obtain⟨o2,e2,_⟩:=g2;simp only[List.mem_cons,List.not_mem_nil,or_false]at hc;rcases hc with z|z|z|z|z<;>subst z
   .exact(fr _ _ hz).symm
   .exact(fr _ _ hI).symm
   .exact(fr _ _ hO).symm
   .exact(fr _ _ e1).symm
   .exact(fr _ _ e2).symm
 done:=by
  intro X hP hw hK hc i y4 s U H E I hf st hg;subst hP hw hK;obtain⟨xs,ys,qa,qb,hl⟩:=hg;obtain⟨us,ra,pa,_⟩:=I.list qa;obtain⟨vs,rb,pb,_⟩:=I.list qb;have e1:=ra.length
  have e2:=rb.length
  obtain⟨hz,hI,⟨p,q,hO⟩,g1,g2⟩:=st;refine wpAny_pyNext_zip_end (I.ok.hd hc) (uK D hz hO g1 g2 pa.isList pb.isList) hz hI hO g1 g2 pa.isList pb.isList ?_ λh' kk=>⟨rfl,?_⟩
  .rcases hl with z|z
   .exact .inl (by simp;omega)
   .exact .inr (by simp;omega)
  .refine I.Yg (t':=s.toks) (ch:=[z,TI,TO,i1,i2]) hf λc o n e=>?_;simp only[List.mem_cons,List.not_mem_nil,or_false,not_or]at n;exact kk c o n.1 n.2.2.1 n.2.2.2.1 n.2.2.2.2 e
 self:=λ_ _ _ _ _ st h=>wpAny_pyIter_zip st.1 h
def Me:bootBuiltins "zip"=some (.type "zip"):=by decide +kernel
section
variable {l1 l2:Expr} {p:Pos}
def Wd(R:Addr->Addr->Hp->Prop):List V->Hp->Prop:=λvs H=>match vs with|[.ref i,.ref j]=>R i j H|_=>False
def LK{R:Addr->Addr->Hp->Prop}{vs:List V}(q:Wd R vs H):∃i j,vs=[.ref i,.ref j]/\R i j H:=by
 unfold Wd at q;split at q
 .exact⟨_,_,rfl,q⟩
 .exact q.elim
def Ua(K:W.Frag)(ta:TA):TI:=λU H R=>ta U H (Wd λa b H1=>Yq (Z8 H1 a) (Yq (Z8 H1 b) (R (VG K a b) H1)))
def Um(hg:Gl X "zip")(hm:X.mg "zip"=none)(ha:PA X [l1,l2] ta)(hs:starEach [l1,l2] X.env=[(false,eval l1 X.env),(false,eval l2 X.env)]:=by rfl)(hs2:starEach [l2] X.env=[(false,eval l2 X.env)]:=by rfl):PI X (.Tuple elts x1 tp) (.Call (.Name "zip" p) [l1,l2] [] pos) (Ua X.K ta):=by
 intro y4 s U H R I h;refine Call_ (gK I hg hm Me (Dz (Z0 (ha pos y4 s U H _ I h) λus s1 ⟨vs,H1,I1,r1,q1⟩=>?_) (by rw[hs,hs2]) (by rw[hs2];rfl)))
 obtain⟨a,b,rfl,q⟩:=LK q1;obtain⟨u,u2,rfl,ru,ru2⟩:=sT r1;cases ru;cases ru2;unfold Yq at q;split at q
 .rename_i xs ex
  split at q
  .rename_i ys ey
   obtain⟨us,ra,pa,_⟩:=I1.list (aT ex);obtain⟨vs,rb,pb,_⟩:=I1.list (aT ey);refine call_zip_2 pa.isList pb.isList λh' hz hI hO g1 g2 hsz hk=>?_;refine wpAny_pyIter_zip (s:={s1 with heap:=h'}) hz ⟨_,[s1.heap.objs.size+4,s1.heap.objs.size+2,s1.heap.objs.size+3,s1.heap.objs.size,s1.heap.objs.size+1],_,_,H1,rfl,I1.kept (t':=s1.toks) hk,
    PJ a b _ _ _ _ _ ⟨by simp,by simp,by simp,by simp,by simp,by simp,by simp,by simp,by simp,by simp⟩,⟨hz,hI,⟨_,_,hO⟩,g1,g2⟩,λc hc=>?_,q⟩
   have z:s1.heap.objs.size<=c:=by
    simp only[List.mem_cons,List.not_mem_nil,or_false]at hc;rcases hc with z|z|z|z|z<;>(rw[z];first|exact Ai _|exact Fo _ _)
   exact I1.YJ z (I1.Z7.fresh z)
  .exact q.elim
 .exact q.elim
end
section
variable {tb:TS} {U:St}
def Ul(Pv:Nat->St->Hp->Prop)(h0:Pv 0 U H)(hl:∀i U H,i<=xs.length->i<=ys.length->Pv i U H->Z8 H a=some xs/\Z8 H b=some ys)(hs:∀i x y U H p,xs[i]?=some x->ys[i]?=some y->Pv i U H->H p=none->g (.ref p) U (upd H p (.tup [x,y])) λU2 H2=>tb {D with nx:=Pv (i+1),ct:=Pv (i+1),bk:=D.nx} U2 H2)(hd:∀U H,Pv (min xs.length ys.length) U H->D.nx U H):xD (VG K a b) g tb D U H:=by
 refine⟨λi m U H=>m=min xs.length ys.length-i/\i<=min xs.length ys.length/\Pv i U H,⟨min xs.length ys.length,by simp,Nat.zero_le _,h0⟩,?_⟩
 rintro i m U H ⟨rfl,hi,p⟩;obtain⟨hr1,hr2⟩:=hl i U H (by omega) (by omega) p
 by_cases hlt:i<min xs.length ys.length
 .refine .inr ⟨⟨xs,ys,xs[i]'(by omega),ys[i]'(by omega),aT hr1,aT hr2,Aa _,Aa _⟩,Pv (i+1),λU' H' p'=>⟨min xs.length ys.length-(i+1),by omega,rfl,hlt,p'⟩,λx H' y=>?_⟩
  obtain⟨q,x1,y1,hq,rfl,rfl,hx,hy⟩:=y;exact hs i x1 y1 U H q (hx xs (aT hr1)) (hy ys (aT hr2)) p hq
 .have e:i=min xs.length ys.length:=by omega
  subst e;exact .inl ⟨⟨xs,ys,aT hr1,aT hr2,by omega⟩,hd U H p⟩
def Qn(h:ta U H (Wd λa b H1=>Yq (Z8 H1 a) (Yq (Z8 H1 b) (R (VG K a b) H1)))):Ua K ta U H R:=h
def K4{R:Addr->Addr->Hp->Prop}(h:R a b H):Wd R [.ref a,.ref b] H:=h
end
def V0:V->List V->Hp->VK->Prop:=λx vs H Q=>match x,vs with
 |.ref l,[.ref b]=>(match gL H l,gL H b with|some xs,some zs=>xs.length+zs.length<=sizeLine/\Q .non (upd H l (.lst (xs++zs)))|_,_=>False)
 |_,_=>False
def wI:Yo X "list.extend" V0:=Yo.imp (r:=Us) KU λ_ _ _ _ q=>by
 unfold V0 at q;split at q
 .split at q
  .exact⟨_,_,_,_,rfl,rfl,kG (by assumption),kG (by assumption),q.1,q.2⟩
  .exact q.elim
 .exact q.elim
def Ji:V->List V->Hp->VK->Prop:=λx vs H Q=>match x,vs with
 |.ref l,[]=>(match gL H l with|some xs=>(match xs[xs.length-1]? with|some y=>Q y (upd H l (.lst xs.dropLast))|none=>False)|none=>False)
 |.ref l,[.int i]=>(match gL H l with|some xs=>(-(2^63)<=i/\i<2^63)/\(match seqIndex? i xs.length with|some k=>(match xs[k]? with|some y=>Q y (upd H l (.lst (xs.eraseIdx k)))|none=>False)|none=>False)|none=>False)
 |_,_=>False
def Vu:List V->Hp->VK->Prop:=λxs H Q=>match xs with
 |[.int i]=>i.natAbs.log2<1920/\Q (.str (toString i)) H
 |_=>False
def OR:ZZ X (.type "str") Vu:=YO.imp λ_ _ _ q=>by
 unfold Vu at q;split at q
 .exact⟨_,rfl,q.1,q.2⟩
 .exact q.elim
section
variable {zs:List V} {i:Int}
def T4(e:gL H l=some xs)(e':gL H b=some zs)(c:xs.length+zs.length<=sizeLine)(h:Q .non (upd H l (.lst (xs++zs)))):V0 (.ref l) [.ref b] H Q:=by unfold V0;simp only[e,e'];exact⟨c,h⟩
def s_str(c:i.natAbs.log2<1920)(h:Q (.str (toString i)) H):Vu [.int i] H Q:=⟨c,h⟩
end
def SU{p:Addr}(h:H p=some (.lst xs)):Xj (.ref p) H=some "list" := by unfold Xj;simp only[h]
def J5{p:Addr}(h:H p=some (.tup xs)):Xj (.ref p) H=some "tuple" := by unfold Xj;simp only[h]
def bK{r:Addr}(s:Z_ H H')(h:H' r=none):H r=none:=by
 cases e:H r with
 |none=>rfl
 |some o=>rw[s _ _ e]at h;cases h
def bF{p:Addr}{o:HO}(hp:H p=none)(s:Z_ H H'):Z_ H (upd H' p o):=λb u q=>by rw[aI (bM q hp)];exact s b u q
section
variable {U0:St}
def fR{J:It}{n:Nat}(R:Addr->Nat->List V->Hp->Prop)(hl:n<sizeLine)(h0:∀D,H1 D=none->R D 0 [] (upd H1 D (.lst [])))(hgo:∀D i ys Hc,H1 D=none->R D i ys Hc->i<n->J.go i Hc)(hst:∀D ys Hc,H1 D=none->R D n ys Hc->J.stop n Hc)(hs:∀D i ys Hc x H' (A:VK) (B:Hp->Prop),H1 D=none->i<n->R D i ys Hc->Hc D=some (.lst ys)->J.Xs i Hc x H'->
 (∀y H4,H4 D=some (.lst ys)->R D (i+1) (ys++[y]) (upd H4 D (.lst (ys++[y])))->A y H4)->(∀H3,H3 D=some (.lst ys)->R D (i+1) ys H3->B H3)->
 g x U0 H' λU2 H2=>Wk U0 U2/\tests U2 H2 λb H3=>if b=true then te U2 H3 A else B H3)(fin:∀D ys Hc,H1 D=none->R D n ys Hc->Hc D=some (.lst ys)->ys.length<=n->Q (.ref D) Hc):eG g tests te U0 Q J H1:=by
 intro D hD;refine⟨λi m Hc=>m=n-i/\i<=n/\∃ys,ys.length<=i/\Hc D=some (.lst ys)/\R D i ys Hc,⟨n,by simp,Nat.zero_le _,[],Nat.le_refl _,aD,h0 D hD⟩,?_⟩
 rintro i m Hc ⟨rfl,hi,ys,hy,hDc,r⟩;by_cases hlt:i<n
 .refine .inr ⟨hgo D i ys Hc hD r hlt,λx H' y=>hs D i ys Hc x H' _ _ hD hlt r hDc y (λz H4 e r4=>?_) (λH3 e r3=>?_)⟩
  .exact⟨ys,e,by omega,n-(i+1),by omega,rfl,hlt,ys++[z],by rw[Ak];show ys.length+1<=_;omega,aD,r4⟩
  .exact⟨n-(i+1),by omega,rfl,hlt,ys,by omega,e,r3⟩
 .have e:i=n:=by omega
  subst e;exact .inl ⟨hst D ys Hc hD r,fin D ys Hc hD r hDc hy⟩
def ZL(H1 Hc:Hp)(ps:List Addr)(fs:List (List V)):Prop:=ps.length=fs.length/\∀(j:Nat) p t,ps[j]?=some p->fs[j]?=some t->H1 p=none/\Hc p=some (.tup t)
def ZL.keep{Hd:Hp}(t:ZL H1 Hc ps fs)(s:Z_ Hc Hd):ZL H1 Hd ps fs:=⟨t.1,λj p u hp hu=>⟨(t.2 j p u hp hu).1,s _ _ (t.2 j p u hp hu).2⟩⟩
def ZL.YU{H0:Hp}(t:ZL H1 Hc ps fs)(s:Z_ H0 H1):ZL H0 Hc ps fs:=⟨t.1,λj p u hp hu=>⟨bK s (t.2 j p u hp hu).1,(t.2 j p u hp hu).2⟩⟩
def ZL.put{D:Addr}{zs:List V}(t:ZL H1 Hc ps fs)(h:Hc D=some (.lst ys)):ZL H1 (upd Hc D (.lst zs)) ps fs:=⟨t.1,λj p u hp hu=>by
 obtain⟨a,b⟩:=t.2 j p u hp hu;refine⟨a,?_⟩;rw[aI λz=>by rw[z,h]at b;cases b]
 exact b⟩
def ZL.app{qs:List Addr}{gs:List (List V)}(t:ZL H1 Hc ps fs)(u:ZL H1 Hc qs gs):ZL H1 Hc (ps++qs) (fs++gs):=by
 refine⟨by rw[Ak,Ak,t.1,u.1],λj p v hp hv=>?_⟩
 by_cases h:j<ps.length
 .rw[Au h]at hp;rw[Au (by rw[<-t.1];exact h)]at hv
  exact t.2 j p v hp hv
 .rw[Aw (by omega)]at hp
  rw[Aw (by rw[<-t.1];omega),<-t.1]at hv
  exact u.2 _ p v hp hv
def ZL.nil:ZL H1 Hc [] []:=⟨rfl,λj p u hp=>by cases hp⟩
def ZL.one{p:Addr}{t:List V}(a:H1 p=none)(b:Hc p=some (.tup t)):ZL H1 Hc [p] [t]:=⟨rfl,λj q u hq hu=>by
 cases j with
 |zero=>cases hq;cases hu;exact⟨a,b⟩
 |succ j=>cases hq⟩
def tG(f:Nat->List V)(hl:n<sizeLine)(hs:∀(i:Nat) Hc (A:VK) (B:Hp->Prop),i<n->Z_ H1 Hc->(∀p Hd,Hc p=none->Z_ Hc Hd->Hd p=some (.tup (f i))->A (.ref p) Hd)->
 g (.int (lo+i)) U0 Hc λU2 H2=>Wk U0 U2/\tests U2 H2 λb H3=>if b=true then te U2 H3 A else B H3)(fin:∀D Hd ps,H1 D=none->Z_ H1 Hd->Hd D=some (.lst (ps.map V.ref))->ps.length=n->ZL H1 Hd ps ((List.range n).map f)->Q (.ref D) Hd):eG g tests te U0 Q (XW lo n) H1:=by
 refine fR (n:=n) (λD i ys Hc=>Z_ H1 Hc/\∃ps,ys=ps.map V.ref/\ps.length=i/\ZL H1 Hc ps ((List.range i).map f)) hl (λD hD=>⟨aF hD _,[],rfl,rfl,.nil⟩) (λD i ys Hc _ r h=>h) (λD ys Hc _ r=>Ai n) ?_ ?_
 .rintro D i ys Hc x H' A B hD hi ⟨sm,ps,rfl,hn,tp⟩ hDc ⟨rfl,rfl⟩ ha hb;refine hs i H' A B hi sm (λp Hd hp sd hd=>?_);refine ha _ _ (sd _ _ hDc) ⟨bF hD (sm.trans sd),ps++[p],by rw[Aj];rfl,by rw[Ak,hn];rfl,?_⟩
  rw[Cm,Aj];exact((tp.keep sd).app (.one (bK sm hp) hd)).put (sd _ _ hDc)
 .rintro D ys Hc hD ⟨sm,ps,rfl,hn,tp⟩ hDc _;exact fin D Hc ps hD sm hDc hn tp
end
def Yr(H:Hp):Nat->V->V->Prop
 |0,x,y=>x=y/\bR x=true
 |n+1,x,y=>(x=y/\bR x=true)\/∃p q xs ys,x=.ref p/\y=.ref q/\((Z8 H p=some xs/\Z8 H q=some ys)\/(kN H p=some xs/\kN H q=some ys))/\xs.length=ys.length/\∀(j:Nat) x' y',xs[j]?=some x'->ys[j]?=some y'->Yr H n x' y'
def Yr.flat{x:V}(h:bR x=true):Yr H n x x:=by
 cases n with
 |zero=>exact⟨rfl,h⟩
 |succ n=>exact .inl ⟨rfl,h⟩
def Yr.lst{H:Hp}{n:Nat}{p q:Addr}{xs ys:List V}(hp:Z8 H p=some xs)(hq:Z8 H q=some ys)(hl:xs.length=ys.length)(h:∀(j:Nat) x y,xs[j]?=some x->ys[j]?=some y->Yr H n x y):Yr H (n+1) (.ref p) (.ref q):=.inr ⟨p,q,xs,ys,rfl,rfl,.inl ⟨hp,hq⟩,hl,h⟩
def Yr.tup{H:Hp}{n:Nat}{p q:Addr}{xs ys:List V}(hp:kN H p=some xs)(hq:kN H q=some ys)(hl:xs.length=ys.length)(h:∀(j:Nat) x y,xs[j]?=some x->ys[j]?=some y->Yr H n x y):Yr H (n+1) (.ref p) (.ref q):=.inr ⟨p,q,xs,ys,rfl,rfl,.inr ⟨hp,hq⟩,hl,h⟩
def Yr.XT(f:xs.all bR=true):∀(j:Nat) x y,xs[j]?=some x->xs[j]?=some y->Yr H n x y:=λj x y hx hy=>by
 rw[hx]at hy;cases hy;exact .flat (Ci.mp f x (Ah hx))
def eZ{x:V}(h:bR x=true):Yb x x=true:=by
 cases x<;>first|rfl|(simp[Yb];done)|(cases h;done)
def mW{l:List Nat}:(l.all λ_=>true)=true:=by
 induction l with
 |nil=>rfl
 |cons a r ih=>rw[List.all_cons,ih];rfl
def RQ{U:St}(I:Inv X y4 U H s):∀(n:Nat) (A:Around) (x y:V) (u v:Value),Yr H n x y->RelV x u->RelV y v->A.units+n<cLine->SeqAt.EqAt A s u v true:=by
 intro n;induction n with
 |zero=>
  intro A x y u v h ru rv hu;obtain⟨rfl,f⟩:=h;have:=iP (A:=A) (s:=s) ru rv f f
  rw[eZ f]at this;exact this
 |succ n ih=>
  intro A x y u v h ru rv hu;rcases h with⟨rfl,f⟩|⟨p,q,xs,ys,rfl,rfl,hpq,hl,h⟩
  .have:=iP (A:=A) (s:=s) ru rv f f
   rw[eZ f]at this;exact this
  .cases ru;cases rv;by_cases e:p=q
   .subst e;exact Gb _
   refine Gv e ?_;have hu1:A.in1.units+n<cLine:=by show A.units+1+n<cLine;omega
   rcases hpq with⟨hp,hq⟩|⟨hp,hq⟩
   .obtain⟨its,r1,l1,_⟩:=I.list (aT hp);obtain⟨its2,r2,l2,_⟩:=I.list (aT hq);have e1:=r1.length
    have e2:=r2.length
    have:=SeqAt.RcAt.lists (A:=A) (s:=s) (e:=λ_=>true) l1.isList l2.isList (by simp only[List.size_toArray];omega) (by omega) (λj h1 h2=>by
     have h1':j<its.length:=by simpa using h1
     have h2':j<its2.length:=by simpa using h2
     obtain⟨u',hu',ru'⟩:=r1.get (Aa (show j<xs.length by omega))
     obtain⟨v',hv',rv'⟩:=r2.get (Aa (show j<ys.length by omega))
     rw[Aa h1']at hu';rw[Aa h2']at hv';cases hu';cases hv'
     simpa using ih A.in1 _ _ _ _ (h j _ _ (List.getElem?_eq_getElem _) (List.getElem?_eq_getElem _)) ru' rv' hu1)
    rw[mW]at this;exact this
   .obtain⟨its,r1,l1,_⟩:=I.tuple (Y9.of (K:=X.K) (fZ hp));obtain⟨its2,r2,l2,_⟩:=I.tuple (Y9.of (K:=X.K) (fZ hq));have e1:=r1.length
    have e2:=r2.length
    have:=SeqAt.RcAt.tuples (A:=A) (s:=s) (e:=λ_=>true) (show s.heap.IsTuple p its.toArray from l1) (show s.heap.IsTuple q its2.toArray from l2) (by omega) (λj h1 h2=>by
     have h1':j<its.length:=by simpa using h1
     have h2':j<its2.length:=by simpa using h2
     obtain⟨u',hu',ru'⟩:=r1.get (Aa (show j<xs.length by omega))
     obtain⟨v',hv',rv'⟩:=r2.get (Aa (show j<ys.length by omega))
     rw[Aa h1']at hu';rw[Aa h2']at hv';cases hu';cases hv'
     simpa using ih A.in1 _ _ _ _ (h j _ _ (List.getElem?_eq_getElem _) (List.getElem?_eq_getElem _)) ru' rv' hu1)
    rw[mW,Bool.true_and,Ay,Ay,show (its.length==its2.length)=true from Gw.mpr (by omega)]at this
    exact this
def TU{U:St}(I:Inv X y4 U H s){p:Addr}(h:Yr H (n+1) (.ref p) (.ref q))(hu:A.units+(n+1)<cLine):SeqAt.RcAt A s (.ref p) (.ref q) true/\SeqAt.RcNeAt A s (.ref p) (.ref q) false:=by
 rcases h with⟨_,f⟩|⟨p',q',xs,ys,e1,e2,hpq,hl,h⟩
 .cases f
 .cases e1;cases e2;have hu1:A.in1.units+n<cLine:=by show A.units+1+n<cLine;omega
  rcases hpq with⟨hp,hq⟩|⟨hp,hq⟩
  .obtain⟨its,r1,l1,_⟩:=I.list (aT hp);obtain⟨its2,r2,l2,_⟩:=I.list (aT hq);have e1:=r1.length
   have e2:=r2.length
   have he:∀j (h1:j<its.toArray.size) (h2:j<its2.toArray.size),SeqAt.EqAt A.in1 s its.toArray[j] its2.toArray[j] ((λ_=>true) j):=λj h1 h2=>by
    have h1':j<its.length:=by simpa using h1
    have h2':j<its2.length:=by simpa using h2
    obtain⟨u',hu',ru'⟩:=r1.get (Aa (show j<xs.length by omega))
    obtain⟨v',hv',rv'⟩:=r2.get (Aa (show j<ys.length by omega))
    rw[Aa h1']at hu';rw[Aa h2']at hv';cases hu';cases hv'
    simpa using RQ I n A.in1 _ _ _ _ (h j _ _ (List.getElem?_eq_getElem _) (List.getElem?_eq_getElem _)) ru' rv' hu1
   have a:=SeqAt.RcAt.lists (A:=A) (s:=s) (e:=λ_=>true) l1.isList l2.isList (by simp only[List.size_toArray];omega) (by omega) he
   have b:=SeqAt.RcNeAt.lists (A:=A) (s:=s) (e:=λ_=>true) l1.isList l2.isList (by simp only[List.size_toArray];omega) (by omega) he
   rw[mW]at a b;exact⟨a,b⟩
  .obtain⟨its,r1,l1,_⟩:=I.tuple (Y9.of (K:=X.K) (fZ hp));obtain⟨its2,r2,l2,_⟩:=I.tuple (Y9.of (K:=X.K) (fZ hq));have e1:=r1.length
   have e2:=r2.length
   have he:∀j (h1:j<its.toArray.size) (h2:j<its2.toArray.size),SeqAt.EqAt A.in1 s its.toArray[j] its2.toArray[j] ((λ_=>true) j):=λj h1 h2=>by
    have h1':j<its.length:=by simpa using h1
    have h2':j<its2.length:=by simpa using h2
    obtain⟨u',hu',ru'⟩:=r1.get (Aa (show j<xs.length by omega))
    obtain⟨v',hv',rv'⟩:=r2.get (Aa (show j<ys.length by omega))
    rw[Aa h1']at hu';rw[Aa h2']at hv';cases hu';cases hv'
    simpa using RQ I n A.in1 _ _ _ _ (h j _ _ (List.getElem?_eq_getElem _) (List.getElem?_eq_getElem _)) ru' rv' hu1
   have a:=SeqAt.RcAt.tuples (A:=A) (s:=s) (e:=λ_=>true) (show s.heap.IsTuple p its.toArray from l1) (show s.heap.IsTuple q its2.toArray from l2) (by omega) he
   have b:=SeqAt.RcNeAt.tuples (A:=A) (s:=s) (e:=λ_=>true) (show s.heap.IsTuple p its.toArray from l1) (show s.heap.IsTuple q its2.toArray from l2) (by omega) he
   rw[mW,Bool.true_and,Ay,Ay,show (its.length==its2.length)=true from Gw.mpr (by omega)]at a b
   exact⟨a,b⟩
def U9(neg:Bool):R2:=λx y H Q=>∃n p q,n<=50/\x=.ref p/\y=.ref q/\Yr H (n+1) x y/\Q (.bl (!neg)) H
def Jf(hu:X.A.units+64<cLine):ZS X (compareOp .Eq) (U9 false):=by
 intro y4 s U H x y v u Q I rx ry h;obtain⟨n,p,q,hn,rfl,rfl,al,k⟩:=h;cases rx;cases ry;exact(TU I al (by omega)).1 X.prog X.w _ _ ⟨.bl true,H,I,rfl,k⟩
def Mh(hu:X.A.units+64<cLine):ZS X (compareOp .NotEq) (U9 true):=by
 intro y4 s U H x y v u Q I rx ry h;obtain⟨n,p,q,hn,rfl,rfl,al,k⟩:=h;cases rx;cases ry;exact(TU I al (by omega)).2 X.prog X.w _ _ ⟨.bl false,H,I,rfl,k⟩
def Rb{p:Addr}(n:Nat)(al:Yr H (n+1) (.ref p) (.ref q))(h:Q (.bl (!neg)) H)(hn:n<=50:=by omega):U9 neg (.ref p) (.ref q) H Q:=⟨n,p,q,hn,rfl,rfl,al,h⟩
def ZU(H1 Hc:Hp)(ps:List Addr)(fs:List (List V)):Prop:=ps.length=fs.length/\∀(j:Nat) p t,ps[j]?=some p->fs[j]?=some t->H1 p=none/\Hc p=some (.lst t)
def ZU.keep{Hd:Hp}(t:ZU H1 Hc ps fs)(s:Z_ Hc Hd):ZU H1 Hd ps fs:=⟨t.1,λj p u hp hu=>⟨(t.2 j p u hp hu).1,s _ _ (t.2 j p u hp hu).2⟩⟩
def ZU.YU{H0:Hp}(t:ZU H1 Hc ps fs)(s:Z_ H0 H1):ZU H0 Hc ps fs:=⟨t.1,λj p u hp hu=>⟨bK s (t.2 j p u hp hu).1,(t.2 j p u hp hu).2⟩⟩
def ZU.put{D:Addr}{o:HO}(t:ZU H1 Hc ps fs)(h:∀p∈ps,p≠D):ZU H1 (upd Hc D o) ps fs:=⟨t.1,λj p u hp hu=>by
 obtain⟨a,b⟩:=t.2 j p u hp hu;refine⟨a,?_⟩;rw[aI (h p (Ah hp))];exact b⟩
def ZU.snoc{ps:List Addr}{fs:List (List V)}{g:List V}(t:ZU H1 Hc ps fs)(a:H1 q=none)(b:Hc q=some (.lst g)):ZU H1 Hc (ps++[q]) (fs++[g]):=by
 refine⟨by rw[Ak,Ak,t.1];rfl,λj p v hp hv=>?_⟩
 by_cases h:j<ps.length
 .rw[Au h]at hp;rw[Au (by rw[<-t.1];exact h)]at hv
  exact t.2 j p v hp hv
 .rw[Aw (by omega)]at hp
  rw[Aw (by rw[<-t.1];omega),<-t.1]at hv
  cases e:j-ps.length with
  |zero=>rw[e]at hp hv;cases hp;cases hv;exact⟨a,b⟩
  |succ n=>rw[e]at hp;cases hp
def ZU.nil:ZU H1 Hc [] []:=⟨rfl,λj p u hp=>by cases hp⟩
def ZU.mem(t:ZU H1 Hc ps fs){p:Addr}(hp:p∈ps):∃g∈fs,H1 p=none/\Hc p=some (.lst g):=by
 obtain⟨j,hj⟩:=Cq.mp hp;have hl:j<fs.length:=by rw[<-t.1];exact(Ad.mp hj).1
 exact⟨fs[j],Bo _,t.2 j p _ hj (Aa hl)⟩
def jW(ns:List Int):∀n,n<=ns.length->preSum (λi=>ns.getD i 0) n=(ns.take n).sum
 |0,_=>by simp[preSum]
 |n+1,h=>by
  have ih:=jW ns n (by omega)
  have e:ns.take (n+1)=ns.take n++[ns.getD n 0]:=by rw[Be,Ac,Aa (by omega)];rfl
  rw[e,List.sum_append,<-ih];simp[preSum]
def MW{ns:List Int}(h:∀n∈ns,0<=n/\n<=1000000):0<=ns.sum/\ns.sum<=1000000*(ns.length:Int):=by
 induction ns with
 |nil=>simp
 |cons n r ih=>
  obtain⟨a,b⟩:=h n (Aq ..);obtain⟨c,d⟩:=ih λm hm=>h m (Ao _ hm);rw[Cw,Av];constructor
  .omega
  .push_cast;omega
def S7:List V->Hp->VK->Prop:=λxs H Q=>∃(p:Addr) (ns:List Int),xs=[.ref p]/\Z8 H p=some (ns.map V.int)/\(∀n∈ns,0<=n/\n<=1000000)/\ns.length<=100000/\Q (.int ns.sum) H
def JC(hc:X.calm=true):ZZ X (.builtin "sum") S7:=by
 intro y4 s U H xs us Q I r h;obtain⟨p,ns,rfl,hp,hb,hn,q⟩:=h;obtain⟨u,rfl,ru⟩:=eE r;cases ru;obtain⟨its,rv,pl,hz⟩:=I.list (aT hp);have hl:=pl.isList
 have hlt:p<s.heap.objs.size:=by obtain⟨_,e,_⟩:=hl;exact As e
 have hle:its.length=ns.length:=by have:=rv.length;rw[Ab]at this;omega
 refine call_sum_walk (Et hl ?_);refine⟨s.heap.objs.size,[s.heap.objs.size,p],[s.heap.objs.size],its.toArray.size,_,_,λi=>ns.getD i 0,rfl,Walks.list (A:=X.A.in1) (I.ok.hd hc) _ p (Bj hlt) its.toArray,
  ⟨⟨_,Ax _ rfl,rfl,rfl⟩,hl.push _⟩,λb hb=>?_,λi v hv=>?_,λj hj=>?_,λh' tk t' hk=>?_⟩
 .rw[show ({s with heap:=_}:Shared).heap=_ from rfl]
  simp only[List.mem_cons,List.not_mem_nil,or_false]at hb;rcases hb with e|e
  .rw[e];simp[Heap.push]
  .rw[e];exact Nat.lt_of_lt_of_le hlt (by simp[Heap.push])
 .have hv':its[i]?=some v:=by simpa using hv
  have hi:i<ns.length:=by rw[<-hle];exact(Ad.mp hv').1
  obtain⟨u,hu,ru⟩:=rv.get (show (ns.map V.int)[i]?=some (.int ns[i]) by rw[Af,Aa hi];rfl)
  rw[hv']at hu;cases hu;obtain⟨t,rfl⟩:=ru;exact⟨t,by show Value.int ns[i] t=Value.int (ns.getD i 0) t;rw[Ac,Aa hi];rfl⟩
 .have hj' : j < ns.length := by have : j < its.length := by simpa using hj
                                 omega
  have e:=jW ns (j+1) (by omega)
  obtain⟨a1,a2⟩:=MW (ns:=ns.take (j+1)) λm hm=>hb m (List.mem_of_mem_take hm);rw[Bt]at a2;have a3:ns.getD j 0∈ns:=by rw[Ac,Aa hj'];exact Bo _
  obtain⟨b1,b2⟩:=hb _ a3;refine⟨?_,?_⟩
  .show InLong (ns.getD j 0)
   unfold InLong;omega
  .rw[e];unfold InLong;omega
 .have e:preSum (λi=>ns.getD i 0) its.toArray.size=ns.sum:=by
   rw[Ay,hle,jW ns _ (Ai _),Br]
  rw[e];exact⟨.int ns.sum,H,I.kept (LSm.kept_iter hk),⟨_,rfl⟩,q⟩
def KN{p:Addr}(e:Z8 H p=some (ns.map V.int))(hb:∀n∈ns,0<=n/\n<=1000000)(hl:ns.length<=100000)(h:Q (.int ns.sum) H):S7 [.ref p] H Q:=⟨p,ns,rfl,e,hb,hl,h⟩
section
variable {κ:Type} [DecidableEq κ]
def bZ(kvs:List (κ×V))(k:κ):Option V:=(kvs.find? λkv=>decide (kv.1=k)).map (·.2)
def dJ(kvs:List (κ×V))(k:κ)(v:V):List (κ×V):=
 if (kvs.any λkv=>decide (kv.1=k))=true then kvs.map (λkv=>if kv.1=k then (kv.1,v) else kv) else kvs++[(k,v)]
def RP(kvs:List (κ×V))(k:κ):List (κ×V):=kvs.filter λkv=>decide (kv.1≠k)
def cH{p:κ×V}{r:List (κ×V)}{k:κ}(e:p.1=k):bZ (p::r) k=some p.2:=by simp[bZ,List.find?_cons,e]
def bX{p:κ×V}{r:List (κ×V)}{k:κ}(e:¬p.1=k):bZ (p::r) k=bZ r k:=by simp[bZ,List.find?_cons,e]
def dP(k:κ):∀kvs:List (κ×V),(kvs.any λkv=>decide (kv.1=k))=(bZ kvs k).isSome
 |[]=>rfl
 |p::r=>by
  rw[Hl];by_cases e:p.1=k
  .simp only[cH e,decide_eq_true e,Bool.true_or,Option.isSome_some]
  .rw[bX e,Al e,Hm];exact dP k r
def yO(k j:κ)(y:V):∀kvs:List (κ×V),bZ (kvs.map λkv=>if kv.1=k then (kv.1,y) else kv) j=(bZ kvs j).map λx=>if j=k then y else x
 |[]=>rfl
 |p::r=>by
  have ih:=yO k j y r
  rw[Ar];by_cases h:p.1=k
  .rw[if_pos h];by_cases e:p.1=j
   .rw[cH (p:=(p.1,y)) e,cH e,Fi,if_pos (e.symm.trans h)]
   .rw[bX (p:=(p.1,y)) e,bX e,ih]
  .rw[if_neg h];by_cases e:p.1=j
   .rw[cH (p:=p) e,cH e,Fi,if_neg (λz=>h (e.trans z))]
   .rw[bX (p:=p) e,bX e,ih]
def uA(k j:κ)(y:V):∀kvs:List (κ×V),bZ kvs k=none->bZ (kvs++[(k,y)]) j=if j=k then some y else bZ kvs j
 |[],_=>by
  by_cases e:k=j
  .rw[if_pos e.symm];exact cH (p:=(k,y)) e
  .rw[if_neg (λz=>e z.symm)];exact bX (p:=(k,y)) e
 |p::r,hn=>by
  rw[List.cons_append];have hk:¬p.1=k:=λz=>by rw[cH z]at hn;cases hn
  rw[bX hk]at hn;have ih:=uA k j y r hn
  by_cases e:p.1=j
  .rw[cH e,cH e,if_neg (λz=>hk (e.trans z))]
  .rw[bX e,bX e,ih]
def Qh(kvs:List (κ×V))(k j:κ)(y:V):bZ (dJ kvs k y) j=if j=k then some y else bZ kvs j:=by
 unfold dJ;by_cases a:(kvs.any λkv=>decide (kv.1=k))=true
 .rw[if_pos a,yO];rw[dP]at a;by_cases e:j=k
  .obtain⟨x,hx⟩:=Dm.mp a;rw[if_pos e,e,hx,Fi,if_pos rfl]
  .rw[if_neg e];cases bZ kvs j with
   |none=>rfl
   |some x=>rw[Fi,if_neg e]
 .rw[if_neg a];refine uA k j y kvs ?_;rw[dP]at a;cases q:bZ kvs k with
  |none=>rfl
  |some x=>rw[q]at a;exact(a rfl).elim
def fD(kvs:List (κ×V))(k:κ)(v:V):(dJ kvs k v).length<=kvs.length+1:=by
 unfold dJ;split
 .rw[Ab];omega
 .rw[Ak,Av,List.length_nil];omega
def jJ{kvs:List (κ×V)}{k:κ}(v:V)(h:bZ kvs k=none):dJ kvs k v=kvs++[(k,v)]:=by
 unfold dJ;rw[dP,h];exact if_neg (by decide)
def Zo.ZG{o:Option V}{u:Option Value}(r:Zo o u):o.isSome=u.isSome:=by
 cases o with
 |none=>cases u with
  |none=>rfl
  |some _=>exact(show False from r).elim
 |some _=>cases u with
  |none=>exact(show False from r).elim
  |some _=>rfl
def Zo.getD{o:Option V}{u:Option Value}{d:V}{d':Value}(r:Zo o u)(rd:RelV d d'):RelV (o.getD d) (u.getD d'):=by
 cases o with
 |none=>cases u with
  |none=>exact rd
  |some _=>exact(show False from r).elim
 |some _=>cases u with
  |none=>exact(show False from r).elim
  |some _=>exact r
def KV.val{kvs:List (κ×V)}{vs:List (κ×Value)}(r:KV kvs vs)(k:κ):Zo (bZ kvs k) (valueAt vs k):=by
 unfold KV at r;induction r with
 |nil=>exact True.intro
 | @cons p q ps qs h t ih=>
  obtain⟨h1,h2⟩:=h;by_cases e:p.1=k
  .have e':q.1=k:=h1.symm.trans e
   have b:valueAt (q::qs) k=some q.2:=by simp[valueAt,List.find?_cons,e']
   rw[cH e,b];exact h2
  .have e':¬q.1=k:=λz=>e (h1.trans z)
   have b:valueAt (q::qs) k=valueAt qs k:=by simp[valueAt,List.find?_cons,e']
   rw[bX e,b];exact ih
def KV.any{kvs:List (κ×V)}{vs:List (κ×Value)}(r:KV kvs vs)(k:κ):(kvs.any λkv=>decide (kv.1=k))=vs.any λkv=>decide (kv.1=k):=by
 unfold KV at r;induction r with
 |nil=>rfl
 |cons h t ih=>rw[Hl,Hl,ih,h.1]
def KV.WO{kvs:List (κ×V)}{vs:List (κ×Value)}(r:KV kvs vs)(k:κ)(ry:RelV y u):KV (kvs.map λkv=>if kv.1=k then (kv.1,y) else kv) (vs.map λkv=>if kv.1=k then (kv.1,u) else kv):=by
 unfold KV at r ⊢;induction r with
 |nil=>exact .nil
 | @cons p q ps qs h t ih=>
  rw[Ar,Ar];refine .cons ?_ ih;obtain⟨h1,h2⟩:=h;by_cases e:p.1=k
  .rw[if_pos e,if_pos (h1.symm.trans e)];exact⟨h1,ry⟩
  .rw[if_neg e,if_neg (λz=>e (h1.trans z))];exact⟨h1,h2⟩
def KV.put{kvs:List (κ×V)}{vs:List (κ×Value)}(r:KV kvs vs)(k:κ)(ry:RelV y u):KV (dJ kvs k y) (stored vs k u):=by
 unfold dJ stored;rw[r.any k];by_cases e:(vs.any λkv=>decide (kv.1=k))=true
 .rw[if_pos e,if_pos e];exact r.WO k ry
 .rw[if_neg e,if_neg e];exact Paired.snoc r ⟨rfl,ry⟩
def KV.drop{kvs:List (κ×V)}{vs:List (κ×Value)}(r:KV kvs vs)(k:κ):KV (RP kvs k) (without vs k):=by
 unfold KV at r ⊢;unfold RP without;induction r with
 |nil=>exact .nil
 | @cons p q ps qs h t ih=>
  obtain⟨h1,h2⟩:=h;rw[Fq,Fq];by_cases e:p.1=k
  .have a:¬decide (p.1≠k)=true:=by simp[e]
   have b:¬decide (q.1≠k)=true:=by simp[h1.symm.trans e]
   rw[if_neg a,if_neg b];exact ih
  .have e':¬q.1=k:=λz=>e (h1.trans z)
   have a:decide (p.1≠k)=true:=by simp[e]
   have b:decide (q.1≠k)=true:=by simp[e']
   rw[if_pos a,if_pos b];exact .cons ⟨h1,h2⟩ ih
def KV.length{kvs:List (κ×V)}{vs:List (κ×Value)}(r:KV kvs vs):kvs.length=vs.length:=Paired.length r
end
def qZ{k:Key}(r:RelV (kV k) u):(bH P w).is k u=true:=by
 cases k with
 |inl i=>obtain⟨t,e⟩:=(show ∃t,u=Value.int i t from r);subst e;exact xO P w i t
 |inr x=>obtain⟨t,e⟩:=(show ∃t,u=Value.str x t from r);subst e;exact xT P w x t
def tY:∀ {ks:List Key} {us:List Value},Vals (ks.map kV) us->ItemsAre (bH P w) ks us
 |[],_,r=>by rw[Fz]at r;cases r;exact .nil
 |k::ks,_,r=>by
  rw[Ar]at r;cases r with
  |cons h t=>exact .cons (qZ h) (tY t)
abbrev KT(H:Hp):List (List Key×V)->List (List Key×Addr×Value)->Prop:=Paired λp q=>p.1=q.1/\H q.2.1=some (.tup (p.1.map kV))/\RelV p.2 q.2.2
def KT.val{kvs:List (List Key×V)}{xs:List (List Key×Addr×Value)}(r:KT H kvs xs)(k:List Key):Zo (bZ kvs k) ((atKey xs k).map (·.2)):=by
 induction r with
 |nil=>exact True.intro
 | @cons p q ps qs h t ih=>
  obtain⟨h1,_,h2⟩:=h;by_cases e:p.1=k
  .have e':q.1=k:=h1.symm.trans e
   have b:atKey (q::qs) k=some q.2:=by simp[atKey,List.find?_cons,e']
   rw[cH e,b];exact h2
  .have e':¬q.1=k:=λz=>e (h1.trans z)
   have b:atKey (q::qs) k=atKey qs k:=by simp[atKey,List.find?_cons,e']
   rw[bX e,b];exact ih
def KT.WO{kvs:List (List Key×V)}{xs:List (List Key×Addr×Value)}(r:KT H kvs xs)(k:List Key)(ry:RelV y u):KT H (kvs.map λkv=>if kv.1=k then (kv.1,y) else kv) (xs.map (putAt k u)):=by
 induction r with
 |nil=>exact .nil
 | @cons p q ps qs h t ih=>
  rw[Ar,Ar];refine .cons ?_ ih;obtain⟨h1,h2,h3⟩:=h;unfold putAt;by_cases e:p.1=k
  .rw[if_pos e,if_pos (h1.symm.trans e)];exact⟨h1,h2,ry⟩
  .rw[if_neg e,if_neg (λz=>e (h1.trans z))];exact⟨h1,h2,h3⟩
def KT.put{kvs:List (List Key×V)}{xs:List (List Key×Addr×Value)}(r:KT H kvs xs)(k:List Key)(hb:H b=some (.tup (k.map kV)))(ry:RelV y u):KT H (dJ kvs k y) (storedH xs k b u):=by
 have e:(kvs.any λkv=>decide (kv.1=k))=(atKey xs k).isSome:=by
  rw[dP,(r.val k).ZG,Option.isSome_map]
 unfold dJ storedH;rw[e];by_cases q:(atKey xs k).isSome=true
 .rw[if_pos q,if_pos q];exact r.WO k ry
 .rw[if_neg q,if_neg q];exact Paired.snoc r ⟨rfl,hb,ry⟩
def KT.keeps{kvs:List (List Key×V)}{xs:List (List Key×Addr×Value)}(r:KT H kvs xs)(ht:∀b ys,H b=some (.tup ys)->H' b=some (.tup ys)):KT H' kvs xs:=
 Paired.WY r λ_ _ z=>⟨z.1,ht _ _ z.2.1,z.2.2⟩
def RD{u:HO}(ok:ZD P w H h)(e:Rd H a u):Z3 P w H h a u:=e.ok ok
def iR(ok:ZD P w H h)(e:Rd H a (.dK kvs)):kvs.length<=sizeLine/\(a==sysModules)=false/\∃vs,KV kvs vs/\h.DictOf (bH P w) a vs:=
 show Z3 P w H h a (.dK kvs) from RD ok e
def Ru(ok:ZD P w H h)(e:H a=some (.dK kvs)):kvs.length<=sizeLine/\(a==sysModules)=false/\∃vs,KV kvs vs/\h.DictOf (bH P w) a vs:=iR ok (.inl e)
def lG{ks:List Key}(ok:ZD P w H h)(e:H a=some (.tup (ks.map kV))):(tupleKind (bH P w)).is h ks a:=by
 obtain⟨_,its,r,o,h1,h2,n,h3⟩:=(show Z3 P w H h a (.tup (ks.map kV)) from ok a _ e);exact⟨o,its.toArray,n,h1,h2,h3,by simpa using tY r⟩
def pI{kvs:List (List Key×V)}(ok:ZD P w H h)(e:Rd H a (.dT kvs)):kvs.length<=sizeLine/\(a==sysModules)=false/\
 ∃xs,KT H kvs xs/\h.DictOfH (tupleKind (bH P w)) a xs:=by
 obtain⟨z,y,xs,r,o,es,ep,h1,h2,h3,h4,h5⟩:=(show Z3 P w H h a (.dT kvs) from RD ok e);refine⟨z,y,xs,r,o,es,ep,h1,h2,h3,h4,λx hx=>?_,h5⟩;have all:∀ {l:List (List Key×V)} {m:List (List Key×Addr×Value)},KT H l m->∀x∈m,(tupleKind (bH P w)).is h x.1 x.2.1:=by
  intro l m q;induction q with
  |nil=>intro x hx;exact nomatch hx
  | @cons p q ps qs hq t ih=>
   intro x hx;rcases Az.mp hx with e|hx
   .subst e;exact lG ok (by rw[<-hq.1];exact hq.2.1)
   .exact ih x hx
 exact all r x hx
def R1{kvs:List (List Key×V)}(ok:ZD P w H h)(e:H a=some (.dT kvs)):kvs.length<=sizeLine/\(a==sysModules)=false/\
 ∃xs,KT H kvs xs/\h.DictOfH (tupleKind (bH P w)) a xs:=pI ok (.inl e)
def Zq(H:Hp)(a:Addr)(y:V)(r:Option V):Prop:=
 (∃kvs k,Rd H a (.dK kvs)/\y=kV k/\r=bZ kvs k)\/∃kvs k b,Rd H a (.dT kvs)/\y=.ref b/\H b=some (.tup (k.map kV))/\r=bZ kvs k
def Yn(H:Hp)(a:Addr)(y v:V)(H':Hp):Prop:=
 (∃kvs k,H a=some (.dK kvs)/\y=kV k/\kvs.length<sizeLine/\H'=upd H a (.dK (dJ kvs k v)))\/
 ∃kvs k b,H a=some (.dT kvs)/\y=.ref b/\H b=some (.tup (k.map kV))/\kvs.length<sizeLine/\H'=upd H a (.dT (dJ kvs k v))
def Zq.k{k:Key}(e:H a=some (.dK kvs)):Zq H a (kV k) (bZ kvs k):=.inl ⟨kvs,k,.inl e,rfl,rfl⟩
def Zq.t{kvs:List (List Key×V)}{k:List Key}(e:H a=some (.dT kvs))(eb:H b=some (.tup (k.map kV))):Zq H a (.ref b) (bZ kvs k):=.inr ⟨kvs,k,b,.inl e,rfl,eb,rfl⟩
def Yn.k{k:Key}(e:H a=some (.dK kvs))(hl:kvs.length<sizeLine):Yn H a (kV k) v (upd H a (.dK (dJ kvs k v))):=.inl ⟨kvs,k,e,rfl,hl,rfl⟩
def Yn.t{kvs:List (List Key×V)}{k:List Key}(e:H a=some (.dT kvs))(eb:H b=some (.tup (k.map kV)))(hl:kvs.length<sizeLine):Yn H a (.ref b) v (upd H a (.dT (dJ kvs k v))):=.inr ⟨kvs,k,b,e,rfl,eb,hl,rfl⟩
section
variable {U:St} {r:Value} {o:Option V}
def Inv.big(I:Inv X y4 U H s):sysModules<s.heap.objs.size:=by
 have h:mainGlobals<s.heap.objs.size:=(I.mod.glob.keeps I.bk).lt
 exact Nat.lt_trans (by decide) h
def Md{Q:Q0}(hu:A.units+1<cLine)(I:Inv X y4 U H s)(g:Zq H a y (some v))(ry:RelV y u)(h:∀w' s',Inv X y4 U H s'->RelV v w'->Q w' s'):wpAny (model X.prog X.w) A (getItem (.ref a) u) Q E s:=by
 rcases g with⟨kvs,k,e,ey,l⟩|⟨kvs,k,b,e,ey,eb,l⟩
 .subst ey;obtain⟨z,hd,vs,rel,dd⟩:=iR I.Z7 e;obtain⟨w',hw,rw'⟩:=Zo.some_of (v:=v) (o:=valueAt vs k) (by rw[l];exact rel.val k)
  exact wpAny_getItem_of (qZ ry) dd.mapOf hw (h w' _ (I.tok _) rw')
 .subst ey;cases (show u=Value.ref b from ry);obtain⟨z,hd,xs,rel,dd⟩:=pI I.Z7 e;obtain⟨w',hw,rw'⟩:=Zo.some_of (v:=v) (o:=(atKey xs k).map (·.2)) (by rw[l];exact rel.val k)
  obtain⟨p,hp,hp2⟩:=Cu.mp hw;refine wpAny_getItem_heap (Fd hu) (lG I.Z7 eb) dd hp ?_;rw[hp2];exact h w' _ (I.tok _) rw'
def Tu{Q:Q0}(hu:A.units+1<cLine)(I:Inv X y4 U H s)(g:Zq H a y o)(ry:RelV y u)(h:∀s',Inv X y4 U H s'->Q (.bool o.isSome) s'):wpAny (model X.prog X.w) A (compareOp .In u (.ref a)) Q E s:=by
 rcases g with⟨kvs,k,e,ey,l⟩|⟨kvs,k,b,e,ey,eb,l⟩
 .subst ey;obtain⟨z,hd,vs,rel,dd⟩:=iR I.Z7 e;refine wpAny_in_of (qZ ry) hd dd.mapOf ?_;rw[<-(rel.val k).ZG,<-l];exact h _ (I.tok _)
 .subst ey;cases (show u=Value.ref b from ry);obtain⟨z,hd,xs,rel,dd⟩:=pI I.Z7 e;refine wpAny_in_heap (Fd hu) (lG I.Z7 eb) hd dd ?_;have q:=(rel.val k).ZG
  rw[Option.isSome_map]at q;rw[<-q,<-l];exact h _ (I.tok _)
def Lx{Q:Q0}(hu:A.units+1<cLine)(I:Inv X y4 U H s)(g:Zq H a y o)(ry:RelV y u)(h:∀s',Inv X y4 U H s'->Q (.bool (!o.isSome)) s'):wpAny (model X.prog X.w) A (compareOp .NotIn u (.ref a)) Q E s:=by
 rcases g with⟨kvs,k,e,ey,l⟩|⟨kvs,k,b,e,ey,eb,l⟩
 .subst ey;obtain⟨z,hd,vs,rel,dd⟩:=iR I.Z7 e;refine wpAny_notIn_of (qZ ry) hd dd.mapOf ?_;rw[<-(rel.val k).ZG,<-l];exact h _ (I.tok _)
 .subst ey;cases (show u=Value.ref b from ry);obtain⟨z,hd,xs,rel,dd⟩:=pI I.Z7 e;refine wpAny_notIn_heap (Fd hu) (lG I.Z7 eb) hd dd ?_;have q:=(rel.val k).ZG
  rw[Option.isSome_map]at q;rw[<-q,<-l];exact h _ (I.tok _)
def T7{ob:HO}(I:Inv X y4 U H s)(mu:Wo (H a))(hs:Heap.SameBut a s.heap h')(he:∃q,h'.get? a=some q)(new:Z3 X.prog X.w (upd H a ob) h' a ob):Inv X y4 U (upd H a ob) {s with heap:=h',toks:=t'}:=
 I.write (x:=a) (e:=a) mu (.inl rfl) (λb q hb z=>(hs.2 b hb).trans z) he new
def T3{vs:List (Key×Value)}(z:kvs.length<=sizeLine)(hd:(a==sysModules)=false)(rel:KV kvs vs)(dd:h'.DictOf (bH P w) a vs):Z3 P w H' h' a (.dK kvs):=⟨z,hd,vs,rel,dd⟩
def Qk{Q:Unit->Shared->Prop}(hu:A.units+1<cLine)(I:Inv X y4 U H s)(g:Yn H a y v H')(ry:RelV y u)(rv:RelV v r)(h:∀s',Inv X y4 U H' s'->Q () s'):wpAny (model X.prog X.w) A (setItem (.ref a) u r) Q E s:=by
 rcases g with⟨kvs,k,e,ey,l,eH⟩|⟨kvs,k,b,e,ey,eb,l,eH⟩
 .subst ey eH;obtain⟨z,hd,vs,rel,dd⟩:=Ru I.Z7 e;have hz:vs.length<=sizeLine:=by rw[<-rel.length];exact z
  have hl:(dJ kvs k v).length<=sizeLine:=by have:=fD kvs k v;omega
  refine wpAny_setItem_pairs (hsz:=hz) (qZ ry) dd λh' dd' hs=>h _ ?_;have he:∃q,h'.get? a=some q:=let ⟨q,_,_,hq,_⟩:=dd';⟨q,hq⟩
  exact T7 I (by rw[e];exact True.intro) hs he (T3 hl hd (rel.put k rv) dd')
 .subst ey eH;cases (show u=Value.ref b from ry);obtain⟨z,hd,xs,rel,dd⟩:=R1 I.Z7 e;have hz:xs.length<=sizeLine:=by rw[<-Paired.length rel];exact z
  have hl:(dJ kvs k v).length<=sizeLine:=by have:=fD kvs k v;omega
  refine wpAny_setItem_heap (hsz:=hz) (Fd hu) (lG I.Z7 eb) dd λh' dd' hs=>h _ ?_;obtain⟨q,es,ep,hq,h2,h3,h4,_,h5⟩:=dd';refine T7 I (by rw[e];exact True.intro) hs ⟨q,hq⟩ ⟨hl,hd,_,(rel.put k eb rv).keeps λc ys ec=>?_,q,es,ep,hq,h2,h3,h4,h5⟩
  rw[aI (Lz ec e (λz=>nomatch z))]
  exact ec
end
def Rn(i:Expr):Prop:=∀ov iv,subscripted i false ov iv=operate [ov,iv] (getItem ov iv)
def Qp{value slice:Expr}{id:String}{Q:Q0}(hl:typeLookup (.type T) "__getitem__"=pure (some (.builtin id)))(hs:Rn slice)(h:wpAny (model prog w) A (eval value env) (λo s₁=>wpAny (model prog w) A (eval slice env) (λi s₂=>s₂.TypeIs o T/\wpAny (model prog w) A (getItem o i) Q E s₂) E s₁) E s):wpAny (model prog w) A (eval (.Subscript value slice pos) env) Q E s:=by
 refine Subscript_ (Ck h (λo s₁ h₁=>Ck h₁ (λi s₂ h₂=>?_) λ_ _ x=>x) λ_ _ x=>x);obtain⟨hT,h₂⟩:=h₂;unfold subscriptTail;refine Ae ?_;rw[getitemInPython_of_ne hT.not_modules];refine Ae (wpAny_specialOf hT hl ?_);have fin:wpAny (model prog w) A (subscripted slice false o i) (λr s₃=>wpAny (model prog w) A (letTemporaryGo value o r >>= λ_=>pure r) Q E s₃) E s₂:=by
  rw[hs o i];exact wpAny_operating (Ck h₂ (λr s₃ h₃=>Ae (wpAny_letTemporaryGo (Am h₃))) λ_ _ x=>x)
 first
  |exact Am (Ae fin)
  |exact Ae (Am (Ae fin))
  |exact Ae fin
def zE{U:St}{o:Option V}(I:Inv X y4 U H s)(g:Zq H a y o):s.TypeIs (.ref a) "dict" := by
 rcases g with⟨kvs,k,e,_,_⟩|⟨kvs,k,b,e,_,_,_⟩
 .obtain⟨_,_,vs,_,dd⟩:=iR I.Z7 e;exact dd.typeIs
 .obtain⟨_,_,xs,_,dd⟩:=pI I.Z7 e;exact dd.typeIs
def Uq(td ty:TE):TE:=λU H Q=>td U H λx H1=>ty U H1 λy H2=>∃a v,x=.ref a/\Zq H2 a y (some v)/\Q v H2
def R6(td ty tv:TE):TS:=λD U H=>tv U H λv H1=>td U H1 λx H2=>ty U H2 λy H3=>∃a H4,x=.ref a/\Yn H3 a y v H4/\D.nx U H4
section
variable {o i value:Expr} {pos':Pos} {td ty:TE}
def gF(hu:X.A.units+1<cLine)(ho:PE X o td)(hi:PE X i ty)(hs:Rn i):PE X (.Subscript o i pos) (Uq td ty):=by
 intro y4 s U H Q I h;refine Qp PySem.F.slot_dict_getitem.lookup hs (Z0 (ho y4 s U H _ I h) λu s1 ⟨x,H1,I1,rx,q1⟩=>Z0 (hi y4 s1 U H1 _ I1 q1) λiv s2 ⟨y,H2,I2,ry,a,v,ex,g,q2⟩=>?_);subst ex;obtain rfl:u=Value.ref a:=rx;exact⟨zE I2 g,Md hu I2 g ry λw' s3 I3 rw'=>⟨v,H2,I3,rw',q2⟩⟩
def fG(hu:X.A.units+1<cLine)(ho:PE X o td)(hi:PE X i ty)(hv:PE X value tv)(hs:swapsWith value (some (.Subscript o i pos')) pos.line X.env=pure false):PS X (.Assign [.Subscript o i pos'] value pos) (R6 td ty tv):=by
 intro y4 s U H D I h;refine wpAny_Assign_Subscript (Z0 (hv y4 s U H _ I h) λr s1 ⟨v,H1,I1,rv,q1⟩=>Z0 (ho y4 s1 U H1 _ I1 q1) λu s2 ⟨x,H2,I2,rx,q2⟩=>Z0 (hi y4 s2 U H2 _ I2 q2) λiv s3 ⟨y,H3,I3,ry,a,H4,ex,g,q3⟩=>?_) hs;subst ex;obtain rfl:u=Value.ref a:=rx;exact Qk hu I3 g ry rv λs4 I4=>⟨U,H4,I4,q3⟩
end
def Na(h:Heap)(hb:sysModules<h.objs.size):Z3 P w H (h.push {cls:=.type "dict",data:=.dict #[]}) h.objs.size (.dK []):=
 ⟨Cs _,Ea.mpr (Ne.symm (Bj hb)),[],.nil,Heap.DictOf.new h⟩
def Ph(h:Heap)(hb:sysModules<h.objs.size):Z3 P w H (h.push {cls:=.type "dict",data:=.dict #[]}) h.objs.size (.dT []):=
 ⟨Cs _,Ea.mpr (Ne.symm (Bj hb)),[],.nil,_,#[],0,Ax _ rfl,⟨rfl,rfl,rfl⟩,rfl,rfl,List.nodup_nil⟩
def SD:TE:=λ_ H Q=>∀p,H p=none->Q (.ref p) (upd H p (.dK []))
def Ui:TE:=λ_ H Q=>∀p,H p=none->Q (.ref p) (upd H p (.dT []))
def qW:PE X (.Dict [] [] pos) SD:=λy4 s U H Q I h=>
 wpAny_Dict_empty ⟨.ref s.heap.objs.size,_,I.laid (a:=s.heap.objs.size) (o:=.dK []) (t':=s.toks) (λ_ _ q=>Ag _ q) (Ai _) (Na s.heap I.big),rfl,h _ (I.Z7.fresh (Ai _))⟩
def yY:PE X (.Dict [] [] pos) Ui:=λy4 s U H Q I h=>
 wpAny_Dict_empty ⟨.ref s.heap.objs.size,_,I.laid (a:=s.heap.objs.size) (o:=.dT []) (t':=s.toks) (λ_ _ q=>Ag _ q) (Ai _) (Ph s.heap I.big),rfl,h _ (I.Z7.fresh (Ai _))⟩
def To(H:Hp)(a:Addr):Prop:=(∃kvs,Rd H a (.dK kvs))\/∃kvs,Rd H a (.dT kvs)
def MS{U:St}(I:Inv X y4 U H s)(d:To H a):s.TypeIs (.ref a) "dict"/\(∀b,Value.ref a=.ref b->∃ob,s.heap.get? b=some ob/\ob.dict=none)/\(a==sysModules)=false:=by
 rcases d with⟨kvs,e⟩|⟨kvs,e⟩
 .obtain⟨_,hd,vs,_,dd⟩:=iR I.Z7 e;refine⟨dd.typeIs,λb q=>?_,hd⟩;cases q;obtain⟨ob,_,_,h1,h2,_⟩:=dd;exact⟨ob,h1,h2.2.1⟩
 .obtain⟨_,hd,xs,_,dd⟩:=pI I.Z7 e;refine⟨dd.typeIs,λb q=>?_,hd⟩;cases q;obtain⟨ob,_,_,h1,h2,_⟩:=dd;exact⟨ob,h1,h2.2.1⟩
section
variable {U:St} {d:V} {r:Value} {o:Option V}
def Ms{Q:Q0}(hu:A.units+1<cLine)(I:Inv X y4 U H s)(g:Zq H a y o)(ry:RelV y u)(h:∀w' s',Inv X y4 U H s'->RelV (o.getD .non) w'->Q w' s'):wpAny (model X.prog X.w) A (call (.builtin "dict.get") [.ref a,u]) Q E s:=by
 rcases g with⟨kvs,k,e,ey,l⟩|⟨kvs,k,b,e,ey,eb,l⟩
 .subst ey;obtain⟨z,hd,vs,rel,dd⟩:=iR I.Z7 e;refine Gp Bx dd.typeIs Ga (PySem.F.args_dict_get_2 _ _) (meets_dict_get (bH X.prog X.w) a (qZ ry) hd) ⟨_,dd.mapOf,h _ _ (I.tok _) ?_⟩;rw[l];exact(rel.val k).getD rfl
 .subst ey;cases (show u=Value.ref b from ry);obtain⟨z,hd,xs,rel,dd⟩:=pI I.Z7 e;refine Gp Bx dd.typeIs Ga (PySem.F.args_dict_get_2 _ _) (meetsH_dict_get (tupleKind (bH X.prog X.w)) a b hd) ⟨Fd hu,k,xs,lG I.Z7 eb,dd,h _ _ (I.tok _) ?_⟩;rw[l];exact(rel.val k).getD rfl
def Oe{Q:Q0}(hu:A.units+1<cLine)(I:Inv X y4 U H s)(g:Zq H a y o)(ry:RelV y u)(rd:RelV d r)(h:∀w' s',Inv X y4 U H s'->RelV (o.getD d) w'->Q w' s'):wpAny (model X.prog X.w) A (call (.builtin "dict.get") [.ref a,u,r]) Q E s:=by
 rcases g with⟨kvs,k,e,ey,l⟩|⟨kvs,k,b,e,ey,eb,l⟩
 .subst ey;obtain⟨z,hd,vs,rel,dd⟩:=iR I.Z7 e;refine Gp Bx dd.typeIs Ga (PySem.F.args_dict_get_3 _ _ _) (meets_dict_get_default (bH X.prog X.w) a (qZ ry) hd r) ⟨_,dd.mapOf,h _ _ (I.tok _) ?_⟩;rw[l];exact(rel.val k).getD rd
 .subst ey;cases (show u=Value.ref b from ry);obtain⟨z,hd,xs,rel,dd⟩:=pI I.Z7 e;refine Gp Bx dd.typeIs Ga (PySem.F.args_dict_get_3 _ _ _) (meetsH_dict_get_default (tupleKind (bH X.prog X.w)) a b hd r) ⟨Fd hu,k,xs,lG I.Z7 eb,dd,h _ _ (I.tok _) ?_⟩;rw[l];exact(rel.val k).getD rd
end
section
variable {U:St}
def Mc{Q:Q0}(I:Inv X y4 U H s)(e:Rd H a (.dK kvs))(h:∀p s',H p=none->Inv X y4 U (upd H p (.dK kvs)) s'->Q (.ref p) s'):wpAny (model X.prog X.w) A (call (.type "dict") [.ref a]) Q E s:=by
 obtain⟨z,hd,vs,rel,dd⟩:=iR I.Z7 e;refine kt_call_dict hd dd (by rw[<-rel.length];exact z) λh' dd' hs=>?_
 refine h _ _ (I.Z7.fresh (Ai _)) (I.laid (a:=s.heap.objs.size) (o:=.dK kvs) (t':=s.toks) (λb q hq=>?_) (Ai _) (T3 z (Ea.mpr (Ne.symm (Bj I.big))) rel dd'));exact(hs.2 b (Bj (As hq))).trans (Ag _ hq)
end
section
variable {U:St}
def Inv.re(I:Inv X y4 U H s)(hn:∀b,H b=none->H' b=none)(tups:∀b xs,X.H₀ b=some (.tup xs)->H' b=some (.tup xs))(frzs:∀b o u,X.H₀ b=some (.frz o u)->H' b=some (.frz o u))(tbls:∀b ps,X.H₀ b=some (.tbl ps)->∃more,H' b=some (.tbl (ps++more)))(Z7:ZD X.prog X.w H' s.heap):Inv X y4 U H' s:=
 ⟨I.ok,I.os,I.bare,⟨I.base.keep,I.base.slot,λb o e n hx=>hn b (I.base.free b o e n hx),I.base.there,tups,frzs,tbls⟩,I.loc,I.cell,hn _ I.free,λx c e=>hn c (I.ZT x c e),λp hp=>by
  obtain⟨a,b,c,d,e⟩:=I.pin p hp;exact⟨a,hn _ b,c,d,e⟩,Z7,I.len⟩
def Ti:HO->Bool
 |.dK _=>true
 |.dT _=>true
 |_=>false
def Inv.freeze{u:HO}(I:Inv X y4 U H s)(ha:H a=some u)(hu:Ti u=true)(ho:s.heap.get? a=some o):Inv X y4 U (upd H a (.frz o u)) s:=by
 have ne:∀c v,H c=some v->Ti v=false->c≠a:=λc v q n z=>by rw[z,ha]at q;cases q;rw[n]at hu;cases hu
 have own:∀c y,H c=some (.own y)->upd H a (.frz o u) c=some (.own y):=λc y q=>by rw[aI (ne c _ q rfl)];exact q
 have tup:∀c xs,H c=some (.tup xs)->upd H a (.frz o u) c=some (.tup xs):=λc xs q=>by rw[aI (ne c _ q rfl)];exact q
 refine I.re (λb q=>by rw[aI (λz=>by rw[z,ha]at q;cases q)];exact q) (λb xs q=>tup b xs (I.base.tups b xs q)) (λb o' v q=>?_) (λb ps q=>?_) (λb v q=>?_)
 .have:=I.base.frzs b o' v q
  rw[aI (ne b _ this rfl)];exact this
 .obtain⟨m,e⟩:=I.base.tbls b ps q;exact⟨m,by rw[aI (ne b _ e rfl)];exact e⟩
 .by_cases hb:b=a
  .subst hb;rw[aD]at q;cases q;exact(show s.heap.get? b=some o/\Z3 X.prog X.w (upd H b (.frz o u)) s.heap b u from⟨ho,(I.Z7 b _ ha).ZE (λ_ _ _ q=>q) (λc=>own c b) tup⟩)
  .rw[aI hb]at q;exact(I.Z7 b v q).ZE (λ_ _ _ q=>q) (λc=>own c b) tup
def Zr(Hs H:Hp):Hp:=λb=>match H b with
 |some (.frz o u)=>(match Hs b with|some (.frz _ _)=>some (.frz o u)|_=>some u)
 |x=>x
def dS{Hs:Hp}{u:HO}(h:H b=some u)(n:∀o v,u≠.frz o v):Zr Hs H b=some u:=by
 unfold Zr;rw[h];cases u<;>first|rfl|exact absurd rfl (n _ _)
def yV(h:H b=none):Zr Hs H b=none:=by unfold Zr;rw[h]
def uO{Hs:Hp}{u:HO}(h:H b=some (.frz o u))(n:∀o v,Hs b≠some (.frz o v)):Zr Hs H b=some u:=by
 unfold Zr;rw[h];dsimp only;split
 .rename_i e
  exact absurd e (n _ _)
 .rfl
def mM{o':Obj}{u u':HO}(h:H b=some (.frz o u))(n:Hs b=some (.frz o' u')):Zr Hs H b=some (.frz o u):=by
 unfold Zr;rw[h];dsimp only;rw[n]
def Inv.Zv(I:Inv X y4 U H s)(h0:∀b o u,X.H₀ b=some (.frz o u)->Hs b=some (.frz o u)):Inv X y4 U (Zr Hs H) s:=by
 have own:∀c y,H c=some (.own y)->Zr Hs H c=some (.own y):=λc y q=>dS q λ_ _ z=>by cases z
 have tup:∀c xs,H c=some (.tup xs)->Zr Hs H c=some (.tup xs):=λc xs q=>dS q λ_ _ z=>by cases z
 refine I.re (λb q=>yV q) (λb xs q=>tup b xs (I.base.tups b xs q)) (λb o u q=>mM (I.base.frzs b o u q) (h0 b o u q)) (λb ps q=>?_) (λb u q=>?_)
 .obtain⟨m,e⟩:=I.base.tbls b ps q;exact⟨m,dS e λ_ _ z=>by cases z⟩
 .cases e:H b with
  |none=>rw[yV e]at q;cases q
  |some v=>
   have ok:=I.Z7 b v e
   by_cases hf:∃o v',v=.frz o v'
   .obtain⟨o,v',rfl⟩:=hf;have ok2:s.heap.get? b=some o/\Z3 X.prog X.w H s.heap b v':=ok
    by_cases hs:∃o' u',Hs b=some (.frz o' u')
    .obtain⟨o',u',hs⟩:=hs;rw[mM e hs]at q;cases q;exact ok.ZE (λ_ _ _ q=>q) (λc=>own c b) tup
    .rw[uO e λo v z=>hs ⟨o,v,z⟩]at q;cases q;exact ok2.2.ZE (λ_ _ _ q=>q) (λc=>own c b) tup
   .rw[dS e λo v' z=>hf ⟨o,v',z⟩]at q;cases q;exact ok.ZE (λ_ _ _ q=>q) (λc=>own c b) tup
def We(Hs:Hp)(D:Ends):Ends:=⟨λU H=>D.nx U (Zr Hs H),λv H=>D.rt v (Zr Hs H),λU H=>D.bk U (Zr Hs H),λU H=>D.ct U (Zr Hs H)⟩
end
def SQ(t:TE):TE:=λU H Q=>t U H λv H'=>Q v (Zr H H')
def TF(t:TS):TS:=λD U H=>t (We H D) U H
def UL{t:TE}(h:PE X e t):PE X e (SQ t):=λy4 s U H Q I q=>Z0 (h y4 s U H _ I q) λv s' ⟨x,H',I',r,q'⟩=>⟨x,Zr H H',I'.Zv λb o u e=>I.base.frzs b o u e,r,q'⟩
def UG{t:TS}(h:PS X st t):PS X st (TF t):=λy4 s U H D I q=>Z0 (h y4 s U H _ I q) λf s' q'=>by
 cases f with
 |next=>obtain⟨U',H',I',r⟩:=q';exact⟨U',Zr H H',I'.Zv λb o u e=>I.base.frzs b o u e,r⟩
 |brk=>obtain⟨U',H',I',r⟩:=q';exact⟨U',Zr H H',I'.Zv λb o u e=>I.base.frzs b o u e,r⟩
 |cont=>obtain⟨U',H',I',r⟩:=q';exact⟨U',Zr H H',I'.Zv λb o u e=>I.base.frzs b o u e,r⟩
 |ret u=>obtain⟨v,U',H',I',rv,r⟩:=q';exact⟨v,U',Zr H H',I'.Zv λb o u e=>I.base.frzs b o u e,rv,r⟩
def QU{t:TE}{U:St}(h:t U H λv H'=>Q v (Zr H H')):SQ t U H Q:=h
def Nh{t:TS}{U:St}(h:t (We H D) U H):TF t D U H:=h
def nK{u:HO}(ha:Hs a=some u)(hu:∀o v,u≠.frz o v)(h:Z_ (upd Hs a (.frz o u)) H):Z_ Hs (Zr Hs H):=λb v q=>by
 by_cases e:b=a
 .subst e;rw[ha]at q;cases q;exact uO (h _ _ aD) λo v z=>by rw[ha]at z;cases z;exact hu _ _ rfl
 .have:=h b v (by rw[aI e];exact q)
  by_cases hf:∃o v',v=.frz o v'
  .obtain⟨o',v',rfl⟩:=hf;exact mM this q
  .exact dS this λo v' z=>hf ⟨o,v',z⟩
def Mz(h:Z_ Hs H):Z_ Hs (Zr Hs H):=λb v q=>by
 have:=h b v q
 by_cases hf:∃o v',v=.frz o v'
 .obtain⟨o',v',rfl⟩:=hf;exact mM this q
 .exact dS this λo v' z=>hf ⟨o,v',z⟩
def qN{β:Type}{R:α->β->Prop}{xs:List α}{ys:List β}(r:Paired R xs ys):∀ {i:Nat} {x:α},xs[i]?=some x->∃y,ys[i]?=some y/\R x y:=by
 induction r with
 |nil=>intro i x h;cases h
 |cons h t ih=>
  intro i x hx;cases i with
  |zero=>cases hx;exact⟨_,rfl,h⟩
  |succ i=>exact ih (i:=i) hx
def OT{k:Key}(h:(bH P w).is k u=true):RelV (kV k) u:=by
 rcases bQ h with⟨i,t,rfl,rfl⟩|⟨x,t,rfl,rfl⟩
 .exact⟨t,rfl⟩
 .exact⟨t,rfl⟩
def UK(a:Addr)(o:Obj)(kvs:List (Key×V)):It:=⟨λi H=>H a=some (.frz o (.dK kvs))/\i<kvs.length,λi H x H'=>H'=H/\∃kv,kvs[i]?=some kv/\x=kV kv.1,λi H=>H a=some (.frz o (.dK kvs))/\kvs.length=i⟩
def zR{U:St}(I:Inv X y4 U H s)(ha:H a=some (.frz o (.dK kvs)))(hep:∃es,o.data=.dict es ep):kvs.length<=sizeLine/\(a==sysModules)=false/\∃vs,KV kvs vs/\s.heap.DictAt (bH X.prog X.w) a vs ep:=by
 have ok:s.heap.get? a=some o/\(kvs.length<=sizeLine/\(a==sysModules)=false/\∃vs,KV kvs vs/\s.heap.DictOf (bH X.prog X.w) a vs):=I.Z7 a _ ha
 obtain⟨e,z,hd,vs,rel,o',es',ep',ho',hx,hdat,r⟩:=ok;rw[e]at ho';cases ho';obtain⟨es,hes⟩:=hep;have q:=hdat
 rw[hes]at q;cases q;exact⟨z,hd,vs,rel,o,_,e,hx,hdat,r⟩
def M_(a it:Addr)(o:Obj)(kvs:List (Key×V))(ep:Nat)(hep:∃es,o.data=.dict es ep):Turn P w K tg (UK a o kvs) [it] it (λi h=>h.IsKeyIter it a i kvs.length ep) where
 mem:=by simp
 obj:=λi h st b hb=>by
  have e:b=it:=by simpa using hb
  subst e;obtain⟨o,e,c,d⟩:=st;exact⟨o,e,λv z=>by rw[d]at z;cases z⟩
 keep:=λi h h' st k=>let ⟨o,ho,r⟩:=st;⟨o,k it (by simp) o ho,r⟩
 item:=by
  intro X hP hw hK hc i y4 s U H E I hf st hg;subst hP hw hK;obtain⟨ha,hi⟩:=hg;obtain⟨z,hd,vs,rel,dd⟩:=zR I ha hep;have hlv:=rel.length
  obtain⟨f0,f1,f2,f3,f4,f5⟩:=hf it (by simp)
  obtain⟨⟨k,v⟩,hx,hk1,_⟩:=qN rel (Aa hi);refine wpAny_pyNext_dict_item (knd:=bH X.prog X.w) (by rw[<-hlv];exact st) dd hx λkey h' hk st' sb=>?_
  have I1:Inv X y4 U H {s with heap:=h'}:=I.turned (t':=s.toks) (λb o hb e=>(sb.2 b hb).trans e) f0 f1 f3 f4 f5
  obtain⟨oi,e,c,d⟩:=id st';refine⟨key,rfl,uE (s:={s with heap:=h'}) e c d (by decide) ⟨kV k,H,I1,OT hk,⟨rfl,kvs[i],Aa hi,by rw[hk1]⟩,?_,λb hb=>(hf b hb).1⟩⟩
  rw[hlv];exact st'
 done:=by
  intro X hP hw hK hc i y4 s U H E I hf st hg;subst hP hw hK;obtain⟨ha,hi⟩:=hg;obtain⟨z,hd,vs,rel,dd⟩:=zR I ha hep;have hlv:=rel.length
  obtain⟨f0,f1,f2,f3,f4,f5⟩:=hf it (by simp)
  exact wpAny_pyNext_dict_end (knd:=bH X.prog X.w) (I.ok.hd hc) (by rw[<-hlv];exact st) dd (Ei (by omega)) λh' eb=>⟨rfl,I.turned (t':=s.toks) (λb o hb e=>eb b o hb e) f0 f1 f3 f4 f5⟩
 self:=λ_ _ _ _ _ st h=>wpAny_pyIter_keyiter st h
def OB{U:St}(I:Inv X y4 U H s)(ha:H a=some (.dK kvs)):∃o es ep,s.heap.get? a=some o/\o.data=.dict es ep:=by
 obtain⟨_,_,vs,_,o,es,ep,ho,_,hd,_⟩:=Ru I.Z7 ha;exact⟨o,es,ep,ho,hd⟩
def Oq{U:St}(I:Inv X y4 U H s)(ha:H a=some (.frz o (.dK kvs))):∃ep,∃es,o.data=.dict es ep:=by
 have ok:s.heap.get? a=some o/\(kvs.length<=sizeLine/\(a==sysModules)=false/\∃vs,KV kvs vs/\s.heap.DictOf (bH X.prog X.w) a vs):=I.Z7 a _ ha
 obtain⟨e,_,_,vs,_,o',es,ep,ho,_,hd,_⟩:=ok;rw[e]at ho;cases ho;exact⟨ep,es,hd⟩
def vM(H:Hp)(a:Addr)(R:Obj->List (Key×V)->Hp->Prop):Prop:=(∃kvs,H a=some (.dK kvs)/\∀o,R o kvs (upd H a (.frz o (.dK kvs))))\/∃o kvs,H a=some (.frz o (.dK kvs))/\R o kvs H
def walk_at{U:St}{R:Obj->List (Key×V)->Hp->Prop}(I:Inv X y4 U H s)(h:vM H a R):∃o kvs H' ep,Inv X y4 U H' s/\H' a=some (.frz o (.dK kvs))/\(∃es,o.data=.dict es ep)/\R o kvs H':=by
 rcases h with⟨kvs,ha,q⟩|⟨o,kvs,ha,q⟩
 .obtain⟨o,es,ep,ho,hd⟩:=OB I ha;exact⟨o,kvs,_,ep,I.freeze ha rfl ho,aD,⟨es,hd⟩,q o⟩
 .obtain⟨ep,es,hd⟩:=Oq I ha;exact⟨o,kvs,H,ep,I,ha,⟨es,hd⟩,q⟩
def Ur(tl:TE):TI:=λU H R=>tl U H (gE λa H1=>vM H1 a λo kvs H2=>R (UK a o kvs) H2)
def Sh{l:Expr}(hl:PE X l tl):PI X tg l (Ur tl):=by
 intro y4 s U H R I h;refine Z0 (hl y4 s U H _ I h) λv s1 ⟨x,H1,I1,r1,q1⟩=>?_;unfold gE at q1;split at q1
 .cases r1;rename_i a0 _
  obtain⟨o,kvs,H2,ep,I2,ha,hep,q⟩:=walk_at I1 q1;obtain⟨z,hd,vs,rel,dd⟩:=zR I2 ha hep;refine wpAny_pyIter_dict (knd:=bH X.prog X.w) hd dd ?_;refine⟨s1.heap.objs.size,[s1.heap.objs.size],_,_,H2,rfl,I2.kept (t':=s1.toks) λb o e=>Ag _ e,M_ a0 _ o kvs ep hep,⟨_,Ax _ rfl,rfl,by rw[rel.length];rfl⟩,λb hb=>?_,q⟩
  have e:b=s1.heap.objs.size:=by simpa using hb
  subst e;exact I2.YJ (Ai _) (I2.Z7.fresh (Ai _))
 .exact q1.elim
def Yh(H:Hp)(p:Addr):Bool:=match H p with
 |some (.dK _)=>true
 |some (.dT _)=>true
 |some (.frz _ (.dK _))=>true
 |some (.frz _ (.dT _))=>true
 |_=>false
def Pf{p:Addr}(h:Yh H p=true):To H p:=by
 unfold Yh at h;split at h
 .exact .inl ⟨_,.inl (by assumption)⟩
 .exact .inr ⟨_,.inl (by assumption)⟩
 .exact .inl ⟨_,.inr ⟨_,by assumption⟩⟩
 .exact .inr ⟨_,.inr ⟨_,by assumption⟩⟩
 .cases h
def jU{p:Addr}(h:H p=some (.dK kvs)):Yh H p=true:=by unfold Yh;rw[h]
def S8{p:Addr}(h:H p=some (.frz o (.dK kvs))):Yh H p=true:=by unfold Yh;rw[h]
section
variable {U:St}
def PM(h:tl U H (gE λa H1=>vM H1 a λo kvs H2=>R (UK a o kvs) H2)):Ur tl U H R:=h
def TZ{Rw:Obj->List (Key×V)->Hp->Prop}(e:H a=some (.dK kvs))(h:∀o,Rw o kvs (upd H a (.frz o (.dK kvs)))):vM H a Rw:=.inl ⟨kvs,e,h⟩
end
section
variable {o:Expr} {t:TA} {apos:Pos} {id:String}
def RC(r:V->List V->Hp->VK->Prop)(to:TE)(t:TA):TE:=λU H Q=>to U H (gE λp H1=>Yh H1 p=true/\t U H1 λxs H2=>r (.ref p) xs H2 Q)
def dO(slot:Slot "dict" name id)(hty:typeOf (.builtin id)=pure (.type "method_descriptor"))(hm:Yo X id r)(ho:PE X o to)(ha:PA X (e::es) t)(hbase:attributeBase o name X.env (eval o X.env)=eval o X.env:=by rfl)(hfew:((backTo cpos (starEach (e::es) X.env)).all (λx=>!x.1)&&(backToKw cpos (keywordEach [] X.env)).all (λx=>x.1.isSome)
 && decide ((e::es).length+([]:List Keyword).length+(if ([]:List Keyword).isEmpty then 0 else 1)<30))=true:=by rfl)(hline:(apos.endLine==cpos.line)=true:=by rfl)(hs:starEach (e::es) X.env=(false,eval e X.env)::starEach es X.env:=by rfl)(hplain:(backTo cpos (starEach es X.env)).any (·.1)=false:=by rfl):PE X (.Call (.Attribute o name apos) (e::es) [] cpos) (RC r to t):=by
 intro y4 s U H Q I h;refine wpAny_Call_method_late hbase hfew hline rfl (Z0 (ho y4 s U H _ I h) λv s1 ⟨x,H1,I1,r1,q⟩=>?_);unfold gE at q;split at q
 .obtain⟨hd,q1⟩:=q;obtain⟨h1,h2,_⟩:=MS I1 (Pf hd);cases _root_.id r1;refine⟨"dict",_,PySem.F.plainAttrs_dict,slot,hty,h1,h2,?_⟩;have hA:=ha cpos y4 s1 U H1 _ I1 q1
  rw[hs]at hA ⊢;refine Calls.callWith_builtin (by show (false || (backTo cpos (starEach es X.env)).any (·.1))=false;rw[hplain]<;>rfl) (Calls.evalArgs_plain ?_)
  exact Z0 hA λus s2 ⟨vs,H2,I2,r2,q2⟩=>hm y4 s2 U H2 _ vs _ us Q I2 r1 r2 q2
 .exact q.elim
def TJ:V->List V->Hp->VK->Prop:=λx vs H Q=>∃a y z o,x=.ref a/\vs=[y,z]/\Zq H a y o/\Q (o.getD z) H
def pF(hu:X.A.units+1<cLine):Yo X "dict.get" TJ:=by
 intro y4 s U H x vs v us Q I rx rv h;obtain⟨a,y,z,ov,rfl,rfl,g,q⟩:=h;cases rx;obtain⟨u,w',rfl,ru,rw'⟩:=sT rv;exact Oe hu I g ru rw' λw1 s1 I1 r1=>⟨_,H,I1,r1,q⟩
def TY:List V->Hp->VK->Prop:=λxs H Q=>∃a kvs,xs=[.ref a]/\Rd H a (.dK kvs)/\∀p,H p=none->Q (.ref p) (upd H p (.dK kvs))
def wX:ZZ X (.type "dict") TY:=by
 intro y4 s U H xs us Q I r h;obtain⟨a,kvs,rfl,ha,q⟩:=h;obtain⟨u,rfl,ru⟩:=eE r;cases ru;exact Mc I ha λp s1 hp I1=>⟨.ref p,_,I1,rfl,q p hp⟩
def UE(x y:V)(H:Hp)(Q:VK):Prop:=∃a v,x=.ref a/\Zq H a y (some v)/\Q v H
def Vc(D:Ends)(U:St)(x y v:V)(H:Hp):Prop:=∃a H4,x=.ref a/\Yn H a y v H4/\D.nx U H4
end
section
variable {U:St} {w:V} {td ty:TE} {t:TA}
def Rk(h:to U H (gE λp H1=>Yh H1 p=true/\t U H1 λxs H2=>r (.ref p) xs H2 Q)):RC r to t U H Q:=h
def Pe{P:Prop}(e:Yh H a=true)(h:P):Yh H a=true/\P:=⟨e,h⟩
def pN(e:Rd H a (.dK kvs))(h:Q ((bZ kvs (Sum.inr z)).getD w) H):TJ (.ref a) [.str z,w] H Q:=⟨a,.str z,w,_,rfl,rfl,.inl ⟨kvs,.inr z,e,rfl,rfl⟩,h⟩
def wO(e:Rd H a (.dK kvs))(h:∀p,H p=none->Q (.ref p) (upd H p (.dK kvs))):TY [.ref a] H Q:=⟨a,kvs,rfl,e,h⟩
def Ql(h:∀p,H p=none->Q (.ref p) (upd H p (.dK []))):SD U H Q:=h
def N8(h:td U H λx H1=>ty U H1 λy H2=>UE x y H2 Q):Uq td ty U H Q:=h
def qF(e:Rd H a (.dK kvs))(l:bZ kvs (Sum.inr z)=some v)(h:Q v H):UE (.ref a) (.str z) H Q:=⟨a,v,rfl,.inl ⟨kvs,.inr z,e,rfl,l.symm⟩,h⟩
def OU(h:tv U H λv H1=>td U H1 λx H2=>ty U H2 λy H3=>Vc D U x y v H3):R6 td ty tv D U H:=h
def iI(e:H a=some (.dK kvs))(l:kvs.length<sizeLine)(h:D.nx U (upd H a (.dK (dJ kvs (Sum.inr z) v)))):Vc D U (.ref a) (.str z) v H:=⟨a,_,rfl,.inl ⟨kvs,.inr z,e,rfl,l,rfl⟩,h⟩
end
section
open PySem.AutoSeq1 (wpAny_loadPart')
open PySem.MeetsSeq PySem.MeetsSeq2 PySem.MeetsSeq3
def Yy(P:Program)(w:World)(A:Around)(s:Shared)(u v:Value):Prop:=∀(E:Value->Shared->Prop) (Q:Bool->Shared->Prop),Q true s->wpAny (model P w) A (eqBool u v) Q E s
def KY(l b:Addr)(xs ys:Array Value)(n n2:Nat)(dd dd2:Option Addr)(sl sl2:Array (Option Value))(hsz:xs.size=ys.size)(k:Nat):∀i:Nat,xs.size-i=k->MeetsIn P w (Builtin.«list.__eq__.loop» ⟨[.ref l,.ref b,rawInt i,rawInt 2],[]⟩)
 (λA R s=>s.heap.get? l=some ⟨.type "list",dd,.seq xs n,sl⟩/\s.heap.get? b=some ⟨.type "list",dd2,.seq ys n2,sl2⟩/\(∀j (h1:j<xs.size) (h2:j<ys.size),Yy P w A.in1 s xs[j] ys[j])/\R (.ok (.ret (.bool true))) s):=by
 induction k with
 |zero=>
  intro i hk A R s h;obtain⟨hp,g,d,tk,os⟩:=s;obtain⟨ha,hq,he,h⟩:=h
  wp_walk using (Ba ha),(Ba hq)
  have n1:xs[((i:Nat):Int).toNat]?=none:=by simp;omega
  have n2':ys[((i:Nat):Int).toNat]?=none:=by simp;omega
  rw[n1,n2']
  wp_walk using (Ba ha),(Ba hq)
  show R (.ok (.ret (.bool (xs.size==ys.size)))) _
  rw[hsz,Fn];exact h
 |succ k ih=>
  intro i hk A R s h;obtain⟨hp,g,d,tk,os⟩:=s;obtain⟨ha,hq,he,h⟩:=h
  wp_walk using (Ba ha),(Ba hq)
  have l1:i<xs.size:=by omega
  have l2:i<ys.size:=by omega
  have n1:xs[((i:Nat):Int).toNat]?=some xs[i]:=by simp[l1]
  have n2':ys[((i:Nat):Int).toNat]?=some ys[i]:=by simp[l2]
  have hc:((i:Int)+1)=((i+1:Nat):Int):=by push_cast;rfl
  rw[n1,n2'];refine Ae (he i l1 l2 _ _ ?_)
  wp_walk
  rw[hc];refine⟨Dq plain_eq_loop _,Dh entry_eq_loop ?_⟩;rw[Cv plain_eq_loop _];exact ih (i+1) (by omega) A R _ ⟨ha,hq,he,h⟩
def NF(l b:Addr)(xs ys:Array Value)(n n2:Nat)(dd dd2:Option Addr)(sl sl2:Array (Option Value))(hsz:xs.size=ys.size)(k:Nat):∀i:Nat,xs.size-i=k->MeetsIn P w (Builtin.«list.__eq__.loop» ⟨[.ref l,.ref b,rawInt i,rawInt 3],[]⟩)
 (λA R s=>s.heap.get? l=some ⟨.type "list",dd,.seq xs n,sl⟩/\s.heap.get? b=some ⟨.type "list",dd2,.seq ys n2,sl2⟩/\(∀j (h1:j<xs.size) (h2:j<ys.size),Yy P w A.in1 s xs[j] ys[j])/\R (.ok (.ret (.bool false))) s):=by
 induction k with
 |zero=>
  intro i hk A R s h;obtain⟨hp,g,d,tk,os⟩:=s;obtain⟨ha,hq,he,h⟩:=h
  wp_walk using (Ba ha),(Ba hq)
  have n1:xs[((i:Nat):Int).toNat]?=none:=by simp;omega
  have n2':ys[((i:Nat):Int).toNat]?=none:=by simp;omega
  rw[n1,n2']
  wp_walk using (Ba ha),(Ba hq)
  show R (.ok (.ret (.bool (xs.size != ys.size)))) _
  rw[hsz,bne_self_eq_false];exact h
 |succ k ih=>
  intro i hk A R s h;obtain⟨hp,g,d,tk,os⟩:=s;obtain⟨ha,hq,he,h⟩:=h
  wp_walk using (Ba ha),(Ba hq)
  have l1:i<xs.size:=by omega
  have l2:i<ys.size:=by omega
  have n1:xs[((i:Nat):Int).toNat]?=some xs[i]:=by simp[l1]
  have n2':ys[((i:Nat):Int).toNat]?=some ys[i]:=by simp[l2]
  have hc:((i:Int)+1)=((i+1:Nat):Int):=by push_cast;rfl
  rw[n1,n2'];refine Ae (he i l1 l2 _ _ ?_)
  wp_walk
  rw[hc];refine⟨Dq plain_eq_loop _,Dh entry_eq_loop ?_⟩;rw[Cv plain_eq_loop _];exact ih (i+1) (by omega) A R _ ⟨ha,hq,he,h⟩
section
variable {xs ys:Array Value}
def Ue{Q:Q0}(hl:s.heap.IsList l xs)(hb:s.heap.IsList b ys)(hsz:xs.size=ys.size)(hu:A.units<cLine)(he:∀j (h1:j<xs.size) (h2:j<ys.size),Yy P w A.in1 s xs[j] ys[j])(h:Q (.bool true) s):wpAny (model P w) A (richCompare .Eq (.ref l) (.ref b)) Q E s:=by
 obtain⟨⟨cls,dd,data,sl⟩,ho,hc,n,hd⟩:=id hl;obtain⟨⟨cls2,dd2,data2,sl2⟩,ho2,hc2,n2,hd2⟩:=id hb;obtain rfl:cls=.type "list" := hc;obtain rfl:data=.seq xs n:=hd;obtain rfl:cls2=.type "list" := hc2;obtain rfl:data2=.seq ys n2:=hd2;have g:MeetsIn P w (Builtin.«list.__eq__» ⟨[.ref l,.ref b],[]⟩) (λA R s=>s.heap.get? l=some ⟨.type "list",dd,.seq xs n,sl⟩/\s.heap.get? b=some ⟨.type "list",dd2,.seq ys n2,sl2⟩/\(∀j (h1:j<xs.size) (h2:j<ys.size),Yy P w A.in1 s xs[j] ys[j])/\R (.ok (.ret (.bool true))) s):=by
  intro A R s h;obtain⟨hp,g,d,tk,os⟩:=s;obtain⟨ha,hq,he,h⟩:=h;have f3:=Hb
  have hne:¬(xs.size != ys.size)=true:=by simp[hsz]
  wp_walk using (Ba ha),(Ba hq)
  refine⟨Dq plain_eq_loop _,Dh entry_eq_loop ?_⟩;rw[Cv plain_eq_loop _];exact KY l b xs ys n n2 dd dd2 sl sl2 hsz _ 0 rfl A R _ ⟨ha,hq,he,h⟩
 exact Fb (op:=.Eq) ⟨_,ho,rfl⟩ ⟨_,ho2,rfl⟩ PySem.F.slot_list_eq (Gp PySem.F.slot_list_eq ⟨_,ho,rfl⟩ PySem.F.entry_list_eq (PySem.F.args_list_eq_2 _ _) g ⟨ho,ho2,he,show Value.bool true≠Value.notImplemented/\Q (.bool true) s from⟨(λx=>nomatch x),h⟩⟩) hu
def RM{Q:Q0}(hl:s.heap.IsList l xs)(hb:s.heap.IsList b ys)(hsz:xs.size=ys.size)(hu:A.units<cLine)(he:∀j (h1:j<xs.size) (h2:j<ys.size),Yy P w A.in1 s xs[j] ys[j])(h:Q (.bool false) s):wpAny (model P w) A (richCompare .NotEq (.ref l) (.ref b)) Q E s:=by
 obtain⟨⟨cls,dd,data,sl⟩,ho,hc,n,hd⟩:=id hl;obtain⟨⟨cls2,dd2,data2,sl2⟩,ho2,hc2,n2,hd2⟩:=id hb;obtain rfl:cls=.type "list" := hc;obtain rfl:data=.seq xs n:=hd;obtain rfl:cls2=.type "list" := hc2;obtain rfl:data2=.seq ys n2:=hd2;have g:MeetsIn P w (Builtin.«list.__ne__» ⟨[.ref l,.ref b],[]⟩) (λA R s=>s.heap.get? l=some ⟨.type "list",dd,.seq xs n,sl⟩/\s.heap.get? b=some ⟨.type "list",dd2,.seq ys n2,sl2⟩/\(∀j (h1:j<xs.size) (h2:j<ys.size),Yy P w A.in1 s xs[j] ys[j])/\R (.ok (.ret (.bool false))) s):=by
  intro A R s h;obtain⟨hp,g,d,tk,os⟩:=s;obtain⟨ha,hq,he,h⟩:=h;have f3:=Hb
  have hne:¬(xs.size != ys.size)=true:=by simp[hsz]
  wp_walk using (Ba ha),(Ba hq)
  refine⟨Dq plain_eq_loop _,Dh entry_eq_loop ?_⟩;rw[Cv plain_eq_loop _];exact NF l b xs ys n n2 dd dd2 sl sl2 hsz _ 0 rfl A R _ ⟨ha,hq,he,h⟩
 exact Fb (op:=.NotEq) ⟨_,ho,rfl⟩ ⟨_,ho2,rfl⟩ PySem.F.slot_list_ne (Gp PySem.F.slot_list_ne ⟨_,ho,rfl⟩ PySem.F.entry_list_ne (PySem.F.args_list_ne_2 _ _) g ⟨ho,ho2,he,show Value.bool false≠Value.notImplemented/\Q (.bool false) s from⟨(λx=>nomatch x),h⟩⟩) hu
def Yy.same(u:Value):Yy P w A s u u:=λE Q hq=>Gb u P w E Q hq
def Yy.refs(hne:l≠b)(h:∀(E:Q0) (Q:Q0),Q (.bool true) s->wpAny (model P w) A (richCompare .Eq (.ref l) (.ref b)) Q E s):Yy P w A s (.ref l) (.ref b):=λE Q hq=>by
 unfold eqBool;refine Cf (wpAny_ite_split (λhab=>absurd (by have:=eq_of_beq hab;injection this) hne) (λ_=>?_))
 exact Ae (h E _ (Er hq))
end
def V4(kvs kws:List (Key×V)):Prop:=kvs.length=kws.length/\∀kv∈kvs,bR kv.2=true/\bZ kws kv.1=some kv.2
def Te{ws:List (Key×Value)}(rw':KV kws ws){vs:List (Key×Value)}(r:KV kvs vs)(h:∀kv∈kvs,bR kv.2=true/\bZ kws kv.1=some kv.2):W.KeqHits A s ws vs true:=by
 unfold KV at r;induction r with
 |nil=>exact .nil
 | @cons kv vv _ _ hk t ih=>
  obtain⟨k,v⟩:=kv;obtain⟨k',u⟩:=vv;obtain⟨e,ru⟩:=hk;cases e;obtain⟨f,hv⟩:=h (k,v) (Aq ..);have ro:=rw'.val k
  rw[hv]at ro;cases ey:valueAt ws k with
  |none=>rw[ey]at ro;exact(show False from ro).elim
  |some y=>
   rw[ey]at ro;have eq:=iP (A:=A) (s:=s) ru (show RelV v y from ro) f f
   rw[eZ f]at eq;exact .hit (e:=true) (b:=true) ey eq (ih λkv hkv=>h kv (Ao _ hkv))
def RZ{U:St}(I:Inv X y4 U H s){p:Addr}(hp:Rd H p (.dK kvs))(hq:Rd H q (.dK kws))(d:V4 kvs kws)(hu:A.units<cLine)(E:Q0)(Q:Q0):(Q (.bool true) s->wpAny (model X.prog X.w) A (richCompare .Eq (.ref p) (.ref q)) Q E s)/\(Q (.bool false) s->wpAny (model X.prog X.w) A (richCompare .NotEq (.ref p) (.ref q)) Q E s):=by
 obtain⟨z1,d1,vs,r1,dd1⟩:=iR I.Z7 hp;obtain⟨z2,d2,ws,r2,dd2⟩:=iR I.Z7 hq;have hl:(vs.length==ws.length)=true:=Gw.mpr (by rw[<-r1.length,<-r2.length];exact d.1)
 refine⟨λh=>W.keq_eq (r:=true) d1 d2 dd1 dd2 hu (λ_=>Te r2 r1 d.2) (by rw[hl];exact h),λh=>W.keq_ne (r:=true) d1 d2 dd1 dd2 hu (λ_=>Te r2 r1 d.2) (by rw[hl];exact h)⟩
def Y6(H:Hp):Nat->V->V->Prop
 |0,x,y=>x=y/\bR x=true
 |n+1,x,y=>(x=y/\bR x=true)\/∃p q,x=.ref p/\y=.ref q/\((∃xs ys,Z8 H p=some xs/\Z8 H q=some ys/\xs.length=ys.length/\∀(j:Nat) x' y',xs[j]?=some x'->ys[j]?=some y'->Y6 H n x' y')\/∃kvs kws,Rd H p (.dK kvs)/\Rd H q (.dK kws)/\V4 kvs kws)
def Y6.flat{x:V}(h:bR x=true):Y6 H n x x:=by
 cases n with
 |zero=>exact⟨rfl,h⟩
 |succ n=>exact .inl ⟨rfl,h⟩
def Y6.lst{H:Hp}{n:Nat}{p q:Addr}{xs ys:List V}(hp:Z8 H p=some xs)(hq:Z8 H q=some ys)(hl:xs.length=ys.length)(h:∀(j:Nat) x y,xs[j]?=some x->ys[j]?=some y->Y6 H n x y):Y6 H (n+1) (.ref p) (.ref q):=.inr ⟨p,q,rfl,rfl,.inl ⟨xs,ys,hp,hq,hl,h⟩⟩
def Y6.K7{p:Addr}(hp:Rd H p (.dK kvs))(hq:Rd H q (.dK kws))(d:V4 kvs kws):Y6 H (n+1) (.ref p) (.ref q):=.inr ⟨p,q,rfl,rfl,.inr ⟨kvs,kws,hp,hq,d⟩⟩
def Y6.XT(f:xs.all bR=true):∀(j:Nat) x y,xs[j]?=some x->xs[j]?=some y->Y6 H n x y:=λj x y hx hy=>by
 rw[hx]at hy;cases hy;exact .flat (Ci.mp f x (Ah hx))
def zH{U:St}(I:Inv X y4 U H s)(ih:∀x y u v,Y6 H n x y->RelV x u->RelV y v->Yy X.prog X.w A.in1 s u v){p:Addr}(h:Y6 H (n+1) (.ref p) (.ref q))(hu:A.units<cLine)(E:Q0)(Q:Q0):(Q (.bool true) s->wpAny (model X.prog X.w) A (richCompare .Eq (.ref p) (.ref q)) Q E s)/\(Q (.bool false) s->wpAny (model X.prog X.w) A (richCompare .NotEq (.ref p) (.ref q)) Q E s):=by
 rcases h with⟨_,f⟩|⟨p',q',e1,e2,hpq⟩
 .cases f
 .cases e1;cases e2;rcases hpq with⟨xs,ys,hp,hq,hl,h⟩|⟨kvs,kws,hp,hq,d⟩
  .obtain⟨its,r1,l1,_⟩:=I.list (aT hp);obtain⟨its2,r2,l2,_⟩:=I.list (aT hq);have e1:=r1.length
   have e2:=r2.length
   have he:∀j (h1:j<its.toArray.size) (h2:j<its2.toArray.size),Yy X.prog X.w A.in1 s its.toArray[j] its2.toArray[j]:=λj h1 h2=>by
    have h1':j<its.length:=by simpa using h1
    have h2':j<its2.length:=by simpa using h2
    obtain⟨u',hu',ru'⟩:=r1.get (Aa (show j<xs.length by omega))
    obtain⟨v',hv',rv'⟩:=r2.get (Aa (show j<ys.length by omega))
    rw[Aa h1']at hu';rw[Aa h2']at hv';cases hu';cases hv'
    simpa using ih _ _ _ _ (h j _ _ (List.getElem?_eq_getElem _) (List.getElem?_eq_getElem _)) ru' rv'
   have hs:its.toArray.size=its2.toArray.size:=by simp only[List.size_toArray];omega
   exact⟨λq=>Ue l1.isList l2.isList hs hu he q,λq=>RM l1.isList l2.isList hs hu he q⟩
  .exact RZ I hp hq d hu E Q
def RE{U:St}(I:Inv X y4 U H s):∀(n:Nat) (A:Around) (x y:V) (u v:Value),Y6 H n x y->RelV x u->RelV y v->A.units+n<cLine->Yy X.prog X.w A s u v:=by
 intro n;induction n with
 |zero=>
  intro A x y u v h ru rv hu;obtain⟨rfl,f⟩:=h;have:=iP (A:=A) (s:=s) ru rv f f
  rw[eZ f]at this;exact λE Q hq=>this X.prog X.w E Q hq
 |succ n ih=>
  intro A x y u v h ru rv hu;rcases id h with⟨rfl,f⟩|⟨p,q,rfl,rfl,hpq⟩
  .have:=iP (A:=A) (s:=s) ru rv f f
   rw[eZ f]at this;exact λE Q hq=>this X.prog X.w E Q hq
  .cases ru;cases rv;by_cases e:p=q
   .subst e;exact .same _
   exact .refs e λE Q hq=>(zH I (λx y u v hx hu' hv'=>ih A.in1 x y u v hx hu' hv' (by show A.units+1+n<cLine;omega)) h (by omega) E Q).1 hq
def UU(neg:Bool):R2:=λx y H Q=>∃n p q,n<=50/\x=.ref p/\y=.ref q/\Y6 H (n+1) x y/\Q (.bl (!neg)) H
def Jj(hu:X.A.units+64<cLine):ZS X (compareOp .Eq) (UU false):=by
 intro y4 s U H x y v u Q I rx ry h;obtain⟨n,p,q,hn,rfl,rfl,al,k⟩:=h;cases rx;cases ry;exact(zH I (λx y u v hx hu' hv'=>RE I n X.A.in1 x y u v hx hu' hv' (by show X.A.units+1+n<cLine;omega)) al (by omega) _ _).1 ⟨.bl true,H,I,rfl,k⟩
def RA(hu:X.A.units+64<cLine):ZS X (compareOp .NotEq) (UU true):=by
 intro y4 s U H x y v u Q I rx ry h;obtain⟨n,p,q,hn,rfl,rfl,al,k⟩:=h;cases rx;cases ry;exact(zH I (λx y u v hx hu' hv'=>RE I n X.A.in1 x y u v hx hu' hv' (by show X.A.units+1+n<cLine;omega)) al (by omega) _ _).2 ⟨.bl false,H,I,rfl,k⟩
def RS{p:Addr}(n:Nat)(al:Y6 H (n+1) (.ref p) (.ref q))(h:Q (.bl (!neg)) H)(hn:n<=50:=by omega):UU neg (.ref p) (.ref q) H Q:=⟨n,p,q,hn,rfl,rfl,al,h⟩
def Z5.u1{k:Nat}(r:Z5 k A):A.units+1<cLine:=by have:=r.un;omega
end
section
open PySem.AutoSeq1 (wpAny_loadPart')
def TN:∀ {xs:List V} {us:List Value},us.length=xs.length->(∀(j:Nat) x u,xs[j]?=some x->us[j]?=some u->RelV x u)->Vals xs us
 |[],[],_,_=>.nil
 |x::r,u::t,hl,h=>.cons (h 0 x u rfl rfl) (TN (by simpa using hl) λj x' u' a b=>h (j+1) x' u' (by simpa using a) (by simpa using b))
 |[],_::_,hl,_=>absurd hl (by simp)
 |_::_,[],hl,_=>absurd hl (by simp)
end
section
open PySem.W
section
variable {K:Frag} {x D:Addr} {ox:Obj} {od:Option Obj}
def Li{v:Value}{expr:Bool}{Q:Q0}(Z:XG K D)(X:K.In s.heap)(I:InstAt s.heap x ox D od)(hf:findObj K D od name=some (.value v))(hh:handedIn v=true)(h:Q v {s with toks:=s.toks+1}):wpAny (model prog w) A (getAttr (.ref x) name expr) Q E s:=by
 obtain⟨hp,g,d,t,os⟩:=s;have L0:=I.type (M:=model prog w)
 have L1:=looks_findIn (M:=model prog w) X Z.ga
 have L2:=looks_findIn (M:=model prog w) X Z.gh
 have L3:=looks_find (M:=model prog w) X I hf
 unfold getAttr getAttrBy;refine Ae (wpAny_mkText (Cf (Ae (L0.at (Ae (L1.at ?_))))));have ne:(Value.builtin "BaseException.__getattribute__" == Value.builtin "object.__getattribute__")=false:=by decide +kernel
 have fb:=F.excAttr_ValueError.ga.bind (.ref x)
 dsimp only;rw[ne,Bool.and_false,if_neg An];unfold getAttrByItsOwn hookBefore;rw[if_pos (show onTheHeap (Value.ref D)=true from rfl)];refine Ae (L2.at (Ae (wpAny_attempt (Cf ?_))));unfold callGetattribute boundAndCalled;rw[if_neg (by rw[show onTheHeap (Value.builtin "BaseException.__getattribute__")=false from rfl,Bool.and_false];exact An)]
 refine Ae (Hn fb ?_);refine Gj (Eo F.excAttr_ValueError.ga.plain F.entry_bexc_ga (Qt Z X I ?_));unfold Builtin.«object.__getattribute__»;refine Ae (Am (Ae (Am (Ae (L0.at (Ae (L3.at ?_)))))));refine Am ?_;exact handed_on hh h
def Kj{e t0:Addr}{vs:Array Value}{rest:List Value}{Q:Q0}(Z:XG K D)(X:K.In s.heap)(I:InstAt s.heap e oe D od)(hb:W.subIn K (.ref D) (.type "ValueError")=some true)(hd:oe.data=.fields vs)(h0:vs[0]?=some (.ref t0))(hr:rest.length<=sizeLine)(h:Q .none {s with heap:=(s.heap.push {cls:=.type "tuple",data:=.seq rest.toArray}).update e (Obj.mapFields (·.setIfInBounds 0 (.ref s.heap.objs.size)))}):wpAny (model prog w) A (call (.builtin "ValueError.__init__") (.ref e::rest)) Q E s:=by
 have he:=I.at_
 obtain⟨cd,hc,_⟩:=any_some Z.cls;have FB:=Gk
 have L0:=I.type (M:=model prog w)
 have L1:=looks_subIn (M:=model prog w) X hb
 refine Gj (Eo FB.init.plain FB.initEntry ?_);have ck:∀(Q:Unit->Shared->Prop) (E:Q0) (B:Around),Q () s->wpAny (model prog w) B (checkBuiltinCall "ValueError.__init__" ⟨.ref e::rest,[]⟩) Q E s:=λQ E B hq=>by
  simp only[checkBuiltinCall,FB.initKind,FB.initSplit,FB.initRow];refine Ae ((L0.andThen L1).at ?_);have hst:=FB.noStar
  have sg:∀(a b:String) (n:Nat),Bind.check ⟨.positional, "*", "ValueError",.self,[⟨"args",.varPos,false⟩]⟩ a b n (List.map (λx=>x.fst) ({pos:=Value.ref e::rest}:Args).kw)=pure ():=λa b n=>check_star_args _ _ _ _ _ _
  repeat (first|wp_step)
  rw[I.cls];refine Ae ((looks_clsIn X hc).at (Am ?_));repeat (first|wp_step)
  refine wpAny_onRaise ?_;rw[sg];exact Am hq
 refine ck _ _ _ ?_;have hs0:0<vs.size:=(De.mp h0).1
 have hg:=Ag (h:=s.heap) {cls:=.type "tuple",data:=.seq rest.toArray} he
 unfold Builtin.«BaseException.__init__» newTuple Builtin.BaseException.bexcPut;dsimp only;rw[if_neg (by simp)]
 refine Ae (Gg (Ae (Ae (wpAny_field hg hd h0 (Ae (wpAny_setField hg hd hs0 (Ho (Am h))))))) (by show rest.toArray.size<=sizeLine;rw[Ay];exact hr))
def zL(K:Frag)(D:Addr):Option (List Value):=(clsIn K D).map (·.mro)
def wU{T:Addr}{v:Value}{h1:Heap}{m:Q5}{ns:List Str}{Q:Unit->Shared->Prop}(Z:XG K D)(X:K.In s.heap)(I:InstAt s.heap x ox D od)(hs:findIn K (.ref D) "__setattr__"=some (some (.builtin "object.__setattr__")))(hm:zL K D=some [.ref D,.ref T,.type "ValueError",.type "Exception",.type "BaseException",.type "object"])(hna:findIn K (.ref D) name=some none)(hi:∀(B:Around) (Q':Option Addr->Shared->Prop) (E':Q0),Q' (some dx) {s with heap:=h1,toks:=s.toks+1}->wpAny (model prog w) B (instanceDict x true) Q' E' {s with toks:=s.toks+1})(hn:h1.Ns1 dx m)(hw:Within m ns)(hz:ns.length<sizeLine)(h:∀h' tk',h'.Ns1 dx (λy=>if y=name then some v else m y)->Heap.SameBut dx h1 h'->Q () {s with heap:=h',toks:=tk'}):wpAny (model prog w) A (setAttr (.ref x) name v) Q E s:=by
 obtain⟨cd,hc,hd'⟩:=any_some Z.cls;have hmr:cd.mro=[.ref D,.ref T,.type "ValueError",.type "Exception",.type "BaseException",.type "object"]:=by
  unfold zL at hm;rw[hc]at hm;exact Bv hm
 have SF:=PySem.F.store_ValueError
 have sub:Looks (model prog w) s.heap (isInstance (.ref x) (.type "object")) true:=I.type.andThen (looks_mroIn X Z.mo)
 have hmm:Looks (model prog w) s.heap (mroOf (.ref D)) cd.mro:=(looks_clsIn X hc).andThen .now
 have hx:=I.at_
 refine set_plain X I hs ?_;refine Eo SF.slot.plain SF.entry (@check_slot (model prog w) _ _ {s with toks:=s.toks+1} "object.__setattr__" "object" "__setattr__" (.ref x) [.str name s.toks,v] [] _ SF.kind SF.split sub (SF.args (.ref x) (.str name s.toks) v) ?_)
 rw[osa_eq,refuse_eq];refine Ae (Ae (I.type.here (s:={s with toks:=s.toks+1}) (Ae (hmm.here (s:={s with toks:=s.toks+1}) ?_))))
 rw[hmr,refuseLoop_ref,refuseLoop_ref,SF.passes];refine Am (Ae (I.type.here (s:={s with toks:=s.toks+1}) (Ae ((looks_findIn X hna).here (s:={s with toks:=s.toks+1}) (Ae (Am ?_))))))
 show wpAny (model prog w) A.in1 (Builtin.ObjectAttr.storeInOwnDict (Value.ref x) (Value.ref D) (Value.str name s.toks) name v false) _ _ _
 unfold Builtin.ObjectAttr.storeInOwnDict;refine Ae (Am ?_);rw[if_neg (show ¬((Value.ref D==Value.type "module")=true) by simp)]
 unfold Builtin.ObjectAttr.ownDictForStores;refine Ae (hi _ _ _ ?_);show wpAny (model prog w) A.in1 (Builtin.ObjectAttr.storeInDict dx (Value.str name s.toks) name v) _ _ _
 unfold Builtin.ObjectAttr.storeInDict Builtin.ObjectAttr.newKeyGuard;refine Ae (Am (Ae (wpAny_nsSet1 hn λh' hn' sb=>?_)));obtain⟨oD,esD,epD,hoD,hdD,hcD⟩:=hn'.count (Within.cons name v hw);refine Ae (wpAny_lookBehind hoD (by rw[hdD];exact pastItsLine_dict (Bd hcD (by rw[Av];omega))) ?_)
 exact Am (h h' _ hn' sb)
def Mu{T:Addr}{v:Value}{vs:Array Value}{Q:Unit->Shared->Prop}(Z:XG K D)(X:K.In s.heap)(I:InstAt s.heap x ox D none)(hda:ox.data=.fields vs)(hdn:ox.dict=none)(hs:findIn K (.ref D) "__setattr__"=some (some (.builtin "object.__setattr__")))(hm:zL K D=some [.ref D,.ref T,.type "ValueError",.type "Exception",.type "BaseException",.type "object"])(hna:findIn K (.ref D) name=some none)(h:∀h' tk',h'.get? x=some {ox with dict:=some s.heap.objs.size}->h'.Ns1 s.heap.objs.size (λy=>if y=name then some v else none)->(∀b o,b≠x->s.heap.get? b=some o->h'.get? b=some o)->Q () {s with heap:=h',toks:=tk'}):wpAny (model prog w) A (setAttr (.ref x) name v) Q E s:=by
 obtain⟨cd,hc,hd'⟩:=any_some Z.cls;have hx:=I.at_
 have hx1:(s.heap.push {cls:=.type "dict",data:=.dict #[]}).get? x=some ox:=Ag _ hx
 have hxs:x≠s.heap.objs.size:=Bj (As hx)
 have hgd:((s.heap.push {cls:=.type "dict",data:=.dict #[]}).update x λo=>{o with dict:=some s.heap.objs.size}).get? s.heap.objs.size=some {cls:=.type "dict",data:=.dict #[]}:=
  (Heap.get?_update_ne _ _ _ _ hxs.symm).trans (Heap.get?_push_at rfl rfl)
 have hnd:((s.heap.push {cls:=.type "dict",data:=.dict #[]}).update x λo=>{o with dict:=some s.heap.objs.size}).Ns s.heap.objs.size (λ_=>none):=
  ⟨_,#[],_,hgd,rfl,λe he=>absurd he (by simp),λ_=>rfl⟩
 have hxu:((s.heap.push {cls:=.type "dict",data:=.dict #[]}).update x λo=>{o with dict:=some s.heap.objs.size}).get? x=some {ox with dict:=some s.heap.objs.size}:=by
  refine Gd _ hx1 ?_;obtain⟨a,b,c,d⟩:=ox;cases hda;rfl
 refine wU Z X I hs hm hna (λB Q' E' q=>?_) (Heap.Ns1.of_empty hnd) Within.nil (by rw[List.length_nil,sizeLine_eq];omega) λh' tk' n sb=>h h' tk' ((sb.2 x hxs).trans hxu) n λb o hb e=>
  (sb.2 b (Bj (As e))).trans ((Heap.get?_update_ne _ _ _ _ hb).trans (Ag _ e))
 unfold instanceDict;refine Ae (wpAny_loadPart hx ?_);rw[I.cls];refine Ae ((looks_clsIn X hc).here (s:={s with toks:=s.toks+1}) ?_)
 rw[hd',hdn,hda,if_neg (show ¬((!true)=true) by decide)]
 dsimp only;rw[if_neg (show ¬((!true || !typeHasDict (Value.ref D))=true) by simp[typeHasDict])]
 exact Ae (wpAny_alloc' (Ae (wpAny_update' hx1 (Am q))))
def Ks{T:Addr}{v:Value}{m:Q5}{ns:List Str}{odx:Obj}{Q:Unit->Shared->Prop}(Z:XG K D)(X:K.In s.heap)(I:InstAt s.heap x ox D (some odx))(hdn:ox.dict=some dx)(hs:findIn K (.ref D) "__setattr__"=some (some (.builtin "object.__setattr__")))(hm:zL K D=some [.ref D,.ref T,.type "ValueError",.type "Exception",.type "BaseException",.type "object"])(hna:findIn K (.ref D) name=some none)(hn:s.heap.Ns1 dx m)(hw:Within m ns)(hz:ns.length<sizeLine)(h:∀h' tk',h'.Ns1 dx (λy=>if y=name then some v else m y)->Heap.SameBut dx s.heap h'->Q () {s with heap:=h',toks:=tk'}):wpAny (model prog w) A (setAttr (.ref x) name v) Q E s:=by
 obtain⟨cd,hc,hd'⟩:=any_some Z.cls;refine wU Z X I hs hm hna (λB Q' E' q=>?_) hn hw hz h;unfold instanceDict;refine Ae (wpAny_loadPart I.at_ ?_);rw[I.cls];refine Ae ((looks_clsIn X hc).here (s:={s with toks:=s.toks+1}) ?_)
 rw[hd',hdn,if_neg (show ¬((!true)=true) by decide)]
 exact Am q
end
end
section
open PySem.W
def eC(ea C:Addr)(d:Option Addr):HO:=.ext λh=>∃oe vs t0,h.get? ea=some oe/\oe.cls=.ref C/\oe.dict=d/\oe.data=.fields vs/\vs[1]?=some .none/\vs[0]?=some (.ref t0)/\vs[2]?=some .none
def Y7(dx:Addr)(fs:List (Str×V)):HO:=.ext λh=>∃mA,h.Ns1 dx mA/\(∀f,Zo (fs.lookup f) (mA f))/\Within mA (fs.map (·.1))
def vB{vs:Array Value}{t0:Addr}(g:h.get? ea=some oe)(c:oe.cls=.ref C)(di:oe.dict=d)(da:oe.data=.fields vs)(h1:vs[1]?=some .none)(h0:vs[0]?=some (.ref t0))(c2:vs[2]?=some .none):Z3 P w H h ea (eC ea C d):=⟨⟨oe,vs,t0,g,c,di,da,h1,h0,c2⟩,⟨oe,g⟩,λ_ _ ⟨o,ws,t,g,q⟩ k=>⟨o,ws,t,k o g,q⟩⟩
def Tj{fs:List (Str×V)}{mA:Q5}(n:h.Ns1 dx mA)(r:∀f,Zo (fs.lookup f) (mA f))(wi:Within mA (fs.map (·.1))):Z3 P w H h dx (Y7 dx fs):=by
 refine⟨⟨mA,n,r,wi⟩,?_,λ_ _ ⟨m,⟨o,es,ep,g,q⟩,r⟩ k=>⟨m,⟨o,es,ep,k o g,q⟩,r⟩⟩;obtain⟨o,es,ep,g,_⟩:=n;exact⟨o,g⟩
structure V3 (K:Frag) (C T:Addr):Prop where
 ex:XG K C
 sa:findIn K (.ref C) "__setattr__"=some (some (.builtin "object.__setattr__"))
 mro:zL K C=some [.ref C,.ref T,.type "ValueError",.type "Exception",.type "BaseException",.type "object"]
 vb:W.subIn K (.ref C) (.type "ValueError")=some true
def Vj(K:Frag)(C T:Addr):Bool:=(clsIn K C).any λc=>c.mro==[.ref C,.ref T,.type "ValueError",.type "Exception",.type "BaseException",.type "object"]
def Uk{K:Frag}{T:Addr}(h:Vj K C T=true):zL K C=some [.ref C,.ref T,.type "ValueError",.type "Exception",.type "BaseException",.type "object"]:=by
 obtain⟨c,hc,h⟩:=any_some h;unfold zL;rw[hc];exact congrArg some (eq_of_beq h)
def kJ{D:Addr}{vs:Array Value}(Z7:ZD P w H h)(g:h.get? ea=some oe)(hc:oe.cls=.ref D)(hdi:oe.dict=d)(hda:oe.data=.fields vs)(hd:∀dx,d=some dx->∃o,H dx=some o):∃od,InstAt h ea oe D od:=by
 have no:notCls oe=true:=by
  obtain⟨c,di,da,sl⟩:=oe;cases hda;rfl
 cases d with
 |none=>exact⟨none,g,hc,no,by rw[hdi];trivial⟩
 |some dx=>
  obtain⟨o,z⟩:=hd dx rfl;obtain⟨ob,g2⟩:=(Z7 dx o z).get;exact⟨some ob,g,hc,no,by rw[hdi];exact g2⟩
def Qq{o:HO}(e:H a=some o):upd H a o=H:=by
 funext b
 unfold upd;split
 .rename_i z;rw[z,e]
 .rfl
def Vf(K:Frag):List V->Hp->VK->Prop:=λvs H Q=>∃ea rest C T d,vs=.ref ea::rest/\rest.length<=sizeLine/\H ea=some (eC ea C d)/\(∀dx,d=some dx->∃o,H dx=some o)/\V3 K C T/\Q .non H
def Sb(K:Frag)(t:TA):TE:=λU H Q=>t U H λvs H1=>Vf K vs H1 Q
def NH:ZZ X (.builtin "ValueError.__init__") (Vf X.K):=by
 intro y4 s U H xs us Q I r h;obtain⟨ea,rest,C,T,d,rfl,hl,he,hd,Z,q⟩:=h;cases r with
 | @cons _ _ _ l2 r0 rr=>
  cases r0;obtain⟨oe,vs,t0,g,hc,hdi,hda,h1,h0,c2⟩:=(I.Z7 ea _ he).1;obtain⟨od,hI⟩:=kJ I.Z7 g hc hdi hda hd;refine Kj Z.ex I.Zn hI Z.vb hda h0 (by rw[<-rr.length];exact hl) ?_
  have g2:=Ag (h:=s.heap) {cls:=.type "tuple",data:=.seq l2.toArray} g
  have hs0:0<vs.size:=(De.mp h0).1
  have dm:=Obj.data_mapFields hda (·.setIfInBounds 0 (Value.ref s.heap.objs.size))
  refine⟨.non,H,?_,rfl,q⟩;have I2:=I.write (x:=ea) (e:=ea) (o:=eC ea C d) (t':=s.toks) (by rw[he];exact True.intro) (.inl rfl) (λb u hb z=>(Bp _ (Obj.mapFields (·.setIfInBounds 0 (Value.ref s.heap.objs.size))) (Ne.symm hb)).trans (Ag _ z))
   ⟨_,Heap.get?_update_self _ g2 (Obj.isFreed_of_fields dm)⟩ (vB (Heap.get?_update_self _ g2 (Obj.isFreed_of_fields dm)) (by rw[Obj.cls_mapFields];exact hc) (by rw[yC];exact hdi) dm (by rw[Array.getElem?_setIfInBounds];simp[h1]) (t0:=s.heap.objs.size) (by simp[hs0]) ((Array.getElem?_setIfInBounds_ne (by decide)).trans c2))
  rw[Qq he]at I2;exact I2
section
variable {T:Addr} {mc:Value} {t:TA} {apos:Pos}
def xP{pl:Sem Bool}(hg:Gl X x)(hm:X.mg x=some (.ref T))(h1:specialIn X.K (.ref T) "__getattribute__"=some (some (.builtin "type.__getattribute__")))(h2:readsIn X.K T mc=true)(h3:findCls X.K (.ref T) mc "__init__"=some (.val (.builtin "ValueError.__init__")))(ha:PA X (e::es) t)(hdb:(x==("__debug__" : Str))=false:=by decide)(hst:starEach (e::es) X.env=(false,eval e X.env)::starEach es X.env:=by rfl)(hpl:(backTo pos (starEach es X.env)).any (·.1)=false:=by rfl)(ht:eval (.Call (.Attribute (.Name x np) "__init__" apos) (e::es) [] pos) X.env=(do
 let ov <-eval (.Name x np) X.env
 standAt apos.atName
 let (f,first) <-holding [ov] (getMethod ov "__init__" pl)
 callWith pos f first (backTo pos (starEach (e::es) X.env)) (backToKw pos (keywordEach [] X.env))):=by rfl):PE X (.Call (.Attribute (.Name x np) "__init__" apos) (e::es) [] pos) (Sb X.K t):=by
 intro y4 s U H Q I h;refine W.methodCall_KW (pl:=pl) (iO I hg hm ?_ hdb) ht;refine method_cls I.Zn h1 (cls_value I.Zn h2 h3 rfl ?_);exact PyProof.Rows.callWith_builtin1 (Z0 (ha pos y4 _ U H _ (I.tok _) h) λus s1 ⟨vs,H1,I1,r1,q1⟩=>NH y4 s1 U H1 vs us Q I1 r1 q1) hst hpl
end
def Inv.Y2{U:St}(I:Inv X y4 U H s)(h:s.heap.objs.size<=a):WB X y4 a where
 s0:=Gi (Bd I.sz h)
 loc:=λz=>absurd (Bb I.lt h) (by rw[z];exact Cy _)
 cell:=λx c e z=>by
  obtain⟨_,o,g,_⟩:=I.cell x c e;exact absurd (Bb (As g) h) (by rw[z];exact Cy _)
 pin:=λp hp z=>absurd (Bb (As (I.pin p hp).1) h) (by rw[z];exact Cy _)
def R_(K:Frag)(ta tv:TE)(f:Str):TS:=λD U H=>tv U H λy H1=>ta U H1 λx H2=>∃ea C T,x=.ref ea/\V3 K C T/\findIn K (.ref C) f=some none/\
 ((H2 ea=some (eC ea C none)/\∀dx,H2 dx=none->D.nx U (upd (upd H2 ea (eC ea C (some dx))) dx (Y7 dx [(f,y)])))\/
  (∃dx fs,H2 ea=some (eC ea C (some dx))/\H2 dx=some (Y7 dx fs)/\fs.length<100/\D.nx U (upd H2 dx (Y7 dx ((f,y)::fs)))))
def uJ{f g:Str}{fs:List (Str×V)}:List.lookup g ((f,y)::fs)=if g=f then some y else fs.lookup g:=by
 rw[Dx];by_cases z:g=f
 .rw[if_pos z,z];simp
 .rw[if_neg z];have:(g==f)=false:=by simpa using z
  rw[this]
def vW{o value:Expr}{f:Str}{pos':Pos}{ta:TE}(ha:PE X o ta)(hv:PE X value tv)(hs:swapsWith value (some (.Attribute o f pos')) pos.line X.env=pure false):PS X (.Assign [.Attribute o f pos'] value pos) (R_ X.K ta tv f):=by
 intro y4 s U H D I h;refine plainObj_wpAny_Assign_Attribute (Z0 (hv y4 s U H _ I h) λu s1 ⟨y,H1,I1,ry,q⟩=>Z0 (ha y4 s1 U H1 _ I1 q) λov s2 ⟨x,H2,I2,rx,ea,C,T,ex,Z,hn,q2⟩=>?_) hs;subst ex;obtain rfl:ov=Value.ref ea:=rx;rcases q2 with⟨he,q3⟩|⟨dx,fs,he,hdx,hl,q3⟩
 .obtain⟨oe,vs,t0,g,hc,hdi,hda,h1,h0,c2⟩:=(I2.Z7 ea _ he).1;obtain⟨od,hI⟩:=kJ I2.Z7 g hc hdi hda (λ_ z=>nomatch z)
  have hod:od=none:=by
   have z:=hI.dict
   rw[hdi]at z;cases od with
   |none=>rfl
   |some o=>exact z.elim
  subst hod;refine Mu Z.ex I2.Zn hI hda hdi Z.sa Z.mro hn λh' tk' gx ns kp=>?_;have fr:=I2.Y2 (Ai _)
  have hfree:H2 s2.heap.objs.size=none:=I2.Z7.fresh (Ai _)
  have ne:s2.heap.objs.size≠ea:=λz=>by rw[z,he]at hfree;cases hfree
  have I3:=I2.write (x:=ea) (e:=ea) (o:=eC ea C (some s2.heap.objs.size)) (h':=h') (t':=tk') (by rw[he];exact True.intro) (.inl rfl) kp ⟨_,gx⟩ (vB gx hc rfl hda h1 h0 c2)
  have I4:=I3.adopt (a:=s2.heap.objs.size) (o:=Y7 s2.heap.objs.size [(f,y)]) fr (by rw[aI ne];exact hfree) (Tj ns (λg=>by
   rw[uJ];split
   .exact ry
   .exact True.intro) (λg hg=>by
   by_cases z:g=f
   .rw[z];exact Bc.mpr rfl
   .exact absurd (show (if g=f then some u else none)=none by rw[if_neg z]) hg))
  exact⟨U,_,I4,q3 _ hfree⟩
 .obtain⟨oe,vs,t0,g,hc,hdi,hda,h1,h0,c2⟩:=(I2.Z7 ea _ he).1;obtain⟨mA,n,r,wi⟩:=(I2.Z7 dx _ hdx).1;obtain⟨od,hI⟩:=kJ I2.Z7 g hc hdi hda (λz e=>by cases e;exact⟨_,hdx⟩)
  have hod:∃o,od=some o:=by
   have z:=hI.dict
   rw[hdi]at z;cases od with
   |none=>exact z.elim
   |some o=>exact⟨o,rfl⟩
  obtain⟨o,rfl⟩:=hod;refine Ks Z.ex I2.Zn hI hdi Z.sa Z.mro hn n wi (by rw[Ab,sizeLine_eq];omega) λh' tk' ns sb=>?_
  have hd':∃o,h'.get? dx=some o:=let ⟨o,_,_,e',_⟩:=ns;⟨o,e'⟩
  have I3:=I2.write (x:=dx) (e:=dx) (o:=Y7 dx ((f,y)::fs)) (h':=h') (t':=tk') (by rw[hdx];exact True.intro) (.inl rfl) (λb q hb z=>(sb.2 b hb).trans z) hd' (Tj ns (λg=>by
   rw[uJ];split
   .exact ry
   .exact r g) (λg hg=>by
   by_cases z:g=f
   .rw[z];exact Aq
   .refine Ao _ (wi g λz2=>hg ?_);show (if g=f then some u else mA g)=none
    rw[if_neg z];exact z2))
  exact⟨U,_,I3,q3⟩
def Vd(K:Frag)(ta:TE)(f:Str):TE:=λU H Q=>ta U H λx H1=>∃ea C dx fs v,x=.ref ea/\(H1 ea=some (oN ea (.ref C) (some dx))\/H1 ea=some (eC ea C (some dx)))/\H1 dx=some (Y7 dx fs)/\XG K C/\findIn K (.ref C) f=some none/\fs.lookup f=some v/\Q v H1
def PR(r:RelV v u):handedIn u=true:=by
 cases v<;>first|(obtain⟨_,rfl⟩:=(show ∃t,u=_ from r);rfl)|(cases r;rfl)
def MH{f:Str}{ta:TE}(he:PE X e ta)(hb:attributeBase e f X.env (eval e X.env)=eval e X.env):PE X (.Attribute e f pos) (Vd X.K ta f):=by
 intro y4 s U H Q I h;refine JE hb (Z0 (he y4 s U H _ I h) λu s1 ⟨x,H1,I1,rx,ea,C,dx,fs,v,ex,e1,e2,Z,n,l,q⟩=>?_);subst ex;obtain rfl:u=Value.ref ea:=rx;obtain⟨oe,vs,g,hc,hdi,hda⟩:∃oe vs,s1.heap.get? ea=some oe/\oe.cls=.ref C/\oe.dict=some dx/\oe.data=.fields vs:=by
  rcases e1 with e1|e1
  .exact(I1.Z7 ea _ e1).1
  .obtain⟨oe,vs,t0,g,hc,hdi,hda,_⟩:=(I1.Z7 ea _ e1).1;exact⟨oe,vs,g,hc,hdi,hda⟩
 obtain⟨⟨mA,ns,r,wi⟩,_⟩:=I1.Z7 dx _ e2;obtain⟨od,hI⟩:=kJ I1.Z7 g hc hdi hda (λz e=>by cases e;exact⟨_,e2⟩)
 obtain⟨o,go,lo⟩:=sY ns;have hod:od=some o:=by
  have z:=hI.dict
  rw[hdi]at z;cases od with
  |none=>exact z.elim
  |some o'=>
   have z:s1.heap.get? dx=some o':=z
   rw[go]at z;exact z.symm
 subst hod;have rl:=r f
 rw[l]at rl;cases hu:mA f with
 |none=>rw[hu]at rl;exact rl.elim
 |some u=>
  rw[hu]at rl;exact Li Z I1.Zn hI (findObj_own Z.cls n rfl (by rw[lo,hu])) (PR rl) ⟨v,H1,I1.tok _,rl,q⟩
end
section
open PySem.W
def W0(K:Frag)(C:Addr)(bmB:List Value)(newId:String):Bool:=
 match K.lookup C with
 |some ⟨.type t,_,.cls c,sl⟩=>t == "type" && !c.hasDel&&nsOkIn K c.ns &&
  (match c.mro with|.ref C1::bm=>C1==C&&tailIn K bmB bm|_=>false)&&(match sl.toList with|[_,_,_,_,some (.builtin n),_]=>n==newId|_=>false)
 |_=>false
def U5{K:Frag}(X:K.In h)(q:W0 K C bmB newId=true):∃bm N nm qn bs hd sn sub ab col dd k0 k1 k2 k3 k5,h.get? C=some (excClassObj nm qn C N bs bm hd sn sub ab col dd k0 k1 k2 k3 k5 newId)/\OwnTail h bmB bm:=by
 unfold W0 at q;split at q
 .rename_i t dd c sl ho
  simp only[Bool.and_eq_true,beq_iff_eq,Bool.not_eq_true']at q;obtain⟨⟨⟨⟨rfl,q1⟩,q2⟩,q3⟩,q4⟩:=q;split at q3
  .rename_i C1 bm hm
   obtain⟨rfl,q5⟩:C1=C/\tailIn K bmB bm=true:=by simpa only[Bool.and_eq_true,beq_iff_eq]using q3
   split at q4
   .rename_i k0 k1 k2 k3 n k5 hs
    obtain rfl:n=newId:=by simpa using q4
    obtain⟨nm,bs,mro,ns,qn,hd,sn,sub,ab,col,del⟩:=c;dsimp only at hm q1 q2;subst hm q1;obtain⟨l⟩:=sl;cases (show l=_ from hs);exact⟨bm,ns,nm,qn,bs,hd,sn,sub,ab,col,dd,k0,k1,k2,k3,k5,X _ _ ho,tail_of_in X q5⟩
   .cases q4
  .cases q3
 .cases q
section
variable {K:Frag} {B initId:String}
def Pj{rest:List Value}{Q:Fin->Shared->Prop}(FB:ExcBaseFacts B newId initId bmB)(X:K.In s.heap)(hx:W0 K C bmB newId=true)(hi:findIn K (.ref C) "__init__"=some (some (.ref f)))(hf:typeIn K (.ref f)=some (.type "function"))(hr:rest.length<=sizeLine)(hq:∀h' e,Heap.MadeExcOf s.heap h' e (.ref C) rest->wpAny (model prog w) A (call (.ref f) (.ref e::rest)) (λr s'=>r=.none/\Q (.done (.ret (.ref e))) s') E {s with heap:=h'}):wpAny (model prog w) A (Builtin.«type.__call__» ⟨.ref C::rest,[]⟩) Q E s:=by
 obtain⟨h,g,d,t,os⟩:=s;obtain⟨bm,N,nm,qn,bs,hd,sn,sub,ab,col,dd,k0,k1,k2,k3,k5,hC,Tl⟩:=U5 X hx;repeat (first|with_reducible refine wpAny_madeBy_exc hC ?_|with_reducible refine Gh hC ?_|wp_step)
 refine codeAny_call_builtin_code (Code.quiet_builtin _ FB.quiet) (wpAny_check_new_subT FB Tl hC (codeAny_exc_new_subT FB Tl hC ?_ hr));show wpAny _ _ _ _ _ _
 generalize hh1:(h.push {cls:=.type "tuple",data:=.seq rest.toArray}).push {cls:=.ref C,data:=.fields #[.ref h.objs.size,.none,.none,.none,.bool false,.none]}=h1;have kp:∀b o,h.get? b=some o->h1.get? b=some o:=λb o e=>by rw[<-hh1];exact Ag _ (Ag _ e)
 have dI:h1.get? (h.objs.size+1)=some {cls:=.ref C,data:=.fields #[.ref h.objs.size,.none,.none,.none,.bool false,.none]}:=by rw[<-hh1];heap_get
 have X1:=X.keeps kp
 have hC1:=kp _ _ hC
 have hcC:(Value.ref C::bm).contains (.ref C)=true:=by simp
 unfold isInstance;repeat (first|(with_reducible refine wpAny_isSubtype_exc hC1 ?_;rw[hcC])|with_reducible refine Gh dI ?_|wp_step)
 show wpAny _ _ (typeLookup (.ref C) _) _ _ _
 refine(looks_findIn X1 hi).here (s:=⟨h1,g,d,t,os⟩) (Cf (Ae ?_));unfold bindSpecial;refine Ae ((looks_typeIn X1 hf).here (s:=⟨h1,g,d,t,os⟩) ?_);rw[if_pos (by decide)]
 refine Am (Ae (Ck (hq h1 (h.objs.size+1) ⟨kp,Gi (Nat.le_succ _),h.objs.size,dI,Gi (Ai _),?_⟩) (λr s' hr=>?_) λ_ _ z=>z))
 .rw[<-hh1];exact Ag _ (Heap.get?_push_at rfl rfl)
 .obtain⟨rfl,z⟩:=hr
  wp_walk
  exact z
def OA{rest:List Value}{Q:Q0}(FB:ExcBaseFacts B newId initId bmB)(X:K.In s.heap)(hx:W0 K C bmB newId=true)(hi:findIn K (.ref C) "__init__"=some (some (.ref f)))(hf:typeIn K (.ref f)=some (.type "function"))(hr:rest.length<=sizeLine)(hq:∀h' e,Heap.MadeExcOf s.heap h' e (.ref C) rest->wpAny (model prog w) (A.under (.builtin "type.__call__" ⟨.ref C::rest,[]⟩)) (call (.ref f) (.ref e::rest)) (λr s'=>r=.none/\Q (.ref e) s') E {s with heap:=h'}):wpAny (model prog w) A (call (.ref C) rest) Q E s:=by
 have X0:=X
 obtain⟨h,g,d,t,os⟩:=s;obtain⟨bm,N,nm,qn,bs,hd,sn,sub,ab,col,dd,k0,k1,k2,k3,k5,hC,Tl⟩:=U5 X hx;have c1:=tc_lookup
 have c2:=tc_bind (.ref C)
 have c3:(⟨h,g,d,t,os⟩:Shared).TypeIs (.ref C) "type" := ⟨_,hC,rfl⟩
 refine Gj (codeAny_of_tree ?_);show wpAny _ _ (callAny (.ref C) _) _ _ _
 repeat (any_goals (first|with_reducible refine Gh hC ?_|assumption|wp_step))
 exact⟨rfl,codeAny_call_builtin_at (Code.quiet_builtin _ (by decide +kernel)) entry_typeCall (wpAny_check_type_call_sub hC (Pj FB X0 hx hi hf hr λh' e hm=>hq h' e hm))⟩
def PX{x:Sem Value}{Q:Flow->Shared->Prop}(hh:A.handled=none)(h:wpAny (model prog w) A x (λv s1=>∃e oe vs bm N nm qn bs hd sn sub ab col dd k0 k1 k2 k3 k5,v=.ref e/\s1.heap.get? C=some (excClassObj nm qn C N bs bm hd sn sub ab col dd k0 k1 k2 k3 k5 newId)/\bm.contains (.type "BaseException")=true/\
 s1.heap.get? e=some oe/\oe.cls=.ref C/\oe.data=.fields vs/\vs[1]?=some .none/\E (.ref e) s1) E s):wpAny (model prog w) A (raiseStmt env (some x) none) Q E s:=by
 unfold raiseStmt;refine Ae (Ck h (λv s1 q=>?_) λ_ _ z=>z);obtain⟨e,oe,vs,bm,N,nm,qn,bs,hd,sn,sub,ab,col,dd,k0,k1,k2,k3,k5,rfl,hC,hb,he,hc,hda,h1,hE⟩:=q;obtain⟨hp,g,d,tk,os⟩:=s1;obtain⟨oc,odi,oda,osl⟩:=oe;dsimp only at hc hda;subst hc hda;have hcB:(Value.ref C::bm).contains (.type "BaseException")=true:=by rw[List.contains_cons,hb,Bool.or_true]
 repeat (first|with_reducible refine Gh hC ?_|with_reducible refine Gh he ?_|(with_reducible refine wpAny_isSubtype_exc hC ?_;rw[hcB])|wp_step)
 rw[h1];refine Am ?_;rw[if_neg (show ¬((Value.none != Value.none)=true) by decide)]
 exact Am (wpAny_raiseNew_none hh hE)
end
def del(H:Hp)(a:Addr):Hp:=λb=>if b=a then none else H b
def dH(h:b≠a):del H a b=H b:=if_neg h
def yZ:del H a a=none:=if_pos rfl
section
variable {U:St}
def Inv.drop{φ:Heap->Prop}(I:Inv X y4 U H s)(e:H ea=some (.ext φ)):Inv X y4 U (del H ea) s:=by
 have ne:∀b u,H b=some u->(∀ψ,u≠.ext ψ)->b≠ea:=λb u q n z=>by
  rw[z,e]at q;cases q;exact n φ rfl
 refine I.re (λb n=>?_) (λb xs q=>?_) (λb o u q=>?_) (λb ps q=>?_) λb o q=>?_
 .unfold del;split
  .rfl
  .exact n
 .have q1:=I.base.tups b xs q
  rw[dH (ne b _ q1 λ_ z=>nomatch z)]
  exact q1
 .have q1:=I.base.frzs b o u q
  rw[dH (ne b _ q1 λ_ z=>nomatch z)]
  exact q1
 .obtain⟨m,q1⟩:=I.base.tbls b ps q;exact⟨m,by rw[dH (ne b _ q1 λ_ z=>nomatch z)];exact q1⟩
 .have hb:b≠ea:=λz=>by rw[z,yZ]at q;cases q
  rw[dH hb]at q;exact(I.Z7 b o q).ZE (λ_ _ _ z=>z) (λc z=>by rw[dH (ne c _ z λ_ z=>nomatch z)];exact z) λc xs z=>by rw[dH (ne c _ z λ_ z=>nomatch z)];exact z
def Inv.W3(I:Inv X y4 U H s)(hex:X.ex=[])(h:s.heap.get? a=none):WB X y4 a where
 s0:=by
  cases z:X.s₀.heap.get? a with
  |none=>rfl
  |some o=>
   obtain⟨o',z'⟩:=I.base.there a o z (by rw[hex];simp)
   rw[h]at z';cases z'
 loc:=λz=>by
  obtain⟨m,⟨o,_,_,g,_⟩,_⟩:=I.loc;rw[<-z,h]at g;cases g
 cell:=λx c e z=>by
  obtain⟨_,o,g,_⟩:=I.cell x c e;rw[z,h]at g;cases g
 pin:=λp hp z=>by
  have g:=(I.pin p hp).1
  rw[z,h]at g;cases g
end
def WE(P:Program)(w:World)(K:W.Frag)(mg:Str->Option Value)(base:Heap)(k:Nat)(C:Addr)(ps:List Str)(sp:Sp):Prop:=
 ∃(f:Addr) (fd:FuncData),Z4 P w K mg base ZO k f fd ps sp/\findIn K (.ref C) "__init__"=some (some (.ref f))/\typeIn K (.ref f)=some (.type "function")/\Binds K fd ps []
structure Vx (K:Frag) (C:Addr):Prop where
 obj:W0 K C [.type "ValueError",.type "Exception",.type "BaseException",.type "object"] "ValueError.__new__"=true
 kp:keepIn K (.ref C)=true
def SY(C:Addr)(sp:Sp)(E:XK)(ta:TA):TS:=λ_ U H=>ta U H λvs H1=>vs.length<=sizeLine/\∀ea,H1 ea=none->sp (.ref ea::vs) (upd H1 ea (eC ea C none)) (λv H2=>v=.non/\∃d,H2 ea=some (eC ea C d)/\E (.ref C) d (del H2 ea)) E0
section
variable {E:XK} {k:Nat} {ps:List Str}
def NP{U:St}{s1:Shared}{vs:List V}{us:List Value}{G:Addr->VK}{R:Q0}(hex:X.ex=[])(M:Vx X.K C)(c:WE X.prog X.w X.K X.mg X.base k C ps sp)(hr:Z5 (k+1) X.A)(I1:Inv X y4 U H1 s1)(r:Vals vs us)(hl:vs.length<=sizeLine)(q:∀ea,H1 ea=none->sp (.ref ea::vs) (upd H1 ea (eC ea C none)) (G ea) E0)(hR:∀ea H2 s2,X.s₀.heap.get? ea=none->Inv X y4 U H2 s2->(G ea) .non H2->R (.ref ea) s2)(hG:∀ea v H2,G ea v H2->v=.non):wpAny (model X.prog X.w) X.A (call (.ref C) us) R X.xe s1:=by
 obtain⟨f,fd,F,hi,hf,hb⟩:=c;refine OA Gk I1.Zn M.obj hi hf (by rw[<-r.length];exact hl) λh' ea hm=>?_
 obtain⟨t,g,_,_⟩:=hm.there;have hole:H1 ea=none:=I1.Z7.hole hm.new
 have fr:=I1.W3 hex hm.new
 have I2:=(I1.kept (t':=s1.toks) hm.keeps).adopt (o:=eC ea C none) fr hole (vB g rfl rfl rfl rfl rfl rfl)
 have r2:Vals (V.ref ea::vs) (Value.ref ea::us):=.cons rfl r
 have hq:=q ea hole
 have hl2:((Value.ref ea::us)++[]).length=ps.length:=by rw[Bq,<-r2.length];exact F.len _ _ _ _ hq
 have hbb:=hb {s1 with heap:=h'} (Value.ref ea::us) I2.Zn hl2
 rw[Bq]at hbb;refine Gj (Fy (F.run _ X.stack {s1 with heap:=h'} _ ⟨Value.ref ea::us,[]⟩ (Value.ref ea::us) (V.ref ea::vs) _ E0 (hr.make C us []) (I2.WK.make C us []) hbb r2 hq) λrr s' hq'=>?_)
 cases rr with
 |error e=>exact False.elim hq'
 |ok fl=>
  cases fl with
  |ret u=>
   obtain⟨v,H',I3,rv,q3⟩:=I2.after hq';have ev:=hG ea v H' q3
   subst ev;exact⟨rv,hR ea H' s' fr.s0 I3 q3⟩
  |next=>exact False.elim hq'
  |brk=>exact False.elim hq'
  |cont=>exact False.elim hq'
def nY{k':Nat}(hR:Uz X E)(hex:X.ex=[])(hc:X.calm=true)(hg:Gl X x)(hm:X.mg x=some (.ref C))(M:Vx X.K C)(c:WE X.prog X.w X.K X.mg X.base k C ps sp)(hr:Z5 k' X.A)(hkk:k+1<=k')(ha:PA X (e::es) ta)(hd:(x==("__debug__" : Str))=false:=by decide)(he:starEach (e::es) X.env=(false,eval e X.env)::starEach es X.env:=by rfl)(hpl:(backTo cpos (starEach es X.env)).any (·.1)=false:=by rfl):PS X (.Raise (some (.Call (.Name x np) (e::es) [] cpos)) none pos) (SY C sp E ta):=by
 intro y4 s U H D I h;rw [arm_exec_Raise];simp only [evalOpt,Option.map];refine Ae (Fk (PX (C:=C) (newId := "ValueError.__new__") (I.ok.hd hc) ?_));refine Ae (Ck (Q:=λv s1=>∃ e oe vs bm N nm qn bs hd sn sub ab col dd k0 k1 k2 k3 k5,v=.ref e/\s1.heap.get? C=some (excClassObj nm qn C N bs bm hd sn sub ab col dd k0 k1 k2 k3 k5 "ValueError.__new__")/\bm.contains (.type "BaseException")=true/\
     s1.heap.get? e=some oe/\oe.cls=.ref C/\oe.data=.fields vs/\vs[1]?=some .none/\X.xe (.ref e) s1) ?_ (λv s3 h3=>Ae (Fk (Am h3))) λ_ _ z=>z)
 refine Du (iO I hg hm ?_ hd);refine W.callWith_K (h₀:=X.base) I.ok.mod.Wr M.kp (Z0 (ha cpos y4 s U H _ I h) λus s1 ⟨vs,H1,I1,r,hl,q⟩=>⟨I1.Zn,?_⟩) he hpl;refine NP hex M c (hr.mono hkk) I1 r hl q (λea H' s' s0 I3 q3=>?_) λea v H2 z=>z.1;obtain⟨_,d,e2,q3⟩:=q3;obtain⟨oe,ws,t0,g2,hc2,hdi,hda,h1,h0,c2⟩:=(I3.Z7 ea _ e2).1;obtain⟨bm,N,nm,qn,bs,hdct,sn,sub,ab,col,dd,k0,k1,k2,k3,k5,hC,Tl⟩:=U5 I3.Zn M.obj;refine⟨ea,oe,ws,bm,N,nm,qn,bs,hdct,sn,sub,ab,col,dd,k0,k1,k2,k3,k5,rfl,hC,Tl.hasType PySem.F.excBase_ValueError.hasBase,g2,hc2,hda,h1,?_⟩;exact hR y4 U (del H' ea) s' ea oe ws (I3.drop e2) g2 hda h1 c2 yZ s0 (by rw[hc2,hdi];exact q3)
end
def RF(st:Stmt)(j:Nat):Stmt:=
 match st with
 |.ClassDef _ _ _ body _ _ _ _ _ _ _=>body.getD j (.Pass ⟨0,0,0,0⟩)
 |s=>s
section
variable {T:Addr} {U:St} {D':Ends} {E:XK} {f:Str}
def N4(h:ta U H λvs H1=>Vf K vs H1 Q):Sb K ta U H Q:=h
def Rf(h:ta U H λvs H1=>vs.length<=sizeLine/\∀ea,H1 ea=none->sp (.ref ea::vs) (upd H1 ea (eC ea C none)) (λv H2=>v=.non/\∃d,H2 ea=some (eC ea C d)/\E (.ref C) d (del H2 ea)) E0):SY C sp E ta D' U H:=h
def Ml(h:te U H λx H1=>∃ea C dx fs v,x=.ref ea/\(H1 ea=some (oN ea (.ref C) (some dx))\/H1 ea=some (eC ea C (some dx)))/\H1 dx=some (Y7 dx fs)/\XG K C/\W.findIn K (.ref C) f=some none/\fs.lookup f=some v/\Q v H1):Vd K te f U H Q:=h
def NN(h:tv U H λy H1=>te U H1 λx H2=>∃ea C T,x=.ref ea/\V3 K C T/\W.findIn K (.ref C) f=some none/\
 ((H2 ea=some (eC ea C none)/\∀dx,H2 dx=none->D'.nx U (upd (upd H2 ea (eC ea C (some dx))) dx (Y7 dx [(f,y)])))\/
  (∃dx fs,H2 ea=some (eC ea C (some dx))/\H2 dx=some (Y7 dx fs)/\fs.length<100/\D'.nx U (upd H2 dx (Y7 dx ((f,y)::fs)))))):R_ K te tv f D' U H:=h
end
end
def nE{f:Str}{ta:TE}(h:X.K=K)(he:PE X e ta)(hb:attributeBase e f X.env (eval e X.env)=eval e X.env):PE X (.Attribute e f pos) (Vd K ta f):=by
 subst h;exact MH he hb
def xA{items:Array Value}(hne:l≠it):∀(n i:Nat) (s:Shared) (Q:List Value->Shared->Prop),s.heap.IsListIter it l i->s.heap.IsList l items->i+n<=items.size->
 (∀h',h'.IsListIter it l (i+n)->Heap.SameBut it s.heap h'->Q ((items.toList.drop i).take n) {s with heap:=h'})->wpAny (model prog w) A (draw (.ref it) n) Q E s
 |0,i,s,Q,hit,_,_,k=>by
  refine Am (M:=model prog w) ?_
  simpa using k s.heap hit (Heap.SameBut.refl ..)
 |n+1,i,s,Q,hit,hl,hle,k=>by
  have lt:i<items.size:=by omega
  show wpAny _ _ (pyNext (.ref it) >>= _) Q E s
  refine wpAny_bind (wpAny_pyNext_list_item hit hl (x:=items[i]) (by simp[lt]) λg1 it1 sb1=>?_)
  refine Ae (Cf (xA hne n (i+1) _ _ it1 (hl.extBut sb1.extBut hne) (by omega) λg2 it2 sb2=>Am ?_))
  have e:items.toList.drop i=items[i]::items.toList.drop (i+1):=by simp[List.drop_eq_getElem_cons,lt]
  have z:=k g2 (by rw[show i+(n+1)=i+1+n by omega];exact it2) (sb1.trans sb2)
  rw[e,Gr]at z;exact z
def Kn{items:Array Value}{targets:List (Bool×(Value->Sem Unit))}{Q:Unit->Shared->Prop}(hh:A.handled=none)(hl:s.heap.IsList l items)(hn:targets.length=items.size)(hs:targets.findIdx? (·.1)=none)(k:∀h',Heap.ExtBut s.heap.objs.size s.heap h'->wpAny (model prog w) A (assignInOrder (targets.map (·.2)) items.toList) Q E {s with heap:=h'}):wpAny (model prog w) A (unpack (.ref l) targets) Q E s:=by
 have hlt:l≠s.heap.objs.size:=by obtain⟨o,ho,_⟩:=hl;exact Bj (As ho)
 unfold unpack;rw[hn,hs];refine Ae (Cf ?_);unfold unpackItems notIterableAtAll;refine Ae (Ae (wpAny_specialOf hl.typeIs slot_list_iter.lookup (Am ?_)));rw[if_neg (by simp)]
 refine Ae (Cf (Et hl ?_));refine Ae (Cf (xA hlt items.size 0 _ _ ⟨_,Ax _ rfl,rfl,rfl⟩ (hl.push _) (by omega) λg1 it1 sb1=>?_))
 have al:List.take items.size (List.drop 0 items.toList)=items.toList:=by rw[List.drop_zero];exact List.take_of_length_le (by simp)
 rw[al,if_neg (by simp)]
 refine wpAny_bind (wpAny_holding (wpAny_pyNext_list_end hh it1 ((hl.push _).extBut sb1.extBut hlt) (by simp) λg2 eb=>?_))
 simp only[Option.isSome_none,Bool.false_eq_true,if_false];exact Am (k g2 λb o hb e=>eb b o hb (sb1.extBut b o hb (Ag _ e)))
def T1(n:Nat)(t:XJ):TG:=λv U H Q=>∃a xs,v=.ref a/\Z8 H a=some xs/\xs.length=n/\t xs U H Q
def Jz{k:Nat}{t:XJ}(hc:X.calm=true)(h:V7 X es t)(hn:(assignEach es X.env).length=n:=by rfl)(hst:(assignEach es X.env).findIdx? (·.1)=none:=by rfl):PG X (.Tuple es k pos) (T1 n t):=by
 intro y4 s U H v u Q I r hw;obtain⟨a,xs,e1,hq,hl,hw⟩:=hw;subst e1;cases r;obtain⟨its,rv,⟨o,nn,ho,hcl,_,hda⟩,hz⟩:=I.list (aT hq);rw[assign_Tuple];refine wpAny_bind (wpAny_standAt (Kn (I.ok.hd hc) ⟨o,ho,hcl,nn,hda⟩ (by simp[hn,<-hl,rv.length]) hst λh' hx=>?_))
 have I1:Inv X y4 U H {s with heap:=h'}:=I.kept (t':=s.toks) λb o e=>hx b o (Bj (As e)) e
 exact h y4 _ U H xs _ Q I1 (by simpa using rv) hw
def Lq{t:XJ}{U:St}{Q:St->Hp->Prop}(e:Z8 H a=some xs)(hn:xs.length=n)(h:t xs U H Q):T1 n t (.ref a) U H Q:=⟨a,xs,rfl,e,hn,h⟩
section
open PySem.AutoSeq1 (wpAny_loadPart')
def LJ{i:Int}(h:Q (.int (-i)) H):UB (.int i) H Q:=h
end
section
variable {a b:Expr} {ta tb:TE} {rest:List Expr}
def pX{U0:St}(f:Nat->Option V)(hl:z.length<sizeLine)(hs:∀(i:Nat) c Hc (A:VK) (B:Hp->Prop),z.cps.toList[i]?=some c->Z_ H1 Hc->(∀Hd,Z_ Hc Hd->match f c with|some y=>A y Hd|none=>B Hd)->
 g (.str ⟨#[c]⟩) U0 Hc λU2 H2=>Wk U0 U2/\tests U2 H2 λb H3=>if b=true then te U2 H3 A else B H3)(fin:∀D Hd,H1 D=none->Z_ H1 Hd->Hd D=some (.lst (z.cps.toList.filterMap f))->Q (.ref D) Hd):eG g tests te U0 Q (Xv z) H1:=by
 intro D hD;have hzz:z.cps.size=z.length:=rfl
 have hz2:z.cps.toList.length=z.length:=by simp[Str.length]
 refine⟨λi m Hc=>m=z.length-i/\i<=z.length/\Z_ H1 Hc/\Hc D=some (.lst ((z.cps.toList.take i).filterMap f)),⟨z.length,by simp,Nat.zero_le _,aF hD _,by rw[aD];rfl⟩,?_⟩
 rintro i m Hc ⟨rfl,hi,sm,hDc⟩;by_cases hlt:i<z.length
 .refine .inr ⟨hlt,λv H' y=>?_⟩;obtain⟨rfl,c,hz,rfl⟩:=y;have hx:z.cps.toList[i]?=some c:=by rw[Eh];exact hz
  refine hs i c H' _ _ hx sm λHd sd=>?_;have hDd:Hd D=some (.lst ((z.cps.toList.take i).filterMap f)):=sd _ _ hDc
  have sH:Z_ H1 Hd:=sm.trans sd
  cases e:f c with
  |some y=>
   refine⟨_,hDd,?_,z.length-(i+1),by omega,rfl,hlt,λb o hb=>?_,?_⟩
   .have:=Do f (z.cps.toList.take i)
    rw[Bt]at this;omega
   .rw[aI (bM hb hD)];exact sH b o hb
   .rw[aD,Be,hx,Cp];show some (HO.lst (_++[y]))=some (HO.lst (_++[c].filterMap f))
    rw[Dp e,Dw]
  |none=>
   refine⟨z.length-(i+1),by omega,rfl,hlt,sH,?_⟩
   rw[hDd,Be,hx,Cp];show some (HO.lst _)=some (HO.lst (_++[c].filterMap f))
   rw[Ej e,Dw,Bq]
 .have e:i=z.length:=by omega
  subst e;refine .inl ⟨Ai _,fin D Hc hD sm ?_⟩;rw[hDc,Bl (by omega)]
end
def UO(neg:Bool):R2:=λx y H Q=>∃a ov,y=.ref a/\Zq H a x ov/\Q (.bl (if neg then !ov.isSome else ov.isSome)) H
def Ly(hu:X.A.units+1<cLine):ZS X (compareOp .In) (UO false):=by
 intro y4 s U H x y v u Q I rx ry h;obtain⟨a,ov,rfl,g,q⟩:=h;cases ry;exact Tu hu I g rx λs3 I3=>⟨.bl ov.isSome,H,I3,rfl,q⟩
def KJ(hu:X.A.units+1<cLine):ZS X (compareOp .NotIn) (UO true):=by
 intro y4 s U H x y v u Q I rx ry h;obtain⟨a,ov,rfl,g,q⟩:=h;cases ry;exact Lx hu I g rx λs3 I3=>⟨.bl (!ov.isSome),H,I3,rfl,q⟩
def Tr{neg:Bool}(e:Rd H a (.dK kvs))(h:Q (.bl (if neg then !(bZ kvs (Sum.inr z)).isSome else (bZ kvs (Sum.inr z)).isSome)) H):UO neg (.str z) (.ref a) H Q:=⟨a,_,rfl,.inl ⟨kvs,.inr z,e,rfl,rfl⟩,h⟩
section
variable {R:Result->Shared->Prop} {J:Addr} {us ws:List Addr} {P:Nat->Value->Prop} {St:Nat->Heap->Prop} {d:Value}
def Qe(Wk':Walks prog w A.in1 J us ws n P St)(bt:Nat->Nat->Bool)(cm:CmpOf prog w A.in1 .Lt P bt)(B:Addr)(nB:B∉us):∀(r i:Nat) (s:Shared) (y:Value) (c:Nat),n-(i+1)=r->i+1<=n->St (i+1) s.heap->P (argBest bt i) y->
 s.heap.get? B=some {cls:=.type "list",data:=.seq #[y,y] c}->
 (∀z h' tk,P (argBest bt (n-1)) z->(∀b o,b∉ws->b≠B->s.heap.get? b=some o->h'.get? b=some o)->R (.ok (.ret z)) {s with heap:=h',toks:=tk})->
 codeAny (model prog w) A (.builtin "min.loop" ⟨[.ref J,.none,.ref B],[("default",d)]⟩) R s:=by
 have nBw:B∉ws:=λz=>nB (Wk'.sub _ z)
 have nm:(toString "min" ++ toString ".loop" : String)="min.loop" := by decide
 intro r;induction r with
 |zero=>
  intro i s y c er hi st py eB k;have en:i+1=n:=by omega
  refine Dh He ?_;rw[Cv Dj _];show wpAny _ A.in1 (seqItems? (.ref B) >>= _) _ _ s
  refine Ae (wpAny_seqItems eB rfl ?_);show wpAny _ A.in1 (tryCatch (pyNext (.ref J)) _ >>= _) _ _ s
  refine Ae (Fs (Wk'.done s _ _ (en▸st) λh' tk kp=>?_));have eB2:=kp B _ nBw eB
  show wpAny _ A.in1 (updateSeq B (λ_=>#[]) >>= _) _ _ _
  refine Ae (wpAny_updateSeq eB2 rfl (Ae (Ho (Am ?_))));exact k y _ tk (by rw[<-en];exact py) λb o nb1 nb2 e=>(Bp _ _ (Ne.symm nb2)).trans (kp b o nb1 e)
 |succ r ih=>
  intro i s y c er hi st py eB k;have lt:i+1<n:=by omega
  refine Dh He ?_;rw[Cv Dj _];show wpAny _ A.in1 (seqItems? (.ref B) >>= _) _ _ s
  refine Ae (wpAny_seqItems eB rfl ?_);show wpAny _ A.in1 (tryCatch (pyNext (.ref J)) _ >>= _) _ _ s
  refine Ae (Fs (Wk'.item (i+1) s _ _ lt st λz h' tk pz st2 kp=>?_));have eB2:=kp B _ nBw eB
  show wpAny _ A.in1 (tryCatch (holding [z,z] (richCompare .Lt z y >>= _)) _ >>= _) _ _ _
  refine Ae (Fs (Cf (Ae (cm (i+1) (argBest bt i) z y _ _ _ pz py ?_))));refine Ae (Cf (Er (Ae (Ho (Am ?_)))));cases eb:bt (i+1) (argBest bt i) with
  |true=>
   simp only[if_true];refine Ae (wpAny_updateSeq eB2 rfl (Ae (Ho ?_)));rw[nm];refine Am ⟨Dq Dj _,ih (i+1) _ z _ (by omega) lt (Wk'.frame _ _ _ st2 λb hb o e=>?_) (by unfold argBest;rw[eb];exact pz) (Gd _ eB2 rfl) λz' h2 tk2 pz' kp2=>?_⟩
   .exact(Bp _ _ (λq:B=b=>nB (q▸hb))).trans e
   .exact k z' h2 tk2 pz' λb o nb1 nb2 e=>kp2 b o nb1 nb2 ((Bp _ _ (Ne.symm nb2)).trans (kp b o nb1 e))
  |false=>
   simp only[Bool.false_eq_true,if_false];refine Ae (Ho ?_);rw[nm];refine Am ⟨Dq Dj _,ih (i+1) _ y c (by omega) lt st2 (by unfold argBest;rw[eb];exact py) eB2 λz' h2 tk2 pz' kp2=>?_⟩
   exact k z' h2 tk2 pz' λb o nb1 nb2 e=>kp2 b o nb1 nb2 (kp b o nb1 e)
def Kq(Wk':Walks prog w A.in1 J us ws n P St)(bt:Nat->Nat->Bool)(cm:CmpOf prog w A.in1 .Lt P bt)(B:Addr)(nB:B∉us){c:Nat}(st:St 0 s.heap)(eB:s.heap.get? B=some {cls:=.type "list",data:=.seq #[] c})(k:∀z h' tk,(n=0->z=d)->(0<n->P (argBest bt (n-1)) z)->(∀b o,b∉ws->b≠B->s.heap.get? b=some o->h'.get? b=some o)->R (.ok (.ret z)) {s with heap:=h',toks:=tk}):codeAny (model prog w) A (.builtin "min.loop" ⟨[.ref J,.none,.ref B],[("default",d)]⟩) R s:=by
 have nBw:B∉ws:=λz=>nB (Wk'.sub _ z)
 have nm:(toString "min" ++ toString ".loop" : String)="min.loop" := by decide
 refine Dh He ?_;rw[Cv Dj _];show wpAny _ A.in1 (seqItems? (.ref B) >>= _) _ _ s
 refine Ae (wpAny_seqItems eB rfl ?_);show wpAny _ A.in1 (tryCatch (pyNext (.ref J)) _ >>= _) _ _ s
 rcases Nat.eq_zero_or_pos n with z0|z0
 .refine Ae (Fs (Wk'.done s _ _ (z0▸st) λh' tk kp=>?_));show wpAny _ A.in1 (rule _ >>= _) _ _ _
  refine Ae (wpAny_rule (Am ?_));exact k d h' tk (λ_=>rfl) (λq=>absurd q (by omega)) λb o nb1 _ e=>kp b o nb1 e
 .refine Ae (Fs (Wk'.item 0 s _ _ z0 st λz h' tk pz st2 kp=>?_));have eB2:=kp B _ nBw eB
  show wpAny _ A.in1 (updateSeq B (λ_=>#[z,z]) >>= _) _ _ _
  refine Ae (wpAny_updateSeq eB2 rfl ?_);rw[nm];refine Am ⟨Dq Dj _,Qe Wk' bt cm B nB _ 0 _ z _ rfl z0 (Wk'.frame _ _ _ st2 λb hb o e=>?_) pz (Gd _ eB2 rfl) λz' h2 tk2 pz' kp2=>?_⟩
  .exact(Bp _ _ (λq:B=b=>nB (q▸hb))).trans e
  .exact k z' h2 tk2 (λq=>absurd q (by omega)) (λ_=>pz') λb o nb1 nb2 e=>kp2 b o nb1 nb2 ((Bp _ _ (Ne.symm nb2)).trans (kp b o nb1 e))
end
def Kb{id:String}{bn:Builtin}{ar:Args}{Q:Q0}(k1:builtinKind id=none)(k2:plainId id=true)(k3:entryFor table id=some bn)(k4:argsOk id ar)(k5:wpAny (model prog w) A.in1 (bn ar) (λfin s'=>match fin with
 |.done f=>(match (Except.ok f:Result) with|.ok (.ret v)=>Q v s'|.ok _=>False|.error e=>E e s')
 |.again c=>c.quiet=true/\codeAny (model prog w) A c (λr s'=>match r with|.ok (.ret v)=>Q v s'|.ok _=>False|.error e=>E e s') s') E s):wpAny (model prog w) A (call (.builtin id) ar.pos ar.kw) Q E s:=by
 refine Gj (Eo k2 k3 ?_);simp only[checkBuiltinCall,k1];cases sg:Manifest.signature? id with
 |none=>exact Am k5
 |some sig=>
  simp only[argsOk,sg]at k4;have e:Bind.checkArgs id sig ar=pure ():=k4
  show wpAny _ A.in1 (Bind.checkArgs id sig ar) _ _ s
  rw[e];exact Am k5
def N3(a d:Value):argsOk "min" ⟨[a],[("default",d)]⟩:=by unfold argsOk;kernel_rfl
def Ra{x d:Value}{Q:Q0}(h:wpAny (model prog w) A.in1 (pyIter x) (λit s2=>∃J us ws n P St bt,it=.ref J/\Walks prog w A.in1 J us ws n P St/\St 0 s2.heap/\(∀b∈us,b<s2.heap.objs.size)/\CmpOf prog w A.in1 .Lt P bt/\
 ∀z h' tk,(n=0->z=d)->(0<n->P (argBest bt (n-1)) z)->(∀b o,b∉ws->s2.heap.get? b=some o->h'.get? b=some o)->Q z {s2 with heap:=h',toks:=tk}) E s):wpAny (model prog w) A (call (.builtin "min") [x] [("default",d)]) Q E s:=by
 have nm:(toString "min" ++ toString ".loop" : String)="min.loop" := by decide
 refine Kb (ar:=⟨[x],[("default",d)]⟩) PySem.F.kind_min PySem.F.plain_min PySem.F.entry_min (N3 _ _) ?_;show wpAny _ A.in1 (Builtin.Builtins.bindParams "min" ["key", "default"] 0 ⟨[],[("default",d)]⟩ >>= _) _ _ s
 refine Ae (Hn (a:=[none,some d]) (by kernel_rfl) ?_)
 refine Ae (Am (Ae (Ck h (λit s2 q=>?_) λ_ _ e=>e)));obtain⟨J,us,ws,n,P,St,bt,rfl,W',st,lt,cm,k⟩:=q;refine Ae (Gg ?_);have nB:s2.heap.objs.size∉us:=λm=>Cy _ (lt _ m)
 rw[nm];refine Am ⟨Dq Dj _,Kq W' bt cm s2.heap.objs.size nB (W'.frame _ _ _ st λb _ o e=>Ag _ e) (Ax _ rfl) λz h' tk z0 z1 kp=>?_⟩;exact k z h' tk z0 z1 λb o nb e=>kp b o nb (Bj (As e)) (Ag _ e)
def pL{id:String}{args:List (Bool×Sem Value)}{kw:List (Option Str×Sem Value)}{Q:Q0}(h1:args.any (·.1)=false)(h2:kw.any (·.1.isNone)=false)(h:wpAny M A (evalArgs (.builtin id) true args kw) (λa s1=>wpAny M A (call (.builtin id) a.pos a.kw) Q E s1) E s):wpAny M A (callWith pos (.builtin id) [] args kw) Q E s:=by
 unfold callWith;refine Ae (Cf (Ck h (λa s1 q1=>Ae (Fk ?_)) λ_ _ x=>x));rw[h1,h2];exact Ae (Am (Ae (Ck q1 (λr s2 hr=>Ae (Cf (wpAny_point (Am hr)))) λ_ _ x=>x)))
section
variable {U0:St}
def cU{f:Nat->Option V}{y:V}(h:f i=some y):(List.range (i+1)).filterMap f=(List.range i).filterMap f++[y]:=by
 rw[Cm,Cp,Dp h,Dw]
def eW{f:Nat->Option V}(h:f i=none):(List.range (i+1)).filterMap f=(List.range i).filterMap f:=by
 rw[Cm,Cp,Ej h,Dw,Bq]
def fV{xs:List V}(f:Nat->Option V)(ha:Z8 H1 a=some xs)(hl:xs.length<sizeLine)(hs:∀(i:Nat) x Hc (A:VK) (B:Hp->Prop),xs[i]?=some x->Z_ H1 Hc->(∀y,f i=some y->∀Hd,Z_ Hc Hd->A y Hd)->(f i=none->∀Hd,Z_ Hc Hd->B Hd)->
 g x U0 Hc λU2 H2=>Wk U0 U2/\tests U2 H2 λb H3=>if b=true then te U2 H3 A else B H3)(fin:∀D Hd,H1 D=none->Z_ H1 Hd->Hd D=some (.lst ((List.range xs.length).filterMap f))->Q (.ref D) Hd):eG g tests te U0 Q (Xw K a) H1:=by
 refine fR (n:=xs.length) (λD i ys Hc=>Z_ H1 Hc/\ys=(List.range i).filterMap f) hl (λD hD=>⟨aF hD _,rfl⟩)
  (λD i ys Hc _ r h=>⟨xs,xs[i],aT (aG r.1 ha),by simp[h]⟩) (λD ys Hc _ r=>⟨xs,aT (aG r.1 ha),Nat.le_refl _⟩) ?_ ?_
 .rintro D i ys Hc x H' A B hD hi ⟨sm,rfl⟩ hDc ⟨rfl,hz⟩ ha' hb;refine hs i x H' A B (hz xs (aT (aG sm ha))) sm (λy hy Hd sd=>?_) (λhn Hd sd=>?_)
  .exact ha' _ _ (sd _ _ hDc) ⟨bF hD (sm.trans sd),(cU hy).symm⟩
  .exact hb _ (sd _ _ hDc) ⟨sm.trans sd,(eW hn).symm⟩
 .rintro D ys Hc hD ⟨sm,rfl⟩ hDc _;exact fin D Hc hD sm hDc
def JF{k:Nat}{xs:List V}(f:Nat->Option V)(ha:Z8 H1 a=some xs)(hl:xs.length<sizeLine)(hs:∀(i:Nat) x Hc p (A:VK) (B:Hp->Prop),xs[i]?=some x->Z_ H1 Hc->Hc p=none->(∀y,f i=some y->∀Hd,Z_ (upd Hc p (.tup [.int ((k+i:Nat):Int),x])) Hd->A y Hd)->(f i=none->∀Hd,Z_ (upd Hc p (.tup [.int ((k+i:Nat):Int),x])) Hd->B Hd)->
 g (.ref p) U0 (upd Hc p (.tup [.int ((k+i:Nat):Int),x])) λU2 H2=>Wk U0 U2/\tests U2 H2 λb H3=>if b=true then te U2 H3 A else B H3)(fin:∀D Hd,H1 D=none->Z_ H1 Hd->Hd D=some (.lst ((List.range xs.length).filterMap f))->Q (.ref D) Hd):eG g tests te U0 Q (Xo K a k) H1:=by
 refine fR (n:=xs.length) (λD i ys Hc=>Z_ H1 Hc/\ys=(List.range i).filterMap f) hl (λD hD=>⟨aF hD _,rfl⟩)
  (λD i ys Hc _ r h=>⟨xs,xs[i],aT (aG r.1 ha),by simp[h]⟩) (λD ys Hc _ r=>⟨xs,aT (aG r.1 ha),rfl⟩) ?_ ?_
 .rintro D i ys Hc x H' A B hD hi ⟨sm,rfl⟩ hDc ⟨q,z,hq,rfl,rfl,hz⟩ ha' hb;refine hs i z Hc q A B (hz xs (aT (aG sm ha))) sm hq (λy hy Hd sd=>?_) (λhn Hd sd=>?_)
  .exact ha' _ _ (sd _ _ (aF hq _ _ _ hDc)) ⟨bF hD (sm.trans ((aF hq _).trans sd)),(cU hy).symm⟩
  .exact hb _ (sd _ _ (aF hq _ _ _ hDc)) ⟨sm.trans ((aF hq _).trans sd),(eW hn).symm⟩
 .rintro D ys Hc hD ⟨sm,rfl⟩ hDc _;exact fin D Hc hD sm hDc
end
section
variable {jt dq:Addr} {n0:Nat} {en:Array DictEntry} {od:Obj}
def M1{Q:Option Value->Shared->Prop}(hit:s.heap.IsKeyIter jt dq n0 en.size ep)(hod:s.heap.get? dq=some od)(hdd:od.data=.dict en ep)(hi:n0<en.size)(hq:∀h',h'.IsKeyIter jt dq (n0+1) en.size ep->Heap.SameBut jt s.heap h'->Q (some en[n0].key) {s with heap:=h'}):wpAny (model prog w) A (pyNext (.ref jt)) Q E s:=by
 obtain⟨oi,hoi,ci,di⟩:=id hit;have ow:Builtin.Dict_items.ownsTuple "dict_keyiterator"=false:=by decide
 have tI:=hit.typeIs
 unfold pyNext;refine Ae (wpAny_attempt (wpAny_callSpecial?_slot (name:=Str.ofString "__next__") tI Ey (Hk Ey tI F.entry_dict_keyiterator_next ?_ (F.args_dict_keyiterator_next_1 _))));refine Ae (Am (Ae (Ae ?_)));refine Ae (Ep tI (Am (Ae (wpAny_fieldsOf hoi di ?_))));simp only[ow,Bool.false_eq_true,if_false];show wpAny _ _ (if (Value.ref dq==Value.none)=true then _ else _) _ _ s
 rw[if_neg (by exact An)]
 refine Ae (Am (Ae (wpAny_dictEntries hod hdd ?_)));rw[if_neg (by simp)]
 refine Ae (Am (Ae (wpAny_dictEpoch hod hdd ?_)));rw[if_neg (by simp)]
 refine Am ?_;simp only[show ¬((n0:Int)<0) by omega,if_false,Int.toNat_natCast,Array.getElem?_eq_getElem hi]
 refine Ae (Ae (Ep tI (Am ?_)));refine Ae (wpAny_isOneOf_keyiter tI ?_);show wpAny _ _ (setField (.ref jt) 1 (rawInt ((n0:Int)+1)) >>= _) _ _ s
 have nx:(s.heap.update jt (Obj.mapFields (·.setIfInBounds 1 (rawInt ((n0:Int)+1))))).IsKeyIter jt dq (n0+1) en.size ep:=
  ⟨_,Heap.get?_update_self _ hoi (Obj.isFreed_of_fields (Obj.data_mapFields di _)),(Obj.cls_mapFields ..).trans ci,by rw[Obj.data_mapFields di];simp[rawInt]⟩
 refine wpAny_bind (wpAny_setField hoi di (by simp) (wpAny_bind (wpAny_holding (wpAny_bind (wpAny_isOneOf_keyiter (s:={s with heap:=s.heap.update jt (Obj.mapFields (·.setIfInBounds 1 (rawInt ((n0:Int)+1))))}) nx.typeIs ?_)))))
 show wpAny _ _ (pure en[n0].key) _ _ _
 exact Am (Am ⟨_,rfl,Am (hq _ nx (Ed ..))⟩)
def N1{Q:Option Value->Shared->Prop}(hh:A.handled=none)(hit:s.heap.IsKeyIter jt dq en.size en.size ep)(hod:s.heap.get? dq=some od)(hdd:od.data=.dict en ep)(hq:∀h',Heap.ExtBut jt s.heap h'->Q none {s with heap:=h'}):wpAny (model prog w) A (pyNext (.ref jt)) Q E s:=by
 obtain⟨oi,hoi,ci,di⟩:=id hit;have ow:Builtin.Dict_items.ownsTuple "dict_keyiterator"=false:=by decide
 have tI:=hit.typeIs
 unfold pyNext;refine Ae (wpAny_attempt (wpAny_callSpecial?_slot (name:=Str.ofString "__next__") tI Ey (Hk Ey tI F.entry_dict_keyiterator_next ?_ (F.args_dict_keyiterator_next_1 _))));refine Ae (Am (Ae (Ae ?_)));refine Ae (Ep tI (Am (Ae (wpAny_fieldsOf hoi di ?_))));simp only[ow,Bool.false_eq_true,if_false];show wpAny _ _ (if (Value.ref dq==Value.none)=true then _ else _) _ _ s
 rw[if_neg (by exact An)]
 refine Ae (Am (Ae (wpAny_dictEntries hod hdd ?_)));rw[if_neg (by simp)]
 refine Ae (Am (Ae (wpAny_dictEpoch hod hdd ?_)));rw[if_neg (by simp)]
 refine Am ?_;simp only[show ¬((en.size:Int)<0) by omega,if_false,Int.toNat_natCast,Array.getElem?_eq_none (Nat.le_refl en.size)]
 refine Ae (Ae (Ep tI (Am ?_)));show wpAny _ _ (setField (.ref jt) 0 .none >>= _) _ _ s
 refine wpAny_bind (wpAny_setField hoi di (by simp) ?_)
 show wpAny _ _ (newExc (Value.type "StopIteration") [] >>= _) _ _ _
 refine Ae ?_;simp only[newTuple,newExc];refine wpAny_bind (wpAny_newObj_type (wpAny_bind (m:=firstArgMember _ _) (wpAny_of_eq (a:=Value.none) (by first|rfl|(simp only[firstArgMember];rfl)) (wpAny_newObj_type ?_ (by size_fits)))) (by size_fits))
 simp only[raiseNew];refine Ae (wpAny_handled (?_:_));rw[show A.in1.handled=none by exact hh]
 refine Ae (Am (wpAny_throw ?thr));case thr=>
  refine Ae (wpAny_isInstance (b:=true) (T := "StopIteration") ⟨_,Ax _ rfl,rfl⟩ isSubtype_stop ?_);exact Am (hq _ (((Ed ..).extBut.push _).push _))
end
def VR(a:Addr)(o:Obj)(kvs:List (List Key×V)):It:=⟨λi H=>H a=some (.frz o (.dT kvs))/\i<kvs.length,λi H x H'=>H'=H/\∃kv b,kvs[i]?=some kv/\x=.ref b/\H b=some (.tup (kv.1.map kV)),λi H=>H a=some (.frz o (.dT kvs))/\kvs.length=i⟩
def wH{U:St}{kvs:List (List Key×V)}(I:Inv X y4 U H s)(ha:H a=some (.frz o (.dT kvs)))(hep:∃es,o.data=.dict es ep):kvs.length<=sizeLine/\(a==sysModules)=false/\∃xs es,KT H kvs xs/\s.heap.get? a=some o/\o.data=.dict es ep/\o.ExactDict/\es.toList=xs.map (entryOfKey (tupleKind (bH X.prog X.w))):=by
 have ok:s.heap.get? a=some o/\Z3 X.prog X.w H s.heap a (.dT kvs):=I.Z7 a _ ha
 obtain⟨e,z,hd,xs,rel,o',es',ep',ho',hx,hdat,he,_⟩:=ok;rw[e]at ho';cases ho';obtain⟨es,hes⟩:=hep;have q:=hdat
 rw[hes]at q;cases q;exact⟨z,hd,xs,_,rel,e,hdat,hx,he⟩
def zK(a it:Addr)(o:Obj)(kvs:List (List Key×V))(ep:Nat)(hep:∃es,o.data=.dict es ep):Turn P w K tg (VR a o kvs) [it] it (λi h=>h.IsKeyIter it a i kvs.length ep) where
 mem:=by simp
 obj:=λi h st b hb=>by
  obtain⟨o,e,c,d⟩:=st;rw[Bc.mp hb];exact⟨o,e,λv z=>by rw[d]at z;cases z⟩
 keep:=λi h h' st k=>let ⟨o,ho,r⟩:=st;⟨o,k it (by simp) o ho,r⟩
 item:=by
  intro X hP hw hK hc i y4 s U H E I hf st hg;subst hP hw hK;obtain⟨ha,hi⟩:=hg;obtain⟨z,hd,xs,es,rel,ho,hdat,hx,he⟩:=wH I ha hep;have hlv:=rel.length
  have hsz:es.size=xs.length:=by rw[<-Dk,he,Ab]
  obtain⟨f0,f1,f2,f3,f4,f5⟩:=hf it (by simp)
  obtain⟨⟨k,b,v⟩,hxi,hk1,hk2,_⟩:=qN rel (Aa hi);have hie:i<es.size:=by omega
  have hkey:es[i].key=.ref b:=by
   have q:es[i]?=some (entryOfKey (tupleKind (bH X.prog X.w)) (k,b,v)):=by rw[<-Eh,he,Af,hxi];rfl
   rw[Array.getElem?_eq_getElem hie]at q;rw[Bv q];rfl
  refine M1 (en:=es) (by rw[hsz,<-hlv];exact st) ho hdat hie λh' st' sb=>?_
  rw[hkey];have I1:Inv X y4 U H {s with heap:=h'}:=I.turned (t':=s.toks) (λb o hb e=>(sb.2 b hb).trans e) f0 f1 f3 f4 f5
  obtain⟨oi,e,c,d⟩:=id st';refine⟨.ref b,rfl,uE (s:={s with heap:=h'}) e c d (by decide) ⟨.ref b,H,I1,rfl,⟨rfl,kvs[i],b,Aa hi,rfl,hk2⟩,?_,λb hb=>(hf b hb).1⟩⟩
  rw[hlv,<-hsz];exact st'
 done:=by
  intro X hP hw hK hc i y4 s U H E I hf st hg;subst hP hw hK;obtain⟨ha,hi⟩:=hg;obtain⟨z,hd,xs,es,rel,ho,hdat,hx,he⟩:=wH I ha hep;have hlv:=rel.length
  have hsz:es.size=xs.length:=by rw[<-Dk,he,Ab]
  obtain⟨f0,f1,f2,f3,f4,f5⟩:=hf it (by simp)
  exact N1 (en:=es) (I.ok.hd hc) (by rw[hsz,<-hlv];rw[<-hi]at st;exact st) ho hdat λh' eb=>⟨rfl,I.turned (t':=s.toks) (λb o hb e=>eb b o hb e) f0 f1 f3 f4 f5⟩
 self:=λ_ _ _ _ _ st h=>wpAny_pyIter_keyiter st h
section
variable {dq:Addr} {en:Array DictEntry} {od:Obj}
def M0{Q:Q0}(hs:(dq==sysModules)=false)(hod:s.heap.get? dq=some od)(hx:od.ExactDict)(hdd:od.data=.dict en ep)(hq:Q (.ref s.heap.objs.size) {s with heap:=s.heap.push {cls:=.type "dict_keyiterator",data:=.fields #[.ref dq,.int 0 0,.int en.size 0,.int ep 0]}}):wpAny (model prog w) A (pyIter (.ref dq)) Q E s:=by
 have tD:s.TypeIs (.ref dq) "dict" := ⟨od,hod,hx.1⟩
 refine wpAny_pyIter_slot tD F.slot_dict_iter (Hk F.slot_dict_iter tD F.entry_dict_iter ?_ (F.args_dict_iter_1 _));unfold Builtin.«dict.__iter__» ;refine Ae ?_;unfold Builtin.Dict.dictSlotNone ;refine Ae (wpAny_notOrdered_dict tD ?_);show wpAny _ _ (pure (Value.ref dq)) _ _ s
 refine Am ?_;show wpAny _ _ (Builtin.Dict.showsAll dq >>= _) _ _ s
 unfold Builtin.Dict.showsAll;rw[if_neg (by rw[hs];decide)]
 refine Ae (Am (Ae (wpAny_dictEntries hod hdd (Ae (wpAny_dictEpoch hod hdd ?_)))));refine Ae (Gg (Am ⟨_,rfl, "dict_keyiterator",_,⟨_,Ax _ rfl,rfl⟩,F.slot_dict_keyiterator_next.lookup,(?_:_)⟩))
 simpa [rawInt]using hq
end
section
variable {U:St}
def Ox{kvs:List (List Key×V)}(I:Inv X y4 U H s)(ha:H a=some (.dT kvs)):∃o es ep,s.heap.get? a=some o/\o.data=.dict es ep:=by
 obtain⟨_,_,xs,_,o,es,ep,ho,_,hd,_⟩:=R1 I.Z7 ha;exact⟨o,es,ep,ho,hd⟩
def M5{kvs:List (List Key×V)}(I:Inv X y4 U H s)(ha:H a=some (.frz o (.dT kvs))):∃ep,∃es,o.data=.dict es ep:=by
 have ok:s.heap.get? a=some o/\Z3 X.prog X.w H s.heap a (.dT kvs):=I.Z7 a _ ha
 obtain⟨e,_,_,xs,_,o',es,ep,ho,_,hd,_⟩:=ok;rw[e]at ho;cases ho;exact⟨ep,es,hd⟩
def nA(H:Hp)(a:Addr)(R:Obj->List (List Key×V)->Hp->Prop):Prop:=(∃kvs,H a=some (.dT kvs)/\∀o,R o kvs (upd H a (.frz o (.dT kvs))))\/∃o kvs,H a=some (.frz o (.dT kvs))/\R o kvs H
def QC{R:Obj->List (List Key×V)->Hp->Prop}(I:Inv X y4 U H s)(h:nA H a R):∃o kvs H' ep,Inv X y4 U H' s/\H' a=some (.frz o (.dT kvs))/\(∃es,o.data=.dict es ep)/\R o kvs H':=by
 rcases h with⟨kvs,ha,q⟩|⟨o,kvs,ha,q⟩
 .obtain⟨o,es,ep,ho,hd⟩:=Ox I ha;exact⟨o,kvs,_,ep,I.freeze ha rfl ho,aD,⟨es,hd⟩,q o⟩
 .obtain⟨ep,es,hd⟩:=M5 I ha;exact⟨o,kvs,H,ep,I,ha,⟨es,hd⟩,q⟩
def TB(tl:TE):TI:=λU H R=>tl U H (gE λa H1=>nA H1 a λo kvs H2=>R (VR a o kvs) H2)
def mG{l:Expr}(hl:PE X l tl):PI X tg l (TB tl):=by
 intro y4 s U H R I h;refine Z0 (hl y4 s U H _ I h) λv s1 ⟨x,H1,I1,r1,q1⟩=>?_;unfold gE at q1;split at q1
 .cases r1;rename_i a0 _
  obtain⟨o,kvs,H2,ep,I2,ha,hep,q⟩:=QC I1 q1;obtain⟨z,hd,xs,es,rel,ho,hdat,hx,he⟩:=wH I2 ha hep;have hsz:es.size=kvs.length:=by rw[<-Dk,he,Ab,rel.length]
  refine M0 hd ho hx hdat ?_;refine⟨s1.heap.objs.size,[s1.heap.objs.size],_,_,H2,rfl,I2.kept (t':=s1.toks) λb o e=>Ag _ e,zK a0 _ o kvs ep hep,⟨_,Ax _ rfl,rfl,by rw[hsz];rfl⟩,λb hb=>?_,q⟩
  rw[Bc.mp hb];exact I2.YJ (Ai _) (I2.Z7.fresh (Ai _))
 .exact q1.elim
def Su:V->List V->Hp->VK->Prop:=λx vs H Q=>∃a y ov,x=.ref a/\vs=[y]/\Zq H a y ov/\Q (ov.getD .non) H
end
section
variable {U:St} {kvs:List (List Key×V)} {k:List Key} {tb:TS}
def O1(Pv:Nat->St->Hp->Prop)(h0:Pv 0 U H)(hl:∀i U H,i<=kvs.length->Pv i U H->H a=some (.frz o (.dT kvs)))(hs:∀i kv b U H,kvs[i]?=some kv->H b=some (.tup (kv.1.map kV))->Pv i U H->g (.ref b) U H λU2 H2=>tb {D with nx:=Pv (i+1),ct:=Pv (i+1),bk:=D.nx} U2 H2)(hd:∀U H,Pv kvs.length U H->D.nx U H):xD (VR a o kvs) g tb D U H:=by
 refine⟨λi m U H=>m=kvs.length-i/\i<=kvs.length/\Pv i U H,⟨kvs.length,by simp,Nat.zero_le _,h0⟩,?_⟩
 rintro i m U H ⟨rfl,hi,p⟩;have hr:=hl i U H hi p
 by_cases hlt:i<kvs.length
 .refine .inr ⟨⟨hr,hlt⟩,Pv (i+1),λU' H' p'=>⟨kvs.length-(i+1),by omega,rfl,hlt,p'⟩,λx H' y=>?_⟩
  obtain⟨rfl,kv,b,hx,rfl,hb⟩:=y;exact hs i kv b U _ hx hb p
 .have e:i=kvs.length:=by omega
  subst e;exact .inl ⟨⟨hr,rfl⟩,hd U H p⟩
def PV(h:tl U H (gE λa H1=>nA H1 a λo kvs H2=>R (VR a o kvs) H2)):TB tl U H R:=h
def vZ{Rw:Obj->List (List Key×V)->Hp->Prop}(e:H a=some (.dT kvs))(h:∀o,Rw o kvs (upd H a (.frz o (.dT kvs)))):nA H a Rw:=.inl ⟨kvs,e,h⟩
def MK{Rw:Obj->List (List Key×V)->Hp->Prop}(e:H a=some (.frz o (.dT kvs)))(h:Rw o kvs H):nA H a Rw:=.inr ⟨o,kvs,e,h⟩
def PN(h:∀p,H p=none->Q (.ref p) (upd H p (.dT []))):Ui U H Q:=h
def UD(e:Rd H a (.dT kvs))(eb:H b=some (.tup (k.map kV)))(l:bZ kvs k=some v)(h:Q v H):UE (.ref a) (.ref b) H Q:=⟨a,v,rfl,.inr ⟨kvs,k,b,e,rfl,eb,l.symm⟩,h⟩
def uX(e:H a=some (.dT kvs))(eb:H b=some (.tup (k.map kV)))(l:kvs.length<sizeLine)(h:D.nx U (upd H a (.dT (dJ kvs k v)))):Vc D U (.ref a) (.ref b) v H:=⟨a,_,rfl,.inr ⟨kvs,k,b,e,rfl,eb,l,rfl⟩,h⟩
def Sl(e:Rd H a (.dT kvs))(eb:H b=some (.tup (k.map kV)))(h:Q ((bZ kvs k).getD .non) H):Su (.ref a) [.ref b] H Q:=⟨a,_,_,rfl,rfl,.inr ⟨kvs,k,b,e,rfl,eb,rfl⟩,h⟩
end
def PD{Q:Int->Shared->Prop}(h:Q 0xFCA86420 {s with toks:=s.toks+1}):wpAny (model prog w) A (pyHash .none) Q E s:=by
 have tN:s.TypeIs .none "NoneType" := rfl
 unfold pyHash pyHashByItsType;refine Ae ?_;rw[cRoomFor,if_neg (by decide)]
 refine Am (Ae (wpAny_specialOf tN F.slot_NoneType_hash.lookup ?_));show wpAny _ _ (if (some (Value.builtin "NoneType.__hash__")==some Value.none)=true then _ else _) Q E s
 rw[if_neg (by rw[beq_builtin_none];decide)]
 refine Ae (wpAny_specialOf tN F.slot_NoneType_hash.lookup ?_);show wpAny _ _ (callSpecialIfBoundUnlessNone? .none "__hash__" _ >>= _) Q E s
 refine Ae (wpAny_callSpecialIfBoundUnlessNone?_slot tN F.slot_NoneType_hash (Hk F.slot_NoneType_hash tN F.entry_NoneType_hash (show wpAny _ _ (do ret (<-mkInt 0xFCA86420)) _ _ s from wpAny_ret_mkInt ?_) (F.args_NoneType_hash_1 _)))
 show wpAny _ _ (if (decide (-(2:Int)^63<=0xFCA86420)&&decide ((0xFCA86420:Int)<2^63))=true then _ else _) Q E _
 rw[if_pos (by decide)]
 exact Am h
def UN:Option Key->Value->Bool
 |none,.none=>true
 |none,_=>false
 |some k,v=>kT k v
def cQ{v:Value}(h:UN none v=true):v=.none:=by
 cases v<;>first|rfl|(exact absurd h (by decide))|cases h
def mC{k:Key}{v:Value}(h:kT k v=true):v≠.none:=λz=>by
 rcases bQ h with⟨i,t,_,e⟩|⟨x,t,_,e⟩ <;> rw[z]at e<;>cases e
def M8(w:World):Option Key->Int
 |none=>0xFCA86420
 |some k=>Ut w k
def Tf(prog:Program)(w:World):PySem.KeyKind prog w (Option Key) where
 is:=UN
 hash:=M8 w
 inj:=λv a b ha hb=>by
  cases a with
  |none=>
   cases b with
   |none=>rfl
   |some b=>exact absurd (cQ ha) (mC hb)
  |some a=>
   cases b with
   |none=>exact absurd (cQ hb) (mC ha)
   |some b=>exact Da some ((bH prog w).inj v a b ha hb)
 byValue:=λk v h=>by
  cases k with
  |none=>rw[cQ h];rfl
  |some k=>exact(bH prog w).byValue k v h
 pyHash:=fun {A E s k v Q} hv h=>by
  cases k with
  |none=>rw[cQ hv];exact PD h
  |some k=>exact(bH prog w).pyHash hv h
 eqBool:=fun {A E s a b u v Q} hu hv h=>by
  cases a with
  |none=>
   rw[cQ hu];cases b with
   |none=>rw[cQ hv];exact SeqAt.EqAt.same _ _ _ _ _ (by simpa using h)
   |some b=>
    have h2:Q false s:=by simpa using h
    rcases bQ (show kT b v=true from hv) with⟨j,t,_,rfl⟩|⟨y,t,_,rfl⟩
    .exact SeqAt.EqAt.none_int _ _ _ _ _ _ h2
    .exact SeqAt.EqAt.none_str _ _ _ _ _ _ h2
  |some a=>
   cases b with
   |none=>
    rw[cQ hv];have h2:Q false s:=by simpa using h
    rcases bQ (show kT a u=true from hu) with⟨j,t,_,rfl⟩|⟨y,t,_,rfl⟩
    .exact SeqAt.EqAt.int_none _ _ _ _ _ _ h2
    .exact SeqAt.EqAt.str_none _ _ _ _ _ _ h2
   |some b=>
    refine(bH prog w).eqBool hu hv ?_;have e:decide (some a=some b)=decide (a=b):=Cj.mpr ⟨Bv,λz=>by rw[z]⟩
    rw[e]at h;exact h
 «strs» := λk x t v h=>by
  cases k with
  |none=>exact absurd (cQ h) (λz=>nomatch z)
  |some k=>exact(bH prog w).strs k x t v h
def M9{f:Key->Option Value}(hm:h.MapOf (bH prog w) a f):h.MapOf (Tf prog w) a (λk=>k.bind f):=by
 obtain⟨o,es,ep,ho,hx,hd,hk,hf⟩:=hm;refine⟨o,es,ep,ho,hx,hd,λe he=>?_,λk=>?_⟩
 .obtain⟨k,h1,h2⟩:=hk e he;exact⟨some k,h1,h2⟩
 .cases k with
  |some k=>exact hf k
  |none=>
   show findBy UN es none=none
   unfold findBy;rw[Option.map_eq_none_iff,Array.find?_eq_none];intro e he z;obtain⟨k,h1,_⟩:=hk e he;exact mC h1 (cQ z)
def Vn:R2:=λx y H Q=>∃a,y=.ref a/\((∃ov,Zq H a x ov/\Q (.bl ov.isSome) H)\/(x=.non/\∃kvs,Rd H a (.dK kvs)/\Q (.bl false) H))
def P6(hu:X.A.units+1<cLine):ZS X (compareOp .In) Vn:=by
 intro y4 s U H x y v u Q I rx ry h;obtain⟨a,rfl,h⟩:=h;cases ry;rcases h with⟨ov,g,q⟩|⟨rfl,kvs,e,q⟩
 .exact Tu hu I g rx λs3 I3=>⟨.bl ov.isSome,H,I3,rfl,q⟩
 .cases rx;obtain⟨z,hd,vs,rel,dd⟩:=iR I.Z7 e;exact wpAny_in_of (knd:=Tf X.prog X.w) (k:=none) (key:=Value.none) rfl hd (M9 dd.mapOf) ⟨.bl false,H,I.tok _,rfl,q⟩
def RV(hu:X.A.units+1<cLine):Yo X "dict.get" Su:=by
 intro y4 s U H x vs v us Q I rx rv h;obtain⟨a,y,ov,rfl,rfl,g,q⟩:=h;cases rx;obtain⟨u,rfl,ru⟩:=rv.one;exact Ms hu I g ru λw1 s1 I1 r1=>⟨_,H,I1,r1,q⟩
def Nt(e:Rd H a (.dK kvs))(h:Q (.bl false) H):Vn .non (.ref a) H Q:=⟨a,rfl,.inr ⟨rfl,kvs,e,h⟩⟩
def Ot(e:Rd H a (.dK kvs))(h:Q (.bl (bZ kvs (Sum.inr z)).isSome) H):Vn (.str z) (.ref a) H Q:=⟨a,rfl,.inl ⟨_,.inl ⟨kvs,.inr z,e,rfl,rfl⟩,h⟩⟩
def Rt:R2:=λx y H Q=>∃(p q:Addr) (a b c d:Int),x=.ref p/\y=.ref q/\H p=some (.tup [.int a,.int b])/\H q=some (.tup [.int c,.int d])/\Q (.bl (decide (a=c/\b=d))) H
def Oz(hu:X.A.units<cLine):ZS X (compareOp .Eq) Rt:=by
 intro y4 s U H x y v u Q I rx ry h;obtain⟨p,q,a,b,c,d,rfl,rfl,hp,hq,k⟩:=h;cases rx;cases ry;obtain⟨its,r1,l1,_⟩:=I.tuple (Y9.of (K:=X.K) hp);obtain⟨its2,r2,l2,_⟩:=I.tuple (Y9.of (K:=X.K) hq);obtain⟨u1,u2,rfl,⟨t1,rfl⟩,⟨t2,rfl⟩⟩:=r1.two;obtain⟨w1,w2,rfl,⟨t3,rfl⟩,⟨t4,rfl⟩⟩:=r2.two;refine SeqAt.eq_tupleAt (e:=λj=>if j=0 then a==c else b==d) (show s.heap.IsTuple p _ from l1) (show s.heap.IsTuple q _ from l2) hu (λj h1 h2=>?_) ?_
 .match j,h1,h2 with
  |0,_,_=>exact Dv a t1 c t3
  |1,_,_=>exact Dv b t2 d t4
  |j+2,h1,_=>exact absurd h1 (by show ¬j+2<2;omega)
 .refine⟨.bl (decide (a=c/\b=d)),H,I,?_,k⟩;show Value.bool _=Value.bool _
  congr 1
  show (((if (0:Nat)=0 then a==c else b==d)&&((if (1:Nat)=0 then a==c else b==d)&&true))&&true)=_
  rw[if_pos rfl,if_neg (by decide),Bool.and_true,Bool.and_true]
  by_cases e1:a=c
  .by_cases e2:b=d
   .simp[e1,e2]
   .simp[e1,e2]
  .simp[e1]
def MN{p:Addr}{a b c d:Int}(hp:H p=some (.tup [.int a,.int b]))(hq:H q=some (.tup [.int c,.int d]))(h:Q (.bl (decide (a=c/\b=d))) H):Rt (.ref p) (.ref q) H Q:=⟨p,q,a,b,c,d,rfl,rfl,hp,hq,h⟩
def Zi(h:Heap)(ea:Addr):Prop:=∃o fs,h.get? ea=some o/\o.data=.fields fs/\fs[2]?=some .none
def Zi.ext(c:Zi h ea)(k:∀o,h.get? ea=some o->h'.get? ea=some o):Zi h' ea:=by
 obtain⟨o,fs,h1,h2,h3⟩:=c;exact⟨o,fs,k o h1,h2,h3⟩
def Zi.some(c:Zi h ea):∃o,h.get? ea=Option.some o:=by
 obtain⟨o,_,e,_⟩:=c;exact⟨o,e⟩
def Tp:List V->Hp->VK->Prop:=λxs H Q=>(∃j:Int,xs=[.int j]/\∀r,H r=none->Q (.ref r) (upd H r (.rng 0 j)))\/(∃i j:Int,xs=[.int i,.int j]/\∀r,H r=none->Q (.ref r) (upd H r (.rng i j)))
def Inv.XF{U:St}{hi:Int}{t u v:Tok}{tk:Nat}(I:Inv X y4 U H s):Inv X y4 U (upd H s.heap.objs.size (.rng lo hi)) {s with heap:=s.heap.push {cls:=.type "range",data:=.fields #[.int lo t,.int hi u,.int 1 v]},toks:=tk}:=
 (I.kept (t':=tk) λb o e=>Ag _ e).adopt (I.Y2 (Ai _)) (I.Z7.fresh (Ai _)) ⟨t,u,v,Ax _ rfl⟩
def Rh:ZZ X (.type "range") Tp:=by
 intro y4 s U H xs us Q I r h;rcases h with⟨j,rfl,q⟩|⟨i,j,rfl,q⟩
 .obtain⟨u,rfl,⟨t,rfl⟩⟩:=eE r;exact call_range_1 ⟨.ref _,_,I.XF,rfl,q _ (I.Z7.fresh (Ai _))⟩
 .obtain⟨u,w',rfl,⟨t,rfl⟩,⟨t',rfl⟩⟩:=sT r;exact call_range_2 ⟨.ref _,_,I.XF,rfl,q _ (I.Z7.fresh (Ai _))⟩
def NU{j:Int}(h:∀r,H r=none->Q (.ref r) (upd H r (.rng 0 j))):Tp [.int j] H Q:=.inl ⟨j,rfl,h⟩
def R7:List V->Hp->VK->Prop:=λxs H Q=>∃(a:Addr) (n:Nat),xs=[.ref a]/\H a=some (.rng 0 (n:Int))/\n<=100000/\∀r,H r=none->Q (.ref r) (upd H r (.lst ((List.range n).map λi=>V.int ((i:Nat):Int))))
def Jy(hc:X.calm=true):ZZ X (.type "list") R7:=by
 intro y4 s U H xs us Q I r h;obtain⟨a,n,rfl,ha,hn,q⟩:=h;obtain⟨u,rfl,ru⟩:=eE r;cases ru;obtain⟨t0,t1,t2,ho⟩:=I.Z7 a _ ha;refine call_list_range (n:=n) (I.ok.hd hc) ho (small_one (by decide) (by decide) (by omega) (by omega)) (by rw[rangeSize_nat];omega) (by omega) λh' tk acc c hk hS hacc=>?_
 refine⟨.ref s.heap.objs.size,_,I.laid (a:=s.heap.objs.size) (o:=.lst ((List.range n).map λi=>V.int ((i:Nat):Int))) (t':=tk) hk (Ai _) ⟨by rw[Ab,Bm];exact bE hn,acc.toList,c,?_,by rw[hS]⟩,rfl,q _ (I.Z7.fresh (Ai _))⟩
 refine TN (by rw[Ab,Bm,Dk,hacc.1]) λj x u hx hu=>?_
 obtain⟨tk',rfl⟩:=hacc.2 j u (by rw[<-Eh];exact hu)
 have hj:j<n:=by
  have:=(Ad.mp hu).1
  rw[Dk,hacc.1]at this;exact this
 rw[Af,Fl hj]at hx;cases hx;exact⟨tk',by rw[show (0:Int)+((j:Nat):Int)*1=((j:Nat):Int) by omega]⟩
def QI(ha:H a=some (.rng 0 (n:Int)))(hn:n<=100000)(h:∀r,H r=none->Q (.ref r) (upd H r (.lst ((List.range n).map λi=>V.int ((i:Nat):Int))))):R7 [.ref a] H Q:=⟨a,n,rfl,ha,hn,h⟩
def Td{ps:List Str}(sp:Nat->Sp)(h0:∀vs H Q E,¬sp 0 vs H Q E)(hm:mg x=some (.ref f))(hk:W.keepIn K (.ref f)=true)(hb:Binds K fd ps [])(st:∀d n,ZP P w K mg base (d+1) x ps (sp n)->Z4 P w K mg base ZO (d+2) f fd ps (sp (n+1))):∀n,Z4 P w K mg base ZO (n+1) f fd ps (sp n)
 |0=>⟨λvs H Q E h=>(h0 _ _ _ _ h).elim,λA outer s H args us vs Q E _ _ _ _ h=>(h0 _ _ _ _ h).elim⟩
 |n+1=>st n n ⟨f,fd,Td sp h0 hm hk hb st n,hm,hk,hb⟩
def ZU.app{qs:List Addr}{gs:List (List V)}(t:ZU H1 Hc ps fs)(u:ZU H1 Hc qs gs):ZU H1 Hc (ps++qs) (fs++gs):=by
 refine⟨by rw[Ak,Ak,t.1,u.1],λj p v hp hv=>?_⟩
 by_cases h:j<ps.length
 .rw[Au h]at hp;rw[Au (by rw[<-t.1];exact h)]at hv
  exact t.2 j p v hp hv
 .rw[Aw (by omega)]at hp
  rw[Aw (by rw[<-t.1];omega),<-t.1]at hv
  exact u.2 _ p v hp hv
section
variable {U0:St}
def Tz(f:Nat->List V)(ha:Z8 H1 a=some xs)(hl:xs.length<sizeLine)(hs:∀(i:Nat) x Hc (A:VK) (B:Hp->Prop),xs[i]?=some x->Z_ H1 Hc->(∀q Hd,Hc q=none->Z_ Hc Hd->Hd q=some (.lst (f i))->A (.ref q) Hd)->
 g x U0 Hc λU2 H2=>Wk U0 U2/\tests U2 H2 λb H3=>if b=true then te U2 H3 A else B H3)(fin:∀D Hd ps,H1 D=none->Z_ H1 Hd->Hd D=some (.lst (ps.map V.ref))->ps.length=xs.length->ZU H1 Hd ps ((List.range xs.length).map f)->(∀p∈ps,p≠D)->Q (.ref D) Hd):eG g tests te U0 Q (Xw K a) H1:=by
 refine fR (n:=xs.length) (λD i ys Hc=>Z_ H1 Hc/\∃ps,ys=ps.map V.ref/\ps.length=i/\ZU H1 Hc ps ((List.range i).map f)/\∀p∈ps,p≠D) hl (λD hD=>⟨aF hD _,[],rfl,rfl,.nil,λp hp=>nomatch hp⟩)
  (λD i ys Hc _ r h=>⟨xs,xs[i],aT (aG r.1 ha),by simp[h]⟩) (λD ys Hc _ r=>⟨xs,aT (aG r.1 ha),Nat.le_refl _⟩) ?_ ?_
 .rintro D i ys Hc x H' A B hD hi ⟨sm,ps,rfl,hn,ls,nd⟩ hDc ⟨rfl,hz⟩ ha' hb;refine hs i x H' A B (hz xs (aT (aG sm ha))) sm (λq Hd hq sd hd=>?_);have nq:q≠D:=λz=>by rw[z,hDc]at hq;cases hq
  have nd2:∀p∈ps++[q],p≠D:=λp hp=>by
   rcases Bs.mp hp with e|e
   .exact nd p e
   .rw[Bc.mp e];exact nq
  refine ha' _ _ (sd _ _ hDc) ⟨bF hD (sm.trans sd),ps++[q],by rw[Aj];rfl,by rw[Ak,hn];rfl,?_,nd2⟩
  rw[Cm,Aj];exact((ls.keep sd).snoc (bK sm hq) hd).put nd2
 .rintro D ys Hc hD ⟨sm,ps,rfl,hn,ls,nd⟩ hDc _;exact fin D Hc ps hD sm hDc hn ls nd
def Ny(f:Nat->Option V)(hl:n<sizeLine)(hs:∀(i:Nat) Hc (A:VK) (B:Hp->Prop),i<n->Z_ H1 Hc->(∀y,f i=some y->∀Hd,Z_ Hc Hd->A y Hd)->(f i=none->∀Hd,Z_ Hc Hd->B Hd)->
 g (.int (lo+i)) U0 Hc λU2 H2=>Wk U0 U2/\tests U2 H2 λb H3=>if b=true then te U2 H3 A else B H3)(fin:∀D Hd,H1 D=none->Z_ H1 Hd->Hd D=some (.lst ((List.range n).filterMap f))->Q (.ref D) Hd):eG g tests te U0 Q (XW lo n) H1:=by
 refine fR (n:=n) (λD i ys Hc=>Z_ H1 Hc/\ys=(List.range i).filterMap f) hl (λD hD=>⟨aF hD _,rfl⟩) (λD i ys Hc _ r h=>h) (λD ys Hc _ r=>Ai n) ?_ ?_
 .rintro D i ys Hc x H' A B hD hi ⟨sm,rfl⟩ hDc ⟨rfl,rfl⟩ ha' hb;refine hs i H' A B hi sm (λy hy Hd sd=>?_) (λhn Hd sd=>?_)
  .exact ha' _ _ (sd _ _ hDc) ⟨bF hD (sm.trans sd),(cU hy).symm⟩
  .exact hb _ (sd _ _ hDc) ⟨sm.trans sd,(eW hn).symm⟩
 .rintro D ys Hc hD ⟨sm,rfl⟩ hDc _;exact fin D Hc hD sm hDc
end
def vV(H:Hp)(a b:Int)(v:Value):Bool:=match v with
 |.ref r=>match H r with
  |some (.tup [.int c,.int d])=>decide (c=a/\d=b)
  |_=>false
 |_=>false
def Sq:R2:=λx y H Q=>∃(p l:Addr) (a b:Int) (rs:List Addr) (ws:List (Int×Int)),x=.ref p/\y=.ref l/\H p=some (.tup [.int a,.int b])/\Z8 H l=some (rs.map V.ref)/\rs.length=ws.length/\(∀(j:Nat) r w,rs[j]?=some r->ws[j]?=some w->H r=some (.tup [.int w.1,.int w.2]))/\Q (.bl (decide ((a,b)∈ws))) H
def Mn(hu:X.A.units+1<cLine):ZS X (compareOp .In) Sq:=by
 intro y4 s U H x y v u Q I rx ry h;obtain⟨p,l,a,b,rs,ws,rfl,rfl,hp,hl,hrw,hw,q⟩:=h;cases rx;cases ry;obtain⟨its,r,pl,hz⟩:=I.list (aT hl);have hlen:=r.length
 rw[Ab]at hlen;have at_:∀(j:Nat) y,its[j]?=some y->∃q w,rs[j]?=some q/\ws[j]?=some w/\y=.ref q/\H q=some (.tup [.int w.1,.int w.2]):=λj y hy=>by
  have hj:j<its.length:=(Ad.mp hy).1
  have e1:rs[j]?=some rs[j]:=Aa (by omega)
  have e2:ws[j]?=some ws[j]:=Aa (by omega)
  obtain⟨v',h1,h2⟩:=r.get (i:=j) (x:=.ref rs[j]) (by rw[Af,e1];rfl)
  rw[hy]at h1;cases h1;cases h2;exact⟨_,_,e1,e2,rfl,hw j _ _ e1 e2⟩
 have he:∀(q:Addr) (w:Int×Int),H q=some (.tup [.int w.1,.int w.2])->vV H a b (.ref q)=decide (w.1=a/\w.2=b):=λq w e=>by
  unfold vV;simp only[e]
 refine SeqAt.in_listAt (vV H a b) pl.isList (λy hy=>?_) ⟨.bl _,H,I,rfl,?_⟩
 .obtain⟨j,hj⟩:=Cq.mp (Array.mem_toList_iff.mpr hy);rw[List.toList_toArray]at hj;obtain⟨q,w,_,_,rfl,hq⟩:=at_ j y hj;rw[he q w hq];by_cases e:q=p
  .subst e;rw[hp]at hq;cases hq;rw[Ap ⟨rfl,rfl⟩];exact Gb _
  .obtain ⟨i1,r1,l1,_⟩:=I.tuple (Y9.of (K:=X.K) hq);obtain ⟨i2,r2,l2,_⟩:=I.tuple (Y9.of (K:=X.K) hp);obtain ⟨u1,u2,rfl,⟨t1,rfl⟩,⟨t2,rfl⟩⟩:=r1.two;obtain ⟨w1,w2,rfl,⟨t3,rfl⟩,⟨t4,rfl⟩⟩:=r2.two;refine Gv e ?_;have:=SeqAt.RcAt.tuples (A:=X.A.in1) (s:=s) (e:=λj=>if j=0 then w.1 == a else w.2 == b) (show s.heap.IsTuple q _ from l1) (show s.heap.IsTuple p _ from l2) (by show X.A.units+1<cLine; exact hu) (λj h1 h2=>by
    match j,h1,h2 with
    |0,_,_=>exact Dv w.1 t1 a t3
    |1,_,_=>exact Dv w.2 t2 b t4
    |j+2,h1,_=>exact absurd h1 (by show ¬j+2<2;omega))
   have e2:((((if (0:Nat)=0 then w.1==a else w.2==b)&&((if (1:Nat)=0 then w.1==a else w.2==b)&&true))&&true):Bool)=decide (w.1=a/\w.2=b):=by
    rw[if_pos rfl,if_neg (by decide),Bool.and_true,Bool.and_true]
    by_cases e1:w.1=a
    .by_cases e2:w.2=b
     .simp[e1,e2]
     .simp[e1,e2]
    .simp[e1]
   rw[<-e2];exact this
 .have e:its.toArray.any (vV H a b)=decide ((a,b)∈ws):=by
   rw[List.any_toArray];rw[Ew,Ft,Bh];constructor
   .rintro⟨y,hy,ht⟩;obtain⟨j,hj⟩:=Cq.mp hy;obtain⟨q,w,_,ew,rfl,hq⟩:=at_ j y hj;rw[he q w hq,Bh]at ht;rw[<-ht.1,<-ht.2];exact Ah ew
   .intro hm;obtain⟨j,hj⟩:=Cq.mp hm;have hjl:j<its.length:=by have:=(Ad.mp hj).1;omega
    obtain⟨q,w,_,ew,ey,hq⟩:=at_ j _ (Aa hjl);rw[hj]at ew;cases ew;refine⟨its[j],Bo hjl,?_⟩;rw[ey,he q _ hq];exact Ap ⟨rfl,rfl⟩
  rw[e];exact q
def OC{p:Addr}{a b:Int}{rs:List Addr}{ws:List (Int×Int)}(hp:H p=some (.tup [.int a,.int b]))(hl:Z8 H l=some (rs.map V.ref))(hlen:rs.length=ws.length)(hw:∀(j:Nat) r w,rs[j]?=some r->ws[j]?=some w->H r=some (.tup [.int w.1,.int w.2]))(h:Q (.bl (decide ((a,b)∈ws))) H):Sq (.ref p) (.ref l) H Q:=⟨p,l,a,b,rs,ws,rfl,rfl,hp,hl,hlen,hw,h⟩
section
open PySem.AutoSeq1 (wpAny_loadPart')
open PySem.MeetsSeq PySem.MeetsSeq2 PySem.MeetsSeq3
open PySem.W (KasT kas_sort kas_cmp kas_item kas_item_eq kas_range kas_runs kas_kind kas_st)
def ltZ:List Int->List Int->Bool
 |[],[]=>false
 |[],_::_=>true
 |_::_,[]=>false
 |a::r,b::s=>if a=b then ltZ r s else decide (a<b)
def eX(h:IntsAre vs ns):vs.length=ns.length/\∀ {i:Nat} {n:Int},ns[i]?=some n->∃t,vs[i]?=some (.int n t):=by
 induction h with
 |nil=>exact⟨rfl,λe=>by cases e⟩
 |cons m t _ ih=>
  refine⟨by rw[Av,Av,ih.1],fun {i n} e=>?_⟩
  cases i with
  |zero=>cases e;exact⟨t,rfl⟩
  |succ i=>exact ih.2 e
def Nc{a b:Int}{t u:Tok}{Q:Q0}(hu:A.units<cLine)(h:Q (.bool (decide (a<b))) s):wpAny (model P w) A (richCompare .Lt (.int a t) (.int b u)) Q E s:=
 Fb (op:=.Lt) (typeIs_int s a t) (typeIs_int s b u) slot_int_lt (call_int_lt ⟨(λx=>nomatch x),h⟩) hu
def NJ(l b:Addr)(xs ys:Array Value)(as bs:List Int)(n n2:Nat)(dd dd2:Option Addr)(sl sl2:Array (Option Value))(ix:IntsAre xs.toList as)(iy:IntsAre ys.toList bs):∀(k i:Nat),as.length-i=k->i<=as.length->i<=bs.length->
 MeetsIn P w (Builtin.«list.__eq__.loop» ⟨[.ref l,.ref b,rawInt i,rawInt 0],[]⟩)
  (λA R s=>A.units+1<cLine/\s.heap.get? l=some ⟨.type "list",dd,.seq xs n,sl⟩/\s.heap.get? b=some ⟨.type "list",dd2,.seq ys n2,sl2⟩/\R (.ok (.ret (.bool (ltZ (as.drop i) (bs.drop i))))) s):=by
 have lx:xs.size=as.length:=by rw[<-Dk];exact(eX ix).1
 have ly:ys.size=bs.length:=by rw[<-Dk];exact(eX iy).1
 intro k;induction k with
 |zero=>
  intro i hk hi hj A R s h;obtain⟨hp,g,d,tk,os⟩:=s;obtain⟨hu,ha,hq,h⟩:=h
  wp_walk using (Ba ha),(Ba hq)
  have n1:xs[((i:Nat):Int).toNat]?=none:=by simp;omega
  rw[n1]
  wp_walk using (Ba ha),(Ba hq)
  have e:ltZ (as.drop i) (bs.drop i)=decide (xs.size<ys.size):=by
   rw[Hf (by omega),lx,ly]
   cases eb:bs.drop i with
   |nil=>
    have:=Da List.length eb
    rw[Ct,List.length_nil]at this;exact(Al (by omega)).symm
   |cons y r=>
    have:=Da List.length eb
    rw[Ct,Av]at this;exact(Ap (by omega)).symm
  rw[e]at h;exact h
 |succ k ih=>
  intro i hk hi hj A R s h;obtain⟨hp,g,d,tk,os⟩:=s;obtain⟨hu,ha,hq,h⟩:=h;have hia:i<as.length:=by omega
  obtain⟨t,hx⟩:=(eX ix).2 (Aa hia);have n1:xs[((i:Nat):Int).toNat]?=some (.int as[i] t):=by rw[Co,<-Eh];exact hx
  by_cases hib:i<bs.length
  .obtain⟨u,hy⟩:=(eX iy).2 (Aa hib);have n2':ys[((i:Nat):Int).toNat]?=some (.int bs[i] u):=by rw[Co,<-Eh];exact hy
   have hc:((i:Int)+1)=((i+1:Nat):Int):=by omega
   rw[Eg hia,Eg hib]at h
   wp_walk using (Ba ha),(Ba hq)
   rw[n1,n2'];refine Ae (Dv as[i] t bs[i] u P w _ _ ?_);by_cases e:as[i]=bs[i]
   .rw[show ltZ (as[i]::as.drop (i+1)) (bs[i]::bs.drop (i+1))=ltZ (as.drop (i+1)) (bs.drop (i+1)) from if_pos e]at h;rw[show (as[i]==bs[i])=true from Gw.mpr e]
    wp_walk
    rw[hc];refine⟨Dq plain_eq_loop _,Dh entry_eq_loop ?_⟩;rw[Cv plain_eq_loop _];exact ih (i+1) (by omega) (by omega) (by omega) A R _ ⟨hu,ha,hq,h⟩
   .rw[show ltZ (as[i]::as.drop (i+1)) (bs[i]::bs.drop (i+1))=decide (as[i]<bs[i]) from if_neg e]at h;rw[show (as[i]==bs[i])=false from Ea.mpr e]
    wp_walk using (Ba ha),(Ba hq)
    rw[n1,n2'];refine Ae (Nc (A:=A.in1) (show A.units+1<cLine from hu) ?_)
    wp_walk
    exact h
  .have hib':i=bs.length:=by omega
   have n2':ys[((i:Nat):Int).toNat]?=none:=by simp;omega
   wp_walk using (Ba ha),(Ba hq)
   rw[n1,n2']
   wp_walk using (Ba ha),(Ba hq)
   have e:ltZ (as.drop i) (bs.drop i)=decide (xs.size<ys.size):=by
    rw[Hf (show bs.length<=i by omega),Eg hia,lx,ly]
    exact(Al (by omega)).symm
   rw[e]at h;exact h
section
variable {xs ys:Array Value} {as bs:List Int}
def xC{Q:Q0}(hl:s.heap.IsList l xs)(hb:s.heap.IsList b ys)(ix:IntsAre xs.toList as)(iy:IntsAre ys.toList bs)(hu:A.units+1<cLine)(h:Q (.bool (ltZ as bs)) s):wpAny (model P w) A (call (.builtin "list.__lt__") [.ref l,.ref b]) Q E s:=by
 obtain⟨⟨cls,dd,data,sl⟩,ho,hc,n,hd⟩:=id hl;obtain⟨⟨cls2,dd2,data2,sl2⟩,ho2,hc2,n2,hd2⟩:=id hb;obtain rfl:cls=.type "list" := hc;obtain rfl:data=.seq xs n:=hd;obtain rfl:cls2=.type "list" := hc2;obtain rfl:data2=.seq ys n2:=hd2;have g:MeetsIn P w (Builtin.«list.__lt__» ⟨[.ref l,.ref b],[]⟩) (λA R s=>A.units+1<cLine/\s.heap.get? l=some ⟨.type "list",dd,.seq xs n,sl⟩/\s.heap.get? b=some ⟨.type "list",dd2,.seq ys n2,sl2⟩/\R (.ok (.ret (.bool (ltZ as bs)))) s):=by
  intro A R s h;obtain⟨hp,g,d,tk,os⟩:=s;obtain⟨hu,ha,hq,h⟩:=h;have f3:=Hb
  wp_walk using (Ba ha),(Ba hq)
  refine⟨Dq plain_eq_loop _,Dh entry_eq_loop ?_⟩;rw[Cv plain_eq_loop _];exact NJ l b xs ys as bs n n2 dd dd2 sl sl2 ix iy _ 0 rfl (Cs _) (Cs _) A R _ ⟨hu,ha,hq,h⟩
 exact Gp PySem.F.slot_list_lt ⟨_,ho,rfl⟩ PySem.F.entry_list_lt (PySem.F.args_list_lt_2 _ _) g ⟨hu,ho,ho2,h⟩
def Jk{Q:Bool->Shared->Prop}(hl:s.heap.IsList l xs)(hb:s.heap.IsList b ys)(ix:IntsAre xs.toList as)(iy:IntsAre ys.toList bs)(hu:A.units+1<cLine)(h:Q (ltZ as bs) s):wpAny (model P w) A (keyLt' oneType' (.ref l) (.ref b)) Q E s:=by
 obtain⟨o,ho,hc,_⟩:=id hl;rw[keyLt'_oneType,oneLt'_eq];simp only[if_true];refine Ae (wpAny_cRoomFor (by omega) ?_)
 refine Ae (wpAny_callSpecialIfBound?_slot (T := "list") ⟨_,ho,hc⟩ PySem.F.slot_list_lt (xC hl hb ix iy hu ?_));exact Er h
def MM{Q:Q0}(hl:s.heap.IsList l xs)(hb:s.heap.IsList b ys)(ix:IntsAre xs.toList as)(iy:IntsAre ys.toList bs)(hu:A.units+1<cLine)(h:Q (.bool (ltZ as bs)) s):wpAny (model P w) A (richCompare .Lt (.ref l) (.ref b)) Q E s:=by
 obtain⟨o,ho,hc,_⟩:=id hl;obtain⟨o2,ho2,hc2,_⟩:=id hb;exact Fb (op:=.Lt) (T := "list") ⟨_,ho,hc⟩ ⟨_,ho2,hc2⟩ PySem.F.slot_list_lt (xC hl hb ix iy hu ⟨(λx=>nomatch x),h⟩) (by omega)
end
def W_(lt:Nat->Nat->Bool):KasT α->α
 |.ret a=>a
 |.ask i j k=>W_ lt (k (lt i j))
def WG(lt:Nat->Nat->Bool)(n:Nat):KasT α->Bool
 |.ret _=>true
 |.ask i j k=>decide (i<n)&&decide (j<n)&&WG lt n (k (lt i j))
def wW{cmp:Nat->Nat->(Bool->Shared->Prop)->Shared->Prop}{Q:α->Shared->Prop}(hc:∀i j C,i<n->j<n->C (lt i j) s->cmp i j C s):∀t:KasT α,WG lt n t=true->Q (W_ lt t) s->t.kasWp cmp Q s
 |.ret _,_,h=>h
 |.ask i j k,o,h=>by
  simp only[WG,Bool.and_eq_true,decide_eq_true_eq]at o;exact hc i j _ o.1.1 o.1.2 (wW hc (k (lt i j)) o.2 h)
def gS(lt:Nat->Nat->Bool)(vs:List Value):List Value:=if vs.length<2 then vs else (W_ lt (kas_sort vs.length)).toList.map λi=>vs.getD i .none
def W2(h:Heap)(a:Addr)(vs:List Value):Heap:=((h.update a (Obj.mapSeq λ_=>(#[]:Array Value))).push (seqObj "tuple" vs.toArray 0)).push (seqObj "list" #[] 0)
def NG(ne:b≠a)(e:h.get? b=some o):(W2 h a vs).get? b=some o:=
 Ag _ (Ag _ (((Ed h a _).2 b ne).trans e))
def Pz(e:h.get? a=some (seqObj "list" vs.toArray n)):∃c,(h.update a (Obj.mapSeq λ_=>(#[]:Array Value))).get? a=some (seqObj "list" #[] c)/\(W2 h a vs).get? a=some (seqObj "list" #[] c):=
 ⟨_,get?_update_seq e λ_=>#[],Ag _ (Ag _ (get?_update_seq e λ_=>#[]))⟩
def wK(h:Heap)(vs:List Value):Heap:=((h.push (seqObj "list" #[] 0)).update h.objs.size (Obj.mapSeq (·++vs.toArray))).push (seqObj "list" vs.toArray 0)
def oX(h:Heap)(vs:List Value):((h.push (seqObj "list" #[] 0)).update h.objs.size (Obj.mapSeq (·++vs.toArray))).objs.size=h.objs.size+1:=(Heap.size_update ..).trans (size_push' ..)
def NA(e:h.get? b=some o):(wK h vs).get? b=some o/\b≠h.objs.size+1:=
 have l:b<h.objs.size:=As e
 ⟨Ag _ (((Ed _ _ _).2 b (Bj l)).trans (Ag _ e)),Bj (Nat.lt_succ_of_lt l)⟩
def OP(h:Heap)(vs:List Value):(wK h vs).get? (h.objs.size+1)=some (seqObj "list" vs.toArray 0):=by
 have e:(wK h vs).get? ((h.push (seqObj "list" #[] 0)).update h.objs.size (Obj.mapSeq (·++vs.toArray))).objs.size=some (seqObj "list" vs.toArray 0):=Ax _ rfl
 rwa [oX]at e
def L7{p:Array Nat}(h2:¬vs.length<2)(e:p=W_ lt (kas_sort vs.length))(z:p.size=vs.length):(gS lt vs).length=vs.length/\gS lt vs=p.toList.map λi=>vs.getD i .none:=by
 unfold gS;rw[if_neg h2,<-e];exact⟨by rw[Ab,Dk,z],rfl⟩
def nZ:∀ {ps:List Addr} {us:List Value},Vals (ps.map V.ref) us->us=ps.map Value.ref
 |[],_,.nil=>rfl
 |p::ps,_,.cons r t=>by cases r;rw[nZ t];rfl
def tP(f:α->Addr):∀l:List α,Vals (l.map λi=>V.ref (f i)) (l.map λi=>Value.ref (f i))
 |[]=>.nil
 |_::l=>.cons rfl (tP f l)
end
def zC{as bs:List Int}(h:as.map V.int=bs.map V.int):as=bs:=by
 induction as generalizing bs with
 |nil=>cases bs with
  |nil=>rfl
  |cons b r=>cases h
 |cons a r ih=>cases bs with
  |nil=>cases h
  |cons b t=>
   rw[Ar,Ar]at h;obtain⟨h1,h2⟩:=List.cons.inj h;cases h1;rw[ih h2]
def Uy(H:Hp)(ks:List Int):Value->Bool
 |.ref q=>decide (Z8 H q=some (ks.map V.int))
 |_=>false
def oE{ks k:List Int}(h:Z8 H q=some (k.map V.int)):Uy H ks (.ref q)=decide (k=ks):=by
 show decide (Z8 H q=some (ks.map V.int))=_
 rw[h];by_cases e:k=ks
 .rw[e,Ap rfl,Ap rfl]
 .rw[Al e,Al λz=>e (zC (Bv z))]
def wZ{k ks:List Int}(hl:k.length=ks.length):(List.range k.length).all (λj=>k.getD j 0==ks.getD j 0)=decide (k=ks):=by
 rw[Ew,Ci,Bh];constructor
 .intro h;refine List.ext_getElem hl λj h1 h2=>?_;have:=Gw.mp (h j (By.mpr h1))
  rwa [Ac,Ac,Aa h1,Aa h2]at this
 .rintro rfl j _;exact Fn _
def wM:R2:=λx y H Q=>∃(p l:Addr) (ks:List Int) (rs:List Addr) (L:List (List Int)),x=.ref p/\y=.ref l/\Z8 H p=some (ks.map V.int)/\Z8 H l=some (rs.map V.ref)/\rs.length=L.length/\(∀(j:Nat) r k,rs[j]?=some r->L[j]?=some k->Z8 H r=some (k.map V.int))/\Q (.bl (!decide (ks∈L))) H
def QN(hu:X.A.units+1<cLine):ZS X (compareOp .NotIn) wM:=by
 intro y4 s U H x y v u Q I rx ry h;obtain⟨p,l,ks,rs,L,rfl,rfl,hp,hl,hrL,hL,q⟩:=h;cases rx;cases ry;obtain⟨its,r,pl,hz⟩:=I.list (aT hl);obtain rfl:=nZ r;obtain⟨ip,rp,lp,_⟩:=I.list (aT hp);have gp:=eX (lQ rp)
 have at_:∀y,y∈rs.map Value.ref->∃b k,y=.ref b/\b∈rs/\k∈L/\Z8 H b=some (k.map V.int):=λy hy=>by
  obtain⟨b,hb,rfl⟩:=Bg.mp hy;obtain⟨j,hj⟩:=Cq.mp hb;have hj':=(Ad.mp hj).1
  have e2:=Aa (show j<L.length by omega)
  exact⟨b,_,rfl,hb,Ah e2,hL j b _ hj e2⟩
 refine SeqAt.notIn_listAt (Uy H ks) pl.isList (λy hy=>?_) ⟨.bl _,H,I,rfl,?_⟩
 .obtain⟨b,k,rfl,_,_,hb⟩:=at_ y (by simpa using hy)
  rw[oE hb];by_cases e:b=p
  .subst e;rw[hb]at hp;rw[zC (Bv hp),Ap rfl];exact Gb _
  .obtain⟨ib,rb,lb,_⟩:=I.list (aT hb);have gb:=eX (lQ rb)
   refine Gv e ?_;by_cases hk:k.length=ks.length
   .rw [<-wZ hk];have:=SeqAt.RcAt.lists (A:=X.A.in1) (s:=s) (e:=λj=>k.getD j 0 == ks.getD j 0) lb.isList lp.isList (by simp only [List.size_toArray]; omega) (show X.A.units+1<cLine from hu) (λj h1 h2=>by
     have h1':j<ib.length:=by simpa using h1
     have h2':j<ip.length:=by simpa using h2
     obtain⟨t1,e1⟩:=gb.2 (Aa (show j<k.length by omega))
     obtain⟨t2,e2⟩:=gp.2 (Aa (show j<ks.length by omega))
     have e1':ib.toArray[j]=.int (k.getD j 0) t1:=by
      rw[Ac,Aa (show j<k.length by omega)]
      rw[Aa h1']at e1
      simpa using Option.some.inj e1
     have e2':ip.toArray[j]=.int (ks.getD j 0) t2:=by
      rw[Ac,Aa (show j<ks.length by omega)]
      rw[Aa h2']at e2
      simpa using Option.some.inj e2
     rw[e1',e2'];exact Dv _ t1 _ t2)
    rw[show ib.toArray.size=k.length by simp only[List.size_toArray];exact gb.1]at this
    exact this
   .rw[Al λz=>hk (by rw[z])]
    exact SeqAt.RcAt.lists_lengths lb.isList lp.isList (by simp only[List.size_toArray,bne_iff_ne];omega) (show X.A.units+1<cLine from hu)
 .have e:(rs.map Value.ref).toArray.any (Uy H ks)=decide (ks∈L):=by
   rw[List.any_toArray,Ew,Ft,Bh];constructor
   .rintro⟨y,hy,ht⟩;obtain⟨b,k,rfl,_,hk,hb⟩:=at_ y hy;rw[oE hb,Bh]at ht;rw[<-ht];exact hk
   .intro hm;obtain⟨j,hj⟩:=Cq.mp hm;have hj':=(Ad.mp hj).1
    have e2:=Aa (show j<rs.length by omega)
    refine⟨.ref rs[j],Bg.mpr ⟨_,Bo _,rfl⟩,?_⟩;rw[oE (hL j _ _ e2 hj),Ap rfl]
  rw[e];exact q
def Q7{p:Addr}{ks:List Int}{rs:List Addr}{L:List (List Int)}(hp:Z8 H p=some (ks.map V.int))(hl:Z8 H l=some (rs.map V.ref))(hn:rs.length=L.length)(hL:∀(j:Nat) r k,rs[j]?=some r->L[j]?=some k->Z8 H r=some (k.map V.int))(h:Q (.bl (!decide (ks∈L))) H):wM (.ref p) (.ref l) H Q:=⟨p,l,ks,rs,L,rfl,rfl,hp,hl,hn,hL,h⟩
section
open PySem
open PySem.Spec PyProof.Rows
def QM(xs:Array Nat):Prop:=∀(i k a b:Nat),i<k->xs[i]?=some a->xs[k]?=some b->a<b
def WN(H:Hp):Nat->V->V->Prop
 |0,x,y=>x=y/\(bR x=true\/∃p,x=.ref p)
 |n+1,x,y=>(x=y/\(bR x=true\/∃p,x=.ref p))\/∃p q,x=.ref p/\y=.ref q/\((∃xs ys,Z8 H p=some xs/\Z8 H q=some ys/\xs.length=ys.length/\∀(j:Nat) x' y',xs[j]?=some x'->ys[j]?=some y'->WN H n x' y')\/∃kvs kws,Rd H p (.dK kvs)/\Rd H q (.dK kws)/\V4 kvs kws)
def WN.same{x:V}(h:bR x=true\/∃p,x=.ref p):WN H n x x:=by
 cases n with
 |zero=>exact⟨rfl,h⟩
 |succ n=>exact .inl ⟨rfl,h⟩
def yQ{x:V}{v:Value}(h:bR x=true\/∃p,x=.ref p)(ru:RelV x u)(rv:RelV x v):Yy X.prog X.w A s u v:=by
 rcases h with hf|⟨p,rfl⟩
 .have:=iP (A:=A) (s:=s) ru rv hf hf
  rw[eZ hf]at this;exact λE Q hq=>this X.prog X.w E Q hq
 .cases ru;cases rv;exact .same _
def Sk{U:St}(I:Inv X y4 U H s){p:Addr}(hp:Z8 H p=some xs)(hq:Z8 H q=some ys)(hl:xs.length=ys.length)(h:∀(j:Nat) x' y' u v,xs[j]?=some x'->ys[j]?=some y'->RelV x' u->RelV y' v->Yy X.prog X.w A.in1 s u v)(hu:A.units<cLine)(E:Q0)(Q:Q0):(Q (.bool true) s->wpAny (model X.prog X.w) A (richCompare .Eq (.ref p) (.ref q)) Q E s)/\(Q (.bool false) s->wpAny (model X.prog X.w) A (richCompare .NotEq (.ref p) (.ref q)) Q E s):=by
 obtain⟨its,r1,l1,_⟩:=I.list (aT hp);obtain⟨its2,r2,l2,_⟩:=I.list (aT hq);have e1:=r1.length
 have e2:=r2.length
 have he:∀j (h1:j<its.toArray.size) (h2:j<its2.toArray.size),Yy X.prog X.w A.in1 s its.toArray[j] its2.toArray[j]:=λj h1 h2=>by
  have h1':j<its.length:=by simpa using h1
  have h2':j<its2.length:=by simpa using h2
  obtain⟨u',hu',ru'⟩:=r1.get (Aa (show j<xs.length by omega))
  obtain⟨v',hv',rv'⟩:=r2.get (Aa (show j<ys.length by omega))
  rw[Aa h1']at hu';rw[Aa h2']at hv';cases hu';cases hv'
  simpa using h j _ _ _ _ (List.getElem?_eq_getElem _) (List.getElem?_eq_getElem _) ru' rv'
 have hs:its.toArray.size=its2.toArray.size:=by simp only[List.size_toArray];omega
 exact⟨λq=>Ue l1.isList l2.isList hs hu he q,λq=>RM l1.isList l2.isList hs hu he q⟩
def M4{U:St}(I:Inv X y4 U H s):∀(n:Nat) (A:Around) (x y:V) (u v:Value),WN H n x y->RelV x u->RelV y v->A.units+n<cLine->Yy X.prog X.w A s u v:=by
 intro n;induction n with
 |zero=>
  intro A x y u v h ru rv hu;obtain⟨rfl,hx⟩:=h;exact yQ hx ru rv
 |succ n ih=>
  intro A x y u v h ru rv hu;rcases h with⟨rfl,hx⟩|⟨p,q,rfl,rfl,hpq⟩
  .exact yQ hx ru rv
  .cases ru;cases rv;by_cases e:p=q
   .subst e;exact .same _
   rcases hpq with⟨xs,ys,hp,hq,hl,h⟩|⟨kvs,kws,hp,hq,d⟩
   .exact .refs e λE Q hq'=>(Sk I hp hq hl (λj x' y' u v hx hy hu' hv'=>ih A.in1 x' y' u v (h j x' y' hx hy) hu' hv' (by show A.units+1+n<cLine;omega)) (by omega) E Q).1 hq'
   .exact .refs e λE Q hq'=>(RZ I hp hq d (by omega) E Q).1 hq'
def SJ(neg:Bool):R2:=λx y H Q=>∃n p q xs ys,n<=50/\x=.ref p/\y=.ref q/\Z8 H p=some xs/\Z8 H q=some ys/\xs.length=ys.length/\(∀(j:Nat) x' y',xs[j]?=some x'->ys[j]?=some y'->WN H n x' y')/\Q (.bl (!neg)) H
def KQ(hu:X.A.units+64<cLine):ZS X (compareOp .NotEq) (SJ true):=by
 intro y4 s U H x y v u Q I rx ry h;obtain⟨n,p,q,xs,ys,hn,rfl,rfl,hp,hq,hl,al,k⟩:=h;cases rx;cases ry;exact(Sk I hp hq hl (λj x' y' u v hx hy hu' hv'=>M4 I n X.A.in1 x' y' u v (al j x' y' hx hy) hu' hv' (by show X.A.units+1+n<cLine;omega)) (by omega) _ _).2 ⟨.bl false,H,I,rfl,k⟩
def Qs{p:Addr}(n:Nat)(hp:Z8 H p=some xs)(hq:Z8 H q=some ys)(hl:xs.length=ys.length)(al:∀(j:Nat) x' y',xs[j]?=some x'->ys[j]?=some y'->WN H n x' y')(h:Q (.bl (!neg)) H)(hn:n<=50:=by omega):SJ neg (.ref p) (.ref q) H Q:=⟨n,p,q,xs,ys,hn,rfl,rfl,hp,hq,hl,al,h⟩
end
section
open PySem.AutoSeq1 (wpAny_loadPart')
section
variable {a b:Expr} {rest:List Expr} {ta tb:TE}
def R0(ta tb:TE):TE:=λU H Q=>ta U H λx H1=>(x=.non/\tb U H1 Q)\/∃(p:Addr) (xs:List V),x=.ref p/\Z8 H1 p=some xs/\(xs≠[]->Q (.ref p) H1)/\(xs=[]->tb U H1 Q)
def JJ(ha:PE X a ta)(hb:PE X (.BoolOp .Or (b::rest) pos) tb):PE X (.BoolOp .Or (a::b::rest) pos) (R0 ta tb):=by
 intro y4 s U H Q I h;refine BoolOp_or (Z0 (ha y4 s U H _ I h) λv s1 ⟨x,H1,I1,r1,q1⟩=>?_);rcases q1 with⟨rfl,q1⟩|⟨p,xs,rfl,hp,q2,q3⟩
 .refine Z0 (uW y4 s1 U H1 .non v (λk H'=>k=false/\tb U H' Q) I1 r1 ⟨false,rfl,rfl,q1⟩) λk s2 ⟨H2,I2,e,q⟩=>?_;subst e;exact hb y4 s2 U H2 Q I2 q
 .cases xs with
  |nil=>
   refine Z0 (uW y4 s1 U H1 (.ref p) v (λk H'=>k=false/\tb U H' Q) I1 r1 ⟨false,.inl ⟨[],aT hp,rfl⟩,rfl,q3 rfl⟩) λk s2 ⟨H2,I2,e,q⟩=>?_;subst e;exact hb y4 s2 U H2 Q I2 q
  |cons y r=>
   refine Z0 (uW y4 s1 U H1 (.ref p) v (λk H'=>k=true/\Q (.ref p) H') I1 r1 ⟨true,.inl ⟨y::r,aT hp,rfl⟩,rfl,q2 (λz=>nomatch z)⟩) λk s2 ⟨H2,I2,e,q⟩=>?_
   subst e;exact⟨.ref p,H2,I2,r1,q⟩
end
def KV.at{vs:List (Key×Value)}(r:KV kvs vs):∀ {i:Nat} {k:Key} {u:Value},vs[i]?=some (k,u)->∃v,kvs[i]?=some (k,v)/\RelV v u:=by
 unfold KV at r;induction r with
 |nil=>intro i k u h;cases h
 | @cons kv vv _ _ hk t ih=>
  intro i k u h;obtain⟨e,ru⟩:=hk;cases i with
  |zero=>cases h;exact⟨kv.2,by rw[List.getElem?_cons_zero];exact Da some (Prod.ext e rfl),ru⟩
  |succ i=>exact ih h
end
def JW:R2:=λx y H Q=>(x=.non/\y=.non/\Q (.bl false) H)\/W5 true x y H Q
def PU(hu:X.A.units<cLine):ZS X (compareOp .NotEq) JW:=by
 intro y4 s U H x y v u Q I rx ry h;rcases h with⟨rfl,rfl,k⟩|h
 .cases rx;cases ry;exact Wz y4 s U H .non .non _ _ Q I rfl rfl ⟨rfl,by rw[show decide (V.non=V.non)=true from Ap rfl];exact k⟩
 .exact RU hu y4 s U H x y v u Q I rx ry h
def Alt(H:Hp):Nat->V->V->Prop
 |0,x,y=>x=y/\bR x=true
 |n+1,x,y=>(x=y/\bR x=true)\/∃p q xs ys,x=.ref p/\y=.ref q/\((Z8 H p=some xs/\Z8 H q=some ys)\/(H p=some (.tup xs)/\H q=some (.tup ys)))/\xs.length=ys.length/\∀(j:Nat) x' y',xs[j]?=some x'->ys[j]?=some y'->Alt H n x' y'
def Alt.tup{H:Hp}{n:Nat}{p q:Addr}{xs ys:List V}(hp:H p=some (.tup xs))(hq:H q=some (.tup ys))(hl:xs.length=ys.length)(h:∀(j:Nat) x y,xs[j]?=some x->ys[j]?=some y->Alt H n x y):Alt H (n+1) (.ref p) (.ref q):=.inr ⟨p,q,xs,ys,rfl,rfl,.inr ⟨hp,hq⟩,hl,h⟩
def XB(h:Heap)(it a:Addr)(slot i n ep:Nat):Prop:=∃o,h.get? it=some o/\o.cls=.type "set_iterator"/\o.data=.fields #[.int slot 0,.int i 0,.ref a,.int n 0,.int ep 0]
structure XQ (h:Heap) (a:Addr) (es:Array (Int×Value)) (ep:Nat) (t:SetTable):Prop where
 ob:∃o,h.get? a=some o/\o.cls=.type "set"/\o.data=.set es ep t
 fits:t.fits es.size=true
 plain:t.plain=true
 ris:QM t.place
 sz:t.place.size=es.size
def XB.at{slot:Nat}(x:XB h it a slot i n ep)(k:∀o,h.get? it=some o->h'.get? it=some o):XB h' it a slot i n ep:=by
 obtain⟨o,e,q⟩:=x;exact⟨o,k o e,q⟩
def XQ.at{es:Array (Int×Value)}{t:SetTable}(x:XQ h a es ep t)(k:∀o,h.get? a=some o->h'.get? a=some o):XQ h' a es ep t:=by
 obtain⟨⟨o,e,q⟩,r1,r2,r3,r4⟩:=x;exact⟨⟨o,k o e,q⟩,r1,r2,r3,r4⟩
section
open PySem.W (KasT kas_sort kas_rev kas_asc kas_desc kas_tail3 kas_descPart kas_count kas_place kas_bin)
section
variable {r:Nat->Nat}
structure Ord (r:Nat->Nat) (n:Nat) (p:Array Nat):Prop where
 perm:p.toList.Perm (List.range n)
 inj:∀i j,i<n->j<n->r i=r j->i=j
def Ord.size{p:Array Nat}(h:Ord r n p):p.size=n:=by
 have:=h.perm.length_eq
 simpa using this
def Up(r:Nat->Nat)(p:Array Nat)(k:Nat):Prop:=∀i j,i<j->j<k->r (p.getD i 0)<r (p.getD j 0)
def Dn(r:Nat->Nat)(p:Array Nat)(k:Nat):Prop:=∀i j,i<j->j<k->r (p.getD j 0)<r (p.getD i 0)
def Up.succ{p:Array Nat}{k:Nat}(h:Up r p k)(hk:1<=k)(e:r (p.getD (k-1) 0)<r (p.getD k 0)):Up r p (k+1):=λi j hij hj=>by
 by_cases z:j=k
 .subst z;by_cases y:i=j-1
  .subst y;exact e
  .exact Nat.lt_trans (h i (j-1) (by omega) (by omega)) e
 .exact h i j hij (by omega)
def Dn.succ{p:Array Nat}{k:Nat}(h:Dn r p k)(hk:1<=k)(e:r (p.getD k 0)<r (p.getD (k-1) 0)):Dn r p (k+1):=λi j hij hj=>by
 by_cases z:j=k
 .subst z;by_cases y:i=j-1
  .subst y;exact e
  .exact Nat.lt_trans e (h i (j-1) (by omega) (by omega))
 .exact h i j hij (by omega)
end
end
section
open PySem.W (CodeHd tabObj)
structure Yz (mg:Str->Option Value) (base:Heap) (c Pt:Addr):Prop where
 code:CodeHd base c Pt
 bm:∃bm ob,mg "__builtins__"=some (.ref bm)/\bm≠builtinsNs/\base.get? bm=some ob/\ob.cls=.type "module"/\ob.dict=some builtinsNs/\ob.data=.plain
def VY(h:Heap)(mg:Str->Option Value)(x:Str)(c:Addr):Prop:=∃f o fd,mg x=some (.ref f)/\h.get? f=some o/\o.data=.func fd/\fd.code=.ref c
def K9{mb:Q5}{CX:Yi}{k:Nat}{fa:Addr}{s₁:Shared}(KX:K.In s₁.heap)(hns:s₁.heap.Ns mainGlobals mg)(hb:s₁.heap.Ns builtinsNs mb)(hbb:∀x:Str,x≠"__name__"->mb x=bootBuiltins x)(hlim:s₁.heap.NoLimit)(hg:s₁.gens=#[])(ha:s₁.heap.get? a=some {cls:=.type "list",data:=.seq vs.toArray})(hi:IntsAre vs ns)(hl:ns.length<=sizeLine)(hr:Z5 k callerA)(hC:CodeHd s₁.heap c Pt)(hP:s₁.heap.get? Pt=some (tabObj #[]))(hbm:∃bm ob,mg "__builtins__"=some (.ref bm)/\bm≠builtinsNs/\s₁.heap.get? bm=some ob/\ob.cls=.type "module"/\ob.dict=some builtinsNs/\ob.data=.plain)(hKP:K.lookup Pt=none)(F:∀base:Heap,K.In base->base.Ns mainGlobals mg->Yz mg base c Pt->Z4 P w K mg base CX k fa fd [x] sp)(hbind:∀(s:Shared) (u:Value),BindsTo s fd ⟨[u],[]⟩ [(x,u)])(hsp:∀H:Hp,H Pt=some (.tbl #[])->ZJ K H a (ns.map V.int)->sp [.ref a] H (λv _=>v=.bl true) λ_ _ _=>False)(hCX:∀H e s',CX [] H s₁ (λ_ _ _=>False) e s'->False):codeAny (model P w) callerA (.call (.ref fa) ⟨[.ref a],[]⟩) (λr s'=>r=.ok (.ret (.bool true))/\OldK s₁.heap s'.heap/\s'.os=s₁.os/\AllBare s'.gens) s₁:=by
 have rv:=uF hi
 have lenV:=hi.length
 have naP:a≠Pt:=λz=>by rw[z,hP]at ha;cases ha
 have core:∀ H:Hp,(∀ b,H b=none\/(∃ o xs,H b=some (.frz o (.lst xs)))\/b=Pt)->H Pt=some (.tbl #[])->ZJ K H a (ns.map V.int)->ZD P w H s₁.heap->(∀ b,H b≠none->b=a\/b=Pt)->(H a≠none->K.lookup a=none)->
     codeAny (model P w) callerA (.call (.ref fa) ⟨[.ref a],[]⟩) (λr s'=>r=.ok (.ret (.bool true))/\OldK s₁.heap s'.heap/\s'.os=s₁.os/\AllBare s'.gens) s₁:=by
  intro H hO hHP hS Z7 hA hK;have base_of:∀ {b:Addr} {o:Obj},s₁.heap.get? b=some o->H b=none->(sQ s₁.heap H).get? b=some o:=λe n=>Mi e n
  have noT:∀ {b:Addr} {o:Obj},s₁.heap.get? b=some o->(∀its n,o.data≠.seq its n)->(∀ps,o.cls=.none->o.data≠.fields ps)->H b=none:=fun {b o} e d d2=>by
   cases q:H b with
   |none=>rfl
   |some u=>
    rcases hA b (by rw[q];simp) with e'|e'
    .subst e';rw[ha]at e;cases e;exact absurd rfl (d _ _)
    .subst e';rw[hP]at e;cases e;exact absurd rfl (d2 _ rfl)
  have noA:∀ {b:Addr} {o:Obj} {es:Array DictEntry} {ep:Nat},s₁.heap.get? b=some o->o.data=.dict es ep->H b=none:=fun {b o es ep} e d=>noT e (λ_ _ z=>by rw[d]at z;cases z) λ_ _ z=>by rw[d]at z;cases z
  have nsK:∀ {b:Addr} {m:Q5},s₁.heap.Ns b m->(sQ s₁.heap H).Ns b m:=fun {b m} ⟨o,es,ep,e,d,r⟩=>⟨o,es,ep,base_of e (noA e d),d,r⟩
  have hKb:K.In (sQ s₁.heap H):=λb o e=>base_of (KX b o e) (by
   cases q:H b with
   |none=>rfl
   |some u=>
    rcases hA b (by rw[q];simp) with e'|e'
    .subst e';rw[hK (by rw[q];simp)]at e;cases e
    .subst e';rw[hKP]at e;cases e)
  have hM:Mod K mg (sQ s₁.heap H):=⟨hKb,nsK hns,⟨mb,nsK hb,hbb⟩,let ⟨mc,h1,h2⟩:=hlim;⟨mc,nsK h1,h2⟩⟩
  have hLB:Yz mg (sQ s₁.heap H) c Pt:=by
   refine⟨?_,?_⟩
   .obtain⟨o,vs,file,tf,flags,tg,inF,text,tt,e,ecl,eda,r⟩:=hC;exact⟨o,vs,file,tf,flags,tg,inF,text,tt,base_of e (noT e (λ_ _ z=>by rw[eda]at z;cases z) λ_ z=>by rw[ecl]at z;cases z),ecl,eda,r⟩
   .obtain⟨bm,ob,b1,b2,b3,b4,b5,b6⟩:=hbm;exact⟨bm,ob,b1,b2,base_of b3 (noT b3 (λ_ _ z=>by rw[b6]at z;cases z) λ_ z=>by rw[b4]at z;cases z),b4,b5,b6⟩
  have e0:Yj P w K mg (sQ s₁.heap H) callerA [] s₁ H:=⟨rfl,hM,λb o e=>Mf e,Nat.le_of_eq (J8 _ _),trivial,λb hb=>absurd (show b∈([]:List Addr) from hb) (by simp),Z7,.of_eq hg⟩
  refine Fy ((F _ hKb (nsK hns) hLB).run callerA [] s₁ H ⟨[.ref a],[]⟩ [.ref a] [.ref a] _ _ hr e0 (hbind s₁ (.ref a)) (.cons rfl .nil) (hsp H hHP hS)) λr s' h=>?_;cases r with
  |error e=>exact(hCX H e s' h).elim
  |ok fl=>
   cases fl with
   |next=>exact False.elim h
   |brk=>exact False.elim h
   |cont=>exact False.elim h
   |ret u=>
    obtain⟨v,H',os,bare,un,hok',r',q⟩:=h;have q':v=.bl true:=q
    subst q';obtain rfl:u=Value.bool true:=r';refine⟨rfl,⟨λb o e=>?_,λb o e=>?_⟩,os,bare⟩
    .cases q:H b with
     |none=>exact .inl (un.keep b o e q (by intro z;exact absurd (show b∈([]:List Addr) from z) (by simp)) (by simp))
     |some u=>
      rcases hO b with z|⟨ob,xs,z⟩|z
      .rw[q]at z;cases z
      .have z2:=un.frzs b ob _ z
       obtain⟨e1,_⟩:=Z7 b _ z;obtain⟨e2,_⟩:=hok' b _ z2;rw[e]at e1;cases e1;exact .inl e2
      .subst z;rw[hP]at e;cases e;obtain⟨more,z2⟩:=un.tbls b _ hHP;exact .inr (.inl ⟨(hC.tab hP).isCodeTable,rfl,#[],more,rfl,hok' b _ z2⟩)
    .exact un.there b o e (by simp)
 have tblOk:∀H:Hp,H Pt=some (.tbl #[])->Z3 P w H s₁.heap Pt (.tbl #[]):=λ_ _=>hP
 cases hk:K.lookup a with
 |some o=>
  have e:=KX a o hk
  rw[ha]at e;cases e;refine core (λb=>if b=Pt then some (.tbl #[]) else none) (λb=>?_) (if_pos rfl) (.inr ⟨_,vs.toArray,_,hk,rfl,rfl,rfl,by rw[List.size_toArray,lenV];exact hl,by simpa using rv⟩) (λb u z=>?_) (λb z=>?_) λz=>?_
  .by_cases hb:b=Pt
   .exact .inr (.inr hb)
   .exact .inl (if_neg hb)
  .by_cases hb:b=Pt
   .have z':=(if_pos hb).symm.trans z
    cases z';subst hb;exact hP
   .have z':=(if_neg hb).symm.trans z
    cases z'
  .by_cases hb:b=Pt
   .exact .inr hb
   .exact absurd (if_neg hb) z
  .exact absurd (if_neg naP) z
 |none=>
  refine core (λb=>if b=a then some (.frz {cls:=.type "list",data:=.seq vs.toArray} (.lst (ns.map V.int))) else if b=Pt then some (.tbl #[]) else none) (λb=>?_) ((if_neg naP.symm).trans (if_pos rfl)) (.inl (.inr ⟨{cls:=.type "list",data:=.seq vs.toArray},if_pos rfl⟩)) (λb u z=>?_) (λb z=>?_) λ_=>hk
  .by_cases hb:b=a
   .exact .inr (.inl ⟨_,_,if_pos hb⟩)
   .by_cases hb2:b=Pt
    .exact .inr (.inr hb2)
    .exact .inl ((if_neg hb).trans (if_neg hb2))
  .by_cases hb:b=a
   .have z':=(if_pos hb).symm.trans z
    cases z';subst hb;exact⟨ha,by rw[Ab];exact hl,vs,_,rv,ha⟩
   .by_cases hb2:b=Pt
    .have z':=((if_neg hb).trans (if_pos hb2)).symm.trans z
     cases z';subst hb2;exact hP
    .have z':=((if_neg hb).trans (if_neg hb2)).symm.trans z
     cases z'
  .by_cases hb:b=a
   .exact .inl hb
   .by_cases hb2:b=Pt
    .exact .inr hb2
    .exact absurd ((if_neg hb).trans (if_neg hb2)) z
def Mk{l:W.OpenLaw}{n k:Nat}{q:Program}{loose:List Str}{XP:(Q5)->Heap->Prop}{YP:World->Heap->Prop}{d d2:DefRec}{K:Params->W.Frag}{CX:World->Yi}{sp:World->Addr->Sp}(hn:l.most=some n)(hn2:n<=sizeLine)(hdf:d.params.defaults=[])(hr:Z5 k callerA)(hd2:d2∈recsOf q)(hno:∀w:World,W.noTabs (K w.params)=true)(hY:∀(w:World) (h:Heap),YP w h->(K w.params).In h)(F:∀(w:World) (mg:Q5) (fa:Addr) (h:Heap) (c Pt:Addr),(K w.params).In h->h.Ns mainGlobals mg->mg d.name=some (.ref fa)->VY h mg d2.name c->
 ∃fd:FuncData,(∀(s:Shared) (u:Value),BindsTo s fd ⟨[u],[]⟩ [(x,u)])/\
  ∀base:Heap,(K w.params).In base->base.Ns mainGlobals mg->Yz mg base c Pt->Z4 l.prog w (K w.params) mg base (CX w) k fa fd [x] (sp w Pt))(hsp:∀(w:World) (H:Hp) (a Pt:Addr) (ns:List Int),ns.length<=n->H Pt=some (.tbl #[])->ZJ (K w.params) H a (ns.map V.int)->sp w Pt [.ref a] H (λv _=>v=.bl true) λ_ _ _=>False)(hCX:∀(w:World) (H:Hp) (s:Shared) (e:Value) (s':Shared),CX w [] H s (λ_ _ _=>False) e s'->False):W.WalkO q loose XP YP l.row.toRowW d [] (λf vs=>PySem.call f vs):=by
 refine Att.Yu hn hdf λw s₀ s₁ mg mb fa o pm cd doc a vs ns G Y ho hd hcd hmg hobj hints hlen hg=>?_;have KX:=hY w _ Y
 obtain⟨a2,o2,fd2,c,Pt,t1,t2,t3,t4,t5,t6⟩:=G.T.tab d2 hd2;have hC:=CodeHd.of t5 t6
 have hP:s₁.heap.get? Pt=some (tabObj #[]):=t6.2
 have hKP:(K w.params).lookup Pt=none:=by
  cases e:(K w.params).lookup Pt with
  |none=>rfl
  |some o=>
   have h1:=KX _ _ e
   rw[hP]at h1;cases h1;have h2:=Ci.mp (hno w) (Pt,tabObj #[]) (W.mem_of_lookupK e)
   exact absurd (show false=true from h2) An
 obtain⟨fd,hb,hF⟩:=F w mg fa _ c Pt KX G.T.g hmg ⟨a2,o2,fd2,t1,t2,t3,t4⟩;exact K9 KX G.T.g G.T.b G.T.builtins G.T.nolimit hg hobj hints (Bd hlen hn2) hr hC hP G.T.bmain hKP hF hb (λH hO hS=>hsp w H a Pt ns hlen hO hS) λH e s'=>hCX w H s₁ e s'
def ZR.Qx{ps:List Str}{k:Nat}(F:ZR K x qual st f fd)(hc:fd.code=.ref c)(S:Z9 N ps (aJ st))(len:∀vs H Q E,sp vs H Q E->vs.length=ps.length)(hbody:∀(cdv:Value) (A:Around) (outer:List Env) (s:Shared) (H:Hp) (vs:List V) (Q:VK) (E:XK),cdv=.ref c->Z5 k (A.deeper (envOfC qual (aJ st) s.heap.objs.size f cdv))->sp vs H Q E->
 ∃t,YF (fQ ZO P w K mg base N qual (aJ st) f cdv A outer s H E).Xu (eT st) t/\t {nx:=λ_ H'=>Q .non H',rt:=Q} (iQ N vs) H):Z4 P w K mg base ZO (k+1) f fd ps sp:=by
 obtain⟨oc,od,kV,doc,pm,an,cdv,ct,osl,rfl,lk,hcd⟩:=F.ex;refine Ve lk hcd S len λA outer s H vs Q E hr hsp=>?_;obtain⟨t,h,q⟩:=hbody cdv A outer s H vs Q E hc hr hsp;exact⟨t,h.Xu,q⟩
def Nn{oc:Value}{od:Option Addr}{osl:Array (Option Value)}(T:VY h mg x c)(KX:K.In h)(hm:mg x=some (.ref f))(lk:K.lookup f=some ⟨oc,od,.func fd,osl⟩):fd.code=.ref c:=by
 obtain⟨f',o',fd',e1,e2,e3,e4⟩:=T;rw[hm]at e1;cases e1;have:=KX _ _ lk
 rw[e2]at this;cases this;cases e3;exact e4
end
section
open PySem.W (CodeHd tabObj kla_obj kla_fn envX)
def tM(c:Addr)(q:Str):HO:=.ext λh=>h.CodeRec (.ref c) q
def Ju{q:Str}(r:h.CodeRec (.ref c) q):Z3 P w H h c (tM c q):=by
 obtain⟨c2,oc,vs,t,e,ho,hd,hv⟩:=id r;cases e;refine⟨r,⟨oc,ho⟩,λh1 h2 r1 k=>?_⟩;obtain⟨c3,oc,vs,t,e,ho,hd,hv⟩:=r1;cases e;exact⟨_,oc,vs,t,rfl,k _ ho,hd,hv⟩
def Zk(Pt:Addr)(q:Str)(pos:Pos)(H:Hp):Prop:=H Pt=some (.tbl #[])\/∃c,H Pt=some (.tbl (#[]++#[rawInt pos.line,rawInt pos.col,.ref c]))/\H c=some (tM c q)
def ZY(Pt:Addr)(H H':Hp):Prop:=∀b o,b≠Pt->H b=some o->H' b=some o
def ZY.refl:ZY Pt H H:=λ_ _ _ e=>e
def ZY.trans{H2:Hp}(a:ZY Pt H H1)(b:ZY Pt H1 H2):ZY Pt H H2:=λc o n e=>b c o n (a c o n e)
def Z_.p(s:Z_ H H'):ZY Pt H H':=λb o _ e=>s b o e
def Zk.keep{q:Str}{H:Hp}(h:Zk Pt q pos H)(s:Z_ H H'):Zk Pt q pos H':=by
 rcases h with h|⟨c,h1,h2⟩
 .exact .inl (s _ _ h)
 .exact .inr ⟨c,s _ _ h1,s _ _ h2⟩
def Zk.tb{q:Str}(h:Zk Pt q pos H):∃ps,H Pt=some (.tbl ps):=by
 rcases h with h|⟨c,h1,h2⟩
 .exact⟨_,h⟩
 .exact⟨_,h1⟩
structure Yw (X:Cx) (N:List Str) (scope:Scope) (cl:List (Str×Addr)) (vals:St->St) (x:Str):Prop where
 clos:closureFor scope X.env=pure cl
 sub:∀y c,cl.lookup y=some c->X.env.cells.lookup y=some c
 has:∀y,(scope.names.lookup y=some .cell\/scope.names.lookup y=some .free)->∃c,cl.lookup y=some c
 len:∀U,(vals U).length+1=N.length
 par:N[0]?=some x/\scope.names.lookup x=some .local
 val:∀U (i:Nat) y v,N[i+1]?=some y->(vals U)[i]?=some (some v)->∃(j:Nat),X.N[j]?=some y/\U[j]?=some (some v)/\X.env.scope.names.lookup y=some .cell/\(∃c,cl.lookup y=some c)/\scope.names.lookup y=some .free
def Vh(ix:List Nat):St->St:=λU=>ix.map λj=>(U[j]?).join
def Ub(N XN:List Str)(sn dn:List (Str×NameKind))(ix:List Nat)(x:Str):Bool:=
 (ix.length+1==N.length)&&(N[0]? == some x)&&(sn.lookup x==some .local)&&(sn.all λy=>y.2 != .cell&&(y.2 != .free || dn.lookup y.1==some .cell)) &&
 ((List.range ix.length).all λi=>match ix[i]? with|some j=>N[i+1]? == XN[j]? && (match N[i+1]? with|some y=>sn.lookup y==some .free|none=>false)|_=>true)
def jE{k:α}:∀ {l:List (Str×α)},l.lookup x=some k->(x,k)∈l:=fun {l} h=>Cz h
def Lm(XN:List Str)(sc:Scope)(ix:List Nat)(hN:X.N=XN)(hsc:X.env.scope=sc)(hcell:∀x,sc.names.lookup x=some .cell->∃c,X.env.cells.lookup x=some c)(hchk:Ub N XN scope.names sc.names ix x=true):Yw X N scope (X_ X.env scope.names []) (Vh ix) x:=by
 unfold Ub at hchk;simp only[Bool.and_eq_true]at hchk;obtain⟨⟨⟨⟨h1,h2⟩,h3⟩,h4⟩,h5⟩:=hchk;have h4':=Ci.mp h4
 have fr:∀y,(y,NameKind.free)∈scope.names->∃c,X.env.cells.lookup y=some c:=λy hy=>by
  have:=h4' _ hy
  simp at this;exact hcell y this
 have hfree:∀y,scope.names.lookup y=some .free->∃c,(X_ X.env scope.names []).lookup y=some c:=λy hy=>Dm.mp (nL scope.names [] (jE hy))
 refine⟨?_,λy c e=>?_,λy hy=>?_,λU=>?_,⟨by simpa using h2,by simpa using h3⟩,λU i y v e1 e2=>?_⟩
 .unfold closureFor;exact(congrArg (· >>= λr=>pure r) (pW scope.names [] λy hy hk=>by obtain⟨n,k⟩:=y;cases (show k=.free from hk);exact fr n hy)).trans (by simp)
 .rcases qB scope.names [] e with z|⟨z,rfl⟩
  .cases z
  .obtain⟨c,hc⟩:=fr y z;rw[hc];rfl
 .rcases hy with hy|hy
  .have:=h4' _ (jE hy)
   simp at this
  .exact hfree y hy
 .unfold Vh;rw[Ab]
  simpa using h1
 .unfold Vh at e2;rw[Af]at e2;cases ej:ix[i]? with
  |none=>rw[ej]at e2;cases e2
  |some j=>
   rw[ej]at e2;have e2':(U[j]?).join=some v:=Bv e2
   have hi:i<ix.length:=(Ad.mp ej).1
   have h6:=Ci.mp h5 i (By.mpr hi)
   rw[ej]at h6;dsimp only at h6;rw[e1]at h6;simp at h6;have hsg:U[j]?=some (some v):=by
    cases q:U[j]? with
    |none=>rw[q]at e2';cases e2'
    |some o=>rw[q]at e2';exact Da some e2'
   have hdn:=h4' _ (jE h6.2)
   simp at hdn;exact⟨j,by rw[hN];exact h6.1.symm,hsg,by rw[hsc];exact hdn,hfree y h6.2,h6.2⟩
def VX(X:Cx)(A:Around)(N:List Str)(q:Str)(scope:Scope)(cl:List (Str×Addr))(f c:Addr)(s₀:Shared)(H₀:Hp):Cx where
 prog:=X.prog
 w:=X.w
 K:=X.K
 mg:=X.mg
 base:=X.base
 A:=A.deeper (envX q scope s₀.heap.objs.size f (.ref c) cl)
 N:=N
 s₀:=s₀
 H₀:=H₀
 env:=envX q scope s₀.heap.objs.size f (.ref c) cl
 outer:=X.stack
 stack:=envX q scope s₀.heap.objs.size f (.ref c) cl::X.stack
 ex:=[]
 fn:=λ_=>false
 calm:=true
 pn:=[]
 xe:=λ_ _=>False
section
variable {U:St} {q:Str} {vals:St->St} {c':Addr}
def Pr{h1:Heap}{t1:Nat}{v:Value}(I:Inv X y4 U H s)(ck:Yw X N scope cl vals x)(hA:A.frames=some X.stack)(hh:A.handled=none)(hkind:scope.kind=.function)(rv:RelV y v)(hns:h1.Ns s.heap.objs.size λz=>[(x,v)].reverse.lookup z)(hsb:Heap.SameBut s.heap.objs.size (s.heap.push {cls:=.type "frame",data:=.dict #[]}) h1):Inv (VX X A N q scope cl f c' s H) [] (some y::vals U) H {s with heap:=h1,toks:=t1}:=by
 have old:∀b o,s.heap.get? b=some o->h1.get? b=some o:=λb o e=>(hsb.2 b (Bj (As e))).trans (Ag _ e)
 have hC:H s.heap.objs.size=none:=I.Z7.fresh (Ai _)
 have noA:∀b:Addr,b∉(VX X A N q scope cl f c' s H).ex:=λb z=>absurd (show b∈([]:List Addr) from z) (by simp)
 refine⟨⟨I.ok.mod,hkind,rfl,rfl,Ai _,λy z c h1 h2=>I.ok.inj y z c (ck.sub y c h1) (ck.sub z c h2),ck.has,(λx c h=>nomatch h),λ_=>hh,Around.frames_deeper hA,.inr ⟨rfl,rfl⟩,λb z=>absurd z (noA b),
  I.bs,Nat.le_trans I.ok.Ya I.sz,λb _ _=>noA b,λb z=>absurd z (noA b),I.stack,I.Zd⟩,rfl,I.bare,Un.kept old,⟨_,hns,λi z v' e1 e2 _=>?_⟩,λy c e=>?_,hC,λy c e=>I.ZT y c (ck.sub y c e),λp hp=>absurd (show p∈([]:Q2) from hp) (by simp),I.Z7.kept old,?_⟩
 .cases i with
  |zero=>
   have e1':N[0]?=some z:=e1
   rw[ck.par.1]at e1';cases e1';cases e2;refine⟨v,rv,.inl ⟨ck.par.2,?_⟩⟩;show [(x,v)].lookup x=some v
   rw[Dx,Fn]
  |succ i=>
   obtain⟨j,h1,h2,h3,⟨c,h4⟩,h5⟩:=ck.val U i z v' e1 e2;obtain⟨m,hn,hl⟩:=I.loc;obtain⟨u,r,l⟩:=hl j z v' h1 h2 (.inr (.inl h3));refine⟨u,r,.inr ⟨.inr h5,c,h4,?_⟩⟩;rcases l with⟨z',_⟩|⟨_,c',e',z'⟩
   .have z2:X.env.scope.names.lookup z=some .local:=z'
    rw[h3]at z2;cases z2
   .rw[ck.sub z c h4]at e';cases e';obtain⟨o,ho,hd⟩:=z';exact⟨o,old _ o ho,hd⟩
 .obtain⟨v,o,ho,hd⟩:=I.cell y c (ck.sub y c e);exact⟨v,o,old _ o ho,hd⟩
 .show (some y::vals U).length=N.length
  rw[Av];exact ck.len U
def Oi{body:Expr}{pm ctv v:Value}{y:V}{tb:TE}(I:Inv X y4 U H s)(ck:Yw X N scope cl vals x)(hA:A.frames=some X.stack)(hh:A.handled=none)(hroom:A.depth<recursionLimit)(hf:s.heap.get? f=some (kla_obj "<lambda>" q params body scope cl pm c' ctv))(hcd:s.heap.CodeRec (.ref c') q)(hco:scope.isCoroutine=false)(hgen:scope.isGenerator=false)(hk:scope.kind=.function)(hcell:∀z∈scope.names,z.2≠.cell)(hbind:bindArgs (kla_fn "<lambda>" q params body scope cl pm (.ref c') ctv) ⟨[v],[]⟩=pure [(x,v)])(rv:RelV y v)(hb:PE (VX X A N q scope cl f c' s H) body tb)(h:tb (some y::vals U) H Q):codeAny (model X.prog X.w) A (.call (.ref f) ⟨[v],[]⟩) (λr s'=>match r with|.ok (.ret u)=>CE X.stack X.prog X.w H s Q u s'|_=>False) s:=by
 refine W.kla_callFunE hroom hf rfl hco hgen rfl hcd ?_;rw[hbind];refine Am (wpAny_newFunctionEnv hcell (λz hz=>by rw[Bc.mp hz];exact ck.par.2) (λh1 hns hsb=>⟨(I.nolimit).fresh _ hsb,?_⟩) hk)
 show codeAny _ _ (.expr body (envX q scope s.heap.objs.size f (.ref c') cl)) _ _
 refine W.kla_codeExpr ?_;have I1:=Pr (A:=A) (q:=q) (f:=f) (c':=c') (t1:=s.toks+[(x,v)].length) I ck hA hh hk rv hns hsb
 exact Ck (hb [] _ _ H _ I1 h) (λu s' ⟨v',H',J,r,q⟩=>⟨v',H',J.os,J.bare,J.base,J.Z7,r,q⟩) λe s' z=>z.elim
def Inv.table{ps more:Array Value}{t':Nat}(I:Inv X y4 U H s)(hP:H Pt=some (.tbl ps))(hx:Heap.ExtBut Pt s.heap h')(ht:h'.get? Pt=some (tabObj (ps++more))):Inv X y4 U (upd H Pt (.tbl (ps++more))) {s with heap:=h',toks:=t'}:=by
 have neP:∀b u,H b=some u->(∀z,u≠.tbl z)->b≠Pt:=λb u e n z=>by rw[z,hP]at e;cases e;exact n _ rfl
 have nn:∀b,H b=none->b≠Pt:=λb e z=>by rw[z,hP]at e;cases e
 refine I.un ⟨λb o e n _ _=>hx b o (nn b n) e,λb o e n _ _=>⟨o.slots,hx b o (nn b n) e⟩,λb o e n _=>by rw[aI (nn b n)];exact n,λb o e _=>?_,λb xs e=>by rw[aI (neP b _ e λ_=>nofun)];exact e,λb o u e=>by rw[aI (neP b _ e λ_=>nofun)];exact e,λb qs e=>?_⟩ λb u e=>?_
 .by_cases hb:b=Pt
  .exact⟨_,hb▸ht⟩
  .exact⟨o,hx b o hb e⟩
 .by_cases hb:b=Pt
  .subst hb;rw[hP]at e;cases e;exact⟨more,aD⟩
  .exact⟨#[],by rw[aI hb,e];simp⟩
 .by_cases hb:b=Pt
  .subst hb;rw[aD]at e;cases e;exact ht
  .rw[aI hb]at e;refine(I.Z7 b u e).ZE (λc v hc q=>hx c v ?_ q) (λc q=>by rw[aI (neP c _ q λ_=>nofun)];exact q) λc xs q=>by rw[aI (neP c _ q λ_=>nofun)];exact q
   rcases hc with z|z
   .rw[z];exact hb
   .exact neP c _ z λ_=>nofun
def Inv.Vl(I:Inv X y4 U H s)(h:b∈X.fs):b<s.heap.objs.size:=by
 obtain⟨_,o',g',_⟩:=I.ok.ZA.mem h;exact Bb (As g') I.sz
def WH(f:Addr)(o:Obj):HO:=.ext λh=>h.get? f=some o
def Sz(e:h.get? f=some o):Z3 P w H h f (WH f o):=⟨e,⟨o,e⟩,λh1 h2 e1 k=>k o e1⟩
def Pp(Pt:Addr)(q:Str)(params:Arguments)(body:Expr)(scope:Scope)(cl:List (Str×Addr))(pos:Pos):TE:=λU H Q=>Zk Pt q pos H/\∀f c' pm ctv H',ZY Pt H H'->Zk Pt q pos H'->H' c'=some (tM c' q)->H' f=some (WH f (kla_obj "<lambda>" q params body scope cl pm c' ctv))->Q (.ref f) H'
def NM{body:Expr}(ck:Yw X N scope cl vals x)(hcode:X.env.code=.ref c)(LB:Yz X.mg X.base c Pt)(hdef:defaultsOf params X.env=([],[])):PE X (.Lambda params body scope pos) (Pp Pt (X.env.qual ++ "<lambda>") params body scope cl pos):=by
 intro y4 s U H Q I hT;obtain⟨T,h⟩:=hT;refine W.kla_eval hdef ?_;generalize X.env.qual ++ "<lambda>"=q at T h ⊢;have hg:s.heap.Ns mainGlobals X.mg:=I.mod.glob.keeps I.bk
 obtain⟨ps0,hHP⟩:=T.tb;have hPs:s.heap.get? Pt=some (tabObj ps0):=I.Z7 Pt _ hHP
 obtain⟨bm,ob,b1,b2,b3,b4,b5,b6⟩:=LB.bm;have hbG:bm≠mainGlobals:=λz=>by
  obtain⟨o,es,ep,e,hd,_⟩:=I.mod.glob;rw[z,e]at b3;cases b3;rw[hd]at b6;cases b6
 have hbP:bm≠Pt:=λz=>by
  have:=(I.bs _ _ b3).2
  rw[z,hHP]at this;cases this
 have hgP:mainGlobals≠Pt:=λz=>by
  obtain⟨o,es,ep,e,hd,_⟩:=I.mod.glob;have:=(I.bs _ _ e).2
  rw[z,hHP]at this;cases this
 have hB:s.heap.BuiltinsAt X.mg Pt:=⟨bm,ob,b1,b2,hbG,hbP,I.bk _ _ b3,b4,b5,b6⟩
 have hPlt:Pt<s.heap.objs.size:=As hPs
 rcases T with T|⟨c',T,Tc⟩
 .have hP0:s.heap.get? Pt=some (tabObj #[]):=I.Z7 Pt _ T
  refine W.kla_makeFunction ck.clos I.ok.glob hg hcode (LB.code.keeps I.bk) hP0 trivial rfl hgP hB λc' ctv h' tk hx hge hlt hrec htb=>?_;have I1:=I.table (t':=tk) T hx htb
  have hle:s.heap.objs.size<=h'.objs.size:=Bd hge (Fa hlt)
  have nc:c'≠Pt:=Fx (Bb hPlt hge)
  have hcn:(upd H Pt (.tbl (#[]++#[rawInt pos.line,rawInt pos.col,.ref c']))) c'=none:=by rw[aI nc];exact I.Z7.fresh hge
  have fr:=I.Y2 hge
  have I2:=I1.adopt (a:=c') (o:=tM c' q) ⟨fr.s0,fr.loc,fr.cell,fr.pin⟩ hcn (Ju hrec)
  have I3:=I2.kept (t':=tk) (h':=h'.push (kla_obj "<lambda>" q params body scope cl ((X.mg "__name__").getD .none) c' ctv)) λb u e=>Ag _ e
  have nfP:h'.objs.size≠Pt:=Fx (Bb hPlt hle)
  have nfc:h'.objs.size≠c':=Fx hlt
  have ff:=I.Y2 hle
  have hfn:(upd (upd H Pt (.tbl (#[]++#[rawInt pos.line,rawInt pos.col,.ref c']))) c' (tM c' q)) h'.objs.size=none:=by
   rw[aI nfc,aI nfP];exact I.Z7.fresh hle
  have I4:=I3.adopt (a:=h'.objs.size) (o:=WH h'.objs.size (kla_obj "<lambda>" q params body scope cl ((X.mg "__name__").getD .none) c' ctv)) ⟨ff.s0,ff.loc,ff.cell,ff.pin⟩ hfn (Sz (Ax _ rfl))
  refine⟨.ref h'.objs.size,_,I4,rfl,h h'.objs.size c' ((X.mg "__name__").getD .none) ctv _ (λb o n e=>?_) (.inr ⟨c',?_,?_⟩) ?_ aD⟩
  .rw[aI (λz=>by rw[z,I.Z7.fresh hle]at e;cases e),aI (λz=>by rw[z,I.Z7.fresh hge]at e;cases e),aI n]
   exact e
  .rw[aI nfP.symm,aI nc.symm];exact aD
  .rw[aI nfc.symm];exact aD
  .rw[aI nfc.symm];exact aD
 .have hP0:s.heap.get? Pt=some (tabObj (#[]++#[rawInt pos.line,rawInt pos.col,.ref c'])):=I.Z7 Pt _ T
  refine W.kla_makeFunctionHit (cv:=.ref c') ck.clos I.ok.glob hg hcode (LB.code.keeps I.bk) hP0 trivial (codeAmong_snoc [] trivial rfl) hB λctv h' tk hk hsz=>?_;have I3:=I.kept (t':=tk) (h':=h'.push (kla_obj "<lambda>" q params body scope cl ((X.mg "__name__").getD .none) c' ctv)) λb u e=>Ag _ (hk b u e)
  have ff:=I.Y2 hsz
  have hfn:=I.Z7.fresh hsz
  have I4:=I3.adopt (a:=h'.objs.size) (o:=WH h'.objs.size (kla_obj "<lambda>" q params body scope cl ((X.mg "__name__").getD .none) c' ctv)) ⟨ff.s0,ff.loc,ff.cell,ff.pin⟩ hfn (Sz (Ax _ rfl))
  have sm:=aF hfn (WH h'.objs.size (kla_obj "<lambda>" q params body scope cl ((X.mg "__name__").getD .none) c' ctv))
  exact⟨.ref h'.objs.size,_,I4,rfl,h h'.objs.size c' ((X.mg "__name__").getD .none) ctv _ (Z_.p sm) (Zk.keep (.inr ⟨c',T,Tc⟩) sm) (sm _ _ Tc) aD⟩
end
end
section
open PySem.W (CodeHd tabObj kla_obj kla_fn envX)
section
variable {G:Shared->Prop} {val:Nat->Int} {Q:Q0}
end
section
variable {U:St}
def Inv.Xt{t':Nat}(I:Inv X y4 U H s)(k:∀c o,c≠a->c≠b->s.heap.get? c=some o->h'.get? c=some o)(fa:WB X y4 a)(fb:WB X y4 b)(na:H a=none)(nb:H b=none)(ha:X.s₀.heap.objs.size<=a)(hb:X.s₀.heap.objs.size<=b):Inv X y4 U H {s with heap:=h',toks:=t'}:=by
 have nit:∀c u,H c=some u->c≠a/\c≠b:=λc u e=>⟨(λz=>by rw[z,na]at e;cases e),(λz=>by rw[z,nb]at e;cases e)⟩
 have nch:∀ {c},c∉[a,b]->c≠a/\c≠b:=fun {c} h=>⟨λz=>h (by simp[z]),λz=>h (by simp[z])⟩
 refine I.step (g':=s.gens) (d':=s.drawn) (ch:=[a,b]) (λc hc=>?_) (λc o _ _ hc e _=>k c o (nch hc).1 (nch hc).2 e) (λc o _ _ hc e _=>⟨o.slots,k c o (nch hc).1 (nch hc).2 e⟩) (λ_ _ _ _ n=>n)
  (λc o hc e=>⟨o,k c o (nch hc).1 (nch hc).2 e⟩) (λ_ _ e=>e) (λ_ _ _ e=>e) (λb ps e=>⟨#[],by rw[e];simp⟩) (λm hm=>?_) (λc u e=>?_) I.bare
 .simp only[List.mem_cons,List.not_mem_nil,or_false]at hc;rcases hc with rfl|rfl
  .exact⟨.inr ha,fa.loc,fa.cell,fa.pin⟩
  .exact⟨.inr hb,fb.loc,fb.cell,fb.pin⟩
 .obtain⟨o,es,ep,ho,r⟩:=hm;exact⟨o,es,ep,k _ o fa.loc.symm fb.loc.symm ho,r⟩
 .refine(I.Z7 c u e).ZE (λd v hd q=>k d v ?_ ?_ q) (λ_ q=>q) λ_ _ q=>q
  .rcases hd with z|z
   .rw[z];exact(nit c u e).1
   .exact(nit d _ z).1
  .rcases hd with z|z
   .rw[z];exact(nit c u e).2
   .exact(nit d _ z).2
end
def yH(s:ZY Pt H H')(h:Z8 H a=some xs)(hP:∃ps,H Pt=some (.tbl ps)):Z8 H' a=some xs:=by
 have na:a≠Pt:=λz=>by
  obtain⟨ps,e⟩:=hP;unfold Z8 at h;rw[z,e]at h;cases h
 unfold Z8 at h ⊢;cases e:H a with
 |none=>rw[e]at h;cases h
 |some o=>rw[s a o na e];rw[e]at h;exact h
def MC{k:Nat}(r:Z5 k A):A.depth+3<recursionLimit:=by have:=r.dp;omega
end
def aO(i:Nat){pos':Pos}(hN:X.N.Nodup)(he:PE X e te)(hi:X.N[i]?=some x:=by rfl)(hx:Loc X.env.scope x:=by first|exact Or.inl rfl|exact Or.inr rfl)(hs:swapsWith e (some (.Name x pos')) pos.line X.env=pure false:=by rfl)(hf:X.fn x=true\/X.env.scope.names.lookup x=some .local:=by first|exact Or.inl rfl|exact Or.inr rfl):PS X (.Assign [.Name x pos'] e pos) (V5 te (pM i)):=UP hN hi hx he hs hf
section
open PySem.W (KasT kas_sort kas_cmp kas_item kas_range kas_runs kas_st)
def oY(ks vs:List Value):Array Keyed:=ks.toArray.zip vs.toArray
def oC(hl:ks.length=vs.length):(oY ks vs).size=vs.length:=by
 unfold oY;rw[Array.size_zip,Ay,Ay,hl,Nat.min_self]
def oB(hl:ks.length=vs.length)(i:Nat):kas_item (oY ks vs) i=(ks.getD i .none,vs.getD i .none):=by
 unfold kas_item;by_cases h:i<vs.length
 .have h1:i<(oY ks vs).size:=by rw[oC hl];exact h
  have h2:i<ks.length:=by omega
  rw[Array.getD,dif_pos h1];unfold oY;simp[List.getD_eq_getElem?_getD,h,h2]
 .have h1:¬i<(oY ks vs).size:=by rw[oC hl];exact h
  have h2:¬i<ks.length:=by omega
  rw[Array.getD,dif_neg h1,Ac,Ac,Ei (by omega),Ei (by omega)]
  rfl
def Ls(hl:ks.length=vs.length)(p:Array Nat):(p.map (kas_item (oY ks vs))).map (·.2)=(p.toList.map λi=>vs.getD i .none).toArray:=by
 refine Array.toList_inj.mp ?_;rw[Array.toList_map,Array.toList_map,Bu];refine Bw λi _=>?_;show (kas_item (oY ks vs) i).2=_
 rw[oB hl]
def Qd(hl:ks.length=vs.length):(oY ks vs).map (·.2)=vs.toArray:=by
 refine Array.toList_inj.mp ?_;unfold oY;rw[Array.toList_map];simp[List.map_snd_zip,hl]
def zY{κ:SortKind}{lt:Nat->Nat->Bool}{kS:Addr}{e e1:Nat}{P:PySem.Fin->Shared->Prop}(ga:s.heap.get? a=some (seqObj "list" #[] e1))(gk:s.heap.get? kS=some (seqObj "list" ks.toArray e))(nak:kS≠a)(hl:ks.length=vs.length)(h64:vs.length<64)(hkind:2<=vs.length->∀(Q':SortKind->Shared->Prop) (E':Q0),Q' κ s->wpAny (model prog w) A (keyKind' ks.toArray) Q' E' s)(hlt:∀i j (C:Bool->Shared->Prop),i<vs.length->j<vs.length->C (lt i j) s->wpAny (model prog w) A (keyLt' κ (ks.getD i .none) (ks.getD j .none)) C (λ_ _=>False) s)(Z7:2<=vs.length->WG lt vs.length (kas_sort vs.length)=true)(h:∀h' c,(∀b o,b≠a->b≠kS->s.heap.get? b=some o->h'.get? b=some o)->h'.get? a=some (seqObj "list" (gS lt vs).toArray c)->P (.done (.ret .none)) {s with heap:=h'}):wpAny (model prog w) A (ksk_end a false vs.toArray e1 (.ref kS) ks.toArray) P E s:=by
 have zz:∀out:Array Value,out.size<=64->out.size<=sizeLine+1:=λout q=>Nat.le_succ_of_le (Fa (aY (by omega)))
 have zk:ks.toArray.size<=sizeLine:=by rw[Ay];exact Fa (aY (by omega))
 -- what stands behind the sorting
 have fin:∀st:SortSt,(arrOf st).map (·.2)=(gS lt vs).toArray->(gS lt vs).length<=64->failedOf st=none->wpAny (model prog w) A (ksk_tail a false e1 (.ref kS) st) P E s:=λst out ol hf=>by
  have s1:=Ed s.heap kS (Obj.mapSeq λ_=>(#[]:Array Value))
  have ga1:=(s1.2 a (Ne.symm nak)).trans ga
  have s2:=Ed (s.heap.update kS (Obj.mapSeq λ_=>(#[]:Array Value))) a (Obj.mapSeq λ_=>(gS lt vs).toArray)
  have ga2:=get?_update_seq ga1 λ_=>(gS lt vs).toArray
  unfold ksk_tail;dsimp only;refine Ae (listUpdate_at gk rfl (Ae (Ho (Ae (seqEpoch_at ga1 rfl (Ae ?_))))) zk (Cs _));rw[out];simp only[Bool.false_eq_true,if_false];refine listUpdate_at ga1 rfl ?_ (Cs _) (zz _ (by rw[Ay];exact ol))
  rw[hf];simp only[bne_self_eq_false,Bool.false_eq_true,if_false];exact Am (h _ _ (λb o n1 n2 e=>(s2.2 b n1).trans ((s1.2 b n2).trans e)) ga2)
 unfold ksk_end;dsimp only;simp only[Bool.false_eq_true,if_false,List.size_toArray];by_cases h2:vs.length<2
 .simp only[if_pos h2];refine Ae (Am (Ae (Hn (StateT.run_pure ..) ?_)));refine fin _ ?_ (by rw[show gS lt vs=vs from if_pos h2];omega) rfl
  rw[show gS lt vs=vs from if_pos h2];exact Qd hl
 .have h2':2<=vs.length:=Nat.le_of_not_lt h2
  simp only[if_neg h2];refine Ae (hkind h2' _ _ ?_);have iQ:SortSt.mk' κ (ks.toArray.zip vs.toArray) #[] 7 none=kas_st κ (oY ks vs) (List.toArray (List.range vs.length)):=by
   have e:=kas_range (oY ks vs)
   rw[oC hl]at e;exact Da (λx=>SortSt.mk' κ x #[] 7 none) e.symm
  rw[iQ];refine Ae (Ck (kas_runs (Q:=λ_ st s'=>∃p:Array Nat,p.size=vs.length/\p=W_ lt (kas_sort vs.length)/\arrOf st=p.map (kas_item (oY ks vs))/\failedOf st=none/\s'=s) (G:=λp s'=>s'=s/\p=W_ lt (kas_sort vs.length))
   h2' h64 (λp st s' x1 x2 x3 x4=>⟨p,x1,x4.2,x2,x3,x4.1⟩) (wW (lt:=lt) (n:=vs.length) (λi j C hi hj hC=>?_) _ (Z7 h2') ⟨rfl,rfl⟩)) ?_ λ_ _ e=>e)
  .unfold kas_cmp;rw[oB hl,oB hl];exact hlt i j C hi hj hC
  rintro⟨_,st⟩ _ ⟨p,x1,x2,x3,x4,rfl⟩;obtain⟨y1,y2⟩:=L7 h2 x2 x1;exact fin st (by rw[x3,Ls hl,y2]) (by rw[y1];omega) x4
def Of{κ:SortKind}{lt:Nat->Nat->Bool}{G:List Value->Shared->Prop}{Q:Q0}(hl:s.heap.IsList l its.toArray)(h64:its.length<64)(hG0:∀h' tk,(∀b o,s.heap.get? b=some o->h'.get? b=some o)->G [] {s with heap:=h',toks:=tk})(hG:∀ks (s1:Shared) h',G ks s1->(∀b o,b≠s.heap.objs.size+1->b≠s.heap.objs.size+3->s1.heap.get? b=some o->h'.get? b=some o)->G ks {s1 with heap:=h'})(hcall:∀(i:Nat) v ks (s1:Shared) (Q:Q0) (E:Q0),its[i]?=some v->ks.length=i->G ks s1->(∃xs c,s1.heap.get? (s.heap.objs.size+1)=some (seqObj "list" xs c))->(∃xs c,s1.heap.get? (s.heap.objs.size+3)=some (seqObj "list" xs c))->(∀k s',G (ks++[k]) s'->(∀b o,(b=s.heap.objs.size+1\/b=s.heap.objs.size+3)->s1.heap.get? b=some o->s'.heap.get? b=some o)->Q k s')->wpAny (model prog w) A.in1.in1 (call (.ref f) [v]) Q E s1)(hkind:∀ks (s1:Shared) (Q':SortKind->Shared->Prop) (E':Q0),ks.length=its.length->G ks s1->2<=its.length->Q' κ s1->wpAny (model prog w) A.in1.in1 (keyKind' ks.toArray) Q' E' s1)(hlt:∀ks (s1:Shared) i j (C:Bool->Shared->Prop),ks.length=its.length->G ks s1->i<its.length->j<its.length->C (lt i j) s1->wpAny (model prog w) A.in1.in1 (keyLt' κ (ks.getD i .none) (ks.getD j .none)) C (λ_ _=>False) s1)(Z7:2<=its.length->WG lt its.length (kas_sort its.length)=true)(hQ:∀ks (s1:Shared) c,G ks s1->s1.heap.get? (s.heap.objs.size+1)=some (seqObj "list" (gS lt its).toArray c)->Q (.ref (s.heap.objs.size+1)) s1):wpAny (model prog w) A (call (.builtin "sorted") [.ref l] [(Str.ofString "key",.ref f)]) Q E s:=by
 have z:its.length<=sizeLine:=Fa (aY (by omega))
 refine call_function_entry_kw kind_sorted plain_sorted entry_sorted (ksk_s1 _ _) ?_;unfold Builtin.«sorted»;refine Ae (m:=checkCount "sorted" 1 1 _) (Am (Ae (collect_list hl (Ae (wpAny_newList ?_ z)) z)));rw[oX];change wpAny _ _ _ _ _ {s with heap:=wK s.heap its}
 have hn:=OP s.heap its
 have ho:∀b o,s.heap.get? b=some o->(wK s.heap its).get? b=some o/\b≠s.heap.objs.size+1:=λb o e=>NA e
 have hsz:(wK s.heap its).objs.size=s.heap.objs.size+2:=by
  unfold wK;rw[size_push',oX]
 generalize wK s.heap its=h1 at *;refine Ae (Cf (wpAny_call_entry_kw slot_list_sort ⟨_,hn,rfl⟩ entry_list_sort ?_ (ksk_l1 _ _)));show wpAny (model prog w) A.in1.in1 (Builtin.«list.sort» ⟨[.ref (s.heap.objs.size+1)],[(Str.ofString "key",.ref f)]⟩) _ _ _
 rw[ksk_t1];generalize ea:s.heap.objs.size+1=a at *;obtain⟨c,e1,e6⟩:=Pz hn;unfold ksk_tree;refine Ae (listItems_at hn rfl (Ae (listUpdate_at hn rfl (Ae (seqEpoch_at e1 rfl (Ae (wpAny_newTuple (Ae (wpAny_newList (Cf ?_) (Cs _))) z)))) z (Cs _))));have hsz2:((h1.update a (Obj.mapSeq λ_=>(#[]:Array Value))).push (seqObj "tuple" its.toArray 0)).objs.size=s.heap.objs.size+3:=by rw[size_push',Heap.size_update,hsz]
 change wpAny (model prog w) A.in1.in1 (ksk_rest a (.ref f) false its.toArray c (.ref ((h1.update a (Obj.mapSeq λ_=>(#[]:Array Value))).push (seqObj "tuple" its.toArray 0)).objs.size)) _ _ {s with heap:=W2 h1 a its}
 rw[hsz2];have gk:(W2 h1 a its).get? (s.heap.objs.size+3)=some (seqObj "list" #[] 0):=by
  unfold W2;rw[<-hsz2];exact Ax _ rfl
 have old:∀b o,s.heap.get? b=some o->(W2 h1 a its).get? b=some o:=λb o e=>NG (ho b o e).2 (ho b o e).1
 generalize W2 h1 a its=hm at *;have nk:s.heap.objs.size+3≠a:=by omega
 unfold ksk_rest;refine Ae (wpAny_rule ?_);rw[List.forIn_toArray];refine Ae (ksk_fold (λi s'=>∃ks e,ks.length=i/\G ks s'/\s'.heap.get? a=some (seqObj "list" #[] c)/\s'.heap.get? (s.heap.objs.size+3)=some (seqObj "list" ks.toArray e)) its 0 _
  ⟨[],0,rfl,hG0 hm s.toks old,e6,gk⟩ ?_ ?_)
 .rintro j x s1 hx ⟨ks,e,hk,g,ha,hs⟩;rw[Hi]at hk;have hj:j<its.length:=(Ad.mp hx).1
  refine Ae (wpAny_attempt (hcall j x ks s1 _ _ hx hk g ⟨_,_,ha⟩ ⟨_,_,hs⟩ λk s2 g2 keep=>?_));have ha2:=keep _ _ (.inl rfl) ha
  have hs2:=keep _ _ (.inr rfl) hs
  dsimp only;have u1:=Ed s2.heap (s.heap.objs.size+3) (Obj.mapSeq (·.push k))
  refine Ae (listUpdate_at hs2 rfl ?_ (by rw[Ay];exact Fa (aY (by omega))) (by rw[Array.size_push,Ay];exact Nat.le_succ_of_le (Fa (aY (by omega)))))
  have hc2:=get?_update_seq hs2 (·.push k)
  rw[show ks.toArray.push k=(ks++[k]).toArray by simp]at hc2
  exact Am ⟨rfl,ks++[k],_,by rw[Ak,hk,Hi];rfl,hG _ s2 _ g2 (λb o n1 n2 e=>(u1.2 b n2).trans e),(u1.2 a nk.symm).trans ha2,hc2⟩
 .rintro s1 ⟨ks,e,hk,g,ha,hs⟩;rw[Hi]at hk;refine Ae (listItems_at hs rfl ?_);refine zY (κ:=κ) (lt:=lt) ha hs nk hk h64 (λh2 Q' E' q=>hkind ks s1 Q' E' hk g h2 q) (λi j C hi hj q=>hlt ks s1 i j C hk g hi hj q) Z7 (λh' c' keep hq=>⟨_,rfl,Am ⟨_,rfl,hQ ks _ c' (hG ks s1 h' g λb o n1 n2 e=>keep b o n1 n2 e) hq⟩⟩)
end
section
open PySem.W (KasT kas_sort KatTups kat_kind kat_lt kat_cons kat_yes kat_no kat_nil kat_one CodeHd tabObj kla_obj kla_fn envX)
def xU:∀ {vs:List Value} {k m:List Int},IntsAre vs k->IntsAre vs m->k=m
 |_,_,_,.nil,h=>by cases h;rfl
 |_,_,_,.cons n t h,g=>by
  cases g with
  |cons n' t' g=>rw[xU h g]
def uG{p:Addr}{ip iq:List Value}{k ks:List Int}(lp:s.heap.IsList p ip.toArray)(lq:s.heap.IsList q iq.toArray)(gp:IntsAre ip k)(gq:IntsAre iq ks)(hu:A.units+1<cLine):SeqAt.EqAt A s (.ref p) (.ref q) (decide (k=ks)):=by
 by_cases e:p=q
 .subst e;obtain⟨o,g1,_,n1,d1⟩:=lp;obtain⟨o',g2,_,n2,d2⟩:=lq;rw[g1]at g2;cases g2;rw[d1]at d2;have e2:ip.toArray=iq.toArray:=by injection d2
  have e3:ip=iq:=by simpa using e2
  subst e3;rw[xU gp gq,Ap rfl];exact Gb _
 .have g1:=eX gp
  have g2:=eX gq
  refine Gv e ?_;by_cases hk:k.length=ks.length
  .rw [<-wZ hk];have:=SeqAt.RcAt.lists (A:=A) (s:=s) (e:=λj=>k.getD j 0 == ks.getD j 0) lp lq (by simp only [List.size_toArray]; omega) (show A.units<cLine by omega) (λj h1 h2=>by
    have h1':j<ip.length:=by simpa using h1
    have h2':j<iq.length:=by simpa using h2
    have k1:j<k.length:=by omega
    have k2:j<ks.length:=by omega
    obtain⟨t1,e1⟩:=g1.2 (Aa k1);obtain⟨t2,e2⟩:=g2.2 (Aa k2);rw[Aa h1']at e1;rw[Aa h2']at e2;have e1':ip.toArray[j]=.int (k.getD j 0) t1:=by
     rw[Ac,Aa k1]
     simpa using Option.some.inj e1
    have e2':iq.toArray[j]=.int (ks.getD j 0) t2:=by
     rw[Ac,Aa k2]
     simpa using Option.some.inj e2
    rw[e1',e2'];exact Dv _ t1 _ t2)
   rw[show ip.toArray.size=k.length by simp only[List.size_toArray];exact g1.1]at this
   exact this
  .rw[Al λz=>hk (by rw[z])]
   exact SeqAt.RcAt.lists_lengths lp lq (by simp only[List.size_toArray,bne_iff_ne];omega) (show A.units<cLine by omega)
def Wa(h:Heap)(v:Value)(k:List Int):Prop:=∃(x b:Addr) (t:Tok) (ib:List Value),v=.ref x/\h.IsTuple x #[.int (k.length:Int) t,.ref b]/\h.IsList b ib.toArray/\IntsAre ib k
def vU(k m:List Int):Bool:=decide (k.length<m.length) || (decide (k.length=m.length)&&ltZ k m)
def T8:∀k:List Int,ltZ k k=false
 |[]=>rfl
 |a::r=>by
  unfold ltZ;have:=T8 r
  simp[this]
def Kg{x y:Value}{k:List Int}{Q:Bool->Shared->Prop}(hx:Wa s.heap x k)(hy:Wa s.heap y m)(hu:A.units+4<cLine)(h:Q (vU k m) s):wpAny (model prog w) A (keyLt' (tuples' true) x y) Q E s:=by
 obtain⟨x,b,t1,ib,rfl,⟨ox,gx,_,nx,dx⟩,lb,kb⟩:=hx;obtain⟨y,c,t2,ic,rfl,⟨oy,gy,_,ny,dy⟩,lc,kc⟩:=hy;refine kat_lt gx dx gy dy (kat_cons (wpAny_eqBool_int ?_));by_cases e:k.length=m.length
 .rw[show (((k.length:Nat):Int)==((m.length:Nat):Int))=true by rw[Gw];omega]
  refine kat_yes (kat_cons (uG lb lc kb kc (by omega) prog w _ _ ?_))
  have e3:vU k m=ltZ k m:=by
   unfold vU;rw[Al (by omega),Ap e]
   rfl
  rw[e3]at h;by_cases g:k=m
  .rw[Ap g];refine kat_yes (kat_nil ?_);rw[g,T8]at h;exact h
  .rw[Al g];refine kat_no (kat_one _ _ (show wpAny _ _ (richCompare .Lt _ _) _ _ s from ?_));exact MM lb lc (by simpa using kb) (by simpa using kc) (by omega) h
 .rw[show (((k.length:Nat):Int)==((m.length:Nat):Int))=false by rw[Ea];omega]
  refine kat_no (oneLt_int ?_);have e2:vU k m=decide (((k.length:Nat):Int)<((m.length:Nat):Int)):=by
   unfold vU;rw[Al e,Bool.false_and,Bool.or_false];exact Cj.mpr ⟨λz=>by omega,λz=>by omega⟩
  rw[e2]at h;exact h
def TK:∀ {vs:List Value},(∀v∈vs,∃k,Wa h v k)->∃fs,KatTups h vs fs/\fs.length=vs.length/\∀f∈fs,∃i t,f=Value.int i t
 |[],_=>⟨[],KatTups.nil,rfl,λf hf=>nomatch hf⟩
 |v::r,hv=>by
  obtain⟨fs,h1,h2,h3⟩:=TK (vs:=r) λx hx=>hv x (Ao _ hx);obtain⟨k,x,b,t,ib,rfl,⟨o,g,c,n,d⟩,_⟩:=hv _ Aq;refine⟨.int (k.length:Int) t::fs,KatTups.cons g c d rfl h1,by rw[Av,Av,h2],λf hf=>?_⟩
  rcases Az.mp hf with z|z
  .exact⟨_,_,z⟩
  .exact h3 f z
def Mj{Q:SortKind->Shared->Prop}(hv:∀v∈vs,∃k,Wa s.heap v k)(hn:0<vs.length)(h:Q (tuples' true) s):wpAny (model prog w) A (keyKind' vs.toArray) Q E s:=by
 obtain⟨fs,h1,h2,h3⟩:=TK hv;refine kat_kind (T:=.type "int") h1 (by omega) (λv hv'=>?_) (by decide) h
 obtain⟨i,t,rfl⟩:=h3 v hv';exact .now
end
section
open PySem.W (KasT kas_sort CodeHd tabObj kla_obj kla_fn envX)
def WV(ks:List (List Int))(i j:Nat):Bool:=vU (ks.getD i []) (ks.getD j [])
def lH(ks:List (List Int)):List Nat:=if ks.length<2 then List.range ks.length else (W_ (WV ks) (kas_sort ks.length)).toList
def zQ(ks:List (List Int)):Bool:=(decide (ks.length<2) || WG (WV ks) ks.length (kas_sort ks.length))&&(lH ks).all (λi=>decide (i<ks.length))&&decide ((lH ks).length<=64)
def yM{ks:List (List Int)}(hl:ps.length=ks.length)(hi:∀i∈lH ks,i<ks.length):gS (WV ks) (ps.map Value.ref)=(lH ks).map λi=>Value.ref (ps.getD i 0):=by
 unfold gS lH;unfold lH at hi;rw[Ab,hl];by_cases h2:ks.length<2
 .rw[if_pos h2,if_pos h2];apply List.ext_getElem?
  intro i;by_cases h:i<ps.length
  .simp[h,<-hl]
  .rw[Ei (by rw[Ab];omega),Ei (by rw[Ab,Bm];omega)]
 .rw[if_neg h2,if_neg h2];rw[if_neg h2]at hi;refine Bw λi m=>?_;have h:=hi i m
  have h':i<ps.length:=by omega
  simp[List.getD_eq_getElem?_getD,h']
def xW(Pt:Addr)(q:Str)(lpos:Pos)(tb:TE)(vals:St->St)(ta:TA):TE:=λU H Q=>ta U H λxs H1=>∃(p:Addr) (ps:List Addr) (ks:List (List Int)),xs=[.ref p]/\Z8 H1 p=some (ps.map V.ref)/\ps.length=ks.length/\(∀(i:Nat) r k,ps[i]?=some r->ks[i]?=some k->Z8 H1 r=some (k.map V.int))/\ps.length<64/\zQ ks=true/\Zk Pt q lpos H1/\
 (∀H2,(∀a zs,Z8 H1 a=some zs->Z8 H2 a=some zs)->∀(i:Nat) r k,ps[i]?=some r->ks[i]?=some k->tb (some (.ref r)::vals U) H2 λv H3=>∃t,v=.ref t/\H2 t=none/\H3=upd H2 t (.tup [.int (k.length:Int),.ref r]))/\
 ∀D H2,ZY Pt H1 H2->Zk Pt q lpos H2->H1 D=none->H2 D=some (.lst ((lH ks).map λi=>V.ref (ps.getD i 0)))->Q (.ref D) H2
def Lg{vals:St->St}{l body:Expr}{p lpos kp:Pos}{tb:TE}(hc:X.calm=true)(hu:X.A.units+64<cLine)(hdp:X.A.depth+3<recursionLimit)(hg:Gl X "sorted")(hm:X.mg "sorted"=none)(ha:PA X [l] ta)(hcode:X.env.code=.ref c)(LB:Yz X.mg X.base c Pt)(ck:Yw X N scope cl vals x)(hb:∀(A:Around) (f c':Addr) (s₀:Shared) (H₀:Hp),PE (VX X A N (X.env.qual ++ "<lambda>") scope cl f c' s₀ H₀) body tb)(hdef:defaultsOf params X.env=([],[]))(hco:scope.isCoroutine=false)(hgen:scope.isGenerator=false)(hk:scope.kind=.function)(hcell:∀z∈scope.names,z.2≠.cell)(hbind:∀(q:Str) (pm ctv v:Value) (c':Addr),bindArgs (kla_fn "<lambda>" q params body scope cl pm (.ref c') ctv) ⟨[v],[]⟩=pure [(x,v)])(hs:starEach [l] X.env=[(false,eval l X.env)]:=by rfl)(hks:keywordEach [⟨some "key",.Lambda params body scope lpos,kp⟩] X.env=[(some ("key" : Str),eval (.Lambda params body scope lpos) X.env)]:=by rfl):PE X (.Call (.Name "sorted" p) [l] [⟨some "key",.Lambda params body scope lpos,kp⟩] pos) (xW Pt (X.env.qual ++ "<lambda>") lpos tb vals ta):=by
 intro y4 s U H Q I h;have hs2:backTo pos (starEach [l] X.env)=[(false,eval l X.env)]:=by rw[hs];rfl
 refine Du (gK I hg hm Km (pL (by rw[hs2];rfl) (by rw[hks];rfl) ?_))
 rw[hs2];refine evalArgs_kwB (by rw[hks];rfl) ?_
 rw[<-hs2];refine Z0 (ha pos y4 s U H _ I h) λus s1 ⟨vs,H1,I1,r1,q1⟩=>?_;obtain⟨p,ps,ks,rfl,hp,hl,hkk,h64,sk,T,hbd,qe⟩:=q1;refine Z0 (vY (NM ck hcode LB hdef) UQ pos y4 s1 U H1 (λzs H2=>∃f c' pm ctv,zs=[.ref f]/\ZY Pt H1 H2/\Zk Pt (X.env.qual ++ "<lambda>") lpos H2/\H2 c'=some (tM c' (X.env.qual ++ "<lambda>"))/\H2 f=some (WH f (kla_obj "<lambda>" (X.env.qual ++ "<lambda>") params body scope cl pm c' ctv))) I1 ⟨T,λf c' pm ctv H' a b c d=>⟨f,c',pm,ctv,rfl,a,b,c,d⟩⟩) λws s2 ⟨zs,H2,I2,r2,q2⟩=>?_;obtain⟨f,c',pm,ctv,rfl,sP,T2,hc',hf⟩:=q2;obtain⟨u,rfl,ru⟩:=eE r1;cases ru;obtain⟨u,rfl,ru⟩:=eE r2;cases ru;have e:(backToKw pos (keywordEach [⟨some "key",.Lambda params body scope lpos,kp⟩] X.env)).filterMap (·.1)=(["key"]:List Str):=by rw[hks];rfl
 rw[e];show wpAny (model X.prog X.w) X.A (call (.builtin "sorted") [.ref p] [(Str.ofString "key",.ref f)]) _ _ _
 generalize X.env.qual ++ "<lambda>"=q at *;have hp2:=yH sP hp T.tb
 obtain⟨its,rv,pl,hz⟩:=I2.list (aT hp2);obtain rfl:=nZ rv;simp only[zQ,Bool.and_eq_true,Bool.or_eq_true,decide_eq_true_eq,List.all_eq_true]at sk;have rd2:∀a zs,Z8 H1 a=some zs->Z8 H2 a=some zs:=λa zs h=>yH sP h T.tb
 have f1:=I2.Y2 (Nat.le_succ s2.heap.objs.size)
 have f3:=I2.Y2 (Fo s2.heap.objs.size 3)
 have n1:H2 (s2.heap.objs.size+1)=none:=I2.Z7.fresh (Nat.le_succ _)
 have n3:H2 (s2.heap.objs.size+3)=none:=I2.Z7.fresh (Fo _ 3)
 have sz0:=I2.sz
 have ns0:∀b,s2.heap.objs.size<=b->b∉Zm X.stack:=λb hb z=>by
  rcases Az.mp (I2.YK b z) with y|y
  .exact absurd (Bb I2.lt hb) (by rw[y];exact Cy _)
  .exact absurd (Bb (I2.Vl y) hb) (Cy _)
 have rdS:∀ {H'},Z_ H2 H'->∀a zs,Z8 H1 a=some zs->Z8 H' a=some zs:=λsm a zs h=>aG sm (rd2 a zs h)
 have keys:∀ {H':Hp} {s':Shared} {ts:List Addr},Inv X y4 U H' s'->Z_ H2 H'->(∀(i:Nat) t,ts[i]?=some t->∃r k,ps[i]?=some r/\ks[i]?=some k/\H' t=some (.tup [.int (k.length:Int),.ref r]))->∀(i:Nat) t,ts[i]?=some t->Wa s'.heap (.ref t) (ks.getD i []):=fun {H' s' ts} J sm hts i t ht=>by
  obtain⟨r,k,hr,hk',e⟩:=hts i t ht;obtain⟨tits,tr,tl,_⟩:=J.tuple (Y9.of (K:=X.K) e);obtain⟨x1,x2,rfl,⟨t1,rfl⟩,rx⟩:=sT tr;cases rx;obtain⟨ib,rb,lb,_⟩:=J.list (aT (rdS sm _ _ (hkk i r k hr hk')));refine⟨t,r,t1,ib,rfl,?_,lb.isList,?_⟩
  .rw[Ac,hk'];exact tl
  .rw[Ac,hk'];exact lQ rb
 refine Of (κ:=tuples' true) (lt:=WV ks) (G:=λkvs s'=>∃(ts:List Addr) (H':Hp),kvs=ts.map Value.ref/\Inv X y4 U H' s'/\Z_ H2 H'/\H' (s2.heap.objs.size+1)=none/\H' (s2.heap.objs.size+3)=none/\∀(i:Nat) t,ts[i]?=some t->∃r k,ps[i]?=some r/\ks[i]?=some k/\H' t=some (.tup [.int (k.length:Int),.ref r])) pl.isList (by rw[Ab];exact h64)
  (λh' tk k=>⟨[],H2,rfl,I2.kept k,Z_.refl _,n1,n3,λi t h=>nomatch h⟩) (λkvs s3 h' ⟨ts,H',a1,J,a2,a3,a4,a5⟩ k=>⟨ts,H',a1,J.Xt (t':=s3.toks) k f1 f3 a3 a4 (Nat.le_succ_of_le sz0) (Nat.le_add_right_of_le sz0),a2,a3,a4,a5⟩) (λi v kvs s3 Q3 E3 hv hkl ⟨ts,H',a1,J,sm,a3,a4,a5⟩ l1 l3 k=>?_) (λkvs s3 Q' E' hkl ⟨ts,H',a1,J,sm,a3,a4,a5⟩ h2 q=>?_) (λkvs s3 i j C hkl ⟨ts,H',a1,J,sm,a3,a4,a5⟩ hi hj q=>?_) (λh2=>?_) λkvs s3 c ⟨ts,H',a1,J,sm,a3,a4,a5⟩ hD=>?_
 .rw[Af]at hv;obtain⟨r,hr,rfl⟩:=Cu.mp hv;have hik:i<ks.length:=by rw[<-hl];exact(Ad.mp hr).1
  have hki:ks[i]?=some ks[i]:=Aa hik
  refine Gj (Fy (Oi (A:=X.A.in1.in1) (q:=q) (f:=f) (c':=c') (pm:=pm) (ctv:=ctv) (v:=.ref r) (y:=.ref r) (Q:=λv H3=>∃t,v=.ref t/\H' t=none/\H3=upd H' t (.tup [.int ((ks[i]).length:Int),.ref r])) J ck I2.ok.frames (I2.ok.hd hc) (by show X.A.depth<_;omega) (J.Z7 f _ (sm _ _ hf)).1 (J.Z7 c' _ (sm _ _ hc')).1 hco hgen hk hcell (hbind q pm ctv _ c') rfl (hb _ _ _ _ _) (hbd H' (rdS sm) i r _ hr hki)) λr' s4 hr'=>?_)
  match r',hr' with
  |.ok (.ret u),hr'=>
   obtain⟨v2,H4,h1,h2,un,h3,h4,hq⟩:=hr';obtain⟨v',H3,J',rv',⟨t,rfl,ht,rfl⟩,un'⟩:=J.after (Q:=λv H3=>(∃t,v=.ref t/\H' t=none/\H3=upd H' t (.tup [.int ((ks[i]).length:Int),.ref r]))/\Un (Zm X.stack) [] H' H3 s3.heap s4.heap) ⟨v2,H4,h1,h2,un,h3,h4,hq,un⟩;cases rv';have nt:∀ {b xs cc},s3.heap.get? b=some (seqObj "list" xs cc)->H' b=none->s2.heap.objs.size<=b->b≠t:=fun {b xs cc} e n hb z=>by
    obtain⟨_,_,tl,_⟩:=J'.tuple (Y9.of (K:=X.K) (aD (H:=H') (a:=t)));obtain⟨o,g,c,_⟩:=(show s4.heap.IsTuple t _ from tl);rw[<-z,un'.keep b _ e n (ns0 b hb) (by simp)]at g
    cases g;exact absurd c (by show Value.type "list"≠.type "tuple";decide)
   obtain⟨xs1,c1,l1⟩:=l1;obtain⟨xs3,c3,l3⟩:=l3;have m1:=nt l1 a3 (Nat.le_succ _)
   have m3:=nt l3 a4 (Fo _ 3)
   have htl:ts.length=i:=by rw[a1,Ab]at hkl;exact hkl
   refine k (.ref t) s4 ⟨ts++[t],upd H' t (.tup [.int ((ks[i]).length:Int),.ref r]),by rw[a1,Aj];rfl,J',sm.trans (aF ht _),by rw[aI m1];exact a3,by rw[aI m3];exact a4,λj u hu=>?_⟩ λb o hb e=>?_
   .rcases Nat.lt_or_ge j ts.length with z|z
    .rw[Au z]at hu;obtain⟨r',k',y1,y2,y3⟩:=a5 j u hu;exact⟨r',k',y1,y2,aF ht _ _ _ y3⟩
    .rw[Aw z]at hu;have w1:=(Ad.mp hu).1
     have eu:j-ts.length=0:=by have:j-ts.length<1:=w1;omega
     rw[eu]at hu;cases hu;have ej:j=i:=by omega
     rw[ej];exact⟨r,ks[i],hr,hki,aD⟩
   .rcases hb with z|z
    .subst z;exact un'.keep _ o e a3 (ns0 _ (Nat.le_succ _)) (by simp)
    .subst z;exact un'.keep _ o e a4 (ns0 _ (Nat.le_add_right _ 3)) (by simp)
 .rw[Ab]at hkl h2;refine Mj (λv hv=>?_) (by omega) q
  rw[a1]at hv;obtain⟨t,ht,rfl⟩:=Bg.mp hv;obtain⟨j,hj⟩:=Cq.mp ht;exact⟨_,keys J sm a5 j t hj⟩
 .subst a1;rw [Ab,Ab] at hkl;rw [Ab] at hi hj;have at_:∀ i,i<ps.length->∃ t,ts[i]?=some t/\(ts.map Value.ref).getD i .none=.ref t:=λi hi=>by
   have h:=Aa (show i<ts.length by omega)
   exact⟨_,h,by rw[Ac,Af,h];rfl⟩
  obtain⟨t,ht,et⟩:=at_ i hi;obtain⟨u,hu',eu⟩:=at_ j hj;rw[et,eu];exact Kg (keys J sm a5 i t ht) (keys J sm a5 j u hu') (show X.A.units+1+1+4<cLine by omega) q
 .rw[Ab]at h2 ⊢;rw[hl];exact sk.1.1.resolve_left (by omega)
 .rw [yM hl sk.1.2] at hD;have nP:s2.heap.objs.size+1≠Pt:=λz=>by
   obtain⟨tb,et⟩:=T2.tb;rw[z,et]at n1;cases n1
  have nH1:H1 (s2.heap.objs.size+1)=none:=by
   cases eH:H1 (s2.heap.objs.size+1) with
   |none=>rfl
   |some o=>rw[sP _ o nP eH]at n1;cases n1
  refine⟨.ref (s2.heap.objs.size+1),upd H' (s2.heap.objs.size+1) (.lst ((lH ks).map λi=>V.ref (ps.getD i 0))),J.adopt f1 a3 ⟨by rw[Ab];exact Fa (aY (by omega)),_,c,tP _ _,hD⟩,rfl,qe _ _ (sP.trans (Z_.p (sm.trans (aF a3 _)))) (T2.keep (sm.trans (aF a3 _))) nH1 aD⟩
def JL{q:Str}{lpos:Pos}{tb:TE}{vals:St->St}{U:St}(h:ta U H λxs H1=>∃(p:Addr) (ps:List Addr) (ks:List (List Int)),xs=[.ref p]/\Z8 H1 p=some (ps.map V.ref)/\ps.length=ks.length/\(∀(i:Nat) r k,ps[i]?=some r->ks[i]?=some k->Z8 H1 r=some (k.map V.int))/\ps.length<64/\zQ ks=true/\Zk Pt q lpos H1/\
 (∀H2,(∀a zs,Z8 H1 a=some zs->Z8 H2 a=some zs)->∀(i:Nat) r k,ps[i]?=some r->ks[i]?=some k->tb (some (.ref r)::vals U) H2 λv H3=>∃t,v=.ref t/\H2 t=none/\H3=upd H2 t (.tup [.int (k.length:Int),.ref r]))/\
 ∀D H2,ZY Pt H1 H2->Zk Pt q lpos H2->H1 D=none->H2 D=some (.lst ((lH ks).map λi=>V.ref (ps.getD i 0)))->Q (.ref D) H2):xW Pt q lpos tb vals ta U H Q:=h
end
section
variable {l:Expr} {tk:TA} {p kp:Pos}
def SG(ta tk:TA):TE:=λU H Q=>ta U H λxs H1=>tk U H1 λzs H2=>∃(a:Addr) (ns:List Int) (y:V),xs=[.ref a]/\zs=[y]/\Z8 H2 a=some (ns.map V.int)/\(ns=[]->Q y H2)/\∀m,m∈ns->(∀b∈ns,m<=b)->Q (.int m) H2
def Kp{kx:Expr}(hc:X.calm=true)(hg:Gl X "min")(hm:X.mg "min"=none)(ha:PA X [l] ta)(hk:PK X [⟨some "default",kx,kp⟩] tk)(hs:starEach [l] X.env=[(false,eval l X.env)]:=by rfl)(hks:keywordEach [⟨some "default",kx,kp⟩] X.env=[(some ("default" : Str),eval kx X.env)]:=by rfl):PE X (.Call (.Name "min" p) [l] [⟨some "default",kx,kp⟩] pos) (SG ta tk):=by
 intro y4 s U H Q I h;have hs2:backTo pos (starEach [l] X.env)=[(false,eval l X.env)]:=by rw[hs];rfl
 refine Du (gK I hg hm boot_min (pL (by rw[hs2];rfl) (by rw[hks];rfl) ?_))
 rw[hs2];refine evalArgs_kwB (by rw[hks];rfl) ?_
 rw[<-hs2];refine Z0 (ha pos y4 s U H _ I h) λus s1 ⟨vs,H1,I1,r1,q1⟩=>?_;refine Z0 (hk pos y4 s1 U H1 _ I1 q1) λws s2 ⟨zs,H2,I2,r2,q2⟩=>?_;obtain⟨a,ns,y,rfl,rfl,hp,q0,qm⟩:=q2;obtain⟨u,rfl,ru⟩:=eE r1;cases ru;obtain⟨u,rfl,ry⟩:=eE r2;have e:(backToKw pos (keywordEach [⟨some "default",kx,kp⟩] X.env)).filterMap (·.1)=(["default"]:List Str):=by rw[hks];rfl
 rw[e];obtain⟨its,rv,pl,hz⟩:=I2.list (aT hp);have hl:=pl.isList
 have hlt:a<s2.heap.objs.size:=by obtain⟨_,e,_⟩:=hl;exact As e
 have hle:its.length=ns.length:=by have:=rv.length;rw[Ab]at this;omega
 have at':∀(i:Nat) (v:Value),its.toArray[i]?=some v->∃t,v=Value.int (ns.getD i 0) t:=λi v hv=>by
  have hv':its[i]?=some v:=by simpa using hv
  have hi:i<ns.length:=by rw[<-hle];exact(Ad.mp hv').1
  obtain⟨u,hu,ru⟩:=rv.get (show (ns.map V.int)[i]?=some (.int ns[i]) by rw[Af,Aa hi];rfl)
  rw[hv']at hu;cases hu;obtain⟨t,rfl⟩:=ru;exact⟨t,by rw[Ac,Aa hi];rfl⟩
 refine Ra (Et hl ?_);refine⟨s2.heap.objs.size,[s2.heap.objs.size,a],[s2.heap.objs.size],its.toArray.size,_,_,_,rfl,Walks.list (A:=X.A.in1) (I2.ok.hd hc) _ a (Bj hlt) its.toArray,
  ⟨⟨_,Ax _ rfl,rfl,rfl⟩,hl.push _⟩,λb hb=>?_,CmpOf.ints_lt (λi=>ns.getD i 0) at',λv h' tk z0 hv hk=>?_⟩
 .rw[show ({s2 with heap:=_}:Shared).heap=_ from rfl]
  simp only[List.mem_cons,List.not_mem_nil,or_false]at hb;rcases hb with e|e
  .rw[e];simp[Heap.push]
  .rw[e];exact Nat.lt_of_lt_of_le hlt (by simp[Heap.push])
 .rw[Ay,hle]at z0 hv;rcases Nat.eq_zero_or_pos ns.length with z|z
  .obtain rfl:=z0 z;exact⟨y,H2,I2.kept (LSm.kept_iter hk),ry,q0 (Fw z)⟩
  .obtain⟨t,rfl⟩:=at' _ _ (hv z);obtain⟨h1,h2⟩:=argBest_lt (λi=>ns.getD i 0) (ns.length-1);refine⟨.int _,H2,I2.kept (LSm.kept_iter hk),⟨_,rfl⟩,qm _ ?_ λb hb=>?_⟩
   .rw[Ac,Aa (by omega)]
    exact Bo _
   .obtain⟨j,hj,e⟩:=Cg.mp hb;have:=h2 j (by omega)
    rw[<-e];have e2:ns.getD j 0=ns[j]:=by rw[Ac,Aa hj];rfl
    rw[<-e2];exact this
def Nk{U:St}(h:ta U H λxs H1=>tk U H1 λzs H2=>∃(a:Addr) (ns:List Int) (y:V),xs=[.ref a]/\zs=[y]/\Z8 H2 a=some (ns.map V.int)/\(ns=[]->Q y H2)/\∀m,m∈ns->(∀b∈ns,m<=b)->Q (.int m) H2):SG ta tk U H Q:=h
end
def lT:∀ {ns:List Int} {vs:List Value},Vals (ns.map V.int) vs->IntsAre vs ns
 |[],_,.nil=>.nil
 |n::ns,_,.cons r rs=>by
  obtain⟨t,rfl⟩:=r;exact .cons n t (lT rs)
def wC(H:Hp)(k:List Int):Value->Bool
 |.ref q=>decide (Z8 H q=some (k.map V.int))
 |_=>false
def Wf(H:Hp)(ps:List Addr)(ks:List (List Int)):Prop:=ps.length=ks.length/\∀(j:Nat) p k,ps[j]?=some p->ks[j]?=some k->Z8 H p=some (k.map V.int)
def nU{k:List Int}(h:Z8 H q=some (m.map V.int)):wC H k (.ref q)=decide (m=k):=by
 unfold wC;refine Cj.mpr ?_;rw[h,Option.some.injEq];exact⟨λe=>List.map_inj_right (λa b z=>by cases z;rfl) |>.mp e,λe=>by rw[e]⟩
def Wf.at{ks:List (List Int)}(h:Wf H ps ks)(r:Vals (ps.map V.ref) its)(j:Nat)(y:Value)(hy:its[j]?=some y):∃q k,ps[j]?=some q/\ks[j]?=some k/\y=.ref q/\Z8 H q=some (k.map V.int):=by
 have hlen:=r.length
 rw[Ab]at hlen;have hj:j<its.length:=(Ad.mp hy).1
 have e1:ps[j]?=some ps[j]:=Aa (by omega)
 have e2:ks[j]?=some (ks[j]'(by rw[<-h.1];omega)):=Aa _
 obtain⟨v',h1,h2⟩:=r.get (i:=j) (x:=.ref ps[j]) (by rw[Af,e1];rfl)
 rw[hy]at h1;cases h1;cases h2;exact⟨_,_,e1,e2,rfl,h.2 j _ _ e1 e2⟩
def La{U:St}(I:Inv X y4 U H s){p:Addr}{k:List Int}(hp:Z8 H p=some (k.map V.int))(hq:Z8 H q=some (m.map V.int))(hu:A.units+1<cLine):SeqAt.EqAt A s (.ref q) (.ref p) (wC H k (.ref q)):=by
 rw[nU hq];obtain⟨i1,r1,l1,_⟩:=I.list (aT hp);obtain⟨i2,r2,l2,_⟩:=I.list (aT hq);exact uG l2.isList l1.isList (lT r2) (lT r1) hu
def Rx:V->List V->Hp->VK->Prop:=λx vs H Q=>∃(l p:Addr) (k:List Int) (ps:List Addr) (ks:List (List Int)) (j:Nat),x=.ref l/\vs=[.ref p]/\Z8 H p=some (k.map V.int)/\Z8 H l=some (ps.map V.ref)/\Wf H ps ks/\ks[j]?=some k/\(∀(i:Nat) y,i<j->ks[i]?=some y->y≠k)/\Q (.int (j:Int)) H
def Qi(hu:X.A.units+64<cLine):Yo X "list.index" Rx:=by
 intro y4 s U H x vs v us Q I rx rv h;obtain⟨l,p,k,ps,ks,j,rfl,rfl,hp,hl,hks,hj,hb,q⟩:=h;cases rx;obtain⟨u,rfl,ru⟩:=rv.one;cases ru;obtain⟨its,r,pl,hz⟩:=I.list (aT hl);obtain⟨⟨c,dd,dt,sl⟩,ho,hc,n,hd⟩:=pl.isList;obtain rfl:c=.type "list" := hc;obtain rfl:dt=.seq its.toArray n:=hd;have hlen:=r.length
 rw[Ab]at hlen hz;have hjl:j<ks.length:=(Ad.mp hj).1
 have hkl:=hks.1
 have hn:=jX
 refine call_meets PySem.F.slot_list_index ⟨_,ho,rfl⟩ PySem.F.entry_list_index (PySem.F.args_list_index_2 _ _) (SeqAt.list_indexAt l its.toArray n dd sl (.ref p) (wC H k) j (by rw[Ay];omega) (by omega) ?_ ?_) ⟨ho,λy hy=>?_,⟨.int j,H,I.tok _,⟨_,rfl⟩,q⟩⟩
 .have hjt:j<its.length:=by omega
  obtain⟨q,m,_,hm,e,hq⟩:=hks.at r j its[j] (Aa hjt);rw[hj]at hm;cases hm;rw[List.getElem_toArray,e,nU hq,Ap rfl]
 .intro m hm hmj;have hm':m<its.length:=by rw[Ay]at hm;exact hm
  obtain⟨q,z,_,hz',e,hq⟩:=hks.at r m its[m] (Aa hm');rw[List.getElem_toArray,e,nU hq];exact Al (hb m z hmj hz')
 .have hy':y∈its:=by simpa using hy
  obtain⟨m,hm⟩:=Cq.mp hy';obtain⟨q,z,_,_,rfl,hq⟩:=hks.at r m y hm;exact La I hp hq (by show X.A.units+1+1<cLine;omega)
def Oy{p:Addr}{k:List Int}{ks:List (List Int)}(hp:Z8 H p=some (k.map V.int))(hl:Z8 H l=some (ps.map V.ref))(hks:Wf H ps ks)(hj:ks[j]?=some k)(hb:∀(i:Nat) y,i<j->ks[i]?=some y->y≠k)(h:Q (.int (j:Int)) H):Rx (.ref l) [.ref p] H Q:=⟨l,p,k,ps,ks,j,rfl,rfl,hp,hl,hks,hj,hb,h⟩
end L2
namespace Mine
open PySem L2
variable {F L cs cw fs ks l os:List Nat}{H H' H1:Hp}{Pt Zw Zx Zy Zz a b f p r:Addr}{Q:VK}{bs ds ps rs:List Addr}{cws cws':Q6}{d g i j k:Nat}{fd:FuncData}{h:Option (List Nat)}{hs:Q4}{kvs:List (Key×V)}{mg:Q5}{n:Nat->Int}{us vs xs:List V}{v x:V}{z:Str}{zs:List Str}{α β:Type}
theorem za0:1<=sizeLine:=by decide
theorem za1:2<=sizeLine:=by decide
local macro_rules | `(tactic| fail "rd") => `(tactic| first | assumption | exact dA | exact oF | exact oG | exact aL (by assumption) | exact aZ (by assumption) | (apply aG (aF (by assumption) _); fail "rd"))
local macro_rules | `(tactic| fail "dd") => `(tactic| first | exact jU (by assumption) | exact S8 (by assumption) | exact jU aD | assumption)
local macro_rules | `(tactic| fail "lo") => `(tactic| first | assumption | decide | omega | (simp only [List.length_map,List.length_append,List.length_cons,List.length_nil,Str.length_append]; omega))
local macro_rules | `(tactic| fail "ln") => `(tactic| first | assumption | decide | exact bE (by fail "lo") | exact aY (by fail "lo"))
local macro_rules | `(tactic| fail "ar") => `(tactic| first | assumption | decide | omega | exact ⟨by omega,by omega⟩ | exact Or.inl ⟨by omega,by omega⟩ | exact Or.inr ⟨by omega,by omega⟩ | (dsimp only; done) | (dsimp only; omega))
local macro_rules | `(tactic| fail "g") => `(tactic| repeat' (fail "s"))
local macro_rules | `(tactic| fail "sc") => `(tactic| exact ⟨rfl,rfl,rfl,by decide +kernel,rfl,by decide +kernel,by decide +kernel⟩)
local macro_rules | `(tactic| fail "o") => `(tactic| first | exact Or.inl rfl | exact Or.inr rfl)
local macro_rules|`(tactic|fail "5")=>`(tactic|first|((with_reducible refine' Lq ?se ?sn ?_); (case se => fail "rd"); (case sn => exact rfl))|(with_reducible first | refine N4 ?_ | refine NN ?_ | refine Ml ?_ | refine Rf ?_ | refine LJ ?_ | refine JH ?_ | refine LC ?_ | refine O0 ?_ | refine Mq ?_ | refine KG ?_ | refine Mt ?_)|dsimp only)
local macro_rules|`(tactic|fail "4")=>`(tactic|first|(with_reducible first | refine KL ?_ | refine QQ ?_ | refine O9 ?_ | refine Qn ?_ | refine K4 ?_ | refine Mx ?_ | refine Lc ?_)|((with_reducible refine' L9 ?se ?sn ?_); (case se => fail "rd"); (case sn => exact rfl))|(with_reducible first | refine MI ?_ | refine Po ?_ | refine LQ ?_ | refine NS ?_ | refine Pk ?_ | refine Rk ?_)|((with_reducible refine Pe ?sd ?_); (case sd => fail "dd"))|(with_reducible first | refine Ql ?_ | refine N8 ?_ | refine OU ?_ | refine PM ?_ | refine PV ?_ | refine PN ?_ | refine Nh ?_ | refine QU ?_))
local macro_rules|`(tactic|fail "3")=>`(tactic|first|(with_reducible first | refine Nm ?_ | refine Oj ?_ | refine OW ?_ | refine Jp ?_ | refine K_ ?_ | refine LS ?_ | refine QL ?_ | refine PB ?_ | refine QV ?_)|((with_reducible refine' QD ?se ?_); (case se => fail "rd"))|((with_reducible refine' PZ ?se ?sl ?_); (case se => fail "rd"); (case sl => fail "ln"))|((with_reducible refine' T4 ?se ?sf ?sl ?_); (case se => fail "rd"); (case sf => fail "rd"); (case sl => fail "ln"))|((with_reducible refine s_str ?sc ?_); (case sc => fail "ar")))
local macro_rules|`(tactic|fail "2")=>`(tactic|first|((with_reducible refine M3 ?sc ?_); (case sc => fail "ln"))|((with_reducible refine' LN ?sc ?_); (case sc => fail "rd"))|with_reducible refine KA ?_|((with_reducible refine' KZ ?sc ?_); (case sc => fail "rd"))|((with_reducible refine' Qu ?se ?se2 ?_); (case se => first | exact rfl | exact SU (by assumption) | exact tyN_dK (by assumption) | exact J5 (by assumption) | exact SU aD | exact tyN_dK aD); (case se2 => first | exact (show Ww _ _ = some true from rfl) | exact (show Ww _ _ = some false from rfl) | exact rfl)))
local macro_rules|`(tactic|fail "1")=>`(tactic|first|(with_reducible first | refine Ki ?_ | refine Mp ?_ | refine K8 ?_ | refine Ke ?_ | refine Om ?_ | refine Pd ?_ | refine P8 ?_ | refine Q9 ?_ | refine LP ?_ | refine Rl ?_)|((with_reducible refine N9 ?sc ?_); (case sc => fail "ar"))|with_reducible refine OD ?_|((with_reducible refine Oc ?sc ?_); (case sc => fail "ln"))|(with_reducible first | refine Lv ?_ | refine OX ?_ | refine Kt ?_ | refine K5 ?_ | refine NR ?_ | refine MZ ?_)|((with_reducible refine' NZ ?sc ?_); (case sc => fail "rd")))
local macro_rules|`(tactic|fail "0")=>`(tactic|first|(with_reducible first | refine OG ?_ | refine NK ?_ | refine KR ?_ | refine Nr ?_ | refine Lj ?_ | refine Qg ?_ | refine Lb ?_ | refine vH ?_ | refine LG ?_)|((with_reducible refine' Ob ?sv ?_); (case sv => exact rfl))|(with_reducible first | refine Lw ?_ | refine Mv ?_ | refine Pm ?_ | refine Kl ?_ | refine OO ?_ | refine MO ?_ | refine Ou ?_ | refine J_ ?_ | refine Py ?_ | refine LX ?_ | refine NO ?_ | refine Rm ?_)|((with_reducible refine' Qc ?se ?_); (case se => fail "rd")))
local macro_rules|`(tactic|fail "s")=>`(tactic|first|fail "0"|fail "1"|fail "2"|fail "3"|fail "4"|fail "5")
def top(i:Nat):Stmt:=PySem.Challenge.pw_flaglocker_k74_whole_fewest_lowered.main.body.getD i (.Pass ⟨0,0,0,0⟩)
abbrev rM:Stmt:=top 39
abbrev gG:Stmt:=top 41
abbrev lX:Stmt:=top 40
abbrev lP:Stmt:=top 43
abbrev fW:Stmt:=top 15
abbrev rW:Stmt:=top 17
abbrev dC:Stmt:=top 29
abbrev oU:Stmt:=top 33
abbrev jA:Stmt:=RF (top 4) 0
abbrev eV:Stmt:=top 31
abbrev iJ:Stmt:=top 20
abbrev fK:Stmt:=top 19
abbrev iF:Stmt:=top 23
abbrev jR:Stmt:=top 21
abbrev fI:Stmt:=top 24
abbrev iK:Stmt:=top 25
abbrev dU:Stmt:=top 26
abbrev oO:Stmt:=top 27
abbrev mD:Stmt:=top 32
abbrev oW:Stmt:=top 9
abbrev jG:Stmt:=top 11
abbrev lV:Stmt:=top 12
abbrev pB:Stmt:=top 13
abbrev fL:Stmt:=top 34
abbrev jD:Stmt:=top 35
abbrev iM:Stmt:=RF (top 3) 0
abbrev vF:Stmt:=top 16
abbrev rA:Stmt:=top 36
abbrev oM:Stmt:=top 52
abbrev lI:Stmt:=top 54
abbrev jL:Stmt:=top 44
abbrev fT:Stmt:=top 47
abbrev jS:Stmt:=top 51
abbrev rX:Stmt:=top 50
abbrev nV:Stmt:=top 45
abbrev rE:Stmt:=top 48
abbrev mX:Stmt:=top 53
abbrev gQ:Stmt:=top 49
abbrev eI:Stmt:=top 37
abbrev iN:Stmt:=top 55
abbrev nQ:Stmt:=top 56
abbrev nG:Stmt:=top 42
abbrev qP:Stmt:=top 57
structure S_ (K:W.Frag) (Zw Zz Zx Zy:Addr):Prop where
 XA:W.exmOne K (.ref Zw) (.ref Zw)=some true
 X8:W.excIn K Zy [.type "ValueError",.type "Exception",.type "BaseException",.type "object"] "ValueError.__new__"=true
 t1_TowerError:W.specialIn K (.ref Zz) "__getattribute__"=some (some (.builtin "type.__getattribute__"))
 t2_TowerError:W.readsIn K Zz (.type "type")=true
 t3_TowerError:W.findCls K (.ref Zz) (.type "type") "__init__"=some (.val (.builtin "ValueError.__init__"))
 xo_Lack:W0 K Zw [.type "ValueError",.type "Exception",.type "BaseException",.type "object"] "ValueError.__new__"=true
 xk_Lack:W.keepIn K (.ref Zw)=true
 xe1_Lack:W.hasDictIn K Zw=true
 xe2_Lack:W.findIn K (.ref Zw) "__getattribute__"=some (some (.builtin "BaseException.__getattribute__"))
 xe3_Lack:W.findIn K (.ref Zw) "__getattr__"=some none
 xe4_Lack:W.findIn K (.ref Zw) "__class__"=some (some (.builtin "object.__class__"))
 xe5_Lack:W.specialIn K (.builtin "object.__class__") "__get__"=some (some (.builtin "getset_descriptor.__get__"))
 xe6_Lack:W.takesIn K (.builtin "object.__class__")=some true
 xe7_Lack:W.mroIn K Zw (.type "object")=some true
 xe8_Lack:W.subIn K (.ref Zw) (.type "BaseException")=some true
 xs_Lack:W.findIn K (.ref Zw) "__setattr__"=some (some (.builtin "object.__setattr__"))
 xr_Lack:Vj K Zw Zz=true
 xv_Lack:W.subIn K (.ref Zw) (.type "ValueError")=some true
 xn_Lack_wants:W.findIn K (.ref Zw) "wants"=some none
 xn_Lack_flags:W.findIn K (.ref Zw) "flags"=some none
 xo_Short:W0 K Zx [.type "ValueError",.type "Exception",.type "BaseException",.type "object"] "ValueError.__new__"=true
 xk_Short:W.keepIn K (.ref Zx)=true
 xe1_Short:W.hasDictIn K Zx=true
 xe2_Short:W.findIn K (.ref Zx) "__getattribute__"=some (some (.builtin "BaseException.__getattribute__"))
 xe3_Short:W.findIn K (.ref Zx) "__getattr__"=some none
 xe4_Short:W.findIn K (.ref Zx) "__class__"=some (some (.builtin "object.__class__"))
 xe5_Short:W.specialIn K (.builtin "object.__class__") "__get__"=some (some (.builtin "getset_descriptor.__get__"))
 xe6_Short:W.takesIn K (.builtin "object.__class__")=some true
 xe7_Short:W.mroIn K Zx (.type "object")=some true
 xe8_Short:W.subIn K (.ref Zx) (.type "BaseException")=some true
 xs_Short:W.findIn K (.ref Zx) "__setattr__"=some (some (.builtin "object.__setattr__"))
 xr_Short:Vj K Zx Zz=true
 xv_Short:W.subIn K (.ref Zx) (.type "ValueError")=some true
 xn_Short_flag:W.findIn K (.ref Zx) "flag"=some none
structure Gs (K:W.Frag) (mg:Str->Option Value) (Zw Zz Zx Zy:Addr):Prop extends S_ K Zw Zz Zx Zy where
 YN:mg "Lack"=some (.ref Zw)
 c_TowerError:mg "TowerError"=some (.ref Zz)
 c_Short:mg "Short"=some (.ref Zx)
 c_NoHoist:mg "NoHoist"=some (.ref Zy)
 b_len:mg "len"=none
 b_range:mg "range"=none
 b_zip:mg "zip"=none
 b_enumerate:mg "enumerate"=none
 b_list:mg "list"=none
 b_int:mg "int"=none
 b_all:mg "all"=none
 b_min:mg "min"=none
 b_str:mg "str"=none
 b_sum:mg "sum"=none
 b_isinstance:mg "isinstance"=none
 b_dict:mg "dict"=none
 b_sorted:mg "sorted"=none
 b_tuple:mg "tuple"=none
 s_FLAGS:∃t,mg "FLAGS"=some (.str "abcdefghijklmnopqrstuvw1234" t)
 s_SUBSTITUTES:∃t,mg "SUBSTITUTES"=some (.str "1234" t)
 s_MOST_PLACES:∃t,mg "MOST_PLACES"=some (.int 7 t)
def Gs.Ze{K:W.Frag}(G:Gs K mg Zw Zz Zx Zy):XG K Zw:=⟨G.xe1_Lack,G.xe2_Lack,G.xe3_Lack,G.xe4_Lack,G.xe5_Lack,G.xe6_Lack,G.xe7_Lack,G.xe8_Lack⟩
def Gs.YI{K:W.Frag}(G:Gs K mg Zw Zz Zx Zy):V3 K Zw Zz:=⟨G.Ze,G.xs_Lack,Uk G.xr_Lack,G.xv_Lack⟩
def Gs.Yf{K:W.Frag}(G:Gs K mg Zw Zz Zx Zy):Vx K Zw:=⟨G.xo_Lack,G.xk_Lack⟩
def Gs.XE{K:W.Frag}(G:Gs K mg Zw Zz Zx Zy):XG K Zx:=⟨G.xe1_Short,G.xe2_Short,G.xe3_Short,G.xe4_Short,G.xe5_Short,G.xe6_Short,G.xe7_Short,G.xe8_Short⟩
def Gs.YD{K:W.Frag}(G:Gs K mg Zw Zz Zx Zy):V3 K Zx Zz:=⟨G.XE,G.xs_Short,Uk G.xr_Short,G.xv_Short⟩
def Gs.XM{K:W.Frag}(G:Gs K mg Zw Zz Zx Zy):Vx K Zx:=⟨G.xo_Short,G.xk_Short⟩
abbrev ZH:Str := "abcdefghijklmnopqrstuvw"
abbrev Y4:Str := "1234"
abbrev Z1:Str := "abcdefghijklmnopqrstuvw1234"
abbrev one(c:Nat):Str:=⟨#[c]⟩
def zJ:Y4.cps.toList=[49,50,51,52]:=by decide
def xZ:Z1.cps.toList=ZH.cps.toList++Y4.cps.toList:=by decide
def bY(c:Nat):Prop:=97<=c/\c<=119
def cX(c:Nat):Prop:=49<=c/\c<=52
instance (c:Nat):Decidable (bY c):=inferInstanceAs (Decidable (_/\_))
instance (c:Nat):Decidable (cX c):=inferInstanceAs (Decidable (_/\_))
def yA{c:Nat}:c∈ZH.cps.toList ↔ bY c:=by
 have h1:∀c∈ZH.cps.toList,bY c:=by decide +kernel
 have h2:∀k:_root_.Fin 23,97+k.val∈ZH.cps.toList:=by decide +kernel
 refine⟨h1 c,λh=>?_⟩;have e:=h2 ⟨c-97,by have:=h.1;have:=h.2;omega⟩
 rwa [show 97+(c-97)=c by have:=h.1;omega]at e
def YY{c:Nat}:c∈Y4.cps.toList ↔ cX c:=by
 have h1:∀c∈Y4.cps.toList,cX c:=by decide +kernel
 have h2:∀k:_root_.Fin 4,49+k.val∈Y4.cps.toList:=by decide +kernel
 refine⟨h1 c,λh=>?_⟩;have e:=h2 ⟨c-49,by have:=h.1;have:=h.2;omega⟩
 rwa [show 49+(c-49)=c by have:=h.1;omega]at e
def tQ{c:Nat}:c∈Z1.cps.toList ↔ bY c\/cX c:=by
 rw[xZ,Bs,yA,YY]
def fY{c:Nat}(h:bY c):¬cX c:=λz=>by unfold bY at h;unfold cX at z;omega
def lW(c:Nat):subIn (one c) Y4=decide (cX c):=by
 rw[uD];exact Cj.mpr YY
def rN(h:z.length=1):∃c,z=one c:=by
 obtain⟨⟨l⟩⟩:=z
 match l,h with
 |[c],_=>exact⟨c,rfl⟩
def iG(z:Str):Bool:=if z.length=1 then subIn z Z1 else false
def pK(h:z.length≠1):iG z=false:=if_neg h
def qU{c:Nat}:iG (one c)=decide (bY c\/cX c):=by
 unfold iG;rw[if_pos (by rfl),uD]
 exact Cj.mpr tQ
def Qb(h:iG z=true):∃c,z=one c/\(bY c\/cX c):=by
 by_cases h1:z.length=1
 .obtain⟨c,rfl⟩:=rN h1;rw[qU]at h;exact⟨c,rfl,Bi h⟩
 .rw[pK h1]at h;cases h
def jN(c:Nat)(p:Int):Prop:=bY c\/(cX c/\(c:Int)-48<p)
instance (c:Nat) (p:Int):Decidable (jN c p):=inferInstanceAs (Decidable (_\/_))
def cT(z:Str)(p:Int):Bool:=if z.length=1 then decide (jN (z.cps.toList.headD 0) p) else false
def mJ{c:Nat}{p:Int}:cT (one c) p=decide (jN c p):=rfl
def sJ{p:Int}(h:cT z p=true):∃c,z=one c/\jN c p:=by
 by_cases h1:z.length=1
 .obtain⟨c,rfl⟩:=rN h1;exact⟨c,rfl,Bi h⟩
 .unfold cT at h;rw[if_neg h1]at h;cases h
def cG(zs:List Str):Bool:=if zs.length<1\/7<zs.length then false else (List.range zs.length).all λi=>cT (zs.getD i ⟨#[]⟩) ((1+i:Nat):Int)
def dX(h:cG zs=true):1<=zs.length/\zs.length<=7:=by
 unfold cG at h;split at h
 .cases h
 .omega
def J0(h:cG zs=true)(hi:i<zs.length):cT (zs.getD i ⟨#[]⟩) ((1+i:Nat):Int)=true:=by
 unfold cG at h;split at h
 .cases h
 .exact Ci.mp h i (By.mpr hi)
def Xf(w:List Nat)(c:Nat):Nat:=if cX c then w.getD (c-49) 0 else c
def Zs(fs:List Nat):List Nat:=fs.foldl (λw c=>w++[Xf w c]) []
def JM(fs:List Nat)(c:Nat):Zs (fs++[c])=Zs fs++[Xf (Zs fs) c]:=by
 unfold Zs;rw[List.foldl_append];rfl
def mQ{c:Nat}(h:fs[i]?=some c):Zs (fs.take (i+1))=Zs (fs.take i)++[Xf (Zs (fs.take i)) c]:=by
 rw[Be,h];exact JM _ _
def qA:∀fs:List Nat,(Zs fs).length=fs.length:=by
 intro fs;have h:∀i,i<=fs.length->(Zs (fs.take i)).length=i:=by
  intro i;induction i with
  |zero=>intro _;rfl
  |succ i ih=>
   intro hi;rw[mQ (Aa (by omega)),Ak,ih (by omega)]
   rfl
 have q:=h fs.length (Ai _)
 rwa [Br]at q
def gW(h:i<=fs.length):(Zs (fs.take i)).length=i:=by
 rw[qA,Bt];omega
def bB(cs:List Nat):Str:=⟨cs.toArray⟩
def fB(cs:List Nat):(bB cs).length=cs.length:=by show cs.toArray.size=_;simp
def kE(cs:List Nat):(bB cs).cps.toList=cs:=rfl
def kF(cs:List Nat)(c:Nat):bB cs++one c=bB (cs++[c]):=FlT.Yc (by rw[FlT.Xl];rfl)
def jB(z:Str):Nat:=z.cps.toList.headD 0
def Rc(cs:List Nat):(cs.map one).map jB=cs:=by
 rw[Bu];exact List.map_id cs
def iD(h:cG zs=true){i:Nat}{z:Str}(hz:zs[i]?=some z):∃c,z=one c/\(zs.map jB)[i]?=some c/\(bY c\/(cX c/\c-49<i)):=by
 have hi:i<zs.length:=(Ad.mp hz).1
 have q:=J0 h hi
 rw[Ac,hz]at q;obtain⟨c,e,st⟩:=sJ q;have e':z=one c:=e
 refine⟨c,e',by rw[Af,hz,e'];rfl,?_⟩
 rcases st with l|⟨s,l⟩
 .exact .inl l
 .refine .inr ⟨s,?_⟩;unfold cX at s;omega
def Vs(zs:List Str):Str:=bB (Zs (zs.map jB))
def mH(f:α->β):∀l:List α,l.filterMap (λx=>some (f x))=l.map f
 |[]=>rfl
 |x::r=>by rw[Dp (f:=λx=>some (f x)) (b:=f x) rfl,Ar,mH f r]
def nF{f g:α->Option β}:∀ {l:List α},(∀x∈l,f x=g x)->l.filterMap f=l.filterMap g
 |[],_=>rfl
 |x::r,h=>by rw[Eb,Eb,h x Aq,nF λy hy=>h y (Ao _ hy)]
def sN{F:Nat->Option β}{b:β}(h:F i=some b):(List.range (i+1)).filterMap F=(List.range i).filterMap F++[b]:=by
 rw[Cm,Cp,Dp h,Dw]
def sR{F:Nat->Option β}(h:F i=none):(List.range (i+1)).filterMap F=(List.range i).filterMap F:=by
 rw[Cm,Cp,Ej h,Dw,Bq]
def one_inj{a b:Nat}:one a=one b ↔ a=b:=⟨λh=>by injection h with h;injection h with h;injection h,λh=>by rw[h]⟩
def wB(a b:Nat):decide (one a=one b)=decide (a=b):=Cj.mpr one_inj
def NQ(h:k<cw.length):Zc (bB cw).cps.toList ((k:Nat):Int)=some (cw.getD k 0):=by
 refine fJ ?_;rw[kE,Ac,Aa h];rfl
def QX(h:k<23):Zc ZH.cps.toList ((k:Nat):Int)=some (97+k):=by
 refine fJ ?_;have q:∀k:_root_.Fin 23,ZH.cps.toList[k.val]?=some (97+k.val):=by decide +kernel
 exact q ⟨k,h⟩
def Ku{k:Int}(h:0<=k):mP xs none (some k)=xs.take k.toNat:=by
 unfold mP;show (xs.drop 0).take ((if k<0 then (k+(xs.length:Int)).toNat else min k.toNat xs.length)-0)=_
 rw[if_neg (by omega),List.drop_zero,Nat.sub_zero]
 by_cases hk:k.toNat<=xs.length
 .rw[Gu hk]
 .rw[Fu (by omega),Bl (Ai _),Bl (by omega)]
def LD(cs:List Nat):Txt.join (Str.ofString "") (cs.map one)=bB cs:=by
 refine FlT.Yc ?_;rw[show Str.ofString ""=⟨#[]⟩ from rfl,FlT.XC,kE];induction cs with
 |nil=>rfl
 |cons c r ih=>rw[Ar,Ar,Cd,ih];rfl
def KP(cs:List Nat):∀z∈cs.map one,z.length<=1000:=λz hz=>by
 obtain⟨c,_,rfl⟩:=Bg.mp hz;show 1<=1000
 decide
def Ss{ns:List Int}{i:Int}(h0:0<=i)(h:i<ns.length):∃n,n∈ns/\Zc (ns.map V.int) i=some (.int n):=by
 obtain⟨v,h1,h2⟩:=Uv (xs:=ns.map V.int) (i:=i) h0 (by rw[Ab];exact h)
 rw[Af,Aa (by omega)]at h2
 cases h2;exact⟨_,Bo _,h1⟩
def OJ{ns:List Int}(h:(ns.map V.int)[j]?=some x):∃n,n∈ns/\x=V.int n:=by
 obtain⟨n,hn,e⟩:=Bg.mp (Ah h);exact⟨n,hn,e.symm⟩
def lR{ns:List Str}(h:(ns.map V.str)[j]?=some x):∃n,ns[j]?=some n/\x=V.str n:=by
 rw[Af]at h;cases e:ns[j]? with
 |none=>rw[e]at h;cases h
 |some n=>rw[e]at h;cases h;exact⟨n,rfl,rfl⟩
def pZ{c:Nat}(h:cX c):PySem.intText? (one c)=some ((c:Int)-48):=by
 unfold cX at h;have:c=49\/c=50\/c=51\/c=52:=by omega
 rcases this with rfl|rfl|rfl|rfl<;>decide +kernel
def cK(zs:List Str):(zs.map V.str).all bR=true:=by
 rw[Ci];intro x hx;obtain⟨z,_,rfl⟩:=Bg.mp hx;rfl
def MX(h1:1<=fs.length)(h7:fs.length<=7)(h:∀k,k<fs.length->jN (fs.getD k 0) ((1+k:Nat):Int)):cG (fs.map one)=true:=by
 unfold cG;rw[Ab,if_neg (by omega),Ci]
 intro i hi;have hi':=By.mp hi
 rw[Ac,Af,Aa hi'];have q:=h i hi'
 rw[Ac,Aa hi']at q;exact Ap q
def X4(cw:List Nat)(k n:Nat):Option Nat:=if cw.getD n 0=cw.getD k 0 then some (49+n) else none
def Yp(cw:List Nat)(k:Nat):List Nat:=cw.getD k 0::(List.range (min k 4)).filterMap (X4 cw k)
def Yk{c:Nat}:c∈Yp cw k ↔ c=cw.getD k 0\/∃n,n<k/\n<4/\cw.getD n 0=cw.getD k 0/\c=49+n:=by
 unfold Yp;rw[Az,Dt];constructor
 .rintro(h|⟨n,hn,h⟩)
  .exact .inl h
  .have:=By.mp hn
   unfold X4 at h;split at h
   .cases h;exact .inr ⟨n,by omega,by omega,by assumption,rfl⟩
   .cases h
 .rintro(h|⟨n,h1,h2,h3,rfl⟩)
  .exact .inl h
  .exact .inr ⟨n,By.mpr (by omega),if_pos h3⟩
def Nb(cw:List Nat)(k:Nat):1<=(Yp cw k).length/\(Yp cw k).length<=5:=by
 unfold Yp;have:=Do (X4 cw k) (List.range (min k 4))
 rw[Bm]at this;rw[Av];omega
def Ni{c:Nat}(hL:bY (cw.getD k 0))(h:c∈Yp cw k):jN c ((1+k:Nat):Int):=by
 rcases Yk.mp h with rfl|⟨n,h1,h2,_,rfl⟩
 .exact .inl hL
 .exact .inr ⟨⟨by omega,by omega⟩,by omega⟩
def qJ(hL:∀d∈cw,bY d)(hk:k<cw.length):bY (cw.getD k 0):=by
 rw[Ac,Aa hk];exact hL _ (Bo hk)
def KS(hL:∀d∈cw,bY d)(h1:1<=fs.length)(h7:fs.length<=7)(hl:fs.length<=cw.length)(h:∀k,k<fs.length->fs.getD k 0∈Yp cw k):cG (fs.map one)=true:=
 MX h1 h7 λk hk=>Ni (qJ hL (by omega)) (h k hk)
def qS{c:Nat}:Xx (.str (one c)) ((cs.map one).map V.str)=decide (c∈cs):=by
 induction cs with
 |nil=>rfl
 |cons d r ih=>
  rw[Ar,Ar];show ((one d==one c) || Xx (.str (one c)) ((r.map one).map V.str))=_
  rw[ih,<-uV];by_cases h:c=d
  .subst h;rw[Ap rfl,Bool.true_or,Ap Aq]
  .rw[Al (λz=>by injection z with z;exact h (one_inj.mp z).symm),Hm]
   exact Cj.mpr ⟨λz=>Ao _ z,λz=>(Az.mp z).resolve_left h⟩
def vC(K:W.Frag)(Pt:Addr):Sp:=λvs H Q _=>∃(a:Addr) (ns:List Int),vs=[.ref a]/\ZJ K H a (ns.map V.int)/\ns.length<=63/\H Pt=some (.tbl #[])/\∀H',Q (.bl true) H'
def rH:Sp:=λvs H Q _=>∃z,vs=[.str z]/\z.length<=1000/\Q (.bl (iG z)) H
def nM:Sp:=λvs H Q _=>∃z p,vs=[.str z,.int p]/\z.length<=1000/\Q (.bl (cT z p)) H
def pC:Sp:=λvs H Q _=>∃a zs,vs=[.ref a]/\Z8 H a=some (zs.map V.str)/\zs.length<=1000/\(∀z∈zs,z.length<=1000)/\∀H',Z_ H H'->Q (.bl (cG zs)) H'
def rP(aN:Addr):Sp:=λvs H Q E=>∃a zs,vs=[.ref a]/\Z8 H a=some (zs.map V.str)/\zs.length<=1000/\(∀z∈zs,z.length<=1000)/\(cG zs=true->∀H',Z_ H H'->Q (.str (Vs zs)) H')/\(cG zs=false->∀H',Z_ H H'->E (.ref aN) none H')
def mR{j:Int}(e:j=(k:Int))(h:k<cw.length):Zc (bB cw).cps.toList j=some (cw.getD k 0):=by
 rw[e];exact NQ h
def iT{i:Int}(e:H p=some (.tup xs))(e':Zc xs i=some v)(h:Q v H):Xp (.ref p) (.int i) H Q:=by
 have e1:Z8 H p=none:=by unfold Z8;rw[e];rfl
 unfold Xp;simp only[e1,eU e,e'];exact h
section
variable {P:Program} {w:World} {K:W.Frag} {base:Heap}
def kY(aC:Addr):Sp:=λvs H Q _=>∃ea v,vs=[.ref ea,v]/\H ea=some (eC ea aC none)/\∀dx,H dx=none->Q .non (upd (upd H ea (eC ea aC (some dx))) dx (Y7 dx [("flag",v)]))
def sG:Z9 ["self", "flag"] ["self", "flag"] (aJ iM):=by fail "sc"
variable(G:Gs K mg Zw Zz Zx Zy)
def sK(F:ZR K "__init__" "Short.__init__" iM f fd):Z4 P w K mg base ZO 1 f fd ["self", "flag"] (kY Zx):=by
 refine F.ok sG (λvs H Q E h=>?_) (λcdv A outer s H vs Q E hr h=>?_)
 .obtain⟨ea,v,rfl,_⟩:=h;rfl
 obtain⟨ea,v,rfl,he,q⟩:=h;refine⟨_,(@aE _ _ _ _ _ (cZ (xP rfl G.c_TowerError G.t1_TowerError G.t2_TowerError G.t3_TowerError (aA (mv 0) (aA (mv 1) aB)))) (@aH _ _ _ (vW (mv 0) (mv 1) rfl))),?_⟩;fail "g";refine⟨ea,[v],Zx,Zz,none,rfl,za0,he,(λ_ z=>nomatch z),G.YD,?_⟩
 fail "g";exact⟨ea,Zx,Zz,rfl,G.YD,G.xn_Short_flag,.inl ⟨he,q⟩⟩
def NY{ea dx:Addr}{o o' o'':HO}(s:Z_ H H1)(h1:H1 ea=none)(h2:upd H1 ea o dx=none):Z_ H (del (upd (upd (upd H1 ea o) ea o') dx o'') ea):=λb u e=>by
 have e1:=s b u e
 have n1:b≠ea:=bM e1 h1
 have n3:dx≠ea:=λz=>by rw[z,aD]at h2;cases h2
 have n2:b≠dx:=λz=>by rw[<-z,aI n1,e1]at h2;cases h2
 rw[dH n1,aI n2,aI n1,aI n1];exact e1
def Tw{ea dx:Addr}{o o' o'':HO}(h2:upd H1 ea o dx=none):upd (upd (upd H1 ea o) ea o') dx o'' ea=some o'/\del (upd (upd (upd H1 ea o) ea o') dx o'') ea dx=some o'':=by
 have n3:dx≠ea:=λz=>by rw[z,aD]at h2;cases h2
 exact⟨by rw[aI n3.symm,aD],by rw[dH n3,aD]⟩
structure Lk (kvs:List (Key×V)) (f:Nat->Option Int):Prop where
 nd:(kvs.map (·.1)).Nodup
 ks:∀kv∈kvs,∃(c:Nat) (n:Int),kv=(Sum.inr (one c),V.int n)
 val:∀c,bZ kvs (Sum.inr (one c))=(f c).map V.int
def Lk.nil:Lk [] (λ_=>none):=⟨List.nodup_nil,(λkv h=>nomatch h),λc=>rfl⟩
def Zu{a b:Nat}:((Sum.inr (one a):Key)=Sum.inr (one b)) ↔ a=b:=⟨λh=>one_inj.mp (Sum.inr.inj h),λh=>by rw[h]⟩
def RX:∀ {l:List α} {k:α},l.Nodup->¬k∈l->(l++[k]).Nodup
 |[],k,_,_=>by simp
 |a::r,k,h,hk=>by
  obtain⟨h1,h2⟩:=Bz.mp h;refine Bz.mpr ⟨λm=>?_,RX h2 λm=>hk (Ao _ m)⟩;rcases Bs.mp m with q|q
  .exact h1 q
  .exact hk (by rw[Bc.mp q];exact Aq ..)
def OV{k:Key}(h:bZ kvs k=none):¬k∈kvs.map (·.1):=λm=>by
 obtain⟨p,hp,e⟩:=Bg.mp m;have q:(kvs.any λkv=>decide (kv.1=k))=true:=Ft.mpr ⟨p,hp,Ap e⟩
 rw[dP,h]at q;cases q
def xY(kvs:List (Key×V))(k:Key)(v:V)(h:bZ kvs k≠none):(dJ kvs k v).map (·.1)=kvs.map (·.1):=by
 unfold dJ;have e:(kvs.any λkv=>decide (kv.1=k))=true:=by
  rw[dP];cases q:bZ kvs k with
  |none=>exact absurd q h
  |some _=>rfl
 rw[if_pos e,Bu];refine Bw λkv _=>?_;show (if kv.1=k then (kv.1,v) else kv).1=kv.1
 split<;>rfl
def Lk.put{f:Nat->Option Int}(h:Lk kvs f)(c:Nat)(n:Int):Lk (dJ kvs (Sum.inr (one c)) (.int n)) (λd=>if d=c then some n else f d) where
 nd:=by
  cases e:bZ kvs (Sum.inr (one c)) with
  |none=>rw[jJ _ e,Aj];exact RX h.nd (OV e)
  |some v=>rw[xY _ _ _ (by rw[e];exact λz=>nomatch z)];exact h.nd
 ks:=λkv hkv=>by
  unfold dJ at hkv;split at hkv
  .obtain⟨kv',h',e⟩:=Bg.mp hkv;obtain⟨c',n',e'⟩:=h.ks kv' h';subst e';dsimp only at e;split at e
   .exact⟨c',n,e.symm⟩
   .exact⟨c',n',e.symm⟩
  .rcases Bs.mp hkv with q|q
   .exact h.ks kv q
   .exact⟨c,n,Bc.mp q⟩
 val:=λd=>by
  rw[Qh];by_cases e:d=c
  .rw[if_pos (Zu.mpr e),if_pos e];rfl
  .rw[if_neg (λz=>e (Zu.mp z)),if_neg e];exact h.val d
def Mb(nd:(kvs.map (·.1)).Nodup){kv:Key×V}(h:kv∈kvs):bZ kvs kv.1=some kv.2:=by
 induction kvs with
 |nil=>cases h
 |cons p r ih=>
  obtain⟨n1,n2⟩:=Bz.mp nd;rcases Az.mp h with e|e
  .subst e;exact cH rfl
  .rw[bX λz=>n1 (by show p.1∈_;rw[z];exact Bg.mpr ⟨kv,e,rfl⟩)]
   exact ih n2 e
def qL[DecidableEq α]:∀ {l m:List α},l.Nodup->(∀x∈l,x∈m)->l.length<=m.length
 |[],m,_,_=>Cs _
 |a::r,m,h,s=>by
  obtain⟨h1,h2⟩:=Bz.mp h;have q:=qL (l:=r) (m:=m.erase a) h2 λx hx=>(List.mem_erase_of_ne λz=>h1 (by rw[<-z];exact hx)).mpr (s x (Ao _ hx))
  have ha:=s a (Aq ..)
  rw[List.length_erase_of_mem ha]at q;have:=List.length_pos_of_mem ha
  rw[Av];omega
def Lk.YZ{f:Nat->Option Int}(h:Lk kvs f){kv:Key×V}(hkv:kv∈kvs):∃c n,kv=(Sum.inr (one c),V.int n)/\f c=some n:=by
 obtain⟨c,n,e⟩:=h.ks kv hkv;have v:=Mb h.nd hkv
 rw[e]at v;have v2:=h.val c
 rw[v2]at v;cases q:f c with
 |none=>rw[q]at v;cases v
 |some m=>rw[q]at v;cases v;exact⟨c,_,e,q⟩
def Lk.keys{kws:List (Key×V)}{f:Nat->Option Int}(h:Lk kvs f)(h':Lk kws f):∀x∈kvs.map (·.1),x∈kws.map (·.1):=λx hx=>by
 obtain⟨kv,hkv,rfl⟩:=Bg.mp hx;obtain⟨c,n,rfl,hf⟩:=h.YZ hkv;have v:=h'.val c
 rw[hf]at v;have q:(kws.any λkv=>decide (kv.1=Sum.inr (one c)))=true:=by rw[dP,v];rfl
 obtain⟨p,hp,e⟩:=Ft.mp q;exact Bg.mpr ⟨p,hp,Bi e⟩
def Lk.OL{kws:List (Key×V)}{f:Nat->Option Int}(h:Lk kvs f)(h':Lk kws f):V4 kvs kws:=by
 refine⟨?_,λkv hkv=>?_⟩
 .have a:=qL h.nd (h.keys h')
  have b:=qL h'.nd (h'.keys h)
  rw[Ab,Ab]at a b;omega
 .obtain⟨c,n,rfl,hf⟩:=h.YZ hkv;exact⟨rfl,by rw[h'.val c,hf];rfl⟩
def aP(f:Nat->Option Int)(c:Nat):Int:=(f c).getD 0
def fP(c:Nat):Prop:=bY c\/cX c
instance (c:Nat):Decidable (fP c):=inferInstanceAs (Decidable (_\/_))
def bD(n:Nat->Int)(c:Nat):Option Int:=if fP c/\0<n c then some (n c) else none
def mT{m:Nat->Int}(h:∀c,fP c->m c=n c):bD m=bD n:=by
 funext c
 unfold bD;by_cases q:fP c
 .rw[h c q]
 .rw[if_neg λz=>q z.1,if_neg λz=>q z.1]
def dW{n:Nat->Int}{c:Nat}(hc:fP c)(h:0<=n c):aP (bD n) c=n c:=by
 unfold aP bD;by_cases q:0<n c
 .rw[if_pos ⟨hc,q⟩];rfl
 .rw[if_neg λz=>q z.2];show (0:Int)=n c;omega
def Lk.ext{f g:Nat->Option Int}(h:Lk kvs f)(e:f=g):Lk kvs g:=e▸h
def gA(f:Nat->Option Int)(c:Nat):((f c).map V.int).getD (.int 0)=.int (aP f c):=by
 unfold aP;cases f c<;>rfl
def ZQ{c:Nat}:c∈Z1.cps.toList ↔ fP c:=tQ
def So(n:Nat->Int)(i c:Nat):Option Int:=if c∈Z1.cps.toList.take i/\0<n c then some (n c) else none
def Jm(n:Nat->Int):So n 0=λ_=>none:=by
 funext c
 unfold So;rw[Fv];exact if_neg λz=>nomatch z.1
def Zb(g:Nat->Int)(L:List Nat):List (Key×V):=L.map λc=>(Sum.inr (one c),V.int (g c))
def cD(n:Nat->Int)(i:Nat):List Nat:=(Z1.cps.toList.take i).filter λc=>decide (0<n c)
def yB{g:Nat->Int}{c:Nat}(h:c∉L):bZ (Zb g L) (Sum.inr (one c))=none:=by
 induction L with
 |nil=>rfl
 |cons d r ih=>
  show bZ ((Sum.inr (one d),V.int (g d))::Zb g r) _=none
  rw[bX (λz=>h (by rw[Zu.mp z];exact Aq)),ih λz=>h (Ao _ z)]
def Ys:Z1.cps.toList.Nodup:=by decide +kernel
def Y1{c:Nat}:c∈cD n i ↔ c∈Z1.cps.toList.take i/\0<n c:=by
 unfold cD;rw[Dr,Bh]
def ME{c:Nat}(h:Z1.cps.toList[i]?=some c):c∉cD n i:=λz=>by
 have m:=(Y1.mp z).1
 obtain⟨j,hj,e⟩:=Cg.mp m;rw[Bt]at hj;rw[List.getElem_take]at e;obtain⟨hi,e2⟩:=Ad.mp h;have:=(Gm Ys).mp (e.trans e2.symm)
 omega
def zS{c:Nat}(h:Z1.cps.toList[i]?=some c)(p:0<n c):cD n (i+1)=cD n i++[c]:=by
 unfold cD;rw[Be,h,Fe];show _++[c].filter _=_
 rw[show [c].filter (λc=>decide (0<n c))=[c] by simp[p]]
def Nv{c:Nat}(h:Z1.cps.toList[i]?=some c)(p:¬0<n c):cD n (i+1)=cD n i:=by
 unfold cD;rw[Be,h,Fe];show _++[c].filter _=_
 rw[show [c].filter (λc=>decide (0<n c))=[] by simp;omega,List.append_nil]
def hX(n:Nat->Int)(i:Nat):(cD n i).length<=27:=by
 unfold cD;exact Bd (List.length_filter_le ..) (by rw[Bt];exact Bd (Nat.min_le_right ..) (by decide))
def Nq(n:Nat->Int)(i:Nat):(cD n i).Nodup:=(Ys.sublist (Ha ..)).filter _
def Ws(g:Nat->Int)(L:List Nat)(d:Nat):Option Int:=if d∈L then some (g d) else none
def JY(g:Nat->Int){r:List Nat}{c:Nat}(hc:c∉r)(h:Lk (Zb g r) (Ws g r)):Lk (Zb g (r++[c])) (Ws g (r++[c])):=by
 have l:=h.put c (g c)
 rw[jJ _ (yB hc)]at l;have e:Zb g (r++[c])=Zb g r++[(Sum.inr (one c),V.int (g c))]:=by unfold Zb;rw[Aj];rfl
 rw[e];refine l.ext ?_;funext d
 unfold Ws;by_cases hd:d=c
 .subst hd;rw[if_pos rfl,if_pos (Bk _ (Bc.mpr rfl))]
 .rw[if_neg hd];by_cases hr:d∈r
  .rw[if_pos hr,if_pos (Cb _ hr)]
  .rw[if_neg hr,if_neg (λz=>(Bs.mp z).elim hr λy=>hd (Bc.mp y))]
def R8(g:Nat->Int):∀(L r:List Nat),(r++L).Nodup->Lk (Zb g r) (Ws g r)->Lk (Zb g (r++L)) (Ws g (r++L))
 |[],r,_,h=>by rw[Bq];exact h
 |c::L,r,nd,h=>by
  have e:r++c::L=(r++[c])++L:=by rw[List.append_assoc];rfl
  have hc:c∉r:=λz=>(Dc.mp nd).2.2 c z c Aq rfl
  rw[e]at nd ⊢;exact R8 g L (r++[c]) nd (JY g hc h)
def QJ(g:Nat->Int)(nd:L.Nodup):Lk (Zb g L) (λd=>if d∈L then some (g d) else none):=by
 have r:=R8 g L [] nd (Lk.nil.ext (by funext d;unfold Ws;rw[if_neg (λz=>nomatch z)]))
 exact r
def gN(n:Nat->Int):Lk (Zb n (cD n 27)) (bD n):=by
 refine(QJ n (Nq n 27)).ext ?_;funext d
 unfold bD;have e:d∈cD n 27 ↔ fP d/\0<n d:=by
  rw[Y1,Bl (by decide),ZQ]
 by_cases h:d∈cD n 27
 .rw[if_pos h,if_pos (e.mp h)]
 .rw[if_neg h,if_neg (λz=>h (e.mpr z))]
def dQ:Sp:=λvs H Q _=>∃(a:Addr) (kvs:List (Key×V)) (f:Nat->Option Int),vs=[.ref a]/\Rd H a (.dK kvs)/\Lk kvs f/\
 ∀(r:Addr) (H':Hp),H r=none->Z_ H H'->H' r=some (.dK (Zb (aP f) (cD (aP f) 27)))->Q (.ref r) H'
def o5:Z9 ["locker", "plain", "flag"] ["locker"] (aJ fW):=by fail "sc"
def pT(F:ZR K "plain_locker" "plain_locker" fW f fd):Z4 P w K mg base ZO 1 f fd ["locker"] dQ:=by
 refine F.ok o5 (λvs H Q E h=>?_) (λcdv A outer s H vs Q E hr h=>?_)
 .obtain⟨a,kvs,f,rfl,_⟩:=h;rfl
 obtain⟨a,kvs,f,rfl,ha,lk,q⟩:=h;refine⟨_,(@aE _ _ _ _ _ (aO 1 o5.nd qW) (@aE _ _ _ _ _ (bU Bf rfl (pA (kL rfl G.s_FLAGS)) (aQ (i:=2) o5.nd rfl (Or.inl rfl)) (@aH _ _ _ (bT (aW Wc (dO Bx Cr (pF (Z5.u1 hr)) (mv 0) (aA (mv 2) (aA aK aB))) aK (bC _)) (@aH _ _ _ (fG (Z5.u1 hr) (mv 1) (mv 2) (gF (Z5.u1 hr) (mv 0) (mv 2) (λ_ _=>rfl)) rfl)) bA))) (@aH _ _ _ (aR (mv 1))))),?_⟩;fail "g";intro p hp;fail "g";refine Pu (λi U H'=>∃(v:Option V),U=[some (.ref a),some (.ref p),v]/\Z_ H H'/\H' p=some (.dK (Zb (aP f) (cD (aP f) i))))
  ⟨none,rfl,aF hp _,aD⟩ ?_ ?_
 .rintro i c U H2 hc ⟨v,rfl,s2,hH⟩;have hi:i<27:=(Ad.mp hc).1
  have ha2:Rd H2 a (.dK kvs):=ha.elim (λe=>.inl (s2 _ _ e)) λ⟨o,e⟩=>.inr ⟨o,s2 _ _ e⟩
  have hd2:Yh H2 a=true:=ha2.elim jU λ⟨o,e⟩=>S8 e
  have hpl:(Zb (aP f) (cD (aP f) i)).length<sizeLine:=aY (by unfold Zb;rw[Ab];have:=hX (aP f) i;omega)
  fail "g";refine pN (z:=one c) ha2 ?_;rw[lk.val c,gA];fail "g";refine gM (λhd=>?_) (λhd=>?_)
  .have hd':=Bi hd
   obtain⟨n,hn⟩:∃n,f c=some n:=by
    cases e:f c with
    |none=>rw[show aP f c=0 by unfold aP;rw[e];rfl]at hd';omega
    |some n=>exact⟨n,rfl⟩
   have hcn:aP f c=n:=by unfold aP;rw[hn];rfl
   fail "g";refine qF (z:=one c) ha2 (by rw[lk.val c,hn];rfl) ?_
   fail "g";refine iI (z:=one c) hH hpl ?_;refine⟨_,rfl,bF hp s2,?_⟩;rw[aD,jJ _ (yB (ME hc)),zS hc (by omega)]
   unfold Zb;rw[Aj,<-hcn];rfl
  .have hd':=Ca (Ce.mpr hd)
   fail "g";exact⟨_,rfl,s2,by rw[hH,Nv hc (by omega)]⟩
 .rintro U H2 ⟨v,rfl,s2,hH⟩;fail "g";exact q p H2 hp s2 hH
def cnt(cs:List Nat)(c:Nat):Int:=((cs.countP (· == c):Nat):Int)
def jY{c:Nat}(h:cs[i]?=some c)(d:Nat):cnt (cs.take (i+1)) d=cnt (cs.take i) d+if d=c then 1 else 0:=by
 unfold cnt;rw[Be,h,Gx];show (((cs.take i).countP (· == d)+[c].countP (· == d):Nat):Int)=_
 by_cases e:d=c
 .subst e;rw[if_pos rfl,List.countP_cons,List.countP_nil,if_pos (by simp)]
  push_cast
  rfl
 .rw[if_neg e,List.countP_cons,List.countP_nil,if_neg (by simp;exact λz=>e z.symm)]
  push_cast
  rfl
def O2{c:Nat}(h:cs[i]?=some c):cnt (cs.take i) c+1<=cnt cs c:=by
 have e:=jY h c
 rw[if_pos rfl]at e;rw[<-e];unfold cnt;have:(cs.take (i+1)).countP (· == c)<=cs.countP (· == c):=List.Sublist.countP_le (Ha _ _)
 omega
def fO(cs:List Nat)(c:Nat):0<=cnt cs c:=by unfold cnt;omega
def vD(f:Nat->Option Int)(cs:List Nat)(k:Nat):Prop:=∀j d,j<k->cs[j]?=some d->cnt (cs.take j) d<aP f d
def sZ{f:Nat->Option Int}(c:Nat)(h0:0<=aP f c):∀ {k:Nat},vD f cs k->cnt (cs.take k) c<=aP f c
 |0,_=>by rw[Fv];exact h0
 |k+1,h=>by
  have ih:=sZ c h0 (k:=k) λj d hj=>h j d (by omega)
  cases e:cs[k]? with
  |none=>rw[List.take_add_one,e];simpa using ih
  |some d=>
   rw[jY e];have hd:=h k d (by omega) e
   by_cases z:c=d
   .subst z;rw[if_pos rfl];omega
   .rw[if_neg z];omega
def wY(aC:Addr):Sp:=λvs H Q E=>∃(a b:Addr) (kvs:List (Key×V)) (f:Nat->Option Int) (cs:List Nat),vs=[.ref a,.ref b]/\H a=some (.dK kvs)/\Lk kvs f/\(∀c,0<=aP f c)/\Z8 H b=some ((cs.map one).map V.str)/\cs.length<=1000/\(∀c∈cs,fP c)/\
 (vD f cs cs.length->∀(r:Addr) (kws:List (Key×V)) (H':Hp),H r=none->Z_ H H'->H' r=some (.dK kws)->Lk kws (bD λc=>aP f c-cnt cs c)->Q (.ref r) H')/\
 (∀i c,cs[i]?=some c->vD f cs i->aP f c<=cnt (cs.take i) c->∀(dx:Addr) (H':Hp),Z_ H H'->H' dx=some (Y7 dx [("flag",.str (one c))])->E (.ref aC) (some dx) H')
def o6:Z9 ["locker", "flags", "left", "flag"] ["locker", "flags"] (aJ vF):=by fail "sc"
def QK(F:ZR K "taken" "taken" vF f fd)(y6:ZP P w K mg base 1 "plain_locker" ["locker"] dQ)(o7:WE P w K mg base 1 Zx ["self", "flag"] (kY Zx)):Z4 P w K mg base (YG P w) 3 f fd ["locker", "flags"] (wY Zx):=by
 refine F.Wx o6 (λvs H Q E h=>?_) (λcdv A outer s H vs Q E hr h=>?_)
 .obtain⟨a,b,kvs,f,cs,rfl,_⟩:=h;rfl
 obtain⟨a,b,kvs,f,cs,rfl,ha,lk,hf0,hb,hcs,hfl,q,qe⟩:=h;refine⟨_,(@aE _ _ _ _ _ (aO 2 o6.nd (aV y6 hr (by decide) rfl (aA (mv 0) aB))) (@aE _ _ _ _ _ (bU PassesOwn.leaving rfl (bP (mv 1)) (aQ (i:=3) o6.nd rfl (Or.inl rfl)) (@aE _ _ _ _ _ (bT (aW sM (dO Bx Cr (pF (Z5.u1 hr)) (mv 2) (aA (mv 3) (aA aK aB))) aK (bC _)) (@aH _ _ _ (nY qC rfl rfl rfl G.c_Short G.XM o7 hr (by decide) (aA (mv 3) aB))) bA) (@aH _ _ _ (fG (Z5.u1 hr) (mv 2) (mv 3) (aX kQ (gF (Z5.u1 hr) (mv 2) (mv 3) (λ_ _=>rfl)) aK) rfl)))) (@aH _ _ _ (aR (aV y6 hr (by decide) rfl (aA (mv 2) aB)))))),?_⟩
 fail "g";refine⟨a,kvs,f,rfl,.inl ha,lk,λp H1 hp s1 hp1=>?_⟩;have lw:Lk (Zb (aP f) (cD (aP f) 27)) _:=gN (aP f)
 have hwl:(Zb (aP f) (cD (aP f) 27)).length<=27:=by unfold Zb;rw[Ab];exact hX _ _
 generalize Zb (aP f) (cD (aP f) 27)=kws at hp1 lw hwl;have hb1:=aG s1 hb
 fail "g";refine cP (xs:=(cs.map one).map V.str) (λi U H'=>∃(kvs':List (Key×V)) (g:Nat->Option Int) (v:Option V),U=[some (.ref a),some (.ref b),some (.ref p),v]/\Z_ H H'/\H' p=some (.dK kvs')/\Lk kvs' g/\(∀c,aP g c=aP (bD (aP f)) c-cnt (cs.take i) c)/\kvs'.length<=27+i/\vD f cs i)
  ⟨kws,_,_,rfl,s1,hp1,lw,λc=>by rw[Fv];show _=_-((0:Nat):Int);omega,by omega,λj d hj=>by omega⟩ (λi U H' _ ⟨_,_,_,_,e,_⟩=>aG e hb) ?_ ?_
 .rintro i x U H2 hx ⟨kvs',g,v,rfl,s2,hH,lg,hg,hl,hen⟩;have hi:i<cs.length:=by have:=(Ad.mp hx).1;rw[Ab,Ab]at this;exact this
  obtain⟨c,hc⟩:∃c,cs[i]?=some c:=⟨_,Aa hi⟩;obtain rfl:x=V.str (one c):=by rw[Af,Af,hc]at hx;cases hx;rfl
  have hpl:kvs'.length<sizeLine:=aY (by omega)
  have hfc:=hfl c (Ah hc)
  have hgc:=hg c
  rw[dW hfc (hf0 c)]at hgc;have hle:=sZ c (hf0 c) hen
  fail "g";refine pN (z:=one c) (.inl hH) ?_;rw[lg.val c,gA];fail "g";refine gM (λhd=>?_) (λhd=>?_)
  .have hd':=Bi hd
   fail "g";refine⟨za0,λea hea=>⟨ea,_,rfl,aD,λdx hdx=>⟨rfl,some dx,(Tw hdx).1,?_⟩⟩⟩
   exact qe i c hc hen (by omega) dx _ (NY s2 hea hdx) (Tw hdx).2
  .have hd':=Ca (Ce.mpr hd)
   obtain⟨n,hn⟩:∃n,g c=some n:=by
    cases e:g c with
    |none=>exact absurd (show aP g c=0 by unfold aP;rw[e];rfl) hd'
    |some n=>exact⟨n,rfl⟩
   have hcn:aP g c=n:=by unfold aP;rw[hn];rfl
   fail "g";refine qF (z:=one c) (.inl hH) (by rw[lg.val c,hn];rfl) ?_
   fail "g";refine iI (z:=one c) hH hpl ?_;refine⟨_,_,_,rfl,bF hp s2,aD,lg.put c (n-1),λd=>?_,by have:=fD kvs' (Sum.inr (one c)) (.int (n-1));omega,λj d hj hjd=>?_⟩
   .rw[jY hc];have:=hg d
    by_cases e:d=c
    .subst e;show ((if d=d then some (n-1) else g d):Option Int).getD 0=_
     rw[if_pos rfl,if_pos rfl];show n-1=_
     omega
    .show ((if d=c then some (n-1) else g d):Option Int).getD 0=_
     rw[if_neg e,if_neg e];show aP g d=_
     omega
   .by_cases e:j=i
    .subst e;rw[hc]at hjd;cases hjd;omega
    .exact hen j d (by omega) hjd
 .rintro U H2 ⟨kvs',g,v,rfl,s2,hH,lg,hg,hl,hen⟩;have ecs:((cs.map one).map V.str).length=cs.length:=by rw[Ab,Ab]
  rw[ecs]at hg hl hen;fail "g";refine⟨p,kvs',g,rfl,.inl hH,lg,λr H3 hr s3 hr3=>?_⟩;have l3:Lk (Zb (aP g) (cD (aP g) 27)) _:=gN (aP g)
  generalize Zb (aP g) (cD (aP g) 27)=kws' at hr3 l3;refine q hen r kws' H3 (bK s2 hr) (s2.trans s3) hr3 (l3.ext (mT λc hc=>?_));rw[hg c,dW hc (hf0 c),Bl (Ai _)]
def oI:Sp:=λvs H Q _=>∃(a b:Addr) (kvs:List (Key×V)) (f:Nat->Option Int) (cs:List Nat),vs=[.ref a,.ref b]/\H a=some (.dK kvs)/\Lk kvs f/\(∀c,0<=aP f c)/\Z8 H b=some ((cs.map one).map V.str)/\cs.length<=1000/\
 ∀(r:Addr) (kws:List (Key×V)) (H':Hp),H r=none->Z_ H H'->H' r=some (.dK kws)->Lk kws (bD λc=>aP f c+cnt cs c)->Q (.ref r) H'
def o8:Z9 ["locker", "flags", "more", "flag"] ["locker", "flags"] (aJ rW):=by fail "sc"
def OM(F:ZR K "put_in" "put_in" rW f fd)(G:Gs K mg Zw Zz Zx Zy)(y6:ZP P w K mg base 1 "plain_locker" ["locker"] dQ):Z4 P w K mg base ZO 2 f fd ["locker", "flags"] oI:=by
 refine F.ok o8 (λvs H Q E h=>?_) (λcdv A outer s H vs Q E hr h=>?_)
 .obtain⟨a,b,kvs,f,cs,rfl,_⟩:=h;rfl
 obtain⟨a,b,kvs,f,cs,rfl,ha,lk,hf0,hb,hcs,q⟩:=h;refine⟨_,(@aE _ _ _ _ _ (aO 2 o8.nd (aV y6 hr (by decide) rfl (aA (mv 0) aB))) (@aE _ _ _ _ _ (bU Bf rfl (bP (mv 1)) (aQ (i:=3) o8.nd rfl (Or.inl rfl)) (@aH _ _ _ (fG (Z5.u1 hr) (mv 2) (mv 3) (aX bS (dO Bx Cr (pF (Z5.u1 hr)) (mv 2) (aA (mv 3) (aA aK aB))) aK) rfl))) (@aH _ _ _ (aR (aV y6 hr (by decide) rfl (aA (mv 2) aB)))))),?_⟩
 fail "g";refine⟨a,kvs,f,rfl,.inl ha,lk,λp H1 hp s1 hp1=>?_⟩;have lw:Lk (Zb (aP f) (cD (aP f) 27)) _:=gN (aP f)
 have hwl:(Zb (aP f) (cD (aP f) 27)).length<=27:=by unfold Zb;rw[Ab];exact hX _ _
 generalize Zb (aP f) (cD (aP f) 27)=kws at hp1 lw hwl;have hb1:=aG s1 hb
 fail "g";refine cP (xs:=(cs.map one).map V.str) (λi U H'=>∃(kvs':List (Key×V)) (g:Nat->Option Int) (v:Option V),U=[some (.ref a),some (.ref b),some (.ref p),v]/\Z_ H H'/\H' p=some (.dK kvs')/\Lk kvs' g/\(∀c,aP g c=aP (bD (aP f)) c+cnt (cs.take i) c)/\kvs'.length<=27+i)
  ⟨kws,_,_,rfl,s1,hp1,lw,λc=>by rw[Fv];show _=_+((0:Nat):Int);omega,by omega⟩ (λi U H' _ ⟨_,_,_,_,e,_⟩=>aG e hb) ?_ ?_
 .rintro i x U H2 hx ⟨kvs',g,v,rfl,s2,hH,lg,hg,hl⟩;have hi:i<cs.length:=by have:=(Ad.mp hx).1;rw[Ab,Ab]at this;exact this
  obtain⟨c,hc⟩:∃c,cs[i]?=some c:=⟨_,Aa hi⟩;obtain rfl:x=V.str (one c):=by rw[Af,Af,hc]at hx;cases hx;rfl
  have hpl:kvs'.length<sizeLine:=aY (by omega)
  fail "g";refine pN (z:=one c) (.inl hH) ?_;rw[lg.val c,gA];fail "g";refine iI (z:=one c) hH hpl ?_;refine⟨_,_,_,rfl,bF hp s2,aD,lg.put c (aP g c+1),λd=>?_,by have:=fD kvs' (Sum.inr (one c)) (.int (aP g c+1));omega⟩
  rw[jY hc];have:=hg d
  by_cases e:d=c
  .subst e;show ((if d=d then some (aP g d+1) else g d):Option Int).getD 0=_
   rw[if_pos rfl,if_pos rfl];show aP g d+1=_
   omega
  .show ((if d=c then some (aP g c+1) else g d):Option Int).getD 0=_
   rw[if_neg e,if_neg e];show aP g d=_
   omega
 .rintro U H2 ⟨kvs',g,v,rfl,s2,hH,lg,hg,hl⟩;fail "g";refine⟨p,kvs',g,rfl,.inl hH,lg,λr H3 hr s3 hr3=>?_⟩;refine q r _ H3 (bK s2 hr) (s2.trans s3) hr3 ((gN (aP g)).ext (mT λc hc=>?_));rw[hg c,dW hc (hf0 c),Bl (by rw[Ab,Ab];exact Ai _)]
def kR:Sp:=λvs H Q _=>∃(cw:List Nat) (k:Nat) (p:Int),vs=[.str (bB cw),.int p]/\p=(k:Int)+1/\k<cw.length/\cw.length<=7/\
 ∀(r:Addr) (H':Hp),H r=none->Z_ H H'->H' r=some (.lst (((Yp cw k).map one).map V.str))->Q (.ref r) H'
def Ko(G:Nat->Option β)(k:Nat):[0,1,2,3].filterMap (λn=>if n<k then G n else none)=(List.range (min k 4)).filterMap G:=by
 match k with
 |0=>rfl
 |1=>rfl
 |2=>rfl
 |3=>rfl
 |k+4=>
  rw[Fu (by omega)]
  exact nF λn hn=>if_pos (by simp only[List.mem_cons,List.not_mem_nil,or_false]at hn;omega)
def Wq(cw:List Nat)(k:Nat)(c:Nat):Option V:=if c-49<k then (if cw.getD (c-49) 0=cw.getD k 0 then some (.str (one c)) else none) else none
def P_(cw:List Nat)(k:Nat):Y4.cps.toList.filterMap (Wq cw k)=(((List.range (min k 4)).filterMap (X4 cw k)).map one).map V.str:=by
 rw[zJ,show [49,50,51,52]=[0,1,2,3].map (49+·) from rfl,List.filterMap_map,Bu,List.map_filterMap,<-Ko];refine nF λn _=>?_;show Wq cw k (49+n)=_
 unfold Wq X4;rw[show 49+n-49=n by omega]
 by_cases h1:n<k
 .rw[if_pos h1,if_pos h1];by_cases h2:cw.getD n 0=cw.getD k 0
  .rw[if_pos h2,if_pos h2];rfl
  .rw[if_neg h2,if_neg h2];rfl
 .rw[if_neg h1,if_neg h1]
def o9:Z9 ["word", "place", "letter", "above"] ["word", "place"] (aJ fK):=by fail "sc"
def sE(F:ZR K "choices_at" "choices_at" fK f fd):Z4 P w K mg base ZO 1 f fd ["word", "place"] kR:=by
 refine F.ok o9 (λvs H Q E h=>?_) (λcdv A outer s H vs Q E hr h=>?_)
 .obtain⟨cw,k,p,rfl,_⟩:=h;rfl
 obtain⟨cw,k,pl,rfl,hpl,hk,h7,q⟩:=h;refine⟨_,(@aE _ _ _ _ _ (aO 2 o9.nd (bI cE (mv 0) (aX kQ (mv 1) aK) (λ_ _=>rfl))) (@aE _ _ _ _ _ (qD (i:=3) o9.nd rfl (Or.inl rfl) rfl (pA (kL rfl G.s_SUBSTITUTES)) (dF (N:=["sign", "place", "letter", "word"]) ["word", "place", "letter", "above"] (aJ fK) [none,some 1,some 2,some 0] rfl rfl rfl (λx h=>bJ h) (by decide +kernel)) (by decide +kernel) rfl (by decide +kernel) (λ_ _ _ _=>(aQ (i:=0) (show List.Nodup (["sign", "place", "letter", "word"]:List Str) by decide +kernel) rfl (Or.inl rfl))) (λ_ _ _ _=>(jI (PW.pt (hU (aW Wv (bV V1 rfl G.b_int uS (aA (mv 0) aB)) (mv 1) (bC _)) (gC (aW sM (bI cE (mv 3) (aX kQ (bV V1 rfl G.b_int uS (aA (mv 0) aB)) aK) (λ_ _=>rfl)) (mv 2) (bC _))))))) (λ_ _ _ _=>(mv 0))) (@aH _ _ _ (aR (aX bS (bL (aA (mv 2) aB)) (mv 3)))))),?_⟩
 have hwl:(bB cw).length=cw.length:=fB cw
 fail "g";refine pJ (by rw[hwl];exact bE (by omega)) (mR (k:=k) (by omega) hk) ?_
 fail "g";refine Ma (Wq cw k) (aY (by decide)) (λi c Hc A B hc' hA=>?_) (λD hD=>?_)
 .have hs:cX c:=YY.mp (Ah hc')
  have h49:49<=c:=hs.1
  fail "g";refine⟨Wk.set rfl (Wk.refl _),?_⟩;fail "g";refine wF (pZ hs) (by show 1<=640;decide) ?_
  fail "g";unfold Wq at hA;refine gM (λhd=>?_) (λhd=>?_)
  .have hd':=Bi hd
   have hck:c-49<k:=by omega
   rw[if_pos hck]at hA;fail "g";refine wF (pZ hs) (by show 1<=640;decide) ?_
   fail "g";refine pJ (by rw[hwl];exact bE (by omega)) (mR (k:=c-49) (by omega) (by omega)) ?_
   fail "g";rw[show decide (({cps:=#[cw.getD (c-49) 0]}:Str)={cps:=#[cw.getD k 0]})=decide (cw.getD (c-49) 0=cw.getD k 0) from wB _ _];by_cases he:cw.getD (c-49) 0=cw.getD k 0
   .rw[Ap he];rw[if_pos he]at hA;fail "g";exact hA
   .rw[Al he];rw[if_neg he]at hA;fail "g";exact hA
  .have hd':=Ca (Ce.mpr hd)
   have hck:¬c-49<k:=by omega
   rw[if_neg hck]at hA;fail "g";exact hA
 .rw[show (Str.ofString "1234").cps.toList.filterMap (Wq cw k)=_ from P_ cw k];fail "g";refine⟨za0,λp hp=>?_⟩
  have hDp:D≠p:=λz=>by rw[z,aD]at hp;cases hp
  have hp0:H p=none:=by rw[aI (Ne.symm hDp)]at hp;exact hp
  have hlen:((((List.range (min k 4)).filterMap (X4 cw k)).map one).map V.str).length<=4:=by
   have:=Do (X4 cw k) (List.range (min k 4))
   rw[Bm]at this;rw[Ab,Ab];omega
  fail "g";refine eM (xs:=[V.str (one (cw.getD k 0))]) (ys:=(((List.range (min k 4)).filterMap (X4 cw k)).map one).map V.str) oF (by rw[OS hDp];exact oF) (bE (by show 1+_<=_;omega)) λr hr=>?_
  have hr0:H r=none:=by
   by_cases z:r=p
   .rw[z];exact hp0
   .rw[aI z]at hr;by_cases z2:r=D
    .rw[z2];exact hD
    .rw[aI z2]at hr;exact hr
  fail "g";exact q r _ hr0 ((aF hD _).trans ((aF hp _).trans (aF hr _))) aD
def WM(cws:List (List Nat))(k:Nat):List (List V):=(List.range (cws.getD k []).length).map λj:Nat=>[V.int (k:Int),V.int (1+(j:Int))]
def lL(cws:List (List Nat))(i:Nat):List (List V):=((List.range i).map (WM cws)).flatten
def jF(cws:Q6)(i:Nat):lL cws (i+1)=lL cws i++WM cws i:=by
 unfold lL;rw[Cm,Aj,List.flatten_append];simp
def LV{k:Nat}(h7:∀c∈cws,c.length<=7):(WM cws k).length<=7:=by
 unfold WM;rw[Ab,Bm,Ac];cases e:cws[k]? with
 |none=>exact Cs _
 |some c=>exact h7 c (Ah e)
def lC(h7:∀c∈cws,c.length<=7):∀i,(lL cws i).length<=7*i
 |0=>Ai _
 |i+1=>by
  rw[jF,Ak];have:=lC h7 i
  have:=LV (k:=i) h7
  omega
def yS(h:((cws.map bB).map V.str)[i]?=some x):∃c,cws[i]?=some c/\c∈cws/\x=.str (bB c):=by
 rw[Af,Af]at h;cases e:cws[i]? with
 |none=>rw[e]at h;cases h
 |some c=>rw[e]at h;cases h;exact⟨c,rfl,Ah e,rfl⟩
def pE:Sp:=λvs H Q _=>∃(a:Addr) (cws:List (List Nat)),vs=[.ref a]/\Z8 H a=some ((cws.map bB).map V.str)/\cws.length<=8/\(∀c∈cws,c.length<=7)/\
 ∀(r:Addr) (ps:List Addr) (H':Hp),H r=none->Z_ H H'->H' r=some (.lst (ps.map V.ref))->ZL H H' ps (lL cws cws.length)->Q (.ref r) H'
def n4:Z9 ["words", "wants", "number", "word"] ["words"] (aJ iJ):=by fail "sc"
def xI(F:ZR K "wants_of" "wants_of" iJ f fd):Z4 P w K mg base ZO 1 f fd ["words"] pE:=by
 refine F.ok n4 (λvs H Q E h=>?_) (λcdv A outer s H vs Q E hr h=>?_)
 .obtain⟨a,cws,rfl,_⟩:=h;rfl
 obtain⟨a,cws,rfl,ha,h8,h7,q⟩:=h;refine⟨_,(@aE _ _ _ _ _ (aO 1 n4.nd (bL aB)) (@aE _ _ _ _ _ (bU Bf rfl (vN rfl G.b_enumerate (aA (mv 0) aB)) (hJ (K:=K) (i:=2) (j:=3) (by rfl) (by rfl) n4.nd (by rfl) (by exact(Or.inr rfl)) (by exact Or.inl rfl) (by rfl) (by exact(Or.inl rfl)) (by exact Or.inl rfl)) (@aH _ _ _ (cZ (dD Cc Ek El wI (mv 1) (aA (bW rfl (oH rfl G.b_range (aA aK (aA (aX bS (aU cS rfl G.b_len cC (aA (mv 3) aB)) aK) aB))) (dF (N:=["place", "number"]) ["words", "wants", "number", "word"] (aJ iJ) [none,some 2] rfl rfl rfl (λx h=>bJ h) (by decide +kernel)) (by decide +kernel) rfl (by decide +kernel) (λ_ _ _ _=>(aQ (i:=0) (show List.Nodup (["place", "number"]:List Str) by decide +kernel) rfl (Or.inl rfl))) (λ_ _ _ _=>cW) (λ_ _ _ _=>(lB (aA (mv 1) (aA (mv 0) aB))))) aB))))) (@aH _ _ _ (aR (mv 1))))),?_⟩
 fail "g";refine⟨by decide,λp hp=>?_⟩
 have ha1:=aG (aF hp (HO.lst [])) ha
 fail "g";refine Tq (xs:=(cws.map bB).map V.str) (λi U H'=>∃(ps:List Addr) (v1 v2:Option V),U=[some (.ref a),some (.ref p),v1,v2]/\Z_ H H'/\H' p=some (.lst (ps.map V.ref))/\ZL H H' ps (lL cws i))
  ⟨[],_,_,rfl,aF hp _,aD,.nil⟩ (λj U H' _ ⟨_,_,_,_,e,_⟩=>aG e ha) ?_ ?_
 .rintro i x U H2 pt hx ⟨ps,v1,v2,rfl,s2,hH,tp⟩ hpt;have hi:i<cws.length:=by have:=(Ad.mp hx).1;rw[Ab,Ab]at this;exact this
  obtain⟨cw,hcw,hm,rfl⟩:=yS hx;have hc7:=h7 cw hm
  have hwl:(bB cw).length=cw.length:=fB cw
  fail "g";rw[hwl];refine⟨⟨by omega,by omega,by omega,by omega⟩,?_⟩
  rw[show ((cw.length:Int)+1-1).toNat=cw.length by omega]
  have s3:=s2.trans (aF hpt (HO.tup [V.int ((0+i:Nat):Int),V.str (bB cw)]))
  have hH3:=aF hpt (HO.tup [V.int ((0+i:Nat):Int),V.str (bB cw)]) _ _ hH
  have tp3:=tp.keep (aF hpt (HO.tup [V.int ((0+i:Nat):Int),V.str (bB cw)]))
  generalize upd H2 pt (HO.tup [V.int ((0+i:Nat):Int),V.str (bB cw)])=H3 at s3 hH3 tp3 ⊢;refine tG (λj=>[V.int ((0+i:Nat):Int),V.int (1+(j:Int))]) (aY (by omega)) (λj Hc A B hj hs hA=>?_) (λD Hd qs hD sD hDd hqn tq=>?_)
  .fail "g";refine⟨Wk.set rfl (Wk.refl _),?_⟩;fail "g";exact⟨za1,λpp hpp=>hA pp _ hpp (aF hpp _) aD⟩
  .have hpd:=sD _ _ hH3
   have hpl:ps.length<=7*i:=by rw[tp.1];exact lC h7 i
   have e:(List.range cw.length).map (λj:Nat=>[V.int ((0+i:Nat):Int),V.int (1+(j:Int))])=WM cws i:=by
    unfold WM;rw[Ac,hcw,Hi];rfl
   rw[e]at tq;fail "g";refine⟨ps++qs,_,_,rfl,bF hp (s3.trans sD),by rw[aD,Aj],?_⟩
   rw[jF];exact((tp3.keep sD).app (tq.YU s3)).put hpd
 .rintro U H2 ⟨ps,v1,v2,rfl,s2,hH,tp⟩;fail "g";rw[show ((cws.map bB).map V.str).length=cws.length by rw[Ab,Ab]]at tp
  exact q p ps H2 hp s2 hH tp
def fE(cws:List (List Nat))(i:Nat):Nat:=((cws.take i).map List.length).sum
def ZK(cws:List (List Nat))(cs:List Nat)(i:Nat):List V:=(((cs.drop (fE cws i)).take (cws.getD i []).length).map one).map V.str
def tW(h:cws[i]?=some cw):fE cws (i+1)=fE cws i+cw.length:=by
 unfold fE;rw[Be,h,Aj,List.sum_append];simp
def MV(hj:i<=j):mP xs (some (i:Int)) (some (j:Int))=(xs.drop i).take (j-i):=by
 unfold mP;show (xs.drop (if (i:Int)<0 then ((i:Int)+(xs.length:Int)).toNat else min (i:Int).toNat xs.length)).take ((if (j:Int)<0 then ((j:Int)+(xs.length:Int)).toNat else min (j:Int).toNat xs.length)-(if (i:Int)<0 then ((i:Int)+(xs.length:Int)).toNat else min (i:Int).toNat xs.length))=_
 rw[if_neg (by omega),if_neg (by omega),Co,Co]
 by_cases h1:i<=xs.length
 .rw[Gu h1];by_cases h2:j<=xs.length
  .rw[Gu h2]
  .rw[Fu (by omega),Bl (by rw[Ct];omega),Bl (by rw[Ct];omega)]
 .rw[Fu (show xs.length<=i by omega),List.drop_of_length_le (Ai _),List.drop_of_length_le (by omega),List.take_nil,List.take_nil]
def mY:Sp:=λvs H Q _=>∃(a b:Addr) (cws:List (List Nat)) (cs:List Nat),vs=[.ref a,.ref b]/\Z8 H a=some ((cws.map bB).map V.str)/\Z8 H b=some ((cs.map one).map V.str)/\cws.length<=8/\(∀c∈cws,c.length<=7)/\
 ∀(r:Addr) (ps:List Addr) (H':Hp),H r=none->Z_ H H'->H' r=some (.lst (ps.map V.ref))->(∀p∈ps,p≠r)->ZU H H' ps ((List.range cws.length).map (ZK cws cs))->Q (.ref r) H'
def x6:Z9 ["words", "flags", "hoists", "start", "word", "end"] ["words", "flags"] (aJ jR):=by fail "sc"
def vA(F:ZR K "hoists_of" "hoists_of" jR f fd):Z4 P w K mg base ZO 1 f fd ["words", "flags"] mY:=by
 refine F.ok x6 (λvs H Q E h=>?_) (λcdv A outer s H vs Q E hr h=>?_)
 .obtain⟨a,b,cws,cs,rfl,_⟩:=h;rfl
 obtain⟨a,b,cws,cs,rfl,ha,hb,h8,h7,q⟩:=h;refine⟨_,(@aE _ _ _ _ _ (aO 2 x6.nd (bL aB)) (@aE _ _ _ _ _ (aO 3 x6.nd aK) (@aE _ _ _ _ _ (bU Bf rfl (bP (mv 0)) (aQ (i:=4) x6.nd rfl (Or.inl rfl)) (@aE _ _ _ _ _ (aO 5 x6.nd (aX bS (mv 3) (aU cS rfl G.b_len cC (aA (mv 4) aB)))) (@aE _ _ _ _ _ (cZ (dD Cc Em En xK (mv 2) (aA (bV lM rfl G.b_list cR (aA (mO VZ (mv 1) (nH (mv 3)) (nH (mv 5))) aB)) aB))) (@aH _ _ _ (aO 3 x6.nd (mv 5)))))) (@aH _ _ _ (aR (mv 2)))))),?_⟩;have hll:((cws.map bB).map V.str).length=cws.length:=by rw[Ab,Ab]
 fail "g";refine⟨by decide,λp hp=>?_⟩
 have ha1:=aG (aF hp (HO.lst [])) ha
 fail "g";refine cP (xs:=(cws.map bB).map V.str) (λi U H'=>∃(ps:List Addr) (v4 v5:Option V),U=[some (.ref a),some (.ref b),some (.ref p),some (.int ((fE cws i:Nat):Int)),v4,v5]/\Z_ H H'/\H' p=some (.lst (ps.map V.ref))/\(∀x∈ps,x≠p)/\ps.length=i/\ZU H H' ps ((List.range i).map (ZK cws cs)))
  ⟨[],_,_,rfl,aF hp _,aD,(λx hx=>nomatch hx),rfl,.nil⟩ (λj U H' _ ⟨_,_,_,_,e,_⟩=>aG e ha) ?_ ?_
 .rintro i x U H2 hx ⟨ps,v4,v5,rfl,s2,hH,hne,hpl,tp⟩;have hi:i<cws.length:=by have:=(Ad.mp hx).1;rw[hll]at this;exact this
  obtain⟨cw,hcw,hm,rfl⟩:=yS hx;have hc7:=h7 cw hm
  have hwl:(bB cw).length=cw.length:=fB cw
  have hb2:=aG s2 hb
  fail "g";rw[hwl];intro r1 hr1;rw[show ((fE cws i:Nat):Int)+((cw.length:Nat):Int)=((fE cws i+cw.length:Nat):Int) by push_cast;rfl,MV (by omega),show fE cws i+cw.length-fE cws i=cw.length by omega]
  have hrow_e:(((cs.map one).map V.str).drop (fE cws i)).take cw.length=ZK cws cs i:=by
   unfold ZK;rw[Ac,hcw,List.map_take,List.map_take,List.map_drop,List.map_drop];rfl
  rw[hrow_e];fail "g";intro r2 hr2;have hp1:r2≠p:=λz=>by
   have:=aF hr1 (HO.lst (ZK cws cs i)) _ _ hH
   rw[<-z,hr2]at this;cases this
  have s3:Z_ H2 (upd (upd H2 r1 (HO.lst (ZK cws cs i))) r2 (HO.lst (ZK cws cs i))):=(aF hr1 _).trans (aF hr2 _)
  have hr3:(upd (upd H2 r1 (HO.lst (ZK cws cs i))) r2 (HO.lst (ZK cws cs i))) r2=some (.lst (ZK cws cs i)):=aD
  have hr20:H2 r2=none:=bK (aF hr1 _) hr2
  generalize upd (upd H2 r1 (HO.lst (ZK cws cs i))) r2 (HO.lst (ZK cws cs i))=H3 at s3 hr3 ⊢;have hH3:=s3 _ _ hH
  have hm3:=aZ hH3
  fail "g";have hne2:∀x∈ps++[r2],x≠p:=λx hx=>by
   rcases Bs.mp hx with e|e
   .exact hne x e
   .rw[Bc.mp e];exact hp1
  refine⟨ps++[r2],some (.str (bB cw)),some (.int ((fE cws i+cw.length:Nat):Int)),?_,bF hp (s2.trans s3),by rw[aD,Aj];rfl,hne2,by rw[Ak,hpl];rfl,?_⟩
  .rw[tW hcw];rfl
  .rw[Cm,Aj];exact((tp.keep s3).snoc (bK s2 hr20) hr3).put hne2
 .rintro U H2 ⟨ps,v4,v5,rfl,s2,hH,hne,hpl,tp⟩;fail "g";rw[hll]at tp;exact q p ps H2 hp s2 hH hne tp
def Rj:Z9 ["text"] ["text"] (aJ oW):=by fail "sc"
def PC(F:ZR K "is_flag" "is_flag" oW f fd):Z4 P w K mg base ZO 1 f fd ["text"] rH:=by
 refine F.ok Rj (λvs H Q E h=>?_) (λcdv A outer s H vs Q E hr h=>?_)
 .obtain⟨z,rfl,_⟩:=h;rfl
 obtain⟨z,rfl,hl,q⟩:=h;refine⟨_,(@aH _ _ _ (aR (Qv (nN sM (aU cS rfl G.b_len cC (aA (mv 0) aB)) aK (bC _)) (Ro (nN Vw (mv 0) (kL rfl G.s_FLAGS) (by rfl)))))),?_⟩
 fail "g";refine gM (λhc=>?_) (λhc=>?_)
 .have e:iG z=subIn z Z1:=if_pos (by have:=Bi hc;omega)
  rw[e]at q;fail "g";exact q
 .have e:iG z=false:=pK (by have:=Ca (Ce.mpr hc);omega)
  rw[e]at q;exact q
def vX:Z9 ["text", "place"] ["text", "place"] (aJ jG):=by fail "sc"
def uL(F:ZR K "may_stand" "may_stand" jG f fd)(n5:ZP P w K mg base 1 "is_flag" ["text"] rH):Z4 P w K mg base ZO 2 f fd ["text", "place"] nM:=by
 refine F.ok vX (λvs H Q E h=>?_) (λcdv A outer s H vs Q E hr h=>?_)
 .obtain⟨z,p,rfl,_⟩:=h;rfl
 obtain⟨z,p,rfl,hl,q⟩:=h;refine⟨_,(@aE _ _ _ _ _ (bT (dG (cB (aV n5 hr (by decide) rfl (aA (mv 0) aB)))) (@aH _ _ _ (aR dE)) bA) (@aE _ _ _ _ _ (bT (aW Vw (mv 0) (kL rfl G.s_SUBSTITUTES) (by rfl)) (@aH _ _ _ (aR (nN Wv (bV V1 rfl G.b_int uS (aA (mv 0) aB)) (mv 1) (bC _)))) bA) (@aH _ _ _ (aR dE)))),?_⟩
 fail "g";refine⟨z,rfl,hl,?_⟩;fail "g";refine gM (λhc=>?_) (λhc=>?_)
 .have hf:iG z=false:=by simpa using hc
  have e:cT z p=false:=by
   by_cases h1:z.length=1
   .obtain⟨c,rfl⟩:=rN h1;rw[qU]at hf;have hf:=Ca hf
    rw[mJ];exact Al λst=>hf (st.elim .inl λz=>.inr z.1)
   .exact if_neg h1
  rw[e]at q;fail "g";exact q
 .have hf:iG z=true:=by simpa using hc
  obtain⟨c,rfl,hcc⟩:=Qb hf;fail "g";rw[if_neg An,show subIn (one c) (Str.ofString "1234")=decide (cX c) from lW c];rw[mJ]at q;refine gM (λhd=>?_) (λhd=>?_)
  .have hs:=Bi hd
   fail "g";refine wF (pZ hs) (by show 1<=640;decide) ?_
   fail "g";rw[show decide (jN c p)=decide ((c:Int)-48<p) from Cj.mpr ⟨λst=>st.elim (λl=>absurd hs (fY l)) (·.2),λl=>.inr ⟨hs,l⟩⟩]at q;exact q
  .have hs:=Ca (Ce.mpr hd)
   fail "g";rw[Ap (show jN c p from .inl (hcc.resolve_right hs))]at q;exact q
def yX:Z9 ["flags"] ["flags"] (aJ lV):=by fail "sc"
def xF(F:ZR K "is_hoist" "is_hoist" lV f fd)(n6:ZP P w K mg base 2 "may_stand" ["text", "place"] nM):Z4 P w K mg base ZO 3 f fd ["flags"] pC:=by
 refine F.ok yX (λvs H Q E h=>?_) (λcdv A outer s H vs Q E hr h=>?_)
 .obtain⟨a,zs,rfl,_⟩:=h;rfl
 obtain⟨a,zs,rfl,ha,hl,hz,q⟩:=h;refine⟨_,(@aE _ _ _ _ _ (bT (PW.pt (kX (aW Wv (aU cS rfl G.b_len cC (aA (mv 0) aB)) aK (bC _)) (iB (aW Wc (aU cS rfl G.b_len cC (aA (mv 0) aB)) (NL rfl G.s_MOST_PLACES) (bC _))))) (@aH _ _ _ (aR dE)) bA) (@aH _ _ _ (aR (aU (MF rfl) rfl G.b_all Jr (aA (bW rfl (Pb rfl G.b_enumerate (aA (mv 0) aB) (vY aK UQ)) (VJ (N:=["place", "text"]) (by decide +kernel) (by decide +kernel)) (by decide +kernel) rfl (by decide +kernel) (λ_ _ _ _=>(hJ (K:=K) (i:=0) (j:=1) (by rfl) (by rfl) (show List.Nodup (["place", "text"]:List Str) by decide +kernel) (by rfl) (by exact Or.inl rfl) (by exact Or.inr rfl) (by rfl) (by exact Or.inl rfl) (by exact Or.inr rfl))) (λ_ _ _ _=>cW) (λ_ _ _ _=>(aV n6 hr (by decide) rfl (aA (mv 1) (aA (mv 0) aB))))) aB))))),?_⟩
 have hll:(zs.map V.str).length=zs.length:=Ab ..
 fail "g";rw[hll];refine gM (λhc=>?_) (λhc=>?_)
 .fail "g";have e:cG zs=false:=if_pos (.inl (by have:=Bi hc;omega))
  have r:=q H (Z_.refl H)
  rw[e]at r;exact r
 .have hc':=Ca (Ce.mpr hc)
  fail "g";rw[hll];refine gM (λhd=>?_) (λhd=>?_)
  .fail "g";have e:cG zs=false:=if_pos (.inr (by have:=Bi hd;omega))
   have r:=q H (Z_.refl H)
   rw[e]at r;exact r
  .have hd':=Ca (Ce.mpr hd)
   fail "g";refine⟨⟨by omega,by omega⟩,?_⟩
   fail "g";refine QG (λi x=>match x with|.str z=>some (.bl (cT z ((1+i:Nat):Int)))|_=>none) ha (by rw[hll];exact aY (by omega)) (λi x Hc p A B hx sm hp hA=>?_) (λD Hd hD sd hr=>?_)
   .obtain⟨z,hzi,rfl⟩:=lR hx;fail "g";refine⟨Wk.set rfl (Wk.set rfl (Wk.refl _)),?_⟩;fail "g";refine⟨z,_,rfl,hz z (Ah hzi),?_⟩;exact hA _ (Z_.refl _)
   .have e1:((List.range (zs.map V.str).length).filterMap λi=>(λi x=>match x with | .str z=>some (V.bl (cT z ((1+i:Nat):Int))) | _=>none:Nat->V->Option V) i ((zs.map V.str).getD i .non))=((List.range zs.length).map λi=>cT (zs.getD i ⟨#[]⟩) ((1+i:Nat):Int)).map V.bl:=by
     rw[hll,Bu];refine(nF (g:=λi=>some (V.bl (cT (zs.getD i ⟨#[]⟩) ((1+i:Nat):Int)))) λi hi=>?_).trans (mH _ _);have hi':=By.mp hi
     rw[Ac,Af,Aa hi',Ac,Aa hi'];rfl
    rw[e1]at hr;fail "g";refine ND hr ?_;have e2:cG zs=((List.range zs.length).map λi=>cT (zs.getD i ⟨#[]⟩) ((1+i:Nat):Int)).all id:=by
     unfold cG;rw[if_neg (by omega),List.all_map]
     rfl
    have r:=q _ sd
    rw[e2]at r;exact r
def u6:Z9 ["flags", "word", "flag"] ["flags"] (aJ pB):=by fail "sc"
def MB(F:ZR K "read_of" "read_of" pB f fd)(n8:ZP P w K mg base 3 "is_hoist" ["flags"] pC):Z4 P w K mg base (YG P w) 4 f fd ["flags"] (rP Zy):=by
 refine F.Wx u6 (λvs H Q E h=>?_) (λcdv A outer s H vs Q E hr h=>?_)
 .obtain⟨a,zs,rfl,_⟩:=h;rfl
 obtain⟨a,zs,rfl,ha,hl,hz,q,qe⟩:=h;refine⟨_,(@aE _ _ _ _ _ (bT (dG (cB (aV n8 hr (by decide) rfl (aA (mv 0) aB)))) (@aH _ _ _ (Pq qC rfl rfl rfl G.c_NoHoist G.X8 Gk (@qG _ _ _ _ _ _ aB))) bA) (@aE _ _ _ _ _ (aO 1 u6.nd gU) (@aE _ _ _ _ _ (PS.Xu (bU Bf rfl (bP (mv 0)) (aQ (i:=2) u6.nd rfl (Or.inl rfl)) (@aH _ _ _ (bT (aW Vw (mv 2) (kL rfl G.s_SUBSTITUTES) (by rfl)) (@aH _ _ _ (aO 1 u6.nd (aX bS (mv 1) (bI cE (mv 1) (aX kQ (bV V1 rfl G.b_int uS (aA (mv 2) aB)) aK) (λ_ _=>rfl))))) (@aH _ _ _ (aO 1 u6.nd (aX bS (mv 1) (mv 2)))))))) (@aH _ _ _ (aR (mv 1)))))),?_⟩
 fail "g";refine⟨a,zs,rfl,ha,hl,hz,λH1 s1=>?_⟩;have ha1:=aG s1 ha
 fail "g";cases hh:cG zs with
 |false=>
  fail "g";exact⟨za0,qe hh H1 s1⟩
 |true=>
  fail "g";have h7:=dX hh
  refine cP (xs:=zs.map V.str) (λi U H'=>∃v,U=[some (.ref a),some (.str (bB (Zs ((zs.map jB).take i)))),v]/\H'=H1)
   ⟨none,rfl,rfl⟩ (λi U H' _ ⟨_,_,e⟩=>by rw[e];exact ha1) ?_ ?_
  .rintro i x U H' hx ⟨v,rfl,rfl⟩;obtain⟨z,hzi,rfl⟩:=lR hx;obtain⟨c,rfl,hci,hcc⟩:=iD hh hzi;have hi:i<(zs.map jB).length:=(Ad.mp hci).1
   have hll:(zs.map jB).length=zs.length:=Ab ..
   have hrl:(Zs ((zs.map jB).take i)).length=i:=gW (by omega)
   have hst:=mQ hci
   generalize Zs ((zs.map jB).take i)=wd at hrl hst ⊢;have hwl:(bB wd).length=i:=(fB wd).trans hrl
   fail "g";rw[if_neg An,show subIn (one c) (Str.ofString "1234")=decide (cX c) from lW c];refine gM (λhd=>?_) (λhd=>?_)
   .have hs:=Bi hd
    have hlt:c-49<i:=(hcc.resolve_left λl=>fY l hs).2
    have h49:49<=c:=hs.1
    fail "g";refine wF (pZ hs) (by show 1<=640;decide) ?_
    fail "g";have e1:Zc (bB wd).cps.toList ((c:Int)-48-1)=some (wd.getD (c-49) 0):=by
     rw[show ((c:Int)-48-1)=((c-49:Nat):Int) by omega]
     refine fJ ?_;rw[kE,Ac,Aa (by omega)]
     rfl
    have h2:(⟨#[wd.getD (c-49) 0]⟩:Str).length=1:=rfl
    refine pJ (by rw[hwl];exact bE (by omega)) e1 ?_
    fail "g";refine⟨some (.str (one c)),?_,rfl⟩;rw[hst,show Xf wd c=wd.getD (c-49) 0 from if_pos hs,<-kF];rfl
   .have hs:=Ca (Ce.mpr hd)
    have h2:(one c).length=1:=rfl
    fail "g";refine⟨some (.str (one c)),?_,rfl⟩;rw[hst,show Xf wd c=c from if_neg hs,<-kF];rfl
  .rintro U H' ⟨v,rfl,rfl⟩;fail "g";have e:(zs.map jB).take (zs.map V.str).length=zs.map jB:=Bl (by rw[Ab,Ab];exact Ai _)
   rw[e];exact q hh _ s1
abbrev Wt:=Nat×Nat
def dB(w:Wt):List Key:=[Sum.inl (w.1:Int),Sum.inl (w.2:Int)]
def nI{a b:Wt}(h:dB a=dB b):a=b:=by
 unfold dB at h;injection h with h1 h2
 injection h2 with h2 _
 have e1:=Sum.inl.inj h1
 have e2:=Sum.inl.inj h2
 exact Prod.ext (by omega) (by omega)
def dI(m:List (Wt×Nat))(w:Wt):Option Nat:=(m.find? λx=>decide (x.1=w)).map (·.2)
def dR(m:List (Wt×Nat))(f:Nat):List Wt:=(m.filter λx=>decide (x.2=f)).map (·.1)
def YW(m:List (Wt×Nat))(f:Nat):Nat:=m.countP λx=>decide (x.2=f)
def eQ{x:Wt×Nat}{m:List (Wt×Nat)}{w:Wt}:dI (x::m) w=if x.1=w then some x.2 else dI m w:=by
 unfold dI;rw[List.find?_cons];by_cases h:x.1=w
 .simp[h]
 .simp[h]
def xN{m:List (Wt×Nat)}{w:Wt}{f:Nat}(h:dI m w=some f):(w,f)∈m:=by
 induction m with
 |nil=>cases h
 |cons x m ih=>
  rw[eQ]at h;by_cases e:x.1=w
  .rw[if_pos e]at h;cases h;rw[<-e];exact Aq
  .rw[if_neg e]at h;exact Ao _ (ih h)
def mK{m:List (Wt×Nat)}(nd:(m.map (·.1)).Nodup){w:Wt}{f:Nat}(h:(w,f)∈m):dI m w=some f:=by
 induction m with
 |nil=>cases h
 |cons x m ih=>
  rw[eQ];rw[Ar,Bz]at nd;rcases Az.mp h with e|e
  .rw[<-e,if_pos rfl]
  .rw[if_neg (λz=>nd.1 (by rw[z];exact Bg.mpr ⟨_,e,rfl⟩)),ih nd.2 e]
def YS{m:List (Wt×Nat)}{w:Wt}:dI m w=none ↔ w∉m.map (·.1):=by
 induction m with
 |nil=>exact⟨λ_ z=>(nomatch z),λ_=>rfl⟩
 |cons x m ih=>
  rw[eQ,Ar,Az];by_cases e:x.1=w
  .rw[if_pos e];exact⟨λz=>(nomatch z),λz=>absurd (Or.inl e.symm) z⟩
  .rw[if_neg e,ih];exact⟨λz y=>y.elim (λq=>e q.symm) z,λz y=>z (Or.inr y)⟩
def XH{m:List (Wt×Nat)}{f:Nat}{w:Wt}:w∈dR m f ↔ (w,f)∈m:=by
 unfold dR;rw[Bg];constructor
 .rintro⟨x,hx,rfl⟩;rw[Dr,Bh]at hx;rw[<-hx.2];exact hx.1
 .intro h;exact⟨(w,f),Dr.mpr ⟨h,Ap rfl⟩,rfl⟩
def UC(m:List (Wt×Nat))(f:Nat):(dR m f).length=YW m f:=by
 unfold dR YW;rw[Ab,Gc]
structure Asking (ch:Wt->List Nat) (m:List (Wt×Nat)) (first:Wt) (A:List (Nat×Wt)):Prop where
 nd:(A.map (·.1)).Nodup
 ok:∀(j:Nat) f w,A[j]?=some (f,w)->f∈ch w/\(w=first\/∃(g:Nat) (i:Nat) (v:Wt),i<j/\A[i]?=some (g,v)/\dI m w=some g)
def cJ(m:List (Wt×Nat))(first:Wt)(A:List (Nat×Wt)):List Wt:=first::(A.map (·.1)).flatMap (dR m)
def lK(m:List (Wt×Nat))(first:Wt)(A:List (Nat×Wt))(f:Nat)(w:Wt):cJ m first (A++[(f,w)])=cJ m first A++dR m f:=by
 unfold cJ;rw[Aj,Ez];simp
def Zt{m:List (Wt×Nat)}{first:Wt}{A:List (Nat×Wt)}{w:Wt}:w∈cJ m first A ↔ w=first\/∃f∈A.map (·.1),(w,f)∈m:=by
 unfold cJ;rw[Az,Gq];constructor
 .rintro(h|⟨f,hf,h⟩)
  .exact .inl h
  .exact .inr ⟨f,hf,XH.mp h⟩
 .rintro(h|⟨f,hf,h⟩)
  .exact .inl h
  .exact .inr ⟨f,hf,XH.mpr h⟩
def rC(m:List (Wt×Nat)):∀ {fs:List Nat},fs.Nodup->(fs.flatMap (dR m)).length=m.countP (λx=>decide (x.2∈fs))
 |[],_=>by simp
 |f::fs,nd=>by
  rw[Eu,Ak,UC,rC m (Bz.mp nd).2];have hf:=(Bz.mp nd).1
  unfold YW;clear nd;induction m with
  |nil=>rfl
  |cons x m ih=>
   rw[Dy,Dy,Dy,<-ih];by_cases h1:x.2=f
   .rw[if_pos (Ap h1),if_neg (by rw[Bh,h1];exact hf),if_pos (Ap (by rw[h1];exact Aq))]
    omega
   .rw[if_neg (by rw[Bh];exact h1)]
    by_cases h2:x.2∈fs
    .rw[if_pos (Ap h2),if_pos (Ap (Ao _ h2))];omega
    .rw[if_neg (by rw[Bh];exact h2),if_neg (by rw[Bh];exact λz=>(Az.mp z).elim h1 h2)]
     omega
def sV{m:List (Wt×Nat)}{first:Wt}{A:List (Nat×Wt)}(nd:(A.map (·.1)).Nodup):(cJ m first A).length<=1+m.length:=by
 unfold cJ;rw[Av,rC m nd];have:=Ge (p:=λx:Wt×Nat=>decide (x.2∈A.map (·.1))) (l:=m)
 omega
def Asking.snoc{ch:Wt->List Nat}{m:List (Wt×Nat)}{first w:Wt}{A:List (Nat×Wt)}{f:Nat}(ndm:(m.map (·.1)).Nodup)(h:Asking ch m first A)(hf:f∉A.map (·.1))(hc:f∈ch w)(hw:w∈cJ m first A):Asking ch m first (A++[(f,w)]):=by
 refine⟨?_,λj g v hj=>?_⟩
 .rw[Aj];exact List.nodup_append.mpr ⟨h.nd,by simp,λx hx y hy=>by rw[List.mem_singleton.mp hy];intro z;have z2:x=f:=z;rw[z2]at hx;exact hf hx⟩
 .by_cases hlt:j<A.length
  .rw[Au hlt]at hj;obtain⟨h1,h2⟩:=h.ok j g v hj;refine⟨h1,h2.imp id ?_⟩;rintro⟨g',i,v',hi,hA,hg⟩;exact⟨g',i,v',hi,by rw[Au (by omega)];exact hA,hg⟩
  .have hj2:j=A.length:=by
    have:=(Ad.mp hj).1
    rw[Ak]at this;have:j<A.length+1:=this
    omega
   subst hj2;rw[Aw (Ai _),Hj]at hj;cases hj;refine⟨hc,?_⟩;rcases Zt.mp hw with e|⟨g',hg',hm⟩
   .exact .inl e
   .obtain⟨x,hx,rfl⟩:=Bg.mp hg';obtain⟨i,hi,ei⟩:=Cg.mp hx;exact .inr ⟨x.1,i,x.2,hi,by rw[Au hi,Aa hi,ei],mK ndm hm⟩
structure XO (ch:Wt->List Nat) (m:List (Wt×Nat)) (first:Wt) (A:List (Nat×Wt)):Prop extends Asking ch m first A where
 all1:∀f∈ch first,f∈A.map (·.1)
 all:∀w g,(w,g)∈m->g∈A.map (·.1)->∀f∈ch w,f∈A.map (·.1)
def Asking.done{ch:Wt->List Nat}{m:List (Wt×Nat)}{first:Wt}{A:List (Nat×Wt)}(h:Asking ch m first A)(hc:∀w∈cJ m first A,∀f∈ch w,f∈A.map (·.1)):XO ch m first A:=
 ⟨h,hc first (Zt.mpr (.inl rfl)),λw g hm hg=>hc w (Zt.mpr (.inr ⟨g,hg,hm⟩))⟩
def WC(m:List (Wt×Nat))(w:Wt)(f:Nat):List (Wt×Nat):=if (dI m w).isSome=true then m.map λx=>if x.1=w then (x.1,f) else x else m++[(w,f)]
def P9{m:List (Wt×Nat)}{w v:Wt}{f:Nat}:dI (m.map λx=>if x.1=w then (x.1,f) else x) v=(dI m v).map λg=>if v=w then f else g:=by
 induction m with
 |nil=>rfl
 |cons x m ih=>
  rw[Ar,eQ,eQ,ih];by_cases e:x.1=w
  .rw[if_pos e];by_cases e2:x.1=v
   .rw[if_pos e2,if_pos e2,Fi,if_pos (e2.symm.trans e)]
   .rw[if_neg e2,if_neg e2]
  .rw[if_neg e];by_cases e2:x.1=v
   .rw[if_pos e2,if_pos e2,Fi,if_neg (λz=>e (e2.trans z))]
   .rw[if_neg e2,if_neg e2]
def keys_map{m:List (Wt×Nat)}{w:Wt}{f:Nat}:(m.map λx=>if x.1=w then (x.1,f) else x).map (·.1)=m.map (·.1):=by
 rw[Bu];refine Bw λx _=>?_;show (if x.1=w then (x.1,f) else x).1=x.1
 by_cases e:x.1=w
 .rw[if_pos e]
 .rw[if_neg e]
def Mg{m:List (Wt×Nat)}{w:Wt}{f:Nat}(nd:(m.map (·.1)).Nodup)(h:dI m w=some g)(c:Nat):YW (m.map λx=>if x.1=w then (x.1,f) else x) c+(if c=g then 1 else 0)=YW m c+(if c=f then 1 else 0):=by
 induction m with
 |nil=>cases h
 |cons x m ih=>
  rw[Ar,Bz]at nd;rw[eQ]at h;unfold YW at ih ⊢;rw[Ar,Dy,Dy];by_cases e:x.1=w
  .rw [if_pos e] at h;cases h;have hm:(m.map λx=>if x.1=w then (x.1,f) else x)=m:=by
    refine(Bw λy hy=>?_).trans (List.map_id _);show (if y.1=w then (y.1,f) else y)=y
    rw[if_neg (λz=>nd.1 (by rw[e,<-z];exact Bg.mpr ⟨y,hy,rfl⟩))]
   rw[if_pos e,hm];have e1:(decide ((x.1,f).2=c)=true)=(c=f):=by rw[Bh];exact propext ⟨λz=>z.symm,λz=>z.symm⟩
   have e2:(decide (x.2=c)=true)=(c=x.2):=by rw[Bh];exact propext ⟨λz=>z.symm,λz=>z.symm⟩
   simp only[e1,e2];omega
  .rw[if_neg e]at h;rw[if_neg e];have r:=ih nd.2 h
   omega
structure YR (ch:Wt->List Nat) (m0:List (Wt×Nat)) (A:List (Nat×Wt)) (f0:Nat) (m:List (Wt×Nat)) (c j:Nat) (w:Wt):Prop where
 keys:m.map (·.1)=m0.map (·.1)
 ok:∀v f,(v,f)∈m->f∈ch v
 ct:∀f,YW m f+(if f=c then 1 else 0)=YW m0 f+(if f=f0 then 1 else 0)
 at_:A[j]?=some (c,w)
 same:∀v g i u,dI m0 v=some g->A[i]?=some (g,u)->i<j->dI m v=some g
def L4{A:List (Nat×Wt)}(nd:(A.map (·.1)).Nodup){u v:Wt}(hi:A[i]?=some (g,u))(hj:A[j]?=some (g,v)):i=j:=by
 obtain⟨h1,e1⟩:=Ad.mp hi;obtain⟨h2,e2⟩:=Ad.mp hj;refine(Gm (h₀:=by rw[Ab];exact h1) (h₁:=by rw[Ab];exact h2) nd).mp ?_
 rw[List.getElem_map,List.getElem_map,e1,e2]
def YR.step{ch:Wt->List Nat}{m0 m:List (Wt×Nat)}{A:List (Nat×Wt)}{f0 c:Nat}{first w v:Wt}(ha:Asking ch m0 first A)(nd0:(m0.map (·.1)).Nodup)(h:YR ch m0 A f0 m c j w)(hg:dI m0 w=some g)(hi:A[i]?=some (g,v))(hij:i<j):dI m w=some g/\YR ch m0 A f0 (m.map λx=>if x.1=w then (x.1,c) else x) g i v:=by
 have nd:(m.map (·.1)).Nodup:=by rw[h.keys];exact nd0
 have hw:=h.same w g i v hg hi hij
 refine⟨hw,keys_map.trans h.keys,λu f hu=>?_,λf=>?_,hi,λu g' i' u' h1 h2 h3=>?_⟩
 .obtain⟨x,hx,e⟩:=Bg.mp hu;by_cases ex:x.1=w
  .rw[if_pos ex]at e;cases e;rw[ex];exact(ha.ok j c w h.at_).1
  .rw[if_neg ex]at e;exact h.ok u f (e▸hx)
 .have r1:=Mg (f:=c) nd hw f
  have r2:=h.ct f
  omega
 .rw[P9,h.same u g' i' u' h1 h2 (by omega),Fi]
  by_cases e:u=w
  .subst e;rw[hg]at h1;cases h1;exact absurd (L4 ha.nd hi h2) (by omega)
  .rw[if_neg e]
def YR.last{ch:Wt->List Nat}{m0 m:List (Wt×Nat)}{A:List (Nat×Wt)}{f0 c:Nat}{first:Wt}(ha:Asking ch m0 first A)(hf:first∉m0.map (·.1))(h:YR ch m0 A f0 m c j first):dI m first=none/\(m++[(first,c)]).map (·.1)=m0.map (·.1)++[first]/\(∀v f,(v,f)∈m++[(first,c)]->f∈ch v)/\∀f,YW (m++[(first,c)]) f=YW m0 f+(if f=f0 then 1 else 0):=by
 refine⟨YS.mpr (by rw[h.keys];exact hf),by rw[Aj,h.keys];rfl,λv f hv=>?_,λf=>?_⟩
 .rcases Bs.mp hv with e|e
  .exact h.ok v f e
  .cases Bc.mp e;exact(ha.ok j c first h.at_).1
 .have r:=h.ct f
  unfold YW at r ⊢;rw[Gx];have e:List.countP (λx:Wt×Nat=>decide (x.2=f)) [(first,c)]=if f=c then 1 else 0:=by
   rw[List.countP_singleton];by_cases z:f=c
   .rw[if_pos z,if_pos (Ap z.symm)]
   .rw[if_neg z,if_neg (by rw[Bh];exact λy=>z y.symm)]
  rw[e];exact r
def iU(m:List (Wt×Nat))(first:Wt)(A:List (Nat×Wt))(wl:List Wt):List Wt:=wl.filter λw=>decide (w=first) || (match dI m w with|some g=>decide (g∈A.map (·.1))|none=>false)
def iS(m:List (Wt×Nat))(first:Wt)(A:List (Nat×Wt))(w:Wt):Bool:=decide (w=first) || (match dI m w with|some g=>decide (g∈A.map (·.1))|none=>false)
def xE{m:List (Wt×Nat)}{first w:Wt}{A:List (Nat×Wt)}(h:w=first):iS m first A w=true:=by
 unfold iS;rw[Ap h,Bool.true_or]
def rV{m:List (Wt×Nat)}{first w:Wt}{A:List (Nat×Wt)}(h:w≠first)(e:dI m w=none):iS m first A w=false:=by
 unfold iS;rw[Al h,e];rfl
def rG{m:List (Wt×Nat)}{first w:Wt}{A:List (Nat×Wt)}(h:w≠first)(e:dI m w=some g):iS m first A w=decide (g∈A.map (·.1)):=by
 unfold iS;rw[Al h,e,Hm]
def qK{m:List (Wt×Nat)}{first:Wt}{A:List (Nat×Wt)}{ws:List Wt}{w:Wt}:iU m first A (ws++[w])=iU m first A ws++if iS m first A w=true then [w] else []:=by
 have e:∀l,iU m first A l=l.filter (iS m first A):=λl=>rfl
 rw[e,e,Fe,Fq];rfl
def X5{m:List (Wt×Nat)}{first w:Wt}{A:List (Nat×Wt)}{ws:List Wt}:w∈iU m first A ws ↔ w∈ws/\iS m first A w=true:=by
 have e:∀l,iU m first A l=l.filter (iS m first A):=λl=>rfl
 rw[e,Dr]
def O3{m:List (Wt×Nat)}{first:Wt}{A:List (Nat×Wt)}{l r:List Wt}(hk:m.map (·.1)=l)(nd:(l++first::r).Nodup):(iU m first A (l++first::r)).length=1+m.countP (λx=>decide (x.2∈A.map (·.1))):=by
 have hl:(m.map (·.1)).Nodup:=by rw[hk];exact(Dc.mp nd).1
 have hfl:first∉l:=λz=>(Dc.mp nd).2.2 first z first Aq rfl
 have hfr:first∉r:=(Bz.mp (Dc.mp nd).2.1).1
 have hrl:∀w∈r,w∉l:=λw hw z=>(Dc.mp nd).2.2 w z w (Ao _ hw) rfl
 unfold iU;rw[Fe,Ak,Fq,if_pos (by rw[Ap rfl];rfl),Av]
 have er:r.filter (λw=>decide (w=first) || (match dI m w with|some g=>decide (g∈A.map (·.1))|none=>false))=[]:=by
  refine List.filter_eq_nil_iff.mpr λw hw=>?_;have e:dI m w=none:=YS.mpr (by rw[hk];exact hrl w hw)
  rw[Al (show ¬w=first from λz=>by rw[z]at hw;exact hfr hw),e,Hm]
  exact An
 have el:(l.filter (λw=>decide (w=first) || (match dI m w with|some g=>decide (g∈A.map (·.1))|none=>false))).length=m.countP (λx=>decide (x.2∈A.map (·.1))):=by
  rw[<-hk,List.filter_map,Ab,<-Gc];refine List.countP_congr λx hx=>?_;show (decide (x.1=first) || (match dI m x.1 with|some g=>decide (g∈A.map (·.1))|none=>false))=true ↔ _
  rw[mK hl (w:=x.1) (f:=x.2) hx,Al (λz=>hfl (by rw[<-z,<-hk];exact Bg.mpr ⟨x,hx,rfl⟩)),Hm]
 rw[er,el,List.length_nil];omega
def ON(m:List (Wt×Nat)):∀ {fs:List Nat},fs.Nodup->m.countP (λx=>decide (x.2∈fs))=(fs.map (YW m)).sum:=fun {fs} nd=>by
 rw[<-rC m nd];induction fs with
 |nil=>rfl
 |cons f fs ih=>rw[Eu,Ak,UC,Ar,Cw,ih (Bz.mp nd).2]
def iV(cws:List (List Nat))(k:Nat):List Wt:=(List.range (cws.getD k []).length).map λj=>(k,1+j)
def YH(cws:List (List Nat))(i:Nat):List Wt:=(List.range i).flatMap (iV cws)
def wl(cws:List (List Nat)):List Wt:=YH cws cws.length
def wV(w:Wt):List V:=[.int (w.1:Int),.int (w.2:Int)]
def gP(cws:Q6)(i:Nat):YH cws (i+1)=YH cws i++iV cws i:=by
 unfold YH;rw[Cm,Ez];simp
def qH(cws:Q6):∀i,lL cws i=(YH cws i).map wV
 |0=>rfl
 |i+1=>by
  rw[jF,gP,Aj,qH cws i];congr 1
  unfold WM iV;rw[Bu];refine Bw λj _=>?_;show [V.int ((i:Nat):Int),V.int (1+(j:Int))]=[V.int ((i:Nat):Int),V.int ((1+j:Nat):Int)]
  rw[show ((1+j:Nat):Int)=1+(j:Int) by omega]
def Y5{w:Wt}:∀ {i:Nat},w∈YH cws i ↔ w.1<i/\1<=w.2/\w.2<=(cws.getD w.1 []).length:=fun {i}=>by
 unfold YH iV;rw[Gq];constructor
 .rintro⟨k,hk,h⟩;obtain⟨j,hj,rfl⟩:=Bg.mp h;have:=By.mp hk
  have:=By.mp hj
  exact⟨by omega,by show 1<=1+j;omega,by show 1+j<=(cws.getD k []).length;omega⟩
 .rintro⟨h1,h2,h3⟩;refine⟨w.1,By.mpr h1,Bg.mpr ⟨w.2-1,By.mpr (by omega),?_⟩⟩
  exact Prod.ext rfl (by show 1+(w.2-1)=w.2;omega)
def lE(cws:Q6):∀i,(YH cws i).Nodup
 |0=>List.nodup_nil
 |i+1=>by
  rw[gP];refine Dc.mpr ⟨lE cws i,?_,λa ha b hb e=>?_⟩
  .unfold iV;exact List.Pairwise.map _ (λa b h=>λz=>h (by have:=Da Prod.snd z;have e:1+a=1+b:=this;omega)) List.nodup_range
  .subst e;have h1:=(Y5.mp ha).1
   unfold iV at hb;obtain⟨j,_,rfl⟩:=Bg.mp hb;exact absurd h1 (Cy _)
def mF(h7:∀c∈cws,c.length<=7)(i:Nat):(YH cws i).length<=7*i:=by
 have:=lC h7 i
 rw[qH,Ab]at this;exact this
def Zp(cws:List (List Nat))(w:Wt):List Nat:=Yp (cws.getD w.1 []) (w.2-1)
def dN(ws:List Wt)(ds:List Addr):List (List Key×V):=List.zipWith (λw d=>(dB w,V.ref d)) ws ds
def Sf(H:Hp)(r:Addr)(cws:List (List Nat))(i:Nat):Prop:=∃ds:List Addr,ds.length=i/\H r=some (.dT (dN ((wl cws).take i) ds))/\∀(j:Nat) w d,j<i->(wl cws)[j]?=some w->ds[j]?=some d->H d=some (.lst (((Zp cws w).map one).map V.str))
def PQ{ws:List Wt}(nd:ws.Nodup)(hl:ds.length=ws.length){w:Wt}{d:Addr}(hw:ws[j]?=some w)(hd:ds[j]?=some d):bZ (dN ws ds) (dB w)=some (.ref d):=by
 induction ws generalizing ds j with
 |nil=>cases hw
 |cons x ws ih=>
  cases ds with
  |nil=>cases hl
  |cons e ds=>
   show bZ ((dB x,V.ref e)::dN ws ds) _=_
   cases j with
   |zero=>cases hw;cases hd;exact cH rfl
   |succ j=>
    have hm:=Ah (show ws[j]?=some w from hw)
    rw[bX (λz=>(Bz.mp nd).1 (by rw[nI z];exact hm))]
    exact ih (List.nodup_cons.mp nd).2 (by simpa using hl) hw hd
def zZ{ws:List Wt}{w:Wt}(h:w∉ws):bZ (dN ws ds) (dB w)=none:=by
 induction ws generalizing ds with
 |nil=>rfl
 |cons x ws ih=>
  cases ds with
  |nil=>rfl
  |cons e ds=>
   show bZ ((dB x,V.ref e)::dN ws ds) _=_
   rw[bX (λz=>h (by rw[nI z];exact Aq))]
   exact ih λz=>h (Ao _ z)
def tU{ws:List Wt}(hl:ds.length=ws.length):(dN ws ds).length=ws.length:=by
 unfold dN;rw[List.length_zipWith];omega
def Jw{ws:List Wt}{w:Wt}{d:Addr}(hl:ds.length=ws.length):dN (ws++[w]) (ds++[d])=dN ws ds++[(dB w,V.ref d)]:=by
 unfold dN;rw[List.zipWith_append (by omega)]
 rfl
def lA:Sp:=λvs H Q _=>∃(a:Addr) (cws:List (List Nat)),vs=[.ref a]/\Z8 H a=some ((cws.map bB).map V.str)/\cws.length<=8/\(∀c∈cws,c.length<=7)/\
 ∀(r:Addr) (H':Hp),H r=none->Z_ H H'->Sf H' r cws (wl cws).length->Q (.ref r) H'
def n9:Z9 ["words", "choices", "want"] ["words"] (aJ iF):=by fail "sc"
def sO(F:ZR K "choices_of" "choices_of" iF f fd)(G:Gs K mg Zw Zz Zx Zy)(m4:ZP P w K mg base 1 "wants_of" ["words"] pE)(m7:ZP P w K mg base 1 "choices_at" ["word", "place"] kR):Z4 P w K mg base ZO 2 f fd ["words"] lA:=by
 refine F.ok n9 (λvs H Q E h=>?_) (λcdv A outer s H vs Q E hr h=>?_)
 .obtain⟨a,cws,rfl,_⟩:=h;rfl
 obtain⟨a,cws,rfl,ha,h8,h7,q⟩:=h;refine⟨_,(@aE _ _ _ _ _ (@UP _ _ 1 _ _ _ _ n9.nd (by rfl) (by exact(Or.inl rfl)) yY (by rfl) (by fail "o")) (@aE _ _ _ _ _ (bU Bf rfl (bP (aV m4 hr (by decide) rfl (aA (mv 0) aB))) (aQ (i:=2) n9.nd rfl (Or.inl rfl)) (@aH _ _ _ (fG (Z5.u1 hr) (mv 1) (mv 2) (aV m7 hr (by decide) rfl (aA (bI cE (mv 0) (bI cE (mv 2) aK (λ_ _=>rfl)) (λ_ _=>rfl)) (aA (bI cE (mv 2) aK (λ_ _=>rfl)) aB))) rfl))) (@aH _ _ _ (aR (mv 1))))),?_⟩
 fail "g";intro pc hpc;fail "g";refine⟨a,cws,rfl,aG (aF hpc _) ha,h8,h7,λr ps H1 hr s1 e1 tp=>?_⟩;have s01:=(aF hpc (.dT [])).trans s1
 have ec1:=s1 _ _ (aD (H:=H) (a:=pc) (o:=.dT []))
 have hlw:(wl cws).length<=56:=Bd (mF h7 _) (by omega)
 rw[qH]at tp;have hpl:ps.length=(wl cws).length:=by rw[tp.1,Ab];rfl
 have hpm:(ps.map V.ref).length=(wl cws).length:=by rw[Ab,hpl]
 have tat:∀(j:Nat) p w,ps[j]?=some p->(wl cws)[j]?=some w->H1 p=some (.tup (wV w)):=λj p w hp hw=>(tp.2 j p _ hp (by rw[Af];exact Da (Option.map wV) hw)).2
 have r1:=aL e1
 have hcr:pc≠r:=λz=>by rw[<-z,aD]at hr;cases hr
 fail "g";refine cP (xs:=ps.map V.ref) (λi U H'=>∃(v:Option V),U=[some (.ref a),some (.ref pc),v]/\Z_ H H'/\(∀b u,b≠pc->H1 b=some u->H' b=some u)/\Sf H' pc cws i)
  ⟨_,rfl,s01,λb u _ h=>h,[],rfl,ec1,λj w d hj=>absurd hj (Nat.not_lt_zero _)⟩ (λi U H' _ ⟨_,_,_,k,_⟩=>aL (k _ _ (Ne.symm hcr) e1)) ?_ ?_
 .rintro i x U H2 hx ⟨v,rfl,s2,k2,ds,dl,ed,hds⟩;rw[Af]at hx;cases e:ps[i]? with
  |none=>rw[e]at hx;cases hx
  |some p=>
   rw[e]at hx;cases hx;have hi:i<(wl cws).length:=by rw[<-hpl];exact(Ad.mp e).1
   have ew:(wl cws)[i]?=some (wl cws)[i]:=Aa hi
   have hm:=Y5.mp (Bo hi)
   have htp1:=tat i p _ e ew
   have hpne:p≠pc:=λz=>by rw[z,ec1]at htp1;cases htp1
   have ht:=k2 _ _ hpne htp1
   have hnew:(wl cws)[i]∉(wl cws).take i:=λz=>by
    obtain⟨j,hj,ej⟩:=Cg.mp z;rw[Bt]at hj;rw[List.getElem_take]at ej;have:=(Gm (lE cws cws.length)).mp ej
    omega
   have htk:(wl cws).take (i+1)=(wl cws).take i++[(wl cws)[i]]:=by rw[Be,ew];rfl
   generalize hw:(wl cws)[i]=w at hm ht hnew htk ew;obtain⟨h1,h2,h3⟩:=hm;have ecw:cws[w.1]?=some (cws.getD w.1 []):=by rw[Ac,Aa h1];rfl
   have h7w:=h7 _ (Ah ecw)
   have ha2:=aG s2 ha
   fail "g";refine iT ht (v:=.int (w.1:Int)) rfl ?_;fail "g";refine cL ha2 (v:=.str (bB (cws.getD w.1 []))) (fJ (by rw[Af,Af,ecw];rfl)) ?_
   fail "g";refine iT ht (v:=.int (w.2:Int)) rfl ?_;fail "g";refine⟨cws.getD w.1 [],w.2-1,_,rfl,by omega,by omega,h7w,λd H3 hd s3 e3=>?_⟩
   fail "g";have dl2:ds.length=((wl cws).take i).length:=by rw[dl,Bt];omega
   refine uX (k:=dB w) (s3 _ _ ed) (s3 _ _ ht) (aY (by rw[tU dl2,Bt];omega)) ?_
   have hdp:d≠pc:=λz=>by rw[z,ed]at hd;cases hd
   refine⟨_,rfl,bF hpc (s2.trans s3),λb u hb hu=>by rw[aI hb];exact s3 _ _ (k2 b u hb hu),ds++[d],by rw[Ak,dl];rfl,?_,λj v' d' hj hv hd'=>?_⟩
   .rw[aD,jJ _ (zZ hnew),htk,Jw dl2]
   .by_cases hjl:j<i
    .rw[Au (by omega)]at hd'
     have hold:=hds j v' d' hjl hv hd'
     rw[aI (λz=>by rw[z,ed]at hold;cases hold)]
     exact s3 _ _ hold
    .have hj2:j=i:=by omega
     subst hj2;rw[ew]at hv;cases hv;rw[Aw (by omega),dl,Hj]at hd'
     cases hd';rw[aI hdp];exact e3
 .rintro U H2 ⟨v,rfl,s2,k2,hch⟩;rw[hpm]at hch;fail "g";exact q pc H2 hpc s2 hch
def fX(m:List (Wt×Nat)):List (List Key×V):=m.map λx=>(dB x.1,V.str (one x.2))
def jQ(m:List (Wt×Nat))(w:Wt):bZ (fX m) (dB w)=(dI m w).map λf=>V.str (one f):=by
 induction m with
 |nil=>rfl
 |cons x m ih=>
  show bZ ((dB x.1,V.str (one x.2))::fX m) _=_
  rw[eQ];by_cases e:x.1=w
  .rw[if_pos e,cH (by show dB x.1=dB w;rw[e])]
   rfl
  .rw[if_neg e,bX (λz=>e (nI z)),ih]
def fF(A:List (Nat×Wt))(bs:List Addr):List (Key×V):=List.zipWith (λx b=>(Sum.inr (one x.1),V.ref b)) A bs
def kM{A:List (Nat×Wt)}(hl:bs.length=A.length)(f:Nat):(bZ (fF A bs) (Sum.inr (one f))).isSome=decide (f∈A.map (·.1)):=by
 induction A generalizing bs with
 |nil=>rfl
 |cons x A ih=>
  cases bs with
  |nil=>cases hl
  |cons b bs=>
   show (bZ ((Sum.inr (one x.1),V.ref b)::fF A bs) _).isSome=_
   by_cases e:x.1=f
   .rw[cH (by show (Sum.inr (one x.1):Key)=Sum.inr (one f);rw[e]),Ap (by rw[<-e];exact Aq)]
    rfl
   .rw[bX (λz=>e (Zu.mp z)),ih (by simpa using hl)]
    exact Cj.mpr ⟨λz=>Ao _ z,λz=>(Az.mp z).resolve_left λy=>e y.symm⟩
def KC{A:List (Nat×Wt)}(hl:bs.length=A.length){f:Nat}(h:f∉A.map (·.1)):bZ (fF A bs) (Sum.inr (one f))=none:=by
 have r:=kM hl f
 rw[Al h]at r;cases e:bZ (fF A bs) (Sum.inr (one f)) with
 |none=>rfl
 |some v=>rw[e]at r;cases r
def MD{A:List (Nat×Wt)}{x:Nat×Wt}(hl:bs.length=A.length):fF (A++[x]) (bs++[b])=fF A bs++[(Sum.inr (one x.1),V.ref b)]:=by
 unfold fF;rw[List.zipWith_append (by omega)]
 rfl
def qO{A:List (Nat×Wt)}(hl:bs.length=A.length):(fF A bs).length=A.length:=by
 unfold fF;rw[List.length_zipWith];omega
def MY{A:List (Nat×Wt)}(nd:(A.map (·.1)).Nodup)(hl:bs.length=A.length){f:Nat}{w:Wt}(hA:A[j]?=some (f,w))(hb:bs[j]?=some b):bZ (fF A bs) (Sum.inr (one f))=some (.ref b):=by
 induction A generalizing bs j with
 |nil=>cases hA
 |cons x A ih=>
  cases bs with
  |nil=>cases hl
  |cons e bs=>
   show bZ ((Sum.inr (one x.1),V.ref e)::fF A bs) _=_
   rw[Ar,Bz]at nd;cases j with
   |zero=>cases hA;cases hb;exact cH rfl
   |succ j=>
    have hm:f∈A.map (·.1):=Bg.mpr ⟨(f,w),Ah (show A[j]?=some (f,w) from hA),rfl⟩
    rw[bX (λz=>nd.1 (by rw[Zu.mp z];exact hm))]
    exact ih nd.2 (by simpa using hl) hA hb
def Z2(H:Hp)(rs:List Addr)(ws:List Wt):Prop:=rs.length=ws.length/\∀(j:Nat) r w,rs[j]?=some r->ws[j]?=some w->H r=some (.tup (wV w))
def Z2.keep{H:Hp}{ws:List Wt}(h:Z2 H rs ws)(k:∀r w,H r=some (.tup (wV w))->H' r=some (.tup (wV w))):Z2 H' rs ws:=⟨h.1,λj r w hr hw=>k _ _ (h.2 j r w hr hw)⟩
def Z2.app{qs:List Addr}{ws vs:List Wt}(h:Z2 H rs ws)(g:Z2 H qs vs):Z2 H (rs++qs) (ws++vs):=by
 refine⟨by rw[Ak,Ak,h.1,g.1],λj r w hr hw=>?_⟩
 by_cases hj:j<rs.length
 .rw[Au hj]at hr;rw[Au (by rw[<-h.1];exact hj)]at hw
  exact h.2 j r w hr hw
 .rw[Aw (by omega)]at hr
  rw[Aw (by rw[<-h.1];omega),<-h.1]at hw
  exact g.2 _ r w hr hw
def Z2.one{w:Wt}(h:H r=some (.tup (wV w))):Z2 H [r] [w]:=⟨rfl,λj q v hq hv=>by
 cases j with
 |zero=>cases hq;cases hv;exact h
 |succ j=>cases hq⟩
def Xz(H:Hp)(r:Addr)(cws:List (List Nat)):Prop:=∃ds:List Addr,ds.length=(wl cws).length/\Rd H r (.dT (dN (wl cws) ds))/\∀(j:Nat) w d,(wl cws)[j]?=some w->ds[j]?=some d->H d=some (.lst (((Zp cws w).map one).map V.str))
def Xz.keep{H:Hp}(h:Xz H r cws)(s:Z_ H H'):Xz H' r cws:=by
 obtain⟨ds,h1,h2,h3⟩:=h;exact⟨ds,h1,h2.elim (λe=>.inl (s _ _ e)) λ⟨o,e⟩=>.inr ⟨o,s _ _ e⟩,λj w d hw hd=>s _ _ (h3 j w d hw hd)⟩
structure Y0 (cws:List (List Nat)) (m:List (Wt×Nat)):Prop where
 nd:(m.map (·.1)).Nodup
 sub:∀x∈m,x.1∈wl cws
def Sd(hL:∀c∈cws,c.length<=7/\∀d∈c,bY d){w:Wt}(hw:w∈wl cws){f:Nat}(hf:f∈Zp cws w):fP f:=by
 obtain⟨h1,h2,h3⟩:=Y5.mp hw;have ecw:cws[w.1]?=some (cws.getD w.1 []):=by rw[Ac,Aa h1];rfl
 rcases Yk.mp hf with e|⟨n,_,h4,_,e⟩
 .rw[e];exact .inl (qJ (hL _ (Ah ecw)).2 (by omega))
 .rw[e];exact .inr ⟨by omega,by omega⟩
def R9{m:List (Wt×Nat)}{first:Wt}{A:List (Nat×Wt)}(hm:Y0 cws m)(hfw:first∈wl cws)(h:Asking (Zp cws) m first A){f:Nat}{w:Wt}(hj:A[j]?=some (f,w)):w∈wl cws:=by
 rcases (h.ok j f w hj).2 with e|⟨g,i,v,_,_,hg⟩
 .rw[e];exact hfw
 .exact hm.sub _ (xN hg)
def Ry{m:List (Wt×Nat)}{first:Wt}{A:List (Nat×Wt)}(hm:Y0 cws m)(hfw:first∈wl cws)(hL:∀c∈cws,c.length<=7/\∀d∈c,bY d)(h:Asking (Zp cws) m first A):A.length<=27:=by
 have r:=qL (m:=Z1.cps.toList) h.nd λf hf=>by
  obtain⟨x,hx,rfl⟩:=Bg.mp hf;obtain⟨j,hj,e⟩:=Cg.mp hx;have hj2:A[j]?=some (x.1,x.2):=by rw[Aa hj,e]
  exact ZQ.mpr (Sd hL (R9 hm hfw h hj2) (h.ok j _ _ hj2).1)
 rw[Ab]at r;exact r
def kP:Sp:=λvs H Q _=>∃(bf ac ah:Addr) (cws:List (List Nat)) (m:List (Wt×Nat)) (first:Wt),vs=[.ref bf,.ref ac,.ref ah]/\H bf=some (.tup (wV first))/\first∈wl cws/\Xz H ac cws/\H ah=some (.dT (fX m))/\Y0 cws m/\m.length<=56/\cws.length<=8/\(∀c∈cws,c.length<=7/\∀d∈c,bY d)/\
 ∀(r:Addr) (A:List (Nat×Wt)) (bs:List Addr) (H':Hp),H r=none->Z_ H H'->H' r=some (.dK (fF A bs))->Z2 H' bs (A.map (·.2))->XO (Zp cws) m first A->Q (.ref r) H'
def z9:Z9 ["first", "choices", "hung", "asked", "reached", "at", "asking", "flag"] ["first", "choices", "hung"] (aJ fI):=by fail "sc"
def sA(F:ZR K "asked_from" "asked_from" fI f fd):Z4 P w K mg base ZO 1 f fd ["first", "choices", "hung"] kP:=by
 refine F.ok z9 (λvs H Q E h=>?_) (λcdv A outer s H vs Q E hr h=>?_)
 .obtain⟨bf,ac,ah,cws,m,first,rfl,_⟩:=h;rfl
 obtain⟨bf,ac,ah,cws,m,first,rfl,hbf,hfw,hch,hah,hm,hml,h8,hL,q⟩:=h
 refine⟨_,(@aE _ _ _ _ _ (aO 3 z9.nd qW) (@aE _ _ _ _ _ (aO 4 z9.nd (bL (aA (mv 0) aB))) (@aE _ _ _ _ _ (aO 5 z9.nd aK) (@aE _ _ _ _ _ (yU Bf (aW Wv (mv 5) (aU cS rfl G.b_len cC (aA (mv 4) aB)) (bC _)) (@aE _ _ _ _ _ (aO 6 z9.nd (bI cE (mv 4) (mv 5) (λ_ _=>rfl))) (@aE _ _ _ _ _ (bU Bf rfl (bP (gF (Z5.u1 hr) (mv 1) (mv 6) (λ_ _=>rfl))) (aQ (i:=7) z9.nd rfl (Or.inr rfl)) (@aH _ _ _ (bT (aW (KJ (Z5.u1 hr)) (mv 7) (mv 3) (by rfl)) (@aE _ _ _ _ _ (fG (Z5.u1 hr) (mv 3) (mv 7) (mv 6) rfl) (@aH _ _ _ (cZ (dD Cc Ek El wI (mv 4) (aA (UL (bW rfl (mG (mv 2)) (dF (N:=["want", "flag", "hung"]) ["first", "choices", "hung", "asked", "reached", "at", "asking", "flag"] (aJ fI) [none,some 7,some 2] rfl rfl rfl (λx h=>bJ h) (by decide +kernel)) (by decide +kernel) rfl (by decide +kernel) (λ_ _ _ _=>(aQ (i:=0) (show List.Nodup (["want", "flag", "hung"]:List Str) by decide +kernel) rfl (Or.inl rfl))) (λ_ _ _ _=>(jI (aW sM (gF (Z5.u1 hr) (mv 2) (mv 0) (λ_ _=>rfl)) (mv 1) (bC _)))) (λ_ _ _ _=>(mv 0)))) aB))))) bA))) (@aH _ _ _ (aO 5 z9.nd (aX bS (mv 5) aK)))))) (@aH _ _ _ (aR (mv 3))))))),?_⟩
 fail "g";intro pa hpa;fail "g";refine⟨za0,λpr hpr=>?_⟩
 have s1:=(aF hpa (.dK [])).trans (aF hpr (.lst [.ref bf]))
 have npr:pa≠pr:=λz=>by rw[<-z,aD]at hpr;cases hpr
 have ea1:(upd (upd H pa (.dK [])) pr (.lst [.ref bf])) pa=some (.dK []):=by rw[aI npr,aD]
 have er1:(upd (upd H pa (.dK [])) pr (.lst [.ref bf])) pr=_:=aD
 have hpr0:H pr=none:=bK (aF hpa _) hpr
 generalize upd (upd H pa (.dK [])) pr (.lst [.ref bf])=H1 at s1 ea1 er1 ⊢;fail "g";refine ⟨λn U H'=>∃ (A:List (Nat×Wt)) (bs rs:List Addr) (t:Nat) (v1 v2:Option V),U=[some (.ref bf),some (.ref ac),some (.ref ah),some (.ref pa),some (.ref pr),some (.int (t:Int)),v1,v2]/\Z_ H H'/\H' pa=some (.dK (fF A bs))/\Z2 H' bs (A.map (·.2))/\H' pr=some (.lst (rs.map V.ref))/\Z2 H' rs (cJ m first A)/\
     Asking (Zp cws) m first A/\t<=(cJ m first A).length/\(∀(j:Nat) w,j<t->(cJ m first A)[j]?=some w->∀f∈Zp cws w,f∈A.map (·.1))/\n=1+m.length-t,⟨_,[],[],[bf],0,_,_,rfl,s1,ea1,⟨rfl,λj r w hr=>(nomatch hr)⟩,er1,.one (s1 _ _ hbf),⟨List.nodup_nil,λj f w hj=>(nomatch hj)⟩,Cs _,λj w hj=>absurd hj (Nat.not_lt_zero _),rfl⟩,?_⟩
 rintro n U H2 ⟨A,bs,rs,t,v1,v2,rfl,s2,ea2,wb2,er2,wr2,hask,htl,hcl,rfl⟩;have hrl:(rs.map V.ref).length=(cJ m first A).length:=by rw[Ab,wr2.1]
 have rr2:=aL er2
 fail "g";rw[hrl];refine gM (λhd=>?_) (λhd=>?_)
 .have hd':=Bi hd
  have ht:t<(cJ m first A).length:=by omega
  have hrm:=sV (m:=m) (first:=first) hask.nd
  have htr:t<rs.length:=by rw[wr2.1];exact ht
  have ew:(cJ m first A)[t]?=some (cJ m first A)[t]:=Aa ht
  have er:rs[t]?=some rs[t]:=Aa htr
  have hwt:=wr2.2 t _ _ er ew
  have hww:(cJ m first A)[t]∈wl cws:=by
   rcases Zt.mp (Bo ht) with e|⟨f,_,hm2⟩
   .rw[e];exact hfw
   .exact hm.sub _ hm2
  generalize hbw:rs[t]=b at hwt er;generalize hwe:(cJ m first A)[t]=w at hwt hww ew
  clear hbw hwe hd hd';obtain⟨ds,d1,d2,d3⟩:=id hch;obtain⟨jw,hjw,ejw⟩:=Cg.mp hww;have ejw2:(wl cws)[jw]?=some w:=by rw[Aa hjw,ejw]
  have edw:ds[jw]?=some (ds[jw]'(by omega)):=Aa (by omega)
  have hdlH:=d3 jw w _ ejw2 edw
  have hdv:=PQ (lE cws cws.length) d1 ejw2 edw
  generalize (ds[jw]'(by omega))=dl at hdlH hdv
  have hdl:=s2 _ _ hdlH
  have d22:Rd H2 ac (.dT (dN (wl cws) ds)):=d2.elim (λe=>.inl (s2 _ _ e)) λ⟨o,e⟩=>.inr ⟨o,s2 _ _ e⟩
  refine⟨λU' H'=>∃(A:List (Nat×Wt)) (bs rs:List Addr) (v1 v2:Option V),U'=[some (.ref bf),some (.ref ac),some (.ref ah),some (.ref pa),some (.ref pr),some (.int ((t+1:Nat):Int)),v1,v2]/\Z_ H H'/\H' pa=some (.dK (fF A bs))/\Z2 H' bs (A.map (·.2))/\H' pr=some (.lst (rs.map V.ref))/\Z2 H' rs (cJ m first A)/\
   Asking (Zp cws) m first A/\t+1<=(cJ m first A).length/\(∀(j:Nat) w,j<t+1->(cJ m first A)[j]?=some w->∀f∈Zp cws w,f∈A.map (·.1)),?_,?_⟩
  .rintro U' H' ⟨A',bs',rs',v1',v2',rfl,g1,g2,g3,g4,g5,g6,g7,g8⟩;exact⟨1+m.length-(t+1),by omega,A',bs',rs',t+1,v1',v2',rfl,g1,g2,g3,g4,g5,g6,g7,g8,rfl⟩
  fail "g";refine cL rr2 (v:=.ref b) (fJ (by rw[Af,er];rfl)) ?_
  fail "g";refine UD (k:=dB w) d22 hwt hdv ?_;have rdl:=aL hdl
  have hcl5:=(Nb (cws.getD w.1 []) (w.2-1)).2
  have hcm:(((Zp cws w).map one).map V.str).length=(Zp cws w).length:=by rw[Ab,Ab]
  fail "g";have kt:∀ {H':Hp} {p:Addr} {u u':HO},H' p=some u->(∀ws,u≠.tup ws)->∀r w,H' r=some (.tup (wV w))->(upd H' p u') r=some (.tup (wV w)):=fun {H' p u u'} e ne r w h=>by
   rw[aI (λz=>by rw[z,e]at h;cases h;exact ne _ rfl)]
   exact h
  refine cP (xs:=((Zp cws w).map one).map V.str) (λi U H'=>∃ (A:List (Nat×Wt)) (bs rs:List Addr) (v2:Option V),U=[some (.ref bf),some (.ref ac),some (.ref ah),some (.ref pa),some (.ref pr),some (.int (t:Int)),some (.ref b),v2]/\Z_ H H'/\H' pa=some (.dK (fF A bs))/\Z2 H' bs (A.map (·.2))/\H' pr=some (.lst (rs.map V.ref))/\Z2 H' rs (cJ m first A)/\
      H' b=some (.tup (wV w))/\Asking (Zp cws) m first A/\(cJ m first A)[t]?=some w/\(∀(j:Nat) v,j<t->(cJ m first A)[j]?=some v->∀f∈Zp cws v,f∈A.map (·.1))/\∀f∈(Zp cws w).take i,f∈A.map (·.1))
   ⟨A,bs,rs,_,rfl,s2,ea2,wb2,er2,wr2,hwt,hask,ew,hcl,λf hf=>(nomatch hf)⟩ (λi U H' _ ⟨_,_,_,_,_,e,_⟩=>aL (e _ _ hdlH)) ?_ ?_
  .clear hask ew hcl hrm htl hrl rr2 wr2 er2 wb2 ea2 er;rintro i x U H3 hx ⟨A,bs,rs,v2,rfl,s3,ea,wb,er,wr,hb,hask,ew,hcl,hpre⟩;rw[Af,Af]at hx;cases ef:(Zp cws w)[i]? with
   |none=>rw[ef]at hx;cases hx
   |some f=>
    rw[ef]at hx;cases hx;have hfc:=Ah ef
    have htk:(Zp cws w).take (i+1)=(Zp cws w).take i++[f]:=by rw[Be,ef];rfl
    have hbl:bs.length=A.length:=by rw[wb.1,Ab]
    have hAl:=Ry hm hfw hL hask
    fail "g";refine Tr (neg:=true) (z:=one f) (.inl ea) ?_;rw[if_pos rfl,kM hbl];refine gM (λhd=>?_) (λhd=>?_)
    .have hni:f∉A.map (·.1):=λz=>by rw[Ap z]at hd;cases hd
     fail "g";refine iI (z:=one f) ea (aY (by rw[qO hbl];omega)) ?_
     rw[jJ _ (KC hbl hni),<-MD (x:=(f,w)) hbl];have s4:Z_ H (upd H3 pa (.dK (fF (A++[(f,w)]) (bs++[b])))):=bF hpa s3
     have ea4:(upd H3 pa (.dK (fF (A++[(f,w)]) (bs++[b])))) pa=_:=aD
     have er4:(upd H3 pa (.dK (fF (A++[(f,w)]) (bs++[b])))) pr=_:=(aI (Ne.symm npr)).trans er
     have k4:=kt (u':=.dK (fF (A++[(f,w)]) (bs++[b]))) ea (λws z=>nomatch z)
     have wb4:=wb.keep k4
     have wr4:=wr.keep k4
     have hb4:=k4 _ _ hb
     generalize upd H3 pa (.dK (fF (A++[(f,w)]) (bs++[b])))=H4 at s4 ea4 er4 wb4 wr4 hb4 ⊢;have ah4:=s4 _ _ hah
     clear k4 wb wr er ea s3 hb;fail "g";refine vZ ah4 λo=>?_;have fz:(upd H4 ah (.frz o (.dT (fX m)))) ah=_:=aD
     have hkl:(fX m).length=m.length:=by unfold fX;rw[Ab]
     refine fR (n:=m.length) (λD i ys Hc=>Z_ (upd H4 ah (.frz o (.dT (fX m)))) Hc/\∃qs,ys=qs.map V.ref/\Z2 Hc qs (dR (m.take i) f)) (aY (by omega)) (λD hD=>⟨aF hD _,[],rfl,rfl,λj r w hr=>(nomatch hr)⟩) (λD i ys Hc _ r h=>⟨r.1 _ _ fz,by omega⟩) (λD ys Hc _ r=>⟨r.1 _ _ fz,hkl⟩) ?_ ?_
     .rintro D i2 ys Hc x H' A' B' hD hi2 ⟨sm,qs,rfl,wq⟩ hDc ⟨rfl,kv,b2,hkv,rfl,hb2⟩ hA' hB';have em:m[i2]?=some m[i2]:=Aa hi2
      unfold fX at hkv;rw[Af,em]at hkv;cases hkv;have hbt:H' b2=some (.tup (wV m[i2].1)):=hb2
      have hv:bZ (fX m) (dB m[i2].1)=some (.str (one m[i2].2)):=by
       rw[jQ,mK hm.nd (w:=m[i2].1) (f:=m[i2].2) (Bo hi2)];rfl
      have tk:m.take (i2+1)=m.take i2++[m[i2]]:=by rw[Be,em];rfl
      rw[tk]at hA' hB';generalize m[i2]=x2 at hbt hv hA' hB';fail "g";refine⟨Wk.set rfl (Wk.refl _),?_⟩;fail "g";refine UD (k:=dB x2.1) (.inr ⟨o,sm _ _ fz⟩) hbt hv ?_;fail "g";rw[show decide (one x2.2=one f)=decide (x2.2=f) from wB _ _];refine gM (λhe=>?_) (λhe=>?_)
      .have he':=Bi he
       fail "g";refine hA' _ _ hDc ⟨bF hD sm,qs++[b2],by rw[Aj];rfl,?_⟩
       rw[show dR (m.take i2++[x2]) f=dR (m.take i2) f++[x2.1] by unfold dR;rw[List.filter_append,List.map_append];simp[he']]
       exact(wq.app (.one hbt)).keep (kt hDc (λws z=>nomatch z))
      .have he':=Ca (Ce.mpr he)
       fail "g";refine hB' _ hDc ⟨sm,qs,rfl,?_⟩;rw[show dR (m.take i2++[x2]) f=dR (m.take i2) f by unfold dR;rw[List.filter_append,List.map_append];simp[he']]
       exact wq
     .rintro D ys Hc hD ⟨sm,qs,rfl,wq⟩ hDc _;rw [Br] at wq;have hD4:H4 D=none:=by
       by_cases z:D=ah
       .rw[z,aD]at hD;cases hD
       .rw[aI z]at hD;exact hD
      have su:=nK ah4 (λo v z=>nomatch z) sm
      have eu:=dS (Hs:=H4) hDc (λo v z=>nomatch z)
      have wqu:Z2 (Zr H4 Hc) qs (dR m f):=wq.keep λr w h=>dS h (λo v z=>nomatch z)
      generalize Zr H4 Hc=Hu at su eu wqu;have eru:=su _ _ er4
      have hmr:=aZ eru
      have hmd:=aZ eu
      have nDr:pr≠D:=bM er4 hD4
      have hq1:qs.length<=56:=by rw[wqu.1,UC];unfold YW;exact Bd Ge hml
      have hr1:rs.length<=57:=by rw[wr4.1];exact Bd (sV hask.nd) (by omega)
      have hlen:(rs.map V.ref).length+(qs.map V.ref).length<=sizeLine:=bE (by rw[Ab,Ab];omega)
      fail "g";have kr:=kt (u':=.lst (rs.map V.ref++qs.map V.ref)) eru (λws z=>nomatch z)
      have hRt:=(Ad.mp ew).1
      refine⟨A++[(f,w)],bs++[b],rs++qs,_,rfl,bF hpr0 (s4.trans su),?_,?_,?_,?_,?_,hask.snoc hm.nd hni hfc (Ah ew),?_,λj v hj hv=>?_,λg hg=>?_⟩
      .rw[aI npr];exact su _ _ ea4
      .rw[Aj];exact((wb4.keep λr w h=>su _ _ h).app (.one (su _ _ hb4))).keep kr
      .rw[aD,Aj]
      .rw[lK];exact((wr4.keep λr w h=>su _ _ h).app wqu).keep kr
      .exact kr _ _ (su _ _ hb4)
      .rw[lK,Au hRt];exact ew
      .rw[lK,Au (by omega)]at hv
       intro g hg;rw[Aj];exact Cb _ (hcl j v hj hv g hg)
      .rw[htk]at hg;rw[Aj];rcases Bs.mp hg with z|z
       .exact Cb _ (hpre g z)
       .rw[Bc.mp z];exact Bk _ (Bc.mpr rfl)
    .have hin:f∈A.map (·.1):=by
      rw[Bool.not_eq_true,Bool.not_eq_false']at hd;exact Bi hd
     fail "g";refine⟨A,bs,rs,_,rfl,s3,ea,wb,er,wr,hb,hask,ew,hcl,λg hg=>?_⟩;rw[htk]at hg;rcases Bs.mp hg with z|z
     .exact hpre g z
     .rw[Bc.mp z];exact hin
  .clear hask ew hcl hrm htl hrl rr2 wr2 er2 wb2 ea2 er;rintro U H3 ⟨A,bs,rs,v2,rfl,s3,ea,wb,er,wr,hb,hask,ew,hcl,hpre⟩;rw[hcm,Br]at hpre;fail "g";refine⟨A,bs,rs,_,_,rfl,s3,ea,wb,er,wr,hask,(Ad.mp ew).1,λj v hj hv=>?_⟩;by_cases hjt:j<t
   .exact hcl j v hjt hv
   .have:j=t:=by omega
    subst this;rw[ew]at hv;cases hv;exact hpre
 .have hd':=Ca (Ce.mpr hd)
  fail "g";refine q pa A bs H2 hpa s2 ea2 wb2 (hask.done λw hw f hf=>?_);obtain⟨j,hj,ej⟩:=Cg.mp hw;exact hcl j w (by omega) (by rw[Aa hj,ej]) f hf
def yE{m:List (Wt×Nat)}{w:Wt}{f:Nat}:dJ (fX m) (dB w) (.str (one f))=fX (WC m w f):=by
 have e:((fX m).any λkv=>decide (kv.1=dB w))=(dI m w).isSome:=by
  rw[dP,jQ];cases dI m w<;>rfl
 unfold dJ WC;rw[e];by_cases h:(dI m w).isSome=true
 .rw[if_pos h,if_pos h];unfold fX;rw[Bu,Bu];refine Bw λx _=>?_;show (if dB x.1=dB w then (dB x.1,V.str (one f)) else (dB x.1,V.str (one x.2)))=(λx:Wt×Nat=>(dB x.1,V.str (one x.2))) (if x.1=w then (x.1,f) else x)
  by_cases ex:x.1=w
  .rw[if_pos ex,if_pos (by rw[ex])]
  .rw[if_neg ex,if_neg (λz=>ex (nI z))]
 .rw[if_neg h,if_neg h];unfold fX;rw[Aj];rfl
inductive kW(vs:List V)(H:Hp)(Q:VK)(zz3:XK):Prop|mk(aa ah:Addr)(cws:List (List Nat))(m:List (Wt×Nat))(first:Wt)(A:List (Nat×Wt))(bs:List Addr)(f0:Nat)(_:vs=[.str (one f0),.ref aa,.ref ah])(_:H aa=some (.dK (fF A bs)))(_:Z2 H bs (A.map (·.2)))(_:Asking (Zp cws) m first A)(_:H ah=some (.dT (fX m)))(_:(m.map (·.1)).Nodup)(_:first∉m.map (·.1))(_:(∀v f,(v,f)∈m->f∈Zp cws v))(_:f0∈A.map (·.1))(_:m.length<=56)(_:∀(m':List (Wt×Nat)) (H':Hp),(∀b u,b≠ah->H b=some u->H' b=some u)->H' ah=some (.dT (fX m'))->m'.map (·.1)=m.map (·.1)++[first]->(∀v f,(v,f)∈m'->f∈Zp cws v)->(∀f,YW m' f=YW m f+(if f=f0 then 1 else 0))->Q .non H'):kW vs H Q zz3
def t9:Z9 ["flag", "asked", "hung", "want", "given"] ["flag", "asked", "hung"] (aJ iK):=by fail "sc"
def rZ(F:ZR K "hang_along" "hang_along" iK f fd)(G:Gs K mg Zw Zz Zx Zy):Z4 P w K mg base ZO 1 f fd ["flag", "asked", "hung"] kW:=by
 refine F.ok t9 (λvs H Q E h=>?_) (λcdv A outer s H vs Q E hr h=>?_)
 .obtain⟨aa,ah,cws,m,first,A,bs,f0,rfl,_⟩:=h;rfl
 obtain⟨aa,ah,cws,m,first,A,bs,f0,rfl,haa,hwb,hask,hah,nd,hnf,hmc,hf0,hml,q⟩:=h
 refine⟨_,(@aH _ _ _ (yU Bf (aW vT (mv 0) cV (bC _)) (@aE _ _ _ _ _ (aO 3 t9.nd (gF (Z5.u1 hr) (mv 1) (mv 0) (λ_ _=>rfl))) (@aE _ _ _ _ _ (aO 4 t9.nd (dO Bx Cr (RV (Z5.u1 hr)) (mv 2) (aA (mv 3) aB))) (@aE _ _ _ _ _ (fG (Z5.u1 hr) (mv 2) (mv 3) (mv 0) rfl) (@aH _ _ _ (aO 0 t9.nd (mv 4)))))))),?_⟩;have hbl:bs.length=A.length:=by rw[hwb.1,Ab]
 have nah:aa≠ah:=λz=>by rw[z,hah]at haa;cases haa
 obtain⟨x0,hx0,e0⟩:=Bg.mp hf0;obtain⟨j0,hj0,ej0⟩:=Cg.mp hx0;have ej:A[j0]?=some (f0,x0.2):=by rw[Aa hj0,ej0,<-e0]
 fail "g";refine ⟨λn U H'=>(∃ (m2:List (Wt×Nat)) (c j:Nat) (w:Wt) (v1 v2:Option V),U=[some (.str (one c)),some (.ref aa),some (.ref ah),v1,v2]/\(∀ b u,b≠ah->H b=some u->H' b=some u)/\H' ah=some (.dT (fX m2))/\YR (Zp cws) m A f0 m2 c j w/\n=j+1)\/
     (∃(m':List (Wt×Nat)) (v1 v2:Option V),U=[some .non,some (.ref aa),some (.ref ah),v1,v2]/\(∀b u,b≠ah->H b=some u->H' b=some u)/\H' ah=some (.dT (fX m'))/\m'.map (·.1)=m.map (·.1)++[first]/\(∀v f,(v,f)∈m'->f∈Zp cws v)/\(∀f,YW m' f=YW m f+(if f=f0 then 1 else 0))/\n=0),
  ⟨_,.inl ⟨m,f0,j0,x0.2,none,none,rfl,λb u _ h=>h,hah,⟨rfl,hmc,λf=>rfl,ej,λv g i u hg _ _=>hg⟩,rfl⟩⟩,?_⟩
 rintro n U H2 (⟨m2,c,j,w,v1,v2,rfl,fr,eh,al,rfl⟩|⟨m',v1,v2,rfl,fr,eh,hk,hc,hct,rfl⟩)
 .fail "g";rw[show (!decide (V.str (one c)=V.non))=true from rfl];fail "g";have hjl:=(Ad.mp al.at_).1
  have ebj:bs[j]?=some (bs[j]'(by omega)):=Aa (by omega)
  have hbt:=hwb.2 j _ w ebj (by rw[Af,al.at_];rfl)
  have hav:=MY hask.nd hbl al.at_ ebj
  generalize (bs[j]'(by omega))=b at hbt hav
  have nb:b≠ah:=λz=>by rw[z,hah]at hbt;cases hbt
  have haa2:=fr _ _ nah haa
  have hb2:=fr _ _ nb hbt
  have hkl:(fX m2).length<sizeLine:=by
   have:m2.length=m.length:=by rw[<-Ab (f:=(·.1)) (as:=m2),al.keys,Ab]
   unfold fX;rw[Ab];exact aY (by omega)
  have hdd:Yh H2 ah=true:=by unfold Yh;rw[eh]
  refine⟨_,λU' H' h=>h,?_⟩;fail "g";refine qF (z:=one c) (.inl haa2) hav ?_;fail "g";refine Sl (k:=dB w) (.inl eh) hb2 ?_;rw[jQ];have fr2:∀o,∀b u,b≠ah->H b=some u->(upd H2 ah o) b=some u:=λo b u hb hu=>by rw[aI hb];exact fr b u hb hu
  rcases (hask.ok j c w al.at_).2 with rfl|⟨g,i,v,hij,hi,hg⟩
  .obtain⟨l1,l2,l3,l4⟩:=al.last hask hnf;rw[l1];fail "g";refine uX (k:=dB w) eh hb2 hkl ?_;rw[yE,show WC m2 w c=m2++[(w,c)] by unfold WC;rw[l1];rfl]
   fail "g";exact⟨0,by omega,.inr ⟨m2++[(w,c)],_,_,rfl,fr2 _,aD,l2,l3,l4,rfl⟩⟩
  .obtain⟨l1,l2⟩:=al.step hask nd hg hi hij;rw[l1];fail "g";refine uX (k:=dB w) eh hb2 hkl ?_;rw[yE,show WC m2 w c=m2.map λx=>if x.1=w then (x.1,c) else x by unfold WC;rw[l1];rfl]
   fail "g";exact⟨i+1,by omega,.inl ⟨_,g,i,v,_,_,rfl,fr2 _,aD,l2,rfl⟩⟩
 .fail "g";exact q m' H2 fr eh hk hc hct
def iH(aC:Addr):Sp:=λvs H Q _=>∃(ea p q:Addr) (xs ys:List V),vs=[.ref ea,.ref p,.ref q]/\H ea=some (eC ea aC none)/\Z8 H p=some xs/\Z8 H q=some ys/\
 ∀(dx l1 l2:Addr) (H':Hp),(∀b u,b≠ea->H b=some u->H' b=some u)->H dx=none->dx≠ea->H' ea=some (eC ea aC (some dx))->H' dx=some (Y7 dx [("flags",.ref l2),("wants",.ref l1)])->H' l1=some (.lst xs)->H' l2=some (.lst ys)->H l1=none->H l2=none->Q .non H'
def vK:Z9 ["self", "wants", "flags"] ["self", "wants", "flags"] (aJ jA):=by fail "sc"
def vP(F:ZR K "__init__" "Lack.__init__" jA f fd):Z4 P w K mg base ZO 1 f fd ["self", "wants", "flags"] (iH Zw):=by
 refine F.ok vK (λvs H Q E h=>?_) (λcdv A outer s H vs Q E hr h=>?_)
 .obtain⟨ea,p,q,xs,ys,rfl,_⟩:=h;rfl
 obtain⟨ea,p,q,xs,ys,rfl,he,hp,hq,qq⟩:=h;refine⟨_,(@aE _ _ _ _ _ (cZ (xP rfl G.c_TowerError G.t1_TowerError G.t2_TowerError G.t3_TowerError (aA (mv 0) (aA (bV lM rfl G.b_list cR (aA (mv 1) aB)) (aA (bV lM rfl G.b_list cR (aA (mv 2) aB)) aB))))) (@aE _ _ _ _ _ (vW (mv 0) (bV lM rfl G.b_list cR (aA (mv 1) aB)) rfl) (@aH _ _ _ (vW (mv 0) (bV lM rfl G.b_list cR (aA (mv 2) aB)) rfl)))),?_⟩;fail "g";intro l1 hl1;have s1:=aF hl1 (.lst xs)
 generalize upd H l1 (.lst xs)=H1 at s1 ⊢;have hq1:=aG s1 hq
 fail "g";intro l2 hl2;have s2:=s1.trans (aF hl2 (.lst ys))
 generalize upd H1 l2 (.lst ys)=H2 at s2 ⊢;have he2:=s2 _ _ he
 fail "g";refine⟨ea,[.ref l1,.ref l2],Zw,Zz,none,rfl,za1,he2,(λ_ z=>nomatch z),G.YI,?_⟩
 have hp2:=aG s2 hp
 fail "g";intro l3 hl3;have s3:=s2.trans (aF hl3 (.lst xs))
 have e3:(upd H2 l3 (.lst xs)) l3=_:=aD
 generalize upd H2 l3 (.lst xs)=H3 at s3 e3 ⊢;have he3:=s3 _ _ he
 fail "g";refine⟨ea,Zw,Zz,rfl,G.YI,G.xn_Lack_wants,.inl ⟨he3,λdx hdx=>?_⟩⟩;have nde:dx≠ea:=λz=>by rw[z,he3]at hdx;cases hdx
 have fr4:∀b u,b≠ea->H b=some u->(upd (upd H3 ea (eC ea Zw (some dx))) dx (Y7 dx [("wants",.ref l3)])) b=some u:=λb u hb hu=>by
  have e:=s3 _ _ hu
  rw[aI (λz=>by rw[z,hdx]at e;cases e),aI hb]
  exact e
 have ee4:(upd (upd H3 ea (eC ea Zw (some dx))) dx (Y7 dx [("wants",.ref l3)])) ea=some (eC ea Zw (some dx)):=by rw[aI nde.symm,aD]
 have ed4:(upd (upd H3 ea (eC ea Zw (some dx))) dx (Y7 dx [("wants",.ref l3)])) dx=_:=aD
 have n3e:l3≠ea:=λz=>by rw[z,he3]at e3;cases e3
 have n3d:l3≠dx:=λz=>by rw[z,hdx]at e3;cases e3
 have el4:(upd (upd H3 ea (eC ea Zw (some dx))) dx (Y7 dx [("wants",.ref l3)])) l3=some (.lst xs):=by rw[aI n3d,aI n3e];exact e3
 have hqe:q≠ea:=λz=>by rw[z]at hq;unfold Z8 at hq;rw[he]at hq;cases hq
 have hq4:Z8 (upd (upd H3 ea (eC ea Zw (some dx))) dx (Y7 dx [("wants",.ref l3)])) q=some ys:=by
  have hq3:=aG s3 hq
  rw[U4 (λz=>by rw[z]at hq3;unfold Z8 at hq3;rw[hdx]at hq3;cases hq3),U4 hqe]
  exact hq3
 generalize upd (upd H3 ea (eC ea Zw (some dx))) dx (Y7 dx [("wants",.ref l3)])=H4 at fr4 ee4 ed4 el4 hq4 ⊢;fail "g";intro l4 hl4;have s5:=aF hl4 (.lst ys)
 have e5:(upd H4 l4 (.lst ys)) l4=_:=aD
 have ee5:=s5 _ _ ee4
 have ed5:=s5 _ _ ed4
 have el5:=s5 _ _ el4
 have n4d:l4≠dx:=λz=>by rw[z,ed4]at hl4;cases hl4
 have n4e:l4≠ea:=λz=>by rw[z,ee4]at hl4;cases hl4
 have h40:H l4=none:=by
  cases e:H l4 with
  |none=>rfl
  |some u=>rw[fr4 _ _ n4e e]at hl4;cases hl4
 generalize upd H4 l4 (.lst ys)=H5 at s5 e5 ee5 ed5 el5 ⊢;fail "g";refine⟨ea,Zw,Zz,rfl,G.YI,G.xn_Lack_flags,.inr ⟨dx,_,ee5,ed5,(by show 1<100;decide),?_⟩⟩
 refine qq dx l3 l4 _ (λb u hb hu=>?_) (bK s3 hdx) nde (by rw[aI nde.symm];exact ee5) aD (by rw[aI n3d];exact el5) (by rw[aI n4d];exact e5) (bK s2 hl3) h40
 have e:=s5 _ _ (fr4 b u hb hu)
 rw[aI (λz=>by have q9:=s3 _ _ hu;rw[z,hdx]at q9;cases q9)]
 exact e
structure ZV (cws:List (List Nat)) (n:Nat->Int) (W:List Wt) (F:List Nat):Prop where
 sub:W.Sublist (wl cws)
 flags:∃p:Nat->Bool,F=Z1.cps.toList.filter p
 all:∀w∈W,∀f∈Zp cws w,f∈F
 VD:(F.map n).sum<(W.length:Int)
def YT(fs:List Nat)(c:Nat):Nat:=fs.countP λx=>decide (x=c)
def oJ(g:Nat->Nat):∀L:List Nat,(L.map λc=>((g c:Nat):Int)).sum=(((L.map g).sum:Nat):Int)
 |[]=>rfl
 |c::r=>by
  rw[Ar,Cw,Ar,Cw,oJ g r];omega
def JS{n0:Nat->Int}{m:List (Wt×Nat)}{first:Wt}{A:List (Nat×Wt)}{fl:Nat->Option Int}{l r:List Wt}(hw:wl cws=l++first::r)(hk:m.map (·.1)=l)(hL:∀c∈cws,c.length<=7/\∀d∈c,bY d)(hmo:Y0 cws m)(hfw:first∈wl cws)(hA:XO (Zp cws) m first A)(hct:∀c,aP fl c=n0 c-(YW m c:Int)/\0<=aP fl c)(h0:∀c∈A.map (·.1),¬0<aP fl c):ZV cws n0 (iU m first A (wl cws)) (Z1.cps.toList.filter λc=>decide (c∈A.map (·.1))):=by
 have hAf:∀c∈A.map (·.1),fP c:=λc hc=>by
  obtain⟨x,hx,rfl⟩:=Bg.mp hc;obtain⟨j,hj,e⟩:=Cg.mp hx;have hj2:A[j]?=some (x.1,x.2):=by rw[Aa hj,e]
  exact Sd hL (R9 hmo hfw hA.toAsking hj2) (hA.ok j _ _ hj2).1
 have hF:∀c,c∈Z1.cps.toList.filter (λc=>decide (c∈A.map (·.1))) ↔ c∈A.map (·.1):=λc=>by
  rw[Dr,Bh];exact⟨λh=>h.2,λh=>⟨ZQ.mpr (hAf c h),h⟩⟩
 have ndF:(Z1.cps.toList.filter λc=>decide (c∈A.map (·.1))).Nodup:=List.Nodup.sublist Ee (by decide)
 have nd:=lE cws cws.length
 replace nd:(wl cws).Nodup:=nd
 refine⟨Ee,⟨_,rfl⟩,λw hwm f hf=>?_,?_⟩
 .refine(hF f).mpr ?_;have h2:=(X5.mp hwm).2
  by_cases e:w=first
  .subst e;exact hA.all1 f hf
  .cases eg:dI m w with
   |none=>rw[rV e eg]at h2;cases h2
   |some g=>
    rw[rG e eg]at h2;exact hA.all w g (xN eg) (Bi h2) f hf
 .have e1:(iU m first A (wl cws)).length=1+m.countP (λx=>decide (x.2∈A.map (·.1))):=by
   rw[hw]at nd ⊢;exact O3 hk nd
  have e2:m.countP (λx=>decide (x.2∈A.map (·.1)))=m.countP (λx=>decide (x.2∈Z1.cps.toList.filter λc=>decide (c∈A.map (·.1)))):=by
   congr 1
   funext x
   exact Cj.mpr (hF x.2).symm
  have e3:=ON m ndF
  have e4:(Z1.cps.toList.filter λc=>decide (c∈A.map (·.1))).map n0=(Z1.cps.toList.filter λc=>decide (c∈A.map (·.1))).map λc=>((YW m c:Nat):Int):=Bw λc hc=>by
   have h1:=hct c
   have h2:=h0 c ((hF c).mp hc)
   omega
  rw[e4,oJ,e1,e2,e3];omega
def jO(aC:Addr):Sp:=λvs H Q E=>∃(a b:Addr) (kvs:List (Key×V)) (f:Nat->Option Int) (cws:List (List Nat)),vs=[.ref a,.ref b]/\Rd H a (.dK kvs)/\Lk kvs f/\Z8 H b=some ((cws.map bB).map V.str)/\cws.length<=8/\(∀c∈cws,c.length<=7/\∀d∈c,bY d)/\
 (∀(r:Addr) (ps:List Addr) (fs:List Nat) (H':Hp),H r=none->Z_ H H'->H' r=some (.lst (ps.map V.ref))->(∀p∈ps,p≠r)->ZU H H' ps ((List.range cws.length).map (ZK cws fs))->fs.length=(wl cws).length->(∀(j:Nat) w g,(wl cws)[j]?=some w->fs[j]?=some g->g∈Zp cws w)->(∀c,(YT fs c:Int)<=aP (bD (aP f)) c)->Q (.ref r) H')/\
 (∀(dx l1 l2:Addr) (rs:List Addr) (W:List Wt) (F:List Nat) (H':Hp),Z_ H H'->H' dx=some (Y7 dx [("flags",.ref l2),("wants",.ref l1)])->H' l1=some (.lst (rs.map V.ref))->Z2 H' rs W->H' l2=some (.lst ((F.map one).map V.str))->ZV cws (aP (bD (aP f))) W F->H l1=none->H l2=none->E (.ref aC) (some dx) H')
def z7:Z9 ["locker", "words", "choices", "left", "hung", "first", "asked", "free", "wants"] ["locker", "words"] (aJ dU):=by fail "sc"
def yJ(F:ZR K "hang_all" "hang_all" dU f fd)(m8:ZP P w K mg base 2 "choices_of" ["words"] lA)(y6:ZP P w K mg base 1 "plain_locker" ["locker"] dQ)(m9:ZP P w K mg base 1 "hoists_of" ["words", "flags"] mY)(l5:ZP P w K mg base 1 "asked_from" ["first", "choices", "hung"] kP)(l6:ZP P w K mg base 1 "hang_along" ["flag", "asked", "hung"] kW)(x8:WE P w K mg base 1 Zw ["self", "wants", "flags"] (iH Zw)):Z4 P w K mg base (YG P w) 3 f fd ["locker", "words"] (jO Zw):=by
 refine F.Wx z7 (λvs H Q E h=>?_) (λcdv A outer s H vs Q E hr h=>?_)
 .obtain⟨a,b,kvs,f,cws,rfl,_⟩:=h;rfl
 obtain⟨a,b,kvs,f,cws,rfl,ha,lk,hb,h8,hL,q,qe⟩:=h;refine⟨_,(@aE _ _ _ _ _ (aO 2 z7.nd (aV m8 hr (by decide) rfl (aA (mv 1) aB))) (@aE _ _ _ _ _ (aO 3 z7.nd (aV y6 hr (by decide) rfl (aA (mv 0) aB))) (@aE _ _ _ _ _ (@UP _ _ 4 _ _ _ _ z7.nd (by rfl) (by exact(Or.inr rfl)) yY (by rfl) (by fail "o")) (@aE _ _ _ _ _ (UG (bU PassesOwn.leaving rfl (mG (mv 2)) (aQ (i:=5) z7.nd rfl (Or.inr rfl)) (@aE _ _ _ _ _ (aO 6 z7.nd (aV l5 hr (by decide) rfl (aA (mv 5) (aA (mv 2) (aA (mv 4) aB))))) (@aE _ _ _ _ _ (UG (qD (i:=7) z7.nd rfl (Or.inl rfl) rfl (Sh (mv 6)) (dF (N:=["flag", "left"]) ["locker", "words", "choices", "left", "hung", "first", "asked", "free", "wants"] (aJ dU) [none,some 3] rfl rfl rfl (λx h=>bJ h) (by decide +kernel)) (by decide +kernel) rfl (by decide +kernel) (λ_ _ _ _=>(aQ (i:=0) (show List.Nodup (["flag", "left"]:List Str) by decide +kernel) rfl (Or.inl rfl))) (λ_ _ _ _=>(jI (aW Wc (dO Bx Cr (pF (Z5.u1 hr)) (mv 1) (aA (mv 0) (aA aK aB))) aK (bC _)))) (λ_ _ _ _=>(mv 0)))) (@aE _ _ _ _ _ (bT (aW (TL hr.Y3) (mv 7) (bL aB) (bC _)) (@aE _ _ _ _ _ (UG (qD (i:=8) z7.nd rfl (Or.inl rfl) rfl (mG (mv 2)) (dF (N:=["want", "first", "asked", "hung"]) ["locker", "words", "choices", "left", "hung", "first", "asked", "free", "wants"] (aJ dU) [none,some 5,some 6,some 4] rfl rfl rfl (λx h=>bJ h) (by decide +kernel)) (by decide +kernel) rfl (by decide +kernel) (λ_ _ _ _=>(aQ (i:=0) (show List.Nodup (["want", "first", "asked", "hung"]:List Str) by decide +kernel) rfl (Or.inl rfl))) (λ_ _ _ _=>(jI (PW.pt (kX (aW (Oz hr.Y3) (mv 0) (mv 1) (bC _)) (iB (aW (P6 (Z5.u1 hr)) (dO Bx Cr (RV (Z5.u1 hr)) (mv 3) (aA (mv 0) aB)) (mv 2) (by rfl))))))) (λ_ _ _ _=>(mv 0)))) (@aH _ _ _ (nY qC rfl rfl rfl G.YN G.Yf x8 hr (by decide) (aA (mv 8) (aA (bW rfl (pA (kL rfl G.s_FLAGS)) (dF (N:=["flag", "asked"]) ["locker", "words", "choices", "left", "hung", "first", "asked", "free", "wants"] (aJ dU) [none,some 6] rfl rfl rfl (λx h=>bJ h) (by decide +kernel)) (by decide +kernel) rfl (by decide +kernel) (λ_ _ _ _=>(aQ (i:=0) (show List.Nodup (["flag", "asked"]:List Str) by decide +kernel) rfl (Or.inl rfl))) (λ_ _ _ _=>(jI (aW (Ly (Z5.u1 hr)) (mv 0) (mv 1) (by rfl)))) (λ_ _ _ _=>(mv 0))) aB))))) bA) (@aE _ _ _ _ _ (fG (Z5.u1 hr) (mv 3) (bI cE (mv 7) aK (λ_ _=>rfl)) (aX kQ (gF (Z5.u1 hr) (mv 3) (bI cE (mv 7) aK (λ_ _=>rfl)) (λ_ _=>rfl)) aK) rfl) (@aH _ _ _ (cZ (aV l6 hr (by decide) rfl (aA (bI cE (mv 7) aK (λ_ _=>rfl)) (aA (mv 6) (aA (mv 4) aB)))))))))))) (@aH _ _ _ (aR (aV m9 hr (by decide) rfl (aA (mv 1) (aA (UL (bW rfl (mG (mv 2)) (dF (N:=["want", "hung"]) ["locker", "words", "choices", "left", "hung", "first", "asked", "free", "wants"] (aJ dU) [none,some 4] rfl rfl rfl (λx h=>bJ h) (by decide +kernel)) (by decide +kernel) rfl (by decide +kernel) (λ_ _ _ _=>(aQ (i:=0) (show List.Nodup (["want", "hung"]:List Str) by decide +kernel) rfl (Or.inl rfl))) (λ_ _ _ _=>cW) (λ_ _ _ _=>(gF (Z5.u1 hr) (mv 1) (mv 0) (λ_ _=>rfl))))) aB))))))))),?_⟩
 have h7:∀c∈cws,c.length<=7:=λc hc=>(hL c hc).1
 have hlw:(wl cws).length<=56:=Bd (mF h7 _) (by omega)
 fail "g";refine⟨b,cws,rfl,hb,h8,h7,λac H1 hac s1 hch=>?_⟩;fail "g";refine⟨a,kvs,f,rfl,ha.elim (λe=>.inl (s1 _ _ e)) (λ⟨o,e⟩=>.inr ⟨o,s1 _ _ e⟩),lk,λal H2 hal s2 el=>?_⟩;fail "g";intro ah hah;have s3:=s2.trans (aF hah (.dT []))
 have eh3:(upd H2 ah (.dT [])) ah=_:=aD
 have el3:=aF hah (.dT []) _ _ el
 generalize upd H2 ah (.dT [])=H3 at s3 eh3 el3 ⊢;obtain⟨ds,dl,ed,hds⟩:=hch;rw[Br]at ed;have ed3:=s3 _ _ ed
 fail "g";refine vZ ed3 λo=>?_;have fz:(upd H3 ac (.frz o (.dT (dN (wl cws) ds)))) ac=_:=aD
 have kl:(dN (wl cws) ds).length=(wl cws).length:=tU dl
 have nac:ah≠ac:=λz=>by have e:=s2 _ _ ed;rw[<-z,hah]at e;cases e
 have nla:al≠ac:=λz=>by rw[z,ed3]at el3;cases el3
 have nlh:al≠ah:=λz=>by rw[z,eh3]at el3;cases el3
 have s13:Z_ H1 H3:=s3
 have hah1:H1 ah=none:=bK s2 hah
 generalize hn0:aP (bD (aP f))=n0;refine O1 (λi U H'=>∃(m:List (Wt×Nat)) (kl2:List (Key×V)) (fl:Nat->Option Int) (v5 v6 v7 v8:Option V),U=[some (.ref a),some (.ref b),some (.ref ac),some (.ref al),some (.ref ah),v5,v6,v7,v8]/\(∀p u,p≠ac->p≠al->p≠ah->H1 p=some u->H' p=some u)/\H' ac=some (.frz o (.dT (dN (wl cws) ds)))/\H' ah=some (.dT (fX m))/\H' al=some (.dK kl2)/\Lk kl2 fl/\kl2.length<=27/\m.map (·.1)=(wl cws).take i/\(∀v g,(v,g)∈m->g∈Zp cws v)/\(∀c,aP fl c=n0 c-(YW m c:Int)/\0<=aP fl c))
  ⟨[],_,bD (aP f),_,_,_,_,rfl,λp u h1 h2 h3 hu=>by rw[aI h1];exact s13 _ _ hu,fz,by rw[aI nac];exact eh3,by rw[aI nla];exact el3,gN _,by unfold Zb;rw[Ab];exact hX _ _,rfl,(λv g hv=>nomatch hv),λc=>?_⟩ (λi U H' _ ⟨_,_,_,_,_,_,_,_,_,e,_⟩=>e) ?_ ?_
 .rw[hn0];refine⟨by show n0 c=n0 c-((0:Nat):Int);omega,?_⟩
  rw[<-hn0];show 0<=(bD (aP f) c).getD 0
  unfold bD;split
  .rename_i h;exact Int.le_of_lt h.2
  .exact Hq 0
 .rintro i kv bf U H4 hkv hbf ⟨m,kl2,fl,v5,v6,v7,v8,rfl,fr,ec,eh,el4,lkl,l27,hk,hmc,hct⟩;have hi:i<(wl cws).length:=by rw[<-kl];exact(Ad.mp hkv).1
  have ew:(wl cws)[i]?=some (wl cws)[i]:=Aa hi
  have ekv:kv=(dB (wl cws)[i],V.ref (ds[i]'(by omega))):=by
   unfold dN at hkv;rw[Gf,ew,Aa (show i<ds.length by omega)]at hkv
   exact(Bv hkv).symm
  rw[ekv]at hbf;have hnd:=lE cws cws.length
  have hfw:(wl cws)[i]∈wl cws:=Bo hi
  have htk:(wl cws).take (i+1)=(wl cws).take i++[(wl cws)[i]]:=by rw[Be,ew];rfl
  have hfn:(wl cws)[i]∉m.map (·.1):=by
   rw[hk];intro z;obtain⟨j,hj,ej⟩:=Cg.mp z;rw[Bt]at hj;rw[List.getElem_take]at ej;have:=(Gm hnd).mp ej
   omega
  have hml:m.length<=56:=by
   have e:m.length=(m.map (·.1)).length:=(Ab _).symm
   rw[e,hk,Bt];omega
  have hmo:Y0 cws m:=⟨by rw[hk];exact hnd.sublist (Ha ..),λx hx=>List.mem_of_mem_take (by rw[<-hk];exact Bg.mpr ⟨x,hx,rfl⟩)⟩
  have hcr:Xz H4 ac cws:=⟨ds,dl,.inr ⟨o,ec⟩,λj w d hw hd=>by
   have h1:=hds j w d (Ad.mp hw).1 hw hd
   exact fr d _ (λz=>by rw[z,ed]at h1;cases h1) (λz=>by rw[z,hal]at h1;cases h1) (λz=>by rw[z,hah1]at h1;cases h1) h1⟩
  replace hbf:H4 bf=some (.tup (wV (wl cws)[i])):=hbf
  clear ekv hkv;generalize (wl cws)[i]=first at hbf ew hfw htk hfn
  fail "g";refine⟨bf,ac,ah,cws,m,first,rfl,hbf,hfw,hcr,eh,hmo,hml,h8,hL,λpa A bs H5 hpa s5 ea wb hask=>?_⟩
  have el5:=s5 _ _ el4
  have hbl:bs.length=A.length:=by rw[wb.1,Ab]
  have hA27:=Ry hmo hfw hL hask.toAsking
  have hdl5:=jU el5
  fail "g";refine TZ ea λoa=>?_;have fza:(upd H5 pa (.frz oa (.dK (fF A bs)))) pa=_:=aD
  have nlp:al≠pa:=λz=>by rw[z,hpa]at el4;cases el4
  have elf:(upd H5 pa (.frz oa (.dK (fF A bs)))) al=_:=(aI nlp).trans el5
  refine fR (n:=A.length) (λD i ys Hc=>Z_ (upd H5 pa (.frz oa (.dK (fF A bs)))) Hc/\ys=((((A.take i).map (·.1)).filter λc=>decide (0<aP fl c)).map one).map V.str) (aY (by omega)) (λD hD=>⟨aF hD _,rfl⟩) (λD i ys Hc _ r h=>⟨r.1 _ _ fza,by rw[qO hbl];exact h⟩) (λD ys Hc _ r=>⟨r.1 _ _ fza,qO hbl⟩) ?_ ?_
  .rintro D i2 ys Hc x H' A' B' hD hi2 ⟨sm,rfl⟩ hDc ⟨rfl,kv,hkv,rfl⟩ hA' hB';have eA:A[i2]?=some A[i2]:=Aa hi2
   unfold fF at hkv;rw[Gf,eA,Aa (show i2<bs.length by omega)]at hkv
   cases hkv;have tk:A.take (i2+1)=A.take i2++[A[i2]]:=by rw[Be,eA];rfl
   rw[tk,Aj,Fe]at hA' hB';generalize A[i2]=xa at hA' hB';have elc:=sm _ _ elf
   have hdc:=jU elc
   dsimp only[kV];fail "g";refine⟨Wk.set rfl (Wk.refl _),?_⟩;fail "g";refine pN (z:=one xa.1) (.inl elc) ?_;rw[lkl.val xa.1,gA];fail "g";refine gM (λhe=>?_) (λhe=>?_)
   .have he':=Bi he
    fail "g";refine hA' _ _ hDc ⟨bF hD sm,?_⟩;rw[show ([xa].map (·.1)).filter (λc=>decide (0<aP fl c))=[xa.1] by simp[he'],List.map_append,List.map_append]
    rfl
   .have he':=Ca (Ce.mpr he)
    fail "g";refine hB' _ hDc ⟨sm,?_⟩;rw[show ([xa].map (·.1)).filter (λc=>decide (0<aP fl c))=[] by simp;omega,List.append_nil]
  .rintro D ys Hc hD ⟨sm,rfl⟩ hDc _;rw[Br]at hDc;have su:=nK ea (λo v z=>nomatch z) sm
   have eu:=dS (Hs:=H5) hDc (λo v z=>nomatch z)
   refine vH ?_;unfold We;dsimp only;generalize Zr H5 Hc=H6 at su eu ⊢;have s46:=s5.trans su
   have ea6:=su _ _ ea
   have wb6:Z2 H6 bs (A.map (·.2)):=wb.keep λr w h=>su _ _ h
   have ec6:=s46 _ _ ec
   have eh6:=s46 _ _ eh
   have el6:=s46 _ _ el4
   have hbf6:=s46 _ _ hbf
   have fr6:∀p u,p≠ac->p≠al->p≠ah->H1 p=some u->H6 p=some u:=λp u h1 h2 h3 hu=>s46 _ _ (fr p u h1 h2 h3 hu)
   have hD4:H4 D=none:=by
    have h5:H5 D=none:=by
     by_cases z:D=pa
     .rw[z,aD]at hD;cases hD
     .rw[aI z]at hD;exact hD
    exact bK s5 h5
   clear sm hDc hD fza elf hdl5 el5;fail "g";refine⟨by decide,λpe hpe=>?_⟩
   refine V2 (neg:=false) (aG (aF hpe _) (aL eu)) dA (cK _) rfl ?_;have s67:=aF hpe (.lst [])
   generalize upd H6 pe (.lst [])=H7 at s67 ⊢;have en:∀xs:List V,jP xs []=xs.isEmpty:=λxs=>by cases xs<;>rfl
   rw[if_neg (by decide),en]
   cases hfr:(A.map (·.1)).filter (λc=>decide (0<aP fl c)) with
   |nil=>
    rw[hfr]at eu;rw[show (List.map V.str (List.map one [])).isEmpty=true from rfl];have ec7:=s67 _ _ ec6
    have eh7:=s67 _ _ eh6
    have ea7:=s67 _ _ ea6
    have hbf7:=s67 _ _ hbf6
    have fr7:∀p u,p≠ac->p≠al->p≠ah->H1 p=some u->H7 p=some u:=λp u h1 h2 h3 hu=>s67 _ _ (fr6 p u h1 h2 h3 hu)
    clear eu wb6 hpe s67 fr6 fr ec6 eh6 ea6 hbf6 el6 su hD4 s46 hpa s5 ea wb el4 nlp;fail "g";refine MK ec7 ?_;refine fR (n:=(wl cws).length) (λD i ys Hc=>Z_ H7 Hc/\∃rs,ys=rs.map V.ref/\Z2 Hc rs (iU m first A ((wl cws).take i))) (aY (by omega)) (λD hD=>⟨aF hD _,[],rfl,rfl,λj r w hr=>nomatch hr⟩) (λD i ys Hc _ r h=>⟨r.1 _ _ ec7,by rw[kl];exact h⟩) (λD ys Hc _ r=>⟨r.1 _ _ ec7,kl⟩) ?_ ?_
    .rintro D i2 ys Hc x H' A' B' hD hi2 ⟨sm,rs,rfl,hwt⟩ hDc ⟨rfl,kv,bk,hkv,rfl,hbk⟩ hA' hB';have ew2:(wl cws)[i2]?=some (wl cws)[i2]:=Aa hi2
     have ekv:kv=(dB (wl cws)[i2],V.ref (ds[i2]'(by omega))):=by
      unfold dN at hkv;rw[Gf,ew2,Aa (show i2<ds.length by omega)]at hkv
      exact(Bv hkv).symm
     rw[ekv]at hbk;replace hbk:H' bk=some (.tup (wV (wl cws)[i2])):=hbk
     have tk:(wl cws).take (i2+1)=(wl cws).take i2++[(wl cws)[i2]]:=by rw[Be,ew2];rfl
     rw[tk]at hA' hB';clear ekv hkv ew2 tk;generalize (wl cws)[i2]=wx at hbk hA' hB';have ehc:=sm _ _ eh7
     have eac:=sm _ _ ea7
     have hfc:=sm _ _ hbf7
     have yes:iS m first A wx=true->A' (.ref bk) H':=λhb=>by
      refine hA' _ _ hDc ⟨bF hD sm,rs++[bk],by rw[Aj];rfl,?_⟩
      rw[qK,hb,if_pos rfl];refine Z2.keep (hwt.app (.one hbk)) λr w h=>?_;rw[aI (λz=>by rw[z,hDc]at h;cases h)]
      exact h
     have no:iS m first A wx=false->B' H':=λhb=>by
      refine hB' _ hDc ⟨sm,rs,rfl,?_⟩;rw[qK,hb,if_neg (by decide),Bq]
      exact hwt
     clear hA' hB';fail "g";refine⟨Wk.set rfl (Wk.refl _),?_⟩;fail "g";refine MN hbk hfc ?_;have hd2:decide ((wx.1:Int)=(first.1:Int)/\(wx.2:Int)=(first.2:Int))=decide (wx=first):=Cj.mpr ⟨λh=>Prod.ext (by omega) (by omega),λh=>by rw[h];exact⟨rfl,rfl⟩⟩
     rw[hd2];by_cases e:wx=first
     .rw[Ap e];fail "g";exact yes (xE e)
     .rw[Al e];have hdd:Yh H' ah=true:=by unfold Yh;rw[ehc]
      fail "g";refine Sl (k:=dB wx) (.inl ehc) hbk ?_;rw[jQ];cases eg:dI m wx with
      |none=>
       refine Nt (.inl eac) ?_;fail "g";exact no (rV e eg)
      |some g=>
       have hlb:=rG (A:=A) e eg
       refine Ot (z:=one g) (.inl eac) ?_;rw[kM hbl];refine gM (λhg=>?_) (λhg=>?_)
       .fail "g";exact yes (hlb.trans hg)
       .fail "g";exact no (hlb.trans (Ce.mpr hg))
    .rintro D ys Hc hD ⟨sm,rs,rfl,hwt⟩ hDc _;rw[Br]at hwt;have su:=Mz sm
     have eu:=dS (Hs:=H7) hDc (λo v z=>nomatch z)
     have hwu:Z2 (Zr H7 Hc) rs (iU m first A (wl cws)):=hwt.keep λr w h=>dS h λo v z=>nomatch z
     refine vH ?_;unfold We;dsimp only;generalize Zr H7 Hc=H8 at su eu hwu ⊢;have ea8:=su _ _ ea7
     fail "g";refine pX (λc=>if decide (c∈A.map (·.1))=true then some (.str (one c)) else none) (by decide) (λi3 c Hc2 A' B' hc sm2 hA'=>?_) (λD2 H9 hD2 s9 hr9=>?_)
     .have r:=hA' _ (Z_.refl _)
      fail "g";refine⟨Wk.set rfl (Wk.refl _),?_⟩;fail "g";refine Tr (z:=one c) (neg:=false) (.inl (sm2 _ _ ea8)) ?_;rw[if_neg (by decide),kM hbl]
      refine gM (λhg=>?_) (λhg=>?_)
      .rw[if_pos hg]at r;fail "g";exact r
      .rw[if_neg hg]at r;exact r
     .have ef:(Str.ofString "abcdefghijklmnopqrstuvw1234").cps.toList.filterMap (λc=>if decide (c∈A.map (·.1))=true then some (V.str (one c)) else none)=((Z1.cps.toList.filter λc=>decide (c∈A.map (·.1))).map one).map V.str:=by
       rw[show (Str.ofString "abcdefghijklmnopqrstuvw1234")=Z1 from rfl];generalize Z1.cps.toList=L;induction L with
       |nil=>rfl
       |cons c r ih=>
        rw[Eb,Fq];by_cases hg:decide (c∈A.map (·.1))=true
        .rw[if_pos hg,if_pos hg,Ar,Ar,<-ih]
        .rw[if_neg hg,if_neg hg,<-ih]
      rw[ef]at hr9;have eD9:=s9 _ _ eu
      fail "g";refine⟨za1,λea hea=>⟨ea,D,D2,_,_,rfl,aD,aG (aF hea _) (aL eD9),aG (aF hea _) (aL hr9),λdx l1 l2 H' frx hdx nde e1 e2 e3 e4 hl1 hl2=>⟨rfl,some dx,e1,?_⟩⟩⟩
      have n1:l1≠ea:=λz=>by rw[z,e1]at e3;cases e3
      have n2:l2≠ea:=λz=>by rw[z,e1]at e4;cases e4
      have go9:∀b u,H9 b=some u->(del H' ea) b=some u:=λb u hu=>by
       have nb:b≠ea:=λz=>by rw[z,hea]at hu;cases hu
       rw[dH nb];exact frx b u nb (by rw[aI nb];exact hu)
      have hto:∀b u,H b=some u->H9 b=some u:=λb u hu=>by
       refine s9 _ _ (su _ _ (fr7 b u (λz=>by rw[z,hac]at hu;cases hu) (λz=>?_) (λz=>?_) (s1 _ _ hu)))
       .have:=s1 _ _ hu
        rw[z,hal]at this;cases this
       .have:=s1 _ _ hu
        rw[z,hah1]at this;cases this
      refine qe dx l1 l2 rs _ _ (del H' ea) (λb u hu=>go9 _ _ (hto b u hu)) ((dH nde).trans e2) ((dH n1).trans e3) (hwu.keep λr w h=>go9 _ _ (s9 _ _ h)) ((dH n2).trans e4) ?_ (bK hto (by rw[aI n1]at hl1;exact hl1)) (bK hto (by rw[aI n2]at hl2;exact hl2))
      .rw[hn0];refine JS (l:=(wl cws).take i) (r:=(wl cws).drop (i+1)) (fl:=fl) ?_ hk hL hmo hfw hask hct (λc hc=>?_)
       .have e:=List.take_append_drop (i+1) (wl cws)
        rw[htk,List.append_assoc]at e;exact e.symm
       .have:=List.filter_eq_nil_iff.mp hfr c hc
        rw[Bh]at this;exact this
   |cons f0 fr0=>
    rw[hfr]at eu;rw[show (List.map V.str (List.map one (f0::fr0))).isEmpty=false from rfl];have hf0m:f0∈(A.map (·.1)).filter (λc=>decide (0<aP fl c)):=by rw[hfr];exact Aq
    rw[Dr,Bh]at hf0m;obtain⟨hf0A,hf0p⟩:=hf0m;obtain⟨n1,hn1⟩:∃n1,fl f0=some n1:=by
     cases e:fl f0 with
     |none=>rw[show aP fl f0=0 by unfold aP;rw[e];rfl]at hf0p;omega
     |some n=>exact⟨n,rfl⟩
    have hcn1:aP fl f0=n1:=by unfold aP;rw[hn1];rfl
    have el7:=s67 _ _ el6
    have ea7:=s67 _ _ ea6
    have eh7:=s67 _ _ eh6
    have ec7:=s67 _ _ ec6
    have eD7:=s67 _ _ eu
    have wb7:Z2 H7 bs (A.map (·.2)):=wb6.keep λr w h=>s67 _ _ h
    have hdl7:=jU el7
    have at0:Zc (List.map V.str (List.map one (f0::fr0))) 0=some (V.str (one f0)):=fJ (show (List.map V.str (List.map one (f0::fr0)))[0]?=some (V.str (one f0)) from rfl)
    fail "g";refine cL (aL eD7) (v:=.str (one f0)) at0 ?_;fail "g";refine qF (z:=one f0) (.inl el7) (by rw[lkl.val f0,hn1];rfl) ?_
    fail "g";refine cL (aL eD7) (v:=.str (one f0)) at0 ?_;fail "g";refine iI (z:=one f0) el7 (aY (by omega)) ?_
    have nDl:D≠al:=λz=>by rw[z]at hD4;rw[hD4]at el4;cases el4
    have npl:pa≠al:=λz=>by rw[z]at hpa;rw[hpa]at el4;cases el4
    have nhl:ah≠al:=Ne.symm nlh
    have ncl:ac≠al:=Ne.symm nla
    have el8:(upd H7 al (.dK (dJ kl2 (Sum.inr (one f0)) (V.int (n1-1))))) al=_:=aD
    have ea8:(upd H7 al (.dK (dJ kl2 (Sum.inr (one f0)) (V.int (n1-1))))) pa=_:=(aI npl).trans ea7
    have eh8:(upd H7 al (.dK (dJ kl2 (Sum.inr (one f0)) (V.int (n1-1))))) ah=_:=(aI nhl).trans eh7
    have ec8:(upd H7 al (.dK (dJ kl2 (Sum.inr (one f0)) (V.int (n1-1))))) ac=_:=(aI ncl).trans ec7
    have eD8:(upd H7 al (.dK (dJ kl2 (Sum.inr (one f0)) (V.int (n1-1))))) D=_:=(aI nDl).trans eD7
    have wb8:Z2 (upd H7 al (.dK (dJ kl2 (Sum.inr (one f0)) (V.int (n1-1))))) bs (A.map (·.2)):=wb7.keep λr w h=>by
     rw[aI (λz=>by rw[z,el7]at h;cases h)]
     exact h
    have fr8:∀p u,p≠ac->p≠al->p≠ah->H1 p=some u->(upd H7 al (.dK (dJ kl2 (Sum.inr (one f0)) (V.int (n1-1))))) p=some u:=λp u h1 h2 h3 hu=>by
     rw[aI h2];exact s67 _ _ (fr6 p u h1 h2 h3 hu)
    generalize upd H7 al (.dK (dJ kl2 (Sum.inr (one f0)) (V.int (n1-1))))=H8 at el8 ea8 eh8 ec8 eD8 wb8 fr8 ⊢;fail "g";refine cL (aL eD8) (v:=.str (one f0)) at0 ?_;fail "g";refine⟨pa,ah,cws,m,first,A,bs,f0,rfl,ea8,wb8,hask.toAsking,eh8,hmo.nd,hfn,hmc,hf0A,hml,λm' H9 fr9 eh9 hk9 hc9 hct9=>?_⟩
    fail "g";refine⟨m',_,_,_,_,_,_,rfl,λp u h1 h2 h3 hu=>fr9 p u h3 (fr8 p u h1 h2 h3 hu),fr9 _ _ (Ne.symm nac) ec8,eh9,fr9 _ _ nlh el8,lkl.put f0 (n1-1),?_,?_,hc9,λc=>?_⟩
    .have hv:bZ kl2 (Sum.inr (one f0))≠none:=by rw[lkl.val f0,hn1];exact λz=>nomatch z
     have e:=Da List.length (xY kl2 (Sum.inr (one f0)) (.int (n1-1)) hv)
     rw[Ab,Ab]at e;omega
    .rw[hk9,hk,htk]
    .have h1:=hct c
     have h2:=hct9 c
     have h3:aP (λd=>if d=f0 then some (n1-1) else fl d) c=if c=f0 then n1-1 else aP fl c:=by
      show ((if c=f0 then some (n1-1) else fl c):Option Int).getD 0=_
      by_cases z:c=f0
      .rw[if_pos z,if_pos z];rfl
      .rw[if_neg z,if_neg z];rfl
     rw[h3];by_cases z:c=f0
     .subst z;rw[if_pos rfl]at h2 ⊢;omega
     .rw[if_neg z]at h2 ⊢;omega
 .rintro U H4 ⟨m,kl2,fl,v5,v6,v7,v8,rfl,fr,ec,eh,el4,lkl,l27,hk,hmc,hct⟩;rw[kl,Br]at hk;have ec5:=uO (Hs:=H3) ec (λo v z=>by rw[ed3]at z;cases z)
  have eh5:=dS (Hs:=H3) eh (λo v z=>nomatch z)
  have sh5:Z_ H (Zr H3 H4):=λb u hu=>by
   have h1:=s1 _ _ hu
   have h4:=fr b u (λz=>by rw[z,hac]at hu;cases hu) (λz=>by rw[z,hal]at h1;cases h1) (λz=>by rw[z,hah1]at h1;cases h1) h1
   by_cases hf:∃o v,u=.frz o v
   .obtain⟨o',v',rfl⟩:=hf;exact mM h4 (s13 _ _ h1)
   .exact dS h4 λo v z=>hf ⟨o,v,z⟩
  unfold We;dsimp only;generalize Zr H3 H4=H5 at ec5 eh5 sh5 ⊢;have hml:m.length=(wl cws).length:=by rw[<-hk,Ab]
  have hnd:(m.map (·.1)).Nodup:=by rw[hk];exact lE cws cws.length
  fail "g";refine vZ ec5 λo2=>?_;have fz2:(upd H5 ac (.frz o2 (.dT (dN (wl cws) ds)))) ac=_:=aD
  have eh6:(upd H5 ac (.frz o2 (.dT (dN (wl cws) ds)))) ah=_:=(aI nac).trans eh5
  refine fR (n:=(wl cws).length) (λD i ys Hc=>Z_ (upd H5 ac (.frz o2 (.dT (dN (wl cws) ds)))) Hc/\ys=(((m.take i).map (·.2)).map one).map V.str) (aY (by omega)) (λD hD=>⟨aF hD _,rfl⟩) (λD i ys Hc _ r h=>⟨r.1 _ _ fz2,by rw[kl];exact h⟩) (λD ys Hc _ r=>⟨r.1 _ _ fz2,kl⟩) ?_ ?_
  .rintro D i2 ys Hc x H' A' B' hD hi2 ⟨sm,rfl⟩ hDc ⟨rfl,kv,bk,hkv,rfl,hbk⟩ hA' hB';have ew2:(wl cws)[i2]?=some (wl cws)[i2]:=Aa hi2
   have ekv:kv=(dB (wl cws)[i2],V.ref (ds[i2]'(by omega))):=by
    unfold dN at hkv;rw[Gf,ew2,Aa (show i2<ds.length by omega)]at hkv
    exact(Bv hkv).symm
   rw[ekv]at hbk;have em:m[i2]?=some m[i2]:=Aa (by omega)
   have e1:m[i2].1=(wl cws)[i2]:=by
    have e0:(m.map (·.1))[i2]?=some (wl cws)[i2]:=by rw[hk];exact ew2
    rw[Af,em]at e0;exact Bv e0
   have tk:m.take (i2+1)=m.take i2++[m[i2]]:=by rw[Be,em];rfl
   rw[tk]at hA';replace hbk:H' bk=some (.tup ((dB m[i2].1).map kV)):=by rw[e1];exact hbk
   have hval:bZ (fX m) (dB m[i2].1)=some (.str (one m[i2].2)):=by
    have hm2:(m[i2].1,m[i2].2)∈m:=Ah em
    rw[jQ,mK hnd hm2];rfl
   clear ekv hkv ew2 tk e1 em;generalize m[i2]=mx at hbk hA' hval;have ehc:=sm _ _ eh6
   fail "g";refine⟨Wk.set rfl (Wk.refl _),?_⟩;fail "g";refine UD (k:=dB mx.1) (.inl ehc) hbk hval ?_;refine hA' _ _ hDc ⟨bF hD sm,?_⟩;rw[Aj,Aj,Aj];rfl
  .rintro D ys Hc hD ⟨sm,rfl⟩ hDc _;rw[<-hml,Br]at hDc;have su:=nK ec5 (λo v z=>nomatch z) sm
   have eu:=dS (Hs:=H5) hDc (λo v z=>nomatch z)
   generalize Zr H5 Hc=H6 at su eu ⊢;have s06:=sh5.trans su
   refine⟨b,D,cws,m.map (·.2),rfl,aG s06 hb,aL eu,h8,h7,λr ps H7 hr s7 er hne hls=>?_⟩;refine q r ps (m.map (·.2)) H7 (bK s06 hr) (s06.trans s7) er hne (hls.YU s06) (by rw[Ab,hml]) (λj w g hw hg=>?_) (λc=>?_)
   .rw[<-hk,Af]at hw;rw[Af]at hg;cases em:m[j]? with
    |none=>rw[em]at hw;cases hw
    |some x=>
     rw[em]at hw hg;cases hw;cases hg;exact hmc x.1 x.2 (Ah em)
   .rw[hn0];have h1:=hct c
    have h2:YT (m.map (·.2)) c=YW m c:=by
     unfold YT YW;rw[List.countP_map];rfl
    rw[h2];omega
def Zh(n:Nat->Int)(cws:List (List Nat)):Prop:=∃fs:List Nat,fs.length=(wl cws).length/\(∀(j:Nat) w g,(wl cws)[j]?=some w->fs[j]?=some g->g∈Zp cws w)/\∀c,(YT fs c:Int)<=n c
def TV(x:Nat):∀ {F:List Nat},F.Nodup->(F.map λc=>if x=c then 1 else 0).sum=if x∈F then 1 else 0
 |[],_=>rfl
 |c::r,h=>by
  have n1:=Bz.mp h
  rw[Ar,Cw,TV x n1.2];by_cases e:x=c
  .subst e;rw[if_pos rfl,if_neg n1.1,if_pos Aq]
  .rw[if_neg e];by_cases m:x∈r
   .rw[if_pos m,if_pos (Ao _ m)]
   .rw[if_neg m,if_neg λz=>(Az.mp z).elim e m]
def Sy(g h:Nat->Nat):∀F:List Nat,(F.map λc=>g c+h c).sum=(F.map g).sum+(F.map h).sum
 |[]=>rfl
 |c::r=>by
  rw[Ar,Cw,Sy g h r,Ar,Cw,Ar,Cw];omega
def SO(nd:F.Nodup):∀fs:List Nat,(F.map (YT fs)).sum=fs.countP λx=>decide (x∈F)
 |[]=>by
  have:∀F:List Nat,(F.map (YT [])).sum=0:=λF=>by
   induction F with
   |nil=>rfl
   |cons c r ih=>rw[Ar,Cw,ih];rfl
  rw[this];rfl
 |x::r=>by
  have e:YT (x::r)=λc=>YT r c+if x=c then 1 else 0:=by
   funext c
   unfold YT;rw[Dy];by_cases h:x=c
   .rw[if_pos h,if_pos (Ap h)]
   .rw[if_neg h,if_neg (by rw[Bh];exact h)]
  rw[e,Sy,SO nd r,TV x nd,Dy];by_cases h:x∈F
  .rw[if_pos h,if_pos (Ap h)]
  .rw[if_neg h,if_neg (by rw[Bh];exact h)]
def rD{p:α->Bool}{q:β->Bool}:∀(L:List α) (M:List β),L.length=M.length->(∀(j:Nat) a b,L[j]?=some a->M[j]?=some b->p a=true->q b=true)->L.countP p<=M.countP q
 |[],_,_,_=>Cs _
 |a::L,[],h,_=>by cases h
 |a::L,b::M,h,hpq=>by
  rw[Dy,Dy];have ih:=rD L M (by simpa using h) λj x y hx hy=>hpq (j+1) x y hx hy
  have h0:=hpq 0 a b rfl rfl
  by_cases pa:p a=true
  .rw[if_pos pa,if_pos (h0 pa)];omega
  .rw[if_neg pa];omega
def wQ{g h:Nat->Int}(e:∀c,g c<=h c):∀F:List Nat,(F.map g).sum<=(F.map h).sum
 |[]=>Hq _
 |c::r=>by
  rw[Ar,Cw,Ar,Cw];have:=wQ e r
  have:=e c
  omega
def Nd{W L:List Wt}(s:W.Sublist L):W.length<=L.countP λw=>decide (w∈W):=by
 have h:=s.countP_le (p:=λw=>decide (w∈W))
 have e:W.countP (λw=>decide (w∈W))=W.length:=List.countP_eq_length.mpr λw hw=>Ap hw
 omega
def LA{W:List Wt}(h:ZV cws n W F):F.Nodup:=by
 obtain⟨p,rfl⟩:=h.flags;exact List.Nodup.sublist Ee (by decide)
def yW{W:List Wt}(h:ZV cws n W F):¬Zh n cws:=by
 rintro⟨fs,hl,hch,hct⟩;have h1:=Nd h.sub
 have h2:((wl cws).countP λw=>decide (w∈W))<=fs.countP λx=>decide (x∈F):=rD _ _ hl.symm λj w g hw hg hp=>Ap (h.all w (Bi hp) g (hch j w g hw hg))
 have h3:=SO (LA h) fs
 have h4:=wQ hct F
 rw[oJ (YT fs) F]at h4;have h5:=h.VD
 omega
def qV:Sp:=λvs H Q _=>∃(a b:Addr) (kvs:List (Key×V)) (f:Nat->Option Int) (cws:List (List Nat)),vs=[.ref a,.ref b]/\Rd H a (.dK kvs)/\Lk kvs f/\Z8 H b=some ((cws.map bB).map V.str)/\cws.length<=8/\(∀c∈cws,c.length<=7/\∀d∈c,bY d)/\
 (Zh (aP (bD (aP f))) cws->∀H',Z_ H H'->Q .non H')/\(∀(t l1 l2:Addr) (rs:List Addr) (W:List Wt) (F:List Nat) (H':Hp),Z_ H H'->H t=none->H' t=some (.tup [.ref l1,.ref l2])->H' l1=some (.lst (rs.map V.ref))->Z2 H' rs W->H' l2=some (.lst ((F.map one).map V.str))->ZV cws (aP (bD (aP f))) W F->H l1=none->H l2=none->Q (.ref t) H')
def f6:Z9 ["locker", "words", "lack"] ["locker", "words"] (aJ oO):=by fail "sc"
def Kr(F:ZR K "lack_of" "lack_of" oO f fd)(x9:sI P w K mg base 3 "hang_all" ["locker", "words"] (jO Zw)):Z4 P w K mg base ZO 4 f fd ["locker", "words"] qV:=by
 refine F.ok f6 (λvs H Q E h=>?_) (λcdv A outer s H vs Q E hr h=>?_)
 .obtain⟨a,b,kvs,f,cws,rfl,_⟩:=h;rfl
 obtain⟨a,b,kvs,f,cws,rfl,ha,lk,hb,h8,hL,q1,q2⟩:=h;refine⟨_,(@aE _ _ _ _ _ (Sw (i:=2) rfl rfl rfl f6.nd rfl rfl rfl G.YN (λy4 R=>(@aH _ _ _ (cZ (Uc x9 (qM rfl) hr (by decide) rfl (aA (mv 0) (aA (mv 1) aB)))))) (λy4 ea=>(@aH _ _ _ (aR (lB (aA (nE (K:=K) rfl (mv 2) rfl) (aA (nE (K:=K) rfl (mv 2) rfl) aB))))))) (@aH _ _ _ (aR cV))),?_⟩
 fail "g";refine⟨a,b,kvs,f,cws,rfl,ha,lk,hb,h8,hL,λrh ps fs H1 hrh s1 er hne hls hfl hch hct=>?_,λdx l1 l2 rs W F H1 s1 ed el1 hwt el2 hlo hn1 hn2=>⟨G.XA,λea hea=>?_⟩⟩
 .fail "g";exact q1 ⟨fs,hfl,hch,hct⟩ _ s1
 .have k2:=aF hea (oN ea (.ref Zw) (some dx))
  have e2:(upd H1 ea (oN ea (.ref Zw) (some dx))) ea=_:=aD
  have ed2:=k2 _ _ ed
  generalize upd H1 ea (oN ea (.ref Zw) (some dx))=H2 at k2 e2 ed2 ⊢;fail "g";refine⟨ea,Zw,dx,_,_,rfl,.inl e2,ed2,G.Ze,G.xn_Lack_wants,rfl,?_⟩;fail "g";refine⟨ea,Zw,dx,_,_,rfl,.inl e2,ed2,G.Ze,G.xn_Lack_flags,rfl,?_⟩;fail "g";refine⟨za1,λt ht=>?_⟩
  have s3:=k2.trans (aF ht (.tup [.ref l1,.ref l2]))
  exact q2 t l1 l2 rs W F _ (s1.trans s3) (bK (s1.trans k2) ht) aD (s3 _ _ el1) ⟨hwt.1,λj p w hp hw=>s3 _ _ (hwt.2 j p w hp hw)⟩ (s3 _ _ el2) hlo hn1 hn2
def fH(h:(ks.map λk=>V.int ((k:Nat):Int))[j]?=some x):∃k,ks[j]?=some k/\x=.int ((k:Nat):Int):=by
 rw[Af]at h;cases e:ks[j]? with
 |none=>rw[e]at h;cases h
 |some k=>rw[e]at h;cases h;exact⟨k,rfl,rfl⟩
def cI:List Nat->Nat->List (List Nat)
 |_,0=>[[]]
 |ks,m+1=>(List.range ks.length).flatMap λj=>(cI (ks.drop (j+1)) m).map λl=>ks.getD j 0::l
def eO(ks:List Nat):cI ks 0=[[]]:=by cases ks<;>rfl
def eP(ks:List Nat)(m:Nat):cI ks (m+1)=(List.range ks.length).flatMap λj=>(cI (ks.drop (j+1)) m).map λl=>ks.getD j 0::l:=by rw[cI]
def xL{x:Nat}:∀ {ks:List Nat},(x::l).Sublist ks->∃j,j<ks.length/\ks.getD j 0=x/\l.Sublist (ks.drop (j+1))
 |[],h=>by cases h
 |k::ks,h=>by
  rcases List.sublist_cons_iff.mp h with e|⟨r,e,hr⟩
  .obtain⟨j,h1,h2,h3⟩:=xL e;exact⟨j+1,Nat.succ_lt_succ h1,h2,h3⟩
  .cases e;exact⟨0,Nat.succ_pos _,rfl,hr⟩
def ZN:∀ {m:Nat} {ks l:List Nat},l∈cI ks m ↔ l.Sublist ks/\l.length=m
 |0,ks,l=>by
  rw[eO,Bc];constructor
  .rintro rfl;exact⟨List.nil_sublist _,rfl⟩
  .exact λh=>Fw h.2
 |m+1,ks,l=>by
  rw[eP,Gq];constructor
  .rintro⟨j,hj,hl⟩;rw[By]at hj;obtain⟨l',h1,rfl⟩:=Bg.mp hl;obtain⟨h2,h3⟩:=ZN.mp h1;refine⟨?_,by rw[Av,h3]⟩
   have e:ks.getD j 0::ks.drop (j+1)=ks.drop j:=by
    rw[Ac,Aa hj];exact(Eg hj).symm
   have h4:(ks.getD j 0::l').Sublist (ks.getD j 0::ks.drop (j+1)):=h2.cons_cons _
   rw[e]at h4;exact h4.trans (List.drop_sublist _ _)
  .rintro⟨h1,h2⟩;cases l with
   |nil=>cases h2
   |cons x l=>
    obtain⟨j,h3,h4,h5⟩:=xL h1;exact⟨j,List.mem_range.mpr h3,List.mem_map.mpr ⟨l,ZN.mpr ⟨h5,by simpa using h2⟩,by rw[h4]⟩⟩
def oQ(f:α->List β)(b:Nat):∀(L:List α),(∀x∈L,(f x).length<=b)->(L.flatMap f).length<=L.length*b
 |[],_=>Cs _
 |x::r,h=>by
  rw[Eu,Ak,Av,Nat.succ_mul];have h1:=oQ f b r λy hy=>h y (Ao _ hy)
  have h2:=h x Aq
  omega
def gR:∀ {m:Nat} {ks:List Nat},ks.length<=6->(cI ks m).length<=6^m
 |0,ks,_=>by rw[eO];decide
 |m+1,ks,h=>by
  rw[eP];refine Bd (oQ _ (6^m) _ λj _=>?_) ?_
  .rw[Ab];exact gR (by rw[Ct];omega)
  .rw[Bm,Nat.pow_succ,Nat.mul_comm];exact Nat.mul_le_mul_left _ h
def Jv(ks:List Nat)(j:Nat):(ks.map λk=>V.int ((k:Nat):Int)).drop j=((ks.drop j).map λk=>V.int ((k:Nat):Int)):=(List.map_drop ..).symm
def Ll:mP xs (some ((k:Nat):Int)) none=xs.drop k:=by
 unfold mP;show (xs.drop (if ((k:Nat):Int)<0 then (((k:Nat):Int)+(xs.length:Int)).toNat else min ((k:Nat):Int).toNat xs.length)).take (xs.length-(if ((k:Nat):Int)<0 then (((k:Nat):Int)+(xs.length:Int)).toNat else min ((k:Nat):Int).toNat xs.length))=_
 rw[if_neg (by omega),Co]
 by_cases h:k<=xs.length
 .rw[Gu h,Bl (by rw[Ct];omega)]
 .rw[Fu (by omega),List.drop_length,List.take_nil,Hf (by omega)]
def nW(ks:List Nat)(m i:Nat):List (List Nat):=(List.range i).flatMap λj=>(cI (ks.drop (j+1)) m).map λl=>ks.getD j 0::l
def xQ(ks:List Nat)(m i:Nat):nW ks m (i+1)=nW ks m i++(cI (ks.drop (i+1)) m).map λl=>ks.getD i 0::l:=by
 unfold nW;rw[Cm,Ez,Eu,List.flatMap_nil,Bq]
def Lf{m:Nat}(h:m<=7):6^m<=279936:=Bd (Fj (by decide) h) (by decide)
def OZ{m i:Nat}(h:ks.length<=6):(nW ks m i).length<=i*6^m:=by
 have:=oQ (λj=>(cI (ks.drop (j+1)) m).map λl=>ks.getD j 0::l) (6^m) (List.range i) λj _=>by
  rw[Ab];exact gR (by rw[Ct];omega)
 rwa [Bm]at this
def lJ(h:(ps.map V.ref)[j]?=some x):∃p,ps[j]?=some p/\x=.ref p:=by
 rw[Af]at h;cases e:ps[j]? with
 |none=>rw[e]at h;cases h
 |some p=>rw[e]at h;cases h;exact⟨p,rfl,rfl⟩
def OH(k:Nat)(L:Q6):(List.range L.length).map (λj=>V.int ((k:Nat):Int)::((L.getD j []).map λk=>V.int ((k:Nat):Int)))=(L.map λl=>k::l).map λl=>(l.map λk=>V.int ((k:Nat):Int)):=by
 rw[Bu];have h:∀n,n<=L.length->(List.range n).map (λj=>V.int ((k:Nat):Int)::((L.getD j []).map λk=>V.int ((k:Nat):Int)))=(L.take n).map ((λl=>(l.map λk=>V.int ((k:Nat):Int))) ∘ λl=>k::l):=λn=>by
  induction n with
  |zero=>intro _;rfl
  |succ n ih=>
   intro hn;have e:L[n]?=some L[n]:=Aa (by omega)
   rw[Cm,Aj,ih (by omega),Be,e,Aj]
   refine Da _ ?_;show [V.int ((k:Nat):Int)::((L.getD n []).map λk=>V.int ((k:Nat):Int))]=[((k::L[n]).map λk=>V.int ((k:Nat):Int))]
   rw[Ac,e];rfl
 have r:=h L.length (Ai _)
 rwa [Br]at r
def cM(n:Nat):Sp:=λvs H Q _=>∃(b:Addr) (ks:List Nat) (m:Nat),vs=[.ref b,.int ((m:Nat):Int)]/\Z8 H b=some (ks.map λk=>V.int ((k:Nat):Int))/\ks.length<=6/\m<n/\m<=7/\
 ∀(r:Addr) (ps:List Addr) (H':Hp),H r=none->Z_ H H'->H' r=some (.lst (ps.map V.ref))->ZU H H' ps ((cI ks m).map λl=>(l.map λk=>V.int ((k:Nat):Int)))->(∀p∈ps,p≠r)->Q (.ref r) H'
def oP:∀vs H Q E,¬cM 0 vs H Q E:=λvs H Q E ⟨_,_,_,_,_,_,h,_⟩=>Nat.not_lt_zero _ h
def p4:Z9 ["numbers", "many", "lists", "at", "number", "behind"] ["numbers", "many"] (aJ dC):=by fail "sc"
def pS{n:Nat}(F:ZR K "rising_lists" "rising_lists" dC f fd)(u7:ZP P w K mg base (d+1) "rising_lists" ["numbers", "many"] (cM n)):Z4 P w K mg base ZO (d+2) f fd ["numbers", "many"] (cM (n+1)):=by
 refine F.ok p4 (λvs H Q E h=>?_) (λcdv A outer s H vs Q E hr h=>?_)
 .obtain⟨b,ks,m,rfl,_⟩:=h;rfl
 obtain⟨b,ks,m,rfl,hb,h6,hmn,h7,q⟩:=h;refine⟨_,(@aE _ _ _ _ _ (bT (aW sM (mv 1) aK (bC _)) (@aH _ _ _ (aR (bL (aA (bL aB) aB)))) bA) (@aE _ _ _ _ _ (aO 2 p4.nd (bL aB)) (@aE _ _ _ _ _ (bU Bf rfl (vN rfl G.b_enumerate (aA (mv 0) aB)) (hJ (K:=K) (i:=3) (j:=4) (by rfl) (by rfl) p4.nd (by rfl) (by exact(Or.inl rfl)) (by exact Or.inl rfl) (by rfl) (by exact(Or.inr rfl)) (by exact Or.inl rfl)) (@aE _ _ _ _ _ (aO 5 p4.nd (aV u7 hr (Ai _) rfl (aA (mO VZ (mv 0) (nH (aX bS (mv 3) aK)) uZ) (aA (aX kQ (mv 1) aK) aB)))) (@aH _ _ _ (cZ (dD Cc Ek El wI (mv 2) (aA (bW rfl (bP (mv 5)) (dF (N:=["rest", "number"]) ["numbers", "many", "lists", "at", "number", "behind"] (aJ dC) [none,some 4] rfl rfl rfl (λx h=>bJ h) (by decide +kernel)) (by decide +kernel) rfl (by decide +kernel) (λ_ _ _ _=>(aQ (i:=0) (show List.Nodup (["rest", "number"]:List Str) by decide +kernel) rfl (Or.inl rfl))) (λ_ _ _ _=>cW) (λ_ _ _ _=>(aX bS (bL (aA (mv 1) aB)) (mv 0)))) aB)))))) (@aH _ _ _ (aR (mv 2)))))),?_⟩
 cases m with
 |zero=>
  fail "g";rw[show decide (((0:Nat):Int)=0)=true from rfl];fail "g";refine⟨by decide,λp hp=>?_⟩
  have s1:=aF hp (.lst [])
  have e1:(upd H p (.lst [])) p=some (.lst ((([]:List Nat)).map λk=>V.int ((k:Nat):Int))):=aD
  generalize upd H p (.lst [])=H1 at s1 e1 ⊢;fail "g";refine⟨za0,λr hr=>?_⟩
  have s2:=aF hr (.lst [.ref p])
  have npr:p≠r:=λz=>by rw[z,hr]at e1;cases e1
  refine q r [p] _ (bK s1 hr) (s1.trans s2) aD ?_ (λz hz=>by rw[Bc.mp hz];exact npr)
  rw[eO];exact ZU.snoc (ps:=[]) (fs:=[]) .nil hp (s2 _ _ e1)
 |succ m=>
  have h6m:=Lf (m:=m+1) h7
  rw[Nat.pow_succ]at h6m;fail "g";rw[show decide (((m+1:Nat):Int)=0)=false from Al (by omega)]
  fail "g";refine⟨by decide,λp hp=>?_⟩
  have s1:=aF hp (.lst [])
  have e1:(upd H p (.lst [])) p=some (.lst (([]:List Addr).map V.ref)):=aD
  generalize upd H p (.lst [])=H1 at s1 e1 ⊢;have hb1:=aG s1 hb
  fail "g";refine Tq (xs:=(ks.map λk=>V.int ((k:Nat):Int))) (λi U H'=>∃(ps:List Addr) (v3 v4 v5:Option V),U=[some (.ref b),some (.int ((m+1:Nat):Int)),some (.ref p),v3,v4,v5]/\Z_ H H'/\H' p=some (.lst (ps.map V.ref))/\ZU H H' ps ((nW ks m i).map λl=>(l.map λk=>V.int ((k:Nat):Int)))/\∀z∈ps,z≠p)
   ⟨[],_,_,_,rfl,s1,e1,.nil,λz hz=>nomatch hz⟩ (λi U H' _ ⟨_,_,_,_,_,e,_⟩=>aG e hb) ?_ ?_
  .rintro i x U H2 pt hx ⟨ps,v3,v4,v5,rfl,s2,e2,ls,nd⟩ hpt;obtain⟨k,ek,rfl⟩:=fH hx;have hi:i<ks.length:=(Ad.mp ek).1
   have hps:ps.length=(nW ks m i).length:=by rw[ls.1,Ab]
   have hpl:=OZ (m:=m) (i:=i) h6
   have hpl2:i*6^m<=5*6^m:=Nat.mul_le_mul_right _ (by omega)
   have s3:=s2.trans (aF hpt (.tup [.int ((0+i:Nat):Int),.int ((k:Nat):Int)]))
   have s23:=aF hpt (.tup [.int ((0+i:Nat):Int),.int ((k:Nat):Int)])
   have et3:(upd H2 pt (.tup [.int ((0+i:Nat):Int),.int ((k:Nat):Int)])) pt=some (.tup [.int ((0+i:Nat):Int),.int ((k:Nat):Int)]):=aD
   generalize upd H2 pt (.tup [.int ((0+i:Nat):Int),.int ((k:Nat):Int)])=H3 at s3 s23 et3 ⊢;have hb3:=aG s3 hb
   have tt3:=eU et3
   fail "g";rw[show ((0+i:Nat):Int)+1=((i+1:Nat):Int) by omega]
   intro ra hra;rw[Ll,Jv];have s4:=aF hra (.lst ((ks.drop (i+1)).map λk=>V.int ((k:Nat):Int)))
   have e4:Z8 (upd H3 ra (.lst ((ks.drop (i+1)).map λk=>V.int ((k:Nat):Int)))) ra=some ((ks.drop (i+1)).map λk=>V.int ((k:Nat):Int)):=dA
   generalize upd H3 ra (.lst ((ks.drop (i+1)).map λk=>V.int ((k:Nat):Int)))=H4 at s4 e4 ⊢;have s24:=s23.trans s4
   fail "g";rw[show ((m+1:Nat):Int)-1=((m:Nat):Int) by omega]
   refine⟨ra,ks.drop (i+1),m,rfl,e4,by rw[Ct];omega,by omega,by omega,λrb qs H5 hrb s5 e5 lq nq=>?_⟩
   have s25:=s24.trans s5
   have rb5:=aL e5
   have rp5:=aL (s25 _ _ e2)
   have hqs:qs.length=(cI (ks.drop (i+1)) m).length:=by rw[lq.1,Ab]
   have hql:(cI (ks.drop (i+1)) m).length<=6^m:=gR (by rw[Ct];omega)
   fail "g";refine Tz (λj=>V.int ((k:Nat):Int)::(((cI (ks.drop (i+1)) m).getD j []).map λk=>V.int ((k:Nat):Int))) rb5 (by rw[Ab,hqs];exact Nat.lt_of_le_of_lt (Bd hql (Bd (Nat.le_mul_of_pos_right _ (by decide:0<6)) h6m)) (by decide)) (λj x Hc A B hx sm hA=>?_) (λD Hd us hD sd eD hul lu nu=>?_)
   .obtain⟨u,eu,rfl⟩:=lJ hx;have hj:j<(cI (ks.drop (i+1)) m).length:=by rw[<-hqs];exact(Ad.mp eu).1
    obtain⟨l,el⟩:∃l,(cI (ks.drop (i+1)) m)[j]?=some l:=⟨_,Aa hj⟩;have hu:=sm _ _ (lq.2 j u (l.map λk=>V.int ((k:Nat):Int)) eu (by rw[Af,el];rfl)).2
    have hll:l.length=m:=(ZN.mp (Ah el)).2
    have hgl:(cI (ks.drop (i+1)) m).getD j []=l:=by rw[Ac,el];rfl
    rw[hgl]at hA;fail "g";refine⟨Wk.set rfl (Wk.refl _),?_⟩;fail "g";refine⟨za0,λp6 hp6=>?_⟩
    have s6:=aF hp6 (.lst [V.int ((k:Nat):Int)])
    have e6:(upd Hc p6 (.lst [V.int ((k:Nat):Int)])) p6=some (.lst [V.int ((k:Nat):Int)]):=aD
    have hu6:=s6 _ _ hu
    generalize upd Hc p6 (.lst [V.int ((k:Nat):Int)])=H6 at s6 e6 hu6 ⊢;refine eM (aZ e6) (aZ hu6) (bE (by rw[Ab];show 1+_<=_;omega)) λp7 hp7=>?_
    exact hA p7 _ (bK s6 hp7) (s6.trans (aF hp7 _)) aD
   .rw[Ab,hqs,OH]at lu;rw[Ab]at hul;have s2d:=s25.trans sd
    have e2d:=s2d _ _ e2
    have npD:∀z∈us,z≠p:=λz hz zp=>by
     obtain⟨g,_,h1,_⟩:=lu.mem hz;rw[zp,s25 _ _ e2]at h1;cases h1
    have hek:ks.getD i 0=k:=by rw[Ac,ek];rfl
    fail "g";refine T4 (aZ e2d) (aZ eD) (Bd (by rw[Ab,Ab,hps,hul,hqs];omega:_<=279936) (by decide)) ?_
    fail "g";refine⟨ps++us,_,_,_,rfl,bF hp (s2.trans s2d),by rw[Aj];exact aD,?_,λz hz=>?_⟩
    .rw[xQ,Aj,hek];refine ZU.put ?_ λz hz=>?_
     .exact(ls.keep s2d).app (lu.YU (s2.trans s25))
     .rcases Bs.mp hz with e|e
      .exact nd z e
      .exact npD z e
    .rcases Bs.mp hz with e|e
     .exact nd z e
     .exact npD z e
  .rintro U H2 ⟨ps,v3,v4,v5,rfl,s2,e2,ls,nd⟩;fail "g";refine q p ps H2 hp s2 e2 ?_ nd;rw[eP];rw[Ab]at ls;exact ls
def hV(F:α->V):∀xs:List α,(List.range xs.length).filterMap (λj=>(xs[j]?).map F)=xs.map F:=λxs=>by
 have h:∀n,n<=xs.length->(List.range n).filterMap (λj=>(xs[j]?).map F)=(xs.take n).map F:=λn=>by
  induction n with
  |zero=>intro _;rfl
  |succ n ih=>
   intro hn;have e:xs[n]?=some xs[n]:=Aa (by omega)
   rw[cU (y:=F xs[n]) (by rw[e];rfl),ih (by omega),Be,e,Aj]
   rfl
 have r:=h xs.length (Ai _)
 rw[Br]at r;exact r
def Jh:Option (List Nat)->Str
 |none=>⟨#[45]⟩
 |some cs=>bB cs
def Y_(H:Hp)(v:V):Option (List Nat)->Prop
 |none=>v=.non
 |some cs=>∃p,v=.ref p/\H p=some (.lst ((cs.map one).map V.str))
def dY(hs:List (Option (List Nat))):Prop:=∀cs,some cs∈hs->cG (cs.map one)=true
structure Z6 (H:Hp) (vs:List V) (hs:List (Option (List Nat))):Prop where
 len:vs.length=hs.length
 val:∀(j:Nat) v h,vs[j]?=some v->hs[j]?=some h->Y_ H v h
def Y_.keep{H:Hp}(a:Y_ H v h)(s:∀p xs,H p=some (.lst xs)->v=.ref p->H' p=some (.lst xs)):Y_ H' v h:=by
 cases h with
 |none=>exact a
 |some cs=>
  obtain⟨p,e,hp⟩:=a;exact⟨p,e,s p _ hp e⟩
def Z6.keep{H:Hp}(a:Z6 H vs hs)(s:Z_ H H'):Z6 H' vs hs:=⟨a.len,λj v h hv hh=>(a.val j v h hv hh).keep λp xs hp _=>s _ _ hp⟩
def Z6.nil:Z6 H [] []:=⟨rfl,λj v h hv=>nomatch hv⟩
def Z6.snoc(a:Z6 H vs hs)(b:Y_ H v h):Z6 H (vs++[v]) (hs++[h]):=by
 refine⟨by rw[Ak,Ak,a.len];rfl,λj x g hx hg=>?_⟩
 by_cases hj:j<vs.length
 .rw[Au hj]at hx;rw[Au (by rw[<-a.len];exact hj)]at hg
  exact a.val j x g hx hg
 .have e:j=vs.length:=by
   have:=(Ad.mp hx).1
   rw[Ak]at this;have:j<vs.length+1:=this
   omega
  subst e;rw[Aw (Ai _),Hj]at hx;rw[a.len,Aw (Ai _),Hj]at hg;cases hx;cases hg;exact b
def Y_.ne(hr:H r=some (.lst vs))(hj:vs[j]?=some v)(a:Y_ H v h):v≠.ref r:=λz=>by
 cases h with
 |none=>rw[show v=.non from a]at z;cases z
 |some cs=>
  obtain⟨p,e,hp⟩:=a;rw[z]at e;cases e;rw[hr]at hp;cases hp;obtain⟨u,_,hu⟩:=lR hj;rw[z]at hu;cases hu
def Z6.put(hr:H r=some (.lst vs))(a:Z6 H vs hs):Z6 (upd H r (.lst us)) vs hs:=⟨a.len,λj v h hv hh=>(a.val j v h hv hh).keep λp xs hp e=>by
 rw[aI (λz=>(a.val j v h hv hh).ne hr hv (by rw[<-z];exact e))]
 exact hp⟩
def Z6.at(a:Z6 H vs hs)(hv:vs[j]?=some v):∃h,hs[j]?=some h/\Y_ H v h:=by
 have hj:j<hs.length:=by rw[<-a.len];exact(Ad.mp hv).1
 exact⟨hs[j],Aa hj,a.val j v _ hv (Aa hj)⟩
def Sg{K:W.Frag}{g:TG}{tests:TT}{te:TE}{U0:St}{hs:Q4}(ha:Z8 H1 a=some xs)(hl:xs.length<sizeLine)(hx:xs.length=hs.length)(step:∀(i:Nat) x h Hc (A:VK) (B:Hp->Prop),xs[i]?=some x->hs[i]?=some h->Z_ H1 Hc->(∀v Hd,Z_ Hc Hd->Y_ Hd v h->(∀p,v=.ref p->Hc p=none)->A v Hd)->
 g x U0 Hc λU2 H2=>Wk U0 U2/\tests U2 H2 λb H3=>if b=true then te U2 H3 A else B H3)(fin:∀D Hd vs,H1 D=none->Z_ H1 Hd->Hd D=some (.lst vs)->Z6 Hd vs hs->(∀p,V.ref p∈vs->H1 p=none)->Q (.ref D) Hd):eG g tests te U0 Q (Xw K a) H1:=by
 refine fR (n:=xs.length) (λD i ys Hc=>Z_ H1 Hc/\Z6 Hc ys (hs.take i)/\∀p,V.ref p∈ys->H1 p=none) hl (λD hD=>⟨aF hD _,.nil,λp hp=>nomatch hp⟩)
  (λD i ys Hc _ r h=>⟨xs,xs[i],aT (aG r.1 ha),by simp[h]⟩) (λD ys Hc _ r=>⟨xs,aT (aG r.1 ha),Nat.le_refl _⟩) ?_ ?_
 .rintro D i ys Hc x H' A B hD hi ⟨sm,at',fr⟩ hDc ⟨rfl,hz⟩ ha' hb;have hi2:i<hs.length:=by omega
  have eh:hs[i]?=some hs[i]:=Aa hi2
  refine step i x hs[i] H' A B (hz xs (aT (aG sm ha))) eh sm (λv Hd sd hv hn=>?_);refine ha' _ _ (sd _ _ hDc) ⟨bF hD (sm.trans sd),?_,λp hp=>?_⟩
  .rw[Be,eh];refine Z6.snoc ((at'.keep sd).put (sd _ _ hDc)) (hv.keep λp zs hp e=>?_);rw[aI (λz=>by have:=hn p e;rw[z,hDc]at this;cases this)]
   exact hp
  .rcases Bs.mp hp with e|e
   .exact fr p e
   .exact bK sm (hn p (Bc.mp e).symm)
 .rintro D ys Hc hD ⟨sm,at',fr⟩ hDc _;rw[hx,Br]at at';exact fin D Hc ys hD sm hDc at' fr
def Jx{f:Nat->Option Int}(hf0:∀c,0<=aP f c)(c:Nat):aP (bD (aP f)) c<=aP f c:=by
 show (bD (aP f) c).getD 0<=_
 unfold bD;split
 .exact Hq _
 .exact hf0 c
def ZV.plain{f:Nat->Option Int}{W:List Wt}(hf0:∀c,0<=aP f c)(h:ZV cws (aP (bD (aP f))) W F):ZV cws (aP f) W F:=by
 refine⟨h.sub,h.flags,h.all,?_⟩;have e:F.map (aP f)=F.map (aP (bD (aP f))):=Bw λc hc=>by
  obtain⟨p,hp⟩:=h.flags;rw[hp]at hc;exact(dW (ZQ.mp (Dr.mp hc).1) (hf0 c)).symm
 rw[e];exact h.VD
def jH{cws:Q6}:∀i,i<=cws.length->(YH cws i).length=fE cws i
 |0,_=>rfl
 |i+1,h=>by
  have e:cws[i]?=some cws[i]:=Aa (by omega)
  rw[gP,Ak,jH i (by omega),tW e]
  unfold iV;rw[Ab,Bm,Ac,e];rfl
def J2(hi:cws[i]?=some cw)(hk:k<cw.length):(wl cws)[fE cws i+k]?=some (i,1+k):=by
 have hil:=(Ad.mp hi).1
 have h:∀n,i<n->n<=cws.length->(YH cws n)[fE cws i+k]?=some (i,1+k):=λn=>by
  induction n with
  |zero=>intro h;omega
  |succ n ih=>
   intro h1 h2;rw[gP];by_cases hn:i=n
   .subst hn;have e:=jH (cws:=cws) i (by omega)
    rw[Aw (by omega),show fE cws i+k-(YH cws i).length=k by omega]
    unfold iV;rw[Af,Ac,hi];show ((List.range cw.length)[k]?).map _=_
    rw[Fl hk];rfl
   .have r:=ih (by omega) (by omega)
    rw[Au (Ad.mp r).1];exact r
 exact h cws.length hil (Ai _)
def Hg(cw h:List Nat):Prop:=h.length=cw.length/\∀(k g:Nat),h[k]?=some g->g∈Yp cw k
inductive Y8:List (List Nat)->List (List Nat)->Prop
 |nil:Y8 [] []
 |cons {cw h:List Nat} {cws hs:Q6}:Hg cw h->Y8 cws hs->Y8 (cw::cws) (h::hs)
def kB(xs ys:List Nat)(c:Nat):YT (xs++ys) c=YT xs c+YT ys c:=Gx
def Y8.sub(s:cws'.Sublist cws):∀ {hs:Q6},Y8 cws hs->∃hs',Y8 cws' hs'/\∀c,YT hs'.flatten c<=YT hs.flatten c:=by
 induction s with
 |slnil=>intro hs h;exact⟨hs,h,λc=>Ai _⟩
 |cons a s ih=>
  rintro _ (_|⟨h1,h2⟩);obtain⟨hs',p,q⟩:=ih h2;exact⟨hs',p,λc=>by rw[Cd,kB];have:=q c;omega⟩
 |cons_cons a s ih=>
  rintro _ (_|⟨h1,h2⟩);obtain⟨hs',p,q⟩:=ih h2;exact⟨_::hs',.cons h1 p,λc=>by rw[Cd,kB,Cd,kB];have:=q c;omega⟩
def Y8.perm(s:cws.Perm cws'):∀ {hs:Q6},Y8 cws hs->∃hs',Y8 cws' hs'/\∀c,YT hs'.flatten c=YT hs.flatten c:=by
 induction s with
 |nil=>intro hs h;exact⟨hs,h,λc=>rfl⟩
 |cons a s ih=>
  rintro _ (_|⟨h1,h2⟩);obtain⟨hs',p,q⟩:=ih h2;exact⟨_::hs',.cons h1 p,λc=>by rw[Cd,kB,Cd,kB,q c]⟩
 |swap a b l=>
  rintro _ (_|⟨h1,h2⟩);rcases h2 with _|⟨h2,h3⟩
  exact⟨_,.cons h2 (.cons h1 h3),λc=>by simp only[List.flatten_cons,kB];omega⟩
 |trans _ _ ih1 ih2=>
  intro hs h;obtain⟨h1,p1,q1⟩:=ih1 h;obtain⟨h2,p2,q2⟩:=ih2 p1;exact⟨h2,p2,λc=>(q2 c).trans (q1 c)⟩
def XZ(n:Nat->Int)(cws:List (List Nat)):Prop:=∃hs,Y8 cws hs/\∀c,(YT hs.flatten c:Int)<=n c
def Y8.len{hs:Q6}(h:Y8 cws hs):hs.length=cws.length:=by
 induction h with
 |nil=>rfl
 |cons _ _ ih=>rw[Av,Av,ih]
def SK{w:Wt}:∀i,i<=cws.length->(YH cws i)[j]?=some w->∃(a k:Nat) (cw:List Nat),a<i/\cws[a]?=some cw/\k<cw.length/\w=(a,1+k)/\j=fE cws a+k
 |0,_,h=>by cases h
 |i+1,hi,h=>by
  rw[gP]at h;have hl:=jH (cws:=cws) i (by omega)
  by_cases hj:j<(YH cws i).length
  .rw[Au hj]at h;obtain⟨a,k,cw,p,q⟩:=SK i (by omega) h
   exact⟨a,k,cw,by omega,q⟩
  .rw[Aw (by omega)]at h
   have e:cws[i]?=some cws[i]:=Aa (by omega)
   unfold iV at h;rw[Af,Ac,e]at h;have hlt:j-(YH cws i).length<(cws[i]).length:=by
    have hn:¬(cws[i]).length<=j-(YH cws i).length:=λz=>by
     rw[Ei (by rw[Bm];exact z)]at h
     cases h
    omega
   refine⟨i,j-(YH cws i).length,cws[i],by omega,e,hlt,?_,by omega⟩
   rw[Fl (by exact hlt)]at h
   cases h;rfl
def Y8.at{hs:Q6}(h:Y8 cws hs):∀ {i:Nat} {cw:List Nat},cws[i]?=some cw->∃g,hs[i]?=some g/\Hg cw g:=by
 induction h with
 |nil=>intro i cw e;cases e
 |cons a b ih=>
  intro i cw e;cases i with
  |zero=>cases e;exact⟨_,rfl,a⟩
  |succ i=>exact ih e
def Y8.Xi{hs:Q6}(h:Y8 cws hs):∀(i:Nat),(hs.take i).flatten.length=fE cws i:=by
 induction h with
 |nil=>intro i;cases i<;>rfl
 |cons a b ih=>
  intro i;cases i with
  |zero=>rfl
  |succ i=>
   have:=ih i
   unfold fE at this ⊢;rw[Gr,Cd,Ak,this,Gr,Ar,Cw,a.1]
def Jt{hs:Q6}{g:List Nat}(h:hs[i]?=some g)(hk:k<g.length):hs.flatten[(hs.take i).flatten.length+k]?=g[k]? := by
 have e:hs=hs.take i++(g::hs.drop (i+1)):=by
  obtain⟨h1,h2⟩:=Ad.mp h;rw[<-h2,<-Eg h1,List.take_append_drop]
 have e2:hs.flatten=(hs.take i).flatten++(g++(hs.drop (i+1)).flatten):=by
  have:=Da List.flatten e
  rwa [List.flatten_append,Cd]at this
 rw[e2,Aw (by omega),Fp,Au hk]
def XZ.WT(h:XZ n cws):Zh n cws:=by
 obtain⟨hs,hg,hc⟩:=h;refine⟨hs.flatten,?_,λj w g hw hf=>?_,hc⟩
 .have h1:=hg.Xi cws.length
  rw[show hs.take cws.length=hs from Bl (Nat.le_of_eq hg.len)]at h1;rw[h1];exact(jH _ (Ai _)).symm
 .obtain⟨a,k,cw,ha,hcw,hk,rfl,rfl⟩:=SK cws.length (Ai _) hw;obtain⟨h,hh,hgh⟩:=hg.at hcw;rw[<-hg.Xi a,Jt hh (by rw[hgh.1];exact hk)]at hf
  unfold Zp;rw[Ac,hcw,show (a,1+k).2-1=k by show 1+k-1=k;omega]
  exact hgh.2 k g hf
def oA:List (List Nat)->List Nat->List (List Nat)
 |[],_=>[]
 |cw::r,fs=>fs.take cw.length::oA r (fs.drop cw.length)
def oS:∀ {cws:Q6} {fs:List Nat},fs.length=(cws.map List.length).sum->(oA cws fs).flatten=fs
 |[],fs,h=>by rw[Fw h];rfl
 |cw::r,fs,h=>by
  rw[Ar,Cw]at h;rw[oA,Cd,oS (by rw[Ct];omega),List.take_append_drop]
def xM:∀ {cws:Q6} {fs:List Nat},fs.length=(cws.map List.length).sum->(∀(i k g:Nat) cw,cws[i]?=some cw->k<cw.length->fs[fE cws i+k]?=some g->g∈Yp cw k)->Y8 cws (oA cws fs)
 |[],fs,h,_=>.nil
 |cw::r,fs,h,hc=>by
  rw[Ar,Cw]at h;refine .cons ⟨by rw[Bt];omega,λk g hk=>?_⟩ (xM (by rw[Ct];omega) λi k g cw' hi hk hg=>?_)
  .have hkl:k<cw.length:=by
    have:=(Ad.mp hk).1
    rw[Bt]at this;omega
   rw[List.getElem?_take,if_pos hkl]at hk;exact hc 0 k g cw rfl hkl (by rw[show fE (cw::r) 0=0 from rfl,Hi];exact hk)
  .refine hc (i+1) k g cw' hi hk ?_;rw[List.getElem?_drop]at hg;rw[show fE (cw::r) (i+1)=cw.length+fE r i by unfold fE;rw[Gr,Ar,Cw],Nat.add_assoc]
   exact hg
def zW(cws:Q6):(wl cws).length=(cws.map List.length).sum:=by
 have h:=jH (cws:=cws) cws.length (Ai _)
 unfold fE at h;rw[Br]at h;exact h
def S0(hl:fs.length=(wl cws).length)(hch:∀(j:Nat) w g,(wl cws)[j]?=some w->fs[j]?=some g->g∈Zp cws w):Y8 cws (oA cws fs):=by
 refine xM (hl.trans (zW cws)) λi k g cw hi hk hg=>?_;have h:=hch _ _ g (J2 hi hk) hg
 unfold Zp at h;rw[Ac,hi,show (i,1+k).2-1=k by show 1+k-1=k;omega]at h
 exact h
def Zh.V9(h:Zh n cws):XZ n cws:=by
 obtain⟨fs,hl,hch,hc⟩:=h;exact⟨oA cws fs,S0 hl hch,by rw[oS (hl.trans (zW cws))];exact hc⟩
def Zh.sub(h:Zh n cws)(s:cws'.Sublist cws):Zh n cws':=by
 obtain⟨hs,hg,hc⟩:=h.V9;obtain⟨hs',p,q⟩:=hg.sub s;exact XZ.WT ⟨hs',p,λc=>by have:=hc c;have:=q c;omega⟩
def Zh.perm(h:Zh n cws)(s:cws.Perm cws'):Zh n cws':=by
 obtain⟨hs,hg,hc⟩:=h.V9;obtain⟨hs',p,q⟩:=hg.perm s;exact XZ.WT ⟨hs',p,λc=>by rw[q c];exact hc c⟩
def Zh.nil(h:∀c,0<=n c):Zh n []:=XZ.WT ⟨[],.nil,h⟩
def Z6.get(a:Z6 H vs hs)(hk:k<hs.length):∃v,Zc vs (k:Int)=some v/\vs[k]?=some v/\Y_ H v (hs.getD k none):=by
 have hv:k<vs.length:=by rw[a.len];exact hk
 refine⟨vs[k],fJ (Aa hv),Aa hv,?_⟩;refine a.val k _ _ (Aa hv) ?_;rw[Ac,Aa hk];rfl
def aM(hs:List (Option (List Nat)))(n:Nat):List Nat:=(List.range hs.length).filter λk=>(hs.getD k none).isSome && !decide (k=n)
def cN{n:Nat}(h:k∈aM hs n):k<hs.length/\(hs.getD k none).isSome=true/\k≠n:=by
 obtain⟨h1,h2⟩:=Dr.mp h;rw[Fc,Bool.not_eq_true',decide_eq_false_iff_not]at h2;exact⟨By.mp h1,h2.1,h2.2⟩
def iL{n:Nat}(hn:n<hs.length):(aM hs n).length+1<=hs.length:=by
 have h1:(aM hs n).Sublist ((List.range hs.length).filter λk=>!decide (k=n)):=by
  have e:aM hs n=((List.range hs.length).filter λk=>!decide (k=n)).filter λk=>(hs.getD k none).isSome:=by
   unfold aM;rw[List.filter_filter]
  rw[e];exact Ee
 have h2:=h1.length_le
 have h3:=List.length_eq_countP_add_countP (p:=λk=>decide (k=n)) (l:=List.range hs.length)
 rw[Bm]at h3;have h4:1<=(List.range hs.length).countP λk=>decide (k=n):=by
  refine List.countP_pos_iff.mpr ⟨n,By.mpr hn,Ap rfl⟩
 have h5:((List.range hs.length).filter λk=>!decide (k=n)).length=(List.range hs.length).countP λk=>!decide (k=n):=Gc.symm
 have h6:((List.range hs.length).countP λa=>¬(decide (a=n))=true)=(List.range hs.length).countP λk=>!decide (k=n):=by
  congr 1
  funext k
  cases decide (k=n)<;>rfl
 omega
def WU(hs:List (Option (List Nat)))(n:Nat)(i:Nat):Option V:=if ((hs.getD i none).isSome && !decide (i=n))=true then some (V.int ((i:Nat):Int)) else none
def QF(hs:Q4)(n m:Nat):(List.range m).filterMap (WU hs n)=((List.range m).filter λk=>(hs.getD k none).isSome && !decide (k=n)).map λk=>V.int ((k:Nat):Int):=by
 induction List.range m with
 |nil=>rfl
 |cons a r ih=>
  by_cases h:((hs.getD a none).isSome && !decide (a=n))=true
  .rw[Dp (b:=V.int ((a:Nat):Int)) (by unfold WU;rw[if_pos h]),List.filter_cons_of_pos (p:=λk=>(hs.getD k none).isSome && !decide (k=n)) h,Ar,ih]
  .rw[Ej (by unfold WU;rw[if_neg h]),Gz (p:=λk=>(hs.getD k none).isSome && !decide (k=n)) h,ih]
def iX:Sp:=λvs H Q _=>∃(a:Addr) (us:List V) (hs:List (Option (List Nat))) (n:Nat),vs=[.ref a,.int ((n:Nat):Int)]/\Z8 H a=some us/\Z6 H us hs/\hs.length<=7/\
 ∀(r:Addr) (H':Hp),H r=none->Z_ H H'->H' r=some (.lst ((aM hs n).map λk=>V.int ((k:Nat):Int)))->Q (.ref r) H'
def rJ:Z9 ["halyards", "number"] ["halyards", "number"] (aJ eV):=by fail "sc"
def qI(F:ZR K "others_hung" "others_hung" eV f fd):Z4 P w K mg base ZO 1 f fd ["halyards", "number"] iX:=by
 refine F.ok rJ (λvs H Q E h=>?_) (λcdv A outer s H vs Q E hr h=>?_)
 .obtain⟨a,us,hs,n,rfl,_⟩:=h;rfl
 obtain⟨a,us,hs,n,rfl,ha,hat,h7,q⟩:=h;refine⟨_,(@aH _ _ _ (aR (bW rfl (vN rfl G.b_enumerate (aA (mv 0) aB)) (dF (N:=["other", "hoist", "number"]) ["halyards", "number"] (aJ eV) [none,none,some 1] rfl rfl rfl (λx h=>bJ h) (by decide +kernel)) (by decide +kernel) rfl (by decide +kernel) (λ_ _ _ _=>(hJ (K:=K) (i:=0) (j:=1) (by rfl) (by rfl) (show List.Nodup (["other", "hoist", "number"]:List Str) by decide +kernel) (by rfl) (by exact Or.inl rfl) (by exact Or.inr rfl) (by rfl) (by exact Or.inl rfl) (by exact Or.inr rfl))) (λ_ _ _ _=>(jI (PW.pt (hU (aW vT (mv 1) cV (bC _)) (gC (aW Wz (mv 0) (mv 2) (bC _))))))) (λ_ _ _ _=>(mv 0))))),?_⟩
 have hul:=hat.len
 fail "g";refine JF (xs:=us) (WU hs n) ha (aY (by omega)) (λi x Hc p A B hx sm hp hA hB=>?_) (λD Hd hD sD hd=>?_)
 .have hi:i<hs.length:=by rw[<-hul];exact(Ad.mp hx).1
  have hv:=hat.val i x (hs.getD i none) hx (by rw[Ac,Aa hi];rfl)
  have tp:kN (upd Hc p (.tup [.int ((0+i:Nat):Int),x])) p=some [.int ((0+i:Nat):Int),x]:=oG
  rw[Hi]at tp hA hB ⊢;fail "g";refine⟨Wk.set rfl (Wk.set rfl (Wk.refl _)),?_⟩;fail "g";cases eh:hs.getD i none with
  |none=>
   rw[eh]at hv;obtain rfl:x=V.non:=hv;rw[show decide (V.non=V.non)=true from rfl];fail "g";exact hB (by unfold WU;rw[eh];rfl) _ (Z_.refl _)
  |some cs=>
   rw[eh]at hv;obtain⟨pc,rfl,_⟩:=hv;rw[show decide (V.ref pc=V.non)=false from Al (λz=>nomatch z)]
   fail "g";by_cases hn:i=n
   .rw[Ap (show ((i:Nat):Int)=((n:Nat):Int) by omega)]
    exact hB (by unfold WU;rw[eh,Ap hn];rfl) _ (Z_.refl _)
   .rw[Al (show ¬((i:Nat):Int)=((n:Nat):Int) by omega)]
    fail "g";exact hA _ (by unfold WU;rw[eh,Al hn];rfl) _ (Z_.refl _)
 .rw[hul,QF]at hd;exact q D Hd hD sD hd
def aS(hs:List (Option (List Nat)))(ks:List Nat):List Nat:=ks.flatMap λk=>(hs.getD k none).getD []
def kA(hs:Q4)(A B:List Nat):aS hs (A++B)=aS hs A++aS hs B:=Ez ..
def tO(ok:dY hs)(k:Nat):((hs.getD k none).getD []).length<=7:=by
 cases e:hs[k]? with
 |none=>rw[Ac,e];exact Cs _
 |some h=>
  rw[Ac,e];cases h with
  |none=>exact Cs _
  |some cs=>
   have:=dX (ok cs (Ah e))
   rw[Ab]at this;exact this.2
def eJ(ok:dY hs):∀ks:List Nat,(aS hs ks).length<=7*ks.length
 |[]=>Cs _
 |k::r=>by
  show (((hs.getD k none).getD [])++aS hs r).length<=_
  rw[Ak,Av];have:=tO ok k
  have:=eJ ok r
  omega
def iW:Sp:=λvs H Q _=>∃(a b:Addr) (us:List V) (hs:List (Option (List Nat))) (ks:List Nat),vs=[.ref a,.ref b]/\Z8 H a=some us/\Z6 H us hs/\dY hs/\Z8 H b=some (ks.map λk=>V.int ((k:Nat):Int))/\ks.length<=7/\(∀k∈ks,k<hs.length)/\
 ∀(r:Addr) (H':Hp),H r=none->Z_ H H'->H' r=some (.lst (((aS hs ks).map one).map V.str))->Q (.ref r) H'
def l7:Z9 ["halyards", "numbers", "flags", "number"] ["halyards", "numbers"] (aJ mD):=by fail "sc"
def xS(F:ZR K "flags_on" "flags_on" mD f fd)(G:Gs K mg Zw Zz Zx Zy):Z4 P w K mg base ZO 1 f fd ["halyards", "numbers"] iW:=by
 refine F.ok l7 (λvs H Q E h=>?_) (λcdv A outer s H vs Q E hr h=>?_)
 .obtain⟨a,b,us,hs,ks,rfl,_⟩:=h;rfl
 obtain⟨a,b,us,hs,ks,rfl,ha,hat,ok,hb,h7,hk,q⟩:=h;refine⟨_,(@aE _ _ _ _ _ (aO 2 l7.nd (bL aB)) (@aE _ _ _ _ _ (bU Bf rfl (bP (mv 1)) (aQ (i:=3) l7.nd rfl (Or.inl rfl)) (@aH _ _ _ (bT (aW vT (bI cE (mv 0) (mv 3) (λ_ _=>rfl)) cV (bC _)) (@aH _ _ _ (cZ (dD Cc Ek El wI (mv 2) (aA (bI cE (mv 0) (mv 3) (λ_ _=>rfl)) aB)))) bA))) (@aH _ _ _ (aR (mv 2))))),?_⟩;fail "g";refine⟨by decide,λp hp=>?_⟩
 have sp:=aF hp (.lst [])
 have hb1:=aG sp hb
 fail "g";refine cP (xs:=(ks.map λk=>V.int ((k:Nat):Int))) (λi U H'=>∃v,U=[some (.ref a),some (.ref b),some (.ref p),v]/\Z_ H H'/\H' p=some (.lst (((aS hs (ks.take i)).map one).map V.str)))
  ⟨_,rfl,sp,aD⟩ (λi U H' _ ⟨_,_,e,_⟩=>aG e hb) ?_ ?_
 .rintro i x U H2 hx ⟨v,rfl,s2,e2⟩;obtain⟨k,hki,rfl⟩:=fH hx;have hkl:=hk k (Ah hki)
  obtain⟨u,au,_,hv⟩:=(hat.keep s2).get hkl;have r2:=aG s2 ha
  have ft:aS hs (ks.take (i+1))=aS hs (ks.take i)++(hs.getD k none).getD []:=by
   rw[Be,hki,kA];show _++(_++[])=_
   rw[Bq]
  fail "g";refine cL r2 au ?_;fail "g";cases eh:hs.getD k none with
  |none=>
   rw[eh]at hv ft;rw[show u=.non from hv,show decide (V.non=V.non)=true from rfl];fail "g";exact⟨_,rfl,s2,by rw[ft];show _=some (HO.lst (((_++[]).map one).map V.str));rw[Bq];exact e2⟩
  |some cs=>
   have h7c:=tO ok k
   rw[eh]at hv ft h7c;obtain⟨pc,rfl,hpc⟩:=hv;rw[show decide (V.ref pc=V.non)=false from Al (λz=>nomatch z)]
   have m2:=aZ e2
   have rc:=aL hpc
   have l2:=eJ ok (ks.take i)
   rw[Bt]at l2;have hln:(((aS hs (ks.take i)).map one).map V.str).length+((cs.map one).map V.str).length<=sizeLine:=bE (by rw[Ab,Ab,Ab,Ab];have:cs.length<=7:=h7c;omega)
   fail "g";refine cL r2 au ?_;fail "g";refine⟨_,rfl,bF hp s2,?_⟩;rw[aD,ft,Aj,Aj];rfl
 .rintro U H2 ⟨v,rfl,s2,e2⟩;rw[Bl (by rw[Ab];exact Ai _)]at e2
  fail "g";exact q p H2 hp s2 e2
def zO{m:Nat}(h:os.length<m):cI os m=[]:=by
 cases e:cI os m with
 |nil=>rfl
 |cons l r=>
  have:=ZN.mp (show l∈cI os m by rw[e];exact Aq)
  have h2:=this.1.length_le
  omega
def qR:∀os:List Nat,cI os os.length=[os]
 |[]=>eO []
 |k::r=>by
  rw[Av,eP,Av,List.range_succ_eq_map,Eu];have h1:((cI ((k::r).drop (0+1)) r.length).map λl=>(k::r).getD 0 0::l)=[k::r]:=by
   show ((cI r r.length).map λl=>k::l)=_
   rw[qR r];rfl
  rw[h1,List.flatMap_map];have h2:((List.range r.length).flatMap λj=>(cI ((k::r).drop (j.succ+1)) r.length).map λl=>(k::r).getD j.succ 0::l)=[]:=by
   rw[List.flatMap_eq_nil_iff];intro j hj;rw[zO (by rw[Ct,Av];have:=By.mp hj;omega)]
   rfl
  rw[h2];rfl
def bN(os:List Nat):List (List Nat):=(List.range (os.length+1)).flatMap λm=>cI os m
def pO(os:List Nat)(i:Nat):List (List Nat):=(List.range i).flatMap λm=>cI os m
def lU(os:List Nat)(i:Nat):pO os (i+1)=pO os i++cI os i:=by
 unfold pO;rw[Cm,Ez];congr 1
 show cI os i++[]=_
 rw[Bq]
def ZM:l∈bN os ↔ l.Sublist os:=by
 unfold bN;rw[Gq];constructor
 .rintro⟨m,_,h⟩;exact(ZN.mp h).1
 .intro h;exact⟨l.length,By.mpr (Nat.lt_succ_of_le h.length_le),ZN.mpr ⟨h,rfl⟩⟩
def kK{os:List Nat}:∀ {i:Nat},os.length<=6->i<=6->(pO os i).length<=i*6^5
 |0,_,_=>Cs _
 |i+1,h,hi=>by
  rw[lU,Ak,Nat.succ_mul];have h1:=kK (i:=i) h (by omega)
  have h2:(cI os i).length<=6^5:=Bd (gR h) (Fj (by decide) (by omega))
  omega
def qE:Sp:=λvs H Q _=>∃(b:Addr) (os:List Nat),vs=[.ref b]/\Z8 H b=some (os.map λk=>V.int ((k:Nat):Int))/\os.length<=5/\
 ∀(r:Addr) (ps:List Addr) (H':Hp),H r=none->Z_ H H'->H' r=some (.lst (ps.map V.ref))->ZU H H' ps ((bN os).map λl=>(l.map λk=>V.int ((k:Nat):Int)))->(∀p∈ps,p≠r)->Q (.ref r) H'
def l8:Z9 ["others", "sets", "many"] ["others"] (aJ oU):=by fail "sc"
def PY(F:ZR K "sets_of" "sets_of" oU f fd)(u7:ZP P w K mg base 9 "rising_lists" ["numbers", "many"] (cM 8)):Z4 P w K mg base ZO 10 f fd ["others"] qE:=by
 refine F.ok l8 (λvs H Q E h=>?_) (λcdv A outer s H vs Q E hr h=>?_)
 .obtain⟨b,os,rfl,_⟩:=h;rfl
 obtain⟨b,os,rfl,hb,h5,q⟩:=h;refine⟨_,(@aE _ _ _ _ _ (aO 1 l8.nd (bL aB)) (@aE _ _ _ _ _ (bU Bf rfl (dZ rfl G.b_range (aA (aX bS (aU cS rfl G.b_len cC (aA (mv 0) aB)) aK) aB)) (aQ (i:=2) l8.nd rfl (Or.inl rfl)) (@aH _ _ _ (cZ (dD Cc Ek El wI (mv 1) (aA (aV u7 hr (by decide) rfl (aA (mv 0) (aA (mv 2) aB))) aB))))) (@aH _ _ _ (aR (mv 1))))),?_⟩
 have hbl:((os.map λk=>V.int ((k:Nat):Int))).length=os.length:=Ab ..
 fail "g";refine⟨by decide,λp hp=>?_⟩
 have s1:=aF hp (.lst [])
 have e1:(upd H p (.lst [])) p=some (.lst (([]:List Addr).map V.ref)):=aD
 generalize upd H p (.lst [])=H1 at s1 e1 ⊢;have hb1:=aG s1 hb
 fail "g";rw[hbl];refine⟨⟨by omega,by omega⟩,?_⟩
 refine eY (λi U H'=>∃(ps:List Addr) (v:Option V),U=[some (.ref b),some (.ref p),v]/\Z_ H H'/\H' p=some (.lst (ps.map V.ref))/\ZU H H' ps ((pO os i).map λl=>(l.map λk=>V.int ((k:Nat):Int)))/\∀z∈ps,z≠p)
  ⟨[],_,rfl,s1,e1,.nil,λz hz=>nomatch hz⟩ ?_ ?_
 .rintro i U H2 hi ⟨ps,v,rfl,s2,e2,ls,nd⟩;have hi6:i<=os.length:=by omega
  have hb2:=aG s2 hb
  have hps:ps.length=(pO os i).length:=by rw[ls.1,Ab]
  have hpl:=kK (os:=os) (i:=i) (by omega) (by omega)
  fail "g";rw[show (0:Int)+(i:Int)=((i:Nat):Int) by omega]
  refine⟨b,os,i,rfl,hb2,by omega,by omega,by omega,λrb qs H5 hrb s5 e5 lq nq=>?_⟩
  have hqs:qs.length=(cI os i).length:=by rw[lq.1,Ab]
  have hql:(cI os i).length<=6^5:=Bd (gR (by omega)) (Fj (by decide) (by omega))
  have e25:=s5 _ _ e2
  have m5:=aZ e25
  have r5:=aL e5
  have hln:(ps.map V.ref).length+(qs.map V.ref).length<=sizeLine:=bE (by rw[Ab,Ab,hps,hqs];omega)
  fail "g";have npq:∀z∈qs,z≠p:=λz hz zp=>by
   obtain⟨g,_,h1,_⟩:=lq.mem hz;rw[zp,e2]at h1;cases h1
  have nd2:∀z∈ps++qs,z≠p:=λz hz=>(Bs.mp hz).elim (nd z) (npq z)
  refine⟨ps++qs,_,rfl,bF hp (s2.trans s5),?_,?_,nd2⟩
  .rw[aD,Aj]
  .rw[lU,Aj];exact((ls.keep s5).app (lq.YU s2)).put nd2
 .rintro U H2 ⟨ps,v,rfl,s2,e2,ls,nd⟩;rw[show ((os.length:Int)+1).toNat=os.length+1 by omega]at ls
  fail "g";exact q p ps H2 hp s2 e2 ls nd
def bG(hs:List (Option (List Nat)))(cw ks:List Nat):List (List Nat):=cw::ks.map λk=>Zs ((hs.getD k none).getD [])
def cY(ks:List Nat):((ks.map λk=>V.int ((k:Nat):Int))).length=ks.length:=Ab ..
def gH:Sp:=λvs H Q _=>∃(a b:Addr) (us:List V) (hs:List (Option (List Nat))) (cw ks:List Nat),vs=[.ref a,.str (bB cw),.ref b]/\Z8 H a=some us/\Z6 H us hs/\dY hs/\Z8 H b=some (ks.map λk=>V.int ((k:Nat):Int))/\ks.length<=7/\(∀k∈ks,k<hs.length/\(hs.getD k none).isSome=true)/\
 ∀(r:Addr) (H':Hp),H r=none->Z_ H H'->H' r=some (.lst (((bG hs cw ks).map bB).map V.str))->Q (.ref r) H'
def sC:Z9 ["halyards", "word", "lowered"] ["halyards", "word", "lowered"] (aJ fL):=by fail "sc"
def sF(F:ZR K "words_with" "words_with" fL f fd)(G:Gs K mg Zw Zz Zx Zy)(l9:sI P w K mg base 4 "read_of" ["flags"] (rP Zy)):Z4 P w K mg base ZO 5 f fd ["halyards", "word", "lowered"] gH:=by
 refine F.ok sC (λvs H Q E h=>?_) (λcdv A outer s H vs Q E hr h=>?_)
 .obtain⟨a,b,us,hs,cw,ks,rfl,_⟩:=h;rfl
 obtain⟨a,b,us,hs,cw,ks,rfl,ha,hat,ok,hb,h7,hk,q⟩:=h;refine⟨_,(@aH _ _ _ (aR (aX bS (bL (aA (mv 1) aB)) (bW rfl (bP (mv 2)) (dF (N:=["other", "halyards"]) ["halyards", "word", "lowered"] (aJ fL) [none,some 0] rfl rfl rfl (λx h=>bJ h) (by decide +kernel)) (by decide +kernel) rfl (by decide +kernel) (λ_ _ _ _=>(aQ (i:=0) (show List.Nodup (["other", "halyards"]:List Str) by decide +kernel) rfl (Or.inl rfl))) (λ_ _ _ _=>cW) (λ_ _ _ _=>(kD l9 tF hr (by decide) rfl (aA (bI cE (mv 1) (mv 0) (λ_ _=>rfl)) aB))))))),?_⟩
 fail "g";refine⟨za0,λp hp=>?_⟩
 have s1:=aF hp (.lst [V.str (bB cw)])
 have e1:(upd H p (.lst [V.str (bB cw)])) p=some (.lst [V.str (bB cw)]):=aD
 generalize upd H p (.lst [V.str (bB cw)])=H1 at s1 e1 ⊢;have hb1:=aG s1 hb
 have ha1:=aG s1 ha
 fail "g";refine fV (xs:=(ks.map λk=>V.int ((k:Nat):Int))) (λj=>(ks[j]?).map λk=>V.str (bB (Zs ((hs.getD k none).getD [])))) hb1 (aY (by rw[cY];omega)) (λj x Hc A B hx sm hA hB=>?_) (λD Hd hD sD hd=>?_)
 .obtain⟨k,hki,rfl⟩:=fH hx;obtain⟨hkl,hks⟩:=hk k (Ah hki);obtain⟨u,au,_,hv⟩:=(hat.keep (s1.trans sm)).get hkl;have hA2:=hA (V.str (bB (Zs ((hs.getD k none).getD [])))) (by rw[hki];rfl)
  have r2:=aG sm ha1
  cases eh:hs.getD k none with
  |none=>rw[eh]at hks;cases hks
  |some cs=>
   rw[eh]at hv hA2;obtain⟨pc,rfl,hpc⟩:=hv;have hb:=ok cs (by
    rw[Ac,Aa hkl]at eh;rw[<-show hs[k]=some cs from eh];exact Bo hkl)
   have h7c:=dX hb
   fail "g";refine⟨Wk.set rfl (Wk.refl _),?_⟩;fail "g";refine cL r2 au ?_;fail "g";refine⟨pc,cs.map one,rfl,aL hpc,by omega,KP cs,λ_ H3 s3=>?_,λhf=>?_⟩
   .have e:Vs (cs.map one)=bB (Zs cs):=by unfold Vs;rw[Rc]
    rw[e];exact hA2 _ s3
   .rw[hb]at hf;cases hf
 .rw[cY,hV,show ks.map (λk=>V.str (bB (Zs ((hs.getD k none).getD []))))=((ks.map λk=>Zs ((hs.getD k none).getD [])).map bB).map V.str by rw[Bu,Bu];rfl]at hd
  refine eM (aZ (sD _ _ e1)) (aZ hd) (bE (by rw[Ab,Ab,Ab];show 1+_<=_;omega)) λr hr=>?_
  exact q r _ (bK (s1.trans sD) hr) (s1.trans (sD.trans (aF hr _))) aD
def fS(f:Nat->Option Int)(hs:List (Option (List Nat)))(L:List Nat):Nat->Option Int:=bD λc=>aP f c+cnt (aS hs L) c
def kZ(f:Nat->Option Int)(hs:List (Option (List Nat)))(L:List Nat)(c:Nat):Int:=aP (bD (aP (fS f hs L))) c
def WD(f:Nat->Option Int)(hs:List (Option (List Nat)))(n:Nat)(cw ks:List Nat):Prop:=Zh (kZ f hs (n::ks)) (bG hs cw ks)
def ZF(H:Hp)(f:Nat->Option Int)(hs:List (Option (List Nat)))(n:Nat)(cw ks:List Nat)(t:Addr):Prop:=∃(c l1 l2:Addr) (rs:List Addr) (W:List Wt) (F:List Nat),H t=some (.tup [.ref c,.ref l1,.ref l2])/\H c=some (.lst (ks.map λk=>V.int ((k:Nat):Int)))/\H l1=some (.lst (rs.map V.ref))/\Z2 H rs W/\H l2=some (.lst ((F.map one).map V.str))/\ZV (bG hs cw ks) (kZ f hs (n::ks)) W F
def ZF.keep{H:Hp}{f:Nat->Option Int}{n:Nat}{t:Addr}(h:ZF H f hs n cw ks t)(s:Z_ H H'):ZF H' f hs n cw ks t:=by
 obtain⟨c,l1,l2,rs,W,F,h1,h2,h3,h4,h5,h6⟩:=h;exact⟨c,l1,l2,rs,W,F,s _ _ h1,s _ _ h2,s _ _ h3,⟨h4.1,λj p w hp hw=>s _ _ (h4.2 j p w hp hw)⟩,s _ _ h5,h6⟩
def ZF.put{f:Nat->Option Int}{n:Nat}{t:Addr}{o:HO}(h:ZF H f hs n cw ks t)(h0:∀c l1 l2,H t=some (.tup [.ref c,.ref l1,.ref l2])->c≠p/\l1≠p/\l2≠p)(hn:∀xs,H p≠some (.tup xs)):ZF (upd H p o) f hs n cw ks t:=by
 obtain⟨c,l1,l2,rs,W,F,h1,h2,h3,h4,h5,h6⟩:=h;obtain⟨n1,n2,n3⟩:=h0 _ _ _ h1;refine⟨c,l1,l2,rs,W,F,?_,?_,?_,⟨h4.1,λj q w hq hw=>?_⟩,?_,h6⟩
 .rw[aI λz=>hn _ (by rw[<-z];exact h1)];exact h1
 .rw[aI n1];exact h2
 .rw[aI n2];exact h3
 .have e:=h4.2 j q w hq hw
  rw[aI λz=>hn _ (by rw[<-z];exact e)];exact e
 .rw[aI n3];exact h5
def lF(f:Nat->Option Int)(hs:List (Option (List Nat)))(n:Nat)(cw ks:List Nat)(j:Nat):Prop:=(bN (aM hs n))[j]?=some ks/\WD f hs n cw ks/\∀(i:Nat) l,i<j->(bN (aM hs n))[i]?=some l->¬WD f hs n cw l
def Kx(hb:cG (cs.map one)=true):∀d∈Zs cs,bY d:=by
 have h:∀i,i<=cs.length->∀d∈Zs (cs.take i),bY d:=λi=>by
  induction i with
  |zero=>intro _ d hd;rw[Fv]at hd;cases hd
  |succ i ih=>
   intro hi d hd;have hci:cs[i]?=some cs[i]:=Aa (by omega)
   have hrl:(Zs (cs.take i)).length=i:=gW (by omega)
   rw[mQ hci]at hd;obtain⟨c,e1,e2,e3⟩:=iD hb (i:=i) (z:=one cs[i]) (by rw[Af,hci];rfl)
   have ec:cs[i]=c:=one_inj.mp e1
   rcases Bs.mp hd with e|e
   .exact ih (by omega) d e
   .rw[Bc.mp e,ec];unfold Xf;rcases e3 with l|⟨sb,lt⟩
    .rw[if_neg (fY l)];exact l
    .rw[if_pos sb,Ac,Aa (by omega)]
     exact ih (by omega) _ (Bo _)
 have r:=h cs.length (Ai _)
 rwa [Br]at r
def NX{xs:List Addr}{u:Addr}(h:xs[xs.length-1]?=some u):Zc (xs.map V.ref) (-1)=some (.ref u):=by
 have hl:0<xs.length:=by have:=(Ad.mp h).1;omega
 unfold Zc;rw[show XX (xs.map V.ref).length (-1)=some (xs.length-1) by
  rw[Ab];unfold XX;rw[if_neg (by omega),if_pos (by omega)]
  exact Da some (by omega)]
 show (xs.map V.ref)[xs.length-1]?=_
 rw[Af,h];rfl
def Oa(os:List Nat):∃A,bN os=A++[os]:=by
 refine⟨pO os os.length,?_⟩;show pO os (os.length+1)=_
 rw[lU];congr 1
 exact qR os
def Za(H:Hp)(f:Nat->Option Int)(hs:List (Option (List Nat)))(n:Nat)(cw:List Nat)(p:Addr)(l:List Nat)(u:Addr):Prop:=ZF H f hs n cw l u/\∀c l1 l2,H u=some (.tup [.ref c,.ref l1,.ref l2])->c≠p/\l1≠p/\l2≠p
def Za.keep{H:Hp}{f:Nat->Option Int}{n:Nat}{u:Addr}(h:Za H f hs n cw p l u)(s:Z_ H H'):Za H' f hs n cw p l u:=by
 refine⟨h.1.keep s,λc l1 l2 e=>?_⟩;obtain⟨c0,k1,k2,_,_,_,h1,_⟩:=h.1;have:=s _ _ h1
 rw[this]at e;cases e;exact h.2 _ _ _ h1
def Za.put{f:Nat->Option Int}{n:Nat}{u:Addr}{ys:List V}(h:Za H f hs n cw p l u)(hp:H p=some (.lst xs)):Za (upd H p (.lst ys)) f hs n cw p l u:=by
 have hn:∀zs,H p≠some (.tup zs):=λzs z=>by rw[hp]at z;cases z
 refine⟨h.1.put h.2 hn,λc l1 l2 e=>?_⟩;obtain⟨c0,k1,k2,_,_,_,h1,_⟩:=h.1;rw[aI λz=>hn _ (by rw[<-z];exact h1)]at e
 exact h.2 _ _ _ e
def gO{cw:List Nat}(ok:dY hs)(hc:cw.length<=7/\∀d∈cw,bY d)(hk:∀k∈ks,k<hs.length/\(hs.getD k none).isSome=true):∀c∈bG hs cw ks,c.length<=7/\∀d∈c,bY d:=λc hcm=>by
 rcases Az.mp hcm with e|e
 .rw[e];exact hc
 .obtain⟨k,hkm,rfl⟩:=Bg.mp e;obtain⟨hkl,hks⟩:=hk k hkm;cases eh:hs.getD k none with
  |none=>rw[eh]at hks;cases hks
  |some cs=>
   have hb:=ok cs (by
    rw[Ac,Aa hkl]at eh;rw[<-show hs[k]=some cs from eh];exact Bo hkl)
   have h7c:=dX hb
   rw[Ab]at h7c;refine⟨by show (Zs cs).length<=7;rw[qA];exact h7c.2,?_⟩
   exact Kx hb
inductive iA(aC:Addr)(vs:List V)(H:Hp)(Q:VK)(E:XK):Prop|mk(a b:Addr)(kvs:List (Key×V))(f:Nat->Option Int)(us:List V)(hs:List (Option (List Nat)))(n:Nat)(cw:List Nat)(_:vs=[.ref a,.ref b,.int ((n:Nat):Int),.str (bB cw)])(_:H a=some (.dK kvs))(_:Lk kvs f)(_:(∀c,0<=aP f c))(_:Z8 H b=some us)(_:Z6 H us hs)(_:dY hs)(_:hs.length<=6)(_:n<hs.length)(_:cw.length<=7)(_:(∀d∈cw,bY d))(_:(∀(t L p:Addr) (ts:List Addr) (ks:List Nat) (j:Nat) (H':Hp),Z_ H H'->H t=none->H' t=some (.tup [.ref L,.ref p])->H L=none->H' L=some (.lst (ks.map λk=>V.int ((k:Nat):Int)))->lF f hs n cw ks j->H p=none->H' p=some (.lst (ts.map V.ref))->ts.length=j->(∀(i:Nat) u l,ts[i]?=some u->(bN (aM hs n))[i]?=some l->ZF H' f hs n cw l u)->Q (.ref t) H'))(_:((∀l,l.Sublist (aM hs n)->¬WD f hs n cw l)->∀(dx l1 l2:Addr) (rs:List Addr) (W:List Wt) (F:List Nat) (H':Hp),Z_ H H'->H' dx=some (Y7 dx [("flags",.ref l2),("wants",.ref l1)])->H' l1=some (.lst (rs.map V.ref))->Z2 H' rs W->H' l2=some (.lst ((F.map one).map V.str))->ZV (bG hs cw (aM hs n)) (kZ f hs (n::aM hs n)) W F->H l1=none->H l2=none->E (.ref aC) (some dx) H')):iA aC vs H Q E
def u8:Z9 ["locker", "halyards", "number", "word", "papers", "lowered", "more", "lack"] ["locker", "halyards", "number", "word"] (aJ jD):=by fail "sc"
def vI(F:ZR K "least_set" "least_set" jD f fd)(j1:ZP P w K mg base 10 "sets_of" ["others"] qE)(x8:WE P w K mg base 1 Zw ["self", "wants", "flags"] (iH Zw))(j2:ZP P w K mg base 1 "others_hung" ["halyards", "number"] iX)(wE:ZP P w K mg base 2 "put_in" ["locker", "flags"] oI)(j3:ZP P w K mg base 4 "lack_of" ["locker", "words"] qV)(x5:ZP P w K mg base 1 "flags_on" ["halyards", "numbers"] iW)(wP:ZP P w K mg base 5 "words_with" ["halyards", "word", "lowered"] gH):Z4 P w K mg base (YG P w) 11 f fd ["locker", "halyards", "number", "word"] (iA Zw):=by
 refine F.Wx u8 (λvs H Q E h=>?_) (λcdv A outer s H vs Q E hr h=>?_)
 .obtain⟨a,b,kvs,f,us,hs,n,cw,rfl,_⟩:=h;rfl
 obtain⟨a,b,kvs,f,us,hs,n,cw,rfl,ha,lk,hf0,hb,hat,ok,h6,hn,hc7,hcL,q,qe⟩:=h;refine⟨_,(@aE _ _ _ _ _ (aO 4 u8.nd (bL aB)) (@aE _ _ _ _ _ (PS.Xu (bU Bf rfl (bP (aV j1 hr (by decide) rfl (aA (aV j2 hr (by decide) rfl (aA (mv 1) (aA (mv 2) aB))) aB))) (aQ (i:=5) u8.nd rfl (Or.inl rfl)) (@aE _ _ _ _ _ (aO 6 u8.nd (aV wE hr (by decide) rfl (aA (mv 0) (aA (aV x5 hr (by decide) rfl (aA (mv 1) (aA (aX bS (bL (aA (mv 2) aB)) (mv 5)) aB))) aB)))) (@aE _ _ _ _ _ (aO 7 u8.nd (aV j3 hr (by decide) rfl (aA (mv 6) (aA (aV wP hr (by decide) rfl (aA (mv 1) (aA (mv 3) (aA (mv 5) aB)))) aB)))) (@aE _ _ _ _ _ (bT (aW yT (mv 7) cV (bC _)) (@aH _ _ _ (aR (lB (aA (mv 5) (aA (mv 4) aB))))) bA) (@aH _ _ _ (cZ (dD Cc Em En xK (mv 4) (aA (lB (aA (mv 5) (aA (bI cE (mv 7) aK (λ_ _=>rfl)) (aA (bI cE (mv 7) aK (λ_ _=>rfl)) aB)))) aB))))))))) (@aH _ _ _ (nY qC rfl rfl rfl G.YN G.Yf x8 hr (by decide) (aA (bI cE (bI cE (mv 4) (RG S9 aK) (λ_ _=>rfl)) aK (λ_ _=>rfl)) (aA (bI cE (bI cE (mv 4) (RG S9 aK) (λ_ _=>rfl)) aK (λ_ _=>rfl)) aB)))))),?_⟩
 have hol:=iL hn
 fail "g";refine⟨by decide,λp hp=>?_⟩
 have s1:=aF hp (.lst [])
 have e1:(upd H p (.lst [])) p=some (.lst (([]:List Addr).map V.ref)):=aD
 generalize upd H p (.lst [])=H1 at s1 e1 ⊢;fail "g";refine⟨b,us,hs,n,rfl,aG s1 hb,hat.keep s1,by omega,λro H2 hro s2 eo=>?_⟩
 fail "g";refine⟨ro,aM hs n,rfl,aL eo,by omega,λrS ps H3 hrS s3 eS ls nd=>?_⟩
 have s13:=s2.trans s3
 fail "g";have hps:ps.length=(bN (aM hs n)).length:=by rw[ls.1,Ab]
 have hpl:(ps.map V.ref).length=(bN (aM hs n)).length:=by rw[Ab,hps]
 have hsl:(bN (aM hs n)).length<=6*6^5:=Bd (kK (i:=(aM hs n).length+1) (by omega) (by omega)) (Nat.mul_le_mul_right _ (by omega))
 have e13:=s13 _ _ e1
 have s03:=s1.trans s13
 have lat:∀(j:Nat) c l,ps[j]?=some c->(bN (aM hs n))[j]?=some l->H3 c=some (.lst (l.map λk=>V.int ((k:Nat):Int)))/\c≠p/\H c=none:=λj c l hc hl=>by
  obtain⟨h1,h2⟩:=ls.2 j c (l.map λk=>V.int ((k:Nat):Int)) hc (by rw[Af,hl];rfl)
  exact⟨h2,(λz=>by rw[z,s2 _ _ e1]at h1;cases h1),bK (s1.trans s2) h1⟩
 have npS:rS≠p:=λz=>by rw[z,s2 _ _ e1]at hrS;cases hrS
 have hsub:∀(j:Nat) l,(bN (aM hs n))[j]?=some l->l.Sublist (aM hs n):=λj l h=>ZM.mp (Ah h)
 refine cP (xs:=ps.map V.ref) (λi U H'=>∃ (ts:List Addr) (v5 v6 v7:Option V),U=[some (.ref a),some (.ref b),some (.int ((n:Nat):Int)),some (.str (bB cw)),some (.ref p),v5,v6,v7]/\Z_ H H'/\(∀ z u,z≠p->H3 z=some u->H' z=some u)/\H' p=some (.lst (ts.map V.ref))/\ts.length=i/\
     (∀(j:Nat) u l,ts[j]?=some u->(bN (aM hs n))[j]?=some l->Za H' f hs n cw p l u)/\∀(j:Nat) l,j<i->(bN (aM hs n))[j]?=some l->¬WD f hs n cw l)
  ⟨[],_,_,_,rfl,s03,λz u _ h=>h,e13,rfl,λj u l hu=>(nomatch hu),λj l hj=>absurd hj (Nat.not_lt_zero _)⟩ (λi U H' _ ⟨_,_,_,_,_,_,fr,_⟩=>aL (fr _ _ npS eS)) ?_ ?_
 .rintro i x U H4 hx ⟨ts,v5,v6,v7,rfl,s4,fr4,e4,htl,hpap,hno⟩;have hi:i<(bN (aM hs n)).length:=by rw[<-hpl];exact(Ad.mp hx).1
  obtain⟨l,hl⟩:∃l,(bN (aM hs n))[i]?=some l:=⟨_,Aa hi⟩;obtain⟨c,hc,rfl⟩:=lJ hx;obtain⟨lc3,ncp,hcn⟩:=lat i c l hc hl;have lc:=fr4 _ _ ncp lc3
  have hlk:∀k∈l,k<hs.length/\(hs.getD k none).isSome=true:=λk hk=>by
   have:=cN ((hsub i l hl).subset hk)
   exact⟨this.1,this.2.1⟩
  have hll:l.length<=5:=by have:=(hsub i l hl).length_le;omega
  have hb4:=aG s4 hb
  have hat4:=hat.keep s4
  fail "g";refine⟨za0,λp5 hp5=>?_⟩
  have s5:=aF hp5 (.lst [V.int ((n:Nat):Int)])
  have e5:(upd H4 p5 (.lst [V.int ((n:Nat):Int)])) p5=some (.lst [V.int ((n:Nat):Int)]):=aD
  generalize upd H4 p5 (.lst [V.int ((n:Nat):Int)])=H5 at s5 e5 ⊢;fail "g";refine eM (aZ e5) (aZ (s5 _ _ lc)) (bE (by rw[cY];show 1+_<=_;omega)) λp6 hp6=>?_
  have s6:=aF hp6 (.lst ((n::l).map λk=>V.int ((k:Nat):Int)))
  have e6:Z8 (upd H5 p6 (.lst ((n::l).map λk=>V.int ((k:Nat):Int)))) p6=some ((n::l).map λk=>V.int ((k:Nat):Int)):=dA
  change uY _ (upd H5 p6 (.lst ((n::l).map λk=>V.int ((k:Nat):Int)))) _
  generalize upd H5 p6 (.lst ((n::l).map λk=>V.int ((k:Nat):Int)))=H6 at s6 e6 ⊢;have s46:=s5.trans s6
  fail "g";refine⟨b,p6,us,hs,n::l,rfl,aG s46 hb4,hat4.keep s46,ok,e6,by show l.length+1<=7;omega,λk hk=>by rcases Az.mp hk with e|e;(· rw[e];exact hn);(· exact(hlk k e).1),λr7 H7 hr7 s7 e7=>?_⟩
  have s47:=s46.trans s7
  have fl7:=eJ ok (n::l)
  fail "g";refine⟨a,r7,kvs,f,aS hs (n::l),rfl,s47 _ _ (s4 _ _ ha),lk,hf0,aL e7,by rw[Av]at fl7;omega,λr8 kws H8 hr8 s8 e8 lk8=>?_⟩
  have s48:=s47.trans s8
  fail "g";refine⟨b,c,us,hs,cw,l,rfl,aG s48 hb4,hat4.keep s48,ok,aL (s48 _ _ lc),by omega,hlk,λr9 H9 hr9 s9 e9=>?_⟩
  have s49:=s48.trans s9
  fail "g";refine⟨r8,r9,kws,fS f hs (n::l),bG hs cw l,rfl,.inl (s9 _ _ e8),lk8,aL e9,by unfold bG;rw[Av,Ab];omega,gO ok ⟨hc7,hcL⟩ hlk,λhcan H10 s10=>?_,λt0 l1 l2 rs W F H10 s10 ht0 e10 el1 hwt el2 hlo hn1 hn2=>?_⟩
  .have s410:=s49.trans s10
   fail "g";rw[show decide (V.non=V.non)=true from rfl];fail "g";refine⟨za1,λt ht=>?_⟩
   have s11:=s410.trans (aF ht (.tup [.ref c,.ref p]))
   exact q t c p ts l i _ (s4.trans s11) (bK (s4.trans s410) ht) aD hcn (s11 _ _ lc) ⟨hl,hcan,hno⟩ hp (s11 _ _ e4) htl λj u l' hu hl'=>((hpap j u l' hu hl').1.keep s11)
  .have s410:=s49.trans s10
   have n1:l1≠p:=λz=>by rw[z,s49 _ _ e4]at hn1;cases hn1
   have n2:l2≠p:=λz=>by rw[z,s49 _ _ e4]at hn2;cases hn2
   have m10:=aZ (s410 _ _ e4)
   have r10:=aL (s410 _ _ e4)
   have hln:(ts.map V.ref).length<sizeLine:=aY (by rw[Ab,htl];omega)
   fail "g";rw[show decide (V.ref t0=V.non)=false from Al (λz=>nomatch z)]
   fail "g";refine iT e10 (v:=.ref l1) rfl ?_;fail "g";refine iT e10 (v:=.ref l2) rfl ?_;fail "g";refine⟨by show 3<=sizeLine;decide,λtp htp=>?_⟩
   have s11:=aF htp (.tup [.ref c,.ref l1,.ref l2])
   have e11:(upd H10 tp (.tup [.ref c,.ref l1,.ref l2])) tp=some (.tup [.ref c,.ref l1,.ref l2]):=aD
   generalize upd H10 tp (.tup [.ref c,.ref l1,.ref l2])=H11 at s11 e11 ⊢;have s411:=s410.trans s11
   have ep:=s411 _ _ e4
   have m11:=aZ ep
   fail "g";have pnew:Za H11 f hs n cw p l tp:=⟨⟨c,l1,l2,rs,W,F,e11,s411 _ _ lc,s11 _ _ el1,⟨hwt.1,λj q w hq hw=>s11 _ _ (hwt.2 j q w hq hw)⟩,s11 _ _ el2,hlo⟩,λc' k1 k2 e=>by rw[e11]at e;cases e;exact⟨ncp,n1,n2⟩⟩
   refine⟨ts++[tp],_,_,_,rfl,bF hp (s4.trans s411),λz u hz h=>by rw[aI hz];exact s411 _ _ (fr4 z u hz h),by rw[aD,Aj];rfl,by rw[Ak,htl];rfl,λj u l' hu hl'=>?_,λj l' hj hl'=>?_⟩
   .by_cases hjl:j<ts.length
    .rw[Au hjl]at hu;exact((hpap j u l' hu hl').keep s411).put ep
    .have ej:j=ts.length:=by
      have:=(Ad.mp hu).1
      rw[Ak]at this;have:j<ts.length+1:=this
      omega
     rw[ej,Aw (Ai _),Hj]at hu;cases hu;rw[ej,htl,hl]at hl';cases hl';exact pnew.put ep
   .by_cases ej:j=i
    .rw[ej,hl]at hl';cases hl';exact yW hlo
    .exact hno j l' (by omega) hl'
 .rintro U H4 ⟨ts,v5,v6,v7,rfl,s4,fr4,e4,htl,hpap,hno⟩;rw[hpl]at htl hno;obtain⟨A0,hA0⟩:=Oa (aM hs n);have hlen:(bN (aM hs n)).length=A0.length+1:=by rw[hA0,Ak];rfl
  have hlast:(bN (aM hs n))[ts.length-1]?=some (aM hs n):=by
   rw[htl,hlen,hA0,Nat.add_sub_cancel,Aw (Ai _),Hj];rfl
  have hu:ts[ts.length-1]?=some (ts[ts.length-1]'(by omega)):=Aa (by omega)
  have hpp:=hpap _ _ _ hu hlast
  have au:=NX hu
  generalize ts[ts.length-1]'(by omega)=u at hpp au
  obtain⟨⟨c,l1,l2,rs,W,F,h1,h2,h3,h4,h5,h6⟩,_⟩:=hpp;have r4:=aL e4
  fail "g";refine cL r4 au ?_;fail "g";refine iT h1 (v:=.ref l1) rfl ?_;fail "g";refine cL r4 au ?_;fail "g";refine iT h1 (v:=.ref l2) rfl ?_;fail "g";refine⟨za1,λea hea=>⟨ea,l1,l2,_,_,rfl,aD,aG (aF hea _) (aL h3),aG (aF hea _) (aL h5),λdx k1 k2 H' frx hdx nde g1 g2 g3 g4 hk1 hk2=>⟨rfl,some dx,g1,?_⟩⟩⟩
  have n1:k1≠ea:=λz=>by rw[z,g1]at g3;cases g3
  have n2:k2≠ea:=λz=>by rw[z,g1]at g4;cases g4
  have go9:∀b u,H4 b=some u->(del H' ea) b=some u:=λb u hu=>by
   have nb:b≠ea:=λz=>by rw[z,hea]at hu;cases hu
   rw[dH nb];exact frx b u nb (by rw[aI nb];exact hu)
  refine qe (λl hl=>?_) dx k1 k2 rs W F (del H' ea) (λb u hu=>go9 _ _ (s4 _ _ hu)) ((dH nde).trans g2) ((dH n1).trans g3) ⟨h4.1,λj q w hq hw=>go9 _ _ (h4.2 j q w hq hw)⟩ ((dH n2).trans g4) h6 (bK s4 (by rw[aI n1]at hk1;exact hk1)) (bK s4 (by rw[aI n2]at hk2;exact hk2))
  obtain⟨j,hj,ej⟩:=Cg.mp (ZM.mpr hl);exact hno j l hj (by rw[Aa hj,ej])
def yI:∀ {cws:Q6} {fs:List Nat} {i:Nat} {cw:List Nat},cws[i]?=some cw->(oA cws fs)[i]?=some ((fs.drop (fE cws i)).take cw.length)
 |[],_,i,_,h=>by cases h
 |c::r,fs,0,cw,h=>by cases h;rfl
 |c::r,fs,i+1,cw,h=>by
  show (oA r (fs.drop c.length))[i]?=_
  rw[yI (show r[i]?=some cw from h),List.drop_drop];rfl
def Oh(cs:List Nat)(c:Nat):cnt cs c=(YT cs c:Int):=by
 unfold cnt YT;refine Da (λn:Nat=>(n:Int)) (List.countP_congr λx _=>?_);simp
def jM{p:List α->Prop}(h0:p [])(h1:∀l a,p l->p (l++[a])):∀l,p l:=λl=>by
 have h:∀r:List α,p r.reverse:=λr=>by
  induction r with
  |nil=>exact h0
  |cons a r ih=>rw[List.reverse_cons];exact h1 _ _ ih
 have:=h l.reverse
 rwa [List.reverse_reverse]at this
def fA(hs:List (Option (List Nat)))(zs:List (Nat×List Nat)):List (Option (List Nat)):=zs.foldl (λh z=>h.set z.1 (some z.2)) hs
def fM(hs:Q4)(zs:List (Nat×List Nat))(z:Nat×List Nat):fA hs (zs++[z])=(fA hs zs).set z.1 (some z.2):=by
 unfold fA;rw[List.foldl_append];rfl
def dL(hs:Q4):∀zs:List (Nat×List Nat),(fA hs zs).length=hs.length:=λzs=>by
 refine jM (p:=λzs=>(fA hs zs).length=hs.length) rfl (λzs z ih=>?_) zs;rw[fM,Fh,ih]
def qY(hs:Q4):∀zs:List (Nat×List Nat),(∀z∈zs,z.1≠k)->(fA hs zs).getD k none=hs.getD k none:=λzs=>by
 refine jM (p:=λzs=>(∀z∈zs,z.1≠k)->(fA hs zs).getD k none=hs.getD k none) (λ_=>rfl) (λzs z ih=>?_) zs
 .intro h;rw[fM,Ac,Dd (h z (Bk _ Aq)),<-Ac];exact ih λy hy=>h y (Cb _ hy)
def RH(hs:Q4):∀(zs:List (Nat×List Nat)),(zs.map (·.1)).Nodup->(∀z∈zs,z.1<hs.length)->∀z∈zs,(fA hs zs).getD z.1 none=some z.2:=λzs=>by
 refine jM (p:=λzs=>(zs.map (·.1)).Nodup->(∀z∈zs,z.1<hs.length)->∀z∈zs,(fA hs zs).getD z.1 none=some z.2) (λ_ _ z hz=>nomatch hz) (λzs y ih=>?_) zs
 .intro nd hl z hz;rw[Aj,Ar,Fz]at nd;rw[fM];rcases Bs.mp hz with e|e
  .have ne:y.1≠z.1:=λq=>(Dc.mp nd).2.2 z.1 (List.mem_map_of_mem e) y.1 Aq q.symm
   rw[Ac,Dd ne,<-Ac];exact ih (Dc.mp nd).1 (λw hw=>hl w (Cb _ hw)) z e
  .rw[Bc.mp e,Ac,Di (by rw[dL];exact hl y (Bk _ Aq))]
   rfl
def wA(ok:dY hs):∀zs:List (Nat×List Nat),(∀z∈zs,cG (z.2.map one)=true)->dY (fA hs zs):=λzs=>by
 refine jM (p:=λzs=>(∀z∈zs,cG (z.2.map one)=true)->dY (fA hs zs)) (λ_=>ok) (λzs z ih=>?_) zs;intro h cs hcs;rw[fM]at hcs;rcases List.mem_or_eq_of_mem_set hcs with e|e
 .exact ih (λy hy=>h y (Cb _ hy)) cs e
 .cases e;exact h z (Bk _ Aq)
def yR:∀ {L:List Nat} {gs:Q6},L.length=gs.length->(∀z∈L.zip gs,hs.getD z.1 none=some z.2)->aS hs L=gs.flatten
 |[],[],_,_=>rfl
 |k::L,g::gs,hl,h=>by
  show ((hs.getD k none).getD [])++aS hs L=g++gs.flatten
  rw[show hs.getD k none=some g from h (k,g) List.mem_cons_self,yR (by simpa using hl) λz hz=>h z (List.mem_cons_of_mem _ hz)]
  rfl
 |[],_::_,hl,_=>by cases hl
 |_::_,[],hl,_=>by cases hl
def Z6.set(a:Z6 H vs hs)(b:Y_ H v h):Z6 H (vs.set k v) (hs.set k h):=by
 refine⟨by rw[Fh,Fh,a.len],λj u g hu hg=>?_⟩
 by_cases e:k=j
 .subst e;have h1:=(Ad.mp hu).1
  have h2:=(Ad.mp hg).1
  rw[Fh]at h1 h2;rw[Di h1]at hu;rw[Di h2]at hg;cases hu;cases hg;exact b
 .rw[Dd e]at hu hg;exact a.val j u g hu hg
def zG{D:Addr}(h:Z8 H p=some xs)(n:p≠D)(fr:∀z u,z≠D->H z=some u->H' z=some u):Z8 H' p=some xs:=by
 refine aG (H:=λz=>if z=p then H z else none) (λz u e=>?_) ?_
 .dsimp only at e;by_cases zp:z=p
  .rw[if_pos zp]at e;rw[zp]at e ⊢;exact fr p u n e
  .rw[if_neg zp]at e;cases e
 .unfold Z8 at h ⊢;dsimp only;rw[if_pos rfl];exact h
def JV{L:List α}{M:List β}{a:α}{b:β}(h1:L[i]?=some a)(h2:M[i]?=some b):(L.zip M).take (i+1)=(L.zip M).take i++[(a,b)]:=by
 rw[Be];congr 1
 have:(L.zip M)[i]?=some (a,b):=by rw[List.getElem?_zip_eq_some];exact⟨h1,h2⟩
 rw[this];rfl
def JT{c:Nat}(hL:∀d∈cw,bY d)(hk:k<cw.length)(h:c∈Yp cw k):fP c:=by
 rcases Yk.mp h with e|⟨m,_,h4,_,e⟩
 .left
  rw[e,Ac,Aa hk];exact hL _ (Bo hk)
 .right
  rw[e];unfold cX;omega
def VU:∀ {cws gs:Q6},Y8 cws gs->(∀c∈cws,1<=c.length/\c.length<=7/\∀d∈c,bY d)->(∀g∈gs,cG (g.map one)=true/\∀c∈g,fP c)
 |_,_,.nil,_,g,hg=>nomatch hg
 |_,_,.cons (cw:=cw) (h:=h) a b,hW,g,hg=>by
  rcases Az.mp hg with e|e
  .rw[e];obtain⟨h1,h7,hL⟩:=hW cw Aq;refine⟨KS hL (by rw[a.1];exact h1) (by rw[a.1];exact h7) (by rw[a.1];exact Ai _) λk hk=>?_,λc hc=>?_⟩
   .exact a.2 k _ (by rw[Ac,Aa hk];rfl)
   .obtain⟨k,hk,ek⟩:=Cg.mp hc;exact JT hL (by rw[<-a.1];exact hk) (a.2 k c (by rw[Aa hk,ek]))
  .exact VU b (λc hc=>hW c (Ao _ hc)) g e
def Y8.Xa:∀ {cws gs:Q6},Y8 cws gs->gs.length=cws.length
 |_,_,.nil=>rfl
 |_,_,.cons _ b=>by rw[Av,Av,b.Xa]
def pQ(f:Nat->Option Int)(hs:Q4)(L:List Nat)(c:Nat):0<=aP (fS f hs L) c:=by
 show 0<=(bD _ c).getD 0
 unfold bD;split
 .rename_i h;exact Int.le_of_lt h.2
 .exact Hq _
def QR(hs:Q4)(n:Nat):(aM hs n).Nodup:=List.Nodup.sublist Ee List.nodup_range
def nS{n:Nat}(h:ks.Sublist (aM hs n)):(n::ks).Nodup:=Bz.mpr ⟨λz=>(cN (h.subset z)).2.2 rfl,(QR hs n).sublist h⟩
def lS(ok:dY hs)(h1:1<=cw.length)(hc:cw.length<=7/\∀d∈cw,bY d)(hk:∀k∈ks,k<hs.length/\(hs.getD k none).isSome=true):∀c∈bG hs cw ks,1<=c.length/\c.length<=7/\∀d∈c,bY d:=λc hcm=>by
 refine⟨?_,gO ok hc hk c hcm⟩;rcases Az.mp hcm with e|e
 .rw[e];exact h1
 .obtain⟨k,hkm,rfl⟩:=Bg.mp e;obtain⟨hkl,hks⟩:=hk k hkm;cases eh:hs.getD k none with
  |none=>rw[eh]at hks;cases hks
  |some cs=>
   have hb:=ok cs (by
    rw[Ac,Aa hkl]at eh;rw[<-show hs[k]=some cs from eh];exact Bo hkl)
   have h7c:=dX hb
   rw[Ab]at h7c;show 1<=(Zs cs).length
   rw[qA];exact h7c.1
def ZW(H:Hp)(a b:Addr)(kvs:List (Key×V))(f:Nat->Option Int)(us:List V)(hs:List (Option (List Nat)))(n:Nat)(cw:List Nat):Prop:=H a=some (.dK kvs)/\Lk kvs f/\(∀c,0<=aP f c)/\Z8 H b=some us/\Z6 H us hs/\dY hs/\hs.length<=6/\n<hs.length/\1<=cw.length/\cw.length<=7/\(∀d∈cw,bY d)
inductive sX(aC:Addr)(vs:List V)(H:Hp)(Q:VK)(E:XK):Prop|mk(a b:Addr)(kvs:List (Key×V))(f:Nat->Option Int)(us:List V)(hs:List (Option (List Nat)))(n:Nat)(cw:List Nat)(_:vs=[.ref a,.ref b,.int ((n:Nat):Int),.str (bB cw)])(_:ZW H a b kvs f us hs n cw)(_:(∀(t L B R:Addr) (ks:List Nat) (gs:Q6) (j:Nat) (vs':List V) (kws:List (Key×V)) (H':Hp),Z_ H H'->H t=none->H' t=some (.tup [.ref L,.ref B,.ref R])->H L=none->H' L=some (.lst (ks.map λk=>V.int ((k:Nat):Int)))->lF f hs n cw ks j->Y8 (bG hs cw ks) gs->(∀c,cnt gs.flatten c<=aP (fS f hs (n::ks)) c)->H B=none->H' B=some (.lst vs')->Z6 H' vs' (fA hs ((n::ks).zip gs))->H R=none->H' R=some (.dK kws)->Lk kws (bD λc=>aP (fS f hs (n::ks)) c-cnt gs.flatten c)->Q (.ref t) H'))(_:((∀l,l.Sublist (aM hs n)->¬WD f hs n cw l)->∀(dx l1 l2:Addr) (rs:List Addr) (W:List Wt) (F:List Nat) (H':Hp),Z_ H H'->H' dx=some (Y7 dx [("flags",.ref l2),("wants",.ref l1)])->H' l1=some (.lst (rs.map V.ref))->Z2 H' rs W->H' l2=some (.lst ((F.map one).map V.str))->ZV (bG hs cw (aM hs n)) (kZ f hs (n::aM hs n)) W F->H l1=none->H l2=none->E (.ref aC) (some dx) H')):sX aC vs H Q E
def wS:Z9 ["locker", "halyards", "number", "word", "lowered", "rehung", "more", "behind", "at", "hoist"] ["locker", "halyards", "number", "word"] (aJ rA):=by fail "sc"
def JO(F:ZR K "hauled" "hauled" rA f fd)(wE:ZP P w K mg base 2 "put_in" ["locker", "flags"] oI)(wT:sI P w K mg base 11 "least_set" ["locker", "halyards", "number", "word"] (iA Zw))(x5:ZP P w K mg base 1 "flags_on" ["halyards", "numbers"] iW)(x9:sI P w K mg base 3 "hang_all" ["locker", "words"] (jO Zw))(j4:sI P w K mg base 3 "taken" ["locker", "flags"] (wY Zx))(wP:ZP P w K mg base 5 "words_with" ["halyards", "word", "lowered"] gH):Z4 P w K mg base (YG P w) 12 f fd ["locker", "halyards", "number", "word"] (sX Zw):=by
 refine F.Wx wS (λvs H Q E h=>?_) (λcdv A outer s H vs Q E hr h=>?_)
 .obtain⟨a,b,kvs,f,us,hs,n,cw,rfl,_⟩:=h;rfl
 obtain⟨a,b,kvs,f,us,hs,n,cw,rfl,⟨ha,lk,hf0,hb,hat,ok,h6,hn,hc1,hc7,hcL⟩,q,qe⟩:=h;refine⟨_,(@aE _ _ _ _ _ (aO 4 wS.nd (bI cE (kD wT kC hr (by decide) rfl (aA (mv 0) (aA (mv 1) (aA (mv 2) (aA (mv 3) aB))))) aK (λ_ _=>rfl))) (@aE _ _ _ _ _ (aO 5 wS.nd (aX bS (bL (aA (mv 2) aB)) (mv 4))) (@aE _ _ _ _ _ (aO 6 wS.nd (aV wE hr (by decide) rfl (aA (mv 0) (aA (aV x5 hr (by decide) rfl (aA (mv 1) (aA (mv 5) aB))) aB)))) (@aE _ _ _ _ _ (qD (i:=7) wS.nd rfl (Or.inl rfl) rfl (bP (mv 1)) (VJ (N:=["hoist"]) (by decide +kernel) (by decide +kernel)) (by decide +kernel) rfl (by decide +kernel) (λ_ _ _ _=>(aQ (i:=0) (show List.Nodup (["hoist"]:List Str) by decide +kernel) rfl (Or.inl rfl))) (λ_ _ _ _=>cW) (λ_ _ _ _=>(yN (aW yT (mv 0) cV (bC _)) cV (bV lM rfl G.b_list cR (aA (mv 0) aB))))) (@aE _ _ _ _ _ (bU PassesOwn.leaving rfl (Um rfl G.b_zip (aA (mv 5) (aA (kD x9 kC hr (by decide) rfl (aA (mv 6) (aA (aV wP hr (by decide) rfl (aA (mv 1) (aA (mv 3) (aA (mv 4) aB)))) aB))) aB))) (hJ (K:=K) (i:=8) (j:=9) (by rfl) (by rfl) wS.nd (by rfl) (by exact(Or.inl rfl)) (by exact Or.inl rfl) (by rfl) (by exact(Or.inl rfl)) (by exact Or.inl rfl)) (@aH _ _ _ (zU (mv 9) (K1 (mv 7) (mv 8) JA)))) (@aH _ _ _ (aR (lB (aA (mv 4) (aA (mv 7) (aA (kD j4 kC hr (by decide) rfl (aA (mv 6) (aA (aV x5 hr (by decide) rfl (aA (mv 7) (aA (mv 5) aB))) aB))) aB))))))))))),?_⟩
 have hol:=iL hn
 fail "g";refine⟨a,b,kvs,f,us,hs,n,cw,rfl,ha,lk,hf0,hb,hat,ok,h6,hn,hc7,hcL,λt0 L p0 ts ks j H1 s1 ht0 et hL eL hfst _ _ _ _=>?_,qe⟩;have hks:=ZM.mp (Ah hfst.1)
 have hlk:∀k∈ks,k<hs.length/\(hs.getD k none).isSome=true:=λk hk=>by
  have:=cN (hks.subset hk)
  exact⟨this.1,this.2.1⟩
 have hkl:ks.length<=5:=by have:=hks.length_le;omega
 have hb1:=aG s1 hb
 have hat1:=hat.keep s1
 refine iT et (v:=.ref L) rfl ?_;fail "g";refine⟨za0,λp5 hp5=>?_⟩
 have s5:=aF hp5 (.lst [V.int ((n:Nat):Int)])
 have e5:(upd H1 p5 (.lst [V.int ((n:Nat):Int)])) p5=some (.lst [V.int ((n:Nat):Int)]):=aD
 generalize upd H1 p5 (.lst [V.int ((n:Nat):Int)])=H5 at s5 e5 ⊢;fail "g";refine eM (aZ e5) (aZ (s5 _ _ eL)) (bE (by rw[cY];show 1+_<=_;omega)) λp6 hp6=>?_
 have s6:=aF hp6 (.lst ((n::ks).map λk=>V.int ((k:Nat):Int)))
 have e6:Z8 (upd H5 p6 (.lst ((n::ks).map λk=>V.int ((k:Nat):Int)))) p6=some ((n::ks).map λk=>V.int ((k:Nat):Int)):=dA
 change pM _ _ _ (upd H5 p6 (.lst ((n::ks).map λk=>V.int ((k:Nat):Int)))) _
 generalize upd H5 p6 (.lst ((n::ks).map λk=>V.int ((k:Nat):Int)))=H6 at s6 e6 ⊢;have s16:=s5.trans s6
 fail "g";refine⟨b,p6,us,hs,n::ks,rfl,aG s16 hb1,hat1.keep s16,ok,e6,by show ks.length+1<=7;omega,λk hk=>by rcases Az.mp hk with e|e;(· rw[e];exact hn);(· exact(hlk k e).1),λr7 H7 hr7 s7 e7=>?_⟩
 have s17:=s16.trans s7
 have fl7:=eJ ok (n::ks)
 fail "g";refine⟨a,r7,kvs,f,aS hs (n::ks),rfl,s17 _ _ (s1 _ _ ha),lk,hf0,aL e7,by rw[Av]at fl7;omega,λr8 kws H8 hr8 s8 e8 lk8=>?_⟩
 have s18:=s17.trans s8
 have e68:=aG (s7.trans s8) e6
 have hb8:=aG s18 hb1
 have hat8:=hat1.keep s18
 have hul:=hat.len
 fail "g";refine Sg (hs:=hs) hb8 (aY (by omega)) hul (λi x h Hc A B hx hh sm hA=>?_) (λD Hd vs hD sD hd hatD hfr=>?_)
 .have hv:=(hat8.keep sm).val i x h hx hh
  cases h with
  |none=>
   obtain rfl:x=V.non:=hv;fail "g";refine⟨Wk.set rfl (Wk.refl _),?_⟩;fail "g";rw[show decide (V.non=V.non)=true from rfl];fail "g";exact hA .non _ (Z_.refl _) rfl λp z=>nomatch z
  |some cs=>
   obtain⟨pc,rfl,hpc⟩:=hv;have rc:=aL hpc
   fail "g";refine⟨Wk.set rfl (Wk.refl _),?_⟩;fail "g";rw[show decide (V.ref pc=V.non)=false from Al (λz=>nomatch z)]
   fail "g";intro l2 hl2;exact hA (.ref l2) _ (aF hl2 _) ⟨l2,rfl,aD⟩ λp z=>by cases z;exact hl2
 .have s1D:=s18.trans sD
  have e6D:=aG sD e68
  have eLD:=s1D _ _ eL
  fail "g";refine⟨b,L,us,hs,cw,ks,rfl,aG s1D hb1,hat1.keep s1D,ok,aL eLD,by omega,hlk,λr9 H9 hr9 s9 e9=>?_⟩
  fail "g";refine⟨r8,r9,kws,fS f hs (n::ks),bG hs cw ks,rfl,.inl (s9 _ _ (sD _ _ e8)),lk8,aL e9,by unfold bG;rw[Av,Ab];omega,gO ok ⟨hc7,hcL⟩ hlk,λrh ps fs H10 hrh s10 er hne hls hfl hch hct=>?_,λdx l1 l2 rs W F H10 s10 _ _ _ _ hlo _ _=>absurd hfst.2.1 (yW hlo)⟩
  have sD10:=s9.trans s10
  have hgs:=S0 hfl hch
  have hflat:=oS (hfl.trans (zW (bG hs cw ks)))
  have hgl:=hgs.Xa
  have hpg:∀(i:Nat) p g,ps[i]?=some p->(oA (bG hs cw ks) fs)[i]?=some g->H10 p=some (.lst ((g.map one).map V.str))/\p≠D:=λi p g hp hg=>by
   have hi:i<(bG hs cw ks).length:=by rw[<-hgl];exact(Ad.mp hg).1
   have ec:(bG hs cw ks)[i]?=some (bG hs cw ks)[i]:=Aa hi
   rw[yI ec]at hg;obtain⟨h1,h2⟩:=hls.2 i p (ZK (bG hs cw ks) fs i) hp (by rw[Af,Fl hi];rfl)
   refine⟨?_,λz=>by rw[z,s9 _ _ hd]at h1;cases h1⟩
   unfold ZK at h2;rw[Ac,ec]at h2;cases hg;exact h2
  have hcnt:∀c,cnt (oA (bG hs cw ks) fs).flatten c<=aP (fS f hs (n::ks)) c:=λc=>by
   rw[hflat,Oh];exact Int.le_trans (hct c) (Jx (pQ f hs (n::ks)) c)
  have hwone:=lS ok hc1 ⟨hc7,hcL⟩ hlk
  have hgf:=VU hgs hwone
  have hpsl:ps.length=(oA (bG hs cw ks) fs).length:=by rw[hls.1,Ab,Bm,hgl]
  have hgl2:(oA (bG hs cw ks) fs).length=(n::ks).length:=by rw[hgl];show ((ks.map _).length+1)=ks.length+1;rw[Ab]
  generalize oA (bG hs cw ks) fs=gs at hgs hflat hgl hpg hcnt hgf hpsl hgl2;have e610:=aG sD10 e6D
  have er10:=aL er
  have eD10:=sD10 _ _ hd
  have hat10:=hatD.keep sD10
  have nd6:p6≠D:=λz=>by rw[z]at e68;unfold Z8 at e68;rw[hD]at e68;cases e68
  have ndh:rh≠D:=λz=>by rw[z,s9 _ _ hd]at hrh;cases hrh
  have s810:=sD.trans sD10
  fail "g";refine Ul (xs:=((n::ks).map λk=>V.int ((k:Nat):Int))) (ys:=ps.map V.ref) (λi U H'=>∃(v8 v9:Option V) (ws:List V),U=[some (.ref a),some (.ref b),some (.int ((n:Nat):Int)),some (.str (bB cw)),some (.ref L),some (.ref p6),some (.ref r8),some (.ref D),v8,v9]/\Z_ H8 H'/\(∀z u,z≠D->H10 z=some u->H' z=some u)/\H' D=some (.lst ws)/\Z6 H' ws (fA hs (((n::ks).zip gs).take i)))
   ⟨_,_,vs,rfl,s810,λz u _ h=>h,eD10,hat10⟩ (λi U H' _ _ ⟨_,_,_,_,_,fr,_⟩=>⟨zG e610 nd6 fr,zG er10 ndh fr⟩) ?_ ?_
  .rintro i x y U H11 pt hx hy ⟨v8,v9,ws,rfl,s11,fr11,e11,hat11⟩ hpt;obtain⟨k,hk,rfl⟩:=fH hx;obtain⟨pg,hpgi,rfl⟩:=lJ hy;have hig:i<gs.length:=by rw[<-hpsl];exact(Ad.mp hpgi).1
   have eg:gs[i]?=some gs[i]:=Aa hig
   obtain⟨hp10,npD⟩:=hpg i pg _ hpgi eg;have hp11:=fr11 _ _ npD hp10
   have hkl2:k<hs.length:=by rcases Az.mp (Ah hk) with e|e;(· rw[e];exact hn);(· exact(hlk k e).1)
   have hwl:ws.length=hs.length:=by rw[hat11.len,dL]
   have tk:=JV hk eg
   generalize gs[i]=g at eg hp10 hp11 tk;have s12:=aF hpt (.tup [.int ((k:Nat):Int),.ref pg])
   have t12:kN (upd H11 pt (.tup [.int ((k:Nat):Int),.ref pg])) pt=some [.int ((k:Nat):Int),.ref pg]:=oG
   have e12:=s12 _ _ e11
   have hat12:=hat11.keep s12
   have hp12:=s12 _ _ hp11
   generalize upd H11 pt (.tup [.int ((k:Nat):Int),.ref pg])=H12 at s12 t12 e12 hat12 hp12 ⊢;fail "g";refine NT (o:=.non) (aZ e12) (Og (by omega) (by rw[hwl];omega)) ?_
   rw[show ((k:Nat):Int).toNat=k from rfl];refine⟨_,_,ws.set k (.ref pg),rfl,bF hD (s11.trans s12),λz u hz h=>by rw[aI hz];exact s12 _ _ (fr11 z u hz h),aD,?_⟩
   rw[tk,fM];exact(hat12.put e12).set ⟨pg,rfl,by rw[aI npD];exact hp12⟩
  .rintro U H11 ⟨v8,v9,ws,rfl,s11,fr11,e11,hat11⟩;have hzl:((n::ks).zip gs).length=(n::ks).length:=by rw[List.length_zip,hgl2,Nat.min_self]
   rw[cY,Ab,hpsl,hgl2,Nat.min_self,<-hzl,Br]at hat11;have hzk:∀z∈(n::ks).zip gs,z.1∈n::ks/\z.2∈gs:=λz hz=>Ef hz
   have ok':dY (fA hs ((n::ks).zip gs)):=wA ok _ λz hz=>(hgf z.2 (hzk z hz).2).1
   have hkk:∀k∈n::ks,k<hs.length:=λk hk=>by rcases Az.mp hk with e|e;(· rw[e];exact hn);(· exact(hlk k e).1)
   have ndz:(((n::ks).zip gs).map (·.1)).Nodup:=by
    rw[show ((n::ks).zip gs).map (·.1)=n::ks from List.map_fst_zip (by rw[hgl2];exact Ai _)]
    exact nS hks
   have hfo:aS (fA hs ((n::ks).zip gs)) (n::ks)=gs.flatten:=yR hgl2.symm (RH hs _ ndz λz hz=>hkk z.1 (hzk z hz).1)
   have e6b:=zG e610 nd6 fr11
   have e8b:H11 r8=some (.dK kws):=s11 _ _ e8
   fail "g";refine⟨D,p6,ws,_,n::ks,rfl,aL e11,hat11,ok',e6b,by show ks.length+1<=7;omega,λk hk=>by rw[dL];exact hkk k hk,λr12 H12 hr12 s12 e12=>?_⟩
   rw[hfo]at e12;have hfle:gs.flatten.length<=42:=by
    have:=eJ ok' (n::ks)
    rw[hfo,Av]at this;omega
   fail "g";refine⟨r8,r12,kws,fS f hs (n::ks),gs.flatten,rfl,s12 _ _ e8b,lk8,pQ f hs (n::ks),aL e12,by omega,λc hc=>by obtain⟨g,hg,hcg⟩:=List.mem_flatten.mp hc;exact(hgf g hg).2 c hcg,λ_ rR kwR H13 hrR s13 eR lkR=>?_,λi c hi _ hle=>?_⟩
   .fail "g";refine⟨by show 3<=sizeLine;decide,λt ht=>?_⟩
    have k14:=aF ht (.tup [.ref L,.ref D,.ref rR])
    have s114:=s12.trans (s13.trans k14)
    have sH11:Z_ H H11:=s1.trans (s18.trans s11)
    refine q t L D rR ks gs j ws kwR _ (sH11.trans s114) (bK (sH11.trans (s12.trans s13)) ht) aD hL (s114 _ _ (s11 _ _ (s18 _ _ eL))) hfst hgs hcnt (bK (s1.trans s18) hD) (s114 _ _ e11) (hat11.keep s114) (bK (sH11.trans s12) hrR) (k14 _ _ eR) lkR
   .have h1:=O2 hi
    have h2:=hcnt c
    omega
inductive gD(aC:Addr)(vs:List V)(H:Hp)(Q:VK)(E:XK):Prop|mk(a b:Addr)(kvs:List (Key×V))(f:Nat->Option Int)(us:List V)(hs:List (Option (List Nat)))(n:Nat)(cw:List Nat)(_:vs=[.ref a,.ref b,.int ((n:Nat):Int),.str (bB cw)])(_:ZW H a b kvs f us hs n cw)(_:(∀(p:Addr) (ts:List Addr) (ks:List Nat) (j:Nat) (H':Hp),Z_ H H'->lF f hs n cw ks j->H p=none->H' p=some (.lst (ts.map V.ref))->ts.length=j->(∀(i:Nat) u l,ts[i]?=some u->(bN (aM hs n))[i]?=some l->ZF H' f hs n cw l u)->Q (.ref p) H'))(_:((∀l,l.Sublist (aM hs n)->¬WD f hs n cw l)->∀(dx l1 l2:Addr) (rs:List Addr) (W:List Wt) (F:List Nat) (H':Hp),Z_ H H'->H' dx=some (Y7 dx [("flags",.ref l2),("wants",.ref l1)])->H' l1=some (.lst (rs.map V.ref))->Z2 H' rs W->H' l2=some (.lst ((F.map one).map V.str))->ZV (bG hs cw (aM hs n)) (kZ f hs (n::aM hs n)) W F->H l1=none->H l2=none->E (.ref aC) (some dx) H')):gD aC vs H Q E
def nO:Z9 ["locker", "halyards", "number", "word"] ["locker", "halyards", "number", "word"] (aJ eI):=by fail "sc"
def mE(F:ZR K "hauling_papers" "hauling_papers" eI f fd)(G:Gs K mg Zw Zz Zx Zy)(wT:sI P w K mg base 11 "least_set" ["locker", "halyards", "number", "word"] (iA Zw)):Z4 P w K mg base (YG P w) 12 f fd ["locker", "halyards", "number", "word"] (gD Zw):=by
 refine F.Wx nO (λvs H Q E h=>?_) (λcdv A outer s H vs Q E hr h=>?_)
 .obtain⟨a,b,kvs,f,us,hs,n,cw,rfl,_⟩:=h;rfl
 obtain⟨a,b,kvs,f,us,hs,n,cw,rfl,⟨ha,lk,hf0,hb,hat,ok,h6,hn,hc1,hc7,hcL⟩,q,qe⟩:=h;refine⟨_,(@aH _ _ _ (aR (bI cE (kD wT kC hr (by decide) rfl (aA (mv 0) (aA (mv 1) (aA (mv 2) (aA (mv 3) aB))))) aK (λ_ _=>rfl)))),?_⟩
 fail "g";refine⟨a,b,kvs,f,us,hs,n,cw,rfl,ha,lk,hf0,hb,hat,ok,h6,hn,hc7,hcL,λt0 L p0 ts ks j H1 s1 ht0 et hL eL hfst hp0 ep htl hpap=>?_,qe⟩;refine iT et (v:=.ref p0) rfl ?_;exact q p0 ts ks j H1 s1 hfst hp0 ep htl hpap
def ML:Str:=("_law_sets" : Str) ++ ".<locals>." ++ "<lambda>"
def Ky:Pos:=⟨239,33,239,75⟩
def yK(Pt:Addr)(H:Hp):Prop:=Zk Pt ML Ky H
def cO(os:List Nat):List (List Nat):=os.foldl (λL x=>L++L.map λl=>l++[x]) [[]]
def eK(os:List Nat)(x:Nat):cO (os++[x])=cO os++(cO os).map λl=>l++[x]:=by
 unfold cO;rw[List.foldl_append];rfl
def pY{p:List Nat->Prop}(h0:p [])(h1:∀l a,p l->p (l++[a])):∀l,p l:=λl=>by
 have h:∀r:List Nat,p r.reverse:=λr=>by
  induction r with
  |nil=>exact h0
  |cons a r ih=>rw[List.reverse_cons];exact h1 _ _ ih
 have:=h l.reverse
 rwa [List.reverse_reverse]at this
def zA:∀os:List Nat,(cO os).length=2^os.length:=pY rfl λl a ih=>by
 rw[eK,Ak,Ab,ih,Ak,show [a].length=1 from rfl,Nat.pow_succ];omega
def OF(g:Nat->Nat):∀os:List Nat,cO (os.map g)=(cO os).map λl=>l.map g:=pY rfl λl a ih=>by
 rw[Aj,Ar,Fz,eK,eK,ih,Aj,Bu,Bu];congr 1
 refine Bw λl _=>?_;show l.map g++[g a]=(l++[a]).map g
 rw[Aj];rfl
def Lh:∀os:List Nat,∀l∈cO os,∀x∈l,x∈os:=pY (λl hl x hx=>by rw[Bc.mp hl]at hx;cases hx) λr a ih l hl x hx=>by
 rw[eK]at hl;rcases Bs.mp hl with h|h
 .exact Cb _ (ih l h x hx)
 .obtain⟨m,hm,rfl⟩:=Bg.mp h;rcases Bs.mp hx with z|z
  .exact Cb _ (ih m hm x z)
  .exact Bk _ z
def MP:∀os:List Nat,∀l∈cO os,l.length<=os.length:=pY (λl hl=>by rw[Bc.mp hl];exact Ai _) λr a ih l hl=>by
 rw[eK]at hl;rw[Ak];rcases Bs.mp hl with h|h
 .exact Nat.le_add_right_of_le (ih l h)
 .obtain⟨m,hm,rfl⟩:=Bg.mp h;rw[Ak];exact Nat.add_le_add_right (ih m hm) _
def zI(l:List Nat):List Int:=l.map λk=>((k:Nat):Int)
def Vm(l:List Nat):(zI l).map V.int=(l.map λk=>V.int ((k:Nat):Int)):=by
 unfold zI;rw[Bu];rfl
def Tx{g:Nat->Nat}:∀ {l m:List Nat},(∀a∈l,∀b∈m,(a=b ↔ g a=g b)/\(a<b ↔ g a<g b))->ltZ (zI (l.map g)) (zI (m.map g))=ltZ (zI l) (zI m)
 |[],[],_=>rfl
 |[],_::_,_=>rfl
 |_::_,[],_=>rfl
 |a::l,b::m,h=>by
  obtain⟨h1,h2⟩:=h a Aq b Aq;have ih:=Tx (l:=l) (m:=m) λx hx y hy=>h x (Ao _ hx) y (Ao _ hy)
  show (if ((g a:Nat):Int)=((g b:Nat):Int) then ltZ (zI (l.map g)) (zI (m.map g)) else decide (((g a:Nat):Int)<((g b:Nat):Int)))=(if ((a:Nat):Int)=((b:Nat):Int) then ltZ (zI l) (zI m) else decide (((a:Nat):Int)<((b:Nat):Int)))
  by_cases e:a=b
  .rw[if_pos (by have:=h1.mp e;omega),if_pos (by omega),ih]
  .rw[if_neg (λz=>e (h1.mpr (by omega))),if_neg (by omega)]
   exact Cj.mpr ⟨λz=>by have:=h2.mpr (by omega);omega,λz=>by have:=h2.mp (by omega);omega⟩
def NI{g:Nat->Nat}{m:List Nat}(h:∀a∈l,∀b∈m,(a=b ↔ g a=g b)/\(a<b ↔ g a<g b)):vU (zI (l.map g)) (zI (m.map g))=vU (zI l) (zI m):=by
 unfold vU;rw[Tx h];unfold zI;simp only[List.length_map]
def lO{f g:Nat->List (List Nat)}:∀ {L:List Nat},(∀x∈L,f x=g x)->L.flatMap f=L.flatMap g
 |[],_=>rfl
 |x::r,h=>by rw[Eu,Eu,h x Aq,lO λy hy=>h y (Ao _ hy)]
def tE(g:Nat->Nat):∀(m:Nat) (ks:List Nat),cI (ks.map g) m=(cI ks m).map λl=>l.map g
 |0,ks=>by rw[eO,eO];rfl
 |m+1,ks=>by
  rw[eP,eP,Ab,List.map_flatMap];refine lO λj hj=>?_;have hj':=By.mp hj
  rw[<-List.map_drop,tE g m,Bu,Bu];refine Bw λl _=>?_;show (ks.map g).getD j 0::l.map g=g (ks.getD j 0)::l.map g
  rw[Ac,Ac,Af,Aa hj'];rfl
def Ld(g:Nat->Nat)(os:List Nat):bN (os.map g)=(bN os).map λl=>l.map g:=by
 unfold bN;rw[Ab,List.map_flatMap];exact lO λm _=>tE g m os
def LR:Bool:=(List.range 6).all λn=>zQ ((cO (List.range n)).map zI)&&((lH ((cO (List.range n)).map zI)).map λi=>(cO (List.range n)).getD i [])==bN (List.range n)
def JD:LR=true:=by decide +kernel
def Mm(h5:os.length<=5)(hr:os.Pairwise (· < ·)):zQ ((cO os).map zI)=true/\((lH ((cO os).map zI)).map λi=>(cO os).getD i [])=bN os:=by
 have h0:=Ci.mp JD os.length (By.mpr (by omega))
 rw[Fc,Gw]at h0;have eo:os=(List.range os.length).map λi=>os.getD i 0:=by
  refine List.ext_getElem (by rw[Ab,Bm]) λi h1 h2=>?_
  rw[List.getElem_map,List.getElem_range,Ac,Aa h1];rfl
 have ed:cO os=(cO (List.range os.length)).map λl=>l.map λi=>os.getD i 0:=by
  conv=>lhs;rw[eo]
  rw[OF]
 have es:bN os=(bN (List.range os.length)).map λl=>l.map λi=>os.getD i 0:=by
  conv=>lhs;rw[eo]
  rw[Ld]
 have gd:∀i,(cO os).getD i []=((cO (List.range os.length)).getD i []).map λi=>os.getD i 0:=λi=>by
  rw[ed,Ac,Ac,Af];cases (cO (List.range os.length))[i]? <;> rfl
 have gz:∀(L:Q6) i,(L.map zI).getD i []=zI (L.getD i []):=λL i=>by
  rw[Ac,Ac,Af];cases L[i]? <;> rfl
 have lt:∀i,∀x∈(cO (List.range os.length)).getD i [],x<os.length:=λi x hx=>by
  rw[Ac]at hx;cases e:(cO (List.range os.length))[i]? with
  |none=>rw[e]at hx;cases hx
  |some l=>
   rw[e]at hx;exact By.mp (Lh _ l (Ah e) x hx)
 have mono:∀a b,a<os.length->b<os.length->(a=b ↔ os.getD a 0=os.getD b 0)/\(a<b ↔ os.getD a 0<os.getD b 0):=λa b ha hb=>by
  have key:∀ {a b},a<os.length->b<os.length->a<b->os.getD a 0<os.getD b 0:=fun {a b} ha hb h=>by
   rw[Ac,Ac,Aa ha,Aa hb];exact List.pairwise_iff_getElem.mp hr a b ha hb h
  rcases Nat.lt_trichotomy a b with z|z|z
  .have:=key ha hb z
   exact⟨⟨λe=>by omega,λe=>by omega⟩,⟨λ_=>this,λ_=>z⟩⟩
  .subst z;exact⟨⟨λ_=>rfl,λ_=>rfl⟩,⟨λe=>by omega,λe=>by omega⟩⟩
  .have:=key hb ha z
   exact⟨⟨λe=>by omega,λe=>by omega⟩,⟨λe=>by omega,λe=>by omega⟩⟩
 have el:WV ((cO os).map zI)=WV ((cO (List.range os.length)).map zI):=by
  funext i j
  unfold WV;rw[gz,gz,gz,gz,gd,gd];exact NI λa ha b hb=>mono a b (lt i a ha) (lt j b hb)
 have ll:((cO os).map zI).length=((cO (List.range os.length)).map zI).length:=by rw[Ab,Ab,ed,Ab]
 have eord:lH ((cO os).map zI)=lH ((cO (List.range os.length)).map zI):=by
  unfold lH;rw[el,ll]
 refine⟨?_,?_⟩
 .have:=h0.1
  unfold zQ at this ⊢;rw[eord,el,ll];exact this
 .rw[eord,es,<-h0.2,Bu];exact Bw λi _=>gd i
def oZ(Pt:Addr):Sp:=λvs H Q _=>∃(b:Addr) (os:List Nat),vs=[.ref b]/\Z8 H b=some (os.map λk=>V.int ((k:Nat):Int))/\os.length<=5/\os.Pairwise (· < ·)/\yK Pt H/\
 ∀(D:Addr) (ps:List Addr) (H':Hp),ZY Pt H H'->yK Pt H'->H D=none->H' D=some (.lst (ps.map V.ref))->ps.length=(bN os).length->(∀(i:Nat) p l,ps[i]?=some p->(bN os)[i]?=some l->Z8 H' p=some (l.map λk=>V.int ((k:Nat):Int)))->Q (.ref D) H'
def o0:Z9 ["_law_numbers", "_law_some", "_law_number"] ["_law_numbers"] (aJ gQ):=by fail "sc"
def NB{c:Addr}(F:ZR K "_law_sets" "_law_sets" gQ f fd)(hfc:fd.code=.ref c)(LB:Yz mg base c Pt):Z4 P w K mg base ZO 1 f fd ["_law_numbers"] (oZ Pt):=by
 refine F.Qx hfc o0 (λvs H Q E h=>?_) (λcdv A outer s H vs Q E hcdv hr h=>?_)
 .obtain⟨b,os,rfl,_⟩:=h;rfl
 obtain⟨b,os,rfl,hb,h5,hri,lam,q⟩:=h;refine⟨_,(@aE _ _ _ _ _ (aO 1 o0.nd (bL (aA (bL aB) aB))) (@aE _ _ _ _ _ (bU Bf rfl (bP (mv 0)) (aQ (i:=2) o0.nd rfl (Or.inr rfl)) (@aH _ _ _ (aO 1 o0.nd (aX bS (mv 1) (bW rfl (bP (mv 1)) (dF (N:=["_law_one", "_law_number"]) ["_law_numbers", "_law_some", "_law_number"] (aJ gQ) [none,some 2] rfl rfl rfl (λx h=>bJ h) (by decide +kernel)) (by decide +kernel) rfl (by decide +kernel) (λ_ _ _ _=>(aQ (i:=0) (show List.Nodup (["_law_one", "_law_number"]:List Str) by decide +kernel) rfl (Or.inl rfl))) (λ_ _ _ _=>cW) (λ_ _ _ _=>(aX bS (mv 0) (bL (aA (mv 1) aB))))))))) (@aH _ _ _ (aR (Lg rfl hr.units (MC hr) rfl G.b_sorted (aA (mv 1) aB) hcdv LB (Lm (N:=["_law_one"]) (x := "_law_one") ["_law_numbers", "_law_some", "_law_number"] (aJ gQ) [] rfl rfl (λx h=>bJ h) (by decide +kernel)) (λA f c' s₀ H₀=>(lB (aA (aU cS rfl G.b_len cC (aA (mv 0) aB)) (aA (mv 0) aB)))) rfl rfl rfl rfl (by decide +kernel) (λ_ _ _ _ _=>rfl)))))),?_⟩
 fail "g";refine⟨by decide,λp0 hp0=>?_⟩
 have s1:=aF hp0 (.lst [])
 have e1:(upd H p0 (.lst [])) p0=some (.lst ((([]:List Nat)).map λk=>V.int ((k:Nat):Int))):=aD
 generalize upd H p0 (.lst [])=H1 at s1 e1 ⊢;fail "g";refine⟨za0,λr0 hr0=>?_⟩
 have s2:=aF hr0 (.lst [.ref p0])
 have e2:(upd H1 r0 (.lst [.ref p0])) r0=some (.lst ([p0].map V.ref)):=aD
 have e12:=s2 _ _ e1
 generalize upd H1 r0 (.lst [.ref p0])=H2 at s2 e2 e12 ⊢;have s02:=s1.trans s2
 have hb2:=aG s02 hb
 fail "g";refine cP (xs:=(os.map λk=>V.int ((k:Nat):Int))) (λi U H'=>∃(sl:Addr) (ps:List Addr) (v2:Option V),U=[some (.ref b),some (.ref sl),v2]/\Z_ H H'/\H' sl=some (.lst (ps.map V.ref))/\ps.length=(cO (os.take i)).length/\∀(j:Nat) p l,ps[j]?=some p->(cO (os.take i))[j]?=some l->H' p=some (.lst (l.map λk=>V.int ((k:Nat):Int))))
  ⟨r0,[p0],_,rfl,s02,e2,rfl,λj p l hp hl=>by
   match j,hp,hl with
   |0,hp,hl=>cases hp;cases hl;exact e12
   |j+1,hp,_=>cases hp⟩ (λi U H' _ ⟨_,_,_,_,e,_⟩=>aG e hb) ?_ ?_
 .rintro i x U H3 hx ⟨sl,ps,v2,rfl,s3,e3,hpl,hps⟩;obtain⟨k,hk,rfl⟩:=fH hx;have hi:i<os.length:=(Ad.mp hk).1
  have rs3:=aL e3
  have hdl:(cO (os.take i)).length<=16:=by
   rw[zA,Bt];exact Bd (Fj (by decide) (show min i os.length<=4 by omega)) (by decide)
  have tk:os.take (i+1)=os.take i++[k]:=by rw[Be,hk];rfl
  fail "g";refine Tz (λj=>(((cO (os.take i)).getD j []++[k]).map λk=>V.int ((k:Nat):Int))) rs3 (by rw[Ab];exact aY (by omega)) (λj x Hc A B hx sm hA=>?_) (λD Hd us hD sd eD hul lu nu=>?_)
  .obtain⟨u,eu,rfl⟩:=lJ hx;have hj:j<(cO (os.take i)).length:=by rw[<-hpl];exact(Ad.mp eu).1
   have el:=Aa hj
   have hu:=sm _ _ (hps j u _ eu el)
   have hgl:(cO (os.take i)).getD j []=(cO (os.take i))[j]:=by rw[Ac,el];rfl
   rw[hgl]at hA;have hll:((cO (os.take i))[j]).length<=5:=by
    have:=(MP (os.take i) _ (Bo hj))
    rw[Bt]at this;omega
   fail "g";refine⟨Wk.set rfl (Wk.refl _),?_⟩;fail "g";refine⟨za0,λp6 hp6=>?_⟩
   have s6:=aF hp6 (.lst [V.int ((k:Nat):Int)])
   have e6:(upd Hc p6 (.lst [V.int ((k:Nat):Int)])) p6=some (.lst [V.int ((k:Nat):Int)]):=aD
   have hu6:=s6 _ _ hu
   generalize upd Hc p6 (.lst [V.int ((k:Nat):Int)])=H6 at s6 e6 hu6 ⊢;refine eM (aZ hu6) (aZ e6) (bE (by rw[Ab];show _+1<=_;omega)) λp7 hp7=>?_
   exact hA p7 _ (bK s6 hp7) (s6.trans (aF hp7 _)) (by rw[aD,Aj];rfl)
  .have hus:us.length=(cO (os.take i)).length:=by rw[lu.1,Ab,Bm,Ab,hpl]
   refine eM (aZ (sd _ _ e3)) (aZ eD) (bE (by rw[Ab,Ab];omega)) λp8 hp8=>?_
   have k8:=aF hp8 (.lst (ps.map V.ref++us.map V.ref))
   have s38:=sd.trans k8
   refine⟨p8,ps++us,_,rfl,s3.trans s38,by rw[aD,Aj],by rw[tk,eK,Ak,Ak,Ab,hpl,hus],λj p l hp hl=>?_⟩
   rw[tk,eK]at hl;rcases Nat.lt_or_ge j ps.length with z|z
   .rw[Au z]at hp;rw[Au (by omega)]at hl
    exact s38 _ _ (hps j p l hp hl)
   .rw[Aw z]at hp;rw[Aw (by omega),<-hpl]at hl
    rw[Af]at hl;obtain⟨l0,el0,rfl⟩:=Cu.mp hl;have hj:j-ps.length<(cO (os.take i)).length:=(Ad.mp el0).1
    have:=(lu.2 (j-ps.length) p (((cO (os.take i)).getD (j-ps.length) []++[k]).map λk=>V.int ((k:Nat):Int)) hp (by rw[Af,Fl (by rw[Ab];omega)];rfl)).2
    rw[Ac,el0]at this;exact k8 _ _ this
 .rintro U H3 ⟨sl,ps,v2,rfl,s3,e3,hpl,hps⟩;rw [cY,Br] at hpl;simp only [cY,List.take_length] at hps;obtain ⟨ok1,ok2⟩:=Mm h5 hri;have hdl:(cO os).length<=32:=by
   rw[zA];exact Bd (Fj (by decide) h5) (by decide)
  fail "g";refine JL ?_;fail "g";refine⟨sl,ps,(cO os).map zI,rfl,aL e3,by rw[Ab];exact hpl,λi r k hr' hk'=>?_,by omega,ok1,lam.keep s3,λH4 hrd i r k hr' hk'=>?_,λD H4 sP l4 hD eD=>?_⟩
  .rw[Af]at hk';obtain⟨l,el,rfl⟩:=Cu.mp hk';rw[Vm];exact aL (hps i r l hr' el)
  .rw[Af]at hk';obtain⟨l,el,rfl⟩:=Cu.mp hk';have r4:=hrd r _ (aL (hps i r l hr' el))
   fail "g";exact⟨za1,λp hp=>⟨p,rfl,hp,by rw[Ab];unfold zI;rw[Ab]⟩⟩
  .refine q D ((lH ((cO os).map zI)).map λi=>ps.getD i 0) H4 ((Z_.p s3).trans sP) l4 (bK s3 hD) (by rw[eD,Bu];rfl) (by rw[Ab,<-ok2,Ab]) λi p l hp hl=>?_
   rw[Af]at hp;obtain⟨j,ej,rfl⟩:=Cu.mp hp;rw[<-ok2,Af,ej]at hl;cases hl;have hj:j<(cO os).length:=by
    simp only[zQ,Bool.and_eq_true,List.all_eq_true,decide_eq_true_eq]at ok1;have:=ok1.1.2 j (Ah ej)
    rw[Ab]at this;exact this
   have hp1:=Aa (show j<ps.length by omega)
   have hd1:=Aa hj
   show Z8 H4 (ps.getD j 0)=some (((cO os).getD j []).map λk=>V.int ((k:Nat):Int))
   rw[Ac,hp1,Ac,hd1];exact yH sP (aL (hps j _ _ hp1 hd1)) (lam.keep s3).tb
def ZX(f:Nat->Option Int):Prop:=∀c,(f c).isSome=true->fP c
def ZX.put{f:Nat->Option Int}{x:Int}(h:ZX f)(hd:fP d):ZX (λe=>if e=d then some x else f e):=λc hc=>by
 by_cases e:c=d
 .rw[e];exact hd
 .dsimp only at hc;rw[if_neg e]at hc;exact h c hc
def cF(hs:List (Option (List Nat)))(n:Nat):List Nat:=(hs.getD n none).getD []
def zB(ok:dY hs)(n:Nat):(cF hs n).length<=7:=by
 unfold cF;cases e:hs.getD n none with
 |none=>exact Cs _
 |some cs=>
  have hm:some cs∈hs:=by
   rw[Ac]at e;cases e2:hs[n]? with
   |none=>rw[e2]at e;cases e
   |some h=>
    rw[e2]at e;rw[<-show h=some cs from e];exact Ah e2
  have h7:=dX (ok cs hm)
  rw[Ab]at h7;exact h7.2
def Qz{U:St}(hv:Y_ H1 v h)(q:∀p H2,Z_ H1 H2->Z8 H2 p=some (((h.getD []).map one).map V.str)->Q (.ref p) H2):(v=.non/\Wh uY U H1 Q)\/∃(p:Addr) (xs:List V),v=.ref p/\Z8 H1 p=some xs/\(xs≠[]->Q (.ref p) H1)/\(xs=[]->Wh uY U H1 Q):=by
 have e0:h.getD []=[]->Wh uY U H1 Q:=λe=>⟨Cs _,λp hp=>q p _ (aF hp _) (by rw[e];exact dA)⟩
 cases h with
 |none=>exact .inl ⟨hv,e0 rfl⟩
 |some cs=>
  obtain⟨p,e,hp⟩:=hv;exact .inr ⟨p,_,e,aL hp,λ_=>q p H1 (Z_.refl _) (aL hp),λz=>e0 (by cases cs with|nil=>rfl|cons a r=>cases z)⟩
def Pc{f:Nat->Option Int}{c:Nat}{x:Int}:aP (λe=>if e=d then some x else f e) c=if c=d then x else aP f c:=by
 unfold aP;dsimp only;by_cases e:c=d
 .rw[if_pos e,if_pos e];rfl
 .rw[if_neg e,if_neg e]
def mZ(xs ys:List Nat)(c:Nat):cnt (xs++ys) c=cnt xs c+cnt ys c:=by
 unfold cnt;rw[Gx];exact Int.natCast_add ..
def mS{c:Nat}(h:c∉cs):cnt cs c=0:=by
 unfold cnt;rw[List.countP_eq_zero.mpr λx hx z=>h (by rw[<-eq_of_beq z];exact hx)]
 rfl
def jV(h:((F.map one).map V.str)[i]?=some x):∃c,F[i]?=some c/\x=V.str (one c):=by
 rw[Af,Af]at h;cases e:F[i]? with
 |none=>rw[e]at h;cases h
 |some c=>rw[e]at h;cases h;exact⟨c,rfl,rfl⟩
def SX(ok:dY hs)(h:d∈cF hs k):fP d:=by
 unfold cF at h;cases e:hs.getD k none with
 |none=>rw[e]at h;cases h
 |some cs=>
  rw[e]at h;have hm:some cs∈hs:=by
   rw[Ac]at e;cases e2:hs[k]? with
   |none=>rw[e2]at e;cases e
   |some h=>
    rw[e2]at e;rw[<-show h=some cs from e];exact Ah e2
  obtain⟨i,hi⟩:=Cq.mp (show d∈cs from h);obtain⟨c',e1,_,hcc⟩:=iD (ok cs hm) (i:=i) (z:=one d) (by rw[Af,hi];rfl)
  rw[<-one_inj.mp e1]at hcc;exact hcc.imp id And.left
def Jl:Option (List Nat)->Option (List Nat)->Prop
 |none,none=>True
 |some cs,some cw=>Hg cw cs/\1<=cw.length/\cw.length<=7/\∀d∈cw,bY d
 |_,_=>False
def Nu{o:Nat}(e:o≠k):(hs.set o h).getD k none=hs.getD k none:=by
 rw[Ac,Dd e,<-Ac]
def Mo{o:Nat}(e:o<hs.length):(hs.set o h).getD o none=h:=by
 rw[Ac,Di e];rfl
def Rp(hk:k<hs.length)(c:Nat):∀m,cnt (aS (hs.set k h) (List.range m)) c=cnt (aS hs (List.range m)) c+if k<m then cnt (h.getD []) c-cnt (cF hs k) c else 0
 |0=>rfl
 |m+1=>by
  have e:∀(g:Q4),aS g [m]=cF g m:=λg=>Bq _
  rw[Cm,kA,kA,mZ,mZ,Rp hk c m,e,e];by_cases q:k=m
  .subst q;rw[if_neg (Cy _),if_pos (Nat.lt_succ_self _)];show _+cnt (((hs.set k h).getD k none).getD []) c=_
   rw[Mo hk];omega
  .have e2:cF (hs.set k h) m=cF hs m:=by unfold cF;rw[Nu q]
   rw[e2];by_cases l:k<m
   .rw[if_pos l,if_pos (by omega)];omega
   .rw[if_neg l,if_neg (by omega)];omega
def Qf(c:Nat):∀zs:List (Nat×List Nat),(zs.map (·.1)).Nodup->(∀z∈zs,z.1<hs.length)->cnt (aS (fA hs zs) (List.range hs.length)) c+cnt (aS hs (zs.map (·.1))) c=cnt (aS hs (List.range hs.length)) c+cnt (zs.map (·.2)).flatten c:=λzs=>by
 refine jM (p:=λzs=>(zs.map (·.1)).Nodup->(∀z∈zs,z.1<hs.length)->cnt (aS (fA hs zs) (List.range hs.length)) c+cnt (aS hs (zs.map (·.1))) c=cnt (aS hs (List.range hs.length)) c+cnt (zs.map (·.2)).flatten c) (λ_ _=>rfl) (λzs z ih nd hl=>?_) zs;rw[Aj,Ar,Fz]at nd;have hz:=hl z (Bk _ Aq)
 have i:=ih (Dc.mp nd).1 λw hw=>hl w (Cb _ hw)
 have hne:∀w∈zs,w.1≠z.1:=λw hw q=>(Dc.mp nd).2.2 w.1 (List.mem_map_of_mem hw) z.1 Aq q
 have e1:cF (fA hs zs) z.1=cF hs z.1:=by unfold cF;rw[qY hs _ hne]
 have e2:aS hs [z.1]=cF hs z.1:=Bq _
 rw[fM,Rp (by rw[dL];exact hz),if_pos hz,e1,List.map_append,List.map_append,kA,mZ,List.map_cons,List.map_nil,e2,List.flatten_append,mZ,show ([z].map (·.2)).flatten=z.2 by simp]
 show _+(cnt z.2 c-_)+_=_
 omega
def uU(f:Nat->Option Int)(hs:List (Option (List Nat)))(c:Nat):Int:=aP f c+cnt (aS hs (List.range hs.length)) c
def L5{f:Nat->Option Int}(h:ZX f){c:Nat}(hc:¬fP c):aP f c=0:=by
 unfold aP;cases e:f c with
 |none=>rfl
 |some x=>exact absurd (h c (by rw[e];rfl)) hc
def lN(ok:dY hs)(h:d∈aS hs ks):fP d:=by
 obtain⟨k,_,hk⟩:=Gq.mp h;exact SX ok hk
def xR{f:Nat->Option Int}{n:Nat}{gs:Q6}(hf0:∀c,0<=aP f c)(hfo:ZX f)(ok:dY hs)(hn:n<hs.length)(hks:ks.Sublist (aM hs n))(hg:Y8 (bG hs cw ks) gs)(hgf:∀g∈gs,∀c∈g,fP c)(hcnt:∀c,cnt gs.flatten c<=aP (fS f hs (n::ks)) c)(c:Nat):uU (bD λc=>aP (fS f hs (n::ks)) c-cnt gs.flatten c) (fA hs ((n::ks).zip gs)) c=uU f hs c:=by
 have hlen:(n::ks).length=gs.length:=by
  rw[hg.len];show _=(ks.map _).length+1
  rw[Ab];rfl
 have hlt:∀z∈(n::ks).zip gs,z.1<hs.length:=λz hz=>by
  rcases Az.mp (Ef hz).1 with e|e
  .rw[e];exact hn
  .exact(cN (hks.subset e)).1
 have e1:((n::ks).zip gs).map (·.1)=n::ks:=List.map_fst_zip (by rw[hlen];exact Ai _)
 have e2:((n::ks).zip gs).map (·.2)=gs:=List.map_snd_zip (by rw[hlen];exact Ai _)
 have r:=Qf c ((n::ks).zip gs) (by rw[e1];exact nS hks) hlt
 rw[e1,e2]at r;unfold uU;rw[dL];have h0:=hcnt c
 by_cases hc:fP c
 .have hp:aP (fS f hs (n::ks)) c=aP f c+cnt (aS hs (n::ks)) c:=dW (n:=λc=>aP f c+cnt (aS hs (n::ks)) c) hc (by have:=hf0 c;have:=fO (aS hs (n::ks)) c;show 0<=_+_;omega)
  rw[dW hc (by omega),hp]
  omega
 .rw [L5 hfo hc,mS λz=>hc (lN ok z)];have e3:aP (bD λc=>aP (fS f hs (n::ks)) c - cnt gs.flatten c) c=0:=by
   show (bD _ c).getD 0=0
   unfold bD;rw[if_neg λz=>hc z.1];rfl
  have e4:cnt (aS hs (n::ks)) c=0:=mS λz=>hc (lN ok z)
  have e5:cnt gs.flatten c=0:=mS λz=>by
   obtain⟨g,h1,h2⟩:=List.mem_flatten.mp z;exact hc (hgf g h1 c h2)
  have e6:cnt (aS hs (List.range hs.length)) c=0:=mS λz=>hc (lN ok z)
  rw[e3];omega
def iZ:Sp:=λvs H Q _=>∃c m:Int,vs=[.int c,.int m]/\0<=m/\m<=1000/\
 ∀(r:Addr) (ns:List Int) (H':Hp),H r=none->Z_ H H'->ns.length=m.toNat->(∀n∈ns,0<=n)->H' r=some (.lst (ns.map V.int))->Q (.ref r) H'
def oV(K:W.Frag):Sp:=λvs H Q _=>∃(a:Addr) (ns:List Int) (k:Int),vs=[.ref a,.int k]/\ZJ K H a (ns.map V.int)/\0<=k/\∀n:Int,Q (.int n) H
def Pl:Z9 ["_law_script", "_law_k"] ["_law_script", "_law_k"] (aJ rM):=by fail "sc"
def LF(F:ZR K "_law_cell" "_law_cell" rM f fd):Z4 P w K mg base ZO 1 f fd ["_law_script", "_law_k"] (oV K):=by
 refine F.ok Pl (λvs H Q E h=>?_) (λcdv A outer s H vs Q E hr h=>?_)
 .obtain⟨a,ns,k,rfl,_⟩:=h;rfl
 obtain⟨a,ns,k,rfl,hS,h0,q⟩:=h;refine⟨_,(@aE _ _ _ _ _ (bT (aW Wv (mv 1) (aU wG rfl G.b_len cC (aA (mv 0) aB)) (bC _)) (@aH _ _ _ (aR (bI Ye (mv 0) (mv 1) (λ_ _=>rfl)))) bA) (@aH _ _ _ (aR aK))),?_⟩;fail "g";refine⟨_,_,rfl,.inl hS,?_⟩;have hnl:(ns.map V.int).length=ns.length:=Ab ..
 rw[hnl];fail "g";refine gM (λhd=>?_) (λhd=>?_)
 .have hd':=Bi hd
  obtain⟨n,_,an⟩:=Ss (ns:=ns) (i:=k) h0 hd';fail "g";exact L8 hS an (q n)
 .fail "g";exact q 0
def u9:Z9 ["_law_cell_here", "_law_many", "_law_number", "_law_found", "_law_k"] ["_law_cell_here", "_law_many"] (aJ lX):=by fail "sc"
def wN(F:ZR K "_law_stream" "_law_stream" lX f fd):Z4 P w K mg base ZO 1 f fd ["_law_cell_here", "_law_many"] iZ:=by
 refine F.ok u9 (λvs H Q E h=>?_) (λcdv A outer s H vs Q E hr h=>?_)
 .obtain⟨c,m,rfl,_⟩:=h;rfl
 obtain⟨c,m,rfl,h0,h1,q⟩:=h;refine⟨_,(@aE _ _ _ _ _ (aO 2 u9.nd (aX bS (aX iY (mv 0) aK) aK)) (@aE _ _ _ _ _ (aO 3 u9.nd (bL aB)) (@aE _ _ _ _ _ (bU Bf rfl (dZ rfl G.b_range (aA (mv 1) aB)) (aQ (i:=4) u9.nd rfl (Or.inl rfl)) (@aE _ _ _ _ _ (aO 2 u9.nd (aX iY (aX bS (aX bS (aX bS (aX VC (mv 2) (mv 2)) (aX VC aK (mv 2))) (aX VC aK (mv 4))) aK) aK)) (@aH _ _ _ (cZ (dD Cc Em En xK (mv 3) (aA (aX uP (mv 2) aK) aB)))))) (@aH _ _ _ (aR (mv 3)))))),?_⟩;fail "g";refine⟨by decide,λp hp=>?_⟩
 fail "g";refine⟨⟨by omega,by omega⟩,?_⟩
 refine eY (λi U H'=>∃(x:Int) (ns:List Int) (v:Option V),U=[some (.int c),some (.int m),some (.int x),some (.ref p),v]/\0<=x/\x<2147531918/\ns.length=i/\(∀n∈ns,0<=n)/\H'=upd H p (.lst (ns.map V.int)))
  ⟨_,[],none,rfl,by omega,by omega,rfl,(λn hn=>nomatch hn),rfl⟩ ?_ ?_
 .rintro i U H' hi ⟨x,ns,v,rfl,hx0,hx1,hn,hns,rfl⟩;fail "g";refine⟨_,ns++[(x*x+48271*x+7*(0+(i:Int))+1)%2147483647 / 64],_,rfl,Ds _ (by decide),?_,?_,?_,?_⟩
  .have:=Df (x*x+48271*x+7*(0+(i:Int))+1) (show (0:Int)<2147483647 by decide)
   omega
  .rw[Ak,hn];rfl
  .intro n hn;rcases Bs.mp hn with z|z
   .exact hns n z
   .rw[Bc.mp z];have:=Ds (x*x+48271*x+7*(0+(i:Int))+1) (show (2147483647:Int)≠0 by decide)
    omega
  .rw[SA,Aj];rfl
 .rintro U H' ⟨x,ns,v,rfl,hx0,hx1,hn,hns,rfl⟩;fail "g";exact q p ns _ hp (aF hp _) hn hns aD
def Nj(g:Nat->Nat)(m:Nat):(List.range m).filterMap (λi=>some (V.str (one (g i))))=(((List.range m).map g).map one).map V.str:=by
 rw[Bu,Bu];exact List.filterMap_eq_map' (f:=λi=>V.str (one (g i)))▸rfl
def mU(K:W.Frag):Sp:=λvs H Q _=>∃(a:Addr) (ns:List Int),vs=[.ref a]/\ZJ K H a (ns.map V.int)/\
 ∀(r:Addr) (cs:List Nat) (H':Hp),H r=none->Z_ H H'->H' r=some (.lst ((cs.map one).map V.str))->2<=cs.length->cs.length<=5->(∀c∈cs,bY c)->Q (.ref r) H'
def j5:Z9 ["_law_script", "_law_cell_here", "_law_step"] ["_law_script"] (aJ gG):=by fail "sc"
def vS(F:ZR K "_law_letters" "_law_letters" gG f fd)(z8:ZP P w K mg base 1 "_law_cell" ["_law_script", "_law_k"] (oV K)):Z4 P w K mg base ZO 2 f fd ["_law_script"] (mU K):=by
 refine F.ok j5 (λvs H Q E h=>?_) (λcdv A outer s H vs Q E hr h=>?_)
 .obtain⟨a,ns,rfl,_⟩:=h;rfl
 obtain⟨a,ns,rfl,hS,q⟩:=h;refine⟨_,(@aE _ _ _ _ _ (aO 1 j5.nd (aV z8 hr (by decide) rfl (aA (mv 0) (aA aK aB)))) (@aE _ _ _ _ _ (aO 2 j5.nd (aX bS aK (aX iY (aX uP (mv 1) aK) aK))) (@aH _ _ _ (aR (bW rfl (dZ rfl G.b_range (aA (aX bS aK (aX iY (aX uP (mv 1) aK) aK)) aB)) (dF (N:=["_law_k", "_law_cell_here", "_law_step"]) ["_law_script", "_law_cell_here", "_law_step"] (aJ gG) [none,some 1,some 2] rfl rfl rfl (λx h=>bJ h) (by decide +kernel)) (by decide +kernel) rfl (by decide +kernel) (λ_ _ _ _=>(aQ (i:=0) (show List.Nodup (["_law_k", "_law_cell_here", "_law_step"]:List Str) by decide +kernel) rfl (Or.inl rfl))) (λ_ _ _ _=>cW) (λ_ _ _ _=>(bI cE gU (aX iY (aX bS (mv 1) (aX VC (mv 2) (mv 0))) aK) (λ_ _=>rfl)))))))),?_⟩
 fail "g";refine⟨a,ns,0,rfl,hS,by omega,λn=>?_⟩
 have z0:=Ds (n / 161) (show (4:Int)≠0 by decide)
 have z1:=Df (n / 161) (show (0:Int)<4 by decide)
 fail "g";generalize n / 161%4=u at z0 z1 ⊢;generalize 1+n / 23%7=st;refine⟨⟨by omega,by omega⟩,?_⟩
 refine Ny (λi=>some (V.str (one (97+((n+st*(0+(i:Int)))%23).toNat)))) (aY (by omega)) (λi Hc A B hi sm hA hB=>?_) (λD Hd hD sd hr=>?_)
 .have y0:=Ds (n+st*(0+(i:Int))) (show (23:Int)≠0 by decide)
  have y1:=Df (n+st*(0+(i:Int))) (show (0:Int)<23 by decide)
  have e1:=QX (k:=((n+st*(0+(i:Int)))%23).toNat) (by omega)
  rw[show ((((n+st*(0+(i:Int)))%23).toNat:Nat):Int)=(n+st*(0+(i:Int)))%23 by omega]at e1
  fail "g";refine⟨Wk.set rfl (Wk.refl _),?_⟩;fail "g";refine pJ (by decide) e1 ?_
  exact hA _ rfl _ (Z_.refl _)
 .rw[Nj]at hr;refine q D _ Hd hD sd hr (by rw[Ab,Bm];omega) (by rw[Ab,Bm];omega) λc hc=>?_
  obtain⟨i,_,rfl⟩:=Bg.mp hc;have y1:=Df (n+st*(0+(i:Int))) (show (0:Int)<23 by decide)
  have y0:=Ds (n+st*(0+(i:Int))) (show (23:Int)≠0 by decide)
  exact⟨by omega,by omega⟩
def tX:Sp:=λvs H Q _=>∃(c:Int) (b:Addr) (cs:List Nat) (m:Int),vs=[.int c,.ref b,.int m]/\Z8 H b=some ((cs.map one).map V.str)/\2<=cs.length/\cs.length<=5/\(∀c∈cs,bY c)/\1<=m/\m<=7/\
 ∀(cw:List Nat) (H':Hp),Z_ H H'->1<=cw.length->cw.length<=7->(∀d∈cw,bY d)->Q (.str (bB cw)) H'
def S3{cs:List Nat}{k:Nat}(hk:k<cs.length):Zc ((cs.map one).map V.str) ((k:Nat):Int)=some (.str (one (cs.getD k 0))):=by
 obtain⟨v,h1,h2⟩:=Uv (xs:=(cs.map one).map V.str) (i:=((k:Nat):Int)) (by omega) (by rw[Ab,Ab];omega)
 rw[Co,Af,Af,Aa hk]at h2;rw[h1,<-h2,Ac,Aa hk];rfl
def Qj(ms:List Int)(g:Int->Nat):(List.range ms.length).filterMap (λj=>(ms[j]?).map λn=>V.str (one (g n)))=((ms.map g).map one).map V.str:=by
 have h:∀n,n<=ms.length->(List.range n).filterMap (λj=>(ms[j]?).map λn=>V.str (one (g n)))=(((ms.take n).map g).map one).map V.str:=λn=>by
  induction n with
  |zero=>intro _;rfl
  |succ n ih=>
   intro hn;have e:ms[n]?=some ms[n]:=Aa (by omega)
   rw[cU (y:=V.str (one (g ms[n]))) (by rw[e];rfl),ih (by omega),Be,e,Aj,Aj,Aj]
   rfl
 have r:=h ms.length (Ai _)
 rwa [Br]at r
def LI(ds:List Nat):(((ds.map one).map (·.length)).sum)=ds.length:=by
 induction ds with
 |nil=>rfl
 |cons d r ih=>rw[Ar,Ar,Cw,ih,Av];show 1+_=_;omega
def f7:Z9 ["_law_cell_here", "_law_letters_here", "_law_most", "_law_some"] ["_law_cell_here", "_law_letters_here", "_law_most"] (aJ nG):=by fail "sc"
def MR(F:ZR K "_law_word" "_law_word" nG f fd)(w4:ZP P w K mg base 1 "_law_stream" ["_law_cell_here", "_law_many"] iZ):Z4 P w K mg base ZO 2 f fd ["_law_cell_here", "_law_letters_here", "_law_most"] tX:=by
 refine F.ok f7 (λvs H Q E h=>?_) (λcdv A outer s H vs Q E hr h=>?_)
 .obtain⟨c,b,cs,m,rfl,_⟩:=h;rfl
 obtain⟨c,b,cs,m,rfl,hb,h2,h5,hL,hm1,hm7,q⟩:=h;refine⟨_,(@aE _ _ _ _ _ (aO 3 f7.nd (aV w4 hr (by decide) rfl (aA (mv 0) (aA (aX bS (mv 2) aK) aB)))) (@aH _ _ _ (aR (dD PySem.F.plainAttrs_str PySem.F.slot_str_join PySem.F.type_str_join J9 gU (aA (bW rfl (bP (mO VZ (mv 3) uZ (nH (aX bS aK (aX iY (bI cE (mv 3) (mv 2) (λ_ _=>rfl)) (mv 2)))))) (dF (N:=["_law_number", "_law_letters_here"]) ["_law_cell_here", "_law_letters_here", "_law_most", "_law_some"] (aJ nG) [none,some 1] rfl rfl rfl (λx h=>bJ h) (by decide +kernel)) (by decide +kernel) rfl (by decide +kernel) (λ_ _ _ _=>(aQ (i:=0) (show List.Nodup (["_law_number", "_law_letters_here"]:List Str) by decide +kernel) rfl (Or.inl rfl))) (λ_ _ _ _=>cW) (λ_ _ _ _=>(bI cE (mv 1) (aX iY (mv 0) (aU cS rfl G.b_len cC (aA (mv 1) aB))) (λ_ _=>rfl)))) aB))))),?_⟩
 have hcl:((cs.map one).map V.str).length=cs.length:=by rw[Ab,Ab]
 fail "g";refine⟨c,m+1,rfl,by omega,by omega,λr ns H1 hr1 s1 hl hp he=>?_⟩
 have hlr:Z8 H1 r=some (ns.map V.int):=aL he
 obtain⟨nm,im,am⟩:=Ss (ns:=ns) (i:=m) (by omega) (by omega)
 have z0:=Ds nm (show m≠0 by omega)
 have z1:=Df nm (show 0<m by omega)
 have hb1:=aG s1 hb
 fail "g";refine cL hlr am ?_;fail "g";generalize nm%m=u at z0 z1 ⊢;intro r2 hr2;rw[Ku (by omega),<-List.map_take]
 have hml:(ns.take (1+u).toNat).length=(1+u).toNat:=by rw[Bt];omega
 generalize ns.take (1+u).toNat=ms at hml ⊢;have s2:=aF hr2 (.lst (ms.map V.int))
 have e2:Z8 (upd H1 r2 (.lst (ms.map V.int))) r2=some (ms.map V.int):=dA
 generalize upd H1 r2 (.lst (ms.map V.int))=H2 at s2 e2 ⊢;have hb2:=aG s2 hb1
 fail "g";refine fV (λj=>(ms[j]?).map λn=>V.str (one (cs.getD (n%(cs.length:Int)).toNat 0))) e2 (aY (by rw[Ab];omega)) (λj x Hc A B hx sm hA hB=>?_) (λD Hd hD sd hr=>?_)
 .obtain ⟨n,hn,rfl⟩:∃ n,ms[j]?=some n/\x=.int n:=by
   rw[Af]at hx;cases e:ms[j]? with
   |none=>rw[e]at hx;cases hx
   |some n=>rw[e]at hx;cases hx;exact⟨n,rfl,rfl⟩
  have y0:=Ds n (show (cs.length:Int)≠0 by omega)
  have y1:=Df n (show (0:Int)<(cs.length:Int) by omega)
  have hbc:=aG sm hb2
  have e1:=S3 (cs:=cs) (k:=(n%(cs.length:Int)).toNat) (by omega)
  rw[show (((n%(cs.length:Int)).toNat:Nat):Int)=n%(cs.length:Int) by omega]at e1
  fail "g";refine⟨Wk.set rfl (Wk.refl _),?_⟩;fail "g";rw[hcl];fail "g";refine cL hbc e1 ?_;exact hA _ (by rw[hn];rfl) _ (Z_.refl _)
 .rw[Ab,Qj]at hr;have hdl:(ms.map λn=>cs.getD (n%(cs.length:Int)).toNat 0).length=ms.length:=Ab ..
  have hdL:∀d∈ms.map λn=>cs.getD (n%(cs.length:Int)).toNat 0,bY d:=λd hd=>by
   obtain⟨n,_,rfl⟩:=Bg.mp hd;have y0:=Ds n (show (cs.length:Int)≠0 by omega)
   have y1:=Df n (show (0:Int)<(cs.length:Int) by omega)
   exact qJ hL (by omega)
  generalize (ms.map λn=>cs.getD (n%(cs.length:Int)).toNat 0)=ds at hr hdl hdL;fail "g";refine O5 (ss:=ds.map one) (aL hr) (by rw[LI,show (Str.ofString "").length=0 from rfl];omega) ?_
  rw[LD];exact q ds _ (s1.trans (s2.trans sd)) (by omega) (by omega) hdL
def pD:Sp:=λvs H Q _=>∃(c:Int) (b:Addr) (cs:List Nat) (m:Int),vs=[.int c,.ref b,.int m]/\H b=some (.lst ((cs.map one).map V.str))/\cs.length<=5/\(∀c∈cs,bY c)/\0<=m/\m<=7/\
 ∀(p:Addr) (kvs:List (Key×V)) (f:Nat->Option Int) (H':Hp),H p=none->Z_ H H'->H' p=some (.dK kvs)->Lk kvs f->kvs.length<=9->(∀c,0<=aP f c/\aP f c<=9)->ZX f->Q (.ref p) H'
def K6:[V.str (Str.ofString "1"),V.str (Str.ofString "2"),V.str (Str.ofString "3"),V.str (Str.ofString "4")]=(([49,50,51,52]:List Nat).map one).map V.str:=rfl
def N2(xs ys:List Nat):(xs.map one).map V.str++(ys.map one).map V.str=((xs++ys).map one).map V.str:=by rw[Aj,Aj]
def j6:Z9 ["_law_cell_here", "_law_letters_here", "_law_most", "_law_locker_here", "_law_flag", "_law_number"] ["_law_cell_here", "_law_letters_here", "_law_most"] (aJ lP):=by fail "sc"
def yG(F:ZR K "_law_locker" "_law_locker" lP f fd)(w4:ZP P w K mg base 1 "_law_stream" ["_law_cell_here", "_law_many"] iZ):Z4 P w K mg base ZO 2 f fd ["_law_cell_here", "_law_letters_here", "_law_most"] pD:=by
 refine F.ok j6 (λvs H Q E h=>?_) (λcdv A outer s H vs Q E hr h=>?_)
 .obtain⟨c,b,cs,m,rfl,_⟩:=h;rfl
 obtain⟨c,b,cs,m,rfl,hb,h5,hcs,hm0,hm7,q⟩:=h;refine⟨_,(@aE _ _ _ _ _ (aO 3 j6.nd qW) (@aE _ _ _ _ _ (bU Bf rfl (Um rfl G.b_zip (aA (aX bS (mv 1) (@bL _ _ _ _ (@qG _ _ _ _ _ _ (@qG _ _ _ _ _ _ (@qG _ _ _ _ _ _ (@qG _ _ _ _ _ _ aB)))))) (aA (aV w4 hr (by decide) rfl (aA (mv 0) (aA (aX bS (aU cS rfl G.b_len cC (aA (mv 1) aB)) aK) aB))) aB))) (hJ (K:=K) (i:=4) (j:=5) (by rfl) (by rfl) j6.nd (by rfl) (by exact(Or.inl rfl)) (by exact Or.inl rfl) (by rfl) (by exact(Or.inl rfl)) (by exact Or.inl rfl)) (@aH _ _ _ (bT (aW Wc (aX iY (mv 5) (aX bS (mv 2) aK)) aK (bC _)) (@aH _ _ _ (fG (Z5.u1 hr) (mv 3) (mv 4) (aX kQ (aX iY (mv 5) (aX bS (mv 2) aK)) aK) rfl)) bA))) (@aH _ _ _ (aR (mv 3))))),?_⟩
 have hcl:((cs.map one).map V.str).length=cs.length:=by rw[Ab,Ab]
 fail "g";intro pd hpd;have s1:=aF hpd (HO.dK [])
 have e1:(upd H pd (HO.dK [])) pd=some (.dK []):=aD
 generalize upd H pd (HO.dK [])=H1 at s1 e1 ⊢;fail "g";refine⟨by show 4<=sizeLine;decide,λp2 hp2=>?_⟩
 rw[K6];have s2:=s1.trans (aF hp2 (.lst ((([49,50,51,52]:List Nat).map one).map V.str)))
 have e2:(upd H1 p2 (.lst ((([49,50,51,52]:List Nat).map one).map V.str))) p2=some (.lst ((([49,50,51,52]:List Nat).map one).map V.str)):=aD
 have ed2:=aF hp2 (.lst ((([49,50,51,52]:List Nat).map one).map V.str)) _ _ e1
 generalize upd H1 p2 (.lst ((([49,50,51,52]:List Nat).map one).map V.str))=H2 at s2 e2 ed2 ⊢;refine eM (aZ (s2 _ _ hb)) (aZ e2) (bE (by rw[hcl];show _+4<=_;omega)) λp3 hp3=>?_
 rw[N2];have s3:=s2.trans (aF hp3 (.lst (((cs++[49,50,51,52]).map one).map V.str)))
 have e3:(upd H2 p3 (.lst (((cs++[49,50,51,52]).map one).map V.str))) p3=some (.lst (((cs++[49,50,51,52]).map one).map V.str)):=aD
 have ed3:=aF hp3 (.lst (((cs++[49,50,51,52]).map one).map V.str)) _ _ ed2
 generalize upd H2 p3 (.lst (((cs++[49,50,51,52]).map one).map V.str))=H3 at s3 e3 ed3 ⊢;have rb3:=aG s3 (aL hb)
 fail "g";rw[hcl];refine⟨c,_,rfl,by omega,by omega,λr ns H4 hr4 s4 hl hp he=>?_⟩
 have hnl:ns.length=cs.length+4:=by omega
 have e34:=s4 _ _ e3
 have ed4:=s4 _ _ ed3
 have r34:=aL e34
 have rr4:=aL he
 have np3:p3≠pd:=λz=>by rw[z,ed2]at hp3;cases hp3
 have nrd:r≠pd:=λz=>by rw[z,ed3]at hr4;cases hr4
 fail "g";refine Ul (xs:=((cs++[49,50,51,52]).map one).map V.str) (ys:=ns.map V.int) (λi U H'=>∃(kvs:List (Key×V)) (f:Nat->Option Int) (v4 v5:Option V),U=[some (.int c),some (.ref b),some (.int m),some (.ref pd),v4,v5]/\Z_ H H'/\H' p3=some (.lst (((cs++[49,50,51,52]).map one).map V.str))/\H' r=some (.lst (ns.map V.int))/\H' pd=some (.dK kvs)/\Lk kvs f/\kvs.length<=i/\(∀c,0<=aP f c/\aP f c<=9)/\ZX f)
  ⟨[],_,_,_,rfl,s3.trans s4,e34,he,ed4,.nil,Ai _,(λc=>⟨Hq _,(by decide:(0:Int)<=9)⟩),λc hc=>nomatch hc⟩ (λi U H' _ _ ⟨_,_,_,_,_,_,x,y,_⟩=>⟨aL x,aL y⟩) ?_ ?_
 .rintro i x y U H5 pt hx hy ⟨kvs,f,v4,v5,rfl,s5,ea5,eb5,ed5,lk,hkl,hf,hfo⟩ hpt;obtain⟨d,hd,rfl⟩:=jV hx;obtain⟨n,hnm,rfl⟩:=OJ hy;have hi9:i<9:=by have:=(Ad.mp hd).1;rw[Ak]at this;have:i<cs.length+4:=this;omega
  have hn0:=hp n hnm
  have hdf:fP d:=by
   rcases Bs.mp (Ah hd) with z|z
   .exact .inl (hcs d z)
   .right;simp only[List.mem_cons,List.not_mem_nil,or_false]at z;unfold cX;omega
  have y0:=Ds n (show m+2≠0 by omega)
  have y1:=Df n (show 0<m+2 by omega)
  have s6:=s5.trans (aF hpt (.tup [.str (one d),.int n]))
  have k6:=aF hpt (.tup [.str (one d),.int n])
  have et6:(upd H5 pt (.tup [.str (one d),.int n])) pt=some (.tup [.str (one d),.int n]):=aD
  generalize upd H5 pt (.tup [.str (one d),.int n])=H6 at s6 k6 et6 ⊢;have tt6:=eU et6
  have ed6:=k6 _ _ ed5
  obtain⟨u,hu⟩:∃u,n%(m+2)=u:=⟨_,rfl⟩;rw[hu]at y0 y1;fail "g";rw[hu];refine gM (λhd'=>?_) (λhd'=>?_)
  .have hu0:=Bi hd'
   fail "g";rw[hu];refine iI (z:=one d) ed6 (aY (by omega)) ?_
   refine⟨_,_,_,_,rfl,bF hpd s6,by rw[aI np3];exact k6 _ _ ea5,by rw[aI nrd];exact k6 _ _ eb5,aD,lk.put d _,?_,λc=>?_,hfo.put hdf⟩
   .have:=fD kvs (Sum.inr (one d)) (.int (u-1))
    omega
   .show 0<=((if c=d then some (u-1) else f c):Option Int).getD 0/\((if c=d then some (u-1) else f c):Option Int).getD 0<=9
    by_cases z:c=d
    .rw[if_pos z];show 0<=u-1/\u-1<=9
     omega
    .rw[if_neg z];exact hf c
  .fail "g";exact⟨kvs,f,_,_,rfl,s6,k6 _ _ ea5,k6 _ _ eb5,ed6,lk,by omega,hf,hfo⟩
 .rintro U H5 ⟨kvs,f,v4,v5,rfl,s5,ea5,eb5,ed5,lk,hkl,hf,hfo⟩;rw[Ab,Ab,Ab,Ak,hnl]at hkl;have hkl:kvs.length<=min (cs.length+4) (cs.length+4):=hkl
  fail "g";exact q pd kvs f H5 hpd s5 ed5 lk (by omega) hf hfo
def gY:Sp:=λvs H Q _=>∃(cw:List Nat) (k:Nat) (p:Int),vs=[.str (bB cw),.int p]/\p=(k:Int)+1/\k<cw.length/\cw.length<=7/\
 ∀(r:Addr) (H':Hp),H r=none->Z_ H H'->H' r=some (.lst (((Yp cw k).map one).map V.str))->Q (.ref r) H'
def Qr:∀n:Nat,n<4->Str.ofString (toString (1+(n:Int)))=one (49+n)
 |0,_=>by decide +kernel
 |1,_=>by decide +kernel
 |2,_=>by decide +kernel
 |3,_=>by decide +kernel
 |n+4,h=>absurd h (by omega)
def j7:Z9 ["_law_word_here", "_law_place", "_law_found", "_law_n"] ["_law_word_here", "_law_place"] (aJ jL):=by fail "sc"
def wD(F:ZR K "_law_choices" "_law_choices" jL f fd):Z4 P w K mg base ZO 1 f fd ["_law_word_here", "_law_place"] gY:=by
 refine F.ok j7 (λvs H Q E h=>?_) (λcdv A outer s H vs Q E hr h=>?_)
 .obtain⟨cw,k,p,rfl,_⟩:=h;rfl
 obtain⟨cw,k,pl,rfl,hpl,hk,h7,q⟩:=h;refine⟨_,(@aE _ _ _ _ _ (aO 2 j7.nd (bL (aA (bI cE (mv 0) (aX kQ (mv 1) aK) (λ_ _=>rfl)) aB))) (@aE _ _ _ _ _ (bU Bf rfl (oH rfl G.b_range (aA aK (aA (aU (LO rfl) rfl G.b_min NC (aA (mv 1) (aA aK aB))) aB))) (aQ (i:=3) j7.nd rfl (Or.inl rfl)) (@aH _ _ _ (bT (aW sM (bI cE (mv 0) (aX kQ (mv 3) aK) (λ_ _=>rfl)) (bI cE (mv 0) (aX kQ (mv 1) aK) (λ_ _=>rfl)) (bC _)) (@aH _ _ _ (cZ (dD Cc Em En xK (mv 2) (aA (bV OR rfl G.b_str RO (aA (mv 3) aB)) aB)))) bA))) (@aH _ _ _ (aR (mv 2))))),?_⟩;have hwl:(bB cw).length=cw.length:=fB cw
 fail "g";refine pJ (by rw[hwl];exact bE (by omega)) (mR (k:=k) (by omega) hk) ?_
 fail "g";refine⟨za0,λp hp=>?_⟩
 fail "g";have em:(if (5:Int)<pl then 5 else pl)=1+((min k 4:Nat):Int):=by split<;>omega
 rw[em];refine⟨⟨by omega,by omega,by omega,by omega⟩,?_⟩
 rw[show (1+((min k 4:Nat):Int)-1).toNat=min k 4 by omega]
 refine eY (λi U H'=>∃v,U=[some (.str (bB cw)),some (.int pl),some (.ref p),v]/\Z_ H H'/\H' p=some (.lst (((cw.getD k 0::(List.range i).filterMap (X4 cw k)).map one).map V.str)))
  ⟨none,rfl,aF hp _,aD⟩ ?_ ?_
 .rintro i U H' hi ⟨v,rfl,sm,hH⟩;have hi2:i<min k 4:=hi
  have hm:=aZ hH
  have hlen:((((cw.getD k 0::(List.range i).filterMap (X4 cw k)).map one).map V.str)).length<sizeLine:=by
   have:=Do (X4 cw k) (List.range i)
   rw[Bm]at this;rw[Ab,Ab,Av];exact aY (by omega)
  fail "g";refine pJ (by rw[hwl];exact bE (by omega)) (mR (k:=i) (by omega) (by omega)) ?_
  fail "g";refine pJ (by rw[hwl];exact bE (by omega)) (mR (k:=k) (by omega) hk) ?_
  fail "g";rw[show decide (({cps:=#[cw.getD i 0]}:Str)={cps:=#[cw.getD k 0]})=decide (cw.getD i 0=cw.getD k 0) from wB _ _];refine gM (λhc=>?_) (λhc=>?_)
  .have he:=Bi hc
   fail "g"
   refine s_str (by have : (1 + (i : Int)).natAbs = 1 + i := by omega
                    rw[this];exact Nat.lt_of_le_of_lt (Nat.log2_le_self _) (by omega)) ?_
   rw[Qr i (by omega)]
   fail "g";refine⟨_,rfl,bF hp sm,?_⟩;rw[aD,sN (F:=X4 cw k) (if_pos he),<-List.cons_append,Aj,Aj];rfl
  .have he:=Ca (Ce.mpr hc)
   fail "g";refine⟨_,rfl,sm,?_⟩;rw[hH,sR (F:=X4 cw k) (if_neg he)]
 .rintro U H' ⟨v,rfl,sm,hH⟩;fail "g";exact q p H' hp sm hH
def yD(cw hs:List Nat):Prop:=hs.length=cw.length/\∀k,k<hs.length->hs.getD k 0∈Yp cw k
def of_refs(h:(ps.map V.ref)[j]?=some x):∃p,ps[j]?=some p/\x=.ref p:=by
 rw[Af]at h;cases e:ps[j]? with
 |none=>rw[e]at h;cases h
 |some p=>rw[e]at h;cases h;exact⟨p,rfl,rfl⟩
def MG(F:List Nat)(g:Nat->Int)(n:Nat):(List.range n).filterMap (λj=>(F[j]?).map λc=>V.int (g c))=((F.take n).map g).map V.int:=by
 rw[Bu];induction n with
 |zero=>rfl
 |succ n ih=>
  rw[Be];cases e:F[n]? with
  |none=>rw[eW (by rw[e];rfl),ih];simp
  |some c=>rw[cU (y:=V.int (g c)) (by rw[e];rfl),ih,Aj];rfl
def rO:Sp:=λvs H Q _=>∃(r:Addr) (cw hs:List Nat),vs=[.ref r,.str (bB cw)]/\H r=some (.lst ((hs.map one).map V.str))/\cw.length<=7/\yD cw hs/\∀H',Z_ H H'->Q (.bl true) H'
def f8:Z9 ["_law_hoist", "_law_word_here", "_law_k"] ["_law_hoist", "_law_word_here"] (aJ nV):=by fail "sc"
def Q8(F:ZR K "_law_reads" "_law_reads" nV f fd)(w6:ZP P w K mg base 1 "_law_choices" ["_law_word_here", "_law_place"] gY):Z4 P w K mg base ZO 2 f fd ["_law_hoist", "_law_word_here"] rO:=by
 refine F.ok f8 (λvs H Q E h=>?_) (λcdv A outer s H vs Q E hr h=>?_)
 .obtain⟨r,cw,hs,rfl,_⟩:=h;rfl
 obtain⟨r,cw,hs,rfl,her,h7,ZK,q⟩:=h;refine⟨_,(@aE _ _ _ _ _ (bT (PW.pt (kX (dG (cB (aU mV rfl G.b_isinstance cA (aA (mv 0) (aA (hZ rfl G.b_list cR) aB))))) (iB (aW Wz (aU cS rfl G.b_len cC (aA (mv 0) aB)) (aU cS rfl G.b_len cC (aA (mv 1) aB)) (bC _))))) (@aH _ _ _ (aR dE)) bA) (@aE _ _ _ _ _ (bU Bf rfl (dZ rfl G.b_range (aA (aU cS rfl G.b_len cC (aA (mv 1) aB)) aB)) (aQ (i:=2) f8.nd rfl (Or.inl rfl)) (@aH _ _ _ (bT (PW.pt (kX (dG (cB (aU mV rfl G.b_isinstance cA (aA (bI cE (mv 0) (mv 2) (λ_ _=>rfl)) (aA (hZ rfl G.b_str RO) aB))))) (iB (aW rQ (bI cE (mv 0) (mv 2) (λ_ _=>rfl)) (aV w6 hr (by decide) rfl (aA (mv 1) (aA (aX bS (mv 2) aK) aB))) (by rfl))))) (@aH _ _ _ (aR dE)) bA))) (@aH _ _ _ (aR dE)))),?_⟩
 have hwl:(bB cw).length=cw.length:=fB cw
 have hhl:((hs.map one).map V.str).length=cw.length:=by rw[Ab,Ab,ZK.1]
 have rr:=aL her
 fail "g";rw[hwl,hhl,Ap rfl];fail "g";rw[hwl];refine⟨⟨by omega,by omega⟩,?_⟩
 rw[show ((cw.length:Nat):Int).toNat=cw.length from Co _];refine eY (λi U H'=>∃(v2:Option V),U=[some (.ref r),some (.str (bB cw)),v2]/\Z_ H H') ⟨_,rfl,Z_.refl _⟩ ?_ ?_
 .rintro i U H1 hi ⟨v2,rfl,s1⟩;have hi':i<cw.length:=hi
  have hil:i<hs.length:=by rw[ZK.1];exact hi'
  have rr1:=aG s1 rr
  have ax:=S3 (cs:=hs) (k:=i) hil
  have hrw:=ZK.2 i hil
  fail "g";rw[show (0:Int)+((i:Nat):Int)=((i:Nat):Int) by omega]
  refine cL rr1 ax ?_;fail "g";refine cL rr1 ax ?_;fail "g";refine⟨cw,i,_,rfl,by omega,hi',h7,λrc H2 hrc s2 er2=>?_⟩
  refine kU (neg:=true) (aL er2) rfl (cK _) ?_;rw[qS,Ap hrw,show (if true=true then !true else true)=false from rfl]
  fail "g";exact⟨_,rfl,s1.trans s2⟩
 .rintro U H1 ⟨v2,rfl,s1⟩;fail "g";exact q _ s1
def qQ(zs:List Str):jP (zs.map V.str) (zs.map V.str)=true:=by
 rw[kI rfl,Ci];intro j hj;exact eZ (fN (cK _) j)
def xV(hk:k<cws.length):Zc ((cws.map bB).map V.str) ((k:Nat):Int)=some (.str (bB (cws.getD k []))):=by
 obtain⟨v,h1,h2⟩:=Uv (xs:=(cws.map bB).map V.str) (i:=((k:Nat):Int)) (by omega) (by rw[Ab,Ab];omega)
 rw[Co,Af,Af,Aa hk]at h2;rw[h1,<-h2,Ac,Aa hk];rfl
def Ri{W L:List Wt}(s:W.Sublist L):L.Nodup->(L.filter λx=>decide (x∈W))=W:=by
 induction s with
 |slnil=>intro _;rfl
 | @cons W L a s ih=>
  intro nd;have n1:=Bz.mp nd
  rw[Gz (by rw[Bh];exact λz=>n1.1 (s.subset z)),ih n1.2]
 | @cons_cons W L a s ih=>
  intro nd;have n1:=Bz.mp nd
  rw[List.filter_cons_of_pos (by simp)]
  have e:(L.filter λx=>decide (x∈a::W))=L.filter λx=>decide (x∈W):=List.filter_congr λx hx=>by
   refine Cj.mpr ⟨λz=>(Az.mp z).resolve_left λy=>n1.1 (by rw[<-y];exact hx),λz=>Ao _ z⟩
  rw[e,ih n1.2]
def O6{W:List Nat}(s:W.Sublist L):L.Nodup->(L.filter λx=>decide (x∈W))=W:=by
 induction s with
 |slnil=>intro _;rfl
 | @cons W L a s ih=>
  intro nd;have n1:=Bz.mp nd
  rw[Gz (by rw[Bh];exact λz=>n1.1 (s.subset z)),ih n1.2]
 | @cons_cons W L a s ih=>
  intro nd;have n1:=Bz.mp nd
  rw[List.filter_cons_of_pos (by simp)]
  have e:(L.filter λx=>decide (x∈a::W))=L.filter λx=>decide (x∈W):=List.filter_congr λx hx=>by
   refine Cj.mpr ⟨λz=>(Az.mp z).resolve_left λy=>n1.1 (by rw[<-y];exact hx),λz=>Ao _ z⟩
  rw[e,ih n1.2]
def Qy{L W:List Wt}(hl:ps.length=L.length):∃qs:List Addr,(List.range ps.length).filterMap (λj=>if L.getD j (0,0)∈W then some (V.ref (ps.getD j 0)) else none)=qs.map V.ref/\qs.length=(L.filter λx=>decide (x∈W)).length/\∀(j:Nat) q w,qs[j]?=some q->(L.filter λx=>decide (x∈W))[j]?=some w->∃i:Nat,ps[i]?=some q/\L[i]?=some w:=by
 induction ps generalizing L with
 |nil=>
  cases L with
  |nil=>exact⟨[],rfl,rfl,λj q w h=>by cases h⟩
  |cons _ _=>cases hl
 |cons p r ih=>
  cases L with
  |nil=>cases hl
  |cons w L=>
   obtain⟨qs,e,h1,h2⟩:=ih (L:=L) (by simpa using hl)
   have e2:(List.range (p::r).length).filterMap (λj=>if (w::L).getD j (0,0)∈W then some (V.ref ((p::r).getD j 0)) else none)=(if w∈W then [V.ref p] else [])++qs.map V.ref:=by
    rw[Av,List.range_succ_eq_map,Eb,List.filterMap_map,<-e];by_cases z:w∈W
    .rw[if_pos z,if_pos (show (w::L).getD 0 (0,0)∈W from z)];rfl
    .rw[if_neg z,if_neg (show ¬(w::L).getD 0 (0,0)∈W from z)];rfl
   by_cases z:w∈W
   .refine⟨p::qs,by rw[e2,if_pos z];rfl,by rw[List.filter_cons_of_pos (by simp[z]),List.length_cons,List.length_cons,h1],λj q w' hq hw=>?_⟩
    rw[List.filter_cons_of_pos (by simp[z])]at hw
    cases j with
    |zero=>cases hq;cases hw;exact⟨0,rfl,rfl⟩
    |succ j=>
     obtain⟨i,a,b⟩:=h2 j q w' hq hw;exact⟨i+1,a,b⟩
   .refine⟨qs,by rw[e2,if_neg z];rfl,by rw[List.filter_cons_of_neg (by simp[z]),h1],λj q w' hq hw=>?_⟩
    rw[List.filter_cons_of_neg (by simp[z])]at hw
    obtain⟨i,a,b⟩:=h2 j q w' hq hw;exact⟨i+1,a,b⟩
def K3{qs:List Addr}{W:List Wt}{q:Addr}(hp:Z8 H p=some (rs.map V.ref))(hq:Z8 H q=some (qs.map V.ref))(a:Z2 H rs W)(b:Z2 H qs W):Yr H 2 (.ref p) (.ref q):=by
 refine .lst hp hq (by rw[Ab,Ab,a.1,b.1]) λj x y hx hy=>?_
 obtain⟨r,er,rfl⟩:=of_refs hx;obtain⟨s,es,rfl⟩:=of_refs hy;have hj:j<W.length:=by rw[<-a.1];exact(Ad.mp er).1
 exact .tup (eU (a.2 j r W[j] er (Aa hj))) (eU (b.2 j s W[j] es (Aa hj))) rfl (.XT rfl)
def MA{W:List Wt}(h:Z2 H rs W):∀(j:Nat) r (w:Int×Int),rs[j]?=some r->(W.map λw=>((w.1:Int),(w.2:Int)))[j]?=some w->H r=some (.tup [.int w.1,.int w.2]):=λj r w hr hw=>by
 rw[Af]at hw;cases e:W[j]? with
 |none=>rw[e]at hw;cases hw
 |some w'=>rw[e]at hw;cases hw;exact h.2 j r w' hr e
def O4{W:List Wt}{w:Wt}:((w.1:Int),(w.2:Int))∈(W.map λw=>((w.1:Int),(w.2:Int))) ↔ w∈W:=by
 rw[Bg];constructor
 .rintro⟨x,hx,e⟩;have h1:(x.1:Int)=w.1:=Da Prod.fst e
  have h2:(x.2:Int)=w.2:=Da Prod.snd e
  rw[show w=x from Prod.ext (by omega) (by omega)]
  exact hx
 .exact λh=>⟨w,h,rfl⟩
def Pg(F:List Nat)(h:∃p:Nat->Bool,F=Z1.cps.toList.filter p):(Z1.cps.toList.filterMap λc=>if c∈F then some (V.str (one c)) else none)=(F.map one).map V.str:=by
 have hF:(Z1.cps.toList.filter λc=>decide (c∈F))=F:=by
  obtain⟨p,e⟩:=h;exact O6 (by rw[e];exact Ee) (by decide)
 have g:∀L:List Nat,(L.filterMap λc=>if c∈F then some (V.str (one c)) else none)=((L.filter λc=>decide (c∈F)).map one).map V.str:=λL=>by
  induction L with
  |nil=>rfl
  |cons c r ih=>
   by_cases z:c∈F
   .rw[List.filterMap_cons_some (by rw[if_pos z]),ih,List.filter_cons_of_pos (by simp[z])];rfl
   .rw[List.filterMap_cons_none (by rw[if_neg z]),ih,List.filter_cons_of_neg (by simp[z])]
 rw[g,hF]
inductive oK(vs:List V)(H:Hp)(Q:VK)(zz3:XK):Prop|mk(a b l1 l2:Addr)(kvs:List (Key×V))(f:Nat->Option Int)(cws:List (List Nat))(rs:List Addr)(W:List Wt)(F:List Nat)(_:vs=[.ref a,.ref b,.ref l1,.ref l2])(_:H a=some (.dK kvs))(_:Lk kvs f)(_:(∀c,0<=aP f c/\aP f c<=1000))(_:Z8 H b=some ((cws.map bB).map V.str))(_:cws.length<=8)(_:(∀c∈cws,c.length<=7))(_:H l1=some (.lst (rs.map V.ref)))(_:Z2 H rs W)(_:H l2=some (.lst ((F.map one).map V.str)))(_:ZV cws (aP f) W F)(_:∀H',Z_ H H'->Q (.bl true) H'):oK vs H Q zz3
def w8:Z9 ["_law_locker_here", "_law_words", "_law_wants", "_law_flags", "_law_there", "_law_number", "_law_place", "_law_flag"] ["_law_locker_here", "_law_words", "_law_wants", "_law_flags"] (aJ fT):=by fail "sc"
def JK(F:ZR K "_law_lack" "_law_lack" fT f fd)(w6:ZP P w K mg base 1 "_law_choices" ["_law_word_here", "_law_place"] gY):Z4 P w K mg base ZO 2 f fd ["_law_locker_here", "_law_words", "_law_wants", "_law_flags"] oK:=by
 refine F.ok w8 (λvs H Q E h=>?_) (λcdv A outer s H vs Q E hr h=>?_)
 .obtain⟨a,b,l1,l2,kvs,f,cws,rs,W,F,rfl,_⟩:=h;rfl
 obtain⟨a,b,l1,l2,kvs,f,cws,rs,W,F,rfl,ha,lk,hf,hb,h8,h7,el1,hwt,el2,hlo,q⟩:=h;refine⟨_,(@aE _ _ _ _ _ (bT (PW.pt (kX (dG (cB (aU mV rfl G.b_isinstance cA (aA (mv 2) (aA (hZ rfl G.b_list cR) aB))))) (iB (dG (cB (aU mV rfl G.b_isinstance cA (aA (mv 3) (aA (hZ rfl G.b_list cR) aB)))))))) (@aH _ _ _ (aR dE)) bA) (@aE _ _ _ _ _ (aO 4 w8.nd (bL aB)) (@aE _ _ _ _ _ (bU Bf rfl (dZ rfl G.b_range (aA (aU cS rfl G.b_len cC (aA (mv 1) aB)) aB)) (aQ (i:=5) w8.nd rfl (Or.inr rfl)) (@aH _ _ _ (aO 4 w8.nd (aX bS (mv 4) (bW rfl (oH rfl G.b_range (aA aK (aA (aX bS (aU cS rfl G.b_len cC (aA (bI cE (mv 1) (mv 5) (λ_ _=>rfl)) aB)) aK) aB))) (dF (N:=["_law_place", "_law_number"]) ["_law_locker_here", "_law_words", "_law_wants", "_law_flags", "_law_there", "_law_number", "_law_place", "_law_flag"] (aJ fT) [none,some 5] rfl rfl rfl (λx h=>bJ h) (by decide +kernel)) (by decide +kernel) rfl (by decide +kernel) (λ_ _ _ _=>(aQ (i:=0) (show List.Nodup (["_law_place", "_law_number"]:List Str) by decide +kernel) rfl (Or.inl rfl))) (λ_ _ _ _=>cW) (λ_ _ _ _=>(lB (aA (mv 1) (aA (mv 0) aB))))))))) (@aE _ _ _ _ _ (bT (aW (Mh hr.units) (mv 2) (bW rfl (bP (mv 4)) (dF (N:=["_law_want", "_law_wants"]) ["_law_locker_here", "_law_words", "_law_wants", "_law_flags", "_law_there", "_law_number", "_law_place", "_law_flag"] (aJ fT) [none,some 2] rfl rfl rfl (λx h=>bJ h) (by decide +kernel)) (by decide +kernel) rfl (by decide +kernel) (λ_ _ _ _=>(aQ (i:=0) (show List.Nodup (["_law_want", "_law_wants"]:List Str) by decide +kernel) rfl (Or.inl rfl))) (λ_ _ _ _=>(jI (aW (Mn (Z5.u1 hr)) (mv 0) (mv 1) (by rfl)))) (λ_ _ _ _=>(mv 0))) (bC _)) (@aH _ _ _ (aR dE)) bA) (@aE _ _ _ _ _ (bT (aW (RU hr.Y3) (mv 3) (bW rfl (pA gU) (dF (N:=["_law_flag", "_law_flags"]) ["_law_locker_here", "_law_words", "_law_wants", "_law_flags", "_law_there", "_law_number", "_law_place", "_law_flag"] (aJ fT) [none,some 3] rfl rfl rfl (λx h=>bJ h) (by decide +kernel)) (by decide +kernel) rfl (by decide +kernel) (λ_ _ _ _=>(aQ (i:=0) (show List.Nodup (["_law_flag", "_law_flags"]:List Str) by decide +kernel) rfl (Or.inl rfl))) (λ_ _ _ _=>(jI (aW Vo (mv 0) (mv 1) (by rfl)))) (λ_ _ _ _=>(mv 0))) (bC _)) (@aH _ _ _ (aR dE)) bA) (@aE _ _ _ _ _ (bU Bf rfl (bP (mv 2)) (hJ (K:=K) (i:=5) (j:=6) (by rfl) (by rfl) w8.nd (by rfl) (by exact(Or.inr rfl)) (by exact Or.inl rfl) (by rfl) (by exact(Or.inl rfl)) (by exact Or.inl rfl)) (@aH _ _ _ (bU Bf rfl (bP (aV w6 hr (by decide) rfl (aA (bI cE (mv 1) (mv 5) (λ_ _=>rfl)) (aA (mv 6) aB)))) (aQ (i:=7) w8.nd rfl (Or.inl rfl)) (@aH _ _ _ (bT (aW rQ (mv 7) (mv 3) (by rfl)) (@aH _ _ _ (aR dE)) bA))))) (@aH _ _ _ (aR (nN Wc (aU cS rfl G.b_len cC (aA (mv 2) aB)) (aU (JC rfl) rfl G.b_sum KW (aA (bW rfl (bP (mv 3)) (dF (N:=["_law_flag", "_law_locker_here"]) ["_law_locker_here", "_law_words", "_law_wants", "_law_flags", "_law_there", "_law_number", "_law_place", "_law_flag"] (aJ fT) [none,some 0] rfl rfl rfl (λx h=>bJ h) (by decide +kernel)) (by decide +kernel) rfl (by decide +kernel) (λ_ _ _ _=>(aQ (i:=0) (show List.Nodup (["_law_flag", "_law_locker_here"]:List Str) by decide +kernel) rfl (Or.inl rfl))) (λ_ _ _ _=>cW) (λ_ _ _ _=>(dO Bx Cr (pF (Z5.u1 hr)) (mv 1) (aA (mv 0) (aA aK aB))))) aB)) (bC _)))))))))),?_⟩
 have hll:((cws.map bB).map V.str).length=cws.length:=by rw[Ab,Ab]
 have hrl:(rs.map V.ref).length=W.length:=by rw[Ab,hwt.1]
 have hFl:((F.map one).map V.str).length=F.length:=by rw[Ab,Ab]
 have hwn:(wl cws).Nodup:=lE cws cws.length
 have hW56:W.length<=56:=Bd hlo.sub.length_le (Bd (mF h7 _) (by omega))
 have hF27:F.length<=27:=by
  obtain⟨p,e⟩:=hlo.flags;rw[e];exact Bd (List.length_filter_le _ _) (by decide)
 have r1:=aL el1
 have r2:=aL el2
 fail "g";refine⟨by decide,λpt hpt=>?_⟩
 have s1:=aF hpt (.lst [])
 have e1:(upd H pt (.lst [])) pt=some (.lst (([]:List Addr).map V.ref)):=aD
 generalize upd H pt (.lst [])=H1 at s1 e1 ⊢;have hb1:=aG s1 hb
 fail "g";rw[hll];refine⟨⟨by omega,by omega⟩,?_⟩
 rw[show ((cws.length:Nat):Int).toNat=cws.length from Co _];refine eY (λi U H'=>∃(th:Addr) (ps:List Addr) (v5 v6 v7:Option V),U=[some (.ref a),some (.ref b),some (.ref l1),some (.ref l2),some (.ref th),v5,v6,v7]/\Z_ H H'/\H' th=some (.lst (ps.map V.ref))/\ZL H H' ps ((YH cws i).map wV))
  ⟨pt,[],_,_,_,rfl,s1,e1,.nil⟩ ?_ ?_
 .rintro i U H2 hi ⟨th,ps,v5,v6,v7,rfl,s2,et,tp⟩;have hi':i<cws.length:=hi
  have hb2:=aG s2 hb
  have hcl:(bB (cws.getD i [])).length=(cws.getD i []).length:=fB _
  have hc7:(cws.getD i []).length<=7:=by
   rw[Ac,Aa hi'];exact h7 _ (Bo hi')
  have hpl:ps.length<=56:=by rw[tp.1,Ab];exact Bd (mF h7 i) (by omega)
  fail "g";rw[show (0:Int)+((i:Nat):Int)=((i:Nat):Int) by omega]
  refine cL hb2 (xV hi') ?_;fail "g";rw[hcl];refine⟨⟨by omega,by omega,by omega,by omega⟩,?_⟩
  rw[show (((cws.getD i []).length:Int)+1-1).toNat=(cws.getD i []).length by omega]
  refine tG (λj=>[V.int ((i:Nat):Int),V.int (1+(j:Int))]) (aY (by omega)) (λj Hc A B hj sm hA=>?_) (λD Hd us hD sd eD hul tu=>?_)
  .fail "g";refine⟨Wk.set rfl (Wk.refl _),?_⟩;fail "g";refine⟨za1,λt4 ht4=>?_⟩
   exact hA t4 _ ht4 (aF ht4 _) aD
  .have et2:=sd _ _ et
   refine eM (aZ et2) (aZ eD) (bE (by rw[Ab,Ab];omega)) λth2 hth2=>?_
   fail "g";have s3:=(s2.trans sd).trans (aF hth2 (.lst (ps.map V.ref++us.map V.ref)))
   refine⟨th2,ps++us,_,_,_,rfl,s3,by rw[Aj];exact aD,?_⟩
   have ZK:(List.range (cws.getD i []).length).map (λj:Nat=>[V.int ((i:Nat):Int),V.int (1+(j:Int))])=(iV cws i).map wV:=by
    unfold iV;rw[Bu];refine Bw λj _=>?_;show [V.int ((i:Nat):Int),V.int (1+(j:Int))]=[V.int ((i:Nat):Int),V.int ((1+j:Nat):Int)]
    rw[show ((1+j:Nat):Int)=1+(j:Int) by omega]
   rw[gP,Aj,<-ZK];exact((tp.keep sd).app (tu.YU s2)).keep (aF hth2 _)
 .rintro U H2 ⟨th,ps,v5,v6,v7,rfl,s2,et,tp⟩;have hpl:ps.length=(wl cws).length:=by rw[tp.1,Ab];rfl
  have hwl56:(wl cws).length<=56:=Bd (mF h7 _) (by omega)
  have tat:∀(j:Nat) p w,ps[j]?=some p->(wl cws)[j]?=some w->H2 p=some (.tup (wV w)):=λj p w hp hw=>(tp.2 j p _ hp (by rw[Af];exact Da (Option.map wV) hw)).2
  have rt2:=aL et
  have r12:=aG s2 r1
  have hwt2:Z2 H2 rs W:=⟨hwt.1,λj p w hp hw=>s2 _ _ (hwt.2 j p w hp hw)⟩
  fail "g";refine fV (xs:=ps.map V.ref) (λj=>if (wl cws).getD j (0,0)∈W then some (V.ref (ps.getD j 0)) else none) rt2 (aY (by rw[Ab];omega)) (λj x Hc A B hx sm hA hB=>?_) (λD Hd hD sd hr=>?_)
  .obtain⟨p,ep,rfl⟩:=of_refs hx;have hj:j<(wl cws).length:=by rw[<-hpl];exact(Ad.mp ep).1
   obtain⟨w0,ew⟩:∃w0,(wl cws)[j]?=some w0:=⟨_,Aa hj⟩;have htp:Hc p=some (.tup [.int ((w0.1:Nat):Int),.int ((w0.2:Nat):Int)]):=sm _ _ (tat j p w0 ep ew)
   rw[show (wl cws).getD j (0,0)=w0 by rw[Ac,ew];rfl,show ps.getD j 0=p by rw[Ac,ep];rfl]at hA
   rw[show (wl cws).getD j (0,0)=w0 by rw[Ac,ew];rfl]at hB
   have hwc:Z2 Hc rs W:=⟨hwt2.1,λj p w hp hw=>sm _ _ (hwt2.2 j p w hp hw)⟩
   have r1c:=aG sm r12
   fail "g";refine⟨Wk.set rfl (Wk.refl _),?_⟩;fail "g";refine OC htp r1c (ws:=W.map λw=>((w.1:Int),(w.2:Int))) (by rw[Ab];exact hwt.1) (MA hwc) ?_
   rw[Cj.mpr (O4 (W:=W) (w:=w0))];by_cases z:w0∈W
   .rw[Ap z];fail "g";exact hA _ (if_pos z) _ (Z_.refl _)
   .rw[Al z];fail "g";exact hB (if_neg z) _ (Z_.refl _)
  .rw[Ab]at hr;obtain⟨qs,e,hq1,hq2⟩:=Qy (W:=W) hpl;rw[e]at hr;rw[Ri hlo.sub hwn]at hq1 hq2;have s3:=s2.trans sd
   have hwq:Z2 Hd qs W:=⟨hq1,λj r w hr' hw=>by
    obtain⟨i,h1,h2⟩:=hq2 j r w hr' hw;exact sd _ _ (tat i r w h1 h2)⟩
   have hwr:Z2 Hd rs W:=⟨hwt2.1,λj p w hp hw=>sd _ _ (hwt2.2 j p w hp hw)⟩
   refine Rb 1 (K3 (aG sd r12) (aL hr) hwr hwq) ?_;have r23:=aG s3 r2
   fail "g";refine pX (λc=>if c∈F then some (V.str (one c)) else none) (aY (by decide)) (λj c Hc A B hc sm hA=>?_) (λD4 H4 hD4 s4 e4=>?_)
   .have r2c:=aG sm r23
    have hA':=hA _ (Z_.refl _)
    fail "g";refine⟨Wk.set rfl (Wk.refl _),?_⟩;fail "g";refine kU (neg:=false) r2c rfl (cK _) ?_;rw[if_neg (by decide),show V.str ⟨#[c]⟩=V.str (one c) from rfl,qS]
    by_cases z:c∈F
    .rw[if_pos z]at hA';rw[Ap z];fail "g";exact hA'
    .rw[if_neg z]at hA';rw[Al z];fail "g";exact hA'
   .have e4:H4 D4=some (.lst ((F.map one).map V.str)):=by rw[e4];exact Da (λx=>some (HO.lst x)) (Pg F hlo.flags)
    refine V2 (neg:=true) (aG s4 r23) (aL e4) (cK _) (cK _) ?_;rw[if_pos rfl,qQ,Bool.not_true];have s04:=s3.trans s4
    have r14:=aG s04 r1
    fail "g";refine cP (xs:=rs.map V.ref) (λi U H'=>∃(v5 v6 v7:Option V),U=[some (.ref a),some (.ref b),some (.ref l1),some (.ref l2),some (.ref th),v5,v6,v7]/\Z_ H4 H') ⟨_,_,_,rfl,Z_.refl _⟩ (λi U H' _ ⟨_,_,_,_,e⟩=>aG e r14) ?_ ?_
    .rintro i x U H5 hx ⟨v5,v6,v7,rfl,s5⟩;obtain⟨p,ep,rfl⟩:=of_refs hx;have hi:i<W.length:=by rw[<-hwt.1];exact(Ad.mp ep).1
     obtain⟨⟨wn,wp⟩,ew⟩:∃w0,W[i]?=some w0:=⟨_,Aa hi⟩;have hwm:=Ah ew
     obtain⟨hw1,hw2,hw3⟩:=Y5.mp (hlo.sub.subset hwm);have hw1:wn<cws.length:=hw1
     have hw2:1<=wp:=hw2
     have hw3:wp<=(cws.getD wn []).length:=hw3
     have hall:∀c∈Yp (cws.getD wn []) (wp-1),c∈F:=hlo.all _ hwm
     have s05:=s04.trans s5
     have htp:H5 p=some (.tup [.int (wn:Int),.int (wp:Int)]):=s05 _ _ (hwt.2 i p (wn,wp) ep ew)
     have tt:=eU htp
     have hc7:(cws.getD wn []).length<=7:=by
      rw[Ac,Aa hw1];exact h7 _ (Bo hw1)
     have hb5:=aG s05 hb
     fail "g";refine cL hb5 (xV hw1) ?_;fail "g";refine⟨cws.getD wn [],wp-1,_,rfl,by omega,by omega,hc7,λrc H6 hrc s6 er6=>?_⟩
     have rc6:=aL er6
     fail "g";refine cP (xs:=((Yp (cws.getD wn []) (wp-1)).map one).map V.str) (λu U H'=>∃(v7:Option V),U=[some (.ref a),some (.ref b),some (.ref l1),some (.ref l2),some (.ref th),some (.int (wn:Int)),some (.int (wp:Int)),v7]/\Z_ H6 H') ⟨_,rfl,Z_.refl _⟩ (λu U H' _ ⟨_,_,e⟩=>aG e rc6) ?_ ?_
     .rintro u x U H7 hx ⟨v7,rfl,s7⟩;obtain⟨d,hd,rfl⟩:=jV hx;have r7:=aG (s05.trans (s6.trans s7)) r2
      fail "g";refine kU (neg:=true) r7 rfl (cK _) ?_;rw[qS,Ap (hall d (Ah hd)),show (if true=true then !true else true)=false from rfl]
      fail "g";exact⟨_,rfl,s7⟩
     .rintro U H7 ⟨v7,rfl,s7⟩;fail "g";exact⟨_,_,_,rfl,s5.trans (s6.trans s7)⟩
    .rintro U H5 ⟨v5,v6,v7,rfl,s5⟩;have s05:=s04.trans s5
     have r15:=aG s05 r1
     have r25:=aG s05 r2
     fail "g";refine fV (xs:=(F.map one).map V.str) (λj=>(F[j]?).map λc=>V.int (aP f c)) r25 (by rw[hFl];exact aY (by omega)) (λj x Hc A B hx sm hA hB=>?_) (λD6 H6 hD6 s6 hr6=>?_)
     .obtain⟨d,hd,rfl⟩:=jV hx;have r:=hA (.int (aP f d)) (by rw[hd];rfl)
      have hac:=sm _ _ (s05 _ _ ha)
      fail "g";refine⟨Wk.set rfl (Wk.refl _),?_⟩;fail "g";refine pN (z:=one d) (.inl hac) ?_;rw[lk.val d,gA];exact r _ (Z_.refl _)
     .rw[MG,hFl,Br]at hr6;fail "g";refine KN (aL hr6) (λn hn=>by obtain⟨c,_,rfl⟩:=Bg.mp hn;have:=hf c;omega) (by rw[Ab];omega) ?_
      fail "g";rw[hrl,Ap (show (F.map (aP f)).sum<((W.length:Nat):Int) from hlo.VD)];exact q _ (s05.trans s6)
def Qw{c:Nat}(h:cX c):Builtin.Str.occurrences (Str.ofString "1234") (one c) 0 (Str.ofString "1234").length 1=[c-49]:=by
 have q:∀k:_root_.Fin 4,Builtin.Str.occurrences (Str.ofString "1234") (one (49+k.val)) 0 (Str.ofString "1234").length 1=[k.val]:=by decide +kernel
 unfold cX at h;have e:=q ⟨c-49,by omega⟩
 rwa [show 49+(c-49)=c by omega]at e
def jZ:Sp:=λvs H Q _=>∃(b:Addr) (cs:List Nat),vs=[.ref b]/\Z8 H b=some ((cs.map one).map V.str)/\cG (cs.map one)=true/\Q (.str (bB (Zs cs))) H
def t7:Z9 ["_law_hoist", "_law_word_here", "_law_flag"] ["_law_hoist"] (aJ rE):=by fail "sc"
def OQ(F:ZR K "_law_read" "_law_read" rE f fd)(G:Gs K mg Zw Zz Zx Zy):Z4 P w K mg base ZO 1 f fd ["_law_hoist"] jZ:=by
 refine F.ok t7 (λvs H Q E h=>?_) (λcdv A outer s H vs Q E hr h=>?_)
 .obtain⟨b,cs,rfl,_⟩:=h;rfl
 obtain⟨b,cs,rfl,hb,hh,q⟩:=h;refine⟨_,(@aE _ _ _ _ _ (aO 1 t7.nd gU) (@aE _ _ _ _ _ (bU Bf rfl (bP (mv 0)) (aQ (i:=2) t7.nd rfl (Or.inl rfl)) (@aH _ _ _ (bT (aW Vw (mv 2) gU (by rfl)) (@aH _ _ _ (aO 1 t7.nd (aX bS (mv 1) (bI cE (mv 1) (dD PySem.F.plainAttrs_str PySem.F.slot_str_index PySem.F.type_str_index MJ gU (aA (mv 2) aB)) (λ_ _=>rfl))))) (@aH _ _ _ (aO 1 t7.nd (aX bS (mv 1) (mv 2))))))) (@aH _ _ _ (aR (mv 1))))),?_⟩
 have h7:=dX hh
 rw[Ab]at h7;have hll:((cs.map one).map V.str).length=cs.length:=by rw[Ab,Ab]
 fail "g";refine cP (xs:=(cs.map one).map V.str) (λi U H'=>∃v,U=[some (.ref b),some (.str (bB (Zs (cs.take i)))),v]/\H'=H)
  ⟨none,rfl,rfl⟩ (λi U H' _ ⟨_,_,e⟩=>by rw[e];exact hb) ?_ ?_
 .rintro i x U H' hx ⟨v,rfl,rfl⟩;obtain⟨c,hc,rfl⟩:=jV hx;obtain⟨c',e1,_,hcc⟩:=iD hh (i:=i) (z:=one c) (by rw[Af,hc];rfl)
  rw[<-one_inj.mp e1]at hcc;have hi:i<cs.length:=(Ad.mp hc).1
  have hrl:(Zs (cs.take i)).length=i:=gW (by omega)
  have hst:=mQ hc
  generalize Zs (cs.take i)=wd at hrl hst ⊢;have hwl:(bB wd).length=i:=(fB wd).trans hrl
  fail "g";rw[if_neg An,show subIn (one c) (Str.ofString "1234")=decide (cX c) from lW c];refine gM (λhd=>?_) (λhd=>?_)
  .have hs:=Bi hd
   have hlt:c-49<i:=(hcc.resolve_left λl=>fY l hs).2
   fail "g";refine Np (Qw hs) ?_;fail "g";have e1:Zc (bB wd).cps.toList ((c-49:Nat):Int)=some (wd.getD (c-49) 0):=by
    refine fJ ?_;rw[kE,Ac,Aa (by omega)]
    rfl
   have h2:(⟨#[wd.getD (c-49) 0]⟩:Str).length=1:=rfl
   refine pJ (by rw[hwl];exact bE (by omega)) e1 ?_
   fail "g";refine⟨some (.str (one c)),?_,rfl⟩;rw[hst,show Xf wd c=wd.getD (c-49) 0 from if_pos hs,<-kF];rfl
  .have hs:=Ca (Ce.mpr hd)
   have h2:(one c).length=1:=rfl
   fail "g";refine⟨some (.str (one c)),?_,rfl⟩;rw[hst,show Xf wd c=c from if_neg hs,<-kF];rfl
 .rintro U H' ⟨v,rfl,rfl⟩;fail "g";rw[Bl (by rw[hll];exact Ai _)]
  exact q
def Wm(kvs:List (Key×V)):List Nat:=kvs.map λkv=>match kv.1 with|Sum.inr z=>jB z|_=>0
def Lk.Wj{f:Nat->Option Int}(h:Lk kvs f):kvs.map (·.1)=((Wm kvs).map one).map Sum.inr:=by
 unfold Wm;rw[Bu,Bu];refine Bw λkv hkv=>?_;obtain⟨c,n,rfl⟩:=h.ks kv hkv;rfl
def Lk.XD{f:Nat->Option Int}(h:Lk kvs f)(c:Nat):c∈Wm kvs ↔ f c≠none:=by
 constructor
 .intro hm;obtain⟨kv,hkv,e⟩:=Bg.mp hm;obtain⟨c',n,rfl,hf⟩:=h.YZ hkv;have:c'=c:=e
  rw[<-this,hf];exact λz=>nomatch z
 .intro hn;have v:=h.val c
  have q:(kvs.any λkv=>decide (kv.1=Sum.inr (one c)))=true:=by
   rw[dP,v];cases e:f c with
   |none=>exact absurd e hn
   |some n=>rfl
  obtain⟨kv,hkv,e⟩:=Ft.mp q;obtain⟨c',n,rfl⟩:=h.ks kv hkv;have e2:c'=c:=Zu.mp (Bi e)
  exact Bg.mpr ⟨_,hkv,e2⟩
def RK{f:Nat->Option Int}(lk:Lk kvs f)(hf:ZX f):kvs.length<=27:=by
 have nd:(Wm kvs).Nodup:=by
  have h:=lk.nd
  rw[lk.Wj,Bu]at h;exact(List.pairwise_map.mp h).imp fun {a b} h z=>h (by rw[z])
 have r:=qL (m:=Z1.cps.toList) nd λc hc=>ZQ.mpr (hf c (Option.isSome_iff_ne_none.mpr ((lk.XD c).mp hc)))
 unfold Wm at r;rw[Ab]at r;exact r
def uT(h:ks[i]?=some k):aS hs (ks.take (i+1))=aS hs (ks.take i)++cF hs k:=by
 unfold aS;rw[Be,h,Ez];show _++((hs.getD k none).getD []++[])=_
 rw[Bq];rfl
inductive kH(vs:List V)(H:Hp)(Q:VK)(zz3:XK):Prop|mk(a b l:Addr)(kvs:List (Key×V))(f:Nat->Option Int)(us:List V)(hs:List (Option (List Nat)))(ks:List Nat)(_:vs=[.ref a,.ref b,.ref l])(_:H a=some (.dK kvs))(_:Lk kvs f)(_:ZX f)(_:Z8 H b=some us)(_:Z6 H us hs)(_:dY hs)(_:Z8 H l=some (ks.map λk=>V.int ((k:Nat):Int)))(_:ks.length<=6)(_:(∀k∈ks,k<hs.length))(_:∀(r:Addr) (kws:List (Key×V)) (g:Nat->Option Int) (H':Hp),H r=none->Z_ H H'->H' r=some (.dK kws)->Lk kws g->ZX g->(∀c,aP g c=aP f c+cnt (aS hs ks) c)->Q (.ref r) H'):kH vs H Q zz3
def o3:Z9 ["_law_locker_here", "_law_halyards", "_law_numbers", "_law_counts_here", "_law_number", "_law_flag"] ["_law_locker_here", "_law_halyards", "_law_numbers"] (aJ rX):=by fail "sc"
def QZ(F:ZR K "_law_with" "_law_with" rX f fd):Z4 P w K mg base ZO 1 f fd ["_law_locker_here", "_law_halyards", "_law_numbers"] kH:=by
 refine F.ok o3 (λvs H Q E h=>?_) (λcdv A outer s H vs Q E hr h=>?_)
 .obtain⟨a,b,l,kvs,f,us,hs,ks,rfl,_⟩:=h;rfl
 obtain⟨a,b,l,kvs,f,us,hs,ks,rfl,ha,lk,hfo,hb,hat,ok,hl,hks,hkk,q⟩:=h;refine⟨_,(@aE _ _ _ _ _ (aO 3 o3.nd (bV wX rfl G.b_dict Rz (aA (mv 0) aB))) (@aE _ _ _ _ _ (bU Bf rfl (bP (mv 2)) (aQ (i:=4) o3.nd rfl (Or.inl rfl)) (@aH _ _ _ (bU Bf rfl (bP (JJ (bI cE (mv 1) (mv 4) (λ_ _=>rfl)) (Ro (bL aB)))) (aQ (i:=5) o3.nd rfl (Or.inl rfl)) (@aH _ _ _ (fG (Z5.u1 hr) (mv 3) (mv 5) (aX bS (dO Bx Cr (pF (Z5.u1 hr)) (mv 3) (aA (mv 5) (aA aK aB))) aK) rfl))))) (@aH _ _ _ (aR (mv 3))))),?_⟩;fail "g";refine wO (.inl ha) λp hp=>?_;have s1:=aF hp (.dK kvs)
 have e1:(upd H p (.dK kvs)) p=some (.dK kvs):=aD
 generalize upd H p (.dK kvs)=H1 at s1 e1 ⊢;have hl1:=aG s1 hl
 fail "g";refine cP (xs:=(ks.map λk=>V.int ((k:Nat):Int))) (λi U H'=>∃(kv1:List (Key×V)) (f1:Nat->Option Int) (v4 v5:Option V),U=[some (.ref a),some (.ref b),some (.ref l),some (.ref p),v4,v5]/\Z_ H H'/\H' p=some (.dK kv1)/\Lk kv1 f1/\(∀c,aP f1 c=aP f c+cnt (aS hs (ks.take i)) c)/\ZX f1)
  ⟨kvs,f,_,_,rfl,s1,e1,lk,(λc=>by rw[Fv];show _=_+((0:Nat):Int);omega),hfo⟩ (λi U H' _ ⟨_,_,_,_,_,e,_⟩=>aG e hl) ?_ ?_
 .rintro i x U H2 hx ⟨kv0,f0,v4,v5,rfl,s2,e2,lk0,hf0',hl0⟩;obtain⟨k,hk,rfl⟩:=fH hx;have hi6:i<ks.length:=(Ad.mp hk).1
  have hb2:=aG s2 hb
  obtain⟨u,au,_,hv⟩:=(hat.keep s2).get (hkk k (Ah hk));fail "g";unfold R0;fail "g";refine cL hb2 au ?_;refine Qz hv λpc H3 s3 r3=>?_;have h7:(cF hs k).length<=7:=zB ok k
  have s03:=s2.trans s3
  have e3:=s3 _ _ e2
  change Z8 H3 pc=some (((cF hs k).map one).map V.str) at r3
  fail "g";refine cP (xs:=((cF hs k).map one).map V.str) (λj U H'=>∃(kv1:List (Key×V)) (f1:Nat->Option Int) (v5:Option V),U=[some (.ref a),some (.ref b),some (.ref l),some (.ref p),some (.int ((k:Nat):Int)),v5]/\Z_ H H'/\Z8 H' pc=some (((cF hs k).map one).map V.str)/\H' p=some (.dK kv1)/\Lk kv1 f1/\(∀c,aP f1 c=aP f0 c+cnt ((cF hs k).take j) c)/\ZX f1)
   ⟨kv0,f0,_,rfl,s03,r3,e3,lk0,(λc=>by rw[Fv];show _=_+((0:Nat):Int);omega),hl0⟩ (λi U H' _ ⟨_,_,_,_,_,e,_⟩=>e) ?_ ?_
  .rintro j x U H4 hx ⟨kv1,f1,v5,rfl,s4,r4,e4,lg,hg,hlj⟩;have hj:j<(cF hs k).length:=by have:=(Ad.mp hx).1;rw[Ab,Ab]at this;exact this
   obtain⟨d,hd,rfl⟩:=jV hx;have hpl:kv1.length<sizeLine:=aY (by have:=RK lg hlj;omega)
   have ppc:pc≠p:=λz=>by rw[z]at r4;unfold Z8 at r4;rw[e4]at r4;cases r4
   fail "g";refine pN (z:=one d) (.inl e4) ?_;rw[lg.val d,gA];fail "g";refine iI (z:=one d) e4 hpl ?_;refine⟨_,_,_,rfl,bF hp s4,by rw[U4 ppc];exact r4,aD,lg.put d (aP f1 d+1),λc=>?_,hlj.put (SX ok (Ah hd))⟩
   rw[Pc,jY hd];have h1:=hg c
   have h2:=hg d
   by_cases e:c=d
   .rw[if_pos e,if_pos e,e,h2];omega
   .rw[if_neg e,if_neg e,h1];omega
  .rintro U H4 ⟨kv1,f1,v5,rfl,s4,r4,e4,lg,hg,hlj⟩;rw[Bl (by rw[Ab,Ab];exact Ai _)]at hg
   refine⟨kv1,f1,_,_,rfl,s4,e4,lg,λc=>?_,hlj⟩;rw[hg c,hf0' c,uT hk,mZ];omega
 .rintro U H2 ⟨kv0,f0,v4,v5,rfl,s2,e2,lk0,hf0',hl0⟩;rw[Bl (by rw[cY];exact Ai _)]at hf0'
  fail "g";exact q p kv0 f0 H2 hp s2 e2 lk0 hl0 hf0'
def jK:Sp:=λvs H Q _=>∃(b:Addr) (us:List V) (hs:List (Option (List Nat))) (n:Nat),vs=[.ref b,.int ((n:Nat):Int)]/\Z8 H b=some us/\Z6 H us hs/\hs.length<=7/\
 ∀(r:Addr) (H':Hp),H r=none->Z_ H H'->H' r=some (.lst ((aM hs n).map λk=>V.int ((k:Nat):Int)))->Q (.ref r) H'
def j8:Z9 ["_law_halyards", "_law_number", "_law_found", "_law_k"] ["_law_halyards", "_law_number"] (aJ lI):=by fail "sc"
def xG(F:ZR K "_law_others" "_law_others" lI f fd):Z4 P w K mg base ZO 1 f fd ["_law_halyards", "_law_number"] jK:=by
 refine F.ok j8 (λvs H Q E h=>?_) (λcdv A outer s H vs Q E hr h=>?_)
 .obtain⟨b,us,hs,n,rfl,_⟩:=h;rfl
 obtain⟨b,us,hs,n,rfl,hb,hat,h7,q⟩:=h;refine⟨_,(@aE _ _ _ _ _ (aO 2 j8.nd (bL aB)) (@aE _ _ _ _ _ (bU Bf rfl (dZ rfl G.b_range (aA (aU cS rfl G.b_len cC (aA (mv 0) aB)) aB)) (aQ (i:=3) j8.nd rfl (Or.inl rfl)) (@aH _ _ _ (bT (PW.pt (hU (aW Wz (mv 3) (mv 1) (bC _)) (gC (aW vT (bI cE (mv 0) (mv 3) (λ_ _=>rfl)) cV (bC _))))) (@aH _ _ _ (cZ (dD Cc Em En xK (mv 2) (aA (mv 3) aB)))) bA))) (@aH _ _ _ (aR (mv 2))))),?_⟩;have hul:=hat.len
 fail "g";refine⟨by decide,λp hp=>?_⟩
 have s1:=aF hp (.lst [])
 have e1:(upd H p (.lst [])) p=some (.lst ((((List.range 0).filter λk=>(hs.getD k none).isSome && !decide (k=n))).map λk=>V.int ((k:Nat):Int))):=aD
 generalize upd H p (.lst [])=H1 at s1 e1 ⊢;have hb1:=aG s1 hb
 fail "g";rw[hul];refine⟨⟨by omega,by omega⟩,?_⟩
 rw[Co];refine eY (λi U H'=>∃v3:Option V,U=[some (.ref b),some (.int ((n:Nat):Int)),some (.ref p),v3]/\Z_ H H'/\H' p=some (.lst ((((List.range i).filter λk=>(hs.getD k none).isSome && !decide (k=n))).map λk=>V.int ((k:Nat):Int)))) ⟨_,rfl,s1,e1⟩ ?_ ?_
 .rintro i U H2 hi ⟨v3,rfl,s2,e2⟩;have hb2:=aG s2 hb
  have m2:=aZ e2
  obtain⟨u,au,_,hv⟩:=(hat.keep s2).get hi;have hl:(((((List.range i).filter λk=>(hs.getD k none).isSome && !decide (k=n))).map λk=>V.int ((k:Nat):Int))).length<=1000:=by
   rw[Ab];have:=List.length_filter_le (λk=>(hs.getD k none).isSome && !decide (k=n)) (List.range i)
   rw[Bm]at this;omega
  have step:(List.range (i+1)).filter (λk=>(hs.getD k none).isSome && !decide (k=n))=(List.range i).filter (λk=>(hs.getD k none).isSome && !decide (k=n))++(if ((hs.getD i none).isSome && !decide (i=n))=true then [i] else []):=by
   rw[Cm,Fe,Fq];rfl
  have h00:(0:Int)+(i:Int)=((i:Nat):Int):=by omega
  fail "g";rw[h00];by_cases en:i=n
  .subst en;rw[show (!decide (((i:Nat):Int)=((i:Nat):Int)))=false by rw[Ap rfl];rfl]
   fail "g";refine⟨_,rfl,s2,?_⟩;rw[step,Ap rfl,Bool.not_true,Bool.and_false,if_neg (by decide),Bq]
   exact e2
  .rw[show (!decide (((i:Nat):Int)=((n:Nat):Int)))=true by rw[Al (by omega)];rfl]
   fail "g";refine cL hb2 au ?_;cases eh:hs.getD i none with
   |none=>
    rw[eh]at hv step;obtain rfl:u=V.non:=hv;fail "g";rw[show (!decide (V.non=V.non))=false from rfl];fail "g";refine⟨_,rfl,s2,?_⟩;rw[step,show (none:Option (List Nat)).isSome=false from rfl,Bool.false_and,if_neg (by decide),Bq]
    exact e2
   |some cs=>
    rw[eh]at hv step;obtain⟨pc,rfl,hpc⟩:=hv;fail "g";rw[show (!decide (V.ref pc=V.non))=true by rw[Al (λz=>nomatch z)];rfl]
    fail "g";refine⟨_,rfl,bF hp s2,?_⟩;rw[aD,step,show (some cs).isSome=true from rfl,Al en,if_pos (show (true && !false)=true from rfl),Aj];rfl
 .rintro U H2 ⟨v3,rfl,s2,e2⟩;fail "g";exact q p H2 hp s2 e2
def PL(h:xs.all bR=true):jP xs xs=true:=by
 rw[kI rfl,Ci];intro j hj;exact eZ (fN h j)
def uH:Sp:=λvs H Q _=>∃(a b:Addr) (kvs kws:List (Key×V)) (f g:Nat->Option Int),vs=[.ref a,.ref b]/\H a=some (.dK kvs)/\Lk kvs f/\H b=some (.dK kws)/\Lk kws g/\(∀c,fP c->aP f c=aP g c)/\∀H',Z_ H H'->Q (.bl true) H'
def f9:Z9 ["_law_one", "_law_other", "_law_flags"] ["_law_one", "_law_other"] (aJ jS):=by fail "sc"
def JP(F:ZR K "_law_same" "_law_same" jS f fd)(G:Gs K mg Zw Zz Zx Zy):Z4 P w K mg base ZO 1 f fd ["_law_one", "_law_other"] uH:=by
 refine F.ok f9 (λvs H Q E h=>?_) (λcdv A outer s H vs Q E hr h=>?_)
 .obtain⟨a,b,kvs,kws,f,g,rfl,_⟩:=h;rfl
 obtain⟨a,b,kvs,kws,f,g,rfl,ha,lk,hb,lg,heq,q⟩:=h;refine⟨_,(@aE _ _ _ _ _ (aO 2 f9.nd gU) (@aH _ _ _ (aR (nN (TL hr.Y3) (bW rfl (pA (mv 2)) (dF (N:=["_law_flag", "_law_one"]) ["_law_one", "_law_other", "_law_flags"] (aJ jS) [none,some 0] rfl rfl rfl (λx h=>bJ h) (by decide +kernel)) (by decide +kernel) rfl (by decide +kernel) (λ_ _ _ _=>(aQ (i:=0) (show List.Nodup (["_law_flag", "_law_one"]:List Str) by decide +kernel) rfl (Or.inl rfl))) (λ_ _ _ _=>cW) (λ_ _ _ _=>(dO Bx Cr (pF (Z5.u1 hr)) (mv 1) (aA (mv 0) (aA aK aB))))) (bW rfl (pA (mv 2)) (dF (N:=["_law_flag", "_law_other"]) ["_law_one", "_law_other", "_law_flags"] (aJ jS) [none,some 1] rfl rfl rfl (λx h=>bJ h) (by decide +kernel)) (by decide +kernel) rfl (by decide +kernel) (λ_ _ _ _=>(aQ (i:=0) (show List.Nodup (["_law_flag", "_law_other"]:List Str) by decide +kernel) rfl (Or.inl rfl))) (λ_ _ _ _=>cW) (λ_ _ _ _=>(dO Bx Cr (pF (Z5.u1 hr)) (mv 1) (aA (mv 0) (aA aK aB))))) (bC _))))),?_⟩
 fail "g";have hfl:Z1=Str.ofString "abcdefghijklmnopqrstuvw1234" := rfl
 refine pX (λc=>some (V.int (aP f c))) (aY (by decide)) (λi c Hc A B hc sm hA=>?_) (λD H1 hD s1 e1=>?_)
 .have hd:=jU (sm _ _ ha)
  fail "g";refine⟨Wk.set rfl (Wk.refl _),?_⟩;fail "g";refine pN (z:=one c) (.inl (sm _ _ ha)) ?_;rw[lk.val c,gA];exact hA _ (Z_.refl _)
 fail "g";refine pX (λc=>some (V.int (aP g c))) (aY (by decide)) (λi c Hc A B hc sm hA=>?_) (λD2 H2 hD2 s2 e2=>?_)
 .have hd:=jU (sm _ _ (s1 _ _ hb))
  fail "g";refine⟨Wk.set rfl (Wk.refl _),?_⟩;fail "g";refine pN (z:=one c) (.inl (sm _ _ (s1 _ _ hb))) ?_;rw[lg.val c,gA];exact hA _ (Z_.refl _)
 have e12:(Str.ofString "abcdefghijklmnopqrstuvw1234").cps.toList.filterMap (λc=>some (V.int (aP g c)))=(Str.ofString "abcdefghijklmnopqrstuvw1234").cps.toList.filterMap (λc=>some (V.int (aP f c))):=by
  rw[mH (λc=>V.int (aP g c)),mH (λc=>V.int (aP f c))];exact Bw λc hc=>by rw[heq c (ZQ.mp (by rw[hfl];exact hc))]
 rw[e12]at e2;have fl:((Str.ofString "abcdefghijklmnopqrstuvw1234").cps.toList.filterMap (λc=>some (V.int (aP f c)))).all bR=true:=by
  rw[mH (λc=>V.int (aP f c)),List.all_map];exact Ci.mpr λc _=>rfl
 refine V2 (neg:=false) (aL (s2 _ _ e1)) (aL e2) fl fl ?_;rw[if_neg An,PL fl];exact q H2 (s1.trans s2)
def YE(H:Hp)(f:Nat->Option Int)(hs:List (Option (List Nat)))(n:Nat)(cw:List Nat)(t:Addr)(H':Hp):Prop:=∃(L B R:Addr) (ks:List Nat) (gs:List (List Nat)) (j:Nat) (vs':List V) (kws:List (Key×V)),H' t=some (.tup [.ref L,.ref B,.ref R])/\H' L=some (.lst (ks.map λk=>V.int ((k:Nat):Int)))/\lF f hs n cw ks j/\Y8 (bG hs cw ks) gs/\(∀c,cnt gs.flatten c<=aP (fS f hs (n::ks)) c)/\H' B=some (.lst vs')/\Z6 H' vs' (fA hs ((n::ks).zip gs))/\H' R=some (.dK kws)/\Lk kws (bD λc=>aP (fS f hs (n::ks)) c-cnt gs.flatten c)
def Lr(f:Nat->Option Int)(hs:List (Option (List Nat)))(n:Nat)(cw:List Nat)(r:Addr)(H':Hp):Prop:=∃(l1 l2:Addr) (rs:List Addr) (W:List Wt) (F:List Nat),H' r=some (.lst [.ref l1,.ref l2])/\H' l1=some (.lst (rs.map V.ref))/\Z2 H' rs W/\H' l2=some (.lst ((F.map one).map V.str))/\ZV (bG hs cw (aM hs n)) (kZ f hs (n::aM hs n)) W F
inductive rF(vs:List V)(H:Hp)(Q:VK)(zz3:XK):Prop|mk(a b:Addr)(kvs:List (Key×V))(f:Nat->Option Int)(us:List V)(hs:List (Option (List Nat)))(n:Nat)(cw:List Nat)(_:vs=[.ref a,.ref b,.int ((n:Nat):Int),.str (bB cw)])(_:ZW H a b kvs f us hs n cw)(_:(∀(t:Addr) (H':Hp),Z_ H H'->YE H f hs n cw t H'->Q (.ref t) H'))(_:(∀(r:Addr) (H':Hp),Z_ H H'->Lr f hs n cw r H'->Q (.ref r) H')):rF vs H Q zz3
def c4:Z9 ["_law_locker_here", "_law_halyards", "_law_number", "_law_word_here", "e"] ["_law_locker_here", "_law_halyards", "_law_number", "_law_word_here"] (aJ oM):=by fail "sc"
def Lp(F:ZR K "_law_asked" "_law_asked" oM f fd)(j9:sI P w K mg base 12 "hauled" ["locker", "halyards", "number", "word"] (sX Zw)):Z4 P w K mg base ZO 13 f fd ["_law_locker_here", "_law_halyards", "_law_number", "_law_word_here"] rF:=by
 refine F.ok c4 (λvs H Q E h=>?_) (λcdv A outer s H vs Q E hr h=>?_)
 .obtain⟨a,b,kvs,f,us,hs,n,cw,rfl,_⟩:=h;rfl
 obtain⟨a,b,kvs,f,us,hs,n,cw,rfl,hin,q,ql⟩:=h;refine⟨_,(@aH _ _ _ (Sw (i:=4) rfl rfl rfl c4.nd rfl rfl rfl G.YN (λy4 R=>(@aH _ _ _ (aR (Uc j9 (qM rfl) hr (by decide) rfl (aA (mv 0) (aA (mv 1) (aA (mv 2) (aA (mv 3) aB)))))))) (λy4 ea=>(@aH _ _ _ (aR (bL (aA (nE (K:=K) rfl (mv 4) rfl) (aA (nE (K:=K) rfl (mv 4) rfl) aB)))))))),?_⟩
 fail "g";refine⟨a,b,kvs,f,us,hs,n,cw,rfl,hin,λt L B R ks gs j vs' kwr H1 s1 ht et hL eL hfst hgs hcnt hB eB hatB hR eR lkR=>?_,λhno dx l1 l2 rs W F H1 s1 ed el1 hwt el2 hlo _ _=>⟨G.XA,λea hea=>?_⟩⟩
 .fail "g";exact q t H1 s1 ⟨L,B,R,ks,gs,j,vs',kwr,et,eL,hfst,hgs,hcnt,eB,hatB,eR,lkR⟩
 .have k2:=aF hea (oN ea (.ref Zw) (some dx))
  have e2:(upd H1 ea (oN ea (.ref Zw) (some dx))) ea=some (oN ea (.ref Zw) (some dx)):=aD
  have ed2:=k2 _ _ ed
  generalize upd H1 ea (oN ea (.ref Zw) (some dx))=H2 at k2 e2 ed2 ⊢;fail "g";refine⟨ea,Zw,dx,_,_,rfl,.inl e2,ed2,G.Ze,G.xn_Lack_wants,rfl,?_⟩;fail "g";refine⟨ea,Zw,dx,_,_,rfl,.inl e2,ed2,G.Ze,G.xn_Lack_flags,rfl,?_⟩;fail "g";refine⟨za1,λt ht=>?_⟩
  have s3:=k2.trans (aF ht (.lst [.ref l1,.ref l2]))
  exact ql t _ (s1.trans s3) ⟨l1,l2,rs,W,F,aD,s3 _ _ el1,⟨hwt.1,λj p w hp hw=>s3 _ _ (hwt.2 j p w hp hw)⟩,s3 _ _ el2,hlo⟩
def OE{n:Nat}{gs:Q6}(hn:n<hs.length)(hks:ks.Sublist (aM hs n))(hgs:Y8 (bG hs cw ks) gs):(∃g,(fA hs ((n::ks).zip gs)).getD n none=some g/\yD cw g)/\(∀k∈ks,∃g,(fA hs ((n::ks).zip gs)).getD k none=some g/\yD (Zs ((hs.getD k none).getD [])) g)/\∀k,k≠n->k∉ks->(fA hs ((n::ks).zip gs)).getD k none=hs.getD k none:=by
 have hgl:gs.length=(n::ks).length:=by rw[hgs.Xa];show (ks.map _).length+1=ks.length+1;rw[Ab]
 have ndz:(((n::ks).zip gs).map (·.1)).Nodup:=by
  rw[show ((n::ks).zip gs).map (·.1)=n::ks from List.map_fst_zip (by rw[hgl];exact Ai _)]
  exact nS hks
 have hlz:∀z∈(n::ks).zip gs,z.1<hs.length:=λz hz=>by
  rcases Az.mp (Ef hz).1 with e|e
  .rw[e];exact hn
  .exact(cN (hks.subset e)).1
 have row:∀ {c g},Hg c g->yD c g:=fun {c g} h=>⟨h.1,λk hk=>h.2 k _ (by rw[Ac,Aa hk];rfl)⟩
 have at_:∀(i k:Nat) (c:List Nat),(n::ks)[i]?=some k->(bG hs cw ks)[i]?=some c->∃g,(fA hs ((n::ks).zip gs)).getD k none=some g/\yD c g:=λi k c hk hc=>by
  obtain⟨g,hg,hh⟩:=hgs.at hc;exact⟨g,RH hs _ ndz hlz (k,g) (Ah (i:=i) (by rw[List.getElem?_zip_eq_some];exact⟨hk,hg⟩)),row hh⟩
 refine⟨at_ 0 n cw rfl rfl,λk hk=>?_,λk h1 h2=>qY hs _ λz hz=>?_⟩
 .obtain⟨i,hi⟩:=Cq.mp hk;refine at_ (i+1) k _ hi ?_;show (ks.map λk=>Zs ((hs.getD k none).getD []))[i]?=_
  rw[Af,hi];rfl
 .rcases Az.mp (Ef hz).1 with e|e
  .rw[e];exact Ne.symm h1
  .exact λy=>h2 (by rw[<-y];exact e)
def fU(ks:List Nat):(ks.map λk=>V.int ((k:Nat):Int)).all bR=true:=by
 rw[List.all_map];exact Ci.mpr λ_ _=>rfl
def lY(k:Nat)(ks:List Nat):Xx (.int ((k:Nat):Int)) (ks.map λk=>V.int ((k:Nat):Int))=decide (k∈ks):=by
 unfold Xx;rw[List.any_map,Ew,Ft,Bh];constructor
 .rintro⟨z,hz,e⟩;have e':(((z:Nat):Int)==((k:Nat):Int))=true:=e
  rw[Gw]at e';rw[show k=z by omega]
  exact hz
 .intro h;exact⟨k,h,show (((k:Nat):Int)==((k:Nat):Int))=true from Fn _⟩
def nR(m:Nat->Int):ZX (bD m):=λc hc=>by
 unfold bD at hc;split at hc
 .rename_i h
  exact h.1
 .cases hc
def M7{f:Nat->Option Int}(h:Lk kvs f)(hp:∀c m,f c=some m->1<=m):∃ns:List Int,kvs.map (·.2)=ns.map V.int/\∀m∈ns,1<=m:=by
 have:∀l:List (Key×V),(∀kv∈l,kv∈kvs)->∃ns:List Int,l.map (·.2)=ns.map V.int/\∀m∈ns,1<=m:=by
  intro l;induction l with
  |nil=>exact λ_=>⟨[],rfl,λm hm=>nomatch hm⟩
  |cons kv l ih=>
   intro hl;obtain⟨ns,e,p⟩:=ih λkv h'=>hl kv (Ao _ h');obtain⟨c,m,rfl,ec⟩:=h.YZ (hl _ Aq);refine⟨m::ns,by rw[Ar,e];rfl,λx hx=>?_⟩
   rcases Az.mp hx with rfl|hx
   .exact hp _ _ ec
   .exact p x hx
 exact this kvs λ_ h=>h
def Kf{c:Nat}{m:Int}(e:bD n c=some m):1<=m:=by
 unfold bD at e;split at e
 .next h=>cases e;have:=h.2;omega
 .cases e
inductive sS(vs:List V)(H:Hp)(Q:VK)(zz3:XK):Prop|mk(a b t:Addr)(kvs:List (Key×V))(f:Nat->Option Int)(us:List V)(hs:List (Option (List Nat)))(n:Nat)(cw:List Nat)(_:vs=[.ref a,.ref b,.int ((n:Nat):Int),.str (bB cw),.ref t])(_:ZW H a b kvs f us hs n cw)(_:ZX f)(_:YE H f hs n cw t H)(_:∀H',Z_ H H'->Q (.bl true) H'):sS vs H Q zz3
def v0:Z9 ["_law_locker_here", "_law_halyards", "_law_number", "_law_word_here", "_law_found", "_law_lowered", "_law_behind", "_law_held", "_law_k", "_law_every"] ["_law_locker_here", "_law_halyards", "_law_number", "_law_word_here", "_law_found"] (aJ mX):=by fail "sc"
def P7(F:ZR K "_law_hung" "_law_hung" mX f fd)(i0:ZP P w K mg base 1 "_law_same" ["_law_one", "_law_other"] uH)(y9:ZP P w K mg base 1 "_law_with" ["_law_locker_here", "_law_halyards", "_law_numbers"] kH)(o4:ZP P w K mg base 2 "_law_reads" ["_law_hoist", "_law_word_here"] rO)(z5:ZP P w K mg base 1 "_law_read" ["_law_hoist"] jZ):Z4 P w K mg base ZO 3 f fd ["_law_locker_here", "_law_halyards", "_law_number", "_law_word_here", "_law_found"] sS:=by
 refine F.ok v0 (λvs H Q E h=>?_) (λcdv A outer s H vs Q E hr h=>?_)
 .obtain⟨a,b,t,kvs,f,us,hs,n,cw,rfl,_⟩:=h;rfl
 obtain⟨a,b,t,kvs,f,us,hs,n,cw,rfl,⟨ha,lk,hf0,hb,hat,ok,h6,hn,hc1,hc7,hcL⟩,hfo,⟨L,B,R,ks,gs,j,vs',kws,et,eL,hfst,hgs,hcnt,eB,hatB,eR,lkR⟩,q⟩:=h;refine⟨_,(@aE _ _ _ _ _ (zU (mv 4) (Vi rfl (dM (aQ (i:=5) v0.nd rfl (Or.inl rfl)) (dM (aQ (i:=6) v0.nd rfl (Or.inl rfl)) (dM (aQ (i:=7) v0.nd rfl (Or.inr rfl)) pV))))) (@aE _ _ _ _ _ (bT (PW.pt (kX (dG (cB (aU mV rfl G.b_isinstance cA (aA (mv 5) (aA (hZ rfl G.b_list cR) aB))))) (kX (dG (cB (aU mV rfl G.b_isinstance cA (aA (mv 6) (aA (hZ rfl G.b_list cR) aB))))) (iB (aW Wz (aU cS rfl G.b_len cC (aA (mv 6) aB)) (aU cS rfl G.b_len cC (aA (mv 1) aB)) (bC _)))))) (@aH _ _ _ (aR dE)) bA) (@aE _ _ _ _ _ (bU Bf rfl (dZ rfl G.b_range (aA (aU cS rfl G.b_len cC (aA (mv 1) aB)) aB)) (aQ (i:=8) v0.nd rfl (Or.inl rfl)) (@aE _ _ _ _ _ (bT (PW.pt (hU (aW sM (mv 8) (mv 2) (bC _)) (gC (dG (cB (aV o4 hr (by decide) rfl (aA (bI cE (mv 6) (mv 8) (λ_ _=>rfl)) (aA (mv 3) aB)))))))) (@aH _ _ _ (aR dE)) bA) (@aE _ _ _ _ _ (bT (PW.pt (hU (aW Vo (mv 8) (mv 5) (by rfl)) (gC (PW.pt (kX (aW sM (mv 8) (mv 2) (bC _)) (iB (aW yT (bI cE (mv 1) (mv 8) (λ_ _=>rfl)) cV (bC _)))))))) (@aH _ _ _ (aR dE)) bA) (@aE _ _ _ _ _ (bT (PW.pt (hU (aW Vo (mv 8) (mv 5) (by rfl)) (gC (dG (cB (aV o4 hr (by decide) rfl (aA (bI cE (mv 6) (mv 8) (λ_ _=>rfl)) (aA (aV z5 hr (by decide) rfl (aA (bI cE (mv 1) (mv 8) (λ_ _=>rfl)) aB)) aB)))))))) (@aH _ _ _ (aR dE)) bA) (@aH _ _ _ (bT (PW.pt (hU (aW Wz (mv 8) (mv 2) (bC _)) (hU (aW rQ (mv 8) (mv 5) (by rfl)) (gC (aW (PU hr.Y3) (bI cE (mv 6) (mv 8) (λ_ _=>rfl)) (bI cE (mv 1) (mv 8) (λ_ _=>rfl)) (bC _)))))) (@aH _ _ _ (aR dE)) bA)))))) (@aE _ _ _ _ _ (aO 9 v0.nd (bV (Jy rfl) rfl G.b_list cR (aA (bV Rh rfl G.b_range Ol (aA (aU cS rfl G.b_len cC (aA (mv 1) aB)) aB)) aB))) (@aE _ _ _ _ _ (bT (aW Wv (Kp rfl rfl G.b_min (aA (UL (bW rfl (Sh (mv 7)) (dF (N:=["_law_flag", "_law_held"]) ["_law_locker_here", "_law_halyards", "_law_number", "_law_word_here", "_law_found", "_law_lowered", "_law_behind", "_law_held", "_law_k", "_law_every"] (aJ mX) [none,some 7] rfl rfl rfl (λx h=>bJ h) (by decide +kernel)) (by decide +kernel) rfl (by decide +kernel) (λ_ _ _ _=>(aQ (i:=0) (show List.Nodup (["_law_flag", "_law_held"]:List Str) by decide +kernel) rfl (Or.inl rfl))) (λ_ _ _ _=>cW) (λ_ _ _ _=>(gF (Z5.u1 hr) (mv 1) (mv 0) (λ_ _=>rfl))))) aB) (vY aK UQ)) aK (bC _)) (@aH _ _ _ (aR dE)) bA) (@aH _ _ _ (aR (aV i0 hr (by decide) rfl (aA (aV y9 hr (by decide) rfl (aA (mv 7) (aA (mv 6) (aA (mv 9) aB)))) (aA (aV y9 hr (by decide) rfl (aA (mv 0) (aA (mv 1) (aA (mv 9) aB)))) aB)))))))))),?_⟩
 have hks:ks.Sublist (aM hs n):=ZM.mp (Ah hfst.1)
 obtain⟨q1,q2,q3⟩:=OE hn hks hgs;have hul:=hat.len
 have hvl:=hatB.len
 rw[dL]at hvl;have tt:=eU et
 have rL:=aL eL
 have rB:=aL eB
 have mL:=aZ eL
 fail "g";rw[show (!decide (((vs'.length:Nat):Int)=((us.length:Nat):Int)))=false by rw[hvl,hul,Ap rfl];rfl]
 have rb0:=hb
 fail "g";rw[hul];refine⟨⟨by omega,by omega⟩,?_⟩
 rw[Co];refine eY (λi U H'=>∃v8 v9:Option V,U=[some (.ref a),some (.ref b),some (.int ((n:Nat):Int)),some (.str (bB cw)),some (.ref t),some (.ref L),some (.ref B),some (.ref R),v8,v9]/\Z_ H H') ⟨_,_,rfl,Z_.refl _⟩ ?_ ?_
 .rintro i U H1 hi ⟨v8,v9,rfl,s1⟩;have h00:(0:Int)+(i:Int)=((i:Nat):Int):=by omega
  have rL1:=aG s1 rL
  have rB1:=aG s1 rB
  have rb1:=aG s1 hb
  obtain⟨u,au,_,hv⟩:=(hat.keep s1).get hi;obtain⟨u',au',_,hv'⟩:=(hatB.keep s1).get (k:=i) (by rw[dL];exact hi)
  fail "g";rw[h00];by_cases en:i=n
  .subst en;have nk:i∉ks:=λz=>(cN (hks.subset z)).2.2 rfl
   obtain⟨g,eg,hg⟩:=q1;rw[eg]at hv';obtain⟨pg,rfl,hpg⟩:=hv';rw[Ap rfl];fail "g";refine cL rB1 au' ?_;fail "g";refine⟨pg,cw,g,rfl,hpg,hc7,hg,λH2 s2=>?_⟩;have rL2:=aG s2 rL1
   fail "g";refine kU (neg:=false) rL2 rfl (fU ks) ?_;rw[if_neg An,lY,Al nk];fail "g";refine kU (neg:=false) rL2 rfl (fU ks) ?_;rw[if_neg An,lY,Al nk];fail "g";rw[show (!decide (((i:Nat):Int)=((i:Nat):Int)))=false by rw[Ap rfl];rfl]
   fail "g";exact⟨_,_,rfl,s1.trans s2⟩
  .rw[Al (show ¬((i:Nat):Int)=((n:Nat):Int) by omega)]
   fail "g";refine kU (neg:=false) rL1 rfl (fU ks) ?_;rw[if_neg An,lY];by_cases hk:i∈ks
   .rw[Ap hk];have hsome:=(cN (hks.subset hk)).2.1
    obtain⟨g,eg,hg⟩:=q2 i hk;rw[eg]at hv';obtain⟨pg,rfl,hpg⟩:=hv';cases eh:hs.getD i none with
    |none=>rw[eh]at hsome;cases hsome
    |some cs=>
     rw[eh]at hv hg;obtain⟨pc,rfl,hpc⟩:=hv;have hoi:cG (cs.map one)=true:=ok cs (by
      rw[Ac,Aa hi]at eh;rw[<-show hs[i]=some cs from eh];exact Bo hi)
     have h7:=(dX hoi).2
     rw[Ab]at h7;fail "g";rw[Al (show ¬((i:Nat):Int)=((n:Nat):Int) by omega)]
     fail "g";refine cL rb1 au ?_;fail "g";rw[show decide (V.ref pc=V.non)=false from Al (λz=>nomatch z)]
     fail "g";refine kU (neg:=false) rL1 rfl (fU ks) ?_;rw[if_neg An,lY,Ap hk];fail "g";refine cL rB1 au' ?_;fail "g";refine cL rb1 au ?_;fail "g";refine⟨pc,cs,rfl,aL hpc,hoi,?_⟩;fail "g";refine⟨pg,Zs cs,g,rfl,hpg,by rw[qA];exact h7,hg,λH2 s2=>?_⟩
     have rL2:=aG s2 rL1
     fail "g";rw[show (!decide (((i:Nat):Int)=((n:Nat):Int)))=true by rw[Al (by omega)];rfl]
     fail "g";refine kU (neg:=true) rL2 rfl (fU ks) ?_;rw[if_pos rfl,lY,Ap hk];fail "g";exact⟨_,_,rfl,s1.trans s2⟩
   .rw[Al hk];fail "g";refine kU (neg:=false) rL1 rfl (fU ks) ?_;rw[if_neg An,lY,Al hk];fail "g";rw[show (!decide (((i:Nat):Int)=((n:Nat):Int)))=true by rw[Al (by omega)];rfl]
    fail "g";refine kU (neg:=true) rL1 rfl (fU ks) ?_;rw[if_pos rfl,lY,Al hk];fail "g";refine cL rB1 au' ?_;fail "g";refine cL rb1 au ?_;rw[q3 i en hk]at hv';cases eh:hs.getD i none with
    |none=>
     rw[eh]at hv hv';obtain rfl:u=V.non:=hv;obtain rfl:u'=V.non:=hv';refine .inl ⟨rfl,rfl,?_⟩;fail "g";exact⟨_,_,rfl,s1⟩
    |some cs=>
     rw[eh]at hv hv';obtain⟨pc,rfl,hpc⟩:=hv;obtain⟨pd,rfl,hpd⟩:=hv';refine .inr (V2 (neg:=true) (aL hpd) (aL hpc) (cK _) (cK _) ?_);rw[if_pos rfl,qQ];fail "g";exact⟨_,_,rfl,s1⟩
 .rintro U H1 ⟨v8,v9,rfl,s1⟩;have rb1:=aG s1 hb
  fail "g";rw[hul];refine NU λr1 hr1=>?_;have k1:=aF hr1 (HO.rng 0 ((hs.length:Nat):Int))
  have e1:(upd H1 r1 (HO.rng 0 ((hs.length:Nat):Int))) r1=some (HO.rng 0 ((hs.length:Nat):Int)):=aD
  generalize upd H1 r1 (HO.rng 0 ((hs.length:Nat):Int))=H2 at k1 e1 ⊢;fail "g";refine QI e1 (by omega) λr2 hr2=>?_
  have k2:=k1.trans (aF hr2 (.lst ((List.range hs.length).map λk=>V.int ((k:Nat):Int))))
  have e2:(upd H2 r2 (.lst ((List.range hs.length).map λk=>V.int ((k:Nat):Int)))) r2=some (.lst ((List.range hs.length).map λk=>V.int ((k:Nat):Int))):=aD
  generalize upd H2 r2 (.lst ((List.range hs.length).map λk=>V.int ((k:Nat):Int)))=H3 at k2 e2 ⊢;have s3:=s1.trans k2
  have eR3:=s3 _ _ eR
  fail "g";refine Nk ?_;fail "g";refine TZ eR3 λoR=>?_;have fz:(upd H3 R (.frz oR (.dK kws))) R=_:=aD
  refine fR (n:=kws.length) (λD i ys Hc=>Z_ (upd H3 R (.frz oR (.dK kws))) Hc/\ys=(kws.take i).map (·.2)) (aY (by have:=RK lkR (nR _);omega)) (λD hD=>⟨aF hD _,rfl⟩) (λD i ys Hc _ r h=>⟨r.1 _ _ fz,h⟩) (λD ys Hc _ r=>⟨r.1 _ _ fz,rfl⟩) ?_ ?_
  .rintro D i ys Hc x H' A' B' hD hi ⟨sm,rfl⟩ hDc ⟨rfl,kv,hkv,rfl⟩ hA' hB';obtain⟨c,m,rfl,ec⟩:=lkR.YZ (Ah hkv);dsimp only[kV];fail "g";refine⟨Wk.set rfl (Wk.refl _),?_⟩;fail "g";refine qF (z:=one c) (v:=.int m) (.inr ⟨_,sm _ _ fz⟩) (by rw[lkR.val c,ec];rfl) ?_
   refine hA' _ _ hDc ⟨bF hD sm,?_⟩;rw[Be,hkv,Aj];rfl
  .rintro D ys Hc hD ⟨sm,rfl⟩ hDc _;rw[Br]at hDc;have su:=nK eR3 (λo v z=>nomatch z) sm
   have eu:=dS (Hs:=H3) hDc (λo v z=>nomatch z)
   generalize Zr H3 Hc=H4 at su eu ⊢;obtain⟨ns,hns,hn1⟩:=M7 lkR λc m e=>Kf e;rw[hns]at eu;have s4:=s3.trans su
   have e24:=su _ _ e2
   fail "g";have hlk:∀k∈ks,k<hs.length/\(hs.getD k none).isSome=true:=λk hk=>by
    have:=cN (hks.subset hk)
    exact⟨this.1,this.2.1⟩
   have hgf:=VU hgs (lS ok hc1 ⟨hc7,hcL⟩ hlk)
   have okB:dY (fA hs ((n::ks).zip gs)):=wA ok _ λz hz=>(hgf z.2 (Ef hz).2).1
   have htot:=xR hf0 hfo ok hn hks hgs (λg hg=>(hgf g hg).2) hcnt
   refine⟨D,ns,.int 1,rfl,rfl,aL eu,λ_=>?g1,λm hm _=>?g2⟩;case' g1=>
    fail "g";rw[show decide ((1:Int)<1)=false from rfl]
   case' g2=>
    have h1:=hn1 m hm
    fail "g";rw[Al (show ¬m<1 by omega)]
   all_goals fail "g"
   all_goals refine⟨R,B,r2,kws,_,vs',_,List.range hs.length,rfl,s4 _ _ eR,lkR,nR _,aG s4 rB,hatB.keep s4,okB,aL e24,by rw[Bm];exact h6,λk hk=>by rw[dL];exact By.mp hk,λr kw1 g1 H5 hr s5 e5 lk5 fo5 hc5=>?_⟩
   all_goals fail "g"
   all_goals refine⟨a,b,r2,kvs,f,us,hs,List.range hs.length,rfl,(s4.trans s5) _ _ ha,lk,hfo,aG (s4.trans s5) hb,hat.keep (s4.trans s5),ok,aL (s5 _ _ e24),by rw[Bm];exact h6,λk hk=>By.mp hk,λr' kw2 g2 H6 hr' s6 e6 lk6 fo6 hc6=>?_⟩
   all_goals fail "g"
   all_goals exact⟨r,r',kw1,kw2,g1,g2,rfl,s6 _ _ e5,lk5,e6,lk6,λc hc=>by rw[hc5,hc6];have:=htot c;unfold uU at this;rw[dL]at this;exact this,λH' s'=>q H' (((s4.trans s5).trans s6).trans s')⟩
def LW{f:Nat->Option Int}{n:Nat}{ks':List Nat}{j':Nat}(h:lF f hs n cw ks j)(h':lF f hs n cw ks' j'):j=j':=by
 rcases Nat.lt_trichotomy j j' with l|e|l
 .exact absurd h.2.1 (h'.2.2 j ks l h.1)
 .exact e
 .exact absurd h'.2.1 (h.2.2 j' ks' l h'.1)
def zT(hs:Q4)(n:Nat):(aM hs n).Pairwise (· < ·):=List.Pairwise.sublist Ee List.pairwise_lt_range
def eF{u:HO}(s:ZY Pt H H')(tb:∃ps,H Pt=some (.tbl ps))(h:H b=some u)(hu:∀t,u≠.tbl t):H' b=some u:=s b u (λz=>by
 obtain⟨t,e⟩:=tb;rw[z,e]at h;cases h;exact hu t rfl) h
def Z6.YQ(a:Z6 H vs hs)(s:ZY Pt H H')(tb:∃ps,H Pt=some (.tbl ps)):Z6 H' vs hs:=⟨a.len,λj v h hv hh=>(a.val j v h hv hh).keep λp xs hp _=>eF s tb hp λt z=>nomatch z⟩
def ZW.YQ{f:Nat->Option Int}{n:Nat}(h:ZW H a b kvs f us hs n cw)(s:ZY Pt H H')(tb:∃ps,H Pt=some (.tbl ps)):ZW H' a b kvs f us hs n cw:=by
 obtain⟨ha,lk,hf0,hb,hat,r⟩:=h;exact⟨eF s tb ha (λt z=>nomatch z),lk,hf0,yH s hb tb,hat.YQ s tb,r⟩
def ZW.keep{H:Hp}{f:Nat->Option Int}{n:Nat}(h:ZW H a b kvs f us hs n cw)(s:Z_ H H'):ZW H' a b kvs f us hs n cw:=by
 obtain⟨ha,lk,hf0,hb,hat,r⟩:=h;exact⟨s _ _ ha,lk,hf0,aG s hb,hat.keep s,r⟩
def L6{m:List Nat}(h:zI l=zI m):l=m:=by
 unfold zI at h;exact List.map_inj_right (λa b z=>by omega) |>.mp h
def JZ{f:Nat->Option Int}(hf0:∀c,0<=aP f c)(hs:Q4)(L:List Nat)(c:Nat):kZ f hs L c=if fP c then aP f c+cnt (aS hs L) c else 0:=by
 by_cases hc:fP c
 .rw[if_pos hc];have h0:0<=aP f c+cnt (aS hs L) c:=by have:=hf0 c;have:=fO (aS hs L) c;omega
  have e:aP (fS f hs L) c=aP f c+cnt (aS hs L) c:=dW (n:=λc=>aP f c+cnt (aS hs L) c) hc h0
  unfold kZ;rw[dW hc (by rw[e];exact h0),e]
 .rw[if_neg hc];show (bD _ c).getD 0=0
  unfold bD;rw[if_neg λz=>hc z.1];rfl
def uC{f g:Nat->Option Int}{W:List Wt}(hf0:∀c,0<=aP f c)(hg:∀c,aP g c=aP f c+cnt (aS hs L) c)(h:ZV cws (kZ f hs L) W F):ZV cws (aP g) W F:=by
 refine⟨h.sub,h.flags,h.all,?_⟩;have e:F.map (aP g)=F.map (kZ f hs L):=Bw λc hc=>by
  obtain⟨p,hp⟩:=h.flags;rw[hp]at hc;rw[JZ hf0,if_pos (ZQ.mp (Dr.mp hc).1),hg c]
 rw[e];exact h.VD
def Kh:mP xs none (some ((k:Nat):Int))=xs.take k:=by
 unfold mP;show (xs.drop 0).take ((if ((k:Nat):Int)<0 then (((k:Nat):Int)+(xs.length:Int)).toNat else min ((k:Nat):Int).toNat xs.length)-0)=_
 rw[if_neg (by omega),List.drop_zero,Nat.sub_zero,Co]
 by_cases h:k<=xs.length
 .rw[Gu h]
 .rw[Fu (by omega),Br,Bl (by omega)]
def V_(H:Hp)(u:Addr):V:=match H u with
 |some (.tup (x::_))=>x
 |_=>.non
def rK(hs:List (Option (List Nat)))(k:Nat):V:=.str (bB (Zs ((hs.getD k none).getD [])))
def sW(hs:Q4)(cw l:List Nat):[V.str (bB cw)]++l.map (rK hs)=((bG hs cw l).map bB).map V.str:=by
 unfold bG;rw[Ar,Ar,Bu,Bu];rfl
inductive pG(Pt:Addr)(vs:List V)(H:Hp)(Q:VK)(zz3:XK):Prop|mk(a b L:Addr)(kvs:List (Key×V))(f:Nat->Option Int)(us:List V)(hs:List (Option (List Nat)))(n:Nat)(cw ks:List Nat)(j:Nat)(_:vs=[.ref a,.ref b,.int ((n:Nat):Int),.str (bB cw),.ref L])(_:ZW H a b kvs f us hs n cw)(_:ZX f)(_:(∀c,aP f c<=900))(_:H L=some (.lst (ks.map λk=>V.int ((k:Nat):Int))))(_:lF f hs n cw ks j)(_:yK Pt H)(_:∀H',ZY Pt H H'->yK Pt H'->Q (.bl true) H'):pG Pt vs H Q zz3
def z6:Z9 ["_law_locker_here", "_law_halyards", "_law_number", "_law_word_here", "_law_lowered", "_law_others_here", "_law_sets_here", "_law_papers_here", "_law_one", "_law_wants", "_law_flags", "_law_words"] ["_law_locker_here", "_law_halyards", "_law_number", "_law_word_here", "_law_lowered"] (aJ iN):=by fail "sc"
def zD(F:ZR K "_law_papers" "_law_papers" iN f fd)(u0:ZP P w K mg base 1 "_law_others" ["_law_halyards", "_law_number"] jK)(i4:ZP P w K mg base 1 "_law_sets" ["_law_numbers"] (oZ Pt))(i5:sI P w K mg base 12 "hauling_papers" ["locker", "halyards", "number", "word"] (gD Zw))(u5:ZP P w K mg base 2 "_law_lack" ["_law_locker_here", "_law_words", "_law_wants", "_law_flags"] oK)(z5:ZP P w K mg base 1 "_law_read" ["_law_hoist"] jZ)(y9:ZP P w K mg base 1 "_law_with" ["_law_locker_here", "_law_halyards", "_law_numbers"] kH):Z4 P w K mg base ZO 13 f fd ["_law_locker_here", "_law_halyards", "_law_number", "_law_word_here", "_law_lowered"] (pG Pt):=by
 refine F.ok z6 (λvs H Q E h=>?_) (λcdv A outer s H vs Q E hr h=>?_)
 .obtain⟨a,b,L,kvs,f,us,hs,n,cw,ks,j,rfl,_⟩:=h;rfl
 obtain⟨a,b,L,kvs,f,us,hs,n,cw,ks,j,rfl,hin,hfo,hf9,eL,hfst,lam,q⟩:=h;refine⟨_,(@aE _ _ _ _ _ (aO 5 z6.nd (aV u0 hr (by decide) rfl (aA (mv 1) (aA (mv 2) aB)))) (@aE _ _ _ _ _ (aO 6 z6.nd (aV i4 hr (by decide) rfl (aA (mv 5) aB))) (@aE _ _ _ _ _ (bT (aW (QN (Z5.u1 hr)) (mv 4) (mv 6) (by rfl)) (@aH _ _ _ (aR dE)) bA) (@aE _ _ _ _ _ (aO 6 z6.nd (mO VZ (mv 6) uZ (nH (dD Cc PySem.F.slot_list_index PySem.F.type_list_index (Qi hr.units) (mv 6) (aA (mv 4) aB))))) (@aE _ _ _ _ _ (aO 7 z6.nd (kD i5 tF hr (by decide) rfl (aA (mv 0) (aA (mv 1) (aA (mv 2) (aA (mv 3) aB)))))) (@aE _ _ _ _ _ (bT (PW.pt (kX (dG (cB (aU mV rfl G.b_isinstance cA (aA (mv 7) (aA (hZ rfl G.b_list cR) aB))))) (iB (aW (KQ hr.units) (bW rfl (bP (mv 7)) (VJ (N:=["_law_paper"]) (by decide +kernel) (by decide +kernel)) (by decide +kernel) rfl (by decide +kernel) (λ_ _ _ _=>(aQ (i:=0) (show List.Nodup (["_law_paper"]:List Str) by decide +kernel) rfl (Or.inl rfl))) (λ_ _ _ _=>cW) (λ_ _ _ _=>(bI cE (mv 0) aK (λ_ _=>rfl)))) (mv 6) (bC _))))) (@aH _ _ _ (aR dE)) bA) (@aE _ _ _ _ _ (bU Bf rfl (bP (mv 7)) (Vi rfl (dM (aQ (i:=8) z6.nd rfl (Or.inl rfl)) (dM (aQ (i:=9) z6.nd rfl (Or.inl rfl)) (dM (aQ (i:=10) z6.nd rfl (Or.inl rfl)) pV)))) (@aE _ _ _ _ _ (aO 11 z6.nd (aX bS (bL (aA (mv 3) aB)) (bW rfl (bP (mv 8)) (dF (N:=["_law_k", "_law_halyards"]) ["_law_locker_here", "_law_halyards", "_law_number", "_law_word_here", "_law_lowered", "_law_others_here", "_law_sets_here", "_law_papers_here", "_law_one", "_law_wants", "_law_flags", "_law_words"] (aJ iN) [none,some 1] rfl rfl rfl (λx h=>bJ h) (by decide +kernel)) (by decide +kernel) rfl (by decide +kernel) (λ_ _ _ _=>(aQ (i:=0) (show List.Nodup (["_law_k", "_law_halyards"]:List Str) by decide +kernel) rfl (Or.inl rfl))) (λ_ _ _ _=>cW) (λ_ _ _ _=>(aV z5 hr (by decide) rfl (aA (bI cE (mv 1) (mv 0) (λ_ _=>rfl)) aB)))))) (@aH _ _ _ (bT (dG (cB (aV u5 hr (by decide) rfl (aA (aV y9 hr (by decide) rfl (aA (mv 0) (aA (mv 1) (aA (aX bS (bL (aA (mv 2) aB)) (mv 8)) aB)))) (aA (mv 11) (aA (mv 9) (aA (mv 10) aB))))))) (@aH _ _ _ (aR dE)) bA)))) (@aH _ _ _ (aR dE))))))))),?_⟩
 obtain⟨ha,lk,hf0,hb,hat,ok,h6,hn,hc1,hc7,hcL⟩:=id hin;have hol:=iL hn
 fail "g";refine⟨b,us,hs,n,rfl,hb,hat,by omega,λro H1 hro s1 eo=>?_⟩
 fail "g";refine⟨ro,aM hs n,rfl,aL eo,by omega,zT hs n,lam.keep s1,λD ps H2 s2 lam2 hD eD hpl hps=>?_⟩
 have tb1:=(lam.keep s1).tb
 have P2:ZY Pt H H2:=(Z_.p s1).trans s2
 have hin2:=(hin.keep s1).YQ s2 tb1
 have eL2:H2 L=some (.lst (ks.map λk=>V.int ((k:Nat):Int))):=eF s2 tb1 (s1 _ _ eL) λt z=>nomatch z
 clear hro s1 eo hD s2 tb1 lam;have rL2:Z8 H2 L=some ((zI ks).map V.int):=by rw[Vm];exact aL eL2
 have hLs:Wf H2 ps ((bN (aM hs n)).map zI):=⟨by rw[Ab];exact hpl,λi p k hp hk=>by
  rw[Af]at hk;obtain⟨l,el,rfl⟩:=Cu.mp hk;rw[Vm];exact hps i p l hp el⟩
 have hkj:((bN (aM hs n)).map zI)[j]?=some (zI ks):=by rw[Af,hfst.1];rfl
 fail "g";refine Q7 rL2 (aL eD) hLs.1 hLs.2 ?_;rw[Ap (Ah hkj)];fail "g";refine Oy rL2 (aL eD) hLs hkj (λi y hi hy e=>?_) ?_
 .rw[Af]at hy;obtain⟨l,el,rfl⟩:=Cu.mp hy;have:=L6 e
  subst this;exact hfst.2.2 i l hi el hfst.2.1
 fail "g";intro rs hrs;rw[Kh];have k3:=aF hrs (.lst ((ps.map V.ref).take j))
 have e3:(upd H2 rs (.lst ((ps.map V.ref).take j))) rs=some (.lst ((ps.map V.ref).take j)):=aD
 generalize upd H2 rs (.lst ((ps.map V.ref).take j))=H3 at k3 e3 ⊢;fail "g";refine⟨a,b,kvs,f,us,hs,n,cw,rfl,hin2.keep k3,λp ts ks' j' H4 s4 hf' hp ep htl hpap=>?_,λhno=>absurd hfst.2.1 (hno ks (ZM.mp (Ah hfst.1)))⟩;obtain rfl:=LW hfst hf';have k4:=k3.trans s4
 have rp4:=aL ep
 have rs4:=aL (s4 _ _ e3)
 have hin4:=hin2.keep k4
 have P4:ZY Pt H H4:=P2.trans (Z_.p k4)
 have lam4:=lam2.keep k4
 have hps4:∀(i:Nat) p l,ps[i]?=some p->(bN (aM hs n))[i]?=some l->Z8 H4 p=some (l.map λk=>V.int ((k:Nat):Int)):=λi p l h1 h2=>aG k4 (hps i p l h1 h2)
 clear rL2 hLs hkj eD eL2 hps hin2 P2 lam2 k3 e3 hrs s4 k4 hp hf' ks';have hjs:j<(bN (aM hs n)).length:=(Ad.mp hfst.1).1
 have hsl:(bN (aM hs n)).length<=6*6^5:=Bd (kK (i:=(aM hs n).length+1) (by omega) (by omega)) (Nat.mul_le_mul_right _ (by omega))
 have htl2:(ts.map V.ref).length<sizeLine:=aY (by rw[Ab,htl];omega)
 have hset:∀(i:Nat) u,ts[i]?=some u->∃l,(bN (aM hs n))[i]?=some l:=λi u hu=>by
  have:=(Ad.mp hu).1
  exact⟨_,Aa (by omega)⟩
 fail "g";refine fV (λi=>(ts[i]?).map (V_ H4)) rp4 htl2 (λi x Hc A B hx sm hA hB=>?_) (λD5 H5 hD5 s5 e5=>?_)
 .obtain⟨u,hu,rfl⟩:=lJ hx;obtain⟨l,hl⟩:=hset i u hu;obtain⟨c,l1,l2,_,_,_,h1,_⟩:=hpap i u l hu hl;have hc:=sm _ _ h1
  fail "g";refine⟨Wk.set rfl (Wk.refl _),?_⟩;fail "g";refine iT hc (v:=.ref c) rfl ?_;exact hA _ (by rw[hu];show some (V_ H4 u)=_;unfold V_;rw[h1]) _ (Z_.refl _)
 .rw[Ab,hV]at e5;fail "g";refine Qs 1 (aL e5) (aG s5 rs4) (by rw[Ab,Bt,Ab];omega) (λi x y hx hy=>?_) ?_
  .rw[Af]at hx;obtain⟨u,hu,rfl⟩:=Cu.mp hx;obtain⟨l,hl⟩:=hset i u hu;obtain⟨c,l1,l2,_,_,_,h1,h2,_⟩:=hpap i u l hu hl;rw[List.getElem?_take_of_lt (by have:=(Ad.mp hu).1;omega)]at hy
   obtain⟨p',hp',rfl⟩:=lJ hy;rw[show V_ H4 u=.ref c by unfold V_;rw[h1]]
   exact .inr ⟨c,p',rfl,rfl,.inl ⟨_,_,aL (s5 _ _ h2),aG s5 (hps4 i p' l hp' hl),rfl,λj x y hx hy=>by
    rw[hx]at hy;cases hy;obtain⟨k,_,rfl⟩:=fH hx;exact WN.same (.inl rfl)⟩⟩
  have hin5:=hin4.keep s5
  have P5:ZY Pt H H5:=P4.trans (Z_.p s5)
  have lam5:=lam4.keep s5
  have rp5:=aG s5 rp4
  fail "g";refine cP (xs:=ts.map V.ref) (λi U H'=>∃v8 v9 v10 v11:Option V,U=[some (.ref a),some (.ref b),some (.int ((n:Nat):Int)),some (.str (bB cw)),some (.ref L),some (.ref ro),some (.ref rs),some (.ref p),v8,v9,v10,v11]/\Z_ H5 H') ⟨_,_,_,_,rfl,Z_.refl _⟩ (λi U H' _ ⟨_,_,_,_,_,s⟩=>aG s rp5) ?_ ?_
  .rintro i x U H6 hx ⟨v8,v9,v10,v11,rfl,s6⟩;obtain⟨u,hu,rfl⟩:=lJ hx;obtain⟨l,hl⟩:=hset i u hu;have hls:l.Sublist (aM hs n):=ZM.mp (Ah hl)
   obtain⟨c,l1,l2,ws,W,F,h1,h2,h3,h4,h5,hlo⟩:=((hpap i u l hu hl).keep s5).keep s6;obtain⟨ha,_,_,hb,hat,_⟩:=hin5.keep s6;have tt:=eU h1
   have rc:=aL h2
   have hlk:∀k∈l,k<hs.length/\(hs.getD k none).isSome=true:=λk hk=>by
    have:=cN (hls.subset hk)
    exact⟨this.1,this.2.1⟩
   have hll:l.length<=5:=by have:=hls.length_le;omega
   fail "g";refine⟨za0,λp7 hp7=>?_⟩
   have k7:=aF hp7 (.lst [V.str (bB cw)])
   have e7:(upd H6 p7 (.lst [V.str (bB cw)])) p7=some (.lst [V.str (bB cw)]):=aD
   generalize upd H6 p7 (.lst [V.str (bB cw)])=H7 at k7 e7 ⊢;have rc7:=aG k7 rc
   have hb7:=aG k7 hb
   have hat7:=hat.keep k7
   have hl7:(l.map λk=>V.int ((k:Nat):Int)).length<sizeLine:=aY (by rw[cY];omega)
   fail "g";refine fV (λi=>(l[i]?).map (rK hs)) rc7 hl7 (λi x Hc A B hx sm hA hB=>?_) (λD8 H8 hD8 s8 e8=>?_)
   .obtain⟨k,hk,rfl⟩:=fH hx;obtain⟨hkl,hks⟩:=hlk k (Ah hk);obtain⟨v,av,_,hv⟩:=(hat7.keep sm).get hkl;cases eh:hs.getD k none with
    |none=>rw[eh]at hks;cases hks
    |some cs=>
     rw[eh]at hv;obtain⟨pc,rfl,hpc⟩:=hv;have hoi:cG (cs.map one)=true:=ok cs (by
      rw[Ac,Aa hkl]at eh;rw[<-show hs[k]=some cs from eh];exact Bo hkl)
     fail "g";refine⟨Wk.set rfl (Wk.refl _),?_⟩;fail "g";refine cL (aG sm hb7) av ?_;fail "g";refine⟨pc,cs,rfl,aL hpc,hoi,?_⟩;exact hA _ (by rw[hk];show some (rK hs k)=_;unfold rK;rw[eh];rfl) _ (Z_.refl _)
   rw[cY,hV]at e8;refine eM (aZ (s8 _ _ e7)) (aZ e8) (bE (by rw[Ab];show 1+_<=_;omega)) λp9 hp9=>?_
   rw[sW];have k9:=aF hp9 (.lst (((bG hs cw l).map bB).map V.str))
   have e9:(upd H8 p9 (.lst (((bG hs cw l).map bB).map V.str))) p9=some (.lst (((bG hs cw l).map bB).map V.str)):=aD
   generalize upd H8 p9 (.lst (((bG hs cw l).map bB).map V.str))=H9 at k9 e9 ⊢;have s69:=k7.trans (s8.trans k9)
   clear e7 e8 hD8 hp9 hb7 hat7 rc7 k7 s8 k9;fail "g";refine⟨za0,λp10 hp10=>?_⟩
   have k10:=aF hp10 (.lst [V.int ((n:Nat):Int)])
   have e10:(upd H9 p10 (.lst [V.int ((n:Nat):Int)])) p10=some (.lst [V.int ((n:Nat):Int)]):=aD
   generalize upd H9 p10 (.lst [V.int ((n:Nat):Int)])=H10 at k10 e10 ⊢;fail "g";refine eM (aZ e10) (aZ ((s69.trans k10) _ _ h2)) (bE (by rw[cY];show 1+_<=_;omega)) λp11 hp11=>?_
   have k11:=aF hp11 (.lst ((n::l).map λk=>V.int ((k:Nat):Int)))
   have e11:Z8 (upd H10 p11 (.lst ((n::l).map λk=>V.int ((k:Nat):Int)))) p11=some ((n::l).map λk=>V.int ((k:Nat):Int)):=dA
   change uY _ (upd H10 p11 (.lst ((n::l).map λk=>V.int ((k:Nat):Int)))) _
   generalize upd H10 p11 (.lst ((n::l).map λk=>V.int ((k:Nat):Int)))=H11 at k11 e11 ⊢;have s911:=k10.trans k11
   have s611:=s69.trans s911
   clear k10 k11 e10 hp11;fail "g";refine⟨a,b,p11,kvs,f,us,hs,n::l,rfl,s611 _ _ ha,lk,hfo,aG s611 hb,hat.keep s611,ok,e11,by rw[Av];omega,λk hk=>by rcases Az.mp hk with e|e;(· rw[e];exact hn);(· exact(hlk k e).1),λr12 kw g H12 hr12 s12 e12 lkg fog hg=>?_⟩
   have s612:=s611.trans s12
   have fl:=eJ ok (n::l)
   rw[Av]at fl;have hwo:=gO (cw:=cw) ok ⟨hc7,hcL⟩ hlk
   fail "g";refine⟨r12,p9,l1,l2,kw,g,bG hs cw l,ws,W,F,rfl,e12,lkg,λc=>?_,aL ((s911.trans s12) _ _ e9),by unfold bG;rw[Av,Ab];omega,λc hc=>(hwo c hc).1,s612 _ _ h3,⟨h4.1,λj p w hp hw=>s612 _ _ (h4.2 j p w hp hw)⟩,s612 _ _ h5,uC hf0 hg hlo,λH13 s13=>?_⟩
   .have h1:=hf0 c
    have h2:=hf9 c
    have h3:=fO (aS hs (n::l)) c
    have h4:cnt (aS hs (n::l)) c<=((aS hs (n::l)).length:Int):=Int.ofNat_le.mpr Ge
    rw[hg c];omega
   fail "g";exact⟨_,_,_,_,rfl,s6.trans (s612.trans s13)⟩
  .rintro U H6 ⟨v8,v9,v10,v11,rfl,s6⟩;fail "g";exact q _ (P5.trans (Z_.p s6)) (lam5.keep s6)
def Z6.VV{q:Addr}(a:Z6 H vs hs)(b:Z6 H us hs)(hp:Z8 H p=some vs)(hq:Z8 H q=some us):Y6 H 2 (.ref p) (.ref q):=by
 refine .lst hp hq (by rw[a.len,b.len]) λj x y hx hy=>?_
 obtain⟨h,hh,hv⟩:=a.at hx;have hw:=b.val j y h hy hh
 cases h with
 |none=>
  rw[show x=.non from hv,show y=.non from hw];exact Y6.flat rfl
 |some cs=>
  obtain⟨p1,rfl,h1⟩:=hv;obtain⟨p2,rfl,h2⟩:=hw;exact .lst (aL h1) (aL h2) rfl (Y6.XT (cK _))
def Y6.up:∀ {n:Nat} {x y:V},Y6 H n x y->Y6 H (n+1) x y
 |0,x,y,h=>.inl h
 |n+1,x,y,h=>by
  rcases h with h|⟨p,q,h1,h2,⟨xs,ys,h3,h4,h5,h6⟩|h3⟩
  .exact .inl h
  .exact .inr ⟨p,q,h1,h2,.inl ⟨xs,ys,h3,h4,h5,λj x' y' hx hy=>Y6.up (h6 j x' y' hx hy)⟩⟩
  .exact .inr ⟨p,q,h1,h2,.inr h3⟩
def YE.keep{H0 H H'':Hp}{f:Nat->Option Int}{n:Nat}{t:Addr}(h:YE H0 f hs n cw t H')(s:Z_ H' H''):YE H f hs n cw t H'':=by
 obtain⟨L,B,R,ks,gs,j,vs',kws,h1,h2,h3,h4,h5,h6,h7,h8,h9⟩:=h;exact⟨L,B,R,ks,gs,j,vs',kws,s _ _ h1,s _ _ h2,h3,h4,h5,s _ _ h6,h7.keep s,s _ _ h8,h9⟩
def zM(n:Nat->Int)(c:Nat):0<=aP (bD n) c:=by
 show 0<=(bD n c).getD 0
 unfold bD;split
 .rename_i h;exact Int.le_of_lt h.2
 .exact Hq _
def Qm(e:Z8 H p=none)(t:kN H p=some xs)(h:Q (.int ((xs.length:Nat):Int)) H):Xd [.ref p] H Q:=by
 unfold Xd;simp only[e,t];exact h
inductive tS(Pt:Addr)(vs:List V)(H:Hp)(Q:VK)(zz3:XK):Prop|mk(a b:Addr)(kvs:List (Key×V))(f:Nat->Option Int)(us:List V)(hs:List (Option (List Nat)))(n:Nat)(cw:List Nat)(_:vs=[.ref a,.ref b,.int ((n:Nat):Int),.str (bB cw)])(_:ZW H a b kvs f us hs n cw)(_:ZX f)(_:(∀c,uU f hs c<=900))(_:yK Pt H)(_:∀(r a' b':Addr) (kvs':List (Key×V)) (f':Nat->Option Int) (us':List V) (hs':Q4) (H':Hp),ZY Pt H H'->yK Pt H'->H' r=some (.lst [.ref a',.ref b'])->ZW H' a' b' kvs' f' us' hs' n cw->hs'.length=hs.length->ZX f'->(∀c,uU f' hs' c<=900)->Q (.ref r) H'):tS Pt vs H Q zz3
def t8:Z9 ["_law_locker_here", "_law_halyards", "_law_number", "_law_word_here", "_law_handed", "_law_found", "_law_others_here", "_law_words"] ["_law_locker_here", "_law_halyards", "_law_number", "_law_word_here"] (aJ nQ):=by fail "sc"
def Q_(F:ZR K "_law_good" "_law_good" nQ f fd)(i6:ZP P w K mg base 13 "_law_asked" ["_law_locker_here", "_law_halyards", "_law_number", "_law_word_here"] rF)(u0:ZP P w K mg base 1 "_law_others" ["_law_halyards", "_law_number"] jK)(u5:ZP P w K mg base 2 "_law_lack" ["_law_locker_here", "_law_words", "_law_wants", "_law_flags"] oK)(i7:ZP P w K mg base 3 "_law_hung" ["_law_locker_here", "_law_halyards", "_law_number", "_law_word_here", "_law_found"] sS)(z5:ZP P w K mg base 1 "_law_read" ["_law_hoist"] jZ)(y9:ZP P w K mg base 1 "_law_with" ["_law_locker_here", "_law_halyards", "_law_numbers"] kH)(i8:ZP P w K mg base 13 "_law_papers" ["_law_locker_here", "_law_halyards", "_law_number", "_law_word_here", "_law_lowered"] (pG Pt)):Z4 P w K mg base ZO 14 f fd ["_law_locker_here", "_law_halyards", "_law_number", "_law_word_here"] (tS Pt):=by
 refine F.ok t8 (λvs H Q E h=>?_) (λcdv A outer s H vs Q E hr h=>?_)
 .obtain⟨a,b,kvs,f,us,hs,n,cw,rfl,_⟩:=h;rfl
 obtain⟨a,b,kvs,f,us,hs,n,cw,rfl,hin,hfo,htt,lam,q⟩:=h;obtain⟨ha,lk,hf0,hb,hat,ok,h6,hn,hc1,hc7,hcL⟩:=id hin;have hul:=hat.len
 have hf9:∀c,aP f c<=900:=λc=>by
  have:=htt c
  unfold uU at this;have:=fO (aS hs (List.range hs.length)) c
  omega
 refine⟨_,(@aE _ _ _ _ _ (aO 4 t8.nd (bL (aA (bV wX rfl G.b_dict Rz (aA (mv 0) aB)) (aA (bW rfl (bP (mv 1)) (VJ (N:=["_law_hoist"]) (by decide +kernel) (by decide +kernel)) (by decide +kernel) rfl (by decide +kernel) (λ_ _ _ _=>(aQ (i:=0) (show List.Nodup (["_law_hoist"]:List Str) by decide +kernel) rfl (Or.inl rfl))) (λ_ _ _ _=>cW) (λ_ _ _ _=>(yN (aW yT (mv 0) cV (bC _)) cV (bV lM rfl G.b_list cR (aA (mv 0) aB))))) aB)))) (@aE _ _ _ _ _ (aO 5 t8.nd (aV i6 hr (by decide) rfl (aA (bI cE (mv 4) aK (λ_ _=>rfl)) (aA (bI cE (mv 4) aK (λ_ _=>rfl)) (aA (mv 2) (aA (mv 3) aB)))))) (@aE _ _ _ _ _ (bT (aW (RA hr.units) (mv 4) (bL (aA (mv 0) (aA (mv 1) aB))) (bC _)) (@aH _ _ _ (aR cV)) bA) (@aE _ _ _ _ _ (bT (PW.pt (hU (cB (aU mV rfl G.b_isinstance cA (aA (mv 5) (aA (hZ rfl G.b_tuple Rg) aB)))) (gC (aW sM (aU cS rfl G.b_len cC (aA (mv 5) aB)) aK (bC _))))) (@aE _ _ _ _ _ (bT (dG (cB (aV i7 hr (by decide) rfl (aA (mv 0) (aA (mv 1) (aA (mv 2) (aA (mv 3) (aA (mv 5) aB)))))))) (@aH _ _ _ (aR cV)) bA) (@aE _ _ _ _ _ (bT (PW.pt (kX (dG (cB (aV i8 hr (by decide) rfl (aA (bI cE (mv 4) aK (λ_ _=>rfl)) (aA (bI cE (mv 4) aK (λ_ _=>rfl)) (aA (mv 2) (aA (mv 3) (aA (bI cE (mv 5) aK (λ_ _=>rfl)) aB)))))))) (iB (aW (RA hr.units) (mv 4) (bL (aA (mv 0) (aA (mv 1) aB))) (bC _))))) (@aH _ _ _ (aR cV)) bA) (@aH _ _ _ (aR (bL (aA (bI cE (mv 5) aK (λ_ _=>rfl)) (aA (bI cE (mv 5) aK (λ_ _=>rfl)) aB))))))) bA) (@aE _ _ _ _ _ (aO 6 t8.nd (aV u0 hr (by decide) rfl (aA (mv 1) (aA (mv 2) aB)))) (@aE _ _ _ _ _ (aO 7 t8.nd (aX bS (bL (aA (mv 3) aB)) (bW rfl (bP (mv 6)) (dF (N:=["_law_k", "_law_halyards"]) ["_law_locker_here", "_law_halyards", "_law_number", "_law_word_here", "_law_handed", "_law_found", "_law_others_here", "_law_words"] (aJ nQ) [none,some 1] rfl rfl rfl (λx h=>bJ h) (by decide +kernel)) (by decide +kernel) rfl (by decide +kernel) (λ_ _ _ _=>(aQ (i:=0) (show List.Nodup (["_law_k", "_law_halyards"]:List Str) by decide +kernel) rfl (Or.inl rfl))) (λ_ _ _ _=>cW) (λ_ _ _ _=>(aV z5 hr (by decide) rfl (aA (bI cE (mv 1) (mv 0) (λ_ _=>rfl)) aB)))))) (@aE _ _ _ _ _ (bT (dG (cB (aU mV rfl G.b_isinstance cA (aA (mv 5) (aA (hZ rfl G.b_list cR) aB))))) (@aH _ _ _ (aR cV)) bA) (@aE _ _ _ _ _ (bT (dG (cB (aV u5 hr (by decide) rfl (aA (aV y9 hr (by decide) rfl (aA (mv 0) (aA (mv 1) (aA (aX bS (bL (aA (mv 2) aB)) (mv 6)) aB)))) (aA (mv 7) (aA (bI cE (mv 5) aK (λ_ _=>rfl)) (aA (bI cE (mv 5) aK (λ_ _=>rfl)) aB))))))) (@aH _ _ _ (aR cV)) bA) (@aH _ _ _ (aR (bL (aA (mv 0) (aA (mv 1) aB))))))))))))),?_⟩
 fail "g";refine wO (.inl ha) λd hd=>?_;have s1:=aF hd (.dK kvs)
 have e1:(upd H d (.dK kvs)) d=some (.dK kvs):=aD
 generalize upd H d (.dK kvs)=H1 at s1 e1 ⊢;have hb1:=aG s1 hb
 fail "g";refine Sg (hs:=hs) hb1 (aY (by omega)) hul (λi x h Hc A B hx hh sm hA=>?_) (λD Hd vs hD sD hdd hatD hfr=>?_)
 .have hv:=(hat.keep (s1.trans sm)).val i x h hx hh
  cases h with
  |none=>
   obtain rfl:x=V.non:=hv;fail "g";refine⟨Wk.set rfl (Wk.refl _),?_⟩;fail "g";rw[show decide (V.non=V.non)=true from rfl];fail "g";exact hA .non _ (Z_.refl _) rfl λp z=>nomatch z
  |some cs=>
   obtain⟨pc,rfl,hpc⟩:=hv;have rc:=aL hpc
   fail "g";refine⟨Wk.set rfl (Wk.refl _),?_⟩;fail "g";rw[show decide (V.ref pc=V.non)=false from Al (λz=>nomatch z)]
   fail "g";intro l2 hl2;exact hA (.ref l2) _ (aF hl2 _) ⟨l2,rfl,aD⟩ λp z=>by cases z;exact hl2
 .fail "g";refine⟨za1,λpH hpH=>?_⟩
  have s2:=aF hpH (.lst [.ref d,.ref D])
  have e2:(upd Hd pH (.lst [.ref d,.ref D])) pH=some (.lst [.ref d,.ref D]):=aD
  generalize upd Hd pH (.lst [.ref d,.ref D])=H2 at s2 e2 ⊢;have sd2:=sD.trans s2
  have s02:=s1.trans sd2
  have hin2:ZW H2 d D kvs f vs hs n cw:=⟨sd2 _ _ e1,lk,hf0,aL (s2 _ _ hdd),hatD.keep s2,ok,h6,hn,hc1,hc7,hcL⟩
  have hina:=hin.keep s02
  have lam2:=lam.keep s02
  have P2:ZY Pt H H2:=Z_.p s02
  clear s1 e1 hb1 hdd hatD hD hfr sD s2 hpH hd sd2;have r2:=aL e2
  have VV:∀H' p,Z8 H' pH=some [.ref d,.ref D]->ZW H' d D kvs f vs hs n cw->ZW H' a b kvs f us hs n cw->Z8 H' p=some [.ref a,.ref b]->Y6 H' 4 (.ref pH) (.ref p):=λH' p h1 h2 h3 hp=>by
   refine .lst h1 hp rfl λj x y hx hy=>?_
   match j,hx,hy with
   |0,hx,hy=>cases hx;cases hy;exact .K7 (.inl h2.1) (.inl h3.1) (lk.OL lk)
   |1,hx,hy=>cases hx;cases hy;exact Y6.up (h2.2.2.2.2.1.VV h3.2.2.2.2.1 h2.2.2.2.1 h3.2.2.2.1)
   |j+2,hx,_=>cases hx
  fail "g";refine cL r2 (v:=.ref d) rfl ?_;fail "g";refine cL r2 (v:=.ref D) rfl ?_;fail "g";refine⟨d,D,kvs,f,vs,hs,n,cw,rfl,hin2,λt H3 s3 hQ=>?_,λt H3 s3 hL=>?_⟩;all_goals fail "g"
  all_goals refine⟨za1,λp5 hp5=>?_⟩
  all_goals have s5:=aF hp5 (.lst [.ref a,.ref b])
  all_goals have e5:Z8 (upd H3 p5 (.lst [.ref a,.ref b])) p5=some [.ref a,.ref b]:=dA
  all_goals have s25:=s3.trans s5
  all_goals generalize upd H3 p5 (.lst [.ref a,.ref b])=H5 at s5 e5 s25 ⊢
  all_goals refine RS 3 (VV _ _ (aG s25 r2) (hin2.keep s25) (hina.keep s25) e5) ?_
  .have hQ5:=hQ.keep (H:=H5) s5
   obtain⟨L,B,R,ks,gs,j,vs',kws,et,eL,hfst,hgs,hcnt,eB,hatB,eR,lkR⟩:=id hQ5;have tt:=eU et
   have nt:Z8 H5 t=none:=by unfold Z8;rw[et];rfl
   fail "g";refine Qm nt tt ?_;fail "g";rw[show decide (((([V.ref L,V.ref B,V.ref R]:List V).length:Nat):Int)=3)=true from rfl];fail "g";refine⟨a,b,t,kvs,f,us,hs,n,cw,rfl,hina.keep s25,hfo,hQ5,λH6 s6=>?_⟩;have s26:=s25.trans s6
   have r6:=aG s26 r2
   have et6:=s6 _ _ et
   fail "g";refine cL r6 (v:=.ref d) rfl ?_;fail "g";refine cL r6 (v:=.ref D) rfl ?_;fail "g";refine iT et6 (v:=.ref L) rfl ?_;fail "g";refine⟨d,D,L,kvs,f,vs,hs,n,cw,ks,j,rfl,hin2.keep s26,hfo,hf9,s6 _ _ eL,hfst,lam2.keep s26,λH7 s7 lam7=>?_⟩;have tb6:=(lam2.keep s26).tb
   have r7:=yH s7 r6 tb6
   have et7:=eF s7 tb6 et6 λt z=>nomatch z
   fail "g";refine⟨za1,λp8 hp8=>?_⟩
   have s8:=aF hp8 (.lst [.ref a,.ref b])
   have e8:Z8 (upd H7 p8 (.lst [.ref a,.ref b])) p8=some [.ref a,.ref b]:=dA
   generalize upd H7 p8 (.lst [.ref a,.ref b])=H8 at s8 e8 ⊢;refine RS 3 (VV _ _ (aG s8 r7) (((hin2.keep s26).YQ s7 tb6).keep s8) (((hina.keep s26).YQ s7 tb6).keep s8) e8) ?_;have et8:=s8 _ _ et7
   fail "g";refine iT et8 (v:=.ref R) rfl ?_;fail "g";refine iT et8 (v:=.ref B) rfl ?_;fail "g";refine⟨za1,λp9 hp9=>?_⟩
   have s9:=aF hp9 (.lst [.ref R,.ref B])
   have s89:=s8.trans s9
   have hks:ks.Sublist (aM hs n):=ZM.mp (Ah hfst.1)
   have hlk:∀k∈ks,k<hs.length/\(hs.getD k none).isSome=true:=λk hk=>by
    have:=cN (hks.subset hk)
    exact⟨this.1,this.2.1⟩
   have hgf:=VU hgs (lS ok hc1 ⟨hc7,hcL⟩ hlk)
   have okB:dY (fA hs ((n::ks).zip gs)):=wA ok _ λz hz=>(hgf z.2 (Ef hz).2).1
   have htot:=xR hf0 hfo ok hn hks hgs (λg hg=>(hgf g hg).2) hcnt
   have hl:=dL hs ((n::ks).zip gs)
   refine q p9 R B kws _ vs' _ _ (P2.trans (((Z_.p s26).trans s7).trans (Z_.p s89))) (lam7.keep s89) aD ⟨s89 _ _ (eF s7 tb6 (s6 _ _ eR) λt z=>nomatch z),lkR,zM _,aL (s89 _ _ (eF s7 tb6 (s6 _ _ eB) λt z=>nomatch z)),((hatB.keep s6).YQ s7 tb6).keep s89,okB,by rw[hl];exact h6,by rw[hl];exact hn,hc1,hc7,hcL⟩ hl (nR _) λc=>by rw[htot c];exact htt c
  .obtain⟨l1,l2,ws,W,F,er,h3,h4,h5,hlo⟩:=hL;have er5:=s5 _ _ er
   have rr5:=aL er5
   have hin5:=hina.keep s25
   obtain⟨ha5,_,_,hb5,hat5,_⟩:=id hin5;have hol:=iL hn
   have hlk:∀k∈aM hs n,k<hs.length/\(hs.getD k none).isSome=true:=λk hk=>⟨(cN hk).1,(cN hk).2.1⟩
   fail "g";refine⟨b,us,hs,n,rfl,hb5,hat5,by omega,λpo H6 hpo s6 eo=>?_⟩
   have ro6:=aL eo
   have hb6:=aG s6 hb5
   have hat6:=hat5.keep s6
   have hl6:((aM hs n).map λk=>V.int ((k:Nat):Int)).length<sizeLine:=aY (by rw[cY];omega)
   fail "g";refine⟨za0,λp7 hp7=>?_⟩
   have k7:=aF hp7 (.lst [V.str (bB cw)])
   have e7:(upd H6 p7 (.lst [V.str (bB cw)])) p7=some (.lst [V.str (bB cw)]):=aD
   generalize upd H6 p7 (.lst [V.str (bB cw)])=H7 at k7 e7 ⊢;have rc7:=aG k7 ro6
   have hb7:=aG k7 hb6
   have hat7:=hat6.keep k7
   fail "g";refine fV (λi=>((aM hs n)[i]?).map (rK hs)) rc7 hl6 (λi x Hc A B hx sm hA hB=>?_) (λD8 H8 hD8 s8 e8=>?_)
   .obtain⟨k,hk,rfl⟩:=fH hx;obtain⟨hkl,hks⟩:=hlk k (Ah hk);obtain⟨v,av,_,hv⟩:=(hat7.keep sm).get hkl;cases eh:hs.getD k none with
    |none=>rw[eh]at hks;cases hks
    |some cs=>
     rw[eh]at hv;obtain⟨pc,rfl,hpc⟩:=hv;have hoi:cG (cs.map one)=true:=ok cs (by
      rw[Ac,Aa hkl]at eh;rw[<-show hs[k]=some cs from eh];exact Bo hkl)
     fail "g";refine⟨Wk.set rfl (Wk.refl _),?_⟩;fail "g";refine cL (aG sm hb7) av ?_;fail "g";refine⟨pc,cs,rfl,aL hpc,hoi,?_⟩;exact hA _ (by rw[hk];show some (rK hs k)=_;unfold rK;rw[eh];rfl) _ (Z_.refl _)
   rw[cY,hV]at e8;refine eM (aZ (s8 _ _ e7)) (aZ e8) (bE (by rw[Ab];show 1+_<=_;omega)) λp9 hp9=>?_
   rw[sW];have k9:=aF hp9 (.lst (((bG hs cw (aM hs n)).map bB).map V.str))
   have e9:(upd H8 p9 (.lst (((bG hs cw (aM hs n)).map bB).map V.str))) p9=some (.lst (((bG hs cw (aM hs n)).map bB).map V.str)):=aD
   generalize upd H8 p9 (.lst (((bG hs cw (aM hs n)).map bB).map V.str))=H9 at k9 e9 ⊢;have s69:=k7.trans (s8.trans k9)
   have s59:=s6.trans s69
   have et9:=s59 _ _ er5
   have er9:=aL et9
   have eo9:=s69 _ _ eo
   clear e7 e8 hD8 hp9 hb7 hat7 rc7 k7 s8 k9;fail "g";refine⟨za0,λp10 hp10=>?_⟩
   have k10:=aF hp10 (.lst [V.int ((n:Nat):Int)])
   have e10:(upd H9 p10 (.lst [V.int ((n:Nat):Int)])) p10=some (.lst [V.int ((n:Nat):Int)]):=aD
   generalize upd H9 p10 (.lst [V.int ((n:Nat):Int)])=H10 at k10 e10 ⊢;fail "g";refine eM (aZ e10) (aZ (k10 _ _ eo9)) (bE (by rw[cY];show 1+_<=_;omega)) λp11 hp11=>?_
   have k11:=aF hp11 (.lst ((n::aM hs n).map λk=>V.int ((k:Nat):Int)))
   have e11:Z8 (upd H10 p11 (.lst ((n::aM hs n).map λk=>V.int ((k:Nat):Int)))) p11=some ((n::aM hs n).map λk=>V.int ((k:Nat):Int)):=dA
   change uY _ (upd H10 p11 (.lst ((n::aM hs n).map λk=>V.int ((k:Nat):Int)))) _
   generalize upd H10 p11 (.lst ((n::aM hs n).map λk=>V.int ((k:Nat):Int)))=H11 at k11 e11 ⊢;have s911:=k10.trans k11
   have s511:=s59.trans s911
   clear k10 k11 e10 hp11;fail "g";refine⟨a,b,p11,kvs,f,us,hs,n::aM hs n,rfl,s511 _ _ ha5,lk,hfo,aG s511 hb5,hat5.keep s511,ok,e11,by rw[Av];omega,λk hk=>by rcases Az.mp hk with e|e;(· rw[e];exact hn);(· exact(hlk k e).1),λr12 kw g H12 hr12 s12 e12 lkg fog hg=>?_⟩
   have s512:=s511.trans s12
   have s912:=s911.trans s12
   have fl:=eJ ok (n::aM hs n)
   rw[Av]at fl;have hwo:=gO (cw:=cw) ok ⟨hc7,hcL⟩ hlk
   have rr12:=aG s912 er9
   fail "g";refine cL rr12 (v:=.ref l1) rfl ?_;fail "g";refine cL rr12 (v:=.ref l2) rfl ?_;fail "g";have s312:=s5.trans s512
   refine⟨r12,p9,l1,l2,kw,g,bG hs cw (aM hs n),ws,W,F,rfl,e12,lkg,λc=>?_,aL (s912 _ _ e9),by unfold bG;rw[Av,Ab];omega,λc hc=>(hwo c hc).1,s312 _ _ h3,⟨h4.1,λj p w hp hw=>s312 _ _ (h4.2 j p w hp hw)⟩,s312 _ _ h5,uC hf0 hg hlo,λH13 s13=>?_⟩
   .have h1:=hf0 c
    have h2:=hf9 c
    have h3:=fO (aS hs (n::aM hs n)) c
    have h4:cnt (aS hs (n::aM hs n)) c<=((aS hs (n::aM hs n)).length:Int):=Int.ofNat_le.mpr Ge
    rw[hg c];omega
   fail "g";refine⟨za1,λp14 hp14=>?_⟩
   have s14:=(s512.trans s13).trans (aF hp14 (.lst [.ref a,.ref b]))
   exact q p14 a b kvs f us hs _ (P2.trans (Z_.p (s25.trans s14))) (lam2.keep (s25.trans s14)) aD (hin5.keep s14) rfl hfo htt
def Oo{K:W.Frag}(s:ZY Pt H H')(tb:∃ps,H Pt=some (.tbl ps))(h:ZJ K H a xs):ZJ K H' a xs:=by
 rcases h with(h|⟨o,h⟩)|h
 .exact .inl (.inl (eF s tb h λt z=>nomatch z))
 .exact .inl (.inr ⟨o,eF s tb h λt z=>nomatch z⟩)
 .exact .inr h
def KI(m:Nat):(List.replicate ((m:Int)).toNat [V.non]).flatten=List.replicate m V.non:=by
 rw[Co];induction m with
 |zero=>rfl
 |succ m ih=>rw[Ec,Cd,ih,Ec];rfl
def JN{m:Nat}:Z6 H (List.replicate m V.non) (List.replicate m none):=by
 refine⟨by rw[Ff,Ff],λj v h hv hh=>?_⟩
 rw[Gy]at hv hh;split at hv
 .rename_i hj
  rw[if_pos hj]at hh;cases hv;cases hh;rfl
 .cases hv
def nJ{m:Nat}:∀ks:List Nat,aS (List.replicate m none) ks=[]
 |[]=>rfl
 |k::r=>by
  show ((List.replicate m none).getD k none).getD []++aS (List.replicate m none) r=[]
  rw[nJ r,Bq,Ac,Gy];split<;>rfl
def y8:Z9 ["_law_script", "_law_letters_here", "_law_locker_here", "_law_halyards", "_law_k", "_law_cell_here", "_law_number", "_law_found"] ["_law_script"] (aJ qP):=by fail "sc"
def Nz(F:ZR K "law" "law" qP f fd)(i9:ZP P w K mg base 2 "_law_letters" ["_law_script"] (mU K))(gV:ZP P w K mg base 2 "_law_locker" ["_law_cell_here", "_law_letters_here", "_law_most"] pD)(z8:ZP P w K mg base 1 "_law_cell" ["_law_script", "_law_k"] (oV K))(g0:ZP P w K mg base 14 "_law_good" ["_law_locker_here", "_law_halyards", "_law_number", "_law_word_here"] (tS Pt))(g9:ZP P w K mg base 2 "_law_word" ["_law_cell_here", "_law_letters_here", "_law_most"] tX):Z4 P w K mg base ZO 15 f fd ["_law_script"] (vC K Pt):=by
 refine F.ok y8 (λvs H Q E h=>?_) (λcdv A outer s H vs Q E hr h=>?_)
 .obtain⟨a,ns,rfl,_⟩:=h;rfl
 obtain⟨a,ns,rfl,hS,h63,hP,q⟩:=h;refine⟨_,(@aE _ _ _ _ _ (aO 1 y8.nd (aV i9 hr (by decide) rfl (aA (mv 0) aB))) (@aE _ _ _ _ _ (aO 2 y8.nd (aV gV hr (by decide) rfl (aA (aV z8 hr (by decide) rfl (aA (mv 0) (aA aK aB))) (aA (mv 1) (aA aK aB))))) (@aE _ _ _ _ _ (aO 3 y8.nd (aX J6 (bL (aA cV aB)) (aX bS aK (aX iY (aV z8 hr (by decide) rfl (aA (mv 0) (aA aK aB))) aK)))) (@aE _ _ _ _ _ (bU Bf rfl (dZ rfl G.b_range (aA (aX bS (aU cS rfl G.b_len cC (aA (mv 3) aB)) aK) aB)) (aQ (i:=4) y8.nd rfl (Or.inl rfl)) (@aE _ _ _ _ _ (aO 5 y8.nd (aV z8 hr (by decide) rfl (aA (mv 0) (aA (aX bS aK (mv 4)) aB)))) (@aE _ _ _ _ _ (aO 6 y8.nd (mv 4)) (@aE _ _ _ _ _ (bT (aW sM (mv 4) (aU cS rfl G.b_len cC (aA (mv 3) aB)) (bC _)) (@aH _ _ _ (aO 6 y8.nd (aX iY (aX uP (mv 5) aK) (aU cS rfl G.b_len cC (aA (mv 3) aB))))) bA) (@aE _ _ _ _ _ (aO 7 y8.nd (aV g0 hr (by decide) rfl (aA (mv 2) (aA (mv 3) (aA (mv 6) (aA (aV g9 hr (by decide) rfl (aA (mv 5) (aA (mv 1) (aA aK aB)))) aB)))))) (@aE _ _ _ _ _ (bT (aW yT (mv 7) cV (bC _)) (@aH _ _ _ (aR dE)) bA) (@aH _ _ _ (zU (mv 7) (Jz rfl (dM (aQ (i:=2) y8.nd rfl (Or.inl rfl)) (dM (aQ (i:=3) y8.nd rfl (Or.inl rfl)) pV))))))))))) (@aH _ _ _ (aR dE)))))),?_⟩
 fail "g";refine⟨a,ns,rfl,hS,λrl cs H1 hrl s1 el c2 c5 cl=>?_⟩;fail "g";refine⟨a,ns,1,rfl,s1.seq hS,by decide,λn1=>?_⟩
 fail "g";refine⟨n1,rl,cs,2,rfl,el,c5,cl,by decide,by decide,λpk kvs f H2 hpk s2 ek lk hkl hf fo=>?_⟩
 have s02:=s1.trans s2
 have hS2:=s02.seq hS
 fail "g";refine⟨za0,λp0 hp0=>?_⟩
 have k3:=aF hp0 (.lst [V.non])
 have e3:(upd H2 p0 (.lst [V.non])) p0=some (.lst [V.non]):=aD
 generalize upd H2 p0 (.lst [V.non])=H3 at k3 e3 ⊢;fail "g";refine⟨a,ns,2,rfl,k3.seq hS2,by decide,λn2=>?_⟩
 obtain⟨m,em,m2,m6⟩:∃m:Nat,2+n2%5=(m:Int)/\2<=m/\m<=6:=⟨(2+n2%5).toNat,by omega,by omega,by omega⟩
 fail "g";rw[em];refine⟨p0,_,[V.non],rfl,rfl,e3,by omega,by omega,by show 1*((m:Int)).toNat<=sizeLine;exact bE (by omega),λrh hrh=>?_⟩
 rw[KI];have k4:=k3.trans (aF hrh (.lst (List.replicate m V.non)))
 have e4:(upd H3 rh (.lst (List.replicate m V.non))) rh=some (.lst (List.replicate m V.non)):=aD
 generalize upd H3 rh (.lst (List.replicate m V.non))=H4 at k4 e4 ⊢;have s04:=s02.trans k4
 have hS4:=s04.seq hS
 have el4:=(s2.trans k4) _ _ el
 have ek4:=k4 _ _ ek
 have lam4:yK Pt H4:=.inl (s04 _ _ hP)
 have re4:=aL e4
 have tb4:=lam4.tb
 clear s1 s2 s02 hS2 k3 e3 hp0 hrh k4 el ek hpk hrl hS hP s04;fail "g";rw[Ff];refine⟨⟨by omega,by omega⟩,?_⟩
 rw[show (((m:Nat):Int)+1).toNat=m+1 by omega]
 refine eY (λi U H'=>∃(a' b':Addr) (kvs:List (Key×V)) (f:Nat->Option Int) (us:List V) (hs:Q4) (v4 v5 v6 v7:Option V),U=[some (.ref a),some (.ref rl),some (.ref a'),some (.ref b'),v4,v5,v6,v7]/\ZY Pt H4 H'/\yK Pt H'/\H' a'=some (.dK kvs)/\Lk kvs f/\(∀c,0<=aP f c)/\Z8 H' b'=some us/\Z6 H' us hs/\dY hs/\hs.length=m/\ZX f/\∀c,uU f hs c<=900)
  ⟨pk,rh,kvs,f,List.replicate m V.non,List.replicate m none,_,_,_,_,rfl,ZY.refl,lam4,ek4,lk,(λc=>(hf c).1),re4,JN,(λcs hc=>by cases List.eq_of_mem_replicate hc),Ff ..,fo,λc=>by unfold uU;rw[nJ];have:=(hf c).2;show _+((0:Nat):Int)<=_;omega⟩ ?_ ?_
 .rintro i U H5 hi ⟨a',b',kvs,f,us,hs,v4,v5,v6,v7,rfl,s5,lam5,ha,lk,hf0,hb,hat,ok,hsl,fo,htt⟩;have hS5:=Oo s5 tb4 hS4
  have el5:=eF s5 tb4 el4 λt z=>nomatch z
  have hul:=hat.len
  fail "g";refine⟨a,ns,3+(0+(i:Int)),rfl,hS5,by omega,λn3=>?_⟩
  fail "g";have hdiv:=Ds (n3 / 5) (show ((us.length:Nat):Int)≠0 by omega)
  have hlt:=Df (n3 / 5) (show (0:Int)<((us.length:Nat):Int) by omega)
  obtain⟨nn,hnn⟩:∃nn:Nat,nn=if i=m then (n3 / 5%((us.length:Nat):Int)).toNat else i:=⟨_,rfl⟩
  refine gM (λhd=>?hp) (λhd=>?hn);case' hp=>
   have hd':=Bi hd
   rw[if_pos (show i=m by omega)]at hnn
   have en:n3 / 5%((us.length:Nat):Int)=((nn:Nat):Int):=by omega
   have hn:nn<hs.length:=by omega
   fail "g";rw[en]
  case' hn=>
   have hd':=Ca (Ce.mpr hd)
   rw[if_neg (show ¬i=m by omega)]at hnn
   have en:(0:Int)+(i:Int)=((nn:Nat):Int):=by omega
   have hn:nn<hs.length:=by omega
   fail "g";rw[en]
  all_goals refine⟨n3,rl,cs,7,rfl,aL el5,c2,c5,cl,by decide,by decide,λcw H6 s6 w1 w7 wl=>?_⟩
  all_goals fail "g"
  all_goals refine⟨a',b',kvs,f,us,hs,nn,cw,rfl,⟨s6 _ _ ha,lk,hf0,aG s6 hb,hat.keep s6,ok,by omega,hn,w1,w7,wl⟩,fo,htt,lam5.keep s6,λr a2 b2 kvs2 f2 us2 hs2 H7 s7 lam7 er hin2 hl2 fo2 ht2=>?_⟩
  all_goals have rr:=aL er
  all_goals fail "g"
  all_goals rw[show decide (V.ref r=V.non)=false from Al (λz=>nomatch z)]
  all_goals fail "g"
  all_goals obtain⟨ha2,lk2,hp2,hb2,hat2,ok2,_⟩:=hin2
  all_goals exact⟨a2,b2,kvs2,f2,us2,hs2,_,_,_,_,rfl,(s5.trans (Z_.p s6)).trans s7,lam7,ha2,lk2,hp2,hb2,hat2,ok2,hl2.trans hsl,fo2,ht2⟩
 .rintro U H5 ⟨a',b',kvs,f,us,hs,v4,v5,v6,v7,rfl,_⟩;fail "g";exact q _
end
variable {A:List (Nat×Wt)}{ch:Wt->List Nat}{first w:Wt}{m:List (Wt×Nat)}{ws:List Wt}
def VT(K:W.Frag)(x q:Str)(st:Stmt)(f:Addr):Prop:=∃(oc:Value) (od:Option Addr) (sl:Array (Option Value)) (kV dc pm:Value) (an:Option Addr) (cd ct:Value),K.lookup f=some ⟨oc,od,.func (W.fnOf x q (gX st) (eT st) (aJ st) .none kV dc pm an cd ct),sl⟩/\W.codeIn K cd q=true/\W.keepIn K (.ref f)=true
abbrev ZI(K:W.Frag)(x:Str)(st:Stmt)(f:Addr):Prop:=W.nsIn K mainGlobals x=some (some (.ref f))/\VT K x x st f
abbrev UM(K:W.Frag)(C:Addr)(q:Str)(st:Stmt)(f:Addr):Prop:=W.findIn K (.ref C) "__init__"=some (some (.ref f))/\W.typeIn K (.ref f)=some (.type "function")/\VT K "__init__" q st f
abbrev Vb(x q:Str)(st:Stmt)(ps:List Str):Prop:=∀(kV doc pm:Value) (an:Option Addr) (cdv ct:Value) (us:List Value),us.length=ps.length->bindArgs (W.fnOf x q (gX st) (eT st) (aJ st) .none kV doc pm an cdv ct) ⟨us,[]⟩=pure (ps.zip us)
def VT.c{P:Program}{w:World}{K:W.Frag}{base:Heap}{CX:Yi}{x q:Str}{st:Stmt}{ps:List Str}{sp:Sp}(p:VT K x q st f)(o:∀ {fd:FuncData},ZR K x q st f fd->Z4 P w K mg base CX k f fd ps sp)(hb:Vb x q st ps):∃fd:FuncData,Z4 P w K mg base CX k f fd ps sp/\W.keepIn K (.ref f)=true/\Binds K fd ps []:=by
 obtain⟨_,_,_,_,_,_,_,_,_,l,c,k⟩:=p;have F:=uR (st:=st) l c k
 exact⟨_,o F,k,F.binds hb⟩
local macro_rules | `(tactic| fail "bd") => `(tactic| (intro a1 a2 a3 a4 a5 a6 us hl; iterate 7 (all_goals try (rcases us with _ | ⟨u,us⟩; (· first | rfl | (simp at hl)))); all_goals (simp at hl)))
def all_mk{l:W.OpenLaw}{w:World}{K:W.Frag}{h:Heap}{fa:Addr}{f_0 f_1 f_2 f_3 f_4 f_5 f_6 f_7 f_8 f_9 f_10 f_11 f_12 f_13 f_14 f_15 f_16 f_17 f_18 f_19 f_20 f_21 f_22 f_23 f_24 f_25 f_26 f_27 f_28 f_29 f_30 f_31 f_32 f_33 f_34 f_35 f_36 f_37 f_38 f_39 f_40 f_41 f_42:Addr}{t_FLAGS t_SUBSTITUTES t_MOST_PLACES:Tok}{c:Addr}(X:K.In h)(Gn:h.Ns mainGlobals mg)(hfa:mg "law"=some (.ref fa))(TH:VY h mg "_law_sets" c)(q_Lack:W.nsIn K mainGlobals "Lack"=some (some (.ref Zw)))(q_TowerError:W.nsIn K mainGlobals "TowerError"=some (some (.ref Zz)))(q_Short:W.nsIn K mainGlobals "Short"=some (some (.ref Zx)))(q_NoHoist:W.nsIn K mainGlobals "NoHoist"=some (some (.ref Zy)))(p_0:ZI K "_law_cell" rM f_0)(p_1:ZI K "_law_letters" gG f_1)(p_2:ZI K "_law_stream" lX f_2)(p_3:ZI K "_law_locker" lP f_3)(p_4:ZI K "plain_locker" fW f_4)(p_5:ZI K "put_in" rW f_5)(p_6:ZI K "rising_lists" dC f_6)(p_7:ZI K "sets_of" oU f_7)(p_8:UM K Zw "Lack.__init__" jA f_8)(p_9:ZI K "others_hung" eV f_9)(p_10:ZI K "wants_of" iJ f_10)(p_11:ZI K "choices_at" fK f_11)(p_12:ZI K "choices_of" iF f_12)(p_13:ZI K "hoists_of" jR f_13)(p_14:ZI K "asked_from" fI f_14)(p_15:ZI K "hang_along" iK f_15)(p_16:ZI K "hang_all" dU f_16)(p_17:ZI K "lack_of" oO f_17)(p_18:ZI K "flags_on" mD f_18)(p_19:ZI K "is_flag" oW f_19)(p_20:ZI K "may_stand" jG f_20)(p_21:ZI K "is_hoist" lV f_21)(p_22:ZI K "read_of" pB f_22)(p_23:ZI K "words_with" fL f_23)(p_24:ZI K "least_set" jD f_24)(p_25:UM K Zx "Short.__init__" iM f_25)(p_26:ZI K "taken" vF f_26)(p_27:ZI K "hauled" rA f_27)(p_28:ZI K "_law_asked" oM f_28)(p_29:ZI K "_law_others" lI f_29)(p_30:ZI K "_law_choices" jL f_30)(p_31:ZI K "_law_lack" fT f_31)(p_32:ZI K "_law_same" jS f_32)(p_33:ZI K "_law_with" rX f_33)(p_34:ZI K "_law_reads" nV f_34)(p_35:ZI K "_law_read" rE f_35)(p_36:ZI K "_law_hung" mX f_36)(p_37:ZI K "_law_sets" gQ f_37)(p_38:ZI K "hauling_papers" eI f_38)(p_39:ZI K "_law_papers" iN f_39)(p_40:ZI K "_law_good" nQ f_40)(p_41:ZI K "_law_word" nG f_41)(p_42:ZI K "law" qP f_42)(z_len:W.nsIn K mainGlobals "len"=some none)(z_range:W.nsIn K mainGlobals "range"=some none)(z_zip:W.nsIn K mainGlobals "zip"=some none)(z_enumerate:W.nsIn K mainGlobals "enumerate"=some none)(z_list:W.nsIn K mainGlobals "list"=some none)(z_int:W.nsIn K mainGlobals "int"=some none)(z_all:W.nsIn K mainGlobals "all"=some none)(z_min:W.nsIn K mainGlobals "min"=some none)(z_str:W.nsIn K mainGlobals "str"=some none)(z_sum:W.nsIn K mainGlobals "sum"=some none)(z_isinstance:W.nsIn K mainGlobals "isinstance"=some none)(z_dict:W.nsIn K mainGlobals "dict"=some none)(z_sorted:W.nsIn K mainGlobals "sorted"=some none)(z_tuple:W.nsIn K mainGlobals "tuple"=some none)(g_FLAGS:W.nsIn K mainGlobals "FLAGS"=some (some (.str "abcdefghijklmnopqrstuvw1234" t_FLAGS)))(g_SUBSTITUTES:W.nsIn K mainGlobals "SUBSTITUTES"=some (some (.str "1234" t_SUBSTITUTES)))(g_MOST_PLACES:W.nsIn K mainGlobals "MOST_PLACES"=some (some (.int 7 t_MOST_PLACES)))(KF:S_ K Zw Zz Zx Zy):∃fd:FuncData,(∀(s:Shared) (v:Value),BindsTo s fd ⟨[v],[]⟩ [("_law_script",v)])/\∀base:Heap,K.In base->base.Ns mainGlobals mg->Yz mg base c Pt->Z4 l.prog w K mg base ZO 15 fa fd ["_law_script"] (vC K Pt):=by
 have M:∀ {x:Str} {v:Value},W.nsIn K mainGlobals x=some (some v)->mg x=some v:=λh=>W.mg_of X Gn h
 have N:∀ {x:Str},W.nsIn K mainGlobals x=some none->mg x=none:=λh=>W.mg_none_of X Gn h
 have e:=hfa.symm.trans (M p_42.1)
 cases e;have G:Gs K mg Zw Zz Zx Zy:=⟨KF,M q_Lack,M q_TowerError,M q_Short,M q_NoHoist,N z_len,N z_range,N z_zip,N z_enumerate,N z_list,N z_int,N z_all,N z_min,N z_str,N z_sum,N z_isinstance,N z_dict,N z_sorted,N z_tuple,⟨_,M g_FLAGS⟩,⟨_,M g_SUBSTITUTES⟩,⟨_,M g_MOST_PLACES⟩⟩
 obtain⟨_,_,_,kV,dc,pm,an,cd,ct,lk,hc,hk⟩:=p_42.2;have F:=uR (st:=qP) lk hc hk
 refine⟨W.fnOf "law" "law" (gX qP) (eT qP) (aJ qP) .none kV dc pm an cd ct,λs v=>.of_eq rfl,λbase _ _ LB=>?_⟩;have mk:∀ {CX:Yi} {k:Nat} {x:Str} {st:Stmt} {f:Addr} {ps:List Str} {sp:Sp},ZI K x st f->(∀ {fd:FuncData},ZR K x x st f fd->Z4 l.prog w K mg base CX k f fd ps sp)->Vb x x st ps->∃(f:Addr) (fd:FuncData),Z4 l.prog w K mg base CX k f fd ps sp/\mg x=some (.ref f)/\W.keepIn K (.ref f)=true/\Binds K fd ps []:=λp o hb=>by
  obtain⟨fd,a,b,c⟩:=p.2.c o hb;exact⟨_,fd,a,M p.1,b,c⟩
 have mi:∀ {k:Nat} {st:Stmt} {f:Addr} {ps:List Str} {sp:Sp} {C:Addr} {q:Str},UM K C q st f->(∀ {fd:FuncData},ZR K "__init__" q st f fd->Z4 l.prog w K mg base ZO k f fd ps sp)->Vb "__init__" q st ps->WE l.prog w K mg base k C ps sp:=λp o hb=>by
  obtain⟨fd,a,b,c⟩:=p.2.2.c o hb;exact⟨_,fd,a,p.1,p.2.1,c⟩
 have z8:=mk p_0 (λF=>LF G F ) (by fail "bd")
 have i9:=mk p_1 (λF=>vS G F z8) (by fail "bd")
 have w4:=mk p_2 (λF=>wN G F ) (by fail "bd")
 have gV:=mk p_3 (λF=>yG G F w4) (by fail "bd")
 have y6:=mk p_4 (λF=>pT G F ) (by fail "bd")
 have wE:=mk p_5 (λF=>OM F G y6) (by fail "bd")
 have u7:ZP l.prog w K mg base 9 "rising_lists" ["numbers", "many"] (cM 8):=by
  obtain⟨_,_,_,_,_,_,_,_,_,l,c,k⟩:=p_6.2;have F:=uR (st:=dC) l c k
  have b:=F.binds (ps:=["numbers", "many"]) (by fail "bd")
  exact⟨_,_,Td cM oP (M p_6.1) k b (λd n c=>pS G F c) 8,M p_6.1,k,b⟩
 have j1:=mk p_7 (λF=>PY G F u7) (by fail "bd")
 have x8:=mi p_8 (λF=>vP G F ) (by fail "bd")
 have j2:=mk p_9 (λF=>qI G F ) (by fail "bd")
 have m4:=mk p_10 (λF=>xI G F ) (by fail "bd")
 have m7:=mk p_11 (λF=>sE G F ) (by fail "bd")
 have m8:=mk p_12 (λF=>sO F G m4 m7) (by fail "bd")
 have m9:=mk p_13 (λF=>vA G F ) (by fail "bd")
 have l5:=mk p_14 (λF=>sA G F ) (by fail "bd")
 have l6:=mk p_15 (λF=>rZ F G ) (by fail "bd")
 have x9:=mk p_16 (λF=>yJ G F m8 y6 m9 l5 l6 x8) (by fail "bd")
 have j3:=mk p_17 (λF=>Kr G F x9) (by fail "bd")
 have x5:=mk p_18 (λF=>xS F G ) (by fail "bd")
 have n5:=mk p_19 (λF=>PC G F ) (by fail "bd")
 have n6:=mk p_20 (λF=>uL G F n5) (by fail "bd")
 have n8:=mk p_21 (λF=>xF G F n6) (by fail "bd")
 have l9:=mk p_22 (λF=>MB G F n8) (by fail "bd")
 have wP:=mk p_23 (λF=>sF F G l9) (by fail "bd")
 have wT:=mk p_24 (λF=>vI G F j1 x8 j2 wE j3 x5 wP) (by fail "bd")
 have o7:=mi p_25 (λF=>sK G F ) (by fail "bd")
 have j4:=mk p_26 (λF=>QK G F y6 o7) (by fail "bd")
 have j9:=mk p_27 (λF=>JO G F wE wT x5 x9 j4 wP) (by fail "bd")
 have i6:=mk p_28 (λF=>Lp G F j9) (by fail "bd")
 have u0:=mk p_29 (λF=>xG G F ) (by fail "bd")
 have w6:=mk p_30 (λF=>wD G F ) (by fail "bd")
 have u5:=mk p_31 (λF=>JK G F w6) (by fail "bd")
 have i0:=mk p_32 (λF=>JP F G ) (by fail "bd")
 have y9:=mk p_33 (λF=>QZ G F ) (by fail "bd")
 have o4:=mk p_34 (λF=>Q8 G F w6) (by fail "bd")
 have z5:=mk p_35 (λF=>OQ F G ) (by fail "bd")
 have i7:=mk p_36 (λF=>P7 G F i0 y9 o4 z5) (by fail "bd")
 have i4:ZP l.prog w K mg base 1 "_law_sets" ["_law_numbers"] (oZ Pt):=by
  obtain⟨_,_,_,_,_,_,_,_,_,l,c,k⟩:=p_37.2;have F:=uR (st:=gQ) l c k
  have b:=F.binds (ps:=["_law_numbers"]) (by fail "bd")
  exact⟨_,_,NB G F (Nn TH X (M p_37.1) l) LB ,M p_37.1,k,b⟩
 have i5:=mk p_38 (λF=>mE F G wT) (by fail "bd")
 have i8:=mk p_39 (λF=>zD G F u0 i4 i5 u5 z5 y9) (by fail "bd")
 have g0:=mk p_40 (λF=>Q_ G F i6 u0 u5 i7 z5 y9 i8) (by fail "bd")
 have g9:=mk p_41 (λF=>MR G F w4) (by fail "bd")
 exact Nz G F i9 gV z8 g0 g9
def walk{l:W.OpenLaw}{q:Program}{loose:List Str}{XP:(Q5)->Heap->Prop}{YP:World->Heap->Prop}{d:DefRec}{K:Params->W.Frag}(hn:l.most=some 63)(hdf:d.params.defaults=[])(hd2:((PyProof.Rows.recsOf q).find? λe=>e.name==PySem.Str.ofString "_law_sets").isSome=true)(hno:∀w:World,W.noTabs (K w.params)=true)(hY:∀(w:World) (h:Heap),YP w h->(K w.params).In h)(F:∀(w:World) (mg:Q5) (fa:Addr) (h:Heap) (c Pt:Addr),(K w.params).In h->h.Ns mainGlobals mg->mg d.name=some (.ref fa)->VY h mg "_law_sets" c->
 ∃fd:FuncData,(∀(s:Shared) (u:Value),BindsTo s fd ⟨[u],[]⟩ [("_law_script",u)])/\∀base:Heap,(K w.params).In base->base.Ns mainGlobals mg->Yz mg base c Pt->Z4 l.prog w (K w.params) mg base ZO 15 fa fd ["_law_script"] (vC (K w.params) Pt)):W.WalkO q loose XP YP l.row.toRowW d [] (λf vs=>PySem.call f vs):=by
 obtain⟨d2,e⟩:=Dm.mp hd2;have e3:=List.find?_some e
 have e2:d2.name=PySem.Str.ofString "_law_sets" := eq_of_beq e3
 exact L2.Mk (d2:=d2) (n:=63) (k:=15) (x := "_law_script") (CX:=λ_=>ZO) (sp:=λw=>vC (K w.params)) hn (by decide) hdf ⟨rfl,by decide,by decide⟩ (List.mem_of_find?_eq_some e) hno hY (λw mg fa h c Pt a1 a2 a3 a4=>F w mg fa h c Pt a1 a2 a3 (e2▸a4)) (λ_ _ a Pt ns hl hP hS=>⟨a,ns,rfl,hS,hl,hP,λ_=>rfl⟩) λ_ _ _ _ _ z=>z
end Mine
structure PySem.W.Fast:Prop where
(tw17703018088801697848 tw4508824390618805691 tw16083799365393152446 tw11629726764571005996 tw7638683643620278428 tw10389709983646776961 tw7082801779171786804 tw3175848951544112092 tw11617768467102691996 tw1069968973559949674 tw14147280718943671457 tw2595618465356791756 tw5550682328337204928 tw7732299462222481052 tw1086416955742308161 tw16667010536228918853 tw2442661244431070413 tw11177463487585409210 tw7793923256163316813 tw6841611268606524752
tw12030503349447240836 tw11228101467749045401 tw11540789304058337448 tw7643345827348835402 tw12883015513044425117 tw2303998368168948993 tw3606124229784254499 tw2656126809682002697 tw3078717254548171271 tw13410396349886777575 tw892891565177121448 tw6379045611790738499 tw12343712703167892452 tw13664671441202230377 tw7375371786267742010 tw479928227306740361 tw7184447121968515821 tw13274070398701134077 tw3602537866774253769 tw13906646900181636018
tw1001352146928389288 tw10783268303734260637 tw891013318918043267 tw13655847571589459639 tw7017184867875712947 tw11543222990015617433 tw8007547416740664651 tw4914690169599967345 tw3400605416472580711 tw10814195091979555790 tw13809782917507404706 tw10158304015390258250 tw13577954585317958335 tw5243366857359505194 tw5064166131249189864 tw6945727628710578687 tw9721390465346523861 tw17442960017388300845 tw14170672612170976616 tw11743935698283798940
tw1125854432444565138 tw12051603183201238945 tw14817402158770143876 tw4983094995798152924 tw1100234567558694141 tw9625069631071992679 tw10873408928686361408 tw412023226476582968 tw14830157854572992554 tw7451876529421022777 tw6711081553744512827 tw4849250029844436368 tw12858805011757032161 tw1251539290187747395 tw12509501694569274682 tw6343500558125695375 tw12555692240331979027 tw13844096980867067077 tw8816258947506660686 tw5355401136584475458
tw1315981717446901030 tw3331146891931933589 tw17045855405070903823 tw10697787013486635853 tw18093471520549280381 tw16685465672013265034 tw9532909967774311129 tw4190311234476573154 tw17933563412086769947 tw10829290403545777444 tw5389135382266973390 tw8455135628378350801 tw6934201608501696811 tw2839870561194313838 tw11067378222383980709 tw8843107326620121438 tw3446514457576965653 tw5013717645836897605 tw1460692077321401254 tw7320057315418904622
tw8729307306841641464 tw10828389752908585935 tw553369038223602018 tw17081860418748334123 tw7184481342547996710 tw4391660347307888989 tw11242340417474645800 tw3958714174370019954 tw7691140454337793767 tw11850024057164282037 tw1165516322190883730 tw15903520048363426914 tw11193533859370921951 tw15364211897503903945 tw16588321645627607569 tw16048716492113456030 tw15312932426145024987 tw14342892331459763205 tw9637999364918372412 tw14637440801672847757
tw8986892804140958045 tw15719533088869367228 tw15710405453827714983 tw6224906531830262306 tw12190823615028257346 tw1805709715551891378 tw12101827706526658480 tw5837081173107369613 tw7438232944484844116 tw17328785836622614597 tw5156432504403768814 tw14744123681534393127 tw2759784651786959159 tw10515526882888957351 tw481312494033434940 tw17035753359538049626 tw9357311774745875042 tw1554937448449894459 tw10346924406967739191 tw17572815193333245922
tw10818371940377051459 tw3680864977084408770 tw11441170314984575871 tw14839610902603234261 tw3827857523573601836 tw16863769762000113221 tw11447229682330768404 tw7762714805276542092 tw15581081020429371549 tw12044783211648437238 tw16966824963595230033 tw3525572892932585793 tw6717047704223411921 tw16361330277284291583 tw14278001214018682896 tw11114122495309001145 tw6081377681643680287 tw1415047442882835989 tw8916419406499105074 tw415739051189809110
tw7321433813584315485 tw12617565888252239322 tw1137609524252815756 tw16701483392354771685 tw8592723255606548956 tw8883251501461706836 tw9887942640062757319 tw5136380156552833169 tw13624481074111947107 tw15147797119914730692 tw7528784941555534632 tw17554719022699596987 tw7665079181305784757 tw6992446954032187816 tw11547689017466814220 tw18269468002423874256 tw3116118632710848604 tw13859106215599343388 tw18022773505214089102 tw9367080263624847348
tw13766655181994701783 tw1184467279639876885 tw3352606815261161492 tw11554997694900636295 tw10303864102368925832 tw10183594294717459218 tw12126791892897051485 tw3354783505429109838 tw17417879057489224084 tw13271743572827441364 tw16315577523258683567 tw2290104684074234897 tw4837419537188256620 tw7019288576273451718 tw5010109340561212532 tw17183408703227025317 tw7968545719669315972 tw460895232949561326 tw16284489253422925116 tw11987957956149465314
tw2261285772978315800 tw541261701901966593 tw1320367450305625801 tw9943526183806183549 tw9168571500513135592 tw2958196101682788159 tw11779040378377857442 tw6788671809838554311 tw4163899988580430498 tw1556216985112737971 tw10897417209509251236 tw9086322048867027961 tw146128266521383516 tw10781932812656516231 tw13723164457549982520 tw9702368529564733713 tw17372437757731669882 tw11559368991249685026 tw16463929394496481501 tw10558051587161722824
tw7429223172546873290 tw10837737535932405566 tw1095026833077934377 tw7300508021254115431 tw5003434353068746766 tw17620306908468162244 tw10762581529035917884 tw7787419244609194146 tw15340659159835733970 tw7988414350128284636 tw1562921240813502247 tw18371560141096682479 tw14605358658703083337 tw12188286706345669441 tw16975108494987453887 tw12800748310012660931 tw6199333666997362155 tw12935408961289334889 tw6316860388477891921 tw13424864883493867019
tw8548179284600117460 tw4550028879056372713 tw11961249590397468965 tw12398743940785003527 tw13154851464410377430 tw2810069433860614477 tw18033209775917754709 tw16416568024647924410 tw12691855924387893479 tw6857792710126729088 tw3761649502821582006 tw18333659628322533546 tw1048087237417445278 tw4818635461385661377 tw14218236784308890309 tw4991760822465519650 tw13785989497957346933 tw2972631860059758742 tw18030740669233672895 tw9062925538432675325
tw4957010289874273117 tw492392300459204623 tw12143674790022002867 tw4442516495271429884 tw2643784591599357444 tw3027246889208682540 tw16434526384700072751 tw18251778223249901781 tw14344050744871465419 tw2575987573986026605 tw12383692691280741776 tw18040767160143369594 tw17184980618366907249 tw13083297587454552342 tw12709674606424868724 tw17617158797532301339 tw3328233585051968749 tw2094231076384203554 tw12399475646225768287 tw4885493190600212657
tw8323690187716674323 tw5511152318610635642 tw15072157025308491493 tw5972445882384386116 tw17153206793308101276 tw9725146932549225608 tw4059492452046707557 tw8584042833349569582 tw6602900589836306909 tw2472064540306609745 tw14842248845694963123 tw2775603593613949273 tw13041300757475550376 tw11208687527152456894 tw12208294218804290325 tw1518961660899329526 tw4334312874539333239 tw15807370178942608885 tw5730346138535123103 tw1321207246849068968
tw18030146800019332037 tw12313534544413085886 tw11540926036345645195 tw14923127749598368946 tw15013682810693237978 tw7041388810956188092 tw6747320631111374446 tw4646508581270358231 tw937390293696222856 tw3471124458589283870 tw2977838381457659681 tw1728246624943328325 tw7328925793301989832:True)
open PySem PySem.W PyProof.Rows
set_option maxRecDepth 100000 in
set_option maxHeartbeats 0 in
theorem PySem.Challenge.cw_flaglocker_k74_whole_fewest_lowered_holds : PySem.Challenge.rw_flaglocker_k74_whole_fewest_lowered.Holds := by
  w_on; o_law; k_head; (case hw => w_witness2)
  k_fill
  refine Mine.walk (l:=PySem.Challenge.rw_flaglocker_k74_whole_fewest_lowered) rfl rfl ?hd2 ?hno (fun w h Y => PySem.W.km_in_of Y) ?F
  case hd2 => kernel_rfl!
  case hno => intro w; kernel_rfl!
  case F =>
    intro w mg fa h c Pt KX G hmg TH
    apply Mine.all_mk KX G hmg TH
    all_goals first | exact ⟨by k_is,_,_,_,_,_,_,_,_,_,by k_is,by k_is,by k_is⟩ | exact ⟨by k_is,by k_is,_,_,_,_,_,_,_,_,_,by k_is,by k_is,by k_is⟩ | k_is | kernel_rfl! | (constructor <;> first | k_is | k_exc | kts_exm | kit_is | kernel_rfl!)
