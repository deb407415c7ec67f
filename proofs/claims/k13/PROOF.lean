import PyProof.Rows.All
import Wide.All
import OpenK.AllK
import Wide.FinOn
import Lean
import PyProof.EqAt
import PyProof.EqKinds
import PyProof.TupleCall
import PySem.Challenge.RW_flaglocker_k13_hung_or_lacking
set_option Elab.async false
set_option compiler.extract_closed false
set_option linter.all false
set_option maxHeartbeats 4000000
set_option maxRecDepth 100000
abbrev Q2:=PySem.Value->PySem.Shared->Prop
abbrev Q3:=List (PySem.Addr × PySem.Obj)
abbrev Q4:=PySem.Str->Option PySem.Value
abbrev Q5:=List (List Nat)
abbrev Aa:=@PySem.wpAny_bind
abbrev Ab:=@List.getElem?_eq_getElem
abbrev Ac:=@List.length_map
abbrev Ad:=@PySem.Heap.get?_push_of_some
abbrev Ae:=@PySem.wpAny_pure
abbrev Af:=@List.getElem?_eq_some_iff
abbrev Ag:=@Array.getD_eq_getD_getElem?
abbrev Ah:=@List.getD_eq_getElem?_getD
abbrev Ai:=@Nat.le_refl
abbrev Aj:=@Array.getElem?_eq_getElem
abbrev Ak:=@List.mem_cons_of_mem
abbrev Al:=@List.mem_cons_self
abbrev Am:=@List.getElem?_map
abbrev An:=@Bool.false_ne_true
abbrev Ao:=@PySem.Heap.lt_size
abbrev Ap:=@List.mem_singleton
abbrev Aq:=@List.map_cons
abbrev Ar:=@List.length_append
abbrev As:=@List.mem_of_getElem?
abbrev Au:=@decide_eq_true
abbrev Av:=@List.mem_cons
abbrev Aw:=@PySem.Heap.get?_push_size
abbrev Ax:=@List.map_append
abbrev Ay:=@Array.length_toList
abbrev Az:=@Nat.lt_of_lt_of_le
abbrev Ba:=@Nat.ne_of_lt
abbrev Bb:=@decide_eq_false
abbrev Bc:=@List.mem_map
abbrev Bd:=@List.getElem?_append_left
abbrev Be:=@List.size_toArray
abbrev Bf:=@Nat.le_trans
abbrev Bg:=@List.pairwise_iff_getElem
abbrev Bh:=@Option.some.inj
abbrev Bi:=@List.nodup_cons
abbrev Bj:=@List.length_cons
abbrev Bk:=@List.mem_append_right
abbrev Bl:=@PySem.wpAny_field
abbrev Bm:=@Array.getElem?_eq_some_iff
abbrev Bn:=@List.take_add_one
abbrev Bo:=@List.mem_range
abbrev Bp:=@List.getElem?_append_right
abbrev Bq:=@decide_eq_true_iff
abbrev Br:=@PySem.wpAny_call_entry
abbrev Bs:=@PySem.PassesOwn.never
abbrev Bt:=@List.length_take
abbrev Bu:=@List.getElem_mem
abbrev Bv:=@PySem.wpAny_holding
abbrev Bw:=@Array.getElem?_eq_none
abbrev Bx:=@PySem.Heap.get?_update_other
abbrev By:=@Option.map_eq_some_iff
abbrev Bz:=@PySem.wpAny_setState_of
abbrev Ca:=@Int.toNat_natCast
abbrev Cb:=@Array.getElem?_toList
abbrev Cc:=@PySem.F.slot_dict_get
abbrev Cd:=@PySem.wpAny_loadPart'
abbrev Ce:=@PySem.Heap.SameBut.update
abbrev Cf:=@List.append_nil
abbrev Cg:=@PySem.wpAny_mono
abbrev Ci:=@List.filterMap_append
abbrev Cj:=@List.mem_append
abbrev Ck:=@List.take_length
abbrev Cm:=@of_decide_eq_true
abbrev Co:=@List.mem_iff_getElem
abbrev Cp:=@List.mem_filterMap
abbrev Cq:=@Nat.zero_le
abbrev Cr:=@beq_eq_false_iff_ne
abbrev Cs:=@List.map_congr_left
abbrev Ct:=@PySem.F.plainAttrs_list
abbrev Cu:=@List.length_range
abbrev Cv:=@List.map_map
abbrev Cw:=@PySem.W.kia_one
abbrev Cy:=@congrArg
abbrev Cz:=@PySem.Obj.data_mapFields
abbrev Da:=@List.mem_append_left
abbrev Dc:=@PySem.Around.under_plainId
abbrev Dd:=@PySem.codeAny_builtin
abbrev De:=@PySem.wpAny_attempt
abbrev Df:=@List.sum_cons
abbrev Dg:=@List.take_of_length_le
abbrev Dh:=@decide_eq_decide
abbrev Di:=@PySem.mem_of_lookup
abbrev Dj:=@PySem.Heap.get?_update_self
abbrev Dk:=@PySem.F.type_dict_get
abbrev Dm:=@Nat.lt_irrefl
abbrev Do:=@Array.getElem_mem_toList
abbrev Dp:=@List.range_succ
abbrev Dq:=@List.countP_cons
abbrev Dr:=@PyProof.Rows.callWith_type1
abbrev Ds:=@Nat.lt_succ_of_lt
abbrev Dt:=@Bool.eq_false_iff
abbrev Du:=@List.mem_filter
abbrev Dv:=@Int.emod_nonneg
abbrev Dw:=@Nat.lt_succ_self
abbrev Dx:=@List.lookup_cons
abbrev Dy:=@List.getElem_map
abbrev Dz:=@PySem.wpAny_askSetting
abbrev Ea:=@List.length_filterMap_le
abbrev Eb:=@List.filterMap_cons_some
abbrev Ec:=@PySem.wpAny_typeNameOfWhole_keyiter
abbrev Ed:=@List.append_assoc
abbrev Ee:=@List.pairwise_map
abbrev Ef:=@PySem.F.slot_dict_keyiterator_next
abbrev Eg:=@List.filterMap_cons
abbrev Eh:=@PySem.plainId_quiet
abbrev Ei:=@List.length_drop
abbrev Ej:=@PySem.wpAny_Call_Name_kw
abbrev Ek:=@PySem.tupleKind_room_in1
abbrev El:=@List.filterMap_nil
abbrev Em:=@Int.emod_lt_of_pos
abbrev En:=@of_decide_eq_false
abbrev Eo:=@List.mem_iff_getElem?
abbrev Ep:=@PySem.wpAny_specialOf
abbrev Er:=@PySem.wpAny_passesOwn
abbrev Et:=@Option.map_some
abbrev Eu:=@Nat.not_lt_zero
abbrev Ew:=@Array.mem_toList_iff
abbrev Ex:=@PySem.codeAny_mono
abbrev Ey:=@PySem.wpAny_newObj_type
abbrev Ez:=@PySem.codeAny_call_builtin
abbrev Fa:=@List.mem_of_mem_take
abbrev Fb:=@List.nodup_append
abbrev Fc:=@Option.isSome_iff_exists
abbrev Fd:=@PySem.Heap.size_push
abbrev Fe:=@Bool.and_eq_true
abbrev Ff:=@PySem.wpAny_getItem_str_slice
abbrev Fg:=@List.all_eq_true
abbrev Fh:=@PySem.Code.quiet_builtin
abbrev Fi:=@PySem.wpAny_call
abbrev Fj:=@PySem.F.entry_dict_get
abbrev Fk:=@List.pairwise_lt_range
abbrev Fl:=@List.filter_append
abbrev Fm:=@Array.mem_of_getElem?
abbrev Fn:=@List.getElem?_zipWith
abbrev Fo:=@PySem.Obj.cls_mapFields
abbrev Fp:=@PySem.wpAny_truthy_bool
abbrev Fq:=@PySem.wpAny_loadPart_at
abbrev Fs:=@PySem.wpAny_seqItems
abbrev Ft:=@PySem.Heap.get?_none_of_le
abbrev Fu:=@List.getElem?_set_ne
abbrev Fv:=@Array.toList_extract
abbrev Fw:=@Nat.le_of_lt
abbrev Fx:=@List.getElem_inj
abbrev Fy:=@Nat.ne_of_gt
abbrev Fz:=@Nat.lt_of_not_le
abbrev Ga:=@Nat.min_eq_right
abbrev Gb:=@List.toList_toArray
abbrev Gc:=@List.filterMap_cons_none
abbrev Gd:=@List.Pairwise.imp_of_mem
abbrev Ge:=@PySem.F.slot_list_append
abbrev Gf:=@PySem.F.type_list_append
abbrev Gg:=@Nat.min_eq_left
abbrev Gh:=@PySem.slot_listiter_next
abbrev Gi:=@PySem.W.callWith_K
abbrev Gj:=@List.getElem_range
abbrev Gk:=@List.pairwise_cons
abbrev Gm:=@Nat.add_sub_cancel_left
abbrev Gp:=@PySem.F.slot_list_clear
abbrev Gq:=@PySem.F.type_list_clear
abbrev Gr:=@List.getElem?_set_self
abbrev Gu:=@PySem.Calls.callWith_builtin
abbrev Gv:=@Option.isSome_map
abbrev Gw:=@PySem.call_meetsIn
abbrev Gx:=@Array.toList_filterMap
abbrev Gy:=@PySem.fastTable_eq_tree
abbrev Gz:=@PySem.wpAny_storeSet_of
abbrev Ha:=@beq_self_eq_true
abbrev Hb:=@Nat.le_add_right
abbrev He:=@beq_iff_eq
abbrev Hf:=@List.any_cons
abbrev Hg:=@Bool.false_or
abbrev Hh:=@List.map_take
abbrev Hi:=@List.map_drop
abbrev Hj:=@Nat.le_succ
abbrev Hk:=@PySem.wpAny_of_eq
abbrev Hl:=@Int.le_refl
abbrev Hm:=@PySem.intKind_is
namespace L2
open PySem PySem.Spec PyProof.Rows
variable {A:Around}{C a b it:Addr}{E:Q2}{K:W.Frag}{M:Model}{N ps:List Str}{P:Program}{Q:Option Value->Shared->Prop}{body:List Stmt}{ch fp:List Addr}{e tg:Expr}{es:List Expr}{f:Value->Value->Sem Value}{gs items:Array Value}{h h':Heap}{i k n t':Nat}{kindOf:Str->Option NameKind}{y3:Q3}{pos:Pos}{s:Shared}{t:Tok}{u:Value}{us:List Value}{w:World}{x:Str}{α:Type}
abbrev Key:=Sum Int Str
def gS:Key->Value->Bool
 |.inl k,v=>Value.isInt k v
 |.inr x,v=>Value.isStrOf x v
def cJG(w:World):Key->Int
 |.inl k=>hashInt k
 |.inr x=>hashStr w x
def aZ:∀ {k:Key} {v:Value},gS k v=true->(∃i t,k=Sum.inl i/\v=Value.int i t)\/(∃x t,k=Sum.inr x/\v=Value.str x t)
 |.inl i,v,h=>by
  obtain⟨t,e⟩:=Value.isInt_shape (k:=i) (v:=v) h;exact .inl ⟨i,t,rfl,e⟩
 |.inr x,v,h=>by
  obtain⟨t,e⟩:=Value.isStrOf_shape (x:=x) (v:=v) h;exact .inr ⟨x,t,rfl,e⟩
def zF(i:Int)(t:Tok):gS (.inl i) (.int i t)=true:=by simp[gS,Value.isInt]
def yK(x:Str)(t:Tok):gS (.inr x) (.str x t)=true:=by simp[gS,Value.isStrOf]
def cQ2(a b:Int):decide ((Sum.inl a:Key)=Sum.inl b)=(a==b):=by
 by_cases e:a=b
 .subst e;simp
 .have h:¬(Sum.inl a:Key)=Sum.inl b:=λq=>e (Sum.inl.inj q)
  rw[Bb h];exact(Cr.mpr e).symm
def bJ3(a b:Str):decide ((Sum.inr a:Key)=Sum.inr b)=decide (a=b):=by
 by_cases e:a=b
 .subst e;simp
 .have h:¬(Sum.inr a:Key)=Sum.inr b:=λq=>e (Sum.inr.inj q)
  rw[Bb h,Bb e]
def bJY(a:Int)(b:Str):decide ((Sum.inl a:Key)=Sum.inr b)=false:=Bb (λq=>nomatch q)
def cXR(a:Str)(b:Int):decide ((Sum.inr a:Key)=Sum.inl b)=false:=Bb (λq=>nomatch q)
def aR(prog:Program)(w:World):PySem.KeyKind prog w Key where
 is:=gS
 hash:=cJG w
 inj:=λv a b ha hb=>by
  rcases aZ ha with⟨i,t,rfl,rfl⟩|⟨x,t,rfl,rfl⟩
  .rcases aZ hb with⟨j,u,rfl,e⟩|⟨y,u,rfl,e⟩
   .injection e with e1 _;rw[e1]
   .exact nomatch e
  .rcases aZ hb with⟨j,u,rfl,e⟩|⟨y,u,rfl,e⟩
   .exact nomatch e
   .injection e with e1 _;rw[e1]
 byValue:=λk v h=>by
  rcases aZ h with⟨i,t,rfl,rfl⟩|⟨x,t,rfl,rfl⟩ <;> rfl
 pyHash:=λhv h=>by
  rcases aZ hv with⟨i,t,rfl,rfl⟩|⟨x,t,rfl,rfl⟩
  .exact wpAny_pyHash_int h
  .exact wpAny_pyHash_str h
 eqBool:=λhu hv h=>by
  rcases aZ hu with⟨i,t,rfl,rfl⟩|⟨x,t,rfl,rfl⟩
  .rcases aZ hv with⟨j,u,rfl,rfl⟩|⟨y,u,rfl,rfl⟩
   .rw[cQ2]at h;exact wpAny_eqBool_int h
   .rw[bJY]at h;exact SeqAt.EqAt.int_str i t y u _ _ _ _ h
  .rcases aZ hv with⟨j,u,rfl,rfl⟩|⟨y,u,rfl,rfl⟩
   .rw[cXR]at h;exact SeqAt.EqAt.str_int x t j u _ _ _ _ h
   .rw[bJ3]at h;exact wpAny_eqBool_str h
 «strs» := λk x t v h=>by
  rcases aZ h with⟨i,u,rfl,e⟩|⟨y,u,rfl,e⟩
  .exact nomatch e
  .injection e with e1 _
   subst e1;cases v<;>rfl
def qY(prog:Program)(w:World)(i:Int)(t:Tok):(aR prog w).is (.inl i) (.int i t)=true:=zF i t
def rK(prog:Program)(w:World)(x:Str)(t:Tok):(aR prog w).is (.inr x) (.str x t)=true:=yK x t
inductive V where
 |non|bl (b:Bool)|int (i:Int)|str (x:Str)|byt (b:Array UInt8)|flt (b:UInt64)|ref (a:Addr)|ty (n:String)
 deriving DecidableEq
variable {v:V}{xs:List V}
def RelV:V->Value->Prop
 |.non,u=>u=Value.none
 |.bl b,u=>u=Value.bool b
 |.int i,u=>∃t,u=Value.int i t
 |.str x,u=>∃t,u=Value.str x t
 |.byt b,u=>∃t,u=Value.bytes b t
 |.flt b,u=>∃t,u=Value.float b t
 |.ref a,u=>u=Value.ref a
 |.ty n,u=>u=Value.type n
abbrev Vals:List V->List Value->Prop:=Paired RelV
def Vals.length(r:Vals xs us):xs.length=us.length:=Paired.length r
def Vals.get:∀ {xs:List V} {us:List Value} {i:Nat} {x:V},Vals xs us->xs[i]?=some x->∃u,us[i]?=some u/\RelV x u
 |_,_,_,_,.nil,e=>by simp at e
 |_,_,0,_,.cons r _,e=>by simp at e;subst e;exact⟨_,rfl,r⟩
 |_,_,i+1,x,.cons _ t,e=>by
  obtain⟨u,h1,h2⟩:=Vals.get (i:=i) (x:=x) t (by simpa using e)
  exact⟨u,by simpa using h1,h2⟩
def Vals.append:∀ {xs ys:List V} {us ws:List Value},Vals xs us->Vals ys ws->Vals (xs++ys) (us++ws)
 |_,_,_,_,.nil,s=>s
 |_,_,_,_,.cons r t,s=>.cons r (Vals.append t s)
def Vals.take:∀ {xs:List V} {us:List Value} (n:Nat),Vals xs us->Vals (xs.take n) (us.take n)
 |_,_,0,_=>.nil
 |_,_,_+1,.nil=>.nil
 |_,_,n+1,.cons r t=>.cons r (Vals.take n t)
def Vals.drop:∀ {xs:List V} {us:List Value} (n:Nat),Vals xs us->Vals (xs.drop n) (us.drop n)
 |_,_,0,r=>r
 |_,_,_+1,.nil=>.nil
 |_,_,n+1,.cons _ t=>Vals.drop n t
def RelO:Option V->Option Value->Prop
 |some v,some u=>RelV v u
 |none,none=>True
 |_,_=>False
def KV{κ:Type}:List (κ×V)->List (κ×Value)->Prop:=Paired λ(p:κ×V) (q:κ×Value)=>p.1=q.1/\RelV p.2 q.2
def kV:Key->V
 |.inl i=>.int i
 |.inr x=>.str x
inductive HO where
 |lst (xs:List V)
 |tup (xs:List V)
 |dK (kvs:List (Key×V))|dT (kvs:List (List Key×V))
 |set (S:Int->Bool) (n:Nat)
 |ins (C dx:Addr) (fs:List (Str×V))
 |own (x:Addr)
 |xd (fs:List (Str×V))
 |met (f x:Addr)
 |rng (lo hi:Int)
 |frz (o:Obj) (u:HO)
 |tbl (ps:Array Value)
 |ext (φ:Heap->Prop)
variable {o:HO}
abbrev Hp:=Addr->Option HO
variable {H:Hp}
def upd(H:Hp)(a:Addr)(o:HO):Hp:=λb=>if b=a then some o else H b
def aB:upd H a o a=some o:=by unfold upd;rw[if_pos rfl]
def aG(h:b≠a):upd H a o b=H b:=by unfold upd;rw[if_neg h]
def bXS{u:HO}:upd (upd H a o) a u=upd H a u:=by
 funext b;unfold upd;split<;>rfl
def dQH{u:HO}(h:H a=some o)(h':H b=some u)(d:o≠u):a≠b:=by
 intro e;subst e;rw[h]at h';exact d (Bh h')
def aY(h:H a=some o)(h':H b=none):a≠b:=by
 intro e;subst e;rw[h]at h';cases h'
section
variable (P:Program) (w:World)
def ObjOk(H:Hp)(h:Heap)(a:Addr):HO->Prop
 |.lst xs=>xs.length<=sizeLine/\∃(its:List Value) (n:Nat),Vals xs its/\h.get? a=some {cls:=.type "list",data:=.seq its.toArray n}
 |.tup xs=>xs.length<=sizeLine/\∃its:List Value,Vals xs its/\IsTup h a its.toArray
 |.dK kvs=>kvs.length<=sizeLine/\(a==sysModules)=false/\∃vs,KV kvs vs/\h.DictOf (aR P w) a vs
 | .dT kvs=>kvs.length<=sizeLine/\(a == sysModules)=false/\∃ xs:List (List Key×Addr×Value),
     Paired (λ(p:List Key×V) (q:List Key×Addr×Value)=>p.1=q.1/\H q.2.1=some (.tup (p.1.map kV))/\RelV p.2 q.2.2) kvs xs/\
     ∃o es ep,h.get? a=some o/\o.ExactDict/\o.data=.dict es ep/\es.toList=xs.map (entryOfKey (tupleKind (aR P w)))/\(xs.map (·.1)).Nodup
 |.set S n=>h.SetOf (intKind P w) a S n
 | .ins C dx fs=>H dx=some (.own a)/\fs.length<=1000/\dx≠a/\h.get? a=some (W.instObj C dx)/\
     ∃mA,h.Ns1 dx mA/\(∀f,RelO (fs.lookup f) (mA f))/\PySem.Within mA (fs.map (·.1))
 |.own _=>∃o,h.get? a=some o
 |.xd fs=>∃mA,h.Ns1 a mA/\∀f,RelO (fs.lookup f) (mA f)
 |.rng lo hi=>∃t u v,h.get? a=some {cls:=.type "range",data:=.fields #[.int lo t,.int hi u,.int 1 v]}
 |.frz o u=>h.get? a=some o/\ObjOk H h a u
 |.tbl ps=>h.get? a=some {cls:=.none,data:=.fields ps}
 |.met f x=>h.get? a=some (W.methodObj (.ref f) (.ref x))
 |.ext φ=>φ h/\(∃o,h.get? a=some o)/\∀h1 h2:Heap,φ h1->(∀o,h1.get? a=some o->h2.get? a=some o)->φ h2
def HOk(H:Hp)(h:Heap):Prop:=∀a o,H a=some o->ObjOk P w H h a o
end
section
variable {H':Hp}
def ObjOk.lt(x:ObjOk P w H h a o):a<h.objs.size:=by
 cases o with
 |lst xs=>obtain⟨_,_,_,_,e⟩:=x;exact Ao e
 |tup xs=>obtain⟨_,_,_,p⟩:=x;exact p.lt
 |dK kvs=>obtain⟨_,_,_,_,o,_,_,e,_⟩:=x;exact Ao e
 |dT kvs=>obtain⟨_,_,_,_,o,_,_,e,_⟩:=x;exact Ao e
 |set S n=>obtain⟨o,_,_,_,e,_⟩:=x;exact Ao e
 |ins C dx fs=>obtain⟨_,_,_,e,_⟩:=x;exact Ao e
 |own y=>obtain⟨_,e⟩:=x;exact Ao e
 |xd fs=>obtain⟨_,⟨_,_,_,e,_⟩,_⟩:=x;exact Ao e
 |rng lo hi=>obtain⟨_,_,_,e⟩:=x;exact Ao e
 |frz ob u=>obtain⟨e,_⟩:=x;exact Ao e
 |tbl ps=>exact Ao (show h.get? a=some _ from x)
 |met f y=>exact Ao (show h.get? a=some _ from x)
 |ext φ=>obtain⟨_,⟨_,e⟩,_⟩:=x;exact Ao e
def Paired.mapP{β:Type}{F G:α->β->Prop}:∀ {l₁:List α} {l₂:List β},Paired F l₁ l₂->(∀a b,F a b->G a b)->Paired G l₁ l₂
 |_,_,.nil,_=>.nil
 |_,_,.cons r t,f=>.cons (f _ _ r) (Paired.mapP t f)
def ObjOk.stay(x:ObjOk P w H h a o)(k:∀b u,(b=a\/H b=some (.own a))->h.get? b=some u->h'.get? b=some u)(ho:∀b,H b=some (.own a)->H' b=some (.own a))(ht:∀b xs,H b=some (.tup xs)->H' b=some (.tup xs)):ObjOk P w H' h' a o:=by
 induction o with
 |lst xs=>obtain⟨z,its,n,r,e⟩:=x;exact⟨z,its,n,r,k _ _ (.inl rfl) e⟩
 |tup xs=>obtain⟨z,its,r,ob,e,c⟩:=x;exact⟨z,its,r,ob,k _ _ (.inl rfl) e,c⟩
 |dK kvs=>obtain⟨z,y,vs,r,ob,es,ep,e,c⟩:=x;exact⟨z,y,vs,r,ob,es,ep,k _ _ (.inl rfl) e,c⟩
 |dT kvs=>
  obtain⟨z,y,xs,r,ob,es,ep,e,c⟩:=x;exact⟨z,y,xs,Paired.mapP r λp q z=>⟨z.1,ht _ _ z.2.1,z.2.2⟩,ob,es,ep,k _ _ (.inl rfl) e,c⟩
 |set S n=>obtain⟨ob,es,ep,t,e,c⟩:=x;exact⟨ob,es,ep,t,k _ _ (.inl rfl) e,c⟩
 |ins C dx fs=>
  obtain⟨d,z,ne,e,mA,⟨od,es,ep,e2,c⟩,r⟩:=x;exact⟨ho _ d,z,ne,k _ _ (.inl rfl) e,mA,⟨od,es,ep,k _ _ (.inr d) e2,c⟩,r⟩
 |own y=>obtain⟨ob,e⟩:=x;exact⟨ob,k _ _ (.inl rfl) e⟩
 |xd fs=>obtain⟨mA,⟨od,es,ep,e,c⟩,r⟩:=x;exact⟨mA,⟨od,es,ep,k _ _ (.inl rfl) e,c⟩,r⟩
 |rng lo hi=>obtain⟨t,u,v,e⟩:=x;exact⟨t,u,v,k _ _ (.inl rfl) e⟩
 |frz ob u ih=>obtain⟨e,q⟩:=x;exact⟨k _ _ (.inl rfl) e,ih q⟩
 |tbl ps=>
  have e:h.get? a=some {cls:=.none,data:=.fields ps}:=x
  show h'.get? a=some {cls:=.none,data:=.fields ps}
  exact k a _ (.inl rfl) e
 |met f y=>
  have e:h.get? a=some (W.methodObj (.ref f) (.ref y)):=x
  show h'.get? a=some (W.methodObj (.ref f) (.ref y))
  exact k a _ (.inl rfl) e
 |ext φ=>obtain⟨p,⟨o,e⟩,st⟩:=x;exact⟨st _ _ p λo q=>k _ _ (.inl rfl) q,⟨o,k _ _ (.inl rfl) e⟩,st⟩
def HOk.lt(x:HOk P w H h)(e:H a=some o):a<h.objs.size:=(x a o e).lt
def HOk.fresh(x:HOk P w H h)(e:h.objs.size<=a):H a=none:=by
 cases q:H a with
 |none=>rfl
 |some u=>exact absurd (Az (x.lt q) e) (Dm _)
def HOk.kept(x:HOk P w H h)(k:∀b u,h.get? b=some u->h'.get? b=some u):HOk P w H h':=λa o e=>
 (x a o e).stay (λb u _ q=>k b u q) (λ_ q=>q) λ_ _ q=>q
def HOk.laid(x:HOk P w H h)(k:∀b u,h.get? b=some u->h'.get? b=some u)(hp:h.objs.size<=a)(new:ObjOk P w (upd H a o) h' a o):HOk P w (upd H a o) h':=λb u e=>by
 have hn:=x.fresh hp
 by_cases hb:b=a
 .subst hb;rw[aB]at e;cases e;exact new
 .rw[aG hb]at e;exact(x b u e).stay (λc v _ q=>k c v q) (λc q=>by rw[aG (aY q hn)];exact q) λc xs q=>by rw[aG (aY q hn)];exact q
end
def Rd(H:Hp)(a:Addr)(u:HO):Prop:=H a=some u\/∃o,H a=some (.frz o u)
def Rd.of{u:HO}(h:H a=some u):Rd H a u:=.inl h
def Rd.ok{u:HO}(r:Rd H a u)(x:HOk P w H h):ObjOk P w H h a u:=by
 rcases r with r|⟨o,r⟩
 .exact x a u r
 .obtain⟨_,q⟩:=x a _ r;exact q
def Mut:Option HO->Prop
 |some (.lst _)=>True
 |some (.dK _)=>True
 |some (.dT _)=>True
 |some (.set _ _)=>True
 |some (.ins _ _ _)=>True
 |some (.ext _)=>True
 |_=>False
section
variable {x e:Addr} {o':HO}
def HOk.write(ok:HOk P w H h)(mu:Mut (H x))(he:e=x\/H e=some (.own x))(k:∀b u,b≠e->h.get? b=some u->h'.get? b=some u)(heo:∃u,h'.get? e=some u)(new:ObjOk P w (upd H x o') h' x o'):HOk P w (upd H x o') h':=λb u q=>by
 have nown:∀c y,H c=some (.own y)->c≠x:=λc y r z=>by subst z;rw[r]at mu;exact mu
 have ntup:∀c xs,H c=some (.tup xs)->c≠x:=λc xs r z=>by subst z;rw[r]at mu;exact mu
 by_cases hb:b=x
 .subst hb;rw[aB]at q;cases q;exact new
 .rw[aG hb]at q;by_cases hbe:b=e
  .have q':H b=some (.own x):=by
    rcases he with z|z
    .exact absurd (hbe.trans z) hb
    .rw[hbe];exact z
   rw[q]at q';cases q';obtain⟨v,hv⟩:=heo;exact⟨v,by rw[hbe];exact hv⟩
  .refine(ok b u q).stay (λc v hc r=>k c v ?_ r) (λc r=>by rw[aG (nown c b r)];exact r) λc xs r=>by rw[aG (ntup c xs r)];exact r
   rcases hc with rfl|hc
   .exact hbe
   .rintro rfl;rcases he with z|z
    .exact nown c b hc z
    .rw[hc]at z;cases z;exact hb rfl
end
structure Un (fs ex:List Addr) (H H':Hp) (h h':Heap):Prop where
 keep:∀b o,h.get? b=some o->H b=none->b∉fs->b∉ex->h'.get? b=some o
 slot:∀b o,h.get? b=some o->H b=none->b∈fs->b∉ex->∃sl,h'.get? b=some {o with slots:=sl}
 free:∀b o,h.get? b=some o->H b=none->b∉ex->H' b=none
 there:∀b o,h.get? b=some o->b∉ex->∃o',h'.get? b=some o'
 tups:∀b xs,H b=some (.tup xs)->H' b=some (.tup xs)
 frzs:∀b o u,H b=some (.frz o u)->H' b=some (.frz o u)
 tbls:∀b ps,H b=some (.tbl ps)->∃more,H' b=some (.tbl (ps++more))
section
variable {fs fs' ex ex':List Addr} {H1 H2:Hp} {h1 h2:Heap} {x e:Addr}
def Un.any(u:Un fs ex H H1 h h1){ob:Obj}(q:h.get? b=some ob)(n:H b=none)(hx:b∉ex):∃sl,h1.get? b=some {ob with slots:=sl}:=by
 by_cases hb:b∈fs
 .exact u.slot b ob q n hb hx
 .exact⟨ob.slots,u.keep b ob q n hb hx⟩
def Un.trans(a:Un fs ex H H1 h h1)(b:Un fs ex H1 H2 h1 h2):Un fs ex H H2 h h2 where
 keep:=λc ob q n hc hx=>b.keep c ob (a.keep c ob q n hc hx) (a.free c ob q n hx) hc hx
 slot:=λc ob q n hc hx=>by
  obtain⟨sl,e1⟩:=a.slot c ob q n hc hx;obtain⟨sl',e2⟩:=b.slot c _ e1 (a.free c ob q n hx) hc hx;exact⟨sl',e2⟩
 free:=λc ob q n hx=>by
  obtain⟨o',e1⟩:=a.there c ob q hx;exact b.free c o' e1 (a.free c ob q n hx) hx
 there:=λc ob q hx=>by
  obtain⟨o',e1⟩:=a.there c ob q hx;exact b.there c o' e1 hx
 tups:=λc xs q=>b.tups c xs (a.tups c xs q)
 frzs:=λc ob xs q=>b.frzs c ob xs (a.frzs c ob xs q)
 tbls:=λc ps q=>by
  obtain⟨m1,e1⟩:=a.tbls c ps q;obtain⟨m2,e2⟩:=b.tbls c _ e1;exact⟨m1++m2,by rw[e2,Array.append_assoc]⟩
def Un.kept(k:∀b u,h.get? b=some u->h'.get? b=some u):Un fs ex H H h h':=
 ⟨λb ob q _ _ _=>k b ob q,λb ob q _ _ _=>⟨ob.slots,k b ob q⟩,λ_ _ _ n _=>n,λb ob q _=>⟨ob,k b ob q⟩,λ_ _ q=>q,λ_ _ _ q=>q,λ_ ps q=>⟨#[],by rw[q];simp⟩⟩
def Un.refl:Un fs ex H H h h:=Un.kept λ_ _ q=>q
def Un.laid(k:∀b u,h.get? b=some u->h'.get? b=some u)(hp:h.objs.size<=a)(hn:H a=none):Un fs ex H (upd H a o) h h' where
 keep:=λb u q _ _ _=>k b u q
 slot:=λb u q _ _ _=>⟨u.slots,k b u q⟩
 free:=λb u q n _=>by rw[aG (Ba (Az (Ao q) hp))];exact n
 there:=λb u q _=>⟨u,k b u q⟩
 tups:=λb xs q=>by rw[aG (aY q hn)];exact q
 frzs:=λb u xs q=>by rw[aG (aY q hn)];exact q
 tbls:=λb ps q=>⟨#[],by rw[aG (aY q hn),q];simp⟩
def Un.write(mu:Mut (H x))(he:e=x\/H e=some (.own x))(k:∀b u,b≠e->h.get? b=some u->h'.get? b=some u)(heo:∃u,h'.get? e=some u):Un fs ex H (upd H x o) h h':=by
 have hx:∀b,H b=none->b≠x:=λb n z=>by subst z;rw[n]at mu;exact mu
 have hb:∀b,H b=none->b≠e:=λb n z=>by
  subst z;rcases he with r|r
  .exact hx b n r
  .rw[n]at r;cases r
 have hm:∀b u,H b=some u->¬Mut (some u)->b≠x:=λb u q nm z=>by subst z;rw[q]at mu;exact nm mu
 refine⟨λb u q n _ _=>k b u (hb b n) q,λb u q n _ _=>⟨u.slots,k b u (hb b n) q⟩,λb u q n _=>by rw[aG (hx b n)];exact n,λb u q _=>?_,
  λb xs q=>by rw[aG (hm b _ q λz=>z)];exact q,λb u xs q=>by rw[aG (hm b _ q λz=>z)];exact q,λb ps q=>⟨#[],by rw[aG (hm b _ q λz=>z),q];simp⟩⟩
 by_cases hbe:b=e
 .subst hbe;exact heo
 .exact⟨u,k b u hbe q⟩
def Un.mono(u:Un fs ex H H1 h h1)(hs:∀b∈fs,b∈fs')(hx:∀b∈ex,b∈ex'):Un fs' ex' H H1 h h1:=
 ⟨λb ob q n hb he=>u.keep b ob q n (λz=>hb (hs b z)) λz=>he (hx b z),λ_ _ q n _ he=>u.any q n λz=>he (hx _ z),λb ob q n he=>u.free b ob q n λz=>he (hx b z),λb ob q he=>u.there b ob q λz=>he (hx b z),u.tups,u.frzs,u.tbls⟩
end
def trk(h:Heap)(H:Hp):List Addr:=(List.range h.objs.size).filter λa=>(H a).isSome
def pH(h:Heap)(H:Hp):Heap:=W.hideAll h (trk h H)
def zP(h:Heap)(H:Hp):(pH h H).objs.size=h.objs.size:=W.hideAll_size _ _
def aZ7{o:Obj}(e:h.get? b=some o)(n:H b=none):(pH h H).get? b=some o:=
 W.hideAll_get _ e λhm=>by
  have q:(H b).isSome=true:=(Du.mp hm).2
  rw[n]at q;simp at q
def bZE{o:Obj}(e:(pH h H).get? b=some o):h.get? b=some o/\H b=none:=by
 have e':h.get? b=some o:=W.of_hideAll (trk h H) e
 refine⟨e',?_⟩;cases q:H b with
 |none=>rfl
 |some x=>
  have hm:b∈trk h H:=List.mem_filter.mpr ⟨List.mem_range.mpr (Heap.lt_size e'),by simp[q]⟩
  have z:(pH h H).get? b=none:=W.hideAll_none (trk h H) hm
  rw[z]at e;cases e
def bQR(g h:Heap)(L:Addr):List (Addr×Obj):=(List.range h.objs.size).filterMap λa=>if a=L\/(g.get? a).isSome=true then none else (h.get? a).map λo=>(a,o)
def rest(g h:Heap)(L d:Addr):List (Addr×Obj):=(bQR g h L).filter λp=>decide (p.1≠d)
structure Mod (K:W.Frag) (mg:Str->Option Value) (base:Heap):Prop where
 kin:K.In base
 glob:base.Ns mainGlobals mg
 blt:∃mb,base.Ns builtinsNs mb/\∀x:Str,x≠"__name__"->mb x=bootBuiltins x
 nolimit:base.NoLimit
def hvO:List Addr->Option Value
 |[]=>none
 |a::_=>some (.ref a)
def hvV:List Addr->Value
 |[]=>.none
 |a::_=>.ref a
def Lnk(h:Heap):List Addr->Prop
 |[]=>True
 |a::r=>(∃o fs,h.get? a=some o/\o.data=.fields fs/\fs[2]?=some (hvV r))/\Lnk h r
def Chn(h:Heap)(ch:List Addr):Prop:=ch.Nodup/\Lnk h ch
def Lnk.ext:∀ {ch:List Addr},Lnk h ch->(∀a∈ch,∀o,h.get? a=some o->h'.get? a=some o)->Lnk h' ch
 |[],_,_=>trivial
 |a::r,⟨⟨o,fs,e,d,g⟩,l⟩,k=>⟨⟨o,fs,k a Al o e,d,g⟩,Lnk.ext l λb hb=>k b (Ak _ hb)⟩
def Chn.ext(c:Chn h ch)(k:∀a∈ch,∀o,h.get? a=some o->h'.get? a=some o):Chn h' ch:=⟨c.1,c.2.ext k⟩
def Lnk.lt:∀ {ch:List Addr},Lnk h ch->∀a∈ch,a<h.objs.size
 |_::_,⟨⟨o,_,e,_⟩,l⟩,a,ha=>by
  rcases Av.mp ha with rfl|z
  .exact Ao e
  .exact Lnk.lt l a z
def Chn.lt(c:Chn h ch)(ha:a∈ch):a<h.objs.size:=c.2.lt a ha
def Chn.new(c:Chn h ch)(ha:h.objs.size<=a):a∉ch:=λz=>absurd (c.lt z) (Nat.not_lt.mpr ha)
def gR:entryFor table "proto.unchain"=some Builtin.«proto.unchain» := entryFor_of_tree (by kernel_rfl)
def sZ{a b c d e:Value}{m:Array Value}:(#[a,b,.none,c,d,e]++m)[2]?=some Value.none:=by
 rw[Array.getElem?_append_left (show 2<6 by decide)]
 rfl
section
variable {prog:Program}
def uN{n:Addr}:∀(r:List Addr) (o sl:Addr) (p q:List Addr) (A:Around) (tg:Bool) (s:Shared) (R:Result->Shared->Prop),p++o::r=sl::q->Lnk s.heap (sl::q)->(sl::q).Nodup->n∉o::r->R (.ok (.ret .none)) s->
 codeAny (model prog w) A (.builtin "proto.unchain" ⟨[.ref n,.ref o,.ref sl,.bool tg],[]⟩) R s:=by
 intro r;induction r with
 |nil=>
  intro o sl p q A tg s R hp hl nd hn hR;have lo:Lnk s.heap [o]:=by
   have:∀(p:List Addr),Lnk s.heap (p++[o])->Lnk s.heap [o]:=λp=>by
    induction p with
    |nil=>exact id
    |cons a p ih=>exact λh=>ih h.2
   exact this p (hp▸hl)
  obtain⟨⟨oo,fs,g,d,g2⟩,_⟩:=lo;refine Dd gR ?_;show wpAny _ _ (field (.ref o) 2 >>= _) _ _ _
  refine Aa (Bl g d g2 ?_);show wpAny _ _ (if (Value.none==Value.none)=true then _ else _) _ _ _
  rw[if_pos (show (Value.none==Value.none)=true from rfl)];exact Ae hR
 |cons c r ih=>
  intro o sl p q A tg s R hp hl nd hn hR;have lo:Lnk s.heap (o::c::r):=by
   have:∀(p:List Addr),Lnk s.heap (p++o::c::r)->Lnk s.heap (o::c::r):=λp=>by
    induction p with
    |nil=>exact id
    |cons a p ih=>exact λh=>ih h.2
   exact this p (hp▸hl)
  obtain⟨⟨oo,fs,g,d,g2⟩,_⟩:=id lo;have hcn:c≠n:=λz=>hn (by simp[z])
  have hcq:c∈q:=by
   cases p with
   |nil=>
    cases hp;exact Al
   |cons a p=>
    cases hp;simp
  have hcs:c≠sl:=λz=>(Bi.mp nd).1 (z▸hcq)
  refine Dd gR ?_;show wpAny _ _ (field (.ref o) 2 >>= _) _ _ _
  refine Aa (Bl g d g2 ?_);have b1:(Value.ref c==Value.none)=false:=rfl
  have b2:(Value.ref c==Value.ref n)=false:=Cr.mpr λz=>hcn (by injection z)
  have b3:(Value.ref c==Value.ref sl)=false:=Cr.mpr λz=>hcs (by injection z)
  show wpAny _ _ (if (Value.ref c==Value.none)=true then _ else _) _ _ _
  rw[b1,if_neg An];show wpAny _ _ (if (Value.ref c==Value.ref n)=true then _ else _) _ _ _
  rw[b2,if_neg An];show wpAny _ _ (if (Value.ref c==Value.ref sl)=true then _ else _) _ _ _
  rw[b3,if_neg An];have hn2:n∉c::r:=λz=>hn (Ak _ z)
  have qt:Code.quiet (.builtin "proto.unchain" ⟨[.ref n,.ref c,.ref sl,.bool !tg],[]⟩)=true:=Fh _ (by decide +kernel)
  cases tg with
  |false=>
   refine Aa (m:=(pure (Value.ref sl):Sem Value)) (Ae (Ae ⟨qt,?_⟩));refine ih c sl (p++[o]) q A true s R ?_ hl nd hn2 hR;rw[Ed];exact hp
  |true=>
   obtain⟨⟨os,ss,gs,ds,s2⟩,lq⟩:=hl;cases q with
   |nil=>cases hcq
   |cons b q=>
    refine Aa (m:=field (.ref sl) 2) (Bl gs ds s2 (Ae ⟨Fh _ (by decide +kernel),?_⟩))
    cases p with
    |nil=>
     cases hp;exact ih c c [] r A false s R rfl lq (Bi.mp nd).2 hn2 hR
    |cons a p=>
     have hp2:p++o::c::r=b::q:=by
      have:=List.cons.inj hp
      exact this.2
     refine ih c b (p++[o]) q A false s R ?_ lq (Bi.mp nd).2 hn2 hR;rw[Ed];exact hp2
def aJ7{o:Obj}(hd:o.data=.fields gs)(h2:gs[2]?=some .none):o.mapFields (·.setIfInBounds 2 .none)=o:=by
 obtain⟨c,d,da,sl⟩:=o;cases hd;show Obj.mk c d (.fields (gs.setIfInBounds 2 .none)) sl=_
 have:gs.setIfInBounds 2 Value.none=gs:=by
  refine Array.ext (by simp) λi h1 h3=>?_
  by_cases hi:i=2
  .subst hi;obtain⟨_,z⟩:=Bm.mp h2;simp[z]
  .rw[Array.getElem_setIfInBounds_ne (by simpa using h3) (Ne.symm hi)]
 rw[this]
def eY{Q:α->Shared->Prop}{n:Addr}{o:Obj}(hh:A.handled=hvO ch)(hne:n∉ch)(hc:Chn s.heap ch)(ho:s.heap.get? n=some o)(hd:o.data=.fields gs)(h2:gs[2]?=some .none)(h:∀h',Heap.SameBut n s.heap h'->h'.get? n=some (o.mapFields (·.setIfInBounds 2 (hvV ch)))->E (.ref n) {s with heap:=h'}):wpAny (model prog w) A (raiseNew (.ref n):Sem α) Q E s:=by
 cases ch with
 |nil=>exact wpAny_raiseNew_none hh (h s.heap (Heap.SameBut.refl ..) (by rw[ho];exact Cy some (aJ7 hd h2).symm))
 |cons ea r=>
  unfold raiseNew;refine Aa (wpAny_handled (?_:_));rw[hh];show wpAny _ _ (if ((Value.ref ea) != (Value.ref n))=true then _ else _) _ _ _
  have hb:((Value.ref ea) != (Value.ref n))=true:=by
   rw[bne_iff_ne];intro z;injection z with z
   exact hne (by simp[z])
  rw[if_pos hb];refine Aa (Bv (wpAny_runValue (uN r ea ea [] r _ false s _ rfl hc.2 hc.1 hne ?_)));refine Aa ?_;unfold updateField;refine Aa (wpAny_load ho ?_);simp only[hd];rw[if_pos (Bm.mp h2).1];exact wpAny_update ho (wpAny_throw (h _ (Ce ..) (Dj _ ho (Obj.isFreed_of_fields (Cz hd _)))))
def cR{Q0:α->Shared->Prop}{B:Around}{h1:Heap}{t x:Obj}(hcl:x.cls=.type "StopIteration")(hd:x.data=.fields gs)(h2:gs[2]?=some .none)(hfr:x.isFreed=false)(ext:Heap.ExtBut it s.heap ((h1.push t).push x))(hz:s.heap.objs.size<=(h1.push t).objs.size)(hh:B.handled=hvO ch)(hne:it∉ch)(hc:Chn s.heap ch)(hQ:∀h',Heap.ExtBut it s.heap h'->Q none {s with heap:=h'}):wpAny (model prog w) B (raiseNew (.ref (h1.push t).objs.size):Sem α) Q0 (λe s'=>wpAny (model prog w) A (do if (<-isInstance e (Value.type "StopIteration"))=true then pure none else throw e) Q E s') {s with heap:=(h1.push t).push x}:=by
 refine eY (s:={s with heap:=(h1.push t).push x}) hh (hc.new hz) (hc.ext λa ha o e=>ext a o (λz=>hne (z▸ha)) e) (Aw _ hfr) hd h2 λh' sb g=>?_
 refine Aa (wpAny_isInstance (b:=true) (T := "StopIteration") ⟨_,g,(Fo ..).trans hcl⟩ isSubtype_stop ?_);exact Ae (hQ _ λb o hb e=>(sb.2 b (Ba (Az (Ao e) hz))).trans (ext b o hb e))
def jO{l:Addr}(hh:A.handled=hvO ch)(hne:it∉ch)(hc:Chn s.heap ch)(hit:s.heap.IsListIter it l i)(hl:s.heap.IsList l items)(hx:items[i]?=none)(hQ:∀h',Heap.ExtBut it s.heap h'->Q none {s with heap:=h'}):wpAny (model prog w) A (pyNext (.ref it)) Q E s:=by
 obtain⟨o,ho,hcl,hd⟩:=id hit;obtain⟨ol,hol,_,nl,hdl⟩:=hl;unfold pyNext;refine Aa (De (wpAny_callSpecial?_slot (name:=Str.ofString "__next__") hit.typeIs Gh (Br Gh hit.typeIs entry_listiter_next ?_ (args_listiter_next _))));show wpAny _ _ (field (.ref it) 0 >>= _) _ _ s
 refine Aa (Bl (x:=.ref l) ho hd rfl ?_);show wpAny _ _ (if (Value.ref l==Value.none)=true then _ else _) _ _ s
 rw[if_neg (by exact An)]
 show wpAny _ _ (field (.ref it) 1 >>= _) _ _ s
 refine Aa (Bl (x:=.int i 0) ho hd rfl ?_);show wpAny _ _ (seqItems? (.ref l) >>= _) _ _ s
 refine Aa (Fs hol hdl (?_:_));simp only[Int.toNat_natCast,hx];refine wpAny_bind (wpAny_rule (wpAny_bind (wpAny_setField ho hd (by simp) (?_:_))))
 show wpAny _ _ (newExc (Value.type "StopIteration") [] >>= _) _ _ _
 refine Aa ?_;simp only[newTuple,newExc];refine wpAny_bind (wpAny_newObj_type (wpAny_bind (m:=firstArgMember _ _) (wpAny_of_eq (a:=Value.none) (by first|rfl|(simp only[firstArgMember];rfl)) (wpAny_newObj_type ?_ (by size_fits)))) (by size_fits))
 have X0:=((Ce (h:=s.heap) (a:=it) (f:=Obj.mapFields λx=>x.setIfInBounds 0 Value.none)).extBut.push {cls:=Value.type "tuple",data:=Data.seq #[]}).push (⟨.type "StopIteration",none,.fields (#[.ref (s.heap.update it (Obj.mapFields λx=>x.setIfInBounds 0 Value.none)).objs.size,.none,.none,.none,.bool false,.none]++ownMembersOf (Value.type "StopIteration") []),#[]⟩:Obj)
 exact cR (s:=s) (h1:=s.heap.update it (Obj.mapFields λx=>x.setIfInBounds 0 Value.none)) rfl rfl sZ rfl X0 (by simp) hh hne hc hQ
def vI{x left step:Int}(hh:A.handled=hvO ch)(hne:it∉ch)(hc:Chn s.heap ch)(hit:IsRangeIter s.heap it x left step)(hleft:left<=0)(hQ:∀h',Heap.ExtBut it s.heap h'->Q none {s with heap:=h'}):wpAny (model prog w) A (pyNext (.ref it)) Q E s:=by
 have hT:s.TypeIs (.ref it) "range_iterator" := ⟨_,hit,rfl⟩
 unfold pyNext;refine Aa (De (wpAny_callSpecial?_slot (name:=Str.ofString "__next__") hT F.slot_range_iterator_next (Br F.slot_range_iterator_next hT F.entry_range_iterator_next ?_ (F.args_range_iterator_next_1 _))));show wpAny _ _ (field (.ref it) 0 >>= _) _ _ s
 refine Aa (Bl (x:=rawInt x) hit rfl rfl ?_);show wpAny _ _ (field (.ref it) 1 >>= _) _ _ s
 refine Aa (Bl (x:=rawInt left) hit rfl rfl ?_);show wpAny _ _ (field (.ref it) 2 >>= _) _ _ s
 refine Aa (Bl (x:=rawInt step) hit rfl rfl ?_);show wpAny _ _ (if left<=0 then _ else _) _ _ s
 rw[if_pos hleft];refine Aa (wpAny_rule (Aa ?_));show wpAny _ _ (newExc (Value.type "StopIteration") [] >>= _) _ _ _
 refine Aa ?_;simp only[newTuple,newExc];refine wpAny_bind (wpAny_newObj_type (wpAny_bind (m:=firstArgMember _ _) (wpAny_of_eq (a:=Value.none) (by first|rfl|(simp only[firstArgMember];rfl)) (wpAny_newObj_type ?_ (by size_fits)))) (by size_fits))
 have X0:Heap.ExtBut it s.heap ((s.heap.push {cls:=Value.type "tuple",data:=Data.seq #[]}).push (⟨.type "StopIteration",none,.fields (#[.ref s.heap.objs.size,.none,.none,.none,.bool false,.none]++ownMembersOf (Value.type "StopIteration") []),#[]⟩:Obj)):=λb o _ e=>Ad _ (Ad _ e)
 exact cR (s:=s) (h1:=s.heap) rfl rfl sZ rfl X0 (by simp) hh hne hc hQ
def nU{jt dq:Addr}{ep:Nat}{en:Array DictEntry}{od:Obj}(hh:A.handled=hvO ch)(hne:jt∉ch)(hc:Chn s.heap ch)(hit:s.heap.IsKeyIter jt dq en.size en.size ep)(hod:s.heap.get? dq=some od)(hdd:od.data=.dict en ep)(hq:∀h',Heap.ExtBut jt s.heap h'->Q none {s with heap:=h'}):wpAny (model prog w) A (pyNext (.ref jt)) Q E s:=by
 obtain⟨oi,hoi,ci,di⟩:=id hit;have ow:Builtin.Dict_items.ownsTuple "dict_keyiterator"=false:=by decide
 have tI:=hit.typeIs
 unfold pyNext;refine Aa (De (wpAny_callSpecial?_slot (name:=Str.ofString "__next__") tI Ef (Br Ef tI F.entry_dict_keyiterator_next ?_ (F.args_dict_keyiterator_next_1 _))));refine Aa (Ae (Aa (Aa ?_)));refine Aa (Ec tI (Ae (Aa (wpAny_fieldsOf hoi di ?_))));simp only[ow,Bool.false_eq_true,if_false];show wpAny _ _ (if (Value.ref dq==Value.none)=true then _ else _) _ _ s
 rw[if_neg (by exact An)]
 refine Aa (Ae (Aa (wpAny_dictEntries hod hdd ?_)));rw[if_neg (by simp)]
 refine Aa (Ae (Aa (wpAny_dictEpoch hod hdd ?_)));rw[if_neg (by simp)]
 refine Ae ?_;simp only[show ¬((en.size:Int)<0) by omega,if_false,Int.toNat_natCast,Array.getElem?_eq_none (Nat.le_refl en.size)]
 refine Aa (Aa (Ec tI (Ae ?_)));show wpAny _ _ (setField (.ref jt) 0 .none >>= _) _ _ s
 refine wpAny_bind (wpAny_setField hoi di (by simp) ?_)
 show wpAny _ _ (newExc (Value.type "StopIteration") [] >>= _) _ _ _
 refine Aa ?_;simp only[newTuple,newExc];refine wpAny_bind (wpAny_newObj_type (wpAny_bind (m:=firstArgMember _ _) (wpAny_of_eq (a:=Value.none) (by first|rfl|(simp only[firstArgMember];rfl)) (wpAny_newObj_type ?_ (by size_fits)))) (by size_fits))
 have X0:=((Ce (h:=s.heap) (a:=jt) (f:=Obj.mapFields λx=>x.setIfInBounds 0 Value.none)).extBut.push {cls:=Value.type "tuple",data:=Data.seq #[]}).push (⟨.type "StopIteration",none,.fields (#[.ref (s.heap.update jt (Obj.mapFields λx=>x.setIfInBounds 0 Value.none)).objs.size,.none,.none,.none,.bool false,.none]++ownMembersOf (Value.type "StopIteration") []),#[]⟩:Obj)
 exact cR (s:=s) (h1:=s.heap.update jt (Obj.mapFields λx=>x.setIfInBounds 0 Value.none)) rfl rfl sZ rfl X0 (by simp) hh hne hc hq
def zK(hh:A.handled=hvO ch)(hne:it∉ch)(hc:Chn s.heap ch)(hit:s.heap.IsStrIter it "str_ascii_iterator" x t i)(hx:x.cps[i]?=none)(hQ:∀h',Heap.ExtBut it s.heap h'->Q none {s with heap:=h'}):wpAny (model prog w) A (pyNext (.ref it)) Q E s:=by
 obtain⟨o,ho,hcl,hd⟩:=id hit;unfold pyNext;refine Aa (De (wpAny_callSpecial?_slot (name:=Str.ofString "__next__") hit.typeIs F.slot_str_ascii_iterator_next (Br F.slot_str_ascii_iterator_next hit.typeIs F.entry_str_ascii_iterator_next ?_ (F.args_str_ascii_iterator_next_1 _))));show wpAny _ _ (field (.ref it) 0 >>= _) _ _ s
 refine Aa (Bl (x:=.str x t) ho hd rfl ?_);show wpAny _ _ (field (.ref it) 1 >>= _) _ _ s
 refine Aa (Bl (x:=.int i 0) ho hd rfl ?_);simp only[Int.toNat_natCast,hx];refine wpAny_bind (wpAny_rule (wpAny_bind (wpAny_setField ho hd (by simp) (wpAny_bind (wpAny_letGo (?_:_))))))
 show wpAny _ _ (newExc (Value.type "StopIteration") [] >>= _) _ _ _
 refine Aa ?_;simp only[newTuple,newExc];refine wpAny_bind (wpAny_newObj_type (wpAny_bind (m:=firstArgMember _ _) (wpAny_of_eq (a:=Value.none) (by first|rfl|(simp only[firstArgMember];rfl)) (wpAny_newObj_type ?_ (by size_fits)))) (by size_fits))
 have X0:=((Ce (h:=s.heap) (a:=it) (f:=Obj.mapFields λx=>x.setIfInBounds 0 Value.none)).extBut.push {cls:=Value.type "tuple",data:=Data.seq #[]}).push (⟨.type "StopIteration",none,.fields (#[.ref (s.heap.update it (Obj.mapFields λx=>x.setIfInBounds 0 Value.none)).objs.size,.none,.none,.none,.bool false,.none]++ownMembersOf (Value.type "StopIteration") []),#[]⟩:Obj)
 exact cR (s:=s) (h1:=s.heap.update it (Obj.mapFields λx=>x.setIfInBounds 0 Value.none)) rfl rfl sZ rfl X0 (by simp) hh hne hc hQ
def sF{lo c:Int}(i:Nat)(s:Shared)(Q:Option Value->Shared->Prop)(E:Q2)(hi:i<n)(st:IsRangeIter s.heap it (lo+(i:Nat)*c) ((n:Int)-(i:Nat)) c)(hQ:∀v h' tk,(∃t,v=Value.int (lo+i*c) t)->IsRangeIter h' it (lo+(i+1:Nat)*c) ((n:Int)-(i+1:Nat)) c->(∀b o,b∉[it]->s.heap.get? b=some o->h'.get? b=some o)->Q (some v) {s with heap:=h',toks:=tk}):wpAny (model prog w) A (pyNext (.ref it)) Q E s:=by
 refine wpAny_pyNext_range_item st (by omega) λh' it' sb=>?_
 have e1:lo+(i:Int)*c+c=lo+((i+1:Nat):Int)*c:=by push_cast;rw[Int.add_mul,Int.one_mul,Int.add_assoc]
 have e2:(n:Int)-(i:Int)-1=(n:Int)-((i+1:Nat):Int):=by push_cast;omega
 rw[e1,e2]at it';exact hQ _ h' _ ⟨_,rfl⟩ it' λb o hb e=>sb.extBut b o (λz=>hb (by rw[z];exact Ap.mpr rfl)) e
def lK{t:Addr}(hh:A.handled=hvO ch)(hne:it∉ch)(hc:Chn s.heap ch)(hit:s.heap.IsTupleIter it t i)(ht:s.heap.IsTuple t items)(hx:items[i]?=none)(hQ:∀h',Heap.ExtBut it s.heap h'->Q none {s with heap:=h'}):wpAny (model prog w) A (pyNext (.ref it)) Q E s:=by
 obtain⟨o,ho,hcl,hd⟩:=id hit;obtain⟨ol,hol,_,nl,hdl⟩:=ht;unfold pyNext;refine Aa (De (wpAny_callSpecial?_slot (name:=Str.ofString "__next__") hit.typeIs F.slot_tuple_iterator_next (Br F.slot_tuple_iterator_next hit.typeIs F.entry_tuple_iterator_next ?_ (F.args_tuple_iterator_next_1 _))));show wpAny _ _ (field (.ref it) 0 >>= _) _ _ s
 refine Aa (Bl (x:=.ref t) ho hd rfl ?_);show wpAny _ _ (if (Value.ref t==Value.none)=true then _ else _) _ _ s
 rw[if_neg (by exact An)]
 show wpAny _ _ (field (.ref it) 1 >>= _) _ _ s
 refine Aa (Bl (x:=.int i 0) ho hd rfl ?_);show wpAny _ _ (seqItems? (.ref t) >>= _) _ _ s
 refine Aa (Fs hol hdl (?_:_));simp only[Int.toNat_natCast,hx];refine wpAny_bind (wpAny_rule (wpAny_bind (wpAny_setField ho hd (by simp) (?_:_))))
 show wpAny _ _ (newExc (Value.type "StopIteration") [] >>= _) _ _ _
 refine Aa ?_;simp only[newTuple,newExc];refine wpAny_bind (wpAny_newObj_type (wpAny_bind (m:=firstArgMember _ _) (wpAny_of_eq (a:=Value.none) (by first|rfl|(simp only[firstArgMember];rfl)) (wpAny_newObj_type ?_ (by size_fits)))) (by size_fits))
 have X0:=((Ce (h:=s.heap) (a:=it) (f:=Obj.mapFields λx=>x.setIfInBounds 0 Value.none)).extBut.push {cls:=Value.type "tuple",data:=Data.seq #[]}).push (⟨.type "StopIteration",none,.fields (#[.ref (s.heap.update it (Obj.mapFields λx=>x.setIfInBounds 0 Value.none)).objs.size,.none,.none,.none,.bool false,.none]++ownMembersOf (Value.type "StopIteration") []),#[]⟩:Obj)
 exact cR (s:=s) (h1:=s.heap.update it (Obj.mapFields λx=>x.setIfInBounds 0 Value.none)) rfl rfl sZ rfl X0 (by simp) hh hne hc hQ
def pL{ax:Addr}{items:Array Value}(hh:A.handled=hvO ch)(hne:ax≠it)(hni:it∉ch):Walks prog w A it (it::ax::ch) [it] items.size (λi v=>items[i]?=Option.some v) (λi h=>(h.IsTupleIter it ax i/\h.IsTuple ax items)/\Chn h ch) where
 sub:=λb hb=>by rw[Ap.mp hb];exact Al
 frame:=λ_ _ _ st hk=>⟨⟨st.1.1.at λo e=>hk it (by simp) o e,st.1.2.at λo e=>hk ax (by simp) o e⟩,st.2.ext λa ha o e=>hk a (by simp[ha]) o e⟩
 item:=λi s Q E hi st hQ=>by
  refine wpAny_pyNext_tuple_item st.1.1 st.1.2 (x:=items[i]) (Aj hi) λh' it' sb=>?_;exact hQ _ h' s.toks (Aj hi) ⟨⟨it',st.1.2.extBut sb.extBut hne⟩,st.2.ext λa ha o e=>sb.extBut a o (λz=>hni (z▸ha)) e⟩ λb o hb e=>sb.extBut b o (λz=>hb (by rw[z];exact Ap.mpr rfl)) e
 done:=λs Q E st hQ=>lK hh hni st.2 st.1.1 st.1.2 (Bw (Ai _)) λh' eb=>hQ h' s.toks λb o hb e=>eb b o (λz=>hb (by rw[z];exact Ap.mpr rfl)) e
 self:=λ_ _ _ _ st hQ=>wpAny_pyIter_tupleiter st.1.1 hQ
def aXB{a b:Int}{u:Tok}{Q:Q2}(hh:A.handled=hvO ch)(hcn:Chn s.heap ch)(h:∀h' tk,(∀c o,s.heap.get? c=Option.some o->h'.get? c=Option.some o)->Q (if b<a then .int b u else .int a t) {s with heap:=h',toks:=tk}):wpAny (model prog w) A (call (.builtin "min") [.int a t,.int b u]) Q E s:=by
 generalize hh0:s.heap.push {cls:=.type "tuple",data:=.seq #[.int a t,.int b u]}=g0;have hT:g0.IsTuple s.heap.objs.size (intItems #[(a,t),(b,u)]):=by rw[<-hh0];exact⟨_,Heap.get?_push_size _ rfl,rfl,0,by simp[intItems]⟩
 have z0:g0.objs.size=s.heap.objs.size+1:=by rw[<-hh0];exact Fd ..
 have k0:∀c o,s.heap.get? c=Option.some o->g0.get? c=Option.some o:=λc o e=>by rw[<-hh0];exact Ad _ e
 refine call_min_two ?_;rw[hh0];refine wpAny_pyIter_tuple hT ?_;refine⟨g0.objs.size,g0.objs.size::s.heap.objs.size::ch,[g0.objs.size],_,_,_,_,rfl,pL (A:=A.in1) (ax:=s.heap.objs.size) (items:=intItems #[(a,t),(b,u)]) hh (by rw[z0];exact Ba (Dw _)) (hcn.new (by rw[z0];exact Hj _)),
  ⟨⟨⟨_,Heap.get?_push_size _ rfl,rfl,rfl⟩,hT.push _⟩,hcn.ext λa _ o e=>Heap.get?_push_of_some _ (k0 _ _ e)⟩,λc hc=>?_,by simp[intItems],CmpOf.ints_lt (numAt #[(a,t),(b,u)]) (λ_ _=>intItems_at),λv h' tk hP hk=>?_⟩
 .show c<(g0.push _).objs.size
  rw[Fd];rcases Av.mp hc with rfl|hc
  .exact Dw _
  rcases Av.mp hc with rfl|hc
  .rw[z0];exact Ds (Dw _)
  .rw[z0];exact Ds (Ds (hcn.lt hc))
 .have keep:∀ c o,s.heap.get? c=Option.some o->h'.get? c=Option.some o:=λc o e=>hk c o (λhm=>by
   have:=Ao e
   rw[Ap.mp hm,z0]at this;exact absurd this (Nat.not_lt.mpr (Hj _))) (Ad _ (k0 _ _ e))
  have q:=h h' tk keep
  have hv:v=if b<a then Value.int b u else Value.int a t:=by
   have hP':(intItems #[(a,t),(b,u)])[argBest (λi j=>decide (numAt #[(a,t),(b,u)] i<numAt #[(a,t),(b,u)] j)) ((intItems #[(a,t),(b,u)]).size-1)]?=Option.some v:=hP
   rw[show (intItems #[(a,t),(b,u)]).size-1=1 by simp[intItems]]at hP'
   by_cases hba:b<a
   .rw[show argBest (λi j=>decide (numAt #[(a,t),(b,u)] i<numAt #[(a,t),(b,u)] j)) 1=1 by simp[argBest,numAt,hba]]at hP'
    simpa [intItems,hba]using hP'.symm
   .rw[show argBest (λi j=>decide (numAt #[(a,t),(b,u)] i<numAt #[(a,t),(b,u)] j)) 1=0 by simp[argBest,numAt,hba]]at hP'
    simpa [intItems,hba]using hP'.symm
  rw[hv];exact q
def yT(hh:A.handled=hvO ch)(hne:it∉ch)(hc:Chn s.heap ch)(hit:s.heap.IsStrIter it "str_iterator" x t i)(hx:x.cps[i]?=none)(hQ:∀h',Heap.ExtBut it s.heap h'->Q none {s with heap:=h'}):wpAny (model prog w) A (pyNext (.ref it)) Q E s:=by
 obtain⟨o,ho,hcl,hd⟩:=id hit;unfold pyNext;refine Aa (De (wpAny_callSpecial?_slot (name:=Str.ofString "__next__") hit.typeIs F.slot_str_iterator_next (Br F.slot_str_iterator_next hit.typeIs F.entry_str_iterator_next ?_ (F.args_str_iterator_next_1 _))));show wpAny _ _ (field (.ref it) 0 >>= _) _ _ s
 refine Aa (Bl (x:=.str x t) ho hd rfl ?_);show wpAny _ _ (field (.ref it) 1 >>= _) _ _ s
 refine Aa (Bl (x:=.int i 0) ho hd rfl ?_);simp only[Int.toNat_natCast,hx];refine wpAny_bind (wpAny_rule (wpAny_bind (wpAny_setField ho hd (by simp) (wpAny_bind (wpAny_letGo (?_:_))))))
 show wpAny _ _ (newExc (Value.type "StopIteration") [] >>= _) _ _ _
 refine Aa ?_;simp only[newTuple,newExc];refine wpAny_bind (wpAny_newObj_type (wpAny_bind (m:=firstArgMember _ _) (wpAny_of_eq (a:=Value.none) (by first|rfl|(simp only[firstArgMember];rfl)) (wpAny_newObj_type ?_ (by size_fits)))) (by size_fits))
 have X0:=((Ce (h:=s.heap) (a:=it) (f:=Obj.mapFields λx=>x.setIfInBounds 0 Value.none)).extBut.push {cls:=Value.type "tuple",data:=Data.seq #[]}).push (⟨.type "StopIteration",none,.fields (#[.ref (s.heap.update it (Obj.mapFields λx=>x.setIfInBounds 0 Value.none)).objs.size,.none,.none,.none,.bool false,.none]++ownMembersOf (Value.type "StopIteration") []),#[]⟩:Obj)
 exact cR (s:=s) (h1:=s.heap.update it (Obj.mapFields λx=>x.setIfInBounds 0 Value.none)) rfl rfl sZ rfl X0 (by simp) hh hne hc hQ
def tP{l:Addr}{Q:Q2}(hh:A.handled=hvO ch)(hne:it∉ch)(hc:Chn s.heap ch)(hit:s.heap.IsListIter it l i)(hl:s.heap.IsList l items)(hx:items[i]?=none)(hE:∀h' e,Heap.ExtBut it s.heap h'->(∃o,h'.get? e=some o/\o.cls=.type "StopIteration")->E (.ref e) {s with heap:=h'}):wpAny (model prog w) A (Builtin.SmallTypes.nextOf (.ref it)) Q E s:=by
 obtain⟨o,ho,hcl,hd⟩:=id hit;obtain⟨ol,hol,_,nl,hdl⟩:=hl;unfold Builtin.SmallTypes.nextOf;refine Aa (wpAny_callSpecial?_slot (name:=Str.ofString "__next__") hit.typeIs Gh (Br Gh hit.typeIs entry_listiter_next ?_ (args_listiter_next _)));show wpAny _ _ (field (.ref it) 0 >>= _) _ _ s
 refine Aa (Bl (x:=.ref l) ho hd rfl ?_);show wpAny _ _ (if (Value.ref l==Value.none)=true then _ else _) _ _ s
 rw[if_neg (by exact An)]
 show wpAny _ _ (field (.ref it) 1 >>= _) _ _ s
 refine Aa (Bl (x:=.int i 0) ho hd rfl ?_);show wpAny _ _ (seqItems? (.ref l) >>= _) _ _ s
 refine Aa (Fs hol hdl (?_:_));simp only[Int.toNat_natCast,hx];refine wpAny_bind (wpAny_rule (wpAny_bind (wpAny_setField ho hd (by simp) (?_:_))))
 show wpAny _ _ (newExc (Value.type "StopIteration") [] >>= _) _ _ _
 refine Aa ?_;simp only[newTuple,newExc];refine wpAny_bind (wpAny_newObj_type (wpAny_bind (m:=firstArgMember _ _) (wpAny_of_eq (a:=Value.none) (by first|rfl|(simp only[firstArgMember];rfl)) (wpAny_newObj_type ?_ (by size_fits)))) (by size_fits))
 have X0:=((Ce (h:=s.heap) (a:=it) (f:=Obj.mapFields λx=>x.setIfInBounds 0 Value.none)).extBut.push {cls:=Value.type "tuple",data:=Data.seq #[]}).push (⟨.type "StopIteration",none,.fields (#[.ref (s.heap.update it (Obj.mapFields λx=>x.setIfInBounds 0 Value.none)).objs.size,.none,.none,.none,.bool false,.none]++ownMembersOf (Value.type "StopIteration") []),#[]⟩:Obj)
 have hz:s.heap.objs.size<=((s.heap.update it (Obj.mapFields λx=>x.setIfInBounds 0 Value.none)).push {cls:=Value.type "tuple",data:=Data.seq #[]}).objs.size:=by simp
 refine eY hh (hc.new hz) (hc.ext λa ha o e=>X0 a o (λz=>hne (z▸ha)) e) (Aw _ rfl) rfl sZ λh' sb g=>?_;exact hE _ _ (λb o hb e=>(sb.2 b (Ba (Az (Ao e) hz))).trans (X0 b o hb e)) ⟨_,g,Fo ..⟩
def rE{ax:Addr}{items:Array Value}(hh:A.handled=hvO ch)(hne:ax≠it)(hni:it∉ch):Walks prog w A it (it::ax::ch) [it] items.size (λi v=>items[i]?=some v) (λi h=>(h.IsListIter it ax i/\h.IsList ax items)/\Chn h ch) where
 sub:=λb hb=>by rw[Ap.mp hb];exact Al
 frame:=λ_ _ _ st hk=>⟨⟨st.1.1.at λo e=>hk it (by simp) o e,st.1.2.at λo e=>hk ax (by simp) o e⟩,st.2.ext λa ha o e=>hk a (by simp[ha]) o e⟩
 item:=λi s Q E hi st hQ=>by
  refine wpAny_pyNext_list_item st.1.1 st.1.2 (x:=items[i]) (Aj hi) λh' it' sb=>?_;exact hQ _ h' s.toks (Aj hi) ⟨⟨it',st.1.2.extBut sb.extBut hne⟩,st.2.ext λa ha o e=>sb.extBut a o (λz=>hni (z▸ha)) e⟩ λb o hb e=>sb.extBut b o (λz=>hb (by rw[z];exact Ap.mpr rfl)) e
 done:=λs Q E st hQ=>jO hh hni st.2 st.1.1 st.1.2 (Bw (Ai _)) λh' eb=>hQ h' s.toks λb o hb e=>eb b o (λz=>hb (by rw[z];exact Ap.mpr rfl)) e
 self:=λ_ _ _ _ st hQ=>wpAny_pyIter_listiter st.1.1 hQ
def dP{l:Addr}{items:Array Value}(hh:A.handled=hvO ch)(hne:l≠it)(hni:it∉ch):Draws prog w A it (it::l::ch) items.size (λi v=>items[i]?=some v) (λi h=>(h.IsListIter it l i/\h.IsList l items)/\Chn h ch) where
 live:=λ_ _ st=>by obtain⟨o,ho,_⟩:=st.1.1;exact⟨o,ho⟩
 frame:=λ_ _ _ st hk=>⟨⟨st.1.1.at λo e=>hk it (by simp) o e,st.1.2.at λo e=>hk l (by simp) o e⟩,st.2.ext λa ha o e=>hk a (by simp[ha]) o e⟩
 item:=λi s Q E hi st hQ=>by
  refine wpAny_nextOf_list_item st.1.1 st.1.2 (x:=items[i]) (Aj hi) λh' it' sb=>?_;exact hQ _ h' s.toks (Aj hi) ⟨⟨it',st.1.2.extBut sb.extBut hne⟩,st.2.ext λa ha o e=>sb.extBut a o (λz=>hni (z▸ha)) e⟩ sb
 done:=λs Q E st hE=>tP hh hni st.2 st.1.1 st.1.2 (Bw (Ai _)) hE
def bQM{t:Addr}{targets:List (Bool×(Value->Sem Unit))}{Q:Unit->Shared->Prop}(hh:A.handled=hvO ch)(hc:Chn s.heap ch)(ht:s.heap.IsTuple t items)(hn:targets.length=items.size)(hstar:targets.findIdx? (·.1)=none)(h:∀h',Heap.ExtBut s.heap.objs.size s.heap h'->wpAny (model prog w) A (assignInOrder (targets.map (·.2)) items.toList) Q E {s with heap:=h'}):wpAny (model prog w) A (unpack (.ref t) targets) Q E s:=by
 have hlt:t≠s.heap.objs.size:=by obtain⟨o,ho,_⟩:=ht;exact Ba (Ao ho)
 have hle:s.heap.objs.size∉ch:=hc.new (Ai _)
 unfold unpack;rw[hn,hstar];refine Aa (Bv ?_);unfold unpackItems notIterableAtAll;refine Aa (Aa (Ep ht.typeIs slot_tuple_iter.lookup (Ae ?_)));simp only[Bool.false_eq_true,if_false];refine Aa (Bv (iter_tuple ht ?_));refine Aa (Bv (draw_tuple hlt items.size 0 _ _ ⟨_,Aw _ rfl,rfl,rfl⟩ (ht.push _) (by omega) λh₁ it1 sb=>?_))
 rw[show List.take items.size (List.drop 0 items.toList)=items.toList by rw[List.drop_zero];exact List.take_of_length_le (by simp),if_neg (by simp)]
 have ht1:=(ht.push _).extBut sb.extBut hlt
 refine wpAny_bind (wpAny_holding (lK hh hle (hc.ext λa ha o e=>sb.extBut a o (λz=>hle (z▸ha)) (Heap.get?_push_of_some _ e)) it1 ht1 (by simp) λh₂ eb=>?_))
 simp only[Option.isSome_none,Bool.false_eq_true,if_false];exact Ae (h h₂ λb o hb e=>eb b o hb (sb.extBut b o hb (Ad _ e)))
end
def SoftC(h:Heap)(H:Hp):List Addr->Prop
 |[]=>True
 |a::r=>(∃o fs,h.get? a=some o/\o.data=.fields fs/\fs[2]?=some (hvV r)/\(H a=none\/∃u,H a=some (.frz o u)))/\SoftC h H r
def SoftL(h:Heap)(H:Hp)(ch:List Addr):Prop:=ch.Nodup/\SoftC h H ch
def SoftC.lnk:∀ {ch:List Addr},SoftC h H ch->Lnk h ch
 |[],_=>trivial
 |_::_,⟨⟨o,fs,g,d,e,_⟩,r⟩=>⟨⟨o,fs,g,d,e⟩,SoftC.lnk r⟩
def SoftL.chn(s:SoftL h H ch):Chn h ch:=⟨s.1,s.2.lnk⟩
structure Cx where
 prog:Program
 w:World
 K:W.Frag
 mg:Str->Option Value
 base:Heap
 A:Around
 N:List Str
 s₀:Shared
 H₀:Hp
 env:Env
 outer:List Env
 stack:List Env
 ex:List Addr
 fn:Str->Bool
 calm:Bool
 pn:List (Addr×Obj)
 xe:Value->Shared->Prop
variable {X:Cx}
def frs(l:List Env):List Addr:=l.filterMap (·.frame)
abbrev Cx.fs(X:Cx):List Addr:=frs X.outer
def Vis(sc:Scope)(x:Str):Prop:=sc.names.lookup x=some .local\/sc.names.lookup x=some .cell\/sc.names.lookup x=some .free
def Loc(sc:Scope)(x:Str):Prop:=sc.names.lookup x=some .local\/sc.names.lookup x=some .cell
def dXH(env:Env)(h:Heap)(m:Str->Option Value)(x:Str)(u:Value):Prop:=
 (env.kindOf x=some .local/\m x=some u)\/((env.kindOf x=some .cell\/env.kindOf x=some .free)/\∃c,env.cells.lookup x=some c/\h.IsCell c (some u))
def aQX(X:Cx):Prop:=∃ch,X.A.handled=hvO ch/\SoftL X.s₀.heap X.H₀ ch/\∀b∈ch,b∉X.ex
structure Cx.Ok (X:Cx):Prop where
 mod:Mod X.K X.mg X.base
 kind:X.env.scope.kind=.function
 glob:X.env.globals=mainGlobals
 blt:X.env.builtins=builtinsNs
 above:X.s₀.heap.objs.size<=X.env.locals
 inj:∀x y c,X.env.cells.lookup x=some c->X.env.cells.lookup y=some c->x=y
 has:∀x,(X.env.kindOf x=some .cell\/X.env.kindOf x=some .free)->∃c,X.env.cells.lookup x=some c
 cab:∀x c,X.fn x=true->X.env.cells.lookup x=some c->X.s₀.heap.objs.size<=c
 hd:X.calm=true->aQX X
 frames:X.A.frames=some X.stack
 stk:X.stack=X.outer\/(X.stack=X.env::X.outer/\X.env.frame=some X.env.locals)
 exf:∀b∈X.ex,b≠X.env.locals/\∀x c,X.env.cells.lookup x=some c->c≠b
 bs:∀b o,X.base.get? b=some o->X.s₀.heap.get? b=some o/\X.H₀ b=none
 bsz:X.base.objs.size<=X.s₀.heap.objs.size
 noex:∀b o,X.base.get? b=some o->b∉X.ex
 exfs:∀b∈X.ex,b∉X.fs
 funs:X.s₀.heap.FunFrames X.base X.outer
 frf:∀b∈X.fs,X.H₀ b=none
structure Inv (X:Cx) (y3:List (Addr×Obj)) (U:List (Option V)) (H:Hp) (s:Shared):Prop where
 ok:X.Ok
 os:s.os=X.s₀.os
 bare:AllBare s.gens
 base:Un X.fs X.ex X.H₀ H X.s₀.heap s.heap
 loc:∃m,s.heap.Ns X.env.locals m/\∀(i:Nat) (x:Str) (v:V),X.N[i]?=some x->U[i]?=some (some v)->Vis X.env.scope x->∃u,RelV v u/\dXH X.env s.heap m x u
 cell:∀x c,X.env.cells.lookup x=some c->∃v,s.heap.IsCell c v
 free:H X.env.locals=none
 freeC:∀x c,X.env.cells.lookup x=some c->H c=none
 pin:∀p∈X.pn++y3,s.heap.get? p.1=some p.2/\H p.1=none/\p.1≠X.env.locals/\p.1∉X.fs/\∀v,p.2.data≠.cell v
 hok:HOk X.prog X.w H s.heap
 len:U.length=X.N.length
section
variable {U:List (Option V)} {H':Hp}
def Cx.Ok.nofr(ok:X.Ok){o:Obj}(e:X.base.get? b=some o):b∉X.fs:=λhb=>by
 have:=(ok.funs.mem hb).1
 rw[e]at this;cases this
def Inv.bs(I:Inv X y3 U H s):∀b o,X.base.get? b=some o->s.heap.get? b=some o/\H b=none:=λb o e=>
 ⟨I.base.keep b o (I.ok.bs b o e).1 (I.ok.bs b o e).2 (I.ok.nofr e) (I.ok.noex b o e),I.base.free b o (I.ok.bs b o e).1 (I.ok.bs b o e).2 (I.ok.noex b o e)⟩
def Inv.bk(I:Inv X y3 U H s):∀b o,X.base.get? b=some o->s.heap.get? b=some o:=λb o e=>(I.bs b o e).1
def Inv.mod(I:Inv X y3 U H s):Mod X.K X.mg X.base:=I.ok.mod
def Inv.kIn(I:Inv X y3 U H s):X.K.In s.heap:=I.ok.mod.kin.keeps I.bk
def Inv.softL(I:Inv X y3 U H s)(h:SoftL X.s₀.heap X.H₀ ch)(hx:∀b∈ch,b∉X.ex):SoftL s.heap H ch:=by
 obtain⟨nd,h⟩:=h;refine⟨nd,?_⟩;clear nd;induction ch with
 |nil=>trivial
 |cons a r ih=>
  obtain⟨⟨o,fs,g,hd,h2,h0⟩,hr⟩:=h;have nf:a∉X.fs:=λhm=>by
   obtain⟨_,o',g',nf⟩:=I.ok.funs.mem hm;rw[g]at g';cases g';exact nf fs hd
  refine⟨⟨o,fs,?_⟩,ih (λb hb=>hx b (Ak _ hb)) hr⟩;rcases h0 with h0|⟨u,h0⟩
  .exact⟨I.base.keep a o g h0 nf (hx a Al),hd,h2,.inl (I.base.free a o g h0 (hx a Al))⟩
  .have e:=I.base.frzs a o u h0
   exact⟨(I.hok a _ e).1,hd,h2,.inr ⟨u,e⟩⟩
def Inv.softX(I:Inv X y3 U H s)(h:aQX X):∃ch,X.A.handled=hvO ch/\SoftL s.heap H ch/\∀b,(b∈X.ex\/X.s₀.heap.objs.size<=b)->b∉ch:=by
 obtain⟨ch,hh,sl,hx⟩:=h;refine⟨ch,hh,I.softL sl hx,λb hb z=>hb.elim (hx b z) λq=>?_⟩;exact sl.chn.new q z
def Inv.soft(I:Inv X y3 U H s)(hc:X.calm=true):∃ch,X.A.handled=hvO ch/\Chn s.heap ch/\∀b,(b∈X.ex\/X.s₀.heap.objs.size<=b)->b∉ch:=by
 obtain⟨ch,hh,sl,hx⟩:=I.softX (I.ok.hd hc);exact⟨ch,hh,sl.chn,hx⟩
def Inv.fr(I:Inv X y3 U H s):∃m,Fr X.base X.env.locals s.heap m:=
 let ⟨m,hn,_⟩:=I.loc
 ⟨m,hn,I.bk,Bf I.ok.bsz I.ok.above⟩
def Inv.lt(I:Inv X y3 U H s):X.env.locals<s.heap.objs.size:=let ⟨_,hn,_⟩:=I.loc;hn.lt
def Inv.sz(I:Inv X y3 U H s):X.s₀.heap.objs.size<=s.heap.objs.size:=Bf I.ok.above (Fw I.lt)
def Inv.nofs(I:Inv X y3 U H s)(h:s.heap.objs.size<=a):a∉X.fs:=λhb=>by
 obtain⟨_,o,ho,_⟩:=I.ok.funs.mem hb;exact absurd (Az (Ao ho) (Bf I.sz h)) (Dm _)
def Inv.cne(I:Inv X y3 U H s):∀x c,X.env.cells.lookup x=some c->c≠X.env.locals:=λx c e z=>by
 obtain⟨v,o,ho,hd⟩:=I.cell x c e;obtain⟨m,⟨o',es,ep,ho',hd',_⟩,_⟩:=I.loc;rw[z,ho']at ho;cases ho;rw[hd']at hd;cases hd
def Inv.funs(I:Inv X y3 U H s):s.heap.FunFrames X.base X.outer:=by
 have all:∀(l:List Env),(∀b∈frs l,b∈X.fs)->X.s₀.heap.FunFrames X.base l->s.heap.FunFrames X.base l:=by
  intro l;induction l with
  |nil=>intro _ _;trivial
  |cons env r ih=>
   intro hs hl;obtain⟨hk,⟨L,o,hf,hn,ho,hd⟩,hr⟩:=hl;have hL:L∈X.fs:=hs L (by unfold frs;rw[Eg,hf];exact Al)
   obtain⟨sl,e⟩:=I.base.slot L o ho (I.ok.frf L hL) hL λz=>I.ok.exfs L z hL;exact⟨hk,⟨L,_,hf,hn,e,hd⟩,ih (λb hb=>hs b (by unfold frs;rw[Eg,hf];exact Ak _ hb)) hr⟩
 exact all X.outer (λ_ hb=>hb) I.ok.funs
def Inv.stack(I:Inv X y3 U H s):s.heap.FunFrames X.base X.stack:=by
 rcases I.ok.stk with e|⟨e,hf⟩
 .rw[e];exact I.funs
 .rw[e];obtain⟨m,hn,_⟩:=I.loc;refine .cons (by rw[I.ok.kind];decide) hf hn ?_ I.funs
  exact Ft (Bf I.ok.bsz I.ok.above)
def Inv.stkSub(I:Inv X y3 U H s):∀b∈frs X.stack,b∈X.env.locals::X.fs:=λb hb=>by
 rcases I.ok.stk with e|⟨e,hf⟩
 .rw[e]at hb;exact Ak _ hb
 .rw[e]at hb;unfold frs at hb;rw[Eg,hf]at hb;exact hb
def Inv.stkFree(I:Inv X y3 U H s):∀b∈frs X.stack,H b=none:=λb hb=>by
 rcases Av.mp (I.stkSub b hb) with e|hb
 .rw[e];exact I.free
 .obtain⟨_,o,ho,_⟩:=I.ok.funs.mem hb;exact I.base.free b o ho (I.ok.frf b hb) λz=>I.ok.exfs b z hb
def Inv.step{g':Array GenState}{d':Drawn}{ch:List Addr}(I:Inv X y3 U H s)(hch:∀b∈ch,(b∈X.ex\/X.s₀.heap.objs.size<=b)/\b≠X.env.locals/\(∀x c,X.env.cells.lookup x=some c->c≠b)/\∀p∈X.pn++y3,p.1≠b)(keep:∀b o,b≠X.env.locals->b∉X.fs->b∉ch->s.heap.get? b=some o->H b=none->h'.get? b=some o)(slot:∀b o,b≠X.env.locals->b∈X.fs->b∉ch->s.heap.get? b=some o->H b=none->∃sl,h'.get? b=some {o with slots:=sl})(free:∀b o,b∉ch->s.heap.get? b=some o->H b=none->H' b=none)(there:∀b o,b∉ch->s.heap.get? b=some o->∃o',h'.get? b=some o')(tups:∀b xs,H b=some (.tup xs)->H' b=some (.tup xs))(frzs:∀b o u,H b=some (.frz o u)->H' b=some (.frz o u))(tbls:∀b ps,H b=some (.tbl ps)->∃more,H' b=some (.tbl (ps++more)))(ns:∀m,s.heap.Ns X.env.locals m->h'.Ns X.env.locals m)(hok:HOk X.prog X.w H' h')(hg:AllBare g'):Inv X y3 U H' {s with heap:=h',gens:=g',drawn:=d',toks:=t'}:=by
 have neL:∀b o,X.s₀.heap.get? b=some o->b≠X.env.locals:=λb o e=>Ba (Az (Ao e) I.ok.above)
 have neC:∀b o,X.s₀.heap.get? b=some o->b∉X.ex->b∉ch:=λb o e hx hb=>by
  rcases (hch b hb).1 with z|z
  .exact hx z
  .exact absurd (Az (Ao e) z) (Dm _)
 have cellK:∀x c,X.env.cells.lookup x=some c->∀v,s.heap.IsCell c v->h'.IsCell c v:=λx c e v ⟨o,ho,hd⟩=>by
  have nch:c∉ch:=λz=>(hch c z).2.2.1 x c e rfl
  by_cases hc:c∈X.fs
  .obtain⟨sl,q⟩:=slot c o (I.cne x c e) hc nch ho (I.freeC x c e);exact⟨_,q,hd⟩
  .exact⟨o,keep c o (I.cne x c e) hc nch ho (I.freeC x c e),hd⟩
 refine⟨I.ok,I.os,hg,⟨λb o e n hb hx=>?_,λb o e n hb hx=>?_,λb o e n hx=>?_,λb o e hx=>?_,λb xs e=>tups b xs (I.base.tups b xs e),λb o xs e=>frzs b o xs (I.base.frzs b o xs e),λb ps e=>?_⟩,?_,λx c e=>?_,?_,λx c e=>?_,λp hp=>?_,hok,I.len⟩
 .exact keep b o (neL b o e) hb (neC b o e hx) (I.base.keep b o e n hb hx) (I.base.free b o e n hx)
 .obtain⟨sl,e1⟩:=I.base.slot b o e n hb hx;obtain⟨sl',e2⟩:=slot b _ (neL b o e) hb (neC b o e hx) e1 (I.base.free b o e n hx);exact⟨sl',e2⟩
 .obtain⟨o',e1⟩:=I.base.there b o e hx;exact free b o' (neC b o e hx) e1 (I.base.free b o e n hx)
 .obtain⟨o',e1⟩:=I.base.there b o e hx;exact there b o' (neC b o e hx) e1
 .obtain⟨m1,e1⟩:=I.base.tbls b ps e;obtain⟨m2,e2⟩:=tbls b _ e1;exact⟨m1++m2,by rw[e2,Array.append_assoc]⟩
 .obtain⟨m,hn,hl⟩:=I.loc;refine⟨m,ns m hn,λi x v e1 e2 e3=>?_⟩;obtain⟨u,r,l⟩:=hl i x v e1 e2 e3;refine⟨u,r,?_⟩;rcases l with l|⟨k,c,e,z⟩
  .exact .inl l
  .exact .inr ⟨k,c,e,cellK x c e _ z⟩
 .obtain⟨v,z⟩:=I.cell x c e;exact⟨v,cellK x c e v z⟩
 .obtain⟨m,⟨o,_,_,ho,_⟩,_⟩:=I.loc;exact free _ o (λz=>(hch _ z).2.1 rfl) ho I.free
 .obtain⟨v,o,ho,hd⟩:=I.cell x c e;exact free c o (λz=>(hch c z).2.2.1 x c e rfl) ho (I.freeC x c e)
 .obtain⟨e,n,ne,nf,d⟩:=I.pin p hp;have nch:p.1∉ch:=λz=>(hch p.1 z).2.2.2 p hp rfl
  exact⟨keep p.1 p.2 ne nf nch e n,free p.1 p.2 nch e n,ne,nf,d⟩
def Inv.un{t':Nat}(I:Inv X y3 U H s)(u:Un X.fs [] H H' s.heap h')(hok:HOk X.prog X.w H' h'):Inv X y3 U H' {s with heap:=h',toks:=t'}:=by
 obtain⟨m,⟨o,es,ep,ho,r⟩,_⟩:=id I.loc;obtain⟨sl,hL⟩:=u.any ho I.free (by simp)
 exact I.step (g':=s.gens) (d':=s.drawn) (ch:=[]) (λ_ z=>nomatch z) (λb o _ hb _ e n=>u.keep b o e n hb (by simp)) (λb o _ hb _ e n=>u.slot b o e n hb (by simp)) (λb o _ e n=>u.free b o e n (by simp)) (λb o _ e=>u.there b o e (by simp)) u.tups u.frzs u.tbls (λm' hm=>by
  obtain⟨o',es',ep',ho',r'⟩:=hm;rw[ho]at ho';cases ho';exact⟨_,es',ep',hL,r'⟩) hok I.bare
def Inv.call{g':Array GenState}{t':Nat}{d':Drawn}{ch:List Addr}(I:Inv X y3 U H s)(u:Un (frs X.stack) ch H H' s.heap h')(hok:HOk X.prog X.w H' h')(hg:AllBare g')(hch:∀b∈ch,(b∈X.ex\/X.s₀.heap.objs.size<=b)/\b≠X.env.locals/\(∀x c,X.env.cells.lookup x=some c->c≠b)/\∀p∈X.pn++y3,p.1≠b):Inv X y3 U H' {s with heap:=h',gens:=g',drawn:=d',toks:=t'}:=by
 obtain⟨m,⟨o,es,ep,ho,r⟩,_⟩:=id I.loc;obtain⟨sl,hL⟩:=u.any ho I.free λz=>(hch _ z).2.1 rfl;exact I.step (ch:=ch) hch (λb o hL hb hc e n=>u.keep b o e n (λz=>(Av.mp (I.stkSub b z)).elim hL hb) hc) (λb o _ _ hc e n=>u.any e n hc) (λb o hc e n=>u.free b o e n hc) (λb o hc e=>u.there b o e hc) u.tups u.frzs u.tbls (λm' hm=>by
  obtain⟨o',es',ep',ho',r'⟩:=hm;rw[ho]at ho';cases ho';exact⟨_,es',ep',hL,r'⟩) hok hg
def Inv.turned{t':Nat}(I:Inv X y3 U H s)(k:∀b o,b≠it->s.heap.get? b=some o->h'.get? b=some o)(hn:H it=none)(hL:it≠X.env.locals)(h1:it∈X.ex\/X.s₀.heap.objs.size<=it)(h2:∀x c,X.env.cells.lookup x=some c->c≠it)(h3:∀p∈X.pn++y3,p.1≠it):Inv X y3 U H {s with heap:=h',toks:=t'}:=by
 have nit:∀b u,H b=some u->b≠it:=λb u e z=>by rw[z,hn]at e;cases e
 refine I.step (g':=s.gens) (d':=s.drawn) (ch:=[it]) (λb hb=>?_) (λb o _ _ hc e _=>k b o (λz=>hc (by simp[z])) e) (λb o _ _ hc e _=>⟨o.slots,k b o (λz=>hc (by simp[z])) e⟩) (λ_ _ _ _ n=>n)
  (λb o hc e=>⟨o,k b o (λz=>hc (by simp[z])) e⟩) (λ_ _ e=>e) (λ_ _ _ e=>e) (λb ps e=>⟨#[],by rw[e];simp⟩) (λm hm=>?_) (λb u e=>?_) I.bare
 .have e:b=it:=by simpa using hb
  subst e;exact⟨h1,hL,h2,h3⟩
 .obtain⟨o,es,ep,ho,r⟩:=hm;exact⟨o,es,ep,k _ o (Ne.symm hL) ho,r⟩
 .refine(I.hok b u e).stay (λc v hc q=>k c v ?_ q) (λ_ q=>q) λ_ _ q=>q;rcases hc with z|z
  .rw[z];exact nit b u e
  .exact nit c _ z
def Inv.tok(I:Inv X y3 U H s)(t:Nat):Inv X y3 U H {s with toks:=t}:=I.un (h':=s.heap) (t':=t) Un.refl I.hok
def Inv.kept{t':Nat}(I:Inv X y3 U H s)(k:∀b u,s.heap.get? b=some u->h'.get? b=some u):Inv X y3 U H {s with heap:=h',toks:=t'}:=I.un (Un.kept k) (I.hok.kept k)
def Inv.laid{a:Addr}{o:HO}{t':Nat}(I:Inv X y3 U H s)(k:∀b u,s.heap.get? b=some u->h'.get? b=some u)(hp:s.heap.objs.size<=a)(new:ObjOk X.prog X.w (upd H a o) h' a o):Inv X y3 U (upd H a o) {s with heap:=h',toks:=t'}:=I.un (Un.laid k hp (I.hok.fresh hp)) (I.hok.laid k hp new)
def Inv.write{x e:Addr}{o:HO}{t':Nat}(I:Inv X y3 U H s)(mu:Mut (H x))(he:e=x\/H e=some (.own x))(k:∀b u,b≠e->s.heap.get? b=some u->h'.get? b=some u)(heo:∃u,h'.get? e=some u)(new:ObjOk X.prog X.w (upd H x o) h' x o):Inv X y3 U (upd H x o) {s with heap:=h',toks:=t'}:=I.un (Un.write mu he k heo) (I.hok.write mu he k heo new)
def Inv.weak{U':List (Option V)}(I:Inv X y3 U H s)(hl:U'.length=U.length)(w:∀(i:Nat) v,U'[i]?=some (some v)->U[i]?=some (some v)):Inv X y3 U' H s:=
 ⟨I.ok,I.os,I.bare,I.base,let ⟨m,hn,hl'⟩:=I.loc;⟨m,hn,λi x v e1 e2 e3=>hl' i x v e1 (w i v e2) e3⟩,I.cell,I.free,I.freeC,I.pin,I.hok,hl.trans I.len⟩
def Inv.pins_of{pins':Q3}(I:Inv X y3 U H s)(h:∀p∈pins',s.heap.get? p.1=some p.2/\H p.1=none/\p.1≠X.env.locals/\p.1∉X.fs/\∀v,p.2.data≠.cell v):Inv X pins' U H s:=
 ⟨I.ok,I.os,I.bare,I.base,I.loc,I.cell,I.free,I.freeC,λp hp=>(Cj.mp hp).elim (λz=>I.pin p (Da _ z)) (h p),I.hok,I.len⟩
def kU(hN:N.Nodup){j:Nat}(a:N[i]?=some x)(b:N[j]?=some x):i=j:=by
 obtain⟨h1,e1⟩:=Af.mp a;obtain⟨h2,e2⟩:=Af.mp b;exact(Fx hN).mp (e1.trans e2.symm)
def pB{Q:Unit->Shared->Prop}(I:Inv X y3 U H s)(hN:X.N.Nodup)(hi:X.N[i]?=some x)(hx:Loc X.env.scope x)(r:RelV v u)(h:∀s',Inv X y3 (U.set i (some v)) H s'->(∃a,Heap.SameBut a s.heap s'.heap/\(a=X.env.locals\/X.env.cells.lookup x=some a))->Q () s')(hf:X.fn x=true\/X.env.scope.names.lookup x=some .local:=by first|exact .inl rfl|exact .inr rfl|assumption):wpAny M A (storeName X.env x u) Q E s:=by
 obtain⟨m,hn,hl⟩:=id I.loc;have hcls:(X.env.scope.kind == .class || (X.env.scope.kind == .module&&X.env.locals != X.env.globals))=false:=by rw[I.ok.kind];rfl
 have hiU:i<U.length:=by rw[I.len];exact(Af.mp hi).1
 have cne:=I.cne
 have tracked:∀ {a:Addr} {h':Heap},(∃o,s.heap.get? a=some o/\H a=none)->Heap.SameBut a s.heap h'->HOk X.prog X.w H h':=fun {a h'} ha hs b ob e=>by
  obtain⟨_,_,hfree⟩:=ha;refine(I.hok b ob e).stay (λc w' hc q=>(hs.2 c ?_).trans q) (λ_ q=>q) λ_ _ q=>q;rintro rfl;rcases hc with rfl|hc
  .rw[hfree]at e;cases e
  .rw[hfree]at hc;cases hc
 rcases hx with hk|hk
 .refine wpAny_storeName_local hk hn (λh' hn' hs=>?_) hcls;obtain⟨oL,_,_,hoL,_⟩:=id hn;refine h _ ⟨I.ok,I.os,I.bare,⟨λb o e n hb hx=>?_,λb o e n hb hx=>?_,I.base.free,λb o e hx=>?_,I.base.tups,I.base.frzs,I.base.tbls⟩,⟨_,hn',λj y v' e1 e2 e3=>?_⟩,λy c e=>?_,I.free,I.freeC,λp hp=>?_,tracked ⟨oL,hoL,I.free⟩ hs,by simpa using I.len⟩ ⟨_,hs,.inl rfl⟩
  .exact(hs.2 b (Ba (Az (Ao e) I.ok.above))).trans (I.base.keep b o e n hb hx)
  .obtain⟨sl,e1⟩:=I.base.slot b o e n hb hx;exact⟨sl,(hs.2 b (Ba (Az (Ao e) I.ok.above))).trans e1⟩
  .obtain⟨o',e1⟩:=I.base.there b o e hx;exact⟨o',(hs.2 b (Ba (Az (Ao e) I.ok.above))).trans e1⟩
  .by_cases hj:j=i
   .subst hj;rw[hi]at e1;cases e1;rw[Gr hiU]at e2;cases e2;exact⟨u,r,.inl ⟨hk,by simp⟩⟩
   .rw[Fu (Ne.symm hj)]at e2;obtain⟨u',r',q⟩:=hl j y v' e1 e2 e3;refine⟨u',r',?_⟩;rcases q with⟨k,e⟩|⟨k,c,e,z⟩
    .refine .inl ⟨k,?_⟩;have:y≠x:=λe=>hj (kU hN e1 (e▸hi))
     simp[this,e]
    .exact .inr ⟨k,c,e,z.sameBut hs (cne y c e)⟩
  .obtain⟨w',z⟩:=I.cell y c e;exact⟨w',z.sameBut hs (cne y c e)⟩
  .obtain⟨e,n,ne,nf,d⟩:=I.pin p hp;exact⟨(hs.2 p.1 ne).trans e,n,ne,nf,d⟩
 .have hfn:X.fn x=true:=by
   rcases hf with z|z
   .exact z
   .rw[z]at hk;cases hk
  obtain⟨c,hc⟩:=I.ok.has x (.inl hk);obtain⟨w',z⟩:=I.cell x c hc;refine wpAny_storeName_cell I.ok.kind hk hc z (λh' hc' hs=>?_);obtain⟨oc,hoc,hocd⟩:=id z;refine h {s with heap:=h'} ⟨I.ok,I.os,I.bare,⟨λb o e n hb hx=>?_,λb o e n hb hx=>?_,I.base.free,λb o e hx=>?_,I.base.tups,I.base.frzs,I.base.tbls⟩,⟨m,hn.sameBut hs (Ne.symm (cne x c hc)),λj y v' e1 e2 e3=>?_⟩,λy c' e=>?_,I.free,I.freeC,λp hp=>?_,tracked ⟨oc,hoc,I.freeC x c hc⟩ hs,by simpa using I.len⟩ ⟨c,hs,.inr hc⟩
  .exact(hs.2 b (Ba (Az (Ao e) (I.ok.cab x c hfn hc)))).trans (I.base.keep b o e n hb hx)
  .obtain⟨sl,e1⟩:=I.base.slot b o e n hb hx;exact⟨sl,(hs.2 b (Ba (Az (Ao e) (I.ok.cab x c hfn hc)))).trans e1⟩
  .obtain⟨o',e1⟩:=I.base.there b o e hx;exact⟨o',(hs.2 b (Ba (Az (Ao e) (I.ok.cab x c hfn hc)))).trans e1⟩
  .by_cases hj:j=i
   .subst hj;rw[hi]at e1;cases e1;rw[Gr hiU]at e2;cases e2;exact⟨u,r,.inr ⟨.inl hk,c,hc,hc'⟩⟩
   .rw[Fu (Ne.symm hj)]at e2;obtain⟨u',r',q⟩:=hl j y v' e1 e2 e3;refine⟨u',r',?_⟩;rcases q with q|⟨k,c',e,z'⟩
    .exact .inl q
    .refine .inr ⟨k,c',e,z'.sameBut hs ?_⟩;rintro rfl;exact hj (kU hN e1 (I.ok.inj _ _ _ e hc▸hi))
  .by_cases hcc:c'=c
   .subst hcc;exact⟨_,hc'⟩
   .obtain⟨w2,z2⟩:=I.cell y c' e;exact⟨w2,z2.sameBut hs hcc⟩
  .obtain⟨e,n,ne,nf,d⟩:=I.pin p hp;refine⟨(hs.2 p.1 ?_).trans e,n,ne,nf,d⟩;intro q;rw[q,hoc]at e;have q':oc=p.2:=Bh e
   exact d w' (by rw[<-q'];exact hocd)
def kY{Q:Unit->Shared->Prop}(I:Inv X y3 U H s)(hN:X.N.Nodup)(hi:X.N[i]?=some x)(hx:Loc X.env.scope x)(r:RelV v u)(h:∀s',Inv X y3 (U.set i (some v)) H s'->Q () s')(hf:X.fn x=true\/X.env.scope.names.lookup x=some .local:=by first|exact .inl rfl|exact .inr rfl|assumption):wpAny M A (storeName X.env x u) Q E s:=
 pB I hN hi hx r (λs' I' _=>h s' I') hf
def Inv.call'{s':Shared}{ch:List Addr}(I:Inv X y3 U H s)(ho:s'.os=s.os)(u:Un (frs X.stack) ch H H' s.heap s'.heap)(hok:HOk X.prog X.w H' s'.heap)(hg:AllBare s'.gens)(hch:∀b∈ch,(b∈X.ex\/X.s₀.heap.objs.size<=b)/\b≠X.env.locals/\(∀x c,X.env.cells.lookup x=some c->c≠b)/\∀p∈X.pn++y3,p.1≠b):Inv X y3 U H' s':=by
 obtain⟨h',g',d',t',o'⟩:=s';have e:o'=s.os:=ho
 subst e;exact I.call (g':=g') (t':=t') (d':=d') u hok hg hch
end
abbrev XK:=Value->Option Addr->Hp->Prop
abbrev St:=List (Option V)
variable {U:St}
abbrev VK:=V->Hp->Prop
abbrev TE:=St->Hp->VK->Prop
variable {ta tb:TE}
abbrev TT:=St->Hp->(Bool->Hp->Prop)->Prop
abbrev TA:=St->Hp->(List V->Hp->Prop)->Prop
structure Ends where
 nx:St->Hp->Prop
 rt:VK
 bk:St->Hp->Prop:=λ_ _=>False
 ct:St->Hp->Prop:=λ_ _=>False
abbrev TS:=Ends->St->Hp->Prop
def EP(X:Cx)(y3:List (Addr×Obj))(U:St)(Q:VK)(u:Value)(s':Shared):Prop:=∃v H',Inv X y3 U H' s'/\RelV v u/\Q v H'
def TP(X:Cx)(y3:List (Addr×Obj))(U:St)(Q:Bool->Hp->Prop)(b:Bool)(s':Shared):Prop:=∃H',Inv X y3 U H' s'/\Q b H'
def AP(X:Cx)(y3:List (Addr×Obj))(U:St)(Q:List V->Hp->Prop)(us:List Value)(s':Shared):Prop:=∃vs H',Inv X y3 U H' s'/\Vals vs us/\Q vs H'
def SP(X:Cx)(y3:List (Addr×Obj))(D:Ends)(f:Flow)(s':Shared):Prop:=
 match f with
 |.next=>∃U' H',Inv X y3 U' H' s'/\D.nx U' H'
 |.brk=>∃U' H',Inv X y3 U' H' s'/\D.bk U' H'
 |.cont=>∃U' H',Inv X y3 U' H' s'/\D.ct U' H'
 |.ret u=>∃v U' H',Inv X y3 U' H' s'/\RelV v u/\D.rt v H'
def PE(X:Cx)(e:Expr)(t:TE):Prop:=
 ∀(y3:Q3) (s:Shared) (U:St) (H:Hp) (Q:VK),Inv X y3 U H s->t U H Q->wpAny (model X.prog X.w) X.A (eval e X.env) (EP X y3 U Q) X.xe s
def PT(X:Cx)(e:Expr)(t:TT):Prop:=
 ∀(y3:Q3) (s:Shared) (U:St) (H:Hp) (Q:Bool->Hp->Prop),Inv X y3 U H s->t U H Q->wpAny (model X.prog X.w) X.A (isTrue e X.env (eval e X.env)) (TP X y3 U Q) X.xe s
def PW(X:Cx)(e:Expr)(t:TT):Prop:=
 ∀(whole:Sem Value) (y3:Q3) (s:Shared) (U:St) (H:Hp) (Q:Bool->Hp->Prop),Inv X y3 U H s->t U H Q->wpAny (model X.prog X.w) X.A (isTrue e X.env whole) (TP X y3 U Q) X.xe s
def PW.pt{t:TT}(h:PW X e t):PT X e t:=h _
def PA(X:Cx)(es:List Expr)(t:TA):Prop:=
 ∀(pos:Pos) (y3:Q3) (s:Shared) (U:St) (H:Hp) (Q:List V->Hp->Prop),Inv X y3 U H s->t U H Q->wpAny (model X.prog X.w) X.A (spliced (backTo pos (starEach es X.env))) (AP X y3 U Q) X.xe s
def PS(X:Cx)(st:Stmt)(t:TS):Prop:=
 ∀(y3:Q3) (s:Shared) (U:St) (H:Hp) (D:Ends),Inv X y3 U H s->t D U H->wpAny (model X.prog X.w) X.A (exec st X.env) (SP X y3 D) X.xe s
def PSs(X:Cx)(st:List Stmt)(t:TS):Prop:=
 ∀(y3:Q3) (s:Shared) (U:St) (H:Hp) (D:Ends),Inv X y3 U H s->t D U H->wpAny (model X.prog X.w) X.A (execs st X.env) (SP X y3 D) X.xe s
def thn{t:Sem α}{Q Q':α->Shared->Prop}(h:wpAny M A t Q E s)(hQ:∀a s,Q a s->Q' a s):wpAny M A t Q' E s:=Cg h hQ λ_ _ x=>x
section
def cJT(i:Nat):TE:=λU H Q=>∃v,U[i]?=some (some v)/\Q v H
def tC(v:V):TE:=λ_ H Q=>Q v H
def cQN(hN:X.N[i]?=some x)(hv:Vis X.env.scope x)(hd:(x==("__debug__" : Str))=false:=by decide)(hcd:(x==("__classdict__" : Str))=false:=by decide):PE X (.Name x pos) (cJT i):=by
 intro y3 s U H Q I h;obtain⟨v,e,h⟩:=h;obtain⟨m,hn,hl⟩:=I.loc;obtain⟨u,r,l⟩:=hl i x v hN e hv;have fin:EP X y3 U Q u s:=⟨v,H,I,r,h⟩
 rcases l with⟨hk,hm⟩|⟨hk,c,hc,hcell⟩
 .exact wpAny_Name (wpAny_loadName_local I.ok.kind hk hn hm fin) hd
 .rcases hk with hk|hk
  .exact wpAny_Name (wpAny_loadName_cell I.ok.kind hk hc hcell fin) hd
  .exact wpAny_Name (wpAny_loadName_free I.ok.kind hk hc hcell fin hcd) hd
def aI{i j pos}:PE X (.Constant (.int i) j pos) (tC (.int i)):=λ_ _ _ H _ I h=>wpAny_Constant_int ⟨.int i,H,I.tok _,⟨_,rfl⟩,h⟩
def dA{b j pos}:PE X (.Constant (.bool b) j pos) (tC (.bl b)):=λ_ _ _ H _ I h=>Constant_bool ⟨.bl b,H,I,rfl,h⟩
def cQ5{j pos}:PE X (.Constant .none j pos) (tC .non):=λ_ _ _ H _ I h=>Constant_none ⟨.non,H,I,rfl,h⟩
def mH{x j pos}:PE X (.Constant (.str x) j pos) (tC (.str x)):=λ_ _ _ H _ I h=>Calls.Constant_str ⟨.str x,H,I.tok _,⟨_,rfl⟩,h⟩
def Gl(X:Cx)(x:Str):Prop:=X.env.kindOf x=some .globalImplicit
def eN{Q:Q2}(I:Inv X y3 U H s)(hg:Gl X x)(hm:X.mg x=some u)(h:Q u s)(hd:(x==("__debug__" : Str))=false:=by decide):wpAny (model X.prog X.w) X.A (eval (.Name x pos) X.env) Q E s:=
 Calls.Name_function_global I.ok.kind hg (Calls.loadGlobal_global (by rw[I.ok.glob];exact I.mod.glob.keeps I.bk) hm h) hd
def iD{Q:Q2}(I:Inv X y3 U H s)(hg:Gl X x)(hm:X.mg x=none)(hv:bootBuiltins x=some u)(h:Q u s)(hn:x≠"__name__" := by decide)(hd:(x==("__debug__" : Str))=false:=by decide):wpAny (model X.prog X.w) X.A (eval (.Name x pos) X.env) Q E s:=by
 obtain⟨mb,h1,h2⟩:=I.mod.blt;exact Calls.Name_function_global I.ok.kind hg (Calls.loadGlobal_builtin (by rw[I.ok.glob];exact I.mod.glob.keeps I.bk) hm (by rw[I.ok.blt];exact h1.keeps I.bk) ((h2 x hn).trans hv) h) hd
def vX(hg:Gl X x)(hm:X.mg x=some u)(r:RelV v u)(hd:(x==("__debug__" : Str))=false:=by decide):PE X (.Name x pos) (tC v):=
 λ_ _ _ H _ I h=>eN I hg hm ⟨v,H,I,r,h⟩ hd
def bX3(hg:Gl X x)(hm:X.mg x=none)(hv:bootBuiltins x=some u)(r:RelV v u)(hn:x≠"__name__" := by decide)(hd:(x==("__debug__" : Str))=false:=by decide):PE X (.Name x pos) (tC v):=
 λ_ _ _ H _ I h=>iD I hg hm hv ⟨v,H,I,r,h⟩ hn hd
variable {a b:Expr}
variable {tA tB':TT} {rest:List Expr}
def cZ5(t u:TT):TT:=λU H Q=>t U H λc H1=>if c=true then u U H1 Q else Q false H1
def tOr(t u:TT):TT:=λU H Q=>t U H λc H1=>if c=true then Q true H1 else u U H1 Q
def cJC(t:TT):TT:=λU H Q=>t U H λc H1=>Q (!c) H1
def bZN(ha:PT X a tA):PW X (.BoolOp .And [a] pos) tA:=by
 intro wh y3 s U H Q I h;refine isTrue_and (thn (ha y3 s U H Q I h) λc s1 e=>?_);cases c with
 |true=>exact isTrue_and_nil e
 |false=>exact e
def dG(ha:PT X a tA):PW X (.BoolOp .Or [a] pos) tA:=by
 intro wh y3 s U H Q I h;refine isTrue_or (thn (ha y3 s U H Q I h) λc s1 e=>?_);cases c with
 |false=>exact isTrue_or_nil e
 |true=>exact e
def cXM(ha:PT X a tA)(hb:PW X (.BoolOp .And (b::rest) pos) tB'):PW X (.BoolOp .And (a::b::rest) pos) (cZ5 tA tB'):=by
 intro wh y3 s U H Q I h;refine isTrue_and (thn (ha y3 s U H _ I h) λc s1 ⟨H1,I1,q1⟩=>?_);cases c with
 |true=>exact hb wh y3 s1 U H1 Q I1 q1
 |false=>exact⟨H1,I1,q1⟩
def cT(ha:PT X a tA)(hb:PW X (.BoolOp .Or (b::rest) pos) tB'):PW X (.BoolOp .Or (a::b::rest) pos) (tOr tA tB'):=by
 intro wh y3 s U H Q I h;refine isTrue_or (thn (ha y3 s U H _ I h) λc s1 ⟨H1,I1,q1⟩=>?_);cases c with
 |true=>exact⟨H1,I1,q1⟩
 |false=>exact hb wh y3 s1 U H1 Q I1 q1
def iB(ha:PT X a tA):PT X (.UnaryOp .Not a pos) (cJC tA):=by
 intro y3 s U H Q I h;exact isTrue_not (ha y3 s U H (λc H1=>Q (!c) H1) I h)
def tQ{op}{t:TE}(h:PE X a t):PE X (.BoolOp op [a] pos) t:=λy3 s U H Q I hw=>BoolOp_one (h y3 s U H Q I hw)
end
def SqL(K:W.Frag)(H:Hp)(a:Addr)(xs:List V):Prop:=
 Rd H a (.lst xs)\/
  ∃(o:Obj) (its:Array Value) (n:Nat),K.lookup a=some o/\o.cls=.type "list"/\o.dict=none/\o.data=.seq its n/\its.size<=sizeLine/\Vals xs its.toList
def SqT(K:W.Frag)(H:Hp)(a:Addr)(xs:List V):Prop:=
 Rd H a (.tup xs)\/
  ∃(o:Obj) (its:Array Value) (n:Nat),K.lookup a=some o/\o.cls=.type "tuple"/\o.data=.seq its n/\its.size<=sizeLine/\Vals xs its.toList
def dXF:Value->Option V
 |.none=>some .non
 |.bool b=>some (.bl b)
 |.int i _=>some (.int i)
 |.str x _=>some (.str x)
 |.bytes b _=>some (.byt b)
 |.float b _=>some (.flt b)
 |.ref a=>some (.ref a)
 |.type n=>some (.ty n)
 |_=>none
def RelV.abs{x:V}(r:RelV x u):dXF u=some x:=by
 cases x with
 |non=>cases r;rfl
 |bl _=>cases r;rfl
 |int _=>obtain⟨t,rfl⟩:=r;rfl
 |str _=>obtain⟨t,rfl⟩:=r;rfl
 |byt _=>obtain⟨t,rfl⟩:=r;rfl
 |flt _=>obtain⟨t,rfl⟩:=r;rfl
 |ref _=>cases r;rfl
 |ty _=>cases r;rfl
def RelV.inj{x y:V}(r:RelV x u)(q:RelV y u):x=y:=Bh (r.abs.symm.trans q.abs)
def Vals.inj:∀ {xs ys:List V} {us:List Value},Vals xs us->Vals ys us->xs=ys
 |_,_,_,.nil,.nil=>rfl
 |_,_,_,.cons r t,.cons r' t'=>by rw[r.inj r',Vals.inj t t']
section
variable {ys:List V}
def SqL.of(h:H a=some (.lst xs)):SqL K H a xs:=.inl (.inl h)
def SqT.of(h:H a=some (.tup xs)):SqT K H a xs:=.inl (.inl h)
def Inv.list(I:Inv X y3 U H s)(h:SqL X.K H a xs):∃its:List Value,Vals xs its/\PlainL s.heap a its.toArray/\xs.length<=sizeLine:=by
 rcases h with h|⟨o,its,n,hk,hc,hd,hs,hz,r⟩
 .obtain⟨z,its,n,r,e⟩:=h.ok I.hok;exact⟨its,r,⟨_,n,e,rfl,rfl,rfl⟩,z⟩
 .refine⟨its.toList,r,⟨o,n,I.kIn a o hk,hc,hd,by simpa using hs⟩,?_⟩
  have e:=r.length
  simp only[Array.length_toList]at e;omega
def Inv.tuple(I:Inv X y3 U H s)(h:SqT X.K H a xs):∃its:List Value,Vals xs its/\IsTup s.heap a its.toArray/\xs.length<=sizeLine:=by
 rcases h with h|⟨o,its,n,hk,hc,hs,hz,r⟩
 .obtain⟨z,its,r,p⟩:=h.ok I.hok;exact⟨its,r,p,z⟩
 .refine⟨its.toList,r,⟨o,I.kIn a o hk,hc,n,by simpa using hs⟩,?_⟩
  have e:=r.length
  simp only[Array.length_toList]at e;omega
def Inv.list_inj(I:Inv X y3 U H s)(h:SqL X.K H a xs)(h':SqL X.K H a ys):xs=ys:=by
 obtain⟨its,r,⟨o,n,e,_,_,d⟩,_⟩:=I.list h;obtain⟨its',r',⟨o',n',e',_,_,d'⟩,_⟩:=I.list h';rw[e]at e';cases e';rw[d]at d';injection d' with d1 _
 have:its=its':=by simpa using congrArg Array.toList d1
 subst this;exact r.inj r'
end
abbrev Cx.wish(X:Cx)(E:Value->Shared->Prop):Cx:={X with xe:=E}
abbrev Cx.nox(X:Cx):Cx:=X.wish λ_ _=>False
def Cx.Ok.wish(ok:X.Ok)(E:Q2):(X.wish E).Ok:=
 ⟨ok.mod,ok.kind,ok.glob,ok.blt,ok.above,ok.inj,ok.has,ok.cab,ok.hd,ok.frames,ok.stk,ok.exf,ok.bs,ok.bsz,ok.noex,ok.exfs,ok.funs,ok.frf⟩
def Cx.Ok.unwish(ok:(X.wish E).Ok):X.Ok:=
 ⟨ok.mod,ok.kind,ok.glob,ok.blt,ok.above,ok.inj,ok.has,ok.cab,ok.hd,ok.frames,ok.stk,ok.exf,ok.bs,ok.bsz,ok.noex,ok.exfs,ok.funs,ok.frf⟩
def Inv.wish(I:Inv X y3 U H s)(E:Q2):Inv (X.wish E) y3 U H s:=⟨I.ok.wish E,I.os,I.bare,I.base,I.loc,I.cell,I.free,I.freeC,I.pin,I.hok,I.len⟩
def Inv.unwish(I:Inv (X.wish E) y3 U H s):Inv X y3 U H s:=⟨I.ok.unwish,I.os,I.bare,I.base,I.loc,I.cell,I.free,I.freeC,I.pin,I.hok,I.len⟩
def SP.unwish{D:Ends}{f:Flow}{s':Shared}(h:SP (X.wish E) y3 D f s'):SP X y3 D f s':=by
 cases f with
 |next=>obtain⟨U',H',I,q⟩:=h;exact⟨U',H',I.unwish,q⟩
 |brk=>obtain⟨U',H',I,q⟩:=h;exact⟨U',H',I.unwish,q⟩
 |cont=>obtain⟨U',H',I,q⟩:=h;exact⟨U',H',I.unwish,q⟩
 |ret u=>obtain⟨v,U',H',I,r,q⟩:=h;exact⟨v,U',H',I.unwish,r,q⟩
def PSs.nox{st:List Stmt}{t:TS}(h:PSs X.nox st t):PSs X st t:=λy3 s U H D I hw=>
 Cg (h y3 s U H D (I.wish _) hw) (λ_ _ q=>q.unwish) λ_ _ z=>False.elim z
section
variable {X:Cx} {st:Stmt} {rest:List Stmt} {t u:TS} {e:Expr} {te:TE} {pos:Pos}
def bJB:TS:=λD U H=>D.nx U H
def cJP(t u:TS):TS:=λD U H=>t {D with nx:=u D} U H
def bN:PSs X [] bJB:=λ_ _ U H _ I h=>wpAny_execs_nil ⟨U,H,I,h⟩
def aD(h1:PS X st t)(h2:PSs X rest u):PSs X (st::rest) (cJP t u):=by
 intro y3 s U H D I h;refine wpAny_execs_cons (thn (h1 y3 s U H {D with nx:=u D} I h) λf s1 q=>?_)
 cases f with
 |next=>
  obtain⟨U',H',I',q⟩:=q;exact h2 y3 s1 U' H' D I' q
 |ret v=>exact q
 |brk=>exact q
 |cont=>exact q
def aH(h1:PS X st t):PSs X [st] t:=by
 intro y3 s U H D I h;refine wpAny_execs_cons (thn (h1 y3 s U H D I h) λf s1 q=>?_);cases f with
 |next=>exact wpAny_execs_nil q
 |ret v=>exact q
 |brk=>exact q
 |cont=>exact q
def Inv.quiet(I:Inv X y3 U H s):interactive X.env=false:=by simp[interactive,I.ok.kind]
def bJN(te:TE):TS:=λD U H=>te U H λ_ H1=>D.nx U H1
def cE(he:PE X e te)(hs:swapsWith e none pos.line X.env=pure false:=by rfl):PS X (.Expr e pos) (bJN te):=by
 intro y3 s U H D I h;exact wpAny_Expr_any (thn (he y3 s U H _ I h) λv s1 ⟨x,H1,I1,r1,q1⟩=>⟨U,H1,I1,q1⟩) I.quiet hs
def cJK(te:TE):TS:=λD U H=>te U H D.rt
def aT(he:PE X e te):PS X (.Return (some e) pos) (cJK te):=by
 intro y3 s U H D I h;exact wpAny_Return_some (thn (he y3 s U H _ I h) λv s1 ⟨x,H1,I1,r1,q1⟩=>⟨x,U,H1,I1,r1,q1⟩)
def cZ6(c:TT)(t u:TS):TS:=λD U H=>c U H λb H1=>if b=true then t D U H1 else u D U H1
def cN{c:Expr}{a b:List Stmt}{tc:TT}(hc:PT X c tc)(ha:PSs X a t)(hb:PSs X b u):PS X (.If c a b pos) (cZ6 tc t u):=by
 intro y3 s U H D I h;refine wpAny_If (thn (hc y3 s U H _ I h) λd s1 ⟨H1,I1,q1⟩=>?_);cases d with
 |true=>exact ha y3 s1 U H1 D I1 q1
 |false=>exact hb y3 s1 U H1 D I1 q1
end
abbrev TG:=V->St->Hp->(St->Hp->Prop)->Prop
abbrev TGs:=List V->St->Hp->(St->Hp->Prop)->Prop
def PG(X:Cx)(target:Expr)(t:TG):Prop:=
 ∀(y3:Q3) (s:Shared) (U:St) (H:Hp) (v:V) (u:Value) (Q:St->Hp->Prop),Inv X y3 U H s->RelV v u->t v U H Q->
  wpAny (model X.prog X.w) X.A (assign target X.env u) (λ_ s'=>∃U' H',Inv X y3 U' H' s'/\Q U' H') X.xe s
def PGs(X:Cx)(ts:List Expr)(t:TGs):Prop:=
 ∀(y3:Q3) (s:Shared) (U:St) (H:Hp) (vs:List V) (us:List Value) (Q:St->Hp->Prop),Inv X y3 U H s->Vals vs us->t vs U H Q->
  wpAny (model X.prog X.w) X.A (assignInOrder ((assignEach ts X.env).map (·.2)) us) (λ_ s'=>∃U' H',Inv X y3 U' H' s'/\Q U' H') X.xe s
section
variable {X:Cx} {pos:Pos}
def kS(i:Nat):TG:=λv U H Q=>Q (U.set i (some v)) H
def bA{i:Nat}(hN:X.N.Nodup)(hi:X.N[i]?=some x)(hx:Loc X.env.scope x)(hf:X.fn x=true\/X.env.scope.names.lookup x=some .local:=by first|exact .inl rfl|exact .inr rfl|assumption):PG X (.Name x pos) (kS i):=by
 intro y3 s U H v u Q I r h;exact wpAny_assign_Name (kY I hN hi hx r (λs' I'=>⟨_,H,I',h⟩) hf)
def cQ8:TGs:=λvs U H Q=>vs=[]/\Q U H
def wK(t:TG)(u:TGs):TGs:=λvs U H Q=>∃v r,vs=v::r/\t v U H λU' H'=>u r U' H' Q
def bXX:PGs X [] cQ8:=by
 intro y3 s U H vs us Q I r h;obtain⟨e,h⟩:=h;subst e;cases r;exact assignInOrder_nil ⟨U,H,I,h⟩
def rM{t:TG}{u:TGs}(h1:PG X e t)(h2:PGs X es u)(hs:(assignEach (e::es) X.env).map (·.2)=assign e X.env::(assignEach es X.env).map (·.2):=by rfl):PGs X (e::es) (wK t u):=by
 intro y3 s U H vs us Q I r h;obtain⟨v,vr,e1,h⟩:=h;subst e1;cases r with
 |cons r rr=>
  rw[hs];refine assignInOrder_cons (thn (h1 y3 s U H _ _ _ I r h) λ_ s1 ⟨U1,H1,I1,q1⟩=>?_);exact h2 y3 s1 U1 H1 _ _ Q I1 rr q1
def cQD(K:W.Frag)(n:Nat)(t:TGs):TG:=λv U H Q=>∃a xs,v=.ref a/\SqT K H a xs/\xs.length=n/\t xs U H Q
def cXJ{t:TGs}(hc:X.calm=true)(h:PGs X es t)(hn:(assignEach es X.env).length=n:=by rfl)(hst:(assignEach es X.env).findIdx? (·.1)=none:=by rfl):PG X (.Tuple es k pos) (cQD X.K n t):=by
 intro y3 s U H v u Q I r hw;obtain⟨a,xs,e1,hq,hl,hw⟩:=hw;subst e1;cases r;obtain⟨its,rv,ht,hz⟩:=I.tuple hq;obtain⟨ch,hh,hcn,_⟩:=I.soft hc;rw[assign_Tuple];refine wpAny_bind (wpAny_standAt (bQM hh hcn ht (by simp[hn,<-hl,rv.length]) hst λh' hx=>?_))
 have I1:Inv X y3 U H {s with heap:=h'}:=I.kept (t':=s.toks) λb o e=>hx b o (Ba (Ao e)) e
 exact h y3 _ U H xs _ Q I1 (by simpa using rv) hw
def bXY(te:TE)(g:TG):TS:=λD U H=>te U H λx H1=>g x U H1 D.nx
def uB{i:Nat}{x:Str}{e:Expr}{te:TE}{pos':Pos}(hN:X.N.Nodup)(hi:X.N[i]?=some x)(hx:Loc X.env.scope x)(he:PE X e te)(hs:swapsWith e (some (.Name x pos')) pos.line X.env=pure false:=by rfl)(hf:X.fn x=true\/X.env.scope.names.lookup x=some .local:=by first|exact .inl rfl|exact .inr rfl|assumption):PS X (.Assign [.Name x pos'] e pos) (bXY te (kS i)):=by
 intro y3 s U H D I h;refine wpAny_Assign_Name (thn (he y3 s U H _ I h) λv s1 ⟨y,H1,I1,r1,q1⟩=>?_) hs;exact kY I1 hN hi hx r1 (λs2 I2=>⟨_,H1,I2,q1⟩) hf
end
def cQV(c:TT)(tb:TS):TS:=λD U H=>∃W:Nat->St->Hp->Prop,(∃m,W m U H)/\∀m U H,W m U H->
 c U H λb H1=>if b=true then ∃N:St->Hp->Prop,(∀U' H',N U' H'->∃m',m' < m/\W m' U' H')/\tb {D with nx:=N,ct:=N,bk:=D.nx} U H1 else D.nx U H1
def sC{c:Expr}{tc:TT}{tb:TS}(hp:PassesOwn (model X.prog X.w) X.A X.env X.xe)(hc:PT X c tc)(hb:PSs X body tb):PS X (.While c body [] pos) (cQV tc tb):=by
 intro y3 s U H D I h;obtain⟨W,⟨m0,w0⟩,turn⟩:=h;refine wpAny_While (codeAny_whileLoop (λn s'=>∃U' H',Inv X y3 U' H' s'/\W n U' H') ?_ m0 ⟨U,H,I,w0⟩);rintro n s1 ⟨U1,H1,I1,w1⟩;refine Er hp (thn (hc y3 s1 U1 H1 _ I1 (turn n U1 H1 w1)) λb s2 ⟨H2,I2,q2⟩=>?_);cases b with
 |true=>
  obtain⟨N,hN,q2⟩:=q2;rw[if_pos rfl];refine Er hp (thn (hb y3 s2 U1 H2 _ I2 q2) λf s3 q3=>?_);cases f with
  |next=>
   obtain⟨U3,H3,I3,n3⟩:=q3;obtain⟨m',hm,w3⟩:=hN U3 H3 n3;exact⟨m',hm,U3,H3,I3,w3⟩
  |cont=>
   obtain⟨U3,H3,I3,n3⟩:=q3;obtain⟨m',hm,w3⟩:=hN U3 H3 n3;exact⟨m',hm,U3,H3,I3,w3⟩
  |brk=>exact q3
  |ret v=>exact q3
 |false=>
  rw[if_neg An];exact wpAny_execs_nil ⟨U1,H2,I2,q2⟩
structure It where
 go:Nat->Hp->Prop
 yld:Nat->Hp->V->Hp->Prop
 stop:Nat->Hp->Prop
def gA(X:Cx)(y3:List (Addr×Obj))(H:Hp)(b:Addr):Prop:=
 H b=none/\b≠X.env.locals/\b∉X.fs/\(b∈X.ex\/X.s₀.heap.objs.size<=b)/\(∀x c,X.env.cells.lookup x=some c->c≠b)/\∀p∈X.pn++y3,p.1≠b
def Inv.fpOk{H':Hp}(I:Inv X y3 U H s)(hb:s.heap.objs.size<=b)(hn:H' b=none):gA X y3 H' b:=by
 refine⟨hn,Fy (Az I.lt hb),I.nofs hb,.inr (Bf I.sz hb),λx c e z=>?_,λp hp z=>?_⟩
 .obtain⟨v,q⟩:=I.cell x c e;exact absurd (Az q.lt (by rw[z];exact hb)) (Dm _)
 .exact absurd (Az (Ao (I.pin p hp).1) (by rw[z];exact hb)) (Dm _)
structure Turn (P:Program) (w:World) (K:W.Frag) (tg:Expr) (J:It) (fp:List Addr) (it:Addr) (tn:Nat->Heap->Prop):Prop where
 mem:it∈fp
 obj:∀i h,tn i h->∀b∈fp,∃o,h.get? b=some o/\∀v,o.data≠.cell v
 keep:∀i h h',tn i h->(∀b∈fp,∀o,h.get? b=some o->h'.get? b=some o)->tn i h'
 item:∀(X:Cx),X.prog=P->X.w=w->X.K=K->X.calm=true->∀(i:Nat) (y3:Q3) (s:Shared) (U:St) (H:Hp) (E:Q2),Inv X y3 U H s->(∀b∈fp,gA X y3 H b)->tn i s.heap->J.go i H->
  wpAny (model P w) X.A (pyNext (.ref it)) (λr s1=>∃u,r=some u/\
   wpAny (model P w) X.A (letOwnedTupleGo tg (.ref it) u) (λ_ s2=>∃x H',Inv X y3 U H' s2/\RelV x u/\J.yld i H x H'/\tn (i+1) s2.heap/\∀b∈fp,H' b=none) E s1) E s
 done:∀(X:Cx),X.prog=P->X.w=w->X.K=K->X.calm=true->∀(i:Nat) (y3:Q3) (s:Shared) (U:St) (H:Hp) (E:Q2),Inv X y3 U H s->(∀b∈fp,gA X y3 H b)->tn i s.heap->J.stop i H->
  wpAny (model P w) X.A (pyNext (.ref it)) (λr s1=>r=none/\Inv X y3 U H s1) E s
 self:∀(A:Around) (i:Nat) (s:Shared) (Q:Q2) (E:Q2),tn i s.heap->Q (.ref it) s->wpAny (model P w) A (pyIter (.ref it)) Q E s
abbrev TI:=St->Hp->(It->Hp->Prop)->Prop
def PIE(X:Cx)(y3:List (Addr×Obj))(U:St)(tg:Expr)(R:It->Hp->Prop)(itv:Value)(s2:Shared):Prop:=
 ∃(it:Addr) (fp:List Addr) (tn:Nat->Heap->Prop) (J:It) (H':Hp),itv=.ref it/\Inv X y3 U H' s2/\Turn X.prog X.w X.K tg J fp it tn/\tn 0 s2.heap/\(∀b∈fp,gA X y3 H' b)/\R J H'
def PI(X:Cx)(tg iter:Expr)(wi:TI):Prop:=
 ∀(y3:Q3) (s:Shared) (U:St) (H:Hp) (R:It->Hp->Prop),Inv X y3 U H s->wi U H R->
  wpAny (model X.prog X.w) X.A (eval iter X.env) (λv s1=>wpAny (model X.prog X.w) X.A (pyIter v) (PIE X y3 U tg R) X.xe s1) X.xe s
def nV{s:Shared}{o:Obj}{n:String}{vs:Array Value}{Q:Unit->Shared->Prop}(ho:s.heap.get? it=some o)(hc:o.cls=.type n)(hd:o.data=.fields vs)(hn:["enumerate", "zip", "dict_itemiterator", "dict_reverseitemiterator", "odict_iterator", "itertools.zip_longest", "itertools.pairwise"].contains n=false)(hQ:Q () s):wpAny M A (letOwnedTupleGo tg (.ref it) u) Q E s:=by
 unfold letOwnedTupleGo;cases tg<;>first
  |exact Ae hQ
  | (cases u <;> first
      |exact Ae hQ
      | (refine Aa (wpAny_load ho ?_)
         rw[hc,hd];show wpAny M A (if (["enumerate", "zip", "dict_itemiterator", "dict_reverseitemiterator", "odict_iterator", "itertools.zip_longest", "itertools.pairwise"].contains n&&vs[0]? == some (rawInt _))=true then _ else _) Q E s
         rw[if_neg (by intro h;rw[hn,Bool.false_and]at h;cases h)]
         exact Ae hQ))
def Itl(K:W.Frag)(a:Addr):It:=
 ⟨λi H=>∃xs x,SqL K H a xs/\xs[i]?=some x,λi H x H'=>H'=H/\∀xs,SqL K H a xs->xs[i]?=some x,λi H=>∃xs,SqL K H a xs/\xs.length<=i⟩
def Itr(lo:Int)(n:Nat):It:=⟨λi _=>i<n,λi H x H'=>H'=H/\x=.int (lo+i),λi _=>n<=i⟩
def yW(a it:Addr):Turn P w K tg (Itl K a) [it] it (λi h=>h.IsListIter it a i) where
 mem:=by simp
 obj:=λi h st b hb=>by
  have e:b=it:=by simpa using hb
  subst e;obtain⟨o,e,c,d⟩:=st;exact⟨o,e,λv z=>by rw[d]at z;cases z⟩
 keep:=λi h h' st k=>st.at λo e=>k it (by simp) o e
 item:=by
  intro X hP hw hK hc i y3 s U H E I hf st hg;subst hP hw hK;obtain⟨xs,x,hq,hx⟩:=hg;obtain⟨its,rv,p,hz⟩:=I.list hq;obtain⟨u,hu,ru⟩:=rv.get hx;obtain⟨f0,f1,f2,f3,f4,f5⟩:=hf it (by simp)
  refine wpAny_pyNext_list_item st p.isList (x:=u) (by simpa using hu) λh' st' sb=>?_
  have I1:Inv X y3 U H {s with heap:=h'}:=I.turned (t':=s.toks) (λb o hb e=>(sb.2 b hb).trans e) f0 f1 f3 f4 f5
  obtain⟨o,e,c,d⟩:=id st';exact⟨u,rfl,nV (s:={s with heap:=h'}) e c d (by decide) ⟨x,H,I1,ru,⟨rfl,λys hy=>by rw[I.list_inj hy hq];exact hx⟩,st',λb hb=>(hf b hb).1⟩⟩
 done:=by
  intro X hP hw hK hc i y3 s U H E I hf st hg;subst hP hw hK;obtain⟨xs,hq,hx⟩:=hg;obtain⟨its,rv,p,hz⟩:=I.list hq;obtain⟨f0,f1,f2,f3,f4,f5⟩:=hf it (by simp)
  have hl:=rv.length
  obtain⟨ch,hh,hcn,hnx⟩:=I.soft hc;exact jO hh (hnx it f3) hcn st p.isList (by simp;omega) λh' eb=>⟨rfl,I.turned (t':=s.toks) (λb o hb e=>eb b o hb e) f0 f1 f3 f4 f5⟩
 self:=λ_ _ _ _ _ st h=>wpAny_pyIter_listiter st h
def tU(it:Addr)(lo:Int)(n:Nat):Turn P w K tg (Itr lo n) [it] it (λi h=>IsRangeIter h it (lo+(i:Nat)*1) ((n:Int)-(i:Nat)) 1) where
 mem:=by simp
 obj:=λi h st b hb=>by
  have e:b=it:=by simpa using hb
  subst e;exact⟨_,st,λv z=>by
   have z':Data.fields _=Data.cell v:=z
   cases z'⟩
 keep:=λi h h' st k=>k it (by simp) _ st
 item:=by
  intro X hP hw hK hc i y3 s U H E I hf st hg;subst hP hw hK;obtain⟨f0,f1,f2,f3,f4,f5⟩:=hf it (by simp)
  refine sF i s _ _ hg st λv h' tk hv st' kk=>?_;obtain⟨t,rfl⟩:=hv;have I1:Inv X y3 U H {s with heap:=h',toks:=tk}:=I.turned (λb o hb e=>kk b o (by simpa using hb) e) f0 f1 f3 f4 f5
  refine⟨_,rfl,nV (s:={s with heap:=h',toks:=tk}) (n := "range_iterator") st' rfl rfl (by decide) ⟨.int (lo+i),H,I1,⟨t,?_⟩,⟨rfl,rfl⟩,st',λb hb=>(hf b hb).1⟩⟩
  rw[Int.mul_one]
 done:=by
  intro X hP hw hK hc i y3 s U H E I hf st hg;subst hP hw hK;obtain⟨f0,f1,f2,f3,f4,f5⟩:=hf it (by simp)
  obtain⟨ch,hh,hcn,hnx⟩:=I.soft hc;exact vI hh (hnx it f3) hcn st (by have:n<=i:=hg;omega) λh' eb=>⟨rfl,I.turned (t':=s.toks) (λb o hb e=>eb b o hb e) f0 f1 f3 f4 f5⟩
 self:=λ_ _ _ _ _ st h=>wpAny_pyIter_rangeiter st h
def rQ{R:It->Hp->Prop}{lo hi:Int}{u v:Tok}{tk:Nat}(I:Inv X y3 U H s)(h1:-(2^62)<=lo)(h2:lo<2^62)(h3:-(2^62)<=hi)(h4:hi<2^62)(q:R (Itr lo (hi-lo).toNat) H):wpAny (model X.prog X.w) X.A (pyIter (.ref s.heap.objs.size)) (PIE X y3 U tg R) E {s with heap:=s.heap.push {cls:=.type "range",data:=.fields #[.int lo t,.int hi u,.int 1 v]},toks:=tk}:=by
 refine wpAny_pyIter_range (IsRange.new ..) (small_one h1 h2 h3 h4) ?_;have I1:Inv X y3 U H {s with heap:=s.heap.push {cls:=.type "range",data:=.fields #[.int lo t,.int hi u,.int 1 v]},toks:=tk}:=I.kept λb o e=>Ad _ e
 refine⟨(s.heap.push {cls:=.type "range",data:=.fields #[.int lo t,.int hi u,.int 1 v]}).objs.size,[(s.heap.push {cls:=.type "range",data:=.fields #[.int lo t,.int hi u,.int 1 v]}).objs.size],_,_,H,rfl,
  I1.kept (t':=tk) λb o e=>Ad _ e,tU _ lo (hi-lo).toNat,?_,λb hb=>?_,q⟩
 .have e1:lo+((0:Nat):Int)*1=lo:=by simp
  have e2:(((hi-lo).toNat:Nat):Int)-((0:Nat):Int)=Builtin.Range.rangeSize lo hi 1:=by rw[rangeSize_one];split<;>omega
  show IsRangeIter _ _ (lo+((0:Nat):Int)*1) ((((hi-lo).toNat:Nat):Int)-((0:Nat):Int)) 1
  rw[e1,e2];exact Aw _ rfl
 .have e:b=(s.heap.push {cls:=.type "range",data:=.fields #[.int lo t,.int hi u,.int 1 v]}).objs.size:=by simpa using hb
  subst e;exact I1.fpOk (Ai _) (I1.hok.fresh (Ai _))
def dXK(wi:TI)(g:TG)(tb:TS):TS:=λD U H=>wi U H λJ H1=>∃W:Nat->Nat->St->Hp->Prop,(∃m,W 0 m U H1)/\∀i m U H,W i m U H->
 (J.stop i H/\D.nx U H)\/(J.go i H/\∃N:St->Hp->Prop,(∀U' H',N U' H'->∃m',m' < m/\W (i+1) m' U' H')/\∀x H',J.yld i H x H'->g x U H' λU2 H2=>tb {D with nx:=N,ct:=N,bk:=D.nx} U2 H2)
def jX(fp:List Addr)(h:Heap):List (Addr×Obj):=fp.filterMap λb=>(h.get? b).map λo=>(b,o)
def eI{o:Obj}(hb:b∈fp)(e:h.get? b=some o):(b,o)∈jX fp h:=Cp.mpr ⟨b,hb,by rw[e];rfl⟩
def xY{p:Addr×Obj}(hp:p∈jX fp h):p.1∈fp/\h.get? p.1=some p.2:=by
 obtain⟨b,hb,e⟩:=Cp.mp hp;cases q:h.get? b with
 |none=>rw[q]at e;cases e
 |some o=>
  rw[q]at e;have e':(b,o)=p:=Bh e
  subst e';exact⟨hb,q⟩
def Inv.pinned(I:Inv X y3 U H s)(hf:∀b∈fp,gA X y3 H b)(ho:∀b∈fp,∃o,s.heap.get? b=some o/\∀v,o.data≠.cell v):Inv X (y3++jX fp s.heap) U H s:=
 I.pins_of λp hp=>(Cj.mp hp).elim (λz=>I.pin p (Bk _ z)) λz=>by
  obtain⟨hb,e⟩:=xY z;obtain⟨f0,f1,f2,_⟩:=hf p.1 hb;obtain⟨o,e',d⟩:=ho p.1 hb;rw[e]at e';cases e';exact⟨e,f0,f1,f2,d⟩
def Inv.unpinned{pl:Q3}(I:Inv X (y3++pl) U H s):Inv X y3 U H s:=I.pins_of λp hp=>I.pin p (Bk _ (Da _ hp))
def cX5{iter:Expr}{wi:TI}{g:TG}{tb:TS}(hp:PassesOwn (model X.prog X.w) X.A X.env X.xe)(hc:X.calm=true)(hi:PI X tg iter wi)(hg:PG X tg g)(hb:PSs X body tb)(hs:∀x,foldedSetIterable iter X.env x=pure x:=by intro _;rfl):PS X (.For tg iter body [] pos) (dXK wi g tb):=by
 intro y3 s U H D I h;refine wpAny_For (thn (hi y3 s U H _ I h) λv s1 h1=>thn h1 λitv s2 h2=>?_) hs;obtain⟨it,fp,tn,J,H2,e,I2,T,st2,f2,W,⟨m0,w0⟩,turn⟩:=h2;subst e
 -- what stays true of the iterator's objects through the loop
 have stat:∀ {H':Hp},(∀b∈fp,H' b=none)->∀b∈fp,gA X y3 H' b:=λhn b hb=>⟨hn b hb,(f2 b hb).2⟩
 refine codeAny_forLoop_any (λn s'=>∃i U' H',Inv X y3 U' H' s'/\tn i s'.heap/\(∀b∈fp,H' b=none)/\W i n U' H') ?_ m0 ⟨0,U,H2,I2,st2,λb hb=>(f2 b hb).1,w0⟩;rintro n s3 ⟨i,U3,H3,I3,st3,fr3,w3⟩;rcases turn i n U3 H3 w3 with⟨stop,qn⟩|⟨go,N,hN,step⟩
 .refine Er hp (thn (T.done X rfl rfl rfl hc i y3 s3 U3 H3 X.xe I3 (stat fr3) st3 stop) λr s4 ⟨hr,I4⟩=>?_);subst hr;exact wpAny_execs_nil ⟨U3,H3,I4,qn⟩
 .refine Er hp (thn (T.item X rfl rfl rfl hc i y3 s3 U3 H3 X.xe I3 (stat fr3) st3 go) λr s4 ⟨u,hr,h4⟩=>?_);subst hr;refine Er hp (thn h4 λ_ s5 ⟨x,H5,I5,r5,y5,st5,fr5⟩=>?_);have I5':=I5.pinned (stat fr5) (T.obj _ _ st5)
  refine Er hp (thn (hg _ s5 U3 H5 x u _ I5' r5 (step x H5 y5)) λ_ s6 ⟨U6,H6,I6,q6⟩=>?_);refine Er hp (thn (hb _ s6 U6 H6 _ I6 q6) λf s7 q7=>?_);have again:∀ {U7:St} {H7:Hp},Inv X (y3++jX fp s5.heap) U7 H7 s7->N U7 H7->∃m,m<n/\∃i U' H',Inv X y3 U' H' s7/\tn i s7.heap/\(∀b∈fp,H' b=none)/\W i m U' H':=fun {U7 H7} I7 n7=>by
   obtain⟨m',hm,w7⟩:=hN U7 H7 n7;refine⟨m',hm,i+1,U7,H7,I7.unpinned,T.keep _ _ _ st5 λb hb o e=>(I7.pin (b,o) (Bk _ (Bk _ (eI hb e)))).1,λb hb=>?_,w7⟩;obtain⟨o,e,d⟩:=T.obj _ _ st5 b hb;exact(I7.pin (b,o) (Bk _ (Bk _ (eI hb e)))).2.1
  cases f with
  |next=>obtain⟨U7,H7,I7,n7⟩:=q7;exact again I7 n7
  |cont=>obtain⟨U7,H7,I7,n7⟩:=q7;exact again I7 n7
  |brk=>obtain⟨U7,H7,I7,q7⟩:=q7;exact⟨U7,H7,I7.unpinned,q7⟩
  |ret v=>obtain⟨x7,U7,H7,I7,r7,q7⟩:=q7;exact⟨x7,U7,H7,I7.unpinned,r7,q7⟩
def aZK{K:PySem.W.Frag}{g:TG}{tb:TS}{D:Ends}(Pv:Nat->St->Hp->Prop)(h0:Pv 0 U H)(hl:∀i U H,i<=xs.length->Pv i U H->SqL K H a xs)(hs:∀i x U H,xs[i]?=some x->Pv i U H->g x U H λU2 H2=>tb {D with nx:=Pv (i+1),ct:=Pv (i+1),bk:=D.nx} U2 H2)(hd:∀U H,Pv xs.length U H->D.nx U H):∃W:Nat->Nat->St->Hp->Prop,(∃m,W 0 m U H)/\∀i m U H,W i m U H->
 ((Itl K a).stop i H/\D.nx U H)\/((Itl K a).go i H/\∃N:St->Hp->Prop,(∀U' H',N U' H'->∃m',m' < m/\W (i+1) m' U' H')/\∀x H',(Itl K a).yld i H x H'->g x U H' λU2 H2=>tb {D with nx:=N,ct:=N,bk:=D.nx} U2 H2):=by
 refine⟨λi m U H=>m=xs.length-i/\i<=xs.length/\Pv i U H,⟨xs.length,by simp,Nat.zero_le _,h0⟩,?_⟩
 rintro i m U H ⟨rfl,hi,p⟩;have q:=hl i U H hi p
 by_cases hlt:i<xs.length
 .refine .inr ⟨⟨xs,xs[i],q,by simp[hlt]⟩,Pv (i+1),λU' H' p'=>⟨xs.length-(i+1),by omega,rfl,hlt,p'⟩,λx H' y=>?_⟩
  obtain⟨e,y⟩:=y;subst e;exact hs i x U _ (y xs q) p
 .have e:i=xs.length:=by omega
  subst e;exact .inl ⟨⟨xs,q,Ai _⟩,hd U H p⟩
def aQC{lo:Int}{g:TG}{tb:TS}{D:Ends}(Pv:Nat->St->Hp->Prop)(h0:Pv 0 U H)(hs:∀i U H,i<n->Pv i U H->g (.int (lo+i)) U H λU2 H2=>tb {D with nx:=Pv (i+1),ct:=Pv (i+1),bk:=D.nx} U2 H2)(hd:∀U H,Pv n U H->D.nx U H):∃W:Nat->Nat->St->Hp->Prop,(∃m,W 0 m U H)/\∀i m U H,W i m U H->
 ((Itr lo n).stop i H/\D.nx U H)\/((Itr lo n).go i H/\∃N:St->Hp->Prop,(∀U' H',N U' H'->∃m',m' < m/\W (i+1) m' U' H')/\∀x H',(Itr lo n).yld i H x H'->g x U H' λU2 H2=>tb {D with nx:=N,ct:=N,bk:=D.nx} U2 H2):=by
 refine⟨λi m U H=>m=n-i/\i<=n/\Pv i U H,⟨n,by simp,Nat.zero_le _,h0⟩,?_⟩
 rintro i m U H ⟨rfl,hi,p⟩;by_cases hlt:i<n
 .refine .inr ⟨hlt,Pv (i+1),λU' H' p'=>⟨n-(i+1),by omega,rfl,hlt,p'⟩,λx H' y=>?_⟩
  obtain⟨e,y⟩:=y;subst e y;exact hs i U _ hlt p
 .have e:i=n:=by omega
  subst e;exact .inl ⟨Ai _,hd U H p⟩
abbrev R2:=V->V->Hp->VK->Prop
def OpR(X:Cx)(f:Value->Value->Sem Value)(r:R2):Prop:=
 ∀(y3:Q3) (s:Shared) (U:St) (H:Hp) (x y:V) (v u:Value) (Q:VK),Inv X y3 U H s->RelV x v->RelV y u->r x y H Q->
  wpAny (model X.prog X.w) X.A (f v u) (EP X y3 U Q) X.xe s
def UnR(X:Cx)(f:Value->Sem Value)(r:V->Hp->VK->Prop):Prop:=
 ∀(y3:Q3) (s:Shared) (U:St) (H:Hp) (x:V) (v:Value) (Q:VK),Inv X y3 U H s->RelV x v->r x H Q->
  wpAny (model X.prog X.w) X.A (f v) (EP X y3 U Q) X.xe s
def CallR(X:Cx)(f:Value)(r:List V->Hp->VK->Prop):Prop:=
 ∀(y3:Q3) (s:Shared) (U:St) (H:Hp) (xs:List V) (us:List Value) (Q:VK),Inv X y3 U H s->Vals xs us->r xs H Q->
  wpAny (model X.prog X.w) X.A (call f us) (EP X y3 U Q) X.xe s
def dXM(X:Cx)(r:V->Hp->(Bool->Hp->Prop)->Prop):Prop:=
 ∀(y3:Q3) (s:Shared) (U:St) (H:Hp) (x:V) (v:Value) (Q:Bool->Hp->Prop),Inv X y3 U H s->RelV x v->r x H Q->
  wpAny (model X.prog X.w) X.A (truthy v) (TP X y3 U Q) X.xe s
def tOp(r:R2)(ta tb:TE):TE:=λU H Q=>ta U H λx H1=>tb U H1 λy H2=>r x y H2 Q
def tUn(r:V->Hp->VK->Prop)(ta:TE):TE:=λU H Q=>ta U H λx H1=>r x H1 Q
def rI(C:Int->Int->Prop)(g:Int->Int->V):R2:=λx y H Q=>∃i j,x=.int i/\y=.int j/\C i j/\Q (g i j) H
def rI0(g:Int->Int->V):R2:=λx y H Q=>∃i j,x=.int i/\y=.int j/\Q (g i j) H
def rU(g:Int->V):V->Hp->VK->Prop:=λx H Q=>∃i,x=.int i/\Q (g i) H
section
variable {a b:Expr}
def cZE(ha:PE X a ta)(hb:PE X b tb){R:V->V->Hp->Prop}(I:Inv X y3 U H s)(h:ta U H λx H1=>tb U H1 λy H2=>R x y H2){Q:Q2}(hf:∀v u s2 x y H2,Inv X y3 U H2 s2->RelV x v->RelV y u->R x y H2->wpAny (model X.prog X.w) X.A (f v u) Q X.xe s2):wpAny (model X.prog X.w) X.A (eval a X.env) (λv s₁=>wpAny (model X.prog X.w) X.A (eval b X.env) (λu s₂=>wpAny (model X.prog X.w) X.A (f v u) Q X.xe s₂) X.xe s₁) X.xe s:=by
 refine thn (ha y3 s U H _ I h) λv s1 ⟨x,H1,I1,r1,q1⟩=>?_;refine thn (hb y3 s1 U H1 _ I1 q1) λu s2 ⟨y,H2,I2,r2,q2⟩=>?_;exact hf v u s2 x y H2 I2 r1 r2 q2
def aS{op:Operator}{r:R2}(ho:OpR X (binaryOp op) r)(ha:PE X a ta)(hb:PE X b tb):PE X (.BinOp a op b pos) (tOp r ta tb):=by
 intro y3 s U H Q I h;exact wpAny_BinOp (cZE ha hb I h λv u s2 x y H2 I2 rx ry q=>ho y3 s2 U H2 x y v u Q I2 rx ry q)
def cJL{op:UnaryOp}{r:V->Hp->VK->Prop}(ho:UnR X (unaryOp op) r)(ha:PE X a ta):PE X (.UnaryOp op a pos) (tUn r ta):=by
 intro y3 s U H Q I h;exact UnaryOp_ (thn (ha y3 s U H _ I h) λv s1 ⟨x,H1,I1,r1,q1⟩=>ho y3 s1 U H1 x v Q I1 r1 q1)
def opI{C:Int->Int->Prop}{g:Int->Int->Int}(rule:∀(i j:Int) (t u:Tok) (s:Shared) (Q:Q2) (E:Q2),C i j->Q (.int (g i j) s.toks) {s with toks:=s.toks+1}->wpAny (model X.prog X.w) X.A (f (.int i t) (.int j u)) Q E s):OpR X f (rI C λi j=>.int (g i j)):=by
 intro y3 s U H x y v u Q I rx ry h;obtain⟨i,j,rfl,rfl,hc,q⟩:=h;obtain⟨t,rfl⟩:=rx;obtain⟨t',rfl⟩:=ry;exact rule i j t t' s _ _ hc ⟨.int (g i j),H,I.tok _,⟨_,rfl⟩,q⟩
def cJJ{g:Int->Int->Int}(rule:∀(i j:Int) (t u:Tok) (s:Shared) (Q:Q2) (E:Q2),Q (.int (g i j) s.toks) {s with toks:=s.toks+1}->wpAny (model X.prog X.w) X.A (f (.int i t) (.int j u)) Q E s):OpR X f (rI0 λi j=>.int (g i j)):=by
 intro y3 s U H x y v u Q I rx ry h;obtain⟨i,j,rfl,rfl,q⟩:=h;obtain⟨t,rfl⟩:=rx;obtain⟨t',rfl⟩:=ry;exact rule i j t t' s _ _ ⟨.int (g i j),H,I.tok _,⟨_,rfl⟩,q⟩
def cZ4{g:Int->Int->Bool}(rule:∀(i j:Int) (t u:Tok) (s:Shared) (Q:Q2) (E:Q2),Q (.bool (g i j)) s->wpAny (model X.prog X.w) X.A (f (.int i t) (.int j u)) Q E s):OpR X f (rI0 λi j=>.bl (g i j)):=by
 intro y3 s U H x y v u Q I rx ry h;obtain⟨i,j,rfl,rfl,q⟩:=h;obtain⟨t,rfl⟩:=rx;obtain⟨t',rfl⟩:=ry;exact rule i j t t' s _ _ ⟨.bl (g i j),H,I,rfl,q⟩
def cZO(i j:Int):Prop:=0<j/\j<1073741824
def CMul(i j:Int):Prop:=(-(2^64)<i/\i<2^64)\/(-(2^64)<j/\j<2^64)
def CMul.ok{i j:Int}(h:CMul i j):IntMulOk i j:=by
 rcases h with⟨h1,h2⟩|⟨h1,h2⟩
 .exact .of_left (intBits_le_64 h1 h2)
 .exact .of_right (intBits_le_64 h1 h2)
def bJ6:OpR X (binaryOp .Add) (rI0 λi j=>.int (i+j)):=cJJ λ_ _ _ _ _ _ _ q=>add_int q
def op_sub:OpR X (binaryOp .Sub) (rI0 λi j=>.int (i-j)):=cJJ λ_ _ _ _ _ _ _ q=>sub_int q
def op_mul:OpR X (binaryOp .Mult) (rI CMul λi j=>.int (i*j)):=opI λ_ _ _ _ _ _ _ hc q=>mul_int q hc.ok
def op_fdiv:OpR X (binaryOp .FloorDiv) (rI cZO λi j=>.int (i / j)):=opI λi j _ _ _ _ _ hc q=>by
 have h1:(0:Int)<j:=hc.1
 have h2:j<1073741824:=hc.2
 exact floordiv_int (by omega) (by rw[Int.fdiv_eq_ediv_of_nonneg i (by omega)];exact q) (.inl (PyProof.noPylong_small (by omega)))
def op_mod:OpR X (binaryOp .Mod) (rI (λ_ j=>0<j) λi j=>.int (i%j)):=opI λi j _ _ _ _ _ hc q=>by
 have h1:(0:Int)<j:=hc
 exact mod_int' (by omega) (by rw[Int.fmod_eq_emod_of_nonneg i (by omega)];exact q)
def unI{f:Value->Sem Value}{g:Int->Int}(rule:∀(i:Int) (t:Tok) (s:Shared) (Q:Q2) (E:Q2),Q (.int (g i) s.toks) {s with toks:=s.toks+1}->wpAny (model X.prog X.w) X.A (f (.int i t)) Q E s):UnR X f (rU λi=>.int (g i)):=by
 intro y3 s U H x v Q I rx h;obtain⟨i,rfl,q⟩:=h;obtain⟨t,rfl⟩:=rx;exact rule i t s _ _ ⟨.int (g i),H,I.tok _,⟨_,rfl⟩,q⟩
def bJX:UnR X (unaryOp .USub) (rU λi=>.int (-i)):=unI λ_ _ _ _ _ q=>neg_int q
end
def bQB:V->V->Bool
 |.non,.non=>true|.non,.int _=>true|.int _,.non=>true|.non,.bl _=>true|.bl _,.non=>true|.non,.str _=>true|.str _,.non=>true
 |.int _,.int _=>true|.bl _,.bl _=>true|.str _,.str _=>true|.byt _,.byt _=>true
 |.int _,.str _=>true|.str _,.int _=>true|.bl _,.str _=>true|.str _,.bl _=>true
 |_,_=>false
def rEq:R2:=λx y H Q=>bQB x y=true/\Q (.bl (decide (x=y))) H
def rNe:R2:=λx y H Q=>bQB x y=true/\Q (.bl (!decide (x=y))) H
def wI{i j:Int}:decide (V.int i=V.int j)=(i==j):=by
 rw[Bool.eq_iff_iff];simp
def aX2{i j:Bool}:decide (V.bl i=V.bl j)=(i==j):=by
 rw[Bool.eq_iff_iff];simp
def pC{i j:Str}:decide (V.str i=V.str j)=(i==j):=by
 rw[Bool.eq_iff_iff];simp
def wU{i j:Array UInt8}:decide (V.byt i=V.byt j)=(i.toList==j.toList):=by
 rw[Bool.eq_iff_iff];cases i;cases j;simp
section
variable {a b:Expr}
def aX{Q:VK}{k k':Bool}(I:Inv X y3 U H s)(q:Q (.bl k) H)(e:k=k'):EP X y3 U Q (.bool k') s:=by
 subst e;exact⟨.bl k,H,I,rfl,q⟩
def cJ6:OpR X (compareOp .Eq) rEq:=by
 intro y3 s U H x y v u Q I rx ry h;obtain⟨hs,q⟩:=h;cases x with
 |non=>
  cases rx;cases y with
  |non=>cases ry;exact PySem.EqNone.eq_none_none (aX I q (by simp))
  |bl j=>cases ry;exact PySem.EqNone.eq_none_bool (aX I q (by simp))
  |int j=>obtain⟨t',rfl⟩:=ry;exact PySem.EqNone.eq_none_int (aX I q (by simp))
  |str j=>obtain⟨t',rfl⟩:=ry;exact PySem.EqNone.eq_none_str (aX I q (by simp))
  |_=>exact absurd (show false=true from hs) An
 |bl i=>
  cases rx;cases y with
  |non=>cases ry;exact PySem.EqNone.eq_bool_none (aX I q (by simp))
  |bl j=>cases ry;exact eq_bool (aX I q aX2)
  |str j=>obtain⟨t',rfl⟩:=ry;exact PySem.EqMixed.eq_bool_str (aX I q (by simp))
  |_=>exact absurd (show false=true from hs) An
 |int i=>
  obtain⟨t,rfl⟩:=rx;cases y with
  |non=>cases ry;exact PySem.EqNone.eq_int_none (aX I q (by simp))
  |int j=>obtain⟨t',rfl⟩:=ry;exact eq_int (aX I q wI)
  |str j=>obtain⟨t',rfl⟩:=ry;exact PySem.EqMixed.eq_int_str (aX I q (by simp))
  |_=>exact absurd (show false=true from hs) An
 |str i=>
  obtain⟨t,rfl⟩:=rx;cases y with
  |non=>cases ry;exact PySem.EqNone.eq_str_none (aX I q (by simp))
  |bl j=>cases ry;exact PySem.EqMixed.eq_str_bool (aX I q (by simp))
  |int j=>obtain⟨t',rfl⟩:=ry;exact PySem.EqMixed.eq_str_int (aX I q (by simp))
  |str j=>obtain⟨t',rfl⟩:=ry;exact eq_str (aX I q pC)
  |_=>exact absurd (show false=true from hs) An
 |byt i=>
  obtain⟨t,rfl⟩:=rx;cases y with
  |byt j=>obtain⟨t',rfl⟩:=ry;exact W.eq_bytes (aX I q wU)
  |_=>exact absurd (show false=true from hs) An
 |_=>cases y<;>exact absurd (show false=true from hs) An
def dQK:OpR X (compareOp .NotEq) rNe:=by
 intro y3 s U H x y v u Q I rx ry h;obtain⟨hs,q⟩:=h;cases x with
 |non=>
  cases rx;cases y with
  |non=>cases ry;exact PySem.EqNone.ne_none_none (aX I q (by simp))
  |bl j=>cases ry;exact PySem.EqNone.ne_none_bool (aX I q (by simp))
  |int j=>obtain⟨t',rfl⟩:=ry;exact PySem.EqNone.ne_none_int (aX I q (by simp))
  |str j=>obtain⟨t',rfl⟩:=ry;exact PySem.EqNone.ne_none_str (aX I q (by simp))
  |_=>exact absurd (show false=true from hs) An
 |bl i=>
  cases rx;cases y with
  |non=>cases ry;exact PySem.EqNone.ne_bool_none (aX I q (by simp))
  |bl j=>cases ry;exact ne_bool (aX I q (Cy not aX2))
  |str j=>obtain⟨t',rfl⟩:=ry;exact PySem.EqMixed.ne_bool_str (aX I q (by simp))
  |_=>exact absurd (show false=true from hs) An
 |int i=>
  obtain⟨t,rfl⟩:=rx;cases y with
  |non=>cases ry;exact PySem.EqNone.ne_int_none (aX I q (by simp))
  |int j=>obtain⟨t',rfl⟩:=ry;exact ne_int (aX I q (Cy not wI))
  |str j=>obtain⟨t',rfl⟩:=ry;exact PySem.EqMixed.ne_int_str (aX I q (by simp))
  |_=>exact absurd (show false=true from hs) An
 |str i=>
  obtain⟨t,rfl⟩:=rx;cases y with
  |non=>cases ry;exact PySem.EqNone.ne_str_none (aX I q (by simp))
  |bl j=>cases ry;exact PySem.EqMixed.ne_str_bool (aX I q (by simp))
  |int j=>obtain⟨t',rfl⟩:=ry;exact PySem.EqMixed.ne_str_int (aX I q (by simp))
  |str j=>obtain⟨t',rfl⟩:=ry;exact ne_str (aX I q (Cy not pC))
  |_=>exact absurd (show false=true from hs) An
 |byt i=>
  obtain⟨t,rfl⟩:=rx;cases y with
  |byt j=>obtain⟨t',rfl⟩:=ry;exact W.ne_bytes (aX I q (Cy not wU))
  |_=>exact absurd (show false=true from hs) An
 |_=>cases y<;>exact absurd (show false=true from hs) An
def op_lt:OpR X (compareOp .Lt) (rI0 λi j=>.bl (decide (i<j))):=cZ4 λ_ _ _ _ _ _ _ q=>lt_int q
def op_gt:OpR X (compareOp .Gt) (rI0 λi j=>.bl (decide (j<i))):=cZ4 λ_ _ _ _ _ _ _ q=>gt_int q
def op_notN:OpR X (compareOp .IsNot) (λx y H Q=>y=.non/\Q (.bl (!decide (x=.non))) H):=by
 intro y3 s U H x y v u Q I rx ry h;obtain⟨rfl,q⟩:=h;cases ry;refine isnot_none_gen (aX I q ?_);cases x<;>first
  |(cases rx;rfl)
  |(obtain⟨t,rfl⟩:=rx;rfl)
def bR(b:Expr){op:CmpOp}(h:op≠.In:=by decide)(h2:op≠.NotIn:=by decide):behindInMarks op b=false:=by
 have e1:(op==CmpOp.In)=false:=by cases op<;>first|rfl|exact absurd rfl h
 have e2:(op==CmpOp.NotIn)=false:=by cases op<;>first|rfl|exact absurd rfl h2
 cases b<;>simp[behindInMarks,e1,e2]
def xN{op:CmpOp}{r:R2}(ho:OpR X (compareOp op) r)(ha:PE X a ta)(hb:PE X b tb)(hm:behindInMarks op b=false):PE X (.Compare a [op] [b] pos) (tOp r ta tb):=by
 intro y3 s U H Q I h;exact wpAny_Compare1 (cZE ha hb I h λv u s2 x y H2 I2 rx ry q=>ho y3 s2 U H2 x y v u Q I2 rx ry q) hm
def cJX(K:W.Frag)(x:V)(H:Hp)(k:Bool):Prop:=
 match x with
 |.non=>k=false
 |.bl b=>k=b
 |.int i=>k=(i != 0)
 |.str y=>y.length<=sizeLine/\k=((y.length:Int) != 0)
 |.byt y=>y.size<=sizeLine/\k=((y.size:Int) != 0)
 |.ref p=>(∃xs,SqL K H p xs/\k=!xs.isEmpty)\/(∃xs,SqT K H p xs/\k=!xs.isEmpty)\/∃kvs,H p=some (.dK kvs)/\k=!kvs.isEmpty
 |_=>False
def vA{κ:Type}{kvs:List (κ×V)}{vs:List (κ×Value)}(r:KV kvs vs):(!vs.isEmpty)=!kvs.isEmpty:=by
 cases r<;>rfl
def mE{its:List Value}(r:Vals xs its):(!its.toArray.isEmpty)=!xs.isEmpty:=by
 cases r<;>simp
def jW:(sizeLine:Nat)<2^63:=by rw[sizeLine_eq];decide
def cXN:dXM X (λx H Q=>∃k,cJX X.K x H k/\Q k H):=by
 intro y3 s U H x v Q I rx h;obtain⟨k,e,q⟩:=h;have hl:=jW
 have hs:sizeLine=16777216:=sizeLine_eq
 cases x with
 |non=>
  cases rx;have e':k=false:=e
  subst e';exact truthy_none ⟨H,I,q⟩
 |bl b=>
  cases rx;have e':k=b:=e
  subst e';exact Fp ⟨H,I,q⟩
 |int i=>
  obtain⟨t,rfl⟩:=rx;have e':k=(i != 0):=e
  subst e';exact PySem.P.truthy_int ⟨H,I,q⟩
 |str y=>
  obtain⟨t,rfl⟩:=rx;obtain⟨hy,e'⟩:y.length<=sizeLine/\k=((y.length:Int) != 0):=e;subst e';exact PySem.P.truthy_str (by omega) ⟨H,I.tok _,q⟩
 |byt y=>
  obtain⟨t,rfl⟩:=rx;obtain⟨hy,e'⟩:y.size<=sizeLine/\k=((y.size:Int) != 0):=e;subst e';exact W.truthy_bytes (by omega) ⟨H,I.tok _,q⟩
 |ref p=>
  cases rx;have e':(∃xs,SqL X.K H p xs/\k=!xs.isEmpty)\/(∃xs,SqT X.K H p xs/\k=!xs.isEmpty)\/∃kvs,H p=some (.dK kvs)/\k=!kvs.isEmpty:=e
  rcases e' with⟨xs,hx,e'⟩|⟨xs,hx,e'⟩|⟨kvs,hx,e'⟩
  .subst e';obtain⟨its,r,pl,hz⟩:=I.list hx;have hlen:=r.length
   exact wpAny_truthy_list pl.isList (by simp only[List.size_toArray];omega) ⟨H,I.tok _,by rw[mE r];exact q⟩
  .subst e';obtain⟨its,r,pl,hz⟩:=I.tuple hx;have hlen:=r.length
   exact truthy_tuple pl (by simp only[List.size_toArray];omega) ⟨H,I.tok _,by rw[mE r];exact q⟩
  .subst e';obtain⟨hz,hS,vs,r,m⟩:kvs.length<=sizeLine/\(p==sysModules)=false/\∃vs,KV kvs vs/\s.heap.DictOf (aR X.prog X.w) p vs:=I.hok p _ hx;have hlen:kvs.length=vs.length:=Paired.length r
   exact wpAny_truthy_dict hS m (by omega) ⟨H,I.tok _,by rw[vA r];exact q⟩
 |_=>exact(show False from e).elim
def uQ:OpR X (binaryOp .Add) (λx y H Q=>∃i j,x=.str i/\y=.str j/\i.length+j.length<=sizeLine/\Q (.str (i++j)) H):=by
 intro y3 s U H x y v u Q I rx ry h;obtain⟨i,j,rfl,rfl,hz,q⟩:=h;obtain⟨t,rfl⟩:=rx;obtain⟨t',rfl⟩:=ry;exact add_str (λt' tk=>⟨.str (i++j),H,I.tok _,⟨_,rfl⟩,q⟩) hz
def dM{x:V}(r:Vals [x] us):∃u,us=[u]/\RelV x u:=by
 cases r with
 |cons r1 r2=>cases r2;exact⟨_,rfl,r1⟩
def kD{x y:V}(r:Vals [x,y] us):∃u w',us=[u,w']/\RelV x u/\RelV y w':=by
 cases r with
 |cons r1 r2=>
  cases r2 with
  |cons r3 r4=>cases r4;exact⟨_,_,rfl,r1,r3⟩
def aQT(hc:X.calm=true):CallR X (.builtin "min") (λxs H Q=>∃i j,xs=[.int i,.int j]/\Q (.int (if j<i then j else i)) H):=by
 intro y3 s U H xs us Q I r h;obtain⟨i,j,rfl,q⟩:=h;obtain⟨u,w',rfl,⟨t,rfl⟩,⟨t',rfl⟩⟩:=kD r;obtain⟨ch,hh,hcn,_⟩:=I.soft hc;refine aXB hh hcn λh' tk k=>⟨_,H,I.kept k,?_,q⟩;by_cases hj:j<i
 .rw[if_pos hj,if_pos hj];exact⟨_,rfl⟩
 .rw[if_neg hj,if_neg hj];exact⟨_,rfl⟩
def call_int1:CallR X (.type "int") (λxs H Q=>(∃i,xs=[.int i]/\Q (.int i) H)\/∃k,xs=[.bl k]/\Q (.int (if k then 1 else 0)) H):=by
 intro y3 s U H xs us Q I r h;rcases h with⟨i,rfl,q⟩|⟨k,rfl,q⟩
 .obtain⟨u,rfl,t,rfl⟩:=dM r;exact call_int_int ⟨.int i,H,I,⟨_,rfl⟩,q⟩
 .obtain⟨u,rfl,r1⟩:=dM r;cases r1;exact call_int_bool ⟨.int (if k then 1 else 0),H,I.tok _,⟨_,rfl⟩,q⟩
def call_str_int:CallR X (.type "str") (λxs H Q=>∃i,xs=[.int i]/\i.natAbs.log2<1920/\Q (.str (toString i)) H):=by
 intro y3 s U H xs us Q I r h;obtain⟨i,rfl,hz,q⟩:=h;obtain⟨u,rfl,t,rfl⟩:=dM r;exact PySem.P.str_of_int hz ⟨.str _,H,I.tok _,⟨_,rfl⟩,q⟩
def dXE(K:W.Frag)(x:V)(H:Hp)(n:Nat):Prop:=
 match x with
 |.str y=>y.length<=sizeLine/\n=y.length
 |.byt y=>y.size<=sizeLine/\n=y.size
 |.ref p=>(∃xs,SqL K H p xs/\n=xs.length)\/∃xs,SqT K H p xs/\n=xs.length
 |_=>False
def call_len:CallR X (.builtin "len") (λxs H Q=>∃x n,xs=[x]/\dXE X.K x H n/\Q (.int n) H):=by
 intro y3 s U H xs us Q I r h;obtain⟨x,n,rfl,e,q⟩:=h;obtain⟨u,rfl,rx⟩:=dM r;have hl:=jW
 have hs:sizeLine=16777216:=sizeLine_eq
 cases x with
 |str y=>
  obtain⟨t,rfl⟩:=rx;obtain⟨hy,e'⟩:y.length<=sizeLine/\n=y.length:=e;subst e';exact len_str (by omega) ⟨.int _,H,I.tok _,⟨_,rfl⟩,q⟩
 |byt y=>
  obtain⟨t,rfl⟩:=rx;obtain⟨hy,e'⟩:y.size<=sizeLine/\n=y.size:=e;subst e';exact W.len_bytes (by omega) ⟨.int _,H,I.tok _,⟨_,rfl⟩,q⟩
 |ref p=>
  cases rx;have e':(∃xs,SqL X.K H p xs/\n=xs.length)\/∃xs,SqT X.K H p xs/\n=xs.length:=e
  rcases e' with⟨xs,hx,e'⟩|⟨xs,hx,e'⟩
  .subst e';obtain⟨its,r',pl,hz⟩:=I.list hx;have hlen:=r'.length
   exact Calls.call_len_list pl.isList (by simp only[List.size_toArray];omega) ⟨.int xs.length,H,I.tok _,⟨_,by simp only[List.size_toArray];rw[hlen]⟩,q⟩
  .subst e';obtain⟨its,r',pl,hz⟩:=I.tuple hx;have hlen:=r'.length
   exact len_tuple pl (by simp only[List.size_toArray];omega) ⟨.int xs.length,H,I.tok _,⟨_,by simp only[List.size_toArray];rw[hlen]⟩,q⟩
 |_=>exact(show False from e).elim
end
structure ObjM (h:Heap) (x dx C:Addr) (mA:Str->Option Value):Prop where
 obj:h.get? x=some (W.instObj C dx)
 ns:h.Ns1 dx mA
 ne:dx≠x
def oR{dx:Addr}{mA:Q4}(n:h.Ns1 dx mA):∃od,h.get? dx=some od/\∀name,W.lookIn name od=some (mA name):=by
 obtain⟨o,es,ep,ho,hd,hk,_,hm⟩:=n;refine⟨o,ho,λname=>?_⟩;have e:=hm name
 unfold nsFind findBy at e;rw[<-Array.find?_toList]at e;unfold W.lookIn;rw[hd];dsimp only;split
 .rename_i y q
  rw[q]at e;exact Cy some e
 .rename_i q
  rw[q]at e;have a:es.toList.any (·.refKey)=false:=by
   rw[List.any_eq_false];intro y hy;obtain⟨z,t,hkey⟩:=hk y (Ew.mp hy);simp[DictEntry.refKey,hkey]
  have a':¬es.toList.any (·.refKey)=true:=by rw[a];exact An
  rw[if_neg a'];exact Cy some e
def ObjM.look{x dx:Addr}{mA:Q4}(I:ObjM h x dx C mA):∃od,W.InstAt h x (W.instObj C dx) C (some od)/\∀name,W.lookIn name od=some (mA name):=
 let ⟨od,ho,hl⟩:=oR I.ns
 ⟨od,⟨I.obj,rfl,rfl,ho⟩,hl⟩
def RelO.some_of{v:V}{o:Option Value}(r:RelO (some v) o):∃u,o=some u/\RelV v u:=by
 cases o with
 |none=>exact(show False from r).elim
 |some u=>exact⟨u,rfl,r⟩
section
variable {dx:Addr} {fs:List (Str×V)}
def bQO(hok:HOk P w H h)(e:H a=some (.ins C dx fs)):∃mA,ObjM h a dx C mA/\(∀f,RelO (fs.lookup f) (mA f))/\PySem.Within mA (fs.map (·.1))/\fs.length<=1000/\H dx=some (.own a):=by
 obtain⟨d,z,ne,ob,mA,n,r,q⟩:=(show ObjOk P w H h a (.ins C dx fs) from hok a _ e);exact⟨mA,⟨ob,n,ne⟩,r,q,z,d⟩
end
structure Cls (K:W.Frag) (C:Addr):Prop where
 pg:W.plainGet K C Str.empty=true
 hd:W.hasDictIn K C=true
 po:W.plainOver K C=true
 sa:W.findIn K (.ref C) "__setattr__"=some (some (.builtin "object.__setattr__"))
def Cls.get(c:Cls K C)(f:Str):W.plainGet K C f=true:=c.pg
section
variable {f:Str}
def bQ0{prog:Program}{env:Env}{f:Str}{Q:Q2}(hb:attributeBase e f env (eval e env)=eval e env)(h:wpAny (model prog w) A (eval e env) (λo s₁=>wpAny (model prog w) A (getAttr o f true) Q E s₁) E s):wpAny (model prog w) A (eval (.Attribute e f pos) env) Q E s:=
 Attribute_any_ h (by rw[arm_eval_Attribute,hb])
end
section
variable {Q:Q2} {c:Value} {b:Bool}
inductive TyOf (K:W.Frag) (H:Hp):V->Value->Prop where
 |non:TyOf K H .non (.type "NoneType")
 |bl (x:Bool):TyOf K H (.bl x) (.type "bool")
 |int (i:Int):TyOf K H (.int i) (.type "int")
 |str (x:Str):TyOf K H (.str x) (.type "str")
 |flt (x:UInt64):TyOf K H (.flt x) (.type "float")
 |lst {a:Addr} {xs:List V} (e:H a=some (.lst xs)):TyOf K H (.ref a) (.type "list")
 |frz {a:Addr} {o:Obj} {xs:List V} (e:H a=some (.frz o (.lst xs))):TyOf K H (.ref a) (.type "list")
 |tup {a:Addr} {xs:List V} (e:H a=some (.tup xs)):TyOf K H (.ref a) (.type "tuple")
 |dK {a:Addr} {kvs:List (Key×V)} (e:H a=some (.dK kvs)):TyOf K H (.ref a) (.type "dict")
 |dT {a:Addr} {kvs:List (List Key×V)} (e:H a=some (.dT kvs)):TyOf K H (.ref a) (.type "dict")
 | ins {a C dx:Addr} {fs:List (Str×V)} (e:H a=some (.ins C dx fs)) (cl:Cls K C) (ha:W.findIn K (.ref C) "__class__"=some (some (.builtin "object.__class__")))
     (hn:W.specialIn K (.builtin "object.__class__") "__get__"=some (some (.builtin "getset_descriptor.__get__"))) (htk:W.takesIn K (.builtin "object.__class__")=some true)
     (hm:W.mroIn K C (.type "object")=some true):TyOf K H (.ref a) (.ref C)
def aQU{x:V}{t:Value}(I:Inv X y3 U H s)(rx:RelV x u)(ty:TyOf X.K H x t)(e:W.kitOne X.K t c=some b)(h:∀tk,Q (.bool b) {s with toks:=tk}):wpAny (model X.prog X.w) A (call (.builtin "isinstance") [u,c]) Q E s:=by
 cases ty with
 |non=>cases (show u=Value.none from rx);exact Cw W.kitx_none I.kIn True.intro e (λz=>nomatch z) h
 |bl y=>cases (show u=Value.bool y from rx);exact Cw W.kitx_bool I.kIn True.intro e (λz=>nomatch z) h
 |int i=>obtain⟨t,q⟩:=(show ∃t,u=Value.int i t from rx);cases q;exact Cw W.kitx_int I.kIn True.intro e (λz=>nomatch z) h
 |str y=>obtain⟨t,q⟩:=(show ∃t,u=Value.str y t from rx);cases q;exact Cw W.kitx_str I.kIn True.intro e (λz=>nomatch z) h
 |flt y=>obtain⟨t,q⟩:=(show ∃t,u=Value.float y t from rx);cases q;exact Cw W.kitx_float I.kIn True.intro e (λz=>nomatch z) h
 | @lst a xs ea=>
  cases (show u=Value.ref a from rx);obtain⟨_,_,n,_,h1⟩:=(show ObjOk X.prog X.w H s.heap a (.lst xs) from I.hok a _ ea);exact Cw W.kitx_list I.kIn ⟨_,h1,rfl⟩ e (λz=>nomatch z) h
 | @frz a ob xs ea=>
  cases (show u=Value.ref a from rx);obtain⟨_,_,_,n,_,h1⟩:=(show ObjOk X.prog X.w H s.heap a (.frz ob (.lst xs)) from I.hok a _ ea);exact Cw W.kitx_list I.kIn ⟨_,h1,rfl⟩ e (λz=>nomatch z) h
 | @tup a xs ea=>
  cases (show u=Value.ref a from rx);obtain⟨_,_,_,p⟩:=(show ObjOk X.prog X.w H s.heap a (.tup xs) from I.hok a _ ea);obtain⟨o,h1,h2,_⟩:=p;exact Cw W.kitx_tuple I.kIn ⟨o,h1,h2⟩ e (λz=>nomatch z) h
 | @dK a kvs ea=>
  cases (show u=Value.ref a from rx);obtain⟨_,_,vs,_,p⟩:=(show ObjOk X.prog X.w H s.heap a (.dK kvs) from I.hok a _ ea);obtain⟨o,es,ep,h1,h2,_⟩:=p;exact Cw W.kitx_dict I.kIn ⟨o,h1,h2.1⟩ e (λz=>nomatch z) h
 | @dT a kvs ea=>
  cases (show u=Value.ref a from rx);obtain⟨_,_,xs,_,o,es,ep,h1,h2,_⟩:=(show ObjOk X.prog X.w H s.heap a (.dT kvs) from I.hok a _ ea);exact Cw W.kitx_dict I.kIn ⟨o,h1,h2.1⟩ e (λz=>nomatch z) h
 | @ins a C dx fs ea cl ha hn htk hm=>
  cases (show u=Value.ref a from rx);obtain⟨mA,O,_⟩:=bQO I.hok ea;obtain⟨od,J,_⟩:=O.look;exact Cw (W.kitx_own (cl.get _) cl.hd ha hn htk hm) I.kIn J e (λz=>nomatch z) h
end
structure Room (k:Nat) (A:Around):Prop where
 dp:A.depth+3*k+5<recursionLimit
 un:A.units+16*k+200<cLine
def Room.mono{j:Nat}(r:Room k A)(h:j<=k):Room j A:=⟨by have:=r.dp;omega,by have:=r.un;omega⟩
def Room.deeper(r:Room (k+1) A)(env:Env):Room k (A.deeper env):=
 ⟨by have:=r.dp;show A.depth+1+3*k+5<_;omega,by have:=r.un;show A.units+3+16*k+200<_;omega⟩
def uF{kw:List (Str×Value)}:(A.under (.builtin "type.__call__" ⟨.ref C::us,kw⟩)).depth=A.depth+1:=by
 first|rfl|simp[Around.under,Code.weight,Code.isCreation,Code.isGuard,Code.isCaller,Code.frames,Code.isFrame,guardIds]
def vT{kw:List (Str×Value)}:(A.under (.builtin "type.__call__" ⟨.ref C::us,kw⟩)).units=A.units+1:=by
 first|rfl|simp[Around.under,Code.cUnits,Code.frames,Code.isFrame]
def Room.make(r:Room (k+1) A)(C:Addr)(us:List Value)(kw:List (Str×Value)):Room k (A.under (.builtin "type.__call__" ⟨.ref C::us,kw⟩)):=
 ⟨by have:=r.dp;rw[uF];omega,by have:=r.un;rw[vT];omega⟩
def Room.depth(r:Room k A):A.depth<recursionLimit:=by have:=r.dp;omega
def Room.units(r:Room k A):A.units+64<cLine:=by have:=r.un;omega
def Room.units0(r:Room k A):A.units<cLine:=by have:=r.un;omega
def bQU:TA:=λ_ H Q=>Q [] H
def bJD(ta:TE)(tr:TA):TA:=λU H Q=>ta U H λx H1=>tr U H1 λxs H2=>Q (x::xs) H2
section
variable {X:Cx} {e:Expr} {es:List Expr} {te:TE} {t:TA} {pos:Pos}
def aE:PA X [] bQU:=λ_ _ _ _ H Q I h=>Calls.spliced_nil ⟨[],H,I,.nil,h⟩
def aA(ha:PE X e te)(hr:PA X es t)(hs:starEach (e::es) X.env=(false,eval e X.env)::starEach es X.env:=by rfl):PA X (e::es) (bJD te t):=by
 intro pos y3 s U H Q I h;rw[hs];show wpAny _ _ (spliced ((false,eval e X.env)::backTo pos (starEach es X.env))) _ _ s
 refine Calls.spliced_cons (thn (ha y3 s U H _ I h) λu s1 ⟨x,H1,I1,r1,q1⟩=>?_);exact thn (hr pos y3 s1 U H1 _ I1 q1) λus s2 ⟨xs,H2,I2,r2,q2⟩=>⟨x::xs,H2,I2,.cons r1 r2,q2⟩
def dQZ(t:TA):TE:=λU H Q=>t U H λxs H1=>xs.length<=sizeLine/\∀p,H1 p=none->Q (.ref p) (upd H1 p (.tup xs))
def cJF(t:TA):TE:=λU H Q=>t U H λxs H1=>xs.length<=sizeLine/\∀p,H1 p=none->Q (.ref p) (upd H1 p (.lst xs))
def cXX{x1}(h:PA X es t):PE X (.Tuple es x1 pos) (dQZ t):=by
 intro y3 s U H Q I hq;refine wpAny_Tuple_spliced (thn (h pos y3 s U H _ I hq) λus s1 ⟨xs,H1,I1,r,z,q⟩=>⟨by rw[<-r.length];exact z,?_⟩)
 have hf:H1 s1.heap.objs.size=none:=I1.hok.fresh (Ai _)
 refine⟨.ref s1.heap.objs.size,upd H1 s1.heap.objs.size (.tup xs),I1.laid (t':=s1.toks) (λb u e=>Ad _ e) (Ai _) ?_,rfl,q _ hf⟩;exact⟨z,us,r,⟨_,Aw _ rfl,rfl,_,rfl⟩⟩
def dN(h:PA X es t):PE X (.List es pos) (cJF t):=by
 intro y3 s U H Q I hq;refine wpAny_List_spliced (thn (h pos y3 s U H _ I hq) λus s1 ⟨xs,H1,I1,r,z,q⟩=>⟨by rw[<-r.length];exact z,?_⟩)
 have hf:H1 s1.heap.objs.size=none:=I1.hok.fresh (Ai _)
 refine⟨.ref s1.heap.objs.size,upd H1 s1.heap.objs.size (.lst xs),I1.laid (t':=s1.toks) (λb u e=>Ad _ e) (Ai _) ?_,rfl,q _ hf⟩;exact⟨z,us,0,r,Aw _ rfl⟩
end
abbrev Sp:=List V->Hp->VK->XK->Prop
abbrev CXT:=Option Value->List Env->Hp->Shared->XK->Value->Shared->Prop
structure Env0 (P:Program) (w:World) (K:W.Frag) (mg:Str->Option Value) (base:Heap) (A:Around) (outer:List Env) (s:Shared) (H:Hp):Prop where
 frames:A.frames=some outer
 mod:Mod K mg base
 bs:∀b o,base.get? b=some o->s.heap.get? b=some o/\H b=none
 bsz:base.objs.size<=s.heap.objs.size
 funs:s.heap.FunFrames base outer
 frf:∀b∈frs outer,H b=none
 hok:HOk P w H s.heap
 bare:AllBare s.gens
 soft:∃ch,A.handled=hvO ch/\SoftL s.heap H ch
def CE(outer:List Env)(P:Program)(w:World)(H:Hp)(s:Shared)(Q:VK)(u:Value)(s':Shared):Prop:=
 ∃v H',s'.os=s.os/\AllBare s'.gens/\Un (frs outer) [] H H' s.heap s'.heap/\HOk P w H' s'.heap/\RelV v u/\Q v H'
def CR(CX:CXT)(hv:Option Value)(outer:List Env)(P:Program)(w:World)(H:Hp)(s:Shared)(Q:VK)(E:XK)(r:Result)(s':Shared):Prop:=
 match r with
 |.ok (.ret u)=>CE outer P w H s Q u s'
 |.ok _=>False
 |.error e=>CX hv outer H s E e s'
structure FnOk (P:Program) (w:World) (K:W.Frag) (mg:Str->Option Value) (base:Heap) (CX:CXT) (k:Nat) (f:Addr) (fd:FuncData) (ps:List Str) (sp:Sp):Prop where
 len:∀vs H Q E,sp vs H Q E->vs.length=ps.length
 run:∀(A:Around) (outer:List Env) (s:Shared) (H:Hp) (args:Args) (us:List Value) (vs:List V) (Q:VK) (E:XK),Room k A->Env0 P w K mg base A outer s H->BindsTo s fd args (ps.zip us)->Vals vs us->sp vs H Q E->
  codeAny (model P w) A (.call (.ref f) args) (CR CX A.handled outer P w H s Q E) s
def Env0.make{mg:Q4}{base:Heap}{outer:List Env}(e:Env0 P w K mg base A outer s H)(C:Addr)(us:List Value)(kw:List (Str×Value)):Env0 P w K mg base (A.under (.builtin "type.__call__" ⟨.ref C::us,kw⟩)) outer s H:=⟨by first|exact e.frames|(simpa [Around.under,Code.envs,Code.isFrame,pushEnvs]using e.frames),e.mod,e.bs,e.bsz,e.funs,e.frf,e.hok,e.bare,e.soft⟩
section
variable {s':Shared}
def Inv.env0(I:Inv X y3 U H s)(hc:X.calm=true):Env0 X.prog X.w X.K X.mg X.base X.A X.stack s H:=
 ⟨I.ok.frames,I.ok.mod,I.bs,Bf I.ok.bsz I.sz,I.stack,I.stkFree,I.hok,I.bare,let ⟨ch,hh,sl,_⟩:=I.softX (I.ok.hd hc);⟨ch,hh,sl⟩⟩
def Inv.after{Q:VK}(I:Inv X y3 U H s)(h:CE X.stack X.prog X.w H s Q u s'):EP X y3 U Q u s':=by
 obtain⟨v,H',os,bare,un,hok,r,q⟩:=h;obtain⟨hh,g,d,t,os'⟩:=s';obtain rfl:os'=s.os:=os;exact⟨v,H',I.call (h':=hh) (g':=g) (d':=d) (t':=t) (ch:=[]) un hok bare (λb z=>absurd z (by simp)),r,q⟩
end
def xF(sp:Sp)(dvs:List V)(E:XK)(t:TA):TE:=λU H Q=>t U H λvs H1=>sp (vs++dvs) H1 Q E
def Binds(K:W.Frag)(fd:FuncData)(ps:List Str)(ds:List Value):Prop:=
 ∀(s:Shared) (us:List Value),K.In s.heap->(us++ds).length=ps.length->BindsTo s fd ⟨us,[]⟩ (ps.zip (us++ds))
def Binds.all{fd:FuncData}(h:∀us:List Value,us.length=ps.length->bindArgs fd ⟨us,[]⟩=pure (ps.zip us)):Binds K fd ps []:=λs us _ hl=>by
 rw[Cf]at hl ⊢;exact .of_eq (h us hl)
def mF(CX:CXT)(X:Cx)(E:XK):Prop:=∀(y3:List (Addr×Obj)) (U:St) (H:Hp) (s:Shared) (e:Value) (s':Shared),Inv X y3 U H s->CX X.A.handled X.stack H s E e s'->X.xe e s'
section
variable {CX:CXT} {f:Addr} {fd:FuncData} {sp:Sp} {dvs:List V} {ds:List Value} {E:XK} {p:Pos} {t:TA}
def cZB{Q:VK}{vs:List V}(F:FnOk X.prog X.w X.K X.mg X.base CX k f fd ps sp)(hr:Room k X.A)(hb:Binds X.K fd ps ds)(hd:Vals dvs ds)(hx:mF CX X E)(hc:X.calm=true)(I:Inv X y3 U H s)(r:Vals vs us)(h:sp (vs++dvs) H Q E):wpAny (model X.prog X.w) X.A (call (.ref f) us) (EP X y3 U Q) X.xe s:=by
 have r2:Vals (vs++dvs) (us++ds):=r.append hd
 have hl:(us++ds).length=ps.length:=by rw[<-r2.length];exact F.len _ _ _ _ h
 refine Fi (Ex (F.run X.A X.stack s H ⟨us,[]⟩ (us++ds) (vs++dvs) Q E hr (I.env0 hc) (hb s us I.kIn hl) r2 h) λr s' hq=>?_);cases r with
 |error e=>exact hx y3 U H s e s' I hq
 |ok fl=>
  cases fl with
  |ret u=>exact I.after hq
  |next=>exact False.elim hq
  |brk=>exact False.elim hq
  |cont=>exact False.elim hq
def xS(F:FnOk X.prog X.w X.K X.mg X.base CX k f fd ps sp)(hr:Room k X.A)(hg:Gl X x)(hm:X.mg x=some (.ref f))(hk:W.keepIn X.K (.ref f)=true)(hb:Binds X.K fd ps ds)(hd:Vals dvs ds)(hx:mF CX X E)(ha:PA X (e::es) t)(hdb:(x==("__debug__" : Str))=false:=by decide)(he:starEach (e::es) X.env=(false,eval e X.env)::starEach es X.env:=by rfl)(hpl:(backTo pos (starEach es X.env)).any (·.1)=false:=by rfl)(hc:X.calm=true:=by rfl):PE X (.Call (.Name x p) (e::es) [] pos) (xF sp dvs E t):=by
 intro y3 s U H Q I h;refine Ej (eN I hg hm ?_ hdb);refine Gi (h₀:=X.base) I.ok.mod.kin hk (thn (ha pos y3 s U H _ I h) λus s1 ⟨vs,H1,I1,r,q⟩=>⟨I1.kIn,?_⟩) he hpl;exact cZB F hr hb hd hx hc I1 r q
end
structure FnScope (N P:List Str) (sc:Scope):Prop where
 kind:sc.kind=.function
 co:sc.isCoroutine=false
 gen:sc.isGenerator=false
 nd:N.Nodup
 pre:N.take P.length=P
 par:∀x∈P,sc.names.lookup x=some .local\/sc.names.lookup x=some .cell
 nofree:∀y∈sc.names,y.2≠.free
def oE:∀ {binds:List (Str×Value)} {m:Q4},(∀v,(x,v)∉binds)->bindL kindOf binds m x=m x
 |[],_,_=>rfl
 |(n,v)::r,m,h=>by
  unfold bindL;rw[oE λw hw=>h w (Ak _ hw)];split
  .have:x≠n:=by rintro rfl;exact h v Al
   simp[this]
  .rfl
def nR:∀ {binds:List (Str×Value)} {m:Q4},(∀v,(x,v)∉binds)->bindC kindOf binds m x=m x
 |[],_,_=>rfl
 |(n,v)::r,m,h=>by
  unfold bindC;rw[nR λw hw=>h w (Ak _ hw)];split
  .rfl
  .have:x≠n:=by rintro rfl;exact h v Al
   simp[this]
def oG{v:Value}:∀ {P:List Str} {vs:List Value} {i:Nat} {m:Q4},P.Nodup->P[i]?=some x->vs[i]?=some v->kindOf x=some .local->
 bindL kindOf (P.zip vs) m x=some v
 |[],_,_,_,_,h,_,_=>by simp at h
 |_::_,[],_,_,_,_,h,_=>by simp at h
 |p::P,w::vs,0,m,nd,h1,h2,hk=>by
  simp at h1 h2;subst h1;subst h2;show bindL kindOf ((p,w)::P.zip vs) m p=_
  unfold bindL;rw[oE λv hv=>(Bi.mp nd).1 (List.of_mem_zip hv).1,if_pos hk];simp
 |p::P,w::vs,i+1,m,nd,h1,h2,hk=>by
  show bindL kindOf ((p,w)::P.zip vs) m x=_
  unfold bindL;exact oG (i:=i) (List.nodup_cons.mp nd).2 (by simpa using h1) (by simpa using h2) hk
def oK{v:Value}:∀ {P:List Str} {vs:List Value} {i:Nat} {m:Q4},P.Nodup->P[i]?=some x->vs[i]?=some v->kindOf x≠some .local->
 bindC kindOf (P.zip vs) m x=some v
 |[],_,_,_,_,h,_,_=>by simp at h
 |_::_,[],_,_,_,_,h,_=>by simp at h
 |p::P,w::vs,0,m,nd,h1,h2,hk=>by
  simp at h1 h2;subst h1;subst h2;show bindC kindOf ((p,w)::P.zip vs) m p=_
  unfold bindC;rw[nR λv hv=>(Bi.mp nd).1 (List.of_mem_zip hv).1,if_neg hk];simp
 |p::P,w::vs,i+1,m,nd,h1,h2,hk=>by
  show bindC kindOf ((p,w)::P.zip vs) m x=_
  unfold bindC;exact oK (i:=i) (List.nodup_cons.mp nd).2 (by simpa using h1) (by simpa using h2) hk
def fQ(N:List Str)(vs:List V):St:=vs.map some++List.replicate (N.length-vs.length) none
def iY(CX:CXT)(P:Program)(w:World)(K:W.Frag)(mg:Str->Option Value)(base:Heap)(N:List Str)(qual:Str)(scope:Scope)(f:Addr)(cd:Value)(A:Around)(outer:List Env)(s:Shared)(H:Hp)(E:XK):Cx where
 prog:=P
 w:=w
 K:=K
 mg:=mg
 base:=base
 A:=A.deeper (envOfC qual scope s.heap.objs.size f cd)
 N:=N
 s₀:=s
 H₀:=H
 env:=envOfC qual scope s.heap.objs.size f cd
 outer:=outer
 stack:=envOfC qual scope s.heap.objs.size f cd::outer
 ex:=[]
 calm:=true
 fn:=λ_=>true
 pn:=[]
 xe:=λe s'=>wpAny (model P w) (A.deeper (envOfC qual scope s.heap.objs.size f cd)) (leaving (envOfC qual scope s.heap.objs.size f cd) e) (λ_ s''=>CX A.handled outer H s E e s'') (λe' s''=>CX A.handled outer H s E e' s'') s'
def bY{sc:Scope}{n:Nat}(h:sc.names.lookup x=some .cell):∃c,(cellsFrom n sc.names []).lookup x=some c:=by
 have q:=W.cellsFrom_some sc.names n [] (.inl h)
 exact Fc.mp q
def aQP{CX:CXT}{mg:Q4}{base:Heap}{qual:Str}{scope:Scope}{f:Addr}{cd:Value}{outer:List Env}{s1:Shared}{E:XK}{vs:List V}(S:FnScope N ps scope)(e0:Env0 P w K mg base A outer s H)(hl:vs.length=ps.length)(r:Vals vs us)(x:InCallC s s.heap.objs.size (bindL (envOfC qual scope s.heap.objs.size f cd).kindOf (ps.zip us) λ_=>none) (cellsFrom (s.heap.objs.size+1) scope.names []) (bindC (envOfC qual scope s.heap.objs.size f cd).kindOf (ps.zip us) λ_=>none) s1):Inv (iY CX P w K mg base N qual scope f cd A outer s H E) [] (fQ N vs) H s1:=by
 have hpl:ps.length<=N.length:=by have:=Cy List.length S.pre;rw[Bt]at this;omega
 obtain⟨h1,tk,rfl,hk⟩:=x.done;have noA:∀b:Addr,b∉(iY CX P w K mg base N qual scope f cd A outer s H E).ex:=λb z=>absurd (show b∈([]:List Addr) from z) (by simp)
 refine⟨⟨e0.mod,S.kind,rfl,rfl,Ai _,λy z c h1 h2=>?_,λy hy=>?_,λy c _ h=>?_,λ_=>(let ⟨ch,hh,sl⟩:=e0.soft;⟨ch,hh,sl,λb _=>noA b⟩),Around.frames_deeper e0.frames,.inr ⟨rfl,rfl⟩,λb z=>absurd z (noA b),e0.bs,e0.bsz,λb _ _=>noA b,λb z=>absurd z (noA b),e0.funs,e0.frf⟩,
  rfl,e0.bare,Un.kept hk,⟨_,x.toInCall.ns,λi y v h1 h2 h3=>?_⟩,λy c h=>⟨_,x.cell y c h⟩,e0.hok.fresh (Nat.le_refl _),λy c h=>?_,λp hp=>absurd (show p∈([]:Q3) from hp) (by simp),e0.hok.kept hk,?_⟩
 .exact name_of_addr x.apart (Di h1) (Di h2)
 .have hy:scope.names.lookup y=some .cell\/scope.names.lookup y=some .free:=hy
  rcases hy with hy|hy
  .exact bY hy
  .exact absurd rfl (S.nofree _ (Di hy))
 .exact Fw (x.above y c (Di h))
 .have hi:i<vs.length:=by
   unfold fQ at h2;by_cases hi:i<vs.length
   .exact hi
   .rw[List.getElem?_append_right (by simpa using hi)]at h2
    rw[List.getElem?_replicate]at h2;split at h2<;>cases h2
  have ha:vs[i]?=some v:=by
   unfold fQ at h2;rw[List.getElem?_append_left (by simpa using hi),List.getElem?_map]at h2
   cases e:vs[i]? with
   |none=>rw[e]at h2;cases h2
   |some a=>rw[e]at h2;cases h2;rfl
  obtain⟨u,hu,rv⟩:=r.get ha;have hp:ps[i]?=some y:=by
   rw[<-S.pre,List.getElem?_take_of_lt (by omega)];exact h1
  have ndP:ps.Nodup:=by rw[<-S.pre];exact S.nd.sublist (List.take_sublist _ _)
  refine⟨u,rv,?_⟩;rcases S.par y (As hp) with k|k
  .exact .inl ⟨k,oG ndP hp hu k⟩
  .obtain⟨c,e⟩:=bY (n:=s.heap.objs.size+1) k;refine .inr ⟨.inl k,c,e,?_⟩;have q:=x.cell y c e
   rw[oK ndP hp hu (by show scope.names.lookup y≠_;rw[k];decide)]at q
   exact q
 .exact e0.hok.fresh (Fw (x.above y c (Di h)))
 .unfold fQ;show _=N.length
  rw[Ar,Ac,List.length_replicate];omega
def bZY{CX:CXT}{mg:Q4}{base:Heap}{f:Addr}{name qual:Str}{params:Arguments}{scope:Scope}{dV kV doc pm cdv ct oc:Value}{an od:Option Addr}{osl:Array (Option Value)}{sp:Sp}(lk:K.lookup f=some ⟨oc,od,.func (W.fnOf name qual params body scope dV kV doc pm an cdv ct),osl⟩)(hcd:W.codeIn K cdv qual=true)(S:FnScope N ps scope)(len:∀vs H Q E,sp vs H Q E->vs.length=ps.length)(hbody:∀(A:Around) (outer:List Env) (s:Shared) (H:Hp) (vs:List V) (Q:VK) (E:XK),Room k (A.deeper (envOfC qual scope s.heap.objs.size f cdv))->sp vs H Q E->
 ∃t,PSs (iY CX P w K mg base N qual scope f cdv A outer s H E) body t/\t {nx:=λ_ H'=>Q .non H',rt:=Q} (fQ N vs) H):FnOk P w K mg base CX (k+1) f (W.fnOf name qual params body scope dV kV doc pm an cdv ct) ps sp:=by
 refine⟨len,λA outer s H args us vs Q E hr e0 hb r hsp=>?_⟩;have hl:=len _ _ _ _ hsp
 have KX:K.In s.heap:=e0.mod.kin.keeps λb o e=>(e0.bs b o e).1
 have lim:s.heap.NoLimit:=e0.mod.nolimit.keeps λb o e=>(e0.bs b o e).1
 have hkind:∀y∈ps.zip us,scope.names.lookup y.1=some .local\/(scope.names.lookup y.1=some .cell/\((cellsFrom (s.heap.objs.size+1) scope.names []).lookup y.1).isSome=true):=λ⟨n,v⟩ hy=>by
  rcases S.par n (List.of_mem_zip hy).1 with q|q
  .exact .inl q
  .exact .inr ⟨q,W.cellsFrom_some _ _ _ (.inl q)⟩
 refine codeAny_call_function hr.depth (KX _ _ lk) rfl S.co S.gen rfl (W.codeRec_of KX hcd) (hb _ _ _ _ ?_);refine wpAny_newFunctionEnv_cells S.kind hkind λenv he s1 x=>?_;subst he;refine⟨lim.keeps x.toInCall.keep,codeAny_func ?_⟩;obtain⟨t,ht,hq⟩:=hbody A outer s H vs Q E (hr.deeper _) hsp;have I:Inv (iY CX P w K mg base N qual scope f cdv A outer s H E) [] (fQ N vs) H s1:=aQP S e0 hl r x
 refine Cg (ht [] s1 (fQ N vs) H _ I hq) (λfl s' hs=>?_) λe s' hs=>hs;have fin:∀ {U':St} {H':Hp} {v:V} {u:Value},Inv (iY CX P w K mg base N qual scope f cdv A outer s H E) [] U' H' s'->RelV v u->Q v H'->CE outer P w H s Q u s':=
  fun {U' H' v u} J rv q=>⟨v,H',J.os,J.bare,J.base,J.hok,rv,q⟩
 cases fl with
 |ret u=>
  obtain⟨v,U',H',J,rv,q⟩:=hs;exact fin J rv q
 |next=>
  obtain⟨U',H',J,q⟩:=hs;exact fin (v:=V.non) (u:=Value.none) J rfl q
 |brk=>
  obtain⟨_,_,_,q⟩:=hs;exact False.elim q
 |cont=>
  obtain⟨_,_,_,q⟩:=hs;exact False.elim q
section
variable {p:Pos} {t:TA} {id T:String} {r:List V->Hp->VK->Prop}
def tCB(r:List V->Hp->VK->Prop)(t:TA):TE:=λU H Q=>t U H λvs H1=>r vs H1 Q
def aL(hc:CallR X (.builtin id) r)(hg:Gl X x)(hm:X.mg x=none)(hv:bootBuiltins x=some (.builtin id))(ha:PA X (e::es) t)(hn:x≠"__name__" := by decide)(hdb:(x==("__debug__" : Str))=false:=by decide)(he:starEach (e::es) X.env=(false,eval e X.env)::starEach es X.env:=by rfl)(hpl:(backTo pos (starEach es X.env)).any (·.1)=false:=by rfl):PE X (.Call (.Name x p) (e::es) [] pos) (tCB r t):=by
 intro y3 s U H Q I h;refine Ej (iD I hg hm hv ?_ hn hdb);exact PyProof.Rows.callWith_builtin1 (thn (ha pos y3 s U H _ I h) λus s1 ⟨vs,H1,I1,r1,q1⟩=>hc y3 s1 U H1 vs us Q I1 r1 q1) he hpl
def bB(hc:CallR X (.type T) r)(hg:Gl X x)(hm:X.mg x=none)(hv:bootBuiltins x=some (.type T))(ha:PA X (e::es) t)(hn:x≠"__name__" := by decide)(hdb:(x==("__debug__" : Str))=false:=by decide)(he:starEach (e::es) X.env=(false,eval e X.env)::starEach es X.env:=by rfl)(hpl:(backTo pos (starEach es X.env)).any (·.1)=false:=by rfl):PE X (.Call (.Name x p) (e::es) [] pos) (tCB r t):=by
 intro y3 s U H Q I h;refine Ej (iD I hg hm hv ?_ hn hdb);exact Dr (thn (ha pos y3 s U H _ I h) λus s1 ⟨vs,H1,I1,r1,q1⟩=>hc y3 s1 U H1 vs us Q I1 r1 q1) he hpl
end
end L2
namespace HT
open PySem PyProof.Rows
def sIx(n d:Nat):Option Int->Nat
 |none=>d
 |some v=>if v<0 then (v+(n:Int)).toNat else min v.toNat n
end HT
namespace L2
open PySem PySem.Spec PyProof.Rows
variable {X:Cx}{s:Shared}{x:V}{α:Type}
abbrev TO:=St->Hp->(Option Int->Hp->Prop)->Prop
def PO(X:Cx)(e:Option Expr)(t:TO):Prop:=
 ∀(y3:Q3) (s:Shared) (U:St) (H:Hp) (Q:Option Int->Hp->Prop),Inv X y3 U H s->t U H Q->
  wpAny (model X.prog X.w) X.A (evalPart e X.env) (λu s'=>∃o H',Inv X y3 U H' s'/\IsPart u o/\Q o H') X.xe s
def wL:TO:=λ_ H Q=>Q none H
section
variable {e:Expr} {te:TE} {lo hi:Option Expr} {tl th:TO} {pos p2:Pos}
def xU:PO X none wL:=by
 intro y3 s U H Q I h;rw[evalPart_none];exact Ae ⟨none,H,I,.none,h⟩
def SlR(X:Cx)(r:V->Option Int->Option Int->Hp->VK->Prop):Prop:=
 ∀(y3:Q3) (s:Shared) (U:St) (H:Hp) (x:V) (v vl vu:Value) (lo hi:Option Int) (sl:Addr) (Q:VK),Inv X y3 U H s->RelV x v->s.heap.IsSliceOf sl vl vu .none->IsPart vl lo->IsPart vu hi->r x lo hi H Q->
  ∃T id,typeLookup (.type T) "__getitem__"=pure (some (.builtin id))/\s.TypeIs v T/\wpAny (model X.prog X.w) X.A (getItem v (.ref sl)) (EP X y3 U Q) X.xe s
def SlR.or{r r':V->Option Int->Option Int->Hp->VK->Prop}(h:SlR X r)(h':SlR X r'):SlR X (λx lo hi H Q=>r x lo hi H Q\/r' x lo hi H Q):=by
 intro y3 s U H x v vl vu lo hi sl Q I rx hs pl pu q;rcases q with q|q
 .exact h y3 s U H x v vl vu lo hi sl Q I rx hs pl pu q
 .exact h' y3 s U H x v vl vu lo hi sl Q I rx hs pl pu q
def tSl(r:V->Option Int->Option Int->Hp->VK->Prop)(te:TE)(tl th:TO):TE:=λU H Q=>te U H λx H1=>tl U H1 λl H2=>th U H2 λu H3=>r x l u H3 Q
def iS{r:V->Option Int->Option Int->Hp->VK->Prop}(hr:SlR X r)(he:PE X e te)(hl:PO X lo tl)(hu:PO X hi th):PE X (.Subscript e (.Slice lo hi none p2) pos) (tSl r te tl th):=by
 intro y3 s U H Q I h;refine Subscript_ (thn (he y3 s U H _ I h) λv s1 ⟨x,H1,I1,r1,q1⟩=>?_);refine wpAny_Slice (thn (hl y3 s1 U H1 _ I1 q1) λvl s2 ⟨l,H2,I2,pl,q2⟩=>thn (hu y3 s2 U H2 _ I2 q2) λvu s3 ⟨u,H3,I3,pu,q3⟩=>?_);rw[evalPart_none];refine Ae ?_;have I4:Inv X y3 U H3 {s3 with heap:=s3.heap.push {cls:=.type "slice",data:=.fields #[vl,vu,.none]}}:=I3.kept (t':=s3.toks) λb ob q=>Ad _ q
 obtain⟨T,id,hT,ht,hg⟩:=hr y3 {s3 with heap:=s3.heap.push {cls:=.type "slice",data:=.fields #[vl,vu,.none]}} U H3 x v vl vu l u s3.heap.objs.size Q I4 r1 (Heap.IsSliceOf.new ..) pl pu q3
 show wpAny (model X.prog X.w) X.A (subscriptTail e (.Slice lo hi none p2) v (.ref s3.heap.objs.size)) (EP X y3 U Q) X.xe {s3 with heap:=s3.heap.push {cls:=.type "slice",data:=.fields #[vl,vu,.none]}}
 exact tail_any (ops:=[.ref s3.heap.objs.size,v]) ht hT hg (by with_unfolding_all rfl)
def gD(xs:List V)(lo hi:Option Int):List V:=(xs.drop (HT.sIx xs.length 0 lo)).take (HT.sIx xs.length xs.length hi-HT.sIx xs.length 0 lo)
def rO(xs:List V)(lo hi:Option Int):(gD xs lo hi).length<=xs.length:=by
 unfold gD;rw[Bt,Ei];omega
end
def ixN(n:Nat)(i:Int):Option Nat:=if 0<=i then (if i<n then some i.toNat else none) else if -(n:Int)<=i then some (i+n).toNat else none
def atI(xs:List α)(i:Int):Option α:=(ixN xs.length i).bind λj=>xs[j]?
def bXO{n:Nat}{i:Int}{j:Nat}(h:ixN n i=some j):seqIndex? i n=some j/\j<n/\-(n:Int)<=i/\i<n:=by
 unfold ixN at h;by_cases h0:0<=i
 .rw[if_pos h0]at h;by_cases h1:i<n
  .rw[if_pos h1]at h;have e:i.toNat=j:=Bh h
   exact⟨by rw[seqIndex_of h0 h1,e],by omega,by omega,h1⟩
  .rw[if_neg h1]at h;cases h
 .rw[if_neg h0]at h;by_cases h1:-(n:Int)<=i
  .rw[if_pos h1]at h;have e:(i+n).toNat=j:=Bh h
   exact⟨by rw[seqIndex_neg (by omega) h1,e],by omega,h1,by omega⟩
  .rw[if_neg h1]at h;cases h
def qC{xs:List α}{i:Int}{v:α}(h:atI xs i=some v):∃j,seqIndex? i xs.length=some j/\xs[j]?=some v/\j<xs.length/\-(xs.length:Int)<=i/\i<xs.length:=by
 unfold atI at h;cases e:ixN xs.length i with
 |none=>rw[e]at h;cases h
 |some j=>
  rw[e]at h;obtain⟨h1,h2,h3,h4⟩:=bXO e;exact⟨j,h1,h,h2,h3,h4⟩
def dY{xs:List α}{j:Nat}{v:α}(h:xs[j]?=some v):atI xs (j:Int)=some v:=by
 have hj:j<xs.length:=(Af.mp h).1
 have e:ixN xs.length (j:Int)=some j:=by
  unfold ixN;rw[if_pos (by omega),if_pos (by omega)];simp
 unfold atI;rw[e];exact h
def bZK(b:Expr):Prop:=∀o i,subscripted b false o i=operate [o,i] (getItem o i)
def IxR(X:Cx)(r:R2):Prop:=
 ∀(value slice:Expr) (y3:Q3) (s:Shared) (U:St) (H:Hp) (x y:V) (v u:Value) (Q:VK),Inv X y3 U H s->RelV x v->RelV y u->r x y H Q->
  subscripted slice false v u=operate [v,u] (getItem v u)->wpAny (model X.prog X.w) X.A (subscriptTail value slice v u) (EP X y3 U Q) X.xe s
def MtR(X:Cx)(id:String)(r:V->List V->Hp->VK->Prop):Prop:=
 ∀(y3:Q3) (s:Shared) (U:St) (H:Hp) (x:V) (xs:List V) (v:Value) (us:List Value) (Q:VK),Inv X y3 U H s->RelV x v->Vals xs us->r x xs H Q->
  wpAny (model X.prog X.w) X.A (call (.builtin id) (v::us)) (EP X y3 U Q) X.xe s
section
variable {X:Cx} {a b:Expr} {ta tb:TE} {pos:Pos}
def IxR.or{r r':R2}(h:IxR X r)(h':IxR X r'):IxR X (λx y H Q=>r x y H Q\/r' x y H Q):=by
 intro value slice y3 s U H x y v u Q I rx ry q hs;rcases q with q|q
 .exact h value slice y3 s U H x y v u Q I rx ry q hs
 .exact h' value slice y3 s U H x y v u Q I rx ry q hs
def cB{r:R2}(hr:IxR X r)(ha:PE X a ta)(hb:PE X b tb)(hs:bZK b):PE X (.Subscript a b pos) (tOp r ta tb):=by
 intro y3 s U H Q I h;exact Subscript_ (cZE ha hb I h λv u s2 x y H2 I2 rx ry q=>hr a b y3 s2 U H2 x y v u Q I2 rx ry q (hs _ _))
def bJZ(K:W.Frag):R2:=λx y H Q=>∃p xs i v,x=.ref p/\y=.int i/\SqL K H p xs/\atI xs i=some v/\Q v H
def dQS(K:W.Frag):R2:=λx y H Q=>∃p xs i v,x=.ref p/\y=.int i/\SqT K H p xs/\atI xs i=some v/\Q v H
def cJB:R2:=λx y H Q=>∃z i c,x=.str z/\y=.int i/\z.length<=sizeLine/\atI z.cps.toList i=some c/\Q (.str ⟨#[c]⟩) H
def ix_list:IxR X (bJZ X.K):=by
 intro value slice y3 s U H x y v u Q I rx ry h hs;obtain⟨p,xs,i,z,rfl,rfl,hq,he,q⟩:=h;cases rx;obtain⟨t,rfl⟩:=ry;obtain⟨its,r,pl,hz⟩:=I.list hq;obtain⟨j,h1,h2,h3,h4,h5⟩:=qC he;obtain⟨w,ew,rw'⟩:=r.get h2;have hl:=r.length
 have hn:=jW
 have fin:EP X y3 U Q w s:=⟨z,H,I,rw',q⟩
 by_cases h0:0<=i
 .have hj:i.toNat=j:=by
   rw[seqIndex_of h0 h5]at h1;exact Bh h1
  exact item_listR pl.isList h0 (by omega) (by rw[hj];simpa using ew) fin hs
 .have hj:(i+(its.toArray.size:Int)).toNat=j:=by
   rw[seqIndex_neg (by omega) h4]at h1
   rw[Be,<-hl];exact Bh h1
  exact subscriptTail_builtinR (x:=w) pl.isList.typeIs slot_list_getitem.lookup
   (wpAny_getItem_list_neg (Q:=λr s'=>r=w/\EP X y3 U Q r s') pl.isList (by omega) (by rw[List.size_toArray]<;>omega) (by omega) (by rw[hj];simpa using ew) ⟨rfl,fin⟩) hs
def ix_tup:IxR X (dQS X.K):=by
 intro value slice y3 s U H x y v u Q I rx ry h hs;obtain⟨p,xs,i,z,rfl,rfl,hq,he,q⟩:=h;cases rx;obtain⟨t,rfl⟩:=ry;obtain⟨its,r,pl,hz⟩:=I.tuple hq;obtain⟨j,h1,h2,h3,h4,h5⟩:=qC he;obtain⟨w,ew,rw'⟩:=r.get h2;have hl:=r.length
 have hn:=jW
 have fin:EP X y3 U Q w s:=⟨z,H,I,rw',q⟩
 exact subscriptTail_builtinR (x:=w) pl.typeIs slot_tuple_getitem.lookup
  (getItem_tuple (j:=j) (Q:=λr s'=>r=w/\EP X y3 U Q r s') pl (by omega) (by omega) (by rw[List.size_toArray,<-hl];exact h1) (by simpa using ew) ⟨rfl,fin⟩) hs
def cXG:IxR X cJB:=by
 intro value slice y3 s U H x y v u Q I rx ry h hs;obtain⟨z,i,c,rfl,rfl,hz,he,q⟩:=h;obtain⟨t,rfl⟩:=rx;obtain⟨t',rfl⟩:=ry;obtain⟨j,h1,h2,h3,h4,h5⟩:=qC he;have hl:z.cps.toList.length=z.length:=by simp[Str.length]
 rw[hl]at h1 h4 h5;have hn:=jW
 exact tail_any (typeIs_str s z t) slot_str_getitem.lookup (getItem_str (c:=c) (by
  have e1:decide (i < -(2^63:Int))=false:=Bb (by omega)
  have e2:decide (i ≥ 2^63)=false:=Bb (by omega)
  rw[e1,e2,Bool.or_false]) (by rw[h1];simpa using h2) ⟨.str ⟨#[c]⟩,H,I.tok _,⟨_,rfl⟩,q⟩) hs
def rIx(K:W.Frag):R2:=λx y H Q=>bJZ K x y H Q\/dQS K x y H Q\/cJB x y H Q
def ix_seq:IxR X (rIx X.K):=ix_list.or (ix_tup.or cXG)
def Inv.lst{y3:Q3}{U:St}{H:Hp}{s:Shared}{p:Addr}{xs:List V}(I:Inv X y3 U H s)(h:H p=some (.lst xs)):∃(its:List Value) (n:Nat),Vals xs its/\s.heap.get? p=some {cls:=.type "list",data:=.seq its.toArray n}/\xs.length<=sizeLine:=by
 obtain⟨z,its,n,r,e⟩:=I.hok p _ h;exact⟨its,n,r,e,z⟩
def pD(lo hi:Option Int)(n:Nat):(sliceBounds lo hi none n).1=((HT.sIx n 0 lo:Nat):Int)/\(sliceBounds lo hi none n).2.1=((HT.sIx n n hi:Nat):Int)/\(sliceBounds lo hi none n).2.2=1:=by
 refine⟨?_,?_,rfl⟩
 .cases lo with
  |none=>simp[sliceBounds,HT.sIx]
  |some i=>
   simp only[sliceBounds,HT.sIx,Option.getD_none,show (1:Int)>0 by decide,if_true]
   by_cases h:i<0
   .simp only[h,if_true]<;>omega
   .simp only[h,if_false]<;>omega
 .cases hi with
  |none=>simp[sliceBounds,HT.sIx]
  |some i=>
   simp only[sliceBounds,HT.sIx,Option.getD_none,show (1:Int)>0 by decide,if_true]
   by_cases h:i<0
   .simp only[h,if_true]<;>omega
   .simp only[h,if_false]<;>omega
def mT(its:List Value)(lo hi:Option Int):slicePick its.toArray lo hi none=((its.drop (HT.sIx its.length 0 lo)).take (HT.sIx its.length its.length hi-HT.sIx its.length 0 lo)).toArray:=by
 obtain⟨h1,h2,h3⟩:=pD lo hi its.toArray.size;unfold slicePick;rw[h1,h2,h3];simp only[sliceRange_one,pick_run,List.size_toArray]<;>rfl
def dQ4(K:W.Frag):V->Option Int->Option Int->Hp->VK->Prop:=λx lo hi H Q=>∃a xs,x=.ref a/\SqL K H a xs/\∀p,H p=none->Q (.ref p) (upd H p (.lst (gD xs lo hi)))
def sl_list:SlR X (dQ4 X.K):=by
 intro y3 s U H x v vl vu lo hi sl Q I rx hs pl pu h;obtain⟨a,xs,rfl,hx,q⟩:=h;cases rx;obtain⟨its,r,ht,hz⟩:=I.list hx;have hlen:=r.length
 refine⟨"list",_,slot_list_getitem.lookup,ht.isList.typeIs,?_⟩;refine wpAny_getItem_list_slice ht.isList hs pl pu .none (by simp) ?_ (by rw[List.size_toArray]<;>omega)
 rw[mT,<-hlen];refine⟨.ref s.heap.objs.size,_,I.laid (t':=s.toks) (o:=.lst (gD xs lo hi)) (λb ob q=>Ad _ q) (Ai _) ?_,rfl,q _ (I.hok.fresh (Ai _))⟩;exact⟨Bf (rO xs lo hi) hz,_,0,(r.drop (HT.sIx xs.length 0 lo)).take (HT.sIx xs.length xs.length hi-HT.sIx xs.length 0 lo),Aw _ rfl⟩
def bD:V->Bool
 |.non=>true
 |.bl _=>true
 |.int _=>true
 |.str _=>true
 |_=>false
def eqV:V->V->Bool
 |.non,.non=>true
 |.bl a,.bl b=>a==b
 |.bl a,.int b=>(if a then 1 else 0)==b
 |.int a,.bl b=>a==(if b then 1 else 0)
 |.int a,.int b=>a==b
 |.str a,.str b=>a==b
 |_,_=>false
def iG{A:Around}{s:Shared}{y:V}{u v:Value}(ry:RelV y u)(rx:RelV x v)(fy:bD y=true)(fx:bD x=true):SeqAt.EqAt A s u v (eqV y x):=by
 cases y with
 |non=>
  cases ry;cases x with
  |non=>cases rx;exact SeqAt.EqAt.same _
  |bl b=>cases rx;exact SeqAt.EqAt.none_bool b
  |int b=>obtain⟨t,rfl⟩:=rx;exact SeqAt.EqAt.none_int b t
  |str b=>obtain⟨t,rfl⟩:=rx;exact SeqAt.EqAt.none_str b t
  |_=>exact absurd (show false=true from fx) An
 |bl a=>
  cases ry;cases x with
  |non=>cases rx;exact SeqAt.EqAt.bool_none a
  |bl b=>cases rx;exact SeqAt.EqAt.bool_bool a b
  |int b=>obtain⟨t,rfl⟩:=rx;exact SeqAt.EqAt.bool_int a b t
  |str b=>obtain⟨t,rfl⟩:=rx;exact SeqAt.EqAt.bool_str a b t
  |_=>exact absurd (show false=true from fx) An
 |int a=>
  obtain⟨t',rfl⟩:=ry;cases x with
  |non=>cases rx;exact SeqAt.EqAt.int_none a t'
  |bl b=>cases rx;exact SeqAt.EqAt.int_bool a t' b
  |int b=>obtain⟨t,rfl⟩:=rx;exact SeqAt.EqAt.int_int a t' b t
  |str b=>obtain⟨t,rfl⟩:=rx;exact SeqAt.EqAt.int_str a t' b t
  |_=>exact absurd (show false=true from fx) An
 |str a=>
  obtain⟨t',rfl⟩:=ry;cases x with
  |non=>cases rx;exact SeqAt.EqAt.str_none a t'
  |bl b=>cases rx;exact SeqAt.EqAt.str_bool a t' b
  |int b=>obtain⟨t,rfl⟩:=rx;exact SeqAt.EqAt.str_int a t' b t
  |str b=>obtain⟨t,rfl⟩:=rx;exact SeqAt.EqAt.str_str a t' b t
  |_=>exact absurd (show false=true from fx) An
 |_=>exact absurd (show false=true from fy) An
def eqU(x:V)(u:Value):Bool:=match u with
 |.none=>eqV .non x
 |.bool b=>eqV (.bl b) x
 |.int i _=>eqV (.int i) x
 |.str z _=>eqV (.str z) x
 |_=>false
def aJ6{y:V}{u:Value}(r:RelV y u)(f:bD y=true):eqU x u=eqV y x:=by
 cases y with
 |non=>cases r;rfl
 |bl b=>cases r;rfl
 |int i=>obtain⟨t,rfl⟩:=r;rfl
 |str z=>obtain⟨t,rfl⟩:=r;rfl
 |_=>exact absurd (show false=true from f) An
def jB:∀ {xs:List V} {us:List Value},Vals xs us->xs.all bD=true->us.any (eqU x)=xs.any λy=>eqV y x
 |_,_,.nil,_=>rfl
 |y::xs,u::us,.cons r t,f=>by
  rw[List.all_cons,Fe]at f;rw[Hf,Hf,aJ6 r f.1,jB t f.2]
def fK{A:Around}{v:Value}(rx:RelV x v)(fx:bD x=true):∀ {xs:List V} {us:List Value},Vals xs us->xs.all bD=true->∀u∈us,SeqAt.EqAt A s u v (eqU x u)
 |_,_,.nil,_=>λu hu=>by cases hu
 |y::xs,u::us,.cons r t,f=>λu' hu=>by
  rw[List.all_cons,Fe]at f;rcases Av.mp hu with rfl|hu
  .rw[aJ6 r f.1];exact iG r rx f.1 fx
  .exact fK rx fx t f.2 u' hu
def inV(x:V)(xs:List V):Bool:=xs.any λy=>eqV y x
def rIn(K:W.Frag)(neg:Bool):R2:=λx y H Q=>∃p xs,y=.ref p/\(SqL K H p xs\/SqT K H p xs)/\bD x=true/\xs.all bD=true/\Q (.bl (if neg then !inV x xs else inV x xs)) H
def op_in_seq:OpR X (compareOp .In) (rIn X.K false):=by
 intro y3 s U H x y v u Q I rx ry h;obtain⟨p,xs,rfl,hq,fx,fs,q⟩:=h;cases ry;rcases hq with hq|hq
 .obtain⟨its,r,pl,hz⟩:=I.list hq;refine SeqAt.in_listAt (eqU x) pl.isList (λw hw=>fK rx fx r fs w (by simpa using hw)) ⟨.bl _,H,I,rfl,?_⟩
  rw[show its.toArray.any (eqU x)=its.any (eqU x) by simp,jB r fs]
  exact q
 .obtain⟨its,r,pl,hz⟩:=I.tuple hq;refine SeqAt.in_tupleAt (eqU x) pl (λw hw=>fK rx fx r fs w (by simpa using hw)) ⟨.bl _,H,I,rfl,?_⟩
  rw[show its.toArray.any (eqU x)=its.any (eqU x) by simp,jB r fs]
  exact q
def op_notIn_seq:OpR X (compareOp .NotIn) (rIn X.K true):=by
 intro y3 s U H x y v u Q I rx ry h;obtain⟨p,xs,rfl,hq,fx,fs,q⟩:=h;cases ry;rcases hq with hq|hq
 .obtain⟨its,r,pl,hz⟩:=I.list hq;refine SeqAt.notIn_listAt (eqU x) pl.isList (λw hw=>fK rx fx r fs w (by simpa using hw)) ⟨.bl _,H,I,rfl,?_⟩
  rw[show its.toArray.any (eqU x)=its.any (eqU x) by simp,jB r fs]
  exact q
 .obtain⟨its,r,pl,hz⟩:=I.tuple hq;refine SeqAt.notIn_tupleAt (eqU x) pl (λw hw=>fK rx fx r fs w (by simpa using hw)) ⟨.bl _,H,I,rfl,?_⟩
  rw[show its.toArray.any (eqU x)=its.any (eqU x) by simp,jB r fs]
  exact q
def pY:CallR X (.builtin "len") (λxs H Q=>∃p ys,xs=[.ref p]/\(SqL X.K H p ys\/SqT X.K H p ys)/\Q (.int ys.length) H):=by
 intro y3 s U H xs us Q I r h;obtain⟨p,ys,rfl,hq,q⟩:=h;obtain⟨u,rfl,rx⟩:=dM r;cases rx;have hn:=jW
 rcases hq with hq|hq
 .obtain⟨its,r',pl,hz⟩:=I.list hq;have hlen:=r'.length
  exact Calls.call_len_list pl.isList (by simp only[List.size_toArray]<;>omega) ⟨.int ys.length,H,I.tok _,⟨s.toks+1,by rw[List.size_toArray,hlen]⟩,q⟩
 .obtain⟨its,r',pl,hz⟩:=I.tuple hq;have hlen:=r'.length
  exact len_tuple pl (by simp only[List.size_toArray]<;>omega) ⟨.int ys.length,H,I.tok _,⟨s.toks+1,by rw[List.size_toArray,hlen]⟩,q⟩
def CallR.or{f:Value}{r r':List V->Hp->VK->Prop}(h:CallR X f r)(h':CallR X f r'):CallR X f (λxs H Q=>r xs H Q\/r' xs H Q):=by
 intro y3 s U H xs us Q I rs q;rcases q with q|q
 .exact h y3 s U H xs us Q I rs q
 .exact h' y3 s U H xs us Q I rs q
def call_list_of:CallR X (.type "list") (λxs H Q=>∃p ys,xs=[.ref p]/\(SqL X.K H p ys\/SqT X.K H p ys)/\∀l,H l=none->Q (.ref l) (upd H l (.lst ys))):=by
 intro y3 s U H xs us Q I r h;obtain ⟨p,ys,rfl,hq,q⟩:=h;obtain ⟨u,rfl,rx⟩:=dM r;cases rx;have fin:∀ (its:List Value),Vals ys its->ys.length<=sizeLine->∀ (h':Heap) (c':Nat),(∀ b o',s.heap.get? b=some o'->h'.get? b=some o')->
     h'.get? s.heap.objs.size=some {cls:=.type "list",dict:=none,data:=.seq its.toArray c',slots:=#[]}->EP X y3 U Q (.ref s.heap.objs.size) {s with heap:=h'}:=λits r' hz h' c' kp e=>
  ⟨.ref s.heap.objs.size,_,I.laid (t':=s.toks) kp (Ai _) (show ObjOk X.prog X.w _ h' _ (.lst ys) from⟨hz,its,c',r',e⟩),rfl,q _ (I.hok.fresh (Ai _))⟩
 rcases hq with hq|hq
 .obtain⟨its,r',pl,hz⟩:=I.list hq;have hlen:=r'.length
  obtain⟨o,ho,hc,n,hd⟩:=pl.isList;exact call_list_seq p (.inl rfl) ho hc hd (λh' c' kp e=>fin its r' hz h' c' kp e) (by simp only[List.size_toArray]<;>omega)
 .obtain⟨its,r',pl,hz⟩:=I.tuple hq;have hlen:=r'.length
  obtain⟨o,ho,hc,n,hd⟩:=pl;exact call_list_seq p (.inr rfl) ho hc hd (λh' c' kp e=>fin its r' hz h' c' kp e) (by simp only[List.size_toArray]<;>omega)
def tyV(K:W.Frag)(T:String)(x:V)(H:Hp):Prop:=match x with
 |.str _=>T="str"
 |.int _=>T="int"
 | .ref p=>(T="list"/\∃ xs,SqL K H p xs)\/(T="tuple"/\∃ o,K.lookup p=some o/\o.cls=.type "tuple"/\o.dict=none)\/
     (T="dict"/\((∃kvs,H p=some (.dK kvs))\/∃kvs,H p=some (.dT kvs)))\/(T="set"/\∃S n,H p=some (.set S n))
 |_=>False
def aXQ{y3:Q3}{U:St}{H:Hp}{T:String}{v:Value}(I:Inv X y3 U H s)(r:RelV x v)(ty:tyV X.K T x H):s.TypeIs v T/\∀a,v=.ref a->∃ob,s.heap.get? a=some ob/\ob.dict=none:=by
 cases x with
 |str z=>
  obtain⟨t,rfl⟩:=r;cases (show T="str" from ty);exact⟨typeIs_str s z t,λ_ e=>nomatch e⟩
 |int i=>
  obtain⟨t,rfl⟩:=r;cases (show T="int" from ty);exact⟨typeIs_int s i t,λ_ e=>nomatch e⟩
 |ref p=>
  cases r;rcases ty with⟨rfl,xs,hq⟩|⟨rfl,o,hk,hc,hd⟩|⟨rfl,hk⟩|⟨rfl,S,n,hk⟩
  .obtain⟨its,_,pl,_⟩:=I.list hq;refine⟨pl.isList.typeIs,λa e=>?_⟩;cases e;obtain⟨o,n,e,c,hd,_⟩:=pl;exact⟨o,e,hd⟩
  .refine⟨⟨o,I.kIn p o hk,hc⟩,λa e=>?_⟩;cases e;exact⟨o,I.kIn _ o hk,hd⟩
  .have z:∃ o,s.heap.get? p=some o/\o.ExactDict:=by
    rcases hk with⟨kvs,hk⟩|⟨kvs,hk⟩
    .obtain⟨_,_,_,_,o,_,_,e,ex,_⟩:=I.hok p _ hk;exact⟨o,e,ex⟩
    .obtain⟨_,_,_,_,o,_,_,e,ex,_⟩:=I.hok p _ hk;exact⟨o,e,ex⟩
   obtain⟨o,e,ex⟩:=z;refine⟨⟨o,e,ex.1⟩,λa e2=>?_⟩;cases e2;exact⟨o,e,ex.2.1⟩
  .obtain⟨o,_,_,_,e,ex,_⟩:=I.hok p _ hk;refine⟨⟨o,e,ex.1⟩,λa e2=>?_⟩;cases e2;exact⟨o,e,ex.2.1⟩
 |_=>exact False.elim ty
variable {o e:Expr} {t:TA} {T:String} {r:V->List V->Hp->VK->Prop}
end
def MtM(X:Cx)(id:String)(r:V->List V->Hp->VK->Prop):Prop:=
 ∀(y3:Q3) (s:Shared) (U:St) (H:Hp) (x:V) (xs:List V) (v:Value) (us:List Value) (Q:VK),Inv X y3 U H s->RelV x v->Vals xs us->r x xs H Q->
  wpAny (model X.prog X.w) X.A (call (.builtin id) (v::us)) (EP X y3 U Q) X.xe s
def Vals.one:∀ {x:V} {us:List Value},Vals [x] us->∃u,us=[u]/\RelV x u
 |_,_,.cons r .nil=>⟨_,rfl,r⟩
def Vals.two:∀ {x y:V} {us:List Value},Vals [x,y] us->∃u v,us=[u,v]/\RelV x u/\RelV y v
 |_,_,_,.cons r (.cons q .nil)=>⟨_,_,rfl,r,q⟩
def Vals.zero:∀ {us:List Value},Vals [] us->us=[]
 |_,.nil=>rfl
def Vals.eraseIdx:∀ {xs:List V} {us:List Value} (i:Nat),Vals xs us->Vals (xs.eraseIdx i) (us.eraseIdx i)
 |_,_,_,.nil=>.nil
 |_,_,0,.cons _ t=>t
 |_,_,i+1,.cons r t=>.cons r (Vals.eraseIdx i t)
section
variable {y3:Q3} {U:St} {H:Hp} {l:Addr} {xs ys:List V}
def Inv.lset{its its':List Value}{n:Nat}{f:Array Value->Array Value}{t':Nat}(I:Inv X y3 U H s)(hH:H l=some (.lst xs))(e:s.heap.get? l=some {cls:=.type "list",data:=.seq its.toArray n})(hf:f its.toArray=its'.toArray)(hv:Vals ys its')(hz:ys.length<=sizeLine):Inv X y3 U (upd H l (.lst ys)) {s with heap:=s.heap.update l (Obj.mapSeq f),toks:=t'}:=by
 have q:=PySem.IsL.update e f
 rw[hf]at q;refine I.write (x:=l) (e:=l) (by rw[hH];exact trivial) (.inl rfl) (λb' u hb hu=>(Bx s.heap (Obj.mapSeq f) (Ne.symm hb)).trans hu) ⟨_,q⟩ ?_
 exact⟨hz,its',_,hv,q⟩
def Inv.lnew{its:List Value}{t':Nat}(I:Inv X y3 U H s)(hv:Vals ys its)(hz:ys.length<=sizeLine):Inv X y3 U (upd H s.heap.objs.size (.lst ys)) {s with heap:=s.heap.push {cls:=.type "list",data:=.seq its.toArray},toks:=t'}:=
 I.laid (λ_ _ q=>Ad _ q) (Ai _) ⟨hz,its,0,hv,Aw _ rfl⟩
def Inv.fresh(I:Inv X y3 U H s):H s.heap.objs.size=none:=I.hok.fresh (Ai _)
def Inv.lstM(I:Inv X y3 U H s)(hH:H l=some (.lst xs)):xs.length<=sizeLine/\∃(its:List Value) (n:Nat),Vals xs its/\xs.length=its.length/\s.heap.get? l=some {cls:=.type "list",data:=.seq its.toArray n}:=by
 obtain⟨z,its,n,r,e⟩:=I.hok l _ hH;exact⟨z,its,n,r,r.length,e⟩
def aZA{n:Nat}(h:n<=sizeLine):Builtin.List.listTooLong n=false:=by
 unfold Builtin.List.listTooLong;exact Bb (by omega)
end
def wF:V->List V->Hp->VK->Prop:=λx vs H Q=>∃l xs y,x=.ref l/\vs=[y]/\H l=some (.lst xs)/\xs.length<sizeLine/\Q .non (upd H l (.lst (xs++[y])))
def pA:MtM X "list.append" wF:=by
 intro y3 s U H x vs v us Q I rx rv h;obtain⟨l,xs,y,rfl,rfl,hH,hz,q⟩:=h;cases rx;obtain⟨u,rfl,ru⟩:=rv.one;obtain⟨z,its,n,r,hl,e⟩:=I.lstM hH;refine call_meets F.slot_list_append ⟨_,e,rfl⟩ F.entry_list_append (F.args_list_append_2 _ _) (PySem.list_append l its.toArray n u (by rw[Be];omega)) ⟨e,?_⟩
 refine⟨.non,_,I.lset (its':=its++[u]) hH e (by simp) (r.append (.cons ru .nil)) ?_,rfl,q⟩
 rw[Ar,List.length_singleton];omega
def xD:V->List V->Hp->VK->Prop:=λx vs H Q=>∃l b xs zs,x=.ref l/\vs=[.ref b]/\H l=some (.lst xs)/\H b=some (.lst zs)/\xs.length+zs.length<=sizeLine/\Q .non (upd H l (.lst (xs++zs)))
def yA:MtM X "list.extend" xD:=by
 intro y3 s U H x vs v us Q I rx rv h;obtain⟨l,b,xs,zs,rfl,rfl,hH,hB,hz,q⟩:=h;cases rx;obtain⟨u,rfl,ru⟩:=rv.one;cases ru;obtain⟨z,its,n,r,hl,e⟩:=I.lstM hH;obtain⟨z2,its2,n2,r2,hl2,e2⟩:=I.lstM hB;have hsz:its.toArray.size+its2.toArray.size<=sizeLine:=by rw[Be,Be];omega
 have hlong:¬(!its.toArray.isEmpty&&Builtin.List.listTooLong (its.toArray.size+its2.toArray.size))=true:=by
  rw[aZA hsz,Bool.and_false];exact An
 refine call_meets F.slot_list_extend ⟨_,e,rfl⟩ F.entry_list_extend (F.args_list_extend_2 _ _)
  (AutoSeq1.list_extend_list_list_0 l its.toArray n b its2.toArray n2 hlong (by rw[Be];omega) (by omega)) ⟨e,e2,?_⟩
 refine⟨.non,_,I.lset (its':=its++its2) hH e (by simp) (r.append r2) ?_,rfl,q⟩
 rw[Ar];omega
def aZQ:V->List V->Hp->VK->Prop:=λx vs H Q=>∃l xs,x=.ref l/\vs=[]/\H l=some (.lst xs)/\Q .non (upd H l (.lst []))
def aZP:MtM X "list.clear" aZQ:=by
 intro y3 s U H x vs v us Q I rx rv h;obtain⟨l,xs,rfl,rfl,hH,q⟩:=h;cases rx;have hus:=rv.zero
 subst hus;obtain⟨z,its,n,r,hl,e⟩:=I.lstM hH;refine call_meets F.slot_list_clear ⟨_,e,rfl⟩ F.entry_list_clear (F.args_list_clear_1 _) (AutoSeq1.list_clear_list_0 l its.toArray n (by rw[Be];omega)) ⟨e,?_⟩
 exact⟨.non,_,I.lset (its':=[]) (ys:=[]) hH e rfl .nil (Cq _),rfl,q⟩
def dXO:R2:=λx y H Q=>∃l b xs zs,x=.ref l/\y=.ref b/\H l=some (.lst xs)/\H b=some (.lst zs)/\xs.length+zs.length<=sizeLine/\∀p,H p=none->Q (.ref p) (upd H p (.lst (xs++zs)))
def cZG:OpR X (binaryOp .Add) dXO:=by
 intro y3 s U H x y v u Q I rx ry h;obtain⟨l,b,xs,zs,rfl,rfl,hH,hB,hz,q⟩:=h;cases rx;cases ry;obtain⟨z,its,n,r,hl,e⟩:=I.lstM hH;obtain⟨z2,its2,n2,r2,hl2,e2⟩:=I.lstM hB;refine PySem.P.add_list e e2 ?_ (by rw[Be,Be];omega)
 have ea:its.toArray++its2.toArray=(its++its2).toArray:=by simp
 rw[ea];exact⟨.ref _,_,I.lnew (t':=s.toks) (r.append r2) (by rw[Ar];omega),rfl,q _ I.fresh⟩
end L2
namespace Att
open PySem PySem.W PySem.Calls PyProof.Rows
def kJ{P:Params}{h:Heap}:∀(ns:List Int) (vs:List Value),WellAll P h vs (ns.map WData.int)->IntsAre vs ns:=by
 intro ns;induction ns with
 |nil=>
  intro vs w;rw[List.map_nil]at w;cases w;exact .nil
 |cons n ns ih=>
  intro vs w;rw[Aq]at w;cases w with
  |cons a b=>
   cases a;exact .cons _ _ (ih _ b)
def zW{l:OpenLaw}{n:Nat}(hn:l.most=some n){P:Params}{h:Heap}{args:List WData}{vals:List Value}(hpre:l.row.toRowW.claim.pre args=true)(hwl:WellAll P h vals args):∃a vs ns,vals=[Value.ref a]/\args=[WData.list (ns.map WData.int)]/\h.get? a=some {cls:=.type "list",data:=.seq vs.toArray}/\IntsAre vs ns/\ns.length<=n:=by
 have hsh:WShape.hasAll [] args [.list .int]=true:=(pre_splitW hpre).1
 have hc:l.pre.holds [] {args:=args}=true:=(pre_splitW hpre).2
 obtain⟨d,r,rfl,h1,h2⟩:=hasAllW_cons hsh;obtain rfl:=hasAllW_nil h2;obtain⟨xs,rfl,h3⟩:=hasW_list h1;obtain⟨ns,rfl⟩:=items_int h3;have hlen:ns.length<=n:=by
  unfold OpenLaw.pre at hc;have h4:(WTm.not (.lt (.lit (.int (n:Int))) (.len (.arg 0)))).holds [] {args:=[.list (ns.map .int)]}=true:=by
   have h4:=(holds_andW hc).1
   rw[hn]at h4;exact h4
  have h5:=condW_of h4 (w_not (w_lt w_lit (w_len_list (w_arg rfl))))
  rw[Ac]at h5;refine Nat.le_of_not_lt λq=>?_;have q':(n:Int)<((ns.length:Nat):Int):=by omega
  first
   |(rw[Au q']at h5;exact absurd h5 (by decide))
   |(simp at h5;omega)
 cases hwl with
 |cons w1 w2=>
  cases w2;cases w1 with
  |list ho hall=>exact⟨_,_,ns,rfl,rfl,ho,kJ ns _ hall,hlen⟩
def zV(l:OpenLaw)(args:List WData):l.row.toRowW.claim.post args (.bool true) args=true:=
 postW_of (r:=l.row.toRowW) (X:=(true==true))
  (show WShape.has [] (.bool true) .bool=true by first|rfl|decide|simp[WShape.has,WShape.arms,WShape.armsAll])
  (show (WTm.eq .res (.lit (.bool true))).value [] {args:=args,res:=some (.bool true),after:=args}=some (.bool (true==true)) from w_eq_bool (w_res rfl) w_lit) rfl
def attach_call{l:OpenLaw}{n:Nat}{q:Program}{loose:List Str}{XP:(Q4)->Heap->Prop}{YP:World->Heap->Prop}{d:DefRec}(hn:l.most=some n)(hdf:d.params.defaults=[])(call:∀(w:World) (s₀ s₁:Shared) (mg mb:Q4) (fa:Addr) (o:Obj) (pm cd doc:Value) (a:Addr) (vs:List Value) (ns:List Int),
 Ground q loose [] XP w s₀ mg mb s₁.heap->YP w s₁.heap->
 s₁.heap.get? fa=some o->o.data=.func (docDef d.name d.params d.body d.scope pm cd doc)->s₁.heap.CodeRec cd d.name->mg d.name=some (.ref fa)->
 s₁.heap.get? a=some {cls:=.type "list",data:=.seq vs.toArray}->IntsAre vs ns->ns.length<=n->s₁.gens=#[]->
 codeAny (model l.prog w) callerA (.call (.ref fa) ⟨[.ref a],[]⟩) (λr s'=>r=.ok (.ret (.bool true))/\OldK s₁.heap s'.heap/\s'.os=s₁.os/\AllBare s'.gens) s₁):WalkO q loose XP YP l.row.toRowW d [] (λf vs=>PySem.call f vs):=by
 intro w s₀ s₁ mg mb G Y fa o pm cd doc dV kV ho hd hcd hD hmg hg args vals as hpre hlay hrd hwl hlo;obtain rfl:dV=.none:=Dflts.none hD hdf;obtain rfl:kV=.none:=Dflts.noKw hD;obtain⟨a,vs,ns,rfl,rfl,hobj,hints,hlen⟩:=zW hn hpre hwl;refine enter_call (Ex (call w s₀ s₁ mg mb fa o pm cd doc a vs ns G Y ho (fd_plain hd) hcd hmg hobj hints hlen hg) λr s' hq=>?_);obtain⟨rfl,h2,h3,h4⟩:=hq;exact⟨.inl ⟨.bool true,.bool true,[],rfl,λ_=>rfl,.bool true,zV l _,λ_=>⟨List.Pairwise.nil,λ_ hm=>(nomatch hm)⟩⟩,h2,h3,h4⟩
end Att
namespace L2
open PySem PySem.Spec PyProof.Rows
variable {fd:FuncData}{x:Str}
def nK:∀ {vs:List Value} {ns:List Int},IntsAre vs ns->Vals (ns.map V.int) vs
 |_,_,.nil=>.nil
 |_,_,.cons n t h=>.cons ⟨t,rfl⟩ (nK h)
def cX8(H:Hp):Prop:=∀b,H b=none\/∃o xs,H b=some (.frz o (.lst xs))
def aQ5{P:Program}{w:World}{K:W.Frag}{mg mb:Q4}{CX:CXT}{k:Nat}{fa a:Addr}{sp:Sp}{s₁:Shared}{vs:List Value}{ns:List Int}(KX:K.In s₁.heap)(hns:s₁.heap.Ns mainGlobals mg)(hb:s₁.heap.Ns builtinsNs mb)(hbb:∀x:Str,x≠"__name__"->mb x=bootBuiltins x)(hlim:s₁.heap.NoLimit)(hg:s₁.gens=#[])(ha:s₁.heap.get? a=some {cls:=.type "list",data:=.seq vs.toArray})(hi:IntsAre vs ns)(hl:ns.length<=sizeLine)(hr:Room k callerA)(F:∀base:Heap,K.In base->base.Ns mainGlobals mg->FnOk P w K mg base CX k fa fd [x] sp)(hbind:∀(s:Shared) (u:Value),BindsTo s fd ⟨[u],[]⟩ [(x,u)])(hsp:∀H:Hp,cX8 H->SqL K H a (ns.map V.int)->sp [.ref a] H (λv _=>v=.bl true) λ_ _ _=>False)(hCX:∀H e s',CX none [] H s₁ (λ_ _ _=>False) e s'->False):codeAny (model P w) callerA (.call (.ref fa) ⟨[.ref a],[]⟩) (λr s'=>r=.ok (.ret (.bool true))/\OldK s₁.heap s'.heap/\s'.os=s₁.os/\AllBare s'.gens) s₁:=by
 have rv:=nK hi
 have lenV:=hi.length
 -- from an abstract heap in which nothing but the script may be tracked
 have core:∀ H:Hp,cX8 H->SqL K H a (ns.map V.int)->HOk P w H s₁.heap->(∀ b,H b≠none->b=a)->(H a≠none->K.lookup a=none)->
     codeAny (model P w) callerA (.call (.ref fa) ⟨[.ref a],[]⟩) (λr s'=>r=.ok (.ret (.bool true))/\OldK s₁.heap s'.heap/\s'.os=s₁.os/\AllBare s'.gens) s₁:=by
  intro H hO hS hok hA hK;have base_of:∀ {b:Addr} {o:Obj},s₁.heap.get? b=some o->H b=none->(pH s₁.heap H).get? b=some o:=λe n=>aZ7 e n
  have noA:∀ {b:Addr} {o:Obj} {es:Array DictEntry} {ep:Nat},s₁.heap.get? b=some o->o.data=.dict es ep->H b=none:=fun {b o es ep} e d=>by
   cases q:H b with
   |none=>rfl
   |some u=>
    have e':b=a:=hA b (by rw[q];simp)
    subst e';rw[ha]at e;cases e;have d':Data.seq vs.toArray _=Data.dict es ep:=d
    cases d'
  have nsK:∀ {b:Addr} {m:Q4},s₁.heap.Ns b m->(pH s₁.heap H).Ns b m:=fun {b m} ⟨o,es,ep,e,d,r⟩=>⟨o,es,ep,base_of e (noA e d),d,r⟩
  have hKb:K.In (pH s₁.heap H):=λb o e=>base_of (KX b o e) (by
   cases q:H b with
   |none=>rfl
   |some u=>
    have e':b=a:=hA b (by rw[q];simp)
    subst e';rw[hK (by rw[q];simp)]at e;cases e)
  have hM:Mod K mg (pH s₁.heap H):=⟨hKb,nsK hns,⟨mb,nsK hb,hbb⟩,let ⟨mc,h1,h2⟩:=hlim;⟨mc,nsK h1,h2⟩⟩
  have e0:Env0 P w K mg (pH s₁.heap H) callerA [] s₁ H:=⟨rfl,hM,λb o e=>bZE e,Nat.le_of_eq (zP _ _),trivial,λb hb=>absurd (show b∈([]:List Addr) from hb) (by simp),hok,.of_eq hg,[],rfl,List.nodup_nil,trivial⟩
  refine Ex ((F _ hKb (nsK hns)).run callerA [] s₁ H ⟨[.ref a],[]⟩ [.ref a] [.ref a] _ _ hr e0 (hbind s₁ (.ref a)) (.cons rfl .nil) (hsp H hO hS)) λr s' h=>?_;cases r with
  |error e=>exact(hCX H e s' h).elim
  |ok fl=>
   cases fl with
   |next=>exact False.elim h
   |brk=>exact False.elim h
   |cont=>exact False.elim h
   |ret u=>
    obtain⟨v,H',os,bare,un,hok',r',q⟩:=h;have q':v=.bl true:=q
    subst q';obtain rfl:u=Value.bool true:=r';refine⟨rfl,OldK.of_keep λb o e=>?_,os,bare⟩;cases q:H b with
    |none=>exact un.keep b o e q (by intro z;exact absurd (show b∈([]:List Addr) from z) (by simp)) (by simp)
    |some u=>
     rcases hO b with z|⟨ob,xs,z⟩
     .rw[q]at z;cases z
     .have z2:=un.frzs b ob _ z
      obtain⟨e1,_⟩:=hok b _ z;obtain⟨e2,_⟩:=hok' b _ z2;rw[e]at e1;cases e1;exact e2
 cases hk:K.lookup a with
 |some o=>
  -- the script is one of the module's own objects
  have e:=KX a o hk
  rw[ha]at e;cases e;refine core (λ_=>none) (λ_=>.inl rfl) (.inr ⟨_,vs.toArray,_,hk,rfl,rfl,rfl,by rw[List.size_toArray,lenV];exact hl,by simpa using rv⟩) (λb u z=>by have z':(none:Option HO)=some u:=z;cases z') (λb z=>absurd rfl z) λz=>absurd rfl z
 |none=>
  refine core (λb=>if b=a then some (.frz {cls:=.type "list",data:=.seq vs.toArray} (.lst (ns.map V.int))) else none) (λb=>?_) (.inl (.inr ⟨{cls:=.type "list",data:=.seq vs.toArray},if_pos rfl⟩)) (λb u z=>?_) (λb z=>?_) λ_=>hk
  .by_cases hb:b=a
   .exact .inr ⟨_,_,if_pos hb⟩
   .exact .inl (if_neg hb)
  .by_cases hb:b=a
   .have z':=(if_pos hb).symm.trans z
    cases z';subst hb;exact⟨ha,by rw[Ac];exact hl,vs,_,rv,ha⟩
   .have z':=(if_neg hb).symm.trans z
    cases z'
  .by_cases hb:b=a
   .exact hb
   .exact absurd (if_neg hb) z
def bQ1{l:W.OpenLaw}{n k:Nat}{q:Program}{loose:List Str}{XP:(Q4)->Heap->Prop}{YP:World->Heap->Prop}{d:DefRec}{K:Params->W.Frag}{CX:World->CXT}{sp:World->Sp}(hn:l.most=some n)(hn2:n<=sizeLine)(hdf:d.params.defaults=[])(hr:Room k callerA)(hY:∀(w:World) (h:Heap),YP w h->(K w.params).In h)(F:∀(w:World) (mg:Q4) (fa:Addr) (h:Heap),(K w.params).In h->h.Ns mainGlobals mg->mg d.name=some (.ref fa)->
 ∃fd:FuncData,(∀(s:Shared) (u:Value),BindsTo s fd ⟨[u],[]⟩ [(x,u)])/\
  ∀base:Heap,(K w.params).In base->base.Ns mainGlobals mg->FnOk l.prog w (K w.params) mg base (CX w) k fa fd [x] (sp w))(hsp:∀(w:World) (H:Hp) (a:Addr) (ns:List Int),ns.length<=n->cX8 H->SqL (K w.params) H a (ns.map V.int)->sp w [.ref a] H (λv _=>v=.bl true) λ_ _ _=>False)(hCX:∀(w:World) (H:Hp) (s:Shared) (e:Value) (s':Shared),CX w none [] H s (λ_ _ _=>False) e s'->False):W.WalkO q loose XP YP l.row.toRowW d [] (λf vs=>PySem.call f vs):=by
 refine Att.attach_call hn hdf λw s₀ s₁ mg mb fa o pm cd doc a vs ns G Y ho hd hcd hmg hobj hints hlen hg=>?_;have KX:=hY w _ Y
 obtain⟨fd,hb,hF⟩:=F w mg fa _ KX G.T.g hmg;exact aQ5 KX G.T.g G.T.b G.T.builtins G.T.nolimit hg hobj hints (Bf hlen hn2) hr hF hb (λH hO hS=>hsp w H a ns hlen hO hS) λH e s'=>hCX w H s₁ e s'
def eO(s:Stmt):Arguments:=match s with
 |.FunctionDef _ a _ _ _ _ _ _ _ _=>a
 |_=>{posonlyargs:=[],args:=[],vararg:=none,kwonlyargs:=[],kw_defaults:=[],kwarg:=none,defaults:=[]}
def dE(s:Stmt):List Stmt:=match s with
 |.FunctionDef _ _ b _ _ _ _ _ _ _=>b
 |_=>[]
def aK(s:Stmt):Scope:=match s with
 |.FunctionDef _ _ _ _ _ _ sc _ _ _=>sc
 |_=>{kind:=.function,names:=[],isGenerator:=false,isCoroutine:=false}
abbrev CX0:CXT:=λ_ _ _ _ _ _ _=>False
abbrev E0:XK:=λ_ _ _=>False
def dQ2{X:Cx}:mF CX0 X E0:=λ_ _ _ _ _ _ _ h=>h.elim
structure Fun (K:W.Frag) (x qual:Str) (st:Stmt) (f:Addr) (fd:FuncData):Prop where
 ex:∃(oc:Value) (od:Option Addr) (kV doc pm:Value) (an:Option Addr) (cdv ct:Value) (osl:Array (Option Value)),
  fd=W.fnOf x qual (eO st) (dE st) (aK st) .none kV doc pm an cdv ct/\K.lookup f=some ⟨oc,od,.func fd,osl⟩/\W.codeIn K cdv qual=true
 kp:W.keepIn K (.ref f)=true
section
variable {P:Program} {w:World} {K:W.Frag} {mg:Q4} {base:Heap}
def Fun.ok{qual:Str}{st:Stmt}{f:Addr}{N ps:List Str}{k:Nat}{sp:Sp}(F:Fun K x qual st f fd)(S:FnScope N ps (aK st))(len:∀vs H Q E,sp vs H Q E->vs.length=ps.length)(hbody:∀(cdv:Value) (A:Around) (outer:List Env) (s:Shared) (H:Hp) (vs:List V) (Q:VK) (E:XK),Room k (A.deeper (envOfC qual (aK st) s.heap.objs.size f cdv))->sp vs H Q E->
 ∃t,PSs (iY CX0 P w K mg base N qual (aK st) f cdv A outer s H E).nox (dE st) t/\t {nx:=λ_ H'=>Q .non H',rt:=Q} (fQ N vs) H):FnOk P w K mg base CX0 (k+1) f fd ps sp:=by
 obtain⟨oc,od,kV,doc,pm,an,cdv,ct,osl,rfl,lk,hcd⟩:=F.ex;refine bZY lk hcd S len λA outer s H vs Q E hr hsp=>?_;obtain⟨t,h,q⟩:=hbody cdv A outer s H vs Q E hr hsp;exact⟨t,h.nox,q⟩
def Fun.binds{qual:Str}{st:Stmt}{f:Addr}{ps:List Str}(F:Fun K x qual st f fd)(h:∀(kV doc pm:Value) (an:Option Addr) (cdv ct:Value) (us:List Value),us.length=ps.length->bindArgs (W.fnOf x qual (eO st) (dE st) (aK st) .none kV doc pm an cdv ct) ⟨us,[]⟩=pure (ps.zip us)):Binds K fd ps []:=by
 obtain⟨oc,od,kV,doc,pm,an,cdv,ct,osl,rfl,lk,hcd⟩:=F.ex;exact .all (h kV doc pm an cdv ct)
def aZZ{qual:Str}{st:Stmt}{f:Addr}{oc:Value}{od an:Option Addr}{osl:Array (Option Value)}{kV doc pm cdv ct:Value}(l:K.lookup f=some ⟨oc,od,.func (W.fnOf x qual (eO st) (dE st) (aK st) .none kV doc pm an cdv ct),osl⟩)(c:W.codeIn K cdv qual=true)(k:W.keepIn K (.ref f)=true):Fun K x qual st f (W.fnOf x qual (eO st) (dE st) (aK st) .none kV doc pm an cdv ct):=⟨⟨oc,od,kV,doc,pm,an,cdv,ct,osl,rfl,l,c⟩,k⟩
end
section
variable {X:Cx}
def pv(i:Nat){pos:Pos}(hN:X.N[i]?=some x:=by rfl)(hv:Vis X.env.scope x:=by first|exact Or.inl rfl|exact Or.inr (Or.inl rfl)|exact Or.inr (Or.inr rfl))(hd:(x==("__debug__" : Str))=false:=by decide)(hcd:(x==("__classdict__" : Str))=false:=by decide):PE X (.Name x pos) (cJT i):=cQN hN hv hd hcd
end
def dXI{A B:Prop}(h:B):if false=true then A else B:=by
 rw[if_neg An];exact h
def dQ7{A B:Prop}(h:A):if true=true then A else B:=by
 rw[if_pos rfl];exact h
def mU{c A B:Prop}[Decidable c](h1:c->A)(h2:¬c->B):if c then A else B:=by
 by_cases h:c
 .rw[if_pos h];exact h1 h
 .rw[if_neg h];exact h2 h
def Same(H H':Hp):Prop:=∀b o,H b=some o->H' b=some o
def Same.refl(H:Hp):Same H H:=λ_ _ h=>h
def Same.trans{H H1 H2:Hp}(a:Same H H1)(b:Same H1 H2):Same H H2:=λc o h=>b c o (a c o h)
def Same.seq{K:W.Frag}{H H':Hp}{a:Addr}{xs:List V}(e:Same H H')(h:SqL K H a xs):SqL K H' a xs:=by
 rcases h with(h|⟨o,h⟩)|h
 .exact .inl (.inl (e _ _ h))
 .exact .inl (.inr ⟨o,e _ _ h⟩)
 .exact .inr h
end L2
namespace FlT
open PySem PySem.Spec PyProof.Rows
def app_cps(x y:Str):(x++y).cps.toList=x.cps.toList++y.cps.toList:=by
 show (x.cps++y.cps).toList=_
 simp
def str_ext{x y:Str}(h:x.cps.toList=y.cps.toList):x=y:=by
 obtain⟨⟨x⟩⟩:=x;obtain⟨⟨y⟩⟩:=y;cases h;rfl
end FlT
namespace L2
open PySem PySem.Spec PyProof.Rows
variable {A:Around}{C S a b dx ea f it p q:Addr}{D:Ends}{E:Q2}{H H' H1 Hc Hs:Hp}{K:W.Frag}{N:List Str}{P prog:Program}{Q:VK}{R:It->Hp->Prop}{T:String}{X:Cx}{apos cpos pos tp:Pos}{ch fp ps rs:List Addr}{cl:List (Str×Addr)}{d:Option Addr}{e iter l tg:Expr}{elts ifs:List Expr}{env:Env}{ep i j k' mask n wanted x1:Nat}{es:Array (Int×Value)}{fs:List (List V)}{g:TG}{h h':Heap}{hs:Array Int}{ks:List Nat}{kvs kws:List (Key×V)}{lo:Int}{name x z:Str}{neg:Bool}{o oe:Obj}{order:Array Nat}{outer:List Env}{owner:Array (Option Nat)}{y3:Q3}{r:V->List V->Hp->VK->Prop}{s:Shared}{scope:Scope}{sp:Sp}{ta:TA}{tb:TS}{te tl to tv:TE}{tests:TT}{u:Value}{v y:V}{vals:St->St}{vs:List Value}{w w0:World}{ws:List (Nat×Nat)}{xs ys:List V}{α:Type}{U U0:St}
def PE.imp{t t':TE}(h:PE X e t)(i:∀U H Q,t' U H Q->t U H Q):PE X e t':=λy3 s U H Q I q=>h y3 s U H Q I (i U H Q q)
def OpR.imp{f:Value->Value->Sem Value}{r r':R2}(h:OpR X f r)(i:∀x y H Q,r' x y H Q->r x y H Q):OpR X f r':=λy3 s U H x y v u Q I rx ry q=>h y3 s U H x y v u Q I rx ry (i x y H Q q)
def CallR.imp{f:Value}{r r':List V->Hp->VK->Prop}(h:CallR X f r)(i:∀xs H Q,r' xs H Q->r xs H Q):CallR X f r':=λy3 s U H xs us Q I rx q=>h y3 s U H xs us Q I rx (i xs H Q q)
def MtR.imp{id:String}{r r':V->List V->Hp->VK->Prop}(h:MtR X id r)(i:∀x xs H Q,r' x xs H Q->r x xs H Q):MtR X id r':=λy3 s U H x xs v us Q I rx rs q=>h y3 s U H x xs v us Q I rx rs (i x xs H Q q)
def IxR.imp{r r':R2}(h:IxR X r)(i:∀x y H Q,r' x y H Q->r x y H Q):IxR X r':=λvalue slice y3 s U H x y v u Q I rx ry q hs=>h value slice y3 s U H x y v u Q I rx ry (i x y H Q q) hs
def SlR.imp{r r':V->Option Int->Option Int->Hp->VK->Prop}(h:SlR X r)(i:∀x lo hi H Q,r' x lo hi H Q->r x lo hi H Q):SlR X r':=λy3 s U H x v vl vu lo hi sl Q I rx hs pl pu q=>h y3 s U H x v vl vu lo hi sl Q I rx hs pl pu (i x lo hi H Q q)
def Its(z:Str):It:=⟨λi _=>i<z.cps.size,λi H x H'=>H'=H/\∃c,z.cps[i]?=some c/\x=.str ⟨#[c]⟩,λi _=>z.cps.size<=i⟩
def vM(z:Str)(t:Tok)(it:Addr):Turn P w K tg (Its z) [it] it (λi h=>h.IsStrIter it "str_ascii_iterator" z t i) where
 mem:=by simp
 obj:=λi h st b hb=>by
  have e:b=it:=by simpa using hb
  subst e;obtain⟨o,e,c,d⟩:=st;exact⟨o,e,λv z=>by rw[d]at z;cases z⟩
 keep:=λi h h' st k=>let ⟨o,ho,r⟩:=st;⟨o,k it (by simp) o ho,r⟩
 item:=by
  intro X hP hw hK hc i y3 s U H E I hf st hg;subst hP hw hK;obtain⟨f0,f1,f2,f3,f4,f5⟩:=hf it (by simp)
  have hi:i<z.cps.size:=hg
  refine wpAny_pyNext_ascii_item st (c:=z.cps[i]) (by simp[hi]) λh' st' sb=>?_
  have I1:Inv X y3 U H {s with heap:=h',toks:=s.toks+1}:=I.turned (λb o hb e=>(sb.2 b hb).trans e) f0 f1 f3 f4 f5
  obtain⟨o,e,c,d⟩:=id st';exact⟨_,rfl,nV (s:={s with heap:=h',toks:=s.toks+1}) e c d (by decide) ⟨.str ⟨#[z.cps[i]]⟩,H,I1,⟨_,rfl⟩,⟨rfl,_,by simp[hi],rfl⟩,st',λb hb=>(hf b hb).1⟩⟩
 done:=by
  intro X hP hw hK hc i y3 s U H E I hf st hg;subst hP hw hK;obtain⟨f0,f1,f2,f3,f4,f5⟩:=hf it (by simp)
  have hi:z.cps.size<=i:=hg
  obtain⟨ch,hh,hcn,hnx⟩:=I.soft hc;exact zK hh (hnx it f3) hcn st (by simp[hi]) λh' eb=>⟨rfl,I.turned (t':=s.toks) (λb o hb e=>eb b o hb e) f0 f1 f3 f4 f5⟩
 self:=λ_ _ _ _ _ st h=>wpAny_pyIter_striter_ascii st h
def aQF(z:Str)(t:Tok)(it:Addr):Turn P w K tg (Its z) [it] it (λi h=>h.IsStrIter it "str_iterator" z t i) where
 mem:=by simp
 obj:=λi h st b hb=>by
  have e:b=it:=by simpa using hb
  subst e;obtain⟨o,e,c,d⟩:=st;exact⟨o,e,λv z=>by rw[d]at z;cases z⟩
 keep:=λi h h' st k=>let ⟨o,ho,r⟩:=st;⟨o,k it (by simp) o ho,r⟩
 item:=by
  intro X hP hw hK hc i y3 s U H E I hf st hg;subst hP hw hK;obtain⟨f0,f1,f2,f3,f4,f5⟩:=hf it (by simp)
  have hi:i<z.cps.size:=hg
  refine wpAny_pyNext_wide_item st (c:=z.cps[i]) (by simp[hi]) λh' st' sb=>?_
  have I1:Inv X y3 U H {s with heap:=h',toks:=s.toks+1}:=I.turned (λb o hb e=>(sb.2 b hb).trans e) f0 f1 f3 f4 f5
  obtain⟨o,e,c,d⟩:=id st';exact⟨_,rfl,nV (s:={s with heap:=h',toks:=s.toks+1}) e c d (by decide) ⟨.str ⟨#[z.cps[i]]⟩,H,I1,⟨_,rfl⟩,⟨rfl,_,by simp[hi],rfl⟩,st',λb hb=>(hf b hb).1⟩⟩
 done:=by
  intro X hP hw hK hc i y3 s U H E I hf st hg;subst hP hw hK;obtain⟨f0,f1,f2,f3,f4,f5⟩:=hf it (by simp)
  have hi:z.cps.size<=i:=hg
  obtain⟨ch,hh,hcn,hnx⟩:=I.soft hc;exact yT hh (hnx it f3) hcn st (by simp[hi]) λh' eb=>⟨rfl,I.turned (t':=s.toks) (λb o hb e=>eb b o hb e) f0 f1 f3 f4 f5⟩
 self:=λ_ _ _ _ _ st h=>wpAny_pyIter_striter_wide st h
def bXG(Pv:Nat->St->Hp->Prop)(h0:Pv 0 U H)(hs:∀i c U H,z.cps.toList[i]?=some c->Pv i U H->g (.str ⟨#[c]⟩) U H λU2 H2=>tb {D with nx:=Pv (i+1),ct:=Pv (i+1),bk:=D.nx} U2 H2)(hd:∀U H,Pv z.cps.toList.length U H->D.nx U H):∃W:Nat->Nat->St->Hp->Prop,(∃m,W 0 m U H)/\∀i m U H,W i m U H->
 ((Its z).stop i H/\D.nx U H)\/((Its z).go i H/\∃N:St->Hp->Prop,(∀U' H',N U' H'->∃m',m' < m/\W (i+1) m' U' H')/\∀x H',(Its z).yld i H x H'->g x U H' λU2 H2=>tb {D with nx:=N,ct:=N,bk:=D.nx} U2 H2):=by
 have hl:z.cps.toList.length=z.cps.size:=by simp
 rw[hl]at hd;refine⟨λi m U H=>m=z.cps.size-i/\i<=z.cps.size/\Pv i U H,⟨z.cps.size,by simp,Nat.zero_le _,h0⟩,?_⟩
 rintro i m U H ⟨rfl,hi,p⟩;by_cases hlt:i<z.cps.size
 .refine .inr ⟨hlt,Pv (i+1),λU' H' p'=>⟨z.cps.size-(i+1),by omega,rfl,hlt,p'⟩,λx H' y=>?_⟩
  obtain⟨e,c,hc,hx⟩:=y;subst e hx;exact hs i c U _ (by simpa using hc) p
 .have e:i=z.cps.size:=by omega
  subst e;exact .inl ⟨Ai _,hd U H p⟩
section
variable {b:Expr}
def dQ8:V->Option Int->Option Int->Hp->VK->Prop:=λx lo hi H Q=>∃z,x=.str z/\z.length<=sizeLine/\Q (.str (Txt.slice z lo hi)) H
def bJS:SlR X dQ8:=by
 intro y3 s U H x v vl vu lo hi sl Q I rx hs pl pu h;obtain⟨z,rfl,hz,q⟩:=h;obtain⟨t,rfl⟩:=rx;refine⟨"str",_,PySem.F.slot_str_getitem.lookup,typeIs_str _ _ _,?_⟩;cases pl with
 |none=>
  cases pu with
  |none=>exact Ff (l:=none) (u:=none) (st:=none) hs rfl (post_val_or_str ⟨Bf (Txt.slice_le z _ _) hz,λt' k=>⟨.str (Txt.slice z none none),H,I.tok _,⟨_,rfl⟩,q⟩⟩)
  |int j uj=>exact Ff (l:=none) (u:=some (j,uj)) (st:=none) hs rfl (post_val_or_str ⟨Bf (Txt.slice_le z _ _) hz,λt' k=>⟨.str (Txt.slice z none (some j)),H,I.tok _,⟨_,rfl⟩,q⟩⟩)
 |int i ui=>
  cases pu with
  |none=>exact Ff (l:=some (i,ui)) (u:=none) (st:=none) hs rfl (post_val_or_str ⟨Bf (Txt.slice_le z _ _) hz,λt' k=>⟨.str (Txt.slice z (some i) none),H,I.tok _,⟨_,rfl⟩,q⟩⟩)
  |int j uj=>exact Ff (l:=some (i,ui)) (u:=some (j,uj)) (st:=none) hs rfl (post_val_or_str ⟨Bf (Txt.slice_le z _ _) hz,λt' k=>⟨.str (Txt.slice z (some i) (some j)),H,I.tok _,⟨_,rfl⟩,q⟩⟩)
def vF{ys:List Str}:∀ {us:List Value},Vals (ys.map V.str) us->StrsAre us ys:=by
 induction ys with
 |nil=>intro us r;rw[List.map_nil]at r;cases r;exact .nil
 |cons n ns ih=>
  intro us r;rw[Aq]at r;cases r with
  |cons r1 r2=>
   obtain⟨t,e⟩:=r1;subst e;exact .cons n t (ih r2)
def dQG(K:W.Frag):V->List V->Hp->VK->Prop:=λx vs H Q=>∃z p ys,x=.str z/\vs=[.ref p]/\SqL K H p (ys.map V.str)/\(ys.map (·.length)).sum+ys.length*z.length<=16777216/\Q (.str (Txt.join z ys)) H
def mt_join:MtR X "str.join" (dQG X.K):=by
 intro y3 s U H x vs v us Q I rx rv h;obtain⟨z,p,ys,rfl,rfl,hp,hz,q⟩:=h;obtain⟨t,rfl⟩:=rx;obtain⟨u,rfl,ru⟩:=rv.one;cases ru;obtain⟨its,r,pl,_⟩:=I.list hp;exact join_list pl.isList (by simpa using vF r) hz λt' k=>⟨.str (Txt.join z ys),H,I.tok _,⟨_,rfl⟩,q⟩
def mY:CallR X (.type "int") (λxs H Q=>∃x n,xs=[.str x]/\PySem.intText? x=some n/\x.length<=640/\Q (.int n) H):=by
 intro y3 s U H xs us Q I r h;obtain⟨x,n,rfl,hn,hl,q⟩:=h;obtain⟨u,rfl,t,rfl⟩:=dM r;exact W.KIN.call_text hn hl ⟨.int n,H,I.tok _,⟨_,rfl⟩,q⟩
def call_isinst:CallR X (.builtin "isinstance") (λxs H Q=>∃x T t b,xs=[x,.ty T]/\TyOf X.K H x t/\W.kitOne X.K t (.type T)=some b/\Q (.bl b) H):=by
 intro y3 s U H xs us Q I r h;obtain⟨x,T,t,b,rfl,ty,e,q⟩:=h;obtain⟨u,w',rfl,rx,ry⟩:=kD r;cases (show w'=Value.type T from ry);exact aQU I rx ty e λtk=>⟨.bl b,H,I.tok _,rfl,q⟩
def gL(xs ys:List V):Bool:=xs.length==ys.length&&(List.range xs.length).all λj=>eqV (xs.getD j .non) (ys.getD j .non)
def Vals.getD_rel{us:List Value}(r:Vals xs us)(h:j<us.length):RelV (xs.getD j .non) us[j]:=by
 have hl:=r.length
 have hx:j<xs.length:=by omega
 obtain⟨u,hu,ru⟩:=r.get (Ab hx);rw[Ab h]at hu;cases hu;rw[Ah,Ab hx];exact ru
def eF(h:xs.all bD=true)(j:Nat):bD (xs.getD j .non)=true:=by
 rw[Ah];cases e:xs[j]? with
 |none=>rfl
 |some x=>exact Fg.mp h x (As e)
def cQR(K:W.Frag)(neg:Bool):R2:=λx y H Q=>∃p q xs ys,x=.ref p/\y=.ref q/\SqL K H p xs/\SqL K H q ys/\xs.all bD=true/\ys.all bD=true/\Q (.bl (if neg then !gL xs ys else gL xs ys)) H
def sG(h:xs.length≠ys.length):gL xs ys=false:=by
 unfold gL;rw[Cr.mpr h,Bool.false_and]
def jS(h:xs.length=ys.length):gL xs ys=(List.range xs.length).all λj=>eqV (xs.getD j .non) (ys.getD j .non):=by
 unfold gL;rw[h,Ha,Bool.true_and]
def vJ(hu:X.A.units<cLine):OpR X (compareOp .Eq) (cQR X.K false):=by
 intro y3 s U H x y v u Q I rx ry h;obtain⟨p,q,xs,ys,rfl,rfl,hp,hq,fx,fy,k⟩:=h;cases rx;cases ry;obtain⟨its,r1,l1,_⟩:=I.list hp;obtain⟨its2,r2,l2,_⟩:=I.list hq;have e1:=r1.length
 have e2:=r2.length
 by_cases hl:xs.length=ys.length
 .refine SeqAt.eq_listAt (e:=λj=>eqV (xs.getD j .non) (ys.getD j .non)) l1.isList l2.isList (by simp only[List.size_toArray];omega) hu (λj h1 h2=>?_) ?_
  .have h1':j<its.length:=by simpa using h1
   have h2':j<its2.length:=by simpa using h2
   simpa using iG (A:=X.A.in1) (s:=s) (r1.getD_rel h1') (r2.getD_rel h2') (eF fx j) (eF fy j)
  .refine⟨.bl (gL xs ys),H,I,?_,k⟩;rw[jS hl];simp only[List.size_toArray,<-e1];rfl
 .refine SeqAt.eq_list_lengthsAt l1.isList l2.isList (by simp only[List.size_toArray,bne_iff_ne];omega) hu ⟨.bl (gL xs ys),H,I,?_,k⟩
  rw[sG hl];rfl
def vQ(hu:X.A.units<cLine):OpR X (compareOp .NotEq) (cQR X.K true):=by
 intro y3 s U H x y v u Q I rx ry h;obtain⟨p,q,xs,ys,rfl,rfl,hp,hq,fx,fy,k⟩:=h;cases rx;cases ry;obtain⟨its,r1,l1,_⟩:=I.list hp;obtain⟨its2,r2,l2,_⟩:=I.list hq;have e1:=r1.length
 have e2:=r2.length
 by_cases hl:xs.length=ys.length
 .refine SeqAt.RcNeAt.lists (e:=λj=>eqV (xs.getD j .non) (ys.getD j .non)) l1.isList l2.isList (by simp only[List.size_toArray];omega) hu (λj h1 h2=>?_) X.prog X.w _ _ ?_
  .have h1':j<its.length:=by simpa using h1
   have h2':j<its2.length:=by simpa using h2
   simpa using iG (A:=X.A.in1) (s:=s) (r1.getD_rel h1') (r2.getD_rel h2') (eF fx j) (eF fy j)
  .refine⟨.bl (!gL xs ys),H,I,?_,k⟩;rw[jS hl];simp only[List.size_toArray,<-e1];rfl
 .refine SeqAt.RcNeAt.lists_lengths l1.isList l2.isList (by simp only[List.size_toArray,bne_iff_ne];omega) hu X.prog X.w _ _ ⟨.bl (!gL xs ys),H,I,?_,k⟩
  rw[sG hl];rfl
end
def rdO:Option HO->Option (List V)
 |some (.lst xs)=>some xs
 |some (.frz _ (.lst xs))=>some xs
 |_=>none
def rdL(H:Hp)(a:Addr):Option (List V):=rdO (H a)
def aU(h:rdL H a=some xs):SqL K H a xs:=by
 unfold rdL rdO at h;split at h
 .cases h;exact .inl (.inl (by assumption))
 .cases h;exact .inl (.inr ⟨_,by assumption⟩)
 .cases h
def aQ(h:H a=some (.lst xs)):rdL H a=some xs:=by unfold rdL;rw[h];rfl
def dI:rdL (upd H a (.lst xs)) a=some xs:=aQ aB
def aX3{o:HO}(h:b≠a):rdL (upd H a o) b=rdL H b:=by unfold rdL;rw[aG h]
def aJ(e:Same H H')(h:rdL H a=some xs):rdL H' a=some xs:=by
 unfold rdL at h ⊢;cases q:H a with
 |none=>rw[q]at h;cases h
 |some o=>rw[e a o q,<-q];exact h
def aF(h:H p=none)(o:HO):Same H (upd H p o):=λb u q=>by rw[aG (aY q h)];exact q
def dH(H:Hp)(a:Addr):Option (List V):=match H a with|some (.lst xs)=>some xs|_=>none
def cS(h:H a=some (.lst xs)):dH H a=some xs:=by unfold dH;rw[h]
def gK(h:dH H a=some xs):H a=some (.lst xs):=by
 unfold dH at h;split at h
 .cases h;assumption
 .cases h
def jN:dH (upd H a (.lst xs)) a=some xs:=cS aB
def bQJ{o:HO}(h:b≠a):dH (upd H a o) b=dH H b:=by unfold dH;rw[aG h]
def jA(H:Hp)(a:Addr):Option (List V):=match H a with|some (.tup xs)=>some xs|_=>none
def gH(h:H a=some (.tup xs)):jA H a=some xs:=by unfold jA;rw[h]
def kM(h:jA H a=some xs):H a=some (.tup xs):=by
 unfold jA at h;split at h
 .cases h;assumption
 .cases h
def zL:jA (upd H a (.tup xs)) a=some xs:=gH aB
section
variable {a b c:Expr} {ta tb:TE}
def bZL(i:Nat):TE:=λU H Q=>match U[i]? with|some (some v)=>Q v H|_=>False
def mv(i:Nat)(hN:X.N[i]?=some x:=by rfl)(hv:Vis X.env.scope x:=by first|exact Or.inl rfl|exact Or.inr (Or.inl rfl)|exact Or.inr (Or.inr rfl))(hd:(x==("__debug__" : Str))=false:=by decide)(hcd:(x==("__classdict__" : Str))=false:=by decide):PE X (.Name x pos) (bZL i):=(pv i hN hv hd hcd).imp λU H Q q=>by
 unfold bZL at q;split at q
 .exact⟨_,by assumption,q⟩
 .exact q.elim
def mI(g:Int->Int->V):R2:=λx y H Q=>match x,y with|.int i,.int j=>Q (g i j) H|_,_=>False
def vK{g:Int->Int->V}{x:V}(q:mI g x y H Q):rI0 g x y H Q:=by
 unfold mI at q;split at q
 .exact⟨_,_,rfl,rfl,q⟩
 .exact q.elim
def mIC(C:Int->Int->Prop)(g:Int->Int->V):R2:=λx y H Q=>match x,y with|.int i,.int j=>C i j/\Q (g i j) H|_,_=>False
def pW{C:Int->Int->Prop}{g:Int->Int->V}{x:V}(q:mIC C g x y H Q):rI C g x y H Q:=by
 unfold mIC at q;split at q
 .exact⟨_,_,rfl,rfl,q.1,q.2⟩
 .exact q.elim
def zB:R2:=λx y H Q=>match x,y with
 |.int i,.int j=>Q (.int (i+j)) H
 |.str z,.str y=>z.length+y.length<=sizeLine/\Q (.str (z++y)) H
 |.ref p,.ref q=>(match dH H p,dH H q with
  |some xs,some zs=>xs.length+zs.length<=sizeLine/\∀r,H r=none->Q (.ref r) (upd H r (.lst (xs++zs)))
  |_,_=>False)
 |_,_=>False
def cA:OpR X (binaryOp .Add) zB:=by
 intro y3 s U H x y v u Q I rx ry q;unfold zB at q;split at q
 .exact bJ6 y3 s U H _ _ v u Q I rx ry ⟨_,_,rfl,rfl,q⟩
 .exact uQ y3 s U H _ _ v u Q I rx ry ⟨_,_,rfl,rfl,q.1,q.2⟩
 .split at q
  .exact cZG y3 s U H _ _ v u Q I rx ry ⟨_,_,_,_,rfl,rfl,gK (by assumption),gK (by assumption),q.1,q.2⟩
  .exact q.elim
 .exact q.elim
def nI:OpR X (binaryOp .Sub) (mI λi j=>.int (i-j)):=op_sub.imp λ_ _ _ _ q=>vK q
def nQ:OpR X (binaryOp .Mult) (mIC CMul λi j=>.int (i*j)):=op_mul.imp λ_ _ _ _ q=>pW q
def fE:OpR X (binaryOp .Mod) (mIC (λ_ j=>0<j) λi j=>.int (i%j)):=op_mod.imp λ_ _ _ _ q=>pW q
def pV:OpR X (binaryOp .FloorDiv) (mIC cZO λi j=>.int (i / j)):=op_fdiv.imp λ_ _ _ _ q=>pW q
def bJP:OpR X (compareOp .Lt) (mI λi j=>.bl (decide (i<j))):=op_lt.imp λ_ _ _ _ q=>vK q
def bX1:OpR X (compareOp .Gt) (mI λi j=>.bl (decide (j<i))):=op_gt.imp λ_ _ _ _ q=>vK q
def cQQ:V->Hp->VK->Prop:=λx H Q=>match x with|.int i=>Q (.int (-i)) H|_=>False
def dQL:UnR X (unaryOp .USub) cQQ:=λy3 s U H x v Q I rx q=>by
 unfold cQQ at q;split at q
 .exact bJX y3 s U H _ v Q I rx ⟨_,rfl,q⟩
 .exact q.elim
def mEq:R2:=λx y H Q=>bQB x y=true/\Q (.bl (decide (x=y))) H
def cZA:OpR X (compareOp .Eq) mEq:=cJ6
def mNe:R2:=λx y H Q=>bQB x y=true/\Q (.bl (!decide (x=y))) H
def cZX:OpR X (compareOp .NotEq) mNe:=dQK
def zY(neg:Bool):R2:=λx y H Q=>match x,y with
 |.ref p,.ref q=>(match rdL H p,rdL H q with
  |some xs,some ys=>xs.all bD=true/\ys.all bD=true/\Q (.bl (if neg then !gL xs ys else gL xs ys)) H
  |_,_=>False)
 |_,_=>False
def rP{x:V}(q:zY neg x y H Q):cQR K neg x y H Q:=by
 unfold zY at q;split at q
 .split at q
  .exact⟨_,_,_,_,rfl,rfl,aU (by assumption),aU (by assumption),q.1,q.2.1,q.2.2⟩
  .exact q.elim
 .exact q.elim
def dQW(hu:X.A.units<cLine):OpR X (compareOp .Eq) (zY false):=(vJ hu).imp λ_ _ _ _ q=>rP q
def cJ5(hu:X.A.units<cLine):OpR X (compareOp .NotEq) (zY true):=(vQ hu).imp λ_ _ _ _ q=>rP q
def aJW:R2:=λx y H Q=>match y with|.non=>Q (.bl (!decide (x=.non))) H|_=>False
def cXZ:OpR X (compareOp .IsNot) aJW:=op_notN.imp λ_ y _ _ q=>by
 unfold aJW at q;split at q
 .exact⟨rfl,q⟩
 .exact q.elim
def aQA(neg:Bool):R2:=λx y H Q=>match y with
 |.ref p=>(match rdL H p with|some xs=>bD x=true/\xs.all bD=true/\Q (.bl (if neg then !inV x xs else inV x xs)) H|none=>False)
 |_=>False
def sE{x:V}(q:aQA neg x y H Q):rIn K neg x y H Q:=by
 unfold aQA at q;split at q
 .split at q
  .exact⟨_,_,rfl,.inl (aU (by assumption)),q.1,q.2.1,q.2.2⟩
  .exact q.elim
 .exact q.elim
def dQE:OpR X (compareOp .In) (aQA false):=op_in_seq.imp λ_ _ _ _ q=>sE q
def rX:OpR X (compareOp .NotIn) (aQA true):=op_notIn_seq.imp λ_ _ _ _ q=>sE q
def mB(Q:Bool->Hp->Prop):VK:=λx H=>match x with|.bl k=>Q k H|_=>False
def bJF{Q:Bool->Hp->Prop}{x:V}(q:mB Q x H):∃k,x=.bl k/\Q k H:=by
 unfold mB at q;split at q
 .exact⟨_,rfl,q⟩
 .exact q.elim
def bZV(t:TE):TT:=λU H Q=>t U H (mB Q)
def bI{op:CmpOp}{r:R2}(ho:OpR X (compareOp op) r)(ha:PE X a ta)(hb:PE X b tb)(hm:behindInMarks op b=false):PT X (.Compare a [op] [b] pos) (bZV (tOp r ta tb)):=by
 intro y3 s U H Q I h;refine wpAny_isTrue_Compare1 (thn (ha y3 s U H _ I h) λv s1 ⟨x,H1,I1,r1,q1⟩=>thn (hb y3 s1 U H1 _ I1 q1) λu s2 ⟨y,H2,I2,r2,q2⟩=>
  thn (ho y3 s2 U H2 x y v u _ I2 r1 r2 q2) λc s3 ⟨z,H3,I3,r3,q⟩=>?_) hm
 obtain⟨k,e,q3⟩:=bJF q;subst e;cases r3;exact Fp ⟨H3,I3,q3⟩
def aXA(Q:Bool->Hp->Prop):VK:=λx H=>match x with
 |.non=>Q false H
 |.bl k=>Q k H
 |.int i=>Q (i != 0) H
 |.str y=>y.length<=sizeLine/\Q ((y.length:Int) != 0) H
 |.ref p=>(match rdL H p with
  |some xs=>Q (!xs.isEmpty) H
  |none=>(match H p with|some (.dK kvs)=>Q (!kvs.isEmpty) H|_=>False))
 |_=>False
def bQN{Q:Bool->Hp->Prop}{x:V}(q:aXA Q x H):∃k,cJX K x H k/\Q k H:=by
 unfold aXA at q;split at q
 .exact⟨_,rfl,q⟩
 .exact⟨_,rfl,q⟩
 .exact⟨_,rfl,q⟩
 .exact⟨_,⟨q.1,rfl⟩,q.2⟩
 .split at q
  .exact⟨_,.inl ⟨_,aU (by assumption),rfl⟩,q⟩
  .split at q
   .exact⟨_,.inr (.inr ⟨_,by assumption,rfl⟩),q⟩
   .exact q.elim
 .exact q.elim
def aJG(t:TE):TT:=λU H Q=>t U H (aXA Q)
def bC(ha:PE X a ta)(he:∀whole,isTrue a X.env whole=(do let v <-whole;standAt a.pos;holding [v] (truthy v)):=by intro _;rfl):PT X a (aJG ta):=by
 intro y3 s U H Q I h;refine isTrue_plain (thn (ha y3 s U H _ I h) λv s1 ⟨x,H1,I1,r1,q1⟩=>cXN y3 s1 U H1 x v Q I1 r1 (bQN q1)) (he _)
variable {rest:List Expr}
def bZW(ta tb:TE):TE:=λU H Q=>ta U H (mB λc H1=>if c=true then tb U H1 Q else Q (.bl false) H1)
def qW(ha:PE X a ta)(hb:PE X (.BoolOp .And (b::rest) pos) tb):PE X (.BoolOp .And (a::b::rest) pos) (bZW ta tb):=by
 intro y3 s U H Q I h;refine BoolOp_and (thn (ha y3 s U H _ I h) λv s1 ⟨x,H1,I1,r1,q1⟩=>?_);obtain⟨c,rfl,q1⟩:=bJF q1;cases r1;refine Fp ?_;cases c with
 |true=>exact hb y3 s1 U H1 Q I1 q1
 |false=>exact⟨.bl false,H1,I1,rfl,q1⟩
def mIx:R2:=λx y H Q=>match x,y with
 |.str z,.int i=>z.length<=sizeLine/\(match atI z.cps.toList i with|some c=>Q (.str ⟨#[c]⟩) H|none=>False)
 |.ref p,.int i=>(match rdL H p with
  |some xs=>(match atI xs i with|some v=>Q v H|none=>False)
  |none=>(match jA H p with
   |some xs=>(match atI xs i with|some v=>Q v H|none=>False)
   |none=>False))
 |_,_=>False
def bXV{x:V}(q:mIx x y H Q):rIx K x y H Q:=by
 unfold mIx at q;split at q
 .obtain⟨h1,q⟩:=q;split at q
  .exact .inr (.inr ⟨_,_,_,rfl,rfl,h1,by assumption,q⟩)
  .exact q.elim
 .split at q
  .split at q
   .exact .inl ⟨_,_,_,_,rfl,rfl,aU (by assumption),by assumption,q⟩
   .exact q.elim
  .split at q
   .split at q
    .exact .inr (.inl ⟨_,_,_,_,rfl,rfl,SqT.of (kM (by assumption)),by assumption,q⟩)
    .exact q.elim
   .exact q.elim
 .exact q.elim
def eC:IxR X mIx:=ix_seq.imp λ_ _ _ _ q=>bXV q
def mSl:V->Option Int->Option Int->Hp->VK->Prop:=λx lo hi H Q=>match x with
 |.str z=>z.length<=sizeLine/\Q (.str (Txt.slice z lo hi)) H
 |.ref p=>(match rdL H p with|some xs=>∀r,H r=none->Q (.ref r) (upd H r (.lst (gD xs lo hi)))|none=>False)
 |_=>False
def cQT:SlR X mSl:=(sl_list.or bJS).imp λ_ _ _ _ _ q=>by
 unfold mSl at q;split at q
 .exact .inr ⟨_,rfl,q.1,q.2⟩
 .split at q
  .exact .inl ⟨_,_,rfl,aU (by assumption),q⟩
  .exact q.elim
 .exact q.elim
def pO(Q:Option Int->Hp->Prop):VK:=λx H1=>match x with|.int i=>Q (some i) H1|_=>False
def bZS(t:TE):TO:=λU H Q=>t U H (pO Q)
def gG(h:PE X e te):PO X (some e) (bZS te):=by
 intro y3 s U H Q I hw;rw[evalPart_some];refine thn (h y3 s U H _ I hw) λu s1 ⟨x,H1,I1,r1,q1⟩=>?_;unfold pO at q1;split at q1
 .obtain⟨t,rfl⟩:=r1;exact⟨_,H1,I1,.int _ t,q1⟩
 .exact q1.elim
def aXK:List V->Hp->VK->Prop:=λxs H Q=>match xs with
 |[.str z]=>z.length<=sizeLine/\Q (.int z.length) H
 |[.ref p]=>(match rdL H p with
  |some xs=>Q (.int xs.length) H
  |none=>(match jA H p with|some xs=>Q (.int xs.length) H|none=>False))
 |_=>False
def fR:CallR X (.builtin "len") aXK:=call_len.imp λ_ _ _ q=>by
 unfold aXK at q;split at q
 .exact⟨_,_,rfl,⟨q.1,rfl⟩,q.2⟩
 .split at q
  .exact⟨_,_,rfl,.inl ⟨_,aU (by assumption),rfl⟩,q⟩
  .split at q
   .exact⟨_,_,rfl,.inr ⟨_,SqT.of (kM (by assumption)),rfl⟩,q⟩
   .exact q.elim
 .exact q.elim
def cX3:List V->Hp->VK->Prop:=λxs H Q=>match xs with|[.int i,.int j]=>Q (.int (if j<i then j else i)) H|_=>False
def dQJ(hc:X.calm=true):CallR X (.builtin "min") cX3:=(aQT hc).imp λ_ _ _ q=>by
 unfold cX3 at q;split at q
 .exact⟨_,_,rfl,q⟩
 .exact q.elim
def bX5:List V->Hp->VK->Prop:=λxs H Q=>match xs with
 |[.int i]=>Q (.int i) H
 |[.str x]=>(match PySem.intText? x with|some n=>x.length<=640/\Q (.int n) H|none=>False)
 |_=>False
def bJC:CallR X (.type "int") bX5:=(call_int1.or mY).imp λ_ _ _ q=>by
 unfold bX5 at q;split at q
 .exact .inl (.inl ⟨_,rfl,q⟩)
 .split at q
  .exact .inr ⟨_,_,rfl,by assumption,q.1,q.2⟩
  .exact q.elim
 .exact q.elim
def vZ:List V->Hp->VK->Prop:=λxs H Q=>match xs with
 |[.ref p]=>(match rdL H p with
  |some ys=>∀l,H l=none->Q (.ref l) (upd H l (.lst ys))
  |none=>(match jA H p with|some ys=>∀l,H l=none->Q (.ref l) (upd H l (.lst ys))|none=>False))
 |_=>False
def gX:CallR X (.type "list") vZ:=call_list_of.imp λ_ _ _ q=>by
 unfold vZ at q;split at q
 .split at q
  .exact⟨_,_,rfl,.inl (aU (by assumption)),q⟩
  .split at q
   .exact⟨_,_,rfl,.inr (SqT.of (kM (by assumption))),q⟩
   .exact q.elim
 .exact q.elim
def qL(T:String)(x:V)(H:Hp)(P:Prop):Prop:=match x with
 |.str _=>T="str"/\P
 |.ref p=>(match rdL H p with|some _=>T="list"/\P|none=>False)
 |_=>False
def rT{K:W.Frag}{x:V}{P:Prop}(q:qL T x H P):tyV K T x H/\P:=by
 unfold qL at q;split at q
 .exact⟨q.1,q.2⟩
 .split at q
  .exact⟨.inl ⟨q.1,_,aU (by assumption)⟩,q.2⟩
  .exact q.elim
 .exact q.elim
def bZ3(T:String)(r:V->List V->Hp->VK->Prop)(to:TE)(t:TA):TE:=λU H Q=>to U H λx H1=>qL T x H1 (t U H1 λxs H2=>r x xs H2 Q)
variable {o:Expr} {es:List Expr} {t:TA} {id:String}
def eR(pa:PlainAttrs T)(slot:Slot T name id)(hty:typeOf (.builtin id)=pure (.type "method_descriptor"))(hm:MtR X id r)(ho:PE X o to)(ha:PA X (e::es) t)(hbase:attributeBase o name X.env (eval o X.env)=eval o X.env:=by rfl)(hfew:((backTo cpos (starEach (e::es) X.env)).all (λx=>!x.1)&&(backToKw cpos (keywordEach [] X.env)).all (λx=>x.1.isSome)
 && decide ((e::es).length+([]:List Keyword).length+(if ([]:List Keyword).isEmpty then 0 else 1)<30))=true:=by rfl)(hline:(apos.endLine==cpos.line)=true:=by rfl)(hs:starEach (e::es) X.env=(false,eval e X.env)::starEach es X.env:=by rfl)(hplain:(backTo cpos (starEach es X.env)).any (·.1)=false:=by rfl):PE X (.Call (.Attribute o name apos) (e::es) [] cpos) (bZ3 T r to t):=by
 intro y3 s U H Q I h;refine wpAny_Call_method_late hbase hfew hline rfl (thn (ho y3 s U H _ I h) λv s1 ⟨x,H1,I1,r1,q⟩=>?_);obtain⟨ty,q1⟩:=rT (K:=X.K) q;obtain⟨h1,h2⟩:=aXQ I1 r1 ty;refine⟨T,id,pa,slot,hty,h1,h2,?_⟩;have hA:=ha cpos y3 s1 U H1 _ I1 q1
 rw[hs]at hA ⊢;refine Gu (by show (false || (backTo cpos (starEach es X.env)).any (·.1))=false;rw[hplain]<;>rfl) (Calls.evalArgs_plain ?_)
 exact thn hA λus s2 ⟨vs,H2,I2,r2,q2⟩=>hm y3 s2 U H2 x vs v us Q I2 r1 r2 q2
def bQQ:V->List V->Hp->VK->Prop:=λx vs H Q=>match x,vs with
 |.ref l,[y]=>(match dH H l with|some xs=>xs.length<sizeLine/\Q .non (upd H l (.lst (xs++[y])))|none=>False)
 |_,_=>False
def aJH:MtR X "list.append" bQQ:=MtR.imp (r:=wF) pA λ_ _ _ _ q=>by
 unfold bQQ at q;split at q
 .split at q
  .exact⟨_,_,_,rfl,rfl,gK (by assumption),q.1,q.2⟩
  .exact q.elim
 .exact q.elim
def hX:List V->Option (List Str)
 |[]=>some []
 |.str z::r=>(hX r).map (z::·)
 |_=>none
def uK(ys:List Str):hX (ys.map V.str)=some ys:=by
 induction ys with
 |nil=>rfl
 |cons y r ih=>rw[Aq,hX,ih];rfl
def nX:∀ {xs:List V} {ys:List Str},hX xs=some ys->xs=ys.map V.str
 |[],_,h=>by cases h;rfl
 |.str z::r,_,h=>by
  rw[hX]at h;cases e:hX r with
  |none=>rw[e]at h;cases h
  |some l=>rw[e]at h;cases h;rw[nX e];rfl
 |.non::_,_,h=>by cases h
 |.bl _::_,_,h=>by cases h
 |.int _::_,_,h=>by cases h
 |.byt _::_,_,h=>by cases h
 |.flt _::_,_,h=>by cases h
 |.ref _::_,_,h=>by cases h
 |.ty _::_,_,h=>by cases h
def xB:V->List V->Hp->VK->Prop:=λx vs H Q=>match x,vs with
 |.str z,[.ref p]=>(match rdL H p with
  |some xs=>(match hX xs with|some ys=>(ys.map (·.length)).sum+ys.length*z.length<=16777216/\Q (.str (Txt.join z ys)) H|none=>False)
  |none=>False)
 |_,_=>False
def cXL:MtR X "str.join" xB:=mt_join.imp λ_ _ _ _ q=>by
 unfold xB at q;split at q
 .split at q
  .split at q
   .have e:=nX (by assumption)
    subst e;exact⟨_,_,_,rfl,rfl,aU (by assumption),q.1,q.2⟩
   .exact q.elim
  .exact q.elim
 .exact q.elim
def tyN(x:V)(H:Hp):Option String:=match x with
 |.non=>some "NoneType"
 |.bl _=>some "bool"
 |.int _=>some "int"
 |.str _=>some "str"
 |.ref p=>(match H p with
  |some (.lst _)=>some "list"
  |some (.frz _ (.lst _))=>some "list"
  |some (.tup _)=>some "tuple"
  |some (.dK _)=>some "dict"
  |_=>none)
 |_=>none
def bJ7{x:V}{t:String}(h:tyN x H=some t):TyOf K H x (.type t):=by
 unfold tyN at h;split at h
 .cases h;exact .non
 .cases h;exact .bl _
 .cases h;exact .int _
 .cases h;exact .str _
 .split at h
  .cases h;exact .lst (by assumption)
  .cases h;exact .frz (by assumption)
  .cases h;exact .tup (by assumption)
  .cases h;exact .dK (by assumption)
  .cases h
 .cases h
def cJW(t T:String):Bool:=decide (t=T) || (decide (t="bool")&&decide (T="int"))
def cXD(t T:String):Bool:=["NoneType", "bool", "int", "str", "list", "tuple", "dict"].contains t && ["bool", "int", "str", "list", "tuple", "dict"].contains T
def zG(t T:String):Option Bool:=bif cXD t T then some (cJW t T) else none
def bXE:∀t∈["NoneType", "bool", "int", "str", "list", "tuple", "dict"],∀T∈["bool", "int", "str", "list", "tuple", "dict"],W.kitOne K (.type t) (.type T)=some (cJW t T):=by
 simp only[List.forall_mem_cons,List.not_mem_nil,false_implies,implies_true,and_true];refine⟨⟨rfl,rfl,rfl,rfl,rfl,rfl⟩,⟨rfl,rfl,rfl,rfl,rfl,rfl⟩,⟨rfl,rfl,rfl,rfl,rfl,rfl⟩,⟨rfl,rfl,rfl,rfl,rfl,rfl⟩,⟨rfl,rfl,rfl,rfl,rfl,rfl⟩,⟨rfl,rfl,rfl,rfl,rfl,rfl⟩,⟨rfl,rfl,rfl,rfl,rfl,rfl⟩⟩
def aXH{t:String}{b:Bool}(h:zG t T=some b):W.kitOne K (.type t) (.type T)=some b:=by
 unfold zG at h;cases hn:cXD t T with
 |false=>rw[hn]at h;cases h
 |true=>
  rw[hn]at h;cases h;unfold cXD at hn;rw[Fe]at hn;exact bXE t (List.contains_iff_mem.mp hn.1) T (List.contains_iff_mem.mp hn.2)
def bZC:List V->Hp->VK->Prop:=λxs H Q=>match xs with
 |[x,.ty T]=>(match tyN x H with
  |some t=>(match zG t T with|some b=>Q (.bl b) H|none=>False)
  |none=>False)
 |_=>False
def rZ:CallR X (.builtin "isinstance") bZC:=call_isinst.imp λ_ _ _ q=>by
 unfold bZC at q;split at q
 .split at q
  .split at q
   .exact⟨_,_,_,_,rfl,bJ7 (by assumption),aXH (by assumption),q⟩
   .exact q.elim
  .exact q.elim
 .exact q.elim
end
def sA(R:Str->Hp->Prop):VK:=λx H=>match x with|.str z=>R z H|_=>False
def aJ2{R:Str->Hp->Prop}{x:V}(q:sA R x H):∃z,x=.str z/\R z H:=by
 unfold sA at q;split at q
 .exact⟨_,rfl,q⟩
 .exact q.elim
def onL(o:Option (List V))(P:Prop):Prop:=match o with|some _=>P|none=>False
def dX(R:Addr->Hp->Prop):VK:=λx H=>match x with|.ref a=>R a H|_=>False
def aJN{R:Addr->Hp->Prop}{x:V}(q:dX R x H):∃a,x=.ref a/\R a H:=by
 unfold dX at q;split at q
 .exact⟨_,rfl,q⟩
 .exact q.elim
section
variable {a b:Expr} {ta tb:TE} {p:Pos}
def cJ1(tl:TE):TI:=λU H R=>tl U H (sA λz H1=>R (Its z) H1)
def qB(hl:PE X l tl):PI X tg l (cJ1 tl):=by
 intro y3 s U H R I h;refine thn (hl y3 s U H _ I h) λv s1 ⟨x,H1,I1,r1,q1⟩=>?_;obtain⟨z,rfl,q⟩:=aJ2 q1;obtain⟨t,rfl⟩:=r1;have fb:∀b∈[s1.heap.objs.size],gA X y3 H1 b:=λb hb=>by
  have e:b=s1.heap.objs.size:=by simpa using hb
  subst e;exact I1.fpOk (Ai _) (I1.hok.fresh (Ai _))
 cases ha:z.cps.all (· < 128)
 .refine wpAny_pyIter_wide ha ?_;exact⟨s1.heap.objs.size,[s1.heap.objs.size],_,_,H1,rfl,I1.kept (t':=s1.toks) λb o e=>Ad _ e,aQF z t _,⟨_,Aw _ rfl,rfl,rfl⟩,fb,q⟩
 .refine wpAny_pyIter_ascii ha ?_;exact⟨s1.heap.objs.size,[s1.heap.objs.size],_,_,H1,rfl,I1.kept (t':=s1.toks) λb o e=>Ad _ e,vM z t _,⟨_,Aw _ rfl,rfl,rfl⟩,fb,q⟩
def bZU(K:W.Frag)(tl:TE):TI:=λU H R=>tl U H (dX λa H1=>onL (rdL H1 a) (R (Itl K a) H1))
def dQ(hl:PE X l tl):PI X tg l (bZU X.K tl):=by
 intro y3 s U H R I h;refine thn (hl y3 s U H _ I h) λv s1 ⟨x,H1,I1,r1,q1⟩=>?_;obtain⟨a,rfl,q⟩:=aJN q1;cases r1;unfold onL at q;split at q
 .rename_i xs e
  obtain⟨its,rv,p,hz⟩:=I1.list (aU e);refine wpAny_pyIter_list p.isList ?_;refine⟨s1.heap.objs.size,[s1.heap.objs.size],_,_,H1,rfl,I1.kept (t':=s1.toks) λb o e=>Ad _ e,yW a _,⟨_,Aw _ rfl,rfl,rfl⟩,λb hb=>?_,q⟩;have e:b=s1.heap.objs.size:=by simpa using hb
  subst e;exact I1.fpOk (Ai _) (I1.hok.fresh (Ai _))
 .exact q.elim
def aX6(R:Int->Hp->Prop):List V->Hp->Prop:=λvs H=>match vs with|[.int j]=>R j H|_=>False
def bXA{R:Int->Hp->Prop}{vs:List V}(q:aX6 R vs H):∃j,vs=[.int j]/\R j H:=by
 unfold aX6 at q;split at q
 .exact⟨_,rfl,q⟩
 .exact q.elim
def aZ0(R:Int->Int->Hp->Prop):List V->Hp->Prop:=λvs H=>match vs with|[.int i,.int j]=>R i j H|_=>False
def bXR{R:Int->Int->Hp->Prop}{vs:List V}(q:aZ0 R vs H):∃i j,vs=[.int i,.int j]/\R i j H:=by
 unfold aZ0 at q;split at q
 .exact⟨_,_,rfl,q⟩
 .exact q.elim
def bZT(ta:TA):TI:=λU H R=>ta U H (aX6 λj H1=>(-(2^62)<=j/\j<2^62)/\R (Itr 0 j.toNat) H1)
def bZR(ta:TA):TI:=λU H R=>ta U H (aZ0 λi j H1=>(-(2^62)<=i/\i<2^62/\-(2^62)<=j/\j<2^62)/\R (Itr i (j-i).toNat) H1)
def oQ{ta:TA}(hg:Gl X "range")(hm:X.mg "range"=none)(ha:PA X [a] ta)(hs:starEach [a] X.env=[(false,eval a X.env)]:=by rfl):PI X tg (.Call (.Name "range" p) [a] [] pos) (bZT ta):=by
 intro y3 s U H R I h;refine Call_ (iD I hg hm boot_range (Dr (thn (ha pos y3 s U H _ I h) λus s1 ⟨vs,H1,I1,r1,q1⟩=>?_) hs rfl));obtain⟨j,e,⟨b1,b2⟩,q⟩:=bXA q1;subst e;cases r1 with
 |cons r rr=>
  cases rr;obtain⟨t,rfl⟩:=r;exact call_range_1 (rQ I1 (by omega) (by omega) b1 b2 (by simpa using q))
def oJ{ta:TA}(hg:Gl X "range")(hm:X.mg "range"=none)(ha:PA X [a,b] ta)(hs:starEach [a,b] X.env=[(false,eval a X.env),(false,eval b X.env)]:=by rfl)(hs2:starEach [b] X.env=[(false,eval b X.env)]:=by rfl):PI X tg (.Call (.Name "range" p) [a,b] [] pos) (bZR ta):=by
 intro y3 s U H R I h;refine Call_ (iD I hg hm boot_range (Dr (thn (ha pos y3 s U H _ I h) λus s1 ⟨vs,H1,I1,r1,q1⟩=>?_) (by rw[hs,hs2]) (by rw[hs2];rfl)))
 obtain⟨i,j,e,⟨b1,b2,b3,b4⟩,q⟩:=bXR q1;subst e;cases r1 with
 |cons r rr=>
  cases rr with
  |cons r' rr=>
   cases rr;obtain⟨t,rfl⟩:=r;obtain⟨t',rfl⟩:=r';exact call_range_2 (rQ I1 b1 b2 b3 b4 q)
def nD(J:It)(g:TG)(tb:TS)(D:Ends)(U:St)(H1:Hp):Prop:=∃W:Nat->Nat->St->Hp->Prop,(∃m,W 0 m U H1)/\∀i m U H,W i m U H->
 (J.stop i H/\D.nx U H)\/(J.go i H/\∃N:St->Hp->Prop,(∀U' H',N U' H'->∃m',m' < m/\W (i+1) m' U' H')/\∀x H',J.yld i H x H'->g x U H' λU2 H2=>tb {D with nx:=N,ct:=N,bk:=D.nx} U2 H2)
def bZ1(wi:TI)(g:TG)(tb:TS):TS:=λD U H=>wi U H λJ H1=>nD J g tb D U H1
def bV{body:List Stmt}{wi:TI}{tb:TS}(hp:PassesOwn (model X.prog X.w) X.A X.env X.xe)(hc:X.calm=true)(hi:PI X tg iter wi)(hg:PG X tg g)(hb:PSs X body tb)(hs:∀x,foldedSetIterable iter X.env x=pure x:=by intro _;rfl):PS X (.For tg iter body [] pos) (bZ1 wi g tb):=cX5 (wi:=wi) hp hc hi hg hb hs
section
variable {c:Addr} {tb:TS}
def gE(Pv:Nat->St->Hp->Prop)(h0:Pv 0 U H)(hl:∀i U H,i<=xs.length->Pv i U H->rdL H c=some xs)(hs:∀i x U H,xs[i]?=some x->Pv i U H->g x U H λU2 H2=>tb {D with nx:=Pv (i+1),ct:=Pv (i+1),bk:=D.nx} U2 H2)(hd:∀U H,Pv xs.length U H->D.nx U H):nD (Itl K c) g tb D U H:=
 aZK Pv h0 (λi U H hi p=>aU (hl i U H hi p)) hs hd
def aXC(Pv:Nat->St->Hp->Prop)(h0:Pv 0 U H)(hs:∀i c U H,z.cps.toList[i]?=some c->Pv i U H->g (.str ⟨#[c]⟩) U H λU2 H2=>tb {D with nx:=Pv (i+1),ct:=Pv (i+1),bk:=D.nx} U2 H2)(hd:∀U H,Pv z.cps.toList.length U H->D.nx U H):nD (Its z) g tb D U H:=
 bXG Pv h0 hs hd
def lA(Pv:Nat->St->Hp->Prop)(h0:Pv 0 U H)(hs:∀i U H,i<n->Pv i U H->g (.int (lo+i)) U H λU2 H2=>tb {D with nx:=Pv (i+1),ct:=Pv (i+1),bk:=D.nx} U2 H2)(hd:∀U H,Pv n U H->D.nx U H):nD (Itr lo n) g tb D U H:=
 aQC Pv h0 hs hd
end
def jM(hg:Gl X x)(hm:X.mg x=none)(hv:bootBuiltins x=some (.type T))(hn:x≠"__name__" := by decide)(hd:(x==("__debug__" : Str))=false:=by decide):PE X (.Name x pos) (tC (.ty T)):=bX3 hg hm hv rfl hn hd
end
section
variable {QB:Bool->Hp->Prop} {QA:List V->Hp->Prop} {QO:Option Int->Hp->Prop} {t u:TS} {ta tb:TE} {tt tu:TT} {tA:TA} {r:R2} {x:V} {i j:Int} {z':Str} {vs:List V} {k:Nat}
def cZJ(h:t {D with nx:=u D} U H):cJP t u D U H:=h
def cXC(h:D.nx U H):bJB D U H:=h
def dXP{c:TT}(h:c U H λb H1=>if b=true then t D U H1 else u D U H1):cZ6 c t u D U H:=h
def cJE(h:te U H D.rt):cJK te D U H:=h
def cXO(h:te U H λ_ H1=>D.nx U H1):bJN te D U H:=h
def dQ0(h:te U H λx H1=>g x U H1 D.nx):bXY te g D U H:=h
def cJ3{wi:TI}{tb:TS}(h:wi U H λJ H1=>nD J g tb D U H1):bZ1 wi g tb D U H:=h
def qH{QS:St->Hp->Prop}(h:QS (U.set k (some v)) H):kS k v U H QS:=h
def cJV(e:U[k]?=some (some v))(h:Q v H):bZL k U H Q:=by unfold bZL;rw[e];exact h
def s_c(h:Q v H):tC v U H Q:=h
def dQ6(h:ta U H λx H1=>tb U H1 λy H2=>r x y H2 Q):tOp r ta tb U H Q:=h
def dXA{ru:V->Hp->VK->Prop}(h:ta U H λx H1=>ru x H1 Q):tUn ru ta U H Q:=h
def cJY(h:QA [] H):bQU U H QA:=h
def cXA{tr:TA}(h:ta U H λx H1=>tr U H1 λxs H2=>QA (x::xs) H2):bJD ta tr U H QA:=h
def cZL(h:tA U H λxs H1=>xs.length<=sizeLine/\∀p,H1 p=none->Q (.ref p) (upd H1 p (.lst xs))):cJF tA U H Q:=h
def cZR(h:tA U H λxs H1=>xs.length<=sizeLine/\∀p,H1 p=none->Q (.ref p) (upd H1 p (.tup xs))):dQZ tA U H Q:=h
def cQW{E:XK}(h:tA U H λvs H1=>sp (vs++[]) H1 Q E):xF sp [] E tA U H Q:=h
def dQ9{rc:List V->Hp->VK->Prop}(h:tA U H λvs H1=>rc vs H1 Q):tCB rc tA U H Q:=h
def dXB{rs:V->Option Int->Option Int->Hp->VK->Prop}{tl th:TO}(h:te U H λx H1=>tl U H1 λl H2=>th U H2 λu H3=>rs x l u H3 Q):tSl rs te tl th U H Q:=h
def aX0(h:QO none H):wL U H QO:=h
def cXP(h:te U H (pO QO)):bZS te U H QO:=h
def aJB(h:QO (some i) H):pO QO (.int i) H:=h
def cQY{rm:V->List V->Hp->VK->Prop}(h:to U H λx H1=>qL T x H1 (tA U H1 λxs H2=>rm x xs H2 Q)):bZ3 T rm to tA U H Q:=h
def cZ0{P:Prop}(h:P):qL "str" (.str z) H P:=⟨rfl,h⟩
def cZ8{P:Prop}(e:rdL H p=some xs)(h:P):qL "list" (.ref p) H P:=by unfold qL;simp only[e];exact⟨trivial,h⟩
def cXK(h:te U H (mB QB)):bZV te U H QB:=h
def bQ5(h:te U H (aXA QB)):aJG te U H QB:=h
def dXG{b:Bool}(h:QB b H):mB QB (.bl b) H:=h
def bJ8{b:Bool}(h:QB b H):aXA QB (.bl b) H:=h
def cZ1(h:tt U H λc H1=>if c=true then tu U H1 QB else QB false H1):cZ5 tt tu U H QB:=h
def dXD(h:tt U H λc H1=>if c=true then QB true H1 else tu U H1 QB):tOr tt tu U H QB:=h
def cJZ(h:tt U H λc H1=>QB (!c) H1):cJC tt U H QB:=h
def cQ3(h:ta U H (mB λc H1=>if c=true then tb U H1 Q else Q (.bl false) H1)):bZW ta tb U H Q:=h
def dXN{g:Int->Int->V}(h:Q (g i j) H):mI g (.int i) (.int j) H Q:=h
def cZQ{C:Int->Int->Prop}{g:Int->Int->V}(c:C i j)(h:Q (g i j) H):mIC C g (.int i) (.int j) H Q:=⟨c,h⟩
def cXQ(h:Q (.int (i+j)) H):zB (.int i) (.int j) H Q:=h
def cQS(c:z.length+z'.length<=sizeLine)(h:Q (.str (z++z')) H):zB (.str z) (.str z') H Q:=⟨c,h⟩
def cX9(e:dH H p=some xs)(e':dH H q=some ys)(c:xs.length+ys.length<=sizeLine)(h:∀r,H r=none->Q (.ref r) (upd H r (.lst (xs++ys)))):zB (.ref p) (.ref q) H Q:=by
 unfold zB;simp only[e,e'];exact⟨c,h⟩
def dQP(h:Q (.bl (decide (z=z'))) H):mEq (.str z) (.str z') H Q:=⟨rfl,by
 rw[show decide (V.str z=V.str z')=decide (z=z') by simp];exact h⟩
def cJ7(h:Q (.bl (!decide (i=j))) H):mNe (.int i) (.int j) H Q:=⟨rfl,by
 rw[show decide (V.int i=V.int j)=decide (i=j) by simp];exact h⟩
def bZZ{neg:Bool}(e:rdL H p=some xs)(e':rdL H q=some ys)(f:xs.all bD=true)(f':ys.all bD=true)(h:Q (.bl (if neg then !gL xs ys else gL xs ys)) H):zY neg (.ref p) (.ref q) H Q:=by
 unfold zY;simp only[e,e'];exact⟨f,f',h⟩
def cXV(h:Q (.bl (!decide (x=.non))) H):aJW x .non H Q:=h
def aJS{neg:Bool}(e:rdL H p=some xs)(f:bD x=true)(f':xs.all bD=true)(h:Q (.bl (if neg then !inV x xs else inV x xs)) H):aQA neg x (.ref p) H Q:=by
 unfold aQA;simp only[e];exact⟨f,f',h⟩
def oA{c:Nat}(l:z.length<=sizeLine)(e:atI z.cps.toList i=some c)(h:Q (.str ⟨#[c]⟩) H):mIx (.str z) (.int i) H Q:=by
 unfold mIx;simp only[e];exact⟨l,h⟩
def fB(e:rdL H p=some xs)(e':atI xs i=some v)(h:Q v H):mIx (.ref p) (.int i) H Q:=by
 unfold mIx;simp only[e,e'];exact h
def cZV{lo hi:Option Int}(e:rdL H p=some xs)(h:∀r,H r=none->Q (.ref r) (upd H r (.lst (gD xs lo hi)))):mSl (.ref p) lo hi H Q:=by
 unfold mSl;simp only[e];exact h
def cQP(l:z.length<=sizeLine)(h:Q (.int z.length) H):aXK [.str z] H Q:=⟨l,h⟩
def bJ1(e:rdL H p=some xs)(h:Q (.int xs.length) H):aXK [.ref p] H Q:=by unfold aXK;simp only[e];exact h
def cZI(h:Q (.int (if j<i then j else i)) H):cX3 [.int i,.int j] H Q:=h
def aQY(e:PySem.intText? z=some i)(l:z.length<=640)(h:Q (.int i) H):bX5 [.str z] H Q:=by unfold bX5;simp only[e];exact⟨l,h⟩
def cQE(e:rdL H p=some xs)(h:∀l,H l=none->Q (.ref l) (upd H l (.lst xs))):vZ [.ref p] H Q:=by unfold vZ;simp only[e];exact h
def dQQ(e:dH H p=some xs)(l:xs.length<sizeLine)(h:Q .non (upd H p (.lst (xs++[v])))):bQQ (.ref p) [v] H Q:=by unfold bQQ;simp only[e];exact⟨l,h⟩
def cQZ{ss:List Str}(e:rdL H p=some (ss.map V.str))(l:(ss.map (·.length)).sum+ss.length*z.length<=16777216)(h:Q (.str (Txt.join z ss)) H):xB (.str z) [.ref p] H Q:=by
 unfold xB;simp only[e,uK];exact⟨l,h⟩
def cZ2{t:String}{b:Bool}(e:tyN x H=some t)(e':zG t T=some b)(h:Q (.bl b) H):bZC [x,.ty T] H Q:=by
 unfold bZC;simp only[e,e'];exact h
def bQL(h:tl U H (dX λa H1=>onL (rdL H1 a) (R (Itl K a) H1))):bZU K tl U H R:=h
def bQ4{R:Addr->Hp->Prop}(h:R p H):dX R (.ref p) H:=h
def dQO{P:Prop}(e:rdL H p=some xs)(h:P):onL (rdL H p) P:=by unfold onL;simp only[e];exact h
def cX1(h:tl U H (sA λz H1=>R (Its z) H1)):cJ1 tl U H R:=h
def bZP{R:Str->Hp->Prop}(h:R z H):sA R (.str z) H:=h
def bXI(h:tA U H (aX6 λj H1=>(-(2^62)<=j/\j<2^62)/\R (Itr 0 j.toNat) H1)):bZT tA U H R:=h
def bQ6(h:tA U H (aZ0 λi j H1=>(-(2^62)<=i/\i<2^62/\-(2^62)<=j/\j<2^62)/\R (Itr i (j-i).toNat) H1)):bZR tA U H R:=h
def cXY{R:Int->Hp->Prop}(h:R i H):aX6 R [.int i] H:=h
def bJQ{R:Int->Int->Hp->Prop}(h:R i j H):aZ0 R [.int i,.int j] H:=h
end
def cQ6{xs:List α}{i:Int}(h0:0<=i)(h1:i<xs.length):∃v,atI xs i=some v/\xs[i.toNat]?=some v:=by
 have hk:i.toNat<xs.length:=by omega
 have e:i=((i.toNat:Nat):Int):=by omega
 have q:atI xs ((i.toNat:Nat):Int)=some xs[i.toNat]:=dY (Ab hk)
 rw[<-e]at q;exact⟨xs[i.toNat],q,Ab hk⟩
def bG(h:n<=100000):n<=sizeLine:=Bf h (by decide)
def bH(h:n<=100000):n<sizeLine:=Nat.lt_of_le_of_lt h (by decide)
def Cal(P:Program)(w:World)(K:W.Frag)(mg:Str->Option Value)(base:Heap)(k:Nat)(x:Str)(ps:List Str)(sp:Sp):Prop:=
 ∃(f:Addr) (fd:FuncData),FnOk P w K mg base CX0 k f fd ps sp/\mg x=some (.ref f)/\W.keepIn K (.ref f)=true/\Binds K fd ps []
section
variable {k:Nat} {ps:List Str} {p:Pos} {es:List Expr} {t:TA} {i:Int}
def bO(c:Cal X.prog X.w X.K X.mg X.base k x ps sp)(hr:Room k' X.A)(hk:k<=k')(hg:Gl X x)(ha:PA X (e::es) t)(hdb:(x==("__debug__" : Str))=false:=by decide)(he:starEach (e::es) X.env=(false,eval e X.env)::starEach es X.env:=by rfl)(hpl:(backTo pos (starEach es X.env)).any (·.1)=false:=by rfl)(hc:X.calm=true:=by rfl):PE X (.Call (.Name x p) (e::es) [] pos) (xF sp [] E0 t):=by
 obtain⟨f,fd,F,hm,hk',hb⟩:=c;exact xS F (hr.mono hk) hg hm hk' hb .nil dQ2 ha hdb he hpl hc
def pE(hg:Gl X x)(h:∃t,X.mg x=some (.str z t))(hd:(x==("__debug__" : Str))=false:=by decide):PE X (.Name x pos) (tC (.str z)):=by
 obtain⟨t,h⟩:=h;exact vX hg h ⟨t,rfl⟩ hd
def cJH{lo hi:Option Int}(e:SqL K H a xs)(h:∀r,H r=none->Q (.ref r) (upd H r (.lst (gD xs lo hi)))):dQ4 K (.ref a) lo hi H Q:=⟨a,xs,rfl,e,h⟩
def cJ4(e:SqL K H a xs)(e':atI xs i=some v)(h:Q v H):bJZ K (.ref a) (.int i) H Q:=⟨a,xs,i,v,rfl,rfl,e,e',h⟩
end
def cY:bootBuiltins "len"=some (.builtin "len"):=by decide +kernel
def aM:bootBuiltins "isinstance"=some (.builtin "isinstance"):=by decide +kernel
def cQ4:bootBuiltins "min"=some (.builtin "min"):=by decide +kernel
def cXU:bootBuiltins "sum"=some (.builtin "sum"):=by decide +kernel
def oX:bootBuiltins "sorted"=some (.builtin "sorted"):=by decide +kernel
def bQV:bootBuiltins "bool"=some (.type "bool"):=by decide +kernel
def aQ6:bootBuiltins "int"=some (.type "int"):=by decide +kernel
def bJ4:bootBuiltins "str"=some (.type "str"):=by decide +kernel
def cI:bootBuiltins "list"=some (.type "list"):=by decide +kernel
def vV:bootBuiltins "dict"=some (.type "dict"):=by decide +kernel
def sM:bootBuiltins "range"=some (.type "range"):=by decide +kernel
def dQU{A B:Prop}(h:B):if (!true)=true then A else B:=h
def cJM{A B:Prop}(h:A):if (!false)=true then A else B:=h
def tK{R:Result->Shared->Prop}{elt target:Expr}{it acc:Value}(I:Nat->Shared->Prop)(turn:∀n s,I n s->wpAny (model prog w) A (pyNext it) (λr s₁=>match r with
 |none=>R (.ok .next) s₁
 | some v=>wpAny (model prog w) A (letOwnedTupleGo target it v) (λ_ s₁'=>wpAny (model prog w) A (assign target env v) (λ_ s₂=>
     wpAny (model prog w) A (forIn ifs true λc r=>if r=true then do let ok <-isTrue c env (eval c env);pure (ForInStep.yield ok) else pure (ForInStep.yield r)) (λok s₃=>
      if ok=true then wpAny (model prog w) A (eval elt env) (λx s₄=>
       wpAny (model prog w) A (call (.builtin "list.append") [acc,x]) (λ_ s₅=>∃m,m<n/\I m s₅) (λ_ _=>False) s₄) (λ_ _=>False) s₃
      else ∃m,m<n/\I m s₃) (λ_ _=>False) s₂) (λ_ _=>False) s₁') (λ_ _=>False) s₁) (λ_ _=>False) s)(n:Nat)(h:I n s):codeAny (model prog w) A (.compLoop (.ListComp elt [⟨target,iter,ifs,0⟩] scope pos) 0 it acc env) R s:=by
 refine codeAny_loop rfl I (λn s hI=>?_) n h;show wpAny _ A ((compTurn (.ListComp elt [⟨target,iter,ifs,0⟩] scope pos) 0 it acc env).onRaise (λx=>do noteFrame x env;theTreesLotGoes x)) _ _ s
 refine wpAny_noted ?_;rw[compTurn_list];refine Aa (wpAny_standAt (Aa (Cg (turn n s hI) (λr s₁ h₁=>?_) λ_ _ h'=>h'.elim)));cases r with
 |none=>exact Ae h₁
 |some v=>
  refine Aa (Cg h₁ (λ_ s₁' h₁'=>?_) λ_ _ h'=>h'.elim);refine Aa (Cg h₁' (λ_ s₂ h₂=>Aa (Cg h₂ (λok s₃ h₃=>?_) λ_ _ h'=>h'.elim)) λ_ _ h'=>h'.elim);cases ok with
  |false=>exact Ae ⟨rfl,h₃⟩
  |true=>
   exact Aa (Aa (Cg h₃ (λx s₄ h₄=>Aa (Cg h₄ (λ_ s₅ h₅=>Ae (Ae ⟨rfl,h₅⟩)) λ_ _ h'=>h'.elim)) λ_ _ h'=>h'.elim))
def cxC(X:Cx)(N:List Str)(scope:Scope)(cl:List (Str×Addr))(C:Addr)(s₀:Shared)(H₀:Hp)(ex:List Addr):Cx:=
 {prog:=X.prog,w:=X.w,K:=X.K,mg:=X.mg,base:=X.base,A:=X.A,N:=N,s₀:=s₀,H₀:=H₀,env:=compEnvC scope cl C X.env,outer:=X.stack,stack:=X.stack,ex:=ex,fn:=λ_=>false,calm:=X.calm,pn:=[],xe:=λ_ _=>False}
structure ClOk (X:Cx) (N:List Str) (scope:Scope) (cl:List (Str×Addr)) (vals:St->St):Prop where
 clos:closureFor scope X.env=pure cl
 sub:∀x c,cl.lookup x=some c->X.env.cells.lookup x=some c
 has:∀x,((relabel scope X.env).names.lookup x=some .cell\/(relabel scope X.env).names.lookup x=some .free)->∃c,cl.lookup x=some c
 len:∀U,(vals U).length=N.length
 val:∀U (i:Nat) x v,N[i]?=some x->(vals U)[i]?=some (some v)->∃(j:Nat),X.N[j]?=some x/\U[j]?=some (some v)/\X.env.scope.names.lookup x=some .cell/\(∃c,cl.lookup x=some c)/\(relabel scope X.env).names.lookup x=some .cell
def PF(X:Cx)(ifs:List Expr)(t:TT):Prop:=∀(y3:List (Addr×Obj)) (s:Shared) (U:St) (H:Hp) (Q:Bool->Hp->Prop),Inv X y3 U H s->t U H Q->
 wpAny (model X.prog X.w) X.A (forIn ifs true λc r=>if r=true then do let ok <-isTrue c X.env (eval c X.env);pure (ForInStep.yield ok) else pure (ForInStep.yield r)) (TP X y3 U Q) X.xe s
def cZ3:TT:=λ_ H Q=>Q true H
def qJ:PF X [] cZ3:=λy3 s U H Q I q=>wpAny_tests_nil ⟨H,I,q⟩
def lW{c:Expr}{t:TT}(h:PT X c t):PF X [c] t:=λy3 s U H Q I q=>wpAny_tests_one (h y3 s U H Q I q)
section
variable {H2:Hp} {s2:Shared}
def yD(I:Inv X y3 U H s)(hc:aQX X)(hf:∀b∈fp,gA X y3 H b):aQX (cxC X N scope cl C s H fp):=by
 obtain⟨ch,hh,sl,hx⟩:=I.softX hc;exact⟨ch,hh,sl,λb hb hm=>hx b (hf b hm).2.2.2.1 hb⟩
def vG{h1:Heap}{t1:Nat}(I:Inv X y3 U H2 s2)(ck:ClOk X N scope cl vals)(hkind:scope.kind=.function)(hf:∀b∈fp,gA X y3 H2 b)(hlt:∀b∈fp,b<s2.heap.objs.size)(hns:h1.Ns s2.heap.objs.size λ_=>none)(hsb:Heap.SameBut s2.heap.objs.size (s2.heap.push {cls:=.type "dict",data:=.dict #[]}) h1):Inv (cxC X N scope cl s2.heap.objs.size s2 H2 fp) [] (vals U) H2 {s2 with heap:=h1,toks:=t1}:=by
 have old:∀b o,s2.heap.get? b=some o->h1.get? b=some o:=λb o e=>(hsb.2 b (Ba (Ao e))).trans (Ad _ e)
 have hC:H2 s2.heap.objs.size=none:=I.hok.fresh (Ai _)
 refine⟨⟨I.ok.mod,hkind,I.ok.glob,I.ok.blt,Ai _,λx y c h1 h2=>I.ok.inj x y c (ck.sub x c h1) (ck.sub y c h2),ck.has,(λx c h=>nomatch h),(λhc=>yD I (I.ok.hd hc) hf),I.ok.frames,.inl rfl,λb hb=>⟨Ba (hlt b hb),λx c e=>(hf b hb).2.2.2.2.1 x c (ck.sub x c e)⟩,
  I.bs,Nat.le_trans I.ok.bsz I.sz,λb o e hb=>?_,λb hb hs=>?_,I.stack,I.stkFree⟩,rfl,I.bare,Un.kept old,⟨_,hns,λi x v e1 e2 _=>?_⟩,λx c e=>?_,hC,λx c e=>I.freeC x c (ck.sub x c e),λp hp=>absurd (show p∈([]:Q3) from hp) (by simp),I.hok.kept old,ck.len U⟩
 .rcases (hf b hb).2.2.2.1 with z|z
  .exact I.ok.noex b o e z
  .exact absurd (Az (Ao e) (Bf I.ok.bsz z)) (Dm _)
 .rcases Av.mp (I.stkSub b hs) with z|z
  .exact(hf b hb).2.1 z
  .exact(hf b hb).2.2.1 z
 .obtain⟨j,h1,h2,h3,⟨c,h4⟩,h5⟩:=ck.val U i x v e1 e2;obtain⟨m,hn,hl⟩:=I.loc;obtain⟨u,r,l⟩:=hl j x v h1 h2 (.inr (.inl h3));refine⟨u,r,.inr ⟨.inl h5,c,h4,?_⟩⟩;rcases l with⟨z,_⟩|⟨_,c',e',z⟩
  .have z':X.env.scope.names.lookup x=some .local:=z
   rw[h3]at z';cases z'
  .rw[ck.sub x c h4]at e';cases e';obtain⟨o,ho,hd⟩:=z;exact⟨o,old _ o ho,hd⟩
 .obtain⟨v,o,ho,hd⟩:=I.cell x c (ck.sub x c e);exact⟨v,o,old _ o ho,hd⟩
def zA{U':St}{s':Shared}{h'':Heap}{pins':Q3}(I:Inv X y3 U H2 s2)(hf:∀b∈fp,gA X y3 H2 b)(I':Inv (cxC X N scope cl s2.heap.objs.size s2 H2 fp) pins' U' H' s')(hsb:Heap.SameBut s2.heap.objs.size s'.heap h''):Inv X y3 U H' {s' with heap:=h''}:=by
 have u1:Un (frs X.stack) (s2.heap.objs.size::fp) H2 H' s2.heap s'.heap:=I'.base.mono (λ_ z=>z) λb z=>Ak _ z
 have hC:H' s2.heap.objs.size=none:=I'.free
 have k:∀b o,b≠s2.heap.objs.size->s'.heap.get? b=some o->h''.get? b=some o:=λb o hb e=>(hsb.2 b hb).trans e
 have u2:Un (frs X.stack) (s2.heap.objs.size::fp) H' H' s'.heap h'':=⟨λb o e _ _ hx=>k b o (λz=>hx (by simp[z])) e,λb o e _ _ hx=>⟨o.slots,k b o (λz=>hx (by simp[z])) e⟩,λ_ _ _ n _=>n,
  λb o e hx=>⟨o,k b o (λz=>hx (by simp[z])) e⟩,λ_ _ e=>e,λ_ _ _ e=>e,λb ps e=>⟨#[],by rw[e];simp⟩⟩
 have hok:HOk X.prog X.w H' h'':=λb u e=>by
  have nC:∀c v,H' c=some v->c≠s2.heap.objs.size:=λc v e z=>by rw[z,hC]at e;cases e
  refine(I'.hok b u e).stay (λc v hc q=>k c v ?_ q) (λ_ q=>q) λ_ _ q=>q;rcases hc with z|z
  .rw[z];exact nC b u e
  .exact nC c _ z
 refine I.call' (s':={s' with heap:=h''}) (ch:=s2.heap.objs.size::fp) I'.os (u1.trans u2) hok I'.bare λb hb=>?_
 have q:gA X y3 H2 b:=by
  rcases Av.mp hb with z|z
  .subst z;exact I.fpOk (Ai _) (I.hok.fresh (Ai _))
  .exact hf b z
 exact⟨q.2.2.2.1,q.2.1,q.2.2.2.2.1,q.2.2.2.2.2⟩
end
def Wk(U0 U:St):Prop:=U0.length=U.length/\∀(i:Nat) v,U0[i]?=some (some v)->U[i]?=some (some v)
def Wk.refl(U:St):Wk U U:=⟨rfl,λ_ _ h=>h⟩
def Wk.set{k:Nat}(h:U0[k]?=some none)(w:Wk U0 U):Wk U0 (U.set k (some v)):=by
 refine⟨by rw[List.length_set];exact w.1,λi u e=>?_⟩
 have ne:k≠i:=λz=>by subst z;rw[h]at e;cases e
 rw[Fu ne];exact w.2 i u e
def eT(g:TG)(tests:TT)(te:TE)(U0:St)(Q:VK)(J:It)(H1:Hp):Prop:=∀D,H1 D=none->∃W:Nat->Nat->Hp->Prop,(∃m,W 0 m (upd H1 D (.lst [])))/\∀i m Hc,W i m Hc->
 (J.stop i Hc/\Q (.ref D) Hc)\/(J.go i Hc/\∀x H',J.yld i Hc x H'->g x U0 H' λU2 H2=>Wk U0 U2/\tests U2 H2 λb H3=>if b=true then
  te U2 H3 λy H4=>∃zs,H4 D=some (.lst zs)/\zs.length<sizeLine/\∃m',m' < m/\W (i+1) m' (upd H4 D (.lst (zs++[y]))) else ∃m',m' < m/\W (i+1) m' H3)
def aJE(wi:TI)(g:TG)(tests:TT)(te:TE)(vals:St->St):TE:=λU H Q=>wi U H λJ H1=>eT g tests te (vals U) Q J H1
def sV{H2:Hp}{s2:Shared}{tn:Nat->Heap->Prop}{J:It}{elt:Expr}{RR:Value->Addr->Result->Shared->Prop}(I2:Inv X y3 U H2 s2)(T:Turn X.prog X.w X.K tg J fp it tn)(st2:tn 0 s2.heap)(f2:∀b∈fp,gA X y3 H2 b)(hc:X.calm=true)(ck:ClOk X N scope cl vals)(hcell:∀y∈scope.names,y.2≠.cell)(hkind:scope.kind=.function)(hg:∀C s₀ H₀ ex,PG (cxC X N scope cl C s₀ H₀ ex) tg g)(ht:∀C s₀ H₀ ex,PF (cxC X N scope cl C s₀ H₀ ex) ifs tests)(he:∀C s₀ H₀ ex,PE (cxC X N scope cl C s₀ H₀ ex) elt te)(h:eT g tests te (vals U) Q J H2)(hRR:∀D C s' H' m,s'.heap.Ns C m->Q (.ref D) H'->(∀h'',Heap.SameBut C s'.heap h''->Inv X y3 U H' {s' with heap:=h''})->gA X y3 H' C->RR (.ref D) C (.ok .next) s'):wpAny (model X.prog X.w) X.A (newList []) (λacc s₃=>wpAny (model X.prog X.w) X.A (newFunctionEnv scope X.env.globals cl [] X.env.qual none .none (some X.env)) (λcenv s₄=>
 codeAny (model X.prog X.w) X.A (.compStart (.ListComp elt [⟨tg,iter,ifs,0⟩] scope pos) 0 (.ref it) acc {cenv with scope:=relabel scope X.env}) (RR acc cenv.locals) s₄) E s₃) E s2:=by
 have hD:H2 s2.heap.objs.size=none:=I2.hok.fresh (Ai _)
 obtain⟨W,⟨m0,w0⟩,turn⟩:=h _ hD;have hlt:∀b∈fp,b<s2.heap.objs.size:=λb hb=>by
  obtain⟨o,e,_⟩:=T.obj 0 _ st2 b hb;exact Ao e
 refine Ey ?_
 -- the list is laid
 have I3:Inv X y3 U (upd H2 s2.heap.objs.size (.lst [])) {s2 with heap:=s2.heap.push {cls:=.type "list",dict:=none,data:=.seq ([]:List Value).toArray}}:=
  I2.lnew (ys:=[]) (its:=[]) (t':=s2.toks) .nil (Cq _)
 have f3:∀b∈fp,gA X y3 (upd H2 s2.heap.objs.size (.lst [])) b:=λb hb=>⟨by rw[aG (Ba (hlt b hb))];exact(f2 b hb).1,(f2 b hb).2⟩
 have st3:tn 0 (s2.heap.push {cls:=.type "list",dict:=none,data:=.seq ([]:List Value).toArray}):=T.keep _ _ _ st2 λb _ o e=>Ad _ e
 generalize hs3:({s2 with heap:=s2.heap.push {cls:=.type "list",dict:=none,data:=.seq ([]:List Value).toArray}}:Shared)=s3 at I3 ⊢
 have e3:s3.heap=s2.heap.push {cls:=.type "list",dict:=none,data:=.seq ([]:List Value).toArray}:=by rw[<-hs3]
 rw[<-e3]at st3;have hlt3:∀b∈fp,b<s3.heap.objs.size:=λb hb=>by
  obtain⟨o,e,_⟩:=T.obj 0 _ st3 b hb;exact Ao e
 refine wpAny_newFunctionEnv hcell (by intro y hy;simp at hy) (λh₁ hns₁ hsb₁=>?_) hkind
 have hns:h₁.Ns s3.heap.objs.size λ_=>none:=hns₁
 have I4:=vG (t1:=s3.toks) I3 ck hkind f3 hlt3 hns hsb₁
 have old:∀b o,s3.heap.get? b=some o->h₁.get? b=some o:=λb o e=>(hsb₁.2 b (Ba (Ao e))).trans (Ad _ e)
 have st4:tn 0 h₁:=T.keep _ _ _ st3 λb _ o e=>old b o e
 have loop:∀ s₄:Shared,s₄={ s3 with heap:=h₁,toks:=s3.toks }->
     codeAny (model X.prog X.w) X.A (.compLoop (.ListComp elt [⟨tg,iter,ifs,0⟩] scope pos) 0 (.ref it) (.ref s2.heap.objs.size) (compEnvC scope cl s3.heap.objs.size X.env))
      (RR (.ref s2.heap.objs.size) s3.heap.objs.size) s₄:=by
  rintro s₄ rfl;have fpX:∀ {H':Hp},(∀b∈fp,H' b=none)->∀b∈fp,gA (cxC X N scope cl s3.heap.objs.size s3 (upd H2 s2.heap.objs.size (.lst [])) fp) [] H' b:=λhn b hb=>
   ⟨hn b hb,Nat.ne_of_lt (hlt3 b hb),λhs=>I4.ok.exfs b hb hs,.inl hb,λx c e=>(I4.ok.exf b hb).2 x c e,λp hp=>absurd (show p∈([]:Q3) from hp) (by simp)⟩
  refine tK (λn s'=>∃i H',Inv (cxC X N scope cl s3.heap.objs.size s3 (upd H2 s2.heap.objs.size (.lst [])) fp) [] (vals U) H' s'/\tn i s'.heap/\(∀b∈fp,H' b=none)/\W i n H') ?_ m0
   ⟨0,_,I4,st4,λb hb=>(f3 b hb).1,w0⟩
  rintro n s5 ⟨i,H5,I5,st5,fr5,w5⟩;rcases turn i n H5 w5 with⟨stop,q⟩|⟨go,step⟩
  .refine thn (T.done (cxC X N scope cl s3.heap.objs.size s3 (upd H2 s2.heap.objs.size (.lst [])) fp) rfl rfl rfl hc i [] s5 (vals U) H5 (λ_ _=>False) I5 (fpX fr5) st5 stop) λr s6 ⟨hr,I6⟩=>?_;subst hr;obtain⟨m,hn,_⟩:=id I6.loc;exact hRR _ _ s6 H5 m hn q (λh'' hsb=>zA I3 f3 I6 hsb) (I3.fpOk (Ai _) I6.free)
  .refine thn (T.item (cxC X N scope cl s3.heap.objs.size s3 (upd H2 s2.heap.objs.size (.lst [])) fp) rfl rfl rfl hc i [] s5 (vals U) H5 (λ_ _=>False) I5 (fpX fr5) st5 go) λr s6 ⟨u,hr,h6⟩=>?_;subst hr;refine thn h6 λ_ s7 ⟨x,H7,I7,r7,y7,st7,fr7⟩=>?_;have I7':=I7.pinned (fpX fr7) (T.obj _ _ st7)
   refine thn (hg _ _ _ _ _ s7 (vals U) H7 x u _ I7' r7 (step x H7 y7)) λ_ s8 ⟨U8,H8,I8,wk8,q8⟩=>?_;refine thn (ht _ _ _ _ _ s8 U8 H8 _ I8 q8) λb s9 ⟨H9,I9,q9⟩=>?_;have again:∀ {m':Nat} {s':Shared} {H':Hp},Inv (cxC X N scope cl s3.heap.objs.size s3 (upd H2 s2.heap.objs.size (.lst [])) fp) ([]++jX fp s7.heap) U8 H' s'->m' < n->W (i+1) m' H'->
       ∃m,m<n/\∃i H',Inv (cxC X N scope cl s3.heap.objs.size s3 (upd H2 s2.heap.objs.size (.lst [])) fp) [] (vals U) H' s'/\tn i s'.heap/\(∀b∈fp,H' b=none)/\W i m H':=fun {m' s' H'} J7 hm w7=>by
    refine⟨m',hm,i+1,H',(J7.weak wk8.1 wk8.2).unpinned,T.keep _ _ _ st7 λb hb o e=>(J7.pin (b,o) (Bk _ (Bk _ (eI hb e)))).1,λb hb=>?_,w7⟩;obtain⟨o,e,d⟩:=T.obj _ _ st7 b hb;exact(J7.pin (b,o) (Bk _ (Bk _ (eI hb e)))).2.1
   cases b with
   |true=>
    rw[if_pos rfl]at q9 ⊢;refine thn (he _ _ _ _ _ s9 U8 H9 _ I9 q9) λv s10 ⟨y,H10,I10,r10,zs,hz,hl,m',hm,w10⟩=>?_;have ap:=pA ([]++jX fp s7.heap) s10 U8 H10 (.ref s2.heap.objs.size) [y] (.ref s2.heap.objs.size) [v] (λ_ H'=>H'=upd H10 s2.heap.objs.size (.lst (zs++[y]))) I10 rfl (.cons r10 .nil) ⟨_,_,_,rfl,rfl,hz,hl,rfl⟩
    refine thn ap λ_ s11 ⟨_,H11,I11,_,e11⟩=>?_;subst e11;exact again I11 hm w10
   |false=>
    rw[if_neg An]at q9 ⊢;obtain⟨m',hm,w9⟩:=q9;exact again I9 hm w9
 exact codeAny_compStart_list (loop _ rfl) (T.self _ 0 _ _ _ st4 (loop _ rfl))
section
variable {elt:Expr} {spos py:Pos} {wi:TI}
def iM(hc:X.calm=true)(hi:PI X tg iter wi)(ck:ClOk X N scope cl vals)(hcell:∀y∈scope.names,y.2≠.cell)(hkind:scope.kind=.function)(hnames:∀x∈scope.names,x.2=.local->scope.names.lookup x.1=some .local)(hg:∀C s₀ H₀ ex,PG (cxC X N scope cl C s₀ H₀ ex) tg g)(ht:∀C s₀ H₀ ex,PF (cxC X N scope cl C s₀ H₀ ex) ifs tests)(he:∀C s₀ H₀ ex,PE (cxC X N scope cl C s₀ H₀ ex) elt te)(hs:∀x,foldedSetIterable iter X.env x=pure x:=by intro _;rfl):PE X (.ListComp elt [⟨tg,iter,ifs,0⟩] scope pos) (aJE wi g tests te vals):=by
 intro y3 s U H Q I h;rw[eval_ListComp];refine wpAny_comprehension_free (use:=none) rfl hs ck.clos hkind hnames (thn (hi y3 s U H _ I h) λv s1 h1=>thn h1 λitv s2 h2=>?_);obtain⟨it,fp,tn,J,H2,e,I2,T,st2,f2,q⟩:=h2;subst e;refine sV (RR:=λacc C=>compPost (model X.prog X.w) X.A X.xe none (EP X y3 U Q) acc C) I2 T st2 f2 hc ck hcell hkind hg ht he q λD C s' H' m hn q' back _=>?_;exact⟨m,hn,λh'' hsb=>⟨.ref D,H',back h'' hsb,rfl,q'⟩⟩
def kL{i:Nat}(hN:X.N.Nodup)(hix:X.N[i]?=some x)(hx:Loc X.env.scope x)(hc:X.calm=true)(hi:PI X tg iter wi)(ck:ClOk X N scope cl vals)(hcell:∀y∈scope.names,y.2≠.cell)(hkind:scope.kind=.function)(hnames:∀x∈scope.names,x.2=.local->scope.names.lookup x.1=some .local)(hg:∀C s₀ H₀ ex,PG (cxC X N scope cl C s₀ H₀ ex) tg g)(ht:∀C s₀ H₀ ex,PF (cxC X N scope cl C s₀ H₀ ex) ifs tests)(he:∀C s₀ H₀ ex,PE (cxC X N scope cl C s₀ H₀ ex) elt te)(hsw:swapsWith (.ListComp elt [⟨tg,iter,ifs,0⟩] scope pos) (some (.Name x py)) spos.line X.env=pure true:=by rfl)(hf:X.fn x=true\/X.env.scope.names.lookup x=some .local:=by first|exact .inl rfl|exact .inr rfl|assumption)(hs:∀x,foldedSetIterable iter X.env x=pure x:=by intro _;rfl):PS X (.Assign [.Name x py] (.ListComp elt [⟨tg,iter,ifs,0⟩] scope pos) spos) (bXY (aJE wi g tests te vals) (kS i)):=by
 intro y3 s U H D I h;rw[exec_Assign_Name_used _ _ _ _ hsw];refine Aa (wpAny_standAt (Aa ?_));show wpAny _ X.A (do let _ <-comprehension (.ListComp elt [⟨tg,iter,ifs,0⟩] scope pos) scope X.env _ (newList []) false (eval iter X.env) (some (assign (.Name x py) X.env))) _ _ s
 refine Aa (Cg (wpAny_comprehension_free (use:=some (assign (.Name x py) X.env)) (Q:=λ_ s'=>SP X y3 D .next s') rfl hs ck.clos hkind hnames
  (thn (hi y3 s U H _ I h) λv s1 h1=>thn h1 λitv s2 h2=>?_)) (λ_ s' hq=>Ae (Ae hq)) λ_ _ e=>e)
 obtain⟨it,fp,tn,J,H2,e,I2,T,st2,f2,q⟩:=h2;subst e;refine sV (RR:=λacc C=>compPost (model X.prog X.w) X.A X.xe (some (assign (.Name x py) X.env)) (λ_ s'=>SP X y3 D .next s') acc C) I2 T st2 f2 hc ck hcell hkind hg ht he q λDl C s' H' m hn q' back fC=>?_;show wpAny _ X.A (assign (.Name x py) X.env (.ref Dl)) _ _ s'
 have I':Inv X y3 U H' s':=back s'.heap (Heap.SameBut.refl ..)
 refine wpAny_assign_Name (pB I' hN hix hx (v:=.ref Dl) rfl (λs'' I'' hsb=>?_) hf);obtain⟨a,hsb,ha⟩:=hsb;have hCa:C≠a:=by
  rcases ha with z|z
  .rw[z];exact fC.2.1
  .exact λe=>fC.2.2.2.2.1 x a z e.symm
 refine⟨m,hn.sameBut hsb hCa,λh3 hsb3=>?_⟩;exact⟨U.set i (some (.ref Dl)),H',I''.turned (t':=s''.toks) (λb o hb e=>(hsb3.2 b hb).trans e) fC.1 fC.2.1 fC.2.2.2.1 fC.2.2.2.2.1 fC.2.2.2.2.2,q'⟩
def dQ5(hfree:∀x∈scope.names,x.2≠.free)(hcell:∀y∈scope.names,y.2≠.cell):ClOk X N scope [] (λ_=>N.map λ_=>none) where
 clos:=closureFor_none hfree
 sub:=λx c h=>nomatch h
 has:=λx h=>by
  have e:(relabel scope X.env).names=scope.names:=by
   show List.map _ scope.names=scope.names
   refine map_eq_self λy hy=>?_;obtain⟨n,k⟩:=y;have:(k==NameKind.free)=false:=by simpa using hfree _ hy
   simp[this]
  rw[e]at h;rcases h with h|h
  .exact absurd rfl (hcell _ (Di h))
  .exact absurd rfl (hfree _ (Di h))
 len:=λU=>by simp
 val:=λU i x v h1 h2=>by
  rw[Am]at h2;cases e:N[i]? with
  |none=>rw[e]at h2;cases h2
  |some y=>rw[e]at h2;cases h2
end
def bX8{J:It}{xs:List V}{ok:Hp->Prop}(f:V->Option V)(hgo:∀(i:Nat) H,ok H->i<xs.length->J.go i H)(hst:∀H,ok H->J.stop xs.length H)(hy:∀(i:Nat) H x H',ok H->J.yld i H x H'->H'=H/\xs[i]?=some x)(hok:∀D ys,H1 D=none->ok (upd H1 D (.lst ys)))(hlen:xs.length<sizeLine)(hs:∀(i:Nat) x Hc (A:VK) (B:Hp->Prop),xs[i]?=some x->ok Hc->(match f x with|some y=>A y Hc|none=>B Hc)->g x U0 Hc λU2 H2=>Wk U0 U2/\tests U2 H2 λb H3=>if b=true then te U2 H3 A else B H3)(fin:∀D,H1 D=none->Q (.ref D) (upd H1 D (.lst (xs.filterMap f)))):eT g tests te U0 Q J H1:=by
 intro D hD;refine⟨λi m Hc=>m=xs.length-i/\i<=xs.length/\Hc=upd H1 D (.lst ((xs.take i).filterMap f)),⟨xs.length,by simp,Nat.zero_le _,by simp⟩,?_⟩
 rintro i m Hc ⟨rfl,hi,rfl⟩;by_cases hlt:i<xs.length
 .refine .inr ⟨hgo i _ (hok D _ hD) hlt,λx H' y=>?_⟩;obtain⟨e,hx⟩:=hy i _ x H' (hok D _ hD) y;subst e;refine hs i x _ _ _ hx (hok D _ hD) ?_;have tk:xs.take (i+1)=xs.take i++[x]:=by rw[Bn,hx];rfl
  cases e:f x with
  |some y=>
   refine⟨_,aB,?_,xs.length-(i+1),by omega,rfl,hlt,?_⟩
   .have:=Ea f (xs.take i)
    rw[Bt]at this;omega
   .rw[bXS,tk,Ci];simp[e]
  |none=>
   refine⟨xs.length-(i+1),by omega,rfl,hlt,?_⟩
   rw[tk,Ci];simp[e]
 .have e:i=xs.length:=by omega
  subst e;rw[Ck];exact .inl ⟨hst _ (hok D _ hD),fin D hD⟩
def cX4(f:Nat->Option V)(hl:z.length<sizeLine)(hs:∀(i:Nat) c Hc (A:VK) (B:Hp->Prop),z.cps.toList[i]?=some c->(match f c with|some y=>A y Hc|none=>B Hc)->g (.str ⟨#[c]⟩) U0 Hc λU2 H2=>Wk U0 U2/\tests U2 H2 λb H3=>if b=true then te U2 H3 A else B H3)(fin:∀D,H1 D=none->Q (.ref D) (upd H1 D (.lst (z.cps.toList.filterMap f)))):eT g tests te U0 Q (Its z) H1:=by
 have hz:z.cps.toList.length=z.length:=by simp[Str.length]
 have hz2:z.cps.size=z.length:=rfl
 refine bX8 (xs:=z.cps.toList.map λc=>.str ⟨#[c]⟩) (ok:=λ_=>True) (λx=>match x with|.str y=>f (y.cps.toList.headD 0)|_=>none) (λi H _ h=>?_) (λH _=>?_) (λi H x H' _ y=>?_) (λ_ _ _=>trivial) (by rw[Ac,hz];exact hl) (λi x Hc A B hx _ h=>?_) (λD hD=>?_)
 .rw[Ac,hz]at h;exact h
 .show z.cps.size<=_
  rw[Ac,hz];exact Ai _
 .obtain⟨e,c,hc,hx⟩:=y;refine⟨e,?_⟩;rw[Am,Cb,hc,hx];rfl
 .rw[Am]at hx;cases e:z.cps.toList[i]? with
  |none=>rw[e]at hx;cases hx
  |some c=>rw[e]at hx;cases hx;exact hs i c Hc A B e h
 .have q:=fin D hD
  rw[List.filterMap_map];exact q
def cQI{wi:TI}(h:wi U H λJ H1=>eT g tests te (vals U) Q J H1):aJE wi g tests te vals U H Q:=h
def dQF{Q:Bool->Hp->Prop}(h:Q true H):cZ3 U H Q:=h
def clF(env:Env):List (Str×NameKind)->List (Str×Addr)->List (Str×Addr)
 |[],acc=>acc
 |(n,k)::r,acc=>if k == .free then clF env r ((n,(env.cells.lookup n).getD 0)::acc) else clF env r acc
def aJP(ix:List (Option Nat)):St->St:=λU=>ix.map λo=>match o with|none=>none|some j=>(U[j]?).join
def dQ3(N XN:List Str)(sn dn:List (Str×NameKind))(ix:List (Option Nat)):Bool:=
 ix.length==N.length&&(sn.all λy=>y.2 != .cell&&(y.2 != .free || dn.lookup y.1==some .cell))&&decide ((sn.map (·.1)).Nodup) &&
 ((List.range N.length).all λi=>match ix[i]? with|some (some j)=>N[i]? == XN[j]? && (match N[i]? with|some x=>sn.lookup x==some .free|none=>false)|_=>true)
def pI:∀(names:List (Str×NameKind)) (acc:List (Str×Addr)),(∀y∈names,y.2=.free->∃c,env.cells.lookup y.1=some c)->
 (forIn names acc (λ(x:Str×NameKind) (cs:List (Str×Addr))=>(match x with
  | (name,kind)=>if (kind == NameKind.free)=true then do
      let a <-cellOf env name
      pure (ForInStep.yield ((name,a)::cs))
   else pure (ForInStep.yield cs):Sem (ForInStep (List (Str×Addr))))))=(pure (clF env names acc):Sem (List (Str×Addr)))
 |[],acc,_=>rfl
 |(n,k)::r,acc,h=>by
  rw[List.forIn_cons];unfold clF;cases e:k==NameKind.free with
  |false=>
   simp only[e,Bool.false_eq_true,if_false,pure_bind];exact pI r acc λy hy=>h y (Ak _ hy)
  |true=>
   obtain⟨c,hc⟩:=h (n,k) List.mem_cons_self (by simpa using e)
   have hc':env.cells.lookup n=some c:=hc
   simp only[e,if_true,cellOf,hc',Option.getD_some,pure_bind];exact pI r _ λy hy=>h y (Ak _ hy)
def pK:∀(names:List (Str×NameKind)) (acc:List (Str×Addr)) {x:Str} {c:Addr},(clF env names acc).lookup x=some c->
 acc.lookup x=some c\/((x,NameKind.free)∈names/\c=(env.cells.lookup x).getD 0)
 |[],acc,x,c,h=>.inl h
 |(n,k)::r,acc,x,c,h=>by
  unfold clF at h;cases e:k==NameKind.free with
  |false=>
   rw[e]at h;rcases pK r acc (by simpa using h) with z|⟨z,q⟩
   .exact .inl z
   .exact .inr ⟨Ak _ z,q⟩
  |true=>
   rw[e]at h;have ek:k=.free:=by simpa using e
   rcases pK r _ (by simpa using h) with z|⟨z,q⟩
   .rw[Dx]at z;cases ex:x==n with
    |true=>
     rw[ex]at z;have exn:x=n:=by simpa using ex
     subst exn;subst ek;cases z;exact .inr ⟨Al,rfl⟩
    |false=>rw[ex]at z;exact .inl z
   .exact .inr ⟨Ak _ z,q⟩
def qO:∀(names:List (Str×NameKind)) (acc:List (Str×Addr)) {x:Str},(acc.lookup x).isSome=true->((clF env names acc).lookup x).isSome=true
 |[],acc,x,h=>h
 |(n,k)::r,acc,x,h=>by
  unfold clF;split
  .refine qO r _ ?_;rw[Dx];cases ex:x==n with
   |true=>rfl
   |false=>exact h
  .exact qO r acc h
def kP:∀(names:List (Str×NameKind)) (acc:List (Str×Addr)) {x:Str},(x,NameKind.free)∈names->((clF env names acc).lookup x).isSome=true
 |(n,k)::r,acc,x,h=>by
  unfold clF;rcases Av.mp h with z|z
  .cases z;simp only[beq_self_eq_true,if_true];refine qO r _ ?_;rw[Dx,Ha];rfl
  .split
   .exact kP r _ z
   .exact kP r acc z
def eP:∀ {names:List (Str×NameKind)} {k':NameKind},(names.map λ(n,k)=>if (k==NameKind.free&&env.scope.kind == .function&&env.kindOf n==some .cell) then (n,NameKind.cell) else (n,k)).lookup x=some k'->
 ∃k,(x,k)∈names/\(k'=k\/(k=.free/\k'=.cell))
 |[],_,h=>by simp at h
 |(n,k)::r,k',h=>by
  rw[Aq]at h;dsimp only at h;cases hc:(k==NameKind.free&&env.scope.kind == .function&&env.kindOf n==some .cell) with
  |true=>
   rw[hc,if_pos rfl,Dx]at h;cases ex:x==n with
   |true=>
    rw[ex]at h;cases h;have:x=n:=by simpa using ex
    subst this;have hk:k=.free:=by
     have:=(Fe _ _).mp hc
     have:=(Fe _ _).mp this.1
     simpa using this.1
    exact⟨k,Al,.inr ⟨hk,rfl⟩⟩
   |false=>
    rw[ex]at h;obtain⟨k1,h1,h2⟩:=eP h;exact⟨k1,Ak _ h1,h2⟩
  |false=>
   rw[hc,if_neg An,Dx]at h;cases ex:x==n with
   |true=>
    rw[ex]at h;cases h;have:x=n:=by simpa using ex
    subst this;exact⟨k,Al,.inl rfl⟩
   |false=>
    rw[ex]at h;obtain⟨k1,h1,h2⟩:=eP h;exact⟨k1,Ak _ h1,h2⟩
def kG(hk:env.scope.kind=.function)(hx:env.kindOf x=some .cell):∀ {names:List (Str×NameKind)},names.lookup x=some .free->
 (names.map λ(n,k)=>if (k==NameKind.free&&env.scope.kind == .function&&env.kindOf n==some .cell) then (n,NameKind.cell) else (n,k)).lookup x=some .cell
 |[],h=>by simp at h
 |(n,k)::r,h=>by
  rw[Aq];dsimp only;rw[Dx]at h;cases ex:x==n with
  |true=>
   rw[ex]at h;cases h;have:x=n:=by simpa using ex
   subst this;rw[hk,hx];simp[List.lookup_cons]
  |false=>
   rw[ex]at h;have ih:=kG hk hx h
   split<;>(rw[Dx,ex];exact ih)
def kI{N:List Str}(XN:List Str)(sc:Scope)(ix:List (Option Nat))(hN:X.N=XN)(hsc:X.env.scope=sc)(hk:sc.kind=.function)(hcs:∀x,sc.names.lookup x=some .cell->∃c,X.env.cells.lookup x=some c)(c:dQ3 N XN scope.names sc.names ix=true):ClOk X N scope (clF X.env scope.names []) (aJP ix):=by
 unfold dQ3 at c;simp only[Bool.and_eq_true,decide_eq_true_eq,List.all_eq_true,beq_iff_eq]at c;obtain⟨⟨⟨c0,c1⟩,c2⟩,c3⟩:=c;have fr:∀y,(y,NameKind.free)∈scope.names->sc.names.lookup y=some .cell:=λy hy=>by
  have z:=(c1 _ hy).2
  simpa using z
 have nocell:∀y,(y,NameKind.cell)∉scope.names:=λy hy=>by
  have z:=(c1 _ hy).1
  simp at z
 refine⟨?_,λx c h=>?_,λx h=>?_,λU=>?_,λU i x v h1 h2=>?_⟩
 .unfold closureFor;simp only[bind_pure];exact pI scope.names [] λy hy hf=>hcs y.1 (fr y.1 (by rw[<-hf];exact hy))
 .rcases pK _ _ h with z|⟨z,q⟩
  .simp at z
  .obtain⟨c',e⟩:=hcs x (fr x z);rw[q,e];rfl
 .have:∃ k,(x,k)∈scope.names/\k=.free:=by
   rcases h with h|h
   .obtain⟨k,h1,h2⟩:=eP h;rcases h2 with z|⟨z,_⟩
    .subst z;exact absurd h1 (nocell x)
    .exact⟨k,h1,z⟩
   .obtain⟨k,h1,h2⟩:=eP h;rcases h2 with z|⟨z,z2⟩
    .exact⟨k,h1,z.symm⟩
    .exact⟨k,h1,z⟩
  obtain⟨k,h1,rfl⟩:=this;exact Fc.mp (kP scope.names [] h1)
 .unfold aJP;rw[Ac,c0]
 .unfold aJP at h2;rw[Am]at h2;cases e:ix[i]? with
  |none=>rw[e]at h2;cases h2
  |some o=>
   rw[e]at h2;cases o with
   |none=>cases h2
   |some j=>
    have hi:i<N.length:=(Af.mp h1).1
    have z:=c3 i (Bo.mpr hi)
    rw[e,h1]at z;simp only[Bool.and_eq_true,beq_iff_eq]at z;have hv:U[j]?=some (some v):=by
     have h3:(U[j]?).join=some v:=by simpa using h2
     cases e2:U[j]? with
     |none=>rw[e2]at h3;cases h3
     |some o=>rw[e2]at h3;cases o with
      |none=>cases h3
      |some u=>cases h3;rfl
    have hm:(x,NameKind.free)∈scope.names:=Di z.2
    have hx:=fr x hm
    refine⟨j,by rw[hN];exact z.1.symm,hv,by rw[hsc];exact hx,Fc.mp (kP scope.names [] hm),?_⟩
    exact kG (by rw[hsc];exact hk) (by show X.env.scope.names.lookup x=_;rw[hsc];exact hx) z.2
section
open PySem.AutoSeq1 (wpAny_loadPart')
def jZ{P:Nat->Value->Prop}{S:Nat->Heap->Prop}(k:Nat)(D:Draws prog w A it fp n P S):Draws prog w A it fp (k+n) (λj v=>P (j-k) v) (λj h=>k<=j/\S (j-k) h) where
 live:=λi h st=>D.live _ h st.2
 frame:=λi h h' st kk=>⟨st.1,D.frame _ h h' st.2 kk⟩
 item:=λi s Q E hi st hQ=>D.item (i-k) s Q E (by have:=st.1;omega) st.2 λx h' tk hP hS sb=>hQ x h' tk hP ⟨by have:=st.1;omega,by rw[show i+1-k=i-k+1 by have:=st.1;omega];exact hS⟩ sb
 done:=λs Q E st hE=>D.done s Q E (by have q:=st.2;rwa [show k+n-k=n by omega]at q) hE
def Inv.turnLaid{ch:List Addr}{o:HO}{t':Nat}(I:Inv X y3 U H s)(hch:∀b∈ch,gA X y3 H b)(k:∀b u,b∉ch->s.heap.get? b=some u->h'.get? b=some u)(hp:s.heap.objs.size<=a)(new:ObjOk X.prog X.w (upd H a o) h' a o):Inv X y3 U (upd H a o) {s with heap:=h',toks:=t'}:=by
 have hn:=I.hok.fresh hp
 have nch:∀b u,H b=some u->b∉ch:=λb u e z=>by rw[(hch b z).1]at e;cases e
 refine I.step (g':=s.gens) (d':=s.drawn) (ch:=ch) (λb hb=>?_) (λb o _ _ hc e _=>k b o hc e) (λb o _ _ hc e _=>⟨o.slots,k b o hc e⟩) (λb o _ e n=>?_) (λb o hc e=>⟨o,k b o hc e⟩)
  (λb xs e=>by rw[aG (aY e hn)];exact e) (λb o u e=>by rw[aG (aY e hn)];exact e) (λb ps e=>⟨#[],by rw[aG (aY e hn),e];simp⟩) (λm hm=>?_) (λb u e=>?_) I.bare
 .obtain⟨_,q1,_,q3,q4,q5⟩:=hch b hb;exact⟨q3,q1,q4,q5⟩
 .rw[aG (Ba (Az (Ao e) hp))];exact n
 .obtain⟨ob,es,ep,ho,r⟩:=hm;exact⟨ob,es,ep,k _ ob (λz=>(hch _ z).2.1 rfl) ho,r⟩
 .by_cases hb:b=a
  .subst hb;rw[aB]at e;cases e;exact new
  .rw[aG hb]at e;refine(I.hok b u e).stay (λc v hc q=>k c v ?_ q) (λc q=>by rw[aG (aY q hn)];exact q) λc xs q=>by rw[aG (aY q hn)];exact q
   rcases hc with z|z
   .rw[z];exact nch b u e
   .exact nch c _ z
def Inv.turnAll{ch:List Addr}{t':Nat}(I:Inv X y3 U H s)(hch:∀b∈ch,gA X y3 H b)(k:∀b u,b∉ch->s.heap.get? b=some u->h'.get? b=some u):Inv X y3 U H {s with heap:=h',toks:=t'}:=by
 have nch:∀b u,H b=some u->b∉ch:=λb u e z=>by rw[(hch b z).1]at e;cases e
 refine I.step (g':=s.gens) (d':=s.drawn) (ch:=ch) (λb hb=>?_) (λb o _ _ hc e _=>k b o hc e) (λb o _ _ hc e _=>⟨o.slots,k b o hc e⟩) (λb o _ e n=>n) (λb o hc e=>⟨o,k b o hc e⟩)
  (λb xs e=>e) (λb o u e=>e) (λb ps e=>⟨#[],by rw[e];simp⟩) (λm hm=>?_) (λb u e=>?_) I.bare
 .obtain⟨_,q1,_,q3,q4,q5⟩:=hch b hb;exact⟨q3,q1,q4,q5⟩
 .obtain⟨ob,es,ep,ho,r⟩:=hm;exact⟨ob,es,ep,k _ ob (λz=>(hch _ z).2.1 rfl) ho,r⟩
 .refine(I.hok b u e).stay (λc v hc q=>k c v ?_ q) (λc q=>q) λc xs q=>q;rcases hc with z|z
  .rw[z];exact nch b u e
  .exact nch c _ z
def Ite(K:W.Frag)(a:Addr)(k:Nat):It:=
 ⟨λi H=>∃xs x,SqL K H a xs/\xs[i]?=some x,λi H v H'=>∃p x,H p=none/\v=.ref p/\H'=upd H p (.tup [.int ((k+i:Nat):Int),x])/\∀xs,SqL K H a xs->xs[i]?=some x,λi H=>∃xs,SqL K H a xs/\xs.length=i⟩
def aQS(a e it:Addr)(k:Nat)(hei:e≠it):Turn P w K (.Tuple elts x1 tp) (Ite K a k) [e,it] e (λi h=>(∃old,IsEnum h e it ((k+i:Nat):Int) old)/\h.IsListIter it a i) where
 mem:=by simp
 obj:=λi h st b hb=>by
  obtain⟨⟨old,he⟩,o,ho,c,d⟩:=st;rcases Av.mp hb with z|z
  .subst z;exact⟨_,he,λv z=>by cases z⟩
  .rw[Ap.mp z];exact⟨o,ho,λv z=>by rw[d]at z;cases z⟩
 keep:=λi h h' st kk=>⟨let ⟨old,he⟩:=st.1;⟨old,kk e (by simp) _ he⟩,st.2.at λo q=>kk it (by simp) o q⟩
 item:=by
  intro X hP hw hK hc i y3 s U H E I hf st hg;subst hP hw hK;obtain⟨xs,x,hq,hx⟩:=hg;obtain⟨its,rv,p,hz⟩:=I.list hq;obtain⟨u,hu,ru⟩:=rv.get hx;obtain⟨⟨old,he⟩,hit⟩:=st;have hai:a≠it:=by
   rintro rfl;obtain⟨o,ho,c,_⟩:=hit;obtain⟨o2,ho2,c2,_⟩:=p.isList;rw[ho]at ho2;cases ho2;rw[c]at c2;injection c2 with c2;exact absurd c2 (by decide)
  have hae:a≠e:=by
   rintro rfl;obtain⟨o2,ho2,c2,_⟩:=p.isList;rw[he]at ho2;cases ho2;injection c2 with c2;exact absurd c2 (by decide)
  have hl:=rv.length
  have hil:i<its.length:=(Af.mp hu).1
  obtain⟨ch,hh,hcn,hnx⟩:=I.soft hc;have D:=jZ k (dP (prog:=X.prog) (w:=X.w) (A:=X.A.in1) (items:=its.toArray) hh hai (hnx it (hf it (by simp)).2.2.2.1))
  refine wpAny_pyNext_enum_itemD D (i:=k+i) he ⟨Hb _ _,by rw[Gm];exact⟨⟨hit,p.isList⟩,hcn⟩⟩ (by rw[Be];omega) hei (λz=>by
   rcases Av.mp z with z|z
   .exact hei z
   .rcases Av.mp z with z|z
    .exact hae z.symm
    .exact hnx e (hf e (by simp)).2.2.2.1 z) λy h1 tk hP ho hS hT hsz kk=>?_
  refine⟨_,rfl,wpAny_letOwnedTupleGo_enum ho λh2 he2 hs2=>?_⟩;have ey:y=u:=by
   have hP':its.toArray[k+i-k]?=some y:=hP
   rw[Gm]at hP';have:its[i]?=some y:=by simpa using hP'
   rw[hu]at this;cases this;rfl
  subst ey;have hTe:s.heap.objs.size≠e:=Fy (Ao he)
  have hTi:s.heap.objs.size≠it:=by obtain⟨o,q,_⟩:=hit;exact Fy (Ao q)
  have hT2:h2.get? s.heap.objs.size=some {cls:=.type "tuple",data:=.seq #[.int ((k+i:Nat):Int) tk,y]}:=(hs2.2 _ hTe).trans hT
  have hS':h1.IsListIter it a (i+1):=by
   have q:=hS.2.1.1
   rwa [show k+i+1-k=i+1 by omega]at q
  have I2:Inv X y3 U (upd H s.heap.objs.size (.tup [.int ((k+i:Nat):Int),x])) {s with heap:=h2,toks:=tk+1}:=by
   refine I.turnLaid (ch:=[e,it]) hf (λb u hb q=>(hs2.2 b (λz=>hb (by simp[z]))).trans (kk b u (λz=>hb (by simp[z])) (λz=>hb (by simp[z])) q)) (Nat.le_refl _) ⟨bG (by show 2<=_;omega),[.int ((k+i:Nat):Int) tk,y],.cons ⟨tk,rfl⟩ (.cons ru .nil),_,hT2,rfl,_,rfl⟩
  refine⟨.ref s.heap.objs.size,_,I2,rfl,⟨_,x,I.hok.fresh (Ai _),rfl,rfl,λys hy=>by rw[I.list_inj hy hq];exact hx⟩,⟨⟨y,he2⟩,hS'.at λo q=>(hs2.2 it hei.symm).trans q⟩,λb hb=>?_⟩
  rcases Av.mp hb with z|z
  .rw[z,aG hTe.symm];exact(hf e (by simp)).1
  .rw[List.mem_singleton.mp z,aG hTi.symm];exact(hf it (by simp)).1
 done:=by
  intro X hP hw hK hc i y3 s U H E I hf st hg;subst hP hw hK;obtain⟨xs,hq,hx⟩:=hg;obtain⟨its,rv,p,hz⟩:=I.list hq;obtain⟨⟨old,he⟩,hit⟩:=st;have hl:=rv.length
  have hai:a≠it:=by
   rintro rfl;obtain⟨o,ho,c,_⟩:=hit;obtain⟨o2,ho2,c2,_⟩:=p.isList;rw[ho]at ho2;cases ho2;rw[c]at c2;injection c2 with c2;exact absurd c2 (by decide)
  obtain⟨ch,hh,hcn,hnx⟩:=I.soft hc;have D:=jZ k (dP (prog:=X.prog) (w:=X.w) (A:=X.A.in1) (items:=its.toArray) hh hai (hnx it (hf it (by simp)).2.2.2.1))
  refine wpAny_pyNext_enum_endD D he ⟨Hb _ _,by rw[Gm,Be,<-hl,hx];exact⟨⟨hit,p.isList⟩,hcn⟩⟩ λh' eb=>⟨rfl,?_⟩
  exact I.turnAll (t':=s.toks) (ch:=[e,it]) hf λb u hb q=>eb b u (λz=>hb (by simp[z])) q
 self:=λ_ _ _ _ _ st h=>let ⟨⟨_,he⟩,_⟩:=st;wpAny_pyIter_enum he h
section
variable {p:Pos}
def aJY(R:Addr->Hp->Prop):List V->Hp->Prop:=λvs H=>match vs with|[.ref j]=>R j H|_=>False
def bXK{R:Addr->Hp->Prop}{vs:List V}(q:aJY R vs H):∃j,vs=[.ref j]/\R j H:=by
 unfold aJY at q;split at q
 .exact⟨_,rfl,q⟩
 .exact q.elim
def bJE(K:W.Frag)(ta:TA):TI:=λU H R=>ta U H (aJY λa H1=>onL (rdL H1 a) (R (Ite K a 0) H1))
def bZB{s1:Shared}{k:Nat}(I1:Inv X y3 U H1 s1)(he:IsEnum h' (s1.heap.objs.size+1) s1.heap.objs.size ((k:Nat):Int) .none)(hi:h'.IsListIter s1.heap.objs.size a 0)(hz:h'.objs.size=s1.heap.objs.size+2)(hk:∀b o,s1.heap.get? b=some o->h'.get? b=some o)(q:R (Ite X.K a k) H1):wpAny (model X.prog X.w) X.A (pyIter (.ref (s1.heap.objs.size+1))) (PIE X y3 U (.Tuple elts x1 tp) R) E {s1 with heap:=h'}:=by
 refine wpAny_pyIter_enum (s:={s1 with heap:=h'}) he ⟨_,[s1.heap.objs.size+1,s1.heap.objs.size],_,_,H1,rfl,I1.kept (t':=s1.toks) hk,aQS a _ _ k (Nat.succ_ne_self _),⟨⟨_,he⟩,hi⟩,λb hb=>?_,q⟩
 have z:s1.heap.objs.size<=b:=by
  rcases Av.mp hb with z|z
  .rw[z];exact Hj _
  .rw[Ap.mp z];exact Ai _
 exact I1.fpOk z (I1.hok.fresh z)
def pR(hg:Gl X "enumerate")(hm:X.mg "enumerate"=none)(ha:PA X [l] ta)(hs:starEach [l] X.env=[(false,eval l X.env)]:=by rfl):PI X (.Tuple elts x1 tp) (.Call (.Name "enumerate" p) [l] [] pos) (bJE X.K ta):=by
 intro y3 s U H R I h;refine Call_ (iD I hg hm boot_enumerate (Dr (thn (ha pos y3 s U H _ I h) λus s1 ⟨vs,H1,I1,r1,q1⟩=>?_) hs rfl));obtain⟨a,rfl,q⟩:=bXK q1;obtain⟨u,rfl,ru⟩:=dM r1;cases ru;unfold onL at q;split at q
 .rename_i xs ex
  obtain⟨its,rv,p,hz⟩:=I1.list (aU ex);exact call_enumerate_list p.isList λh' he hi hz hk=>bZB I1 (k:=0) he hi hz hk q
 .exact q.elim
end
section
variable {k:Nat}
def pQ(Pv:Nat->St->Hp->Prop)(h0:Pv 0 U H)(hl:∀i U H,i<=xs.length->Pv i U H->rdL H a=some xs)(hs:∀i x U H p,xs[i]?=some x->Pv i U H->H p=none->g (.ref p) U (upd H p (.tup [.int ((k+i:Nat):Int),x])) λU2 H2=>tb {D with nx:=Pv (i+1),ct:=Pv (i+1),bk:=D.nx} U2 H2)(hd:∀U H,Pv xs.length U H->D.nx U H):nD (Ite K a k) g tb D U H:=by
 refine⟨λi m U H=>m=xs.length-i/\i<=xs.length/\Pv i U H,⟨xs.length,by simp,Nat.zero_le _,h0⟩,?_⟩
 rintro i m U H ⟨rfl,hi,p⟩;have hr:=hl i U H hi p
 by_cases hlt:i<xs.length
 .refine .inr ⟨⟨xs,xs[i],aU hr,by simp[hlt]⟩,Pv (i+1),λU' H' p'=>⟨xs.length-(i+1),by omega,rfl,hlt,p'⟩,λx H' y=>?_⟩
  obtain⟨q,z,hq,rfl,rfl,hz⟩:=y;exact hs i z U H q (hz xs (aU hr)) p hq
 .have e:i=xs.length:=by omega
  subst e;exact .inl ⟨⟨xs,aU hr,rfl⟩,hd U H p⟩
def bX2(h:ta U H (aJY λa H1=>onL (rdL H1 a) (R (Ite K a 0) H1))):bJE K ta U H R:=h
def cXB{R:Addr->Hp->Prop}(h:R a H):aJY R [.ref a] H:=h
end
section
variable {t:TG} {u:TGs} {r:List V} {Q:St->Hp->Prop}
def cQB(e:jA H a=some xs)(hn:xs.length=n)(h:u xs U H Q):cQD K n u (.ref a) U H Q:=⟨a,xs,rfl,.of (kM e),hn,h⟩
def bXW(h:t v U H λU' H'=>u r U' H' Q):wK t u (v::r) U H Q:=⟨v,r,rfl,h⟩
def cQL(h:Q U H):cQ8 [] U H Q:=⟨rfl,h⟩
end
def iO{K:W.Frag}{i j k:Nat}{y:Str}{px py:Pos}(hK:X.K=K)(hc:X.calm=true)(hN:X.N.Nodup)(hi:X.N[i]?=some x)(hx:Loc X.env.scope x)(hfx:X.fn x=true\/X.env.scope.names.lookup x=some .local)(hj:X.N[j]?=some y)(hy:Loc X.env.scope y)(hfy:X.fn y=true\/X.env.scope.names.lookup y=some .local):PG X (.Tuple [.Name x px,.Name y py] k pos) (cQD K 2 (wK (kS i) (wK (kS j) cQ8))):=by
 subst hK;exact cXJ hc (rM (bA hN hi hx hfx) (rM (bA hN hj hy hfy) bXX))
end
structure FlyC (cx:Value) (B:Heap) (l:List Env) (e:Addr) (cls:Value) (d:Option Addr) (fl:Value) (h:Heap):Prop where
 stays:B.StaysIn h
 new:B.get? e=none
 frames:h.FunFrames B l
 on:∃oe vs T oT ts,h.get? e=some oe/\(oe.cls=cls/\oe.dict=d)/\oe.data=.fields vs/\vs[1]?=some (.ref T)/\B.get? T=none/\T≠e/\h.get? T=some oT/\oT.data=.fields ts/\ts[3]?=some fl/\vs[2]?=some cx
def jC(o:Obj)(f:Array Value->Array Value):(o.mapFields f).dict=o.dict:=by
 obtain⟨c,d,dt,sl⟩:=o;cases dt<;>rfl
def oF{vs:Array Value}{f:Obj->Obj}(ha:h.get? a=some o)(hd:o.data=.fields vs):∀b u,h.get? b=some u->(∀ws,u.data≠.fields ws)->(h.update a f).get? b=some u:=λb u e n=>by
 rw[Bx _ _ (λz:a=b=>by rw[<-z,ha]at e;cases e;exact n vs hd)]
 exact e
section
variable {cx:Value} {M:Model} {B:Heap} {l:List Env} {L e:Addr} {cls:Value} {Q:Unit->Shared->Prop}
def oU{vs:Array Value}{head:Value}{nx:Bool}(hfr:A.frames=some (env::outer))(hl:s.heap.FunFrames B (env::outer))(hf:env.frame=some L)(hB:B.StaysIn s.heap)(hn:B.get? e=none)(he:s.heap.get? e=some oe)(hd:oe.data=.fields vs)(h1:1<vs.size)(c2:vs[2]?=some cx)(hQ:∀h',FlyC cx B (env::outer) e oe.cls oe.dict (rawInt L) h'->s.heap.UpToSlots h'->Q () {s with heap:=h'}):wpAny M A (do let a <-frameOf env;let pl <-entryPlaceOf L nx;let b <-EntryCells.newEntry head a .none (rawInt L) .none pl;setField (.ref e) 1 b) Q E s:=by
 have ne:e∉(env::outer).filterMap (·.frame):=λhm=>by
  obtain⟨_,o,ho,nf⟩:=hl.mem hm;rw[he]at ho;cases ho;exact nf vs hd
 refine Aa (wpAny_frameOf_fun hfr hl hf λg1 so=>Aa (wpAny_entryPlaceOf λpl hpl=>?_));have e1:g1.get? e=some oe:=(so.2.1 e ne).trans he
 have b1:B.StaysIn g1:=λb o q=>(so.2.1 b λhm=>by rw[(hl.mem hm).1]at q;cases q).trans (hB b o q)
 unfold EntryCells.newEntry newFields;refine Aa (Ey ?_ (hpl.sizeOk5 _ _ _ _ _));generalize hts:(([head,.ref L,.none,rawInt L,.none]++(if pl.isEmpty then List.replicate 6 Value.none else pl):List Value)).toArray=ts
 have t3:ts[3]?=some (rawInt L):=by rw[<-hts];simp
 have e2:=Ad (h:=g1) ⟨.type "traceback",none,.fields ts,#[]⟩ e1
 refine wpAny_setField e2 hd h1 (hQ _ ?_ ?_)
 .have te:g1.objs.size≠e:=Fy (Ao e1)
  have dm:=Cz hd (·.setIfInBounds 1 (Value.ref g1.objs.size))
  refine⟨λb o q=>?_,hn,hl.of_keeps λb o q nf=>?_,_,_,g1.objs.size,⟨.type "traceback",none,.fields ts,#[]⟩,ts,Heap.get?_update_self _ e2 (Obj.isFreed_of_fields dm),⟨Obj.cls_mapFields _ _,jC _ _⟩,dm,by simp[h1],b1.fresh,te,?_,rfl,t3,(Array.getElem?_setIfInBounds_ne (by decide)).trans c2⟩
  .rw[Bx _ _ (λz:e=b=>by rw[<-z,hn]at q;cases q)]
   exact Ad _ (b1 b o q)
  .obtain⟨sl,q1⟩:=so.2.2 b o q;exact⟨_,oF e2 hd b _ (Ad _ q1) nf,rfl⟩
  .rw[Bx _ _ te.symm];exact Aw g1 rfl
 .intro b o q nf;obtain⟨sl,q1⟩:=so.2.2 b o q;exact⟨sl,oF e2 hd b _ (Ad _ q1) nf⟩
def zN{vs:Array Value}(hfr:A.frames=some (env::outer))(hl:s.heap.FunFrames B (env::outer))(hf:env.frame=some L)(hB:B.StaysIn s.heap)(hn:B.get? e=none)(he:s.heap.get? e=some oe)(hd:oe.data=.fields vs)(h1:vs[1]?=some .none)(c2:vs[2]?=some cx)(hQ:∀h',FlyC cx B (env::outer) e oe.cls oe.dict (rawInt L) h'->s.heap.UpToSlots h'->Q () {s with heap:=h'}):wpAny M A (noteFrame (.ref e) env) Q E s:=by
 unfold noteFrame;simp only[hf];refine Aa (Bl he hd h1 ?_);rw[if_neg (show ¬((Value.none != Value.none)=true) by decide)]
 exact oU hfr hl hf hB hn he hd (Bm.mp h1).1 c2 hQ
def aQ7(hfr:A.frames=some (env::outer))(hf:env.frame=some L)(F:FlyC cx B (env::outer) e cls d .none s.heap)(hQ:∀h',FlyC cx B (env::outer) e cls d (rawInt L) h'->s.heap.UpToSlots h'->Q () {s with heap:=h'}):wpAny M A (noteFrame (.ref e) env) Q E s:=by
 obtain⟨hB,hn,hl,oe,vs,T,oT,ts,he,⟨rfl,rfl⟩,hd,h1,hT,hTe,gT,dT,t3,c2⟩:=F;unfold noteFrame;simp only[hf];refine Aa (Bl he hd h1 ?_);rw[if_pos (show (Value.ref T != Value.none)=true by simp)]
 refine Aa (Bl gT dT t3 ?_);rw[if_neg (show ¬((Value.none==rawInt L)=true) by simp[rawInt])]
 refine Aa (wpAny_setField gT dT (Bm.mp t3).1 ?_);have keep:∀b,b≠T->(s.heap.update T (Obj.mapFields (·.setIfInBounds 3 Value.none))).get? b=s.heap.get? b:=λb hb=>Bx _ _ (Ne.symm hb)
 refine oU (s:={s with heap:=s.heap.update T (Obj.mapFields (·.setIfInBounds 3 Value.none))}) hfr (hl.of_keeps λb o q nf=>⟨o,oF gT dT b o q nf,rfl⟩) hf
  (λb o q=>(keep b λz=>by rw[z,hT]at q;cases q).trans (hB b o q)) hn ((keep e hTe.symm).trans he) hd (Bm.mp h1).1 c2 λh' F' up=>hQ h' F' λb o q nf=>up b o (oF gT dT b o q nf) nf
def hW{fl:Value}(F:FlyC cx B l e cls d fl s.heap)(hQ:∀h',FlyC cx B l e cls d .none h'->s.heap.UpToSlots h'->Q () {s with heap:=h'}):wpAny M A (setFlight (.ref e) none) Q E s:=by
 obtain⟨hB,hn,hl,oe,vs,T,oT,ts,he,hc,hd,h1,hT,hTe,gT,dT,t3,c2⟩:=F;have z3:3<ts.size:=(Bm.mp t3).1
 unfold setFlight;refine Aa (Bl he hd h1 ?_);rw[if_pos (show (Value.ref T != Value.none)=true by simp)]
 refine wpAny_setField gT dT z3 (hQ _ ?_ λb o q nf=>⟨o.slots,oF gT dT b o q nf⟩);have dm:=Cz dT (·.setIfInBounds 3 Value.none)
 refine⟨λb o q=>?_,hn,hl.of_keeps λb o q nf=>⟨o,oF gT dT b o q nf,rfl⟩,oe,vs,T,_,_,?_,hc,hd,h1,hT,hTe,Heap.get?_update_self _ gT (Obj.isFreed_of_fields dm),dm,by simp[z3],c2⟩
 .rw[Bx _ _ (λz:T=b=>by rw[<-z,hT]at q;cases q)]
  exact hB b o q
 .rw[Bx _ _ hTe];exact he
def FlyC.less{fl:Value}(F:FlyC cx B (env::outer) e cls d fl h):FlyC cx B outer e cls d fl h:=⟨F.stays,F.new,F.frames.2.2,F.on⟩
def uW{vs:Array Value}(hfr:A.frames=some (env::outer))(hl:s.heap.FunFrames B (env::outer))(hf:env.frame=some L)(hB:B.StaysIn s.heap)(hn:B.get? e=none)(he:s.heap.get? e=some oe)(hd:oe.data=.fields vs)(h1:vs[1]?=some .none)(c2:vs[2]?=some cx)(hQ:∀h',FlyC cx B outer e oe.cls oe.dict .none h'->s.heap.UpToSlots h'->Q () {s with heap:=h'}):wpAny M A (leaving env (.ref e)) Q E s:=by
 unfold leaving;exact Aa (zN hfr hl hf hB hn he hd h1 c2 λh1 F1 u1=>hW (s:={s with heap:=h1}) F1 λh2 F2 u2=>hQ h2 F2.less (u1.trans u2))
end
structure UnB (fs:List Addr) (H H':Hp) (h B h':Heap):Prop where
 keep:∀b o,h.get? b=some o->H b=none->b∉fs->B.get? b=some o
 slot:∀b o,h.get? b=some o->H b=none->b∈fs->∃sl,h'.get? b=some {o with slots:=sl}
 free:∀b o,h.get? b=some o->H b=none->H' b=none
 there:∀b o,h.get? b=some o->b∉fs->∃o',B.get? b=some o'
 tups:∀b xs,H b=some (.tup xs)->H' b=some (.tup xs)
 frzs:∀b o u,H b=some (.frz o u)->H' b=some (.frz o u)
 tbls:∀b ps,H b=some (.tbl ps)->∃more,H' b=some (.tbl (ps++more))
def cvO:Option Value->Value
 |none=>.none
 |some v=>v
def aJ8(ch:List Addr):cvO (hvO ch)=hvV ch:=by cases ch<;>rfl
def CXr(P:Program)(w:World):CXT:=λhv outer H s E e s'=>
 ∃(ea:Addr) (cls:Value) (d:Option Addr) (B:Heap) (H':Hp),e=.ref ea/\s'.os=s.os/\AllBare s'.gens/\FlyC (cvO hv) B outer ea cls d .none s'.heap/\HOk P w H' B/\UnB (frs outer) H H' s.heap B s'.heap/\E cls d H'
def HOk.down{B:Heap}(x:HOk P w H h)(k:∀b o u,H b=some u->h.get? b=some o->B.get? b=some o):HOk P w H B:=λa u e=>
 (x a u e).stay (λb o hb q=>by
  rcases hb with z|z
  .subst z;exact k b o u e q
  .exact k b o _ z q) (λ_ q=>q) λ_ _ q=>q
def ObjOk.get{o:HO}(x:ObjOk P w H h a o):∃ob,h.get? a=some ob:=by
 cases o with
 |lst xs=>obtain⟨_,_,_,_,e⟩:=x;exact⟨_,e⟩
 |tup xs=>obtain⟨_,_,_,ob,e,_⟩:=x;exact⟨_,e⟩
 |dK kvs=>obtain⟨_,_,_,_,ob,_,_,e,_⟩:=x;exact⟨_,e⟩
 |dT kvs=>obtain⟨_,_,_,_,ob,_,_,e,_⟩:=x;exact⟨_,e⟩
 |set S n=>obtain⟨ob,_,_,_,e,_⟩:=x;exact⟨_,e⟩
 |ins C dx fs=>obtain⟨_,_,_,e,_⟩:=x;exact⟨_,e⟩
 |own y=>exact x
 |xd fs=>obtain⟨_,⟨od,_,_,e,_⟩,_⟩:=x;exact⟨_,e⟩
 |rng lo hi=>obtain⟨_,_,_,e⟩:=x;exact⟨_,e⟩
 |frz ob u=>exact⟨_,x.1⟩
 |tbl ps=>exact⟨_,x⟩
 |met f y=>exact⟨_,x⟩
 |ext φ=>exact x.2.1
def HOk.hole(x:HOk P w H h)(e:h.get? a=none):H a=none:=by
 cases q:H a with
 |none=>rfl
 |some o=>
  obtain⟨ob,z⟩:=(x a o q).get;rw[e]at z;cases z
def gM{L:Addr}(hf:env.frame=some L)(h1:b≠L)(h2:b∉frs outer):b∉frs (env::outer):=λhm=>by
 obtain⟨e,he,q⟩:=Cp.mp hm;rcases Av.mp he with z|z
 .subst z;rw[hf]at q;exact h1 (Bh q).symm
 .exact h2 (Cp.mpr ⟨e,z,q⟩)
section
variable {mg:Q4} {base:Heap} {qual:Str} {cd:Value} {s₀:Shared} {H₀:Hp} {E:XK}
def qR{vs:Array Value}(I:Inv (iY (CXr P w) P w K mg base N qual scope f cd A outer s₀ H₀ E) y3 U H s)(he:s.heap.get? ea=some oe)(hd:oe.data=.fields vs)(h1:vs[1]?=some .none)(c2:vs[2]?=some (cvO A.handled))(hn:H ea=none)(h0:s₀.heap.get? ea=none)(q:E oe.cls oe.dict H):(iY (CXr P w) P w K mg base N qual scope f cd A outer s₀ H₀ E).xe (.ref ea) s:=by
 have hfr:=I.ok.frames
 have hst:=I.stack
 have hsf:=I.stkFree
 have hbase:=I.base
 have hlo:∀b o,s₀.heap.get? b=some o->b≠s₀.heap.objs.size:=λb o e=>Ba (Ao e)
 have nea:∀b o,s₀.heap.get? b=some o->b≠ea:=λb o e z=>by rw[z,h0]at e;cases e
 have hid:∀b o,s.heap.get? b=some o->b≠ea->b∉frs (envOfC qual scope s₀.heap.objs.size f cd::outer)->(W.hideAll s.heap (ea::frs (envOfC qual scope s₀.heap.objs.size f cd::outer))).get? b=some o:=λb o e n1 n2=>
  W.hideAll_get _ e λhm=>(Av.mp hm).elim n1 n2
 refine uW (B:=W.hideAll s.heap (ea::frs (envOfC qual scope s₀.heap.objs.size f cd::outer))) hfr (W.funFrames_hide hst λenv he b hb=>Ak _ (Cp.mpr ⟨env,he,hb⟩)) rfl (λb o q=>W.of_hideAll _ q)
  (W.hideAll_none _ Al) he hd h1 c2 λh2 fl up=>?_
 refine⟨ea,_,_,_,H,rfl,I.os,I.bare,fl,I.hok.down λb o u e g=>hid b o g (λz=>by rw[z,hn]at e;cases e) λhm=>?_,⟨λb o e n hb=>?_,λb o e n hb=>?_,λb o e n=>hbase.free b o e n (by simp[iY]),λb o e hb=>?_,hbase.tups,hbase.frzs,hbase.tbls⟩,q⟩
 .rw[hsf b hm]at e;cases e
 .exact hid b o (hbase.keep b o e n hb (by simp[iY])) (nea b o e) (gM rfl (hlo b o e) hb)
 .obtain⟨sl,q1⟩:=hbase.slot b o e n hb (by simp[iY])
  obtain⟨_,o2,g2,nf⟩:=I.ok.funs.mem hb;have e2:s₀.heap.get? b=some o2:=g2
  rw[e]at e2;cases e2;obtain⟨sl2,q2⟩:=up b _ q1 nf;exact⟨sl2,q2⟩
 .obtain⟨o',q1⟩:=hbase.there b o e (by simp[iY])
  exact⟨o',hid b o' q1 (nea b o e) (gM rfl (hlo b o e) hb)⟩
end
def cZ7(X:Cx)(E:XK):Prop:=∀(y3:List (Addr×Obj)) (U:St) (H:Hp) (s:Shared) (ea:Addr) (oe:Obj) (vs:Array Value),Inv X y3 U H s->s.heap.get? ea=some oe->oe.data=.fields vs->vs[1]?=some .none->vs[2]?=some (cvO X.A.handled)->H ea=none->X.s₀.heap.get? ea=none->
 E oe.cls oe.dict H->X.xe (.ref ea) s
def bZJ{mg:Q4}{base:Heap}{qual:Str}{cd:Value}{s₀:Shared}{H₀:Hp}{E:XK}:cZ7 (iY (CXr P w) P w K mg base N qual scope f cd A outer s₀ H₀ E) E:=λ_ _ _ _ _ _ _ I he hd h1 c2 hn h0 q=>qR I he hd h1 c2 hn h0 q
abbrev Cx.tr(X:Cx)(y3:List (Addr×Obj))(xe:Value->Shared->Prop):Cx:={X with pn:=X.pn++y3,xe:=xe}
abbrev Cx.hnd(X:Cx)(y3:List (Addr×Obj))(ea:Addr):Cx:={X with A:=X.A.mark (some (.ref ea)),calm:=false,pn:=X.pn++y3,xe:=λ_ _=>False}
section
variable {pins':Q3} {xe:Q2}
def Inv.tr(I:Inv X y3 U H s)(xe:Q2):Inv (X.tr y3 xe) [] U H s:=
 ⟨⟨I.ok.mod,I.ok.kind,I.ok.glob,I.ok.blt,I.ok.above,I.ok.inj,I.ok.has,I.ok.cab,I.ok.hd,I.ok.frames,I.ok.stk,I.ok.exf,I.ok.bs,I.ok.bsz,I.ok.noex,I.ok.exfs,I.ok.funs,I.ok.frf⟩,I.os,I.bare,I.base,I.loc,I.cell,I.free,I.freeC,
  λp hp=>I.pin p (by rwa [Cf]at hp),I.hok,I.len⟩
def Inv.untr(I:Inv (X.tr y3 xe) pins' U H s):Inv X y3 U H s:=
 ⟨⟨I.ok.mod,I.ok.kind,I.ok.glob,I.ok.blt,I.ok.above,I.ok.inj,I.ok.has,I.ok.cab,I.ok.hd,I.ok.frames,I.ok.stk,I.ok.exf,I.ok.bs,I.ok.bsz,I.ok.noex,I.ok.exfs,I.ok.funs,I.ok.frf⟩,I.os,I.bare,I.base,I.loc,I.cell,I.free,I.freeC,
  λp hp=>I.pin p (Da _ hp),I.hok,I.len⟩
def Inv.hnd(I:Inv X y3 U H s)(ea:Addr):Inv (X.hnd y3 ea) [] U H s:=
 ⟨⟨I.ok.mod,I.ok.kind,I.ok.glob,I.ok.blt,I.ok.above,I.ok.inj,I.ok.has,I.ok.cab,(λz=>nomatch z),I.ok.frames,I.ok.stk,I.ok.exf,I.ok.bs,I.ok.bsz,I.ok.noex,I.ok.exfs,I.ok.funs,I.ok.frf⟩,I.os,I.bare,I.base,I.loc,I.cell,I.free,I.freeC,
  λp hp=>I.pin p (by rwa [Cf]at hp),I.hok,I.len⟩
def Inv.unhnd(I:Inv (X.hnd y3 ea) pins' U H s)(ok:X.Ok):Inv X y3 U H s:=
 ⟨ok,I.os,I.bare,I.base,I.loc,I.cell,I.free,I.freeC,λp hp=>I.pin p (Da _ hp),I.hok,I.len⟩
structure Fre (X:Cx) (y3:List (Addr×Obj)) (a:Addr):Prop where
 s0:X.s₀.heap.get? a=none
 loc:a≠X.env.locals
 cell:∀x c,X.env.cells.lookup x=some c->c≠a
 pin:∀p∈X.pn++y3,p.1≠a
def Inv.adopt{a:Addr}{o:HO}(I:Inv X y3 U H s)(f:Fre X y3 a)(hn:H a=none)(new:ObjOk X.prog X.w (upd H a o) s.heap a o):Inv X y3 U (upd H a o) s:=by
 have ne:∀b u,H b=some u->b≠a:=λb u e=>aY e hn
 refine⟨I.ok,I.os,I.bare,⟨I.base.keep,I.base.slot,λb u e n hx=>?_,I.base.there,λb xs e=>?_,λb u v e=>?_,λb ps e=>?_⟩,I.loc,I.cell,by rw[aG f.loc.symm];exact I.free,λx c e=>by rw[aG (f.cell x c e)];exact I.freeC x c e,λp hp=>?_,λb u e=>?_,I.len⟩
 .rw[aG (λz=>by rw[z,f.s0]at e;cases e)]
  exact I.base.free b u e n hx
 .have q:=I.base.tups b xs e
  rw[aG (ne b _ q)];exact q
 .have q:=I.base.frzs b u v e
  rw[aG (ne b _ q)];exact q
 .obtain⟨m,q⟩:=I.base.tbls b ps e;exact⟨m,by rw[aG (ne b _ q)];exact q⟩
 .obtain⟨h1,h2,h3⟩:=I.pin p hp;exact⟨h1,by rw[aG (f.pin p hp)];exact h2,h3⟩
 .by_cases hb:b=a
  .subst hb;rw[aB]at e;cases e;exact new
  .rw[aG hb]at e;exact(I.hok b u e).stay (λc v _ q=>q) (λc q=>by rw[aG (ne c _ q)];exact q) λc xs q=>by rw[aG (ne c _ q)];exact q
def Inv.unname{n:Str}{m:Q4}{v:Option Value}{t:Nat}(I:Inv X y3 U H s)(hN:X.N.Nodup)(hi:X.N[i]?=some n)(hm:s.heap.Ns X.env.locals m)(hl:X.env.scope.names.lookup n=some .local)(hn:h'.Ns X.env.locals (λx=>if x=n then v else m x))(sb:Heap.SameBut X.env.locals s.heap h'):Inv X y3 (U.set i none) H {s with heap:=h',toks:=t}:=by
 have k:∀b o,b≠X.env.locals->s.heap.get? b=some o->h'.get? b=some o:=λb o hb e=>(sb.2 b hb).trans e
 have nl:∀b o,X.s₀.heap.get? b=some o->b≠X.env.locals:=λb o e=>Ba (Az (Ao e) I.ok.above)
 have there:∀b o,s.heap.get? b=some o->∃o',h'.get? b=some o':=λb o e=>by
  by_cases hb:b=X.env.locals
  .obtain⟨o',_,_,q,_⟩:=hn;exact⟨o',by rw[hb];exact q⟩
  .exact⟨o,k b o hb e⟩
 obtain⟨m1,hm1,hl1⟩:=id I.loc;refine⟨I.ok,I.os,I.bare,⟨λb o e n hb hx=>k b o (nl b o e) (I.base.keep b o e n hb hx),λb o e n hb hx=>?_,I.base.free,λb o e hx=>?_,I.base.tups,I.base.frzs,I.base.tbls⟩,⟨_,hn,λj y u e1 e2 e3=>?_⟩,λx c e=>?_,I.free,I.freeC,λp hp=>?_,λb u e=>?_,by rw[List.length_set];exact I.len⟩
 .obtain⟨sl,q⟩:=I.base.slot b o e n hb hx;exact⟨sl,k b _ (nl b o e) q⟩
 .obtain⟨o',q⟩:=I.base.there b o e hx;exact there b o' q
 .have hji:j≠i:=λz=>by
   subst z;rw[Gr (by rw[I.len];exact(Af.mp hi).1)]at e2
   cases e2
  rw[Fu (Ne.symm hji)]at e2;have hyn:y≠n:=λz=>hji (kU hN e1 (by rw[z];exact hi))
  obtain⟨u',r,look⟩:=hl1 j y u e1 e2 e3;have em:m1=m:=by
   obtain⟨o1,es1,ep1,g1,d1,_,f1⟩:=hm1;obtain⟨o2,es2,ep2,g2,d2,_,f2⟩:=hm;rw[g1]at g2;cases g2;rw[d1]at d2;cases d2;funext z
   rw[<-f1 z,f2 z]
  refine⟨u',r,?_⟩;rcases look with⟨z1,z2⟩|⟨z1,c,z2,o,z3,z4⟩
  .exact .inl ⟨z1,by show (if y=n then v else m y)=_;rw[if_neg hyn,<-em];exact z2⟩
  .exact .inr ⟨z1,c,z2,o,k c o (I.cne y c z2) z3,z4⟩
 .obtain⟨v',o,z1,z2⟩:=I.cell x c e;exact⟨v',o,k c o (I.cne x c e) z1,z2⟩
 .obtain⟨h1,h2,h3,h4⟩:=I.pin p hp;exact⟨k _ _ h3 h1,h2,h3,h4⟩
 .refine(I.hok b u e).stay (λc o hc q=>k c o (λz=>?_) q) (λ_ q=>q) λ_ _ q=>q;have fr:=I.free
  rcases hc with z1|z1
  .rw[<-z1,z,fr]at e;cases e
  .rw[z,fr]at z1;cases z1
end
def eJ(ea:Addr)(cls:Value)(d:Option Addr):HO:=.ext λh=>∃oe vs,h.get? ea=some oe/\oe.cls=cls/\oe.dict=d/\oe.data=.fields vs
def FlyC.obj{cx:Value}{B:Heap}{l:List Env}{cls fl:Value}(F:FlyC cx B l ea cls d fl h):ObjOk P w H h ea (eJ ea cls d):=by
 obtain⟨oe,vs,T,oT,ts,he,hc,hd,_⟩:=F.on;exact⟨⟨oe,vs,he,hc.1,hc.2,hd⟩,⟨oe,he⟩,λh1 h2 ⟨o,ws,g,q⟩ k=>⟨o,ws,k o g,q⟩⟩
def XS(X:Cx)(y3:List (Addr×Obj))(R:Value->Option Addr->St->Hp->Prop):Value->Shared->Prop:=λe s1=>
 ∃ea cls d B U1 H1,e=.ref ea/\FlyC (cvO X.A.handled) B X.stack ea cls d .none s1.heap/\Fre X y3 ea/\H1 ea=none/\(∀h2,B.StaysIn h2->s1.heap.UpToSlots h2->Inv X y3 U1 H1 {s1 with heap:=h2})/\R cls d U1 H1
def aXP(CX:CXT)(X:Cx)(Es:St->XK):Prop:=∀(y3:List (Addr×Obj)) (U:St) (H:Hp) (s:Shared) (e:Value) (s':Shared),Inv X y3 U H s->CX X.A.handled X.stack H s (Es U) e s'->X.xe e s'
def kW{R:Value->Option Addr->St->Hp->Prop}(hex:X.ex=[]):aXP (CXr X.prog X.w) (X.tr y3 (XS X y3 R)) (λU cls d H1=>R cls d U H1):=by
 intro pins' U H s e s1 I' h;obtain⟨ea,cls,d,B,H1,rfl,os,bare,F,hok,un,q⟩:=h;have I:Inv X y3 U H s:=I'.untr
 have F:FlyC (cvO X.A.handled) B X.stack ea cls d .none s1.heap:=F
 have un:UnB (frs X.stack) H H1 s.heap B s1.heap:=un
 have nfs:ea∉frs X.stack:=λhm=>by
  obtain⟨_,o,g,nf⟩:=F.frames.mem hm;obtain⟨oe,vs,T,oT,ts,he,hc,hd,_⟩:=F.on;rw[g]at he;cases he;exact nf vs hd
 have ne:∀b o,s.heap.get? b=some o->b≠ea:=λb o g z=>by
  subst z;obtain⟨o',g'⟩:=un.there b o g nfs;rw[F.new]at g';cases g'
 refine⟨ea,cls,d,B,U,H1,rfl,F,⟨?_,?_,λx c z=>?_,λp hp=>?_⟩,hok.hole F.new,λh2 st up=>?_,q⟩
 .cases z:X.s₀.heap.get? ea with
  |none=>rfl
  |some o=>
   obtain⟨o',z'⟩:=I.base.there ea o z (by rw[hex];simp)
   exact absurd rfl (ne ea o' z')
 .obtain⟨m,⟨o,_,_,g,_⟩,_⟩:=I.loc;exact(ne _ o g).symm
 .obtain⟨v,o,g,_⟩:=I.cell x c z;exact ne c o g
 .exact ne p.1 p.2 (I.pin p hp).1
 .have slot:∀ b o,s.heap.get? b=some o->b∈frs X.stack->∃ sl,h2.get? b=some { o with slots:=sl }:=λb o g hb=>by
   obtain⟨sl,g1⟩:=un.slot b o g (I.stkFree b hb) hb;obtain⟨_,o2,g2,nf⟩:=I.stack.mem hb;rw[g]at g2;cases g2;obtain⟨sl2,g3⟩:=up b _ g1 nf;exact⟨sl2,g3⟩
  refine I.call' (s':={s1 with heap:=h2}) (ch:=[]) os ⟨λb o g n hb _=>st b o (un.keep b o g n hb),λb o g n hb _=>slot b o g hb,λb o g n _=>un.free b o g n,λb o g _=>?_,un.tups,un.frzs,un.tbls⟩ (hok.kept λb o g=>st b o g) bare λb hb=>absurd hb (by simp)
  by_cases hb:b∈frs X.stack
  .obtain⟨sl,g1⟩:=slot b o g hb;exact⟨_,g1⟩
  .obtain⟨o',g1⟩:=un.there b o g hb;exact⟨o',st b o' g1⟩
section
variable {CX:CXT} {k:Nat} {fd:FuncData} {ps:List Str} {Es:St->XK} {p:Pos} {es:List Expr} {t:TA}
def uP(sp:Sp)(Es:St->XK)(t:TA):TE:=λU H Q=>t U H λvs H1=>sp vs H1 Q (Es U)
def aZX(F:FnOk X.prog X.w X.K X.mg X.base CX k f fd ps sp)(hr:Room k X.A)(hg:Gl X x)(hm:X.mg x=some (.ref f))(hk:W.keepIn X.K (.ref f)=true)(hb:Binds X.K fd ps [])(hx:aXP CX X Es)(ha:PA X (e::es) t)(hdb:(x==("__debug__" : Str))=false:=by decide)(he:starEach (e::es) X.env=(false,eval e X.env)::starEach es X.env:=by rfl)(hpl:(backTo pos (starEach es X.env)).any (·.1)=false:=by rfl)(hc:X.calm=true:=by rfl):PE X (.Call (.Name x p) (e::es) [] pos) (uP sp Es t):=by
 intro y3 s U H Q I h;refine Ej (eN I hg hm ?_ hdb);refine Gi (h₀:=X.base) I.ok.mod.kin hk (thn (ha pos y3 s U H _ I h) λus s1 ⟨vs,H1,I1,r,q⟩=>⟨I1.kIn,?_⟩) he hpl;have hl:us.length=ps.length:=by rw[<-r.length];exact F.len _ _ _ _ q
 have hb1:=hb s1 us I1.kIn (by rw[Cf];exact hl)
 rw[Cf]at hb1;refine Fi (Ex (F.run X.A X.stack s1 H1 ⟨us,[]⟩ us vs Q (Es U) hr (I1.env0 hc) hb1 r q) λrs s' hq=>?_);cases rs with
 |error e=>exact hx y3 U H1 s1 e s' I1 hq
 |ok fl=>
  cases fl with
  |ret u=>exact I1.after hq
  |next=>exact False.elim hq
  |brk=>exact False.elim hq
  |cont=>exact False.elim hq
end
def SP.untr{xe:Q2}{f:Flow}{s':Shared}(h:SP (X.tr y3 xe) [] D f s'):SP X y3 D f s':=by
 cases f with
 |next=>obtain⟨U',H',I,q⟩:=h;exact⟨U',H',I.untr,q⟩
 |brk=>obtain⟨U',H',I,q⟩:=h;exact⟨U',H',I.untr,q⟩
 |cont=>obtain⟨U',H',I,q⟩:=h;exact⟨U',H',I.untr,q⟩
 |ret u=>obtain⟨v,U',H',I,r,q⟩:=h;exact⟨v,U',H',I.untr,r,q⟩
section
open PySem.W
structure ExK (K:Frag) (D:Addr):Prop where
 cls:hasDictIn K D=true
 ga:findIn K (.ref D) "__getattribute__"=some (some (.builtin "BaseException.__getattribute__"))
 gh:findIn K (.ref D) "__getattr__"=some none
 ca:findIn K (.ref D) "__class__"=some (some (.builtin "object.__class__"))
 cg:specialIn K (.builtin "object.__class__") "__get__"=some (some (.builtin "getset_descriptor.__get__"))
 ct:takesIn K (.builtin "object.__class__")=some true
 mo:mroIn K D (.type "object")=some true
 mb:W.subIn K (.ref D) (.type "BaseException")=some true
section
variable {K:Frag} {x D:Addr} {ox:Obj} {od:Option Obj}
def oW{M:Model}{nm:Value}{Q:Unit->Shared->Prop}(Z:ExK K D)(X:K.In s.heap)(I:InstAt s.heap x ox D od)(hq:Q () s):wpAny M A (checkBuiltinCall "BaseException.__getattribute__" ⟨[.ref x,nm],[]⟩) Q E s:=by
 have hk:builtinKind "BaseException.__getattribute__"=some .slot:=by decide +kernel
 have hs:splitId "BaseException.__getattribute__"=some ("BaseException", "__getattribute__"):=by decide +kernel
 have L0:=I.type (M:=M)
 have L1:=looks_subIn (M:=M) X Z.mb
 have ha:=F.args_bexc_ga (.ref x) nm
 simp only[checkBuiltinCall,hk,hs];refine Aa ((L0.andThen L1).at ?_);rw[if_neg (show ¬((!true)=true) by decide)]
 exact Hk ha hq
def aJU{M:Model}(Z:ExK K D)(X:K.In h)(I:InstAt h x ox D od):Looks M h (Builtin.ObjectAttr.find (.ref x) (.ref D) "__class__") (Builtin.ObjectAttr.Found.bind (.builtin "getset_descriptor.__get__") (.builtin "object.__class__")):=by
 refine looks_find X I ?_;obtain⟨cd,hc,_⟩:=any_some Z.cls;unfold findObj;rw[hc,Option.bind_some,Z.ca,Option.bind_some];simp[Z.cg,Z.ct]
def yN{Q:Option Value->Shared->Prop}(Z:ExK K D)(X:K.In s.heap)(I:InstAt s.heap x ox D od)(h:Q (some (.ref D)) {s with toks:=s.toks+1}):wpAny (model prog w) A (getAttr? (.ref x) "__class__") Q E s:=by
 obtain⟨hh,g,d,t,os⟩:=s;have L0:=I.type (M:=model prog w)
 have L1:=looks_findIn (M:=model prog w) X Z.ga
 have L2:=looks_findIn (M:=model prog w) X Z.gh
 have L3:=aJU (M:=model prog w) Z X I
 unfold getAttr? getAttrBy? getAttrBy;refine Aa (wpAny_mkText (Aa (De (Bv (Aa (L0.at (Aa (L1.at ?_))))))));have ne:(Value.builtin "BaseException.__getattribute__" == Value.builtin "object.__getattribute__")=false:=by decide +kernel
 have fb:=F.excAttr_ValueError.ga.bind (.ref x)
 dsimp only;rw[ne,Bool.and_false,if_neg An];unfold getAttrByItsOwn hookBefore;rw[if_pos (show onTheHeap (Value.ref D)=true from rfl)];refine Aa (L2.at (Aa (De (Bv ?_))));unfold callGetattribute boundAndCalled;rw[if_neg (show ¬((false&&onTheHeap (Value.builtin "BaseException.__getattribute__"))=true) by decide)]
 refine Aa (Hk fb ?_);refine Fi (Ez F.excAttr_ValueError.ga.plain F.entry_bexc_ga (oW Z X I ?_));unfold Builtin.«object.__getattribute__»;refine Aa (Ae (Aa (Ae (Aa (L0.at (Aa (L3.at ?_)))))));show wpAny _ _ (Builtin.ObjectAttr.bindTo _ _ _ _) _ _ _
 unfold Builtin.ObjectAttr.bindTo;refine Aa (Bv (Fi (class_get (ox:=ox) (od:=od) X I Z.mo ?_)));refine Ae ?_;exact handed_on rfl (Ae h)
def aQW(Z:ExK K D):KitX K (.ref x) (.ref D) (λh=>∃ox od,InstAt h x ox D od) where
 ty:=λ_ _ _ ⟨_,_,I⟩=>I.type
 it:=λM h X _=>by
  have q:(clsIn K D).isSome=true:=by
   obtain⟨cd,hc,_⟩:=any_some Z.cls;rw[hc];rfl
  unfold clsIn at q;split at q
  .rename_i ho
   intro A1 Q1 E1 s1 k1 q1;unfold isType loadHead;exact Aa (wpAny_loadPart (k1 _ _ (X _ _ ho)) (Ae q1))
  .cases q
 ne:=λh tp dd its n sl X htp=>by
  have q:(clsIn K D).isSome=true:=by
   obtain⟨cd,hc,_⟩:=any_some Z.cls;rw[hc];rfl
  unfold clsIn at q;split at q
  .rename_i ho
   refine Dt.mpr λz=>?_;obtain rfl:D=tp:=Value.ref.inj (He.mp z);have z:=(X _ _ ho).symm.trans htp
   cases z
  .cases q
 ca:=λX ⟨_,_,I⟩ k=>yN Z X I k
end
def cQX:V->Option Value
 |.ref C=>some (.ref C)
 |.ty T=>some (.type T)
 |_=>none
def aQ3{c:Value}(h:cQX v=some c)(r:RelV v u):u=c:=by
 cases v with
 |ref C=>cases h;exact r
 |ty T=>cases h;exact r
 |_=>cases h
def bXZ{Es:St->XK}{t:TA}(h:t U H λvs H1=>sp vs H1 Q (Es U)):uP sp Es t U H Q:=h
def bXQ(P:Program)(w:World)(K:W.Frag)(mg:Str->Option Value)(base:Heap)(k:Nat)(x:Str)(ps:List Str)(sp:Sp):Prop:=
 ∃(f:Addr) (fd:FuncData),FnOk P w K mg base (CXr P w) k f fd ps sp/\mg x=some (.ref f)/\W.keepIn K (.ref f)=true/\Binds K fd ps []
section
variable {k:Nat} {ps:List Str} {p:Pos} {es:List Expr} {t:TA} {E:XK} {Es:St->XK}
def bZH(c:bXQ X.prog X.w X.K X.mg X.base k x ps sp)(hx:mF (CXr X.prog X.w) X E)(hr:Room k' X.A)(hk:k<=k')(hg:Gl X x)(ha:PA X (e::es) t)(hdb:(x==("__debug__" : Str))=false:=by decide)(he:starEach (e::es) X.env=(false,eval e X.env)::starEach es X.env:=by rfl)(hpl:(backTo pos (starEach es X.env)).any (·.1)=false:=by rfl)(hc:X.calm=true:=by rfl):PE X (.Call (.Name x p) (e::es) [] pos) (xF sp [] E t):=by
 obtain⟨f,fd,F,hm,hk',hb⟩:=c;exact xS F (hr.mono hk) hg hm hk' hb .nil hx ha hdb he hpl hc
def wA(c:bXQ X.prog X.w X.K X.mg X.base k x ps sp)(hx:aXP (CXr X.prog X.w) X Es)(hr:Room k' X.A)(hk:k<=k')(hg:Gl X x)(ha:PA X (e::es) t)(hdb:(x==("__debug__" : Str))=false:=by decide)(he:starEach (e::es) X.env=(false,eval e X.env)::starEach es X.env:=by rfl)(hpl:(backTo pos (starEach es X.env)).any (·.1)=false:=by rfl)(hc:X.calm=true:=by rfl):PE X (.Call (.Name x p) (e::es) [] pos) (uP sp Es t):=by
 obtain⟨f,fd,F,hm,hk',hb⟩:=c;exact aZX F (hr.mono hk) hg hm hk' hb hx ha hdb he hpl hc
def aQB:mF (CXr X.prog X.w) X E0:=λ_ _ _ _ _ _ _ h=>by
 obtain⟨_,_,_,_,_,_,_,_,_,_,_,z⟩:=h;exact z.elim
end
section
variable {mg:Q4} {base:Heap}
def Fun.okX{qual:Str}{st:Stmt}{fd:FuncData}{ps:List Str}{k:Nat}(F:Fun K x qual st f fd)(S:FnScope N ps (aK st))(len:∀vs H Q E,sp vs H Q E->vs.length=ps.length)(hbody:∀(cdv:Value) (A:Around) (outer:List Env) (s:Shared) (H:Hp) (vs:List V) (Q:VK) (E:XK),Room k (A.deeper (envOfC qual (aK st) s.heap.objs.size f cdv))->sp vs H Q E->
 ∃t,PSs (iY (CXr P w) P w K mg base N qual (aK st) f cdv A outer s H E) (dE st) t/\t {nx:=λ_ H'=>Q .non H',rt:=Q} (fQ N vs) H):FnOk P w K mg base (CXr P w) (k+1) f fd ps sp:=by
 obtain⟨oc,od,kV,doc,pm,an,cdv,ct,osl,rfl,lk,hcd⟩:=F.ex;exact bZY lk hcd S len λA outer s H vs Q E hr hsp=>hbody cdv A outer s H vs Q E hr hsp
end
def cL(hg:Gl X x)(h:X.mg x=some (.ref C))(hd:(x==("__debug__" : Str))=false:=by decide):PE X (.Name x pos) (tC (.ref C)):=vX hg h rfl hd
def nA:bootBuiltins "ValueError"=some (.type "ValueError"):=by decide +kernel
end
def Itz(K:W.Frag)(a b:Addr):It:=
 ⟨λi H=>∃xs ys x y,SqL K H a xs/\SqL K H b ys/\xs[i]?=some x/\ys[i]?=some y,λi H v H'=>∃p x y,H p=none/\v=.ref p/\H'=upd H p (.tup [x,y])/\(∀xs,SqL K H a xs->xs[i]?=some x)/\(∀ys,SqL K H b ys->ys[i]?=some y),
  λi H=>∃xs ys,SqL K H a xs/\SqL K H b ys/\(i=xs.length\/(i<xs.length/\i=ys.length))⟩
structure ZipOf (z TI TO i1 i2:Addr):Prop where
 d1:TI≠z
 d2:TO≠z
 d3:i1≠z
 d4:i2≠z
 d5:TI≠TO
 d6:TI≠i1
 d7:TI≠i2
 d8:TO≠i1
 d9:TO≠i2
 d0:i1≠i2
def fO{u:Obj}(ha:h.get? a=some o)(hb:h.get? b=some u){S:String}(hs:o.cls=.type S)(ht:u.cls=.type T)(n:S≠T):a≠b:=λz=>by
 subst z;rw[ha]at hb;cases hb;rw[hs]at ht;injection ht with ht;exact n ht
def nP{z TI TO i1 i2:Addr}{f0 p q:Value}{k1 k2:Nat}{xs ys:Array Value}(D:ZipOf z TI TO i1 i2)(hz:IsZip h z TI TO f0)(hO:IsPair h TO p q)(h1:h.IsListIter i1 a k1)(h2:h.IsListIter i2 b k2)(ha:h.IsList a xs)(hb:h.IsList b ys):ZipApart z TI TO i1 i2 a b:=by
 obtain⟨o1,g1,c1,_⟩:=h1;obtain⟨o2,g2,c2,_⟩:=h2;obtain⟨oa,ga,ca,_⟩:=ha;obtain⟨ob,gb,cb,_⟩:=hb;exact⟨D.d1,D.d2,D.d3,D.d4,D.d5,D.d6,D.d7,D.d8,D.d9,D.d0,fO ga hz ca rfl (by decide),fO ga hO ca rfl (by decide),fO ga g1 ca c1 (by decide),fO ga g2 ca c2 (by decide),fO gb hz cb rfl (by decide),fO gb hO cb rfl (by decide),fO gb g1 cb c1 (by decide),fO gb g2 cb c2 (by decide)⟩
structure ZAp (z TI TO i1 i2:Addr) (fp1 fp2:List Addr):Prop where
 a1:TO≠z
 a2:i1≠z
 a3:i2≠z
 a4:i1≠TO
 a5:i2≠TO
 a6:TI≠z
 a7:TI≠TO
 a8:TI≠i1
 a9:TI≠i2
 f1:z∉fp1/\TO∉fp1/\i2∉fp1
 f2:z∉fp2/\TO∉fp2/\i1∉fp2
def Draws.bare{x:Addr}{P:Nat->Value->Prop}{S:Nat->Heap->Prop}(D:Draws prog w A it fp n P S)(st:S i h)(sb:Heap.SameBut x h h')(hx:x∉fp):S i h':=
 D.frame i h h' st λb hb o e=>(sb.2 b (λz=>hx (z▸hb))).trans e
section
variable {z TI TO i1 i2:Addr} {fp1 fp2:List Addr} {n1 n2:Nat} {P1 P2:Nat->Value->Prop} {S1 S2:Nat->Heap->Prop} {a b:Value}
def cXS{Q:Option Value->Shared->Prop}(D1:Draws prog w A.in1 i1 fp1 n1 P1 S1)(D2:Draws prog w A.in1 i2 fp2 n2 P2 S2)(D:ZAp z TI TO i1 i2 fp1 fp2)(hz:IsZip s.heap z TI TO .none)(hI:IsPair s.heap TI (.ref i1) (.ref i2))(hO:IsPair s.heap TO a b)(st1:S1 i s.heap)(st2:S2 i s.heap)(l:i=n1\/(i<n1/\i=n2))(q:∀h' tk,(∀c o,c≠z->c≠TO->c≠i1->c≠i2->s.heap.get? c=some o->h'.get? c=some o)->Q none {s with heap:=h',toks:=tk}):wpAny (model prog w) A (pyNext (.ref z)) Q E s:=by
 have hT:s.TypeIs (.ref z) "zip" := ⟨_,hz,rfl⟩
 have stop:∀ {g:Heap} {tk:Nat} {e:Addr},IsZip g z TI TO .ellipsis->(∃ o,g.get? e=some o/\o.cls=.type "StopIteration")->(∀ c o,c≠z->c≠TO->c≠i1->c≠i2->s.heap.get? c=some o->g.get? c=some o)->
     wpAny (model prog w) A.in1 (setField (.ref z) 0 .none) (λ_ s'=>∃h',s'={s with heap:=h',toks:=tk}/\(∃o,h'.get? e=some o/\o.cls=.type "StopIteration")/\∀c o,c≠z->c≠TO->c≠i1->c≠i2->s.heap.get? c=some o->h'.get? c=some o) (λ_ _=>False) {s with heap:=g,toks:=tk}:=fun {g tk e} y he kk=>by
  obtain⟨oe,hoe,hce⟩:=he;have hez:e≠z:=λx=>by subst x;rw[y]at hoe;cases hoe;simp at hce
  exact wpAny_setField_rec (s:={s with heap:=g,toks:=tk}) y (by simp) λh3 _ u3=>⟨h3,rfl,⟨oe,(u3.2 e hez).trans hoe,hce⟩,λc o c1 c2 c3 c4 x=>(u3.2 c c1).trans (kk c o c1 c2 c3 c4 x)⟩
 unfold pyNext;refine Aa (De (wpAny_callSpecial?_slot (name:=Str.ofString "__next__") hT F.slot_zip_next (Br F.slot_zip_next hT F.entry_zip_next ?_ (F.args_zip_next_1 _))));show wpAny _ _ (field (.ref z) 2 >>= _) _ _ _
 refine Aa (Bl hz rfl (x:=.bool false) rfl ?_);show wpAny _ _ (field (.ref z) 3 >>= _) _ _ _
 refine Aa (Bl hz rfl (x:=.ref TI) rfl (Aa (Fs hI rfl ?_)));show wpAny _ _ (Builtin.SmallTypes.ownedTupleIsFree (.ref z) >>= _) _ _ _
 unfold Builtin.SmallTypes.ownedTupleIsFree;refine Aa (Aa (Bl hz rfl (x:=.none) rfl (Ae ?_)));simp only[if_true];refine wpAny_bind (wpAny_rule (wpAny_bind (wpAny_field hz rfl (x:=.ref TO) rfl (wpAny_bind (wpAny_setField_rec hz (by simp) λg1 y1 u1=>wpAny_bind ?_)))))
 replace y1:IsZip g1 z TI TO .ellipsis:=y1
 simp only[List.zipIdx_cons,List.zipIdx_nil,List.forIn_cons,List.forIn_nil];have k1:=Draws.bare D1 st1 u1 D.f1.1
 have k2:=Draws.bare D2 st2 u1 D.f2.1
 have o1:IsPair g1 TO a b:=(u1.2 _ D.a1).trans hO
 have fin:∀ {tk:Nat} {e:Addr} {s':Shared},(∃h',s'={s with heap:=h',toks:=tk}/\(∃o,h'.get? e=some o/\o.cls=.type "StopIteration")/\∀c o,c≠z->c≠TO->c≠i1->c≠i2->s.heap.get? c=some o->h'.get? c=some o)->wpAny (model prog w) A (do if <-isInstance (.ref e) (.type "StopIteration") then return none else throw (Value.ref e)) Q E s':=fun {tk e s'} ⟨h',es,⟨o,ho,hc⟩,kk⟩=>by
  subst es;exact Aa (wpAny_isInstance (T := "StopIteration") (b:=true) ⟨o,ho,hc⟩ isSubtype_stop (Ae (q h' tk kk)))
 refine Aa (Aa (wpAny_onRaise ?_));show wpAny _ _ (Builtin.SmallTypes.nextOf (.ref i1) >>= _) _ _ _
 rcases l with e|⟨l1,e⟩
 .subst e;refine Aa (D1.done {s with heap:=g1} _ _ k1 λg2 ex u2 he=>?_)
  refine Cg (stop (tk:=s.toks) (u2 _ _ D.a2.symm y1) he λc o c1 c2 c3 c4 x=>u2 _ _ c3 ((u1.2 _ c1).trans x)) (λ_ s' hq=>?_) λ_ _ f=>f.elim;exact fin (tk:=s.toks) (e:=ex) hq
 .subst e;refine Aa (D1.item i {s with heap:=g1} _ _ l1 k1 λx g2 t2 px m1 u2=>Ae ?_)
  have k22:=Draws.bare D2 k2 u2 D.f2.2.2
  have o2:IsPair g2 TO a b:=(u2.2 _ D.a4.symm).trans o1
  refine Aa (Fs (s:={s with heap:=g2,toks:=t2}) o2 rfl (Aa (wpAny_updateSeq_pair (s:={s with heap:=g2,toks:=t2}) o2 λg3 o3 u3=>Aa (wpAny_letGo (Ae ?_)))))
  have k23:=Draws.bare D2 k22 u3 D.f2.2.1
  refine Aa (Aa (wpAny_onRaise ?_));show wpAny _ _ (Builtin.SmallTypes.nextOf (.ref i2) >>= _) _ _ _
  refine Aa (D2.done {s with heap:=g3,toks:=t2} _ _ k23 λg4 ex u4 he=>?_)
  refine Cg (stop (tk:=t2) (u4 _ _ D.a3.symm ((u3.2 _ D.a1.symm).trans ((u2.2 _ D.a2.symm).trans y1))) he λc o c1 c2 c3 c4 x=>u4 _ _ c4 ((u3.2 _ c2).trans ((u2.2 _ c3).trans ((u1.2 _ c1).trans x)))) (λ_ s' hq=>?_) λ_ _ f=>f.elim;exact fin (tk:=t2) (e:=ex) hq
end
def aZV(a b z TI TO i1 i2:Addr)(D:ZipOf z TI TO i1 i2):Turn P w K (.Tuple elts x1 tp) (Itz K a b) [z,TI,TO,i1,i2] z (λi h=>IsZip h z TI TO .none/\IsPair h TI (.ref i1) (.ref i2)/\(∃p q,IsPair h TO p q)/\h.IsListIter i1 a i/\h.IsListIter i2 b i) where
 mem:=by simp
 obj:=λi h st c hc=>by
  obtain⟨hz,hI,⟨p,q,hO⟩,⟨o1,g1,_,e1⟩,o2,g2,_,e2⟩:=st;simp only[List.mem_cons,List.not_mem_nil,or_false]at hc;rcases hc with z|z|z|z|z<;>subst z
  .exact⟨_,hz,λv z=>by cases z⟩
  .exact⟨_,hI,λv z=>by cases z⟩
  .exact⟨_,hO,λv z=>by cases z⟩
  .exact⟨o1,g1,λv z=>by rw[e1]at z;cases z⟩
  .exact⟨o2,g2,λv z=>by rw[e2]at z;cases z⟩
 keep:=λi h h' st kk=>by
  obtain⟨hz,hI,⟨p,q,hO⟩,g1,g2⟩:=st;exact⟨kk z (by simp) _ hz,kk TI (by simp) _ hI,⟨p,q,kk TO (by simp) _ hO⟩,g1.at λo e=>kk i1 (by simp) o e,g2.at λo e=>kk i2 (by simp) o e⟩
 item:=by
  intro X hP hw hK hc i y3 s U H E I hf st hg;subst hP hw hK;obtain⟨xs,ys,x,y,qa,qb,hx,hy⟩:=hg;obtain⟨us,ra,pa,_⟩:=I.list qa;obtain⟨vs,rb,pb,_⟩:=I.list qb;obtain⟨u,hu,ru⟩:=ra.get hx;obtain⟨v,hv,rv⟩:=rb.get hy;obtain⟨hz,hI,⟨p,q,hO⟩,g1,g2⟩:=st;have D2:=nP D hz hO g1 g2 pa.isList pb.isList
  have fr:∀c o,s.heap.get? c=some o->s.heap.objs.size≠c:=λc o e=>Fy (Ao e)
  refine wpAny_pyNext_zip_item D2 hz hI hO g1 g2 pa.isList pb.isList (x:=u) (y:=v) (by simpa using hu) (by simpa using hv) λh1 a1 a2 a3 a4 a5 a6 kk=>?_
  refine⟨_,rfl,wpAny_letOwnedTupleGo_zip a1 λh2 z2 sb=>?_⟩;have up:∀c o,c≠z->h1.get? c=some o->h2.get? c=some o:=λc o n e=>(sb.2 c n).trans e
  have I2:Inv X y3 U (upd H s.heap.objs.size (.tup [x,y])) {s with heap:=h2}:=by
   refine I.turnLaid (t':=s.toks) (ch:=[z,TI,TO,i1,i2]) hf (λc o n e=>?_) (Ai _) ⟨bG (by show 2<=_;omega),[u,v],.cons ru (.cons rv .nil),_,up _ _ (fr z _ hz) a5,rfl,_,rfl⟩
   simp only[List.mem_cons,List.not_mem_nil,or_false,not_or]at n;exact up c o n.1 (kk c o n.1 n.2.2.1 n.2.2.2.1 n.2.2.2.2 e)
  refine⟨.ref s.heap.objs.size,_,I2,rfl,⟨_,x,y,I.hok.fresh (Ai _),rfl,rfl,λzs hq=>by rw[I.list_inj hq qa];exact hx,λzs hq=>by rw[I.list_inj hq qb];exact hy⟩,
   ⟨z2,up _ _ D.d1 (kk _ _ D.d1 D.d5 D.d6 D.d7 hI),⟨_,_,up _ _ D.d2 a2⟩,a3.at λo e=>up _ o D.d3 e,a4.at λo e=>up _ o D.d4 e⟩,λc hc=>?_⟩
  have hn:=(hf c hc).1
  rw[aG]
  .exact hn
  .obtain⟨o1,e1,_⟩:=g1;obtain⟨o2,e2,_⟩:=g2;simp only[List.mem_cons,List.not_mem_nil,or_false]at hc;rcases hc with z|z|z|z|z<;>subst z
   .exact(fr _ _ hz).symm
   .exact(fr _ _ hI).symm
   .exact(fr _ _ hO).symm
   .exact(fr _ _ e1).symm
   .exact(fr _ _ e2).symm
 done:=by
  intro X hP hw hK hc i y3 s U H E I hf st hg;subst hP hw hK;obtain⟨xs,ys,qa,qb,hl⟩:=hg;obtain⟨us,ra,pa,_⟩:=I.list qa;obtain⟨vs,rb,pb,_⟩:=I.list qb;have e1:=ra.length
  have e2:=rb.length
  obtain⟨hz,hI,⟨p,q,hO⟩,g1,g2⟩:=st;have D2:=nP D hz hO g1 g2 pa.isList pb.isList
  obtain⟨ch,hh,hcn,hnx⟩:=I.soft hc;have nx:∀c∈[z,TI,TO,i1,i2],c∉ch:=λc hc=>hnx c (hf c hc).2.2.2.1
  have ap:∀ {u v c:Addr},c≠u->c≠v->c∈[z,TI,TO,i1,i2]->c∉u::v::ch:=λn1 n2 hc z=>by
   rcases Av.mp z with z|z
   .exact n1 z
   .rcases Av.mp z with z|z
    .exact n2 z
    .exact nx _ hc z
  refine cXS (dP (prog:=X.prog) (w:=X.w) (A:=X.A.in1) (items:=us.toArray) hh D2.l1i1 (nx i1 (by simp))) (dP (prog:=X.prog) (w:=X.w) (A:=X.A.in1) (items:=vs.toArray) hh D2.l2i2 (nx i2 (by simp)))
   ⟨D.d2,D.d3,D.d4,D.d8.symm,D.d9.symm,D.d1,D.d5,D.d6,D.d7,⟨ap D.d3.symm D2.l1z.symm (by simp),ap D.d8 D2.l1TO.symm (by simp),ap D.d0.symm D2.l1i2.symm (by simp)⟩,⟨ap D.d4.symm D2.l2z.symm (by simp),ap D.d9 D2.l2TO.symm (by simp),ap D.d0 D2.l2i1.symm (by simp)⟩⟩ hz hI hO ⟨⟨g1,pa.isList⟩,hcn⟩ ⟨⟨g2,pb.isList⟩,hcn⟩ ?_ λh' tk kk=>⟨rfl,?_⟩
  .rw[Be,Be];omega
  .refine I.turnAll (t':=tk) (ch:=[z,TI,TO,i1,i2]) hf λc o n e=>?_;simp only[List.mem_cons,List.not_mem_nil,or_false,not_or]at n;exact kk c o n.1 n.2.2.1 n.2.2.2.1 n.2.2.2.2 e
 self:=λ_ _ _ _ _ st h=>wpAny_pyIter_zip st.1 h
def aJK:bootBuiltins "zip"=some (.type "zip"):=by decide +kernel
section
variable {l1 l2:Expr} {p:Pos}
def aX8(R:Addr->Addr->Hp->Prop):List V->Hp->Prop:=λvs H=>match vs with|[.ref i,.ref j]=>R i j H|_=>False
def bQG{R:Addr->Addr->Hp->Prop}{vs:List V}(q:aX8 R vs H):∃i j,vs=[.ref i,.ref j]/\R i j H:=by
 unfold aX8 at q;split at q
 .exact⟨_,_,rfl,q⟩
 .exact q.elim
def cZZ(K:W.Frag)(ta:TA):TI:=λU H R=>ta U H (aX8 λa b H1=>onL (rdL H1 a) (onL (rdL H1 b) (R (Itz K a b) H1)))
def cXT(hg:Gl X "zip")(hm:X.mg "zip"=none)(ha:PA X [l1,l2] ta)(hs:starEach [l1,l2] X.env=[(false,eval l1 X.env),(false,eval l2 X.env)]:=by rfl)(hs2:starEach [l2] X.env=[(false,eval l2 X.env)]:=by rfl):PI X (.Tuple elts x1 tp) (.Call (.Name "zip" p) [l1,l2] [] pos) (cZZ X.K ta):=by
 intro y3 s U H R I h;refine Call_ (iD I hg hm aJK (Dr (thn (ha pos y3 s U H _ I h) λus s1 ⟨vs,H1,I1,r1,q1⟩=>?_) (by rw[hs,hs2]) (by rw[hs2];rfl)))
 obtain⟨a,b,rfl,q⟩:=bQG q1;obtain⟨u,u2,rfl,ru,ru2⟩:=kD r1;cases ru;cases ru2;unfold onL at q;split at q
 .rename_i xs ex
  split at q
  .rename_i ys ey
   obtain⟨us,ra,pa,_⟩:=I1.list (aU ex);obtain⟨vs,rb,pb,_⟩:=I1.list (aU ey);refine call_zip_2 pa.isList pb.isList λh' hz hI hO g1 g2 hsz hk=>?_;refine wpAny_pyIter_zip (s:={s1 with heap:=h'}) hz ⟨_,[s1.heap.objs.size+4,s1.heap.objs.size+2,s1.heap.objs.size+3,s1.heap.objs.size,s1.heap.objs.size+1],_,_,H1,rfl,I1.kept (t':=s1.toks) hk,
    aZV a b _ _ _ _ _ ⟨by simp,by simp,by simp,by simp,by simp,by simp,by simp,by simp,by simp,by simp⟩,⟨hz,hI,⟨_,_,hO⟩,g1,g2⟩,λc hc=>?_,q⟩
   have z:s1.heap.objs.size<=c:=by
    simp only[List.mem_cons,List.not_mem_nil,or_false]at hc;rcases hc with z|z|z|z|z<;>(rw[z];first|exact Ai _|exact Hb _ _)
   exact I1.fpOk z (I1.hok.fresh z)
  .exact q.elim
 .exact q.elim
end
def bJR(Pv:Nat->St->Hp->Prop)(h0:Pv 0 U H)(hl:∀i U H,i<=xs.length->i<=ys.length->Pv i U H->rdL H a=some xs/\rdL H b=some ys)(hs:∀i x y U H p,xs[i]?=some x->ys[i]?=some y->Pv i U H->H p=none->g (.ref p) U (upd H p (.tup [x,y])) λU2 H2=>tb {D with nx:=Pv (i+1),ct:=Pv (i+1),bk:=D.nx} U2 H2)(hd:∀U H,Pv (min xs.length ys.length) U H->D.nx U H):nD (Itz K a b) g tb D U H:=by
 refine⟨λi m U H=>m=min xs.length ys.length-i/\i<=min xs.length ys.length/\Pv i U H,⟨min xs.length ys.length,by simp,Nat.zero_le _,h0⟩,?_⟩
 rintro i m U H ⟨rfl,hi,p⟩;obtain⟨hr1,hr2⟩:=hl i U H (by omega) (by omega) p
 by_cases hlt:i<min xs.length ys.length
 .refine .inr ⟨⟨xs,ys,xs[i]'(by omega),ys[i]'(by omega),aU hr1,aU hr2,Ab _,Ab _⟩,Pv (i+1),λU' H' p'=>⟨min xs.length ys.length-(i+1),by omega,rfl,hlt,p'⟩,λx H' y=>?_⟩
  obtain⟨q,x1,y1,hq,rfl,rfl,hx,hy⟩:=y;exact hs i x1 y1 U H q (hx xs (aU hr1)) (hy ys (aU hr2)) p hq
 .have e:i=min xs.length ys.length:=by omega
  subst e;exact .inl ⟨⟨xs,ys,aU hr1,aU hr2,by omega⟩,hd U H p⟩
def cQM(h:ta U H (aX8 λa b H1=>onL (rdL H1 a) (onL (rdL H1 b) (R (Itz K a b) H1)))):cZZ K ta U H R:=h
def bJW{R:Addr->Addr->Hp->Prop}(h:R a b H):aX8 R [.ref a,.ref b] H:=h
section
variable {o:Expr} {id:String}
def aJR(T:String)(r:V->List V->Hp->VK->Prop)(to:TE):TE:=λU H Q=>to U H λx H1=>qL T x H1 (r x [] H1 Q)
def lR(pa:PlainAttrs T)(slot:Slot T name id)(hty:typeOf (.builtin id)=pure (.type "method_descriptor"))(hm:MtR X id r)(ho:PE X o to)(hbase:attributeBase o name X.env (eval o X.env)=eval o X.env:=by rfl)(hline:(apos.endLine==cpos.line)=true:=by rfl):PE X (.Call (.Attribute o name apos) [] [] cpos) (aJR T r to):=by
 intro y3 s U H Q I h;refine wpAny_Call_method0_late hbase hline (thn (ho y3 s U H _ I h) λv s1 ⟨x,H1,I1,r1,q⟩=>?_);obtain⟨ty,q1⟩:=rT (K:=X.K) q;obtain⟨h1,h2⟩:=aXQ I1 r1 ty;exact⟨T,id,pa,slot,hty,h1,h2,Gu rfl (PySem.evalArgs_none (hm y3 s1 U H1 x [] v [] Q I1 r1 .nil q1))⟩
def bQH:V->List V->Hp->VK->Prop:=λx vs H Q=>match x,vs with
 |.ref l,[.ref b]=>(match dH H l,dH H b with|some xs,some zs=>xs.length+zs.length<=sizeLine/\Q .non (upd H l (.lst (xs++zs)))|_,_=>False)
 |_,_=>False
def bZ2:MtR X "list.extend" bQH:=MtR.imp (r:=xD) yA λ_ _ _ _ q=>by
 unfold bQH at q;split at q
 .split at q
  .exact⟨_,_,_,_,rfl,rfl,gK (by assumption),gK (by assumption),q.1,q.2⟩
  .exact q.elim
 .exact q.elim
def pT:V->List V->Hp->VK->Prop:=λx vs H Q=>match x,vs with
 |.ref l,[]=>(match dH H l with|some _=>Q .non (upd H l (.lst []))|none=>False)
 |_,_=>False
def pP:MtR X "list.clear" pT:=MtR.imp (r:=aZQ) aZP λ_ _ _ _ q=>by
 unfold pT at q;split at q
 .split at q
  .exact⟨_,_,rfl,rfl,gK (by assumption),q⟩
  .exact q.elim
 .exact q.elim
def cQK:List V->Hp->VK->Prop:=λxs H Q=>match xs with
 |[.int i]=>i.natAbs.log2<1920/\Q (.str (toString i)) H
 |_=>False
def cJ8:CallR X (.type "str") cQK:=call_str_int.imp λ_ _ _ q=>by
 unfold cQK at q;split at q
 .exact⟨_,rfl,q.1,q.2⟩
 .exact q.elim
end
section
variable {l:Addr} {zs:List V} {i:Int}
def bXM(h:to U H λx H1=>qL T x H1 (r x [] H1 Q)):aJR T r to U H Q:=h
def cZN(e:dH H l=some xs)(e':dH H b=some zs)(c:xs.length+zs.length<=sizeLine)(h:Q .non (upd H l (.lst (xs++zs)))):bQH (.ref l) [.ref b] H Q:=by unfold bQH;simp only[e,e'];exact⟨c,h⟩
def bQ8(e:dH H l=some xs)(h:Q .non (upd H l (.lst []))):pT (.ref l) [] H Q:=by unfold pT;simp only[e];exact h
def s_str(c:i.natAbs.log2<1920)(h:Q (.str (toString i)) H):cQK [.int i] H Q:=⟨c,h⟩
end
def xL(h:H p=some (.lst xs)):tyN (.ref p) H=some "list" := by unfold tyN;simp only[h]
def bW{r:Addr}(s:Same H H')(h:H' r=none):H r=none:=by
 cases e:H r with
 |none=>rfl
 |some o=>rw[s _ _ e]at h;cases h
def bJ{o:HO}(hp:H p=none)(s:Same H H'):Same H (upd H' p o):=λb u q=>by rw[aG (aY q hp)];exact s b u q
def jT{J:It}{n:Nat}(R:Addr->Nat->List V->Hp->Prop)(hl:n<sizeLine)(h0:∀D,H1 D=none->R D 0 [] (upd H1 D (.lst [])))(hgo:∀D i ys Hc,H1 D=none->R D i ys Hc->i<n->J.go i Hc)(hst:∀D ys Hc,H1 D=none->R D n ys Hc->J.stop n Hc)(hs:∀D i ys Hc x H' (A:VK) (B:Hp->Prop),H1 D=none->i<n->R D i ys Hc->Hc D=some (.lst ys)->J.yld i Hc x H'->
 (∀y H4,H4 D=some (.lst ys)->R D (i+1) (ys++[y]) (upd H4 D (.lst (ys++[y])))->A y H4)->(∀H3,H3 D=some (.lst ys)->R D (i+1) ys H3->B H3)->
 g x U0 H' λU2 H2=>Wk U0 U2/\tests U2 H2 λb H3=>if b=true then te U2 H3 A else B H3)(fin:∀D ys Hc,H1 D=none->R D n ys Hc->Hc D=some (.lst ys)->ys.length<=n->Q (.ref D) Hc):eT g tests te U0 Q J H1:=by
 intro D hD;refine⟨λi m Hc=>m=n-i/\i<=n/\∃ys,ys.length<=i/\Hc D=some (.lst ys)/\R D i ys Hc,⟨n,by simp,Nat.zero_le _,[],Nat.le_refl _,aB,h0 D hD⟩,?_⟩
 rintro i m Hc ⟨rfl,hi,ys,hy,hDc,r⟩;by_cases hlt:i<n
 .refine .inr ⟨hgo D i ys Hc hD r hlt,λx H' y=>hs D i ys Hc x H' _ _ hD hlt r hDc y (λz H4 e r4=>?_) (λH3 e r3=>?_)⟩
  .exact⟨ys,e,by omega,n-(i+1),by omega,rfl,hlt,ys++[z],by rw[Ar];show ys.length+1<=_;omega,aB,r4⟩
  .exact⟨n-(i+1),by omega,rfl,hlt,ys,by omega,e,r3⟩
 .have e:i=n:=by omega
  subst e;exact .inl ⟨hst D ys Hc hD r,fin D ys Hc hD r hDc hy⟩
def Tups(H1 Hc:Hp)(ps:List Addr)(fs:List (List V)):Prop:=ps.length=fs.length/\∀(j:Nat) p t,ps[j]?=some p->fs[j]?=some t->H1 p=none/\Hc p=some (.tup t)
def Tups.keep{Hd:Hp}(t:Tups H1 Hc ps fs)(s:Same Hc Hd):Tups H1 Hd ps fs:=⟨t.1,λj p u hp hu=>⟨(t.2 j p u hp hu).1,s _ _ (t.2 j p u hp hu).2⟩⟩
def Tups.older{H0:Hp}(t:Tups H1 Hc ps fs)(s:Same H0 H1):Tups H0 Hc ps fs:=⟨t.1,λj p u hp hu=>⟨bW s (t.2 j p u hp hu).1,(t.2 j p u hp hu).2⟩⟩
def Tups.put{D:Addr}{zs:List V}(t:Tups H1 Hc ps fs)(h:Hc D=some (.lst ys)):Tups H1 (upd Hc D (.lst zs)) ps fs:=⟨t.1,λj p u hp hu=>by
 obtain⟨a,b⟩:=t.2 j p u hp hu;refine⟨a,?_⟩;rw[aG λz=>by rw[z,h]at b;cases b]
 exact b⟩
def Tups.app{qs:List Addr}{gs:List (List V)}(t:Tups H1 Hc ps fs)(u:Tups H1 Hc qs gs):Tups H1 Hc (ps++qs) (fs++gs):=by
 refine⟨by rw[Ar,Ar,t.1,u.1],λj p v hp hv=>?_⟩
 by_cases h:j<ps.length
 .rw[Bd h]at hp;rw[Bd (by rw[<-t.1];exact h)]at hv
  exact t.2 j p v hp hv
 .rw[Bp (by omega)]at hp
  rw[Bp (by rw[<-t.1];omega),<-t.1]at hv
  exact u.2 _ p v hp hv
def Tups.nil:Tups H1 Hc [] []:=⟨rfl,λj p u hp=>by cases hp⟩
def Tups.one{t:List V}(a:H1 p=none)(b:Hc p=some (.tup t)):Tups H1 Hc [p] [t]:=⟨rfl,λj q u hq hu=>by
 cases j with
 |zero=>cases hq;cases hu;exact⟨a,b⟩
 |succ j=>cases hq⟩
def yJ(f:Nat->List V)(hl:n<sizeLine)(hs:∀(i:Nat) Hc (A:VK) (B:Hp->Prop),i<n->Same H1 Hc->(∀p Hd,Hc p=none->Same Hc Hd->Hd p=some (.tup (f i))->A (.ref p) Hd)->
 g (.int (lo+i)) U0 Hc λU2 H2=>Wk U0 U2/\tests U2 H2 λb H3=>if b=true then te U2 H3 A else B H3)(fin:∀D Hd ps,H1 D=none->Same H1 Hd->Hd D=some (.lst (ps.map V.ref))->ps.length=n->Tups H1 Hd ps ((List.range n).map f)->Q (.ref D) Hd):eT g tests te U0 Q (Itr lo n) H1:=by
 refine jT (n:=n) (λD i ys Hc=>Same H1 Hc/\∃ps,ys=ps.map V.ref/\ps.length=i/\Tups H1 Hc ps ((List.range i).map f)) hl (λD hD=>⟨aF hD _,[],rfl,rfl,.nil⟩) (λD i ys Hc _ r h=>h) (λD ys Hc _ r=>Ai n) ?_ ?_
 .rintro D i ys Hc x H' A B hD hi ⟨sm,ps,rfl,hn,tp⟩ hDc ⟨rfl,rfl⟩ ha hb;refine hs i H' A B hi sm (λp Hd hp sd hd=>?_);refine ha _ _ (sd _ _ hDc) ⟨bJ hD (sm.trans sd),ps++[p],by rw[Ax];rfl,by rw[Ar,hn];rfl,?_⟩
  rw[Dp,Ax];exact((tp.keep sd).app (.one (bW sm hp) hd)).put (sd _ _ hDc)
 .rintro D ys Hc hD ⟨sm,ps,rfl,hn,tp⟩ hDc _;exact fin D Hc ps hD sm hDc hn tp
def Alk(H:Hp):Nat->V->V->Prop
 |0,x,y=>x=y/\bD x=true
 |n+1,x,y=>(x=y/\bD x=true)\/∃p q xs ys,x=.ref p/\y=.ref q/\((rdL H p=some xs/\rdL H q=some ys)\/(jA H p=some xs/\jA H q=some ys))/\xs.length=ys.length/\∀(j:Nat) x' y',xs[j]?=some x'->ys[j]?=some y'->Alk H n x' y'
def Alk.lst{H:Hp}{n:Nat}{p q:Addr}{xs ys:List V}(hp:rdL H p=some xs)(hq:rdL H q=some ys)(hl:xs.length=ys.length)(h:∀(j:Nat) x y,xs[j]?=some x->ys[j]?=some y->Alk H n x y):Alk H (n+1) (.ref p) (.ref q):=.inr ⟨p,q,xs,ys,rfl,rfl,.inl ⟨hp,hq⟩,hl,h⟩
def Alk.tup{H:Hp}{n:Nat}{p q:Addr}{xs ys:List V}(hp:jA H p=some xs)(hq:jA H q=some ys)(hl:xs.length=ys.length)(h:∀(j:Nat) x y,xs[j]?=some x->ys[j]?=some y->Alk H n x y):Alk H (n+1) (.ref p) (.ref q):=.inr ⟨p,q,xs,ys,rfl,rfl,.inr ⟨hp,hq⟩,hl,h⟩
def fU{x:V}(h:bD x=true):eqV x x=true:=by
 cases x<;>first|rfl|(simp[eqV];done)|(cases h;done)
def Lsts(H1 Hc:Hp)(ps:List Addr)(fs:List (List V)):Prop:=ps.length=fs.length/\∀(j:Nat) p t,ps[j]?=some p->fs[j]?=some t->H1 p=none/\Hc p=some (.lst t)
def Lsts.keep{Hd:Hp}(t:Lsts H1 Hc ps fs)(s:Same Hc Hd):Lsts H1 Hd ps fs:=⟨t.1,λj p u hp hu=>⟨(t.2 j p u hp hu).1,s _ _ (t.2 j p u hp hu).2⟩⟩
def Lsts.older{H0:Hp}(t:Lsts H1 Hc ps fs)(s:Same H0 H1):Lsts H0 Hc ps fs:=⟨t.1,λj p u hp hu=>⟨bW s (t.2 j p u hp hu).1,(t.2 j p u hp hu).2⟩⟩
def Lsts.put{D:Addr}{o:HO}(t:Lsts H1 Hc ps fs)(h:∀p∈ps,p≠D):Lsts H1 (upd Hc D o) ps fs:=⟨t.1,λj p u hp hu=>by
 obtain⟨a,b⟩:=t.2 j p u hp hu;refine⟨a,?_⟩;rw[aG (h p (As hp))];exact b⟩
def Lsts.snoc{g:List V}(t:Lsts H1 Hc ps fs)(a:H1 q=none)(b:Hc q=some (.lst g)):Lsts H1 Hc (ps++[q]) (fs++[g]):=by
 refine⟨by rw[Ar,Ar,t.1];rfl,λj p v hp hv=>?_⟩
 by_cases h:j<ps.length
 .rw[Bd h]at hp;rw[Bd (by rw[<-t.1];exact h)]at hv
  exact t.2 j p v hp hv
 .rw[Bp (by omega)]at hp
  rw[Bp (by rw[<-t.1];omega),<-t.1]at hv
  cases e:j-ps.length with
  |zero=>rw[e]at hp hv;cases hp;cases hv;exact⟨a,b⟩
  |succ n=>rw[e]at hp;cases hp
def Lsts.nil:Lsts H1 Hc [] []:=⟨rfl,λj p u hp=>by cases hp⟩
def fS(ns:List Int):∀n,n<=ns.length->preSum (λi=>ns.getD i 0) n=(ns.take n).sum
 |0,_=>by simp[preSum]
 |n+1,h=>by
  have ih:=fS ns n (by omega)
  have e:ns.take (n+1)=ns.take n++[ns.getD n 0]:=by rw[Bn,Ah,Ab (by omega)];rfl
  rw[e,List.sum_append,<-ih];simp[preSum]
def zQ{ns:List Int}(h:∀n∈ns,0<=n/\n<=1000000):0<=ns.sum/\ns.sum<=1000000*(ns.length:Int):=by
 induction ns with
 |nil=>simp
 |cons n r ih=>
  obtain⟨a,b⟩:=h n (Al ..);obtain⟨c,d⟩:=ih λm hm=>h m (Ak _ hm);rw[Df,Bj];constructor
  .omega
  .push_cast;omega
def dQB{x:Obj}(hlt:p<h.objs.size)(hcn:Chn h ch):∀b∈h.objs.size::p::ch,b<(h.push x).objs.size:=λb hb=>by
 rw[Fd];rcases Av.mp hb with rfl|hb
 .exact Dw _
 .rcases Av.mp hb with rfl|hb
  .exact Ds hlt
  .exact Ds (hcn.lt hb)
def cZM:List V->Hp->VK->Prop:=λxs H Q=>∃(p:Addr) (ns:List Int),xs=[.ref p]/\rdL H p=some (ns.map V.int)/\(∀n∈ns,0<=n/\n<=1000000)/\ns.length<=100000/\Q (.int ns.sum) H
def cJI(hc:X.calm=true):CallR X (.builtin "sum") cZM:=by
 intro y3 s U H xs us Q I r h;obtain⟨p,ns,rfl,hp,hb,hn,q⟩:=h;obtain⟨u,rfl,ru⟩:=dM r;cases ru;obtain⟨its,rv,pl,hz⟩:=I.list (aU hp);have hl:=pl.isList
 have hlt:p<s.heap.objs.size:=by obtain⟨_,e,_⟩:=hl;exact Ao e
 have hle:its.length=ns.length:=by have:=rv.length;rw[Ac]at this;omega
 refine call_sum_walk (wpAny_pyIter_list hl ?_);obtain⟨ch,hh,hcn,hnx⟩:=I.soft hc;refine⟨s.heap.objs.size,s.heap.objs.size::p::ch,[s.heap.objs.size],its.toArray.size,_,_,λi=>ns.getD i 0,rfl,rE (A:=X.A.in1) (items:=its.toArray) hh (Ba hlt) (hcn.new (Ai _)),
  ⟨⟨⟨_,Aw _ rfl,rfl,rfl⟩,hl.push _⟩,hcn.ext λa _ o e=>Ad _ e⟩,dQB hlt hcn,λi v hv=>?_,λj hj=>?_,λh' tk t' hk=>?_⟩
 .have hv':its[i]?=some v:=by simpa using hv
  have hi:i<ns.length:=by rw[<-hle];exact(Af.mp hv').1
  obtain⟨u,hu,ru⟩:=rv.get (show (ns.map V.int)[i]?=some (.int ns[i]) by rw[Am,Ab hi];rfl)
  rw[hv']at hu;cases hu;obtain⟨t,rfl⟩:=ru;exact⟨t,by show Value.int ns[i] t=Value.int (ns.getD i 0) t;rw[Ah,Ab hi];rfl⟩
 .have hj' : j < ns.length := by have : j < its.length := by simpa using hj
                                 omega
  have e:=fS ns (j+1) (by omega)
  obtain⟨a1,a2⟩:=zQ (ns:=ns.take (j+1)) λm hm=>hb m (Fa hm);rw[Bt]at a2;have a3:ns.getD j 0∈ns:=by rw[Ah,Ab hj'];exact Bu _
  obtain⟨b1,b2⟩:=hb _ a3;refine⟨?_,?_⟩
  .show InLong (ns.getD j 0)
   unfold InLong;omega
  .rw[e];unfold InLong;omega
 .have e:preSum (λi=>ns.getD i 0) its.toArray.size=ns.sum:=by
   rw[Be,hle,fS ns _ (Ai _),Ck]
  rw[e];exact⟨.int ns.sum,H,I.kept (LSm.kept_iter hk),⟨_,rfl⟩,q⟩
def cJD{ns:List Int}(e:rdL H p=some (ns.map V.int))(hb:∀n∈ns,0<=n/\n<=1000000)(hl:ns.length<=100000)(h:Q (.int ns.sum) H):cZM [.ref p] H Q:=⟨p,ns,rfl,e,hb,hl,h⟩
section
variable {κ:Type} [DecidableEq κ]
def bF(kvs:List (κ×V))(k:κ):Option V:=(kvs.find? λkv=>decide (kv.1=k)).map (·.2)
def bZ(kvs:List (κ×V))(k:κ)(v:V):List (κ×V):=
 if (kvs.any λkv=>decide (kv.1=k))=true then kvs.map (λkv=>if kv.1=k then (kv.1,v) else kv) else kvs++[(k,v)]
def bK{p:κ×V}{r:List (κ×V)}{k:κ}(e:p.1=k):bF (p::r) k=some p.2:=by simp[bF,List.find?_cons,e]
def bE{p:κ×V}{r:List (κ×V)}{k:κ}(e:¬p.1=k):bF (p::r) k=bF r k:=by simp[bF,List.find?_cons,e]
def cF(k:κ):∀kvs:List (κ×V),(kvs.any λkv=>decide (kv.1=k))=(bF kvs k).isSome
 |[]=>rfl
 |p::r=>by
  rw[Hf];by_cases e:p.1=k
  .simp only[bK e,decide_eq_true e,Bool.true_or,Option.isSome_some]
  .rw[bE e,Bb e,Hg];exact cF k r
def rB(k j:κ)(y:V):∀kvs:List (κ×V),bF (kvs.map λkv=>if kv.1=k then (kv.1,y) else kv) j=(bF kvs j).map λx=>if j=k then y else x
 |[]=>rfl
 |p::r=>by
  have ih:=rB k j y r
  rw[Aq];by_cases h:p.1=k
  .rw[if_pos h];by_cases e:p.1=j
   .rw[bK (p:=(p.1,y)) e,bK e,Et,if_pos (e.symm.trans h)]
   .rw[bE (p:=(p.1,y)) e,bE e,ih]
  .rw[if_neg h];by_cases e:p.1=j
   .rw[bK (p:=p) e,bK e,Et,if_neg (λz=>h (e.trans z))]
   .rw[bE (p:=p) e,bE e,ih]
def oB(k j:κ)(y:V):∀kvs:List (κ×V),bF kvs k=none->bF (kvs++[(k,y)]) j=if j=k then some y else bF kvs j
 |[],_=>by
  by_cases e:k=j
  .rw[if_pos e.symm];exact bK (p:=(k,y)) e
  .rw[if_neg (λz=>e z.symm)];exact bE (p:=(k,y)) e
 |p::r,hn=>by
  rw[List.cons_append];have hk:¬p.1=k:=λz=>by rw[bK z]at hn;cases hn
  rw[bE hk]at hn;have ih:=oB k j y r hn
  by_cases e:p.1=j
  .rw[bK e,bK e,if_neg (λz=>hk (e.trans z))]
  .rw[bE e,bE e,ih]
def aJJ(kvs:List (κ×V))(k j:κ)(y:V):bF (bZ kvs k y) j=if j=k then some y else bF kvs j:=by
 unfold bZ;by_cases a:(kvs.any λkv=>decide (kv.1=k))=true
 .rw[if_pos a,rB];rw[cF]at a;by_cases e:j=k
  .obtain⟨x,hx⟩:=Fc.mp a;rw[if_pos e,e,hx,Et,if_pos rfl]
  .rw[if_neg e];cases bF kvs j with
   |none=>rfl
   |some x=>rw[Et,if_neg e]
 .rw[if_neg a];refine oB k j y kvs ?_;rw[cF]at a;cases q:bF kvs k with
  |none=>rfl
  |some x=>rw[q]at a;exact(a rfl).elim
def dU(kvs:List (κ×V))(k:κ)(v:V):(bZ kvs k v).length<=kvs.length+1:=by
 unfold bZ;split
 .rw[Ac];omega
 .rw[Ar,Bj,List.length_nil];omega
def fY{kvs:List (κ×V)}{k:κ}(v:V)(h:bF kvs k=none):bZ kvs k v=kvs++[(k,v)]:=by
 unfold bZ;rw[cF,h];exact if_neg (by decide)
def RelO.isSome_eq{o:Option V}{u:Option Value}(r:RelO o u):o.isSome=u.isSome:=by
 cases o with
 |none=>cases u with
  |none=>rfl
  |some _=>exact(show False from r).elim
 |some _=>cases u with
  |none=>exact(show False from r).elim
  |some _=>rfl
def RelO.getD{o:Option V}{u:Option Value}{d:V}{d':Value}(r:RelO o u)(rd:RelV d d'):RelV (o.getD d) (u.getD d'):=by
 cases o with
 |none=>cases u with
  |none=>exact rd
  |some _=>exact(show False from r).elim
 |some _=>cases u with
  |none=>exact(show False from r).elim
  |some _=>exact r
def KV.val{kvs:List (κ×V)}{vs:List (κ×Value)}(r:KV kvs vs)(k:κ):RelO (bF kvs k) (valueAt vs k):=by
 unfold KV at r;induction r with
 |nil=>exact True.intro
 | @cons p q ps qs h t ih=>
  obtain⟨h1,h2⟩:=h;by_cases e:p.1=k
  .have e':q.1=k:=h1.symm.trans e
   have b:valueAt (q::qs) k=some q.2:=by simp[valueAt,List.find?_cons,e']
   rw[bK e,b];exact h2
  .have e':¬q.1=k:=λz=>e (h1.trans z)
   have b:valueAt (q::qs) k=valueAt qs k:=by simp[valueAt,List.find?_cons,e']
   rw[bE e,b];exact ih
def KV.any{kvs:List (κ×V)}{vs:List (κ×Value)}(r:KV kvs vs)(k:κ):(kvs.any λkv=>decide (kv.1=k))=vs.any λkv=>decide (kv.1=k):=by
 unfold KV at r;induction r with
 |nil=>rfl
 |cons h t ih=>rw[Hf,Hf,ih,h.1]
def KV.repl{kvs:List (κ×V)}{vs:List (κ×Value)}(r:KV kvs vs)(k:κ)(ry:RelV y u):KV (kvs.map λkv=>if kv.1=k then (kv.1,y) else kv) (vs.map λkv=>if kv.1=k then (kv.1,u) else kv):=by
 unfold KV at r ⊢;induction r with
 |nil=>exact .nil
 | @cons p q ps qs h t ih=>
  rw[Aq,Aq];refine .cons ?_ ih;obtain⟨h1,h2⟩:=h;by_cases e:p.1=k
  .rw[if_pos e,if_pos (h1.symm.trans e)];exact⟨h1,ry⟩
  .rw[if_neg e,if_neg (λz=>e (h1.trans z))];exact⟨h1,h2⟩
def KV.put{kvs:List (κ×V)}{vs:List (κ×Value)}(r:KV kvs vs)(k:κ)(ry:RelV y u):KV (bZ kvs k y) (stored vs k u):=by
 unfold bZ stored;rw[r.any k];by_cases e:(vs.any λkv=>decide (kv.1=k))=true
 .rw[if_pos e,if_pos e];exact r.repl k ry
 .rw[if_neg e,if_neg e];exact Paired.snoc r ⟨rfl,ry⟩
def KV.length{kvs:List (κ×V)}{vs:List (κ×Value)}(r:KV kvs vs):kvs.length=vs.length:=Paired.length r
end
def lT{k:Key}(r:RelV (kV k) u):(aR P w).is k u=true:=by
 cases k with
 |inl i=>obtain⟨t,e⟩:=(show ∃t,u=Value.int i t from r);subst e;exact qY P w i t
 |inr x=>obtain⟨t,e⟩:=(show ∃t,u=Value.str x t from r);subst e;exact rK P w x t
def nJ:∀ {ks:List Key} {us:List Value},Vals (ks.map kV) us->ItemsAre (aR P w) ks us
 |[],_,r=>by rw[List.map_nil]at r;cases r;exact .nil
 |k::ks,_,r=>by
  rw[Aq]at r;cases r with
  |cons h t=>exact .cons (lT h) (nJ t)
abbrev KT(H:Hp):List (List Key×V)->List (List Key×Addr×Value)->Prop:=Paired λp q=>p.1=q.1/\H q.2.1=some (.tup (p.1.map kV))/\RelV p.2 q.2.2
def KT.val{kvs:List (List Key×V)}{xs:List (List Key×Addr×Value)}(r:KT H kvs xs)(k:List Key):RelO (bF kvs k) ((atKey xs k).map (·.2)):=by
 induction r with
 |nil=>exact True.intro
 | @cons p q ps qs h t ih=>
  obtain⟨h1,_,h2⟩:=h;by_cases e:p.1=k
  .have e':q.1=k:=h1.symm.trans e
   have b:atKey (q::qs) k=some q.2:=by simp[atKey,List.find?_cons,e']
   rw[bK e,b];exact h2
  .have e':¬q.1=k:=λz=>e (h1.trans z)
   have b:atKey (q::qs) k=atKey qs k:=by simp[atKey,List.find?_cons,e']
   rw[bE e,b];exact ih
def KT.repl{kvs:List (List Key×V)}{xs:List (List Key×Addr×Value)}(r:KT H kvs xs)(k:List Key)(ry:RelV y u):KT H (kvs.map λkv=>if kv.1=k then (kv.1,y) else kv) (xs.map (putAt k u)):=by
 induction r with
 |nil=>exact .nil
 | @cons p q ps qs h t ih=>
  rw[Aq,Aq];refine .cons ?_ ih;obtain⟨h1,h2,h3⟩:=h;unfold putAt;by_cases e:p.1=k
  .rw[if_pos e,if_pos (h1.symm.trans e)];exact⟨h1,h2,ry⟩
  .rw[if_neg e,if_neg (λz=>e (h1.trans z))];exact⟨h1,h2,h3⟩
def KT.put{kvs:List (List Key×V)}{xs:List (List Key×Addr×Value)}(r:KT H kvs xs)(k:List Key)(hb:H b=some (.tup (k.map kV)))(ry:RelV y u):KT H (bZ kvs k y) (storedH xs k b u):=by
 have e:(kvs.any λkv=>decide (kv.1=k))=(atKey xs k).isSome:=by
  rw[cF,(r.val k).isSome_eq,Gv]
 unfold bZ storedH;rw[e];by_cases q:(atKey xs k).isSome=true
 .rw[if_pos q,if_pos q];exact r.repl k ry
 .rw[if_neg q,if_neg q];exact Paired.snoc r ⟨rfl,hb,ry⟩
def KT.keeps{kvs:List (List Key×V)}{xs:List (List Key×Addr×Value)}(r:KT H kvs xs)(ht:∀b ys,H b=some (.tup ys)->H' b=some (.tup ys)):KT H' kvs xs:=
 Paired.mapP r λ_ _ z=>⟨z.1,ht _ _ z.2.1,z.2.2⟩
def bJO{u:HO}(ok:HOk P w H h)(e:Rd H a u):ObjOk P w H h a u:=e.ok ok
def fA(ok:HOk P w H h)(e:Rd H a (.dK kvs)):kvs.length<=sizeLine/\(a==sysModules)=false/\∃vs,KV kvs vs/\h.DictOf (aR P w) a vs:=
 show ObjOk P w H h a (.dK kvs) from bJO ok e
def bJH(ok:HOk P w H h)(e:H a=some (.dK kvs)):kvs.length<=sizeLine/\(a==sysModules)=false/\∃vs,KV kvs vs/\h.DictOf (aR P w) a vs:=fA ok (.inl e)
def iH{ks:List Key}(ok:HOk P w H h)(e:H a=some (.tup (ks.map kV))):(tupleKind (aR P w)).is h ks a:=by
 obtain⟨_,its,r,o,h1,h2,n,h3⟩:=(show ObjOk P w H h a (.tup (ks.map kV)) from ok a _ e);exact⟨o,its.toArray,n,h1,h2,h3,by simpa using nJ r⟩
def kH{kvs:List (List Key×V)}(ok:HOk P w H h)(e:Rd H a (.dT kvs)):kvs.length<=sizeLine/\(a==sysModules)=false/\
 ∃xs,KT H kvs xs/\h.DictOfH (tupleKind (aR P w)) a xs:=by
 obtain⟨z,y,xs,r,o,es,ep,h1,h2,h3,h4,h5⟩:=(show ObjOk P w H h a (.dT kvs) from bJO ok e);refine⟨z,y,xs,r,o,es,ep,h1,h2,h3,h4,λx hx=>?_,h5⟩;have all:∀ {l:List (List Key×V)} {m:List (List Key×Addr×Value)},KT H l m->∀x∈m,(tupleKind (aR P w)).is h x.1 x.2.1:=by
  intro l m q;induction q with
  |nil=>intro x hx;exact nomatch hx
  | @cons p q ps qs hq t ih=>
   intro x hx;rcases Av.mp hx with e|hx
   .subst e;exact iH ok (by rw[<-hq.1];exact hq.2.1)
   .exact ih x hx
 exact all r x hx
def bZ5{kvs:List (List Key×V)}(ok:HOk P w H h)(e:H a=some (.dT kvs)):kvs.length<=sizeLine/\(a==sysModules)=false/\
 ∃xs,KT H kvs xs/\h.DictOfH (tupleKind (aR P w)) a xs:=kH ok (.inl e)
def DGet(H:Hp)(a:Addr)(y:V)(r:Option V):Prop:=
 (∃kvs k,Rd H a (.dK kvs)/\y=kV k/\r=bF kvs k)\/∃kvs k b,Rd H a (.dT kvs)/\y=.ref b/\H b=some (.tup (k.map kV))/\r=bF kvs k
def DPut(H:Hp)(a:Addr)(y v:V)(H':Hp):Prop:=
 (∃kvs k,H a=some (.dK kvs)/\y=kV k/\kvs.length<sizeLine/\H'=upd H a (.dK (bZ kvs k v)))\/
 ∃kvs k b,H a=some (.dT kvs)/\y=.ref b/\H b=some (.tup (k.map kV))/\kvs.length<sizeLine/\H'=upd H a (.dT (bZ kvs k v))
def DGet.k{k:Key}(e:H a=some (.dK kvs)):DGet H a (kV k) (bF kvs k):=.inl ⟨kvs,k,.inl e,rfl,rfl⟩
def DGet.t{kvs:List (List Key×V)}{k:List Key}(e:H a=some (.dT kvs))(eb:H b=some (.tup (k.map kV))):DGet H a (.ref b) (bF kvs k):=.inr ⟨kvs,k,b,.inl e,rfl,eb,rfl⟩
def DPut.k{k:Key}(e:H a=some (.dK kvs))(hl:kvs.length<sizeLine):DPut H a (kV k) v (upd H a (.dK (bZ kvs k v))):=.inl ⟨kvs,k,e,rfl,hl,rfl⟩
def DPut.t{kvs:List (List Key×V)}{k:List Key}(e:H a=some (.dT kvs))(eb:H b=some (.tup (k.map kV)))(hl:kvs.length<sizeLine):DPut H a (.ref b) v (upd H a (.dT (bZ kvs k v))):=.inr ⟨kvs,k,b,e,rfl,eb,hl,rfl⟩
section
variable {r:Value} {o:Option V}
def Inv.big(I:Inv X y3 U H s):sysModules<s.heap.objs.size:=by
 have h:mainGlobals<s.heap.objs.size:=(I.mod.glob.keeps I.bk).lt
 exact Nat.lt_trans (by decide) h
def zT{Q:Q2}(hu:A.units+1<cLine)(I:Inv X y3 U H s)(g:DGet H a y (some v))(ry:RelV y u)(h:∀w' s',Inv X y3 U H s'->RelV v w'->Q w' s'):wpAny (model X.prog X.w) A (getItem (.ref a) u) Q E s:=by
 rcases g with⟨kvs,k,e,ey,l⟩|⟨kvs,k,b,e,ey,eb,l⟩
 .subst ey;obtain⟨z,hd,vs,rel,dd⟩:=fA I.hok e;obtain⟨w',hw,rw'⟩:=RelO.some_of (v:=v) (o:=valueAt vs k) (by rw[l];exact rel.val k)
  exact wpAny_getItem_of (lT ry) dd.mapOf hw (h w' _ (I.tok _) rw')
 .subst ey;cases (show u=Value.ref b from ry);obtain⟨z,hd,xs,rel,dd⟩:=kH I.hok e;obtain⟨w',hw,rw'⟩:=RelO.some_of (v:=v) (o:=(atKey xs k).map (·.2)) (by rw[l];exact rel.val k)
  obtain⟨p,hp,hp2⟩:=By.mp hw;refine wpAny_getItem_heap (Ek hu) (iH I.hok eb) dd hp ?_;rw[hp2];exact h w' _ (I.tok _) rw'
def cJQ{Q:Q2}(hu:A.units+1<cLine)(I:Inv X y3 U H s)(g:DGet H a y o)(ry:RelV y u)(h:∀s',Inv X y3 U H s'->Q (.bool o.isSome) s'):wpAny (model X.prog X.w) A (compareOp .In u (.ref a)) Q E s:=by
 rcases g with⟨kvs,k,e,ey,l⟩|⟨kvs,k,b,e,ey,eb,l⟩
 .subst ey;obtain⟨z,hd,vs,rel,dd⟩:=fA I.hok e;refine wpAny_in_of (lT ry) hd dd.mapOf ?_;rw[<-(rel.val k).isSome_eq,<-l];exact h _ (I.tok _)
 .subst ey;cases (show u=Value.ref b from ry);obtain⟨z,hd,xs,rel,dd⟩:=kH I.hok e;refine wpAny_in_heap (Ek hu) (iH I.hok eb) hd dd ?_;have q:=(rel.val k).isSome_eq
  rw[Gv]at q;rw[<-q,<-l];exact h _ (I.tok _)
def bX4{Q:Q2}(hu:A.units+1<cLine)(I:Inv X y3 U H s)(g:DGet H a y o)(ry:RelV y u)(h:∀s',Inv X y3 U H s'->Q (.bool (!o.isSome)) s'):wpAny (model X.prog X.w) A (compareOp .NotIn u (.ref a)) Q E s:=by
 rcases g with⟨kvs,k,e,ey,l⟩|⟨kvs,k,b,e,ey,eb,l⟩
 .subst ey;obtain⟨z,hd,vs,rel,dd⟩:=fA I.hok e;refine wpAny_notIn_of (lT ry) hd dd.mapOf ?_;rw[<-(rel.val k).isSome_eq,<-l];exact h _ (I.tok _)
 .subst ey;cases (show u=Value.ref b from ry);obtain⟨z,hd,xs,rel,dd⟩:=kH I.hok e;refine wpAny_notIn_heap (Ek hu) (iH I.hok eb) hd dd ?_;have q:=(rel.val k).isSome_eq
  rw[Gv]at q;rw[<-q,<-l];exact h _ (I.tok _)
def wQ{t':Nat}{ob:HO}(I:Inv X y3 U H s)(mu:Mut (H a))(hs:Heap.SameBut a s.heap h')(he:∃q,h'.get? a=some q)(new:ObjOk X.prog X.w (upd H a ob) h' a ob):Inv X y3 U (upd H a ob) {s with heap:=h',toks:=t'}:=
 I.write (x:=a) (e:=a) mu (.inl rfl) (λb q hb z=>(hs.2 b hb).trans z) he new
def aX7{vs:List (Key×Value)}(z:kvs.length<=sizeLine)(hd:(a==sysModules)=false)(rel:KV kvs vs)(dd:h'.DictOf (aR P w) a vs):ObjOk P w H' h' a (.dK kvs):=⟨z,hd,vs,rel,dd⟩
def xX{Q:Unit->Shared->Prop}(hu:A.units+1<cLine)(I:Inv X y3 U H s)(g:DPut H a y v H')(ry:RelV y u)(rv:RelV v r)(h:∀s',Inv X y3 U H' s'->Q () s'):wpAny (model X.prog X.w) A (setItem (.ref a) u r) Q E s:=by
 rcases g with⟨kvs,k,e,ey,l,eH⟩|⟨kvs,k,b,e,ey,eb,l,eH⟩
 .subst ey eH;obtain⟨z,hd,vs,rel,dd⟩:=bJH I.hok e;have hz:vs.length<=sizeLine:=by rw[<-rel.length];exact z
  have hl:(bZ kvs k v).length<=sizeLine:=by have:=dU kvs k v;omega
  refine wpAny_setItem_pairs (hsz:=hz) (lT ry) dd λh' dd' hs=>h _ ?_;have he:∃q,h'.get? a=some q:=let ⟨q,_,_,hq,_⟩:=dd';⟨q,hq⟩
  exact wQ I (by rw[e];exact True.intro) hs he (aX7 hl hd (rel.put k rv) dd')
 .subst ey eH;cases (show u=Value.ref b from ry);obtain⟨z,hd,xs,rel,dd⟩:=bZ5 I.hok e;have hz:xs.length<=sizeLine:=by rw[<-Paired.length rel];exact z
  have hl:(bZ kvs k v).length<=sizeLine:=by have:=dU kvs k v;omega
  refine wpAny_setItem_heap (hsz:=hz) (Ek hu) (iH I.hok eb) dd λh' dd' hs=>h _ ?_;obtain⟨q,es,ep,hq,h2,h3,h4,_,h5⟩:=dd';refine wQ I (by rw[e];exact True.intro) hs ⟨q,hq⟩ ⟨hl,hd,_,(rel.put k eb rv).keeps λc ys ec=>?_,q,es,ep,hq,h2,h3,h4,h5⟩
  rw[aG (dQH ec e (λz=>nomatch z))]
  exact ec
end
def dQM(i:Expr):Prop:=∀ov iv,subscripted i false ov iv=operate [ov,iv] (getItem ov iv)
def bQA{value slice:Expr}{id:String}{Q:Q2}(hl:typeLookup (.type T) "__getitem__"=pure (some (.builtin id)))(hs:dQM slice)(h:wpAny (model prog w) A (eval value env) (λo s₁=>wpAny (model prog w) A (eval slice env) (λi s₂=>s₂.TypeIs o T/\wpAny (model prog w) A (getItem o i) Q E s₂) E s₁) E s):wpAny (model prog w) A (eval (.Subscript value slice pos) env) Q E s:=by
 refine Subscript_ (Cg h (λo s₁ h₁=>Cg h₁ (λi s₂ h₂=>?_) λ_ _ x=>x) λ_ _ x=>x);obtain⟨hT,h₂⟩:=h₂;unfold subscriptTail;refine Aa ?_;rw[getitemInPython_of_ne hT.not_modules];refine Aa (Ep hT hl ?_);have fin:wpAny (model prog w) A (subscripted slice false o i) (λr s₃=>wpAny (model prog w) A (letTemporaryGo value o r >>= λ_=>pure r) Q E s₃) E s₂:=by
  rw[hs o i];exact wpAny_operating (Cg h₂ (λr s₃ h₃=>Aa (wpAny_letTemporaryGo (Ae h₃))) λ_ _ x=>x)
 first
  |exact Ae (Aa fin)
  |exact Aa (Ae (Aa fin))
  |exact Aa fin
def sS{o:Option V}(I:Inv X y3 U H s)(g:DGet H a y o):s.TypeIs (.ref a) "dict" := by
 rcases g with⟨kvs,k,e,_,_⟩|⟨kvs,k,b,e,_,_,_⟩
 .obtain⟨_,_,vs,_,dd⟩:=fA I.hok e;exact dd.typeIs
 .obtain⟨_,_,xs,_,dd⟩:=kH I.hok e;exact dd.typeIs
def bZ9(td ty:TE):TE:=λU H Q=>td U H λx H1=>ty U H1 λy H2=>∃a v,x=.ref a/\DGet H2 a y (some v)/\Q v H2
def bJG(td ty tv:TE):TS:=λD U H=>tv U H λv H1=>td U H1 λx H2=>ty U H2 λy H3=>∃a H4,x=.ref a/\DPut H3 a y v H4/\D.nx U H4
section
variable {o i value:Expr} {pos':Pos} {td ty:TE}
def eX(hu:X.A.units+1<cLine)(ho:PE X o td)(hi:PE X i ty)(hs:dQM i):PE X (.Subscript o i pos) (bZ9 td ty):=by
 intro y3 s U H Q I h;refine bQA PySem.F.slot_dict_getitem.lookup hs (thn (ho y3 s U H _ I h) λu s1 ⟨x,H1,I1,rx,q1⟩=>thn (hi y3 s1 U H1 _ I1 q1) λiv s2 ⟨y,H2,I2,ry,a,v,ex,g,q2⟩=>?_);subst ex;obtain rfl:u=Value.ref a:=rx;exact⟨sS I2 g,zT hu I2 g ry λw' s3 I3 rw'=>⟨v,H2,I3,rw',q2⟩⟩
def eQ(hu:X.A.units+1<cLine)(ho:PE X o td)(hi:PE X i ty)(hv:PE X value tv)(hs:swapsWith value (some (.Subscript o i pos')) pos.line X.env=pure false):PS X (.Assign [.Subscript o i pos'] value pos) (bJG td ty tv):=by
 intro y3 s U H D I h;refine wpAny_Assign_Subscript (thn (hv y3 s U H _ I h) λr s1 ⟨v,H1,I1,rv,q1⟩=>thn (ho y3 s1 U H1 _ I1 q1) λu s2 ⟨x,H2,I2,rx,q2⟩=>thn (hi y3 s2 U H2 _ I2 q2) λiv s3 ⟨y,H3,I3,ry,a,H4,ex,g,q3⟩=>?_) hs;subst ex;obtain rfl:u=Value.ref a:=rx;exact xX hu I3 g ry rv λs4 I4=>⟨U,H4,I4,q3⟩
end
def aQ1(h:Heap)(hb:sysModules<h.objs.size):ObjOk P w H (h.push {cls:=.type "dict",data:=.dict #[]}) h.objs.size (.dK []):=
 ⟨Cq _,Cr.mpr (Ne.symm (Ba hb)),[],.nil,Heap.DictOf.new h⟩
def aJ3(h:Heap)(hb:sysModules<h.objs.size):ObjOk P w H (h.push {cls:=.type "dict",data:=.dict #[]}) h.objs.size (.dT []):=
 ⟨Cq _,Cr.mpr (Ne.symm (Ba hb)),[],.nil,_,#[],0,Aw _ rfl,⟨rfl,rfl,rfl⟩,rfl,rfl,List.nodup_nil⟩
def aJD:TE:=λ_ H Q=>∀p,H p=none->Q (.ref p) (upd H p (.dK []))
def aX9:TE:=λ_ H Q=>∀p,H p=none->Q (.ref p) (upd H p (.dT []))
def iL:PE X (.Dict [] [] pos) aJD:=λy3 s U H Q I h=>
 wpAny_Dict_empty ⟨.ref s.heap.objs.size,_,I.laid (a:=s.heap.objs.size) (o:=.dK []) (t':=s.toks) (λ_ _ q=>Ad _ q) (Ai _) (aQ1 s.heap I.big),rfl,h _ (I.hok.fresh (Ai _))⟩
def sQ:PE X (.Dict [] [] pos) aX9:=λy3 s U H Q I h=>
 wpAny_Dict_empty ⟨.ref s.heap.objs.size,_,I.laid (a:=s.heap.objs.size) (o:=.dT []) (t':=s.toks) (λ_ _ q=>Ad _ q) (Ai _) (aJ3 s.heap I.big),rfl,h _ (I.hok.fresh (Ai _))⟩
def IsD(H:Hp)(a:Addr):Prop:=(∃kvs,Rd H a (.dK kvs))\/∃kvs,Rd H a (.dT kvs)
def cQF(I:Inv X y3 U H s)(d:IsD H a):s.TypeIs (.ref a) "dict"/\(∀b,Value.ref a=.ref b->∃ob,s.heap.get? b=some ob/\ob.dict=none)/\(a==sysModules)=false:=by
 rcases d with⟨kvs,e⟩|⟨kvs,e⟩
 .obtain⟨_,hd,vs,_,dd⟩:=fA I.hok e;refine⟨dd.typeIs,λb q=>?_,hd⟩;cases q;obtain⟨ob,_,_,h1,h2,_⟩:=dd;exact⟨ob,h1,h2.2.1⟩
 .obtain⟨_,hd,xs,_,dd⟩:=kH I.hok e;refine⟨dd.typeIs,λb q=>?_,hd⟩;cases q;obtain⟨ob,_,_,h1,h2,_⟩:=dd;exact⟨ob,h1,h2.2.1⟩
section
variable {d:V} {r:Value} {o:Option V}
def cZF{Q:Q2}(hu:A.units+1<cLine)(I:Inv X y3 U H s)(g:DGet H a y o)(ry:RelV y u)(h:∀w' s',Inv X y3 U H s'->RelV (o.getD .non) w'->Q w' s'):wpAny (model X.prog X.w) A (call (.builtin "dict.get") [.ref a,u]) Q E s:=by
 rcases g with⟨kvs,k,e,ey,l⟩|⟨kvs,k,b,e,ey,eb,l⟩
 .subst ey;obtain⟨z,hd,vs,rel,dd⟩:=fA I.hok e;refine Gw Cc dd.typeIs Fj (PySem.F.args_dict_get_2 _ _) (meets_dict_get (aR X.prog X.w) a (lT ry) hd) ⟨_,dd.mapOf,h _ _ (I.tok _) ?_⟩;rw[l];exact(rel.val k).getD rfl
 .subst ey;cases (show u=Value.ref b from ry);obtain⟨z,hd,xs,rel,dd⟩:=kH I.hok e;refine Gw Cc dd.typeIs Fj (PySem.F.args_dict_get_2 _ _) (meetsH_dict_get (tupleKind (aR X.prog X.w)) a b hd) ⟨Ek hu,k,xs,iH I.hok eb,dd,h _ _ (I.tok _) ?_⟩;rw[l];exact(rel.val k).getD rfl
def cXE{Q:Q2}(hu:A.units+1<cLine)(I:Inv X y3 U H s)(g:DGet H a y o)(ry:RelV y u)(rd:RelV d r)(h:∀w' s',Inv X y3 U H s'->RelV (o.getD d) w'->Q w' s'):wpAny (model X.prog X.w) A (call (.builtin "dict.get") [.ref a,u,r]) Q E s:=by
 rcases g with⟨kvs,k,e,ey,l⟩|⟨kvs,k,b,e,ey,eb,l⟩
 .subst ey;obtain⟨z,hd,vs,rel,dd⟩:=fA I.hok e;refine Gw Cc dd.typeIs Fj (PySem.F.args_dict_get_3 _ _ _) (meets_dict_get_default (aR X.prog X.w) a (lT ry) hd r) ⟨_,dd.mapOf,h _ _ (I.tok _) ?_⟩;rw[l];exact(rel.val k).getD rd
 .subst ey;cases (show u=Value.ref b from ry);obtain⟨z,hd,xs,rel,dd⟩:=kH I.hok e;refine Gw Cc dd.typeIs Fj (PySem.F.args_dict_get_3 _ _ _) (meetsH_dict_get_default (tupleKind (aR X.prog X.w)) a b hd r) ⟨Ek hu,k,xs,iH I.hok eb,dd,h _ _ (I.tok _) ?_⟩;rw[l];exact(rel.val k).getD rd
end
def aXG{Q:Q2}(I:Inv X y3 U H s)(e:Rd H a (.dK kvs))(h:∀p s',H p=none->Inv X y3 U (upd H p (.dK kvs)) s'->Q (.ref p) s'):wpAny (model X.prog X.w) A (call (.type "dict") [.ref a]) Q E s:=by
 obtain⟨z,hd,vs,rel,dd⟩:=fA I.hok e;refine kt_call_dict hd dd (by rw[<-rel.length];exact z) λh' dd' hs=>?_
 refine h _ _ (I.hok.fresh (Ai _)) (I.laid (a:=s.heap.objs.size) (o:=.dK kvs) (t':=s.toks) (λb q hq=>?_) (Ai _) (aX7 z (Cr.mpr (Ne.symm (Ba I.big))) rel dd'));exact(hs.2 b (Ba (Ao hq))).trans (Ad _ hq)
def Inv.re(I:Inv X y3 U H s)(hn:∀b,H b=none->H' b=none)(tups:∀b xs,X.H₀ b=some (.tup xs)->H' b=some (.tup xs))(frzs:∀b o u,X.H₀ b=some (.frz o u)->H' b=some (.frz o u))(tbls:∀b ps,X.H₀ b=some (.tbl ps)->∃more,H' b=some (.tbl (ps++more)))(hok:HOk X.prog X.w H' s.heap):Inv X y3 U H' s:=
 ⟨I.ok,I.os,I.bare,⟨I.base.keep,I.base.slot,λb o e n hx=>hn b (I.base.free b o e n hx),I.base.there,tups,frzs,tbls⟩,I.loc,I.cell,hn _ I.free,λx c e=>hn c (I.freeC x c e),λp hp=>by
  obtain⟨a,b,c,d,e⟩:=I.pin p hp;exact⟨a,hn _ b,c,d,e⟩,hok,I.len⟩
def dQC:HO->Bool
 |.dK _=>true
 |.dT _=>true
 |_=>false
def Inv.freeze{u:HO}(I:Inv X y3 U H s)(ha:H a=some u)(hu:dQC u=true)(ho:s.heap.get? a=some o):Inv X y3 U (upd H a (.frz o u)) s:=by
 have ne:∀c v,H c=some v->dQC v=false->c≠a:=λc v q n z=>by rw[z,ha]at q;cases q;rw[n]at hu;cases hu
 have own:∀c y,H c=some (.own y)->upd H a (.frz o u) c=some (.own y):=λc y q=>by rw[aG (ne c _ q rfl)];exact q
 have tup:∀c xs,H c=some (.tup xs)->upd H a (.frz o u) c=some (.tup xs):=λc xs q=>by rw[aG (ne c _ q rfl)];exact q
 refine I.re (λb q=>by rw[aG (λz=>by rw[z,ha]at q;cases q)];exact q) (λb xs q=>tup b xs (I.base.tups b xs q)) (λb o' v q=>?_) (λb ps q=>?_) (λb v q=>?_)
 .have:=I.base.frzs b o' v q
  rw[aG (ne b _ this rfl)];exact this
 .obtain⟨m,e⟩:=I.base.tbls b ps q;exact⟨m,by rw[aG (ne b _ e rfl)];exact e⟩
 .by_cases hb:b=a
  .subst hb;rw[aB]at q;cases q;exact(show s.heap.get? b=some o/\ObjOk X.prog X.w (upd H b (.frz o u)) s.heap b u from⟨ho,(I.hok b _ ha).stay (λ_ _ _ q=>q) (λc=>own c b) tup⟩)
  .rw[aG hb]at q;exact(I.hok b v q).stay (λ_ _ _ q=>q) (λc=>own c b) tup
def unf(Hs H:Hp):Hp:=λb=>match H b with
 |some (.frz o u)=>(match Hs b with|some (.frz _ _)=>some (.frz o u)|_=>some u)
 |x=>x
def cH{Hs:Hp}{u:HO}(h:H b=some u)(n:∀o v,u≠.frz o v):unf Hs H b=some u:=by
 unfold unf;rw[h];cases u<;>first|rfl|exact absurd rfl (n _ _)
def sJ(h:H b=none):unf Hs H b=none:=by unfold unf;rw[h]
def pM{Hs:Hp}{u:HO}(h:H b=some (.frz o u))(n:∀o v,Hs b≠some (.frz o v)):unf Hs H b=some u:=by
 unfold unf;rw[h];dsimp only;split
 .rename_i e
  exact absurd e (n _ _)
 .rfl
def iV{o':Obj}{u u':HO}(h:H b=some (.frz o u))(n:Hs b=some (.frz o' u')):unf Hs H b=some (.frz o u):=by
 unfold unf;rw[h];dsimp only;rw[n]
def Inv.unfreeze(I:Inv X y3 U H s)(h0:∀b o u,X.H₀ b=some (.frz o u)->Hs b=some (.frz o u)):Inv X y3 U (unf Hs H) s:=by
 have own:∀c y,H c=some (.own y)->unf Hs H c=some (.own y):=λc y q=>cH q λ_ _ z=>by cases z
 have tup:∀c xs,H c=some (.tup xs)->unf Hs H c=some (.tup xs):=λc xs q=>cH q λ_ _ z=>by cases z
 refine I.re (λb q=>sJ q) (λb xs q=>tup b xs (I.base.tups b xs q)) (λb o u q=>iV (I.base.frzs b o u q) (h0 b o u q)) (λb ps q=>?_) (λb u q=>?_)
 .obtain⟨m,e⟩:=I.base.tbls b ps q;exact⟨m,cH e λ_ _ z=>by cases z⟩
 .cases e:H b with
  |none=>rw[sJ e]at q;cases q
  |some v=>
   have ok:=I.hok b v e
   by_cases hf:∃o v',v=.frz o v'
   .obtain⟨o,v',rfl⟩:=hf;have ok2:s.heap.get? b=some o/\ObjOk X.prog X.w H s.heap b v':=ok
    by_cases hs:∃o' u',Hs b=some (.frz o' u')
    .obtain⟨o',u',hs⟩:=hs;rw[iV e hs]at q;cases q;exact ok.stay (λ_ _ _ q=>q) (λc=>own c b) tup
    .rw[pM e λo v z=>hs ⟨o,v,z⟩]at q;cases q;exact ok2.2.stay (λ_ _ _ q=>q) (λc=>own c b) tup
   .rw[cH e λo v' z=>hf ⟨o,v',z⟩]at q;cases q;exact ok.stay (λ_ _ _ q=>q) (λc=>own c b) tup
def aQE(Hs:Hp)(D:Ends):Ends:=⟨λU H=>D.nx U (unf Hs H),λv H=>D.rt v (unf Hs H),λU H=>D.bk U (unf Hs H),λU H=>D.ct U (unf Hs H)⟩
section
variable {st:Stmt}
def cZY(t:TE):TE:=λU H Q=>t U H λv H'=>Q v (unf H H')
def bZ0(t:TS):TS:=λD U H=>t (aQE H D) U H
def aXD{t:TE}(h:PE X e t):PE X e (cZY t):=λy3 s U H Q I q=>thn (h y3 s U H _ I q) λv s' ⟨x,H',I',r,q'⟩=>⟨x,unf H H',I'.unfreeze λb o u e=>I.base.frzs b o u e,r,q'⟩
def qT{t:TS}(h:PS X st t):PS X st (bZ0 t):=λy3 s U H D I q=>thn (h y3 s U H _ I q) λf s' q'=>by
 cases f with
 |next=>obtain⟨U',H',I',r⟩:=q';exact⟨U',unf H H',I'.unfreeze λb o u e=>I.base.frzs b o u e,r⟩
 |brk=>obtain⟨U',H',I',r⟩:=q';exact⟨U',unf H H',I'.unfreeze λb o u e=>I.base.frzs b o u e,r⟩
 |cont=>obtain⟨U',H',I',r⟩:=q';exact⟨U',unf H H',I'.unfreeze λb o u e=>I.base.frzs b o u e,r⟩
 |ret u=>obtain⟨v,U',H',I',rv,r⟩:=q';exact⟨v,U',unf H H',I'.unfreeze λb o u e=>I.base.frzs b o u e,rv,r⟩
def cJR{t:TE}(h:t U H λv H'=>Q v (unf H H')):cZY t U H Q:=h
def bJT{t:TS}(h:t (aQE H D) U H):bZ0 t D U H:=h
end
def jD{u:HO}(ha:Hs a=some u)(hu:∀o v,u≠.frz o v)(h:Same (upd Hs a (.frz o u)) H):Same Hs (unf Hs H):=λb v q=>by
 by_cases e:b=a
 .subst e;rw[ha]at q;cases q;exact pM (h _ _ aB) λo v z=>by rw[ha]at z;cases z;exact hu _ _ rfl
 .have:=h b v (by rw[aG e];exact q)
  by_cases hf:∃o v',v=.frz o v'
  .obtain⟨o',v',rfl⟩:=hf;exact iV this q
  .exact cH this λo v' z=>hf ⟨o,v',z⟩
def yR(h:Same Hs H):Same Hs (unf Hs H):=λb v q=>by
 have:=h b v q
 by_cases hf:∃o v',v=.frz o v'
 .obtain⟨o',v',rfl⟩:=hf;exact iV this q
 .exact cH this λo v' z=>hf ⟨o,v',z⟩
def lM{β:Type}{R:α->β->Prop}{xs:List α}{ys:List β}(r:Paired R xs ys):∀ {i:Nat} {x:α},xs[i]?=some x->∃y,ys[i]?=some y/\R x y:=by
 induction r with
 |nil=>intro i x h;cases h
 |cons h t ih=>
  intro i x hx;cases i with
  |zero=>cases hx;exact⟨_,rfl,h⟩
  |succ i=>exact ih (i:=i) hx
def dQD{k:Key}(h:(aR P w).is k u=true):RelV (kV k) u:=by
 rcases aZ h with⟨i,t,rfl,rfl⟩|⟨x,t,rfl,rfl⟩
 .exact⟨t,rfl⟩
 .exact⟨t,rfl⟩
def Itd(a:Addr)(o:Obj)(kvs:List (Key×V)):It:=⟨λi H=>H a=some (.frz o (.dK kvs))/\i<kvs.length,λi H x H'=>H'=H/\∃kv,kvs[i]?=some kv/\x=kV kv.1,λi H=>H a=some (.frz o (.dK kvs))/\kvs.length=i⟩
def tR(I:Inv X y3 U H s)(ha:H a=some (.frz o (.dK kvs)))(hep:∃es,o.data=.dict es ep):kvs.length<=sizeLine/\(a==sysModules)=false/\∃vs,KV kvs vs/\s.heap.DictAt (aR X.prog X.w) a vs ep:=by
 have ok:s.heap.get? a=some o/\(kvs.length<=sizeLine/\(a==sysModules)=false/\∃vs,KV kvs vs/\s.heap.DictOf (aR X.prog X.w) a vs):=I.hok a _ ha
 obtain⟨e,z,hd,vs,rel,o',es',ep',ho',hx,hdat,r⟩:=ok;rw[e]at ho';cases ho';obtain⟨es,hes⟩:=hep;have q:=hdat
 rw[hes]at q;cases q;exact⟨z,hd,vs,rel,o,_,e,hx,hdat,r⟩
def yL(a it:Addr)(o:Obj)(kvs:List (Key×V))(ep:Nat)(hep:∃es,o.data=.dict es ep):Turn P w K tg (Itd a o kvs) [it] it (λi h=>h.IsKeyIter it a i kvs.length ep) where
 mem:=by simp
 obj:=λi h st b hb=>by
  have e:b=it:=by simpa using hb
  subst e;obtain⟨o,e,c,d⟩:=st;exact⟨o,e,λv z=>by rw[d]at z;cases z⟩
 keep:=λi h h' st k=>let ⟨o,ho,r⟩:=st;⟨o,k it (by simp) o ho,r⟩
 item:=by
  intro X hP hw hK hc i y3 s U H E I hf st hg;subst hP hw hK;obtain⟨ha,hi⟩:=hg;obtain⟨z,hd,vs,rel,dd⟩:=tR I ha hep;have hlv:=rel.length
  obtain⟨f0,f1,f2,f3,f4,f5⟩:=hf it (by simp)
  obtain⟨⟨k,v⟩,hx,hk1,_⟩:=lM rel (Ab hi);refine wpAny_pyNext_dict_item (knd:=aR X.prog X.w) (by rw[<-hlv];exact st) dd hx λkey h' hk st' sb=>?_
  have I1:Inv X y3 U H {s with heap:=h'}:=I.turned (t':=s.toks) (λb o hb e=>(sb.2 b hb).trans e) f0 f1 f3 f4 f5
  obtain⟨oi,e,c,d⟩:=id st';refine⟨key,rfl,nV (s:={s with heap:=h'}) e c d (by decide) ⟨kV k,H,I1,dQD hk,⟨rfl,kvs[i],Ab hi,by rw[hk1]⟩,?_,λb hb=>(hf b hb).1⟩⟩
  rw[hlv];exact st'
 done:=by
  intro X hP hw hK hc i y3 s U H E I hf st hg;subst hP hw hK;obtain⟨ha,hi⟩:=hg;obtain⟨z,hd,vs,rel,o',es,ho,hx,hdat,r⟩:=tR I ha hep;have hlv:=rel.length
  obtain⟨f0,f1,f2,f3,f4,f5⟩:=hf it (by simp)
  obtain⟨ch,hh,hcn,hnx⟩:=I.soft hc;have hsz:es.size=vs.length:=by rw[<-Ay];exact r.2.1.length
  exact nU (en:=es) hh (hnx it f3) hcn (by rw[hsz,<-hlv];rw[<-hi]at st;exact st) ho hdat λh' eb=>⟨rfl,I.turned (t':=s.toks) (λb o hb e=>eb b o hb e) f0 f1 f3 f4 f5⟩
 self:=λ_ _ _ _ _ st h=>wpAny_pyIter_keyiter st h
def aZM(I:Inv X y3 U H s)(ha:H a=some (.dK kvs)):∃o es ep,s.heap.get? a=some o/\o.data=.dict es ep:=by
 obtain⟨_,_,vs,_,o,es,ep,ho,_,hd,_⟩:=bJH I.hok ha;exact⟨o,es,ep,ho,hd⟩
def bQF(I:Inv X y3 U H s)(ha:H a=some (.frz o (.dK kvs))):∃ep,∃es,o.data=.dict es ep:=by
 have ok:s.heap.get? a=some o/\(kvs.length<=sizeLine/\(a==sysModules)=false/\∃vs,KV kvs vs/\s.heap.DictOf (aR X.prog X.w) a vs):=I.hok a _ ha
 obtain⟨e,_,_,vs,_,o',es,ep,ho,_,hd,_⟩:=ok;rw[e]at ho;cases ho;exact⟨ep,es,hd⟩
def pN(H:Hp)(a:Addr)(R:Obj->List (Key×V)->Hp->Prop):Prop:=(∃kvs,H a=some (.dK kvs)/\∀o,R o kvs (upd H a (.frz o (.dK kvs))))\/∃o kvs,H a=some (.frz o (.dK kvs))/\R o kvs H
def walk_at{R:Obj->List (Key×V)->Hp->Prop}(I:Inv X y3 U H s)(h:pN H a R):∃o kvs H' ep,Inv X y3 U H' s/\H' a=some (.frz o (.dK kvs))/\(∃es,o.data=.dict es ep)/\R o kvs H':=by
 rcases h with⟨kvs,ha,q⟩|⟨o,kvs,ha,q⟩
 .obtain⟨o,es,ep,ho,hd⟩:=aZM I ha;exact⟨o,kvs,_,ep,I.freeze ha rfl ho,aB,⟨es,hd⟩,q o⟩
 .obtain⟨ep,es,hd⟩:=bQF I ha;exact⟨o,kvs,H,ep,I,ha,⟨es,hd⟩,q⟩
def bJJ(tl:TE):TI:=λU H R=>tl U H (dX λa H1=>pN H1 a λo kvs H2=>R (Itd a o kvs) H2)
def xQ(hl:PE X l tl):PI X tg l (bJJ tl):=by
 intro y3 s U H R I h;refine thn (hl y3 s U H _ I h) λv s1 ⟨x,H1,I1,r1,q1⟩=>?_;unfold dX at q1;split at q1
 .cases r1;rename_i a0 _
  obtain⟨o,kvs,H2,ep,I2,ha,hep,q⟩:=walk_at I1 q1;obtain⟨z,hd,vs,rel,dd⟩:=tR I2 ha hep;refine wpAny_pyIter_dict (knd:=aR X.prog X.w) hd dd ?_;refine⟨s1.heap.objs.size,[s1.heap.objs.size],_,_,H2,rfl,I2.kept (t':=s1.toks) λb o e=>Ad _ e,yL a0 _ o kvs ep hep,⟨_,Aw _ rfl,rfl,by rw[rel.length];rfl⟩,λb hb=>?_,q⟩
  have e:b=s1.heap.objs.size:=by simpa using hb
  subst e;exact I2.fpOk (Ai _) (I2.hok.fresh (Ai _))
 .exact q1.elim
def isD(H:Hp)(p:Addr):Bool:=match H p with
 |some (.dK _)=>true
 |some (.dT _)=>true
 |some (.frz _ (.dK _))=>true
 |some (.frz _ (.dT _))=>true
 |_=>false
def cQ7(h:isD H p=true):IsD H p:=by
 unfold isD at h;split at h
 .exact .inl ⟨_,.inl (by assumption)⟩
 .exact .inr ⟨_,.inl (by assumption)⟩
 .exact .inl ⟨_,.inr ⟨_,by assumption⟩⟩
 .exact .inr ⟨_,.inr ⟨_,by assumption⟩⟩
 .cases h
def eK(h:H p=some (.dK kvs)):isD H p=true:=by unfold isD;rw[h]
def vS(h:H p=some (.frz o (.dK kvs))):isD H p=true:=by unfold isD;rw[h]
def bX7(Pv:Nat->St->Hp->Prop)(h0:Pv 0 U H)(hl:∀i U H,i<=kvs.length->Pv i U H->H a=some (.frz o (.dK kvs)))(hs:∀i kv U H,kvs[i]?=some kv->Pv i U H->g (kV kv.1) U H λU2 H2=>tb {D with nx:=Pv (i+1),ct:=Pv (i+1),bk:=D.nx} U2 H2)(hd:∀U H,Pv kvs.length U H->D.nx U H):nD (Itd a o kvs) g tb D U H:=by
 refine⟨λi m U H=>m=kvs.length-i/\i<=kvs.length/\Pv i U H,⟨kvs.length,by simp,Nat.zero_le _,h0⟩,?_⟩
 rintro i m U H ⟨rfl,hi,p⟩;have hr:=hl i U H hi p
 by_cases hlt:i<kvs.length
 .refine .inr ⟨⟨hr,hlt⟩,Pv (i+1),λU' H' p'=>⟨kvs.length-(i+1),by omega,rfl,hlt,p'⟩,λx H' y=>?_⟩
  obtain⟨rfl,kv,hx,rfl⟩:=y;exact hs i kv U _ hx p
 .have e:i=kvs.length:=by omega
  subst e;exact .inl ⟨⟨hr,rfl⟩,hd U H p⟩
def bXD(h:tl U H (dX λa H1=>pN H1 a λo kvs H2=>R (Itd a o kvs) H2)):bJJ tl U H R:=h
def aZL{Rw:Obj->List (Key×V)->Hp->Prop}(e:H a=some (.dK kvs))(h:∀o,Rw o kvs (upd H a (.frz o (.dK kvs)))):pN H a Rw:=.inl ⟨kvs,e,h⟩
section
variable {o:Expr} {es:List Expr} {t:TA} {id:String}
def aZ1(r:V->List V->Hp->VK->Prop)(to:TE)(t:TA):TE:=λU H Q=>to U H (dX λp H1=>isD H1 p=true/\t U H1 λxs H2=>r (.ref p) xs H2 Q)
def dJ(slot:Slot "dict" name id)(hty:typeOf (.builtin id)=pure (.type "method_descriptor"))(hm:MtR X id r)(ho:PE X o to)(ha:PA X (e::es) t)(hbase:attributeBase o name X.env (eval o X.env)=eval o X.env:=by rfl)(hfew:((backTo cpos (starEach (e::es) X.env)).all (λx=>!x.1)&&(backToKw cpos (keywordEach [] X.env)).all (λx=>x.1.isSome)
 && decide ((e::es).length+([]:List Keyword).length+(if ([]:List Keyword).isEmpty then 0 else 1)<30))=true:=by rfl)(hline:(apos.endLine==cpos.line)=true:=by rfl)(hs:starEach (e::es) X.env=(false,eval e X.env)::starEach es X.env:=by rfl)(hplain:(backTo cpos (starEach es X.env)).any (·.1)=false:=by rfl):PE X (.Call (.Attribute o name apos) (e::es) [] cpos) (aZ1 r to t):=by
 intro y3 s U H Q I h;refine wpAny_Call_method_late hbase hfew hline rfl (thn (ho y3 s U H _ I h) λv s1 ⟨x,H1,I1,r1,q⟩=>?_);unfold dX at q;split at q
 .obtain⟨hd,q1⟩:=q;obtain⟨h1,h2,_⟩:=cQF I1 (cQ7 hd);cases _root_.id r1;refine⟨"dict",_,PySem.F.plainAttrs_dict,slot,hty,h1,h2,?_⟩;have hA:=ha cpos y3 s1 U H1 _ I1 q1
  rw[hs]at hA ⊢;refine Gu (by show (false || (backTo cpos (starEach es X.env)).any (·.1))=false;rw[hplain]<;>rfl) (Calls.evalArgs_plain ?_)
  exact thn hA λus s2 ⟨vs,H2,I2,r2,q2⟩=>hm y3 s2 U H2 _ vs _ us Q I2 r1 r2 q2
 .exact q.elim
def cJA:V->List V->Hp->VK->Prop:=λx vs H Q=>∃a y z o,x=.ref a/\vs=[y,z]/\DGet H a y o/\Q (o.getD z) H
def sL(hu:X.A.units+1<cLine):MtR X "dict.get" cJA:=by
 intro y3 s U H x vs v us Q I rx rv h;obtain⟨a,y,z,ov,rfl,rfl,g,q⟩:=h;cases rx;obtain⟨u,w',rfl,ru,rw'⟩:=kD rv;exact cXE hu I g ru rw' λw1 s1 I1 r1=>⟨_,H,I1,r1,q⟩
def xV:List V->Hp->VK->Prop:=λxs H Q=>∃a kvs,xs=[.ref a]/\Rd H a (.dK kvs)/\∀p,H p=none->Q (.ref p) (upd H p (.dK kvs))
def sY:CallR X (.type "dict") xV:=by
 intro y3 s U H xs us Q I r h;obtain⟨a,kvs,rfl,ha,q⟩:=h;obtain⟨u,rfl,ru⟩:=dM r;cases ru;exact aXG I ha λp s1 hp I1=>⟨.ref p,_,I1,rfl,q p hp⟩
def cQC(x y:V)(H:Hp)(Q:VK):Prop:=∃a v,x=.ref a/\DGet H a y (some v)/\Q v H
def aX4(D:Ends)(U:St)(x y v:V)(H:Hp):Prop:=∃a H4,x=.ref a/\DPut H a y v H4/\D.nx U H4
end
section
variable {w:V} {td ty:TE} {t:TA}
def bXT(h:to U H (dX λp H1=>isD H1 p=true/\t U H1 λxs H2=>r (.ref p) xs H2 Q)):aZ1 r to t U H Q:=h
def cJU{P:Prop}(e:isD H a=true)(h:P):isD H a=true/\P:=⟨e,h⟩
def sB(e:Rd H a (.dK kvs))(h:Q ((bF kvs (Sum.inr z)).getD w) H):cJA (.ref a) [.str z,w] H Q:=⟨a,.str z,w,_,rfl,rfl,.inl ⟨kvs,.inr z,e,rfl,rfl⟩,h⟩
def tJ(e:Rd H a (.dK kvs))(h:∀p,H p=none->Q (.ref p) (upd H p (.dK kvs))):xV [.ref a] H Q:=⟨a,kvs,rfl,e,h⟩
def bJU(h:∀p,H p=none->Q (.ref p) (upd H p (.dK []))):aJD U H Q:=h
def cZU(h:td U H λx H1=>ty U H1 λy H2=>cQC x y H2 Q):bZ9 td ty U H Q:=h
def qF(e:Rd H a (.dK kvs))(l:bF kvs (Sum.inr z)=some v)(h:Q v H):cQC (.ref a) (.str z) H Q:=⟨a,v,rfl,.inl ⟨kvs,.inr z,e,rfl,l.symm⟩,h⟩
def cZC(h:tv U H λv H1=>td U H1 λx H2=>ty U H2 λy H3=>aX4 D U x y v H3):bJG td ty tv D U H:=h
def jH(e:H a=some (.dK kvs))(l:kvs.length<sizeLine)(h:D.nx U (upd H a (.dK (bZ kvs (Sum.inr z) v)))):aX4 D U (.ref a) (.str z) v H:=⟨a,_,rfl,.inl ⟨kvs,.inr z,e,rfl,l,rfl⟩,h⟩
end
section
open PySem.AutoSeq1 (wpAny_loadPart')
open PySem.MeetsSeq PySem.MeetsSeq2 PySem.MeetsSeq3
def EqW(P:Program)(w:World)(A:Around)(s:Shared)(u v:Value):Prop:=∀(E:Value->Shared->Prop) (Q:Bool->Shared->Prop),Q true s->wpAny (model P w) A (eqBool u v) Q E s
def zU(l b:Addr)(xs ys:Array Value)(n n2:Nat)(dd dd2:Option Addr)(sl sl2:Array (Option Value))(hsz:xs.size=ys.size)(k:Nat):∀i:Nat,xs.size-i=k->MeetsIn P w (Builtin.«list.__eq__.loop» ⟨[.ref l,.ref b,rawInt i,rawInt 2],[]⟩)
 (λA R s=>s.heap.get? l=some ⟨.type "list",dd,.seq xs n,sl⟩/\s.heap.get? b=some ⟨.type "list",dd2,.seq ys n2,sl2⟩/\(∀j (h1:j<xs.size) (h2:j<ys.size),EqW P w A.in1 s xs[j] ys[j])/\R (.ok (.ret (.bool true))) s):=by
 induction k with
 |zero=>
  intro i hk A R s h;obtain⟨hp,g,d,tk,os⟩:=s;obtain⟨ha,hq,he,h⟩:=h
  wp_walk using (Cd ha),(Cd hq)
  have n1:xs[((i:Nat):Int).toNat]?=none:=by simp;omega
  have n2':ys[((i:Nat):Int).toNat]?=none:=by simp;omega
  rw[n1,n2']
  wp_walk using (Cd ha),(Cd hq)
  show R (.ok (.ret (.bool (xs.size==ys.size)))) _
  rw[hsz,Ha];exact h
 |succ k ih=>
  intro i hk A R s h;obtain⟨hp,g,d,tk,os⟩:=s;obtain⟨ha,hq,he,h⟩:=h
  wp_walk using (Cd ha),(Cd hq)
  have l1:i<xs.size:=by omega
  have l2:i<ys.size:=by omega
  have n1:xs[((i:Nat):Int).toNat]?=some xs[i]:=by simp[l1]
  have n2':ys[((i:Nat):Int).toNat]?=some ys[i]:=by simp[l2]
  have hc:((i:Int)+1)=((i+1:Nat):Int):=by push_cast;rfl
  rw[n1,n2'];refine Aa (he i l1 l2 _ _ ?_)
  wp_walk
  rw[hc];refine⟨Eh plain_eq_loop _,Dd entry_eq_loop ?_⟩;rw[Dc plain_eq_loop _];exact ih (i+1) (by omega) A R _ ⟨ha,hq,he,h⟩
def yE(l b:Addr)(xs ys:Array Value)(n n2:Nat)(dd dd2:Option Addr)(sl sl2:Array (Option Value))(hsz:xs.size=ys.size)(k:Nat):∀i:Nat,xs.size-i=k->MeetsIn P w (Builtin.«list.__eq__.loop» ⟨[.ref l,.ref b,rawInt i,rawInt 3],[]⟩)
 (λA R s=>s.heap.get? l=some ⟨.type "list",dd,.seq xs n,sl⟩/\s.heap.get? b=some ⟨.type "list",dd2,.seq ys n2,sl2⟩/\(∀j (h1:j<xs.size) (h2:j<ys.size),EqW P w A.in1 s xs[j] ys[j])/\R (.ok (.ret (.bool false))) s):=by
 induction k with
 |zero=>
  intro i hk A R s h;obtain⟨hp,g,d,tk,os⟩:=s;obtain⟨ha,hq,he,h⟩:=h
  wp_walk using (Cd ha),(Cd hq)
  have n1:xs[((i:Nat):Int).toNat]?=none:=by simp;omega
  have n2':ys[((i:Nat):Int).toNat]?=none:=by simp;omega
  rw[n1,n2']
  wp_walk using (Cd ha),(Cd hq)
  show R (.ok (.ret (.bool (xs.size != ys.size)))) _
  rw[hsz,bne_self_eq_false];exact h
 |succ k ih=>
  intro i hk A R s h;obtain⟨hp,g,d,tk,os⟩:=s;obtain⟨ha,hq,he,h⟩:=h
  wp_walk using (Cd ha),(Cd hq)
  have l1:i<xs.size:=by omega
  have l2:i<ys.size:=by omega
  have n1:xs[((i:Nat):Int).toNat]?=some xs[i]:=by simp[l1]
  have n2':ys[((i:Nat):Int).toNat]?=some ys[i]:=by simp[l2]
  have hc:((i:Int)+1)=((i+1:Nat):Int):=by push_cast;rfl
  rw[n1,n2'];refine Aa (he i l1 l2 _ _ ?_)
  wp_walk
  rw[hc];refine⟨Eh plain_eq_loop _,Dd entry_eq_loop ?_⟩;rw[Dc plain_eq_loop _];exact ih (i+1) (by omega) A R _ ⟨ha,hq,he,h⟩
section
variable {l:Addr} {xs ys:Array Value}
def aZ9{Q:Q2}(hl:s.heap.IsList l xs)(hb:s.heap.IsList b ys)(hsz:xs.size=ys.size)(hu:A.units<cLine)(he:∀j (h1:j<xs.size) (h2:j<ys.size),EqW P w A.in1 s xs[j] ys[j])(h:Q (.bool true) s):wpAny (model P w) A (richCompare .Eq (.ref l) (.ref b)) Q E s:=by
 obtain⟨⟨cls,dd,data,sl⟩,ho,hc,n,hd⟩:=id hl;obtain⟨⟨cls2,dd2,data2,sl2⟩,ho2,hc2,n2,hd2⟩:=id hb;obtain rfl:cls=.type "list" := hc;obtain rfl:data=.seq xs n:=hd;obtain rfl:cls2=.type "list" := hc2;obtain rfl:data2=.seq ys n2:=hd2;have g:MeetsIn P w (Builtin.«list.__eq__» ⟨[.ref l,.ref b],[]⟩) (λA R s=>s.heap.get? l=some ⟨.type "list",dd,.seq xs n,sl⟩/\s.heap.get? b=some ⟨.type "list",dd2,.seq ys n2,sl2⟩/\(∀j (h1:j<xs.size) (h2:j<ys.size),EqW P w A.in1 s xs[j] ys[j])/\R (.ok (.ret (.bool true))) s):=by
  intro A R s h;obtain⟨hp,g,d,tk,os⟩:=s;obtain⟨ha,hq,he,h⟩:=h;have f3:=AutoSeq1.sub_list_list
  have hne:¬(xs.size != ys.size)=true:=by simp[hsz]
  wp_walk using (Cd ha),(Cd hq)
  refine⟨Eh plain_eq_loop _,Dd entry_eq_loop ?_⟩;rw[Dc plain_eq_loop _];exact zU l b xs ys n n2 dd dd2 sl sl2 hsz _ 0 rfl A R _ ⟨ha,hq,he,h⟩
 exact wpAny_richCompare_same_room (op:=.Eq) ⟨_,ho,rfl⟩ ⟨_,ho2,rfl⟩ PySem.F.slot_list_eq (Gw PySem.F.slot_list_eq ⟨_,ho,rfl⟩ PySem.F.entry_list_eq (PySem.F.args_list_eq_2 _ _) g ⟨ho,ho2,he,show Value.bool true≠Value.notImplemented/\Q (.bool true) s from⟨(λx=>nomatch x),h⟩⟩) hu
def aQV{Q:Q2}(hl:s.heap.IsList l xs)(hb:s.heap.IsList b ys)(hsz:xs.size=ys.size)(hu:A.units<cLine)(he:∀j (h1:j<xs.size) (h2:j<ys.size),EqW P w A.in1 s xs[j] ys[j])(h:Q (.bool false) s):wpAny (model P w) A (richCompare .NotEq (.ref l) (.ref b)) Q E s:=by
 obtain⟨⟨cls,dd,data,sl⟩,ho,hc,n,hd⟩:=id hl;obtain⟨⟨cls2,dd2,data2,sl2⟩,ho2,hc2,n2,hd2⟩:=id hb;obtain rfl:cls=.type "list" := hc;obtain rfl:data=.seq xs n:=hd;obtain rfl:cls2=.type "list" := hc2;obtain rfl:data2=.seq ys n2:=hd2;have g:MeetsIn P w (Builtin.«list.__ne__» ⟨[.ref l,.ref b],[]⟩) (λA R s=>s.heap.get? l=some ⟨.type "list",dd,.seq xs n,sl⟩/\s.heap.get? b=some ⟨.type "list",dd2,.seq ys n2,sl2⟩/\(∀j (h1:j<xs.size) (h2:j<ys.size),EqW P w A.in1 s xs[j] ys[j])/\R (.ok (.ret (.bool false))) s):=by
  intro A R s h;obtain⟨hp,g,d,tk,os⟩:=s;obtain⟨ha,hq,he,h⟩:=h;have f3:=AutoSeq1.sub_list_list
  have hne:¬(xs.size != ys.size)=true:=by simp[hsz]
  wp_walk using (Cd ha),(Cd hq)
  refine⟨Eh plain_eq_loop _,Dd entry_eq_loop ?_⟩;rw[Dc plain_eq_loop _];exact yE l b xs ys n n2 dd dd2 sl sl2 hsz _ 0 rfl A R _ ⟨ha,hq,he,h⟩
 exact wpAny_richCompare_same_room (op:=.NotEq) ⟨_,ho,rfl⟩ ⟨_,ho2,rfl⟩ PySem.F.slot_list_ne (Gw PySem.F.slot_list_ne ⟨_,ho,rfl⟩ PySem.F.entry_list_ne (PySem.F.args_list_ne_2 _ _) g ⟨ho,ho2,he,show Value.bool false≠Value.notImplemented/\Q (.bool false) s from⟨(λx=>nomatch x),h⟩⟩) hu
def EqW.same(u:Value):EqW P w A s u u:=λE Q hq=>SeqAt.EqAt.same u P w E Q hq
def EqW.refs(hne:l≠b)(h:∀(E:Q2) (Q:Q2),Q (.bool true) s->wpAny (model P w) A (richCompare .Eq (.ref l) (.ref b)) Q E s):EqW P w A s (.ref l) (.ref b):=λE Q hq=>by
 unfold eqBool;refine Bv (wpAny_ite_split (λhab=>absurd (by have:=eq_of_beq hab;injection this) hne) (λ_=>?_))
 exact Aa (h E _ (Fp hq))
end
def DEq(kvs kws:List (Key×V)):Prop:=kvs.length=kws.length/\∀kv∈kvs,bD kv.2=true/\bF kws kv.1=some kv.2
def wX{ws:List (Key×Value)}(rw':KV kws ws){vs:List (Key×Value)}(r:KV kvs vs)(h:∀kv∈kvs,bD kv.2=true/\bF kws kv.1=some kv.2):W.KeqHits A s ws vs true:=by
 unfold KV at r;induction r with
 |nil=>exact .nil
 | @cons kv vv _ _ hk t ih=>
  obtain⟨k,v⟩:=kv;obtain⟨k',u⟩:=vv;obtain⟨e,ru⟩:=hk;cases e;obtain⟨f,hv⟩:=h (k,v) (Al ..);have ro:=rw'.val k
  rw[hv]at ro;cases ey:valueAt ws k with
  |none=>rw[ey]at ro;exact(show False from ro).elim
  |some y=>
   rw[ey]at ro;have eq:=iG (A:=A) (s:=s) ru (show RelV v y from ro) f f
   rw[fU f]at eq;exact .hit (e:=true) (b:=true) ey eq (ih λkv hkv=>h kv (Ak _ hkv))
def xP(I:Inv X y3 U H s)(hp:Rd H p (.dK kvs))(hq:Rd H q (.dK kws))(d:DEq kvs kws)(hu:A.units<cLine)(E:Q2)(Q:Q2):(Q (.bool true) s->wpAny (model X.prog X.w) A (richCompare .Eq (.ref p) (.ref q)) Q E s)/\(Q (.bool false) s->wpAny (model X.prog X.w) A (richCompare .NotEq (.ref p) (.ref q)) Q E s):=by
 obtain⟨z1,d1,vs,r1,dd1⟩:=fA I.hok hp;obtain⟨z2,d2,ws,r2,dd2⟩:=fA I.hok hq;have hl:(vs.length==ws.length)=true:=He.mpr (by rw[<-r1.length,<-r2.length];exact d.1)
 refine⟨λh=>W.keq_eq (r:=true) d1 d2 dd1 dd2 hu (λ_=>wX r2 r1 d.2) (by rw[hl];exact h),λh=>W.keq_ne (r:=true) d1 d2 dd1 dd2 hu (λ_=>wX r2 r1 d.2) (by rw[hl];exact h)⟩
def Alw(H:Hp):Nat->V->V->Prop
 |0,x,y=>x=y/\bD x=true
 |n+1,x,y=>(x=y/\bD x=true)\/∃p q,x=.ref p/\y=.ref q/\((∃xs ys,rdL H p=some xs/\rdL H q=some ys/\xs.length=ys.length/\∀(j:Nat) x' y',xs[j]?=some x'->ys[j]?=some y'->Alw H n x' y')\/∃kvs kws,Rd H p (.dK kvs)/\Rd H q (.dK kws)/\DEq kvs kws)
def Alw.flat{x:V}(h:bD x=true):Alw H n x x:=by
 cases n with
 |zero=>exact⟨rfl,h⟩
 |succ n=>exact .inl ⟨rfl,h⟩
def Alw.lst{H:Hp}{n:Nat}{p q:Addr}{xs ys:List V}(hp:rdL H p=some xs)(hq:rdL H q=some ys)(hl:xs.length=ys.length)(h:∀(j:Nat) x y,xs[j]?=some x->ys[j]?=some y->Alw H n x y):Alw H (n+1) (.ref p) (.ref q):=.inr ⟨p,q,rfl,rfl,.inl ⟨xs,ys,hp,hq,hl,h⟩⟩
def Alw.dic(hp:Rd H p (.dK kvs))(hq:Rd H q (.dK kws))(d:DEq kvs kws):Alw H (n+1) (.ref p) (.ref q):=.inr ⟨p,q,rfl,rfl,.inr ⟨kvs,kws,hp,hq,d⟩⟩
def Alw.flats(f:xs.all bD=true):∀(j:Nat) x y,xs[j]?=some x->xs[j]?=some y->Alw H n x y:=λj x y hx hy=>by
 rw[hx]at hy;cases hy;exact .flat (Fg.mp f x (As hx))
def tT(I:Inv X y3 U H s)(ih:∀x y u v,Alw H n x y->RelV x u->RelV y v->EqW X.prog X.w A.in1 s u v)(h:Alw H (n+1) (.ref p) (.ref q))(hu:A.units<cLine)(E:Q2)(Q:Q2):(Q (.bool true) s->wpAny (model X.prog X.w) A (richCompare .Eq (.ref p) (.ref q)) Q E s)/\(Q (.bool false) s->wpAny (model X.prog X.w) A (richCompare .NotEq (.ref p) (.ref q)) Q E s):=by
 rcases h with⟨_,f⟩|⟨p',q',e1,e2,hpq⟩
 .cases f
 .cases e1;cases e2;rcases hpq with⟨xs,ys,hp,hq,hl,h⟩|⟨kvs,kws,hp,hq,d⟩
  .obtain⟨its,r1,l1,_⟩:=I.list (aU hp);obtain⟨its2,r2,l2,_⟩:=I.list (aU hq);have e1:=r1.length
   have e2:=r2.length
   have he:∀j (h1:j<its.toArray.size) (h2:j<its2.toArray.size),EqW X.prog X.w A.in1 s its.toArray[j] its2.toArray[j]:=λj h1 h2=>by
    have h1':j<its.length:=by simpa using h1
    have h2':j<its2.length:=by simpa using h2
    obtain⟨u',hu',ru'⟩:=r1.get (Ab (show j<xs.length by omega))
    obtain⟨v',hv',rv'⟩:=r2.get (Ab (show j<ys.length by omega))
    rw[Ab h1']at hu';rw[Ab h2']at hv';cases hu';cases hv'
    simpa using ih _ _ _ _ (h j _ _ (List.getElem?_eq_getElem _) (List.getElem?_eq_getElem _)) ru' rv'
   have hs:its.toArray.size=its2.toArray.size:=by simp only[List.size_toArray];omega
   exact⟨λq=>aZ9 l1.isList l2.isList hs hu he q,λq=>aQV l1.isList l2.isList hs hu he q⟩
  .exact xP I hp hq d hu E Q
def aXX(I:Inv X y3 U H s):∀(n:Nat) (A:Around) (x y:V) (u v:Value),Alw H n x y->RelV x u->RelV y v->A.units+n<cLine->EqW X.prog X.w A s u v:=by
 intro n;induction n with
 |zero=>
  intro A x y u v h ru rv hu;obtain⟨rfl,f⟩:=h;have:=iG (A:=A) (s:=s) ru rv f f
  rw[fU f]at this;exact λE Q hq=>this X.prog X.w E Q hq
 |succ n ih=>
  intro A x y u v h ru rv hu;rcases id h with⟨rfl,f⟩|⟨p,q,rfl,rfl,hpq⟩
  .have:=iG (A:=A) (s:=s) ru rv f f
   rw[fU f]at this;exact λE Q hq=>this X.prog X.w E Q hq
  .cases ru;cases rv;by_cases e:p=q
   .subst e;exact .same _
   exact .refs e λE Q hq=>(tT I (λx y u v hx hu' hv'=>ih A.in1 x y u v hx hu' hv' (by show A.units+1+n<cLine;omega)) h (by omega) E Q).1 hq
def bJ5(neg:Bool):R2:=λx y H Q=>∃n p q,n<=50/\x=.ref p/\y=.ref q/\Alw H (n+1) x y/\Q (.bl (!neg)) H
def dQY(hu:X.A.units+64<cLine):OpR X (compareOp .Eq) (bJ5 false):=by
 intro y3 s U H x y v u Q I rx ry h;obtain⟨n,p,q,hn,rfl,rfl,al,k⟩:=h;cases rx;cases ry;exact(tT I (λx y u v hx hu' hv'=>aXX I n X.A.in1 x y u v hx hu' hv' (by show X.A.units+1+n<cLine;omega)) al (by omega) _ _).1 ⟨.bl true,H,I,rfl,k⟩
def cJ0(hu:X.A.units+64<cLine):OpR X (compareOp .NotEq) (bJ5 true):=by
 intro y3 s U H x y v u Q I rx ry h;obtain⟨n,p,q,hn,rfl,rfl,al,k⟩:=h;cases rx;cases ry;exact(tT I (λx y u v hx hu' hv'=>aXX I n X.A.in1 x y u v hx hu' hv' (by show X.A.units+1+n<cLine;omega)) al (by omega) _ _).2 ⟨.bl false,H,I,rfl,k⟩
def bJK(n:Nat)(al:Alw H (n+1) (.ref p) (.ref q))(h:Q (.bl (!neg)) H)(hn:n<=50:=by omega):bJ5 neg (.ref p) (.ref q) H Q:=⟨n,p,q,hn,rfl,rfl,al,h⟩
def Room.u1{k:Nat}(r:Room k A):A.units+1<cLine:=by have:=r.un;omega
end
section
open PySem.W
section
variable {K:Frag} {x D:Addr} {ox:Obj} {od:Option Obj}
def bZO{v:Value}{expr:Bool}{Q:Q2}(Z:ExK K D)(X:K.In s.heap)(I:InstAt s.heap x ox D od)(hf:findObj K D od name=some (.value v))(hh:handedIn v=true)(h:Q v {s with toks:=s.toks+1}):wpAny (model prog w) A (getAttr (.ref x) name expr) Q E s:=by
 obtain⟨hp,g,d,t,os⟩:=s;have L0:=I.type (M:=model prog w)
 have L1:=looks_findIn (M:=model prog w) X Z.ga
 have L2:=looks_findIn (M:=model prog w) X Z.gh
 have L3:=looks_find (M:=model prog w) X I hf
 unfold getAttr getAttrBy;refine Aa (wpAny_mkText (Bv (Aa (L0.at (Aa (L1.at ?_))))));have ne:(Value.builtin "BaseException.__getattribute__" == Value.builtin "object.__getattribute__")=false:=by decide +kernel
 have fb:=F.excAttr_ValueError.ga.bind (.ref x)
 dsimp only;rw[ne,Bool.and_false,if_neg An];unfold getAttrByItsOwn hookBefore;rw[if_pos (show onTheHeap (Value.ref D)=true from rfl)];refine Aa (L2.at (Aa (De (Bv ?_))));unfold callGetattribute boundAndCalled;rw[if_neg (by rw[show onTheHeap (Value.builtin "BaseException.__getattribute__")=false from rfl,Bool.and_false];exact An)]
 refine Aa (Hk fb ?_);refine Fi (Ez F.excAttr_ValueError.ga.plain F.entry_bexc_ga (oW Z X I ?_));unfold Builtin.«object.__getattribute__»;refine Aa (Ae (Aa (Ae (Aa (L0.at (Aa (L3.at ?_)))))));refine Ae ?_;exact handed_on hh h
def aJQ{e t0:Addr}{vs:Array Value}{rest:List Value}{Q:Q2}(Z:ExK K D)(X:K.In s.heap)(I:InstAt s.heap e oe D od)(hb:W.subIn K (.ref D) (.type "ValueError")=some true)(hd:oe.data=.fields vs)(h0:vs[0]?=some (.ref t0))(hr:rest.length<=sizeLine)(h:Q .none {s with heap:=(s.heap.push {cls:=.type "tuple",data:=.seq rest.toArray}).update e (Obj.mapFields (·.setIfInBounds 0 (.ref s.heap.objs.size)))}):wpAny (model prog w) A (call (.builtin "ValueError.__init__") (.ref e::rest)) Q E s:=by
 have he:=I.at_
 obtain⟨cd,hc,_⟩:=any_some Z.cls;have FB:=PySem.F.excBase_ValueError
 have L0:=I.type (M:=model prog w)
 have L1:=looks_subIn (M:=model prog w) X hb
 refine Fi (Ez FB.init.plain FB.initEntry ?_);have ck:∀(Q:Unit->Shared->Prop) (E:Q2) (B:Around),Q () s->wpAny (model prog w) B (checkBuiltinCall "ValueError.__init__" ⟨.ref e::rest,[]⟩) Q E s:=λQ E B hq=>by
  simp only[checkBuiltinCall,FB.initKind,FB.initSplit,FB.initRow];refine Aa ((L0.andThen L1).at ?_);have hst:=FB.noStar
  have sg:∀(a b:String) (n:Nat),Bind.check ⟨.positional, "*", "ValueError",.self,[⟨"args",.varPos,false⟩]⟩ a b n (List.map (λx=>x.fst) ({pos:=Value.ref e::rest}:Args).kw)=pure ():=λa b n=>check_star_args _ _ _ _ _ _
  repeat (first|wp_step)
  rw[I.cls];refine Aa ((looks_clsIn X hc).at (Ae ?_));repeat (first|wp_step)
  refine wpAny_onRaise ?_;rw[sg];exact Ae hq
 refine ck _ _ _ ?_;have hs0:0<vs.size:=(Bm.mp h0).1
 have hg:=Ad (h:=s.heap) {cls:=.type "tuple",data:=.seq rest.toArray} he
 unfold Builtin.«BaseException.__init__» newTuple Builtin.BaseException.bexcPut;dsimp only;rw[if_neg (by simp)]
 refine Aa (Ey (Aa (Aa (Bl hg hd h0 (Aa (wpAny_setField hg hd hs0 (wpAny_letGo (Ae h))))))) (by show rest.toArray.size<=sizeLine;rw[Be];exact hr))
def vN(K:Frag)(D:Addr):Option (List Value):=(clsIn K D).map (·.mro)
def rY{T:Addr}{v:Value}{h1:Heap}{m:Q4}{ns:List Str}{Q:Unit->Shared->Prop}(Z:ExK K D)(X:K.In s.heap)(I:InstAt s.heap x ox D od)(hs:findIn K (.ref D) "__setattr__"=some (some (.builtin "object.__setattr__")))(hm:vN K D=some [.ref D,.ref T,.type "ValueError",.type "Exception",.type "BaseException",.type "object"])(hna:findIn K (.ref D) name=some none)(hi:∀(B:Around) (Q':Option Addr->Shared->Prop) (E':Q2),Q' (some dx) {s with heap:=h1,toks:=s.toks+1}->wpAny (model prog w) B (instanceDict x true) Q' E' {s with toks:=s.toks+1})(hn:h1.Ns1 dx m)(hw:Within m ns)(hz:ns.length<sizeLine)(h:∀h' tk',h'.Ns1 dx (λy=>if y=name then some v else m y)->Heap.SameBut dx h1 h'->Q () {s with heap:=h',toks:=tk'}):wpAny (model prog w) A (setAttr (.ref x) name v) Q E s:=by
 obtain⟨cd,hc,hd'⟩:=any_some Z.cls;have hmr:cd.mro=[.ref D,.ref T,.type "ValueError",.type "Exception",.type "BaseException",.type "object"]:=by
  unfold vN at hm;rw[hc]at hm;exact Bh hm
 have SF:=PySem.F.store_ValueError
 have sub:Looks (model prog w) s.heap (isInstance (.ref x) (.type "object")) true:=I.type.andThen (looks_mroIn X Z.mo)
 have hmm:Looks (model prog w) s.heap (mroOf (.ref D)) cd.mro:=(looks_clsIn X hc).andThen .now
 have hx:=I.at_
 refine set_plain X I hs ?_;refine Ez SF.slot.plain SF.entry (@check_slot (model prog w) _ _ {s with toks:=s.toks+1} "object.__setattr__" "object" "__setattr__" (.ref x) [.str name s.toks,v] [] _ SF.kind SF.split sub (SF.args (.ref x) (.str name s.toks) v) ?_)
 rw[osa_eq,refuse_eq];refine Aa (Aa (I.type.here (s:={s with toks:=s.toks+1}) (Aa (hmm.here (s:={s with toks:=s.toks+1}) ?_))))
 rw[hmr,refuseLoop_ref,refuseLoop_ref,SF.passes];refine Ae (Aa (I.type.here (s:={s with toks:=s.toks+1}) (Aa ((looks_findIn X hna).here (s:={s with toks:=s.toks+1}) (Aa (Ae ?_))))))
 show wpAny (model prog w) A.in1 (Builtin.ObjectAttr.storeInOwnDict (Value.ref x) (Value.ref D) (Value.str name s.toks) name v false) _ _ _
 unfold Builtin.ObjectAttr.storeInOwnDict;refine Aa (Ae ?_);rw[if_neg (show ¬((Value.ref D==Value.type "module")=true) by simp)]
 unfold Builtin.ObjectAttr.ownDictForStores;refine Aa (hi _ _ _ ?_);show wpAny (model prog w) A.in1 (Builtin.ObjectAttr.storeInDict dx (Value.str name s.toks) name v) _ _ _
 unfold Builtin.ObjectAttr.storeInDict Builtin.ObjectAttr.newKeyGuard;refine Aa (Ae (Aa (wpAny_nsSet1 hn λh' hn' sb=>?_)));obtain⟨oD,esD,epD,hoD,hdD,hcD⟩:=hn'.count (Within.cons name v hw);refine Aa (wpAny_lookBehind hoD (by rw[hdD];exact pastItsLine_dict (Bf hcD (by rw[Bj];omega))) ?_)
 exact Ae (h h' _ hn' sb)
def aX1{T:Addr}{v:Value}{vs:Array Value}{Q:Unit->Shared->Prop}(Z:ExK K D)(X:K.In s.heap)(I:InstAt s.heap x ox D none)(hda:ox.data=.fields vs)(hdn:ox.dict=none)(hs:findIn K (.ref D) "__setattr__"=some (some (.builtin "object.__setattr__")))(hm:vN K D=some [.ref D,.ref T,.type "ValueError",.type "Exception",.type "BaseException",.type "object"])(hna:findIn K (.ref D) name=some none)(h:∀h' tk',h'.get? x=some {ox with dict:=some s.heap.objs.size}->h'.Ns1 s.heap.objs.size (λy=>if y=name then some v else none)->(∀b o,b≠x->s.heap.get? b=some o->h'.get? b=some o)->Q () {s with heap:=h',toks:=tk'}):wpAny (model prog w) A (setAttr (.ref x) name v) Q E s:=by
 obtain⟨cd,hc,hd'⟩:=any_some Z.cls;have hx:=I.at_
 have hx1:(s.heap.push {cls:=.type "dict",data:=.dict #[]}).get? x=some ox:=Ad _ hx
 have hxs:x≠s.heap.objs.size:=Ba (Ao hx)
 have hgd:((s.heap.push {cls:=.type "dict",data:=.dict #[]}).update x λo=>{o with dict:=some s.heap.objs.size}).get? s.heap.objs.size=some {cls:=.type "dict",data:=.dict #[]}:=
  (Heap.get?_update_ne _ _ _ _ hxs.symm).trans (Heap.get?_push_at rfl rfl)
 have hnd:((s.heap.push {cls:=.type "dict",data:=.dict #[]}).update x λo=>{o with dict:=some s.heap.objs.size}).Ns s.heap.objs.size (λ_=>none):=
  ⟨_,#[],_,hgd,rfl,λe he=>absurd he (by simp),λ_=>rfl⟩
 have hxu:((s.heap.push {cls:=.type "dict",data:=.dict #[]}).update x λo=>{o with dict:=some s.heap.objs.size}).get? x=some {ox with dict:=some s.heap.objs.size}:=by
  refine Dj _ hx1 ?_;obtain⟨a,b,c,d⟩:=ox;cases hda;rfl
 refine rY Z X I hs hm hna (λB Q' E' q=>?_) (Heap.Ns1.of_empty hnd) Within.nil (by rw[List.length_nil,sizeLine_eq];omega) λh' tk' n sb=>h h' tk' ((sb.2 x hxs).trans hxu) n λb o hb e=>
  (sb.2 b (Ba (Ao e))).trans ((Heap.get?_update_ne _ _ _ _ hb).trans (Ad _ e))
 unfold instanceDict;refine Aa (wpAny_loadPart hx ?_);rw[I.cls];refine Aa ((looks_clsIn X hc).here (s:={s with toks:=s.toks+1}) ?_)
 rw[hd',hdn,hda,if_neg (show ¬((!true)=true) by decide)]
 dsimp only;rw[if_neg (show ¬((!true || !typeHasDict (Value.ref D))=true) by simp[typeHasDict])]
 exact Aa (wpAny_alloc' (Aa (wpAny_update' hx1 (Ae q))))
def aXZ{T:Addr}{v:Value}{m:Q4}{ns:List Str}{odx:Obj}{Q:Unit->Shared->Prop}(Z:ExK K D)(X:K.In s.heap)(I:InstAt s.heap x ox D (some odx))(hdn:ox.dict=some dx)(hs:findIn K (.ref D) "__setattr__"=some (some (.builtin "object.__setattr__")))(hm:vN K D=some [.ref D,.ref T,.type "ValueError",.type "Exception",.type "BaseException",.type "object"])(hna:findIn K (.ref D) name=some none)(hn:s.heap.Ns1 dx m)(hw:Within m ns)(hz:ns.length<sizeLine)(h:∀h' tk',h'.Ns1 dx (λy=>if y=name then some v else m y)->Heap.SameBut dx s.heap h'->Q () {s with heap:=h',toks:=tk'}):wpAny (model prog w) A (setAttr (.ref x) name v) Q E s:=by
 obtain⟨cd,hc,hd'⟩:=any_some Z.cls;refine rY Z X I hs hm hna (λB Q' E' q=>?_) hn hw hz h;unfold instanceDict;refine Aa (wpAny_loadPart I.at_ ?_);rw[I.cls];refine Aa ((looks_clsIn X hc).here (s:={s with toks:=s.toks+1}) ?_)
 rw[hd',hdn,if_neg (show ¬((!true)=true) by decide)]
 exact Ae q
end
end
section
open PySem.W
def cZ(ea C:Addr)(d:Option Addr):HO:=.ext λh=>∃oe vs t0,h.get? ea=some oe/\oe.cls=.ref C/\oe.dict=d/\oe.data=.fields vs/\vs[1]?=some .none/\vs[0]?=some (.ref t0)/\vs[2]?=some .none
def xdO(dx:Addr)(fs:List (Str×V)):HO:=.ext λh=>∃mA,h.Ns1 dx mA/\(∀f,RelO (fs.lookup f) (mA f))/\Within mA (fs.map (·.1))
def qS{vs:Array Value}{t0:Addr}(g:h.get? ea=some oe)(c:oe.cls=.ref C)(di:oe.dict=d)(da:oe.data=.fields vs)(h1:vs[1]?=some .none)(h0:vs[0]?=some (.ref t0))(c2:vs[2]?=some .none):ObjOk P w H h ea (cZ ea C d):=⟨⟨oe,vs,t0,g,c,di,da,h1,h0,c2⟩,⟨oe,g⟩,λ_ _ ⟨o,ws,t,g,q⟩ k=>⟨o,ws,t,k o g,q⟩⟩
def aXY{fs:List (Str×V)}{mA:Q4}(n:h.Ns1 dx mA)(r:∀f,RelO (fs.lookup f) (mA f))(wi:Within mA (fs.map (·.1))):ObjOk P w H h dx (xdO dx fs):=by
 refine⟨⟨mA,n,r,wi⟩,?_,λ_ _ ⟨m,⟨o,es,ep,g,q⟩,r⟩ k=>⟨m,⟨o,es,ep,k o g,q⟩,r⟩⟩;obtain⟨o,es,ep,g,_⟩:=n;exact⟨o,g⟩
structure XcK (K:Frag) (C T:Addr):Prop where
 ex:ExK K C
 sa:findIn K (.ref C) "__setattr__"=some (some (.builtin "object.__setattr__"))
 mro:vN K C=some [.ref C,.ref T,.type "ValueError",.type "Exception",.type "BaseException",.type "object"]
 vb:W.subIn K (.ref C) (.type "ValueError")=some true
def cZ9(K:Frag)(C T:Addr):Bool:=(clsIn K C).any λc=>match c.mro with
 |[.ref a,.ref b,.type x,.type y,.type z,.type u]=>a==C&&b==T&&x == "ValueError" && y == "Exception" && z == "BaseException" && u == "object"
 |_=>false
def bQE{K:Frag}{T:Addr}(h:cZ9 K C T=true):vN K C=some [.ref C,.ref T,.type "ValueError",.type "Exception",.type "BaseException",.type "object"]:=by
 obtain⟨c,hc,h⟩:=any_some h;unfold vN;rw[hc];split at h
 .rename_i hm
  simp only[Bool.and_eq_true,beq_iff_eq]at h;obtain⟨⟨⟨⟨⟨rfl,rfl⟩,rfl⟩,rfl⟩,rfl⟩,rfl⟩:=h;exact Cy some hm
 .cases h
def eE{D:Addr}{vs:Array Value}(hok:HOk P w H h)(g:h.get? ea=some oe)(hc:oe.cls=.ref D)(hdi:oe.dict=d)(hda:oe.data=.fields vs)(hd:∀dx,d=some dx->∃o,H dx=some o):∃od,InstAt h ea oe D od:=by
 have no:notCls oe=true:=by
  obtain⟨c,di,da,sl⟩:=oe;cases hda;rfl
 cases d with
 |none=>exact⟨none,g,hc,no,by rw[hdi];trivial⟩
 |some dx=>
  obtain⟨o,z⟩:=hd dx rfl;obtain⟨ob,g2⟩:=(hok dx o z).get;exact⟨some ob,g,hc,no,by rw[hdi];exact g2⟩
def cQH{o:HO}(e:H a=some o):upd H a o=H:=by
 funext b
 unfold upd;split
 .rename_i z;rw[z,e]
 .rfl
def uR(K:Frag):List V->Hp->VK->Prop:=λvs H Q=>∃ea rest C T d,vs=.ref ea::rest/\rest.length<=sizeLine/\H ea=some (cZ ea C d)/\(∀dx,d=some dx->∃o,H dx=some o)/\XcK K C T/\Q .non H
def aJF(K:Frag)(t:TA):TE:=λU H Q=>t U H λvs H1=>uR K vs H1 Q
def bQI:CallR X (.builtin "ValueError.__init__") (uR X.K):=by
 intro y3 s U H xs us Q I r h;obtain⟨ea,rest,C,T,d,rfl,hl,he,hd,Z,q⟩:=h;cases r with
 | @cons _ _ _ l2 r0 rr=>
  cases r0;obtain⟨oe,vs,t0,g,hc,hdi,hda,h1,h0,c2⟩:=(I.hok ea _ he).1;obtain⟨od,hI⟩:=eE I.hok g hc hdi hda hd;refine aJQ Z.ex I.kIn hI Z.vb hda h0 (by rw[<-rr.length];exact hl) ?_
  have g2:=Ad (h:=s.heap) {cls:=.type "tuple",data:=.seq l2.toArray} g
  have hs0:0<vs.size:=(Bm.mp h0).1
  have dm:=Cz hda (·.setIfInBounds 0 (Value.ref s.heap.objs.size))
  refine⟨.non,H,?_,rfl,q⟩;have I2:=I.write (x:=ea) (e:=ea) (o:=cZ ea C d) (t':=s.toks) (by rw[he];exact True.intro) (.inl rfl) (λb u hb z=>(Bx _ (Obj.mapFields (·.setIfInBounds 0 (Value.ref s.heap.objs.size))) (Ne.symm hb)).trans (Ad _ z))
   ⟨_,Heap.get?_update_self _ g2 (Obj.isFreed_of_fields dm)⟩ (qS (Heap.get?_update_self _ g2 (Obj.isFreed_of_fields dm)) (by rw[Obj.cls_mapFields];exact hc) (by rw[jC];exact hdi) dm (by rw[Array.getElem?_setIfInBounds];simp[h1]) (t0:=s.heap.objs.size) (by simp[hs0]) ((Array.getElem?_setIfInBounds_ne (by decide)).trans c2))
  rw[cQH he]at I2;exact I2
section
variable {T:Addr} {mc:Value} {es:List Expr} {t:TA} {np:Pos}
def aZS{pl:Sem Bool}(hg:Gl X x)(hm:X.mg x=some (.ref T))(h1:specialIn X.K (.ref T) "__getattribute__"=some (some (.builtin "type.__getattribute__")))(h2:readsIn X.K T mc=true)(h3:findCls X.K (.ref T) mc "__init__"=some (.val (.builtin "ValueError.__init__")))(ha:PA X (e::es) t)(hdb:(x==("__debug__" : Str))=false:=by decide)(hst:starEach (e::es) X.env=(false,eval e X.env)::starEach es X.env:=by rfl)(hpl:(backTo pos (starEach es X.env)).any (·.1)=false:=by rfl)(ht:eval (.Call (.Attribute (.Name x np) "__init__" apos) (e::es) [] pos) X.env=(do
 let ov <-eval (.Name x np) X.env
 standAt apos.atName
 let (f,first) <-holding [ov] (getMethod ov "__init__" pl)
 callWith pos f first (backTo pos (starEach (e::es) X.env)) (backToKw pos (keywordEach [] X.env))):=by rfl):PE X (.Call (.Attribute (.Name x np) "__init__" apos) (e::es) [] pos) (aJF X.K t):=by
 intro y3 s U H Q I h;refine W.methodCall_KW (pl:=pl) (eN I hg hm ?_ hdb) ht;refine method_cls I.kIn h1 (cls_value I.kIn h2 h3 rfl ?_);exact PyProof.Rows.callWith_builtin1 (thn (ha pos y3 _ U H _ (I.tok _) h) λus s1 ⟨vs,H1,I1,r1,q1⟩=>bQI y3 s1 U H1 vs us Q I1 r1 q1) hst hpl
end
def Inv.freAt(I:Inv X y3 U H s)(h:s.heap.objs.size<=a):Fre X y3 a where
 s0:=Ft (Bf I.sz h)
 loc:=λz=>absurd (Az I.lt h) (by rw[z];exact Dm _)
 cell:=λx c e z=>by
  obtain⟨_,o,g,_⟩:=I.cell x c e;exact absurd (Az (Ao g) h) (by rw[z];exact Dm _)
 pin:=λp hp z=>absurd (Az (Ao (I.pin p hp).1) h) (by rw[z];exact Dm _)
def bZ7(K:Frag)(ta tv:TE)(f:Str):TS:=λD U H=>tv U H λy H1=>ta U H1 λx H2=>∃ea C T,x=.ref ea/\XcK K C T/\findIn K (.ref C) f=some none/\
 ((H2 ea=some (cZ ea C none)/\∀dx,H2 dx=none->D.nx U (upd (upd H2 ea (cZ ea C (some dx))) dx (xdO dx [(f,y)])))\/
  (∃dx fs,H2 ea=some (cZ ea C (some dx))/\H2 dx=some (xdO dx fs)/\fs.length<100/\D.nx U (upd H2 dx (xdO dx ((f,y)::fs)))))
def nN{f g:Str}{fs:List (Str×V)}:List.lookup g ((f,y)::fs)=if g=f then some y else fs.lookup g:=by
 rw[Dx];by_cases z:g=f
 .rw[if_pos z,z];simp
 .rw[if_neg z];have:(g==f)=false:=by simpa using z
  rw[this]
def xT{o value:Expr}{f:Str}{pos':Pos}{ta:TE}(ha:PE X o ta)(hv:PE X value tv)(hs:swapsWith value (some (.Attribute o f pos')) pos.line X.env=pure false):PS X (.Assign [.Attribute o f pos'] value pos) (bZ7 X.K ta tv f):=by
 intro y3 s U H D I h;refine plainObj_wpAny_Assign_Attribute (thn (hv y3 s U H _ I h) λu s1 ⟨y,H1,I1,ry,q⟩=>thn (ha y3 s1 U H1 _ I1 q) λov s2 ⟨x,H2,I2,rx,ea,C,T,ex,Z,hn,q2⟩=>?_) hs;subst ex;obtain rfl:ov=Value.ref ea:=rx;rcases q2 with⟨he,q3⟩|⟨dx,fs,he,hdx,hl,q3⟩
 .obtain⟨oe,vs,t0,g,hc,hdi,hda,h1,h0,c2⟩:=(I2.hok ea _ he).1;obtain⟨od,hI⟩:=eE I2.hok g hc hdi hda (λ_ z=>nomatch z)
  have hod:od=none:=by
   have z:=hI.dict
   rw[hdi]at z;cases od with
   |none=>rfl
   |some o=>exact z.elim
  subst hod;refine aX1 Z.ex I2.kIn hI hda hdi Z.sa Z.mro hn λh' tk' gx ns kp=>?_;have fr:=I2.freAt (Ai _)
  have hfree:H2 s2.heap.objs.size=none:=I2.hok.fresh (Ai _)
  have ne:s2.heap.objs.size≠ea:=λz=>by rw[z,he]at hfree;cases hfree
  have I3:=I2.write (x:=ea) (e:=ea) (o:=cZ ea C (some s2.heap.objs.size)) (h':=h') (t':=tk') (by rw[he];exact True.intro) (.inl rfl) kp ⟨_,gx⟩ (qS gx hc rfl hda h1 h0 c2)
  have I4:=I3.adopt (a:=s2.heap.objs.size) (o:=xdO s2.heap.objs.size [(f,y)]) fr (by rw[aG ne];exact hfree) (aXY ns (λg=>by
   rw[nN];split
   .exact ry
   .exact True.intro) (λg hg=>by
   by_cases z:g=f
   .rw[z];exact Ap.mpr rfl
   .exact absurd (show (if g=f then some u else none)=none by rw[if_neg z]) hg))
  exact⟨U,_,I4,q3 _ hfree⟩
 .obtain⟨oe,vs,t0,g,hc,hdi,hda,h1,h0,c2⟩:=(I2.hok ea _ he).1;obtain⟨mA,n,r,wi⟩:=(I2.hok dx _ hdx).1;obtain⟨od,hI⟩:=eE I2.hok g hc hdi hda (λz e=>by cases e;exact⟨_,hdx⟩)
  have hod:∃o,od=some o:=by
   have z:=hI.dict
   rw[hdi]at z;cases od with
   |none=>exact z.elim
   |some o=>exact⟨o,rfl⟩
  obtain⟨o,rfl⟩:=hod;refine aXZ Z.ex I2.kIn hI hdi Z.sa Z.mro hn n wi (by rw[Ac,sizeLine_eq];omega) λh' tk' ns sb=>?_
  have hd':∃o,h'.get? dx=some o:=let ⟨o,_,_,e',_⟩:=ns;⟨o,e'⟩
  have I3:=I2.write (x:=dx) (e:=dx) (o:=xdO dx ((f,y)::fs)) (h':=h') (t':=tk') (by rw[hdx];exact True.intro) (.inl rfl) (λb q hb z=>(sb.2 b hb).trans z) hd' (aXY ns (λg=>by
   rw[nN];split
   .exact ry
   .exact r g) (λg hg=>by
   by_cases z:g=f
   .rw[z];exact Al
   .refine Ak _ (wi g λz2=>hg ?_);show (if g=f then some u else mA g)=none
    rw[if_neg z];exact z2))
  exact⟨U,_,I3,q3⟩
def aJC(r:RelV v u):handedIn u=true:=by
 cases v<;>first|(obtain⟨_,rfl⟩:=(show ∃t,u=_ from r);rfl)|(cases r;rfl)
end
section
open PySem.W
def yU(K:Frag)(C:Addr)(bmB:List Value)(newId:String):Bool:=
 match K.lookup C with
 |some ⟨.type t,_,.cls c,sl⟩=>t == "type" && !c.hasDel&&nsOkIn K c.ns &&
  (match c.mro with|.ref C1::bm=>C1==C&&tailIn K bmB bm|_=>false)&&(match sl.toList with|[_,_,_,_,some (.builtin n),_]=>n==newId|_=>false)
 |_=>false
def bJ0{K:Frag}{bmB:List Value}{newId:String}(X:K.In h)(q:yU K C bmB newId=true):∃bm N nm qn bs hd sn sub ab col dd k0 k1 k2 k3 k5,h.get? C=some (excClassObj nm qn C N bs bm hd sn sub ab col dd k0 k1 k2 k3 k5 newId)/\OwnTail h bmB bm:=by
 unfold yU at q;split at q
 .rename_i t dd c sl ho
  simp only[Bool.and_eq_true,beq_iff_eq,Bool.not_eq_true']at q;obtain⟨⟨⟨⟨rfl,q1⟩,q2⟩,q3⟩,q4⟩:=q;split at q3
  .rename_i C1 bm hm
   obtain⟨rfl,q5⟩:C1=C/\tailIn K bmB bm=true:=by simpa only[Bool.and_eq_true,beq_iff_eq]using q3
   split at q4
   .rename_i k0 k1 k2 k3 n k5 hs
    obtain rfl:n=newId:=by simpa using q4
    obtain⟨nm,bs,mro,ns,qn,hd,sn,sub,ab,col,del⟩:=c;dsimp only at hm q1 q2;subst hm q1;obtain⟨l⟩:=sl;cases (show l=_ from hs);exact⟨bm,ns,nm,qn,bs,hd,sn,sub,ab,col,dd,k0,k1,k2,k3,k5,X _ _ ho,tail_of_in X q5⟩
   .cases q4
  .cases q3
 .cases q
section
variable {K:Frag} {bmB:List Value} {B newId initId:String}
def aQN{rest:List Value}{Q:Fin->Shared->Prop}(FB:ExcBaseFacts B newId initId bmB)(X:K.In s.heap)(hx:yU K C bmB newId=true)(hi:findIn K (.ref C) "__init__"=some (some (.ref f)))(hf:typeIn K (.ref f)=some (.type "function"))(hr:rest.length<=sizeLine)(hq:∀h' e,Heap.MadeExcOf s.heap h' e (.ref C) rest->wpAny (model prog w) A (call (.ref f) (.ref e::rest)) (λr s'=>r=.none/\Q (.done (.ret (.ref e))) s') E {s with heap:=h'}):wpAny (model prog w) A (Builtin.«type.__call__» ⟨.ref C::rest,[]⟩) Q E s:=by
 obtain⟨h,g,d,t,os⟩:=s;obtain⟨bm,N,nm,qn,bs,hd,sn,sub,ab,col,dd,k0,k1,k2,k3,k5,hC,Tl⟩:=bJ0 X hx;repeat (first|with_reducible refine wpAny_madeBy_exc hC ?_|with_reducible refine Fq hC ?_|wp_step)
 refine codeAny_call_builtin_code (Fh _ FB.quiet) (wpAny_check_new_subT FB Tl hC (codeAny_exc_new_subT FB Tl hC ?_ hr));show wpAny _ _ _ _ _ _
 generalize hh1:(h.push {cls:=.type "tuple",data:=.seq rest.toArray}).push {cls:=.ref C,data:=.fields #[.ref h.objs.size,.none,.none,.none,.bool false,.none]}=h1;have kp:∀b o,h.get? b=some o->h1.get? b=some o:=λb o e=>by rw[<-hh1];exact Ad _ (Ad _ e)
 have bT:h1.get? (h.objs.size+1)=some {cls:=.ref C,data:=.fields #[.ref h.objs.size,.none,.none,.none,.bool false,.none]}:=by rw[<-hh1];heap_get
 have X1:=X.keeps kp
 have hC1:=kp _ _ hC
 have hcC:(Value.ref C::bm).contains (.ref C)=true:=by simp
 unfold isInstance;repeat (first|(with_reducible refine wpAny_isSubtype_exc hC1 ?_;rw[hcC])|with_reducible refine Fq bT ?_|wp_step)
 show wpAny _ _ (typeLookup (.ref C) _) _ _ _
 refine(looks_findIn X1 hi).here (s:=⟨h1,g,d,t,os⟩) (Bv (Aa ?_));unfold bindSpecial;refine Aa ((looks_typeIn X1 hf).here (s:=⟨h1,g,d,t,os⟩) ?_);rw[if_pos (by decide)]
 refine Ae (Aa (Cg (hq h1 (h.objs.size+1) ⟨kp,Ft (Hj _),h.objs.size,bT,Ft (Ai _),?_⟩) (λr s' hr=>?_) λ_ _ z=>z))
 .rw[<-hh1];exact Ad _ (Heap.get?_push_at rfl rfl)
 .obtain⟨rfl,z⟩:=hr
  wp_walk
  exact z
def aJ5{rest:List Value}{Q:Q2}(FB:ExcBaseFacts B newId initId bmB)(X:K.In s.heap)(hx:yU K C bmB newId=true)(hi:findIn K (.ref C) "__init__"=some (some (.ref f)))(hf:typeIn K (.ref f)=some (.type "function"))(hr:rest.length<=sizeLine)(hq:∀h' e,Heap.MadeExcOf s.heap h' e (.ref C) rest->wpAny (model prog w) (A.under (.builtin "type.__call__" ⟨.ref C::rest,[]⟩)) (call (.ref f) (.ref e::rest)) (λr s'=>r=.none/\Q (.ref e) s') E {s with heap:=h'}):wpAny (model prog w) A (call (.ref C) rest) Q E s:=by
 have X0:=X
 obtain⟨h,g,d,t,os⟩:=s;obtain⟨bm,N,nm,qn,bs,hd,sn,sub,ab,col,dd,k0,k1,k2,k3,k5,hC,Tl⟩:=bJ0 X hx;have c1:=tc_lookup
 have c2:=tc_bind (.ref C)
 have c3:(⟨h,g,d,t,os⟩:Shared).TypeIs (.ref C) "type" := ⟨_,hC,rfl⟩
 refine Fi (codeAny_of_tree ?_);show wpAny _ _ (callAny (.ref C) _) _ _ _
 repeat (any_goals (first|with_reducible refine Fq hC ?_|assumption|wp_step))
 exact⟨rfl,codeAny_call_builtin_at (Fh _ (by decide +kernel)) entry_typeCall (wpAny_check_type_call_sub hC (aQN FB X0 hx hi hf hr λh' e hm=>hq h' e hm))⟩
def xW{x:Sem Value}{Q:Flow->Shared->Prop}(hh:A.handled=hvO ch)(h:wpAny (model prog w) A x (λv s1=>∃e oe vs bm N nm qn bs hd sn sub ab col dd k0 k1 k2 k3 k5,v=.ref e/\s1.heap.get? C=some (excClassObj nm qn C N bs bm hd sn sub ab col dd k0 k1 k2 k3 k5 newId)/\bm.contains (.type "BaseException")=true/\
 s1.heap.get? e=some oe/\oe.cls=.ref C/\oe.data=.fields vs/\vs[1]?=some .none/\vs[2]?=some .none/\e∉ch/\Chn s1.heap ch/\∀h',Heap.SameBut e s1.heap h'->h'.get? e=some (oe.mapFields (·.setIfInBounds 2 (hvV ch)))->E (.ref e) {s1 with heap:=h'}) E s):wpAny (model prog w) A (raiseStmt env (some x) none) Q E s:=by
 unfold raiseStmt;refine Aa (Cg h (λv s1 q=>?_) λ_ _ z=>z);obtain⟨e,oe,vs,bm,N,nm,qn,bs,hd,sn,sub,ab,col,dd,k0,k1,k2,k3,k5,rfl,hC,hb,he,hc,hda,h1,h2,hne,hcn,hE⟩:=q;obtain⟨hp,g,d,tk,os⟩:=s1;obtain⟨oc,odi,oda,osl⟩:=oe;dsimp only at hc hda;subst hc hda;have hcB:(Value.ref C::bm).contains (.type "BaseException")=true:=by rw[List.contains_cons,hb,Bool.or_true]
 repeat (first|with_reducible refine Fq hC ?_|with_reducible refine Fq he ?_|(with_reducible refine wpAny_isSubtype_exc hC ?_;rw[hcB])|wp_step)
 rw[h1];refine Ae ?_;rw[if_neg (show ¬((Value.none != Value.none)=true) by decide)]
 exact Ae (eY (s:=⟨hp,g,d,tk,os⟩) hh hne hcn he rfl h2 hE)
end
def del(H:Hp)(a:Addr):Hp:=λb=>if b=a then none else H b
def eB(h:b≠a):del H a b=H b:=if_neg h
def bQS{o:HO}:del (upd H a o) a=del H a:=by
 funext b
 unfold del;split
 .rfl
 .rename_i n
  exact aG n
def Lnk.get:∀ {ch:List Addr} {a:Addr},Lnk h ch->a∈ch->∃o,h.get? a=some o
 |_::_,a,⟨⟨o,_,e,_⟩,l⟩,ha=>by
  rcases Av.mp ha with rfl|z
  .exact⟨o,e⟩
  .exact Lnk.get l z
def rV:del H a a=none:=if_pos rfl
def Inv.drop{φ:Heap->Prop}(I:Inv X y3 U H s)(e:H ea=some (.ext φ)):Inv X y3 U (del H ea) s:=by
 have ne:∀b u,H b=some u->(∀ψ,u≠.ext ψ)->b≠ea:=λb u q n z=>by
  rw[z,e]at q;cases q;exact n φ rfl
 refine I.re (λb n=>?_) (λb xs q=>?_) (λb o u q=>?_) (λb ps q=>?_) λb o q=>?_
 .unfold del;split
  .rfl
  .exact n
 .have q1:=I.base.tups b xs q
  rw[eB (ne b _ q1 λ_ z=>nomatch z)]
  exact q1
 .have q1:=I.base.frzs b o u q
  rw[eB (ne b _ q1 λ_ z=>nomatch z)]
  exact q1
 .obtain⟨m,q1⟩:=I.base.tbls b ps q;exact⟨m,by rw[eB (ne b _ q1 λ_ z=>nomatch z)];exact q1⟩
 .have hb:b≠ea:=λz=>by rw[z,rV]at q;cases q
  rw[eB hb]at q;exact(I.hok b o q).stay (λ_ _ _ z=>z) (λc z=>by rw[eB (ne c _ z λ_ z=>nomatch z)];exact z) λc xs z=>by rw[eB (ne c _ z λ_ z=>nomatch z)];exact z
def Inv.freNew(I:Inv X y3 U H s)(hex:X.ex=[])(h:s.heap.get? a=none):Fre X y3 a where
 s0:=by
  cases z:X.s₀.heap.get? a with
  |none=>rfl
  |some o=>
   obtain⟨o',z'⟩:=I.base.there a o z (by rw[hex];simp)
   rw[h]at z';cases z'
 loc:=λz=>by
  obtain⟨m,⟨o,_,_,g,_⟩,_⟩:=I.loc;rw[<-z,h]at g;cases g
 cell:=λx c e z=>by
  obtain⟨_,o,g,_⟩:=I.cell x c e;rw[z,h]at g;cases g
 pin:=λp hp z=>by
  have g:=(I.pin p hp).1
  rw[z,h]at g;cases g
def bXU(P:Program)(w:World)(K:W.Frag)(mg:Str->Option Value)(base:Heap)(k:Nat)(C:Addr)(ps:List Str)(sp:Sp):Prop:=
 ∃(f:Addr) (fd:FuncData),FnOk P w K mg base CX0 k f fd ps sp/\findIn K (.ref C) "__init__"=some (some (.ref f))/\typeIn K (.ref f)=some (.type "function")/\Binds K fd ps []
structure XmK (K:Frag) (C:Addr):Prop where
 obj:yU K C [.type "ValueError",.type "Exception",.type "BaseException",.type "object"] "ValueError.__new__"=true
 kp:keepIn K (.ref C)=true
def wG(C:Addr)(sp:Sp)(E:XK)(ta:TA):TS:=λ_ U H=>ta U H λvs H1=>vs.length<=sizeLine/\∀ea,H1 ea=none->sp (.ref ea::vs) (upd H1 ea (cZ ea C none)) (λv H2=>v=.non/\∃d,H2 ea=some (cZ ea C d)/\E (.ref C) d (del H2 ea)) E0
section
variable {E:XK} {es:List Expr} {np:Pos} {k:Nat} {ps:List Str}
def aQR{s1:Shared}{vs:List V}{us:List Value}{G:Addr->VK}{R:Q2}(hex:X.ex=[])(M:XmK X.K C)(c:bXU X.prog X.w X.K X.mg X.base k C ps sp)(hr:Room (k+1) X.A)(hc:X.calm=true)(I1:Inv X y3 U H1 s1)(r:Vals vs us)(hl:vs.length<=sizeLine)(q:∀ea,H1 ea=none->sp (.ref ea::vs) (upd H1 ea (cZ ea C none)) (G ea) E0)(hR:∀ea H2 s2,X.s₀.heap.get? ea=none->Inv X y3 U H2 s2->(G ea) .non H2->R (.ref ea) s2)(hG:∀ea v H2,G ea v H2->v=.non):wpAny (model X.prog X.w) X.A (call (.ref C) us) R X.xe s1:=by
 obtain⟨f,fd,F,hi,hf,hb⟩:=c;refine aJ5 PySem.F.excBase_ValueError I1.kIn M.obj hi hf (by rw[<-r.length];exact hl) λh' ea hm=>?_
 obtain⟨t,g,_,_⟩:=hm.there;have hole:H1 ea=none:=I1.hok.hole hm.new
 have fr:=I1.freNew hex hm.new
 have I2:=(I1.kept (t':=s1.toks) hm.keeps).adopt (o:=cZ ea C none) fr hole (qS g rfl rfl rfl rfl rfl rfl)
 have r2:Vals (V.ref ea::vs) (Value.ref ea::us):=.cons rfl r
 have hq:=q ea hole
 have hl2:((Value.ref ea::us)++[]).length=ps.length:=by rw[Cf,<-r2.length];exact F.len _ _ _ _ hq
 have hbb:=hb {s1 with heap:=h'} (Value.ref ea::us) I2.kIn hl2
 rw[Cf]at hbb;refine Fi (Ex (F.run _ X.stack {s1 with heap:=h'} _ ⟨Value.ref ea::us,[]⟩ (Value.ref ea::us) (V.ref ea::vs) _ E0 (hr.make C us []) ((I2.env0 hc).make C us []) hbb r2 hq) λrr s' hq'=>?_)
 cases rr with
 |error e=>exact False.elim hq'
 |ok fl=>
  cases fl with
  |ret u=>
   obtain⟨v,H',I3,rv,q3⟩:=I2.after hq';have ev:=hG ea v H' q3
   subst ev;exact⟨rv,hR ea H' s' fr.s0 I3 q3⟩
  |next=>exact False.elim hq'
  |brk=>exact False.elim hq'
  |cont=>exact False.elim hq'
def yI(hR:cZ7 X E)(hex:X.ex=[])(hc:X.calm=true)(hg:Gl X x)(hm:X.mg x=some (.ref C))(M:XmK X.K C)(c:bXU X.prog X.w X.K X.mg X.base k C ps sp)(hr:Room k' X.A)(hkk:k+1<=k')(ha:PA X (e::es) ta)(hd:(x==("__debug__" : Str))=false:=by decide)(he:starEach (e::es) X.env=(false,eval e X.env)::starEach es X.env:=by rfl)(hpl:(backTo cpos (starEach es X.env)).any (·.1)=false:=by rfl):PS X (.Raise (some (.Call (.Name x np) (e::es) [] cpos)) none pos) (wG C sp E ta):=by
 intro y3 s U H D I h;obtain⟨ch,hh,hsl,hsx⟩:=I.ok.hd hc;have hcv:cvO X.A.handled=hvV ch:=by rw[hh,aJ8]
 rw [arm_exec_Raise];simp only [evalOpt,Option.map];refine Aa (wpAny_standAt (xW (C:=C) (newId := "ValueError.__new__") hh ?_));refine Aa (Cg (Q:=λv s1=>∃ e oe vs bm N nm qn bs hd sn sub ab col dd k0 k1 k2 k3 k5,v=.ref e/\s1.heap.get? C=some (excClassObj nm qn C N bs bm hd sn sub ab col dd k0 k1 k2 k3 k5 "ValueError.__new__")/\bm.contains (.type "BaseException")=true/\
     s1.heap.get? e=some oe/\oe.cls=.ref C/\oe.data=.fields vs/\vs[1]?=some .none/\vs[2]?=some .none/\e∉ch/\Chn s1.heap ch/\∀h',Heap.SameBut e s1.heap h'->h'.get? e=some (oe.mapFields (·.setIfInBounds 2 (hvV ch)))->X.xe (.ref e) {s1 with heap:=h'}) ?_ (λv s3 h3=>Aa (wpAny_standAt (Ae h3))) λ_ _ z=>z)
 refine Ej (eN I hg hm ?_ hd);refine Gi (h₀:=X.base) I.ok.mod.kin M.kp (thn (ha cpos y3 s U H _ I h) λus s1 ⟨vs,H1,I1,r,hl,q⟩=>⟨I1.kIn,?_⟩) he hpl;refine aQR hex M c (hr.mono hkk) hc I1 r hl q (λea H' s' s0 I3 q3=>?_) λea v H2 z=>z.1;obtain⟨_,d,e2,q3⟩:=q3;obtain⟨oe,ws,t0,g2,hc2,hdi,hda,h1,h0,c2⟩:=(I3.hok ea _ e2).1;obtain⟨bm,N,nm,qn,bs,hdct,sn,sub,ab,col,dd,k0,k1,k2,k3,k5,hC,Tl⟩:=bJ0 I3.kIn M.obj;have hns:ea∉ch:=λz=>by
  obtain⟨o,g⟩:=hsl.chn.2.get z;rw[s0]at g;cases g
 refine⟨ea,oe,ws,bm,N,nm,qn,bs,hdct,sn,sub,ab,col,dd,k0,k1,k2,k3,k5,rfl,hC,Tl.hasType PySem.F.excBase_ValueError.hasBase,g2,hc2,hda,h1,c2,hns,(I3.softL hsl hsx).chn,λh' sb g=>?_⟩;have dm:=Cz hda (·.setIfInBounds 2 (hvV ch))
 have I4:=I3.write (x:=ea) (e:=ea) (o:=eJ ea (.ref C) d) (h':=h') (t':=s'.toks) (by rw[e2];exact True.intro) (.inl rfl) (λb u hb z=>(sb.2 b hb).trans z) ⟨_,g⟩
  ⟨⟨_,_,g,by rw[Fo];exact hc2,by rw[jC];exact hdi,dm⟩,⟨_,g⟩,λh1 h2 ⟨o,ws,g,q⟩ k=>⟨o,ws,k o g,q⟩⟩
 have I5:=I4.drop aB
 rw[bQS]at I5;exact hR y3 U (del H' ea) {s' with heap:=h'} ea _ _ I5 g dm ((Array.getElem?_setIfInBounds_ne (by decide)).trans h1) (by rw[hcv];simp[(Array.getElem?_eq_some_iff.mp c2).1]) rV s0 (by rw[Obj.cls_mapFields,jC,hc2,hdi];exact q3)
end
def cZK(st:Stmt)(j:Nat):Stmt:=
 match st with
 |.ClassDef _ _ _ body _ _ _ _ _ _ _=>body.getD j (.Pass ⟨0,0,0,0⟩)
 |s=>s
section
variable {T:Addr} {D':Ends} {E:XK} {f:Str}
def bQP(h:ta U H λvs H1=>uR K vs H1 Q):aJF K ta U H Q:=h
def aXE(h:ta U H λvs H1=>vs.length<=sizeLine/\∀ea,H1 ea=none->sp (.ref ea::vs) (upd H1 ea (cZ ea C none)) (λv H2=>v=.non/\∃d,H2 ea=some (cZ ea C d)/\E (.ref C) d (del H2 ea)) E0):wG C sp E ta D' U H:=h
def cXH(h:tv U H λy H1=>te U H1 λx H2=>∃ea C T,x=.ref ea/\XcK K C T/\W.findIn K (.ref C) f=some none/\
 ((H2 ea=some (cZ ea C none)/\∀dx,H2 dx=none->D'.nx U (upd (upd H2 ea (cZ ea C (some dx))) dx (xdO dx [(f,y)])))\/
  (∃dx fs,H2 ea=some (cZ ea C (some dx))/\H2 dx=some (xdO dx fs)/\fs.length<100/\D'.nx U (upd H2 dx (xdO dx ((f,y)::fs)))))):bZ7 K te tv f D' U H:=h
end
end
section
open PySem.AutoSeq1 (wpAny_loadPart')
def dQR{i:Int}(h:Q (.int (-i)) H):cQQ (.int i) H Q:=h
end
section
variable {a b:Expr} {ta tb:TE} {rest:List Expr}
def aJ9(f:Nat->Option V)(hl:z.length<sizeLine)(hs:∀(i:Nat) c Hc (A:VK) (B:Hp->Prop),z.cps.toList[i]?=some c->Same H1 Hc->(∀Hd,Same Hc Hd->match f c with|some y=>A y Hd|none=>B Hd)->
 g (.str ⟨#[c]⟩) U0 Hc λU2 H2=>Wk U0 U2/\tests U2 H2 λb H3=>if b=true then te U2 H3 A else B H3)(fin:∀D Hd,H1 D=none->Same H1 Hd->Hd D=some (.lst (z.cps.toList.filterMap f))->Q (.ref D) Hd):eT g tests te U0 Q (Its z) H1:=by
 intro D hD;have hzz:z.cps.size=z.length:=rfl
 have hz2:z.cps.toList.length=z.length:=by simp[Str.length]
 refine⟨λi m Hc=>m=z.length-i/\i<=z.length/\Same H1 Hc/\Hc D=some (.lst ((z.cps.toList.take i).filterMap f)),⟨z.length,by simp,Nat.zero_le _,aF hD _,by rw[aB];rfl⟩,?_⟩
 rintro i m Hc ⟨rfl,hi,sm,hDc⟩;by_cases hlt:i<z.length
 .refine .inr ⟨hlt,λv H' y=>?_⟩;obtain⟨rfl,c,hz,rfl⟩:=y;have hx:z.cps.toList[i]?=some c:=by rw[Cb];exact hz
  refine hs i c H' _ _ hx sm λHd sd=>?_;have hDd:Hd D=some (.lst ((z.cps.toList.take i).filterMap f)):=sd _ _ hDc
  have sH:Same H1 Hd:=sm.trans sd
  cases e:f c with
  |some y=>
   refine⟨_,hDd,?_,z.length-(i+1),by omega,rfl,hlt,λb o hb=>?_,?_⟩
   .have:=Ea f (z.cps.toList.take i)
    rw[Bt]at this;omega
   .rw[aG (aY hb hD)];exact sH b o hb
   .rw[aB,Bn,hx,Ci];show some (HO.lst (_++[y]))=some (HO.lst (_++[c].filterMap f))
    rw[Eb e,El]
  |none=>
   refine⟨z.length-(i+1),by omega,rfl,hlt,sH,?_⟩
   rw[hDd,Bn,hx,Ci];show some (HO.lst _)=some (HO.lst (_++[c].filterMap f))
   rw[Gc e,El,Cf]
 .have e:i=z.length:=by omega
  subst e;refine .inl ⟨Ai _,fin D Hc hD sm ?_⟩;rw[hDc,Dg (by omega)]
end
def bJ9(neg:Bool):R2:=λx y H Q=>∃a ov,y=.ref a/\DGet H a x ov/\Q (.bl (if neg then !ov.isSome else ov.isSome)) H
def cJ2(hu:X.A.units+1<cLine):OpR X (compareOp .In) (bJ9 false):=by
 intro y3 s U H x y v u Q I rx ry h;obtain⟨a,ov,rfl,g,q⟩:=h;cases ry;exact cJQ hu I g rx λs3 I3=>⟨.bl ov.isSome,H,I3,rfl,q⟩
def aXN(hu:X.A.units+1<cLine):OpR X (compareOp .NotIn) (bJ9 true):=by
 intro y3 s U H x y v u Q I rx ry h;obtain⟨a,ov,rfl,g,q⟩:=h;cases ry;exact bX4 hu I g rx λs3 I3=>⟨.bl (!ov.isSome),H,I3,rfl,q⟩
def bJM{neg:Bool}(e:Rd H a (.dK kvs))(h:Q (.bl (if neg then !(bF kvs (Sum.inr z)).isSome else (bF kvs (Sum.inr z)).isSome)) H):bJ9 neg (.str z) (.ref a) H Q:=⟨a,_,rfl,.inl ⟨kvs,.inr z,e,rfl,rfl⟩,h⟩
def mQ{f:Nat->Option V}(h:f i=some y):(List.range (i+1)).filterMap f=(List.range i).filterMap f++[y]:=by
 rw[Dp,Ci,Eb h,El]
def nB{f:Nat->Option V}(h:f i=none):(List.range (i+1)).filterMap f=(List.range i).filterMap f:=by
 rw[Dp,Ci,Gc h,El,Cf]
def sN{xs:List V}(f:Nat->Option V)(ha:rdL H1 a=some xs)(hl:xs.length<sizeLine)(hs:∀(i:Nat) x Hc (A:VK) (B:Hp->Prop),xs[i]?=some x->Same H1 Hc->(∀y,f i=some y->∀Hd,Same Hc Hd->A y Hd)->(f i=none->∀Hd,Same Hc Hd->B Hd)->
 g x U0 Hc λU2 H2=>Wk U0 U2/\tests U2 H2 λb H3=>if b=true then te U2 H3 A else B H3)(fin:∀D Hd,H1 D=none->Same H1 Hd->Hd D=some (.lst ((List.range xs.length).filterMap f))->Q (.ref D) Hd):eT g tests te U0 Q (Itl K a) H1:=by
 refine jT (n:=xs.length) (λD i ys Hc=>Same H1 Hc/\ys=(List.range i).filterMap f) hl (λD hD=>⟨aF hD _,rfl⟩)
  (λD i ys Hc _ r h=>⟨xs,xs[i],aU (aJ r.1 ha),by simp[h]⟩) (λD ys Hc _ r=>⟨xs,aU (aJ r.1 ha),Nat.le_refl _⟩) ?_ ?_
 .rintro D i ys Hc x H' A B hD hi ⟨sm,rfl⟩ hDc ⟨rfl,hz⟩ ha' hb;refine hs i x H' A B (hz xs (aU (aJ sm ha))) sm (λy hy Hd sd=>?_) (λhn Hd sd=>?_)
  .exact ha' _ _ (sd _ _ hDc) ⟨bJ hD (sm.trans sd),(mQ hy).symm⟩
  .exact hb _ (sd _ _ hDc) ⟨sm.trans sd,(nB hn).symm⟩
 .rintro D ys Hc hD ⟨sm,rfl⟩ hDc _;exact fin D Hc hD sm hDc
section
variable {jt dq:Addr} {n0:Nat} {en:Array DictEntry} {od:Obj}
def aZ4{Q:Option Value->Shared->Prop}(hit:s.heap.IsKeyIter jt dq n0 en.size ep)(hod:s.heap.get? dq=some od)(hdd:od.data=.dict en ep)(hi:n0<en.size)(hq:∀h',h'.IsKeyIter jt dq (n0+1) en.size ep->Heap.SameBut jt s.heap h'->Q (some en[n0].key) {s with heap:=h'}):wpAny (model prog w) A (pyNext (.ref jt)) Q E s:=by
 obtain⟨oi,hoi,ci,di⟩:=id hit;have ow:Builtin.Dict_items.ownsTuple "dict_keyiterator"=false:=by decide
 have tI:=hit.typeIs
 unfold pyNext;refine Aa (De (wpAny_callSpecial?_slot (name:=Str.ofString "__next__") tI Ef (Br Ef tI F.entry_dict_keyiterator_next ?_ (F.args_dict_keyiterator_next_1 _))));refine Aa (Ae (Aa (Aa ?_)));refine Aa (Ec tI (Ae (Aa (wpAny_fieldsOf hoi di ?_))));simp only[ow,Bool.false_eq_true,if_false];show wpAny _ _ (if (Value.ref dq==Value.none)=true then _ else _) _ _ s
 rw[if_neg (by exact An)]
 refine Aa (Ae (Aa (wpAny_dictEntries hod hdd ?_)));rw[if_neg (by simp)]
 refine Aa (Ae (Aa (wpAny_dictEpoch hod hdd ?_)));rw[if_neg (by simp)]
 refine Ae ?_;simp only[show ¬((n0:Int)<0) by omega,if_false,Int.toNat_natCast,Array.getElem?_eq_getElem hi]
 refine Aa (Aa (Ec tI (Ae ?_)));refine Aa (wpAny_isOneOf_keyiter tI ?_);show wpAny _ _ (setField (.ref jt) 1 (rawInt ((n0:Int)+1)) >>= _) _ _ s
 have nx:(s.heap.update jt (Obj.mapFields (·.setIfInBounds 1 (rawInt ((n0:Int)+1))))).IsKeyIter jt dq (n0+1) en.size ep:=
  ⟨_,Heap.get?_update_self _ hoi (Obj.isFreed_of_fields (Obj.data_mapFields di _)),(Obj.cls_mapFields ..).trans ci,by rw[Obj.data_mapFields di];simp[rawInt]⟩
 refine wpAny_bind (wpAny_setField hoi di (by simp) (wpAny_bind (wpAny_holding (wpAny_bind (wpAny_isOneOf_keyiter (s:={s with heap:=s.heap.update jt (Obj.mapFields (·.setIfInBounds 1 (rawInt ((n0:Int)+1))))}) nx.typeIs ?_)))))
 show wpAny _ _ (pure en[n0].key) _ _ _
 exact Ae (Ae ⟨_,rfl,Ae (hq _ nx (Ce ..))⟩)
end
def ItT(a:Addr)(o:Obj)(kvs:List (List Key×V)):It:=⟨λi H=>H a=some (.frz o (.dT kvs))/\i<kvs.length,λi H x H'=>H'=H/\∃kv b,kvs[i]?=some kv/\x=.ref b/\H b=some (.tup (kv.1.map kV)),λi H=>H a=some (.frz o (.dT kvs))/\kvs.length=i⟩
def qG{kvs:List (List Key×V)}(I:Inv X y3 U H s)(ha:H a=some (.frz o (.dT kvs)))(hep:∃es,o.data=.dict es ep):kvs.length<=sizeLine/\(a==sysModules)=false/\∃xs es,KT H kvs xs/\s.heap.get? a=some o/\o.data=.dict es ep/\o.ExactDict/\es.toList=xs.map (entryOfKey (tupleKind (aR X.prog X.w))):=by
 have ok:s.heap.get? a=some o/\ObjOk X.prog X.w H s.heap a (.dT kvs):=I.hok a _ ha
 obtain⟨e,z,hd,xs,rel,o',es',ep',ho',hx,hdat,he,_⟩:=ok;rw[e]at ho';cases ho';obtain⟨es,hes⟩:=hep;have q:=hdat
 rw[hes]at q;cases q;exact⟨z,hd,xs,_,rel,e,hdat,hx,he⟩
def uG(a it:Addr)(o:Obj)(kvs:List (List Key×V))(ep:Nat)(hep:∃es,o.data=.dict es ep):Turn P w K tg (ItT a o kvs) [it] it (λi h=>h.IsKeyIter it a i kvs.length ep) where
 mem:=by simp
 obj:=λi h st b hb=>by
  obtain⟨o,e,c,d⟩:=st;rw[Ap.mp hb];exact⟨o,e,λv z=>by rw[d]at z;cases z⟩
 keep:=λi h h' st k=>let ⟨o,ho,r⟩:=st;⟨o,k it (by simp) o ho,r⟩
 item:=by
  intro X hP hw hK hc i y3 s U H E I hf st hg;subst hP hw hK;obtain⟨ha,hi⟩:=hg;obtain⟨z,hd,xs,es,rel,ho,hdat,hx,he⟩:=qG I ha hep;have hlv:=rel.length
  have hsz:es.size=xs.length:=by rw[<-Ay,he,Ac]
  obtain⟨f0,f1,f2,f3,f4,f5⟩:=hf it (by simp)
  obtain⟨⟨k,b,v⟩,hxi,hk1,hk2,_⟩:=lM rel (Ab hi);have hie:i<es.size:=by omega
  have hkey:es[i].key=.ref b:=by
   have q:es[i]?=some (entryOfKey (tupleKind (aR X.prog X.w)) (k,b,v)):=by rw[<-Cb,he,Am,hxi];rfl
   rw[Aj hie]at q;rw[Bh q];rfl
  refine aZ4 (en:=es) (by rw[hsz,<-hlv];exact st) ho hdat hie λh' st' sb=>?_
  rw[hkey];have I1:Inv X y3 U H {s with heap:=h'}:=I.turned (t':=s.toks) (λb o hb e=>(sb.2 b hb).trans e) f0 f1 f3 f4 f5
  obtain⟨oi,e,c,d⟩:=id st';refine⟨.ref b,rfl,nV (s:={s with heap:=h'}) e c d (by decide) ⟨.ref b,H,I1,rfl,⟨rfl,kvs[i],b,Ab hi,rfl,hk2⟩,?_,λb hb=>(hf b hb).1⟩⟩
  rw[hlv,<-hsz];exact st'
 done:=by
  intro X hP hw hK hc i y3 s U H E I hf st hg;subst hP hw hK;obtain⟨ha,hi⟩:=hg;obtain⟨z,hd,xs,es,rel,ho,hdat,hx,he⟩:=qG I ha hep;have hlv:=rel.length
  have hsz:es.size=xs.length:=by rw[<-Ay,he,Ac]
  obtain⟨f0,f1,f2,f3,f4,f5⟩:=hf it (by simp)
  obtain⟨ch,hh,hcn,hnx⟩:=I.soft hc;exact nU (en:=es) hh (hnx it f3) hcn (by rw[hsz,<-hlv];rw[<-hi]at st;exact st) ho hdat λh' eb=>⟨rfl,I.turned (t':=s.toks) (λb o hb e=>eb b o hb e) f0 f1 f3 f4 f5⟩
 self:=λ_ _ _ _ _ st h=>wpAny_pyIter_keyiter st h
section
variable {dq:Addr} {en:Array DictEntry} {od:Obj}
def yP{Q:Q2}(hs:(dq==sysModules)=false)(hod:s.heap.get? dq=some od)(hx:od.ExactDict)(hdd:od.data=.dict en ep)(hq:Q (.ref s.heap.objs.size) {s with heap:=s.heap.push {cls:=.type "dict_keyiterator",data:=.fields #[.ref dq,.int 0 0,.int en.size 0,.int ep 0]}}):wpAny (model prog w) A (pyIter (.ref dq)) Q E s:=by
 have tD:s.TypeIs (.ref dq) "dict" := ⟨od,hod,hx.1⟩
 refine wpAny_pyIter_slot tD F.slot_dict_iter (Br F.slot_dict_iter tD F.entry_dict_iter ?_ (F.args_dict_iter_1 _));unfold Builtin.«dict.__iter__» ;refine Aa ?_;unfold Builtin.Dict.dictSlotNone ;refine Aa (wpAny_notOrdered_dict tD ?_);show wpAny _ _ (pure (Value.ref dq)) _ _ s
 refine Ae ?_;show wpAny _ _ (Builtin.Dict.showsAll dq >>= _) _ _ s
 unfold Builtin.Dict.showsAll;rw[if_neg (by rw[hs];decide)]
 refine Aa (Ae (Aa (wpAny_dictEntries hod hdd (Aa (wpAny_dictEpoch hod hdd ?_)))));refine Aa (Ey (Ae ⟨_,rfl, "dict_keyiterator",_,⟨_,Aw _ rfl,rfl⟩,F.slot_dict_keyiterator_next.lookup,(?_:_)⟩))
 simpa [rawInt]using hq
end
def yO{kvs:List (List Key×V)}(I:Inv X y3 U H s)(ha:H a=some (.dT kvs)):∃o es ep,s.heap.get? a=some o/\o.data=.dict es ep:=by
 obtain⟨_,_,xs,_,o,es,ep,ho,_,hd,_⟩:=bZ5 I.hok ha;exact⟨o,es,ep,ho,hd⟩
def aQZ{kvs:List (List Key×V)}(I:Inv X y3 U H s)(ha:H a=some (.frz o (.dT kvs))):∃ep,∃es,o.data=.dict es ep:=by
 have ok:s.heap.get? a=some o/\ObjOk X.prog X.w H s.heap a (.dT kvs):=I.hok a _ ha
 obtain⟨e,_,_,xs,_,o',es,ep,ho,_,hd,_⟩:=ok;rw[e]at ho;cases ho;exact⟨ep,es,hd⟩
def iR(H:Hp)(a:Addr)(R:Obj->List (List Key×V)->Hp->Prop):Prop:=(∃kvs,H a=some (.dT kvs)/\∀o,R o kvs (upd H a (.frz o (.dT kvs))))\/∃o kvs,H a=some (.frz o (.dT kvs))/\R o kvs H
def aZF{R:Obj->List (List Key×V)->Hp->Prop}(I:Inv X y3 U H s)(h:iR H a R):∃o kvs H' ep,Inv X y3 U H' s/\H' a=some (.frz o (.dT kvs))/\(∃es,o.data=.dict es ep)/\R o kvs H':=by
 rcases h with⟨kvs,ha,q⟩|⟨o,kvs,ha,q⟩
 .obtain⟨o,es,ep,ho,hd⟩:=yO I ha;exact⟨o,kvs,_,ep,I.freeze ha rfl ho,aB,⟨es,hd⟩,q o⟩
 .obtain⟨ep,es,hd⟩:=aQZ I ha;exact⟨o,kvs,H,ep,I,ha,⟨es,hd⟩,q⟩
def aXM(tl:TE):TI:=λU H R=>tl U H (dX λa H1=>iR H1 a λo kvs H2=>R (ItT a o kvs) H2)
def iU(hl:PE X l tl):PI X tg l (aXM tl):=by
 intro y3 s U H R I h;refine thn (hl y3 s U H _ I h) λv s1 ⟨x,H1,I1,r1,q1⟩=>?_;unfold dX at q1;split at q1
 .cases r1;rename_i a0 _
  obtain⟨o,kvs,H2,ep,I2,ha,hep,q⟩:=aZF I1 q1;obtain⟨z,hd,xs,es,rel,ho,hdat,hx,he⟩:=qG I2 ha hep;have hsz:es.size=kvs.length:=by rw[<-Ay,he,Ac,rel.length]
  refine yP hd ho hx hdat ?_;refine⟨s1.heap.objs.size,[s1.heap.objs.size],_,_,H2,rfl,I2.kept (t':=s1.toks) λb o e=>Ad _ e,uG a0 _ o kvs ep hep,⟨_,Aw _ rfl,rfl,by rw[hsz];rfl⟩,λb hb=>?_,q⟩
  rw[Ap.mp hb];exact I2.fpOk (Ai _) (I2.hok.fresh (Ai _))
 .exact q1.elim
def bZ6:V->List V->Hp->VK->Prop:=λx vs H Q=>∃a y ov,x=.ref a/\vs=[y]/\DGet H a y ov/\Q (ov.getD .non) H
section
variable {kvs:List (List Key×V)} {k:List Key}
def aXU(Pv:Nat->St->Hp->Prop)(h0:Pv 0 U H)(hl:∀i U H,i<=kvs.length->Pv i U H->H a=some (.frz o (.dT kvs)))(hs:∀i kv b U H,kvs[i]?=some kv->H b=some (.tup (kv.1.map kV))->Pv i U H->g (.ref b) U H λU2 H2=>tb {D with nx:=Pv (i+1),ct:=Pv (i+1),bk:=D.nx} U2 H2)(hd:∀U H,Pv kvs.length U H->D.nx U H):nD (ItT a o kvs) g tb D U H:=by
 refine⟨λi m U H=>m=kvs.length-i/\i<=kvs.length/\Pv i U H,⟨kvs.length,by simp,Nat.zero_le _,h0⟩,?_⟩
 rintro i m U H ⟨rfl,hi,p⟩;have hr:=hl i U H hi p
 by_cases hlt:i<kvs.length
 .refine .inr ⟨⟨hr,hlt⟩,Pv (i+1),λU' H' p'=>⟨kvs.length-(i+1),by omega,rfl,hlt,p'⟩,λx H' y=>?_⟩
  obtain⟨rfl,kv,b,hx,rfl,hb⟩:=y;exact hs i kv b U _ hx hb p
 .have e:i=kvs.length:=by omega
  subst e;exact .inl ⟨⟨hr,rfl⟩,hd U H p⟩
def aXJ(h:tl U H (dX λa H1=>iR H1 a λo kvs H2=>R (ItT a o kvs) H2)):aXM tl U H R:=h
def qP{Rw:Obj->List (List Key×V)->Hp->Prop}(e:H a=some (.dT kvs))(h:∀o,Rw o kvs (upd H a (.frz o (.dT kvs)))):iR H a Rw:=.inl ⟨kvs,e,h⟩
def aXI{Rw:Obj->List (List Key×V)->Hp->Prop}(e:H a=some (.frz o (.dT kvs)))(h:Rw o kvs H):iR H a Rw:=.inr ⟨o,kvs,e,h⟩
def bX0(h:∀p,H p=none->Q (.ref p) (upd H p (.dT []))):aX9 U H Q:=h
def uC(e:Rd H a (.dT kvs))(eb:H b=some (.tup (k.map kV)))(l:bF kvs k=some v)(h:Q v H):cQC (.ref a) (.ref b) H Q:=⟨a,v,rfl,.inr ⟨kvs,k,b,e,rfl,eb,l.symm⟩,h⟩
def qQ(e:H a=some (.dT kvs))(eb:H b=some (.tup (k.map kV)))(l:kvs.length<sizeLine)(h:D.nx U (upd H a (.dT (bZ kvs k v)))):aX4 D U (.ref a) (.ref b) v H:=⟨a,_,rfl,.inr ⟨kvs,k,b,e,rfl,eb,l,rfl⟩,h⟩
def xR(e:Rd H a (.dT kvs))(eb:H b=some (.tup (k.map kV)))(h:Q ((bF kvs k).getD .non) H):bZ6 (.ref a) [.ref b] H Q:=⟨a,_,_,rfl,rfl,.inr ⟨kvs,k,b,e,rfl,eb,rfl⟩,h⟩
end
def aQK{Q:Int->Shared->Prop}(h:Q 0xFCA86420 {s with toks:=s.toks+1}):wpAny (model prog w) A (pyHash .none) Q E s:=by
 have tN:s.TypeIs .none "NoneType" := rfl
 unfold pyHash pyHashByItsType;refine Aa ?_;rw[cRoomFor,if_neg (by decide)]
 refine Ae (Aa (Ep tN F.slot_NoneType_hash.lookup ?_));show wpAny _ _ (if (some (Value.builtin "NoneType.__hash__")==some Value.none)=true then _ else _) Q E s
 rw[if_neg (by rw[beq_builtin_none];decide)]
 refine Aa (Ep tN F.slot_NoneType_hash.lookup ?_);show wpAny _ _ (callSpecialIfBoundUnlessNone? .none "__hash__" _ >>= _) Q E s
 refine Aa (wpAny_callSpecialIfBoundUnlessNone?_slot tN F.slot_NoneType_hash (Br F.slot_NoneType_hash tN F.entry_NoneType_hash (show wpAny _ _ (do ret (<-mkInt 0xFCA86420)) _ _ s from wpAny_ret_mkInt ?_) (F.args_NoneType_hash_1 _)))
 show wpAny _ _ (if (decide (-(2:Int)^63<=0xFCA86420)&&decide ((0xFCA86420:Int)<2^63))=true then _ else _) Q E _
 rw[if_pos (by decide)]
 exact Ae h
def aZD:Option Key->Value->Bool
 |none,.none=>true
 |none,_=>false
 |some k,v=>gS k v
def bQ{v:Value}(h:aZD none v=true):v=.none:=by
 cases v<;>first|rfl|(exact absurd h (by decide))|cases h
def gY{k:Key}{v:Value}(h:gS k v=true):v≠.none:=λz=>by
 rcases aZ h with⟨i,t,_,e⟩|⟨x,t,_,e⟩ <;> rw[z]at e<;>cases e
def dXJ(w:World):Option Key->Int
 |none=>0xFCA86420
 |some k=>cJG w k
def wO(prog:Program)(w:World):PySem.KeyKind prog w (Option Key) where
 is:=aZD
 hash:=dXJ w
 inj:=λv a b ha hb=>by
  cases a with
  |none=>
   cases b with
   |none=>rfl
   |some b=>exact absurd (bQ ha) (gY hb)
  |some a=>
   cases b with
   |none=>exact absurd (bQ hb) (gY ha)
   |some b=>exact Cy some ((aR prog w).inj v a b ha hb)
 byValue:=λk v h=>by
  cases k with
  |none=>rw[bQ h];rfl
  |some k=>exact(aR prog w).byValue k v h
 pyHash:=fun {A E s k v Q} hv h=>by
  cases k with
  |none=>rw[bQ hv];exact aQK h
  |some k=>exact(aR prog w).pyHash hv h
 eqBool:=fun {A E s a b u v Q} hu hv h=>by
  cases a with
  |none=>
   rw[bQ hu];cases b with
   |none=>rw[bQ hv];exact SeqAt.EqAt.same _ _ _ _ _ (by simpa using h)
   |some b=>
    have h2:Q false s:=by simpa using h
    rcases aZ (show gS b v=true from hv) with⟨j,t,_,rfl⟩|⟨y,t,_,rfl⟩
    .exact SeqAt.EqAt.none_int _ _ _ _ _ _ h2
    .exact SeqAt.EqAt.none_str _ _ _ _ _ _ h2
  |some a=>
   cases b with
   |none=>
    rw[bQ hv];have h2:Q false s:=by simpa using h
    rcases aZ (show gS a u=true from hu) with⟨j,t,_,rfl⟩|⟨y,t,_,rfl⟩
    .exact SeqAt.EqAt.int_none _ _ _ _ _ _ h2
    .exact SeqAt.EqAt.str_none _ _ _ _ _ _ h2
   |some b=>
    refine(aR prog w).eqBool hu hv ?_;have e:decide (some a=some b)=decide (a=b):=Dh.mpr ⟨Bh,λz=>by rw[z]⟩
    rw[e]at h;exact h
 «strs» := λk x t v h=>by
  cases k with
  |none=>exact absurd (bQ h) (λz=>nomatch z)
  |some k=>exact(aR prog w).strs k x t v h
def cX0{f:Key->Option Value}(hm:h.MapOf (aR prog w) a f):h.MapOf (wO prog w) a (λk=>k.bind f):=by
 obtain⟨o,es,ep,ho,hx,hd,hk,hf⟩:=hm;refine⟨o,es,ep,ho,hx,hd,λe he=>?_,λk=>?_⟩
 .obtain⟨k,h1,h2⟩:=hk e he;exact⟨some k,h1,h2⟩
 .cases k with
  |some k=>exact hf k
  |none=>
   show findBy aZD es none=none
   unfold findBy;rw[Option.map_eq_none_iff,Array.find?_eq_none];intro e he z;obtain⟨k,h1,_⟩:=hk e he;exact gY h1 (bQ z)
def aZ8:R2:=λx y H Q=>∃a,y=.ref a/\((∃ov,DGet H a x ov/\Q (.bl ov.isSome) H)\/(x=.non/\∃kvs,Rd H a (.dK kvs)/\Q (.bl false) H))
def cQA(hu:X.A.units+1<cLine):OpR X (compareOp .In) aZ8:=by
 intro y3 s U H x y v u Q I rx ry h;obtain⟨a,rfl,h⟩:=h;cases ry;rcases h with⟨ov,g,q⟩|⟨rfl,kvs,e,q⟩
 .exact cJQ hu I g rx λs3 I3=>⟨.bl ov.isSome,H,I3,rfl,q⟩
 .cases rx;obtain⟨z,hd,vs,rel,dd⟩:=fA I.hok e;exact wpAny_in_of (knd:=wO X.prog X.w) (k:=none) (key:=Value.none) rfl hd (cX0 dd.mapOf) ⟨.bl false,H,I.tok _,rfl,q⟩
def aJ0(hu:X.A.units+1<cLine):MtR X "dict.get" bZ6:=by
 intro y3 s U H x vs v us Q I rx rv h;obtain⟨a,y,ov,rfl,rfl,g,q⟩:=h;cases rx;obtain⟨u,rfl,ru⟩:=rv.one;exact cZF hu I g ru λw1 s1 I1 r1=>⟨_,H,I1,r1,q⟩
def cQJ(e:Rd H a (.dK kvs))(h:Q (.bl false) H):aZ8 .non (.ref a) H Q:=⟨a,rfl,.inr ⟨rfl,kvs,e,h⟩⟩
def bZD(e:Rd H a (.dK kvs))(h:Q (.bl (bF kvs (Sum.inr z)).isSome) H):aZ8 (.str z) (.ref a) H Q:=⟨a,rfl,.inl ⟨_,.inl ⟨kvs,.inr z,e,rfl,rfl⟩,h⟩⟩
def dQ1:R2:=λx y H Q=>∃(p q:Addr) (a b c d:Int),x=.ref p/\y=.ref q/\H p=some (.tup [.int a,.int b])/\H q=some (.tup [.int c,.int d])/\Q (.bl (decide (a=c/\b=d))) H
def cJS(hu:X.A.units<cLine):OpR X (compareOp .Eq) dQ1:=by
 intro y3 s U H x y v u Q I rx ry h;obtain⟨p,q,a,b,c,d,rfl,rfl,hp,hq,k⟩:=h;cases rx;cases ry;obtain⟨its,r1,l1,_⟩:=I.tuple (SqT.of (K:=X.K) hp);obtain⟨its2,r2,l2,_⟩:=I.tuple (SqT.of (K:=X.K) hq);obtain⟨u1,u2,rfl,⟨t1,rfl⟩,⟨t2,rfl⟩⟩:=r1.two;obtain⟨w1,w2,rfl,⟨t3,rfl⟩,⟨t4,rfl⟩⟩:=r2.two;refine SeqAt.eq_tupleAt (e:=λj=>if j=0 then a==c else b==d) (show s.heap.IsTuple p _ from l1) (show s.heap.IsTuple q _ from l2) hu (λj h1 h2=>?_) ?_
 .match j,h1,h2 with
  |0,_,_=>exact SeqAt.EqAt.int_int a t1 c t3
  |1,_,_=>exact SeqAt.EqAt.int_int b t2 d t4
  |j+2,h1,_=>exact absurd h1 (by show ¬j+2<2;omega)
 .refine⟨.bl (decide (a=c/\b=d)),H,I,?_,k⟩;show Value.bool _=Value.bool _
  congr 1
  show (((if (0:Nat)=0 then a==c else b==d)&&((if (1:Nat)=0 then a==c else b==d)&&true))&&true)=_
  rw[if_pos rfl,if_neg (by decide),Bool.and_true,Bool.and_true]
  by_cases e1:a=c
  .by_cases e2:b=d
   .simp[e1,e2]
   .simp[e1,e2]
  .simp[e1]
def cJO{a b c d:Int}(hp:H p=some (.tup [.int a,.int b]))(hq:H q=some (.tup [.int c,.int d]))(h:Q (.bl (decide (a=c/\b=d))) H):dQ1 (.ref p) (.ref q) H Q:=⟨p,q,a,b,c,d,rfl,rfl,hp,hq,h⟩
def aXS(cv:Value)(o:Obj):Prop:=∃fs,o.data=.fields fs/\fs[2]?=some cv
def bJ2(X:Cx)(ea:Addr):Prop:=aQX X/\X.s₀.heap.get? ea=none
def Room.mark{k:Nat}{v:Option Value}(r:Room k A):Room k (A.mark v):=⟨r.dp,r.un⟩
def aQQ{pn:Q3}{u:HO}(sx:bJ2 X ea)(I:Inv (X.hnd pn ea) y3 U H s)(ez:H ea=some (.frz o u))(cz:aXS (cvO X.A.handled) o):Env0 X.prog X.w X.K X.mg X.base (X.A.mark (some (.ref ea))) X.stack s H:=by
 obtain⟨⟨ch,hh,sl,hx⟩,h0⟩:=sx;obtain⟨fs,hd,h2⟩:=cz;rw[hh,aJ8]at h2;have sl1:=I.softL sl hx
 refine⟨I.ok.frames,I.ok.mod,I.bs,Bf I.ok.bsz I.sz,I.stack,I.stkFree,I.hok,I.bare,ea::ch,rfl,Bi.mpr ⟨λz=>?_,sl1.1⟩,⟨o,fs,(I.hok ea _ ez).1,hd,h2,.inr ⟨u,ez⟩⟩,sl1.2⟩;obtain⟨o',g⟩:=sl.chn.2.get z;rw[h0]at g;cases g
def bJA(K:W.Frag)(C:Addr)(i:Nat)(cv:Value)(mk:(Value->Option Addr->St->Hp->Prop)->TS)(ts:Addr->TS):TS:=λD U H=>
 mk (λcls d U1 H1=>W.exmOne K cls (.ref C)=some true/\∀ea oe,aXS cv oe->H1 ea=none->
  ts ea {nx:=λU2 H2=>D.nx (U2.set i none) H2,rt:=D.rt,bk:=λU2 H2=>D.bk (U2.set i none) H2,ct:=λU2 H2=>D.ct (U2.set i none) H2} (U1.set i (some (.ref ea))) (upd H1 ea (.frz oe (eJ ea cls d)))) D U H
def cX2{cv:Value}{mk:(Value->Option Addr->St->Hp->Prop)->TS}{ts:Addr->TS}(h:mk (λcls d U1 H1=>W.exmOne K cls (.ref C)=some true/\∀ea oe,aXS cv oe->H1 ea=none->
 ts ea {nx:=λU2 H2=>D.nx (U2.set i none) H2,rt:=D.rt,bk:=λU2 H2=>D.bk (U2.set i none) H2,ct:=λU2 H2=>D.ct (U2.set i none) H2} (U1.set i (some (.ref ea))) (upd H1 ea (.frz oe (eJ ea cls d)))) D U H):bJA K C i cv mk ts D U H:=h
def wW{body suite:List Stmt}{b0:Stmt}{n:Str}{np hp:Pos}{i:Nat}{mk:(Value->Option Addr->St->Hp->Prop)->TS}{ts:Addr->TS}(hstk:X.stack=X.env::X.outer)(hfm:X.env.frame=some X.env.locals)(hex:X.ex=[])(hN:X.N.Nodup)(hi:X.N[i]?=some n)(hl:X.env.scope.names.lookup n=some .local)(hg:Gl X x)(hm:X.mg x=some (.ref C))(hb:∀y3 R,PSs (X.tr y3 (XS X y3 R)) body (mk R))(hs:∀y3 ea,bJ2 X ea->PSs (X.hnd y3 ea) (b0::suite) (ts ea))(hd:(x==("__debug__" : Str))=false:=by decide)(hc:X.calm=true:=by rfl):PS X (.Try body [.ExceptHandler (some (.Name x np)) (some n) (b0::suite) hp] [] [] pos) (bJA X.K C i (cvO X.A.handled) mk ts):=by
 intro y3 s U H D I h;have hfr:X.A.frames=some (X.env::X.outer):=by rw[<-hstk];exact I.ok.frames
 have hcls:(X.env.scope.kind == .class || (X.env.scope.kind == .module&&X.env.locals != X.env.globals))=false:=by rw[I.ok.kind];rfl
 refine wpAny_Try_except (Cg (hb y3 _ [] s U H D (I.tr _) h) (λf s1 q=>?_) λe s1 q=>?_)
 .cases f with
  |next=>
   obtain⟨U',H',I',q⟩:=q.untr;exact bN y3 s1 U' H' D I' q
  |brk=>exact q.untr
  |cont=>exact q.untr
  |ret u=>exact q.untr
 .obtain⟨ea,cls,d,B,U1,H1,rfl,F,fre,hn,inv,hx,r⟩:=q;rw[hstk]at F;refine aQ7 hfr hfm F λh2 F2 u2=>hW (s:={s1 with heap:=h2}) F2 λh3 F3 u3=>?_
  have I3:=inv h3 F3.stays (u2.trans u3)
  refine wpAny_handleBy_cons (codeAny_handlers_test (eN (I3.hnd ea) hg hm ?_ hd)) (by intro q;cases q)
  obtain⟨oe,vs,T,oT,tts,he,hcx,_⟩:=id F3.on;refine W.exm_one I3.kIn (hcx.1▸(W.Looks.ld he).andThen .now) hx _ _ _ _ (λ_ _ q=>q) ?_;refine codeAny_handlers_suite_as (hW (s:={s1 with heap:=h3}) F3 λh4 F4 u4=>?_)
  obtain⟨oe4,vs4,_,_,_,he4,_,hd4,_,_,_,_,_,_,c4⟩:=id F4.on;have I4:=(inv h4 F4.stays ((u2.trans u3).trans u4)).adopt (o:=.frz oe4 (eJ ea cls d)) fre hn (show h4.get? ea=some oe4/\_ from⟨he4,F4.obj⟩)
  refine kY I4 hN hi (.inl hl) (v:=.ref ea) rfl (λs5 I5=>?_) (.inr hl);refine Cg (hs y3 ea ⟨I.ok.hd hc,fre.s0⟩ [] s5 _ _ _ (I5.hnd ea) (r ea oe4 ⟨vs4,hd4,c4⟩ hn)) (λf s6 q=>?_) λ_ _ z=>z.elim;have go:∀ {U2:St} {H2:Hp} {Q:Unit->Shared->Prop} {E:Q2},Inv (X.hnd y3 ea) [] U2 H2 s6->(∀ s7,Inv X y3 (U2.set i none) H2 s7->Q () s7)->
      wpAny (model X.prog X.w) X.A (do bindName X.env n .none;unbindBehindTheSuite X.env n hp) Q E s6:=fun {U2 H2 Q E} I6 k=>by
   have I6':=I6.unhnd I.ok
   obtain⟨m,hm6,_⟩:=id I6'.loc;exact wpAny_nameGoes_keeps hl hm6 hcls λh7 v hn7 sb=>k _ (I6'.unname hN hi hm6 hl hn7 sb)
  cases f with
  |next=>
   obtain⟨U2,H2,I6,q⟩:=q;exact go I6 λs7 I7=>⟨_,H2,I7,q⟩
  |brk=>
   obtain⟨U2,H2,I6,q⟩:=q;exact go I6 λs7 I7=>⟨_,H2,I7,q⟩
  |cont=>
   obtain⟨U2,H2,I6,q⟩:=q;exact go I6 λs7 I7=>⟨_,H2,I7,q⟩
  |ret u=>
   obtain⟨v,U2,H2,I6,rv,q⟩:=q;exact go I6 λs7 I7=>⟨v,_,H2,I7,rv,q⟩
def aJ1(ea:Addr)(cv:Value)(sp:Sp)(t:TA):TE:=λU H Q=>t U H λvs H1=>(∃o u,H1 ea=some (.frz o u)/\aXS cv o)/\sp vs H1 Q E0
def bX6{cv:Value}{t:TA}(h:t U H λvs H1=>(∃o u,H1 ea=some (.frz o u)/\aXS cv o)/\sp vs H1 Q E0):aJ1 ea cv sp t U H Q:=h
def kQ{pn:Q3}{k:Nat}{ps:List Str}{p:Pos}{es:List Expr}{t:TA}(sx:bJ2 X ea)(c:Cal X.prog X.w X.K X.mg X.base k x ps sp)(hr:Room k' X.A)(hk:k<=k')(hg:Gl (X.hnd pn ea) x)(ha:PA (X.hnd pn ea) (e::es) t)(hdb:(x==("__debug__" : Str))=false:=by decide)(he:starEach (e::es) (X.hnd pn ea).env=(false,eval e (X.hnd pn ea).env)::starEach es (X.hnd pn ea).env:=by rfl)(hpl:(backTo pos (starEach es (X.hnd pn ea).env)).any (·.1)=false:=by rfl):PE (X.hnd pn ea) (.Call (.Name x p) (e::es) [] pos) (aJ1 ea (cvO X.A.handled) sp t):=by
 obtain⟨f,fd,F,hm,hkp,hb⟩:=c;intro y3 s U H Q I h;refine Ej (eN I hg hm ?_ hdb);refine Gi (h₀:=X.base) I.ok.mod.kin hkp (thn (ha pos y3 s U H _ I h) λus s1 ⟨vs,H1,I1,r,⟨oz,uz,ez,cz⟩,q⟩=>⟨I1.kIn,?_⟩) he hpl;have q':sp vs H1 Q E0:=q
 have hl:(us++[]).length=ps.length:=by rw[Cf,<-r.length];exact F.len _ _ _ _ q'
 have hbb:=hb s1 us I1.kIn hl
 rw[Cf]at hbb;refine Fi (Ex (F.run (X.A.mark (some (.ref ea))) X.stack s1 H1 ⟨us,[]⟩ us vs Q E0 (hr.mark.mono hk) (aQQ sx I1 ez cz) hbb r q') λrr s' hq=>?_);cases rr with
 |error e=>exact False.elim hq
 |ok fl=>
  cases fl with
  |ret u=>exact I1.after hq
  |next=>exact False.elim hq
  |brk=>exact False.elim hq
  |cont=>exact False.elim hq
def aXW(K:W.Frag)(ta:TE)(f:Str):TE:=λU H Q=>ta U H λx H1=>∃ea C dx fs v o,x=.ref ea/\H1 ea=some (.frz o (eJ ea (.ref C) (some dx)))/\H1 dx=some (xdO dx fs)/\ExK K C/\W.findIn K (.ref C) f=some none/\fs.lookup f=some v/\Q v H1
def bXL{ta:TE}{f:Str}(h:ta U H λx H1=>∃ea C dx fs v o,x=.ref ea/\H1 ea=some (.frz o (eJ ea (.ref C) (some dx)))/\H1 dx=some (xdO dx fs)/\ExK K C/\W.findIn K (.ref C) f=some none/\fs.lookup f=some v/\Q v H1):aXW K ta f U H Q:=h
def eD{f:Str}{ta:TE}(hK:X.K=K)(he:PE X e ta)(hb:attributeBase e f X.env (eval e X.env)=eval e X.env):PE X (.Attribute e f pos) (aXW K ta f):=by
 subst hK;intro y3 s U H Q I h;refine bQ0 hb (thn (he y3 s U H _ I h) λu s1 ⟨x,H1,I1,rx,ea,C,dx,fs,v,oz,ex,e1,e2,Z,n,l,q⟩=>?_);subst ex;obtain rfl:u=Value.ref ea:=rx;obtain⟨oe,vs,g,hc,hdi,hda⟩:=(I1.hok ea _ e1).2.1;obtain⟨⟨mA,ns,r,wi⟩,_⟩:=I1.hok dx _ e2;obtain⟨od,hI⟩:=eE I1.hok g hc hdi hda (λz e=>by cases e;exact⟨_,e2⟩)
 obtain⟨o,go,lo⟩:=oR ns;have hod:od=some o:=by
  have z:=hI.dict
  rw[hdi]at z;cases od with
  |none=>exact z.elim
  |some o'=>
   have z:s1.heap.get? dx=some o':=z
   rw[go]at z;exact z.symm
 subst hod;have rl:=r f
 rw[l]at rl;cases hu:mA f with
 |none=>rw[hu]at rl;exact rl.elim
 |some u=>
  rw[hu]at rl;exact bZO Z I1.kIn hI (W.findObj_own Z.cls n rfl (by rw[lo,hu])) (aJC rl) ⟨v,H1,I1.tok _,rl,q⟩
def bJL(K:W.Frag):List V->Hp->VK->Prop:=λxs H Q=>∃ea D d c b o cv,xs=[.ref ea,c]/\H ea=some (.frz o (eJ ea (.ref D) d))/\(∀dx,d=some dx->∃o,H dx=some o)/\ExK K D/\cQX c=some cv/\W.kitOne K (.ref D) cv=some b/\Q (.bl b) H
def cV(h:X.K=K):CallR X (.builtin "isinstance") (bJL K):=by
 subst h;intro y3 s U H xs us Q I r h;obtain⟨ea,D,d,c,b,oz,cv,rfl,he,hd,Z,h1,h2,q⟩:=h;obtain⟨u,u2,rfl,ru,rc⟩:=kD r;cases ru;obtain⟨oe,vs,g,hc,hdi,hda⟩:=(I.hok ea _ he).2.1;obtain⟨od,hI⟩:=eE I.hok g hc hdi hda hd;rw[aQ3 h1 rc];exact Cw (aQW Z) I.kIn ⟨oe,od,hI⟩ h2 (λz=>nomatch z) λtk=>⟨.bl b,H,I.tok _,rfl,q⟩
def cW{D:Addr}{c:V}{cv:Value}{b:Bool}(e:H ea=some (.frz o (eJ ea (.ref D) d)))(hd:∀dx,d=some dx->∃o,H dx=some o)(Z:ExK K D)(h1:cQX c=some cv)(h2:W.kitOne K (.ref D) cv=some b)(h:Q (.bl b) H):bJL K [.ref ea,c] H Q:=⟨ea,D,d,c,b,o,cv,rfl,e,hd,Z,h1,h2,h⟩
def bJI:V->List V->Hp->VK->Prop:=λx vs H Q=>∃z y:Str,x=.str z/\vs=[.str y]/\Q (.int (Txt.find z y)) H
def cQ9:MtR X "str.find" bJI:=by
 intro y3 s U H x vs v us Q I rx rv h;obtain⟨z,y,rfl,rfl,q⟩:=h;obtain⟨t,rfl⟩:=rx;obtain⟨u,rfl,ru⟩:=rv.one;obtain⟨t',rfl⟩:=ru;exact SC.find ⟨.int (Txt.find z y),H,I.tok _,⟨_,rfl⟩,q⟩
def bJV{y:Str}(h:Q (.int (Txt.find z y)) H):bJI (.str z) [.str y] H Q:=⟨z,y,rfl,rfl,h⟩
def wJ(prog:Program)(w:World)(A:Around)(old:Heap)(S:Addr)(vs:List Value)(J:Nat->Obj->Prop):Prop:=
 ∀(i:Nat) (v:Value) (s:Shared) (o:Obj) (E:Q2) (Q:Bool->Shared->Prop),vs[i]?=some v->(∀b u,old.get? b=some u->s.heap.get? b=some u)->s.heap.get? S=some o->J i o->
  (∀(c:Bool) (h':Heap) (tk:Nat) (o':Obj),Heap.SameBut S s.heap h'->h'.get? S=some o'->J (i+1) o'->Q c {s with heap:=h',toks:=tk})->wpAny (model prog w) A (setAdd S v) Q E s
section
variable {R:Result->Shared->Prop}
def nW(h:wpAny (model prog w) A.in1 (Builtin.«set.update.loop» ⟨[.ref S,.ref it],[]⟩) (λfin s'=>match fin with|.done f=>R (.ok f) s'|.again c=>c.quiet=true/\codeAny (model prog w) A c R s') (λe s'=>R (.error e) s') s):codeAny (model prog w) A (.builtin "set.update.loop" ⟨[.ref S,.ref it],[]⟩) R s:=by
 refine Dd PyProof.Rows.F.entry_set_update_loop (by rw[Dc PyProof.Rows.F.plain_set_update_loop];exact h)
end
def bare(led:Bool):Obj:={cls:=.type "set",dict:=none,data:=.set #[] 0 (.fresh 0 0 led)}
def aZC:List V->Hp->VK->Prop:=λxs H Q=>(∃j:Int,xs=[.int j]/\∀r,H r=none->Q (.ref r) (upd H r (.rng 0 j)))\/(∃i j:Int,xs=[.int i,.int j]/\∀r,H r=none->Q (.ref r) (upd H r (.rng i j)))
def Inv.rngNew{hi:Int}{t u v:Tok}{tk:Nat}(I:Inv X y3 U H s):Inv X y3 U (upd H s.heap.objs.size (.rng lo hi)) {s with heap:=s.heap.push {cls:=.type "range",data:=.fields #[.int lo t,.int hi u,.int 1 v]},toks:=tk}:=
 (I.kept (t':=tk) λb o e=>Ad _ e).adopt (I.freAt (Ai _)) (I.hok.fresh (Ai _)) ⟨t,u,v,Aw _ rfl⟩
def aXO:CallR X (.type "range") aZC:=by
 intro y3 s U H xs us Q I r h;rcases h with⟨j,rfl,q⟩|⟨i,j,rfl,q⟩
 .obtain⟨u,rfl,⟨t,rfl⟩⟩:=dM r;exact call_range_1 ⟨.ref _,_,I.rngNew,rfl,q _ (I.hok.fresh (Ai _))⟩
 .obtain⟨u,w',rfl,⟨t,rfl⟩,⟨t',rfl⟩⟩:=kD r;exact call_range_2 ⟨.ref _,_,I.rngNew,rfl,q _ (I.hok.fresh (Ai _))⟩
def bQT{j:Int}(h:∀r,H r=none->Q (.ref r) (upd H r (.rng 0 j))):aZC [.int j] H Q:=.inl ⟨j,rfl,h⟩
def bXP{i j:Int}(h:∀r,H r=none->Q (.ref r) (upd H r (.rng i j))):aZC [.int i,.int j] H Q:=.inr ⟨i,j,rfl,h⟩
def yS(lo hi i:Int):(Builtin.Range.rangePlace? lo hi 1 i).isSome=decide (lo<=i/\i<hi):=by
 unfold Builtin.Range.rangePlace?;simp only[show (1:Int)>0 by decide,if_true,Int.emod_one]
 by_cases h:lo<=i/\i<hi
 .rw[Au h];simp[h.1,h.2]
 .rw [Bb h];have:(decide (lo<=i) && decide (i<hi))=false:=by
   rw[Bool.and_eq_false_iff];by_cases h1:lo<=i
   .exact .inr (Bb λh2=>h ⟨h1,h2⟩)
   .exact .inl (Bb h1)
  simp[this]
def wH:V->V->Hp->VK->Prop:=λx y H Q=>∃(i:Int) (p:Addr) (lo hi:Int),x=.int i/\y=.ref p/\H p=some (.rng lo hi)/\Q (.bl (!decide (lo<=i/\i<hi))) H
def sO:OpR X (compareOp .NotIn) wH:=by
 intro y3 s U H x y v u Q I rx ry h;obtain⟨i,p,lo,hi,rfl,rfl,hp,q⟩:=h;obtain⟨t,rfl⟩:=rx;cases ry;obtain⟨t0,t1,t2,ho⟩:=I.hok p _ hp;have hT:s.TypeIs (.ref p) "range" := ⟨_,ho,rfl⟩
 show wpAny _ _ (do return Value.bool (!(<-contains (.ref p) (.int i t)))) _ _ s
 refine Aa ?_;unfold contains;try with_reducible refine Bv ?_
 refine Aa (Ep hT F.slot_range_contains.lookup ?_);show wpAny _ _ (if (some (Value.builtin "range.__contains__")==some Value.none)=true then _ else _) _ _ s
 rw[if_neg (by rw[beq_builtin_none];exact An)]
 refine Aa (wpAny_callSpecialUnlessNone?_slot (name:=Str.ofString "__contains__") hT F.slot_range_contains
  (Br F.slot_range_contains hT F.entry_range_contains ?_ (F.args_range_contains_2 _ _)))
 unfold Builtin.«range.__contains__»;show wpAny _ _ (rule _ >>= _) _ _ s
 refine Aa (wpAny_rule (Aa ?_));unfold Builtin.Range.rangeFields;refine Aa (Bl (x:=.int lo t0) ho rfl rfl ?_);refine Aa (Ae (Aa (Bl (x:=.int hi t1) ho rfl rfl ?_)));refine Aa (Ae (Aa (Bl (x:=.int 1 t2) ho rfl rfl ?_)));refine Aa (Ae (Ae ?_));show wpAny _ _ (ret (Value.bool (Builtin.Range.rangePlace? lo hi 1 i).isSome)) _ _ s
 rw[yS];exact Ae ⟨_,rfl,Fp (Ae ⟨.bl _,H,I,rfl,q⟩)⟩
def rR{i hi:Int}(e:H p=some (.rng lo hi))(h:Q (.bl (!decide (lo<=i/\i<hi))) H):wH (.int i) (.ref p) H Q:=⟨i,p,lo,hi,rfl,rfl,e,h⟩
section
open PySem
def adv(t:SetTable)(p:SetTable.Probe):Nat->SetTable.Probe
 |0=>p
 |n+1=>adv t (t.advance p) n
def xJ(t:SetTable)(m:Nat):∀(n:Nat) (p:SetTable.Probe),adv t p (n+m)=adv t (adv t p n) m
 |0,p=>by rw[Nat.zero_add];rfl
 |n+1,p=>by rw[Nat.succ_add];exact xJ t m n (t.advance p)
def mX(t:SetTable)(p:SetTable.Probe):(t.advance p).dummy=p.dummy:=by
 unfold SetTable.advance;split<;>rfl
def nL(mask i per:Nat)(d:Option Nat):SetTable.Probe:={j:=i,more:=SetTable.runEnd mask i-i,i:=i,perturb:=per,dummy:=d}
def wM(t:SetTable):∀(k:Nat) (p:SetTable.Probe),p.more=k->adv t p (k+1)=nL t.mask (SetTable.leap t.mask p.i p.perturb).1 (SetTable.leap t.mask p.i p.perturb).2 p.dummy
 |0,p,h=>by
  show t.advance p=_
  unfold SetTable.advance;rw[if_neg (by omega)]
  rfl
 |k+1,p,h=>by
  show adv t (t.advance p) (k+1)=_
  have e:t.advance p={p with j:=p.j+1,more:=p.more-1}:=by
   unfold SetTable.advance;rw[if_pos (by omega)]
  rw[e,wM t k _ (by show p.more-1=k;omega)]
def bXF(mask i:Nat):SetTable.runEnd mask i-i<=9:=by
 unfold SetTable.runEnd;split<;>omega
def cM(mask:Nat)(x:Nat×Nat):Nat->Nat×Nat
 |0=>x
 |n+1=>cM mask (SetTable.leap mask x.1 x.2) n
def oP(mask m:Nat):∀(n:Nat) (x:Nat×Nat),cM mask x (n+m)=cM mask (cM mask x n) m
 |0,x=>by rw[Nat.zero_add];rfl
 |n+1,x=>by rw[Nat.succ_add];exact oP mask m n _
def oO(t:SetTable)(d:Option Nat):∀(m:Nat) (i per:Nat),∃c,c<=10*m/\adv t (nL t.mask i per d) c=nL t.mask (cM t.mask (i,per) m).1 (cM t.mask (i,per) m).2 d
 |0,i,per=>⟨0,Ai _,rfl⟩
 |m+1,i,per=>by
  obtain⟨c,hc,e⟩:=oO t d m (SetTable.leap t.mask i per).1 (SetTable.leap t.mask i per).2;refine⟨(SetTable.runEnd t.mask i-i+1)+c,?_,?_⟩
  .have:=bXF t.mask i;omega
  .rw[xJ,wM t (SetTable.runEnd t.mask i-i) (nL t.mask i per d) rfl];exact e
def oZ(mask:Nat):∀(n:Nat) (x:Nat×Nat),(cM mask x n).2=x.2 / 32^n
 |0,x=>by show x.2=x.2 / 1;rw[Nat.div_one]
 |n+1,x=>by
  show (cM mask (SetTable.leap mask x.1 x.2) n).2=_
  rw[oZ mask n];show x.2 / 32 / 32^n=_
  rw[Nat.div_div_eq_div_mul,Nat.pow_succ,Nat.mul_comm]
def cyc(M:Nat):Nat->Nat
 |0=>0
 |n+1=>(cyc M n*5+1)%M
def jP(mask:Nat):∀(n a:Nat),(cM mask (cyc (mask+1) a,0) n)=(cyc (mask+1) (a+n),0)
 |0,a=>rfl
 |n+1,a=>by
  show cM mask (SetTable.leap mask (cyc (mask+1) a) 0) n=_
  have e:SetTable.leap mask (cyc (mask+1) a) 0=(cyc (mask+1) (a+1),0):=by
   show ((cyc (mask+1) a*5+1+0 / 32)%(mask+1),0 / 32)=_
   rw[Nat.zero_div,Nat.add_zero];rfl
  rw[e,jP mask n (a+1),Nat.add_right_comm,Nat.add_assoc]
def Full(M:Nat):Prop:=cyc M M=0/\∀e,e<M->∃n,n<M/\cyc M n=e
def vY(M:Nat)(h:cyc M M=0):∀n,cyc M (M+n)=cyc M n
 |0=>h
 |n+1=>by
  show (cyc M (M+n)*5+1)%M=_
  rw[vY M h n];rfl
def Full.reach(F:Full (mask+1)){x e:Nat}(hx:x<mask+1)(he:e<mask+1):∃m,m<=mask/\(cM mask (x,0) m).1=e:=by
 obtain⟨a,ha,rfl⟩:=F.2 x hx;obtain⟨b,hb,rfl⟩:=F.2 e he;by_cases h:a<=b
 .exact⟨b-a,by omega,by rw[jP,Nat.add_sub_cancel' h]⟩
 .exact⟨mask+1+b-a,by omega,by rw[jP,show a+(mask+1+b-a)=mask+1+b by omega,vY _ F.1]⟩
def qD{M:Nat}(L:List Nat)(h0:cyc M M=0)(h:(List.range M).all (λe=>decide (L.getD e 0<M)&&cyc M (L.getD e 0)==e)=true):Full M:=by
 refine⟨h0,λe he=>⟨L.getD e 0,?_⟩⟩;have:=Fg.mp h e (Bo.mpr he)
 rw[Fe]at this;exact⟨Cm this.1,eq_of_beq this.2⟩
def dQI:Full 8:=qD [0,1,6,7,4,5,2,3] (by decide +kernel) (by decide +kernel)
def cQ1:Full 32:=qD [0,1,6,15,28,13,2,27,24,25,30,7,20,5,26,19,16,17,22,31,12,29,18,11,8,9,14,23,4,21,10,3] (by decide +kernel) (by decide +kernel)
def bZG:Full 128:=qD [0,1,70,111,28,109,2,123,120,25,126,71,20,5,58,83,112,49,54,31,12,29,114,43,104,73,110,119,4,53,42,3,96,97,38,79,124,77,98,91,88,121,94,39,116,101,26,51,80,17,22,127,108,125,82,11,72,41,78,87,100,21,10,99,64,65,6,47,92,45,66,59,56,89,62,7,84,69,122,19,48,113,118,95,76,93,50,107,40,9,46,55,68,117,106,67,32,33,102,15,60,13,34,27,24,57,30,103,52,37,90,115,16,81,86,63,44,61,18,75,8,105,14,23,36,85,74,35] (by decide +kernel) (by decide +kernel)
def wY:∀(n:Nat) {x:Nat×Nat},x.1<mask+1->(cM mask x n).1<mask+1
 |0,x,h=>h
 |n+1,x,h=>wY n (x:=SetTable.leap mask x.1 x.2) (Nat.mod_lt _ (Nat.succ_pos _))
def dQT(F:Full (mask+1)){per e:Nat}(hi:i<mask+1)(hp:per<2^64)(he:e<mask+1):∃m,m<=mask+13/\(cM mask (i,per) m).1=e:=by
 obtain⟨m,hm,e1⟩:=F.reach (x:=(cM mask (i,per) 13).1) (wY 13 hi) he;refine⟨13+m,by omega,?_⟩
 rw[oP];have hz:(cM mask (i,per) 13).2=0:=by
  rw[oZ];exact Nat.div_eq_of_lt (Az hp (by decide))
 rw[show cM mask (i,per) 13=((cM mask (i,per) 13).1,0) from Prod.ext rfl hz];exact e1
def wB(h:Int):SetTable.bits h<2^64:=by
 unfold SetTable.bits;have h1:=Dv h (show (2^64:Int)≠0 by decide)
 have h2:=Em h (show (0:Int)<2^64 by decide)
 omega
def lF:∀(n:Nat) (l:List Nat),l.length<n->∃e,e<n/\e∉l
 |0,l,h=>by omega
 |n+1,l,h=>by
  by_cases hm:n∈l
  .have hl:=List.length_erase_of_mem hm
   have hp:=List.length_pos_of_mem hm
   obtain⟨e,h1,h2⟩:=lF n (l.erase n) (by omega)
   exact⟨e,by omega,λz=>h2 ((List.mem_erase_of_ne (by omega)).mpr z)⟩
  .exact⟨n,Dw _,hm⟩
def tS{t:SetTable}(hd:t.dummies=#[]){e:Nat}(h:e∉t.place.toList):t.slot e=.empty:=by
 unfold SetTable.slot;have h1:(t.place[SetTable.below t.place e]? == some e)=false:=by
  rw[Cr];intro z;exact h (Ew.mpr (Fm z))
 have h2:SetTable.has t.dummies e=false:=by rw[hd];rfl
 simp only[h1,h2];rfl
def zZ{t:SetTable}(h:t.slot j=.live i):i<t.place.size:=by
 unfold SetTable.slot at h;simp only at h;split at h
 .rename_i z
  cases h;exact(Bm.mp (eq_of_beq z)).1
 .split at h<;>cases h
def kZ{t:SetTable}(hd:t.dummies=#[]):t.slot j≠.dummy:=by
 unfold SetTable.slot;have h2:SetTable.has t.dummies j=false:=by rw[hd];rfl
 simp only[h2];split
 .exact λz=>nomatch z
 .exact λz=>nomatch z
def sX{t:SetTable}{f:Nat->Int}{h:Int}(hd:t.dummies=#[])(hf:∀i,i<t.place.size->f i≠h):∀(fuel:Nat) (p:SetTable.Probe),p.dummy=none->(∃n,n<fuel/\t.slot (adv t p n).j=.empty)->∃j,SetTable.probe.go t f h fuel p=some (.empty j none)
 |0,p,_,⟨n,hn,_⟩=>by omega
 |fuel+1,p,hp,⟨n,hn,he⟩=>by
  unfold SetTable.probe.go;cases hs:t.slot p.j with
  |empty=>exact⟨p.j,by rw[hp]⟩
  |dummy=>exact absurd hs (kZ hd)
  |live i=>
   have hi:=hf i (zZ hs)
   simp only;rw[if_neg (by rw[He];exact hi)]
   cases n with
   |zero=>
    have:t.slot p.j=.empty:=he
    rw[hs]at this;cases this
   |succ n=>exact sX hd hf fuel (t.advance p) ((mX t p).trans hp) ⟨n,by omega,he⟩
def kE{t:SetTable}{f:Nat->Int}{h:Int}(F:Full (t.mask+1))(hd:t.dummies=#[])(hs:t.place.size<=t.mask)(hf:∀i,i<t.place.size->f i≠h):∃j,t.probe f h (t.probeStart h)=some (.empty j none):=by
 obtain⟨e,he,hne⟩:=lF (t.mask+1) t.place.toList (by rw[Ay];omega)
 obtain⟨m,hm,e1⟩:=dQT F (i:=SetTable.bits h%(t.mask+1)) (Nat.mod_lt _ (Nat.succ_pos _)) (wB h) he;obtain⟨c,hc,e2⟩:=oO t none m (SetTable.bits h%(t.mask+1)) (SetTable.bits h);refine sX hd hf (10*SetTable.turns t.mask) (t.probeStart h) rfl ⟨c,?_,?_⟩
 .unfold SetTable.turns;omega
 .show t.slot (adv t (nL t.mask (SetTable.bits h%(t.mask+1)) (SetTable.bits h) none) c).j=_
  rw[e2];show t.slot (cM t.mask _ m).1=_
  rw[e1];exact tS hd hne
def oM:∀(fuel i per:Nat),(∃m,m<fuel/\owner.getD (cM mask (i,per) m).1 (some 0)=none)->∃j,SetTable.layClean.free mask owner fuel i per=some j/\owner.getD j (some 0)=none
 |0,i,per,⟨m,h,_⟩=>by omega
 |fuel+1,i,per,⟨m,hm,he⟩=>by
  unfold SetTable.layClean.free;cases hf:(List.range (SetTable.runEnd mask i+1-i)).find? λk=>(owner.getD (i+k) (some 0)).isNone with
  |some k=>
   have:=List.find?_some hf
   exact⟨i+k,rfl,Option.isNone_iff_eq_none.mp this⟩
  |none=>
   cases m with
   |zero=>
    have h0:=List.find?_eq_none.mp hf 0 (Bo.mpr (by unfold SetTable.runEnd;split<;>omega))
    rw[Nat.add_zero]at h0;exact absurd (Option.isNone_iff_eq_none.mpr he) h0
   |succ m=>
    exact oM fuel _ _ ⟨m,by omega,he⟩
def jG(owner:Array (Option Nat)):Nat:=owner.toList.countP (·.isSome)
def yQ{owner:Array (Option Nat)}(h:jG owner<owner.size):∃e,e<owner.size/\owner.getD e (some 0)=none:=by
 unfold jG at h;have h1:¬ ∀x∈owner.toList,(x.isSome)=true:=λz=>by
  rw[List.countP_eq_length.mpr z,Ay]at h;omega
 have h2:∃x∈owner.toList,¬x.isSome=true:=by
  exact Classical.byContradiction λz=>h1 λx hx=>Classical.byContradiction λy=>z ⟨x,hx,y⟩
 obtain⟨x,hx,hn⟩:=h2;obtain⟨e,he,ex⟩:=Co.mp hx;rw[Ay]at he;refine⟨e,he,?_⟩;rw[Ag,Aj he];have:owner[e]=x:=ex
 rw[this];cases x with
 |none=>rfl
 |some _=>exact absurd rfl hn
def aZ3{k:Nat}(h:owner.getD j (some 0)=none):jG (owner.setIfInBounds j (some k))=jG owner+1:=by
 have hj:j<owner.size:=by
  refine Fz λz=>?_;rw[Ag,Bw z]at h;cases h
 have hv:owner[j]=none:=by
  rw[Ag,Aj hj]at h;exact h
 unfold jG;rw[Array.toList_setIfInBounds,List.countP_set (by rw[Ay];exact hj)]
 have e:owner.toList[j]'(by rw[Ay];exact hj)=none:=hv
 rw[e];simp
structure Laid (mask n:Nat) (owner:Array (Option Nat)):Prop where
 size:owner.size=mask+1
 many:jG owner=n
 low:∀j k,owner.getD j none=some k->k<n
 all:∀k,k<n->∃j,owner.getD j none=some k
def getD_none(h:owner.getD j (some 0)=none):j<owner.size/\owner.getD j none=none:=by
 have hj:j<owner.size:=by
  refine Fz λz=>?_;rw[Ag,Bw z]at h;cases h
 rw[Ag,Aj hj]at h ⊢;exact⟨hj,h⟩
def lD{k:Nat}(hj:j<owner.size):(owner.setIfInBounds j (some k)).getD i none=if i=j then some k else owner.getD i none:=by
 rw[Ag,Array.getElem?_setIfInBounds,Ag];by_cases e:j=i
 .subst e;rw[if_pos rfl,if_pos hj,if_pos rfl];rfl
 .rw[if_neg e,if_neg λz=>e z.symm]
def aJI(F:Full (mask+1))(L:Laid mask n owner)(hn:n<=mask)(h:Int):∃j,SetTable.layClean.free mask owner (SetTable.turns mask) (SetTable.bits h%(mask+1)) (SetTable.bits h)=some j/\Laid mask (n+1) (owner.setIfInBounds j (some n)):=by
 obtain⟨e,he,hv⟩:=yQ (owner:=owner) (by rw[L.many,L.size];omega)
 rw[L.size]at he;obtain⟨m,hm,e1⟩:=dQT F (i:=SetTable.bits h%(mask+1)) (Nat.mod_lt _ (Nat.succ_pos _)) (wB h) he;obtain⟨j,h1,h2⟩:=oM (SetTable.turns mask) (SetTable.bits h%(mask+1)) (SetTable.bits h) ⟨m,by unfold SetTable.turns;omega,by rw[e1];exact hv⟩
 obtain⟨hj,hjn⟩:=getD_none h2;refine⟨j,h1,by rw[Array.size_setIfInBounds];exact L.size,by rw[aZ3 h2,L.many],λi k hk=>?_,λk hk=>?_⟩
 .rw[lD hj]at hk;split at hk
  .cases hk;omega
  .have:=L.low i k hk
   omega
 .by_cases e:k=n
  .exact⟨j,by rw[lD hj,if_pos rfl,e]⟩
  .obtain⟨i,hi⟩:=L.all k (by omega)
   refine⟨i,?_⟩;rw[lD hj,if_neg λz=>by rw[z,hjn]at hi;cases hi]
   exact hi
def aQD(F:Full (mask+1))(hn:hs.size<=mask+1):∃owner,SetTable.layClean mask hs=some owner/\Laid mask hs.size owner:=by
 have key:∀ (l:List Int) (owner:Array (Option Nat)) (k:Nat),Laid mask k owner->k+l.length<=mask+1->∃ o,l.foldl (λ(acc:Option (Array (Option Nat)×Nat)) h=>do
     let (owner,k) <-acc
     let j <-SetTable.layClean.free mask owner (SetTable.turns mask) (SetTable.bits h%(mask+1)) (SetTable.bits h)
     pure (owner.setIfInBounds j (some k),k+1)) (some (owner,k))=some (o,k+l.length)/\Laid mask (k+l.length) o:=by
  intro l;induction l with
  |nil=>intro owner k L _;exact⟨owner,rfl,L⟩
  |cons h r ih=>
   intro owner k L hk;rw[Bj]at hk;obtain⟨j,h1,h2⟩:=aJI F L (by omega) h
   obtain⟨o,h3,h4⟩:=ih _ _ h2 (by omega)
   refine⟨o,?_,by rw[Bj,show k+(r.length+1)=k+1+r.length by omega];exact h4⟩
   rw[List.foldl_cons,Bj,show k+(r.length+1)=k+1+r.length by omega,<-h3]
   refine Cy (λx=>r.foldl _ x) ?_;show (SetTable.layClean.free mask owner (SetTable.turns mask) (SetTable.bits h%(mask+1)) (SetTable.bits h)).bind _=_
   rw[h1];rfl
 have L0:Laid mask 0 (Array.replicate (mask+1) none):=by
  refine⟨Array.size_replicate,?_,λj k hk=>?_,λk hk=>absurd hk (Eu _)⟩
  .unfold jG;rw[Array.toList_replicate,List.countP_replicate];rfl
  .rw[Ag,Array.getElem?_replicate]at hk;split at hk<;>cases hk
 obtain⟨o,h1,h2⟩:=key hs.toList _ 0 L0 (by rw[Ay];omega)
 rw[Nat.zero_add,Ay]at h2;refine⟨o,?_,h2⟩;unfold SetTable.layClean;rw[<-Array.foldl_toList,h1];rfl
def rC(owner:Array (Option Nat))(n:Nat)(hn:owner.size=n):((List.range n).filterMap λj=>(owner.getD j none).map (j,·)).length=jG owner:=by
 rw[List.length_filterMap_eq_countP];unfold jG;have e:owner.toList=(List.range n).map λj=>owner.getD j none:=by
  refine List.ext_getElem (by rw[Ac,Cu,Ay,hn]) λi h1 h2=>?_
  rw[Dy,Gj,Ag,Aj (by rw[Ay]at h1;exact h1)]
  rfl
 rw[e,List.countP_map];refine List.countP_congr λj _=>?_;show ((owner.getD j none).map (j,·)).isSome=true ↔ (owner.getD j none).isSome=true
 rw[Gv]
def dR(xs:Array α)(p:Nat)(x:α):(SetTable.insertAt xs p x).size=xs.size+1:=by
 unfold SetTable.insertAt;simp only[Array.size_append,Array.size_push,Array.size_extract];omega
def lN{xs:Array α}{p:Nat}{x e:α}(h:e∈(SetTable.insertAt xs p x).toList):e=x\/e∈xs.toList:=by
 unfold SetTable.insertAt at h;rw[Array.toList_append,Array.toList_push,Ed]at h;rcases Cj.mp h with z|z
 .rw[Fv]at z;exact .inr (List.mem_of_mem_drop (Fa z))
 .rcases Av.mp z with y|y
  .exact .inl y
  .rw[Fv]at y;exact .inr (List.mem_of_mem_drop (Fa y))
def bM(i:Nat):Nat:=if i<=4 then 7 else if i<=18 then 31 else 127
def jL(i:Nat):Full (bM i+1)/\bM i%2=1:=by
 unfold bM;split
 .exact⟨dQI,rfl⟩
 .split
  .exact⟨cQ1,rfl⟩
  .exact⟨bZG,rfl⟩
def aQO{items:Array Value}{Q:Bool->Shared->Prop}(ho:s.heap.get? a=some o)(hc:o.cls=.type "tuple")(hd:o.data=.seq items n)(hi:∀v∈items.toList,∃k t,v=.int k t)(q:Q true s):wpAny (model prog w) A (hashByValue 8 (.ref a)) Q E s:=by
 rw[show (8:Nat)=7+1 from rfl];unfold hashByValue;have hT:s.TypeIs (.ref a) "tuple" := ⟨o,ho,hc⟩
 refine Aa (Ep hT PySem.F.slot_tuple_hash.lookup ?_);dsimp only;refine Aa (Fs ho hd ?_);rw[Option.getD_some,<-Array.forIn_toList];refine Aa (wpAny_forIn_list _ (λrest r s'=>r=(none,())/\s'=s/\∀v∈rest,∃k t,v=.int k t) _ ?_ ?_ _ _ ⟨rfl,rfl,hi⟩)
 .rintro x rest r s' ⟨rfl,rfl,hx⟩;obtain⟨k,t,rfl⟩:=hx _ Al;rw[hashByValue_scannable 7 rfl];refine Aa (Ae ?_);exact Ae ⟨rfl,rfl,λv hv=>hx v (Ak _ hv)⟩
 .rintro r s' ⟨rfl,rfl,_⟩;exact Ae q
def gF{t:SetTable}(h1:t.place.size=n)(h2:t.dummies=#[])(h3:n<=t.mask):t.fits n=true:=by
 unfold SetTable.fits SetTable.fill;rw[h1,h2];simp;omega
def eG{i:Nat}(h:i<=76):i<=bM i:=by
 unfold bM;split
 .omega
 .split<;>omega
def pZ{t:SetTable}(es':Array (Int×Value))(t':SetTable)(ho:h.get? S=some o)(hx:o.ExactSet)(hd:o.data=.set es ep t):∃o':Obj,(h.update S (Obj.putSet es' t')).get? S=some o'/\o'.ExactSet/\o'.data=.set es' (ep+1) t'/\Heap.SameBut S h (h.update S (Obj.putSet es' t')):=by
 refine⟨{o with data:=.set es' (ep+1) t'},?_,hx,rfl,?_⟩
 .rw[<-putSet_of es' t' hd];exact Dj _ ho (by rw[putSet_of es' t' hd];rfl)
 .exact⟨Heap.size_update ..,λb hb=>Bx _ _ hb.symm⟩
def aZN{t:SetTable}(h:t.mask=bM i):Full (t.mask+1)/\t.mask%2=1:=by rw[h];exact jL i
def sW(a b:Int):Int:=reduceHash (Builtin.Tuple.tupleHashOf [hashInt a,hashInt b])
def xZ:∀a b c d:_root_.Fin 8,sW a.val b.val=sW c.val d.val->a=c/\b=d:=by decide +kernel
def aX5{a b c d:Nat}(ha:a<8)(hb:b<8)(hc:c<8)(hd:d<8)(h:(a,b)≠(c,d)):sW a b≠sW c d:=λz=>by
 obtain⟨e1,e2⟩:=xZ ⟨a,ha⟩ ⟨b,hb⟩ ⟨c,hc⟩ ⟨d,hd⟩ z;exact h (by rw[show a=c from Cy Fin.val e1,show b=d from Cy Fin.val e2])
def tkh(a b:Int):tupleKeyHash (PySem.intKind prog w) [a,b]=sW a b:=rfl
def kF(ws:List (Nat×Nat)):List (List Int):=ws.map λw=>[(w.1:Int),(w.2:Int)]
def mN{w:Nat×Nat}(h:ws[i]?=some w):(kF ws).getD i []=[(w.1:Int),(w.2:Int)]:=by
 unfold kF;rw[Ah,Am,h];rfl
def aZH(h8:∀w∈ws,w.1<8/\w.2<8)(nd:ws.Nodup)(hj:j<i)(hi:i<ws.length):tupleKeyHash (PySem.intKind prog w) ((kF ws).getD j [])≠tupleKeyHash (PySem.intKind prog w) ((kF ws).getD i []):=by
 have hj':j<ws.length:=by omega
 rw[mN (Ab hj'),mN (Ab hi),tkh,tkh];have hn:ws[j]≠ws[i]:=Bg.mp nd j i hj' hi hj
 have a1:=h8 _ (Bu hj')
 have a2:=h8 _ (Bu hi)
 exact aX5 a1.1 a1.2 a2.1 a2.2 hn
end
section
open PySem.AutoSeq1 (wpAny_loadPart')
open PySem.MeetsSeq PySem.MeetsSeq2 PySem.MeetsSeq3
open PySem.W (KasT kas_sort kas_cmp kas_item kas_item_eq kas_range kas_runs kas_kind kas_st)
def uE(lt:Nat->Nat->Bool):KasT α->α
 |.ret a=>a
 |.ask i j k=>uE lt (k (lt i j))
def kok(lt:Nat->Nat->Bool)(n:Nat):KasT α->Bool
 |.ret _=>true
 |.ask i j k=>decide (i<n)&&decide (j<n)&&kok lt n (k (lt i j))
def sI{cmp:Nat->Nat->(Bool->Shared->Prop)->Shared->Prop}{lt:Nat->Nat->Bool}{Q:α->Shared->Prop}(hc:∀i j C,i<n->j<n->C (lt i j) s->cmp i j C s):∀t:KasT α,kok lt n t=true->Q (uE lt t) s->t.kasWp cmp Q s
 |.ret _,_,h=>h
 |.ask i j k,o,h=>by
  simp only[kok,Bool.and_eq_true,decide_eq_true_eq]at o;exact hc i j _ o.1.1 o.1.2 (sI hc (k (lt i j)) o.2 h)
def dB(lt:Nat->Nat->Bool)(vs:List Value):List Value:=if vs.length<2 then vs else (uE lt (kas_sort vs.length)).toList.map λi=>vs.getD i .none
def yV(h:Heap)(a:Addr)(vs:List Value):Heap:=((h.update a (Obj.mapSeq λ_=>(#[]:Array Value))).push (seqObj "tuple" vs.toArray 0)).push (seqObj "list" #[] 0)
def aZU(ne:b≠a)(e:h.get? b=some o):(yV h a vs).get? b=some o:=
 Ad _ (Ad _ (((Ce h a _).2 b ne).trans e))
def bQ9(e:h.get? a=some (seqObj "list" vs.toArray n)):∃c,(h.update a (Obj.mapSeq λ_=>(#[]:Array Value))).get? a=some (seqObj "list" #[] c)/\(yV h a vs).get? a=some (seqObj "list" #[] c):=
 ⟨_,get?_update_seq e λ_=>#[],Ad _ (Ad _ (get?_update_seq e λ_=>#[]))⟩
def aQG{lt:Nat->Nat->Bool}{p:Array Nat}(h2:¬vs.length<2)(e:p=uE lt (kas_sort vs.length))(z:p.size=vs.length):(dB lt vs).length=vs.length/\dB lt vs=p.toList.map λi=>vs.getD i .none:=by
 unfold dB;rw[if_neg h2,<-e];exact⟨by rw[Ac,Ay,z],rfl⟩
def pX(vs:List Value):(vs.toArray.zip vs.toArray).map (·.2)=vs.toArray:=Array.toList_inj.mp (by simp[List.map_snd_zip])
def yC(vs:List Value)(p:Array Nat):(p.map (kas_item (pairsOf vs))).map (·.2)=(p.toList.map λi=>vs.getD i .none).toArray:=by
 cases p with
 |mk l=>simp only[List.map_toArray,List.map_map];congr 1;exact List.map_congr_left λi _=>congrArg Prod.snd (kas_item_eq vs i)
def nY:∀ {ps:List Addr} {us:List Value},Vals (ps.map V.ref) us->us=ps.map Value.ref
 |[],_,.nil=>rfl
 |p::ps,_,.cons r t=>by cases r;rw[nY t];rfl
def nT(f:α->Addr):∀l:List α,Vals (l.map λi=>V.ref (f i)) (l.map λi=>Value.ref (f i))
 |[]=>.nil
 |_::l=>.cons rfl (nT f l)
end
section
open PySem
open PySem.Spec PyProof.Rows
def Ris(xs:Array Nat):Prop:=∀(i k a b:Nat),i<k->xs[i]?=some a->xs[k]?=some b->a<b
def wC(xs:Array Nat)(j p:Nat):Prop:=p<=xs.size/\(∀k v,k<p->xs[k]?=some v->v<j)/\∀k v,p<=k->xs[k]?=some v->j<=v
def lY{xs:Array Nat}(R:Ris xs):∀(fuel lo hi:Nat),hi-lo<=fuel->lo<=hi->hi<=xs.size->(∀k v,k<lo->xs[k]?=some v->v<j)->(∀k v,hi<=k->xs[k]?=some v->j<=v)->wC xs j (SetTable.below.go xs j fuel lo hi)
 |0,lo,hi,h1,h2,h3,h4,h5=>by
  have e:hi=lo:=by omega
  subst e;exact⟨h3,h4,h5⟩
 |fuel+1,lo,hi,h1,h2,h3,h4,h5=>by
  unfold SetTable.below.go;by_cases h:lo<hi
  .rw[if_pos h];have hm:(lo+hi) / 2<xs.size:=by omega
   have em:xs[(lo+hi) / 2]?=some xs[(lo+hi) / 2]:=Aj hm
   have eg:xs.getD ((lo+hi) / 2) j=xs[(lo+hi) / 2]:=by rw[Ag,em];rfl
   dsimp only;rw[eg];by_cases hv:xs[(lo+hi) / 2]<j
   .rw[if_pos hv];refine lY R fuel _ _ (by omega) (by omega) h3 (λk v hk ek=>?_) h5
    by_cases e:k=(lo+hi) / 2
    .rw[e,em]at ek;cases ek;exact hv
    .have:=R k _ v _ (by omega) ek em;omega
   .rw[if_neg hv];refine lY R fuel _ _ (by omega) (by omega) (by omega) h4 (λk v hk ek=>?_)
    by_cases e:k=(lo+hi) / 2
    .rw[e,em]at ek;cases ek;omega
    .have:=R _ k _ v (show (lo+hi) / 2<k by omega) em ek;omega
  .rw[if_neg h];have e:hi=lo:=by omega
   subst e;exact⟨h3,h4,h5⟩
def fT{xs:Array Nat}(R:Ris xs)(j:Nat):wC xs j (SetTable.below xs j):=
 lY R xs.size 0 xs.size (by omega) (Cq _) (Ai _) (λk v hk=>absurd hk (Eu _)) λk v hk ek=>by
  rw[Bw hk]at ek;cases ek
def aZG{xs:Array Nat}(R:Ris xs)(h:xs[i]?=some j):SetTable.below xs j=i:=by
 obtain⟨h1,h2,h3⟩:=fT R j;generalize SetTable.below xs j=p at h1 h2 h3;by_cases e:i<p
 .have:=h2 i j e h;omega
 .by_cases e':p<i
  .have hp:p<xs.size:=by have:=(Bm.mp h).1;omega
   have ep:=Aj hp
   have a:=h3 p _ (Ai _) ep
   have b:=R p i _ _ e' ep h
   omega
  .omega
def vU{t:SetTable}(R:Ris t.place)(h:t.place[i]?=some j):t.slot j=.live i:=by
 unfold SetTable.slot;rw[aZG R h];simp only[h,beq_self_eq_true,if_true]
def eW(xs:Array α){p:Nat}(x:α)(hp:p<=xs.size)(i:Nat):(SetTable.insertAt xs p x)[i]?=if i<p then xs[i]? else if i=p then some x else xs[i-1]? := by
 have e:(SetTable.insertAt xs p x).toList=xs.toList.take p++x::xs.toList.drop p:=by
  unfold SetTable.insertAt;rw[Array.toList_append,Array.toList_push,Fv,Fv,Ed];simp only[List.extract_eq_drop_take,Nat.sub_zero,List.drop_zero,List.singleton_append];rw[show xs.size-p=(xs.toList.drop p).length by rw[Ei,Ay],Ck]
 rw[<-Cb,e];have hl:(xs.toList.take p).length=p:=by rw[Bt,Ay];omega
 by_cases h:i<p
 .rw[if_pos h,Bd (by omega),List.getElem?_take,if_pos h,Cb]
 .rw[if_neg h,Bp (by omega),hl]
  by_cases h2:i=p
  .rw[if_pos h2,h2,Nat.sub_self];rfl
  .rw[if_neg h2,show i-p=(i-p-1)+1 by omega,List.getElem?_cons_succ,List.getElem?_drop,Cb,show p+(i-p-1)=i-1 by omega]
def bXB{xs:Array Nat}{j0:Nat}(R:Ris xs)(hn:∀i:Nat,xs[i]?≠some j0):Ris (SetTable.insertAt xs (SetTable.below xs j0) j0):=by
 obtain⟨h1,h2,h3⟩:=fT R j0;generalize SetTable.below xs j0=p at h1 h2 h3;have h3':∀k v,p<=k->xs[k]?=some v->j0<v:=λk v hk ek=>by
  have:=h3 k v hk ek
  have:v≠j0:=λz=>hn k (by rw[ek,z])
  omega
 intro i k a b hik ea eb;rw[eW _ _ h1]at ea eb;by_cases hi:i<p
 .rw[if_pos hi]at ea;by_cases hk:k<p
  .rw[if_pos hk]at eb;exact R i k a b hik ea eb
  .rw[if_neg hk]at eb;have:=h2 i a hi ea
   by_cases hk':k=p
   .rw[if_pos hk']at eb;cases eb;exact this
   .rw[if_neg hk']at eb;have:=h3' _ b (by omega) eb;omega
 .rw[if_neg hi]at ea;rw[if_neg (by omega),if_neg (by omega)]at eb
  by_cases hi':i=p
  .rw[if_pos hi']at ea;cases ea;exact h3' _ b (by omega) eb
  .rw[if_neg hi']at ea;exact R _ _ a b (by omega) ea eb
def oY{t:SetTable}{f:Nat->Int}{h:Int}(hd:t.dummies=#[]):∀(fuel:Nat) (p:SetTable.Probe) (j:Nat),SetTable.probe.go t f h fuel p=some (.empty j none)->∃n,n<fuel/\(adv t p n).j=j/\t.slot j=.empty/\∀n',n' < n->∃i,t.slot (adv t p n').j=.live i
 |0,p,j,e=>by cases e
 |fuel+1,p,j,e=>by
  unfold SetTable.probe.go at e;cases hs:t.slot p.j with
  |empty=>
   rw[hs]at e;simp only[Option.some.injEq,SetTable.Met.empty.injEq]at e;refine⟨0,Nat.succ_pos _,e.1,?_,λn' hn'=>absurd hn' (Eu _)⟩;rw[<-e.1];exact hs
  |dummy=>exact absurd hs (kZ hd)
  |live i=>
   rw[hs]at e;simp only at e;split at e
   .cases e
   .obtain⟨n,h1,h2,h3,h4⟩:=oY hd fuel (t.advance p) j e;refine⟨n+1,by omega,h2,h3,λn' hn'=>?_⟩
    cases n' with
    |zero=>exact⟨i,hs⟩
    |succ n'=>exact h4 n' (by omega)
def dL{β:Type}(g:Nat->Option β):∀n,((List.range n).filterMap λj=>(g j).map (j,·)).Pairwise (λa b=>a.1<b.1)
 |0=>.nil
 |n+1=>by
  rw[Dp,Ci];refine List.pairwise_append.mpr ⟨dL g n,?_,λa ha b hb=>?_⟩
  .cases e:g n with
   |none=>simp[e]
   |some k=>simp[e]
  .obtain⟨j,hj,ej⟩:=Cp.mp ha;obtain⟨k,hk,ek⟩:=Cp.mp hb;rw[Ap.mp hk]at ek;obtain⟨_,_,rfl⟩:=By.mp ej;obtain⟨_,_,rfl⟩:=By.mp ek;exact Bo.mp hj
def lL{t:SetTable}{es:Array (Int×Value)}(F:Full (SetTable.sizeAbove wanted))(hp:0<SetTable.sizeAbove wanted)(hs:es.size<=SetTable.sizeAbove wanted):∃t' order,t.relaid (es.map (·.1)) wanted=some (t',order)/\t'.mask=SetTable.sizeAbove wanted-1/\t'.dummies=#[]/\t'.place.size=es.size/\(order.filterMap (es[·]?)).size=es.size/\Ris t'.place/\(∀e,e∈(order.filterMap (es[·]?)).toList ↔ e∈es.toList):=by
 generalize hM:SetTable.sizeAbove wanted=M at *;obtain⟨mask,rfl⟩:∃mask,M=mask+1:=⟨M-1,by omega⟩
 obtain⟨owner,h1,h2⟩:=aQD F (hs:=es.map (·.1)) (by rw[Array.size_map];exact hs)
 rw[Array.size_map]at h2;have hlen:=rC owner (mask+1) h2.size
 rw[h2.many]at hlen;unfold SetTable.relaid SetTable.laid;rw[hM,Nat.add_sub_cancel,h1];have hris:=dL (λj=>owner.getD j none) (mask+1)
 have hmem:∀j k,(j,k)∈((List.range (mask+1)).filterMap λj=>(owner.getD j none).map (j,·)) ↔ owner.getD j none=some k:=λj k=>by
  rw[Cp];constructor
  .rintro⟨i,_,hi⟩;obtain⟨k2,hk2,e⟩:=By.mp hi;cases e;exact hk2
  .intro e;refine⟨j,Bo.mpr ?_,by rw[e];rfl⟩
   rw[<-h2.size];refine Fz λz=>?_;rw[Ag,Bw z]at e;cases e
 generalize hlive:((List.range (mask+1)).filterMap λj=>(owner.getD j none).map (j,·))=live at hlen hris hmem;have hlow:∀x∈live,x.2<es.size:=λx hx=>h2.low _ _ ((hmem x.1 x.2).mp hx)
 have hfm:∀l:List (Nat×Nat),(∀x∈l,x.2<es.size)->(l.map (·.2)).filterMap (es[·]?)=l.map λx=>es.getD x.2 (0,.none):=λl=>by
  induction l with
  |nil=>intro _;rfl
  |cons x r ih=>
   intro hx;have e:es[x.2]?=some (es.getD x.2 (0,.none)):=by
    rw[Ag,Aj (hx x Al)];rfl
   rw[Aq,Eb e,Aq,ih λy hy=>hx y (Ak _ hy)]
 have hes:((live.map (·.2)).toArray.filterMap (es[·]?)).toList=live.map λx=>es.getD x.2 (0,.none):=by
  rw[Gx,Gb];exact hfm live hlow
 have hpl:∀i:Nat,(live.map (·.1)).toArray[i]?=(live[i]?).map (·.1):=λi=>by
  rw[List.getElem?_toArray,Am]
 refine⟨_,_,rfl,rfl,rfl,?_,?_,?_,?_⟩
 .show (List.toArray _).size=_
  rw[Be,Ac,hlive,hlen]
 .rw[hlive,<-Ay,hes,Ac,hlen]
 .rw[hlive];intro i k a b hik ea eb;rw[hpl]at ea eb;obtain⟨x,hx,rfl⟩:=By.mp ea;obtain⟨y,hy,rfl⟩:=By.mp eb;obtain⟨hi',e1⟩:=Af.mp hx;obtain⟨hk',e2⟩:=Af.mp hy;have:=Bg.mp hris i k hi' hk' hik
  rw[e1,e2]at this;exact this
 .rw[hlive];intro e;rw[hes];constructor
  .intro he;obtain⟨x,hx,rfl⟩:=Bc.mp he;rw[Ag,Aj (hlow x hx)];exact Do (hlow x hx)
  .intro he;obtain⟨k,hk,rfl⟩:=Array.mem_iff_getElem.mp (Ew.mp he);obtain⟨j,hj⟩:=h2.all k hk;refine Bc.mpr ⟨(j,k),(hmem j k).mpr hj,?_⟩;show es.getD k (0,.none)=_
   rw[Ag,Aj hk];rfl
def sth(es:Array (Int×Value))(i:Nat):Int:=(es[i]?.map (·.1)).getD 0
def aZ5{e:Int×Value}(h:es[i]?=some e):sth es i=e.1:=by
 unfold sth;rw[h];rfl
def uM{t:SetTable}{x:Value}{h:Int}{Q:SetFound->Shared->Prop}(ho:s.heap.get? a=some o)(hd:o.data=.set es ep t)(hf:t.fits es.size=true)(F:Full (t.mask+1))(hod:t.mask%2=1)(hdm:t.dummies=#[])(hs:t.place.size=es.size)(hle:es.size<=t.mask)(hne:∀e∈es.toList,e.1≠h)(q:∀j,t.probe (sth es) h (t.probeStart h)=some (.empty j none)->Q (.free j false) s):wpAny (model prog w) A (setSearch a x h true) Q E s:=by
 have hp:∀f:Nat->Int,(f=sth es)->∃j,t.probe f h (t.probeStart h)=some (.empty j none):=λf hfe=>by
  subst hfe;refine kE F hdm (by omega) λi hi=>?_
  have hi':i<es.size:=by omega
  rw[aZ5 (Aj hi')];exact hne _ (Do hi')
 unfold setSearch;rw[show (100000:Nat)=99999+1 from rfl];unfold setSearchFrom;refine Aa (Bz ho hd hf ?_);dsimp only;have hg:t.gaveWay=false:=by unfold SetTable.gaveWay;rw[hod];rfl
 rw[hg];simp only[Bool.false_eq_true,if_false];rw[Option.getD_none,Classical.choose_spec (hp _ ?hG)];case hG=>rfl
 exact Ae (q _ (Classical.choose_spec (hp _ rfl)))
def eS{xs:Array α}{p:Nat}{x e:α}(hp:p<=xs.size)(h:e=x\/e∈xs.toList):e∈(SetTable.insertAt xs p x).toList:=by
 rw[Ew];rcases h with rfl|h
 .exact Fm (i:=p) (by rw[eW _ _ hp,if_neg (Dm _),if_pos rfl])
 .obtain⟨i,hi⟩:=Eo.mp h;rw[Cb]at hi;by_cases hip:i<p
  .exact Fm (i:=i) (by rw[eW _ _ hp,if_pos hip];exact hi)
  .exact Fm (i:=i+1) (by rw[eW _ _ hp,if_neg (by omega),if_neg (by omega)];exact hi)
def xC{t:SetTable}{h:Int}{slot:Nat}(hdm:t.dummies=#[])(R:Ris t.place)(hp:t.probe (sth es) h (t.probeStart h)=some (.empty slot none)):Ris (t.put slot).1.place:=by
 obtain⟨n,_,_,h3,_⟩:=oY hdm _ _ _ hp;exact bXB R λi z=>by rw[vU R z]at h3;cases h3
def Alx(H:Hp):Nat->V->V->Prop
 |0,x,y=>x=y/\(bD x=true\/∃p,x=.ref p)
 |n+1,x,y=>(x=y/\(bD x=true\/∃p,x=.ref p))\/∃p q,x=.ref p/\y=.ref q/\((∃xs ys,rdL H p=some xs/\rdL H q=some ys/\xs.length=ys.length/\∀(j:Nat) x' y',xs[j]?=some x'->ys[j]?=some y'->Alx H n x' y')\/∃kvs kws,Rd H p (.dK kvs)/\Rd H q (.dK kws)/\DEq kvs kws)
def Alx.same{x:V}(h:bD x=true\/∃p,x=.ref p):Alx H n x x:=by
 cases n with
 |zero=>exact⟨rfl,h⟩
 |succ n=>exact .inl ⟨rfl,h⟩
def tE{x:V}{v:Value}(h:bD x=true\/∃p,x=.ref p)(ru:RelV x u)(rv:RelV x v):EqW X.prog X.w A s u v:=by
 rcases h with hf|⟨p,rfl⟩
 .have:=iG (A:=A) (s:=s) ru rv hf hf
  rw[fU hf]at this;exact λE Q hq=>this X.prog X.w E Q hq
 .cases ru;cases rv;exact .same _
def aZJ(I:Inv X y3 U H s)(hp:rdL H p=some xs)(hq:rdL H q=some ys)(hl:xs.length=ys.length)(h:∀(j:Nat) x' y' u v,xs[j]?=some x'->ys[j]?=some y'->RelV x' u->RelV y' v->EqW X.prog X.w A.in1 s u v)(hu:A.units<cLine)(E:Q2)(Q:Q2):(Q (.bool true) s->wpAny (model X.prog X.w) A (richCompare .Eq (.ref p) (.ref q)) Q E s)/\(Q (.bool false) s->wpAny (model X.prog X.w) A (richCompare .NotEq (.ref p) (.ref q)) Q E s):=by
 obtain⟨its,r1,l1,_⟩:=I.list (aU hp);obtain⟨its2,r2,l2,_⟩:=I.list (aU hq);have e1:=r1.length
 have e2:=r2.length
 have he:∀j (h1:j<its.toArray.size) (h2:j<its2.toArray.size),EqW X.prog X.w A.in1 s its.toArray[j] its2.toArray[j]:=λj h1 h2=>by
  have h1':j<its.length:=by simpa using h1
  have h2':j<its2.length:=by simpa using h2
  obtain⟨u',hu',ru'⟩:=r1.get (Ab (show j<xs.length by omega))
  obtain⟨v',hv',rv'⟩:=r2.get (Ab (show j<ys.length by omega))
  rw[Ab h1']at hu';rw[Ab h2']at hv';cases hu';cases hv'
  simpa using h j _ _ _ _ (List.getElem?_eq_getElem _) (List.getElem?_eq_getElem _) ru' rv'
 have hs:its.toArray.size=its2.toArray.size:=by simp only[List.size_toArray];omega
 exact⟨λq=>aZ9 l1.isList l2.isList hs hu he q,λq=>aQV l1.isList l2.isList hs hu he q⟩
def cZD(I:Inv X y3 U H s):∀(n:Nat) (A:Around) (x y:V) (u v:Value),Alx H n x y->RelV x u->RelV y v->A.units+n<cLine->EqW X.prog X.w A s u v:=by
 intro n;induction n with
 |zero=>
  intro A x y u v h ru rv hu;obtain⟨rfl,hx⟩:=h;exact tE hx ru rv
 |succ n ih=>
  intro A x y u v h ru rv hu;rcases h with⟨rfl,hx⟩|⟨p,q,rfl,rfl,hpq⟩
  .exact tE hx ru rv
  .cases ru;cases rv;by_cases e:p=q
   .subst e;exact .same _
   rcases hpq with⟨xs,ys,hp,hq,hl,h⟩|⟨kvs,kws,hp,hq,d⟩
   .exact .refs e λE Q hq'=>(aZJ I hp hq hl (λj x' y' u v hx hy hu' hv'=>ih A.in1 x' y' u v (h j x' y' hx hy) hu' hv' (by show A.units+1+n<cLine;omega)) (by omega) E Q).1 hq'
   .exact .refs e λE Q hq'=>(xP I hp hq d (by omega) E Q).1 hq'
def dQV(neg:Bool):R2:=λx y H Q=>∃n p q xs ys,n<=50/\x=.ref p/\y=.ref q/\rdL H p=some xs/\rdL H q=some ys/\xs.length=ys.length/\(∀(j:Nat) x' y',xs[j]?=some x'->ys[j]?=some y'->Alx H n x' y')/\Q (.bl (!neg)) H
def cZW(hu:X.A.units+64<cLine):OpR X (compareOp .NotEq) (dQV true):=by
 intro y3 s U H x y v u Q I rx ry h;obtain⟨n,p,q,xs,ys,hn,rfl,rfl,hp,hq,hl,al,k⟩:=h;cases rx;cases ry;exact(aZJ I hp hq hl (λj x' y' u v hx hy hu' hv'=>cZD I n X.A.in1 x' y' u v (al j x' y' hx hy) hu' hv' (by show X.A.units+1+n<cLine;omega)) (by omega) _ _).2 ⟨.bl false,H,I,rfl,k⟩
def dQA(n:Nat)(hp:rdL H p=some xs)(hq:rdL H q=some ys)(hl:xs.length=ys.length)(al:∀(j:Nat) x' y',xs[j]?=some x'->ys[j]?=some y'->Alx H n x' y')(h:Q (.bl (!neg)) H)(hn:n<=50:=by omega):dQV neg (.ref p) (.ref q) H Q:=⟨n,p,q,xs,ys,hn,rfl,rfl,hp,hq,hl,al,h⟩
end
def yB:∀ {vs:List Value} {ns:List Int},IntsAre vs ns->Vals (ns.map V.int) vs:=by
 intro vs ns h;induction h with
 |nil=>exact .nil
 |cons x t _ ih=>exact .cons ⟨t,rfl⟩ ih
def xH:∀ {vs:List Value} {ns:List Int},vs.length=ns.length->(∀(j:Nat) v x,vs[j]?=some v->ns[j]?=some x->∃t,v=.int x t)->IntsAre vs ns
 |[],[],_,_=>.nil
 |v::r,x::y,hl,h=>by
  obtain⟨t,e⟩:=h 0 v x rfl rfl;subst e;exact .cons x t (xH (by simpa using hl) λj v' x' a b=>h (j+1) v' x' (by simpa using a) (by simpa using b))
 |[],_::_,hl,_=>absurd hl (by simp)
 |_::_,[],hl,_=>absurd hl (by simp)
def Alt(H:Hp):Nat->V->V->Prop
 |0,x,y=>x=y/\bD x=true
 |n+1,x,y=>(x=y/\bD x=true)\/∃p q xs ys,x=.ref p/\y=.ref q/\((rdL H p=some xs/\rdL H q=some ys)\/(H p=some (.tup xs)/\H q=some (.tup ys)))/\xs.length=ys.length/\∀(j:Nat) x' y',xs[j]?=some x'->ys[j]?=some y'->Alt H n x' y'
def Alt.lst{H:Hp}{n:Nat}{p q:Addr}{xs ys:List V}(hp:rdL H p=some xs)(hq:rdL H q=some ys)(hl:xs.length=ys.length)(h:∀(j:Nat) x y,xs[j]?=some x->ys[j]?=some y->Alt H n x y):Alt H (n+1) (.ref p) (.ref q):=.inr ⟨p,q,xs,ys,rfl,rfl,.inl ⟨hp,hq⟩,hl,h⟩
def Alt.tup{H:Hp}{n:Nat}{p q:Addr}{xs ys:List V}(hp:H p=some (.tup xs))(hq:H q=some (.tup ys))(hl:xs.length=ys.length)(h:∀(j:Nat) x y,xs[j]?=some x->ys[j]?=some y->Alt H n x y):Alt H (n+1) (.ref p) (.ref q):=.inr ⟨p,q,xs,ys,rfl,rfl,.inr ⟨hp,hq⟩,hl,h⟩
def nG:entryFor table "set.__iter__"=some Builtin.«frozenset.__iter__» := entryFor_alias (id' := "frozenset.__iter__") (by rw[Gy];kernel_rfl) (by first|rfl|decide +kernel) (by decide +kernel) (by rw[Gy];kernel_rfl)
def slot_setNext:Slot "set_iterator" "__next__" "set_iterator.__next__" := .of (owner := "set_iterator") (n := "__next__") (by rw[typeLookup_type,builtinLookup_eq_fast];kernel_rfl) (by decide +kernel) (by decide +kernel) (by decide +kernel) (by first|exact .inl (by decide +kernel)|exact .inr (by decide +kernel)) (by rw[isSubtype_type];kernel_rfl)
def gN:entryFor table "set_iterator.__next__"=some Builtin.«set_iterator.__next__» := entryFor_of_tree (by kernel_rfl)
def SetIt(h:Heap)(it a:Addr)(slot i n ep:Nat):Prop:=∃o,h.get? it=some o/\o.cls=.type "set_iterator"/\o.data=.fields #[.int slot 0,.int i 0,.ref a,.int n 0,.int ep 0]
structure SetAt (h:Heap) (a:Addr) (es:Array (Int×Value)) (ep:Nat) (t:SetTable):Prop where
 ob:∃o,h.get? a=some o/\o.cls=.type "set"/\o.data=.set es ep t
 fits:t.fits es.size=true
 plain:t.plain=true
 ris:Ris t.place
 sz:t.place.size=es.size
section
variable {t:SetTable}
def aJO{Q:Q2}(S:SetAt s.heap a es ep t)(h:Q (.ref s.heap.objs.size) {s with heap:=s.heap.push {cls:=.type "set_iterator",data:=.fields #[.int 0 0,.int 0 0,.ref a,.int es.size 0,.int ep 0]}}):wpAny (model prog w) A (pyIter (.ref a)) Q E s:=by
 obtain⟨o,ho,hc,hd⟩:=S.ob;have hT:s.TypeIs (.ref a) "set" := ⟨o,ho,hc⟩
 refine wpAny_pyIter_slot hT PySem.F.slot_set_iter (Br PySem.F.slot_set_iter hT nG ?_ (PySem.F.args_set_iter_1 _));show wpAny _ _ (Builtin.Frozenset.sizeOf a >>= _) _ _ s
 unfold Builtin.Frozenset.sizeOf setEntries;refine Aa (Aa (Aa (Bz ho hd S.fits (Ae (Ae ?_)))));unfold setDrawn setsByText;refine Aa (Aa (Bz ho hd S.fits ?_));refine Aa (Aa (Dz (Ae (Ae ?_))));dsimp only;split
 .rename_i hh
  have hh':(!w.params.followText "set-order" && (!t.plain&&decide (es.size>1)))=true:=hh
  rw[S.plain]at hh';simp at hh'
 refine Aa (Ae ?_);unfold setEpoch;refine Aa (Aa (Bz ho hd S.fits (Ae ?_)));exact Aa (Ey (Ae ⟨_,rfl, "set_iterator",_,⟨_,Aw _ rfl,rfl⟩,slot_setNext.lookup,h⟩) (by size_fits))
def iQ(v:Value):argsOk "set_iterator.__next__" ⟨[v],[]⟩:=by
 unfold argsOk;rw[signature?_of (id := "set_iterator.__next__") (n:=['_','_','t','x','e','n','_','_']) (o:=['r','o','t','a','r','e','t','i','_','t','e','s']) (by kernel_rfl) (show Manifest.owners.lookup (String.ofList ['r','o','t','a','r','e','t','i','_','t','e','s'].reverse)=some Manifest.sig_set_iterator by kernel_rfl)]
 kernel_rfl
def cK(w:World)(a:Addr)(ep:Nat)(es:Array (Int×Value)):Array (Int×Value):=if w.params.followText "set-order"=true then pickOrder (w.params.setOrder a ep) es else es
def aW(w:World)(t:SetTable)(i:Nat):Nat:=if w.params.followText "set-order"=true then 0 else if i=0 then 0 else t.place.getD (i-1) 0+1
def kX{t:SetTable}(R:Ris t.place)(hi:i<=t.place.size):SetTable.below t.place (if i=0 then 0 else t.place.getD (i-1) 0+1)=i:=by
 obtain⟨h1,h2,h3⟩:=fT R (if i=0 then 0 else t.place.getD (i-1) 0+1)
 generalize SetTable.below t.place (if i=0 then 0 else t.place.getD (i-1) 0+1)=p at h1 h2 h3 ⊢
 by_cases hi0:i=0
 .rw[if_pos hi0]at h2 h3;by_cases hp:p=0
  .omega
  .obtain⟨v,hv⟩:∃v,t.place[0]?=some v:=⟨_,Aj (by omega)⟩
   exact absurd (h2 0 v (by omega) hv) (Eu _)
 .rw[if_neg hi0]at h2 h3;obtain⟨v,hv⟩:∃v,t.place[i-1]?=some v:=⟨_,Aj (by omega)⟩
  have eg:t.place.getD (i-1) 0=v:=by rw[Ag,hv];rfl
  rw[eg]at h2 h3;by_cases hp:p<i
  .have:=h3 (i-1) v (by omega) hv
   omega
  .by_cases hp2:i<p
   .obtain⟨u,hu⟩:∃u,t.place[i]?=some u:=⟨_,Aj (by omega)⟩
    have l1:=h2 i u hp2 hu
    have l2:=R (i-1) i v u (by omega) hv hu
    omega
   .omega
def aXT{x:Int×Value}{Q:Option Value->Shared->Prop}(S:SetAt s.heap a es ep t)(hl:w.params.followText "set-order"=true\/t.led=true)(hit:SetIt s.heap it a (aW w t i) i es.size ep)(hx:(cK w a ep es)[i]?=some x)(hi:i<es.size)(hQ:∀h',SetIt h' it a (aW w t (i+1)) (i+1) es.size ep->Heap.SameBut it s.heap h'->Q (some x.2) {s with heap:=h'}):wpAny (model prog w) A (pyNext (.ref it)) Q E s:=by
 obtain⟨o,ho,hc,hd⟩:=S.ob;obtain⟨oi,hoi,hci,hdi⟩:=id hit;have hT:s.TypeIs (.ref it) "set_iterator" := ⟨oi,hoi,hci⟩
 unfold pyNext;refine Aa (De (wpAny_callSpecial?_slot (name:=Str.ofString "__next__") hT slot_setNext (Br slot_setNext hT gN ?_ (iQ _))));show wpAny _ _ (fieldsOf (.ref it) >>= _) _ _ s
 refine Aa (wpAny_fieldsOf hoi hdi ?_);dsimp only;unfold setEntries;refine Aa (Aa (Bz ho hd S.fits (Ae ?_)));dsimp only;rw[if_neg (by simp)]
 have key:wpAny (model prog w) A.in1 (setNext a (aW w t i) i ep) (λr s'=>r=some (x.2,aW w t (i+1))/\s'=s) (λ_ _=>False) s:=by
  unfold setNext;refine Aa (Bz ho hd S.fits ?_);dsimp only;unfold setsByText;refine Aa (Aa (Dz (Ae ?_)));by_cases hb:w.params.followText "set-order"=true
  .have ox:(pickOrder (w.params.setOrder a ep) es)[i]?=some x:=by unfold cK at hx;rw[if_pos hb]at hx;exact hx
   have e1:aW w t (i+1)=aW w t i:=by unfold aW;rw[if_pos hb,if_pos hb]
   rw[e1];show wpAny _ _ (if w.params.followText "set-order"=true then _ else _) _ _ s
   rw[if_pos hb];show wpAny _ _ (if (ep != ep)=true then _ else _) _ _ s
   rw[if_neg (by simp)]
   unfold setWalk setsByText;refine Aa (Aa (Bz ho hd S.fits ?_));refine Aa (Aa (Dz (Ae ?_)));show wpAny _ _ (if w.params.followText "set-order"=true then _ else _) _ _ s
   rw[if_pos hb];refine Aa (Dz (Ae (Ae ⟨?_,rfl⟩)));show ((pickOrder (w.params.setOrder a ep) es)[i]?).map _=_
   rw[ox];rfl
  .have ox:es[i]?=some x:=by unfold cK at hx;rw[if_neg hb]at hx;exact hx
   have hled:t.led=true:=hl.resolve_left hb
   obtain⟨j,hj⟩:∃j,t.place[i]?=some j:=⟨_,Aj (by rw[S.sz];exact hi)⟩
   have e1:aW w t (i+1)=j+1:=by
    unfold aW;rw[if_neg hb,if_neg (Nat.succ_ne_zero i),Nat.add_sub_cancel,Ag,hj];rfl
   have e2:SetTable.below t.place (aW w t i)=i:=by
    unfold aW;rw[if_neg hb];exact kX S.ris (by rw[S.sz];omega)
   rw[e1];show wpAny _ _ (if w.params.followText "set-order"=true then _ else _) _ _ s
   rw[if_neg hb];show wpAny _ _ (if (!t.plain&&decide (es.size>1))=true then _ else _) _ _ s
   rw[if_neg (by rw[S.plain];simp)]
   show wpAny _ _ (do (if (!t.led && !es.isEmpty)=true then _ else _);_) _ _ s
   rw[if_neg (by rw[hled];simp)]
   refine Aa (Ae (Ae ⟨?_,rfl⟩));rw[e2,ox,hj]
 show wpAny _ _ (setNext a ((aW w t i:Nat):Int).toNat ((i:Nat):Int).toNat ((ep:Nat):Int).toNat >>= _) _ _ s
 rw[Ca,Ca,Ca];refine Aa (Cg key (λr s' hr=>?_) λ_ _ z=>z.elim);obtain⟨rfl,rfl⟩:=hr;dsimp only;have n1:(Obj.mapFields (λx=>x.setIfInBounds 0 (rawInt ((aW w t (i+1):Nat):Int))) oi).isFreed=false:=Obj.isFreed_of_fields (Cz hdi _)
 have g1:=Dj (h:=s'.heap) (Obj.mapFields λx=>x.setIfInBounds 0 (rawInt ((aW w t (i+1):Nat):Int))) hoi n1
 refine wpAny_bind (wpAny_setField hoi hdi (by simp) ?_)
 have d1:=Cz hdi λx=>x.setIfInBounds 0 (rawInt ((aW w t (i+1):Nat):Int))
 refine wpAny_bind (wpAny_setField g1 d1 (by simp) ?_)
 refine Ae ⟨_,rfl,Ae (hQ _ ⟨_,Dj _ g1 (Obj.isFreed_of_fields (Cz d1 _)),?_,?_⟩ ((Ce ..).trans (Ce ..)))⟩
 .rw[Fo,Fo];exact hci
 .rw[Cz d1];rfl
def aZR{Q:Option Value->Shared->Prop}(hh:A.handled=hvO ch)(hne:it∉ch)(hcn:Chn s.heap ch)(S:SetAt s.heap a es ep t)(hl:w.params.followText "set-order"=true\/t.led=true)(hpo:(cK w a ep es).size=es.size)(hit:SetIt s.heap it a (aW w t es.size) es.size es.size ep)(hQ:∀h',Heap.ExtBut it s.heap h'->Q none {s with heap:=h'}):wpAny (model prog w) A (pyNext (.ref it)) Q E s:=by
 obtain⟨o,ho,hc,hd⟩:=S.ob;obtain⟨oi,hoi,hci,hdi⟩:=id hit;have hT:s.TypeIs (.ref it) "set_iterator" := ⟨oi,hoi,hci⟩
 unfold pyNext;refine Aa (De (wpAny_callSpecial?_slot (name:=Str.ofString "__next__") hT slot_setNext (Br slot_setNext hT gN ?_ (iQ _))));show wpAny _ _ (fieldsOf (.ref it) >>= _) _ _ s
 refine Aa (wpAny_fieldsOf hoi hdi ?_);dsimp only;unfold setEntries;refine Aa (Aa (Bz ho hd S.fits (Ae ?_)));dsimp only;rw[if_neg (by simp)]
 have key:wpAny (model prog w) A.in1 (setNext a (aW w t es.size) es.size ep) (λr s'=>r=none/\s'=s) (λ_ _=>False) s:=by
  unfold setNext;refine Aa (Bz ho hd S.fits ?_);dsimp only;unfold setsByText;refine Aa (Aa (Dz (Ae ?_)));by_cases hb:w.params.followText "set-order"=true
  .have ox:(pickOrder (w.params.setOrder a ep) es)[es.size]?=none:=by unfold cK at hpo;rw[if_pos hb]at hpo;exact Bw (by omega)
   show wpAny _ _ (if w.params.followText "set-order"=true then _ else _) _ _ s
   rw[if_pos hb];show wpAny _ _ (if (ep != ep)=true then _ else _) _ _ s
   rw[if_neg (by simp)]
   unfold setWalk setsByText;refine Aa (Aa (Bz ho hd S.fits ?_));refine Aa (Aa (Dz (Ae ?_)));show wpAny _ _ (if w.params.followText "set-order"=true then _ else _) _ _ s
   rw[if_pos hb];refine Aa (Dz (Ae (Ae ⟨?_,rfl⟩)));show ((pickOrder (w.params.setOrder a ep) es)[es.size]?).map _=_
   rw[ox];rfl
  .have hled:t.led=true:=hl.resolve_left hb
   have e2:SetTable.below t.place (aW w t es.size)=es.size:=by
    unfold aW;rw[if_neg hb];exact kX S.ris (by rw[S.sz];exact Ai _)
   show wpAny _ _ (if w.params.followText "set-order"=true then _ else _) _ _ s
   rw[if_neg hb];show wpAny _ _ (if (!t.plain&&decide (es.size>1))=true then _ else _) _ _ s
   rw[if_neg (by rw[S.plain];simp)]
   show wpAny _ _ (do (if (!t.led && !es.isEmpty)=true then _ else _);_) _ _ s
   rw[if_neg (by rw[hled];simp)]
   refine Aa (Ae (Ae ⟨?_,rfl⟩));rw[e2,Bw (Ai _)]
 show wpAny _ _ (setNext a ((aW w t es.size:Nat):Int).toNat ((es.size:Nat):Int).toNat ((ep:Nat):Int).toNat >>= _) _ _ s
 rw[Ca,Ca,Ca];refine Aa (Cg key (λr s' hr=>?_) λ_ _ z=>z.elim);obtain⟨rfl,rfl⟩:=hr;dsimp only;refine wpAny_bind (wpAny_setField hoi hdi (by simp) ?_)
 show wpAny _ _ (newExc (Value.type "StopIteration") [] >>= _) _ _ _
 refine Aa ?_;simp only[newTuple,newExc];refine wpAny_bind (wpAny_newObj_type (wpAny_bind (m:=firstArgMember _ _) (wpAny_of_eq (a:=Value.none) (by first|rfl|(simp only[firstArgMember];rfl)) (wpAny_newObj_type ?_ (by size_fits)))) (by size_fits))
 have X0:=((Ce (h:=s'.heap) (a:=it) (f:=Obj.mapFields λx=>x.setIfInBounds 2 Value.none)).extBut.push {cls:=Value.type "tuple",data:=Data.seq #[]}).push (⟨.type "StopIteration",none,.fields (#[.ref (s'.heap.update it (Obj.mapFields λx=>x.setIfInBounds 2 Value.none)).objs.size,.none,.none,.none,.bool false,.none]++ownMembersOf (Value.type "StopIteration") []),#[]⟩:Obj)
 exact cR (s:=s') (h1:=s'.heap.update it (Obj.mapFields λx=>x.setIfInBounds 2 Value.none)) rfl rfl sZ rfl X0 (by simp) hh hne hcn hQ
end
section
variable {R:Result->Shared->Prop} {old:Heap} {l:Addr} {J:Nat->Obj->Prop}
def mC(F:wJ prog w A.in1 old S vs J)(hh:A.in1.handled=hvO ch)(hne:it∉ch)(hcn:Chn old ch)(nSl:l≠S)(nSi:it≠S)(nli:l≠it)(oS:old.get? S=none)(oI:old.get? it=none):∀(k i:Nat) (s:Shared) (o:Obj),k+i=vs.length->s.heap.IsListIter it l i->s.heap.IsList l vs.toArray->(∀b u,old.get? b=some u->s.heap.get? b=some u)->
 s.heap.get? S=some o->J i o->(∀(h':Heap) (tk:Nat) (o':Obj),(∀b u,old.get? b=some u->h'.get? b=some u)->h'.get? S=some o'->J vs.length o'->R (.ok (.ret .none)) {s with heap:=h',toks:=tk})->
 codeAny (model prog w) A (.builtin "set.update.loop" ⟨[.ref S,.ref it],[]⟩) R s
 |0,i,s,o,hk,hi,hl,ho,hS,hJ,q=>by
  obtain rfl:i=vs.length:=by omega
  refine nW ?_;unfold Builtin.«set.update.loop»;dsimp only;refine wpAny_bind (jO hh hne (hcn.ext λa _ u e=>ho a u e) hi hl (by simp) λh' x=>wpAny_pure ?_)
  exact q h' s.toks o (λb u e=>x b u (λz=>by rw[z,oI]at e;cases e) (ho b u e)) (x S o nSi.symm hS) hJ
 |k+1,i,s,o,hk,hi,hl,ho,hS,hJ,q=>by
  have hlt:i<vs.length:=by omega
  refine nW ?_;unfold Builtin.«set.update.loop»;dsimp only;refine wpAny_bind (wpAny_pyNext_list_item hi hl (x:=vs[i]) (by simp[hlt]) λh1 i1 x1=>?_)
  dsimp only;have S1:h1.get? S=some o:=(x1.2 S nSi.symm).trans hS
  have l1:h1.IsList l vs.toArray:=hl.extBut x1.extBut nli
  have o1:∀b u,old.get? b=some u->h1.get? b=some u:=λb u e=>(x1.2 b λz=>by rw[z,oI]at e;cases e).trans (ho b u e)
  refine Aa (Bv (F i vs[i] {s with heap:=h1} o _ _ (Ab hlt) o1 S1 hJ λc h2 tk o2 x2 S2 j2=>?_))
  have o2':∀b u,old.get? b=some u->h2.get? b=some u:=λb u e=>(x2.2 b λz=>by rw[z,oS]at e;cases e).trans (o1 b u e)
  refine Ae ⟨Eh PyProof.Rows.F.plain_set_update_loop _,mC F hh hne hcn nSl nSi nli oS oI k (i+1) {s with heap:=h2,toks:=tk} o2 (by omega) ?_ (l1.extBut x2.extBut nSl) o2' S2 j2 q⟩
  obtain⟨u,hu,r⟩:=i1;exact⟨u,(x2.2 it nSi).trans hu,r⟩
end
def aJL(a:Value){Q₁:Q2}(h:Q₁ (.ref s.heap.objs.size) {s with heap:=s.heap.push (bare (!w.params.followText "set-order"))}):codeAny (model prog w) A (.call (.builtin "set.__new__") ⟨[.type "set",a],[]⟩) (wants Q₁ E) s:=by
 refine codeAny_of_tree (show wpAny _ A.in1 (do checkBuiltinCall "set.__new__" ⟨[.type "set",a],[]⟩;again (.builtin "set.__new__" ⟨[.type "set",a],[]⟩)) _ _ s from Aa (Hk (PySem.F.newCall_set_1 a) (Ae ⟨Eh PySem.F.plain_set_new _,Dd PySem.F.entry_set_new ?_⟩)))
 rw[Dc PySem.F.plain_set_new _];unfold Builtin.«set.__new__» Builtin.Frozenset.newClass;have hs:=sub_set_self
 obtain⟨h0,g0,d0,t0,o0⟩:=s;dsimp only
 wp_walk
 refine Dz (Ae ?_);dsimp only[newObj];exact Aa (wpAny_alloc (Ae (Ae h)))
def yM{x:Value}{Q:Q2}(h:wpAny (model prog w) A.in1.in1 (Builtin.«set.__init__» ⟨[.ref s.heap.objs.size,x],[]⟩)
 (λfin s'=>match fin with|.done f=>wants (λr s₂=>r=.none/\Q (.ref s.heap.objs.size) s₂) E (.ok f) s'|.again c'=>c'.quiet=true/\codeAny (model prog w) A.in1 c' (wants (λr s₂=>r=.none/\Q (.ref s.heap.objs.size) s₂) E) s')
 (λe s'=>wants (λr s₂=>r=.none/\Q (.ref s.heap.objs.size) s₂) E (.error e) s') {s with heap:=s.heap.push (bare (!w.params.followText "set-order"))}):wpAny (model prog w) A (call (.type "set") [x]) Q E s:=by
 have ft:=PySem.F.called_set
 have hct:=PySem.F.typeCall_set_1 x
 obtain⟨_,_,f1⟩:=ft.mro;have f2:=ft.made
 have f3:=ft.sub
 have f4:=ft.notType
 have f5:=ft.canCreate
 refine Fi (codeAny_of_tree (show wpAny _ _ (callAny (.type "set") _) _ _ _ from Ae ⟨Fh _ (by decide +kernel),Dd PySem.F.entry_type_call (by
  rw[Around.under_plain (weight_type_call_type "set" [x] []) rfl];repeat any_goals first|assumption|wp_step
  refine Ex (aJL x (E:=E) (Q₁:=λobj s₁=>obj=.ref s.heap.objs.size/\s₁={s with heap:=s.heap.push (bare (!w.params.followText "set-order"))}) ⟨rfl,rfl⟩) λr s₁ hr=>?_
  rcases r with e|fl
  .exact hr
  .cases fl with
   |ret obj=>
    obtain⟨rfl,rfl⟩:=hr;have hT:Shared.TypeIs {s with heap:=s.heap.push (bare (!w.params.followText "set-order"))} (.ref s.heap.objs.size) "set" := ⟨_,Aw _ rfl,rfl⟩
    have f6:=ft.init.lookup
    have f7:=ft.init.bind (.ref s.heap.objs.size)
    repeat any_goals first|assumption|wp_step
    refine Ex (Ez ft.init.plain PySem.F.entry_set_init (check_set_init_1 hT h)) λr₂ s₂ hr₂=>?_;rcases r₂ with e|fl₂
    .exact hr₂
    .cases fl₂ with
     |ret r=>
      obtain⟨rfl,hq⟩:=hr₂;repeat any_goals first|assumption|wp_step
     |_=>exact hr₂.elim
   |_=>exact hr.elim)⟩))
def iP{l:Addr}{J:Nat->Obj->Prop}{Q:Q2}(hh:A.handled=hvO ch)(hcn:Chn s.heap ch)(hl:s.heap.IsList l vs.toArray)(j0:J 0 (bare (!w.params.followText "set-order")))(F:∀A':Around,A'.units<=A.units+8->wJ prog w A' s.heap s.heap.objs.size vs J)(h:∀(h':Heap) (tk:Nat) (o:Obj),(∀b u,s.heap.get? b=some u->h'.get? b=some u)->h'.get? s.heap.objs.size=some o->J vs.length o->Q (.ref s.heap.objs.size) {s with heap:=h',toks:=tk}):wpAny (model prog w) A (call (.type "set") [.ref l]) Q E s:=by
 refine yM ?_;generalize hled:(!w.params.followText "set-order")=led at j0 ⊢;obtain⟨⟨ocls,odict,odata,oslots⟩,hol,hcl,nl,hdl⟩:=id hl;obtain rfl:ocls=.type "list" := hcl;obtain rfl:odata=.seq vs.toArray nl:=hdl;have hb:(s.heap.push (bare led)).get? s.heap.objs.size=some (bare led):=Aw _ rfl
 have hol':(s.heap.push (bare led)).get? l=some {cls:=.type "list",dict:=odict,data:=.seq vs.toArray nl,slots:=oslots}:=Ad _ hol
 have hl1:(s.heap.push (bare led)).IsList l vs.toArray:=⟨_,hol',rfl,nl,rfl⟩
 have g1:=PySem.F.sub_list_set
 have g2:=PySem.F.sub_list_frozenset
 have g3:(Value.type "list" == Value.type "dict")=false:=by decide
 unfold bare at hb hol' hl1;unfold bare Builtin.«set.__init__» noKeywords Builtin.Frozenset.updateFrom;generalize hPI:pyIter=PI
 wp_walk
 subst hPI;refine wpAny_pyIter_list hl1 (Aa (wpAny_runValue ?_));have hlS:l<s.heap.objs.size:=Ao hol
 have none_at:∀b,s.heap.objs.size<=b->s.heap.get? b=none:=λb hb'=>by
  cases e:s.heap.get? b with
  |none=>rfl
  |some u=>exact absurd (Ao e) (Nat.not_lt.mpr hb')
 refine mC (A:=A.in1.in1) (old:=s.heap) (l:=l) (vs:=vs) (J:=J) (F _ (by show A.units+1+1+1<=A.units+8;omega)) hh ?_ hcn (Ba hlS) ?_ ?_ (none_at _ (Ai _)) (none_at _ ?_) vs.length 0 _ (bare led) rfl ⟨_,Aw _ rfl,rfl,rfl⟩ (hl1.push _)
  (λb u e=>Ad _ (Ad _ e)) (Ad _ hb) j0 λh' tk o' k1 k2 k3=>?_
 .exact hcn.new (by rw[Fd];exact Hj _)
 .rw[Fd];exact Fy (Dw _)
 .rw[Fd];exact Ba (Ds hlS)
 .rw[Fd];exact Hj _
 .exact Ae (Ae ⟨rfl,h h' tk o' k1 k2 k3⟩)
def iI{t t':SetTable}(h:t.relaid hs wanted=some (t',order)):t'.led=t.led/\t'.plain=t.plain:=by
 unfold SetTable.relaid SetTable.laid at h;cases e:SetTable.layClean (SetTable.sizeAbove wanted-1) hs with
 |none=>rw[e]at h;cases h
 |some owner=>rw[e]at h;cases h;exact⟨rfl,rfl⟩
def zD(led:Bool)(hk:Nat->Int)(vk:Nat->Value)(i:Nat)(o:Obj):Prop:=o.ExactSet/\∃es ep t,o.data=.set es ep t/\(t.led=led/\t.plain=true)/\t.mask=bM i/\t.dummies=#[]/\t.place.size=es.size/\es.size=i/\Ris t.place/\(∀e∈es.toList,∃j,j<i/\e=(hk j,vk j))/\∀j,j<i->(hk j,vk j)∈es.toList
def yY{t:SetTable}{Q:Unit->Shared->Prop}(ho:s.heap.get? S=some o)(hd:o.data=.set es ep t)(hf:t.fits es.size=true)(F:Full (SetTable.sizeAbove wanted))(hp:0<SetTable.sizeAbove wanted)(hl:SetTable.sizeAbove wanted<=100000)(hs:es.size<=SetTable.sizeAbove wanted)(q:∀(es':Array (Int×Value)) (t':SetTable),t'.mask=SetTable.sizeAbove wanted-1->t'.dummies=#[]->t'.place.size=es.size->es'.size=es.size->Ris t'.place->(∀e,e∈es'.toList ↔ e∈es.toList)->t'.led=t.led/\t'.plain=t.plain->Q () {s with heap:=s.heap.update S (Obj.putSet es' t')}):wpAny (model prog w) A (setRelay S wanted) Q E s:=by
 obtain⟨t',order,h1,h2,h3,h4,h5,h6,h7⟩:=lL (t:=t) (es:=es) F hp hs;unfold setRelay;refine Aa (Bz ho hd hf ?_);dsimp only;rw[if_neg (Nat.not_lt.mpr (bG hl)),h1];refine Aa ?_;show wpAny _ _ (if _ then _ else pure (order.filterMap (es[·]?),t')) _ _ _
 rw[if_neg (by rw[h5,bne_self_eq_false];exact An)]
 refine Ae (Gz ho hd (q _ t' h2 h3 h4 h5 h6 h7 (iI h1)) ?_);rw[h5];exact Bf hs (bG hl)
def tX{led:Bool}{old:Heap}{ks:List (List Int)}(hu:A.units<cLine)(hk:∀(i:Nat) v,vs[i]?=some v->∃a,v=.ref a/\IsTupleKey (PySem.intKind prog w) old (ks.getD i []) a)(hl:vs.length<=76)(ne:∀i j,i<j->j<vs.length->tupleKeyHash (PySem.intKind prog w) (ks.getD i [])≠tupleKeyHash (PySem.intKind prog w) (ks.getD j [])):wJ prog w A old S vs (zD led (λj=>tupleKeyHash (PySem.intKind prog w) (ks.getD j [])) (λj=>vs.getD j .none)):=by
 intro i v s o E Q hv hold hS hJ q;obtain⟨a,rfl,hka⟩:=hk i v hv;obtain⟨oa,items,n,hoa,hca,hda,hia⟩:=hka;have hiv:i<vs.length:=(Af.mp hv).1
 have hgv:vs.getD i .none=.ref a:=by rw[Ah,hv];rfl
 have hka':IsTupleKey (PySem.intKind prog w) s.heap (ks.getD i []) a:=⟨oa,items,n,hold _ _ hoa,hca,hda,hia⟩
 obtain⟨hx,es,ep,t,hd,hlp,hmk,hdm,hps,hsz,hR,hes,hin⟩:=hJ;have hF:=aZN hmk
 have hle:es.size<=t.mask:=by rw[hsz,hmk];exact eG (by omega)
 have hfit:=gF hps hdm hle
 unfold setAdd;refine Bv (Aa (wpAny_pyHash_tuple hu hka' ?_));generalize hH:tupleKeyHash (PySem.intKind prog w) (ks.getD i [])=hh;unfold setAddHashed;rw[show (100000:Nat)=99999+1 from rfl];unfold setAddHashedIn;refine Bv (Aa (Bz hS hd hfit ?_));dsimp only;rw[show byScan (.ref a) es=false from rfl];simp only[Bool.false_eq_true,if_false];have hne:∀e∈es.toList,e.1≠hh:=λe he z=>by
  obtain⟨j,hj,ej⟩:=hes e he;rw[ej]at z;exact ne j i hj hiv (z.trans hH.symm)
 refine Aa (uM hS hd hfit hF.1 hF.2 hdm hps hle hne λslot hpr=>?_);dsimp only;refine Aa (Bz hS hd hfit ?_);dsimp only;have p1:(t.put slot).1.mask=t.mask:=rfl
 have p0:(t.put slot).1.led=led/\(t.put slot).1.plain=true:=hlp
 have p2:(t.put slot).1.dummies=#[]:=by
  show (if SetTable.has t.dummies slot=true then _ else t.dummies)=_
  rw[hdm];rfl
 have p3:(t.put slot).1.place.size=es.size+1:=(dR _ _ _).trans (by rw[hps])
 have p4:=xC hdm hR hpr
 have p6:(t.put slot).2<=es.size:=by rw[<-hps];exact(fT hR slot).1
 generalize t.put slot=tp at p0 p1 p2 p3 p4 p6 ⊢;obtain⟨t1,p⟩:=tp;dsimp only at p0 p1 p2 p3 p4 p6 ⊢;have z1:(SetTable.insertAt es p (hh,Value.ref a)).size=es.size+1:=dR _ _ _
 have z2:∀e∈(SetTable.insertAt es p (hh,Value.ref a)).toList,∃j,j<i+1/\e=(tupleKeyHash (PySem.intKind prog w) (ks.getD j []),vs.getD j .none):=λe he=>by
  rcases lN he with rfl|he
  .exact⟨i,Dw _,by rw[hH,hgv]⟩
  .obtain⟨j,hj,ej⟩:=hes e he;exact⟨j,Ds hj,ej⟩
 have z3:∀j,j<i+1->(tupleKeyHash (PySem.intKind prog w) (ks.getD j []),vs.getD j .none)∈(SetTable.insertAt es p (hh,Value.ref a)).toList:=λj hj=>by
  by_cases e:j=i
  .subst e;exact eS p6 (.inl (by rw[hH,hgv]))
  .exact eS p6 (.inr (hin j (by omega)))
 generalize SetTable.insertAt es p (hh,Value.ref a)=es1 at z1 z2 z3 ⊢;have tail:∀ s':Shared,s'={ s with toks:=s'.toks }->wpAny (model prog w) A (do
     storeSet S es1 t1
     if (!false&&t1.tooFull)=true then do
      setRelay S (SetTable.grown (es.size+1))
      pure true
     else pure true) Q E s':=by
  intro s' es';have hS':s'.heap.get? S=some o:=by rw[es'];exact hS
  obtain⟨o1,ho1,hx1,hd1,sb1⟩:=pZ es1 t1 hS' hx hd;have hi76:i<76:=by omega
  refine Aa (Gz hS' hd ?_ (by rw[z1];exact bG (by omega)))
  have hsb:Heap.SameBut S s.heap (s'.heap.update S (Obj.putSet es1 t1)):=by rw[es']at sb1 ⊢;exact sb1
  have hfull:t1.tooFull=decide (bM i*3<=(i+1)*5):=by
   unfold SetTable.tooFull SetTable.fill;rw[p1,p2,p3,hmk,hsz];rfl
  rw[hfull];by_cases hf:bM i*3<=(i+1)*5
  .rw [Au hf];simp only [Bool.not_false,Bool.and_self,if_true];have hcase:(i=4\/i=18):=by
    unfold bM at hf;split at hf
    .omega
    .split at hf<;>omega
   have hw:SetTable.sizeAbove (SetTable.grown (es.size+1))=bM (i+1)+1:=by
    rw[hsz];rcases hcase with z|z<;>rw[z]<;>rfl
   have hml:=eG (i:=i+1) (by omega)
   have hm1:i+1<=t1.mask:=by rw[p1,hmk];rcases hcase with z|z<;>rw[z]<;>decide
   have hm2:bM (i+1)<=127:=by rcases hcase with z|z<;>rw[z]<;>decide
   refine Aa (yY (s:={s' with heap:=s'.heap.update S (Obj.putSet es1 t1)}) ho1 hd1 (gF (p3.trans z1.symm) p2 (by rw[z1,hsz];exact hm1)) (by rw[hw];exact(jL _).1) (by omega) (by omega) (by omega) λes2 t2 m1 m2 m3 m4 m5 m6 m8=>Ae ?_)
   obtain⟨o2,ho2,hx2,hd2,sb2⟩:=pZ es2 t2 ho1 hx1 hd1;have:=q true _ s'.toks o2 (hsb.trans sb2) ho2 ⟨hx2,es2,_,t2,hd2,⟨m8.1.trans p0.1,m8.2.trans p0.2⟩,by rw[m1,hw];rfl,m2,by rw[m3,m4],by rw[m4,z1,hsz],m5,λe he=>z2 e ((m6 e).mp he),λj hj=>(m6 _).mpr (z3 j hj)⟩
   rw[es']at this ⊢;exact this
  .rw [Bb hf];simp only [Bool.not_false,Bool.and_false,Bool.false_eq_true,if_false];have hmm:bM (i+1)=bM i:=by
    unfold bM at hf ⊢;split at hf
    .rw[if_pos (by omega)];rename_i h4;rw[if_pos h4]
    .rename_i h4
     rw[if_neg (by omega),if_neg h4]
     split at hf
     .rename_i h18;rw[if_pos (by omega),if_pos h18]
     .rename_i h18;rw[if_neg (by omega),if_neg h18]
   have:=q true _ s'.toks o1 hsb ho1 ⟨hx1,es1,_,t1,hd1,p0,by rw[p1,hmk,hmm],p2,by rw[p3,z1],by rw[z1,hsz],p4,z2,z3⟩
   refine Ae ?_;rw[es']at this ⊢;exact this
 have hints:∀v∈items.toList,∃k t,v=.int k t:=by
  generalize items.toList=L at hia;generalize ks.getD i []=kk at hia;induction hia with
  |nil=>exact λv hv=>nomatch hv
  | @cons k v _ _ h1 _ ih=>
   intro u hu';rcases Av.mp hu' with rfl|z
   .obtain⟨t',rfl⟩:=Value.isInt_shape h1;exact⟨_,t',rfl⟩
   .exact ih u z
 split
 .exact Aa (aQO (hold _ _ hoa) hca hda hints (tail _ rfl))
 .exact Aa (Ae (tail _ rfl))
def nS(led:Bool)(hk:Nat->Int)(vk:Nat->Value):zD led hk vk 0 (bare led):=⟨⟨rfl,rfl,rfl⟩,#[],0,.fresh 0 0 led,rfl,⟨rfl,rfl⟩,rfl,rfl,rfl,rfl,(λi k a b _ h=>by simp[SetTable.fresh]at h),(λe he=>by cases he),λj hj=>absurd hj (Nat.not_lt_zero _)⟩
def dS:∀ {L M:List α},L.Nodup->(∀x∈L,x∈M)->M.length=L.length->M.Perm L
 |[],M,_,_,hl=>by
  rw[List.length_nil]at hl;rw[List.length_eq_zero_iff.mp hl]
 |x::r,M,nd,hs,hl=>by
  have n2:=Bi.mp nd
  obtain⟨a,b,e⟩:=List.append_of_mem (hs x Al);subst e;have ih:=dS (L:=r) (M:=a++b) n2.2 (λy hy=>by
   have hm:=hs y (Ak _ hy)
   have ne:y≠x:=λz=>n2.1 (z▸hy)
   rcases Cj.mp hm with h|h
   .exact Da _ h
   .rcases Av.mp h with h|h
    .exact absurd h ne
    .exact Bk _ h) (by rw[Ar,Bj,Bj]at hl;rw[Ar];omega)
  exact List.perm_middle.trans (ih.cons x)
def uA{l:List α}(h:i<l.length):([l[i]]++l.eraseIdx i).Perm l:=by
 have e:l=l.take i++l[i]::l.drop (i+1):=by rw[<-List.drop_eq_getElem_cons h,List.take_append_drop]
 rw[List.eraseIdx_eq_take_drop_succ];refine List.Perm.trans ?_ (List.Perm.of_eq e.symm);show (l[i]::(List.take i l++List.drop (i+1) l)).Perm _
 exact List.perm_middle.symm
def xK(next:Nat->Nat):∀(fuel k:Nat) (left:List α) (out:Array α),left.length=fuel->(pickOrder.go next fuel k left out).toList.Perm (out.toList++left)
 |0,k,left,out,h=>by
  rw[List.length_eq_zero_iff.mp h,Cf];unfold pickOrder.go;exact List.Perm.refl _
 |fuel+1,k,left,out,h=>by
  have hlt:next k%left.length<left.length:=Nat.mod_lt _ (by omega)
  unfold pickOrder.go;rw[Ab hlt];dsimp only;refine(xK next fuel (k+1) _ _ (by rw[List.length_eraseIdx_of_lt hlt];omega)).trans ?_
  rw[Array.toList_push,Ed];exact List.Perm.append_left _ (uA hlt)
def zS(next:Nat->Nat)(xs:Array α):(pickOrder next xs).toList.Perm xs.toList:=xK next xs.size 0 xs.toList #[] (by simp)
def lO(w:World)(a:Addr)(ep:Nat)(es:Array (Int×Value)):(cK w a ep es).toList.Perm es.toList:=by
 unfold cK;split
 .exact zS _ _
 .exact List.Perm.refl _
def iW(w:World)(a:Addr)(ep:Nat)(es:Array (Int×Value)):(cK w a ep es).size=es.size:=by
 have:=(lO w a ep es).length_eq
 simpa using this
def nO{led:Bool}{hk:Nat->Int}{vk:Nat->Value}(h:zD led hk vk n o)(hi:∀i j,i<j->j<n->hk i≠hk j)(hn:n<=76):∃es ep t,o.ExactSet/\o.data=.set es ep t/\t.fits es.size=true/\t.plain=true/\t.led=led/\Ris t.place/\t.place.size=es.size/\(es.toList.map (·.2)).Perm ((List.range n).map vk):=by
 obtain⟨hx,es,ep,t,hd,⟨hl,hp⟩,hmk,hdm,hps,hsz,hR,_,hin⟩:=h;refine⟨es,ep,t,hx,hd,gF hps hdm (by rw[hsz,hmk];exact eG hn),hp,hl,hR,hps,?_⟩
 have nd:((List.range n).map λj=>(hk j,vk j)).Nodup:=by
  refine Ee.mpr (Gd (R:=(· < ·)) (fun {a b} ha hb hab z=>hi a b hab (Bo.mp hb) (Prod.mk.inj z).1) Fk)
 have p:=dS nd (M:=es.toList) (λx hx=>by
  obtain⟨j,hj,rfl⟩:=Bc.mp hx;exact hin j (List.mem_range.mp hj)) (by rw[List.length_map,List.length_range];have:es.size=n:=hsz;simpa using this)
 have q:=p.map (·.2)
 rw[Cv]at q;exact q
def SetIt.at{slot:Nat}(x:SetIt h it a slot i n ep)(k:∀o,h.get? it=some o->h'.get? it=some o):SetIt h' it a slot i n ep:=by
 obtain⟨o,e,q⟩:=x;exact⟨o,k o e,q⟩
def SetAt.at{t:SetTable}(x:SetAt h a es ep t)(k:∀o,h.get? a=some o->h'.get? a=some o):SetAt h' a es ep t:=by
 obtain⟨⟨o,e,q⟩,r1,r2,r3,r4⟩:=x;exact⟨⟨o,k o e,q⟩,r1,r2,r3,r4⟩
def iK:Slot "set_iterator" "__iter__" "set_iterator.__iter__" := .of (owner := "set_iterator") (n := "__iter__") (by rw[typeLookup_type,builtinLookup_eq_fast];kernel_rfl) (by decide +kernel) (by decide +kernel) (by decide +kernel) (by first|exact .inl (by decide +kernel)|exact .inr (by decide +kernel)) (by rw[isSubtype_type];kernel_rfl)
def nE:entryFor table "set_iterator.__iter__"=some Builtin.«dict_keyiterator.__iter__» := entryFor_alias (id' := "dict_keyiterator.__iter__") (by rw[Gy];kernel_rfl) (by first|rfl|decide +kernel) (by decide +kernel) (by rw[Gy];kernel_rfl)
def qM(v:Value):argsOk "set_iterator.__iter__" ⟨[v],[]⟩:=by
 unfold argsOk;rw[signature?_of (id := "set_iterator.__iter__") (n:=['_','_','r','e','t','i','_','_']) (o:=['r','o','t','a','r','e','t','i','_','t','e','s']) (by kernel_rfl) (show Manifest.owners.lookup (String.ofList ['r','o','t','a','r','e','t','i','_','t','e','s'].reverse)=some Manifest.sig_set_iterator by kernel_rfl)]
 kernel_rfl
section
variable {t:SetTable}
def aXL{slot:Nat}{Q:Q2}(hit:SetIt s.heap it a slot i n ep)(h:Q (.ref it) s):wpAny (model prog w) A (pyIter (.ref it)) Q E s:=by
 obtain⟨o,ho,hc,_⟩:=hit;have hT:s.TypeIs (.ref it) "set_iterator" := ⟨o,ho,hc⟩
 refine wpAny_pyIter_slot hT iK (Br iK hT nE ?_ (qM _));exact Ae ⟨_,rfl, "set_iterator",_,hT,slot_setNext.lookup,h⟩
def tW(hl:w.params.followText "set-order"=true\/t.led=true)(hh:A.handled=hvO ch)(hne:a≠it)(hni:it∉ch):Walks prog w A it (it::a::ch) [it] es.size (λi v=>((cK w a ep es)[i]?).map (·.2)=some v) (λi h=>(SetIt h it a (aW w t i) i es.size ep/\SetAt h a es ep t)/\Chn h ch) where
 sub:=λb hb=>by rw[Ap.mp hb];exact Al
 frame:=λ_ _ _ st hk=>⟨⟨st.1.1.at λo e=>hk it (by simp) o e,st.1.2.at λo e=>hk a (by simp) o e⟩,st.2.ext λc hc o e=>hk c (by simp[hc]) o e⟩
 item:=λi s Q E hi st hQ=>by
  have hi':i<(cK w a ep es).size:=by rw[iW];exact hi
  have hx:(cK w a ep es)[i]?=some (cK w a ep es)[i]:=Aj hi'
  refine aXT st.1.2 hl st.1.1 hx hi λh' it' sb=>?_;exact hQ _ h' s.toks (by rw[hx];rfl) ⟨⟨it',st.1.2.at λo e=>sb.extBut a o hne e⟩,st.2.ext λc hc o e=>sb.extBut c o (λz=>hni (z▸hc)) e⟩ λb o hb e=>sb.extBut b o (λz=>hb (by rw[z];exact Ap.mpr rfl)) e
 done:=λs Q E st hQ=>aZR hh hni st.2 st.1.2 hl (iW w a ep es) st.1.1 λh' eb=>hQ h' s.toks λb o hb e=>eb b o (λz=>hb (by rw[z];exact Ap.mpr rfl)) e
 self:=λ_ _ _ _ st hQ=>aXL st.1.1 hQ
def aZE{Q:Bool->Shared->Prop}(hT:s.TypeIs (.ref a) "set")(h:Q false s):wpAny (model prog w) A (Builtin.List.listLengthHint (.ref a)) Q E s:=by
 unfold Builtin.List.listLengthHint;refine Aa (Ep hT PySem.F.slot_set_len.lookup ?_);generalize hn:("set.__len__" : String)=nm
 wp_delta
 rw[show splitId nm=some ("set", "__len__") by subst hn;decide +kernel]
 subst hn;refine Aa (wpAny_isInstance (T := "set") (b:=true) hT sub_set_self (wpAny_ite_split (λz=>absurd z (by decide)) λ_=>wpAny_ite_split (λ_=>Aa (wpAny_typeOf hT (Ae h))) λz=>absurd (by decide +kernel) z))
abbrev fX(w:World)(a:Addr)(ep:Nat)(es:Array (Int×Value))(i:Nat)(v:Value):Prop:=((cK w a ep es)[i]?).map (·.2)=some v
def rL{R:Result->Shared->Prop}(Z:SetAt s.heap a es ep t)(hl:w.params.followText "set-order"=true\/t.led=true)(hh:A.in1.handled=hvO ch)(hcn:Chn s.heap ch)(D:Addr)(nDa:D≠a)(nDe:D∉ch)(res:Value)(c₀:Nat)(hD:s.heap.get? D=some {cls:=.type "list",data:=.seq #[] c₀})(hn:es.size<=sizeLine)(hR:∀h' tk acc c,(∀b o,b≠D->s.heap.get? b=some o->h'.get? b=some o)->h'.get? D=some {cls:=.type "list",dict:=none,data:=.seq acc c,slots:=#[]}->ItemsOf (fX w a ep es) acc es.size->R (.ok (.ret res)) {s with heap:=h',toks:=tk}):wpAny (model prog w) A.in1 (Builtin.List.listExtendWith (.ref D) (.ref a) res) (λfin s'=>match fin with|.done f=>R (.ok f) s'|.again c'=>c'.quiet=true/\codeAny (model prog w) A c' R s') (λe s'=>R (.error e) s') s:=by
 obtain⟨o,ho,hc,hd⟩:=Z.ob;have hT:s.TypeIs (.ref a) "set" := ⟨o,ho,hc⟩
 have lta:=Ao ho
 have ltD:=Ao hD
 have nf:D∉(s.heap.objs.size::a::ch):=by
  simp only[List.mem_cons,not_or];exact⟨Ba ltD,nDa,nDe⟩
 have W:Walks prog w A.in1 s.heap.objs.size (s.heap.objs.size::a::ch) [s.heap.objs.size] es.size (fX w a ep es) _:=tW (t:=t) hl hh (Ba lta) (hcn.new (Ai _))
 have go:∀ (h1:Heap) (c₁ tk:Nat),((SetIt h1 s.heap.objs.size a (aW w t 0) 0 es.size ep/\SetAt h1 a es ep t)/\Chn h1 ch)->(∀ b u,b≠D->s.heap.get? b=some u->h1.get? b=some u)->h1.get? D=some { cls:=.type "list",data:=.seq #[] c₁ }->
     codeAny (model prog w) A (.builtin "list.extend.loop" ⟨[.ref D,.ref s.heap.objs.size,res],[]⟩) R {s with heap:=h1,toks:=tk}:=λh1 c₁ tk st k1 e1=>by
  refine codeAny_extend_loopS W.toS hn D nf res es.size 0 _ #[] c₁ rfl (Cq _) st e1 (ItemsOf.nil _) λs2 acc c m2 e2 i2=>?_;rw[Moved.eq_with m2];exact hR s2.heap s2.toks acc c (λb u nb e=>m2.heap b u (λhm=>(Av.mp hm).elim nb λz=>absurd (Ao e) (by rw[Ap.mp z];exact Dm _)) (k1 b u nb e)) e2 i2
 have st0:∀ {h1:Heap},(∀b u,(b=s.heap.objs.size\/b=a\/b∈ch)->(s.heap.push {cls:=.type "set_iterator",data:=.fields #[.int 0 0,.int 0 0,.ref a,.int es.size 0,.int ep 0]}).get? b=some u->h1.get? b=some u)->(SetIt h1 s.heap.objs.size a (aW w t 0) 0 es.size ep/\SetAt h1 a es ep t)/\Chn h1 ch:=fun {h1} k=>by
  refine⟨⟨⟨_,k _ _ (.inl rfl) (Aw _ rfl),rfl,?_⟩,Z.at λu e=>k a u (.inr (.inl rfl)) (Ad _ e)⟩,hcn.ext λc hc u e=>k c u (.inr (.inr hc)) (Ad _ e)⟩;have e0:aW w t 0=0:=by unfold aW;split<;>rfl
  rw[e0];rfl
 unfold Builtin.List.listExtendWith;refine Aa (wpAny_typeOf (T := "set") hT ?_);simp only[show Builtin.List.listSameRef (.ref D) (.ref a)=false by simp[Builtin.List.listSameRef,nDa],show (Value.type "set" == Value.type "list")=false by decide,show (Value.type "set" == Value.type "tuple")=false by decide,Bool.or_false,Bool.false_eq_true,if_false]
 refine Aa (aJO Z (Aa (Bv (aZE ⟨o,Ad _ ho,hc⟩ ?_))));have w1:=Ad {cls:=.type "set_iterator",data:=.fields #[.int 0 0,.int 0 0,.ref a,.int es.size 0,.int ep 0]} hD
 refine wpAny_ite_split (λ_=>Aa (wpAny_rule (Aa ?_))) λ_=>Ae ⟨Eh PySem.F.plain_extend_loop _,go _ c₀ _ (st0 λb u _ e=>e) (λb u _ e=>Ad _ e) w1⟩;show wpAny _ _ (updateSeq D (·.push .none) >>= λ_=>updateSeq D (·.pop)) _ _ _
 refine Aa (wpAny_updateSeq w1 rfl ?_);have w2:=Dj (Obj.mapSeq (·.push Value.none)) w1 rfl
 refine wpAny_updateSeq (hz:=by seq_fits) w2 rfl ?_
 have w3:=Dj (Obj.mapSeq (·.pop)) w2 rfl
 have oth:∀b u,b≠D->(s.heap.push {cls:=.type "set_iterator",data:=.fields #[.int 0 0,.int 0 0,.ref a,.int es.size 0,.int ep 0]}).get? b=some u->(((s.heap.push {cls:=.type "set_iterator",data:=.fields #[.int 0 0,.int 0 0,.ref a,.int es.size 0,.int ep 0]}).update D (Obj.mapSeq (·.push Value.none))).update D (Obj.mapSeq (·.pop))).get? b=some u:=
  λb u nb e=>(Bx _ _ nb.symm).trans ((Bx _ _ nb.symm).trans e)
 refine Ae ⟨Eh PySem.F.plain_extend_loop _,go _ _ _ (st0 λb u hb e=>oth b u (λz=>nf ?_) e) (λb u nb e=>oth b u nb (Ad _ e)) w3⟩;rw[<-z];rcases hb with y|y|y
 .rw[y];simp
 .rw[y];simp
 .simp[y]
def qN{R:List Value->Shared->Prop}(Z:SetAt s.heap a es ep t)(hl:w.params.followText "set-order"=true\/t.led=true)(hh:A.handled=hvO ch)(hcn:Chn s.heap ch)(hn:es.size<=sizeLine)(h:∀h' tk (acc:Array Value),(∀b o,s.heap.get? b=some o->h'.get? b=some o)->s.heap.objs.size<h'.objs.size->ItemsOf (fX w a ep es) acc es.size->R acc.toList {s with heap:=h',toks:=tk}):wpAny (model prog w) A (collect (.ref a)) R E s:=by
 obtain⟨o,ho,hc,hd⟩:=Z.ob;have lta:=Ao ho
 have up:∀b u,s.heap.get? b=some u->(s.heap.push {cls:=.type "list",data:=.seq ([]:List Value).toArray}).get? b=some u:=λb u e=>Ad _ e
 unfold collect;refine Aa (wpAny_runValue (Dd PyProof.Rows.entry_proto_collect' ?_));rw[Dc PySem.F.plain_proto_collect _];refine(show wpAny (model prog w) A.in1 (newList [] >>= λl=>again (.builtin "list.__iadd__" ⟨[l,.ref a],[]⟩)) _ _ s from Aa (Ey (Ae ⟨Eh PySem.F.plain_list_iadd _,Dd PyProof.Rows.entry_list_iadd' ?_⟩)));rw[Dc PySem.F.plain_list_iadd _];have key:=rL (prog:=prog) (A:=A) (s:={s with heap:=s.heap.push {cls:=.type "list",data:=.seq ([]:List Value).toArray}}) (R:=λq s'=>∃h' tk acc c,q=.ok (.ret (.ref s.heap.objs.size))/\s'={s with heap:=h',toks:=tk}/\(∀b u,s.heap.get? b=some u->h'.get? b=some u)/\h'.get? s.heap.objs.size=some {cls:=.type "list",dict:=none,data:=.seq acc c,slots:=#[]}/\ItemsOf (fX w a ep es) acc es.size)
  (Z.at λu e=>up a u e) hl hh (hcn.ext λc _ u e=>up c u e) s.heap.objs.size (Fy lta) (hcn.new (Ai _)) (.ref s.heap.objs.size) 0 (Aw _ rfl) hn λh' tk acc c k e i=>⟨h',tk,acc,c,rfl,rfl,λb u q=>k b u (Ba (Ao q)) (up b u q),e,i⟩
 refine(show wpAny (model prog w) A.in1 (Builtin.List.listExtendWith (.ref s.heap.objs.size) (.ref a) (.ref s.heap.objs.size)) _ _ _ from Cg key (λf s2 x=>?_) λe s2 x=>?_)
 .cases f with
  |done f=>
   obtain⟨h',tk,acc,c,e,rfl,k,e2,i⟩:=x;cases e;refine(show wpAny _ A (load s.heap.objs.size >>= _) _ _ _ from Aa (wpAny_load e2 (Ae (h h' tk acc k (Ao e2) i))))
  |again c1=>
   refine⟨x.1,Ex x.2 λq s3 y=>?_⟩;obtain⟨h',tk,acc,c,rfl,rfl,k,e2,i⟩:=y;refine(show wpAny _ A (load s.heap.objs.size >>= _) _ _ _ from Aa (wpAny_load e2 (Ae (h h' tk acc k (Ao e2) i))))
 .obtain⟨_,_,_,_,z,_⟩:=x;cases z
end
section
open PySem.W (KasT kas_sort kas_rev kas_asc kas_desc kas_tail3 kas_descPart kas_count kas_place kas_bin)
def KR(lt:Nat->Nat->Bool)(n:Nat)(t:KasT α)(a:α):Prop:=kok lt n t=true/\uE lt t=a
def KR.ret{lt:Nat->Nat->Bool}(a:α):KR lt n (.ret a) a:=⟨rfl,rfl⟩
def KR.ask{lt:Nat->Nat->Bool}{k:Bool->KasT α}{a:α}(hi:i<n)(hj:j<n)(h:KR lt n (k (lt i j)) a):KR lt n (.ask i j k) a:=⟨by simp only[kok,hi,hj,decide_true,Bool.true_and];exact h.1,h.2⟩
def KR.bind{β:Type}{lt:Nat->Nat->Bool}{f:α->KasT β}{b:β}:∀ {t:KasT α} {a:α},KR lt n t a->KR lt n (f a) b->KR lt n (t.bind f) b
 |.ret a',a,h,g=>by
  obtain⟨_,rfl⟩:=h;exact g
 |.ask i j k,a,h,g=>by
  obtain⟨h1,h2⟩:=h;simp only[kok,Bool.and_eq_true,decide_eq_true_eq]at h1;exact KR.ask h1.1.1 h1.1.2 (KR.bind (t:=k (lt i j)) ⟨h1.2,h2⟩ g)
section
variable {r:Nat->Nat}
abbrev ltR(r:Nat->Nat)(i j:Nat):Bool:=decide (r i<r j)
structure Ord (r:Nat->Nat) (n:Nat) (p:Array Nat):Prop where
 perm:p.toList.Perm (List.range n)
 inj:∀i j,i<n->j<n->r i=r j->i=j
def Ord.size{p:Array Nat}(h:Ord r n p):p.size=n:=by
 have:=h.perm.length_eq
 simpa using this
def Ord.lt{p:Array Nat}(h:Ord r n p)(hi:i<n):p.getD i 0<n:=by
 have hs:=h.size
 have:p.getD i 0∈p.toList:=by
  rw[Ag,Aj (by omega)]
  exact Do _
 exact Bo.mp (h.perm.subset this)
def Ord.ne{p:Array Nat}(h:Ord r n p){i j:Nat}(hij:i<j)(hj:j<n):r (p.getD i 0)≠r (p.getD j 0):=λz=>by
 have hs:=h.size
 have e:=h.inj _ _ (h.lt (by omega)) (h.lt hj) z
 have nd:p.toList.Nodup:=h.perm.nodup_iff.mpr List.nodup_range
 rw[Ag,Ag,Aj (by omega),Aj (by omega)]at e
 have:=(List.pairwise_iff_getElem.mp nd) i j (by simp;omega) (by simp;omega) hij
 exact this (by simpa using e)
def Ord.move{p q:Array Nat}(h:Ord r n p)(hq:q.Perm p):Ord r n q:=⟨(Array.perm_iff_toList_perm.mp hq).trans h.perm,h.inj⟩
def Up(r:Nat->Nat)(p:Array Nat)(k:Nat):Prop:=∀i j,i<j->j<k->r (p.getD i 0)<r (p.getD j 0)
def Dn(r:Nat->Nat)(p:Array Nat)(k:Nat):Prop:=∀i j,i<j->j<k->r (p.getD j 0)<r (p.getD i 0)
def Up.succ{p:Array Nat}{k:Nat}(h:Up r p k)(hk:1<=k)(e:r (p.getD (k-1) 0)<r (p.getD k 0)):Up r p (k+1):=λi j hij hj=>by
 by_cases z:j=k
 .subst z;by_cases y:i=j-1
  .subst y;exact e
  .exact Nat.lt_trans (h i (j-1) (by omega) (by omega)) e
 .exact h i j hij (by omega)
def Dn.succ{p:Array Nat}{k:Nat}(h:Dn r p k)(hk:1<=k)(e:r (p.getD k 0)<r (p.getD (k-1) 0)):Dn r p (k+1):=λi j hij hj=>by
 by_cases z:j=k
 .subst z;by_cases y:i=j-1
  .subst y;exact e
  .exact Nat.lt_trans e (h i (j-1) (by omega) (by omega))
 .exact h i j hij (by omega)
def uJ{p:Array Nat}(O:Ord r n p):∀(f k:Nat),1<=k->k+f=n->Up r p k->∃m,KR (ltR r) n (kas_asc p f k) m/\k<=m/\m<=n/\Up r p m/\(m<n->r (p.getD m 0)<r (p.getD (m-1) 0))
 |0,k,h1,hk,u=>⟨k,KR.ret _,Ai _,by omega,u,λz=>absurd z (by omega)⟩
 |f+1,k,h1,hk,u=>by
  by_cases e:r (p.getD k 0)<r (p.getD (k-1) 0)
  .refine⟨k,KR.ask (O.lt (by omega)) (O.lt (by omega)) ?_,Ai _,by omega,u,λ_=>e⟩
   rw[show ltR r (p.getD k 0) (p.getD (k-1) 0)=true from Au e,if_pos rfl];exact KR.ret _
  .have ne:=O.ne (i:=k-1) (j:=k) (by omega) (by omega)
   obtain⟨m,h2,h3,h4,h5,h6⟩:=uJ O f (k+1) (by omega) (by omega) (u.succ h1 (by omega))
   refine⟨m,KR.ask (O.lt (by omega)) (O.lt (by omega)) ?_,by omega,h4,h5,h6⟩
   rw[show ltR r (p.getD k 0) (p.getD (k-1) 0)=false from Bb e,if_neg (by decide)]
   exact h2
def wR{p:Array Nat}(O:Ord r n p):∀(f k:Nat),1<=k->k+f=n->Dn r p k->∃m,KR (ltR r) n (kas_desc f p k 0) (p,m,0)/\k<=m/\m<=n/\Dn r p m
 |0,k,h1,hk,u=>⟨k,KR.ret _,Ai _,by omega,u⟩
 |f+1,k,h1,hk,u=>by
  by_cases e:r (p.getD k 0)<r (p.getD (k-1) 0)
  .obtain⟨m,h2,h3,h4,h5⟩:=wR O f (k+1) (by omega) (by omega) (u.succ h1 e)
   refine⟨m,KR.ask (O.lt (by omega)) (O.lt (by omega)) ?_,by omega,h4,h5⟩
   rw[show ltR r (p.getD k 0) (p.getD (k-1) 0)=true from Au e,if_pos rfl,if_neg (by decide)]
   exact h2
  .have ne:=O.ne (i:=k-1) (j:=k) (by omega) (by omega)
   refine⟨k,KR.ask (O.lt (by omega)) (O.lt (by omega)) ?_,Ai _,by omega,u⟩
   rw[show ltR r (p.getD k 0) (p.getD (k-1) 0)=false from Bb e,if_neg (by decide)]
   refine KR.ask (O.lt (by omega)) (O.lt (by omega)) ?_
   rw[show ltR r (p.getD (k-1) 0) (p.getD k 0)=true from Au (by omega),if_pos rfl]
   exact KR.ret _
def cQG{p:Array Nat}{k:Nat}(hk:k<=p.size)(d:Dn r p k):Up r (kas_rev p 0 k) k:=λi j hij hj=>by
 unfold kas_rev;rw[Ag,Ag,getElem?_mirror_all hk,getElem?_mirror_all hk,if_pos ⟨Cq _,by omega⟩,if_pos ⟨Cq _,hj⟩,<-Ag,<-Ag]
 exact d _ _ (by omega) (by omega)
def aZW{p:Array Nat}(O:Ord r n p)(hn:2<=n):∃m q,KR (ltR r) n (kas_count n p) (m,q)/\1<=m/\m<=n/\Ord r n q/\Up r q m:=by
 obtain⟨m,h1,h2,h3,h4,h5⟩:=uJ O (n-1) 1 (Ai _) (by omega) (λi j hij hj=>absurd hj (by omega))
 unfold kas_count;by_cases e:m=n
 .refine⟨m,p,KR.bind h1 ?_,h2,h3,O,h4⟩;rw[if_pos (by rw[e];exact Ha n)]
  exact KR.ret _
 .have eb:¬((m==n)=true):=by rw[He];exact e
  by_cases g:1<m
  .refine⟨m,p,KR.bind h1 ?_,h2,h3,O,h4⟩;rw[if_neg eb,if_pos g];refine KR.ask (O.lt (by omega)) (O.lt (by omega)) ?_
   rw[show ltR r (p.getD 0 0) (p.getD (m-1) 0)=true from Au (h4 0 (m-1) (by omega) (by omega)),if_pos rfl]
   exact KR.ret _
  .obtain rfl:m=1:=by omega
   have d2:Dn r p 2:=Dn.succ (k:=1) (λi j hij hj=>absurd hj (by omega)) (Ai _) (h5 (by omega))
   obtain⟨k,k1,k2,k3,k4⟩:=wR O (n-2) 2 (by omega) (by omega) d2
   have O2:Ord r n (kas_rev p 0 k):=O.move (mirror_perm _ _ _ _)
   have u2:=cQG (by rw[O.size];exact k3) k4
   obtain⟨m2,a1,a2,a3,a4,_⟩:=uJ O2 (n-k) k (by omega) (by omega) u2
   refine⟨m2,kas_rev p 0 k,KR.bind h1 ?_,by omega,a3,O2,a4⟩
   rw[if_neg eb,if_neg (by omega)]
   unfold kas_descPart;refine KR.bind k1 ?_;show KR (ltR r) n (if (0:Nat)>0 then _ else kas_tail3 k n p) _
   rw[if_neg (by decide)]
   unfold kas_tail3;exact KR.bind a1 (KR.ret _)
def mG{p:Array Nat}(O:Ord r n p){k:Nat}(hk:k<n)(u:Up r p k):∀(f l q:Nat),q-l<=f->l<=q->q<=k->(∀i,i<l->r (p.getD i 0)<r (p.getD k 0))->(∀i,q<=i->i<k->r (p.getD k 0)<r (p.getD i 0))->
 ∃m,KR (ltR r) n (kas_place p k f l q) m/\m<=k/\(∀i,i<m->r (p.getD i 0)<r (p.getD k 0))/\∀i,m<=i->i<k->r (p.getD k 0)<r (p.getD i 0)
 |0,l,q,h1,h2,h3,h4,h5=>⟨l,KR.ret _,by omega,h4,λi hi=>h5 i (by omega)⟩
 |f+1,l,q,h1,h2,h3,h4,h5=>by
  unfold kas_place;by_cases e:l ≥ q
  .refine⟨l,?_,by omega,h4,λi hi=>h5 i (by omega)⟩
   rw[if_pos e];exact KR.ret _
  .have mid:(l+q) / 2<k:=by omega
   have ne:=O.ne mid hk
   by_cases g:r (p.getD k 0)<r (p.getD ((l+q) / 2) 0)
   .obtain ⟨m,m1,m2,m3,m4⟩:=mG O hk u f l ((l+q) / 2) (by omega) (by omega) (by omega) h4 (λi hi hik=>by
     by_cases z:i=(l+q) / 2
     .rw[z];exact g
     .exact Nat.lt_trans g (u _ _ (by omega) hik))
    refine⟨m,?_,m2,m3,m4⟩;rw[if_neg e];refine KR.ask (O.lt hk) (O.lt (by omega)) ?_
    rw[show ltR r (p.getD k 0) (p.getD ((l+q) / 2) 0)=true from Au g,if_pos rfl];exact m1
   .obtain ⟨m,m1,m2,m3,m4⟩:=mG O hk u f ((l+q) / 2+1) q (by omega) (by omega) h3 (λi hi=>by
     by_cases z:i=(l+q) / 2
     .rw[z];omega
     .have:=u i ((l+q) / 2) (by omega) mid
      omega) h5
    refine⟨m,?_,m2,m3,m4⟩;rw[if_neg e];refine KR.ask (O.lt hk) (O.lt (by omega)) ?_
    rw[show ltR r (p.getD k 0) (p.getD ((l+q) / 2) 0)=false from Bb g,if_neg (by decide)]
    exact m1
def zE{p:Array Nat}{k m:Nat}(hk:k<p.size)(hm:m<=k)(u:Up r p k)(h1:∀i,i<m->r (p.getD i 0)<r (p.getD k 0))(h2:∀i,m<=i->i<k->r (p.getD k 0)<r (p.getD i 0)):Up r (bubble p k (k-m)) (k+1):=by
 have g:∀i,(bubble p k (k-m)).getD i 0=if i=m then p.getD k 0 else if m<i/\i<=k then p.getD (i-1) 0 else p.getD i 0:=λi=>by
  rw[Ag,getElem?_bubble hk (k-m) (by omega),show k-(k-m)=m by omega]
  by_cases a:i=m
  .rw[if_pos a,if_pos a,Ag]
  .rw[if_neg a,if_neg a];by_cases b:m<i/\i<=k
   .rw[if_pos b,if_pos b,Ag]
   .rw[if_neg b,if_neg b,Ag]
 intro i j hij hj;rw[g i,g j];by_cases a:i=m
 .rw[if_pos a,if_neg (by omega),if_pos (by omega)]
  exact h2 (j-1) (by omega) (by omega)
 .rw[if_neg a];by_cases b:j=m
  .rw[if_pos b,if_neg (by omega)]
   exact h1 i (by omega)
  .rw[if_neg b];by_cases c:m<i/\i<=k
   .rw[if_pos c,if_pos (by omega)]
    exact u _ _ (by omega) (by omega)
   .rw[if_neg c];by_cases d:m<j/\j<=k
    .rw[if_pos d];exact u _ _ (by omega) (by omega)
    .rw[if_neg d];exact u _ _ hij (by omega)
def aQ8:∀(f:Nat) {p:Array Nat} {k:Nat},Ord r n p->k+f=n->Up r p k->∃q,KR (ltR r) n (kas_bin f p k) q/\Ord r n q/\Up r q n
 |0,p,k,O,hk,u=>⟨p,KR.ret _,O,by rw[<-hk];exact u⟩
 |f+1,p,k,O,hk,u=>by
  obtain⟨m,m1,m2,m3,m4⟩:=mG O (k:=k) (by omega) u k 0 k (by omega) (Cq _) (Ai _) (λi hi=>absurd hi (Eu _)) (λi h1 h2=>absurd h2 (by omega))
  obtain⟨q,q1,q2,q3⟩:=aQ8 f (p:=bubble p k (k-m)) (k:=k+1) (O.move (bubble_perm _ _ _)) (by omega) (zE (by rw[O.size];omega) m2 u m3 m4)
  exact⟨q,KR.bind m1 q1,q2,q3⟩
def kO(hn:2<=n)(inj:∀i j,i<n->j<n->r i=r j->i=j):∃q,KR (ltR r) n (kas_sort n) q/\Ord r n q/\Up r q n:=by
 have O:Ord r n (List.toArray (List.range n)):=⟨by rw[Gb],inj⟩
 obtain⟨m,p,h1,h2,h3,h4,h5⟩:=aZW O hn;unfold kas_sort;by_cases e:m<n
 .obtain⟨q,q1,q2,q3⟩:=aQ8 (n-m) h4 (k:=m) (by omega) h5
  refine⟨q,KR.bind h1 ?_,q2,q3⟩;rw[if_pos e,Nat.max_eq_left h2];exact q1
 .refine⟨p,KR.bind h1 ?_,h4,by rw[<-show m=n by omega];exact h5⟩
  rw[if_neg e];exact KR.ret _
end
end
section
open PySem.W (KasT kas_sort kas_cmp kas_item kas_item_eq kas_range kas_runs kas_kind kas_st)
def qZ{κ:SortKind}{lt:Nat->Nat->Bool}{P:PySem.Fin->Shared->Prop}(ho:s.heap.get? a=some (seqObj "list" vs.toArray n))(hkind:2<=vs.length->∀h':Heap,(∀b o,b≠a->s.heap.get? b=some o->h'.get? b=some o)->∀(Q':SortKind->Shared->Prop) (E':Q2),Q' κ {s with heap:=h'}->wpAny (model prog w) A (keyKind' vs.toArray) Q' E' {s with heap:=h'})(hlt:∀h':Heap,(∀b o,b≠a->s.heap.get? b=some o->h'.get? b=some o)->∀i j (C:Bool->Shared->Prop),i<vs.length->j<vs.length->C (lt i j) {s with heap:=h'}->
 wpAny (model prog w) A (keyLt' κ (vs.getD i .none) (vs.getD j .none)) C (λ_ _=>False) {s with heap:=h'})(h64:vs.length<64)(hok:2<=vs.length->kok lt vs.length (kas_sort vs.length)=true)(h:P (.done (.ret .none)) {s with heap:=sortedHeap s.heap a vs (dB lt vs).toArray}):wpAny (model prog w) A (Builtin.«list.sort» ⟨[.ref a],[]⟩) P E s:=by
 obtain⟨c,e1,e6⟩:=bQ9 ho;have z:vs.length<=sizeLine:=Fw (bH (by omega))
 have zz:∀out:Array Value,out.size<=64->out.size<=sizeLine+1:=λout q=>Nat.le_succ_of_le (Fw (bH (by omega)))
 rw[list_sort_plain];refine Aa (listItems_at ho rfl (Aa (listUpdate_at ho rfl (Aa (seqEpoch_at e1 rfl (Aa (wpAny_newTuple (Aa (wpAny_newList (Bv ?_) (Cq _))) z)))) z (Cq _))));change wpAny (model prog w) A _ P E {s with heap:=yV s.heap a vs}
 dsimp only;replace h:P (.done (.ret .none)) {s with heap:=(yV s.heap a vs).update a (Obj.mapSeq λ_=>(dB lt vs).toArray)}:=h
 have old:∀b o,b≠a->s.heap.get? b=some o->(yV s.heap a vs).get? b=some o:=λ_ _=>aZU
 generalize yV s.heap a vs=hm at *;by_cases h2:vs.length<2
 .simp only[List.size_toArray,if_pos h2];refine Aa (Ae (Aa (Hk (StateT.run_pure ..) (Aa (seqEpoch_at e6 rfl (Aa (listUpdate_at e6 rfl ?_ (Cq _) ?_)))))));all_goals rw[show (arrOf (SortSt.mk' general' (vs.toArray.zip vs.toArray) #[] 7 none)).map (·.2)=(dB lt vs).toArray from(pX vs).trans (Cy List.toArray (if_pos h2).symm)]
  .simp only[bne_self_eq_false,Bool.false_eq_true,if_false];exact Ae h
  .exact zz _ (by rw[Be,show dB lt vs=vs from if_pos h2];omega)
 .have h2':2<=vs.length:=Nat.le_of_not_lt h2
  simp only[List.size_toArray,if_neg h2];refine Aa (hkind h2' hm old _ _ ?_);have fQ:SortSt.mk' κ (vs.toArray.zip vs.toArray) #[] 7 none=kas_st κ (pairsOf vs) (List.toArray (List.range vs.length)):=by
   have e:=kas_range (pairsOf vs)
   rw[pairsOf_size]at e;exact Cy (λx=>SortSt.mk' κ x #[] 7 none) e.symm
  rw[fQ];refine Aa (Cg (kas_runs (Q:=λ_ st s'=>∃p:Array Nat,p.size=vs.length/\p=uE lt (kas_sort vs.length)/\arrOf st=p.map (kas_item (pairsOf vs))/\failedOf st=none/\s'={s with heap:=hm}) (G:=λp s'=>s'={s with heap:=hm}/\p=uE lt (kas_sort vs.length))
   h2' h64 (λp st s' x1 x2 x3 x4=>⟨p,x1,x4.2,x2,x3,x4.1⟩) (sI (lt:=lt) (n:=vs.length) (λi j C hi hj hC=>?_) _ (hok h2') ⟨rfl,rfl⟩)) ?_ λ_ _ e=>e)
  .unfold kas_cmp;rw[kas_item_eq,kas_item_eq];exact hlt hm old i j C hi hj hC
  rintro⟨_,st⟩ _ ⟨p,x1,x2,x3,x4,rfl⟩;obtain⟨y1,y2⟩:=aQG h2 x2 x1;have out:(arrOf st).map (·.2)=(dB lt vs).toArray:=by rw[x3,yC,y2]
  dsimp only;rw[out];refine Aa (seqEpoch_at e6 rfl (Aa (listUpdate_at e6 rfl ?_ (Cq _) (zz _ (by rw[Be,y1];omega)))))
  rw[x4];simp only[bne_self_eq_false,Bool.false_eq_true,if_false];exact Ae h
def aV(w:World)(a:Addr)(ep:Nat)(es:Array (Int×Value)):List Value:=(cK w a ep es).toList.map (·.2)
def uY{acc:Array Value}(h:ItemsOf (fX w a ep es) acc es.size):acc.toList=aV w a ep es:=by
 refine List.ext_getElem? λi=>?_;by_cases hi:i<acc.size
 .have h1:acc[i]?=some acc[i]:=Aj hi
  have h2:=h.2 i _ h1
  unfold aV;rw[Cb,h1,Am,Cb];exact h2.symm
 .have hz:=h.1
  have ho:=iW w a ep es
  unfold aV;rw[List.getElem?_eq_none (by simp;omega),List.getElem?_eq_none (by simp;omega)]
def kB{κ:SortKind}{lt:Nat->Nat->Bool}{t:SetTable}{Q:Q2}(Z:SetAt s.heap a es ep t)(hl:w.params.followText "set-order"=true\/t.led=true)(hh:A.handled=hvO ch)(hcn:Chn s.heap ch)(h64:es.size<64)(hkind:2<=(aV w a ep es).length->∀(h':Heap) (tk:Nat),(∀b o,s.heap.get? b=some o->h'.get? b=some o)->∀(Q':SortKind->Shared->Prop) (E':Q2),Q' κ {s with heap:=h',toks:=tk}->wpAny (model prog w) A.in1.in1 (keyKind' (aV w a ep es).toArray) Q' E' {s with heap:=h',toks:=tk})(hlt:∀(h':Heap) (tk:Nat),(∀b o,s.heap.get? b=some o->h'.get? b=some o)->∀i j (C:Bool->Shared->Prop),i<(aV w a ep es).length->j<(aV w a ep es).length->C (lt i j) {s with heap:=h',toks:=tk}->
 wpAny (model prog w) A.in1.in1 (keyLt' κ ((aV w a ep es).getD i .none) ((aV w a ep es).getD j .none)) C (λ_ _=>False) {s with heap:=h',toks:=tk})(hok:2<=(aV w a ep es).length->kok lt (aV w a ep es).length (kas_sort (aV w a ep es).length)=true)(h:∀D h' tk c,(∀b o,s.heap.get? b=some o->h'.get? b=some o)->s.heap.objs.size<=D->h'.get? D=some (seqObj "list" (dB lt (aV w a ep es)).toArray c)->Q (.ref D) {s with heap:=h',toks:=tk}):wpAny (model prog w) A (call (.builtin "sorted") [.ref a]) Q E s:=by
 have hlen:(aV w a ep es).length=es.size:=by unfold aV;rw[Ac,Ay,iW]
 have z:es.size<=sizeLine:=Fw (bH (by omega))
 obtain⟨o,ho,_⟩:=Z.ob;refine Calls.call_function_entry kind_sorted plain_sorted entry_sorted (args_sorted1 _) ?_;unfold Builtin.«sorted»;refine Aa (m:=checkCount "sorted" 1 1 _) (Ae (Aa (qN (A:=A.in1) Z hl hh hcn z λh1 tk acc k1 z1 i1=>?_)));rw[uY i1];refine Aa (wpAny_newList ?_ (by rw[hlen];exact z))
 have e1:(h1.push {cls:=.type "list",data:=.seq (aV w a ep es).toArray}).get? h1.objs.size=some (seqObj "list" (aV w a ep es).toArray 0):=Aw _ rfl
 have up:∀b u,s.heap.get? b=some u->(h1.push {cls:=.type "list",data:=.seq (aV w a ep es).toArray}).get? b=some u/\b≠h1.objs.size:=λb u q=>⟨Ad _ (k1 b u q),Ba (Ao (k1 b u q))⟩
 refine Aa (Bv (Br slot_list_sort ⟨_,e1,rfl⟩ entry_list_sort (qZ (κ:=κ) (lt:=lt) e1 (λh2 h' k Q' E' q=>hkind h2 h' tk (λb u e=>k b u (up b u e).2 (up b u e).1) Q' E' q) (λh' k=>hlt h' tk λb u e=>k b u (up b u e).2 (up b u e).1) (by omega) hok ⟨_,rfl,Ae ⟨_,rfl,?_⟩⟩) (args_list_sort _)))
 obtain⟨c,ec⟩:=sortedHeap_at (vs:=aV w a ep es) (out:=(dB lt (aV w a ep es)).toArray) e1;exact h _ _ tk c (λb u e=>(sortedHeap_old (up b u e).2 (Ao (up b u e).1)).trans (up b u e).1) (Fw z1) ec
end
section
open PySem.W (KasT kas_sort KatTups kat_kind kat_lt kat_cons kat_yes kat_no kat_nil kat_one KatGo)
def rJ(h:Heap)(v:Value)(k:Int×Int):Prop:=∃(x:Addr) (t u:Tok),v=.ref x/\h.IsTuple x #[.int k.1 t,.int k.2 u]
def aZT(x y:Int×Int):Bool:=decide (x.1<y.1\/x.1=y.1/\x.2<y.2)
def aZ2{x y:Value}{k m:Int×Int}{Q:Bool->Shared->Prop}(hx:rJ s.heap x k)(hy:rJ s.heap y m)(h:Q (aZT k m) s):wpAny (model prog w) A (keyLt' (tuples' true) x y) Q E s:=by
 obtain⟨x,t1,u1,rfl,ox,gx,_,nx,dx⟩:=hx;obtain⟨y,t2,u2,rfl,oy,gy,_,ny,dy⟩:=hy;refine kat_lt gx dx gy dy (kat_cons (wpAny_eqBool_int ?_));by_cases e:k.1=m.1
 .rw[show (k.1==m.1)=true by rw[He];exact e]
  refine kat_yes (kat_cons (wpAny_eqBool_int ?_));by_cases g:k.2=m.2
  .rw[show (k.2==m.2)=true by rw[He];exact g]
   refine kat_yes (kat_nil ?_);rw[show aZT k m=false from Bb (by omega)]at h
   exact h
  .rw[show (k.2==m.2)=false by rw[Cr];exact g]
   refine kat_no (kat_one _ _ (show wpAny _ _ (richCompare .Lt _ _) _ _ s from ?_));refine CmpOf.ints_lt (P:=λi v=>(i=0->∃t,v=Value.int k.2 t)/\(i=1->∃t,v=.int m.2 t)/\i<=1) (λi=>if i=0 then k.2 else m.2) (λi v hv=>?_) 0 1 _ _ s _ _ ⟨λ_=>⟨_,rfl⟩,λz=>absurd z (by decide),by decide⟩ ⟨λz=>absurd z (by decide),λ_=>⟨_,rfl⟩,by decide⟩ ?_
   .obtain⟨h0,h1,h2⟩:=hv;by_cases z:i=0
    .obtain⟨t,rfl⟩:=h0 z;exact⟨t,by rw[if_pos z]⟩
    .obtain⟨t,rfl⟩:=h1 (by omega);exact⟨t,by rw[if_neg z]⟩
   .have e2:aZT k m=decide (k.2<m.2):=Dh.mpr ⟨λz=>by omega,λz=>.inr ⟨e,z⟩⟩
    rw[e2]at h;exact h
 .rw[show (k.1==m.1)=false by rw[Cr];exact e]
  refine kat_no (oneLt_int ?_);have e2:aZT k m=decide (k.1<m.1):=Dh.mpr ⟨λz=>by omega,λz=>.inl z⟩
  rw[e2]at h;exact h
def lU:∀ {vs:List Value},(∀v∈vs,∃k,rJ h v k)->∃fs,KatTups h vs fs/\fs.length=vs.length/\∀f∈fs,∃i t,f=Value.int i t
 |[],_=>⟨[],KatTups.nil,rfl,λf hf=>nomatch hf⟩
 |v::r,hv=>by
  obtain⟨fs,h1,h2,h3⟩:=lU (vs:=r) λx hx=>hv x (Ak _ hx);obtain⟨k,x,t,u,rfl,o,g,c,n,d⟩:=hv _ Al;refine⟨.int k.1 t::fs,KatTups.cons g c d rfl h1,by rw[Bj,Bj,h2],λf hf=>?_⟩
  rcases Av.mp hf with z|z
  .exact⟨_,_,z⟩
  .exact h3 f z
def zX{Q:SortKind->Shared->Prop}(hv:∀v∈vs,∃k,rJ s.heap v k)(hn:0<vs.length)(h:Q (tuples' true) s):wpAny (model prog w) A (keyKind' vs.toArray) Q E s:=by
 obtain⟨fs,h1,h2,h3⟩:=lU hv;refine kat_kind (T:=.type "int") h1 (by omega) (λv hv'=>?_) (by decide) h
 obtain⟨i,t,rfl⟩:=h3 v hv';exact .now
end
def fZ(vs:List Value):(List.range vs.length).map (λj=>vs.getD j .none)=vs:=by
 refine List.ext_getElem (by simp) λi h1 h2=>?_
 rw[Dy,Gj,Ah,Ab h2];rfl
def mZ(w:World)(a:Addr)(rs:List Addr):HO:=.ext λh=>∃es ep t,SetAt h a es ep t/\(w.params.followText "set-order"=true\/t.led=true)/\(es.toList.map (·.2)).Perm (rs.map Value.ref)
def bZX(w0:World):List V->Hp->VK->Prop:=λxs H Q=>∃(p:Addr) (rs:List Addr) (ws:List (Nat×Nat)),xs=[.ref p]/\rdL H p=some (rs.map V.ref)/\rs.length=ws.length/\(∀(j:Nat) r w,rs[j]?=some r->ws[j]?=some w->H r=some (.tup [.int (w.1:Int),.int (w.2:Int)]))/\ws.length<=76/\(∀w∈ws,w.1<8/\w.2<8)/\ws.Nodup/\∀r,H r=none->Q (.ref r) (upd H r (mZ w0 r rs))
def bQY(hu:X.A.units+64<cLine)(hc:X.calm=true):CallR X (.type "set") (bZX X.w):=by
 intro y3 s U H xs us Q I r h;obtain⟨p,rs,ws,rfl,hp,hrl,hrw,h76,h8,nd,q⟩:=h;obtain⟨u,rfl,ru⟩:=dM r;cases ru;obtain⟨its,rv,pl,hz⟩:=I.list (aU hp);have hlen:=rv.length
 rw[Ac]at hlen;have key:∀(i:Nat) v,its[i]?=some v->∃a,v=.ref a/\IsTupleKey (PySem.intKind X.prog X.w) s.heap ((kF ws).getD i []) a:=λi v hv=>by
  have hi:i<its.length:=(Af.mp hv).1
  obtain⟨r,er⟩:∃r,rs[i]?=some r:=⟨_,Ab (by omega)⟩
  obtain⟨w,ew⟩:∃w,ws[i]?=some w:=⟨_,Ab (by omega)⟩
  obtain⟨v',h1,h2⟩:=rv.get (i:=i) (x:=.ref r) (by rw[Am,er];rfl)
  rw[hv]at h1;cases h1;cases h2;refine⟨r,rfl,?_⟩;rw[mN ew];obtain⟨tits,tr,tl,_⟩:=I.tuple (SqT.of (K:=X.K) (hrw i r w er ew));obtain⟨ot,hot,hct,nt,hdt⟩:=(show s.heap.IsTuple r tits.toArray from tl);refine⟨ot,tits.toArray,nt,hot,hct,hdt,?_⟩;rw[Gb];obtain⟨x1,x2,rfl,⟨t1,rfl⟩,⟨t2,rfl⟩⟩:=kD tr;exact .cons (Hm _ _ _ _) (.cons (Hm _ _ _ _) .nil)
 obtain⟨ch,hh,hcn,_⟩:=I.soft hc;have ne:∀i j,i<j->j<its.length->tupleKeyHash (PySem.intKind X.prog X.w) ((kF ws).getD i [])≠tupleKeyHash (PySem.intKind X.prog X.w) ((kF ws).getD j []):=λi j hij hj=>aZH h8 nd hij (by omega)
 refine iP hh hcn pl.isList (J:=zD (!X.w.params.followText "set-order") (λj=>tupleKeyHash (PySem.intKind X.prog X.w) ((kF ws).getD j [])) (λj=>its.getD j .none)) (nS _ _ _)
  (λA' hA=>tX (by omega) key (by omega) ne) λh' tk o hk ho hJ=>?_
 obtain⟨es,ep,t,hx,hd,hf,hp',hl',hR,hps,hperm⟩:=nO hJ (λi j hij hj=>ne i j hij hj) (by omega)
 have hfresh:H s.heap.objs.size=none:=I.hok.fresh (Ai _)
 have I1:Inv X y3 U H {s with heap:=h',toks:=tk}:=I.kept hk
 refine⟨.ref s.heap.objs.size,_,I1.adopt (o:=mZ X.w s.heap.objs.size rs) (I.freAt (Ai _)) hfresh ?_,rfl,q _ hfresh⟩;have ev:(List.range its.length).map (λj=>its.getD j .none)=rs.map Value.ref:=by
  rw[<-nY rv];exact fZ its
 rw[ev]at hperm;exact⟨⟨es,ep,t,⟨⟨o,ho,hx.1,hd⟩,hf,hp',hR,hps⟩,by rw[hl'];cases X.w.params.followText "set-order" <;> simp,hperm⟩,⟨o,ho⟩,λh1 h2 ⟨es,ep,t,Z,r⟩ k=>⟨es,ep,t,Z.at λo e=>k o e,r⟩⟩
section
open PySem.W (KasT kas_sort)
def cG{f:α->Nat}:∀ {L M:List α},L.Perm M->L.Pairwise (λx y=>f x<f y)->M.Pairwise (λx y=>f x<f y)->L=M
 |[],M,p,_,_=>(List.perm_nil.mp p.symm).symm
 |x::r,[],p,_,_=>absurd p.length_eq (by simp)
 |x::r,y::t,p,h,g=>by
  obtain⟨h1,h2⟩:=Gk.mp h;obtain⟨g1,g2⟩:=Gk.mp g;have e:x=y:=by
   rcases Av.mp (p.subset Al) with z|z
   .exact z
   .rcases Av.mp (p.symm.subset Al) with y'|y'
    .exact y'.symm
    .have a:=g1 x z
     have b:=h1 y y'
     omega
  subst e;rw[cG ((List.perm_cons x).mp p) h2 g2]
def rkH(H:Hp)(p:Addr):Nat:=match H p with|some (.tup [.int a,.int b])=>a.toNat*8+b.toNat|_=>0
def aQ4{a b:Nat}(h:H p=some (.tup [.int (a:Int),.int (b:Int)])):rkH H p=a*8+b:=by
 unfold rkH;rw[h];show ((a:Nat):Int).toNat*8+((b:Nat):Int).toNat=_
 rw[Ca,Ca]
def oV(w0:World):List V->Hp->VK->Prop:=λxs H Q=>∃(p:Addr) (rs:List Addr),xs=[.ref p]/\H p=some (mZ w0 p rs)/\(∀r∈rs,∃a b:Nat,H r=some (.tup [.int (a:Int),.int (b:Int)])/\b<8)/\rs.length<64/\rs.Pairwise (λx y=>rkH H x<rkH H y)/\∀D,H D=none->Q (.ref D) (upd H D (.lst (rs.map V.ref)))
def bQ2(h:vs.Perm (rs.map Value.ref)):∃qs:List Addr,vs=qs.map Value.ref/\qs.Perm rs:=by
 refine⟨vs.map λv=>match v with|.ref a=>a|_=>0,?_,?_⟩
 .rw[Cv];refine(List.map_id vs).symm.trans (Cs λv hv=>?_);obtain⟨r,_,rfl⟩:=Bc.mp (h.subset hv);rfl
 .have:=h.map λv=>match v with|.ref a=>a|_=>0
  rw[Cv]at this;refine this.trans (List.Perm.of_eq ?_);refine(Cs λr _=>?_).trans (List.map_id rs);rfl
def uT(hc:X.calm=true):CallR X (.builtin "sorted") (oV X.w):=by
 intro y3 s U H xs us Q I r h;obtain⟨p,rs,rfl,hp,hw,h64,hris,q⟩:=h;obtain⟨u,rfl,ru⟩:=dM r;cases ru;obtain⟨ch,hh,hcn,_⟩:=I.soft hc;obtain⟨⟨es,ep,t,Z,hl,hperm⟩,_⟩:=I.hok p _ hp;have hv:(aV X.w p ep es).Perm (rs.map Value.ref):=by
  unfold aV;exact((lO X.w p ep es).map (·.2)).trans hperm
 obtain⟨qs,eq,hq⟩:=bQ2 hv;have hql:qs.length=rs.length:=hq.length_eq
 have hes:es.size=rs.length:=by
  have:=hperm.length_eq
  rw[Ac,Ac,Ay]at this;exact this
 have pair:∀x∈qs,∃a b:Nat,b<8/\rkH H x=a*8+b/\∀h':Heap,(∀b o,s.heap.get? b=some o->h'.get? b=some o)->rJ h' (.ref x) ((a:Int),(b:Int)):=λx hx=>by
  obtain⟨a,b,e,hb⟩:=hw x (hq.subset hx);refine⟨a,b,hb,aQ4 e,λh' k=>?_⟩;obtain⟨tits,tr,tl,_⟩:=I.tuple (SqT.of (K:=X.K) e);obtain⟨o,g,c,n,d⟩:=(show s.heap.IsTuple x tits.toArray from tl);obtain⟨x1,x2,rfl,⟨t1,rfl⟩,⟨t2,rfl⟩⟩:=kD tr;exact⟨x,t1,t2,rfl,o,k _ _ g,c,n,d⟩
 have getq:∀i,i<qs.length->(qs.map Value.ref).getD i .none=.ref (qs.getD i 0)/\qs.getD i 0∈qs:=λi hi=>by
  rw[Ah,Am,Ab hi,Ah,Ab hi];exact⟨rfl,Bu hi⟩
 have ndr:(qs.map (rkH H)).Nodup:=(hq.map (rkH H)).nodup_iff.mpr (Ee.mpr (hris.imp λh=>Ba h))
 have inj:∀i j,i<qs.length->j<qs.length->rkH H (qs.getD i 0)=rkH H (qs.getD j 0)->i=j:=λi j hi hj e=>by
  have g:=λk (hk:k<qs.length)=>show (qs.map (rkH H))[k]'(by rw[Ac];exact hk)=rkH H (qs.getD k 0) by rw[Dy,Ah,Ab hk];rfl
  rcases Nat.lt_trichotomy i j with z|z|z
  .exact absurd ((g i hi).trans (e.trans (g j hj).symm)) (Bg.mp ndr i j _ _ z)
  .exact z
  .exact absurd ((g j hj).trans (e.symm.trans (g i hi).symm)) (Bg.mp ndr j i _ _ z)
 refine kB (κ:=tuples' true) (lt:=ltR λi=>rkH H (qs.getD i 0)) Z hl hh hcn (by omega) ?_ ?_ ?_ ?_
 .rw[eq];intro h2 h' tk k Q' E' hQ;refine zX (λv hv'=>?_) (by omega) hQ
  obtain⟨x,hx,rfl⟩:=Bc.mp hv';obtain⟨a,b,_,_,g⟩:=pair x hx;exact⟨_,g h' k⟩
 .rw [eq];intro h' tk k i j C hi hj hC;rw [Ac] at hi hj;obtain ⟨e1,m1⟩:=getq i hi;obtain ⟨e2,m2⟩:=getq j hj;obtain ⟨a1,b1,l1,r1,g1⟩:=pair _ m1;obtain ⟨a2,b2,l2,r2,g2⟩:=pair _ m2;rw [e1,e2];refine aZ2 (g1 h' k) (g2 h' k) ?_;have ed:aZT ((a1:Int),(b1:Int)) ((a2:Int),(b2:Int))=ltR (λi=>rkH H (qs.getD i 0)) i j:=by
   refine Dh.mpr ?_;show ((a1:Int)<a2\/(a1:Int)=a2/\(b1:Int)<b2) ↔ rkH H (qs.getD i 0)<rkH H (qs.getD j 0)
   rw[r1,r2];omega
  rw[ed];exact hC
 .rw[eq,Ac];intro h2;obtain⟨_,⟨h1,_⟩,_⟩:=kO h2 inj;exact h1
 .intro D h' tk c k fD hD;have out:dB (ltR λi=>rkH H (qs.getD i 0)) (aV X.w p ep es)=rs.map Value.ref:=by
   rw[eq];unfold dB;by_cases h2:(qs.map Value.ref).length<2
   .rw[if_pos h2];rw[Ac]at h2;refine Cy (List.map Value.ref) (cG (f:=rkH H) hq ?_ hris)
    match qs,h2 with
    |[],_=>exact .nil
    |[x],_=>exact List.pairwise_singleton _ _
   .rw[if_neg h2,Ac];rw[Ac]at h2;obtain⟨z,⟨_,kr⟩,Oz,Uz⟩:=kO (r:=λi=>rkH H (qs.getD i 0)) (n:=qs.length) (by omega) inj
    rw[kr];have e1:(z.toList.map λi=>(qs.map Value.ref).getD i .none)=(z.toList.map λi=>qs.getD i 0).map Value.ref:=by
     rw[Cv];exact Cs λi hi=>(getq i (Bo.mp (Oz.perm.subset hi))).1
    rw[e1];refine Cy (List.map Value.ref) (cG (f:=rkH H) ?_ ?_ hris)
    .refine((Oz.perm.map λi=>qs.getD i 0).trans (List.Perm.of_eq ?_)).trans hq;refine List.ext_getElem (by simp) λi h1 h3=>?_
     rw[Dy,Gj,Ah,Ab h3];rfl
    .refine Ee.mpr (Bg.mpr λi j hi hj hij=>?_);have sz:=Oz.size
     have g:=Uz i j hij (by rw[<-sz];simpa using hj)
     rw[Array.getD_eq_getD_getElem?,Array.getD_eq_getD_getElem?,Array.getElem?_eq_getElem (by simpa using hi),Array.getElem?_eq_getElem (by simpa using hj)]at g
     simpa using g
  rw[out]at hD;have fH:H D=none:=I.hok.fresh fD
  have I1:Inv X y3 U H {s with heap:=h',toks:=tk}:=I.kept k
  refine⟨.ref D,_,I1.adopt (o:=.lst (rs.map V.ref)) (I.freAt fD) fH ?_,rfl,q D fH⟩;exact⟨by rw[Ac];exact bG (by omega),_,c,nT id rs,hD⟩
end
section
open PySem.W (KasT kas_sort)
def uX:∀k:Fin 100,hashInt (((k:Nat)):Int)=((k:Nat):Int):=by decide +kernel
def wD{k:Nat}(h:k<100):hashInt ((k:Nat):Int)=(k:Int):=uX ⟨k,h⟩
def sP{t t':SetTable}(h:t.relaid hs wanted=some (t',order)):order.size=t'.place.size:=by
 unfold SetTable.relaid SetTable.laid at h;cases e:SetTable.layClean (SetTable.sizeAbove wanted-1) hs with
 |none=>rw[e]at h;cases h
 |some owner=>rw[e]at h;cases h;simp
def vR(nd:(es.toList.map (·.1)).Nodup)(hs:order.size=es.size)(h1:(order.filterMap (es[·]?)).size=es.size)(h2:∀e,e∈(order.filterMap (es[·]?)).toList ↔ e∈es.toList):coversAll order es.size=true:=by
 refine List.isPerm_iff.mpr (dS List.nodup_range (λi hi=>?_) (by rw[Cu,Ay,hs]))
 have hi':i<es.size:=Bo.mp hi
 have hm:=(h2 es[i]).mpr (Do hi')
 rw[Gx]at hm;obtain⟨k,hk,ek⟩:=Cp.mp hm;have hk':k<es.size:=Fz λz=>by rw[Bw z]at ek;cases ek
 rw[Aj hk']at ek;have ee:es[k]=es[i]:=Bh ek
 have:k=i:=by
  have g:∀j (hj:j<es.size),(es.toList.map (·.1))[j]'(by rw[List.length_map,Array.length_toList];exact hj)=es[j].1:=λj hj=>by simp
  rcases Nat.lt_trichotomy k i with z|z|z
  .exact absurd ((g k hk').trans ((Cy Prod.fst ee).trans (g i hi').symm)) (Bg.mp nd k i _ _ z)
  .exact z
  .exact absurd ((g i hi').trans ((Cy Prod.fst ee).symm.trans (g k hk').symm)) (Bg.mp nd i k _ _ z)
 rw[<-this];exact hk
def zH{t:SetTable}{es:Array (Int×Value)}{wanted:Nat}(nd:(es.toList.map (·.1)).Nodup)(F:Full (SetTable.sizeAbove wanted))(hp:0<SetTable.sizeAbove wanted)(hs:es.size<SetTable.sizeAbove wanted):∃es' t',relayAll t es wanted=(es',t',false)/\t'.mask=SetTable.sizeAbove wanted-1/\t'.dummies=#[]/\t'.place.size=es.size/\es'.size=es.size/\Ris t'.place/\(∀e,e∈es'.toList ↔ e∈es.toList)/\t'.led=t.led/\t'.plain=t.plain:=by
 obtain⟨t',order,h1,h2,h3,h4,h5,h6,h7⟩:=lL (t:=t) (es:=es) F hp (by omega)
 refine⟨_,t',?_,h2,h3,h4,h5,h6,h7,iI h1⟩;unfold relayAll;rw[h1];dsimp only;rw[vR nd ((sP h1).trans h4) h5 h7,gF (h4.trans h5.symm) h3 (by rw[h5,h2];omega)]
 rfl
def rH{led:Bool}{old:Heap}(hk:∀(i:Nat) v,vs[i]?=some v->∃t,v=.int ((ks.getD i 0:Nat):Int) t)(hl:vs.length<=76)(h100:∀i,i<vs.length->ks.getD i 0<100)(ne:∀i j,i<j->j<vs.length->ks.getD i 0≠ks.getD j 0):wJ prog w A old S vs (zD led (λj=>((ks.getD j 0:Nat):Int)) (λj=>vs.getD j .none)):=by
 intro i v s o E Q hv hold hS hJ q;obtain⟨tk,rfl⟩:=hk i v hv;have hiv:i<vs.length:=(Af.mp hv).1
 have hgv:vs.getD i .none=.int ((ks.getD i 0:Nat):Int) tk:=by rw[Ah,hv];rfl
 obtain⟨hx,es,ep,t,hd,hlp,hmk,hdm,hps,hsz,hR,hes,hin⟩:=hJ;have hF:=aZN hmk
 have hle:es.size<=t.mask:=by rw[hsz,hmk];exact eG (by omega)
 have hfit:=gF hps hdm hle
 have hh100:=h100 i hiv
 have hvj:∀j,j<i->∃u,vs.getD j .none=.int ((ks.getD j 0:Nat):Int) u:=λj hj=>by
  obtain⟨u,eu⟩:=hk j (vs[j]'(by omega)) (Ab (by omega))
  exact⟨u,by rw[Ah,Ab (by omega)];exact eu⟩
 have hel:ElemsOf (PySem.intKind prog w) es.toList:=λe he=>by
  obtain⟨j,hj,rfl⟩:=hes e he;obtain⟨u,eu⟩:=hvj j hj;dsimp only;rw[eu];exact⟨⟨_,Hm _ _ _ _,(wD (h100 j (by omega))).symm⟩,rfl⟩
 have hne:∀e∈es.toList,e.1≠((ks.getD i 0:Nat):Int):=λe he z=>by
  obtain⟨j,hj,rfl⟩:=hes e he;have z':((ks.getD j 0:Nat):Int)=((ks.getD i 0:Nat):Int):=z
  exact ne j i hj hiv (by exact_mod_cast z')
 unfold setAdd;refine Bv (Aa ((PySem.intKind prog w).pyHash (k:=((ks.getD i 0:Nat):Int)) (Hm _ _ _ _) ?_));have hhash:(PySem.intKind prog w).hash ((ks.getD i 0:Nat):Int)=((ks.getD i 0:Nat):Int):=wD hh100
 unfold setAddHashed;rw[show (100000:Nat)=99999+1 from rfl];unfold setAddHashedIn;refine Bv (Aa (Bz hS hd hfit ?_));dsimp only;rw[byScan_of rfl (by unfold scanBound;omega) hel]
 simp only[↓reduceIte];unfold setAddByScan;refine Aa (Aa (wpAny_rule (Aa (wpAny_setScan_of (Hm _ _ _ _) hS hd hfit hel ?_))));have hnone:es.toList.findIdx? (λe=>(PySem.intKind prog w).is ((ks.getD i 0:Nat):Int) e.2)=none:=by
  refine List.findIdx?_eq_none_iff.mpr λe he=>?_;obtain⟨j,hj,ej⟩:=hes e he;obtain⟨u,eu⟩:=hvj j hj;rw[ej];dsimp only;rw[eu];cases hb:(PySem.intKind prog w).is ((ks.getD i 0:Nat):Int) (.int ((ks.getD j 0:Nat):Int) u) with
  |false=>rfl
  |true=>
   have:=(PySem.intKind prog w).inj _ _ _ hb (Hm _ _ _ _)
   exact absurd (by exact_mod_cast this.symm) (ne j i hj hiv)
 rw[hnone];dsimp only;rw[hhash];generalize hH:((ks.getD i 0:Nat):Int)=hh at hne hgv hv ⊢;have hpr0:∃j,t.probe (sth es) hh (t.probeStart hh)=some (.empty j none):=by
  refine kE hF.1 hdm (by omega) λk hk'=>?_
  have hk2:k<es.size:=by omega
  rw[aZ5 (Aj hk2)];exact hne _ (Do hk2)
 have hpr1:∀j,t.probe (sth es) hh (t.probeStart hh)=some (.empty j none)->t.probe (λ_=>hh+1) hh (t.probeStart hh)=some (.empty j none):=by
  intro j;unfold SetTable.probe;generalize 10*SetTable.turns t.mask=f;generalize t.probeStart hh=p;induction f generalizing p with
  |zero=>intro z;cases z
  |succ f ih=>
   unfold SetTable.probe.go;cases e:t.slot p.j with
   |empty=>exact λz=>z
   |dummy=>exact λz=>ih _ z
   |live i'=>
    dsimp only;rw[show (hh+1==hh)=false from by simp;omega]
    intro z;by_cases hb:(sth es i' == hh)=true
    .rw[if_pos hb]at z;cases z
    .rw[if_neg hb]at z;exact ih _ z
 obtain⟨slot,hpr⟩:=hpr0;have hfree:t.freeSlot hh=some (slot,false):=by
  unfold SetTable.freeSlot;rw[hpr1 _ hpr];rfl
 have p1:(t.put slot).1.mask=t.mask:=rfl
 have p0:(t.put slot).1.led=led/\(t.put slot).1.plain=true:=hlp
 have p2:(t.put slot).1.dummies=#[]:=by
  show (if SetTable.has t.dummies slot=true then _ else t.dummies)=_
  rw[hdm];rfl
 have p3:(t.put slot).1.place.size=es.size+1:=(dR _ _ _).trans (by rw[hps])
 have p4:=xC hdm hR hpr
 have p6:(t.put slot).2<=es.size:=by rw[<-hps];exact(fT hR slot).1
 have hlay:layNew t es hh (.int hh tk)=(SetTable.insertAt es (t.put slot).2 (hh,.int hh tk),(t.put slot).1.orStandIn (SetTable.insertAt es (t.put slot).2 (hh,.int hh tk)).size,false,!(t.put slot).1.fits (SetTable.insertAt es (t.put slot).2 (hh,.int hh tk)).size):=by
  unfold layNew;rw[hfree]
 rw[hlay];generalize t.put slot=tp at p0 p1 p2 p3 p4 p6 ⊢;obtain⟨t1,p⟩:=tp;dsimp only at p0 p1 p2 p3 p4 p6 ⊢;have z1:(SetTable.insertAt es p (hh,Value.int hh tk)).size=es.size+1:=dR _ _ _
 have z2:∀e∈(SetTable.insertAt es p (hh,Value.int hh tk)).toList,∃j,j<i+1/\e=(((ks.getD j 0:Nat):Int),vs.getD j .none):=λe he=>by
  rcases lN he with rfl|he
  .exact⟨i,Dw _,by rw[hH,hgv]⟩
  .obtain⟨j,hj,ej⟩:=hes e he;exact⟨j,Ds hj,ej⟩
 have z3:∀j,j<i+1->(((ks.getD j 0:Nat):Int),vs.getD j .none)∈(SetTable.insertAt es p (hh,Value.int hh tk)).toList:=λj hj=>by
  by_cases e:j=i
  .subst e;exact eS p6 (.inl (by rw[hH,hgv]))
  .exact eS p6 (.inr (hin j (by omega)))
 generalize SetTable.insertAt es p (hh,Value.int hh tk)=es1 at z1 z2 z3 ⊢;have hi76:i<76:=by omega
 have hml1:es.size+1<=t1.mask:=by
  rw[p1,hmk,hsz];unfold bM;split
  .omega
  .split<;>omega
 have hfit1:t1.fits es1.size=true:=gF (p3.trans z1.symm) p2 (by rw[z1];exact hml1)
 have hnd:(es1.toList.map (·.1)).Nodup:=by
  have nd:((List.range (i+1)).map λj=>(((ks.getD j 0:Nat):Int),vs.getD j .none)).Nodup:=by
   refine Ee.mpr (Gd (R:=(· < ·)) (fun {a b} ha hb hab z=>?_) Fk);have hb':=Bo.mp hb
   exact ne a b hab (by omega) (by exact_mod_cast (Prod.mk.inj z).1)
  have pm:=dS nd (M:=es1.toList) (λx hx'=>by
   obtain⟨j,hj,rfl⟩:=Bc.mp hx';exact z3 j (Bo.mp hj)) (by rw[Ac,Cu,Ay,z1,hsz])
  have pm2:=pm.map (·.1)
  rw[Cv]at pm2;refine pm2.nodup_iff.mpr (Ee.mpr (Gd (R:=(· < ·)) (fun {a b} ha hb hab z=>?_) Fk));have hb':=Bo.mp hb
  have z':((ks.getD a 0:Nat):Int)=((ks.getD b 0:Nat):Int):=z
  exact ne a b hab (by omega) (by exact_mod_cast z')
 have hor:t1.orStandIn es1.size=t1:=by unfold SetTable.orStandIn;rw[if_pos hfit1]
 rw[hor,hfit1];refine Aa (Ae ?_);rw[if_pos p0.2];refine Aa (Ae ?_);simp only[↓reduceIte];obtain⟨o1,ho1,hx1,hd1,sb1⟩:=pZ es1 t1 hS hx hd;refine Aa (Gz hS hd ?_ (by rw[z1];exact bG (by omega)))
 have hfull:t1.tooFull=decide (bM i*3<=(i+1)*5):=by
  unfold SetTable.tooFull SetTable.fill;rw[p1,p2,p3,hmk,hsz];rfl
 rw[hfull];by_cases hf:bM i*3<=(i+1)*5
 .rw [Au hf];simp only [Bool.not_false,Bool.and_self,if_true];have hcase:(i=4\/i=18):=by
   unfold bM at hf;split at hf
   .omega
   .split at hf<;>omega
  have hw:SetTable.sizeAbove (SetTable.grown es1.size)=bM (i+1)+1:=by
   rw[z1,hsz];rcases hcase with z|z<;>rw[z]<;>rfl
  have hml:=eG (i:=i+1) (by omega)
  have hm2:bM (i+1)<=127:=by rcases hcase with z|z<;>rw[z]<;>decide
  obtain⟨es2,t2,m0,m1,m2,m3,m4,m5,m6,m8⟩:=zH (t:=t1) (es:=es1) (wanted:=SetTable.grown es1.size) hnd (by rw[hw];exact(jL _).1) (by omega) (by rw[hw,z1,hsz];omega)
  rw[m0];refine Aa (Ae ?_);refine Aa (Gz (s:={s with toks:=_,heap:=s.heap.update S (Obj.putSet es1 t1)}) ho1 hd1 ?_ (by rw[m4,z1];exact bG (by omega)))
  obtain⟨o2,ho2,hx2,hd2,sb2⟩:=pZ es2 t2 ho1 hx1 hd1;refine Ae (Ae ?_);exact q true _ _ o2 (sb1.trans sb2) ho2 ⟨hx2,es2,_,t2,hd2,⟨m8.1.trans p0.1,m8.2.trans p0.2⟩,by rw[m1,hw];rfl,m2,by rw[m3,m4],by rw[m4,z1,hsz],m5,λe he=>z2 e ((m6 e).mp he),λj hj=>(m6 _).mpr (z3 j hj)⟩
 .rw [Bb hf];simp only [Bool.not_false,Bool.and_false,Bool.false_eq_true,if_false];have hmm:bM (i+1)=bM i:=by
   unfold bM at hf ⊢;split at hf
   .rw[if_pos (by omega)];rename_i h4;rw[if_pos h4]
   .rename_i h4
    rw[if_neg (by omega),if_neg h4]
    split at hf
    .rename_i h18;rw[if_pos (by omega),if_pos h18]
    .rename_i h18;rw[if_neg (by omega),if_neg h18]
  refine Ae (Ae ?_);exact q true _ _ o1 sb1 ho1 ⟨hx1,es1,_,t1,hd1,p0,by rw[p1,hmk,hmm],p2,by rw[p3,z1],by rw[z1,hsz],p4,z2,z3⟩
end
section
open PySem.W (KasT kas_sort)
def mV(w:World)(a:Addr)(ks:List Nat):HO:=.ext λh=>∃es ep t,SetAt h a es ep t/\(w.params.followText "set-order"=true\/t.led=true)/\∃vs:List Value,(es.toList.map (·.2)).Perm vs/\IntsAre vs (ks.map λk=>((k:Nat):Int))
def bZ8(w0:World):List V->Hp->VK->Prop:=λxs H Q=>∃(p:Addr) (ks:List Nat),xs=[.ref p]/\rdL H p=some (ks.map λk=>V.int ((k:Nat):Int))/\ks.length<=60/\(∀k∈ks,k<100)/\ks.Nodup/\∀r,H r=none->Q (.ref r) (upd H r (mV w0 r ks))
def bXC(hc:X.calm=true):CallR X (.type "set") (bZ8 X.w):=by
 intro y3 s U H xs us Q I r h;obtain⟨p,ks,rfl,hp,h60,h100,nd,q⟩:=h;obtain⟨u,rfl,ru⟩:=dM r;cases ru;obtain⟨its,rv,pl,hz⟩:=I.list (aU hp);have hlen:=rv.length
 rw[Ac]at hlen;have gks:∀i (h:i<ks.length),ks.getD i 0=ks[i]:=λi h=>by rw[Ah,Ab h];rfl
 have key:∀(i:Nat) v,its[i]?=some v->∃t,v=.int ((ks.getD i 0:Nat):Int) t:=λi v hv=>by
  have hi:i<its.length:=(Af.mp hv).1
  have hik:i<ks.length:=by omega
  obtain⟨v',h1,h2⟩:=rv.get (i:=i) (x:=.int ((ks[i]:Nat):Int)) (by rw[Am,Ab hik];rfl)
  rw[hv]at h1;cases h1;rw[gks i hik];exact h2
 obtain⟨ch,hh,hcn,_⟩:=I.soft hc;have ne:∀i j,i<j->j<its.length->ks.getD i 0≠ks.getD j 0:=λi j hij hj=>by
  rw[gks i (by omega),gks j (by omega)]
  exact Bg.mp nd i j _ _ hij
 refine iP hh hcn pl.isList (J:=zD (!X.w.params.followText "set-order") (λj=>((ks.getD j 0:Nat):Int)) (λj=>its.getD j .none)) (nS _ _ _)
  (λA' hA=>rH key (by omega) (λi hi=>by rw[gks i (by omega)];exact h100 _ (Bu _)) ne) λh' tk o hk ho hJ=>?_
 obtain⟨es,ep,t,hx,hd,hf,hp',hl',hR,hps,hperm⟩:=nO hJ (λi j hij hj e=>ne i j hij hj (by exact_mod_cast e)) (by omega)
 have hfresh:H s.heap.objs.size=none:=I.hok.fresh (Ai _)
 have I1:Inv X y3 U H {s with heap:=h',toks:=tk}:=I.kept hk
 refine⟨.ref s.heap.objs.size,_,I1.adopt (o:=mV X.w s.heap.objs.size ks) (I.freAt (Ai _)) hfresh ?_,rfl,q _ hfresh⟩;rw[fZ]at hperm;have hia:IntsAre its (ks.map λk=>((k:Nat):Int)):=xH (by rw[Ac];omega) λj v x hv hx=>by
  obtain⟨t,rfl⟩:=key j v hv;rw[Am]at hx;obtain⟨k,ek,rfl⟩:=By.mp hx;rw[Ah,ek];exact⟨t,rfl⟩
 exact⟨⟨es,ep,t,⟨⟨o,ho,hx.1,hd⟩,hf,hp',hR,hps⟩,by rw[hl'];cases X.w.params.followText "set-order" <;> simp,its,hperm,hia⟩,⟨o,ho⟩,λh1 h2 ⟨es,ep,t,Z,r⟩ k=>⟨es,ep,t,Z.at λo e=>k o e,r⟩⟩
def rkV:Value->Nat|.int n _=>n.toNat|_=>0
def aJX(h:IntsAre vs (ks.map λk=>((k:Nat):Int))):vs.map rkV=ks/\∀v∈vs,∃t,v=.int ((rkV v:Nat):Int) t:=by
 generalize hL:(ks.map λk=>((k:Nat):Int))=L at h;induction h generalizing ks with
 |nil=>
  cases ks with
  |nil=>exact⟨rfl,λv hv=>nomatch hv⟩
  |cons _ _=>cases hL
 |cons n t _ ih=>
  cases ks with
  |nil=>cases hL
  |cons k r=>
   obtain⟨rfl,e⟩:=List.cons.inj hL;obtain⟨h1,h2⟩:=ih e;refine⟨by rw[Aq,h1];exact Cy (·::r) (Ca k),λv hv=>?_⟩
   rcases Av.mp hv with rfl|z
   .exact⟨t,Cy (λn=>Value.int n t) (by show (k:Int)=((((k:Nat):Int).toNat:Nat):Int);rw[Ca])⟩
   .exact h2 v z
def nZ(h:∀v∈vs,∃t,v=.int ((rkV v:Nat):Int) t):IntsAre vs ((vs.map rkV).map λk=>((k:Nat):Int)):=by
 induction vs with
 |nil=>exact .nil
 |cons v r ih=>
  obtain⟨t,e⟩:=h v Al;have i:=ih λx hx=>h x (Ak _ hx)
  rw[Aq,Aq];generalize rkV v=n at e ⊢;subst e;exact .cons _ t i
def oN(w0:World):List V->Hp->VK->Prop:=λxs H Q=>∃(p:Addr) (ks:List Nat),xs=[.ref p]/\H p=some (mV w0 p ks)/\ks.length<64/\ks.Pairwise (· < ·)/\∀D,H D=none->Q (.ref D) (upd H D (.lst (ks.map λk=>V.int ((k:Nat):Int))))
def vB(hc:X.calm=true):CallR X (.builtin "sorted") (oN X.w):=by
 intro y3 s U H xs us Q I r h;obtain⟨p,ks,rfl,hp,h64,hris,q⟩:=h;obtain⟨u,rfl,ru⟩:=dM r;cases ru;obtain⟨ch,hh,hcn,_⟩:=I.soft hc;obtain⟨⟨es,ep,t,Z,hl,vs,hperm,hia⟩,_⟩:=I.hok p _ hp;obtain⟨hks,hvs⟩:=aJX hia;have hv:(aV X.w p ep es).Perm vs:=by
  unfold aV;exact((lO X.w p ep es).map (·.2)).trans hperm
 have hvl:vs.length=ks.length:=by rw[<-hks,Ac]
 have hes:es.size=ks.length:=by
  have:=hperm.length_eq
  rw[Ac,Ay]at this;omega
 generalize hV:aV X.w p ep es=V at hv;have hVl:V.length=ks.length:=hv.length_eq.trans hvl
 have hVi:∀v∈V,∃t,v=.int ((rkV v:Nat):Int) t:=λv h=>hvs v (hv.subset h)
 have getV:∀i,i<V.length->V.getD i .none∈V:=λi hi=>by
  rw[Ah,Ab hi];exact Bu hi
 have hpk:(V.map rkV).Perm ks:=by rw[<-hks];exact hv.map rkV
 have ndr:(V.map rkV).Nodup:=hpk.nodup_iff.mpr (hris.imp λh=>Ba h)
 have inj:∀i j,i<V.length->j<V.length->rkV (V.getD i .none)=rkV (V.getD j .none)->i=j:=λi j hi hj e=>by
  have g:=λk (hk:k<V.length)=>show (V.map rkV)[k]'(by rw[Ac];exact hk)=rkV (V.getD k .none) by rw[Dy,Ah,Ab hk];rfl
  rcases Nat.lt_trichotomy i j with z|z|z
  .exact absurd ((g i hi).trans (e.trans (g j hj).symm)) (Bg.mp ndr i j _ _ z)
  .exact z
  .exact absurd ((g j hj).trans (e.symm.trans (g i hi).symm)) (Bg.mp ndr j i _ _ z)
 refine kB (κ:=oneType') (lt:=ltR λi=>rkV (V.getD i .none)) Z hl hh hcn (by omega) ?_ ?_ ?_ ?_
 .rw[hV];intro h2 h' tk k Q' E' hQ;have hI:=nZ hVi
  match V,h2,hI with
  |v1::v2::r,_,hI=>exact Hk (keyKind_ints hI) hQ
 .rw [hV];intro h' tk k i j C hi hj hC;obtain ⟨t1,e1⟩:=hVi _ (getV i hi);obtain ⟨t2,e2⟩:=hVi _ (getV j hj);have ed:ltR (λi=>rkV (V.getD i .none)) i j=decide (((rkV (V.getD i .none):Nat):Int)<((rkV (V.getD j .none):Nat):Int)):=by
   refine Dh.mpr ?_;show rkV (V.getD i .none)<rkV (V.getD j .none) ↔ _
   omega
  rw[ed]at hC;generalize rkV (V.getD i .none)=a at e1 hC;generalize rkV (V.getD j .none)=b at e2 hC;rw[e1,e2];exact W.kat_lt_int hC
 .rw[hV];intro h2;obtain⟨_,⟨h1,_⟩,_⟩:=kO h2 inj;exact h1
 .intro D h' tk c k fD hD;rw [hV] at hD;have out:(dB (ltR λi=>rkV (V.getD i .none)) V).Perm V/\(dB (ltR λi=>rkV (V.getD i .none)) V).map rkV=ks:=by
   unfold dB;by_cases h2:V.length<2
   .rw[if_pos h2];refine⟨.refl _,cG (f:=λn=>n) hpk ?_ hris⟩
    match V,h2 with
    |[],_=>exact .nil
    |[x],_=>exact List.pairwise_singleton _ _
   .rw[if_neg h2];obtain⟨z,⟨_,kr⟩,Oz,Uz⟩:=kO (r:=λi=>rkV (V.getD i .none)) (n:=V.length) (by omega) inj
    rw[kr];have hp1:(z.toList.map λi=>V.getD i .none).Perm V:=by
     refine(Oz.perm.map λi=>V.getD i .none).trans (List.Perm.of_eq ?_);refine List.ext_getElem (by simp) λi h1 h3=>?_
     rw[Dy,Gj,Ah,Ab h3];rfl
    refine⟨hp1,cG (f:=λn=>n) ((hp1.map rkV).trans hpk) ?_ hris⟩;rw[Cv];refine Ee.mpr (Bg.mpr λi j hi hj hij=>?_);have sz:=Oz.size
    have g:=Uz i j hij (by rw[<-sz];simpa using hj)
    rw[Array.getD_eq_getD_getElem?,Array.getD_eq_getD_getElem?,Array.getElem?_eq_getElem (by simpa using hi),Array.getElem?_eq_getElem (by simpa using hj)]at g
    simpa using g
  obtain⟨o1,o2⟩:=out;have hI:=nZ (vs:=dB (ltR λi=>rkV (V.getD i .none)) V) λv hv'=>hVi v (o1.subset hv')
  rw[o2]at hI;have fH:H D=none:=I.hok.fresh fD
  have I1:Inv X y3 U H {s with heap:=h',toks:=tk}:=I.kept k
  have hvals:=yB hI
  rw[Cv]at hvals;refine⟨.ref D,_,I1.adopt (o:=.lst (ks.map λk=>L2.V.int ((k:Nat):Int))) (I.freAt fD) fH ?_,rfl,q D fH⟩;exact⟨by rw[Ac];exact bG (by omega),_,c,hvals,hD⟩
def cQU{ws:List (Nat×Nat)}(e:rdL H p=some (rs.map V.ref))(hl:rs.length=ws.length)(hw:∀(j:Nat) r w,rs[j]?=some r->ws[j]?=some w->H r=some (.tup [.int (w.1:Int),.int (w.2:Int)]))(h76:ws.length<=76)(h8:∀w∈ws,w.1<8/\w.2<8)(nd:ws.Nodup)(h:∀r,H r=none->Q (.ref r) (upd H r (mZ w0 r rs))):bZX w0 [.ref p] H Q:=⟨p,rs,ws,rfl,e,hl,hw,h76,h8,nd,h⟩
def cXF(e:rdL H p=some (ks.map λk=>V.int ((k:Nat):Int)))(h60:ks.length<=60)(h100:∀k∈ks,k<100)(nd:ks.Nodup)(h:∀r,H r=none->Q (.ref r) (upd H r (mV w0 r ks))):bZ8 w0 [.ref p] H Q:=⟨p,ks,rfl,e,h60,h100,nd,h⟩
def tL(e:H p=some (mZ w0 p rs))(hw:∀r∈rs,∃a b:Nat,H r=some (.tup [.int (a:Int),.int (b:Int)])/\b<8)(h64:rs.length<64)(hr:rs.Pairwise (λx y=>rkH H x<rkH H y))(h:∀D,H D=none->Q (.ref D) (upd H D (.lst (rs.map V.ref)))):oV w0 [.ref p] H Q:=⟨p,rs,rfl,e,hw,h64,hr,h⟩
def uV(e:H p=some (mV w0 p ks))(h64:ks.length<64)(hr:ks.Pairwise (· < ·))(h:∀D,H D=none->Q (.ref D) (upd H D (.lst (ks.map λk=>V.int ((k:Nat):Int))))):oN w0 [.ref p] H Q:=⟨p,ks,rfl,e,h64,hr,h⟩
end
def aN(i:Nat){pos':Pos}(hN:X.N.Nodup)(he:PE X e te)(hi:X.N[i]?=some x:=by rfl)(hx:Loc X.env.scope x:=by first|exact Or.inl rfl|exact Or.inr rfl)(hs:swapsWith e (some (.Name x pos')) pos.line X.env=pure false:=by rfl)(hf:X.fn x=true\/X.env.scope.names.lookup x=some .local:=by first|exact Or.inl rfl|exact Or.inr rfl):PS X (.Assign [.Name x pos'] e pos) (bXY te (kS i)):=uB hN hi hx he hs hf
end L2
namespace Mine
open PySem L2
variable {F cw:List Nat}{H:Hp}{Zo Zp Zq Zr Zs Zt Zu Zv Zw Zx Zy Zz f:Addr}{bs ds rs:List Addr}{cws:Q5}{fd:FuncData}{g i j k:Nat}{kvs:List (Key×V)}{mg:Q4}{n:Nat->Int}{x:V}{xs:List V}{α β:Type}
local macro_rules | `(tactic| walk_at "rd") => `(tactic| first | assumption | exact dI | exact jN | exact zL | exact aQ (by assumption) | exact cS (by assumption) | (apply aJ (aF (by assumption) _); walk_at "rd"))
local macro_rules | `(tactic| walk_at "dd") => `(tactic| first | exact eK (by assumption) | exact vS (by assumption) | exact eK aB | assumption)
local macro_rules | `(tactic| walk_at "lo") => `(tactic| first | assumption | decide | omega | (simp only [List.length_map,List.length_append,List.length_cons,List.length_nil,Str.length_append]; omega))
local macro_rules | `(tactic| walk_at "ln") => `(tactic| first | assumption | decide | exact bG (by walk_at "lo") | exact bH (by walk_at "lo"))
local macro_rules | `(tactic| walk_at "ar") => `(tactic| first | assumption | decide | omega | exact ⟨by omega,by omega⟩ | exact Or.inl ⟨by omega,by omega⟩ | exact Or.inr ⟨by omega,by omega⟩ | (dsimp only; done) | (dsimp only; omega))
local macro_rules | `(tactic| walk_at "s") => `(tactic| first
 | (with_reducible first | refine cZJ ?_ | refine cXC ?_ | refine dXP ?_ | refine cJE ?_ | refine cXO ?_ | refine dQ0 ?_ | refine cJ3 ?_ | refine qH ?_)
 | ((with_reducible refine' cJV ?sv ?_); (case sv => exact rfl))
 | (with_reducible first | refine s_c ?_ | refine dQ6 ?_ | refine dXA ?_ | refine cJY ?_ | refine cXA ?_ | refine cQW ?_ | refine dQ9 ?_ | refine dXB ?_ | refine aX0 ?_ | refine cXP ?_ | refine cQY ?_ | refine cZ0 ?_)
 | ((with_reducible refine' cZ8 ?se ?_); (case se => walk_at "rd"))
 | (with_reducible first | refine cXK ?_ | refine bQ5 ?_ | refine dXG ?_ | refine bJ8 ?_ | refine cZ1 ?_ | refine dXD ?_ | refine cJZ ?_ | refine cQ3 ?_ | refine dXN ?_)
 | ((with_reducible refine cZQ ?sc ?_); (case sc => walk_at "ar"))
 | with_reducible refine cXQ ?_
 | ((with_reducible refine cQS ?sc ?_); (case sc => walk_at "ln"))
 | (with_reducible first | refine dQP ?_ | refine cJ7 ?_ | refine cXV ?_)
 | ((with_reducible refine' cZV ?sc ?_); (case sc => walk_at "rd"))
 | ((with_reducible refine cQP ?sc ?_); (case sc => walk_at "ln"))
 | ((with_reducible refine' bJ1 ?sc ?_); (case sc => walk_at "rd"))
 | with_reducible refine cZI ?_
 | ((with_reducible refine' cQE ?sc ?_); (case sc => walk_at "rd"))
 | ((with_reducible refine' cZ2 ?se ?se2 ?_); (case se => first | exact rfl | exact xL (by assumption) | exact tyN_dK (by assumption) | exact tyN_tup (by assumption) | exact xL aB | exact tyN_dK aB); (case se2 => first | exact (show zG _ _ = some true from rfl) | exact (show zG _ _ = some false from rfl) | exact rfl))
 | (with_reducible first | refine cX1 ?_ | refine bXI ?_ | refine bQ6 ?_ | refine bQL ?_ | refine bZP ?_ | refine bQ4 ?_ | refine cXY ?_ | refine bJQ ?_ | refine aJB ?_)
 | ((with_reducible refine' dQO ?se ?_); (case se => walk_at "rd"))
 | ((with_reducible refine' dQQ ?se ?sl ?_); (case se => walk_at "rd"); (case sl => walk_at "ln"))
 | with_reducible refine bXM ?_
 | ((with_reducible refine' cZN ?se ?sf ?sl ?_); (case se => walk_at "rd"); (case sf => walk_at "rd"); (case sl => walk_at "ln"))
 | ((with_reducible refine' bQ8 ?se ?_); (case se => walk_at "rd"))
 | ((with_reducible refine s_str ?sc ?_); (case sc => walk_at "ar"))
 | (with_reducible first | refine bX2 ?_ | refine cXB ?_ | refine cQM ?_ | refine bJW ?_ | refine bXW ?_ | refine cQL ?_)
 | ((with_reducible refine' cQB ?se ?sn ?_); (case se => walk_at "rd"); (case sn => exact rfl))
 | (with_reducible first | refine cZL ?_ | refine cZR ?_ | refine bXZ ?_ | refine cX2 ?_ | refine bX6 ?_ | refine bXL ?_ | refine bXT ?_)
 | ((with_reducible refine cJU ?sd ?_); (case sd => walk_at "dd"))
 | (with_reducible first | refine bJU ?_ | refine cZU ?_ | refine cZC ?_ | refine bXD ?_ | refine aXJ ?_ | refine bX0 ?_ | refine bJT ?_ | refine cJR ?_ | refine bQP ?_ | refine cXH ?_ | refine aXE ?_ | refine dQR ?_ | refine cQI ?_ | refine dQF ?_ | refine dQ7 ?_ | refine dXI ?_ | refine dQU ?_ | refine cJM ?_)
 | dsimp only)
local macro_rules | `(tactic| walk_at "g") => `(tactic| repeat' (walk_at "s"))
local macro_rules | `(tactic| walk_at "sc") => `(tactic| exact ⟨rfl,rfl,rfl,by decide +kernel,rfl,by decide +kernel,by decide +kernel⟩)
local macro_rules | `(tactic| walk_at "o") => `(tactic| first | exact Or.inl rfl | exact Or.inr rfl)
def top(i:Nat):Stmt:=PySem.Challenge.pw_flaglocker_k13_hung_or_lacking.main.body.getD i (.Pass ⟨0,0,0,0⟩)
abbrev lP:Stmt:=top 29
abbrev jU:Stmt:=top 28
abbrev jQ:Stmt:=top 31
abbrev hZ:Stmt:=top 32
abbrev fL:Stmt:=top 27
abbrev fN:Stmt:=top 30
abbrev jR:Stmt:=top 33
abbrev eV:Stmt:=top 19
abbrev dD:Stmt:=top 18
abbrev eM:Stmt:=top 22
abbrev dF:Stmt:=top 16
abbrev fV:Stmt:=top 20
abbrev dC:Stmt:=top 23
abbrev eL:Stmt:=top 24
abbrev fP:Stmt:=cZK (top 4) 0
abbrev cC:Stmt:=top 25
abbrev dZ:Stmt:=top 35
abbrev gJ:Stmt:=top 34
abbrev jV:Stmt:=top 36
abbrev jK:Stmt:=top 37
abbrev lB:Stmt:=top 38
structure KFs (K:W.Frag) (Zo Zz Zw Zr Zs Zt Zy Zx Zq Zv Zu Zp:Addr):Prop where
 i_1:W.kitOne K (.ref Zo) (.ref Zw)=some false
 i_2:W.kitOne K (.ref Zo) (.ref Zr)=some false
 i_3:W.kitOne K (.ref Zo) (.ref Zs)=some false
 i_4:W.kitOne K (.ref Zo) (.ref Zt)=some false
 i_5:W.kitOne K (.ref Zo) (.ref Zy)=some false
 i_6:W.kitOne K (.ref Zo) (.ref Zx)=some false
 i_7:W.kitOne K (.ref Zo) (.ref Zq)=some false
 i_8:W.kitOne K (.ref Zo) (.ref Zv)=some false
 i_9:W.kitOne K (.ref Zo) (.ref Zu)=some false
 i_10:W.kitOne K (.ref Zo) (.ref Zp)=some false
 i_11:W.kitOne K (.ref Zo) (.ref Zz)=some true
 i_12:W.kitOne K (.ref Zo) (.type "ValueError")=some true
 m_Lack:W.exmOne K (.ref Zo) (.ref Zo)=some true
 t1_TowerError:W.specialIn K (.ref Zz) "__getattribute__"=some (some (.builtin "type.__getattribute__"))
 t2_TowerError:W.readsIn K Zz (.type "type")=true
 t3_TowerError:W.findCls K (.ref Zz) (.type "type") "__init__"=some (.val (.builtin "ValueError.__init__"))
 xo_Lack:yU K Zo [.type "ValueError",.type "Exception",.type "BaseException",.type "object"] "ValueError.__new__"=true
 xk_Lack:W.keepIn K (.ref Zo)=true
 xe1_Lack:W.hasDictIn K Zo=true
 xe2_Lack:W.findIn K (.ref Zo) "__getattribute__"=some (some (.builtin "BaseException.__getattribute__"))
 xe3_Lack:W.findIn K (.ref Zo) "__getattr__"=some none
 xe4_Lack:W.findIn K (.ref Zo) "__class__"=some (some (.builtin "object.__class__"))
 xe5_Lack:W.specialIn K (.builtin "object.__class__") "__get__"=some (some (.builtin "getset_descriptor.__get__"))
 xe6_Lack:W.takesIn K (.builtin "object.__class__")=some true
 xe7_Lack:W.mroIn K Zo (.type "object")=some true
 xe8_Lack:W.subIn K (.ref Zo) (.type "BaseException")=some true
 xs_Lack:W.findIn K (.ref Zo) "__setattr__"=some (some (.builtin "object.__setattr__"))
 xr_Lack:cZ9 K Zo Zz=true
 xv_Lack:W.subIn K (.ref Zo) (.type "ValueError")=some true
 xn_Lack_wants:W.findIn K (.ref Zo) "wants"=some none
 xn_Lack_flags:W.findIn K (.ref Zo) "flags"=some none
structure Gs (K:W.Frag) (mg:Str->Option Value) (Zo Zz Zw Zr Zs Zt Zy Zx Zq Zv Zu Zp:Addr):Prop extends KFs K Zo Zz Zw Zr Zs Zt Zy Zx Zq Zv Zu Zp where
 c_Lack:mg "Lack"=some (.ref Zo)
 c_TowerError:mg "TowerError"=some (.ref Zz)
 c_NoBook:mg "NoBook"=some (.ref Zw)
 c_NoCut:mg "NoCut"=some (.ref Zr)
 c_NoDeed:mg "NoDeed"=some (.ref Zs)
 c_NoFlag:mg "NoFlag"=some (.ref Zt)
 c_NoHalyard:mg "NoHalyard"=some (.ref Zy)
 c_NoHoist:mg "NoHoist"=some (.ref Zx)
 c_NoRow:mg "NoRow"=some (.ref Zq)
 c_NoText:mg "NoText"=some (.ref Zv)
 c_NoWord:mg "NoWord"=some (.ref Zu)
 c_Short:mg "Short"=some (.ref Zp)
 b_range:mg "range"=none
 b_enumerate:mg "enumerate"=none
 b_len:mg "len"=none
 b_min:mg "min"=none
 b_str:mg "str"=none
 b_zip:mg "zip"=none
 b_isinstance:mg "isinstance"=none
 b_list:mg "list"=none
 b_int:mg "int"=none
 b_ValueError:mg "ValueError"=none
 b_sum:mg "sum"=none
 b_sorted:mg "sorted"=none
 b_bool:mg "bool"=none
 b_set:mg "set"=none
 b_dict:mg "dict"=none
 s_SUBSTITUTES:∃t,mg "SUBSTITUTES"=some (.str "1234" t)
 s_FLAGS:∃t,mg "FLAGS"=some (.str "abcdefghijklmnopqrstuvw1234" t)
def Gs.xx_Lack{K:W.Frag}(G:Gs K mg Zo Zz Zw Zr Zs Zt Zy Zx Zq Zv Zu Zp):ExK K Zo:=⟨G.xe1_Lack,G.xe2_Lack,G.xe3_Lack,G.xe4_Lack,G.xe5_Lack,G.xe6_Lack,G.xe7_Lack,G.xe8_Lack⟩
def Gs.xc_Lack{K:W.Frag}(G:Gs K mg Zo Zz Zw Zr Zs Zt Zy Zx Zq Zv Zu Zp):XcK K Zo Zz:=⟨G.xx_Lack,G.xs_Lack,bQE G.xr_Lack,G.xv_Lack⟩
def Gs.xm_Lack{K:W.Frag}(G:Gs K mg Zo Zz Zw Zr Zs Zt Zy Zx Zq Zv Zu Zp):XmK K Zo:=⟨G.xo_Lack,G.xk_Lack⟩
abbrev lettersT:Str := "abcdefghijklmnopqrstuvw"
abbrev subsT:Str := "1234"
abbrev flagsT:Str := "abcdefghijklmnopqrstuvw1234"
abbrev one(c:Nat):Str:=⟨#[c]⟩
def tY:subsT.cps.toList=[49,50,51,52]:=by decide
def tF:flagsT.cps.toList=lettersT.cps.toList++subsT.cps.toList:=by decide
def cO(c:Nat):Prop:=97<=c/\c<=119
def jY(c:Nat):Prop:=49<=c/\c<=52
instance (c:Nat):Decidable (cO c):=inferInstanceAs (Decidable (_/\_))
instance (c:Nat):Decidable (jY c):=inferInstanceAs (Decidable (_/\_))
def rS{c:Nat}:c∈lettersT.cps.toList ↔ cO c:=by
 have h1:∀c∈lettersT.cps.toList,cO c:=by decide +kernel
 have h2:∀k:_root_.Fin 23,97+k.val∈lettersT.cps.toList:=by decide +kernel
 refine⟨h1 c,λh=>?_⟩;have e:=h2 ⟨c-97,by have:=h.1;have:=h.2;omega⟩
 rwa [show 97+(c-97)=c by have:=h.1;omega]at e
def mem_subs{c:Nat}:c∈subsT.cps.toList ↔ jY c:=by
 have h1:∀c∈subsT.cps.toList,jY c:=by decide +kernel
 have h2:∀k:_root_.Fin 4,49+k.val∈subsT.cps.toList:=by decide +kernel
 refine⟨h1 c,λh=>?_⟩;have e:=h2 ⟨c-49,by have:=h.1;have:=h.2;omega⟩
 rwa [show 49+(c-49)=c by have:=h.1;omega]at e
def yX{c:Nat}:c∈flagsT.cps.toList ↔ cO c\/jY c:=by
 rw[tF,Cj,rS,mem_subs]
def cP(z:Str):z.cps.toList.length=z.length:=by simp[Str.length]
def aP(cs:List Nat):Str:=⟨cs.toArray⟩
def cU(cs:List Nat):(aP cs).length=cs.length:=by show cs.toArray.size=_;simp
def aQL(cs:List Nat):(aP cs).cps.toList=cs:=rfl
def yZ(cs:List Nat)(c:Nat):aP cs++one c=aP (cs++[c]):=FlT.str_ext (by rw[FlT.app_cps];rfl)
def lC{f g:α->Option β}:∀ {l:List α},(∀x∈l,f x=g x)->l.filterMap f=l.filterMap g
 |[],_=>rfl
 |x::r,h=>by rw[Eg,Eg,h x Al,lC λy hy=>h y (Ak _ hy)]
def mR{F:Nat->Option β}{b:β}(h:F i=some b):(List.range (i+1)).filterMap F=(List.range i).filterMap F++[b]:=by
 rw[Dp,Ci,Eb h,El]
def mS{F:Nat->Option β}(h:F i=none):(List.range (i+1)).filterMap F=(List.range i).filterMap F:=by
 rw[Dp,Ci,Gc h,El,Cf]
def one_inj{a b:Nat}:one a=one b ↔ a=b:=⟨λh=>by injection h with h;injection h with h;injection h,λh=>by rw[h]⟩
def pS(a b:Nat):decide (one a=one b)=decide (a=b):=Dh.mpr one_inj
def bZQ(h:k<cw.length):atI (aP cw).cps.toList ((k:Nat):Int)=some (cw.getD k 0):=by
 refine dY ?_;rw[aQL,Ah,Ab h];rfl
def bZI(h:k<23):atI lettersT.cps.toList ((k:Nat):Int)=some (97+k):=by
 refine dY ?_;have q:∀k:_root_.Fin 23,lettersT.cps.toList[k.val]?=some (97+k.val):=by decide +kernel
 exact q ⟨k,h⟩
def aXR{k:Int}(h:0<=k):gD xs none (some k)=xs.take k.toNat:=by
 unfold gD;show (xs.drop 0).take ((if k<0 then (k+(xs.length:Int)).toNat else min k.toNat xs.length)-0)=_
 rw[if_neg (by omega),List.drop_zero,Nat.sub_zero]
 by_cases hk:k.toNat<=xs.length
 .rw[Gg hk]
 .rw[Ga (by omega),Dg (Ai _),Dg (by omega)]
def xM{ns:List Int}{i:Int}(h0:0<=i)(h:i<ns.length):∃n,n∈ns/\atI (ns.map V.int) i=some (.int n):=by
 obtain⟨v,h1,h2⟩:=cQ6 (xs:=ns.map V.int) (i:=i) h0 (by rw[Ac];exact h)
 rw[Am,Ab (by omega)]at h2
 cases h2;exact⟨_,Bu _,h1⟩
def vH{ns:List Int}(h:(ns.map V.int)[j]?=some x):∃n,n∈ns/\x=V.int n:=by
 obtain⟨n,hn,e⟩:=Bc.mp (As h);exact⟨n,hn,e.symm⟩
def wZ{c:Nat}(h:jY c):PySem.intText? (one c)=some ((c:Int)-48):=by
 unfold jY at h;have:c=49\/c=50\/c=51\/c=52:=by omega
 rcases this with rfl|rfl|rfl|rfl<;>decide +kernel
def dW(zs:List Str):(zs.map V.str).all bD=true:=by
 rw[Fg];intro x hx;obtain⟨z,_,rfl⟩:=Bc.mp hx;rfl
def chF(cw:List Nat)(k n:Nat):Option Nat:=if cw.getD n 0=cw.getD k 0 then some (49+n) else none
def chs(cw:List Nat)(k:Nat):List Nat:=cw.getD k 0::(List.range (min k 4)).filterMap (chF cw k)
def ch_iff{c:Nat}:c∈chs cw k ↔ c=cw.getD k 0\/∃n,n<k/\n<4/\cw.getD n 0=cw.getD k 0/\c=49+n:=by
 unfold chs;rw[Av,Cp];constructor
 .rintro(h|⟨n,hn,h⟩)
  .exact .inl h
  .have:=Bo.mp hn
   unfold chF at h;split at h
   .cases h;exact .inr ⟨n,by omega,by omega,by assumption,rfl⟩
   .cases h
 .rintro(h|⟨n,h1,h2,h3,rfl⟩)
  .exact .inl h
  .exact .inr ⟨n,Bo.mpr (by omega),if_pos h3⟩
def bXJ(cw:List Nat)(k:Nat):1<=(chs cw k).length/\(chs cw k).length<=5:=by
 unfold chs;have:=Ea (chF cw k) (List.range (min k 4))
 rw[Cu]at this;rw[Bj];omega
def aXF(hL:∀d∈cw,cO d)(hk:k<cw.length):cO (cw.getD k 0):=by
 rw[Ah,Ab hk];exact hL _ (Bu hk)
def rN{c:Nat}{cs:List Nat}:inV (.str (one c)) ((cs.map one).map V.str)=decide (c∈cs):=by
 induction cs with
 |nil=>rfl
 |cons d r ih=>
  rw[Aq,Aq];show ((one d==one c) || inV (.str (one c)) ((r.map one).map V.str))=_
  rw[ih,<-pC];by_cases h:c=d
  .subst h;rw[Au rfl,Bool.true_or,Au Al]
  .rw[Bb (λz=>by injection z with z;exact h (one_inj.mp z).symm),Hg]
   exact Dh.mpr ⟨λz=>Ak _ z,λz=>(Av.mp z).resolve_left h⟩
def iA:Sp:=λvs H Q _=>∃c k:Int,vs=[.int c,.int k]/\0<=k/\k<=1000/\∀n:Int,0<=n->Q (.int n) H
def nM:Sp:=λvs H Q _=>∃n m:Int,vs=[.int n,.int m]/\0<=n/\1<=m/\m<=7/\∀(cw:List Nat) (H':Hp),Same H H'->1<=cw.length->cw.length<=7->(∀d∈cw,cO d)->Q (.str (aP cw)) H'
def iZ{j:Int}(e:j=(k:Int))(h:k<cw.length):atI (aP cw).cps.toList j=some (cw.getD k 0):=by
 rw[e];exact bZQ h
def qI(K:W.Frag):Sp:=λvs H Q _=>∃(a:Addr) (ns:List Int),vs=[.ref a]/\SqL K H a (ns.map V.int)/\ns.length<=63/\∀H',Q (.bl true) H'
def bZ4{Q:VK}{p:Addr}{i:Int}{v:V}(e:H p=some (.tup xs))(e':atI xs i=some v)(h:Q v H):mIx (.ref p) (.int i) H Q:=by
 have e1:rdL H p=none:=by unfold rdL;rw[e];rfl
 unfold mIx;simp only[e1,gH e,e'];exact h
section
variable {P:Program} {w:World} {K:W.Frag} {base:Heap}
structure Lk (kvs:List (Key×V)) (f:Nat->Option Int):Prop where
 nd:(kvs.map (·.1)).Nodup
 ks:∀kv∈kvs,∃(c:Nat) (n:Int),kv=(Sum.inr (one c),V.int n)
 val:∀c,bF kvs (Sum.inr (one c))=(f c).map V.int
def Lk.nil:Lk [] (λ_=>none):=⟨List.nodup_nil,(λkv h=>nomatch h),λc=>rfl⟩
def key_one{a b:Nat}:((Sum.inr (one a):Key)=Sum.inr (one b)) ↔ a=b:=⟨λh=>one_inj.mp (Sum.inr.inj h),λh=>by rw[h]⟩
def xI:∀ {l:List α} {k:α},l.Nodup->¬k∈l->(l++[k]).Nodup
 |[],k,_,_=>by simp
 |a::r,k,h,hk=>by
  obtain⟨h1,h2⟩:=Bi.mp h;refine Bi.mpr ⟨λm=>?_,xI h2 λm=>hk (Ak _ m)⟩;rcases Cj.mp m with q|q
  .exact h1 q
  .exact hk (by rw[Ap.mp q];exact Al ..)
def bZM{k:Key}(h:bF kvs k=none):¬k∈kvs.map (·.1):=λm=>by
 obtain⟨p,hp,e⟩:=Bc.mp m;have q:(kvs.any λkv=>decide (kv.1=k))=true:=List.any_eq_true.mpr ⟨p,hp,Au e⟩
 rw[cF,h]at q;cases q
def tB(kvs:List (Key×V))(k:Key)(v:V)(h:bF kvs k≠none):(bZ kvs k v).map (·.1)=kvs.map (·.1):=by
 unfold bZ;have e:(kvs.any λkv=>decide (kv.1=k))=true:=by
  rw[cF];cases q:bF kvs k with
  |none=>exact absurd q h
  |some _=>rfl
 rw[if_pos e,Cv];refine Cs λkv _=>?_;show (if kv.1=k then (kv.1,v) else kv).1=kv.1
 split<;>rfl
def Lk.put{f:Nat->Option Int}(h:Lk kvs f)(c:Nat)(n:Int):Lk (bZ kvs (Sum.inr (one c)) (.int n)) (λd=>if d=c then some n else f d) where
 nd:=by
  cases e:bF kvs (Sum.inr (one c)) with
  |none=>rw[fY _ e,Ax];exact xI h.nd (bZM e)
  |some v=>rw[tB _ _ _ (by rw[e];exact λz=>nomatch z)];exact h.nd
 ks:=λkv hkv=>by
  unfold bZ at hkv;split at hkv
  .obtain⟨kv',h',e⟩:=Bc.mp hkv;obtain⟨c',n',e'⟩:=h.ks kv' h';subst e';dsimp only at e;split at e
   .exact⟨c',n,e.symm⟩
   .exact⟨c',n',e.symm⟩
  .rcases Cj.mp hkv with q|q
   .exact h.ks kv q
   .exact⟨c,n,Ap.mp q⟩
 val:=λd=>by
  rw[aJJ];by_cases e:d=c
  .rw[if_pos (key_one.mpr e),if_pos e];rfl
  .rw[if_neg (λz=>e (key_one.mp z)),if_neg e];exact h.val d
def aJV(nd:(kvs.map (·.1)).Nodup){kv:Key×V}(h:kv∈kvs):bF kvs kv.1=some kv.2:=by
 induction kvs with
 |nil=>cases h
 |cons p r ih=>
  obtain⟨n1,n2⟩:=Bi.mp nd;rcases Av.mp h with e|e
  .subst e;exact bK rfl
  .rw[bE λz=>n1 (by show p.1∈_;rw[z];exact Bc.mpr ⟨kv,e,rfl⟩)]
   exact ih n2 e
def pU[DecidableEq α]:∀ {l m:List α},l.Nodup->(∀x∈l,x∈m)->l.length<=m.length
 |[],m,_,_=>Cq _
 |a::r,m,h,s=>by
  obtain⟨h1,h2⟩:=Bi.mp h;have q:=pU (l:=r) (m:=m.erase a) h2 λx hx=>(List.mem_erase_of_ne λz=>h1 (by rw[<-z];exact hx)).mpr (s x (Ak _ hx))
  have ha:=s a (Al ..)
  rw[List.length_erase_of_mem ha]at q;have:=List.length_pos_of_mem ha
  rw[Bj];omega
def Lk.at_mem{f:Nat->Option Int}(h:Lk kvs f){kv:Key×V}(hkv:kv∈kvs):∃c n,kv=(Sum.inr (one c),V.int n)/\f c=some n:=by
 obtain⟨c,n,e⟩:=h.ks kv hkv;have v:=aJV h.nd hkv
 rw[e]at v;have v2:=h.val c
 rw[v2]at v;cases q:f c with
 |none=>rw[q]at v;cases v
 |some m=>rw[q]at v;cases v;exact⟨c,_,e,q⟩
def Lk.keys{kws:List (Key×V)}{f:Nat->Option Int}(h:Lk kvs f)(h':Lk kws f):∀x∈kvs.map (·.1),x∈kws.map (·.1):=λx hx=>by
 obtain⟨kv,hkv,rfl⟩:=Bc.mp hx;obtain⟨c,n,rfl,hf⟩:=h.at_mem hkv;have v:=h'.val c
 rw[hf]at v;have q:(kws.any λkv=>decide (kv.1=Sum.inr (one c)))=true:=by rw[cF,v];rfl
 obtain⟨p,hp,e⟩:=List.any_eq_true.mp q;exact Bc.mpr ⟨p,hp,Cm e⟩
def Lk.deq{kws:List (Key×V)}{f:Nat->Option Int}(h:Lk kvs f)(h':Lk kws f):DEq kvs kws:=by
 refine⟨?_,λkv hkv=>?_⟩
 .have a:=pU h.nd (h.keys h')
  have b:=pU h'.nd (h'.keys h)
  rw[Ac,Ac]at a b;omega
 .obtain⟨c,n,rfl,hf⟩:=h.at_mem hkv;exact⟨rfl,by rw[h'.val c,hf];rfl⟩
def aO(f:Nat->Option Int)(c:Nat):Int:=(f c).getD 0
def vO(c:Nat):Prop:=cO c\/jY c
instance (c:Nat):Decidable (vO c):=inferInstanceAs (Decidable (_\/_))
def bP(n:Nat->Int)(c:Nat):Option Int:=if vO c/\0<n c then some (n c) else none
def zO{c:Nat}(hc:vO c)(h:0<=n c):aO (bP n) c=n c:=by
 unfold aO bP;by_cases q:0<n c
 .rw[if_pos ⟨hc,q⟩];rfl
 .rw[if_neg λz=>q z.2];show (0:Int)=n c;omega
def Lk.ext{f g:Nat->Option Int}(h:Lk kvs f)(e:f=g):Lk kvs g:=e▸h
def iJ(f:Nat->Option Int)(c:Nat):((f c).map V.int).getD (.int 0)=.int (aO f c):=by
 unfold aO;cases f c<;>rfl
def flags_mem{c:Nat}:c∈flagsT.cps.toList ↔ vO c:=yX
def kvL(g:Nat->Int)(L:List Nat):List (Key×V):=L.map λc=>(Sum.inr (one c),V.int (g c))
def bS(n:Nat->Int)(i:Nat):List Nat:=(flagsT.cps.toList.take i).filter λc=>decide (0<n c)
def rG{g:Nat->Int}{L:List Nat}{c:Nat}(h:c∉L):bF (kvL g L) (Sum.inr (one c))=none:=by
 induction L with
 |nil=>rfl
 |cons d r ih=>
  show bF ((Sum.inr (one d),V.int (g d))::kvL g r) _=none
  rw[bE (λz=>h (by rw[key_one.mp z];exact Al)),ih λz=>h (Ak _ z)]
def flags_nd:flagsT.cps.toList.Nodup:=by decide +kernel
def plainL_mem{c:Nat}:c∈bS n i ↔ c∈flagsT.cps.toList.take i/\0<n c:=by
 unfold bS;rw[Du,Bq]
def vP{c:Nat}(h:flagsT.cps.toList[i]?=some c):c∉bS n i:=λz=>by
 have m:=(plainL_mem.mp z).1
 obtain⟨j,hj,e⟩:=Co.mp m;rw[Bt]at hj;rw[List.getElem_take]at e;obtain⟨hi,e2⟩:=Af.mp h;have:=(Fx flags_nd).mp (e.trans e2.symm)
 omega
def uL{c:Nat}(h:flagsT.cps.toList[i]?=some c)(p:0<n c):bS n (i+1)=bS n i++[c]:=by
 unfold bS;rw[Bn,h,Fl];show _++[c].filter _=_
 rw[show [c].filter (λc=>decide (0<n c))=[c] by simp[p]]
def tV{c:Nat}(h:flagsT.cps.toList[i]?=some c)(p:¬0<n c):bS n (i+1)=bS n i:=by
 unfold bS;rw[Bn,h,Fl];show _++[c].filter _=_
 rw[show [c].filter (λc=>decide (0<n c))=[] by simp;omega,List.append_nil]
def lJ(n:Nat->Int)(i:Nat):(bS n i).length<=27:=by
 unfold bS;exact Bf (List.length_filter_le ..) (by rw[Bt];exact Bf (Nat.min_le_right ..) (by decide))
def aQH(n:Nat->Int)(i:Nat):(bS n i).Nodup:=(flags_nd.sublist (List.take_sublist ..)).filter _
def zR(g:Nat->Int)(L:List Nat)(d:Nat):Option Int:=if d∈L then some (g d) else none
def aJM(g:Nat->Int){r:List Nat}{c:Nat}(hc:c∉r)(h:Lk (kvL g r) (zR g r)):Lk (kvL g (r++[c])) (zR g (r++[c])):=by
 have l:=h.put c (g c)
 rw[fY _ (rG hc)]at l;have e:kvL g (r++[c])=kvL g r++[(Sum.inr (one c),V.int (g c))]:=by unfold kvL;rw[Ax];rfl
 rw[e];refine l.ext ?_;funext d
 unfold zR;by_cases hd:d=c
 .subst hd;rw[if_pos rfl,if_pos (Bk _ (Ap.mpr rfl))]
 .rw[if_neg hd];by_cases hr:d∈r
  .rw[if_pos hr,if_pos (Da _ hr)]
  .rw[if_neg hr,if_neg (λz=>(Cj.mp z).elim hr λy=>hd (Ap.mp y))]
def vW(g:Nat->Int):∀(L r:List Nat),(r++L).Nodup->Lk (kvL g r) (zR g r)->Lk (kvL g (r++L)) (zR g (r++L))
 |[],r,_,h=>by rw[Cf];exact h
 |c::L,r,nd,h=>by
  have e:r++c::L=(r++[c])++L:=by rw[Ed];rfl
  have hc:c∉r:=λz=>(Fb.mp nd).2.2 c z c Al rfl
  rw[e]at nd ⊢;exact vW g L (r++[c]) nd (aJM g hc h)
def cXW(g:Nat->Int){L:List Nat}(nd:L.Nodup):Lk (kvL g L) (λd=>if d∈L then some (g d) else none):=by
 have r:=vW g L [] nd (Lk.nil.ext (by funext d;unfold zR;rw[if_neg (λz=>nomatch z)]))
 exact r
def aQM(n:Nat->Int):Lk (kvL n (bS n 27)) (bP n):=by
 refine(cXW n (aQH n 27)).ext ?_;funext d
 unfold bP;have e:d∈bS n 27 ↔ vO d/\0<n d:=by
  rw[plainL_mem,Dg (by decide),flags_mem]
 by_cases h:d∈bS n 27
 .rw[if_pos h,if_pos (e.mp h)]
 .rw[if_neg h,if_neg (λz=>h (e.mpr z))]
def fF:Sp:=λvs H Q _=>∃(a:Addr) (kvs:List (Key×V)) (f:Nat->Option Int),vs=[.ref a]/\Rd H a (.dK kvs)/\Lk kvs f/\
 ∀(r:Addr) (H':Hp),H r=none->Same H H'->H' r=some (.dK (kvL (aO f) (bS (aO f) 27)))->Q (.ref r) H'
def w4:FnScope ["locker", "plain", "flag"] ["locker"] (aK dF):=by walk_at "sc"
variable(G:Gs K mg Zo Zz Zw Zr Zs Zt Zy Zx Zq Zv Zu Zp)
def kK(F:Fun K "plain_locker" "plain_locker" dF f fd):FnOk P w K mg base CX0 1 f fd ["locker"] fF:=by
 refine F.ok w4 (λvs H Q E h=>?_) (λcdv A outer s H vs Q E hr h=>?_)
 .obtain⟨a,kvs,f,rfl,_⟩:=h;rfl
 obtain⟨a,kvs,f,rfl,ha,lk,q⟩:=h;refine⟨_,(@aD _ _ _ _ _ (aN 1 w4.nd iL) (@aD _ _ _ _ _ (bV Bs rfl (qB (pE rfl G.s_FLAGS)) (bA (i:=2) w4.nd rfl (Or.inl rfl)) (@aH _ _ _ (cN (bI bX1 (dJ Cc Dk (sL (Room.u1 hr)) (mv 0) (aA (mv 2) (aA aI aE))) aI (bR _)) (@aH _ _ _ (eQ (Room.u1 hr) (mv 1) (mv 2) (eX (Room.u1 hr) (mv 0) (mv 2) (λ_ _=>rfl)) rfl)) bN))) (@aH _ _ _ (aT (mv 1))))),?_⟩;walk_at "g";intro p hp;walk_at "g";refine aXC (λi U H'=>∃(v:Option V),U=[some (.ref a),some (.ref p),v]/\Same H H'/\H' p=some (.dK (kvL (aO f) (bS (aO f) i))))
  ⟨none,rfl,aF hp _,aB⟩ ?_ ?_
 .rintro i c U H2 hc ⟨v,rfl,s2,hH⟩;have hi:i<27:=(Af.mp hc).1
  have ha2:Rd H2 a (.dK kvs):=ha.elim (λe=>.inl (s2 _ _ e)) λ⟨o,e⟩=>.inr ⟨o,s2 _ _ e⟩
  have hd2:isD H2 a=true:=ha2.elim eK λ⟨o,e⟩=>vS e
  have hpl:(kvL (aO f) (bS (aO f) i)).length<sizeLine:=bH (by unfold kvL;rw[Ac];have:=lJ (aO f) i;omega)
  walk_at "g";refine sB (z:=one c) ha2 ?_;rw[lk.val c,iJ];walk_at "g";refine mU (λhd=>?_) (λhd=>?_)
  .have hd':=Cm hd
   obtain⟨n,hn⟩:∃n,f c=some n:=by
    cases e:f c with
    |none=>rw[show aO f c=0 by unfold aO;rw[e];rfl]at hd';omega
    |some n=>exact⟨n,rfl⟩
   have hcn:aO f c=n:=by unfold aO;rw[hn];rfl
   walk_at "g";refine qF (z:=one c) ha2 (by rw[lk.val c,hn];rfl) ?_
   walk_at "g";refine jH (z:=one c) hH hpl ?_;refine⟨_,rfl,bJ hp s2,?_⟩;rw[aB,fY _ (rG (vP hc)),uL hc (by omega)]
   unfold kvL;rw[Ax,<-hcn];rfl
  .have hd':=En (Dt.mpr hd)
   walk_at "g";exact⟨_,rfl,s2,by rw[hH,tV hc (by omega)]⟩
 .rintro U H2 ⟨v,rfl,s2,hH⟩;walk_at "g";exact q p H2 hp s2 hH
def gW:Sp:=λvs H Q _=>∃(cw:List Nat) (k:Nat) (p:Int),vs=[.str (aP cw),.int p]/\p=(k:Int)+1/\k<cw.length/\cw.length<=7/\
 ∀(r:Addr) (H':Hp),H r=none->Same H H'->H' r=some (.lst (((chs cw k).map one).map V.str))->Q (.ref r) H'
def bQZ(G:Nat->Option β)(k:Nat):[0,1,2,3].filterMap (λn=>if n<k then G n else none)=(List.range (min k 4)).filterMap G:=by
 match k with
 |0=>rfl
 |1=>rfl
 |2=>rfl
 |3=>rfl
 |k+4=>
  rw[Ga (by omega)]
  exact lC λn hn=>if_pos (by simp only[List.mem_cons,List.not_mem_nil,or_false]at hn;omega)
def atF(cw:List Nat)(k:Nat)(c:Nat):Option V:=if c-49<k then (if cw.getD (c-49) 0=cw.getD k 0 then some (.str (one c)) else none) else none
def dQN(cw:List Nat)(k:Nat):subsT.cps.toList.filterMap (atF cw k)=(((List.range (min k 4)).filterMap (chF cw k)).map one).map V.str:=by
 rw[tY,show [49,50,51,52]=[0,1,2,3].map (49+·) from rfl,List.filterMap_map,Cv,List.map_filterMap,<-bQZ];refine lC λn _=>?_;show atF cw k (49+n)=_
 unfold atF chF;rw[show 49+n-49=n by omega]
 by_cases h1:n<k
 .rw[if_pos h1,if_pos h1];by_cases h2:cw.getD n 0=cw.getD k 0
  .rw[if_pos h2,if_pos h2];rfl
  .rw[if_neg h2,if_neg h2];rfl
 .rw[if_neg h1,if_neg h1]
def w6:FnScope ["word", "place", "letter", "above"] ["word", "place"] (aK dD):=by walk_at "sc"
def nF(F:Fun K "choices_at" "choices_at" dD f fd):FnOk P w K mg base CX0 1 f fd ["word", "place"] gW:=by
 refine F.ok w6 (λvs H Q E h=>?_) (λcdv A outer s H vs Q E hr h=>?_)
 .obtain⟨cw,k,p,rfl,_⟩:=h;rfl
 obtain⟨cw,k,pl,rfl,hpl,hk,h7,q⟩:=h;refine⟨_,(@aD _ _ _ _ _ (aN 2 w6.nd (cB eC (mv 0) (aS nI (mv 1) aI) (λ_ _=>rfl))) (@aD _ _ _ _ _ (kL (i:=3) w6.nd rfl (Or.inl rfl) rfl (qB (pE rfl G.s_SUBSTITUTES)) (kI (N:=["sign", "place", "letter", "word"]) ["word", "place", "letter", "above"] (aK dD) [none,some 1,some 2,some 0] rfl rfl rfl (λx h=>bY h) (by decide +kernel)) (by decide +kernel) rfl (by decide +kernel) (λ_ _ _ _=>(bA (i:=0) (show List.Nodup (["sign", "place", "letter", "word"]:List Str) by decide +kernel) rfl (Or.inl rfl))) (λ_ _ _ _=>(lW (PW.pt (cXM (bI bJP (bB bJC rfl G.b_int aQ6 (aA (mv 0) aE)) (mv 1) (bR _)) (bZN (bI cZA (cB eC (mv 3) (aS nI (bB bJC rfl G.b_int aQ6 (aA (mv 0) aE)) aI) (λ_ _=>rfl)) (mv 2) (bR _))))))) (λ_ _ _ _=>(mv 0))) (@aH _ _ _ (aT (aS cA (dN (aA (mv 2) aE)) (mv 3)))))),?_⟩
 have hwl:(aP cw).length=cw.length:=cU cw
 walk_at "g";refine oA (by rw[hwl];exact bG (by omega)) (iZ (k:=k) (by omega) hk) ?_
 walk_at "g";refine cX4 (atF cw k) (bH (by decide)) (λi c Hc A B hc' hA=>?_) (λD hD=>?_)
 .have hs:jY c:=mem_subs.mp (As hc')
  have h49:49<=c:=hs.1
  walk_at "g";refine⟨Wk.set rfl (Wk.refl _),?_⟩;walk_at "g";refine aQY (wZ hs) (by show 1<=640;decide) ?_
  walk_at "g";unfold atF at hA;refine mU (λhd=>?_) (λhd=>?_)
  .have hd':=Cm hd
   have hck:c-49<k:=by omega
   rw[if_pos hck]at hA;walk_at "g";refine aQY (wZ hs) (by show 1<=640;decide) ?_
   walk_at "g";refine oA (by rw[hwl];exact bG (by omega)) (iZ (k:=c-49) (by omega) (by omega)) ?_
   walk_at "g";rw[show decide (({cps:=#[cw.getD (c-49) 0]}:Str)={cps:=#[cw.getD k 0]})=decide (cw.getD (c-49) 0=cw.getD k 0) from pS _ _];by_cases he:cw.getD (c-49) 0=cw.getD k 0
   .rw[Au he];rw[if_pos he]at hA;walk_at "g";exact hA
   .rw[Bb he];rw[if_neg he]at hA;walk_at "g";exact hA
  .have hd':=En (Dt.mpr hd)
   have hck:¬c-49<k:=by omega
   rw[if_neg hck]at hA;walk_at "g";exact hA
 .rw[show (Str.ofString "1234").cps.toList.filterMap (atF cw k)=_ from dQN cw k];walk_at "g";refine⟨by show 1<=sizeLine;decide,λp hp=>?_⟩
  have hDp:D≠p:=λz=>by rw[z,aB]at hp;cases hp
  have hp0:H p=none:=by rw[aG (Ne.symm hDp)]at hp;exact hp
  have hlen:((((List.range (min k 4)).filterMap (chF cw k)).map one).map V.str).length<=4:=by
   have:=Ea (chF cw k) (List.range (min k 4))
   rw[Cu]at this;rw[Ac,Ac];omega
  walk_at "g";refine cX9 (xs:=[V.str (one (cw.getD k 0))]) (ys:=(((List.range (min k 4)).filterMap (chF cw k)).map one).map V.str) jN (by rw[bQJ hDp];exact jN) (bG (by show 1+_<=_;omega)) λr hr=>?_
  have hr0:H r=none:=by
   by_cases z:r=p
   .rw[z];exact hp0
   .rw[aG z]at hr;by_cases z2:r=D
    .rw[z2];exact hD
    .rw[aG z2]at hr;exact hr
  walk_at "g";exact q r _ hr0 ((aF hD _).trans ((aF hp _).trans (aF hr _))) aB
def vL(cws:List (List Nat))(k:Nat):List (List V):=(List.range (cws.getD k []).length).map λj:Nat=>[V.int (k:Int),V.int (1+(j:Int))]
def hU(cws:List (List Nat))(i:Nat):List (List V):=((List.range i).map (vL cws)).flatten
def gB(cws:Q5)(i:Nat):hU cws (i+1)=hU cws i++vL cws i:=by
 unfold hU;rw[Dp,Ax,List.flatten_append];simp
def aQ2{k:Nat}(h7:∀c∈cws,c.length<=7):(vL cws k).length<=7:=by
 unfold vL;rw[Ac,Cu,Ah];cases e:cws[k]? with
 |none=>exact Cq _
 |some c=>exact h7 c (As e)
def iE(h7:∀c∈cws,c.length<=7):∀i,(hU cws i).length<=7*i
 |0=>Ai _
 |i+1=>by
  rw[gB,Ar];have:=iE h7 i
  have:=aQ2 (k:=i) h7
  omega
def lS(h:((cws.map aP).map V.str)[i]?=some x):∃c,cws[i]?=some c/\c∈cws/\x=.str (aP c):=by
 rw[Am,Am]at h;cases e:cws[i]? with
 |none=>rw[e]at h;cases h
 |some c=>rw[e]at h;cases h;exact⟨c,rfl,As e,rfl⟩
def kC:Sp:=λvs H Q _=>∃(a:Addr) (cws:List (List Nat)),vs=[.ref a]/\rdL H a=some ((cws.map aP).map V.str)/\cws.length<=8/\(∀c∈cws,c.length<=7)/\
 ∀(r:Addr) (ps:List Addr) (H':Hp),H r=none->Same H H'->H' r=some (.lst (ps.map V.ref))->Tups H H' ps (hU cws cws.length)->Q (.ref r) H'
def w8:FnScope ["words", "wants", "number", "word"] ["words"] (aK eV):=by walk_at "sc"
def tG(F:Fun K "wants_of" "wants_of" eV f fd):FnOk P w K mg base CX0 1 f fd ["words"] kC:=by
 refine F.ok w8 (λvs H Q E h=>?_) (λcdv A outer s H vs Q E hr h=>?_)
 .obtain⟨a,cws,rfl,_⟩:=h;rfl
 obtain⟨a,cws,rfl,ha,h8,h7,q⟩:=h;refine⟨_,(@aD _ _ _ _ _ (aN 1 w8.nd (dN aE)) (@aD _ _ _ _ _ (bV Bs rfl (pR rfl G.b_enumerate (aA (mv 0) aE)) (iO (K:=K) (i:=2) (j:=3) (by rfl) (by rfl) w8.nd (by rfl) (by exact(Or.inr rfl)) (by exact Or.inl rfl) (by rfl) (by exact(Or.inl rfl)) (by exact Or.inl rfl)) (@aH _ _ _ (cE (eR Ct PySem.F.slot_list_extend PySem.F.type_list_extend bZ2 (mv 1) (aA (iM rfl (oJ rfl G.b_range (aA aI (aA (aS cA (aL fR rfl G.b_len cY (aA (mv 3) aE)) aI) aE))) (kI (N:=["place", "number"]) ["words", "wants", "number", "word"] (aK eV) [none,some 2] rfl rfl rfl (λx h=>bY h) (by decide +kernel)) (by decide +kernel) rfl (by decide +kernel) (λ_ _ _ _=>(bA (i:=0) (show List.Nodup (["place", "number"]:List Str) by decide +kernel) rfl (Or.inl rfl))) (λ_ _ _ _=>qJ) (λ_ _ _ _=>(cXX (aA (mv 1) (aA (mv 0) aE))))) aE))))) (@aH _ _ _ (aT (mv 1))))),?_⟩
 walk_at "g";refine⟨by decide,λp hp=>?_⟩
 have ha1:=aJ (aF hp (HO.lst [])) ha
 walk_at "g";refine pQ (xs:=(cws.map aP).map V.str) (λi U H'=>∃(ps:List Addr) (v1 v2:Option V),U=[some (.ref a),some (.ref p),v1,v2]/\Same H H'/\H' p=some (.lst (ps.map V.ref))/\Tups H H' ps (hU cws i))
  ⟨[],_,_,rfl,aF hp _,aB,.nil⟩ (λj U H' _ ⟨_,_,_,_,e,_⟩=>aJ e ha) ?_ ?_
 .rintro i x U H2 pt hx ⟨ps,v1,v2,rfl,s2,hH,tp⟩ hpt;have hi:i<cws.length:=by have:=(Af.mp hx).1;rw[Ac,Ac]at this;exact this
  obtain⟨cw,hcw,hm,rfl⟩:=lS hx;have hc7:=h7 cw hm
  have hwl:(aP cw).length=cw.length:=cU cw
  walk_at "g";rw[hwl];refine⟨⟨by omega,by omega,by omega,by omega⟩,?_⟩
  rw[show ((cw.length:Int)+1-1).toNat=cw.length by omega]
  have s3:=s2.trans (aF hpt (HO.tup [V.int ((0+i:Nat):Int),V.str (aP cw)]))
  have hH3:=aF hpt (HO.tup [V.int ((0+i:Nat):Int),V.str (aP cw)]) _ _ hH
  have tp3:=tp.keep (aF hpt (HO.tup [V.int ((0+i:Nat):Int),V.str (aP cw)]))
  generalize upd H2 pt (HO.tup [V.int ((0+i:Nat):Int),V.str (aP cw)])=H3 at s3 hH3 tp3 ⊢;refine yJ (λj=>[V.int ((0+i:Nat):Int),V.int (1+(j:Int))]) (bH (by omega)) (λj Hc A B hj hs hA=>?_) (λD Hd qs hD sD hDd hqn tq=>?_)
  .walk_at "g";refine⟨Wk.set rfl (Wk.refl _),?_⟩;walk_at "g";exact⟨by show 2<=sizeLine;decide,λpp hpp=>hA pp _ hpp (aF hpp _) aB⟩
  .have hpd:=sD _ _ hH3
   have hpl:ps.length<=7*i:=by rw[tp.1];exact iE h7 i
   have e:(List.range cw.length).map (λj:Nat=>[V.int ((0+i:Nat):Int),V.int (1+(j:Int))])=vL cws i:=by
    unfold vL;rw[Ah,hcw,Nat.zero_add];rfl
   rw[e]at tq;walk_at "g";refine⟨ps++qs,_,_,rfl,bJ hp (s3.trans sD),by rw[aB,Ax],?_⟩
   rw[gB];exact((tp3.keep sD).app (tq.older s3)).put hpd
 .rintro U H2 ⟨ps,v1,v2,rfl,s2,hH,tp⟩;walk_at "g";rw[show ((cws.map aP).map V.str).length=cws.length by rw[Ac,Ac]]at tp
  exact q p ps H2 hp s2 hH tp
def cJ(cws:List (List Nat))(i:Nat):Nat:=((cws.take i).map List.length).sum
def fG(cws:List (List Nat))(cs:List Nat)(i:Nat):List V:=(((cs.drop (cJ cws i)).take (cws.getD i []).length).map one).map V.str
def jI(h:cws[i]?=some cw):cJ cws (i+1)=cJ cws i+cw.length:=by
 unfold cJ;rw[Bn,h,Ax,List.sum_append];simp
def bZF{cws:Q5}{i:Nat}(h:i<=cws.length):cJ cws i<=cJ cws cws.length:=by
 unfold cJ;conv=>rhs;rw[<-List.take_append_drop i (cws.take cws.length)]
 rw[Ax,List.sum_append,List.take_take,Gg h];exact Hb _ _
def bQK(hj:i<=j):gD xs (some (i:Int)) (some (j:Int))=(xs.drop i).take (j-i):=by
 unfold gD;show (xs.drop (if (i:Int)<0 then ((i:Int)+(xs.length:Int)).toNat else min (i:Int).toNat xs.length)).take ((if (j:Int)<0 then ((j:Int)+(xs.length:Int)).toNat else min (j:Int).toNat xs.length)-(if (i:Int)<0 then ((i:Int)+(xs.length:Int)).toNat else min (i:Int).toNat xs.length))=_
 rw[if_neg (by omega),if_neg (by omega),Ca,Ca]
 by_cases h1:i<=xs.length
 .rw[Gg h1];by_cases h2:j<=xs.length
  .rw[Gg h2]
  .rw[Ga (by omega),Dg (by rw[Ei];omega),Dg (by rw[Ei];omega)]
 .rw[Ga (show xs.length<=i by omega),List.drop_of_length_le (Ai _),List.drop_of_length_le (by omega),List.take_nil,List.take_nil]
def jE:Sp:=λvs H Q _=>∃(a b:Addr) (cws:List (List Nat)) (cs:List Nat),vs=[.ref a,.ref b]/\rdL H a=some ((cws.map aP).map V.str)/\rdL H b=some ((cs.map one).map V.str)/\cws.length<=8/\(∀c∈cws,c.length<=7)/\
 ∀(r:Addr) (ps:List Addr) (H':Hp),H r=none->Same H H'->H' r=some (.lst (ps.map V.ref))->(∀p∈ps,p≠r)->Lsts H H' ps ((List.range cws.length).map (fG cws cs))->Q (.ref r) H'
def z5:FnScope ["words", "flags", "hoists", "start", "word", "end"] ["words", "flags"] (aK fV):=by walk_at "sc"
def qU(F:Fun K "hoists_of" "hoists_of" fV f fd):FnOk P w K mg base CX0 1 f fd ["words", "flags"] jE:=by
 refine F.ok z5 (λvs H Q E h=>?_) (λcdv A outer s H vs Q E hr h=>?_)
 .obtain⟨a,b,cws,cs,rfl,_⟩:=h;rfl
 obtain⟨a,b,cws,cs,rfl,ha,hb,h8,h7,q⟩:=h;refine⟨_,(@aD _ _ _ _ _ (aN 2 z5.nd (dN aE)) (@aD _ _ _ _ _ (aN 3 z5.nd aI) (@aD _ _ _ _ _ (bV Bs rfl (dQ (mv 0)) (bA (i:=4) z5.nd rfl (Or.inl rfl)) (@aD _ _ _ _ _ (aN 5 z5.nd (aS cA (mv 3) (aL fR rfl G.b_len cY (aA (mv 4) aE)))) (@aD _ _ _ _ _ (cE (eR Ct Ge Gf aJH (mv 2) (aA (bB gX rfl G.b_list cI (aA (iS cQT (mv 1) (gG (mv 3)) (gG (mv 5))) aE)) aE))) (@aH _ _ _ (aN 3 z5.nd (mv 5)))))) (@aH _ _ _ (aT (mv 2)))))),?_⟩;have hll:((cws.map aP).map V.str).length=cws.length:=by rw[Ac,Ac]
 walk_at "g";refine⟨by decide,λp hp=>?_⟩
 have ha1:=aJ (aF hp (HO.lst [])) ha
 walk_at "g";refine gE (xs:=(cws.map aP).map V.str) (λi U H'=>∃(ps:List Addr) (v4 v5:Option V),U=[some (.ref a),some (.ref b),some (.ref p),some (.int ((cJ cws i:Nat):Int)),v4,v5]/\Same H H'/\H' p=some (.lst (ps.map V.ref))/\(∀x∈ps,x≠p)/\ps.length=i/\Lsts H H' ps ((List.range i).map (fG cws cs)))
  ⟨[],_,_,rfl,aF hp _,aB,(λx hx=>nomatch hx),rfl,.nil⟩ (λj U H' _ ⟨_,_,_,_,e,_⟩=>aJ e ha) ?_ ?_
 .rintro i x U H2 hx ⟨ps,v4,v5,rfl,s2,hH,hne,hpl,tp⟩;have hi:i<cws.length:=by have:=(Af.mp hx).1;rw[hll]at this;exact this
  obtain⟨cw,hcw,hm,rfl⟩:=lS hx;have hc7:=h7 cw hm
  have hwl:(aP cw).length=cw.length:=cU cw
  have hb2:=aJ s2 hb
  walk_at "g";rw[hwl];intro r1 hr1;rw[show ((cJ cws i:Nat):Int)+((cw.length:Nat):Int)=((cJ cws i+cw.length:Nat):Int) by push_cast;rfl,bQK (by omega),show cJ cws i+cw.length-cJ cws i=cw.length by omega]
  have hrow_e:(((cs.map one).map V.str).drop (cJ cws i)).take cw.length=fG cws cs i:=by
   unfold fG;rw[Ah,hcw,Hh,Hh,Hi,Hi];rfl
  rw[hrow_e];walk_at "g";intro r2 hr2;have hp1:r2≠p:=λz=>by
   have:=aF hr1 (HO.lst (fG cws cs i)) _ _ hH
   rw[<-z,hr2]at this;cases this
  have s3:Same H2 (upd (upd H2 r1 (HO.lst (fG cws cs i))) r2 (HO.lst (fG cws cs i))):=(aF hr1 _).trans (aF hr2 _)
  have hr3:(upd (upd H2 r1 (HO.lst (fG cws cs i))) r2 (HO.lst (fG cws cs i))) r2=some (.lst (fG cws cs i)):=aB
  have hr20:H2 r2=none:=bW (aF hr1 _) hr2
  generalize upd (upd H2 r1 (HO.lst (fG cws cs i))) r2 (HO.lst (fG cws cs i))=H3 at s3 hr3 ⊢;have hH3:=s3 _ _ hH
  have hm3:=cS hH3
  walk_at "g";have hne2:∀x∈ps++[r2],x≠p:=λx hx=>by
   rcases Cj.mp hx with e|e
   .exact hne x e
   .rw[Ap.mp e];exact hp1
  refine⟨ps++[r2],some (.str (aP cw)),some (.int ((cJ cws i+cw.length:Nat):Int)),?_,bJ hp (s2.trans s3),by rw[aB,Ax];rfl,hne2,by rw[Ar,hpl];rfl,?_⟩
  .rw[jI hcw];rfl
  .rw[Dp,Ax];exact((tp.keep s3).snoc (bW s2 hr20) hr3).put hne2
 .rintro U H2 ⟨ps,v4,v5,rfl,s2,hH,hne,hpl,tp⟩;walk_at "g";rw[hll]at tp;exact q p ps H2 hp s2 hH hne tp
abbrev Wt:=Nat×Nat
def bU(w:Wt):List Key:=[Sum.inl (w.1:Int),Sum.inl (w.2:Int)]
def jF{a b:Wt}(h:bU a=bU b):a=b:=by
 unfold bU at h;injection h with h1 h2
 injection h2 with h2 _
 have e1:=Sum.inl.inj h1
 have e2:=Sum.inl.inj h2
 exact Prod.ext (by omega) (by omega)
def bT(m:List (Wt×Nat))(w:Wt):Option Nat:=(m.find? λx=>decide (x.1=w)).map (·.2)
def cD(m:List (Wt×Nat))(f:Nat):List Wt:=(m.filter λx=>decide (x.2=f)).map (·.1)
def ctm(m:List (Wt×Nat))(f:Nat):Nat:=m.countP λx=>decide (x.2=f)
def cQ{x:Wt×Nat}{m:List (Wt×Nat)}{w:Wt}:bT (x::m) w=if x.1=w then some x.2 else bT m w:=by
 unfold bT;rw[List.find?_cons];by_cases h:x.1=w
 .simp[h]
 .simp[h]
def sK{m:List (Wt×Nat)}{w:Wt}{f:Nat}(h:bT m w=some f):(w,f)∈m:=by
 induction m with
 |nil=>cases h
 |cons x m ih=>
  rw[cQ]at h;by_cases e:x.1=w
  .rw[if_pos e]at h;cases h;rw[<-e];exact Al
  .rw[if_neg e]at h;exact Ak _ (ih h)
def iX{m:List (Wt×Nat)}(nd:(m.map (·.1)).Nodup){w:Wt}{f:Nat}(h:(w,f)∈m):bT m w=some f:=by
 induction m with
 |nil=>cases h
 |cons x m ih=>
  rw[cQ];rw[Aq,Bi]at nd;rcases Av.mp h with e|e
  .rw[<-e,if_pos rfl]
  .rw[if_neg (λz=>nd.1 (by rw[z];exact Bc.mpr ⟨_,e,rfl⟩)),ih nd.2 e]
def hget_none{m:List (Wt×Nat)}{w:Wt}:bT m w=none ↔ w∉m.map (·.1):=by
 induction m with
 |nil=>exact⟨λ_ z=>(nomatch z),λ_=>rfl⟩
 |cons x m ih=>
  rw[cQ,Aq,Av];by_cases e:x.1=w
  .rw[if_pos e];exact⟨λz=>(nomatch z),λz=>absurd (Or.inl e.symm) z⟩
  .rw[if_neg e,ih];exact⟨λz y=>y.elim (λq=>e q.symm) z,λz y=>z (Or.inr y)⟩
def by_mem{m:List (Wt×Nat)}{f:Nat}{w:Wt}:w∈cD m f ↔ (w,f)∈m:=by
 unfold cD;rw[Bc];constructor
 .rintro⟨x,hx,rfl⟩;rw[Du,Bq]at hx;rw[<-hx.2];exact hx.1
 .intro h;exact⟨(w,f),Du.mpr ⟨h,Au rfl⟩,rfl⟩
def uO(m:List (Wt×Nat))(f:Nat):(cD m f).length=ctm m f:=by
 unfold cD ctm;rw[Ac,List.countP_eq_length_filter]
structure Asking (ch:Wt->List Nat) (m:List (Wt×Nat)) (first:Wt) (A:List (Nat×Wt)):Prop where
 nd:(A.map (·.1)).Nodup
 ok:∀(j:Nat) f w,A[j]?=some (f,w)->f∈ch w/\(w=first\/∃(g:Nat) (i:Nat) (v:Wt),i<j/\A[i]?=some (g,v)/\bT m w=some g)
def bL(m:List (Wt×Nat))(first:Wt)(A:List (Nat×Wt)):List Wt:=first::(A.map (·.1)).flatMap (cD m)
def gZ(m:List (Wt×Nat))(first:Wt)(A:List (Nat×Wt))(f:Nat)(w:Wt):bL m first (A++[(f,w)])=bL m first A++cD m f:=by
 unfold bL;rw[Ax,List.flatMap_append];simp
def reach_mem{m:List (Wt×Nat)}{first:Wt}{A:List (Nat×Wt)}{w:Wt}:w∈bL m first A ↔ w=first\/∃f∈A.map (·.1),(w,f)∈m:=by
 unfold bL;rw[Av,List.mem_flatMap];constructor
 .rintro(h|⟨f,hf,h⟩)
  .exact .inl h
  .exact .inr ⟨f,hf,by_mem.mp h⟩
 .rintro(h|⟨f,hf,h⟩)
  .exact .inl h
  .exact .inr ⟨f,hf,by_mem.mpr h⟩
def lE(m:List (Wt×Nat)):∀ {fs:List Nat},fs.Nodup->(fs.flatMap (cD m)).length=m.countP (λx=>decide (x.2∈fs))
 |[],_=>by simp
 |f::fs,nd=>by
  rw[List.flatMap_cons,Ar,uO,lE m (Bi.mp nd).2];have hf:=(Bi.mp nd).1
  unfold ctm;clear nd;induction m with
  |nil=>rfl
  |cons x m ih=>
   rw[Dq,Dq,Dq,<-ih];by_cases h1:x.2=f
   .rw[if_pos (Au h1),if_neg (by rw[Bq,h1];exact hf),if_pos (Au (by rw[h1];exact Al))]
    omega
   .rw[if_neg (by rw[Bq];exact h1)]
    by_cases h2:x.2∈fs
    .rw[if_pos (Au h2),if_pos (Au (Ak _ h2))];omega
    .rw[if_neg (by rw[Bq];exact h2),if_neg (by rw[Bq];exact λz=>(Av.mp z).elim h1 h2)]
     omega
def oH{m:List (Wt×Nat)}{first:Wt}{A:List (Nat×Wt)}(nd:(A.map (·.1)).Nodup):(bL m first A).length<=1+m.length:=by
 unfold bL;rw[Bj,lE m nd];have:=List.countP_le_length (p:=λx:Wt×Nat=>decide (x.2∈A.map (·.1))) (l:=m)
 omega
def Asking.snoc{ch:Wt->List Nat}{m:List (Wt×Nat)}{first w:Wt}{A:List (Nat×Wt)}{f:Nat}(ndm:(m.map (·.1)).Nodup)(h:Asking ch m first A)(hf:f∉A.map (·.1))(hc:f∈ch w)(hw:w∈bL m first A):Asking ch m first (A++[(f,w)]):=by
 refine⟨?_,λj g v hj=>?_⟩
 .rw[Ax];exact List.nodup_append.mpr ⟨h.nd,by simp,λx hx y hy=>by rw[List.mem_singleton.mp hy];intro z;have z2:x=f:=z;rw[z2]at hx;exact hf hx⟩
 .by_cases hlt:j<A.length
  .rw[Bd hlt]at hj;obtain⟨h1,h2⟩:=h.ok j g v hj;refine⟨h1,h2.imp id ?_⟩;rintro⟨g',i,v',hi,hA,hg⟩;exact⟨g',i,v',hi,by rw[Bd (by omega)];exact hA,hg⟩
  .have hj2:j=A.length:=by
    have:=(Af.mp hj).1
    rw[Ar]at this;have:j<A.length+1:=this
    omega
   subst hj2;rw[Bp (Ai _),Nat.sub_self]at hj;cases hj;refine⟨hc,?_⟩;rcases reach_mem.mp hw with e|⟨g',hg',hm⟩
   .exact .inl e
   .obtain⟨x,hx,rfl⟩:=Bc.mp hg';obtain⟨i,hi,ei⟩:=Co.mp hx;exact .inr ⟨x.1,i,x.2,hi,by rw[Bd hi,Ab hi,ei],iX ndm hm⟩
structure Asked (ch:Wt->List Nat) (m:List (Wt×Nat)) (first:Wt) (A:List (Nat×Wt)):Prop extends Asking ch m first A where
 all1:∀f∈ch first,f∈A.map (·.1)
 all:∀w g,(w,g)∈m->g∈A.map (·.1)->∀f∈ch w,f∈A.map (·.1)
def Asking.done{ch:Wt->List Nat}{m:List (Wt×Nat)}{first:Wt}{A:List (Nat×Wt)}(h:Asking ch m first A)(hc:∀w∈bL m first A,∀f∈ch w,f∈A.map (·.1)):Asked ch m first A:=
 ⟨h,hc first (reach_mem.mpr (.inl rfl)),λw g hm hg=>hc w (reach_mem.mpr (.inr ⟨g,hg,hm⟩))⟩
def zC(m:List (Wt×Nat))(w:Wt)(f:Nat):List (Wt×Nat):=if (bT m w).isSome=true then m.map λx=>if x.1=w then (x.1,f) else x else m++[(w,f)]
def aJA{m:List (Wt×Nat)}{w v:Wt}{f:Nat}:bT (m.map λx=>if x.1=w then (x.1,f) else x) v=(bT m v).map λg=>if v=w then f else g:=by
 induction m with
 |nil=>rfl
 |cons x m ih=>
  rw[Aq,cQ,cQ,ih];by_cases e:x.1=w
  .rw[if_pos e];by_cases e2:x.1=v
   .rw[if_pos e2,if_pos e2,Et,if_pos (e2.symm.trans e)]
   .rw[if_neg e2,if_neg e2]
  .rw[if_neg e];by_cases e2:x.1=v
   .rw[if_pos e2,if_pos e2,Et,if_neg (λz=>e (e2.trans z))]
   .rw[if_neg e2,if_neg e2]
def keys_map{m:List (Wt×Nat)}{w:Wt}{f:Nat}:(m.map λx=>if x.1=w then (x.1,f) else x).map (·.1)=m.map (·.1):=by
 rw[Cv];refine Cs λx _=>?_;show (if x.1=w then (x.1,f) else x).1=x.1
 by_cases e:x.1=w
 .rw[if_pos e]
 .rw[if_neg e]
def cX7{m:List (Wt×Nat)}{w:Wt}{f:Nat}(nd:(m.map (·.1)).Nodup)(h:bT m w=some g)(c:Nat):ctm (m.map λx=>if x.1=w then (x.1,f) else x) c+(if c=g then 1 else 0)=ctm m c+(if c=f then 1 else 0):=by
 induction m with
 |nil=>cases h
 |cons x m ih=>
  rw[Aq,Bi]at nd;rw[cQ]at h;unfold ctm at ih ⊢;rw[Aq,Dq,Dq];by_cases e:x.1=w
  .rw [if_pos e] at h;cases h;have hm:(m.map λx=>if x.1=w then (x.1,f) else x)=m:=by
    refine(Cs λy hy=>?_).trans (List.map_id _);show (if y.1=w then (y.1,f) else y)=y
    rw[if_neg (λz=>nd.1 (by rw[e,<-z];exact Bc.mpr ⟨y,hy,rfl⟩))]
   rw[if_pos e,hm];have e1:(decide ((x.1,f).2=c)=true)=(c=f):=by rw[Bq];exact propext ⟨λz=>z.symm,λz=>z.symm⟩
   have e2:(decide (x.2=c)=true)=(c=x.2):=by rw[Bq];exact propext ⟨λz=>z.symm,λz=>z.symm⟩
   simp only[e1,e2];omega
  .rw[if_neg e]at h;rw[if_neg e];have r:=ih nd.2 h
   omega
structure Along (ch:Wt->List Nat) (m0:List (Wt×Nat)) (A:List (Nat×Wt)) (f0:Nat) (m:List (Wt×Nat)) (c j:Nat) (w:Wt):Prop where
 keys:m.map (·.1)=m0.map (·.1)
 ok:∀v f,(v,f)∈m->f∈ch v
 ct:∀f,ctm m f+(if f=c then 1 else 0)=ctm m0 f+(if f=f0 then 1 else 0)
 at_:A[j]?=some (c,w)
 same:∀v g i u,bT m0 v=some g->A[i]?=some (g,u)->i<j->bT m v=some g
def bQC{A:List (Nat×Wt)}(nd:(A.map (·.1)).Nodup){u v:Wt}(hi:A[i]?=some (g,u))(hj:A[j]?=some (g,v)):i=j:=by
 obtain⟨h1,e1⟩:=Af.mp hi;obtain⟨h2,e2⟩:=Af.mp hj;refine(Fx (h₀:=by rw[Ac];exact h1) (h₁:=by rw[Ac];exact h2) nd).mp ?_
 rw[Dy,Dy,e1,e2]
def Along.step{ch:Wt->List Nat}{m0 m:List (Wt×Nat)}{A:List (Nat×Wt)}{f0 c:Nat}{first w v:Wt}(ha:Asking ch m0 first A)(nd0:(m0.map (·.1)).Nodup)(h:Along ch m0 A f0 m c j w)(hg:bT m0 w=some g)(hi:A[i]?=some (g,v))(hij:i<j):bT m w=some g/\Along ch m0 A f0 (m.map λx=>if x.1=w then (x.1,c) else x) g i v:=by
 have nd:(m.map (·.1)).Nodup:=by rw[h.keys];exact nd0
 have hw:=h.same w g i v hg hi hij
 refine⟨hw,keys_map.trans h.keys,λu f hu=>?_,λf=>?_,hi,λu g' i' u' h1 h2 h3=>?_⟩
 .obtain⟨x,hx,e⟩:=Bc.mp hu;by_cases ex:x.1=w
  .rw[if_pos ex]at e;cases e;rw[ex];exact(ha.ok j c w h.at_).1
  .rw[if_neg ex]at e;exact h.ok u f (e▸hx)
 .have r1:=cX7 (f:=c) nd hw f
  have r2:=h.ct f
  omega
 .rw[aJA,h.same u g' i' u' h1 h2 (by omega),Et]
  by_cases e:u=w
  .subst e;rw[hg]at h1;cases h1;exact absurd (bQC ha.nd hi h2) (by omega)
  .rw[if_neg e]
def Along.last{ch:Wt->List Nat}{m0 m:List (Wt×Nat)}{A:List (Nat×Wt)}{f0 c:Nat}{first:Wt}(ha:Asking ch m0 first A)(hf:first∉m0.map (·.1))(h:Along ch m0 A f0 m c j first):bT m first=none/\(m++[(first,c)]).map (·.1)=m0.map (·.1)++[first]/\(∀v f,(v,f)∈m++[(first,c)]->f∈ch v)/\∀f,ctm (m++[(first,c)]) f=ctm m0 f+(if f=f0 then 1 else 0):=by
 refine⟨hget_none.mpr (by rw[h.keys];exact hf),by rw[Ax,h.keys];rfl,λv f hv=>?_,λf=>?_⟩
 .rcases Cj.mp hv with e|e
  .exact h.ok v f e
  .cases Ap.mp e;exact(ha.ok j c first h.at_).1
 .have r:=h.ct f
  unfold ctm at r ⊢;rw[List.countP_append];have e:List.countP (λx:Wt×Nat=>decide (x.2=f)) [(first,c)]=if f=c then 1 else 0:=by
   rw[List.countP_singleton];by_cases z:f=c
   .rw[if_pos z,if_pos (Au z.symm)]
   .rw[if_neg z,if_neg (by rw[Bq];exact λy=>z y.symm)]
  rw[e];exact r
def fW(m:List (Wt×Nat))(first:Wt)(A:List (Nat×Wt))(wl:List Wt):List Wt:=wl.filter λw=>decide (w=first) || (match bT m w with|some g=>decide (g∈A.map (·.1))|none=>false)
def eZ(m:List (Wt×Nat))(first:Wt)(A:List (Nat×Wt))(w:Wt):Bool:=decide (w=first) || (match bT m w with|some g=>decide (g∈A.map (·.1))|none=>false)
def sR{m:List (Wt×Nat)}{first w:Wt}{A:List (Nat×Wt)}(h:w=first):eZ m first A w=true:=by
 unfold eZ;rw[Au h,Bool.true_or]
def kT{m:List (Wt×Nat)}{first w:Wt}{A:List (Nat×Wt)}(h:w≠first)(e:bT m w=none):eZ m first A w=false:=by
 unfold eZ;rw[Bb h,e];rfl
def lG{m:List (Wt×Nat)}{first w:Wt}{A:List (Nat×Wt)}(h:w≠first)(e:bT m w=some g):eZ m first A w=decide (g∈A.map (·.1)):=by
 unfold eZ;rw[Bb h,e,Hg]
def mL{m:List (Wt×Nat)}{first:Wt}{A:List (Nat×Wt)}{ws:List Wt}{w:Wt}:fW m first A (ws++[w])=fW m first A ws++if eZ m first A w=true then [w] else []:=by
 have e:∀l,fW m first A l=l.filter (eZ m first A):=λl=>rfl
 rw[e,e,Fl,List.filter_cons];rfl
def lackW_mem{m:List (Wt×Nat)}{first w:Wt}{A:List (Nat×Wt)}{ws:List Wt}:w∈fW m first A ws ↔ w∈ws/\eZ m first A w=true:=by
 have e:∀l,fW m first A l=l.filter (eZ m first A):=λl=>rfl
 rw[e,Du]
def aJ4{m:List (Wt×Nat)}{first:Wt}{A:List (Nat×Wt)}{l r:List Wt}(hk:m.map (·.1)=l)(nd:(l++first::r).Nodup):(fW m first A (l++first::r)).length=1+m.countP (λx=>decide (x.2∈A.map (·.1))):=by
 have hl:(m.map (·.1)).Nodup:=by rw[hk];exact(Fb.mp nd).1
 have hfl:first∉l:=λz=>(Fb.mp nd).2.2 first z first Al rfl
 have hfr:first∉r:=(Bi.mp (Fb.mp nd).2.1).1
 have hrl:∀w∈r,w∉l:=λw hw z=>(Fb.mp nd).2.2 w z w (Ak _ hw) rfl
 unfold fW;rw[Fl,Ar,List.filter_cons,if_pos (by rw[Au rfl];rfl),Bj]
 have er:r.filter (λw=>decide (w=first) || (match bT m w with|some g=>decide (g∈A.map (·.1))|none=>false))=[]:=by
  refine List.filter_eq_nil_iff.mpr λw hw=>?_;have e:bT m w=none:=hget_none.mpr (by rw[hk];exact hrl w hw)
  rw[Bb (show ¬w=first from λz=>by rw[z]at hw;exact hfr hw),e,Hg]
  exact An
 have el:(l.filter (λw=>decide (w=first) || (match bT m w with|some g=>decide (g∈A.map (·.1))|none=>false))).length=m.countP (λx=>decide (x.2∈A.map (·.1))):=by
  rw[<-hk,List.filter_map,Ac,<-List.countP_eq_length_filter];refine List.countP_congr λx hx=>?_;show (decide (x.1=first) || (match bT m x.1 with|some g=>decide (g∈A.map (·.1))|none=>false))=true ↔ _
  rw[iX hl (w:=x.1) (f:=x.2) hx,Bb (λz=>hfl (by rw[<-z,<-hk];exact Bc.mpr ⟨x,hx,rfl⟩)),Hg]
 rw[er,el,List.length_nil];omega
def cQO(m:List (Wt×Nat)):∀ {fs:List Nat},fs.Nodup->m.countP (λx=>decide (x.2∈fs))=(fs.map (ctm m)).sum:=fun {fs} nd=>by
 rw[<-lE m nd];induction fs with
 |nil=>rfl
 |cons f fs ih=>rw[List.flatMap_cons,Ar,uO,Aq,Df,ih (Bi.mp nd).2]
def gO(cws:List (List Nat))(k:Nat):List Wt:=(List.range (cws.getD k []).length).map λj=>(k,1+j)
def wlP(cws:List (List Nat))(i:Nat):List Wt:=(List.range i).flatMap (gO cws)
def wl(cws:List (List Nat)):List Wt:=wlP cws cws.length
def wV(w:Wt):List V:=[.int (w.1:Int),.int (w.2:Int)]
def fM(cws:Q5)(i:Nat):wlP cws (i+1)=wlP cws i++gO cws i:=by
 unfold wlP;rw[Dp,List.flatMap_append];simp
def lZ(cws:Q5):∀i,hU cws i=(wlP cws i).map wV
 |0=>rfl
 |i+1=>by
  rw[gB,fM,Ax,lZ cws i];congr 1
  unfold vL gO;rw[Cv];refine Cs λj _=>?_;show [V.int ((i:Nat):Int),V.int (1+(j:Int))]=[V.int ((i:Nat):Int),V.int ((1+j:Nat):Int)]
  rw[show ((1+j:Nat):Int)=1+(j:Int) by omega]
def wlP_mem{w:Wt}:∀ {i:Nat},w∈wlP cws i ↔ w.1<i/\1<=w.2/\w.2<=(cws.getD w.1 []).length:=fun {i}=>by
 unfold wlP gO;rw[List.mem_flatMap];constructor
 .rintro⟨k,hk,h⟩;obtain⟨j,hj,rfl⟩:=Bc.mp h;have:=Bo.mp hk
  have:=Bo.mp hj
  exact⟨by omega,by show 1<=1+j;omega,by show 1+j<=(cws.getD k []).length;omega⟩
 .rintro⟨h1,h2,h3⟩;refine⟨w.1,Bo.mpr h1,Bc.mpr ⟨w.2-1,Bo.mpr (by omega),?_⟩⟩
  exact Prod.ext rfl (by show 1+(w.2-1)=w.2;omega)
def iF(cws:Q5):∀i,(wlP cws i).Nodup
 |0=>List.nodup_nil
 |i+1=>by
  rw[fM];refine Fb.mpr ⟨iF cws i,?_,λa ha b hb e=>?_⟩
  .unfold gO;exact List.Pairwise.map _ (λa b h=>λz=>h (by have:=Cy Prod.snd z;have e:1+a=1+b:=this;omega)) List.nodup_range
  .subst e;have h1:=(wlP_mem.mp ha).1
   unfold gO at hb;obtain⟨j,_,rfl⟩:=Bc.mp hb;exact absurd h1 (Dm _)
def kN(h7:∀c∈cws,c.length<=7)(i:Nat):(wlP cws i).length<=7*i:=by
 have:=iE h7 i
 rw[lZ,Ac]at this;exact this
def chW(cws:List (List Nat))(w:Wt):List Nat:=chs (cws.getD w.1 []) (w.2-1)
def bX(ws:List Wt)(ds:List Addr):List (List Key×V):=List.zipWith (λw d=>(bU w,V.ref d)) ws ds
def cZP(H:Hp)(r:Addr)(cws:List (List Nat))(i:Nat):Prop:=∃ds:List Addr,ds.length=i/\H r=some (.dT (bX ((wl cws).take i) ds))/\∀(j:Nat) w d,j<i->(wl cws)[j]?=some w->ds[j]?=some d->H d=some (.lst (((chW cws w).map one).map V.str))
def yF{ws:List Wt}(nd:ws.Nodup)(hl:ds.length=ws.length){w:Wt}{d:Addr}(hw:ws[j]?=some w)(hd:ds[j]?=some d):bF (bX ws ds) (bU w)=some (.ref d):=by
 induction ws generalizing ds j with
 |nil=>cases hw
 |cons x ws ih=>
  cases ds with
  |nil=>cases hl
  |cons e ds=>
   show bF ((bU x,V.ref e)::bX ws ds) _=_
   cases j with
   |zero=>cases hw;cases hd;exact bK rfl
   |succ j=>
    have hm:=As (show ws[j]?=some w from hw)
    rw[bE (λz=>(Bi.mp nd).1 (by rw[jF z];exact hm))]
    exact ih (List.nodup_cons.mp nd).2 (by simpa using hl) hw hd
def uU{ws:List Wt}{w:Wt}(h:w∉ws):bF (bX ws ds) (bU w)=none:=by
 induction ws generalizing ds with
 |nil=>rfl
 |cons x ws ih=>
  cases ds with
  |nil=>rfl
  |cons e ds=>
   show bF ((bU x,V.ref e)::bX ws ds) _=_
   rw[bE (λz=>h (by rw[jF z];exact Al))]
   exact ih λz=>h (Ak _ z)
def nH{ws:List Wt}(hl:ds.length=ws.length):(bX ws ds).length=ws.length:=by
 unfold bX;rw[List.length_zipWith];omega
def uZ{ws:List Wt}{w:Wt}{d:Addr}(hl:ds.length=ws.length):bX (ws++[w]) (ds++[d])=bX ws ds++[(bU w,V.ref d)]:=by
 unfold bX;rw[List.zipWith_append (by omega)]
 rfl
def gU:Sp:=λvs H Q _=>∃(a:Addr) (cws:List (List Nat)),vs=[.ref a]/\rdL H a=some ((cws.map aP).map V.str)/\cws.length<=8/\(∀c∈cws,c.length<=7)/\
 ∀(r:Addr) (H':Hp),H r=none->Same H H'->cZP H' r cws (wl cws).length->Q (.ref r) H'
def v0:FnScope ["words", "choices", "want"] ["words"] (aK eM):=by walk_at "sc"
def mW(F:Fun K "choices_of" "choices_of" eM f fd)(G:Gs K mg Zo Zz Zw Zr Zs Zt Zy Zx Zq Zv Zu Zp)(v9:Cal P w K mg base 1 "wants_of" ["words"] kC)(u0:Cal P w K mg base 1 "choices_at" ["word", "place"] gW):FnOk P w K mg base CX0 2 f fd ["words"] gU:=by
 refine F.ok v0 (λvs H Q E h=>?_) (λcdv A outer s H vs Q E hr h=>?_)
 .obtain⟨a,cws,rfl,_⟩:=h;rfl
 obtain⟨a,cws,rfl,ha,h8,h7,q⟩:=h;refine⟨_,(@aD _ _ _ _ _ (@uB _ _ 1 _ _ _ _ v0.nd (by rfl) (by exact(Or.inl rfl)) sQ (by rfl) (by walk_at "o")) (@aD _ _ _ _ _ (bV Bs rfl (dQ (bO v9 hr (by decide) rfl (aA (mv 0) aE))) (bA (i:=2) v0.nd rfl (Or.inl rfl)) (@aH _ _ _ (eQ (Room.u1 hr) (mv 1) (mv 2) (bO u0 hr (by decide) rfl (aA (cB eC (mv 0) (cB eC (mv 2) aI (λ_ _=>rfl)) (λ_ _=>rfl)) (aA (cB eC (mv 2) aI (λ_ _=>rfl)) aE))) rfl))) (@aH _ _ _ (aT (mv 1))))),?_⟩
 walk_at "g";intro pc hpc;walk_at "g";refine⟨a,cws,rfl,aJ (aF hpc _) ha,h8,h7,λr ps H1 hr s1 e1 tp=>?_⟩;have s01:=(aF hpc (.dT [])).trans s1
 have ec1:=s1 _ _ (aB (H:=H) (a:=pc) (o:=.dT []))
 have hlw:(wl cws).length<=56:=Bf (kN h7 _) (by omega)
 rw[lZ]at tp;have hpl:ps.length=(wl cws).length:=by rw[tp.1,Ac];rfl
 have hpm:(ps.map V.ref).length=(wl cws).length:=by rw[Ac,hpl]
 have tat:∀(j:Nat) p w,ps[j]?=some p->(wl cws)[j]?=some w->H1 p=some (.tup (wV w)):=λj p w hp hw=>(tp.2 j p _ hp (by rw[Am];exact Cy (Option.map wV) hw)).2
 have r1:=aQ e1
 have hcr:pc≠r:=λz=>by rw[<-z,aB]at hr;cases hr
 walk_at "g";refine gE (xs:=ps.map V.ref) (λi U H'=>∃(v:Option V),U=[some (.ref a),some (.ref pc),v]/\Same H H'/\(∀b u,b≠pc->H1 b=some u->H' b=some u)/\cZP H' pc cws i)
  ⟨_,rfl,s01,λb u _ h=>h,[],rfl,ec1,λj w d hj=>absurd hj (Eu _)⟩ (λi U H' _ ⟨_,_,_,k,_⟩=>aQ (k _ _ (Ne.symm hcr) e1)) ?_ ?_
 .rintro i x U H2 hx ⟨v,rfl,s2,k2,ds,dl,ed,hds⟩;rw[Am]at hx;cases e:ps[i]? with
  |none=>rw[e]at hx;cases hx
  |some p=>
   rw[e]at hx;cases hx;have hi:i<(wl cws).length:=by rw[<-hpl];exact(Af.mp e).1
   have ew:(wl cws)[i]?=some (wl cws)[i]:=Ab hi
   have hm:=wlP_mem.mp (Bu hi)
   have htp1:=tat i p _ e ew
   have hpne:p≠pc:=λz=>by rw[z,ec1]at htp1;cases htp1
   have ht:=k2 _ _ hpne htp1
   have hnew:(wl cws)[i]∉(wl cws).take i:=λz=>by
    obtain⟨j,hj,ej⟩:=Co.mp z;rw[Bt]at hj;rw[List.getElem_take]at ej;have:=(Fx (iF cws cws.length)).mp ej
    omega
   have htk:(wl cws).take (i+1)=(wl cws).take i++[(wl cws)[i]]:=by rw[Bn,ew];rfl
   generalize hw:(wl cws)[i]=w at hm ht hnew htk ew;obtain⟨h1,h2,h3⟩:=hm;have ecw:cws[w.1]?=some (cws.getD w.1 []):=by rw[Ah,Ab h1];rfl
   have h7w:=h7 _ (As ecw)
   have ha2:=aJ s2 ha
   walk_at "g";refine bZ4 ht (v:=.int (w.1:Int)) rfl ?_;walk_at "g";refine fB ha2 (v:=.str (aP (cws.getD w.1 []))) (dY (by rw[Am,Am,ecw];rfl)) ?_
   walk_at "g";refine bZ4 ht (v:=.int (w.2:Int)) rfl ?_;walk_at "g";refine⟨cws.getD w.1 [],w.2-1,_,rfl,by omega,by omega,h7w,λd H3 hd s3 e3=>?_⟩
   walk_at "g";have dl2:ds.length=((wl cws).take i).length:=by rw[dl,Bt];omega
   refine qQ (k:=bU w) (s3 _ _ ed) (s3 _ _ ht) (bH (by rw[nH dl2,Bt];omega)) ?_
   have hdp:d≠pc:=λz=>by rw[z,ed]at hd;cases hd
   refine⟨_,rfl,bJ hpc (s2.trans s3),λb u hb hu=>by rw[aG hb];exact s3 _ _ (k2 b u hb hu),ds++[d],by rw[Ar,dl];rfl,?_,λj v' d' hj hv hd'=>?_⟩
   .rw[aB,fY _ (uU hnew),htk,uZ dl2]
   .by_cases hjl:j<i
    .rw[Bd (by omega)]at hd'
     have hold:=hds j v' d' hjl hv hd'
     rw[aG (λz=>by rw[z,ed]at hold;cases hold)]
     exact s3 _ _ hold
    .have hj2:j=i:=by omega
     subst hj2;rw[ew]at hv;cases hv;rw[Bp (by omega),dl,Nat.sub_self]at hd'
     cases hd';rw[aG hdp];exact e3
 .rintro U H2 ⟨v,rfl,s2,k2,hch⟩;rw[hpm]at hch;walk_at "g";exact q pc H2 hpc s2 hch
def dO(m:List (Wt×Nat)):List (List Key×V):=m.map λx=>(bU x.1,V.str (one x.2))
def fJ(m:List (Wt×Nat))(w:Wt):bF (dO m) (bU w)=(bT m w).map λf=>V.str (one f):=by
 induction m with
 |nil=>rfl
 |cons x m ih=>
  show bF ((bU x.1,V.str (one x.2))::dO m) _=_
  rw[cQ];by_cases e:x.1=w
  .rw[if_pos e,bK (by show bU x.1=bU w;rw[e])]
   rfl
  .rw[if_neg e,bE (λz=>e (jF z)),ih]
def cX(A:List (Nat×Wt))(bs:List Addr):List (Key×V):=List.zipWith (λx b=>(Sum.inr (one x.1),V.ref b)) A bs
def gI{A:List (Nat×Wt)}(hl:bs.length=A.length)(f:Nat):(bF (cX A bs) (Sum.inr (one f))).isSome=decide (f∈A.map (·.1)):=by
 induction A generalizing bs with
 |nil=>rfl
 |cons x A ih=>
  cases bs with
  |nil=>cases hl
  |cons b bs=>
   show (bF ((Sum.inr (one x.1),V.ref b)::cX A bs) _).isSome=_
   by_cases e:x.1=f
   .rw[bK (by show (Sum.inr (one x.1):Key)=Sum.inr (one f);rw[e]),Au (by rw[<-e];exact Al)]
    rfl
   .rw[bE (λz=>e (key_one.mp z)),ih (by simpa using hl)]
    exact Dh.mpr ⟨λz=>Ak _ z,λz=>(Av.mp z).resolve_left λy=>e y.symm⟩
def aQI{A:List (Nat×Wt)}(hl:bs.length=A.length){f:Nat}(h:f∉A.map (·.1)):bF (cX A bs) (Sum.inr (one f))=none:=by
 have r:=gI hl f
 rw[Bb h]at r;cases e:bF (cX A bs) (Sum.inr (one f)) with
 |none=>rfl
 |some v=>rw[e]at r;cases r
def zI{A:List (Nat×Wt)}{x:Nat×Wt}{b:Addr}(hl:bs.length=A.length):cX (A++[x]) (bs++[b])=cX A bs++[(Sum.inr (one x.1),V.ref b)]:=by
 unfold cX;rw[List.zipWith_append (by omega)]
 rfl
def lQ{A:List (Nat×Wt)}(hl:bs.length=A.length):(cX A bs).length=A.length:=by
 unfold cX;rw[List.length_zipWith];omega
def aZB{A:List (Nat×Wt)}(nd:(A.map (·.1)).Nodup)(hl:bs.length=A.length){f:Nat}{w:Wt}{b:Addr}(hA:A[j]?=some (f,w))(hb:bs[j]?=some b):bF (cX A bs) (Sum.inr (one f))=some (.ref b):=by
 induction A generalizing bs j with
 |nil=>cases hA
 |cons x A ih=>
  cases bs with
  |nil=>cases hl
  |cons e bs=>
   show bF ((Sum.inr (one x.1),V.ref e)::cX A bs) _=_
   rw[Aq,Bi]at nd;cases j with
   |zero=>cases hA;cases hb;exact bK rfl
   |succ j=>
    have hm:f∈A.map (·.1):=Bc.mpr ⟨(f,w),As (show A[j]?=some (f,w) from hA),rfl⟩
    rw[bE (λz=>nd.1 (by rw[key_one.mp z];exact hm))]
    exact ih nd.2 (by simpa using hl) hA hb
def WtsAt(H:Hp)(rs:List Addr)(ws:List Wt):Prop:=rs.length=ws.length/\∀(j:Nat) r w,rs[j]?=some r->ws[j]?=some w->H r=some (.tup (wV w))
def WtsAt.keep{H':Hp}{ws:List Wt}(h:WtsAt H rs ws)(k:∀r w,H r=some (.tup (wV w))->H' r=some (.tup (wV w))):WtsAt H' rs ws:=⟨h.1,λj r w hr hw=>k _ _ (h.2 j r w hr hw)⟩
def WtsAt.app{qs:List Addr}{ws vs:List Wt}(h:WtsAt H rs ws)(g:WtsAt H qs vs):WtsAt H (rs++qs) (ws++vs):=by
 refine⟨by rw[Ar,Ar,h.1,g.1],λj r w hr hw=>?_⟩
 by_cases hj:j<rs.length
 .rw[Bd hj]at hr;rw[Bd (by rw[<-h.1];exact hj)]at hw
  exact h.2 j r w hr hw
 .rw[Bp (by omega)]at hr
  rw[Bp (by rw[<-h.1];omega),<-h.1]at hw
  exact g.2 _ r w hr hw
def WtsAt.one{r:Addr}{w:Wt}(h:H r=some (.tup (wV w))):WtsAt H [r] [w]:=⟨rfl,λj q v hq hv=>by
 cases j with
 |zero=>cases hq;cases hv;exact h
 |succ j=>cases hq⟩
def ChRd(H:Hp)(r:Addr)(cws:List (List Nat)):Prop:=∃ds:List Addr,ds.length=(wl cws).length/\Rd H r (.dT (bX (wl cws) ds))/\∀(j:Nat) w d,(wl cws)[j]?=some w->ds[j]?=some d->H d=some (.lst (((chW cws w).map one).map V.str))
def ChRd.keep{H':Hp}{r:Addr}(h:ChRd H r cws)(s:Same H H'):ChRd H' r cws:=by
 obtain⟨ds,h1,h2,h3⟩:=h;exact⟨ds,h1,h2.elim (λe=>.inl (s _ _ e)) λ⟨o,e⟩=>.inr ⟨o,s _ _ e⟩,λj w d hw hd=>s _ _ (h3 j w d hw hd)⟩
structure HungOk (cws:List (List Nat)) (m:List (Wt×Nat)):Prop where
 nd:(m.map (·.1)).Nodup
 sub:∀x∈m,x.1∈wl cws
def aZY(hL:∀c∈cws,c.length<=7/\∀d∈c,cO d){w:Wt}(hw:w∈wl cws){f:Nat}(hf:f∈chW cws w):vO f:=by
 obtain⟨h1,h2,h3⟩:=wlP_mem.mp hw;have ecw:cws[w.1]?=some (cws.getD w.1 []):=by rw[Ah,Ab h1];rfl
 rcases ch_iff.mp hf with e|⟨n,_,h4,_,e⟩
 .rw[e];exact .inl (aXF (hL _ (As ecw)).2 (by omega))
 .rw[e];exact .inr ⟨by omega,by omega⟩
def aZ6{m:List (Wt×Nat)}{first:Wt}{A:List (Nat×Wt)}(hm:HungOk cws m)(hfw:first∈wl cws)(h:Asking (chW cws) m first A){f:Nat}{w:Wt}(hj:A[j]?=some (f,w)):w∈wl cws:=by
 rcases (h.ok j f w hj).2 with e|⟨g,i,v,_,_,hg⟩
 .rw[e];exact hfw
 .exact hm.sub _ (sK hg)
def xE{m:List (Wt×Nat)}{first:Wt}{A:List (Nat×Wt)}(hm:HungOk cws m)(hfw:first∈wl cws)(hL:∀c∈cws,c.length<=7/\∀d∈c,cO d)(h:Asking (chW cws) m first A):A.length<=27:=by
 have r:=pU (m:=flagsT.cps.toList) h.nd λf hf=>by
  obtain⟨x,hx,rfl⟩:=Bc.mp hf;obtain⟨j,hj,e⟩:=Co.mp hx;have hj2:A[j]?=some (x.1,x.2):=by rw[Ab hj,e]
  exact flags_mem.mpr (aZY hL (aZ6 hm hfw h hj2) (h.ok j _ _ hj2).1)
 rw[Ac]at r;exact r
def gQ:Sp:=λvs H Q _=>∃(bf ac ah:Addr) (cws:List (List Nat)) (m:List (Wt×Nat)) (first:Wt),vs=[.ref bf,.ref ac,.ref ah]/\H bf=some (.tup (wV first))/\first∈wl cws/\ChRd H ac cws/\H ah=some (.dT (dO m))/\HungOk cws m/\m.length<=56/\cws.length<=8/\(∀c∈cws,c.length<=7/\∀d∈c,cO d)/\
 ∀(r:Addr) (A:List (Nat×Wt)) (bs:List Addr) (H':Hp),H r=none->Same H H'->H' r=some (.dK (cX A bs))->WtsAt H' bs (A.map (·.2))->Asked (chW cws) m first A->Q (.ref r) H'
def y8:FnScope ["first", "choices", "hung", "asked", "reached", "at", "asking", "flag"] ["first", "choices", "hung"] (aK dC):=by walk_at "sc"
def mP(F:Fun K "asked_from" "asked_from" dC f fd):FnOk P w K mg base CX0 1 f fd ["first", "choices", "hung"] gQ:=by
 refine F.ok y8 (λvs H Q E h=>?_) (λcdv A outer s H vs Q E hr h=>?_)
 .obtain⟨bf,ac,ah,cws,m,first,rfl,_⟩:=h;rfl
 obtain⟨bf,ac,ah,cws,m,first,rfl,hbf,hfw,hch,hah,hm,hml,h8,hL,q⟩:=h
 refine⟨_,(@aD _ _ _ _ _ (aN 3 y8.nd iL) (@aD _ _ _ _ _ (aN 4 y8.nd (dN (aA (mv 0) aE))) (@aD _ _ _ _ _ (aN 5 y8.nd aI) (@aD _ _ _ _ _ (sC Bs (bI bJP (mv 5) (aL fR rfl G.b_len cY (aA (mv 4) aE)) (bR _)) (@aD _ _ _ _ _ (aN 6 y8.nd (cB eC (mv 4) (mv 5) (λ_ _=>rfl))) (@aD _ _ _ _ _ (bV Bs rfl (dQ (eX (Room.u1 hr) (mv 1) (mv 6) (λ_ _=>rfl))) (bA (i:=7) y8.nd rfl (Or.inr rfl)) (@aH _ _ _ (cN (bI (aXN (Room.u1 hr)) (mv 7) (mv 3) (by rfl)) (@aD _ _ _ _ _ (eQ (Room.u1 hr) (mv 3) (mv 7) (mv 6) rfl) (@aH _ _ _ (cE (eR Ct PySem.F.slot_list_extend PySem.F.type_list_extend bZ2 (mv 4) (aA (aXD (iM rfl (iU (mv 2)) (kI (N:=["want", "flag", "hung"]) ["first", "choices", "hung", "asked", "reached", "at", "asking", "flag"] (aK dC) [none,some 7,some 2] rfl rfl rfl (λx h=>bY h) (by decide +kernel)) (by decide +kernel) rfl (by decide +kernel) (λ_ _ _ _=>(bA (i:=0) (show List.Nodup (["want", "flag", "hung"]:List Str) by decide +kernel) rfl (Or.inl rfl))) (λ_ _ _ _=>(lW (bI cZA (eX (Room.u1 hr) (mv 2) (mv 0) (λ_ _=>rfl)) (mv 1) (bR _)))) (λ_ _ _ _=>(mv 0)))) aE))))) bN))) (@aH _ _ _ (aN 5 y8.nd (aS cA (mv 5) aI)))))) (@aH _ _ _ (aT (mv 3))))))),?_⟩
 walk_at "g";intro pa hpa;walk_at "g";refine⟨by show 1<=sizeLine;decide,λpr hpr=>?_⟩
 have s1:=(aF hpa (.dK [])).trans (aF hpr (.lst [.ref bf]))
 have npr:pa≠pr:=λz=>by rw[<-z,aB]at hpr;cases hpr
 have ea1:(upd (upd H pa (.dK [])) pr (.lst [.ref bf])) pa=some (.dK []):=by rw[aG npr,aB]
 have er1:(upd (upd H pa (.dK [])) pr (.lst [.ref bf])) pr=_:=aB
 have hpr0:H pr=none:=bW (aF hpa _) hpr
 generalize upd (upd H pa (.dK [])) pr (.lst [.ref bf])=H1 at s1 ea1 er1 ⊢;walk_at "g";refine ⟨λn U H'=>∃ (A:List (Nat×Wt)) (bs rs:List Addr) (t:Nat) (v1 v2:Option V),U=[some (.ref bf),some (.ref ac),some (.ref ah),some (.ref pa),some (.ref pr),some (.int (t:Int)),v1,v2]/\Same H H'/\H' pa=some (.dK (cX A bs))/\WtsAt H' bs (A.map (·.2))/\H' pr=some (.lst (rs.map V.ref))/\WtsAt H' rs (bL m first A)/\
     Asking (chW cws) m first A/\t<=(bL m first A).length/\(∀(j:Nat) w,j<t->(bL m first A)[j]?=some w->∀f∈chW cws w,f∈A.map (·.1))/\n=1+m.length-t,⟨_,[],[],[bf],0,_,_,rfl,s1,ea1,⟨rfl,λj r w hr=>(nomatch hr)⟩,er1,.one (s1 _ _ hbf),⟨List.nodup_nil,λj f w hj=>(nomatch hj)⟩,Cq _,λj w hj=>absurd hj (Eu _),rfl⟩,?_⟩
 rintro n U H2 ⟨A,bs,rs,t,v1,v2,rfl,s2,ea2,wb2,er2,wr2,hask,htl,hcl,rfl⟩;have hrl:(rs.map V.ref).length=(bL m first A).length:=by rw[Ac,wr2.1]
 have rr2:=aQ er2
 walk_at "g";rw[hrl];refine mU (λhd=>?_) (λhd=>?_)
 .have hd':=Cm hd
  have ht:t<(bL m first A).length:=by omega
  have hrm:=oH (m:=m) (first:=first) hask.nd
  have htr:t<rs.length:=by rw[wr2.1];exact ht
  have ew:(bL m first A)[t]?=some (bL m first A)[t]:=Ab ht
  have er:rs[t]?=some rs[t]:=Ab htr
  have hwt:=wr2.2 t _ _ er ew
  have hww:(bL m first A)[t]∈wl cws:=by
   rcases reach_mem.mp (Bu ht) with e|⟨f,_,hm2⟩
   .rw[e];exact hfw
   .exact hm.sub _ hm2
  generalize hbw:rs[t]=b at hwt er;generalize hwe:(bL m first A)[t]=w at hwt hww ew
  clear hbw hwe hd hd';obtain⟨ds,d1,d2,d3⟩:=id hch;obtain⟨jw,hjw,ejw⟩:=Co.mp hww;have ejw2:(wl cws)[jw]?=some w:=by rw[Ab hjw,ejw]
  have edw:ds[jw]?=some (ds[jw]'(by omega)):=Ab (by omega)
  have hdlH:=d3 jw w _ ejw2 edw
  have hdv:=yF (iF cws cws.length) d1 ejw2 edw
  generalize (ds[jw]'(by omega))=dl at hdlH hdv
  have hdl:=s2 _ _ hdlH
  have d22:Rd H2 ac (.dT (bX (wl cws) ds)):=d2.elim (λe=>.inl (s2 _ _ e)) λ⟨o,e⟩=>.inr ⟨o,s2 _ _ e⟩
  refine⟨λU' H'=>∃(A:List (Nat×Wt)) (bs rs:List Addr) (v1 v2:Option V),U'=[some (.ref bf),some (.ref ac),some (.ref ah),some (.ref pa),some (.ref pr),some (.int ((t+1:Nat):Int)),v1,v2]/\Same H H'/\H' pa=some (.dK (cX A bs))/\WtsAt H' bs (A.map (·.2))/\H' pr=some (.lst (rs.map V.ref))/\WtsAt H' rs (bL m first A)/\
   Asking (chW cws) m first A/\t+1<=(bL m first A).length/\(∀(j:Nat) w,j<t+1->(bL m first A)[j]?=some w->∀f∈chW cws w,f∈A.map (·.1)),?_,?_⟩
  .rintro U' H' ⟨A',bs',rs',v1',v2',rfl,g1,g2,g3,g4,g5,g6,g7,g8⟩;exact⟨1+m.length-(t+1),by omega,A',bs',rs',t+1,v1',v2',rfl,g1,g2,g3,g4,g5,g6,g7,g8,rfl⟩
  walk_at "g";refine fB rr2 (v:=.ref b) (dY (by rw[Am,er];rfl)) ?_
  walk_at "g";refine uC (k:=bU w) d22 hwt hdv ?_;have rdl:=aQ hdl
  have hcl5:=(bXJ (cws.getD w.1 []) (w.2-1)).2
  have hcm:(((chW cws w).map one).map V.str).length=(chW cws w).length:=by rw[Ac,Ac]
  walk_at "g";have kt:∀ {H':Hp} {p:Addr} {u u':HO},H' p=some u->(∀ws,u≠.tup ws)->∀r w,H' r=some (.tup (wV w))->(upd H' p u') r=some (.tup (wV w)):=fun {H' p u u'} e ne r w h=>by
   rw[aG (λz=>by rw[z,e]at h;cases h;exact ne _ rfl)]
   exact h
  refine gE (xs:=((chW cws w).map one).map V.str) (λi U H'=>∃ (A:List (Nat×Wt)) (bs rs:List Addr) (v2:Option V),U=[some (.ref bf),some (.ref ac),some (.ref ah),some (.ref pa),some (.ref pr),some (.int (t:Int)),some (.ref b),v2]/\Same H H'/\H' pa=some (.dK (cX A bs))/\WtsAt H' bs (A.map (·.2))/\H' pr=some (.lst (rs.map V.ref))/\WtsAt H' rs (bL m first A)/\
      H' b=some (.tup (wV w))/\Asking (chW cws) m first A/\(bL m first A)[t]?=some w/\(∀(j:Nat) v,j<t->(bL m first A)[j]?=some v->∀f∈chW cws v,f∈A.map (·.1))/\∀f∈(chW cws w).take i,f∈A.map (·.1))
   ⟨A,bs,rs,_,rfl,s2,ea2,wb2,er2,wr2,hwt,hask,ew,hcl,λf hf=>(nomatch hf)⟩ (λi U H' _ ⟨_,_,_,_,_,e,_⟩=>aQ (e _ _ hdlH)) ?_ ?_
  .clear hask ew hcl hrm htl hrl rr2 wr2 er2 wb2 ea2 er;rintro i x U H3 hx ⟨A,bs,rs,v2,rfl,s3,ea,wb,er,wr,hb,hask,ew,hcl,hpre⟩;rw[Am,Am]at hx;cases ef:(chW cws w)[i]? with
   |none=>rw[ef]at hx;cases hx
   |some f=>
    rw[ef]at hx;cases hx;have hfc:=As ef
    have htk:(chW cws w).take (i+1)=(chW cws w).take i++[f]:=by rw[Bn,ef];rfl
    have hbl:bs.length=A.length:=by rw[wb.1,Ac]
    have hAl:=xE hm hfw hL hask
    walk_at "g";refine bJM (neg:=true) (z:=one f) (.inl ea) ?_;rw[if_pos rfl,gI hbl];refine mU (λhd=>?_) (λhd=>?_)
    .have hni:f∉A.map (·.1):=λz=>by rw[Au z]at hd;cases hd
     walk_at "g";refine jH (z:=one f) ea (bH (by rw[lQ hbl];omega)) ?_
     rw[fY _ (aQI hbl hni),<-zI (x:=(f,w)) hbl];have s4:Same H (upd H3 pa (.dK (cX (A++[(f,w)]) (bs++[b])))):=bJ hpa s3
     have ea4:(upd H3 pa (.dK (cX (A++[(f,w)]) (bs++[b])))) pa=_:=aB
     have er4:(upd H3 pa (.dK (cX (A++[(f,w)]) (bs++[b])))) pr=_:=(aG (Ne.symm npr)).trans er
     have k4:=kt (u':=.dK (cX (A++[(f,w)]) (bs++[b]))) ea (λws z=>nomatch z)
     have wb4:=wb.keep k4
     have wr4:=wr.keep k4
     have hb4:=k4 _ _ hb
     generalize upd H3 pa (.dK (cX (A++[(f,w)]) (bs++[b])))=H4 at s4 ea4 er4 wb4 wr4 hb4 ⊢;have ah4:=s4 _ _ hah
     clear k4 wb wr er ea s3 hb;walk_at "g";refine qP ah4 λo=>?_;have fz:(upd H4 ah (.frz o (.dT (dO m)))) ah=_:=aB
     have hkl:(dO m).length=m.length:=by unfold dO;rw[Ac]
     refine jT (n:=m.length) (λD i ys Hc=>Same (upd H4 ah (.frz o (.dT (dO m)))) Hc/\∃qs,ys=qs.map V.ref/\WtsAt Hc qs (cD (m.take i) f)) (bH (by omega)) (λD hD=>⟨aF hD _,[],rfl,rfl,λj r w hr=>(nomatch hr)⟩) (λD i ys Hc _ r h=>⟨r.1 _ _ fz,by omega⟩) (λD ys Hc _ r=>⟨r.1 _ _ fz,hkl⟩) ?_ ?_
     .rintro D i2 ys Hc x H' A' B' hD hi2 ⟨sm,qs,rfl,wq⟩ hDc ⟨rfl,kv,b2,hkv,rfl,hb2⟩ hA' hB';have em:m[i2]?=some m[i2]:=Ab hi2
      unfold dO at hkv;rw[Am,em]at hkv;cases hkv;have hbt:H' b2=some (.tup (wV m[i2].1)):=hb2
      have hv:bF (dO m) (bU m[i2].1)=some (.str (one m[i2].2)):=by
       rw[fJ,iX hm.nd (w:=m[i2].1) (f:=m[i2].2) (Bu hi2)];rfl
      have tk:m.take (i2+1)=m.take i2++[m[i2]]:=by rw[Bn,em];rfl
      rw[tk]at hA' hB';generalize m[i2]=x2 at hbt hv hA' hB';walk_at "g";refine⟨Wk.set rfl (Wk.refl _),?_⟩;walk_at "g";refine uC (k:=bU x2.1) (.inr ⟨o,sm _ _ fz⟩) hbt hv ?_;walk_at "g";rw[show decide (one x2.2=one f)=decide (x2.2=f) from pS _ _];refine mU (λhe=>?_) (λhe=>?_)
      .have he':=Cm he
       walk_at "g";refine hA' _ _ hDc ⟨bJ hD sm,qs++[b2],by rw[Ax];rfl,?_⟩
       rw[show cD (m.take i2++[x2]) f=cD (m.take i2) f++[x2.1] by unfold cD;rw[List.filter_append,List.map_append];simp[he']]
       exact(wq.app (.one hbt)).keep (kt hDc (λws z=>nomatch z))
      .have he':=En (Dt.mpr he)
       walk_at "g";refine hB' _ hDc ⟨sm,qs,rfl,?_⟩;rw[show cD (m.take i2++[x2]) f=cD (m.take i2) f by unfold cD;rw[List.filter_append,List.map_append];simp[he']]
       exact wq
     .rintro D ys Hc hD ⟨sm,qs,rfl,wq⟩ hDc _;rw [Ck] at wq;have hD4:H4 D=none:=by
       by_cases z:D=ah
       .rw[z,aB]at hD;cases hD
       .rw[aG z]at hD;exact hD
      have su:=jD ah4 (λo v z=>nomatch z) sm
      have eu:=cH (Hs:=H4) hDc (λo v z=>nomatch z)
      have wqu:WtsAt (unf H4 Hc) qs (cD m f):=wq.keep λr w h=>cH h (λo v z=>nomatch z)
      generalize unf H4 Hc=Hu at su eu wqu;have eru:=su _ _ er4
      have hmr:=cS eru
      have hmd:=cS eu
      have nDr:pr≠D:=aY er4 hD4
      have hq1:qs.length<=56:=by rw[wqu.1,uO];unfold ctm;exact Bf List.countP_le_length hml
      have hr1:rs.length<=57:=by rw[wr4.1];exact Bf (oH hask.nd) (by omega)
      have hlen:(rs.map V.ref).length+(qs.map V.ref).length<=sizeLine:=bG (by rw[Ac,Ac];omega)
      walk_at "g";have kr:=kt (u':=.lst (rs.map V.ref++qs.map V.ref)) eru (λws z=>nomatch z)
      have hRt:=(Af.mp ew).1
      refine⟨A++[(f,w)],bs++[b],rs++qs,_,rfl,bJ hpr0 (s4.trans su),?_,?_,?_,?_,?_,hask.snoc hm.nd hni hfc (As ew),?_,λj v hj hv=>?_,λg hg=>?_⟩
      .rw[aG npr];exact su _ _ ea4
      .rw[Ax];exact((wb4.keep λr w h=>su _ _ h).app (.one (su _ _ hb4))).keep kr
      .rw[aB,Ax]
      .rw[gZ];exact((wr4.keep λr w h=>su _ _ h).app wqu).keep kr
      .exact kr _ _ (su _ _ hb4)
      .rw[gZ,Bd hRt];exact ew
      .rw[gZ,Bd (by omega)]at hv
       intro g hg;rw[Ax];exact Da _ (hcl j v hj hv g hg)
      .rw[htk]at hg;rw[Ax];rcases Cj.mp hg with z|z
       .exact Da _ (hpre g z)
       .rw[Ap.mp z];exact Bk _ (Ap.mpr rfl)
    .have hin:f∈A.map (·.1):=by
      rw[Bool.not_eq_true,Bool.not_eq_false']at hd;exact Cm hd
     walk_at "g";refine⟨A,bs,rs,_,rfl,s3,ea,wb,er,wr,hb,hask,ew,hcl,λg hg=>?_⟩;rw[htk]at hg;rcases Cj.mp hg with z|z
     .exact hpre g z
     .rw[Ap.mp z];exact hin
  .clear hask ew hcl hrm htl hrl rr2 wr2 er2 wb2 ea2 er;rintro U H3 ⟨A,bs,rs,v2,rfl,s3,ea,wb,er,wr,hb,hask,ew,hcl,hpre⟩;rw[hcm,Ck]at hpre;walk_at "g";refine⟨A,bs,rs,_,_,rfl,s3,ea,wb,er,wr,hask,(Af.mp ew).1,λj v hj hv=>?_⟩;by_cases hjt:j<t
   .exact hcl j v hjt hv
   .have:j=t:=by omega
    subst this;rw[ew]at hv;cases hv;exact hpre
 .have hd':=En (Dt.mpr hd)
  walk_at "g";refine q pa A bs H2 hpa s2 ea2 wb2 (hask.done λw hw f hf=>?_);obtain⟨j,hj,ej⟩:=Co.mp hw;exact hcl j w (by omega) (by rw[Ab hj,ej]) f hf
def rF{m:List (Wt×Nat)}{w:Wt}{f:Nat}:bZ (dO m) (bU w) (.str (one f))=dO (zC m w f):=by
 have e:((dO m).any λkv=>decide (kv.1=bU w))=(bT m w).isSome:=by
  rw[cF,fJ];cases bT m w<;>rfl
 unfold bZ zC;rw[e];by_cases h:(bT m w).isSome=true
 .rw[if_pos h,if_pos h];unfold dO;rw[Cv,Cv];refine Cs λx _=>?_;show (if bU x.1=bU w then (bU x.1,V.str (one f)) else (bU x.1,V.str (one x.2)))=(λx:Wt×Nat=>(bU x.1,V.str (one x.2))) (if x.1=w then (x.1,f) else x)
  by_cases ex:x.1=w
  .rw[if_pos ex,if_pos (by rw[ex])]
  .rw[if_neg ex,if_neg (λz=>ex (jF z))]
 .rw[if_neg h,if_neg h];unfold dO;rw[Ax];rfl
def gP:Sp:=λvs H Q _=>∃(aa ah:Addr) (cws:List (List Nat)) (m:List (Wt×Nat)) (first:Wt) (A:List (Nat×Wt)) (bs:List Addr) (f0:Nat),vs=[.str (one f0),.ref aa,.ref ah]/\H aa=some (.dK (cX A bs))/\WtsAt H bs (A.map (·.2))/\Asking (chW cws) m first A/\H ah=some (.dT (dO m))/\(m.map (·.1)).Nodup/\first∉m.map (·.1)/\(∀v f,(v,f)∈m->f∈chW cws v)/\f0∈A.map (·.1)/\m.length<=56/\
 ∀(m':List (Wt×Nat)) (H':Hp),(∀b u,b≠ah->H b=some u->H' b=some u)->H' ah=some (.dT (dO m'))->m'.map (·.1)=m.map (·.1)++[first]->(∀v f,(v,f)∈m'->f∈chW cws v)->(∀f,ctm m' f=ctm m f+(if f=f0 then 1 else 0))->Q .non H'
def x8:FnScope ["flag", "asked", "hung", "want", "given"] ["flag", "asked", "hung"] (aK eL):=by walk_at "sc"
def mO(F:Fun K "hang_along" "hang_along" eL f fd)(G:Gs K mg Zo Zz Zw Zr Zs Zt Zy Zx Zq Zv Zu Zp):FnOk P w K mg base CX0 1 f fd ["flag", "asked", "hung"] gP:=by
 refine F.ok x8 (λvs H Q E h=>?_) (λcdv A outer s H vs Q E hr h=>?_)
 .obtain⟨aa,ah,cws,m,first,A,bs,f0,rfl,_⟩:=h;rfl
 obtain⟨aa,ah,cws,m,first,A,bs,f0,rfl,haa,hwb,hask,hah,nd,hnf,hmc,hf0,hml,q⟩:=h
 refine⟨_,(@aH _ _ _ (sC Bs (bI cXZ (mv 0) cQ5 (bR _)) (@aD _ _ _ _ _ (aN 3 x8.nd (eX (Room.u1 hr) (mv 1) (mv 0) (λ_ _=>rfl))) (@aD _ _ _ _ _ (aN 4 x8.nd (dJ Cc Dk (aJ0 (Room.u1 hr)) (mv 2) (aA (mv 3) aE))) (@aD _ _ _ _ _ (eQ (Room.u1 hr) (mv 2) (mv 3) (mv 0) rfl) (@aH _ _ _ (aN 0 x8.nd (mv 4)))))))),?_⟩;have hbl:bs.length=A.length:=by rw[hwb.1,Ac]
 have nah:aa≠ah:=λz=>by rw[z,hah]at haa;cases haa
 obtain⟨x0,hx0,e0⟩:=Bc.mp hf0;obtain⟨j0,hj0,ej0⟩:=Co.mp hx0;have ej:A[j0]?=some (f0,x0.2):=by rw[Ab hj0,ej0,<-e0]
 walk_at "g";refine ⟨λn U H'=>(∃ (m2:List (Wt×Nat)) (c j:Nat) (w:Wt) (v1 v2:Option V),U=[some (.str (one c)),some (.ref aa),some (.ref ah),v1,v2]/\(∀ b u,b≠ah->H b=some u->H' b=some u)/\H' ah=some (.dT (dO m2))/\Along (chW cws) m A f0 m2 c j w/\n=j+1)\/
     (∃(m':List (Wt×Nat)) (v1 v2:Option V),U=[some .non,some (.ref aa),some (.ref ah),v1,v2]/\(∀b u,b≠ah->H b=some u->H' b=some u)/\H' ah=some (.dT (dO m'))/\m'.map (·.1)=m.map (·.1)++[first]/\(∀v f,(v,f)∈m'->f∈chW cws v)/\(∀f,ctm m' f=ctm m f+(if f=f0 then 1 else 0))/\n=0),
  ⟨_,.inl ⟨m,f0,j0,x0.2,none,none,rfl,λb u _ h=>h,hah,⟨rfl,hmc,λf=>rfl,ej,λv g i u hg _ _=>hg⟩,rfl⟩⟩,?_⟩
 rintro n U H2 (⟨m2,c,j,w,v1,v2,rfl,fr,eh,al,rfl⟩|⟨m',v1,v2,rfl,fr,eh,hk,hc,hct,rfl⟩)
 .walk_at "g";rw[show (!decide (V.str (one c)=V.non))=true from rfl];walk_at "g";have hjl:=(Af.mp al.at_).1
  have ebj:bs[j]?=some (bs[j]'(by omega)):=Ab (by omega)
  have hbt:=hwb.2 j _ w ebj (by rw[Am,al.at_];rfl)
  have hav:=aZB hask.nd hbl al.at_ ebj
  generalize (bs[j]'(by omega))=b at hbt hav
  have nb:b≠ah:=λz=>by rw[z,hah]at hbt;cases hbt
  have haa2:=fr _ _ nah haa
  have hb2:=fr _ _ nb hbt
  have hkl:(dO m2).length<sizeLine:=by
   have:m2.length=m.length:=by rw[<-Ac (f:=(·.1)) (as:=m2),al.keys,Ac]
   unfold dO;rw[Ac];exact bH (by omega)
  have hdd:isD H2 ah=true:=by unfold isD;rw[eh]
  refine⟨_,λU' H' h=>h,?_⟩;walk_at "g";refine qF (z:=one c) (.inl haa2) hav ?_;walk_at "g";refine xR (k:=bU w) (.inl eh) hb2 ?_;rw[fJ];have fr2:∀o,∀b u,b≠ah->H b=some u->(upd H2 ah o) b=some u:=λo b u hb hu=>by rw[aG hb];exact fr b u hb hu
  rcases (hask.ok j c w al.at_).2 with rfl|⟨g,i,v,hij,hi,hg⟩
  .obtain⟨l1,l2,l3,l4⟩:=al.last hask hnf;rw[l1];walk_at "g";refine qQ (k:=bU w) eh hb2 hkl ?_;rw[rF,show zC m2 w c=m2++[(w,c)] by unfold zC;rw[l1];rfl]
   walk_at "g";exact⟨0,by omega,.inr ⟨m2++[(w,c)],_,_,rfl,fr2 _,aB,l2,l3,l4,rfl⟩⟩
  .obtain⟨l1,l2⟩:=al.step hask nd hg hi hij;rw[l1];walk_at "g";refine qQ (k:=bU w) eh hb2 hkl ?_;rw[rF,show zC m2 w c=m2.map λx=>if x.1=w then (x.1,c) else x by unfold zC;rw[l1];rfl]
   walk_at "g";exact⟨i+1,by omega,.inl ⟨_,g,i,v,_,_,rfl,fr2 _,aB,l2,rfl⟩⟩
 .walk_at "g";exact q m' H2 fr eh hk hc hct
def iT(aC:Addr):Sp:=λvs H Q _=>∃(ea p q:Addr) (xs ys:List V),vs=[.ref ea,.ref p,.ref q]/\H ea=some (cZ ea aC none)/\rdL H p=some xs/\rdL H q=some ys/\
 ∀(dx l1 l2:Addr) (H':Hp),(∀b u,b≠ea->H b=some u->H' b=some u)->H dx=none->dx≠ea->H' ea=some (cZ ea aC (some dx))->H' dx=some (xdO dx [("flags",.ref l2),("wants",.ref l1)])->H' l1=some (.lst xs)->H' l2=some (.lst ys)->H l1=none->H l2=none->Q .non H'
def pJ:FnScope ["self", "wants", "flags"] ["self", "wants", "flags"] (aK fP):=by walk_at "sc"
def pG(F:Fun K "__init__" "Lack.__init__" fP f fd):FnOk P w K mg base CX0 1 f fd ["self", "wants", "flags"] (iT Zo):=by
 refine F.ok pJ (λvs H Q E h=>?_) (λcdv A outer s H vs Q E hr h=>?_)
 .obtain⟨ea,p,q,xs,ys,rfl,_⟩:=h;rfl
 obtain⟨ea,p,q,xs,ys,rfl,he,hp,hq,qq⟩:=h;refine⟨_,(@aD _ _ _ _ _ (cE (aZS rfl G.c_TowerError G.t1_TowerError G.t2_TowerError G.t3_TowerError (aA (mv 0) (aA (bB gX rfl G.b_list cI (aA (mv 1) aE)) (aA (bB gX rfl G.b_list cI (aA (mv 2) aE)) aE))))) (@aD _ _ _ _ _ (xT (mv 0) (bB gX rfl G.b_list cI (aA (mv 1) aE)) rfl) (@aH _ _ _ (xT (mv 0) (bB gX rfl G.b_list cI (aA (mv 2) aE)) rfl)))),?_⟩;walk_at "g";intro l1 hl1;have s1:=aF hl1 (.lst xs)
 generalize upd H l1 (.lst xs)=H1 at s1 ⊢;have hq1:=aJ s1 hq
 walk_at "g";intro l2 hl2;have s2:=s1.trans (aF hl2 (.lst ys))
 generalize upd H1 l2 (.lst ys)=H2 at s2 ⊢;have he2:=s2 _ _ he
 walk_at "g";refine⟨ea,[.ref l1,.ref l2],Zo,Zz,none,rfl,by show 2<=sizeLine;decide,he2,(λ_ z=>nomatch z),G.xc_Lack,?_⟩
 have hp2:=aJ s2 hp
 walk_at "g";intro l3 hl3;have s3:=s2.trans (aF hl3 (.lst xs))
 have e3:(upd H2 l3 (.lst xs)) l3=_:=aB
 generalize upd H2 l3 (.lst xs)=H3 at s3 e3 ⊢;have he3:=s3 _ _ he
 walk_at "g";refine⟨ea,Zo,Zz,rfl,G.xc_Lack,G.xn_Lack_wants,.inl ⟨he3,λdx hdx=>?_⟩⟩;have nde:dx≠ea:=λz=>by rw[z,he3]at hdx;cases hdx
 have fr4:∀b u,b≠ea->H b=some u->(upd (upd H3 ea (cZ ea Zo (some dx))) dx (xdO dx [("wants",.ref l3)])) b=some u:=λb u hb hu=>by
  have e:=s3 _ _ hu
  rw[aG (λz=>by rw[z,hdx]at e;cases e),aG hb]
  exact e
 have ee4:(upd (upd H3 ea (cZ ea Zo (some dx))) dx (xdO dx [("wants",.ref l3)])) ea=some (cZ ea Zo (some dx)):=by rw[aG nde.symm,aB]
 have ed4:(upd (upd H3 ea (cZ ea Zo (some dx))) dx (xdO dx [("wants",.ref l3)])) dx=_:=aB
 have n3e:l3≠ea:=λz=>by rw[z,he3]at e3;cases e3
 have n3d:l3≠dx:=λz=>by rw[z,hdx]at e3;cases e3
 have el4:(upd (upd H3 ea (cZ ea Zo (some dx))) dx (xdO dx [("wants",.ref l3)])) l3=some (.lst xs):=by rw[aG n3d,aG n3e];exact e3
 have hqe:q≠ea:=λz=>by rw[z]at hq;unfold rdL at hq;rw[he]at hq;cases hq
 have hq4:rdL (upd (upd H3 ea (cZ ea Zo (some dx))) dx (xdO dx [("wants",.ref l3)])) q=some ys:=by
  have hq3:=aJ s3 hq
  rw[aX3 (λz=>by rw[z]at hq3;unfold rdL at hq3;rw[hdx]at hq3;cases hq3),aX3 hqe]
  exact hq3
 generalize upd (upd H3 ea (cZ ea Zo (some dx))) dx (xdO dx [("wants",.ref l3)])=H4 at fr4 ee4 ed4 el4 hq4 ⊢;walk_at "g";intro l4 hl4;have s5:=aF hl4 (.lst ys)
 have e5:(upd H4 l4 (.lst ys)) l4=_:=aB
 have ee5:=s5 _ _ ee4
 have ed5:=s5 _ _ ed4
 have el5:=s5 _ _ el4
 have n4d:l4≠dx:=λz=>by rw[z,ed4]at hl4;cases hl4
 have n4e:l4≠ea:=λz=>by rw[z,ee4]at hl4;cases hl4
 have h40:H l4=none:=by
  cases e:H l4 with
  |none=>rfl
  |some u=>rw[fr4 _ _ n4e e]at hl4;cases hl4
 generalize upd H4 l4 (.lst ys)=H5 at s5 e5 ee5 ed5 el5 ⊢;walk_at "g";refine⟨ea,Zo,Zz,rfl,G.xc_Lack,G.xn_Lack_flags,.inr ⟨dx,_,ee5,ed5,(by show 1<100;decide),?_⟩⟩
 refine qq dx l3 l4 _ (λb u hb hu=>?_) (bW s3 hdx) nde (by rw[aG nde.symm];exact ee5) aB (by rw[aG n3d];exact el5) (by rw[aG n4d];exact e5) (bW s2 hl3) h40
 have e:=s5 _ _ (fr4 b u hb hu)
 rw[aG (λz=>by have q9:=s3 _ _ hu;rw[z,hdx]at q9;cases q9)]
 exact e
structure LackOk (cws:List (List Nat)) (n:Nat->Int) (W:List Wt) (F:List Nat):Prop where
 sub:W.Sublist (wl cws)
 flags:∃p:Nat->Bool,F=flagsT.cps.toList.filter p
 all:∀w∈W,∀f∈chW cws w,f∈F
 few:(F.map n).sum<(W.length:Int)
def ctn(fs:List Nat)(c:Nat):Nat:=fs.countP λx=>decide (x=c)
def jJ(g:Nat->Nat):∀L:List Nat,(L.map λc=>((g c:Nat):Int)).sum=(((L.map g).sum:Nat):Int)
 |[]=>rfl
 |c::r=>by
  rw[Aq,Df,Aq,Df,jJ g r];omega
def bQ3{n0:Nat->Int}{m:List (Wt×Nat)}{first:Wt}{A:List (Nat×Wt)}{fl:Nat->Option Int}{l r:List Wt}(hw:wl cws=l++first::r)(hk:m.map (·.1)=l)(hL:∀c∈cws,c.length<=7/\∀d∈c,cO d)(hmo:HungOk cws m)(hfw:first∈wl cws)(hA:Asked (chW cws) m first A)(hct:∀c,aO fl c=n0 c-(ctm m c:Int)/\0<=aO fl c)(h0:∀c∈A.map (·.1),¬0<aO fl c):LackOk cws n0 (fW m first A (wl cws)) (flagsT.cps.toList.filter λc=>decide (c∈A.map (·.1))):=by
 have hAf:∀c∈A.map (·.1),vO c:=λc hc=>by
  obtain⟨x,hx,rfl⟩:=Bc.mp hc;obtain⟨j,hj,e⟩:=Co.mp hx;have hj2:A[j]?=some (x.1,x.2):=by rw[Ab hj,e]
  exact aZY hL (aZ6 hmo hfw hA.toAsking hj2) (hA.ok j _ _ hj2).1
 have hF:∀c,c∈flagsT.cps.toList.filter (λc=>decide (c∈A.map (·.1))) ↔ c∈A.map (·.1):=λc=>by
  rw[Du,Bq];exact⟨λh=>h.2,λh=>⟨flags_mem.mpr (hAf c h),h⟩⟩
 have ndF:(flagsT.cps.toList.filter λc=>decide (c∈A.map (·.1))).Nodup:=List.Nodup.sublist List.filter_sublist (by decide)
 have nd:=iF cws cws.length
 replace nd:(wl cws).Nodup:=nd
 refine⟨List.filter_sublist,⟨_,rfl⟩,λw hwm f hf=>?_,?_⟩
 .refine(hF f).mpr ?_;have h2:=(lackW_mem.mp hwm).2
  by_cases e:w=first
  .subst e;exact hA.all1 f hf
  .cases eg:bT m w with
   |none=>rw[kT e eg]at h2;cases h2
   |some g=>
    rw[lG e eg]at h2;exact hA.all w g (sK eg) (Cm h2) f hf
 .have e1:(fW m first A (wl cws)).length=1+m.countP (λx=>decide (x.2∈A.map (·.1))):=by
   rw[hw]at nd ⊢;exact aJ4 hk nd
  have e2:m.countP (λx=>decide (x.2∈A.map (·.1)))=m.countP (λx=>decide (x.2∈flagsT.cps.toList.filter λc=>decide (c∈A.map (·.1)))):=by
   congr 1
   funext x
   exact Dh.mpr (hF x.2).symm
  have e3:=cQO m ndF
  have e4:(flagsT.cps.toList.filter λc=>decide (c∈A.map (·.1))).map n0=(flagsT.cps.toList.filter λc=>decide (c∈A.map (·.1))).map λc=>((ctm m c:Nat):Int):=Cs λc hc=>by
   have h1:=hct c
   have h2:=h0 c ((hF c).mp hc)
   omega
  rw[e4,jJ,e1,e2,e3];omega
def fI(aC:Addr):Sp:=λvs H Q E=>∃(a b:Addr) (kvs:List (Key×V)) (f:Nat->Option Int) (cws:List (List Nat)),vs=[.ref a,.ref b]/\Rd H a (.dK kvs)/\Lk kvs f/\rdL H b=some ((cws.map aP).map V.str)/\cws.length<=8/\(∀c∈cws,c.length<=7/\∀d∈c,cO d)/\
 (∀(r:Addr) (ps:List Addr) (fs:List Nat) (H':Hp),H r=none->Same H H'->H' r=some (.lst (ps.map V.ref))->(∀p∈ps,p≠r)->Lsts H H' ps ((List.range cws.length).map (fG cws fs))->fs.length=(wl cws).length->(∀(j:Nat) w g,(wl cws)[j]?=some w->fs[j]?=some g->g∈chW cws w)->(∀c,(ctn fs c:Int)<=aO (bP (aO f)) c)->Q (.ref r) H')/\
 (∀(dx l1 l2:Addr) (rs:List Addr) (W:List Wt) (F:List Nat) (H':Hp),Same H H'->H' dx=some (xdO dx [("flags",.ref l2),("wants",.ref l1)])->H' l1=some (.lst (rs.map V.ref))->WtsAt H' rs W->H' l2=some (.lst ((F.map one).map V.str))->LackOk cws (aO (bP (aO f))) W F->H l1=none->H l2=none->E (.ref aC) (some dx) H')
def y4:FnScope ["locker", "words", "choices", "left", "hung", "first", "asked", "free", "wants"] ["locker", "words"] (aK cC):=by walk_at "sc"
def sU(F:Fun K "hang_all" "hang_all" cC f fd)(u5:Cal P w K mg base 2 "choices_of" ["words"] gU)(u6:Cal P w K mg base 1 "plain_locker" ["locker"] fF)(u7:Cal P w K mg base 1 "hoists_of" ["words", "flags"] jE)(u8:Cal P w K mg base 1 "asked_from" ["first", "choices", "hung"] gQ)(u9:Cal P w K mg base 1 "hang_along" ["flag", "asked", "hung"] gP)(t5:bXU P w K mg base 1 Zo ["self", "wants", "flags"] (iT Zo)):FnOk P w K mg base (CXr P w) 3 f fd ["locker", "words"] (fI Zo):=by
 refine F.okX y4 (λvs H Q E h=>?_) (λcdv A outer s H vs Q E hr h=>?_)
 .obtain⟨a,b,kvs,f,cws,rfl,_⟩:=h;rfl
 obtain⟨a,b,kvs,f,cws,rfl,ha,lk,hb,h8,hL,q,qe⟩:=h;refine⟨_,(@aD _ _ _ _ _ (aN 2 y4.nd (bO u5 hr (by decide) rfl (aA (mv 1) aE))) (@aD _ _ _ _ _ (aN 3 y4.nd (bO u6 hr (by decide) rfl (aA (mv 0) aE))) (@aD _ _ _ _ _ (@uB _ _ 4 _ _ _ _ y4.nd (by rfl) (by exact(Or.inr rfl)) sQ (by rfl) (by walk_at "o")) (@aD _ _ _ _ _ (qT (bV PassesOwn.leaving rfl (iU (mv 2)) (bA (i:=5) y4.nd rfl (Or.inr rfl)) (@aD _ _ _ _ _ (aN 6 y4.nd (bO u8 hr (by decide) rfl (aA (mv 5) (aA (mv 2) (aA (mv 4) aE))))) (@aD _ _ _ _ _ (qT (kL (i:=7) y4.nd rfl (Or.inl rfl) rfl (xQ (mv 6)) (kI (N:=["flag", "left"]) ["locker", "words", "choices", "left", "hung", "first", "asked", "free", "wants"] (aK cC) [none,some 3] rfl rfl rfl (λx h=>bY h) (by decide +kernel)) (by decide +kernel) rfl (by decide +kernel) (λ_ _ _ _=>(bA (i:=0) (show List.Nodup (["flag", "left"]:List Str) by decide +kernel) rfl (Or.inl rfl))) (λ_ _ _ _=>(lW (bI bX1 (dJ Cc Dk (sL (Room.u1 hr)) (mv 1) (aA (mv 0) (aA aI aE))) aI (bR _)))) (λ_ _ _ _=>(mv 0)))) (@aD _ _ _ _ _ (cN (bI (dQW hr.units0) (mv 7) (dN aE) (bR _)) (@aD _ _ _ _ _ (qT (kL (i:=8) y4.nd rfl (Or.inl rfl) rfl (iU (mv 2)) (kI (N:=["want", "first", "asked", "hung"]) ["locker", "words", "choices", "left", "hung", "first", "asked", "free", "wants"] (aK cC) [none,some 5,some 6,some 4] rfl rfl rfl (λx h=>bY h) (by decide +kernel)) (by decide +kernel) rfl (by decide +kernel) (λ_ _ _ _=>(bA (i:=0) (show List.Nodup (["want", "first", "asked", "hung"]:List Str) by decide +kernel) rfl (Or.inl rfl))) (λ_ _ _ _=>(lW (PW.pt (cT (bI (cJS hr.units0) (mv 0) (mv 1) (bR _)) (dG (bI (cQA (Room.u1 hr)) (dJ Cc Dk (aJ0 (Room.u1 hr)) (mv 3) (aA (mv 0) aE)) (mv 2) (by rfl))))))) (λ_ _ _ _=>(mv 0)))) (@aH _ _ _ (yI bZJ rfl rfl rfl G.c_Lack G.xm_Lack t5 hr (by decide) (aA (mv 8) (aA (iM rfl (qB (pE rfl G.s_FLAGS)) (kI (N:=["flag", "asked"]) ["locker", "words", "choices", "left", "hung", "first", "asked", "free", "wants"] (aK cC) [none,some 6] rfl rfl rfl (λx h=>bY h) (by decide +kernel)) (by decide +kernel) rfl (by decide +kernel) (λ_ _ _ _=>(bA (i:=0) (show List.Nodup (["flag", "asked"]:List Str) by decide +kernel) rfl (Or.inl rfl))) (λ_ _ _ _=>(lW (bI (cJ2 (Room.u1 hr)) (mv 0) (mv 1) (by rfl)))) (λ_ _ _ _=>(mv 0))) aE))))) bN) (@aD _ _ _ _ _ (eQ (Room.u1 hr) (mv 3) (cB eC (mv 7) aI (λ_ _=>rfl)) (aS nI (eX (Room.u1 hr) (mv 3) (cB eC (mv 7) aI (λ_ _=>rfl)) (λ_ _=>rfl)) aI) rfl) (@aH _ _ _ (cE (bO u9 hr (by decide) rfl (aA (cB eC (mv 7) aI (λ_ _=>rfl)) (aA (mv 6) (aA (mv 4) aE)))))))))))) (@aH _ _ _ (aT (bO u7 hr (by decide) rfl (aA (mv 1) (aA (aXD (iM rfl (iU (mv 2)) (kI (N:=["want", "hung"]) ["locker", "words", "choices", "left", "hung", "first", "asked", "free", "wants"] (aK cC) [none,some 4] rfl rfl rfl (λx h=>bY h) (by decide +kernel)) (by decide +kernel) rfl (by decide +kernel) (λ_ _ _ _=>(bA (i:=0) (show List.Nodup (["want", "hung"]:List Str) by decide +kernel) rfl (Or.inl rfl))) (λ_ _ _ _=>qJ) (λ_ _ _ _=>(eX (Room.u1 hr) (mv 1) (mv 0) (λ_ _=>rfl))))) aE))))))))),?_⟩
 have h7:∀c∈cws,c.length<=7:=λc hc=>(hL c hc).1
 have hlw:(wl cws).length<=56:=Bf (kN h7 _) (by omega)
 walk_at "g";refine⟨b,cws,rfl,hb,h8,h7,λac H1 hac s1 hch=>?_⟩;walk_at "g";refine⟨a,kvs,f,rfl,ha.elim (λe=>.inl (s1 _ _ e)) (λ⟨o,e⟩=>.inr ⟨o,s1 _ _ e⟩),lk,λal H2 hal s2 el=>?_⟩;walk_at "g";intro ah hah;have s3:=s2.trans (aF hah (.dT []))
 have eh3:(upd H2 ah (.dT [])) ah=_:=aB
 have el3:=aF hah (.dT []) _ _ el
 generalize upd H2 ah (.dT [])=H3 at s3 eh3 el3 ⊢;obtain⟨ds,dl,ed,hds⟩:=hch;rw[Ck]at ed;have ed3:=s3 _ _ ed
 walk_at "g";refine qP ed3 λo=>?_;have fz:(upd H3 ac (.frz o (.dT (bX (wl cws) ds)))) ac=_:=aB
 have kl:(bX (wl cws) ds).length=(wl cws).length:=nH dl
 have nac:ah≠ac:=λz=>by have e:=s2 _ _ ed;rw[<-z,hah]at e;cases e
 have nla:al≠ac:=λz=>by rw[z,ed3]at el3;cases el3
 have nlh:al≠ah:=λz=>by rw[z,eh3]at el3;cases el3
 have s13:Same H1 H3:=s3
 have hah1:H1 ah=none:=bW s2 hah
 generalize hn0:aO (bP (aO f))=n0;refine aXU (λi U H'=>∃(m:List (Wt×Nat)) (kl2:List (Key×V)) (fl:Nat->Option Int) (v5 v6 v7 v8:Option V),U=[some (.ref a),some (.ref b),some (.ref ac),some (.ref al),some (.ref ah),v5,v6,v7,v8]/\(∀p u,p≠ac->p≠al->p≠ah->H1 p=some u->H' p=some u)/\H' ac=some (.frz o (.dT (bX (wl cws) ds)))/\H' ah=some (.dT (dO m))/\H' al=some (.dK kl2)/\Lk kl2 fl/\kl2.length<=27/\m.map (·.1)=(wl cws).take i/\(∀v g,(v,g)∈m->g∈chW cws v)/\(∀c,aO fl c=n0 c-(ctm m c:Int)/\0<=aO fl c))
  ⟨[],_,bP (aO f),_,_,_,_,rfl,λp u h1 h2 h3 hu=>by rw[aG h1];exact s13 _ _ hu,fz,by rw[aG nac];exact eh3,by rw[aG nla];exact el3,aQM _,by unfold kvL;rw[Ac];exact lJ _ _,rfl,(λv g hv=>nomatch hv),λc=>?_⟩ (λi U H' _ ⟨_,_,_,_,_,_,_,_,_,e,_⟩=>e) ?_ ?_
 .rw[hn0];refine⟨by show n0 c=n0 c-((0:Nat):Int);omega,?_⟩
  rw[<-hn0];show 0<=(bP (aO f) c).getD 0
  unfold bP;split
  .rename_i h;exact Int.le_of_lt h.2
  .exact Hl 0
 .rintro i kv bf U H4 hkv hbf ⟨m,kl2,fl,v5,v6,v7,v8,rfl,fr,ec,eh,el4,lkl,l27,hk,hmc,hct⟩;have hi:i<(wl cws).length:=by rw[<-kl];exact(Af.mp hkv).1
  have ew:(wl cws)[i]?=some (wl cws)[i]:=Ab hi
  have ekv:kv=(bU (wl cws)[i],V.ref (ds[i]'(by omega))):=by
   unfold bX at hkv;rw[Fn,ew,Ab (show i<ds.length by omega)]at hkv
   exact(Bh hkv).symm
  rw[ekv]at hbf;have hnd:=iF cws cws.length
  have hfw:(wl cws)[i]∈wl cws:=Bu hi
  have htk:(wl cws).take (i+1)=(wl cws).take i++[(wl cws)[i]]:=by rw[Bn,ew];rfl
  have hfn:(wl cws)[i]∉m.map (·.1):=by
   rw[hk];intro z;obtain⟨j,hj,ej⟩:=Co.mp z;rw[Bt]at hj;rw[List.getElem_take]at ej;have:=(Fx hnd).mp ej
   omega
  have hml:m.length<=56:=by
   have e:m.length=(m.map (·.1)).length:=(Ac _).symm
   rw[e,hk,Bt];omega
  have hmo:HungOk cws m:=⟨by rw[hk];exact hnd.sublist (List.take_sublist ..),λx hx=>Fa (by rw[<-hk];exact Bc.mpr ⟨x,hx,rfl⟩)⟩
  have hcr:ChRd H4 ac cws:=⟨ds,dl,.inr ⟨o,ec⟩,λj w d hw hd=>by
   have h1:=hds j w d (Af.mp hw).1 hw hd
   exact fr d _ (λz=>by rw[z,ed]at h1;cases h1) (λz=>by rw[z,hal]at h1;cases h1) (λz=>by rw[z,hah1]at h1;cases h1) h1⟩
  replace hbf:H4 bf=some (.tup (wV (wl cws)[i])):=hbf
  clear ekv hkv;generalize (wl cws)[i]=first at hbf ew hfw htk hfn
  walk_at "g";refine⟨bf,ac,ah,cws,m,first,rfl,hbf,hfw,hcr,eh,hmo,hml,h8,hL,λpa A bs H5 hpa s5 ea wb hask=>?_⟩
  have el5:=s5 _ _ el4
  have hbl:bs.length=A.length:=by rw[wb.1,Ac]
  have hA27:=xE hmo hfw hL hask.toAsking
  have hdl5:=eK el5
  walk_at "g";refine aZL ea λoa=>?_;have fza:(upd H5 pa (.frz oa (.dK (cX A bs)))) pa=_:=aB
  have nlp:al≠pa:=λz=>by rw[z,hpa]at el4;cases el4
  have elf:(upd H5 pa (.frz oa (.dK (cX A bs)))) al=_:=(aG nlp).trans el5
  refine jT (n:=A.length) (λD i ys Hc=>Same (upd H5 pa (.frz oa (.dK (cX A bs)))) Hc/\ys=((((A.take i).map (·.1)).filter λc=>decide (0<aO fl c)).map one).map V.str) (bH (by omega)) (λD hD=>⟨aF hD _,rfl⟩) (λD i ys Hc _ r h=>⟨r.1 _ _ fza,by rw[lQ hbl];exact h⟩) (λD ys Hc _ r=>⟨r.1 _ _ fza,lQ hbl⟩) ?_ ?_
  .rintro D i2 ys Hc x H' A' B' hD hi2 ⟨sm,rfl⟩ hDc ⟨rfl,kv,hkv,rfl⟩ hA' hB';have eA:A[i2]?=some A[i2]:=Ab hi2
   unfold cX at hkv;rw[Fn,eA,Ab (show i2<bs.length by omega)]at hkv
   cases hkv;have tk:A.take (i2+1)=A.take i2++[A[i2]]:=by rw[Bn,eA];rfl
   rw[tk,Ax,Fl]at hA' hB';generalize A[i2]=xa at hA' hB';have elc:=sm _ _ elf
   have hdc:=eK elc
   dsimp only[kV];walk_at "g";refine⟨Wk.set rfl (Wk.refl _),?_⟩;walk_at "g";refine sB (z:=one xa.1) (.inl elc) ?_;rw[lkl.val xa.1,iJ];walk_at "g";refine mU (λhe=>?_) (λhe=>?_)
   .have he':=Cm he
    walk_at "g";refine hA' _ _ hDc ⟨bJ hD sm,?_⟩;rw[show ([xa].map (·.1)).filter (λc=>decide (0<aO fl c))=[xa.1] by simp[he'],List.map_append,List.map_append]
    rfl
   .have he':=En (Dt.mpr he)
    walk_at "g";refine hB' _ hDc ⟨sm,?_⟩;rw[show ([xa].map (·.1)).filter (λc=>decide (0<aO fl c))=[] by simp;omega,List.append_nil]
  .rintro D ys Hc hD ⟨sm,rfl⟩ hDc _;rw[Ck]at hDc;have su:=jD ea (λo v z=>nomatch z) sm
   have eu:=cH (Hs:=H5) hDc (λo v z=>nomatch z)
   refine qH ?_;unfold aQE;dsimp only;generalize unf H5 Hc=H6 at su eu ⊢;have s46:=s5.trans su
   have ea6:=su _ _ ea
   have wb6:WtsAt H6 bs (A.map (·.2)):=wb.keep λr w h=>su _ _ h
   have ec6:=s46 _ _ ec
   have eh6:=s46 _ _ eh
   have el6:=s46 _ _ el4
   have hbf6:=s46 _ _ hbf
   have fr6:∀p u,p≠ac->p≠al->p≠ah->H1 p=some u->H6 p=some u:=λp u h1 h2 h3 hu=>s46 _ _ (fr p u h1 h2 h3 hu)
   have hD4:H4 D=none:=by
    have h5:H5 D=none:=by
     by_cases z:D=pa
     .rw[z,aB]at hD;cases hD
     .rw[aG z]at hD;exact hD
    exact bW s5 h5
   clear sm hDc hD fza elf hdl5 el5;walk_at "g";refine⟨by decide,λpe hpe=>?_⟩
   refine bZZ (neg:=false) (aJ (aF hpe _) (aQ eu)) dI (dW _) rfl ?_;have s67:=aF hpe (.lst [])
   generalize upd H6 pe (.lst [])=H7 at s67 ⊢;have en:∀xs:List V,gL xs []=xs.isEmpty:=λxs=>by cases xs<;>rfl
   rw[if_neg (by decide),en]
   cases hfr:(A.map (·.1)).filter (λc=>decide (0<aO fl c)) with
   |nil=>
    rw[hfr]at eu;rw[show (List.map V.str (List.map one [])).isEmpty=true from rfl];have ec7:=s67 _ _ ec6
    have eh7:=s67 _ _ eh6
    have ea7:=s67 _ _ ea6
    have hbf7:=s67 _ _ hbf6
    have fr7:∀p u,p≠ac->p≠al->p≠ah->H1 p=some u->H7 p=some u:=λp u h1 h2 h3 hu=>s67 _ _ (fr6 p u h1 h2 h3 hu)
    clear eu wb6 hpe s67 fr6 fr ec6 eh6 ea6 hbf6 el6 su hD4 s46 hpa s5 ea wb el4 nlp;walk_at "g";refine aXI ec7 ?_;refine jT (n:=(wl cws).length) (λD i ys Hc=>Same H7 Hc/\∃rs,ys=rs.map V.ref/\WtsAt Hc rs (fW m first A ((wl cws).take i))) (bH (by omega)) (λD hD=>⟨aF hD _,[],rfl,rfl,λj r w hr=>nomatch hr⟩) (λD i ys Hc _ r h=>⟨r.1 _ _ ec7,by rw[kl];exact h⟩) (λD ys Hc _ r=>⟨r.1 _ _ ec7,kl⟩) ?_ ?_
    .rintro D i2 ys Hc x H' A' B' hD hi2 ⟨sm,rs,rfl,hwt⟩ hDc ⟨rfl,kv,bk,hkv,rfl,hbk⟩ hA' hB';have ew2:(wl cws)[i2]?=some (wl cws)[i2]:=Ab hi2
     have ekv:kv=(bU (wl cws)[i2],V.ref (ds[i2]'(by omega))):=by
      unfold bX at hkv;rw[Fn,ew2,Ab (show i2<ds.length by omega)]at hkv
      exact(Bh hkv).symm
     rw[ekv]at hbk;replace hbk:H' bk=some (.tup (wV (wl cws)[i2])):=hbk
     have tk:(wl cws).take (i2+1)=(wl cws).take i2++[(wl cws)[i2]]:=by rw[Bn,ew2];rfl
     rw[tk]at hA' hB';clear ekv hkv ew2 tk;generalize (wl cws)[i2]=wx at hbk hA' hB';have ehc:=sm _ _ eh7
     have eac:=sm _ _ ea7
     have hfc:=sm _ _ hbf7
     have yes:eZ m first A wx=true->A' (.ref bk) H':=λhb=>by
      refine hA' _ _ hDc ⟨bJ hD sm,rs++[bk],by rw[Ax];rfl,?_⟩
      rw[mL,hb,if_pos rfl];refine WtsAt.keep (hwt.app (.one hbk)) λr w h=>?_;rw[aG (λz=>by rw[z,hDc]at h;cases h)]
      exact h
     have no:eZ m first A wx=false->B' H':=λhb=>by
      refine hB' _ hDc ⟨sm,rs,rfl,?_⟩;rw[mL,hb,if_neg (by decide),Cf]
      exact hwt
     clear hA' hB';walk_at "g";refine⟨Wk.set rfl (Wk.refl _),?_⟩;walk_at "g";refine cJO hbk hfc ?_;have hd2:decide ((wx.1:Int)=(first.1:Int)/\(wx.2:Int)=(first.2:Int))=decide (wx=first):=Dh.mpr ⟨λh=>Prod.ext (by omega) (by omega),λh=>by rw[h];exact⟨rfl,rfl⟩⟩
     rw[hd2];by_cases e:wx=first
     .rw[Au e];walk_at "g";exact yes (sR e)
     .rw[Bb e];have hdd:isD H' ah=true:=by unfold isD;rw[ehc]
      walk_at "g";refine xR (k:=bU wx) (.inl ehc) hbk ?_;rw[fJ];cases eg:bT m wx with
      |none=>
       refine cQJ (.inl eac) ?_;walk_at "g";exact no (kT e eg)
      |some g=>
       have hlb:=lG (A:=A) e eg
       refine bZD (z:=one g) (.inl eac) ?_;rw[gI hbl];refine mU (λhg=>?_) (λhg=>?_)
       .walk_at "g";exact yes (hlb.trans hg)
       .walk_at "g";exact no (hlb.trans (Dt.mpr hg))
    .rintro D ys Hc hD ⟨sm,rs,rfl,hwt⟩ hDc _;rw[Ck]at hwt;have su:=yR sm
     have eu:=cH (Hs:=H7) hDc (λo v z=>nomatch z)
     have hwu:WtsAt (unf H7 Hc) rs (fW m first A (wl cws)):=hwt.keep λr w h=>cH h λo v z=>nomatch z
     refine qH ?_;unfold aQE;dsimp only;generalize unf H7 Hc=H8 at su eu hwu ⊢;have ea8:=su _ _ ea7
     walk_at "g";refine aJ9 (λc=>if decide (c∈A.map (·.1))=true then some (.str (one c)) else none) (by decide) (λi3 c Hc2 A' B' hc sm2 hA'=>?_) (λD2 H9 hD2 s9 hr9=>?_)
     .have r:=hA' _ (Same.refl _)
      walk_at "g";refine⟨Wk.set rfl (Wk.refl _),?_⟩;walk_at "g";refine bJM (z:=one c) (neg:=false) (.inl (sm2 _ _ ea8)) ?_;rw[if_neg (by decide),gI hbl]
      refine mU (λhg=>?_) (λhg=>?_)
      .rw[if_pos hg]at r;walk_at "g";exact r
      .rw[if_neg hg]at r;exact r
     .have ef:(Str.ofString "abcdefghijklmnopqrstuvw1234").cps.toList.filterMap (λc=>if decide (c∈A.map (·.1))=true then some (V.str (one c)) else none)=((flagsT.cps.toList.filter λc=>decide (c∈A.map (·.1))).map one).map V.str:=by
       rw[show (Str.ofString "abcdefghijklmnopqrstuvw1234")=flagsT from rfl];generalize flagsT.cps.toList=L;induction L with
       |nil=>rfl
       |cons c r ih=>
        rw[Eg,List.filter_cons];by_cases hg:decide (c∈A.map (·.1))=true
        .rw[if_pos hg,if_pos hg,Aq,Aq,<-ih]
        .rw[if_neg hg,if_neg hg,<-ih]
      rw[ef]at hr9;have eD9:=s9 _ _ eu
      walk_at "g";refine⟨by show 2<=sizeLine;decide,λea hea=>⟨ea,D,D2,_,_,rfl,aB,aJ (aF hea _) (aQ eD9),aJ (aF hea _) (aQ hr9),λdx l1 l2 H' frx hdx nde e1 e2 e3 e4 hl1 hl2=>⟨rfl,some dx,e1,?_⟩⟩⟩
      have n1:l1≠ea:=λz=>by rw[z,e1]at e3;cases e3
      have n2:l2≠ea:=λz=>by rw[z,e1]at e4;cases e4
      have go9:∀b u,H9 b=some u->(del H' ea) b=some u:=λb u hu=>by
       have nb:b≠ea:=λz=>by rw[z,hea]at hu;cases hu
       rw[eB nb];exact frx b u nb (by rw[aG nb];exact hu)
      have hto:∀b u,H b=some u->H9 b=some u:=λb u hu=>by
       refine s9 _ _ (su _ _ (fr7 b u (λz=>by rw[z,hac]at hu;cases hu) (λz=>?_) (λz=>?_) (s1 _ _ hu)))
       .have:=s1 _ _ hu
        rw[z,hal]at this;cases this
       .have:=s1 _ _ hu
        rw[z,hah1]at this;cases this
      refine qe dx l1 l2 rs _ _ (del H' ea) (λb u hu=>go9 _ _ (hto b u hu)) ((eB nde).trans e2) ((eB n1).trans e3) (hwu.keep λr w h=>go9 _ _ (s9 _ _ h)) ((eB n2).trans e4) ?_ (bW hto (by rw[aG n1]at hl1;exact hl1)) (bW hto (by rw[aG n2]at hl2;exact hl2))
      .rw[hn0];refine bQ3 (l:=(wl cws).take i) (r:=(wl cws).drop (i+1)) (fl:=fl) ?_ hk hL hmo hfw hask hct (λc hc=>?_)
       .have e:=List.take_append_drop (i+1) (wl cws)
        rw[htk,Ed]at e;exact e.symm
       .have:=List.filter_eq_nil_iff.mp hfr c hc
        rw[Bq]at this;exact this
   |cons f0 fr0=>
    rw[hfr]at eu;rw[show (List.map V.str (List.map one (f0::fr0))).isEmpty=false from rfl];have hf0m:f0∈(A.map (·.1)).filter (λc=>decide (0<aO fl c)):=by rw[hfr];exact Al
    rw[Du,Bq]at hf0m;obtain⟨hf0A,hf0p⟩:=hf0m;obtain⟨n1,hn1⟩:∃n1,fl f0=some n1:=by
     cases e:fl f0 with
     |none=>rw[show aO fl f0=0 by unfold aO;rw[e];rfl]at hf0p;omega
     |some n=>exact⟨n,rfl⟩
    have hcn1:aO fl f0=n1:=by unfold aO;rw[hn1];rfl
    have el7:=s67 _ _ el6
    have ea7:=s67 _ _ ea6
    have eh7:=s67 _ _ eh6
    have ec7:=s67 _ _ ec6
    have eD7:=s67 _ _ eu
    have wb7:WtsAt H7 bs (A.map (·.2)):=wb6.keep λr w h=>s67 _ _ h
    have hdl7:=eK el7
    have at0:atI (List.map V.str (List.map one (f0::fr0))) 0=some (V.str (one f0)):=dY (show (List.map V.str (List.map one (f0::fr0)))[0]?=some (V.str (one f0)) from rfl)
    walk_at "g";refine fB (aQ eD7) (v:=.str (one f0)) at0 ?_;walk_at "g";refine qF (z:=one f0) (.inl el7) (by rw[lkl.val f0,hn1];rfl) ?_
    walk_at "g";refine fB (aQ eD7) (v:=.str (one f0)) at0 ?_;walk_at "g";refine jH (z:=one f0) el7 (bH (by omega)) ?_
    have nDl:D≠al:=λz=>by rw[z]at hD4;rw[hD4]at el4;cases el4
    have npl:pa≠al:=λz=>by rw[z]at hpa;rw[hpa]at el4;cases el4
    have nhl:ah≠al:=Ne.symm nlh
    have ncl:ac≠al:=Ne.symm nla
    have el8:(upd H7 al (.dK (bZ kl2 (Sum.inr (one f0)) (V.int (n1-1))))) al=_:=aB
    have ea8:(upd H7 al (.dK (bZ kl2 (Sum.inr (one f0)) (V.int (n1-1))))) pa=_:=(aG npl).trans ea7
    have eh8:(upd H7 al (.dK (bZ kl2 (Sum.inr (one f0)) (V.int (n1-1))))) ah=_:=(aG nhl).trans eh7
    have ec8:(upd H7 al (.dK (bZ kl2 (Sum.inr (one f0)) (V.int (n1-1))))) ac=_:=(aG ncl).trans ec7
    have eD8:(upd H7 al (.dK (bZ kl2 (Sum.inr (one f0)) (V.int (n1-1))))) D=_:=(aG nDl).trans eD7
    have wb8:WtsAt (upd H7 al (.dK (bZ kl2 (Sum.inr (one f0)) (V.int (n1-1))))) bs (A.map (·.2)):=wb7.keep λr w h=>by
     rw[aG (λz=>by rw[z,el7]at h;cases h)]
     exact h
    have fr8:∀p u,p≠ac->p≠al->p≠ah->H1 p=some u->(upd H7 al (.dK (bZ kl2 (Sum.inr (one f0)) (V.int (n1-1))))) p=some u:=λp u h1 h2 h3 hu=>by
     rw[aG h2];exact s67 _ _ (fr6 p u h1 h2 h3 hu)
    generalize upd H7 al (.dK (bZ kl2 (Sum.inr (one f0)) (V.int (n1-1))))=H8 at el8 ea8 eh8 ec8 eD8 wb8 fr8 ⊢;walk_at "g";refine fB (aQ eD8) (v:=.str (one f0)) at0 ?_;walk_at "g";refine⟨pa,ah,cws,m,first,A,bs,f0,rfl,ea8,wb8,hask.toAsking,eh8,hmo.nd,hfn,hmc,hf0A,hml,λm' H9 fr9 eh9 hk9 hc9 hct9=>?_⟩
    walk_at "g";refine⟨m',_,_,_,_,_,_,rfl,λp u h1 h2 h3 hu=>fr9 p u h3 (fr8 p u h1 h2 h3 hu),fr9 _ _ (Ne.symm nac) ec8,eh9,fr9 _ _ nlh el8,lkl.put f0 (n1-1),?_,?_,hc9,λc=>?_⟩
    .have hv:bF kl2 (Sum.inr (one f0))≠none:=by rw[lkl.val f0,hn1];exact λz=>nomatch z
     have e:=Cy List.length (tB kl2 (Sum.inr (one f0)) (.int (n1-1)) hv)
     rw[Ac,Ac]at e;omega
    .rw[hk9,hk,htk]
    .have h1:=hct c
     have h2:=hct9 c
     have h3:aO (λd=>if d=f0 then some (n1-1) else fl d) c=if c=f0 then n1-1 else aO fl c:=by
      show ((if c=f0 then some (n1-1) else fl c):Option Int).getD 0=_
      by_cases z:c=f0
      .rw[if_pos z,if_pos z];rfl
      .rw[if_neg z,if_neg z];rfl
     rw[h3];by_cases z:c=f0
     .subst z;rw[if_pos rfl]at h2 ⊢;omega
     .rw[if_neg z]at h2 ⊢;omega
 .rintro U H4 ⟨m,kl2,fl,v5,v6,v7,v8,rfl,fr,ec,eh,el4,lkl,l27,hk,hmc,hct⟩;rw[kl,Ck]at hk;have ec5:=pM (Hs:=H3) ec (λo v z=>by rw[ed3]at z;cases z)
  have eh5:=cH (Hs:=H3) eh (λo v z=>nomatch z)
  have sh5:Same H (unf H3 H4):=λb u hu=>by
   have h1:=s1 _ _ hu
   have h4:=fr b u (λz=>by rw[z,hac]at hu;cases hu) (λz=>by rw[z,hal]at h1;cases h1) (λz=>by rw[z,hah1]at h1;cases h1) h1
   by_cases hf:∃o v,u=.frz o v
   .obtain⟨o',v',rfl⟩:=hf;exact iV h4 (s13 _ _ h1)
   .exact cH h4 λo v z=>hf ⟨o,v,z⟩
  unfold aQE;dsimp only;generalize unf H3 H4=H5 at ec5 eh5 sh5 ⊢;have hml:m.length=(wl cws).length:=by rw[<-hk,Ac]
  have hnd:(m.map (·.1)).Nodup:=by rw[hk];exact iF cws cws.length
  walk_at "g";refine qP ec5 λo2=>?_;have fz2:(upd H5 ac (.frz o2 (.dT (bX (wl cws) ds)))) ac=_:=aB
  have eh6:(upd H5 ac (.frz o2 (.dT (bX (wl cws) ds)))) ah=_:=(aG nac).trans eh5
  refine jT (n:=(wl cws).length) (λD i ys Hc=>Same (upd H5 ac (.frz o2 (.dT (bX (wl cws) ds)))) Hc/\ys=(((m.take i).map (·.2)).map one).map V.str) (bH (by omega)) (λD hD=>⟨aF hD _,rfl⟩) (λD i ys Hc _ r h=>⟨r.1 _ _ fz2,by rw[kl];exact h⟩) (λD ys Hc _ r=>⟨r.1 _ _ fz2,kl⟩) ?_ ?_
  .rintro D i2 ys Hc x H' A' B' hD hi2 ⟨sm,rfl⟩ hDc ⟨rfl,kv,bk,hkv,rfl,hbk⟩ hA' hB';have ew2:(wl cws)[i2]?=some (wl cws)[i2]:=Ab hi2
   have ekv:kv=(bU (wl cws)[i2],V.ref (ds[i2]'(by omega))):=by
    unfold bX at hkv;rw[Fn,ew2,Ab (show i2<ds.length by omega)]at hkv
    exact(Bh hkv).symm
   rw[ekv]at hbk;have em:m[i2]?=some m[i2]:=Ab (by omega)
   have e1:m[i2].1=(wl cws)[i2]:=by
    have e0:(m.map (·.1))[i2]?=some (wl cws)[i2]:=by rw[hk];exact ew2
    rw[Am,em]at e0;exact Bh e0
   have tk:m.take (i2+1)=m.take i2++[m[i2]]:=by rw[Bn,em];rfl
   rw[tk]at hA';replace hbk:H' bk=some (.tup ((bU m[i2].1).map kV)):=by rw[e1];exact hbk
   have hval:bF (dO m) (bU m[i2].1)=some (.str (one m[i2].2)):=by
    have hm2:(m[i2].1,m[i2].2)∈m:=As em
    rw[fJ,iX hnd hm2];rfl
   clear ekv hkv ew2 tk e1 em;generalize m[i2]=mx at hbk hA' hval;have ehc:=sm _ _ eh6
   walk_at "g";refine⟨Wk.set rfl (Wk.refl _),?_⟩;walk_at "g";refine uC (k:=bU mx.1) (.inl ehc) hbk hval ?_;refine hA' _ _ hDc ⟨bJ hD sm,?_⟩;rw[Ax,Ax,Ax];rfl
  .rintro D ys Hc hD ⟨sm,rfl⟩ hDc _;rw[<-hml,Ck]at hDc;have su:=jD ec5 (λo v z=>nomatch z) sm
   have eu:=cH (Hs:=H5) hDc (λo v z=>nomatch z)
   generalize unf H5 Hc=H6 at su eu ⊢;have s06:=sh5.trans su
   refine⟨b,D,cws,m.map (·.2),rfl,aJ s06 hb,aQ eu,h8,h7,λr ps H7 hr s7 er hne hls=>?_⟩;refine q r ps (m.map (·.2)) H7 (bW s06 hr) (s06.trans s7) er hne (hls.older s06) (by rw[Ac,hml]) (λj w g hw hg=>?_) (λc=>?_)
   .rw[<-hk,Am]at hw;rw[Am]at hg;cases em:m[j]? with
    |none=>rw[em]at hw;cases hw
    |some x=>
     rw[em]at hw hg;cases hw;cases hg;exact hmc x.1 x.2 (As em)
   .rw[hn0];have h1:=hct c
    have h2:ctn (m.map (·.2)) c=ctm m c:=by
     unfold ctn ctm;rw[List.countP_map];rfl
    rw[h2];omega
def cJ9(n:Nat->Int)(cws:List (List Nat)):Prop:=∃fs:List Nat,fs.length=(wl cws).length/\(∀(j:Nat) w g,(wl cws)[j]?=some w->fs[j]?=some g->g∈chW cws w)/\∀c,(ctn fs c:Int)<=n c
def xO(x:Nat):∀ {F:List Nat},F.Nodup->(F.map λc=>if x=c then 1 else 0).sum=if x∈F then 1 else 0
 |[],_=>rfl
 |c::r,h=>by
  have n1:=Bi.mp h
  rw[Aq,Df,xO x n1.2];by_cases e:x=c
  .subst e;rw[if_pos rfl,if_neg n1.1,if_pos Al]
  .rw[if_neg e];by_cases m:x∈r
   .rw[if_pos m,if_pos (Ak _ m)]
   .rw[if_neg m,if_neg λz=>(Av.mp z).elim e m]
def xA(g h:Nat->Nat):∀F:List Nat,(F.map λc=>g c+h c).sum=(F.map g).sum+(F.map h).sum
 |[]=>rfl
 |c::r=>by
  rw[Aq,Df,xA g h r,Aq,Df,Aq,Df];omega
def xG(nd:F.Nodup):∀fs:List Nat,(F.map (ctn fs)).sum=fs.countP λx=>decide (x∈F)
 |[]=>by
  have:∀F:List Nat,(F.map (ctn [])).sum=0:=λF=>by
   induction F with
   |nil=>rfl
   |cons c r ih=>rw[Aq,Df,ih];rfl
  rw[this];rfl
 |x::r=>by
  have e:ctn (x::r)=λc=>ctn r c+if x=c then 1 else 0:=by
   funext c
   unfold ctn;rw[Dq];by_cases h:x=c
   .rw[if_pos h,if_pos (Au h)]
   .rw[if_neg h,if_neg (by rw[Bq];exact h)]
  rw[e,xA,xG nd r,xO x nd,Dq];by_cases h:x∈F
  .rw[if_pos h,if_pos (Au h)]
  .rw[if_neg h,if_neg (by rw[Bq];exact h)]
def lI{p:α->Bool}{q:β->Bool}:∀(L:List α) (M:List β),L.length=M.length->(∀(j:Nat) a b,L[j]?=some a->M[j]?=some b->p a=true->q b=true)->L.countP p<=M.countP q
 |[],_,_,_=>Cq _
 |a::L,[],h,_=>by cases h
 |a::L,b::M,h,hpq=>by
  rw[Dq,Dq];have ih:=lI L M (by simpa using h) λj x y hx hy=>hpq (j+1) x y hx hy
  have h0:=hpq 0 a b rfl rfl
  by_cases pa:p a=true
  .rw[if_pos pa,if_pos (h0 pa)];omega
  .rw[if_neg pa];omega
def tH{g h:Nat->Int}(e:∀c,g c<=h c):∀F:List Nat,(F.map g).sum<=(F.map h).sum
 |[]=>Hl _
 |c::r=>by
  rw[Aq,Df,Aq,Df];have:=tH e r
  have:=e c
  omega
def aQJ{W L:List Wt}(s:W.Sublist L):W.length<=L.countP λw=>decide (w∈W):=by
 have h:=s.countP_le (p:=λw=>decide (w∈W))
 have e:W.countP (λw=>decide (w∈W))=W.length:=List.countP_eq_length.mpr λw hw=>Au hw
 omega
def bQW{W:List Wt}(h:LackOk cws n W F):F.Nodup:=by
 obtain⟨p,rfl⟩:=h.flags;exact List.Nodup.sublist List.filter_sublist (by decide)
def rA{W:List Wt}(h:LackOk cws n W F):¬cJ9 n cws:=by
 rintro⟨fs,hl,hch,hct⟩;have h1:=aQJ h.sub
 have h2:((wl cws).countP λw=>decide (w∈W))<=fs.countP λx=>decide (x∈F):=lI _ _ hl.symm λj w g hw hg hp=>Au (h.all w (Cm hp) g (hch j w g hw hg))
 have h3:=xG (bQW h) fs
 have h4:=tH hct F
 rw[jJ (ctn fs) F]at h4;have h5:=h.few
 omega
def vC:FnScope ["_law_cell", "_law_k"] ["_law_cell", "_law_k"] (aK jU):=by walk_at "sc"
def tO(F:Fun K "_law_mixed" "_law_mixed" jU f fd)(G:Gs K mg Zo Zz Zw Zr Zs Zt Zy Zx Zq Zv Zu Zp):FnOk P w K mg base CX0 1 f fd ["_law_cell", "_law_k"] iA:=by
 refine F.ok vC (λvs H Q E h=>?_) (λcdv A outer s H vs Q E hr h=>?_)
 .obtain⟨c,k,rfl,_⟩:=h;rfl
 obtain⟨c,k,rfl,h0,h1,q⟩:=h;refine⟨_,(@aH _ _ _ (aT (aS fE (aS nQ (aS cA (aS cA (aS cA (aS fE (mv 0) aI) (aS nQ (aS nQ aI (mv 1)) (mv 1))) (mv 1)) aI) aI) aI))),?_⟩;walk_at "g";exact q _ (Dv _ (by decide))
def y6:FnScope ["_law_number", "_law_most", "_law_letters", "_law_kinds", "_law_base", "_law_word_here", "_law_k"] ["_law_number", "_law_most"] (aK lP):=by walk_at "sc"
def yG(F:Fun K "_law_word" "_law_word" lP f fd):FnOk P w K mg base CX0 1 f fd ["_law_number", "_law_most"] nM:=by
 refine F.ok y6 (λvs H Q E h=>?_) (λcdv A outer s H vs Q E hr h=>?_)
 .obtain⟨n,m,rfl,_⟩:=h;rfl
 obtain⟨n,m,rfl,h0,hm1,hm7,q⟩:=h;refine⟨_,(@aD _ _ _ _ _ (aN 2 y6.nd mH) (@aD _ _ _ _ _ (aN 3 y6.nd (@cB _ _ _ _ _ _ _ eC (@dN _ _ _ _ (aA aI (aA aI (aA aI (aA aI aE))))) (aS fE (mv 0) aI) (λ_ _=>rfl))) (@aD _ _ _ _ _ (aN 4 y6.nd (aS fE (aS pV (mv 0) aI) aI)) (@aD _ _ _ _ _ (aN 5 y6.nd mH) (@aD _ _ _ _ _ (bV Bs rfl (oQ rfl G.b_range (aA (aS cA aI (aS fE (aS pV (mv 0) aI) (mv 1))) aE)) (bA (i:=6) y6.nd rfl (Or.inl rfl)) (@aD _ _ _ _ _ (aN 0 y6.nd (aS fE (aS nQ (aS cA (aS cA (mv 0) (mv 6)) aI) aI) aI)) (@aH _ _ _ (aN 5 y6.nd (aS cA (mv 5) (cB eC (mv 2) (aS fE (aS cA (mv 4) (aS nQ (aS fE (aS pV (mv 0) aI) (mv 3)) aI)) aI) (λ_ _=>rfl))))))) (@aH _ _ _ (aT (mv 5)))))))),?_⟩;walk_at "g";refine⟨by decide,λp hp=>?_⟩
 walk_at "g";obtain⟨kn,hkn,akn⟩:=xM (ns:=[1,2,3,23]) (i:=n%4) (by omega) (by show n%4<4;omega)
 have hk:1<=kn:=(by decide:∀x∈([1,2,3,23]:List Int),1<=x) kn hkn
 have hk2:kn<=23:=(by decide:∀x∈([1,2,3,23]:List Int),x<=23) kn hkn
 refine fB (xs:=([1,2,3,23]:List Int).map V.int) dI akn ?_;have z0:=Dv (n / 92) (show m≠0 by omega)
 have z1:=Em (n / 92) (show 0<m by omega)
 walk_at "g";generalize n / 92%m=l at z0 z1 ⊢;refine⟨⟨by omega,by omega⟩,?_⟩
 have s1:Same H (upd H p (.lst [V.int 1,V.int 2,V.int 3,V.int 23])):=aF hp _
 generalize upd H p (.lst [V.int 1,V.int 2,V.int 3,V.int 23])=H1 at s1 ⊢;refine lA (λi U H'=>∃(x:Int) (cw:List Nat) (v:Option V),U=[some (.int x),some (.int m),some (.str (Str.ofString "abcdefghijklmnopqrstuvw")),some (.int kn),some (.int (n / 4%23)),some (.str (aP cw)),v]/\0<=x/\cw.length=i/\(∀d∈cw,cO d)/\H'=H1)
  ⟨n,[],none,rfl,h0,rfl,(λd hd=>nomatch hd),rfl⟩ ?_ ?_
 .rintro i U H' hi ⟨x,cw,v,rfl,hx0,hn,hL,rfl⟩;have hwl:(aP cw).length=cw.length:=cU cw
  walk_at "g";generalize (x+(0+(i:Int))+1)*69621%2147483647 / 7%kn*5=y;have y0:=Dv (n / 4%23+y) (show (23:Int)≠0 by decide)
  have y1:=Em (n / 4%23+y) (show (0:Int)<23 by decide)
  have e1:=bZI (k:=((n / 4%23+y)%23).toNat) (by omega)
  rw[show ((((n / 4%23+y)%23).toNat:Nat):Int)=(n / 4%23+y)%23 by omega]at e1
  refine oA (by decide) e1 ?_
  have h1l:(⟨#[97+((n / 4%23+y)%23).toNat]⟩:Str).length=1:=rfl
  walk_at "g";refine⟨(x+(0+(i:Int))+1)*69621%2147483647,cw++[97+((n / 4%23+y)%23).toNat],some (.int (0+(i:Int))),?_,Dv _ (show (2147483647:Int)≠0 by decide),by rw[Ar,hn];rfl,λd hd=>?_,rfl⟩
  .rw[<-yZ];rfl
  .rcases Cj.mp hd with z|z
   .exact hL d z
   .rw[Ap.mp z];exact⟨by omega,by omega⟩
 .rintro U H' ⟨x,cw,v,rfl,hx0,hn,hL,rfl⟩;walk_at "g";exact q cw _ s1 (by omega) (by omega) hL
def iN(K:W.Frag):Sp:=λvs H Q _=>∃(a:Addr) (ns:List Int) (k:Int),vs=[.ref a,.int k]/\SqL K H a (ns.map V.int)/\0<=k/\∀n:Int,Q (.int n) H
def qE:FnScope ["_law_script", "_law_k"] ["_law_script", "_law_k"] (aK fL):=by walk_at "sc"
def qA(F:Fun K "_law_cell_at" "_law_cell_at" fL f fd):FnOk P w K mg base CX0 1 f fd ["_law_script", "_law_k"] (iN K):=by
 refine F.ok qE (λvs H Q E h=>?_) (λcdv A outer s H vs Q E hr h=>?_)
 .obtain⟨a,ns,k,rfl,_⟩:=h;rfl
 obtain⟨a,ns,k,rfl,hS,h0,q⟩:=h;refine⟨_,(@aD _ _ _ _ _ (cN (bI bJP (mv 1) (aL pY rfl G.b_len cY (aA (mv 0) aE)) (bR _)) (@aH _ _ _ (aT (cB ix_list (mv 0) (mv 1) (λ_ _=>rfl)))) bN) (@aH _ _ _ (aT aI))),?_⟩;walk_at "g";refine⟨_,_,rfl,.inl hS,?_⟩;have hnl:(ns.map V.int).length=ns.length:=Ac ..
 rw[hnl];walk_at "g";refine mU (λhd=>?_) (λhd=>?_)
 .have hd':=Cm hd
  obtain⟨n,_,an⟩:=xM (ns:=ns) (i:=k) h0 hd';walk_at "g";exact cJ4 hS an (q n)
 .walk_at "g";exact q 0
def eU:Sp:=λvs H Q _=>∃(cw:List Nat) (k:Nat) (p:Int),vs=[.str (aP cw),.int p]/\p=(k:Int)+1/\k<cw.length/\cw.length<=7/\
 ∀(r:Addr) (H':Hp),H r=none->Same H H'->H' r=some (.lst (((chs cw k).map one).map V.str))->Q (.ref r) H'
def bZA:∀n:Nat,n<4->Str.ofString (toString (1+(n:Int)))=one (49+n)
 |0,_=>by decide +kernel
 |1,_=>by decide +kernel
 |2,_=>by decide +kernel
 |3,_=>by decide +kernel
 |n+4,h=>absurd h (by omega)
def t6:FnScope ["_law_word_here", "_law_place", "_law_found", "_law_n"] ["_law_word_here", "_law_place"] (aK fN):=by walk_at "sc"
def qX(F:Fun K "_law_choices" "_law_choices" fN f fd):FnOk P w K mg base CX0 1 f fd ["_law_word_here", "_law_place"] eU:=by
 refine F.ok t6 (λvs H Q E h=>?_) (λcdv A outer s H vs Q E hr h=>?_)
 .obtain⟨cw,k,p,rfl,_⟩:=h;rfl
 obtain⟨cw,k,pl,rfl,hpl,hk,h7,q⟩:=h;refine⟨_,(@aD _ _ _ _ _ (aN 2 t6.nd (dN (aA (cB eC (mv 0) (aS nI (mv 1) aI) (λ_ _=>rfl)) aE))) (@aD _ _ _ _ _ (bV Bs rfl (oJ rfl G.b_range (aA aI (aA (aL (dQJ rfl) rfl G.b_min cQ4 (aA aI (aA (mv 1) aE))) aE))) (bA (i:=3) t6.nd rfl (Or.inl rfl)) (@aH _ _ _ (cN (bI cZA (cB eC (mv 0) (aS nI (mv 3) aI) (λ_ _=>rfl)) (cB eC (mv 0) (aS nI (mv 1) aI) (λ_ _=>rfl)) (bR _)) (@aH _ _ _ (cE (eR Ct Ge Gf aJH (mv 2) (aA (bB cJ8 rfl G.b_str bJ4 (aA (mv 3) aE)) aE)))) bN))) (@aH _ _ _ (aT (mv 2))))),?_⟩;have hwl:(aP cw).length=cw.length:=cU cw
 walk_at "g";refine oA (by rw[hwl];exact bG (by omega)) (iZ (k:=k) (by omega) hk) ?_
 walk_at "g";refine⟨by show 1<=sizeLine;decide,λp hp=>?_⟩
 walk_at "g";have em:(if pl<(5:Int) then pl else 5)=1+((min k 4:Nat):Int):=by split<;>omega
 rw[em];refine⟨⟨by omega,by omega,by omega,by omega⟩,?_⟩
 rw[show (1+((min k 4:Nat):Int)-1).toNat=min k 4 by omega]
 refine lA (λi U H'=>∃v,U=[some (.str (aP cw)),some (.int pl),some (.ref p),v]/\Same H H'/\H' p=some (.lst (((cw.getD k 0::(List.range i).filterMap (chF cw k)).map one).map V.str)))
  ⟨none,rfl,aF hp _,aB⟩ ?_ ?_
 .rintro i U H' hi ⟨v,rfl,sm,hH⟩;have hi2:i<min k 4:=hi
  have hm:=cS hH
  have hlen:((((cw.getD k 0::(List.range i).filterMap (chF cw k)).map one).map V.str)).length<sizeLine:=by
   have:=Ea (chF cw k) (List.range i)
   rw[Cu]at this;rw[Ac,Ac,Bj];exact bH (by omega)
  walk_at "g";refine oA (by rw[hwl];exact bG (by omega)) (iZ (k:=i) (by omega) (by omega)) ?_
  walk_at "g";refine oA (by rw[hwl];exact bG (by omega)) (iZ (k:=k) (by omega) hk) ?_
  walk_at "g";rw[show decide (({cps:=#[cw.getD i 0]}:Str)={cps:=#[cw.getD k 0]})=decide (cw.getD i 0=cw.getD k 0) from pS _ _];refine mU (λhc=>?_) (λhc=>?_)
  .have he:=Cm hc
   walk_at "g"
   refine s_str (by have : (1 + (i : Int)).natAbs = 1 + i := by omega
                    rw[this];exact Nat.lt_of_le_of_lt (Nat.log2_le_self _) (by omega)) ?_
   rw[bZA i (by omega)]
   walk_at "g";refine⟨_,rfl,bJ hp sm,?_⟩;rw[aB,mR (F:=chF cw k) (if_pos he),<-List.cons_append,Ax,Ax];rfl
  .have he:=En (Dt.mpr hc)
   walk_at "g";refine⟨_,rfl,sm,?_⟩;rw[hH,mS (F:=chF cw k) (if_neg he)]
 .rintro U H' ⟨v,rfl,sm,hH⟩;walk_at "g";exact q p H' hp sm hH
def lV{cws:Q5}:∀i,i<=cws.length->(wlP cws i).length=cJ cws i
 |0,_=>rfl
 |i+1,h=>by
  have e:cws[i]?=some cws[i]:=Ab (by omega)
  rw[fM,Ar,lV i (by omega),jI e]
  unfold gO;rw[Ac,Cu,Ah,e];rfl
def dQX(hi:cws[i]?=some cw)(hk:k<cw.length):(wl cws)[cJ cws i+k]?=some (i,1+k):=by
 have hil:=(Af.mp hi).1
 have h:∀n,i<n->n<=cws.length->(wlP cws n)[cJ cws i+k]?=some (i,1+k):=λn=>by
  induction n with
  |zero=>intro h;omega
  |succ n ih=>
   intro h1 h2;rw[fM];by_cases hn:i=n
   .subst hn;have e:=lV (cws:=cws) i (by omega)
    rw[Bp (by omega),show cJ cws i+k-(wlP cws i).length=k by omega]
    unfold gO;rw[Am,Ah,hi];show ((List.range cw.length)[k]?).map _=_
    rw[List.getElem?_range hk];rfl
   .have r:=ih (by omega) (by omega)
    rw[Bd (Af.mp r).1];exact r
 exact h cws.length hil (Ai _)
def aXV{fs:List Nat}(h:fs[j]?=some g)(c:Nat):ctn (fs.take (j+1)) c=ctn (fs.take j) c+if c=g then 1 else 0:=by
 unfold ctn;rw[Bn,h,List.countP_append];show _+List.countP _ [g]=_
 rw[List.countP_singleton];by_cases z:c=g
 .rw[if_pos z,if_pos (Au z.symm)]
 .rw[if_neg z,if_neg (by rw[Bq];exact λy=>z y.symm)]
def lH:Sp:=λvs H Q _=>∃(a b r:Addr) (kvs:List (Key×V)) (f:Nat->Option Int) (cws:List (List Nat)) (ps:List Addr) (fs:List Nat) (H0:Hp),vs=[.ref a,.ref b,.ref r]/\H a=some (.dK kvs)/\Lk kvs f/\rdL H b=some ((cws.map aP).map V.str)/\cws.length<=8/\(∀c∈cws,c.length<=7)/\
 H r=some (.lst (ps.map V.ref))/\Lsts H0 H ps ((List.range cws.length).map (fG cws fs))/\fs.length=(wl cws).length/\(∀(j:Nat) w g,(wl cws)[j]?=some w->fs[j]?=some g->g∈chW cws w)/\(∀c,(ctn fs c:Int)<=aO f c)/\∀H',Same H H'->Q (.bl true) H'
def x6:FnScope ["_law_locker_here", "_law_words_here", "_law_hoists", "_law_used", "_law_word_here", "_law_hoist", "_law_k", "_law_flag"] ["_law_locker_here", "_law_words_here", "_law_hoists"] (aK jR):=by walk_at "sc"
def tZ(F:Fun K "_law_hangs" "_law_hangs" jR f fd)(z6:Cal P w K mg base 1 "_law_choices" ["_law_word_here", "_law_place"] eU):FnOk P w K mg base CX0 2 f fd ["_law_locker_here", "_law_words_here", "_law_hoists"] lH:=by
 refine F.ok x6 (λvs H Q E h=>?_) (λcdv A outer s H vs Q E hr h=>?_)
 .obtain⟨a,b,r,kvs,f,cws,ps,fs,H0,rfl,_⟩:=h;rfl
 obtain⟨a,b,r,kvs,f,cws,ps,fs,H0,rfl,ha,lk,hb,h8,h7,her,hls,hfl,hch,hct,q⟩:=h;refine⟨_,(@aD _ _ _ _ _ (cN (PW.pt (cT (iB (bC (aL rZ rfl G.b_isinstance aM (aA (mv 2) (aA (jM rfl G.b_list cI) aE))))) (dG (bI cZX (aL fR rfl G.b_len cY (aA (mv 2) aE)) (aL fR rfl G.b_len cY (aA (mv 1) aE)) (bR _))))) (@aH _ _ _ (aT dA)) bN) (@aD _ _ _ _ _ (aN 3 x6.nd iL) (@aD _ _ _ _ _ (bV Bs rfl (cXT rfl G.b_zip (aA (mv 1) (aA (mv 2) aE))) (iO (K:=K) (i:=4) (j:=5) (by rfl) (by rfl) x6.nd (by rfl) (by exact(Or.inl rfl)) (by exact Or.inl rfl) (by rfl) (by exact(Or.inl rfl)) (by exact Or.inl rfl)) (@aD _ _ _ _ _ (cN (PW.pt (cT (iB (bC (aL rZ rfl G.b_isinstance aM (aA (mv 5) (aA (jM rfl G.b_list cI) aE))))) (dG (bI cZX (aL fR rfl G.b_len cY (aA (mv 5) aE)) (aL fR rfl G.b_len cY (aA (mv 4) aE)) (bR _))))) (@aH _ _ _ (aT dA)) bN) (@aH _ _ _ (bV Bs rfl (pR rfl G.b_enumerate (aA (mv 5) aE)) (iO (K:=K) (i:=6) (j:=7) (by rfl) (by rfl) x6.nd (by rfl) (by exact(Or.inl rfl)) (by exact Or.inl rfl) (by rfl) (by exact(Or.inl rfl)) (by exact Or.inl rfl)) (@aD _ _ _ _ _ (cN (bI rX (mv 7) (bO z6 hr (by decide) rfl (aA (mv 4) (aA (aS cA (mv 6) aI) aE))) (by rfl)) (@aH _ _ _ (aT dA)) bN) (@aH _ _ _ (eQ (Room.u1 hr) (mv 3) (mv 7) (aS cA (dJ Cc Dk (sL (Room.u1 hr)) (mv 3) (aA (mv 7) (aA aI aE))) aI) rfl))))))) (@aD _ _ _ _ _ (qT (bV Bs rfl (xQ (mv 3)) (bA (i:=7) x6.nd rfl (Or.inl rfl)) (@aH _ _ _ (cN (bI bX1 (eX (Room.u1 hr) (mv 3) (mv 7) (λ_ _=>rfl)) (dJ Cc Dk (sL (Room.u1 hr)) (mv 0) (aA (mv 7) (aA aI aE))) (bR _)) (@aH _ _ _ (aT dA)) bN)))) (@aH _ _ _ (aT dA)))))),?_⟩
 have hll:((cws.map aP).map V.str).length=cws.length:=by rw[Ac,Ac]
 have hpl:ps.length=cws.length:=by rw[hls.1,Ac,Cu]
 have hpl2:(ps.map V.ref).length=cws.length:=by rw[Ac,hpl]
 have rr:=aQ her
 have hfo:fs.length=cJ cws cws.length:=by rw[hfl];exact lV _ (Ai _)
 have hf56:fs.length<=56:=by rw[hfl];exact Bf (kN h7 _) (by omega)
 walk_at "g";rw[hll,hpl2,Au rfl];walk_at "g";intro pu hpu;have s1:=aF hpu (.dK [])
 have e1:(upd H pu (.dK [])) pu=_:=aB
 generalize upd H pu (.dK [])=H1 at s1 e1 ⊢;have hb1:=aJ s1 hb
 have rr1:=aJ s1 rr
 walk_at "g";refine bJR (xs:=(cws.map aP).map V.str) (ys:=ps.map V.ref) (λi U H'=>∃(kvu:List (Key×V)) (g:Nat->Option Int) (v4 v5 v6 v7:Option V),U=[some (.ref a),some (.ref b),some (.ref r),some (.ref pu),v4,v5,v6,v7]/\Same H H'/\H' pu=some (.dK kvu)/\Lk kvu g/\kvu.length<=cJ cws i/\∀c,aO g c=(ctn (fs.take (cJ cws i)) c:Int))
  ⟨[],_,_,_,_,_,rfl,s1,e1,.nil,Ai _,λc=>rfl⟩ (λi U H' _ _ ⟨_,_,_,_,_,_,_,e,_⟩=>⟨aJ e hb,aJ e rr⟩) ?_ ?_
 .rintro i x y U H2 pt hx hy ⟨kvu,g,v4,v5,v6,v7,rfl,s2,eu,lu,hul,hg⟩ hpt;have hi:i<cws.length:=by have:=(Af.mp hx).1;rw[hll]at this;exact this
  obtain⟨cw,hcw,hm,rfl⟩:=lS hx;have hc7:=h7 cw hm
  have hwl:(aP cw).length=cw.length:=cU cw
  have ho1:=jI hcw
  have ho2:=bZF (cws:=cws) (i:=i+1) hi
  rw[Am]at hy;obtain⟨hp,ehp⟩:∃p,ps[i]?=some p:=⟨_,Ab (by omega)⟩
  rw[ehp]at hy;cases hy;have hrow_e:fG cws fs i=(((fs.drop (cJ cws i)).take cw.length).map one).map V.str:=by
   unfold fG;rw[Ah,hcw];rfl
  have hhp:=(hls.2 i hp (fG cws fs i) ehp (by rw[Am,List.getElem?_range hi];rfl)).2
  rw[hrow_e]at hhp;have hrl:((((fs.drop (cJ cws i)).take cw.length).map one).map V.str).length=cw.length:=by rw[Ac,Ac,Bt,Ei];omega
  have s3:=s2.trans (aF hpt (.tup [.str (aP cw),.ref hp]))
  have eu3:=aF hpt (.tup [.str (aP cw),.ref hp]) _ _ eu
  have et3:(upd H2 pt (.tup [.str (aP cw),.ref hp])) pt=_:=aB
  generalize upd H2 pt (.tup [.str (aP cw),.ref hp])=H3 at s3 eu3 et3 ⊢;have hhp3:=s3 _ _ hhp
  have rh3:=aQ hhp3
  have tt3:=gH et3
  walk_at "g";rw[hwl,hrl,Au rfl];walk_at "g";refine pQ (xs:=(((fs.drop (cJ cws i)).take cw.length).map one).map V.str) (λk U H'=>∃(kvu:List (Key×V)) (g:Nat->Option Int) (v6 v7:Option V),U=[some (.ref a),some (.ref b),some (.ref r),some (.ref pu),some (.str (aP cw)),some (.ref hp),v6,v7]/\Same H H'/\H' pu=some (.dK kvu)/\Lk kvu g/\kvu.length<=cJ cws i+k/\∀c,aO g c=(ctn (fs.take (cJ cws i+k)) c:Int))
   ⟨kvu,g,_,_,rfl,s3,eu3,lu,hul,hg⟩ (λk U H' _ ⟨_,_,_,_,_,e,_⟩=>aJ e (aQ hhp)) ?_ ?_
  .rintro k x U H4 pk hx ⟨kvu,g,v6,v7,rfl,s4,eu4,lu,hul,hg⟩ hpk;have hk:k<cw.length:=by have:=(Af.mp hx).1;rw[hrl]at this;exact this
   obtain⟨d,hd⟩:∃d,fs[cJ cws i+k]?=some d:=⟨_,Ab (by omega)⟩
   have ex:x=.str (one d):=by
    rw[Am,Am,List.getElem?_take,if_pos hk,List.getElem?_drop,hd]at hx;exact(Bh hx).symm
   subst ex;have hdc:=hch _ _ _ (dQX hcw hk) hd
   replace hdc:d∈chs cw k:=by
    unfold chW at hdc;rw[Ah,hcw,show (i,1+k).2-1=k by show 1+k-1=k;omega]at hdc
    exact hdc
   have s5:=s4.trans (aF hpk (.tup [.int ((0+k:Nat):Int),.str (one d)]))
   have eu5:=aF hpk (.tup [.int ((0+k:Nat):Int),.str (one d)]) _ _ eu4
   have et5:(upd H4 pk (.tup [.int ((0+k:Nat):Int),.str (one d)])) pk=_:=aB
   generalize upd H4 pk (.tup [.int ((0+k:Nat):Int),.str (one d)])=H5 at s5 eu5 et5 ⊢;have tt5:=gH et5
   walk_at "g";refine⟨cw,k,_,rfl,by omega,hk,hc7,λrc H6 hrc s6 er6=>?_⟩
   refine aJS (neg:=true) (aQ er6) rfl (dW _) ?_;rw[rN,Au hdc,show (if true=true then !true else true)=false from rfl]
   have eu6:=s6 _ _ eu5
   have hdu6:=eK eu6
   walk_at "g";refine sB (z:=one d) (.inl eu6) ?_;rw[lu.val d,iJ];walk_at "g";refine jH (z:=one d) eu6 (bH (by omega)) ?_
   refine⟨_,_,_,_,rfl,bJ hpu (s5.trans s6),aB,lu.put d _,?_,λc=>?_⟩
   .have:=dU kvu (Sum.inr (one d)) (.int (aO g d+1))
    omega
   .rw[show cJ cws i+(k+1)=cJ cws i+k+1 by omega,aXV hd c]
    have h1:=hg c
    show ((if c=d then some (aO g d+1) else g c):Option Int).getD 0=_
    by_cases z:c=d
    .subst z;rw[if_pos rfl,if_pos rfl];show aO g c+1=_
     omega
    .rw[if_neg z,if_neg z];exact h1
  .rintro U H4 ⟨kvu,g,v6,v7,rfl,s4,eu4,lu,hul,hg⟩;rw[hrl]at hul hg;rw[<-ho1]at hul hg;walk_at "g";exact⟨kvu,g,_,_,_,_,rfl,s4,eu4,lu,hul,hg⟩
 .rintro U H2 ⟨kvu,g,v4,v5,v6,v7,rfl,s2,eu,lu,hul,hg⟩;rw[hll,hpl2,Nat.min_self]at hul hg;rw[<-hfo,Ck]at hg;walk_at "g";refine aZL eu λo=>?_;have fz:(upd H2 pu (.frz o (.dK kvu))) pu=_:=aB
  have nau:a≠pu:=λz=>by rw[z,hpu]at ha;cases ha
  have ha2:(upd H2 pu (.frz o (.dK kvu))) a=_:=(aG nau).trans (s2 _ _ ha)
  refine bX7 (λi U H'=>∃(v4 v5 v6 v7:Option V),U=[some (.ref a),some (.ref b),some (.ref r),some (.ref pu),v4,v5,v6,v7]/\H'=upd H2 pu (.frz o (.dK kvu)))
   ⟨_,_,_,_,rfl,rfl⟩ (λi U H' _ ⟨_,_,_,_,_,e⟩=>by rw[e];exact fz) ?_ ?_
  .rintro i kv U H3 hkv ⟨v4,v5,v6,v7,rfl,rfl⟩;obtain⟨c,n1,ekv,hn1⟩:=lu.at_mem (As hkv);have hcn:aO g c=n1:=by unfold aO;rw[hn1];rfl
   rw[ekv];dsimp only[kV];have hdu:=vS fz
   have hda:=eK ha2
   walk_at "g";refine qF (z:=one c) (.inr ⟨o,fz⟩) (by rw[lu.val c,hn1];rfl) ?_
   walk_at "g";refine sB (z:=one c) (.inl ha2) ?_;rw[lk.val c,iJ];have h1:=hct c
   have h2:=hg c
   walk_at "g";rw[show decide (n1>aO f c)=false from Bb (by omega)]
   walk_at "g";exact⟨_,_,_,_,rfl,rfl⟩
  .rintro U H3 ⟨v4,v5,v6,v7,rfl,rfl⟩;have su:=jD eu (λo v z=>nomatch z) (Same.refl (upd H2 pu (.frz o (.dK kvu))))
   unfold aQE;dsimp only;generalize unf H2 (upd H2 pu (.frz o (.dK kvu)))=H4 at su ⊢;walk_at "g";exact q _ (s2.trans su)
def oC(sep:Array Nat):∀(ys:List Str) (acc:Array Nat),(ys.foldl (λacc p=>acc++sep++p.cps) acc).toList=acc.toList++(ys.map λy=>sep.toList++y.cps.toList).flatten
 |[],acc=>by simp
 |y::r,acc=>by
  rw[List.foldl_cons,oC sep r];simp
def aQ0(sep y:Str)(r:List Str):(Txt.join sep (y::r)).cps.toList=y.cps.toList++(r.map λy=>sep.cps.toList++y.cps.toList).flatten:=by
 have e:=oC sep.cps r y.cps
 rw[<-e];rfl
def bQX{sep:Str}{n:Nat}:∀ {L:List Str},(∀z∈L,z.length<=n)->(Txt.join sep L).length<=(n+sep.length)*L.length
 |[],_=>Cq _
 |y::r,h=>by
  have hl:∀r:List Str,(∀z∈r,z.length<=n)->(r.map λy=>sep.cps.toList++y.cps.toList).flatten.length<=(n+sep.length)*r.length:=λr h=>by
   induction r with
   |nil=>exact Ai _
   |cons u v ih=>
    rw[Aq,List.flatten_cons,Ar,Ar,Bj,cP,cP];have h1:=h u Al
    have h2:=ih λx hx=>h x (Ak _ hx)
    rw[Nat.mul_succ];omega
  rw[<-cP,aQ0,Ar,cP,Bj,Nat.mul_succ];have h1:=h y Al
  have h2:=hl r λx hx=>h x (Ak _ hx)
  omega
def WOk(cws:List (List Nat)):Prop:=∀c∈cws,1<=c.length/\c.length<=7/\∀d∈c,cO d
def aJZ{p:α->Prop}{l:List α}{x:α}(h:∀y∈l,p y)(hx:p x):∀y∈l++[x],p y:=λy hy=>(Cj.mp hy).elim (h y) λe=>by rw[Ap.mp e];exact hx
def mD:Sp:=λvs H Q _=>∃(a:Addr) (ns:List Int) (m:Int),vs=[.ref a,.int m]/\rdL H a=some (ns.map V.int)/\ns.length<=8/\1<=m/\m<=7/\
 ∀(r:Addr) (cws:Q5) (H':Hp),H r=none->Same H H'->H' r=some (.lst ((cws.map aP).map V.str))->cws.length=ns.length->WOk cws->Q (.ref r) H'
def t7:FnScope ["_law_cells", "_law_most", "_law_words_here", "_law_k", "_law_cell"] ["_law_cells", "_law_most"] (aK jQ):=by walk_at "sc"
def uD(F:Fun K "_law_words" "_law_words" jQ f fd)(t8:Cal P w K mg base 1 "_law_word" ["_law_number", "_law_most"] nM)(z7:Cal P w K mg base 1 "_law_mixed" ["_law_cell", "_law_k"] iA):FnOk P w K mg base CX0 2 f fd ["_law_cells", "_law_most"] mD:=by
 refine F.ok t7 (λvs H Q E h=>?_) (λcdv A outer s H vs Q E hr h=>?_)
 .obtain⟨a,ns,m,rfl,_⟩:=h;rfl
 obtain⟨a,ns,m,rfl,ha,hl8,hm1,hm7,q⟩:=h;refine⟨_,(@aD _ _ _ _ _ (aN 2 t7.nd (dN aE)) (@aD _ _ _ _ _ (bV Bs rfl (pR rfl G.b_enumerate (aA (mv 0) aE)) (iO (K:=K) (i:=3) (j:=4) (by rfl) (by rfl) t7.nd (by rfl) (by exact(Or.inl rfl)) (by exact Or.inl rfl) (by rfl) (by exact(Or.inl rfl)) (by exact Or.inl rfl)) (@aH _ _ _ (cE (eR Ct Ge Gf aJH (mv 2) (aA (bO t8 hr (by decide) rfl (aA (bO z7 hr (by decide) rfl (aA (mv 4) (aA (mv 3) aE))) (aA (mv 1) aE))) aE))))) (@aH _ _ _ (aT (mv 2))))),?_⟩
 have hnl:(ns.map V.int).length=ns.length:=Ac ..
 walk_at "g";refine⟨by decide,λp hp=>?_⟩
 have ha1:=aJ (aF hp (.lst [])) ha
 walk_at "g";refine pQ (xs:=ns.map V.int) (λi U H'=>∃(cws:Q5) (v3 v4:Option V),U=[some (.ref a),some (.int m),some (.ref p),v3,v4]/\Same H H'/\H' p=some (.lst ((cws.map aP).map V.str))/\cws.length=i/\WOk cws)
  ⟨[],_,_,rfl,aF hp _,aB,rfl,λc hc=>nomatch hc⟩ (λi U H' _ ⟨_,_,_,_,e,_⟩=>aJ e ha) ?_ ?_
 .rintro i x U H2 pt hx ⟨cws,v3,v4,rfl,s2,ep,hcl,hw⟩ hpt;have hi:i<ns.length:=by have:=(Af.mp hx).1;omega
  obtain⟨c,_,rfl⟩:=vH hx;have s3:=s2.trans (aF hpt (.tup [.int ((0+i:Nat):Int),.int c]))
  have ep3:=aF hpt (.tup [.int ((0+i:Nat):Int),.int c]) _ _ ep
  have et3:(upd H2 pt (.tup [.int ((0+i:Nat):Int),.int c])) pt=_:=aB
  generalize upd H2 pt (.tup [.int ((0+i:Nat):Int),.int c])=H3 at s3 ep3 et3 ⊢;have tt3:=gH et3
  walk_at "g";refine⟨c,_,rfl,by omega,by omega,λn hn=>?_⟩
  walk_at "g";refine⟨n,m,rfl,hn,hm1,hm7,λcw H4 s4 h1 h7 hL=>?_⟩;have ep4:=s4 _ _ ep3
  have hm4:=cS ep4
  have hl4:((cws.map aP).map V.str).length<=8:=by rw[Ac,Ac];omega
  walk_at "g";exact⟨cws++[cw],_,_,rfl,bJ hp (s3.trans s4),by rw[aB,Ax,Ax];rfl,by rw[Ar,hcl];rfl,aJZ hw ⟨h1,h7,hL⟩⟩
 .rintro U H2 ⟨cws,v3,v4,rfl,s2,ep,hcl,hw⟩;walk_at "g";exact q p cws H2 hp s2 ep (by omega) hw
def kA:Sp:=λvs H Q _=>∃(c:Int) (b:Addr) (cws:List (List Nat)),vs=[.int c,.ref b]/\rdL H b=some ((cws.map aP).map V.str)/\cws.length<=8/\(∀c∈cws,c.length<=7)/\
 ∀(p:Addr) (kvs:List (Key×V)) (f:Nat->Option Int) (H':Hp),H p=none->Same H H'->H' p=some (.dK kvs)->Lk kvs f->kvs.length<=62->(∀c,0<=aO f c/\aO f c<=9)->Q (.ref p) H'
def z8:FnScope ["_law_cell", "_law_words_here", "_law_number", "_law_most", "_law_locker_here", "_law_flag"] ["_law_cell", "_law_words_here"] (aK hZ):=by walk_at "sc"
def sT(F:Fun K "_law_locker" "_law_locker" hZ f fd)(G:Gs K mg Zo Zz Zw Zr Zs Zt Zy Zx Zq Zv Zu Zp)(z7:Cal P w K mg base 1 "_law_mixed" ["_law_cell", "_law_k"] iA):FnOk P w K mg base CX0 2 f fd ["_law_cell", "_law_words_here"] kA:=by
 refine F.ok z8 (λvs H Q E h=>?_) (λcdv A outer s H vs Q E hr h=>?_)
 .obtain⟨c,b,cws,rfl,_⟩:=h;rfl
 obtain⟨c,b,cws,rfl,hb,h8,h7,q⟩:=h;refine⟨_,(@aD _ _ _ _ _ (aN 2 z8.nd (bO z7 hr (by decide) rfl (aA (mv 0) (aA aI aE)))) (@aD _ _ _ _ _ (aN 3 z8.nd (aS cA aI (aS fE (mv 2) aI))) (@aD _ _ _ _ _ (aN 4 z8.nd iL) (@aD _ _ _ _ _ (bV Bs rfl (qB (aS cA (eR PySem.F.plainAttrs_str PySem.F.slot_str_join PySem.F.type_str_join cXL mH (aA (mv 1) aE)) mH)) (bA (i:=5) z8.nd rfl (Or.inl rfl)) (@aD _ _ _ _ _ (aN 2 z8.nd (aS fE (aS nQ (aS cA (mv 2) aI) aI) aI)) (@aH _ _ _ (eQ (Room.u1 hr) (mv 4) (mv 5) (aS fE (aS pV (mv 2) aI) (aS cA (mv 3) aI)) rfl)))) (@aH _ _ _ (aT (mv 4))))))),?_⟩
 walk_at "g";refine⟨c,90,rfl,by omega,by omega,λn hn=>?_⟩
 have y0:=Dv n (show (9:Int)≠0 by decide)
 have y1:=Em n (show (0:Int)<9 by decide)
 walk_at "g";generalize n%9=n9 at y0 y1 ⊢;intro pd hpd;have s1:=aF hpd (HO.dK [])
 have e1:(upd H pd (HO.dK [])) pd=some (.dK []):=aB
 generalize upd H pd (HO.dK [])=H1 at s1 e1 ⊢;have hb1:=aJ s1 hb
 have hw7:∀z∈cws.map aP,z.length<=7:=λz hz=>by
  obtain⟨c,hc,rfl⟩:=Bc.mp hz;rw[cU];exact h7 c hc
 have hjl:(Txt.join (Str.ofString "") (cws.map aP)).length<=56:=by
  have:=bQX (sep:=Str.ofString "") (n:=7) (L:=cws.map aP) hw7
  rw[Ac,show (Str.ofString "").length=0 from rfl]at this;omega
 have hsum:((cws.map aP).map (·.length)).sum<=7*(cws.map aP).length:=by
  generalize cws.map aP=L at hw7;induction L with
  |nil=>exact Ai _
  |cons u v ih=>
   have h1:=hw7 u Al
   have h2:=ih λx hx=>hw7 x (Ak _ hx)
   rw[Aq,Df,Bj];omega
 rw[Ac]at hsum;walk_at "g";refine cQZ (ss:=cws.map aP) hb1 (by rw[show (Str.ofString "").length=0 from rfl];omega) ?_
 have h12:(Str.ofString "1234aw").length=6:=rfl
 walk_at "g";have htl:(Txt.join (Str.ofString "") (cws.map aP)++Str.ofString "1234aw").length<=62:=by rw[Str.length_append];omega
 generalize Txt.join (Str.ofString "") (cws.map aP)++Str.ofString "1234aw"=zz at htl ⊢;refine aXC (λi U H'=>∃(n':Int) (kvs:List (Key×V)) (f:Nat->Option Int) (v5:Option V),U=[some (.int c),some (.ref b),some (.int n'),some (.int (1+n9)),some (.ref pd),v5]/\0<=n'/\Same H H'/\H' pd=some (.dK kvs)/\Lk kvs f/\kvs.length<=i/\∀c,0<=aO f c/\aO f c<=9)
  ⟨n,[],_,_,rfl,hn,s1,e1,.nil,Ai _,λc=>⟨Hl _,(by decide:(0:Int)<=9)⟩⟩ ?_ ?_
 .rintro i d U H2 hd ⟨n',kvs,f,v5,rfl,hn',s2,e2,lk,hkl,hf⟩;have hi':i<62:=by have:=(Af.mp hd).1;rw[cP]at this;omega
  have x0:=Dv ((n'+11)*69621) (show (2147483647:Int)≠0 by decide)
  walk_at "g";generalize (n'+11)*69621%2147483647=n'' at x0 ⊢;have x1:=Dv (n'' / 7) (show 1+n9+1≠0 by omega)
  have x2:=Em (n'' / 7) (show 0<1+n9+1 by omega)
  walk_at "g";refine jH (z:=one d) e2 (bH (by omega)) ?_
  refine⟨n'',_,_,_,rfl,x0,bJ hpd s2,aB,lk.put d _,?_,λc=>?_⟩
  .have:=dU kvs (Sum.inr (one d)) (.int (n'' / 7%(1+n9+1)))
   omega
  .show 0<=((if c=d then some (n'' / 7%(1+n9+1)) else f c):Option Int).getD 0/\((if c=d then some (n'' / 7%(1+n9+1)) else f c):Option Int).getD 0<=9
   by_cases z:c=d
   .rw[if_pos z];exact⟨x1,by show n'' / 7%(1+n9+1)<=9;omega⟩
   .rw[if_neg z];exact hf c
 .rintro U H2 ⟨n',kvs,f,v5,rfl,hn',s2,e2,lk,hkl,hf⟩;rw[cP]at hkl;walk_at "g";exact q pd kvs f H2 hpd s2 e2 lk (by omega) hf
def qK(h:((F.map one).map V.str)[j]?=some x):∃d,F[j]?=some d/\x=.str (one d):=by
 rw[Am,Am]at h;cases e:F[j]? with
 |none=>rw[e]at h;cases h
 |some d=>rw[e]at h;cases h;exact⟨d,rfl,rfl⟩
def qV{ps:List Addr}(h:(ps.map V.ref)[j]?=some x):∃p,ps[j]?=some p/\x=.ref p:=by
 rw[Am]at h;cases e:ps[j]? with
 |none=>rw[e]at h;cases h
 |some p=>rw[e]at h;cases h;exact⟨p,rfl,rfl⟩
def wN(F:List Nat)(g:Nat->Int)(n:Nat):(List.range n).filterMap (λj=>(F[j]?).map λc=>V.int (g c))=((F.take n).map g).map V.int:=by
 rw[Cv];induction n with
 |zero=>rfl
 |succ n ih=>
  rw[Dp,Ci,ih,Bn,Ax];congr 1
  cases e:F[n]? with
  |none=>simp[e]
  |some c=>simp[e]
def rW{f:Nat->Option Int}(hf0:∀c,0<=aO f c)(c:Nat):aO (bP (aO f)) c<=aO f c:=by
 show (bP (aO f) c).getD 0<=_
 unfold bP;split
 .exact Hl _
 .exact hf0 c
def LackOk.plain{f:Nat->Option Int}{W:List Wt}(hf0:∀c,0<=aO f c)(h:LackOk cws (aO (bP (aO f))) W F):LackOk cws (aO f) W F:=by
 refine⟨h.sub,h.flags,h.all,?_⟩;have e:F.map (aO f)=F.map (aO (bP (aO f))):=Cs λc hc=>by
  obtain⟨p,hp⟩:=h.flags;rw[hp]at hc;exact(zO (flags_mem.mp (Du.mp hc).1) (hf0 c)).symm
 rw[e];exact h.few
def fIx(c:Nat):Nat:=flagsT.cps.toList.idxOf c
def bQD:flagsT.cps.toList.map fIx=List.range 27:=by decide +kernel
def bXN:∀c∈flagsT.cps.toList,Txt.find flagsT (one c)=((fIx c:Nat):Int):=by decide +kernel
def bX9{p:Nat->Bool}(h:F=flagsT.cps.toList.filter p):(F.map fIx).Pairwise (· < ·)/\(∀k∈F.map fIx,k<27)/\F.length<=27:=by
 have s:(F.map fIx).Sublist (List.range 27):=by
  rw[<-bQD,h];exact List.filter_sublist.map fIx
 refine⟨List.pairwise_lt_range.sublist s,λk hk=>Bo.mp (s.subset hk),?_⟩;have:=s.length_le
 rw[Ac,Cu]at this;exact this
def aZO(cws:Q5):∀i,(∀c∈cws,c.length<=7)->(wlP cws i).Pairwise λa b=>a.1*8+a.2<b.1*8+b.2
 |0,_=>List.Pairwise.nil
 |i+1,h7=>by
  rw[fM];refine List.pairwise_append.mpr ⟨aZO cws i h7,?_,λa ha b hb=>?_⟩
  .unfold gO;refine Ee.mpr (Fk.imp fun {a b} h=>?_);show i*8+(1+a)<i*8+(1+b)
   omega
  .obtain ⟨h1,h2,h3⟩:=wlP_mem.mp ha;have ha7:(cws.getD a.1 []).length<=7:=by
    by_cases z:a.1<cws.length
    .rw[Ah,Ab z];exact h7 _ (Bu z)
    .rw[Ah,List.getElem?_eq_none (by omega)]
     exact Cq _
   unfold gO at hb;obtain⟨k,_,rfl⟩:=Bc.mp hb;show _<i*8+(1+k)
   omega
def aZI:∀ {rs:List Addr} {W:List Wt},WtsAt H rs W->(W.Pairwise λa b=>a.1*8+a.2<b.1*8+b.2)->rs.Pairwise λx y=>rkH H x<rkH H y
 |[],[],_,_=>.nil
 |[],_::_,h,_=>by cases h.1
 |_::_,[],h,_=>by cases h.1
 |r::rs,w::W,h,hp=>by
  obtain⟨h1,h2⟩:=Gk.mp hp;have ht:WtsAt H rs W:=⟨by simpa using h.1,λj r' w' hr hw=>h.2 (j+1) r' w' hr hw⟩
  have e0:rkH H r=w.1*8+w.2:=aQ4 (h.2 0 r w rfl rfl)
  refine Gk.mpr ⟨λy hy=>?_,aZI ht h2⟩;obtain⟨j,hj⟩:=Eo.mp hy;have hjl:=(Af.mp hj).1
  have hl:=ht.1
  have ew:W[j]?=some W[j]:=Ab (by omega)
  rw[e0,aQ4 (ht.2 j y _ hj ew)];exact h1 _ (Bu _)
def iC:Sp:=λvs H Q _=>∃(a b l1 l2:Addr) (kvs:List (Key×V)) (f:Nat->Option Int) (cws:List (List Nat)) (rs:List Addr) (W:List Wt) (F:List Nat),vs=[.ref a,.ref b,.ref l1,.ref l2]/\H a=some (.dK kvs)/\Lk kvs f/\(∀c,0<=aO f c/\aO f c<=1000)/\rdL H b=some ((cws.map aP).map V.str)/\cws.length<=8/\(∀c∈cws,c.length<=7)/\
 H l1=some (.lst (rs.map V.ref))/\WtsAt H rs W/\H l2=some (.lst ((F.map one).map V.str))/\LackOk cws (aO f) W F/\∀H',Same H H'->Q (.bl true) H'
def bQ7{ks:List Nat}:inV (V.int (-1)) (ks.map λk=>V.int ((k:Nat):Int))=false:=by
 unfold inV;rw[List.any_eq_false];intro x hx;obtain⟨k,_,rfl⟩:=Bc.mp hx;show ¬(((k:Nat):Int) == -1)=true
 rw[He];omega
def kR(ks:List Nat):(ks.map λk=>V.int ((k:Nat):Int)).all bD=true:=by
 rw[Fg];intro x hx;obtain⟨k,_,rfl⟩:=Bc.mp hx;rfl
def bXH(ks:List Nat):gL (ks.map λk=>V.int ((k:Nat):Int)) (ks.map λk=>V.int ((k:Nat):Int))=true:=by
 rw[jS rfl,Fg];intro j hj;exact fU (eF (kR ks) j)
def x9:FnScope ["_law_locker_here", "_law_words_here", "_law_wants", "_law_flags", "_law_order", "_law_number", "_law_place", "_law_flag"] ["_law_locker_here", "_law_words_here", "_law_wants", "_law_flags"] (aK gJ):=by walk_at "sc"
def tM(F:Fun K "_law_lacks" "_law_lacks" gJ f fd)(z6:Cal P w K mg base 1 "_law_choices" ["_law_word_here", "_law_place"] eU):FnOk P w K mg base CX0 2 f fd ["_law_locker_here", "_law_words_here", "_law_wants", "_law_flags"] iC:=by
 refine F.ok x9 (λvs H Q E h=>?_) (λcdv A outer s H vs Q E hr h=>?_)
 .obtain⟨a,b,l1,l2,kvs,f,cws,rs,W,F,rfl,_⟩:=h;rfl
 obtain⟨a,b,l1,l2,kvs,f,cws,rs,W,F,rfl,ha,lk,hf,hb,h8,h7,el1,hwt,el2,hlo,q⟩:=h;refine⟨_,(@aD _ _ _ _ _ (cN (PW.pt (cT (iB (bC (aL rZ rfl G.b_isinstance aM (aA (mv 2) (aA (jM rfl G.b_list cI) aE))))) (dG (iB (bC (aL rZ rfl G.b_isinstance aM (aA (mv 3) (aA (jM rfl G.b_list cI) aE)))))))) (@aH _ _ _ (aT dA)) bN) (@aD _ _ _ _ _ (kL (i:=4) x9.nd rfl (Or.inl rfl) rfl (dQ (mv 3)) (dQ5 (N:=["_law_flag"]) (by decide +kernel) (by decide +kernel)) (by decide +kernel) rfl (by decide +kernel) (λ_ _ _ _=>(bA (i:=0) (show List.Nodup (["_law_flag"]:List Str) by decide +kernel) rfl (Or.inl rfl))) (λ_ _ _ _=>qJ) (λ_ _ _ _=>(eR PySem.F.plainAttrs_str PySem.F.slot_str_find PySem.F.type_str_find cQ9 mH (aA (mv 0) aE)))) (@aD _ _ _ _ _ (cN (PW.pt (cT (bI (cZW hr.units) (mv 2) (aL (uT rfl) rfl G.b_sorted oX (aA (bB (bQY hr.units rfl) rfl G.b_set (by decide +kernel) (aA (mv 2) aE)) aE)) (bR _)) (cT (bI (cJ5 hr.units0) (mv 4) (aL (vB rfl) rfl G.b_sorted oX (aA (bB (bXC rfl) rfl G.b_set (by decide +kernel) (aA (mv 4) aE)) aE)) (bR _)) (dG (bI dQE (cJL dQL aI) (mv 4) (by rfl)))))) (@aH _ _ _ (aT dA)) bN) (@aD _ _ _ _ _ (bV Bs rfl (dQ (mv 2)) (iO (K:=K) (i:=5) (j:=6) (by rfl) (by rfl) x9.nd (by rfl) (by exact(Or.inl rfl)) (by exact Or.inl rfl) (by rfl) (by exact(Or.inl rfl)) (by exact Or.inl rfl)) (@aD _ _ _ _ _ (cN (PW.pt (cT (bC (aL rZ rfl G.b_isinstance aM (aA (mv 5) (aA (jM rfl G.b_bool bQV) aE)))) (cT (bI sO (mv 5) (bB aXO rfl G.b_range sM (aA (aL fR rfl G.b_len cY (aA (mv 1) aE)) aE)) (by rfl)) (dG (bI sO (mv 6) (bB aXO rfl G.b_range sM (aA aI (aA (aS cA (aL fR rfl G.b_len cY (aA (cB eC (mv 1) (mv 5) (λ_ _=>rfl)) aE)) aI) aE))) (by rfl)))))) (@aH _ _ _ (aT dA)) bN) (@aH _ _ _ (bV Bs rfl (dQ (bO z6 hr (by decide) rfl (aA (cB eC (mv 1) (mv 5) (λ_ _=>rfl)) (aA (mv 6) aE)))) (bA (i:=7) x9.nd rfl (Or.inl rfl)) (@aH _ _ _ (cN (bI rX (mv 7) (mv 3) (by rfl)) (@aH _ _ _ (aT dA)) bN)))))) (@aH _ _ _ (aT (xN bX1 (aL fR rfl G.b_len cY (aA (mv 2) aE)) (aL (cJI rfl) rfl G.b_sum cXU (aA (iM rfl (dQ (mv 3)) (kI (N:=["_law_flag", "_law_locker_here"]) ["_law_locker_here", "_law_words_here", "_law_wants", "_law_flags", "_law_order", "_law_number", "_law_place", "_law_flag"] (aK gJ) [none,some 0] rfl rfl rfl (λx h=>bY h) (by decide +kernel)) (by decide +kernel) rfl (by decide +kernel) (λ_ _ _ _=>(bA (i:=0) (show List.Nodup (["_law_flag", "_law_locker_here"]:List Str) by decide +kernel) rfl (Or.inl rfl))) (λ_ _ _ _=>qJ) (λ_ _ _ _=>(dJ Cc Dk (sL (Room.u1 hr)) (mv 1) (aA (mv 0) (aA aI aE))))) aE)) (bR _)))))))),?_⟩
 have hrl:(rs.map V.ref).length=W.length:=by rw[Ac,hwt.1]
 have hFl:((F.map one).map V.str).length=F.length:=by rw[Ac,Ac]
 have hwl56:(wl cws).length<=56:=Bf (kN h7 _) (by omega)
 have hW56:W.length<=56:=Bf hlo.sub.length_le hwl56
 obtain⟨pF,hpF⟩:=hlo.flags;obtain⟨hkr,hk27,hF27⟩:=bX9 hpF;have hFm:∀c∈F,c∈flagsT.cps.toList:=λc hc=>by rw[hpF]at hc;exact(Du.mp hc).1
 have r1:=aQ el1
 have r2:=aQ el2
 walk_at "g";refine sN (xs:=(F.map one).map V.str) (λj=>(F[j]?).map λc=>V.int ((fIx c:Nat):Int)) r2 (by rw[hFl];exact bH (by omega)) (λj x Hc A B hx sm hA hB=>?_) (λD1 H1 hD1 s1 hr1=>?_)
 .obtain⟨d,hd,rfl⟩:=qK hx;have r:=hA (.int ((fIx d:Nat):Int)) (by rw[hd];rfl)
  walk_at "g";refine⟨Wk.set rfl (Wk.refl _),?_⟩;walk_at "g";refine bJV ?_;rw[show Txt.find (Str.ofString "abcdefghijklmnopqrstuvw1234") (one d)=((fIx d:Nat):Int) from bXN d (hFm d (As hd))];exact r _ (Same.refl _)
 have ek:((F.map λc=>((fIx c:Nat):Int)).map V.int)=((F.map fIx).map λk=>V.int ((k:Nat):Int)):=by rw[Cv,Cv];rfl
 rw[wN,hFl,Ck,ek]at hr1;generalize F.map fIx=ks at hr1 hkr hk27 ek;have hkl:ks.length<=27:=by
  have:=Cy List.length ek
  rw[Ac,Ac,Ac]at this;omega
 have r11:=aJ s1 r1
 have wt1:=hwt.keep λr w e=>s1 _ _ e
 have hsub:=hlo.sub
 have hw8:∀w∈W,w.1<8/\w.2<8:=λw hw=>by
  obtain⟨m1,m2,m3⟩:=wlP_mem.mp (hsub.subset hw);have:(cws.getD w.1 []).length<=7:=by rw[Ah,Ab m1];exact h7 _ (Bu m1)
  omega
 have hwr:W.Pairwise λa b=>a.1*8+a.2<b.1*8+b.2:=(aZO cws cws.length h7).sublist hsub
 walk_at "g";refine cQU (ws:=W) r11 wt1.1 (λj r w hr hw=>wt1.2 j r w hr hw) (by omega) hw8 ((iF cws cws.length).sublist hsub) λp2 hp2=>?_
 have s2:=aF hp2 (mZ w p2 rs)
 have e2:(upd H1 p2 (mZ w p2 rs)) p2=some (mZ w p2 rs):=aB
 have ed2:=s2 _ _ hr1
 change bQU _ (upd H1 p2 (mZ w p2 rs)) _
 generalize upd H1 p2 (mZ w p2 rs)=H2 at s2 e2 ed2 ⊢;have wt2:=wt1.keep λr w e=>s2 _ _ e
 walk_at "g";refine tL e2 (λr hr=>?_) (by rw[hwt.1];omega) (aZI wt2 hwr) λp3 hp3=>?_
 .obtain⟨j,hj⟩:=Eo.mp hr;have hjl:=(Af.mp hj).1
  have ew:W[j]?=some (W[j]'(by rw[<-hwt.1];exact hjl)):=Ab _
  exact⟨_,_,wt2.2 j r _ hj ew,(hw8 _ (As ew)).2⟩
 have s3:=aF hp3 (.lst (rs.map V.ref))
 have s03:=s1.trans (s2.trans s3)
 have ed3:=s3 _ _ ed2
 refine dQA 0 (aJ s03 r1) dI rfl (λj x y hx hy=>?_) ?_
 .rw[hx]at hy;cases hy;obtain⟨p,_,rfl⟩:=qV hx;exact Alx.same (.inr ⟨p,rfl⟩)
 generalize upd H2 p3 (.lst (rs.map V.ref))=H3 at s3 s03 ed3 ⊢;have rd3:=aQ ed3
 walk_at "g";refine cXF rd3 (by omega) (λk hk=>by have:=hk27 k hk;omega) (hkr.imp λh=>Ba h) λp4 hp4=>?_
 have s4:=aF hp4 (mV w p4 ks)
 have e4:(upd H3 p4 (mV w p4 ks)) p4=some (mV w p4 ks):=aB
 have ed4:=s4 _ _ ed3
 change bQU _ (upd H3 p4 (mV w p4 ks)) _
 generalize upd H3 p4 (mV w p4 ks)=H4 at s4 e4 ed4 ⊢;walk_at "g";refine uV e4 (by omega) hkr λp5 hp5=>?_
 have s5:=aF hp5 (.lst (ks.map λk=>V.int ((k:Nat):Int)))
 have s05:=s03.trans (s4.trans s5)
 have rd5:=aJ s5 (aQ ed4)
 refine bZZ rd5 dI (kR _) (kR _) ?_;rw[if_pos rfl,bXH];generalize upd H4 p5 (.lst (ks.map λk=>V.int ((k:Nat):Int)))=H5 at s5 s05 rd5 ⊢;walk_at "g";refine aJS (neg:=false) rd5 rfl (kR _) ?_;rw[if_neg (by decide),bQ7]
 have r15:=aJ s05 r1
 walk_at "g";refine gE (xs:=rs.map V.ref) (λi U H'=>∃(v5 v6 v7:Option V),U=[some (.ref a),some (.ref b),some (.ref l1),some (.ref l2),some (.ref D1),v5,v6,v7]/\Same H H') ⟨_,_,_,rfl,s05⟩ (λi U H' _ ⟨_,_,_,_,e⟩=>aJ e r1) ?_ ?_
 .rintro i x U H6 hx ⟨v5,v6,v7,rfl,s6⟩;obtain⟨p,ep,rfl⟩:=qV hx;have hi:i<W.length:=by rw[<-hwt.1];exact(Af.mp ep).1
  obtain⟨w',ew⟩:∃w,W[i]?=some w:=⟨_,Ab hi⟩;have hwm:=As ew
  obtain⟨m1,m2,m3⟩:=wlP_mem.mp (hlo.sub.subset hwm);have hall:=hlo.all w' hwm
  have tt:jA H6 p=some [V.int ((w'.1:Nat):Int),V.int ((w'.2:Nat):Int)]:=gH (s6 _ _ (hwt.2 i p w' ep ew))
  have hb6:=aJ s6 hb
  have ec:cws[w'.1]?=some cws[w'.1]:=Ab m1
  have eg:cws.getD w'.1 []=cws[w'.1]:=by rw[Ah,ec];rfl
  rw[eg]at m3;have h7c:=h7 _ (Bu m1)
  have hll:((cws.map aP).map V.str).length=cws.length:=by rw[Ac,Ac]
  walk_at "g";rw[hll];refine bQT λr7 hr7=>?_;have s7:=aF hr7 (HO.rng 0 ((cws.length:Nat):Int))
  have g7:(upd H6 r7 (HO.rng 0 ((cws.length:Nat):Int))) r7=some (HO.rng 0 ((cws.length:Nat):Int)):=aB
  generalize upd H6 r7 (HO.rng 0 ((cws.length:Nat):Int))=H7 at s7 g7 ⊢;refine rR g7 ?_;rw[Au (show (0:Int)<=((w'.1:Nat):Int)/\((w'.1:Nat):Int)<((cws.length:Nat):Int) from⟨by omega,by omega⟩)]
  have s07:=s6.trans s7
  have hb7:=aJ s07 hb
  walk_at "g";refine fB hb7 (v:=V.str (aP cws[w'.1])) (dY (by rw[Am,Am,ec];rfl)) ?_
  have hcl:(aP cws[w'.1]).length=cws[w'.1].length:=cU _
  walk_at "g";rw[hcl];refine bXP λr8 hr8=>?_;have s8:=aF hr8 (HO.rng 1 ((cws[w'.1].length:Int)+1))
  have g8:(upd H7 r8 (HO.rng 1 ((cws[w'.1].length:Int)+1))) r8=some (HO.rng 1 ((cws[w'.1].length:Int)+1)):=aB
  generalize upd H7 r8 (HO.rng 1 ((cws[w'.1].length:Int)+1))=H8 at s8 g8 ⊢;refine rR g8 ?_;rw[Au (show (1:Int)<=((w'.2:Nat):Int)/\((w'.2:Nat):Int)<(cws[w'.1].length:Int)+1 from⟨by omega,by omega⟩)]
  have s08:=s07.trans s8
  have hb8:=aJ s08 hb
  walk_at "g";refine fB hb8 (v:=V.str (aP cws[w'.1])) (dY (by rw[Am,Am,ec];rfl)) ?_
  walk_at "g";refine⟨cws[w'.1],w'.2-1,_,rfl,by omega,by omega,h7c,λrc H9 hrc s9 ec9=>?_⟩
  have s09:=s08.trans s9
  have ec9':H9 rc=some (.lst (((chW cws w').map one).map V.str)):=by unfold chW;rw[eg];exact ec9
  have rc9:=aQ ec9'
  walk_at "g";refine gE (xs:=((chW cws w').map one).map V.str) (λj U H'=>∃v7:Option V,U=[some (.ref a),some (.ref b),some (.ref l1),some (.ref l2),some (.ref D1),some (.int ((w'.1:Nat):Int)),some (.int ((w'.2:Nat):Int)),v7]/\Same H9 H') ⟨_,rfl,Same.refl _⟩ (λj U H' _ ⟨_,_,e⟩=>aJ e rc9) ?_ ?_
  .rintro j x U H10 hx ⟨v7',rfl,s10⟩;obtain⟨c,hc,rfl⟩:=qK hx;have s010:=s09.trans s10
   have r210:=aJ s010 r2
   walk_at "g";refine aJS (neg:=true) r210 rfl (dW _) ?_;rw[if_pos rfl,rN,Au (hall c (As hc))];rw[show (!true)=false from rfl];walk_at "g";exact⟨_,rfl,s10⟩
  .rintro U H10 ⟨v7',rfl,s10⟩;exact⟨_,_,_,rfl,s09.trans s10⟩
 .rintro U H6 ⟨v5,v6,v7,rfl,s6⟩;have r16:=aJ s6 r1
  have r26:=aJ s6 r2
  walk_at "g";refine sN (xs:=(F.map one).map V.str) (λj=>(F[j]?).map λc=>V.int (aO f c)) r26 (by rw[hFl];exact bH (by omega)) (λj x Hc A B hx sm hA hB=>?_) (λD7 H7 hD7 s7 hr7=>?_)
  .obtain⟨d,hd,rfl⟩:=qK hx;have r:=hA (.int (aO f d)) (by rw[hd];rfl)
   have hac:=sm _ _ (s6 _ _ ha)
   walk_at "g";refine⟨Wk.set rfl (Wk.refl _),?_⟩;have hdd:=eK hac
   walk_at "g";refine sB (z:=one d) (.inl hac) ?_;rw[lk.val d,iJ];exact r _ (Same.refl _)
  .rw[wN,hFl,Ck]at hr7;walk_at "g";refine cJD (aQ hr7) (λn hn=>by obtain⟨c,_,rfl⟩:=Bc.mp hn;exact⟨by have:=(hf c).1;omega,by have:=(hf c).2;omega⟩) (by rw[Ac];omega) ?_
   walk_at "g";rw[hrl,Au (show (F.map (aO f)).sum<((W.length:Nat):Int) from hlo.few)];exact q _ (s6.trans s7)
def gC(aC:Addr):Sp:=λvs H Q _=>∃(ea dx:Addr) (oe:Obj) (o:HO),vs=[.ref ea]/\H ea=some (.frz oe (eJ ea (.ref aC) (some dx)))/\H dx=some o/\Q (.bl true) H
def lX:FnScope ["_law_e"] ["_law_e"] (aK dZ):=by walk_at "sc"
def mJ(F:Fun K "_law_only_lack" "_law_only_lack" dZ f fd):FnOk P w K mg base CX0 1 f fd ["_law_e"] (gC Zo):=by
 refine F.ok lX (λvs H Q E h=>?_) (λcdv A outer s H vs Q E hr h=>?_)
 .obtain⟨ea,dx,oe,o,rfl,_⟩:=h;rfl
 obtain⟨ea,dx,oe,o,rfl,he,hdx,q⟩:=h;refine⟨_,(@aD _ _ _ _ _ (cN (PW.pt (cT (bC (aL (cV (K:=K) rfl) rfl G.b_isinstance aM (aA (mv 0) (aA (cL rfl G.c_NoBook) aE)))) (cT (bC (aL (cV (K:=K) rfl) rfl G.b_isinstance aM (aA (mv 0) (aA (cL rfl G.c_NoCut) aE)))) (cT (bC (aL (cV (K:=K) rfl) rfl G.b_isinstance aM (aA (mv 0) (aA (cL rfl G.c_NoDeed) aE)))) (dG (bC (aL (cV (K:=K) rfl) rfl G.b_isinstance aM (aA (mv 0) (aA (cL rfl G.c_NoFlag) aE))))))))) (@aH _ _ _ (aT dA)) bN) (@aD _ _ _ _ _ (cN (PW.pt (cT (bC (aL (cV (K:=K) rfl) rfl G.b_isinstance aM (aA (mv 0) (aA (cL rfl G.c_NoHalyard) aE)))) (cT (bC (aL (cV (K:=K) rfl) rfl G.b_isinstance aM (aA (mv 0) (aA (cL rfl G.c_NoHoist) aE)))) (cT (bC (aL (cV (K:=K) rfl) rfl G.b_isinstance aM (aA (mv 0) (aA (cL rfl G.c_NoRow) aE)))) (dG (bC (aL (cV (K:=K) rfl) rfl G.b_isinstance aM (aA (mv 0) (aA (cL rfl G.c_NoText) aE))))))))) (@aH _ _ _ (aT dA)) bN) (@aD _ _ _ _ _ (cN (PW.pt (cT (bC (aL (cV (K:=K) rfl) rfl G.b_isinstance aM (aA (mv 0) (aA (cL rfl G.c_NoWord) aE)))) (dG (bC (aL (cV (K:=K) rfl) rfl G.b_isinstance aM (aA (mv 0) (aA (cL rfl G.c_Short) aE))))))) (@aH _ _ _ (aT dA)) bN) (@aH _ _ _ (aT (qW (aL (cV (K:=K) rfl) rfl G.b_isinstance aM (aA (mv 0) (aA (cL rfl G.c_TowerError) aE))) (tQ (aL (cV (K:=K) rfl) rfl G.b_isinstance aM (aA (mv 0) (aA (jM rfl G.b_ValueError nA) aE)))))))))),?_⟩;have hd:∀d,some dx=some d->∃o,H d=some o:=λd e=>by cases e;exact⟨o,hdx⟩
 have Z:=G.xx_Lack
 walk_at "g";refine cW he hd Z rfl G.i_1 ?_;walk_at "g";refine cW he hd Z rfl G.i_2 ?_;walk_at "g";refine cW he hd Z rfl G.i_3 ?_;walk_at "g";refine cW he hd Z rfl G.i_4 ?_;walk_at "g";refine cW he hd Z rfl G.i_5 ?_;walk_at "g";refine cW he hd Z rfl G.i_6 ?_;walk_at "g";refine cW he hd Z rfl G.i_7 ?_;walk_at "g";refine cW he hd Z rfl G.i_8 ?_;walk_at "g";refine cW he hd Z rfl G.i_9 ?_;walk_at "g";refine cW he hd Z rfl G.i_10 ?_;walk_at "g";refine cW he hd Z rfl G.i_11 ?_;walk_at "g";refine cW he hd Z rfl G.i_12 ?_;exact q
def mM(aC:Addr):Sp:=λvs H Q _=>∃(a b ea dx l1 l2:Addr) (oe:Obj) (kvs:List (Key×V)) (f:Nat->Option Int) (cws:List (List Nat)) (xs ys:List V) (W:List Wt) (F:List Nat),vs=[.ref a,.ref b,.ref ea]/\H a=some (.dK kvs)/\Lk kvs f/\(∀c,0<=aO f c/\aO f c<=1000)/\rdL H b=some ((cws.map aP).map V.str)/\cws.length<=8/\(∀c∈cws,c.length<=7/\∀d∈c,cO d)/\
 H ea=some (.frz oe (eJ ea (.ref aC) (some dx)))/\H dx=some (xdO dx [("flags",.ref l2),("wants",.ref l1)])/\H l1=some (.lst xs)/\H l2=some (.lst ys)/\l1≠l2/\b≠l1/\b≠l2/\LackOk cws (aO (bP (aO f))) W F/\∀H',(∀p o,p≠l1->p≠l2->H p=some o->H' p=some o)->Q (.bl true) H'
def p8:FnScope ["_law_locker_here", "_law_words_here", "_law_lack", "_law_e"] ["_law_locker_here", "_law_words_here", "_law_lack"] (aK jV):=by walk_at "sc"
def uS(F:Fun K "_law_again" "_law_again" jV f fd)(y9:bXQ P w K mg base 3 "hang_all" ["locker", "words"] (fI Zo))(z9:Cal P w K mg base 2 "_law_lacks" ["_law_locker_here", "_law_words_here", "_law_wants", "_law_flags"] iC):FnOk P w K mg base CX0 4 f fd ["_law_locker_here", "_law_words_here", "_law_lack"] (mM Zo):=by
 refine F.ok p8 (λvs H Q E h=>?_) (λcdv A outer s H vs Q E hr h=>?_)
 .obtain⟨a,b,ea,dx,l1,l2,oe,kvs,f,cws,xs,ys,W,F,rfl,_⟩:=h;rfl
 obtain⟨a,b,ea,dx,l1,l2,oe,kvs,f,cws,xs,ys,W0,F0,rfl,ha,lk,hf,hb,h8,hL,he,hdx,h1,h2,h12,hb1,hb2,hlo0,q⟩:=h;refine⟨_,(@aD _ _ _ _ _ (cE (lR Ct Gp Gq pP (eD (K:=K) rfl (mv 2) rfl))) (@aD _ _ _ _ _ (cE (lR Ct Gp Gq pP (eD (K:=K) rfl (mv 2) rfl))) (@aD _ _ _ _ _ (wW (i:=3) rfl rfl rfl p8.nd rfl rfl rfl G.c_Lack (λy3 R=>(@aH _ _ _ (cE (wA y9 (kW rfl) hr (by decide) rfl (aA (bB sY rfl G.b_dict vV (aA (mv 0) aE)) (aA (bB gX rfl G.b_list cI (aA (mv 1) aE)) aE)))))) (λy3 ea sx=>(@aH _ _ _ (aT (kQ sx z9 hr (by decide) rfl (aA (mv 0) (aA (mv 1) (aA (eD (K:=K) rfl (mv 3) rfl) (aA (eD (K:=K) rfl (mv 3) rfl) aE))))))))) (@aH _ _ _ (aT dA))))),?_⟩
 have hf0:∀c,0<=aO f c:=λc=>(hf c).1
 have na1:a≠l1:=λz=>by rw[z,h1]at ha;cases ha
 have na2:a≠l2:=λz=>by rw[z,h2]at ha;cases ha
 have ne1:ea≠l1:=λz=>by rw[z,h1]at he;cases he
 have nd1:dx≠l1:=λz=>by rw[z,h1]at hdx;cases hdx
 have m1:=cS h1
 walk_at "g";refine⟨ea,Zo,dx,_,_,oe,rfl,he,hdx,G.xx_Lack,G.xn_Lack_wants,rfl,?_⟩;walk_at "g";have f1:∀p o,p≠l1->H p=some o->(upd H l1 (.lst [])) p=some o:=λp o n e=>by rw[aG n];exact e
 have hb1':rdL (upd H l1 (.lst [])) b=some ((cws.map aP).map V.str):=by unfold rdL;rw[aG hb1];exact hb
 generalize upd H l1 (.lst [])=H1 at f1 hb1' ⊢;have h21:=f1 _ _ h12.symm h2
 have m2:=cS h21
 have he1:=f1 _ _ ne1 he
 have hdx1:=f1 _ _ nd1 hdx
 walk_at "g";refine⟨ea,Zo,dx,_,_,oe,rfl,he1,hdx1,G.xx_Lack,G.xn_Lack_flags,rfl,?_⟩;walk_at "g";have f2:∀p o,p≠l1->p≠l2->H p=some o->(upd H1 l2 (.lst [])) p=some o:=λp o n n' e=>by rw[aG n'];exact f1 p o n e
 have hb2':rdL (upd H1 l2 (.lst [])) b=some ((cws.map aP).map V.str):=by unfold rdL;rw[aG hb2];exact hb1'
 generalize upd H1 l2 (.lst [])=H2 at f2 hb2' ⊢;have ha2:=f2 _ _ na1 na2 ha
 replace q:∀H',Same H2 H'->Q (.bl true) H':=λH' s=>q H' λp o n n' e=>s _ _ (f2 p o n n' e)
 clear f1 f2 m1 m2 h21 he1 hdx1 hb1' h1 h2 he hdx ha hb;walk_at "g";refine tJ (.inl ha2) λp hp=>?_;have s1:=aF hp (.dK kvs)
 have e1:(upd H2 p (.dK kvs)) p=_:=aB
 generalize upd H2 p (.dK kvs)=H3 at s1 e1 ⊢;have hb3:=aJ s1 hb2'
 walk_at "g";intro r hr;have s2:=aF hr (.lst ((cws.map aP).map V.str))
 have r2:rdL (upd H3 r (.lst ((cws.map aP).map V.str))) r=_:=dI
 have e2:=s2 _ _ e1
 generalize upd H3 r (.lst ((cws.map aP).map V.str))=H4 at s2 r2 e2 ⊢;have s02:=s1.trans s2
 refine⟨p,r,kvs,f,cws,rfl,.inl e2,lk,r2,by omega,hL,λrh ps fs H5 hrh s3 er hne hls hfl hch hct=>absurd ⟨fs,hfl,hch,hct⟩ (rA hlo0),λdx l1 l2 rs W F H5 s3 ed el1 hwt el2 hlo _ _=>⟨G.m_Lack,λea oe hoe hea=>?_⟩⟩
 have k5:=aF hea (.frz oe (eJ ea (.ref Zo) (some dx)))
 have e5:(upd H5 ea (.frz oe (eJ ea (.ref Zo) (some dx)))) ea=some (.frz oe (eJ ea (.ref Zo) (some dx))):=aB
 generalize upd H5 ea (.frz oe (eJ ea (.ref Zo) (some dx)))=H6 at k5 e5 ⊢;have s05:=s02.trans (s3.trans k5)
 walk_at "g";refine⟨ea,Zo,dx,_,_,oe,rfl,e5,k5 _ _ ed,G.xx_Lack,G.xn_Lack_wants,rfl,?_⟩;walk_at "g";refine⟨ea,Zo,dx,_,_,oe,rfl,e5,k5 _ _ ed,G.xx_Lack,G.xn_Lack_flags,rfl,?_⟩;walk_at "g";refine⟨⟨_,_,e5,hoe⟩,a,b,l1,l2,kvs,f,cws,rs,W,F,rfl,s05 _ _ ha2,lk,hf,aJ s05 hb2',h8,λc hc=>(hL c hc).1,k5 _ _ el1,hwt.keep λr w e=>k5 _ _ e,k5 _ _ el2,hlo.plain hf0,λH7 s7=>?_⟩;exact q _ (s05.trans s7)
def aQ9(c:Nat):0<=aO (bP n) c:=by
 unfold aO bP;split
 .rename_i h
  exact Int.le_of_lt h.2
 .exact Hl _
def aJT{g:Nat->Int}(h:∀c,0<=g c):∀F:List Nat,0<=(F.map g).sum
 |[]=>Hl _
 |c::r=>by
  rw[Aq,Df];have h1:=h c
  have h2:=aJT h r
  omega
def uI{W:List Wt}(h:LackOk cws (aO (bP n)) W F)(hl:rs.length=W.length)(e:HO.lst (rs.map V.ref)=HO.lst ((F.map one).map V.str)):False:=by
 have h1:=h.few
 have h2:=aJT (λc=>aQ9 (n:=n) c) F
 injection e with e
 cases rs with
 |nil=>
  have:W.length=0:=hl.symm
  omega
 |cons r rs=>
  cases F with
  |nil=>cases e
  |cons c F=>cases e
def mK:Sp:=λvs H Q _=>∃(a b:Addr) (kvs:List (Key×V)) (f:Nat->Option Int) (cws:List (List Nat)),vs=[.ref a,.ref b]/\H a=some (.dK kvs)/\Lk kvs f/\(∀c,0<=aO f c/\aO f c<=1000)/\H b=some (.lst ((cws.map aP).map V.str))/\cws.length<=8/\(∀c∈cws,c.length<=7/\∀d∈c,cO d)/\
 ∀H',Same H H'->Q (.bl true) H'
def x5:FnScope ["_law_locker_here", "_law_words_here", "_law_handed", "_law_found", "_law_e", "_law_good", "_law_hoist"] ["_law_locker_here", "_law_words_here"] (aK jK):=by walk_at "sc"
def vE(F:Fun K "_law_right" "_law_right" jK f fd)(wE:Cal P w K mg base 2 "_law_hangs" ["_law_locker_here", "_law_words_here", "_law_hoists"] lH)(y9:bXQ P w K mg base 3 "hang_all" ["locker", "words"] (fI Zo))(t9:Cal P w K mg base 1 "_law_only_lack" ["_law_e"] (gC Zo))(z9:Cal P w K mg base 2 "_law_lacks" ["_law_locker_here", "_law_words_here", "_law_wants", "_law_flags"] iC)(r9:Cal P w K mg base 4 "_law_again" ["_law_locker_here", "_law_words_here", "_law_lack"] (mM Zo)):FnOk P w K mg base CX0 5 f fd ["_law_locker_here", "_law_words_here"] mK:=by
 refine F.ok x5 (λvs H Q E h=>?_) (λcdv A outer s H vs Q E hr h=>?_)
 .obtain⟨a,b,kvs,f,cws,rfl,_⟩:=h;rfl
 obtain⟨a,b,kvs,f,cws,rfl,ha,lk,hf,hb,h8,hL,q⟩:=h;refine⟨_,(@aD _ _ _ _ _ (aN 2 x5.nd (dN (aA (bB sY rfl G.b_dict vV (aA (mv 0) aE)) (aA (bB gX rfl G.b_list cI (aA (mv 1) aE)) aE)))) (@aD _ _ _ _ _ (wW (i:=4) rfl rfl rfl x5.nd rfl rfl rfl G.c_Lack (λy3 R=>(@aH _ _ _ (aN 3 x5.nd (wA y9 (kW rfl) hr (by decide) rfl (aA (cB eC (mv 2) aI (λ_ _=>rfl)) (aA (cB eC (mv 2) aI (λ_ _=>rfl)) aE)))))) (λy3 ea sx=>(@aD _ _ _ _ _ (aN 5 x5.nd (qW (kQ sx t9 hr (by decide) rfl (aA (mv 4) aE)) (qW (kQ sx z9 hr (by decide) rfl (aA (mv 0) (aA (mv 1) (aA (eD (K:=K) rfl (mv 4) rfl) (aA (eD (K:=K) rfl (mv 4) rfl) aE))))) (tQ (xN (dQY hr.units) (mv 2) (dN (aA (mv 0) (aA (mv 1) aE))) (bR _)))))) (@aH _ _ _ (aT (qW (mv 5) (tQ (kQ sx r9 hr (by decide) rfl (aA (mv 0) (aA (mv 1) (aA (mv 4) aE))))))))))) (@aD _ _ _ _ _ (cN (PW.pt (cT (iB (bC (bO wE hr (by decide) rfl (aA (mv 0) (aA (mv 1) (aA (mv 3) aE)))))) (dG (bI (cJ0 hr.units) (mv 2) (dN (aA (mv 0) (aA (mv 1) aE))) (bR _))))) (@aH _ _ _ (aT dA)) bN) (@aD _ _ _ _ _ (bV Bs rfl (dQ (mv 3)) (bA (i:=6) x5.nd rfl (Or.inl rfl)) (@aH _ _ _ (cE (lR Ct Gp Gq pP (mv 6))))) (@aH _ _ _ (aT (bO wE hr (by decide) rfl (aA (mv 0) (aA (mv 1) (aA (bZH y9 aQB hr (by decide) rfl (aA (cB eC (mv 2) aI (λ_ _=>rfl)) (aA (cB eC (mv 2) aI (λ_ _=>rfl)) aE))) aE)))))))))),?_⟩
 have hf0:∀c,0<=aO f c:=λc=>(hf c).1
 have h7:∀c∈cws,c.length<=7:=λc hc=>(hL c hc).1
 have rb:=aQ hb
 walk_at "g";refine tJ (.inl ha) λpa hpa=>?_;have s1:=aF hpa (.dK kvs)
 have ea1:(upd H pa (.dK kvs)) pa=some (.dK kvs):=aB
 generalize upd H pa (.dK kvs)=H1 at s1 ea1 ⊢;have rb1:=aJ s1 rb
 walk_at "g";intro pb hpb;have s2:=aF hpb (.lst ((cws.map aP).map V.str))
 have eb2:(upd H1 pb (.lst ((cws.map aP).map V.str))) pb=some (.lst ((cws.map aP).map V.str)):=aB
 have ea2:=s2 _ _ ea1
 generalize upd H1 pb (.lst ((cws.map aP).map V.str))=H2 at s2 eb2 ea2 ⊢;have s02:=s1.trans s2
 walk_at "g";refine⟨by show 2<=sizeLine;decide,λph hph=>?_⟩
 have s3:=aF hph (.lst [.ref pa,.ref pb])
 have eh3:(upd H2 ph (.lst [.ref pa,.ref pb])) ph=some (.lst [.ref pa,.ref pb]):=aB
 have ea3:=s3 _ _ ea2
 have eb3:=s3 _ _ eb2
 generalize upd H2 ph (.lst [.ref pa,.ref pb])=H3 at s3 eh3 ea3 eb3 ⊢;have s03:=s02.trans s3
 clear s1 s2 s3 s02 ea1 ea2 eb2 rb1 hpb hph hpa;have ha3:=s03 _ _ ha
 have hb3:=s03 _ _ hb
 replace q:∀H',Same H3 H'->Q (.bl true) H':=λH' s=>q H' (s03.trans s)
 clear ha hb rb;have alw:∀ {H':Hp} {pn:Addr},Same H3 H'->H' pn=some (.lst [.ref a,.ref b])->Alw H' 2 (.ref ph) (.ref pn):=fun {H' pn} s e=>by
  refine .lst (aQ (s _ _ eh3)) (aQ e) rfl λj x y hx hy=>?_
  match j,hx,hy with
  |0,hx,hy=>
   cases hx;cases hy;exact .dic (.inl (s _ _ ea3)) (.inl (s _ _ ha3)) (lk.deq lk)
  |1,hx,hy=>
   cases hx;cases hy;exact .lst (aQ (s _ _ eb3)) (aQ (s _ _ hb3)) rfl (Alw.flats (dW _))
  |j+2,hx,hy=>cases hx
 have rh3:=aQ eh3
 walk_at "g";refine fB (v:=.ref pa) rh3 rfl ?_;walk_at "g";refine fB (v:=.ref pb) rh3 rfl ?_;walk_at "g";refine⟨pa,pb,kvs,f,cws,rfl,.inl ea3,lk,aQ eb3,h8,hL,λr ps fs H4 hr s4 er hne hls hfl hch hct=>?_,λdx l1 l2 rs W F H4 s4 ed el1 hwt el2 hlo hn1 hn2=>⟨G.m_Lack,λea oe hoe hea=>?_⟩⟩
 rotate_left
 .have k5:=aF hea (.frz oe (eJ ea (.ref Zo) (some dx)))
  have e5:(upd H4 ea (.frz oe (eJ ea (.ref Zo) (some dx)))) ea=some (.frz oe (eJ ea (.ref Zo) (some dx))):=aB
  generalize upd H4 ea (.frz oe (eJ ea (.ref Zo) (some dx)))=H5 at k5 e5 ⊢;have s5:=s4.trans k5
  walk_at "g";refine⟨⟨_,_,e5,hoe⟩,ea,dx,oe,_,rfl,e5,k5 _ _ ed,?_⟩;walk_at "g";refine⟨ea,Zo,dx,_,_,oe,rfl,e5,k5 _ _ ed,G.xx_Lack,G.xn_Lack_wants,rfl,?_⟩;walk_at "g";refine⟨ea,Zo,dx,_,_,oe,rfl,e5,k5 _ _ ed,G.xx_Lack,G.xn_Lack_flags,rfl,?_⟩;walk_at "g";refine⟨⟨_,_,e5,hoe⟩,a,b,l1,l2,kvs,f,cws,rs,W,F,rfl,s5 _ _ ha3,lk,hf,aQ (s5 _ _ hb3),h8,h7,k5 _ _ el1,hwt.keep λr w e=>k5 _ _ e,k5 _ _ el2,hlo.plain hf0,λH6 s6=>?_⟩;have s06:=s5.trans s6
  walk_at "g";refine⟨by show 2<=sizeLine;decide,λpn hpn=>?_⟩
  have s7:=aF hpn (.lst [.ref a,.ref b])
  have en7:(upd H6 pn (.lst [.ref a,.ref b])) pn=some (.lst [.ref a,.ref b]):=aB
  generalize upd H6 pn (.lst [.ref a,.ref b])=H7 at s7 en7 ⊢;have s07:=s06.trans s7
  refine bJK 1 (alw s07 en7) ?_;have k57:=s6.trans s7
  have k47:=k5.trans k57
  walk_at "g";refine⟨⟨_,_,k57 _ _ e5,hoe⟩,a,b,ea,dx,l1,l2,oe,kvs,f,cws,_,_,W,F,rfl,s07 _ _ ha3,lk,hf,aQ (s07 _ _ hb3),h8,hL,k57 _ _ e5,k47 _ _ ed,k47 _ _ el1,k47 _ _ el2,?_,λz=>?_,λz=>?_,hlo,λH8 fr=>?_⟩
  .rintro rfl;exact uI hlo hwt.1 (Bh (el1.symm.trans el2))
  .rw[z,hn1]at hb3;cases hb3
  .rw[z,hn2]at hb3;cases hb3
  .refine q H8 λp o e=>fr p o (λz=>?_) (λz=>?_) (s07 _ _ e)
   .rw[z,hn1]at e;cases e
   .rw[z,hn2]at e;cases e
 have hcan:cJ9 (aO (bP (aO f))) cws:=⟨fs,hfl,hch,hct⟩
 have er4:=aQ er
 walk_at "g";refine⟨a,b,r,kvs,f,cws,ps,fs,H3,rfl,s4 _ _ ha3,lk,aQ (s4 _ _ hb3),h8,h7,er,hls,hfl,hch,λc=>Int.le_trans (hct c) (rW hf0 c),λH5 s5=>?_⟩;have s05:=s4.trans s5
 walk_at "g";refine⟨by show 2<=sizeLine;decide,λpn hpn=>?_⟩
 have s6:=aF hpn (.lst [.ref a,.ref b])
 have en6:(upd H5 pn (.lst [.ref a,.ref b])) pn=some (.lst [.ref a,.ref b]):=aB
 generalize upd H5 pn (.lst [.ref a,.ref b])=H6 at s6 en6 ⊢;have s06:=s05.trans s6
 have s46:=s5.trans s6
 refine bJK 1 (alw s06 en6) ?_;have er6:=aJ s46 er4
 have hps:∀p∈ps,H3 p=none/\∃xs,H6 p=some (.lst xs):=λp hp=>by
  obtain⟨j,hj⟩:=Eo.mp hp;have hjl:j<cws.length:=by have:=(Af.mp hj).1;rw[hls.1,Ac,Cu]at this;exact this
  have h1:=hls.2 j p (fG cws fs j) hj (by rw[Am,List.getElem?_range hjl];rfl)
  exact⟨h1.1,_,s46 _ _ h1.2⟩
 walk_at "g";refine gE (xs:=ps.map V.ref) (λi U H'=>∃(v4 v5 v6:Option V),U=[some (.ref a),some (.ref b),some (.ref ph),some (.ref r),v4,v5,v6]/\(∀p o,p∉ps->H6 p=some o->H' p=some o)/\∀p∈ps,∃xs,H' p=some (.lst xs))
  ⟨_,_,_,rfl,λp o _ e=>e,λp hp=>(hps p hp).2⟩ (λi U H' _ ⟨_,_,_,_,fr,_⟩=>aQ (fr _ _ (λz=>hne r z rfl) (s46 _ _ er))) ?_ ?_
 .rintro i x U H7 hx ⟨v4,v5,v6,rfl,fr,hx7⟩;obtain⟨p,ep,rfl⟩:=qV hx;have hp:=As ep
  obtain⟨xs,exs⟩:=hx7 p hp;have m7:=cS exs
  walk_at "g";refine⟨_,_,_,rfl,λp' o n e=>?_,λp' hp'=>?_⟩
  .rw[aG (show p'≠p from λz=>n (by rw[z];exact hp))]
   exact fr p' o n e
  .by_cases z:p'=p
   .rw[z];exact⟨_,aB⟩
   .rw[aG z];exact hx7 p' hp'
 .rintro U H7 ⟨v4,v5,v6,rfl,fr,_⟩;have s37:Same H3 H7:=λp o e=>fr p o (λz=>by rw[(hps p z).1]at e;cases e) (s06 _ _ e)
  have rh7:=aQ (s37 _ _ eh3)
  walk_at "g";refine fB (v:=.ref pa) rh7 rfl ?_;walk_at "g";refine fB (v:=.ref pb) rh7 rfl ?_;walk_at "g";refine⟨pa,pb,kvs,f,cws,rfl,.inl (s37 _ _ ea3),lk,aQ (s37 _ _ eb3),h8,hL,λr8 ps8 fs8 H8 _ s8 er8 _ hls8 hfl8 hch8 hct8=>?_,λdx l1 l2 rs W F H8 _ _ _ _ _ hlo _ _=>rA hlo hcan⟩;have s38:=s37.trans s8
  walk_at "g";refine⟨a,b,r8,kvs,f,cws,ps8,fs8,H7,rfl,s38 _ _ ha3,lk,aQ (s38 _ _ hb3),h8,h7,er8,hls8,hfl8,hch8,λc=>Int.le_trans (hct8 c) (rW hf0 c),λH9 s9=>?_⟩;exact q _ (s38.trans s9)
def zJ:gD xs (some ((k:Nat):Int)) none=xs.drop k:=by
 unfold gD;show (xs.drop (if ((k:Nat):Int)<0 then (((k:Nat):Int)+(xs.length:Int)).toNat else min ((k:Nat):Int).toNat xs.length)).take (xs.length-(if ((k:Nat):Int)<0 then (((k:Nat):Int)+(xs.length:Int)).toNat else min ((k:Nat):Int).toNat xs.length))=_
 rw[if_neg (by omega),Ca]
 by_cases h:k<=xs.length
 .rw[Gg h,Dg (by rw[Ei];omega)]
 .rw[Ga (by omega),List.drop_length,List.take_nil,List.drop_eq_nil_of_le (by omega)]
def zM(ns:List Int)(lo m:Int)(h:0<=lo)(h2:0<=m):∃ms:List Int,gD (ns.map V.int) (some lo) (some (lo+m))=ms.map V.int/\ms.length<=m.toNat:=by
 refine⟨(ns.drop (min lo.toNat ns.length)).take (min (lo+m).toNat ns.length-min lo.toNat ns.length),?_,?_⟩
 .unfold gD;rw[Hh,Hi];show ((ns.map V.int).drop (if lo<0 then (lo+((ns.map V.int).length:Int)).toNat else min lo.toNat (ns.map V.int).length)).take ((if lo+m<0 then (lo+m+((ns.map V.int).length:Int)).toNat else min (lo+m).toNat (ns.map V.int).length)-(if lo<0 then (lo+((ns.map V.int).length:Int)).toNat else min lo.toNat (ns.map V.int).length))=_
  rw[if_neg (Int.not_lt.mpr h),if_neg (Int.not_lt.mpr (Int.add_nonneg h h2)),Ac]
 .rw[Bt,Int.toNat_add h h2];refine Bf (Nat.min_le_left ..) ?_;generalize lo.toNat=a;generalize m.toNat=b;generalize ns.length=L;clear h h2;omega
def yH:gD ((cws.map aP).map V.str) none (some ((i:Nat):Int))=((cws.take i).map aP).map V.str:=by
 rw[aXR (by omega),Ca,<-Hh,<-Hh]
def uH:gD ((cws.map aP).map V.str) (some ((i:Nat):Int)) none=((cws.drop i).map aP).map V.str:=by
 rw[zJ,<-Hi,<-Hi]
def wP:FnScope ["_law_script", "_law_words_here", "_law_locker_here", "_law_k"] ["_law_script"] (aK lB):=by walk_at "sc"
def cX6(F:Fun K "law" "law" lB f fd)(q0:Cal P w K mg base 2 "_law_words" ["_law_cells", "_law_most"] mD)(p7:Cal P w K mg base 2 "_law_locker" ["_law_cell", "_law_words_here"] kA)(wS:Cal P w K mg base 1 "_law_cell_at" ["_law_script", "_law_k"] (iN K))(wT:Cal P w K mg base 5 "_law_right" ["_law_locker_here", "_law_words_here"] mK):FnOk P w K mg base CX0 6 f fd ["_law_script"] (qI K):=by
 refine F.ok wP (λvs H Q E h=>?_) (λcdv A outer s H vs Q E hr h=>?_)
 .obtain⟨a,ns,rfl,_⟩:=h;rfl
 obtain⟨a,ns,rfl,hS,h63,q⟩:=h;refine⟨_,(@aD _ _ _ _ _ (aN 1 wP.nd (bO q0 hr (by decide) rfl (aA (iS sl_list (mv 0) (gG aI) (gG (aS cA aI (aS fE (bO wS hr (by decide) rfl (aA (mv 0) (aA aI aE))) aI)))) (aA aI aE)))) (@aD _ _ _ _ _ (aN 2 wP.nd (bO p7 hr (by decide) rfl (aA (bO wS hr (by decide) rfl (aA (mv 0) (aA aI aE))) (aA (mv 1) aE)))) (@aD _ _ _ _ _ (bV Bs rfl (oQ rfl G.b_range (aA (aS cA (aL fR rfl G.b_len cY (aA (mv 1) aE)) aI) aE)) (bA (i:=3) wP.nd rfl (Or.inl rfl)) (@aH _ _ _ (cN (PW.pt (cT (iB (bC (bO wT hr (by decide) rfl (aA (mv 2) (aA (iS cQT (mv 1) xU (gG (mv 3))) aE))))) (dG (iB (bC (bO wT hr (by decide) rfl (aA (mv 2) (aA (iS cQT (mv 1) (gG (mv 3)) xU) aE)))))))) (@aH _ _ _ (aT dA)) bN))) (@aH _ _ _ (aT dA))))),?_⟩
 walk_at "g";refine⟨a,ns,0,rfl,hS,by omega,λn0=>?_⟩
 have w0:=Dv n0 (show (9:Int)≠0 by decide)
 have w1:=Em n0 (show (0:Int)<9 by decide)
 walk_at "g";refine cJH hS λr1 hr1=>?_;obtain⟨ms,em,hml⟩:=zM ns 2 (n0%9) (by decide) w0
 rw[em];have s1:=aF hr1 (HO.lst (ms.map V.int))
 have e1:rdL (upd H r1 (HO.lst (ms.map V.int))) r1=some (ms.map V.int):=dI
 generalize upd H r1 (HO.lst (ms.map V.int))=H1 at s1 e1 ⊢;walk_at "g";refine⟨r1,ms,7,rfl,e1,by omega,by decide,by decide,λrw' cws H2 hrw s2 ew hcl hw=>?_⟩
 have s02:=s1.trans s2
 have hS2:=s02.seq hS
 have h8:cws.length<=8:=by omega
 have hL:∀c∈cws,c.length<=7/\∀d∈c,cO d:=λc hc=>(hw c hc).2
 have hll:((cws.map aP).map V.str).length=cws.length:=by rw[Ac,Ac]
 clear e1 em hml s1 s2 hrw hcl;walk_at "g";refine⟨a,ns,1,rfl,hS2,by omega,λn1=>?_⟩
 walk_at "g";refine⟨n1,rw',cws,rfl,aQ ew,h8,λc hc=>(hL c hc).1,λpl kvs f H3 hpl s3 el lk hkl hf=>?_⟩;have ew3:=s3 _ _ ew
 have rb:=aQ ew3
 have hf1:∀c,0<=aO f c/\aO f c<=1000:=λc=>by have h1:=hf c;omega
 clear s02 s3 hS2 hpl ew hkl hS;walk_at "g";rw[hll];refine⟨⟨by omega,by omega⟩,?_⟩
 refine lA (λk U H'=>∃(v3:Option V),U=[some (.ref a),some (.ref rw'),some (.ref pl),v3]/\Same H3 H') ⟨_,rfl,Same.refl _⟩ ?_ ?_
 .rintro k U H4 hk ⟨v3,rfl,s4⟩;have hk0:(0+(k:Int))=((k:Nat):Int):=by omega
  have rb4:=aJ s4 rb
  walk_at "g";rw[hk0,yH];intro r4 hr4;have s5:=aF hr4 (.lst (((cws.take k).map aP).map V.str))
  have e5:(upd H4 r4 (.lst (((cws.take k).map aP).map V.str))) r4=some (.lst (((cws.take k).map aP).map V.str)):=aB
  generalize upd H4 r4 (.lst (((cws.take k).map aP).map V.str))=H5 at s5 e5 ⊢;have s35:=s4.trans s5
  walk_at "g";refine⟨pl,r4,kvs,f,cws.take k,rfl,s35 _ _ el,lk,hf1,e5,by rw[Bt];omega,λc hc=>hL c (Fa hc),λH6 s6=>?_⟩
  have s36:=s35.trans s6
  have rb6:=aJ s36 rb
  walk_at "g";rw[uH];intro r6 hr6;have s7:=aF hr6 (.lst (((cws.drop k).map aP).map V.str))
  have e7:(upd H6 r6 (.lst (((cws.drop k).map aP).map V.str))) r6=some (.lst (((cws.drop k).map aP).map V.str)):=aB
  generalize upd H6 r6 (.lst (((cws.drop k).map aP).map V.str))=H7 at s7 e7 ⊢;have s37:=s36.trans s7
  walk_at "g";refine⟨pl,r6,kvs,f,cws.drop k,rfl,s37 _ _ el,lk,hf1,e7,by rw[Ei];omega,λc hc=>hL c (List.mem_of_mem_drop hc),λH8 s8=>?_⟩
  walk_at "g";exact⟨_,rfl,s37.trans s8⟩
 .rintro U H4 ⟨v3,rfl,s4⟩;walk_at "g";exact q _
end
variable {A:List (Nat×Wt)}{ch:Wt->List Nat}{first w:Wt}{m:List (Wt×Nat)}{ws:List Wt}
def FnP(K:W.Frag)(x q:Str)(st:Stmt)(f:Addr):Prop:=∃(oc:Value) (od:Option Addr) (sl:Array (Option Value)) (kV dc pm:Value) (an:Option Addr) (cd ct:Value),K.lookup f=some ⟨oc,od,.func (W.fnOf x q (eO st) (dE st) (aK st) .none kV dc pm an cd ct),sl⟩/\W.codeIn K cd q=true/\W.keepIn K (.ref f)=true
abbrev FnG(K:W.Frag)(x:Str)(st:Stmt)(f:Addr):Prop:=W.nsIn K mainGlobals x=some (some (.ref f))/\FnP K x x st f
abbrev FnI(K:W.Frag)(C:Addr)(q:Str)(st:Stmt)(f:Addr):Prop:=W.findIn K (.ref C) "__init__"=some (some (.ref f))/\W.typeIn K (.ref f)=some (.type "function")/\FnP K "__init__" q st f
abbrev cXI(x q:Str)(st:Stmt)(ps:List Str):Prop:=∀(kV doc pm:Value) (an:Option Addr) (cdv ct:Value) (us:List Value),us.length=ps.length->bindArgs (W.fnOf x q (eO st) (dE st) (aK st) .none kV doc pm an cdv ct) ⟨us,[]⟩=pure (ps.zip us)
def FnP.c{P:Program}{w:World}{K:W.Frag}{base:Heap}{CX:CXT}{x q:Str}{st:Stmt}{ps:List Str}{sp:Sp}(p:FnP K x q st f)(o:∀ {fd:FuncData},Fun K x q st f fd->FnOk P w K mg base CX k f fd ps sp)(hb:cXI x q st ps):∃fd:FuncData,FnOk P w K mg base CX k f fd ps sp/\W.keepIn K (.ref f)=true/\Binds K fd ps []:=by
 obtain⟨_,_,_,_,_,_,_,_,_,l,c,k⟩:=p;have F:=aZZ (st:=st) l c k
 exact⟨_,o F,k,F.binds hb⟩
local macro_rules | `(tactic| walk_at "bd") => `(tactic| (intro a1 a2 a3 a4 a5 a6 us hl; iterate 7 (all_goals try (rcases us with _ | ⟨u,us⟩; (· first | rfl | (simp at hl)))); all_goals (simp at hl)))
def all_mk{l:W.OpenLaw}{w:World}{K:W.Frag}{h:Heap}{fa:Addr}{f_0 f_1 f_2 f_3 f_4 f_5 f_6 f_7 f_8 f_9 f_10 f_11 f_12 f_13 f_14 f_15 f_16 f_17 f_18 f_19 f_20:Addr}{t_SUBSTITUTES t_FLAGS:Tok}(X:K.In h)(Gn:h.Ns mainGlobals mg)(hfa:mg "law"=some (.ref fa))(q_Lack:W.nsIn K mainGlobals "Lack"=some (some (.ref Zo)))(q_TowerError:W.nsIn K mainGlobals "TowerError"=some (some (.ref Zz)))(q_NoBook:W.nsIn K mainGlobals "NoBook"=some (some (.ref Zw)))(q_NoCut:W.nsIn K mainGlobals "NoCut"=some (some (.ref Zr)))(q_NoDeed:W.nsIn K mainGlobals "NoDeed"=some (some (.ref Zs)))(q_NoFlag:W.nsIn K mainGlobals "NoFlag"=some (some (.ref Zt)))(q_NoHalyard:W.nsIn K mainGlobals "NoHalyard"=some (some (.ref Zy)))(q_NoHoist:W.nsIn K mainGlobals "NoHoist"=some (some (.ref Zx)))(q_NoRow:W.nsIn K mainGlobals "NoRow"=some (some (.ref Zq)))(q_NoText:W.nsIn K mainGlobals "NoText"=some (some (.ref Zv)))(q_NoWord:W.nsIn K mainGlobals "NoWord"=some (some (.ref Zu)))(q_Short:W.nsIn K mainGlobals "Short"=some (some (.ref Zp)))(p_0:FnG K "_law_word" lP f_0)(p_1:FnG K "_law_mixed" jU f_1)(p_2:FnG K "_law_words" jQ f_2)(p_3:FnG K "_law_locker" hZ f_3)(p_4:FnG K "_law_cell_at" fL f_4)(p_5:FnG K "_law_choices" fN f_5)(p_6:FnG K "_law_hangs" jR f_6)(p_7:FnG K "wants_of" eV f_7)(p_8:FnG K "choices_at" dD f_8)(p_9:FnG K "choices_of" eM f_9)(p_10:FnG K "plain_locker" dF f_10)(p_11:FnG K "hoists_of" fV f_11)(p_12:FnG K "asked_from" dC f_12)(p_13:FnG K "hang_along" eL f_13)(p_14:FnI K Zo "Lack.__init__" fP f_14)(p_15:FnG K "hang_all" cC f_15)(p_16:FnG K "_law_only_lack" dZ f_16)(p_17:FnG K "_law_lacks" gJ f_17)(p_18:FnG K "_law_again" jV f_18)(p_19:FnG K "_law_right" jK f_19)(p_20:FnG K "law" lB f_20)(z_range:W.nsIn K mainGlobals "range"=some none)(z_enumerate:W.nsIn K mainGlobals "enumerate"=some none)(z_len:W.nsIn K mainGlobals "len"=some none)(z_min:W.nsIn K mainGlobals "min"=some none)(z_str:W.nsIn K mainGlobals "str"=some none)(z_zip:W.nsIn K mainGlobals "zip"=some none)(z_isinstance:W.nsIn K mainGlobals "isinstance"=some none)(z_list:W.nsIn K mainGlobals "list"=some none)(z_int:W.nsIn K mainGlobals "int"=some none)(z_ValueError:W.nsIn K mainGlobals "ValueError"=some none)(z_sum:W.nsIn K mainGlobals "sum"=some none)(z_sorted:W.nsIn K mainGlobals "sorted"=some none)(z_bool:W.nsIn K mainGlobals "bool"=some none)(z_set:W.nsIn K mainGlobals "set"=some none)(z_dict:W.nsIn K mainGlobals "dict"=some none)(g_SUBSTITUTES:W.nsIn K mainGlobals "SUBSTITUTES"=some (some (.str "1234" t_SUBSTITUTES)))(g_FLAGS:W.nsIn K mainGlobals "FLAGS"=some (some (.str "abcdefghijklmnopqrstuvw1234" t_FLAGS)))(KF:KFs K Zo Zz Zw Zr Zs Zt Zy Zx Zq Zv Zu Zp):∃fd:FuncData,(∀(s:Shared) (v:Value),BindsTo s fd ⟨[v],[]⟩ [("_law_script",v)])/\∀base:Heap,K.In base->base.Ns mainGlobals mg->FnOk l.prog w K mg base CX0 6 fa fd ["_law_script"] (qI K):=by
 have M:∀ {x:Str} {v:Value},W.nsIn K mainGlobals x=some (some v)->mg x=some v:=λh=>W.mg_of X Gn h
 have N:∀ {x:Str},W.nsIn K mainGlobals x=some none->mg x=none:=λh=>W.mg_none_of X Gn h
 have e:=hfa.symm.trans (M p_20.1)
 cases e;have G:Gs K mg Zo Zz Zw Zr Zs Zt Zy Zx Zq Zv Zu Zp:=⟨KF,M q_Lack,M q_TowerError,M q_NoBook,M q_NoCut,M q_NoDeed,M q_NoFlag,M q_NoHalyard,M q_NoHoist,M q_NoRow,M q_NoText,M q_NoWord,M q_Short,N z_range,N z_enumerate,N z_len,N z_min,N z_str,N z_zip,N z_isinstance,N z_list,N z_int,N z_ValueError,N z_sum,N z_sorted,N z_bool,N z_set,N z_dict,⟨_,M g_SUBSTITUTES⟩,⟨_,M g_FLAGS⟩⟩
 obtain⟨_,_,_,kV,dc,pm,an,cd,ct,lk,hc,hk⟩:=p_20.2;have F:=aZZ (st:=lB) lk hc hk
 refine⟨W.fnOf "law" "law" (eO lB) (dE lB) (aK lB) .none kV dc pm an cd ct,λs v=>.of_eq rfl,λbase _ _=>?_⟩;have mk:∀ {CX:CXT} {k:Nat} {x:Str} {st:Stmt} {f:Addr} {ps:List Str} {sp:Sp},FnG K x st f->(∀ {fd:FuncData},Fun K x x st f fd->FnOk l.prog w K mg base CX k f fd ps sp)->cXI x x st ps->∃(f:Addr) (fd:FuncData),FnOk l.prog w K mg base CX k f fd ps sp/\mg x=some (.ref f)/\W.keepIn K (.ref f)=true/\Binds K fd ps []:=λp o hb=>by
  obtain⟨fd,a,b,c⟩:=p.2.c o hb;exact⟨_,fd,a,M p.1,b,c⟩
 have mi:∀ {k:Nat} {st:Stmt} {f:Addr} {ps:List Str} {sp:Sp} {C:Addr} {q:Str},FnI K C q st f->(∀ {fd:FuncData},Fun K "__init__" q st f fd->FnOk l.prog w K mg base CX0 k f fd ps sp)->cXI "__init__" q st ps->bXU l.prog w K mg base k C ps sp:=λp o hb=>by
  obtain⟨fd,a,b,c⟩:=p.2.2.c o hb;exact⟨_,fd,a,p.1,p.2.1,c⟩
 have t8:=mk p_0 (λF=>yG G F ) (by walk_at "bd")
 have z7:=mk p_1 (λF=>tO F G ) (by walk_at "bd")
 have q0:=mk p_2 (λF=>uD G F t8 z7) (by walk_at "bd")
 have p7:=mk p_3 (λF=>sT F G z7) (by walk_at "bd")
 have wS:=mk p_4 (λF=>qA G F ) (by walk_at "bd")
 have z6:=mk p_5 (λF=>qX G F ) (by walk_at "bd")
 have wE:=mk p_6 (λF=>tZ G F z6) (by walk_at "bd")
 have v9:=mk p_7 (λF=>tG G F ) (by walk_at "bd")
 have u0:=mk p_8 (λF=>nF G F ) (by walk_at "bd")
 have u5:=mk p_9 (λF=>mW F G v9 u0) (by walk_at "bd")
 have u6:=mk p_10 (λF=>kK G F ) (by walk_at "bd")
 have u7:=mk p_11 (λF=>qU G F ) (by walk_at "bd")
 have u8:=mk p_12 (λF=>mP G F ) (by walk_at "bd")
 have u9:=mk p_13 (λF=>mO F G ) (by walk_at "bd")
 have t5:=mi p_14 (λF=>pG G F ) (by walk_at "bd")
 have y9:=mk p_15 (λF=>sU G F u5 u6 u7 u8 u9 t5) (by walk_at "bd")
 have t9:=mk p_16 (λF=>mJ G F ) (by walk_at "bd")
 have z9:=mk p_17 (λF=>tM G F z6) (by walk_at "bd")
 have r9:=mk p_18 (λF=>uS G F y9 z9) (by walk_at "bd")
 have wT:=mk p_19 (λF=>vE G F wE y9 t9 z9 r9) (by walk_at "bd")
 exact cX6 G F q0 p7 wS wT
def walk{l:W.OpenLaw}{q:Program}{loose:List Str}{XP:(Q4)->Heap->Prop}{YP:World->Heap->Prop}{d:DefRec}{K:Params->W.Frag}(hn:l.most=some 63)(hdf:d.params.defaults=[])(hY:∀(w:World) (h:Heap),YP w h->(K w.params).In h)(F:∀(w:World) (mg:Q4) (fa:Addr) (h:Heap),(K w.params).In h->h.Ns mainGlobals mg->mg d.name=some (.ref fa)->
 ∃fd:FuncData,(∀(s:Shared) (u:Value),BindsTo s fd ⟨[u],[]⟩ [("_law_script",u)])/\∀base:Heap,(K w.params).In base->base.Ns mainGlobals mg->FnOk l.prog w (K w.params) mg base CX0 6 fa fd ["_law_script"] (qI (K w.params))):W.WalkO q loose XP YP l.row.toRowW d [] (λf vs=>PySem.call f vs):=
 L2.bQ1 (n:=63) (k:=6) (x := "_law_script") (CX:=λ_=>CX0) (sp:=λw=>qI (K w.params)) hn (by decide) hdf ⟨by decide,by decide⟩ hY F (λ_ _ a ns hl _ hS=>⟨a,ns,rfl,hS,hl,λ_=>rfl⟩) λ_ _ _ _ _ z=>z
end Mine
structure PySem.W.Fast:Prop where
(tw10741839697249641694 tw9360863480736011510 tw3719769332710628191 tw4217831685103733875 tw344850695297611116 tw15784170172839485258 tw18082928532587636748 tw1872145219741087466 tw12040676776148764894 tw1269324821605721716 tw10864283152838955859 tw17415810239972998583 tw16239603139671274198 tw16103874289391164079 tw5591205313630274634 tw7308004988571490948 tw10521399660447229571 tw5879882498755381443 tw14897995289764283499 tw9912893186209178163
tw7073160169307418837 tw17447199917668645435 tw7173456111233578048 tw5218591067422423151 tw16112447434829305859 tw17722477692948537319 tw15014586335933902519 tw6518645051872682701 tw12553966594261237878 tw9570656263733975557 tw3518100839583483462 tw12751043828710716855 tw16796551858115091936 tw9884766491402502699 tw1433525230043103838 tw10122005707499261011 tw12774070105724505287 tw11765500904892349557 tw15834526403893941100 tw15339068634395725330
tw16668875064852390616 tw7726130628948159391 tw2392945185230401092 tw16105125354602179657 tw11734288432089776625 tw10470549736478174278 tw3769388918551281715 tw17845809218973487093 tw8329927323083532303 tw8294176933867803372 tw11851860902510930225 tw5225237581084682944 tw8436182655148090100 tw15493982247721253357 tw16753535463635062847 tw4412591988665992040 tw13999949161998333831 tw1375307750115694537 tw11286323476213095344 tw17791406765266702642
tw2287948132730441227 tw4030918290850281489 tw5658214988549858131 tw3304933091821358405 tw15250082883581418645 tw17671997136322188368 tw4665023991639061713 tw8645371724887909391 tw861477706077163091 tw5653487179064539396 tw7893919299268648494 tw14122967640963965638 tw4140830213844541705 tw15031490792530445227 tw16195650856012538042 tw9855930286635433860 tw4087691510899562703 tw1682955111543532536 tw9428435759194111854 tw3475306275276990952
tw12573724355677986206 tw16973285335212920061 tw2980995855277024669 tw8657625324950123514 tw3973049793493378782 tw2822726833614242238 tw2829778296534105028 tw713499017919153809 tw11106313241506362604 tw10864005905994850234 tw10519577233709464720 tw7115213482103018910 tw3970845174669237700 tw17882888362998627897 tw3454162505991605699 tw14440901861758383940 tw13710296483198925326 tw12769175917790504442 tw5838337091114885899 tw2597363146506895572
tw684933364534728528 tw9861966043113253789 tw6542364416860381543 tw13919108947458509054 tw4730557549085876421 tw3252159414557625120 tw8749705714261123651 tw10449840153720503145 tw2727880031798194095 tw6017401365273704074 tw13510812763317151188 tw2250876538977286397 tw15677773642373586008 tw8290410386584513585 tw17990886770894125759 tw14468456558634971505 tw3540637559655988581 tw6373117629982356840 tw967152568207012497 tw1486319338180668512
tw12732833642004900513 tw5907106165624146775 tw12012899032363637507 tw8544060612920059219 tw17947926012198211973 tw14773866578586225167 tw5622109142400867597 tw11143196990330783443 tw11098145335049348301 tw12468650934444531760 tw13733704620669916862 tw3012663007643193981 tw11285391567816520586 tw16383443174892320274 tw6929296432805594627 tw12518014798322760313 tw12173426441620021692 tw13724329859205971803 tw8525622022424302136 tw5240151501538292421
tw17239625991433481748 tw5214501635978911717 tw7206206280576852243 tw2355585023035756934 tw14157629215971504114 tw11401872374939745284 tw5074891661372010478 tw4212348297264530284 tw4926525887039617039 tw4116383749032494747 tw14990429939820257367 tw12448056699636828036 tw2989633599832016716 tw6260974553499245806 tw11084235490359357810 tw12617588306595880798 tw10984452061615877474 tw5971931153953952452 tw17937849123841653427 tw18399669704256132352
tw638146644476721259 tw1960619141983281372 tw10950936135782127008 tw17698877005680114866 tw3437162328494126057 tw9235988535906825899 tw14336241616937974441 tw4203389891356777316 tw7146648919764057865 tw9192362890943908156 tw13761786821276326312 tw18063171393287364627 tw16171800239722370509 tw7360874998079581514 tw5003388891752150803 tw7320941688145711338 tw6425561121789624295 tw8788585734384219207 tw13649032792739667992 tw17082592581858328522
tw8825542684348419905 tw7886374214396068650 tw598655737859549067 tw6233570730932593186 tw18063739149826077721 tw9311166697646042770 tw6296362276819271856 tw12133928822038186184 tw857181496720985639 tw301888032481217502 tw11171811332351832845 tw5271655686440982522 tw955057992092929913 tw9854409080579776457 tw1004378199653090586 tw13523614426209933489 tw2346838817766797809 tw10781394175933703540 tw8940211583440767181 tw13450513726796899735
tw8173470296910162308 tw6863316757322693199 tw15362158676242955156 tw16101998644795208971 tw18117951006111136507 tw16943634074621475768 tw3988706398285249435 tw12542651372031954137 tw7281764958810439832 tw17989663080893553704 tw12959623082515146626 tw12390373380406536660 tw15813289397419201103 tw6964915084911099864 tw11025106920579054571 tw10674623093000423497 tw15761171839899648257 tw1480328544395681964 tw8012296960553839883 tw4020672972943907862
tw13122800825089713431 tw6266563172832725063 tw4109882866414540292 tw2387786517328902905 tw11707084151171341076 tw327357711679302543 tw15965870330998749814 tw6521196497277516050 tw5631563118412514908 tw2945970263574878879 tw2797720556577561101 tw8356392201294589147 tw17473084636356750333 tw10346169683317801289 tw767332233948856287 tw18432201863863756383 tw13935499518953374089 tw11662050651480348872 tw10280517999130028370 tw5168305618328977363
tw2024294064663427498 tw11792387444895540660 tw10279920653428284076 tw16359639586956897009 tw6706069340484372621 tw15104408791715087010 tw6278987333762677932 tw128210690531078283 tw14981800243208895688 tw1946207188670258880 tw4593180808928856046 tw13172952325814136162 tw4625334046408330316 tw13659259586463019614 tw6656520506246780872 tw2315504064312793528 tw15340222952944159257 tw14645987997216019484 tw5252942580137695643 tw11196387175977663048
tw17697648766183290913 tw14345027146521521199 tw8704604055624713072 tw16458035936590876216 tw8067944037709250458 tw7954874002681148484 tw6842632434239110732 tw8132462102662697026 tw3766938843085862835 tw14729778126570238563 tw2383132231154921253 tw2315686730700141461 tw13479169932792810980 tw15889805896364721190 tw7847106634631364133 tw9498888525024760574 tw9249117466653740151 tw2250774460340718526 tw18112749502745533418 tw1152081494007850084
tw93912213271083826 tw2925238656953546467 tw18181271902147968856 tw9761454804148621610 tw4029475023020188021 tw6896963215877242626 tw6627648043614405108 tw12174290761472665631 tw14403597561658320126 tw17390483608574905133 tw7831384394290082252 tw4644102968369751433 tw17434106370433758340 tw8519684237068711693 tw9093956731773332016 tw6197439752027746244 tw200816993041689321 tw742366793376843305 tw17531898716611861410 tw989984986736139953
tw8892941662316167819 tw2330602427045993990 tw13047905303486653162 tw11666174859016076010 tw11954114726901660127 tw11440311925191661243 tw11747500408239919054 tw4311193774849028088 tw16382532366952385861 tw3825176127848073553 tw4447999494762982397 tw13027176007564645833 tw1899217063582304297 tw15428997905659076959 tw13529506816169030511 tw18306368136493094554 tw15361468135468649650 tw11187378784047358008 tw4204191110271751164 tw16525710697033480594
tw2817250355628765475 tw4914699923591665985 tw9446685178446354872 tw76977384764848227 tw16727487908395497477 tw8052688989914831274 tw13130061291929369570 tw8244890151024650842 tw15313867406215058981 tw1965601916750119859 tw6285071627892469790 tw4274754243795432208 tw15119978222284664423 tw13742450389159768154 tw544925206230384201 tw801632963410394587 tw1960126717647668219:True)
open PySem PySem.W PyProof.Rows
set_option maxRecDepth 100000 in
set_option maxHeartbeats 0 in
theorem PySem.Challenge.cw_flaglocker_k13_hung_or_lacking_holds : PySem.Challenge.rw_flaglocker_k13_hung_or_lacking.Holds := by
  w_on; o_law; k_head; (case hw => w_witness2)
  k_fill
  refine Mine.walk (l:=PySem.Challenge.rw_flaglocker_k13_hung_or_lacking) rfl rfl (fun w h Y => PySem.W.kIn_of Y) ?F
  case F =>
    intro w mg fa h KX G hmg
    apply Mine.all_mk KX G hmg
    all_goals first | exact ⟨by k_is,_,_,_,_,_,_,_,_,_,by k_is,by k_is,by k_is⟩ | exact ⟨by k_is,by k_is,_,_,_,_,_,_,_,_,_,by k_is,by k_is,by k_is⟩ | k_is | kernel_rfl! | (constructor <;> first | k_is | k_exc | kts_exm | kit_is | kernel_rfl!)
