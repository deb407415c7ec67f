import PyProof.Rows.All
import Wide.All
import OpenK.AllK
import Wide.FinOn
import Lean
import PyProof.EqAt
import PyProof.EqKinds
import PyProof.TupleCall
import PySem.Challenge.RW_flaglocker_k54_lose_and_find
set_option Elab.async false
set_option compiler.extract_closed false
set_option linter.all false
set_option maxHeartbeats 4000000
set_option maxRecDepth 100000
abbrev Q0:=PySem.Value->PySem.Shared->Prop
abbrev Q2:=List (PySem.Addr × PySem.Obj)
abbrev Q3:=List (Option (List Nat))
abbrev Q4:=PySem.Str->Option PySem.Value
abbrev Q5:=List (List Nat)
abbrev Aa:=@List.getElem?_eq_getElem
abbrev Ab:=@List.length_map
abbrev Ac:=@List.getD_eq_getElem?_getD
abbrev Ad:=@List.getElem?_eq_some_iff
abbrev Ae:=@PySem.wpAny_bind
abbrev Af:=@List.length_append
abbrev Ag:=@PySem.Heap.get?_push_of_some
abbrev Ah:=@List.getElem?_map
abbrev Ai:=@Nat.le_refl
abbrev Aj:=@decide_eq_true
abbrev Ak:=@List.mem_singleton
abbrev Al:=@List.mem_cons_self
abbrev Am:=@List.mem_cons_of_mem
abbrev An:=@List.mem_of_getElem?
abbrev Ao:=@PySem.wpAny_pure
abbrev Ap:=@Bool.false_ne_true
abbrev Aq:=@List.getElem?_append_left
abbrev Ar:=@List.map_append
abbrev As:=@List.map_cons
abbrev Au:=@List.getElem?_append_right
abbrev Av:=@PySem.Heap.lt_size
abbrev Aw:=@decide_eq_false
abbrev Ax:=@List.length_cons
abbrev Ay:=@PySem.Heap.get?_push_size
abbrev Az:=@List.mem_cons
abbrev Ba:=@of_decide_eq_true
abbrev Bb:=@PySem.F.slot_dict_get
abbrev Bc:=@List.take_add_one
abbrev Bd:=@List.append_nil
abbrev Be:=@List.mem_append_right
abbrev Bf:=@Nat.lt_of_lt_of_le
abbrev Bg:=@List.mem_map
abbrev Bh:=@PySem.PassesOwn.never
abbrev Bi:=@Nat.le_trans
abbrev Bj:=@Nat.ne_of_lt
abbrev Bk:=@List.size_toArray
abbrev Bl:=@Option.some.inj
abbrev Bm:=@List.mem_append
abbrev Bo:=@decide_eq_true_iff
abbrev Bp:=@of_decide_eq_false
abbrev Bq:=@Bool.eq_false_iff
abbrev Br:=@List.take_length
abbrev Bs:=@List.range_succ
abbrev Bt:=@List.length_range
abbrev Bu:=@List.filterMap_append
abbrev Bv:=@PySem.F.type_dict_get
abbrev Bw:=@List.mem_range
abbrev Bx:=@List.length_take
abbrev By:=@PySem.F.plainAttrs_list
abbrev Bz:=@List.flatten_cons
abbrev Ca:=@List.getElem_mem
abbrev Cb:=@List.mem_append_left
abbrev Cc:=@List.nodup_cons
abbrev Cd:=@List.take_of_length_le
abbrev Ce:=@List.mem_iff_getElem
abbrev Cf:=@List.filterMap_nil
abbrev Cg:=@List.map_map
abbrev Ci:=@PySem.wpAny_mono
abbrev Cj:=@PySem.Heap.get?_update_other
abbrev Ck:=@PySem.wpAny_holding
abbrev Cm:=@Option.isSome_iff_exists
abbrev Co:=@List.length_filterMap_le
abbrev Cp:=@List.filterMap_cons_some
abbrev Cq:=@List.sum_cons
abbrev Cr:=@beq_eq_false_iff_ne
abbrev Cs:=@List.length_drop
abbrev Ct:=@PySem.F.excBase_ValueError
abbrev Cu:=@Option.map_eq_some_iff
abbrev Cv:=@List.length_set
abbrev Cw:=@List.filterMap_cons_none
abbrev Cy:=@List.nodup_append
abbrev Cz:=@Nat.add_sub_cancel_left
abbrev Da:=@List.getElem?_set_ne
abbrev Dc:=@Nat.zero_le
abbrev De:=@Array.getElem?_eq_some_iff
abbrev Df:=@PySem.W.kia_one
abbrev Dg:=@Int.emod_nonneg
abbrev Dh:=@List.getElem?_set_self
abbrev Di:=@List.lookup_cons
abbrev Dj:=@List.countP_cons
abbrev Dk:=@decide_eq_decide
abbrev Dm:=@PySem.mem_of_lookup
abbrev Do:=@List.map_congr_left
abbrev Dp:=@List.mem_filterMap
abbrev Dq:=@PySem.wpAny_Call_Name_kw
abbrev Dr:=@Int.emod_lt_of_pos
abbrev Ds:=@congrArg
abbrev Dt:=@List.all_eq_true
abbrev Du:=@PyProof.Rows.callWith_type1
abbrev Dv:=@Nat.lt_irrefl
abbrev Dw:=@List.replicate_succ
abbrev Dx:=@List.mem_filter
abbrev Dy:=@Array.getElem?_toList
abbrev Dz:=@List.mem_iff_getElem?
abbrev Ea:=@Bool.and_eq_true
abbrev Eb:=@PySem.F.slot_list_extend
abbrev Ec:=@PySem.F.type_list_extend
abbrev Ed:=@PySem.F.slot_list_append
abbrev Ee:=@PySem.F.type_list_append
abbrev Ef:=@PySem.codeAny_call_builtin
abbrev Eg:=@PySem.wpAny_typeNameOfWhole_keyiter
abbrev Eh:=@List.of_mem_zip
abbrev Ei:=@PySem.F.slot_dict_keyiterator_next
abbrev Ej:=@List.filterMap_cons
abbrev Ek:=@Array.length_toList
abbrev El:=@PySem.F.entry_dict_get
abbrev Em:=@PySem.tupleKind_room_in1
abbrev En:=@PySem.wpAny_passesOwn
abbrev Eo:=@Option.map_some
abbrev Ep:=@PySem.codeAny_mono
abbrev Er:=@PySem.wpAny_call
abbrev Et:=@List.flatMap_append
abbrev Eu:=@List.filter_sublist
abbrev Ew:=@List.getElem?_replicate
abbrev Ey:=@PySem.wpAny_getItem_str_slice
abbrev Ez:=@List.take_zero
abbrev Fa:=@List.eq_nil_of_length_eq_zero
abbrev Fb:=@Nat.ne_of_gt
abbrev Fc:=@beq_iff_eq
abbrev Fd:=@PySem.W.callWith_K
abbrev Fe:=@PySem.Calls.callWith_builtin
abbrev Ff:=@List.filter_append
abbrev Fg:=@Nat.sub_self
abbrev Fh:=@PySem.F.plainAttrs_str
abbrev Fi:=@List.countP_eq_length_filter
abbrev Fj:=@PySem.wpAny_standAt
abbrev Fk:=@PySem.W.methodCall_KW
abbrev Fl:=@List.length_replicate
abbrev Fm:=@List.getElem?_zipWith
abbrev Fn:=@PySem.wpAny_pyIter_list
abbrev Fo:=@PySem.wpAny_loadPart_at
abbrev Fp:=@List.flatMap_cons
abbrev Fq:=@PySem.Heap.get?_none_of_le
abbrev Fs:=@PySem.Heap.size_push
abbrev Ft:=@PySem.Calls.evalArgs_plain
abbrev Fu:=@List.getElem_inj
abbrev Fv:=@beq_self_eq_true
abbrev Fw:=@Nat.le_add_right
abbrev Fx:=@List.filter_cons
abbrev Fy:=@PySem.wpAny_call_entry
abbrev Fz:=@List.mem_flatMap
abbrev Ga:=@List.mem_or_eq_of_mem_set
abbrev Gb:=@List.take_succ_cons
abbrev Gc:=@List.getElem?_range
abbrev Gd:=@Bool.eq_iff_iff
abbrev Ge:=@Nat.not_lt_zero
abbrev Gf:=@List.countP_append
abbrev Gg:=@PySem.F.args_dict_get_2
abbrev Gh:=@PySem.F.plainAttrs_dict
abbrev Gi:=@PySem.wpAny_truthy_bool
abbrev Gj:=@List.take_sublist
abbrev Gk:=@List.map_nil
abbrev Gm:=@PySem.wpAny_Call_method_late
abbrev Gp:=@PySem.wpAny_newObj_type
abbrev Gq:=@PySem.wpAny_pyIter_enum
abbrev Gr:=@PySem.call_meetsIn
abbrev Gu:=@Int.toNat_natCast
abbrev Gv:=@Nat.min_eq_right
abbrev Gw:=@List.getElem_map
abbrev Gx:=@List.any_cons
abbrev Gy:=@PySem.wpAny_attempt
abbrev Gz:=@Bool.false_or
abbrev Ha:=@PySem.sizeLine_eq
abbrev Hb:=@Int.le_refl
namespace L2
open PySem PySem.Spec PyProof.Rows
variable {A:Around}{C a b dx:Addr}{E Q:Q0}{K:W.Frag}{M:Model}{N ps:List Str}{P:Program}{body:List Stmt}{ch fp:List Addr}{e tg:Expr}{es:List Expr}{f:Value->Value->Sem Value}{h h':Heap}{i k t':Nat}{kindOf:Str->Option NameKind}{kw:List (Str×Value)}{pins:Q2}{pl:Sem Bool}{pos:Pos}{s:Shared}{u:Value}{us:List Value}{w:World}{x:Str}
abbrev Key:=Sum Int Str
def mP:Key->Value->Bool
 |.inl k,v=>Value.isInt k v
 |.inr x,v=>Value.isStrOf x v
def eJQ(w:World):Key->Int
 |.inl k=>hashInt k
 |.inr x=>hashStr w x
def bV:∀ {k:Key} {v:Value},mP k v=true->(∃i t,k=Sum.inl i/\v=Value.int i t)\/(∃x t,k=Sum.inr x/\v=Value.str x t)
 |.inl i,v,h=>by
  obtain⟨t,e⟩:=Value.isInt_shape (k:=i) (v:=v) h;exact .inl ⟨i,t,rfl,e⟩
 |.inr x,v,h=>by
  obtain⟨t,e⟩:=Value.isStrOf_shape (x:=x) (v:=v) h;exact .inr ⟨x,t,rfl,e⟩
def bXF(i:Int)(t:Tok):mP (.inl i) (.int i t)=true:=by simp[mP,Value.isInt]
def lO(x:Str)(t:Tok):mP (.inr x) (.str x t)=true:=by simp[mP,Value.isStrOf]
def dJX(a b:Int):decide ((Sum.inl a:Key)=Sum.inl b)=(a==b):=by
 by_cases e:a=b
 ·subst e;simp
 ·have h:¬(Sum.inl a:Key)=Sum.inl b:=λq=>e (Sum.inl.inj q)
  rw[Aw h];exact(Cr.mpr e).symm
def dJI(a b:Str):decide ((Sum.inr a:Key)=Sum.inr b)=decide (a=b):=by
 by_cases e:a=b
 ·subst e;simp
 ·have h:¬(Sum.inr a:Key)=Sum.inr b:=λq=>e (Sum.inr.inj q)
  rw[Aw h,Aw e]
def eX4(a:Int)(b:Str):decide ((Sum.inl a:Key)=Sum.inr b)=false:=Aw (λq=>nomatch q)
def dJV(a:Str)(b:Int):decide ((Sum.inr a:Key)=Sum.inl b)=false:=Aw (λq=>nomatch q)
def bB(prog:Program)(w:World):PySem.KeyKind prog w Key where
 is:=mP
 hash:=eJQ w
 inj:=λv a b ha hb=>by
  rcases bV ha with⟨i,t,rfl,rfl⟩|⟨x,t,rfl,rfl⟩
  ·rcases bV hb with⟨j,u,rfl,e⟩|⟨y,u,rfl,e⟩
   ·injection e with e1 _;rw[e1]
   ·exact nomatch e
  ·rcases bV hb with⟨j,u,rfl,e⟩|⟨y,u,rfl,e⟩
   ·exact nomatch e
   ·injection e with e1 _;rw[e1]
 byValue:=λk v h=>by
  rcases bV h with⟨i,t,rfl,rfl⟩|⟨x,t,rfl,rfl⟩ <;> rfl
 pyHash:=λhv h=>by
  rcases bV hv with⟨i,t,rfl,rfl⟩|⟨x,t,rfl,rfl⟩
  ·exact wpAny_pyHash_int h
  ·exact wpAny_pyHash_str h
 eqBool:=λhu hv h=>by
  rcases bV hu with⟨i,t,rfl,rfl⟩|⟨x,t,rfl,rfl⟩
  ·rcases bV hv with⟨j,u,rfl,rfl⟩|⟨y,u,rfl,rfl⟩
   ·rw[dJX]at h;exact wpAny_eqBool_int h
   ·rw[eX4]at h;exact SeqAt.EqAt.int_str i t y u _ _ _ _ h
  ·rcases bV hv with⟨j,u,rfl,rfl⟩|⟨y,u,rfl,rfl⟩
   ·rw[dJV]at h;exact SeqAt.EqAt.str_int x t j u _ _ _ _ h
   ·rw[dJI]at h;exact wpAny_eqBool_str h
 «strs» := λk x t v h=>by
  rcases bV h with⟨i,u,rfl,e⟩|⟨y,u,rfl,e⟩
  ·exact nomatch e
  ·injection e with e1 _
   subst e1;cases v<;>rfl
def aQZ(prog:Program)(w:World)(i:Int)(t:Tok):(bB prog w).is (.inl i) (.int i t)=true:=bXF i t
def aQ7(prog:Program)(w:World)(x:Str)(t:Tok):(bB prog w).is (.inr x) (.str x t)=true:=lO x t
inductive V where
 |non|bl (b:Bool)|int (i:Int)|str (x:Str)|byt (b:Array UInt8)|flt (b:UInt64)|ref (a:Addr)|ty (n:String)
 deriving DecidableEq
variable {v:V}{xs:List V}
def RelV:V->Value->Prop
 |.non,u=>u=Value.none
 |.bl b,u=>u=Value.bool b
 |.int i,u=>∃t,u=Value.int i t
 |.str x,u=>∃t,u=Value.str x t
 |.byt b,u=>∃t,u=Value.bytes b t
 |.flt b,u=>∃t,u=Value.float b t
 |.ref a,u=>u=Value.ref a
 |.ty n,u=>u=Value.type n
abbrev Vals:List V->List Value->Prop:=Paired RelV
def Vals.length(r:Vals xs us):xs.length=us.length:=Paired.length r
def Vals.get:∀ {xs:List V} {us:List Value} {i:Nat} {x:V},Vals xs us->xs[i]?=some x->∃u,us[i]?=some u/\RelV x u
 |_,_,_,_,.nil,e=>by simp at e
 |_,_,0,_,.cons r _,e=>by simp at e;subst e;exact⟨_,rfl,r⟩
 |_,_,i+1,x,.cons _ t,e=>by
  obtain⟨u,h1,h2⟩:=Vals.get (i:=i) (x:=x) t (by simpa using e)
  exact⟨u,by simpa using h1,h2⟩
def Vals.set{x:V}(r:RelV x u):∀ {xs:List V} {us:List Value} (i:Nat),Vals xs us->Vals (xs.set i x) (us.set i u)
 |_,_,_,.nil=>.nil
 |_,_,0,.cons _ t=>.cons r t
 |_,_,i+1,.cons q t=>.cons q (Vals.set r i t)
def Vals.append:∀ {xs ys:List V} {us ws:List Value},Vals xs us->Vals ys ws->Vals (xs++ys) (us++ws)
 |_,_,_,_,.nil,s=>s
 |_,_,_,_,.cons r t,s=>.cons r (Vals.append t s)
def Vals.take:∀ {xs:List V} {us:List Value} (n:Nat),Vals xs us->Vals (xs.take n) (us.take n)
 |_,_,0,_=>.nil
 |_,_,_+1,.nil=>.nil
 |_,_,n+1,.cons r t=>.cons r (Vals.take n t)
def Vals.drop:∀ {xs:List V} {us:List Value} (n:Nat),Vals xs us->Vals (xs.drop n) (us.drop n)
 |_,_,0,r=>r
 |_,_,_+1,.nil=>.nil
 |_,_,n+1,.cons _ t=>Vals.drop n t
def RelO:Option V->Option Value->Prop
 |some v,some u=>RelV v u
 |none,none=>True
 |_,_=>False
def KV{κ:Type}:List (κ×V)->List (κ×Value)->Prop:=Paired λ(p:κ×V) (q:κ×Value)=>p.1=q.1/\RelV p.2 q.2
def kV:Key->V
 |.inl i=>.int i
 |.inr x=>.str x
inductive HO where
 |lst (xs:List V)
 |tup (xs:List V)
 |dK (kvs:List (Key×V))|dT (kvs:List (List Key×V))
 |set (S:Int->Bool) (n:Nat)
 |ins (C dx:Addr) (fs:List (Str×V))
 |own (x:Addr)
 |xd (fs:List (Str×V))
 |met (f x:Addr)
 |rng (lo hi:Int)
 |frz (o:Obj) (u:HO)
 |tbl (ps:Array Value)
 |ext (φ:Heap->Prop)
variable {o:HO}
abbrev Hp:=Addr->Option HO
variable {H:Hp}
def upd(H:Hp)(a:Addr)(o:HO):Hp:=λb=>if b=a then some o else H b
def aE:upd H a o a=some o:=by unfold upd;rw[if_pos rfl]
def aJ(h:b≠a):upd H a o b=H b:=by unfold upd;rw[if_neg h]
def bQQ{u:HO}:upd (upd H a o) a u=upd H a u:=by
 funext b;unfold upd;split<;>rfl
def eZM{u:HO}(h:H a=some o)(h':H b=some u)(d:o≠u):a≠b:=by
 intro e;subst e;rw[h]at h';exact d (Bl h')
def bL(h:H a=some o)(h':H b=none):a≠b:=by
 intro e;subst e;rw[h]at h';cases h'
section
variable (P:Program) (w:World)
def ObjOk(H:Hp)(h:Heap)(a:Addr):HO->Prop
 |.lst xs=>xs.length<=sizeLine/\∃(its:List Value) (n:Nat),Vals xs its/\h.get? a=some {cls:=.type "list",data:=.seq its.toArray n}
 |.tup xs=>xs.length<=sizeLine/\∃its:List Value,Vals xs its/\IsTup h a its.toArray
 |.dK kvs=>kvs.length<=sizeLine/\(a==sysModules)=false/\∃vs,KV kvs vs/\h.DictOf (bB P w) a vs
 | .dT kvs=>kvs.length<=sizeLine/\(a == sysModules)=false/\∃ xs:List (List Key×Addr×Value),
     Paired (λ(p:List Key×V) (q:List Key×Addr×Value)=>p.1=q.1/\H q.2.1=some (.tup (p.1.map kV))/\RelV p.2 q.2.2) kvs xs/\
     ∃o es ep,h.get? a=some o/\o.ExactDict/\o.data=.dict es ep/\es.toList=xs.map (entryOfKey (tupleKind (bB P w)))/\(xs.map (·.1)).Nodup
 |.set S n=>h.SetOf (intKind P w) a S n
 | .ins C dx fs=>H dx=some (.own a)/\fs.length<=1000/\dx≠a/\h.get? a=some (W.instObj C dx)/\
     ∃mA,h.Ns1 dx mA/\(∀f,RelO (fs.lookup f) (mA f))/\PySem.Within mA (fs.map (·.1))
 |.own _=>∃o,h.get? a=some o
 |.xd fs=>∃mA,h.Ns1 a mA/\∀f,RelO (fs.lookup f) (mA f)
 |.rng lo hi=>∃t u v,h.get? a=some {cls:=.type "range",data:=.fields #[.int lo t,.int hi u,.int 1 v]}
 |.frz o u=>h.get? a=some o/\ObjOk H h a u
 |.tbl ps=>h.get? a=some {cls:=.none,data:=.fields ps}
 |.met f x=>h.get? a=some (W.methodObj (.ref f) (.ref x))
 |.ext φ=>φ h/\(∃o,h.get? a=some o)/\∀h1 h2:Heap,φ h1->(∀o,h1.get? a=some o->h2.get? a=some o)->φ h2
def HOk(H:Hp)(h:Heap):Prop:=∀a o,H a=some o->ObjOk P w H h a o
end
section
variable {H':Hp}
def ObjOk.lt(x:ObjOk P w H h a o):a<h.objs.size:=by
 cases o with
 |lst xs=>obtain⟨_,_,_,_,e⟩:=x;exact Av e
 |tup xs=>obtain⟨_,_,_,p⟩:=x;exact p.lt
 |dK kvs=>obtain⟨_,_,_,_,o,_,_,e,_⟩:=x;exact Av e
 |dT kvs=>obtain⟨_,_,_,_,o,_,_,e,_⟩:=x;exact Av e
 |set S n=>obtain⟨o,_,_,_,e,_⟩:=x;exact Av e
 |ins C dx fs=>obtain⟨_,_,_,e,_⟩:=x;exact Av e
 |own y=>obtain⟨_,e⟩:=x;exact Av e
 |xd fs=>obtain⟨_,⟨_,_,_,e,_⟩,_⟩:=x;exact Av e
 |rng lo hi=>obtain⟨_,_,_,e⟩:=x;exact Av e
 |frz ob u=>obtain⟨e,_⟩:=x;exact Av e
 |tbl ps=>exact Av (show h.get? a=some _ from x)
 |met f y=>exact Av (show h.get? a=some _ from x)
 |ext φ=>obtain⟨_,⟨_,e⟩,_⟩:=x;exact Av e
def Paired.mapP{α β:Type}{F G:α->β->Prop}:∀ {l₁:List α} {l₂:List β},Paired F l₁ l₂->(∀a b,F a b->G a b)->Paired G l₁ l₂
 |_,_,.nil,_=>.nil
 |_,_,.cons r t,f=>.cons (f _ _ r) (Paired.mapP t f)
def ObjOk.stay(x:ObjOk P w H h a o)(k:∀b u,(b=a\/H b=some (.own a))->h.get? b=some u->h'.get? b=some u)(ho:∀b,H b=some (.own a)->H' b=some (.own a))(ht:∀b xs,H b=some (.tup xs)->H' b=some (.tup xs)):ObjOk P w H' h' a o:=by
 induction o with
 |lst xs=>obtain⟨z,its,n,r,e⟩:=x;exact⟨z,its,n,r,k _ _ (.inl rfl) e⟩
 |tup xs=>obtain⟨z,its,r,ob,e,c⟩:=x;exact⟨z,its,r,ob,k _ _ (.inl rfl) e,c⟩
 |dK kvs=>obtain⟨z,y,vs,r,ob,es,ep,e,c⟩:=x;exact⟨z,y,vs,r,ob,es,ep,k _ _ (.inl rfl) e,c⟩
 |dT kvs=>
  obtain⟨z,y,xs,r,ob,es,ep,e,c⟩:=x;exact⟨z,y,xs,Paired.mapP r λp q z=>⟨z.1,ht _ _ z.2.1,z.2.2⟩,ob,es,ep,k _ _ (.inl rfl) e,c⟩
 |set S n=>obtain⟨ob,es,ep,t,e,c⟩:=x;exact⟨ob,es,ep,t,k _ _ (.inl rfl) e,c⟩
 |ins C dx fs=>
  obtain⟨d,z,ne,e,mA,⟨od,es,ep,e2,c⟩,r⟩:=x;exact⟨ho _ d,z,ne,k _ _ (.inl rfl) e,mA,⟨od,es,ep,k _ _ (.inr d) e2,c⟩,r⟩
 |own y=>obtain⟨ob,e⟩:=x;exact⟨ob,k _ _ (.inl rfl) e⟩
 |xd fs=>obtain⟨mA,⟨od,es,ep,e,c⟩,r⟩:=x;exact⟨mA,⟨od,es,ep,k _ _ (.inl rfl) e,c⟩,r⟩
 |rng lo hi=>obtain⟨t,u,v,e⟩:=x;exact⟨t,u,v,k _ _ (.inl rfl) e⟩
 |frz ob u ih=>obtain⟨e,q⟩:=x;exact⟨k _ _ (.inl rfl) e,ih q⟩
 |tbl ps=>
  have e:h.get? a=some {cls:=.none,data:=.fields ps}:=x
  show h'.get? a=some {cls:=.none,data:=.fields ps}
  exact k a _ (.inl rfl) e
 |met f y=>
  have e:h.get? a=some (W.methodObj (.ref f) (.ref y)):=x
  show h'.get? a=some (W.methodObj (.ref f) (.ref y))
  exact k a _ (.inl rfl) e
 |ext φ=>obtain⟨p,⟨o,e⟩,st⟩:=x;exact⟨st _ _ p λo q=>k _ _ (.inl rfl) q,⟨o,k _ _ (.inl rfl) e⟩,st⟩
def HOk.lt(x:HOk P w H h)(e:H a=some o):a<h.objs.size:=(x a o e).lt
def HOk.fresh(x:HOk P w H h)(e:h.objs.size<=a):H a=none:=by
 cases q:H a with
 |none=>rfl
 |some u=>exact absurd (Bf (x.lt q) e) (Dv _)
def HOk.kept(x:HOk P w H h)(k:∀b u,h.get? b=some u->h'.get? b=some u):HOk P w H h':=λa o e=>
 (x a o e).stay (λb u _ q=>k b u q) (λ_ q=>q) λ_ _ q=>q
def HOk.laid(x:HOk P w H h)(k:∀b u,h.get? b=some u->h'.get? b=some u)(hp:h.objs.size<=a)(new:ObjOk P w (upd H a o) h' a o):HOk P w (upd H a o) h':=λb u e=>by
 have hn:=x.fresh hp
 by_cases hb:b=a
 ·subst hb;rw[aE]at e;cases e;exact new
 ·rw[aJ hb]at e;exact(x b u e).stay (λc v _ q=>k c v q) (λc q=>by rw[aJ (bL q hn)];exact q) λc xs q=>by rw[aJ (bL q hn)];exact q
end
def Rd(H:Hp)(a:Addr)(u:HO):Prop:=H a=some u\/∃o,H a=some (.frz o u)
def Rd.ok{u:HO}(r:Rd H a u)(x:HOk P w H h):ObjOk P w H h a u:=by
 rcases r with r|⟨o,r⟩
 ·exact x a u r
 ·obtain⟨_,q⟩:=x a _ r;exact q
def Mut:Option HO->Prop
 |some (.lst _)=>True
 |some (.dK _)=>True
 |some (.dT _)=>True
 |some (.set _ _)=>True
 |some (.ins _ _ _)=>True
 |some (.ext _)=>True
 |_=>False
section
variable {x e:Addr} {o':HO}
def HOk.write(ok:HOk P w H h)(mu:Mut (H x))(he:e=x\/H e=some (.own x))(k:∀b u,b≠e->h.get? b=some u->h'.get? b=some u)(heo:∃u,h'.get? e=some u)(new:ObjOk P w (upd H x o') h' x o'):HOk P w (upd H x o') h':=λb u q=>by
 have nown:∀c y,H c=some (.own y)->c≠x:=λc y r z=>by subst z;rw[r]at mu;exact mu
 have ntup:∀c xs,H c=some (.tup xs)->c≠x:=λc xs r z=>by subst z;rw[r]at mu;exact mu
 by_cases hb:b=x
 ·subst hb;rw[aE]at q;cases q;exact new
 ·rw[aJ hb]at q;by_cases hbe:b=e
  ·have q':H b=some (.own x):=by
    rcases he with z|z
    ·exact absurd (hbe.trans z) hb
    ·rw[hbe];exact z
   rw[q]at q';cases q';obtain⟨v,hv⟩:=heo;exact⟨v,by rw[hbe];exact hv⟩
  ·refine(ok b u q).stay (λc v hc r=>k c v ?_ r) (λc r=>by rw[aJ (nown c b r)];exact r) λc xs r=>by rw[aJ (ntup c xs r)];exact r
   rcases hc with rfl|hc
   ·exact hbe
   ·rintro rfl;rcases he with z|z
    ·exact nown c b hc z
    ·rw[hc]at z;cases z;exact hb rfl
end
structure Un (fs ex:List Addr) (H H':Hp) (h h':Heap):Prop where
 keep:∀b o,h.get? b=some o->H b=none->b∉fs->b∉ex->h'.get? b=some o
 slot:∀b o,h.get? b=some o->H b=none->b∈fs->b∉ex->∃sl,h'.get? b=some {o with slots:=sl}
 free:∀b o,h.get? b=some o->H b=none->b∉ex->H' b=none
 there:∀b o,h.get? b=some o->b∉ex->∃o',h'.get? b=some o'
 tups:∀b xs,H b=some (.tup xs)->H' b=some (.tup xs)
 frzs:∀b o u,H b=some (.frz o u)->H' b=some (.frz o u)
 tbls:∀b ps,H b=some (.tbl ps)->∃more,H' b=some (.tbl (ps++more))
section
variable {fs fs' ex ex':List Addr} {H1 H2:Hp} {h1 h2:Heap} {x e:Addr}
def Un.any(u:Un fs ex H H1 h h1){ob:Obj}(q:h.get? b=some ob)(n:H b=none)(hx:b∉ex):∃sl,h1.get? b=some {ob with slots:=sl}:=by
 by_cases hb:b∈fs
 ·exact u.slot b ob q n hb hx
 ·exact⟨ob.slots,u.keep b ob q n hb hx⟩
def Un.trans(a:Un fs ex H H1 h h1)(b:Un fs ex H1 H2 h1 h2):Un fs ex H H2 h h2 where
 keep:=λc ob q n hc hx=>b.keep c ob (a.keep c ob q n hc hx) (a.free c ob q n hx) hc hx
 slot:=λc ob q n hc hx=>by
  obtain⟨sl,e1⟩:=a.slot c ob q n hc hx;obtain⟨sl',e2⟩:=b.slot c _ e1 (a.free c ob q n hx) hc hx;exact⟨sl',e2⟩
 free:=λc ob q n hx=>by
  obtain⟨o',e1⟩:=a.there c ob q hx;exact b.free c o' e1 (a.free c ob q n hx) hx
 there:=λc ob q hx=>by
  obtain⟨o',e1⟩:=a.there c ob q hx;exact b.there c o' e1 hx
 tups:=λc xs q=>b.tups c xs (a.tups c xs q)
 frzs:=λc ob xs q=>b.frzs c ob xs (a.frzs c ob xs q)
 tbls:=λc ps q=>by
  obtain⟨m1,e1⟩:=a.tbls c ps q;obtain⟨m2,e2⟩:=b.tbls c _ e1;exact⟨m1++m2,by rw[e2,Array.append_assoc]⟩
def Un.kept(k:∀b u,h.get? b=some u->h'.get? b=some u):Un fs ex H H h h':=
 ⟨λb ob q _ _ _=>k b ob q,λb ob q _ _ _=>⟨ob.slots,k b ob q⟩,λ_ _ _ n _=>n,λb ob q _=>⟨ob,k b ob q⟩,λ_ _ q=>q,λ_ _ _ q=>q,λ_ ps q=>⟨#[],by rw[q];simp⟩⟩
def Un.refl:Un fs ex H H h h:=Un.kept λ_ _ q=>q
def Un.laid(k:∀b u,h.get? b=some u->h'.get? b=some u)(hp:h.objs.size<=a)(hn:H a=none):Un fs ex H (upd H a o) h h' where
 keep:=λb u q _ _ _=>k b u q
 slot:=λb u q _ _ _=>⟨u.slots,k b u q⟩
 free:=λb u q n _=>by rw[aJ (Bj (Bf (Av q) hp))];exact n
 there:=λb u q _=>⟨u,k b u q⟩
 tups:=λb xs q=>by rw[aJ (bL q hn)];exact q
 frzs:=λb u xs q=>by rw[aJ (bL q hn)];exact q
 tbls:=λb ps q=>⟨#[],by rw[aJ (bL q hn),q];simp⟩
def Un.write(mu:Mut (H x))(he:e=x\/H e=some (.own x))(k:∀b u,b≠e->h.get? b=some u->h'.get? b=some u)(heo:∃u,h'.get? e=some u):Un fs ex H (upd H x o) h h':=by
 have hx:∀b,H b=none->b≠x:=λb n z=>by subst z;rw[n]at mu;exact mu
 have hb:∀b,H b=none->b≠e:=λb n z=>by
  subst z;rcases he with r|r
  ·exact hx b n r
  ·rw[n]at r;cases r
 have hm:∀b u,H b=some u->¬Mut (some u)->b≠x:=λb u q nm z=>by subst z;rw[q]at mu;exact nm mu
 refine⟨λb u q n _ _=>k b u (hb b n) q,λb u q n _ _=>⟨u.slots,k b u (hb b n) q⟩,λb u q n _=>by rw[aJ (hx b n)];exact n,λb u q _=>?_,
  λb xs q=>by rw[aJ (hm b _ q λz=>z)];exact q,λb u xs q=>by rw[aJ (hm b _ q λz=>z)];exact q,λb ps q=>⟨#[],by rw[aJ (hm b _ q λz=>z),q];simp⟩⟩
 by_cases hbe:b=e
 ·subst hbe;exact heo
 ·exact⟨u,k b u hbe q⟩
def Un.mono(u:Un fs ex H H1 h h1)(hs:∀b∈fs,b∈fs')(hx:∀b∈ex,b∈ex'):Un fs' ex' H H1 h h1:=
 ⟨λb ob q n hb he=>u.keep b ob q n (λz=>hb (hs b z)) λz=>he (hx b z),λ_ _ q n _ he=>u.any q n λz=>he (hx _ z),λb ob q n he=>u.free b ob q n λz=>he (hx b z),λb ob q he=>u.there b ob q λz=>he (hx b z),u.tups,u.frzs,u.tbls⟩
end
def trk(h:Heap)(H:Hp):List Addr:=(List.range h.objs.size).filter λa=>(H a).isSome
def vD(h:Heap)(H:Hp):Heap:=W.hideAll h (trk h H)
def bX7(h:Heap)(H:Hp):(vD h H).objs.size=h.objs.size:=W.hideAll_size _ _
def cXZ{o:Obj}(e:h.get? b=some o)(n:H b=none):(vD h H).get? b=some o:=
 W.hideAll_get _ e λhm=>by
  have q:(H b).isSome=true:=(Dx.mp hm).2
  rw[n]at q;simp at q
def dX0{o:Obj}(e:(vD h H).get? b=some o):h.get? b=some o/\H b=none:=by
 have e':h.get? b=some o:=W.of_hideAll (trk h H) e
 refine⟨e',?_⟩;cases q:H b with
 |none=>rfl
 |some x=>
  have hm:b∈trk h H:=List.mem_filter.mpr ⟨List.mem_range.mpr (Heap.lt_size e'),by simp[q]⟩
  have z:(vD h H).get? b=none:=W.hideAll_none (trk h H) hm
  rw[z]at e;cases e
def dXU(g h:Heap)(L:Addr):List (Addr×Obj):=(List.range h.objs.size).filterMap λa=>if a=L\/(g.get? a).isSome=true then none else (h.get? a).map λo=>(a,o)
def rest(g h:Heap)(L d:Addr):List (Addr×Obj):=(dXU g h L).filter λp=>decide (p.1≠d)
structure Mod (K:W.Frag) (mg:Str->Option Value) (base:Heap):Prop where
 kin:K.In base
 glob:base.Ns mainGlobals mg
 blt:∃mb,base.Ns builtinsNs mb/\∀x:Str,x≠"__name__"->mb x=bootBuiltins x
 nolimit:base.NoLimit
structure Cx where
 prog:Program
 w:World
 K:W.Frag
 mg:Str->Option Value
 base:Heap
 A:Around
 N:List Str
 s₀:Shared
 H₀:Hp
 env:Env
 outer:List Env
 stack:List Env
 ex:List Addr
 fn:Str->Bool
 calm:Bool
 pn:List (Addr×Obj)
 xe:Value->Shared->Prop
variable {X:Cx}
def frs(l:List Env):List Addr:=l.filterMap (·.frame)
abbrev Cx.fs(X:Cx):List Addr:=frs X.outer
def Vis(sc:Scope)(x:Str):Prop:=sc.names.lookup x=some .local\/sc.names.lookup x=some .cell\/sc.names.lookup x=some .free
def Loc(sc:Scope)(x:Str):Prop:=sc.names.lookup x=some .local\/sc.names.lookup x=some .cell
def fQY(env:Env)(h:Heap)(m:Str->Option Value)(x:Str)(u:Value):Prop:=
 (env.kindOf x=some .local/\m x=some u)\/((env.kindOf x=some .cell\/env.kindOf x=some .free)/\∃c,env.cells.lookup x=some c/\h.IsCell c (some u))
structure Cx.Ok (X:Cx):Prop where
 mod:Mod X.K X.mg X.base
 kind:X.env.scope.kind=.function
 glob:X.env.globals=mainGlobals
 blt:X.env.builtins=builtinsNs
 above:X.s₀.heap.objs.size<=X.env.locals
 inj:∀x y c,X.env.cells.lookup x=some c->X.env.cells.lookup y=some c->x=y
 has:∀x,(X.env.kindOf x=some .cell\/X.env.kindOf x=some .free)->∃c,X.env.cells.lookup x=some c
 cab:∀x c,X.fn x=true->X.env.cells.lookup x=some c->X.s₀.heap.objs.size<=c
 hd:X.calm=true->X.A.handled=none
 frames:X.A.frames=some X.stack
 stk:X.stack=X.outer\/(X.stack=X.env::X.outer/\X.env.frame=some X.env.locals)
 exf:∀b∈X.ex,b≠X.env.locals/\∀x c,X.env.cells.lookup x=some c->c≠b
 bs:∀b o,X.base.get? b=some o->X.s₀.heap.get? b=some o/\X.H₀ b=none
 bsz:X.base.objs.size<=X.s₀.heap.objs.size
 noex:∀b o,X.base.get? b=some o->b∉X.ex
 exfs:∀b∈X.ex,b∉X.fs
 funs:X.s₀.heap.FunFrames X.base X.outer
 frf:∀b∈X.fs,X.H₀ b=none
structure Inv (X:Cx) (pins:List (Addr×Obj)) (σ:List (Option V)) (H:Hp) (s:Shared):Prop where
 ok:X.Ok
 os:s.os=X.s₀.os
 bare:AllBare s.gens
 base:Un X.fs X.ex X.H₀ H X.s₀.heap s.heap
 loc:∃m,s.heap.Ns X.env.locals m/\∀(i:Nat) (x:Str) (v:V),X.N[i]?=some x->σ[i]?=some (some v)->Vis X.env.scope x->∃u,RelV v u/\fQY X.env s.heap m x u
 cell:∀x c,X.env.cells.lookup x=some c->∃v,s.heap.IsCell c v
 free:H X.env.locals=none
 freeC:∀x c,X.env.cells.lookup x=some c->H c=none
 pin:∀p∈X.pn++pins,s.heap.get? p.1=some p.2/\H p.1=none/\p.1≠X.env.locals/\p.1∉X.fs/\∀v,p.2.data≠.cell v
 hok:HOk X.prog X.w H s.heap
 len:σ.length=X.N.length
section
variable {σ:List (Option V)} {H':Hp}
def Cx.Ok.nofr(ok:X.Ok){o:Obj}(e:X.base.get? b=some o):b∉X.fs:=λhb=>by
 have:=(ok.funs.mem hb).1
 rw[e]at this;cases this
def Inv.bs(I:Inv X pins σ H s):∀b o,X.base.get? b=some o->s.heap.get? b=some o/\H b=none:=λb o e=>
 ⟨I.base.keep b o (I.ok.bs b o e).1 (I.ok.bs b o e).2 (I.ok.nofr e) (I.ok.noex b o e),I.base.free b o (I.ok.bs b o e).1 (I.ok.bs b o e).2 (I.ok.noex b o e)⟩
def Inv.bk(I:Inv X pins σ H s):∀b o,X.base.get? b=some o->s.heap.get? b=some o:=λb o e=>(I.bs b o e).1
def Inv.mod(I:Inv X pins σ H s):Mod X.K X.mg X.base:=I.ok.mod
def Inv.kIn(I:Inv X pins σ H s):X.K.In s.heap:=I.ok.mod.kin.keeps I.bk
def Inv.fr(I:Inv X pins σ H s):∃m,Fr X.base X.env.locals s.heap m:=
 let ⟨m,hn,_⟩:=I.loc
 ⟨m,hn,I.bk,Bi I.ok.bsz I.ok.above⟩
def Inv.lt(I:Inv X pins σ H s):X.env.locals<s.heap.objs.size:=let ⟨_,hn,_⟩:=I.loc;hn.lt
def Inv.sz(I:Inv X pins σ H s):X.s₀.heap.objs.size<=s.heap.objs.size:=Bi I.ok.above (Nat.le_of_lt I.lt)
def Inv.nofs(I:Inv X pins σ H s)(h:s.heap.objs.size<=a):a∉X.fs:=λhb=>by
 obtain⟨_,o,ho,_⟩:=I.ok.funs.mem hb;exact absurd (Bf (Av ho) (Bi I.sz h)) (Dv _)
def Inv.cne(I:Inv X pins σ H s):∀x c,X.env.cells.lookup x=some c->c≠X.env.locals:=λx c e z=>by
 obtain⟨v,o,ho,hd⟩:=I.cell x c e;obtain⟨m,⟨o',es,ep,ho',hd',_⟩,_⟩:=I.loc;rw[z,ho']at ho;cases ho;rw[hd']at hd;cases hd
def Inv.funs(I:Inv X pins σ H s):s.heap.FunFrames X.base X.outer:=by
 have all:∀(l:List Env),(∀b∈frs l,b∈X.fs)->X.s₀.heap.FunFrames X.base l->s.heap.FunFrames X.base l:=by
  intro l;induction l with
  |nil=>intro _ _;trivial
  |cons env r ih=>
   intro hs hl;obtain⟨hk,⟨L,o,hf,hn,ho,hd⟩,hr⟩:=hl;have hL:L∈X.fs:=hs L (by unfold frs;rw[Ej,hf];exact Al)
   obtain⟨sl,e⟩:=I.base.slot L o ho (I.ok.frf L hL) hL λz=>I.ok.exfs L z hL;exact⟨hk,⟨L,_,hf,hn,e,hd⟩,ih (λb hb=>hs b (by unfold frs;rw[Ej,hf];exact Am _ hb)) hr⟩
 exact all X.outer (λ_ hb=>hb) I.ok.funs
def Inv.stack(I:Inv X pins σ H s):s.heap.FunFrames X.base X.stack:=by
 rcases I.ok.stk with e|⟨e,hf⟩
 ·rw[e];exact I.funs
 ·rw[e];obtain⟨m,hn,_⟩:=I.loc;refine .cons (by rw[I.ok.kind];decide) hf hn ?_ I.funs
  exact Fq (Bi I.ok.bsz I.ok.above)
def Inv.stkSub(I:Inv X pins σ H s):∀b∈frs X.stack,b∈X.env.locals::X.fs:=λb hb=>by
 rcases I.ok.stk with e|⟨e,hf⟩
 ·rw[e]at hb;exact Am _ hb
 ·rw[e]at hb;unfold frs at hb;rw[Ej,hf]at hb;exact hb
def Inv.stkFree(I:Inv X pins σ H s):∀b∈frs X.stack,H b=none:=λb hb=>by
 rcases Az.mp (I.stkSub b hb) with e|hb
 ·rw[e];exact I.free
 ·obtain⟨_,o,ho,_⟩:=I.ok.funs.mem hb;exact I.base.free b o ho (I.ok.frf b hb) λz=>I.ok.exfs b z hb
def Inv.step{g':Array GenState}{d':Drawn}{ch:List Addr}(I:Inv X pins σ H s)(hch:∀b∈ch,(b∈X.ex\/X.s₀.heap.objs.size<=b)/\b≠X.env.locals/\(∀x c,X.env.cells.lookup x=some c->c≠b)/\∀p∈X.pn++pins,p.1≠b)(keep:∀b o,b≠X.env.locals->b∉X.fs->b∉ch->s.heap.get? b=some o->H b=none->h'.get? b=some o)(slot:∀b o,b≠X.env.locals->b∈X.fs->b∉ch->s.heap.get? b=some o->H b=none->∃sl,h'.get? b=some {o with slots:=sl})(free:∀b o,b∉ch->s.heap.get? b=some o->H b=none->H' b=none)(there:∀b o,b∉ch->s.heap.get? b=some o->∃o',h'.get? b=some o')(tups:∀b xs,H b=some (.tup xs)->H' b=some (.tup xs))(frzs:∀b o u,H b=some (.frz o u)->H' b=some (.frz o u))(tbls:∀b ps,H b=some (.tbl ps)->∃more,H' b=some (.tbl (ps++more)))(ns:∀m,s.heap.Ns X.env.locals m->h'.Ns X.env.locals m)(hok:HOk X.prog X.w H' h')(hg:AllBare g'):Inv X pins σ H' {s with heap:=h',gens:=g',drawn:=d',toks:=t'}:=by
 have neL:∀b o,X.s₀.heap.get? b=some o->b≠X.env.locals:=λb o e=>Bj (Bf (Av e) I.ok.above)
 have neC:∀b o,X.s₀.heap.get? b=some o->b∉X.ex->b∉ch:=λb o e hx hb=>by
  rcases (hch b hb).1 with z|z
  ·exact hx z
  ·exact absurd (Bf (Av e) z) (Dv _)
 have cellK:∀x c,X.env.cells.lookup x=some c->∀v,s.heap.IsCell c v->h'.IsCell c v:=λx c e v ⟨o,ho,hd⟩=>by
  have nch:c∉ch:=λz=>(hch c z).2.2.1 x c e rfl
  by_cases hc:c∈X.fs
  ·obtain⟨sl,q⟩:=slot c o (I.cne x c e) hc nch ho (I.freeC x c e);exact⟨_,q,hd⟩
  ·exact⟨o,keep c o (I.cne x c e) hc nch ho (I.freeC x c e),hd⟩
 refine⟨I.ok,I.os,hg,⟨λb o e n hb hx=>?_,λb o e n hb hx=>?_,λb o e n hx=>?_,λb o e hx=>?_,λb xs e=>tups b xs (I.base.tups b xs e),λb o xs e=>frzs b o xs (I.base.frzs b o xs e),λb ps e=>?_⟩,?_,λx c e=>?_,?_,λx c e=>?_,λp hp=>?_,hok,I.len⟩
 ·exact keep b o (neL b o e) hb (neC b o e hx) (I.base.keep b o e n hb hx) (I.base.free b o e n hx)
 ·obtain⟨sl,e1⟩:=I.base.slot b o e n hb hx;obtain⟨sl',e2⟩:=slot b _ (neL b o e) hb (neC b o e hx) e1 (I.base.free b o e n hx);exact⟨sl',e2⟩
 ·obtain⟨o',e1⟩:=I.base.there b o e hx;exact free b o' (neC b o e hx) e1 (I.base.free b o e n hx)
 ·obtain⟨o',e1⟩:=I.base.there b o e hx;exact there b o' (neC b o e hx) e1
 ·obtain⟨m1,e1⟩:=I.base.tbls b ps e;obtain⟨m2,e2⟩:=tbls b _ e1;exact⟨m1++m2,by rw[e2,Array.append_assoc]⟩
 ·obtain⟨m,hn,hl⟩:=I.loc;refine⟨m,ns m hn,λi x v e1 e2 e3=>?_⟩;obtain⟨u,r,l⟩:=hl i x v e1 e2 e3;refine⟨u,r,?_⟩;rcases l with l|⟨k,c,e,z⟩
  ·exact .inl l
  ·exact .inr ⟨k,c,e,cellK x c e _ z⟩
 ·obtain⟨v,z⟩:=I.cell x c e;exact⟨v,cellK x c e v z⟩
 ·obtain⟨m,⟨o,_,_,ho,_⟩,_⟩:=I.loc;exact free _ o (λz=>(hch _ z).2.1 rfl) ho I.free
 ·obtain⟨v,o,ho,hd⟩:=I.cell x c e;exact free c o (λz=>(hch c z).2.2.1 x c e rfl) ho (I.freeC x c e)
 ·obtain⟨e,n,ne,nf,d⟩:=I.pin p hp;have nch:p.1∉ch:=λz=>(hch p.1 z).2.2.2 p hp rfl
  exact⟨keep p.1 p.2 ne nf nch e n,free p.1 p.2 nch e n,ne,nf,d⟩
def Inv.un{t':Nat}(I:Inv X pins σ H s)(u:Un X.fs [] H H' s.heap h')(hok:HOk X.prog X.w H' h'):Inv X pins σ H' {s with heap:=h',toks:=t'}:=by
 obtain⟨m,⟨o,es,ep,ho,r⟩,_⟩:=id I.loc;obtain⟨sl,hL⟩:=u.any ho I.free (by simp)
 exact I.step (g':=s.gens) (d':=s.drawn) (ch:=[]) (λ_ z=>nomatch z) (λb o _ hb _ e n=>u.keep b o e n hb (by simp)) (λb o _ hb _ e n=>u.slot b o e n hb (by simp)) (λb o _ e n=>u.free b o e n (by simp)) (λb o _ e=>u.there b o e (by simp)) u.tups u.frzs u.tbls (λm' hm=>by
  obtain⟨o',es',ep',ho',r'⟩:=hm;rw[ho]at ho';cases ho';exact⟨_,es',ep',hL,r'⟩) hok I.bare
def Inv.call{g':Array GenState}{t':Nat}{d':Drawn}{ch:List Addr}(I:Inv X pins σ H s)(u:Un (frs X.stack) ch H H' s.heap h')(hok:HOk X.prog X.w H' h')(hg:AllBare g')(hch:∀b∈ch,(b∈X.ex\/X.s₀.heap.objs.size<=b)/\b≠X.env.locals/\(∀x c,X.env.cells.lookup x=some c->c≠b)/\∀p∈X.pn++pins,p.1≠b):Inv X pins σ H' {s with heap:=h',gens:=g',drawn:=d',toks:=t'}:=by
 obtain⟨m,⟨o,es,ep,ho,r⟩,_⟩:=id I.loc;obtain⟨sl,hL⟩:=u.any ho I.free λz=>(hch _ z).2.1 rfl;exact I.step (ch:=ch) hch (λb o hL hb hc e n=>u.keep b o e n (λz=>(Az.mp (I.stkSub b z)).elim hL hb) hc) (λb o _ _ hc e n=>u.any e n hc) (λb o hc e n=>u.free b o e n hc) (λb o hc e=>u.there b o e hc) u.tups u.frzs u.tbls (λm' hm=>by
  obtain⟨o',es',ep',ho',r'⟩:=hm;rw[ho]at ho';cases ho';exact⟨_,es',ep',hL,r'⟩) hok hg
def Inv.turned{t':Nat}{it:Addr}(I:Inv X pins σ H s)(k:∀b o,b≠it->s.heap.get? b=some o->h'.get? b=some o)(hn:H it=none)(hL:it≠X.env.locals)(h1:it∈X.ex\/X.s₀.heap.objs.size<=it)(h2:∀x c,X.env.cells.lookup x=some c->c≠it)(h3:∀p∈X.pn++pins,p.1≠it):Inv X pins σ H {s with heap:=h',toks:=t'}:=by
 have nit:∀b u,H b=some u->b≠it:=λb u e z=>by rw[z,hn]at e;cases e
 refine I.step (g':=s.gens) (d':=s.drawn) (ch:=[it]) (λb hb=>?_) (λb o _ _ hc e _=>k b o (λz=>hc (by simp[z])) e) (λb o _ _ hc e _=>⟨o.slots,k b o (λz=>hc (by simp[z])) e⟩) (λ_ _ _ _ n=>n)
  (λb o hc e=>⟨o,k b o (λz=>hc (by simp[z])) e⟩) (λ_ _ e=>e) (λ_ _ _ e=>e) (λb ps e=>⟨#[],by rw[e];simp⟩) (λm hm=>?_) (λb u e=>?_) I.bare
 ·have e:b=it:=by simpa using hb
  subst e;exact⟨h1,hL,h2,h3⟩
 ·obtain⟨o,es,ep,ho,r⟩:=hm;exact⟨o,es,ep,k _ o (Ne.symm hL) ho,r⟩
 ·refine(I.hok b u e).stay (λc v hc q=>k c v ?_ q) (λ_ q=>q) λ_ _ q=>q;rcases hc with z|z
  ·rw[z];exact nit b u e
  ·exact nit c _ z
def Inv.tok(I:Inv X pins σ H s)(t:Nat):Inv X pins σ H {s with toks:=t}:=I.un (h':=s.heap) (t':=t) Un.refl I.hok
def Inv.kept{t':Nat}(I:Inv X pins σ H s)(k:∀b u,s.heap.get? b=some u->h'.get? b=some u):Inv X pins σ H {s with heap:=h',toks:=t'}:=I.un (Un.kept k) (I.hok.kept k)
def Inv.laid{a:Addr}{o:HO}{t':Nat}(I:Inv X pins σ H s)(k:∀b u,s.heap.get? b=some u->h'.get? b=some u)(hp:s.heap.objs.size<=a)(new:ObjOk X.prog X.w (upd H a o) h' a o):Inv X pins σ (upd H a o) {s with heap:=h',toks:=t'}:=I.un (Un.laid k hp (I.hok.fresh hp)) (I.hok.laid k hp new)
def Inv.write{x e:Addr}{o:HO}{t':Nat}(I:Inv X pins σ H s)(mu:Mut (H x))(he:e=x\/H e=some (.own x))(k:∀b u,b≠e->s.heap.get? b=some u->h'.get? b=some u)(heo:∃u,h'.get? e=some u)(new:ObjOk X.prog X.w (upd H x o) h' x o):Inv X pins σ (upd H x o) {s with heap:=h',toks:=t'}:=I.un (Un.write mu he k heo) (I.hok.write mu he k heo new)
def Inv.weak{σ':List (Option V)}(I:Inv X pins σ H s)(hl:σ'.length=σ.length)(w:∀(i:Nat) v,σ'[i]?=some (some v)->σ[i]?=some (some v)):Inv X pins σ' H s:=
 ⟨I.ok,I.os,I.bare,I.base,let ⟨m,hn,hl'⟩:=I.loc;⟨m,hn,λi x v e1 e2 e3=>hl' i x v e1 (w i v e2) e3⟩,I.cell,I.free,I.freeC,I.pin,I.hok,hl.trans I.len⟩
def Inv.pins_of{pins':Q2}(I:Inv X pins σ H s)(h:∀p∈pins',s.heap.get? p.1=some p.2/\H p.1=none/\p.1≠X.env.locals/\p.1∉X.fs/\∀v,p.2.data≠.cell v):Inv X pins' σ H s:=
 ⟨I.ok,I.os,I.bare,I.base,I.loc,I.cell,I.free,I.freeC,λp hp=>(Bm.mp hp).elim (λz=>I.pin p (Cb _ z)) (h p),I.hok,I.len⟩
def tW(hN:N.Nodup){j:Nat}(a:N[i]?=some x)(b:N[j]?=some x):i=j:=by
 obtain⟨h1,e1⟩:=Ad.mp a;obtain⟨h2,e2⟩:=Ad.mp b;exact(Fu hN).mp (e1.trans e2.symm)
def wF{Q:Unit->Shared->Prop}(I:Inv X pins σ H s)(hN:X.N.Nodup)(hi:X.N[i]?=some x)(hx:Loc X.env.scope x)(r:RelV v u)(h:∀s',Inv X pins (σ.set i (some v)) H s'->(∃a,Heap.SameBut a s.heap s'.heap/\(a=X.env.locals\/X.env.cells.lookup x=some a))->Q () s')(hf:X.fn x=true\/X.env.scope.names.lookup x=some .local:=by first|exact .inl rfl|exact .inr rfl|assumption):wpAny M A (storeName X.env x u) Q E s:=by
 obtain⟨m,hn,hl⟩:=id I.loc;have hcls:(X.env.scope.kind == .class || (X.env.scope.kind == .module&&X.env.locals != X.env.globals))=false:=by rw[I.ok.kind];rfl
 have hiσ:i<σ.length:=by rw[I.len];exact(Ad.mp hi).1
 have cne:=I.cne
 have tracked:∀ {a:Addr} {h':Heap},(∃o,s.heap.get? a=some o/\H a=none)->Heap.SameBut a s.heap h'->HOk X.prog X.w H h':=fun {a h'} ha hs b ob e=>by
  obtain⟨_,_,hfree⟩:=ha;refine(I.hok b ob e).stay (λc w' hc q=>(hs.2 c ?_).trans q) (λ_ q=>q) λ_ _ q=>q;rintro rfl;rcases hc with rfl|hc
  ·rw[hfree]at e;cases e
  ·rw[hfree]at hc;cases hc
 rcases hx with hk|hk
 ·refine wpAny_storeName_local hk hn (λh' hn' hs=>?_) hcls;obtain⟨oL,_,_,hoL,_⟩:=id hn;refine h _ ⟨I.ok,I.os,I.bare,⟨λb o e n hb hx=>?_,λb o e n hb hx=>?_,I.base.free,λb o e hx=>?_,I.base.tups,I.base.frzs,I.base.tbls⟩,⟨_,hn',λj y v' e1 e2 e3=>?_⟩,λy c e=>?_,I.free,I.freeC,λp hp=>?_,tracked ⟨oL,hoL,I.free⟩ hs,by simpa using I.len⟩ ⟨_,hs,.inl rfl⟩
  ·exact(hs.2 b (Bj (Bf (Av e) I.ok.above))).trans (I.base.keep b o e n hb hx)
  ·obtain⟨sl,e1⟩:=I.base.slot b o e n hb hx;exact⟨sl,(hs.2 b (Bj (Bf (Av e) I.ok.above))).trans e1⟩
  ·obtain⟨o',e1⟩:=I.base.there b o e hx;exact⟨o',(hs.2 b (Bj (Bf (Av e) I.ok.above))).trans e1⟩
  ·by_cases hj:j=i
   ·subst hj;rw[hi]at e1;cases e1;rw[Dh hiσ]at e2;cases e2;exact⟨u,r,.inl ⟨hk,by simp⟩⟩
   ·rw[Da (Ne.symm hj)]at e2;obtain⟨u',r',q⟩:=hl j y v' e1 e2 e3;refine⟨u',r',?_⟩;rcases q with⟨k,e⟩|⟨k,c,e,z⟩
    ·refine .inl ⟨k,?_⟩;have:y≠x:=λe=>hj (tW hN e1 (e▸hi))
     simp[this,e]
    ·exact .inr ⟨k,c,e,z.sameBut hs (cne y c e)⟩
  ·obtain⟨w',z⟩:=I.cell y c e;exact⟨w',z.sameBut hs (cne y c e)⟩
  ·obtain⟨e,n,ne,nf,d⟩:=I.pin p hp;exact⟨(hs.2 p.1 ne).trans e,n,ne,nf,d⟩
 ·have hfn:X.fn x=true:=by
   rcases hf with z|z
   ·exact z
   ·rw[z]at hk;cases hk
  obtain⟨c,hc⟩:=I.ok.has x (.inl hk);obtain⟨w',z⟩:=I.cell x c hc;refine wpAny_storeName_cell I.ok.kind hk hc z (λh' hc' hs=>?_);obtain⟨oc,hoc,hocd⟩:=id z;refine h {s with heap:=h'} ⟨I.ok,I.os,I.bare,⟨λb o e n hb hx=>?_,λb o e n hb hx=>?_,I.base.free,λb o e hx=>?_,I.base.tups,I.base.frzs,I.base.tbls⟩,⟨m,hn.sameBut hs (Ne.symm (cne x c hc)),λj y v' e1 e2 e3=>?_⟩,λy c' e=>?_,I.free,I.freeC,λp hp=>?_,tracked ⟨oc,hoc,I.freeC x c hc⟩ hs,by simpa using I.len⟩ ⟨c,hs,.inr hc⟩
  ·exact(hs.2 b (Bj (Bf (Av e) (I.ok.cab x c hfn hc)))).trans (I.base.keep b o e n hb hx)
  ·obtain⟨sl,e1⟩:=I.base.slot b o e n hb hx;exact⟨sl,(hs.2 b (Bj (Bf (Av e) (I.ok.cab x c hfn hc)))).trans e1⟩
  ·obtain⟨o',e1⟩:=I.base.there b o e hx;exact⟨o',(hs.2 b (Bj (Bf (Av e) (I.ok.cab x c hfn hc)))).trans e1⟩
  ·by_cases hj:j=i
   ·subst hj;rw[hi]at e1;cases e1;rw[Dh hiσ]at e2;cases e2;exact⟨u,r,.inr ⟨.inl hk,c,hc,hc'⟩⟩
   ·rw[Da (Ne.symm hj)]at e2;obtain⟨u',r',q⟩:=hl j y v' e1 e2 e3;refine⟨u',r',?_⟩;rcases q with q|⟨k,c',e,z'⟩
    ·exact .inl q
    ·refine .inr ⟨k,c',e,z'.sameBut hs ?_⟩;rintro rfl;exact hj (tW hN e1 (I.ok.inj _ _ _ e hc▸hi))
  ·by_cases hcc:c'=c
   ·subst hcc;exact⟨_,hc'⟩
   ·obtain⟨w2,z2⟩:=I.cell y c' e;exact⟨w2,z2.sameBut hs hcc⟩
  ·obtain⟨e,n,ne,nf,d⟩:=I.pin p hp;refine⟨(hs.2 p.1 ?_).trans e,n,ne,nf,d⟩;intro q;rw[q,hoc]at e;have q':oc=p.2:=Bl e
   exact d w' (by rw[<-q'];exact hocd)
def tJ{Q:Unit->Shared->Prop}(I:Inv X pins σ H s)(hN:X.N.Nodup)(hi:X.N[i]?=some x)(hx:Loc X.env.scope x)(r:RelV v u)(h:∀s',Inv X pins (σ.set i (some v)) H s'->Q () s')(hf:X.fn x=true\/X.env.scope.names.lookup x=some .local:=by first|exact .inl rfl|exact .inr rfl|assumption):wpAny M A (storeName X.env x u) Q E s:=
 wF I hN hi hx r (λs' I' _=>h s' I') hf
def Inv.call'{s':Shared}{ch:List Addr}(I:Inv X pins σ H s)(ho:s'.os=s.os)(u:Un (frs X.stack) ch H H' s.heap s'.heap)(hok:HOk X.prog X.w H' s'.heap)(hg:AllBare s'.gens)(hch:∀b∈ch,(b∈X.ex\/X.s₀.heap.objs.size<=b)/\b≠X.env.locals/\(∀x c,X.env.cells.lookup x=some c->c≠b)/\∀p∈X.pn++pins,p.1≠b):Inv X pins σ H' s':=by
 obtain⟨h',g',d',t',o'⟩:=s';have e:o'=s.os:=ho
 subst e;exact I.call (g':=g') (t':=t') (d':=d') u hok hg hch
end
abbrev XK:=Value->Option Addr->Hp->Prop
abbrev St:=List (Option V)
variable {σ:St}
abbrev VK:=V->Hp->Prop
abbrev TE:=St->Hp->VK->Prop
variable {ta tb te:TE}
abbrev TT:=St->Hp->(Bool->Hp->Prop)->Prop
abbrev TA:=St->Hp->(List V->Hp->Prop)->Prop
variable {t:TA}
structure Ends where
 nx:St->Hp->Prop
 rt:VK
 bk:St->Hp->Prop:=λ_ _=>False
 ct:St->Hp->Prop:=λ_ _=>False
abbrev TS:=Ends->St->Hp->Prop
def EP(X:Cx)(pins:List (Addr×Obj))(σ:St)(Q:VK)(u:Value)(s':Shared):Prop:=∃v H',Inv X pins σ H' s'/\RelV v u/\Q v H'
def TP(X:Cx)(pins:List (Addr×Obj))(σ:St)(Q:Bool->Hp->Prop)(b:Bool)(s':Shared):Prop:=∃H',Inv X pins σ H' s'/\Q b H'
def AP(X:Cx)(pins:List (Addr×Obj))(σ:St)(Q:List V->Hp->Prop)(us:List Value)(s':Shared):Prop:=∃vs H',Inv X pins σ H' s'/\Vals vs us/\Q vs H'
def SP(X:Cx)(pins:List (Addr×Obj))(D:Ends)(f:Flow)(s':Shared):Prop:=
 match f with
 |.next=>∃σ' H',Inv X pins σ' H' s'/\D.nx σ' H'
 |.brk=>∃σ' H',Inv X pins σ' H' s'/\D.bk σ' H'
 |.cont=>∃σ' H',Inv X pins σ' H' s'/\D.ct σ' H'
 |.ret u=>∃v σ' H',Inv X pins σ' H' s'/\RelV v u/\D.rt v H'
def PE(X:Cx)(e:Expr)(t:TE):Prop:=
 ∀(pins:Q2) (s:Shared) (σ:St) (H:Hp) (Q:VK),Inv X pins σ H s->t σ H Q->wpAny (model X.prog X.w) X.A (eval e X.env) (EP X pins σ Q) X.xe s
def PT(X:Cx)(e:Expr)(t:TT):Prop:=
 ∀(pins:Q2) (s:Shared) (σ:St) (H:Hp) (Q:Bool->Hp->Prop),Inv X pins σ H s->t σ H Q->wpAny (model X.prog X.w) X.A (isTrue e X.env (eval e X.env)) (TP X pins σ Q) X.xe s
def PW(X:Cx)(e:Expr)(t:TT):Prop:=
 ∀(whole:Sem Value) (pins:Q2) (s:Shared) (σ:St) (H:Hp) (Q:Bool->Hp->Prop),Inv X pins σ H s->t σ H Q->wpAny (model X.prog X.w) X.A (isTrue e X.env whole) (TP X pins σ Q) X.xe s
def PW.pt{t:TT}(h:PW X e t):PT X e t:=h _
def PA(X:Cx)(es:List Expr)(t:TA):Prop:=
 ∀(pos:Pos) (pins:Q2) (s:Shared) (σ:St) (H:Hp) (Q:List V->Hp->Prop),Inv X pins σ H s->t σ H Q->wpAny (model X.prog X.w) X.A (spliced (backTo pos (starEach es X.env))) (AP X pins σ Q) X.xe s
def PS(X:Cx)(st:Stmt)(t:TS):Prop:=
 ∀(pins:Q2) (s:Shared) (σ:St) (H:Hp) (D:Ends),Inv X pins σ H s->t D σ H->wpAny (model X.prog X.w) X.A (exec st X.env) (SP X pins D) X.xe s
def PSs(X:Cx)(st:List Stmt)(t:TS):Prop:=
 ∀(pins:Q2) (s:Shared) (σ:St) (H:Hp) (D:Ends),Inv X pins σ H s->t D σ H->wpAny (model X.prog X.w) X.A (execs st X.env) (SP X pins D) X.xe s
def thn{α:Type}{t:Sem α}{Q Q':α->Shared->Prop}(h:wpAny M A t Q E s)(hQ:∀a s,Q a s->Q' a s):wpAny M A t Q' E s:=Ci h hQ λ_ _ x=>x
section
def bin{a b:Expr}(ha:PE X a ta)(hb:PE X b tb){R:V->V->Hp->Prop}(I:Inv X pins σ H s)(h:ta σ H λx H1=>tb σ H1 λy H2=>R x y H2){α:Type}{Q:α->Shared->Prop}{f:Value->Value->Sem α}(hf:∀v u s2 x y H2,Inv X pins σ H2 s2->RelV x v->RelV y u->R x y H2->wpAny (model X.prog X.w) X.A (f v u) Q X.xe s2):wpAny (model X.prog X.w) X.A (eval a X.env) (λv s₁=>wpAny (model X.prog X.w) X.A (eval b X.env) (λu s₂=>wpAny (model X.prog X.w) X.A (f v u) Q X.xe s₂) X.xe s₁) X.xe s:=by
 refine thn (ha pins s σ H _ I h) λv s1 ⟨x,H1,I1,r1,q1⟩=>?_;refine thn (hb pins s1 σ H1 _ I1 q1) λu s2 ⟨y,H2,I2,r2,q2⟩=>?_;exact hf v u s2 x y H2 I2 r1 r2 q2
def eJJ(i:Nat):TE:=λσ H Q=>∃v,σ[i]?=some (some v)/\Q v H
def tC(v:V):TE:=λ_ H Q=>Q v H
def eXI(hN:X.N[i]?=some x)(hv:Vis X.env.scope x)(hd:(x==("__debug__" : Str))=false:=by decide)(hcd:(x==("__classdict__" : Str))=false:=by decide):PE X (.Name x pos) (eJJ i):=by
 intro pins s σ H Q I h;obtain⟨v,e,h⟩:=h;obtain⟨m,hn,hl⟩:=I.loc;obtain⟨u,r,l⟩:=hl i x v hN e hv;have fin:EP X pins σ Q u s:=⟨v,H,I,r,h⟩
 rcases l with⟨hk,hm⟩|⟨hk,c,hc,hcell⟩
 ·exact wpAny_Name (wpAny_loadName_local I.ok.kind hk hn hm fin) hd
 ·rcases hk with hk|hk
  ·exact wpAny_Name (wpAny_loadName_cell I.ok.kind hk hc hcell fin) hd
  ·exact wpAny_Name (wpAny_loadName_free I.ok.kind hk hc hcell fin hcd) hd
def aI{i j pos}:PE X (.Constant (.int i) j pos) (tC (.int i)):=λ_ _ _ H _ I h=>wpAny_Constant_int ⟨.int i,H,I.tok _,⟨_,rfl⟩,h⟩
def iP{b j pos}:PE X (.Constant (.bool b) j pos) (tC (.bl b)):=λ_ _ _ H _ I h=>Constant_bool ⟨.bl b,H,I,rfl,h⟩
def dS{j pos}:PE X (.Constant .none j pos) (tC .non):=λ_ _ _ H _ I h=>Constant_none ⟨.non,H,I,rfl,h⟩
def cW{x j pos}:PE X (.Constant (.str x) j pos) (tC (.str x)):=λ_ _ _ H _ I h=>Calls.Constant_str ⟨.str x,H,I.tok _,⟨_,rfl⟩,h⟩
def Gl(X:Cx)(x:Str):Prop:=X.env.kindOf x=some .globalImplicit
def fZ(I:Inv X pins σ H s)(hg:Gl X x)(hm:X.mg x=some u)(h:Q u s)(hd:(x==("__debug__" : Str))=false:=by decide):wpAny (model X.prog X.w) X.A (eval (.Name x pos) X.env) Q E s:=
 Calls.Name_function_global I.ok.kind hg (Calls.loadGlobal_global (by rw[I.ok.glob];exact I.mod.glob.keeps I.bk) hm h) hd
def jN(I:Inv X pins σ H s)(hg:Gl X x)(hm:X.mg x=none)(hv:bootBuiltins x=some u)(h:Q u s)(hn:x≠"__name__" := by decide)(hd:(x==("__debug__" : Str))=false:=by decide):wpAny (model X.prog X.w) X.A (eval (.Name x pos) X.env) Q E s:=by
 obtain⟨mb,h1,h2⟩:=I.mod.blt;exact Calls.Name_function_global I.ok.kind hg (Calls.loadGlobal_builtin (by rw[I.ok.glob];exact I.mod.glob.keeps I.bk) hm (by rw[I.ok.blt];exact h1.keeps I.bk) ((h2 x hn).trans hv) h) hd
def rK(hg:Gl X x)(hm:X.mg x=some u)(r:RelV v u)(hd:(x==("__debug__" : Str))=false:=by decide):PE X (.Name x pos) (tC v):=
 λ_ _ _ H _ I h=>fZ I hg hm ⟨v,H,I,r,h⟩ hd
def cJN(hg:Gl X x)(hm:X.mg x=none)(hv:bootBuiltins x=some u)(r:RelV v u)(hn:x≠"__name__" := by decide)(hd:(x==("__debug__" : Str))=false:=by decide):PE X (.Name x pos) (tC v):=
 λ_ _ _ H _ I h=>jN I hg hm hv ⟨v,H,I,r,h⟩ hn hd
variable {a b:Expr}
variable {tA tB':TT} {rest:List Expr}
def eJD(t u:TT):TT:=λσ H Q=>t σ H λc H1=>if c=true then u σ H1 Q else Q false H1
def tOr(t u:TT):TT:=λσ H Q=>t σ H λc H1=>if c=true then Q true H1 else u σ H1 Q
def eZZ(t:TT):TT:=λσ H Q=>t σ H λc H1=>Q (!c) H1
def lM(ha:PT X a tA):PW X (.BoolOp .And [a] pos) tA:=by
 intro wh pins s σ H Q I h;refine isTrue_and (thn (ha pins s σ H Q I h) λc s1 e=>?_);cases c with
 |true=>exact isTrue_and_nil e
 |false=>exact e
def iC(ha:PT X a tA):PW X (.BoolOp .Or [a] pos) tA:=by
 intro wh pins s σ H Q I h;refine isTrue_or (thn (ha pins s σ H Q I h) λc s1 e=>?_);cases c with
 |false=>exact isTrue_or_nil e
 |true=>exact e
def qB(ha:PT X a tA)(hb:PW X (.BoolOp .And (b::rest) pos) tB'):PW X (.BoolOp .And (a::b::rest) pos) (eJD tA tB'):=by
 intro wh pins s σ H Q I h;refine isTrue_and (thn (ha pins s σ H _ I h) λc s1 ⟨H1,I1,q1⟩=>?_);cases c with
 |true=>exact hb wh pins s1 σ H1 Q I1 q1
 |false=>exact⟨H1,I1,q1⟩
def jR(ha:PT X a tA)(hb:PW X (.BoolOp .Or (b::rest) pos) tB'):PW X (.BoolOp .Or (a::b::rest) pos) (tOr tA tB'):=by
 intro wh pins s σ H Q I h;refine isTrue_or (thn (ha pins s σ H _ I h) λc s1 ⟨H1,I1,q1⟩=>?_);cases c with
 |true=>exact⟨H1,I1,q1⟩
 |false=>exact hb wh pins s1 σ H1 Q I1 q1
def gL(ha:PT X a tA):PT X (.UnaryOp .Not a pos) (eZZ tA):=by
 intro pins s σ H Q I h;exact isTrue_not (ha pins s σ H (λc H1=>Q (!c) H1) I h)
def rZ{op}{t:TE}(h:PE X a t):PE X (.BoolOp op [a] pos) t:=λpins s σ H Q I hw=>BoolOp_one (h pins s σ H Q I hw)
def tIf(t:TT)(ta tb:TE):TE:=λσ H Q=>t σ H λc H1=>if c=true then ta σ H1 Q else tb σ H1 Q
def zU{c:Expr}(hc:PT X c tA)(ha:PE X a ta)(hb:PE X b tb):PE X (.IfExp c a b pos) (tIf tA ta tb):=by
 intro pins s σ H Q I h;refine wpAny_IfExp (thn (hc pins s σ H _ I h) λd s1 ⟨H1,I1,q1⟩=>?_);cases d with
 |true=>exact ha pins s1 σ H1 Q I1 q1
 |false=>exact hb pins s1 σ H1 Q I1 q1
end
def SqL(K:W.Frag)(H:Hp)(a:Addr)(xs:List V):Prop:=
 Rd H a (.lst xs)\/
  ∃(o:Obj) (its:Array Value) (n:Nat),K.lookup a=some o/\o.cls=.type "list"/\o.dict=none/\o.data=.seq its n/\its.size<=sizeLine/\Vals xs its.toList
def SqT(K:W.Frag)(H:Hp)(a:Addr)(xs:List V):Prop:=
 Rd H a (.tup xs)\/
  ∃(o:Obj) (its:Array Value) (n:Nat),K.lookup a=some o/\o.cls=.type "tuple"/\o.data=.seq its n/\its.size<=sizeLine/\Vals xs its.toList
def fQT:Value->Option V
 |.none=>some .non
 |.bool b=>some (.bl b)
 |.int i _=>some (.int i)
 |.str x _=>some (.str x)
 |.bytes b _=>some (.byt b)
 |.float b _=>some (.flt b)
 |.ref a=>some (.ref a)
 |.type n=>some (.ty n)
 |_=>none
def RelV.abs{x:V}(r:RelV x u):fQT u=some x:=by
 cases x with
 |non=>cases r;rfl
 |bl _=>cases r;rfl
 |int _=>obtain⟨t,rfl⟩:=r;rfl
 |str _=>obtain⟨t,rfl⟩:=r;rfl
 |byt _=>obtain⟨t,rfl⟩:=r;rfl
 |flt _=>obtain⟨t,rfl⟩:=r;rfl
 |ref _=>cases r;rfl
 |ty _=>cases r;rfl
def RelV.inj{x y:V}(r:RelV x u)(q:RelV y u):x=y:=Bl (r.abs.symm.trans q.abs)
def Vals.inj:∀ {xs ys:List V} {us:List Value},Vals xs us->Vals ys us->xs=ys
 |_,_,_,.nil,.nil=>rfl
 |_,_,_,.cons r t,.cons r' t'=>by rw[r.inj r',Vals.inj t t']
section
variable {ys:List V}
def SqT.of(h:H a=some (.tup xs)):SqT K H a xs:=.inl (.inl h)
def Inv.list(I:Inv X pins σ H s)(h:SqL X.K H a xs):∃its:List Value,Vals xs its/\PlainL s.heap a its.toArray/\xs.length<=sizeLine:=by
 rcases h with h|⟨o,its,n,hk,hc,hd,hs,hz,r⟩
 ·obtain⟨z,its,n,r,e⟩:=h.ok I.hok;exact⟨its,r,⟨_,n,e,rfl,rfl,rfl⟩,z⟩
 ·refine⟨its.toList,r,⟨o,n,I.kIn a o hk,hc,hd,by simpa using hs⟩,?_⟩
  have e:=r.length
  simp only[Array.length_toList]at e;omega
def Inv.tuple(I:Inv X pins σ H s)(h:SqT X.K H a xs):∃its:List Value,Vals xs its/\IsTup s.heap a its.toArray/\xs.length<=sizeLine:=by
 rcases h with h|⟨o,its,n,hk,hc,hs,hz,r⟩
 ·obtain⟨z,its,r,p⟩:=h.ok I.hok;exact⟨its,r,p,z⟩
 ·refine⟨its.toList,r,⟨o,I.kIn a o hk,hc,n,by simpa using hs⟩,?_⟩
  have e:=r.length
  simp only[Array.length_toList]at e;omega
def Inv.list_inj(I:Inv X pins σ H s)(h:SqL X.K H a xs)(h':SqL X.K H a ys):xs=ys:=by
 obtain⟨its,r,⟨o,n,e,_,_,d⟩,_⟩:=I.list h;obtain⟨its',r',⟨o',n',e',_,_,d'⟩,_⟩:=I.list h';rw[e]at e';cases e';rw[d]at d';injection d' with d1 _
 have:its=its':=by simpa using congrArg Array.toList d1
 subst this;exact r.inj r'
end
abbrev Cx.wish(X:Cx)(E:Value->Shared->Prop):Cx:={X with xe:=E}
abbrev Cx.nox(X:Cx):Cx:=X.wish λ_ _=>False
def Cx.Ok.wish(ok:X.Ok)(E:Q0):(X.wish E).Ok:=
 ⟨ok.mod,ok.kind,ok.glob,ok.blt,ok.above,ok.inj,ok.has,ok.cab,ok.hd,ok.frames,ok.stk,ok.exf,ok.bs,ok.bsz,ok.noex,ok.exfs,ok.funs,ok.frf⟩
def Cx.Ok.unwish(ok:(X.wish E).Ok):X.Ok:=
 ⟨ok.mod,ok.kind,ok.glob,ok.blt,ok.above,ok.inj,ok.has,ok.cab,ok.hd,ok.frames,ok.stk,ok.exf,ok.bs,ok.bsz,ok.noex,ok.exfs,ok.funs,ok.frf⟩
def Inv.wish(I:Inv X pins σ H s)(E:Q0):Inv (X.wish E) pins σ H s:=⟨I.ok.wish E,I.os,I.bare,I.base,I.loc,I.cell,I.free,I.freeC,I.pin,I.hok,I.len⟩
def Inv.unwish(I:Inv (X.wish E) pins σ H s):Inv X pins σ H s:=⟨I.ok.unwish,I.os,I.bare,I.base,I.loc,I.cell,I.free,I.freeC,I.pin,I.hok,I.len⟩
def SP.unwish{D:Ends}{f:Flow}{s':Shared}(h:SP (X.wish E) pins D f s'):SP X pins D f s':=by
 cases f with
 |next=>obtain⟨σ',H',I,q⟩:=h;exact⟨σ',H',I.unwish,q⟩
 |brk=>obtain⟨σ',H',I,q⟩:=h;exact⟨σ',H',I.unwish,q⟩
 |cont=>obtain⟨σ',H',I,q⟩:=h;exact⟨σ',H',I.unwish,q⟩
 |ret u=>obtain⟨v,σ',H',I,r,q⟩:=h;exact⟨v,σ',H',I.unwish,r,q⟩
def PSs.nox{st:List Stmt}{t:TS}(h:PSs X.nox st t):PSs X st t:=λpins s σ H D I hw=>
 Ci (h pins s σ H D (I.wish _) hw) (λ_ _ q=>q.unwish) λ_ _ z=>False.elim z
section
variable {X:Cx} {st:Stmt} {rest:List Stmt} {t u:TS} {e:Expr} {te:TE} {pos:Pos}
def dZG:TS:=λD σ H=>D.nx σ H
def dJT(t u:TS):TS:=λD σ H=>t {D with nx:=u D} σ H
def bC:PSs X [] dZG:=λ_ _ σ H _ I h=>wpAny_execs_nil ⟨σ,H,I,h⟩
def aD(h1:PS X st t)(h2:PSs X rest u):PSs X (st::rest) (dJT t u):=by
 intro pins s σ H D I h;refine wpAny_execs_cons (thn (h1 pins s σ H {D with nx:=u D} I h) λf s1 q=>?_)
 cases f with
 |next=>
  obtain⟨σ',H',I',q⟩:=q;exact h2 pins s1 σ' H' D I' q
 |ret v=>exact q
 |brk=>exact q
 |cont=>exact q
def aH(h1:PS X st t):PSs X [st] t:=by
 intro pins s σ H D I h;refine wpAny_execs_cons (thn (h1 pins s σ H D I h) λf s1 q=>?_);cases f with
 |next=>exact wpAny_execs_nil q
 |ret v=>exact q
 |brk=>exact q
 |cont=>exact q
def dZ1:TS:=λD σ H=>D.ct σ H
def aQ0:PS X (.Continue pos) dZ1:=λ_ _ σ H _ I h=>wpAny_Continue ⟨σ,H,I,h⟩
def Inv.quiet(I:Inv X pins σ H s):interactive X.env=false:=by simp[interactive,I.ok.kind]
def dZZ(te:TE):TS:=λD σ H=>te σ H λ_ H1=>D.nx σ H1
def cG(he:PE X e te)(hs:swapsWith e none pos.line X.env=pure false:=by rfl):PS X (.Expr e pos) (dZZ te):=by
 intro pins s σ H D I h;exact wpAny_Expr_any (thn (he pins s σ H _ I h) λv s1 ⟨x,H1,I1,r1,q1⟩=>⟨σ,H1,I1,q1⟩) I.quiet hs
def eJA(te:TE):TS:=λD σ H=>te σ H D.rt
def aT(he:PE X e te):PS X (.Return (some e) pos) (eJA te):=by
 intro pins s σ H D I h;exact wpAny_Return_some (thn (he pins s σ H _ I h) λv s1 ⟨x,H1,I1,r1,q1⟩=>⟨x,σ,H1,I1,r1,q1⟩)
def eZE(c:TT)(t u:TS):TS:=λD σ H=>c σ H λb H1=>if b=true then t D σ H1 else u D σ H1
def bU{c:Expr}{a b:List Stmt}{tc:TT}(hc:PT X c tc)(ha:PSs X a t)(hb:PSs X b u):PS X (.If c a b pos) (eZE tc t u):=by
 intro pins s σ H D I h;refine wpAny_If (thn (hc pins s σ H _ I h) λd s1 ⟨H1,I1,q1⟩=>?_);cases d with
 |true=>exact ha pins s1 σ H1 D I1 q1
 |false=>exact hb pins s1 σ H1 D I1 q1
end
abbrev TG:=V->St->Hp->(St->Hp->Prop)->Prop
variable {g:TG}
abbrev TGs:=List V->St->Hp->(St->Hp->Prop)->Prop
def PG(X:Cx)(target:Expr)(t:TG):Prop:=
 ∀(pins:Q2) (s:Shared) (σ:St) (H:Hp) (v:V) (u:Value) (Q:St->Hp->Prop),Inv X pins σ H s->RelV v u->t v σ H Q->
  wpAny (model X.prog X.w) X.A (assign target X.env u) (λ_ s'=>∃σ' H',Inv X pins σ' H' s'/\Q σ' H') X.xe s
def PGs(X:Cx)(ts:List Expr)(t:TGs):Prop:=
 ∀(pins:Q2) (s:Shared) (σ:St) (H:Hp) (vs:List V) (us:List Value) (Q:St->Hp->Prop),Inv X pins σ H s->Vals vs us->t vs σ H Q->
  wpAny (model X.prog X.w) X.A (assignInOrder ((assignEach ts X.env).map (·.2)) us) (λ_ s'=>∃σ' H',Inv X pins σ' H' s'/\Q σ' H') X.xe s
abbrev dQ8:=V->V->V->Hp->(Hp->Prop)->Prop
def eJX(X:Cx)(t:dQ8):Prop:=
 ∀(pins:Q2) (s:Shared) (σ:St) (H:Hp) (o i v:V) (ov iv u:Value) (Q:Hp->Prop),Inv X pins σ H s->RelV o ov->RelV i iv->RelV v u->t o i v H Q->
  wpAny (model X.prog X.w) X.A (setItem ov iv u) (λ_ s'=>∃H',Inv X pins σ H' s'/\Q H') X.xe s
section
variable {X:Cx} {pos:Pos}
def pC(i:Nat):TG:=λv σ H Q=>Q (σ.set i (some v)) H
def bH{i:Nat}(hN:X.N.Nodup)(hi:X.N[i]?=some x)(hx:Loc X.env.scope x)(hf:X.fn x=true\/X.env.scope.names.lookup x=some .local:=by first|exact .inl rfl|exact .inr rfl|assumption):PG X (.Name x pos) (pC i):=by
 intro pins s σ H v u Q I r h;exact wpAny_assign_Name (tJ I hN hi hx r (λs' I'=>⟨_,H,I',h⟩) hf)
def eXA:TGs:=λvs σ H Q=>vs=[]/\Q σ H
def bQO(t:TG)(u:TGs):TGs:=λvs σ H Q=>∃v r,vs=v::r/\t v σ H λσ' H'=>u r σ' H' Q
def bQM:PGs X [] eXA:=by
 intro pins s σ H vs us Q I r h;obtain⟨e,h⟩:=h;subst e;cases r;exact assignInOrder_nil ⟨σ,H,I,h⟩
def iK{t:TG}{u:TGs}(h1:PG X e t)(h2:PGs X es u)(hs:(assignEach (e::es) X.env).map (·.2)=assign e X.env::(assignEach es X.env).map (·.2):=by rfl):PGs X (e::es) (bQO t u):=by
 intro pins s σ H vs us Q I r h;obtain⟨v,vr,e1,h⟩:=h;subst e1;cases r with
 |cons r rr=>
  rw[hs];refine assignInOrder_cons (thn (h1 pins s σ H _ _ _ I r h) λ_ s1 ⟨σ1,H1,I1,q1⟩=>?_);exact h2 pins s1 σ1 H1 _ _ Q I1 rr q1
def eQB(K:W.Frag)(n:Nat)(t:TGs):TG:=λv σ H Q=>∃a xs,v=.ref a/\SqT K H a xs/\xs.length=n/\t xs σ H Q
def eX5{t:TGs}{n:Nat}(hc:X.calm=true)(h:PGs X es t)(hn:(assignEach es X.env).length=n:=by rfl)(hst:(assignEach es X.env).findIdx? (·.1)=none:=by rfl):PG X (.Tuple es k pos) (eQB X.K n t):=by
 intro pins s σ H v u Q I r hw;obtain⟨a,xs,e1,hq,hl,hw⟩:=hw;subst e1;cases r;obtain⟨its,rv,ht,hz⟩:=I.tuple hq;refine assign_Tuple_tuple (I.ok.hd hc) ht (by simp[hn,<-hl,rv.length]) hst λh' hx=>?_
 have I1:Inv X pins σ H {s with heap:=h'}:=I.kept (t':=s.toks) λb o e=>hx b o (Bj (Av e)) e
 exact h pins _ σ H xs _ Q I1 (by simpa using rv) hw
def eZ1(to ti:TE)(t:dQ8):TG:=λv σ H Q=>to σ H λo H1=>ti σ H1 λi H2=>t o i v H2 λH3=>Q σ H3
def cXQ{o i:Expr}{to ti:TE}{t:dQ8}(ho:PE X o to)(hi:PE X i ti)(hs:eJX X t)(ha:∀v,assign (.Subscript o i pos) X.env v=(do
 let ov <-holding [v] (eval o X.env)
 let iv <-holding [v,ov] (eval i X.env)
 standAt pos
 holding [v,ov,iv] (setItem ov iv v)
 release [v,ov,iv] []):=by intro _;rfl):PG X (.Subscript o i pos) (eZ1 to ti t):=by
 intro pins s σ H v u Q I r h;rw[ha];refine Ae (Ck (thn (ho pins s σ H _ I h) λov s1 ⟨x,H1,I1,r1,q1⟩=>?_));refine Ae (Ck (thn (hi pins s1 σ H1 _ I1 q1) λiv s2 ⟨y,H2,I2,r2,q2⟩=>?_));refine Ae (Fj (Ae (Ck (thn (hs pins s2 σ H2 x y v ov iv u _ I2 r1 r2 r q2) λ_ s3 ⟨H3,I3,q3⟩=>?_))));exact wpAny_release ⟨σ,H3,I3,q3⟩
def bJ8(te:TE)(g:TG):TS:=λD σ H=>te σ H λx H1=>g x σ H1 D.nx
def aJJ(he:PE X e te)(hg:PG X tg g)(hs:swapsWithSole [tg] e pos.line X.env=pure false:=by rfl)(hw:swappedStores [tg] e X.env=pure none:=by rfl)(h1:(assignEach [tg] X.env).map (·.2)=[assign tg X.env]:=by rfl):PS X (.Assign [tg] e pos) (bJ8 te g):=by
 intro pins s σ H D I h;refine wpAny_Assign_stores (thn (he pins s σ H _ I h) λv s1 ⟨x,H1,I1,r1,q1⟩=>?_) hs hw;rw[h1];exact thn (hg pins s1 σ H1 x v _ I1 r1 q1) λ_ s2 q=>q
def aX7{i:Nat}{x:Str}{e:Expr}{te:TE}{pos':Pos}(hN:X.N.Nodup)(hi:X.N[i]?=some x)(hx:Loc X.env.scope x)(he:PE X e te)(hs:swapsWith e (some (.Name x pos')) pos.line X.env=pure false:=by rfl)(hf:X.fn x=true\/X.env.scope.names.lookup x=some .local:=by first|exact .inl rfl|exact .inr rfl|assumption):PS X (.Assign [.Name x pos'] e pos) (bJ8 te (pC i)):=by
 intro pins s σ H D I h;refine wpAny_Assign_Name (thn (he pins s σ H _ I h) λv s1 ⟨y,H1,I1,r1,q1⟩=>?_) hs;exact tJ I1 hN hi hx r1 (λs2 I2=>⟨_,H1,I2,q1⟩) hf
end
def eXQ(c:TT)(tb:TS):TS:=λD σ H=>∃W:Nat->St->Hp->Prop,(∃m,W m σ H)/\∀m σ H,W m σ H->
 c σ H λb H1=>if b=true then ∃N:St->Hp->Prop,(∀σ' H',N σ' H'->∃m',m' < m/\W m' σ' H')/\tb {D with nx:=N,ct:=N,bk:=D.nx} σ H1 else D.nx σ H1
def aQS{c:Expr}{tc:TT}{tb:TS}(hp:PassesOwn (model X.prog X.w) X.A X.env X.xe)(hc:PT X c tc)(hb:PSs X body tb):PS X (.While c body [] pos) (eXQ tc tb):=by
 intro pins s σ H D I h;obtain⟨W,⟨m0,w0⟩,turn⟩:=h;refine wpAny_While (codeAny_whileLoop (λn s'=>∃σ' H',Inv X pins σ' H' s'/\W n σ' H') ?_ m0 ⟨σ,H,I,w0⟩);rintro n s1 ⟨σ1,H1,I1,w1⟩;refine En hp (thn (hc pins s1 σ1 H1 _ I1 (turn n σ1 H1 w1)) λb s2 ⟨H2,I2,q2⟩=>?_);cases b with
 |true=>
  obtain⟨N,hN,q2⟩:=q2;rw[if_pos rfl];refine En hp (thn (hb pins s2 σ1 H2 _ I2 q2) λf s3 q3=>?_);cases f with
  |next=>
   obtain⟨σ3,H3,I3,n3⟩:=q3;obtain⟨m',hm,w3⟩:=hN σ3 H3 n3;exact⟨m',hm,σ3,H3,I3,w3⟩
  |cont=>
   obtain⟨σ3,H3,I3,n3⟩:=q3;obtain⟨m',hm,w3⟩:=hN σ3 H3 n3;exact⟨m',hm,σ3,H3,I3,w3⟩
  |brk=>exact q3
  |ret v=>exact q3
 |false=>
  rw[if_neg Ap];exact wpAny_execs_nil ⟨σ1,H2,I2,q2⟩
structure It where
 go:Nat->Hp->Prop
 yld:Nat->Hp->V->Hp->Prop
 stop:Nat->Hp->Prop
def lX(X:Cx)(pins:List (Addr×Obj))(H:Hp)(b:Addr):Prop:=
 H b=none/\b≠X.env.locals/\b∉X.fs/\(b∈X.ex\/X.s₀.heap.objs.size<=b)/\(∀x c,X.env.cells.lookup x=some c->c≠b)/\∀p∈X.pn++pins,p.1≠b
def Inv.fpOk{H':Hp}(I:Inv X pins σ H s)(hb:s.heap.objs.size<=b)(hn:H' b=none):lX X pins H' b:=by
 refine⟨hn,Fb (Bf I.lt hb),I.nofs hb,.inr (Bi I.sz hb),λx c e z=>?_,λp hp z=>?_⟩
 ·obtain⟨v,q⟩:=I.cell x c e;exact absurd (Bf q.lt (by rw[z];exact hb)) (Dv _)
 ·exact absurd (Bf (Av (I.pin p hp).1) (by rw[z];exact hb)) (Dv _)
structure Turn (P:Program) (w:World) (K:W.Frag) (tg:Expr) (J:It) (fp:List Addr) (it:Addr) (tn:Nat->Heap->Prop):Prop where
 mem:it∈fp
 obj:∀i h,tn i h->∀b∈fp,∃o,h.get? b=some o/\∀v,o.data≠.cell v
 keep:∀i h h',tn i h->(∀b∈fp,∀o,h.get? b=some o->h'.get? b=some o)->tn i h'
 item:∀(X:Cx),X.prog=P->X.w=w->X.K=K->X.calm=true->∀(i:Nat) (pins:Q2) (s:Shared) (σ:St) (H:Hp) (E:Q0),Inv X pins σ H s->(∀b∈fp,lX X pins H b)->tn i s.heap->J.go i H->
  wpAny (model P w) X.A (pyNext (.ref it)) (λr s1=>∃u,r=some u/\
   wpAny (model P w) X.A (letOwnedTupleGo tg (.ref it) u) (λ_ s2=>∃x H',Inv X pins σ H' s2/\RelV x u/\J.yld i H x H'/\tn (i+1) s2.heap/\∀b∈fp,H' b=none) E s1) E s
 done:∀(X:Cx),X.prog=P->X.w=w->X.K=K->X.calm=true->∀(i:Nat) (pins:Q2) (s:Shared) (σ:St) (H:Hp) (E:Q0),Inv X pins σ H s->(∀b∈fp,lX X pins H b)->tn i s.heap->J.stop i H->
  wpAny (model P w) X.A (pyNext (.ref it)) (λr s1=>r=none/\Inv X pins σ H s1) E s
 self:∀(A:Around) (i:Nat) (s:Shared) (Q:Q0) (E:Q0),tn i s.heap->Q (.ref it) s->wpAny (model P w) A (pyIter (.ref it)) Q E s
abbrev TI:=St->Hp->(It->Hp->Prop)->Prop
def PIE(X:Cx)(pins:List (Addr×Obj))(σ:St)(tg:Expr)(R:It->Hp->Prop)(itv:Value)(s2:Shared):Prop:=
 ∃(it:Addr) (fp:List Addr) (tn:Nat->Heap->Prop) (J:It) (H':Hp),itv=.ref it/\Inv X pins σ H' s2/\Turn X.prog X.w X.K tg J fp it tn/\tn 0 s2.heap/\(∀b∈fp,lX X pins H' b)/\R J H'
def PI(X:Cx)(tg iter:Expr)(wi:TI):Prop:=
 ∀(pins:Q2) (s:Shared) (σ:St) (H:Hp) (R:It->Hp->Prop),Inv X pins σ H s->wi σ H R->
  wpAny (model X.prog X.w) X.A (eval iter X.env) (λv s1=>wpAny (model X.prog X.w) X.A (pyIter v) (PIE X pins σ tg R) X.xe s1) X.xe s
def wZ{s:Shared}{it:Addr}{o:Obj}{n:String}{vs:Array Value}{Q:Unit->Shared->Prop}(ho:s.heap.get? it=some o)(hc:o.cls=.type n)(hd:o.data=.fields vs)(hn:["enumerate", "zip", "dict_itemiterator", "dict_reverseitemiterator", "odict_iterator", "itertools.zip_longest", "itertools.pairwise"].contains n=false)(hQ:Q () s):wpAny M A (letOwnedTupleGo tg (.ref it) u) Q E s:=by
 unfold letOwnedTupleGo;cases tg<;>first
  |exact Ao hQ
  | (cases u <;> first
      |exact Ao hQ
      | (refine Ae (wpAny_load ho ?_)
         rw[hc,hd];show wpAny M A (if (["enumerate", "zip", "dict_itemiterator", "dict_reverseitemiterator", "odict_iterator", "itertools.zip_longest", "itertools.pairwise"].contains n&&vs[0]? == some (rawInt _))=true then _ else _) Q E s
         rw[if_neg (by intro h;rw[hn,Bool.false_and]at h;cases h)]
         exact Ao hQ))
def Itl(K:W.Frag)(a:Addr):It:=
 ⟨λi H=>∃xs x,SqL K H a xs/\xs[i]?=some x,λi H x H'=>H'=H/\∀xs,SqL K H a xs->xs[i]?=some x,λi H=>∃xs,SqL K H a xs/\xs.length<=i⟩
def Itr(lo:Int)(n:Nat):It:=⟨λi _=>i<n,λi H x H'=>H'=H/\x=.int (lo+i),λi _=>n<=i⟩
def bZD(a it:Addr):Turn P w K tg (Itl K a) [it] it (λi h=>h.IsListIter it a i) where
 mem:=by simp
 obj:=λi h st b hb=>by
  have e:b=it:=by simpa using hb
  subst e;obtain⟨o,e,c,d⟩:=st;exact⟨o,e,λv z=>by rw[d]at z;cases z⟩
 keep:=λi h h' st k=>st.at λo e=>k it (by simp) o e
 item:=by
  intro X hP hw hK hc i pins s σ H E I hf st hg;subst hP hw hK;obtain⟨xs,x,hq,hx⟩:=hg;obtain⟨its,rv,p,hz⟩:=I.list hq;obtain⟨u,hu,ru⟩:=rv.get hx;obtain⟨f0,f1,f2,f3,f4,f5⟩:=hf it (by simp)
  refine wpAny_pyNext_list_item st p.isList (x:=u) (by simpa using hu) λh' st' sb=>?_
  have I1:Inv X pins σ H {s with heap:=h'}:=I.turned (t':=s.toks) (λb o hb e=>(sb.2 b hb).trans e) f0 f1 f3 f4 f5
  obtain⟨o,e,c,d⟩:=id st';exact⟨u,rfl,wZ (s:={s with heap:=h'}) e c d (by decide) ⟨x,H,I1,ru,⟨rfl,λys hy=>by rw[I.list_inj hy hq];exact hx⟩,st',λb hb=>(hf b hb).1⟩⟩
 done:=by
  intro X hP hw hK hc i pins s σ H E I hf st hg;subst hP hw hK;obtain⟨xs,hq,hx⟩:=hg;obtain⟨its,rv,p,hz⟩:=I.list hq;obtain⟨f0,f1,f2,f3,f4,f5⟩:=hf it (by simp)
  have hl:=rv.length
  exact wpAny_pyNext_list_end (I.ok.hd hc) st p.isList (by simp;omega) λh' eb=>⟨rfl,I.turned (t':=s.toks) (λb o hb e=>eb b o hb e) f0 f1 f3 f4 f5⟩
 self:=λ_ _ _ _ _ st h=>wpAny_pyIter_listiter st h
def aJK{K:PySem.W.Frag}(it:Addr)(lo:Int)(n:Nat):Turn P w K tg (Itr lo n) [it] it (λi h=>IsRangeIter h it (lo+(i:Nat)*1) ((n:Int)-(i:Nat)) 1) where
 mem:=by simp
 obj:=λi h st b hb=>by
  have e:b=it:=by simpa using hb
  subst e;exact⟨_,st,λv z=>by
   have z':Data.fields _=Data.cell v:=z
   cases z'⟩
 keep:=λi h h' st k=>k it (by simp) _ st
 item:=by
  intro X hP hw hK hc i pins s σ H E I hf st hg;subst hP hw hK;obtain⟨f0,f1,f2,f3,f4,f5⟩:=hf it (by simp)
  have W:=Walks.range (prog:=X.prog) (w:=X.w) (I.ok.hd hc) it lo 1 n
  refine W.item i s _ _ hg st λv h' tk hv st' kk=>?_;obtain⟨t,rfl⟩:=hv;have I1:Inv X pins σ H {s with heap:=h',toks:=tk}:=I.turned (λb o hb e=>kk b o (by simpa using hb) e) f0 f1 f3 f4 f5
  refine⟨_,rfl,wZ (s:={s with heap:=h',toks:=tk}) (n := "range_iterator") st' rfl rfl (by decide) ⟨.int (lo+i),H,I1,⟨t,?_⟩,⟨rfl,rfl⟩,st',λb hb=>(hf b hb).1⟩⟩
  rw[Int.mul_one]
 done:=by
  intro X hP hw hK hc i pins s σ H E I hf st hg;subst hP hw hK;obtain⟨f0,f1,f2,f3,f4,f5⟩:=hf it (by simp)
  exact wpAny_pyNext_range_end (I.ok.hd hc) st (by have:n<=i:=hg;omega) λh' eb=>⟨rfl,I.turned (t':=s.toks) (λb o hb e=>eb b o hb e) f0 f1 f3 f4 f5⟩
 self:=λ_ _ _ _ _ st h=>wpAny_pyIter_rangeiter st h
def aQ1{R:It->Hp->Prop}{lo hi:Int}{t u v:Tok}{tk:Nat}(I:Inv X pins σ H s)(h1:-(2^62)<=lo)(h2:lo<2^62)(h3:-(2^62)<=hi)(h4:hi<2^62)(q:R (Itr lo (hi-lo).toNat) H):wpAny (model X.prog X.w) X.A (pyIter (.ref s.heap.objs.size)) (PIE X pins σ tg R) E {s with heap:=s.heap.push {cls:=.type "range",data:=.fields #[.int lo t,.int hi u,.int 1 v]},toks:=tk}:=by
 refine wpAny_pyIter_range (IsRange.new ..) (small_one h1 h2 h3 h4) ?_;have I1:Inv X pins σ H {s with heap:=s.heap.push {cls:=.type "range",data:=.fields #[.int lo t,.int hi u,.int 1 v]},toks:=tk}:=I.kept λb o e=>Ag _ e
 refine⟨(s.heap.push {cls:=.type "range",data:=.fields #[.int lo t,.int hi u,.int 1 v]}).objs.size,[(s.heap.push {cls:=.type "range",data:=.fields #[.int lo t,.int hi u,.int 1 v]}).objs.size],_,_,H,rfl,
  I1.kept (t':=tk) λb o e=>Ag _ e,aJK _ lo (hi-lo).toNat,?_,λb hb=>?_,q⟩
 ·have e1:lo+((0:Nat):Int)*1=lo:=by simp
  have e2:(((hi-lo).toNat:Nat):Int)-((0:Nat):Int)=Builtin.Range.rangeSize lo hi 1:=by rw[rangeSize_one];split<;>omega
  show IsRangeIter _ _ (lo+((0:Nat):Int)*1) ((((hi-lo).toNat:Nat):Int)-((0:Nat):Int)) 1
  rw[e1,e2];exact Ay _ rfl
 ·have e:b=(s.heap.push {cls:=.type "range",data:=.fields #[.int lo t,.int hi u,.int 1 v]}).objs.size:=by simpa using hb
  subst e;exact I1.fpOk (Ai _) (I1.hok.fresh (Ai _))
def fQ8(wi:TI)(g:TG)(tb:TS):TS:=λD σ H=>wi σ H λJ H1=>∃W:Nat->Nat->St->Hp->Prop,(∃m,W 0 m σ H1)/\∀i m σ H,W i m σ H->
 (J.stop i H/\D.nx σ H)\/(J.go i H/\∃N:St->Hp->Prop,(∀σ' H',N σ' H'->∃m',m' < m/\W (i+1) m' σ' H')/\∀x H',J.yld i H x H'->g x σ H' λσ2 H2=>tb {D with nx:=N,ct:=N,bk:=D.nx} σ2 H2)
def pO(fp:List Addr)(h:Heap):List (Addr×Obj):=fp.filterMap λb=>(h.get? b).map λo=>(b,o)
def jF{o:Obj}(hb:b∈fp)(e:h.get? b=some o):(b,o)∈pO fp h:=Dp.mpr ⟨b,hb,by rw[e];rfl⟩
def bX6{p:Addr×Obj}(hp:p∈pO fp h):p.1∈fp/\h.get? p.1=some p.2:=by
 obtain⟨b,hb,e⟩:=Dp.mp hp;cases q:h.get? b with
 |none=>rw[q]at e;cases e
 |some o=>
  rw[q]at e;have e':(b,o)=p:=Bl e
  subst e';exact⟨hb,q⟩
def Inv.pinned(I:Inv X pins σ H s)(hf:∀b∈fp,lX X pins H b)(ho:∀b∈fp,∃o,s.heap.get? b=some o/\∀v,o.data≠.cell v):Inv X (pins++pO fp s.heap) σ H s:=
 I.pins_of λp hp=>(Bm.mp hp).elim (λz=>I.pin p (Be _ z)) λz=>by
  obtain⟨hb,e⟩:=bX6 z;obtain⟨f0,f1,f2,_⟩:=hf p.1 hb;obtain⟨o,e',d⟩:=ho p.1 hb;rw[e]at e';cases e';exact⟨e,f0,f1,f2,d⟩
def Inv.unpinned{pl:Q2}(I:Inv X (pins++pl) σ H s):Inv X pins σ H s:=I.pins_of λp hp=>I.pin p (Be _ (Cb _ hp))
def dJ5{iter:Expr}{wi:TI}{tb:TS}(hp:PassesOwn (model X.prog X.w) X.A X.env X.xe)(hc:X.calm=true)(hi:PI X tg iter wi)(hg:PG X tg g)(hb:PSs X body tb)(hs:∀x,foldedSetIterable iter X.env x=pure x:=by intro _;rfl):PS X (.For tg iter body [] pos) (fQ8 wi g tb):=by
 intro pins s σ H D I h;refine wpAny_For (thn (hi pins s σ H _ I h) λv s1 h1=>thn h1 λitv s2 h2=>?_) hs;obtain⟨it,fp,tn,J,H2,e,I2,T,st2,f2,W,⟨m0,w0⟩,turn⟩:=h2;subst e
 -- what stays true of the iterator's objects through the loop
 have stat:∀ {H':Hp},(∀b∈fp,H' b=none)->∀b∈fp,lX X pins H' b:=λhn b hb=>⟨hn b hb,(f2 b hb).2⟩
 refine codeAny_forLoop_any (λn s'=>∃i σ' H',Inv X pins σ' H' s'/\tn i s'.heap/\(∀b∈fp,H' b=none)/\W i n σ' H') ?_ m0 ⟨0,σ,H2,I2,st2,λb hb=>(f2 b hb).1,w0⟩;rintro n s3 ⟨i,σ3,H3,I3,st3,fr3,w3⟩;rcases turn i n σ3 H3 w3 with⟨stop,qn⟩|⟨go,N,hN,step⟩
 ·refine En hp (thn (T.done X rfl rfl rfl hc i pins s3 σ3 H3 X.xe I3 (stat fr3) st3 stop) λr s4 ⟨hr,I4⟩=>?_);subst hr;exact wpAny_execs_nil ⟨σ3,H3,I4,qn⟩
 ·refine En hp (thn (T.item X rfl rfl rfl hc i pins s3 σ3 H3 X.xe I3 (stat fr3) st3 go) λr s4 ⟨u,hr,h4⟩=>?_);subst hr;refine En hp (thn h4 λ_ s5 ⟨x,H5,I5,r5,y5,st5,fr5⟩=>?_);have I5':=I5.pinned (stat fr5) (T.obj _ _ st5)
  refine En hp (thn (hg _ s5 σ3 H5 x u _ I5' r5 (step x H5 y5)) λ_ s6 ⟨σ6,H6,I6,q6⟩=>?_);refine En hp (thn (hb _ s6 σ6 H6 _ I6 q6) λf s7 q7=>?_);have again:∀ {σ7:St} {H7:Hp},Inv X (pins++pO fp s5.heap) σ7 H7 s7->N σ7 H7->∃m,m<n/\∃i σ' H',Inv X pins σ' H' s7/\tn i s7.heap/\(∀b∈fp,H' b=none)/\W i m σ' H':=fun {σ7 H7} I7 n7=>by
   obtain⟨m',hm,w7⟩:=hN σ7 H7 n7;refine⟨m',hm,i+1,σ7,H7,I7.unpinned,T.keep _ _ _ st5 λb hb o e=>(I7.pin (b,o) (Be _ (Be _ (jF hb e)))).1,λb hb=>?_,w7⟩;obtain⟨o,e,d⟩:=T.obj _ _ st5 b hb;exact(I7.pin (b,o) (Be _ (Be _ (jF hb e)))).2.1
  cases f with
  |next=>obtain⟨σ7,H7,I7,n7⟩:=q7;exact again I7 n7
  |cont=>obtain⟨σ7,H7,I7,n7⟩:=q7;exact again I7 n7
  |brk=>obtain⟨σ7,H7,I7,q7⟩:=q7;exact⟨σ7,H7,I7.unpinned,q7⟩
  |ret v=>obtain⟨x7,σ7,H7,I7,r7,q7⟩:=q7;exact⟨x7,σ7,H7,I7.unpinned,r7,q7⟩
def bJ1{K:PySem.W.Frag}{tb:TS}{D:Ends}(Pv:Nat->St->Hp->Prop)(h0:Pv 0 σ H)(hl:∀i σ H,i<=xs.length->Pv i σ H->SqL K H a xs)(hs:∀i x σ H,xs[i]?=some x->Pv i σ H->g x σ H λσ2 H2=>tb {D with nx:=Pv (i+1),ct:=Pv (i+1),bk:=D.nx} σ2 H2)(hd:∀σ H,Pv xs.length σ H->D.nx σ H):∃W:Nat->Nat->St->Hp->Prop,(∃m,W 0 m σ H)/\∀i m σ H,W i m σ H->
 ((Itl K a).stop i H/\D.nx σ H)\/((Itl K a).go i H/\∃N:St->Hp->Prop,(∀σ' H',N σ' H'->∃m',m' < m/\W (i+1) m' σ' H')/\∀x H',(Itl K a).yld i H x H'->g x σ H' λσ2 H2=>tb {D with nx:=N,ct:=N,bk:=D.nx} σ2 H2):=by
 refine⟨λi m σ H=>m=xs.length-i/\i<=xs.length/\Pv i σ H,⟨xs.length,by simp,Nat.zero_le _,h0⟩,?_⟩
 rintro i m σ H ⟨rfl,hi,p⟩;have q:=hl i σ H hi p
 by_cases hlt:i<xs.length
 ·refine .inr ⟨⟨xs,xs[i],q,by simp[hlt]⟩,Pv (i+1),λσ' H' p'=>⟨xs.length-(i+1),by omega,rfl,hlt,p'⟩,λx H' y=>?_⟩
  obtain⟨e,y⟩:=y;subst e;exact hs i x σ _ (y xs q) p
 ·have e:i=xs.length:=by omega
  subst e;exact .inl ⟨⟨xs,q,Ai _⟩,hd σ H p⟩
def bXA{lo:Int}{n:Nat}{tb:TS}{D:Ends}(Pv:Nat->St->Hp->Prop)(h0:Pv 0 σ H)(hs:∀i σ H,i<n->Pv i σ H->g (.int (lo+i)) σ H λσ2 H2=>tb {D with nx:=Pv (i+1),ct:=Pv (i+1),bk:=D.nx} σ2 H2)(hd:∀σ H,Pv n σ H->D.nx σ H):∃W:Nat->Nat->St->Hp->Prop,(∃m,W 0 m σ H)/\∀i m σ H,W i m σ H->
 ((Itr lo n).stop i H/\D.nx σ H)\/((Itr lo n).go i H/\∃N:St->Hp->Prop,(∀σ' H',N σ' H'->∃m',m' < m/\W (i+1) m' σ' H')/\∀x H',(Itr lo n).yld i H x H'->g x σ H' λσ2 H2=>tb {D with nx:=N,ct:=N,bk:=D.nx} σ2 H2):=by
 refine⟨λi m σ H=>m=n-i/\i<=n/\Pv i σ H,⟨n,by simp,Nat.zero_le _,h0⟩,?_⟩
 rintro i m σ H ⟨rfl,hi,p⟩;by_cases hlt:i<n
 ·refine .inr ⟨hlt,Pv (i+1),λσ' H' p'=>⟨n-(i+1),by omega,rfl,hlt,p'⟩,λx H' y=>?_⟩
  obtain⟨e,y⟩:=y;subst e y;exact hs i σ _ hlt p
 ·have e:i=n:=by omega
  subst e;exact .inl ⟨Ai _,hd σ H p⟩
abbrev R2:=V->V->Hp->VK->Prop
def OpR(X:Cx)(f:Value->Value->Sem Value)(r:R2):Prop:=
 ∀(pins:Q2) (s:Shared) (σ:St) (H:Hp) (x y:V) (v u:Value) (Q:VK),Inv X pins σ H s->RelV x v->RelV y u->r x y H Q->
  wpAny (model X.prog X.w) X.A (f v u) (EP X pins σ Q) X.xe s
def UnR(X:Cx)(f:Value->Sem Value)(r:V->Hp->VK->Prop):Prop:=
 ∀(pins:Q2) (s:Shared) (σ:St) (H:Hp) (x:V) (v:Value) (Q:VK),Inv X pins σ H s->RelV x v->r x H Q->
  wpAny (model X.prog X.w) X.A (f v) (EP X pins σ Q) X.xe s
def CallR(X:Cx)(f:Value)(r:List V->Hp->VK->Prop):Prop:=
 ∀(pins:Q2) (s:Shared) (σ:St) (H:Hp) (xs:List V) (us:List Value) (Q:VK),Inv X pins σ H s->Vals xs us->r xs H Q->
  wpAny (model X.prog X.w) X.A (call f us) (EP X pins σ Q) X.xe s
def fQ3(X:Cx)(r:V->Hp->(Bool->Hp->Prop)->Prop):Prop:=
 ∀(pins:Q2) (s:Shared) (σ:St) (H:Hp) (x:V) (v:Value) (Q:Bool->Hp->Prop),Inv X pins σ H s->RelV x v->r x H Q->
  wpAny (model X.prog X.w) X.A (truthy v) (TP X pins σ Q) X.xe s
def tOp(r:R2)(ta tb:TE):TE:=λσ H Q=>ta σ H λx H1=>tb σ H1 λy H2=>r x y H2 Q
def tUn(r:V->Hp->VK->Prop)(ta:TE):TE:=λσ H Q=>ta σ H λx H1=>r x H1 Q
def rI(C:Int->Int->Prop)(g:Int->Int->V):R2:=λx y H Q=>∃i j,x=.int i/\y=.int j/\C i j/\Q (g i j) H
def rI0(g:Int->Int->V):R2:=λx y H Q=>∃i j,x=.int i/\y=.int j/\Q (g i j) H
def rU(g:Int->V):V->Hp->VK->Prop:=λx H Q=>∃i,x=.int i/\Q (g i) H
section
variable {a b:Expr}
def eXL(ha:PE X a ta)(hb:PE X b tb){R:V->V->Hp->Prop}(I:Inv X pins σ H s)(h:ta σ H λx H1=>tb σ H1 λy H2=>R x y H2)(hf:∀v u s2 x y H2,Inv X pins σ H2 s2->RelV x v->RelV y u->R x y H2->wpAny (model X.prog X.w) X.A (f v u) Q X.xe s2):wpAny (model X.prog X.w) X.A (eval a X.env) (λv s₁=>wpAny (model X.prog X.w) X.A (eval b X.env) (λu s₂=>wpAny (model X.prog X.w) X.A (f v u) Q X.xe s₂) X.xe s₁) X.xe s:=by
 refine thn (ha pins s σ H _ I h) λv s1 ⟨x,H1,I1,r1,q1⟩=>?_;refine thn (hb pins s1 σ H1 _ I1 q1) λu s2 ⟨y,H2,I2,r2,q2⟩=>?_;exact hf v u s2 x y H2 I2 r1 r2 q2
def aQ{op:Operator}{r:R2}(ho:OpR X (binaryOp op) r)(ha:PE X a ta)(hb:PE X b tb):PE X (.BinOp a op b pos) (tOp r ta tb):=by
 intro pins s σ H Q I h;exact wpAny_BinOp (eXL ha hb I h λv u s2 x y H2 I2 rx ry q=>ho pins s2 σ H2 x y v u Q I2 rx ry q)
def bJO{op:UnaryOp}{r:V->Hp->VK->Prop}(ho:UnR X (unaryOp op) r)(ha:PE X a ta):PE X (.UnaryOp op a pos) (tUn r ta):=by
 intro pins s σ H Q I h;exact UnaryOp_ (thn (ha pins s σ H _ I h) λv s1 ⟨x,H1,I1,r1,q1⟩=>ho pins s1 σ H1 x v Q I1 r1 q1)
def opI{C:Int->Int->Prop}{g:Int->Int->Int}(rule:∀(i j:Int) (t u:Tok) (s:Shared) (Q:Q0) (E:Q0),C i j->Q (.int (g i j) s.toks) {s with toks:=s.toks+1}->wpAny (model X.prog X.w) X.A (f (.int i t) (.int j u)) Q E s):OpR X f (rI C λi j=>.int (g i j)):=by
 intro pins s σ H x y v u Q I rx ry h;obtain⟨i,j,rfl,rfl,hc,q⟩:=h;obtain⟨t,rfl⟩:=rx;obtain⟨t',rfl⟩:=ry;exact rule i j t t' s _ _ hc ⟨.int (g i j),H,I.tok _,⟨_,rfl⟩,q⟩
def eZ7{g:Int->Int->Int}(rule:∀(i j:Int) (t u:Tok) (s:Shared) (Q:Q0) (E:Q0),Q (.int (g i j) s.toks) {s with toks:=s.toks+1}->wpAny (model X.prog X.w) X.A (f (.int i t) (.int j u)) Q E s):OpR X f (rI0 λi j=>.int (g i j)):=by
 intro pins s σ H x y v u Q I rx ry h;obtain⟨i,j,rfl,rfl,q⟩:=h;obtain⟨t,rfl⟩:=rx;obtain⟨t',rfl⟩:=ry;exact rule i j t t' s _ _ ⟨.int (g i j),H,I.tok _,⟨_,rfl⟩,q⟩
def dJU{g:Int->Int->Bool}(rule:∀(i j:Int) (t u:Tok) (s:Shared) (Q:Q0) (E:Q0),Q (.bool (g i j)) s->wpAny (model X.prog X.w) X.A (f (.int i t) (.int j u)) Q E s):OpR X f (rI0 λi j=>.bl (g i j)):=by
 intro pins s σ H x y v u Q I rx ry h;obtain⟨i,j,rfl,rfl,q⟩:=h;obtain⟨t,rfl⟩:=rx;obtain⟨t',rfl⟩:=ry;exact rule i j t t' s _ _ ⟨.bl (g i j),H,I,rfl,q⟩
def eJ5(i j:Int):Prop:=0<j/\j<1073741824
def CMul(i j:Int):Prop:=(-(2^64)<i/\i<2^64)\/(-(2^64)<j/\j<2^64)
def CMul.ok{i j:Int}(h:CMul i j):IntMulOk i j:=by
 rcases h with⟨h1,h2⟩|⟨h1,h2⟩
 ·exact .of_left (intBits_le_64 h1 h2)
 ·exact .of_right (intBits_le_64 h1 h2)
def eXS:OpR X (binaryOp .Add) (rI0 λi j=>.int (i+j)):=eZ7 λ_ _ _ _ _ _ _ q=>add_int q
def op_sub:OpR X (binaryOp .Sub) (rI0 λi j=>.int (i-j)):=eZ7 λ_ _ _ _ _ _ _ q=>sub_int q
def op_mul:OpR X (binaryOp .Mult) (rI CMul λi j=>.int (i*j)):=opI λ_ _ _ _ _ _ _ hc q=>mul_int q hc.ok
def op_fdiv:OpR X (binaryOp .FloorDiv) (rI eJ5 λi j=>.int (i / j)):=opI λi j _ _ _ _ _ hc q=>by
 have h1:(0:Int)<j:=hc.1
 have h2:j<1073741824:=hc.2
 exact floordiv_int (by omega) (by rw[Int.fdiv_eq_ediv_of_nonneg i (by omega)];exact q) (.inl (PyProof.noPylong_small (by omega)))
def op_mod:OpR X (binaryOp .Mod) (rI (λ_ j=>0<j) λi j=>.int (i%j)):=opI λi j _ _ _ _ _ hc q=>by
 have h1:(0:Int)<j:=hc
 exact mod_int' (by omega) (by rw[Int.fmod_eq_emod_of_nonneg i (by omega)];exact q)
def unI{f:Value->Sem Value}{g:Int->Int}(rule:∀(i:Int) (t:Tok) (s:Shared) (Q:Q0) (E:Q0),Q (.int (g i) s.toks) {s with toks:=s.toks+1}->wpAny (model X.prog X.w) X.A (f (.int i t)) Q E s):UnR X f (rU λi=>.int (g i)):=by
 intro pins s σ H x v Q I rx h;obtain⟨i,rfl,q⟩:=h;obtain⟨t,rfl⟩:=rx;exact rule i t s _ _ ⟨.int (g i),H,I.tok _,⟨_,rfl⟩,q⟩
def eXJ:UnR X (unaryOp .USub) (rU λi=>.int (-i)):=unI λ_ _ _ _ _ q=>neg_int q
end
def dQK:V->V->Bool
 |.non,.non=>true|.non,.int _=>true|.int _,.non=>true|.non,.bl _=>true|.bl _,.non=>true|.non,.str _=>true|.str _,.non=>true
 |.int _,.int _=>true|.bl _,.bl _=>true|.str _,.str _=>true|.byt _,.byt _=>true
 |.int _,.str _=>true|.str _,.int _=>true|.bl _,.str _=>true|.str _,.bl _=>true
 |_,_=>false
def rEq:R2:=λx y H Q=>dQK x y=true/\Q (.bl (decide (x=y))) H
def rNe:R2:=λx y H Q=>dQK x y=true/\Q (.bl (!decide (x=y))) H
def bQ0{i j:Int}:decide (V.int i=V.int j)=(i==j):=by
 rw[Gd];simp
def cZW{i j:Bool}:decide (V.bl i=V.bl j)=(i==j):=by
 rw[Gd];simp
def zG{i j:Str}:decide (V.str i=V.str j)=(i==j):=by
 rw[Gd];simp
def bQZ{i j:Array UInt8}:decide (V.byt i=V.byt j)=(i.toList==j.toList):=by
 rw[Gd];cases i;cases j;simp
section
variable {a b:Expr}
def bQ{Q:VK}{k k':Bool}(I:Inv X pins σ H s)(q:Q (.bl k) H)(e:k=k'):EP X pins σ Q (.bool k') s:=by
 subst e;exact⟨.bl k,H,I,rfl,q⟩
def eJB:OpR X (compareOp .Eq) rEq:=by
 intro pins s σ H x y v u Q I rx ry h;obtain⟨hs,q⟩:=h;cases x with
 |non=>
  cases rx;cases y with
  |non=>cases ry;exact PySem.EqNone.eq_none_none (bQ I q (by simp))
  |bl j=>cases ry;exact PySem.EqNone.eq_none_bool (bQ I q (by simp))
  |int j=>obtain⟨t',rfl⟩:=ry;exact PySem.EqNone.eq_none_int (bQ I q (by simp))
  |str j=>obtain⟨t',rfl⟩:=ry;exact PySem.EqNone.eq_none_str (bQ I q (by simp))
  |_=>exact absurd (show false=true from hs) Ap
 |bl i=>
  cases rx;cases y with
  |non=>cases ry;exact PySem.EqNone.eq_bool_none (bQ I q (by simp))
  |bl j=>cases ry;exact eq_bool (bQ I q cZW)
  |str j=>obtain⟨t',rfl⟩:=ry;exact PySem.EqMixed.eq_bool_str (bQ I q (by simp))
  |_=>exact absurd (show false=true from hs) Ap
 |int i=>
  obtain⟨t,rfl⟩:=rx;cases y with
  |non=>cases ry;exact PySem.EqNone.eq_int_none (bQ I q (by simp))
  |int j=>obtain⟨t',rfl⟩:=ry;exact eq_int (bQ I q bQ0)
  |str j=>obtain⟨t',rfl⟩:=ry;exact PySem.EqMixed.eq_int_str (bQ I q (by simp))
  |_=>exact absurd (show false=true from hs) Ap
 |str i=>
  obtain⟨t,rfl⟩:=rx;cases y with
  |non=>cases ry;exact PySem.EqNone.eq_str_none (bQ I q (by simp))
  |bl j=>cases ry;exact PySem.EqMixed.eq_str_bool (bQ I q (by simp))
  |int j=>obtain⟨t',rfl⟩:=ry;exact PySem.EqMixed.eq_str_int (bQ I q (by simp))
  |str j=>obtain⟨t',rfl⟩:=ry;exact eq_str (bQ I q zG)
  |_=>exact absurd (show false=true from hs) Ap
 |byt i=>
  obtain⟨t,rfl⟩:=rx;cases y with
  |byt j=>obtain⟨t',rfl⟩:=ry;exact W.eq_bytes (bQ I q bQZ)
  |_=>exact absurd (show false=true from hs) Ap
 |_=>cases y<;>exact absurd (show false=true from hs) Ap
def eZ9:OpR X (compareOp .NotEq) rNe:=by
 intro pins s σ H x y v u Q I rx ry h;obtain⟨hs,q⟩:=h;cases x with
 |non=>
  cases rx;cases y with
  |non=>cases ry;exact PySem.EqNone.ne_none_none (bQ I q (by simp))
  |bl j=>cases ry;exact PySem.EqNone.ne_none_bool (bQ I q (by simp))
  |int j=>obtain⟨t',rfl⟩:=ry;exact PySem.EqNone.ne_none_int (bQ I q (by simp))
  |str j=>obtain⟨t',rfl⟩:=ry;exact PySem.EqNone.ne_none_str (bQ I q (by simp))
  |_=>exact absurd (show false=true from hs) Ap
 |bl i=>
  cases rx;cases y with
  |non=>cases ry;exact PySem.EqNone.ne_bool_none (bQ I q (by simp))
  |bl j=>cases ry;exact ne_bool (bQ I q (Ds not cZW))
  |str j=>obtain⟨t',rfl⟩:=ry;exact PySem.EqMixed.ne_bool_str (bQ I q (by simp))
  |_=>exact absurd (show false=true from hs) Ap
 |int i=>
  obtain⟨t,rfl⟩:=rx;cases y with
  |non=>cases ry;exact PySem.EqNone.ne_int_none (bQ I q (by simp))
  |int j=>obtain⟨t',rfl⟩:=ry;exact ne_int (bQ I q (Ds not bQ0))
  |str j=>obtain⟨t',rfl⟩:=ry;exact PySem.EqMixed.ne_int_str (bQ I q (by simp))
  |_=>exact absurd (show false=true from hs) Ap
 |str i=>
  obtain⟨t,rfl⟩:=rx;cases y with
  |non=>cases ry;exact PySem.EqNone.ne_str_none (bQ I q (by simp))
  |bl j=>cases ry;exact PySem.EqMixed.ne_str_bool (bQ I q (by simp))
  |int j=>obtain⟨t',rfl⟩:=ry;exact PySem.EqMixed.ne_str_int (bQ I q (by simp))
  |str j=>obtain⟨t',rfl⟩:=ry;exact ne_str (bQ I q (Ds not zG))
  |_=>exact absurd (show false=true from hs) Ap
 |byt i=>
  obtain⟨t,rfl⟩:=rx;cases y with
  |byt j=>obtain⟨t',rfl⟩:=ry;exact W.ne_bytes (bQ I q (Ds not bQZ))
  |_=>exact absurd (show false=true from hs) Ap
 |_=>cases y<;>exact absurd (show false=true from hs) Ap
def op_lt:OpR X (compareOp .Lt) (rI0 λi j=>.bl (decide (i<j))):=dJU λ_ _ _ _ _ _ _ q=>lt_int q
def op_gt:OpR X (compareOp .Gt) (rI0 λi j=>.bl (decide (j<i))):=dJU λ_ _ _ _ _ _ _ q=>gt_int q
def op_ge:OpR X (compareOp .GtE) (rI0 λi j=>.bl (decide (j<=i))):=dJU λ_ _ _ _ _ _ _ q=>ge_int q
def op_in_str:OpR X (compareOp .In) (λx y H Q=>∃i j,x=.str i/\y=.str j/\Q (.bl (!(Builtin.Str.occurrences j i 0 j.length 1).isEmpty)) H):=by
 intro pins s σ H x y v u Q I rx ry h;obtain⟨i,j,rfl,rfl,q⟩:=h;obtain⟨t,rfl⟩:=rx;obtain⟨t',rfl⟩:=ry;exact in_str (bQ I q rfl)
def op_isN:OpR X (compareOp .Is) (λx y H Q=>y=.non/\Q (.bl (decide (x=.non))) H):=by
 intro pins s σ H x y v u Q I rx ry h;obtain⟨rfl,q⟩:=h;cases ry;refine is_none_gen (bQ I q ?_);cases x<;>first
  |(cases rx;rfl)
  |(obtain⟨t,rfl⟩:=rx;rfl)
def op_notN:OpR X (compareOp .IsNot) (λx y H Q=>y=.non/\Q (.bl (!decide (x=.non))) H):=by
 intro pins s σ H x y v u Q I rx ry h;obtain⟨rfl,q⟩:=h;cases ry;refine isnot_none_gen (bQ I q ?_);cases x<;>first
  |(cases rx;rfl)
  |(obtain⟨t,rfl⟩:=rx;rfl)
def op_notin_str:OpR X (compareOp .NotIn) (λx y H Q=>∃i j,x=.str i/\y=.str j/\Q (.bl (!(!(Builtin.Str.occurrences j i 0 j.length 1).isEmpty))) H):=by
 intro pins s σ H x y v u Q I rx ry h;obtain⟨i,j,rfl,rfl,q⟩:=h;obtain⟨t,rfl⟩:=rx;obtain⟨t',rfl⟩:=ry;exact notIn_str (bQ I q rfl)
def aW(b:Expr){op:CmpOp}(h:op≠.In:=by decide)(h2:op≠.NotIn:=by decide):behindInMarks op b=false:=by
 have e1:(op==CmpOp.In)=false:=by cases op<;>first|rfl|exact absurd rfl h
 have e2:(op==CmpOp.NotIn)=false:=by cases op<;>first|rfl|exact absurd rfl h2
 cases b<;>simp[behindInMarks,e1,e2]
def cZ{op:CmpOp}{r:R2}(ho:OpR X (compareOp op) r)(ha:PE X a ta)(hb:PE X b tb)(hm:behindInMarks op b=false):PE X (.Compare a [op] [b] pos) (tOp r ta tb):=by
 intro pins s σ H Q I h;exact wpAny_Compare1 (eXL ha hb I h λv u s2 x y H2 I2 rx ry q=>ho pins s2 σ H2 x y v u Q I2 rx ry q) hm
def eZR(K:W.Frag)(x:V)(H:Hp)(k:Bool):Prop:=
 match x with
 |.non=>k=false
 |.bl b=>k=b
 |.int i=>k=(i != 0)
 |.str y=>y.length<=sizeLine/\k=((y.length:Int) != 0)
 |.byt y=>y.size<=sizeLine/\k=((y.size:Int) != 0)
 |.ref p=>(∃xs,SqL K H p xs/\k=!xs.isEmpty)\/(∃xs,SqT K H p xs/\k=!xs.isEmpty)\/∃kvs,H p=some (.dK kvs)/\k=!kvs.isEmpty
 |_=>False
def aXX{κ:Type}{kvs:List (κ×V)}{vs:List (κ×Value)}(r:KV kvs vs):(!vs.isEmpty)=!kvs.isEmpty:=by
 cases r<;>rfl
def tQ{its:List Value}(r:Vals xs its):(!its.toArray.isEmpty)=!xs.isEmpty:=by
 cases r<;>simp
def mS:(sizeLine:Nat)<2^63:=by rw[Ha];decide
def xV:fQ3 X (λx H Q=>∃k,eZR X.K x H k/\Q k H):=by
 intro pins s σ H x v Q I rx h;obtain⟨k,e,q⟩:=h;have hl:=mS
 have hs:sizeLine=16777216:=Ha
 cases x with
 |non=>
  cases rx;have e':k=false:=e
  subst e';exact truthy_none ⟨H,I,q⟩
 |bl b=>
  cases rx;have e':k=b:=e
  subst e';exact Gi ⟨H,I,q⟩
 |int i=>
  obtain⟨t,rfl⟩:=rx;have e':k=(i != 0):=e
  subst e';exact PySem.P.truthy_int ⟨H,I,q⟩
 |str y=>
  obtain⟨t,rfl⟩:=rx;obtain⟨hy,e'⟩:y.length<=sizeLine/\k=((y.length:Int) != 0):=e;subst e';exact PySem.P.truthy_str (by omega) ⟨H,I.tok _,q⟩
 |byt y=>
  obtain⟨t,rfl⟩:=rx;obtain⟨hy,e'⟩:y.size<=sizeLine/\k=((y.size:Int) != 0):=e;subst e';exact W.truthy_bytes (by omega) ⟨H,I.tok _,q⟩
 |ref p=>
  cases rx;have e':(∃xs,SqL X.K H p xs/\k=!xs.isEmpty)\/(∃xs,SqT X.K H p xs/\k=!xs.isEmpty)\/∃kvs,H p=some (.dK kvs)/\k=!kvs.isEmpty:=e
  rcases e' with⟨xs,hx,e'⟩|⟨xs,hx,e'⟩|⟨kvs,hx,e'⟩
  ·subst e';obtain⟨its,r,pl,hz⟩:=I.list hx;have hlen:=r.length
   exact wpAny_truthy_list pl.isList (by simp only[List.size_toArray];omega) ⟨H,I.tok _,by rw[tQ r];exact q⟩
  ·subst e';obtain⟨its,r,pl,hz⟩:=I.tuple hx;have hlen:=r.length
   exact truthy_tuple pl (by simp only[List.size_toArray];omega) ⟨H,I.tok _,by rw[tQ r];exact q⟩
  ·subst e';obtain⟨hz,hS,vs,r,m⟩:kvs.length<=sizeLine/\(p==sysModules)=false/\∃vs,KV kvs vs/\s.heap.DictOf (bB X.prog X.w) p vs:=I.hok p _ hx;have hlen:kvs.length=vs.length:=Paired.length r
   exact wpAny_truthy_dict hS m (by omega) ⟨H,I.tok _,by rw[aXX r];exact q⟩
 |_=>exact(show False from e).elim
def aJF:OpR X (binaryOp .Add) (λx y H Q=>∃i j,x=.str i/\y=.str j/\i.length+j.length<=sizeLine/\Q (.str (i++j)) H):=by
 intro pins s σ H x y v u Q I rx ry h;obtain⟨i,j,rfl,rfl,hz,q⟩:=h;obtain⟨t,rfl⟩:=rx;obtain⟨t',rfl⟩:=ry;exact add_str (λt' tk=>⟨.str (i++j),H,I.tok _,⟨_,rfl⟩,q⟩) hz
def dR{x:V}(r:Vals [x] us):∃u,us=[u]/\RelV x u:=by
 cases r with
 |cons r1 r2=>cases r2;exact⟨_,rfl,r1⟩
def vW{x y:V}(r:Vals [x,y] us):∃u w',us=[u,w']/\RelV x u/\RelV y w':=by
 cases r with
 |cons r1 r2=>
  cases r2 with
  |cons r3 r4=>cases r4;exact⟨_,_,rfl,r1,r3⟩
def bZN(hc:X.calm=true):CallR X (.builtin "min") (λxs H Q=>∃i j,xs=[.int i,.int j]/\Q (.int (if j<i then j else i)) H):=by
 intro pins s σ H xs us Q I r h;obtain⟨i,j,rfl,q⟩:=h;obtain⟨u,w',rfl,⟨t,rfl⟩,⟨t',rfl⟩⟩:=vW r;refine min_two_ints (I.ok.hd hc) λh' tk k=>⟨_,H,I.kept k,?_,q⟩;by_cases hj:j<i
 ·rw[if_pos hj,if_pos hj];exact⟨_,rfl⟩
 ·rw[if_neg hj,if_neg hj];exact⟨_,rfl⟩
def call_int1:CallR X (.type "int") (λxs H Q=>(∃i,xs=[.int i]/\Q (.int i) H)\/∃k,xs=[.bl k]/\Q (.int (if k then 1 else 0)) H):=by
 intro pins s σ H xs us Q I r h;rcases h with⟨i,rfl,q⟩|⟨k,rfl,q⟩
 ·obtain⟨u,rfl,t,rfl⟩:=dR r;exact call_int_int ⟨.int i,H,I,⟨_,rfl⟩,q⟩
 ·obtain⟨u,rfl,r1⟩:=dR r;cases r1;exact call_int_bool ⟨.int (if k then 1 else 0),H,I.tok _,⟨_,rfl⟩,q⟩
def call_str_int:CallR X (.type "str") (λxs H Q=>∃i,xs=[.int i]/\i.natAbs.log2<1920/\Q (.str (toString i)) H):=by
 intro pins s σ H xs us Q I r h;obtain⟨i,rfl,hz,q⟩:=h;obtain⟨u,rfl,t,rfl⟩:=dR r;exact PySem.P.str_of_int hz ⟨.str _,H,I.tok _,⟨_,rfl⟩,q⟩
def fQ1(K:W.Frag)(x:V)(H:Hp)(n:Nat):Prop:=
 match x with
 |.str y=>y.length<=sizeLine/\n=y.length
 |.byt y=>y.size<=sizeLine/\n=y.size
 |.ref p=>(∃xs,SqL K H p xs/\n=xs.length)\/∃xs,SqT K H p xs/\n=xs.length
 |_=>False
def call_len:CallR X (.builtin "len") (λxs H Q=>∃x n,xs=[x]/\fQ1 X.K x H n/\Q (.int n) H):=by
 intro pins s σ H xs us Q I r h;obtain⟨x,n,rfl,e,q⟩:=h;obtain⟨u,rfl,rx⟩:=dR r;have hl:=mS
 have hs:sizeLine=16777216:=Ha
 cases x with
 |str y=>
  obtain⟨t,rfl⟩:=rx;obtain⟨hy,e'⟩:y.length<=sizeLine/\n=y.length:=e;subst e';exact len_str (by omega) ⟨.int _,H,I.tok _,⟨_,rfl⟩,q⟩
 |byt y=>
  obtain⟨t,rfl⟩:=rx;obtain⟨hy,e'⟩:y.size<=sizeLine/\n=y.size:=e;subst e';exact W.len_bytes (by omega) ⟨.int _,H,I.tok _,⟨_,rfl⟩,q⟩
 |ref p=>
  cases rx;have e':(∃xs,SqL X.K H p xs/\n=xs.length)\/∃xs,SqT X.K H p xs/\n=xs.length:=e
  rcases e' with⟨xs,hx,e'⟩|⟨xs,hx,e'⟩
  ·subst e';obtain⟨its,r',pl,hz⟩:=I.list hx;have hlen:=r'.length
   exact Calls.call_len_list pl.isList (by simp only[List.size_toArray];omega) ⟨.int xs.length,H,I.tok _,⟨_,by simp only[List.size_toArray];rw[hlen]⟩,q⟩
  ·subst e';obtain⟨its,r',pl,hz⟩:=I.tuple hx;have hlen:=r'.length
   exact len_tuple pl (by simp only[List.size_toArray];omega) ⟨.int xs.length,H,I.tok _,⟨_,by simp only[List.size_toArray];rw[hlen]⟩,q⟩
 |_=>exact(show False from e).elim
end
structure ObjM (h:Heap) (x dx C:Addr) (mA:Str->Option Value):Prop where
 obj:h.get? x=some (W.instObj C dx)
 ns:h.Ns1 dx mA
 ne:dx≠x
def wL{mA:Q4}(n:h.Ns1 dx mA):∃od,h.get? dx=some od/\∀name,W.lookIn name od=some (mA name):=by
 obtain⟨o,es,ep,ho,hd,hk,_,hm⟩:=n;refine⟨o,ho,λname=>?_⟩;have e:=hm name
 unfold nsFind findBy at e;rw[<-Array.find?_toList]at e;unfold W.lookIn;rw[hd];dsimp only;split
 ·rename_i y q
  rw[q]at e;exact Ds some e
 ·rename_i q
  rw[q]at e;have a:es.toList.any (·.refKey)=false:=by
   rw[List.any_eq_false];intro y hy;obtain⟨z,t,hkey⟩:=hk y (Array.mem_toList_iff.mp hy);simp[DictEntry.refKey,hkey]
  have a':¬es.toList.any (·.refKey)=true:=by rw[a];exact Ap
  rw[if_neg a'];exact Ds some e
def ObjM.look{x:Addr}{mA:Q4}(I:ObjM h x dx C mA):∃od,W.InstAt h x (W.instObj C dx) C (some od)/\∀name,W.lookIn name od=some (mA name):=
 let ⟨od,ho,hl⟩:=wL I.ns
 ⟨od,⟨I.obj,rfl,rfl,ho⟩,hl⟩
section
variable {prog:Program} {x f:Addr} {mA:Q4} {name:Str} {v:Value}
def dXY{expr:Bool}(X:K.In s.heap)(I:ObjM s.heap x dx C mA)(hg:W.plainGet K C name=true)(hh:W.hasDictIn K C=true)(ha:W.findIn K (.ref C) name=some none)(hv:mA name=some v)(hv':W.handedIn v=true)(h:Q v {s with toks:=s.toks+1}):wpAny (model prog w) A (getAttr (.ref x) name expr) Q E s:=by
 obtain⟨od,J,hl⟩:=I.look;exact W.get_value X J (W.plainGet_of hg).1 (W.findObj_own hh ha rfl (by rw[hl,hv])) hv' h
def bZ4{Q:Value×List Value->Shared->Prop}(X:K.In s.heap)(I:ObjM s.heap x dx C mA)(hg:W.plainGet K C name=true)(hf:W.findIn K (.ref C) name=some (some (.ref f)))(ht:W.isFn K (.ref f)=true)(hv:mA name=none)(h:Q (.ref f,[.ref x]) s):wpAny (model prog w) A (getMethod (.ref x) name pl) Q E s:=by
 obtain⟨od,J,hl⟩:=I.look;exact W.method_fn X J (W.plainGet_of hg).1 (W.plainGet_of hg).2 hf (Fc.mp ht) (by show (W.lookIn name od).map (·.isSome)=some false;rw[hl,hv];rfl) h
def dXW{ns:List Str}{Q:Unit->Shared->Prop}(X:K.In s.heap)(I:ObjM s.heap x dx C mA)(hs:W.findIn K (.ref C) "__setattr__"=some (some (.builtin "object.__setattr__")))(hp:W.plainOver K C=true)(ht:W.takerIn K C name=some none)(hh:W.hasDictIn K C=true)(hw:PySem.Within mA ns)(hsz:ns.length<=sizeLine)(h:∀h',ObjM h' x dx C (λy=>if y=name then some v else mA y)->Heap.SameBut dx s.heap h'->Q () {s with heap:=h',toks:=s.toks+2}):wpAny (model prog w) A (setAttr (.ref x) name v) Q E s:=by
 obtain⟨od,J,hl⟩:=I.look;refine W.set_plain X J hs (W.osa_open (s:={s with toks:=s.toks+1}) (r:=none) X J hp ht λb=>?_)
 obtain⟨cd,hc,hd'⟩:=W.any_some hh;have hx:s.heap.get? x=some ⟨.ref C,some dx,.plain,#[]⟩:=I.obj
 refine Ae (Ao (Ae (Ae (wpAny_loadPart hx (Ae (W.Looks.here (s:={s with toks:=s.toks+1}) (W.looks_clsIn X hc) ?_))))))
 rw[hd'];refine Ao (a:=some dx) (Ae (Ao (Ae ?_)));refine wpAny_nsSet1 (s:={s with toks:=s.toks+1}) I.ns λh' hn2 hs2=>?_
 obtain⟨oD,esD,epD,hoD,hdD,hcD⟩:=hn2.count (PySem.Within.cons name v hw);refine Ae (wpAny_lookBehind hoD (by rw[hdD];exact pastItsLine_dict (Bi hcD (by rw[Ax];omega))) ?_)
 exact Ao (h _ ⟨(hs2.2 _ (Ne.symm I.ne)).trans I.obj,hn2,I.ne⟩ hs2)
def cQY{R:Result->Shared->Prop}{vs:List Value}(X:K.In s.heap)(hm:W.makesIn K C=true)(hi:W.findIn K (.ref C) "__init__"=some (some (.ref f)))(hf:W.typeIn K (.ref f)=some (.type "function"))(h:codeAny (model prog w) (A.under (.builtin "type.__call__" ⟨.ref C::vs,kw⟩)) (.call (.ref f) ⟨.ref (s.heap.objs.size+1)::vs,kw⟩) (W.InitBack (s.heap.objs.size+1) R)
 {s with heap:=(s.heap.push W.emptyDict).push (W.instObj C s.heap.objs.size)}):codeAny (model prog w) A (.call (.ref C) ⟨vs,kw⟩) R s:=by
 obtain⟨hh,g,d,t,os⟩:=s;exact W.make_core (W.makes_of X hm) (W.looks_findIn X hi) (λself=>W.bind_fn X self hf) (.inl rfl) h
end
def fP(f:Str)(v:V):List (Str×V)->List (Str×V)
 |[]=>[(f,v)]
 |(g,x)::r=>if g=f then (g,v)::r else (g,x)::fP f v r
def qT(f g:Str)(v:V):∀fs:List (Str×V),(fP f v fs).lookup g=if g=f then some v else fs.lookup g
 |[]=>by
  show List.lookup g [(f,v)]=_
  by_cases h:g=f
  ·have hb:(g==f)=true:=Fc.mpr h
   simp only[List.lookup,hb,if_pos h]
  ·have hb:(g==f)=false:=Cr.mpr h
   simp only[List.lookup,hb,if_neg h]
 |(k,x)::r=>by
  have ih:=qT f g v r
  rw[show fP f v ((k,x)::r)=(if k=f then (k,v)::r else (k,x)::fP f v r) from rfl]
  by_cases hk:k=f
  ·rw[if_pos hk];by_cases h:g=k
   ·have hb:(g==k)=true:=Fc.mpr h
    simp only[List.lookup,hb,if_pos (h.trans hk)]
   ·have hb:(g==k)=false:=Cr.mpr h
    simp only[List.lookup,hb,if_neg (λe:g=f=>h (e.trans hk.symm))]
  ·rw[if_neg hk];by_cases h:g=k
   ·have hb:(g==k)=true:=Fc.mpr h
    simp only[List.lookup,hb,if_neg (λe:g=f=>hk (h.symm.trans e))]
   ·have hb:(g==k)=false:=Cr.mpr h
    simp only[List.lookup,hb];exact ih
def qL(f:Str)(v:V):∀fs:List (Str×V),f∈(fP f v fs).map (·.1)/\∀g,g∈fs.map (·.1)->g∈(fP f v fs).map (·.1)
 |[]=>⟨by simp[fP],λg h=>by simp at h⟩
 |(k,x)::r=>by
  obtain⟨i1,i2⟩:=qL f v r;rw[show fP f v ((k,x)::r)=(if k=f then (k,v)::r else (k,x)::fP f v r) from rfl]
  by_cases hk:k=f
  ·rw[if_pos hk];subst hk;exact⟨by simp,λg h=>by simpa using h⟩
  ·rw[if_neg hk];refine⟨?_,λg h=>?_⟩
   ·rw[As];exact Am _ i1
   ·rw[As]at h ⊢;rcases Az.mp h with e|e
    ·exact Az.mpr (.inl e)
    ·exact Am _ (i2 g e)
def qW(f:Str)(v:V):∀fs:List (Str×V),(fP f v fs).length<=fs.length+1
 |[]=>by simp[fP]
 |(k,x)::r=>by
  have ih:=qW f v r
  rw[show fP f v ((k,x)::r)=(if k=f then (k,v)::r else (k,x)::fP f v r) from rfl]
  by_cases hk:k=f
  ·rw[if_pos hk,Ax,Ax];omega
  ·rw[if_neg hk,Ax,Ax];omega
def RelO.some_of{v:V}{o:Option Value}(r:RelO (some v) o):∃u,o=some u/\RelV v u:=by
 cases o with
 |none=>exact(show False from r).elim
 |some u=>exact⟨u,rfl,r⟩
def RelO.none_of{o:Option Value}(r:RelO none o):o=none:=by
 cases o with
 |none=>rfl
 |some u=>exact(show False from r).elim
def bX8(r:RelV v u):W.handedIn u=true:=by
 cases v with
 |non=>cases (show u=Value.none from r);rfl
 |bl b=>cases (show u=Value.bool b from r);rfl
 |int i=>obtain⟨t,e⟩:=(show ∃t,u=Value.int i t from r);cases e;rfl
 |str x=>obtain⟨t,e⟩:=(show ∃t,u=Value.str x t from r);cases e;rfl
 |byt b=>obtain⟨t,e⟩:=(show ∃t,u=Value.bytes b t from r);cases e;rfl
 |flt b=>obtain⟨t,e⟩:=(show ∃t,u=Value.float b t from r);cases e;rfl
 |ref a=>cases (show u=Value.ref a from r);rfl
 |ty n=>cases (show u=Value.type n from r);rfl
section
variable {fs:List (Str×V)}
def rN(hok:HOk P w H h)(e:H a=some (.ins C dx fs)):∃mA,ObjM h a dx C mA/\(∀f,RelO (fs.lookup f) (mA f))/\PySem.Within mA (fs.map (·.1))/\fs.length<=1000/\H dx=some (.own a):=by
 obtain⟨d,z,ne,ob,mA,n,r,q⟩:=(show ObjOk P w H h a (.ins C dx fs) from hok a _ e);exact⟨mA,⟨ob,n,ne⟩,r,q,z,d⟩
end
structure Cls (K:W.Frag) (C:Addr):Prop where
 pg:W.plainGet K C Str.empty=true
 hd:W.hasDictIn K C=true
 po:W.plainOver K C=true
 sa:W.findIn K (.ref C) "__setattr__"=some (some (.builtin "object.__setattr__"))
def Cls.get(c:Cls K C)(f:Str):W.plainGet K C f=true:=c.pg
def NoAttr(K:W.Frag)(C:Addr)(f:Str):Prop:=W.findIn K (.ref C) f=some none
def NoAttr.taker{f:Str}(n:NoAttr K C f):W.takerIn K C f=some none:=by
 unfold W.takerIn;rw[show W.findIn K (.ref C) f=some none from n];rfl
structure Meth (K:W.Frag) (C:Addr) (m:Str) (f:Addr):Prop where
 at_:W.findIn K (.ref C) m=some (some (.ref f))
 fn:W.isFn K (.ref f)=true
 kp:W.keepIn K (.ref f)=true
section
variable {fs:List (Str×V)} {f:Str}
def aZC{b:Bool}(I:Inv X pins σ H s)(e:H a=some (.ins C dx fs))(c:Cls X.K C)(n:NoAttr X.K C f)(l:fs.lookup f=some v)(h:∀u s',Inv X pins σ H s'->RelV v u->Q u s'):wpAny (model X.prog X.w) A (getAttr (.ref a) f b) Q E s:=by
 obtain⟨mA,O,r,_,_,_⟩:=rN I.hok e;obtain⟨u,hu,ru⟩:=RelO.some_of (v:=v) (o:=mA f) (by rw[<-l];exact r f)
 exact dXY I.kIn O (c.get f) c.hd n hu (bX8 ru) (h u _ (I.tok _) ru)
def mU{m:Str}{g:Addr}{Q:Value×List Value->Shared->Prop}(I:Inv X pins σ H s)(e:H a=some (.ins C dx fs))(c:Cls X.K C)(k:Meth X.K C m g)(l:fs.lookup m=none)(h:Q (.ref g,[.ref a]) s):wpAny (model X.prog X.w) A (getMethod (.ref a) m pl) Q E s:=by
 obtain⟨mA,O,r,_,_,_⟩:=rN I.hok e;have hn:mA m=none:=RelO.none_of (by rw[<-l];exact r m)
 exact bZ4 I.kIn O (c.get m) k.at_ k.fn hn h
def aZJ{y:V}{Q:Unit->Shared->Prop}(I:Inv X pins σ H s)(e:H a=some (.ins C dx fs))(c:Cls X.K C)(n:NoAttr X.K C f)(hl:fs.length<1000)(ry:RelV y u)(h:∀s',Inv X pins σ (upd H a (.ins C dx (fP f y fs))) s'->Q () s'):wpAny (model X.prog X.w) A (setAttr (.ref a) f u) Q E s:=by
 obtain⟨mA,O,r,wi,_,ho⟩:=rN I.hok e;have hz:(fs.map (·.1)).length<=sizeLine:=by rw[Ab,Ha];omega
 refine dXW I.kIn O c.sa c.po n.taker c.hd wi hz λh' O' sb=>h _ ?_;have hd:∃o,h'.get? dx=some o:=let ⟨o,_,_,e',_⟩:=O'.ns;⟨o,e'⟩
 refine I.write (x:=a) (e:=dx) (by rw[e];exact True.intro) (.inr ho) (λb q hb z=>(sb.2 b hb).trans z) hd ?_
 refine⟨by rw[aJ O.ne];exact ho,?_,O.ne,O'.obj,_,O'.ns,λg=>?_,λg hg=>?_⟩
 ·have:=qW f y fs;omega
 ·show RelO ((fP f y fs).lookup g) (if g=f then some u else mA g)
  rw[qT];by_cases q:g=f
  ·rw[if_pos q,if_pos q];exact ry
  ·rw[if_neg q,if_neg q];exact r g
 ·by_cases q:g=f
  ·rw[q];exact(qL f y fs).1
  ·refine(qL f y fs).2 g (wi g λz=>hg ?_);show (if g=f then some u else mA g)=none
   rw[if_neg q];exact z
def Inv.made(I:Inv X pins σ H s):Inv X pins σ (upd (upd H s.heap.objs.size (.own (s.heap.objs.size+1))) (s.heap.objs.size+1) (.ins C s.heap.objs.size []))
 {s with heap:=(s.heap.push W.emptyDict).push (W.instObj C s.heap.objs.size)}:=by
 have e1:(s.heap.push W.emptyDict).get? s.heap.objs.size=some W.emptyDict:=Ay s.heap rfl
 have e2:((s.heap.push W.emptyDict).push (W.instObj C s.heap.objs.size)).get? (s.heap.objs.size+1)=some (W.instObj C s.heap.objs.size):=by
  have:=Ay (s.heap.push W.emptyDict) (o:=W.instObj C s.heap.objs.size) rfl
  rwa [Fs]at this
 have e3:(s.heap.push W.emptyDict).Ns s.heap.objs.size (λ_=>none):=⟨W.emptyDict,#[],_,e1,rfl,(λe he=>absurd he (by simp)),λ_=>rfl⟩
 have I1:=I.laid (a:=s.heap.objs.size) (o:=.own (s.heap.objs.size+1)) (h':=s.heap.push W.emptyDict) (t':=s.toks) (λb u q=>Ag _ q) (Ai _) ⟨_,e1⟩
 refine I1.laid (a:=s.heap.objs.size+1) (o:=.ins C s.heap.objs.size []) (t':=s.toks) (λb u q=>Ag _ q) (Nat.le_of_eq (Fs _ _)) ?_;have ne:s.heap.objs.size≠s.heap.objs.size+1:=Bj (Nat.lt_succ_self _)
 refine⟨by rw[aJ ne,aE],Dc _,ne,e2,λ_=>none,(Heap.Ns1.of_empty e3).at λo q=>Ag _ q,λ_=>True.intro,λy hy=>absurd rfl hy⟩
def aJR{prog:Program}{env:Env}{f:Str}(hb:attributeBase e f env (eval e env)=eval e env)(h:wpAny (model prog w) A (eval e env) (λo s₁=>wpAny (model prog w) A (getAttr o f true) Q E s₁) E s):wpAny (model prog w) A (eval (.Attribute e f pos) env) Q E s:=
 Attribute_any_ h (by rw[arm_eval_Attribute,hb])
end
def eJN(K:W.Frag)(ta:TE)(f:Str):TE:=λσ H Q=>ta σ H λx H1=>∃a C dx fs v,x=.ref a/\H1 a=some (.ins C dx fs)/\Cls K C/\NoAttr K C f/\fs.lookup f=some v/\Q v H1
def eZK(K:W.Frag)(ta tv:TE)(f:Str):TS:=λD σ H=>tv σ H λy H1=>ta σ H1 λx H2=>∃a C dx fs,x=.ref a/\H2 a=some (.ins C dx fs)/\Cls K C/\NoAttr K C f/\fs.length<1000/\
 D.nx σ (upd H2 a (.ins C dx (fP f y fs)))
section
variable {o value:Expr} {f:Str} {pos':Pos} {tv:TE}
def pI(he:PE X e ta)(hb:attributeBase e f X.env (eval e X.env)=eval e X.env):PE X (.Attribute e f pos) (eJN X.K ta f):=by
 intro pins s σ H Q I h;refine aJR hb (thn (he pins s σ H _ I h) λu s1 ⟨x,H1,I1,rx,a,C,dx,fs,v,ex,ea,c,n,l,q⟩=>?_);subst ex;obtain rfl:u=Value.ref a:=rx;exact aZC I1 ea c n l λu' s2 I2 ru=>⟨v,H1,I2,ru,q⟩
def lA(ha:PE X o ta)(hv:PE X value tv)(hs:swapsWith value (some (.Attribute o f pos')) pos.line X.env=pure false):PS X (.Assign [.Attribute o f pos'] value pos) (eZK X.K ta tv f):=by
 intro pins s σ H D I h;refine plainObj_wpAny_Assign_Attribute (thn (hv pins s σ H _ I h) λu s1 ⟨y,H1,I1,ry,q⟩=>thn (ha pins s1 σ H1 _ I1 q) λov s2 ⟨x,H2,I2,rx,a,C,dx,fs,ex,ea,c,n,l,q2⟩=>?_) hs;subst ex;obtain rfl:ov=Value.ref a:=rx;exact aZJ I2 ea c n l ry λs3 I3=>⟨σ,_,I3,q2⟩
def dX1{m:Str}{apos:Pos}{args:List Expr}(he:PE X e te)(I:Inv X pins σ H s)(h:te σ H λx H1=>∃a C dx fs g,x=.ref a/\H1 a=some (.ins C dx fs)/\Cls X.K C/\Meth X.K C m g/\fs.lookup m=none/\
 ∀s1,Inv X pins σ H1 s1->wpAny (model X.prog X.w) X.A (callWith pos (.ref g) [.ref a] (backTo pos (starEach args X.env)) (backToKw pos (keywordEach [] X.env))) Q X.xe s1)(ht:eval (.Call (.Attribute e m apos) args [] pos) X.env=(do
 let ov <-eval e X.env
 standAt apos.atName
 let (f,first) <-holding [ov] (getMethod ov m pl)
 callWith pos f first (backTo pos (starEach args X.env)) (backToKw pos (keywordEach [] X.env)))):wpAny (model X.prog X.w) X.A (eval (.Call (.Attribute e m apos) args [] pos) X.env) Q X.xe s:=by
 refine Fk (pl:=pl) (thn (he pins s σ H _ I h) λu s1 ⟨x,H1,I1,rx,a,C,dx,fs,g,ex,ea,c,k,l,q⟩=>?_) ht;subst ex;obtain rfl:u=Value.ref a:=rx;exact mU I1 ea c k l (q s1 I1)
end
section
variable {c:Value} {b:Bool}
inductive TyOf (K:W.Frag) (H:Hp):V->Value->Prop where
 |non:TyOf K H .non (.type "NoneType")
 |bl (x:Bool):TyOf K H (.bl x) (.type "bool")
 |int (i:Int):TyOf K H (.int i) (.type "int")
 |str (x:Str):TyOf K H (.str x) (.type "str")
 |flt (x:UInt64):TyOf K H (.flt x) (.type "float")
 |lst {a:Addr} {xs:List V} (e:H a=some (.lst xs)):TyOf K H (.ref a) (.type "list")
 |frz {a:Addr} {o:Obj} {xs:List V} (e:H a=some (.frz o (.lst xs))):TyOf K H (.ref a) (.type "list")
 |tup {a:Addr} {xs:List V} (e:H a=some (.tup xs)):TyOf K H (.ref a) (.type "tuple")
 |dK {a:Addr} {kvs:List (Key×V)} (e:H a=some (.dK kvs)):TyOf K H (.ref a) (.type "dict")
 |dT {a:Addr} {kvs:List (List Key×V)} (e:H a=some (.dT kvs)):TyOf K H (.ref a) (.type "dict")
 | ins {a C dx:Addr} {fs:List (Str×V)} (e:H a=some (.ins C dx fs)) (cl:Cls K C) (ha:W.findIn K (.ref C) "__class__"=some (some (.builtin "object.__class__")))
     (hn:W.specialIn K (.builtin "object.__class__") "__get__"=some (some (.builtin "getset_descriptor.__get__"))) (htk:W.takesIn K (.builtin "object.__class__")=some true)
     (hm:W.mroIn K C (.type "object")=some true):TyOf K H (.ref a) (.ref C)
def bX3{x:V}{t:Value}(I:Inv X pins σ H s)(rx:RelV x u)(ty:TyOf X.K H x t)(e:W.kitOne X.K t c=some b)(h:∀tk,Q (.bool b) {s with toks:=tk}):wpAny (model X.prog X.w) A (call (.builtin "isinstance") [u,c]) Q E s:=by
 cases ty with
 |non=>cases (show u=Value.none from rx);exact Df W.kitx_none I.kIn True.intro e (λz=>nomatch z) h
 |bl y=>cases (show u=Value.bool y from rx);exact Df W.kitx_bool I.kIn True.intro e (λz=>nomatch z) h
 |int i=>obtain⟨t,q⟩:=(show ∃t,u=Value.int i t from rx);cases q;exact Df W.kitx_int I.kIn True.intro e (λz=>nomatch z) h
 |str y=>obtain⟨t,q⟩:=(show ∃t,u=Value.str y t from rx);cases q;exact Df W.kitx_str I.kIn True.intro e (λz=>nomatch z) h
 |flt y=>obtain⟨t,q⟩:=(show ∃t,u=Value.float y t from rx);cases q;exact Df W.kitx_float I.kIn True.intro e (λz=>nomatch z) h
 | @lst a xs ea=>
  cases (show u=Value.ref a from rx);obtain⟨_,_,n,_,h1⟩:=(show ObjOk X.prog X.w H s.heap a (.lst xs) from I.hok a _ ea);exact Df W.kitx_list I.kIn ⟨_,h1,rfl⟩ e (λz=>nomatch z) h
 | @frz a ob xs ea=>
  cases (show u=Value.ref a from rx);obtain⟨_,_,_,n,_,h1⟩:=(show ObjOk X.prog X.w H s.heap a (.frz ob (.lst xs)) from I.hok a _ ea);exact Df W.kitx_list I.kIn ⟨_,h1,rfl⟩ e (λz=>nomatch z) h
 | @tup a xs ea=>
  cases (show u=Value.ref a from rx);obtain⟨_,_,_,p⟩:=(show ObjOk X.prog X.w H s.heap a (.tup xs) from I.hok a _ ea);obtain⟨o,h1,h2,_⟩:=p;exact Df W.kitx_tuple I.kIn ⟨o,h1,h2⟩ e (λz=>nomatch z) h
 | @dK a kvs ea=>
  cases (show u=Value.ref a from rx);obtain⟨_,_,vs,_,p⟩:=(show ObjOk X.prog X.w H s.heap a (.dK kvs) from I.hok a _ ea);obtain⟨o,es,ep,h1,h2,_⟩:=p;exact Df W.kitx_dict I.kIn ⟨o,h1,h2.1⟩ e (λz=>nomatch z) h
 | @dT a kvs ea=>
  cases (show u=Value.ref a from rx);obtain⟨_,_,xs,_,o,es,ep,h1,h2,_⟩:=(show ObjOk X.prog X.w H s.heap a (.dT kvs) from I.hok a _ ea);exact Df W.kitx_dict I.kIn ⟨o,h1,h2.1⟩ e (λz=>nomatch z) h
 | @ins a C dx fs ea cl ha hn htk hm=>
  cases (show u=Value.ref a from rx);obtain⟨mA,O,_⟩:=rN I.hok ea;obtain⟨od,J,_⟩:=O.look;exact Df (W.kitx_own (cl.get _) cl.hd ha hn htk hm) I.kIn J e (λz=>nomatch z) h
end
structure Room (k:Nat) (A:Around):Prop where
 hd:A.handled=none
 dp:A.depth+3*k+5<recursionLimit
 un:A.units+16*k+200<cLine
def Room.mono{j:Nat}(r:Room k A)(h:j<=k):Room j A:=⟨r.hd,by have:=r.dp;omega,by have:=r.un;omega⟩
def Room.deeper(r:Room (k+1) A)(env:Env):Room k (A.deeper env):=
 ⟨r.hd,by have:=r.dp;show A.depth+1+3*k+5<_;omega,by have:=r.un;show A.units+3+16*k+200<_;omega⟩
def aX0:(A.under (.builtin "type.__call__" ⟨.ref C::us,kw⟩)).depth=A.depth+1:=by
 first|rfl|simp[Around.under,Code.weight,Code.isCreation,Code.isGuard,Code.isCaller,Code.frames,Code.isFrame,guardIds]
def aJB:(A.under (.builtin "type.__call__" ⟨.ref C::us,kw⟩)).units=A.units+1:=by
 first|rfl|simp[Around.under,Code.cUnits,Code.frames,Code.isFrame]
def Room.make(r:Room (k+1) A)(C:Addr)(us:List Value)(kw:List (Str×Value)):Room k (A.under (.builtin "type.__call__" ⟨.ref C::us,kw⟩)):=
 ⟨r.hd,by have:=r.dp;rw[aX0];omega,by have:=r.un;rw[aJB];omega⟩
def Room.depth(r:Room k A):A.depth<recursionLimit:=by have:=r.dp;omega
def Room.units(r:Room k A):A.units+64<cLine:=by have:=r.un;omega
def Room.units0(r:Room k A):A.units<cLine:=by have:=r.un;omega
def xR:TA:=λ_ H Q=>Q [] H
def aJY(ta:TE)(tr:TA):TA:=λσ H Q=>ta σ H λx H1=>tr σ H1 λxs H2=>Q (x::xs) H2
section
variable {X:Cx} {e:Expr} {es:List Expr} {te:TE} {t:TA} {pos:Pos}
def aB:PA X [] xR:=λ_ _ _ _ H Q I h=>Calls.spliced_nil ⟨[],H,I,.nil,h⟩
def aA(ha:PE X e te)(hr:PA X es t)(hs:starEach (e::es) X.env=(false,eval e X.env)::starEach es X.env:=by rfl):PA X (e::es) (aJY te t):=by
 intro pos pins s σ H Q I h;rw[hs];show wpAny _ _ (spliced ((false,eval e X.env)::backTo pos (starEach es X.env))) _ _ s
 refine Calls.spliced_cons (thn (ha pins s σ H _ I h) λu s1 ⟨x,H1,I1,r1,q1⟩=>?_);exact thn (hr pos pins s1 σ H1 _ I1 q1) λus s2 ⟨xs,H2,I2,r2,q2⟩=>⟨x::xs,H2,I2,.cons r1 r2,q2⟩
def eJZ(t:TA):TE:=λσ H Q=>t σ H λxs H1=>xs.length<=sizeLine/\∀p,H1 p=none->Q (.ref p) (upd H1 p (.tup xs))
def cZY(t:TA):TE:=λσ H Q=>t σ H λxs H1=>xs.length<=sizeLine/\∀p,H1 p=none->Q (.ref p) (upd H1 p (.lst xs))
def eG{x1}(h:PA X es t):PE X (.Tuple es x1 pos) (eJZ t):=by
 intro pins s σ H Q I hq;refine wpAny_Tuple_spliced (thn (h pos pins s σ H _ I hq) λus s1 ⟨xs,H1,I1,r,z,q⟩=>⟨by rw[<-r.length];exact z,?_⟩)
 have hf:H1 s1.heap.objs.size=none:=I1.hok.fresh (Ai _)
 refine⟨.ref s1.heap.objs.size,upd H1 s1.heap.objs.size (.tup xs),I1.laid (t':=s1.toks) (λb u e=>Ag _ e) (Ai _) ?_,rfl,q _ hf⟩;exact⟨z,us,r,⟨_,Ay _ rfl,rfl,_,rfl⟩⟩
def bR(h:PA X es t):PE X (.List es pos) (cZY t):=by
 intro pins s σ H Q I hq;refine wpAny_List_spliced (thn (h pos pins s σ H _ I hq) λus s1 ⟨xs,H1,I1,r,z,q⟩=>⟨by rw[<-r.length];exact z,?_⟩)
 have hf:H1 s1.heap.objs.size=none:=I1.hok.fresh (Ai _)
 refine⟨.ref s1.heap.objs.size,upd H1 s1.heap.objs.size (.lst xs),I1.laid (t':=s1.toks) (λb u e=>Ag _ e) (Ai _) ?_,rfl,q _ hf⟩;exact⟨z,us,0,r,Ay _ rfl⟩
end
abbrev Sp:=List V->Hp->VK->XK->Prop
abbrev CXT:=List Env->Hp->Shared->XK->Value->Shared->Prop
structure Env0 (P:Program) (w:World) (K:W.Frag) (mg:Str->Option Value) (base:Heap) (A:Around) (outer:List Env) (s:Shared) (H:Hp):Prop where
 frames:A.frames=some outer
 mod:Mod K mg base
 bs:∀b o,base.get? b=some o->s.heap.get? b=some o/\H b=none
 bsz:base.objs.size<=s.heap.objs.size
 funs:s.heap.FunFrames base outer
 frf:∀b∈frs outer,H b=none
 hok:HOk P w H s.heap
 bare:AllBare s.gens
def CE(outer:List Env)(P:Program)(w:World)(H:Hp)(s:Shared)(Q:VK)(u:Value)(s':Shared):Prop:=
 ∃v H',s'.os=s.os/\AllBare s'.gens/\Un (frs outer) [] H H' s.heap s'.heap/\HOk P w H' s'.heap/\RelV v u/\Q v H'
def CR(CX:CXT)(outer:List Env)(P:Program)(w:World)(H:Hp)(s:Shared)(Q:VK)(E:XK)(r:Result)(s':Shared):Prop:=
 match r with
 |.ok (.ret u)=>CE outer P w H s Q u s'
 |.ok _=>False
 |.error e=>CX outer H s E e s'
structure FnOk (P:Program) (w:World) (K:W.Frag) (mg:Str->Option Value) (base:Heap) (CX:CXT) (k:Nat) (f:Addr) (fd:FuncData) (ps:List Str) (sp:Sp):Prop where
 len:∀vs H Q E,sp vs H Q E->vs.length=ps.length
 run:∀(A:Around) (outer:List Env) (s:Shared) (H:Hp) (args:Args) (us:List Value) (vs:List V) (Q:VK) (E:XK),Room k A->Env0 P w K mg base A outer s H->BindsTo s fd args (ps.zip us)->Vals vs us->sp vs H Q E->
  codeAny (model P w) A (.call (.ref f) args) (CR CX outer P w H s Q E) s
def Env0.make{mg:Q4}{base:Heap}{outer:List Env}(e:Env0 P w K mg base A outer s H)(C:Addr)(us:List Value)(kw:List (Str×Value)):Env0 P w K mg base (A.under (.builtin "type.__call__" ⟨.ref C::us,kw⟩)) outer s H:=⟨by first|exact e.frames|(simpa [Around.under,Code.envs,Code.isFrame,pushEnvs]using e.frames),e.mod,e.bs,e.bsz,e.funs,e.frf,e.hok,e.bare⟩
section
variable {s':Shared}
def Inv.env0(I:Inv X pins σ H s):Env0 X.prog X.w X.K X.mg X.base X.A X.stack s H:=
 ⟨I.ok.frames,I.ok.mod,I.bs,Bi I.ok.bsz I.sz,I.stack,I.stkFree,I.hok,I.bare⟩
def Inv.after{Q:VK}(I:Inv X pins σ H s)(h:CE X.stack X.prog X.w H s Q u s'):EP X pins σ Q u s':=by
 obtain⟨v,H',os,bare,un,hok,r,q⟩:=h;obtain⟨hh,g,d,t,os'⟩:=s';obtain rfl:os'=s.os:=os;exact⟨v,H',I.call (h':=hh) (g':=g) (d':=d) (t':=t) (ch:=[]) un hok bare (λb z=>absurd z (by simp)),r,q⟩
end
def bQP(sp:Sp)(dvs:List V)(E:XK)(t:TA):TE:=λσ H Q=>t σ H λvs H1=>sp (vs++dvs) H1 Q E
def bJE(C:Addr)(m:Str)(sp:Sp)(dvs:List V)(E:XK)(ta:TE)(t:TA):TE:=λσ H Q=>ta σ H λx H1=>∃a dx fs,x=.ref a/\H1 a=some (.ins C dx fs)/\fs.lookup m=none/\
 t σ H1 λvs H2=>sp (x::(vs++dvs)) H2 Q E
def cQA(C:Addr)(sp:Sp)(dvs:List V)(E:XK)(t:TA):TE:=λσ H Q=>t σ H λvs H1=>∀x dx,H1 x=none->H1 dx=none->dx≠x->
 sp (.ref x::(vs++dvs)) (upd (upd H1 dx (.own x)) x (.ins C dx [])) (λv H2=>v=.non/\Q (.ref x) H2) E
def Binds(K:W.Frag)(fd:FuncData)(ps:List Str)(ds:List Value):Prop:=
 ∀(s:Shared) (us:List Value),K.In s.heap->(us++ds).length=ps.length->BindsTo s fd ⟨us,[]⟩ (ps.zip (us++ds))
def Binds.all{fd:FuncData}(h:∀us:List Value,us.length=ps.length->bindArgs fd ⟨us,[]⟩=pure (ps.zip us)):Binds K fd ps []:=λs us _ hl=>by
 rw[Bd]at hl ⊢;exact .of_eq (h us hl)
def iY(CX:CXT)(X:Cx)(E:XK):Prop:=∀(pins:List (Addr×Obj)) (σ:St) (H:Hp) (s:Shared) (e:Value) (s':Shared),Inv X pins σ H s->CX X.stack H s E e s'->X.xe e s'
section
variable {CX:CXT} {f:Addr} {fd:FuncData} {sp:Sp} {dvs:List V} {ds:List Value} {E:XK} {m:Str} {p apos:Pos} {o:Expr}
def bJI{Q:VK}{vs:List V}(F:FnOk X.prog X.w X.K X.mg X.base CX k f fd ps sp)(hr:Room k X.A)(hb:Binds X.K fd ps ds)(hd:Vals dvs ds)(hx:iY CX X E)(I:Inv X pins σ H s)(r:Vals vs us)(h:sp (vs++dvs) H Q E):wpAny (model X.prog X.w) X.A (call (.ref f) us) (EP X pins σ Q) X.xe s:=by
 have r2:Vals (vs++dvs) (us++ds):=r.append hd
 have hl:(us++ds).length=ps.length:=by rw[<-r2.length];exact F.len _ _ _ _ h
 refine Er (Ep (F.run X.A X.stack s H ⟨us,[]⟩ (us++ds) (vs++dvs) Q E hr I.env0 (hb s us I.kIn hl) r2 h) λr s' hq=>?_);cases r with
 |error e=>exact hx pins σ H s e s' I hq
 |ok fl=>
  cases fl with
  |ret u=>exact I.after hq
  |next=>exact False.elim hq
  |brk=>exact False.elim hq
  |cont=>exact False.elim hq
def bQH(F:FnOk X.prog X.w X.K X.mg X.base CX k f fd ps sp)(hr:Room k X.A)(hg:Gl X x)(hm:X.mg x=some (.ref f))(hk:W.keepIn X.K (.ref f)=true)(hb:Binds X.K fd ps ds)(hd:Vals dvs ds)(hx:iY CX X E)(ha:PA X (e::es) t)(hdb:(x==("__debug__" : Str))=false:=by decide)(he:starEach (e::es) X.env=(false,eval e X.env)::starEach es X.env:=by rfl)(hpl:(backTo pos (starEach es X.env)).any (·.1)=false:=by rfl):PE X (.Call (.Name x p) (e::es) [] pos) (bQP sp dvs E t):=by
 intro pins s σ H Q I h;refine Dq (fZ I hg hm ?_ hdb);refine Fd (h₀:=X.base) I.ok.mod.kin hk (thn (ha pos pins s σ H _ I h) λus s1 ⟨vs,H1,I1,r,q⟩=>⟨I1.kIn,?_⟩) he hpl;exact bJI F hr hb hd hx I1 r q
def bJ2{pl:Sem Bool}(he:PE X o ta)(c:Cls X.K C)(hm:Meth X.K C m f)(F:FnOk X.prog X.w X.K X.mg X.base CX k f fd ps sp)(hr:Room k X.A)(hb:Binds X.K fd ps ds)(hd:Vals dvs ds)(hx:iY CX X E)(ht:eval (.Call (.Attribute o m apos) [] [] pos) X.env=(do
 let ov <-eval o X.env
 standAt apos.atName
 let (f,first) <-holding [ov] (getMethod ov m pl)
 callWith pos f first (backTo pos (starEach [] X.env)) (backToKw pos (keywordEach [] X.env))):=by rfl):PE X (.Call (.Attribute o m apos) [] [] pos) (bJE C m sp dvs E ta xR):=by
 intro pins s σ H Q I h;refine Fk (pl:=pl) (thn (he pins s σ H _ I h) λu s1 ⟨x,H1,I1,rx,a,dx,fs,ex,ea,l,q⟩=>?_) ht;subst ex;obtain rfl:u=Value.ref a:=rx;refine mU I1 ea c hm l ?_;exact W.callWith_K0 (first:=[.ref a]) I1.kIn hm.kp (bJI (us:=[.ref a]) (vs:=[.ref a]) F hr hb hd hx I1 (.cons rfl .nil) q)
structure Mk (K:W.Frag) (C f:Addr):Prop where
 makes:W.makesIn K C=true
 init:W.findIn K (.ref C) "__init__"=some (some (.ref f))
 fn:W.isFn K (.ref f)=true
 kp:W.keepIn K (.ref C)=true
def bZ5{Q:VK}{vs:List V}(M:Mk X.K C f)(F:FnOk X.prog X.w X.K X.mg X.base CX k f fd ps sp)(hr:Room (k+1) X.A)(hb:Binds X.K fd ps ds)(hd:Vals dvs ds)(hx:iY CX X E)(I:Inv X pins σ H s)(r:Vals vs us)(h:∀x dx,H x=none->H dx=none->dx≠x->sp (.ref x::(vs++dvs)) (upd (upd H dx (.own x)) x (.ins C dx [])) (λv H2=>v=.non/\Q (.ref x) H2) E):wpAny (model X.prog X.w) X.A (call (.ref C) us) (EP X pins σ Q) X.xe s:=by
 have hq:=h (s.heap.objs.size+1) s.heap.objs.size (I.hok.fresh (Nat.le_succ _)) (I.hok.fresh (Ai _)) (Bj (Nat.lt_succ_self _))
 have I2:=Inv.made (C:=C) I
 have r2:Vals (V.ref (s.heap.objs.size+1)::(vs++dvs)) (Value.ref (s.heap.objs.size+1)::(us++ds)):=.cons rfl (r.append hd)
 have hl:(Value.ref (s.heap.objs.size+1)::us++ds).length=ps.length:=by
  have e:=r2.length
  rw[F.len _ _ _ _ hq]at e;exact e.symm
 refine Er (cQY (f:=f) I.kIn M.makes M.init (Fc.mp M.fn) (Ep (F.run _ X.stack _ _ ⟨Value.ref (s.heap.objs.size+1)::us,[]⟩ (Value.ref (s.heap.objs.size+1)::(us++ds)) _ _ E (hr.make C us [])
  (I2.env0.make C us []) (hb _ (Value.ref (s.heap.objs.size+1)::us) I2.kIn hl) r2 hq) λr s' hq'=>?_))
 cases r with
 |error e=>exact hx pins σ _ _ e s' I2 hq'
 |ok fl=>
  cases fl with
  |ret u=>
   obtain⟨v,H',I3,rv,ev,q3⟩:=I2.after hq';subst ev;exact⟨rv,⟨V.ref (s.heap.objs.size+1),H',I3,rfl,q3⟩⟩
  |next=>exact False.elim hq'
  |brk=>exact False.elim hq'
  |cont=>exact False.elim hq'
def dQQ(M:Mk X.K C f)(F:FnOk X.prog X.w X.K X.mg X.base CX k f fd ps sp)(hr:Room (k+1) X.A)(hg:Gl X x)(hm:X.mg x=some (.ref C))(hb:Binds X.K fd ps ds)(hd:Vals dvs ds)(hx:iY CX X E)(ha:PA X (e::es) t)(hdb:(x==("__debug__" : Str))=false:=by decide)(he:starEach (e::es) X.env=(false,eval e X.env)::starEach es X.env:=by rfl)(hpl:(backTo pos (starEach es X.env)).any (·.1)=false:=by rfl):PE X (.Call (.Name x p) (e::es) [] pos) (cQA C sp dvs E t):=by
 intro pins s σ H Q I h;refine Dq (fZ I hg hm ?_ hdb);refine Fd (h₀:=X.base) I.ok.mod.kin M.kp (thn (ha pos pins s σ H _ I h) λus s1 ⟨vs,H1,I1,r,q⟩=>⟨I1.kIn,?_⟩) he hpl;exact bZ5 M F hr hb hd hx I1 r q
end
def PK(X:Cx)(kws:List Keyword)(t:TA):Prop:=
 ∀(pos:Pos) (pins:Q2) (s:Shared) (σ:St) (H:Hp) (Q:List V->Hp->Prop),Inv X pins σ H s->t σ H Q->wpAny (model X.prog X.w) X.A (evalAll ((backToKw pos (keywordEach kws X.env)).map (·.2))) (AP X pins σ Q) X.xe s
section
variable {kpos:Pos} {kws:List Keyword} {nm:Option Str}
def aZ2:PK X [] xR:=λ_ _ _ _ H Q I h=>wpAny_evalAll_nil ⟨[],H,I,.nil,h⟩
def xY(ha:PE X e te)(hr:PK X kws t):PK X (⟨nm,e,kpos⟩::kws) (aJY te t):=by
 intro pos pins s σ H Q I h;show wpAny _ _ (evalAll ((do let v <-eval e X.env;standAt pos;pure v)::(backToKw pos (keywordEach kws X.env)).map (·.2))) _ _ s
 refine wpAny_evalAll_cons (Ae (thn (ha pins s σ H _ I h) λu s1 ⟨x,H1,I1,r1,q1⟩=>Ae (Fj (Ao ?_))));exact thn (hr pos pins s1 σ H1 _ I1 q1) λus s2 ⟨xs,H2,I2,r2,q2⟩=>⟨x::xs,H2,I2,.cons r1 r2,q2⟩
end
structure FnScope (N P:List Str) (sc:Scope):Prop where
 kind:sc.kind=.function
 co:sc.isCoroutine=false
 gen:sc.isGenerator=false
 nd:N.Nodup
 pre:N.take P.length=P
 par:∀x∈P,sc.names.lookup x=some .local\/sc.names.lookup x=some .cell
 nofree:∀y∈sc.names,y.2≠.free
def vQ:∀ {binds:List (Str×Value)} {m:Q4},(∀v,(x,v)∉binds)->bindL kindOf binds m x=m x
 |[],_,_=>rfl
 |(n,v)::r,m,h=>by
  unfold bindL;rw[vQ λw hw=>h w (Am _ hw)];split
  ·have:x≠n:=by rintro rfl;exact h v Al
   simp[this]
  ·rfl
def wN:∀ {binds:List (Str×Value)} {m:Q4},(∀v,(x,v)∉binds)->bindC kindOf binds m x=m x
 |[],_,_=>rfl
 |(n,v)::r,m,h=>by
  unfold bindC;rw[wN λw hw=>h w (Am _ hw)];split
  ·rfl
  ·have:x≠n:=by rintro rfl;exact h v Al
   simp[this]
def xF{v:Value}:∀ {P:List Str} {vs:List Value} {i:Nat} {m:Q4},P.Nodup->P[i]?=some x->vs[i]?=some v->kindOf x=some .local->
 bindL kindOf (P.zip vs) m x=some v
 |[],_,_,_,_,h,_,_=>by simp at h
 |_::_,[],_,_,_,_,h,_=>by simp at h
 |p::P,w::vs,0,m,nd,h1,h2,hk=>by
  simp at h1 h2;subst h1;subst h2;show bindL kindOf ((p,w)::P.zip vs) m p=_
  unfold bindL;rw[vQ λv hv=>(Cc.mp nd).1 (Eh hv).1,if_pos hk];simp
 |p::P,w::vs,i+1,m,nd,h1,h2,hk=>by
  show bindL kindOf ((p,w)::P.zip vs) m x=_
  unfold bindL;exact xF (i:=i) (List.nodup_cons.mp nd).2 (by simpa using h1) (by simpa using h2) hk
def vY{v:Value}:∀ {P:List Str} {vs:List Value} {i:Nat} {m:Q4},P.Nodup->P[i]?=some x->vs[i]?=some v->kindOf x≠some .local->
 bindC kindOf (P.zip vs) m x=some v
 |[],_,_,_,_,h,_,_=>by simp at h
 |_::_,[],_,_,_,_,h,_=>by simp at h
 |p::P,w::vs,0,m,nd,h1,h2,hk=>by
  simp at h1 h2;subst h1;subst h2;show bindC kindOf ((p,w)::P.zip vs) m p=_
  unfold bindC;rw[wN λv hv=>(Cc.mp nd).1 (Eh hv).1,if_neg hk];simp
 |p::P,w::vs,i+1,m,nd,h1,h2,hk=>by
  show bindC kindOf ((p,w)::P.zip vs) m x=_
  unfold bindC;exact vY (i:=i) (List.nodup_cons.mp nd).2 (by simpa using h1) (by simpa using h2) hk
def pA(N:List Str)(vs:List V):St:=vs.map some++List.replicate (N.length-vs.length) none
def gN(CX:CXT)(P:Program)(w:World)(K:W.Frag)(mg:Str->Option Value)(base:Heap)(N:List Str)(qual:Str)(scope:Scope)(f:Addr)(cd:Value)(A:Around)(outer:List Env)(s:Shared)(H:Hp)(E:XK):Cx where
 prog:=P
 w:=w
 K:=K
 mg:=mg
 base:=base
 A:=A.deeper (envOfC qual scope s.heap.objs.size f cd)
 N:=N
 s₀:=s
 H₀:=H
 env:=envOfC qual scope s.heap.objs.size f cd
 outer:=outer
 stack:=envOfC qual scope s.heap.objs.size f cd::outer
 ex:=[]
 calm:=true
 fn:=λ_=>true
 pn:=[]
 xe:=λe s'=>wpAny (model P w) (A.deeper (envOfC qual scope s.heap.objs.size f cd)) (leaving (envOfC qual scope s.heap.objs.size f cd) e) (λ_ s''=>CX outer H s E e s'') (λe' s''=>CX outer H s E e' s'') s'
def cS{sc:Scope}{n:Nat}(h:sc.names.lookup x=some .cell):∃c,(cellsFrom n sc.names []).lookup x=some c:=by
 have q:=W.cellsFrom_some sc.names n [] (.inl h)
 exact Cm.mp q
def bZC{CX:CXT}{mg:Q4}{base:Heap}{qual:Str}{scope:Scope}{f:Addr}{cd:Value}{outer:List Env}{s1:Shared}{E:XK}{vs:List V}(S:FnScope N ps scope)(hd:A.handled=none)(e0:Env0 P w K mg base A outer s H)(hl:vs.length=ps.length)(r:Vals vs us)(x:InCallC s s.heap.objs.size (bindL (envOfC qual scope s.heap.objs.size f cd).kindOf (ps.zip us) λ_=>none) (cellsFrom (s.heap.objs.size+1) scope.names []) (bindC (envOfC qual scope s.heap.objs.size f cd).kindOf (ps.zip us) λ_=>none) s1):Inv (gN CX P w K mg base N qual scope f cd A outer s H E) [] (pA N vs) H s1:=by
 have hpl:ps.length<=N.length:=by have:=Ds List.length S.pre;rw[Bx]at this;omega
 obtain⟨h1,tk,rfl,hk⟩:=x.done;have noA:∀b:Addr,b∉(gN CX P w K mg base N qual scope f cd A outer s H E).ex:=λb z=>absurd (show b∈([]:List Addr) from z) (by simp)
 refine⟨⟨e0.mod,S.kind,rfl,rfl,Ai _,λy z c h1 h2=>?_,λy hy=>?_,λy c _ h=>?_,λ_=>hd,Around.frames_deeper e0.frames,.inr ⟨rfl,rfl⟩,λb z=>absurd z (noA b),e0.bs,e0.bsz,λb _ _=>noA b,λb z=>absurd z (noA b),e0.funs,e0.frf⟩,
  rfl,e0.bare,Un.kept hk,⟨_,x.toInCall.ns,λi y v h1 h2 h3=>?_⟩,λy c h=>⟨_,x.cell y c h⟩,e0.hok.fresh (Nat.le_refl _),λy c h=>?_,λp hp=>absurd (show p∈([]:Q2) from hp) (by simp),e0.hok.kept hk,?_⟩
 ·exact name_of_addr x.apart (Dm h1) (Dm h2)
 ·have hy:scope.names.lookup y=some .cell\/scope.names.lookup y=some .free:=hy
  rcases hy with hy|hy
  ·exact cS hy
  ·exact absurd rfl (S.nofree _ (Dm hy))
 ·exact Nat.le_of_lt (x.above y c (Dm h))
 ·have hi:i<vs.length:=by
   unfold pA at h2;by_cases hi:i<vs.length
   ·exact hi
   ·rw[List.getElem?_append_right (by simpa using hi)]at h2
    rw[Ew]at h2;split at h2<;>cases h2
  have ha:vs[i]?=some v:=by
   unfold pA at h2;rw[List.getElem?_append_left (by simpa using hi),List.getElem?_map]at h2
   cases e:vs[i]? with
   |none=>rw[e]at h2;cases h2
   |some a=>rw[e]at h2;cases h2;rfl
  obtain⟨u,hu,rv⟩:=r.get ha;have hp:ps[i]?=some y:=by
   rw[<-S.pre,List.getElem?_take_of_lt (by omega)];exact h1
  have ndP:ps.Nodup:=by rw[<-S.pre];exact S.nd.sublist (Gj _ _)
  refine⟨u,rv,?_⟩;rcases S.par y (An hp) with k|k
  ·exact .inl ⟨k,xF ndP hp hu k⟩
  ·obtain⟨c,e⟩:=cS (n:=s.heap.objs.size+1) k;refine .inr ⟨.inl k,c,e,?_⟩;have q:=x.cell y c e
   rw[vY ndP hp hu (by show scope.names.lookup y≠_;rw[k];decide)]at q
   exact q
 ·exact e0.hok.fresh (Nat.le_of_lt (x.above y c (Dm h)))
 ·unfold pA;show _=N.length
  rw[Af,Ab,Fl];omega
def dZY{CX:CXT}{mg:Q4}{base:Heap}{f:Addr}{name qual:Str}{params:Arguments}{scope:Scope}{dV kV doc pm cdv ct oc:Value}{an od:Option Addr}{osl:Array (Option Value)}{sp:Sp}(lk:K.lookup f=some ⟨oc,od,.func (W.fnOf name qual params body scope dV kV doc pm an cdv ct),osl⟩)(hcd:W.codeIn K cdv qual=true)(S:FnScope N ps scope)(len:∀vs H Q E,sp vs H Q E->vs.length=ps.length)(hbody:∀(A:Around) (outer:List Env) (s:Shared) (H:Hp) (vs:List V) (Q:VK) (E:XK),Room k (A.deeper (envOfC qual scope s.heap.objs.size f cdv))->sp vs H Q E->
 ∃t,PSs (gN CX P w K mg base N qual scope f cdv A outer s H E) body t/\t {nx:=λ_ H'=>Q .non H',rt:=Q} (pA N vs) H):FnOk P w K mg base CX (k+1) f (W.fnOf name qual params body scope dV kV doc pm an cdv ct) ps sp:=by
 refine⟨len,λA outer s H args us vs Q E hr e0 hb r hsp=>?_⟩;have hl:=len _ _ _ _ hsp
 have KX:K.In s.heap:=e0.mod.kin.keeps λb o e=>(e0.bs b o e).1
 have lim:s.heap.NoLimit:=e0.mod.nolimit.keeps λb o e=>(e0.bs b o e).1
 have hkind:∀y∈ps.zip us,scope.names.lookup y.1=some .local\/(scope.names.lookup y.1=some .cell/\((cellsFrom (s.heap.objs.size+1) scope.names []).lookup y.1).isSome=true):=λ⟨n,v⟩ hy=>by
  rcases S.par n (Eh hy).1 with q|q
  ·exact .inl q
  ·exact .inr ⟨q,W.cellsFrom_some _ _ _ (.inl q)⟩
 refine codeAny_call_function hr.depth (KX _ _ lk) rfl S.co S.gen rfl (W.codeRec_of KX hcd) (hb _ _ _ _ ?_);refine wpAny_newFunctionEnv_cells S.kind hkind λenv he s1 x=>?_;subst he;refine⟨lim.keeps x.toInCall.keep,codeAny_func ?_⟩;obtain⟨t,ht,hq⟩:=hbody A outer s H vs Q E (hr.deeper _) hsp;have I:Inv (gN CX P w K mg base N qual scope f cdv A outer s H E) [] (pA N vs) H s1:=bZC S hr.hd e0 hl r x
 refine Ci (ht [] s1 (pA N vs) H _ I hq) (λfl s' hs=>?_) λe s' hs=>hs;have fin:∀ {σ':St} {H':Hp} {v:V} {u:Value},Inv (gN CX P w K mg base N qual scope f cdv A outer s H E) [] σ' H' s'->RelV v u->Q v H'->CE outer P w H s Q u s':=
  fun {σ' H' v u} J rv q=>⟨v,H',J.os,J.bare,J.base,J.hok,rv,q⟩
 cases fl with
 |ret u=>
  obtain⟨v,σ',H',J,rv,q⟩:=hs;exact fin J rv q
 |next=>
  obtain⟨σ',H',J,q⟩:=hs;exact fin (v:=V.non) (u:=Value.none) J rfl q
 |brk=>
  obtain⟨_,_,_,q⟩:=hs;exact False.elim q
 |cont=>
  obtain⟨_,_,_,q⟩:=hs;exact False.elim q
section
variable {p:Pos} {id T:String} {r:List V->Hp->VK->Prop}
def tCB(r:List V->Hp->VK->Prop)(t:TA):TE:=λσ H Q=>t σ H λvs H1=>r vs H1 Q
def aU(hc:CallR X (.builtin id) r)(hg:Gl X x)(hm:X.mg x=none)(hv:bootBuiltins x=some (.builtin id))(ha:PA X (e::es) t)(hn:x≠"__name__" := by decide)(hdb:(x==("__debug__" : Str))=false:=by decide)(he:starEach (e::es) X.env=(false,eval e X.env)::starEach es X.env:=by rfl)(hpl:(backTo pos (starEach es X.env)).any (·.1)=false:=by rfl):PE X (.Call (.Name x p) (e::es) [] pos) (tCB r t):=by
 intro pins s σ H Q I h;refine Dq (jN I hg hm hv ?_ hn hdb);exact PyProof.Rows.callWith_builtin1 (thn (ha pos pins s σ H _ I h) λus s1 ⟨vs,H1,I1,r1,q1⟩=>hc pins s1 σ H1 vs us Q I1 r1 q1) he hpl
def bN(hc:CallR X (.type T) r)(hg:Gl X x)(hm:X.mg x=none)(hv:bootBuiltins x=some (.type T))(ha:PA X (e::es) t)(hn:x≠"__name__" := by decide)(hdb:(x==("__debug__" : Str))=false:=by decide)(he:starEach (e::es) X.env=(false,eval e X.env)::starEach es X.env:=by rfl)(hpl:(backTo pos (starEach es X.env)).any (·.1)=false:=by rfl):PE X (.Call (.Name x p) (e::es) [] pos) (tCB r t):=by
 intro pins s σ H Q I h;refine Dq (jN I hg hm hv ?_ hn hdb);exact Du (thn (ha pos pins s σ H _ I h) λus s1 ⟨vs,H1,I1,r1,q1⟩=>hc pins s1 σ H1 vs us Q I1 r1 q1) he hpl
end
end L2
namespace HT
open PySem PyProof.Rows
def sIx(n d:Nat):Option Int->Nat
 |none=>d
 |some v=>if v<0 then (v+(n:Int)).toNat else min v.toNat n
end HT
namespace L2
open PySem PySem.Spec PyProof.Rows
variable {H:Hp}{X:Cx}{its:List Value}{n:Nat}{pins:Q2}{s:Shared}{x:V}{xs:List V}{α:Type}{σ:St}
abbrev TO:=St->Hp->(Option Int->Hp->Prop)->Prop
def PO(X:Cx)(e:Option Expr)(t:TO):Prop:=
 ∀(pins:Q2) (s:Shared) (σ:St) (H:Hp) (Q:Option Int->Hp->Prop),Inv X pins σ H s->t σ H Q->
  wpAny (model X.prog X.w) X.A (evalPart e X.env) (λu s'=>∃o H',Inv X pins σ H' s'/\IsPart u o/\Q o H') X.xe s
def bQX:TO:=λ_ H Q=>Q none H
section
variable {e:Expr} {te:TE} {lo hi:Option Expr} {tl th:TO} {pos p2:Pos}
def cJH:PO X none bQX:=by
 intro pins s σ H Q I h;rw[evalPart_none];exact Ao ⟨none,H,I,.none,h⟩
def SlR(X:Cx)(r:V->Option Int->Option Int->Hp->VK->Prop):Prop:=
 ∀(pins:Q2) (s:Shared) (σ:St) (H:Hp) (x:V) (v vl vu:Value) (lo hi:Option Int) (sl:Addr) (Q:VK),Inv X pins σ H s->RelV x v->s.heap.IsSliceOf sl vl vu .none->IsPart vl lo->IsPart vu hi->r x lo hi H Q->
  ∃T id,typeLookup (.type T) "__getitem__"=pure (some (.builtin id))/\s.TypeIs v T/\wpAny (model X.prog X.w) X.A (getItem v (.ref sl)) (EP X pins σ Q) X.xe s
def SlR.or{r r':V->Option Int->Option Int->Hp->VK->Prop}(h:SlR X r)(h':SlR X r'):SlR X (λx lo hi H Q=>r x lo hi H Q\/r' x lo hi H Q):=by
 intro pins s σ H x v vl vu lo hi sl Q I rx hs pl pu q;rcases q with q|q
 ·exact h pins s σ H x v vl vu lo hi sl Q I rx hs pl pu q
 ·exact h' pins s σ H x v vl vu lo hi sl Q I rx hs pl pu q
def tSl(r:V->Option Int->Option Int->Hp->VK->Prop)(te:TE)(tl th:TO):TE:=λσ H Q=>te σ H λx H1=>tl σ H1 λl H2=>th σ H2 λu H3=>r x l u H3 Q
def lD{r:V->Option Int->Option Int->Hp->VK->Prop}(hr:SlR X r)(he:PE X e te)(hl:PO X lo tl)(hu:PO X hi th):PE X (.Subscript e (.Slice lo hi none p2) pos) (tSl r te tl th):=by
 intro pins s σ H Q I h;refine Subscript_ (thn (he pins s σ H _ I h) λv s1 ⟨x,H1,I1,r1,q1⟩=>?_);refine wpAny_Slice (thn (hl pins s1 σ H1 _ I1 q1) λvl s2 ⟨l,H2,I2,pl,q2⟩=>thn (hu pins s2 σ H2 _ I2 q2) λvu s3 ⟨u,H3,I3,pu,q3⟩=>?_);rw[evalPart_none];refine Ao ?_;have I4:Inv X pins σ H3 {s3 with heap:=s3.heap.push {cls:=.type "slice",data:=.fields #[vl,vu,.none]}}:=I3.kept (t':=s3.toks) λb ob q=>Ag _ q
 obtain⟨T,id,hT,ht,hg⟩:=hr pins {s3 with heap:=s3.heap.push {cls:=.type "slice",data:=.fields #[vl,vu,.none]}} σ H3 x v vl vu l u s3.heap.objs.size Q I4 r1 (Heap.IsSliceOf.new ..) pl pu q3
 show wpAny (model X.prog X.w) X.A (subscriptTail e (.Slice lo hi none p2) v (.ref s3.heap.objs.size)) (EP X pins σ Q) X.xe {s3 with heap:=s3.heap.push {cls:=.type "slice",data:=.fields #[vl,vu,.none]}}
 exact tail_any (ops:=[.ref s3.heap.objs.size,v]) ht hT hg (by with_unfolding_all rfl)
def qH(xs:List V)(lo hi:Option Int):List V:=(xs.drop (HT.sIx xs.length 0 lo)).take (HT.sIx xs.length xs.length hi-HT.sIx xs.length 0 lo)
def aQO(xs:List V)(lo hi:Option Int):(qH xs lo hi).length<=xs.length:=by
 unfold qH;rw[Bx,Cs];omega
end
def ixN(n:Nat)(i:Int):Option Nat:=if 0<=i then (if i<n then some i.toNat else none) else if -(n:Int)<=i then some (i+n).toNat else none
def atI(xs:List α)(i:Int):Option α:=(ixN xs.length i).bind λj=>xs[j]?
def aJ2{i:Int}{j:Nat}(h:ixN n i=some j):seqIndex? i n=some j/\j<n/\-(n:Int)<=i/\i<n:=by
 unfold ixN at h;by_cases h0:0<=i
 ·rw[if_pos h0]at h;by_cases h1:i<n
  ·rw[if_pos h1]at h;have e:i.toNat=j:=Bl h
   exact⟨by rw[seqIndex_of h0 h1,e],by omega,by omega,h1⟩
  ·rw[if_neg h1]at h;cases h
 ·rw[if_neg h0]at h;by_cases h1:-(n:Int)<=i
  ·rw[if_pos h1]at h;have e:(i+n).toNat=j:=Bl h
   exact⟨by rw[seqIndex_neg (by omega) h1,e],by omega,h1,by omega⟩
  ·rw[if_neg h1]at h;cases h
def yR{xs:List α}{i:Int}{v:α}(h:atI xs i=some v):∃j,seqIndex? i xs.length=some j/\xs[j]?=some v/\j<xs.length/\-(xs.length:Int)<=i/\i<xs.length:=by
 unfold atI at h;cases e:ixN xs.length i with
 |none=>rw[e]at h;cases h
 |some j=>
  rw[e]at h;obtain⟨h1,h2,h3,h4⟩:=aJ2 e;exact⟨j,h1,h,h2,h3,h4⟩
def aV{xs:List α}{j:Nat}{v:α}(h:xs[j]?=some v):atI xs (j:Int)=some v:=by
 have hj:j<xs.length:=(Ad.mp h).1
 have e:ixN xs.length (j:Int)=some j:=by
  unfold ixN;rw[if_pos (by omega),if_pos (by omega)];simp
 unfold atI;rw[e];exact h
def cJR(b:Expr):Prop:=∀o i,subscripted b false o i=operate [o,i] (getItem o i)
def IxR(X:Cx)(r:R2):Prop:=
 ∀(value slice:Expr) (pins:Q2) (s:Shared) (σ:St) (H:Hp) (x y:V) (v u:Value) (Q:VK),Inv X pins σ H s->RelV x v->RelV y u->r x y H Q->
  subscripted slice false v u=operate [v,u] (getItem v u)->wpAny (model X.prog X.w) X.A (subscriptTail value slice v u) (EP X pins σ Q) X.xe s
def MtR(X:Cx)(id:String)(r:V->List V->Hp->VK->Prop):Prop:=
 ∀(pins:Q2) (s:Shared) (σ:St) (H:Hp) (x:V) (xs:List V) (v:Value) (us:List Value) (Q:VK),Inv X pins σ H s->RelV x v->Vals xs us->r x xs H Q->
  wpAny (model X.prog X.w) X.A (call (.builtin id) (v::us)) (EP X pins σ Q) X.xe s
section
variable {X:Cx} {a b:Expr} {ta tb:TE} {pos:Pos}
def IxR.or{r r':R2}(h:IxR X r)(h':IxR X r'):IxR X (λx y H Q=>r x y H Q\/r' x y H Q):=by
 intro value slice pins s σ H x y v u Q I rx ry q hs;rcases q with q|q
 ·exact h value slice pins s σ H x y v u Q I rx ry q hs
 ·exact h' value slice pins s σ H x y v u Q I rx ry q hs
def bE{r:R2}(hr:IxR X r)(ha:PE X a ta)(hb:PE X b tb)(hs:cJR b):PE X (.Subscript a b pos) (tOp r ta tb):=by
 intro pins s σ H Q I h;exact Subscript_ (eXL ha hb I h λv u s2 x y H2 I2 rx ry q=>hr a b pins s2 σ H2 x y v u Q I2 rx ry q (hs _ _))
def eXN(K:W.Frag):R2:=λx y H Q=>∃p xs i v,x=.ref p/\y=.int i/\SqL K H p xs/\atI xs i=some v/\Q v H
def fQC(K:W.Frag):R2:=λx y H Q=>∃p xs i v,x=.ref p/\y=.int i/\SqT K H p xs/\atI xs i=some v/\Q v H
def eJ1:R2:=λx y H Q=>∃z i c,x=.str z/\y=.int i/\z.length<=sizeLine/\atI z.cps.toList i=some c/\Q (.str ⟨#[c]⟩) H
def ix_list:IxR X (eXN X.K):=by
 intro value slice pins s σ H x y v u Q I rx ry h hs;obtain⟨p,xs,i,z,rfl,rfl,hq,he,q⟩:=h;cases rx;obtain⟨t,rfl⟩:=ry;obtain⟨its,r,pl,hz⟩:=I.list hq;obtain⟨j,h1,h2,h3,h4,h5⟩:=yR he;obtain⟨w,ew,rw'⟩:=r.get h2;have hl:=r.length
 have hn:=mS
 have fin:EP X pins σ Q w s:=⟨z,H,I,rw',q⟩
 by_cases h0:0<=i
 ·have hj:i.toNat=j:=by
   rw[seqIndex_of h0 h5]at h1;exact Bl h1
  exact item_listR pl.isList h0 (by omega) (by rw[hj];simpa using ew) fin hs
 ·have hj:(i+(its.toArray.size:Int)).toNat=j:=by
   rw[seqIndex_neg (by omega) h4]at h1
   rw[Bk,<-hl];exact Bl h1
  exact subscriptTail_builtinR (x:=w) pl.isList.typeIs slot_list_getitem.lookup
   (wpAny_getItem_list_neg (Q:=λr s'=>r=w/\EP X pins σ Q r s') pl.isList (by omega) (by rw[List.size_toArray]<;>omega) (by omega) (by rw[hj];simpa using ew) ⟨rfl,fin⟩) hs
def ix_tup:IxR X (fQC X.K):=by
 intro value slice pins s σ H x y v u Q I rx ry h hs;obtain⟨p,xs,i,z,rfl,rfl,hq,he,q⟩:=h;cases rx;obtain⟨t,rfl⟩:=ry;obtain⟨its,r,pl,hz⟩:=I.tuple hq;obtain⟨j,h1,h2,h3,h4,h5⟩:=yR he;obtain⟨w,ew,rw'⟩:=r.get h2;have hl:=r.length
 have hn:=mS
 have fin:EP X pins σ Q w s:=⟨z,H,I,rw',q⟩
 exact subscriptTail_builtinR (x:=w) pl.typeIs slot_tuple_getitem.lookup
  (getItem_tuple (j:=j) (Q:=λr s'=>r=w/\EP X pins σ Q r s') pl (by omega) (by omega) (by rw[List.size_toArray,<-hl];exact h1) (by simpa using ew) ⟨rfl,fin⟩) hs
def eXV:IxR X eJ1:=by
 intro value slice pins s σ H x y v u Q I rx ry h hs;obtain⟨z,i,c,rfl,rfl,hz,he,q⟩:=h;obtain⟨t,rfl⟩:=rx;obtain⟨t',rfl⟩:=ry;obtain⟨j,h1,h2,h3,h4,h5⟩:=yR he;have hl:z.cps.toList.length=z.length:=by simp[Str.length]
 rw[hl]at h1 h4 h5;have hn:=mS
 exact tail_any (typeIs_str s z t) slot_str_getitem.lookup (getItem_str (c:=c) (by
  have e1:decide (i < -(2^63:Int))=false:=Aw (by omega)
  have e2:decide (i ≥ 2^63)=false:=Aw (by omega)
  rw[e1,e2,Bool.or_false]) (by rw[h1];simpa using h2) ⟨.str ⟨#[c]⟩,H,I.tok _,⟨_,rfl⟩,q⟩) hs
def rIx(K:W.Frag):R2:=λx y H Q=>eXN K x y H Q\/fQC K x y H Q\/eJ1 x y H Q
def ix_seq:IxR X (rIx X.K):=ix_list.or (ix_tup.or eXV)
def aZS(its:List Value)(n j:Nat)(u:Value):Obj.mapSeq (·.setIfInBounds j u) {cls:=.type "list",data:=.seq its.toArray n}={cls:=.type "list",data:=.seq (its.set j u).toArray n}:=by
 simp[Obj.mapSeq]
def Inv.lst{pins:Q2}{σ:St}{H:Hp}{s:Shared}{p:Addr}{xs:List V}(I:Inv X pins σ H s)(h:H p=some (.lst xs)):∃(its:List Value) (n:Nat),Vals xs its/\s.heap.get? p=some {cls:=.type "list",data:=.seq its.toArray n}/\xs.length<=sizeLine:=by
 obtain⟨z,its,n,r,e⟩:=I.hok p _ h;exact⟨its,n,r,e,z⟩
def Inv.lstUpd{p:Addr}{ys:List V}{its':List Value}{n':Nat}{f:Obj->Obj}(I:Inv X pins σ H s)(h:H p=some (.lst xs))(ho:s.heap.get? p=some {cls:=.type "list",data:=.seq its.toArray n})(hf:f {cls:=.type "list",data:=.seq its.toArray n}={cls:=.type "list",data:=.seq its'.toArray n'})(r:Vals ys its')(hz:ys.length<=sizeLine)(t:Nat):Inv X pins σ (upd H p (.lst ys)) {s with heap:=s.heap.update p f,toks:=t}:=by
 have e:(s.heap.update p f).get? p=some {cls:=.type "list",data:=.seq its'.toArray n'}:=by
  rw[Heap.get?_update_self f ho (by rw[hf]<;>rfl),hf]
 refine I.write (x:=p) (e:=p) (by rw[h];trivial) (.inl rfl) (λb u hb q=>(Cj _ _ (Ne.symm hb)).trans q) ⟨_,e⟩ ?_
 exact⟨hz,its',n',r,e⟩
def dZD:V->V->V->Hp->(Hp->Prop)->Prop:=λo i v H Q=>∃p xs k j,o=.ref p/\i=.int k/\H p=some (.lst xs)/\ixN xs.length k=some j/\Q (upd H p (.lst (xs.set j v)))
def aQQ:eJX X dZD:=by
 intro pins s σ H o i v ov iv u Q I ro ri rv h;obtain⟨p,xs,k,j,rfl,rfl,hp,hj,q⟩:=h;cases ro;obtain⟨t,rfl⟩:=ri;obtain⟨its,n,r,ho,hz⟩:=I.lst hp;obtain⟨h1,h2,h3,h4⟩:=aJ2 hj;have hl:=r.length
 have hn:=mS
 have I':Inv X pins σ (upd H p (.lst (xs.set j v))) {s with heap:=s.heap.update p (Obj.mapSeq (·.setIfInBounds j u))}:=
  I.lstUpd hp ho (aZS its n j u) (r.set rv j) (by rw[Cv];exact hz) s.toks
 by_cases h0:0<=k
 ·have hk:k.toNat=j:=by
   rw[seqIndex_of h0 h4]at h1;exact Bl h1
  exact W.ki_setAt ho h0 (by omega) (by rw[Bk,<-hl];exact h4) (by rw[hk];exact⟨_,I',q⟩)
 ·have hk:(k+(its.toArray.size:Int)).toNat=j:=by
   rw[seqIndex_neg (by omega) h3]at h1
   rw[Bk,<-hl];exact Bl h1
  exact W.ki_setBack ho (by omega) (by rw[Bk,<-hl];exact h3) (by omega) (by rw[hk];exact⟨_,I',q⟩)
def zK(lo hi:Option Int)(n:Nat):(sliceBounds lo hi none n).1=((HT.sIx n 0 lo:Nat):Int)/\(sliceBounds lo hi none n).2.1=((HT.sIx n n hi:Nat):Int)/\(sliceBounds lo hi none n).2.2=1:=by
 refine⟨?_,?_,rfl⟩
 ·cases lo with
  |none=>simp[sliceBounds,HT.sIx]
  |some i=>
   simp only[sliceBounds,HT.sIx,Option.getD_none,show (1:Int)>0 by decide,if_true]
   by_cases h:i<0
   ·simp only[h,if_true]<;>omega
   ·simp only[h,if_false]<;>omega
 ·cases hi with
  |none=>simp[sliceBounds,HT.sIx]
  |some i=>
   simp only[sliceBounds,HT.sIx,Option.getD_none,show (1:Int)>0 by decide,if_true]
   by_cases h:i<0
   ·simp only[h,if_true]<;>omega
   ·simp only[h,if_false]<;>omega
def vI(its:List Value)(lo hi:Option Int):slicePick its.toArray lo hi none=((its.drop (HT.sIx its.length 0 lo)).take (HT.sIx its.length its.length hi-HT.sIx its.length 0 lo)).toArray:=by
 obtain⟨h1,h2,h3⟩:=zK lo hi its.toArray.size;unfold slicePick;rw[h1,h2,h3];simp only[sliceRange_one,pick_run,List.size_toArray]<;>rfl
def eZI(K:W.Frag):V->Option Int->Option Int->Hp->VK->Prop:=λx lo hi H Q=>∃a xs,x=.ref a/\SqL K H a xs/\∀p,H p=none->Q (.ref p) (upd H p (.lst (qH xs lo hi)))
def sl_list:SlR X (eZI X.K):=by
 intro pins s σ H x v vl vu lo hi sl Q I rx hs pl pu h;obtain⟨a,xs,rfl,hx,q⟩:=h;cases rx;obtain⟨its,r,ht,hz⟩:=I.list hx;have hlen:=r.length
 refine⟨"list",_,slot_list_getitem.lookup,ht.isList.typeIs,?_⟩;refine wpAny_getItem_list_slice ht.isList hs pl pu .none (by simp) ?_ (by rw[List.size_toArray]<;>omega)
 rw[vI,<-hlen];refine⟨.ref s.heap.objs.size,_,I.laid (t':=s.toks) (o:=.lst (qH xs lo hi)) (λb ob q=>Ag _ q) (Ai _) ?_,rfl,q _ (I.hok.fresh (Ai _))⟩;exact⟨Bi (aQO xs lo hi) hz,_,0,(r.drop (HT.sIx xs.length 0 lo)).take (HT.sIx xs.length xs.length hi-HT.sIx xs.length 0 lo),Ay _ rfl⟩
def cU:V->Bool
 |.non=>true
 |.bl _=>true
 |.int _=>true
 |.str _=>true
 |_=>false
def eqV:V->V->Bool
 |.non,.non=>true
 |.bl a,.bl b=>a==b
 |.bl a,.int b=>(if a then 1 else 0)==b
 |.int a,.bl b=>a==(if b then 1 else 0)
 |.int a,.int b=>a==b
 |.str a,.str b=>a==b
 |_,_=>false
def yE{A:Around}{s:Shared}{y:V}{u v:Value}(ry:RelV y u)(rx:RelV x v)(fy:cU y=true)(fx:cU x=true):SeqAt.EqAt A s u v (eqV y x):=by
 cases y with
 |non=>
  cases ry;cases x with
  |non=>cases rx;exact SeqAt.EqAt.same _
  |bl b=>cases rx;exact SeqAt.EqAt.none_bool b
  |int b=>obtain⟨t,rfl⟩:=rx;exact SeqAt.EqAt.none_int b t
  |str b=>obtain⟨t,rfl⟩:=rx;exact SeqAt.EqAt.none_str b t
  |_=>exact absurd (show false=true from fx) Ap
 |bl a=>
  cases ry;cases x with
  |non=>cases rx;exact SeqAt.EqAt.bool_none a
  |bl b=>cases rx;exact SeqAt.EqAt.bool_bool a b
  |int b=>obtain⟨t,rfl⟩:=rx;exact SeqAt.EqAt.bool_int a b t
  |str b=>obtain⟨t,rfl⟩:=rx;exact SeqAt.EqAt.bool_str a b t
  |_=>exact absurd (show false=true from fx) Ap
 |int a=>
  obtain⟨t',rfl⟩:=ry;cases x with
  |non=>cases rx;exact SeqAt.EqAt.int_none a t'
  |bl b=>cases rx;exact SeqAt.EqAt.int_bool a t' b
  |int b=>obtain⟨t,rfl⟩:=rx;exact SeqAt.EqAt.int_int a t' b t
  |str b=>obtain⟨t,rfl⟩:=rx;exact SeqAt.EqAt.int_str a t' b t
  |_=>exact absurd (show false=true from fx) Ap
 |str a=>
  obtain⟨t',rfl⟩:=ry;cases x with
  |non=>cases rx;exact SeqAt.EqAt.str_none a t'
  |bl b=>cases rx;exact SeqAt.EqAt.str_bool a t' b
  |int b=>obtain⟨t,rfl⟩:=rx;exact SeqAt.EqAt.str_int a t' b t
  |str b=>obtain⟨t,rfl⟩:=rx;exact SeqAt.EqAt.str_str a t' b t
  |_=>exact absurd (show false=true from fx) Ap
 |_=>exact absurd (show false=true from fy) Ap
def eqU(x:V)(u:Value):Bool:=match u with
 |.none=>eqV .non x
 |.bool b=>eqV (.bl b) x
 |.int i _=>eqV (.int i) x
 |.str z _=>eqV (.str z) x
 |_=>false
def cZK{y:V}{u:Value}(r:RelV y u)(f:cU y=true):eqU x u=eqV y x:=by
 cases y with
 |non=>cases r;rfl
 |bl b=>cases r;rfl
 |int i=>obtain⟨t,rfl⟩:=r;rfl
 |str z=>obtain⟨t,rfl⟩:=r;rfl
 |_=>exact absurd (show false=true from f) Ap
def zE:∀ {xs:List V} {us:List Value},Vals xs us->xs.all cU=true->us.any (eqU x)=xs.any λy=>eqV y x
 |_,_,.nil,_=>rfl
 |y::xs,u::us,.cons r t,f=>by
  rw[List.all_cons,Ea]at f;rw[Gx,Gx,cZK r f.1,zE t f.2]
def rQ{A:Around}{v:Value}(rx:RelV x v)(fx:cU x=true):∀ {xs:List V} {us:List Value},Vals xs us->xs.all cU=true->∀u∈us,SeqAt.EqAt A s u v (eqU x u)
 |_,_,.nil,_=>λu hu=>by cases hu
 |y::xs,u::us,.cons r t,f=>λu' hu=>by
  rw[List.all_cons,Ea]at f;rcases Az.mp hu with rfl|hu
  ·rw[cZK r f.1];exact yE r rx f.1 fx
  ·exact rQ rx fx t f.2 u' hu
def inV(x:V)(xs:List V):Bool:=xs.any λy=>eqV y x
def rIn(K:W.Frag)(neg:Bool):R2:=λx y H Q=>∃p xs,y=.ref p/\(SqL K H p xs\/SqT K H p xs)/\cU x=true/\xs.all cU=true/\Q (.bl (if neg then !inV x xs else inV x xs)) H
def op_notIn_seq:OpR X (compareOp .NotIn) (rIn X.K true):=by
 intro pins s σ H x y v u Q I rx ry h;obtain⟨p,xs,rfl,hq,fx,fs,q⟩:=h;cases ry;rcases hq with hq|hq
 ·obtain⟨its,r,pl,hz⟩:=I.list hq;refine SeqAt.notIn_listAt (eqU x) pl.isList (λw hw=>rQ rx fx r fs w (by simpa using hw)) ⟨.bl _,H,I,rfl,?_⟩
  rw[show its.toArray.any (eqU x)=its.any (eqU x) by simp,zE r fs]
  exact q
 ·obtain⟨its,r,pl,hz⟩:=I.tuple hq;refine SeqAt.notIn_tupleAt (eqU x) pl (λw hw=>rQ rx fx r fs w (by simpa using hw)) ⟨.bl _,H,I,rfl,?_⟩
  rw[show its.toArray.any (eqU x)=its.any (eqU x) by simp,zE r fs]
  exact q
def yI:CallR X (.builtin "len") (λxs H Q=>∃p ys,xs=[.ref p]/\(SqL X.K H p ys\/SqT X.K H p ys)/\Q (.int ys.length) H):=by
 intro pins s σ H xs us Q I r h;obtain⟨p,ys,rfl,hq,q⟩:=h;obtain⟨u,rfl,rx⟩:=dR r;cases rx;have hn:=mS
 rcases hq with hq|hq
 ·obtain⟨its,r',pl,hz⟩:=I.list hq;have hlen:=r'.length
  exact Calls.call_len_list pl.isList (by simp only[List.size_toArray]<;>omega) ⟨.int ys.length,H,I.tok _,⟨s.toks+1,by rw[List.size_toArray,hlen]⟩,q⟩
 ·obtain⟨its,r',pl,hz⟩:=I.tuple hq;have hlen:=r'.length
  exact len_tuple pl (by simp only[List.size_toArray]<;>omega) ⟨.int ys.length,H,I.tok _,⟨s.toks+1,by rw[List.size_toArray,hlen]⟩,q⟩
def CallR.or{f:Value}{r r':List V->Hp->VK->Prop}(h:CallR X f r)(h':CallR X f r'):CallR X f (λxs H Q=>r xs H Q\/r' xs H Q):=by
 intro pins s σ H xs us Q I rs q;rcases q with q|q
 ·exact h pins s σ H xs us Q I rs q
 ·exact h' pins s σ H xs us Q I rs q
def call_list_of:CallR X (.type "list") (λxs H Q=>∃p ys,xs=[.ref p]/\(SqL X.K H p ys\/SqT X.K H p ys)/\∀l,H l=none->Q (.ref l) (upd H l (.lst ys))):=by
 intro pins s σ H xs us Q I r h;obtain ⟨p,ys,rfl,hq,q⟩:=h;obtain ⟨u,rfl,rx⟩:=dR r;cases rx;have fin:∀ (its:List Value),Vals ys its->ys.length<=sizeLine->∀ (h':Heap) (c':Nat),(∀ b o',s.heap.get? b=some o'->h'.get? b=some o')->
     h'.get? s.heap.objs.size=some {cls:=.type "list",dict:=none,data:=.seq its.toArray c',slots:=#[]}->EP X pins σ Q (.ref s.heap.objs.size) {s with heap:=h'}:=λits r' hz h' c' kp e=>
  ⟨.ref s.heap.objs.size,_,I.laid (t':=s.toks) kp (Ai _) (show ObjOk X.prog X.w _ h' _ (.lst ys) from⟨hz,its,c',r',e⟩),rfl,q _ (I.hok.fresh (Ai _))⟩
 rcases hq with hq|hq
 ·obtain⟨its,r',pl,hz⟩:=I.list hq;have hlen:=r'.length
  obtain⟨o,ho,hc,n,hd⟩:=pl.isList;exact call_list_seq p (.inl rfl) ho hc hd (λh' c' kp e=>fin its r' hz h' c' kp e) (by simp only[List.size_toArray]<;>omega)
 ·obtain⟨its,r',pl,hz⟩:=I.tuple hq;have hlen:=r'.length
  obtain⟨o,ho,hc,n,hd⟩:=pl;exact call_list_seq p (.inr rfl) ho hc hd (λh' c' kp e=>fin its r' hz h' c' kp e) (by simp only[List.size_toArray]<;>omega)
def tyV(K:W.Frag)(T:String)(x:V)(H:Hp):Prop:=match x with
 |.str _=>T="str"
 |.int _=>T="int"
 | .ref p=>(T="list"/\∃ xs,SqL K H p xs)\/(T="tuple"/\∃ o,K.lookup p=some o/\o.cls=.type "tuple"/\o.dict=none)\/
     (T="dict"/\((∃kvs,H p=some (.dK kvs))\/∃kvs,H p=some (.dT kvs)))\/(T="set"/\∃S n,H p=some (.set S n))
 |_=>False
def eQE{T:String}{v:Value}(I:Inv X pins σ H s)(r:RelV x v)(ty:tyV X.K T x H):s.TypeIs v T/\∀a,v=.ref a->∃ob,s.heap.get? a=some ob/\ob.dict=none:=by
 cases x with
 |str z=>
  obtain⟨t,rfl⟩:=r;cases (show T="str" from ty);exact⟨typeIs_str s z t,λ_ e=>nomatch e⟩
 |int i=>
  obtain⟨t,rfl⟩:=r;cases (show T="int" from ty);exact⟨typeIs_int s i t,λ_ e=>nomatch e⟩
 |ref p=>
  cases r;rcases ty with⟨rfl,xs,hq⟩|⟨rfl,o,hk,hc,hd⟩|⟨rfl,hk⟩|⟨rfl,S,n,hk⟩
  ·obtain⟨its,_,pl,_⟩:=I.list hq;refine⟨pl.isList.typeIs,λa e=>?_⟩;cases e;obtain⟨o,n,e,c,hd,_⟩:=pl;exact⟨o,e,hd⟩
  ·refine⟨⟨o,I.kIn p o hk,hc⟩,λa e=>?_⟩;cases e;exact⟨o,I.kIn _ o hk,hd⟩
  ·have z:∃ o,s.heap.get? p=some o/\o.ExactDict:=by
    rcases hk with⟨kvs,hk⟩|⟨kvs,hk⟩
    ·obtain⟨_,_,_,_,o,_,_,e,ex,_⟩:=I.hok p _ hk;exact⟨o,e,ex⟩
    ·obtain⟨_,_,_,_,o,_,_,e,ex,_⟩:=I.hok p _ hk;exact⟨o,e,ex⟩
   obtain⟨o,e,ex⟩:=z;refine⟨⟨o,e,ex.1⟩,λa e2=>?_⟩;cases e2;exact⟨o,e,ex.2.1⟩
  ·obtain⟨o,_,_,_,e,ex,_⟩:=I.hok p _ hk;refine⟨⟨o,e,ex.1⟩,λa e2=>?_⟩;cases e2;exact⟨o,e,ex.2.1⟩
 |_=>exact False.elim ty
variable {o e:Expr} {t:TA} {T:String} {r:V->List V->Hp->VK->Prop}
end
def MtM(X:Cx)(id:String)(r:V->List V->Hp->VK->Prop):Prop:=
 ∀(pins:Q2) (s:Shared) (σ:St) (H:Hp) (x:V) (xs:List V) (v:Value) (us:List Value) (Q:VK),Inv X pins σ H s->RelV x v->Vals xs us->r x xs H Q->
  wpAny (model X.prog X.w) X.A (call (.builtin id) (v::us)) (EP X pins σ Q) X.xe s
def Vals.one:∀ {x:V} {us:List Value},Vals [x] us->∃u,us=[u]/\RelV x u
 |_,_,.cons r .nil=>⟨_,rfl,r⟩
def Vals.two:∀ {x y:V} {us:List Value},Vals [x,y] us->∃u v,us=[u,v]/\RelV x u/\RelV y v
 |_,_,_,.cons r (.cons q .nil)=>⟨_,_,rfl,r,q⟩
def Vals.zero:∀ {us:List Value},Vals [] us->us=[]
 |_,.nil=>rfl
def Vals.rep{us:List Value}(h:Vals xs us):∀k:Nat,Vals (List.replicate k xs).flatten (List.replicate k us).flatten
 |0=>.nil
 |k+1=>by
  rw[Dw,Dw,Bz,Bz];exact Vals.append h (Vals.rep h k)
def xI(its:List Value):∀(k:Nat) (acc:List Value),
 List.foldl (λx1 x2=>x1++x2) acc.toArray (List.replicate k its.toArray)=(acc++(List.replicate k its).flatten).toArray
 |0,acc=>by simp
 |k+1,acc=>by
  have e:acc.toArray++its.toArray=(acc++its).toArray:=by simp
  have e2:(acc++its)++(List.replicate k its).flatten=acc++(List.replicate (k+1) its).flatten:=by
   rw[Dw,Bz,List.append_assoc]
  rw[<-e2,<-xI its k (acc++its),<-e,Dw,List.foldl_cons]
section
variable {l:Addr} {ys:List V}
def Inv.lset{its':List Value}{f:Array Value->Array Value}{t':Nat}(I:Inv X pins σ H s)(hH:H l=some (.lst xs))(e:s.heap.get? l=some {cls:=.type "list",data:=.seq its.toArray n})(hf:f its.toArray=its'.toArray)(hv:Vals ys its')(hz:ys.length<=sizeLine):Inv X pins σ (upd H l (.lst ys)) {s with heap:=s.heap.update l (Obj.mapSeq f),toks:=t'}:=by
 have q:=PySem.IsL.update e f
 rw[hf]at q;refine I.write (x:=l) (e:=l) (by rw[hH];exact trivial) (.inl rfl) (λb' u hb hu=>(Cj s.heap (Obj.mapSeq f) (Ne.symm hb)).trans hu) ⟨_,q⟩ ?_
 exact⟨hz,its',_,hv,q⟩
def Inv.lnew{its:List Value}{t':Nat}(I:Inv X pins σ H s)(hv:Vals ys its)(hz:ys.length<=sizeLine):Inv X pins σ (upd H s.heap.objs.size (.lst ys)) {s with heap:=s.heap.push {cls:=.type "list",data:=.seq its.toArray},toks:=t'}:=
 I.laid (λ_ _ q=>Ag _ q) (Ai _) ⟨hz,its,0,hv,Ay _ rfl⟩
def Inv.fresh(I:Inv X pins σ H s):H s.heap.objs.size=none:=I.hok.fresh (Ai _)
def Inv.lstM(I:Inv X pins σ H s)(hH:H l=some (.lst xs)):xs.length<=sizeLine/\∃(its:List Value) (n:Nat),Vals xs its/\xs.length=its.length/\s.heap.get? l=some {cls:=.type "list",data:=.seq its.toArray n}:=by
 obtain⟨z,its,n,r,e⟩:=I.hok l _ hH;exact⟨z,its,n,r,r.length,e⟩
def aQR(h:n<=sizeLine):Builtin.List.listTooLong n=false:=by
 unfold Builtin.List.listTooLong;exact Aw (by omega)
end
def aJZ:V->List V->Hp->VK->Prop:=λx vs H Q=>∃l xs y,x=.ref l/\vs=[y]/\H l=some (.lst xs)/\xs.length<sizeLine/\Q .non (upd H l (.lst (xs++[y])))
def vP:MtM X "list.append" aJZ:=by
 intro pins s σ H x vs v us Q I rx rv h;obtain⟨l,xs,y,rfl,rfl,hH,hz,q⟩:=h;cases rx;obtain⟨u,rfl,ru⟩:=rv.one;obtain⟨z,its,n,r,hl,e⟩:=I.lstM hH;refine call_meets F.slot_list_append ⟨_,e,rfl⟩ F.entry_list_append (F.args_list_append_2 _ _) (PySem.list_append l its.toArray n u (by rw[Bk];omega)) ⟨e,?_⟩
 refine⟨.non,_,I.lset (its':=its++[u]) hH e (by simp) (r.append (.cons ru .nil)) ?_,rfl,q⟩
 rw[Af,List.length_singleton];omega
def bQT:V->List V->Hp->VK->Prop:=λx vs H Q=>∃l b xs zs,x=.ref l/\vs=[.ref b]/\H l=some (.lst xs)/\H b=some (.lst zs)/\xs.length+zs.length<=sizeLine/\Q .non (upd H l (.lst (xs++zs)))
def bXY:MtM X "list.extend" bQT:=by
 intro pins s σ H x vs v us Q I rx rv h;obtain⟨l,b,xs,zs,rfl,rfl,hH,hB,hz,q⟩:=h;cases rx;obtain⟨u,rfl,ru⟩:=rv.one;cases ru;obtain⟨z,its,n,r,hl,e⟩:=I.lstM hH;obtain⟨z2,its2,n2,r2,hl2,e2⟩:=I.lstM hB;have hsz:its.toArray.size+its2.toArray.size<=sizeLine:=by rw[Bk,Bk];omega
 have hlong:¬(!its.toArray.isEmpty&&Builtin.List.listTooLong (its.toArray.size+its2.toArray.size))=true:=by
  rw[aQR hsz,Bool.and_false];exact Ap
 refine call_meets F.slot_list_extend ⟨_,e,rfl⟩ F.entry_list_extend (F.args_list_extend_2 _ _)
  (AutoSeq1.list_extend_list_list_0 l its.toArray n b its2.toArray n2 hlong (by rw[Bk];omega) (by omega)) ⟨e,e2,?_⟩
 refine⟨.non,_,I.lset (its':=its++its2) hH e (by simp) (r.append r2) ?_,rfl,q⟩
 rw[Af];omega
def fXA:R2:=λx y H Q=>∃l b xs zs,x=.ref l/\y=.ref b/\H l=some (.lst xs)/\H b=some (.lst zs)/\xs.length+zs.length<=sizeLine/\∀p,H p=none->Q (.ref p) (upd H p (.lst (xs++zs)))
def dJ8:OpR X (binaryOp .Add) fXA:=by
 intro pins s σ H x y v u Q I rx ry h;obtain⟨l,b,xs,zs,rfl,rfl,hH,hB,hz,q⟩:=h;cases rx;cases ry;obtain⟨z,its,n,r,hl,e⟩:=I.lstM hH;obtain⟨z2,its2,n2,r2,hl2,e2⟩:=I.lstM hB;refine PySem.P.add_list e e2 ?_ (by rw[Bk,Bk];omega)
 have ea:its.toArray++its2.toArray=(its++its2).toArray:=by simp
 rw[ea];exact⟨.ref _,_,I.lnew (t':=s.toks) (r.append r2) (by rw[Af];omega),rfl,q _ I.fresh⟩
def fQ0:R2:=λx y H Q=>∃l k xs,x=.ref l/\y=.int k/\H l=some (.lst xs)/\-(2^63)<=k/\k<2^63/\xs.length*k.toNat<=sizeLine/\
 ∀p,H p=none->Q (.ref p) (upd H p (.lst (List.replicate k.toNat xs).flatten))
def dXL(xs:List α)(k:Nat):(List.replicate k xs).flatten.length=k*xs.length:=by
 induction k with
 |zero=>simp
 |succ k ih=>rw[Dw,Bz,Af,ih,Nat.succ_mul,Nat.add_comm]
def cZ5:OpR X (binaryOp .Mult) fQ0:=by
 intro pins s σ H x y v u Q I rx ry h;obtain⟨l,k,xs,rfl,rfl,hH,h1,h2,hz,q⟩:=h;cases rx;obtain⟨t,rfl⟩:=ry;obtain⟨z,its,n,r,hl,e⟩:=I.lstM hH;have hlen:its.toArray.size*k.toNat<=sizeLine:=by rw[Bk,<-hl];exact hz
 have hcap:¬its.toArray.size*k.toNat>(2^63-1) / 8:=by
  have:(sizeLine:Nat)<=(2^63-1) / 8:=by decide
  omega
 have hfit:¬(!Builtin.List.listFitsIndex k)=true:=by
  rw[fitsIndex_both h1 h2];exact Ap
 have hlong:¬Builtin.List.listTooLong (its.toArray.size*k.toNat)=true:=by
  rw[aQR hlen];exact Ap
 have hnew:List.foldl (λx1 x2=>x1++x2) #[] (List.replicate (if its.toArray.isEmpty=true then 0 else k.toNat) its.toArray)=(List.replicate k.toNat its).flatten.toArray:=by
  have f0:∀m:Nat,List.foldl (λx1 x2=>x1++x2) #[] (List.replicate m its.toArray)=(List.replicate m its).flatten.toArray:=λm=>by
   have:=xI its m []
   rw[List.nil_append]at this;exact this
  rw[f0];cases its with
  |nil=>simp
  |cons a r'=>rw[if_neg (by simp)]
 refine wpAny_binaryOp_repeat_ref (T := "list") (U := "int") (by decide) ⟨_,e,rfl⟩ (λs'=>typeIs_int s' k t) noFill_list_mul F.fills_int_mul F.slot_int_rmul repeat_list F.slot_int_index.lookup
  (call_meets F.slot_int_rmul (typeIs_int s k t) F.entry_int_rmul (F.args_int_rmul_2 _ _) (int___rmul___int_list k t l its.toArray n)
   ⟨e,rfl,⟨_,e,rfl⟩,call_meets F.slot_list_mul ⟨_,e,rfl⟩ F.entry_list_mul (F.args_list_mul_2 _ _) (AutoListH.list___mul___list_int_3 l its.toArray n k t hfit hcap hlong) ⟨e,?_⟩⟩)
 rw[hnew];exact⟨.ref _,_,I.lnew (t':=s.toks) (r.rep k.toNat) (by rw[dXL,Nat.mul_comm];exact hz),rfl,q _ I.fresh⟩
end L2
namespace Att
open PySem PySem.W PySem.Calls PyProof.Rows
def qX{P:Params}{h:Heap}:∀(ns:List Int) (vs:List Value),WellAll P h vs (ns.map WData.int)->IntsAre vs ns:=by
 intro ns;induction ns with
 |nil=>
  intro vs w;rw[Gk]at w;cases w;exact .nil
 |cons n ns ih=>
  intro vs w;rw[As]at w;cases w with
  |cons a b=>
   cases a;exact .cons _ _ (ih _ b)
def bXK{l:OpenLaw}{n:Nat}(hn:l.most=some n){P:Params}{h:Heap}{args:List WData}{vals:List Value}(hpre:l.row.toRowW.claim.pre args=true)(hwl:WellAll P h vals args):∃a vs ns,vals=[Value.ref a]/\args=[WData.list (ns.map WData.int)]/\h.get? a=some {cls:=.type "list",data:=.seq vs.toArray}/\IntsAre vs ns/\ns.length<=n:=by
 have hsh:WShape.hasAll [] args [.list .int]=true:=(pre_splitW hpre).1
 have hc:l.pre.holds [] {args:=args}=true:=(pre_splitW hpre).2
 obtain⟨d,r,rfl,h1,h2⟩:=hasAllW_cons hsh;obtain rfl:=hasAllW_nil h2;obtain⟨xs,rfl,h3⟩:=hasW_list h1;obtain⟨ns,rfl⟩:=items_int h3;have hlen:ns.length<=n:=by
  unfold OpenLaw.pre at hc;have h4:(WTm.not (.lt (.lit (.int (n:Int))) (.len (.arg 0)))).holds [] {args:=[.list (ns.map .int)]}=true:=by
   have h4:=(holds_andW hc).1
   rw[hn]at h4;exact h4
  have h5:=condW_of h4 (w_not (w_lt w_lit (w_len_list (w_arg rfl))))
  rw[Ab]at h5;refine Nat.le_of_not_lt λq=>?_;have q':(n:Int)<((ns.length:Nat):Int):=by omega
  first
   |(rw[Aj q']at h5;exact absurd h5 (by decide))
   |(simp at h5;omega)
 cases hwl with
 |cons w1 w2=>
  cases w2;cases w1 with
  |list ho hall=>exact⟨_,_,ns,rfl,rfl,ho,qX ns _ hall,hlen⟩
def bXT(l:OpenLaw)(args:List WData):l.row.toRowW.claim.post args (.bool true) args=true:=
 postW_of (r:=l.row.toRowW) (X:=(true==true))
  (show WShape.has [] (.bool true) .bool=true by first|rfl|decide|simp[WShape.has,WShape.arms,WShape.armsAll])
  (show (WTm.eq .res (.lit (.bool true))).value [] {args:=args,res:=some (.bool true),after:=args}=some (.bool (true==true)) from w_eq_bool (w_res rfl) w_lit) rfl
def attach_call{l:OpenLaw}{n:Nat}{q:Program}{loose:List Str}{XP:(Q4)->Heap->Prop}{YP:World->Heap->Prop}{d:DefRec}(hn:l.most=some n)(hdf:d.params.defaults=[])(call:∀(w:World) (s₀ s₁:Shared) (mg mb:Q4) (fa:Addr) (o:Obj) (pm cd doc:Value) (a:Addr) (vs:List Value) (ns:List Int),
 Ground q loose [] XP w s₀ mg mb s₁.heap->YP w s₁.heap->
 s₁.heap.get? fa=some o->o.data=.func (docDef d.name d.params d.body d.scope pm cd doc)->s₁.heap.CodeRec cd d.name->mg d.name=some (.ref fa)->
 s₁.heap.get? a=some {cls:=.type "list",data:=.seq vs.toArray}->IntsAre vs ns->ns.length<=n->s₁.gens=#[]->
 codeAny (model l.prog w) callerA (.call (.ref fa) ⟨[.ref a],[]⟩) (λr s'=>r=.ok (.ret (.bool true))/\OldK s₁.heap s'.heap/\s'.os=s₁.os/\AllBare s'.gens) s₁):WalkO q loose XP YP l.row.toRowW d [] (λf vs=>PySem.call f vs):=by
 intro w s₀ s₁ mg mb G Y fa o pm cd doc dV kV ho hd hcd hD hmg hg args vals as hpre hlay hrd hwl hlo;obtain rfl:dV=.none:=Dflts.none hD hdf;obtain rfl:kV=.none:=Dflts.noKw hD;obtain⟨a,vs,ns,rfl,rfl,hobj,hints,hlen⟩:=bXK hn hpre hwl;refine enter_call (Ep (call w s₀ s₁ mg mb fa o pm cd doc a vs ns G Y ho (fd_plain hd) hcd hmg hobj hints hlen hg) λr s' hq=>?_);obtain⟨rfl,h2,h3,h4⟩:=hq;exact⟨.inl ⟨.bool true,.bool true,[],rfl,λ_=>rfl,.bool true,bXT l _,λ_=>⟨List.Pairwise.nil,λ_ hm=>(nomatch hm)⟩⟩,h2,h3,h4⟩
end Att
namespace L2
open PySem PySem.Spec PyProof.Rows
variable {x:Str}
def wG:∀ {vs:List Value} {ns:List Int},IntsAre vs ns->Vals (ns.map V.int) vs
 |_,_,.nil=>.nil
 |_,_,.cons n t h=>.cons ⟨t,rfl⟩ (wG h)
def jL(s:Stmt):Arguments:=match s with
 |.FunctionDef _ a _ _ _ _ _ _ _ _=>a
 |_=>{posonlyargs:=[],args:=[],vararg:=none,kwonlyargs:=[],kw_defaults:=[],kwarg:=none,defaults:=[]}
def gD(s:Stmt):List Stmt:=match s with
 |.FunctionDef _ _ b _ _ _ _ _ _ _=>b
 |_=>[]
def aM(s:Stmt):Scope:=match s with
 |.FunctionDef _ _ _ _ _ _ sc _ _ _=>sc
 |_=>{kind:=.function,names:=[],isGenerator:=false,isCoroutine:=false}
abbrev CX0:CXT:=λ_ _ _ _ _ _=>False
abbrev E0:XK:=λ_ _ _=>False
def cZG{X:Cx}:iY CX0 X E0:=λ_ _ _ _ _ _ _ h=>h.elim
structure Fun (K:W.Frag) (x qual:Str) (st:Stmt) (f:Addr) (fd:FuncData):Prop where
 ex:∃(oc:Value) (od:Option Addr) (kV doc pm:Value) (an:Option Addr) (cdv ct:Value) (osl:Array (Option Value)),
  fd=W.fnOf x qual (jL st) (gD st) (aM st) .none kV doc pm an cdv ct/\K.lookup f=some ⟨oc,od,.func fd,osl⟩/\W.codeIn K cdv qual=true
 kp:W.keepIn K (.ref f)=true
section
variable {P:Program} {w:World} {K:W.Frag} {mg:Q4} {base:Heap}
def Fun.ok{qual:Str}{st:Stmt}{f:Addr}{fd:FuncData}{N ps:List Str}{k:Nat}{sp:Sp}(F:Fun K x qual st f fd)(S:FnScope N ps (aM st))(len:∀vs H Q E,sp vs H Q E->vs.length=ps.length)(hbody:∀(cdv:Value) (A:Around) (outer:List Env) (s:Shared) (H:Hp) (vs:List V) (Q:VK) (E:XK),Room k (A.deeper (envOfC qual (aM st) s.heap.objs.size f cdv))->sp vs H Q E->
 ∃t,PSs (gN CX0 P w K mg base N qual (aM st) f cdv A outer s H E).nox (gD st) t/\t {nx:=λ_ H'=>Q .non H',rt:=Q} (pA N vs) H):FnOk P w K mg base CX0 (k+1) f fd ps sp:=by
 obtain⟨oc,od,kV,doc,pm,an,cdv,ct,osl,rfl,lk,hcd⟩:=F.ex;refine dZY lk hcd S len λA outer s H vs Q E hr hsp=>?_;obtain⟨t,h,q⟩:=hbody cdv A outer s H vs Q E hr hsp;exact⟨t,h.nox,q⟩
def Fun.binds{qual:Str}{st:Stmt}{f:Addr}{fd:FuncData}{ps:List Str}(F:Fun K x qual st f fd)(h:∀(kV doc pm:Value) (an:Option Addr) (cdv ct:Value) (us:List Value),us.length=ps.length->bindArgs (W.fnOf x qual (jL st) (gD st) (aM st) .none kV doc pm an cdv ct) ⟨us,[]⟩=pure (ps.zip us)):Binds K fd ps []:=by
 obtain⟨oc,od,kV,doc,pm,an,cdv,ct,osl,rfl,lk,hcd⟩:=F.ex;exact .all (h kV doc pm an cdv ct)
def aZ8{qual:Str}{st:Stmt}{f:Addr}{oc:Value}{od an:Option Addr}{osl:Array (Option Value)}{kV doc pm cdv ct:Value}(l:K.lookup f=some ⟨oc,od,.func (W.fnOf x qual (jL st) (gD st) (aM st) .none kV doc pm an cdv ct),osl⟩)(c:W.codeIn K cdv qual=true)(k:W.keepIn K (.ref f)=true):Fun K x qual st f (W.fnOf x qual (jL st) (gD st) (aM st) .none kV doc pm an cdv ct):=⟨⟨oc,od,kV,doc,pm,an,cdv,ct,osl,rfl,l,c⟩,k⟩
end
section
variable {X:Cx}
def pv(i:Nat){pos:Pos}(hN:X.N[i]?=some x:=by rfl)(hv:Vis X.env.scope x:=by first|exact Or.inl rfl|exact Or.inr (Or.inl rfl)|exact Or.inr (Or.inr rfl))(hd:(x==("__debug__" : Str))=false:=by decide)(hcd:(x==("__classdict__" : Str))=false:=by decide):PE X (.Name x pos) (eJJ i):=eXI hN hv hd hcd
end
def fQS{A B:Prop}(h:B):if false=true then A else B:=by
 rw[if_neg Ap];exact h
def fQU{A B:Prop}(h:A):if true=true then A else B:=by
 rw[if_pos rfl];exact h
def eW{c A B:Prop}[Decidable c](h1:c->A)(h2:¬c->B):if c then A else B:=by
 by_cases h:c
 ·rw[if_pos h];exact h1 h
 ·rw[if_neg h];exact h2 h
def Same(H H':Hp):Prop:=∀b o,H b=some o->H' b=some o
def Same.refl(H:Hp):Same H H:=λ_ _ h=>h
def Same.trans{H H1 H2:Hp}(a:Same H H1)(b:Same H1 H2):Same H H2:=λc o h=>b c o (a c o h)
def Same.seq{K:W.Frag}{H H':Hp}{a:Addr}{xs:List V}(e:Same H H')(h:SqL K H a xs):SqL K H' a xs:=by
 rcases h with(h|⟨o,h⟩)|h
 ·exact .inl (.inl (e _ _ h))
 ·exact .inl (.inr ⟨o,e _ _ h⟩)
 ·exact .inr h
end L2
namespace FlT
open PySem PySem.Spec PyProof.Rows
def wK:∀(ys:List Str) (acc:Array Nat),(ys.foldl (λacc p=>acc++(#[]:Array Nat)++p.cps) acc).toList=acc.toList++(ys.map λy=>y.cps.toList).flatten
 |[],acc=>by simp
 |y::r,acc=>by
  rw[List.foldl_cons,wK r];simp
def join_cps(ys:List Str):(Txt.join ⟨#[]⟩ ys).cps.toList=(ys.map λy=>y.cps.toList).flatten:=by
 cases ys with
 |nil=>rfl
 |cons y r=>
  have e:=wK r y.cps
  rw[As,Bz,<-e];rfl
def app_cps(x y:Str):(x++y).cps.toList=x.cps.toList++y.cps.toList:=by
 show (x.cps++y.cps).toList=_
 simp
def str_ext{x y:Str}(h:x.cps.toList=y.cps.toList):x=y:=by
 obtain⟨⟨x⟩⟩:=x;obtain⟨⟨y⟩⟩:=y;cases h;rfl
end FlT
namespace L2
open PySem PySem.Spec PyProof.Rows
variable {A:Around}{C a b dx ea f it q:Addr}{D:Ends}{E:Q0}{Es:St->XK}{H H' H1 Hc Hs:Hp}{K:W.Frag}{M:Model}{N:List Str}{P prog:Program}{Q:VK}{R:It->Hp->Prop}{S:Str->Hp->Prop}{T newId:String}{X:Cx}{apos cpos np pos tp:Pos}{base h h':Heap}{bmB us:List Value}{body:List Stmt}{cl:List (Str×Addr)}{d:Option Addr}{e iter l tg:Expr}{elts es ifs:List Expr}{env:Env}{ep i k' n x1:Nat}{fd:FuncData}{fp ps:List Addr}{fs:List (List V)}{g:TG}{kvs:List (Key×V)}{lo:Int}{mg:Q4}{mk:(Value->Option Addr->St->Hp->Prop)->TS}{name x z:Str}{neg:Bool}{ns:List Int}{o oe:Obj}{outer:List Env}{pins:Q2}{pl:Sem Bool}{r:V->List V->Hp->VK->Prop}{s s1:Shared}{scope:Scope}{sp:Sp}{ta tk:TA}{tb ts:TS}{te tl to tv:TE}{tests:TT}{u:Value}{v y:V}{vals:St->St}{vs:Array Value}{w:World}{xs ys:List V}{σ σ0:St}
def PE.imp{t t':TE}(h:PE X e t)(i:∀σ H Q,t' σ H Q->t σ H Q):PE X e t':=λpins s σ H Q I q=>h pins s σ H Q I (i σ H Q q)
def OpR.imp{f:Value->Value->Sem Value}{r r':R2}(h:OpR X f r)(i:∀x y H Q,r' x y H Q->r x y H Q):OpR X f r':=λpins s σ H x y v u Q I rx ry q=>h pins s σ H x y v u Q I rx ry (i x y H Q q)
def CallR.imp{f:Value}{r r':List V->Hp->VK->Prop}(h:CallR X f r)(i:∀xs H Q,r' xs H Q->r xs H Q):CallR X f r':=λpins s σ H xs us Q I rx q=>h pins s σ H xs us Q I rx (i xs H Q q)
def MtR.imp{id:String}{r r':V->List V->Hp->VK->Prop}(h:MtR X id r)(i:∀x xs H Q,r' x xs H Q->r x xs H Q):MtR X id r':=λpins s σ H x xs v us Q I rx rs q=>h pins s σ H x xs v us Q I rx rs (i x xs H Q q)
def IxR.imp{r r':R2}(h:IxR X r)(i:∀x y H Q,r' x y H Q->r x y H Q):IxR X r':=λvalue slice pins s σ H x y v u Q I rx ry q hs=>h value slice pins s σ H x y v u Q I rx ry (i x y H Q q) hs
def SlR.imp{r r':V->Option Int->Option Int->Hp->VK->Prop}(h:SlR X r)(i:∀x lo hi H Q,r' x lo hi H Q->r x lo hi H Q):SlR X r':=λpins s σ H x v vl vu lo hi sl Q I rx hs pl pu q=>h pins s σ H x v vl vu lo hi sl Q I rx hs pl pu (i x lo hi H Q q)
def Its(z:Str):It:=⟨λi _=>i<z.cps.size,λi H x H'=>H'=H/\∃c,z.cps[i]?=some c/\x=.str ⟨#[c]⟩,λi _=>z.cps.size<=i⟩
def aZI(z:Str)(t:Tok)(it:Addr):Turn P w K tg (Its z) [it] it (λi h=>h.IsStrIter it "str_ascii_iterator" z t i) where
 mem:=by simp
 obj:=λi h st b hb=>by
  have e:b=it:=by simpa using hb
  subst e;obtain⟨o,e,c,d⟩:=st;exact⟨o,e,λv z=>by rw[d]at z;cases z⟩
 keep:=λi h h' st k=>let ⟨o,ho,r⟩:=st;⟨o,k it (by simp) o ho,r⟩
 item:=by
  intro X hP hw hK hc i pins s σ H E I hf st hg;subst hP hw hK;obtain⟨f0,f1,f2,f3,f4,f5⟩:=hf it (by simp)
  have hi:i<z.cps.size:=hg
  refine wpAny_pyNext_ascii_item st (c:=z.cps[i]) (by simp[hi]) λh' st' sb=>?_
  have I1:Inv X pins σ H {s with heap:=h',toks:=s.toks+1}:=I.turned (λb o hb e=>(sb.2 b hb).trans e) f0 f1 f3 f4 f5
  obtain⟨o,e,c,d⟩:=id st';exact⟨_,rfl,wZ (s:={s with heap:=h',toks:=s.toks+1}) e c d (by decide) ⟨.str ⟨#[z.cps[i]]⟩,H,I1,⟨_,rfl⟩,⟨rfl,_,by simp[hi],rfl⟩,st',λb hb=>(hf b hb).1⟩⟩
 done:=by
  intro X hP hw hK hc i pins s σ H E I hf st hg;subst hP hw hK;obtain⟨f0,f1,f2,f3,f4,f5⟩:=hf it (by simp)
  have hi:z.cps.size<=i:=hg
  exact wpAny_pyNext_ascii_end (I.ok.hd hc) st (by simp[hi]) λh' eb=>⟨rfl,I.turned (t':=s.toks) (λb o hb e=>eb b o hb e) f0 f1 f3 f4 f5⟩
 self:=λ_ _ _ _ _ st h=>wpAny_pyIter_striter_ascii st h
def bZH(z:Str)(t:Tok)(it:Addr):Turn P w K tg (Its z) [it] it (λi h=>h.IsStrIter it "str_iterator" z t i) where
 mem:=by simp
 obj:=λi h st b hb=>by
  have e:b=it:=by simpa using hb
  subst e;obtain⟨o,e,c,d⟩:=st;exact⟨o,e,λv z=>by rw[d]at z;cases z⟩
 keep:=λi h h' st k=>let ⟨o,ho,r⟩:=st;⟨o,k it (by simp) o ho,r⟩
 item:=by
  intro X hP hw hK hc i pins s σ H E I hf st hg;subst hP hw hK;obtain⟨f0,f1,f2,f3,f4,f5⟩:=hf it (by simp)
  have hi:i<z.cps.size:=hg
  refine wpAny_pyNext_wide_item st (c:=z.cps[i]) (by simp[hi]) λh' st' sb=>?_
  have I1:Inv X pins σ H {s with heap:=h',toks:=s.toks+1}:=I.turned (λb o hb e=>(sb.2 b hb).trans e) f0 f1 f3 f4 f5
  obtain⟨o,e,c,d⟩:=id st';exact⟨_,rfl,wZ (s:={s with heap:=h',toks:=s.toks+1}) e c d (by decide) ⟨.str ⟨#[z.cps[i]]⟩,H,I1,⟨_,rfl⟩,⟨rfl,_,by simp[hi],rfl⟩,st',λb hb=>(hf b hb).1⟩⟩
 done:=by
  intro X hP hw hK hc i pins s σ H E I hf st hg;subst hP hw hK;obtain⟨f0,f1,f2,f3,f4,f5⟩:=hf it (by simp)
  have hi:z.cps.size<=i:=hg
  exact wpAny_pyNext_wide_end (I.ok.hd hc) st (by simp[hi]) λh' eb=>⟨rfl,I.turned (t':=s.toks) (λb o hb e=>eb b o hb e) f0 f1 f3 f4 f5⟩
 self:=λ_ _ _ _ _ st h=>wpAny_pyIter_striter_wide st h
def dXS(Pv:Nat->St->Hp->Prop)(h0:Pv 0 σ H)(hs:∀i c σ H,z.cps.toList[i]?=some c->Pv i σ H->g (.str ⟨#[c]⟩) σ H λσ2 H2=>tb {D with nx:=Pv (i+1),ct:=Pv (i+1),bk:=D.nx} σ2 H2)(hd:∀σ H,Pv z.cps.toList.length σ H->D.nx σ H):∃W:Nat->Nat->St->Hp->Prop,(∃m,W 0 m σ H)/\∀i m σ H,W i m σ H->
 ((Its z).stop i H/\D.nx σ H)\/((Its z).go i H/\∃N:St->Hp->Prop,(∀σ' H',N σ' H'->∃m',m' < m/\W (i+1) m' σ' H')/\∀x H',(Its z).yld i H x H'->g x σ H' λσ2 H2=>tb {D with nx:=N,ct:=N,bk:=D.nx} σ2 H2):=by
 have hl:z.cps.toList.length=z.cps.size:=by simp
 rw[hl]at hd;refine⟨λi m σ H=>m=z.cps.size-i/\i<=z.cps.size/\Pv i σ H,⟨z.cps.size,by simp,Nat.zero_le _,h0⟩,?_⟩
 rintro i m σ H ⟨rfl,hi,p⟩;by_cases hlt:i<z.cps.size
 ·refine .inr ⟨hlt,Pv (i+1),λσ' H' p'=>⟨z.cps.size-(i+1),by omega,rfl,hlt,p'⟩,λx H' y=>?_⟩
  obtain⟨e,c,hc,hx⟩:=y;subst e hx;exact hs i c σ _ (by simpa using hc) p
 ·have e:i=z.cps.size:=by omega
  subst e;exact .inl ⟨Ai _,hd σ H p⟩
section
variable {b:Expr}
def fQZ:V->Option Int->Option Int->Hp->VK->Prop:=λx lo hi H Q=>∃z,x=.str z/\z.length<=sizeLine/\Q (.str (Txt.slice z lo hi)) H
def eXR:SlR X fQZ:=by
 intro pins s σ H x v vl vu lo hi sl Q I rx hs pl pu h;obtain⟨z,rfl,hz,q⟩:=h;obtain⟨t,rfl⟩:=rx;refine⟨"str",_,PySem.F.slot_str_getitem.lookup,typeIs_str _ _ _,?_⟩;cases pl with
 |none=>
  cases pu with
  |none=>exact Ey (l:=none) (u:=none) (st:=none) hs rfl (post_val_or_str ⟨Bi (Txt.slice_le z _ _) hz,λt' k=>⟨.str (Txt.slice z none none),H,I.tok _,⟨_,rfl⟩,q⟩⟩)
  |int j uj=>exact Ey (l:=none) (u:=some (j,uj)) (st:=none) hs rfl (post_val_or_str ⟨Bi (Txt.slice_le z _ _) hz,λt' k=>⟨.str (Txt.slice z none (some j)),H,I.tok _,⟨_,rfl⟩,q⟩⟩)
 |int i ui=>
  cases pu with
  |none=>exact Ey (l:=some (i,ui)) (u:=none) (st:=none) hs rfl (post_val_or_str ⟨Bi (Txt.slice_le z _ _) hz,λt' k=>⟨.str (Txt.slice z (some i) none),H,I.tok _,⟨_,rfl⟩,q⟩⟩)
  |int j uj=>exact Ey (l:=some (i,ui)) (u:=some (j,uj)) (st:=none) hs rfl (post_val_or_str ⟨Bi (Txt.slice_le z _ _) hz,λt' k=>⟨.str (Txt.slice z (some i) (some j)),H,I.tok _,⟨_,rfl⟩,q⟩⟩)
def cJC:V->List V->Hp->VK->Prop:=λx vs H Q=>∃z y i rest,x=.str z/\vs=[.str y]/\Builtin.Str.occurrences z y 0 z.length 1=i::rest/\Q (.int ((i:Nat):Int)) H
def mt_index:MtR X "str.index" cJC:=by
 intro pins s σ H x vs v us Q I rx rv h;obtain⟨z,y,i,rest,rfl,rfl,ho,q⟩:=h;obtain⟨t,rfl⟩:=rx;obtain⟨u,rfl,ru⟩:=rv.one;obtain⟨t',rfl⟩:=ru;exact SC.index ho ⟨.int i,H,I.tok _,⟨_,rfl⟩,q⟩
def tB{ys:List Str}:∀ {us:List Value},Vals (ys.map V.str) us->StrsAre us ys:=by
 induction ys with
 |nil=>intro us r;rw[Gk]at r;cases r;exact .nil
 |cons n ns ih=>
  intro us r;rw[As]at r;cases r with
  |cons r1 r2=>
   obtain⟨t,e⟩:=r1;subst e;exact .cons n t (ih r2)
def eJI(K:W.Frag):V->List V->Hp->VK->Prop:=λx vs H Q=>∃z p ys,x=.str z/\vs=[.ref p]/\SqL K H p (ys.map V.str)/\(ys.map (·.length)).sum+ys.length*z.length<=16777216/\Q (.str (Txt.join z ys)) H
def mt_join:MtR X "str.join" (eJI X.K):=by
 intro pins s σ H x vs v us Q I rx rv h;obtain⟨z,p,ys,rfl,rfl,hp,hz,q⟩:=h;obtain⟨t,rfl⟩:=rx;obtain⟨u,rfl,ru⟩:=rv.one;cases ru;obtain⟨its,r,pl,_⟩:=I.list hp;exact join_list pl.isList (by simpa using tB r) hz λt' k=>⟨.str (Txt.join z ys),H,I.tok _,⟨_,rfl⟩,q⟩
def vB:CallR X (.type "int") (λxs H Q=>∃x n,xs=[.str x]/\PySem.intText? x=some n/\x.length<=640/\Q (.int n) H):=by
 intro pins s σ H xs us Q I r h;obtain⟨x,n,rfl,hn,hl,q⟩:=h;obtain⟨u,rfl,t,rfl⟩:=dR r;exact W.KIN.call_text hn hl ⟨.int n,H,I.tok _,⟨_,rfl⟩,q⟩
def call_isinst:CallR X (.builtin "isinstance") (λxs H Q=>∃x T t b,xs=[x,.ty T]/\TyOf X.K H x t/\W.kitOne X.K t (.type T)=some b/\Q (.bl b) H):=by
 intro pins s σ H xs us Q I r h;obtain⟨x,T,t,b,rfl,ty,e,q⟩:=h;obtain⟨u,w',rfl,rx,ry⟩:=vW r;cases (show w'=Value.type T from ry);exact bX3 I rx ty e λtk=>⟨.bl b,H,I.tok _,rfl,q⟩
def zR{bs:List Bool}:∀ {us:List Value},Vals (bs.map V.bl) us->LSm.BoolsAre us bs:=by
 induction bs with
 |nil=>intro us r;rw[Gk]at r;cases r;exact .nil
 |cons n ns ih=>
  intro us r;rw[As]at r;cases r with
  |cons r1 r2=>
   cases r1;exact .cons n (ih r2)
def vE(hc:X.calm=true):CallR X (.builtin "all") (λxs H Q=>∃(p:Addr) (bs:List Bool),xs=[.ref p]/\SqL X.K H p (bs.map V.bl)/\Q (.bl (bs.all id)) H):=by
 intro pins s σ H xs us Q I r h;obtain⟨p,bs,rfl,hp,q⟩:=h;obtain⟨u,rfl,ru⟩:=dR r;cases ru;obtain⟨its,rv,pl,hz⟩:=I.list hp;have hb:=zR rv
 have hl:=pl.isList
 have hlt:p<s.heap.objs.size:=by obtain⟨_,e,_⟩:=hl;exact Av e
 refine call_all_walk (Fn hl ?_);refine⟨s.heap.objs.size,[s.heap.objs.size,p],[s.heap.objs.size],its.toArray.size,_,_,λi=>(bs[i]?).getD true,rfl,Walks.list (A:=X.A.in1) (I.ok.hd hc) _ p (Bj hlt) its.toArray,
  ⟨⟨_,Ay _ rfl,rfl,rfl⟩,hl.push _⟩,λi v s' Q' E' hP hQ=>?_,λh' tk hk=>?_⟩
 ·obtain⟨b,e,rfl⟩:=hb.get i v (by simpa using hP)
  simp only[e,Option.getD_some]at hQ;exact Gi hQ
 ·have e:((List.range its.toArray.size).all λi=>(bs[i]?).getD true)=bs.all id:=by
   rw[Bk,hb.length];exact LSm.range_all bs
  rw[e];exact⟨.bl (bs.all id),H,I.kept (LSm.kept_iter hk),rfl,q⟩
def pU(xs ys:List V):Bool:=xs.length==ys.length&&(List.range xs.length).all λj=>eqV (xs.getD j .non) (ys.getD j .non)
def Vals.getD_rel{j:Nat}(r:Vals xs us)(h:j<us.length):RelV (xs.getD j .non) us[j]:=by
 have hl:=r.length
 have hx:j<xs.length:=by omega
 obtain⟨u,hu,ru⟩:=r.get (Aa hx);rw[Aa h]at hu;cases hu;rw[Ac,Aa hx];exact ru
def xB(h:xs.all cU=true)(j:Nat):cU (xs.getD j .non)=true:=by
 rw[Ac];cases e:xs[j]? with
 |none=>rfl
 |some x=>exact Dt.mp h x (An e)
def eZS(K:W.Frag)(neg:Bool):R2:=λx y H Q=>∃p q xs ys,x=.ref p/\y=.ref q/\SqL K H p xs/\SqL K H q ys/\xs.all cU=true/\ys.all cU=true/\Q (.bl (if neg then !pU xs ys else pU xs ys)) H
def cXM(h:xs.length≠ys.length):pU xs ys=false:=by
 unfold pU;rw[Cr.mpr h,Bool.false_and]
def bXX(h:xs.length=ys.length):pU xs ys=(List.range xs.length).all λj=>eqV (xs.getD j .non) (ys.getD j .non):=by
 unfold pU;rw[h,Fv,Bool.true_and]
def aXY(hu:X.A.units<cLine):OpR X (compareOp .Eq) (eZS X.K false):=by
 intro pins s σ H x y v u Q I rx ry h;obtain⟨p,q,xs,ys,rfl,rfl,hp,hq,fx,fy,k⟩:=h;cases rx;cases ry;obtain⟨its,r1,l1,_⟩:=I.list hp;obtain⟨its2,r2,l2,_⟩:=I.list hq;have e1:=r1.length
 have e2:=r2.length
 by_cases hl:xs.length=ys.length
 ·refine SeqAt.eq_listAt (e:=λj=>eqV (xs.getD j .non) (ys.getD j .non)) l1.isList l2.isList (by simp only[List.size_toArray];omega) hu (λj h1 h2=>?_) ?_
  ·have h1':j<its.length:=by simpa using h1
   have h2':j<its2.length:=by simpa using h2
   simpa using yE (A:=X.A.in1) (s:=s) (r1.getD_rel h1') (r2.getD_rel h2') (xB fx j) (xB fy j)
  ·refine⟨.bl (pU xs ys),H,I,?_,k⟩;rw[bXX hl];simp only[List.size_toArray,<-e1];rfl
 ·refine SeqAt.eq_list_lengthsAt l1.isList l2.isList (by simp only[List.size_toArray,bne_iff_ne];omega) hu ⟨.bl (pU xs ys),H,I,?_,k⟩
  rw[cXM hl];rfl
end
def rdO:Option HO->Option (List V)
 |some (.lst xs)=>some xs
 |some (.frz _ (.lst xs))=>some xs
 |_=>none
def rdL(H:Hp)(a:Addr):Option (List V):=rdO (H a)
def bF(h:rdL H a=some xs):SqL K H a xs:=by
 unfold rdL rdO at h;split at h
 ·cases h;exact .inl (.inl (by assumption))
 ·cases h;exact .inl (.inr ⟨_,by assumption⟩)
 ·cases h
def aR(h:H a=some (.lst xs)):rdL H a=some xs:=by unfold rdL;rw[h];rfl
def bO:rdL (upd H a (.lst xs)) a=some xs:=aR aE
def aZN{o:HO}(h:b≠a):rdL (upd H a o) b=rdL H b:=by unfold rdL;rw[aJ h]
def aO{H:Hp}(e:Same H H')(h:rdL H a=some xs):rdL H' a=some xs:=by
 unfold rdL at h ⊢;cases q:H a with
 |none=>rw[q]at h;cases h
 |some o=>rw[e a o q,<-q];exact h
def aG{p:Addr}(h:H p=none)(o:HO):Same H (upd H p o):=λb u q=>by rw[aJ (bL q h)];exact q
def iB(H:Hp)(a:Addr):Option (List V):=match H a with|some (.lst xs)=>some xs|_=>none
def bW(h:H a=some (.lst xs)):iB H a=some xs:=by unfold iB;rw[h]
def lU(h:iB H a=some xs):H a=some (.lst xs):=by
 unfold iB at h;split at h
 ·cases h;assumption
 ·cases h
def pQ:iB (upd H a (.lst xs)) a=some xs:=bW aE
def cJW{o:HO}(h:b≠a):iB (upd H a o) b=iB H b:=by unfold iB;rw[aJ h]
def mV(H:Hp)(a:Addr):Option (List V):=match H a with|some (.tup xs)=>some xs|_=>none
def cF(h:H a=some (.tup xs)):mV H a=some xs:=by unfold mV;rw[h]
def gS(h:mV H a=some xs):H a=some (.tup xs):=by
 unfold mV at h;split at h
 ·cases h;assumption
 ·cases h
def pH:mV (upd H a (.tup xs)) a=some xs:=cF aE
section
variable {a b c:Expr} {ta tb:TE}
def dQ1(i:Nat):TE:=λσ H Q=>match σ[i]? with|some (some v)=>Q v H|_=>False
def mv(i:Nat)(hN:X.N[i]?=some x:=by rfl)(hv:Vis X.env.scope x:=by first|exact Or.inl rfl|exact Or.inr (Or.inl rfl)|exact Or.inr (Or.inr rfl))(hd:(x==("__debug__" : Str))=false:=by decide)(hcd:(x==("__classdict__" : Str))=false:=by decide):PE X (.Name x pos) (dQ1 i):=(pv i hN hv hd hcd).imp λσ H Q q=>by
 unfold dQ1 at q;split at q
 ·exact⟨_,by assumption,q⟩
 ·exact q.elim
def mI(g:Int->Int->V):R2:=λx y H Q=>match x,y with|.int i,.int j=>Q (g i j) H|_,_=>False
def xS{g:Int->Int->V}{x:V}(q:mI g x y H Q):rI0 g x y H Q:=by
 unfold mI at q;split at q
 ·exact⟨_,_,rfl,rfl,q⟩
 ·exact q.elim
def mIC(C:Int->Int->Prop)(g:Int->Int->V):R2:=λx y H Q=>match x,y with|.int i,.int j=>C i j/\Q (g i j) H|_,_=>False
def xM{C:Int->Int->Prop}{g:Int->Int->V}{x:V}(q:mIC C g x y H Q):rI C g x y H Q:=by
 unfold mIC at q;split at q
 ·exact⟨_,_,rfl,rfl,q.1,q.2⟩
 ·exact q.elim
def bX0:R2:=λx y H Q=>match x,y with
 |.int i,.int j=>Q (.int (i+j)) H
 |.str z,.str y=>z.length+y.length<=sizeLine/\Q (.str (z++y)) H
 |.ref p,.ref q=>(match iB H p,iB H q with
  |some xs,some zs=>xs.length+zs.length<=sizeLine/\∀r,H r=none->Q (.ref r) (upd H r (.lst (xs++zs)))
  |_,_=>False)
 |_,_=>False
def cB:OpR X (binaryOp .Add) bX0:=by
 intro pins s σ H x y v u Q I rx ry q;unfold bX0 at q;split at q
 ·exact eXS pins s σ H _ _ v u Q I rx ry ⟨_,_,rfl,rfl,q⟩
 ·exact aJF pins s σ H _ _ v u Q I rx ry ⟨_,_,rfl,rfl,q.1,q.2⟩
 ·split at q
  ·exact dJ8 pins s σ H _ _ v u Q I rx ry ⟨_,_,_,_,rfl,rfl,lU (by assumption),lU (by assumption),q.1,q.2⟩
  ·exact q.elim
 ·exact q.elim
def jO:OpR X (binaryOp .Sub) (mI λi j=>.int (i-j)):=op_sub.imp λ_ _ _ _ q=>xS q
def mF:OpR X (binaryOp .Mult) (mIC CMul λi j=>.int (i*j)):=op_mul.imp λ_ _ _ _ q=>xM q
def cV:OpR X (binaryOp .Mod) (mIC (λ_ j=>0<j) λi j=>.int (i%j)):=op_mod.imp λ_ _ _ _ q=>xM q
def fS:OpR X (binaryOp .FloorDiv) (mIC eJ5 λi j=>.int (i / j)):=op_fdiv.imp λ_ _ _ _ q=>xM q
def zF:OpR X (compareOp .Lt) (mI λi j=>.bl (decide (i<j))):=op_lt.imp λ_ _ _ _ q=>xS q
def aXQ:OpR X (compareOp .Gt) (mI λi j=>.bl (decide (j<i))):=op_gt.imp λ_ _ _ _ q=>xS q
def eZ6:OpR X (compareOp .GtE) (mI λi j=>.bl (decide (j<=i))):=op_ge.imp λ_ _ _ _ q=>xS q
def eQI:V->Hp->VK->Prop:=λx H Q=>match x with|.int i=>Q (.int (-i)) H|_=>False
def cZX:UnR X (unaryOp .USub) eQI:=λpins s σ H x v Q I rx q=>by
 unfold eQI at q;split at q
 ·exact eXJ pins s σ H _ v Q I rx ⟨_,rfl,q⟩
 ·exact q.elim
def mEq:R2:=λx y H Q=>dQK x y=true/\Q (.bl (decide (x=y))) H
def hJ:OpR X (compareOp .Eq) mEq:=eJB
def mNe:R2:=λx y H Q=>dQK x y=true/\Q (.bl (!decide (x=y))) H
def aQL:OpR X (compareOp .NotEq) mNe:=eZ9
def bZR(neg:Bool):R2:=λx y H Q=>match x,y with
 |.ref p,.ref q=>(match rdL H p,rdL H q with
  |some xs,some ys=>xs.all cU=true/\ys.all cU=true/\Q (.bl (if neg then !pU xs ys else pU xs ys)) H
  |_,_=>False)
 |_,_=>False
def cQ2{x:V}(q:bZR neg x y H Q):eZS K neg x y H Q:=by
 unfold bZR at q;split at q
 ·split at q
  ·exact⟨_,_,_,_,rfl,rfl,bF (by assumption),bF (by assumption),q.1,q.2.1,q.2.2⟩
  ·exact q.elim
 ·exact q.elim
def dZA(hu:X.A.units<cLine):OpR X (compareOp .Eq) (bZR false):=(aXY hu).imp λ_ _ _ _ q=>cQ2 q
def eXU:R2:=λx y H Q=>match y with|.non=>Q (.bl (decide (x=.non))) H|_=>False
def aQ9:OpR X (compareOp .Is) eXU:=op_isN.imp λ_ y _ _ q=>by
 unfold eXU at q;split at q
 ·exact⟨rfl,q⟩
 ·exact q.elim
def cXU:R2:=λx y H Q=>match y with|.non=>Q (.bl (!decide (x=.non))) H|_=>False
def pE:OpR X (compareOp .IsNot) cXU:=op_notN.imp λ_ y _ _ q=>by
 unfold cXU at q;split at q
 ·exact⟨rfl,q⟩
 ·exact q.elim
def subIn(y x:Str):Bool:=!(Builtin.Str.occurrences x y 0 x.length 1).isEmpty
def pR(x:Str)(c:Nat):subIn ⟨#[c]⟩ x=decide (c∈x.cps.toList):=PySem.StrLaws.found_one x c
def cZ2(neg:Bool):R2:=λx y H Q=>match x,y with|.str i,.str j=>Q (.bl (if neg then !subIn i j else subIn i j)) H|_,_=>False
def bQL:OpR X (compareOp .In) (cZ2 false):=op_in_str.imp λ_ _ _ _ q=>by
 unfold cZ2 at q;split at q
 ·exact⟨_,_,rfl,rfl,q⟩
 ·exact q.elim
def cQ3:OpR X (compareOp .NotIn) (cZ2 true):=op_notin_str.imp λ_ _ _ _ q=>by
 unfold cZ2 at q;split at q
 ·exact⟨_,_,rfl,rfl,q⟩
 ·exact q.elim
def bJB(neg:Bool):R2:=λx y H Q=>match y with
 |.ref p=>(match rdL H p with|some xs=>cU x=true/\xs.all cU=true/\Q (.bl (if neg then !inV x xs else inV x xs)) H|none=>False)
 |_=>False
def cZD{x:V}(q:bJB neg x y H Q):rIn K neg x y H Q:=by
 unfold bJB at q;split at q
 ·split at q
  ·exact⟨_,_,rfl,.inl (bF (by assumption)),q.1,q.2.1,q.2.2⟩
  ·exact q.elim
 ·exact q.elim
def uA:OpR X (compareOp .NotIn) (bJB true):=op_notIn_seq.imp λ_ _ _ _ q=>cZD q
def mB(Q:Bool->Hp->Prop):VK:=λx H=>match x with|.bl k=>Q k H|_=>False
def dX6{Q:Bool->Hp->Prop}{x:V}(q:mB Q x H):∃k,x=.bl k/\Q k H:=by
 unfold mB at q;split at q
 ·exact⟨_,rfl,q⟩
 ·exact q.elim
def dZX(t:TE):TT:=λσ H Q=>t σ H (mB Q)
def aY{op:CmpOp}{r:R2}(ho:OpR X (compareOp op) r)(ha:PE X a ta)(hb:PE X b tb)(hm:behindInMarks op b=false):PT X (.Compare a [op] [b] pos) (dZX (tOp r ta tb)):=by
 intro pins s σ H Q I h;refine wpAny_isTrue_Compare1 (thn (ha pins s σ H _ I h) λv s1 ⟨x,H1,I1,r1,q1⟩=>thn (hb pins s1 σ H1 _ I1 q1) λu s2 ⟨y,H2,I2,r2,q2⟩=>
  thn (ho pins s2 σ H2 x y v u _ I2 r1 r2 q2) λc s3 ⟨z,H3,I3,r3,q⟩=>?_) hm
 obtain⟨k,e,q3⟩:=dX6 q;subst e;cases r3;exact Gi ⟨H3,I3,q3⟩
def bZY(Q:Bool->Hp->Prop):VK:=λx H=>match x with
 |.non=>Q false H
 |.bl k=>Q k H
 |.int i=>Q (i != 0) H
 |.str y=>y.length<=sizeLine/\Q ((y.length:Int) != 0) H
 |.ref p=>(match rdL H p with
  |some xs=>Q (!xs.isEmpty) H
  |none=>(match H p with|some (.dK kvs)=>Q (!kvs.isEmpty) H|_=>False))
 |_=>False
def dXT{Q:Bool->Hp->Prop}{x:V}(q:bZY Q x H):∃k,eZR K x H k/\Q k H:=by
 unfold bZY at q;split at q
 ·exact⟨_,rfl,q⟩
 ·exact⟨_,rfl,q⟩
 ·exact⟨_,rfl,q⟩
 ·exact⟨_,⟨q.1,rfl⟩,q.2⟩
 ·split at q
  ·exact⟨_,.inl ⟨_,bF (by assumption),rfl⟩,q⟩
  ·split at q
   ·exact⟨_,.inr (.inr ⟨_,by assumption,rfl⟩),q⟩
   ·exact q.elim
 ·exact q.elim
def cXX(t:TE):TT:=λσ H Q=>t σ H (bZY Q)
def cX(ha:PE X a ta)(he:∀whole,isTrue a X.env whole=(do let v <-whole;standAt a.pos;holding [v] (truthy v)):=by intro _;rfl):PT X a (cXX ta):=by
 intro pins s σ H Q I h;refine isTrue_plain (thn (ha pins s σ H _ I h) λv s1 ⟨x,H1,I1,r1,q1⟩=>xV pins s1 σ H1 x v Q I1 r1 (dXT q1)) (he _)
variable {rest:List Expr}
def dZB(ta tb:TE):TE:=λσ H Q=>ta σ H (mB λc H1=>if c=true then tb σ H1 Q else Q (.bl false) H1)
def sQ(ha:PE X a ta)(hb:PE X (.BoolOp .And (b::rest) pos) tb):PE X (.BoolOp .And (a::b::rest) pos) (dZB ta tb):=by
 intro pins s σ H Q I h;refine BoolOp_and (thn (ha pins s σ H _ I h) λv s1 ⟨x,H1,I1,r1,q1⟩=>?_);obtain⟨c,rfl,q1⟩:=dX6 q1;cases r1;refine Gi ?_;cases c with
 |true=>exact hb pins s1 σ H1 Q I1 q1
 |false=>exact⟨.bl false,H1,I1,rfl,q1⟩
def mIx:R2:=λx y H Q=>match x,y with
 |.str z,.int i=>z.length<=sizeLine/\(match atI z.cps.toList i with|some c=>Q (.str ⟨#[c]⟩) H|none=>False)
 |.ref p,.int i=>(match rdL H p with
  |some xs=>(match atI xs i with|some v=>Q v H|none=>False)
  |none=>(match mV H p with
   |some xs=>(match atI xs i with|some v=>Q v H|none=>False)
   |none=>False))
 |_,_=>False
def cJ9{x:V}(q:mIx x y H Q):rIx K x y H Q:=by
 unfold mIx at q;split at q
 ·obtain⟨h1,q⟩:=q;split at q
  ·exact .inr (.inr ⟨_,_,_,rfl,rfl,h1,by assumption,q⟩)
  ·exact q.elim
 ·split at q
  ·split at q
   ·exact .inl ⟨_,_,_,_,rfl,rfl,bF (by assumption),by assumption,q⟩
   ·exact q.elim
  ·split at q
   ·split at q
    ·exact .inr (.inl ⟨_,_,_,_,rfl,rfl,SqT.of (gS (by assumption)),by assumption,q⟩)
    ·exact q.elim
   ·exact q.elim
 ·exact q.elim
def bS:IxR X mIx:=ix_seq.imp λ_ _ _ _ q=>cJ9 q
def mSl:V->Option Int->Option Int->Hp->VK->Prop:=λx lo hi H Q=>match x with
 |.str z=>z.length<=sizeLine/\Q (.str (Txt.slice z lo hi)) H
 |.ref p=>(match rdL H p with|some xs=>∀r,H r=none->Q (.ref r) (upd H r (.lst (qH xs lo hi)))|none=>False)
 |_=>False
def eZW:SlR X mSl:=(sl_list.or eXR).imp λ_ _ _ _ _ q=>by
 unfold mSl at q;split at q
 ·exact .inr ⟨_,rfl,q.1,q.2⟩
 ·split at q
  ·exact .inl ⟨_,_,rfl,bF (by assumption),q⟩
  ·exact q.elim
 ·exact q.elim
def xJ(Q:Option Int->Hp->Prop):VK:=λx H1=>match x with|.int i=>Q (some i) H1|_=>False
def dZC(t:TE):TO:=λσ H Q=>t σ H (xJ Q)
def gB(h:PE X e te):PO X (some e) (dZC te):=by
 intro pins s σ H Q I hw;rw[evalPart_some];refine thn (h pins s σ H _ I hw) λu s1 ⟨x,H1,I1,r1,q1⟩=>?_;unfold xJ at q1;split at q1
 ·obtain⟨t,rfl⟩:=r1;exact⟨_,H1,I1,.int _ t,q1⟩
 ·exact q1.elim
def aXS:List V->Hp->VK->Prop:=λxs H Q=>match xs with
 |[.str z]=>z.length<=sizeLine/\Q (.int z.length) H
 |[.ref p]=>(match rdL H p with
  |some xs=>Q (.int xs.length) H
  |none=>(match mV H p with|some xs=>Q (.int xs.length) H|none=>False))
 |_=>False
def dG:CallR X (.builtin "len") aXS:=call_len.imp λ_ _ _ q=>by
 unfold aXS at q;split at q
 ·exact⟨_,_,rfl,⟨q.1,rfl⟩,q.2⟩
 ·split at q
  ·exact⟨_,_,rfl,.inl ⟨_,bF (by assumption),rfl⟩,q⟩
  ·split at q
   ·exact⟨_,_,rfl,.inr ⟨_,SqT.of (gS (by assumption)),rfl⟩,q⟩
   ·exact q.elim
 ·exact q.elim
def dJN:List V->Hp->VK->Prop:=λxs H Q=>match xs with|[.int i,.int j]=>Q (.int (if j<i then j else i)) H|_=>False
def eZA(hc:X.calm=true):CallR X (.builtin "min") dJN:=(bZN hc).imp λ_ _ _ q=>by
 unfold dJN at q;split at q
 ·exact⟨_,_,rfl,q⟩
 ·exact q.elim
def cJV:List V->Hp->VK->Prop:=λxs H Q=>match xs with
 |[.int i]=>Q (.int i) H
 |[.str x]=>(match PySem.intText? x with|some n=>x.length<=640/\Q (.int n) H|none=>False)
 |_=>False
def aJ4:CallR X (.type "int") cJV:=(call_int1.or vB).imp λ_ _ _ q=>by
 unfold cJV at q;split at q
 ·exact .inl (.inl ⟨_,rfl,q⟩)
 ·split at q
  ·exact .inr ⟨_,_,rfl,by assumption,q.1,q.2⟩
  ·exact q.elim
 ·exact q.elim
def aJ1:List V->Hp->VK->Prop:=λxs H Q=>match xs with
 |[.ref p]=>(match rdL H p with
  |some ys=>∀l,H l=none->Q (.ref l) (upd H l (.lst ys))
  |none=>(match mV H p with|some ys=>∀l,H l=none->Q (.ref l) (upd H l (.lst ys))|none=>False))
 |_=>False
def lG:CallR X (.type "list") aJ1:=call_list_of.imp λ_ _ _ q=>by
 unfold aJ1 at q;split at q
 ·split at q
  ·exact⟨_,_,rfl,.inl (bF (by assumption)),q⟩
  ·split at q
   ·exact⟨_,_,rfl,.inr (SqT.of (gS (by assumption))),q⟩
   ·exact q.elim
 ·exact q.elim
def aZK(T:String)(x:V)(H:Hp)(P:Prop):Prop:=match x with
 |.str _=>T="str"/\P
 |.ref p=>(match rdL H p with|some _=>T="list"/\P|none=>False)
 |_=>False
def bZ9{K:W.Frag}{x:V}{P:Prop}(q:aZK T x H P):tyV K T x H/\P:=by
 unfold aZK at q;split at q
 ·exact⟨q.1,q.2⟩
 ·split at q
  ·exact⟨.inl ⟨q.1,_,bF (by assumption)⟩,q.2⟩
  ·exact q.elim
 ·exact q.elim
def dZ5(T:String)(r:V->List V->Hp->VK->Prop)(to:TE)(t:TA):TE:=λσ H Q=>to σ H λx H1=>aZK T x H1 (t σ H1 λxs H2=>r x xs H2 Q)
variable {o:Expr} {t:TA} {id:String}
def dA(pa:PlainAttrs T)(slot:Slot T name id)(hty:typeOf (.builtin id)=pure (.type "method_descriptor"))(hm:MtR X id r)(ho:PE X o to)(ha:PA X (e::es) t)(hbase:attributeBase o name X.env (eval o X.env)=eval o X.env:=by rfl)(hfew:((backTo cpos (starEach (e::es) X.env)).all (λx=>!x.1)&&(backToKw cpos (keywordEach [] X.env)).all (λx=>x.1.isSome)
 && decide ((e::es).length+([]:List Keyword).length+(if ([]:List Keyword).isEmpty then 0 else 1)<30))=true:=by rfl)(hline:(apos.endLine==cpos.line)=true:=by rfl)(hs:starEach (e::es) X.env=(false,eval e X.env)::starEach es X.env:=by rfl)(hplain:(backTo cpos (starEach es X.env)).any (·.1)=false:=by rfl):PE X (.Call (.Attribute o name apos) (e::es) [] cpos) (dZ5 T r to t):=by
 intro pins s σ H Q I h;refine Gm hbase hfew hline rfl (thn (ho pins s σ H _ I h) λv s1 ⟨x,H1,I1,r1,q⟩=>?_);obtain⟨ty,q1⟩:=bZ9 (K:=X.K) q;obtain⟨h1,h2⟩:=eQE I1 r1 ty;refine⟨T,id,pa,slot,hty,h1,h2,?_⟩;have hA:=ha cpos pins s1 σ H1 _ I1 q1
 rw[hs]at hA ⊢;refine Fe (by show (false || (backTo cpos (starEach es X.env)).any (·.1))=false;rw[hplain]<;>rfl) (Ft ?_)
 exact thn hA λus s2 ⟨vs,H2,I2,r2,q2⟩=>hm pins s2 σ H2 x vs v us Q I2 r1 r2 q2
def dQO:V->List V->Hp->VK->Prop:=λx vs H Q=>match x,vs with
 |.ref l,[y]=>(match iB H l with|some xs=>xs.length<sizeLine/\Q .non (upd H l (.lst (xs++[y])))|none=>False)
 |_,_=>False
def aXH:MtR X "list.append" dQO:=MtR.imp (r:=aJZ) vP λ_ _ _ _ q=>by
 unfold dQO at q;split at q
 ·split at q
  ·exact⟨_,_,_,rfl,rfl,lU (by assumption),q.1,q.2⟩
  ·exact q.elim
 ·exact q.elim
def zL:V->List V->Hp->VK->Prop:=λx vs H Q=>match x,vs with
 |.str z,[.str y]=>(match Builtin.Str.occurrences z y 0 z.length 1 with|i::_=>Q (.int ((i:Nat):Int)) H|[]=>False)
 |_,_=>False
def cJL:MtR X "str.index" zL:=mt_index.imp λ_ _ _ _ q=>by
 unfold zL at q;split at q
 ·split at q
  ·exact⟨_,_,_,_,rfl,rfl,by assumption,q⟩
  ·exact q.elim
 ·exact q.elim
def nA:List V->Option (List Str)
 |[]=>some []
 |.str z::r=>(nA r).map (z::·)
 |_=>none
def aZ7(ys:List Str):nA (ys.map V.str)=some ys:=by
 induction ys with
 |nil=>rfl
 |cons y r ih=>rw[As,nA,ih];rfl
def vN:∀ {xs:List V} {ys:List Str},nA xs=some ys->xs=ys.map V.str
 |[],_,h=>by cases h;rfl
 |.str z::r,_,h=>by
  rw[nA]at h;cases e:nA r with
  |none=>rw[e]at h;cases h
  |some l=>rw[e]at h;cases h;rw[vN e];rfl
 |.non::_,_,h=>by cases h
 |.bl _::_,_,h=>by cases h
 |.int _::_,_,h=>by cases h
 |.byt _::_,_,h=>by cases h
 |.flt _::_,_,h=>by cases h
 |.ref _::_,_,h=>by cases h
 |.ty _::_,_,h=>by cases h
def aJV:V->List V->Hp->VK->Prop:=λx vs H Q=>match x,vs with
 |.str z,[.ref p]=>(match rdL H p with
  |some xs=>(match nA xs with|some ys=>(ys.map (·.length)).sum+ys.length*z.length<=16777216/\Q (.str (Txt.join z ys)) H|none=>False)
  |none=>False)
 |_,_=>False
def dJQ:MtR X "str.join" aJV:=mt_join.imp λ_ _ _ _ q=>by
 unfold aJV at q;split at q
 ·split at q
  ·split at q
   ·have e:=vN (by assumption)
    subst e;exact⟨_,_,_,rfl,rfl,bF (by assumption),q.1,q.2⟩
   ·exact q.elim
  ·exact q.elim
 ·exact q.elim
def nF:List V->Option (List Bool)
 |[]=>some []
 |.bl z::r=>(nF r).map (z::·)
 |_=>none
def aX1(ys:List Bool):nF (ys.map V.bl)=some ys:=by
 induction ys with
 |nil=>rfl
 |cons y r ih=>rw[As,nF,ih];rfl
def vZ:∀ {xs:List V} {ys:List Bool},nF xs=some ys->xs=ys.map V.bl
 |[],_,h=>by cases h;rfl
 |.bl z::r,_,h=>by
  rw[nF]at h;cases e:nF r with
  |none=>rw[e]at h;cases h
  |some l=>rw[e]at h;cases h;rw[vZ e];rfl
 |.non::_,_,h=>by cases h
 |.str _::_,_,h=>by cases h
 |.int _::_,_,h=>by cases h
 |.byt _::_,_,h=>by cases h
 |.flt _::_,_,h=>by cases h
 |.ref _::_,_,h=>by cases h
 |.ty _::_,_,h=>by cases h
def dQ7:List V->Hp->VK->Prop:=λvs H Q=>match vs with
 |[.ref p]=>(match rdL H p with
  |some xs=>(match nF xs with|some bs=>Q (.bl (bs.all _root_.id)) H|none=>False)
  |none=>False)
 |_=>False
def dZQ(hc:X.calm=true):CallR X (.builtin "all") dQ7:=(vE hc).imp λ_ _ _ q=>by
 unfold dQ7 at q;split at q
 ·split at q
  ·split at q
   ·have e:=vZ (by assumption)
    subst e;exact⟨_,_,rfl,bF (by assumption),q⟩
   ·exact q.elim
  ·exact q.elim
 ·exact q.elim
def tyN(x:V)(H:Hp):Option String:=match x with
 |.non=>some "NoneType"
 |.bl _=>some "bool"
 |.int _=>some "int"
 |.str _=>some "str"
 |.ref p=>(match H p with
  |some (.lst _)=>some "list"
  |some (.frz _ (.lst _))=>some "list"
  |some (.tup _)=>some "tuple"
  |some (.dK _)=>some "dict"
  |_=>none)
 |_=>none
def dJM{x:V}{t:String}(h:tyN x H=some t):TyOf K H x (.type t):=by
 unfold tyN at h;split at h
 ·cases h;exact .non
 ·cases h;exact .bl _
 ·cases h;exact .int _
 ·cases h;exact .str _
 ·split at h
  ·cases h;exact .lst (by assumption)
  ·cases h;exact .frz (by assumption)
  ·cases h;exact .tup (by assumption)
  ·cases h;exact .dK (by assumption)
  ·cases h
 ·cases h
def eZN(t T:String):Bool:=decide (t=T) || (decide (t="bool")&&decide (T="int"))
def eQC(t T:String):Bool:=["NoneType", "bool", "int", "str", "list", "tuple", "dict"].contains t && ["bool", "int", "str", "list", "tuple", "dict"].contains T
def bQ9(t T:String):Option Bool:=bif eQC t T then some (eZN t T) else none
def dXJ:∀t∈["NoneType", "bool", "int", "str", "list", "tuple", "dict"],∀T∈["bool", "int", "str", "list", "tuple", "dict"],W.kitOne K (.type t) (.type T)=some (eZN t T):=by
 simp only[List.forall_mem_cons,List.not_mem_nil,false_implies,implies_true,and_true];refine⟨⟨rfl,rfl,rfl,rfl,rfl,rfl⟩,⟨rfl,rfl,rfl,rfl,rfl,rfl⟩,⟨rfl,rfl,rfl,rfl,rfl,rfl⟩,⟨rfl,rfl,rfl,rfl,rfl,rfl⟩,⟨rfl,rfl,rfl,rfl,rfl,rfl⟩,⟨rfl,rfl,rfl,rfl,rfl,rfl⟩,⟨rfl,rfl,rfl,rfl,rfl,rfl⟩⟩
def cZQ{t:String}{b:Bool}(h:bQ9 t T=some b):W.kitOne K (.type t) (.type T)=some b:=by
 unfold bQ9 at h;cases hn:eQC t T with
 |false=>rw[hn]at h;cases h
 |true=>
  rw[hn]at h;cases h;unfold eQC at hn;rw[Ea]at hn;exact dXJ t (List.contains_iff_mem.mp hn.1) T (List.contains_iff_mem.mp hn.2)
def dXQ:List V->Hp->VK->Prop:=λxs H Q=>match xs with
 |[x,.ty T]=>(match tyN x H with
  |some t=>(match bQ9 t T with|some b=>Q (.bl b) H|none=>False)
  |none=>False)
 |_=>False
def aQV:CallR X (.builtin "isinstance") dXQ:=call_isinst.imp λ_ _ _ q=>by
 unfold dXQ at q;split at q
 ·split at q
  ·split at q
   ·exact⟨_,_,_,_,rfl,dJM (by assumption),cZQ (by assumption),q⟩
   ·exact q.elim
  ·exact q.elim
 ·exact q.elim
end
def zN(R:Str->Hp->Prop):VK:=λx H=>match x with|.str z=>R z H|_=>False
def bZX{R:Str->Hp->Prop}{x:V}(q:zN R x H):∃z,x=.str z/\R z H:=by
 unfold zN at q;split at q
 ·exact⟨_,rfl,q⟩
 ·exact q.elim
def onL(o:Option (List V))(P:Prop):Prop:=match o with|some _=>P|none=>False
def fN(R:Addr->Hp->Prop):VK:=λx H=>match x with|.ref a=>R a H|_=>False
def cQT{R:Addr->Hp->Prop}{x:V}(q:fN R x H):∃a,x=.ref a/\R a H:=by
 unfold fN at q;split at q
 ·exact⟨_,rfl,q⟩
 ·exact q.elim
section
variable {a b:Expr} {ta tb:TE} {p:Pos}
def fQA(tl:TE):TI:=λσ H R=>tl σ H (zN λz H1=>R (Its z) H1)
def qI(hl:PE X l tl):PI X tg l (fQA tl):=by
 intro pins s σ H R I h;refine thn (hl pins s σ H _ I h) λv s1 ⟨x,H1,I1,r1,q1⟩=>?_;obtain⟨z,rfl,q⟩:=bZX q1;obtain⟨t,rfl⟩:=r1;have fb:∀b∈[s1.heap.objs.size],lX X pins H1 b:=λb hb=>by
  have e:b=s1.heap.objs.size:=by simpa using hb
  subst e;exact I1.fpOk (Ai _) (I1.hok.fresh (Ai _))
 cases ha:z.cps.all (· < 128)
 ·refine wpAny_pyIter_wide ha ?_;exact⟨s1.heap.objs.size,[s1.heap.objs.size],_,_,H1,rfl,I1.kept (t':=s1.toks) λb o e=>Ag _ e,bZH z t _,⟨_,Ay _ rfl,rfl,rfl⟩,fb,q⟩
 ·refine wpAny_pyIter_ascii ha ?_;exact⟨s1.heap.objs.size,[s1.heap.objs.size],_,_,H1,rfl,I1.kept (t':=s1.toks) λb o e=>Ag _ e,aZI z t _,⟨_,Ay _ rfl,rfl,rfl⟩,fb,q⟩
def dX8(K:W.Frag)(tl:TE):TI:=λσ H R=>tl σ H (fN λa H1=>onL (rdL H1 a) (R (Itl K a) H1))
def dD(hl:PE X l tl):PI X tg l (dX8 X.K tl):=by
 intro pins s σ H R I h;refine thn (hl pins s σ H _ I h) λv s1 ⟨x,H1,I1,r1,q1⟩=>?_;obtain⟨a,rfl,q⟩:=cQT q1;cases r1;unfold onL at q;split at q
 ·rename_i xs e
  obtain⟨its,rv,p,hz⟩:=I1.list (bF e);refine Fn p.isList ?_;refine⟨s1.heap.objs.size,[s1.heap.objs.size],_,_,H1,rfl,I1.kept (t':=s1.toks) λb o e=>Ag _ e,bZD a _,⟨_,Ay _ rfl,rfl,rfl⟩,λb hb=>?_,q⟩;have e:b=s1.heap.objs.size:=by simpa using hb
  subst e;exact I1.fpOk (Ai _) (I1.hok.fresh (Ai _))
 ·exact q.elim
def sO(R:Int->Hp->Prop):List V->Hp->Prop:=λvs H=>match vs with|[.int j]=>R j H|_=>False
def rG{R:Int->Hp->Prop}{vs:List V}(q:sO R vs H):∃j,vs=[.int j]/\R j H:=by
 unfold sO at q;split at q
 ·exact⟨_,rfl,q⟩
 ·exact q.elim
def bZ8(R:Int->Int->Hp->Prop):List V->Hp->Prop:=λvs H=>match vs with|[.int i,.int j]=>R i j H|_=>False
def dQ2{R:Int->Int->Hp->Prop}{vs:List V}(q:bZ8 R vs H):∃i j,vs=[.int i,.int j]/\R i j H:=by
 unfold bZ8 at q;split at q
 ·exact⟨_,_,rfl,q⟩
 ·exact q.elim
def dZS(ta:TA):TI:=λσ H R=>ta σ H (sO λj H1=>(-(2^62)<=j/\j<2^62)/\R (Itr 0 j.toNat) H1)
def dX7(ta:TA):TI:=λσ H R=>ta σ H (bZ8 λi j H1=>(-(2^62)<=i/\i<2^62/\-(2^62)<=j/\j<2^62)/\R (Itr i (j-i).toNat) H1)
def lQ{ta:TA}(hg:Gl X "range")(hm:X.mg "range"=none)(ha:PA X [a] ta)(hs:starEach [a] X.env=[(false,eval a X.env)]:=by rfl):PI X tg (.Call (.Name "range" p) [a] [] pos) (dZS ta):=by
 intro pins s σ H R I h;refine Call_ (jN I hg hm boot_range (Du (thn (ha pos pins s σ H _ I h) λus s1 ⟨vs,H1,I1,r1,q1⟩=>?_) hs rfl));obtain⟨j,e,⟨b1,b2⟩,q⟩:=rG q1;subst e;cases r1 with
 |cons r rr=>
  cases rr;obtain⟨t,rfl⟩:=r;exact call_range_1 (aQ1 I1 (by omega) (by omega) b1 b2 (by simpa using q))
def xG{ta:TA}(hg:Gl X "range")(hm:X.mg "range"=none)(ha:PA X [a,b] ta)(hs:starEach [a,b] X.env=[(false,eval a X.env),(false,eval b X.env)]:=by rfl)(hs2:starEach [b] X.env=[(false,eval b X.env)]:=by rfl):PI X tg (.Call (.Name "range" p) [a,b] [] pos) (dX7 ta):=by
 intro pins s σ H R I h;refine Call_ (jN I hg hm boot_range (Du (thn (ha pos pins s σ H _ I h) λus s1 ⟨vs,H1,I1,r1,q1⟩=>?_) (by rw[hs,hs2]) (by rw[hs2];rfl)))
 obtain⟨i,j,e,⟨b1,b2,b3,b4⟩,q⟩:=dQ2 q1;subst e;cases r1 with
 |cons r rr=>
  cases rr with
  |cons r' rr=>
   cases rr;obtain⟨t,rfl⟩:=r;obtain⟨t',rfl⟩:=r';exact call_range_2 (aQ1 I1 b1 b2 b3 b4 q)
def yZ(J:It)(g:TG)(tb:TS)(D:Ends)(σ:St)(H1:Hp):Prop:=∃W:Nat->Nat->St->Hp->Prop,(∃m,W 0 m σ H1)/\∀i m σ H,W i m σ H->
 (J.stop i H/\D.nx σ H)\/(J.go i H/\∃N:St->Hp->Prop,(∀σ' H',N σ' H'->∃m',m' < m/\W (i+1) m' σ' H')/\∀x H',J.yld i H x H'->g x σ H' λσ2 H2=>tb {D with nx:=N,ct:=N,bk:=D.nx} σ2 H2)
def dZW(wi:TI)(g:TG)(tb:TS):TS:=λD σ H=>wi σ H λJ H1=>yZ J g tb D σ H1
def cI{wi:TI}{tb:TS}(hp:PassesOwn (model X.prog X.w) X.A X.env X.xe)(hc:X.calm=true)(hi:PI X tg iter wi)(hg:PG X tg g)(hb:PSs X body tb)(hs:∀x,foldedSetIterable iter X.env x=pure x:=by intro _;rfl):PS X (.For tg iter body [] pos) (dZW wi g tb):=dJ5 (wi:=wi) hp hc hi hg hb hs
section
variable {c:Addr} {tb:TS}
def gW(Pv:Nat->St->Hp->Prop)(h0:Pv 0 σ H)(hl:∀i σ H,i<=xs.length->Pv i σ H->rdL H c=some xs)(hs:∀i x σ H,xs[i]?=some x->Pv i σ H->g x σ H λσ2 H2=>tb {D with nx:=Pv (i+1),ct:=Pv (i+1),bk:=D.nx} σ2 H2)(hd:∀σ H,Pv xs.length σ H->D.nx σ H):yZ (Itl K c) g tb D σ H:=
 bJ1 Pv h0 (λi σ H hi p=>bF (hl i σ H hi p)) hs hd
def aZ9(Pv:Nat->St->Hp->Prop)(h0:Pv 0 σ H)(hs:∀i c σ H,z.cps.toList[i]?=some c->Pv i σ H->g (.str ⟨#[c]⟩) σ H λσ2 H2=>tb {D with nx:=Pv (i+1),ct:=Pv (i+1),bk:=D.nx} σ2 H2)(hd:∀σ H,Pv z.cps.toList.length σ H->D.nx σ H):yZ (Its z) g tb D σ H:=
 dXS Pv h0 hs hd
def nW(Pv:Nat->St->Hp->Prop)(h0:Pv 0 σ H)(hs:∀i σ H,i<n->Pv i σ H->g (.int (lo+i)) σ H λσ2 H2=>tb {D with nx:=Pv (i+1),ct:=Pv (i+1),bk:=D.nx} σ2 H2)(hd:∀σ H,Pv n σ H->D.nx σ H):yZ (Itr lo n) g tb D σ H:=
 bXA Pv h0 hs hd
end
def pG(hg:Gl X x)(hm:X.mg x=none)(hv:bootBuiltins x=some (.type T))(hn:x≠"__name__" := by decide)(hd:(x==("__debug__" : Str))=false:=by decide):PE X (.Name x pos) (tC (.ty T)):=cJN hg hm hv rfl hn hd
end
section
variable {QB:Bool->Hp->Prop} {QA:List V->Hp->Prop} {QO:Option Int->Hp->Prop} {t u:TS} {ta tb:TE} {tt tu:TT} {tA:TA} {r:R2} {x:V} {i j:Int} {z':Str} {p:Addr} {vs:List V} {k:Nat}
def mG(h:t {D with nx:=u D} σ H):dJT t u D σ H:=h
def eXH(h:D.nx σ H):dZG D σ H:=h
def fQ4{c:TT}(h:c σ H λb H1=>if b=true then t D σ H1 else u D σ H1):eZE c t u D σ H:=h
def eJM(h:te σ H D.rt):eJA te D σ H:=h
def eQN(h:te σ H λ_ H1=>D.nx σ H1):dZZ te D σ H:=h
def eJC(h:te σ H λx H1=>g x σ H1 D.nx):bJ8 te g D σ H:=h
def dJL(h:D.ct σ H):dZ1 D σ H:=h
def eZ8{wi:TI}{tb:TS}(h:wi σ H λJ H1=>yZ J g tb D σ H1):dZW wi g tb D σ H:=h
def yF{QS:St->Hp->Prop}(h:QS (σ.set k (some v)) H):pC k v σ H QS:=h
def dJP{QS:St->Hp->Prop}{ti:TE}{ts:dQ8}(h:to σ H λo H1=>ti σ H1 λi H2=>ts o i v H2 λH3=>QS σ H3):eZ1 to ti ts v σ H QS:=h
def eJT(e:σ[k]?=some (some v))(h:Q v H):dQ1 k σ H Q:=by unfold dQ1;rw[e];exact h
def s_c(h:Q v H):tC v σ H Q:=h
def fQV(h:ta σ H λx H1=>tb σ H1 λy H2=>r x y H2 Q):tOp r ta tb σ H Q:=h
def fQQ{ru:V->Hp->VK->Prop}(h:ta σ H λx H1=>ru x H1 Q):tUn ru ta σ H Q:=h
def eZ0(h:QA [] H):xR σ H QA:=h
def dJK{tr:TA}(h:ta σ H λx H1=>tr σ H1 λxs H2=>QA (x::xs) H2):aJY ta tr σ H QA:=h
def fQH(h:tA σ H λxs H1=>xs.length<=sizeLine/\∀p,H1 p=none->Q (.ref p) (upd H1 p (.lst xs))):cZY tA σ H Q:=h
def eZX(h:tA σ H λxs H1=>xs.length<=sizeLine/\∀p,H1 p=none->Q (.ref p) (upd H1 p (.tup xs))):eJZ tA σ H Q:=h
def eQM{E:XK}(h:tA σ H λvs H1=>sp (vs++[]) H1 Q E):bQP sp [] E tA σ H Q:=h
def fQR{rc:List V->Hp->VK->Prop}(h:tA σ H λvs H1=>rc vs H1 Q):tCB rc tA σ H Q:=h
def fQ7{rs:V->Option Int->Option Int->Hp->VK->Prop}{tl th:TO}(h:te σ H λx H1=>tl σ H1 λl H2=>th σ H2 λu H3=>rs x l u H3 Q):tSl rs te tl th σ H Q:=h
def bZT(h:QO none H):bQX σ H QO:=h
def eQG(h:te σ H (xJ QO)):dZC te σ H QO:=h
def cXW(h:QO (some i) H):xJ QO (.int i) H:=h
def eQ7{rm:V->List V->Hp->VK->Prop}(h:to σ H λx H1=>aZK T x H1 (tA σ H1 λxs H2=>rm x xs H2 Q)):dZ5 T rm to tA σ H Q:=h
def eJW{P:Prop}(h:P):aZK "str" (.str z) H P:=⟨rfl,h⟩
def eJ2{P:Prop}(e:rdL H p=some xs)(h:P):aZK "list" (.ref p) H P:=by unfold aZK;simp only[e];exact⟨trivial,h⟩
def dJH(h:te σ H (mB QB)):dZX te σ H QB:=h
def dXM(h:te σ H (bZY QB)):cXX te σ H QB:=h
def fQ5{b:Bool}(h:QB b H):mB QB (.bl b) H:=h
def eQ1{b:Bool}(h:QB b H):bZY QB (.bl b) H:=h
def eJ7(h:tt σ H λc H1=>if c=true then tu σ H1 QB else QB false H1):eJD tt tu σ H QB:=h
def fQ2(h:tt σ H λc H1=>if c=true then QB true H1 else tu σ H1 QB):tOr tt tu σ H QB:=h
def eZQ(h:tt σ H λc H1=>QB (!c) H1):eZZ tt σ H QB:=h
def eX2(h:ta σ H (mB λc H1=>if c=true then tb σ H1 Q else Q (.bl false) H1)):dZB ta tb σ H Q:=h
def fQF(h:tt σ H λc H1=>if c=true then ta σ H1 Q else tb σ H1 Q):tIf tt ta tb σ H Q:=h
def fQW{g:Int->Int->V}(h:Q (g i j) H):mI g (.int i) (.int j) H Q:=h
def fQK{C:Int->Int->Prop}{g:Int->Int->V}(c:C i j)(h:Q (g i j) H):mIC C g (.int i) (.int j) H Q:=⟨c,h⟩
def eXX(h:Q (.int (i+j)) H):bX0 (.int i) (.int j) H Q:=h
def eXD(c:z.length+z'.length<=sizeLine)(h:Q (.str (z++z')) H):bX0 (.str z) (.str z') H Q:=⟨c,h⟩
def sI(e:iB H p=some xs)(e':iB H q=some ys)(c:xs.length+ys.length<=sizeLine)(h:∀r,H r=none->Q (.ref r) (upd H r (.lst (xs++ys)))):bX0 (.ref p) (.ref q) H Q:=by
 unfold bX0;simp only[e,e'];exact⟨c,h⟩
def fQN(h:Q (.bl (decide (i=j))) H):mEq (.int i) (.int j) H Q:=⟨rfl,by
 rw[show decide (V.int i=V.int j)=decide (i=j) by simp];exact h⟩
def eJH(h:Q (.bl (decide (z=z'))) H):mEq (.str z) (.str z') H Q:=⟨rfl,by
 rw[show decide (V.str z=V.str z')=decide (z=z') by simp];exact h⟩
def eJR{b c:Bool}(h:Q (.bl (decide (b=c))) H):mEq (.bl b) (.bl c) H Q:=⟨rfl,by
 rw[show decide (V.bl b=V.bl c)=decide (b=c) by simp];exact h⟩
def eJ4(h:Q (.bl (!decide (i=j))) H):mNe (.int i) (.int j) H Q:=⟨rfl,by
 rw[show decide (V.int i=V.int j)=decide (i=j) by simp];exact h⟩
def eX8(h:Q (.bl (!decide (z=z'))) H):mNe (.str z) (.str z') H Q:=⟨rfl,by
 rw[show decide (V.str z=V.str z')=decide (z=z') by simp];exact h⟩
def dZP{neg:Bool}(e:rdL H p=some xs)(e':rdL H q=some ys)(f:xs.all cU=true)(f':ys.all cU=true)(h:Q (.bl (if neg then !pU xs ys else pU xs ys)) H):bZR neg (.ref p) (.ref q) H Q:=by
 unfold bZR;simp only[e,e'];exact⟨f,f',h⟩
def eZJ(h:Q (.bl (decide (x=.non))) H):eXU x .non H Q:=h
def dJF(h:Q (.bl (!decide (x=.non))) H):cXU x .non H Q:=h
def eZO(h:Q (.bl (if neg then !subIn z z' else subIn z z')) H):cZ2 neg (.str z) (.str z') H Q:=h
def cXE{neg:Bool}(e:rdL H p=some xs)(f:cU x=true)(f':xs.all cU=true)(h:Q (.bl (if neg then !inV x xs else inV x xs)) H):bJB neg x (.ref p) H Q:=by
 unfold bJB;simp only[e];exact⟨f,f',h⟩
def oQ{c:Nat}(l:z.length<=sizeLine)(e:atI z.cps.toList i=some c)(h:Q (.str ⟨#[c]⟩) H):mIx (.str z) (.int i) H Q:=by
 unfold mIx;simp only[e];exact⟨l,h⟩
def dF(e:rdL H p=some xs)(e':atI xs i=some v)(h:Q v H):mIx (.ref p) (.int i) H Q:=by
 unfold mIx;simp only[e,e'];exact h
def eZF{lo hi:Option Int}(e:rdL H p=some xs)(h:∀r,H r=none->Q (.ref r) (upd H r (.lst (qH xs lo hi)))):mSl (.ref p) lo hi H Q:=by
 unfold mSl;simp only[e];exact h
def dJ3(l:z.length<=sizeLine)(h:Q (.int z.length) H):aXS [.str z] H Q:=⟨l,h⟩
def eX3(e:rdL H p=some xs)(h:Q (.int xs.length) H):aXS [.ref p] H Q:=by unfold aXS;simp only[e];exact h
def eZD(h:Q (.int (if j<i then j else i)) H):dJN [.int i,.int j] H Q:=h
def yX(e:PySem.intText? z=some i)(l:z.length<=640)(h:Q (.int i) H):cJV [.str z] H Q:=by unfold cJV;simp only[e];exact⟨l,h⟩
def eXE(e:rdL H p=some xs)(h:∀l,H l=none->Q (.ref l) (upd H l (.lst xs))):aJ1 [.ref p] H Q:=by unfold aJ1;simp only[e];exact h
def eZH(e:iB H p=some xs)(l:xs.length<sizeLine)(h:Q .non (upd H p (.lst (xs++[v])))):dQO (.ref p) [v] H Q:=by unfold dQO;simp only[e];exact⟨l,h⟩
def cJT{rest:List Nat}(e:Builtin.Str.occurrences z z' 0 z.length 1=k::rest)(h:Q (.int ((k:Nat):Int)) H):zL (.str z) [.str z'] H Q:=by unfold zL;simp only[e];exact h
def eQ3{ss:List Str}(e:rdL H p=some (ss.map V.str))(l:(ss.map (·.length)).sum+ss.length*z.length<=16777216)(h:Q (.str (Txt.join z ss)) H):aJV (.str z) [.ref p] H Q:=by
 unfold aJV;simp only[e,aZ7];exact⟨l,h⟩
def dZN{bs:List Bool}(e:rdL H p=some (bs.map V.bl))(h:Q (.bl (bs.all id)) H):dQ7 [.ref p] H Q:=by
 unfold dQ7;simp only[e,aX1];exact h
def eZC{t:String}{b:Bool}(e:tyN x H=some t)(e':bQ9 t T=some b)(h:Q (.bl b) H):dXQ [x,.ty T] H Q:=by
 unfold dXQ;simp only[e,e'];exact h
def dXP(h:tl σ H (fN λa H1=>onL (rdL H1 a) (R (Itl K a) H1))):dX8 K tl σ H R:=h
def dXO{R:Addr->Hp->Prop}(h:R p H):fN R (.ref p) H:=h
def eZV{P:Prop}(e:rdL H p=some xs)(h:P):onL (rdL H p) P:=by unfold onL;simp only[e];exact h
def eQJ(h:tl σ H (zN λz H1=>R (Its z) H1)):fQA tl σ H R:=h
def dQ0{R:Str->Hp->Prop}(h:R z H):zN R (.str z) H:=h
def dQP(h:tA σ H (sO λj H1=>(-(2^62)<=j/\j<2^62)/\R (Itr 0 j.toNat) H1)):dZS tA σ H R:=h
def cJE(h:tA σ H (bZ8 λi j H1=>(-(2^62)<=i/\i<2^62/\-(2^62)<=j/\j<2^62)/\R (Itr i (j-i).toNat) H1)):dX7 tA σ H R:=h
def eXB{R:Int->Hp->Prop}(h:R i H):sO R [.int i] H:=h
def eQ6{R:Int->Int->Hp->Prop}(h:R i j H):bZ8 R [.int i,.int j] H:=h
def dZJ{o:V}{QH:Hp->Prop}(e:iB H p=some xs)(e':ixN xs.length i=some k)(h:QH (upd H p (.lst (xs.set k v)))):dZD (.ref p) (.int i) v H QH:=⟨_,_,_,_,rfl,rfl,lU e,e',h⟩
end
def eQW{α:Type}{xs:List α}{i:Int}(h0:0<=i)(h1:i<xs.length):∃v,atI xs i=some v/\xs[i.toNat]?=some v:=by
 have hk:i.toNat<xs.length:=by omega
 have e:i=((i.toNat:Nat):Int):=by omega
 have q:atI xs ((i.toNat:Nat):Int)=some xs[i.toNat]:=aV (Aa hk)
 rw[<-e]at q;exact⟨xs[i.toNat],q,Aa hk⟩
def cXV{i:Int}(h0:0<=i)(h1:i<n):ixN n i=some i.toNat:=by
 unfold ixN;rw[if_pos h0,if_pos h1]
def bP(h:n<=100000):n<=sizeLine:=Bi h (by decide)
def bK(h:n<=100000):n<sizeLine:=Nat.lt_of_le_of_lt h (by decide)
def Cal(P:Program)(w:World)(K:W.Frag)(mg:Str->Option Value)(base:Heap)(k:Nat)(x:Str)(ps:List Str)(sp:Sp):Prop:=
 ∃(f:Addr) (fd:FuncData),FnOk P w K mg base CX0 k f fd ps sp/\mg x=some (.ref f)/\W.keepIn K (.ref f)=true/\Binds K fd ps []
section
variable {k:Nat} {ps:List Str} {p:Pos} {t:TA} {i:Int}
def aZ(c:Cal X.prog X.w X.K X.mg X.base k x ps sp)(hr:Room k' X.A)(hk:k<=k')(hg:Gl X x)(ha:PA X (e::es) t)(hdb:(x==("__debug__" : Str))=false:=by decide)(he:starEach (e::es) X.env=(false,eval e X.env)::starEach es X.env:=by rfl)(hpl:(backTo pos (starEach es X.env)).any (·.1)=false:=by rfl):PE X (.Call (.Name x p) (e::es) [] pos) (bQP sp [] E0 t):=by
 obtain⟨f,fd,F,hm,hk',hb⟩:=c;exact bQH F (hr.mono hk) hg hm hk' hb .nil cZG ha hdb he hpl
def fI(hg:Gl X x)(h:∃t,X.mg x=some (.str z t))(hd:(x==("__debug__" : Str))=false:=by decide):PE X (.Name x pos) (tC (.str z)):=by
 obtain⟨t,h⟩:=h;exact rK hg h ⟨t,rfl⟩ hd
def xZ{z:Int}(hg:Gl X x)(h:∃t,X.mg x=some (.int z t))(hd:(x==("__debug__" : Str))=false:=by decide):PE X (.Name x pos) (tC (.int z)):=by
 obtain⟨t,h⟩:=h;exact rK hg h ⟨t,rfl⟩ hd
def cXG{lo hi:Option Int}(e:SqL K H a xs)(h:∀r,H r=none->Q (.ref r) (upd H r (.lst (qH xs lo hi)))):eZI K (.ref a) lo hi H Q:=⟨a,xs,rfl,e,h⟩
def eJO(e:SqL K H a xs)(e':atI xs i=some v)(h:Q v H):eXN K (.ref a) (.int i) H Q:=⟨a,xs,i,v,rfl,rfl,e,e',h⟩
end
def bY:bootBuiltins "len"=some (.builtin "len"):=by decide +kernel
def cC:bootBuiltins "isinstance"=some (.builtin "isinstance"):=by decide +kernel
def eX6:bootBuiltins "min"=some (.builtin "min"):=by decide +kernel
def cZZ:bootBuiltins "all"=some (.builtin "all"):=by decide +kernel
def aJC:bootBuiltins "sum"=some (.builtin "sum"):=by decide +kernel
def wI:bootBuiltins "sorted"=some (.builtin "sorted"):=by decide +kernel
def dXN:bootBuiltins "bool"=some (.type "bool"):=by decide +kernel
def iF:bootBuiltins "int"=some (.type "int"):=by decide +kernel
def dJC:bootBuiltins "str"=some (.type "str"):=by decide +kernel
def eU:bootBuiltins "list"=some (.type "list"):=by decide +kernel
def bQN:bootBuiltins "dict"=some (.type "dict"):=by decide +kernel
def bJ6:bootBuiltins "range"=some (.type "range"):=by decide +kernel
def fQD{A B:Prop}(h:B):if (!true)=true then A else B:=h
def fQI{A B:Prop}(h:A):if (!false)=true then A else B:=h
def bT{X:Cx}{x:Str}{j:Nat}{pos:Pos}{es:List Expr}{t:TA}(h:PA X es t):PA X (.Constant (.str x) j pos::es) (aJY (tC (.str x)) t):=aA cW h rfl
def aJL{R:Result->Shared->Prop}{elt target:Expr}{it acc:Value}(I:Nat->Shared->Prop)(turn:∀n s,I n s->wpAny (model prog w) A (pyNext it) (λr s₁=>match r with
 |none=>R (.ok .next) s₁
 | some v=>wpAny (model prog w) A (letOwnedTupleGo target it v) (λ_ s₁'=>wpAny (model prog w) A (assign target env v) (λ_ s₂=>
     wpAny (model prog w) A (forIn ifs true λc r=>if r=true then do let ok <-isTrue c env (eval c env);pure (ForInStep.yield ok) else pure (ForInStep.yield r)) (λok s₃=>
      if ok=true then wpAny (model prog w) A (eval elt env) (λx s₄=>
       wpAny (model prog w) A (call (.builtin "list.append") [acc,x]) (λ_ s₅=>∃m,m<n/\I m s₅) (λ_ _=>False) s₄) (λ_ _=>False) s₃
      else ∃m,m<n/\I m s₃) (λ_ _=>False) s₂) (λ_ _=>False) s₁') (λ_ _=>False) s₁) (λ_ _=>False) s)(n:Nat)(h:I n s):codeAny (model prog w) A (.compLoop (.ListComp elt [⟨target,iter,ifs,0⟩] scope pos) 0 it acc env) R s:=by
 refine codeAny_loop rfl I (λn s hI=>?_) n h;show wpAny _ A ((compTurn (.ListComp elt [⟨target,iter,ifs,0⟩] scope pos) 0 it acc env).onRaise (λx=>do noteFrame x env;theTreesLotGoes x)) _ _ s
 refine wpAny_noted ?_;rw[compTurn_list];refine Ae (Fj (Ae (Ci (turn n s hI) (λr s₁ h₁=>?_) λ_ _ h'=>h'.elim)));cases r with
 |none=>exact Ao h₁
 |some v=>
  refine Ae (Ci h₁ (λ_ s₁' h₁'=>?_) λ_ _ h'=>h'.elim);refine Ae (Ci h₁' (λ_ s₂ h₂=>Ae (Ci h₂ (λok s₃ h₃=>?_) λ_ _ h'=>h'.elim)) λ_ _ h'=>h'.elim);cases ok with
  |false=>exact Ao ⟨rfl,h₃⟩
  |true=>
   exact Ae (Ae (Ci h₃ (λx s₄ h₄=>Ae (Ci h₄ (λ_ s₅ h₅=>Ao (Ao ⟨rfl,h₅⟩)) λ_ _ h'=>h'.elim)) λ_ _ h'=>h'.elim))
def cxC(X:Cx)(N:List Str)(scope:Scope)(cl:List (Str×Addr))(C:Addr)(s₀:Shared)(H₀:Hp)(ex:List Addr):Cx:=
 {prog:=X.prog,w:=X.w,K:=X.K,mg:=X.mg,base:=X.base,A:=X.A,N:=N,s₀:=s₀,H₀:=H₀,env:=compEnvC scope cl C X.env,outer:=X.stack,stack:=X.stack,ex:=ex,fn:=λ_=>false,calm:=X.calm,pn:=[],xe:=λ_ _=>False}
structure ClOk (X:Cx) (N:List Str) (scope:Scope) (cl:List (Str×Addr)) (vals:St->St):Prop where
 clos:closureFor scope X.env=pure cl
 sub:∀x c,cl.lookup x=some c->X.env.cells.lookup x=some c
 has:∀x,((relabel scope X.env).names.lookup x=some .cell\/(relabel scope X.env).names.lookup x=some .free)->∃c,cl.lookup x=some c
 len:∀σ,(vals σ).length=N.length
 val:∀σ (i:Nat) x v,N[i]?=some x->(vals σ)[i]?=some (some v)->∃(j:Nat),X.N[j]?=some x/\σ[j]?=some (some v)/\X.env.scope.names.lookup x=some .cell/\(∃c,cl.lookup x=some c)/\(relabel scope X.env).names.lookup x=some .cell
def PF(X:Cx)(ifs:List Expr)(t:TT):Prop:=∀(pins:List (Addr×Obj)) (s:Shared) (σ:St) (H:Hp) (Q:Bool->Hp->Prop),Inv X pins σ H s->t σ H Q->
 wpAny (model X.prog X.w) X.A (forIn ifs true λc r=>if r=true then do let ok <-isTrue c X.env (eval c X.env);pure (ForInStep.yield ok) else pure (ForInStep.yield r)) (TP X pins σ Q) X.xe s
def eZ4:TT:=λ_ H Q=>Q true H
def eP:PF X [] eZ4:=λpins s σ H Q I q=>wpAny_tests_nil ⟨H,I,q⟩
def mX{c:Expr}{t:TT}(h:PT X c t):PF X [c] t:=λpins s σ H Q I q=>wpAny_tests_one (h pins s σ H Q I q)
section
variable {H2:Hp} {s2:Shared}
def aZW{h1:Heap}{t1:Nat}(I:Inv X pins σ H2 s2)(ck:ClOk X N scope cl vals)(hkind:scope.kind=.function)(hf:∀b∈fp,lX X pins H2 b)(hlt:∀b∈fp,b<s2.heap.objs.size)(hns:h1.Ns s2.heap.objs.size λ_=>none)(hsb:Heap.SameBut s2.heap.objs.size (s2.heap.push {cls:=.type "dict",data:=.dict #[]}) h1):Inv (cxC X N scope cl s2.heap.objs.size s2 H2 fp) [] (vals σ) H2 {s2 with heap:=h1,toks:=t1}:=by
 have old:∀b o,s2.heap.get? b=some o->h1.get? b=some o:=λb o e=>(hsb.2 b (Bj (Av e))).trans (Ag _ e)
 have hC:H2 s2.heap.objs.size=none:=I.hok.fresh (Ai _)
 refine⟨⟨I.ok.mod,hkind,I.ok.glob,I.ok.blt,Ai _,λx y c h1 h2=>I.ok.inj x y c (ck.sub x c h1) (ck.sub y c h2),ck.has,(λx c h=>nomatch h),I.ok.hd,I.ok.frames,.inl rfl,λb hb=>⟨Bj (hlt b hb),λx c e=>(hf b hb).2.2.2.2.1 x c (ck.sub x c e)⟩,
  I.bs,Nat.le_trans I.ok.bsz I.sz,λb o e hb=>?_,λb hb hs=>?_,I.stack,I.stkFree⟩,rfl,I.bare,Un.kept old,⟨_,hns,λi x v e1 e2 _=>?_⟩,λx c e=>?_,hC,λx c e=>I.freeC x c (ck.sub x c e),λp hp=>absurd (show p∈([]:Q2) from hp) (by simp),I.hok.kept old,ck.len σ⟩
 ·rcases (hf b hb).2.2.2.1 with z|z
  ·exact I.ok.noex b o e z
  ·exact absurd (Bf (Av e) (Bi I.ok.bsz z)) (Dv _)
 ·rcases Az.mp (I.stkSub b hs) with z|z
  ·exact(hf b hb).2.1 z
  ·exact(hf b hb).2.2.1 z
 ·obtain⟨j,h1,h2,h3,⟨c,h4⟩,h5⟩:=ck.val σ i x v e1 e2;obtain⟨m,hn,hl⟩:=I.loc;obtain⟨u,r,l⟩:=hl j x v h1 h2 (.inr (.inl h3));refine⟨u,r,.inr ⟨.inl h5,c,h4,?_⟩⟩;rcases l with⟨z,_⟩|⟨_,c',e',z⟩
  ·have z':X.env.scope.names.lookup x=some .local:=z
   rw[h3]at z';cases z'
  ·rw[ck.sub x c h4]at e';cases e';obtain⟨o,ho,hd⟩:=z;exact⟨o,old _ o ho,hd⟩
 ·obtain⟨v,o,ho,hd⟩:=I.cell x c (ck.sub x c e);exact⟨v,o,old _ o ho,hd⟩
def bXR{σ':St}{s':Shared}{h'':Heap}{pins':Q2}(I:Inv X pins σ H2 s2)(hf:∀b∈fp,lX X pins H2 b)(I':Inv (cxC X N scope cl s2.heap.objs.size s2 H2 fp) pins' σ' H' s')(hsb:Heap.SameBut s2.heap.objs.size s'.heap h''):Inv X pins σ H' {s' with heap:=h''}:=by
 have u1:Un (frs X.stack) (s2.heap.objs.size::fp) H2 H' s2.heap s'.heap:=I'.base.mono (λ_ z=>z) λb z=>Am _ z
 have hC:H' s2.heap.objs.size=none:=I'.free
 have k:∀b o,b≠s2.heap.objs.size->s'.heap.get? b=some o->h''.get? b=some o:=λb o hb e=>(hsb.2 b hb).trans e
 have u2:Un (frs X.stack) (s2.heap.objs.size::fp) H' H' s'.heap h'':=⟨λb o e _ _ hx=>k b o (λz=>hx (by simp[z])) e,λb o e _ _ hx=>⟨o.slots,k b o (λz=>hx (by simp[z])) e⟩,λ_ _ _ n _=>n,
  λb o e hx=>⟨o,k b o (λz=>hx (by simp[z])) e⟩,λ_ _ e=>e,λ_ _ _ e=>e,λb ps e=>⟨#[],by rw[e];simp⟩⟩
 have hok:HOk X.prog X.w H' h'':=λb u e=>by
  have nC:∀c v,H' c=some v->c≠s2.heap.objs.size:=λc v e z=>by rw[z,hC]at e;cases e
  refine(I'.hok b u e).stay (λc v hc q=>k c v ?_ q) (λ_ q=>q) λ_ _ q=>q;rcases hc with z|z
  ·rw[z];exact nC b u e
  ·exact nC c _ z
 refine I.call' (s':={s' with heap:=h''}) (ch:=s2.heap.objs.size::fp) I'.os (u1.trans u2) hok I'.bare λb hb=>?_
 have q:lX X pins H2 b:=by
  rcases Az.mp hb with z|z
  ·subst z;exact I.fpOk (Ai _) (I.hok.fresh (Ai _))
  ·exact hf b z
 exact⟨q.2.2.2.1,q.2.1,q.2.2.2.2.1,q.2.2.2.2.2⟩
end
def Wk(σ0 σ:St):Prop:=σ0.length=σ.length/\∀(i:Nat) v,σ0[i]?=some (some v)->σ[i]?=some (some v)
def Wk.refl(σ:St):Wk σ σ:=⟨rfl,λ_ _ h=>h⟩
def Wk.set{k:Nat}(h:σ0[k]?=some none)(w:Wk σ0 σ):Wk σ0 (σ.set k (some v)):=by
 refine⟨by rw[Cv];exact w.1,λi u e=>?_⟩
 have ne:k≠i:=λz=>by subst z;rw[h]at e;cases e
 rw[Da ne];exact w.2 i u e
def eI(g:TG)(tests:TT)(te:TE)(σ0:St)(Q:VK)(J:It)(H1:Hp):Prop:=∀D,H1 D=none->∃W:Nat->Nat->Hp->Prop,(∃m,W 0 m (upd H1 D (.lst [])))/\∀i m Hc,W i m Hc->
 (J.stop i Hc/\Q (.ref D) Hc)\/(J.go i Hc/\∀x H',J.yld i Hc x H'->g x σ0 H' λσ2 H2=>Wk σ0 σ2/\tests σ2 H2 λb H3=>if b=true then
  te σ2 H3 λy H4=>∃zs,H4 D=some (.lst zs)/\zs.length<sizeLine/\∃m',m' < m/\W (i+1) m' (upd H4 D (.lst (zs++[y]))) else ∃m',m' < m/\W (i+1) m' H3)
def cXC(wi:TI)(g:TG)(tests:TT)(te:TE)(vals:St->St):TE:=λσ H Q=>wi σ H λJ H1=>eI g tests te (vals σ) Q J H1
def aQJ{H2:Hp}{s2:Shared}{tn:Nat->Heap->Prop}{J:It}{elt:Expr}{RR:Value->Addr->Result->Shared->Prop}(I2:Inv X pins σ H2 s2)(T:Turn X.prog X.w X.K tg J fp it tn)(st2:tn 0 s2.heap)(f2:∀b∈fp,lX X pins H2 b)(hc:X.calm=true)(ck:ClOk X N scope cl vals)(hcell:∀y∈scope.names,y.2≠.cell)(hkind:scope.kind=.function)(hg:∀C s₀ H₀ ex,PG (cxC X N scope cl C s₀ H₀ ex) tg g)(ht:∀C s₀ H₀ ex,PF (cxC X N scope cl C s₀ H₀ ex) ifs tests)(he:∀C s₀ H₀ ex,PE (cxC X N scope cl C s₀ H₀ ex) elt te)(h:eI g tests te (vals σ) Q J H2)(hRR:∀D C s' H' m,s'.heap.Ns C m->Q (.ref D) H'->(∀h'',Heap.SameBut C s'.heap h''->Inv X pins σ H' {s' with heap:=h''})->lX X pins H' C->RR (.ref D) C (.ok .next) s'):wpAny (model X.prog X.w) X.A (newList []) (λacc s₃=>wpAny (model X.prog X.w) X.A (newFunctionEnv scope X.env.globals cl [] X.env.qual none .none (some X.env)) (λcenv s₄=>
 codeAny (model X.prog X.w) X.A (.compStart (.ListComp elt [⟨tg,iter,ifs,0⟩] scope pos) 0 (.ref it) acc {cenv with scope:=relabel scope X.env}) (RR acc cenv.locals) s₄) E s₃) E s2:=by
 have hD:H2 s2.heap.objs.size=none:=I2.hok.fresh (Ai _)
 obtain⟨W,⟨m0,w0⟩,turn⟩:=h _ hD;have hlt:∀b∈fp,b<s2.heap.objs.size:=λb hb=>by
  obtain⟨o,e,_⟩:=T.obj 0 _ st2 b hb;exact Av e
 refine Gp ?_
 -- the list is laid
 have I3:Inv X pins σ (upd H2 s2.heap.objs.size (.lst [])) {s2 with heap:=s2.heap.push {cls:=.type "list",dict:=none,data:=.seq ([]:List Value).toArray}}:=
  I2.lnew (ys:=[]) (its:=[]) (t':=s2.toks) .nil (Dc _)
 have f3:∀b∈fp,lX X pins (upd H2 s2.heap.objs.size (.lst [])) b:=λb hb=>⟨by rw[aJ (Bj (hlt b hb))];exact(f2 b hb).1,(f2 b hb).2⟩
 have st3:tn 0 (s2.heap.push {cls:=.type "list",dict:=none,data:=.seq ([]:List Value).toArray}):=T.keep _ _ _ st2 λb _ o e=>Ag _ e
 generalize hs3:({s2 with heap:=s2.heap.push {cls:=.type "list",dict:=none,data:=.seq ([]:List Value).toArray}}:Shared)=s3 at I3 ⊢
 have e3:s3.heap=s2.heap.push {cls:=.type "list",dict:=none,data:=.seq ([]:List Value).toArray}:=by rw[<-hs3]
 rw[<-e3]at st3;have hlt3:∀b∈fp,b<s3.heap.objs.size:=λb hb=>by
  obtain⟨o,e,_⟩:=T.obj 0 _ st3 b hb;exact Av e
 refine wpAny_newFunctionEnv hcell (by intro y hy;simp at hy) (λh₁ hns₁ hsb₁=>?_) hkind
 have hns:h₁.Ns s3.heap.objs.size λ_=>none:=hns₁
 have I4:=aZW (t1:=s3.toks) I3 ck hkind f3 hlt3 hns hsb₁
 have old:∀b o,s3.heap.get? b=some o->h₁.get? b=some o:=λb o e=>(hsb₁.2 b (Bj (Av e))).trans (Ag _ e)
 have st4:tn 0 h₁:=T.keep _ _ _ st3 λb _ o e=>old b o e
 have loop:∀ s₄:Shared,s₄={ s3 with heap:=h₁,toks:=s3.toks }->
     codeAny (model X.prog X.w) X.A (.compLoop (.ListComp elt [⟨tg,iter,ifs,0⟩] scope pos) 0 (.ref it) (.ref s2.heap.objs.size) (compEnvC scope cl s3.heap.objs.size X.env))
      (RR (.ref s2.heap.objs.size) s3.heap.objs.size) s₄:=by
  rintro s₄ rfl;have fpX:∀ {H':Hp},(∀b∈fp,H' b=none)->∀b∈fp,lX (cxC X N scope cl s3.heap.objs.size s3 (upd H2 s2.heap.objs.size (.lst [])) fp) [] H' b:=λhn b hb=>
   ⟨hn b hb,Nat.ne_of_lt (hlt3 b hb),λhs=>I4.ok.exfs b hb hs,.inl hb,λx c e=>(I4.ok.exf b hb).2 x c e,λp hp=>absurd (show p∈([]:Q2) from hp) (by simp)⟩
  refine aJL (λn s'=>∃i H',Inv (cxC X N scope cl s3.heap.objs.size s3 (upd H2 s2.heap.objs.size (.lst [])) fp) [] (vals σ) H' s'/\tn i s'.heap/\(∀b∈fp,H' b=none)/\W i n H') ?_ m0
   ⟨0,_,I4,st4,λb hb=>(f3 b hb).1,w0⟩
  rintro n s5 ⟨i,H5,I5,st5,fr5,w5⟩;rcases turn i n H5 w5 with⟨stop,q⟩|⟨go,step⟩
  ·refine thn (T.done (cxC X N scope cl s3.heap.objs.size s3 (upd H2 s2.heap.objs.size (.lst [])) fp) rfl rfl rfl hc i [] s5 (vals σ) H5 (λ_ _=>False) I5 (fpX fr5) st5 stop) λr s6 ⟨hr,I6⟩=>?_;subst hr;obtain⟨m,hn,_⟩:=id I6.loc;exact hRR _ _ s6 H5 m hn q (λh'' hsb=>bXR I3 f3 I6 hsb) (I3.fpOk (Ai _) I6.free)
  ·refine thn (T.item (cxC X N scope cl s3.heap.objs.size s3 (upd H2 s2.heap.objs.size (.lst [])) fp) rfl rfl rfl hc i [] s5 (vals σ) H5 (λ_ _=>False) I5 (fpX fr5) st5 go) λr s6 ⟨u,hr,h6⟩=>?_;subst hr;refine thn h6 λ_ s7 ⟨x,H7,I7,r7,y7,st7,fr7⟩=>?_;have I7':=I7.pinned (fpX fr7) (T.obj _ _ st7)
   refine thn (hg _ _ _ _ _ s7 (vals σ) H7 x u _ I7' r7 (step x H7 y7)) λ_ s8 ⟨σ8,H8,I8,wk8,q8⟩=>?_;refine thn (ht _ _ _ _ _ s8 σ8 H8 _ I8 q8) λb s9 ⟨H9,I9,q9⟩=>?_;have again:∀ {m':Nat} {s':Shared} {H':Hp},Inv (cxC X N scope cl s3.heap.objs.size s3 (upd H2 s2.heap.objs.size (.lst [])) fp) ([]++pO fp s7.heap) σ8 H' s'->m' < n->W (i+1) m' H'->
       ∃m,m<n/\∃i H',Inv (cxC X N scope cl s3.heap.objs.size s3 (upd H2 s2.heap.objs.size (.lst [])) fp) [] (vals σ) H' s'/\tn i s'.heap/\(∀b∈fp,H' b=none)/\W i m H':=fun {m' s' H'} J7 hm w7=>by
    refine⟨m',hm,i+1,H',(J7.weak wk8.1 wk8.2).unpinned,T.keep _ _ _ st7 λb hb o e=>(J7.pin (b,o) (Be _ (Be _ (jF hb e)))).1,λb hb=>?_,w7⟩;obtain⟨o,e,d⟩:=T.obj _ _ st7 b hb;exact(J7.pin (b,o) (Be _ (Be _ (jF hb e)))).2.1
   cases b with
   |true=>
    rw[if_pos rfl]at q9 ⊢;refine thn (he _ _ _ _ _ s9 σ8 H9 _ I9 q9) λv s10 ⟨y,H10,I10,r10,zs,hz,hl,m',hm,w10⟩=>?_;have ap:=vP ([]++pO fp s7.heap) s10 σ8 H10 (.ref s2.heap.objs.size) [y] (.ref s2.heap.objs.size) [v] (λ_ H'=>H'=upd H10 s2.heap.objs.size (.lst (zs++[y]))) I10 rfl (.cons r10 .nil) ⟨_,_,_,rfl,rfl,hz,hl,rfl⟩
    refine thn ap λ_ s11 ⟨_,H11,I11,_,e11⟩=>?_;subst e11;exact again I11 hm w10
   |false=>
    rw[if_neg Ap]at q9 ⊢;obtain⟨m',hm,w9⟩:=q9;exact again I9 hm w9
 exact codeAny_compStart_list (loop _ rfl) (T.self _ 0 _ _ _ st4 (loop _ rfl))
section
variable {elt:Expr} {spos py:Pos} {wi:TI}
def dB(hc:X.calm=true)(hi:PI X tg iter wi)(ck:ClOk X N scope cl vals)(hcell:∀y∈scope.names,y.2≠.cell)(hkind:scope.kind=.function)(hnames:∀x∈scope.names,x.2=.local->scope.names.lookup x.1=some .local)(hg:∀C s₀ H₀ ex,PG (cxC X N scope cl C s₀ H₀ ex) tg g)(ht:∀C s₀ H₀ ex,PF (cxC X N scope cl C s₀ H₀ ex) ifs tests)(he:∀C s₀ H₀ ex,PE (cxC X N scope cl C s₀ H₀ ex) elt te)(hs:∀x,foldedSetIterable iter X.env x=pure x:=by intro _;rfl):PE X (.ListComp elt [⟨tg,iter,ifs,0⟩] scope pos) (cXC wi g tests te vals):=by
 intro pins s σ H Q I h;rw[eval_ListComp];refine wpAny_comprehension_free (use:=none) rfl hs ck.clos hkind hnames (thn (hi pins s σ H _ I h) λv s1 h1=>thn h1 λitv s2 h2=>?_);obtain⟨it,fp,tn,J,H2,e,I2,T,st2,f2,q⟩:=h2;subst e;refine aQJ (RR:=λacc C=>compPost (model X.prog X.w) X.A X.xe none (EP X pins σ Q) acc C) I2 T st2 f2 hc ck hcell hkind hg ht he q λD C s' H' m hn q' back _=>?_;exact⟨m,hn,λh'' hsb=>⟨.ref D,H',back h'' hsb,rfl,q'⟩⟩
def lL{i:Nat}(hN:X.N.Nodup)(hix:X.N[i]?=some x)(hx:Loc X.env.scope x)(hc:X.calm=true)(hi:PI X tg iter wi)(ck:ClOk X N scope cl vals)(hcell:∀y∈scope.names,y.2≠.cell)(hkind:scope.kind=.function)(hnames:∀x∈scope.names,x.2=.local->scope.names.lookup x.1=some .local)(hg:∀C s₀ H₀ ex,PG (cxC X N scope cl C s₀ H₀ ex) tg g)(ht:∀C s₀ H₀ ex,PF (cxC X N scope cl C s₀ H₀ ex) ifs tests)(he:∀C s₀ H₀ ex,PE (cxC X N scope cl C s₀ H₀ ex) elt te)(hsw:swapsWith (.ListComp elt [⟨tg,iter,ifs,0⟩] scope pos) (some (.Name x py)) spos.line X.env=pure true:=by rfl)(hf:X.fn x=true\/X.env.scope.names.lookup x=some .local:=by first|exact .inl rfl|exact .inr rfl|assumption)(hs:∀x,foldedSetIterable iter X.env x=pure x:=by intro _;rfl):PS X (.Assign [.Name x py] (.ListComp elt [⟨tg,iter,ifs,0⟩] scope pos) spos) (bJ8 (cXC wi g tests te vals) (pC i)):=by
 intro pins s σ H D I h;rw[exec_Assign_Name_used _ _ _ _ hsw];refine Ae (Fj (Ae ?_));show wpAny _ X.A (do let _ <-comprehension (.ListComp elt [⟨tg,iter,ifs,0⟩] scope pos) scope X.env _ (newList []) false (eval iter X.env) (some (assign (.Name x py) X.env))) _ _ s
 refine Ae (Ci (wpAny_comprehension_free (use:=some (assign (.Name x py) X.env)) (Q:=λ_ s'=>SP X pins D .next s') rfl hs ck.clos hkind hnames
  (thn (hi pins s σ H _ I h) λv s1 h1=>thn h1 λitv s2 h2=>?_)) (λ_ s' hq=>Ao (Ao hq)) λ_ _ e=>e)
 obtain⟨it,fp,tn,J,H2,e,I2,T,st2,f2,q⟩:=h2;subst e;refine aQJ (RR:=λacc C=>compPost (model X.prog X.w) X.A X.xe (some (assign (.Name x py) X.env)) (λ_ s'=>SP X pins D .next s') acc C) I2 T st2 f2 hc ck hcell hkind hg ht he q λDl C s' H' m hn q' back fC=>?_;show wpAny _ X.A (assign (.Name x py) X.env (.ref Dl)) _ _ s'
 have I':Inv X pins σ H' s':=back s'.heap (Heap.SameBut.refl ..)
 refine wpAny_assign_Name (wF I' hN hix hx (v:=.ref Dl) rfl (λs'' I'' hsb=>?_) hf);obtain⟨a,hsb,ha⟩:=hsb;have hCa:C≠a:=by
  rcases ha with z|z
  ·rw[z];exact fC.2.1
  ·exact λe=>fC.2.2.2.2.1 x a z e.symm
 refine⟨m,hn.sameBut hsb hCa,λh3 hsb3=>?_⟩;exact⟨σ.set i (some (.ref Dl)),H',I''.turned (t':=s''.toks) (λb o hb e=>(hsb3.2 b hb).trans e) fC.1 fC.2.1 fC.2.2.2.1 fC.2.2.2.2.1 fC.2.2.2.2.2,q'⟩
def oJ(hfree:∀x∈scope.names,x.2≠.free)(hcell:∀y∈scope.names,y.2≠.cell):ClOk X N scope [] (λ_=>N.map λ_=>none) where
 clos:=closureFor_none hfree
 sub:=λx c h=>nomatch h
 has:=λx h=>by
  have e:(relabel scope X.env).names=scope.names:=by
   show List.map _ scope.names=scope.names
   refine map_eq_self λy hy=>?_;obtain⟨n,k⟩:=y;have:(k==NameKind.free)=false:=by simpa using hfree _ hy
   simp[this]
  rw[e]at h;rcases h with h|h
  ·exact absurd rfl (hcell _ (Dm h))
  ·exact absurd rfl (hfree _ (Dm h))
 len:=λσ=>by simp
 val:=λσ i x v h1 h2=>by
  rw[Ah]at h2;cases e:N[i]? with
  |none=>rw[e]at h2;cases h2
  |some y=>rw[e]at h2;cases h2
end
def dQY{J:It}{xs:List V}{ok:Hp->Prop}(f:V->Option V)(hgo:∀(i:Nat) H,ok H->i<xs.length->J.go i H)(hst:∀H,ok H->J.stop xs.length H)(hy:∀(i:Nat) H x H',ok H->J.yld i H x H'->H'=H/\xs[i]?=some x)(hok:∀D ys,H1 D=none->ok (upd H1 D (.lst ys)))(hlen:xs.length<sizeLine)(hs:∀(i:Nat) x Hc (A:VK) (B:Hp->Prop),xs[i]?=some x->ok Hc->(match f x with|some y=>A y Hc|none=>B Hc)->g x σ0 Hc λσ2 H2=>Wk σ0 σ2/\tests σ2 H2 λb H3=>if b=true then te σ2 H3 A else B H3)(fin:∀D,H1 D=none->Q (.ref D) (upd H1 D (.lst (xs.filterMap f)))):eI g tests te σ0 Q J H1:=by
 intro D hD;refine⟨λi m Hc=>m=xs.length-i/\i<=xs.length/\Hc=upd H1 D (.lst ((xs.take i).filterMap f)),⟨xs.length,by simp,Nat.zero_le _,by simp⟩,?_⟩
 rintro i m Hc ⟨rfl,hi,rfl⟩;by_cases hlt:i<xs.length
 ·refine .inr ⟨hgo i _ (hok D _ hD) hlt,λx H' y=>?_⟩;obtain⟨e,hx⟩:=hy i _ x H' (hok D _ hD) y;subst e;refine hs i x _ _ _ hx (hok D _ hD) ?_;have tk:xs.take (i+1)=xs.take i++[x]:=by rw[Bc,hx];rfl
  cases e:f x with
  |some y=>
   refine⟨_,aE,?_,xs.length-(i+1),by omega,rfl,hlt,?_⟩
   ·have:=Co f (xs.take i)
    rw[Bx]at this;omega
   ·rw[bQQ,tk,Bu];simp[e]
  |none=>
   refine⟨xs.length-(i+1),by omega,rfl,hlt,?_⟩
   rw[tk,Bu];simp[e]
 ·have e:i=xs.length:=by omega
  subst e;rw[Br];exact .inl ⟨hst _ (hok D _ hD),fin D hD⟩
def bJC(f:Nat->Option V)(hl:z.length<sizeLine)(hs:∀(i:Nat) c Hc (A:VK) (B:Hp->Prop),z.cps.toList[i]?=some c->(match f c with|some y=>A y Hc|none=>B Hc)->g (.str ⟨#[c]⟩) σ0 Hc λσ2 H2=>Wk σ0 σ2/\tests σ2 H2 λb H3=>if b=true then te σ2 H3 A else B H3)(fin:∀D,H1 D=none->Q (.ref D) (upd H1 D (.lst (z.cps.toList.filterMap f)))):eI g tests te σ0 Q (Its z) H1:=by
 have hz:z.cps.toList.length=z.length:=by simp[Str.length]
 have hz2:z.cps.size=z.length:=rfl
 refine dQY (xs:=z.cps.toList.map λc=>.str ⟨#[c]⟩) (ok:=λ_=>True) (λx=>match x with|.str y=>f (y.cps.toList.headD 0)|_=>none) (λi H _ h=>?_) (λH _=>?_) (λi H x H' _ y=>?_) (λ_ _ _=>trivial) (by rw[Ab,hz];exact hl) (λi x Hc A B hx _ h=>?_) (λD hD=>?_)
 ·rw[Ab,hz]at h;exact h
 ·show z.cps.size<=_
  rw[Ab,hz];exact Ai _
 ·obtain⟨e,c,hc,hx⟩:=y;refine⟨e,?_⟩;rw[Ah,Dy,hc,hx];rfl
 ·rw[Ah]at hx;cases e:z.cps.toList[i]? with
  |none=>rw[e]at hx;cases hx
  |some c=>rw[e]at hx;cases hx;exact hs i c Hc A B e h
 ·have q:=fin D hD
  rw[List.filterMap_map];exact q
def eQF{wi:TI}(h:wi σ H λJ H1=>eI g tests te (vals σ) Q J H1):cXC wi g tests te vals σ H Q:=h
def eJS{Q:Bool->Hp->Prop}(h:Q true H):eZ4 σ H Q:=h
def clF(env:Env):List (Str×NameKind)->List (Str×Addr)->List (Str×Addr)
 |[],acc=>acc
 |(n,k)::r,acc=>if k == .free then clF env r ((n,(env.cells.lookup n).getD 0)::acc) else clF env r acc
def bZ2(ix:List (Option Nat)):St->St:=λσ=>ix.map λo=>match o with|none=>none|some j=>(σ[j]?).join
def eJ9(N XN:List Str)(sn dn:List (Str×NameKind))(ix:List (Option Nat)):Bool:=
 ix.length==N.length&&(sn.all λy=>y.2 != .cell&&(y.2 != .free || dn.lookup y.1==some .cell))&&decide ((sn.map (·.1)).Nodup) &&
 ((List.range N.length).all λi=>match ix[i]? with|some (some j)=>N[i]? == XN[j]? && (match N[i]? with|some x=>sn.lookup x==some .free|none=>false)|_=>true)
def xO:∀(names:List (Str×NameKind)) (acc:List (Str×Addr)),(∀y∈names,y.2=.free->∃c,env.cells.lookup y.1=some c)->
 (forIn names acc (λ(x:Str×NameKind) (cs:List (Str×Addr))=>(match x with
  | (name,kind)=>if (kind == NameKind.free)=true then do
      let a <-cellOf env name
      pure (ForInStep.yield ((name,a)::cs))
   else pure (ForInStep.yield cs):Sem (ForInStep (List (Str×Addr))))))=(pure (clF env names acc):Sem (List (Str×Addr)))
 |[],acc,_=>rfl
 |(n,k)::r,acc,h=>by
  rw[List.forIn_cons];unfold clF;cases e:k==NameKind.free with
  |false=>
   simp only[e,Bool.false_eq_true,if_false,pure_bind];exact xO r acc λy hy=>h y (Am _ hy)
  |true=>
   obtain⟨c,hc⟩:=h (n,k) List.mem_cons_self (by simpa using e)
   have hc':env.cells.lookup n=some c:=hc
   simp only[e,if_true,cellOf,hc',Option.getD_some,pure_bind];exact xO r _ λy hy=>h y (Am _ hy)
def yA:∀(names:List (Str×NameKind)) (acc:List (Str×Addr)) {x:Str} {c:Addr},(clF env names acc).lookup x=some c->
 acc.lookup x=some c\/((x,NameKind.free)∈names/\c=(env.cells.lookup x).getD 0)
 |[],acc,x,c,h=>.inl h
 |(n,k)::r,acc,x,c,h=>by
  unfold clF at h;cases e:k==NameKind.free with
  |false=>
   rw[e]at h;rcases yA r acc (by simpa using h) with z|⟨z,q⟩
   ·exact .inl z
   ·exact .inr ⟨Am _ z,q⟩
  |true=>
   rw[e]at h;have ek:k=.free:=by simpa using e
   rcases yA r _ (by simpa using h) with z|⟨z,q⟩
   ·rw[Di]at z;cases ex:x==n with
    |true=>
     rw[ex]at z;have exn:x=n:=by simpa using ex
     subst exn;subst ek;cases z;exact .inr ⟨Al,rfl⟩
    |false=>rw[ex]at z;exact .inl z
   ·exact .inr ⟨Am _ z,q⟩
def yW:∀(names:List (Str×NameKind)) (acc:List (Str×Addr)) {x:Str},(acc.lookup x).isSome=true->((clF env names acc).lookup x).isSome=true
 |[],acc,x,h=>h
 |(n,k)::r,acc,x,h=>by
  unfold clF;split
  ·refine yW r _ ?_;rw[Di];cases ex:x==n with
   |true=>rfl
   |false=>exact h
  ·exact yW r acc h
def rJ:∀(names:List (Str×NameKind)) (acc:List (Str×Addr)) {x:Str},(x,NameKind.free)∈names->((clF env names acc).lookup x).isSome=true
 |(n,k)::r,acc,x,h=>by
  unfold clF;rcases Az.mp h with z|z
  ·cases z;simp only[beq_self_eq_true,if_true];refine yW r _ ?_;rw[Di,Fv];rfl
  ·split
   ·exact rJ r _ z
   ·exact rJ r acc z
def jK:∀ {names:List (Str×NameKind)} {k':NameKind},(names.map λ(n,k)=>if (k==NameKind.free&&env.scope.kind == .function&&env.kindOf n==some .cell) then (n,NameKind.cell) else (n,k)).lookup x=some k'->
 ∃k,(x,k)∈names/\(k'=k\/(k=.free/\k'=.cell))
 |[],_,h=>by simp at h
 |(n,k)::r,k',h=>by
  rw[As]at h;dsimp only at h;cases hc:(k==NameKind.free&&env.scope.kind == .function&&env.kindOf n==some .cell) with
  |true=>
   rw[hc,if_pos rfl,Di]at h;cases ex:x==n with
   |true=>
    rw[ex]at h;cases h;have:x=n:=by simpa using ex
    subst this;have hk:k=.free:=by
     have:=(Ea _ _).mp hc
     have:=(Ea _ _).mp this.1
     simpa using this.1
    exact⟨k,Al,.inr ⟨hk,rfl⟩⟩
   |false=>
    rw[ex]at h;obtain⟨k1,h1,h2⟩:=jK h;exact⟨k1,Am _ h1,h2⟩
  |false=>
   rw[hc,if_neg Ap,Di]at h;cases ex:x==n with
   |true=>
    rw[ex]at h;cases h;have:x=n:=by simpa using ex
    subst this;exact⟨k,Al,.inl rfl⟩
   |false=>
    rw[ex]at h;obtain⟨k1,h1,h2⟩:=jK h;exact⟨k1,Am _ h1,h2⟩
def qQ(hk:env.scope.kind=.function)(hx:env.kindOf x=some .cell):∀ {names:List (Str×NameKind)},names.lookup x=some .free->
 (names.map λ(n,k)=>if (k==NameKind.free&&env.scope.kind == .function&&env.kindOf n==some .cell) then (n,NameKind.cell) else (n,k)).lookup x=some .cell
 |[],h=>by simp at h
 |(n,k)::r,h=>by
  rw[As];dsimp only;rw[Di]at h;cases ex:x==n with
  |true=>
   rw[ex]at h;cases h;have:x=n:=by simpa using ex
   subst this;rw[hk,hx];simp[List.lookup_cons]
  |false=>
   rw[ex]at h;have ih:=qQ hk hx h
   split<;>(rw[Di,ex];exact ih)
def jP{N:List Str}(XN:List Str)(sc:Scope)(ix:List (Option Nat))(hN:X.N=XN)(hsc:X.env.scope=sc)(hk:sc.kind=.function)(hcs:∀x,sc.names.lookup x=some .cell->∃c,X.env.cells.lookup x=some c)(c:eJ9 N XN scope.names sc.names ix=true):ClOk X N scope (clF X.env scope.names []) (bZ2 ix):=by
 unfold eJ9 at c;simp only[Bool.and_eq_true,decide_eq_true_eq,List.all_eq_true,beq_iff_eq]at c;obtain⟨⟨⟨c0,c1⟩,c2⟩,c3⟩:=c;have fr:∀y,(y,NameKind.free)∈scope.names->sc.names.lookup y=some .cell:=λy hy=>by
  have z:=(c1 _ hy).2
  simpa using z
 have nocell:∀y,(y,NameKind.cell)∉scope.names:=λy hy=>by
  have z:=(c1 _ hy).1
  simp at z
 refine⟨?_,λx c h=>?_,λx h=>?_,λσ=>?_,λσ i x v h1 h2=>?_⟩
 ·unfold closureFor;simp only[bind_pure];exact xO scope.names [] λy hy hf=>hcs y.1 (fr y.1 (by rw[<-hf];exact hy))
 ·rcases yA _ _ h with z|⟨z,q⟩
  ·simp at z
  ·obtain⟨c',e⟩:=hcs x (fr x z);rw[q,e];rfl
 ·have:∃ k,(x,k)∈scope.names/\k=.free:=by
   rcases h with h|h
   ·obtain⟨k,h1,h2⟩:=jK h;rcases h2 with z|⟨z,_⟩
    ·subst z;exact absurd h1 (nocell x)
    ·exact⟨k,h1,z⟩
   ·obtain⟨k,h1,h2⟩:=jK h;rcases h2 with z|⟨z,z2⟩
    ·exact⟨k,h1,z.symm⟩
    ·exact⟨k,h1,z⟩
  obtain⟨k,h1,rfl⟩:=this;exact Cm.mp (rJ scope.names [] h1)
 ·unfold bZ2;rw[Ab,c0]
 ·unfold bZ2 at h2;rw[Ah]at h2;cases e:ix[i]? with
  |none=>rw[e]at h2;cases h2
  |some o=>
   rw[e]at h2;cases o with
   |none=>cases h2
   |some j=>
    have hi:i<N.length:=(Ad.mp h1).1
    have z:=c3 i (Bw.mpr hi)
    rw[e,h1]at z;simp only[Bool.and_eq_true,beq_iff_eq]at z;have hv:σ[j]?=some (some v):=by
     have h3:(σ[j]?).join=some v:=by simpa using h2
     cases e2:σ[j]? with
     |none=>rw[e2]at h3;cases h3
     |some o=>rw[e2]at h3;cases o with
      |none=>cases h3
      |some u=>cases h3;rfl
    have hm:(x,NameKind.free)∈scope.names:=Dm z.2
    have hx:=fr x hm
    refine⟨j,by rw[hN];exact z.1.symm,hv,by rw[hsc];exact hx,Cm.mp (rJ scope.names [] hm),?_⟩
    exact qQ (by rw[hsc];exact hk) (by show X.env.scope.names.lookup x=_;rw[hsc];exact hx) z.2
section
open PySem.AutoSeq1 (wpAny_loadPart')
def cX8{α:Type}{c:Bool}{x y:Sem α}{Q:α->Shared->Prop}(h1:wpAny M A x Q E s)(h2:wpAny M A y Q E s):wpAny M A (if c=true then x else y) Q E s:=by
 cases c
 ·exact h2
 ·exact h1
def bXB(l:Addr)(its:Array Value)(n:Nat)(dc:Option Addr)(sl:Array (Option Value))(k:Int)(t:Tok)(hk:Builtin.SmallTypes.fitsIndex k=true):Meets (Builtin.«enumerate.__new__» ⟨[.type "enumerate",.ref l],[("start",.int k t)]⟩) (λ_ R s=>s.heap.get? l=some ⟨.type "list",dc,.seq its n,sl⟩/\
 R (.ok (.ret (.ref (s.heap.push {cls:=.type "list_iterator",data:=.fields #[.ref l,.int 0 0]}).objs.size)))
  {s with heap:=(s.heap.push {cls:=.type "list_iterator",data:=.fields #[.ref l,.int 0 0]}).push ⟨.type "enumerate",none,.fields #[.none,.bool false,.ref s.heap.objs.size,rawInt k,.none,.none],#[]⟩}):=
 .of_wp λprog w A R s h=>by
  obtain⟨hp,g,d,tk,os⟩:=s;obtain⟨hl,h⟩:=h;have hsub:=sub_enumerate
  have hL:Heap.IsList hp l its:=⟨_,hl,rfl,n,rfl⟩
  have hk':(!Builtin.SmallTypes.fitsIndex k)=false:=by rw[hk];rfl
  wp_walk using wpAny_loadPart' hl
  refine wpAny_stack_any λst=>Ao ?_;refine cX8 ?_ ?_ <;>
  ·wp_walk using (wpAny_loadPart' hl),(Fn (s:=⟨hp,g,d,tk,os⟩) hL)
   exact⟨_,rfl,h⟩
def oG{Bn:Builtin}{args:List Value}{kw:List (Str×Value)}{S:PySem.Spec}{Q Q1:Q0}(ft:TypeCalled T newId "object.__init__")(hct:checkTypeCall T ⟨args,kw⟩=pure ())(hcn:checkBuiltinCall newId ⟨.type T::args,kw⟩=pure ())(eN:entryFor table newId=some Bn)(g:Meets (Bn ⟨.type T::args,kw⟩) S)(h:S A.in1 (wants Q1 E) s)(hnx:∀o s1,Q1 o s1->s1.TypeIs o T/\argsOk "object.__init__" ⟨o::args,kw⟩/\∃Si,Meets (Builtin.«object.__init__» ⟨o::args,kw⟩) Si/\Si A.in1 (wants (λr s2=>r=.none/\Q o s2) E) s1):wpAny (model prog w) A (call (.type T) args kw) Q E s:=by
 obtain⟨c,tl,hmro⟩:=ft.mro;have hmade:=ft.made
 have hsub:=ft.sub
 have h1:=ft.notType
 have h2:=ft.canCreate
 refine Er (codeAny_of_tree (show wpAny _ _ (callAny (.type T) _) _ _ _ from Ao ⟨Code.quiet_builtin _ (by decide +kernel),codeAny_builtin F.entry_type_call ?_⟩))
 rw[Around.under_plain (weight_type_call_type T args kw) (units_type_call_type T args kw)];repeat (any_goals first|assumption|wp_step)
 refine Ep (Ef ft.plain eN (wpAny_of_eq hcn (g prog w A.in1 _ s h))) ?_;rintro(e|fl) s1 hr
 ·exact hr
 ·cases fl with
  |ret o=>
   obtain⟨hT,hok,Si,gi,hsi⟩:=hnx _ _ hr;have hli:=ft.init.lookup
   have hbi:=ft.init.bind o
   repeat (any_goals first|assumption|wp_step)
   refine Ep (Ef ft.init.plain F.entry_object_init (ft.init.check _ _ _ _ _ _ _ _ hT hok (gi prog w A.in1 _ s1 hsi))) ?_;rintro(e|fl2) s2 hr2
   ·exact hr2
   ·cases fl2 with
    |ret r=>
     obtain⟨rfl,hq⟩:=hr2;repeat (any_goals first|assumption|wp_step)
    |_=>exact hr2.elim
  |_=>exact hr.elim
def bQY{self:Value}{rest:List Value}{kw:List (Str×Value)}(hl:typeLookup (.type T) "__init__"=pure (some (.builtin "object.__init__")))(hm:Bind.madeBy (.type T)=pure (some newId))(hne:(some newId != some "object.__new__")=true):Meets (Builtin.«object.__init__» ⟨self::rest,kw⟩) (λ_ R s=>s.TypeIs self T/\R (.ok (.ret .none)) s):=by
 refine Meets.of_wp λprog w A R s hs=>?_;obtain⟨hT,hq⟩:=hs;cases rest with
 |nil=>
  cases kw with
  |nil=>exact Ao ⟨_,rfl,hq⟩
  |cons a r=>
   repeat (any_goals first|assumption|wp_step)
   exact⟨_,rfl,hq⟩
 |cons a r=>
  repeat (any_goals first|assumption|wp_step)
  exact⟨_,rfl,hq⟩
def nX{l:Addr}{its:Array Value}{k:Int}{t:Tok}{Q:Q0}(hk:Builtin.SmallTypes.fitsIndex k=true)(hL:s.heap.IsList l its)(h:∀h',IsEnum h' (s.heap.objs.size+1) s.heap.objs.size k .none->h'.IsListIter s.heap.objs.size l 0->h'.objs.size=s.heap.objs.size+2->(∀b o,s.heap.get? b=some o->h'.get? b=some o)->Q (.ref (s.heap.objs.size+1)) {s with heap:=h'}):wpAny (model prog w) A (call (.type "enumerate") [.ref l] [("start",.int k t)]) Q E s:=by
 obtain⟨⟨c,dc,dt,sl⟩,hl,hc,n,hd⟩:=hL;obtain rfl:c=.type "list" := hc;obtain rfl:dt=.seq its n:=hd;have hz:(s.heap.push {cls:=.type "list_iterator",data:=.fields #[.ref l,.int 0 0]}).objs.size=s.heap.objs.size+1:=Fs ..
 refine oG (Q1:=λo s1=>s1.TypeIs o "enumerate"/\Q o s1) F.called_enumerate (by kernel_rfl) (by kernel_rfl) F.entry_enumerate_new (bXB l its n dc sl k t hk) ⟨hl,?_⟩ λo s1 hq=>⟨hq.1,?_,_,bQY F.called_enumerate.init.lookup F.called_enumerate.made (by decide),hq.1,rfl,hq.2⟩
 ·show _/\_
  rw[hz];have he:IsEnum ((s.heap.push {cls:=.type "list_iterator",data:=.fields #[.ref l,.int 0 0]}).push ⟨.type "enumerate",none,.fields #[.none,.bool false,.ref s.heap.objs.size,rawInt k,.none,.none],#[]⟩) (s.heap.objs.size+1) s.heap.objs.size k .none:=by
   have q:=Ay (s.heap.push {cls:=.type "list_iterator",data:=.fields #[.ref l,.int 0 0]}) (o:=⟨.type "enumerate",none,.fields #[.none,.bool false,.ref s.heap.objs.size,rawInt k,.none,.none],#[]⟩) rfl
   rwa [hz]at q
  exact⟨⟨_,he,rfl⟩,h _ he ⟨_,Ag _ (Ay _ rfl),rfl,rfl⟩ (by rw[Fs,hz]) λb o x=>Ag _ (Ag _ x)⟩
 ·unfold argsOk;rw[signature?_of (n:=['_','_','t','i','n','i','_','_']) (o := "tcejbo".toList) (by kernel_rfl) F.owner_object]
  kernel_rfl
def gP{P:Nat->Value->Prop}{S:Nat->Heap->Prop}(k:Nat)(D:Draws prog w A it fp n P S):Draws prog w A it fp (k+n) (λj v=>P (j-k) v) (λj h=>k<=j/\S (j-k) h) where
 live:=λi h st=>D.live _ h st.2
 frame:=λi h h' st kk=>⟨st.1,D.frame _ h h' st.2 kk⟩
 item:=λi s Q E hi st hQ=>D.item (i-k) s Q E (by have:=st.1;omega) st.2 λx h' tk hP hS sb=>hQ x h' tk hP ⟨by have:=st.1;omega,by rw[show i+1-k=i-k+1 by have:=st.1;omega];exact hS⟩ sb
 done:=λs Q E st hE=>D.done s Q E (by have q:=st.2;rwa [show k+n-k=n by omega]at q) hE
def Inv.turnLaid{ch:List Addr}{o:HO}{t':Nat}(I:Inv X pins σ H s)(hch:∀b∈ch,lX X pins H b)(k:∀b u,b∉ch->s.heap.get? b=some u->h'.get? b=some u)(hp:s.heap.objs.size<=a)(new:ObjOk X.prog X.w (upd H a o) h' a o):Inv X pins σ (upd H a o) {s with heap:=h',toks:=t'}:=by
 have hn:=I.hok.fresh hp
 have nch:∀b u,H b=some u->b∉ch:=λb u e z=>by rw[(hch b z).1]at e;cases e
 refine I.step (g':=s.gens) (d':=s.drawn) (ch:=ch) (λb hb=>?_) (λb o _ _ hc e _=>k b o hc e) (λb o _ _ hc e _=>⟨o.slots,k b o hc e⟩) (λb o _ e n=>?_) (λb o hc e=>⟨o,k b o hc e⟩)
  (λb xs e=>by rw[aJ (bL e hn)];exact e) (λb o u e=>by rw[aJ (bL e hn)];exact e) (λb ps e=>⟨#[],by rw[aJ (bL e hn),e];simp⟩) (λm hm=>?_) (λb u e=>?_) I.bare
 ·obtain⟨_,q1,_,q3,q4,q5⟩:=hch b hb;exact⟨q3,q1,q4,q5⟩
 ·rw[aJ (Bj (Bf (Av e) hp))];exact n
 ·obtain⟨ob,es,ep,ho,r⟩:=hm;exact⟨ob,es,ep,k _ ob (λz=>(hch _ z).2.1 rfl) ho,r⟩
 ·by_cases hb:b=a
  ·subst hb;rw[aE]at e;cases e;exact new
  ·rw[aJ hb]at e;refine(I.hok b u e).stay (λc v hc q=>k c v ?_ q) (λc q=>by rw[aJ (bL q hn)];exact q) λc xs q=>by rw[aJ (bL q hn)];exact q
   rcases hc with z|z
   ·rw[z];exact nch b u e
   ·exact nch c _ z
def Inv.turnAll{ch:List Addr}{t':Nat}(I:Inv X pins σ H s)(hch:∀b∈ch,lX X pins H b)(k:∀b u,b∉ch->s.heap.get? b=some u->h'.get? b=some u):Inv X pins σ H {s with heap:=h',toks:=t'}:=by
 have nch:∀b u,H b=some u->b∉ch:=λb u e z=>by rw[(hch b z).1]at e;cases e
 refine I.step (g':=s.gens) (d':=s.drawn) (ch:=ch) (λb hb=>?_) (λb o _ _ hc e _=>k b o hc e) (λb o _ _ hc e _=>⟨o.slots,k b o hc e⟩) (λb o _ e n=>n) (λb o hc e=>⟨o,k b o hc e⟩)
  (λb xs e=>e) (λb o u e=>e) (λb ps e=>⟨#[],by rw[e];simp⟩) (λm hm=>?_) (λb u e=>?_) I.bare
 ·obtain⟨_,q1,_,q3,q4,q5⟩:=hch b hb;exact⟨q3,q1,q4,q5⟩
 ·obtain⟨ob,es,ep,ho,r⟩:=hm;exact⟨ob,es,ep,k _ ob (λz=>(hch _ z).2.1 rfl) ho,r⟩
 ·refine(I.hok b u e).stay (λc v hc q=>k c v ?_ q) (λc q=>q) λc xs q=>q;rcases hc with z|z
  ·rw[z];exact nch b u e
  ·exact nch c _ z
def Ite(K:W.Frag)(a:Addr)(k:Nat):It:=
 ⟨λi H=>∃xs x,SqL K H a xs/\xs[i]?=some x,λi H v H'=>∃p x,H p=none/\v=.ref p/\H'=upd H p (.tup [.int ((k+i:Nat):Int),x])/\∀xs,SqL K H a xs->xs[i]?=some x,λi H=>∃xs,SqL K H a xs/\xs.length=i⟩
def bXD(a e it:Addr)(k:Nat)(hei:e≠it):Turn P w K (.Tuple elts x1 tp) (Ite K a k) [e,it] e (λi h=>(∃old,IsEnum h e it ((k+i:Nat):Int) old)/\h.IsListIter it a i) where
 mem:=by simp
 obj:=λi h st b hb=>by
  obtain⟨⟨old,he⟩,o,ho,c,d⟩:=st;rcases Az.mp hb with z|z
  ·subst z;exact⟨_,he,λv z=>by cases z⟩
  ·rw[Ak.mp z];exact⟨o,ho,λv z=>by rw[d]at z;cases z⟩
 keep:=λi h h' st kk=>⟨let ⟨old,he⟩:=st.1;⟨old,kk e (by simp) _ he⟩,st.2.at λo q=>kk it (by simp) o q⟩
 item:=by
  intro X hP hw hK hc i pins s σ H E I hf st hg;subst hP hw hK;obtain⟨xs,x,hq,hx⟩:=hg;obtain⟨its,rv,p,hz⟩:=I.list hq;obtain⟨u,hu,ru⟩:=rv.get hx;obtain⟨⟨old,he⟩,hit⟩:=st;have hai:a≠it:=by
   rintro rfl;obtain⟨o,ho,c,_⟩:=hit;obtain⟨o2,ho2,c2,_⟩:=p.isList;rw[ho]at ho2;cases ho2;rw[c]at c2;injection c2 with c2;exact absurd c2 (by decide)
  have hae:a≠e:=by
   rintro rfl;obtain⟨o2,ho2,c2,_⟩:=p.isList;rw[he]at ho2;cases ho2;injection c2 with c2;exact absurd c2 (by decide)
  have hl:=rv.length
  have hil:i<its.length:=(Ad.mp hu).1
  have D:=gP k (Draws.list (prog:=X.prog) (w:=X.w) (A:=X.A.in1) (show X.A.in1.handled=none from I.ok.hd hc) it a hai its.toArray)
  refine wpAny_pyNext_enum_itemD D (i:=k+i) he ⟨Fw _ _,by rw[Cz];exact⟨hit,p.isList⟩⟩ (by rw[Bk];omega) hei (λz=>by
   rcases Az.mp z with z|z
   ·exact hei z
   ·exact hae (Ak.mp z).symm) λy h1 tk hP ho hS hT hsz kk=>?_
  refine⟨_,rfl,wpAny_letOwnedTupleGo_enum ho λh2 he2 hs2=>?_⟩;have ey:y=u:=by
   have hP':its.toArray[k+i-k]?=some y:=hP
   rw[Cz]at hP';have:its[i]?=some y:=by simpa using hP'
   rw[hu]at this;cases this;rfl
  subst ey;have hTe:s.heap.objs.size≠e:=Fb (Av he)
  have hTi:s.heap.objs.size≠it:=by obtain⟨o,q,_⟩:=hit;exact Fb (Av q)
  have hT2:h2.get? s.heap.objs.size=some {cls:=.type "tuple",data:=.seq #[.int ((k+i:Nat):Int) tk,y]}:=(hs2.2 _ hTe).trans hT
  have hS':h1.IsListIter it a (i+1):=by
   have q:=hS.2.1
   rwa [show k+i+1-k=i+1 by omega]at q
  have I2:Inv X pins σ (upd H s.heap.objs.size (.tup [.int ((k+i:Nat):Int),x])) {s with heap:=h2,toks:=tk+1}:=by
   refine I.turnLaid (ch:=[e,it]) hf (λb u hb q=>(hs2.2 b (λz=>hb (by simp[z]))).trans (kk b u (λz=>hb (by simp[z])) (λz=>hb (by simp[z])) q)) (Nat.le_refl _) ⟨bP (by show 2<=_;omega),[.int ((k+i:Nat):Int) tk,y],.cons ⟨tk,rfl⟩ (.cons ru .nil),_,hT2,rfl,_,rfl⟩
  refine⟨.ref s.heap.objs.size,_,I2,rfl,⟨_,x,I.hok.fresh (Ai _),rfl,rfl,λys hy=>by rw[I.list_inj hy hq];exact hx⟩,⟨⟨y,he2⟩,hS'.at λo q=>(hs2.2 it hei.symm).trans q⟩,λb hb=>?_⟩
  rcases Az.mp hb with z|z
  ·rw[z,aJ hTe.symm];exact(hf e (by simp)).1
  ·rw[List.mem_singleton.mp z,aJ hTi.symm];exact(hf it (by simp)).1
 done:=by
  intro X hP hw hK hc i pins s σ H E I hf st hg;subst hP hw hK;obtain⟨xs,hq,hx⟩:=hg;obtain⟨its,rv,p,hz⟩:=I.list hq;obtain⟨⟨old,he⟩,hit⟩:=st;have hl:=rv.length
  have hai:a≠it:=by
   rintro rfl;obtain⟨o,ho,c,_⟩:=hit;obtain⟨o2,ho2,c2,_⟩:=p.isList;rw[ho]at ho2;cases ho2;rw[c]at c2;injection c2 with c2;exact absurd c2 (by decide)
  have D:=gP k (Draws.list (prog:=X.prog) (w:=X.w) (A:=X.A.in1) (show X.A.in1.handled=none from I.ok.hd hc) it a hai its.toArray)
  refine wpAny_pyNext_enum_endD D he ⟨Fw _ _,by rw[Cz,Bk,<-hl,hx];exact⟨hit,p.isList⟩⟩ λh' eb=>⟨rfl,?_⟩
  exact I.turnAll (t':=s.toks) (ch:=[e,it]) hf λb u hb q=>eb b u (λz=>hb (by simp[z])) q
 self:=λ_ _ _ _ _ st h=>let ⟨⟨_,he⟩,_⟩:=st;Gq he h
section
variable {p kp:Pos}
def aJD(R:Addr->Hp->Prop):List V->Hp->Prop:=λvs H=>match vs with|[.ref j]=>R j H|_=>False
def bQA{R:Addr->Hp->Prop}{vs:List V}(q:aJD R vs H):∃j,vs=[.ref j]/\R j H:=by
 unfold aJD at q;split at q
 ·exact⟨_,rfl,q⟩
 ·exact q.elim
def dZM(K:W.Frag)(ta:TA):TI:=λσ H R=>ta σ H (aJD λa H1=>onL (rdL H1 a) (R (Ite K a 0) H1))
def cQL(K:W.Frag)(ta tk:TA):TI:=λσ H R=>ta σ H (aJD λa H1=>tk σ H1 (sO λk H2=>(0<=k/\k<2^62)/\onL (rdL H2 a) (R (Ite K a k.toNat) H2)))
def xK{k:Nat}(I1:Inv X pins σ H1 s1)(he:IsEnum h' (s1.heap.objs.size+1) s1.heap.objs.size ((k:Nat):Int) .none)(hi:h'.IsListIter s1.heap.objs.size a 0)(hz:h'.objs.size=s1.heap.objs.size+2)(hk:∀b o,s1.heap.get? b=some o->h'.get? b=some o)(q:R (Ite X.K a k) H1):wpAny (model X.prog X.w) X.A (pyIter (.ref (s1.heap.objs.size+1))) (PIE X pins σ (.Tuple elts x1 tp) R) E {s1 with heap:=h'}:=by
 refine Gq (s:={s1 with heap:=h'}) he ⟨_,[s1.heap.objs.size+1,s1.heap.objs.size],_,_,H1,rfl,I1.kept (t':=s1.toks) hk,bXD a _ _ k (Nat.succ_ne_self _),⟨⟨_,he⟩,hi⟩,λb hb=>?_,q⟩
 have z:s1.heap.objs.size<=b:=by
  rcases Az.mp hb with z|z
  ·rw[z];exact Nat.le_succ _
  ·rw[Ak.mp z];exact Ai _
 exact I1.fpOk z (I1.hok.fresh z)
def jG(hg:Gl X "enumerate")(hm:X.mg "enumerate"=none)(ha:PA X [l] ta)(hs:starEach [l] X.env=[(false,eval l X.env)]:=by rfl):PI X (.Tuple elts x1 tp) (.Call (.Name "enumerate" p) [l] [] pos) (dZM X.K ta):=by
 intro pins s σ H R I h;refine Call_ (jN I hg hm boot_enumerate (Du (thn (ha pos pins s σ H _ I h) λus s1 ⟨vs,H1,I1,r1,q1⟩=>?_) hs rfl));obtain⟨a,rfl,q⟩:=bQA q1;obtain⟨u,rfl,ru⟩:=dR r1;cases ru;unfold onL at q;split at q
 ·rename_i xs ex
  obtain⟨its,rv,p,hz⟩:=I1.list (bF ex);exact call_enumerate_list p.isList λh' he hi hz hk=>xK I1 (k:=0) he hi hz hk q
 ·exact q.elim
def oM{args:List (Bool×Sem Value)}{kw:List (Option Str×Sem Value)}{Q:Q0}(h1:args.any (·.1)=false)(h2:kw.any (·.1.isNone)=false)(h:wpAny M A (evalArgs (.type T) true args kw) (λa s1=>wpAny M A (call (.type T) a.pos a.kw) Q E s1) E s):wpAny M A (callWith pos (.type T) [] args kw) Q E s:=by
 unfold callWith;refine Ae (Ck (Ci h (λa s1 q1=>Ae (Fj ?_)) λ_ _ x=>x));rw[h1,h2];exact Ae (Ao (Ae (Ci q1 (λr s2 hr=>Ae (Ck (wpAny_point (Ao hr)))) λ_ _ x=>x)))
def cQI{kx:Expr}(hg:Gl X "enumerate")(hm:X.mg "enumerate"=none)(ha:PA X [l] ta)(hk:PK X [⟨some "start",kx,kp⟩] tk)(hs:starEach [l] X.env=[(false,eval l X.env)]:=by rfl)(hks:keywordEach [⟨some "start",kx,kp⟩] X.env=[(some ("start" : Str),eval kx X.env)]:=by rfl):PI X (.Tuple elts x1 tp) (.Call (.Name "enumerate" p) [l] [⟨some "start",kx,kp⟩] pos) (cQL X.K ta tk):=by
 intro pins s σ H R I h;have hs2:backTo pos (starEach [l] X.env)=[(false,eval l X.env)]:=by rw[hs];rfl
 refine Dq (jN I hg hm boot_enumerate (oM (by rw[hs2];rfl) (by rw[hks];rfl) ?_))
 rw[hs2];refine evalArgs_kwB (by rw[hks];rfl) ?_
 rw[<-hs2];refine thn (ha pos pins s σ H _ I h) λus s1 ⟨vs,H1,I1,r1,q1⟩=>?_;obtain⟨a,rfl,q⟩:=bQA q1;refine thn (hk pos pins s1 σ H1 _ I1 q) λws s2 ⟨zs,H2,I2,r2,q2⟩=>?_;obtain⟨k,rfl,⟨k0,k1⟩,q⟩:=rG q2;obtain⟨u,rfl,ru⟩:=dR r1;cases ru;obtain⟨u,rfl,t,rfl⟩:=dR r2;unfold onL at q;split at q
 ·rename_i xs ex
  obtain⟨its,rv,p,hz⟩:=I2.list (bF ex);have e:(backToKw pos (keywordEach [⟨some "start",kx,kp⟩] X.env)).filterMap (·.1)=(["start"]:List Str):=by rw[hks];rfl
  rw[e];refine nX (by unfold Builtin.SmallTypes.fitsIndex;rw[Aj (by omega),Aj (by omega)];rfl) p.isList λh' he hi hz hk=>xK I2 (k:=k.toNat) ?_ hi hz hk q
  rw[show ((k.toNat:Nat):Int)=k by omega]
  exact he
 ·exact q.elim
end
section
variable {k:Nat}
def jA(Pv:Nat->St->Hp->Prop)(h0:Pv 0 σ H)(hl:∀i σ H,i<=xs.length->Pv i σ H->rdL H a=some xs)(hs:∀i x σ H p,xs[i]?=some x->Pv i σ H->H p=none->g (.ref p) σ (upd H p (.tup [.int ((k+i:Nat):Int),x])) λσ2 H2=>tb {D with nx:=Pv (i+1),ct:=Pv (i+1),bk:=D.nx} σ2 H2)(hd:∀σ H,Pv xs.length σ H->D.nx σ H):yZ (Ite K a k) g tb D σ H:=by
 refine⟨λi m σ H=>m=xs.length-i/\i<=xs.length/\Pv i σ H,⟨xs.length,by simp,Nat.zero_le _,h0⟩,?_⟩
 rintro i m σ H ⟨rfl,hi,p⟩;have hr:=hl i σ H hi p
 by_cases hlt:i<xs.length
 ·refine .inr ⟨⟨xs,xs[i],bF hr,by simp[hlt]⟩,Pv (i+1),λσ' H' p'=>⟨xs.length-(i+1),by omega,rfl,hlt,p'⟩,λx H' y=>?_⟩
  obtain⟨q,z,hq,rfl,rfl,hz⟩:=y;exact hs i z σ H q (hz xs (bF hr)) p hq
 ·have e:i=xs.length:=by omega
  subst e;exact .inl ⟨⟨xs,bF hr,rfl⟩,hd σ H p⟩
def aJ7(f:Nat->V->Option V)(ha:rdL H1 a=some xs)(hl:xs.length<sizeLine)(hs:∀(i:Nat) x Hc p (A:VK) (B:Hp->Prop),xs[i]?=some x->Same H1 Hc->Hc p=none->(∀Hd,Same (upd Hc p (.tup [.int ((k+i:Nat):Int),x])) Hd->match f i x with|some y=>A y Hd|none=>B Hd)->
 g (.ref p) σ0 (upd Hc p (.tup [.int ((k+i:Nat):Int),x])) λσ2 H2=>Wk σ0 σ2/\tests σ2 H2 λb H3=>if b=true then te σ2 H3 A else B H3)(fin:∀D Hd,H1 D=none->Same H1 Hd->rdL Hd D=some ((List.range xs.length).filterMap λi=>f i (xs.getD i .non))->Q (.ref D) Hd):eI g tests te σ0 Q (Ite K a k) H1:=by
 intro D hD;refine⟨λi m Hc=>m=xs.length-i/\i<=xs.length/\Same H1 Hc/\Hc D=some (.lst ((List.range i).filterMap λi=>f i (xs.getD i .non))),⟨xs.length,by simp,Nat.zero_le _,aG hD _,by rw[aE];rfl⟩,?_⟩
 rintro i m Hc ⟨rfl,hi,sm,hDc⟩;have hr:=aO sm ha
 by_cases hlt:i<xs.length
 ·refine .inr ⟨⟨xs,xs[i],bF hr,by simp[hlt]⟩,λv H' y=>?_⟩
  obtain⟨q,z,hq,rfl,rfl,hz⟩:=y;have hx:=hz xs (bF hr)
  have hg:xs.getD i .non=z:=by rw[Ac,hx];rfl
  refine hs i z Hc q _ _ hx sm hq λHd sd=>?_;have hDd:Hd D=some (.lst ((List.range i).filterMap λi=>f i (xs.getD i .non))):=sd _ _ (aG hq _ _ _ hDc)
  have sH:Same H1 Hd:=sm.trans ((aG hq _).trans sd)
  cases e:f i z with
  |some y=>
   refine⟨_,hDd,?_,xs.length-(i+1),by omega,rfl,hlt,λb o hb=>?_,?_⟩
   ·have:=Co (λi=>f i (xs.getD i .non)) (List.range i)
    rw[Bt]at this;omega
   ·rw[aJ (bL hb hD)];exact sH b o hb
   ·rw[aE,Bs,Bu,Cp (b:=y) (by rw[hg,e]),Cf]
  |none=>
   refine⟨xs.length-(i+1),by omega,rfl,hlt,sH,?_⟩
   rw[hDd,Bs,Bu,Cw (by rw[hg,e]),Cf,Bd]
 ·have e:i=xs.length:=by omega
  subst e;exact .inl ⟨⟨xs,bF hr,rfl⟩,fin D Hc hD sm (aR hDc)⟩
def dQR(h:ta σ H (aJD λa H1=>onL (rdL H1 a) (R (Ite K a 0) H1))):dZM K ta σ H R:=h
def cQS(h:ta σ H (aJD λa H1=>tk σ H1 (sO λk H2=>(0<=k/\k<2^62)/\onL (rdL H2 a) (R (Ite K a k.toNat) H2)))):cQL K ta tk σ H R:=h
def eQL{R:Addr->Hp->Prop}(h:R a H):aJD R [.ref a] H:=h
end
section
variable {t:TG} {u:TGs} {r:List V} {Q:St->Hp->Prop}
def eX1(e:mV H a=some xs)(hn:xs.length=n)(h:u xs σ H Q):eQB K n u (.ref a) σ H Q:=⟨a,xs,rfl,.of (gS e),hn,h⟩
def cJM(h:t v σ H λσ' H'=>u r σ' H' Q):bQO t u (v::r) σ H Q:=⟨v,r,rfl,h⟩
def eQT(h:Q σ H):eXA [] σ H Q:=⟨rfl,h⟩
end
def dQ{K:W.Frag}{i j k:Nat}{y:Str}{px py:Pos}(hK:X.K=K)(hc:X.calm=true)(hN:X.N.Nodup)(hi:X.N[i]?=some x)(hx:Loc X.env.scope x)(hfx:X.fn x=true\/X.env.scope.names.lookup x=some .local)(hj:X.N[j]?=some y)(hy:Loc X.env.scope y)(hfy:X.fn y=true\/X.env.scope.names.lookup y=some .local):PG X (.Tuple [.Name x px,.Name y py] k pos) (eQB K 2 (bQO (pC i) (bQO (pC j) eXA))):=by
 subst hK;exact eX5 hc (iK (bH hN hi hx hfx) (iK (bH hN hj hy hfy) bQM))
end
structure Fly (B:Heap) (l:List Env) (e:Addr) (cls:Value) (d:Option Addr) (fl:Value) (h:Heap):Prop where
 stays:B.StaysIn h
 new:B.get? e=none
 frames:h.FunFrames B l
 on:∃oe vs T oT ts,h.get? e=some oe/\(oe.cls=cls/\oe.dict=d)/\oe.data=.fields vs/\vs[1]?=some (.ref T)/\B.get? T=none/\T≠e/\h.get? T=some oT/\oT.data=.fields ts/\ts[3]?=some fl/\vs[2]?=some .none
def aQY(o:Obj)(f:Array Value->Array Value):(o.mapFields f).dict=o.dict:=by
 obtain⟨c,d,dt,sl⟩:=o;cases dt<;>rfl
def wO{f:Obj->Obj}(ha:h.get? a=some o)(hd:o.data=.fields vs):∀b u,h.get? b=some u->(∀ws,u.data≠.fields ws)->(h.update a f).get? b=some u:=λb u e n=>by
 rw[Cj _ _ (λz:a=b=>by rw[<-z,ha]at e;cases e;exact n vs hd)]
 exact e
section
variable {B:Heap} {l:List Env} {L e:Addr} {cls:Value} {Q:Unit->Shared->Prop}
def wD{head:Value}{nx:Bool}(hfr:A.frames=some (env::outer))(hl:s.heap.FunFrames B (env::outer))(hf:env.frame=some L)(hB:B.StaysIn s.heap)(hn:B.get? e=none)(he:s.heap.get? e=some oe)(hd:oe.data=.fields vs)(h1:1<vs.size)(c2:vs[2]?=some .none)(hQ:∀h',Fly B (env::outer) e oe.cls oe.dict (rawInt L) h'->s.heap.UpToSlots h'->Q () {s with heap:=h'}):wpAny M A (do let a <-frameOf env;let pl <-entryPlaceOf L nx;let b <-EntryCells.newEntry head a .none (rawInt L) .none pl;setField (.ref e) 1 b) Q E s:=by
 have ne:e∉(env::outer).filterMap (·.frame):=λhm=>by
  obtain⟨_,o,ho,nf⟩:=hl.mem hm;rw[he]at ho;cases ho;exact nf vs hd
 refine Ae (wpAny_frameOf_fun hfr hl hf λg1 so=>Ae (wpAny_entryPlaceOf λpl hpl=>?_));have e1:g1.get? e=some oe:=(so.2.1 e ne).trans he
 have b1:B.StaysIn g1:=λb o q=>(so.2.1 b λhm=>by rw[(hl.mem hm).1]at q;cases q).trans (hB b o q)
 unfold EntryCells.newEntry newFields;refine Ae (Gp ?_ (hpl.sizeOk5 _ _ _ _ _));generalize hts:(([head,.ref L,.none,rawInt L,.none]++(if pl.isEmpty then List.replicate 6 Value.none else pl):List Value)).toArray=ts
 have t3:ts[3]?=some (rawInt L):=by rw[<-hts];simp
 have e2:=Ag (h:=g1) ⟨.type "traceback",none,.fields ts,#[]⟩ e1
 refine wpAny_setField e2 hd h1 (hQ _ ?_ ?_)
 ·have te:g1.objs.size≠e:=Fb (Av e1)
  have dm:=Obj.data_mapFields hd (·.setIfInBounds 1 (Value.ref g1.objs.size))
  refine⟨λb o q=>?_,hn,hl.of_keeps λb o q nf=>?_,_,_,g1.objs.size,⟨.type "traceback",none,.fields ts,#[]⟩,ts,Heap.get?_update_self _ e2 (Obj.isFreed_of_fields dm),⟨Obj.cls_mapFields _ _,aQY _ _⟩,dm,by simp[h1],b1.fresh,te,?_,rfl,t3,(Array.getElem?_setIfInBounds_ne (by decide)).trans c2⟩
  ·rw[Cj _ _ (λz:e=b=>by rw[<-z,hn]at q;cases q)]
   exact Ag _ (b1 b o q)
  ·obtain⟨sl,q1⟩:=so.2.2 b o q;exact⟨_,wO e2 hd b _ (Ag _ q1) nf,rfl⟩
  ·rw[Cj _ _ te.symm];exact Ay g1 rfl
 ·intro b o q nf;obtain⟨sl,q1⟩:=so.2.2 b o q;exact⟨sl,wO e2 hd b _ (Ag _ q1) nf⟩
def bQ6(hfr:A.frames=some (env::outer))(hl:s.heap.FunFrames B (env::outer))(hf:env.frame=some L)(hB:B.StaysIn s.heap)(hn:B.get? e=none)(he:s.heap.get? e=some oe)(hd:oe.data=.fields vs)(h1:vs[1]?=some .none)(c2:vs[2]?=some .none)(hQ:∀h',Fly B (env::outer) e oe.cls oe.dict (rawInt L) h'->s.heap.UpToSlots h'->Q () {s with heap:=h'}):wpAny M A (noteFrame (.ref e) env) Q E s:=by
 unfold noteFrame;simp only[hf];refine Ae (wpAny_field he hd h1 ?_);rw[if_neg (show ¬((Value.none != Value.none)=true) by decide)]
 exact wD hfr hl hf hB hn he hd (De.mp h1).1 c2 hQ
def uH(hfr:A.frames=some (env::outer))(hf:env.frame=some L)(F:Fly B (env::outer) e cls d .none s.heap)(hQ:∀h',Fly B (env::outer) e cls d (rawInt L) h'->s.heap.UpToSlots h'->Q () {s with heap:=h'}):wpAny M A (noteFrame (.ref e) env) Q E s:=by
 obtain⟨hB,hn,hl,oe,vs,T,oT,ts,he,⟨rfl,rfl⟩,hd,h1,hT,hTe,gT,dT,t3,c2⟩:=F;unfold noteFrame;simp only[hf];refine Ae (wpAny_field he hd h1 ?_);rw[if_pos (show (Value.ref T != Value.none)=true by simp)]
 refine Ae (wpAny_field gT dT t3 ?_);rw[if_neg (show ¬((Value.none==rawInt L)=true) by simp[rawInt])]
 refine Ae (wpAny_setField gT dT (De.mp t3).1 ?_);have keep:∀b,b≠T->(s.heap.update T (Obj.mapFields (·.setIfInBounds 3 Value.none))).get? b=s.heap.get? b:=λb hb=>Cj _ _ (Ne.symm hb)
 refine wD (s:={s with heap:=s.heap.update T (Obj.mapFields (·.setIfInBounds 3 Value.none))}) hfr (hl.of_keeps λb o q nf=>⟨o,wO gT dT b o q nf,rfl⟩) hf
  (λb o q=>(keep b λz=>by rw[z,hT]at q;cases q).trans (hB b o q)) hn ((keep e hTe.symm).trans he) hd (De.mp h1).1 c2 λh' F' up=>hQ h' F' λb o q nf=>up b o (wO gT dT b o q nf) nf
def fF{fl:Value}(F:Fly B l e cls d fl s.heap)(hQ:∀h',Fly B l e cls d .none h'->s.heap.UpToSlots h'->Q () {s with heap:=h'}):wpAny M A (setFlight (.ref e) none) Q E s:=by
 obtain⟨hB,hn,hl,oe,vs,T,oT,ts,he,hc,hd,h1,hT,hTe,gT,dT,t3,c2⟩:=F;have z3:3<ts.size:=(De.mp t3).1
 unfold setFlight;refine Ae (wpAny_field he hd h1 ?_);rw[if_pos (show (Value.ref T != Value.none)=true by simp)]
 refine wpAny_setField gT dT z3 (hQ _ ?_ λb o q nf=>⟨o.slots,wO gT dT b o q nf⟩);have dm:=Obj.data_mapFields dT (·.setIfInBounds 3 Value.none)
 refine⟨λb o q=>?_,hn,hl.of_keeps λb o q nf=>⟨o,wO gT dT b o q nf,rfl⟩,oe,vs,T,_,_,?_,hc,hd,h1,hT,hTe,Heap.get?_update_self _ gT (Obj.isFreed_of_fields dm),dm,by simp[z3],c2⟩
 ·rw[Cj _ _ (λz:T=b=>by rw[<-z,hT]at q;cases q)]
  exact hB b o q
 ·rw[Cj _ _ hTe];exact he
def Fly.less{fl:Value}(F:Fly B (env::outer) e cls d fl h):Fly B outer e cls d fl h:=⟨F.stays,F.new,F.frames.2.2,F.on⟩
def aZY(hfr:A.frames=some (env::outer))(hl:s.heap.FunFrames B (env::outer))(hf:env.frame=some L)(hB:B.StaysIn s.heap)(hn:B.get? e=none)(he:s.heap.get? e=some oe)(hd:oe.data=.fields vs)(h1:vs[1]?=some .none)(c2:vs[2]?=some .none)(hQ:∀h',Fly B outer e oe.cls oe.dict .none h'->s.heap.UpToSlots h'->Q () {s with heap:=h'}):wpAny M A (leaving env (.ref e)) Q E s:=by
 unfold leaving;exact Ae (bQ6 hfr hl hf hB hn he hd h1 c2 λh1 F1 u1=>fF (s:={s with heap:=h1}) F1 λh2 F2 u2=>hQ h2 F2.less (u1.trans u2))
def bXL(hfr:A.frames=some (env::outer))(hf:env.frame=some L)(F:Fly B (env::outer) e cls d .none s.heap)(hQ:∀h',Fly B outer e cls d .none h'->s.heap.UpToSlots h'->Q () {s with heap:=h'}):wpAny M A (leaving env (.ref e)) Q E s:=by
 unfold leaving;exact Ae (uH hfr hf F λh1 F1 u1=>fF (s:={s with heap:=h1}) F1 λh2 F2 u2=>hQ h2 F2.less (u1.trans u2))
end
structure UnB (fs:List Addr) (H H':Hp) (h B h':Heap):Prop where
 keep:∀b o,h.get? b=some o->H b=none->b∉fs->B.get? b=some o
 slot:∀b o,h.get? b=some o->H b=none->b∈fs->∃sl,h'.get? b=some {o with slots:=sl}
 free:∀b o,h.get? b=some o->H b=none->H' b=none
 there:∀b o,h.get? b=some o->b∉fs->∃o',B.get? b=some o'
 tups:∀b xs,H b=some (.tup xs)->H' b=some (.tup xs)
 frzs:∀b o u,H b=some (.frz o u)->H' b=some (.frz o u)
 tbls:∀b ps,H b=some (.tbl ps)->∃more,H' b=some (.tbl (ps++more))
def CXr(P:Program)(w:World):CXT:=λouter H s E e s'=>
 ∃(ea:Addr) (cls:Value) (d:Option Addr) (B:Heap) (H':Hp),e=.ref ea/\s'.os=s.os/\AllBare s'.gens/\Fly B outer ea cls d .none s'.heap/\HOk P w H' B/\UnB (frs outer) H H' s.heap B s'.heap/\E cls d H'
def HOk.down{B:Heap}(x:HOk P w H h)(k:∀b o u,H b=some u->h.get? b=some o->B.get? b=some o):HOk P w H B:=λa u e=>
 (x a u e).stay (λb o hb q=>by
  rcases hb with z|z
  ·subst z;exact k b o u e q
  ·exact k b o _ z q) (λ_ q=>q) λ_ _ q=>q
def ObjOk.get{o:HO}(x:ObjOk P w H h a o):∃ob,h.get? a=some ob:=by
 cases o with
 |lst xs=>obtain⟨_,_,_,_,e⟩:=x;exact⟨_,e⟩
 |tup xs=>obtain⟨_,_,_,ob,e,_⟩:=x;exact⟨_,e⟩
 |dK kvs=>obtain⟨_,_,_,_,ob,_,_,e,_⟩:=x;exact⟨_,e⟩
 |dT kvs=>obtain⟨_,_,_,_,ob,_,_,e,_⟩:=x;exact⟨_,e⟩
 |set S n=>obtain⟨ob,_,_,_,e,_⟩:=x;exact⟨_,e⟩
 |ins C dx fs=>obtain⟨_,_,_,e,_⟩:=x;exact⟨_,e⟩
 |own y=>exact x
 |xd fs=>obtain⟨_,⟨od,_,_,e,_⟩,_⟩:=x;exact⟨_,e⟩
 |rng lo hi=>obtain⟨_,_,_,e⟩:=x;exact⟨_,e⟩
 |frz ob u=>exact⟨_,x.1⟩
 |tbl ps=>exact⟨_,x⟩
 |met f y=>exact⟨_,x⟩
 |ext φ=>exact x.2.1
def HOk.hole(x:HOk P w H h)(e:h.get? a=none):H a=none:=by
 cases q:H a with
 |none=>rfl
 |some o=>
  obtain⟨ob,z⟩:=(x a o q).get;rw[e]at z;cases z
def gZ{L:Addr}(hf:env.frame=some L)(h1:b≠L)(h2:b∉frs outer):b∉frs (env::outer):=λhm=>by
 obtain⟨e,he,q⟩:=Dp.mp hm;rcases Az.mp he with z|z
 ·subst z;rw[hf]at q;exact h1 (Bl q).symm
 ·exact h2 (Dp.mpr ⟨e,z,q⟩)
section
variable {qual:Str} {cd:Value} {s₀:Shared} {H₀:Hp} {E:XK}
def yB(I:Inv (gN (CXr P w) P w K mg base N qual scope f cd A outer s₀ H₀ E) pins σ H s)(he:s.heap.get? ea=some oe)(hd:oe.data=.fields vs)(h1:vs[1]?=some .none)(c2:vs[2]?=some .none)(hn:H ea=none)(h0:s₀.heap.get? ea=none)(q:E oe.cls oe.dict H):(gN (CXr P w) P w K mg base N qual scope f cd A outer s₀ H₀ E).xe (.ref ea) s:=by
 have hfr:=I.ok.frames
 have hst:=I.stack
 have hsf:=I.stkFree
 have hbase:=I.base
 have hlo:∀b o,s₀.heap.get? b=some o->b≠s₀.heap.objs.size:=λb o e=>Bj (Av e)
 have nea:∀b o,s₀.heap.get? b=some o->b≠ea:=λb o e z=>by rw[z,h0]at e;cases e
 have hid:∀b o,s.heap.get? b=some o->b≠ea->b∉frs (envOfC qual scope s₀.heap.objs.size f cd::outer)->(W.hideAll s.heap (ea::frs (envOfC qual scope s₀.heap.objs.size f cd::outer))).get? b=some o:=λb o e n1 n2=>
  W.hideAll_get _ e λhm=>(Az.mp hm).elim n1 n2
 refine aZY (B:=W.hideAll s.heap (ea::frs (envOfC qual scope s₀.heap.objs.size f cd::outer))) hfr (W.funFrames_hide hst λenv he b hb=>Am _ (Dp.mpr ⟨env,he,hb⟩)) rfl (λb o q=>W.of_hideAll _ q)
  (W.hideAll_none _ Al) he hd h1 c2 λh2 fl up=>?_
 refine⟨ea,_,_,_,H,rfl,I.os,I.bare,fl,I.hok.down λb o u e g=>hid b o g (λz=>by rw[z,hn]at e;cases e) λhm=>?_,⟨λb o e n hb=>?_,λb o e n hb=>?_,λb o e n=>hbase.free b o e n (by simp[gN]),λb o e hb=>?_,hbase.tups,hbase.frzs,hbase.tbls⟩,q⟩
 ·rw[hsf b hm]at e;cases e
 ·exact hid b o (hbase.keep b o e n hb (by simp[gN])) (nea b o e) (gZ rfl (hlo b o e) hb)
 ·obtain⟨sl,q1⟩:=hbase.slot b o e n hb (by simp[gN])
  obtain⟨_,o2,g2,nf⟩:=I.ok.funs.mem hb;have e2:s₀.heap.get? b=some o2:=g2
  rw[e]at e2;cases e2;obtain⟨sl2,q2⟩:=up b _ q1 nf;exact⟨sl2,q2⟩
 ·obtain⟨o',q1⟩:=hbase.there b o e (by simp[gN])
  exact⟨o',hid b o' q1 (nea b o e) (gZ rfl (hlo b o e) hb)⟩
def cE:iY (CXr P w) (gN (CXr P w) P w K mg base N qual scope f cd A outer s₀ H₀ E) E:=by
 intro pins σ H s e s' I h;obtain⟨ea,cls,d,B,H',rfl,os,bare,fl,hok,un,q⟩:=h;have hbase:=I.base
 have hlo:∀b o,s₀.heap.get? b=some o->b≠s₀.heap.objs.size:=λb o e=>Bj (Av e)
 refine bXL I.ok.frames rfl fl λh2 fl2 up=>?_;have ns:∀b o,s₀.heap.get? b=some o->b∉frs outer->b∉frs (envOfC qual scope s₀.heap.objs.size f cd::outer):=λb o e hb=>gZ rfl (hlo b o e) hb
 have ins:∀b,b∈frs outer->b∈frs (envOfC qual scope s₀.heap.objs.size f cd::outer):=λb hb=>by
  obtain⟨e,he,q⟩:=Dp.mp hb;exact Dp.mpr ⟨e,Am _ he,q⟩
 refine⟨ea,cls,d,B,H',rfl,os.trans I.os,bare,fl2,hok,⟨λb o e n hb=>?_,λb o e n hb=>?_,λb o e n=>?_,λb o e hb=>?_,λb xs e=>un.tups b xs (hbase.tups b xs e),λb o u e=>un.frzs b o u (hbase.frzs b o u e),λb ps e=>?_⟩,q⟩
 ·exact un.keep b o (hbase.keep b o e n hb (by simp[gN])) (hbase.free b o e n (by simp[gN])) (ns b o e hb)
 ·obtain⟨sl,q1⟩:=hbase.slot b o e n hb (by simp[gN])
  obtain⟨sl1,q2⟩:=un.slot b _ q1 (hbase.free b o e n (by simp[gN])) (ins b hb)
  obtain⟨_,o2,g2,nf⟩:=I.ok.funs.mem hb;have e2:s₀.heap.get? b=some o2:=g2
  rw[e]at e2;cases e2;obtain⟨sl2,q3⟩:=up b _ q2 nf;exact⟨sl2,q3⟩
 ·obtain⟨o',q1⟩:=hbase.there b o e (by simp[gN])
  exact un.free b o' q1 (hbase.free b o e n (by simp[gN]))
 ·obtain⟨o',q1⟩:=hbase.there b o e (by simp[gN])
  exact un.there b o' q1 (ns b o e hb)
 ·obtain⟨m1,e1⟩:=hbase.tbls b ps e;obtain⟨m2,e2⟩:=un.tbls b _ e1;exact⟨m1++m2,by rw[e2,Array.append_assoc]⟩
end
def cJG(X:K.In h)(q:W.excIn K C bmB newId=true):∃bm N nm qn bs hd sn sub ab col dd k0 k1 k2 k3 k5 mN,h.get? C=some (excClassObj nm qn C N bs bm hd sn sub ab col dd k0 k1 k2 k3 k5 newId)/\h.Ns N mN/\mN "__init__"=none/\OwnTail h bmB bm:=by
 unfold W.excIn at q;split at q
 ·rename_i dd c sl ho
  split at q
  ·rename_i C1 bm k0 k1 k2 k3 n k5 hm hs
   obtain⟨⟨⟨⟨⟨q1,q2⟩,q3⟩,q4⟩,q5⟩,q6⟩:((((C1=C/\n=newId)/\c.hasDel=false)/\W.tailIn K bmB bm=true)/\W.nsOkIn K c.ns=true)/\W.nsIn K c.ns "__init__"=some none:=by
    simpa only[Bool.and_eq_true,beq_iff_eq,Bool.not_eq_true']using q
   subst q1 q2;obtain⟨nm,bs,mro,ns,qn,hd,sn,sub,ab,col,del⟩:=c;dsimp only at hm q3 q5 q6;subst hm q3;obtain rfl:sl=#[k0,k1,k2,k3,some (.builtin n),k5]:=by
    obtain⟨l⟩:=sl;have hs':l=_:=hs
    rw[hs']
   exact⟨bm,ns,nm,qn,bs,hd,sn,sub,ab,col,dd,k0,k1,k2,k3,k5,_,X _ _ ho,.of_isNs (W.isNs_of_in X q5),W.nsMap_none_of_in X q5 q6,W.tail_of_in X q4⟩
  ·cases q
 ·cases q
def eQV(X:Cx)(E:XK):Prop:=∀(pins:List (Addr×Obj)) (σ:St) (H:Hp) (s:Shared) (ea:Addr) (oe:Obj) (vs:Array Value),Inv X pins σ H s->s.heap.get? ea=some oe->oe.data=.fields vs->vs[1]?=some .none->vs[2]?=some .none->H ea=none->X.s₀.heap.get? ea=none->
 E oe.cls oe.dict H->X.xe (.ref ea) s
def fY{qual:Str}{cd:Value}{s₀:Shared}{H₀:Hp}{E:XK}:eQV (gN (CXr P w) P w K mg base N qual scope f cd A outer s₀ H₀ E) E:=λ_ _ _ _ _ _ _ I he hd h1 c2 hn h0 q=>yB I he hd h1 c2 hn h0 q
section
variable {E:XK} {B initId:String}
def cQ4(C:Addr)(E:XK)(ta:TA):TS:=λ_ σ H=>ta σ H λvs H1=>vs.length<=sizeLine/\E (.ref C) none H1
def lB(hR:eQV X E)(hex:X.ex=[])(hc:X.calm=true)(hg:Gl X x)(hm:X.mg x=some (.ref C))(hx:W.excIn X.K C bmB newId=true)(FB:ExcBaseFacts B newId initId bmB)(ha:PA X (e::es) ta)(hd:(x==("__debug__" : Str))=false:=by decide)(he:starEach (e::es) X.env=(false,eval e X.env)::starEach es X.env:=by rfl)(hpl:(backTo cpos (starEach es X.env)).any (·.1)=false:=by rfl):PS X (.Raise (some (.Call (.Name x np) (e::es) [] cpos)) none pos) (cQ4 C E ta):=by
 intro pins s σ H D I h;obtain⟨bm,N,nm,q,bs,hdct,sn,sub,ab,col,dd,k0,k1,k2,k3,k5,mN,hC,hN,hni,T⟩:=cJG I.ok.mod.kin hx;refine wpAny_Raise_call_subT (C:=C) (N:=N) (bm:=bm) (nm:=nm) (q:=q) (bs:=bs) (hdct:=hdct) (sn:=sn) (sub:=sub) (ab:=ab) (col:=col) (dd:=dd) (k0:=k0) (k1:=k1) (k2:=k2) (k3:=k3) (k5:=k5)
  FB (mN:=mN) (T.hasType FB.hasBase) (I.ok.hd hc) (by rw[he];show (false || (backTo cpos (starEach es X.env)).any (·.1))=false;rw[hpl];rfl) hni (fZ I hg hm ⟨rfl,?_⟩ hd)
 have h1:=ha cpos pins s σ H _ I h
 rw[he]at h1 ⊢;refine Ft (thn h1 λus s2 ⟨vs,H2,I2,r,q2⟩=>⟨rfl,?_,I2.bk _ _ hC,hN.keeps I2.bk,T.keeps I2.bk,λh' ea hx=>?_⟩)
 ·show us.length<=sizeLine
  rw[<-r.length];exact q2.1
 ·obtain⟨t,g,_,_⟩:=hx.there;refine hR pins σ H2 {s2 with heap:=h'} ea _ _ (I2.kept (t':=s2.toks) hx.keeps) g rfl rfl rfl (I2.hok.hole hx.new) ?_ q2.2
  cases z:X.s₀.heap.get? ea with
  |none=>rfl
  |some o=>
   obtain⟨o',z'⟩:=I2.base.there ea o z (by rw[hex];simp)
   rw[hx.new]at z';cases z'
end
abbrev Cx.tr(X:Cx)(pins:List (Addr×Obj))(xe:Value->Shared->Prop):Cx:={X with pn:=X.pn++pins,xe:=xe}
abbrev Cx.hnd(X:Cx)(pins:List (Addr×Obj))(ea:Addr):Cx:={X with A:=X.A.mark (some (.ref ea)),calm:=false,pn:=X.pn++pins,xe:=λ_ _=>False}
section
variable {pins':Q2} {xe:Q0}
def Inv.tr(I:Inv X pins σ H s)(xe:Q0):Inv (X.tr pins xe) [] σ H s:=
 ⟨⟨I.ok.mod,I.ok.kind,I.ok.glob,I.ok.blt,I.ok.above,I.ok.inj,I.ok.has,I.ok.cab,I.ok.hd,I.ok.frames,I.ok.stk,I.ok.exf,I.ok.bs,I.ok.bsz,I.ok.noex,I.ok.exfs,I.ok.funs,I.ok.frf⟩,I.os,I.bare,I.base,I.loc,I.cell,I.free,I.freeC,
  λp hp=>I.pin p (by rwa [Bd]at hp),I.hok,I.len⟩
def Inv.untr(I:Inv (X.tr pins xe) pins' σ H s):Inv X pins σ H s:=
 ⟨⟨I.ok.mod,I.ok.kind,I.ok.glob,I.ok.blt,I.ok.above,I.ok.inj,I.ok.has,I.ok.cab,I.ok.hd,I.ok.frames,I.ok.stk,I.ok.exf,I.ok.bs,I.ok.bsz,I.ok.noex,I.ok.exfs,I.ok.funs,I.ok.frf⟩,I.os,I.bare,I.base,I.loc,I.cell,I.free,I.freeC,
  λp hp=>I.pin p (Cb _ hp),I.hok,I.len⟩
def Inv.hnd(I:Inv X pins σ H s)(ea:Addr):Inv (X.hnd pins ea) [] σ H s:=
 ⟨⟨I.ok.mod,I.ok.kind,I.ok.glob,I.ok.blt,I.ok.above,I.ok.inj,I.ok.has,I.ok.cab,(λz=>nomatch z),I.ok.frames,I.ok.stk,I.ok.exf,I.ok.bs,I.ok.bsz,I.ok.noex,I.ok.exfs,I.ok.funs,I.ok.frf⟩,I.os,I.bare,I.base,I.loc,I.cell,I.free,I.freeC,
  λp hp=>I.pin p (by rwa [Bd]at hp),I.hok,I.len⟩
def Inv.unhnd(I:Inv (X.hnd pins ea) pins' σ H s)(ok:X.Ok):Inv X pins σ H s:=
 ⟨ok,I.os,I.bare,I.base,I.loc,I.cell,I.free,I.freeC,λp hp=>I.pin p (Cb _ hp),I.hok,I.len⟩
structure Fre (X:Cx) (pins:List (Addr×Obj)) (a:Addr):Prop where
 s0:X.s₀.heap.get? a=none
 loc:a≠X.env.locals
 cell:∀x c,X.env.cells.lookup x=some c->c≠a
 pin:∀p∈X.pn++pins,p.1≠a
def Inv.adopt{a:Addr}{o:HO}(I:Inv X pins σ H s)(f:Fre X pins a)(hn:H a=none)(new:ObjOk X.prog X.w (upd H a o) s.heap a o):Inv X pins σ (upd H a o) s:=by
 have ne:∀b u,H b=some u->b≠a:=λb u e=>bL e hn
 refine⟨I.ok,I.os,I.bare,⟨I.base.keep,I.base.slot,λb u e n hx=>?_,I.base.there,λb xs e=>?_,λb u v e=>?_,λb ps e=>?_⟩,I.loc,I.cell,by rw[aJ f.loc.symm];exact I.free,λx c e=>by rw[aJ (f.cell x c e)];exact I.freeC x c e,λp hp=>?_,λb u e=>?_,I.len⟩
 ·rw[aJ (λz=>by rw[z,f.s0]at e;cases e)]
  exact I.base.free b u e n hx
 ·have q:=I.base.tups b xs e
  rw[aJ (ne b _ q)];exact q
 ·have q:=I.base.frzs b u v e
  rw[aJ (ne b _ q)];exact q
 ·obtain⟨m,q⟩:=I.base.tbls b ps e;exact⟨m,by rw[aJ (ne b _ q)];exact q⟩
 ·obtain⟨h1,h2,h3⟩:=I.pin p hp;exact⟨h1,by rw[aJ (f.pin p hp)];exact h2,h3⟩
 ·by_cases hb:b=a
  ·subst hb;rw[aE]at e;cases e;exact new
  ·rw[aJ hb]at e;exact(I.hok b u e).stay (λc v _ q=>q) (λc q=>by rw[aJ (ne c _ q)];exact q) λc xs q=>by rw[aJ (ne c _ q)];exact q
def Inv.unname{n:Str}{m:Q4}{v:Option Value}{t:Nat}(I:Inv X pins σ H s)(hN:X.N.Nodup)(hi:X.N[i]?=some n)(hm:s.heap.Ns X.env.locals m)(hl:X.env.scope.names.lookup n=some .local)(hn:h'.Ns X.env.locals (λx=>if x=n then v else m x))(sb:Heap.SameBut X.env.locals s.heap h'):Inv X pins (σ.set i none) H {s with heap:=h',toks:=t}:=by
 have k:∀b o,b≠X.env.locals->s.heap.get? b=some o->h'.get? b=some o:=λb o hb e=>(sb.2 b hb).trans e
 have nl:∀b o,X.s₀.heap.get? b=some o->b≠X.env.locals:=λb o e=>Bj (Bf (Av e) I.ok.above)
 have there:∀b o,s.heap.get? b=some o->∃o',h'.get? b=some o':=λb o e=>by
  by_cases hb:b=X.env.locals
  ·obtain⟨o',_,_,q,_⟩:=hn;exact⟨o',by rw[hb];exact q⟩
  ·exact⟨o,k b o hb e⟩
 obtain⟨m1,hm1,hl1⟩:=id I.loc;refine⟨I.ok,I.os,I.bare,⟨λb o e n hb hx=>k b o (nl b o e) (I.base.keep b o e n hb hx),λb o e n hb hx=>?_,I.base.free,λb o e hx=>?_,I.base.tups,I.base.frzs,I.base.tbls⟩,⟨_,hn,λj y u e1 e2 e3=>?_⟩,λx c e=>?_,I.free,I.freeC,λp hp=>?_,λb u e=>?_,by rw[Cv];exact I.len⟩
 ·obtain⟨sl,q⟩:=I.base.slot b o e n hb hx;exact⟨sl,k b _ (nl b o e) q⟩
 ·obtain⟨o',q⟩:=I.base.there b o e hx;exact there b o' q
 ·have hji:j≠i:=λz=>by
   subst z;rw[Dh (by rw[I.len];exact(Ad.mp hi).1)]at e2
   cases e2
  rw[Da (Ne.symm hji)]at e2;have hyn:y≠n:=λz=>hji (tW hN e1 (by rw[z];exact hi))
  obtain⟨u',r,look⟩:=hl1 j y u e1 e2 e3;have em:m1=m:=by
   obtain⟨o1,es1,ep1,g1,d1,_,f1⟩:=hm1;obtain⟨o2,es2,ep2,g2,d2,_,f2⟩:=hm;rw[g1]at g2;cases g2;rw[d1]at d2;cases d2;funext z
   rw[<-f1 z,f2 z]
  refine⟨u',r,?_⟩;rcases look with⟨z1,z2⟩|⟨z1,c,z2,o,z3,z4⟩
  ·exact .inl ⟨z1,by show (if y=n then v else m y)=_;rw[if_neg hyn,<-em];exact z2⟩
  ·exact .inr ⟨z1,c,z2,o,k c o (I.cne y c z2) z3,z4⟩
 ·obtain⟨v',o,z1,z2⟩:=I.cell x c e;exact⟨v',o,k c o (I.cne x c e) z1,z2⟩
 ·obtain⟨h1,h2,h3,h4⟩:=I.pin p hp;exact⟨k _ _ h3 h1,h2,h3,h4⟩
 ·refine(I.hok b u e).stay (λc o hc q=>k c o (λz=>?_) q) (λ_ q=>q) λ_ _ q=>q;have fr:=I.free
  rcases hc with z1|z1
  ·rw[<-z1,z,fr]at e;cases e
  ·rw[z,fr]at z1;cases z1
end
def gM(ea:Addr)(cls:Value)(d:Option Addr):HO:=.ext λh=>∃oe vs,h.get? ea=some oe/\oe.cls=cls/\oe.dict=d/\oe.data=.fields vs
def Fly.obj{B:Heap}{l:List Env}{cls fl:Value}(F:Fly B l ea cls d fl h):ObjOk P w H h ea (gM ea cls d):=by
 obtain⟨oe,vs,T,oT,ts,he,hc,hd,_⟩:=F.on;exact⟨⟨oe,vs,he,hc.1,hc.2,hd⟩,⟨oe,he⟩,λh1 h2 ⟨o,ws,g,q⟩ k=>⟨o,ws,k o g,q⟩⟩
def XS(X:Cx)(pins:List (Addr×Obj))(R:Value->Option Addr->St->Hp->Prop):Value->Shared->Prop:=λe s1=>
 ∃ea cls d B σ1 H1,e=.ref ea/\Fly B X.stack ea cls d .none s1.heap/\Fre X pins ea/\H1 ea=none/\(∀h2,B.StaysIn h2->s1.heap.UpToSlots h2->Inv X pins σ1 H1 {s1 with heap:=h2})/\R cls d σ1 H1
def vU(CX:CXT)(X:Cx)(Es:St->XK):Prop:=∀(pins:List (Addr×Obj)) (σ:St) (H:Hp) (s:Shared) (e:Value) (s':Shared),Inv X pins σ H s->CX X.stack H s (Es σ) e s'->X.xe e s'
def nJ{R:Value->Option Addr->St->Hp->Prop}(hex:X.ex=[]):vU (CXr X.prog X.w) (X.tr pins (XS X pins R)) (λσ cls d H1=>R cls d σ H1):=by
 intro pins' σ H s e s1 I' h;obtain⟨ea,cls,d,B,H1,rfl,os,bare,F,hok,un,q⟩:=h;have I:Inv X pins σ H s:=I'.untr
 have F:Fly B X.stack ea cls d .none s1.heap:=F
 have un:UnB (frs X.stack) H H1 s.heap B s1.heap:=un
 have nfs:ea∉frs X.stack:=λhm=>by
  obtain⟨_,o,g,nf⟩:=F.frames.mem hm;obtain⟨oe,vs,T,oT,ts,he,hc,hd,_⟩:=F.on;rw[g]at he;cases he;exact nf vs hd
 have ne:∀b o,s.heap.get? b=some o->b≠ea:=λb o g z=>by
  subst z;obtain⟨o',g'⟩:=un.there b o g nfs;rw[F.new]at g';cases g'
 refine⟨ea,cls,d,B,σ,H1,rfl,F,⟨?_,?_,λx c z=>?_,λp hp=>?_⟩,hok.hole F.new,λh2 st up=>?_,q⟩
 ·cases z:X.s₀.heap.get? ea with
  |none=>rfl
  |some o=>
   obtain⟨o',z'⟩:=I.base.there ea o z (by rw[hex];simp)
   exact absurd rfl (ne ea o' z')
 ·obtain⟨m,⟨o,_,_,g,_⟩,_⟩:=I.loc;exact(ne _ o g).symm
 ·obtain⟨v,o,g,_⟩:=I.cell x c z;exact ne c o g
 ·exact ne p.1 p.2 (I.pin p hp).1
 ·have slot:∀ b o,s.heap.get? b=some o->b∈frs X.stack->∃ sl,h2.get? b=some { o with slots:=sl }:=λb o g hb=>by
   obtain⟨sl,g1⟩:=un.slot b o g (I.stkFree b hb) hb;obtain⟨_,o2,g2,nf⟩:=I.stack.mem hb;rw[g]at g2;cases g2;obtain⟨sl2,g3⟩:=up b _ g1 nf;exact⟨sl2,g3⟩
  refine I.call' (s':={s1 with heap:=h2}) (ch:=[]) os ⟨λb o g n hb _=>st b o (un.keep b o g n hb),λb o g n hb _=>slot b o g hb,λb o g n _=>un.free b o g n,λb o g _=>?_,un.tups,un.frzs,un.tbls⟩ (hok.kept λb o g=>st b o g) bare λb hb=>absurd hb (by simp)
  by_cases hb:b∈frs X.stack
  ·obtain⟨sl,g1⟩:=slot b o g hb;exact⟨_,g1⟩
  ·obtain⟨o',g1⟩:=un.there b o g hb;exact⟨o',st b o' g1⟩
section
variable {CX:CXT} {k:Nat} {ps:List Str} {p:Pos} {t:TA}
def aJE(sp:Sp)(Es:St->XK)(t:TA):TE:=λσ H Q=>t σ H λvs H1=>sp vs H1 Q (Es σ)
def bZ1(F:FnOk X.prog X.w X.K X.mg X.base CX k f fd ps sp)(hr:Room k X.A)(hg:Gl X x)(hm:X.mg x=some (.ref f))(hk:W.keepIn X.K (.ref f)=true)(hb:Binds X.K fd ps [])(hx:vU CX X Es)(ha:PA X (e::es) t)(hdb:(x==("__debug__" : Str))=false:=by decide)(he:starEach (e::es) X.env=(false,eval e X.env)::starEach es X.env:=by rfl)(hpl:(backTo pos (starEach es X.env)).any (·.1)=false:=by rfl):PE X (.Call (.Name x p) (e::es) [] pos) (aJE sp Es t):=by
 intro pins s σ H Q I h;refine Dq (fZ I hg hm ?_ hdb);refine Fd (h₀:=X.base) I.ok.mod.kin hk (thn (ha pos pins s σ H _ I h) λus s1 ⟨vs,H1,I1,r,q⟩=>⟨I1.kIn,?_⟩) he hpl;have hl:us.length=ps.length:=by rw[<-r.length];exact F.len _ _ _ _ q
 have hb1:=hb s1 us I1.kIn (by rw[Bd];exact hl)
 rw[Bd]at hb1;refine Er (Ep (F.run X.A X.stack s1 H1 ⟨us,[]⟩ us vs Q (Es σ) hr I1.env0 hb1 r q) λrs s' hq=>?_);cases rs with
 |error e=>exact hx pins σ H1 s1 e s' I1 hq
 |ok fl=>
  cases fl with
  |ret u=>exact I1.after hq
  |next=>exact False.elim hq
  |brk=>exact False.elim hq
  |cont=>exact False.elim hq
end
def eJV(K:W.Frag)(C:Addr)(i:Nat)(mk:(Value->Option Addr->St->Hp->Prop)->TS)(ts:TS):TS:=λD σ H=>
 mk (λcls d σ1 H1=>W.exmOne K cls (.ref C)=some true/\∀ea,H1 ea=none->
  ts {nx:=λσ2 H2=>D.nx (σ2.set i none) H2,rt:=D.rt,bk:=λσ2 H2=>D.bk (σ2.set i none) H2,ct:=λσ2 H2=>D.ct (σ2.set i none) H2} (σ1.set i (some (.ref ea))) (upd H1 ea (gM ea cls d))) D σ H
def SP.untr{xe:Q0}{f:Flow}{s':Shared}(h:SP (X.tr pins xe) [] D f s'):SP X pins D f s':=by
 cases f with
 |next=>obtain⟨σ',H',I,q⟩:=h;exact⟨σ',H',I.untr,q⟩
 |brk=>obtain⟨σ',H',I,q⟩:=h;exact⟨σ',H',I.untr,q⟩
 |cont=>obtain⟨σ',H',I,q⟩:=h;exact⟨σ',H',I.untr,q⟩
 |ret u=>obtain⟨v,σ',H',I,r,q⟩:=h;exact⟨v,σ',H',I.untr,r,q⟩
def cZI{suite:List Stmt}{b0:Stmt}{n:Str}{hp:Pos}{i:Nat}(hstk:X.stack=X.env::X.outer)(hfm:X.env.frame=some X.env.locals)(hex:X.ex=[])(hN:X.N.Nodup)(hi:X.N[i]?=some n)(hl:X.env.scope.names.lookup n=some .local)(hg:Gl X x)(hm:X.mg x=some (.ref C))(hb:∀pins R,PSs (X.tr pins (XS X pins R)) body (mk R))(hs:∀pins ea,PSs (X.hnd pins ea) (b0::suite) ts)(hd:(x==("__debug__" : Str))=false:=by decide):PS X (.Try body [.ExceptHandler (some (.Name x np)) (some n) (b0::suite) hp] [] [] pos) (eJV X.K C i mk ts):=by
 intro pins s σ H D I h;have hfr:X.A.frames=some (X.env::X.outer):=by rw[<-hstk];exact I.ok.frames
 have hcls:(X.env.scope.kind == .class || (X.env.scope.kind == .module&&X.env.locals != X.env.globals))=false:=by rw[I.ok.kind];rfl
 refine wpAny_Try_except (Ci (hb pins _ [] s σ H D (I.tr _) h) (λf s1 q=>?_) λe s1 q=>?_)
 ·cases f with
  |next=>
   obtain⟨σ',H',I',q⟩:=q.untr;exact bC pins s1 σ' H' D I' q
  |brk=>exact q.untr
  |cont=>exact q.untr
  |ret u=>exact q.untr
 ·obtain⟨ea,cls,d,B,σ1,H1,rfl,F,fre,hn,inv,hx,r⟩:=q;rw[hstk]at F;refine uH hfr hfm F λh2 F2 u2=>fF (s:={s1 with heap:=h2}) F2 λh3 F3 u3=>?_
  have I3:=inv h3 F3.stays (u2.trans u3)
  refine wpAny_handleBy_cons (codeAny_handlers_test (fZ (I3.hnd ea) hg hm ?_ hd)) (by intro q;cases q)
  obtain⟨oe,vs,T,oT,tts,he,hc,_⟩:=id F3.on;refine W.exm_one I3.kIn (hc.1▸(W.Looks.ld he).andThen .now) hx _ _ _ _ (λ_ _ q=>q) ?_;refine codeAny_handlers_suite_as (fF (s:={s1 with heap:=h3}) F3 λh4 F4 u4=>?_)
  have I4:=(inv h4 F4.stays ((u2.trans u3).trans u4)).adopt (o:=gM ea cls d) fre hn F4.obj
  refine tJ I4 hN hi (.inl hl) (v:=.ref ea) rfl (λs5 I5=>?_) (.inr hl);refine Ci (hs pins ea [] s5 _ _ _ (I5.hnd ea) (r ea hn)) (λf s6 q=>?_) λ_ _ z=>z.elim;have go:∀ {σ2:St} {H2:Hp} {Q:Unit->Shared->Prop} {E:Q0},Inv (X.hnd pins ea) [] σ2 H2 s6->(∀ s7,Inv X pins (σ2.set i none) H2 s7->Q () s7)->
      wpAny (model X.prog X.w) X.A (do bindName X.env n .none;unbindBehindTheSuite X.env n hp) Q E s6:=fun {σ2 H2 Q E} I6 k=>by
   have I6':=I6.unhnd I.ok
   obtain⟨m,hm6,_⟩:=id I6'.loc;exact wpAny_nameGoes_keeps hl hm6 hcls λh7 v hn7 sb=>k _ (I6'.unname hN hi hm6 hl hn7 sb)
  cases f with
  |next=>
   obtain⟨σ2,H2,I6,q⟩:=q;exact go I6 λs7 I7=>⟨_,H2,I7,q⟩
  |brk=>
   obtain⟨σ2,H2,I6,q⟩:=q;exact go I6 λs7 I7=>⟨_,H2,I7,q⟩
  |cont=>
   obtain⟨σ2,H2,I6,q⟩:=q;exact go I6 λs7 I7=>⟨_,H2,I7,q⟩
  |ret u=>
   obtain⟨v,σ2,H2,I6,rv,q⟩:=q;exact go I6 λs7 I7=>⟨v,_,H2,I7,rv,q⟩
def SP.unhnd{f:Flow}{s':Shared}(ok:X.Ok)(h:SP (X.hnd pins ea) [] D f s'):SP X pins D f s':=by
 cases f with
 |next=>obtain⟨σ',H',I,q⟩:=h;exact⟨σ',H',I.unhnd ok,q⟩
 |brk=>obtain⟨σ',H',I,q⟩:=h;exact⟨σ',H',I.unhnd ok,q⟩
 |cont=>obtain⟨σ',H',I,q⟩:=h;exact⟨σ',H',I.unhnd ok,q⟩
 |ret u=>obtain⟨v,σ',H',I,r,q⟩:=h;exact⟨v,σ',H',I.unhnd ok,r,q⟩
section
open PySem.W
structure ExK (K:Frag) (D:Addr):Prop where
 cls:hasDictIn K D=true
 ga:findIn K (.ref D) "__getattribute__"=some (some (.builtin "BaseException.__getattribute__"))
 gh:findIn K (.ref D) "__getattr__"=some none
 ca:findIn K (.ref D) "__class__"=some (some (.builtin "object.__class__"))
 cg:specialIn K (.builtin "object.__class__") "__get__"=some (some (.builtin "getset_descriptor.__get__"))
 ct:takesIn K (.builtin "object.__class__")=some true
 mo:mroIn K D (.type "object")=some true
 mb:W.subIn K (.ref D) (.type "BaseException")=some true
section
variable {K:Frag} {x D:Addr} {ox:Obj} {od:Option Obj}
def wY{nm:Value}{Q:Unit->Shared->Prop}(Z:ExK K D)(X:K.In s.heap)(I:InstAt s.heap x ox D od)(hq:Q () s):wpAny M A (checkBuiltinCall "BaseException.__getattribute__" ⟨[.ref x,nm],[]⟩) Q E s:=by
 have hk:builtinKind "BaseException.__getattribute__"=some .slot:=by decide +kernel
 have hs:splitId "BaseException.__getattribute__"=some ("BaseException", "__getattribute__"):=by decide +kernel
 have L0:=I.type (M:=M)
 have L1:=looks_subIn (M:=M) X Z.mb
 have ha:=F.args_bexc_ga (.ref x) nm
 simp only[checkBuiltinCall,hk,hs];refine Ae ((L0.andThen L1).at ?_);rw[if_neg (show ¬((!true)=true) by decide)]
 exact wpAny_of_eq ha hq
def cQB{M:Model}(Z:ExK K D)(X:K.In h)(I:InstAt h x ox D od):Looks M h (Builtin.ObjectAttr.find (.ref x) (.ref D) "__class__") (Builtin.ObjectAttr.Found.bind (.builtin "getset_descriptor.__get__") (.builtin "object.__class__")):=by
 refine looks_find X I ?_;obtain⟨cd,hc,_⟩:=any_some Z.cls;unfold findObj;rw[hc,Option.bind_some,Z.ca,Option.bind_some];simp[Z.cg,Z.ct]
def bX1{Q:Option Value->Shared->Prop}(Z:ExK K D)(X:K.In s.heap)(I:InstAt s.heap x ox D od)(h:Q (some (.ref D)) {s with toks:=s.toks+1}):wpAny (model prog w) A (getAttr? (.ref x) "__class__") Q E s:=by
 obtain⟨hh,g,d,t,os⟩:=s;have L0:=I.type (M:=model prog w)
 have L1:=looks_findIn (M:=model prog w) X Z.ga
 have L2:=looks_findIn (M:=model prog w) X Z.gh
 have L3:=cQB (M:=model prog w) Z X I
 unfold getAttr? getAttrBy? getAttrBy;refine Ae (wpAny_mkText (Ae (Gy (Ck (Ae (L0.at (Ae (L1.at ?_))))))));have ne:(Value.builtin "BaseException.__getattribute__" == Value.builtin "object.__getattribute__")=false:=by decide +kernel
 have fb:=F.excAttr_ValueError.ga.bind (.ref x)
 dsimp only;rw[ne,Bool.and_false,if_neg Ap];unfold getAttrByItsOwn hookBefore;rw[if_pos (show onTheHeap (Value.ref D)=true from rfl)];refine Ae (L2.at (Ae (Gy (Ck ?_))));unfold callGetattribute boundAndCalled;rw[if_neg (show ¬((false&&onTheHeap (Value.builtin "BaseException.__getattribute__"))=true) by decide)]
 refine Ae (wpAny_of_eq fb ?_);refine Er (Ef F.excAttr_ValueError.ga.plain F.entry_bexc_ga (wY Z X I ?_));unfold Builtin.«object.__getattribute__»;refine Ae (Ao (Ae (Ao (Ae (L0.at (Ae (L3.at ?_)))))));show wpAny _ _ (Builtin.ObjectAttr.bindTo _ _ _ _) _ _ _
 unfold Builtin.ObjectAttr.bindTo;refine Ae (Ck (Er (class_get (ox:=ox) (od:=od) X I Z.mo ?_)));refine Ao ?_;exact handed_on rfl (Ao h)
def aXJ(Z:ExK K D):KitX K (.ref x) (.ref D) (λh=>∃ox od,InstAt h x ox D od) where
 ty:=λ_ _ _ ⟨_,_,I⟩=>I.type
 it:=λM h X _=>by
  have q:(clsIn K D).isSome=true:=by
   obtain⟨cd,hc,_⟩:=any_some Z.cls;rw[hc];rfl
  unfold clsIn at q;split at q
  ·rename_i ho
   intro A1 Q1 E1 s1 k1 q1;unfold isType loadHead;exact Ae (wpAny_loadPart (k1 _ _ (X _ _ ho)) (Ao q1))
  ·cases q
 ne:=λh tp dd its n sl X htp=>by
  have q:(clsIn K D).isSome=true:=by
   obtain⟨cd,hc,_⟩:=any_some Z.cls;rw[hc];rfl
  unfold clsIn at q;split at q
  ·rename_i ho
   refine Bq.mpr λz=>?_;obtain rfl:D=tp:=Value.ref.inj (Fc.mp z);have z:=(X _ _ ho).symm.trans htp
   cases z
  ·cases q
 ca:=λX ⟨_,_,I⟩ k=>bX1 Z X I k
end
def cZC:V->Option Value
 |.ref C=>some (.ref C)
 |.ty T=>some (.type T)
 |_=>none
def bQU:List V->Option (List Value)
 |[]=>some []
 |v::r=>(cZC v).bind λc=>(bQU r).map (c::·)
def aQE{c:Value}(h:cZC v=some c)(r:RelV v u):u=c:=by
 cases v with
 |ref C=>cases h;exact r
 |ty T=>cases h;exact r
 |_=>cases h
def xH:∀ {vs:List V} {cs us:List Value},bQU vs=some cs->Vals vs us->us=cs
 |[],_,_,h,.nil=>by cases h;rfl
 |v::vs,_,_,h,.cons r rr=>by
  unfold bQU at h;obtain⟨c,h1,h2⟩:=Option.bind_eq_some_iff.mp h;obtain⟨cs,h3,h4⟩:=Cu.mp h2;subst h4;rw[aQE h1 r,xH h3 rr]
def dXH(K:W.Frag):List V->Hp->VK->Prop:=λxs H Q=>∃ea D d c b,xs=[.ref ea,c]/\H ea=some (gM ea (.ref D) d)/\(∀dx,d=some dx->∃o,H dx=some o)/\ExK K D/\
 ((∃cv,cZC c=some cv/\kitOne K (.ref D) cv=some b)\/(∃tp cs cv,c=.ref tp/\H tp=some (.tup cs)/\bQU cs=some cv/\kitAny K (.ref D) cv=some b))/\Q (.bl b) H
def cQZ{D:Addr}(hok:HOk P w H h)(e:H ea=some (gM ea (.ref D) d))(hd:∀dx,d=some dx->∃o,H dx=some o):∃ox od,InstAt h ea ox D od:=by
 obtain⟨⟨oe,vs,g,hc,hdi,hda⟩,_⟩:=hok ea _ e;have no:notCls oe=true:=by
  obtain⟨c,di,da,sl⟩:=oe;cases hda;rfl
 cases d with
 |none=>exact⟨oe,none,g,hc,no,by rw[hdi];trivial⟩
 |some dx=>
  obtain⟨o,z⟩:=hd dx rfl;obtain⟨ob,g2⟩:=(hok dx o z).get;exact⟨oe,some ob,g,hc,no,by rw[hdi];exact g2⟩
def fQG:CallR X (.builtin "isinstance") (dXH X.K):=by
 intro pins s σ H xs us Q I r h;obtain⟨ea,D,d,c,b,rfl,he,hd,Z,hc,q⟩:=h;obtain⟨u,u2,rfl,ru,rc⟩:=vW r;cases ru;have hI:=cQZ I.hok he hd
 rcases hc with⟨cv,h1,h2⟩|⟨tp,cs,cv,rfl,h1,h2,h3⟩
 ·rw[aQE h1 rc];exact kia_one (aXJ Z) I.kIn hI h2 (λz=>nomatch z) λtk=>⟨.bl b,H,I.tok _,rfl,q⟩
 ·cases rc;obtain⟨_,its,rv,o,g,hcl,n,hda⟩:=I.hok tp _ h1;obtain rfl:=xH h2 rv;obtain⟨oc,od,oda,osl⟩:=o;obtain rfl:oc=.type "tuple" := hcl;obtain rfl:oda=.seq its.toArray n:=hda;exact kia_tup (aXJ Z) I.kIn hI g h3 (λz=>nomatch z) λtk=>⟨.bl b,H,I.tok _,rfl,q⟩
def zC(h:X.K=K):CallR X (.builtin "isinstance") (dXH K):=by
 subst h;exact fQG
section
variable {D:Addr} {c:V} {cv:Value} {b:Bool}
def xL(e:H ea=some (gM ea (.ref D) none))(Z:ExK K D)(h1:cZC c=some cv)(h2:kitOne K (.ref D) cv=some b)(h:Q (.bl b) H):dXH K [.ref ea,c] H Q:=
 ⟨ea,D,none,c,b,rfl,e,(λ_ z=>nomatch z),Z,.inl ⟨cv,h1,h2⟩,h⟩
def cJK{E:XK}{D:Ends}(h:ta σ H λvs H1=>vs.length<=sizeLine/\E (.ref C) none H1):cQ4 C E ta D σ H:=h
def dQA{t:TA}(h:t σ H λvs H1=>sp vs H1 Q (Es σ)):aJE sp Es t σ H Q:=h
end
def jY(P:Program)(w:World)(K:W.Frag)(mg:Str->Option Value)(base:Heap)(k:Nat)(x:Str)(ps:List Str)(sp:Sp):Prop:=
 ∃(f:Addr) (fd:FuncData),FnOk P w K mg base (CXr P w) k f fd ps sp/\mg x=some (.ref f)/\W.keepIn K (.ref f)=true/\Binds K fd ps []
section
variable {k:Nat} {ps:List Str} {p:Pos} {t:TA} {E:XK}
def dE(c:jY X.prog X.w X.K X.mg X.base k x ps sp)(hx:iY (CXr X.prog X.w) X E)(hr:Room k' X.A)(hk:k<=k')(hg:Gl X x)(ha:PA X (e::es) t)(hdb:(x==("__debug__" : Str))=false:=by decide)(he:starEach (e::es) X.env=(false,eval e X.env)::starEach es X.env:=by rfl)(hpl:(backTo pos (starEach es X.env)).any (·.1)=false:=by rfl):PE X (.Call (.Name x p) (e::es) [] pos) (bQP sp [] E t):=by
 obtain⟨f,fd,F,hm,hk',hb⟩:=c;exact bQH F (hr.mono hk) hg hm hk' hb .nil hx ha hdb he hpl
def dQ4(c:jY X.prog X.w X.K X.mg X.base k x ps sp)(hx:vU (CXr X.prog X.w) X Es)(hr:Room k' X.A)(hk:k<=k')(hg:Gl X x)(ha:PA X (e::es) t)(hdb:(x==("__debug__" : Str))=false:=by decide)(he:starEach (e::es) X.env=(false,eval e X.env)::starEach es X.env:=by rfl)(hpl:(backTo pos (starEach es X.env)).any (·.1)=false:=by rfl):PE X (.Call (.Name x p) (e::es) [] pos) (aJE sp Es t):=by
 obtain⟨f,fd,F,hm,hk',hb⟩:=c;exact bZ1 F (hr.mono hk) hg hm hk' hb hx ha hdb he hpl
def bX9:iY (CXr X.prog X.w) X E0:=λ_ _ _ _ _ _ _ h=>by
 obtain⟨_,_,_,_,_,_,_,_,_,_,_,z⟩:=h;exact z.elim
def PS.nox{st:Stmt}{t:TS}(h:PS X.nox st t):PS X st t:=λpins s σ H D I hw=>
 Ci (h pins s σ H D (I.wish _) hw) (λ_ _ q=>q.unwish) λ_ _ z=>False.elim z
end
def Fun.okX{qual:Str}{st:Stmt}{ps:List Str}{k:Nat}(F:Fun K x qual st f fd)(S:FnScope N ps (aM st))(len:∀vs H Q E,sp vs H Q E->vs.length=ps.length)(hbody:∀(cdv:Value) (A:Around) (outer:List Env) (s:Shared) (H:Hp) (vs:List V) (Q:VK) (E:XK),Room k (A.deeper (envOfC qual (aM st) s.heap.objs.size f cdv))->sp vs H Q E->
 ∃t,PSs (gN (CXr P w) P w K mg base N qual (aM st) f cdv A outer s H E) (gD st) t/\t {nx:=λ_ H'=>Q .non H',rt:=Q} (pA N vs) H):FnOk P w K mg base (CXr P w) (k+1) f fd ps sp:=by
 obtain⟨oc,od,kV,doc,pm,an,cdv,ct,osl,rfl,lk,hcd⟩:=F.ex;exact dZY lk hcd S len λA outer s H vs Q E hr hsp=>hbody cdv A outer s H vs Q E hr hsp
def yL(hg:Gl X x)(h:X.mg x=some (.ref C))(hd:(x==("__debug__" : Str))=false:=by decide):PE X (.Name x pos) (tC (.ref C)):=rK hg h rfl hd
def vK:bootBuiltins "ValueError"=some (.type "ValueError"):=by decide +kernel
def eZG(h:mk (λcls d σ1 H1=>W.exmOne K cls (.ref C)=some true/\∀ea,H1 ea=none->ts {nx:=λσ2 H2=>D.nx (σ2.set i none) H2,rt:=D.rt,bk:=λσ2 H2=>D.bk (σ2.set i none) H2,ct:=λσ2 H2=>D.ct (σ2.set i none) H2} (σ1.set i (some (.ref ea))) (upd H1 ea (gM ea cls d))) D σ H):eJV K C i mk ts D σ H:=h
end
def Itz(K:W.Frag)(a b:Addr):It:=
 ⟨λi H=>∃xs ys x y,SqL K H a xs/\SqL K H b ys/\xs[i]?=some x/\ys[i]?=some y,λi H v H'=>∃p x y,H p=none/\v=.ref p/\H'=upd H p (.tup [x,y])/\(∀xs,SqL K H a xs->xs[i]?=some x)/\(∀ys,SqL K H b ys->ys[i]?=some y),
  λi H=>∃xs ys,SqL K H a xs/\SqL K H b ys/\(xs.length<=i\/ys.length<=i)⟩
structure ZipOf (z TI TO i1 i2:Addr):Prop where
 d1:TI≠z
 d2:TO≠z
 d3:i1≠z
 d4:i2≠z
 d5:TI≠TO
 d6:TI≠i1
 d7:TI≠i2
 d8:TO≠i1
 d9:TO≠i2
 d0:i1≠i2
def kT{u:Obj}(ha:h.get? a=some o)(hb:h.get? b=some u){S:String}(hs:o.cls=.type S)(ht:u.cls=.type T)(n:S≠T):a≠b:=λz=>by
 subst z;rw[ha]at hb;cases hb;rw[hs]at ht;injection ht with ht;exact n ht
def vV{z TI TO i1 i2:Addr}{f0 p q:Value}{k1 k2:Nat}{xs ys:Array Value}(D:ZipOf z TI TO i1 i2)(hz:IsZip h z TI TO f0)(hO:IsPair h TO p q)(h1:h.IsListIter i1 a k1)(h2:h.IsListIter i2 b k2)(ha:h.IsList a xs)(hb:h.IsList b ys):ZipApart z TI TO i1 i2 a b:=by
 obtain⟨o1,g1,c1,_⟩:=h1;obtain⟨o2,g2,c2,_⟩:=h2;obtain⟨oa,ga,ca,_⟩:=ha;obtain⟨ob,gb,cb,_⟩:=hb;exact⟨D.d1,D.d2,D.d3,D.d4,D.d5,D.d6,D.d7,D.d8,D.d9,D.d0,kT ga hz ca rfl (by decide),kT ga hO ca rfl (by decide),kT ga g1 ca c1 (by decide),kT ga g2 ca c2 (by decide),kT gb hz cb rfl (by decide),kT gb hO cb rfl (by decide),kT gb g1 cb c1 (by decide),kT gb g2 cb c2 (by decide)⟩
def bZZ(a b z TI TO i1 i2:Addr)(D:ZipOf z TI TO i1 i2):Turn P w K (.Tuple elts x1 tp) (Itz K a b) [z,TI,TO,i1,i2] z (λi h=>IsZip h z TI TO .none/\IsPair h TI (.ref i1) (.ref i2)/\(∃p q,IsPair h TO p q)/\h.IsListIter i1 a i/\h.IsListIter i2 b i) where
 mem:=by simp
 obj:=λi h st c hc=>by
  obtain⟨hz,hI,⟨p,q,hO⟩,⟨o1,g1,_,e1⟩,o2,g2,_,e2⟩:=st;simp only[List.mem_cons,List.not_mem_nil,or_false]at hc;rcases hc with z|z|z|z|z<;>subst z
  ·exact⟨_,hz,λv z=>by cases z⟩
  ·exact⟨_,hI,λv z=>by cases z⟩
  ·exact⟨_,hO,λv z=>by cases z⟩
  ·exact⟨o1,g1,λv z=>by rw[e1]at z;cases z⟩
  ·exact⟨o2,g2,λv z=>by rw[e2]at z;cases z⟩
 keep:=λi h h' st kk=>by
  obtain⟨hz,hI,⟨p,q,hO⟩,g1,g2⟩:=st;exact⟨kk z (by simp) _ hz,kk TI (by simp) _ hI,⟨p,q,kk TO (by simp) _ hO⟩,g1.at λo e=>kk i1 (by simp) o e,g2.at λo e=>kk i2 (by simp) o e⟩
 item:=by
  intro X hP hw hK hc i pins s σ H E I hf st hg;subst hP hw hK;obtain⟨xs,ys,x,y,qa,qb,hx,hy⟩:=hg;obtain⟨us,ra,pa,_⟩:=I.list qa;obtain⟨vs,rb,pb,_⟩:=I.list qb;obtain⟨u,hu,ru⟩:=ra.get hx;obtain⟨v,hv,rv⟩:=rb.get hy;obtain⟨hz,hI,⟨p,q,hO⟩,g1,g2⟩:=st;have D2:=vV D hz hO g1 g2 pa.isList pb.isList
  have fr:∀c o,s.heap.get? c=some o->s.heap.objs.size≠c:=λc o e=>Fb (Av e)
  refine wpAny_pyNext_zip_item D2 hz hI hO g1 g2 pa.isList pb.isList (x:=u) (y:=v) (by simpa using hu) (by simpa using hv) λh1 a1 a2 a3 a4 a5 a6 kk=>?_
  refine⟨_,rfl,wpAny_letOwnedTupleGo_zip a1 λh2 z2 sb=>?_⟩;have up:∀c o,c≠z->h1.get? c=some o->h2.get? c=some o:=λc o n e=>(sb.2 c n).trans e
  have I2:Inv X pins σ (upd H s.heap.objs.size (.tup [x,y])) {s with heap:=h2}:=by
   refine I.turnLaid (t':=s.toks) (ch:=[z,TI,TO,i1,i2]) hf (λc o n e=>?_) (Ai _) ⟨bP (by show 2<=_;omega),[u,v],.cons ru (.cons rv .nil),_,up _ _ (fr z _ hz) a5,rfl,_,rfl⟩
   simp only[List.mem_cons,List.not_mem_nil,or_false,not_or]at n;exact up c o n.1 (kk c o n.1 n.2.2.1 n.2.2.2.1 n.2.2.2.2 e)
  refine⟨.ref s.heap.objs.size,_,I2,rfl,⟨_,x,y,I.hok.fresh (Ai _),rfl,rfl,λzs hq=>by rw[I.list_inj hq qa];exact hx,λzs hq=>by rw[I.list_inj hq qb];exact hy⟩,
   ⟨z2,up _ _ D.d1 (kk _ _ D.d1 D.d5 D.d6 D.d7 hI),⟨_,_,up _ _ D.d2 a2⟩,a3.at λo e=>up _ o D.d3 e,a4.at λo e=>up _ o D.d4 e⟩,λc hc=>?_⟩
  have hn:=(hf c hc).1
  rw[aJ]
  ·exact hn
  ·obtain⟨o1,e1,_⟩:=g1;obtain⟨o2,e2,_⟩:=g2;simp only[List.mem_cons,List.not_mem_nil,or_false]at hc;rcases hc with z|z|z|z|z<;>subst z
   ·exact(fr _ _ hz).symm
   ·exact(fr _ _ hI).symm
   ·exact(fr _ _ hO).symm
   ·exact(fr _ _ e1).symm
   ·exact(fr _ _ e2).symm
 done:=by
  intro X hP hw hK hc i pins s σ H E I hf st hg;subst hP hw hK;obtain⟨xs,ys,qa,qb,hl⟩:=hg;obtain⟨us,ra,pa,_⟩:=I.list qa;obtain⟨vs,rb,pb,_⟩:=I.list qb;have e1:=ra.length
  have e2:=rb.length
  obtain⟨hz,hI,⟨p,q,hO⟩,g1,g2⟩:=st;refine wpAny_pyNext_zip_end (I.ok.hd hc) (vV D hz hO g1 g2 pa.isList pb.isList) hz hI hO g1 g2 pa.isList pb.isList ?_ λh' kk=>⟨rfl,?_⟩
  ·rcases hl with z|z
   ·exact .inl (by simp;omega)
   ·exact .inr (by simp;omega)
  ·refine I.turnAll (t':=s.toks) (ch:=[z,TI,TO,i1,i2]) hf λc o n e=>?_;simp only[List.mem_cons,List.not_mem_nil,or_false,not_or]at n;exact kk c o n.1 n.2.2.1 n.2.2.2.1 n.2.2.2.2 e
 self:=λ_ _ _ _ _ st h=>wpAny_pyIter_zip st.1 h
def cZB:bootBuiltins "zip"=some (.type "zip"):=by decide +kernel
section
variable {l1 l2:Expr} {p:Pos}
def cXI(R:Addr->Addr->Hp->Prop):List V->Hp->Prop:=λvs H=>match vs with|[.ref i,.ref j]=>R i j H|_=>False
def cJJ{R:Addr->Addr->Hp->Prop}{vs:List V}(q:cXI R vs H):∃i j,vs=[.ref i,.ref j]/\R i j H:=by
 unfold cXI at q;split at q
 ·exact⟨_,_,rfl,q⟩
 ·exact q.elim
def eJG(K:W.Frag)(ta:TA):TI:=λσ H R=>ta σ H (cXI λa b H1=>onL (rdL H1 a) (onL (rdL H1 b) (R (Itz K a b) H1)))
def bJ7(hg:Gl X "zip")(hm:X.mg "zip"=none)(ha:PA X [l1,l2] ta)(hs:starEach [l1,l2] X.env=[(false,eval l1 X.env),(false,eval l2 X.env)]:=by rfl)(hs2:starEach [l2] X.env=[(false,eval l2 X.env)]:=by rfl):PI X (.Tuple elts x1 tp) (.Call (.Name "zip" p) [l1,l2] [] pos) (eJG X.K ta):=by
 intro pins s σ H R I h;refine Call_ (jN I hg hm cZB (Du (thn (ha pos pins s σ H _ I h) λus s1 ⟨vs,H1,I1,r1,q1⟩=>?_) (by rw[hs,hs2]) (by rw[hs2];rfl)))
 obtain⟨a,b,rfl,q⟩:=cJJ q1;obtain⟨u,u2,rfl,ru,ru2⟩:=vW r1;cases ru;cases ru2;unfold onL at q;split at q
 ·rename_i xs ex
  split at q
  ·rename_i ys ey
   obtain⟨us,ra,pa,_⟩:=I1.list (bF ex);obtain⟨vs,rb,pb,_⟩:=I1.list (bF ey);refine call_zip_2 pa.isList pb.isList λh' hz hI hO g1 g2 hsz hk=>?_;refine wpAny_pyIter_zip (s:={s1 with heap:=h'}) hz ⟨_,[s1.heap.objs.size+4,s1.heap.objs.size+2,s1.heap.objs.size+3,s1.heap.objs.size,s1.heap.objs.size+1],_,_,H1,rfl,I1.kept (t':=s1.toks) hk,
    bZZ a b _ _ _ _ _ ⟨by simp,by simp,by simp,by simp,by simp,by simp,by simp,by simp,by simp,by simp⟩,⟨hz,hI,⟨_,_,hO⟩,g1,g2⟩,λc hc=>?_,q⟩
   have z:s1.heap.objs.size<=c:=by
    simp only[List.mem_cons,List.not_mem_nil,or_false]at hc;rcases hc with z|z|z|z|z<;>(rw[z];first|exact Ai _|exact Fw _ _)
   exact I1.fpOk z (I1.hok.fresh z)
  ·exact q.elim
 ·exact q.elim
end
def cZ7(Pv:Nat->St->Hp->Prop)(h0:Pv 0 σ H)(hl:∀i σ H,i<=xs.length->i<=ys.length->Pv i σ H->rdL H a=some xs/\rdL H b=some ys)(hs:∀i x y σ H p,xs[i]?=some x->ys[i]?=some y->Pv i σ H->H p=none->g (.ref p) σ (upd H p (.tup [x,y])) λσ2 H2=>tb {D with nx:=Pv (i+1),ct:=Pv (i+1),bk:=D.nx} σ2 H2)(hd:∀σ H,Pv (min xs.length ys.length) σ H->D.nx σ H):yZ (Itz K a b) g tb D σ H:=by
 refine⟨λi m σ H=>m=min xs.length ys.length-i/\i<=min xs.length ys.length/\Pv i σ H,⟨min xs.length ys.length,by simp,Nat.zero_le _,h0⟩,?_⟩
 rintro i m σ H ⟨rfl,hi,p⟩;obtain⟨hr1,hr2⟩:=hl i σ H (by omega) (by omega) p
 by_cases hlt:i<min xs.length ys.length
 ·refine .inr ⟨⟨xs,ys,xs[i]'(by omega),ys[i]'(by omega),bF hr1,bF hr2,Aa _,Aa _⟩,Pv (i+1),λσ' H' p'=>⟨min xs.length ys.length-(i+1),by omega,rfl,hlt,p'⟩,λx H' y=>?_⟩
  obtain⟨q,x1,y1,hq,rfl,rfl,hx,hy⟩:=y;exact hs i x1 y1 σ H q (hx xs (bF hr1)) (hy ys (bF hr2)) p hq
 ·have e:i=min xs.length ys.length:=by omega
  subst e;exact .inl ⟨⟨xs,ys,bF hr1,bF hr2,by omega⟩,hd σ H p⟩
def dJ6(h:ta σ H (cXI λa b H1=>onL (rdL H1 a) (onL (rdL H1 b) (R (Itz K a b) H1)))):eJG K ta σ H R:=h
def eXY{R:Addr->Addr->Hp->Prop}(h:R a b H):cXI R [.ref a,.ref b] H:=h
def cJS:V->List V->Hp->VK->Prop:=λx vs H Q=>match x,vs with
 |.ref l,[.ref b]=>(match iB H l,iB H b with|some xs,some zs=>xs.length+zs.length<=sizeLine/\Q .non (upd H l (.lst (xs++zs)))|_,_=>False)
 |_,_=>False
def aXA:MtR X "list.extend" cJS:=MtR.imp (r:=bQT) bXY λ_ _ _ _ q=>by
 unfold cJS at q;split at q
 ·split at q
  ·exact⟨_,_,_,_,rfl,rfl,lU (by assumption),lU (by assumption),q.1,q.2⟩
  ·exact q.elim
 ·exact q.elim
def fXB:V->List V->Hp->VK->Prop:=λx vs H Q=>match x,vs with
 |.ref l,[]=>(match iB H l with|some xs=>(match xs[xs.length-1]? with|some y=>Q y (upd H l (.lst xs.dropLast))|none=>False)|none=>False)
 |.ref l,[.int i]=>(match iB H l with|some xs=>(-(2^63)<=i/\i<2^63)/\(match seqIndex? i xs.length with|some k=>(match xs[k]? with|some y=>Q y (upd H l (.lst (xs.eraseIdx k)))|none=>False)|none=>False)|none=>False)
 |_,_=>False
def eQZ:List V->Hp->VK->Prop:=λxs H Q=>match xs with
 |[.int i]=>i.natAbs.log2<1920/\Q (.str (toString i)) H
 |_=>False
def eJE:CallR X (.type "str") eQZ:=call_str_int.imp λ_ _ _ q=>by
 unfold eQZ at q;split at q
 ·exact⟨_,rfl,q.1,q.2⟩
 ·exact q.elim
section
variable {l:Addr} {zs:List V} {i:Int}
def dZL(e:iB H l=some xs)(e':iB H b=some zs)(c:xs.length+zs.length<=sizeLine)(h:Q .non (upd H l (.lst (xs++zs)))):cJS (.ref l) [.ref b] H Q:=by unfold cJS;simp only[e,e'];exact⟨c,h⟩
def s_str(c:i.natAbs.log2<1920)(h:Q (.str (toString i)) H):eQZ [.int i] H Q:=⟨c,h⟩
end
def bQF{p:Addr}(h:H p=some (.lst xs)):tyN (.ref p) H=some "list" := by unfold tyN;simp only[h]
def cQQ{p:Addr}(h:H p=some (.dK kvs)):tyN (.ref p) H=some "dict" := by unfold tyN;simp only[h]
def aX4{t u:TS}(Pj:St->Hp->Prop)(hj:∀σ' H',Pj σ' H'->u D σ' H')(h:∀N:St->Hp->Prop,(∀σ' H',Pj σ' H'->N σ' H')->t {D with nx:=N} σ H):dJT t u D σ H:=h (u D) hj
def none_of{r:Addr}(s:Same H H')(h:H' r=none):H r=none:=by
 cases e:H r with
 |none=>rfl
 |some o=>rw[s _ _ e]at h;cases h
def bM{p:Addr}{o:HO}(hp:H p=none)(s:Same H H'):Same H (upd H' p o):=λb u q=>by rw[aJ (bL q hp)];exact s b u q
def iA{J:It}{n:Nat}(R:Addr->Nat->List V->Hp->Prop)(hl:n<sizeLine)(h0:∀D,H1 D=none->R D 0 [] (upd H1 D (.lst [])))(hgo:∀D i ys Hc,H1 D=none->R D i ys Hc->i<n->J.go i Hc)(hst:∀D ys Hc,H1 D=none->R D n ys Hc->J.stop n Hc)(hs:∀D i ys Hc x H' (A:VK) (B:Hp->Prop),H1 D=none->i<n->R D i ys Hc->Hc D=some (.lst ys)->J.yld i Hc x H'->
 (∀y H4,H4 D=some (.lst ys)->R D (i+1) (ys++[y]) (upd H4 D (.lst (ys++[y])))->A y H4)->(∀H3,H3 D=some (.lst ys)->R D (i+1) ys H3->B H3)->
 g x σ0 H' λσ2 H2=>Wk σ0 σ2/\tests σ2 H2 λb H3=>if b=true then te σ2 H3 A else B H3)(fin:∀D ys Hc,H1 D=none->R D n ys Hc->Hc D=some (.lst ys)->ys.length<=n->Q (.ref D) Hc):eI g tests te σ0 Q J H1:=by
 intro D hD;refine⟨λi m Hc=>m=n-i/\i<=n/\∃ys,ys.length<=i/\Hc D=some (.lst ys)/\R D i ys Hc,⟨n,by simp,Nat.zero_le _,[],Nat.le_refl _,aE,h0 D hD⟩,?_⟩
 rintro i m Hc ⟨rfl,hi,ys,hy,hDc,r⟩;by_cases hlt:i<n
 ·refine .inr ⟨hgo D i ys Hc hD r hlt,λx H' y=>hs D i ys Hc x H' _ _ hD hlt r hDc y (λz H4 e r4=>?_) (λH3 e r3=>?_)⟩
  ·exact⟨ys,e,by omega,n-(i+1),by omega,rfl,hlt,ys++[z],by rw[Af];show ys.length+1<=_;omega,aE,r4⟩
  ·exact⟨n-(i+1),by omega,rfl,hlt,ys,by omega,e,r3⟩
 ·have e:i=n:=by omega
  subst e;exact .inl ⟨hst D ys Hc hD r,fin D ys Hc hD r hDc hy⟩
def Tups(H1 Hc:Hp)(ps:List Addr)(fs:List (List V)):Prop:=ps.length=fs.length/\∀(j:Nat) p t,ps[j]?=some p->fs[j]?=some t->H1 p=none/\Hc p=some (.tup t)
def Tups.keep{Hd:Hp}(t:Tups H1 Hc ps fs)(s:Same Hc Hd):Tups H1 Hd ps fs:=⟨t.1,λj p u hp hu=>⟨(t.2 j p u hp hu).1,s _ _ (t.2 j p u hp hu).2⟩⟩
def Tups.older{H0:Hp}(t:Tups H1 Hc ps fs)(s:Same H0 H1):Tups H0 Hc ps fs:=⟨t.1,λj p u hp hu=>⟨none_of s (t.2 j p u hp hu).1,(t.2 j p u hp hu).2⟩⟩
def Tups.put{D:Addr}{zs:List V}(t:Tups H1 Hc ps fs)(h:Hc D=some (.lst ys)):Tups H1 (upd Hc D (.lst zs)) ps fs:=⟨t.1,λj p u hp hu=>by
 obtain⟨a,b⟩:=t.2 j p u hp hu;refine⟨a,?_⟩;rw[aJ λz=>by rw[z,h]at b;cases b]
 exact b⟩
def Tups.app{qs:List Addr}{gs:List (List V)}(t:Tups H1 Hc ps fs)(u:Tups H1 Hc qs gs):Tups H1 Hc (ps++qs) (fs++gs):=by
 refine⟨by rw[Af,Af,t.1,u.1],λj p v hp hv=>?_⟩
 by_cases h:j<ps.length
 ·rw[Aq h]at hp;rw[Aq (by rw[<-t.1];exact h)]at hv
  exact t.2 j p v hp hv
 ·rw[Au (by omega)]at hp
  rw[Au (by rw[<-t.1];omega),<-t.1]at hv
  exact u.2 _ p v hp hv
def Tups.nil:Tups H1 Hc [] []:=⟨rfl,λj p u hp=>by cases hp⟩
def Tups.one{p:Addr}{t:List V}(a:H1 p=none)(b:Hc p=some (.tup t)):Tups H1 Hc [p] [t]:=⟨rfl,λj q u hq hu=>by
 cases j with
 |zero=>cases hq;cases hu;exact⟨a,b⟩
 |succ j=>cases hq⟩
def bZM(f:Nat->List V)(hl:n<sizeLine)(hs:∀(i:Nat) Hc (A:VK) (B:Hp->Prop),i<n->Same H1 Hc->(∀p Hd,Hc p=none->Same Hc Hd->Hd p=some (.tup (f i))->A (.ref p) Hd)->
 g (.int (lo+i)) σ0 Hc λσ2 H2=>Wk σ0 σ2/\tests σ2 H2 λb H3=>if b=true then te σ2 H3 A else B H3)(fin:∀D Hd ps,H1 D=none->Same H1 Hd->Hd D=some (.lst (ps.map V.ref))->ps.length=n->Tups H1 Hd ps ((List.range n).map f)->Q (.ref D) Hd):eI g tests te σ0 Q (Itr lo n) H1:=by
 refine iA (n:=n) (λD i ys Hc=>Same H1 Hc/\∃ps,ys=ps.map V.ref/\ps.length=i/\Tups H1 Hc ps ((List.range i).map f)) hl (λD hD=>⟨aG hD _,[],rfl,rfl,.nil⟩) (λD i ys Hc _ r h=>h) (λD ys Hc _ r=>Ai n) ?_ ?_
 ·rintro D i ys Hc x H' A B hD hi ⟨sm,ps,rfl,hn,tp⟩ hDc ⟨rfl,rfl⟩ ha hb;refine hs i H' A B hi sm (λp Hd hp sd hd=>?_);refine ha _ _ (sd _ _ hDc) ⟨bM hD (sm.trans sd),ps++[p],by rw[Ar];rfl,by rw[Af,hn];rfl,?_⟩
  rw[Bs,Ar];exact((tp.keep sd).app (.one (none_of sm hp) hd)).put (sd _ _ hDc)
 ·rintro D ys Hc hD ⟨sm,ps,rfl,hn,tp⟩ hDc _;exact fin D Hc ps hD sm hDc hn tp
def Alk(H:Hp):Nat->V->V->Prop
 |0,x,y=>x=y/\cU x=true
 |n+1,x,y=>(x=y/\cU x=true)\/∃p q xs ys,x=.ref p/\y=.ref q/\((rdL H p=some xs/\rdL H q=some ys)\/(mV H p=some xs/\mV H q=some ys))/\xs.length=ys.length/\∀(j:Nat) x' y',xs[j]?=some x'->ys[j]?=some y'->Alk H n x' y'
def Alk.flat{x:V}(h:cU x=true):Alk H n x x:=by
 cases n with
 |zero=>exact⟨rfl,h⟩
 |succ n=>exact .inl ⟨rfl,h⟩
def Alk.lst{H:Hp}{n:Nat}{p q:Addr}{xs ys:List V}(hp:rdL H p=some xs)(hq:rdL H q=some ys)(hl:xs.length=ys.length)(h:∀(j:Nat) x y,xs[j]?=some x->ys[j]?=some y->Alk H n x y):Alk H (n+1) (.ref p) (.ref q):=.inr ⟨p,q,xs,ys,rfl,rfl,.inl ⟨hp,hq⟩,hl,h⟩
def Alk.tup{H:Hp}{n:Nat}{p q:Addr}{xs ys:List V}(hp:mV H p=some xs)(hq:mV H q=some ys)(hl:xs.length=ys.length)(h:∀(j:Nat) x y,xs[j]?=some x->ys[j]?=some y->Alk H n x y):Alk H (n+1) (.ref p) (.ref q):=.inr ⟨p,q,xs,ys,rfl,rfl,.inr ⟨hp,hq⟩,hl,h⟩
def Alk.flats(f:xs.all cU=true):∀(j:Nat) x y,xs[j]?=some x->xs[j]?=some y->Alk H n x y:=λj x y hx hy=>by
 rw[hx]at hy;cases hy;exact .flat (Dt.mp f x (An hx))
def aQK{x:V}(h:cU x=true):eqV x x=true:=by
 cases x<;>first|rfl|(simp[eqV];done)|(cases h;done)
def oV{l:List Nat}:(l.all λ_=>true)=true:=by
 induction l with
 |nil=>rfl
 |cons a r ih=>rw[List.all_cons,ih];rfl
def cX7(I:Inv X pins σ H s):∀(n:Nat) (A:Around) (x y:V) (u v:Value),Alk H n x y->RelV x u->RelV y v->A.units+n<cLine->SeqAt.EqAt A s u v true:=by
 intro n;induction n with
 |zero=>
  intro A x y u v h ru rv hu;obtain⟨rfl,f⟩:=h;have:=yE (A:=A) (s:=s) ru rv f f
  rw[aQK f]at this;exact this
 |succ n ih=>
  intro A x y u v h ru rv hu;rcases h with⟨rfl,f⟩|⟨p,q,xs,ys,rfl,rfl,hpq,hl,h⟩
  ·have:=yE (A:=A) (s:=s) ru rv f f
   rw[aQK f]at this;exact this
  ·cases ru;cases rv;by_cases e:p=q
   ·subst e;exact SeqAt.EqAt.same _
   refine SeqAt.EqAt.of_refs e ?_;have hu1:A.in1.units+n<cLine:=by show A.units+1+n<cLine;omega
   rcases hpq with⟨hp,hq⟩|⟨hp,hq⟩
   ·obtain⟨its,r1,l1,_⟩:=I.list (bF hp);obtain⟨its2,r2,l2,_⟩:=I.list (bF hq);have e1:=r1.length
    have e2:=r2.length
    have:=SeqAt.RcAt.lists (A:=A) (s:=s) (e:=λ_=>true) l1.isList l2.isList (by simp only[List.size_toArray];omega) (by omega) (λj h1 h2=>by
     have h1':j<its.length:=by simpa using h1
     have h2':j<its2.length:=by simpa using h2
     obtain⟨u',hu',ru'⟩:=r1.get (Aa (show j<xs.length by omega))
     obtain⟨v',hv',rv'⟩:=r2.get (Aa (show j<ys.length by omega))
     rw[Aa h1']at hu';rw[Aa h2']at hv';cases hu';cases hv'
     simpa using ih A.in1 _ _ _ _ (h j _ _ (List.getElem?_eq_getElem _) (List.getElem?_eq_getElem _)) ru' rv' hu1)
    rw[oV]at this;exact this
   ·obtain⟨its,r1,l1,_⟩:=I.tuple (SqT.of (K:=X.K) (gS hp));obtain⟨its2,r2,l2,_⟩:=I.tuple (SqT.of (K:=X.K) (gS hq));have e1:=r1.length
    have e2:=r2.length
    have:=SeqAt.RcAt.tuples (A:=A) (s:=s) (e:=λ_=>true) (show s.heap.IsTuple p its.toArray from l1) (show s.heap.IsTuple q its2.toArray from l2) (by omega) (λj h1 h2=>by
     have h1':j<its.length:=by simpa using h1
     have h2':j<its2.length:=by simpa using h2
     obtain⟨u',hu',ru'⟩:=r1.get (Aa (show j<xs.length by omega))
     obtain⟨v',hv',rv'⟩:=r2.get (Aa (show j<ys.length by omega))
     rw[Aa h1']at hu';rw[Aa h2']at hv';cases hu';cases hv'
     simpa using ih A.in1 _ _ _ _ (h j _ _ (List.getElem?_eq_getElem _) (List.getElem?_eq_getElem _)) ru' rv' hu1)
    rw[oV,Bool.true_and,Bk,Bk,show (its.length==its2.length)=true from Fc.mpr (by omega)]at this
    exact this
def eQY(I:Inv X pins σ H s){p:Addr}(h:Alk H (n+1) (.ref p) (.ref q))(hu:A.units+(n+1)<cLine):SeqAt.RcAt A s (.ref p) (.ref q) true/\SeqAt.RcNeAt A s (.ref p) (.ref q) false:=by
 rcases h with⟨_,f⟩|⟨p',q',xs,ys,e1,e2,hpq,hl,h⟩
 ·cases f
 ·cases e1;cases e2;have hu1:A.in1.units+n<cLine:=by show A.units+1+n<cLine;omega
  rcases hpq with⟨hp,hq⟩|⟨hp,hq⟩
  ·obtain⟨its,r1,l1,_⟩:=I.list (bF hp);obtain⟨its2,r2,l2,_⟩:=I.list (bF hq);have e1:=r1.length
   have e2:=r2.length
   have he:∀j (h1:j<its.toArray.size) (h2:j<its2.toArray.size),SeqAt.EqAt A.in1 s its.toArray[j] its2.toArray[j] ((λ_=>true) j):=λj h1 h2=>by
    have h1':j<its.length:=by simpa using h1
    have h2':j<its2.length:=by simpa using h2
    obtain⟨u',hu',ru'⟩:=r1.get (Aa (show j<xs.length by omega))
    obtain⟨v',hv',rv'⟩:=r2.get (Aa (show j<ys.length by omega))
    rw[Aa h1']at hu';rw[Aa h2']at hv';cases hu';cases hv'
    simpa using cX7 I n A.in1 _ _ _ _ (h j _ _ (List.getElem?_eq_getElem _) (List.getElem?_eq_getElem _)) ru' rv' hu1
   have a:=SeqAt.RcAt.lists (A:=A) (s:=s) (e:=λ_=>true) l1.isList l2.isList (by simp only[List.size_toArray];omega) (by omega) he
   have b:=SeqAt.RcNeAt.lists (A:=A) (s:=s) (e:=λ_=>true) l1.isList l2.isList (by simp only[List.size_toArray];omega) (by omega) he
   rw[oV]at a b;exact⟨a,b⟩
  ·obtain⟨its,r1,l1,_⟩:=I.tuple (SqT.of (K:=X.K) (gS hp));obtain⟨its2,r2,l2,_⟩:=I.tuple (SqT.of (K:=X.K) (gS hq));have e1:=r1.length
   have e2:=r2.length
   have he:∀j (h1:j<its.toArray.size) (h2:j<its2.toArray.size),SeqAt.EqAt A.in1 s its.toArray[j] its2.toArray[j] ((λ_=>true) j):=λj h1 h2=>by
    have h1':j<its.length:=by simpa using h1
    have h2':j<its2.length:=by simpa using h2
    obtain⟨u',hu',ru'⟩:=r1.get (Aa (show j<xs.length by omega))
    obtain⟨v',hv',rv'⟩:=r2.get (Aa (show j<ys.length by omega))
    rw[Aa h1']at hu';rw[Aa h2']at hv';cases hu';cases hv'
    simpa using cX7 I n A.in1 _ _ _ _ (h j _ _ (List.getElem?_eq_getElem _) (List.getElem?_eq_getElem _)) ru' rv' hu1
   have a:=SeqAt.RcAt.tuples (A:=A) (s:=s) (e:=λ_=>true) (show s.heap.IsTuple p its.toArray from l1) (show s.heap.IsTuple q its2.toArray from l2) (by omega) he
   have b:=SeqAt.RcNeAt.tuples (A:=A) (s:=s) (e:=λ_=>true) (show s.heap.IsTuple p its.toArray from l1) (show s.heap.IsTuple q its2.toArray from l2) (by omega) he
   rw[oV,Bool.true_and,Bk,Bk,show (its.length==its2.length)=true from Fc.mpr (by omega)]at a b
   exact⟨a,b⟩
def eZ5(neg:Bool):R2:=λx y H Q=>∃n p q,n<=50/\x=.ref p/\y=.ref q/\Alk H (n+1) x y/\Q (.bl (!neg)) H
def eJF(hu:X.A.units+64<cLine):OpR X (compareOp .Eq) (eZ5 false):=by
 intro pins s σ H x y v u Q I rx ry h;obtain⟨n,p,q,hn,rfl,rfl,al,k⟩:=h;cases rx;cases ry;exact(eQY I al (by omega)).1 X.prog X.w _ _ ⟨.bl true,H,I,rfl,k⟩
def dZ7{p:Addr}(n:Nat)(al:Alk H (n+1) (.ref p) (.ref q))(h:Q (.bl (!neg)) H)(hn:n<=50:=by omega):eZ5 neg (.ref p) (.ref q) H Q:=⟨n,p,q,hn,rfl,rfl,al,h⟩
def Lsts(H1 Hc:Hp)(ps:List Addr)(fs:List (List V)):Prop:=ps.length=fs.length/\∀(j:Nat) p t,ps[j]?=some p->fs[j]?=some t->H1 p=none/\Hc p=some (.lst t)
def Lsts.keep{Hd:Hp}(t:Lsts H1 Hc ps fs)(s:Same Hc Hd):Lsts H1 Hd ps fs:=⟨t.1,λj p u hp hu=>⟨(t.2 j p u hp hu).1,s _ _ (t.2 j p u hp hu).2⟩⟩
def Lsts.older{H0:Hp}(t:Lsts H1 Hc ps fs)(s:Same H0 H1):Lsts H0 Hc ps fs:=⟨t.1,λj p u hp hu=>⟨none_of s (t.2 j p u hp hu).1,(t.2 j p u hp hu).2⟩⟩
def Lsts.put{D:Addr}{o:HO}(t:Lsts H1 Hc ps fs)(h:∀p∈ps,p≠D):Lsts H1 (upd Hc D o) ps fs:=⟨t.1,λj p u hp hu=>by
 obtain⟨a,b⟩:=t.2 j p u hp hu;refine⟨a,?_⟩;rw[aJ (h p (An hp))];exact b⟩
def Lsts.snoc{ps:List Addr}{fs:List (List V)}{g:List V}(t:Lsts H1 Hc ps fs)(a:H1 q=none)(b:Hc q=some (.lst g)):Lsts H1 Hc (ps++[q]) (fs++[g]):=by
 refine⟨by rw[Af,Af,t.1];rfl,λj p v hp hv=>?_⟩
 by_cases h:j<ps.length
 ·rw[Aq h]at hp;rw[Aq (by rw[<-t.1];exact h)]at hv
  exact t.2 j p v hp hv
 ·rw[Au (by omega)]at hp
  rw[Au (by rw[<-t.1];omega),<-t.1]at hv
  cases e:j-ps.length with
  |zero=>rw[e]at hp hv;cases hp;cases hv;exact⟨a,b⟩
  |succ n=>rw[e]at hp;cases hp
def Lsts.nil:Lsts H1 Hc [] []:=⟨rfl,λj p u hp=>by cases hp⟩
def Lsts.mem(t:Lsts H1 Hc ps fs){p:Addr}(hp:p∈ps):∃g∈fs,H1 p=none/\Hc p=some (.lst g):=by
 obtain⟨j,hj⟩:=Dz.mp hp;have hl:j<fs.length:=by rw[<-t.1];exact(Ad.mp hj).1
 exact⟨fs[j],Ca _,t.2 j p _ hj (Aa hl)⟩
def kD(ns:List Int):∀n,n<=ns.length->preSum (λi=>ns.getD i 0) n=(ns.take n).sum
 |0,_=>by simp[preSum]
 |n+1,h=>by
  have ih:=kD ns n (by omega)
  have e:ns.take (n+1)=ns.take n++[ns.getD n 0]:=by rw[Bc,Ac,Aa (by omega)];rfl
  rw[e,List.sum_append,<-ih];simp[preSum]
def bZA{ns:List Int}(h:∀n∈ns,0<=n/\n<=1000000):0<=ns.sum/\ns.sum<=1000000*(ns.length:Int):=by
 induction ns with
 |nil=>simp
 |cons n r ih=>
  obtain⟨a,b⟩:=h n (Al ..);obtain⟨c,d⟩:=ih λm hm=>h m (Am _ hm);rw[Cq,Ax];constructor
  ·omega
  ·push_cast;omega
def dJW:List V->Hp->VK->Prop:=λxs H Q=>∃(p:Addr) (ns:List Int),xs=[.ref p]/\rdL H p=some (ns.map V.int)/\(∀n∈ns,0<=n/\n<=1000000)/\ns.length<=100000/\Q (.int ns.sum) H
def cZ9(hc:X.calm=true):CallR X (.builtin "sum") dJW:=by
 intro pins s σ H xs us Q I r h;obtain⟨p,ns,rfl,hp,hb,hn,q⟩:=h;obtain⟨u,rfl,ru⟩:=dR r;cases ru;obtain⟨its,rv,pl,hz⟩:=I.list (bF hp);have hl:=pl.isList
 have hlt:p<s.heap.objs.size:=by obtain⟨_,e,_⟩:=hl;exact Av e
 have hle:its.length=ns.length:=by have:=rv.length;rw[Ab]at this;omega
 refine call_sum_walk (Fn hl ?_);refine⟨s.heap.objs.size,[s.heap.objs.size,p],[s.heap.objs.size],its.toArray.size,_,_,λi=>ns.getD i 0,rfl,Walks.list (A:=X.A.in1) (I.ok.hd hc) _ p (Bj hlt) its.toArray,
  ⟨⟨_,Ay _ rfl,rfl,rfl⟩,hl.push _⟩,λb hb=>?_,λi v hv=>?_,λj hj=>?_,λh' tk t' hk=>?_⟩
 ·rw[show ({s with heap:=_}:Shared).heap=_ from rfl]
  simp only[List.mem_cons,List.not_mem_nil,or_false]at hb;rcases hb with e|e
  ·rw[e];simp[Heap.push]
  ·rw[e];exact Nat.lt_of_lt_of_le hlt (by simp[Heap.push])
 ·have hv':its[i]?=some v:=by simpa using hv
  have hi:i<ns.length:=by rw[<-hle];exact(Ad.mp hv').1
  obtain⟨u,hu,ru⟩:=rv.get (show (ns.map V.int)[i]?=some (.int ns[i]) by rw[Ah,Aa hi];rfl)
  rw[hv']at hu;cases hu;obtain⟨t,rfl⟩:=ru;exact⟨t,by show Value.int ns[i] t=Value.int (ns.getD i 0) t;rw[Ac,Aa hi];rfl⟩
 ·have hj' : j < ns.length := by have : j < its.length := by simpa using hj
                                 omega
  have e:=kD ns (j+1) (by omega)
  obtain⟨a1,a2⟩:=bZA (ns:=ns.take (j+1)) λm hm=>hb m (List.mem_of_mem_take hm);rw[Bx]at a2;have a3:ns.getD j 0∈ns:=by rw[Ac,Aa hj'];exact Ca _
  obtain⟨b1,b2⟩:=hb _ a3;refine⟨?_,?_⟩
  ·show InLong (ns.getD j 0)
   unfold InLong;omega
  ·rw[e];unfold InLong;omega
 ·have e:preSum (λi=>ns.getD i 0) its.toArray.size=ns.sum:=by
   rw[Bk,hle,kD ns _ (Ai _),Br]
  rw[e];exact⟨.int ns.sum,H,I.kept (LSm.kept_iter hk),⟨_,rfl⟩,q⟩
def dZT{p:Addr}(e:rdL H p=some (ns.map V.int))(hb:∀n∈ns,0<=n/\n<=1000000)(hl:ns.length<=100000)(h:Q (.int ns.sum) H):dJW [.ref p] H Q:=⟨p,ns,rfl,e,hb,hl,h⟩
section
variable {κ:Type} [DecidableEq κ]
def cA(kvs:List (κ×V))(k:κ):Option V:=(kvs.find? λkv=>decide (kv.1=k)).map (·.2)
def dL(kvs:List (κ×V))(k:κ)(v:V):List (κ×V):=
 if (kvs.any λkv=>decide (kv.1=k))=true then kvs.map (λkv=>if kv.1=k then (kv.1,v) else kv) else kvs++[(k,v)]
def dZ8(kvs:List (κ×V))(k:κ):List (κ×V):=kvs.filter λkv=>decide (kv.1≠k)
def cJ{p:κ×V}{r:List (κ×V)}{k:κ}(e:p.1=k):cA (p::r) k=some p.2:=by simp[cA,List.find?_cons,e]
def bZ{p:κ×V}{r:List (κ×V)}{k:κ}(e:¬p.1=k):cA (p::r) k=cA r k:=by simp[cA,List.find?_cons,e]
def fM(k:κ):∀kvs:List (κ×V),(kvs.any λkv=>decide (kv.1=k))=(cA kvs k).isSome
 |[]=>rfl
 |p::r=>by
  rw[Gx];by_cases e:p.1=k
  ·simp only[cJ e,decide_eq_true e,Bool.true_or,Option.isSome_some]
  ·rw[bZ e,Aw e,Gz];exact fM k r
def zO(k j:κ)(y:V):∀kvs:List (κ×V),cA (kvs.map λkv=>if kv.1=k then (kv.1,y) else kv) j=(cA kvs j).map λx=>if j=k then y else x
 |[]=>rfl
 |p::r=>by
  have ih:=zO k j y r
  rw[As];by_cases h:p.1=k
  ·rw[if_pos h];by_cases e:p.1=j
   ·rw[cJ (p:=(p.1,y)) e,cJ e,Eo,if_pos (e.symm.trans h)]
   ·rw[bZ (p:=(p.1,y)) e,bZ e,ih]
  ·rw[if_neg h];by_cases e:p.1=j
   ·rw[cJ (p:=p) e,cJ e,Eo,if_neg (λz=>h (e.trans z))]
   ·rw[bZ (p:=p) e,bZ e,ih]
def xE(k j:κ)(y:V):∀kvs:List (κ×V),cA kvs k=none->cA (kvs++[(k,y)]) j=if j=k then some y else cA kvs j
 |[],_=>by
  by_cases e:k=j
  ·rw[if_pos e.symm];exact cJ (p:=(k,y)) e
  ·rw[if_neg (λz=>e z.symm)];exact bZ (p:=(k,y)) e
 |p::r,hn=>by
  rw[List.cons_append];have hk:¬p.1=k:=λz=>by rw[cJ z]at hn;cases hn
  rw[bZ hk]at hn;have ih:=xE k j y r hn
  by_cases e:p.1=j
  ·rw[cJ e,cJ e,if_neg (λz=>hk (e.trans z))]
  ·rw[bZ e,bZ e,ih]
def zZ(kvs:List (κ×V))(k j:κ)(y:V):cA (dL kvs k y) j=if j=k then some y else cA kvs j:=by
 unfold dL;by_cases a:(kvs.any λkv=>decide (kv.1=k))=true
 ·rw[if_pos a,zO];rw[fM]at a;by_cases e:j=k
  ·obtain⟨x,hx⟩:=Cm.mp a;rw[if_pos e,e,hx,Eo,if_pos rfl]
  ·rw[if_neg e];cases cA kvs j with
   |none=>rfl
   |some x=>rw[Eo,if_neg e]
 ·rw[if_neg a];refine xE k j y kvs ?_;rw[fM]at a;cases q:cA kvs k with
  |none=>rfl
  |some x=>rw[q]at a;exact(a rfl).elim
def fK(kvs:List (κ×V))(k:κ)(v:V):(dL kvs k v).length<=kvs.length+1:=by
 unfold dL;split
 ·rw[Ab];omega
 ·rw[Af,Ax,List.length_nil];omega
def kR{kvs:List (κ×V)}{k:κ}(v:V)(h:cA kvs k=none):dL kvs k v=kvs++[(k,v)]:=by
 unfold dL;rw[fM,h];exact if_neg (by decide)
def RelO.isSome_eq{o:Option V}{u:Option Value}(r:RelO o u):o.isSome=u.isSome:=by
 cases o with
 |none=>cases u with
  |none=>rfl
  |some _=>exact(show False from r).elim
 |some _=>cases u with
  |none=>exact(show False from r).elim
  |some _=>rfl
def RelO.getD{o:Option V}{u:Option Value}{d:V}{d':Value}(r:RelO o u)(rd:RelV d d'):RelV (o.getD d) (u.getD d'):=by
 cases o with
 |none=>cases u with
  |none=>exact rd
  |some _=>exact(show False from r).elim
 |some _=>cases u with
  |none=>exact(show False from r).elim
  |some _=>exact r
def KV.val{kvs:List (κ×V)}{vs:List (κ×Value)}(r:KV kvs vs)(k:κ):RelO (cA kvs k) (valueAt vs k):=by
 unfold KV at r;induction r with
 |nil=>exact True.intro
 | @cons p q ps qs h t ih=>
  obtain⟨h1,h2⟩:=h;by_cases e:p.1=k
  ·have e':q.1=k:=h1.symm.trans e
   have b:valueAt (q::qs) k=some q.2:=by simp[valueAt,List.find?_cons,e']
   rw[cJ e,b];exact h2
  ·have e':¬q.1=k:=λz=>e (h1.trans z)
   have b:valueAt (q::qs) k=valueAt qs k:=by simp[valueAt,List.find?_cons,e']
   rw[bZ e,b];exact ih
def KV.any{kvs:List (κ×V)}{vs:List (κ×Value)}(r:KV kvs vs)(k:κ):(kvs.any λkv=>decide (kv.1=k))=vs.any λkv=>decide (kv.1=k):=by
 unfold KV at r;induction r with
 |nil=>rfl
 |cons h t ih=>rw[Gx,Gx,ih,h.1]
def KV.repl{kvs:List (κ×V)}{vs:List (κ×Value)}(r:KV kvs vs)(k:κ)(ry:RelV y u):KV (kvs.map λkv=>if kv.1=k then (kv.1,y) else kv) (vs.map λkv=>if kv.1=k then (kv.1,u) else kv):=by
 unfold KV at r ⊢;induction r with
 |nil=>exact .nil
 | @cons p q ps qs h t ih=>
  rw[As,As];refine .cons ?_ ih;obtain⟨h1,h2⟩:=h;by_cases e:p.1=k
  ·rw[if_pos e,if_pos (h1.symm.trans e)];exact⟨h1,ry⟩
  ·rw[if_neg e,if_neg (λz=>e (h1.trans z))];exact⟨h1,h2⟩
def KV.put{kvs:List (κ×V)}{vs:List (κ×Value)}(r:KV kvs vs)(k:κ)(ry:RelV y u):KV (dL kvs k y) (stored vs k u):=by
 unfold dL stored;rw[r.any k];by_cases e:(vs.any λkv=>decide (kv.1=k))=true
 ·rw[if_pos e,if_pos e];exact r.repl k ry
 ·rw[if_neg e,if_neg e];exact Paired.snoc r ⟨rfl,ry⟩
def KV.drop{kvs:List (κ×V)}{vs:List (κ×Value)}(r:KV kvs vs)(k:κ):KV (dZ8 kvs k) (without vs k):=by
 unfold KV at r ⊢;unfold dZ8 without;induction r with
 |nil=>exact .nil
 | @cons p q ps qs h t ih=>
  obtain⟨h1,h2⟩:=h;rw[Fx,Fx];by_cases e:p.1=k
  ·have a:¬decide (p.1≠k)=true:=by simp[e]
   have b:¬decide (q.1≠k)=true:=by simp[h1.symm.trans e]
   rw[if_neg a,if_neg b];exact ih
  ·have e':¬q.1=k:=λz=>e (h1.trans z)
   have a:decide (p.1≠k)=true:=by simp[e]
   have b:decide (q.1≠k)=true:=by simp[e']
   rw[if_pos a,if_pos b];exact .cons ⟨h1,h2⟩ ih
def KV.keys{kvs:List (κ×V)}{vs:List (κ×Value)}(r:KV kvs vs):kvs.map (·.1)=vs.map (·.1):=by
 unfold KV at r;induction r with
 |nil=>rfl
 |cons h t ih=>rw[As,As,ih,h.1]
def KV.length{kvs:List (κ×V)}{vs:List (κ×Value)}(r:KV kvs vs):kvs.length=vs.length:=Paired.length r
end
def uL{k:Key}(r:RelV (kV k) u):(bB P w).is k u=true:=by
 cases k with
 |inl i=>obtain⟨t,e⟩:=(show ∃t,u=Value.int i t from r);subst e;exact aQZ P w i t
 |inr x=>obtain⟨t,e⟩:=(show ∃t,u=Value.str x t from r);subst e;exact aQ7 P w x t
def wQ:∀ {ks:List Key} {us:List Value},Vals (ks.map kV) us->ItemsAre (bB P w) ks us
 |[],_,r=>by rw[Gk]at r;cases r;exact .nil
 |k::ks,_,r=>by
  rw[As]at r;cases r with
  |cons h t=>exact .cons (uL h) (wQ t)
abbrev KT(H:Hp):List (List Key×V)->List (List Key×Addr×Value)->Prop:=Paired λp q=>p.1=q.1/\H q.2.1=some (.tup (p.1.map kV))/\RelV p.2 q.2.2
def KT.val{kvs:List (List Key×V)}{xs:List (List Key×Addr×Value)}(r:KT H kvs xs)(k:List Key):RelO (cA kvs k) ((atKey xs k).map (·.2)):=by
 induction r with
 |nil=>exact True.intro
 | @cons p q ps qs h t ih=>
  obtain⟨h1,_,h2⟩:=h;by_cases e:p.1=k
  ·have e':q.1=k:=h1.symm.trans e
   have b:atKey (q::qs) k=some q.2:=by simp[atKey,List.find?_cons,e']
   rw[cJ e,b];exact h2
  ·have e':¬q.1=k:=λz=>e (h1.trans z)
   have b:atKey (q::qs) k=atKey qs k:=by simp[atKey,List.find?_cons,e']
   rw[bZ e,b];exact ih
def KT.repl{kvs:List (List Key×V)}{xs:List (List Key×Addr×Value)}(r:KT H kvs xs)(k:List Key)(ry:RelV y u):KT H (kvs.map λkv=>if kv.1=k then (kv.1,y) else kv) (xs.map (putAt k u)):=by
 induction r with
 |nil=>exact .nil
 | @cons p q ps qs h t ih=>
  rw[As,As];refine .cons ?_ ih;obtain⟨h1,h2,h3⟩:=h;unfold putAt;by_cases e:p.1=k
  ·rw[if_pos e,if_pos (h1.symm.trans e)];exact⟨h1,h2,ry⟩
  ·rw[if_neg e,if_neg (λz=>e (h1.trans z))];exact⟨h1,h2,h3⟩
def KT.put{kvs:List (List Key×V)}{xs:List (List Key×Addr×Value)}(r:KT H kvs xs)(k:List Key)(hb:H b=some (.tup (k.map kV)))(ry:RelV y u):KT H (dL kvs k y) (storedH xs k b u):=by
 have e:(kvs.any λkv=>decide (kv.1=k))=(atKey xs k).isSome:=by
  rw[fM,(r.val k).isSome_eq,Option.isSome_map]
 unfold dL storedH;rw[e];by_cases q:(atKey xs k).isSome=true
 ·rw[if_pos q,if_pos q];exact r.repl k ry
 ·rw[if_neg q,if_neg q];exact Paired.snoc r ⟨rfl,hb,ry⟩
def KT.keeps{kvs:List (List Key×V)}{xs:List (List Key×Addr×Value)}(r:KT H kvs xs)(ht:∀b ys,H b=some (.tup ys)->H' b=some (.tup ys)):KT H' kvs xs:=
 Paired.mapP r λ_ _ z=>⟨z.1,ht _ _ z.2.1,z.2.2⟩
def dZE{u:HO}(ok:HOk P w H h)(e:Rd H a u):ObjOk P w H h a u:=e.ok ok
def jT(ok:HOk P w H h)(e:Rd H a (.dK kvs)):kvs.length<=sizeLine/\(a==sysModules)=false/\∃vs,KV kvs vs/\h.DictOf (bB P w) a vs:=
 show ObjOk P w H h a (.dK kvs) from dZE ok e
def dZV(ok:HOk P w H h)(e:H a=some (.dK kvs)):kvs.length<=sizeLine/\(a==sysModules)=false/\∃vs,KV kvs vs/\h.DictOf (bB P w) a vs:=jT ok (.inl e)
def nG{ks:List Key}(ok:HOk P w H h)(e:H a=some (.tup (ks.map kV))):(tupleKind (bB P w)).is h ks a:=by
 obtain⟨_,its,r,o,h1,h2,n,h3⟩:=(show ObjOk P w H h a (.tup (ks.map kV)) from ok a _ e);exact⟨o,its.toArray,n,h1,h2,h3,by simpa using wQ r⟩
def qV{kvs:List (List Key×V)}(ok:HOk P w H h)(e:Rd H a (.dT kvs)):kvs.length<=sizeLine/\(a==sysModules)=false/\
 ∃xs,KT H kvs xs/\h.DictOfH (tupleKind (bB P w)) a xs:=by
 obtain⟨z,y,xs,r,o,es,ep,h1,h2,h3,h4,h5⟩:=(show ObjOk P w H h a (.dT kvs) from dZE ok e);refine⟨z,y,xs,r,o,es,ep,h1,h2,h3,h4,λx hx=>?_,h5⟩;have all:∀ {l:List (List Key×V)} {m:List (List Key×Addr×Value)},KT H l m->∀x∈m,(tupleKind (bB P w)).is h x.1 x.2.1:=by
  intro l m q;induction q with
  |nil=>intro x hx;exact nomatch hx
  | @cons p q ps qs hq t ih=>
   intro x hx;rcases Az.mp hx with e|hx
   ·subst e;exact nG ok (by rw[<-hq.1];exact hq.2.1)
   ·exact ih x hx
 exact all r x hx
def dX4{kvs:List (List Key×V)}(ok:HOk P w H h)(e:H a=some (.dT kvs)):kvs.length<=sizeLine/\(a==sysModules)=false/\
 ∃xs,KT H kvs xs/\h.DictOfH (tupleKind (bB P w)) a xs:=qV ok (.inl e)
def DGet(H:Hp)(a:Addr)(y:V)(r:Option V):Prop:=
 (∃kvs k,Rd H a (.dK kvs)/\y=kV k/\r=cA kvs k)\/∃kvs k b,Rd H a (.dT kvs)/\y=.ref b/\H b=some (.tup (k.map kV))/\r=cA kvs k
def DPut(H:Hp)(a:Addr)(y v:V)(H':Hp):Prop:=
 (∃kvs k,H a=some (.dK kvs)/\y=kV k/\kvs.length<sizeLine/\H'=upd H a (.dK (dL kvs k v)))\/
 ∃kvs k b,H a=some (.dT kvs)/\y=.ref b/\H b=some (.tup (k.map kV))/\kvs.length<sizeLine/\H'=upd H a (.dT (dL kvs k v))
def DGet.k{k:Key}(e:H a=some (.dK kvs)):DGet H a (kV k) (cA kvs k):=.inl ⟨kvs,k,.inl e,rfl,rfl⟩
def DGet.t{kvs:List (List Key×V)}{k:List Key}(e:H a=some (.dT kvs))(eb:H b=some (.tup (k.map kV))):DGet H a (.ref b) (cA kvs k):=.inr ⟨kvs,k,b,.inl e,rfl,eb,rfl⟩
def DPut.k{k:Key}(e:H a=some (.dK kvs))(hl:kvs.length<sizeLine):DPut H a (kV k) v (upd H a (.dK (dL kvs k v))):=.inl ⟨kvs,k,e,rfl,hl,rfl⟩
def DPut.t{kvs:List (List Key×V)}{k:List Key}(e:H a=some (.dT kvs))(eb:H b=some (.tup (k.map kV)))(hl:kvs.length<sizeLine):DPut H a (.ref b) v (upd H a (.dT (dL kvs k v))):=.inr ⟨kvs,k,b,e,rfl,eb,hl,rfl⟩
section
variable {r:Value} {o:Option V}
def Inv.big(I:Inv X pins σ H s):sysModules<s.heap.objs.size:=by
 have h:mainGlobals<s.heap.objs.size:=(I.mod.glob.keeps I.bk).lt
 exact Nat.lt_trans (by decide) h
def bZJ{Q:Q0}(hu:A.units+1<cLine)(I:Inv X pins σ H s)(g:DGet H a y (some v))(ry:RelV y u)(h:∀w' s',Inv X pins σ H s'->RelV v w'->Q w' s'):wpAny (model X.prog X.w) A (getItem (.ref a) u) Q E s:=by
 rcases g with⟨kvs,k,e,ey,l⟩|⟨kvs,k,b,e,ey,eb,l⟩
 ·subst ey;obtain⟨z,hd,vs,rel,dd⟩:=jT I.hok e;obtain⟨w',hw,rw'⟩:=RelO.some_of (v:=v) (o:=valueAt vs k) (by rw[l];exact rel.val k)
  exact wpAny_getItem_of (uL ry) dd.mapOf hw (h w' _ (I.tok _) rw')
 ·subst ey;cases (show u=Value.ref b from ry);obtain⟨z,hd,xs,rel,dd⟩:=qV I.hok e;obtain⟨w',hw,rw'⟩:=RelO.some_of (v:=v) (o:=(atKey xs k).map (·.2)) (by rw[l];exact rel.val k)
  obtain⟨p,hp,hp2⟩:=Cu.mp hw;refine wpAny_getItem_heap (Em hu) (nG I.hok eb) dd hp ?_;rw[hp2];exact h w' _ (I.tok _) rw'
def eJ6{Q:Q0}(hu:A.units+1<cLine)(I:Inv X pins σ H s)(g:DGet H a y o)(ry:RelV y u)(h:∀s',Inv X pins σ H s'->Q (.bool o.isSome) s'):wpAny (model X.prog X.w) A (compareOp .In u (.ref a)) Q E s:=by
 rcases g with⟨kvs,k,e,ey,l⟩|⟨kvs,k,b,e,ey,eb,l⟩
 ·subst ey;obtain⟨z,hd,vs,rel,dd⟩:=jT I.hok e;refine wpAny_in_of (uL ry) hd dd.mapOf ?_;rw[<-(rel.val k).isSome_eq,<-l];exact h _ (I.tok _)
 ·subst ey;cases (show u=Value.ref b from ry);obtain⟨z,hd,xs,rel,dd⟩:=qV I.hok e;refine wpAny_in_heap (Em hu) (nG I.hok eb) hd dd ?_;have q:=(rel.val k).isSome_eq
  rw[Option.isSome_map]at q;rw[<-q,<-l];exact h _ (I.tok _)
def dXZ{Q:Q0}(hu:A.units+1<cLine)(I:Inv X pins σ H s)(g:DGet H a y o)(ry:RelV y u)(h:∀s',Inv X pins σ H s'->Q (.bool (!o.isSome)) s'):wpAny (model X.prog X.w) A (compareOp .NotIn u (.ref a)) Q E s:=by
 rcases g with⟨kvs,k,e,ey,l⟩|⟨kvs,k,b,e,ey,eb,l⟩
 ·subst ey;obtain⟨z,hd,vs,rel,dd⟩:=jT I.hok e;refine wpAny_notIn_of (uL ry) hd dd.mapOf ?_;rw[<-(rel.val k).isSome_eq,<-l];exact h _ (I.tok _)
 ·subst ey;cases (show u=Value.ref b from ry);obtain⟨z,hd,xs,rel,dd⟩:=qV I.hok e;refine wpAny_notIn_heap (Em hu) (nG I.hok eb) hd dd ?_;have q:=(rel.val k).isSome_eq
  rw[Option.isSome_map]at q;rw[<-q,<-l];exact h _ (I.tok _)
def aJ6{t':Nat}{ob:HO}(I:Inv X pins σ H s)(mu:Mut (H a))(hs:Heap.SameBut a s.heap h')(he:∃q,h'.get? a=some q)(new:ObjOk X.prog X.w (upd H a ob) h' a ob):Inv X pins σ (upd H a ob) {s with heap:=h',toks:=t'}:=
 I.write (x:=a) (e:=a) mu (.inl rfl) (λb q hb z=>(hs.2 b hb).trans z) he new
def cXS{vs:List (Key×Value)}(z:kvs.length<=sizeLine)(hd:(a==sysModules)=false)(rel:KV kvs vs)(dd:h'.DictOf (bB P w) a vs):ObjOk P w H' h' a (.dK kvs):=⟨z,hd,vs,rel,dd⟩
def bZG{Q:Unit->Shared->Prop}(hu:A.units+1<cLine)(I:Inv X pins σ H s)(g:DPut H a y v H')(ry:RelV y u)(rv:RelV v r)(h:∀s',Inv X pins σ H' s'->Q () s'):wpAny (model X.prog X.w) A (setItem (.ref a) u r) Q E s:=by
 rcases g with⟨kvs,k,e,ey,l,eH⟩|⟨kvs,k,b,e,ey,eb,l,eH⟩
 ·subst ey eH;obtain⟨z,hd,vs,rel,dd⟩:=dZV I.hok e;have hz:vs.length<=sizeLine:=by rw[<-rel.length];exact z
  have hl:(dL kvs k v).length<=sizeLine:=by have:=fK kvs k v;omega
  refine wpAny_setItem_pairs (hsz:=hz) (uL ry) dd λh' dd' hs=>h _ ?_;have he:∃q,h'.get? a=some q:=let ⟨q,_,_,hq,_⟩:=dd';⟨q,hq⟩
  exact aJ6 I (by rw[e];exact True.intro) hs he (cXS hl hd (rel.put k rv) dd')
 ·subst ey eH;cases (show u=Value.ref b from ry);obtain⟨z,hd,xs,rel,dd⟩:=dX4 I.hok e;have hz:xs.length<=sizeLine:=by rw[<-Paired.length rel];exact z
  have hl:(dL kvs k v).length<=sizeLine:=by have:=fK kvs k v;omega
  refine wpAny_setItem_heap (hsz:=hz) (Em hu) (nG I.hok eb) dd λh' dd' hs=>h _ ?_;obtain⟨q,es,ep,hq,h2,h3,h4,_,h5⟩:=dd';refine aJ6 I (by rw[e];exact True.intro) hs ⟨q,hq⟩ ⟨hl,hd,_,(rel.put k eb rv).keeps λc ys ec=>?_,q,es,ep,hq,h2,h3,h4,h5⟩
  rw[aJ (eZM ec e (λz=>nomatch z))]
  exact ec
end
def eJ0(i:Expr):Prop:=∀ov iv,subscripted i false ov iv=operate [ov,iv] (getItem ov iv)
def dQS{value slice:Expr}{id:String}{Q:Q0}(hl:typeLookup (.type T) "__getitem__"=pure (some (.builtin id)))(hs:eJ0 slice)(h:wpAny (model prog w) A (eval value env) (λo s₁=>wpAny (model prog w) A (eval slice env) (λi s₂=>s₂.TypeIs o T/\wpAny (model prog w) A (getItem o i) Q E s₂) E s₁) E s):wpAny (model prog w) A (eval (.Subscript value slice pos) env) Q E s:=by
 refine Subscript_ (Ci h (λo s₁ h₁=>Ci h₁ (λi s₂ h₂=>?_) λ_ _ x=>x) λ_ _ x=>x);obtain⟨hT,h₂⟩:=h₂;unfold subscriptTail;refine Ae ?_;rw[getitemInPython_of_ne hT.not_modules];refine Ae (wpAny_specialOf hT hl ?_);have fin:wpAny (model prog w) A (subscripted slice false o i) (λr s₃=>wpAny (model prog w) A (letTemporaryGo value o r >>= λ_=>pure r) Q E s₃) E s₂:=by
  rw[hs o i];exact wpAny_operating (Ci h₂ (λr s₃ h₃=>Ae (wpAny_letTemporaryGo (Ao h₃))) λ_ _ x=>x)
 first
  |exact Ao (Ae fin)
  |exact Ae (Ao (Ae fin))
  |exact Ae fin
def aQA{o:Option V}(I:Inv X pins σ H s)(g:DGet H a y o):s.TypeIs (.ref a) "dict" := by
 rcases g with⟨kvs,k,e,_,_⟩|⟨kvs,k,b,e,_,_,_⟩
 ·obtain⟨_,_,vs,_,dd⟩:=jT I.hok e;exact dd.typeIs
 ·obtain⟨_,_,xs,_,dd⟩:=qV I.hok e;exact dd.typeIs
def dX3(td ty:TE):TE:=λσ H Q=>td σ H λx H1=>ty σ H1 λy H2=>∃a v,x=.ref a/\DGet H2 a y (some v)/\Q v H2
def dZF(td ty tv:TE):TS:=λD σ H=>tv σ H λv H1=>td σ H1 λx H2=>ty σ H2 λy H3=>∃a H4,x=.ref a/\DPut H3 a y v H4/\D.nx σ H4
section
variable {o i value:Expr} {pos':Pos} {td ty:TE}
def fH(hu:X.A.units+1<cLine)(ho:PE X o td)(hi:PE X i ty)(hs:eJ0 i):PE X (.Subscript o i pos) (dX3 td ty):=by
 intro pins s σ H Q I h;refine dQS PySem.F.slot_dict_getitem.lookup hs (thn (ho pins s σ H _ I h) λu s1 ⟨x,H1,I1,rx,q1⟩=>thn (hi pins s1 σ H1 _ I1 q1) λiv s2 ⟨y,H2,I2,ry,a,v,ex,g,q2⟩=>?_);subst ex;obtain rfl:u=Value.ref a:=rx;exact⟨aQA I2 g,bZJ hu I2 g ry λw' s3 I3 rw'=>⟨v,H2,I3,rw',q2⟩⟩
def eT(hu:X.A.units+1<cLine)(ho:PE X o td)(hi:PE X i ty)(hv:PE X value tv)(hs:swapsWith value (some (.Subscript o i pos')) pos.line X.env=pure false):PS X (.Assign [.Subscript o i pos'] value pos) (dZF td ty tv):=by
 intro pins s σ H D I h;refine wpAny_Assign_Subscript (thn (hv pins s σ H _ I h) λr s1 ⟨v,H1,I1,rv,q1⟩=>thn (ho pins s1 σ H1 _ I1 q1) λu s2 ⟨x,H2,I2,rx,q2⟩=>thn (hi pins s2 σ H2 _ I2 q2) λiv s3 ⟨y,H3,I3,ry,a,H4,ex,g,q3⟩=>?_) hs;subst ex;obtain rfl:u=Value.ref a:=rx;exact bZG hu I3 g ry rv λs4 I4=>⟨σ,H4,I4,q3⟩
end
def cZN(h:Heap)(hb:sysModules<h.objs.size):ObjOk P w H (h.push {cls:=.type "dict",data:=.dict #[]}) h.objs.size (.dK []):=
 ⟨Dc _,Cr.mpr (Ne.symm (Bj hb)),[],.nil,Heap.DictOf.new h⟩
def bZW(h:Heap)(hb:sysModules<h.objs.size):ObjOk P w H (h.push {cls:=.type "dict",data:=.dict #[]}) h.objs.size (.dT []):=
 ⟨Dc _,Cr.mpr (Ne.symm (Bj hb)),[],.nil,_,#[],0,Ay _ rfl,⟨rfl,rfl,rfl⟩,rfl,rfl,List.nodup_nil⟩
def bJG:TE:=λ_ H Q=>∀p,H p=none->Q (.ref p) (upd H p (.dK []))
def bJ4:TE:=λ_ H Q=>∀p,H p=none->Q (.ref p) (upd H p (.dT []))
def sW:PE X (.Dict [] [] pos) bJG:=λpins s σ H Q I h=>
 wpAny_Dict_empty ⟨.ref s.heap.objs.size,_,I.laid (a:=s.heap.objs.size) (o:=.dK []) (t':=s.toks) (λ_ _ q=>Ag _ q) (Ai _) (cZN s.heap I.big),rfl,h _ (I.hok.fresh (Ai _))⟩
def aQP:PE X (.Dict [] [] pos) bJ4:=λpins s σ H Q I h=>
 wpAny_Dict_empty ⟨.ref s.heap.objs.size,_,I.laid (a:=s.heap.objs.size) (o:=.dT []) (t':=s.toks) (λ_ _ q=>Ag _ q) (Ai _) (bZW s.heap I.big),rfl,h _ (I.hok.fresh (Ai _))⟩
def IsD(H:Hp)(a:Addr):Prop:=(∃kvs,Rd H a (.dK kvs))\/∃kvs,Rd H a (.dT kvs)
def cQF(I:Inv X pins σ H s)(d:IsD H a):s.TypeIs (.ref a) "dict"/\(∀b,Value.ref a=.ref b->∃ob,s.heap.get? b=some ob/\ob.dict=none)/\(a==sysModules)=false:=by
 rcases d with⟨kvs,e⟩|⟨kvs,e⟩
 ·obtain⟨_,hd,vs,_,dd⟩:=jT I.hok e;refine⟨dd.typeIs,λb q=>?_,hd⟩;cases q;obtain⟨ob,_,_,h1,h2,_⟩:=dd;exact⟨ob,h1,h2.2.1⟩
 ·obtain⟨_,hd,xs,_,dd⟩:=qV I.hok e;refine⟨dd.typeIs,λb q=>?_,hd⟩;cases q;obtain⟨ob,_,_,h1,h2,_⟩:=dd;exact⟨ob,h1,h2.2.1⟩
section
variable {d:V} {r:Value} {o:Option V}
def eQD{Q:Q0}(hu:A.units+1<cLine)(I:Inv X pins σ H s)(g:DGet H a y o)(ry:RelV y u)(h:∀w' s',Inv X pins σ H s'->RelV (o.getD .non) w'->Q w' s'):wpAny (model X.prog X.w) A (call (.builtin "dict.get") [.ref a,u]) Q E s:=by
 rcases g with⟨kvs,k,e,ey,l⟩|⟨kvs,k,b,e,ey,eb,l⟩
 ·subst ey;obtain⟨z,hd,vs,rel,dd⟩:=jT I.hok e;refine Gr Bb dd.typeIs El (Gg _ _) (meets_dict_get (bB X.prog X.w) a (uL ry) hd) ⟨_,dd.mapOf,h _ _ (I.tok _) ?_⟩;rw[l];exact(rel.val k).getD rfl
 ·subst ey;cases (show u=Value.ref b from ry);obtain⟨z,hd,xs,rel,dd⟩:=qV I.hok e;refine Gr Bb dd.typeIs El (Gg _ _) (meetsH_dict_get (tupleKind (bB X.prog X.w)) a b hd) ⟨Em hu,k,xs,nG I.hok eb,dd,h _ _ (I.tok _) ?_⟩;rw[l];exact(rel.val k).getD rfl
def eXZ{Q:Q0}(hu:A.units+1<cLine)(I:Inv X pins σ H s)(g:DGet H a y o)(ry:RelV y u)(rd:RelV d r)(h:∀w' s',Inv X pins σ H s'->RelV (o.getD d) w'->Q w' s'):wpAny (model X.prog X.w) A (call (.builtin "dict.get") [.ref a,u,r]) Q E s:=by
 rcases g with⟨kvs,k,e,ey,l⟩|⟨kvs,k,b,e,ey,eb,l⟩
 ·subst ey;obtain⟨z,hd,vs,rel,dd⟩:=jT I.hok e;refine Gr Bb dd.typeIs El (PySem.F.args_dict_get_3 _ _ _) (meets_dict_get_default (bB X.prog X.w) a (uL ry) hd r) ⟨_,dd.mapOf,h _ _ (I.tok _) ?_⟩;rw[l];exact(rel.val k).getD rd
 ·subst ey;cases (show u=Value.ref b from ry);obtain⟨z,hd,xs,rel,dd⟩:=qV I.hok e;refine Gr Bb dd.typeIs El (PySem.F.args_dict_get_3 _ _ _) (meetsH_dict_get_default (tupleKind (bB X.prog X.w)) a b hd r) ⟨Em hu,k,xs,nG I.hok eb,dd,h _ _ (I.tok _) ?_⟩;rw[l];exact(rel.val k).getD rd
end
def cQ7{Q:Q0}(I:Inv X pins σ H s)(e:Rd H a (.dK kvs))(h:∀p s',H p=none->Inv X pins σ (upd H p (.dK kvs)) s'->Q (.ref p) s'):wpAny (model X.prog X.w) A (call (.type "dict") [.ref a]) Q E s:=by
 obtain⟨z,hd,vs,rel,dd⟩:=jT I.hok e;refine kt_call_dict hd dd (by rw[<-rel.length];exact z) λh' dd' hs=>?_
 refine h _ _ (I.hok.fresh (Ai _)) (I.laid (a:=s.heap.objs.size) (o:=.dK kvs) (t':=s.toks) (λb q hq=>?_) (Ai _) (cXS z (Cr.mpr (Ne.symm (Bj I.big))) rel dd'));exact(hs.2 b (Bj (Av hq))).trans (Ag _ hq)
def Inv.re(I:Inv X pins σ H s)(hn:∀b,H b=none->H' b=none)(tups:∀b xs,X.H₀ b=some (.tup xs)->H' b=some (.tup xs))(frzs:∀b o u,X.H₀ b=some (.frz o u)->H' b=some (.frz o u))(tbls:∀b ps,X.H₀ b=some (.tbl ps)->∃more,H' b=some (.tbl (ps++more)))(hok:HOk X.prog X.w H' s.heap):Inv X pins σ H' s:=
 ⟨I.ok,I.os,I.bare,⟨I.base.keep,I.base.slot,λb o e n hx=>hn b (I.base.free b o e n hx),I.base.there,tups,frzs,tbls⟩,I.loc,I.cell,hn _ I.free,λx c e=>hn c (I.freeC x c e),λp hp=>by
  obtain⟨a,b,c,d,e⟩:=I.pin p hp;exact⟨a,hn _ b,c,d,e⟩,hok,I.len⟩
def eZP:HO->Bool
 |.dK _=>true
 |.dT _=>true
 |_=>false
def Inv.freeze{u:HO}(I:Inv X pins σ H s)(ha:H a=some u)(hu:eZP u=true)(ho:s.heap.get? a=some o):Inv X pins σ (upd H a (.frz o u)) s:=by
 have ne:∀c v,H c=some v->eZP v=false->c≠a:=λc v q n z=>by rw[z,ha]at q;cases q;rw[n]at hu;cases hu
 have own:∀c y,H c=some (.own y)->upd H a (.frz o u) c=some (.own y):=λc y q=>by rw[aJ (ne c _ q rfl)];exact q
 have tup:∀c xs,H c=some (.tup xs)->upd H a (.frz o u) c=some (.tup xs):=λc xs q=>by rw[aJ (ne c _ q rfl)];exact q
 refine I.re (λb q=>by rw[aJ (λz=>by rw[z,ha]at q;cases q)];exact q) (λb xs q=>tup b xs (I.base.tups b xs q)) (λb o' v q=>?_) (λb ps q=>?_) (λb v q=>?_)
 ·have:=I.base.frzs b o' v q
  rw[aJ (ne b _ this rfl)];exact this
 ·obtain⟨m,e⟩:=I.base.tbls b ps q;exact⟨m,by rw[aJ (ne b _ e rfl)];exact e⟩
 ·by_cases hb:b=a
  ·subst hb;rw[aE]at q;cases q;exact(show s.heap.get? b=some o/\ObjOk X.prog X.w (upd H b (.frz o u)) s.heap b u from⟨ho,(I.hok b _ ha).stay (λ_ _ _ q=>q) (λc=>own c b) tup⟩)
  ·rw[aJ hb]at q;exact(I.hok b v q).stay (λ_ _ _ q=>q) (λc=>own c b) tup
def unf(Hs H:Hp):Hp:=λb=>match H b with
 |some (.frz o u)=>(match Hs b with|some (.frz _ _)=>some (.frz o u)|_=>some u)
 |x=>x
def dP{Hs:Hp}{u:HO}(h:H b=some u)(n:∀o v,u≠.frz o v):unf Hs H b=some u:=by
 unfold unf;rw[h];cases u<;>first|rfl|exact absurd rfl (n _ _)
def aQC(h:H b=none):unf Hs H b=none:=by unfold unf;rw[h]
def rO{Hs:Hp}{u:HO}(h:H b=some (.frz o u))(n:∀o v,Hs b≠some (.frz o v)):unf Hs H b=some u:=by
 unfold unf;rw[h];dsimp only;split
 ·rename_i e
  exact absurd e (n _ _)
 ·rfl
def lK{o':Obj}{u u':HO}(h:H b=some (.frz o u))(n:Hs b=some (.frz o' u')):unf Hs H b=some (.frz o u):=by
 unfold unf;rw[h];dsimp only;rw[n]
def Inv.unfreeze(I:Inv X pins σ H s)(h0:∀b o u,X.H₀ b=some (.frz o u)->Hs b=some (.frz o u)):Inv X pins σ (unf Hs H) s:=by
 have own:∀c y,H c=some (.own y)->unf Hs H c=some (.own y):=λc y q=>dP q λ_ _ z=>by cases z
 have tup:∀c xs,H c=some (.tup xs)->unf Hs H c=some (.tup xs):=λc xs q=>dP q λ_ _ z=>by cases z
 refine I.re (λb q=>aQC q) (λb xs q=>tup b xs (I.base.tups b xs q)) (λb o u q=>lK (I.base.frzs b o u q) (h0 b o u q)) (λb ps q=>?_) (λb u q=>?_)
 ·obtain⟨m,e⟩:=I.base.tbls b ps q;exact⟨m,dP e λ_ _ z=>by cases z⟩
 ·cases e:H b with
  |none=>rw[aQC e]at q;cases q
  |some v=>
   have ok:=I.hok b v e
   by_cases hf:∃o v',v=.frz o v'
   ·obtain⟨o,v',rfl⟩:=hf;have ok2:s.heap.get? b=some o/\ObjOk X.prog X.w H s.heap b v':=ok
    by_cases hs:∃o' u',Hs b=some (.frz o' u')
    ·obtain⟨o',u',hs⟩:=hs;rw[lK e hs]at q;cases q;exact ok.stay (λ_ _ _ q=>q) (λc=>own c b) tup
    ·rw[rO e λo v z=>hs ⟨o,v,z⟩]at q;cases q;exact ok2.2.stay (λ_ _ _ q=>q) (λc=>own c b) tup
   ·rw[dP e λo v' z=>hf ⟨o,v',z⟩]at q;cases q;exact ok.stay (λ_ _ _ q=>q) (λc=>own c b) tup
def bZQ(Hs:Hp)(D:Ends):Ends:=⟨λσ H=>D.nx σ (unf Hs H),λv H=>D.rt v (unf Hs H),λσ H=>D.bk σ (unf Hs H),λσ H=>D.ct σ (unf Hs H)⟩
section
variable {st:Stmt}
def eJL(t:TE):TE:=λσ H Q=>t σ H λv H'=>Q v (unf H H')
def dZI(t:TS):TS:=λD σ H=>t (bZQ H D) σ H
def aZF{t:TE}(h:PE X e t):PE X e (eJL t):=λpins s σ H Q I q=>thn (h pins s σ H _ I q) λv s' ⟨x,H',I',r,q'⟩=>⟨x,unf H H',I'.unfreeze λb o u e=>I.base.frzs b o u e,r,q'⟩
def yY{t:TS}(h:PS X st t):PS X st (dZI t):=λpins s σ H D I q=>thn (h pins s σ H _ I q) λf s' q'=>by
 cases f with
 |next=>obtain⟨σ',H',I',r⟩:=q';exact⟨σ',unf H H',I'.unfreeze λb o u e=>I.base.frzs b o u e,r⟩
 |brk=>obtain⟨σ',H',I',r⟩:=q';exact⟨σ',unf H H',I'.unfreeze λb o u e=>I.base.frzs b o u e,r⟩
 |cont=>obtain⟨σ',H',I',r⟩:=q';exact⟨σ',unf H H',I'.unfreeze λb o u e=>I.base.frzs b o u e,r⟩
 |ret u=>obtain⟨v,σ',H',I',rv,r⟩:=q';exact⟨v,σ',unf H H',I'.unfreeze λb o u e=>I.base.frzs b o u e,rv,r⟩
def eZ2{t:TE}(h:t σ H λv H'=>Q v (unf H H')):eJL t σ H Q:=h
def dJZ{t:TS}(h:t (bZQ H D) σ H):dZI t D σ H:=h
end
def oW{u:HO}(ha:Hs a=some u)(hu:∀o v,u≠.frz o v)(h:Same (upd Hs a (.frz o u)) H):Same Hs (unf Hs H):=λb v q=>by
 by_cases e:b=a
 ·subst e;rw[ha]at q;cases q;exact rO (h _ _ aE) λo v z=>by rw[ha]at z;cases z;exact hu _ _ rfl
 ·have:=h b v (by rw[aJ e];exact q)
  by_cases hf:∃o v',v=.frz o v'
  ·obtain⟨o',v',rfl⟩:=hf;exact lK this q
  ·exact dP this λo v' z=>hf ⟨o,v',z⟩
def bXH(h:Same Hs H):Same Hs (unf Hs H):=λb v q=>by
 have:=h b v q
 by_cases hf:∃o v',v=.frz o v'
 ·obtain⟨o',v',rfl⟩:=hf;exact lK this q
 ·exact dP this λo v' z=>hf ⟨o,v',z⟩
def nE{α β:Type}{R:α->β->Prop}{xs:List α}{ys:List β}(r:Paired R xs ys):∀ {i:Nat} {x:α},xs[i]?=some x->∃y,ys[i]?=some y/\R x y:=by
 induction r with
 |nil=>intro i x h;cases h
 |cons h t ih=>
  intro i x hx;cases i with
  |zero=>cases hx;exact⟨_,rfl,h⟩
  |succ i=>exact ih (i:=i) hx
def cZ8{k:Key}(h:(bB P w).is k u=true):RelV (kV k) u:=by
 rcases bV h with⟨i,t,rfl,rfl⟩|⟨x,t,rfl,rfl⟩
 ·exact⟨t,rfl⟩
 ·exact⟨t,rfl⟩
def Itd(a:Addr)(o:Obj)(kvs:List (Key×V)):It:=⟨λi H=>H a=some (.frz o (.dK kvs))/\i<kvs.length,λi H x H'=>H'=H/\∃kv,kvs[i]?=some kv/\x=kV kv.1,λi H=>H a=some (.frz o (.dK kvs))/\kvs.length=i⟩
def cJU(a:Addr)(o:Obj)(kvs:List (Key×V)):It:=⟨λi H=>H a=some (.frz o (.dK kvs))/\i<kvs.length,λi H x H'=>∃p kv,H p=none/\x=.ref p/\H'=upd H p (.tup [kV kv.1,kv.2])/\kvs[i]?=some kv,λi H=>H a=some (.frz o (.dK kvs))/\kvs.length=i⟩
def qG(I:Inv X pins σ H s)(ha:H a=some (.frz o (.dK kvs)))(hep:∃es,o.data=.dict es ep):kvs.length<=sizeLine/\(a==sysModules)=false/\∃vs,KV kvs vs/\s.heap.DictAt (bB X.prog X.w) a vs ep:=by
 have ok:s.heap.get? a=some o/\(kvs.length<=sizeLine/\(a==sysModules)=false/\∃vs,KV kvs vs/\s.heap.DictOf (bB X.prog X.w) a vs):=I.hok a _ ha
 obtain⟨e,z,hd,vs,rel,o',es',ep',ho',hx,hdat,r⟩:=ok;rw[e]at ho';cases ho';obtain⟨es,hes⟩:=hep;have q:=hdat
 rw[hes]at q;cases q;exact⟨z,hd,vs,rel,o,_,e,hx,hdat,r⟩
def bQ3(a it:Addr)(o:Obj)(kvs:List (Key×V))(ep:Nat)(hep:∃es,o.data=.dict es ep):Turn P w K tg (Itd a o kvs) [it] it (λi h=>h.IsKeyIter it a i kvs.length ep) where
 mem:=by simp
 obj:=λi h st b hb=>by
  have e:b=it:=by simpa using hb
  subst e;obtain⟨o,e,c,d⟩:=st;exact⟨o,e,λv z=>by rw[d]at z;cases z⟩
 keep:=λi h h' st k=>let ⟨o,ho,r⟩:=st;⟨o,k it (by simp) o ho,r⟩
 item:=by
  intro X hP hw hK hc i pins s σ H E I hf st hg;subst hP hw hK;obtain⟨ha,hi⟩:=hg;obtain⟨z,hd,vs,rel,dd⟩:=qG I ha hep;have hlv:=rel.length
  obtain⟨f0,f1,f2,f3,f4,f5⟩:=hf it (by simp)
  obtain⟨⟨k,v⟩,hx,hk1,_⟩:=nE rel (Aa hi);refine wpAny_pyNext_dict_item (knd:=bB X.prog X.w) (by rw[<-hlv];exact st) dd hx λkey h' hk st' sb=>?_
  have I1:Inv X pins σ H {s with heap:=h'}:=I.turned (t':=s.toks) (λb o hb e=>(sb.2 b hb).trans e) f0 f1 f3 f4 f5
  obtain⟨oi,e,c,d⟩:=id st';refine⟨key,rfl,wZ (s:={s with heap:=h'}) e c d (by decide) ⟨kV k,H,I1,cZ8 hk,⟨rfl,kvs[i],Aa hi,by rw[hk1]⟩,?_,λb hb=>(hf b hb).1⟩⟩
  rw[hlv];exact st'
 done:=by
  intro X hP hw hK hc i pins s σ H E I hf st hg;subst hP hw hK;obtain⟨ha,hi⟩:=hg;obtain⟨z,hd,vs,rel,dd⟩:=qG I ha hep;have hlv:=rel.length
  obtain⟨f0,f1,f2,f3,f4,f5⟩:=hf it (by simp)
  exact wpAny_pyNext_dict_end (knd:=bB X.prog X.w) (I.ok.hd hc) (by rw[<-hlv];exact st) dd (List.getElem?_eq_none (by omega)) λh' eb=>⟨rfl,I.turned (t':=s.toks) (λb o hb e=>eb b o hb e) f0 f1 f3 f4 f5⟩
 self:=λ_ _ _ _ _ st h=>wpAny_pyIter_keyiter st h
def aXR(a it:Addr)(o:Obj)(kvs:List (Key×V))(ep:Nat)(hep:∃es,o.data=.dict es ep):Turn P w K (.Tuple elts x1 tp) (cJU a o kvs) [it] it (λi h=>∃ok ov,IsItemIter h it a i kvs.length ep ok ov) where
 mem:=by simp
 obj:=λi h st b hb=>by
  have e:b=it:=by simpa using hb
  subst e;obtain⟨_,_,e⟩:=st;exact⟨_,e,λv z=>by cases z⟩
 keep:=λi h h' st k=>let ⟨x,y,ho⟩:=st;⟨x,y,k it (by simp) _ ho⟩
 item:=by
  intro X hP hw hK hc i pins s σ H E I hf st hg;subst hP hw hK;obtain⟨ha,hi⟩:=hg;obtain⟨z,hd,vs,rel,dd⟩:=qG I ha hep;have hlv:=rel.length
  obtain⟨⟨k,v⟩,hx,hk1,hk2⟩:=nE rel (Aa hi);obtain⟨ok,ov,st⟩:=st;have hlt:=Av st
  refine wpAny_pyNext_items_item (knd:=bB X.prog X.w) (by rw[<-hlv];exact st) dd hx λkey h1 hk ho hT hsz kk=>?_
  refine⟨_,rfl,wpAny_letOwnedTupleGo_items ho λh2 he2 hs2=>?_⟩;have hTi:s.heap.objs.size≠it:=Fb hlt
  have hT2:h2.get? s.heap.objs.size=some {cls:=.type "tuple",data:=.seq #[key,v]}:=(hs2.2 _ hTi).trans hT
  have I2:Inv X pins σ (upd H s.heap.objs.size (.tup [kV kvs[i].1,kvs[i].2])) {s with heap:=h2,toks:=s.toks}:=by
   refine I.turnLaid (ch:=[it]) hf (λb u hb q=>(hs2.2 b (λz=>hb (by simp[z]))).trans (kk b u (λz=>hb (by simp[z])) q)) (Nat.le_refl _) ⟨bP (by show 2<=_;omega),[key,v],.cons (by rw[hk1];exact cZ8 hk) (.cons hk2 .nil),_,hT2,rfl,_,rfl⟩
  refine⟨.ref s.heap.objs.size,_,I2,rfl,⟨_,kvs[i],I.hok.fresh (Ai _),rfl,rfl,Aa hi⟩,⟨key,v,by rw[hlv];exact he2⟩,λb hb=>?_⟩
  rw[Ak.mp hb,aJ hTi.symm];exact(hf it (by simp)).1
 done:=by
  intro X hP hw hK hc i pins s σ H E I hf st hg;subst hP hw hK;obtain⟨ha,hi⟩:=hg;obtain⟨z,hd,vs,rel,dd⟩:=qG I ha hep;have hlv:=rel.length
  obtain⟨ok,ov,st⟩:=st;obtain⟨f0,f1,f2,f3,f4,f5⟩:=hf it (by simp)
  exact wpAny_pyNext_items_end (knd:=bB X.prog X.w) (I.ok.hd hc) (by rw[<-hlv];exact st) dd (List.getElem?_eq_none (by omega)) λh' eb=>⟨rfl,I.turned (t':=s.toks) (λb o hb e=>eb b o hb e) f0 f1 f3 f4 f5⟩
 self:=λ_ _ _ _ _ st h=>let ⟨_,_,st⟩:=st;W.kcp_self st h
def cQD(I:Inv X pins σ H s)(ha:H a=some (.dK kvs)):∃o es ep,s.heap.get? a=some o/\o.data=.dict es ep:=by
 obtain⟨_,_,vs,_,o,es,ep,ho,_,hd,_⟩:=dZV I.hok ha;exact⟨o,es,ep,ho,hd⟩
def dXI(I:Inv X pins σ H s)(ha:H a=some (.frz o (.dK kvs))):∃ep,∃es,o.data=.dict es ep:=by
 have ok:s.heap.get? a=some o/\(kvs.length<=sizeLine/\(a==sysModules)=false/\∃vs,KV kvs vs/\s.heap.DictOf (bB X.prog X.w) a vs):=I.hok a _ ha
 obtain⟨e,_,_,vs,_,o',es,ep,ho,_,hd,_⟩:=ok;rw[e]at ho;cases ho;exact⟨ep,es,hd⟩
def pY(H:Hp)(a:Addr)(R:Obj->List (Key×V)->Hp->Prop):Prop:=(∃kvs,H a=some (.dK kvs)/\∀o,R o kvs (upd H a (.frz o (.dK kvs))))\/∃o kvs,H a=some (.frz o (.dK kvs))/\R o kvs H
def walk_at{R:Obj->List (Key×V)->Hp->Prop}(I:Inv X pins σ H s)(h:pY H a R):∃o kvs H' ep,Inv X pins σ H' s/\H' a=some (.frz o (.dK kvs))/\(∃es,o.data=.dict es ep)/\R o kvs H':=by
 rcases h with⟨kvs,ha,q⟩|⟨o,kvs,ha,q⟩
 ·obtain⟨o,es,ep,ho,hd⟩:=cQD I ha;exact⟨o,kvs,_,ep,I.freeze ha rfl ho,aE,⟨es,hd⟩,q o⟩
 ·obtain⟨ep,es,hd⟩:=dXI I ha;exact⟨o,kvs,H,ep,I,ha,⟨es,hd⟩,q⟩
def dJA(tl:TE):TI:=λσ H R=>tl σ H (fN λa H1=>pY H1 a λo kvs H2=>R (Itd a o kvs) H2)
def aJ5(hl:PE X l tl):PI X tg l (dJA tl):=by
 intro pins s σ H R I h;refine thn (hl pins s σ H _ I h) λv s1 ⟨x,H1,I1,r1,q1⟩=>?_;unfold fN at q1;split at q1
 ·cases r1;rename_i a0 _
  obtain⟨o,kvs,H2,ep,I2,ha,hep,q⟩:=walk_at I1 q1;obtain⟨z,hd,vs,rel,dd⟩:=qG I2 ha hep;refine wpAny_pyIter_dict (knd:=bB X.prog X.w) hd dd ?_;refine⟨s1.heap.objs.size,[s1.heap.objs.size],_,_,H2,rfl,I2.kept (t':=s1.toks) λb o e=>Ag _ e,bQ3 a0 _ o kvs ep hep,⟨_,Ay _ rfl,rfl,by rw[rel.length];rfl⟩,λb hb=>?_,q⟩
  have e:b=s1.heap.objs.size:=by simpa using hb
  subst e;exact I2.fpOk (Ai _) (I2.hok.fresh (Ai _))
 ·exact q1.elim
def isD(H:Hp)(p:Addr):Bool:=match H p with
 |some (.dK _)=>true
 |some (.dT _)=>true
 |some (.frz _ (.dK _))=>true
 |some (.frz _ (.dT _))=>true
 |_=>false
def eX0{p:Addr}(h:isD H p=true):IsD H p:=by
 unfold isD at h;split at h
 ·exact .inl ⟨_,.inl (by assumption)⟩
 ·exact .inr ⟨_,.inl (by assumption)⟩
 ·exact .inl ⟨_,.inr ⟨_,by assumption⟩⟩
 ·exact .inr ⟨_,.inr ⟨_,by assumption⟩⟩
 ·cases h
def dW{p:Addr}(h:H p=some (.dK kvs)):isD H p=true:=by unfold isD;rw[h]
def aJM{p:Addr}(h:H p=some (.frz o (.dK kvs))):isD H p=true:=by unfold isD;rw[h]
def cZA(tl:TE):TI:=λσ H R=>tl σ H (fN λa H1=>pY H1 a λo kvs H2=>R (cJU a o kvs) H2)
def cQN(hl:PE X l tl)(hbase:attributeBase l "items" X.env (eval l X.env)=eval l X.env:=by rfl)(hline:(apos.endLine==cpos.line)=true:=by rfl):PI X (.Tuple elts x1 tp) (.Call (.Attribute l "items" apos) [] [] cpos) (cZA tl):=by
 intro pins s σ H R I h;refine wpAny_Call_method0_late hbase hline (thn (hl pins s σ H _ I h) λv s1 ⟨x,H1,I1,r1,q1⟩=>?_);unfold fN at q1;split at q1
 ·cases r1;rename_i a0 _
  obtain⟨o,kvs,H2,ep,I2,ha,hep,q⟩:=walk_at I1 q1;obtain⟨z,hd,vs,rel,dd⟩:=qG I2 ha hep;obtain⟨h1,h2,_⟩:=cQF I2 (.inl ⟨kvs,.inr ⟨o,ha⟩⟩);refine⟨"dict", "dict.items",Gh,PySem.F.slot_dict_items,PySem.F.type_dict_items,h1,h2,Fe rfl (PySem.evalArgs_none ?_)⟩;refine Gr PySem.F.slot_dict_items h1 PySem.F.entry_dict_items (PySem.F.args_dict_items_1 _) (meets_dict_items (bB X.prog X.w) a0 hd) ⟨⟨vs,dd.dictOf⟩,?_⟩;have I3:Inv X pins σ H2 {s1 with heap:=s1.heap.push {cls:=.type "dict_items",data:=.fields #[.ref a0]}}:=I2.kept (t':=s1.toks) λb o e=>Ag _ e
  refine wpAny_pyIter_items (s:={s1 with heap:=s1.heap.push {cls:=.type "dict_items",data:=.fields #[.ref a0]}}) (knd:=bB X.prog X.w) ⟨_,Ay _ rfl,rfl,rfl⟩ (dd.push _) ?_
  refine⟨_,[_],_,_,H2,rfl,I3.kept (t':=s1.toks) λb o e=>Ag _ e,aXR a0 _ o kvs ep hep,⟨.none,.none,by rw[rel.length];exact Ay _ rfl⟩,λb hb=>?_,q⟩
  rw[Ak.mp hb];exact I3.fpOk (Ai _) (I3.hok.fresh (Ai _))
 ·exact q1.elim
def bJR(Pv:Nat->St->Hp->Prop)(h0:Pv 0 σ H)(hl:∀i σ H,i<=kvs.length->Pv i σ H->H a=some (.frz o (.dK kvs)))(hs:∀i kv σ H p,kvs[i]?=some kv->Pv i σ H->H p=none->g (.ref p) σ (upd H p (.tup [kV kv.1,kv.2])) λσ2 H2=>tb {D with nx:=Pv (i+1),ct:=Pv (i+1),bk:=D.nx} σ2 H2)(hd:∀σ H,Pv kvs.length σ H->D.nx σ H):yZ (cJU a o kvs) g tb D σ H:=by
 refine⟨λi m σ H=>m=kvs.length-i/\i<=kvs.length/\Pv i σ H,⟨kvs.length,by simp,Nat.zero_le _,h0⟩,?_⟩
 rintro i m σ H ⟨rfl,hi,p⟩;have hr:=hl i σ H hi p
 by_cases hlt:i<kvs.length
 ·refine .inr ⟨⟨hr,hlt⟩,Pv (i+1),λσ' H' p'=>⟨kvs.length-(i+1),by omega,rfl,hlt,p'⟩,λx H' y=>?_⟩
  obtain⟨q,kv,hq,rfl,rfl,hx⟩:=y;exact hs i kv σ H q hx p hq
 ·have e:i=kvs.length:=by omega
  subst e;exact .inl ⟨⟨hr,rfl⟩,hd σ H p⟩
def bJD(h:tl σ H (fN λa H1=>pY H1 a λo kvs H2=>R (cJU a o kvs) H2)):cZA tl σ H R:=h
def cJ6(h:tl σ H (fN λa H1=>pY H1 a λo kvs H2=>R (Itd a o kvs) H2)):dJA tl σ H R:=h
def aZZ{Rw:Obj->List (Key×V)->Hp->Prop}(e:H a=some (.dK kvs))(h:∀o,Rw o kvs (upd H a (.frz o (.dK kvs)))):pY H a Rw:=.inl ⟨kvs,e,h⟩
section
variable {o:Expr} {t:TA} {id:String}
def bZ7(r:V->List V->Hp->VK->Prop)(to:TE)(t:TA):TE:=λσ H Q=>to σ H (fN λp H1=>isD H1 p=true/\t σ H1 λxs H2=>r (.ref p) xs H2 Q)
def cR(slot:Slot "dict" name id)(hty:typeOf (.builtin id)=pure (.type "method_descriptor"))(hm:MtR X id r)(ho:PE X o to)(ha:PA X (e::es) t)(hbase:attributeBase o name X.env (eval o X.env)=eval o X.env:=by rfl)(hfew:((backTo cpos (starEach (e::es) X.env)).all (λx=>!x.1)&&(backToKw cpos (keywordEach [] X.env)).all (λx=>x.1.isSome)
 && decide ((e::es).length+([]:List Keyword).length+(if ([]:List Keyword).isEmpty then 0 else 1)<30))=true:=by rfl)(hline:(apos.endLine==cpos.line)=true:=by rfl)(hs:starEach (e::es) X.env=(false,eval e X.env)::starEach es X.env:=by rfl)(hplain:(backTo cpos (starEach es X.env)).any (·.1)=false:=by rfl):PE X (.Call (.Attribute o name apos) (e::es) [] cpos) (bZ7 r to t):=by
 intro pins s σ H Q I h;refine Gm hbase hfew hline rfl (thn (ho pins s σ H _ I h) λv s1 ⟨x,H1,I1,r1,q⟩=>?_);unfold fN at q;split at q
 ·obtain⟨hd,q1⟩:=q;obtain⟨h1,h2,_⟩:=cQF I1 (eX0 hd);cases _root_.id r1;refine⟨"dict",_,Gh,slot,hty,h1,h2,?_⟩;have hA:=ha cpos pins s1 σ H1 _ I1 q1
  rw[hs]at hA ⊢;refine Fe (by show (false || (backTo cpos (starEach es X.env)).any (·.1))=false;rw[hplain]<;>rfl) (Ft ?_)
  exact thn hA λus s2 ⟨vs,H2,I2,r2,q2⟩=>hm pins s2 σ H2 _ vs _ us Q I2 r1 r2 q2
 ·exact q.elim
def eJU:V->List V->Hp->VK->Prop:=λx vs H Q=>∃a y z o,x=.ref a/\vs=[y,z]/\DGet H a y o/\Q (o.getD z) H
def jX(hu:X.A.units+1<cLine):MtR X "dict.get" eJU:=by
 intro pins s σ H x vs v us Q I rx rv h;obtain⟨a,y,z,ov,rfl,rfl,g,q⟩:=h;cases rx;obtain⟨u,w',rfl,ru,rw'⟩:=vW rv;exact eXZ hu I g ru rw' λw1 s1 I1 r1=>⟨_,H,I1,r1,q⟩
def cQR:V->List V->Hp->VK->Prop:=λx vs H Q=>∃(p:Addr) (ys:List Str) (z:Str),x=.ref p/\vs=[.str z]/\rdL H p=some (ys.map V.str)/\Q (.int ((ys.countP (· == z):Nat):Int)) H
def qP(z:Str):∀ys:List Str,countIn (.str z) (ys.map PyData.str)=((ys.countP (· == z):Nat):Int)
 |[]=>rfl
 |y::r=>by
  have ih:=qP z r
  rw[As];unfold countIn;rw[ih,Dj];by_cases e:y=z
  ·subst e;simp[same];omega
  ·simp[same,e]
def dQH:MtR X "list.count" cQR:=by
 intro pins s σ H x vs v us Q I rx rv h;obtain⟨p,ys,z,rfl,rfl,hp,q⟩:=h;cases rx;obtain⟨u,rfl,ru⟩:=rv.one;obtain⟨t,rfl⟩:=ru;obtain⟨its,r,pl,_⟩:=I.list (bF hp);exact count_list_strs pl.isList (tB r) (by rw[qP];exact⟨.int _,H,I.tok _,⟨_,rfl⟩,q⟩)
def bQC:List V->Hp->VK->Prop:=λxs H Q=>∃a kvs,xs=[.ref a]/\Rd H a (.dK kvs)/\∀p,H p=none->Q (.ref p) (upd H p (.dK kvs))
def cJA:CallR X (.type "dict") bQC:=by
 intro pins s σ H xs us Q I r h;obtain⟨a,kvs,rfl,ha,q⟩:=h;obtain⟨u,rfl,ru⟩:=dR r;cases ru;exact cQ7 I ha λp s1 hp I1=>⟨.ref p,_,I1,rfl,q p hp⟩
def dJG(x y:V)(H:Hp)(Q:VK):Prop:=∃a v,x=.ref a/\DGet H a y (some v)/\Q v H
def cX6(D:Ends)(σ:St)(x y v:V)(H:Hp):Prop:=∃a H4,x=.ref a/\DPut H a y v H4/\D.nx σ H4
end
section
variable {w:V} {td ty:TE} {t:TA}
def dQ6(h:to σ H (fN λp H1=>isD H1 p=true/\t σ H1 λxs H2=>r (.ref p) xs H2 Q)):bZ7 r to t σ H Q:=h
def fQM{P:Prop}(e:isD H a=true)(h:P):isD H a=true/\P:=⟨e,h⟩
def jQ(e:Rd H a (.dK kvs))(h:Q ((cA kvs (Sum.inr z)).getD w) H):eJU (.ref a) [.str z,w] H Q:=⟨a,.str z,w,_,rfl,rfl,.inl ⟨kvs,.inr z,e,rfl,rfl⟩,h⟩
def cJ2{p:Addr}{ys:List Str}(e:rdL H p=some (ys.map V.str))(h:Q (.int ((ys.countP (· == z):Nat):Int)) H):cQR (.ref p) [.str z] H Q:=⟨p,ys,z,rfl,rfl,e,h⟩
def bZS(e:Rd H a (.dK kvs))(h:∀p,H p=none->Q (.ref p) (upd H p (.dK kvs))):bQC [.ref a] H Q:=⟨a,kvs,rfl,e,h⟩
def eQ8(h:∀p,H p=none->Q (.ref p) (upd H p (.dK []))):bJG σ H Q:=h
def fQJ(h:td σ H λx H1=>ty σ H1 λy H2=>dJG x y H2 Q):dX3 td ty σ H Q:=h
def nQ(e:Rd H a (.dK kvs))(l:cA kvs (Sum.inr z)=some v)(h:Q v H):dJG (.ref a) (.str z) H Q:=⟨a,v,rfl,.inl ⟨kvs,.inr z,e,rfl,l.symm⟩,h⟩
def dJ4(h:tv σ H λv H1=>td σ H1 λx H2=>ty σ H2 λy H3=>cX6 D σ x y v H3):dZF td ty tv D σ H:=h
def fX(e:H a=some (.dK kvs))(l:kvs.length<sizeLine)(h:D.nx σ (upd H a (.dK (dL kvs (Sum.inr z) v)))):cX6 D σ (.ref a) (.str z) v H:=⟨a,_,rfl,.inl ⟨kvs,.inr z,e,rfl,l,rfl⟩,h⟩
end
section
open PySem.AutoSeq1 (wpAny_loadPart')
open PySem.MeetsSeq PySem.MeetsSeq2 PySem.MeetsSeq3
def Room.u1{k:Nat}(r:Room k A):A.units+1<cLine:=by have:=r.un;omega
end
section
open PySem.AutoSeq1 (wpAny_loadPart')
def aQ4:List V->Hp->VK->Prop:=λxs H Q=>∃(a:Addr) (kvs:List (Key×V)) (ss:List Str),xs=[.ref a]/\Rd H a (.dK kvs)/\kvs.map (·.1)=ss.map Sum.inr/\kvs.length<64/\∀r (ss':List Str),H r=none->ss'.Perm ss->Q (.ref r) (upd H r (.lst (ss'.map V.str)))
def bQ7:∀ {vs:List Value} {ss:List Str},StrsAre vs ss->Vals (ss.map V.str) vs:=by
 intro vs ss h;induction h with
 |nil=>exact .nil
 |cons x t _ ih=>exact .cons ⟨t,rfl⟩ ih
def bQB:∀ {vs:List Value} {ss:List Str},vs.length=ss.length->(∀(j:Nat) v x,vs[j]?=some v->ss[j]?=some x->∃t,v=.str x t)->StrsAre vs ss
 |[],[],_,_=>.nil
 |v::r,x::y,hl,h=>by
  obtain⟨t,e⟩:=h 0 v x rfl rfl;subst e;exact .cons x t (bQB (by simpa using hl) λj v' x' a b=>h (j+1) v' x' (by simpa using a) (by simpa using b))
 |[],_::_,hl,_=>absurd hl (by simp)
 |_::_,[],hl,_=>absurd hl (by simp)
def wJ(hc:X.calm=true):CallR X (.builtin "sorted") aQ4:=by
 intro pins s σ H xs us Q I r h;obtain⟨a,kvs,ss,rfl,ha,hk,h64,q⟩:=h;obtain⟨u,rfl,ru⟩:=dR r;cases ru;obtain⟨z,hd,vs,rel,dd⟩:=jT I.hok ha;obtain⟨ep,hat⟩:=dd.dictAt;have hlv:=rel.length
 refine Calls.call_function_entry kind_sorted plain_sorted entry_sorted (args_sorted1 _) ?_;unfold Builtin.«sorted»;refine Ae (m:=checkCount "sorted" 1 1 _) (Ao (Ae (W.kdu_collect (A:=X.A.in1) (W.kdl_dict (knd:=bB X.prog X.w) (kvs:=vs) (ep:=ep) hd) (I.ok.hd hc) hat (by omega) λh' tk acc hk' hacc=>?_)))
 have hl:acc.toList.length=vs.length:=by rw[Ek];exact hacc.1
 have I1:Inv X pins σ H {s with heap:=h',toks:=tk}:=I.kept hk'
 have hsl:ss.length=kvs.length:=by have:=Ds List.length hk;rw[Ab,Ab]at this;exact this.symm
 have hS:StrsAre acc.toList ss:=bQB (by omega) λj v x hv hx=>by
  obtain⟨k,y,e1,e2⟩:=hacc.2 j v (by rw[<-Dy];exact hv)
  have hk2:(kvs.map (·.1))[j]?=some k:=by rw[rel.keys,Ah,e1];rfl
  rw[hk,Ah,hx]at hk2;cases hk2;exact cZ8 e2
 refine Ae (wpAny_newList ?_ (by rw[hl];omega))
 have hoL:(h'.push {cls:=.type "list",data:=.seq acc.toList.toArray}).get? h'.objs.size=some (seqObj "list" acc.toList.toArray 0):=Ay _ rfl
 refine Ae (Ck (Fy PyProof.Rows.slot_list_sort ⟨_,hoL,rfl⟩ PyProof.Rows.entry_list_sort (list_sort_treeK strKind_oneLt hoL hS.keysOf (λv1 v2 rest e=>keyKind_strs (by rw[<-e];exact hS)) (by omega) λst' a1 a2=>⟨_,rfl,?_⟩) (PyProof.Rows.args_list_sort _)))
 obtain⟨ss',b1,b2,_⟩:=sorted_out_str hS a1 a2;obtain⟨c,hcc⟩:=sortedHeap_at (vs:=acc.toList) (out:=(arrOf st').map (·.2)) hoL;refine Ao ⟨_,rfl,.ref h'.objs.size,upd H h'.objs.size (.lst (ss'.map V.str)),I1.laid (a:=h'.objs.size) (o:=.lst (ss'.map V.str)) (t':=tk) (λb o e=>?_) (Ai _) ?_,rfl,q _ ss' (I1.hok.fresh (Ai _)) b2⟩
 ·have hlt:=Av e
  refine(sortedHeap_old (Bj hlt) (Av (Ag _ e))).trans (Ag _ e)
 ·have:=b2.length_eq
  refine⟨by rw[Ab];exact Nat.le_of_lt (bK (by omega)),_,c,bQ7 b1,?_⟩
  rw[hcc]
def vM{ss:List Str}(ha:Rd H a (.dK kvs))(hk:kvs.map (·.1)=ss.map Sum.inr)(h64:kvs.length<64)(h:∀r (ss':List Str),H r=none->ss'.Perm ss->Q (.ref r) (upd H r (.lst (ss'.map V.str)))):aQ4 [.ref a] H Q:=⟨a,kvs,ss,rfl,ha,hk,h64,h⟩
def aJP:∀ {xs:List V} {us:List Value},us.length=xs.length->(∀(j:Nat) x u,xs[j]?=some x->us[j]?=some u->RelV x u)->Vals xs us
 |[],[],_,_=>.nil
 |x::r,u::t,hl,h=>.cons (h 0 x u rfl rfl) (aJP (by simpa using hl) λj x' u' a b=>h (j+1) x' u' (by simpa using a) (by simpa using b))
 |[],_::_,hl,_=>absurd hl (by simp)
 |_::_,[],hl,_=>absurd hl (by simp)
end
section
open PySem.W
section
variable {K:Frag} {x D:Addr} {ox:Obj} {od:Option Obj}
def dQV{v:Value}{expr:Bool}{Q:Q0}(Z:ExK K D)(X:K.In s.heap)(I:InstAt s.heap x ox D od)(hf:findObj K D od name=some (.value v))(hh:handedIn v=true)(h:Q v {s with toks:=s.toks+1}):wpAny (model prog w) A (getAttr (.ref x) name expr) Q E s:=by
 obtain⟨hp,g,d,t,os⟩:=s;have L0:=I.type (M:=model prog w)
 have L1:=looks_findIn (M:=model prog w) X Z.ga
 have L2:=looks_findIn (M:=model prog w) X Z.gh
 have L3:=looks_find (M:=model prog w) X I hf
 unfold getAttr getAttrBy;refine Ae (wpAny_mkText (Ck (Ae (L0.at (Ae (L1.at ?_))))));have ne:(Value.builtin "BaseException.__getattribute__" == Value.builtin "object.__getattribute__")=false:=by decide +kernel
 have fb:=F.excAttr_ValueError.ga.bind (.ref x)
 dsimp only;rw[ne,Bool.and_false,if_neg Ap];unfold getAttrByItsOwn hookBefore;rw[if_pos (show onTheHeap (Value.ref D)=true from rfl)];refine Ae (L2.at (Ae (Gy (Ck ?_))));unfold callGetattribute boundAndCalled;rw[if_neg (by rw[show onTheHeap (Value.builtin "BaseException.__getattribute__")=false from rfl,Bool.and_false];exact Ap)]
 refine Ae (wpAny_of_eq fb ?_);refine Er (Ef F.excAttr_ValueError.ga.plain F.entry_bexc_ga (wY Z X I ?_));unfold Builtin.«object.__getattribute__»;refine Ae (Ao (Ae (Ao (Ae (L0.at (Ae (L3.at ?_)))))));refine Ao ?_;exact handed_on hh h
def bJK{e t0:Addr}{rest:List Value}{Q:Q0}(Z:ExK K D)(X:K.In s.heap)(I:InstAt s.heap e oe D od)(hb:W.subIn K (.ref D) (.type "ValueError")=some true)(hd:oe.data=.fields vs)(h0:vs[0]?=some (.ref t0))(hr:rest.length<=sizeLine)(h:Q .none {s with heap:=(s.heap.push {cls:=.type "tuple",data:=.seq rest.toArray}).update e (Obj.mapFields (·.setIfInBounds 0 (.ref s.heap.objs.size)))}):wpAny (model prog w) A (call (.builtin "ValueError.__init__") (.ref e::rest)) Q E s:=by
 have he:=I.at_
 obtain⟨cd,hc,_⟩:=any_some Z.cls;have FB:=Ct
 have L0:=I.type (M:=model prog w)
 have L1:=looks_subIn (M:=model prog w) X hb
 refine Er (Ef FB.init.plain FB.initEntry ?_);have ck:∀(Q:Unit->Shared->Prop) (E:Q0) (B:Around),Q () s->wpAny (model prog w) B (checkBuiltinCall "ValueError.__init__" ⟨.ref e::rest,[]⟩) Q E s:=λQ E B hq=>by
  simp only[checkBuiltinCall,FB.initKind,FB.initSplit,FB.initRow];refine Ae ((L0.andThen L1).at ?_);have hst:=FB.noStar
  have sg:∀(a b:String) (n:Nat),Bind.check ⟨.positional, "*", "ValueError",.self,[⟨"args",.varPos,false⟩]⟩ a b n (List.map (λx=>x.fst) ({pos:=Value.ref e::rest}:Args).kw)=pure ():=λa b n=>check_star_args _ _ _ _ _ _
  repeat (first|wp_step)
  rw[I.cls];refine Ae ((looks_clsIn X hc).at (Ao ?_));repeat (first|wp_step)
  refine wpAny_onRaise ?_;rw[sg];exact Ao hq
 refine ck _ _ _ ?_;have hs0:0<vs.size:=(De.mp h0).1
 have hg:=Ag (h:=s.heap) {cls:=.type "tuple",data:=.seq rest.toArray} he
 unfold Builtin.«BaseException.__init__» newTuple Builtin.BaseException.bexcPut;dsimp only;rw[if_neg (by simp)]
 refine Ae (Gp (Ae (Ae (wpAny_field hg hd h0 (Ae (wpAny_setField hg hd hs0 (wpAny_letGo (Ao h))))))) (by show rest.toArray.size<=sizeLine;rw[Bk];exact hr))
def aX3(K:Frag)(D:Addr):Option (List Value):=(clsIn K D).map (·.mro)
def aQN{T:Addr}{v:Value}{h1:Heap}{m:Q4}{ns:List Str}{Q:Unit->Shared->Prop}(Z:ExK K D)(X:K.In s.heap)(I:InstAt s.heap x ox D od)(hs:findIn K (.ref D) "__setattr__"=some (some (.builtin "object.__setattr__")))(hm:aX3 K D=some [.ref D,.ref T,.type "ValueError",.type "Exception",.type "BaseException",.type "object"])(hna:findIn K (.ref D) name=some none)(hi:∀(B:Around) (Q':Option Addr->Shared->Prop) (E':Q0),Q' (some dx) {s with heap:=h1,toks:=s.toks+1}->wpAny (model prog w) B (instanceDict x true) Q' E' {s with toks:=s.toks+1})(hn:h1.Ns1 dx m)(hw:Within m ns)(hz:ns.length<sizeLine)(h:∀h' tk',h'.Ns1 dx (λy=>if y=name then some v else m y)->Heap.SameBut dx h1 h'->Q () {s with heap:=h',toks:=tk'}):wpAny (model prog w) A (setAttr (.ref x) name v) Q E s:=by
 obtain⟨cd,hc,hd'⟩:=any_some Z.cls;have hmr:cd.mro=[.ref D,.ref T,.type "ValueError",.type "Exception",.type "BaseException",.type "object"]:=by
  unfold aX3 at hm;rw[hc]at hm;exact Bl hm
 have SF:=PySem.F.store_ValueError
 have sub:Looks (model prog w) s.heap (isInstance (.ref x) (.type "object")) true:=I.type.andThen (looks_mroIn X Z.mo)
 have hmm:Looks (model prog w) s.heap (mroOf (.ref D)) cd.mro:=(looks_clsIn X hc).andThen .now
 have hx:=I.at_
 refine set_plain X I hs ?_;refine Ef SF.slot.plain SF.entry (@check_slot (model prog w) _ _ {s with toks:=s.toks+1} "object.__setattr__" "object" "__setattr__" (.ref x) [.str name s.toks,v] [] _ SF.kind SF.split sub (SF.args (.ref x) (.str name s.toks) v) ?_)
 rw[osa_eq,refuse_eq];refine Ae (Ae (I.type.here (s:={s with toks:=s.toks+1}) (Ae (hmm.here (s:={s with toks:=s.toks+1}) ?_))))
 rw[hmr,refuseLoop_ref,refuseLoop_ref,SF.passes];refine Ao (Ae (I.type.here (s:={s with toks:=s.toks+1}) (Ae ((looks_findIn X hna).here (s:={s with toks:=s.toks+1}) (Ae (Ao ?_))))))
 show wpAny (model prog w) A.in1 (Builtin.ObjectAttr.storeInOwnDict (Value.ref x) (Value.ref D) (Value.str name s.toks) name v false) _ _ _
 unfold Builtin.ObjectAttr.storeInOwnDict;refine Ae (Ao ?_);rw[if_neg (show ¬((Value.ref D==Value.type "module")=true) by simp)]
 unfold Builtin.ObjectAttr.ownDictForStores;refine Ae (hi _ _ _ ?_);show wpAny (model prog w) A.in1 (Builtin.ObjectAttr.storeInDict dx (Value.str name s.toks) name v) _ _ _
 unfold Builtin.ObjectAttr.storeInDict Builtin.ObjectAttr.newKeyGuard;refine Ae (Ao (Ae (wpAny_nsSet1 hn λh' hn' sb=>?_)));obtain⟨oD,esD,epD,hoD,hdD,hcD⟩:=hn'.count (Within.cons name v hw);refine Ae (wpAny_lookBehind hoD (by rw[hdD];exact pastItsLine_dict (Bi hcD (by rw[Ax];omega))) ?_)
 exact Ao (h h' _ hn' sb)
def cQC{T:Addr}{v:Value}{Q:Unit->Shared->Prop}(Z:ExK K D)(X:K.In s.heap)(I:InstAt s.heap x ox D none)(hda:ox.data=.fields vs)(hdn:ox.dict=none)(hs:findIn K (.ref D) "__setattr__"=some (some (.builtin "object.__setattr__")))(hm:aX3 K D=some [.ref D,.ref T,.type "ValueError",.type "Exception",.type "BaseException",.type "object"])(hna:findIn K (.ref D) name=some none)(h:∀h' tk',h'.get? x=some {ox with dict:=some s.heap.objs.size}->h'.Ns1 s.heap.objs.size (λy=>if y=name then some v else none)->(∀b o,b≠x->s.heap.get? b=some o->h'.get? b=some o)->Q () {s with heap:=h',toks:=tk'}):wpAny (model prog w) A (setAttr (.ref x) name v) Q E s:=by
 obtain⟨cd,hc,hd'⟩:=any_some Z.cls;have hx:=I.at_
 have hx1:(s.heap.push {cls:=.type "dict",data:=.dict #[]}).get? x=some ox:=Ag _ hx
 have hxs:x≠s.heap.objs.size:=Bj (Av hx)
 have hgd:((s.heap.push {cls:=.type "dict",data:=.dict #[]}).update x λo=>{o with dict:=some s.heap.objs.size}).get? s.heap.objs.size=some {cls:=.type "dict",data:=.dict #[]}:=
  (Heap.get?_update_ne _ _ _ _ hxs.symm).trans (Heap.get?_push_at rfl rfl)
 have hnd:((s.heap.push {cls:=.type "dict",data:=.dict #[]}).update x λo=>{o with dict:=some s.heap.objs.size}).Ns s.heap.objs.size (λ_=>none):=
  ⟨_,#[],_,hgd,rfl,λe he=>absurd he (by simp),λ_=>rfl⟩
 have hxu:((s.heap.push {cls:=.type "dict",data:=.dict #[]}).update x λo=>{o with dict:=some s.heap.objs.size}).get? x=some {ox with dict:=some s.heap.objs.size}:=by
  refine Heap.get?_update_self _ hx1 ?_;obtain⟨a,b,c,d⟩:=ox;cases hda;rfl
 refine aQN Z X I hs hm hna (λB Q' E' q=>?_) (Heap.Ns1.of_empty hnd) Within.nil (by rw[List.length_nil,Ha];omega) λh' tk' n sb=>h h' tk' ((sb.2 x hxs).trans hxu) n λb o hb e=>
  (sb.2 b (Bj (Av e))).trans ((Heap.get?_update_ne _ _ _ _ hb).trans (Ag _ e))
 unfold instanceDict;refine Ae (wpAny_loadPart hx ?_);rw[I.cls];refine Ae ((looks_clsIn X hc).here (s:={s with toks:=s.toks+1}) ?_)
 rw[hd',hdn,hda,if_neg (show ¬((!true)=true) by decide)]
 dsimp only;rw[if_neg (show ¬((!true || !typeHasDict (Value.ref D))=true) by simp[typeHasDict])]
 exact Ae (wpAny_alloc' (Ae (wpAny_update' hx1 (Ao q))))
def cQM{T:Addr}{v:Value}{m:Q4}{ns:List Str}{odx:Obj}{Q:Unit->Shared->Prop}(Z:ExK K D)(X:K.In s.heap)(I:InstAt s.heap x ox D (some odx))(hdn:ox.dict=some dx)(hs:findIn K (.ref D) "__setattr__"=some (some (.builtin "object.__setattr__")))(hm:aX3 K D=some [.ref D,.ref T,.type "ValueError",.type "Exception",.type "BaseException",.type "object"])(hna:findIn K (.ref D) name=some none)(hn:s.heap.Ns1 dx m)(hw:Within m ns)(hz:ns.length<sizeLine)(h:∀h' tk',h'.Ns1 dx (λy=>if y=name then some v else m y)->Heap.SameBut dx s.heap h'->Q () {s with heap:=h',toks:=tk'}):wpAny (model prog w) A (setAttr (.ref x) name v) Q E s:=by
 obtain⟨cd,hc,hd'⟩:=any_some Z.cls;refine aQN Z X I hs hm hna (λB Q' E' q=>?_) hn hw hz h;unfold instanceDict;refine Ae (wpAny_loadPart I.at_ ?_);rw[I.cls];refine Ae ((looks_clsIn X hc).here (s:={s with toks:=s.toks+1}) ?_)
 rw[hd',hdn,if_neg (show ¬((!true)=true) by decide)]
 exact Ao q
end
end
section
open PySem.W
def eK(ea C:Addr)(d:Option Addr):HO:=.ext λh=>∃oe vs t0,h.get? ea=some oe/\oe.cls=.ref C/\oe.dict=d/\oe.data=.fields vs/\vs[1]?=some .none/\vs[0]?=some (.ref t0)/\vs[2]?=some .none
def xdO(dx:Addr)(fs:List (Str×V)):HO:=.ext λh=>∃mA,h.Ns1 dx mA/\(∀f,RelO (fs.lookup f) (mA f))/\Within mA (fs.map (·.1))
def zA{t0:Addr}(g:h.get? ea=some oe)(c:oe.cls=.ref C)(di:oe.dict=d)(da:oe.data=.fields vs)(h1:vs[1]?=some .none)(h0:vs[0]?=some (.ref t0))(c2:vs[2]?=some .none):ObjOk P w H h ea (eK ea C d):=⟨⟨oe,vs,t0,g,c,di,da,h1,h0,c2⟩,⟨oe,g⟩,λ_ _ ⟨o,ws,t,g,q⟩ k=>⟨o,ws,t,k o g,q⟩⟩
def bJP{fs:List (Str×V)}{mA:Q4}(n:h.Ns1 dx mA)(r:∀f,RelO (fs.lookup f) (mA f))(wi:Within mA (fs.map (·.1))):ObjOk P w H h dx (xdO dx fs):=by
 refine⟨⟨mA,n,r,wi⟩,?_,λ_ _ ⟨m,⟨o,es,ep,g,q⟩,r⟩ k=>⟨m,⟨o,es,ep,k o g,q⟩,r⟩⟩;obtain⟨o,es,ep,g,_⟩:=n;exact⟨o,g⟩
structure XcK (K:Frag) (C T:Addr):Prop where
 ex:ExK K C
 sa:findIn K (.ref C) "__setattr__"=some (some (.builtin "object.__setattr__"))
 mro:aX3 K C=some [.ref C,.ref T,.type "ValueError",.type "Exception",.type "BaseException",.type "object"]
 vb:W.subIn K (.ref C) (.type "ValueError")=some true
def dXR(K:Frag)(C T:Addr):Bool:=(clsIn K C).any λc=>match c.mro with
 |[.ref a,.ref b,.type x,.type y,.type z,.type u]=>a==C&&b==T&&x == "ValueError" && y == "Exception" && z == "BaseException" && u == "object"
 |_=>false
def yC{K:Frag}{T:Addr}(h:dXR K C T=true):aX3 K C=some [.ref C,.ref T,.type "ValueError",.type "Exception",.type "BaseException",.type "object"]:=by
 obtain⟨c,hc,h⟩:=any_some h;unfold aX3;rw[hc];split at h
 ·rename_i hm
  simp only[Bool.and_eq_true,beq_iff_eq]at h;obtain⟨⟨⟨⟨⟨rfl,rfl⟩,rfl⟩,rfl⟩,rfl⟩,rfl⟩:=h;exact Ds some hm
 ·cases h
def lI{D:Addr}(hok:HOk P w H h)(g:h.get? ea=some oe)(hc:oe.cls=.ref D)(hdi:oe.dict=d)(hda:oe.data=.fields vs)(hd:∀dx,d=some dx->∃o,H dx=some o):∃od,InstAt h ea oe D od:=by
 have no:notCls oe=true:=by
  obtain⟨c,di,da,sl⟩:=oe;cases hda;rfl
 cases d with
 |none=>exact⟨none,g,hc,no,by rw[hdi];trivial⟩
 |some dx=>
  obtain⟨o,z⟩:=hd dx rfl;obtain⟨ob,g2⟩:=(hok dx o z).get;exact⟨some ob,g,hc,no,by rw[hdi];exact g2⟩
def eQH{o:HO}(e:H a=some o):upd H a o=H:=by
 funext b
 unfold upd;split
 ·rename_i z;rw[z,e]
 ·rfl
def aXU(K:Frag):List V->Hp->VK->Prop:=λvs H Q=>∃ea rest C T d,vs=.ref ea::rest/\rest.length<=sizeLine/\H ea=some (eK ea C d)/\(∀dx,d=some dx->∃o,H dx=some o)/\XcK K C T/\Q .non H
def cXR(K:Frag)(t:TA):TE:=λσ H Q=>t σ H λvs H1=>aXU K vs H1 Q
def dQ3:CallR X (.builtin "ValueError.__init__") (aXU X.K):=by
 intro pins s σ H xs us Q I r h;obtain⟨ea,rest,C,T,d,rfl,hl,he,hd,Z,q⟩:=h;cases r with
 | @cons _ _ _ l2 r0 rr=>
  cases r0;obtain⟨oe,vs,t0,g,hc,hdi,hda,h1,h0,c2⟩:=(I.hok ea _ he).1;obtain⟨od,hI⟩:=lI I.hok g hc hdi hda hd;refine bJK Z.ex I.kIn hI Z.vb hda h0 (by rw[<-rr.length];exact hl) ?_
  have g2:=Ag (h:=s.heap) {cls:=.type "tuple",data:=.seq l2.toArray} g
  have hs0:0<vs.size:=(De.mp h0).1
  have dm:=Obj.data_mapFields hda (·.setIfInBounds 0 (Value.ref s.heap.objs.size))
  refine⟨.non,H,?_,rfl,q⟩;have I2:=I.write (x:=ea) (e:=ea) (o:=eK ea C d) (t':=s.toks) (by rw[he];exact True.intro) (.inl rfl) (λb u hb z=>(Cj _ (Obj.mapFields (·.setIfInBounds 0 (Value.ref s.heap.objs.size))) (Ne.symm hb)).trans (Ag _ z))
   ⟨_,Heap.get?_update_self _ g2 (Obj.isFreed_of_fields dm)⟩ (zA (Heap.get?_update_self _ g2 (Obj.isFreed_of_fields dm)) (by rw[Obj.cls_mapFields];exact hc) (by rw[aQY];exact hdi) dm (by rw[Array.getElem?_setIfInBounds];simp[h1]) (t0:=s.heap.objs.size) (by simp[hs0]) ((Array.getElem?_setIfInBounds_ne (by decide)).trans c2))
  rw[eQH he]at I2;exact I2
section
variable {T:Addr} {mc:Value} {t:TA}
def sJ(hg:Gl X x)(hm:X.mg x=some (.ref T))(h1:specialIn X.K (.ref T) "__getattribute__"=some (some (.builtin "type.__getattribute__")))(h2:readsIn X.K T mc=true)(h3:findCls X.K (.ref T) mc "__init__"=some (.val (.builtin "ValueError.__init__")))(ha:PA X (e::es) t)(hdb:(x==("__debug__" : Str))=false:=by decide)(hst:starEach (e::es) X.env=(false,eval e X.env)::starEach es X.env:=by rfl)(hpl:(backTo pos (starEach es X.env)).any (·.1)=false:=by rfl)(ht:eval (.Call (.Attribute (.Name x np) "__init__" apos) (e::es) [] pos) X.env=(do
 let ov <-eval (.Name x np) X.env
 standAt apos.atName
 let (f,first) <-holding [ov] (getMethod ov "__init__" pl)
 callWith pos f first (backTo pos (starEach (e::es) X.env)) (backToKw pos (keywordEach [] X.env))):=by rfl):PE X (.Call (.Attribute (.Name x np) "__init__" apos) (e::es) [] pos) (cXR X.K t):=by
 intro pins s σ H Q I h;refine Fk (pl:=pl) (fZ I hg hm ?_ hdb) ht;refine method_cls I.kIn h1 (cls_value I.kIn h2 h3 rfl ?_);exact PyProof.Rows.callWith_builtin1 (thn (ha pos pins _ σ H _ (I.tok _) h) λus s1 ⟨vs,H1,I1,r1,q1⟩=>dQ3 pins s1 σ H1 vs us Q I1 r1 q1) hst hpl
end
def Inv.freAt(I:Inv X pins σ H s)(h:s.heap.objs.size<=a):Fre X pins a where
 s0:=Fq (Bi I.sz h)
 loc:=λz=>absurd (Bf I.lt h) (by rw[z];exact Dv _)
 cell:=λx c e z=>by
  obtain⟨_,o,g,_⟩:=I.cell x c e;exact absurd (Bf (Av g) h) (by rw[z];exact Dv _)
 pin:=λp hp z=>absurd (Bf (Av (I.pin p hp).1) h) (by rw[z];exact Dv _)
def dX5(K:Frag)(ta tv:TE)(f:Str):TS:=λD σ H=>tv σ H λy H1=>ta σ H1 λx H2=>∃ea C T,x=.ref ea/\XcK K C T/\findIn K (.ref C) f=some none/\
 ((H2 ea=some (eK ea C none)/\∀dx,H2 dx=none->D.nx σ (upd (upd H2 ea (eK ea C (some dx))) dx (xdO dx [(f,y)])))\/
  (∃dx fs,H2 ea=some (eK ea C (some dx))/\H2 dx=some (xdO dx fs)/\fs.length<100/\D.nx σ (upd H2 dx (xdO dx ((f,y)::fs)))))
def vT{f g:Str}{fs:List (Str×V)}:List.lookup g ((f,y)::fs)=if g=f then some y else fs.lookup g:=by
 rw[Di];by_cases z:g=f
 ·rw[if_pos z,z];simp
 ·rw[if_neg z];have:(g==f)=false:=by simpa using z
  rw[this]
def rH{o value:Expr}{f:Str}{pos':Pos}{ta:TE}(ha:PE X o ta)(hv:PE X value tv)(hs:swapsWith value (some (.Attribute o f pos')) pos.line X.env=pure false):PS X (.Assign [.Attribute o f pos'] value pos) (dX5 X.K ta tv f):=by
 intro pins s σ H D I h;refine plainObj_wpAny_Assign_Attribute (thn (hv pins s σ H _ I h) λu s1 ⟨y,H1,I1,ry,q⟩=>thn (ha pins s1 σ H1 _ I1 q) λov s2 ⟨x,H2,I2,rx,ea,C,T,ex,Z,hn,q2⟩=>?_) hs;subst ex;obtain rfl:ov=Value.ref ea:=rx;rcases q2 with⟨he,q3⟩|⟨dx,fs,he,hdx,hl,q3⟩
 ·obtain⟨oe,vs,t0,g,hc,hdi,hda,h1,h0,c2⟩:=(I2.hok ea _ he).1;obtain⟨od,hI⟩:=lI I2.hok g hc hdi hda (λ_ z=>nomatch z)
  have hod:od=none:=by
   have z:=hI.dict
   rw[hdi]at z;cases od with
   |none=>rfl
   |some o=>exact z.elim
  subst hod;refine cQC Z.ex I2.kIn hI hda hdi Z.sa Z.mro hn λh' tk' gx ns kp=>?_;have fr:=I2.freAt (Ai _)
  have hfree:H2 s2.heap.objs.size=none:=I2.hok.fresh (Ai _)
  have ne:s2.heap.objs.size≠ea:=λz=>by rw[z,he]at hfree;cases hfree
  have I3:=I2.write (x:=ea) (e:=ea) (o:=eK ea C (some s2.heap.objs.size)) (h':=h') (t':=tk') (by rw[he];exact True.intro) (.inl rfl) kp ⟨_,gx⟩ (zA gx hc rfl hda h1 h0 c2)
  have I4:=I3.adopt (a:=s2.heap.objs.size) (o:=xdO s2.heap.objs.size [(f,y)]) fr (by rw[aJ ne];exact hfree) (bJP ns (λg=>by
   rw[vT];split
   ·exact ry
   ·exact True.intro) (λg hg=>by
   by_cases z:g=f
   ·rw[z];exact Ak.mpr rfl
   ·exact absurd (show (if g=f then some u else none)=none by rw[if_neg z]) hg))
  exact⟨σ,_,I4,q3 _ hfree⟩
 ·obtain⟨oe,vs,t0,g,hc,hdi,hda,h1,h0,c2⟩:=(I2.hok ea _ he).1;obtain⟨mA,n,r,wi⟩:=(I2.hok dx _ hdx).1;obtain⟨od,hI⟩:=lI I2.hok g hc hdi hda (λz e=>by cases e;exact⟨_,hdx⟩)
  have hod:∃o,od=some o:=by
   have z:=hI.dict
   rw[hdi]at z;cases od with
   |none=>exact z.elim
   |some o=>exact⟨o,rfl⟩
  obtain⟨o,rfl⟩:=hod;refine cQM Z.ex I2.kIn hI hdi Z.sa Z.mro hn n wi (by rw[Ab,Ha];omega) λh' tk' ns sb=>?_
  have hd':∃o,h'.get? dx=some o:=let ⟨o,_,_,e',_⟩:=ns;⟨o,e'⟩
  have I3:=I2.write (x:=dx) (e:=dx) (o:=xdO dx ((f,y)::fs)) (h':=h') (t':=tk') (by rw[hdx];exact True.intro) (.inl rfl) (λb q hb z=>(sb.2 b hb).trans z) hd' (bJP ns (λg=>by
   rw[vT];split
   ·exact ry
   ·exact r g) (λg hg=>by
   by_cases z:g=f
   ·rw[z];exact Al
   ·refine Am _ (wi g λz2=>hg ?_);show (if g=f then some u else mA g)=none
    rw[if_neg z];exact z2))
  exact⟨σ,_,I3,q3⟩
def bJZ(K:Frag)(ta:TE)(f:Str):TE:=λσ H Q=>ta σ H λx H1=>∃ea C dx fs v,x=.ref ea/\(H1 ea=some (gM ea (.ref C) (some dx))\/H1 ea=some (eK ea C (some dx)))/\H1 dx=some (xdO dx fs)/\ExK K C/\findIn K (.ref C) f=some none/\fs.lookup f=some v/\Q v H1
def cX3(r:RelV v u):handedIn u=true:=by
 cases v<;>first|(obtain⟨_,rfl⟩:=(show ∃t,u=_ from r);rfl)|(cases r;rfl)
def dQN{f:Str}{ta:TE}(he:PE X e ta)(hb:attributeBase e f X.env (eval e X.env)=eval e X.env):PE X (.Attribute e f pos) (bJZ X.K ta f):=by
 intro pins s σ H Q I h;refine aJR hb (thn (he pins s σ H _ I h) λu s1 ⟨x,H1,I1,rx,ea,C,dx,fs,v,ex,e1,e2,Z,n,l,q⟩=>?_);subst ex;obtain rfl:u=Value.ref ea:=rx;obtain⟨oe,vs,g,hc,hdi,hda⟩:∃oe vs,s1.heap.get? ea=some oe/\oe.cls=.ref C/\oe.dict=some dx/\oe.data=.fields vs:=by
  rcases e1 with e1|e1
  ·exact(I1.hok ea _ e1).1
  ·obtain⟨oe,vs,t0,g,hc,hdi,hda,_⟩:=(I1.hok ea _ e1).1;exact⟨oe,vs,g,hc,hdi,hda⟩
 obtain⟨⟨mA,ns,r,wi⟩,_⟩:=I1.hok dx _ e2;obtain⟨od,hI⟩:=lI I1.hok g hc hdi hda (λz e=>by cases e;exact⟨_,e2⟩)
 obtain⟨o,go,lo⟩:=wL ns;have hod:od=some o:=by
  have z:=hI.dict
  rw[hdi]at z;cases od with
  |none=>exact z.elim
  |some o'=>
   have z:s1.heap.get? dx=some o':=z
   rw[go]at z;exact z.symm
 subst hod;have rl:=r f
 rw[l]at rl;cases hu:mA f with
 |none=>rw[hu]at rl;exact rl.elim
 |some u=>
  rw[hu]at rl;exact dQV Z I1.kIn hI (findObj_own Z.cls n rfl (by rw[lo,hu])) (cX3 rl) ⟨v,H1,I1.tok _,rl,q⟩
end
section
open PySem.W
def zX(K:Frag)(C:Addr)(bmB:List Value)(newId:String):Bool:=
 match K.lookup C with
 |some ⟨.type t,_,.cls c,sl⟩=>t == "type" && !c.hasDel&&nsOkIn K c.ns &&
  (match c.mro with|.ref C1::bm=>C1==C&&tailIn K bmB bm|_=>false)&&(match sl.toList with|[_,_,_,_,some (.builtin n),_]=>n==newId|_=>false)
 |_=>false
def eQK{K:Frag}(X:K.In h)(q:zX K C bmB newId=true):∃bm N nm qn bs hd sn sub ab col dd k0 k1 k2 k3 k5,h.get? C=some (excClassObj nm qn C N bs bm hd sn sub ab col dd k0 k1 k2 k3 k5 newId)/\OwnTail h bmB bm:=by
 unfold zX at q;split at q
 ·rename_i t dd c sl ho
  simp only[Bool.and_eq_true,beq_iff_eq,Bool.not_eq_true']at q;obtain⟨⟨⟨⟨rfl,q1⟩,q2⟩,q3⟩,q4⟩:=q;split at q3
  ·rename_i C1 bm hm
   obtain⟨rfl,q5⟩:C1=C/\tailIn K bmB bm=true:=by simpa only[Bool.and_eq_true,beq_iff_eq]using q3
   split at q4
   ·rename_i k0 k1 k2 k3 n k5 hs
    obtain rfl:n=newId:=by simpa using q4
    obtain⟨nm,bs,mro,ns,qn,hd,sn,sub,ab,col,del⟩:=c;dsimp only at hm q1 q2;subst hm q1;obtain⟨l⟩:=sl;cases (show l=_ from hs);exact⟨bm,ns,nm,qn,bs,hd,sn,sub,ab,col,dd,k0,k1,k2,k3,k5,X _ _ ho,tail_of_in X q5⟩
   ·cases q4
  ·cases q3
 ·cases q
section
variable {K:Frag} {B initId:String}
def bZO{rest:List Value}{Q:Fin->Shared->Prop}(FB:ExcBaseFacts B newId initId bmB)(X:K.In s.heap)(hx:zX K C bmB newId=true)(hi:findIn K (.ref C) "__init__"=some (some (.ref f)))(hf:typeIn K (.ref f)=some (.type "function"))(hr:rest.length<=sizeLine)(hq:∀h' e,Heap.MadeExcOf s.heap h' e (.ref C) rest->wpAny (model prog w) A (call (.ref f) (.ref e::rest)) (λr s'=>r=.none/\Q (.done (.ret (.ref e))) s') E {s with heap:=h'}):wpAny (model prog w) A (Builtin.«type.__call__» ⟨.ref C::rest,[]⟩) Q E s:=by
 obtain⟨h,g,d,t,os⟩:=s;obtain⟨bm,N,nm,qn,bs,hd,sn,sub,ab,col,dd,k0,k1,k2,k3,k5,hC,Tl⟩:=eQK X hx;repeat (first|with_reducible refine wpAny_madeBy_exc hC ?_|with_reducible refine Fo hC ?_|wp_step)
 refine codeAny_call_builtin_code (Code.quiet_builtin _ FB.quiet) (wpAny_check_new_subT FB Tl hC (codeAny_exc_new_subT FB Tl hC ?_ hr));show wpAny _ _ _ _ _ _
 generalize hh1:(h.push {cls:=.type "tuple",data:=.seq rest.toArray}).push {cls:=.ref C,data:=.fields #[.ref h.objs.size,.none,.none,.none,.bool false,.none]}=h1;have kp:∀b o,h.get? b=some o->h1.get? b=some o:=λb o e=>by rw[<-hh1];exact Ag _ (Ag _ e)
 have dX:h1.get? (h.objs.size+1)=some {cls:=.ref C,data:=.fields #[.ref h.objs.size,.none,.none,.none,.bool false,.none]}:=by rw[<-hh1];heap_get
 have X1:=X.keeps kp
 have hC1:=kp _ _ hC
 have hcC:(Value.ref C::bm).contains (.ref C)=true:=by simp
 unfold isInstance;repeat (first|(with_reducible refine wpAny_isSubtype_exc hC1 ?_;rw[hcC])|with_reducible refine Fo dX ?_|wp_step)
 show wpAny _ _ (typeLookup (.ref C) _) _ _ _
 refine(looks_findIn X1 hi).here (s:=⟨h1,g,d,t,os⟩) (Ck (Ae ?_));unfold bindSpecial;refine Ae ((looks_typeIn X1 hf).here (s:=⟨h1,g,d,t,os⟩) ?_);rw[if_pos (by decide)]
 refine Ao (Ae (Ci (hq h1 (h.objs.size+1) ⟨kp,Fq (Nat.le_succ _),h.objs.size,dX,Fq (Ai _),?_⟩) (λr s' hr=>?_) λ_ _ z=>z))
 ·rw[<-hh1];exact Ag _ (Heap.get?_push_at rfl rfl)
 ·obtain⟨rfl,z⟩:=hr
  wp_walk
  exact z
def cZU{rest:List Value}{Q:Q0}(FB:ExcBaseFacts B newId initId bmB)(X:K.In s.heap)(hx:zX K C bmB newId=true)(hi:findIn K (.ref C) "__init__"=some (some (.ref f)))(hf:typeIn K (.ref f)=some (.type "function"))(hr:rest.length<=sizeLine)(hq:∀h' e,Heap.MadeExcOf s.heap h' e (.ref C) rest->wpAny (model prog w) (A.under (.builtin "type.__call__" ⟨.ref C::rest,[]⟩)) (call (.ref f) (.ref e::rest)) (λr s'=>r=.none/\Q (.ref e) s') E {s with heap:=h'}):wpAny (model prog w) A (call (.ref C) rest) Q E s:=by
 have X0:=X
 obtain⟨h,g,d,t,os⟩:=s;obtain⟨bm,N,nm,qn,bs,hd,sn,sub,ab,col,dd,k0,k1,k2,k3,k5,hC,Tl⟩:=eQK X hx;have c1:=tc_lookup
 have c2:=tc_bind (.ref C)
 have c3:(⟨h,g,d,t,os⟩:Shared).TypeIs (.ref C) "type" := ⟨_,hC,rfl⟩
 refine Er (codeAny_of_tree ?_);show wpAny _ _ (callAny (.ref C) _) _ _ _
 repeat (any_goals (first|with_reducible refine Fo hC ?_|assumption|wp_step))
 exact⟨rfl,codeAny_call_builtin_at (Code.quiet_builtin _ (by decide +kernel)) entry_typeCall (wpAny_check_type_call_sub hC (bZO FB X0 hx hi hf hr λh' e hm=>hq h' e hm))⟩
def bQ5{x:Sem Value}{Q:Flow->Shared->Prop}(hh:A.handled=none)(h:wpAny (model prog w) A x (λv s1=>∃e oe vs bm N nm qn bs hd sn sub ab col dd k0 k1 k2 k3 k5,v=.ref e/\s1.heap.get? C=some (excClassObj nm qn C N bs bm hd sn sub ab col dd k0 k1 k2 k3 k5 newId)/\bm.contains (.type "BaseException")=true/\
 s1.heap.get? e=some oe/\oe.cls=.ref C/\oe.data=.fields vs/\vs[1]?=some .none/\E (.ref e) s1) E s):wpAny (model prog w) A (raiseStmt env (some x) none) Q E s:=by
 unfold raiseStmt;refine Ae (Ci h (λv s1 q=>?_) λ_ _ z=>z);obtain⟨e,oe,vs,bm,N,nm,qn,bs,hd,sn,sub,ab,col,dd,k0,k1,k2,k3,k5,rfl,hC,hb,he,hc,hda,h1,hE⟩:=q;obtain⟨hp,g,d,tk,os⟩:=s1;obtain⟨oc,odi,oda,osl⟩:=oe;dsimp only at hc hda;subst hc hda;have hcB:(Value.ref C::bm).contains (.type "BaseException")=true:=by rw[List.contains_cons,hb,Bool.or_true]
 repeat (first|with_reducible refine Fo hC ?_|with_reducible refine Fo he ?_|(with_reducible refine wpAny_isSubtype_exc hC ?_;rw[hcB])|wp_step)
 rw[h1];refine Ao ?_;rw[if_neg (show ¬((Value.none != Value.none)=true) by decide)]
 exact Ao (wpAny_raiseNew_none hh hE)
end
def del(H:Hp)(a:Addr):Hp:=λb=>if b=a then none else H b
def dU(h:b≠a):del H a b=H b:=if_neg h
def aXF:del H a a=none:=if_pos rfl
def Inv.drop{φ:Heap->Prop}(I:Inv X pins σ H s)(e:H ea=some (.ext φ)):Inv X pins σ (del H ea) s:=by
 have ne:∀b u,H b=some u->(∀ψ,u≠.ext ψ)->b≠ea:=λb u q n z=>by
  rw[z,e]at q;cases q;exact n φ rfl
 refine I.re (λb n=>?_) (λb xs q=>?_) (λb o u q=>?_) (λb ps q=>?_) λb o q=>?_
 ·unfold del;split
  ·rfl
  ·exact n
 ·have q1:=I.base.tups b xs q
  rw[dU (ne b _ q1 λ_ z=>nomatch z)]
  exact q1
 ·have q1:=I.base.frzs b o u q
  rw[dU (ne b _ q1 λ_ z=>nomatch z)]
  exact q1
 ·obtain⟨m,q1⟩:=I.base.tbls b ps q;exact⟨m,by rw[dU (ne b _ q1 λ_ z=>nomatch z)];exact q1⟩
 ·have hb:b≠ea:=λz=>by rw[z,aXF]at q;cases q
  rw[dU hb]at q;exact(I.hok b o q).stay (λ_ _ _ z=>z) (λc z=>by rw[dU (ne c _ z λ_ z=>nomatch z)];exact z) λc xs z=>by rw[dU (ne c _ z λ_ z=>nomatch z)];exact z
def Inv.freNew(I:Inv X pins σ H s)(hex:X.ex=[])(h:s.heap.get? a=none):Fre X pins a where
 s0:=by
  cases z:X.s₀.heap.get? a with
  |none=>rfl
  |some o=>
   obtain⟨o',z'⟩:=I.base.there a o z (by rw[hex];simp)
   rw[h]at z';cases z'
 loc:=λz=>by
  obtain⟨m,⟨o,_,_,g,_⟩,_⟩:=I.loc;rw[<-z,h]at g;cases g
 cell:=λx c e z=>by
  obtain⟨_,o,g,_⟩:=I.cell x c e;rw[z,h]at g;cases g
 pin:=λp hp z=>by
  have g:=(I.pin p hp).1
  rw[z,h]at g;cases g
def aZR(P:Program)(w:World)(K:W.Frag)(mg:Str->Option Value)(base:Heap)(k:Nat)(C:Addr)(ps:List Str)(sp:Sp):Prop:=
 ∃(f:Addr) (fd:FuncData),FnOk P w K mg base CX0 k f fd ps sp/\findIn K (.ref C) "__init__"=some (some (.ref f))/\typeIn K (.ref f)=some (.type "function")/\Binds K fd ps []
structure XmK (K:Frag) (C:Addr):Prop where
 obj:zX K C [.type "ValueError",.type "Exception",.type "BaseException",.type "object"] "ValueError.__new__"=true
 kp:keepIn K (.ref C)=true
def bQJ(C:Addr)(sp:Sp)(E:XK)(ta:TA):TS:=λ_ σ H=>ta σ H λvs H1=>vs.length<=sizeLine/\∀ea,H1 ea=none->sp (.ref ea::vs) (upd H1 ea (eK ea C none)) (λv H2=>v=.non/\∃d,H2 ea=some (eK ea C d)/\E (.ref C) d (del H2 ea)) E0
section
variable {E:XK} {k:Nat} {ps:List Str}
def bQ2{vs:List V}{G:Addr->VK}{R:Q0}(hex:X.ex=[])(M:XmK X.K C)(c:aZR X.prog X.w X.K X.mg X.base k C ps sp)(hr:Room (k+1) X.A)(I1:Inv X pins σ H1 s1)(r:Vals vs us)(hl:vs.length<=sizeLine)(q:∀ea,H1 ea=none->sp (.ref ea::vs) (upd H1 ea (eK ea C none)) (G ea) E0)(hR:∀ea H2 s2,X.s₀.heap.get? ea=none->Inv X pins σ H2 s2->(G ea) .non H2->R (.ref ea) s2)(hG:∀ea v H2,G ea v H2->v=.non):wpAny (model X.prog X.w) X.A (call (.ref C) us) R X.xe s1:=by
 obtain⟨f,fd,F,hi,hf,hb⟩:=c;refine cZU Ct I1.kIn M.obj hi hf (by rw[<-r.length];exact hl) λh' ea hm=>?_
 obtain⟨t,g,_,_⟩:=hm.there;have hole:H1 ea=none:=I1.hok.hole hm.new
 have fr:=I1.freNew hex hm.new
 have I2:=(I1.kept (t':=s1.toks) hm.keeps).adopt (o:=eK ea C none) fr hole (zA g rfl rfl rfl rfl rfl rfl)
 have r2:Vals (V.ref ea::vs) (Value.ref ea::us):=.cons rfl r
 have hq:=q ea hole
 have hl2:((Value.ref ea::us)++[]).length=ps.length:=by rw[Bd,<-r2.length];exact F.len _ _ _ _ hq
 have hbb:=hb {s1 with heap:=h'} (Value.ref ea::us) I2.kIn hl2
 rw[Bd]at hbb;refine Er (Ep (F.run _ X.stack {s1 with heap:=h'} _ ⟨Value.ref ea::us,[]⟩ (Value.ref ea::us) (V.ref ea::vs) _ E0 (hr.make C us []) (I2.env0.make C us []) hbb r2 hq) λrr s' hq'=>?_)
 cases rr with
 |error e=>exact False.elim hq'
 |ok fl=>
  cases fl with
  |ret u=>
   obtain⟨v,H',I3,rv,q3⟩:=I2.after hq';have ev:=hG ea v H' q3
   subst ev;exact⟨rv,hR ea H' s' fr.s0 I3 q3⟩
  |next=>exact False.elim hq'
  |brk=>exact False.elim hq'
  |cont=>exact False.elim hq'
def lS(hR:eQV X E)(hex:X.ex=[])(hc:X.calm=true)(hg:Gl X x)(hm:X.mg x=some (.ref C))(M:XmK X.K C)(c:aZR X.prog X.w X.K X.mg X.base k C ps sp)(hr:Room k' X.A)(hkk:k+1<=k')(ha:PA X (e::es) ta)(hd:(x==("__debug__" : Str))=false:=by decide)(he:starEach (e::es) X.env=(false,eval e X.env)::starEach es X.env:=by rfl)(hpl:(backTo cpos (starEach es X.env)).any (·.1)=false:=by rfl):PS X (.Raise (some (.Call (.Name x np) (e::es) [] cpos)) none pos) (bQJ C sp E ta):=by
 intro pins s σ H D I h;rw [arm_exec_Raise];simp only [evalOpt,Option.map];refine Ae (Fj (bQ5 (C:=C) (newId := "ValueError.__new__") (I.ok.hd hc) ?_));refine Ae (Ci (Q:=λv s1=>∃ e oe vs bm N nm qn bs hd sn sub ab col dd k0 k1 k2 k3 k5,v=.ref e/\s1.heap.get? C=some (excClassObj nm qn C N bs bm hd sn sub ab col dd k0 k1 k2 k3 k5 "ValueError.__new__")/\bm.contains (.type "BaseException")=true/\
     s1.heap.get? e=some oe/\oe.cls=.ref C/\oe.data=.fields vs/\vs[1]?=some .none/\X.xe (.ref e) s1) ?_ (λv s3 h3=>Ae (Fj (Ao h3))) λ_ _ z=>z)
 refine Dq (fZ I hg hm ?_ hd);refine Fd (h₀:=X.base) I.ok.mod.kin M.kp (thn (ha cpos pins s σ H _ I h) λus s1 ⟨vs,H1,I1,r,hl,q⟩=>⟨I1.kIn,?_⟩) he hpl;refine bQ2 hex M c (hr.mono hkk) I1 r hl q (λea H' s' s0 I3 q3=>?_) λea v H2 z=>z.1;obtain⟨_,d,e2,q3⟩:=q3;obtain⟨oe,ws,t0,g2,hc2,hdi,hda,h1,h0,c2⟩:=(I3.hok ea _ e2).1;obtain⟨bm,N,nm,qn,bs,hdct,sn,sub,ab,col,dd,k0,k1,k2,k3,k5,hC,Tl⟩:=eQK I3.kIn M.obj;refine⟨ea,oe,ws,bm,N,nm,qn,bs,hdct,sn,sub,ab,col,dd,k0,k1,k2,k3,k5,rfl,hC,Tl.hasType PySem.F.excBase_ValueError.hasBase,g2,hc2,hda,h1,?_⟩;exact hR pins σ (del H' ea) s' ea oe ws (I3.drop e2) g2 hda h1 c2 aXF s0 (by rw[hc2,hdi];exact q3)
end
def uB(st:Stmt)(j:Nat):Stmt:=
 match st with
 |.ClassDef _ _ _ body _ _ _ _ _ _ _=>body.getD j (.Pass ⟨0,0,0,0⟩)
 |s=>s
section
variable {D T:Addr} {c:V} {cv:Value} {b:Bool} {D':Ends} {E:XK} {f:Str}
def dQL(h:ta σ H λvs H1=>aXU K vs H1 Q):cXR K ta σ H Q:=h
def cQ0(h:ta σ H λvs H1=>vs.length<=sizeLine/\∀ea,H1 ea=none->sp (.ref ea::vs) (upd H1 ea (eK ea C none)) (λv H2=>v=.non/\∃d,H2 ea=some (eK ea C d)/\E (.ref C) d (del H2 ea)) E0):bQJ C sp E ta D' σ H:=h
def eQ2(h:te σ H λx H1=>∃ea C dx fs v,x=.ref ea/\(H1 ea=some (gM ea (.ref C) (some dx))\/H1 ea=some (eK ea C (some dx)))/\H1 dx=some (xdO dx fs)/\ExK K C/\W.findIn K (.ref C) f=some none/\fs.lookup f=some v/\Q v H1):bJZ K te f σ H Q:=h
def eQU(h:tv σ H λy H1=>te σ H1 λx H2=>∃ea C T,x=.ref ea/\XcK K C T/\W.findIn K (.ref C) f=some none/\
 ((H2 ea=some (eK ea C none)/\∀dx,H2 dx=none->D'.nx σ (upd (upd H2 ea (eK ea C (some dx))) dx (xdO dx [(f,y)])))\/
  (∃dx fs,H2 ea=some (eK ea C (some dx))/\H2 dx=some (xdO dx fs)/\fs.length<100/\D'.nx σ (upd H2 dx (xdO dx ((f,y)::fs)))))):dX5 K te tv f D' σ H:=h
def yN(e:H ea=some (gM ea (.ref D) (some dx))){o:HO}(hd:H dx=some o)(Z:ExK K D)(h1:cZC c=some cv)(h2:W.kitOne K (.ref D) cv=some b)(h:Q (.bl b) H):dXH K [.ref ea,c] H Q:=
 ⟨ea,D,some dx,c,b,rfl,e,(λ_ z=>by cases z;exact⟨o,hd⟩),Z,.inl ⟨cv,h1,h2⟩,h⟩
end
end
def uK{f:Str}{ta:TE}(h:X.K=K)(he:PE X e ta)(hb:attributeBase e f X.env (eval e X.env)=eval e X.env):PE X (.Attribute e f pos) (bJZ K ta f):=by
 subst h;exact dQN he hb
def zT{l:Addr}{items:Array Value}(hne:l≠it):∀(n i:Nat) (s:Shared) (Q:List Value->Shared->Prop),s.heap.IsListIter it l i->s.heap.IsList l items->i+n<=items.size->
 (∀h',h'.IsListIter it l (i+n)->Heap.SameBut it s.heap h'->Q ((items.toList.drop i).take n) {s with heap:=h'})->wpAny (model prog w) A (draw (.ref it) n) Q E s
 |0,i,s,Q,hit,_,_,k=>by
  refine Ao (M:=model prog w) ?_
  simpa using k s.heap hit (Heap.SameBut.refl ..)
 |n+1,i,s,Q,hit,hl,hle,k=>by
  have lt:i<items.size:=by omega
  show wpAny _ _ (pyNext (.ref it) >>= _) Q E s
  refine wpAny_bind (wpAny_pyNext_list_item hit hl (x:=items[i]) (by simp[lt]) λg1 it1 sb1=>?_)
  refine Ae (Ck (zT hne n (i+1) _ _ it1 (hl.extBut sb1.extBut hne) (by omega) λg2 it2 sb2=>Ao ?_))
  have e:items.toList.drop i=items[i]::items.toList.drop (i+1):=by simp[List.drop_eq_getElem_cons,lt]
  have z:=k g2 (by rw[show i+(n+1)=i+1+n by omega];exact it2) (sb1.trans sb2)
  rw[e,Gb]at z;exact z
def aZO{l:Addr}{items:Array Value}{targets:List (Bool×(Value->Sem Unit))}{Q:Unit->Shared->Prop}(hh:A.handled=none)(hl:s.heap.IsList l items)(hn:targets.length=items.size)(hs:targets.findIdx? (·.1)=none)(k:∀h',Heap.ExtBut s.heap.objs.size s.heap h'->wpAny (model prog w) A (assignInOrder (targets.map (·.2)) items.toList) Q E {s with heap:=h'}):wpAny (model prog w) A (unpack (.ref l) targets) Q E s:=by
 have hlt:l≠s.heap.objs.size:=by obtain⟨o,ho,_⟩:=hl;exact Bj (Av ho)
 unfold unpack;rw[hn,hs];refine Ae (Ck ?_);unfold unpackItems notIterableAtAll;refine Ae (Ae (wpAny_specialOf hl.typeIs slot_list_iter.lookup (Ao ?_)));rw[if_neg (by simp)]
 refine Ae (Ck (Fn hl ?_));refine Ae (Ck (zT hlt items.size 0 _ _ ⟨_,Ay _ rfl,rfl,rfl⟩ (hl.push _) (by omega) λg1 it1 sb1=>?_))
 have al:List.take items.size (List.drop 0 items.toList)=items.toList:=by rw[List.drop_zero];exact List.take_of_length_le (by simp)
 rw[al,if_neg (by simp)]
 refine wpAny_bind (wpAny_holding (wpAny_pyNext_list_end hh it1 ((hl.push _).extBut sb1.extBut hlt) (by simp) λg2 eb=>?_))
 simp only[Option.isSome_none,Bool.false_eq_true,if_false];exact Ao (k g2 λb o hb e=>eb b o hb (sb1.extBut b o hb (Ag _ e)))
def eJP(n:Nat)(t:TGs):TG:=λv σ H Q=>∃a xs,v=.ref a/\rdL H a=some xs/\xs.length=n/\t xs σ H Q
def eQP{k:Nat}{t:TGs}(hc:X.calm=true)(h:PGs X es t)(hn:(assignEach es X.env).length=n:=by rfl)(hst:(assignEach es X.env).findIdx? (·.1)=none:=by rfl):PG X (.Tuple es k pos) (eJP n t):=by
 intro pins s σ H v u Q I r hw;obtain⟨a,xs,e1,hq,hl,hw⟩:=hw;subst e1;cases r;obtain⟨its,rv,⟨o,nn,ho,hcl,_,hda⟩,hz⟩:=I.list (bF hq);rw[assign_Tuple];refine wpAny_bind (wpAny_standAt (aZO (I.ok.hd hc) ⟨o,ho,hcl,nn,hda⟩ (by simp[hn,<-hl,rv.length]) hst λh' hx=>?_))
 have I1:Inv X pins σ H {s with heap:=h'}:=I.kept (t':=s.toks) λb o e=>hx b o (Bj (Av e)) e
 exact h pins _ σ H xs _ Q I1 (by simpa using rv) hw
def eXF{t:TGs}{Q:St->Hp->Prop}(e:rdL H a=some xs)(hn:xs.length=n)(h:t xs σ H Q):eJP n t (.ref a) σ H Q:=⟨a,xs,rfl,e,hn,h⟩
section
open PySem.AutoSeq1 (wpAny_loadPart')
def aZQ(z:Str)(tz:Tok)(k:Int)(t:Tok)(ha:z.cps.all (· < 128)=true)(hk:Builtin.SmallTypes.fitsIndex k=true):Meets (Builtin.«enumerate.__new__» ⟨[.type "enumerate",.str z tz],[("start",.int k t)]⟩) (λ_ R s=>
 R (.ok (.ret (.ref (s.heap.push {cls:=.type "str_ascii_iterator",data:=.fields #[.str z tz,.int 0 0]}).objs.size)))
  {s with heap:=(s.heap.push {cls:=.type "str_ascii_iterator",data:=.fields #[.str z tz,.int 0 0]}).push ⟨.type "enumerate",none,.fields #[.none,.bool false,.ref s.heap.objs.size,rawInt k,.none,.none],#[]⟩}):=
 .of_wp λprog w A R s h=>by
  obtain⟨hp,g,d,tk,os⟩:=s;have hsub:=sub_enumerate
  have hk':(!Builtin.SmallTypes.fitsIndex k)=false:=by rw[hk];rfl
  wp_walk
  refine wpAny_stack_any λst=>Ao ?_;refine cX8 ?_ ?_ <;>
  ·wp_walk using (wpAny_pyIter_ascii (s:=⟨hp,g,d,tk,os⟩) ha)
   exact⟨_,rfl,h⟩
def uT{tz:Tok}{k:Int}{t:Tok}{Q:Q0}(ha:z.cps.all (· < 128)=true)(hk:Builtin.SmallTypes.fitsIndex k=true)(h:∀h',IsEnum h' (s.heap.objs.size+1) s.heap.objs.size k .none->h'.IsStrIter s.heap.objs.size "str_ascii_iterator" z tz 0->h'.objs.size=s.heap.objs.size+2->(∀b o,s.heap.get? b=some o->h'.get? b=some o)->Q (.ref (s.heap.objs.size+1)) {s with heap:=h'}):wpAny (model prog w) A (call (.type "enumerate") [.str z tz] [("start",.int k t)]) Q E s:=by
 have hz:(s.heap.push {cls:=.type "str_ascii_iterator",data:=.fields #[.str z tz,.int 0 0]}).objs.size=s.heap.objs.size+1:=Fs ..
 refine oG (Q1:=λo s1=>s1.TypeIs o "enumerate"/\Q o s1) F.called_enumerate (by kernel_rfl) (by kernel_rfl) F.entry_enumerate_new (aZQ z tz k t ha hk) ?_ λo s1 hq=>⟨hq.1,?_,_,bQY F.called_enumerate.init.lookup F.called_enumerate.made (by decide),hq.1,rfl,hq.2⟩
 ·show _/\_
  rw[hz];have he:IsEnum ((s.heap.push {cls:=.type "str_ascii_iterator",data:=.fields #[.str z tz,.int 0 0]}).push ⟨.type "enumerate",none,.fields #[.none,.bool false,.ref s.heap.objs.size,rawInt k,.none,.none],#[]⟩) (s.heap.objs.size+1) s.heap.objs.size k .none:=by
   have q:=Ay (s.heap.push {cls:=.type "str_ascii_iterator",data:=.fields #[.str z tz,.int 0 0]}) (o:=⟨.type "enumerate",none,.fields #[.none,.bool false,.ref s.heap.objs.size,rawInt k,.none,.none],#[]⟩) rfl
   rwa [hz]at q
  exact⟨⟨_,he,rfl⟩,h _ he ⟨_,Ag _ (Ay _ rfl),rfl,rfl⟩ (by rw[Fs,hz]) λb o x=>Ag _ (Ag _ x)⟩
 ·unfold argsOk;rw[signature?_of (n:=['_','_','t','i','n','i','_','_']) (o := "tcejbo".toList) (by kernel_rfl) F.owner_object]
  kernel_rfl
def cX2(z:Str)(k:Nat):It:=
 ⟨λi _=>i<z.cps.size,λi H v H'=>∃p c,H p=none/\v=.ref p/\H'=upd H p (.tup [.int ((k+i:Nat):Int),.str ⟨#[c]⟩])/\z.cps[i]?=some c,λi _=>z.cps.size=i⟩
def aZU(z:Str)(tz:Tok)(e it:Addr)(k:Nat)(hei:e≠it):Turn P w K (.Tuple elts x1 tp) (cX2 z k) [e,it] e (λi h=>(∃old,IsEnum h e it ((k+i:Nat):Int) old)/\h.IsStrIter it "str_ascii_iterator" z tz i) where
 mem:=by simp
 obj:=λi h st b hb=>by
  obtain⟨⟨old,he⟩,o,ho,c,d⟩:=st;rcases Az.mp hb with z|z
  ·subst z;exact⟨_,he,λv z=>by cases z⟩
  ·rw[Ak.mp z];exact⟨o,ho,λv z=>by rw[d]at z;cases z⟩
 keep:=λi h h' st kk=>⟨let ⟨old,he⟩:=st.1;⟨old,kk e (by simp) _ he⟩,let ⟨o,ho,r⟩:=st.2;⟨o,kk it (by simp) o ho,r⟩⟩
 item:=by
  intro X hP hw hK hc i pins s σ H E I hf st hg;subst hP hw hK;obtain⟨⟨old,he⟩,hit⟩:=st;have hi:i<z.cps.size:=hg
  have D:=gP k (Draws.strAscii (prog:=X.prog) (w:=X.w) (A:=X.A.in1) (show X.A.in1.handled=none from I.ok.hd hc) it z tz)
  refine wpAny_pyNext_enum_itemD D (i:=k+i) he ⟨Fw _ _,by rw[Cz];exact hit⟩ (by omega) hei (λz=>hei (Ak.mp z)) λy h1 tk hP ho hS hT hsz kk=>?_
  refine⟨_,rfl,wpAny_letOwnedTupleGo_enum ho λh2 he2 hs2=>?_⟩;obtain⟨c,u,hcu,rfl⟩:=hP;rw[Cz]at hcu;have hTe:s.heap.objs.size≠e:=Fb (Av he)
  have hTi:s.heap.objs.size≠it:=by obtain⟨o,q,_⟩:=hit;exact Fb (Av q)
  have hT2:h2.get? s.heap.objs.size=some {cls:=.type "tuple",data:=.seq #[.int ((k+i:Nat):Int) tk,.str ⟨#[c]⟩ u]}:=(hs2.2 _ hTe).trans hT
  have hS':h1.IsStrIter it "str_ascii_iterator" z tz (i+1):=by
   have q:=hS.2
   rwa [show k+i+1-k=i+1 by omega]at q
  have I2:Inv X pins σ (upd H s.heap.objs.size (.tup [.int ((k+i:Nat):Int),.str ⟨#[c]⟩])) {s with heap:=h2,toks:=tk+1}:=by
   refine I.turnLaid (ch:=[e,it]) hf (λb u hb q=>(hs2.2 b (λz=>hb (by simp[z]))).trans (kk b u (λz=>hb (by simp[z])) (λz=>hb (by simp[z])) q)) (Nat.le_refl _) ⟨bP (by show 2<=_;omega),[.int ((k+i:Nat):Int) tk,.str ⟨#[c]⟩ u],.cons ⟨tk,rfl⟩ (.cons ⟨u,rfl⟩ .nil),_,hT2,rfl,_,rfl⟩
  refine⟨.ref s.heap.objs.size,_,I2,rfl,⟨_,c,I.hok.fresh (Ai _),rfl,rfl,hcu⟩,⟨⟨_,he2⟩,let ⟨o,ho,r⟩:=hS';⟨o,(hs2.2 it hei.symm).trans ho,r⟩⟩,λb hb=>?_⟩
  rcases Az.mp hb with z|z
  ·rw[z,aJ hTe.symm];exact(hf e (by simp)).1
  ·rw[List.mem_singleton.mp z,aJ hTi.symm];exact(hf it (by simp)).1
 done:=by
  intro X hP hw hK hc i pins s σ H E I hf st hg;subst hP hw hK;have hx:z.cps.size=i:=hg
  obtain⟨⟨old,he⟩,hit⟩:=st;have D:=gP k (Draws.strAscii (prog:=X.prog) (w:=X.w) (A:=X.A.in1) (show X.A.in1.handled=none from I.ok.hd hc) it z tz)
  refine wpAny_pyNext_enum_endD D he ⟨Fw _ _,by rw[Cz,hx];exact hit⟩ λh' eb=>⟨rfl,?_⟩
  exact I.turnAll (t':=s.toks) (ch:=[e,it]) hf λb u hb q=>eb b u (λz=>hb (by simp[z])) q
 self:=λ_ _ _ _ _ st h=>let ⟨⟨_,he⟩,_⟩:=st;Gq he h
section
variable {p kp:Pos}
def bZB(R:Addr->Hp->Prop)(S:Str->Hp->Prop):List V->Hp->Prop:=λvs H=>match vs with|[.ref j]=>R j H|[.str z]=>S z H|_=>False
def dQ5{R:Addr->Hp->Prop}{vs:List V}(q:bZB R S vs H):(∃j,vs=[.ref j]/\R j H)\/(∃z,vs=[.str z]/\S z H):=by
 unfold bZB at q;split at q
 ·exact .inl ⟨_,rfl,q⟩
 ·exact .inr ⟨_,rfl,q⟩
 ·exact q.elim
def cQ6(K:W.Frag)(ta tk:TA):TI:=λσ H R=>ta σ H (bZB (λa H1=>tk σ H1 (sO λk H2=>(0<=k/\k<2^62)/\onL (rdL H2 a) (R (Ite K a k.toNat) H2))) λz H1=>tk σ H1 (sO λk H2=>(0<=k/\k<2^62)/\z.cps.all (· < 128)=true/\R (cX2 z k.toNat) H2))
def cX1{tz:Tok}{k:Nat}(I1:Inv X pins σ H1 s1)(he:IsEnum h' (s1.heap.objs.size+1) s1.heap.objs.size ((k:Nat):Int) .none)(hi:h'.IsStrIter s1.heap.objs.size "str_ascii_iterator" z tz 0)(hz:h'.objs.size=s1.heap.objs.size+2)(hk:∀b o,s1.heap.get? b=some o->h'.get? b=some o)(q:R (cX2 z k) H1):wpAny (model X.prog X.w) X.A (pyIter (.ref (s1.heap.objs.size+1))) (PIE X pins σ (.Tuple elts x1 tp) R) E {s1 with heap:=h'}:=by
 refine Gq (s:={s1 with heap:=h'}) he ⟨_,[s1.heap.objs.size+1,s1.heap.objs.size],_,_,H1,rfl,I1.kept (t':=s1.toks) hk,aZU z tz _ _ k (Nat.succ_ne_self _),⟨⟨_,he⟩,hi⟩,λb hb=>?_,q⟩
 have z:s1.heap.objs.size<=b:=by
  rcases Az.mp hb with z|z
  ·rw[z];exact Nat.le_succ _
  ·rw[Ak.mp z];exact Ai _
 exact I1.fpOk z (I1.hok.fresh z)
def aQ6{kx:Expr}(hg:Gl X "enumerate")(hm:X.mg "enumerate"=none)(ha:PA X [l] ta)(hk:PK X [⟨some "start",kx,kp⟩] tk)(hs:starEach [l] X.env=[(false,eval l X.env)]:=by rfl)(hks:keywordEach [⟨some "start",kx,kp⟩] X.env=[(some ("start" : Str),eval kx X.env)]:=by rfl):PI X (.Tuple elts x1 tp) (.Call (.Name "enumerate" p) [l] [⟨some "start",kx,kp⟩] pos) (cQ6 X.K ta tk):=by
 intro pins s σ H R I h;have hs2:backTo pos (starEach [l] X.env)=[(false,eval l X.env)]:=by rw[hs];rfl
 refine Dq (jN I hg hm boot_enumerate (oM (by rw[hs2];rfl) (by rw[hks];rfl) ?_))
 rw[hs2];refine evalArgs_kwB (by rw[hks];rfl) ?_
 rw[<-hs2];refine thn (ha pos pins s σ H _ I h) λus s1 ⟨vs,H1,I1,r1,q1⟩=>?_;have e:(backToKw pos (keywordEach [⟨some "start",kx,kp⟩] X.env)).filterMap (·.1)=(["start"]:List Str):=by rw[hks];rfl
 rcases dQ5 q1 with⟨a,rfl,q⟩|⟨z,rfl,q⟩
 ·refine thn (hk pos pins s1 σ H1 _ I1 q) λws s2 ⟨zs,H2,I2,r2,q2⟩=>?_;obtain⟨k,rfl,⟨k0,k1⟩,q⟩:=rG q2;obtain⟨u,rfl,ru⟩:=dR r1;cases ru;obtain⟨u,rfl,t,rfl⟩:=dR r2;unfold onL at q;split at q
  ·rename_i xs ex
   obtain⟨its,rv,p,hz⟩:=I2.list (bF ex);rw[e];refine nX (by unfold Builtin.SmallTypes.fitsIndex;rw[Aj (by omega),Aj (by omega)];rfl) p.isList λh' he hi hz hk=>xK I2 (k:=k.toNat) ?_ hi hz hk q
   rw[show ((k.toNat:Nat):Int)=k by omega]
   exact he
  ·exact q.elim
 ·refine thn (hk pos pins s1 σ H1 _ I1 q) λws s2 ⟨zs,H2,I2,r2,q2⟩=>?_;obtain⟨k,rfl,⟨k0,k1⟩,hz,q⟩:=rG q2;obtain⟨u,rfl,ru⟩:=dR r1;obtain⟨tz,rfl⟩:=ru;obtain⟨u,rfl,t,rfl⟩:=dR r2;rw[e];refine uT hz (by unfold Builtin.SmallTypes.fitsIndex;rw[Aj (by omega),Aj (by omega)];rfl) λh' he hi hz hk=>cX1 I2 (k:=k.toNat) ?_ hi hz hk q
  rw[show ((k.toNat:Nat):Int)=k by omega]
  exact he
end
section
variable {k:Nat}
def cQK(f:Nat->Nat->Option V)(hl:z.length<sizeLine)(hs:∀(i:Nat) c Hc p (A:VK) (B:Hp->Prop),z.cps.toList[i]?=some c->Same H1 Hc->Hc p=none->(∀Hd,Same (upd Hc p (.tup [.int ((k+i:Nat):Int),.str ⟨#[c]⟩])) Hd->match f i c with|some y=>A y Hd|none=>B Hd)->
 g (.ref p) σ0 (upd Hc p (.tup [.int ((k+i:Nat):Int),.str ⟨#[c]⟩])) λσ2 H2=>Wk σ0 σ2/\tests σ2 H2 λb H3=>if b=true then te σ2 H3 A else B H3)(fin:∀D Hd,H1 D=none->Same H1 Hd->rdL Hd D=some ((List.range z.length).filterMap λi=>f i (z.cps.toList.getD i 0))->Q (.ref D) Hd):eI g tests te σ0 Q (cX2 z k) H1:=by
 intro D hD;have hzz:z.cps.size=z.length:=rfl
 refine⟨λi m Hc=>m=z.length-i/\i<=z.length/\Same H1 Hc/\Hc D=some (.lst ((List.range i).filterMap λi=>f i (z.cps.toList.getD i 0))),⟨z.length,by simp,Nat.zero_le _,aG hD _,by rw[aE];rfl⟩,?_⟩
 rintro i m Hc ⟨rfl,hi,sm,hDc⟩;by_cases hlt:i<z.length
 ·refine .inr ⟨hlt,λv H' y=>?_⟩;obtain⟨q,c,hq,rfl,rfl,hz⟩:=y;have hx:z.cps.toList[i]?=some c:=by rw[Dy];exact hz
  have hg:z.cps.toList.getD i 0=c:=by rw[Ac,hx];rfl
  refine hs i c Hc q _ _ hx sm hq λHd sd=>?_;have hDd:Hd D=some (.lst ((List.range i).filterMap λi=>f i (z.cps.toList.getD i 0))):=sd _ _ (aG hq _ _ _ hDc)
  have sH:Same H1 Hd:=sm.trans ((aG hq _).trans sd)
  cases e:f i c with
  |some y=>
   refine⟨_,hDd,?_,z.length-(i+1),by omega,rfl,hlt,λb o hb=>?_,?_⟩
   ·have:=Co (λi=>f i (z.cps.toList.getD i 0)) (List.range i)
    rw[Bt]at this;omega
   ·rw[aJ (bL hb hD)];exact sH b o hb
   ·rw[aE,Bs,Bu,Cp (b:=y) (by rw[hg,e]),Cf]
  |none=>
   refine⟨z.length-(i+1),by omega,rfl,hlt,sH,?_⟩
   rw[hDd,Bs,Bu,Cw (by rw[hg,e]),Cf,Bd]
 ·have e:i=z.length:=by omega
  subst e;exact .inl ⟨hzz,fin D Hc hD sm (aR hDc)⟩
def bJU(h:ta σ H (bZB (λa H1=>tk σ H1 (sO λk H2=>(0<=k/\k<2^62)/\onL (rdL H2 a) (R (Ite K a k.toNat) H2))) λz H1=>tk σ H1 (sO λk H2=>(0<=k/\k<2^62)/\z.cps.all (· < 128)=true/\R (cX2 z k.toNat) H2))):cQ6 K ta tk σ H R:=h
def eJK{i:Int}(h:Q (.int (-i)) H):eQI (.int i) H Q:=h
def dQU{R:Addr->Hp->Prop}(h:R a H):bZB R S [.ref a] H:=h
def dXV{R:Addr->Hp->Prop}(h:S z H):bZB R S [.str z] H:=h
end
end
section
variable {a b:Expr} {ta tb:TE} {rest:List Expr}
def cJ5(f:Nat->Option V)(hl:z.length<sizeLine)(hs:∀(i:Nat) c Hc (A:VK) (B:Hp->Prop),z.cps.toList[i]?=some c->Same H1 Hc->(∀Hd,Same Hc Hd->match f c with|some y=>A y Hd|none=>B Hd)->
 g (.str ⟨#[c]⟩) σ0 Hc λσ2 H2=>Wk σ0 σ2/\tests σ2 H2 λb H3=>if b=true then te σ2 H3 A else B H3)(fin:∀D Hd,H1 D=none->Same H1 Hd->Hd D=some (.lst (z.cps.toList.filterMap f))->Q (.ref D) Hd):eI g tests te σ0 Q (Its z) H1:=by
 intro D hD;have hzz:z.cps.size=z.length:=rfl
 have hz2:z.cps.toList.length=z.length:=by simp[Str.length]
 refine⟨λi m Hc=>m=z.length-i/\i<=z.length/\Same H1 Hc/\Hc D=some (.lst ((z.cps.toList.take i).filterMap f)),⟨z.length,by simp,Nat.zero_le _,aG hD _,by rw[aE];rfl⟩,?_⟩
 rintro i m Hc ⟨rfl,hi,sm,hDc⟩;by_cases hlt:i<z.length
 ·refine .inr ⟨hlt,λv H' y=>?_⟩;obtain⟨rfl,c,hz,rfl⟩:=y;have hx:z.cps.toList[i]?=some c:=by rw[Dy];exact hz
  refine hs i c H' _ _ hx sm λHd sd=>?_;have hDd:Hd D=some (.lst ((z.cps.toList.take i).filterMap f)):=sd _ _ hDc
  have sH:Same H1 Hd:=sm.trans sd
  cases e:f c with
  |some y=>
   refine⟨_,hDd,?_,z.length-(i+1),by omega,rfl,hlt,λb o hb=>?_,?_⟩
   ·have:=Co f (z.cps.toList.take i)
    rw[Bx]at this;omega
   ·rw[aJ (bL hb hD)];exact sH b o hb
   ·rw[aE,Bc,hx,Bu];show some (HO.lst (_++[y]))=some (HO.lst (_++[c].filterMap f))
    rw[Cp e,Cf]
  |none=>
   refine⟨z.length-(i+1),by omega,rfl,hlt,sH,?_⟩
   rw[hDd,Bc,hx,Bu];show some (HO.lst _)=some (HO.lst (_++[c].filterMap f))
   rw[Cw e,Cf,Bd]
 ·have e:i=z.length:=by omega
  subst e;refine .inl ⟨Ai _,fin D Hc hD sm ?_⟩;rw[hDc,Cd (by omega)]
def bXO(f:Nat->Option V)(hl:n<sizeLine)(hs:∀(i:Nat) Hc (A:VK) (B:Hp->Prop),i<n->Same H1 Hc->(∀Hd,Same Hc Hd->match f i with|some y=>A y Hd|none=>B Hd)->
 g (.int (lo+i)) σ0 Hc λσ2 H2=>Wk σ0 σ2/\tests σ2 H2 λb H3=>if b=true then te σ2 H3 A else B H3)(fin:∀D Hd,H1 D=none->Same H1 Hd->Hd D=some (.lst ((List.range n).filterMap f))->Q (.ref D) Hd):eI g tests te σ0 Q (Itr lo n) H1:=by
 intro D hD;refine⟨λi m Hc=>m=n-i/\i<=n/\Same H1 Hc/\Hc D=some (.lst ((List.range i).filterMap f)),⟨n,by simp,Nat.zero_le _,aG hD _,by rw[aE];rfl⟩,?_⟩
 rintro i m Hc ⟨rfl,hi,sm,hDc⟩;by_cases hlt:i<n
 ·refine .inr ⟨hlt,λv H' y=>?_⟩;obtain⟨rfl,rfl⟩:=y;refine hs i H' _ _ hlt sm λHd sd=>?_;have hDd:Hd D=some (.lst ((List.range i).filterMap f)):=sd _ _ hDc
  have sH:Same H1 Hd:=sm.trans sd
  cases e:f i with
  |some y=>
   refine⟨_,hDd,?_,n-(i+1),by omega,rfl,hlt,λb o hb=>?_,?_⟩
   ·have:=Co f (List.range i)
    rw[Bt]at this;omega
   ·rw[aJ (bL hb hD)];exact sH b o hb
   ·rw[aE,Bs,Bu,Cp e,Cf]
  |none=>
   refine⟨n-(i+1),by omega,rfl,hlt,sH,?_⟩
   rw[hDd,Bs,Bu,Cw e,Cf,Bd]
 ·have e:i=n:=by omega
  subst e;exact .inl ⟨Ai _,fin D Hc hD sm hDc⟩
end
def dJB(neg:Bool):R2:=λx y H Q=>∃a ov,y=.ref a/\DGet H a x ov/\Q (.bl (if neg then !ov.isSome else ov.isSome)) H
def eJ8(hu:X.A.units+1<cLine):OpR X (compareOp .In) (dJB false):=by
 intro pins s σ H x y v u Q I rx ry h;obtain⟨a,ov,rfl,g,q⟩:=h;cases ry;exact eJ6 hu I g rx λs3 I3=>⟨.bl ov.isSome,H,I3,rfl,q⟩
def bJM(hu:X.A.units+1<cLine):OpR X (compareOp .NotIn) (dJB true):=by
 intro pins s σ H x y v u Q I rx ry h;obtain⟨a,ov,rfl,g,q⟩:=h;cases ry;exact dXZ hu I g rx λs3 I3=>⟨.bl (!ov.isSome),H,I3,rfl,q⟩
def dZ4{neg:Bool}(e:Rd H a (.dK kvs))(h:Q (.bl (if neg then !(cA kvs (Sum.inr z)).isSome else (cA kvs (Sum.inr z)).isSome)) H):dJB neg (.str z) (.ref a) H Q:=⟨a,_,rfl,.inl ⟨kvs,.inr z,e,rfl,rfl⟩,h⟩
def iE{f:Nat->Option V}{y:V}(h:f i=some y):(List.range (i+1)).filterMap f=(List.range i).filterMap f++[y]:=by
 rw[Bs,Bu,Cp h,Cf]
def mK{f:Nat->Option V}(h:f i=none):(List.range (i+1)).filterMap f=(List.range i).filterMap f:=by
 rw[Bs,Bu,Cw h,Cf,Bd]
def oR{xs:List V}(f:Nat->Option V)(ha:rdL H1 a=some xs)(hl:xs.length<sizeLine)(hs:∀(i:Nat) x Hc (A:VK) (B:Hp->Prop),xs[i]?=some x->Same H1 Hc->(∀y,f i=some y->∀Hd,Same Hc Hd->A y Hd)->(f i=none->∀Hd,Same Hc Hd->B Hd)->
 g x σ0 Hc λσ2 H2=>Wk σ0 σ2/\tests σ2 H2 λb H3=>if b=true then te σ2 H3 A else B H3)(fin:∀D Hd,H1 D=none->Same H1 Hd->Hd D=some (.lst ((List.range xs.length).filterMap f))->Q (.ref D) Hd):eI g tests te σ0 Q (Itl K a) H1:=by
 refine iA (n:=xs.length) (λD i ys Hc=>Same H1 Hc/\ys=(List.range i).filterMap f) hl (λD hD=>⟨aG hD _,rfl⟩)
  (λD i ys Hc _ r h=>⟨xs,xs[i],bF (aO r.1 ha),by simp[h]⟩) (λD ys Hc _ r=>⟨xs,bF (aO r.1 ha),Nat.le_refl _⟩) ?_ ?_
 ·rintro D i ys Hc x H' A B hD hi ⟨sm,rfl⟩ hDc ⟨rfl,hz⟩ ha' hb;refine hs i x H' A B (hz xs (bF (aO sm ha))) sm (λy hy Hd sd=>?_) (λhn Hd sd=>?_)
  ·exact ha' _ _ (sd _ _ hDc) ⟨bM hD (sm.trans sd),(iE hy).symm⟩
  ·exact hb _ (sd _ _ hDc) ⟨sm.trans sd,(mK hn).symm⟩
 ·rintro D ys Hc hD ⟨sm,rfl⟩ hDc _;exact fin D Hc hD sm hDc
def cXT{k:Nat}{xs:List V}(f:Nat->Option V)(ha:rdL H1 a=some xs)(hl:xs.length<sizeLine)(hs:∀(i:Nat) x Hc p (A:VK) (B:Hp->Prop),xs[i]?=some x->Same H1 Hc->Hc p=none->(∀y,f i=some y->∀Hd,Same (upd Hc p (.tup [.int ((k+i:Nat):Int),x])) Hd->A y Hd)->(f i=none->∀Hd,Same (upd Hc p (.tup [.int ((k+i:Nat):Int),x])) Hd->B Hd)->
 g (.ref p) σ0 (upd Hc p (.tup [.int ((k+i:Nat):Int),x])) λσ2 H2=>Wk σ0 σ2/\tests σ2 H2 λb H3=>if b=true then te σ2 H3 A else B H3)(fin:∀D Hd,H1 D=none->Same H1 Hd->Hd D=some (.lst ((List.range xs.length).filterMap f))->Q (.ref D) Hd):eI g tests te σ0 Q (Ite K a k) H1:=by
 refine iA (n:=xs.length) (λD i ys Hc=>Same H1 Hc/\ys=(List.range i).filterMap f) hl (λD hD=>⟨aG hD _,rfl⟩)
  (λD i ys Hc _ r h=>⟨xs,xs[i],bF (aO r.1 ha),by simp[h]⟩) (λD ys Hc _ r=>⟨xs,bF (aO r.1 ha),rfl⟩) ?_ ?_
 ·rintro D i ys Hc x H' A B hD hi ⟨sm,rfl⟩ hDc ⟨q,z,hq,rfl,rfl,hz⟩ ha' hb;refine hs i z Hc q A B (hz xs (bF (aO sm ha))) sm hq (λy hy Hd sd=>?_) (λhn Hd sd=>?_)
  ·exact ha' _ _ (sd _ _ (aG hq _ _ _ hDc)) ⟨bM hD (sm.trans ((aG hq _).trans sd)),(iE hy).symm⟩
  ·exact hb _ (sd _ _ (aG hq _ _ _ hDc)) ⟨sm.trans ((aG hq _).trans sd),(mK hn).symm⟩
 ·rintro D ys Hc hD ⟨sm,rfl⟩ hDc _;exact fin D Hc hD sm hDc
section
variable {jt dq:Addr} {n0:Nat} {en:Array DictEntry} {od:Obj}
def cZE{Q:Option Value->Shared->Prop}(hit:s.heap.IsKeyIter jt dq n0 en.size ep)(hod:s.heap.get? dq=some od)(hdd:od.data=.dict en ep)(hi:n0<en.size)(hq:∀h',h'.IsKeyIter jt dq (n0+1) en.size ep->Heap.SameBut jt s.heap h'->Q (some en[n0].key) {s with heap:=h'}):wpAny (model prog w) A (pyNext (.ref jt)) Q E s:=by
 obtain⟨oi,hoi,ci,di⟩:=id hit;have ow:Builtin.Dict_items.ownsTuple "dict_keyiterator"=false:=by decide
 have tI:=hit.typeIs
 unfold pyNext;refine Ae (Gy (wpAny_callSpecial?_slot (name:=Str.ofString "__next__") tI Ei (Fy Ei tI F.entry_dict_keyiterator_next ?_ (F.args_dict_keyiterator_next_1 _))));refine Ae (Ao (Ae (Ae ?_)));refine Ae (Eg tI (Ao (Ae (wpAny_fieldsOf hoi di ?_))));simp only[ow,Bool.false_eq_true,if_false];show wpAny _ _ (if (Value.ref dq==Value.none)=true then _ else _) _ _ s
 rw[if_neg (by exact Ap)]
 refine Ae (Ao (Ae (wpAny_dictEntries hod hdd ?_)));rw[if_neg (by simp)]
 refine Ae (Ao (Ae (wpAny_dictEpoch hod hdd ?_)));rw[if_neg (by simp)]
 refine Ao ?_;simp only[show ¬((n0:Int)<0) by omega,if_false,Int.toNat_natCast,Array.getElem?_eq_getElem hi]
 refine Ae (Ae (Eg tI (Ao ?_)));refine Ae (wpAny_isOneOf_keyiter tI ?_);show wpAny _ _ (setField (.ref jt) 1 (rawInt ((n0:Int)+1)) >>= _) _ _ s
 have nx:(s.heap.update jt (Obj.mapFields (·.setIfInBounds 1 (rawInt ((n0:Int)+1))))).IsKeyIter jt dq (n0+1) en.size ep:=
  ⟨_,Heap.get?_update_self _ hoi (Obj.isFreed_of_fields (Obj.data_mapFields di _)),(Obj.cls_mapFields ..).trans ci,by rw[Obj.data_mapFields di];simp[rawInt]⟩
 refine wpAny_bind (wpAny_setField hoi di (by simp) (wpAny_bind (wpAny_holding (wpAny_bind (wpAny_isOneOf_keyiter (s:={s with heap:=s.heap.update jt (Obj.mapFields (·.setIfInBounds 1 (rawInt ((n0:Int)+1))))}) nx.typeIs ?_)))))
 show wpAny _ _ (pure en[n0].key) _ _ _
 exact Ao (Ao ⟨_,rfl,Ao (hq _ nx (Heap.SameBut.update ..))⟩)
def bXV{Q:Option Value->Shared->Prop}(hh:A.handled=none)(hit:s.heap.IsKeyIter jt dq en.size en.size ep)(hod:s.heap.get? dq=some od)(hdd:od.data=.dict en ep)(hq:∀h',Heap.ExtBut jt s.heap h'->Q none {s with heap:=h'}):wpAny (model prog w) A (pyNext (.ref jt)) Q E s:=by
 obtain⟨oi,hoi,ci,di⟩:=id hit;have ow:Builtin.Dict_items.ownsTuple "dict_keyiterator"=false:=by decide
 have tI:=hit.typeIs
 unfold pyNext;refine Ae (Gy (wpAny_callSpecial?_slot (name:=Str.ofString "__next__") tI Ei (Fy Ei tI F.entry_dict_keyiterator_next ?_ (F.args_dict_keyiterator_next_1 _))));refine Ae (Ao (Ae (Ae ?_)));refine Ae (Eg tI (Ao (Ae (wpAny_fieldsOf hoi di ?_))));simp only[ow,Bool.false_eq_true,if_false];show wpAny _ _ (if (Value.ref dq==Value.none)=true then _ else _) _ _ s
 rw[if_neg (by exact Ap)]
 refine Ae (Ao (Ae (wpAny_dictEntries hod hdd ?_)));rw[if_neg (by simp)]
 refine Ae (Ao (Ae (wpAny_dictEpoch hod hdd ?_)));rw[if_neg (by simp)]
 refine Ao ?_;simp only[show ¬((en.size:Int)<0) by omega,if_false,Int.toNat_natCast,Array.getElem?_eq_none (Nat.le_refl en.size)]
 refine Ae (Ae (Eg tI (Ao ?_)));show wpAny _ _ (setField (.ref jt) 0 .none >>= _) _ _ s
 refine wpAny_bind (wpAny_setField hoi di (by simp) ?_)
 show wpAny _ _ (newExc (Value.type "StopIteration") [] >>= _) _ _ _
 refine Ae ?_;simp only[newTuple,newExc];refine wpAny_bind (wpAny_newObj_type (wpAny_bind (m:=firstArgMember _ _) (wpAny_of_eq (a:=Value.none) (by first|rfl|(simp only[firstArgMember];rfl)) (wpAny_newObj_type ?_ (by size_fits)))) (by size_fits))
 simp only[raiseNew];refine Ae (wpAny_handled (?_:_));rw[show A.in1.handled=none by exact hh]
 refine Ae (Ao (wpAny_throw ?thr));case thr=>
  refine Ae (wpAny_isInstance (b:=true) (T := "StopIteration") ⟨_,Ay _ rfl,rfl⟩ isSubtype_stop ?_);exact Ao (hq _ (((Heap.SameBut.update ..).extBut.push _).push _))
end
def ItT(a:Addr)(o:Obj)(kvs:List (List Key×V)):It:=⟨λi H=>H a=some (.frz o (.dT kvs))/\i<kvs.length,λi H x H'=>H'=H/\∃kv b,kvs[i]?=some kv/\x=.ref b/\H b=some (.tup (kv.1.map kV)),λi H=>H a=some (.frz o (.dT kvs))/\kvs.length=i⟩
def yH{kvs:List (List Key×V)}(I:Inv X pins σ H s)(ha:H a=some (.frz o (.dT kvs)))(hep:∃es,o.data=.dict es ep):kvs.length<=sizeLine/\(a==sysModules)=false/\∃xs es,KT H kvs xs/\s.heap.get? a=some o/\o.data=.dict es ep/\o.ExactDict/\es.toList=xs.map (entryOfKey (tupleKind (bB X.prog X.w))):=by
 have ok:s.heap.get? a=some o/\ObjOk X.prog X.w H s.heap a (.dT kvs):=I.hok a _ ha
 obtain⟨e,z,hd,xs,rel,o',es',ep',ho',hx,hdat,he,_⟩:=ok;rw[e]at ho';cases ho';obtain⟨es,hes⟩:=hep;have q:=hdat
 rw[hes]at q;cases q;exact⟨z,hd,xs,_,rel,e,hdat,hx,he⟩
def aZ1(a it:Addr)(o:Obj)(kvs:List (List Key×V))(ep:Nat)(hep:∃es,o.data=.dict es ep):Turn P w K tg (ItT a o kvs) [it] it (λi h=>h.IsKeyIter it a i kvs.length ep) where
 mem:=by simp
 obj:=λi h st b hb=>by
  obtain⟨o,e,c,d⟩:=st;rw[Ak.mp hb];exact⟨o,e,λv z=>by rw[d]at z;cases z⟩
 keep:=λi h h' st k=>let ⟨o,ho,r⟩:=st;⟨o,k it (by simp) o ho,r⟩
 item:=by
  intro X hP hw hK hc i pins s σ H E I hf st hg;subst hP hw hK;obtain⟨ha,hi⟩:=hg;obtain⟨z,hd,xs,es,rel,ho,hdat,hx,he⟩:=yH I ha hep;have hlv:=rel.length
  have hsz:es.size=xs.length:=by rw[<-Ek,he,Ab]
  obtain⟨f0,f1,f2,f3,f4,f5⟩:=hf it (by simp)
  obtain⟨⟨k,b,v⟩,hxi,hk1,hk2,_⟩:=nE rel (Aa hi);have hie:i<es.size:=by omega
  have hkey:es[i].key=.ref b:=by
   have q:es[i]?=some (entryOfKey (tupleKind (bB X.prog X.w)) (k,b,v)):=by rw[<-Dy,he,Ah,hxi];rfl
   rw[Array.getElem?_eq_getElem hie]at q;rw[Bl q];rfl
  refine cZE (en:=es) (by rw[hsz,<-hlv];exact st) ho hdat hie λh' st' sb=>?_
  rw[hkey];have I1:Inv X pins σ H {s with heap:=h'}:=I.turned (t':=s.toks) (λb o hb e=>(sb.2 b hb).trans e) f0 f1 f3 f4 f5
  obtain⟨oi,e,c,d⟩:=id st';refine⟨.ref b,rfl,wZ (s:={s with heap:=h'}) e c d (by decide) ⟨.ref b,H,I1,rfl,⟨rfl,kvs[i],b,Aa hi,rfl,hk2⟩,?_,λb hb=>(hf b hb).1⟩⟩
  rw[hlv,<-hsz];exact st'
 done:=by
  intro X hP hw hK hc i pins s σ H E I hf st hg;subst hP hw hK;obtain⟨ha,hi⟩:=hg;obtain⟨z,hd,xs,es,rel,ho,hdat,hx,he⟩:=yH I ha hep;have hlv:=rel.length
  have hsz:es.size=xs.length:=by rw[<-Ek,he,Ab]
  obtain⟨f0,f1,f2,f3,f4,f5⟩:=hf it (by simp)
  exact bXV (en:=es) (I.ok.hd hc) (by rw[hsz,<-hlv];rw[<-hi]at st;exact st) ho hdat λh' eb=>⟨rfl,I.turned (t':=s.toks) (λb o hb e=>eb b o hb e) f0 f1 f3 f4 f5⟩
 self:=λ_ _ _ _ _ st h=>wpAny_pyIter_keyiter st h
section
variable {dq:Addr} {en:Array DictEntry} {od:Obj}
def bZE{Q:Q0}(hs:(dq==sysModules)=false)(hod:s.heap.get? dq=some od)(hx:od.ExactDict)(hdd:od.data=.dict en ep)(hq:Q (.ref s.heap.objs.size) {s with heap:=s.heap.push {cls:=.type "dict_keyiterator",data:=.fields #[.ref dq,.int 0 0,.int en.size 0,.int ep 0]}}):wpAny (model prog w) A (pyIter (.ref dq)) Q E s:=by
 have tD:s.TypeIs (.ref dq) "dict" := ⟨od,hod,hx.1⟩
 refine wpAny_pyIter_slot tD F.slot_dict_iter (Fy F.slot_dict_iter tD F.entry_dict_iter ?_ (F.args_dict_iter_1 _));unfold Builtin.«dict.__iter__» ;refine Ae ?_;unfold Builtin.Dict.dictSlotNone ;refine Ae (wpAny_notOrdered_dict tD ?_);show wpAny _ _ (pure (Value.ref dq)) _ _ s
 refine Ao ?_;show wpAny _ _ (Builtin.Dict.showsAll dq >>= _) _ _ s
 unfold Builtin.Dict.showsAll;rw[if_neg (by rw[hs];decide)]
 refine Ae (Ao (Ae (wpAny_dictEntries hod hdd (Ae (wpAny_dictEpoch hod hdd ?_)))));refine Ae (Gp (Ao ⟨_,rfl, "dict_keyiterator",_,⟨_,Ay _ rfl,rfl⟩,F.slot_dict_keyiterator_next.lookup,(?_:_)⟩))
 simpa [rawInt]using hq
end
def bX4{kvs:List (List Key×V)}(I:Inv X pins σ H s)(ha:H a=some (.dT kvs)):∃o es ep,s.heap.get? a=some o/\o.data=.dict es ep:=by
 obtain⟨_,_,xs,_,o,es,ep,ho,_,hd,_⟩:=dX4 I.hok ha;exact⟨o,es,ep,ho,hd⟩
def cX0{kvs:List (List Key×V)}(I:Inv X pins σ H s)(ha:H a=some (.frz o (.dT kvs))):∃ep,∃es,o.data=.dict es ep:=by
 have ok:s.heap.get? a=some o/\ObjOk X.prog X.w H s.heap a (.dT kvs):=I.hok a _ ha
 obtain⟨e,_,_,xs,_,o',es,ep,ho,_,hd,_⟩:=ok;rw[e]at ho;cases ho;exact⟨ep,es,hd⟩
def oP(H:Hp)(a:Addr)(R:Obj->List (List Key×V)->Hp->Prop):Prop:=(∃kvs,H a=some (.dT kvs)/\∀o,R o kvs (upd H a (.frz o (.dT kvs))))\/∃o kvs,H a=some (.frz o (.dT kvs))/\R o kvs H
def cZR{R:Obj->List (List Key×V)->Hp->Prop}(I:Inv X pins σ H s)(h:oP H a R):∃o kvs H' ep,Inv X pins σ H' s/\H' a=some (.frz o (.dT kvs))/\(∃es,o.data=.dict es ep)/\R o kvs H':=by
 rcases h with⟨kvs,ha,q⟩|⟨o,kvs,ha,q⟩
 ·obtain⟨o,es,ep,ho,hd⟩:=bX4 I ha;exact⟨o,kvs,_,ep,I.freeze ha rfl ho,aE,⟨es,hd⟩,q o⟩
 ·obtain⟨ep,es,hd⟩:=cX0 I ha;exact⟨o,kvs,H,ep,I,ha,⟨es,hd⟩,q⟩
def cQE(tl:TE):TI:=λσ H R=>tl σ H (fN λa H1=>oP H1 a λo kvs H2=>R (ItT a o kvs) H2)
def oE(hl:PE X l tl):PI X tg l (cQE tl):=by
 intro pins s σ H R I h;refine thn (hl pins s σ H _ I h) λv s1 ⟨x,H1,I1,r1,q1⟩=>?_;unfold fN at q1;split at q1
 ·cases r1;rename_i a0 _
  obtain⟨o,kvs,H2,ep,I2,ha,hep,q⟩:=cZR I1 q1;obtain⟨z,hd,xs,es,rel,ho,hdat,hx,he⟩:=yH I2 ha hep;have hsz:es.size=kvs.length:=by rw[<-Ek,he,Ab,rel.length]
  refine bZE hd ho hx hdat ?_;refine⟨s1.heap.objs.size,[s1.heap.objs.size],_,_,H2,rfl,I2.kept (t':=s1.toks) λb o e=>Ag _ e,aZ1 a0 _ o kvs ep hep,⟨_,Ay _ rfl,rfl,by rw[hsz];rfl⟩,λb hb=>?_,q⟩
  rw[Ak.mp hb];exact I2.fpOk (Ai _) (I2.hok.fresh (Ai _))
 ·exact q1.elim
def dZH:V->List V->Hp->VK->Prop:=λx vs H Q=>∃a y ov,x=.ref a/\vs=[y]/\DGet H a y ov/\Q (ov.getD .non) H
section
variable {kvs:List (List Key×V)} {k:List Key}
def bJA(Pv:Nat->St->Hp->Prop)(h0:Pv 0 σ H)(hl:∀i σ H,i<=kvs.length->Pv i σ H->H a=some (.frz o (.dT kvs)))(hs:∀i kv b σ H,kvs[i]?=some kv->H b=some (.tup (kv.1.map kV))->Pv i σ H->g (.ref b) σ H λσ2 H2=>tb {D with nx:=Pv (i+1),ct:=Pv (i+1),bk:=D.nx} σ2 H2)(hd:∀σ H,Pv kvs.length σ H->D.nx σ H):yZ (ItT a o kvs) g tb D σ H:=by
 refine⟨λi m σ H=>m=kvs.length-i/\i<=kvs.length/\Pv i σ H,⟨kvs.length,by simp,Nat.zero_le _,h0⟩,?_⟩
 rintro i m σ H ⟨rfl,hi,p⟩;have hr:=hl i σ H hi p
 by_cases hlt:i<kvs.length
 ·refine .inr ⟨⟨hr,hlt⟩,Pv (i+1),λσ' H' p'=>⟨kvs.length-(i+1),by omega,rfl,hlt,p'⟩,λx H' y=>?_⟩
  obtain⟨rfl,kv,b,hx,rfl,hb⟩:=y;exact hs i kv b σ _ hx hb p
 ·have e:i=kvs.length:=by omega
  subst e;exact .inl ⟨⟨hr,rfl⟩,hd σ H p⟩
def bZV(h:tl σ H (fN λa H1=>oP H1 a λo kvs H2=>R (ItT a o kvs) H2)):cQE tl σ H R:=h
def zI{Rw:Obj->List (List Key×V)->Hp->Prop}(e:H a=some (.dT kvs))(h:∀o,Rw o kvs (upd H a (.frz o (.dT kvs)))):oP H a Rw:=.inl ⟨kvs,e,h⟩
def cXK{Rw:Obj->List (List Key×V)->Hp->Prop}(e:H a=some (.frz o (.dT kvs)))(h:Rw o kvs H):oP H a Rw:=.inr ⟨o,kvs,e,h⟩
def cJ1(h:∀p,H p=none->Q (.ref p) (upd H p (.dT []))):bJ4 σ H Q:=h
def aXO(e:Rd H a (.dT kvs))(eb:H b=some (.tup (k.map kV)))(l:cA kvs k=some v)(h:Q v H):dJG (.ref a) (.ref b) H Q:=⟨a,v,rfl,.inr ⟨kvs,k,b,e,rfl,eb,l.symm⟩,h⟩
def yT(e:H a=some (.dT kvs))(eb:H b=some (.tup (k.map kV)))(l:kvs.length<sizeLine)(h:D.nx σ (upd H a (.dT (dL kvs k v)))):cX6 D σ (.ref a) (.ref b) v H:=⟨a,_,rfl,.inr ⟨kvs,k,b,e,rfl,eb,l,rfl⟩,h⟩
def bQW(e:Rd H a (.dT kvs))(eb:H b=some (.tup (k.map kV)))(h:Q ((cA kvs k).getD .non) H):dZH (.ref a) [.ref b] H Q:=⟨a,_,_,rfl,rfl,.inr ⟨kvs,k,b,e,rfl,eb,rfl⟩,h⟩
end
def bXE{Q:Int->Shared->Prop}(h:Q 0xFCA86420 {s with toks:=s.toks+1}):wpAny (model prog w) A (pyHash .none) Q E s:=by
 have tN:s.TypeIs .none "NoneType" := rfl
 unfold pyHash pyHashByItsType;refine Ae ?_;rw[cRoomFor,if_neg (by decide)]
 refine Ao (Ae (wpAny_specialOf tN F.slot_NoneType_hash.lookup ?_));show wpAny _ _ (if (some (Value.builtin "NoneType.__hash__")==some Value.none)=true then _ else _) Q E s
 rw[if_neg (by rw[beq_builtin_none];decide)]
 refine Ae (wpAny_specialOf tN F.slot_NoneType_hash.lookup ?_);show wpAny _ _ (callSpecialIfBoundUnlessNone? .none "__hash__" _ >>= _) Q E s
 refine Ae (wpAny_callSpecialIfBoundUnlessNone?_slot tN F.slot_NoneType_hash (Fy F.slot_NoneType_hash tN F.entry_NoneType_hash (show wpAny _ _ (do ret (<-mkInt 0xFCA86420)) _ _ s from wpAny_ret_mkInt ?_) (F.args_NoneType_hash_1 _)))
 show wpAny _ _ (if (decide (-(2:Int)^63<=0xFCA86420)&&decide ((0xFCA86420:Int)<2^63))=true then _ else _) Q E _
 rw[if_pos (by decide)]
 exact Ao h
def bJF:Option Key->Value->Bool
 |none,.none=>true
 |none,_=>false
 |some k,v=>mP k v
def dC{v:Value}(h:bJF none v=true):v=.none:=by
 cases v<;>first|rfl|(exact absurd h (by decide))|cases h
def mZ{k:Key}{v:Value}(h:mP k v=true):v≠.none:=λz=>by
 rcases bV h with⟨i,t,_,e⟩|⟨x,t,_,e⟩ <;> rw[z]at e<;>cases e
def fQ6(w:World):Option Key->Int
 |none=>0xFCA86420
 |some k=>eJQ w k
def aJ8(prog:Program)(w:World):PySem.KeyKind prog w (Option Key) where
 is:=bJF
 hash:=fQ6 w
 inj:=λv a b ha hb=>by
  cases a with
  |none=>
   cases b with
   |none=>rfl
   |some b=>exact absurd (dC ha) (mZ hb)
  |some a=>
   cases b with
   |none=>exact absurd (dC hb) (mZ ha)
   |some b=>exact Ds some ((bB prog w).inj v a b ha hb)
 byValue:=λk v h=>by
  cases k with
  |none=>rw[dC h];rfl
  |some k=>exact(bB prog w).byValue k v h
 pyHash:=fun {A E s k v Q} hv h=>by
  cases k with
  |none=>rw[dC hv];exact bXE h
  |some k=>exact(bB prog w).pyHash hv h
 eqBool:=fun {A E s a b u v Q} hu hv h=>by
  cases a with
  |none=>
   rw[dC hu];cases b with
   |none=>rw[dC hv];exact SeqAt.EqAt.same _ _ _ _ _ (by simpa using h)
   |some b=>
    have h2:Q false s:=by simpa using h
    rcases bV (show mP b v=true from hv) with⟨j,t,_,rfl⟩|⟨y,t,_,rfl⟩
    ·exact SeqAt.EqAt.none_int _ _ _ _ _ _ h2
    ·exact SeqAt.EqAt.none_str _ _ _ _ _ _ h2
  |some a=>
   cases b with
   |none=>
    rw[dC hv];have h2:Q false s:=by simpa using h
    rcases bV (show mP a u=true from hu) with⟨j,t,_,rfl⟩|⟨y,t,_,rfl⟩
    ·exact SeqAt.EqAt.int_none _ _ _ _ _ _ h2
    ·exact SeqAt.EqAt.str_none _ _ _ _ _ _ h2
   |some b=>
    refine(bB prog w).eqBool hu hv ?_;have e:decide (some a=some b)=decide (a=b):=Dk.mpr ⟨Bl,λz=>by rw[z]⟩
    rw[e]at h;exact h
 «strs» := λk x t v h=>by
  cases k with
  |none=>exact absurd (dC h) (λz=>nomatch z)
  |some k=>exact(bB prog w).strs k x t v h
def eQX{f:Key->Option Value}(hm:h.MapOf (bB prog w) a f):h.MapOf (aJ8 prog w) a (λk=>k.bind f):=by
 obtain⟨o,es,ep,ho,hx,hd,hk,hf⟩:=hm;refine⟨o,es,ep,ho,hx,hd,λe he=>?_,λk=>?_⟩
 ·obtain⟨k,h1,h2⟩:=hk e he;exact⟨some k,h1,h2⟩
 ·cases k with
  |some k=>exact hf k
  |none=>
   show findBy bJF es none=none
   unfold findBy;rw[Option.map_eq_none_iff,Array.find?_eq_none];intro e he z;obtain⟨k,h1,_⟩:=hk e he;exact mZ h1 (dC z)
def cZL:R2:=λx y H Q=>∃a,y=.ref a/\((∃ov,DGet H a x ov/\Q (.bl ov.isSome) H)\/(x=.non/\∃kvs,Rd H a (.dK kvs)/\Q (.bl false) H))
def eQR(hu:X.A.units+1<cLine):OpR X (compareOp .In) cZL:=by
 intro pins s σ H x y v u Q I rx ry h;obtain⟨a,rfl,h⟩:=h;cases ry;rcases h with⟨ov,g,q⟩|⟨rfl,kvs,e,q⟩
 ·exact eJ6 hu I g rx λs3 I3=>⟨.bl ov.isSome,H,I3,rfl,q⟩
 ·cases rx;obtain⟨z,hd,vs,rel,dd⟩:=jT I.hok e;exact wpAny_in_of (knd:=aJ8 X.prog X.w) (k:=none) (key:=Value.none) rfl hd (eQX dd.mapOf) ⟨.bl false,H,I.tok _,rfl,q⟩
def cZP(hu:X.A.units+1<cLine):MtR X "dict.get" dZH:=by
 intro pins s σ H x vs v us Q I rx rv h;obtain⟨a,y,ov,rfl,rfl,g,q⟩:=h;cases rx;obtain⟨u,rfl,ru⟩:=rv.one;exact eQD hu I g ru λw1 s1 I1 r1=>⟨_,H,I1,r1,q⟩
def eXP(e:Rd H a (.dK kvs))(h:Q (.bl false) H):cZL .non (.ref a) H Q:=⟨a,rfl,.inr ⟨rfl,kvs,e,h⟩⟩
def dXF(e:Rd H a (.dK kvs))(h:Q (.bl (cA kvs (Sum.inr z)).isSome) H):cZL (.str z) (.ref a) H Q:=⟨a,rfl,.inl ⟨_,.inl ⟨kvs,.inr z,e,rfl,rfl⟩,h⟩⟩
def eZB:R2:=λx y H Q=>∃(p q:Addr) (a b c d:Int),x=.ref p/\y=.ref q/\H p=some (.tup [.int a,.int b])/\H q=some (.tup [.int c,.int d])/\Q (.bl (decide (a=c/\b=d))) H
def eJY(hu:X.A.units<cLine):OpR X (compareOp .Eq) eZB:=by
 intro pins s σ H x y v u Q I rx ry h;obtain⟨p,q,a,b,c,d,rfl,rfl,hp,hq,k⟩:=h;cases rx;cases ry;obtain⟨its,r1,l1,_⟩:=I.tuple (SqT.of (K:=X.K) hp);obtain⟨its2,r2,l2,_⟩:=I.tuple (SqT.of (K:=X.K) hq);obtain⟨u1,u2,rfl,⟨t1,rfl⟩,⟨t2,rfl⟩⟩:=r1.two;obtain⟨w1,w2,rfl,⟨t3,rfl⟩,⟨t4,rfl⟩⟩:=r2.two;refine SeqAt.eq_tupleAt (e:=λj=>if j=0 then a==c else b==d) (show s.heap.IsTuple p _ from l1) (show s.heap.IsTuple q _ from l2) hu (λj h1 h2=>?_) ?_
 ·match j,h1,h2 with
  |0,_,_=>exact SeqAt.EqAt.int_int a t1 c t3
  |1,_,_=>exact SeqAt.EqAt.int_int b t2 d t4
  |j+2,h1,_=>exact absurd h1 (by show ¬j+2<2;omega)
 ·refine⟨.bl (decide (a=c/\b=d)),H,I,?_,k⟩;show Value.bool _=Value.bool _
  congr 1
  show (((if (0:Nat)=0 then a==c else b==d)&&((if (1:Nat)=0 then a==c else b==d)&&true))&&true)=_
  rw[if_pos rfl,if_neg (by decide),Bool.and_true,Bool.and_true]
  by_cases e1:a=c
  ·by_cases e2:b=d
   ·simp[e1,e2]
   ·simp[e1,e2]
  ·simp[e1]
def eZ3{p:Addr}{a b c d:Int}(hp:H p=some (.tup [.int a,.int b]))(hq:H q=some (.tup [.int c,.int d]))(h:Q (.bl (decide (a=c/\b=d))) H):eZB (.ref p) (.ref q) H Q:=⟨p,q,a,b,c,d,rfl,rfl,hp,hq,h⟩
def CtxNone(h:Heap)(ea:Addr):Prop:=∃o fs,h.get? ea=some o/\o.data=.fields fs/\fs[2]?=some .none
def CtxNone.ext(c:CtxNone h ea)(k:∀o,h.get? ea=some o->h'.get? ea=some o):CtxNone h' ea:=by
 obtain⟨o,fs,h1,h2,h3⟩:=c;exact⟨o,fs,k o h1,h2,h3⟩
def CtxNone.some(c:CtxNone h ea):∃o,h.get? ea=Option.some o:=by
 obtain⟨o,_,e,_⟩:=c;exact⟨o,e⟩
def dZ3:V->List V->Hp->VK->Prop:=λx vs H Q=>∃z y:Str,x=.str z/\vs=[.str y]/\Q (.int (Txt.find z y)) H
def cXY:MtR X "str.find" dZ3:=by
 intro pins s σ H x vs v us Q I rx rv h;obtain⟨z,y,rfl,rfl,q⟩:=h;obtain⟨t,rfl⟩:=rx;obtain⟨u,rfl,ru⟩:=rv.one;obtain⟨t',rfl⟩:=ru;exact SC.find ⟨.int (Txt.find z y),H,I.tok _,⟨_,rfl⟩,q⟩
def cQG{y:Str}(h:Q (.int (Txt.find z y)) H):dZ3 (.str z) [.str y] H Q:=⟨z,y,rfl,rfl,h⟩
def dZR:List V->Hp->VK->Prop:=λxs H Q=>(∃j:Int,xs=[.int j]/\∀r,H r=none->Q (.ref r) (upd H r (.rng 0 j)))\/(∃i j:Int,xs=[.int i,.int j]/\∀r,H r=none->Q (.ref r) (upd H r (.rng i j)))
def Inv.rngNew{hi:Int}{t u v:Tok}{tk:Nat}(I:Inv X pins σ H s):Inv X pins σ (upd H s.heap.objs.size (.rng lo hi)) {s with heap:=s.heap.push {cls:=.type "range",data:=.fields #[.int lo t,.int hi u,.int 1 v]},toks:=tk}:=
 (I.kept (t':=tk) λb o e=>Ag _ e).adopt (I.freAt (Ai _)) (I.hok.fresh (Ai _)) ⟨t,u,v,Ay _ rfl⟩
def dJS:CallR X (.type "range") dZR:=by
 intro pins s σ H xs us Q I r h;rcases h with⟨j,rfl,q⟩|⟨i,j,rfl,q⟩
 ·obtain⟨u,rfl,⟨t,rfl⟩⟩:=dR r;exact call_range_1 ⟨.ref _,_,I.rngNew,rfl,q _ (I.hok.fresh (Ai _))⟩
 ·obtain⟨u,w',rfl,⟨t,rfl⟩,⟨t',rfl⟩⟩:=vW r;exact call_range_2 ⟨.ref _,_,I.rngNew,rfl,q _ (I.hok.fresh (Ai _))⟩
def cJO{j:Int}(h:∀r,H r=none->Q (.ref r) (upd H r (.rng 0 j))):dZR [.int j] H Q:=.inl ⟨j,rfl,h⟩
def bJS:List V->Hp->VK->Prop:=λxs H Q=>∃(a:Addr) (n:Nat),xs=[.ref a]/\H a=some (.rng 0 (n:Int))/\n<=100000/\∀r,H r=none->Q (.ref r) (upd H r (.lst ((List.range n).map λi=>V.int ((i:Nat):Int))))
def dXE(hc:X.calm=true):CallR X (.type "list") bJS:=by
 intro pins s σ H xs us Q I r h;obtain⟨a,n,rfl,ha,hn,q⟩:=h;obtain⟨u,rfl,ru⟩:=dR r;cases ru;obtain⟨t0,t1,t2,ho⟩:=I.hok a _ ha;refine call_list_range (n:=n) (I.ok.hd hc) ho (small_one (by decide) (by decide) (by omega) (by omega)) (by rw[rangeSize_nat];omega) (by omega) λh' tk acc c hk hS hacc=>?_
 refine⟨.ref s.heap.objs.size,_,I.laid (a:=s.heap.objs.size) (o:=.lst ((List.range n).map λi=>V.int ((i:Nat):Int))) (t':=tk) hk (Ai _) ⟨by rw[Ab,Bt];exact bP hn,acc.toList,c,?_,by rw[hS]⟩,rfl,q _ (I.hok.fresh (Ai _))⟩
 refine aJP (by rw[Ab,Bt,Ek,hacc.1]) λj x u hx hu=>?_
 obtain⟨tk',rfl⟩:=hacc.2 j u (by rw[<-Dy];exact hu)
 have hj:j<n:=by
  have:=(Ad.mp hu).1
  rw[Ek,hacc.1]at this;exact this
 rw[Ah,Gc hj]at hx;cases hx;exact⟨tk',by rw[show (0:Int)+((j:Nat):Int)*1=((j:Nat):Int) by omega]⟩
def dQW(ha:H a=some (.rng 0 (n:Int)))(hn:n<=100000)(h:∀r,H r=none->Q (.ref r) (upd H r (.lst ((List.range n).map λi=>V.int ((i:Nat):Int))))):bJS [.ref a] H Q:=⟨a,n,rfl,ha,hn,h⟩
def bZU{ps:List Str}(sp:Nat->Sp)(h0:∀vs H Q E,¬sp 0 vs H Q E)(hm:mg x=some (.ref f))(hk:W.keepIn K (.ref f)=true)(hb:Binds K fd ps [])(st:∀d n,Cal P w K mg base (d+1) x ps (sp n)->FnOk P w K mg base CX0 (d+2) f fd ps (sp (n+1))):∀n,FnOk P w K mg base CX0 (n+1) f fd ps (sp n)
 |0=>⟨λvs H Q E h=>(h0 _ _ _ _ h).elim,λA outer s H args us vs Q E _ _ _ _ h=>(h0 _ _ _ _ h).elim⟩
 |n+1=>st n n ⟨f,fd,bZU sp h0 hm hk hb st n,hm,hk,hb⟩
def Lsts.app{qs:List Addr}{gs:List (List V)}(t:Lsts H1 Hc ps fs)(u:Lsts H1 Hc qs gs):Lsts H1 Hc (ps++qs) (fs++gs):=by
 refine⟨by rw[Af,Af,t.1,u.1],λj p v hp hv=>?_⟩
 by_cases h:j<ps.length
 ·rw[Aq h]at hp;rw[Aq (by rw[<-t.1];exact h)]at hv
  exact t.2 j p v hp hv
 ·rw[Au (by omega)]at hp
  rw[Au (by rw[<-t.1];omega),<-t.1]at hv
  exact u.2 _ p v hp hv
def cJ0(f:Nat->List V)(ha:rdL H1 a=some xs)(hl:xs.length<sizeLine)(hs:∀(i:Nat) x Hc (A:VK) (B:Hp->Prop),xs[i]?=some x->Same H1 Hc->(∀q Hd,Hc q=none->Same Hc Hd->Hd q=some (.lst (f i))->A (.ref q) Hd)->
 g x σ0 Hc λσ2 H2=>Wk σ0 σ2/\tests σ2 H2 λb H3=>if b=true then te σ2 H3 A else B H3)(fin:∀D Hd ps,H1 D=none->Same H1 Hd->Hd D=some (.lst (ps.map V.ref))->ps.length=xs.length->Lsts H1 Hd ps ((List.range xs.length).map f)->(∀p∈ps,p≠D)->Q (.ref D) Hd):eI g tests te σ0 Q (Itl K a) H1:=by
 refine iA (n:=xs.length) (λD i ys Hc=>Same H1 Hc/\∃ps,ys=ps.map V.ref/\ps.length=i/\Lsts H1 Hc ps ((List.range i).map f)/\∀p∈ps,p≠D) hl (λD hD=>⟨aG hD _,[],rfl,rfl,.nil,λp hp=>nomatch hp⟩)
  (λD i ys Hc _ r h=>⟨xs,xs[i],bF (aO r.1 ha),by simp[h]⟩) (λD ys Hc _ r=>⟨xs,bF (aO r.1 ha),Nat.le_refl _⟩) ?_ ?_
 ·rintro D i ys Hc x H' A B hD hi ⟨sm,ps,rfl,hn,ls,nd⟩ hDc ⟨rfl,hz⟩ ha' hb;refine hs i x H' A B (hz xs (bF (aO sm ha))) sm (λq Hd hq sd hd=>?_);have nq:q≠D:=λz=>by rw[z,hDc]at hq;cases hq
  have nd2:∀p∈ps++[q],p≠D:=λp hp=>by
   rcases Bm.mp hp with e|e
   ·exact nd p e
   ·rw[Ak.mp e];exact nq
  refine ha' _ _ (sd _ _ hDc) ⟨bM hD (sm.trans sd),ps++[q],by rw[Ar];rfl,by rw[Af,hn];rfl,?_,nd2⟩
  rw[Bs,Ar];exact((ls.keep sd).snoc (none_of sm hq) hd).put nd2
 ·rintro D ys Hc hD ⟨sm,ps,rfl,hn,ls,nd⟩ hDc _;exact fin D Hc ps hD sm hDc hn ls nd
section
open PySem
open PySem.Spec PyProof.Rows
def Ris(xs:Array Nat):Prop:=∀(i k a b:Nat),i<k->xs[i]?=some a->xs[k]?=some b->a<b
end
def hdl(i:Nat)(ts:TS)(D:Ends)(cls:Value)(d:Option Addr)(σ1:St)(H1:Hp):Prop:=∀ea,H1 ea=none->
 ts {nx:=λσ2 H2=>D.nx (σ2.set i none) H2,rt:=D.rt,bk:=λσ2 H2=>D.bk (σ2.set i none) H2,ct:=λσ2 H2=>D.ct (σ2.set i none) H2} (σ1.set i (some (.ref ea))) (upd H1 ea (gM ea cls d))
section
open PySem.AutoSeq1 (wpAny_loadPart')
section
variable {a b:Expr} {rest:List Expr} {ta tb:TE}
def fQP(ta tb:TE):TE:=λσ H Q=>ta σ H λx H1=>(x=.non/\tb σ H1 Q)\/∃(p:Addr) (xs:List V),x=.ref p/\rdL H1 p=some xs/\(xs≠[]->Q (.ref p) H1)/\(xs=[]->tb σ H1 Q)
def eQ5(ha:PE X a ta)(hb:PE X (.BoolOp .Or (b::rest) pos) tb):PE X (.BoolOp .Or (a::b::rest) pos) (fQP ta tb):=by
 intro pins s σ H Q I h;refine BoolOp_or (thn (ha pins s σ H _ I h) λv s1 ⟨x,H1,I1,r1,q1⟩=>?_);rcases q1 with⟨rfl,q1⟩|⟨p,xs,rfl,hp,q2,q3⟩
 ·refine thn (xV pins s1 σ H1 .non v (λk H'=>k=false/\tb σ H' Q) I1 r1 ⟨false,rfl,rfl,q1⟩) λk s2 ⟨H2,I2,e,q⟩=>?_;subst e;exact hb pins s2 σ H2 Q I2 q
 ·cases xs with
  |nil=>
   refine thn (xV pins s1 σ H1 (.ref p) v (λk H'=>k=false/\tb σ H' Q) I1 r1 ⟨false,.inl ⟨[],bF hp,rfl⟩,rfl,q3 rfl⟩) λk s2 ⟨H2,I2,e,q⟩=>?_;subst e;exact hb pins s2 σ H2 Q I2 q
  |cons y r=>
   refine thn (xV pins s1 σ H1 (.ref p) v (λk H'=>k=true/\Q (.ref p) H') I1 r1 ⟨true,.inl ⟨y::r,bF hp,rfl⟩,rfl,q2 (λz=>nomatch z)⟩) λk s2 ⟨H2,I2,e,q⟩=>?_
   subst e;exact⟨.ref p,H2,I2,r1,q⟩
end
def KV.at{vs:List (Key×Value)}(r:KV kvs vs):∀ {i:Nat} {k:Key} {u:Value},vs[i]?=some (k,u)->∃v,kvs[i]?=some (k,v)/\RelV v u:=by
 unfold KV at r;induction r with
 |nil=>intro i k u h;cases h
 | @cons kv vv _ _ hk t ih=>
  intro i k u h;obtain⟨e,ru⟩:=hk;cases i with
  |zero=>cases h;exact⟨kv.2,by rw[List.getElem?_cons_zero];exact Ds some (Prod.ext e rfl),ru⟩
  |succ i=>exact ih h
end
def Alt(H:Hp):Nat->V->V->Prop
 |0,x,y=>x=y/\cU x=true
 |n+1,x,y=>(x=y/\cU x=true)\/∃p q xs ys,x=.ref p/\y=.ref q/\((rdL H p=some xs/\rdL H q=some ys)\/(H p=some (.tup xs)/\H q=some (.tup ys)))/\xs.length=ys.length/\∀(j:Nat) x' y',xs[j]?=some x'->ys[j]?=some y'->Alt H n x' y'
def Alt.tup{H:Hp}{n:Nat}{p q:Addr}{xs ys:List V}(hp:H p=some (.tup xs))(hq:H q=some (.tup ys))(hl:xs.length=ys.length)(h:∀(j:Nat) x y,xs[j]?=some x->ys[j]?=some y->Alt H n x y):Alt H (n+1) (.ref p) (.ref q):=.inr ⟨p,q,xs,ys,rfl,rfl,.inr ⟨hp,hq⟩,hl,h⟩
def SetIt(h:Heap)(it a:Addr)(slot i n ep:Nat):Prop:=∃o,h.get? it=some o/\o.cls=.type "set_iterator"/\o.data=.fields #[.int slot 0,.int i 0,.ref a,.int n 0,.int ep 0]
structure SetAt (h:Heap) (a:Addr) (es:Array (Int×Value)) (ep:Nat) (t:SetTable):Prop where
 ob:∃o,h.get? a=some o/\o.cls=.type "set"/\o.data=.set es ep t
 fits:t.fits es.size=true
 plain:t.plain=true
 ris:Ris t.place
 sz:t.place.size=es.size
def SetIt.at{slot:Nat}(x:SetIt h it a slot i n ep)(k:∀o,h.get? it=some o->h'.get? it=some o):SetIt h' it a slot i n ep:=by
 obtain⟨o,e,q⟩:=x;exact⟨o,k o e,q⟩
def SetAt.at{es:Array (Int×Value)}{t:SetTable}(x:SetAt h a es ep t)(k:∀o,h.get? a=some o->h'.get? a=some o):SetAt h' a es ep t:=by
 obtain⟨⟨o,e,q⟩,r1,r2,r3,r4⟩:=x;exact⟨⟨o,k o e,q⟩,r1,r2,r3,r4⟩
section
open PySem.W (KasT kas_sort kas_rev kas_asc kas_desc kas_tail3 kas_descPart kas_count kas_place kas_bin)
section
variable {r:Nat->Nat}
structure Ord (r:Nat->Nat) (n:Nat) (p:Array Nat):Prop where
 perm:p.toList.Perm (List.range n)
 inj:∀i j,i<n->j<n->r i=r j->i=j
def Ord.size{p:Array Nat}(h:Ord r n p):p.size=n:=by
 have:=h.perm.length_eq
 simpa using this
def Up(r:Nat->Nat)(p:Array Nat)(k:Nat):Prop:=∀i j,i<j->j<k->r (p.getD i 0)<r (p.getD j 0)
def Dn(r:Nat->Nat)(p:Array Nat)(k:Nat):Prop:=∀i j,i<j->j<k->r (p.getD j 0)<r (p.getD i 0)
def Up.succ{p:Array Nat}{k:Nat}(h:Up r p k)(hk:1<=k)(e:r (p.getD (k-1) 0)<r (p.getD k 0)):Up r p (k+1):=λi j hij hj=>by
 by_cases z:j=k
 ·subst z;by_cases y:i=j-1
  ·subst y;exact e
  ·exact Nat.lt_trans (h i (j-1) (by omega) (by omega)) e
 ·exact h i j hij (by omega)
def Dn.succ{p:Array Nat}{k:Nat}(h:Dn r p k)(hk:1<=k)(e:r (p.getD k 0)<r (p.getD (k-1) 0)):Dn r p (k+1):=λi j hij hj=>by
 by_cases z:j=k
 ·subst z;by_cases y:i=j-1
  ·subst y;exact e
  ·exact Nat.lt_trans e (h i (j-1) (by omega) (by omega))
 ·exact h i j hij (by omega)
end
end
section
open PySem.W (CodeHd tabObj)
structure LamB (mg:Str->Option Value) (base:Heap) (c Pt:Addr):Prop where
 code:CodeHd base c Pt
 bm:∃bm ob,mg "__builtins__"=some (.ref bm)/\bm≠builtinsNs/\base.get? bm=some ob/\ob.cls=.type "module"/\ob.dict=some builtinsNs/\ob.data=.plain
def cQ8(h:Heap)(mg:Str->Option Value)(x:Str)(c:Addr):Prop:=∃f o fd,mg x=some (.ref f)/\h.get? f=some o/\o.data=.func fd/\fd.code=.ref c
def bXZ{mb:Q4}{CX:CXT}{k:Nat}{fa c Pt:Addr}{s₁:Shared}{vs:List Value}(KX:K.In s₁.heap)(hns:s₁.heap.Ns mainGlobals mg)(hb:s₁.heap.Ns builtinsNs mb)(hbb:∀x:Str,x≠"__name__"->mb x=bootBuiltins x)(hlim:s₁.heap.NoLimit)(hg:s₁.gens=#[])(ha:s₁.heap.get? a=some {cls:=.type "list",data:=.seq vs.toArray})(hi:IntsAre vs ns)(hl:ns.length<=sizeLine)(hr:Room k callerA)(hC:CodeHd s₁.heap c Pt)(hP:s₁.heap.get? Pt=some (tabObj #[]))(hbm:∃bm ob,mg "__builtins__"=some (.ref bm)/\bm≠builtinsNs/\s₁.heap.get? bm=some ob/\ob.cls=.type "module"/\ob.dict=some builtinsNs/\ob.data=.plain)(hKP:K.lookup Pt=none)(F:∀base:Heap,K.In base->base.Ns mainGlobals mg->LamB mg base c Pt->FnOk P w K mg base CX k fa fd [x] sp)(hbind:∀(s:Shared) (u:Value),BindsTo s fd ⟨[u],[]⟩ [(x,u)])(hsp:∀H:Hp,H Pt=some (.tbl #[])->SqL K H a (ns.map V.int)->sp [.ref a] H (λv _=>v=.bl true) λ_ _ _=>False)(hCX:∀H e s',CX [] H s₁ (λ_ _ _=>False) e s'->False):codeAny (model P w) callerA (.call (.ref fa) ⟨[.ref a],[]⟩) (λr s'=>r=.ok (.ret (.bool true))/\OldK s₁.heap s'.heap/\s'.os=s₁.os/\AllBare s'.gens) s₁:=by
 have rv:=wG hi
 have lenV:=hi.length
 have naP:a≠Pt:=λz=>by rw[z,hP]at ha;cases ha
 have core:∀ H:Hp,(∀ b,H b=none\/(∃ o xs,H b=some (.frz o (.lst xs)))\/b=Pt)->H Pt=some (.tbl #[])->SqL K H a (ns.map V.int)->HOk P w H s₁.heap->(∀ b,H b≠none->b=a\/b=Pt)->(H a≠none->K.lookup a=none)->
     codeAny (model P w) callerA (.call (.ref fa) ⟨[.ref a],[]⟩) (λr s'=>r=.ok (.ret (.bool true))/\OldK s₁.heap s'.heap/\s'.os=s₁.os/\AllBare s'.gens) s₁:=by
  intro H hO hHP hS hok hA hK;have base_of:∀ {b:Addr} {o:Obj},s₁.heap.get? b=some o->H b=none->(vD s₁.heap H).get? b=some o:=λe n=>cXZ e n
  have noT:∀ {b:Addr} {o:Obj},s₁.heap.get? b=some o->(∀its n,o.data≠.seq its n)->(∀ps,o.cls=.none->o.data≠.fields ps)->H b=none:=fun {b o} e d d2=>by
   cases q:H b with
   |none=>rfl
   |some u=>
    rcases hA b (by rw[q];simp) with e'|e'
    ·subst e';rw[ha]at e;cases e;exact absurd rfl (d _ _)
    ·subst e';rw[hP]at e;cases e;exact absurd rfl (d2 _ rfl)
  have noA:∀ {b:Addr} {o:Obj} {es:Array DictEntry} {ep:Nat},s₁.heap.get? b=some o->o.data=.dict es ep->H b=none:=fun {b o es ep} e d=>noT e (λ_ _ z=>by rw[d]at z;cases z) λ_ _ z=>by rw[d]at z;cases z
  have nsK:∀ {b:Addr} {m:Q4},s₁.heap.Ns b m->(vD s₁.heap H).Ns b m:=fun {b m} ⟨o,es,ep,e,d,r⟩=>⟨o,es,ep,base_of e (noA e d),d,r⟩
  have hKb:K.In (vD s₁.heap H):=λb o e=>base_of (KX b o e) (by
   cases q:H b with
   |none=>rfl
   |some u=>
    rcases hA b (by rw[q];simp) with e'|e'
    ·subst e';rw[hK (by rw[q];simp)]at e;cases e
    ·subst e';rw[hKP]at e;cases e)
  have hM:Mod K mg (vD s₁.heap H):=⟨hKb,nsK hns,⟨mb,nsK hb,hbb⟩,let ⟨mc,h1,h2⟩:=hlim;⟨mc,nsK h1,h2⟩⟩
  have hLB:LamB mg (vD s₁.heap H) c Pt:=by
   refine⟨?_,?_⟩
   ·obtain⟨o,vs,file,tf,flags,tg,inF,text,tt,e,ecl,eda,r⟩:=hC;exact⟨o,vs,file,tf,flags,tg,inF,text,tt,base_of e (noT e (λ_ _ z=>by rw[eda]at z;cases z) λ_ z=>by rw[ecl]at z;cases z),ecl,eda,r⟩
   ·obtain⟨bm,ob,b1,b2,b3,b4,b5,b6⟩:=hbm;exact⟨bm,ob,b1,b2,base_of b3 (noT b3 (λ_ _ z=>by rw[b6]at z;cases z) λ_ z=>by rw[b4]at z;cases z),b4,b5,b6⟩
  have e0:Env0 P w K mg (vD s₁.heap H) callerA [] s₁ H:=⟨rfl,hM,λb o e=>dX0 e,Nat.le_of_eq (bX7 _ _),trivial,λb hb=>absurd (show b∈([]:List Addr) from hb) (by simp),hok,.of_eq hg⟩
  refine Ep ((F _ hKb (nsK hns) hLB).run callerA [] s₁ H ⟨[.ref a],[]⟩ [.ref a] [.ref a] _ _ hr e0 (hbind s₁ (.ref a)) (.cons rfl .nil) (hsp H hHP hS)) λr s' h=>?_;cases r with
  |error e=>exact(hCX H e s' h).elim
  |ok fl=>
   cases fl with
   |next=>exact False.elim h
   |brk=>exact False.elim h
   |cont=>exact False.elim h
   |ret u=>
    obtain⟨v,H',os,bare,un,hok',r',q⟩:=h;have q':v=.bl true:=q
    subst q';obtain rfl:u=Value.bool true:=r';refine⟨rfl,⟨λb o e=>?_,λb o e=>?_⟩,os,bare⟩
    ·cases q:H b with
     |none=>exact .inl (un.keep b o e q (by intro z;exact absurd (show b∈([]:List Addr) from z) (by simp)) (by simp))
     |some u=>
      rcases hO b with z|⟨ob,xs,z⟩|z
      ·rw[q]at z;cases z
      ·have z2:=un.frzs b ob _ z
       obtain⟨e1,_⟩:=hok b _ z;obtain⟨e2,_⟩:=hok' b _ z2;rw[e]at e1;cases e1;exact .inl e2
      ·subst z;rw[hP]at e;cases e;obtain⟨more,z2⟩:=un.tbls b _ hHP;exact .inr (.inl ⟨(hC.tab hP).isCodeTable,rfl,#[],more,rfl,hok' b _ z2⟩)
    ·exact un.there b o e (by simp)
 have tblOk:∀H:Hp,H Pt=some (.tbl #[])->ObjOk P w H s₁.heap Pt (.tbl #[]):=λ_ _=>hP
 cases hk:K.lookup a with
 |some o=>
  have e:=KX a o hk
  rw[ha]at e;cases e;refine core (λb=>if b=Pt then some (.tbl #[]) else none) (λb=>?_) (if_pos rfl) (.inr ⟨_,vs.toArray,_,hk,rfl,rfl,rfl,by rw[List.size_toArray,lenV];exact hl,by simpa using rv⟩) (λb u z=>?_) (λb z=>?_) λz=>?_
  ·by_cases hb:b=Pt
   ·exact .inr (.inr hb)
   ·exact .inl (if_neg hb)
  ·by_cases hb:b=Pt
   ·have z':=(if_pos hb).symm.trans z
    cases z';subst hb;exact hP
   ·have z':=(if_neg hb).symm.trans z
    cases z'
  ·by_cases hb:b=Pt
   ·exact .inr hb
   ·exact absurd (if_neg hb) z
  ·exact absurd (if_neg naP) z
 |none=>
  refine core (λb=>if b=a then some (.frz {cls:=.type "list",data:=.seq vs.toArray} (.lst (ns.map V.int))) else if b=Pt then some (.tbl #[]) else none) (λb=>?_) ((if_neg naP.symm).trans (if_pos rfl)) (.inl (.inr ⟨{cls:=.type "list",data:=.seq vs.toArray},if_pos rfl⟩)) (λb u z=>?_) (λb z=>?_) λ_=>hk
  ·by_cases hb:b=a
   ·exact .inr (.inl ⟨_,_,if_pos hb⟩)
   ·by_cases hb2:b=Pt
    ·exact .inr (.inr hb2)
    ·exact .inl ((if_neg hb).trans (if_neg hb2))
  ·by_cases hb:b=a
   ·have z':=(if_pos hb).symm.trans z
    cases z';subst hb;exact⟨ha,by rw[Ab];exact hl,vs,_,rv,ha⟩
   ·by_cases hb2:b=Pt
    ·have z':=((if_neg hb).trans (if_pos hb2)).symm.trans z
     cases z';subst hb2;exact hP
    ·have z':=((if_neg hb).trans (if_neg hb2)).symm.trans z
     cases z'
  ·by_cases hb:b=a
   ·exact .inl hb
   ·by_cases hb2:b=Pt
    ·exact .inr hb2
    ·exact absurd ((if_neg hb).trans (if_neg hb2)) z
def cZT{l:W.OpenLaw}{n k:Nat}{q:Program}{loose:List Str}{XP:(Q4)->Heap->Prop}{YP:World->Heap->Prop}{d d2:DefRec}{K:Params->W.Frag}{CX:World->CXT}{sp:World->Addr->Sp}(hn:l.most=some n)(hn2:n<=sizeLine)(hdf:d.params.defaults=[])(hr:Room k callerA)(hd2:d2∈recsOf q)(hno:∀w:World,W.noTabs (K w.params)=true)(hY:∀(w:World) (h:Heap),YP w h->(K w.params).In h)(F:∀(w:World) (mg:Q4) (fa:Addr) (h:Heap) (c Pt:Addr),(K w.params).In h->h.Ns mainGlobals mg->mg d.name=some (.ref fa)->cQ8 h mg d2.name c->
 ∃fd:FuncData,(∀(s:Shared) (u:Value),BindsTo s fd ⟨[u],[]⟩ [(x,u)])/\
  ∀base:Heap,(K w.params).In base->base.Ns mainGlobals mg->LamB mg base c Pt->FnOk l.prog w (K w.params) mg base (CX w) k fa fd [x] (sp w Pt))(hsp:∀(w:World) (H:Hp) (a Pt:Addr) (ns:List Int),ns.length<=n->H Pt=some (.tbl #[])->SqL (K w.params) H a (ns.map V.int)->sp w Pt [.ref a] H (λv _=>v=.bl true) λ_ _ _=>False)(hCX:∀(w:World) (H:Hp) (s:Shared) (e:Value) (s':Shared),CX w [] H s (λ_ _ _=>False) e s'->False):W.WalkO q loose XP YP l.row.toRowW d [] (λf vs=>PySem.call f vs):=by
 refine Att.attach_call hn hdf λw s₀ s₁ mg mb fa o pm cd doc a vs ns G Y ho hd hcd hmg hobj hints hlen hg=>?_;have KX:=hY w _ Y
 obtain⟨a2,o2,fd2,c,Pt,t1,t2,t3,t4,t5,t6⟩:=G.T.tab d2 hd2;have hC:=CodeHd.of t5 t6
 have hP:s₁.heap.get? Pt=some (tabObj #[]):=t6.2
 have hKP:(K w.params).lookup Pt=none:=by
  cases e:(K w.params).lookup Pt with
  |none=>rfl
  |some o=>
   have h1:=KX _ _ e
   rw[hP]at h1;cases h1;have h2:=Dt.mp (hno w) (Pt,tabObj #[]) (W.mem_of_lookupK e)
   exact absurd (show false=true from h2) Ap
 obtain⟨fd,hb,hF⟩:=F w mg fa _ c Pt KX G.T.g hmg ⟨a2,o2,fd2,t1,t2,t3,t4⟩;exact bXZ KX G.T.g G.T.b G.T.builtins G.T.nolimit hg hobj hints (Bi hlen hn2) hr hC hP G.T.bmain hKP hF hb (λH hO hS=>hsp w H a Pt ns hlen hO hS) λH e s'=>hCX w H s₁ e s'
end
section
open PySem.W (CodeHd tabObj kla_obj kla_fn envX)
def SameP(Pt:Addr)(H H':Hp):Prop:=∀b o,b≠Pt->H b=some o->H' b=some o
def SameP.trans{Pt:Addr}{H2:Hp}(a:SameP Pt H H1)(b:SameP Pt H1 H2):SameP Pt H H2:=λc o n e=>b c o n (a c o n e)
def Same.p{Pt:Addr}(s:Same H H'):SameP Pt H H':=λb o _ e=>s b o e
end
def uY(CX:CXT)(P:Program)(w:World)(K:W.Frag)(mg:Str->Option Value)(base:Heap)(k:Nat)(C:Addr)(m:Str)(ps:List Str)(sp:Sp):Prop:=
 ∃(f:Addr) (fd:FuncData),FnOk P w K mg base CX k f fd ps sp/\Meth K C m f/\Binds K fd ps []
def eQQ(CX:CXT)(P:Program)(w:World)(K:W.Frag)(mg:Str->Option Value)(base:Heap)(k:Nat)(C:Addr)(ps:List Str)(sp:Sp):Prop:=
 ∃(f:Addr) (fd:FuncData),FnOk P w K mg base CX k f fd ps sp/\Mk K C f/\Binds K fd ps []
section
variable {CX:CXT} {k:Nat} {ps:List Str} {E:XK} {m:Str} {p:Pos} {o:Expr} {ta:TE} {t:TA}
def aXZ(C:Addr)(m:Str)(sp:Sp)(Es:St->XK)(ta:TE)(t:TA):TE:=λσ H Q=>ta σ H λx H1=>∃a dx fs,x=.ref a/\H1 a=some (.ins C dx fs)/\fs.lookup m=none/\
 t σ H1 λvs H2=>sp (x::vs) H2 Q (Es σ)
def dQJ{us:List Value}{vs:List V}(F:FnOk X.prog X.w X.K X.mg X.base CX k f fd ps sp)(hr:Room k X.A)(hb:Binds X.K fd ps [])(hx:vU CX X Es)(I1:Inv X pins σ H s1)(r:Vals vs us)(q:sp vs H Q (Es σ)):wpAny (model X.prog X.w) X.A (call (.ref f) us) (EP X pins σ Q) X.xe s1:=by
 have hl:us.length=ps.length:=by rw[<-r.length];exact F.len _ _ _ _ q
 have hb1:=hb s1 us I1.kIn (by rw[Bd];exact hl)
 rw[Bd]at hb1;refine Er (Ep (F.run X.A X.stack s1 H ⟨us,[]⟩ us vs Q (Es σ) hr I1.env0 hb1 r q) λrs s' hq=>?_);cases rs with
 |error e=>exact hx pins σ H s1 e s' I1 hq
 |ok fl=>
  cases fl with
  |ret u=>exact I1.after hq
  |next=>exact False.elim hq
  |brk=>exact False.elim hq
  |cont=>exact False.elim hq
def cZ0{pl:Sem Bool}(he:PE X o ta)(c:Cls X.K C)(hm:Meth X.K C m f)(F:FnOk X.prog X.w X.K X.mg X.base CX k f fd ps sp)(hr:Room k X.A)(hb:Binds X.K fd ps [])(hx:vU CX X Es)(ha:PA X (e::es) t)(hst:starEach (e::es) X.env=(false,eval e X.env)::starEach es X.env:=by rfl)(hpl:(backTo pos (starEach es X.env)).any (·.1)=false:=by rfl)(ht:eval (.Call (.Attribute o m apos) (e::es) [] pos) X.env=(do
 let ov <-eval o X.env
 standAt apos.atName
 let (f,first) <-holding [ov] (getMethod ov m pl)
 callWith pos f first (backTo pos (starEach (e::es) X.env)) (backToKw pos (keywordEach [] X.env))):=by rfl):PE X (.Call (.Attribute o m apos) (e::es) [] pos) (aXZ C m sp Es ta t):=by
 intro pins s σ H Q I h;refine Fk (pl:=pl) (thn (he pins s σ H _ I h) λu s1 ⟨x,H1,I1,rx,a,dx,fs,ex,ea,l,q⟩=>?_) ht;subst ex;obtain rfl:u=Value.ref a:=rx;refine mU I1 ea c hm l ?_;refine Fd (first:=[.ref a]) (h₀:=X.base) I.ok.mod.kin hm.kp (thn (ha pos pins s1 σ H1 _ I1 q) λus s2 ⟨vs,H2,I2,r,q2⟩=>⟨I2.kIn,?_⟩) hst hpl
 exact dQJ (us:=.ref a::us) (vs:=.ref a::vs) F hr hb hx I2 (.cons rfl r) q2
def iV(c:uY CX0 X.prog X.w X.K X.mg X.base k C m ps sp)(cl:Cls X.K C)(hr:Room k' X.A)(hk:k<=k')(he:PE X o ta)(ht:eval (.Call (.Attribute o m apos) [] [] pos) X.env=(do
 let ov <-eval o X.env
 standAt apos.atName
 let (f,first) <-holding [ov] (getMethod ov m pl)
 callWith pos f first (backTo pos (starEach [] X.env)) (backToKw pos (keywordEach [] X.env))):=by rfl):PE X (.Call (.Attribute o m apos) [] [] pos) (bJE C m sp [] E0 ta xR):=by
 obtain⟨f,fd,F,hm,hb⟩:=c;exact bJ2 (pl:=pl) he cl hm F (hr.mono hk) hb .nil cZG ht
def aJT(c:uY (CXr X.prog X.w) X.prog X.w X.K X.mg X.base k C m ps sp)(cl:Cls X.K C)(hx:vU (CXr X.prog X.w) X Es)(hr:Room k' X.A)(hk:k<=k')(he:PE X o ta)(ha:PA X (e::es) t)(hst:starEach (e::es) X.env=(false,eval e X.env)::starEach es X.env:=by rfl)(hpl:(backTo pos (starEach es X.env)).any (·.1)=false:=by rfl)(ht:eval (.Call (.Attribute o m apos) (e::es) [] pos) X.env=(do
 let ov <-eval o X.env
 standAt apos.atName
 let (f,first) <-holding [ov] (getMethod ov m pl)
 callWith pos f first (backTo pos (starEach (e::es) X.env)) (backToKw pos (keywordEach [] X.env))):=by rfl):PE X (.Call (.Attribute o m apos) (e::es) [] pos) (aXZ C m sp Es ta t):=by
 obtain⟨f,fd,F,hm,hb⟩:=c;exact cZ0 (pl:=pl) he cl hm F (hr.mono hk) hb hx ha hst hpl ht
def eQS(c:eQQ CX0 X.prog X.w X.K X.mg X.base k C ps sp)(hr:Room k' X.A)(hk:k+1<=k')(hg:Gl X x)(hm:X.mg x=some (.ref C))(ha:PA X (e::es) t)(hdb:(x==("__debug__" : Str))=false:=by decide)(he:starEach (e::es) X.env=(false,eval e X.env)::starEach es X.env:=by rfl)(hpl:(backTo pos (starEach es X.env)).any (·.1)=false:=by rfl):PE X (.Call (.Name x p) (e::es) [] pos) (cQA C sp [] E0 t):=by
 obtain⟨f,fd,F,M,hb⟩:=c;exact dQQ M F (hr.mono hk) hg hm hb .nil cZG ha hdb he hpl
def fQB{dvs:List V}(h:ta σ H λx H1=>∃a dx fs,x=.ref a/\H1 a=some (.ins C dx fs)/\fs.lookup m=none/\t σ H1 λvs H2=>sp (x::(vs++dvs)) H2 Q E):bJE C m sp dvs E ta t σ H Q:=h
def eQA(h:ta σ H λx H1=>∃a dx fs,x=.ref a/\H1 a=some (.ins C dx fs)/\fs.lookup m=none/\t σ H1 λvs H2=>sp (x::vs) H2 Q (Es σ)):aXZ C m sp Es ta t σ H Q:=h
def eZU{dvs:List V}(h:t σ H λvs H1=>∀x dx,H1 x=none->H1 dx=none->dx≠x->sp (.ref x::(vs++dvs)) (upd (upd H1 dx (.own x)) x (.ins C dx [])) (λv H2=>v=.non/\Q (.ref x) H2) E):cQA C sp dvs E t σ H Q:=h
def eZT{f:Str}(h:ta σ H λx H1=>∃a C dx fs v,x=.ref a/\H1 a=some (.ins C dx fs)/\Cls K C/\NoAttr K C f/\fs.lookup f=some v/\Q v H1):eJN K ta f σ H Q:=h
def dJD{f:Str}(h:tv σ H λy H1=>ta σ H1 λx H2=>∃a C dx fs,x=.ref a/\H2 a=some (.ins C dx fs)/\Cls K C/\NoAttr K C f/\fs.length<1000/\D.nx σ (upd H2 a (.ins C dx (fP f y fs)))):eZK K ta tv f D σ H:=h
end
def yD(w:World):List DictEntry->List (Str×Int)->Prop
 |[],[]=>True
 |e::es,kn::r=>e.hash=PyData.keyHash w.params kn.1/\(∃t,e.key=.str kn.1 t)/\(∃t,e.val=.int kn.2 t)/\yD w es r
 |_,_=>False
def fQL(w:World)(K:W.Frag)(mg:Str->Option Value)(x:Str)(kvs:List (Str×Int)):Prop:=
 ∃(d:Addr) (es:Array DictEntry) (ep:Nat),mg x=some (.ref d)/\K.lookup d=some ⟨.type "dict",none,.dict es ep,#[]⟩/\(d==sysModules)=false/\yD w es.toList kvs/\(kvs.map (·.1)).Nodup
def sY{P:Program}:∀ {es:List DictEntry} {kvs:List (Str×Int)},yD w es kvs->∃vs:List (Key×Value),Pairs (bB P w) es vs/\vs.map (·.1)=kvs.map (λkn=>(Sum.inr kn.1:Key))/\(∀e∈es,∃k,(bB P w).is k e.key=true/\e.hash=(bB P w).hash k)/\
 ∀z,(match valueAt vs (Sum.inr z:Key) with|some u=>∃n t,kvs.lookup z=some n/\u=.int n t|none=>kvs.lookup z=none)
 |[],[],_=>⟨[],.nil,rfl,(λe he=>nomatch he),λz=>rfl⟩
 |e::es,(k,n)::r,h=>by
  obtain⟨h1,⟨t,h2⟩,⟨t',h3⟩,h4⟩:=h;obtain⟨vs,p,m,ke,va⟩:=sY (P:=P) h4;refine⟨((Sum.inr k:Key),.int n t')::vs,.cons (by rw[h2];exact lO k t) h3 p,by rw[As,m];rfl,λe' he=>?_,λz=>?_⟩
  ·rcases Az.mp he with rfl|q
   ·exact⟨Sum.inr k,by rw[h2];exact lO k t,h1⟩
   ·exact ke e' q
  ·have va':=va z
   unfold valueAt at va' ⊢;rw[List.find?_cons];by_cases ez:k=z
   ·subst ez;rw[Aj rfl];exact⟨n,t',by rw[Di,Fv],rfl⟩
   ·rw[Aw λq=>ez (Sum.inr.inj q)];rw[Di,show (z==k)=false from Cr.mpr λq=>ez q.symm];exact va'
 |[],_::_,h=>h.elim
 |_::_,[],h=>h.elim
def dZ6(kvs:List (Str×Int))(ta:TA):TE:=λσ H Q=>ta σ H λvs H1=>∃z,vs=[.str z]/\Q (match kvs.lookup z with|some n=>.int n|none=>.non) H1
def dQC{kvs:List (Str×Int)}{p:Pos}(hg:Gl X x)(hk:fQL X.w X.K X.mg x kvs)(ha:PA X [e] ta)(hdb:(x==("__debug__" : Str))=false:=by decide)(hbase:attributeBase (.Name x p) "get" X.env (eval (.Name x p) X.env)=eval (.Name x p) X.env:=by rfl)(hfew:((backTo cpos (starEach [e] X.env)).all (λx=>!x.1)&&(backToKw cpos (keywordEach [] X.env)).all (λx=>x.1.isSome)
 && decide (([e]:List Expr).length+([]:List Keyword).length+(if ([]:List Keyword).isEmpty then 0 else 1)<30))=true:=by rfl)(hline:(apos.endLine==cpos.line)=true:=by rfl)(hs:starEach [e] X.env=(false,eval e X.env)::starEach [] X.env:=by rfl)(hplain:(backTo cpos (starEach [] X.env)).any (·.1)=false:=by rfl):PE X (.Call (.Attribute (.Name x p) "get" apos) [e] [] cpos) (dZ6 kvs ta):=by
 intro pins s σ H Q I h;obtain⟨d,es,ep,hm,hl,hd,ok,nd⟩:=hk;obtain⟨vs,pr,m,ke,va⟩:=sY (P:=X.prog) ok;have dd:∀s':Shared,X.K.In s'.heap->s'.heap.DictOf (bB X.prog X.w) d vs:=λs' k=>⟨_,es,ep,k _ _ hl,by first|exact⟨rfl,rfl,rfl⟩|exact⟨rfl,rfl⟩|(constructor<;>rfl),rfl,λe he=>ke e (by simpa using he),pr,by rw[m,show kvs.map (λkn=>(Sum.inr kn.1:Key))=(kvs.map (·.1)).map (λz=>(Sum.inr z:Key)) by rw[List.map_map];rfl];exact List.pairwise_map.mpr (nd.imp λn q=>n (Sum.inr.inj q))⟩
 have ho:PE X (.Name x p) (tC (.ref d)):=rK hg hm rfl hdb
 refine Gm hbase hfew hline rfl (thn (ho pins s σ H (λy H1=>y=.ref d/\H1=H) I ⟨rfl,rfl⟩) λv s1 ⟨x',H1,I1,r1,q⟩=>?_);obtain⟨rfl,rfl⟩:=q;cases r1;have d1:=dd s1 I1.kIn
 refine⟨"dict",_,Gh,Bb,rfl,d1.typeIs,λb q=>?_,?_⟩
 ·cases q;obtain⟨ob,_,_,h1,h2,_⟩:=d1;exact⟨ob,h1,h2.2.1⟩
 have hA:=ha cpos pins s1 σ H1 _ I1 h
 rw[hs]at hA ⊢;refine Fe (by show (false || (backTo cpos (starEach [] X.env)).any (·.1))=false;rw[hplain]<;>rfl) (Ft ?_)
 refine thn hA λus s2 ⟨vs',H2,I2,r2,z,ez,q2⟩=>?_;subst ez;obtain⟨u,rfl,t,rfl⟩:=dR r2;have d2:=dd s2 I2.kIn
 refine Gr Bb d2.typeIs El (Gg _ _) (meets_dict_get (bB X.prog X.w) d (show (bB X.prog X.w).is (Sum.inr z:Key) (Value.str z t)=true from lO z t) hd) ⟨_,d2.mapOf,?_⟩;have va':=va z
 cases e:valueAt vs (Sum.inr z:Key) with
 |none=>
  rw[e]at va';have va2:kvs.lookup z=none:=va'
  rw[va2]at q2;exact⟨.non,H2,I2.tok _,rfl,q2⟩
 |some u=>
  rw[e]at va';obtain⟨n,t',e2,rfl⟩:=va';rw[e2]at q2;exact⟨.int n,H2,I2.tok _,⟨t',rfl⟩,q2⟩
def dJ0{kvs:List (Str×Int)}(h:ta σ H λvs H1=>∃z,vs=[.str z]/\Q (match kvs.lookup z with|some n=>.int n|none=>.non) H1):dZ6 kvs ta σ H Q:=h
def dZO:R2:=λx y H Q=>∃(p q:Addr) (xs:List V),x=.ref p/\y=.ref q/\H p=some (.tup xs)/\H q=some (.tup [])/\Q (.bl xs.isEmpty) H
def dJE(hu:X.A.units<cLine):OpR X (compareOp .Eq) dZO:=by
 intro pins s σ H x y v u Q I rx ry h;obtain⟨p,q,xs,rfl,rfl,hp,hq,k⟩:=h;cases rx;cases ry;obtain⟨its,r1,l1,_⟩:=I.tuple (SqT.of (K:=X.K) hp);obtain⟨its2,r2,l2,_⟩:=I.tuple (SqT.of (K:=X.K) hq);have e1:=r1.length
 cases r2;refine SeqAt.eq_tupleAt (e:=λ_=>true) (show s.heap.IsTuple p _ from l1) (show s.heap.IsTuple q _ from l2) hu (λj h1 h2=>absurd h2 (by simp)) ?_
 refine⟨.bl xs.isEmpty,H,I,?_,k⟩;show Value.bool _=Value.bool _
 congr 1
 cases xs with
 |nil=>
  have:its=[]:=Fa e1.symm
  subst this;rfl
 |cons a r=>
  cases its with
  |nil=>simp at e1
  |cons b t=>simp
def eXG{p:Addr}(hp:H p=some (.tup xs))(hq:H q=some (.tup []))(h:Q (.bl xs.isEmpty) H):dZO (.ref p) (.ref q) H Q:=⟨p,q,xs,rfl,rfl,hp,hq,h⟩
where strOf:Value->Option Str
 |.str z _=>some z
 |_=>none
def dX9:List V->Hp->VK->Prop:=λxs H Q=>∃k,xs=[.bl k]/\Q (.int (if k then 1 else 0)) H
def uD:CallR X (.type "int") dX9:=call_int1.imp λ_ _ _ q=>.inr q
def dJ9{k:Bool}(h:Q (.int (if k then 1 else 0)) H):dX9 [.bl k] H Q:=⟨k,rfl,h⟩
def aP(i:Nat){pos':Pos}(hN:X.N.Nodup)(he:PE X e te)(hi:X.N[i]?=some x:=by rfl)(hx:Loc X.env.scope x:=by first|exact Or.inl rfl|exact Or.inr rfl)(hs:swapsWith e (some (.Name x pos')) pos.line X.env=pure false:=by rfl)(hf:X.fn x=true\/X.env.scope.names.lookup x=some .local:=by first|exact Or.inl rfl|exact Or.inr rfl):PS X (.Assign [.Name x pos'] e pos) (bJ8 te (pC i)):=aX7 hN hi hx he hs hf
def dZ9(K:W.Frag)(C:Addr)(mk:(Value->Option Addr->St->Hp->Prop)->TS)(ts to:TS):TS:=λD σ H=>mk (λcls d σ1 H1=>W.exmOne K cls (.ref C)=some true/\ts D σ1 H1) {D with nx:=to D} σ H
def cJZ{suite els:List Stmt}{b0:Stmt}{hp:Pos}{to:TS}(hstk:X.stack=X.env::X.outer)(hfm:X.env.frame=some X.env.locals)(hex:X.ex=[])(hg:Gl X x)(hm:X.mg x=some (.ref C))(hb:∀pins R,PSs (X.tr pins (XS X pins R)) body (mk R))(hs:∀pins ea,PSs (X.hnd pins ea) (b0::suite) ts)(ho:PSs X els to)(hd:(x==("__debug__" : Str))=false:=by decide):PS X (.Try body [.ExceptHandler (some (.Name x np)) none (b0::suite) hp] els [] pos) (dZ9 X.K C mk ts to):=by
 intro pins s σ H D I h;have hfr:X.A.frames=some (X.env::X.outer):=by rw[<-hstk];exact I.ok.frames
 refine wpAny_Try_except (Ci (hb pins _ [] s σ H {D with nx:=to D} (I.tr _) h) (λf s1 q=>?_) λe s1 q=>?_)
 ·cases f with
  |next=>
   obtain⟨σ',H',I',q⟩:=q.untr;exact ho pins s1 σ' H' D I' q
  |brk=>exact q.untr
  |cont=>exact q.untr
  |ret u=>exact q.untr
 ·obtain⟨ea,cls,d,B,σ1,H1,rfl,F,fre,hn,inv,hx,r⟩:=q;rw[hstk]at F;refine uH hfr hfm F λh2 F2 u2=>fF (s:={s1 with heap:=h2}) F2 λh3 F3 u3=>?_
  have I3:=inv h3 F3.stays (u2.trans u3)
  refine wpAny_handleBy_cons (codeAny_handlers_test (fZ (I3.hnd ea) hg hm ?_ hd)) (by intro q;cases q)
  obtain⟨oe,vs,T,oT,tts,he,hc,_⟩:=id F3.on;refine W.exm_one I3.kIn (hc.1▸(W.Looks.ld he).andThen .now) hx _ _ _ _ (λ_ _ q=>q) ?_;refine codeAny_handlers_suite (fF (s:={s1 with heap:=h3}) F3 λh4 F4 u4=>?_)
  have I4:=inv h4 F4.stays ((u2.trans u3).trans u4)
  exact Ci (hs pins ea [] _ _ _ _ (I4.hnd ea) r) (λf s6 q=>q.unhnd I.ok) λ_ _ z=>z.elim
def eXW{to:TS}(h:mk (λcls d σ1 H1=>W.exmOne K cls (.ref C)=some true/\ts D σ1 H1) {D with nx:=to D} σ H):dZ9 K C mk ts to D σ H:=h
def dZ2:List V->Hp->VK->Prop:=λxs H Q=>∃(a:Addr) (kvs:List (Key×V)),xs=[.ref a]/\Rd H a (.dK kvs)/\kvs.length<=1000/\Q (.int ((kvs.length:Nat):Int)) H
def cQ1:CallR X (.builtin "len") dZ2:=by
 intro pins s σ H xs us Q I r h;obtain⟨a,kvs,rfl,ha,hl,q⟩:=h;obtain⟨u,rfl,ru⟩:=dR r;cases ru;obtain⟨z,hd,vs,rel,dd⟩:=jT I.hok ha;have hlv:=rel.length
 refine call_len_dict hd dd (by omega) ?_
 rw[<-hlv];exact⟨.int ((kvs.length:Nat):Int),H,I.kept (t':=s.toks+1+1) λb o e=>e,⟨_,rfl⟩,q⟩
def bZ3(e:Rd H a (.dK kvs))(l:kvs.length<=1000)(h:Q (.int ((kvs.length:Nat):Int)) H):dZ2 [.ref a] H Q:=⟨a,kvs,rfl,e,l,h⟩
end L2
namespace Mine
open PySem L2
variable {C Z0 Zs Zt Zu Zv Zw Zx Zy Zz aF aL aS b dd dx f hg p r s0 st x:Addr}{E:XK}{F cs cw fs ks os:List Nat}{H H' H1:Hp}{Q:VK}{bk:List (Str×Str)}{bs ds l:List Addr}{cws cws':Q5}{d g i j k:Nat}{fd:FuncData}{h:Option (List Nat)}{hs wv:Q3}{kvs:List (Key×V)}{mg:Q4}{n:Nat->Int}{o:HO}{t:Nat->Option Int}{us xs:List V}{v:V}{zs:List Str}{α β:Type}
local macro_rules | `(tactic| walk_at "rd") => `(tactic| first | assumption | exact bO | exact pQ | exact pH | exact aR (by assumption) | exact bW (by assumption) | (apply aO (aG (by assumption) _); walk_at "rd"))
local macro_rules | `(tactic| walk_at "dd") => `(tactic| first | exact dW (by assumption) | exact aJM (by assumption) | exact dW aE | assumption)
local macro_rules | `(tactic| walk_at "lo") => `(tactic| first | assumption | decide | omega | (simp only [List.length_map,List.length_append,List.length_cons,List.length_nil,Str.length_append]; omega))
local macro_rules | `(tactic| walk_at "ln") => `(tactic| first | assumption | decide | exact bP (by walk_at "lo") | exact bK (by walk_at "lo"))
local macro_rules | `(tactic| walk_at "ar") => `(tactic| first | assumption | decide | omega | exact ⟨by omega,by omega⟩ | exact Or.inl ⟨by omega,by omega⟩ | exact Or.inr ⟨by omega,by omega⟩ | (dsimp only; done) | (dsimp only; omega))
local macro_rules | `(tactic| walk_at "s") => `(tactic| first
 | (with_reducible first | refine mG ?_ | refine eXH ?_ | refine fQ4 ?_ | refine eJM ?_ | refine eQN ?_ | refine eJC ?_ | refine eZ8 ?_ | refine yF ?_ | refine dJP ?_)
 | ((with_reducible refine' eJT ?sv ?_); (case sv => exact rfl))
 | (with_reducible first | refine s_c ?_ | refine fQV ?_ | refine fQQ ?_ | refine eZ0 ?_ | refine dJK ?_ | refine eQM ?_ | refine fQR ?_ | refine fQ7 ?_ | refine bZT ?_ | refine eQG ?_ | refine eQ7 ?_ | refine eJW ?_)
 | ((with_reducible refine' eJ2 ?se ?_); (case se => walk_at "rd"))
 | (with_reducible first | refine dJH ?_ | refine dXM ?_ | refine fQ5 ?_ | refine eQ1 ?_ | refine eJ7 ?_ | refine fQ2 ?_ | refine eZQ ?_ | refine eX2 ?_ | refine fQF ?_ | refine fQW ?_)
 | ((with_reducible refine fQK ?sc ?_); (case sc => walk_at "ar"))
 | with_reducible refine eXX ?_
 | ((with_reducible refine eXD ?sc ?_); (case sc => walk_at "ln"))
 | (with_reducible first | refine fQN ?_ | refine eJH ?_ | refine eJR ?_ | refine eJ4 ?_ | refine eX8 ?_ | refine eZJ ?_ | refine dJF ?_ | refine eZO ?_)
 | ((with_reducible refine' eZF ?sc ?_); (case sc => walk_at "rd"))
 | ((with_reducible refine dJ3 ?sc ?_); (case sc => walk_at "ln"))
 | ((with_reducible refine' eX3 ?sc ?_); (case sc => walk_at "rd"))
 | with_reducible refine eZD ?_
 | ((with_reducible refine' eXE ?sc ?_); (case sc => walk_at "rd"))
 | ((with_reducible refine' eZC ?se ?se2 ?_); (case se => first | exact rfl | exact bQF (by assumption) | exact cQQ (by assumption) | exact tyN_tup (by assumption) | exact bQF aE | exact cQQ aE); (case se2 => first | exact (show bQ9 _ _ = some true from rfl) | exact (show bQ9 _ _ = some false from rfl) | exact rfl))
 | (with_reducible first | refine eQJ ?_ | refine dQP ?_ | refine cJE ?_ | refine dXP ?_ | refine dQ0 ?_ | refine dXO ?_ | refine eXB ?_ | refine eQ6 ?_ | refine cXW ?_)
 | ((with_reducible refine' eZV ?se ?_); (case se => walk_at "rd"))
 | ((with_reducible refine' eZH ?se ?sl ?_); (case se => walk_at "rd"); (case sl => walk_at "ln"))
 | ((with_reducible refine' dZL ?se ?sf ?sl ?_); (case se => walk_at "rd"); (case sf => walk_at "rd"); (case sl => walk_at "ln"))
 | ((with_reducible refine s_str ?sc ?_); (case sc => walk_at "ar"))
 | (with_reducible first | refine dQR ?_ | refine cQS ?_ | refine eQL ?_ | refine dJ6 ?_ | refine eXY ?_ | refine cJM ?_ | refine eQT ?_ | refine dJL ?_)
 | ((with_reducible refine' eX1 ?se ?sn ?_); (case se => walk_at "rd"); (case sn => exact rfl))
 | (with_reducible first | refine fQH ?_ | refine eZX ?_ | refine cJK ?_ | refine dQA ?_ | refine eZG ?_ | refine eXW ?_ | refine dQ6 ?_)
 | ((with_reducible refine fQM ?sd ?_); (case sd => walk_at "dd"))
 | (with_reducible first | refine eQ8 ?_ | refine fQJ ?_ | refine dJ4 ?_ | refine bJD ?_ | refine cJ6 ?_ | refine bZV ?_ | refine cJ1 ?_ | refine dJZ ?_ | refine eZ2 ?_)
 | ((with_reducible refine' eXF ?se ?sn ?_); (case se => walk_at "rd"); (case sn => exact rfl))
 | (with_reducible first | refine dQL ?_ | refine eQU ?_ | refine eQ2 ?_ | refine cQ0 ?_ | refine eJK ?_ | refine bJU ?_ | refine dQU ?_ | refine dXV ?_ | refine eQF ?_ | refine eJS ?_ | refine dJD ?_ | refine eZT ?_ | refine fQB ?_ | refine eQA ?_ | refine eZU ?_ | refine dJ0 ?_ | refine dJ9 ?_ | refine fQU ?_ | refine fQS ?_ | refine fQD ?_ | refine fQI ?_)
 | dsimp only)
local macro_rules | `(tactic| walk_at "go") => `(tactic| repeat' (walk_at "s"))
local macro_rules | `(tactic| walk_at "sc") => `(tactic| exact ⟨rfl,rfl,rfl,by decide +kernel,rfl,by decide +kernel,by decide +kernel⟩)
local macro_rules | `(tactic| walk_at "o") => `(tactic| first | exact Or.inl rfl | exact Or.inr rfl)
local macro_rules | `(tactic| walk_at "gs") => `(tactic| repeat' ((fail_if_success (with_reducible refine mG ?_)); (walk_at "s")))
def top(i:Nat):Stmt:=PySem.Challenge.pw_flaglocker_k54_lose_and_find.main.body.getD i (.Pass ⟨0,0,0,0⟩)
abbrev qJ:Stmt:=top 82
abbrev tE:Stmt:=top 83
abbrev tH:Stmt:=top 86
abbrev gY:Stmt:=top 85
abbrev pL:Stmt:=top 87
abbrev kN:Stmt:=top 81
abbrev gH:Stmt:=top 46
abbrev iQ:Stmt:=uB (top 79) 0
abbrev pP:Stmt:=top 89
abbrev oI:Stmt:=top 77
abbrev eM:Stmt:=top 70
abbrev tM:Stmt:=top 48
abbrev dO:Stmt:=top 60
abbrev qF:Stmt:=top 64
abbrev kW:Stmt:=uB (top 19) 0
abbrev fJ:Stmt:=top 62
abbrev jH:Stmt:=top 51
abbrev fW:Stmt:=top 50
abbrev iX:Stmt:=top 54
abbrev kS:Stmt:=top 52
abbrev fV:Stmt:=top 55
abbrev jC:Stmt:=top 56
abbrev eJ:Stmt:=top 57
abbrev pV:Stmt:=top 58
abbrev mT:Stmt:=top 63
abbrev qK:Stmt:=top 7
abbrev kZ:Stmt:=top 41
abbrev mR:Stmt:=top 42
abbrev pZ:Stmt:=top 43
abbrev gA:Stmt:=top 65
abbrev jZ:Stmt:=top 66
abbrev jB:Stmt:=uB (top 18) 0
abbrev yQ:Stmt:=top 47
abbrev tP:Stmt:=top 67
abbrev pF:Stmt:=top 8
abbrev qN:Stmt:=top 6
abbrev jI:Stmt:=top 10
abbrev iT:Stmt:=top 11
abbrev iG:Stmt:=uB (top 22) 0
abbrev iD:Stmt:=top 73
abbrev kU:Stmt:=top 74
abbrev fT:Stmt:=top 71
abbrev hV:Stmt:=top 75
abbrev gK:Stmt:=top 72
abbrev hU:Stmt:=top 76
abbrev iI:Stmt:=top 78
abbrev nM:Stmt:=uB (top 79) 1
abbrev tZ:Stmt:=top 93
abbrev gJ:Stmt:=uB (top 79) 3
abbrev zJ:Stmt:=top 91
abbrev fE:Stmt:=uB (top 79) 2
abbrev lF:Stmt:=top 90
abbrev kA:Stmt:=top 84
abbrev lV:Stmt:=top 88
abbrev uE:Stmt:=top 92
abbrev tR:Stmt:=top 94
structure KFs (K:W.Frag) (Zs Zz Zt Zx Z0 Zv Zy Zw Zu:Addr):Prop where
 m_Lack:W.exmOne K (.ref Zs) (.ref Zs)=some true
 m_Short:W.exmOne K (.ref Zt) (.ref Zt)=some true
 m_Short_TE:W.exmOne K (.ref Zt) (.ref Zz)=some true
 m_NoFlag_TE:W.exmOne K (.ref Zu) (.ref Zz)=some true
 x_NoHoist:W.excIn K Zx [.type "ValueError",.type "Exception",.type "BaseException",.type "object"] "ValueError.__new__"=true
 x_NoDeed:W.excIn K Zv [.type "ValueError",.type "Exception",.type "BaseException",.type "object"] "ValueError.__new__"=true
 x_NoHalyard:W.excIn K Zy [.type "ValueError",.type "Exception",.type "BaseException",.type "object"] "ValueError.__new__"=true
 x_NoFlag:W.excIn K Zu [.type "ValueError",.type "Exception",.type "BaseException",.type "object"] "ValueError.__new__"=true
 nf1:W.hasDictIn K Zu=true
 nf2:W.findIn K (.ref Zu) "__getattribute__"=some (some (.builtin "BaseException.__getattribute__"))
 nf3:W.findIn K (.ref Zu) "__getattr__"=some none
 nf4:W.findIn K (.ref Zu) "__class__"=some (some (.builtin "object.__class__"))
 nf7:W.mroIn K Zu (.type "object")=some true
 nf8:W.subIn K (.ref Zu) (.type "BaseException")=some true
 kF1:W.kitOne K (.ref Zu) (.type "ValueError")=some true
 kF2:W.kitOne K (.ref Zu) (.ref Zt)=some false
 kF3:W.kitOne K (.ref Zu) (.ref Zu)=some true
 kS1:W.kitOne K (.ref Zt) (.type "ValueError")=some true
 kS2:W.kitOne K (.ref Zt) (.ref Zt)=some true
 kS3:W.kitOne K (.ref Zt) (.ref Zu)=some false
 t1_TowerError:W.specialIn K (.ref Zz) "__getattribute__"=some (some (.builtin "type.__getattribute__"))
 t2_TowerError:W.readsIn K Zz (.type "type")=true
 t3_TowerError:W.findCls K (.ref Zz) (.type "type") "__init__"=some (.val (.builtin "ValueError.__init__"))
 xo_Lack:zX K Zs [.type "ValueError",.type "Exception",.type "BaseException",.type "object"] "ValueError.__new__"=true
 xk_Lack:W.keepIn K (.ref Zs)=true
 xe1_Lack:W.hasDictIn K Zs=true
 xe2_Lack:W.findIn K (.ref Zs) "__getattribute__"=some (some (.builtin "BaseException.__getattribute__"))
 xe3_Lack:W.findIn K (.ref Zs) "__getattr__"=some none
 xe4_Lack:W.findIn K (.ref Zs) "__class__"=some (some (.builtin "object.__class__"))
 xe5_Lack:W.specialIn K (.builtin "object.__class__") "__get__"=some (some (.builtin "getset_descriptor.__get__"))
 xe6_Lack:W.takesIn K (.builtin "object.__class__")=some true
 xe7_Lack:W.mroIn K Zs (.type "object")=some true
 xe8_Lack:W.subIn K (.ref Zs) (.type "BaseException")=some true
 xs_Lack:W.findIn K (.ref Zs) "__setattr__"=some (some (.builtin "object.__setattr__"))
 xr_Lack:dXR K Zs Zz=true
 xv_Lack:W.subIn K (.ref Zs) (.type "ValueError")=some true
 xn_Lack_wants:W.findIn K (.ref Zs) "wants"=some none
 xn_Lack_flags:W.findIn K (.ref Zs) "flags"=some none
 xo_Short:zX K Zt [.type "ValueError",.type "Exception",.type "BaseException",.type "object"] "ValueError.__new__"=true
 xk_Short:W.keepIn K (.ref Zt)=true
 xe1_Short:W.hasDictIn K Zt=true
 xe2_Short:W.findIn K (.ref Zt) "__getattribute__"=some (some (.builtin "BaseException.__getattribute__"))
 xe3_Short:W.findIn K (.ref Zt) "__getattr__"=some none
 xe4_Short:W.findIn K (.ref Zt) "__class__"=some (some (.builtin "object.__class__"))
 xe5_Short:W.specialIn K (.builtin "object.__class__") "__get__"=some (some (.builtin "getset_descriptor.__get__"))
 xe6_Short:W.takesIn K (.builtin "object.__class__")=some true
 xe7_Short:W.mroIn K Zt (.type "object")=some true
 xe8_Short:W.subIn K (.ref Zt) (.type "BaseException")=some true
 xs_Short:W.findIn K (.ref Zt) "__setattr__"=some (some (.builtin "object.__setattr__"))
 xr_Short:dXR K Zt Zz=true
 xv_Short:W.subIn K (.ref Zt) (.type "ValueError")=some true
 xn_Short_flag:W.findIn K (.ref Zt) "flag"=some none
 xo_NoWord:zX K Zw [.type "ValueError",.type "Exception",.type "BaseException",.type "object"] "ValueError.__new__"=true
 xk_NoWord:W.keepIn K (.ref Zw)=true
 xe1_NoWord:W.hasDictIn K Zw=true
 xe2_NoWord:W.findIn K (.ref Zw) "__getattribute__"=some (some (.builtin "BaseException.__getattribute__"))
 xe3_NoWord:W.findIn K (.ref Zw) "__getattr__"=some none
 xe4_NoWord:W.findIn K (.ref Zw) "__class__"=some (some (.builtin "object.__class__"))
 xe5_NoWord:W.specialIn K (.builtin "object.__class__") "__get__"=some (some (.builtin "getset_descriptor.__get__"))
 xe6_NoWord:W.takesIn K (.builtin "object.__class__")=some true
 xe7_NoWord:W.mroIn K Zw (.type "object")=some true
 xe8_NoWord:W.subIn K (.ref Zw) (.type "BaseException")=some true
 xs_NoWord:W.findIn K (.ref Zw) "__setattr__"=some (some (.builtin "object.__setattr__"))
 xr_NoWord:dXR K Zw Zz=true
 xv_NoWord:W.subIn K (.ref Zw) (.type "ValueError")=some true
 xn_NoWord_at:W.findIn K (.ref Zw) "at"=some none
 cl1_Tower:W.plainGet K Z0 Str.empty=true
 cl2_Tower:W.hasDictIn K Z0=true
 cl3_Tower:W.plainOver K Z0=true
 cl4_Tower:W.findIn K (.ref Z0) "__setattr__"=some (some (.builtin "object.__setattr__"))
 mk1_Tower:W.makesIn K Z0=true
 mk2_Tower:W.keepIn K (.ref Z0)=true
 na_Tower_book:W.findIn K (.ref Z0) "book"=some none
 na_Tower_many:W.findIn K (.ref Z0) "many"=some none
 na_Tower_stock_at_first:W.findIn K (.ref Z0) "stock_at_first"=some none
 na_Tower_stock:W.findIn K (.ref Z0) "stock"=some none
 na_Tower_hung:W.findIn K (.ref Z0) "hung"=some none
 na_Tower_deeds:W.findIn K (.ref Z0) "deeds"=some none
structure Gs (K:W.Frag) (mg:Str->Option Value) (w:World) (Zs Zz Zt Zx Z0 Zv Zy Zw Zu:Addr):Prop extends KFs K Zs Zz Zt Zx Z0 Zv Zy Zw Zu where
 c_Lack:mg "Lack"=some (.ref Zs)
 c_TowerError:mg "TowerError"=some (.ref Zz)
 c_Short:mg "Short"=some (.ref Zt)
 c_NoHoist:mg "NoHoist"=some (.ref Zx)
 c_Tower:mg "Tower"=some (.ref Z0)
 c_NoDeed:mg "NoDeed"=some (.ref Zv)
 c_NoHalyard:mg "NoHalyard"=some (.ref Zy)
 c_NoWord:mg "NoWord"=some (.ref Zw)
 c_NoFlag:mg "NoFlag"=some (.ref Zu)
 d_THINGS_IN:fQL w K mg "THINGS_IN" [("haul",3),("lower",2),("lose",2),("find",2),("say",2)]
 b_range:mg "range"=none
 b_enumerate:mg "enumerate"=none
 b_sum:mg "sum"=none
 b_len:mg "len"=none
 b_list:mg "list"=none
 b_int:mg "int"=none
 b_all:mg "all"=none
 b_zip:mg "zip"=none
 b_isinstance:mg "isinstance"=none
 b_ValueError:mg "ValueError"=none
 b_min:mg "min"=none
 b_str:mg "str"=none
 b_dict:mg "dict"=none
 b_bool:mg "bool"=none
 b_sorted:mg "sorted"=none
 s_FLAGS:∃t,mg "FLAGS"=some (.str "abcdefghijklmnopqrstuvw1234" t)
 s_SUBSTITUTES:∃t,mg "SUBSTITUTES"=some (.str "1234" t)
 s_MOST_PLACES:∃t,mg "MOST_PLACES"=some (.int 7 t)
 s_LETTERS:∃t,mg "LETTERS"=some (.str "abcdefghijklmnopqrstuvw" t)
 s_MOST_OF_A_FLAG:∃t,mg "MOST_OF_A_FLAG"=some (.int 99 t)
def Gs.xx_Lack{K:W.Frag}{w:World}(G:Gs K mg w Zs Zz Zt Zx Z0 Zv Zy Zw Zu):ExK K Zs:=⟨G.xe1_Lack,G.xe2_Lack,G.xe3_Lack,G.xe4_Lack,G.xe5_Lack,G.xe6_Lack,G.xe7_Lack,G.xe8_Lack⟩
def Gs.xc_Lack{K:W.Frag}{w:World}(G:Gs K mg w Zs Zz Zt Zx Z0 Zv Zy Zw Zu):XcK K Zs Zz:=⟨G.xx_Lack,G.xs_Lack,yC G.xr_Lack,G.xv_Lack⟩
def Gs.xm_Lack{K:W.Frag}{w:World}(G:Gs K mg w Zs Zz Zt Zx Z0 Zv Zy Zw Zu):XmK K Zs:=⟨G.xo_Lack,G.xk_Lack⟩
def Gs.xx_Short{K:W.Frag}{w:World}(G:Gs K mg w Zs Zz Zt Zx Z0 Zv Zy Zw Zu):ExK K Zt:=⟨G.xe1_Short,G.xe2_Short,G.xe3_Short,G.xe4_Short,G.xe5_Short,G.xe6_Short,G.xe7_Short,G.xe8_Short⟩
def Gs.xc_Short{K:W.Frag}{w:World}(G:Gs K mg w Zs Zz Zt Zx Z0 Zv Zy Zw Zu):XcK K Zt Zz:=⟨G.xx_Short,G.xs_Short,yC G.xr_Short,G.xv_Short⟩
def Gs.xm_Short{K:W.Frag}{w:World}(G:Gs K mg w Zs Zz Zt Zx Z0 Zv Zy Zw Zu):XmK K Zt:=⟨G.xo_Short,G.xk_Short⟩
def Gs.xx_NoWord{K:W.Frag}{w:World}(G:Gs K mg w Zs Zz Zt Zx Z0 Zv Zy Zw Zu):ExK K Zw:=⟨G.xe1_NoWord,G.xe2_NoWord,G.xe3_NoWord,G.xe4_NoWord,G.xe5_NoWord,G.xe6_NoWord,G.xe7_NoWord,G.xe8_NoWord⟩
def Gs.xc_NoWord{K:W.Frag}{w:World}(G:Gs K mg w Zs Zz Zt Zx Z0 Zv Zy Zw Zu):XcK K Zw Zz:=⟨G.xx_NoWord,G.xs_NoWord,yC G.xr_NoWord,G.xv_NoWord⟩
def Gs.xm_NoWord{K:W.Frag}{w:World}(G:Gs K mg w Zs Zz Zt Zx Z0 Zv Zy Zw Zu):XmK K Zw:=⟨G.xo_NoWord,G.xk_NoWord⟩
def Gs.cl_Tower{K:W.Frag}{w:World}(G:Gs K mg w Zs Zz Zt Zx Z0 Zv Zy Zw Zu):Cls K Z0:=⟨G.cl1_Tower,G.cl2_Tower,G.cl3_Tower,G.cl4_Tower⟩
abbrev lettersT:Str := "abcdefghijklmnopqrstuvw"
abbrev subsT:Str := "1234"
abbrev flagsT:Str := "abcdefghijklmnopqrstuvw1234"
abbrev one(c:Nat):Str:=⟨#[c]⟩
def aXV:subsT.cps.toList=[49,50,51,52]:=by decide
def aQ8:flagsT.cps.toList=lettersT.cps.toList++subsT.cps.toList:=by decide
def aX(c:Nat):Prop:=97<=c/\c<=119
def eO(c:Nat):Prop:=49<=c/\c<=52
instance (c:Nat):Decidable (aX c):=inferInstanceAs (Decidable (_/\_))
instance (c:Nat):Decidable (eO c):=inferInstanceAs (Decidable (_/\_))
def mem_letters{c:Nat}:c∈lettersT.cps.toList ↔ aX c:=by
 have h1:∀c∈lettersT.cps.toList,aX c:=by decide +kernel
 have h2:∀k:_root_.Fin 23,97+k.val∈lettersT.cps.toList:=by decide +kernel
 refine⟨h1 c,λh=>?_⟩;have e:=h2 ⟨c-97,by have:=h.1;have:=h.2;omega⟩
 rwa [show 97+(c-97)=c by have:=h.1;omega]at e
def mem_subs{c:Nat}:c∈subsT.cps.toList ↔ eO c:=by
 have h1:∀c∈subsT.cps.toList,eO c:=by decide +kernel
 have h2:∀k:_root_.Fin 4,49+k.val∈subsT.cps.toList:=by decide +kernel
 refine⟨h1 c,λh=>?_⟩;have e:=h2 ⟨c-49,by have:=h.1;have:=h.2;omega⟩
 rwa [show 49+(c-49)=c by have:=h.1;omega]at e
def vX{c:Nat}:c∈flagsT.cps.toList ↔ aX c\/eO c:=by
 rw[aQ8,Bm,mem_letters,mem_subs]
def gQ{c:Nat}(h:aX c):¬eO c:=λz=>by unfold aX at h;unfold eO at z;omega
def rV(c:Nat):subIn (one c) subsT=decide (eO c):=by
 rw[pR];exact Dk.mpr mem_subs
def fD(z:Str):z.cps.toList.length=z.length:=by simp[Str.length]
def sV{z:Str}(h:z.length=1):∃c,z=one c:=by
 obtain⟨⟨l⟩⟩:=z
 match l,h with
 |[c],_=>exact⟨c,rfl⟩
def cD(z:Str):Bool:=if z.length=1 then subIn z flagsT else false
def kK{z:Str}(h:z.length≠1):cD z=false:=if_neg h
def eE{c:Nat}:cD (one c)=decide (aX c\/eO c):=by
 unfold cD;rw[if_pos (by rfl),pR]
 exact Dk.mpr vX
def lP{z:Str}(h:cD z=true):∃c,z=one c/\(aX c\/eO c):=by
 by_cases h1:z.length=1
 ·obtain⟨c,rfl⟩:=sV h1;rw[eE]at h;exact⟨c,rfl,Ba h⟩
 ·rw[kK h1]at h;cases h
def kJ(c:Nat)(p:Int):Prop:=aX c\/(eO c/\(c:Int)-48<p)
instance (c:Nat) (p:Int):Decidable (kJ c p):=inferInstanceAs (Decidable (_\/_))
def dH(z:Str)(p:Int):Bool:=if z.length=1 then decide (kJ (z.cps.toList.headD 0) p) else false
def nV{c:Nat}{p:Int}:dH (one c) p=decide (kJ c p):=rfl
def uW{z:Str}{p:Int}(h:dH z p=true):∃c,z=one c/\kJ c p:=by
 by_cases h1:z.length=1
 ·obtain⟨c,rfl⟩:=sV h1;exact⟨c,rfl,Ba h⟩
 ·unfold dH at h;rw[if_neg h1]at h;cases h
def cT(zs:List Str):Bool:=if zs.length<1\/7<zs.length then false else (List.range zs.length).all λi=>dH (zs.getD i ⟨#[]⟩) ((1+i:Nat):Int)
def gG(h:cT zs=true):1<=zs.length/\zs.length<=7:=by
 unfold cT at h;split at h
 ·cases h
 ·omega
def cXF(h:cT zs=true)(hi:i<zs.length):dH (zs.getD i ⟨#[]⟩) ((1+i:Nat):Int)=true:=by
 unfold cT at h;split at h
 ·cases h
 ·exact Dt.mp h i (Bw.mpr hi)
def stp(w:List Nat)(c:Nat):Nat:=if eO c then w.getD (c-49) 0 else c
def rdC(fs:List Nat):List Nat:=fs.foldl (λw c=>w++[stp w c]) []
def bZ6(fs:List Nat)(c:Nat):rdC (fs++[c])=rdC fs++[stp (rdC fs) c]:=by
 unfold rdC;rw[List.foldl_append];rfl
def nU{c:Nat}(h:fs[i]?=some c):rdC (fs.take (i+1))=rdC (fs.take i)++[stp (rdC (fs.take i)) c]:=by
 rw[Bc,h];exact bZ6 _ _
def yO:∀fs:List Nat,(rdC fs).length=fs.length:=by
 intro fs;have h:∀i,i<=fs.length->(rdC (fs.take i)).length=i:=by
  intro i;induction i with
  |zero=>intro _;rfl
  |succ i ih=>
   intro hi;rw[nU (Aa (by omega)),Af,ih (by omega)]
   rfl
 have q:=h fs.length (Ai _)
 rwa [Br]at q
def oY(h:i<=fs.length):(rdC (fs.take i)).length=i:=by
 rw[yO,Bx];omega
def bA(cs:List Nat):Str:=⟨cs.toArray⟩
def cP(cs:List Nat):(bA cs).length=cs.length:=by show cs.toArray.size=_;simp
def gF(cs:List Nat):(bA cs).cps.toList=cs:=rfl
def lT(cs:List Nat)(c:Nat):bA cs++one c=bA (cs++[c]):=FlT.str_ext (by rw[FlT.app_cps];rfl)
def lC(z:Str):Nat:=z.cps.toList.headD 0
def bXW(cs:List Nat):(cs.map one).map lC=cs:=by
 rw[Cg];exact List.map_id cs
def nS(h:cT zs=true){i:Nat}{z:Str}(hz:zs[i]?=some z):∃c,z=one c/\(zs.map lC)[i]?=some c/\(aX c\/(eO c/\c-49<i)):=by
 have hi:i<zs.length:=(Ad.mp hz).1
 have q:=cXF h hi
 rw[Ac,hz]at q;obtain⟨c,e,st⟩:=uW q;have e':z=one c:=e
 refine⟨c,e',by rw[Ah,hz,e'];rfl,?_⟩
 rcases st with l|⟨s,l⟩
 ·exact .inl l
 ·refine .inr ⟨s,?_⟩;unfold eO at s;omega
def cXJ(zs:List Str):Str:=bA (rdC (zs.map lC))
def dJY(z:Str):Bool:=z.cps.toList.all λc=>decide (c∈lettersT.cps.toList)
def nL(z:Str):Bool:=if z.length<1\/7<z.length then false else dJY z
def rL(f:α->β):∀l:List α,l.filterMap (λx=>some (f x))=l.map f
 |[]=>rfl
 |x::r=>by rw[Cp (f:=λx=>some (f x)) (b:=f x) rfl,As,rL f r]
def iO{f g:α->Option β}:∀ {l:List α},(∀x∈l,f x=g x)->l.filterMap f=l.filterMap g
 |[],_=>rfl
 |x::r,h=>by rw[Ej,Ej,h x Al,iO λy hy=>h y (Am _ hy)]
def uP{F:Nat->Option β}{b:β}(h:F i=some b):(List.range (i+1)).filterMap F=(List.range i).filterMap F++[b]:=by
 rw[Bs,Bu,Cp h,Cf]
def vC{F:Nat->Option β}(h:F i=none):(List.range (i+1)).filterMap F=(List.range i).filterMap F:=by
 rw[Bs,Bu,Cw h,Cf,Bd]
def one_inj{a b:Nat}:one a=one b ↔ a=b:=⟨λh=>by injection h with h;injection h with h;injection h,λh=>by rw[h]⟩
def xP(a b:Nat):decide (one a=one b)=decide (a=b):=Dk.mpr one_inj
def dQX(h:k<cw.length):atI (bA cw).cps.toList ((k:Nat):Int)=some (cw.getD k 0):=by
 refine aV ?_;rw[gF,Ac,Aa h];rfl
def dQD(h:k<23):atI lettersT.cps.toList ((k:Nat):Int)=some (97+k):=by
 refine aV ?_;have q:∀k:_root_.Fin 23,lettersT.cps.toList[k.val]?=some (97+k.val):=by decide +kernel
 exact q ⟨k,h⟩
def bJT(cs:List Nat):∀z∈cs.map one,z.length<=1000:=λz hz=>by
 obtain⟨c,_,rfl⟩:=Bg.mp hz;show 1<=1000
 decide
def bQR{ns:List Int}{i:Int}(h0:0<=i)(h:i<ns.length):∃n,n∈ns/\atI (ns.map V.int) i=some (.int n):=by
 obtain⟨v,h1,h2⟩:=eQW (xs:=ns.map V.int) (i:=i) h0 (by rw[Ab];exact h)
 rw[Ah,Aa (by omega)]at h2
 cases h2;exact⟨_,Ca _,h1⟩
def aZ4{ns:List Int}{x:V}(h:(ns.map V.int)[j]?=some x):∃n,n∈ns/\x=V.int n:=by
 obtain⟨n,hn,e⟩:=Bg.mp (An h);exact⟨n,hn,e.symm⟩
def iR{ns:List Str}{x:V}(h:(ns.map V.str)[j]?=some x):∃n,ns[j]?=some n/\x=V.str n:=by
 rw[Ah]at h;cases e:ns[j]? with
 |none=>rw[e]at h;cases h
 |some n=>rw[e]at h;cases h;exact⟨n,rfl,rfl⟩
def rM{c:Nat}(h:eO c):PySem.intText? (one c)=some ((c:Int)-48):=by
 unfold eO at h;have:c=49\/c=50\/c=51\/c=52:=by omega
 rcases this with rfl|rfl|rfl|rfl<;>decide +kernel
def fL(zs:List Str):(zs.map V.str).all cU=true:=by
 rw[Dt];intro x hx;obtain⟨z,_,rfl⟩:=Bg.mp hx;rfl
def cQU(h1:1<=fs.length)(h7:fs.length<=7)(h:∀k,k<fs.length->kJ (fs.getD k 0) ((1+k:Nat):Int)):cT (fs.map one)=true:=by
 unfold cT;rw[Ab,if_neg (by omega),Dt]
 intro i hi;have hi':=Bw.mp hi
 rw[Ac,Ah,Aa hi'];have q:=h i hi'
 rw[Ac,Aa hi']at q;exact Aj q
def chF(cw:List Nat)(k n:Nat):Option Nat:=if cw.getD n 0=cw.getD k 0 then some (49+n) else none
def chs(cw:List Nat)(k:Nat):List Nat:=cw.getD k 0::(List.range (min k 4)).filterMap (chF cw k)
def ch_iff{c:Nat}:c∈chs cw k ↔ c=cw.getD k 0\/∃n,n<k/\n<4/\cw.getD n 0=cw.getD k 0/\c=49+n:=by
 unfold chs;rw[Az,Dp];constructor
 ·rintro(h|⟨n,hn,h⟩)
  ·exact .inl h
  ·have:=Bw.mp hn
   unfold chF at h;split at h
   ·cases h;exact .inr ⟨n,by omega,by omega,by assumption,rfl⟩
   ·cases h
 ·rintro(h|⟨n,h1,h2,h3,rfl⟩)
  ·exact .inl h
  ·exact .inr ⟨n,Bw.mpr (by omega),if_pos h3⟩
def dXG(cw:List Nat)(k:Nat):1<=(chs cw k).length/\(chs cw k).length<=5:=by
 unfold chs;have:=Co (chF cw k) (List.range (min k 4))
 rw[Bt]at this;rw[Ax];omega
def cQO{c:Nat}(hL:aX (cw.getD k 0))(h:c∈chs cw k):kJ c ((1+k:Nat):Int):=by
 rcases ch_iff.mp h with rfl|⟨n,h1,h2,_,rfl⟩
 ·exact .inl hL
 ·exact .inr ⟨⟨by omega,by omega⟩,by omega⟩
def dJR{c:Nat}(hL:aX (cw.getD k 0))(hk:k<cw.length)(h:c∈chs cw k):stp (cw.take k) c=cw.getD k 0:=by
 rcases ch_iff.mp h with rfl|⟨n,h1,h2,h3,rfl⟩
 ·exact if_neg (gQ hL)
 ·unfold stp;rw[if_pos ⟨by omega,by omega⟩,show 49+n-49=n by omega,Ac,List.getElem?_take_of_lt h1,<-Ac,h3]
def aQB(hL:∀d∈cw,aX d)(hl:fs.length<=cw.length):∀i,i<=fs.length->(∀k,k<i->fs.getD k 0∈chs cw k)->rdC (fs.take i)=cw.take i
 |0,_,_=>rfl
 |i+1,hi,h=>by
  have hc:cw[i]?=some (cw.getD i 0):=by rw[Ac,Aa (by omega)];rfl
  have hf:fs[i]?=some (fs.getD i 0):=by rw[Ac,Aa (by omega)];rfl
  rw[nU hf,aQB hL hl i (by omega) λk hk=>h k (by omega),dJR (hL _ (An hc)) (by omega) (h i (by omega)),Bc,hc]
  rfl
def kM(hL:∀d∈cw,aX d)(hk:k<cw.length):aX (cw.getD k 0):=by
 rw[Ac,Aa hk];exact hL _ (Ca hk)
def dJ1(hL:∀d∈cw,aX d)(hl:fs.length=cw.length)(h:∀k,k<fs.length->fs.getD k 0∈chs cw k):rdC fs=cw:=by
 have q:=aQB hL (by omega) fs.length (Ai _) h
 rwa [Br,hl,Br]at q
def bJN(hL:∀d∈cw,aX d)(h1:1<=fs.length)(h7:fs.length<=7)(hl:fs.length<=cw.length)(h:∀k,k<fs.length->fs.getD k 0∈chs cw k):cT (fs.map one)=true:=
 cQU h1 h7 λk hk=>cQO (kM hL (by omega)) (h k hk)
def cZ6{c:Nat}:inV (.str (one c)) ((cs.map one).map V.str)=decide (c∈cs):=by
 induction cs with
 |nil=>rfl
 |cons d r ih=>
  rw[As,As];show ((one d==one c) || inV (.str (one c)) ((r.map one).map V.str))=_
  rw[ih,<-zG];by_cases h:c=d
  ·subst h;rw[Aj rfl,Bool.true_or,Aj Al]
  ·rw[Aw (λz=>by injection z with z;exact h (one_inj.mp z).symm),Gz]
   exact Dk.mpr ⟨λz=>Am _ z,λz=>(Az.mp z).resolve_left h⟩
def cJP{c:Nat}(h:aX c):Builtin.Str.occurrences lettersT (one c) 0 lettersT.length 1=[c-97]:=by
 have q:∀k:_root_.Fin 23,Builtin.Str.occurrences lettersT (one (97+k.val)) 0 lettersT.length 1=[k.val]:=by decide +kernel
 unfold aX at h;have e:=q ⟨c-97,by omega⟩
 rwa [show 97+(c-97)=c by omega]at e
def lZ(cs:List Nat)(n:Nat):Int:=((List.range n).map λi:Nat=>((1+i:Nat):Int)*((cs.getD i 0-97:Nat):Int)).sum
def iL(cs:List Nat)(n:Nat):lZ cs (n+1)=lZ cs n+((1+n:Nat):Int)*((cs.getD n 0-97:Nat):Int):=by
 unfold lZ;rw[Bs,Ar,List.sum_append];simp
def nD{cs ds:List Nat}:∀ {n:Nat},(∀i,i<n->cs.getD i 0=ds.getD i 0)->lZ cs n=lZ ds n
 |0,_=>rfl
 |n+1,h=>by rw[iL,iL,nD λi hi=>h i (by omega),h n (by omega)]
def aQI{cs ds:List Nat}{k:Nat}:∀ {n:Nat},k<n->(∀i,i<n->i≠k->cs.getD i 0=ds.getD i 0)->
 lZ ds n=lZ cs n+((1+k:Nat):Int)*(((ds.getD k 0-97:Nat):Int)-((cs.getD k 0-97:Nat):Int))
 |0,h,_=>absurd h (Ge _)
 |n+1,h,hh=>by
  rw[iL,iL];by_cases e:k=n
  ·subst e;rw[nD (cs:=ds) (ds:=cs) λi hi=>(hh i (by omega) (by omega)).symm,Int.mul_sub]
   omega
  ·rw[aQI (k:=k) (n:=n) (by omega) λi hi=>hh i (by omega),hh n (by omega) (λz=>e z.symm)]
   omega
def bXM{m x y:Int}(hk:k<7)(hx:0<=x/\x<23)(hy:0<=y/\y<23)(h:m%23=0):(m+((1+k:Nat):Int)*(y-x))%23=0 ↔ y=x:=by
 have hk':k=0\/k=1\/k=2\/k=3\/k=4\/k=5\/k=6:=by omega
 rcases hk' with rfl|rfl|rfl|rfl|rfl|rfl|rfl<;>simp only[Nat.reduceAdd]<;>omega
def iU(cs:List Nat):Bool:=decide (lZ cs cs.length%23=0)
def vA(cs:List Nat):Bool:=decide (1<cs.length)&&iU cs
def sS(hk:k<cs.length):(cs.set k d).getD i 0=if i=k then d else cs.getD i 0:=by
 rw[Ac,List.getElem?_set,Ac];by_cases e:i=k
 ·subst e;rw[if_pos rfl,if_pos rfl,if_pos hk];rfl
 ·rw[if_neg (λz=>e z.symm),if_neg e]
def dQ9(hL:∀d∈cs,aX d){c:Nat}(hc:aX c):∀d∈cs.set k c,aX d:=λd hd=>by
 rcases Ga hd with h|h
 ·exact hL d h
 ·rw[h];exact hc
def rW{cs:List Nat}{k d:Nat}(hk:k<cs.length):lZ (cs.set k d) cs.length=lZ cs cs.length+((1+k:Nat):Int)*(((d-97:Nat):Int)-((cs.getD k 0-97:Nat):Int)):=by
 have e:(cs.set k d).getD k 0=d:=by rw[sS hk,if_pos rfl]
 rw[aQI (cs:=cs) (ds:=cs.set k d) (k:=k) hk (λi hi hn=>by rw[sS hk,if_neg hn]),e]
def dQT{cs:List Nat}(h7:cs.length<=7)(hL:∀d∈cs,aX d){k d:Nat}(hk:k<cs.length)(hd:aX d)(h:iU cs=true):iU (cs.set k d)=decide (d=cs.getD k 0):=by
 unfold iU at h ⊢;have hm:=Ba h
 have hg:=kM hL hk
 unfold aX at hd hg;rw[Cv,rW hk];refine Dk.mpr ((bXM (by omega) ⟨by omega,by omega⟩ ⟨by omega,by omega⟩ hm).trans ?_)
 omega
def zY{cs:List Nat}(h7:cs.length<=7){k:Nat}(hk:k<cs.length):∃d,aX d/\iU (cs.set k d)=true:=by
 have q:∀k:_root_.Fin 7,∀m:_root_.Fin 23,∃d:_root_.Fin 23,(m.val+(1+k.val)*d.val)%23=0:=by decide +kernel
 have hs:=rW (cs:=cs) (k:=k) (d:=97) hk
 obtain⟨d,hd⟩:=q ⟨k,by omega⟩ ⟨(lZ (cs.set k 97) cs.length%23).toNat,by omega⟩
 refine⟨97+d.val,⟨by omega,by have:=d.isLt;omega⟩,?_⟩
 unfold iU;rw[Cv];have e2:=rW (cs:=cs) (k:=k) (d:=97+d.val) hk
 simp only at hd;have hk':k=0\/k=1\/k=2\/k=3\/k=4\/k=5\/k=6:=by omega
 refine Aj ?_;rcases hk' with rfl|rfl|rfl|rfl|rfl|rfl|rfl<;>simp only[Nat.reduceAdd]at hs e2 hd<;>omega
def cQJ(hL:∀d∈cs,aX d):(bA cs).cps.all (· < 128)=true:=by
 rw[Array.all_eq_true];intro i hi;have h1:(bA cs).cps[i]∈cs:=by
  have:(bA cs).cps[i]∈(bA cs).cps:=Array.getElem_mem hi
  rw[<-Array.mem_toList_iff]at this;exact this
 have:=hL _ h1
 unfold aX at this;exact Aj (by omega)
def cXL(hL:∀d∈cs,aX d)(h7:cs.length<=7):nL (bA cs)=decide (1<=cs.length):=by
 unfold nL;rw[cP];by_cases h:1<=cs.length
 ·rw[if_neg (by omega),Aj h]
  unfold dJY;rw[gF,Dt];intro d hd;exact Aj (mem_letters.mpr (hL d hd))
 ·rw[if_pos (by omega),Aw h]
def BkAt(H:Hp)(r:Addr)(bk:List (Str×Str)):Prop:=∃ps:List Addr,H r=some (.lst (ps.map V.ref))/\ps.length=bk.length/\∀(j:Nat) p b,ps[j]?=some p->bk[j]?=some b->H p=some (.tup [.str b.1,.str b.2])
def xQ(K:W.Frag)(Pt:Addr):Sp:=λvs H Q _=>∃(a:Addr) (ns:List Int),vs=[.ref a]/\SqL K H a (ns.map V.int)/\ns.length<=63/\H Pt=some (.tbl #[])/\∀H',Q (.bl true) H'
def mY:Sp:=λvs H Q _=>∃z,vs=[.str z]/\z.length<=1000/\Q (.bl (cD z)) H
def oU:Sp:=λvs H Q _=>∃z p,vs=[.str z,.int p]/\z.length<=1000/\Q (.bl (dH z p)) H
def qS:Sp:=λvs H Q _=>∃a zs,vs=[.ref a]/\rdL H a=some (zs.map V.str)/\zs.length<=1000/\(∀z∈zs,z.length<=1000)/\∀H',Same H H'->Q (.bl (cT zs)) H'
def tF(aN:Addr):Sp:=λvs H Q E=>∃a zs,vs=[.ref a]/\rdL H a=some (zs.map V.str)/\zs.length<=1000/\(∀z∈zs,z.length<=1000)/\(cT zs=true->∀H',Same H H'->Q (.str (cXJ zs)) H')/\(cT zs=false->∀H',Same H H'->E (.ref aN) none H')
def lN{j:Int}(e:j=(k:Int))(h:k<cw.length):atI (bA cw).cps.toList j=some (cw.getD k 0):=by
 rw[e];exact dQX h
def bX{i:Int}{v:V}(e:H p=some (.tup xs))(e':atI xs i=some v)(h:Q v H):mIx (.ref p) (.int i) H Q:=by
 have e1:rdL H p=none:=by unfold rdL;rw[e];rfl
 unfold mIx;simp only[e1,cF e,e'];exact h
section
variable {P:Program} {w:World} {K:W.Frag} {base:Heap}
def mD(aC:Addr):Sp:=λvs H Q _=>∃ea v,vs=[.ref ea,v]/\H ea=some (eK ea aC none)/\∀dx,H dx=none->Q .non (upd (upd H ea (eK ea aC (some dx))) dx (xdO dx [("flag",v)]))
def vJ:FnScope ["self", "flag"] ["self", "flag"] (aM jB):=by walk_at "sc"
def vL(F:Fun K "__init__" "Short.__init__" jB f fd)(G:Gs K mg w Zs Zz Zt Zx Z0 Zv Zy Zw Zu):FnOk P w K mg base CX0 1 f fd ["self", "flag"] (mD Zt):=by
 refine F.ok vJ (λvs H Q E h=>?_) (λcdv A outer s H vs Q E hr h=>?_)
 ·obtain⟨ea,v,rfl,_⟩:=h;rfl
 obtain⟨ea,v,rfl,he,q⟩:=h;refine⟨_,(@aD _ _ _ _ _ (cG (sJ rfl G.c_TowerError G.t1_TowerError G.t2_TowerError G.t3_TowerError (aA (mv 0) (aA (mv 1) aB)))) (@aH _ _ _ (rH (mv 0) (mv 1) rfl))),?_⟩;walk_at "go";refine⟨ea,[v],Zt,Zz,none,rfl,by show 1<=sizeLine;decide,he,(λ_ z=>nomatch z),G.xc_Short,?_⟩
 walk_at "go";exact⟨ea,Zt,Zz,rfl,G.xc_Short,G.xn_Short_flag,.inl ⟨he,q⟩⟩
def cXO{ea:Addr}{o' o'':HO}(s:Same H H1)(h1:H1 ea=none)(h2:upd H1 ea o dx=none):Same H (del (upd (upd (upd H1 ea o) ea o') dx o'') ea):=λb u e=>by
 have e1:=s b u e
 have n1:b≠ea:=bL e1 h1
 have n3:dx≠ea:=λz=>by rw[z,aE]at h2;cases h2
 have n2:b≠dx:=λz=>by rw[<-z,aJ n1,e1]at h2;cases h2
 rw[dU n1,aJ n2,aJ n1,aJ n1];exact e1
def cJB{ea:Addr}{o' o'':HO}(h2:upd H1 ea o dx=none):upd (upd (upd H1 ea o) ea o') dx o'' ea=some o'/\del (upd (upd (upd H1 ea o) ea o') dx o'') ea dx=some o'':=by
 have n3:dx≠ea:=λz=>by rw[z,aE]at h2;cases h2
 exact⟨by rw[aJ n3.symm,aE],by rw[dU n3,aE]⟩
structure Lk (kvs:List (Key×V)) (f:Nat->Option Int):Prop where
 nd:(kvs.map (·.1)).Nodup
 ks:∀kv∈kvs,∃(c:Nat) (n:Int),kv=(Sum.inr (one c),V.int n)
 val:∀c,cA kvs (Sum.inr (one c))=(f c).map V.int
def Lk.nil:Lk [] (λ_=>none):=⟨List.nodup_nil,(λkv h=>nomatch h),λc=>rfl⟩
def key_one{a b:Nat}:((Sum.inr (one a):Key)=Sum.inr (one b)) ↔ a=b:=⟨λh=>one_inj.mp (Sum.inr.inj h),λh=>by rw[h]⟩
def aJ9:∀ {l:List α} {k:α},l.Nodup->¬k∈l->(l++[k]).Nodup
 |[],k,_,_=>by simp
 |a::r,k,h,hk=>by
  obtain⟨h1,h2⟩:=Cc.mp h;refine Cc.mpr ⟨λm=>?_,aJ9 h2 λm=>hk (Am _ m)⟩;rcases Bm.mp m with q|q
  ·exact h1 q
  ·exact hk (by rw[Ak.mp q];exact Al ..)
def dQI{k:Key}(h:cA kvs k=none):¬k∈kvs.map (·.1):=λm=>by
 obtain⟨p,hp,e⟩:=Bg.mp m;have q:(kvs.any λkv=>decide (kv.1=k))=true:=List.any_eq_true.mpr ⟨p,hp,Aj e⟩
 rw[fM,h]at q;cases q
def zV(kvs:List (Key×V))(k:Key)(v:V)(h:cA kvs k≠none):(dL kvs k v).map (·.1)=kvs.map (·.1):=by
 unfold dL;have e:(kvs.any λkv=>decide (kv.1=k))=true:=by
  rw[fM];cases q:cA kvs k with
  |none=>exact absurd q h
  |some _=>rfl
 rw[if_pos e,Cg];refine Do λkv _=>?_;show (if kv.1=k then (kv.1,v) else kv).1=kv.1
 split<;>rfl
def Lk.put{f:Nat->Option Int}(h:Lk kvs f)(c:Nat)(n:Int):Lk (dL kvs (Sum.inr (one c)) (.int n)) (λd=>if d=c then some n else f d) where
 nd:=by
  cases e:cA kvs (Sum.inr (one c)) with
  |none=>rw[kR _ e,Ar];exact aJ9 h.nd (dQI e)
  |some v=>rw[zV _ _ _ (by rw[e];exact λz=>nomatch z)];exact h.nd
 ks:=λkv hkv=>by
  unfold dL at hkv;split at hkv
  ·obtain⟨kv',h',e⟩:=Bg.mp hkv;obtain⟨c',n',e'⟩:=h.ks kv' h';subst e';dsimp only at e;split at e
   ·exact⟨c',n,e.symm⟩
   ·exact⟨c',n',e.symm⟩
  ·rcases Bm.mp hkv with q|q
   ·exact h.ks kv q
   ·exact⟨c,n,Ak.mp q⟩
 val:=λd=>by
  rw[zZ];by_cases e:d=c
  ·rw[if_pos (key_one.mpr e),if_pos e];rfl
  ·rw[if_neg (λz=>e (key_one.mp z)),if_neg e];exact h.val d
def bJ0(nd:(kvs.map (·.1)).Nodup){kv:Key×V}(h:kv∈kvs):cA kvs kv.1=some kv.2:=by
 induction kvs with
 |nil=>cases h
 |cons p r ih=>
  obtain⟨n1,n2⟩:=Cc.mp nd;rcases Az.mp h with e|e
  ·subst e;exact cJ rfl
  ·rw[bZ λz=>n1 (by show p.1∈_;rw[z];exact Bg.mpr ⟨kv,e,rfl⟩)]
   exact ih n2 e
def aZH[DecidableEq α]:∀ {l m:List α},l.Nodup->(∀x∈l,x∈m)->l.length<=m.length
 |[],m,_,_=>Dc _
 |a::r,m,h,s=>by
  obtain⟨h1,h2⟩:=Cc.mp h;have q:=aZH (l:=r) (m:=m.erase a) h2 λx hx=>(List.mem_erase_of_ne λz=>h1 (by rw[<-z];exact hx)).mpr (s x (Am _ hx))
  have ha:=s a (Al ..)
  rw[List.length_erase_of_mem ha]at q;have:=List.length_pos_of_mem ha
  rw[Ax];omega
def Lk.at_mem{f:Nat->Option Int}(h:Lk kvs f){kv:Key×V}(hkv:kv∈kvs):∃c n,kv=(Sum.inr (one c),V.int n)/\f c=some n:=by
 obtain⟨c,n,e⟩:=h.ks kv hkv;have v:=bJ0 h.nd hkv
 rw[e]at v;have v2:=h.val c
 rw[v2]at v;cases q:f c with
 |none=>rw[q]at v;cases v
 |some m=>rw[q]at v;cases v;exact⟨c,_,e,q⟩
def aK(f:Nat->Option Int)(c:Nat):Int:=(f c).getD 0
def cY(c:Nat):Prop:=aX c\/eO c
instance (c:Nat):Decidable (cY c):=inferInstanceAs (Decidable (_\/_))
def bJ(n:Nat->Int)(c:Nat):Option Int:=if cY c/\0<n c then some (n c) else none
def pD{m:Nat->Int}(h:∀c,cY c->m c=n c):bJ m=bJ n:=by
 funext c
 unfold bJ;by_cases q:cY c
 ·rw[h c q]
 ·rw[if_neg λz=>q z.1,if_neg λz=>q z.1]
def cN{c:Nat}(hc:cY c)(h:0<=n c):aK (bJ n) c=n c:=by
 unfold aK bJ;by_cases q:0<n c
 ·rw[if_pos ⟨hc,q⟩];rfl
 ·rw[if_neg λz=>q z.2];show (0:Int)=n c;omega
def Lk.ext{f g:Nat->Option Int}(h:Lk kvs f)(e:f=g):Lk kvs g:=e▸h
def dZ(f:Nat->Option Int)(c:Nat):((f c).map V.int).getD (.int 0)=.int (aK f c):=by
 unfold aK;cases f c<;>rfl
def flags_mem{c:Nat}:c∈flagsT.cps.toList ↔ cY c:=vX
def eJ3(n:Nat->Int)(i c:Nat):Option Int:=if c∈flagsT.cps.toList.take i/\0<n c then some (n c) else none
def eX7(n:Nat->Int):eJ3 n 0=λ_=>none:=by
 funext c
 unfold eJ3;rw[Ez];exact if_neg λz=>nomatch z.1
def aXP(cs:List Nat)(c:Nat):(cs.map one).countP (· == one c)=cs.countP (· == c):=by
 rw[List.countP_map];refine List.countP_congr λd _=>?_;show (one d==one c)=true ↔ (d==c)=true
 rw[Fc,Fc,one_inj]
def kvL(g:Nat->Int)(L:List Nat):List (Key×V):=L.map λc=>(Sum.inr (one c),V.int (g c))
def bG(n:Nat->Int)(i:Nat):List Nat:=(flagsT.cps.toList.take i).filter λc=>decide (0<n c)
def aQF{g:Nat->Int}{L:List Nat}{c:Nat}(h:c∉L):cA (kvL g L) (Sum.inr (one c))=none:=by
 induction L with
 |nil=>rfl
 |cons d r ih=>
  show cA ((Sum.inr (one d),V.int (g d))::kvL g r) _=none
  rw[bZ (λz=>h (by rw[key_one.mp z];exact Al)),ih λz=>h (Am _ z)]
def flags_nd:flagsT.cps.toList.Nodup:=by decide +kernel
def plainL_mem{c:Nat}:c∈bG n i ↔ c∈flagsT.cps.toList.take i/\0<n c:=by
 unfold bG;rw[Dx,Bo]
def aJN{c:Nat}(h:flagsT.cps.toList[i]?=some c):c∉bG n i:=λz=>by
 have m:=(plainL_mem.mp z).1
 obtain⟨j,hj,e⟩:=Ce.mp m;rw[Bx]at hj;rw[List.getElem_take]at e;obtain⟨hi,e2⟩:=Ad.mp h;have:=(Fu flags_nd).mp (e.trans e2.symm)
 omega
def aJO{c:Nat}(h:flagsT.cps.toList[i]?=some c)(p:0<n c):bG n (i+1)=bG n i++[c]:=by
 unfold bG;rw[Bc,h,Ff];show _++[c].filter _=_
 rw[show [c].filter (λc=>decide (0<n c))=[c] by simp[p]]
def aZB{c:Nat}(h:flagsT.cps.toList[i]?=some c)(p:¬0<n c):bG n (i+1)=bG n i:=by
 unfold bG;rw[Bc,h,Ff];show _++[c].filter _=_
 rw[show [c].filter (λc=>decide (0<n c))=[] by simp;omega,List.append_nil]
def gI(n:Nat->Int)(i:Nat):(bG n i).length<=27:=by
 unfold bG;exact Bi (List.length_filter_le ..) (by rw[Bx];exact Bi (Nat.min_le_right ..) (by decide))
def wH(n:Nat->Int)(i:Nat):(bG n i).Nodup:=(flags_nd.sublist (Gj ..)).filter _
def bX5(g:Nat->Int)(L:List Nat)(d:Nat):Option Int:=if d∈L then some (g d) else none
def cQ5(g:Nat->Int){r:List Nat}{c:Nat}(hc:c∉r)(h:Lk (kvL g r) (bX5 g r)):Lk (kvL g (r++[c])) (bX5 g (r++[c])):=by
 have l:=h.put c (g c)
 rw[kR _ (aQF hc)]at l;have e:kvL g (r++[c])=kvL g r++[(Sum.inr (one c),V.int (g c))]:=by unfold kvL;rw[Ar];rfl
 rw[e];refine l.ext ?_;funext d
 unfold bX5;by_cases hd:d=c
 ·subst hd;rw[if_pos rfl,if_pos (Be _ (Ak.mpr rfl))]
 ·rw[if_neg hd];by_cases hr:d∈r
  ·rw[if_pos hr,if_pos (Cb _ hr)]
  ·rw[if_neg hr,if_neg (λz=>(Bm.mp z).elim hr λy=>hd (Ak.mp y))]
def aJU(g:Nat->Int):∀(L r:List Nat),(r++L).Nodup->Lk (kvL g r) (bX5 g r)->Lk (kvL g (r++L)) (bX5 g (r++L))
 |[],r,_,h=>by rw[Bd];exact h
 |c::L,r,nd,h=>by
  have e:r++c::L=(r++[c])++L:=by rw[List.append_assoc];rfl
  have hc:c∉r:=λz=>(Cy.mp nd).2.2 c z c Al rfl
  rw[e]at nd ⊢;exact aJU g L (r++[c]) nd (cQ5 g hc h)
def eQ9(g:Nat->Int){L:List Nat}(nd:L.Nodup):Lk (kvL g L) (λd=>if d∈L then some (g d) else none):=by
 have r:=aJU g L [] nd (Lk.nil.ext (by funext d;unfold bX5;rw[if_neg (λz=>nomatch z)]))
 exact r
def dI(n:Nat->Int):Lk (kvL n (bG n 27)) (bJ n):=by
 refine(eQ9 n (wH n 27)).ext ?_;funext d
 unfold bJ;have e:d∈bG n 27 ↔ cY d/\0<n d:=by
  rw[plainL_mem,Cd (by decide),flags_mem]
 by_cases h:d∈bG n 27
 ·rw[if_pos h,if_pos (e.mp h)]
 ·rw[if_neg h,if_neg (λz=>h (e.mpr z))]
def cM:Sp:=λvs H Q _=>∃(a:Addr) (kvs:List (Key×V)) (f:Nat->Option Int),vs=[.ref a]/\Rd H a (.dK kvs)/\Lk kvs f/\
 ∀(r:Addr) (H':Hp),H r=none->Same H H'->H' r=some (.dK (kvL (aK f) (bG (aK f) 27)))->Q (.ref r) H'
def sc_plain_locker:FnScope ["locker", "plain", "flag"] ["locker"] (aM gH):=by walk_at "sc"
def qZ(F:Fun K "plain_locker" "plain_locker" gH f fd)(G:Gs K mg w Zs Zz Zt Zx Z0 Zv Zy Zw Zu):FnOk P w K mg base CX0 1 f fd ["locker"] cM:=by
 refine F.ok sc_plain_locker (λvs H Q E h=>?_) (λcdv A outer s H vs Q E hr h=>?_)
 ·obtain⟨a,kvs,f,rfl,_⟩:=h;rfl
 obtain⟨a,kvs,f,rfl,ha,lk,q⟩:=h;refine⟨_,(@aD _ _ _ _ _ (aP 1 sc_plain_locker.nd sW) (@aD _ _ _ _ _ (cI Bh rfl (qI (fI rfl G.s_FLAGS)) (bH (i:=2) sc_plain_locker.nd rfl (Or.inl rfl)) (@aH _ _ _ (bU (aY aXQ (cR Bb Bv (jX (Room.u1 hr)) (mv 0) (aA (mv 2) (aA aI aB))) aI (aW _)) (@aH _ _ _ (eT (Room.u1 hr) (mv 1) (mv 2) (fH (Room.u1 hr) (mv 0) (mv 2) (λ_ _=>rfl)) rfl)) bC))) (@aH _ _ _ (aT (mv 1))))),?_⟩;walk_at "go";intro p hp;walk_at "go";refine aZ9 (λi σ H'=>∃(v:Option V),σ=[some (.ref a),some (.ref p),v]/\Same H H'/\H' p=some (.dK (kvL (aK f) (bG (aK f) i))))
  ⟨none,rfl,aG hp _,aE⟩ ?_ ?_
 ·rintro i c σ H2 hc ⟨v,rfl,s2,hH⟩;have hi:i<27:=(Ad.mp hc).1
  have ha2:Rd H2 a (.dK kvs):=ha.elim (λe=>.inl (s2 _ _ e)) λ⟨o,e⟩=>.inr ⟨o,s2 _ _ e⟩
  have hd2:isD H2 a=true:=ha2.elim dW λ⟨o,e⟩=>aJM e
  have hpl:(kvL (aK f) (bG (aK f) i)).length<sizeLine:=bK (by unfold kvL;rw[Ab];have:=gI (aK f) i;omega)
  walk_at "go";refine jQ (z:=one c) ha2 ?_;rw[lk.val c,dZ];walk_at "go";refine eW (λhd=>?_) (λhd=>?_)
  ·have hd':=Ba hd
   obtain⟨n,hn⟩:∃n,f c=some n:=by
    cases e:f c with
    |none=>rw[show aK f c=0 by unfold aK;rw[e];rfl]at hd';omega
    |some n=>exact⟨n,rfl⟩
   have hcn:aK f c=n:=by unfold aK;rw[hn];rfl
   walk_at "go";refine nQ (z:=one c) ha2 (by rw[lk.val c,hn];rfl) ?_
   walk_at "go";refine fX (z:=one c) hH hpl ?_;refine⟨_,rfl,bM hp s2,?_⟩;rw[aE,kR _ (aQF (aJN hc)),aJO hc (by omega)]
   unfold kvL;rw[Ar,<-hcn];rfl
  ·have hd':=Bp (Bq.mpr hd)
   walk_at "go";exact⟨_,rfl,s2,by rw[hH,aZB hc (by omega)]⟩
 ·rintro σ H2 ⟨v,rfl,s2,hH⟩;walk_at "go";exact q p H2 hp s2 hH
def cnt(cs:List Nat)(c:Nat):Int:=((cs.countP (· == c):Nat):Int)
def kY{c:Nat}(h:cs[i]?=some c)(d:Nat):cnt (cs.take (i+1)) d=cnt (cs.take i) d+if d=c then 1 else 0:=by
 unfold cnt;rw[Bc,h,Gf];show (((cs.take i).countP (· == d)+[c].countP (· == d):Nat):Int)=_
 by_cases e:d=c
 ·subst e;rw[if_pos rfl,List.countP_cons,List.countP_nil,if_pos (by simp)]
  push_cast
  rfl
 ·rw[if_neg e,List.countP_cons,List.countP_nil,if_neg (by simp;exact λz=>e z.symm)]
  push_cast
  rfl
def dJ7{c:Nat}(h:cs[i]?=some c):cnt (cs.take i) c+1<=cnt cs c:=by
 have e:=kY h c
 rw[if_pos rfl]at e;rw[<-e];unfold cnt;have:(cs.take (i+1)).countP (· == c)<=cs.countP (· == c):=List.Sublist.countP_le (Gj _ _)
 omega
def sB(cs:List Nat)(c:Nat):0<=cnt cs c:=by unfold cnt;omega
def yS(f:Nat->Option Int)(cs:List Nat)(k:Nat):Prop:=∀j d,j<k->cs[j]?=some d->cnt (cs.take j) d<aK f d
def xC{f:Nat->Option Int}(c:Nat)(h0:0<=aK f c):∀ {k:Nat},yS f cs k->cnt (cs.take k) c<=aK f c
 |0,_=>by rw[Ez];exact h0
 |k+1,h=>by
  have ih:=xC c h0 (k:=k) λj d hj=>h j d (by omega)
  cases e:cs[k]? with
  |none=>rw[List.take_add_one,e];simpa using ih
  |some d=>
   rw[kY e];have hd:=h k d (by omega) e
   by_cases z:c=d
   ·subst z;rw[if_pos rfl];omega
   ·rw[if_neg z];omega
def uI(aC:Addr):Sp:=λvs H Q E=>∃(a b:Addr) (kvs:List (Key×V)) (f:Nat->Option Int) (cs:List Nat),vs=[.ref a,.ref b]/\H a=some (.dK kvs)/\Lk kvs f/\(∀c,0<=aK f c)/\rdL H b=some ((cs.map one).map V.str)/\cs.length<=1000/\(∀c∈cs,cY c)/\
 (yS f cs cs.length->∀(r:Addr) (kws:List (Key×V)) (H':Hp),H r=none->Same H H'->H' r=some (.dK kws)->Lk kws (bJ λc=>aK f c-cnt cs c)->Q (.ref r) H')/\
 (∀i c,cs[i]?=some c->yS f cs i->aK f c<=cnt (cs.take i) c->∀(dx:Addr) (H':Hp),Same H H'->H' dx=some (xdO dx [("flag",.str (one c))])->E (.ref aC) (some dx) H')
def sc_taken:FnScope ["locker", "flags", "left", "flag"] ["locker", "flags"] (aM yQ):=by walk_at "sc"
def cXB(F:Fun K "taken" "taken" yQ f fd)(G:Gs K mg w Zs Zz Zt Zx Z0 Zv Zy Zw Zu)(c_plain_locker:Cal P w K mg base 1 "plain_locker" ["locker"] cM)(c_Short_init:aZR P w K mg base 1 Zt ["self", "flag"] (mD Zt)):FnOk P w K mg base (CXr P w) 3 f fd ["locker", "flags"] (uI Zt):=by
 refine F.okX sc_taken (λvs H Q E h=>?_) (λcdv A outer s H vs Q E hr h=>?_)
 ·obtain⟨a,b,kvs,f,cs,rfl,_⟩:=h;rfl
 obtain⟨a,b,kvs,f,cs,rfl,ha,lk,hf0,hb,hcs,hfl,q,qe⟩:=h;refine⟨_,(@aD _ _ _ _ _ (aP 2 sc_taken.nd (aZ c_plain_locker hr (by decide) rfl (aA (mv 0) aB))) (@aD _ _ _ _ _ (cI PassesOwn.leaving rfl (dD (mv 1)) (bH (i:=3) sc_taken.nd rfl (Or.inl rfl)) (@aD _ _ _ _ _ (bU (aY hJ (cR Bb Bv (jX (Room.u1 hr)) (mv 2) (aA (mv 3) (aA aI aB))) aI (aW _)) (@aH _ _ _ (lS fY rfl rfl rfl G.c_Short G.xm_Short c_Short_init hr (by decide) (aA (mv 3) aB))) bC) (@aH _ _ _ (eT (Room.u1 hr) (mv 2) (mv 3) (aQ jO (fH (Room.u1 hr) (mv 2) (mv 3) (λ_ _=>rfl)) aI) rfl)))) (@aH _ _ _ (aT (aZ c_plain_locker hr (by decide) rfl (aA (mv 2) aB)))))),?_⟩
 walk_at "go";refine⟨a,kvs,f,rfl,.inl ha,lk,λp H1 hp s1 hp1=>?_⟩;have lw:Lk (kvL (aK f) (bG (aK f) 27)) _:=dI (aK f)
 have hwl:(kvL (aK f) (bG (aK f) 27)).length<=27:=by unfold kvL;rw[Ab];exact gI _ _
 generalize kvL (aK f) (bG (aK f) 27)=kws at hp1 lw hwl;have hb1:=aO s1 hb
 walk_at "go";refine gW (xs:=(cs.map one).map V.str) (λi σ H'=>∃(kvs':List (Key×V)) (g:Nat->Option Int) (v:Option V),σ=[some (.ref a),some (.ref b),some (.ref p),v]/\Same H H'/\H' p=some (.dK kvs')/\Lk kvs' g/\(∀c,aK g c=aK (bJ (aK f)) c-cnt (cs.take i) c)/\kvs'.length<=27+i/\yS f cs i)
  ⟨kws,_,_,rfl,s1,hp1,lw,λc=>by rw[Ez];show _=_-((0:Nat):Int);omega,by omega,λj d hj=>by omega⟩ (λi σ H' _ ⟨_,_,_,_,e,_⟩=>aO e hb) ?_ ?_
 ·rintro i x σ H2 hx ⟨kvs',g,v,rfl,s2,hH,lg,hg,hl,hen⟩;have hi:i<cs.length:=by have:=(Ad.mp hx).1;rw[Ab,Ab]at this;exact this
  obtain⟨c,hc⟩:∃c,cs[i]?=some c:=⟨_,Aa hi⟩;obtain rfl:x=V.str (one c):=by rw[Ah,Ah,hc]at hx;cases hx;rfl
  have hpl:kvs'.length<sizeLine:=bK (by omega)
  have hfc:=hfl c (An hc)
  have hgc:=hg c
  rw[cN hfc (hf0 c)]at hgc;have hle:=xC c (hf0 c) hen
  walk_at "go";refine jQ (z:=one c) (.inl hH) ?_;rw[lg.val c,dZ];walk_at "go";refine eW (λhd=>?_) (λhd=>?_)
  ·have hd':=Ba hd
   walk_at "go";refine⟨by show 1<=sizeLine;decide,λea hea=>⟨ea,_,rfl,aE,λdx hdx=>⟨rfl,some dx,(cJB hdx).1,?_⟩⟩⟩
   exact qe i c hc hen (by omega) dx _ (cXO s2 hea hdx) (cJB hdx).2
  ·have hd':=Bp (Bq.mpr hd)
   obtain⟨n,hn⟩:∃n,g c=some n:=by
    cases e:g c with
    |none=>exact absurd (show aK g c=0 by unfold aK;rw[e];rfl) hd'
    |some n=>exact⟨n,rfl⟩
   have hcn:aK g c=n:=by unfold aK;rw[hn];rfl
   walk_at "go";refine nQ (z:=one c) (.inl hH) (by rw[lg.val c,hn];rfl) ?_
   walk_at "go";refine fX (z:=one c) hH hpl ?_;refine⟨_,_,_,rfl,bM hp s2,aE,lg.put c (n-1),λd=>?_,by have:=fK kvs' (Sum.inr (one c)) (.int (n-1));omega,λj d hj hjd=>?_⟩
   ·rw[kY hc];have:=hg d
    by_cases e:d=c
    ·subst e;show ((if d=d then some (n-1) else g d):Option Int).getD 0=_
     rw[if_pos rfl,if_pos rfl];show n-1=_
     omega
    ·show ((if d=c then some (n-1) else g d):Option Int).getD 0=_
     rw[if_neg e,if_neg e];show aK g d=_
     omega
   ·by_cases e:j=i
    ·subst e;rw[hc]at hjd;cases hjd;omega
    ·exact hen j d (by omega) hjd
 ·rintro σ H2 ⟨kvs',g,v,rfl,s2,hH,lg,hg,hl,hen⟩;have ecs:((cs.map one).map V.str).length=cs.length:=by rw[Ab,Ab]
  rw[ecs]at hg hl hen;walk_at "go";refine⟨p,kvs',g,rfl,.inl hH,lg,λr H3 hr s3 hr3=>?_⟩;have l3:Lk (kvL (aK g) (bG (aK g) 27)) _:=dI (aK g)
  generalize kvL (aK g) (bG (aK g) 27)=kws' at hr3 l3;refine q hen r kws' H3 (none_of s2 hr) (s2.trans s3) hr3 (l3.ext (pD λc hc=>?_));rw[hg c,cN hc (hf0 c),Cd (Ai _)]
def lH:Sp:=λvs H Q _=>∃(a b:Addr) (kvs:List (Key×V)) (f:Nat->Option Int) (cs:List Nat),vs=[.ref a,.ref b]/\H a=some (.dK kvs)/\Lk kvs f/\(∀c,0<=aK f c)/\rdL H b=some ((cs.map one).map V.str)/\cs.length<=1000/\
 ∀(r:Addr) (kws:List (Key×V)) (H':Hp),H r=none->Same H H'->H' r=some (.dK kws)->Lk kws (bJ λc=>aK f c+cnt cs c)->Q (.ref r) H'
def sc_put_in:FnScope ["locker", "flags", "more", "flag"] ["locker", "flags"] (aM tM):=by walk_at "sc"
def bXJ(F:Fun K "put_in" "put_in" tM f fd)(G:Gs K mg w Zs Zz Zt Zx Z0 Zv Zy Zw Zu)(c_plain_locker:Cal P w K mg base 1 "plain_locker" ["locker"] cM):FnOk P w K mg base CX0 2 f fd ["locker", "flags"] lH:=by
 refine F.ok sc_put_in (λvs H Q E h=>?_) (λcdv A outer s H vs Q E hr h=>?_)
 ·obtain⟨a,b,kvs,f,cs,rfl,_⟩:=h;rfl
 obtain⟨a,b,kvs,f,cs,rfl,ha,lk,hf0,hb,hcs,q⟩:=h;refine⟨_,(@aD _ _ _ _ _ (aP 2 sc_put_in.nd (aZ c_plain_locker hr (by decide) rfl (aA (mv 0) aB))) (@aD _ _ _ _ _ (cI Bh rfl (dD (mv 1)) (bH (i:=3) sc_put_in.nd rfl (Or.inl rfl)) (@aH _ _ _ (eT (Room.u1 hr) (mv 2) (mv 3) (aQ cB (cR Bb Bv (jX (Room.u1 hr)) (mv 2) (aA (mv 3) (aA aI aB))) aI) rfl))) (@aH _ _ _ (aT (aZ c_plain_locker hr (by decide) rfl (aA (mv 2) aB)))))),?_⟩
 walk_at "go";refine⟨a,kvs,f,rfl,.inl ha,lk,λp H1 hp s1 hp1=>?_⟩;have lw:Lk (kvL (aK f) (bG (aK f) 27)) _:=dI (aK f)
 have hwl:(kvL (aK f) (bG (aK f) 27)).length<=27:=by unfold kvL;rw[Ab];exact gI _ _
 generalize kvL (aK f) (bG (aK f) 27)=kws at hp1 lw hwl;have hb1:=aO s1 hb
 walk_at "go";refine gW (xs:=(cs.map one).map V.str) (λi σ H'=>∃(kvs':List (Key×V)) (g:Nat->Option Int) (v:Option V),σ=[some (.ref a),some (.ref b),some (.ref p),v]/\Same H H'/\H' p=some (.dK kvs')/\Lk kvs' g/\(∀c,aK g c=aK (bJ (aK f)) c+cnt (cs.take i) c)/\kvs'.length<=27+i)
  ⟨kws,_,_,rfl,s1,hp1,lw,λc=>by rw[Ez];show _=_+((0:Nat):Int);omega,by omega⟩ (λi σ H' _ ⟨_,_,_,_,e,_⟩=>aO e hb) ?_ ?_
 ·rintro i x σ H2 hx ⟨kvs',g,v,rfl,s2,hH,lg,hg,hl⟩;have hi:i<cs.length:=by have:=(Ad.mp hx).1;rw[Ab,Ab]at this;exact this
  obtain⟨c,hc⟩:∃c,cs[i]?=some c:=⟨_,Aa hi⟩;obtain rfl:x=V.str (one c):=by rw[Ah,Ah,hc]at hx;cases hx;rfl
  have hpl:kvs'.length<sizeLine:=bK (by omega)
  walk_at "go";refine jQ (z:=one c) (.inl hH) ?_;rw[lg.val c,dZ];walk_at "go";refine fX (z:=one c) hH hpl ?_;refine⟨_,_,_,rfl,bM hp s2,aE,lg.put c (aK g c+1),λd=>?_,by have:=fK kvs' (Sum.inr (one c)) (.int (aK g c+1));omega⟩
  rw[kY hc];have:=hg d
  by_cases e:d=c
  ·subst e;show ((if d=d then some (aK g d+1) else g d):Option Int).getD 0=_
   rw[if_pos rfl,if_pos rfl];show aK g d+1=_
   omega
  ·show ((if d=c then some (aK g c+1) else g d):Option Int).getD 0=_
   rw[if_neg e,if_neg e];show aK g d=_
   omega
 ·rintro σ H2 ⟨kvs',g,v,rfl,s2,hH,lg,hg,hl⟩;walk_at "go";refine⟨p,kvs',g,rfl,.inl hH,lg,λr H3 hr s3 hr3=>?_⟩;refine q r _ H3 (none_of s2 hr) (s2.trans s3) hr3 ((dI (aK g)).ext (pD λc hc=>?_));rw[hg c,cN hc (hf0 c),Cd (by rw[Ab,Ab];exact Ai _)]
def mQ:Sp:=λvs H Q _=>∃(cw:List Nat) (k:Nat) (p:Int),vs=[.str (bA cw),.int p]/\p=(k:Int)+1/\k<cw.length/\cw.length<=7/\
 ∀(r:Addr) (H':Hp),H r=none->Same H H'->H' r=some (.lst (((chs cw k).map one).map V.str))->Q (.ref r) H'
def cJ3(G:Nat->Option β)(k:Nat):[0,1,2,3].filterMap (λn=>if n<k then G n else none)=(List.range (min k 4)).filterMap G:=by
 match k with
 |0=>rfl
 |1=>rfl
 |2=>rfl
 |3=>rfl
 |k+4=>
  rw[Gv (by omega)]
  exact iO λn hn=>if_pos (by simp only[List.mem_cons,List.not_mem_nil,or_false]at hn;omega)
def atF(cw:List Nat)(k:Nat)(c:Nat):Option V:=if c-49<k then (if cw.getD (c-49) 0=cw.getD k 0 then some (.str (one c)) else none) else none
def eX9(cw:List Nat)(k:Nat):subsT.cps.toList.filterMap (atF cw k)=(((List.range (min k 4)).filterMap (chF cw k)).map one).map V.str:=by
 rw[aXV,show [49,50,51,52]=[0,1,2,3].map (49+·) from rfl,List.filterMap_map,Cg,List.map_filterMap,<-cJ3];refine iO λn _=>?_;show atF cw k (49+n)=_
 unfold atF chF;rw[show 49+n-49=n by omega]
 by_cases h1:n<k
 ·rw[if_pos h1,if_pos h1];by_cases h2:cw.getD n 0=cw.getD k 0
  ·rw[if_pos h2,if_pos h2];rfl
  ·rw[if_neg h2,if_neg h2];rfl
 ·rw[if_neg h1,if_neg h1]
def sc_choices_at:FnScope ["word", "place", "letter", "above"] ["word", "place"] (aM fW):=by walk_at "sc"
def vF(F:Fun K "choices_at" "choices_at" fW f fd)(G:Gs K mg w Zs Zz Zt Zx Z0 Zv Zy Zw Zu):FnOk P w K mg base CX0 1 f fd ["word", "place"] mQ:=by
 refine F.ok sc_choices_at (λvs H Q E h=>?_) (λcdv A outer s H vs Q E hr h=>?_)
 ·obtain⟨cw,k,p,rfl,_⟩:=h;rfl
 obtain⟨cw,k,pl,rfl,hpl,hk,h7,q⟩:=h;refine⟨_,(@aD _ _ _ _ _ (aP 2 sc_choices_at.nd (bE bS (mv 0) (aQ jO (mv 1) aI) (λ_ _=>rfl))) (@aD _ _ _ _ _ (lL (i:=3) sc_choices_at.nd rfl (Or.inl rfl) rfl (qI (fI rfl G.s_SUBSTITUTES)) (jP (N:=["sign", "place", "letter", "word"]) ["word", "place", "letter", "above"] (aM fW) [none,some 1,some 2,some 0] rfl rfl rfl (λx h=>cS h) (by decide +kernel)) (by decide +kernel) rfl (by decide +kernel) (λ_ _ _ _=>(bH (i:=0) (show List.Nodup (["sign", "place", "letter", "word"]:List Str) by decide +kernel) rfl (Or.inl rfl))) (λ_ _ _ _=>(mX (PW.pt (qB (aY zF (bN aJ4 rfl G.b_int iF (aA (mv 0) aB)) (mv 1) (aW _)) (lM (aY hJ (bE bS (mv 3) (aQ jO (bN aJ4 rfl G.b_int iF (aA (mv 0) aB)) aI) (λ_ _=>rfl)) (mv 2) (aW _))))))) (λ_ _ _ _=>(mv 0))) (@aH _ _ _ (aT (aQ cB (bR (aA (mv 2) aB)) (mv 3)))))),?_⟩
 have hwl:(bA cw).length=cw.length:=cP cw
 walk_at "go";refine oQ (by rw[hwl];exact bP (by omega)) (lN (k:=k) (by omega) hk) ?_
 walk_at "go";refine bJC (atF cw k) (bK (by decide)) (λi c Hc A B hc' hA=>?_) (λD hD=>?_)
 ·have hs:eO c:=mem_subs.mp (An hc')
  have h49:49<=c:=hs.1
  walk_at "go";refine⟨Wk.set rfl (Wk.refl _),?_⟩;walk_at "go";refine yX (rM hs) (by show 1<=640;decide) ?_
  walk_at "go";unfold atF at hA;refine eW (λhd=>?_) (λhd=>?_)
  ·have hd':=Ba hd
   have hck:c-49<k:=by omega
   rw[if_pos hck]at hA;walk_at "go";refine yX (rM hs) (by show 1<=640;decide) ?_
   walk_at "go";refine oQ (by rw[hwl];exact bP (by omega)) (lN (k:=c-49) (by omega) (by omega)) ?_
   walk_at "go";rw[show decide (({cps:=#[cw.getD (c-49) 0]}:Str)={cps:=#[cw.getD k 0]})=decide (cw.getD (c-49) 0=cw.getD k 0) from xP _ _];by_cases he:cw.getD (c-49) 0=cw.getD k 0
   ·rw[Aj he];rw[if_pos he]at hA;walk_at "go";exact hA
   ·rw[Aw he];rw[if_neg he]at hA;walk_at "go";exact hA
  ·have hd':=Bp (Bq.mpr hd)
   have hck:¬c-49<k:=by omega
   rw[if_neg hck]at hA;walk_at "go";exact hA
 ·rw[show (Str.ofString "1234").cps.toList.filterMap (atF cw k)=_ from eX9 cw k];walk_at "go";refine⟨by show 1<=sizeLine;decide,λp hp=>?_⟩
  have hDp:D≠p:=λz=>by rw[z,aE]at hp;cases hp
  have hp0:H p=none:=by rw[aJ (Ne.symm hDp)]at hp;exact hp
  have hlen:((((List.range (min k 4)).filterMap (chF cw k)).map one).map V.str).length<=4:=by
   have:=Co (chF cw k) (List.range (min k 4))
   rw[Bt]at this;rw[Ab,Ab];omega
  walk_at "go";refine sI (xs:=[V.str (one (cw.getD k 0))]) (ys:=(((List.range (min k 4)).filterMap (chF cw k)).map one).map V.str) pQ (by rw[cJW hDp];exact pQ) (bP (by show 1+_<=_;omega)) λr hr=>?_
  have hr0:H r=none:=by
   by_cases z:r=p
   ·rw[z];exact hp0
   ·rw[aJ z]at hr;by_cases z2:r=D
    ·rw[z2];exact hD
    ·rw[aJ z2]at hr;exact hr
  walk_at "go";exact q r _ hr0 ((aG hD _).trans ((aG hp _).trans (aG hr _))) aE
def aZX(cws:List (List Nat))(k:Nat):List (List V):=(List.range (cws.getD k []).length).map λj:Nat=>[V.int (k:Int),V.int (1+(j:Int))]
def nK(cws:List (List Nat))(i:Nat):List (List V):=((List.range i).map (aZX cws)).flatten
def kI(cws:Q5)(i:Nat):nK cws (i+1)=nK cws i++aZX cws i:=by
 unfold nK;rw[Bs,Ar,List.flatten_append];simp
def cQW{k:Nat}(h7:∀c∈cws,c.length<=7):(aZX cws k).length<=7:=by
 unfold aZX;rw[Ab,Bt,Ac];cases e:cws[k]? with
 |none=>exact Dc _
 |some c=>exact h7 c (An e)
def nI(h7:∀c∈cws,c.length<=7):∀i,(nK cws i).length<=7*i
 |0=>Ai _
 |i+1=>by
  rw[kI,Af];have:=nI h7 i
  have:=cQW (k:=i) h7
  omega
def aQ2{x:V}(h:((cws.map bA).map V.str)[i]?=some x):∃c,cws[i]?=some c/\c∈cws/\x=.str (bA c):=by
 rw[Ah,Ah]at h;cases e:cws[i]? with
 |none=>rw[e]at h;cases h
 |some c=>rw[e]at h;cases h;exact⟨c,rfl,An e,rfl⟩
def qR:Sp:=λvs H Q _=>∃(a:Addr) (cws:List (List Nat)),vs=[.ref a]/\rdL H a=some ((cws.map bA).map V.str)/\cws.length<=8/\(∀c∈cws,c.length<=7)/\
 ∀(r:Addr) (ps:List Addr) (H':Hp),H r=none->Same H H'->H' r=some (.lst (ps.map V.ref))->Tups H H' ps (nK cws cws.length)->Q (.ref r) H'
def sc_wants_of:FnScope ["words", "wants", "number", "word"] ["words"] (aM jH):=by walk_at "sc"
def aQM(F:Fun K "wants_of" "wants_of" jH f fd)(G:Gs K mg w Zs Zz Zt Zx Z0 Zv Zy Zw Zu):FnOk P w K mg base CX0 1 f fd ["words"] qR:=by
 refine F.ok sc_wants_of (λvs H Q E h=>?_) (λcdv A outer s H vs Q E hr h=>?_)
 ·obtain⟨a,cws,rfl,_⟩:=h;rfl
 obtain⟨a,cws,rfl,ha,h8,h7,q⟩:=h;refine⟨_,(@aD _ _ _ _ _ (aP 1 sc_wants_of.nd (bR aB)) (@aD _ _ _ _ _ (cI Bh rfl (jG rfl G.b_enumerate (aA (mv 0) aB)) (dQ (K:=K) (i:=2) (j:=3) (by rfl) (by rfl) sc_wants_of.nd (by rfl) (by exact(Or.inr rfl)) (by exact Or.inl rfl) (by rfl) (by exact(Or.inl rfl)) (by exact Or.inl rfl)) (@aH _ _ _ (cG (dA By Eb Ec aXA (mv 1) (aA (dB rfl (xG rfl G.b_range (aA aI (aA (aQ cB (aU dG rfl G.b_len bY (aA (mv 3) aB)) aI) aB))) (jP (N:=["place", "number"]) ["words", "wants", "number", "word"] (aM jH) [none,some 2] rfl rfl rfl (λx h=>cS h) (by decide +kernel)) (by decide +kernel) rfl (by decide +kernel) (λ_ _ _ _=>(bH (i:=0) (show List.Nodup (["place", "number"]:List Str) by decide +kernel) rfl (Or.inl rfl))) (λ_ _ _ _=>eP) (λ_ _ _ _=>(eG (aA (mv 1) (aA (mv 0) aB))))) aB))))) (@aH _ _ _ (aT (mv 1))))),?_⟩
 walk_at "go";refine⟨by decide,λp hp=>?_⟩
 have ha1:=aO (aG hp (HO.lst [])) ha
 walk_at "go";refine jA (xs:=(cws.map bA).map V.str) (λi σ H'=>∃(ps:List Addr) (v1 v2:Option V),σ=[some (.ref a),some (.ref p),v1,v2]/\Same H H'/\H' p=some (.lst (ps.map V.ref))/\Tups H H' ps (nK cws i))
  ⟨[],_,_,rfl,aG hp _,aE,.nil⟩ (λj σ H' _ ⟨_,_,_,_,e,_⟩=>aO e ha) ?_ ?_
 ·rintro i x σ H2 pt hx ⟨ps,v1,v2,rfl,s2,hH,tp⟩ hpt;have hi:i<cws.length:=by have:=(Ad.mp hx).1;rw[Ab,Ab]at this;exact this
  obtain⟨cw,hcw,hm,rfl⟩:=aQ2 hx;have hc7:=h7 cw hm
  have hwl:(bA cw).length=cw.length:=cP cw
  walk_at "go";rw[hwl];refine⟨⟨by omega,by omega,by omega,by omega⟩,?_⟩
  rw[show ((cw.length:Int)+1-1).toNat=cw.length by omega]
  have s3:=s2.trans (aG hpt (HO.tup [V.int ((0+i:Nat):Int),V.str (bA cw)]))
  have hH3:=aG hpt (HO.tup [V.int ((0+i:Nat):Int),V.str (bA cw)]) _ _ hH
  have tp3:=tp.keep (aG hpt (HO.tup [V.int ((0+i:Nat):Int),V.str (bA cw)]))
  generalize upd H2 pt (HO.tup [V.int ((0+i:Nat):Int),V.str (bA cw)])=H3 at s3 hH3 tp3 ⊢;refine bZM (λj=>[V.int ((0+i:Nat):Int),V.int (1+(j:Int))]) (bK (by omega)) (λj Hc A B hj hs hA=>?_) (λD Hd qs hD sD hDd hqn tq=>?_)
  ·walk_at "go";refine⟨Wk.set rfl (Wk.refl _),?_⟩;walk_at "go";exact⟨by show 2<=sizeLine;decide,λpp hpp=>hA pp _ hpp (aG hpp _) aE⟩
  ·have hpd:=sD _ _ hH3
   have hpl:ps.length<=7*i:=by rw[tp.1];exact nI h7 i
   have e:(List.range cw.length).map (λj:Nat=>[V.int ((0+i:Nat):Int),V.int (1+(j:Int))])=aZX cws i:=by
    unfold aZX;rw[Ac,hcw,Nat.zero_add];rfl
   rw[e]at tq;walk_at "go";refine⟨ps++qs,_,_,rfl,bM hp (s3.trans sD),by rw[aE,Ar],?_⟩
   rw[kI];exact((tp3.keep sD).app (tq.older s3)).put hpd
 ·rintro σ H2 ⟨ps,v1,v2,rfl,s2,hH,tp⟩;walk_at "go";rw[show ((cws.map bA).map V.str).length=cws.length by rw[Ab,Ab]]at tp
  exact q p ps H2 hp s2 hH tp
def fQ(cws:List (List Nat))(i:Nat):Nat:=((cws.take i).map List.length).sum
def nO(cws:List (List Nat))(cs:List Nat)(i:Nat):List V:=(((cs.drop (fQ cws i)).take (cws.getD i []).length).map one).map V.str
def wR(h:cws[i]?=some cw):fQ cws (i+1)=fQ cws i+cw.length:=by
 unfold fQ;rw[Bc,h,Ar,List.sum_append];simp
def dXA(hj:i<=j):qH xs (some (i:Int)) (some (j:Int))=(xs.drop i).take (j-i):=by
 unfold qH;show (xs.drop (if (i:Int)<0 then ((i:Int)+(xs.length:Int)).toNat else min (i:Int).toNat xs.length)).take ((if (j:Int)<0 then ((j:Int)+(xs.length:Int)).toNat else min (j:Int).toNat xs.length)-(if (i:Int)<0 then ((i:Int)+(xs.length:Int)).toNat else min (i:Int).toNat xs.length))=_
 rw[if_neg (by omega),if_neg (by omega),Gu,Gu]
 by_cases h1:i<=xs.length
 ·rw[Nat.min_eq_left h1];by_cases h2:j<=xs.length
  ·rw[Nat.min_eq_left h2]
  ·rw[Gv (by omega),Cd (by rw[Cs];omega),Cd (by rw[Cs];omega)]
 ·rw[Gv (show xs.length<=i by omega),List.drop_of_length_le (Ai _),List.drop_of_length_le (by omega),List.take_nil,List.take_nil]
def oX:Sp:=λvs H Q _=>∃(a b:Addr) (cws:List (List Nat)) (cs:List Nat),vs=[.ref a,.ref b]/\rdL H a=some ((cws.map bA).map V.str)/\rdL H b=some ((cs.map one).map V.str)/\cws.length<=8/\(∀c∈cws,c.length<=7)/\
 ∀(r:Addr) (ps:List Addr) (H':Hp),H r=none->Same H H'->H' r=some (.lst (ps.map V.ref))->(∀p∈ps,p≠r)->Lsts H H' ps ((List.range cws.length).map (nO cws cs))->Q (.ref r) H'
def sc_hoists_of:FnScope ["words", "flags", "hoists", "start", "word", "end"] ["words", "flags"] (aM kS):=by walk_at "sc"
def zD(F:Fun K "hoists_of" "hoists_of" kS f fd)(G:Gs K mg w Zs Zz Zt Zx Z0 Zv Zy Zw Zu):FnOk P w K mg base CX0 1 f fd ["words", "flags"] oX:=by
 refine F.ok sc_hoists_of (λvs H Q E h=>?_) (λcdv A outer s H vs Q E hr h=>?_)
 ·obtain⟨a,b,cws,cs,rfl,_⟩:=h;rfl
 obtain⟨a,b,cws,cs,rfl,ha,hb,h8,h7,q⟩:=h;refine⟨_,(@aD _ _ _ _ _ (aP 2 sc_hoists_of.nd (bR aB)) (@aD _ _ _ _ _ (aP 3 sc_hoists_of.nd aI) (@aD _ _ _ _ _ (cI Bh rfl (dD (mv 0)) (bH (i:=4) sc_hoists_of.nd rfl (Or.inl rfl)) (@aD _ _ _ _ _ (aP 5 sc_hoists_of.nd (aQ cB (mv 3) (aU dG rfl G.b_len bY (aA (mv 4) aB)))) (@aD _ _ _ _ _ (cG (dA By Ed Ee aXH (mv 2) (aA (bN lG rfl G.b_list eU (aA (lD eZW (mv 1) (gB (mv 3)) (gB (mv 5))) aB)) aB))) (@aH _ _ _ (aP 3 sc_hoists_of.nd (mv 5)))))) (@aH _ _ _ (aT (mv 2)))))),?_⟩;have hll:((cws.map bA).map V.str).length=cws.length:=by rw[Ab,Ab]
 walk_at "go";refine⟨by decide,λp hp=>?_⟩
 have ha1:=aO (aG hp (HO.lst [])) ha
 walk_at "go";refine gW (xs:=(cws.map bA).map V.str) (λi σ H'=>∃(ps:List Addr) (v4 v5:Option V),σ=[some (.ref a),some (.ref b),some (.ref p),some (.int ((fQ cws i:Nat):Int)),v4,v5]/\Same H H'/\H' p=some (.lst (ps.map V.ref))/\(∀x∈ps,x≠p)/\ps.length=i/\Lsts H H' ps ((List.range i).map (nO cws cs)))
  ⟨[],_,_,rfl,aG hp _,aE,(λx hx=>nomatch hx),rfl,.nil⟩ (λj σ H' _ ⟨_,_,_,_,e,_⟩=>aO e ha) ?_ ?_
 ·rintro i x σ H2 hx ⟨ps,v4,v5,rfl,s2,hH,hne,hpl,tp⟩;have hi:i<cws.length:=by have:=(Ad.mp hx).1;rw[hll]at this;exact this
  obtain⟨cw,hcw,hm,rfl⟩:=aQ2 hx;have hc7:=h7 cw hm
  have hwl:(bA cw).length=cw.length:=cP cw
  have hb2:=aO s2 hb
  walk_at "go";rw[hwl];intro r1 hr1;rw[show ((fQ cws i:Nat):Int)+((cw.length:Nat):Int)=((fQ cws i+cw.length:Nat):Int) by push_cast;rfl,dXA (by omega),show fQ cws i+cw.length-fQ cws i=cw.length by omega]
  have hrow_e:(((cs.map one).map V.str).drop (fQ cws i)).take cw.length=nO cws cs i:=by
   unfold nO;rw[Ac,hcw,List.map_take,List.map_take,List.map_drop,List.map_drop];rfl
  rw[hrow_e];walk_at "go";intro r2 hr2;have hp1:r2≠p:=λz=>by
   have:=aG hr1 (HO.lst (nO cws cs i)) _ _ hH
   rw[<-z,hr2]at this;cases this
  have s3:Same H2 (upd (upd H2 r1 (HO.lst (nO cws cs i))) r2 (HO.lst (nO cws cs i))):=(aG hr1 _).trans (aG hr2 _)
  have hr3:(upd (upd H2 r1 (HO.lst (nO cws cs i))) r2 (HO.lst (nO cws cs i))) r2=some (.lst (nO cws cs i)):=aE
  have hr20:H2 r2=none:=none_of (aG hr1 _) hr2
  generalize upd (upd H2 r1 (HO.lst (nO cws cs i))) r2 (HO.lst (nO cws cs i))=H3 at s3 hr3 ⊢;have hH3:=s3 _ _ hH
  have hm3:=bW hH3
  walk_at "go";have hne2:∀x∈ps++[r2],x≠p:=λx hx=>by
   rcases Bm.mp hx with e|e
   ·exact hne x e
   ·rw[Ak.mp e];exact hp1
  refine⟨ps++[r2],some (.str (bA cw)),some (.int ((fQ cws i+cw.length:Nat):Int)),?_,bM hp (s2.trans s3),by rw[aE,Ar];rfl,hne2,by rw[Af,hpl];rfl,?_⟩
  ·rw[wR hcw];rfl
  ·rw[Bs,Ar];exact((tp.keep s3).snoc (none_of s2 hr20) hr3).put hne2
 ·rintro σ H2 ⟨ps,v4,v5,rfl,s2,hH,hne,hpl,tp⟩;walk_at "go";rw[hll]at tp;exact q p ps H2 hp s2 hH hne tp
def aJG:FnScope ["text"] ["text"] (aM qK):=by walk_at "sc"
def aX8(F:Fun K "is_flag" "is_flag" qK f fd)(G:Gs K mg w Zs Zz Zt Zx Z0 Zv Zy Zw Zu):FnOk P w K mg base CX0 1 f fd ["text"] mY:=by
 refine F.ok aJG (λvs H Q E h=>?_) (λcdv A outer s H vs Q E hr h=>?_)
 ·obtain⟨z,rfl,_⟩:=h;rfl
 obtain⟨z,rfl,hl,q⟩:=h;refine⟨_,(@aH _ _ _ (aT (sQ (cZ hJ (aU dG rfl G.b_len bY (aA (mv 0) aB)) aI (aW _)) (rZ (cZ bQL (mv 0) (fI rfl G.s_FLAGS) (by rfl)))))),?_⟩
 walk_at "go";refine eW (λhc=>?_) (λhc=>?_)
 ·have e:cD z=subIn z flagsT:=if_pos (by have:=Ba hc;omega)
  rw[e]at q;walk_at "go";exact q
 ·have e:cD z=false:=kK (by have:=Bp (Bq.mpr hc);omega)
  rw[e]at q;exact q
def xU:FnScope ["text", "place"] ["text", "place"] (aM kZ):=by walk_at "sc"
def xW(F:Fun K "may_stand" "may_stand" kZ f fd)(G:Gs K mg w Zs Zz Zt Zx Z0 Zv Zy Zw Zu)(c_is_flag:Cal P w K mg base 1 "is_flag" ["text"] mY):FnOk P w K mg base CX0 2 f fd ["text", "place"] oU:=by
 refine F.ok xU (λvs H Q E h=>?_) (λcdv A outer s H vs Q E hr h=>?_)
 ·obtain⟨z,p,rfl,_⟩:=h;rfl
 obtain⟨z,p,rfl,hl,q⟩:=h;refine⟨_,(@aD _ _ _ _ _ (bU (gL (cX (aZ c_is_flag hr (by decide) rfl (aA (mv 0) aB)))) (@aH _ _ _ (aT iP)) bC) (@aD _ _ _ _ _ (bU (aY bQL (mv 0) (fI rfl G.s_SUBSTITUTES) (by rfl)) (@aH _ _ _ (aT (cZ zF (bN aJ4 rfl G.b_int iF (aA (mv 0) aB)) (mv 1) (aW _)))) bC) (@aH _ _ _ (aT iP)))),?_⟩
 walk_at "go";refine⟨z,rfl,hl,?_⟩;walk_at "go";refine eW (λhc=>?_) (λhc=>?_)
 ·have hf:cD z=false:=by simpa using hc
  have e:dH z p=false:=by
   by_cases h1:z.length=1
   ·obtain⟨c,rfl⟩:=sV h1;rw[eE]at hf;have hf:=Bp hf
    rw[nV];exact Aw λst=>hf (st.elim .inl λz=>.inr z.1)
   ·exact if_neg h1
  rw[e]at q;walk_at "go";exact q
 ·have hf:cD z=true:=by simpa using hc
  obtain⟨c,rfl,hcc⟩:=lP hf;walk_at "go";rw[if_neg Ap,show subIn (one c) (Str.ofString "1234")=decide (eO c) from rV c];rw[nV]at q;refine eW (λhd=>?_) (λhd=>?_)
  ·have hs:=Ba hd
   walk_at "go";refine yX (rM hs) (by show 1<=640;decide) ?_
   walk_at "go";rw[show decide (kJ c p)=decide ((c:Int)-48<p) from Dk.mpr ⟨λst=>st.elim (λl=>absurd hs (gQ l)) (·.2),λl=>.inr ⟨hs,l⟩⟩]at q;exact q
  ·have hs:=Bp (Bq.mpr hd)
   walk_at "go";rw[Aj (show kJ c p from .inl (hcc.resolve_right hs))]at q;exact q
def aQU:FnScope ["flags"] ["flags"] (aM mR):=by walk_at "sc"
def aQ5(F:Fun K "is_hoist" "is_hoist" mR f fd)(G:Gs K mg w Zs Zz Zt Zx Z0 Zv Zy Zw Zu)(c_may_stand:Cal P w K mg base 2 "may_stand" ["text", "place"] oU):FnOk P w K mg base CX0 3 f fd ["flags"] qS:=by
 refine F.ok aQU (λvs H Q E h=>?_) (λcdv A outer s H vs Q E hr h=>?_)
 ·obtain⟨a,zs,rfl,_⟩:=h;rfl
 obtain⟨a,zs,rfl,ha,hl,hz,q⟩:=h;refine⟨_,(@aD _ _ _ _ _ (bU (PW.pt (jR (aY zF (aU dG rfl G.b_len bY (aA (mv 0) aB)) aI (aW _)) (iC (aY aXQ (aU dG rfl G.b_len bY (aA (mv 0) aB)) (xZ rfl G.s_MOST_PLACES) (aW _))))) (@aH _ _ _ (aT iP)) bC) (@aH _ _ _ (aT (aU (dZQ rfl) rfl G.b_all cZZ (aA (dB rfl (cQI rfl G.b_enumerate (aA (mv 0) aB) (xY aI aZ2)) (oJ (N:=["place", "text"]) (by decide +kernel) (by decide +kernel)) (by decide +kernel) rfl (by decide +kernel) (λ_ _ _ _=>(dQ (K:=K) (i:=0) (j:=1) (by rfl) (by rfl) (show List.Nodup (["place", "text"]:List Str) by decide +kernel) (by rfl) (by exact Or.inl rfl) (by exact Or.inr rfl) (by rfl) (by exact Or.inl rfl) (by exact Or.inr rfl))) (λ_ _ _ _=>eP) (λ_ _ _ _=>(aZ c_may_stand hr (by decide) rfl (aA (mv 1) (aA (mv 0) aB))))) aB))))),?_⟩
 have hll:(zs.map V.str).length=zs.length:=Ab ..
 walk_at "go";rw[hll];refine eW (λhc=>?_) (λhc=>?_)
 ·walk_at "go";have e:cT zs=false:=if_pos (.inl (by have:=Ba hc;omega))
  have r:=q H (Same.refl H)
  rw[e]at r;exact r
 ·have hc':=Bp (Bq.mpr hc)
  walk_at "go";rw[hll];refine eW (λhd=>?_) (λhd=>?_)
  ·walk_at "go";have e:cT zs=false:=if_pos (.inr (by have:=Ba hd;omega))
   have r:=q H (Same.refl H)
   rw[e]at r;exact r
  ·have hd':=Bp (Bq.mpr hd)
   walk_at "go";refine⟨⟨by omega,by omega⟩,?_⟩
   walk_at "go";refine aJ7 (λi x=>match x with|.str z=>some (.bl (dH z ((1+i:Nat):Int)))|_=>none) ha (by rw[hll];exact bK (by omega)) (λi x Hc p A B hx sm hp hA=>?_) (λD Hd hD sd hr=>?_)
   ·obtain⟨z,hzi,rfl⟩:=iR hx;walk_at "go";refine⟨Wk.set rfl (Wk.set rfl (Wk.refl _)),?_⟩;walk_at "go";refine⟨z,_,rfl,hz z (An hzi),?_⟩;exact hA _ (Same.refl _)
   ·have e1:((List.range (zs.map V.str).length).filterMap λi=>(λi x=>match x with | .str z=>some (V.bl (dH z ((1+i:Nat):Int))) | _=>none:Nat->V->Option V) i ((zs.map V.str).getD i .non))=((List.range zs.length).map λi=>dH (zs.getD i ⟨#[]⟩) ((1+i:Nat):Int)).map V.bl:=by
     rw[hll,Cg];refine(iO (g:=λi=>some (V.bl (dH (zs.getD i ⟨#[]⟩) ((1+i:Nat):Int)))) λi hi=>?_).trans (rL _ _);have hi':=Bw.mp hi
     rw[Ac,Ah,Aa hi',Ac,Aa hi'];rfl
    rw[e1]at hr;walk_at "go";refine dZN hr ?_;have e2:cT zs=((List.range zs.length).map λi=>dH (zs.getD i ⟨#[]⟩) ((1+i:Nat):Int)).all id:=by
     unfold cT;rw[if_neg (by omega),List.all_map]
     rfl
    have r:=q _ sd
    rw[e2]at r;exact r
def sc_read_of:FnScope ["flags", "word", "flag"] ["flags"] (aM pZ):=by walk_at "sc"
def aX6(F:Fun K "read_of" "read_of" pZ f fd)(G:Gs K mg w Zs Zz Zt Zx Z0 Zv Zy Zw Zu)(c_is_hoist:Cal P w K mg base 3 "is_hoist" ["flags"] qS):FnOk P w K mg base (CXr P w) 4 f fd ["flags"] (tF Zx):=by
 refine F.okX sc_read_of (λvs H Q E h=>?_) (λcdv A outer s H vs Q E hr h=>?_)
 ·obtain⟨a,zs,rfl,_⟩:=h;rfl
 obtain⟨a,zs,rfl,ha,hl,hz,q,qe⟩:=h;refine⟨_,(@aD _ _ _ _ _ (bU (gL (cX (aZ c_is_hoist hr (by decide) rfl (aA (mv 0) aB)))) (@aH _ _ _ (lB fY rfl rfl rfl G.c_NoHoist G.x_NoHoist Ct (@bT _ _ _ _ _ _ aB))) bC) (@aD _ _ _ _ _ (aP 1 sc_read_of.nd cW) (@aD _ _ _ _ _ (PS.nox (cI Bh rfl (dD (mv 0)) (bH (i:=2) sc_read_of.nd rfl (Or.inl rfl)) (@aH _ _ _ (bU (aY bQL (mv 2) (fI rfl G.s_SUBSTITUTES) (by rfl)) (@aH _ _ _ (aP 1 sc_read_of.nd (aQ cB (mv 1) (bE bS (mv 1) (aQ jO (bN aJ4 rfl G.b_int iF (aA (mv 2) aB)) aI) (λ_ _=>rfl))))) (@aH _ _ _ (aP 1 sc_read_of.nd (aQ cB (mv 1) (mv 2)))))))) (@aH _ _ _ (aT (mv 1)))))),?_⟩
 walk_at "go";refine⟨a,zs,rfl,ha,hl,hz,λH1 s1=>?_⟩;have ha1:=aO s1 ha
 walk_at "go";cases hh:cT zs with
 |false=>
  walk_at "go";exact⟨by show 1<=sizeLine;decide,qe hh H1 s1⟩
 |true=>
  walk_at "go";have h7:=gG hh
  refine gW (xs:=zs.map V.str) (λi σ H'=>∃v,σ=[some (.ref a),some (.str (bA (rdC ((zs.map lC).take i)))),v]/\H'=H1)
   ⟨none,rfl,rfl⟩ (λi σ H' _ ⟨_,_,e⟩=>by rw[e];exact ha1) ?_ ?_
  ·rintro i x σ H' hx ⟨v,rfl,rfl⟩;obtain⟨z,hzi,rfl⟩:=iR hx;obtain⟨c,rfl,hci,hcc⟩:=nS hh hzi;have hi:i<(zs.map lC).length:=(Ad.mp hci).1
   have hll:(zs.map lC).length=zs.length:=Ab ..
   have hrl:(rdC ((zs.map lC).take i)).length=i:=oY (by omega)
   have hst:=nU hci
   generalize rdC ((zs.map lC).take i)=wd at hrl hst ⊢;have hwl:(bA wd).length=i:=(cP wd).trans hrl
   walk_at "go";rw[if_neg Ap,show subIn (one c) (Str.ofString "1234")=decide (eO c) from rV c];refine eW (λhd=>?_) (λhd=>?_)
   ·have hs:=Ba hd
    have hlt:c-49<i:=(hcc.resolve_left λl=>gQ l hs).2
    have h49:49<=c:=hs.1
    walk_at "go";refine yX (rM hs) (by show 1<=640;decide) ?_
    walk_at "go";have e1:atI (bA wd).cps.toList ((c:Int)-48-1)=some (wd.getD (c-49) 0):=by
     rw[show ((c:Int)-48-1)=((c-49:Nat):Int) by omega]
     refine aV ?_;rw[gF,Ac,Aa (by omega)]
     rfl
    have h2:(⟨#[wd.getD (c-49) 0]⟩:Str).length=1:=rfl
    refine oQ (by rw[hwl];exact bP (by omega)) e1 ?_
    walk_at "go";refine⟨some (.str (one c)),?_,rfl⟩;rw[hst,show stp wd c=wd.getD (c-49) 0 from if_pos hs,<-lT];rfl
   ·have hs:=Bp (Bq.mpr hd)
    have h2:(one c).length=1:=rfl
    walk_at "go";refine⟨some (.str (one c)),?_,rfl⟩;rw[hst,show stp wd c=c from if_neg hs,<-lT];rfl
  ·rintro σ H' ⟨v,rfl,rfl⟩;walk_at "go";have e:(zs.map lC).take (zs.map V.str).length=zs.map lC:=Cd (by rw[Ab,Ab];exact Ai _)
   rw[e];exact q hh _ s1
abbrev Wt:=Nat×Nat
def dM(w:Wt):List Key:=[Sum.inl (w.1:Int),Sum.inl (w.2:Int)]
def oC{a b:Wt}(h:dM a=dM b):a=b:=by
 unfold dM at h;injection h with h1 h2
 injection h2 with h2 _
 have e1:=Sum.inl.inj h1
 have e2:=Sum.inl.inj h2
 exact Prod.ext (by omega) (by omega)
def dX(m:List (Wt×Nat))(w:Wt):Option Nat:=(m.find? λx=>decide (x.1=w)).map (·.2)
def eF(m:List (Wt×Nat))(f:Nat):List Wt:=(m.filter λx=>decide (x.2=f)).map (·.1)
def ctm(m:List (Wt×Nat))(f:Nat):Nat:=m.countP λx=>decide (x.2=f)
def eY{x:Wt×Nat}{m:List (Wt×Nat)}{w:Wt}:dX (x::m) w=if x.1=w then some x.2 else dX m w:=by
 unfold dX;rw[List.find?_cons];by_cases h:x.1=w
 ·simp[h]
 ·simp[h]
def aXB{m:List (Wt×Nat)}{w:Wt}{f:Nat}(h:dX m w=some f):(w,f)∈m:=by
 induction m with
 |nil=>cases h
 |cons x m ih=>
  rw[eY]at h;by_cases e:x.1=w
  ·rw[if_pos e]at h;cases h;rw[<-e];exact Al
  ·rw[if_neg e]at h;exact Am _ (ih h)
def nY{m:List (Wt×Nat)}(nd:(m.map (·.1)).Nodup){w:Wt}{f:Nat}(h:(w,f)∈m):dX m w=some f:=by
 induction m with
 |nil=>cases h
 |cons x m ih=>
  rw[eY];rw[As,Cc]at nd;rcases Az.mp h with e|e
  ·rw[<-e,if_pos rfl]
  ·rw[if_neg (λz=>nd.1 (by rw[z];exact Bg.mpr ⟨_,e,rfl⟩)),ih nd.2 e]
def hget_none{m:List (Wt×Nat)}{w:Wt}:dX m w=none ↔ w∉m.map (·.1):=by
 induction m with
 |nil=>exact⟨λ_ z=>(nomatch z),λ_=>rfl⟩
 |cons x m ih=>
  rw[eY,As,Az];by_cases e:x.1=w
  ·rw[if_pos e];exact⟨λz=>(nomatch z),λz=>absurd (Or.inl e.symm) z⟩
  ·rw[if_neg e,ih];exact⟨λz y=>y.elim (λq=>e q.symm) z,λz y=>z (Or.inr y)⟩
def by_mem{m:List (Wt×Nat)}{f:Nat}{w:Wt}:w∈eF m f ↔ (w,f)∈m:=by
 unfold eF;rw[Bg];constructor
 ·rintro⟨x,hx,rfl⟩;rw[Dx,Bo]at hx;rw[<-hx.2];exact hx.1
 ·intro h;exact⟨(w,f),Dx.mpr ⟨h,Aj rfl⟩,rfl⟩
def aZM(m:List (Wt×Nat))(f:Nat):(eF m f).length=ctm m f:=by
 unfold eF ctm;rw[Ab,Fi]
structure Asking (ch:Wt->List Nat) (m:List (Wt×Nat)) (first:Wt) (A:List (Nat×Wt)):Prop where
 nd:(A.map (·.1)).Nodup
 ok:∀(j:Nat) f w,A[j]?=some (f,w)->f∈ch w/\(w=first\/∃(g:Nat) (i:Nat) (v:Wt),i<j/\A[i]?=some (g,v)/\dX m w=some g)
def cK(m:List (Wt×Nat))(first:Wt)(A:List (Nat×Wt)):List Wt:=first::(A.map (·.1)).flatMap (eF m)
def nH(m:List (Wt×Nat))(first:Wt)(A:List (Nat×Wt))(f:Nat)(w:Wt):cK m first (A++[(f,w)])=cK m first A++eF m f:=by
 unfold cK;rw[Ar,Et];simp
def reach_mem{m:List (Wt×Nat)}{first:Wt}{A:List (Nat×Wt)}{w:Wt}:w∈cK m first A ↔ w=first\/∃f∈A.map (·.1),(w,f)∈m:=by
 unfold cK;rw[Az,Fz];constructor
 ·rintro(h|⟨f,hf,h⟩)
  ·exact .inl h
  ·exact .inr ⟨f,hf,by_mem.mp h⟩
 ·rintro(h|⟨f,hf,h⟩)
  ·exact .inl h
  ·exact .inr ⟨f,hf,by_mem.mpr h⟩
def sR(m:List (Wt×Nat)):∀ {fs:List Nat},fs.Nodup->(fs.flatMap (eF m)).length=m.countP (λx=>decide (x.2∈fs))
 |[],_=>by simp
 |f::fs,nd=>by
  rw[Fp,Af,aZM,sR m (Cc.mp nd).2];have hf:=(Cc.mp nd).1
  unfold ctm;clear nd;induction m with
  |nil=>rfl
  |cons x m ih=>
   rw[Dj,Dj,Dj,<-ih];by_cases h1:x.2=f
   ·rw[if_pos (Aj h1),if_neg (by rw[Bo,h1];exact hf),if_pos (Aj (by rw[h1];exact Al))]
    omega
   ·rw[if_neg (by rw[Bo];exact h1)]
    by_cases h2:x.2∈fs
    ·rw[if_pos (Aj h2),if_pos (Aj (Am _ h2))];omega
    ·rw[if_neg (by rw[Bo];exact h2),if_neg (by rw[Bo];exact λz=>(Az.mp z).elim h1 h2)]
     omega
def wW{m:List (Wt×Nat)}{first:Wt}{A:List (Nat×Wt)}(nd:(A.map (·.1)).Nodup):(cK m first A).length<=1+m.length:=by
 unfold cK;rw[Ax,sR m nd];have:=List.countP_le_length (p:=λx:Wt×Nat=>decide (x.2∈A.map (·.1))) (l:=m)
 omega
def Asking.snoc{ch:Wt->List Nat}{m:List (Wt×Nat)}{first w:Wt}{A:List (Nat×Wt)}{f:Nat}(ndm:(m.map (·.1)).Nodup)(h:Asking ch m first A)(hf:f∉A.map (·.1))(hc:f∈ch w)(hw:w∈cK m first A):Asking ch m first (A++[(f,w)]):=by
 refine⟨?_,λj g v hj=>?_⟩
 ·rw[Ar];exact List.nodup_append.mpr ⟨h.nd,by simp,λx hx y hy=>by rw[List.mem_singleton.mp hy];intro z;have z2:x=f:=z;rw[z2]at hx;exact hf hx⟩
 ·by_cases hlt:j<A.length
  ·rw[Aq hlt]at hj;obtain⟨h1,h2⟩:=h.ok j g v hj;refine⟨h1,h2.imp id ?_⟩;rintro⟨g',i,v',hi,hA,hg⟩;exact⟨g',i,v',hi,by rw[Aq (by omega)];exact hA,hg⟩
  ·have hj2:j=A.length:=by
    have:=(Ad.mp hj).1
    rw[Af]at this;have:j<A.length+1:=this
    omega
   subst hj2;rw[Au (Ai _),Fg]at hj;cases hj;refine⟨hc,?_⟩;rcases reach_mem.mp hw with e|⟨g',hg',hm⟩
   ·exact .inl e
   ·obtain⟨x,hx,rfl⟩:=Bg.mp hg';obtain⟨i,hi,ei⟩:=Ce.mp hx;exact .inr ⟨x.1,i,x.2,hi,by rw[Aq hi,Aa hi,ei],nY ndm hm⟩
structure Asked (ch:Wt->List Nat) (m:List (Wt×Nat)) (first:Wt) (A:List (Nat×Wt)):Prop extends Asking ch m first A where
 all1:∀f∈ch first,f∈A.map (·.1)
 all:∀w g,(w,g)∈m->g∈A.map (·.1)->∀f∈ch w,f∈A.map (·.1)
def Asking.done{ch:Wt->List Nat}{m:List (Wt×Nat)}{first:Wt}{A:List (Nat×Wt)}(h:Asking ch m first A)(hc:∀w∈cK m first A,∀f∈ch w,f∈A.map (·.1)):Asked ch m first A:=
 ⟨h,hc first (reach_mem.mpr (.inl rfl)),λw g hm hg=>hc w (reach_mem.mpr (.inr ⟨g,hg,hm⟩))⟩
def bXU(m:List (Wt×Nat))(w:Wt)(f:Nat):List (Wt×Nat):=if (dX m w).isSome=true then m.map λx=>if x.1=w then (x.1,f) else x else m++[(w,f)]
def cQP{m:List (Wt×Nat)}{w v:Wt}{f:Nat}:dX (m.map λx=>if x.1=w then (x.1,f) else x) v=(dX m v).map λg=>if v=w then f else g:=by
 induction m with
 |nil=>rfl
 |cons x m ih=>
  rw[As,eY,eY,ih];by_cases e:x.1=w
  ·rw[if_pos e];by_cases e2:x.1=v
   ·rw[if_pos e2,if_pos e2,Eo,if_pos (e2.symm.trans e)]
   ·rw[if_neg e2,if_neg e2]
  ·rw[if_neg e];by_cases e2:x.1=v
   ·rw[if_pos e2,if_pos e2,Eo,if_neg (λz=>e (e2.trans z))]
   ·rw[if_neg e2,if_neg e2]
def keys_map{m:List (Wt×Nat)}{w:Wt}{f:Nat}:(m.map λx=>if x.1=w then (x.1,f) else x).map (·.1)=m.map (·.1):=by
 rw[Cg];refine Do λx _=>?_;show (if x.1=w then (x.1,f) else x).1=x.1
 by_cases e:x.1=w
 ·rw[if_pos e]
 ·rw[if_neg e]
def eXC{m:List (Wt×Nat)}{w:Wt}{f:Nat}(nd:(m.map (·.1)).Nodup)(h:dX m w=some g)(c:Nat):ctm (m.map λx=>if x.1=w then (x.1,f) else x) c+(if c=g then 1 else 0)=ctm m c+(if c=f then 1 else 0):=by
 induction m with
 |nil=>cases h
 |cons x m ih=>
  rw[As,Cc]at nd;rw[eY]at h;unfold ctm at ih ⊢;rw[As,Dj,Dj];by_cases e:x.1=w
  ·rw [if_pos e] at h;cases h;have hm:(m.map λx=>if x.1=w then (x.1,f) else x)=m:=by
    refine(Do λy hy=>?_).trans (List.map_id _);show (if y.1=w then (y.1,f) else y)=y
    rw[if_neg (λz=>nd.1 (by rw[e,<-z];exact Bg.mpr ⟨y,hy,rfl⟩))]
   rw[if_pos e,hm];have e1:(decide ((x.1,f).2=c)=true)=(c=f):=by rw[Bo];exact propext ⟨λz=>z.symm,λz=>z.symm⟩
   have e2:(decide (x.2=c)=true)=(c=x.2):=by rw[Bo];exact propext ⟨λz=>z.symm,λz=>z.symm⟩
   simp only[e1,e2];omega
  ·rw[if_neg e]at h;rw[if_neg e];have r:=ih nd.2 h
   omega
structure Along (ch:Wt->List Nat) (m0:List (Wt×Nat)) (A:List (Nat×Wt)) (f0:Nat) (m:List (Wt×Nat)) (c j:Nat) (w:Wt):Prop where
 keys:m.map (·.1)=m0.map (·.1)
 ok:∀v f,(v,f)∈m->f∈ch v
 ct:∀f,ctm m f+(if f=c then 1 else 0)=ctm m0 f+(if f=f0 then 1 else 0)
 at_:A[j]?=some (c,w)
 same:∀v g i u,dX m0 v=some g->A[i]?=some (g,u)->i<j->dX m v=some g
def dQB{A:List (Nat×Wt)}(nd:(A.map (·.1)).Nodup){u v:Wt}(hi:A[i]?=some (g,u))(hj:A[j]?=some (g,v)):i=j:=by
 obtain⟨h1,e1⟩:=Ad.mp hi;obtain⟨h2,e2⟩:=Ad.mp hj;refine(Fu (h₀:=by rw[Ab];exact h1) (h₁:=by rw[Ab];exact h2) nd).mp ?_
 rw[Gw,Gw,e1,e2]
def Along.step{ch:Wt->List Nat}{m0 m:List (Wt×Nat)}{A:List (Nat×Wt)}{f0 c:Nat}{first w v:Wt}(ha:Asking ch m0 first A)(nd0:(m0.map (·.1)).Nodup)(h:Along ch m0 A f0 m c j w)(hg:dX m0 w=some g)(hi:A[i]?=some (g,v))(hij:i<j):dX m w=some g/\Along ch m0 A f0 (m.map λx=>if x.1=w then (x.1,c) else x) g i v:=by
 have nd:(m.map (·.1)).Nodup:=by rw[h.keys];exact nd0
 have hw:=h.same w g i v hg hi hij
 refine⟨hw,keys_map.trans h.keys,λu f hu=>?_,λf=>?_,hi,λu g' i' u' h1 h2 h3=>?_⟩
 ·obtain⟨x,hx,e⟩:=Bg.mp hu;by_cases ex:x.1=w
  ·rw[if_pos ex]at e;cases e;rw[ex];exact(ha.ok j c w h.at_).1
  ·rw[if_neg ex]at e;exact h.ok u f (e▸hx)
 ·have r1:=eXC (f:=c) nd hw f
  have r2:=h.ct f
  omega
 ·rw[cQP,h.same u g' i' u' h1 h2 (by omega),Eo]
  by_cases e:u=w
  ·subst e;rw[hg]at h1;cases h1;exact absurd (dQB ha.nd hi h2) (by omega)
  ·rw[if_neg e]
def Along.last{ch:Wt->List Nat}{m0 m:List (Wt×Nat)}{A:List (Nat×Wt)}{f0 c:Nat}{first:Wt}(ha:Asking ch m0 first A)(hf:first∉m0.map (·.1))(h:Along ch m0 A f0 m c j first):dX m first=none/\(m++[(first,c)]).map (·.1)=m0.map (·.1)++[first]/\(∀v f,(v,f)∈m++[(first,c)]->f∈ch v)/\∀f,ctm (m++[(first,c)]) f=ctm m0 f+(if f=f0 then 1 else 0):=by
 refine⟨hget_none.mpr (by rw[h.keys];exact hf),by rw[Ar,h.keys];rfl,λv f hv=>?_,λf=>?_⟩
 ·rcases Bm.mp hv with e|e
  ·exact h.ok v f e
  ·cases Ak.mp e;exact(ha.ok j c first h.at_).1
 ·have r:=h.ct f
  unfold ctm at r ⊢;rw[Gf];have e:List.countP (λx:Wt×Nat=>decide (x.2=f)) [(first,c)]=if f=c then 1 else 0:=by
   rw[List.countP_singleton];by_cases z:f=c
   ·rw[if_pos z,if_pos (Aj z.symm)]
   ·rw[if_neg z,if_neg (by rw[Bo];exact λy=>z y.symm)]
  rw[e];exact r
def kG(m:List (Wt×Nat))(first:Wt)(A:List (Nat×Wt))(wl:List Wt):List Wt:=wl.filter λw=>decide (w=first) || (match dX m w with|some g=>decide (g∈A.map (·.1))|none=>false)
def jV(m:List (Wt×Nat))(first:Wt)(A:List (Nat×Wt))(w:Wt):Bool:=decide (w=first) || (match dX m w with|some g=>decide (g∈A.map (·.1))|none=>false)
def aXE{m:List (Wt×Nat)}{first w:Wt}{A:List (Nat×Wt)}(h:w=first):jV m first A w=true:=by
 unfold jV;rw[Aj h,Bool.true_or]
def tX{m:List (Wt×Nat)}{first w:Wt}{A:List (Nat×Wt)}(h:w≠first)(e:dX m w=none):jV m first A w=false:=by
 unfold jV;rw[Aw h,e];rfl
def sN{m:List (Wt×Nat)}{first w:Wt}{A:List (Nat×Wt)}(h:w≠first)(e:dX m w=some g):jV m first A w=decide (g∈A.map (·.1)):=by
 unfold jV;rw[Aw h,e,Gz]
def uG{m:List (Wt×Nat)}{first:Wt}{A:List (Nat×Wt)}{ws:List Wt}{w:Wt}:kG m first A (ws++[w])=kG m first A ws++if jV m first A w=true then [w] else []:=by
 have e:∀l,kG m first A l=l.filter (jV m first A):=λl=>rfl
 rw[e,e,Ff,Fx];rfl
def lackW_mem{m:List (Wt×Nat)}{first w:Wt}{A:List (Nat×Wt)}{ws:List Wt}:w∈kG m first A ws ↔ w∈ws/\jV m first A w=true:=by
 have e:∀l,kG m first A l=l.filter (jV m first A):=λl=>rfl
 rw[e,Dx]
def cXH{m:List (Wt×Nat)}{first:Wt}{A:List (Nat×Wt)}{l r:List Wt}(hk:m.map (·.1)=l)(nd:(l++first::r).Nodup):(kG m first A (l++first::r)).length=1+m.countP (λx=>decide (x.2∈A.map (·.1))):=by
 have hl:(m.map (·.1)).Nodup:=by rw[hk];exact(Cy.mp nd).1
 have hfl:first∉l:=λz=>(Cy.mp nd).2.2 first z first Al rfl
 have hfr:first∉r:=(Cc.mp (Cy.mp nd).2.1).1
 have hrl:∀w∈r,w∉l:=λw hw z=>(Cy.mp nd).2.2 w z w (Am _ hw) rfl
 unfold kG;rw[Ff,Af,Fx,if_pos (by rw[Aj rfl];rfl),Ax]
 have er:r.filter (λw=>decide (w=first) || (match dX m w with|some g=>decide (g∈A.map (·.1))|none=>false))=[]:=by
  refine List.filter_eq_nil_iff.mpr λw hw=>?_;have e:dX m w=none:=hget_none.mpr (by rw[hk];exact hrl w hw)
  rw[Aw (show ¬w=first from λz=>by rw[z]at hw;exact hfr hw),e,Gz]
  exact Ap
 have el:(l.filter (λw=>decide (w=first) || (match dX m w with|some g=>decide (g∈A.map (·.1))|none=>false))).length=m.countP (λx=>decide (x.2∈A.map (·.1))):=by
  rw[<-hk,List.filter_map,Ab,<-Fi];refine List.countP_congr λx hx=>?_;show (decide (x.1=first) || (match dX m x.1 with|some g=>decide (g∈A.map (·.1))|none=>false))=true ↔ _
  rw[nY hl (w:=x.1) (f:=x.2) hx,Aw (λz=>hfl (by rw[<-z,<-hk];exact Bg.mpr ⟨x,hx,rfl⟩)),Gz]
 rw[er,el,List.length_nil];omega
def eXM(m:List (Wt×Nat)):∀ {fs:List Nat},fs.Nodup->m.countP (λx=>decide (x.2∈fs))=(fs.map (ctm m)).sum:=fun {fs} nd=>by
 rw[<-sR m nd];induction fs with
 |nil=>rfl
 |cons f fs ih=>rw[Fp,Af,aZM,As,Cq,ih (Cc.mp nd).2]
def oF(cws:List (List Nat))(k:Nat):List Wt:=(List.range (cws.getD k []).length).map λj=>(k,1+j)
def wlP(cws:List (List Nat))(i:Nat):List Wt:=(List.range i).flatMap (oF cws)
def wl(cws:List (List Nat)):List Wt:=wlP cws cws.length
def wV(w:Wt):List V:=[.int (w.1:Int),.int (w.2:Int)]
def kP(cws:Q5)(i:Nat):wlP cws (i+1)=wlP cws i++oF cws i:=by
 unfold wlP;rw[Bs,Et];simp
def tY(cws:Q5):∀i,nK cws i=(wlP cws i).map wV
 |0=>rfl
 |i+1=>by
  rw[kI,kP,Ar,tY cws i];congr 1
  unfold aZX oF;rw[Cg];refine Do λj _=>?_;show [V.int ((i:Nat):Int),V.int (1+(j:Int))]=[V.int ((i:Nat):Int),V.int ((1+j:Nat):Int)]
  rw[show ((1+j:Nat):Int)=1+(j:Int) by omega]
def wlP_mem{w:Wt}:∀ {i:Nat},w∈wlP cws i ↔ w.1<i/\1<=w.2/\w.2<=(cws.getD w.1 []).length:=fun {i}=>by
 unfold wlP oF;rw[Fz];constructor
 ·rintro⟨k,hk,h⟩;obtain⟨j,hj,rfl⟩:=Bg.mp h;have:=Bw.mp hk
  have:=Bw.mp hj
  exact⟨by omega,by show 1<=1+j;omega,by show 1+j<=(cws.getD k []).length;omega⟩
 ·rintro⟨h1,h2,h3⟩;refine⟨w.1,Bw.mpr h1,Bg.mpr ⟨w.2-1,Bw.mpr (by omega),?_⟩⟩
  exact Prod.ext rfl (by show 1+(w.2-1)=w.2;omega)
def pW(cws:Q5):∀i,(wlP cws i).Nodup
 |0=>List.nodup_nil
 |i+1=>by
  rw[kP];refine Cy.mpr ⟨pW cws i,?_,λa ha b hb e=>?_⟩
  ·unfold oF;exact List.Pairwise.map _ (λa b h=>λz=>h (by have:=Ds Prod.snd z;have e:1+a=1+b:=this;omega)) List.nodup_range
  ·subst e;have h1:=(wlP_mem.mp ha).1
   unfold oF at hb;obtain⟨j,_,rfl⟩:=Bg.mp hb;exact absurd h1 (Dv _)
def bQI(h7:∀c∈cws,c.length<=7)(i:Nat):(wlP cws i).length<=7*i:=by
 have:=nI h7 i
 rw[tY,Ab]at this;exact this
def chW(cws:List (List Nat))(w:Wt):List Nat:=chs (cws.getD w.1 []) (w.2-1)
def dY(ws:List Wt)(ds:List Addr):List (List Key×V):=List.zipWith (λw d=>(dM w,V.ref d)) ws ds
def fQE(H:Hp)(r:Addr)(cws:List (List Nat))(i:Nat):Prop:=∃ds:List Addr,ds.length=i/\H r=some (.dT (dY ((wl cws).take i) ds))/\∀(j:Nat) w d,j<i->(wl cws)[j]?=some w->ds[j]?=some d->H d=some (.lst (((chW cws w).map one).map V.str))
def bZI{ws:List Wt}(nd:ws.Nodup)(hl:ds.length=ws.length){w:Wt}{d:Addr}(hw:ws[j]?=some w)(hd:ds[j]?=some d):cA (dY ws ds) (dM w)=some (.ref d):=by
 induction ws generalizing ds j with
 |nil=>cases hw
 |cons x ws ih=>
  cases ds with
  |nil=>cases hl
  |cons e ds=>
   show cA ((dM x,V.ref e)::dY ws ds) _=_
   cases j with
   |zero=>cases hw;cases hd;exact cJ rfl
   |succ j=>
    have hm:=An (show ws[j]?=some w from hw)
    rw[bZ (λz=>(Cc.mp nd).1 (by rw[oC z];exact hm))]
    exact ih (List.nodup_cons.mp nd).2 (by simpa using hl) hw hd
def aXT{ws:List Wt}{w:Wt}(h:w∉ws):cA (dY ws ds) (dM w)=none:=by
 induction ws generalizing ds with
 |nil=>rfl
 |cons x ws ih=>
  cases ds with
  |nil=>rfl
  |cons e ds=>
   show cA ((dM x,V.ref e)::dY ws ds) _=_
   rw[bZ (λz=>h (by rw[oC z];exact Al))]
   exact ih λz=>h (Am _ z)
def wX{ws:List Wt}(hl:ds.length=ws.length):(dY ws ds).length=ws.length:=by
 unfold dY;rw[List.length_zipWith];omega
def aX9{ws:List Wt}{w:Wt}{d:Addr}(hl:ds.length=ws.length):dY (ws++[w]) (ds++[d])=dY ws ds++[(dM w,V.ref d)]:=by
 unfold dY;rw[List.zipWith_append (by omega)]
 rfl
def mH:Sp:=λvs H Q _=>∃(a:Addr) (cws:List (List Nat)),vs=[.ref a]/\rdL H a=some ((cws.map bA).map V.str)/\cws.length<=8/\(∀c∈cws,c.length<=7)/\
 ∀(r:Addr) (H':Hp),H r=none->Same H H'->fQE H' r cws (wl cws).length->Q (.ref r) H'
def sc_choices_of:FnScope ["words", "choices", "want"] ["words"] (aM iX):=by walk_at "sc"
def vG(F:Fun K "choices_of" "choices_of" iX f fd)(G:Gs K mg w Zs Zz Zt Zx Z0 Zv Zy Zw Zu)(c_wants_of:Cal P w K mg base 1 "wants_of" ["words"] qR)(c_choices_at:Cal P w K mg base 1 "choices_at" ["word", "place"] mQ):FnOk P w K mg base CX0 2 f fd ["words"] mH:=by
 refine F.ok sc_choices_of (λvs H Q E h=>?_) (λcdv A outer s H vs Q E hr h=>?_)
 ·obtain⟨a,cws,rfl,_⟩:=h;rfl
 obtain⟨a,cws,rfl,ha,h8,h7,q⟩:=h;refine⟨_,(@aD _ _ _ _ _ (@aX7 _ _ 1 _ _ _ _ sc_choices_of.nd (by rfl) (by exact(Or.inl rfl)) aQP (by rfl) (by walk_at "o")) (@aD _ _ _ _ _ (cI Bh rfl (dD (aZ c_wants_of hr (by decide) rfl (aA (mv 0) aB))) (bH (i:=2) sc_choices_of.nd rfl (Or.inl rfl)) (@aH _ _ _ (eT (Room.u1 hr) (mv 1) (mv 2) (aZ c_choices_at hr (by decide) rfl (aA (bE bS (mv 0) (bE bS (mv 2) aI (λ_ _=>rfl)) (λ_ _=>rfl)) (aA (bE bS (mv 2) aI (λ_ _=>rfl)) aB))) rfl))) (@aH _ _ _ (aT (mv 1))))),?_⟩
 walk_at "go";intro pc hpc;walk_at "go";refine⟨a,cws,rfl,aO (aG hpc _) ha,h8,h7,λr ps H1 hr s1 e1 tp=>?_⟩;have s01:=(aG hpc (.dT [])).trans s1
 have ec1:=s1 _ _ (aE (H:=H) (a:=pc) (o:=.dT []))
 have hlw:(wl cws).length<=56:=Bi (bQI h7 _) (by omega)
 rw[tY]at tp;have hpl:ps.length=(wl cws).length:=by rw[tp.1,Ab];rfl
 have hpm:(ps.map V.ref).length=(wl cws).length:=by rw[Ab,hpl]
 have tat:∀(j:Nat) p w,ps[j]?=some p->(wl cws)[j]?=some w->H1 p=some (.tup (wV w)):=λj p w hp hw=>(tp.2 j p _ hp (by rw[Ah];exact Ds (Option.map wV) hw)).2
 have r1:=aR e1
 have hcr:pc≠r:=λz=>by rw[<-z,aE]at hr;cases hr
 walk_at "go";refine gW (xs:=ps.map V.ref) (λi σ H'=>∃(v:Option V),σ=[some (.ref a),some (.ref pc),v]/\Same H H'/\(∀b u,b≠pc->H1 b=some u->H' b=some u)/\fQE H' pc cws i)
  ⟨_,rfl,s01,λb u _ h=>h,[],rfl,ec1,λj w d hj=>absurd hj (Ge _)⟩ (λi σ H' _ ⟨_,_,_,k,_⟩=>aR (k _ _ (Ne.symm hcr) e1)) ?_ ?_
 ·rintro i x σ H2 hx ⟨v,rfl,s2,k2,ds,dl,ed,hds⟩;rw[Ah]at hx;cases e:ps[i]? with
  |none=>rw[e]at hx;cases hx
  |some p=>
   rw[e]at hx;cases hx;have hi:i<(wl cws).length:=by rw[<-hpl];exact(Ad.mp e).1
   have ew:(wl cws)[i]?=some (wl cws)[i]:=Aa hi
   have hm:=wlP_mem.mp (Ca hi)
   have htp1:=tat i p _ e ew
   have hpne:p≠pc:=λz=>by rw[z,ec1]at htp1;cases htp1
   have ht:=k2 _ _ hpne htp1
   have hnew:(wl cws)[i]∉(wl cws).take i:=λz=>by
    obtain⟨j,hj,ej⟩:=Ce.mp z;rw[Bx]at hj;rw[List.getElem_take]at ej;have:=(Fu (pW cws cws.length)).mp ej
    omega
   have htk:(wl cws).take (i+1)=(wl cws).take i++[(wl cws)[i]]:=by rw[Bc,ew];rfl
   generalize hw:(wl cws)[i]=w at hm ht hnew htk ew;obtain⟨h1,h2,h3⟩:=hm;have ecw:cws[w.1]?=some (cws.getD w.1 []):=by rw[Ac,Aa h1];rfl
   have h7w:=h7 _ (An ecw)
   have ha2:=aO s2 ha
   walk_at "go";refine bX ht (v:=.int (w.1:Int)) rfl ?_;walk_at "go";refine dF ha2 (v:=.str (bA (cws.getD w.1 []))) (aV (by rw[Ah,Ah,ecw];rfl)) ?_
   walk_at "go";refine bX ht (v:=.int (w.2:Int)) rfl ?_;walk_at "go";refine⟨cws.getD w.1 [],w.2-1,_,rfl,by omega,by omega,h7w,λd H3 hd s3 e3=>?_⟩
   walk_at "go";have dl2:ds.length=((wl cws).take i).length:=by rw[dl,Bx];omega
   refine yT (k:=dM w) (s3 _ _ ed) (s3 _ _ ht) (bK (by rw[wX dl2,Bx];omega)) ?_
   have hdp:d≠pc:=λz=>by rw[z,ed]at hd;cases hd
   refine⟨_,rfl,bM hpc (s2.trans s3),λb u hb hu=>by rw[aJ hb];exact s3 _ _ (k2 b u hb hu),ds++[d],by rw[Af,dl];rfl,?_,λj v' d' hj hv hd'=>?_⟩
   ·rw[aE,kR _ (aXT hnew),htk,aX9 dl2]
   ·by_cases hjl:j<i
    ·rw[Aq (by omega)]at hd'
     have hold:=hds j v' d' hjl hv hd'
     rw[aJ (λz=>by rw[z,ed]at hold;cases hold)]
     exact s3 _ _ hold
    ·have hj2:j=i:=by omega
     subst hj2;rw[ew]at hv;cases hv;rw[Au (by omega),dl,Fg]at hd'
     cases hd';rw[aJ hdp];exact e3
 ·rintro σ H2 ⟨v,rfl,s2,k2,hch⟩;rw[hpm]at hch;walk_at "go";exact q pc H2 hpc s2 hch
def gO(m:List (Wt×Nat)):List (List Key×V):=m.map λx=>(dM x.1,V.str (one x.2))
def kE(m:List (Wt×Nat))(w:Wt):cA (gO m) (dM w)=(dX m w).map λf=>V.str (one f):=by
 induction m with
 |nil=>rfl
 |cons x m ih=>
  show cA ((dM x.1,V.str (one x.2))::gO m) _=_
  rw[eY];by_cases e:x.1=w
  ·rw[if_pos e,cJ (by show dM x.1=dM w;rw[e])]
   rfl
  ·rw[if_neg e,bZ (λz=>e (oC z)),ih]
def fR(A:List (Nat×Wt))(bs:List Addr):List (Key×V):=List.zipWith (λx b=>(Sum.inr (one x.1),V.ref b)) A bs
def lW{A:List (Nat×Wt)}(hl:bs.length=A.length)(f:Nat):(cA (fR A bs) (Sum.inr (one f))).isSome=decide (f∈A.map (·.1)):=by
 induction A generalizing bs with
 |nil=>rfl
 |cons x A ih=>
  cases bs with
  |nil=>cases hl
  |cons b bs=>
   show (cA ((Sum.inr (one x.1),V.ref b)::fR A bs) _).isSome=_
   by_cases e:x.1=f
   ·rw[cJ (by show (Sum.inr (one x.1):Key)=Sum.inr (one f);rw[e]),Aj (by rw[<-e];exact Al)]
    rfl
   ·rw[bZ (λz=>e (key_one.mp z)),ih (by simpa using hl)]
    exact Dk.mpr ⟨λz=>Am _ z,λz=>(Az.mp z).resolve_left λy=>e y.symm⟩
def bX2{A:List (Nat×Wt)}(hl:bs.length=A.length){f:Nat}(h:f∉A.map (·.1)):cA (fR A bs) (Sum.inr (one f))=none:=by
 have r:=lW hl f
 rw[Aw h]at r;cases e:cA (fR A bs) (Sum.inr (one f)) with
 |none=>rfl
 |some v=>rw[e]at r;cases r
def bXI{A:List (Nat×Wt)}{x:Nat×Wt}(hl:bs.length=A.length):fR (A++[x]) (bs++[b])=fR A bs++[(Sum.inr (one x.1),V.ref b)]:=by
 unfold fR;rw[List.zipWith_append (by omega)]
 rfl
def tG{A:List (Nat×Wt)}(hl:bs.length=A.length):(fR A bs).length=A.length:=by
 unfold fR;rw[List.length_zipWith];omega
def bJX{A:List (Nat×Wt)}(nd:(A.map (·.1)).Nodup)(hl:bs.length=A.length){f:Nat}{w:Wt}(hA:A[j]?=some (f,w))(hb:bs[j]?=some b):cA (fR A bs) (Sum.inr (one f))=some (.ref b):=by
 induction A generalizing bs j with
 |nil=>cases hA
 |cons x A ih=>
  cases bs with
  |nil=>cases hl
  |cons e bs=>
   show cA ((Sum.inr (one x.1),V.ref e)::fR A bs) _=_
   rw[As,Cc]at nd;cases j with
   |zero=>cases hA;cases hb;exact cJ rfl
   |succ j=>
    have hm:f∈A.map (·.1):=Bg.mpr ⟨(f,w),An (show A[j]?=some (f,w) from hA),rfl⟩
    rw[bZ (λz=>nd.1 (by rw[key_one.mp z];exact hm))]
    exact ih nd.2 (by simpa using hl) hA hb
def WtsAt(H:Hp)(rs:List Addr)(ws:List Wt):Prop:=rs.length=ws.length/\∀(j:Nat) r w,rs[j]?=some r->ws[j]?=some w->H r=some (.tup (wV w))
def WtsAt.keep{rs:List Addr}{ws:List Wt}(h:WtsAt H rs ws)(k:∀r w,H r=some (.tup (wV w))->H' r=some (.tup (wV w))):WtsAt H' rs ws:=⟨h.1,λj r w hr hw=>k _ _ (h.2 j r w hr hw)⟩
def WtsAt.app{rs qs:List Addr}{ws vs:List Wt}(h:WtsAt H rs ws)(g:WtsAt H qs vs):WtsAt H (rs++qs) (ws++vs):=by
 refine⟨by rw[Af,Af,h.1,g.1],λj r w hr hw=>?_⟩
 by_cases hj:j<rs.length
 ·rw[Aq hj]at hr;rw[Aq (by rw[<-h.1];exact hj)]at hw
  exact h.2 j r w hr hw
 ·rw[Au (by omega)]at hr
  rw[Au (by rw[<-h.1];omega),<-h.1]at hw
  exact g.2 _ r w hr hw
def WtsAt.one{w:Wt}(h:H r=some (.tup (wV w))):WtsAt H [r] [w]:=⟨rfl,λj q v hq hv=>by
 cases j with
 |zero=>cases hq;cases hv;exact h
 |succ j=>cases hq⟩
def ChRd(H:Hp)(r:Addr)(cws:List (List Nat)):Prop:=∃ds:List Addr,ds.length=(wl cws).length/\Rd H r (.dT (dY (wl cws) ds))/\∀(j:Nat) w d,(wl cws)[j]?=some w->ds[j]?=some d->H d=some (.lst (((chW cws w).map one).map V.str))
def ChRd.keep(h:ChRd H r cws)(s:Same H H'):ChRd H' r cws:=by
 obtain⟨ds,h1,h2,h3⟩:=h;exact⟨ds,h1,h2.elim (λe=>.inl (s _ _ e)) λ⟨o,e⟩=>.inr ⟨o,s _ _ e⟩,λj w d hw hd=>s _ _ (h3 j w d hw hd)⟩
structure HungOk (cws:List (List Nat)) (m:List (Wt×Nat)):Prop where
 nd:(m.map (·.1)).Nodup
 sub:∀x∈m,x.1∈wl cws
def cQV(hL:∀c∈cws,c.length<=7/\∀d∈c,aX d){w:Wt}(hw:w∈wl cws){f:Nat}(hf:f∈chW cws w):cY f:=by
 obtain⟨h1,h2,h3⟩:=wlP_mem.mp hw;have ecw:cws[w.1]?=some (cws.getD w.1 []):=by rw[Ac,Aa h1];rfl
 rcases ch_iff.mp hf with e|⟨n,_,h4,_,e⟩
 ·rw[e];exact .inl (kM (hL _ (An ecw)).2 (by omega))
 ·rw[e];exact .inr ⟨by omega,by omega⟩
def bJV{m:List (Wt×Nat)}{first:Wt}{A:List (Nat×Wt)}(hm:HungOk cws m)(hfw:first∈wl cws)(h:Asking (chW cws) m first A){f:Nat}{w:Wt}(hj:A[j]?=some (f,w)):w∈wl cws:=by
 rcases (h.ok j f w hj).2 with e|⟨g,i,v,_,_,hg⟩
 ·rw[e];exact hfw
 ·exact hm.sub _ (aXB hg)
def bQS{m:List (Wt×Nat)}{first:Wt}{A:List (Nat×Wt)}(hm:HungOk cws m)(hfw:first∈wl cws)(hL:∀c∈cws,c.length<=7/\∀d∈c,aX d)(h:Asking (chW cws) m first A):A.length<=27:=by
 have r:=aZH (m:=flagsT.cps.toList) h.nd λf hf=>by
  obtain⟨x,hx,rfl⟩:=Bg.mp hf;obtain⟨j,hj,e⟩:=Ce.mp hx;have hj2:A[j]?=some (x.1,x.2):=by rw[Aa hj,e]
  exact flags_mem.mpr (cQV hL (bJV hm hfw h hj2) (h.ok j _ _ hj2).1)
 rw[Ab]at r;exact r
def mM:Sp:=λvs H Q _=>∃(bf ac ah:Addr) (cws:List (List Nat)) (m:List (Wt×Nat)) (first:Wt),vs=[.ref bf,.ref ac,.ref ah]/\H bf=some (.tup (wV first))/\first∈wl cws/\ChRd H ac cws/\H ah=some (.dT (gO m))/\HungOk cws m/\m.length<=56/\cws.length<=8/\(∀c∈cws,c.length<=7/\∀d∈c,aX d)/\
 ∀(r:Addr) (A:List (Nat×Wt)) (bs:List Addr) (H':Hp),H r=none->Same H H'->H' r=some (.dK (fR A bs))->WtsAt H' bs (A.map (·.2))->Asked (chW cws) m first A->Q (.ref r) H'
def sc_asked_from:FnScope ["first", "choices", "hung", "asked", "reached", "at", "asking", "flag"] ["first", "choices", "hung"] (aM fV):=by walk_at "sc"
def uR(F:Fun K "asked_from" "asked_from" fV f fd)(G:Gs K mg w Zs Zz Zt Zx Z0 Zv Zy Zw Zu):FnOk P w K mg base CX0 1 f fd ["first", "choices", "hung"] mM:=by
 refine F.ok sc_asked_from (λvs H Q E h=>?_) (λcdv A outer s H vs Q E hr h=>?_)
 ·obtain⟨bf,ac,ah,cws,m,first,rfl,_⟩:=h;rfl
 obtain⟨bf,ac,ah,cws,m,first,rfl,hbf,hfw,hch,hah,hm,hml,h8,hL,q⟩:=h
 refine⟨_,(@aD _ _ _ _ _ (aP 3 sc_asked_from.nd sW) (@aD _ _ _ _ _ (aP 4 sc_asked_from.nd (bR (aA (mv 0) aB))) (@aD _ _ _ _ _ (aP 5 sc_asked_from.nd aI) (@aD _ _ _ _ _ (aQS Bh (aY zF (mv 5) (aU dG rfl G.b_len bY (aA (mv 4) aB)) (aW _)) (@aD _ _ _ _ _ (aP 6 sc_asked_from.nd (bE bS (mv 4) (mv 5) (λ_ _=>rfl))) (@aD _ _ _ _ _ (cI Bh rfl (dD (fH (Room.u1 hr) (mv 1) (mv 6) (λ_ _=>rfl))) (bH (i:=7) sc_asked_from.nd rfl (Or.inr rfl)) (@aH _ _ _ (bU (aY (bJM (Room.u1 hr)) (mv 7) (mv 3) (by rfl)) (@aD _ _ _ _ _ (eT (Room.u1 hr) (mv 3) (mv 7) (mv 6) rfl) (@aH _ _ _ (cG (dA By Eb Ec aXA (mv 4) (aA (aZF (dB rfl (oE (mv 2)) (jP (N:=["want", "flag", "hung"]) ["first", "choices", "hung", "asked", "reached", "at", "asking", "flag"] (aM fV) [none,some 7,some 2] rfl rfl rfl (λx h=>cS h) (by decide +kernel)) (by decide +kernel) rfl (by decide +kernel) (λ_ _ _ _=>(bH (i:=0) (show List.Nodup (["want", "flag", "hung"]:List Str) by decide +kernel) rfl (Or.inl rfl))) (λ_ _ _ _=>(mX (aY hJ (fH (Room.u1 hr) (mv 2) (mv 0) (λ_ _=>rfl)) (mv 1) (aW _)))) (λ_ _ _ _=>(mv 0)))) aB))))) bC))) (@aH _ _ _ (aP 5 sc_asked_from.nd (aQ cB (mv 5) aI)))))) (@aH _ _ _ (aT (mv 3))))))),?_⟩
 walk_at "go";intro pa hpa;walk_at "go";refine⟨by show 1<=sizeLine;decide,λpr hpr=>?_⟩
 have s1:=(aG hpa (.dK [])).trans (aG hpr (.lst [.ref bf]))
 have npr:pa≠pr:=λz=>by rw[<-z,aE]at hpr;cases hpr
 have ea1:(upd (upd H pa (.dK [])) pr (.lst [.ref bf])) pa=some (.dK []):=by rw[aJ npr,aE]
 have er1:(upd (upd H pa (.dK [])) pr (.lst [.ref bf])) pr=_:=aE
 have hpr0:H pr=none:=none_of (aG hpa _) hpr
 generalize upd (upd H pa (.dK [])) pr (.lst [.ref bf])=H1 at s1 ea1 er1 ⊢;walk_at "go";refine ⟨λn σ H'=>∃ (A:List (Nat×Wt)) (bs rs:List Addr) (t:Nat) (v1 v2:Option V),σ=[some (.ref bf),some (.ref ac),some (.ref ah),some (.ref pa),some (.ref pr),some (.int (t:Int)),v1,v2]/\Same H H'/\H' pa=some (.dK (fR A bs))/\WtsAt H' bs (A.map (·.2))/\H' pr=some (.lst (rs.map V.ref))/\WtsAt H' rs (cK m first A)/\
     Asking (chW cws) m first A/\t<=(cK m first A).length/\(∀(j:Nat) w,j<t->(cK m first A)[j]?=some w->∀f∈chW cws w,f∈A.map (·.1))/\n=1+m.length-t,⟨_,[],[],[bf],0,_,_,rfl,s1,ea1,⟨rfl,λj r w hr=>(nomatch hr)⟩,er1,.one (s1 _ _ hbf),⟨List.nodup_nil,λj f w hj=>(nomatch hj)⟩,Dc _,λj w hj=>absurd hj (Ge _),rfl⟩,?_⟩
 rintro n σ H2 ⟨A,bs,rs,t,v1,v2,rfl,s2,ea2,wb2,er2,wr2,hask,htl,hcl,rfl⟩;have hrl:(rs.map V.ref).length=(cK m first A).length:=by rw[Ab,wr2.1]
 have rr2:=aR er2
 walk_at "go";rw[hrl];refine eW (λhd=>?_) (λhd=>?_)
 ·have hd':=Ba hd
  have ht:t<(cK m first A).length:=by omega
  have hrm:=wW (m:=m) (first:=first) hask.nd
  have htr:t<rs.length:=by rw[wr2.1];exact ht
  have ew:(cK m first A)[t]?=some (cK m first A)[t]:=Aa ht
  have er:rs[t]?=some rs[t]:=Aa htr
  have hwt:=wr2.2 t _ _ er ew
  have hww:(cK m first A)[t]∈wl cws:=by
   rcases reach_mem.mp (Ca ht) with e|⟨f,_,hm2⟩
   ·rw[e];exact hfw
   ·exact hm.sub _ hm2
  generalize hbw:rs[t]=b at hwt er;generalize hwe:(cK m first A)[t]=w at hwt hww ew
  clear hbw hwe hd hd';obtain⟨ds,d1,d2,d3⟩:=id hch;obtain⟨jw,hjw,ejw⟩:=Ce.mp hww;have ejw2:(wl cws)[jw]?=some w:=by rw[Aa hjw,ejw]
  have edw:ds[jw]?=some (ds[jw]'(by omega)):=Aa (by omega)
  have hdlH:=d3 jw w _ ejw2 edw
  have hdv:=bZI (pW cws cws.length) d1 ejw2 edw
  generalize (ds[jw]'(by omega))=dl at hdlH hdv
  have hdl:=s2 _ _ hdlH
  have d22:Rd H2 ac (.dT (dY (wl cws) ds)):=d2.elim (λe=>.inl (s2 _ _ e)) λ⟨o,e⟩=>.inr ⟨o,s2 _ _ e⟩
  refine⟨λσ' H'=>∃(A:List (Nat×Wt)) (bs rs:List Addr) (v1 v2:Option V),σ'=[some (.ref bf),some (.ref ac),some (.ref ah),some (.ref pa),some (.ref pr),some (.int ((t+1:Nat):Int)),v1,v2]/\Same H H'/\H' pa=some (.dK (fR A bs))/\WtsAt H' bs (A.map (·.2))/\H' pr=some (.lst (rs.map V.ref))/\WtsAt H' rs (cK m first A)/\
   Asking (chW cws) m first A/\t+1<=(cK m first A).length/\(∀(j:Nat) w,j<t+1->(cK m first A)[j]?=some w->∀f∈chW cws w,f∈A.map (·.1)),?_,?_⟩
  ·rintro σ' H' ⟨A',bs',rs',v1',v2',rfl,g1,g2,g3,g4,g5,g6,g7,g8⟩;exact⟨1+m.length-(t+1),by omega,A',bs',rs',t+1,v1',v2',rfl,g1,g2,g3,g4,g5,g6,g7,g8,rfl⟩
  walk_at "go";refine dF rr2 (v:=.ref b) (aV (by rw[Ah,er];rfl)) ?_
  walk_at "go";refine aXO (k:=dM w) d22 hwt hdv ?_;have rdl:=aR hdl
  have hcl5:=(dXG (cws.getD w.1 []) (w.2-1)).2
  have hcm:(((chW cws w).map one).map V.str).length=(chW cws w).length:=by rw[Ab,Ab]
  walk_at "go";have kt:∀ {H':Hp} {p:Addr} {u u':HO},H' p=some u->(∀ws,u≠.tup ws)->∀r w,H' r=some (.tup (wV w))->(upd H' p u') r=some (.tup (wV w)):=fun {H' p u u'} e ne r w h=>by
   rw[aJ (λz=>by rw[z,e]at h;cases h;exact ne _ rfl)]
   exact h
  refine gW (xs:=((chW cws w).map one).map V.str) (λi σ H'=>∃ (A:List (Nat×Wt)) (bs rs:List Addr) (v2:Option V),σ=[some (.ref bf),some (.ref ac),some (.ref ah),some (.ref pa),some (.ref pr),some (.int (t:Int)),some (.ref b),v2]/\Same H H'/\H' pa=some (.dK (fR A bs))/\WtsAt H' bs (A.map (·.2))/\H' pr=some (.lst (rs.map V.ref))/\WtsAt H' rs (cK m first A)/\
      H' b=some (.tup (wV w))/\Asking (chW cws) m first A/\(cK m first A)[t]?=some w/\(∀(j:Nat) v,j<t->(cK m first A)[j]?=some v->∀f∈chW cws v,f∈A.map (·.1))/\∀f∈(chW cws w).take i,f∈A.map (·.1))
   ⟨A,bs,rs,_,rfl,s2,ea2,wb2,er2,wr2,hwt,hask,ew,hcl,λf hf=>(nomatch hf)⟩ (λi σ H' _ ⟨_,_,_,_,_,e,_⟩=>aR (e _ _ hdlH)) ?_ ?_
  ·clear hask ew hcl hrm htl hrl rr2 wr2 er2 wb2 ea2 er;rintro i x σ H3 hx ⟨A,bs,rs,v2,rfl,s3,ea,wb,er,wr,hb,hask,ew,hcl,hpre⟩;rw[Ah,Ah]at hx;cases ef:(chW cws w)[i]? with
   |none=>rw[ef]at hx;cases hx
   |some f=>
    rw[ef]at hx;cases hx;have hfc:=An ef
    have htk:(chW cws w).take (i+1)=(chW cws w).take i++[f]:=by rw[Bc,ef];rfl
    have hbl:bs.length=A.length:=by rw[wb.1,Ab]
    have hAl:=bQS hm hfw hL hask
    walk_at "go";refine dZ4 (neg:=true) (z:=one f) (.inl ea) ?_;rw[if_pos rfl,lW hbl];refine eW (λhd=>?_) (λhd=>?_)
    ·have hni:f∉A.map (·.1):=λz=>by rw[Aj z]at hd;cases hd
     walk_at "go";refine fX (z:=one f) ea (bK (by rw[tG hbl];omega)) ?_
     rw[kR _ (bX2 hbl hni),<-bXI (x:=(f,w)) hbl];have s4:Same H (upd H3 pa (.dK (fR (A++[(f,w)]) (bs++[b])))):=bM hpa s3
     have ea4:(upd H3 pa (.dK (fR (A++[(f,w)]) (bs++[b])))) pa=_:=aE
     have er4:(upd H3 pa (.dK (fR (A++[(f,w)]) (bs++[b])))) pr=_:=(aJ (Ne.symm npr)).trans er
     have k4:=kt (u':=.dK (fR (A++[(f,w)]) (bs++[b]))) ea (λws z=>nomatch z)
     have wb4:=wb.keep k4
     have wr4:=wr.keep k4
     have hb4:=k4 _ _ hb
     generalize upd H3 pa (.dK (fR (A++[(f,w)]) (bs++[b])))=H4 at s4 ea4 er4 wb4 wr4 hb4 ⊢;have ah4:=s4 _ _ hah
     clear k4 wb wr er ea s3 hb;walk_at "go";refine zI ah4 λo=>?_;have fz:(upd H4 ah (.frz o (.dT (gO m)))) ah=_:=aE
     have hkl:(gO m).length=m.length:=by unfold gO;rw[Ab]
     refine iA (n:=m.length) (λD i ys Hc=>Same (upd H4 ah (.frz o (.dT (gO m)))) Hc/\∃qs,ys=qs.map V.ref/\WtsAt Hc qs (eF (m.take i) f)) (bK (by omega)) (λD hD=>⟨aG hD _,[],rfl,rfl,λj r w hr=>(nomatch hr)⟩) (λD i ys Hc _ r h=>⟨r.1 _ _ fz,by omega⟩) (λD ys Hc _ r=>⟨r.1 _ _ fz,hkl⟩) ?_ ?_
     ·rintro D i2 ys Hc x H' A' B' hD hi2 ⟨sm,qs,rfl,wq⟩ hDc ⟨rfl,kv,b2,hkv,rfl,hb2⟩ hA' hB';have em:m[i2]?=some m[i2]:=Aa hi2
      unfold gO at hkv;rw[Ah,em]at hkv;cases hkv;have hbt:H' b2=some (.tup (wV m[i2].1)):=hb2
      have hv:cA (gO m) (dM m[i2].1)=some (.str (one m[i2].2)):=by
       rw[kE,nY hm.nd (w:=m[i2].1) (f:=m[i2].2) (Ca hi2)];rfl
      have tk:m.take (i2+1)=m.take i2++[m[i2]]:=by rw[Bc,em];rfl
      rw[tk]at hA' hB';generalize m[i2]=x2 at hbt hv hA' hB';walk_at "go";refine⟨Wk.set rfl (Wk.refl _),?_⟩;walk_at "go";refine aXO (k:=dM x2.1) (.inr ⟨o,sm _ _ fz⟩) hbt hv ?_;walk_at "go";rw[show decide (one x2.2=one f)=decide (x2.2=f) from xP _ _];refine eW (λhe=>?_) (λhe=>?_)
      ·have he':=Ba he
       walk_at "go";refine hA' _ _ hDc ⟨bM hD sm,qs++[b2],by rw[Ar];rfl,?_⟩
       rw[show eF (m.take i2++[x2]) f=eF (m.take i2) f++[x2.1] by unfold eF;rw[List.filter_append,List.map_append];simp[he']]
       exact(wq.app (.one hbt)).keep (kt hDc (λws z=>nomatch z))
      ·have he':=Bp (Bq.mpr he)
       walk_at "go";refine hB' _ hDc ⟨sm,qs,rfl,?_⟩;rw[show eF (m.take i2++[x2]) f=eF (m.take i2) f by unfold eF;rw[List.filter_append,List.map_append];simp[he']]
       exact wq
     ·rintro D ys Hc hD ⟨sm,qs,rfl,wq⟩ hDc _;rw [Br] at wq;have hD4:H4 D=none:=by
       by_cases z:D=ah
       ·rw[z,aE]at hD;cases hD
       ·rw[aJ z]at hD;exact hD
      have su:=oW ah4 (λo v z=>nomatch z) sm
      have eu:=dP (Hs:=H4) hDc (λo v z=>nomatch z)
      have wqu:WtsAt (unf H4 Hc) qs (eF m f):=wq.keep λr w h=>dP h (λo v z=>nomatch z)
      generalize unf H4 Hc=Hu at su eu wqu;have eru:=su _ _ er4
      have hmr:=bW eru
      have hmd:=bW eu
      have nDr:pr≠D:=bL er4 hD4
      have hq1:qs.length<=56:=by rw[wqu.1,aZM];unfold ctm;exact Bi List.countP_le_length hml
      have hr1:rs.length<=57:=by rw[wr4.1];exact Bi (wW hask.nd) (by omega)
      have hlen:(rs.map V.ref).length+(qs.map V.ref).length<=sizeLine:=bP (by rw[Ab,Ab];omega)
      walk_at "go";have kr:=kt (u':=.lst (rs.map V.ref++qs.map V.ref)) eru (λws z=>nomatch z)
      have hRt:=(Ad.mp ew).1
      refine⟨A++[(f,w)],bs++[b],rs++qs,_,rfl,bM hpr0 (s4.trans su),?_,?_,?_,?_,?_,hask.snoc hm.nd hni hfc (An ew),?_,λj v hj hv=>?_,λg hg=>?_⟩
      ·rw[aJ npr];exact su _ _ ea4
      ·rw[Ar];exact((wb4.keep λr w h=>su _ _ h).app (.one (su _ _ hb4))).keep kr
      ·rw[aE,Ar]
      ·rw[nH];exact((wr4.keep λr w h=>su _ _ h).app wqu).keep kr
      ·exact kr _ _ (su _ _ hb4)
      ·rw[nH,Aq hRt];exact ew
      ·rw[nH,Aq (by omega)]at hv
       intro g hg;rw[Ar];exact Cb _ (hcl j v hj hv g hg)
      ·rw[htk]at hg;rw[Ar];rcases Bm.mp hg with z|z
       ·exact Cb _ (hpre g z)
       ·rw[Ak.mp z];exact Be _ (Ak.mpr rfl)
    ·have hin:f∈A.map (·.1):=by
      rw[Bool.not_eq_true,Bool.not_eq_false']at hd;exact Ba hd
     walk_at "go";refine⟨A,bs,rs,_,rfl,s3,ea,wb,er,wr,hb,hask,ew,hcl,λg hg=>?_⟩;rw[htk]at hg;rcases Bm.mp hg with z|z
     ·exact hpre g z
     ·rw[Ak.mp z];exact hin
  ·clear hask ew hcl hrm htl hrl rr2 wr2 er2 wb2 ea2 er;rintro σ H3 ⟨A,bs,rs,v2,rfl,s3,ea,wb,er,wr,hb,hask,ew,hcl,hpre⟩;rw[hcm,Br]at hpre;walk_at "go";refine⟨A,bs,rs,_,_,rfl,s3,ea,wb,er,wr,hask,(Ad.mp ew).1,λj v hj hv=>?_⟩;by_cases hjt:j<t
   ·exact hcl j v hjt hv
   ·have:j=t:=by omega
    subst this;rw[ew]at hv;cases hv;exact hpre
 ·have hd':=Bp (Bq.mpr hd)
  walk_at "go";refine q pa A bs H2 hpa s2 ea2 wb2 (hask.done λw hw f hf=>?_);obtain⟨j,hj,ej⟩:=Ce.mp hw;exact hcl j w (by omega) (by rw[Aa hj,ej]) f hf
def zP{m:List (Wt×Nat)}{w:Wt}{f:Nat}:dL (gO m) (dM w) (.str (one f))=gO (bXU m w f):=by
 have e:((gO m).any λkv=>decide (kv.1=dM w))=(dX m w).isSome:=by
  rw[fM,kE];cases dX m w<;>rfl
 unfold dL bXU;rw[e];by_cases h:(dX m w).isSome=true
 ·rw[if_pos h,if_pos h];unfold gO;rw[Cg,Cg];refine Do λx _=>?_;show (if dM x.1=dM w then (dM x.1,V.str (one f)) else (dM x.1,V.str (one x.2)))=(λx:Wt×Nat=>(dM x.1,V.str (one x.2))) (if x.1=w then (x.1,f) else x)
  by_cases ex:x.1=w
  ·rw[if_pos ex,if_pos (by rw[ex])]
  ·rw[if_neg ex,if_neg (λz=>ex (oC z))]
 ·rw[if_neg h,if_neg h];unfold gO;rw[Ar];rfl
def mL:Sp:=λvs H Q _=>∃(aa ah:Addr) (cws:List (List Nat)) (m:List (Wt×Nat)) (first:Wt) (A:List (Nat×Wt)) (bs:List Addr) (f0:Nat),vs=[.str (one f0),.ref aa,.ref ah]/\H aa=some (.dK (fR A bs))/\WtsAt H bs (A.map (·.2))/\Asking (chW cws) m first A/\H ah=some (.dT (gO m))/\(m.map (·.1)).Nodup/\first∉m.map (·.1)/\(∀v f,(v,f)∈m->f∈chW cws v)/\f0∈A.map (·.1)/\m.length<=56/\
 ∀(m':List (Wt×Nat)) (H':Hp),(∀b u,b≠ah->H b=some u->H' b=some u)->H' ah=some (.dT (gO m'))->m'.map (·.1)=m.map (·.1)++[first]->(∀v f,(v,f)∈m'->f∈chW cws v)->(∀f,ctm m' f=ctm m f+(if f=f0 then 1 else 0))->Q .non H'
def sc_hang_along:FnScope ["flag", "asked", "hung", "want", "given"] ["flag", "asked", "hung"] (aM jC):=by walk_at "sc"
def uZ(F:Fun K "hang_along" "hang_along" jC f fd)(G:Gs K mg w Zs Zz Zt Zx Z0 Zv Zy Zw Zu):FnOk P w K mg base CX0 1 f fd ["flag", "asked", "hung"] mL:=by
 refine F.ok sc_hang_along (λvs H Q E h=>?_) (λcdv A outer s H vs Q E hr h=>?_)
 ·obtain⟨aa,ah,cws,m,first,A,bs,f0,rfl,_⟩:=h;rfl
 obtain⟨aa,ah,cws,m,first,A,bs,f0,rfl,haa,hwb,hask,hah,nd,hnf,hmc,hf0,hml,q⟩:=h
 refine⟨_,(@aH _ _ _ (aQS Bh (aY pE (mv 0) dS (aW _)) (@aD _ _ _ _ _ (aP 3 sc_hang_along.nd (fH (Room.u1 hr) (mv 1) (mv 0) (λ_ _=>rfl))) (@aD _ _ _ _ _ (aP 4 sc_hang_along.nd (cR Bb Bv (cZP (Room.u1 hr)) (mv 2) (aA (mv 3) aB))) (@aD _ _ _ _ _ (eT (Room.u1 hr) (mv 2) (mv 3) (mv 0) rfl) (@aH _ _ _ (aP 0 sc_hang_along.nd (mv 4)))))))),?_⟩;have hbl:bs.length=A.length:=by rw[hwb.1,Ab]
 have nah:aa≠ah:=λz=>by rw[z,hah]at haa;cases haa
 obtain⟨x0,hx0,e0⟩:=Bg.mp hf0;obtain⟨j0,hj0,ej0⟩:=Ce.mp hx0;have ej:A[j0]?=some (f0,x0.2):=by rw[Aa hj0,ej0,<-e0]
 walk_at "go";refine ⟨λn σ H'=>(∃ (m2:List (Wt×Nat)) (c j:Nat) (w:Wt) (v1 v2:Option V),σ=[some (.str (one c)),some (.ref aa),some (.ref ah),v1,v2]/\(∀ b u,b≠ah->H b=some u->H' b=some u)/\H' ah=some (.dT (gO m2))/\Along (chW cws) m A f0 m2 c j w/\n=j+1)\/
     (∃(m':List (Wt×Nat)) (v1 v2:Option V),σ=[some .non,some (.ref aa),some (.ref ah),v1,v2]/\(∀b u,b≠ah->H b=some u->H' b=some u)/\H' ah=some (.dT (gO m'))/\m'.map (·.1)=m.map (·.1)++[first]/\(∀v f,(v,f)∈m'->f∈chW cws v)/\(∀f,ctm m' f=ctm m f+(if f=f0 then 1 else 0))/\n=0),
  ⟨_,.inl ⟨m,f0,j0,x0.2,none,none,rfl,λb u _ h=>h,hah,⟨rfl,hmc,λf=>rfl,ej,λv g i u hg _ _=>hg⟩,rfl⟩⟩,?_⟩
 rintro n σ H2 (⟨m2,c,j,w,v1,v2,rfl,fr,eh,al,rfl⟩|⟨m',v1,v2,rfl,fr,eh,hk,hc,hct,rfl⟩)
 ·walk_at "go";rw[show (!decide (V.str (one c)=V.non))=true from rfl];walk_at "go";have hjl:=(Ad.mp al.at_).1
  have ebj:bs[j]?=some (bs[j]'(by omega)):=Aa (by omega)
  have hbt:=hwb.2 j _ w ebj (by rw[Ah,al.at_];rfl)
  have hav:=bJX hask.nd hbl al.at_ ebj
  generalize (bs[j]'(by omega))=b at hbt hav
  have nb:b≠ah:=λz=>by rw[z,hah]at hbt;cases hbt
  have haa2:=fr _ _ nah haa
  have hb2:=fr _ _ nb hbt
  have hkl:(gO m2).length<sizeLine:=by
   have:m2.length=m.length:=by rw[<-Ab (f:=(·.1)) (as:=m2),al.keys,Ab]
   unfold gO;rw[Ab];exact bK (by omega)
  have hdd:isD H2 ah=true:=by unfold isD;rw[eh]
  refine⟨_,λσ' H' h=>h,?_⟩;walk_at "go";refine nQ (z:=one c) (.inl haa2) hav ?_;walk_at "go";refine bQW (k:=dM w) (.inl eh) hb2 ?_;rw[kE];have fr2:∀o,∀b u,b≠ah->H b=some u->(upd H2 ah o) b=some u:=λo b u hb hu=>by rw[aJ hb];exact fr b u hb hu
  rcases (hask.ok j c w al.at_).2 with rfl|⟨g,i,v,hij,hi,hg⟩
  ·obtain⟨l1,l2,l3,l4⟩:=al.last hask hnf;rw[l1];walk_at "go";refine yT (k:=dM w) eh hb2 hkl ?_;rw[zP,show bXU m2 w c=m2++[(w,c)] by unfold bXU;rw[l1];rfl]
   walk_at "go";exact⟨0,by omega,.inr ⟨m2++[(w,c)],_,_,rfl,fr2 _,aE,l2,l3,l4,rfl⟩⟩
  ·obtain⟨l1,l2⟩:=al.step hask nd hg hi hij;rw[l1];walk_at "go";refine yT (k:=dM w) eh hb2 hkl ?_;rw[zP,show bXU m2 w c=m2.map λx=>if x.1=w then (x.1,c) else x by unfold bXU;rw[l1];rfl]
   walk_at "go";exact⟨i+1,by omega,.inl ⟨_,g,i,v,_,_,rfl,fr2 _,aE,l2,rfl⟩⟩
 ·walk_at "go";exact q m' H2 fr eh hk hc hct
def iZ(aC:Addr):Sp:=λvs H Q _=>∃(ea p q:Addr) (xs ys:List V),vs=[.ref ea,.ref p,.ref q]/\H ea=some (eK ea aC none)/\rdL H p=some xs/\rdL H q=some ys/\
 ∀(dx l1 l2:Addr) (H':Hp),(∀b u,b≠ea->H b=some u->H' b=some u)->H dx=none->dx≠ea->H' ea=some (eK ea aC (some dx))->H' dx=some (xdO dx [("flags",.ref l2),("wants",.ref l1)])->H' l1=some (.lst xs)->H' l2=some (.lst ys)->H l1=none->H l2=none->Q .non H'
def yU:FnScope ["self", "wants", "flags"] ["self", "wants", "flags"] (aM kW):=by walk_at "sc"
def xT(F:Fun K "__init__" "Lack.__init__" kW f fd)(G:Gs K mg w Zs Zz Zt Zx Z0 Zv Zy Zw Zu):FnOk P w K mg base CX0 1 f fd ["self", "wants", "flags"] (iZ Zs):=by
 refine F.ok yU (λvs H Q E h=>?_) (λcdv A outer s H vs Q E hr h=>?_)
 ·obtain⟨ea,p,q,xs,ys,rfl,_⟩:=h;rfl
 obtain⟨ea,p,q,xs,ys,rfl,he,hp,hq,qq⟩:=h;refine⟨_,(@aD _ _ _ _ _ (cG (sJ rfl G.c_TowerError G.t1_TowerError G.t2_TowerError G.t3_TowerError (aA (mv 0) (aA (bN lG rfl G.b_list eU (aA (mv 1) aB)) (aA (bN lG rfl G.b_list eU (aA (mv 2) aB)) aB))))) (@aD _ _ _ _ _ (rH (mv 0) (bN lG rfl G.b_list eU (aA (mv 1) aB)) rfl) (@aH _ _ _ (rH (mv 0) (bN lG rfl G.b_list eU (aA (mv 2) aB)) rfl)))),?_⟩;walk_at "go";intro l1 hl1;have s1:=aG hl1 (.lst xs)
 generalize upd H l1 (.lst xs)=H1 at s1 ⊢;have hq1:=aO s1 hq
 walk_at "go";intro l2 hl2;have s2:=s1.trans (aG hl2 (.lst ys))
 generalize upd H1 l2 (.lst ys)=H2 at s2 ⊢;have he2:=s2 _ _ he
 walk_at "go";refine⟨ea,[.ref l1,.ref l2],Zs,Zz,none,rfl,by show 2<=sizeLine;decide,he2,(λ_ z=>nomatch z),G.xc_Lack,?_⟩
 have hp2:=aO s2 hp
 walk_at "go";intro l3 hl3;have s3:=s2.trans (aG hl3 (.lst xs))
 have e3:(upd H2 l3 (.lst xs)) l3=_:=aE
 generalize upd H2 l3 (.lst xs)=H3 at s3 e3 ⊢;have he3:=s3 _ _ he
 walk_at "go";refine⟨ea,Zs,Zz,rfl,G.xc_Lack,G.xn_Lack_wants,.inl ⟨he3,λdx hdx=>?_⟩⟩;have nde:dx≠ea:=λz=>by rw[z,he3]at hdx;cases hdx
 have fr4:∀b u,b≠ea->H b=some u->(upd (upd H3 ea (eK ea Zs (some dx))) dx (xdO dx [("wants",.ref l3)])) b=some u:=λb u hb hu=>by
  have e:=s3 _ _ hu
  rw[aJ (λz=>by rw[z,hdx]at e;cases e),aJ hb]
  exact e
 have ee4:(upd (upd H3 ea (eK ea Zs (some dx))) dx (xdO dx [("wants",.ref l3)])) ea=some (eK ea Zs (some dx)):=by rw[aJ nde.symm,aE]
 have ed4:(upd (upd H3 ea (eK ea Zs (some dx))) dx (xdO dx [("wants",.ref l3)])) dx=_:=aE
 have n3e:l3≠ea:=λz=>by rw[z,he3]at e3;cases e3
 have n3d:l3≠dx:=λz=>by rw[z,hdx]at e3;cases e3
 have el4:(upd (upd H3 ea (eK ea Zs (some dx))) dx (xdO dx [("wants",.ref l3)])) l3=some (.lst xs):=by rw[aJ n3d,aJ n3e];exact e3
 have hqe:q≠ea:=λz=>by rw[z]at hq;unfold rdL at hq;rw[he]at hq;cases hq
 have hq4:rdL (upd (upd H3 ea (eK ea Zs (some dx))) dx (xdO dx [("wants",.ref l3)])) q=some ys:=by
  have hq3:=aO s3 hq
  rw[aZN (λz=>by rw[z]at hq3;unfold rdL at hq3;rw[hdx]at hq3;cases hq3),aZN hqe]
  exact hq3
 generalize upd (upd H3 ea (eK ea Zs (some dx))) dx (xdO dx [("wants",.ref l3)])=H4 at fr4 ee4 ed4 el4 hq4 ⊢;walk_at "go";intro l4 hl4;have s5:=aG hl4 (.lst ys)
 have e5:(upd H4 l4 (.lst ys)) l4=_:=aE
 have ee5:=s5 _ _ ee4
 have ed5:=s5 _ _ ed4
 have el5:=s5 _ _ el4
 have n4d:l4≠dx:=λz=>by rw[z,ed4]at hl4;cases hl4
 have n4e:l4≠ea:=λz=>by rw[z,ee4]at hl4;cases hl4
 have h40:H l4=none:=by
  cases e:H l4 with
  |none=>rfl
  |some u=>rw[fr4 _ _ n4e e]at hl4;cases hl4
 generalize upd H4 l4 (.lst ys)=H5 at s5 e5 ee5 ed5 el5 ⊢;walk_at "go";refine⟨ea,Zs,Zz,rfl,G.xc_Lack,G.xn_Lack_flags,.inr ⟨dx,_,ee5,ed5,(by show 1<100;decide),?_⟩⟩
 refine qq dx l3 l4 _ (λb u hb hu=>?_) (none_of s3 hdx) nde (by rw[aJ nde.symm];exact ee5) aE (by rw[aJ n3d];exact el5) (by rw[aJ n4d];exact e5) (none_of s2 hl3) h40
 have e:=s5 _ _ (fr4 b u hb hu)
 rw[aJ (λz=>by have q9:=s3 _ _ hu;rw[z,hdx]at q9;cases q9)]
 exact e
structure LackOk (cws:List (List Nat)) (n:Nat->Int) (W:List Wt) (F:List Nat):Prop where
 sub:W.Sublist (wl cws)
 flags:∃p:Nat->Bool,F=flagsT.cps.toList.filter p
 all:∀w∈W,∀f∈chW cws w,f∈F
 few:(F.map n).sum<(W.length:Int)
def ctn(fs:List Nat)(c:Nat):Nat:=fs.countP λx=>decide (x=c)
def pN(g:Nat->Nat):∀L:List Nat,(L.map λc=>((g c:Nat):Int)).sum=(((L.map g).sum:Nat):Int)
 |[]=>rfl
 |c::r=>by
  rw[As,Cq,As,Cq,pN g r];omega
def cJ4{n0:Nat->Int}{m:List (Wt×Nat)}{first:Wt}{A:List (Nat×Wt)}{fl:Nat->Option Int}{l r:List Wt}(hw:wl cws=l++first::r)(hk:m.map (·.1)=l)(hL:∀c∈cws,c.length<=7/\∀d∈c,aX d)(hmo:HungOk cws m)(hfw:first∈wl cws)(hA:Asked (chW cws) m first A)(hct:∀c,aK fl c=n0 c-(ctm m c:Int)/\0<=aK fl c)(h0:∀c∈A.map (·.1),¬0<aK fl c):LackOk cws n0 (kG m first A (wl cws)) (flagsT.cps.toList.filter λc=>decide (c∈A.map (·.1))):=by
 have hAf:∀c∈A.map (·.1),cY c:=λc hc=>by
  obtain⟨x,hx,rfl⟩:=Bg.mp hc;obtain⟨j,hj,e⟩:=Ce.mp hx;have hj2:A[j]?=some (x.1,x.2):=by rw[Aa hj,e]
  exact cQV hL (bJV hmo hfw hA.toAsking hj2) (hA.ok j _ _ hj2).1
 have hF:∀c,c∈flagsT.cps.toList.filter (λc=>decide (c∈A.map (·.1))) ↔ c∈A.map (·.1):=λc=>by
  rw[Dx,Bo];exact⟨λh=>h.2,λh=>⟨flags_mem.mpr (hAf c h),h⟩⟩
 have ndF:(flagsT.cps.toList.filter λc=>decide (c∈A.map (·.1))).Nodup:=List.Nodup.sublist Eu (by decide)
 have nd:=pW cws cws.length
 replace nd:(wl cws).Nodup:=nd
 refine⟨Eu,⟨_,rfl⟩,λw hwm f hf=>?_,?_⟩
 ·refine(hF f).mpr ?_;have h2:=(lackW_mem.mp hwm).2
  by_cases e:w=first
  ·subst e;exact hA.all1 f hf
  ·cases eg:dX m w with
   |none=>rw[tX e eg]at h2;cases h2
   |some g=>
    rw[sN e eg]at h2;exact hA.all w g (aXB eg) (Ba h2) f hf
 ·have e1:(kG m first A (wl cws)).length=1+m.countP (λx=>decide (x.2∈A.map (·.1))):=by
   rw[hw]at nd ⊢;exact cXH hk nd
  have e2:m.countP (λx=>decide (x.2∈A.map (·.1)))=m.countP (λx=>decide (x.2∈flagsT.cps.toList.filter λc=>decide (c∈A.map (·.1)))):=by
   congr 1
   funext x
   exact Dk.mpr (hF x.2).symm
  have e3:=eXM m ndF
  have e4:(flagsT.cps.toList.filter λc=>decide (c∈A.map (·.1))).map n0=(flagsT.cps.toList.filter λc=>decide (c∈A.map (·.1))).map λc=>((ctm m c:Nat):Int):=Do λc hc=>by
   have h1:=hct c
   have h2:=h0 c ((hF c).mp hc)
   omega
  rw[e4,pN,e1,e2,e3];omega
def kX(aC:Addr):Sp:=λvs H Q E=>∃(a b:Addr) (kvs:List (Key×V)) (f:Nat->Option Int) (cws:List (List Nat)),vs=[.ref a,.ref b]/\Rd H a (.dK kvs)/\Lk kvs f/\rdL H b=some ((cws.map bA).map V.str)/\cws.length<=8/\(∀c∈cws,c.length<=7/\∀d∈c,aX d)/\
 (∀(r:Addr) (ps:List Addr) (fs:List Nat) (H':Hp),H r=none->Same H H'->H' r=some (.lst (ps.map V.ref))->(∀p∈ps,p≠r)->Lsts H H' ps ((List.range cws.length).map (nO cws fs))->fs.length=(wl cws).length->(∀(j:Nat) w g,(wl cws)[j]?=some w->fs[j]?=some g->g∈chW cws w)->(∀c,(ctn fs c:Int)<=aK (bJ (aK f)) c)->Q (.ref r) H')/\
 (∀(dx l1 l2:Addr) (rs:List Addr) (W:List Wt) (F:List Nat) (H':Hp),Same H H'->H' dx=some (xdO dx [("flags",.ref l2),("wants",.ref l1)])->H' l1=some (.lst (rs.map V.ref))->WtsAt H' rs W->H' l2=some (.lst ((F.map one).map V.str))->LackOk cws (aK (bJ (aK f))) W F->H l1=none->H l2=none->E (.ref aC) (some dx) H')
def sc_hang_all:FnScope ["locker", "words", "choices", "left", "hung", "first", "asked", "free", "wants"] ["locker", "words"] (aM eJ):=by walk_at "sc"
def aQD(F:Fun K "hang_all" "hang_all" eJ f fd)(G:Gs K mg w Zs Zz Zt Zx Z0 Zv Zy Zw Zu)(c_choices_of:Cal P w K mg base 2 "choices_of" ["words"] mH)(c_plain_locker:Cal P w K mg base 1 "plain_locker" ["locker"] cM)(c_hoists_of:Cal P w K mg base 1 "hoists_of" ["words", "flags"] oX)(c_asked_from:Cal P w K mg base 1 "asked_from" ["first", "choices", "hung"] mM)(c_hang_along:Cal P w K mg base 1 "hang_along" ["flag", "asked", "hung"] mL)(c_Lack_init:aZR P w K mg base 1 Zs ["self", "wants", "flags"] (iZ Zs)):FnOk P w K mg base (CXr P w) 3 f fd ["locker", "words"] (kX Zs):=by
 refine F.okX sc_hang_all (λvs H Q E h=>?_) (λcdv A outer s H vs Q E hr h=>?_)
 ·obtain⟨a,b,kvs,f,cws,rfl,_⟩:=h;rfl
 obtain⟨a,b,kvs,f,cws,rfl,ha,lk,hb,h8,hL,q,qe⟩:=h;refine⟨_,(@aD _ _ _ _ _ (aP 2 sc_hang_all.nd (aZ c_choices_of hr (by decide) rfl (aA (mv 1) aB))) (@aD _ _ _ _ _ (aP 3 sc_hang_all.nd (aZ c_plain_locker hr (by decide) rfl (aA (mv 0) aB))) (@aD _ _ _ _ _ (@aX7 _ _ 4 _ _ _ _ sc_hang_all.nd (by rfl) (by exact(Or.inr rfl)) aQP (by rfl) (by walk_at "o")) (@aD _ _ _ _ _ (yY (cI PassesOwn.leaving rfl (oE (mv 2)) (bH (i:=5) sc_hang_all.nd rfl (Or.inr rfl)) (@aD _ _ _ _ _ (aP 6 sc_hang_all.nd (aZ c_asked_from hr (by decide) rfl (aA (mv 5) (aA (mv 2) (aA (mv 4) aB))))) (@aD _ _ _ _ _ (yY (lL (i:=7) sc_hang_all.nd rfl (Or.inl rfl) rfl (aJ5 (mv 6)) (jP (N:=["flag", "left"]) ["locker", "words", "choices", "left", "hung", "first", "asked", "free", "wants"] (aM eJ) [none,some 3] rfl rfl rfl (λx h=>cS h) (by decide +kernel)) (by decide +kernel) rfl (by decide +kernel) (λ_ _ _ _=>(bH (i:=0) (show List.Nodup (["flag", "left"]:List Str) by decide +kernel) rfl (Or.inl rfl))) (λ_ _ _ _=>(mX (aY aXQ (cR Bb Bv (jX (Room.u1 hr)) (mv 1) (aA (mv 0) (aA aI aB))) aI (aW _)))) (λ_ _ _ _=>(mv 0)))) (@aD _ _ _ _ _ (bU (aY (dZA hr.units0) (mv 7) (bR aB) (aW _)) (@aD _ _ _ _ _ (yY (lL (i:=8) sc_hang_all.nd rfl (Or.inl rfl) rfl (oE (mv 2)) (jP (N:=["want", "first", "asked", "hung"]) ["locker", "words", "choices", "left", "hung", "first", "asked", "free", "wants"] (aM eJ) [none,some 5,some 6,some 4] rfl rfl rfl (λx h=>cS h) (by decide +kernel)) (by decide +kernel) rfl (by decide +kernel) (λ_ _ _ _=>(bH (i:=0) (show List.Nodup (["want", "first", "asked", "hung"]:List Str) by decide +kernel) rfl (Or.inl rfl))) (λ_ _ _ _=>(mX (PW.pt (jR (aY (eJY hr.units0) (mv 0) (mv 1) (aW _)) (iC (aY (eQR (Room.u1 hr)) (cR Bb Bv (cZP (Room.u1 hr)) (mv 3) (aA (mv 0) aB)) (mv 2) (by rfl))))))) (λ_ _ _ _=>(mv 0)))) (@aH _ _ _ (lS fY rfl rfl rfl G.c_Lack G.xm_Lack c_Lack_init hr (by decide) (aA (mv 8) (aA (dB rfl (qI (fI rfl G.s_FLAGS)) (jP (N:=["flag", "asked"]) ["locker", "words", "choices", "left", "hung", "first", "asked", "free", "wants"] (aM eJ) [none,some 6] rfl rfl rfl (λx h=>cS h) (by decide +kernel)) (by decide +kernel) rfl (by decide +kernel) (λ_ _ _ _=>(bH (i:=0) (show List.Nodup (["flag", "asked"]:List Str) by decide +kernel) rfl (Or.inl rfl))) (λ_ _ _ _=>(mX (aY (eJ8 (Room.u1 hr)) (mv 0) (mv 1) (by rfl)))) (λ_ _ _ _=>(mv 0))) aB))))) bC) (@aD _ _ _ _ _ (eT (Room.u1 hr) (mv 3) (bE bS (mv 7) aI (λ_ _=>rfl)) (aQ jO (fH (Room.u1 hr) (mv 3) (bE bS (mv 7) aI (λ_ _=>rfl)) (λ_ _=>rfl)) aI) rfl) (@aH _ _ _ (cG (aZ c_hang_along hr (by decide) rfl (aA (bE bS (mv 7) aI (λ_ _=>rfl)) (aA (mv 6) (aA (mv 4) aB)))))))))))) (@aH _ _ _ (aT (aZ c_hoists_of hr (by decide) rfl (aA (mv 1) (aA (aZF (dB rfl (oE (mv 2)) (jP (N:=["want", "hung"]) ["locker", "words", "choices", "left", "hung", "first", "asked", "free", "wants"] (aM eJ) [none,some 4] rfl rfl rfl (λx h=>cS h) (by decide +kernel)) (by decide +kernel) rfl (by decide +kernel) (λ_ _ _ _=>(bH (i:=0) (show List.Nodup (["want", "hung"]:List Str) by decide +kernel) rfl (Or.inl rfl))) (λ_ _ _ _=>eP) (λ_ _ _ _=>(fH (Room.u1 hr) (mv 1) (mv 0) (λ_ _=>rfl))))) aB))))))))),?_⟩
 have h7:∀c∈cws,c.length<=7:=λc hc=>(hL c hc).1
 have hlw:(wl cws).length<=56:=Bi (bQI h7 _) (by omega)
 walk_at "go";refine⟨b,cws,rfl,hb,h8,h7,λac H1 hac s1 hch=>?_⟩;walk_at "go";refine⟨a,kvs,f,rfl,ha.elim (λe=>.inl (s1 _ _ e)) (λ⟨o,e⟩=>.inr ⟨o,s1 _ _ e⟩),lk,λal H2 hal s2 el=>?_⟩;walk_at "go";intro ah hah;have s3:=s2.trans (aG hah (.dT []))
 have eh3:(upd H2 ah (.dT [])) ah=_:=aE
 have el3:=aG hah (.dT []) _ _ el
 generalize upd H2 ah (.dT [])=H3 at s3 eh3 el3 ⊢;obtain⟨ds,dl,ed,hds⟩:=hch;rw[Br]at ed;have ed3:=s3 _ _ ed
 walk_at "go";refine zI ed3 λo=>?_;have fz:(upd H3 ac (.frz o (.dT (dY (wl cws) ds)))) ac=_:=aE
 have kl:(dY (wl cws) ds).length=(wl cws).length:=wX dl
 have nac:ah≠ac:=λz=>by have e:=s2 _ _ ed;rw[<-z,hah]at e;cases e
 have nla:al≠ac:=λz=>by rw[z,ed3]at el3;cases el3
 have nlh:al≠ah:=λz=>by rw[z,eh3]at el3;cases el3
 have s13:Same H1 H3:=s3
 have hah1:H1 ah=none:=none_of s2 hah
 generalize hn0:aK (bJ (aK f))=n0;refine bJA (λi σ H'=>∃(m:List (Wt×Nat)) (kl2:List (Key×V)) (fl:Nat->Option Int) (v5 v6 v7 v8:Option V),σ=[some (.ref a),some (.ref b),some (.ref ac),some (.ref al),some (.ref ah),v5,v6,v7,v8]/\(∀p u,p≠ac->p≠al->p≠ah->H1 p=some u->H' p=some u)/\H' ac=some (.frz o (.dT (dY (wl cws) ds)))/\H' ah=some (.dT (gO m))/\H' al=some (.dK kl2)/\Lk kl2 fl/\kl2.length<=27/\m.map (·.1)=(wl cws).take i/\(∀v g,(v,g)∈m->g∈chW cws v)/\(∀c,aK fl c=n0 c-(ctm m c:Int)/\0<=aK fl c))
  ⟨[],_,bJ (aK f),_,_,_,_,rfl,λp u h1 h2 h3 hu=>by rw[aJ h1];exact s13 _ _ hu,fz,by rw[aJ nac];exact eh3,by rw[aJ nla];exact el3,dI _,by unfold kvL;rw[Ab];exact gI _ _,rfl,(λv g hv=>nomatch hv),λc=>?_⟩ (λi σ H' _ ⟨_,_,_,_,_,_,_,_,_,e,_⟩=>e) ?_ ?_
 ·rw[hn0];refine⟨by show n0 c=n0 c-((0:Nat):Int);omega,?_⟩
  rw[<-hn0];show 0<=(bJ (aK f) c).getD 0
  unfold bJ;split
  ·rename_i h;exact Int.le_of_lt h.2
  ·exact Hb 0
 ·rintro i kv bf σ H4 hkv hbf ⟨m,kl2,fl,v5,v6,v7,v8,rfl,fr,ec,eh,el4,lkl,l27,hk,hmc,hct⟩;have hi:i<(wl cws).length:=by rw[<-kl];exact(Ad.mp hkv).1
  have ew:(wl cws)[i]?=some (wl cws)[i]:=Aa hi
  have ekv:kv=(dM (wl cws)[i],V.ref (ds[i]'(by omega))):=by
   unfold dY at hkv;rw[Fm,ew,Aa (show i<ds.length by omega)]at hkv
   exact(Bl hkv).symm
  rw[ekv]at hbf;have hnd:=pW cws cws.length
  have hfw:(wl cws)[i]∈wl cws:=Ca hi
  have htk:(wl cws).take (i+1)=(wl cws).take i++[(wl cws)[i]]:=by rw[Bc,ew];rfl
  have hfn:(wl cws)[i]∉m.map (·.1):=by
   rw[hk];intro z;obtain⟨j,hj,ej⟩:=Ce.mp z;rw[Bx]at hj;rw[List.getElem_take]at ej;have:=(Fu hnd).mp ej
   omega
  have hml:m.length<=56:=by
   have e:m.length=(m.map (·.1)).length:=(Ab _).symm
   rw[e,hk,Bx];omega
  have hmo:HungOk cws m:=⟨by rw[hk];exact hnd.sublist (Gj ..),λx hx=>List.mem_of_mem_take (by rw[<-hk];exact Bg.mpr ⟨x,hx,rfl⟩)⟩
  have hcr:ChRd H4 ac cws:=⟨ds,dl,.inr ⟨o,ec⟩,λj w d hw hd=>by
   have h1:=hds j w d (Ad.mp hw).1 hw hd
   exact fr d _ (λz=>by rw[z,ed]at h1;cases h1) (λz=>by rw[z,hal]at h1;cases h1) (λz=>by rw[z,hah1]at h1;cases h1) h1⟩
  replace hbf:H4 bf=some (.tup (wV (wl cws)[i])):=hbf
  clear ekv hkv;generalize (wl cws)[i]=first at hbf ew hfw htk hfn
  walk_at "go";refine⟨bf,ac,ah,cws,m,first,rfl,hbf,hfw,hcr,eh,hmo,hml,h8,hL,λpa A bs H5 hpa s5 ea wb hask=>?_⟩
  have el5:=s5 _ _ el4
  have hbl:bs.length=A.length:=by rw[wb.1,Ab]
  have hA27:=bQS hmo hfw hL hask.toAsking
  have hdl5:=dW el5
  walk_at "go";refine aZZ ea λoa=>?_;have fza:(upd H5 pa (.frz oa (.dK (fR A bs)))) pa=_:=aE
  have nlp:al≠pa:=λz=>by rw[z,hpa]at el4;cases el4
  have elf:(upd H5 pa (.frz oa (.dK (fR A bs)))) al=_:=(aJ nlp).trans el5
  refine iA (n:=A.length) (λD i ys Hc=>Same (upd H5 pa (.frz oa (.dK (fR A bs)))) Hc/\ys=((((A.take i).map (·.1)).filter λc=>decide (0<aK fl c)).map one).map V.str) (bK (by omega)) (λD hD=>⟨aG hD _,rfl⟩) (λD i ys Hc _ r h=>⟨r.1 _ _ fza,by rw[tG hbl];exact h⟩) (λD ys Hc _ r=>⟨r.1 _ _ fza,tG hbl⟩) ?_ ?_
  ·rintro D i2 ys Hc x H' A' B' hD hi2 ⟨sm,rfl⟩ hDc ⟨rfl,kv,hkv,rfl⟩ hA' hB';have eA:A[i2]?=some A[i2]:=Aa hi2
   unfold fR at hkv;rw[Fm,eA,Aa (show i2<bs.length by omega)]at hkv
   cases hkv;have tk:A.take (i2+1)=A.take i2++[A[i2]]:=by rw[Bc,eA];rfl
   rw[tk,Ar,Ff]at hA' hB';generalize A[i2]=xa at hA' hB';have elc:=sm _ _ elf
   have hdc:=dW elc
   dsimp only[kV];walk_at "go";refine⟨Wk.set rfl (Wk.refl _),?_⟩;walk_at "go";refine jQ (z:=one xa.1) (.inl elc) ?_;rw[lkl.val xa.1,dZ];walk_at "go";refine eW (λhe=>?_) (λhe=>?_)
   ·have he':=Ba he
    walk_at "go";refine hA' _ _ hDc ⟨bM hD sm,?_⟩;rw[show ([xa].map (·.1)).filter (λc=>decide (0<aK fl c))=[xa.1] by simp[he'],List.map_append,List.map_append]
    rfl
   ·have he':=Bp (Bq.mpr he)
    walk_at "go";refine hB' _ hDc ⟨sm,?_⟩;rw[show ([xa].map (·.1)).filter (λc=>decide (0<aK fl c))=[] by simp;omega,List.append_nil]
  ·rintro D ys Hc hD ⟨sm,rfl⟩ hDc _;rw[Br]at hDc;have su:=oW ea (λo v z=>nomatch z) sm
   have eu:=dP (Hs:=H5) hDc (λo v z=>nomatch z)
   refine yF ?_;unfold bZQ;dsimp only;generalize unf H5 Hc=H6 at su eu ⊢;have s46:=s5.trans su
   have ea6:=su _ _ ea
   have wb6:WtsAt H6 bs (A.map (·.2)):=wb.keep λr w h=>su _ _ h
   have ec6:=s46 _ _ ec
   have eh6:=s46 _ _ eh
   have el6:=s46 _ _ el4
   have hbf6:=s46 _ _ hbf
   have fr6:∀p u,p≠ac->p≠al->p≠ah->H1 p=some u->H6 p=some u:=λp u h1 h2 h3 hu=>s46 _ _ (fr p u h1 h2 h3 hu)
   have hD4:H4 D=none:=by
    have h5:H5 D=none:=by
     by_cases z:D=pa
     ·rw[z,aE]at hD;cases hD
     ·rw[aJ z]at hD;exact hD
    exact none_of s5 h5
   clear sm hDc hD fza elf hdl5 el5;walk_at "go";refine⟨by decide,λpe hpe=>?_⟩
   refine dZP (neg:=false) (aO (aG hpe _) (aR eu)) bO (fL _) rfl ?_;have s67:=aG hpe (.lst [])
   generalize upd H6 pe (.lst [])=H7 at s67 ⊢;have en:∀xs:List V,pU xs []=xs.isEmpty:=λxs=>by cases xs<;>rfl
   rw[if_neg (by decide),en]
   cases hfr:(A.map (·.1)).filter (λc=>decide (0<aK fl c)) with
   |nil=>
    rw[hfr]at eu;rw[show (List.map V.str (List.map one [])).isEmpty=true from rfl];have ec7:=s67 _ _ ec6
    have eh7:=s67 _ _ eh6
    have ea7:=s67 _ _ ea6
    have hbf7:=s67 _ _ hbf6
    have fr7:∀p u,p≠ac->p≠al->p≠ah->H1 p=some u->H7 p=some u:=λp u h1 h2 h3 hu=>s67 _ _ (fr6 p u h1 h2 h3 hu)
    clear eu wb6 hpe s67 fr6 fr ec6 eh6 ea6 hbf6 el6 su hD4 s46 hpa s5 ea wb el4 nlp;walk_at "go";refine cXK ec7 ?_;refine iA (n:=(wl cws).length) (λD i ys Hc=>Same H7 Hc/\∃rs,ys=rs.map V.ref/\WtsAt Hc rs (kG m first A ((wl cws).take i))) (bK (by omega)) (λD hD=>⟨aG hD _,[],rfl,rfl,λj r w hr=>nomatch hr⟩) (λD i ys Hc _ r h=>⟨r.1 _ _ ec7,by rw[kl];exact h⟩) (λD ys Hc _ r=>⟨r.1 _ _ ec7,kl⟩) ?_ ?_
    ·rintro D i2 ys Hc x H' A' B' hD hi2 ⟨sm,rs,rfl,hwt⟩ hDc ⟨rfl,kv,bk,hkv,rfl,hbk⟩ hA' hB';have ew2:(wl cws)[i2]?=some (wl cws)[i2]:=Aa hi2
     have ekv:kv=(dM (wl cws)[i2],V.ref (ds[i2]'(by omega))):=by
      unfold dY at hkv;rw[Fm,ew2,Aa (show i2<ds.length by omega)]at hkv
      exact(Bl hkv).symm
     rw[ekv]at hbk;replace hbk:H' bk=some (.tup (wV (wl cws)[i2])):=hbk
     have tk:(wl cws).take (i2+1)=(wl cws).take i2++[(wl cws)[i2]]:=by rw[Bc,ew2];rfl
     rw[tk]at hA' hB';clear ekv hkv ew2 tk;generalize (wl cws)[i2]=wx at hbk hA' hB';have ehc:=sm _ _ eh7
     have eac:=sm _ _ ea7
     have hfc:=sm _ _ hbf7
     have yes:jV m first A wx=true->A' (.ref bk) H':=λhb=>by
      refine hA' _ _ hDc ⟨bM hD sm,rs++[bk],by rw[Ar];rfl,?_⟩
      rw[uG,hb,if_pos rfl];refine WtsAt.keep (hwt.app (.one hbk)) λr w h=>?_;rw[aJ (λz=>by rw[z,hDc]at h;cases h)]
      exact h
     have no:jV m first A wx=false->B' H':=λhb=>by
      refine hB' _ hDc ⟨sm,rs,rfl,?_⟩;rw[uG,hb,if_neg (by decide),Bd]
      exact hwt
     clear hA' hB';walk_at "go";refine⟨Wk.set rfl (Wk.refl _),?_⟩;walk_at "go";refine eZ3 hbk hfc ?_;have hd2:decide ((wx.1:Int)=(first.1:Int)/\(wx.2:Int)=(first.2:Int))=decide (wx=first):=Dk.mpr ⟨λh=>Prod.ext (by omega) (by omega),λh=>by rw[h];exact⟨rfl,rfl⟩⟩
     rw[hd2];by_cases e:wx=first
     ·rw[Aj e];walk_at "go";exact yes (aXE e)
     ·rw[Aw e];have hdd:isD H' ah=true:=by unfold isD;rw[ehc]
      walk_at "go";refine bQW (k:=dM wx) (.inl ehc) hbk ?_;rw[kE];cases eg:dX m wx with
      |none=>
       refine eXP (.inl eac) ?_;walk_at "go";exact no (tX e eg)
      |some g=>
       have hlb:=sN (A:=A) e eg
       refine dXF (z:=one g) (.inl eac) ?_;rw[lW hbl];refine eW (λhg=>?_) (λhg=>?_)
       ·walk_at "go";exact yes (hlb.trans hg)
       ·walk_at "go";exact no (hlb.trans (Bq.mpr hg))
    ·rintro D ys Hc hD ⟨sm,rs,rfl,hwt⟩ hDc _;rw[Br]at hwt;have su:=bXH sm
     have eu:=dP (Hs:=H7) hDc (λo v z=>nomatch z)
     have hwu:WtsAt (unf H7 Hc) rs (kG m first A (wl cws)):=hwt.keep λr w h=>dP h λo v z=>nomatch z
     refine yF ?_;unfold bZQ;dsimp only;generalize unf H7 Hc=H8 at su eu hwu ⊢;have ea8:=su _ _ ea7
     walk_at "go";refine cJ5 (λc=>if decide (c∈A.map (·.1))=true then some (.str (one c)) else none) (by decide) (λi3 c Hc2 A' B' hc sm2 hA'=>?_) (λD2 H9 hD2 s9 hr9=>?_)
     ·have r:=hA' _ (Same.refl _)
      walk_at "go";refine⟨Wk.set rfl (Wk.refl _),?_⟩;walk_at "go";refine dZ4 (z:=one c) (neg:=false) (.inl (sm2 _ _ ea8)) ?_;rw[if_neg (by decide),lW hbl]
      refine eW (λhg=>?_) (λhg=>?_)
      ·rw[if_pos hg]at r;walk_at "go";exact r
      ·rw[if_neg hg]at r;exact r
     ·have ef:(Str.ofString "abcdefghijklmnopqrstuvw1234").cps.toList.filterMap (λc=>if decide (c∈A.map (·.1))=true then some (V.str (one c)) else none)=((flagsT.cps.toList.filter λc=>decide (c∈A.map (·.1))).map one).map V.str:=by
       rw[show (Str.ofString "abcdefghijklmnopqrstuvw1234")=flagsT from rfl];generalize flagsT.cps.toList=L;induction L with
       |nil=>rfl
       |cons c r ih=>
        rw[Ej,Fx];by_cases hg:decide (c∈A.map (·.1))=true
        ·rw[if_pos hg,if_pos hg,As,As,<-ih]
        ·rw[if_neg hg,if_neg hg,<-ih]
      rw[ef]at hr9;have eD9:=s9 _ _ eu
      walk_at "go";refine⟨by show 2<=sizeLine;decide,λea hea=>⟨ea,D,D2,_,_,rfl,aE,aO (aG hea _) (aR eD9),aO (aG hea _) (aR hr9),λdx l1 l2 H' frx hdx nde e1 e2 e3 e4 hl1 hl2=>⟨rfl,some dx,e1,?_⟩⟩⟩
      have n1:l1≠ea:=λz=>by rw[z,e1]at e3;cases e3
      have n2:l2≠ea:=λz=>by rw[z,e1]at e4;cases e4
      have go9:∀b u,H9 b=some u->(del H' ea) b=some u:=λb u hu=>by
       have nb:b≠ea:=λz=>by rw[z,hea]at hu;cases hu
       rw[dU nb];exact frx b u nb (by rw[aJ nb];exact hu)
      have hto:∀b u,H b=some u->H9 b=some u:=λb u hu=>by
       refine s9 _ _ (su _ _ (fr7 b u (λz=>by rw[z,hac]at hu;cases hu) (λz=>?_) (λz=>?_) (s1 _ _ hu)))
       ·have:=s1 _ _ hu
        rw[z,hal]at this;cases this
       ·have:=s1 _ _ hu
        rw[z,hah1]at this;cases this
      refine qe dx l1 l2 rs _ _ (del H' ea) (λb u hu=>go9 _ _ (hto b u hu)) ((dU nde).trans e2) ((dU n1).trans e3) (hwu.keep λr w h=>go9 _ _ (s9 _ _ h)) ((dU n2).trans e4) ?_ (none_of hto (by rw[aJ n1]at hl1;exact hl1)) (none_of hto (by rw[aJ n2]at hl2;exact hl2))
      ·rw[hn0];refine cJ4 (l:=(wl cws).take i) (r:=(wl cws).drop (i+1)) (fl:=fl) ?_ hk hL hmo hfw hask hct (λc hc=>?_)
       ·have e:=List.take_append_drop (i+1) (wl cws)
        rw[htk,List.append_assoc]at e;exact e.symm
       ·have:=List.filter_eq_nil_iff.mp hfr c hc
        rw[Bo]at this;exact this
   |cons f0 fr0=>
    rw[hfr]at eu;rw[show (List.map V.str (List.map one (f0::fr0))).isEmpty=false from rfl];have hf0m:f0∈(A.map (·.1)).filter (λc=>decide (0<aK fl c)):=by rw[hfr];exact Al
    rw[Dx,Bo]at hf0m;obtain⟨hf0A,hf0p⟩:=hf0m;obtain⟨n1,hn1⟩:∃n1,fl f0=some n1:=by
     cases e:fl f0 with
     |none=>rw[show aK fl f0=0 by unfold aK;rw[e];rfl]at hf0p;omega
     |some n=>exact⟨n,rfl⟩
    have hcn1:aK fl f0=n1:=by unfold aK;rw[hn1];rfl
    have el7:=s67 _ _ el6
    have ea7:=s67 _ _ ea6
    have eh7:=s67 _ _ eh6
    have ec7:=s67 _ _ ec6
    have eD7:=s67 _ _ eu
    have wb7:WtsAt H7 bs (A.map (·.2)):=wb6.keep λr w h=>s67 _ _ h
    have hdl7:=dW el7
    have at0:atI (List.map V.str (List.map one (f0::fr0))) 0=some (V.str (one f0)):=aV (show (List.map V.str (List.map one (f0::fr0)))[0]?=some (V.str (one f0)) from rfl)
    walk_at "go";refine dF (aR eD7) (v:=.str (one f0)) at0 ?_;walk_at "go";refine nQ (z:=one f0) (.inl el7) (by rw[lkl.val f0,hn1];rfl) ?_
    walk_at "go";refine dF (aR eD7) (v:=.str (one f0)) at0 ?_;walk_at "go";refine fX (z:=one f0) el7 (bK (by omega)) ?_
    have nDl:D≠al:=λz=>by rw[z]at hD4;rw[hD4]at el4;cases el4
    have npl:pa≠al:=λz=>by rw[z]at hpa;rw[hpa]at el4;cases el4
    have nhl:ah≠al:=Ne.symm nlh
    have ncl:ac≠al:=Ne.symm nla
    have el8:(upd H7 al (.dK (dL kl2 (Sum.inr (one f0)) (V.int (n1-1))))) al=_:=aE
    have ea8:(upd H7 al (.dK (dL kl2 (Sum.inr (one f0)) (V.int (n1-1))))) pa=_:=(aJ npl).trans ea7
    have eh8:(upd H7 al (.dK (dL kl2 (Sum.inr (one f0)) (V.int (n1-1))))) ah=_:=(aJ nhl).trans eh7
    have ec8:(upd H7 al (.dK (dL kl2 (Sum.inr (one f0)) (V.int (n1-1))))) ac=_:=(aJ ncl).trans ec7
    have eD8:(upd H7 al (.dK (dL kl2 (Sum.inr (one f0)) (V.int (n1-1))))) D=_:=(aJ nDl).trans eD7
    have wb8:WtsAt (upd H7 al (.dK (dL kl2 (Sum.inr (one f0)) (V.int (n1-1))))) bs (A.map (·.2)):=wb7.keep λr w h=>by
     rw[aJ (λz=>by rw[z,el7]at h;cases h)]
     exact h
    have fr8:∀p u,p≠ac->p≠al->p≠ah->H1 p=some u->(upd H7 al (.dK (dL kl2 (Sum.inr (one f0)) (V.int (n1-1))))) p=some u:=λp u h1 h2 h3 hu=>by
     rw[aJ h2];exact s67 _ _ (fr6 p u h1 h2 h3 hu)
    generalize upd H7 al (.dK (dL kl2 (Sum.inr (one f0)) (V.int (n1-1))))=H8 at el8 ea8 eh8 ec8 eD8 wb8 fr8 ⊢;walk_at "go";refine dF (aR eD8) (v:=.str (one f0)) at0 ?_;walk_at "go";refine⟨pa,ah,cws,m,first,A,bs,f0,rfl,ea8,wb8,hask.toAsking,eh8,hmo.nd,hfn,hmc,hf0A,hml,λm' H9 fr9 eh9 hk9 hc9 hct9=>?_⟩
    walk_at "go";refine⟨m',_,_,_,_,_,_,rfl,λp u h1 h2 h3 hu=>fr9 p u h3 (fr8 p u h1 h2 h3 hu),fr9 _ _ (Ne.symm nac) ec8,eh9,fr9 _ _ nlh el8,lkl.put f0 (n1-1),?_,?_,hc9,λc=>?_⟩
    ·have hv:cA kl2 (Sum.inr (one f0))≠none:=by rw[lkl.val f0,hn1];exact λz=>nomatch z
     have e:=Ds List.length (zV kl2 (Sum.inr (one f0)) (.int (n1-1)) hv)
     rw[Ab,Ab]at e;omega
    ·rw[hk9,hk,htk]
    ·have h1:=hct c
     have h2:=hct9 c
     have h3:aK (λd=>if d=f0 then some (n1-1) else fl d) c=if c=f0 then n1-1 else aK fl c:=by
      show ((if c=f0 then some (n1-1) else fl c):Option Int).getD 0=_
      by_cases z:c=f0
      ·rw[if_pos z,if_pos z];rfl
      ·rw[if_neg z,if_neg z];rfl
     rw[h3];by_cases z:c=f0
     ·subst z;rw[if_pos rfl]at h2 ⊢;omega
     ·rw[if_neg z]at h2 ⊢;omega
 ·rintro σ H4 ⟨m,kl2,fl,v5,v6,v7,v8,rfl,fr,ec,eh,el4,lkl,l27,hk,hmc,hct⟩;rw[kl,Br]at hk;have ec5:=rO (Hs:=H3) ec (λo v z=>by rw[ed3]at z;cases z)
  have eh5:=dP (Hs:=H3) eh (λo v z=>nomatch z)
  have sh5:Same H (unf H3 H4):=λb u hu=>by
   have h1:=s1 _ _ hu
   have h4:=fr b u (λz=>by rw[z,hac]at hu;cases hu) (λz=>by rw[z,hal]at h1;cases h1) (λz=>by rw[z,hah1]at h1;cases h1) h1
   by_cases hf:∃o v,u=.frz o v
   ·obtain⟨o',v',rfl⟩:=hf;exact lK h4 (s13 _ _ h1)
   ·exact dP h4 λo v z=>hf ⟨o,v,z⟩
  unfold bZQ;dsimp only;generalize unf H3 H4=H5 at ec5 eh5 sh5 ⊢;have hml:m.length=(wl cws).length:=by rw[<-hk,Ab]
  have hnd:(m.map (·.1)).Nodup:=by rw[hk];exact pW cws cws.length
  walk_at "go";refine zI ec5 λo2=>?_;have fz2:(upd H5 ac (.frz o2 (.dT (dY (wl cws) ds)))) ac=_:=aE
  have eh6:(upd H5 ac (.frz o2 (.dT (dY (wl cws) ds)))) ah=_:=(aJ nac).trans eh5
  refine iA (n:=(wl cws).length) (λD i ys Hc=>Same (upd H5 ac (.frz o2 (.dT (dY (wl cws) ds)))) Hc/\ys=(((m.take i).map (·.2)).map one).map V.str) (bK (by omega)) (λD hD=>⟨aG hD _,rfl⟩) (λD i ys Hc _ r h=>⟨r.1 _ _ fz2,by rw[kl];exact h⟩) (λD ys Hc _ r=>⟨r.1 _ _ fz2,kl⟩) ?_ ?_
  ·rintro D i2 ys Hc x H' A' B' hD hi2 ⟨sm,rfl⟩ hDc ⟨rfl,kv,bk,hkv,rfl,hbk⟩ hA' hB';have ew2:(wl cws)[i2]?=some (wl cws)[i2]:=Aa hi2
   have ekv:kv=(dM (wl cws)[i2],V.ref (ds[i2]'(by omega))):=by
    unfold dY at hkv;rw[Fm,ew2,Aa (show i2<ds.length by omega)]at hkv
    exact(Bl hkv).symm
   rw[ekv]at hbk;have em:m[i2]?=some m[i2]:=Aa (by omega)
   have e1:m[i2].1=(wl cws)[i2]:=by
    have e0:(m.map (·.1))[i2]?=some (wl cws)[i2]:=by rw[hk];exact ew2
    rw[Ah,em]at e0;exact Bl e0
   have tk:m.take (i2+1)=m.take i2++[m[i2]]:=by rw[Bc,em];rfl
   rw[tk]at hA';replace hbk:H' bk=some (.tup ((dM m[i2].1).map kV)):=by rw[e1];exact hbk
   have hval:cA (gO m) (dM m[i2].1)=some (.str (one m[i2].2)):=by
    have hm2:(m[i2].1,m[i2].2)∈m:=An em
    rw[kE,nY hnd hm2];rfl
   clear ekv hkv ew2 tk e1 em;generalize m[i2]=mx at hbk hA' hval;have ehc:=sm _ _ eh6
   walk_at "go";refine⟨Wk.set rfl (Wk.refl _),?_⟩;walk_at "go";refine aXO (k:=dM mx.1) (.inl ehc) hbk hval ?_;refine hA' _ _ hDc ⟨bM hD sm,?_⟩;rw[Ar,Ar,Ar];rfl
  ·rintro D ys Hc hD ⟨sm,rfl⟩ hDc _;rw[<-hml,Br]at hDc;have su:=oW ec5 (λo v z=>nomatch z) sm
   have eu:=dP (Hs:=H5) hDc (λo v z=>nomatch z)
   generalize unf H5 Hc=H6 at su eu ⊢;have s06:=sh5.trans su
   refine⟨b,D,cws,m.map (·.2),rfl,aO s06 hb,aR eu,h8,h7,λr ps H7 hr s7 er hne hls=>?_⟩;refine q r ps (m.map (·.2)) H7 (none_of s06 hr) (s06.trans s7) er hne (hls.older s06) (by rw[Ab,hml]) (λj w g hw hg=>?_) (λc=>?_)
   ·rw[<-hk,Ah]at hw;rw[Ah]at hg;cases em:m[j]? with
    |none=>rw[em]at hw;cases hw
    |some x=>
     rw[em]at hw hg;cases hw;cases hg;exact hmc x.1 x.2 (An em)
   ·rw[hn0];have h1:=hct c
    have h2:ctn (m.map (·.2)) c=ctm m c:=by
     unfold ctn ctm;rw[List.countP_map];rfl
    rw[h2];omega
def CanH(n:Nat->Int)(cws:List (List Nat)):Prop:=∃fs:List Nat,fs.length=(wl cws).length/\(∀(j:Nat) w g,(wl cws)[j]?=some w->fs[j]?=some g->g∈chW cws w)/\∀c,(ctn fs c:Int)<=n c
def bQV(x:Nat):∀ {F:List Nat},F.Nodup->(F.map λc=>if x=c then 1 else 0).sum=if x∈F then 1 else 0
 |[],_=>rfl
 |c::r,h=>by
  have n1:=Cc.mp h
  rw[As,Cq,bQV x n1.2];by_cases e:x=c
  ·subst e;rw[if_pos rfl,if_neg n1.1,if_pos Al]
  ·rw[if_neg e];by_cases m:x∈r
   ·rw[if_pos m,if_pos (Am _ m)]
   ·rw[if_neg m,if_neg λz=>(Az.mp z).elim e m]
def aJ0(g h:Nat->Nat):∀F:List Nat,(F.map λc=>g c+h c).sum=(F.map g).sum+(F.map h).sum
 |[]=>rfl
 |c::r=>by
  rw[As,Cq,aJ0 g h r,As,Cq,As,Cq];omega
def aJW(nd:F.Nodup):∀fs:List Nat,(F.map (ctn fs)).sum=fs.countP λx=>decide (x∈F)
 |[]=>by
  have:∀F:List Nat,(F.map (ctn [])).sum=0:=λF=>by
   induction F with
   |nil=>rfl
   |cons c r ih=>rw[As,Cq,ih];rfl
  rw[this];rfl
 |x::r=>by
  have e:ctn (x::r)=λc=>ctn r c+if x=c then 1 else 0:=by
   funext c
   unfold ctn;rw[Dj];by_cases h:x=c
   ·rw[if_pos h,if_pos (Aj h)]
   ·rw[if_neg h,if_neg (by rw[Bo];exact h)]
  rw[e,aJ0,aJW nd r,bQV x nd,Dj];by_cases h:x∈F
  ·rw[if_pos h,if_pos (Aj h)]
  ·rw[if_neg h,if_neg (by rw[Bo];exact h)]
def sL{p:α->Bool}{q:β->Bool}:∀(L:List α) (M:List β),L.length=M.length->(∀(j:Nat) a b,L[j]?=some a->M[j]?=some b->p a=true->q b=true)->L.countP p<=M.countP q
 |[],_,_,_=>Dc _
 |a::L,[],h,_=>by cases h
 |a::L,b::M,h,hpq=>by
  rw[Dj,Dj];have ih:=sL L M (by simpa using h) λj x y hx hy=>hpq (j+1) x y hx hy
  have h0:=hpq 0 a b rfl rfl
  by_cases pa:p a=true
  ·rw[if_pos pa,if_pos (h0 pa)];omega
  ·rw[if_neg pa];omega
def zQ{g h:Nat->Int}(e:∀c,g c<=h c):∀F:List Nat,(F.map g).sum<=(F.map h).sum
 |[]=>Hb _
 |c::r=>by
  rw[As,Cq,As,Cq];have:=zQ e r
  have:=e c
  omega
def bQ1{W L:List Wt}(s:W.Sublist L):W.length<=L.countP λw=>decide (w∈W):=by
 have h:=s.countP_le (p:=λw=>decide (w∈W))
 have e:W.countP (λw=>decide (w∈W))=W.length:=List.countP_eq_length.mpr λw hw=>Aj hw
 omega
def cJX{W:List Wt}(h:LackOk cws n W F):F.Nodup:=by
 obtain⟨p,rfl⟩:=h.flags;exact List.Nodup.sublist Eu (by decide)
def zW{W:List Wt}(h:LackOk cws n W F):¬CanH n cws:=by
 rintro⟨fs,hl,hch,hct⟩;have h1:=bQ1 h.sub
 have h2:((wl cws).countP λw=>decide (w∈W))<=fs.countP λx=>decide (x∈F):=sL _ _ hl.symm λj w g hw hg hp=>Aj (h.all w (Ba hp) g (hch j w g hw hg))
 have h3:=aJW (cJX h) fs
 have h4:=zQ hct F
 rw[pN (ctn fs) F]at h4;have h5:=h.few
 omega
def rX:Sp:=λvs H Q _=>∃(a b:Addr) (kvs:List (Key×V)) (f:Nat->Option Int) (cws:List (List Nat)),vs=[.ref a,.ref b]/\Rd H a (.dK kvs)/\Lk kvs f/\rdL H b=some ((cws.map bA).map V.str)/\cws.length<=8/\(∀c∈cws,c.length<=7/\∀d∈c,aX d)/\
 (CanH (aK (bJ (aK f))) cws->∀H',Same H H'->Q .non H')/\(∀(t l1 l2:Addr) (rs:List Addr) (W:List Wt) (F:List Nat) (H':Hp),Same H H'->H t=none->H' t=some (.tup [.ref l1,.ref l2])->H' l1=some (.lst (rs.map V.ref))->WtsAt H' rs W->H' l2=some (.lst ((F.map one).map V.str))->LackOk cws (aK (bJ (aK f))) W F->H l1=none->H l2=none->Q (.ref t) H')
def sc_lack_of:FnScope ["locker", "words", "lack"] ["locker", "words"] (aM pV):=by walk_at "sc"
def aZT(F:Fun K "lack_of" "lack_of" pV f fd)(G:Gs K mg w Zs Zz Zt Zx Z0 Zv Zy Zw Zu)(c_hang_all:jY P w K mg base 3 "hang_all" ["locker", "words"] (kX Zs)):FnOk P w K mg base CX0 4 f fd ["locker", "words"] rX:=by
 refine F.ok sc_lack_of (λvs H Q E h=>?_) (λcdv A outer s H vs Q E hr h=>?_)
 ·obtain⟨a,b,kvs,f,cws,rfl,_⟩:=h;rfl
 obtain⟨a,b,kvs,f,cws,rfl,ha,lk,hb,h8,hL,q1,q2⟩:=h;refine⟨_,(@aD _ _ _ _ _ (cZI (i:=2) rfl rfl rfl sc_lack_of.nd rfl rfl rfl G.c_Lack (λpins R=>(@aH _ _ _ (cG (dQ4 c_hang_all (nJ rfl) hr (by decide) rfl (aA (mv 0) (aA (mv 1) aB)))))) (λpins ea=>(@aH _ _ _ (aT (eG (aA (uK (K:=K) rfl (mv 2) rfl) (aA (uK (K:=K) rfl (mv 2) rfl) aB))))))) (@aH _ _ _ (aT dS))),?_⟩
 walk_at "go";refine⟨a,b,kvs,f,cws,rfl,ha,lk,hb,h8,hL,λrh ps fs H1 hrh s1 er hne hls hfl hch hct=>?_,λdx l1 l2 rs W F H1 s1 ed el1 hwt el2 hlo hn1 hn2=>⟨G.m_Lack,λea hea=>?_⟩⟩
 ·walk_at "go";exact q1 ⟨fs,hfl,hch,hct⟩ _ s1
 ·have k2:=aG hea (gM ea (.ref Zs) (some dx))
  have e2:(upd H1 ea (gM ea (.ref Zs) (some dx))) ea=_:=aE
  have ed2:=k2 _ _ ed
  generalize upd H1 ea (gM ea (.ref Zs) (some dx))=H2 at k2 e2 ed2 ⊢;walk_at "go";refine⟨ea,Zs,dx,_,_,rfl,.inl e2,ed2,G.xx_Lack,G.xn_Lack_wants,rfl,?_⟩;walk_at "go";refine⟨ea,Zs,dx,_,_,rfl,.inl e2,ed2,G.xx_Lack,G.xn_Lack_flags,rfl,?_⟩;walk_at "go";refine⟨by show 2<=sizeLine;decide,λt ht=>?_⟩
  have s3:=k2.trans (aG ht (.tup [.ref l1,.ref l2]))
  exact q2 t l1 l2 rs W F _ (s1.trans s3) (none_of (s1.trans k2) ht) aE (s3 _ _ el1) ⟨hwt.1,λj p w hp hw=>s3 _ _ (hwt.2 j p w hp hw)⟩ (s3 _ _ el2) hlo hn1 hn2
def rP{x:V}(h:(ks.map λk=>V.int ((k:Nat):Int))[j]?=some x):∃k,ks[j]?=some k/\x=.int ((k:Nat):Int):=by
 rw[Ah]at h;cases e:ks[j]? with
 |none=>rw[e]at h;cases h
 |some k=>rw[e]at h;cases h;exact⟨k,rfl,rfl⟩
def cL:List Nat->Nat->List (List Nat)
 |_,0=>[[]]
 |ks,m+1=>(List.range ks.length).flatMap λj=>(cL (ks.drop (j+1)) m).map λl=>ks.getD j 0::l
def iW(ks:List Nat):cL ks 0=[[]]:=by cases ks<;>rfl
def iS(ks:List Nat)(m:Nat):cL ks (m+1)=(List.range ks.length).flatMap λj=>(cL (ks.drop (j+1)) m).map λl=>ks.getD j 0::l:=by rw[cL]
def aQX{x:Nat}{l:List Nat}:∀ {ks:List Nat},(x::l).Sublist ks->∃j,j<ks.length/\ks.getD j 0=x/\l.Sublist (ks.drop (j+1))
 |[],h=>by cases h
 |k::ks,h=>by
  rcases List.sublist_cons_iff.mp h with e|⟨r,e,hr⟩
  ·obtain⟨j,h1,h2,h3⟩:=aQX e;exact⟨j+1,Nat.succ_lt_succ h1,h2,h3⟩
  ·cases e;exact⟨0,Nat.succ_pos _,rfl,hr⟩
def mem_combs:∀ {m:Nat} {ks l:List Nat},l∈cL ks m ↔ l.Sublist ks/\l.length=m
 |0,ks,l=>by
  rw[iW,Ak];constructor
  ·rintro rfl;exact⟨List.nil_sublist _,rfl⟩
  ·exact λh=>Fa h.2
 |m+1,ks,l=>by
  rw[iS,Fz];constructor
  ·rintro⟨j,hj,hl⟩;rw[Bw]at hj;obtain⟨l',h1,rfl⟩:=Bg.mp hl;obtain⟨h2,h3⟩:=mem_combs.mp h1;refine⟨?_,by rw[Ax,h3]⟩
   have e:ks.getD j 0::ks.drop (j+1)=ks.drop j:=by
    rw[Ac,Aa hj];exact(List.drop_eq_getElem_cons hj).symm
   have h4:(ks.getD j 0::l').Sublist (ks.getD j 0::ks.drop (j+1)):=h2.cons_cons _
   rw[e]at h4;exact h4.trans (List.drop_sublist _ _)
  ·rintro⟨h1,h2⟩;cases l with
   |nil=>cases h2
   |cons x l=>
    obtain⟨j,h3,h4,h5⟩:=aQX h1;exact⟨j,List.mem_range.mpr h3,List.mem_map.mpr ⟨l,mem_combs.mpr ⟨h5,by simpa using h2⟩,by rw[h4]⟩⟩
def qA(f:α->List β)(b:Nat):∀(L:List α),(∀x∈L,(f x).length<=b)->(L.flatMap f).length<=L.length*b
 |[],_=>Dc _
 |x::r,h=>by
  rw[Fp,Af,Ax,Nat.succ_mul];have h1:=qA f b r λy hy=>h y (Am _ hy)
  have h2:=h x Al
  omega
def iM:∀ {m:Nat} {ks:List Nat},ks.length<=6->(cL ks m).length<=6^m
 |0,ks,_=>by rw[iW];decide
 |m+1,ks,h=>by
  rw[iS];refine Bi (qA _ (6^m) _ λj _=>?_) ?_
  ·rw[Ab];exact iM (by rw[Cs];omega)
  ·rw[Bt,Nat.pow_succ,Nat.mul_comm];exact Nat.mul_le_mul_left _ h
def cZH(ks:List Nat)(j:Nat):(ks.map λk=>V.int ((k:Nat):Int)).drop j=((ks.drop j).map λk=>V.int ((k:Nat):Int)):=(List.map_drop ..).symm
def bXP:qH xs (some ((k:Nat):Int)) none=xs.drop k:=by
 unfold qH;show (xs.drop (if ((k:Nat):Int)<0 then (((k:Nat):Int)+(xs.length:Int)).toNat else min ((k:Nat):Int).toNat xs.length)).take (xs.length-(if ((k:Nat):Int)<0 then (((k:Nat):Int)+(xs.length:Int)).toNat else min ((k:Nat):Int).toNat xs.length))=_
 rw[if_neg (by omega),Gu]
 by_cases h:k<=xs.length
 ·rw[Nat.min_eq_left h,Cd (by rw[Cs];omega)]
 ·rw[Gv (by omega),List.drop_length,List.take_nil,List.drop_eq_nil_of_le (by omega)]
def pT(ks:List Nat)(m i:Nat):List (List Nat):=(List.range i).flatMap λj=>(cL (ks.drop (j+1)) m).map λl=>ks.getD j 0::l
def aXL(ks:List Nat)(m i:Nat):pT ks m (i+1)=pT ks m i++(cL (ks.drop (i+1)) m).map λl=>ks.getD i 0::l:=by
 unfold pT;rw[Bs,Et,Fp,List.flatMap_nil,Bd]
def fQ9{m:Nat}(h:m<=7):6^m<=279936:=Bi (Nat.pow_le_pow_right (by decide) h) (by decide)
def aZP{m i:Nat}(h:ks.length<=6):(pT ks m i).length<=i*6^m:=by
 have:=qA (λj=>(cL (ks.drop (j+1)) m).map λl=>ks.getD j 0::l) (6^m) (List.range i) λj _=>by
  rw[Ab];exact iM (by rw[Cs];omega)
 rwa [Bt]at this
def aZ0{ps:List Addr}{x:V}(h:(ps.map V.ref)[j]?=some x):∃p,ps[j]?=some p/\x=.ref p:=by
 rw[Ah]at h;cases e:ps[j]? with
 |none=>rw[e]at h;cases h
 |some p=>rw[e]at h;cases h;exact⟨p,rfl,rfl⟩
def aX2(k:Nat)(L:Q5):(List.range L.length).map (λj=>V.int ((k:Nat):Int)::((L.getD j []).map λk=>V.int ((k:Nat):Int)))=(L.map λl=>k::l).map λl=>(l.map λk=>V.int ((k:Nat):Int)):=by
 rw[Cg];have h:∀n,n<=L.length->(List.range n).map (λj=>V.int ((k:Nat):Int)::((L.getD j []).map λk=>V.int ((k:Nat):Int)))=(L.take n).map ((λl=>(l.map λk=>V.int ((k:Nat):Int))) ∘ λl=>k::l):=λn=>by
  induction n with
  |zero=>intro _;rfl
  |succ n ih=>
   intro hn;have e:L[n]?=some L[n]:=Aa (by omega)
   rw[Bs,Ar,ih (by omega),Bc,e,Ar]
   refine Ds _ ?_;show [V.int ((k:Nat):Int)::((L.getD n []).map λk=>V.int ((k:Nat):Int))]=[((k::L[n]).map λk=>V.int ((k:Nat):Int))]
   rw[Ac,e];rfl
 have r:=h L.length (Ai _)
 rwa [Br]at r
def cO(n:Nat):Sp:=λvs H Q _=>∃(b:Addr) (ks:List Nat) (m:Nat),vs=[.ref b,.int ((m:Nat):Int)]/\rdL H b=some (ks.map λk=>V.int ((k:Nat):Int))/\ks.length<=6/\m<n/\m<=7/\
 ∀(r:Addr) (ps:List Addr) (H':Hp),H r=none->Same H H'->H' r=some (.lst (ps.map V.ref))->Lsts H H' ps ((cL ks m).map λl=>(l.map λk=>V.int ((k:Nat):Int)))->(∀p∈ps,p≠r)->Q (.ref r) H'
def pK:∀vs H Q E,¬cO 0 vs H Q E:=λvs H Q E ⟨_,_,_,_,_,_,h,_⟩=>Ge _ h
def sc_rising_lists:FnScope ["numbers", "many", "lists", "at", "number", "behind"] ["numbers", "many"] (aM dO):=by walk_at "sc"
def rE{n:Nat}(F:Fun K "rising_lists" "rising_lists" dO f fd)(G:Gs K mg w Zs Zz Zt Zx Z0 Zv Zy Zw Zu)(c_rising_lists:Cal P w K mg base (d+1) "rising_lists" ["numbers", "many"] (cO n)):FnOk P w K mg base CX0 (d+2) f fd ["numbers", "many"] (cO (n+1)):=by
 refine F.ok sc_rising_lists (λvs H Q E h=>?_) (λcdv A outer s H vs Q E hr h=>?_)
 ·obtain⟨b,ks,m,rfl,_⟩:=h;rfl
 obtain⟨b,ks,m,rfl,hb,h6,hmn,h7,q⟩:=h;refine⟨_,(@aD _ _ _ _ _ (bU (aY hJ (mv 1) aI (aW _)) (@aH _ _ _ (aT (bR (aA (bR aB) aB)))) bC) (@aD _ _ _ _ _ (aP 2 sc_rising_lists.nd (bR aB)) (@aD _ _ _ _ _ (cI Bh rfl (jG rfl G.b_enumerate (aA (mv 0) aB)) (dQ (K:=K) (i:=3) (j:=4) (by rfl) (by rfl) sc_rising_lists.nd (by rfl) (by exact(Or.inl rfl)) (by exact Or.inl rfl) (by rfl) (by exact(Or.inr rfl)) (by exact Or.inl rfl)) (@aD _ _ _ _ _ (aP 5 sc_rising_lists.nd (aZ c_rising_lists hr (Ai _) rfl (aA (lD eZW (mv 0) (gB (aQ cB (mv 3) aI)) cJH) (aA (aQ jO (mv 1) aI) aB)))) (@aH _ _ _ (cG (dA By Eb Ec aXA (mv 2) (aA (dB rfl (dD (mv 5)) (jP (N:=["rest", "number"]) ["numbers", "many", "lists", "at", "number", "behind"] (aM dO) [none,some 4] rfl rfl rfl (λx h=>cS h) (by decide +kernel)) (by decide +kernel) rfl (by decide +kernel) (λ_ _ _ _=>(bH (i:=0) (show List.Nodup (["rest", "number"]:List Str) by decide +kernel) rfl (Or.inl rfl))) (λ_ _ _ _=>eP) (λ_ _ _ _=>(aQ cB (bR (aA (mv 1) aB)) (mv 0)))) aB)))))) (@aH _ _ _ (aT (mv 2)))))),?_⟩
 cases m with
 |zero=>
  walk_at "go";rw[show decide (((0:Nat):Int)=0)=true from rfl];walk_at "go";refine⟨by decide,λp hp=>?_⟩
  have s1:=aG hp (.lst [])
  have e1:(upd H p (.lst [])) p=some (.lst ((([]:List Nat)).map λk=>V.int ((k:Nat):Int))):=aE
  generalize upd H p (.lst [])=H1 at s1 e1 ⊢;walk_at "go";refine⟨by show 1<=sizeLine;decide,λr hr=>?_⟩
  have s2:=aG hr (.lst [.ref p])
  have npr:p≠r:=λz=>by rw[z,hr]at e1;cases e1
  refine q r [p] _ (none_of s1 hr) (s1.trans s2) aE ?_ (λz hz=>by rw[Ak.mp hz];exact npr)
  rw[iW];exact Lsts.snoc (ps:=[]) (fs:=[]) .nil hp (s2 _ _ e1)
 |succ m=>
  have h6m:=fQ9 (m:=m+1) h7
  rw[Nat.pow_succ]at h6m;walk_at "go";rw[show decide (((m+1:Nat):Int)=0)=false from Aw (by omega)]
  walk_at "go";refine⟨by decide,λp hp=>?_⟩
  have s1:=aG hp (.lst [])
  have e1:(upd H p (.lst [])) p=some (.lst (([]:List Addr).map V.ref)):=aE
  generalize upd H p (.lst [])=H1 at s1 e1 ⊢;have hb1:=aO s1 hb
  walk_at "go";refine jA (xs:=(ks.map λk=>V.int ((k:Nat):Int))) (λi σ H'=>∃(ps:List Addr) (v3 v4 v5:Option V),σ=[some (.ref b),some (.int ((m+1:Nat):Int)),some (.ref p),v3,v4,v5]/\Same H H'/\H' p=some (.lst (ps.map V.ref))/\Lsts H H' ps ((pT ks m i).map λl=>(l.map λk=>V.int ((k:Nat):Int)))/\∀z∈ps,z≠p)
   ⟨[],_,_,_,rfl,s1,e1,.nil,λz hz=>nomatch hz⟩ (λi σ H' _ ⟨_,_,_,_,_,e,_⟩=>aO e hb) ?_ ?_
  ·rintro i x σ H2 pt hx ⟨ps,v3,v4,v5,rfl,s2,e2,ls,nd⟩ hpt;obtain⟨k,ek,rfl⟩:=rP hx;have hi:i<ks.length:=(Ad.mp ek).1
   have hps:ps.length=(pT ks m i).length:=by rw[ls.1,Ab]
   have hpl:=aZP (m:=m) (i:=i) h6
   have hpl2:i*6^m<=5*6^m:=Nat.mul_le_mul_right _ (by omega)
   have s3:=s2.trans (aG hpt (.tup [.int ((0+i:Nat):Int),.int ((k:Nat):Int)]))
   have s23:=aG hpt (.tup [.int ((0+i:Nat):Int),.int ((k:Nat):Int)])
   have et3:(upd H2 pt (.tup [.int ((0+i:Nat):Int),.int ((k:Nat):Int)])) pt=some (.tup [.int ((0+i:Nat):Int),.int ((k:Nat):Int)]):=aE
   generalize upd H2 pt (.tup [.int ((0+i:Nat):Int),.int ((k:Nat):Int)])=H3 at s3 s23 et3 ⊢;have hb3:=aO s3 hb
   have tt3:=cF et3
   walk_at "go";rw[show ((0+i:Nat):Int)+1=((i+1:Nat):Int) by omega]
   intro ra hra;rw[bXP,cZH];have s4:=aG hra (.lst ((ks.drop (i+1)).map λk=>V.int ((k:Nat):Int)))
   have e4:rdL (upd H3 ra (.lst ((ks.drop (i+1)).map λk=>V.int ((k:Nat):Int)))) ra=some ((ks.drop (i+1)).map λk=>V.int ((k:Nat):Int)):=bO
   generalize upd H3 ra (.lst ((ks.drop (i+1)).map λk=>V.int ((k:Nat):Int)))=H4 at s4 e4 ⊢;have s24:=s23.trans s4
   walk_at "go";rw[show ((m+1:Nat):Int)-1=((m:Nat):Int) by omega]
   refine⟨ra,ks.drop (i+1),m,rfl,e4,by rw[Cs];omega,by omega,by omega,λrb qs H5 hrb s5 e5 lq nq=>?_⟩
   have s25:=s24.trans s5
   have rb5:=aR e5
   have rp5:=aR (s25 _ _ e2)
   have hqs:qs.length=(cL (ks.drop (i+1)) m).length:=by rw[lq.1,Ab]
   have hql:(cL (ks.drop (i+1)) m).length<=6^m:=iM (by rw[Cs];omega)
   walk_at "go";refine cJ0 (λj=>V.int ((k:Nat):Int)::(((cL (ks.drop (i+1)) m).getD j []).map λk=>V.int ((k:Nat):Int))) rb5 (by rw[Ab,hqs];exact Nat.lt_of_le_of_lt (Bi hql (Bi (Nat.le_mul_of_pos_right _ (by decide:0<6)) h6m)) (by decide)) (λj x Hc A B hx sm hA=>?_) (λD Hd us hD sd eD hul lu nu=>?_)
   ·obtain⟨u,eu,rfl⟩:=aZ0 hx;have hj:j<(cL (ks.drop (i+1)) m).length:=by rw[<-hqs];exact(Ad.mp eu).1
    obtain⟨l,el⟩:∃l,(cL (ks.drop (i+1)) m)[j]?=some l:=⟨_,Aa hj⟩;have hu:=sm _ _ (lq.2 j u (l.map λk=>V.int ((k:Nat):Int)) eu (by rw[Ah,el];rfl)).2
    have hll:l.length=m:=(mem_combs.mp (An el)).2
    have hgl:(cL (ks.drop (i+1)) m).getD j []=l:=by rw[Ac,el];rfl
    rw[hgl]at hA;walk_at "go";refine⟨Wk.set rfl (Wk.refl _),?_⟩;walk_at "go";refine⟨by show 1<=sizeLine;decide,λp6 hp6=>?_⟩
    have s6:=aG hp6 (.lst [V.int ((k:Nat):Int)])
    have e6:(upd Hc p6 (.lst [V.int ((k:Nat):Int)])) p6=some (.lst [V.int ((k:Nat):Int)]):=aE
    have hu6:=s6 _ _ hu
    generalize upd Hc p6 (.lst [V.int ((k:Nat):Int)])=H6 at s6 e6 hu6 ⊢;refine sI (bW e6) (bW hu6) (bP (by rw[Ab];show 1+_<=_;omega)) λp7 hp7=>?_
    exact hA p7 _ (none_of s6 hp7) (s6.trans (aG hp7 _)) aE
   ·rw[Ab,hqs,aX2]at lu;rw[Ab]at hul;have s2d:=s25.trans sd
    have e2d:=s2d _ _ e2
    have npD:∀z∈us,z≠p:=λz hz zp=>by
     obtain⟨g,_,h1,_⟩:=lu.mem hz;rw[zp,s25 _ _ e2]at h1;cases h1
    have hek:ks.getD i 0=k:=by rw[Ac,ek];rfl
    walk_at "go";refine dZL (bW e2d) (bW eD) (Bi (by rw[Ab,Ab,hps,hul,hqs];omega:_<=279936) (by decide)) ?_
    walk_at "go";refine⟨ps++us,_,_,_,rfl,bM hp (s2.trans s2d),by rw[Ar];exact aE,?_,λz hz=>?_⟩
    ·rw[aXL,Ar,hek];refine Lsts.put ?_ λz hz=>?_
     ·exact(ls.keep s2d).app (lu.older (s2.trans s25))
     ·rcases Bm.mp hz with e|e
      ·exact nd z e
      ·exact npD z e
    ·rcases Bm.mp hz with e|e
     ·exact nd z e
     ·exact npD z e
  ·rintro σ H2 ⟨ps,v3,v4,v5,rfl,s2,e2,ls,nd⟩;walk_at "go";refine q p ps H2 hp s2 e2 ?_ nd;rw[iS];rw[Ab]at ls;exact ls
def xD(sep:Array Nat):∀(ys:List Str) (acc:Array Nat),(ys.foldl (λacc p=>acc++sep++p.cps) acc).toList=acc.toList++(ys.map λy=>sep.toList++y.cps.toList).flatten
 |[],acc=>by simp
 |y::r,acc=>by
  rw[List.foldl_cons,xD sep r];simp
def cZJ(sep y:Str)(r:List Str):(Txt.join sep (y::r)).cps.toList=y.cps.toList++(r.map λy=>sep.cps.toList++y.cps.toList).flatten:=by
 have e:=xD sep.cps r y.cps
 rw[<-e];rfl
def dQZ{sep:Str}{n:Nat}:∀ {L:List Str},(∀z∈L,z.length<=n)->(Txt.join sep L).length<=(n+sep.length)*L.length
 |[],_=>Dc _
 |y::r,h=>by
  have hl:∀r:List Str,(∀z∈r,z.length<=n)->(r.map λy=>sep.cps.toList++y.cps.toList).flatten.length<=(n+sep.length)*r.length:=λr h=>by
   induction r with
   |nil=>exact Ai _
   |cons u v ih=>
    rw[As,Bz,Af,Af,Ax,fD,fD];have h1:=h u Al
    have h2:=ih λx hx=>h x (Am _ hx)
    rw[Nat.mul_succ];omega
  rw[<-fD,cZJ,Af,fD,Ax,Nat.mul_succ];have h1:=h y Al
  have h2:=hl r λx hx=>h x (Am _ hx)
  omega
def jM(F:α->V):∀xs:List α,(List.range xs.length).filterMap (λj=>(xs[j]?).map F)=xs.map F:=λxs=>by
 have h:∀n,n<=xs.length->(List.range n).filterMap (λj=>(xs[j]?).map F)=(xs.take n).map F:=λn=>by
  induction n with
  |zero=>intro _;rfl
  |succ n ih=>
   intro hn;have e:xs[n]?=some xs[n]:=Aa (by omega)
   rw[iE (y:=F xs[n]) (by rw[e];rfl),ih (by omega),Bc,e,Ar]
   rfl
 have r:=h xs.length (Ai _)
 rw[Br]at r;exact r
def fXC:Option (List Nat)->Str
 |none=>⟨#[45]⟩
 |some cs=>bA cs
def HalV(H:Hp)(v:V):Option (List Nat)->Prop
 |none=>v=.non
 |some cs=>∃p,v=.ref p/\H p=some (.lst ((cs.map one).map V.str))
def eX(hs:List (Option (List Nat))):Prop:=∀cs,some cs∈hs->cT (cs.map one)=true
structure HalsAt (H:Hp) (vs:List V) (hs:List (Option (List Nat))):Prop where
 len:vs.length=hs.length
 val:∀(j:Nat) v h,vs[j]?=some v->hs[j]?=some h->HalV H v h
def HalV.keep(a:HalV H v h)(s:∀p xs,H p=some (.lst xs)->v=.ref p->H' p=some (.lst xs)):HalV H' v h:=by
 cases h with
 |none=>exact a
 |some cs=>
  obtain⟨p,e,hp⟩:=a;exact⟨p,e,s p _ hp e⟩
def HalsAt.keep{vs:List V}(a:HalsAt H vs hs)(s:Same H H'):HalsAt H' vs hs:=⟨a.len,λj v h hv hh=>(a.val j v h hv hh).keep λp xs hp _=>s _ _ hp⟩
def HalsAt.nil:HalsAt H [] []:=⟨rfl,λj v h hv=>nomatch hv⟩
def HalsAt.snoc{vs:List V}(a:HalsAt H vs hs)(b:HalV H v h):HalsAt H (vs++[v]) (hs++[h]):=by
 refine⟨by rw[Af,Af,a.len];rfl,λj x g hx hg=>?_⟩
 by_cases hj:j<vs.length
 ·rw[Aq hj]at hx;rw[Aq (by rw[<-a.len];exact hj)]at hg
  exact a.val j x g hx hg
 ·have e:j=vs.length:=by
   have:=(Ad.mp hx).1
   rw[Af]at this;have:j<vs.length+1:=this
   omega
  subst e;rw[Au (Ai _),Fg]at hx;rw[a.len,Au (Ai _),Fg]at hg;cases hx;cases hg;exact b
def HalV.ne{vs:List V}(hr:H r=some (.lst vs))(hj:vs[j]?=some v)(a:HalV H v h):v≠.ref r:=λz=>by
 cases h with
 |none=>rw[show v=.non from a]at z;cases z
 |some cs=>
  obtain⟨p,e,hp⟩:=a;rw[z]at e;cases e;rw[hr]at hp;cases hp;obtain⟨u,_,hu⟩:=iR hj;rw[z]at hu;cases hu
def HalsAt.put{vs:List V}(hr:H r=some (.lst vs))(a:HalsAt H vs hs):HalsAt (upd H r (.lst us)) vs hs:=⟨a.len,λj v h hv hh=>(a.val j v h hv hh).keep λp xs hp e=>by
 rw[aJ (λz=>(a.val j v h hv hh).ne hr hv (by rw[<-z];exact e))]
 exact hp⟩
def HalsAt.at{vs:List V}(a:HalsAt H vs hs)(hv:vs[j]?=some v):∃h,hs[j]?=some h/\HalV H v h:=by
 have hj:j<hs.length:=by rw[<-a.len];exact(Ad.mp hv).1
 exact⟨hs[j],Aa hj,a.val j v _ hv (Aa hj)⟩
def HalsAt.alk{vs:List V}{q:Addr}(a:HalsAt H vs hs)(b:HalsAt H us hs)(hp:rdL H p=some vs)(hq:rdL H q=some us):Alk H 2 (.ref p) (.ref q):=by
 refine .lst hp hq (by rw[a.len,b.len]) λj x y hx hy=>?_
 obtain⟨h,hh,hv⟩:=a.at hx;have hw:=b.val j y h hy hh
 cases h with
 |none=>
  rw[show x=.non from hv,show y=.non from hw];exact Alk.flat rfl
 |some cs=>
  obtain⟨p1,rfl,h1⟩:=hv;obtain⟨p2,rfl,h2⟩:=hw;exact .lst (aR h1) (aR h2) rfl (Alk.flats (fL _))
def aJQ{K:W.Frag}{g:TG}{tests:TT}{te:TE}{σ0:St}{a:Addr}{hs:Q3}(ha:rdL H1 a=some xs)(hl:xs.length<sizeLine)(hx:xs.length=hs.length)(step:∀(i:Nat) x h Hc (A:VK) (B:Hp->Prop),xs[i]?=some x->hs[i]?=some h->Same H1 Hc->(∀v Hd,Same Hc Hd->HalV Hd v h->(∀p,v=.ref p->Hc p=none)->A v Hd)->
 g x σ0 Hc λσ2 H2=>Wk σ0 σ2/\tests σ2 H2 λb H3=>if b=true then te σ2 H3 A else B H3)(fin:∀D Hd vs,H1 D=none->Same H1 Hd->Hd D=some (.lst vs)->HalsAt Hd vs hs->(∀p,V.ref p∈vs->H1 p=none)->Q (.ref D) Hd):eI g tests te σ0 Q (Itl K a) H1:=by
 refine iA (n:=xs.length) (λD i ys Hc=>Same H1 Hc/\HalsAt Hc ys (hs.take i)/\∀p,V.ref p∈ys->H1 p=none) hl (λD hD=>⟨aG hD _,.nil,λp hp=>nomatch hp⟩)
  (λD i ys Hc _ r h=>⟨xs,xs[i],bF (aO r.1 ha),by simp[h]⟩) (λD ys Hc _ r=>⟨xs,bF (aO r.1 ha),Nat.le_refl _⟩) ?_ ?_
 ·rintro D i ys Hc x H' A B hD hi ⟨sm,at',fr⟩ hDc ⟨rfl,hz⟩ ha' hb;have hi2:i<hs.length:=by omega
  have eh:hs[i]?=some hs[i]:=Aa hi2
  refine step i x hs[i] H' A B (hz xs (bF (aO sm ha))) eh sm (λv Hd sd hv hn=>?_);refine ha' _ _ (sd _ _ hDc) ⟨bM hD (sm.trans sd),?_,λp hp=>?_⟩
  ·rw[Bc,eh];refine HalsAt.snoc ((at'.keep sd).put (sd _ _ hDc)) (hv.keep λp zs hp e=>?_);rw[aJ (λz=>by have:=hn p e;rw[z,hDc]at this;cases this)]
   exact hp
  ·rcases Bm.mp hp with e|e
   ·exact fr p e
   ·exact none_of sm (hn p (Ak.mp e).symm)
 ·rintro D ys Hc hD ⟨sm,at',fr⟩ hDc _;rw[hx,Br]at at';exact fin D Hc ys hD sm hDc at' fr
def cZO{f:Nat->Option Int}(hf0:∀c,0<=aK f c)(c:Nat):aK (bJ (aK f)) c<=aK f c:=by
 show (bJ (aK f) c).getD 0<=_
 unfold bJ;split
 ·exact Hb _
 ·exact hf0 c
def LackOk.plain{f:Nat->Option Int}{W:List Wt}(hf0:∀c,0<=aK f c)(h:LackOk cws (aK (bJ (aK f))) W F):LackOk cws (aK f) W F:=by
 refine⟨h.sub,h.flags,h.all,?_⟩;have e:F.map (aK f)=F.map (aK (bJ (aK f))):=Do λc hc=>by
  obtain⟨p,hp⟩:=h.flags;rw[hp]at hc;exact(cN (flags_mem.mp (Dx.mp hc).1) (hf0 c)).symm
 rw[e];exact h.few
def kQ{cws:Q5}:∀i,i<=cws.length->(wlP cws i).length=fQ cws i
 |0,_=>rfl
 |i+1,h=>by
  have e:cws[i]?=some cws[i]:=Aa (by omega)
  rw[kP,Af,kQ i (by omega),wR e]
  unfold oF;rw[Ab,Bt,Ac,e];rfl
def eZL(hi:cws[i]?=some cw)(hk:k<cw.length):(wl cws)[fQ cws i+k]?=some (i,1+k):=by
 have hil:=(Ad.mp hi).1
 have h:∀n,i<n->n<=cws.length->(wlP cws n)[fQ cws i+k]?=some (i,1+k):=λn=>by
  induction n with
  |zero=>intro h;omega
  |succ n ih=>
   intro h1 h2;rw[kP];by_cases hn:i=n
   ·subst hn;have e:=kQ (cws:=cws) i (by omega)
    rw[Au (by omega),show fQ cws i+k-(wlP cws i).length=k by omega]
    unfold oF;rw[Ah,Ac,hi];show ((List.range cw.length)[k]?).map _=_
    rw[Gc hk];rfl
   ·have r:=ih (by omega) (by omega)
    rw[Aq (Ad.mp r).1];exact r
 exact h cws.length hil (Ai _)
def Hg(cw h:List Nat):Prop:=h.length=cw.length/\∀(k g:Nat),h[k]?=some g->g∈chs cw k
inductive Hgs:List (List Nat)->List (List Nat)->Prop
 |nil:Hgs [] []
 |cons {cw h:List Nat} {cws hs:Q5}:Hg cw h->Hgs cws hs->Hgs (cw::cws) (h::hs)
def lJ(xs ys:List Nat)(c:Nat):ctn (xs++ys) c=ctn xs c+ctn ys c:=Gf
def Hgs.sub(s:cws'.Sublist cws):∀ {hs:Q5},Hgs cws hs->∃hs',Hgs cws' hs'/\∀c,ctn hs'.flatten c<=ctn hs.flatten c:=by
 induction s with
 |slnil=>intro hs h;exact⟨hs,h,λc=>Ai _⟩
 |cons a s ih=>
  rintro _ (_|⟨h1,h2⟩);obtain⟨hs',p,q⟩:=ih h2;exact⟨hs',p,λc=>by rw[Bz,lJ];have:=q c;omega⟩
 |cons_cons a s ih=>
  rintro _ (_|⟨h1,h2⟩);obtain⟨hs',p,q⟩:=ih h2;exact⟨_::hs',.cons h1 p,λc=>by rw[Bz,lJ,Bz,lJ];have:=q c;omega⟩
def Hgs.perm(s:cws.Perm cws'):∀ {hs:Q5},Hgs cws hs->∃hs',Hgs cws' hs'/\∀c,ctn hs'.flatten c=ctn hs.flatten c:=by
 induction s with
 |nil=>intro hs h;exact⟨hs,h,λc=>rfl⟩
 |cons a s ih=>
  rintro _ (_|⟨h1,h2⟩);obtain⟨hs',p,q⟩:=ih h2;exact⟨_::hs',.cons h1 p,λc=>by rw[Bz,lJ,Bz,lJ,q c]⟩
 |swap a b l=>
  rintro _ (_|⟨h1,h2⟩);rcases h2 with _|⟨h2,h3⟩
  exact⟨_,.cons h2 (.cons h1 h3),λc=>by simp only[List.flatten_cons,lJ];omega⟩
 |trans _ _ ih1 ih2=>
  intro hs h;obtain⟨h1,p1,q1⟩:=ih1 h;obtain⟨h2,p2,q2⟩:=ih2 p1;exact⟨h2,p2,λc=>(q2 c).trans (q1 c)⟩
def CanL(n:Nat->Int)(cws:List (List Nat)):Prop:=∃hs,Hgs cws hs/\∀c,(ctn hs.flatten c:Int)<=n c
def Hgs.len{hs:Q5}(h:Hgs cws hs):hs.length=cws.length:=by
 induction h with
 |nil=>rfl
 |cons _ _ ih=>rw[Ax,Ax,ih]
def cX5{w:Wt}:∀i,i<=cws.length->(wlP cws i)[j]?=some w->∃(a k:Nat) (cw:List Nat),a<i/\cws[a]?=some cw/\k<cw.length/\w=(a,1+k)/\j=fQ cws a+k
 |0,_,h=>by cases h
 |i+1,hi,h=>by
  rw[kP]at h;have hl:=kQ (cws:=cws) i (by omega)
  by_cases hj:j<(wlP cws i).length
  ·rw[Aq hj]at h;obtain⟨a,k,cw,p,q⟩:=cX5 i (by omega) h
   exact⟨a,k,cw,by omega,q⟩
  ·rw[Au (by omega)]at h
   have e:cws[i]?=some cws[i]:=Aa (by omega)
   unfold oF at h;rw[Ah,Ac,e]at h;have hlt:j-(wlP cws i).length<(cws[i]).length:=by
    have hn:¬(cws[i]).length<=j-(wlP cws i).length:=λz=>by
     rw[List.getElem?_eq_none (by rw[Bt];exact z)]at h
     cases h
    omega
   refine⟨i,j-(wlP cws i).length,cws[i],by omega,e,hlt,?_,by omega⟩
   rw[Gc (by exact hlt)]at h
   cases h;rfl
def Hgs.at{hs:Q5}(h:Hgs cws hs):∀ {i:Nat} {cw:List Nat},cws[i]?=some cw->∃g,hs[i]?=some g/\Hg cw g:=by
 induction h with
 |nil=>intro i cw e;cases e
 |cons a b ih=>
  intro i cw e;cases i with
  |zero=>cases e;exact⟨_,rfl,a⟩
  |succ i=>exact ih e
def Hgs.offsL{hs:Q5}(h:Hgs cws hs):∀(i:Nat),(hs.take i).flatten.length=fQ cws i:=by
 induction h with
 |nil=>intro i;cases i<;>rfl
 |cons a b ih=>
  intro i;cases i with
  |zero=>rfl
  |succ i=>
   have:=ih i
   unfold fQ at this ⊢;rw[Gb,Bz,Af,this,Gb,As,Cq,a.1]
def cJ7{hs:Q5}{g:List Nat}(h:hs[i]?=some g)(hk:k<g.length):hs.flatten[(hs.take i).flatten.length+k]?=g[k]? := by
 have e:hs=hs.take i++(g::hs.drop (i+1)):=by
  obtain⟨h1,h2⟩:=Ad.mp h;rw[<-h2,<-List.drop_eq_getElem_cons h1,List.take_append_drop]
 have e2:hs.flatten=(hs.take i).flatten++(g++(hs.drop (i+1)).flatten):=by
  have:=Ds List.flatten e
  rwa [List.flatten_append,Bz]at this
 rw[e2,Au (by omega),Cz,Aq hk]
def CanL.canH(h:CanL n cws):CanH n cws:=by
 obtain⟨hs,hg,hc⟩:=h;refine⟨hs.flatten,?_,λj w g hw hf=>?_,hc⟩
 ·have h1:=hg.offsL cws.length
  rw[show hs.take cws.length=hs from Cd (Nat.le_of_eq hg.len)]at h1;rw[h1];exact(kQ _ (Ai _)).symm
 ·obtain⟨a,k,cw,ha,hcw,hk,rfl,rfl⟩:=cX5 cws.length (Ai _) hw;obtain⟨h,hh,hgh⟩:=hg.at hcw;rw[<-hg.offsL a,cJ7 hh (by rw[hgh.1];exact hk)]at hf
  unfold chW;rw[Ac,hcw,show (a,1+k).2-1=k by show 1+k-1=k;omega]
  exact hgh.2 k g hf
def qC:List (List Nat)->List Nat->List (List Nat)
 |[],_=>[]
 |cw::r,fs=>fs.take cw.length::qC r (fs.drop cw.length)
def pX:∀ {cws:Q5} {fs:List Nat},fs.length=(cws.map List.length).sum->(qC cws fs).flatten=fs
 |[],fs,h=>by rw[Fa h];rfl
 |cw::r,fs,h=>by
  rw[As,Cq]at h;rw[qC,Bz,pX (by rw[Cs];omega),List.take_append_drop]
def aXM:∀ {cws:Q5} {fs:List Nat},fs.length=(cws.map List.length).sum->(∀(i k g:Nat) cw,cws[i]?=some cw->k<cw.length->fs[fQ cws i+k]?=some g->g∈chs cw k)->Hgs cws (qC cws fs)
 |[],fs,h,_=>.nil
 |cw::r,fs,h,hc=>by
  rw[As,Cq]at h;refine .cons ⟨by rw[Bx];omega,λk g hk=>?_⟩ (aXM (by rw[Cs];omega) λi k g cw' hi hk hg=>?_)
  ·have hkl:k<cw.length:=by
    have:=(Ad.mp hk).1
    rw[Bx]at this;omega
   rw[List.getElem?_take,if_pos hkl]at hk;exact hc 0 k g cw rfl hkl (by rw[show fQ (cw::r) 0=0 from rfl,Nat.zero_add];exact hk)
  ·refine hc (i+1) k g cw' hi hk ?_;rw[List.getElem?_drop]at hg;rw[show fQ (cw::r) (i+1)=cw.length+fQ r i by unfold fQ;rw[Gb,As,Cq],Nat.add_assoc]
   exact hg
def aXN(cws:Q5):(wl cws).length=(cws.map List.length).sum:=by
 have h:=kQ (cws:=cws) cws.length (Ai _)
 unfold fQ at h;rw[Br]at h;exact h
def bJH(hl:fs.length=(wl cws).length)(hch:∀(j:Nat) w g,(wl cws)[j]?=some w->fs[j]?=some g->g∈chW cws w):Hgs cws (qC cws fs):=by
 refine aXM (hl.trans (aXN cws)) λi k g cw hi hk hg=>?_;have h:=hch _ _ g (eZL hi hk) hg
 unfold chW at h;rw[Ac,hi,show (i,1+k).2-1=k by show 1+k-1=k;omega]at h
 exact h
def CanH.canL(h:CanH n cws):CanL n cws:=by
 obtain⟨fs,hl,hch,hc⟩:=h;exact⟨qC cws fs,bJH hl hch,by rw[pX (hl.trans (aXN cws))];exact hc⟩
def CanH.sub(h:CanH n cws)(s:cws'.Sublist cws):CanH n cws':=by
 obtain⟨hs,hg,hc⟩:=h.canL;obtain⟨hs',p,q⟩:=hg.sub s;exact CanL.canH ⟨hs',p,λc=>by have:=hc c;have:=q c;omega⟩
def CanH.perm(h:CanH n cws)(s:cws.Perm cws'):CanH n cws':=by
 obtain⟨hs,hg,hc⟩:=h.canL;obtain⟨hs',p,q⟩:=hg.perm s;exact CanL.canH ⟨hs',p,λc=>by rw[q c];exact hc c⟩
def CanH.nil(h:∀c,0<=n c):CanH n []:=CanL.canH ⟨[],.nil,h⟩
def HalsAt.get{vs:List V}(a:HalsAt H vs hs)(hk:k<hs.length):∃v,atI vs (k:Int)=some v/\vs[k]?=some v/\HalV H v (hs.getD k none):=by
 have hv:k<vs.length:=by rw[a.len];exact hk
 refine⟨vs[k],aV (Aa hv),Aa hv,?_⟩;refine a.val k _ _ (Aa hv) ?_;rw[Ac,Aa hk];rfl
def bI(hs:List (Option (List Nat)))(n:Nat):List Nat:=(List.range hs.length).filter λk=>(hs.getD k none).isSome && !decide (k=n)
def eZ{n:Nat}(h:k∈bI hs n):k<hs.length/\(hs.getD k none).isSome=true/\k≠n:=by
 obtain⟨h1,h2⟩:=Dx.mp h;rw[Ea,Bool.not_eq_true',decide_eq_false_iff_not]at h2;exact⟨Bw.mp h1,h2.1,h2.2⟩
def sM{n:Nat}(hn:n<hs.length):(bI hs n).length+1<=hs.length:=by
 have h1:(bI hs n).Sublist ((List.range hs.length).filter λk=>!decide (k=n)):=by
  have e:bI hs n=((List.range hs.length).filter λk=>!decide (k=n)).filter λk=>(hs.getD k none).isSome:=by
   unfold bI;rw[List.filter_filter]
  rw[e];exact Eu
 have h2:=h1.length_le
 have h3:=List.length_eq_countP_add_countP (p:=λk=>decide (k=n)) (l:=List.range hs.length)
 rw[Bt]at h3;have h4:1<=(List.range hs.length).countP λk=>decide (k=n):=by
  refine List.countP_pos_iff.mpr ⟨n,Bw.mpr hn,Aj rfl⟩
 have h5:((List.range hs.length).filter λk=>!decide (k=n)).length=(List.range hs.length).countP λk=>!decide (k=n):=Fi.symm
 have h6:((List.range hs.length).countP λa=>¬(decide (a=n))=true)=(List.range hs.length).countP λk=>!decide (k=n):=by
  congr 1
  funext k
  cases decide (k=n)<;>rfl
 omega
def oth(hs:List (Option (List Nat)))(n:Nat)(i:Nat):Option V:=if ((hs.getD i none).isSome && !decide (i=n))=true then some (V.int ((i:Nat):Int)) else none
def eQ4(hs:Q3)(n m:Nat):(List.range m).filterMap (oth hs n)=((List.range m).filter λk=>(hs.getD k none).isSome && !decide (k=n)).map λk=>V.int ((k:Nat):Int):=by
 induction List.range m with
 |nil=>rfl
 |cons a r ih=>
  by_cases h:((hs.getD a none).isSome && !decide (a=n))=true
  ·rw[Cp (b:=V.int ((a:Nat):Int)) (by unfold oth;rw[if_pos h]),List.filter_cons_of_pos (p:=λk=>(hs.getD k none).isSome && !decide (k=n)) h,As,ih]
  ·rw[Cw (by unfold oth;rw[if_neg h]),List.filter_cons_of_neg (p:=λk=>(hs.getD k none).isSome && !decide (k=n)) h,ih]
def kO:Sp:=λvs H Q _=>∃(a:Addr) (us:List V) (hs:List (Option (List Nat))) (n:Nat),vs=[.ref a,.int ((n:Nat):Int)]/\rdL H a=some us/\HalsAt H us hs/\hs.length<=7/\
 ∀(r:Addr) (H':Hp),H r=none->Same H H'->H' r=some (.lst ((bI hs n).map λk=>V.int ((k:Nat):Int)))->Q (.ref r) H'
def sK:FnScope ["halyards", "number"] ["halyards", "number"] (aM fJ):=by walk_at "sc"
def tL(F:Fun K "others_hung" "others_hung" fJ f fd)(G:Gs K mg w Zs Zz Zt Zx Z0 Zv Zy Zw Zu):FnOk P w K mg base CX0 1 f fd ["halyards", "number"] kO:=by
 refine F.ok sK (λvs H Q E h=>?_) (λcdv A outer s H vs Q E hr h=>?_)
 ·obtain⟨a,us,hs,n,rfl,_⟩:=h;rfl
 obtain⟨a,us,hs,n,rfl,ha,hat,h7,q⟩:=h;refine⟨_,(@aH _ _ _ (aT (dB rfl (jG rfl G.b_enumerate (aA (mv 0) aB)) (jP (N:=["other", "hoist", "number"]) ["halyards", "number"] (aM fJ) [none,none,some 1] rfl rfl rfl (λx h=>cS h) (by decide +kernel)) (by decide +kernel) rfl (by decide +kernel) (λ_ _ _ _=>(dQ (K:=K) (i:=0) (j:=1) (by rfl) (by rfl) (show List.Nodup (["other", "hoist", "number"]:List Str) by decide +kernel) (by rfl) (by exact Or.inl rfl) (by exact Or.inr rfl) (by rfl) (by exact Or.inl rfl) (by exact Or.inr rfl))) (λ_ _ _ _=>(mX (PW.pt (qB (aY pE (mv 1) dS (aW _)) (lM (aY aQL (mv 0) (mv 2) (aW _))))))) (λ_ _ _ _=>(mv 0))))),?_⟩
 have hul:=hat.len
 walk_at "go";refine cXT (xs:=us) (oth hs n) ha (bK (by omega)) (λi x Hc p A B hx sm hp hA hB=>?_) (λD Hd hD sD hd=>?_)
 ·have hi:i<hs.length:=by rw[<-hul];exact(Ad.mp hx).1
  have hv:=hat.val i x (hs.getD i none) hx (by rw[Ac,Aa hi];rfl)
  have tp:mV (upd Hc p (.tup [.int ((0+i:Nat):Int),x])) p=some [.int ((0+i:Nat):Int),x]:=pH
  rw[Nat.zero_add]at tp hA hB ⊢;walk_at "go";refine⟨Wk.set rfl (Wk.set rfl (Wk.refl _)),?_⟩;walk_at "go";cases eh:hs.getD i none with
  |none=>
   rw[eh]at hv;obtain rfl:x=V.non:=hv;rw[show decide (V.non=V.non)=true from rfl];walk_at "go";exact hB (by unfold oth;rw[eh];rfl) _ (Same.refl _)
  |some cs=>
   rw[eh]at hv;obtain⟨pc,rfl,_⟩:=hv;rw[show decide (V.ref pc=V.non)=false from Aw (λz=>nomatch z)]
   walk_at "go";by_cases hn:i=n
   ·rw[Aj (show ((i:Nat):Int)=((n:Nat):Int) by omega)]
    exact hB (by unfold oth;rw[eh,Aj hn];rfl) _ (Same.refl _)
   ·rw[Aw (show ¬((i:Nat):Int)=((n:Nat):Int) by omega)]
    walk_at "go";exact hA _ (by unfold oth;rw[eh,Aw hn];rfl) _ (Same.refl _)
 ·rw[hul,eQ4]at hd;exact q D Hd hD sD hd
def bD(hs:List (Option (List Nat)))(ks:List Nat):List Nat:=ks.flatMap λk=>(hs.getD k none).getD []
def iJ(hs:Q3)(A B:List Nat):bD hs (A++B)=bD hs A++bD hs B:=Et ..
def wU(ok:eX hs)(k:Nat):((hs.getD k none).getD []).length<=7:=by
 cases e:hs[k]? with
 |none=>rw[Ac,e];exact Dc _
 |some h=>
  rw[Ac,e];cases h with
  |none=>exact Dc _
  |some cs=>
   have:=gG (ok cs (An e))
   rw[Ab]at this;exact this.2
def iN(ok:eX hs):∀ks:List Nat,(bD hs ks).length<=7*ks.length
 |[]=>Dc _
 |k::r=>by
  show (((hs.getD k none).getD [])++bD hs r).length<=_
  rw[Af,Ax];have:=wU ok k
  have:=iN ok r
  omega
def gU:Sp:=λvs H Q _=>∃(a b:Addr) (us:List V) (hs:List (Option (List Nat))) (ks:List Nat),vs=[.ref a,.ref b]/\rdL H a=some us/\HalsAt H us hs/\eX hs/\rdL H b=some (ks.map λk=>V.int ((k:Nat):Int))/\ks.length<=7/\(∀k∈ks,k<hs.length)/\
 ∀(r:Addr) (H':Hp),H r=none->Same H H'->H' r=some (.lst (((bD hs ks).map one).map V.str))->Q (.ref r) H'
def sc_flags_on:FnScope ["halyards", "numbers", "flags", "number"] ["halyards", "numbers"] (aM mT):=by walk_at "sc"
def aQW(F:Fun K "flags_on" "flags_on" mT f fd)(G:Gs K mg w Zs Zz Zt Zx Z0 Zv Zy Zw Zu):FnOk P w K mg base CX0 1 f fd ["halyards", "numbers"] gU:=by
 refine F.ok sc_flags_on (λvs H Q E h=>?_) (λcdv A outer s H vs Q E hr h=>?_)
 ·obtain⟨a,b,us,hs,ks,rfl,_⟩:=h;rfl
 obtain⟨a,b,us,hs,ks,rfl,ha,hat,ok,hb,h7,hk,q⟩:=h;refine⟨_,(@aD _ _ _ _ _ (aP 2 sc_flags_on.nd (bR aB)) (@aD _ _ _ _ _ (cI Bh rfl (dD (mv 1)) (bH (i:=3) sc_flags_on.nd rfl (Or.inl rfl)) (@aH _ _ _ (bU (aY pE (bE bS (mv 0) (mv 3) (λ_ _=>rfl)) dS (aW _)) (@aH _ _ _ (cG (dA By Eb Ec aXA (mv 2) (aA (bE bS (mv 0) (mv 3) (λ_ _=>rfl)) aB)))) bC))) (@aH _ _ _ (aT (mv 2))))),?_⟩;walk_at "go";refine⟨by decide,λp hp=>?_⟩
 have sp:=aG hp (.lst [])
 have hb1:=aO sp hb
 walk_at "go";refine gW (xs:=(ks.map λk=>V.int ((k:Nat):Int))) (λi σ H'=>∃v,σ=[some (.ref a),some (.ref b),some (.ref p),v]/\Same H H'/\H' p=some (.lst (((bD hs (ks.take i)).map one).map V.str)))
  ⟨_,rfl,sp,aE⟩ (λi σ H' _ ⟨_,_,e,_⟩=>aO e hb) ?_ ?_
 ·rintro i x σ H2 hx ⟨v,rfl,s2,e2⟩;obtain⟨k,hki,rfl⟩:=rP hx;have hkl:=hk k (An hki)
  obtain⟨u,au,_,hv⟩:=(hat.keep s2).get hkl;have r2:=aO s2 ha
  have ft:bD hs (ks.take (i+1))=bD hs (ks.take i)++(hs.getD k none).getD []:=by
   rw[Bc,hki,iJ];show _++(_++[])=_
   rw[Bd]
  walk_at "go";refine dF r2 au ?_;walk_at "go";cases eh:hs.getD k none with
  |none=>
   rw[eh]at hv ft;rw[show u=.non from hv,show decide (V.non=V.non)=true from rfl];walk_at "go";exact⟨_,rfl,s2,by rw[ft];show _=some (HO.lst (((_++[]).map one).map V.str));rw[Bd];exact e2⟩
  |some cs=>
   have h7c:=wU ok k
   rw[eh]at hv ft h7c;obtain⟨pc,rfl,hpc⟩:=hv;rw[show decide (V.ref pc=V.non)=false from Aw (λz=>nomatch z)]
   have m2:=bW e2
   have rc:=aR hpc
   have l2:=iN ok (ks.take i)
   rw[Bx]at l2;have hln:(((bD hs (ks.take i)).map one).map V.str).length+((cs.map one).map V.str).length<=sizeLine:=bP (by rw[Ab,Ab,Ab,Ab];have:cs.length<=7:=h7c;omega)
   walk_at "go";refine dF r2 au ?_;walk_at "go";refine⟨_,rfl,bM hp s2,?_⟩;rw[aE,ft,Ar,Ar];rfl
 ·rintro σ H2 ⟨v,rfl,s2,e2⟩;rw[Cd (by rw[Ab];exact Ai _)]at e2
  walk_at "go";exact q p H2 hp s2 e2
def aJI{m:Nat}(h:os.length<m):cL os m=[]:=by
 cases e:cL os m with
 |nil=>rfl
 |cons l r=>
  have:=mem_combs.mp (show l∈cL os m by rw[e];exact Al)
  have h2:=this.1.length_le
  omega
def sT:∀os:List Nat,cL os os.length=[os]
 |[]=>iW []
 |k::r=>by
  rw[Ax,iS,Ax,List.range_succ_eq_map,Fp];have h1:((cL ((k::r).drop (0+1)) r.length).map λl=>(k::r).getD 0 0::l)=[k::r]:=by
   show ((cL r r.length).map λl=>k::l)=_
   rw[sT r];rfl
  rw[h1,List.flatMap_map];have h2:((List.range r.length).flatMap λj=>(cL ((k::r).drop (j.succ+1)) r.length).map λl=>(k::r).getD j.succ 0::l)=[]:=by
   rw[List.flatMap_eq_nil_iff];intro j hj;rw[aJI (by rw[Cs,Ax];have:=Bw.mp hj;omega)]
   rfl
  rw[h2];rfl
def dJ(os:List Nat):List (List Nat):=(List.range (os.length+1)).flatMap λm=>cL os m
def qU(os:List Nat)(i:Nat):List (List Nat):=(List.range i).flatMap λm=>cL os m
def nN(os:List Nat)(i:Nat):qU os (i+1)=qU os i++cL os i:=by
 unfold qU;rw[Bs,Et];congr 1
 show cL os i++[]=_
 rw[Bd]
def mem_sets{l:List Nat}:l∈dJ os ↔ l.Sublist os:=by
 unfold dJ;rw[Fz];constructor
 ·rintro⟨m,_,h⟩;exact(mem_combs.mp h).1
 ·intro h;exact⟨l.length,Bw.mpr (Nat.lt_succ_of_le h.length_le),mem_combs.mpr ⟨h,rfl⟩⟩
def pM{os:List Nat}:∀ {i:Nat},os.length<=6->i<=6->(qU os i).length<=i*6^5
 |0,_,_=>Dc _
 |i+1,h,hi=>by
  rw[nN,Af,Nat.succ_mul];have h1:=pM (i:=i) h (by omega)
  have h2:(cL os i).length<=6^5:=Bi (iM h) (Nat.pow_le_pow_right (by decide) (by omega))
  omega
def sA:Sp:=λvs H Q _=>∃(b:Addr) (os:List Nat),vs=[.ref b]/\rdL H b=some (os.map λk=>V.int ((k:Nat):Int))/\os.length<=5/\
 ∀(r:Addr) (ps:List Addr) (H':Hp),H r=none->Same H H'->H' r=some (.lst (ps.map V.ref))->Lsts H H' ps ((dJ os).map λl=>(l.map λk=>V.int ((k:Nat):Int)))->(∀p∈ps,p≠r)->Q (.ref r) H'
def sc_sets_of:FnScope ["others", "sets", "many"] ["others"] (aM qF):=by walk_at "sc"
def aZG(F:Fun K "sets_of" "sets_of" qF f fd)(G:Gs K mg w Zs Zz Zt Zx Z0 Zv Zy Zw Zu)(c_rising_lists:Cal P w K mg base 9 "rising_lists" ["numbers", "many"] (cO 8)):FnOk P w K mg base CX0 10 f fd ["others"] sA:=by
 refine F.ok sc_sets_of (λvs H Q E h=>?_) (λcdv A outer s H vs Q E hr h=>?_)
 ·obtain⟨b,os,rfl,_⟩:=h;rfl
 obtain⟨b,os,rfl,hb,h5,q⟩:=h;refine⟨_,(@aD _ _ _ _ _ (aP 1 sc_sets_of.nd (bR aB)) (@aD _ _ _ _ _ (cI Bh rfl (lQ rfl G.b_range (aA (aQ cB (aU dG rfl G.b_len bY (aA (mv 0) aB)) aI) aB)) (bH (i:=2) sc_sets_of.nd rfl (Or.inl rfl)) (@aH _ _ _ (cG (dA By Eb Ec aXA (mv 1) (aA (aZ c_rising_lists hr (by decide) rfl (aA (mv 0) (aA (mv 2) aB))) aB))))) (@aH _ _ _ (aT (mv 1))))),?_⟩
 have hbl:((os.map λk=>V.int ((k:Nat):Int))).length=os.length:=Ab ..
 walk_at "go";refine⟨by decide,λp hp=>?_⟩
 have s1:=aG hp (.lst [])
 have e1:(upd H p (.lst [])) p=some (.lst (([]:List Addr).map V.ref)):=aE
 generalize upd H p (.lst [])=H1 at s1 e1 ⊢;have hb1:=aO s1 hb
 walk_at "go";rw[hbl];refine⟨⟨by omega,by omega⟩,?_⟩
 refine nW (λi σ H'=>∃(ps:List Addr) (v:Option V),σ=[some (.ref b),some (.ref p),v]/\Same H H'/\H' p=some (.lst (ps.map V.ref))/\Lsts H H' ps ((qU os i).map λl=>(l.map λk=>V.int ((k:Nat):Int)))/\∀z∈ps,z≠p)
  ⟨[],_,rfl,s1,e1,.nil,λz hz=>nomatch hz⟩ ?_ ?_
 ·rintro i σ H2 hi ⟨ps,v,rfl,s2,e2,ls,nd⟩;have hi6:i<=os.length:=by omega
  have hb2:=aO s2 hb
  have hps:ps.length=(qU os i).length:=by rw[ls.1,Ab]
  have hpl:=pM (os:=os) (i:=i) (by omega) (by omega)
  walk_at "go";rw[show (0:Int)+(i:Int)=((i:Nat):Int) by omega]
  refine⟨b,os,i,rfl,hb2,by omega,by omega,by omega,λrb qs H5 hrb s5 e5 lq nq=>?_⟩
  have hqs:qs.length=(cL os i).length:=by rw[lq.1,Ab]
  have hql:(cL os i).length<=6^5:=Bi (iM (by omega)) (Nat.pow_le_pow_right (by decide) (by omega))
  have e25:=s5 _ _ e2
  have m5:=bW e25
  have r5:=aR e5
  have hln:(ps.map V.ref).length+(qs.map V.ref).length<=sizeLine:=bP (by rw[Ab,Ab,hps,hqs];omega)
  walk_at "go";have npq:∀z∈qs,z≠p:=λz hz zp=>by
   obtain⟨g,_,h1,_⟩:=lq.mem hz;rw[zp,e2]at h1;cases h1
  have nd2:∀z∈ps++qs,z≠p:=λz hz=>(Bm.mp hz).elim (nd z) (npq z)
  refine⟨ps++qs,_,rfl,bM hp (s2.trans s5),?_,?_,nd2⟩
  ·rw[aE,Ar]
  ·rw[nN,Ar];exact((ls.keep s5).app (lq.older s2)).put nd2
 ·rintro σ H2 ⟨ps,v,rfl,s2,e2,ls,nd⟩;rw[show ((os.length:Int)+1).toNat=os.length+1 by omega]at ls
  walk_at "go";exact q p ps H2 hp s2 e2 ls nd
def cH(hs:List (Option (List Nat)))(cw ks:List Nat):List (List Nat):=cw::ks.map λk=>rdC ((hs.getD k none).getD [])
def oB(ks:List Nat):((ks.map λk=>V.int ((k:Nat):Int))).length=ks.length:=Ab ..
def hX:Sp:=λvs H Q _=>∃(a b:Addr) (us:List V) (hs:List (Option (List Nat))) (cw ks:List Nat),vs=[.ref a,.str (bA cw),.ref b]/\rdL H a=some us/\HalsAt H us hs/\eX hs/\rdL H b=some (ks.map λk=>V.int ((k:Nat):Int))/\ks.length<=7/\(∀k∈ks,k<hs.length/\(hs.getD k none).isSome=true)/\
 ∀(r:Addr) (H':Hp),H r=none->Same H H'->H' r=some (.lst (((cH hs cw ks).map bA).map V.str))->Q (.ref r) H'
def uO:FnScope ["halyards", "word", "lowered"] ["halyards", "word", "lowered"] (aM gA):=by walk_at "sc"
def uX(F:Fun K "words_with" "words_with" gA f fd)(G:Gs K mg w Zs Zz Zt Zx Z0 Zv Zy Zw Zu)(c_read_of:jY P w K mg base 4 "read_of" ["flags"] (tF Zx)):FnOk P w K mg base CX0 5 f fd ["halyards", "word", "lowered"] hX:=by
 refine F.ok uO (λvs H Q E h=>?_) (λcdv A outer s H vs Q E hr h=>?_)
 ·obtain⟨a,b,us,hs,cw,ks,rfl,_⟩:=h;rfl
 obtain⟨a,b,us,hs,cw,ks,rfl,ha,hat,ok,hb,h7,hk,q⟩:=h;refine⟨_,(@aH _ _ _ (aT (aQ cB (bR (aA (mv 1) aB)) (dB rfl (dD (mv 2)) (jP (N:=["other", "halyards"]) ["halyards", "word", "lowered"] (aM gA) [none,some 0] rfl rfl rfl (λx h=>cS h) (by decide +kernel)) (by decide +kernel) rfl (by decide +kernel) (λ_ _ _ _=>(bH (i:=0) (show List.Nodup (["other", "halyards"]:List Str) by decide +kernel) rfl (Or.inl rfl))) (λ_ _ _ _=>eP) (λ_ _ _ _=>(dE c_read_of bX9 hr (by decide) rfl (aA (bE bS (mv 1) (mv 0) (λ_ _=>rfl)) aB))))))),?_⟩
 walk_at "go";refine⟨by show 1<=sizeLine;decide,λp hp=>?_⟩
 have s1:=aG hp (.lst [V.str (bA cw)])
 have e1:(upd H p (.lst [V.str (bA cw)])) p=some (.lst [V.str (bA cw)]):=aE
 generalize upd H p (.lst [V.str (bA cw)])=H1 at s1 e1 ⊢;have hb1:=aO s1 hb
 have ha1:=aO s1 ha
 walk_at "go";refine oR (xs:=(ks.map λk=>V.int ((k:Nat):Int))) (λj=>(ks[j]?).map λk=>V.str (bA (rdC ((hs.getD k none).getD [])))) hb1 (bK (by rw[oB];omega)) (λj x Hc A B hx sm hA hB=>?_) (λD Hd hD sD hd=>?_)
 ·obtain⟨k,hki,rfl⟩:=rP hx;obtain⟨hkl,hks⟩:=hk k (An hki);obtain⟨u,au,_,hv⟩:=(hat.keep (s1.trans sm)).get hkl;have hA2:=hA (V.str (bA (rdC ((hs.getD k none).getD [])))) (by rw[hki];rfl)
  have r2:=aO sm ha1
  cases eh:hs.getD k none with
  |none=>rw[eh]at hks;cases hks
  |some cs=>
   rw[eh]at hv hA2;obtain⟨pc,rfl,hpc⟩:=hv;have hb:=ok cs (by
    rw[Ac,Aa hkl]at eh;rw[<-show hs[k]=some cs from eh];exact Ca hkl)
   have h7c:=gG hb
   walk_at "go";refine⟨Wk.set rfl (Wk.refl _),?_⟩;walk_at "go";refine dF r2 au ?_;walk_at "go";refine⟨pc,cs.map one,rfl,aR hpc,by omega,bJT cs,λ_ H3 s3=>?_,λhf=>?_⟩
   ·have e:cXJ (cs.map one)=bA (rdC cs):=by unfold cXJ;rw[bXW]
    rw[e];exact hA2 _ s3
   ·rw[hb]at hf;cases hf
 ·rw[oB,jM,show ks.map (λk=>V.str (bA (rdC ((hs.getD k none).getD []))))=((ks.map λk=>rdC ((hs.getD k none).getD [])).map bA).map V.str by rw[Cg,Cg];rfl]at hd
  refine sI (bW (sD _ _ e1)) (bW hd) (bP (by rw[Ab,Ab,Ab];show 1+_<=_;omega)) λr hr=>?_
  exact q r _ (none_of (s1.trans sD) hr) (s1.trans (sD.trans (aG hr _))) aE
def jU(f:Nat->Option Int)(hs:List (Option (List Nat)))(L:List Nat):Nat->Option Int:=bJ λc=>aK f c+cnt (bD hs L) c
def aJ3(f:Nat->Option Int)(hs:List (Option (List Nat)))(L:List Nat)(c:Nat):Int:=aK (bJ (aK (jU f hs L))) c
def cQ9(f:Nat->Option Int)(hs:List (Option (List Nat)))(n:Nat)(cw ks:List Nat):Prop:=CanH (aJ3 f hs (n::ks)) (cH hs cw ks)
def PaperH(H:Hp)(f:Nat->Option Int)(hs:List (Option (List Nat)))(n:Nat)(cw ks:List Nat)(t:Addr):Prop:=∃(c l1 l2:Addr) (rs:List Addr) (W:List Wt) (F:List Nat),H t=some (.tup [.ref c,.ref l1,.ref l2])/\H c=some (.lst (ks.map λk=>V.int ((k:Nat):Int)))/\H l1=some (.lst (rs.map V.ref))/\WtsAt H rs W/\H l2=some (.lst ((F.map one).map V.str))/\LackOk (cH hs cw ks) (aJ3 f hs (n::ks)) W F
def PaperH.keep{f:Nat->Option Int}{n:Nat}{t:Addr}(h:PaperH H f hs n cw ks t)(s:Same H H'):PaperH H' f hs n cw ks t:=by
 obtain⟨c,l1,l2,rs,W,F,h1,h2,h3,h4,h5,h6⟩:=h;exact⟨c,l1,l2,rs,W,F,s _ _ h1,s _ _ h2,s _ _ h3,⟨h4.1,λj p w hp hw=>s _ _ (h4.2 j p w hp hw)⟩,s _ _ h5,h6⟩
def PaperH.put{f:Nat->Option Int}{n:Nat}{t:Addr}{o:HO}(h:PaperH H f hs n cw ks t)(h0:∀c l1 l2,H t=some (.tup [.ref c,.ref l1,.ref l2])->c≠p/\l1≠p/\l2≠p)(hn:∀xs,H p≠some (.tup xs)):PaperH (upd H p o) f hs n cw ks t:=by
 obtain⟨c,l1,l2,rs,W,F,h1,h2,h3,h4,h5,h6⟩:=h;obtain⟨n1,n2,n3⟩:=h0 _ _ _ h1;refine⟨c,l1,l2,rs,W,F,?_,?_,?_,⟨h4.1,λj q w hq hw=>?_⟩,?_,h6⟩
 ·rw[aJ λz=>hn _ (by rw[<-z];exact h1)];exact h1
 ·rw[aJ n1];exact h2
 ·rw[aJ n2];exact h3
 ·have e:=h4.2 j q w hq hw
  rw[aJ λz=>hn _ (by rw[<-z];exact e)];exact e
 ·rw[aJ n3];exact h5
def cXA(f:Nat->Option Int)(hs:List (Option (List Nat)))(n:Nat)(cw ks:List Nat)(j:Nat):Prop:=(dJ (bI hs n))[j]?=some ks/\cQ9 f hs n cw ks/\∀(i:Nat) l,i<j->(dJ (bI hs n))[i]?=some l->¬cQ9 f hs n cw l
def dXK(hb:cT (cs.map one)=true):∀d∈rdC cs,aX d:=by
 have h:∀i,i<=cs.length->∀d∈rdC (cs.take i),aX d:=λi=>by
  induction i with
  |zero=>intro _ d hd;rw[Ez]at hd;cases hd
  |succ i ih=>
   intro hi d hd;have hci:cs[i]?=some cs[i]:=Aa (by omega)
   have hrl:(rdC (cs.take i)).length=i:=oY (by omega)
   rw[nU hci]at hd;obtain⟨c,e1,e2,e3⟩:=nS hb (i:=i) (z:=one cs[i]) (by rw[Ah,hci];rfl)
   have ec:cs[i]=c:=one_inj.mp e1
   rcases Bm.mp hd with e|e
   ·exact ih (by omega) d e
   ·rw[Ak.mp e,ec];unfold stp;rcases e3 with l|⟨sb,lt⟩
    ·rw[if_neg (gQ l)];exact l
    ·rw[if_pos sb,Ac,Aa (by omega)]
     exact ih (by omega) _ (Ca _)
 have r:=h cs.length (Ai _)
 rwa [Br]at r
def cQH{xs:List Addr}{u:Addr}(h:xs[xs.length-1]?=some u):atI (xs.map V.ref) (-1)=some (.ref u):=by
 have hl:0<xs.length:=by have:=(Ad.mp h).1;omega
 unfold atI;rw[show ixN (xs.map V.ref).length (-1)=some (xs.length-1) by
  rw[Ab];unfold ixN;rw[if_neg (by omega),if_pos (by omega)]
  exact Ds some (by omega)]
 show (xs.map V.ref)[xs.length-1]?=_
 rw[Ah,h];rfl
def bZK(os:List Nat):∃A,dJ os=A++[os]:=by
 refine⟨qU os os.length,?_⟩;show qU os (os.length+1)=_
 rw[nN];congr 1
 exact sT os
def PapOk(H:Hp)(f:Nat->Option Int)(hs:List (Option (List Nat)))(n:Nat)(cw:List Nat)(p:Addr)(l:List Nat)(u:Addr):Prop:=PaperH H f hs n cw l u/\∀c l1 l2,H u=some (.tup [.ref c,.ref l1,.ref l2])->c≠p/\l1≠p/\l2≠p
def PapOk.keep{f:Nat->Option Int}{n:Nat}{l:List Nat}{u:Addr}(h:PapOk H f hs n cw p l u)(s:Same H H'):PapOk H' f hs n cw p l u:=by
 refine⟨h.1.keep s,λc l1 l2 e=>?_⟩;obtain⟨c0,k1,k2,_,_,_,h1,_⟩:=h.1;have:=s _ _ h1
 rw[this]at e;cases e;exact h.2 _ _ _ h1
def PapOk.put{f:Nat->Option Int}{n:Nat}{l:List Nat}{u:Addr}{ys:List V}(h:PapOk H f hs n cw p l u)(hp:H p=some (.lst xs)):PapOk (upd H p (.lst ys)) f hs n cw p l u:=by
 have hn:∀zs,H p≠some (.tup zs):=λzs z=>by rw[hp]at z;cases z
 refine⟨h.1.put h.2 hn,λc l1 l2 e=>?_⟩;obtain⟨c0,k1,k2,_,_,_,h1,_⟩:=h.1;rw[aJ λz=>hn _ (by rw[<-z];exact h1)]at e
 exact h.2 _ _ _ e
def pJ(ok:eX hs)(hc:cw.length<=7/\∀d∈cw,aX d)(hk:∀k∈ks,k<hs.length/\(hs.getD k none).isSome=true):∀c∈cH hs cw ks,c.length<=7/\∀d∈c,aX d:=λc hcm=>by
 rcases Az.mp hcm with e|e
 ·rw[e];exact hc
 ·obtain⟨k,hkm,rfl⟩:=Bg.mp e;obtain⟨hkl,hks⟩:=hk k hkm;cases eh:hs.getD k none with
  |none=>rw[eh]at hks;cases hks
  |some cs=>
   have hb:=ok cs (by
    rw[Ac,Aa hkl]at eh;rw[<-show hs[k]=some cs from eh];exact Ca hkl)
   have h7c:=gG hb
   rw[Ab]at h7c;refine⟨by show (rdC cs).length<=7;rw[yO];exact h7c.2,?_⟩
   exact dXK hb
def oK(aC:Addr):Sp:=λvs H Q E=>∃(a b:Addr) (kvs:List (Key×V)) (f:Nat->Option Int) (us:List V) (hs:List (Option (List Nat))) (n:Nat) (cw:List Nat),vs=[.ref a,.ref b,.int ((n:Nat):Int),.str (bA cw)]/\H a=some (.dK kvs)/\Lk kvs f/\(∀c,0<=aK f c)/\rdL H b=some us/\HalsAt H us hs/\eX hs/\hs.length<=6/\n<hs.length/\cw.length<=7/\(∀d∈cw,aX d)/\
 (∀(t L p:Addr) (ts:List Addr) (ks:List Nat) (j:Nat) (H':Hp),Same H H'->H t=none->H' t=some (.tup [.ref L,.ref p])->H L=none->H' L=some (.lst (ks.map λk=>V.int ((k:Nat):Int)))->cXA f hs n cw ks j->H p=none->H' p=some (.lst (ts.map V.ref))->ts.length=j->(∀(i:Nat) u l,ts[i]?=some u->(dJ (bI hs n))[i]?=some l->PaperH H' f hs n cw l u)->Q (.ref t) H')/\
 ((∀l,l.Sublist (bI hs n)->¬cQ9 f hs n cw l)->∀(dx l1 l2:Addr) (rs:List Addr) (W:List Wt) (F:List Nat) (H':Hp),Same H H'->H' dx=some (xdO dx [("flags",.ref l2),("wants",.ref l1)])->H' l1=some (.lst (rs.map V.ref))->WtsAt H' rs W->H' l2=some (.lst ((F.map one).map V.str))->LackOk (cH hs cw (bI hs n)) (aJ3 f hs (n::bI hs n)) W F->H l1=none->H l2=none->E (.ref aC) (some dx) H')
def sc_least_set:FnScope ["locker", "halyards", "number", "word", "papers", "lowered", "more", "lack"] ["locker", "halyards", "number", "word"] (aM jZ):=by walk_at "sc"
def yM(F:Fun K "least_set" "least_set" jZ f fd)(G:Gs K mg w Zs Zz Zt Zx Z0 Zv Zy Zw Zu)(c_sets_of:Cal P w K mg base 10 "sets_of" ["others"] sA)(c_Lack_init:aZR P w K mg base 1 Zs ["self", "wants", "flags"] (iZ Zs))(c_others_hung:Cal P w K mg base 1 "others_hung" ["halyards", "number"] kO)(c_put_in:Cal P w K mg base 2 "put_in" ["locker", "flags"] lH)(c_lack_of:Cal P w K mg base 4 "lack_of" ["locker", "words"] rX)(c_flags_on:Cal P w K mg base 1 "flags_on" ["halyards", "numbers"] gU)(c_words_with:Cal P w K mg base 5 "words_with" ["halyards", "word", "lowered"] hX):FnOk P w K mg base (CXr P w) 11 f fd ["locker", "halyards", "number", "word"] (oK Zs):=by
 refine F.okX sc_least_set (λvs H Q E h=>?_) (λcdv A outer s H vs Q E hr h=>?_)
 ·obtain⟨a,b,kvs,f,us,hs,n,cw,rfl,_⟩:=h;rfl
 obtain⟨a,b,kvs,f,us,hs,n,cw,rfl,ha,lk,hf0,hb,hat,ok,h6,hn,hc7,hcL,q,qe⟩:=h;refine⟨_,(@aD _ _ _ _ _ (aP 4 sc_least_set.nd (bR aB)) (@aD _ _ _ _ _ (PS.nox (cI Bh rfl (dD (aZ c_sets_of hr (by decide) rfl (aA (aZ c_others_hung hr (by decide) rfl (aA (mv 1) (aA (mv 2) aB))) aB))) (bH (i:=5) sc_least_set.nd rfl (Or.inl rfl)) (@aD _ _ _ _ _ (aP 6 sc_least_set.nd (aZ c_put_in hr (by decide) rfl (aA (mv 0) (aA (aZ c_flags_on hr (by decide) rfl (aA (mv 1) (aA (aQ cB (bR (aA (mv 2) aB)) (mv 5)) aB))) aB)))) (@aD _ _ _ _ _ (aP 7 sc_least_set.nd (aZ c_lack_of hr (by decide) rfl (aA (mv 6) (aA (aZ c_words_with hr (by decide) rfl (aA (mv 1) (aA (mv 3) (aA (mv 5) aB)))) aB)))) (@aD _ _ _ _ _ (bU (aY aQ9 (mv 7) dS (aW _)) (@aH _ _ _ (aT (eG (aA (mv 5) (aA (mv 4) aB))))) bC) (@aH _ _ _ (cG (dA By Ed Ee aXH (mv 4) (aA (eG (aA (mv 5) (aA (bE bS (mv 7) aI (λ_ _=>rfl)) (aA (bE bS (mv 7) aI (λ_ _=>rfl)) aB)))) aB))))))))) (@aH _ _ _ (lS fY rfl rfl rfl G.c_Lack G.xm_Lack c_Lack_init hr (by decide) (aA (bE bS (bE bS (mv 4) (bJO cZX aI) (λ_ _=>rfl)) aI (λ_ _=>rfl)) (aA (bE bS (bE bS (mv 4) (bJO cZX aI) (λ_ _=>rfl)) aI (λ_ _=>rfl)) aB)))))),?_⟩
 have hol:=sM hn
 walk_at "go";refine⟨by decide,λp hp=>?_⟩
 have s1:=aG hp (.lst [])
 have e1:(upd H p (.lst [])) p=some (.lst (([]:List Addr).map V.ref)):=aE
 generalize upd H p (.lst [])=H1 at s1 e1 ⊢;walk_at "go";refine⟨b,us,hs,n,rfl,aO s1 hb,hat.keep s1,by omega,λro H2 hro s2 eo=>?_⟩
 walk_at "go";refine⟨ro,bI hs n,rfl,aR eo,by omega,λrS ps H3 hrS s3 eS ls nd=>?_⟩
 have s13:=s2.trans s3
 walk_at "go";have hps:ps.length=(dJ (bI hs n)).length:=by rw[ls.1,Ab]
 have hpl:(ps.map V.ref).length=(dJ (bI hs n)).length:=by rw[Ab,hps]
 have hsl:(dJ (bI hs n)).length<=6*6^5:=Bi (pM (i:=(bI hs n).length+1) (by omega) (by omega)) (Nat.mul_le_mul_right _ (by omega))
 have e13:=s13 _ _ e1
 have s03:=s1.trans s13
 have lat:∀(j:Nat) c l,ps[j]?=some c->(dJ (bI hs n))[j]?=some l->H3 c=some (.lst (l.map λk=>V.int ((k:Nat):Int)))/\c≠p/\H c=none:=λj c l hc hl=>by
  obtain⟨h1,h2⟩:=ls.2 j c (l.map λk=>V.int ((k:Nat):Int)) hc (by rw[Ah,hl];rfl)
  exact⟨h2,(λz=>by rw[z,s2 _ _ e1]at h1;cases h1),none_of (s1.trans s2) h1⟩
 have npS:rS≠p:=λz=>by rw[z,s2 _ _ e1]at hrS;cases hrS
 have hsub:∀(j:Nat) l,(dJ (bI hs n))[j]?=some l->l.Sublist (bI hs n):=λj l h=>mem_sets.mp (An h)
 refine gW (xs:=ps.map V.ref) (λi σ H'=>∃ (ts:List Addr) (v5 v6 v7:Option V),σ=[some (.ref a),some (.ref b),some (.int ((n:Nat):Int)),some (.str (bA cw)),some (.ref p),v5,v6,v7]/\Same H H'/\(∀ z u,z≠p->H3 z=some u->H' z=some u)/\H' p=some (.lst (ts.map V.ref))/\ts.length=i/\
     (∀(j:Nat) u l,ts[j]?=some u->(dJ (bI hs n))[j]?=some l->PapOk H' f hs n cw p l u)/\∀(j:Nat) l,j<i->(dJ (bI hs n))[j]?=some l->¬cQ9 f hs n cw l)
  ⟨[],_,_,_,rfl,s03,λz u _ h=>h,e13,rfl,λj u l hu=>(nomatch hu),λj l hj=>absurd hj (Ge _)⟩ (λi σ H' _ ⟨_,_,_,_,_,_,fr,_⟩=>aR (fr _ _ npS eS)) ?_ ?_
 ·rintro i x σ H4 hx ⟨ts,v5,v6,v7,rfl,s4,fr4,e4,htl,hpap,hno⟩;have hi:i<(dJ (bI hs n)).length:=by rw[<-hpl];exact(Ad.mp hx).1
  obtain⟨l,hl⟩:∃l,(dJ (bI hs n))[i]?=some l:=⟨_,Aa hi⟩;obtain⟨c,hc,rfl⟩:=aZ0 hx;obtain⟨lc3,ncp,hcn⟩:=lat i c l hc hl;have lc:=fr4 _ _ ncp lc3
  have hlk:∀k∈l,k<hs.length/\(hs.getD k none).isSome=true:=λk hk=>by
   have:=eZ ((hsub i l hl).subset hk)
   exact⟨this.1,this.2.1⟩
  have hll:l.length<=5:=by have:=(hsub i l hl).length_le;omega
  have hb4:=aO s4 hb
  have hat4:=hat.keep s4
  walk_at "go";refine⟨by show 1<=sizeLine;decide,λp5 hp5=>?_⟩
  have s5:=aG hp5 (.lst [V.int ((n:Nat):Int)])
  have e5:(upd H4 p5 (.lst [V.int ((n:Nat):Int)])) p5=some (.lst [V.int ((n:Nat):Int)]):=aE
  generalize upd H4 p5 (.lst [V.int ((n:Nat):Int)])=H5 at s5 e5 ⊢;walk_at "go";refine sI (bW e5) (bW (s5 _ _ lc)) (bP (by rw[oB];show 1+_<=_;omega)) λp6 hp6=>?_
  have s6:=aG hp6 (.lst ((n::l).map λk=>V.int ((k:Nat):Int)))
  have e6:rdL (upd H5 p6 (.lst ((n::l).map λk=>V.int ((k:Nat):Int)))) p6=some ((n::l).map λk=>V.int ((k:Nat):Int)):=bO
  change xR _ (upd H5 p6 (.lst ((n::l).map λk=>V.int ((k:Nat):Int)))) _
  generalize upd H5 p6 (.lst ((n::l).map λk=>V.int ((k:Nat):Int)))=H6 at s6 e6 ⊢;have s46:=s5.trans s6
  walk_at "go";refine⟨b,p6,us,hs,n::l,rfl,aO s46 hb4,hat4.keep s46,ok,e6,by show l.length+1<=7;omega,λk hk=>by rcases Az.mp hk with e|e;(· rw[e];exact hn);(· exact(hlk k e).1),λr7 H7 hr7 s7 e7=>?_⟩
  have s47:=s46.trans s7
  have fl7:=iN ok (n::l)
  walk_at "go";refine⟨a,r7,kvs,f,bD hs (n::l),rfl,s47 _ _ (s4 _ _ ha),lk,hf0,aR e7,by rw[Ax]at fl7;omega,λr8 kws H8 hr8 s8 e8 lk8=>?_⟩
  have s48:=s47.trans s8
  walk_at "go";refine⟨b,c,us,hs,cw,l,rfl,aO s48 hb4,hat4.keep s48,ok,aR (s48 _ _ lc),by omega,hlk,λr9 H9 hr9 s9 e9=>?_⟩
  have s49:=s48.trans s9
  walk_at "go";refine⟨r8,r9,kws,jU f hs (n::l),cH hs cw l,rfl,.inl (s9 _ _ e8),lk8,aR e9,by unfold cH;rw[Ax,Ab];omega,pJ ok ⟨hc7,hcL⟩ hlk,λhcan H10 s10=>?_,λt0 l1 l2 rs W F H10 s10 ht0 e10 el1 hwt el2 hlo hn1 hn2=>?_⟩
  ·have s410:=s49.trans s10
   walk_at "go";rw[show decide (V.non=V.non)=true from rfl];walk_at "go";refine⟨by show 2<=sizeLine;decide,λt ht=>?_⟩
   have s11:=s410.trans (aG ht (.tup [.ref c,.ref p]))
   exact q t c p ts l i _ (s4.trans s11) (none_of (s4.trans s410) ht) aE hcn (s11 _ _ lc) ⟨hl,hcan,hno⟩ hp (s11 _ _ e4) htl λj u l' hu hl'=>((hpap j u l' hu hl').1.keep s11)
  ·have s410:=s49.trans s10
   have n1:l1≠p:=λz=>by rw[z,s49 _ _ e4]at hn1;cases hn1
   have n2:l2≠p:=λz=>by rw[z,s49 _ _ e4]at hn2;cases hn2
   have m10:=bW (s410 _ _ e4)
   have r10:=aR (s410 _ _ e4)
   have hln:(ts.map V.ref).length<sizeLine:=bK (by rw[Ab,htl];omega)
   walk_at "go";rw[show decide (V.ref t0=V.non)=false from Aw (λz=>nomatch z)]
   walk_at "go";refine bX e10 (v:=.ref l1) rfl ?_;walk_at "go";refine bX e10 (v:=.ref l2) rfl ?_;walk_at "go";refine⟨by show 3<=sizeLine;decide,λtp htp=>?_⟩
   have s11:=aG htp (.tup [.ref c,.ref l1,.ref l2])
   have e11:(upd H10 tp (.tup [.ref c,.ref l1,.ref l2])) tp=some (.tup [.ref c,.ref l1,.ref l2]):=aE
   generalize upd H10 tp (.tup [.ref c,.ref l1,.ref l2])=H11 at s11 e11 ⊢;have s411:=s410.trans s11
   have ep:=s411 _ _ e4
   have m11:=bW ep
   walk_at "go";have pnew:PapOk H11 f hs n cw p l tp:=⟨⟨c,l1,l2,rs,W,F,e11,s411 _ _ lc,s11 _ _ el1,⟨hwt.1,λj q w hq hw=>s11 _ _ (hwt.2 j q w hq hw)⟩,s11 _ _ el2,hlo⟩,λc' k1 k2 e=>by rw[e11]at e;cases e;exact⟨ncp,n1,n2⟩⟩
   refine⟨ts++[tp],_,_,_,rfl,bM hp (s4.trans s411),λz u hz h=>by rw[aJ hz];exact s411 _ _ (fr4 z u hz h),by rw[aE,Ar];rfl,by rw[Af,htl];rfl,λj u l' hu hl'=>?_,λj l' hj hl'=>?_⟩
   ·by_cases hjl:j<ts.length
    ·rw[Aq hjl]at hu;exact((hpap j u l' hu hl').keep s411).put ep
    ·have ej:j=ts.length:=by
      have:=(Ad.mp hu).1
      rw[Af]at this;have:j<ts.length+1:=this
      omega
     rw[ej,Au (Ai _),Fg]at hu;cases hu;rw[ej,htl,hl]at hl';cases hl';exact pnew.put ep
   ·by_cases ej:j=i
    ·rw[ej,hl]at hl';cases hl';exact zW hlo
    ·exact hno j l' (by omega) hl'
 ·rintro σ H4 ⟨ts,v5,v6,v7,rfl,s4,fr4,e4,htl,hpap,hno⟩;rw[hpl]at htl hno;obtain⟨A0,hA0⟩:=bZK (bI hs n);have hlen:(dJ (bI hs n)).length=A0.length+1:=by rw[hA0,Af];rfl
  have hlast:(dJ (bI hs n))[ts.length-1]?=some (bI hs n):=by
   rw[htl,hlen,hA0,Nat.add_sub_cancel,Au (Ai _),Fg];rfl
  have hu:ts[ts.length-1]?=some (ts[ts.length-1]'(by omega)):=Aa (by omega)
  have hpp:=hpap _ _ _ hu hlast
  have au:=cQH hu
  generalize ts[ts.length-1]'(by omega)=u at hpp au
  obtain⟨⟨c,l1,l2,rs,W,F,h1,h2,h3,h4,h5,h6⟩,_⟩:=hpp;have r4:=aR e4
  walk_at "go";refine dF r4 au ?_;walk_at "go";refine bX h1 (v:=.ref l1) rfl ?_;walk_at "go";refine dF r4 au ?_;walk_at "go";refine bX h1 (v:=.ref l2) rfl ?_;walk_at "go";refine⟨by show 2<=sizeLine;decide,λea hea=>⟨ea,l1,l2,_,_,rfl,aE,aO (aG hea _) (aR h3),aO (aG hea _) (aR h5),λdx k1 k2 H' frx hdx nde g1 g2 g3 g4 hk1 hk2=>⟨rfl,some dx,g1,?_⟩⟩⟩
  have n1:k1≠ea:=λz=>by rw[z,g1]at g3;cases g3
  have n2:k2≠ea:=λz=>by rw[z,g1]at g4;cases g4
  have go9:∀b u,H4 b=some u->(del H' ea) b=some u:=λb u hu=>by
   have nb:b≠ea:=λz=>by rw[z,hea]at hu;cases hu
   rw[dU nb];exact frx b u nb (by rw[aJ nb];exact hu)
  refine qe (λl hl=>?_) dx k1 k2 rs W F (del H' ea) (λb u hu=>go9 _ _ (s4 _ _ hu)) ((dU nde).trans g2) ((dU n1).trans g3) ⟨h4.1,λj q w hq hw=>go9 _ _ (h4.2 j q w hq hw)⟩ ((dU n2).trans g4) h6 (none_of s4 (by rw[aJ n1]at hk1;exact hk1)) (none_of s4 (by rw[aJ n2]at hk2;exact hk2))
  obtain⟨j,hj,ej⟩:=Ce.mp (mem_sets.mpr hl);exact hno j l hj (by rw[Aa hj,ej])
def aXK:∀ {cws:Q5} {fs:List Nat} {i:Nat} {cw:List Nat},cws[i]?=some cw->(qC cws fs)[i]?=some ((fs.drop (fQ cws i)).take cw.length)
 |[],_,i,_,h=>by cases h
 |c::r,fs,0,cw,h=>by cases h;rfl
 |c::r,fs,i+1,cw,h=>by
  show (qC r (fs.drop c.length))[i]?=_
  rw[aXK (show r[i]?=some cw from h),List.drop_drop];rfl
def dXC(cs:List Nat)(c:Nat):cnt cs c=(ctn cs c:Int):=by
 unfold cnt ctn;refine Ds (λn:Nat=>(n:Int)) (List.countP_congr λx _=>?_);simp
def kB{p:List α->Prop}(h0:p [])(h1:∀l a,p l->p (l++[a])):∀l,p l:=λl=>by
 have h:∀r:List α,p r.reverse:=λr=>by
  induction r with
  |nil=>exact h0
  |cons a r ih=>rw[List.reverse_cons];exact h1 _ _ ih
 have:=h l.reverse
 rwa [List.reverse_reverse]at this
def iH(hs:List (Option (List Nat)))(zs:List (Nat×List Nat)):List (Option (List Nat)):=zs.foldl (λh z=>h.set z.1 (some z.2)) hs
def gE(hs:Q3)(zs:List (Nat×List Nat))(z:Nat×List Nat):iH hs (zs++[z])=(iH hs zs).set z.1 (some z.2):=by
 unfold iH;rw[List.foldl_append];rfl
def fO(hs:Q3):∀zs:List (Nat×List Nat),(iH hs zs).length=hs.length:=λzs=>by
 refine kB (p:=λzs=>(iH hs zs).length=hs.length) rfl (λzs z ih=>?_) zs;rw[gE,Cv,ih]
def uM(hs:Q3):∀zs:List (Nat×List Nat),(∀z∈zs,z.1≠k)->(iH hs zs).getD k none=hs.getD k none:=λzs=>by
 refine kB (p:=λzs=>(∀z∈zs,z.1≠k)->(iH hs zs).getD k none=hs.getD k none) (λ_=>rfl) (λzs z ih=>?_) zs
 ·intro h;rw[gE,Ac,Da (h z (Be _ Al)),<-Ac];exact ih λy hy=>h y (Cb _ hy)
def bQK(hs:Q3):∀(zs:List (Nat×List Nat)),(zs.map (·.1)).Nodup->(∀z∈zs,z.1<hs.length)->∀z∈zs,(iH hs zs).getD z.1 none=some z.2:=λzs=>by
 refine kB (p:=λzs=>(zs.map (·.1)).Nodup->(∀z∈zs,z.1<hs.length)->∀z∈zs,(iH hs zs).getD z.1 none=some z.2) (λ_ _ z hz=>nomatch hz) (λzs y ih=>?_) zs
 ·intro nd hl z hz;rw[Ar,As,Gk]at nd;rw[gE];rcases Bm.mp hz with e|e
  ·have ne:y.1≠z.1:=λq=>(Cy.mp nd).2.2 z.1 (List.mem_map_of_mem e) y.1 Al q.symm
   rw[Ac,Da ne,<-Ac];exact ih (Cy.mp nd).1 (λw hw=>hl w (Cb _ hw)) z e
  ·rw[Ak.mp e,Ac,Dh (by rw[fO];exact hl y (Be _ Al))]
   rfl
def bQG(ok:eX hs):∀zs:List (Nat×List Nat),(∀z∈zs,cT (z.2.map one)=true)->eX (iH hs zs):=λzs=>by
 refine kB (p:=λzs=>(∀z∈zs,cT (z.2.map one)=true)->eX (iH hs zs)) (λ_=>ok) (λzs z ih=>?_) zs;intro h cs hcs;rw[gE]at hcs;rcases Ga hcs with e|e
 ·exact ih (λy hy=>h y (Cb _ hy)) cs e
 ·cases e;exact h z (Be _ Al)
def aQG:∀ {L:List Nat} {gs:Q5},L.length=gs.length->(∀z∈L.zip gs,hs.getD z.1 none=some z.2)->bD hs L=gs.flatten
 |[],[],_,_=>rfl
 |k::L,g::gs,hl,h=>by
  show ((hs.getD k none).getD [])++bD hs L=g++gs.flatten
  rw[show hs.getD k none=some g from h (k,g) List.mem_cons_self,aQG (by simpa using hl) λz hz=>h z (List.mem_cons_of_mem _ hz)]
  rfl
 |[],_::_,hl,_=>by cases hl
 |_::_,[],hl,_=>by cases hl
def HalsAt.set{vs:List V}(a:HalsAt H vs hs)(b:HalV H v h):HalsAt H (vs.set k v) (hs.set k h):=by
 refine⟨by rw[Cv,Cv,a.len],λj u g hu hg=>?_⟩
 by_cases e:k=j
 ·subst e;have h1:=(Ad.mp hu).1
  have h2:=(Ad.mp hg).1
  rw[Cv]at h1 h2;rw[Dh h1]at hu;rw[Dh h2]at hg;cases hu;cases hg;exact b
 ·rw[Da e]at hu hg;exact a.val j u g hu hg
def xX{D:Addr}(h:rdL H p=some xs)(n:p≠D)(fr:∀z u,z≠D->H z=some u->H' z=some u):rdL H' p=some xs:=by
 refine aO (H:=λz=>if z=p then H z else none) (λz u e=>?_) ?_
 ·dsimp only at e;by_cases zp:z=p
  ·rw[if_pos zp]at e;rw[zp]at e ⊢;exact fr p u n e
  ·rw[if_neg zp]at e;cases e
 ·unfold rdL at h ⊢;dsimp only;rw[if_pos rfl];exact h
def cX9{L:List α}{M:List β}{a:α}{b:β}(h1:L[i]?=some a)(h2:M[i]?=some b):(L.zip M).take (i+1)=(L.zip M).take i++[(a,b)]:=by
 rw[Bc];congr 1
 have:(L.zip M)[i]?=some (a,b):=by rw[List.getElem?_zip_eq_some];exact⟨h1,h2⟩
 rw[this];rfl
def dZK{c:Nat}(hL:∀d∈cw,aX d)(hk:k<cw.length)(h:c∈chs cw k):cY c:=by
 rcases ch_iff.mp h with e|⟨m,_,h4,_,e⟩
 ·left
  rw[e,Ac,Aa hk];exact hL _ (Ca hk)
 ·right
  rw[e];unfold eO;omega
def cXN:∀ {cws gs:Q5},Hgs cws gs->(∀c∈cws,1<=c.length/\c.length<=7/\∀d∈c,aX d)->(∀g∈gs,cT (g.map one)=true/\∀c∈g,cY c)
 |_,_,.nil,_,g,hg=>nomatch hg
 |_,_,.cons (cw:=cw) (h:=h) a b,hW,g,hg=>by
  rcases Az.mp hg with e|e
  ·rw[e];obtain⟨h1,h7,hL⟩:=hW cw Al;refine⟨bJN hL (by rw[a.1];exact h1) (by rw[a.1];exact h7) (by rw[a.1];exact Ai _) λk hk=>?_,λc hc=>?_⟩
   ·exact a.2 k _ (by rw[Ac,Aa hk];rfl)
   ·obtain⟨k,hk,ek⟩:=Ce.mp hc;exact dZK hL (by rw[<-a.1];exact hk) (a.2 k c (by rw[Aa hk,ek]))
  ·exact cXN b (λc hc=>hW c (Am _ hc)) g e
def Hgs.lens:∀ {cws gs:Q5},Hgs cws gs->gs.length=cws.length
 |_,_,.nil=>rfl
 |_,_,.cons _ b=>by rw[Ax,Ax,b.lens]
def qO(f:Nat->Option Int)(hs:Q3)(L:List Nat)(c:Nat):0<=aK (jU f hs L) c:=by
 show 0<=(bJ _ c).getD 0
 unfold bJ;split
 ·rename_i h;exact Int.le_of_lt h.2
 ·exact Hb _
def bXS(hs:Q3)(n:Nat):(bI hs n).Nodup:=List.Nodup.sublist Eu List.nodup_range
def qE{n:Nat}(h:ks.Sublist (bI hs n)):(n::ks).Nodup:=Cc.mpr ⟨λz=>(eZ (h.subset z)).2.2 rfl,(bXS hs n).sublist h⟩
def sF(ok:eX hs)(h1:1<=cw.length)(hc:cw.length<=7/\∀d∈cw,aX d)(hk:∀k∈ks,k<hs.length/\(hs.getD k none).isSome=true):∀c∈cH hs cw ks,1<=c.length/\c.length<=7/\∀d∈c,aX d:=λc hcm=>by
 refine⟨?_,pJ ok hc hk c hcm⟩;rcases Az.mp hcm with e|e
 ·rw[e];exact h1
 ·obtain⟨k,hkm,rfl⟩:=Bg.mp e;obtain⟨hkl,hks⟩:=hk k hkm;cases eh:hs.getD k none with
  |none=>rw[eh]at hks;cases hks
  |some cs=>
   have hb:=ok cs (by
    rw[Ac,Aa hkl]at eh;rw[<-show hs[k]=some cs from eh];exact Ca hkl)
   have h7c:=gG hb
   rw[Ab]at h7c;show 1<=(rdC cs).length
   rw[yO];exact h7c.1
def eXK(H:Hp)(a b:Addr)(kvs:List (Key×V))(f:Nat->Option Int)(us:List V)(hs:List (Option (List Nat)))(n:Nat)(cw:List Nat):Prop:=H a=some (.dK kvs)/\Lk kvs f/\(∀c,0<=aK f c)/\rdL H b=some us/\HalsAt H us hs/\eX hs/\hs.length<=6/\n<hs.length/\1<=cw.length/\cw.length<=7/\(∀d∈cw,aX d)
def vS(aC:Addr):Sp:=λvs H Q E=>∃(a b:Addr) (kvs:List (Key×V)) (f:Nat->Option Int) (us:List V) (hs:List (Option (List Nat))) (n:Nat) (cw:List Nat),vs=[.ref a,.ref b,.int ((n:Nat):Int),.str (bA cw)]/\eXK H a b kvs f us hs n cw/\
 (∀(t L B R:Addr) (ks:List Nat) (gs:Q5) (j:Nat) (vs':List V) (kws:List (Key×V)) (H':Hp),Same H H'->H t=none->H' t=some (.tup [.ref L,.ref B,.ref R])->H L=none->H' L=some (.lst (ks.map λk=>V.int ((k:Nat):Int)))->cXA f hs n cw ks j->Hgs (cH hs cw ks) gs->(∀c,cnt gs.flatten c<=aK (jU f hs (n::ks)) c)->H B=none->H' B=some (.lst vs')->HalsAt H' vs' (iH hs ((n::ks).zip gs))->H R=none->H' R=some (.dK kws)->Lk kws (bJ λc=>aK (jU f hs (n::ks)) c-cnt gs.flatten c)->Q (.ref t) H')/\
 ((∀l,l.Sublist (bI hs n)->¬cQ9 f hs n cw l)->∀(dx l1 l2:Addr) (rs:List Addr) (W:List Wt) (F:List Nat) (H':Hp),Same H H'->H' dx=some (xdO dx [("flags",.ref l2),("wants",.ref l1)])->H' l1=some (.lst (rs.map V.ref))->WtsAt H' rs W->H' l2=some (.lst ((F.map one).map V.str))->LackOk (cH hs cw (bI hs n)) (aJ3 f hs (n::bI hs n)) W F->H l1=none->H l2=none->E (.ref aC) (some dx) H')
def sc_hauled:FnScope ["locker", "halyards", "number", "word", "lowered", "rehung", "more", "behind", "at", "hoist"] ["locker", "halyards", "number", "word"] (aM tP):=by walk_at "sc"
def bZP(F:Fun K "hauled" "hauled" tP f fd)(G:Gs K mg w Zs Zz Zt Zx Z0 Zv Zy Zw Zu)(c_put_in:Cal P w K mg base 2 "put_in" ["locker", "flags"] lH)(c_least_set:jY P w K mg base 11 "least_set" ["locker", "halyards", "number", "word"] (oK Zs))(c_flags_on:Cal P w K mg base 1 "flags_on" ["halyards", "numbers"] gU)(c_hang_all:jY P w K mg base 3 "hang_all" ["locker", "words"] (kX Zs))(c_taken:jY P w K mg base 3 "taken" ["locker", "flags"] (uI Zt))(c_words_with:Cal P w K mg base 5 "words_with" ["halyards", "word", "lowered"] hX):FnOk P w K mg base (CXr P w) 12 f fd ["locker", "halyards", "number", "word"] (vS Zs):=by
 refine F.okX sc_hauled (λvs H Q E h=>?_) (λcdv A outer s H vs Q E hr h=>?_)
 ·obtain⟨a,b,kvs,f,us,hs,n,cw,rfl,_⟩:=h;rfl
 obtain⟨a,b,kvs,f,us,hs,n,cw,rfl,⟨ha,lk,hf0,hb,hat,ok,h6,hn,hc1,hc7,hcL⟩,q,qe⟩:=h;refine⟨_,(@aD _ _ _ _ _ (aP 4 sc_hauled.nd (bE bS (dE c_least_set cE hr (by decide) rfl (aA (mv 0) (aA (mv 1) (aA (mv 2) (aA (mv 3) aB))))) aI (λ_ _=>rfl))) (@aD _ _ _ _ _ (aP 5 sc_hauled.nd (aQ cB (bR (aA (mv 2) aB)) (mv 4))) (@aD _ _ _ _ _ (aP 6 sc_hauled.nd (aZ c_put_in hr (by decide) rfl (aA (mv 0) (aA (aZ c_flags_on hr (by decide) rfl (aA (mv 1) (aA (mv 5) aB))) aB)))) (@aD _ _ _ _ _ (lL (i:=7) sc_hauled.nd rfl (Or.inl rfl) rfl (dD (mv 1)) (oJ (N:=["hoist"]) (by decide +kernel) (by decide +kernel)) (by decide +kernel) rfl (by decide +kernel) (λ_ _ _ _=>(bH (i:=0) (show List.Nodup (["hoist"]:List Str) by decide +kernel) rfl (Or.inl rfl))) (λ_ _ _ _=>eP) (λ_ _ _ _=>(zU (aY aQ9 (mv 0) dS (aW _)) dS (bN lG rfl G.b_list eU (aA (mv 0) aB))))) (@aD _ _ _ _ _ (cI PassesOwn.leaving rfl (bJ7 rfl G.b_zip (aA (mv 5) (aA (dE c_hang_all cE hr (by decide) rfl (aA (mv 6) (aA (aZ c_words_with hr (by decide) rfl (aA (mv 1) (aA (mv 3) (aA (mv 4) aB)))) aB))) aB))) (dQ (K:=K) (i:=8) (j:=9) (by rfl) (by rfl) sc_hauled.nd (by rfl) (by exact(Or.inl rfl)) (by exact Or.inl rfl) (by rfl) (by exact(Or.inl rfl)) (by exact Or.inl rfl)) (@aH _ _ _ (aJJ (mv 9) (cXQ (mv 7) (mv 8) aQQ)))) (@aH _ _ _ (aT (eG (aA (mv 4) (aA (mv 7) (aA (dE c_taken cE hr (by decide) rfl (aA (mv 6) (aA (aZ c_flags_on hr (by decide) rfl (aA (mv 7) (aA (mv 5) aB))) aB))) aB))))))))))),?_⟩
 have hol:=sM hn
 walk_at "go";refine⟨a,b,kvs,f,us,hs,n,cw,rfl,ha,lk,hf0,hb,hat,ok,h6,hn,hc7,hcL,λt0 L p0 ts ks j H1 s1 ht0 et hL eL hfst _ _ _ _=>?_,qe⟩;have hks:=mem_sets.mp (An hfst.1)
 have hlk:∀k∈ks,k<hs.length/\(hs.getD k none).isSome=true:=λk hk=>by
  have:=eZ (hks.subset hk)
  exact⟨this.1,this.2.1⟩
 have hkl:ks.length<=5:=by have:=hks.length_le;omega
 have hb1:=aO s1 hb
 have hat1:=hat.keep s1
 refine bX et (v:=.ref L) rfl ?_;walk_at "go";refine⟨by show 1<=sizeLine;decide,λp5 hp5=>?_⟩
 have s5:=aG hp5 (.lst [V.int ((n:Nat):Int)])
 have e5:(upd H1 p5 (.lst [V.int ((n:Nat):Int)])) p5=some (.lst [V.int ((n:Nat):Int)]):=aE
 generalize upd H1 p5 (.lst [V.int ((n:Nat):Int)])=H5 at s5 e5 ⊢;walk_at "go";refine sI (bW e5) (bW (s5 _ _ eL)) (bP (by rw[oB];show 1+_<=_;omega)) λp6 hp6=>?_
 have s6:=aG hp6 (.lst ((n::ks).map λk=>V.int ((k:Nat):Int)))
 have e6:rdL (upd H5 p6 (.lst ((n::ks).map λk=>V.int ((k:Nat):Int)))) p6=some ((n::ks).map λk=>V.int ((k:Nat):Int)):=bO
 change pC _ _ _ (upd H5 p6 (.lst ((n::ks).map λk=>V.int ((k:Nat):Int)))) _
 generalize upd H5 p6 (.lst ((n::ks).map λk=>V.int ((k:Nat):Int)))=H6 at s6 e6 ⊢;have s16:=s5.trans s6
 walk_at "go";refine⟨b,p6,us,hs,n::ks,rfl,aO s16 hb1,hat1.keep s16,ok,e6,by show ks.length+1<=7;omega,λk hk=>by rcases Az.mp hk with e|e;(· rw[e];exact hn);(· exact(hlk k e).1),λr7 H7 hr7 s7 e7=>?_⟩
 have s17:=s16.trans s7
 have fl7:=iN ok (n::ks)
 walk_at "go";refine⟨a,r7,kvs,f,bD hs (n::ks),rfl,s17 _ _ (s1 _ _ ha),lk,hf0,aR e7,by rw[Ax]at fl7;omega,λr8 kws H8 hr8 s8 e8 lk8=>?_⟩
 have s18:=s17.trans s8
 have e68:=aO (s7.trans s8) e6
 have hb8:=aO s18 hb1
 have hat8:=hat1.keep s18
 have hul:=hat.len
 walk_at "go";refine aJQ (hs:=hs) hb8 (bK (by omega)) hul (λi x h Hc A B hx hh sm hA=>?_) (λD Hd vs hD sD hd hatD hfr=>?_)
 ·have hv:=(hat8.keep sm).val i x h hx hh
  cases h with
  |none=>
   obtain rfl:x=V.non:=hv;walk_at "go";refine⟨Wk.set rfl (Wk.refl _),?_⟩;walk_at "go";rw[show decide (V.non=V.non)=true from rfl];walk_at "go";exact hA .non _ (Same.refl _) rfl λp z=>nomatch z
  |some cs=>
   obtain⟨pc,rfl,hpc⟩:=hv;have rc:=aR hpc
   walk_at "go";refine⟨Wk.set rfl (Wk.refl _),?_⟩;walk_at "go";rw[show decide (V.ref pc=V.non)=false from Aw (λz=>nomatch z)]
   walk_at "go";intro l2 hl2;exact hA (.ref l2) _ (aG hl2 _) ⟨l2,rfl,aE⟩ λp z=>by cases z;exact hl2
 ·have s1D:=s18.trans sD
  have e6D:=aO sD e68
  have eLD:=s1D _ _ eL
  walk_at "go";refine⟨b,L,us,hs,cw,ks,rfl,aO s1D hb1,hat1.keep s1D,ok,aR eLD,by omega,hlk,λr9 H9 hr9 s9 e9=>?_⟩
  walk_at "go";refine⟨r8,r9,kws,jU f hs (n::ks),cH hs cw ks,rfl,.inl (s9 _ _ (sD _ _ e8)),lk8,aR e9,by unfold cH;rw[Ax,Ab];omega,pJ ok ⟨hc7,hcL⟩ hlk,λrh ps fs H10 hrh s10 er hne hls hfl hch hct=>?_,λdx l1 l2 rs W F H10 s10 _ _ _ _ hlo _ _=>absurd hfst.2.1 (zW hlo)⟩
  have sD10:=s9.trans s10
  have hgs:=bJH hfl hch
  have hflat:=pX (hfl.trans (aXN (cH hs cw ks)))
  have hgl:=hgs.lens
  have hpg:∀(i:Nat) p g,ps[i]?=some p->(qC (cH hs cw ks) fs)[i]?=some g->H10 p=some (.lst ((g.map one).map V.str))/\p≠D:=λi p g hp hg=>by
   have hi:i<(cH hs cw ks).length:=by rw[<-hgl];exact(Ad.mp hg).1
   have ec:(cH hs cw ks)[i]?=some (cH hs cw ks)[i]:=Aa hi
   rw[aXK ec]at hg;obtain⟨h1,h2⟩:=hls.2 i p (nO (cH hs cw ks) fs i) hp (by rw[Ah,Gc hi];rfl)
   refine⟨?_,λz=>by rw[z,s9 _ _ hd]at h1;cases h1⟩
   unfold nO at h2;rw[Ac,ec]at h2;cases hg;exact h2
  have hcnt:∀c,cnt (qC (cH hs cw ks) fs).flatten c<=aK (jU f hs (n::ks)) c:=λc=>by
   rw[hflat,dXC];exact Int.le_trans (hct c) (cZO (qO f hs (n::ks)) c)
  have hwone:=sF ok hc1 ⟨hc7,hcL⟩ hlk
  have hgf:=cXN hgs hwone
  have hpsl:ps.length=(qC (cH hs cw ks) fs).length:=by rw[hls.1,Ab,Bt,hgl]
  have hgl2:(qC (cH hs cw ks) fs).length=(n::ks).length:=by rw[hgl];show ((ks.map _).length+1)=ks.length+1;rw[Ab]
  generalize qC (cH hs cw ks) fs=gs at hgs hflat hgl hpg hcnt hgf hpsl hgl2;have e610:=aO sD10 e6D
  have er10:=aR er
  have eD10:=sD10 _ _ hd
  have hat10:=hatD.keep sD10
  have nd6:p6≠D:=λz=>by rw[z]at e68;unfold rdL at e68;rw[hD]at e68;cases e68
  have ndh:rh≠D:=λz=>by rw[z,s9 _ _ hd]at hrh;cases hrh
  have s810:=sD.trans sD10
  walk_at "go";refine cZ7 (xs:=((n::ks).map λk=>V.int ((k:Nat):Int))) (ys:=ps.map V.ref) (λi σ H'=>∃(v8 v9:Option V) (ws:List V),σ=[some (.ref a),some (.ref b),some (.int ((n:Nat):Int)),some (.str (bA cw)),some (.ref L),some (.ref p6),some (.ref r8),some (.ref D),v8,v9]/\Same H8 H'/\(∀z u,z≠D->H10 z=some u->H' z=some u)/\H' D=some (.lst ws)/\HalsAt H' ws (iH hs (((n::ks).zip gs).take i)))
   ⟨_,_,vs,rfl,s810,λz u _ h=>h,eD10,hat10⟩ (λi σ H' _ _ ⟨_,_,_,_,_,fr,_⟩=>⟨xX e610 nd6 fr,xX er10 ndh fr⟩) ?_ ?_
  ·rintro i x y σ H11 pt hx hy ⟨v8,v9,ws,rfl,s11,fr11,e11,hat11⟩ hpt;obtain⟨k,hk,rfl⟩:=rP hx;obtain⟨pg,hpgi,rfl⟩:=aZ0 hy;have hig:i<gs.length:=by rw[<-hpsl];exact(Ad.mp hpgi).1
   have eg:gs[i]?=some gs[i]:=Aa hig
   obtain⟨hp10,npD⟩:=hpg i pg _ hpgi eg;have hp11:=fr11 _ _ npD hp10
   have hkl2:k<hs.length:=by rcases Az.mp (An hk) with e|e;(· rw[e];exact hn);(· exact(hlk k e).1)
   have hwl:ws.length=hs.length:=by rw[hat11.len,fO]
   have tk:=cX9 hk eg
   generalize gs[i]=g at eg hp10 hp11 tk;have s12:=aG hpt (.tup [.int ((k:Nat):Int),.ref pg])
   have t12:mV (upd H11 pt (.tup [.int ((k:Nat):Int),.ref pg])) pt=some [.int ((k:Nat):Int),.ref pg]:=pH
   have e12:=s12 _ _ e11
   have hat12:=hat11.keep s12
   have hp12:=s12 _ _ hp11
   generalize upd H11 pt (.tup [.int ((k:Nat):Int),.ref pg])=H12 at s12 t12 e12 hat12 hp12 ⊢;walk_at "go";refine dZJ (o:=.non) (bW e12) (cXV (by omega) (by rw[hwl];omega)) ?_
   rw[show ((k:Nat):Int).toNat=k from rfl];refine⟨_,_,ws.set k (.ref pg),rfl,bM hD (s11.trans s12),λz u hz h=>by rw[aJ hz];exact s12 _ _ (fr11 z u hz h),aE,?_⟩
   rw[tk,gE];exact(hat12.put e12).set ⟨pg,rfl,by rw[aJ npD];exact hp12⟩
  ·rintro σ H11 ⟨v8,v9,ws,rfl,s11,fr11,e11,hat11⟩;have hzl:((n::ks).zip gs).length=(n::ks).length:=by rw[List.length_zip,hgl2,Nat.min_self]
   rw[oB,Ab,hpsl,hgl2,Nat.min_self,<-hzl,Br]at hat11;have hzk:∀z∈(n::ks).zip gs,z.1∈n::ks/\z.2∈gs:=λz hz=>Eh hz
   have ok':eX (iH hs ((n::ks).zip gs)):=bQG ok _ λz hz=>(hgf z.2 (hzk z hz).2).1
   have hkk:∀k∈n::ks,k<hs.length:=λk hk=>by rcases Az.mp hk with e|e;(· rw[e];exact hn);(· exact(hlk k e).1)
   have ndz:(((n::ks).zip gs).map (·.1)).Nodup:=by
    rw[show ((n::ks).zip gs).map (·.1)=n::ks from List.map_fst_zip (by rw[hgl2];exact Ai _)]
    exact qE hks
   have hfo:bD (iH hs ((n::ks).zip gs)) (n::ks)=gs.flatten:=aQG hgl2.symm (bQK hs _ ndz λz hz=>hkk z.1 (hzk z hz).1)
   have e6b:=xX e610 nd6 fr11
   have e8b:H11 r8=some (.dK kws):=s11 _ _ e8
   walk_at "go";refine⟨D,p6,ws,_,n::ks,rfl,aR e11,hat11,ok',e6b,by show ks.length+1<=7;omega,λk hk=>by rw[fO];exact hkk k hk,λr12 H12 hr12 s12 e12=>?_⟩
   rw[hfo]at e12;have hfle:gs.flatten.length<=42:=by
    have:=iN ok' (n::ks)
    rw[hfo,Ax]at this;omega
   walk_at "go";refine⟨r8,r12,kws,jU f hs (n::ks),gs.flatten,rfl,s12 _ _ e8b,lk8,qO f hs (n::ks),aR e12,by omega,λc hc=>by obtain⟨g,hg,hcg⟩:=List.mem_flatten.mp hc;exact(hgf g hg).2 c hcg,λ_ rR kwR H13 hrR s13 eR lkR=>?_,λi c hi _ hle=>?_⟩
   ·walk_at "go";refine⟨by show 3<=sizeLine;decide,λt ht=>?_⟩
    have k14:=aG ht (.tup [.ref L,.ref D,.ref rR])
    have s114:=s12.trans (s13.trans k14)
    have sH11:Same H H11:=s1.trans (s18.trans s11)
    refine q t L D rR ks gs j ws kwR _ (sH11.trans s114) (none_of (sH11.trans (s12.trans s13)) ht) aE hL (s114 _ _ (s11 _ _ (s18 _ _ eL))) hfst hgs hcnt (none_of (s1.trans s18) hD) (s114 _ _ e11) (hat11.keep s114) (none_of (sH11.trans s12) hrR) (k14 _ _ eR) lkR
   ·have h1:=dJ7 hi
    have h2:=hcnt c
    omega
def kC(aC:Addr):Sp:=λvs H Q _=>∃ea v,vs=[.ref ea,v]/\H ea=some (eK ea aC none)/\∀dx,H dx=none->Q .non (upd (upd H ea (eK ea aC (some dx))) dx (xdO dx [("at",v)]))
def uJ:FnScope ["self", "at"] ["self", "at"] (aM iG):=by walk_at "sc"
def tU(F:Fun K "__init__" "NoWord.__init__" iG f fd)(G:Gs K mg w Zs Zz Zt Zx Z0 Zv Zy Zw Zu):FnOk P w K mg base CX0 1 f fd ["self", "at"] (kC Zw):=by
 refine F.ok uJ (λvs H Q E h=>?_) (λcdv A outer s H vs Q E hr h=>?_)
 ·obtain⟨ea,v,rfl,_⟩:=h;rfl
 obtain⟨ea,v,rfl,he,q⟩:=h;refine⟨_,(@aD _ _ _ _ _ (cG (sJ rfl G.c_TowerError G.t1_TowerError G.t2_TowerError G.t3_TowerError (aA (mv 0) (aA (mv 1) aB)))) (@aH _ _ _ (rH (mv 0) (mv 1) rfl))),?_⟩;walk_at "go";refine⟨ea,[v],Zw,Zz,none,rfl,by show 1<=sizeLine;decide,he,(λ_ z=>nomatch z),G.xc_NoWord,?_⟩
 walk_at "go";exact⟨ea,Zw,Zz,rfl,G.xc_NoWord,G.xn_NoWord_at,.inl ⟨he,q⟩⟩
def sC:Sp:=λvs H Q _=>∃c,vs=[.str (one c)]/\aX c/\Q (.int ((c-97:Nat):Int)) H
def sG:Sp:=λvs H Q _=>∃z,vs=[.str z]/\z.length<=1000/\∀H',Same H H'->Q (.bl (nL z)) H'
def mE:Sp:=λvs H Q _=>∃(cs:List Nat),(vs=[.str (bA cs)]\/∃a,vs=[.ref a]/\rdL H a=some ((cs.map one).map V.str))/\cs.length<=1000/\(∀d∈cs,aX d)/\∀H',Same H H'->Q (.bl (iU cs)) H'
def mJ:Sp:=λvs H Q _=>∃(cs:List Nat),vs=[.str (bA cs)]/\cs.length<=7/\(∀d∈cs,aX d)/\∀H',Same H H'->Q (.bl (vA cs)) H'
def aZD:FnScope ["letter"] ["letter"] (aM qN):=by walk_at "sc"
def aZ5(F:Fun K "rank_of" "rank_of" qN f fd)(G:Gs K mg w Zs Zz Zt Zx Z0 Zv Zy Zw Zu):FnOk P w K mg base CX0 1 f fd ["letter"] sC:=by
 refine F.ok aZD (λvs H Q E h=>?_) (λcdv A outer s H vs Q E hr h=>?_)
 ·obtain⟨c,rfl,_⟩:=h;rfl
 obtain⟨c,rfl,hc,q⟩:=h;refine⟨_,(@aH _ _ _ (aT (dA Fh PySem.F.slot_str_index PySem.F.type_str_index cJL (fI rfl G.s_LETTERS) (aA (mv 0) aB)))),?_⟩;walk_at "go";exact cJT (cJP hc) q
def aZA:FnScope ["text"] ["text"] (aM pF):=by walk_at "sc"
def aXW(F:Fun K "is_word" "is_word" pF f fd)(G:Gs K mg w Zs Zz Zt Zx Z0 Zv Zy Zw Zu):FnOk P w K mg base CX0 1 f fd ["text"] sG:=by
 refine F.ok aZA (λvs H Q E h=>?_) (λcdv A outer s H vs Q E hr h=>?_)
 ·obtain⟨z,rfl,_⟩:=h;rfl
 obtain⟨z,rfl,hl,q⟩:=h;refine⟨_,(@aD _ _ _ _ _ (bU (PW.pt (jR (aY zF (aU dG rfl G.b_len bY (aA (mv 0) aB)) aI (aW _)) (iC (aY aXQ (aU dG rfl G.b_len bY (aA (mv 0) aB)) (xZ rfl G.s_MOST_PLACES) (aW _))))) (@aH _ _ _ (aT iP)) bC) (@aH _ _ _ (aT (aU (dZQ rfl) rfl G.b_all cZZ (aA (dB rfl (qI (mv 0)) (oJ (N:=["sign"]) (by decide +kernel) (by decide +kernel)) (by decide +kernel) rfl (by decide +kernel) (λ_ _ _ _=>(bH (i:=0) (show List.Nodup (["sign"]:List Str) by decide +kernel) rfl (Or.inl rfl))) (λ_ _ _ _=>eP) (λ_ _ _ _=>(cZ bQL (mv 0) (fI rfl G.s_LETTERS) (by rfl)))) aB))))),?_⟩
 walk_at "go";refine eW (λhc=>?_) (λhc=>?_)
 ·walk_at "go";have e:nL z=false:=if_pos (.inl (by have:=Ba hc;omega))
  have r:=q H (Same.refl H)
  rw[e]at r;exact r
 ·have hc':=Bp (Bq.mpr hc)
  walk_at "go";refine eW (λhd=>?_) (λhd=>?_)
  ·walk_at "go";have e:nL z=false:=if_pos (.inr (by have:=Ba hd;omega))
   have r:=q H (Same.refl H)
   rw[e]at r;exact r
  ·have hd':=Bp (Bq.mpr hd)
   walk_at "go";refine bJC (λc=>some (.bl (decide (c∈lettersT.cps.toList)))) (bK (by omega)) (λi c Hc A B hc' hA=>?_) (λD hD=>?_)
   ·walk_at "go";refine⟨Wk.set rfl (Wk.refl _),?_⟩;walk_at "go";have e:subIn ⟨#[c]⟩ lettersT=decide (c∈lettersT.cps.toList):=pR _ _
    show A (.bl (subIn ⟨#[c]⟩ lettersT)) Hc
    rw[e];exact hA
   ·walk_at "go";have e:z.cps.toList.filterMap (λc=>some (V.bl (decide (c∈lettersT.cps.toList))))=(z.cps.toList.map λc=>decide (c∈lettersT.cps.toList)).map V.bl:=by
     rw[Cg];exact rL _ _
    rw[e];have sm:Same H (upd H D (.lst ((z.cps.toList.map λc=>decide (c∈lettersT.cps.toList)).map V.bl))):=aG hD _
    refine dZN (bs:=z.cps.toList.map λc=>decide (c∈lettersT.cps.toList)) bO ?_;have e2:nL z=(z.cps.toList.map λc=>decide (c∈lettersT.cps.toList)).all id:=by
     unfold nL dJY;rw[if_neg (by omega),List.all_map]
     rfl
    have r:=q _ sm
    rw[e2]at r;exact r
def wgt(cs:List Nat)(i:Nat):Int:=((1+i:Nat):Int)*((cs.getD i 0-97:Nat):Int)
def bJQ(hl:cs.length<=1000)(hL:∀d∈cs,aX d):∀n∈(List.range cs.length).map (wgt cs),0<=n/\n<=1000000:=λn hn=>by
 obtain⟨i,hi,rfl⟩:=Bg.mp hn;have hi':=Bw.mp hi
 have hg:=kM hL hi'
 unfold aX at hg;unfold wgt;have h2:((1+i:Nat):Int)*((cs.getD i 0-97:Nat):Int)<=((1+i:Nat):Int)*22:=Int.mul_le_mul_of_nonneg_left (by omega) (by omega)
 exact⟨Int.mul_nonneg (by omega) (by omega),by omega⟩
def sc_is_divided:FnScope ["letters", "weighed"] ["letters"] (aM jI):=by walk_at "sc"
def uU(F:Fun K "is_divided" "is_divided" jI f fd)(G:Gs K mg w Zs Zz Zt Zx Z0 Zv Zy Zw Zu)(c_rank_of:Cal P w K mg base 1 "rank_of" ["letter"] sC):FnOk P w K mg base CX0 2 f fd ["letters"] mE:=by
 refine F.ok sc_is_divided (λvs H Q E h=>?_) (λcdv A outer s H vs Q E hr h=>?_)
 ·obtain⟨cs,rfl|⟨a,rfl,_⟩,_⟩:=h<;>rfl
 obtain⟨cs,hv,hl,hL,q⟩:=h;have fin:∀D Hd,Same H Hd->rdL Hd D=some (((List.range cs.length).map (wgt cs)).map V.int)->∀(Q':VK),(Q' (.int (lZ cs cs.length)) Hd)->dJW [.ref D] Hd Q':=λD Hd sD hD Q' q'=>
  dZT hD (bJQ hl hL) (by rw[Ab,Bt];omega) q'
 have fm:∀(G:Nat->Option V),(∀i,i<cs.length->G i=some (V.int (wgt cs i)))->(List.range cs.length).filterMap G=((List.range cs.length).map (wgt cs)).map V.int:=λG hG=>by
  rw[Cg,<-rL];exact iO λi hi=>hG i (Bw.mp hi)
 rcases hv with rfl|⟨a,rfl,ha⟩
 ·refine⟨_,(@aD _ _ _ _ _ (lL (i:=1) sc_is_divided.nd rfl (Or.inl rfl) rfl (aQ6 rfl G.b_enumerate (aA (mv 0) aB) (xY aI aZ2)) (oJ (N:=["place", "letter"]) (by decide +kernel) (by decide +kernel)) (by decide +kernel) rfl (by decide +kernel) (λ_ _ _ _=>(dQ (K:=K) (i:=0) (j:=1) (by rfl) (by rfl) (show List.Nodup (["place", "letter"]:List Str) by decide +kernel) (by rfl) (by exact Or.inl rfl) (by exact Or.inr rfl) (by rfl) (by exact Or.inl rfl) (by exact Or.inr rfl))) (λ_ _ _ _=>eP) (λ_ _ _ _=>(aQ mF (mv 0) (aZ c_rank_of hr (by decide) rfl (aA (mv 1) aB))))) (@aH _ _ _ (aT (cZ hJ (aQ cV (aU (cZ9 rfl) rfl G.b_sum aJC (aA (mv 1) aB)) (aU dG rfl G.b_len bY (aA (fI rfl G.s_LETTERS) aB))) aI (aW _))))),?_⟩
  walk_at "go";refine⟨⟨by omega,by omega⟩,cQJ hL,?_⟩
  refine cQK (k:=1) (λi c=>some (V.int (((1+i:Nat):Int)*((c-97:Nat):Int)))) (by rw[cP];exact bK (by omega)) (λi c Hc p A B hc sm hp hA=>?_) (λD Hd hD sD hd=>?_)
  ·have hi:=(Ad.mp hc).1
   rw[gF]at hi;walk_at "go";refine⟨Wk.set rfl (Wk.set rfl (Wk.refl _)),?_⟩;walk_at "go";refine⟨c,rfl,hL c (by rw[gF]at hc;exact An hc),?_⟩
   walk_at "go";exact hA _ (Same.refl _)
  ·rw[cP,gF]at hd;rw[fm (λi=>some (V.int (((1+i:Nat):Int)*((cs.getD i 0-97:Nat):Int)))) (λi _=>rfl)]at hd;walk_at "go";refine fin D Hd sD hd _ ?_;walk_at "go";have r:=q Hd sD
   exact r
 ·refine⟨_,(@aD _ _ _ _ _ (lL (i:=1) sc_is_divided.nd rfl (Or.inl rfl) rfl (aQ6 rfl G.b_enumerate (aA (mv 0) aB) (xY aI aZ2)) (oJ (N:=["place", "letter"]) (by decide +kernel) (by decide +kernel)) (by decide +kernel) rfl (by decide +kernel) (λ_ _ _ _=>(dQ (K:=K) (i:=0) (j:=1) (by rfl) (by rfl) (show List.Nodup (["place", "letter"]:List Str) by decide +kernel) (by rfl) (by exact Or.inl rfl) (by exact Or.inr rfl) (by rfl) (by exact Or.inl rfl) (by exact Or.inr rfl))) (λ_ _ _ _=>eP) (λ_ _ _ _=>(aQ mF (mv 0) (aZ c_rank_of hr (by decide) rfl (aA (mv 1) aB))))) (@aH _ _ _ (aT (cZ hJ (aQ cV (aU (cZ9 rfl) rfl G.b_sum aJC (aA (mv 1) aB)) (aU dG rfl G.b_len bY (aA (fI rfl G.s_LETTERS) aB))) aI (aW _))))),?_⟩
  walk_at "go";refine⟨⟨by omega,by omega⟩,?_⟩
  walk_at "go";refine aJ7 (k:=1) (xs:=(cs.map one).map V.str) (λi x=>match x with|.str z=>some (V.int (((1+i:Nat):Int)*((lC z-97:Nat):Int)))|_=>none) ha (by rw[Ab,Ab];exact bK (by omega)) (λi x Hc p A B hx sm hp hA=>?_) (λD Hd hD sD hd=>?_)
  ·obtain⟨z,hz,rfl⟩:=iR hx;rw[Ah]at hz;cases e:cs[i]? with
   |none=>rw[e]at hz;cases hz
   |some c=>
    have hi:=(Ad.mp e).1
    rw[e]at hz;cases hz;walk_at "go";refine⟨Wk.set rfl (Wk.set rfl (Wk.refl _)),?_⟩;walk_at "go";refine⟨c,rfl,hL c (An e),?_⟩;walk_at "go";exact hA _ (Same.refl _)
  ·rw[Ab,Ab,fm _ (λi hi=>?_)]at hd
   ·walk_at "go";refine fin D Hd sD hd _ ?_;walk_at "go";have r:=q Hd sD
    exact r
   ·have e:((cs.map one).map V.str).getD i .non=.str (one (cs.getD i 0)):=by
     rw[Ac,Ah,Ah,Ac,Aa hi];rfl
    rw[e];rfl
def uQ:FnScope ["word"] ["word"] (aM iT):=by walk_at "sc"
def vH(F:Fun K "is_checked" "is_checked" iT f fd)(G:Gs K mg w Zs Zz Zt Zx Z0 Zv Zy Zw Zu)(c_is_word:Cal P w K mg base 1 "is_word" ["text"] sG)(c_is_divided:Cal P w K mg base 2 "is_divided" ["letters"] mE):FnOk P w K mg base CX0 3 f fd ["word"] mJ:=by
 refine F.ok uQ (λvs H Q E h=>?_) (λcdv A outer s H vs Q E hr h=>?_)
 ·obtain⟨cs,rfl,_⟩:=h;rfl
 obtain⟨cs,rfl,h7,hL,q⟩:=h;refine⟨_,(@aH _ _ _ (aT (sQ (aZ c_is_word hr (by decide) rfl (aA (mv 0) aB)) (sQ (cZ aXQ (aU dG rfl G.b_len bY (aA (mv 0) aB)) aI (aW _)) (rZ (aZ c_is_divided hr (by decide) rfl (aA (mv 0) aB))))))),?_⟩
 have hwl:(bA cs).length=cs.length:=cP cs
 walk_at "go";refine⟨_,rfl,by omega,λH1 s1=>?_⟩
 rw[cXL hL h7];walk_at "go";refine eW (λhc=>?_) (λhc=>?_)
 ·walk_at "go";rw[hwl];refine eW (λhd=>?_) (λhd=>?_)
  ·have hd':=Ba hd
   walk_at "go";refine⟨cs,.inl rfl,by omega,hL,λH2 s2=>?_⟩
   have r:=q H2 (s1.trans s2)
   unfold vA at r;rw[Aj (by omega),Bool.true_and]at r
   exact r
  ·have hd':=Bp (Bq.mpr hd)
   have r:=q H1 s1
   unfold vA at r;rw[Aw (by omega),Bool.false_and]at r
   exact r
 ·have hc':=Bp (Bq.mpr hc)
  have r:=q H1 s1
  unfold vA at r;rw[Aw (by omega),Bool.false_and]at r
  exact r
def set_set{e:Nat}:(cs.set k d).set k e=cs.set k e:=List.set_set ..
def cZF{cs:List Nat}(h7:cs.length<=7)(hL:∀d∈cs,aX d){k d c:Nat}(hk:k<cs.length)(hd:aX d)(h:iU (cs.set k d)=true)(hc:aX c):iU (cs.set k c)=decide (c=d):=by
 have q:=dQT (cs:=cs.set k d) (by rw[Cv];exact h7) (dQ9 hL hd) (k:=k) (d:=c) (by rw[Cv];exact hk) hc h
 rw[set_set,sS hk,if_pos rfl]at q;exact q
def fQO(g:Nat->β){F:Nat->Bool}(hd:aX d)(h:∀c,aX c->F c=decide (c=d)):lettersT.cps.toList.filterMap (λc=>if F c=true then some (g c) else none)=[g d]:=by
 have q:∀k:_root_.Fin 23,lettersT.cps.toList.filterMap (λc=>if c=97+k.val then some c else none)=[97+k.val]:=by decide +kernel
 unfold aX at hd;have e:=q ⟨d-97,by omega⟩
 simp only[show 97+(d-97)=d by omega]at e
 have e2:lettersT.cps.toList.filterMap (λc=>if F c=true then some (g c) else none)=(lettersT.cps.toList.filterMap (λc=>if c=d then some c else none)).map g:=by
  rw[List.map_filterMap];refine iO λc hc=>?_;rw[h c (mem_letters.mp hc)];by_cases z:c=d
  ·rw[if_pos (Aj z),if_pos z];rfl
  ·rw[if_neg (by rw[Aw z];exact Ap),if_neg z];rfl
 rw[e2,e];rfl
def pB{x:Nat}:(cs++[x]).set cs.length d=cs++[d]:=by
 rw[List.set_append_right _ _ (Ai _),Fg];rfl
def cZ4(hL:∀d∈cs,aX d){c:Nat}(hc:aX c):∀d∈cs++[c],aX d:=λd hd=>by
 rcases Bm.mp hd with h|h
 ·exact hL d h
 ·rw[Ak.mp h];exact hc
def wB(h6:cs.length<=6)(hL:∀d∈cs,aX d){c:Nat}(hd:aX d)(h:iU (cs++[d])=true)(hc:aX c):iU (cs++[c])=decide (c=d):=by
 have ll:(cs++[97]).length=cs.length+1:=by rw[Af];rfl
 have q:=cZF (cs:=cs++[97]) (by omega) (cZ4 hL (by decide)) (k:=cs.length) (d:=d) (c:=c) (by omega) hd (by rw[pB];exact h) hc
 rw[pB]at q;exact q
def ckL(cs:List Nat):Nat:=(lettersT.cps.toList.find? λd=>iU (cs++[d])).getD 0
def dZU(h6:cs.length<=6)(hL:∀d∈cs,aX d)(hd:aX d)(h:iU (cs++[d])=true):ckL cs=d:=by
 unfold ckL;cases e:lettersT.cps.toList.find? λd=>iU (cs++[d]) with
 |none=>exact absurd h (by have:=List.find?_eq_none.mp e d (mem_letters.mpr hd);exact this)
 |some c=>
  have hc:=List.find?_some e
  have hm:=mem_letters.mp (List.mem_of_find?_eq_some e)
  have r:=wB h6 hL hd h hm
  have hc2:iU (cs++[c])=true:=hc
  rw[hc2]at r;exact Ba r.symm
def eZY(h6:cs.length<=6)(hL:∀d∈cs,aX d):aX (ckL cs)/\iU (cs++[ckL cs])=true:=by
 obtain⟨d,hdl,hdv⟩:=zY (cs:=cs++[97]) (by rw[Af];show _+1<=_;omega) (k:=cs.length) (by rw[Af];show _<_+1;omega)
 rw[pB]at hdv;rw[dZU h6 hL hdl hdv];exact⟨hdl,hdv⟩
def aQ3(bk:List (Str×Str))(cws:List (List Nat)):Prop:=cws.length=bk.length/\∀(j:Nat) b cw,bk[j]?=some b->cws[j]?=some cw->b.1=bA cw/\1<=cw.length/\cw.length<=6/\∀d∈cw,aX d
def FlOnly(f:Nat->Option Int):Prop:=∀c,(f c).isSome=true->cY c
def FlOnly.put{f:Nat->Option Int}{x:Int}(h:FlOnly f)(hd:cY d):FlOnly (λe=>if e=d then some x else f e):=λc hc=>by
 by_cases e:c=d
 ·rw[e];exact hd
 ·dsimp only at hc;rw[if_neg e]at hc;exact h c hc
def cQ(hs:List (Option (List Nat)))(n:Nat):List Nat:=(hs.getD n none).getD []
def cXP{σ:St}{h:Option (List Nat)}(hv:HalV H1 v h)(q:∀p H2,Same H1 H2->rdL H2 p=some (((h.getD []).map one).map V.str)->Q (.ref p) H2):(v=.non/\cZY xR σ H1 Q)\/∃(p:Addr) (xs:List V),v=.ref p/\rdL H1 p=some xs/\(xs≠[]->Q (.ref p) H1)/\(xs=[]->cZY xR σ H1 Q):=by
 have e0:h.getD []=[]->cZY xR σ H1 Q:=λe=>⟨Dc _,λp hp=>q p _ (aG hp _) (by rw[e];exact bO)⟩
 cases h with
 |none=>exact .inl ⟨hv,e0 rfl⟩
 |some cs=>
  obtain⟨p,e,hp⟩:=hv;exact .inr ⟨p,_,e,aR hp,λ_=>q p H1 (Same.refl _) (aR hp),λz=>e0 (by cases cs with|nil=>rfl|cons a r=>cases z)⟩
def kL{f:Nat->Option Int}{c:Nat}{x:Int}:aK (λe=>if e=d then some x else f e) c=if c=d then x else aK f c:=by
 unfold aK;dsimp only;by_cases e:c=d
 ·rw[if_pos e,if_pos e];rfl
 ·rw[if_neg e,if_neg e]
def oA(xs ys:List Nat)(c:Nat):cnt (xs++ys) c=cnt xs c+cnt ys c:=by
 unfold cnt;rw[Gf];exact Int.natCast_add ..
def nZ{c:Nat}(h:c∉cs):cnt cs c=0:=by
 unfold cnt;rw[List.countP_eq_zero.mpr λx hx z=>h (by rw[<-eq_of_beq z];exact hx)]
 rfl
def cZS{x:V}(h:((F.map one).map V.str)[i]?=some x):∃c,F[i]?=some c/\x=V.str (one c):=by
 rw[Ah,Ah]at h;cases e:F[i]? with
 |none=>rw[e]at h;cases h
 |some c=>rw[e]at h;cases h;exact⟨c,rfl,rfl⟩
def dJ2(ok:eX hs)(h:d∈cQ hs k):cY d:=by
 unfold cQ at h;cases e:hs.getD k none with
 |none=>rw[e]at h;cases h
 |some cs=>
  rw[e]at h;have hm:some cs∈hs:=by
   rw[Ac]at e;cases e2:hs[k]? with
   |none=>rw[e2]at e;cases e
   |some h=>
    rw[e2]at e;rw[<-show h=some cs from e];exact An e2
  obtain⟨i,hi⟩:=Dz.mp (show d∈cs from h);obtain⟨c',e1,_,hcc⟩:=nS (ok cs hm) (i:=i) (z:=one d) (by rw[Ah,hi];rfl)
  rw[<-one_inj.mp e1]at hcc;exact hcc.imp id And.left
def wdV:Option (List Nat)->V
 |none=>.non
 |some cw=>.str (bA cw)
def fQX:Option (List Nat)->Option (List Nat)->Prop
 |none,none=>True
 |some cs,some cw=>Hg cw cs/\1<=cw.length/\cw.length<=7/\∀d∈cw,aX d
 |_,_=>False
def Fits(hs wv:List (Option (List Nat))):Prop:=hs.length=wv.length/\∀k:Nat,k<hs.length->fQX (hs.getD k none) (wv.getD k none)
def wM{o:Nat}(e:o≠k):(hs.set o h).getD k none=hs.getD k none:=by
 rw[Ac,Da e,<-Ac]
def wA{o:Nat}(e:o<hs.length):(hs.set o h).getD o none=h:=by
 rw[Ac,Dh e];rfl
def Fits.read(h:Fits hs wv)(hk:k<hs.length)(hs':(hs.getD k none).isSome=true):wv.getD k none=some (rdC ((hs.getD k none).getD [])):=by
 have f:=h.2 k hk
 cases e1:hs.getD k none with
 |none=>rw[e1]at hs';cases hs'
 |some cs=>
  rw[e1]at f;cases e2:wv.getD k none with
  |none=>rw[e2]at f;exact f.elim
  |some cw=>
   rw[e2]at f;obtain⟨hg,_,_,hL⟩:=f;show some cw=some (rdC cs)
   rw[dJ1 hL hg.1 λj hj=>?_];have ej:cs[j]?=some cs[j]:=Aa hj
   rw[Ac,ej];exact hg.2 j _ ej
def Fits.haul(h:Fits hs wv){n:Nat}{gs:Q5}(hn:n<hs.length)(hks:ks.Sublist (bI hs n))(hg:Hgs (cH hs cw ks) gs)(hc1:1<=cw.length)(hc7:cw.length<=7)(hcL:∀d∈cw,aX d):Fits (iH hs ((n::ks).zip gs)) (wv.set n (some cw)):=by
 have hlen:(n::ks).length=gs.length:=by
  rw[hg.len];show _=(ks.map _).length+1
  rw[Ab];rfl
 have hlt:∀z∈(n::ks).zip gs,z.1<hs.length:=λz hz=>by
  rcases Az.mp (Eh hz).1 with e|e
  ·rw[e];exact hn
  ·exact(eZ (hks.subset e)).1
 have ndz:(((n::ks).zip gs).map (·.1)).Nodup:=by
  rw[show ((n::ks).zip gs).map (·.1)=n::ks from List.map_fst_zip (by rw[hlen];exact Ai _)]
  exact qE hks
 have hat:∀(i k:Nat) c,(n::ks)[i]?=some k->(cH hs cw ks)[i]?=some c->∃g,(iH hs ((n::ks).zip gs)).getD k none=some g/\Hg c g:=λi k c hk hc=>by
  obtain⟨g,eg,hgg⟩:=hg.at hc;refine⟨g,?_,hgg⟩;exact bQK hs _ ndz hlt (k,g) (An (i:=i) (by rw[List.getElem?_zip_eq_some];exact⟨hk,eg⟩))
 refine⟨by rw[fO,Cv,h.1],λk hk=>?_⟩
 rw[fO]at hk;by_cases e:n=k
 ·subst e;obtain⟨g,e1,e2⟩:=hat 0 n cw rfl rfl;rw[e1,wA (by rw[<-h.1];exact hn)]
  exact⟨e2,hc1,hc7,hcL⟩
 ·rw[wM e];by_cases hm:k∈ks
  ·obtain⟨i,hi⟩:=Dz.mp hm;have ho:=eZ (hks.subset hm)
   obtain⟨g,e1,e2⟩:=hat (i+1) k (rdC ((hs.getD k none).getD [])) hi (by show (ks.map _)[i]?=_;rw[Ah,hi];rfl)
   have f:=h.2 k hk
   have er:=h.read hk ho.2.1
   rw[e1,er];cases eh:hs.getD k none with
   |none=>rw[eh]at ho;cases ho.2.1
   |some cs=>
    rw[er,eh]at f;rw[eh]at e2;exact⟨e2,f.2⟩
  ·rw [uM hs _ λz hz=>λq=>by
    rcases Az.mp (Eh hz).1 with w|w
    ·exact e (w.symm.trans q)
    ·exact hm (by rw[<-q];exact w)]
   exact h.2 k hk
def aJS(hk:k<hs.length)(c:Nat):∀m,cnt (bD (hs.set k h) (List.range m)) c=cnt (bD hs (List.range m)) c+if k<m then cnt (h.getD []) c-cnt (cQ hs k) c else 0
 |0=>rfl
 |m+1=>by
  have e:∀(g:Q3),bD g [m]=cQ g m:=λg=>Bd _
  rw[Bs,iJ,iJ,oA,oA,aJS hk c m,e,e];by_cases q:k=m
  ·subst q;rw[if_neg (Dv _),if_pos (Nat.lt_succ_self _)];show _+cnt (((hs.set k h).getD k none).getD []) c=_
   rw[wA hk];omega
  ·have e2:cQ (hs.set k h) m=cQ hs m:=by unfold cQ;rw[wM q]
   rw[e2];by_cases l:k<m
   ·rw[if_pos l,if_pos (by omega)];omega
   ·rw[if_neg l,if_neg (by omega)];omega
def bJ9(c:Nat):∀zs:List (Nat×List Nat),(zs.map (·.1)).Nodup->(∀z∈zs,z.1<hs.length)->cnt (bD (iH hs zs) (List.range hs.length)) c+cnt (bD hs (zs.map (·.1))) c=cnt (bD hs (List.range hs.length)) c+cnt (zs.map (·.2)).flatten c:=λzs=>by
 refine kB (p:=λzs=>(zs.map (·.1)).Nodup->(∀z∈zs,z.1<hs.length)->cnt (bD (iH hs zs) (List.range hs.length)) c+cnt (bD hs (zs.map (·.1))) c=cnt (bD hs (List.range hs.length)) c+cnt (zs.map (·.2)).flatten c) (λ_ _=>rfl) (λzs z ih nd hl=>?_) zs;rw[Ar,As,Gk]at nd;have hz:=hl z (Be _ Al)
 have i:=ih (Cy.mp nd).1 λw hw=>hl w (Cb _ hw)
 have hne:∀w∈zs,w.1≠z.1:=λw hw q=>(Cy.mp nd).2.2 w.1 (List.mem_map_of_mem hw) z.1 Al q
 have e1:cQ (iH hs zs) z.1=cQ hs z.1:=by unfold cQ;rw[uM hs _ hne]
 have e2:bD hs [z.1]=cQ hs z.1:=Bd _
 rw[gE,aJS (by rw[fO];exact hz),if_pos hz,e1,List.map_append,List.map_append,iJ,oA,List.map_cons,List.map_nil,e2,List.flatten_append,oA,show ([z].map (·.2)).flatten=z.2 by simp]
 show _+(cnt z.2 c-_)+_=_
 omega
def fA(f:Nat->Option Int)(hs:List (Option (List Nat)))(c:Nat):Int:=aK f c+cnt (bD hs (List.range hs.length)) c
def gX{f:Nat->Option Int}(h:FlOnly f){c:Nat}(hc:¬cY c):aK f c=0:=by
 unfold aK;cases e:f c with
 |none=>rfl
 |some x=>exact absurd (h c (by rw[e];rfl)) hc
def mW(ok:eX hs)(h:d∈bD hs ks):cY d:=by
 obtain⟨k,_,hk⟩:=Fz.mp h;exact dJ2 ok hk
def cZM{f:Nat->Option Int}{n:Nat}{gs:Q5}(hf0:∀c,0<=aK f c)(hfo:FlOnly f)(ok:eX hs)(hn:n<hs.length)(hks:ks.Sublist (bI hs n))(hg:Hgs (cH hs cw ks) gs)(hgf:∀g∈gs,∀c∈g,cY c)(hcnt:∀c,cnt gs.flatten c<=aK (jU f hs (n::ks)) c)(c:Nat):fA (bJ λc=>aK (jU f hs (n::ks)) c-cnt gs.flatten c) (iH hs ((n::ks).zip gs)) c=fA f hs c:=by
 have hlen:(n::ks).length=gs.length:=by
  rw[hg.len];show _=(ks.map _).length+1
  rw[Ab];rfl
 have hlt:∀z∈(n::ks).zip gs,z.1<hs.length:=λz hz=>by
  rcases Az.mp (Eh hz).1 with e|e
  ·rw[e];exact hn
  ·exact(eZ (hks.subset e)).1
 have e1:((n::ks).zip gs).map (·.1)=n::ks:=List.map_fst_zip (by rw[hlen];exact Ai _)
 have e2:((n::ks).zip gs).map (·.2)=gs:=List.map_snd_zip (by rw[hlen];exact Ai _)
 have r:=bJ9 c ((n::ks).zip gs) (by rw[e1];exact qE hks) hlt
 rw[e1,e2]at r;unfold fA;rw[fO];have h0:=hcnt c
 by_cases hc:cY c
 ·have hp:aK (jU f hs (n::ks)) c=aK f c+cnt (bD hs (n::ks)) c:=cN (n:=λc=>aK f c+cnt (bD hs (n::ks)) c) hc (by have:=hf0 c;have:=sB (bD hs (n::ks)) c;show 0<=_+_;omega)
  rw[cN hc (by omega),hp]
  omega
 ·rw [gX hfo hc,nZ λz=>hc (mW ok z)];have e3:aK (bJ λc=>aK (jU f hs (n::ks)) c - cnt gs.flatten c) c=0:=by
   show (bJ _ c).getD 0=0
   unfold bJ;rw[if_neg λz=>hc z.1];rfl
  have e4:cnt (bD hs (n::ks)) c=0:=nZ λz=>hc (mW ok z)
  have e5:cnt gs.flatten c=0:=nZ λz=>by
   obtain⟨g,h1,h2⟩:=List.mem_flatten.mp z;exact hc (hgf g h1 c h2)
  have e6:cnt (bD hs (List.range hs.length)) c=0:=nZ λz=>hc (mW ok z)
  rw[e3];omega
def fU(aN:Addr):Sp:=λvs H Q E=>∃(b:Addr) (us:List V) (n:Int),vs=[.ref b,.int n]/\rdL H b=some us/\us.length<=1000/\((0<=n/\n<(us.length:Int))->Q .non H)/\(¬(0<=n/\n<(us.length:Int))->∀H',Same H H'->E (.ref aN) none H')
def lY:FnScope ["halyards", "number"] ["halyards", "number"] (aM eM):=by walk_at "sc"
def mC(F:Fun K "look_for_halyard" "look_for_halyard" eM f fd)(G:Gs K mg w Zs Zz Zt Zx Z0 Zv Zy Zw Zu):FnOk P w K mg base (CXr P w) 1 f fd ["halyards", "number"] (fU Zy):=by
 refine F.okX lY (λvs H Q E h=>?_) (λcdv A outer s H vs Q E hr h=>?_)
 ·obtain⟨b,us,n,rfl,_⟩:=h;rfl
 obtain⟨b,us,n,rfl,hb,hl,q1,q2⟩:=h;refine⟨_,(@aH _ _ _ (bU (PW.pt (jR (aY zF (mv 1) aI (aW _)) (iC (aY eZ6 (mv 1) (aU dG rfl G.b_len bY (aA (mv 0) aB)) (aW _))))) (@aH _ _ _ (lB fY rfl rfl rfl G.c_NoHalyard G.x_NoHalyard Ct (@bT _ _ _ _ _ _ aB))) bC)),?_⟩;walk_at "go";refine eW (λh1=>?_) (λh1=>?_)
 ·have hn:=Ba h1
  walk_at "go";exact⟨by show 1<=sizeLine;decide,q2 (λz=>by omega) _ (Same.refl _)⟩
 ·have hn:¬n<0:=λz=>h1 (Aj z)
  walk_at "go";refine eW (λh2=>?_) (λh2=>?_)
  ·have hm:=Ba h2
   walk_at "go";exact⟨by show 1<=sizeLine;decide,q2 (λz=>by omega) _ (Same.refl _)⟩
  ·have hm:¬(us.length:Int)<=n:=λz=>h2 (Aj z)
   walk_at "go";exact q1 ⟨by omega,by omega⟩
def lR(m:Nat->Int)(c:Nat):0<=aK (bJ m) c:=by
 unfold aK bJ;split
 ·rename_i h
  exact Int.le_of_lt (by simp only[Option.getD_some];exact h.2)
 ·exact Hb _
structure TwSt (H:Hp) (B R:Addr) (hs:List (Option (List Nat))) (f:Nat->Option Int):Prop where
 hal:∃us,H B=some (.lst us)/\HalsAt H us hs
 ok:eX hs
 loc:∃kvs,H R=some (.dK kvs)/\Lk kvs f
 pos:∀c,0<=aK f c
def jW:Sp:=λvs H Q _=>∃(hg:Addr) (us:List V) (hs:List (Option (List Nat))),vs=[.ref hg]/\rdL H hg=some us/\HalsAt H us hs/\eX hs/\hs.length<=7/\∀(r:Addr) (H':Hp),H r=none->Same H H'->H' r=some (.lst (((bD hs (List.range hs.length)).map one).map V.str))->Q (.ref r) H'
def qY:FnScope ["halyards"] ["halyards"] (aM gK):=by walk_at "sc"
def rF(F:Fun K "all_flags_on" "all_flags_on" gK f fd)(G:Gs K mg w Zs Zz Zt Zx Z0 Zv Zy Zw Zu)(c_flags_on:Cal P w K mg base 1 "flags_on" ["halyards", "numbers"] gU):FnOk P w K mg base CX0 2 f fd ["halyards"] jW:=by
 refine F.ok qY (λvs H Q E h=>?_) (λcdv A outer s H vs Q E hr h=>?_)
 ·obtain⟨hg,us,hs,rfl,_⟩:=h;rfl
 obtain⟨hg,us,hs,rfl,rh,hat,ok,h7,q⟩:=h;refine⟨_,(@aH _ _ _ (aT (aZ c_flags_on hr (by decide) rfl (aA (mv 0) (aA (bN (dXE rfl) rfl G.b_list eU (aA (bN dJS rfl G.b_range bJ6 (aA (aU dG rfl G.b_len bY (aA (mv 0) aB)) aB)) aB)) aB))))),?_⟩
 walk_at "go";rw[hat.len];refine cJO λr1 hr1=>?_;have k1:=aG hr1 (HO.rng 0 ((hs.length:Nat):Int))
 have e1:(upd H r1 (HO.rng 0 ((hs.length:Nat):Int))) r1=some (HO.rng 0 ((hs.length:Nat):Int)):=aE
 generalize upd H r1 (HO.rng 0 ((hs.length:Nat):Int))=H1 at k1 e1 ⊢;walk_at "go";refine dQW e1 (by omega) λr2 hr2=>?_
 have k2:=k1.trans (aG hr2 (.lst ((List.range hs.length).map λk=>V.int ((k:Nat):Int))))
 have e2:rdL (upd H1 r2 (.lst ((List.range hs.length).map λk=>V.int ((k:Nat):Int)))) r2=some ((List.range hs.length).map λk=>V.int ((k:Nat):Int)):=bO
 generalize upd H1 r2 (.lst ((List.range hs.length).map λk=>V.int ((k:Nat):Int)))=H2 at k2 e2 ⊢;walk_at "go";exact⟨hg,r2,us,hs,List.range hs.length,rfl,aO k2 rh,hat.keep k2,ok,e2,by rw[Bt];omega,(λk hk=>Bw.mp hk),λr H' hr s' e=>q r H' (none_of k2 hr) (k2.trans s') e⟩
def mO:Sp:=λ_ _ _ _=>False
def uV(F:Fun K "behind_say" "behind_say" oI f fd)(G:Gs K mg w Zs Zz Zt Zx Z0 Zv Zy Zw Zu):FnOk P w K mg base (CXr P w) 1 f fd ["book", "halyards", "locker", "text"] mO:=⟨λ_ _ _ _ h=>h.elim,λ_ _ _ _ _ _ _ _ _ _ _ _ _ h=>h.elim⟩
def jS:Sp:=λ_ _ _ _=>False
def rD(F:Fun K "behind_lower" "behind_lower" kU f fd)(G:Gs K mg w Zs Zz Zt Zx Z0 Zv Zy Zw Zu):FnOk P w K mg base (CXr P w) 1 f fd ["halyards", "locker", "number"] jS:=⟨λ_ _ _ _ h=>h.elim,λ_ _ _ _ _ _ _ _ _ _ _ _ _ h=>h.elim⟩
def fB(m:Nat->Int):FlOnly (bJ m):=λc hc=>by
 unfold bJ at hc;split at hc
 ·rename_i h
  exact h.1
 ·cases hc
def oS(c d:Nat):cnt [c] d=if d=c then 1 else 0:=by
 unfold cnt;by_cases e:d=c
 ·rw[if_pos e,e,List.countP_cons_of_pos (by exact Fv c)]
  rfl
 ·rw[if_neg e,List.countP_cons_of_neg (by rw[Cr.mpr λz=>e z.symm];decide)]
  rfl
def bZL{f:Nat->Option Int}(hfo:FlOnly f)(hpos:∀c,0<=aK f c){c:Nat}(hc:cY c)(h:0<aK f c)(d:Nat):aK (bJ λe=>aK f e-cnt [c] e) d=aK f d-(if d=c then 1 else 0):=by
 have h0:=hpos d
 by_cases hd:cY d
 ·rw[cN hd (by rw[oS];split<;>(try subst d)<;>omega),oS]
 ·rw[gX (fB _) hd,gX hfo hd,if_neg λz=>hd (by rw[z];exact hc)]
  rfl
def bXN{f:Nat->Option Int}(hfo:FlOnly f)(hpos:∀c,0<=aK f c){c:Nat}(hc:cY c)(d:Nat):aK (bJ λe=>aK f e+cnt [c] e) d=aK f d+(if d=c then 1 else 0):=by
 have h0:=hpos d
 by_cases hd:cY d
 ·rw[cN hd (by rw[oS];split<;>omega),oS]
 ·rw[gX (fB _) hd,gX hfo hd,if_neg λz=>hd (by rw[z];exact hc)]
  rfl
inductive Dd where
 |haul (n:Nat) (cw:List Nat)
 |lose (z:Str)
 |find (z:Str)
def Dd.vs:Dd->List V
 |.haul n cw=>[.str (Str.ofString "haul"),.int ((n:Nat):Int),.str (bA cw)]
 |.lose z=>[.str (Str.ofString "lose"),.str z]
 |.find z=>[.str (Str.ofString "find"),.str z]
def Dd.ok(m:Nat):Dd->Prop
 |.haul n cw=>n<m/\cw.length<=7/\(∀d∈cw,aX d)/\vA cw=true
 |.lose z=>z.length<=1000
 |.find z=>z.length<=1000
def Dd.done(hs:List (Option (List Nat)))(f:Nat->Option Int)(hs':List (Option (List Nat)))(f':Nat->Option Int):Dd->Prop
 |.haul n cw=>hs'.length=hs.length/\(∀wv,Fits hs wv->Fits hs' (wv.set n (some cw)))/\∀c,fA f' hs' c=fA f hs c
 |.lose z=>hs'=hs/\∃c,z=one c/\cY c/\0<aK f c/\∀d,aK f' d=aK f d-(if d=c then 1 else 0)
 |.find z=>hs'=hs/\∃c,z=one c/\cY c/\fA f hs c<99/\∀d,aK f' d=aK f d+(if d=c then 1 else 0)
def Dd.no(aL aS aF:Addr)(hs:List (Option (List Nat)))(f:Nat->Option Int)(E:XK)(H:Hp):Dd->Prop
 |.haul _ _=>∀(dx:Addr) (H':Hp),Same H H'->E (.ref aL) (some dx) H'
 |.lose z=>(cD z=false->∀H',Same H H'->E (.ref aF) none H')/\∀c,z=one c->cY c->aK f c<=0->∀(dx:Addr) (H':Hp),Same H H'->H' dx=some (xdO dx [("flag",.str z)])->E (.ref aS) (some dx) H'
 |.find z=>(cD z=false->∀H',Same H H'->E (.ref aF) none H')/\∀c,z=one c->cY c->99<=fA f hs c->∀H',Same H H'->E (.ref aF) none H'
def Dd.no.keep{f:Nat->Option Int}{d:Dd}(h:d.no aL aS aF hs f E H)(s:Same H H1):d.no aL aS aF hs f E H1:=by
 cases d with
 |haul n cw=>exact λdx H' s'=>h dx H' (s.trans s')
 |lose z=>exact⟨λa H' s'=>h.1 a H' (s.trans s'),λc a b e dx H' s'=>h.2 c a b e dx H' (s.trans s')⟩
 |find z=>exact⟨λa H' s'=>h.1 a H' (s.trans s'),λc a b e H' s'=>h.2 c a b e H' (s.trans s')⟩
def TwO(H:Hp)(B R:Addr)(hs:List (Option (List Nat)))(f:Nat->Option Int):Prop:=TwSt H B R hs f/\FlOnly f
def fG(aF:Addr):Sp:=λvs H Q E=>∃z:Str,vs=[.str z]/\z.length<=1000/\(cD z=true->Q .non H)/\(cD z=false->∀H',Same H H'->E (.ref aF) none H')
def qD:FnScope ["flag"] ["flag"] (aM fT):=by walk_at "sc"
def qM(F:Fun K "look_for_flag" "look_for_flag" fT f fd)(G:Gs K mg w Zs Zz Zt Zx Z0 Zv Zy Zw Zu)(c_is_flag:Cal P w K mg base 1 "is_flag" ["text"] mY):FnOk P w K mg base (CXr P w) 2 f fd ["flag"] (fG Zu):=by
 refine F.okX qD (λvs H Q E h=>?_) (λcdv A outer s H vs Q E hr h=>?_)
 ·obtain⟨z,rfl,_⟩:=h;rfl
 obtain⟨z,rfl,hz,q1,q2⟩:=h;refine⟨_,(@aH _ _ _ (bU (gL (cX (aZ c_is_flag hr (by decide) rfl (aA (mv 0) aB)))) (@aH _ _ _ (lB fY rfl rfl rfl G.c_NoFlag G.x_NoFlag Ct (@bT _ _ _ _ _ _ aB))) bC)),?_⟩
 walk_at "go";refine⟨z,rfl,hz,?_⟩;cases e:cD z with
 |true=>
  walk_at "go";exact q1 e
 |false=>
  walk_at "go";exact⟨by show 1<=sizeLine;decide,q2 e _ (Same.refl _)⟩
def kH(aS aF:Addr):Sp:=λvs H Q E=>∃(B R:Addr) (hs:List (Option (List Nat))) (f:Nat->Option Int) (z:Str),vs=[.ref B,.ref R,.str z]/\TwO H B R hs f/\z.length<=1000/\
 (∀(t R':Addr) (f':Nat->Option Int) (H':Hp),Same H H'->H t=none->H' t=some (.tup [.ref B,.ref R'])->H R'=none->(Dd.lose z).done hs f hs f'->TwO H' B R' hs f'->Q (.ref t) H')/\(Dd.lose z).no 0 aS aF hs f E H
def uF:FnScope ["halyards", "locker", "flag"] ["halyards", "locker", "flag"] (aM hV):=by walk_at "sc"
def tS(F:Fun K "behind_lose" "behind_lose" hV f fd)(G:Gs K mg w Zs Zz Zt Zx Z0 Zv Zy Zw Zu)(c_look_for_flag:jY P w K mg base 2 "look_for_flag" ["flag"] (fG Zu))(c_taken:jY P w K mg base 3 "taken" ["locker", "flags"] (uI Zt)):FnOk P w K mg base (CXr P w) 4 f fd ["halyards", "locker", "flag"] (kH Zt Zu):=by
 refine F.okX uF (λvs H Q E h=>?_) (λcdv A outer s H vs Q E hr h=>?_)
 ·obtain⟨B,R,hs,f,z,rfl,_⟩:=h;rfl
 obtain⟨B,R,hs,f,z,rfl,⟨tw,hfo⟩,hz,q,qe⟩:=h;refine⟨_,(@aD _ _ _ _ _ (cG (dE c_look_for_flag cE hr (by decide) rfl (aA (mv 2) aB))) (@aH _ _ _ (aT (eG (aA (mv 0) (aA (dE c_taken cE hr (by decide) rfl (aA (mv 1) (aA (bR (aA (mv 2) aB)) aB))) aB)))))),?_⟩
 obtain⟨⟨us,hB,hat⟩,ok,⟨kvs,hR,lk⟩,hpos⟩:=id tw;walk_at "go";refine⟨z,rfl,hz,λht=>?_,λhf H' s'=>qe.1 hf H' s'⟩;obtain⟨c,rfl,hc⟩:=lP ht;have hc:cY c:=hc
 walk_at "go";refine⟨by show 1<=sizeLine;decide,λp1 hp1=>?_⟩
 have k1:=aG hp1 (.lst [V.str (one c)])
 have e1:rdL (upd H p1 (.lst [V.str (one c)])) p1=some (([c].map one).map V.str):=bO
 generalize upd H p1 (.lst [V.str (one c)])=H1 at k1 e1 ⊢;walk_at "go";refine⟨R,p1,kvs,f,[c],rfl,k1 _ _ hR,lk,hpos,e1,by show 1<=1000;decide,(λd hd=>by rw[Ak.mp hd];exact hc),λhen R' kws H2 hR' s2 e2 lk2=>?_,λi d hd hen hle dx H2 s2 ex=>?_⟩
 ·have s02:=k1.trans s2
  have hp:0<aK f c:=hen 0 c (Nat.succ_pos _) rfl
  walk_at "go";refine⟨by show 2<=sizeLine;decide,λt ht=>?_⟩
  have k3:=aG ht (.tup [.ref B,.ref R'])
  have s03:=s02.trans k3
  exact q t R' _ _ s03 (none_of s02 ht) aE (none_of k1 hR') ⟨rfl,c,rfl,hc,hp,bZL hfo hpos hc hp⟩ ⟨⟨⟨us,s03 _ _ hB,hat.keep s03⟩,ok,⟨kws,k3 _ _ e2,lk2⟩,lR _⟩,fB _⟩
 ·cases i with
  |succ i=>cases hd
  |zero=>
   cases hd;exact qe.2 c rfl hc hle dx H2 (k1.trans s2) ex
def kF(aF:Addr):Sp:=λvs H Q E=>∃(B R:Addr) (hs:List (Option (List Nat))) (f:Nat->Option Int) (z:Str),vs=[.ref B,.ref R,.str z]/\TwO H B R hs f/\hs.length<=6/\z.length<=1000/\
 (∀(t R':Addr) (f':Nat->Option Int) (H':Hp),Same H H'->H t=none->H' t=some (.tup [.ref B,.ref R'])->H R'=none->(Dd.find z).done hs f hs f'->TwO H' B R' hs f'->Q (.ref t) H')/\(Dd.find z).no 0 0 aF hs f E H
def sP:FnScope ["halyards", "locker", "flag"] ["halyards", "locker", "flag"] (aM hU):=by walk_at "sc"
def tK(F:Fun K "behind_find" "behind_find" hU f fd)(G:Gs K mg w Zs Zz Zt Zx Z0 Zv Zy Zw Zu)(c_look_for_flag:jY P w K mg base 2 "look_for_flag" ["flag"] (fG Zu))(c_put_in:Cal P w K mg base 2 "put_in" ["locker", "flags"] lH)(c_all_flags_on:Cal P w K mg base 2 "all_flags_on" ["halyards"] jW):FnOk P w K mg base (CXr P w) 3 f fd ["halyards", "locker", "flag"] (kF Zu):=by
 refine F.okX sP (λvs H Q E h=>?_) (λcdv A outer s H vs Q E hr h=>?_)
 ·obtain⟨B,R,hs,f,z,rfl,_⟩:=h;rfl
 obtain⟨B,R,hs,f,z,rfl,⟨tw,hfo⟩,h6,hz,q,qe⟩:=h;refine⟨_,(@aD _ _ _ _ _ (cG (dE c_look_for_flag cE hr (by decide) rfl (aA (mv 2) aB))) (@aD _ _ _ _ _ (bU (aY eZ6 (aQ cB (cR Bb Bv (jX (Room.u1 hr)) (mv 1) (aA (mv 2) (aA aI aB))) (dA By PySem.F.slot_list_count PySem.F.type_list_count dQH (aZ c_all_flags_on hr (by decide) rfl (aA (mv 0) aB)) (aA (mv 2) aB))) (xZ rfl G.s_MOST_OF_A_FLAG) (aW _)) (@aH _ _ _ (lB fY rfl rfl rfl G.c_NoFlag G.x_NoFlag Ct (@bT _ _ _ _ _ _ aB))) bC) (@aH _ _ _ (aT (eG (aA (mv 0) (aA (aZ c_put_in hr (by decide) rfl (aA (mv 1) (aA (bR (aA (mv 2) aB)) aB))) aB))))))),?_⟩
 obtain⟨⟨us,hB,hat⟩,ok,⟨kvs,hR,lk⟩,hpos⟩:=id tw;have hD:=dW hR
 walk_at "go";refine⟨z,rfl,hz,λht=>?_,λhf H' s'=>qe.1 hf H' s'⟩;obtain⟨c,rfl,hc⟩:=lP ht;have hc:cY c:=hc
 walk_at "go";refine jQ (z:=one c) (.inl hR) ?_;rw[lk.val c,dZ];walk_at "go";refine⟨B,us,hs,rfl,aR hB,hat,ok,by omega,λr1 H1 hr1 s1 e1=>?_⟩
 have re1:=aR e1
 walk_at "go";refine cJ2 (z:=one c) re1 ?_;rw[aXP];walk_at "go";change if decide ((99:Int)<=fA f hs c)=true then _ else _
 refine eW (λh1=>?_) (λh1=>?_)
 ·have h9:=Ba h1
  walk_at "go";exact⟨by show 1<=sizeLine;decide,qe.2 c rfl hc h9 _ s1⟩
 ·have h9:fA f hs c<99:=Int.not_le.mp λz=>h1 (Aj z)
  walk_at "go";refine⟨by show 1<=sizeLine;decide,λp2 hp2=>?_⟩
  have k2:=s1.trans (aG hp2 (.lst [V.str (one c)]))
  have e2:rdL (upd H1 p2 (.lst [V.str (one c)])) p2=some (([c].map one).map V.str):=bO
  generalize upd H1 p2 (.lst [V.str (one c)])=H2 at k2 e2 ⊢;walk_at "go";refine⟨R,p2,kvs,f,[c],rfl,k2 _ _ hR,lk,hpos,e2,by show 1<=1000;decide,λR' kws H3 hR' s3 e3 lk3=>?_⟩
  have s03:=k2.trans s3
  walk_at "go";refine⟨by show 2<=sizeLine;decide,λt ht=>?_⟩
  have k4:=aG ht (.tup [.ref B,.ref R'])
  have s04:=s03.trans k4
  exact q t R' _ _ s04 (none_of s03 ht) aE (none_of k2 hR') ⟨rfl,c,rfl,hc,h9,bXN hfo hpos hc⟩ ⟨⟨⟨us,s04 _ _ hB,hat.keep s04⟩,ok,⟨kws,k4 _ _ e3,lk3⟩,lR _⟩,fB _⟩
def lE(aL:Addr):Sp:=λvs H Q E=>∃(B R:Addr) (hs:List (Option (List Nat))) (f:Nat->Option Int) (n:Nat) (cw:List Nat),vs=[.ref B,.ref R,.int ((n:Nat):Int),.str (bA cw)]/\TwO H B R hs f/\hs.length<=6/\(Dd.haul n cw).ok hs.length/\
 (∀(t B' R':Addr) (hs':Q3) (f':Nat->Option Int) (H':Hp),Same H H'->H t=none->H' t=some (.tup [.ref B',.ref R'])->H B'=none->H R'=none->(Dd.haul n cw).done hs f hs' f'->TwO H' B' R' hs' f'->Q (.ref t) H')/\
 ∀(dx:Addr) (H':Hp),Same H H'->E (.ref aL) (some dx) H'
def sc_behind_haul:FnScope ["halyards", "locker", "number", "word", "told"] ["halyards", "locker", "number", "word"] (aM iD):=by walk_at "sc"
def uC(F:Fun K "behind_haul" "behind_haul" iD f fd)(G:Gs K mg w Zs Zz Zt Zx Z0 Zv Zy Zw Zu)(c_look_for_halyard:jY P w K mg base 1 "look_for_halyard" ["halyards", "number"] (fU Zy))(c_hauled:jY P w K mg base 12 "hauled" ["locker", "halyards", "number", "word"] (vS Zs))(c_is_checked:Cal P w K mg base 3 "is_checked" ["word"] mJ)(c_NoWord_init:aZR P w K mg base 1 Zw ["self", "at"] (kC Zw)):FnOk P w K mg base (CXr P w) 13 f fd ["halyards", "locker", "number", "word"] (lE Zs):=by
 refine F.okX sc_behind_haul (λvs H Q E h=>?_) (λcdv A outer s H vs Q E hr h=>?_)
 ·obtain⟨B,R,hs,f,n,cw,rfl,_⟩:=h;rfl
 obtain⟨B,R,hs,f,n,cw,rfl,⟨tw,hfo⟩,h6,⟨hn,hc7,hcL,hck⟩,q,qe⟩:=h;refine⟨_,(@aD _ _ _ _ _ (cG (dE c_look_for_halyard cE hr (by decide) rfl (aA (mv 0) (aA (mv 2) aB)))) (@aD _ _ _ _ _ (bU (gL (cX (aZ c_is_checked hr (by decide) rfl (aA (mv 3) aB)))) (@aH _ _ _ (lS fY rfl rfl rfl G.c_NoWord G.xm_NoWord c_NoWord_init hr (by decide) (aA aI aB))) bC) (@aD _ _ _ _ _ (aP 4 sc_behind_haul.nd (dE c_hauled cE hr (by decide) rfl (aA (mv 1) (aA (mv 0) (aA (mv 2) (aA (mv 3) aB)))))) (@aH _ _ _ (aT (eG (aA (bE bS (mv 4) aI (λ_ _=>rfl)) (aA (bE bS (mv 4) aI (λ_ _=>rfl)) aB)))))))),?_⟩
 obtain⟨⟨us,hB,hat⟩,ok,⟨kvs,hR,lk⟩,hpos⟩:=tw;have rB:=aR hB
 have hul:=hat.len
 have hc1:1<=cw.length:=by
  unfold vA at hck;rw[Ea,Bo]at hck;omega
 walk_at "go";refine⟨B,us,_,rfl,rB,by omega,λ_=>?_,λz=>absurd ⟨by omega,by omega⟩ z⟩
 walk_at "go";refine⟨cw,rfl,hc7,hcL,λH1 s1=>?_⟩;rw[hck];walk_at "go";refine⟨R,B,kvs,f,us,hs,n,cw,rfl,⟨s1 _ _ hR,lk,hpos,aO s1 rB,hat.keep s1,ok,h6,hn,hc1,hc7,hcL⟩,λt L B2 R2 ks gs j vs' kws H2 s2 ht et hL eL hfst hgs hcnt hB2 eB hatB hR2 eR lkR=>?_,λ_ dx l1 l2 rs W F H2 s2 _ _ _ _ _ _ _=>qe dx H2 (s1.trans s2)⟩;have tt:=cF et
 walk_at "go";refine bX et (v:=.ref B2) (aV (j:=1) rfl) ?_;walk_at "go";refine bX et (v:=.ref R2) (aV (j:=2) rfl) ?_;walk_at "go";refine⟨by show 2<=sizeLine;decide,λt3 ht3=>?_⟩
 have k3:=aG ht3 (.tup [.ref B2,.ref R2])
 have s03:=s1.trans (s2.trans k3)
 have hks:ks.Sublist (bI hs n):=mem_sets.mp (An hfst.1)
 have hlk:∀k∈ks,k<hs.length/\(hs.getD k none).isSome=true:=λk hk=>by
  have:=eZ (hks.subset hk)
  exact⟨this.1,this.2.1⟩
 have hgf:=cXN hgs (sF ok hc1 ⟨hc7,hcL⟩ hlk)
 exact q t3 B2 R2 _ _ _ s03 (none_of (s1.trans s2) ht3) aE (none_of s1 hB2) (none_of s1 hR2) ⟨fO hs _,λwv hf=>hf.haul hn hks hgs hc1 hc7 hcL,cZM hpos hfo ok hn hks hgs (λg hg=>(hgf g hg).2) hcnt⟩ ⟨⟨⟨vs',k3 _ _ eB,hatB.keep k3⟩,bQG ok _ λz hz=>(hgf z.2 (Eh hz).2).1,⟨kws,k3 _ _ eR,lkR⟩,lR _⟩,fB _⟩
def dN(aL aS aF:Addr):Sp:=λvs H Q E=>∃(b hg st dp:Addr) (hs:List (Option (List Nat))) (f:Nat->Option Int) (d:Dd),vs=[.ref b,.ref hg,.ref st,.ref dp]/\TwO H hg st hs f/\hs.length<=6/\H dp=some (.tup d.vs)/\d.ok hs.length/\
 (∀(t B' R':Addr) (hs':Q3) (f':Nat->Option Int) (H':Hp),Same H H'->H t=none->H' t=some (.tup [.ref B',.ref R'])->(B'=hg\/H B'=none)->H R'=none->d.done hs f hs' f'->TwO H' B' R' hs' f'->Q (.ref t) H')/\d.no aL aS aF hs f E H
def dQG{vs:List V}{Q':VK}(h:∀v H,Q v H->Q' v H)(q:dN aL aS aF vs H Q E):dN aL aS aF vs H Q' E:=by
 obtain⟨b,hg,st,dp,hs,f,d,e,a1,a2,a3,a4,q1,q2⟩:=q;exact⟨b,hg,st,dp,hs,f,d,e,a1,a2,a3,a4,λt B' R' hs' f' H' b1 b2 b3 b4 b5 b6 b7=>h _ _ (q1 t B' R' hs' f' H' b1 b2 b3 b4 b5 b6 b7),q2⟩
def sZ:FnScope ["book", "halyards", "locker", "deed"] ["book", "halyards", "locker", "deed"] (aM iI):=by walk_at "sc"
def tV(F:Fun K "behind_deed" "behind_deed" iI f fd)(G:Gs K mg w Zs Zz Zt Zx Z0 Zv Zy Zw Zu)(c_behind_say:jY P w K mg base 1 "behind_say" ["book", "halyards", "locker", "text"] mO)(c_behind_haul:jY P w K mg base 13 "behind_haul" ["halyards", "locker", "number", "word"] (lE Zs))(c_behind_lower:jY P w K mg base 1 "behind_lower" ["halyards", "locker", "number"] jS)(c_behind_lose:jY P w K mg base 4 "behind_lose" ["halyards", "locker", "flag"] (kH Zt Zu))(c_behind_find:jY P w K mg base 3 "behind_find" ["halyards", "locker", "flag"] (kF Zu)):FnOk P w K mg base (CXr P w) 14 f fd ["book", "halyards", "locker", "deed"] (dN Zs Zt Zu):=by
 refine F.okX sZ (λvs H Q E h=>?_) (λcdv A outer s H vs Q E hr h=>?_)
 ·obtain⟨b,hg,st,dp,hs,f,d,rfl,_⟩:=h;rfl
 obtain⟨b,hg,st,dp,hs,f,d,rfl,tw,h6,tp,hok,q,qe⟩:=h;refine⟨_,(@aD _ _ _ _ _ (bU (aY hJ (bE bS (mv 3) aI (λ_ _=>rfl)) cW (aW _)) (@aH _ _ _ (aT (dE c_behind_haul cE hr (by decide) rfl (aA (mv 1) (aA (mv 2) (aA (bE bS (mv 3) aI (λ_ _=>rfl)) (aA (bE bS (mv 3) aI (λ_ _=>rfl)) aB))))))) bC) (@aD _ _ _ _ _ (bU (aY hJ (bE bS (mv 3) aI (λ_ _=>rfl)) cW (aW _)) (@aH _ _ _ (aT (dE c_behind_lower cE hr (by decide) rfl (aA (mv 1) (aA (mv 2) (aA (bE bS (mv 3) aI (λ_ _=>rfl)) aB)))))) bC) (@aD _ _ _ _ _ (bU (aY hJ (bE bS (mv 3) aI (λ_ _=>rfl)) cW (aW _)) (@aH _ _ _ (aT (dE c_behind_lose cE hr (by decide) rfl (aA (mv 1) (aA (mv 2) (aA (bE bS (mv 3) aI (λ_ _=>rfl)) aB)))))) bC) (@aD _ _ _ _ _ (bU (aY hJ (bE bS (mv 3) aI (λ_ _=>rfl)) cW (aW _)) (@aH _ _ _ (aT (dE c_behind_find cE hr (by decide) rfl (aA (mv 1) (aA (mv 2) (aA (bE bS (mv 3) aI (λ_ _=>rfl)) aB)))))) bC) (@aH _ _ _ (aT (dE c_behind_say cE hr (by decide) rfl (aA (mv 0) (aA (mv 1) (aA (mv 2) (aA (bE bS (mv 3) aI (λ_ _=>rfl)) aB))))))))))),?_⟩
 cases d with
 |haul n cw=>
  replace tp:H dp=some (.tup [.str (Str.ofString "haul"),.int ((n:Nat):Int),.str (bA cw)]):=tp
  have tt:=cF tp
  walk_at "go";refine bX tp (v:=.str (Str.ofString "haul")) (aV (j:=0) rfl) ?_;walk_at "go";rw[show decide ((Str.ofString "haul")=(Str.ofString "haul"))=true from Aj rfl];walk_at "go";refine bX tp (v:=.int ((n:Nat):Int)) (aV (j:=1) rfl) ?_;walk_at "go";refine bX tp (v:=.str (bA cw)) (aV (j:=2) rfl) ?_;walk_at "go";exact⟨hg,st,hs,f,n,cw,rfl,tw,h6,hok,λt B' R' hs' f' H' b1 b2 b3 b4 b5 b6 b7=>q t B' R' hs' f' H' b1 b2 b3 (.inr b4) b5 b6 b7,qe⟩
 |lose z=>
  replace tp:H dp=some (.tup [.str (Str.ofString "lose"),.str z]):=tp
  have tt:=cF tp
  walk_at "go";refine bX tp (v:=.str (Str.ofString "lose")) (aV (j:=0) rfl) ?_;walk_at "go";rw[show decide ((Str.ofString "lose")=(Str.ofString "haul"))=false from by decide +kernel]
  walk_at "go";refine bX tp (v:=.str (Str.ofString "lose")) (aV (j:=0) rfl) ?_;walk_at "go";rw[show decide ((Str.ofString "lose")=(Str.ofString "lower"))=false from by decide +kernel]
  walk_at "go";refine bX tp (v:=.str (Str.ofString "lose")) (aV (j:=0) rfl) ?_;walk_at "go";rw[show decide ((Str.ofString "lose")=(Str.ofString "lose"))=true from Aj rfl];walk_at "go";refine bX tp (v:=.str z) (aV (j:=1) rfl) ?_;walk_at "go";exact⟨hg,st,hs,f,z,rfl,tw,hok,λt R' f' H' b1 b2 b3 b4 b5 b6=>q t hg R' hs f' H' b1 b2 b3 (.inl rfl) b4 b5 b6,qe⟩
 |find z=>
  replace tp:H dp=some (.tup [.str (Str.ofString "find"),.str z]):=tp
  have tt:=cF tp
  walk_at "go";refine bX tp (v:=.str (Str.ofString "find")) (aV (j:=0) rfl) ?_;walk_at "go";rw[show decide ((Str.ofString "find")=(Str.ofString "haul"))=false from by decide +kernel]
  walk_at "go";refine bX tp (v:=.str (Str.ofString "find")) (aV (j:=0) rfl) ?_;walk_at "go";rw[show decide ((Str.ofString "find")=(Str.ofString "lower"))=false from by decide +kernel]
  walk_at "go";refine bX tp (v:=.str (Str.ofString "find")) (aV (j:=0) rfl) ?_;walk_at "go";rw[show decide ((Str.ofString "find")=(Str.ofString "lose"))=false from by decide +kernel]
  walk_at "go";refine bX tp (v:=.str (Str.ofString "find")) (aV (j:=0) rfl) ?_;walk_at "go";rw[show decide ((Str.ofString "find")=(Str.ofString "find"))=true from Aj rfl];walk_at "go";refine bX tp (v:=.str z) (aV (j:=1) rfl) ?_;walk_at "go";exact⟨hg,st,hs,f,z,rfl,tw,h6,hok,λt R' f' H' b1 b2 b3 b4 b5 b6=>q t hg R' hs f' H' b1 b2 b3 (.inl rfl) b4 b5 b6,qe⟩
def twF(b:Addr)(m:Int)(s0 st hg dd:Addr):List (Str×V):=[("book",.ref b),("many",.int m),("stock_at_first",.ref s0),("stock",.ref st),("hung",.ref hg),("deeds",.ref dd)]
def tw1(b:Addr):List (Str×V):=[("book",.ref b)]
def tw2(b:Addr)(m:Int):List (Str×V):=[("book",.ref b),("many",.int m)]
def tw3(b:Addr)(m:Int)(s0:Addr):List (Str×V):=[("book",.ref b),("many",.int m),("stock_at_first",.ref s0)]
def tw4(b:Addr)(m:Int)(s0 st:Addr):List (Str×V):=[("book",.ref b),("many",.int m),("stock_at_first",.ref s0),("stock",.ref st)]
def tw5(b:Addr)(m:Int)(s0 st hg:Addr):List (Str×V):=[("book",.ref b),("many",.int m),("stock_at_first",.ref s0),("stock",.ref st),("hung",.ref hg)]
def dXD:fP "book" (.ref b) []=tw1 b:=rfl
def cJ8{m:Int}:fP "many" (.int m) (tw1 b)=tw2 b m:=rfl
def cJY{m:Int}:fP "stock_at_first" (.ref s0) (tw2 b m)=tw3 b m s0:=rfl
def cJQ{m:Int}:fP "stock" (.ref st) (tw3 b m s0)=tw4 b m s0 st:=rfl
def dQE{m:Int}:fP "hung" (.ref hg) (tw4 b m s0 st)=tw5 b m s0 st hg:=rfl
def cJF{m:Int}:fP "deeds" (.ref dd) (tw5 b m s0 st hg)=twF b m s0 st hg dd:=rfl
def cJD{m:Int}:(twF b m s0 st hg dd).lookup ("book" : Str)=some (.ref b):=rfl
def aQT{m:Int}:(twF b m s0 st hg dd).lookup ("stock" : Str)=some (.ref st):=rfl
def bQD{m:Int}:(twF b m s0 st hg dd).lookup ("hung" : Str)=some (.ref hg):=rfl
def cZ3{m:Int}:(twF b m s0 st hg dd).lookup ("deeds" : Str)=some (.ref dd):=rfl
def aXC{m:Int}:(twF b m s0 st hg dd).lookup ("do" : Str)=none:=rfl
def gC{m:Int}:(twF b m s0 st hg dd).lookup ("locker" : Str)=none:=rfl
def eQ{m:Int}:(twF b m s0 st hg dd).lookup ("halyards" : Str)=none:=rfl
def zM{m:Int}{h':Addr}:fP "hung" (.ref h') (twF b m s0 st hg dd)=twF b m s0 st h' dd:=rfl
def zH{m:Int}{s':Addr}:fP "stock" (.ref s') (twF b m s0 st hg dd)=twF b m s0 s' hg dd:=rfl
def SameE(l:List Addr)(H H':Hp):Prop:=∀b o,b∉l->H b=some o->H' b=some o
def SameE.of(s:Same H H'):SameE l H H':=λb o _ e=>s b o e
def SameE.trans{H2:Hp}(s:SameE l H H')(t:SameE l H' H2):SameE l H H2:=λb o n e=>t b o n (s b o n e)
def SameE.put{o:HO}(hx:x∈l)(s:SameE l H H'):SameE l H (upd H' x o):=λb u n e=>by rw[aJ (λz=>n (by rw[z];exact hx))];exact s b u n e
def rdE{a:Addr}{u:HO}(s:SameE l H H')(n:a∉l)(h:Rd H a u):Rd H' a u:=by
 rcases h with h|⟨o,h⟩
 ·exact .inl (s _ _ n h)
 ·exact .inr ⟨o,s _ _ n h⟩
def SameE.none(s:SameE l H H')(n:x∉l)(h:H' x=none):H x=none:=by
 cases e:H x with
 |none=>rfl
 |some o=>rw[s x o n e]at h;cases h
def aXI(m:Nat):(List.replicate ((m:Int)).toNat [V.non]).flatten=List.replicate m V.non:=by
 rw[Gu];induction m with
 |zero=>rfl
 |succ n ih=>rw[Dw,Bz,ih,Dw];rfl
def hZ(C:Addr):Sp:=λvs H Q _=>∃(x b l dx:Addr) (xs:List V) (kvs:List (Key×V)) (f:Nat->Option Int) (m:Nat),vs=[.ref x,.ref b,.ref l,.int (m:Int)]/\H x=some (.ins C dx [])/\rdL H b=some xs/\Rd H l (.dK kvs)/\Lk kvs f/\m<=6/\
 ∀(b' s0 st hg dd:Addr) (H':Hp),H b'=none->H hg=none->H dd=none->H st=none->hg≠dd->b'≠dd->SameE [x] H H'->H' x=some (.ins C dx (twF b' m s0 st hg dd))->H' b'=some (.lst xs)->H' s0=some (.dK (kvL (aK f) (bG (aK f) 27)))->H' st=some (.dK (kvL (aK f) (bG (aK f) 27)))->
  H' hg=some (.lst (List.replicate m V.non))->H' dd=some (.lst [])->Q .non H'
def uS:FnScope ["self", "book", "locker", "many"] ["self", "book", "locker", "many"] (aM iQ):=by walk_at "sc"
def uN(F:Fun K "__init__" "Tower.__init__" iQ f fd)(G:Gs K mg w Zs Zz Zt Zx Z0 Zv Zy Zw Zu)(c_plain_locker:Cal P w K mg base 1 "plain_locker" ["locker"] cM):FnOk P w K mg base CX0 2 f fd ["self", "book", "locker", "many"] (hZ Z0):=by
 refine F.ok uS (λvs H Q E h=>?_) (λcdv A outer s H vs Q E hr h=>?_)
 ·obtain⟨x,b,l,dx,xs,kvs,f,m,rfl,_⟩:=h;rfl
 obtain⟨x,b,l,dx,xs,kvs,f,m,rfl,hx,hb,hl,hk,hm,q⟩:=h;refine⟨_,(@aD _ _ _ _ _ (lA (mv 0) (bN lG rfl G.b_list eU (aA (mv 1) aB)) rfl) (@aD _ _ _ _ _ (lA (mv 0) (mv 3) rfl) (@aD _ _ _ _ _ (lA (mv 0) (aZ c_plain_locker hr (by decide) rfl (aA (mv 2) aB)) rfl) (@aD _ _ _ _ _ (lA (mv 0) (aZ c_plain_locker hr (by decide) rfl (aA (mv 2) aB)) rfl) (@aD _ _ _ _ _ (lA (mv 0) (aQ cZ5 (bR (aA dS aB)) (mv 3)) rfl) (@aH _ _ _ (lA (mv 0) (bR aB) rfl))))))),?_⟩
 walk_at "go";intro b' hb';have nx:b'≠x:=λz=>by rw[z,hx]at hb';cases hb'
 have nl:l∉[x]:=λz=>by
  rw[Ak.mp z]at hl;rcases hl with h|⟨_,h⟩ <;> (rw[hx]at h;cases h)
 have sE1:SameE [x] H (upd H b' (.lst xs)):=.of (aG hb' (.lst xs))
 have e1:(upd H b' (.lst xs)) b'=some (.lst xs):=aE
 have x1:=aG hb' (.lst xs) _ _ hx
 generalize upd H b' (.lst xs)=H1 at sE1 e1 x1 ⊢;have nin:∀ {y:Addr} {o:HO} {H':Hp} {fs:List (Str×V)},H' y=some o->H' x=some (.ins Z0 dx fs)->(∀fs',o≠.ins Z0 dx fs')->y≠x:=λe1 e2 n z=>by rw[z,e2]at e1;cases e1;exact n _ rfl
 walk_at "go";refine⟨x,Z0,dx,[],rfl,x1,G.cl_Tower,G.na_Tower_book,by decide,?_⟩
 rw[dXD];have sE2:=sE1.put (o:=.ins Z0 dx (tw1 b')) (Ak.mpr rfl)
 have x2:(upd H1 x (.ins Z0 dx (tw1 b'))) x=some (.ins Z0 dx (tw1 b')):=aE
 have e2:(upd H1 x (.ins Z0 dx (tw1 b'))) b'=some (.lst xs):=by rw[aJ nx];exact e1
 generalize upd H1 x (.ins Z0 dx (tw1 b'))=H2 at sE2 x2 e2 ⊢;walk_at "go";refine⟨x,Z0,dx,_,rfl,x2,G.cl_Tower,G.na_Tower_many,by show 1<1000;decide,?_⟩
 rw[cJ8];have sE3:=sE2.put (o:=.ins Z0 dx (tw2 b' (m:Int))) (Ak.mpr rfl)
 have x3:(upd H2 x (.ins Z0 dx (tw2 b' (m:Int)))) x=some (.ins Z0 dx (tw2 b' (m:Int))):=aE
 have e3:(upd H2 x (.ins Z0 dx (tw2 b' (m:Int)))) b'=some (.lst xs):=by rw[aJ nx];exact e2
 generalize upd H2 x (.ins Z0 dx (tw2 b' (m:Int)))=H3 at sE3 x3 e3 ⊢;walk_at "go";refine⟨l,kvs,f,rfl,rdE sE3 nl hl,hk,λs0 H4 hs0 s4 d4=>?_⟩;have sE4:=sE3.trans (.of s4)
 have x4:=s4 _ _ x3
 have e4:=s4 _ _ e3
 have n0:=nin d4 x4 λ_=>nofun
 walk_at "go";refine⟨x,Z0,dx,_,rfl,x4,G.cl_Tower,G.na_Tower_stock_at_first,by show 2<1000;decide,?_⟩
 rw[cJY];have sE5:=sE4.put (o:=.ins Z0 dx (tw3 b' (m:Int) s0)) (Ak.mpr rfl)
 have x5:(upd H4 x (.ins Z0 dx (tw3 b' (m:Int) s0))) x=some (.ins Z0 dx (tw3 b' (m:Int) s0)):=aE
 have e5:(upd H4 x (.ins Z0 dx (tw3 b' (m:Int) s0))) b'=some (.lst xs):=by rw[aJ nx];exact e4
 have d5:(upd H4 x (.ins Z0 dx (tw3 b' (m:Int) s0))) s0=some (.dK (kvL (aK f) (bG (aK f) 27))):=by rw[aJ n0];exact d4
 generalize upd H4 x (.ins Z0 dx (tw3 b' (m:Int) s0))=H5 at sE5 x5 e5 d5 ⊢;walk_at "go";refine⟨l,kvs,f,rfl,rdE sE5 nl hl,hk,λst H6 hst s6 d6=>?_⟩;have sE6:=sE5.trans (.of s6)
 have x6:=s6 _ _ x5
 have e6:=s6 _ _ e5
 have d06:=s6 _ _ d5
 have n1:=nin d6 x6 λ_=>nofun
 walk_at "go";refine⟨x,Z0,dx,_,rfl,x6,G.cl_Tower,G.na_Tower_stock,by show 3<1000;decide,?_⟩
 rw[cJQ];have sE7:=sE6.put (o:=.ins Z0 dx (tw4 b' (m:Int) s0 st)) (Ak.mpr rfl)
 have x7:(upd H6 x (.ins Z0 dx (tw4 b' (m:Int) s0 st))) x=some (.ins Z0 dx (tw4 b' (m:Int) s0 st)):=aE
 have e7:(upd H6 x (.ins Z0 dx (tw4 b' (m:Int) s0 st))) b'=some (.lst xs):=by rw[aJ nx];exact e6
 have d07:(upd H6 x (.ins Z0 dx (tw4 b' (m:Int) s0 st))) s0=some (.dK (kvL (aK f) (bG (aK f) 27))):=by rw[aJ n0];exact d06
 have d17:(upd H6 x (.ins Z0 dx (tw4 b' (m:Int) s0 st))) st=some (.dK (kvL (aK f) (bG (aK f) 27))):=by rw[aJ n1];exact d6
 generalize upd H6 x (.ins Z0 dx (tw4 b' (m:Int) s0 st))=H7 at sE7 x7 e7 d07 d17 ⊢;walk_at "go";refine⟨by show 1<=sizeLine;decide,λp0 hp0=>?_⟩
 have k8:=aG hp0 (.lst [V.non])
 have e8:(upd H7 p0 (.lst [V.non])) p0=some (.lst [V.non]):=aE
 generalize upd H7 p0 (.lst [V.non])=H8 at k8 e8 ⊢;walk_at "go";refine⟨p0,_,[V.non],rfl,rfl,e8,by omega,by omega,by show 1*((m:Int)).toNat<=sizeLine;exact bP (by omega),λhg hhg=>?_⟩
 rw[aXI];have k9:=k8.trans (aG hhg (.lst (List.replicate m V.non)))
 have h9:(upd H8 hg (.lst (List.replicate m V.non))) hg=some (.lst (List.replicate m V.non)):=aE
 have hg7:H7 hg=none:=none_of k8 hhg
 generalize upd H8 hg (.lst (List.replicate m V.non))=H9 at k9 h9 ⊢;have x9:=k9 _ _ x7
 have n2:=nin h9 x9 λ_=>nofun
 have nin1:∀ {y:Addr},y≠x->y∉[x]:=λn z=>n (Ak.mp z)
 have hgH:=sE7.none (nin1 n2) hg7
 have stH:=sE5.none (nin1 n1) hst
 walk_at "go";refine⟨x,Z0,dx,_,rfl,x9,G.cl_Tower,G.na_Tower_hung,by show 4<1000;decide,?_⟩
 rw[dQE];have sE10:=(sE7.trans (.of k9)).put (o:=.ins Z0 dx (tw5 b' (m:Int) s0 st hg)) (Ak.mpr rfl)
 have x10:(upd H9 x (.ins Z0 dx (tw5 b' (m:Int) s0 st hg))) x=some (.ins Z0 dx (tw5 b' (m:Int) s0 st hg)):=aE
 have e10:(upd H9 x (.ins Z0 dx (tw5 b' (m:Int) s0 st hg))) b'=some (.lst xs):=by rw[aJ nx];exact k9 _ _ e7
 have d010:(upd H9 x (.ins Z0 dx (tw5 b' (m:Int) s0 st hg))) s0=some (.dK (kvL (aK f) (bG (aK f) 27))):=by rw[aJ n0];exact k9 _ _ d07
 have d110:(upd H9 x (.ins Z0 dx (tw5 b' (m:Int) s0 st hg))) st=some (.dK (kvL (aK f) (bG (aK f) 27))):=by rw[aJ n1];exact k9 _ _ d17
 have h10:(upd H9 x (.ins Z0 dx (tw5 b' (m:Int) s0 st hg))) hg=some (.lst (List.replicate m V.non)):=by rw[aJ n2];exact h9
 generalize upd H9 x (.ins Z0 dx (tw5 b' (m:Int) s0 st hg))=H10 at sE10 x10 e10 d010 d110 h10 ⊢;walk_at "go";refine⟨by decide,λdd hdd=>?_⟩
 have k11:=aG hdd (.lst [])
 have f11:(upd H10 dd (.lst [])) dd=some (.lst []):=aE
 have nhd:hg≠dd:=λz=>by rw[<-z,h10]at hdd;cases hdd
 have nbd:b'≠dd:=λz=>by rw[<-z,e10]at hdd;cases hdd
 have x11:=k11 _ _ x10
 have ndx:dd≠x:=λz=>by rw[z,x10]at hdd;cases hdd
 have ddH:=sE10.none (nin1 ndx) hdd
 generalize upd H10 dd (.lst [])=H11 at k11 f11 x11 ⊢;walk_at "go";refine⟨x,Z0,dx,_,rfl,x11,G.cl_Tower,G.na_Tower_deeds,by show 5<1000;decide,?_⟩
 rw[cJF];refine q b' s0 st hg dd _ hb' hgH ddH stH nhd nbd ((sE10.trans (.of k11)).put (Ak.mpr rfl)) aE ?_ ?_ ?_ ?_ ?_
 ·rw[aJ nx];exact k11 _ _ e10
 ·rw[aJ n0];exact k11 _ _ d010
 ·rw[aJ n1];exact k11 _ _ d110
 ·rw[aJ n2];exact k11 _ _ h10
 ·rw[aJ ndx];exact f11
def cQX(e:H p=some (.tup xs))(h:Q (.int (xs.length:Int)) H):L2.aXS [.ref p] H Q:=by
 have e1:rdL H p=none:=by unfold rdL;rw[e];rfl
 unfold L2.aXS;simp only[e1,cF e];exact h
def things:List (Str×Int):=[("haul",3),("lower",2),("lose",2),("find",2),("say",2)]
def gR(C aL aS aF:Addr):Sp:=λvs H Q E=>∃(a b s0 st hg dd dp dx:Addr) (m:Int) (z:Str) (zs ds:List V),vs=[.ref a,.ref dp]/\H a=some (.ins C dx (twF b m s0 st hg dd))/\H dp=some (.tup (.str z::zs))/\things.lookup z=some (((V.str z::zs).length:Nat):Int)/\H dd=some (.lst ds)/\ds.length<=1000/\
 ∀p0,H p0=none->dN aL aS aF [.ref b,.ref hg,.ref st,.ref dp] (upd H p0 (.tup [])) (λv H1=>∃(p hg' st':Addr),v=.ref p/\H1 p=some (.tup [.ref hg',.ref st'])/\H1 a=some (.ins C dx (twF b m s0 st hg dd))/\H1 dd=some (.lst ds)/\(∀ys,H1 a≠some (.lst ys))/\
  Q .non (upd (upd H1 a (.ins C dx (twF b m s0 st' hg' dd))) dd (.lst (ds++[.ref dp])))) E
def sc_Tower_do:FnScope ["self", "deed", "behind"] ["self", "deed"] (aM nM):=by walk_at "sc"
def aXD(F:Fun K "do" "Tower.do" nM f fd)(G:Gs K mg w Zs Zz Zt Zx Z0 Zv Zy Zw Zu)(c_behind_deed:jY P w K mg base 14 "behind_deed" ["book", "halyards", "locker", "deed"] (dN Zs Zt Zu)):FnOk P w K mg base (CXr P w) 15 f fd ["self", "deed"] (gR Z0 Zs Zt Zu):=by
 refine F.okX sc_Tower_do (λvs H Q E h=>?_) (λcdv A outer s H vs Q E hr h=>?_)
 ·obtain⟨a,b,s0,st,hg,dd,dp,dx,m,z,zs,ds,rfl,_⟩:=h;rfl
 obtain⟨a,b,s0,st,hg,dd,dp,dx,m,z,zs,ds,rfl,ha,hdp,hz,hdd,hds,q⟩:=h;refine⟨_,(@aD _ _ _ _ _ (bU (PW.pt (jR (aY (dJE hr.units0) (mv 1) (eG aB) (aW _)) (iC (aY aQL (dQC rfl G.d_THINGS_IN (aA (bE bS (mv 1) aI (λ_ _=>rfl)) aB)) (aU dG rfl G.b_len bY (aA (mv 1) aB)) (aW _))))) (@aH _ _ _ (lB fY rfl rfl rfl G.c_NoDeed G.x_NoDeed Ct (@bT _ _ _ _ _ _ aB))) bC) (@aD _ _ _ _ _ (aP 2 sc_Tower_do.nd (dE c_behind_deed cE hr (by decide) rfl (aA (pI (mv 0) rfl) (aA (pI (mv 0) rfl) (aA (pI (mv 0) rfl) (aA (mv 1) aB)))))) (@aD _ _ _ _ _ (lA (mv 0) (bE bS (mv 2) aI (λ_ _=>rfl)) rfl) (@aD _ _ _ _ _ (lA (mv 0) (bE bS (mv 2) aI (λ_ _=>rfl)) rfl) (@aH _ _ _ (cG (dA By Ed Ee aXH (pI (mv 0) rfl) (aA (mv 1) aB)))))))),?_⟩
 have tdp:=cF hdp
 walk_at "go";refine⟨by decide,λp0 hp0=>?_⟩
 have k1:=aG hp0 (.tup [])
 refine eXG (k1 _ _ hdp) aE ?_;have q0:=q p0 hp0
 have a1:=k1 _ _ ha
 have dp1:=k1 _ _ hdp
 have dd1:=k1 _ _ hdd
 generalize upd H p0 (.tup [])=H1 at k1 a1 dp1 dd1 q0 ⊢;have tdp1:=cF dp1
 walk_at "go";rw[show (V.str z::zs).isEmpty=false from rfl];walk_at "go";refine bX dp1 (v:=.str z) (aV (j:=0) rfl) ?_;walk_at "go";refine⟨z,rfl,?_⟩;rw[show List.lookup z [("haul",3),("lower",2),("lose",2),("find",2),("say",2)]=some (((V.str z::zs).length:Nat):Int) from hz];walk_at "go";refine cQX dp1 ?_;walk_at "go";rw[show (!decide ((((V.str z::zs).length:Nat):Int)=(((V.str z::zs).length:Nat):Int)))=false by rw[Aj rfl];rfl]
 walk_at "go";refine⟨a,Z0,dx,_,_,rfl,a1,G.cl_Tower,G.na_Tower_book,cJD,?_⟩;walk_at "go";refine⟨a,Z0,dx,_,_,rfl,a1,G.cl_Tower,G.na_Tower_hung,bQD,?_⟩;walk_at "go";refine⟨a,Z0,dx,_,_,rfl,a1,G.cl_Tower,G.na_Tower_stock,aQT,?_⟩;walk_at "go";refine dQG (λv H2 hv=>?_) q0;obtain⟨p,hg',st',rfl,ep,ea,edd,_,qq⟩:=hv;have nd:dd≠a:=λz=>by rw[z,ea]at edd;cases edd
 have np:p≠a:=λz=>by rw[z,ea]at ep;cases ep
 have up:∀o u,upd (upd H2 a o) a u=upd H2 a u:=λo u=>bQQ
 have tp2:=cF ep
 walk_at "go";refine bX ep (v:=.ref hg') (aV (j:=0) rfl) ?_;walk_at "go";refine⟨a,Z0,dx,_,rfl,ea,G.cl_Tower,G.na_Tower_hung,by show 6<1000;decide,?_⟩
 rw[zM];have a3:(upd H2 a (.ins Z0 dx (twF b m s0 st hg' dd))) a=some (.ins Z0 dx (twF b m s0 st hg' dd)):=aE
 have p3:(upd H2 a (.ins Z0 dx (twF b m s0 st hg' dd))) p=some (.tup [.ref hg',.ref st']):=by rw[aJ np];exact ep
 walk_at "go";refine bX p3 (v:=.ref st') (aV (j:=1) rfl) ?_;walk_at "go";refine⟨a,Z0,dx,_,rfl,a3,G.cl_Tower,G.na_Tower_stock,by show 6<1000;decide,?_⟩
 rw[zH,up];have a4:(upd H2 a (.ins Z0 dx (twF b m s0 st' hg' dd))) a=some (.ins Z0 dx (twF b m s0 st' hg' dd)):=aE
 have dd4:(upd H2 a (.ins Z0 dx (twF b m s0 st' hg' dd))) dd=some (.lst ds):=by rw[aJ nd];exact edd
 have md4:=bW dd4
 walk_at "go";refine⟨a,Z0,dx,_,_,rfl,a4,G.cl_Tower,G.na_Tower_deeds,cZ3,?_⟩;walk_at "go";exact qq
def eC(C:Addr):Sp:=λvs H Q _=>∃(a b s0 st hg dd dx:Addr) (m:Int) (kvs:List (Key×V)) (f:Nat->Option Int),vs=[.ref a]/\H a=some (.ins C dx (twF b m s0 st hg dd))/\Rd H st (.dK kvs)/\Lk kvs f/\∀(r:Addr) (H':Hp),H r=none->Same H H'->H' r=some (.dK (kvL (aK f) (bG (aK f) 27)))->Q (.ref r) H'
def rC:FnScope ["self"] ["self"] (aM gJ):=by walk_at "sc"
def rA(F:Fun K "locker" "Tower.locker" gJ f fd)(G:Gs K mg w Zs Zz Zt Zx Z0 Zv Zy Zw Zu)(c_plain_locker:Cal P w K mg base 1 "plain_locker" ["locker"] cM):FnOk P w K mg base CX0 2 f fd ["self"] (eC Z0):=by
 refine F.ok rC (λvs H Q E h=>?_) (λcdv A outer s H vs Q E hr h=>?_)
 ·obtain⟨a,b,s0,st,hg,dd,dx,m,kvs,f,rfl,_⟩:=h;rfl
 obtain⟨a,b,s0,st,hg,dd,dx,m,kvs,f,rfl,ha,hst,hk,q⟩:=h;refine⟨_,(@aH _ _ _ (aT (aZ c_plain_locker hr (by decide) rfl (aA (pI (mv 0) rfl) aB)))),?_⟩
 walk_at "go";refine⟨a,Z0,dx,_,_,rfl,ha,G.cl_Tower,G.na_Tower_stock,aQT,?_⟩;walk_at "go";exact⟨st,kvs,f,rfl,hst,hk,λr H' hr s' e=>q r H' hr s' e⟩
def eV(C:Addr):Sp:=λvs H Q _=>∃(a b s0 st hg dd dx:Addr) (m:Int) (us:List V) (hs:List (Option (List Nat))),vs=[.ref a]/\H a=some (.ins C dx (twF b m s0 st hg dd))/\rdL H hg=some us/\HalsAt H us hs/\us.length<=1000/\
 ∀(r:Addr) (us':List V) (H':Hp),H r=none->Same H H'->H' r=some (.lst us')->HalsAt H' us' hs->(∀p,V.ref p∈us'->H p=none)->Q (.ref r) H'
def nT:FnScope ["self"] ["self"] (aM fE):=by walk_at "sc"
def oZ(F:Fun K "halyards" "Tower.halyards" fE f fd)(G:Gs K mg w Zs Zz Zt Zx Z0 Zv Zy Zw Zu):FnOk P w K mg base CX0 1 f fd ["self"] (eV Z0):=by
 refine F.ok nT (λvs H Q E h=>?_) (λcdv A outer s H vs Q E hr h=>?_)
 ·obtain⟨a,b,s0,st,hg,dd,dx,m,us,hs,rfl,_⟩:=h;rfl
 obtain⟨a,b,s0,st,hg,dd,dx,m,us,hs,rfl,ha,hhg,hat,hul,q⟩:=h;refine⟨_,(@aH _ _ _ (aT (dB rfl (dD (pI (mv 0) rfl)) (oJ (N:=["hoist"]) (by decide +kernel) (by decide +kernel)) (by decide +kernel) rfl (by decide +kernel) (λ_ _ _ _=>(bH (i:=0) (show List.Nodup (["hoist"]:List Str) by decide +kernel) rfl (Or.inl rfl))) (λ_ _ _ _=>eP) (λ_ _ _ _=>(zU (aY aQ9 (mv 0) dS (aW _)) dS (bN lG rfl G.b_list eU (aA (mv 0) aB))))))),?_⟩
 walk_at "go";refine⟨a,Z0,dx,_,_,rfl,ha,G.cl_Tower,G.na_Tower_hung,bQD,?_⟩;walk_at "go";refine aJQ (hs:=hs) hhg (bK (by omega)) hat.len (λi x h Hc A B hx hh sm hA=>?_) (λD Hd vs hD sD hd hatD hfr=>?_)
 ·have hv:=(hat.keep sm).val i x h hx hh
  cases h with
  |none=>
   obtain rfl:x=V.non:=hv;walk_at "go";refine⟨Wk.set rfl (Wk.refl _),?_⟩;walk_at "go";rw[show decide (V.non=V.non)=true from rfl];walk_at "go";exact hA .non _ (Same.refl _) rfl λp z=>nomatch z
  |some cs=>
   obtain⟨pc,rfl,hpc⟩:=hv;have rc:=aR hpc
   walk_at "go";refine⟨Wk.set rfl (Wk.refl _),?_⟩;walk_at "go";rw[show decide (V.ref pc=V.non)=false from Aw (λz=>nomatch z)]
   walk_at "go";intro l2 hl2;exact hA (.ref l2) _ (aG hl2 _) ⟨l2,rfl,aE⟩ λp z=>by cases z;exact hl2
 ·exact q D vs Hd hD sD hd hatD hfr
def dZ0(y:Str)(zs:List Str):inV (.str y) (zs.map V.str)=decide (y∈zs):=by
 unfold inV;rw[List.any_map,Gd,List.any_eq_true,Bo];constructor
 ·rintro⟨z,hz,e⟩;have e':(z==y)=true:=e
  rw[<-eq_of_beq e'];exact hz
 ·intro h;exact⟨y,h,show (y==y)=true from Fv _⟩
def jD:Sp:=λvs H Q _=>∃c k:Int,vs=[.int c,.int k]/\0<=k/\k<=1000/\∀n:Int,0<=n->Q (.int n) H
def vO:Sp:=λvs H Q _=>∃n m:Int,vs=[.int n,.int m]/\0<=n/\1<=m/\m<=7/\∀(cw:List Nat) (H':Hp),Same H H'->1<=cw.length->(cw.length:Int)<=m->(∀d∈cw,aX d)->Q (.str (bA cw)) H'
def aZ3:FnScope ["_law_cell", "_law_k"] ["_law_cell", "_law_k"] (aM qJ):=by walk_at "sc"
def aZV(F:Fun K "_law_mixed" "_law_mixed" qJ f fd)(G:Gs K mg w Zs Zz Zt Zx Z0 Zv Zy Zw Zu):FnOk P w K mg base CX0 1 f fd ["_law_cell", "_law_k"] jD:=by
 refine F.ok aZ3 (λvs H Q E h=>?_) (λcdv A outer s H vs Q E hr h=>?_)
 ·obtain⟨c,k,rfl,_⟩:=h;rfl
 obtain⟨c,k,rfl,h0,h1,q⟩:=h;refine⟨_,(@aH _ _ _ (aT (aQ cV (aQ mF (aQ cB (aQ cB (aQ cB (aQ cV (mv 0) aI) (aQ mF (aQ mF aI (mv 1)) (mv 1))) (mv 1)) aI) aI) aI))),?_⟩;walk_at "go";exact q _ (Dg _ (by decide))
def sc_l_word:FnScope ["_law_number", "_law_most", "_law_letters", "_law_kinds", "_law_base", "_law_word_here", "_law_k"] ["_law_number", "_law_most"] (aM tE):=by walk_at "sc"
def bQ4(F:Fun K "_law_word" "_law_word" tE f fd)(G:Gs K mg w Zs Zz Zt Zx Z0 Zv Zy Zw Zu):FnOk P w K mg base CX0 1 f fd ["_law_number", "_law_most"] vO:=by
 refine F.ok sc_l_word (λvs H Q E h=>?_) (λcdv A outer s H vs Q E hr h=>?_)
 ·obtain⟨n,m,rfl,_⟩:=h;rfl
 obtain⟨n,m,rfl,h0,hm1,hm7,q⟩:=h;refine⟨_,(@aD _ _ _ _ _ (aP 2 sc_l_word.nd cW) (@aD _ _ _ _ _ (aP 3 sc_l_word.nd (@bE _ _ _ _ _ _ _ bS (@bR _ _ _ _ (aA aI (aA aI (aA aI (aA aI aB))))) (aQ cV (mv 0) aI) (λ_ _=>rfl))) (@aD _ _ _ _ _ (aP 4 sc_l_word.nd (aQ cV (aQ fS (mv 0) aI) aI)) (@aD _ _ _ _ _ (aP 5 sc_l_word.nd cW) (@aD _ _ _ _ _ (cI Bh rfl (lQ rfl G.b_range (aA (aQ cB aI (aQ cV (aQ fS (mv 0) aI) (mv 1))) aB)) (bH (i:=6) sc_l_word.nd rfl (Or.inl rfl)) (@aD _ _ _ _ _ (aP 0 sc_l_word.nd (aQ cV (aQ mF (aQ cB (aQ cB (mv 0) (mv 6)) aI) aI) aI)) (@aH _ _ _ (aP 5 sc_l_word.nd (aQ cB (mv 5) (bE bS (mv 2) (aQ cV (aQ cB (mv 4) (aQ mF (aQ cV (aQ fS (mv 0) aI) (mv 3)) aI)) aI) (λ_ _=>rfl))))))) (@aH _ _ _ (aT (mv 5)))))))),?_⟩;walk_at "go";refine⟨by decide,λp hp=>?_⟩
 walk_at "go";obtain⟨kn,hkn,akn⟩:=bQR (ns:=[1,2,3,23]) (i:=n%4) (by omega) (by show n%4<4;omega)
 have hk:1<=kn:=(by decide:∀x∈([1,2,3,23]:List Int),1<=x) kn hkn
 have hk2:kn<=23:=(by decide:∀x∈([1,2,3,23]:List Int),x<=23) kn hkn
 refine dF (xs:=([1,2,3,23]:List Int).map V.int) bO akn ?_;have z0:=Dg (n / 92) (show m≠0 by omega)
 have z1:=Dr (n / 92) (show 0<m by omega)
 walk_at "go";generalize n / 92%m=l at z0 z1 ⊢;refine⟨⟨by omega,by omega⟩,?_⟩
 have s1:Same H (upd H p (.lst [V.int 1,V.int 2,V.int 3,V.int 23])):=aG hp _
 generalize upd H p (.lst [V.int 1,V.int 2,V.int 3,V.int 23])=H1 at s1 ⊢;refine nW (λi σ H'=>∃(x:Int) (cw:List Nat) (v:Option V),σ=[some (.int x),some (.int m),some (.str (Str.ofString "abcdefghijklmnopqrstuvw")),some (.int kn),some (.int (n / 4%23)),some (.str (bA cw)),v]/\0<=x/\cw.length=i/\(∀d∈cw,aX d)/\H'=H1)
  ⟨n,[],none,rfl,h0,rfl,(λd hd=>nomatch hd),rfl⟩ ?_ ?_
 ·rintro i σ H' hi ⟨x,cw,v,rfl,hx0,hn,hL,rfl⟩;have hwl:(bA cw).length=cw.length:=cP cw
  walk_at "go";generalize (x+(0+(i:Int))+1)*69621%2147483647 / 7%kn*5=y;have y0:=Dg (n / 4%23+y) (show (23:Int)≠0 by decide)
  have y1:=Dr (n / 4%23+y) (show (0:Int)<23 by decide)
  have e1:=dQD (k:=((n / 4%23+y)%23).toNat) (by omega)
  rw[show ((((n / 4%23+y)%23).toNat:Nat):Int)=(n / 4%23+y)%23 by omega]at e1
  refine oQ (by decide) e1 ?_
  have h1l:(⟨#[97+((n / 4%23+y)%23).toNat]⟩:Str).length=1:=rfl
  walk_at "go";refine⟨(x+(0+(i:Int))+1)*69621%2147483647,cw++[97+((n / 4%23+y)%23).toNat],some (.int (0+(i:Int))),?_,Dg _ (show (2147483647:Int)≠0 by decide),by rw[Af,hn];rfl,λd hd=>?_,rfl⟩
  ·rw[<-lT];rfl
  ·rcases Bm.mp hd with z|z
   ·exact hL d z
   ·rw[Ak.mp z];exact⟨by omega,by omega⟩
 ·rintro σ H' ⟨x,cw,v,rfl,hx0,hn,hL,rfl⟩;walk_at "go";exact q cw _ s1 (by omega) (by omega) hL
def jE(K:W.Frag):Sp:=λvs H Q _=>∃(a:Addr) (ns:List Int) (k:Int),vs=[.ref a,.int k]/\SqL K H a (ns.map V.int)/\0<=k/\∀n:Int,Q (.int n) H
def yP:FnScope ["_law_script", "_law_k"] ["_law_script", "_law_k"] (aM kN):=by walk_at "sc"
def yV(F:Fun K "_law_cell_at" "_law_cell_at" kN f fd)(G:Gs K mg w Zs Zz Zt Zx Z0 Zv Zy Zw Zu):FnOk P w K mg base CX0 1 f fd ["_law_script", "_law_k"] (jE K):=by
 refine F.ok yP (λvs H Q E h=>?_) (λcdv A outer s H vs Q E hr h=>?_)
 ·obtain⟨a,ns,k,rfl,_⟩:=h;rfl
 obtain⟨a,ns,k,rfl,hS,hk,q⟩:=h;refine⟨_,(@aD _ _ _ _ _ (bU (aY zF (mv 1) (aU yI rfl G.b_len bY (aA (mv 0) aB)) (aW _)) (@aH _ _ _ (aT (bE ix_list (mv 0) (mv 1) (λ_ _=>rfl)))) bC) (@aH _ _ _ (aT aI))),?_⟩;walk_at "go";refine⟨_,_,rfl,.inl hS,?_⟩;have hnl:(ns.map V.int).length=ns.length:=Ab ..
 rw[hnl];walk_at "go";refine eW (λhd=>?_) (λhd=>?_)
 ·have hd':=Ba hd
  obtain⟨n,_,an⟩:=bQR (ns:=ns) (i:=k) hk hd';walk_at "go";exact eJO hS an (q n)
 ·walk_at "go";exact q 0
def jJ:Sp:=λvs H Q _=>∃(cs:List Nat),vs=[.str (bA cs)]/\1<=cs.length/\cs.length<=6/\(∀d∈cs,aX d)/\∀H',Same H H'->aX (ckL cs)->iU (cs++[ckL cs])=true->Q (.str (bA (cs++[ckL cs]))) H'
def bQ8:lZ (cs++[d]) (cs++[d]).length=lZ cs cs.length+((1+cs.length:Nat):Int)*((d-97:Nat):Int):=by
 rw[Af,show [d].length=1 from rfl,iL,nD (ds:=cs) (λi hi=>by rw[Ac,Aq hi,<-Ac])]
 rw[show (cs++[d]).getD cs.length 0=d by rw[Ac,Au (Ai _),Fg];rfl]
def eXT:Bool:=(List.range 23).all λi=>Txt.find lettersT ⟨#[97+i]⟩ == (i:Int)
def cX4:eXT=true:=by decide +kernel
def aXG(h:aX d):Txt.find lettersT (one d)=((d-97:Nat):Int):=by
 unfold aX at h;have a:=Dt.mp cX4 (d-97) (Bw.mpr (by omega))
 rw[show 97+(d-97)=d by omega]at a
 exact eq_of_beq a
def eQ0:Bool:=(List.range 23).all λi=>(Str.ofString "abcdefghijklmnopqrstuvw").cps.toList[i]? == some (97+i)
def cXD:eQ0=true:=by decide +kernel
def aZL{c:Nat}(h:i<23)(e:(Str.ofString "abcdefghijklmnopqrstuvw").cps.toList[i]?=some c):c=97+i:=by
 have a:=eq_of_beq (Dt.mp cXD i (Bw.mpr h))
 rw[e]at a;exact Bl a
def sc_l_checked:FnScope ["_law_word_here", "_law_letters", "_law_total", "_law_letter"] ["_law_word_here"] (aM gY):=by walk_at "sc"
def xN(F:Fun K "_law_checked" "_law_checked" gY f fd)(G:Gs K mg w Zs Zz Zt Zx Z0 Zv Zy Zw Zu):FnOk P w K mg base CX0 1 f fd ["_law_word_here"] jJ:=by
 refine F.ok sc_l_checked (λvs H Q E h=>?_) (λcdv A outer s H vs Q E hr h=>?_)
 ·obtain⟨cs,rfl,_⟩:=h;rfl
 obtain⟨cs,rfl,h1,h6,hL,q⟩:=h;refine⟨_,(@aD _ _ _ _ _ (aP 1 sc_l_checked.nd cW) (@aD _ _ _ _ _ (aP 2 sc_l_checked.nd (aU (cZ9 rfl) rfl G.b_sum aJC (aA (dB rfl (lQ rfl G.b_range (aA (aU dG rfl G.b_len bY (aA (mv 0) aB)) aB)) (jP (N:=["_law_k", "_law_letters", "_law_word_here"]) ["_law_word_here", "_law_letters", "_law_total", "_law_letter"] (aM gY) [none,some 1,some 0] rfl rfl rfl (λx h=>cS h) (by decide +kernel)) (by decide +kernel) rfl (by decide +kernel) (λ_ _ _ _=>(bH (i:=0) (show List.Nodup (["_law_k", "_law_letters", "_law_word_here"]:List Str) by decide +kernel) rfl (Or.inl rfl))) (λ_ _ _ _=>eP) (λ_ _ _ _=>(aQ mF (aQ cB (mv 0) aI) (dA Fh PySem.F.slot_str_find PySem.F.type_str_find cXY (mv 1) (aA (bE bS (mv 2) (mv 0) (λ_ _=>rfl)) aB))))) aB))) (@aD _ _ _ _ _ (cI Bh rfl (qI (mv 1)) (bH (i:=3) sc_l_checked.nd rfl (Or.inl rfl)) (@aH _ _ _ (bU (aY hJ (aQ cV (aQ cB (mv 2) (aQ mF (aQ cB (aU dG rfl G.b_len bY (aA (mv 0) aB)) aI) (dA Fh PySem.F.slot_str_find PySem.F.type_str_find cXY (mv 1) (aA (mv 3) aB)))) aI) aI (aW _)) (@aH _ _ _ (aT (aQ cB (mv 0) (mv 3)))) bC))) (@aH _ _ _ (aT (mv 0)))))),?_⟩
 have hwl:(bA cs).length=cs.length:=cP cs
 walk_at "go";rw[hwl];refine⟨⟨by omega,by omega⟩,?_⟩
 rw[show ((cs.length:Int)).toNat=cs.length from rfl];refine bXO (λi=>some (V.int (wgt cs i))) (bK (by omega)) (λi Hc A B hi sm hA=>?_) (λD Hd hD sD hd=>?_)
 ·have hg:=kM hL hi
  have r:A (V.int (wgt cs i)) Hc:=hA _ (Same.refl _)
  walk_at "go";refine⟨Wk.set rfl (Wk.refl _),?_⟩;walk_at "go";refine oQ (by rw[hwl];exact bP (by omega)) (lN (k:=i) (by omega) hi) ?_
  walk_at "go";refine cQG ?_;rw[show (⟨#[cs.getD i 0]⟩:Str)=one (cs.getD i 0) from rfl];rw[show Txt.find (Str.ofString "abcdefghijklmnopqrstuvw") (one (cs.getD i 0))=((cs.getD i 0-97:Nat):Int) from aXG hg];walk_at "go";rw[show (0+(i:Int)+1)*((cs.getD i 0-97:Nat):Int)=wgt cs i by unfold wgt;rw[show ((1+i:Nat):Int)=0+(i:Int)+1 by omega]]
  exact r
 ·have hd':Hd D=some (.lst (((List.range cs.length).map (wgt cs)).map V.int)):=by
   rw[hd,Cg];congr 2
   exact List.filterMap_eq_map (f:=λi=>V.int (wgt cs i))▸rfl
  walk_at "go";refine dZT (aR hd') (bJQ (by omega) hL) (by rw[Ab,Bt];omega) ?_
  rw[show ((List.range cs.length).map (wgt cs)).sum=lZ cs cs.length from rfl];obtain⟨d,hdl,hdv⟩:=zY (cs:=cs++[97]) (by rw[Af];show _+1<=_;omega) (k:=cs.length) (by rw[Af];show _<_+1;omega)
  rw[pB]at hdv;have ec:=dZU h6 hL hdl hdv
  rw[ec]at q;have q2:=q Hd sD hdl hdv
  have hd2:=hdl
  unfold aX at hd2;walk_at "go";refine aZ9 (λi σ H'=>∃v3,σ=[some (.str (bA cs)),some (.str (Str.ofString "abcdefghijklmnopqrstuvw")),some (.int (lZ cs cs.length)),v3]/\H'=Hd/\i<=d-97) ⟨_,rfl,rfl,Dc _⟩ ?_ ?_
  ·rintro i c σ H' hc ⟨v3,rfl,rfl,hid⟩;have hi23:i<23:=by have:=(Ad.mp hc).1;exact this
   have hcc:c=97+i:=aZL hi23 hc
   subst hcc;have hic:aX (97+i):=⟨by omega,by omega⟩
   have r:=wB h6 hL hdl hdv hic
   unfold iU at r;rw[bQ8,show 97+i-97=i by omega]at r
   walk_at "go";rw[hwl];refine cQG ?_;rw[show Txt.find (Str.ofString "abcdefghijklmnopqrstuvw") ⟨#[97+i]⟩=((97+i-97:Nat):Int) from aXG hic,show 97+i-97=i by omega]
   walk_at "go";rw[show ((1+cs.length:Nat):Int)=(cs.length:Int)+1 by omega]at r
   rw[r];refine eW (λhc=>?_) (λhc=>?_)
   ·have hc':=Ba hc
    have h1l:(⟨#[97+i]⟩:Str).length=1:=rfl
    walk_at "go";rw[show bA cs++⟨#[97+i]⟩=bA (cs++[97+i]) from lT cs (97+i),hc'];exact q2
   ·have hc':=Bp (Bq.mpr hc)
    walk_at "go";exact⟨_,rfl,rfl,by omega⟩
  ·rintro σ H' ⟨v3,rfl,rfl,hid⟩;exact absurd (show 23<=d-97 from hid) (by omega)
def rY{ss:List Str}{i:Int}(h0:0<=i)(h1:i<(ss.length:Int)):∃z,z∈ss/\atI (ss.map V.str) i=some (.str z):=by
 obtain⟨k,rfl⟩:∃k:Nat,i=(k:Int):=⟨i.toNat,by omega⟩
 have hk:k<ss.length:=by omega
 exact⟨ss[k],Ca _,aV (by rw[Ah,Aa hk];rfl)⟩
def vR:Sp:=λvs H Q _=>∃(a:Addr) (ns:List Int),vs=[.ref a]/\rdL H a=some (ns.map V.int)/\ns.length<=7/\
 ∀(r:Addr) (bk:List (Str×Str)) (cws:Q5) (H':Hp),H r=none->Same H H'->BkAt H' r bk->aQ3 bk cws->cws.Nodup->1<=bk.length->bk.length<=8->Q (.ref r) H'
def sc_l_book:FnScope ["_law_cells", "_law_terms", "_law_book_here", "_law_k", "_law_cell", "_law_number", "_law_word_here", "_law_meaning"] ["_law_cells"] (aM tH):=by walk_at "sc"
def bZF(F:Fun K "_law_book" "_law_book" tH f fd)(G:Gs K mg w Zs Zz Zt Zx Z0 Zv Zy Zw Zu)(c_l_mixed:Cal P w K mg base 1 "_law_mixed" ["_law_cell", "_law_k"] jD)(c_l_word:Cal P w K mg base 1 "_law_word" ["_law_number", "_law_most"] vO):FnOk P w K mg base CX0 2 f fd ["_law_cells"] vR:=by
 refine F.ok sc_l_book (λvs H Q E h=>?_) (λcdv A outer s H vs Q E hr h=>?_)
 ·obtain⟨a,ns,rfl,_⟩:=h;rfl
 obtain⟨a,ns,rfl,hns,h7,q⟩:=h;refine⟨_,(@aD _ _ _ _ _ (aP 1 sc_l_book.nd (@bR _ _ _ _ (@bT _ _ _ _ _ _ (@bT _ _ _ _ _ _ (@bT _ _ _ _ _ _ (@bT _ _ _ _ _ _ (@bT _ _ _ _ _ _ aB))))))) (@aD _ _ _ _ _ (aP 2 sc_l_book.nd (bR (aA (eG (@bT _ _ _ _ _ _ (@bT _ _ _ _ _ _ aB))) aB))) (@aD _ _ _ _ _ (cI Bh rfl (jG rfl G.b_enumerate (aA (mv 0) aB)) (dQ (K:=K) (i:=3) (j:=4) (by rfl) (by rfl) sc_l_book.nd (by rfl) (by exact(Or.inl rfl)) (by exact Or.inl rfl) (by rfl) (by exact(Or.inl rfl)) (by exact Or.inl rfl)) (@aD _ _ _ _ _ (aP 5 sc_l_book.nd (aZ c_l_mixed hr (by decide) rfl (aA (mv 4) (aA (mv 3) aB)))) (@aD _ _ _ _ _ (aP 6 sc_l_book.nd (aZ c_l_word hr (by decide) rfl (aA (mv 5) (aA aI aB)))) (@aD _ _ _ _ _ (aP 7 sc_l_book.nd (bE bS (mv 1) (aQ cV (aQ fS (mv 5) aI) aI) (λ_ _=>rfl))) (@aD _ _ _ _ _ (bU (aY hJ (aQ cV (aQ fS (mv 5) aI) aI) aI (aW _)) (@aH _ _ _ (aP 7 sc_l_book.nd (aQ cB (aQ cB (mv 7) cW) (bE bS (mv 1) (aQ cV (aQ fS (mv 5) aI) aI) (λ_ _=>rfl))))) bC) (@aH _ _ _ (bU (PW.pt (qB (aY uA (mv 6) (dB rfl (dD (mv 2)) (oJ (N:=["_law_page"]) (by decide +kernel) (by decide +kernel)) (by decide +kernel) rfl (by decide +kernel) (λ_ _ _ _=>(bH (i:=0) (show List.Nodup (["_law_page"]:List Str) by decide +kernel) rfl (Or.inl rfl))) (λ_ _ _ _=>eP) (λ_ _ _ _=>(bE bS (mv 0) aI (λ_ _=>rfl)))) (by rfl)) (lM (aY uA (mv 7) (dB rfl (dD (mv 2)) (oJ (N:=["_law_page"]) (by decide +kernel) (by decide +kernel)) (by decide +kernel) rfl (by decide +kernel) (λ_ _ _ _=>(bH (i:=0) (show List.Nodup (["_law_page"]:List Str) by decide +kernel) rfl (Or.inl rfl))) (λ_ _ _ _=>eP) (λ_ _ _ _=>(bE bS (mv 0) aI (λ_ _=>rfl)))) (by rfl))))) (@aH _ _ _ (cG (dA By Ed Ee aXH (mv 2) (aA (eG (aA (mv 6) (aA (mv 7) aB))) aB)))) bC))))))) (@aH _ _ _ (aT (mv 2)))))),?_⟩
 walk_at "go";refine⟨by show 5<=sizeLine;decide,λrt hrt=>?_⟩
 have k1:=aG hrt (.lst ((["sail", "fog", "wind", "calm", "x"]:List Str).map V.str))
 have e1:rdL (upd H rt (.lst ((["sail", "fog", "wind", "calm", "x"]:List Str).map V.str))) rt=some ((["sail", "fog", "wind", "calm", "x"]:List Str).map V.str):=bO
 change pC 1 (V.ref rt) _ (upd H rt (.lst ((["sail", "fog", "wind", "calm", "x"]:List Str).map V.str))) _
 have htl:(["sail", "fog", "wind", "calm", "x"]:List Str).length=5:=rfl
 have hts:∀z∈(["sail", "fog", "wind", "calm", "x"]:List Str),z.length<=10:=by decide +kernel
 generalize (["sail", "fog", "wind", "calm", "x"]:List Str)=ts at k1 e1 htl hts ⊢;generalize upd H rt (.lst (ts.map V.str))=H1 at k1 e1 ⊢;walk_at "go";refine⟨by show 2<=sizeLine;decide,λp2 hp2=>?_⟩
 have k2:=aG hp2 (.tup [V.str (Str.ofString "ab"),V.str (Str.ofString "sail")])
 have t2:(upd H1 p2 (.tup [V.str (Str.ofString "ab"),V.str (Str.ofString "sail")])) p2=some (.tup [V.str (Str.ofString "ab"),V.str (Str.ofString "sail")]):=aE
 generalize upd H1 p2 (.tup [V.str (Str.ofString "ab"),V.str (Str.ofString "sail")])=H2 at k2 t2 ⊢;walk_at "go";refine⟨by show 1<=sizeLine;decide,λrb hrb=>?_⟩
 have nrt:rt≠rb:=λz=>by
  have:=aO k2 e1
  rw[z]at this;unfold rdL at this;rw[hrb]at this;cases this
 have k3:=aG hrb (.lst [V.ref p2])
 have e3:BkAt (upd H2 rb (.lst [V.ref p2])) rb [(Str.ofString "ab",Str.ofString "sail")]:=⟨[p2],aE,rfl,λj p b hp hb=>by
  match j,hp,hb with
  |0,hp,hb=>cases hp;cases hb;exact k3 _ _ t2
  |j+1,hp,_=>cases hp⟩
 have s03:=k1.trans (k2.trans k3)
 have hrbH:H rb=none:=none_of (k1.trans k2) hrb
 have et3:=aO (k2.trans k3) e1
 generalize upd H2 rb (.lst [V.ref p2])=H3 at k3 e3 s03 et3 ⊢;have hns3:=aO s03 hns
 walk_at "go";refine jA (xs:=ns.map V.int) (λi σ H'=>∃(bk:List (Str×Str)) (cws:Q5) (v3 v4 v5 v6 v7:Option V),σ=[some (.ref a),some (.ref rt),some (.ref rb),v3,v4,v5,v6,v7]/\Same H H'/\rdL H' rt=some (ts.map V.str)/\BkAt H' rb bk/\aQ3 bk cws/\cws.Nodup/\1<=bk.length/\bk.length<=1+i)
  ⟨_,[[97,98]],_,_,_,_,_,rfl,s03,et3,e3,⟨rfl,λj b cw hb hc=>by
   match j,hb,hc with
   |0,hb,hc=>cases hb;cases hc;exact⟨rfl,by decide,by decide,by unfold aX;decide⟩
   |j+1,hb,_=>cases hb⟩,by simp,Nat.le_refl _,Nat.le_refl _⟩ (λi σ H' _ ⟨_,_,_,_,_,_,_,_,e,_⟩=>aO e hns) ?_ ?_
 ·rintro i x σ H4 pe hx ⟨bk,cws,v3,v4,v5,v6,v7,rfl,s4,et4,hbk,hcw,hnd,hb1,hbl⟩ hpe;have hi:i<7:=by have:=(Ad.mp hx).1;rw[Ab]at this;omega
  obtain⟨c,_,rfl⟩:=aZ4 hx;have k5:=aG hpe (.tup [V.int ((0+i:Nat):Int),V.int c])
  have te5:(upd H4 pe (.tup [V.int ((0+i:Nat):Int),V.int c])) pe=some (.tup [V.int ((0+i:Nat):Int),V.int c]):=aE
  have s5:=s4.trans k5
  have et5:=aO k5 et4
  obtain⟨qs,b1,b2,b3⟩:=id hbk;generalize upd H4 pe (.tup [V.int ((0+i:Nat):Int),V.int c])=H5 at k5 te5 s5 et5 ⊢;have tt5:=cF te5
  walk_at "go";refine⟨c,_,rfl,by omega,by omega,λN hN=>?_⟩
  walk_at "go";refine⟨N,6,rfl,hN,by decide,by decide,λcw H6 s6 hc1 hc6 hcL=>?_⟩
  have y0:=Dg (N / 5) (show (5:Int)≠0 by decide)
  have y1:=Dr (N / 5) (show (0:Int)<5 by decide)
  have et6:=aO s6 et5
  walk_at "go";obtain⟨z1,hz1,az1⟩:=rY (ss:=ts) y0 (by rw[htl];exact y1)
  have hzl:=hts z1 hz1
  refine dF et6 az1 ?_;have s06:=s5.trans s6
  have hbk6:BkAt H6 rb bk:=⟨qs,(k5.trans s6) _ _ b1,b2,λj p b hp hb=>(k5.trans s6) _ _ (b3 j p b hp hb)⟩
  walk_at "gs"
  with_reducible refine aX4 (λσ' H'=>∃z:Str,σ'=[some (.ref a),some (.ref rt),some (.ref rb),some (.int ((0+i:Nat):Int)),some (.int c),some (.int N),some (.str (bA cw)),some (.str z)]/\z.length<=30/\H'=H6) (λσ' H' j7=>?_) (λM hM=>?_)
  ·obtain⟨z,rfl,hz,rfl⟩:=j7;obtain⟨qs',c1,c2,c3⟩:=id hbk6;have rq:=aR c1
   have hql:(qs'.map V.ref).length=bk.length:=by rw[Ab,c2]
   have words:bk.map (·.1)=cws.map bA:=by
    refine List.ext_getElem (by rw[Ab,Ab,hcw.1]) λj j1 j2=>?_
    rw[Ab]at j1 j2;rw[Gw,Gw];exact(hcw.2 j _ _ (Aa j1) (Aa j2)).1
   walk_at "go";refine oR (xs:=qs'.map V.ref) (λj=>(bk[j]?).map λb=>V.str b.1) rq (by rw[hql];exact bK (by omega)) (λj x Hc A B hx sm hA hB=>?_) (λD Hd hD sD hd=>?_)
   ·rw[Ah]at hx;obtain⟨p,ep,rfl⟩:=Cu.mp hx;have hjb:j<bk.length:=by rw[<-c2];exact(Ad.mp ep).1
    have eb:=Aa hjb
    have tp:=sm _ _ (c3 j p _ ep eb)
    walk_at "go";refine⟨Wk.set rfl (Wk.refl _),?_⟩;walk_at "go";exact bX tp (v:=.str bk[j].1) (aV (j:=0) rfl) (hA _ (by rw[eb];rfl) _ (Same.refl _))
   rw[hql,jM (λb:Str×Str=>V.str b.1),show bk.map (λb=>V.str b.1)=(bk.map (·.1)).map V.str by rw[Cg];rfl]at hd
   refine cXE (neg:=true) (aR hd) rfl (fL _) ?_;rw[if_pos rfl,dZ0];have keep:∀H9,Same H' H9->rdL H9 rt=some (ts.map V.str)/\BkAt H9 rb bk:=λH9 k=>⟨aO k et6,⟨qs',k _ _ c1,c2,λj p b hp hb=>k _ _ (c3 j p b hp hb)⟩⟩
   by_cases hw:bA cw∈bk.map (·.1)
   ·rw[Aj hw];walk_at "go";exact⟨bk,cws,_,_,_,_,_,rfl,s06.trans sD,(keep _ sD).1,(keep _ sD).2,hcw,hnd,hb1,by omega⟩
   ·rw[Aw hw];have rqD:=aO sD rq
    walk_at "go";refine oR (xs:=qs'.map V.ref) (λj=>(bk[j]?).map λb=>V.str b.2) rqD (by rw[hql];exact bK (by omega)) (λj x Hc A B hx sm hA hB=>?_) (λD2 Hd2 hD2 sD2 hd2=>?_)
    ·rw[Ah]at hx;obtain⟨p,ep,rfl⟩:=Cu.mp hx;have hjb:j<bk.length:=by rw[<-c2];exact(Ad.mp ep).1
     have eb:=Aa hjb
     have tp:=sm _ _ (sD _ _ (c3 j p _ ep eb))
     walk_at "go";refine⟨Wk.set rfl (Wk.refl _),?_⟩;walk_at "go";exact bX tp (v:=.str bk[j].2) (aV (j:=1) rfl) (hA _ (by rw[eb];rfl) _ (Same.refl _))
    rw[hql,jM (λb:Str×Str=>V.str b.2),show bk.map (λb=>V.str b.2)=(bk.map (·.2)).map V.str by rw[Cg];rfl]at hd2
    refine cXE (neg:=true) (aR hd2) rfl (fL _) ?_;rw[if_pos rfl,dZ0];have s62:=sD.trans sD2
    by_cases hm:z∈bk.map (·.2)
    ·rw[Aj hm];walk_at "go";exact⟨bk,cws,_,_,_,_,_,rfl,s06.trans s62,(keep _ s62).1,(keep _ s62).2,hcw,hnd,hb1,by omega⟩
    ·rw[Aw hm];have c1':=s62 _ _ c1
     walk_at "go";refine⟨by show 2<=sizeLine;decide,λpt hpt=>?_⟩
     have k8:=aG hpt (.tup [.str (bA cw),.str z])
     have t8:(upd Hd2 pt (.tup [.str (bA cw),.str z])) pt=some (.tup [.str (bA cw),.str z]):=aE
     have s68:=s62.trans k8
     have c18:=k8 _ _ c1'
     have et8:=(keep _ s68).1
     have c38:∀(j:Nat) p b,qs'[j]?=some p->bk[j]?=some b->(upd Hd2 pt (.tup [.str (bA cw),.str z])) p=some (.tup [.str b.1,.str b.2]):=λj p b hp hb=>s68 _ _ (c3 j p b hp hb)
     generalize upd Hd2 pt (.tup [.str (bA cw),.str z])=H8 at k8 t8 s68 c18 et8 c38 ⊢;have m8:=bW c18
     walk_at "go";have ne:∀p xs,H8 p=some (.tup xs)->p≠rb:=λp xs e z=>by rw[z,c18]at e;cases e
     refine⟨bk++[(bA cw,z)],cws++[cw],_,_,_,_,_,rfl,bM hrbH (s06.trans s68),?_,?_,?_,?_,by rw[Af];omega,by rw[Af];show _+1<=_;omega⟩
     ·rw[aZN nrt];exact et8
     ·refine⟨qs'++[pt],by rw[aE,Ar];rfl,by rw[Af,Af,c2];rfl,λj p b hp hb=>?_⟩
      rcases Nat.lt_or_ge j qs'.length with zz|zz
      ·rw[Aq zz]at hp;rw[Aq (by omega)]at hb
       have:=c38 j p b hp hb
       rw[aJ (ne _ _ this)];exact this
      ·rw[Au zz]at hp;rw[Au (by omega)]at hb
       have w1:=(Ad.mp hp).1
       have eu:j-qs'.length=0:=by have:j-qs'.length<1:=w1;omega
       have ev:j-bk.length=0:=by omega
       rw[eu]at hp;rw[ev]at hb;cases hp;cases hb;rw[aJ (ne _ _ t8)];exact t8
     ·refine⟨by rw[Af,Af,hcw.1];rfl,λj b cw' hb hc=>?_⟩
      have hcl:=hcw.1
      rcases Nat.lt_or_ge j bk.length with zz|zz
      ·rw[Aq zz]at hb;rw[Aq (by omega)]at hc
       exact hcw.2 j b cw' hb hc
      ·rw[Au zz]at hb;rw[Au (by omega)]at hc
       have w1:=(Ad.mp hb).1
       have eu:j-bk.length=0:=by have:j-bk.length<1:=w1;omega
       have ev:j-cws.length=0:=by omega
       rw[eu]at hb;rw[ev]at hc;cases hb;cases hc;exact⟨rfl,hc1,by omega,hcL⟩
     ·rw[words]at hw;refine List.nodup_append.mpr ⟨hnd,by simp,λu hu v hv e=>?_⟩
      rw[Ak.mp hv]at e;exact hw (Bg.mpr ⟨u,hu,by rw[e]⟩)
  ·walk_at "go";refine eW (λhg=>?_) (λhg=>?_)
   ·have w0:=Dg (N / 50) (show (5:Int)≠0 by decide)
    have w1:=Dr (N / 50) (show (0:Int)<5 by decide)
    obtain⟨z2,hz2,az2⟩:=rY (ss:=ts) w0 (by rw[htl];exact w1)
    have hzl2:=hts z2 hz2
    have hsp:(Str.ofString " ").length=1:=rfl
    have hl1:(z1++Str.ofString " ").length=z1.length+1:=by rw[Str.length_append];rfl
    walk_at "go";refine dF et6 az2 ?_;walk_at "go";exact hM _ _ ⟨_,rfl,by rw[Str.length_append,hl1];omega,rfl⟩
   ·walk_at "go";exact hM _ _ ⟨z1,rfl,by omega,rfl⟩
 ·rintro σ H4 ⟨bk,cws,v3,v4,v5,v6,v7,rfl,s4,et4,hbk,hcw,hnd,hb1,hbl⟩;rw[Ab]at hbl;walk_at "go";exact q rb bk cws H4 hrbH s4 hbk hcw hnd hb1 (by omega)
def cZ1(kvs:List (Key×V))(k:Key)(v:V):1<=(dL kvs k v).length:=by
 cases e:dL kvs k v with
 |nil=>
  have h:=zZ kvs k k v
  rw[e,if_pos rfl]at h;cases h
 |cons x l=>rw[Ax];omega
def tO:Sp:=λvs H Q _=>∃(c:Int) (b:Addr) (bk:List (Str×Str)) (cws:List (List Nat)),vs=[.int c,.ref b]/\BkAt H b bk/\aQ3 bk cws/\bk.length<=8/\
 ∀(p:Addr) (kvs:List (Key×V)) (f:Nat->Option Int) (H':Hp),H p=none->Same H H'->H' p=some (.dK kvs)->Lk kvs f->(∀c,0<=aK f c/\aK f c<=9)->FlOnly f->1<=kvs.length->Q (.ref p) H'
def sc_l_flags:FnScope ["_law_cell", "_law_book_here", "_law_number", "_law_most", "_law_locker", "_law_flag"] ["_law_cell", "_law_book_here"] (aM pL):=by walk_at "sc"
def aZ6(F:Fun K "_law_flags" "_law_flags" pL f fd)(G:Gs K mg w Zs Zz Zt Zx Z0 Zv Zy Zw Zu)(c_l_mixed:Cal P w K mg base 1 "_law_mixed" ["_law_cell", "_law_k"] jD)(c_l_checked:Cal P w K mg base 1 "_law_checked" ["_law_word_here"] jJ):FnOk P w K mg base CX0 2 f fd ["_law_cell", "_law_book_here"] tO:=by
 refine F.ok sc_l_flags (λvs H Q E h=>?_) (λcdv A outer s H vs Q E hr h=>?_)
 ·obtain⟨c,b,bk,cws,rfl,_⟩:=h;rfl
 obtain⟨c,b,bk,cws,rfl,hbk,hcw,h8,q⟩:=h;refine⟨_,(@aD _ _ _ _ _ (aP 2 sc_l_flags.nd (aZ c_l_mixed hr (by decide) rfl (aA (mv 0) (aA aI aB)))) (@aD _ _ _ _ _ (aP 3 sc_l_flags.nd (aQ cB aI (aQ cV (mv 2) aI))) (@aD _ _ _ _ _ (aP 4 sc_l_flags.nd sW) (@aD _ _ _ _ _ (cI Bh rfl (qI (aQ cB (dA Fh PySem.F.slot_str_join PySem.F.type_str_join dJQ cW (aA (dB rfl (dD (mv 1)) (oJ (N:=["_law_page"]) (by decide +kernel) (by decide +kernel)) (by decide +kernel) rfl (by decide +kernel) (λ_ _ _ _=>(bH (i:=0) (show List.Nodup (["_law_page"]:List Str) by decide +kernel) rfl (Or.inl rfl))) (λ_ _ _ _=>eP) (λ_ _ _ _=>(aZ c_l_checked hr (by decide) rfl (aA (bE bS (mv 0) aI (λ_ _=>rfl)) aB)))) aB)) cW)) (bH (i:=5) sc_l_flags.nd rfl (Or.inl rfl)) (@aD _ _ _ _ _ (aP 2 sc_l_flags.nd (aQ cV (aQ mF (aQ cB (mv 2) aI) aI) aI)) (@aH _ _ _ (eT (Room.u1 hr) (mv 4) (mv 5) (aQ cV (aQ fS (mv 2) aI) (aQ cB (mv 3) aI)) rfl)))) (@aH _ _ _ (aT (mv 4))))))),?_⟩
 obtain⟨qs,b1,b2,b3⟩:=id hbk;have hql:(qs.map V.ref).length=bk.length:=by rw[Ab,b2]
 walk_at "go";refine⟨c,90,rfl,by omega,by omega,λn hn=>?_⟩
 have y0:=Dg n (show (8:Int)≠0 by decide)
 have y1:=Dr n (show (0:Int)<8 by decide)
 walk_at "go";generalize n%8=n9 at y0 y1 ⊢;intro pd hpd;have s1:=aG hpd (HO.dK [])
 have e1:(upd H pd (HO.dK [])) pd=some (.dK []):=aE
 generalize upd H pd (HO.dK [])=H1 at s1 e1 ⊢;have rq:=aR (s1 _ _ b1)
 walk_at "go";refine oR (xs:=qs.map V.ref) (λj=>(cws[j]?).map λcw=>V.str (bA (cw++[ckL cw]))) rq (by rw[hql];exact bK (by omega)) (λj x Hc A B hx sm hA hB=>?_) (λD Hd hD sD hd=>?_)
 ·rw[Ah]at hx;obtain⟨p,ep,rfl⟩:=Cu.mp hx;have hjb:j<bk.length:=by rw[<-b2];exact(Ad.mp ep).1
  have ec:cws[j]?=some (cws[j]'(by rw[hcw.1];exact hjb)):=Aa _
  obtain⟨hw,hc1,hc6,hcL⟩:=hcw.2 j _ _ (Aa hjb) ec;have tp:=sm _ _ (s1 _ _ (b3 j p _ ep (Aa hjb)))
  rw[hw]at tp;walk_at "go";refine⟨Wk.set rfl (Wk.refl _),?_⟩;walk_at "go";refine bX tp (v:=.str (bA (cws[j]'(by rw[hcw.1];exact hjb)))) (aV (j:=0) rfl) ?_
  walk_at "go";exact⟨_,rfl,hc1,hc6,hcL,λH' s' _ _=>hA _ (by rw[ec];rfl) H' s'⟩
 rw[hql,<-hcw.1,jM (λcw=>V.str (bA (cw++[ckL cw]))),show cws.map (λcw=>V.str (bA (cw++[ckL cw])))=((cws.map λcw=>cw++[ckL cw]).map bA).map V.str by rw[Cg,Cg];rfl]at hd
 have h7:∀c∈cws.map (λcw=>cw++[ckL cw]),c.length<=7:=λc hc=>by
  obtain⟨cw,hm,rfl⟩:=Bg.mp hc;obtain⟨j,hj⟩:=Dz.mp hm;have hjl:=(Ad.mp hj).1
  have:=(hcw.2 j _ _ (Aa (by rw[<-hcw.1];exact hjl)) hj).2.2.1
  rw[Af];show _+1<=7
  omega
 have hLL:∀c∈cws.map (λcw=>cw++[ckL cw]),∀d∈c,aX d:=λc hc d hd=>by
  obtain⟨cw,hm,rfl⟩:=Bg.mp hc;obtain⟨j,hj⟩:=Dz.mp hm;have hjl:=(Ad.mp hj).1
  have hh:=(hcw.2 j _ _ (Aa (by rw[<-hcw.1];exact hjl)) hj).2.2
  rcases Bm.mp hd with z|z
  ·exact hh.2 d z
  ·rw[Ak.mp z];exact(eZY hh.1 hh.2).1
 have h8:(cws.map (λcw=>cw++[ckL cw])).length<=8:=by rw[Ab,hcw.1];exact h8
 generalize cws.map (λcw=>cw++[ckL cw])=cws at hd h7 h8 hLL;have hb1:=aR hd
 have e1:=sD _ _ e1
 have s1:=s1.trans sD
 have hw7:∀z∈cws.map bA,z.length<=7:=λz hz=>by
  obtain⟨c,hc,rfl⟩:=Bg.mp hz;rw[cP];exact h7 c hc
 have hjl:(Txt.join (Str.ofString "") (cws.map bA)).length<=56:=by
  have:=dQZ (sep:=Str.ofString "") (n:=7) (L:=cws.map bA) hw7
  rw[Ab,show (Str.ofString "").length=0 from rfl]at this;omega
 have hsum:((cws.map bA).map (·.length)).sum<=7*(cws.map bA).length:=by
  generalize cws.map bA=L at hw7;induction L with
  |nil=>exact Ai _
  |cons u v ih=>
   have h1:=hw7 u Al
   have h2:=ih λx hx=>hw7 x (Am _ hx)
   rw[As,Cq,Ax];omega
 rw[Ab]at hsum;walk_at "go";refine eQ3 (ss:=cws.map bA) hb1 (by rw[show (Str.ofString "").length=0 from rfl];omega) ?_
 have h12:(Str.ofString "1234aw").length=6:=rfl
 walk_at "go";have htl:(Txt.join (Str.ofString "") (cws.map bA)++Str.ofString "1234aw").length<=62:=by rw[Str.length_append];omega
 have hcps:(Txt.join (Str.ofString "") (cws.map bA)).cps.toList=cws.flatten:=by
  have:=FlT.join_cps (cws.map bA)
  rw[Cg]at this;have e2:cws.map ((λy:Str=>y.cps.toList) ∘ bA)=cws:=(Do λc _=>show (bA c).cps.toList=c from rfl).trans (List.map_id cws)
  rw[e2]at this;exact this
 have hzf:∀d∈(Txt.join (Str.ofString "") (cws.map bA)++Str.ofString "1234aw").cps.toList,cY d:=λd hd=>by
  rw[show (Txt.join (Str.ofString "") (cws.map bA)++Str.ofString "1234aw").cps.toList=cws.flatten++[49,50,51,52,97,119] by rw[<-hcps];exact Array.toList_append]at hd
  rcases Bm.mp hd with z|z
  ·obtain⟨l,h1,h2⟩:=List.mem_flatten.mp z;exact .inl (hLL l h1 d h2)
  ·exact(show ∀d∈[49,50,51,52,97,119],cY d by unfold cY;decide) d z
 have hz1:1<=(Txt.join (Str.ofString "") (cws.map bA)++Str.ofString "1234aw").cps.toList.length:=by
  rw[show (Txt.join (Str.ofString "") (cws.map bA)++Str.ofString "1234aw").cps.toList=cws.flatten++[49,50,51,52,97,119] by rw[<-hcps];exact Array.toList_append,Af]
  show 1<=_+6
  omega
 generalize Txt.join (Str.ofString "") (cws.map bA)++Str.ofString "1234aw"=zz at htl hzf hz1 ⊢;refine aZ9 (λi σ H'=>∃(n':Int) (kvs:List (Key×V)) (f:Nat->Option Int) (v5:Option V),σ=[some (.int c),some (.ref b),some (.int n'),some (.int (1+n9)),some (.ref pd),v5]/\0<=n'/\Same H H'/\H' pd=some (.dK kvs)/\Lk kvs f/\kvs.length<=i/\FlOnly f/\(1<=i->1<=kvs.length)/\∀c,0<=aK f c/\aK f c<=9)
  ⟨n,[],_,_,rfl,hn,s1,e1,.nil,Ai _,(λc hc=>nomatch hc),(λh=>absurd h (by decide)),λc=>⟨Hb _,(by decide:(0:Int)<=9)⟩⟩ ?_ ?_
 ·rintro i d σ H2 hd ⟨n',kvs,f,v5,rfl,hn',s2,e2,lk,hkl,hfo,h1k,hf⟩;have hi':i<62:=by have:=(Ad.mp hd).1;rw[fD]at this;omega
  have x0:=Dg ((n'+11)*69621) (show (2147483647:Int)≠0 by decide)
  walk_at "go";generalize (n'+11)*69621%2147483647=n'' at x0 ⊢;have x1:=Dg (n'' / 7) (show 1+n9+1≠0 by omega)
  have x2:=Dr (n'' / 7) (show 0<1+n9+1 by omega)
  walk_at "go";refine fX (z:=one d) e2 (bK (by omega)) ?_
  refine⟨n'',_,_,_,rfl,x0,bM hpd s2,aE,lk.put d _,?_,hfo.put (hzf d (An hd)),λ_=>?_,λc=>?_⟩
  ·have:=fK kvs (Sum.inr (one d)) (.int (n'' / 7%(1+n9+1)))
   omega
  ·exact cZ1 _ _ _
  ·show 0<=((if c=d then some (n'' / 7%(1+n9+1)) else f c):Option Int).getD 0/\((if c=d then some (n'' / 7%(1+n9+1)) else f c):Option Int).getD 0<=9
   by_cases z:c=d
   ·rw[if_pos z];exact⟨x1,by show n'' / 7%(1+n9+1)<=9;omega⟩
   ·rw[if_neg z];exact hf c
 ·rintro σ H2 ⟨n',kvs,f,v5,rfl,hn',s2,e2,lk,hkl,hfo,h1k,hf⟩;have h1k:=h1k hz1
  rw[fD]at hkl;walk_at "go";exact q pd kvs f H2 hpd s2 e2 lk hf hfo h1k
def pS(ns:List Int)(lo m:Int)(h:0<=lo)(h2:0<=m):∃ms:List Int,qH (ns.map V.int) (some lo) (some (lo+m))=ms.map V.int/\ms.length<=m.toNat:=by
 refine⟨(ns.drop (min lo.toNat ns.length)).take (min (lo+m).toNat ns.length-min lo.toNat ns.length),?_,?_⟩
 ·unfold qH;rw[List.map_take,List.map_drop];show ((ns.map V.int).drop (if lo<0 then (lo+((ns.map V.int).length:Int)).toNat else min lo.toNat (ns.map V.int).length)).take ((if lo+m<0 then (lo+m+((ns.map V.int).length:Int)).toNat else min (lo+m).toNat (ns.map V.int).length)-(if lo<0 then (lo+((ns.map V.int).length:Int)).toNat else min lo.toNat (ns.map V.int).length))=_
  rw[if_neg (by omega),if_neg (by omega),Ab]
 ·rw[Bx,Cs];omega
def tT(K:W.Frag)(C:Addr):Sp:=λvs H Q _=>∃(a:Addr) (ns:List Int),vs=[.ref a]/\SqL K H a (ns.map V.int)/\ns.length<=63/\
 ∀(r x dx rb rl rw b' s0 st hg dd:Addr) (bk:List (Str×Str)) (cws:Q5) (t:Nat->Option Int) (kvs:List (Key×V)) (m:Nat) (H':Hp),Same H H'->H' r=some (.lst [.ref x,.ref rb,.ref rl,.ref rw])->BkAt H' rb bk->aQ3 bk cws->cws.Nodup->1<=bk.length->bk.length<=8->1<=m->m<=6->
  H' x=some (.ins C dx (twF b' m s0 st hg dd))->BkAt H' b' bk->TwO H' hg st (List.replicate m none) (bJ (aK t))->H' rl=some (.dK kvs)->Lk kvs t->(∀c,0<=aK t c/\aK t c<=9)->FlOnly t->1<=kvs.length->st≠rl->H' dd=some (.lst [])->hg≠dd->b'≠dd->H' rw=some (.lst (List.replicate m V.non))->rw≠dd->hg≠rw->H x=none->H dd=none->H rl=none->H rw=none->Q (.ref r) H'
def sc_l_begun:FnScope ["_law_script", "_law_book_here", "_law_totals", "_law_many"] ["_law_script"] (aM pP):=by walk_at "sc"
def aJH(F:Fun K "_law_begun" "_law_begun" pP f fd)(G:Gs K mg w Zs Zz Zt Zx Z0 Zv Zy Zw Zu)(c_l_book:Cal P w K mg base 2 "_law_book" ["_law_cells"] vR)(c_l_flags:Cal P w K mg base 2 "_law_flags" ["_law_cell", "_law_book_here"] tO)(c_l_cell_at:Cal P w K mg base 1 "_law_cell_at" ["_law_script", "_law_k"] (jE K))(c_Tower_init:eQQ CX0 P w K mg base 2 Z0 ["self", "book", "locker", "many"] (hZ Z0)):FnOk P w K mg base CX0 4 f fd ["_law_script"] (tT K Z0):=by
 refine F.ok sc_l_begun (λvs H Q E h=>?_) (λcdv A outer s H vs Q E hr h=>?_)
 ·obtain⟨a,ns,rfl,_⟩:=h;rfl
 obtain⟨a,ns,rfl,hS,h63,q⟩:=h;refine⟨_,(@aD _ _ _ _ _ (aP 1 sc_l_begun.nd (aZ c_l_book hr (by decide) rfl (aA (lD sl_list (mv 0) (gB aI) (gB aI)) aB))) (@aD _ _ _ _ _ (aP 2 sc_l_begun.nd (aZ c_l_flags hr (by decide) rfl (aA (aZ c_l_cell_at hr (by decide) rfl (aA (mv 0) (aA aI aB))) (aA (mv 1) aB)))) (@aD _ _ _ _ _ (aP 3 sc_l_begun.nd (aQ cB aI (aQ cV (aZ c_l_cell_at hr (by decide) rfl (aA (mv 0) (aA aI aB))) aI))) (@aH _ _ _ (aT (@bR _ _ _ _ (aA (eQS c_Tower_init hr (by decide) rfl G.c_Tower (aA (mv 1) (aA (mv 2) (aA (mv 3) aB)))) (aA (mv 1) (aA (mv 2) (aA (aQ cZ5 (bR (aA dS aB)) (mv 3)) aB)))))))))),?_⟩
 walk_at "go";refine cXG hS λrc hrc=>?_;obtain⟨ms,em,hml⟩:=pS ns 2 7 (by decide) (by decide)
 rw[show (2:Int)+7=9 from rfl]at em;rw[em];have k1:=aG hrc (.lst (ms.map V.int))
 have e1:rdL (upd H rc (.lst (ms.map V.int))) rc=some (ms.map V.int):=bO
 generalize upd H rc (.lst (ms.map V.int))=H1 at k1 e1 ⊢;walk_at "go";refine⟨rc,ms,rfl,e1,hml,λrb bk cws H2 hrb s2 hbk hcw hnd hb1 hb8=>?_⟩;have s02:=k1.trans s2
 walk_at "go";refine⟨a,ns,1,rfl,s02.seq hS,by omega,λn1=>?_⟩
 walk_at "go";refine⟨n1,rb,bk,cws,rfl,hbk,hcw,hb8,λrl kvs f H3 hrl s3 el lk hf hfo h1k=>?_⟩;have s03:=s02.trans s3
 walk_at "go";refine⟨a,ns,0,rfl,s03.seq hS,by omega,λn0=>?_⟩
 have y0:=Dg n0 (show (6:Int)≠0 by decide)
 have y1:=Dr n0 (show (0:Int)<6 by decide)
 obtain⟨m,em,m1,m6⟩:∃m:Nat,1+n0%6=(m:Int)/\1<=m/\m<=6:=⟨(1+n0%6).toNat,by omega,by omega,by omega⟩
 walk_at "go";rw[em];walk_at "go";intro x dx hx hdx hne;obtain⟨qs,b1,b2,b3⟩:=id hbk;have hkk:=(aG hdx (.own x)).trans (aG (show (upd H3 dx (.own x)) x=none by rw[aJ (Ne.symm hne)];exact hx) (.ins Z0 dx []))
 refine⟨x,rb,rl,dx,qs.map V.ref,kvs,f,m,rfl,aE,aR (hkk _ _ (s3 _ _ b1)),.inl (hkk _ _ el),lk,m6,λb' s0 st hg dd H4 hb' hhg hdd hst nhd nbd sE x4 e4 d04 d14 h4 f4=>⟨rfl,?_⟩⟩;have s34:Same H3 H4:=λb o e=>sE b o (λz=>by rw[Ak.mp z,hx]at e;cases e) (hkk _ _ e)
 have s04:=s03.trans s34
 walk_at "go";refine⟨by show 1<=sizeLine;decide,λp0 hp0=>?_⟩
 have k5:=aG hp0 (.lst [V.non])
 have e5:(upd H4 p0 (.lst [V.non])) p0=some (.lst [V.non]):=aE
 generalize upd H4 p0 (.lst [V.non])=H5 at k5 e5 ⊢;walk_at "go";refine⟨p0,_,[V.non],rfl,rfl,e5,by omega,by omega,by show 1*((m:Int)).toNat<=sizeLine;exact bP (by omega),λrw' hrw=>?_⟩
 rw[aXI];have k6:=k5.trans (aG hrw (.lst (List.replicate m V.non)))
 have e6:(upd H5 rw' (.lst (List.replicate m V.non))) rw'=some (.lst (List.replicate m V.non)):=aE
 have nrw:rw'≠dd:=λz=>by rw[z,k5 _ _ f4]at hrw;cases hrw
 have nhw:hg≠rw':=λz=>by rw[<-z,k5 _ _ h4]at hrw;cases hrw
 generalize upd H5 rw' (.lst (List.replicate m V.non))=H6 at k6 e6 ⊢;walk_at "go";refine⟨by show 4<=sizeLine;decide,λr hr=>?_⟩
 have k7:=aG hr (.lst [.ref x,.ref rb,.ref rl,.ref rw'])
 have k47:=k6.trans k7
 have s07:=s04.trans k47
 have bkk:∀(y:Addr),H4 y=some (.lst (qs.map V.ref))->BkAt (upd H6 r (.lst [.ref x,.ref rb,.ref rl,.ref rw'])) y bk:=λy hy=>⟨qs,k47 _ _ hy,b2,λj p b hp hb=>k47 _ _ (s34 _ _ (s3 _ _ (b3 j p b hp hb)))⟩
 refine q r x dx rb rl rw' b' s0 st hg dd bk cws f kvs m _ s07 aE (bkk rb (s34 _ _ (s3 _ _ b1))) hcw hnd hb1 hb8 m1 m6 (k47 _ _ x4) (bkk b' e4) ⟨⟨⟨_,k47 _ _ h4,?_⟩,?_,⟨_,k47 _ _ d14,dI _⟩,lR _⟩,fB _⟩ (k47 _ _ (s34 _ _ el)) lk hf hfo h1k (λz=>by rw[z,hkk _ _ el]at hst;cases hst) (k47 _ _ f4) nhd nbd (k7 _ _ e6) nrw (λz=>nhw z) (none_of s03 hx) (none_of (s03.trans hkk) hdd) (none_of s02 hrl) (none_of (s04.trans k5) hrw)
 ·refine⟨by rw[Fl,Fl],λj v h hv hh=>?_⟩
  rw[Ew]at hv hh;split at hv
  ·rename_i hj
   rw[if_pos hj]at hh;cases hv;cases hh;rfl
  ·cases hv
 ·intro cs hc;cases (List.mem_replicate.mp hc).2
def oH:Sp:=λvs H Q _=>∃(cw:List Nat) (k:Nat) (p:Int),vs=[.str (bA cw),.int p]/\p=(k:Int)+1/\k<cw.length/\cw.length<=7/\
 ∀(r:Addr) (H':Hp),H r=none->Same H H'->H' r=some (.lst (((chs cw k).map one).map V.str))->Q (.ref r) H'
def dQM:∀n:Nat,n<4->Str.ofString (toString (1+(n:Int)))=one (49+n)
 |0,_=>by decide +kernel
 |1,_=>by decide +kernel
 |2,_=>by decide +kernel
 |3,_=>by decide +kernel
 |n+4,h=>absurd h (by omega)
def sc_l_choices:FnScope ["_law_word_here", "_law_place", "_law_found", "_law_n"] ["_law_word_here", "_law_place"] (aM kA):=by walk_at "sc"
def yK(F:Fun K "_law_choices" "_law_choices" kA f fd)(G:Gs K mg w Zs Zz Zt Zx Z0 Zv Zy Zw Zu):FnOk P w K mg base CX0 1 f fd ["_law_word_here", "_law_place"] oH:=by
 refine F.ok sc_l_choices (λvs H Q E h=>?_) (λcdv A outer s H vs Q E hr h=>?_)
 ·obtain⟨cw,k,p,rfl,_⟩:=h;rfl
 obtain⟨cw,k,pl,rfl,hpl,hk,h7,q⟩:=h;refine⟨_,(@aD _ _ _ _ _ (aP 2 sc_l_choices.nd (bR (aA (bE bS (mv 0) (aQ jO (mv 1) aI) (λ_ _=>rfl)) aB))) (@aD _ _ _ _ _ (cI Bh rfl (xG rfl G.b_range (aA aI (aA (aU (eZA rfl) rfl G.b_min eX6 (aA aI (aA (mv 1) aB))) aB))) (bH (i:=3) sc_l_choices.nd rfl (Or.inl rfl)) (@aH _ _ _ (bU (aY hJ (bE bS (mv 0) (aQ jO (mv 3) aI) (λ_ _=>rfl)) (bE bS (mv 0) (aQ jO (mv 1) aI) (λ_ _=>rfl)) (aW _)) (@aH _ _ _ (cG (dA By Ed Ee aXH (mv 2) (aA (bN eJE rfl G.b_str dJC (aA (mv 3) aB)) aB)))) bC))) (@aH _ _ _ (aT (mv 2))))),?_⟩;have hwl:(bA cw).length=cw.length:=cP cw
 walk_at "go";refine oQ (by rw[hwl];exact bP (by omega)) (lN (k:=k) (by omega) hk) ?_
 walk_at "go";refine⟨by show 1<=sizeLine;decide,λp hp=>?_⟩
 walk_at "go";have em:(if pl<(5:Int) then pl else 5)=1+((min k 4:Nat):Int):=by split<;>omega
 rw[em];refine⟨⟨by omega,by omega,by omega,by omega⟩,?_⟩
 rw[show (1+((min k 4:Nat):Int)-1).toNat=min k 4 by omega]
 refine nW (λi σ H'=>∃v,σ=[some (.str (bA cw)),some (.int pl),some (.ref p),v]/\Same H H'/\H' p=some (.lst (((cw.getD k 0::(List.range i).filterMap (chF cw k)).map one).map V.str)))
  ⟨none,rfl,aG hp _,aE⟩ ?_ ?_
 ·rintro i σ H' hi ⟨v,rfl,sm,hH⟩;have hi2:i<min k 4:=hi
  have hm:=bW hH
  have hlen:((((cw.getD k 0::(List.range i).filterMap (chF cw k)).map one).map V.str)).length<sizeLine:=by
   have:=Co (chF cw k) (List.range i)
   rw[Bt]at this;rw[Ab,Ab,Ax];exact bK (by omega)
  walk_at "go";refine oQ (by rw[hwl];exact bP (by omega)) (lN (k:=i) (by omega) (by omega)) ?_
  walk_at "go";refine oQ (by rw[hwl];exact bP (by omega)) (lN (k:=k) (by omega) hk) ?_
  walk_at "go";rw[show decide (({cps:=#[cw.getD i 0]}:Str)={cps:=#[cw.getD k 0]})=decide (cw.getD i 0=cw.getD k 0) from xP _ _];refine eW (λhc=>?_) (λhc=>?_)
  ·have he:=Ba hc
   walk_at "go"
   refine s_str (by have : (1 + (i : Int)).natAbs = 1 + i := by omega
                    rw[this];exact Nat.lt_of_le_of_lt (Nat.log2_le_self _) (by omega)) ?_
   rw[dQM i (by omega)]
   walk_at "go";refine⟨_,rfl,bM hp sm,?_⟩;rw[aE,uP (F:=chF cw k) (if_pos he),<-List.cons_append,Ar,Ar];rfl
  ·have he:=Bp (Bq.mpr hc)
   walk_at "go";refine⟨_,rfl,sm,?_⟩;rw[hH,vC (F:=chF cw k) (if_neg he)]
 ·rintro σ H' ⟨v,rfl,sm,hH⟩;walk_at "go";exact q p H' hp sm hH
def Two(ws:List (Option (List Nat))):Prop:=∀cs,some cs∈ws->2<=cs.length
def WOk:Option (List Nat)->Prop
 |none=>True
 |some cw=>cw.length<=7/\(∀d∈cw,aX d)/\vA cw=true
def cJI(h:vA cw=true):2<=cw.length:=by
 unfold vA at h;rw[Ea,Bo]at h;omega
def bJY(h1:1<=cs.length)(h6:cs.length<=6)(hL:∀d∈cs,aX d)(hd:aX (ckL cs))(h:iU (cs++[ckL cs])=true):WOk (some (cs++[ckL cs])):=by
 refine⟨by rw[Af];show _+1<=_;omega,λd hd'=>?_,?_⟩
 ·rcases Bm.mp hd' with z|z
  ·exact hL d z
  ·rw[Ak.mp z];exact hd
 ·unfold vA;rw[h,Bool.and_true,Bo,Af];show 1<_+1
  omega
def eQO(hat:HalsAt H us hs)(ok:eX hs)(hv:us[j]?=some (V.ref p))(hh:hs[j]?=some h):∃c cs,h=some (c::cs)/\H p=some (.lst (V.str (one c)::(cs.map one).map V.str)):=by
 have r:=hat.val j _ _ hv hh
 cases h with
 |none=>cases r
 |some cs=>
  obtain⟨q,e,hq⟩:=r;cases e;have:=(gG (ok cs (An hh))).1
  cases cs with
  |nil=>exact absurd this (by decide)
  |cons c cs=>exact⟨c,cs,rfl,hq⟩
def TwSt.keepE{B R:Addr}{f:Nat->Option Int}(tw:TwSt H B R hs f)(s:SameE l H H')(nB:B∉l)(nR:∀kvs,H R=some (.dK kvs)->R∉l)(nP:∀p c cs,H p=some (.lst (V.str (one c)::cs))->p∉l):TwSt H' B R hs f:=by
 obtain⟨⟨us,u1,u2⟩,ok,⟨kvs,v1,v2⟩,ps⟩:=tw;refine⟨⟨us,s _ _ nB u1,u2.len,λj v h hv hh=>?_⟩,ok,⟨kvs,s _ _ (nR _ v1) v1,v2⟩,ps⟩;have r:=u2.val j v h hv hh
 cases h with
 |none=>exact r
 |some cs=>
  obtain⟨p,rfl,hp⟩:=r;obtain⟨c,cs',e,hq⟩:=eQO u2 ok hv hh;exact⟨p,rfl,s _ _ (nP p c _ hq) hp⟩
def bJ3{ws:Q3}(t:Two ws){c:Nat}{cs:List V}:ws.map wdV≠V.str (one c)::cs:=by
 intro z;cases ws with
 |nil=>cases z
 |cons w ws=>
  have h1:wdV w=V.str (one c):=by injection z
  cases w with
  |none=>cases h1
  |some cw=>
   have h2:bA cw=one c:=by injection h1
   have h3:=Ds Str.length h2
   rw[cP]at h3;have:=t cw (Al ..)
   have h4:(one c).length=1:=rfl
   omega
def BkAt.keepE(h:BkAt H r bk)(s:SameE l H H')(nr:r∉l)(nt:∀p xs,H p=some (.tup xs)->p∉l):BkAt H' r bk:=by
 obtain⟨ps,h1,h2,h3⟩:=h;exact⟨ps,s _ _ nr h1,h2,λj p b hp hb=>s _ _ (nt p _ (h3 j p b hp hb)) (h3 j p b hp hb)⟩
def BkAt.keepS(h:BkAt H r bk)(s:Same H H'):BkAt H' r bk:=by
 obtain⟨ps,h1,h2,h3⟩:=h;exact⟨ps,s _ _ h1,h2,λj p b hp hb=>s _ _ (h3 j p b hp hb)⟩
def no3{y z:Addr}(h1:p≠x)(h2:p≠y)(h3:p≠z):p∉[x,y,z]:=λe=>by
 simp only[List.mem_cons,List.not_mem_nil,or_false]at e;rcases e with e|e|e
 ·exact h1 e
 ·exact h2 e
 ·exact h3 e
def yG{n:Int}{m:Nat}(h:0<m):∃k:Nat,n%((m:Nat):Int)=(k:Int)/\k<m:=by
 have y0:=Dg n (show ((m:Nat):Int)≠0 by omega)
 have y1:=Dr n (show (0:Int)<((m:Nat):Int) by omega)
 exact⟨(n%((m:Nat):Int)).toNat,by omega,by omega⟩
def TwSt.keepS{B R:Addr}{f:Nat->Option Int}(tw:TwSt H B R hs f)(k:Same H H'):TwSt H' B R hs f:=by
 obtain⟨⟨us,u1,u2⟩,ok,⟨kvs,v1,v2⟩,ps⟩:=tw;exact⟨⟨us,k _ _ u1,u2.keep k⟩,ok,⟨kvs,k _ _ v1,v2⟩,ps⟩
def no2{y:Addr}(h1:p≠x)(h2:p≠y):p∉[x,y]:=λe=>by
 simp only[List.mem_cons,List.not_mem_nil,or_false]at e;rcases e with e|e
 ·exact h1 e
 ·exact h2 e
def dQF{ws:Q3}{o:Option (List Nat)}{n:Nat}(t:Two ws)(w:WOk o):Two (ws.set n o):=λcs hc=>by
 rcases Ga hc with z|z
 ·exact t cs z
 ·subst z;exact cJI w.2.2
def aJA{f:Nat->Option Int}(lk:Lk kvs f)(h:FlOnly f):kvs.length<=27:=by
 have r:=aZH (m:=flagsT.cps.toList.map λc=>(Sum.inr (one c):Key)) lk.nd λx hx=>by
  obtain⟨kv,hm,rfl⟩:=Bg.mp hx;obtain⟨c,n,e,hf⟩:=lk.at_mem hm;rw[e];exact Bg.mpr ⟨c,flags_mem.mpr (h c (by rw[hf];rfl)),rfl⟩
 rw[Ab,Ab]at r;exact r
structure S54 (C:Addr) (H:Hp) (x rw' rl dx b' s0 dd:Addr) (m k:Nat) (hs:List (Option (List Nat))) (f t:Nat->Option Int) (wv:List (Option (List Nat))):Prop where
 tw:∃(st hg:Addr) (dps:List Addr),H x=some (.ins C dx (twF b' m s0 st hg dd))/\TwO H hg st hs f/\hg≠dd/\hg≠rw'/\st≠rl/\H dd=some (.lst (dps.map V.ref))/\dps.length<=k
 hsl:hs.length=m
 m6:m<=6
 wd:H rw'=some (.lst (wv.map wdV))
 ndd:rw'≠dd
 two:Two wv
 fit:Fits hs wv
 tot:∃kvs,H rl=some (.dK kvs)/\Lk kvs t
 tfl:FlOnly t
 eq:∀c,aK t c=fA f hs c
def S54.keep{rw' rl b':Addr}{m:Nat}{f:Nat->Option Int}(h:S54 C H x rw' rl dx b' s0 dd m k hs f t wv)(s:Same H H'):S54 C H' x rw' rl dx b' s0 dd m k hs f t wv:=by
 obtain⟨⟨st,hg,dps,a1,a2,a3,a4,a5,a6,a7⟩,b1,b2,b3,b4,b5,b6,⟨kvs,c1,c2⟩,b7,b8⟩:=h;exact⟨⟨st,hg,dps,s _ _ a1,⟨a2.1.keepS s,a2.2⟩,a3,a4,a5,s _ _ a6,a7⟩,b1,b2,s _ _ b3,b4,b5,b6,⟨kvs,s _ _ c1,c2⟩,b7,b8⟩
def aZE{f:Nat->Option Int}(hfo:FlOnly f)(hpos:∀c,0<=aK f c){c:Nat}(h:c∉bG (aK f) 27):aK f c=0:=by
 by_cases hc:cY c
 ·have h0:=hpos c
  have h1:¬0<aK f c:=λz=>h (plainL_mem.mpr ⟨flags_mem.mpr hc,z⟩)
  omega
 ·exact gX hfo hc
def bJW{Hs:Hp}{u:HO}(h:H b=some u)(e:Hs b=some u):unf Hs H b=some u:=by
 by_cases hf:∃o v,u=.frz o v
 ·obtain⟨o,v,rfl⟩:=hf;exact lK h e
 ·exact dP h λo v z=>hf ⟨o,v,z⟩
def rT(C:Addr):Sp:=λvs H Q _=>∃(x rw' rl dx b' s0 dd:Addr) (m k:Nat) (hs:List (Option (List Nat))) (f t:Nat->Option Int) (wv:List (Option (List Nat))),vs=[.ref x,.ref rw',.ref rl]/\S54 C H x rw' rl dx b' s0 dd m k hs f t wv/\∀H',Same H H'->Q (.bl true) H'
def sc_l_holds:FnScope ["_law_tower", "_law_words", "_law_totals", "_law_halyards", "_law_locker", "_law_left", "_law_flag", "_law_many", "_law_hoist", "_law_word_here", "_law_k"] ["_law_tower", "_law_words", "_law_totals"] (aM lV):=by walk_at "sc"
def aX5(F:Fun K "_law_holds" "_law_holds" lV f fd)(G:Gs K mg w Zs Zz Zt Zx Z0 Zv Zy Zw Zu)(c_Tower_halyards:uY CX0 P w K mg base 1 Z0 "halyards" ["self"] (eV Z0))(c_Tower_locker:uY CX0 P w K mg base 2 Z0 "locker" ["self"] (eC Z0))(c_l_choices:Cal P w K mg base 1 "_law_choices" ["_law_word_here", "_law_place"] oH):FnOk P w K mg base CX0 4 f fd ["_law_tower", "_law_words", "_law_totals"] (rT Z0):=by
 refine F.ok sc_l_holds (λvs H Q E h=>?_) (λcdv A outer s H vs Q E hr h=>?_)
 ·obtain⟨x,rw',rl,dx,b',s0,dd,m,k,hs,f,t,wv,rfl,_⟩:=h;rfl
 obtain⟨x,rw',rl,dx,b',s0,dd,m,k,hs,f,t,wv,rfl,S,q⟩:=h;refine⟨_,(@aD _ _ _ _ _ (aP 3 sc_l_holds.nd (iV c_Tower_halyards G.cl_Tower hr (by decide) (mv 0))) (@aD _ _ _ _ _ (aP 4 sc_l_holds.nd (iV c_Tower_locker G.cl_Tower hr (by decide) (mv 0))) (@aD _ _ _ _ _ (bU (PW.pt (jR (gL (cX (aU aQV rfl G.b_isinstance cC (aA (mv 3) (aA (pG rfl G.b_list eU) aB))))) (jR (aY aQL (aU dG rfl G.b_len bY (aA (mv 3) aB)) (aU dG rfl G.b_len bY (aA (mv 1) aB)) (aW _)) (iC (gL (cX (aU aQV rfl G.b_isinstance cC (aA (mv 4) (aA (pG rfl G.b_dict bQN) aB))))))))) (@aH _ _ _ (aT iP)) bC) (@aD _ _ _ _ _ (aP 5 sc_l_holds.nd (bN cJA rfl G.b_dict bQN (aA (mv 2) aB))) (@aD _ _ _ _ _ (yY (cI Bh rfl (cQN (mv 4)) (dQ (K:=K) (i:=6) (j:=7) (by rfl) (by rfl) sc_l_holds.nd (by rfl) (by exact(Or.inl rfl)) (by exact Or.inl rfl) (by rfl) (by exact(Or.inl rfl)) (by exact Or.inl rfl)) (@aD _ _ _ _ _ (bU (PW.pt (jR (gL (cX (aU aQV rfl G.b_isinstance cC (aA (mv 7) (aA (pG rfl G.b_int iF) aB))))) (jR (cX (aU aQV rfl G.b_isinstance cC (aA (mv 7) (aA (pG rfl G.b_bool dXN) aB)))) (iC (aY zF (mv 7) aI (aW _)))))) (@aH _ _ _ (aT iP)) bC) (@aH _ _ _ (eT (Room.u1 hr) (mv 5) (mv 6) (aQ jO (cR Bb Bv (jX (Room.u1 hr)) (mv 5) (aA (mv 6) (aA aI aB))) (mv 7)) rfl))))) (@aD _ _ _ _ _ (cI Bh rfl (bJ7 rfl G.b_zip (aA (mv 3) (aA (mv 1) aB))) (dQ (K:=K) (i:=8) (j:=9) (by rfl) (by rfl) sc_l_holds.nd (by rfl) (by exact(Or.inl rfl)) (by exact Or.inl rfl) (by rfl) (by exact(Or.inl rfl)) (by exact Or.inl rfl)) (@aD _ _ _ _ _ (bU (PW.pt (jR (PW.pt (qB (aY aQ9 (mv 9) dS (aW _)) (lM (aY pE (mv 8) dS (aW _))))) (iC (PW.pt (qB (aY pE (mv 9) dS (aW _)) (lM (gL (cX (aU aQV rfl G.b_isinstance cC (aA (mv 8) (aA (pG rfl G.b_list eU) aB))))))))))) (@aH _ _ _ (aT iP)) bC) (@aD _ _ _ _ _ (bU (PW.pt (qB (aY pE (mv 9) dS (aW _)) (lM (aY aQL (aU dG rfl G.b_len bY (aA (mv 8) aB)) (aU dG rfl G.b_len bY (aA (mv 9) aB)) (aW _))))) (@aH _ _ _ (aT iP)) bC) (@aH _ _ _ (cI Bh rfl (jG rfl G.b_enumerate (aA (eQ5 (mv 8) (rZ (bR aB))) aB)) (dQ (K:=K) (i:=10) (j:=6) (by rfl) (by rfl) sc_l_holds.nd (by rfl) (by exact(Or.inl rfl)) (by exact Or.inl rfl) (by rfl) (by exact(Or.inl rfl)) (by exact Or.inl rfl)) (@aD _ _ _ _ _ (bU (aY uA (mv 6) (aZ c_l_choices hr (by decide) rfl (aA (mv 9) (aA (aQ cB (mv 10) aI) aB))) (by rfl)) (@aH _ _ _ (aT iP)) bC) (@aH _ _ _ (eT (Room.u1 hr) (mv 5) (mv 6) (aQ jO (cR Bb Bv (jX (Room.u1 hr)) (mv 5) (aA (mv 6) (aA aI aB))) aI) rfl)))))))) (@aH _ _ _ (aT (cZ (dZA hr.units0) (aZF (dB rfl (aJ5 (mv 5)) (jP (N:=["_law_flag", "_law_left"]) ["_law_tower", "_law_words", "_law_totals", "_law_halyards", "_law_locker", "_law_left", "_law_flag", "_law_many", "_law_hoist", "_law_word_here", "_law_k"] (aM lV) [none,some 5] rfl rfl rfl (λx h=>cS h) (by decide +kernel)) (by decide +kernel) rfl (by decide +kernel) (λ_ _ _ _=>(bH (i:=0) (show List.Nodup (["_law_flag", "_law_left"]:List Str) by decide +kernel) rfl (Or.inl rfl))) (λ_ _ _ _=>(mX (aY aQL (fH (Room.u1 hr) (mv 1) (mv 0) (λ_ _=>rfl)) aI (aW _)))) (λ_ _ _ _=>(mv 0)))) (bR aB) (aW _)))))))))),?_⟩
 obtain⟨⟨st,hg,dps,ex,⟨tw,hfo⟩,ngd,ngw,nsl,edd,hdl⟩,hsl,m6,erw,nrd,two,hfit,⟨kvt,erl,lkt⟩,tfl,heq⟩:=S;obtain⟨⟨us,hB,hat⟩,ok,⟨kvs,hR,lk⟩,hpos⟩:=tw;have hul:=hat.len
 walk_at "go";refine⟨x,dx,_,rfl,ex,eQ,?_⟩;walk_at "go";refine⟨x,b',s0,st,hg,dd,dx,m,us,hs,rfl,ex,aR hB,hat,by omega,λr1 us1 H1 hr1 s1 e1 hat1 _=>?_⟩
 have hul1:=hat1.len
 walk_at "go";refine⟨x,dx,_,rfl,s1 _ _ ex,gC,?_⟩;walk_at "go";refine⟨x,b',s0,st,hg,dd,dx,m,kvs,f,rfl,s1 _ _ ex,.inl (s1 _ _ hR),lk,λr2 H2 hr2 s2 e2=>?_⟩;have s02:=s1.trans s2
 have lw:=dI (aK f)
 have re1:=aR (s2 _ _ e1)
 have rew:=aR (s02 _ _ erw)
 have hwl:(wv.map wdV).length=hs.length:=by rw[Ab,hfit.1]
 have e12:=s2 _ _ e1
 walk_at "go";rw[hul1,hwl,show (!decide (((hs.length:Nat):Int)=((hs.length:Nat):Int)))=false by rw[Aj rfl];rfl]
 walk_at "go";refine bZS (.inl (s02 _ _ erl)) λr3 hr3=>?_;have k3:=aG hr3 (.dK kvt)
 have s03:=s02.trans k3
 have e3:(upd H2 r3 (.dK kvt)) r3=some (.dK kvt):=aE
 have e23:=k3 _ _ e2
 have hr30:H r3=none:=none_of s02 hr3
 have n23:r2≠r3:=λz=>by rw[<-z,e2]at hr3;cases hr3
 have e13:=k3 _ _ e12
 have hr1n:r1≠r3:=λz=>by rw[<-z,e12]at hr3;cases hr3
 generalize upd H2 r3 (.dK kvt)=H3 at k3 s03 e3 e23 e13 ⊢;have hat3:=(hat1.keep s2).keep k3
 have l27:=aJA lkt tfl
 walk_at "go";refine aZZ e23 λo2=>?_;have hpl:(kvL (aK f) (bG (aK f) 27)).length=(bG (aK f) 27).length:=by unfold kvL;rw[Ab]
 have fz:(upd H3 r2 (.frz o2 (.dK (kvL (aK f) (bG (aK f) 27))))) r2=_:=aE
 have e3f:(upd H3 r2 (.frz o2 (.dK (kvL (aK f) (bG (aK f) 27))))) r3=some (.dK kvt):=by rw[aJ (Ne.symm n23)];exact e3
 have hnd:=wH (aK f) 27
 have hpl27:(bG (aK f) 27).length<=27:=gI _ _
 refine bJR (λi σ H'=>∃(kws:List (Key×V)) (g:Nat->Option Int) (v6 v7 v8 v9 v10:Option V),σ=[some (.ref x),some (.ref rw'),some (.ref rl),some (.ref r1),some (.ref r2),some (.ref r3),v6,v7,v8,v9,v10]/\(∀b u,b≠r3->(upd H3 r2 (.frz o2 (.dK (kvL (aK f) (bG (aK f) 27))))) b=some u->H' b=some u)/\H' r3=some (.dK kws)/\Lk kws g/\FlOnly g/\∀c,aK g c=aK t c-(if c∈(bG (aK f) 27).take i then aK f c else 0))
  ⟨kvt,t,_,_,_,_,_,rfl,λb u _ e=>e,e3f,lkt,tfl,λc=>by rw[Ez,if_neg List.not_mem_nil];omega⟩ (λi σ H' _ ⟨_,_,_,_,_,_,_,_,e,_⟩=>e _ _ n23 fz) ?_ ?_
 ·rintro i kv σ H4 p hkv ⟨kws,g,v6,v7,v8,v9,v10,rfl,fr4,e4,lg,gfl,hg⟩ hp;unfold kvL at hkv;rw[Ah]at hkv;obtain⟨c,hc,rfl⟩:=Cu.mp hkv;have hcm:c∈bG (aK f) 27:=An hc
  have hc0:=(plainL_mem.mp hcm).2
  have hcf:cY c:=flags_mem.mp (List.mem_of_mem_take (plainL_mem.mp hcm).1)
  have k5:=aG hp (.tup [V.str (one c),V.int (aK f c)])
  have t5:(upd H4 p (.tup [V.str (one c),V.int (aK f c)])) p=_:=aE
  have np:p≠r3:=λz=>by rw[z,e4]at hp;cases hp
  have e5:=k5 _ _ e4
  have fr5:∀b u,b≠r3->(upd H3 r2 (.frz o2 (.dK (kvL (aK f) (bG (aK f) 27))))) b=some u->(upd H4 p (.tup [V.str (one c),V.int (aK f c)])) b=some u:=λb u n e=>k5 _ _ (fr4 b u n e)
  dsimp only[kV];generalize upd H4 p (.tup [V.str (one c),V.int (aK f c)])=H5 at k5 t5 e5 fr5 ⊢;have tt5:=cF t5
  have hD5:=dW e5
  have hl27:=aJA lg gfl
  walk_at "go";rw[show decide (aK f c<1)=false from Aw (by omega)]
  walk_at "go";refine jQ (z:=one c) (.inl e5) ?_;rw[lg.val c,dZ];walk_at "go";refine fX (z:=one c) e5 (bK (by omega)) ?_
  refine⟨_,_,_,_,_,_,_,rfl,λb u n e=>by rw[aJ n];exact fr5 b u n e,aE,lg.put c _,gfl.put hcf,λd=>?_⟩
  rw[kL];have hgd:=hg d
  have hcn:c∉(bG (aK f) 27).take i:=λz=>by
   obtain⟨j,hj⟩:=Dz.mp z;rw[List.getElem?_take]at hj;split at hj
   ·rename_i hji
    obtain⟨h1,h2⟩:=Ad.mp hj;obtain⟨h3,h4⟩:=Ad.mp hc;exact List.pairwise_iff_getElem.mp hnd j i h1 h3 hji (h2.trans h4.symm)
   ·cases hj
  rw[Bc,hc,Option.toList_some];by_cases z:d=c
  ·subst z;rw[if_neg hcn]at hgd;rw[if_pos rfl,if_pos (Be _ (Ak.mpr rfl))];omega
  ·rw[if_neg z,hgd];congr 1
   by_cases y:d∈(bG (aK f) 27).take i
   ·rw[if_pos y,if_pos (Cb _ y)]
   ·rw[if_neg y,if_neg λw=>(Bm.mp w).elim y λw2=>z (Ak.mp w2)]
 ·rintro σ H4 ⟨kws,g,v6,v7,v8,v9,v10,rfl,fr4,e4,lg,gfl,hg⟩;rw [hpl,Br] at hg;replace hg:∀ c,aK g c=aK t c - aK f c:=λc=>by
   rw[hg c];by_cases y:c∈bG (aK f) 27
   ·rw[if_pos y]
   ·rw[if_neg y,aZE hfo hpos y]
  have frU:∀b u,b≠r3->H3 b=some u->(unf H3 H4) b=some u:=λb u n e=>by
   by_cases z:b=r2
   ·subst z;rw[e23]at e;cases e;exact rO (fr4 _ _ n23 fz) λo v z=>by rw[e23]at z;cases z
   ·exact bJW (fr4 b u n (by rw[aJ z];exact e)) e
  have e4U:(unf H3 H4) r3=some (.dK kws):=dP e4 λ_ _=>nofun
  unfold bZQ;dsimp only;generalize unf H3 H4=H5 at frU e4U ⊢;have mk:∀ {p xs},p≠r3->H3 p=some (.lst xs)->rdL H5 p=some xs:=λn e=>aR (frU _ _ n e)
  have nw3:rw'≠r3:=λz=>by rw[<-z,erw]at hr30;cases hr30
  have erw3:=s03 _ _ erw
  have hpn:∀ {p:Addr} {xs:List V},H3 p=some (.lst xs)->p≠r3:=λe z=>by rw[z,e3]at e;cases e
  have z1:=mk hr1n e13
  have z2:=mk nw3 erw3
  walk_at "go";refine cZ7 (xs:=us1) (ys:=wv.map wdV) (λi σ H'=>∃(kws:List (Key×V)) (g:Nat->Option Int) (v6 v7 v8 v9 v10:Option V),σ=[some (.ref x),some (.ref rw'),some (.ref rl),some (.ref r1),some (.ref r2),some (.ref r3),v6,v7,v8,v9,v10]/\(∀b u,b≠r3->H3 b=some u->H' b=some u)/\H' r3=some (.dK kws)/\Lk kws g/\FlOnly g/\∀c,aK g c=aK t c-aK f c-cnt (bD hs (List.range i)) c)
   ⟨kws,g,_,_,_,_,_,rfl,frU,e4U,lg,gfl,λc=>by rw[hg c];show _=_-((0:Nat):Int);omega⟩ (λi σ H' _ _ ⟨_,_,_,_,_,_,_,_,e,_⟩=>⟨aR (e _ _ hr1n e13),aR (e _ _ nw3 erw3)⟩) ?_ ?_
  ·rintro i xv y σ H6 pt hx hy ⟨kws,g,v6,v7,v8,v9,v10,rfl,fr6,e6,lg,gfl,hg⟩ hpt;have hi:i<hs.length:=by rw[<-hul1];exact(Ad.mp hx).1
   have k7:=aG hpt (.tup [xv,y])
   have t7:=cF (show (upd H6 pt (.tup [xv,y])) pt=_ from aE)
   have fr7:∀b u,b≠r3->H3 b=some u->(upd H6 pt (.tup [xv,y])) b=some u:=λb u n e=>k7 _ _ (fr6 b u n e)
   have e7:=k7 _ _ e6
   generalize upd H6 pt (.tup [xv,y])=H7 at k7 t7 fr7 e7 ⊢;have hv:=hat3.val i xv (hs.getD i none) hx (by rw[Ac,Aa hi];rfl)
   have hy':y=wdV (wv.getD i none):=by
    rw[Ah]at hy;rw[Ac];cases e:wv[i]? with
    |none=>rw[e]at hy;cases hy
    |some o=>rw[e]at hy;cases hy;rfl
   have ff:=hfit.2 i hi
   have hrs:∀c,cnt (bD hs (List.range (i+1))) c=cnt (bD hs (List.range i)) c+cnt (cQ hs i) c:=λc=>by
    rw[Bs,iJ,oA,show bD hs [i]=cQ hs i from Bd _]
   cases e1':hs.getD i none with
   |none=>
    cases e2':wv.getD i none with
    |some cw=>rw[e1',e2']at ff;exact ff.elim
    |none=>
     rw[e1']at hv;rw[e2']at hy';obtain rfl:xv=V.non:=hv;obtain rfl:y=V.non:=hy';have d1:decide (V.non=V.non)=true:=rfl
     have d2:(!decide (V.non=V.non))=false:=rfl
     walk_at "go";rw[d1];walk_at "go";rw[d2];walk_at "go";rw[d2];walk_at "go";rw[d2];walk_at "go";refine cXP (h:=none) rfl λp H8 s8 e8=>?_;walk_at "go";refine jA (xs:=[]) (λk' σ H'=>σ=[some (.ref x),some (.ref rw'),some (.ref rl),some (.ref r1),some (.ref r2),some (.ref r3),v6,v7,some .non,some .non,v10]/\H'=H8) ⟨rfl,rfl⟩ (λk' σ H' _ ⟨_,e⟩=>by rw[e];exact e8) (λk' xx σ H' p' hx'=>nomatch hx') ?_
     rintro σ H' ⟨rfl,rfl⟩;refine⟨kws,g,_,_,_,_,_,rfl,λb u n e=>s8 _ _ (fr7 b u n e),s8 _ _ e7,lg,gfl,λc=>?_⟩;rw[hg c,hrs c,show cnt (cQ hs i) c=0 by unfold cQ;rw[e1'];rfl]
     omega
   |some cs=>
    cases e2':wv.getD i none with
    |none=>rw[e1',e2']at ff;exact ff.elim
    |some cw=>
     rw[e1']at hv;rw[e2']at hy';rw[e1',e2']at ff;obtain⟨hgg,hc1,hc7,hcL⟩:=ff;obtain⟨pc,rfl,hpc⟩:=hv;obtain rfl:y=V.str (bA cw):=hy';have d1:decide (V.str (bA cw)=V.non)=false:=Aw (λz=>nomatch z)
     have d3:(!decide (V.str (bA cw)=V.non))=true:=by rw[d1];rfl
     have hpc7:=fr7 _ _ (hpn hpc) hpc
     have rpc7:=aR hpc7
     have hsl':((cs.map one).map V.str).length=cw.length:=by rw[Ab,Ab,hgg.1]
     have hcl:(bA cw).length=cw.length:=cP cw
     walk_at "go";rw[d1];walk_at "go";rw[d3];walk_at "go";rw[d3];walk_at "go";rw[hsl',hcl,show (!decide (((cw.length:Nat):Int)=((cw.length:Nat):Int)))=false by rw[Aj rfl];rfl]
     walk_at "go";refine cXP (h:=some cs) ⟨pc,rfl,hpc7⟩ λp H8 s8 e8=>?_;have e8d:=s8 _ _ e7
     have np3:p≠r3:=λz=>by unfold rdL at e8;rw[z,e8d]at e8;cases e8
     walk_at "go";refine jA (xs:=(cs.map one).map V.str) (λk' σ H'=>∃(kws:List (Key×V)) (g:Nat->Option Int) (v6 v10:Option V),σ=[some (.ref x),some (.ref rw'),some (.ref rl),some (.ref r1),some (.ref r2),some (.ref r3),v6,v7,some (.ref pc),some (.str (bA cw)),v10]/\(∀b u,b≠r3->H8 b=some u->H' b=some u)/\H' r3=some (.dK kws)/\Lk kws g/\FlOnly g/\∀c,aK g c=aK t c-aK f c-cnt (bD hs (List.range i)) c-cnt (cs.take k') c)
      ⟨kws,g,_,_,rfl,λb u _ e=>e,e8d,lg,gfl,λc=>by rw[hg c,Ez];show _=_-((0:Nat):Int);omega⟩ (λk' σ H' _ ⟨_,_,_,_,_,fr,_⟩=>xX e8 np3 fr) ?_ ?_
     ·rintro k' xx σ H9 pk hxk ⟨kws,g,v6,v10,rfl,fr9,e9,lg,gfl,hg⟩ hpk;obtain⟨d,hd,rfl⟩:=cZS hxk;have hk':k' < cw.length:=by rw[<-hgg.1];exact(Ad.mp hd).1
      have hdc:=hgg.2 k' d hd
      have hdf:cY d:=dZK hcL hk' hdc
      have hl27:=aJA lg gfl
      have k10:=aG hpk (.tup [.int ((0+k':Nat):Int),.str (one d)])
      have t10:=cF (show (upd H9 pk (.tup [.int ((0+k':Nat):Int),.str (one d)])) pk=_ from aE)
      have e10:=k10 _ _ e9
      have fr10:∀b u,b≠r3->H8 b=some u->(upd H9 pk (.tup [.int ((0+k':Nat):Int),.str (one d)])) b=some u:=λb u n e=>k10 _ _ (fr9 b u n e)
      generalize upd H9 pk (.tup [.int ((0+k':Nat):Int),.str (one d)])=H10 at k10 t10 e10 fr10 ⊢;walk_at "go";refine⟨cw,k',_,rfl,by omega,hk',hc7,λrc H11 hrc s11 er11=>?_⟩
      refine cXE (neg:=true) (aR er11) rfl (fL _) ?_;rw[cZ6,Aj hdc,show (if true=true then !true else true)=false from rfl]
      have e11:=s11 _ _ e10
      have hD11:=dW e11
      walk_at "go";refine jQ (z:=one d) (.inl e11) ?_;rw[lg.val d,dZ];walk_at "go";refine fX (z:=one d) e11 (bK (by omega)) ?_
      refine⟨_,_,_,_,rfl,λb u n e=>by rw[aJ n];exact s11 _ _ (fr10 b u n e),aE,lg.put d _,gfl.put hdf,λc=>?_⟩
      rw[kL,kY hd c];have h1:=hg c
      by_cases z:c=d
      ·subst z;rw[if_pos rfl,if_pos rfl];omega
      ·rw[if_neg z,if_neg z];omega
     ·rintro σ H9 ⟨kws,g,v6,v10,rfl,fr9,e9,lg,gfl,hg⟩;rw[hsl',<-hgg.1,Br]at hg;refine⟨kws,g,_,_,_,_,_,rfl,λb u n e=>fr9 b u n (s8 _ _ (fr7 b u n e)),e9,lg,gfl,λc=>?_⟩;rw[hg c,hrs c,show cQ hs i=cs by unfold cQ;rw[e1'];rfl]
      omega
  ·rintro σ H6 ⟨kws,g,v6,v7,v8,v9,v10,rfl,fr6,e6,lg,gfl,hg⟩;rw [hul1,hwl,Nat.min_self] at hg;have hz:∀ c,aK g c=0:=λc=>by
    have:=hg c
    have:=heq c
    unfold fA at this;omega
   have hl27:=aJA lg gfl
   walk_at "go";refine aZZ e6 λo=>?_;have fz6:(upd H6 r3 (.frz o (.dK kws))) r3=_:=aE
   refine iA (n:=kws.length) (λD i ys Hc=>Same (upd H6 r3 (.frz o (.dK kws))) Hc/\ys=[]) (bK (by omega)) (λD hD=>⟨aG hD _,rfl⟩) (λD i ys Hc _ r h=>⟨r.1 _ _ fz6,h⟩) (λD ys Hc _ r=>⟨r.1 _ _ fz6,rfl⟩) ?_ ?_
   ·rintro D i2 ys Hc v H' A' B' hD hi2 ⟨sm,rfl⟩ hDc ⟨rfl,kv,hkv,rfl⟩ hA' hB';obtain⟨c,n,ekv,hn⟩:=lg.at_mem (An hkv);have hn0:n=0:=by have:=hz c;unfold aK at this;rw[hn]at this;exact this
    subst hn0;rw[ekv];dsimp only[kV];have fzc:=sm _ _ fz6
    have hdc:=aJM fzc
    walk_at "go";refine⟨Wk.set rfl (Wk.refl _),?_⟩;walk_at "go";refine nQ (z:=one c) (.inr ⟨o,fzc⟩) (by rw[lg.val c,hn];rfl) ?_
    walk_at "go";rw[show (!decide ((0:Int)=0))=false from rfl];walk_at "go";exact hB' _ hDc ⟨sm,rfl⟩
   ·rintro D ys Hc hD ⟨sm,rfl⟩ hDc _;have hD6:H6 D=none:=by
     by_cases z:D=r3
     ·rw[z,aE]at hD;cases hD
     ·rw[aJ z]at hD;exact hD
    have sU:Same H6 (unf H6 Hc):=oW e6 (λo v z=>nomatch z) sm
    have eD:(unf H6 Hc) D=some (.lst []):=dP hDc λ_ _=>nofun
    generalize unf H6 Hc=H7 at sU eD ⊢;refine⟨by decide,λp hp=>?_⟩
    refine dZP (aO (aG hp _) (aR eD)) bO rfl rfl ?_;exact q _ λb u e=>aG hp _ b u (sU _ _ (fr6 b u (λz=>by rw[z,hr30]at e;cases e) (s03 _ _ e)))
def aJX{b' dp:Addr}{m:Nat}{f:Nat->Option Int}{dps:List Addr}{d:Dd}(ex:H x=some (.ins C dx (twF b' m s0 st hg dd)))(tw:TwO H hg st hs f)(hsl:hs.length=m)(hm:m<=6)(hD:H dp=some (.tup d.vs))(hok:d.ok m)(hdd:H dd=some (.lst (dps.map V.ref)))(hdl:dps.length<=1000)(ngd:hg≠dd)(q:∀hs' f' st' hg' H2,SameE [x,dd] H H2->H2 x=some (.ins C dx (twF b' m s0 st' hg' dd))->H2 dd=some (.lst ((dps++[dp]).map V.ref))->hs'.length=m->hg'≠dd->(hg'=hg\/H hg'=none)->H st'=none->d.done hs f hs' f'->TwO H2 hg' st' hs' f'->Q .non H2)(qe:d.no aL aS aF hs f E H):gR C aL aS aF [.ref x,.ref dp] H Q E:=by
 obtain⟨z,zs,e1,e2⟩:∃z zs,H dp=some (.tup (.str z::zs))/\things.lookup z=some (((V.str z::zs).length:Nat):Int):=by
  cases d with
  |haul n cw=>exact⟨_,_,hD,rfl⟩
  |lose z=>exact⟨_,_,hD,rfl⟩
  |find z=>exact⟨_,_,hD,rfl⟩
 refine⟨x,b',s0,st,hg,dd,dp,dx,m,z,zs,_,rfl,ex,e1,e2,hdd,by rw[Ab];exact hdl,λp0 hp0=>?_⟩
 have k1:=aG hp0 (.tup [])
 refine⟨b',hg,st,dp,hs,f,d,rfl,⟨tw.1.keepS k1,tw.2⟩,by omega,k1 _ _ hD,by rw[hsl];exact hok,λt B' R' hs' f' H1 s1 _ et hB hR hdn tw'=>?_,qe.keep k1⟩
 have s01:=k1.trans s1
 have ex1:=s01 _ _ ex
 have ed1:=s01 _ _ hdd
 have ndx:dd≠x:=λz=>by rw[z,ex1]at ed1;cases ed1
 have hB2:B'=hg\/H B'=none:=hB.imp id λz=>none_of k1 z
 have nBd:B'≠dd:=by
  rcases hB2 with z|z
  ·rw[z];exact ngd
  ·exact λy=>by rw[y,hdd]at z;cases z
 refine⟨t,B',R',rfl,et,ex1,ed1,(λys z=>by rw[ex1]at z;cases z),?_⟩
 rw[show dps.map V.ref++[V.ref dp]=(dps++[dp]).map V.ref by rw[Ar];rfl]
 have sE:SameE [x,dd] H1 (upd (upd H1 x (.ins C dx (twF b' m s0 R' B' dd))) dd (.lst ((dps++[dp]).map V.ref))):=λb o nb e=>by
  rw[aJ (λz=>nb (by rw[z];exact Am _ (Al ..))),aJ (λz=>nb (by rw[z];exact Al ..))]
  exact e
 obtain⟨us,u1,u2⟩:=id tw'.1.hal;have hl:hs'.length=m:=by
  cases d with
  |haul n cw=>rw[hdn.1,hsl]
  |lose z=>rw[hdn.1,hsl]
  |find z=>rw[hdn.1,hsl]
 refine q hs' f' R' B' _ ((SameE.of s01).trans sE) (by rw[aJ (Ne.symm ndx)];exact aE) aE hl nBd hB2 (none_of k1 hR) hdn ⟨tw'.1.keepE sE (no2 (λz=>by rw[z,ex1]at u1;cases u1) nBd) (λkvs e=>no2 (λz=>by rw[z,ex1]at e;cases e) (λz=>by rw[z,ed1]at e;cases e)) (λp c cs e=>no2 (λz=>by rw[z,ex1]at e;cases e) (λz=>?_)),tw'.2⟩
 rw[z,ed1]at e;have e':dps.map V.ref=V.str (one c)::cs:=by injection Bl e
 cases dps with
 |nil=>cases e'
 |cons d ds=>injection e' with e1 _;cases e1
def Dd.flg:Dd->Prop
 |.haul _ _=>False
 |.lose z=>z.length<=1000
 |.find z=>z.length<=1000
def Dd.z:Dd->Str
 |.haul _ _=>Str.empty
 |.lose z=>z
 |.find z=>z
def Dd.nm:Dd->Str
 |.haul _ _=>Str.ofString "haul"
 |.lose _=>Str.ofString "lose"
 |.find _=>Str.ofString "find"
def Dd.vs_eq{d:Dd}(h:d.flg):d.vs=[.str d.nm,.str d.z]:=by
 cases d with
 |haul n cw=>exact h.elim
 |lose z=>rfl
 |find z=>rfl
def Dd.flg_ok{d:Dd}(h:d.flg)(m:Nat):d.ok m:=by
 cases d with
 |haul n cw=>exact h.elim
 |lose z=>exact h
 |find z=>exact h
def Dd.zl{d:Dd}(h:d.flg):d.z.length<=1000:=by
 cases d with
 |haul n cw=>exact h.elim
 |lose z=>exact h
 |find z=>exact h
def cdZ(z:Str):Nat:=z.cps.toList.headD 0
def wNo:Str:=Str.ofString "no flag"
def wSh:Str:=Str.ofString "short"
def wDo:Str:=Str.ofString "done"
def Dd.word(hs:List (Option (List Nat)))(f:Nat->Option Int):Dd->Str
 |.haul _ _=>wNo
 |.lose z=>if cD z=true then (if 0<aK f (cdZ z) then wDo else wSh) else wNo
 |.find z=>if cD z=true then (if fA f hs (cdZ z)<99 then wDo else wNo) else wNo
def zB:wNo≠wDo:=by decide +kernel
def dJO:wSh≠wDo:=by decide +kernel
def Dd.no_of{f:Nat->Option Int}{d:Dd}(hf:d.flg)(h1:∀H',Same H H'->d.word hs f=wNo->E (.ref aF) none H')(h2:∀(dx:Addr) (H':Hp),Same H H'->d.word hs f=wSh->H' dx=some (xdO dx [("flag",.str d.z)])->E (.ref aS) (some dx) H'):d.no aL aS aF hs f E H:=by
 cases d with
 |haul n cw=>exact hf.elim
 |lose z=>
  refine⟨λa H' s'=>h1 H' s' (by show (if _ then _ else _)=_;rw[a];rfl),λc a b e dx H' s' x'=>h2 dx H' s' ?_ x'⟩
  subst a;show (if cD (one c)=true then (if 0<aK f c then wDo else wSh) else wNo)=wSh
  rw[if_pos (by rw[eE];exact Aj b),if_neg (by omega)]
 |find z=>
  refine⟨λa H' s'=>h1 H' s' (by show (if _ then _ else _)=_;rw[a];rfl),λc a b e H' s'=>h1 H' s' ?_⟩
  subst a;show (if cD (one c)=true then (if fA f hs c<99 then wDo else wNo) else wNo)=wNo
  rw[if_pos (by rw[eE];exact Aj b),if_neg (by omega)]
def Dd.done_word{hs':Q3}{f f':Nat->Option Int}{d:Dd}(hf:d.flg)(h:d.done hs f hs' f'):d.word hs f=wDo/\hs'=hs:=by
 cases d with
 |haul n cw=>exact hf.elim
 |lose z=>
  obtain⟨e,c,rfl,hc,hp,_⟩:=h;refine⟨?_,e⟩;show (if cD (one c)=true then (if 0<aK f c then wDo else wSh) else wNo)=wDo
  rw[if_pos (by rw[eE];exact Aj hc),if_pos hp]
 |find z=>
  obtain⟨e,c,rfl,hc,hp,_⟩:=h;refine⟨?_,e⟩;show (if cD (one c)=true then (if fA f hs c<99 then wDo else wNo) else wNo)=wDo
  rw[if_pos (by rw[eE];exact Aj hc),if_pos hp]
def oN(C:Addr):Sp:=λvs H Q _=>∃(x dx b' s0 st hg dd dp:Addr) (m:Nat) (hs:List (Option (List Nat))) (f:Nat->Option Int) (dps:List Addr) (d:Dd),vs=[.ref x,.ref dp]/\H x=some (.ins C dx (twF b' m s0 st hg dd))/\TwO H hg st hs f/\hs.length=m/\m<=6/\H dp=some (.tup d.vs)/\d.flg/\H dd=some (.lst (dps.map V.ref))/\dps.length<=1000/\hg≠dd/\
 (∀(f':Nat->Option Int) (st' hg':Addr) (H2:Hp),d.word hs f=wDo->SameE [x,dd] H H2->H2 x=some (.ins C dx (twF b' m s0 st' hg' dd))->H2 dd=some (.lst ((dps++[dp]).map V.ref))->hg'≠dd->(hg'=hg\/H hg'=none)->H st'=none->d.done hs f hs f'->TwO H2 hg' st' hs f'->Q (.str wDo) H2)/\
 (∀H2,d.word hs f≠wDo->Same H H2->Q (.str (d.word hs f)) H2)
def sc_l_word_of:FnScope ["_law_tower", "_law_deed", "_law_found", "e"] ["_law_tower", "_law_deed"] (aM lF):=by walk_at "sc"
def yJ(F:Fun K "_law_word_of" "_law_word_of" lF f fd)(G:Gs K mg w Zs Zz Zt Zx Z0 Zv Zy Zw Zu)(c_Tower_do:uY (CXr P w) P w K mg base 15 Z0 "do" ["self", "deed"] (gR Z0 Zs Zt Zu)):FnOk P w K mg base CX0 17 f fd ["_law_tower", "_law_deed"] (oN Z0):=by
 refine F.ok sc_l_word_of (λvs H Q E h=>?_) (λcdv A outer s H vs Q E hr h=>?_)
 ·obtain⟨x,dx,b',s0,st,hg,dd,dp,m,hs,f,dps,d,rfl,_⟩:=h;rfl
 obtain⟨x,dx,b',s0,st,hg,dd,dp,m,hs,f,dps,d,rfl,ex,tw,hsl,h6,hD,hfl,edd,hdl,ngd,qd,qn⟩:=h;refine⟨_,(@aD _ _ _ _ _ (cZI (i:=3) rfl rfl rfl sc_l_word_of.nd rfl rfl rfl G.c_TowerError (λpins R=>(@aH _ _ _ (aP 2 sc_l_word_of.nd (aJT c_Tower_do G.cl_Tower (nJ rfl) hr (by decide) (mv 0) (aA (mv 1) aB))))) (λpins ea=>(@aD _ _ _ _ _ (bU (PW.pt (jR (gL (cX (aU (zC (K:=K) rfl) rfl G.b_isinstance cC (aA (mv 3) (aA (pG rfl G.b_ValueError vK) aB))))) (iC (aY hJ (aU (zC (K:=K) rfl) rfl G.b_isinstance cC (aA (mv 3) (aA (yL rfl G.c_Short) aB))) (aU (zC (K:=K) rfl) rfl G.b_isinstance cC (aA (mv 3) (aA (yL rfl G.c_NoFlag) aB))) (aW _))))) (@aH _ _ _ (aT cW)) bC) (@aD _ _ _ _ _ (bU (cX (aU (zC (K:=K) rfl) rfl G.b_isinstance cC (aA (mv 3) (aA (yL rfl G.c_Short) aB)))) (@aH _ _ _ (aT (@bE _ _ _ _ _ _ _ bS (bR (@bT _ _ _ _ _ _ (@bT _ _ _ _ _ _ aB))) (bN uD rfl G.b_int iF (aA (cZ hJ (uK (K:=K) rfl (mv 3) rfl) (bE bS (mv 1) aI (λ_ _=>rfl)) (aW _)) aB)) (λ_ _=>rfl)))) bC) (@aH _ _ _ (aT cW)))))) (@aH _ _ _ (aT (@bE _ _ _ _ _ _ _ bS (bR (@bT _ _ _ _ _ _ (@bT _ _ _ _ _ _ aB))) (bN uD rfl G.b_int iF (aA (cZ aQ9 (mv 2) dS (aW _)) aB)) (λ_ _=>rfl))))),?_⟩
 have hD2:=hD
 rw[Dd.vs_eq hfl]at hD2;have tt:=cF hD2
 walk_at "go";refine⟨x,dx,_,rfl,ex,aXC,?_⟩;walk_at "go";refine aJX (d:=d) ex tw hsl h6 hD (Dd.flg_ok hfl m) edd hdl ngd (λhs' f' st' hg' H2 sE x2 d2 hl2 ngd2 hfr hst hdone tw2=>?_) (Dd.no_of hfl (λH2 s2 hw=>⟨G.m_NoFlag_TE,λea hea=>?_⟩) (λdy H2 s2 hw ey=>⟨G.m_Short_TE,λea hea=>?_⟩))
 ·obtain⟨hw,rfl⟩:=Dd.done_word hfl hdone;walk_at "go";refine⟨by show 2<=sizeLine;decide,λp hp=>?_⟩
  have k3:=aG hp (.lst [V.str (Str.ofString "odd"),V.str (Str.ofString "done")])
  have r3:rdL (upd H2 p (.lst [V.str (Str.ofString "odd"),V.str (Str.ofString "done")])) p=some [V.str (Str.ofString "odd"),V.str (Str.ofString "done")]:=bO
  generalize upd H2 p (.lst [V.str (Str.ofString "odd"),V.str (Str.ofString "done")])=H3 at k3 r3 ⊢;walk_at "go";refine dF r3 (v:=.str (Str.ofString "done")) (aV (j:=1) rfl) ?_;exact qd f' st' hg' H3 hw (sE.trans (.of k3)) (k3 _ _ x2) (k3 _ _ d2) ngd2 hfr hst hdone ⟨tw2.1.keepS k3,tw2.2⟩
 ·have he:(upd H2 ea (gM ea (Value.ref Zu) none)) ea=some (gM ea (Value.ref Zu) none):=aE
  have k3:=aG hea (gM ea (Value.ref Zu) none)
  have Z:ExK K Zu:=⟨G.nf1,G.nf2,G.nf3,G.nf4,G.xe5_Short,G.xe6_Short,G.nf7,G.nf8⟩
  walk_at "go";generalize upd H2 ea (gM ea (Value.ref Zu) none)=H3 at he k3 ⊢;refine xL he Z rfl G.kF1 ?_;walk_at "go";refine xL he Z rfl G.kF2 ?_;walk_at "go";refine xL he Z rfl G.kF3 ?_;walk_at "go";rw[show decide (false=true)=false from rfl];walk_at "go";refine xL he Z rfl G.kF2 ?_;walk_at "go";have r:=qn H3 (by rw[hw];exact zB) (s2.trans k3)
  rw[hw]at r;exact r
 ·have he:(upd H2 ea (gM ea (Value.ref Zt) (some dy))) ea=some (gM ea (Value.ref Zt) (some dy)):=aE
  have k3:=aG hea (gM ea (Value.ref Zt) (some dy))
  have hd3:=k3 _ _ ey
  have tp3:=k3 _ _ (s2 _ _ hD2)
  have Z:=G.xx_Short
  walk_at "go";generalize upd H2 ea (gM ea (Value.ref Zt) (some dy))=H3 at he k3 hd3 tp3 ⊢;refine yN he hd3 Z rfl G.kS1 ?_;walk_at "go";refine yN he hd3 Z rfl G.kS2 ?_;walk_at "go";refine yN he hd3 Z rfl G.kS3 ?_;walk_at "go";rw[show decide (true=false)=false from rfl];walk_at "go";refine yN he hd3 Z rfl G.kS2 ?_;walk_at "go";refine⟨by show 2<=sizeLine;decide,λp hp=>?_⟩
  have k4:=aG hp (.lst [V.str (Str.ofString "odd"),V.str (Str.ofString "short")])
  have r4:rdL (upd H3 p (.lst [V.str (Str.ofString "odd"),V.str (Str.ofString "short")])) p=some [V.str (Str.ofString "odd"),V.str (Str.ofString "short")]:=bO
  have he4:=k4 _ _ he
  have hd4:=k4 _ _ hd3
  have tp4:=k4 _ _ tp3
  generalize upd H3 p (.lst [V.str (Str.ofString "odd"),V.str (Str.ofString "short")])=H4 at k4 r4 he4 hd4 tp4 ⊢;walk_at "go";refine⟨ea,Zt,dy,_,_,rfl,.inl he4,hd4,Z,G.xn_Short_flag,rfl,?_⟩;walk_at "go";refine bX tp4 (v:=.str d.z) (aV (j:=1) rfl) ?_;walk_at "go";rw[show decide (d.z=d.z)=true from Aj rfl];walk_at "go";refine dF r4 (v:=.str (Str.ofString "short")) (aV (j:=1) rfl) ?_;have r:=qn H4 (by rw[hw];exact dJO) (s2.trans (k3.trans k4))
  rw[hw]at r;exact r
def Dd.word_no{f:Nat->Option Int}{d:Dd}(hf:d.flg)(h:cD d.z=false):d.word hs f=wNo:=by
 have n:¬cD d.z=true:=by rw[h];decide
 cases d with
 |haul n cw=>exact hf.elim
 |lose z=>exact if_neg n
 |find z=>exact if_neg n
def aQH(C:Addr):Sp:=λvs H Q _=>∃(x rw' rl dx b' s0 dd dp:Addr) (m k:Nat) (hs:List (Option (List Nat))) (f t:Nat->Option Int) (wv:List (Option (List Nat))) (d:Dd),vs=[.ref x,.ref rl,.ref dp]/\S54 C H x rw' rl dx b' s0 dd m k hs f t wv/\H dp=some (.tup d.vs)/\d.flg/\∀H',Same H H'->Q (.str (d.word hs f)) H'
def bJJ:FnScope ["_law_tower", "_law_totals", "_law_deed"] ["_law_tower", "_law_totals", "_law_deed"] (aM zJ):=by walk_at "sc"
def bZ0(F:Fun K "_law_due" "_law_due" zJ f fd)(G:Gs K mg w Zs Zz Zt Zx Z0 Zv Zy Zw Zu)(c_Tower_locker:uY CX0 P w K mg base 2 Z0 "locker" ["self"] (eC Z0)):FnOk P w K mg base CX0 4 f fd ["_law_tower", "_law_totals", "_law_deed"] (aQH Z0):=by
 refine F.ok bJJ (λvs H Q E h=>?_) (λcdv A outer s H vs Q E hr h=>?_)
 ·obtain⟨x,rw',rl,dx,b',s0,dd,dp,m,k,hs,f,t,wv,d,rfl,_⟩:=h;rfl
 obtain⟨x,rw',rl,dx,b',s0,dd,dp,m,k,hs,f,t,wv,d,rfl,S,hD,hfl,q⟩:=h;refine⟨_,(@aD _ _ _ _ _ (bU (PW.pt (jR (aY aQL (aU dG rfl G.b_len bY (aA (bE bS (mv 2) aI (λ_ _=>rfl)) aB)) aI (aW _)) (iC (aY cQ3 (bE bS (mv 2) aI (λ_ _=>rfl)) cW (by rfl))))) (@aH _ _ _ (aT cW)) bC) (@aD _ _ _ _ _ (bU (aY hJ (bE bS (mv 2) aI (λ_ _=>rfl)) cW (aW _)) (@aH _ _ _ (aT (@bE _ _ _ _ _ _ _ bS (bR (@bT _ _ _ _ _ _ (@bT _ _ _ _ _ _ aB))) (bN uD rfl G.b_int iF (aA (cZ aXQ (cR Bb Bv (jX (Room.u1 hr)) (iV c_Tower_locker G.cl_Tower hr (by decide) (mv 0)) (aA (bE bS (mv 2) aI (λ_ _=>rfl)) (aA aI aB))) aI (aW _)) aB)) (λ_ _=>rfl)))) bC) (@aH _ _ _ (aT (@bE _ _ _ _ _ _ _ bS (bR (@bT _ _ _ _ _ _ (@bT _ _ _ _ _ _ aB))) (bN uD rfl G.b_int iF (aA (cZ zF (cR Bb Bv (jX (Room.u1 hr)) (mv 1) (aA (bE bS (mv 2) aI (λ_ _=>rfl)) (aA aI aB))) aI (aW _)) aB)) (λ_ _=>rfl)))))),?_⟩
 obtain⟨⟨st,hg,dps,ex,⟨tw,hfo⟩,ngd,ngw,nsl,edd,hdl⟩,hsl,m6,erw,nrd,two,hfit,⟨kvt,erl,lkt⟩,tfl,heq⟩:=S;obtain⟨⟨us,hB,hat⟩,ok,⟨kvs,hR,lk⟩,hpos⟩:=tw;have tp:=hD
 rw[Dd.vs_eq hfl]at tp;have tt:=cF tp
 have hzl:=Dd.zl hfl
 walk_at "go";refine bX tp (v:=.str d.z) (aV (j:=1) rfl) ?_;walk_at "go";by_cases hz:d.z.length=1
 ·rw[show (!decide (((d.z.length:Nat):Int)=1))=false by rw[Aj (show ((d.z.length:Nat):Int)=1 by omega)];rfl]
  walk_at "go";refine bX tp (v:=.str d.z) (aV (j:=1) rfl) ?_;walk_at "go";rw[show subIn d.z (Str.ofString "abcdefghijklmnopqrstuvw1234")=cD d.z from(if_pos hz).symm];cases eb:cD d.z with
  |false=>
   walk_at "go";have r:=q H (Same.refl _)
   rw[Dd.word_no hfl eb]at r;exact r
  |true=>
   obtain⟨c,hc,hcf⟩:=lP eb;have hcf:cY c:=hcf
   have lw:=dI (aK f)
   have hcp:aK (bJ (aK f)) c=aK f c:=cN hcf (hpos c)
   rw[show (if true=true then !true else true)=false from rfl]
   walk_at "go";refine bX tp (v:=.str d.nm) (aV (j:=0) rfl) ?_;walk_at "go";cases d with
   |haul n cw=>exact hfl.elim
   |lose z=>
    obtain rfl:z=one c:=hc;rw[show decide ((Dd.lose (one c)).nm=Str.ofString "lose")=true from Aj rfl];walk_at "go";refine⟨by show 2<=sizeLine;decide,λp hp=>?_⟩
    have k1:=aG hp (.lst [V.str (Str.ofString "short"),V.str (Str.ofString "done")])
    have r1:rdL (upd H p (.lst [V.str (Str.ofString "short"),V.str (Str.ofString "done")])) p=some [V.str (Str.ofString "short"),V.str (Str.ofString "done")]:=bO
    generalize upd H p (.lst [V.str (Str.ofString "short"),V.str (Str.ofString "done")])=H1 at k1 r1 ⊢;walk_at "go";refine⟨x,dx,_,rfl,k1 _ _ ex,gC,?_⟩;walk_at "go";refine⟨x,b',s0,st,hg,dd,dx,m,kvs,f,rfl,k1 _ _ ex,.inl (k1 _ _ hR),lk,λr2 H2 hr2 s2 e2=>?_⟩;have hD2:=dW e2
    have s02:=k1.trans s2
    have r12:=aO s2 r1
    walk_at "go";refine bX (s02 _ _ tp) (v:=.str (one c)) (aV (j:=1) rfl) ?_;walk_at "go";refine jQ (z:=one c) (.inl e2) ?_;rw[lw.val c,dZ,hcp];walk_at "go";have r:=q H2 s02
    have ew:(Dd.lose (one c)).word hs f=if 0<aK f c then wDo else wSh:=if_pos eb
    rw[ew]at r;by_cases h0:0<aK f c
    ·rw[if_pos h0]at r;rw[Aj h0];refine dF r12 (v:=.str (Str.ofString "done")) (aV (j:=1) rfl) ?_;exact r
    ·rw[if_neg h0]at r;rw[Aw h0];refine dF r12 (v:=.str (Str.ofString "short")) (aV (j:=0) rfl) ?_;exact r
   |find z=>
    obtain rfl:z=one c:=hc;rw[show decide ((Dd.find (one c)).nm=Str.ofString "lose")=false from(by decide +kernel:decide (Str.ofString "find"=Str.ofString "lose")=false)]
    walk_at "go";refine⟨by show 2<=sizeLine;decide,λp hp=>?_⟩
    have k1:=aG hp (.lst [V.str (Str.ofString "no flag"),V.str (Str.ofString "done")])
    have r1:rdL (upd H p (.lst [V.str (Str.ofString "no flag"),V.str (Str.ofString "done")])) p=some [V.str (Str.ofString "no flag"),V.str (Str.ofString "done")]:=bO
    generalize upd H p (.lst [V.str (Str.ofString "no flag"),V.str (Str.ofString "done")])=H1 at k1 r1 ⊢;have hDt:=dW (k1 _ _ erl)
    walk_at "go";refine bX (k1 _ _ tp) (v:=.str (one c)) (aV (j:=1) rfl) ?_;walk_at "go";refine jQ (z:=one c) (.inl (k1 _ _ erl)) ?_;rw[lkt.val c,dZ,heq c];walk_at "go";have r:=q H1 k1
    have ew:(Dd.find (one c)).word hs f=if fA f hs c<99 then wDo else wNo:=if_pos eb
    rw[ew]at r;by_cases h0:fA f hs c<99
    ·rw[if_pos h0]at r;rw[Aj h0];refine dF r1 (v:=.str (Str.ofString "done")) (aV (j:=1) rfl) ?_;exact r
    ·rw[if_neg h0]at r;rw[Aw h0];refine dF r1 (v:=.str (Str.ofString "no flag")) (aV (j:=0) rfl) ?_;exact r
 ·rw[show (!decide (((d.z.length:Nat):Int)=1))=true by rw[Aw (show ¬((d.z.length:Nat):Int)=1 by omega)];rfl]
  walk_at "go";have r:=q H (Same.refl _)
  rw[Dd.word_no hfl (kK hz)]at r;exact r
def Dd.tot(hs:List (Option (List Nat)))(f t:Nat->Option Int)(d:Dd):Nat->Option Int:=if d.word hs f=wDo then (λe=>if e=cdZ d.z then some (aK t (cdZ d.z)+(match d with|.find _=>1|_=>-1)) else t e) else t
def sqE{K:W.Frag}{a:Addr}(h:SqL K H a xs)(hn:∀p∈l,H p=none)(s:SameE l H H'):SqL K H' a xs:=by
 have n:∀ {u},H a=some u->a∉l:=λe z=>by rw[hn a z]at e;cases e
 rcases h with(h|⟨o,h⟩)|h
 ·exact .inl (.inl (s _ _ (n h) h))
 ·exact .inl (.inr ⟨o,s _ _ (n h) h⟩)
 ·exact .inr h
def dXX{f f':Nat->Option Int}{c:Nat}{v:Int}(h:∀d,aK f' d=aK f d+(if d=c then v else 0))(d:Nat):fA f' hs d=fA f hs d+(if d=c then v else 0):=by
 unfold fA;have:=h d
 omega
def HalsAt.frame{X:Addr->Prop}(a:HalsAt H us hs)(h:∀p u,¬X p->H p=some u->H' p=some u)(hx:∀p xs,V.ref p∈us->H p=some (.lst xs)->¬X p):HalsAt H' us hs:=
 ⟨a.len,λj v o hv ho=>by
  have r:=a.val j v o hv ho
  cases o with
  |none=>exact r
  |some cs=>
   obtain⟨p,rfl,hp⟩:=r;exact⟨p,rfl,h p _ (hx p _ (An hv) hp) hp⟩⟩
def dX2{y z:Addr}(h:p∈[x,y]):p∈[x,y,z]:=by
 rcases Az.mp h with e|e
 ·rw[e];exact Al ..
 ·rw[Ak.mp e];exact Am _ (Al ..)
def wC(C:Addr):Sp:=λvs H Q _=>∃(x rw' rl dx b' s0 dd dp:Addr) (m k:Nat) (hs:List (Option (List Nat))) (f t:Nat->Option Int) (wv:List (Option (List Nat))) (d:Dd),vs=[.ref x,.ref rw',.ref rl,.ref dp]/\S54 C H x rw' rl dx b' s0 dd m k hs f t wv/\k<=500/\H dp=some (.tup d.vs)/\d.flg/\
 ∀(f':Nat->Option Int) (H':Hp),SameE [x,dd,rl] H H'->S54 C H' x rw' rl dx b' s0 dd m (k+1) hs f' (d.tot hs f t) wv->Q (.bl true) H'
def sc_l_step:FnScope ["_law_tower", "_law_words", "_law_totals", "_law_deed", "_law_due_here", "_law_hoists", "_law_before", "_law_turn"] ["_law_tower", "_law_words", "_law_totals", "_law_deed"] (aM uE):=by walk_at "sc"
def bXG(F:Fun K "_law_step" "_law_step" uE f fd)(G:Gs K mg w Zs Zz Zt Zx Z0 Zv Zy Zw Zu)(c_l_due:Cal P w K mg base 4 "_law_due" ["_law_tower", "_law_totals", "_law_deed"] (aQH Z0))(c_Tower_halyards:uY CX0 P w K mg base 1 Z0 "halyards" ["self"] (eV Z0))(c_l_word_of:Cal P w K mg base 17 "_law_word_of" ["_law_tower", "_law_deed"] (oN Z0))(c_l_holds:Cal P w K mg base 4 "_law_holds" ["_law_tower", "_law_words", "_law_totals"] (rT Z0))(c_Tower_locker:uY CX0 P w K mg base 2 Z0 "locker" ["self"] (eC Z0)):FnOk P w K mg base CX0 18 f fd ["_law_tower", "_law_words", "_law_totals", "_law_deed"] (wC Z0):=by
 refine F.ok sc_l_step (λvs H Q E h=>?_) (λcdv A outer s H vs Q E hr h=>?_)
 ·obtain⟨x,rw',rl,dx,b',s0,dd,dp,m,k,hs,f,t,wv,d,rfl,_⟩:=h;rfl
 obtain⟨x,rw',rl,dx,b',s0,dd,dp,m,k,hs,f,t,wv,d,rfl,S,hk,hD,hfl,q⟩:=h;refine⟨_,(@aD _ _ _ _ _ (aP 4 sc_l_step.nd (aZ c_l_due hr (by decide) rfl (aA (mv 0) (aA (mv 2) (aA (mv 3) aB))))) (@aD _ _ _ _ _ (aP 5 sc_l_step.nd (iV c_Tower_halyards G.cl_Tower hr (by decide) (mv 0))) (@aD _ _ _ _ _ (aP 6 sc_l_step.nd (cR Bb Bv (jX (Room.u1 hr)) (iV c_Tower_locker G.cl_Tower hr (by decide) (mv 0)) (aA (bE bS (mv 3) aI (λ_ _=>rfl)) (aA aI aB)))) (@aD _ _ _ _ _ (bU (aY aQL (aZ c_l_word_of hr (by decide) rfl (aA (mv 0) (aA (mv 3) aB))) (mv 4) (aW _)) (@aH _ _ _ (aT iP)) bC) (@aD _ _ _ _ _ (bU (aY hJ (mv 4) cW (aW _)) (@aD _ _ _ _ _ (aP 7 sc_l_step.nd (@bE _ _ _ _ _ _ _ bS (bR (aA aI (aA (bJO cZX aI) aB))) (bN uD rfl G.b_int iF (aA (cZ hJ (bE bS (mv 3) aI (λ_ _=>rfl)) cW (aW _)) aB)) (λ_ _=>rfl))) (@aD _ _ _ _ _ (eT (Room.u1 hr) (mv 2) (bE bS (mv 3) aI (λ_ _=>rfl)) (aQ cB (cR Bb Bv (jX (Room.u1 hr)) (mv 2) (aA (bE bS (mv 3) aI (λ_ _=>rfl)) (aA aI aB))) (mv 7)) rfl) (@aH _ _ _ (bU (aY aQL (cR Bb Bv (jX (Room.u1 hr)) (iV c_Tower_locker G.cl_Tower hr (by decide) (mv 0)) (aA (bE bS (mv 3) aI (λ_ _=>rfl)) (aA aI aB))) (aQ cB (mv 6) (mv 7)) (aW _)) (@aH _ _ _ (aT iP)) bC)))) bC) (@aH _ _ _ (aT (sQ (cZ (eJF hr.units) (iV c_Tower_halyards G.cl_Tower hr (by decide) (mv 0)) (mv 5) (aW _)) (rZ (aZ c_l_holds hr (by decide) rfl (aA (mv 0) (aA (mv 1) (aA (mv 2) aB))))))))))))),?_⟩
 have tp:=hD
 rw[Dd.vs_eq hfl]at tp;have tt:=cF tp
 walk_at "go";refine⟨x,rw',rl,dx,b',s0,dd,dp,m,k,hs,f,t,wv,d,rfl,S,hD,hfl,λH1 s1=>?_⟩;have S1:=S.keep s1
 have S0:=S
 obtain⟨⟨st,hg,dps,ex,⟨tw,hfo⟩,ngd,ngw,nsl,edd,hdl⟩,hsl,m6,erw,nrd,two,hfit,⟨kvt,erl,lkt⟩,tfl,heq⟩:=S;obtain⟨⟨us,hB,hat⟩,ok,⟨kvs,hR,lk⟩,hpos⟩:=id tw;have hul:=hat.len
 have lw:=dI (aK f)
 walk_at "go";refine⟨x,dx,_,rfl,s1 _ _ ex,eQ,?_⟩;walk_at "go";refine⟨x,b',s0,st,hg,dd,dx,m,us,hs,rfl,s1 _ _ ex,aR (s1 _ _ hB),hat.keep s1,by omega,λr2 us2 H2 hr2 s2 e2 hat2 hfr2=>?_⟩
 have s02:=s1.trans s2
 walk_at "go";refine⟨x,dx,_,rfl,s02 _ _ ex,gC,?_⟩;walk_at "go";refine⟨x,b',s0,st,hg,dd,dx,m,kvs,f,rfl,s02 _ _ ex,.inl (s02 _ _ hR),lk,λr3 H3 hr3 s3 e3=>?_⟩;have s03:=s02.trans s3
 have hD3:=dW e3
 have tp3:=s03 _ _ tp
 have e23:=s3 _ _ e2
 have hat3:=hat2.keep s3
 walk_at "go";refine bX tp3 (v:=.str d.z) (aV (j:=1) rfl) ?_;walk_at "go";refine jQ (z:=d.z) (.inl e3) ?_;have hbv:∀c,d.z=one c->cY c->(cA (kvL (aK f) (bG (aK f) 27)) (Sum.inr d.z)).getD (.int 0)=.int (aK f c):=λc e hc=>by rw[e,lw.val c,dZ,cN hc (hpos c)]
 generalize (cA (kvL (aK f) (bG (aK f) 27)) (Sum.inr d.z)).getD (.int 0)=bv at hbv ⊢;walk_at "go";refine⟨x,dx,b',s0,st,hg,dd,dp,m,hs,f,dps,d,rfl,s03 _ _ ex,⟨tw.keepS s03,hfo⟩,hsl,m6,s03 _ _ hD,hfl,s03 _ _ edd,by omega,ngd,λf' st' hg' H4 hw sE4 x4 d4 ng4 hfr4 hst4 hdn tw4=>?_,λH4 hw s4=>?_⟩
 ·have l27:=aJA lkt tfl
  obtain⟨c,v,hz,hc,hf',hix,htt⟩:∃(c:Nat) (v:Int),d.z=one c/\cY c/\(∀e,aK f' e=aK f e+(if e=c then v else 0))/\atI [V.int 1,V.int (-1)] (if decide (d.nm=Str.ofString "lose")=true then 1 else 0)=some (.int v)/\d.tot hs f t=λe=>if e=c then some (aK t c+v) else t e:=by
   cases d with
   |haul n cw=>exact hfl.elim
   |lose z=>
    obtain⟨_,c,rfl,hc,hp,hf⟩:=hdn;exact⟨c,-1,rfl,hc,λe=>by rw[hf e];split<;>omega,rfl,if_pos hw⟩
   |find z=>
    obtain⟨_,c,rfl,hc,hp,hf⟩:=hdn;exact⟨c,1,rfl,hc,hf,(by rw[show decide ((Dd.find (one c)).nm=Str.ofString "lose")=false from(by decide +kernel:decide (Str.ofString "find"=Str.ofString "lose")=false)];rfl),if_pos hw⟩
  have nin:∀ {y:Addr} {u:HO},H3 y=some u->(∀fs,u≠.ins Z0 dx fs)->y≠dd->y∉[x,dd]:=λe n1 n2=>no2 (λz=>by rw[z,s03 _ _ ex]at e;cases e;exact n1 _ rfl) n2
  have ntup:∀ {y:Addr} {xs:List V},H3 y=some (.tup xs)->y∉[x,dd]:=λe=>nin e (λ_=>nofun) (λz=>by rw[z,s03 _ _ edd]at e;cases e)
  have tp4:=sE4 _ _ (ntup tp3) tp3
  have erl4:=sE4 _ _ (nin (s03 _ _ erl) (λ_=>nofun) (λz=>by rw[<-z,erl]at edd;cases edd)) (s03 _ _ erl)
  walk_at "go";rw[show (!decide (wDo=d.word hs f))=false by rw[hw,Aj rfl];rfl]
  walk_at "go";rw[show decide (d.word hs f=Str.ofString "done")=true from Aj hw];walk_at "go";refine⟨by show 2<=sizeLine;decide,λp5 hp5=>?_⟩
  have k5:=aG hp5 (.lst [V.int 1,V.int (-1)])
  have r5:rdL (upd H4 p5 (.lst [V.int 1,V.int (-1)])) p5=some [V.int 1,V.int (-1)]:=bO
  generalize upd H4 p5 (.lst [V.int 1,V.int (-1)])=H5 at k5 r5 ⊢;have tp5:=k5 _ _ tp4
  have erl5:=k5 _ _ erl4
  have hDt:=dW erl5
  walk_at "go";refine bX tp5 (v:=.str d.nm) (aV (j:=0) rfl) ?_;walk_at "go";refine dF r5 (v:=.int v) hix ?_;walk_at "go";refine bX tp5 (v:=.str d.z) (aV (j:=1) rfl) ?_;walk_at "go";refine jQ (z:=d.z) (.inl erl5) ?_;rw[hz,lkt.val c,dZ];walk_at "go";refine bX tp5 (v:=.str d.z) (aV (j:=1) rfl) ?_;obtain rfl:=hbv c hz hc;rw[hz];refine fX (z:=one c) erl5 (bK (by omega)) ?_
  have lk6:=lkt.put c (aK t c+v)
  have sX:SameE [rl] H5 (upd H5 rl (.dK (dL kvt (Sum.inr (one c)) (.int (aK t c+v))))):=λb o nb e=>by rw[aJ (λz=>nb (by rw[z];exact Ak.mpr rfl))];exact e
  have e6:(upd H5 rl (.dK (dL kvt (Sum.inr (one c)) (.int (aK t c+v))))) rl=_:=aE
  generalize upd H5 rl (.dK (dL kvt (Sum.inr (one c)) (.int (aK t c+v))))=H6 at sX e6 ⊢;have no1:∀ {y:Addr},y≠rl->y∉[rl]:=λn z=>n (Ak.mp z)
  have nrl:∀ {y:Addr} {u:HO},H5 y=some u->(∀kv,u≠.dK kv)->y∉[rl]:=λe n=>no1 λz=>by rw[z,erl5]at e;cases e;exact n _ rfl
  have s36:SameE [x,dd,rl] H3 H6:=λb o nb e=>sX _ _ (no1 λz=>nb (by rw[z];simp)) (k5 _ _ (sE4 _ _ (λz=>nb (dX2 z)) e))
  have x6:=sX _ _ (nrl (k5 _ _ x4) λ_=>nofun) (k5 _ _ x4)
  have d6:=sX _ _ (nrl (k5 _ _ d4) λ_=>nofun) (k5 _ _ d4)
  have tp6:=sX _ _ (nrl tp5 λ_=>nofun) tp5
  have erw4:=sE4 _ _ (nin (s03 _ _ erw) (λ_=>nofun) nrd) (s03 _ _ erw)
  have erw6:=sX _ _ (nrl (k5 _ _ erw4) λ_=>nofun) (k5 _ _ erw4)
  have nst:st'≠rl:=λz=>by rw[z,s03 _ _ erl]at hst4;cases hst4
  have tw5:=tw4.1.keepS k5
  obtain⟨us5,u1,u2⟩:=id tw5.hal;have tw6:TwO H6 hg' st' hs f':=⟨tw5.keepE sX (nrl u1 λ_=>nofun) (λ_ _=>no1 nst) (λp c cs e=>nrl e λ_=>nofun),tw4.2⟩
  have nhw:hg'≠rw':=by
   rcases hfr4 with z|z
   ·rw[z];exact ngw
   ·exact λy=>by rw[y,s03 _ _ erw]at z;cases z
  have S6:S54 Z0 H6 x rw' rl dx b' s0 dd m (k+1) hs f' (d.tot hs f t) wv:=by
   refine⟨⟨st',hg',dps++[dp],x6,tw6,ng4,nhw,nst,d6,by rw[Af];show _+1<=_;omega⟩,hsl,m6,erw6,nrd,two,hfit,⟨_,e6,by rw[htt];exact lk6⟩,by rw[htt];exact tfl.put hc,λe=>?_⟩
   rw[htt,kL,dXX hf' e];have:=heq e
   by_cases y:e=c
   ·subst y;rw[if_pos rfl,if_pos rfl];omega
   ·rw[if_neg y,if_neg y];omega
  obtain⟨⟨us6,hB6,hat6⟩,ok6,⟨kvs6,hR6,lkk6⟩,hpos6⟩:=id tw6.1;have hul6:=hat6.len
  walk_at "go";refine⟨x,dx,_,rfl,x6,gC,?_⟩;walk_at "go";refine⟨x,b',s0,st',hg',dd,dx,m,kvs6,f',rfl,x6,.inl hR6,lkk6,λr7 H7 hr7 s7 e7=>?_⟩;have hD7:=dW e7
  walk_at "go";refine bX (s7 _ _ tp6) (v:=.str d.z) (aV (j:=1) rfl) ?_;rw[hz];walk_at "go";refine jQ (z:=one c) (.inl e7) ?_;rw[(dI (aK f')).val c,dZ,cN hc (hpos6 c)];walk_at "go";rw[show (!decide (aK f' c=aK f c+v))=false by rw[Aj (by rw[hf' c,if_pos rfl])];rfl]
  walk_at "go";refine⟨x,dx,_,rfl,s7 _ _ x6,eQ,?_⟩;walk_at "go";refine⟨x,b',s0,st',hg',dd,dx,m,us6,hs,rfl,s7 _ _ x6,aR (s7 _ _ hB6),hat6.keep s7,by omega,λr8 us8 H8 hr8 s8 e8 hat8 _=>?_⟩
  have s68:=s7.trans s8
  have s38:SameE [x,dd,rl] H3 H8:=s36.trans (.of s68)
  have fr1:∀ {p:Addr},H1 p=none->p∉[x,dd,rl]:=λe=>no3 (λz=>by rw[z,s1 _ _ ex]at e;cases e) (λz=>by rw[z,s1 _ _ edd]at e;cases e) (λz=>by rw[z,s1 _ _ erl]at e;cases e)
  have hatP:HalsAt H8 us2 hs:=hat3.frame (X:=λp=>p∈[x,dd,rl]) (λp u n e=>s38 _ _ n e) (λp xs hp _=>fr1 (hfr2 p hp))
  have e28:=s38 _ _ (fr1 hr2) e23
  walk_at "go";refine dZ7 1 (hat8.alk hatP (aR e8) (aR e28)) ?_;walk_at "go";refine⟨x,rw',rl,dx,b',s0,dd,m,k+1,hs,f',d.tot hs f t,wv,rfl,S6.keep s68,λH9 s9=>?_⟩;exact q f' H9 (((SameE.of s03).trans s38).trans (.of s9)) (S6.keep (s68.trans s9))
 ·walk_at "go";rw[show (!decide (d.word hs f=d.word hs f))=false by rw[Aj rfl];rfl]
  walk_at "go";rw[show decide (d.word hs f=Str.ofString "done")=false from Aw hw];walk_at "go";have s04:=s03.trans s4
  refine⟨x,dx,_,rfl,s04 _ _ ex,eQ,?_⟩;walk_at "go";refine⟨x,b',s0,st,hg,dd,dx,m,us,hs,rfl,s04 _ _ ex,aR (s04 _ _ hB),hat.keep s04,by omega,λr8 us8 H8 hr8 s8 e8 hat8 _=>?_⟩
  have s48:=s4.trans s8
  walk_at "go";refine dZ7 1 (hat8.alk (hat3.keep s48) (aR e8) (aR (s48 _ _ e23))) ?_;walk_at "go";have S8:∀ {H'},Same H H'->S54 Z0 H' x rw' rl dx b' s0 dd m (k+1) hs f (d.tot hs f t) wv:=λs'=>by
   rw[show d.tot hs f t=t from if_neg hw];obtain⟨⟨a1,a2,a3,a4,a5,a6,a7,a8,a9,a10⟩,b1,b2,b3,b4,b5,b6,b7,b8,b9⟩:=S0.keep s';exact⟨⟨a1,a2,a3,a4,a5,a6,a7,a8,a9,by omega⟩,b1,b2,b3,b4,b5,b6,b7,b8,b9⟩
  refine⟨x,rw',rl,dx,b',s0,dd,m,k+1,hs,f,d.tot hs f t,wv,rfl,S8 (s04.trans s8),λH9 s9=>?_⟩;exact q f H9 (.of ((s04.trans s8).trans s9)) (S8 ((s04.trans s8).trans s9))
def xA(C:Addr):Sp:=λvs H Q _=>∃(x rw' rl dx b' s0 dd rb rc:Addr) (m k:Nat) (hs:List (Option (List Nat))) (f t:Nat->Option Int) (wv:List (Option (List Nat))) (bk:List (Str×Str)) (cws:List (List Nat)) (ms:List Int),vs=[.ref x,.ref rw',.ref rb,.ref rc]/\S54 C H x rw' rl dx b' s0 dd m k hs f t wv/\k<=500/\1<=m/\BkAt H rb bk/\aQ3 bk cws/\1<=bk.length/\bk.length<=8/\rdL H rc=some (ms.map V.int)/\ms.length<=4/\rb∉[x,dd,rw']/\rc∉[x,dd,rw']/\
 ∀(hs':Q3) (f':Nat->Option Int) (wv':Q3) (H':Hp),SameE [x,dd,rw'] H H'->S54 C H' x rw' rl dx b' s0 dd m (k+ms.length) hs' f' t wv'->Q .non H'
def sc_l_hung:FnScope ["_law_tower", "_law_words", "_law_book_here", "_law_cells", "_law_k", "_law_cell", "_law_word_here"] ["_law_tower", "_law_words", "_law_book_here", "_law_cells"] (aM tZ):=by walk_at "sc"
def bXQ(F:Fun K "_law_hung" "_law_hung" tZ f fd)(G:Gs K mg w Zs Zz Zt Zx Z0 Zv Zy Zw Zu)(c_l_checked:Cal P w K mg base 1 "_law_checked" ["_law_word_here"] jJ)(c_Tower_do:uY (CXr P w) P w K mg base 15 Z0 "do" ["self", "deed"] (gR Z0 Zs Zt Zu)):FnOk P w K mg base CX0 17 f fd ["_law_tower", "_law_words", "_law_book_here", "_law_cells"] (xA Z0):=by
 refine F.ok sc_l_hung (λvs H Q E h=>?_) (λcdv A outer s H vs Q E hr h=>?_)
 ·obtain⟨x,rw',rl,dx,b',s0,dd,rb,rc,m,k,hs,f,t,wv,bk,cws,ms,rfl,_⟩:=h;rfl
 obtain⟨x,rw',rl,dx,b',s0,dd,rb,rc,m,k,hs,f,t,wv,bk,cws,ms,rfl,S,hk,m1,hbk,hcw,hb1,hb8,hrc,hml,nrb,nrc,q⟩:=h;refine⟨_,(@aH _ _ _ (cI Bh rfl (jG rfl G.b_enumerate (aA (mv 3) aB)) (dQ (K:=K) (i:=4) (j:=5) (by rfl) (by rfl) sc_l_hung.nd (by rfl) (by exact(Or.inl rfl)) (by exact Or.inl rfl) (by rfl) (by exact(Or.inl rfl)) (by exact Or.inl rfl)) (@aD _ _ _ _ _ (aP 6 sc_l_hung.nd (aZ c_l_checked hr (by decide) rfl (aA (bE bS (bE bS (mv 2) (aQ cV (mv 5) (aU dG rfl G.b_len bY (aA (mv 2) aB))) (λ_ _=>rfl)) aI (λ_ _=>rfl)) aB))) (@aH _ _ _ (cJZ rfl rfl rfl rfl G.c_Lack (λpins R=>(@aH _ _ _ (cG (aJT c_Tower_do G.cl_Tower (nJ rfl) hr (by decide) (mv 0) (aA (eG (@bT _ _ _ _ _ _ (aA (aQ cV (mv 4) (aU dG rfl G.b_len bY (aA (mv 1) aB))) (aA (mv 6) aB)))) aB))))) (λpins ea=>(@aH _ _ _ aQ0)) (@aH _ _ _ (aJJ (mv 6) (cXQ (mv 1) (aQ cV (mv 4) (aU dG rfl G.b_len bY (aA (mv 1) aB))) aQQ)))))))),?_⟩
 have rdE':∀ {l:List Addr} {H H':Hp} {y:Addr} {ys:List V},SameE l H H'->y∉l->rdL H y=some ys->rdL H' y=some ys:=fun {l H H' y ys} s n h=>by
  unfold rdL at h ⊢;cases e:H y with
  |none=>rw[e]at h;cases h
  |some o=>rw[s _ _ n e];rw[e]at h;exact h
 have ntt:∀p xs,H p=some (.tup xs)->p∉[x,dd,rw']:=λp xs e=>by
  obtain⟨⟨st,hg,dps,ex,tw,ngd,ngw,nsl,edd,hdl⟩,hsl,m6,erw,_⟩:=S;exact no3 (λz=>by rw[z,ex]at e;cases e) (λz=>by rw[z,edd]at e;cases e) (λz=>by rw[z,erw]at e;cases e)
 walk_at "go";refine jA (xs:=ms.map V.int) (λi σ H'=>∃(hs':Q3) (f':Nat->Option Int) (wv':Q3) (v4 v5 v6:Option V),σ=[some (.ref x),some (.ref rw'),some (.ref rb),some (.ref rc),v4,v5,v6]/\SameE [x,dd,rw'] H H'/\S54 Z0 H' x rw' rl dx b' s0 dd m (k+i) hs' f' t wv')
  ⟨hs,f,wv,_,_,_,rfl,λb o _ e=>e,S⟩ (λi σ H' _ ⟨_,_,_,_,_,_,_,sE,_⟩=>rdE' sE nrc hrc) ?_ ?_
 ·rintro i v σ H1 pt hv ⟨hs1,f1,wv1,v4,v5,v6,rfl,sE1,S1⟩ hpt;rw[Ah]at hv;obtain⟨cell,hcell,rfl⟩:=Cu.mp hv;have hi4:i<4:=by have:=(Ad.mp hcell).1;omega
  have k2:=aG hpt (.tup [.int ((0+i:Nat):Int),.int cell])
  have t2:=cF (show (upd H1 pt (.tup [.int ((0+i:Nat):Int),.int cell])) pt=_ from aE)
  generalize upd H1 pt (.tup [.int ((0+i:Nat):Int),.int cell])=H2 at k2 t2 ⊢;have sE2:=sE1.trans (.of k2)
  have bk2:=hbk.keepE sE2 nrb ntt
  obtain⟨qs,b1,b2,b3⟩:=id bk2;have hql:(qs.map V.ref).length=bk.length:=by rw[Ab,b2]
  have rq:=aR b1
  obtain⟨j,ej,hj⟩:∃j:Nat,cell%((bk.length:Nat):Int)=(j:Int)/\j<bk.length:=yG (by omega)
  have ec:cws[j]?=some (cws[j]'(by rw[hcw.1];exact hj)):=Aa _
  obtain⟨hw,hc1,hc6,hcL⟩:=hcw.2 j _ _ (Aa hj) ec;have ep:qs[j]?=some (qs[j]'(by omega)):=Aa _
  have tpj:=b3 j _ _ ep (Aa hj)
  rw[hw]at tpj;generalize cws[j]'(by rw[hcw.1];exact hj)=cw at hc1 hc6 hcL tpj
  walk_at "gs"
  with_reducible refine mG ?_
  walk_at "gs";rw[hql];have hb0:(0:Int)<((bk.length:Nat):Int):=by omega
  walk_at "gs";rw[ej];refine dF rq (v:=.ref (qs[j]'(by omega))) (aV (by rw[Ah,ep];rfl)) ?_
  walk_at "gs";refine bX tpj (v:=.str (bA cw)) (aV (j:=0) rfl) ?_;walk_at "gs";refine⟨cw,rfl,hc1,hc6,hcL,λH3 s3 hcl hdv=>?_⟩;have k3:=k2.trans s3
  have S3:=S1.keep k3
  have sE3:=sE1.trans (.of k3)
  have hwok:=bJY hc1 hc6 hcL hcl hdv
  generalize cw++[ckL cw]=cw' at hwok;obtain⟨⟨st,hg,dps,ex,tw,ngd,ngw,nsl,edd,hdl⟩,hsl,m6,erw,nrd,two,hfit,⟨kvt,erl,lkt⟩,tfl,heq⟩:=S3;have rew:=aR erw
  have hwl:(wv1.map wdV).length=m:=by rw[Ab,<-hfit.1,hsl]
  obtain⟨n,en,hn⟩:∃n:Nat,((0+i:Nat):Int)%((m:Nat):Int)=(n:Int)/\n<m:=yG (by omega)
  have hm0:(0:Int)<((m:Nat):Int):=by omega
  walk_at "gs";refine⟨x,dx,_,rfl,ex,aXC,?_⟩;walk_at "gs";rw[hwl];walk_at "gs";rw[en];refine⟨by show 3<=sizeLine;decide,λdp hdp=>?_⟩
  have k4:=aG hdp (.tup [.str (Str.ofString "haul"),.int ((n:Nat):Int),.str (bA cw')])
  have e4:(upd H3 dp (.tup [.str (Str.ofString "haul"),.int ((n:Nat):Int),.str (bA cw')])) dp=some (.tup (Dd.haul n cw').vs):=aE
  generalize upd H3 dp (.tup [.str (Str.ofString "haul"),.int ((n:Nat):Int),.str (bA cw')])=H4 at k4 e4 ⊢;walk_at "gs";refine aJX (d:=.haul n cw') (k4 _ _ ex) ⟨tw.1.keepS k4,tw.2⟩ hsl m6 e4 ⟨hn,hwok⟩ (k4 _ _ edd) (by omega) ngd (λhs' f' st' hg' H5 sE5 x5 d5 hl5 ng5 hfr hst hdn tw5=>?_) (λdy H5 s5=>⟨G.m_Lack,?_⟩)
  ·have nin:∀ {y:Addr} {u:HO},H4 y=some u->(∀fs,u≠.ins Z0 dx fs)->y≠dd->y∉[x,dd]:=λe n1 n2=>no2 (λz=>by rw[z,k4 _ _ ex]at e;cases e;exact n1 _ rfl) n2
   have erw5:=sE5 _ _ (nin (k4 _ _ erw) (λ_=>nofun) nrd) (k4 _ _ erw)
   have erl5:=sE5 _ _ (nin (k4 _ _ erl) (λ_=>nofun) (λz=>by rw[<-z,erl]at edd;cases edd)) (k4 _ _ erl)
   have mw5:=bW erw5
   have nhw:hg'≠rw':=by
    rcases hfr with z|z
    ·rw[z];exact ngw
    ·exact λy=>by rw[y,k4 _ _ erw]at z;cases z
   have nst:st'≠rl:=λz=>by rw[z,k4 _ _ erl]at hst;cases hst
   walk_at "gs";rw[hwl,en];have hnl:n<(wv1.map wdV).length:=by rw[hwl];exact hn
   refine dZJ (o:=(wv1.map wdV)[n]) mw5 (cXV (by omega) (by omega)) ?_
   rw[show ((n:Nat):Int).toNat=n from rfl,show (wv1.map wdV).set n (.str (bA cw'))=(wv1.set n (some cw')).map wdV by rw[List.map_set];rfl]
   have no1:∀ {y:Addr},y≠rw'->y∉[rw']:=λn z=>n (Ak.mp z)
   have sX:SameE [rw'] H5 (upd H5 rw' (.lst ((wv1.set n (some cw')).map wdV))):=λb o nb e=>by rw[aJ (λz=>nb (by rw[z];exact Ak.mpr rfl))];exact e
   have e6:(upd H5 rw' (.lst ((wv1.set n (some cw')).map wdV))) rw'=_:=aE
   generalize upd H5 rw' (.lst ((wv1.set n (some cw')).map wdV))=H6 at sX e6 ⊢;have nk:∀ {y:Addr} {u:HO},H5 y=some u->(∀l,u≠.lst l)->y∉[rw']:=λe n=>no1 λz=>by rw[z,erw5]at e;cases e;exact n _ rfl
   obtain⟨us5,u1,u2⟩:=id tw5.1.hal;have tw6:=tw5.1.keepE sX (no1 nhw) (λkvs e=>nk e λ_=>nofun) (λp c cs e=>no1 λz=>by
    rw[z,erw5]at e;exact bJ3 two (by injection Bl e))
   refine⟨hs',f',wv1.set n (some cw'),_,_,_,rfl,(sE1.trans (.of (k3.trans k4))).trans λb o nb e=>sX _ _ (no1 λz=>nb (by rw[z];simp)) (sE5 _ _ (λz=>nb (dX2 z)) e),⟨⟨st',hg',dps++[dp],sX _ _ (nk x5 λ_=>nofun) x5,⟨tw6,tw5.2⟩,ng5,nhw,nst,sX _ _ (no1 (Ne.symm nrd)) d5,by rw[List.length_append];show _+1<=_;omega⟩,hl5,m6,e6,nrd,dQF two hwok,hdn.2.1 wv1 hfit,⟨kvt,sX _ _ (nk erl5 λ_=>nofun) erl5,lkt⟩,tfl,λc=>by rw[heq c,<-hdn.2.2 c]⟩⟩
  ·walk_at "gs";have s15:=k3.trans (k4.trans s5)
   refine⟨hs1,f1,wv1,_,_,_,rfl,sE1.trans (.of s15),?_⟩;obtain⟨⟨a1,a2,a3,a4,a5,a6,a7,a8,a9,a10⟩,b1,b2,b3,b4,b5,b6,b7,b8,b9⟩:=S1.keep s15;exact⟨⟨a1,a2,a3,a4,a5,a6,a7,a8,a9,by omega⟩,b1,b2,b3,b4,b5,b6,b7,b8,b9⟩
 ·rintro σ H1 ⟨hs1,f1,wv1,v4,v5,v6,rfl,sE1,S1⟩;rw[Ab]at S1;walk_at "go";exact q hs1 f1 wv1 H1 sE1 S1
def eXO{rw':Addr}{fs:List (Str×V)}{m:Nat}(ex:H x=some (.ins C dx fs))(ed:H dd=some (.lst []))(er:H rw'=some (.lst (List.replicate m V.non)))(hb1:1<=bk.length)(m1:1<=m)(h:BkAt H p bk):p∉[x,dd,rw']:=by
 obtain⟨qs,h1,h2,_⟩:=h;refine no3 (λz=>by rw[z,ex]at h1;cases h1) (λz=>?_) (λz=>?_)
 ·rw[z,ed]at h1;have e':([]:List V)=qs.map V.ref:=by injection Bl h1
  cases qs with
  |nil=>rw[<-h2]at hb1;exact absurd hb1 (by decide)
  |cons _ _=>cases e'
 ·rw[z,er]at h1;have e':List.replicate m V.non=qs.map V.ref:=by injection Bl h1
  cases m with
  |zero=>omega
  |succ m=>
   cases qs with
   |nil=>cases e'
   |cons _ _=>injection e' with e1 _;cases e1
def S54.more{rw' rl b':Addr}{m k':Nat}{f:Nat->Option Int}(h:S54 C H x rw' rl dx b' s0 dd m k hs f t wv)(hk:k<=k'):S54 C H x rw' rl dx b' s0 dd m k' hs f t wv:=by
 obtain⟨⟨a1,a2,a3,a4,a5,a6,a7,a8,a9,a10⟩,b1,b2,b3,b4,b5,b6,b7,b8,b9⟩:=h;exact⟨⟨a1,a2,a3,a4,a5,a6,a7,a8,a9,by omega⟩,b1,b2,b3,b4,b5,b6,b7,b8,b9⟩
def oO{m:Nat}:∀ks:List Nat,bD (List.replicate m none) ks=[]
 |[]=>rfl
 |k::r=>by
  show ((List.replicate m none).getD k none).getD []++bD (List.replicate m none) r=[]
  rw[oO r,Bd,Ac,Ew];split<;>rfl
def bJL(tfl:FlOnly t)(h0:∀c,0<=aK t c)(m c:Nat):aK t c=fA (bJ (aK t)) (List.replicate m none) c:=by
 unfold fA;rw[oO];show _=_+((0:Nat):Int)
 by_cases hc:cY c
 ·rw[cN hc (h0 c)];omega
 ·rw[gX tfl hc,gX (fB _) hc];rfl
def bXC(m:Nat):Fits (List.replicate m none) (List.replicate m none):=by
 refine⟨rfl,λk hk=>?_⟩;rw[Ac,Ew];split<;>trivial
def bQE(lk:Lk kvs t):∃cs:List Nat,kvs.map (·.1)=(cs.map one).map Sum.inr/\∀c∈cs,(t c).isSome=true:=by
 have h:∀kv∈kvs,∃c,kv.1=Sum.inr (one c)/\(t c).isSome=true:=λkv hk=>by
  obtain⟨c,n,e,hn⟩:=lk.at_mem hk;exact⟨c,by rw[e],by rw[hn];rfl⟩
 clear lk;induction kvs with
 |nil=>exact⟨[],rfl,λc hc=>nomatch hc⟩
 |cons kv r ih=>
  obtain⟨cs,h1,h2⟩:=ih λx hx=>h x (Am _ hx);obtain⟨c,h3,h4⟩:=h kv Al;refine⟨c::cs,by rw[As,h1,h3];rfl,λd hd=>?_⟩
  rcases Az.mp hd with z|z
  ·rw[z];exact h4
  ·exact h2 d z
def zS{f:Nat->Option Int}{d:Dd}{c:Nat}(h:(t c).isSome=true):(d.tot hs f t c).isSome=true:=by
 unfold Dd.tot;split
 ·show (if c=cdZ d.z then some _ else t c).isSome=true
  split
  ·rfl
  ·exact h
 ·exact h
def cZV{f:Nat->Option Int}{d:Dd}(hf:d.flg)(heq:∀c,aK t c=fA f hs c)(h:∀c,aK t c<=99)(c:Nat):aK (d.tot hs f t) c<=99:=by
 unfold Dd.tot;by_cases hw:d.word hs f=wDo
 ·rw[if_pos hw,kL];by_cases e:c=cdZ d.z
  ·rw[if_pos e];have:=h (cdZ d.z)
   cases d with
   |haul n cw=>exact hf.elim
   |lose z=>show _+-1<=_;omega
   |find z=>
    replace hw:(if cD z=true then (if fA f hs (cdZ z)<99 then wDo else wNo) else wNo)=wDo:=hw
    split at hw
    ·split at hw
     ·rename_i h9
      rw[heq];show fA f hs (cdZ z)+1<=99
      omega
     ·exact absurd hw zB
    ·exact absurd hw zB
  ·rw[if_neg e];exact h c
 ·rw[if_neg hw];exact h c
def bJ5{f:Nat->Option Int}{c:Nat}(hc:cY c)(heq:∀c,aK t c=fA f hs c)(h:∀c,aK t c<=99):aK ((Dd.find (one c)).tot hs f t) c=if aK t c<99 then aK t c+1 else 99:=by
 have eb:cD (one c)=true:=by rw[eE];exact Aj hc
 have ew:(Dd.find (one c)).word hs f=if fA f hs c<99 then wDo else wNo:=if_pos eb
 unfold Dd.tot;rw[ew,<-heq c];by_cases h9:aK t c<99
 ·rw[if_pos h9,if_pos rfl,if_pos h9,kL,if_pos (show c=cdZ (Dd.find (one c)).z from rfl)];rfl
 ·rw[if_neg h9,if_neg zB,if_neg h9];have:=h c
  omega
def sc_law:FnScope ["_law_script", "_law_tower", "_law_book_here", "_law_totals", "_law_words", "_law_k", "_law_cell", "_law_number", "_law_flag"] ["_law_script"] (aM tR):=by walk_at "sc"
def dJJ{Pt:Addr}(F:Fun K "law" "law" tR f fd)(G:Gs K mg w Zs Zz Zt Zx Z0 Zv Zy Zw Zu)(c_l_begun:Cal P w K mg base 4 "_law_begun" ["_law_script"] (tT K Z0))(c_l_hung:Cal P w K mg base 17 "_law_hung" ["_law_tower", "_law_words", "_law_book_here", "_law_cells"] (xA Z0))(c_l_mixed:Cal P w K mg base 1 "_law_mixed" ["_law_cell", "_law_k"] jD)(c_l_step:Cal P w K mg base 18 "_law_step" ["_law_tower", "_law_words", "_law_totals", "_law_deed"] (wC Z0))(c_l_cell_at:Cal P w K mg base 1 "_law_cell_at" ["_law_script", "_law_k"] (jE K)):FnOk P w K mg base CX0 19 f fd ["_law_script"] (xQ K Pt):=by
 refine F.ok sc_law (λvs H Q E h=>?_) (λcdv A outer s H vs Q E hr h=>?_)
 ·obtain⟨a,ns,rfl,_⟩:=h;rfl
 obtain⟨a,ns,rfl,hS,h63,hP,q⟩:=h;refine⟨_,(@aD _ _ _ _ _ (aJJ (aZ c_l_begun hr (by decide) rfl (aA (mv 0) aB)) (eQP rfl (iK (bH (i:=1) sc_law.nd rfl (Or.inl rfl)) (iK (bH (i:=2) sc_law.nd rfl (Or.inl rfl)) (iK (bH (i:=3) sc_law.nd rfl (Or.inl rfl)) (iK (bH (i:=4) sc_law.nd rfl (Or.inl rfl)) bQM)))))) (@aD _ _ _ _ _ (cG (aZ c_l_hung hr (by decide) rfl (aA (mv 1) (aA (mv 4) (aA (mv 2) (aA (lD sl_list (mv 0) (gB aI) (gB aI)) aB)))))) (@aD _ _ _ _ _ (cI Bh rfl (jG rfl G.b_enumerate (aA (lD sl_list (mv 0) (gB aI) (gB aI)) aB)) (dQ (K:=K) (i:=5) (j:=6) (by rfl) (by rfl) sc_law.nd (by rfl) (by exact(Or.inl rfl)) (by exact Or.inl rfl) (by rfl) (by exact(Or.inl rfl)) (by exact Or.inl rfl)) (@aD _ _ _ _ _ (aP 7 sc_law.nd (aZ c_l_mixed hr (by decide) rfl (aA (mv 6) (aA (mv 5) aB)))) (@aD _ _ _ _ _ (aP 8 sc_law.nd (bE bS cW (aQ cV (aQ fS (mv 7) aI) aI) (λ_ _=>rfl))) (@aD _ _ _ _ _ (bU (aY aXQ (aQ cV (aQ fS (mv 7) aI) aI) aI (aW _)) (@aH _ _ _ (aP 8 sc_law.nd (bE bS (aU (wJ rfl) rfl G.b_sorted wI (aA (mv 3) aB)) (aQ cV (aQ fS (mv 7) aI) (aU cQ1 rfl G.b_len bY (aA (mv 3) aB))) (λ_ _=>rfl)))) bC) (@aD _ _ _ _ _ (bU (aY hJ (aQ cV (aQ fS (mv 7) aI) aI) aI (aW _)) (@aH _ _ _ (aP 8 sc_law.nd (@bE _ _ _ _ _ _ _ bS (@bR _ _ _ _ (@bT _ _ _ _ _ _ (@bT _ _ _ _ _ _ (@bT _ _ _ _ _ _ (@bT _ _ _ _ _ _ (@bT _ _ _ _ _ _ (@bT _ _ _ _ _ _ (@bT _ _ _ _ _ _ (@bT _ _ _ _ _ _ aB))))))))) (aQ cV (aQ fS (mv 7) aI) aI) (λ_ _=>rfl)))) bC) (@aH _ _ _ (bU (gL (cX (aZ c_l_step hr (by decide) rfl (aA (mv 1) (aA (mv 4) (aA (mv 3) (aA (eG (aA (@bE _ _ _ _ _ _ _ bS (bR (@bT _ _ _ _ _ _ (@bT _ _ _ _ _ _ aB))) (aQ cV (mv 7) aI) (λ_ _=>rfl)) (aA (mv 8) aB))) aB))))))) (@aH _ _ _ (aT iP)) bC))))))) (@aD _ _ _ _ _ (aP 8 sc_law.nd (bE bS (aU (wJ rfl) rfl G.b_sorted wI (aA (mv 3) aB)) (aQ cV (aZ c_l_cell_at hr (by decide) rfl (aA (mv 0) (aA aI aB))) (aU cQ1 rfl G.b_len bY (aA (mv 3) aB))) (λ_ _=>rfl))) (@aD _ _ _ _ _ (cI Bh rfl (lQ rfl G.b_range (aA (aQ jO aI (fH (Room.u1 hr) (mv 3) (mv 8) (λ_ _=>rfl))) aB)) (bH (i:=5) sc_law.nd rfl (Or.inl rfl)) (@aH _ _ _ (bU (gL (cX (aZ c_l_step hr (by decide) rfl (aA (mv 1) (aA (mv 4) (aA (mv 3) (aA (eG (@bT _ _ _ _ _ _ (aA (mv 8) aB))) aB))))))) (@aH _ _ _ (aT iP)) bC))) (@aH _ _ _ (aT (sQ (cZ hJ (fH (Room.u1 hr) (mv 3) (mv 8) (λ_ _=>rfl)) aI (aW _)) (rZ (aZ c_l_step hr (by decide) rfl (aA (mv 1) (aA (mv 4) (aA (mv 3) (aA (eG (@bT _ _ _ _ _ _ (aA (mv 8) aB))) aB)))))))))))))),?_⟩
 walk_at "gs"
 with_reducible refine mG ?_
 walk_at "gs";refine⟨a,ns,rfl,hS,h63,λr x dx rb rl rw' b' s0 st0 hg0 dd bk cws t kvs m H1 s1 er hbk hcw hnd hb1 hb8 m1 m6 ex hbk' tw0 erl lkt ht9 tfl h1k nsl edd nhd nbd erw nrw nhw hxn hdn hrn hwn=>?_⟩;have rr:=aR er
 have hS1:=s1.seq hS
 have S1:S54 Z0 H1 x rw' rl dx b' s0 dd m 0 (List.replicate m none) (bJ (aK t)) t (List.replicate m none):=by
  refine⟨⟨st0,hg0,[],ex,tw0,nhd,nhw,nsl,edd,Ai _⟩,Fl ..,m6,by rw[List.map_replicate];exact erw,nrw,(λcs hc=>by cases (List.mem_replicate.mp hc).2),bXC m,⟨kvs,erl,lkt⟩,tfl,bJL tfl (λc=>(ht9 c).1) m⟩
 walk_at "gs"
 with_reducible refine mG ?_
 walk_at "gs";refine cXG hS1 λrc hrc=>?_;obtain⟨ms,em,hml⟩:=pS ns 9 4 (by decide) (by decide)
 rw[show (9:Int)+4=13 from rfl]at em;rw[em];have k2:=aG hrc (.lst (ms.map V.int))
 have e2:rdL (upd H1 rc (.lst (ms.map V.int))) rc=some (ms.map V.int):=bO
 generalize upd H1 rc (.lst (ms.map V.int))=H2 at k2 e2 ⊢;have S2:=S1.keep k2
 have hml4:ms.length<=4:=hml
 have nrc:rc∉[x,dd,rw']:=no3 (λz=>by rw[z,ex]at hrc;cases hrc) (λz=>by rw[z,edd]at hrc;cases hrc) (λz=>by rw[z,erw]at hrc;cases hrc)
 have nrb:rb∉[x,dd,rw']:=eXO ex edd erw hb1 m1 hbk
 walk_at "gs";refine⟨x,rw',rl,dx,b',s0,dd,rb,rc,m,0,_,_,t,_,bk,cws,ms,rfl,S2,by omega,m1,hbk.keepS k2,hcw,hb1,hb8,e2,hml4,nrb,nrc,λhs f wv H3 sE3 S3=>?_⟩
 have sE03:SameE [x,dd,rw',rl] H H3:=λb o nb e=>sE3 _ _ (λz=>nb (by simp only[List.mem_cons,List.not_mem_nil,or_false]at z ⊢;rcases z with z|z|z<;>simp[z])) (k2 _ _ (s1 _ _ e))
 have hnl:∀p∈[x,dd,rw',rl],H p=none:=λp hp=>by
  simp only[List.mem_cons,List.not_mem_nil,or_false]at hp;rcases hp with z|z|z|z<;>(rw[z];assumption)
 have hS3:=sqE hS hnl sE03
 walk_at "gs"
 with_reducible refine mG ?_
 walk_at "gs";refine cXG hS3 λrd hrd=>?_;obtain⟨ms2,em2,hml2⟩:=pS ns 13 40 (by decide) (by decide)
 rw[show (13:Int)+40=53 from rfl]at em2;rw[em2];have hml40:ms2.length<=40:=hml2
 have k4:=aG hrd (.lst (ms2.map V.int))
 have e4:(upd H3 rd (.lst (ms2.map V.int))) rd=some (.lst (ms2.map V.int)):=aE
 generalize upd H3 rd (.lst (ms2.map V.int))=H4 at k4 e4 ⊢;have S4:=S3.keep k4
 have sE04:=sE03.trans (.of k4)
 have nrd:rd∉[x,dd,rw',rl]:=λz=>by
  obtain⟨⟨st,hg,dps,ex3,tw3,ngd,ngw,nsl3,edd3,hdl⟩,hsl,_,erw3,_,_,_,⟨kvt,erl3,_⟩,_⟩:=S3;simp only[List.mem_cons,List.not_mem_nil,or_false]at z;rcases z with z|z|z|z
  ·rw[z,ex3]at hrd;cases hrd
  ·rw[z,edd3]at hrd;cases hrd
  ·rw[z,erw3]at hrd;cases hrd
  ·rw[z,erl3]at hrd;cases hrd
 have hne0:∃c,(t c).isSome=true:=by
  cases kvs with
  |nil=>exact absurd h1k (by decide)
  |cons kv r=>
   obtain⟨c,n,_,hn⟩:=lkt.at_mem Al;exact⟨c,by rw[hn];rfl⟩
 have re4:=aR e4
 walk_at "gs";refine jA (xs:=ms2.map V.int) (λi σ H'=>∃(f t:Nat->Option Int) (v5 v6 v7 v8:Option V),σ=[some (.ref a),some (.ref x),some (.ref rb),some (.ref rl),some (.ref rw'),v5,v6,v7,v8]/\SameE [x,dd,rw',rl] H4 H'/\S54 Z0 H' x rw' rl dx b' s0 dd m (4+i) hs f t wv/\(∀c,aK t c<=99)/\∃c,(t c).isSome=true)
  ⟨f,t,_,_,_,_,rfl,λb o _ e=>e,S4.more (by omega),λc=>by have:=(ht9 c).2;omega,hne0⟩ (λi σ H' _ ⟨_,_,_,_,_,_,_,sE,_⟩=>aR (sE _ _ nrd e4)) ?_ ?_
 ·rintro i v σ H5 pt hv ⟨f5,t5,v5,v6,v7,v8,rfl,sE5,S5,hle5,hne5⟩ hpt;rw[Ah]at hv;obtain⟨cell,hcell,rfl⟩:=Cu.mp hv;have hi40:i<40:=by have:=(Ad.mp hcell).1;omega
  have k6:=aG hpt (.tup [.int ((0+i:Nat):Int),.int cell])
  have t6:=cF (show (upd H5 pt (.tup [.int ((0+i:Nat):Int),.int cell])) pt=_ from aE)
  generalize upd H5 pt (.tup [.int ((0+i:Nat):Int),.int cell])=H6 at k6 t6 ⊢;walk_at "gs"
  with_reducible refine mG ?_
  walk_at "gs";refine⟨cell,_,rfl,by omega,by omega,λn hn=>?_⟩
  walk_at "gs"
  with_reducible refine mG ?_
  walk_at "gs";obtain⟨j,ej,hj⟩:∃j:Nat,n / 16%27=(j:Int)/\j<27:=⟨(n / 16%27).toNat,by omega,by omega⟩
  rw[ej];refine oQ (by decide) (aV (Aa (show j<(Str.ofString "abcdefghijklmnopqrstuvw1234").cps.toList.length from hj))) ?_
  have S6:=S5.keep k6
  walk_at "gs"
  with_reducible refine aX4 (λσ' H'=>∃z:Str,σ'=[some (.ref a),some (.ref x),some (.ref rb),some (.ref rl),some (.ref rw'),some (.int ((0+i:Nat):Int)),some (.int cell),some (.int n),some (.str z)]/\z.length<=1000/\Same H6 H') (λσ2 H7 j1=>?_) (λN hN=>?_)
  case refine_2=>
   walk_at "gs";refine eW (λhg=>?_) (λhg=>?_)
   ·obtain⟨kvt,erl6,lkt6⟩:=S6.tot;have l27:=aJA lkt6 S6.tfl
    obtain⟨cs,hcs,_⟩:=bQE lkt6;walk_at "gs";refine vM (.inl erl6) hcs (by omega) λrs ss hrs hps=>?_
    have k7:=aG hrs (.lst (ss.map V.str))
    have r7:rdL (upd H6 rs (.lst (ss.map V.str))) rs=some (ss.map V.str):=bO
    generalize upd H6 rs (.lst (ss.map V.str))=H7 at k7 r7 ⊢;have hsl:ss.length=kvt.length:=by
     have e1:=hps.length_eq
     have e2:=Ds List.length hcs
     rw[Ab,Ab]at e2;omega
    have hk1:1<=kvt.length:=by
     obtain⟨c,hc⟩:=hne5;cases kvt with
     |nil=>have:=lkt6.val c;obtain⟨v,ev⟩:=Cm.mp hc;rw[ev]at this;cases this
     |cons _ _=>rw[Ax];omega
    walk_at "gs";refine bZ3 (.inl (k7 _ _ erl6)) (by omega) ?_
    have hl0:(0:Int)<((kvt.length:Nat):Int):=by omega
    walk_at "gs";obtain⟨j2,ej2,hj2⟩:∃j:Nat,n / 16%((kvt.length:Nat):Int)=(j:Int)/\j<kvt.length:=yG (by omega)
    rw[ej2];have eg:ss[j2]?=some (ss[j2]'(by omega)):=Aa _
    refine dF r7 (v:=.str (ss[j2]'(by omega))) (aV (by rw[Ah,eg];rfl)) ?_
    walk_at "gs";refine hN _ _ ⟨_,rfl,?_,k7⟩;obtain⟨c,_,e⟩:=Bg.mp (hps.subset (Ca (by omega:j2<ss.length)))
    rw[<-e];show 1<=1000
    decide
   ·walk_at "gs";exact hN _ _ ⟨_,rfl,by show 1<=1000;decide,Same.refl _⟩
  obtain⟨z,rfl,hz,s67⟩:=j1
  with_reducible refine aX4 (λσ' H'=>∃z:Str,σ'=[some (.ref a),some (.ref x),some (.ref rb),some (.ref rl),some (.ref rw'),some (.int ((0+i:Nat):Int)),some (.int cell),some (.int n),some (.str z)]/\z.length<=1000/\Same H6 H') (λσ2 H8 j1=>?_) (λN hN=>?_)
  case refine_2=>
   walk_at "gs";refine eW (λhg=>?_) (λhg=>?_)
   ·walk_at "gs";refine⟨by show 8<=sizeLine;decide,λp8 hp8=>?_⟩
    have k8:=aG hp8 (.lst ((["x", "5", "0", "ab", "", "A", "12", "-"]:List Str).map V.str))
    have r8:rdL (upd H7 p8 (.lst ((["x", "5", "0", "ab", "", "A", "12", "-"]:List Str).map V.str))) p8=some ((["x", "5", "0", "ab", "", "A", "12", "-"]:List Str).map V.str):=bO
    change tOp _ _ _ _ (upd H7 p8 (.lst ((["x", "5", "0", "ab", "", "A", "12", "-"]:List Str).map V.str))) _
    generalize upd H7 p8 (.lst ((["x", "5", "0", "ab", "", "A", "12", "-"]:List Str).map V.str))=H8 at k8 r8 ⊢;walk_at "gs";obtain⟨z',hz',ez⟩:=rY (ss:=["x", "5", "0", "ab", "", "A", "12", "-"]) (i:=n / 48%8) (by omega) (by show n / 48%8<8;omega)
    refine dF r8 ez ?_;walk_at "gs";exact hN _ _ ⟨_,rfl,(show ∀z∈(["x", "5", "0", "ab", "", "A", "12", "-"]:List Str),z.length<=1000 by decide) _ hz',s67.trans k8⟩
   ·walk_at "gs";exact hN _ _ ⟨_,rfl,hz,s67⟩
  obtain⟨z,rfl,hz,s68⟩:=j1;walk_at "gs";refine⟨by show 2<=sizeLine;decide,λp9 hp9=>?_⟩
  have k9:=s68.trans (aG hp9 (.lst [V.str (Str.ofString "lose"),V.str (Str.ofString "find")]))
  have r9:rdL (upd H8 p9 (.lst [V.str (Str.ofString "lose"),V.str (Str.ofString "find")])) p9=some [V.str (Str.ofString "lose"),V.str (Str.ofString "find")]:=bO
  generalize upd H8 p9 (.lst [V.str (Str.ofString "lose"),V.str (Str.ofString "find")])=H9 at k9 r9 ⊢;walk_at "gs";obtain⟨d,hdv,hdf,hdi⟩:∃d:Dd,d.vs=[.str d.nm,.str z]/\d.flg/\atI [V.str (Str.ofString "lose"),V.str (Str.ofString "find")] (n%2)=some (.str d.nm):=by
   have h2:n%2=0\/n%2=1:=by omega
   rcases h2 with e|e
   ·exact⟨.lose z,rfl,hz,by rw[e];rfl⟩
   ·exact⟨.find z,rfl,hz,by rw[e];rfl⟩
  refine dF r9 hdi ?_;walk_at "gs";refine⟨by show 2<=sizeLine;decide,λdp hdp=>?_⟩
  have k10:=k9.trans (aG hdp (.tup [.str d.nm,.str z]))
  have e10:(upd H9 dp (.tup [.str d.nm,.str z])) dp=some (.tup d.vs):=by rw[hdv];exact aE
  generalize upd H9 dp (.tup [.str d.nm,.str z])=H10 at k10 e10 ⊢;walk_at "gs";refine⟨x,rw',rl,dx,b',s0,dd,dp,m,4+i,hs,f5,t5,wv,d,rfl,S6.keep k10,by omega,e10,hdf,λf' H11 sE11 S11=>?_⟩
  walk_at "gs";have sE4':SameE [x,dd,rw',rl] H5 H11:=λb o nb e=>sE11 _ _ (λz=>nb (by simp only[List.mem_cons,List.not_mem_nil,or_false]at z ⊢;rcases z with z|z|z<;>simp[z])) (k10 _ _ (k6 _ _ e))
  obtain⟨c,hc⟩:=hne5;exact⟨f',d.tot hs f5 t5,_,_,_,_,rfl,sE5.trans sE4',S11,cZV hdf S5.eq hle5,c,zS hc⟩
 ·rintro σ H5 ⟨f5,t5,v5,v6,v7,v8,rfl,sE5,S5,hle5,hne5⟩;obtain⟨kvt,erl5,lkt5⟩:=S5.tot;have l27:=aJA lkt5 S5.tfl
  obtain⟨cs,hcs,hsome⟩:=bQE lkt5;have hk1:1<=kvt.length:=by
   obtain⟨c,hc⟩:=hne5;cases kvt with
   |nil=>have:=lkt5.val c;obtain⟨v,ev⟩:=Cm.mp hc;rw[ev]at this;cases this
   |cons _ _=>rw[Ax];omega
  walk_at "gs"
  with_reducible refine mG ?_
  walk_at "gs";refine vM (.inl erl5) hcs (by omega) λrs ss hrs hps=>?_
  have k7:=aG hrs (.lst (ss.map V.str))
  have r7:rdL (upd H5 rs (.lst (ss.map V.str))) rs=some (ss.map V.str):=bO
  generalize upd H5 rs (.lst (ss.map V.str))=H7 at k7 r7 ⊢;have hsl:ss.length=kvt.length:=by
   have e1:=hps.length_eq
   have e2:=Ds List.length hcs
   rw[Ab,Ab]at e2;omega
  walk_at "gs";refine⟨a,ns,1,rfl,sqE hS hnl ((sE04.trans sE5).trans (.of k7)),by omega,λn1=>?_⟩
  walk_at "gs";refine bZ3 (.inl (k7 _ _ erl5)) (by omega) ?_
  have hl0:(0:Int)<((kvt.length:Nat):Int):=by omega
  walk_at "gs";obtain⟨j2,ej2,hj2⟩:∃j:Nat,n1%((kvt.length:Nat):Int)=(j:Int)/\j<kvt.length:=yG (by omega)
  rw[ej2];have eg:ss[j2]?=some (ss[j2]'(by omega)):=Aa _
  refine dF r7 (v:=.str (ss[j2]'(by omega))) (aV (by rw[Ah,eg];rfl)) ?_
  obtain⟨c,hcm,ec⟩:=Bg.mp (hps.subset (Ca (by omega:j2<ss.length)))
  rw[<-ec];have hcs':=hsome c hcm
  have S7:=S5.keep k7
  have hcf:cY c:=S5.tfl c hcs'
  have hv0:0<=aK t5 c:=by
   obtain⟨_,_,_,_,tw7,_⟩:=S5.tw;have h1:=tw7.1.pos c
   have h2:=sB (bD hs (List.range hs.length)) c
   rw[S5.eq c];unfold fA;omega
  have hv9:=hle5 c
  have dix:∀ {t:Nat->Option Int} {kv:List (Key×V)},Lk kv t->(t c).isSome=true->cA kv (Sum.inr (one c))=some (.int (aK t c)):=fun {t kv} lk h=>by
   obtain⟨v,ev⟩:=Cm.mp h;rw[lk.val c,ev];unfold aK;rw[ev];rfl
  have erl7:=k7 _ _ erl5
  have hD7:=dW erl7
  walk_at "gs"
  with_reducible refine mG ?_
  walk_at "gs";refine nQ (z:=one c) (.inl erl7) (dix lkt5 hcs') ?_;walk_at "gs";generalize hv:aK t5 c=v at hv0 hv9;refine⟨⟨by omega,by omega⟩,?_⟩
  refine nW (λi σ H'=>∃(f t:Nat->Option Int) (v5:Option V),σ=[some (.ref a),some (.ref x),some (.ref rb),some (.ref rl),some (.ref rw'),v5,v6,v7,some (.str (one c))]/\S54 Z0 H' x rw' rl dx b' s0 dd m (44+i) hs f t wv/\(∀c,aK t c<=99)/\(t c).isSome=true/\aK t c=if v+(i:Int)<99 then v+i else 99)
   ⟨f5,t5,_,rfl,S7.more (by rw[Ab];omega),hle5,hcs',by rw[hv];split<;>omega⟩ ?_ ?_
  ·rintro i σ H8 hi ⟨f8,t8,v5',rfl,S8,hle8,hc8,hv8⟩;have hi100:i<100:=by omega
   walk_at "gs";refine⟨by show 2<=sizeLine;decide,λdp hdp=>?_⟩
   have k9:=aG hdp (.tup [.str (Str.ofString "find"),.str (one c)])
   have e9:(upd H8 dp (.tup [.str (Str.ofString "find"),.str (one c)])) dp=some (.tup (Dd.find (one c)).vs):=aE
   generalize upd H8 dp (.tup [.str (Str.ofString "find"),.str (one c)])=H9 at k9 e9 ⊢;walk_at "gs";refine⟨x,rw',rl,dx,b',s0,dd,dp,m,44+i,hs,f8,t8,wv,.find (one c),rfl,S8.keep k9,by omega,e9,(by show 1<=1000;decide),λf' H10 sE10 S10=>?_⟩
   walk_at "gs";refine⟨f',_,_,rfl,S10,cZV (d:=.find (one c)) (by show 1<=1000;decide) S8.eq hle8,zS hc8,?_⟩
   rw[bJ5 hcf S8.eq hle8,hv8];split<;>split<;>(try split)<;>omega
  ·rintro σ H8 ⟨f8,t8,v5',rfl,S8,hle8,hc8,hv8⟩;have hv99:aK t8 c=99:=by rw[hv8];split<;>omega
   obtain⟨kv8,erl8,lk8⟩:=S8.tot;have hD8:=dW erl8
   walk_at "gs";refine nQ (z:=one c) (.inl erl8) (dix lk8 hc8) ?_;rw[hv99];walk_at "gs";rw[show decide ((99:Int)=99)=true from rfl];walk_at "gs";refine⟨by show 2<=sizeLine;decide,λdp hdp=>?_⟩
   have k9:=aG hdp (.tup [.str (Str.ofString "lose"),.str (one c)])
   have e9:(upd H8 dp (.tup [.str (Str.ofString "lose"),.str (one c)])) dp=some (.tup (Dd.lose (one c)).vs):=aE
   generalize upd H8 dp (.tup [.str (Str.ofString "lose"),.str (one c)])=H9 at k9 e9 ⊢;walk_at "gs";exact⟨x,rw',rl,dx,b',s0,dd,dp,m,_,hs,f8,t8,wv,.lose (one c),rfl,S8.keep k9,by omega,e9,(by show 1<=1000;decide),λf' H10 sE10 S10=>q _⟩
end
variable {A:List (Nat×Wt)}{ch:Wt->List Nat}{first w:Wt}{m:List (Wt×Nat)}{ws:List Wt}
def FnP(K:W.Frag)(x q:Str)(st:Stmt)(f:Addr):Prop:=∃(oc:Value) (od:Option Addr) (sl:Array (Option Value)) (kV dc pm:Value) (an:Option Addr) (cd ct:Value),K.lookup f=some ⟨oc,od,.func (W.fnOf x q (jL st) (gD st) (aM st) .none kV dc pm an cd ct),sl⟩/\W.codeIn K cd q=true/\W.keepIn K (.ref f)=true
abbrev FnG(K:W.Frag)(x:Str)(st:Stmt)(f:Addr):Prop:=W.nsIn K mainGlobals x=some (some (.ref f))/\FnP K x x st f
abbrev FnM(K:W.Frag)(C:Addr)(x q:Str)(st:Stmt)(f:Addr):Prop:=W.findIn K (.ref C) x=some (some (.ref f))/\W.isFn K (.ref f)=true/\FnP K x q st f
abbrev FnI(K:W.Frag)(C:Addr)(q:Str)(st:Stmt)(f:Addr):Prop:=W.findIn K (.ref C) "__init__"=some (some (.ref f))/\W.typeIn K (.ref f)=some (.type "function")/\FnP K "__init__" q st f
abbrev dXB(x q:Str)(st:Stmt)(ps:List Str):Prop:=∀(kV doc pm:Value) (an:Option Addr) (cdv ct:Value) (us:List Value),us.length=ps.length->bindArgs (W.fnOf x q (jL st) (gD st) (aM st) .none kV doc pm an cdv ct) ⟨us,[]⟩=pure (ps.zip us)
def FnP.c{P:Program}{w:World}{K:W.Frag}{base:Heap}{CX:CXT}{x q:Str}{st:Stmt}{ps:List Str}{sp:Sp}(p:FnP K x q st f)(o:∀ {fd:FuncData},Fun K x q st f fd->FnOk P w K mg base CX k f fd ps sp)(hb:dXB x q st ps):∃fd:FuncData,FnOk P w K mg base CX k f fd ps sp/\W.keepIn K (.ref f)=true/\Binds K fd ps []:=by
 obtain⟨_,_,_,_,_,_,_,_,_,l,c,k⟩:=p;have F:=aZ8 (st:=st) l c k
 exact⟨_,o F,k,F.binds hb⟩
local macro_rules | `(tactic| walk_at "bd") => `(tactic| (intro a1 a2 a3 a4 a5 a6 us hl; iterate 7 (all_goals try (rcases us with _ | ⟨u,us⟩; (· first | rfl | (simp at hl)))); all_goals (simp at hl)))
def all_mk{l:W.OpenLaw}{w:World}{K:W.Frag}{h:Heap}{fa:Addr}{f_0 f_1 f_2 f_3 f_4 f_5 f_6 f_7 f_8 f_9 f_10 f_11 f_12 f_13 f_14 f_15 f_16 f_17 f_18 f_19 f_20 f_21 f_22 f_23 f_24 f_25 f_26 f_27 f_28 f_29 f_30 f_31 f_32 f_33 f_34 f_35 f_36 f_37 f_38 f_39 f_40 f_41 f_42 f_43 f_44 f_45 f_46 f_47 f_48 f_49 f_50 f_51 f_52 f_53 f_54 f_55:Addr}{t_FLAGS t_SUBSTITUTES t_MOST_PLACES t_LETTERS t_MOST_OF_A_FLAG:Tok}{dd_THINGS_IN:Addr}{es_THINGS_IN:Array DictEntry}{ep_THINGS_IN:Nat}{c Pt:Addr}(X:K.In h)(Gn:h.Ns mainGlobals mg)(hfa:mg "law"=some (.ref fa))(TH:cQ8 h mg "longest_on" c)(q_Lack:W.nsIn K mainGlobals "Lack"=some (some (.ref Zs)))(q_TowerError:W.nsIn K mainGlobals "TowerError"=some (some (.ref Zz)))(q_Short:W.nsIn K mainGlobals "Short"=some (some (.ref Zt)))(q_NoHoist:W.nsIn K mainGlobals "NoHoist"=some (some (.ref Zx)))(q_Tower:W.nsIn K mainGlobals "Tower"=some (some (.ref Z0)))(q_NoDeed:W.nsIn K mainGlobals "NoDeed"=some (some (.ref Zv)))(q_NoHalyard:W.nsIn K mainGlobals "NoHalyard"=some (some (.ref Zy)))(q_NoWord:W.nsIn K mainGlobals "NoWord"=some (some (.ref Zw)))(q_NoFlag:W.nsIn K mainGlobals "NoFlag"=some (some (.ref Zu)))(p_0:FnG K "_law_mixed" qJ f_0)(p_1:FnG K "_law_word" tE f_1)(p_2:FnG K "_law_book" tH f_2)(p_3:FnG K "_law_checked" gY f_3)(p_4:FnG K "_law_flags" pL f_4)(p_5:FnG K "_law_cell_at" kN f_5)(p_6:FnG K "plain_locker" gH f_6)(p_7:FnM K Z0 "__init__" "Tower.__init__" iQ f_7)(p_8:FnG K "_law_begun" pP f_8)(p_9:FnG K "behind_say" oI f_9)(p_10:FnG K "look_for_halyard" eM f_10)(p_11:FnG K "put_in" tM f_11)(p_12:FnG K "rising_lists" dO f_12)(p_13:FnG K "sets_of" qF f_13)(p_14:FnI K Zs "Lack.__init__" kW f_14)(p_15:FnG K "others_hung" fJ f_15)(p_16:FnG K "wants_of" jH f_16)(p_17:FnG K "choices_at" fW f_17)(p_18:FnG K "choices_of" iX f_18)(p_19:FnG K "hoists_of" kS f_19)(p_20:FnG K "asked_from" fV f_20)(p_21:FnG K "hang_along" jC f_21)(p_22:FnG K "hang_all" eJ f_22)(p_23:FnG K "lack_of" pV f_23)(p_24:FnG K "flags_on" mT f_24)(p_25:FnG K "is_flag" qK f_25)(p_26:FnG K "may_stand" kZ f_26)(p_27:FnG K "is_hoist" mR f_27)(p_28:FnG K "read_of" pZ f_28)(p_29:FnG K "words_with" gA f_29)(p_30:FnG K "least_set" jZ f_30)(p_31:FnI K Zt "Short.__init__" jB f_31)(p_32:FnG K "taken" yQ f_32)(p_33:FnG K "hauled" tP f_33)(p_34:FnG K "is_word" pF f_34)(p_35:FnG K "rank_of" qN f_35)(p_36:FnG K "is_divided" jI f_36)(p_37:FnG K "is_checked" iT f_37)(p_38:FnI K Zw "NoWord.__init__" iG f_38)(p_39:FnG K "behind_haul" iD f_39)(p_40:FnG K "behind_lower" kU f_40)(p_41:FnG K "look_for_flag" fT f_41)(p_42:FnG K "behind_lose" hV f_42)(p_43:FnG K "all_flags_on" gK f_43)(p_44:FnG K "behind_find" hU f_44)(p_45:FnG K "behind_deed" iI f_45)(p_46:FnM K Z0 "do" "Tower.do" nM f_46)(p_47:FnG K "_law_hung" tZ f_47)(p_48:FnM K Z0 "locker" "Tower.locker" gJ f_48)(p_49:FnG K "_law_due" zJ f_49)(p_50:FnM K Z0 "halyards" "Tower.halyards" fE f_50)(p_51:FnG K "_law_word_of" lF f_51)(p_52:FnG K "_law_choices" kA f_52)(p_53:FnG K "_law_holds" lV f_53)(p_54:FnG K "_law_step" uE f_54)(p_55:FnG K "law" tR f_55)(z_range:W.nsIn K mainGlobals "range"=some none)(z_enumerate:W.nsIn K mainGlobals "enumerate"=some none)(z_sum:W.nsIn K mainGlobals "sum"=some none)(z_len:W.nsIn K mainGlobals "len"=some none)(z_list:W.nsIn K mainGlobals "list"=some none)(z_int:W.nsIn K mainGlobals "int"=some none)(z_all:W.nsIn K mainGlobals "all"=some none)(z_zip:W.nsIn K mainGlobals "zip"=some none)(z_isinstance:W.nsIn K mainGlobals "isinstance"=some none)(z_ValueError:W.nsIn K mainGlobals "ValueError"=some none)(z_min:W.nsIn K mainGlobals "min"=some none)(z_str:W.nsIn K mainGlobals "str"=some none)(z_dict:W.nsIn K mainGlobals "dict"=some none)(z_bool:W.nsIn K mainGlobals "bool"=some none)(z_sorted:W.nsIn K mainGlobals "sorted"=some none)(g_FLAGS:W.nsIn K mainGlobals "FLAGS"=some (some (.str "abcdefghijklmnopqrstuvw1234" t_FLAGS)))(g_SUBSTITUTES:W.nsIn K mainGlobals "SUBSTITUTES"=some (some (.str "1234" t_SUBSTITUTES)))(g_MOST_PLACES:W.nsIn K mainGlobals "MOST_PLACES"=some (some (.int 7 t_MOST_PLACES)))(g_LETTERS:W.nsIn K mainGlobals "LETTERS"=some (some (.str "abcdefghijklmnopqrstuvw" t_LETTERS)))(g_MOST_OF_A_FLAG:W.nsIn K mainGlobals "MOST_OF_A_FLAG"=some (some (.int 99 t_MOST_OF_A_FLAG)))(KF:KFs K Zs Zz Zt Zx Z0 Zv Zy Zw Zu)(qd_THINGS_IN:W.nsIn K mainGlobals "THINGS_IN"=some (some (.ref dd_THINGS_IN)))(ld_THINGS_IN:K.lookup dd_THINGS_IN=some ⟨.type "dict",none,.dict es_THINGS_IN ep_THINGS_IN,#[]⟩)(sd_THINGS_IN:(dd_THINGS_IN==sysModules)=false)(ed_THINGS_IN:yD w es_THINGS_IN.toList [("haul",3),("lower",2),("lose",2),("find",2),("say",2)]):∃fd:FuncData,(∀(s:Shared) (v:Value),BindsTo s fd ⟨[v],[]⟩ [("_law_script",v)])/\∀base:Heap,K.In base->base.Ns mainGlobals mg->LamB mg base c Pt->FnOk l.prog w K mg base CX0 19 fa fd ["_law_script"] (xQ K Pt):=by
 have M:∀ {x:Str} {v:Value},W.nsIn K mainGlobals x=some (some v)->mg x=some v:=λh=>W.mg_of X Gn h
 have N:∀ {x:Str},W.nsIn K mainGlobals x=some none->mg x=none:=λh=>W.mg_none_of X Gn h
 have e:=hfa.symm.trans (M p_55.1)
 cases e;have G:Gs K mg w Zs Zz Zt Zx Z0 Zv Zy Zw Zu:=⟨KF,M q_Lack,M q_TowerError,M q_Short,M q_NoHoist,M q_Tower,M q_NoDeed,M q_NoHalyard,M q_NoWord,M q_NoFlag,⟨_,_,_,M qd_THINGS_IN,ld_THINGS_IN,sd_THINGS_IN,ed_THINGS_IN,by decide +kernel⟩,N z_range,N z_enumerate,N z_sum,N z_len,N z_list,N z_int,N z_all,N z_zip,N z_isinstance,N z_ValueError,N z_min,N z_str,N z_dict,N z_bool,N z_sorted,⟨_,M g_FLAGS⟩,⟨_,M g_SUBSTITUTES⟩,⟨_,M g_MOST_PLACES⟩,⟨_,M g_LETTERS⟩,⟨_,M g_MOST_OF_A_FLAG⟩⟩
 obtain⟨_,_,_,kV,dc,pm,an,cd,ct,lk,hc,hk⟩:=p_55.2;have F:=aZ8 (st:=tR) lk hc hk
 refine⟨W.fnOf "law" "law" (jL tR) (gD tR) (aM tR) .none kV dc pm an cd ct,λs v=>.of_eq rfl,λbase _ _ LB=>?_⟩;have mk:∀ {CX:CXT} {k:Nat} {x:Str} {st:Stmt} {f:Addr} {ps:List Str} {sp:Sp},FnG K x st f->(∀ {fd:FuncData},Fun K x x st f fd->FnOk l.prog w K mg base CX k f fd ps sp)->dXB x x st ps->∃(f:Addr) (fd:FuncData),FnOk l.prog w K mg base CX k f fd ps sp/\mg x=some (.ref f)/\W.keepIn K (.ref f)=true/\Binds K fd ps []:=λp o hb=>by
  obtain⟨fd,a,b,c⟩:=p.2.c o hb;exact⟨_,fd,a,M p.1,b,c⟩
 have mt:∀ {CX:CXT} {k:Nat} {x:Str} {st:Stmt} {f:Addr} {ps:List Str} {sp:Sp} {C:Addr} {q:Str},FnM K C x q st f->(∀ {fd:FuncData},Fun K x q st f fd->FnOk l.prog w K mg base CX k f fd ps sp)->dXB x q st ps->uY CX l.prog w K mg base k C x ps sp:=λp o hb=>by
  obtain⟨fd,a,b,c⟩:=p.2.2.c o hb;exact⟨_,fd,a,⟨p.1,p.2.1,b⟩,c⟩
 have mi:∀ {k:Nat} {st:Stmt} {f:Addr} {ps:List Str} {sp:Sp} {C:Addr} {q:Str},FnI K C q st f->(∀ {fd:FuncData},Fun K "__init__" q st f fd->FnOk l.prog w K mg base CX0 k f fd ps sp)->dXB "__init__" q st ps->aZR l.prog w K mg base k C ps sp:=λp o hb=>by
  obtain⟨fd,a,b,c⟩:=p.2.2.c o hb;exact⟨_,fd,a,p.1,p.2.1,c⟩
 have c_l_mixed:=mk p_0 (λF=>aZV F G ) (by walk_at "bd")
 have c_l_word:=mk p_1 (λF=>bQ4 F G ) (by walk_at "bd")
 have c_l_book:=mk p_2 (λF=>bZF F G c_l_mixed c_l_word) (by walk_at "bd")
 have c_l_checked:=mk p_3 (λF=>xN F G ) (by walk_at "bd")
 have c_l_flags:=mk p_4 (λF=>aZ6 F G c_l_mixed c_l_checked) (by walk_at "bd")
 have c_l_cell_at:=mk p_5 (λF=>yV F G ) (by walk_at "bd")
 have c_plain_locker:=mk p_6 (λF=>qZ F G ) (by walk_at "bd")
 have c_Tower_init:eQQ CX0 l.prog w K mg base 2 Z0 ["self", "book", "locker", "many"] (hZ Z0):=by
  obtain⟨fd,a,b,c⟩:=p_7.2.2.c (λF=>uN F G c_plain_locker) (by walk_at "bd")
  exact⟨_,fd,a,⟨G.mk1_Tower,p_7.1,p_7.2.1,G.mk2_Tower⟩,c⟩
 have c_l_begun:=mk p_8 (λF=>aJH F G c_l_book c_l_flags c_l_cell_at c_Tower_init) (by walk_at "bd")
 have c_behind_say:=mk p_9 (λF=>uV F G ) (by walk_at "bd")
 have c_look_for_halyard:=mk p_10 (λF=>mC F G ) (by walk_at "bd")
 have c_put_in:=mk p_11 (λF=>bXJ F G c_plain_locker) (by walk_at "bd")
 have c_rising_lists:Cal l.prog w K mg base 9 "rising_lists" ["numbers", "many"] (cO 8):=by
  obtain⟨_,_,_,_,_,_,_,_,_,l,c,k⟩:=p_12.2;have F:=aZ8 (st:=dO) l c k
  have b:=F.binds (ps:=["numbers", "many"]) (by walk_at "bd")
  exact⟨_,_,bZU cO pK (M p_12.1) k b (λd n c=>rE F G c) 8,M p_12.1,k,b⟩
 have c_sets_of:=mk p_13 (λF=>aZG F G c_rising_lists) (by walk_at "bd")
 have c_Lack_init:=mi p_14 (λF=>xT F G ) (by walk_at "bd")
 have c_others_hung:=mk p_15 (λF=>tL F G ) (by walk_at "bd")
 have c_wants_of:=mk p_16 (λF=>aQM F G ) (by walk_at "bd")
 have c_choices_at:=mk p_17 (λF=>vF F G ) (by walk_at "bd")
 have c_choices_of:=mk p_18 (λF=>vG F G c_wants_of c_choices_at) (by walk_at "bd")
 have c_hoists_of:=mk p_19 (λF=>zD F G ) (by walk_at "bd")
 have c_asked_from:=mk p_20 (λF=>uR F G ) (by walk_at "bd")
 have c_hang_along:=mk p_21 (λF=>uZ F G ) (by walk_at "bd")
 have c_hang_all:=mk p_22 (λF=>aQD F G c_choices_of c_plain_locker c_hoists_of c_asked_from c_hang_along c_Lack_init) (by walk_at "bd")
 have c_lack_of:=mk p_23 (λF=>aZT F G c_hang_all) (by walk_at "bd")
 have c_flags_on:=mk p_24 (λF=>aQW F G ) (by walk_at "bd")
 have c_is_flag:=mk p_25 (λF=>aX8 F G ) (by walk_at "bd")
 have c_may_stand:=mk p_26 (λF=>xW F G c_is_flag) (by walk_at "bd")
 have c_is_hoist:=mk p_27 (λF=>aQ5 F G c_may_stand) (by walk_at "bd")
 have c_read_of:=mk p_28 (λF=>aX6 F G c_is_hoist) (by walk_at "bd")
 have c_words_with:=mk p_29 (λF=>uX F G c_read_of) (by walk_at "bd")
 have c_least_set:=mk p_30 (λF=>yM F G c_sets_of c_Lack_init c_others_hung c_put_in c_lack_of c_flags_on c_words_with) (by walk_at "bd")
 have c_Short_init:=mi p_31 (λF=>vL F G ) (by walk_at "bd")
 have c_taken:=mk p_32 (λF=>cXB F G c_plain_locker c_Short_init) (by walk_at "bd")
 have c_hauled:=mk p_33 (λF=>bZP F G c_put_in c_least_set c_flags_on c_hang_all c_taken c_words_with) (by walk_at "bd")
 have c_is_word:=mk p_34 (λF=>aXW F G ) (by walk_at "bd")
 have c_rank_of:=mk p_35 (λF=>aZ5 F G ) (by walk_at "bd")
 have c_is_divided:=mk p_36 (λF=>uU F G c_rank_of) (by walk_at "bd")
 have c_is_checked:=mk p_37 (λF=>vH F G c_is_word c_is_divided) (by walk_at "bd")
 have c_NoWord_init:=mi p_38 (λF=>tU F G ) (by walk_at "bd")
 have c_behind_haul:=mk p_39 (λF=>uC F G c_look_for_halyard c_hauled c_is_checked c_NoWord_init) (by walk_at "bd")
 have c_behind_lower:=mk p_40 (λF=>rD F G ) (by walk_at "bd")
 have c_look_for_flag:=mk p_41 (λF=>qM F G c_is_flag) (by walk_at "bd")
 have c_behind_lose:=mk p_42 (λF=>tS F G c_look_for_flag c_taken) (by walk_at "bd")
 have c_all_flags_on:=mk p_43 (λF=>rF F G c_flags_on) (by walk_at "bd")
 have c_behind_find:=mk p_44 (λF=>tK F G c_look_for_flag c_put_in c_all_flags_on) (by walk_at "bd")
 have c_behind_deed:=mk p_45 (λF=>tV F G c_behind_say c_behind_haul c_behind_lower c_behind_lose c_behind_find) (by walk_at "bd")
 have c_Tower_do:=mt p_46 (λF=>aXD F G c_behind_deed) (by walk_at "bd")
 have c_l_hung:=mk p_47 (λF=>bXQ F G c_l_checked c_Tower_do) (by walk_at "bd")
 have c_Tower_locker:=mt p_48 (λF=>rA F G c_plain_locker) (by walk_at "bd")
 have c_l_due:=mk p_49 (λF=>bZ0 F G c_Tower_locker) (by walk_at "bd")
 have c_Tower_halyards:=mt p_50 (λF=>oZ F G ) (by walk_at "bd")
 have c_l_word_of:=mk p_51 (λF=>yJ F G c_Tower_do) (by walk_at "bd")
 have c_l_choices:=mk p_52 (λF=>yK F G ) (by walk_at "bd")
 have c_l_holds:=mk p_53 (λF=>aX5 F G c_Tower_halyards c_Tower_locker c_l_choices) (by walk_at "bd")
 have c_l_step:=mk p_54 (λF=>bXG F G c_l_due c_Tower_halyards c_l_word_of c_l_holds c_Tower_locker) (by walk_at "bd")
 exact dJJ F G c_l_begun c_l_hung c_l_mixed c_l_step c_l_cell_at
def walk{l:W.OpenLaw}{q:Program}{loose:List Str}{XP:(Q4)->Heap->Prop}{YP:World->Heap->Prop}{d:DefRec}{K:Params->W.Frag}(hn:l.most=some 63)(hdf:d.params.defaults=[])(hd2:((PyProof.Rows.recsOf q).find? λe=>e.name==PySem.Str.ofString "longest_on").isSome=true)(hno:∀w:World,W.noTabs (K w.params)=true)(hY:∀(w:World) (h:Heap),YP w h->(K w.params).In h)(F:∀(w:World) (mg:Q4) (fa:Addr) (h:Heap) (c Pt:Addr),(K w.params).In h->h.Ns mainGlobals mg->mg d.name=some (.ref fa)->cQ8 h mg "longest_on" c->
 ∃fd:FuncData,(∀(s:Shared) (u:Value),BindsTo s fd ⟨[u],[]⟩ [("_law_script",u)])/\∀base:Heap,(K w.params).In base->base.Ns mainGlobals mg->LamB mg base c Pt->FnOk l.prog w (K w.params) mg base CX0 19 fa fd ["_law_script"] (xQ (K w.params) Pt)):W.WalkO q loose XP YP l.row.toRowW d [] (λf vs=>PySem.call f vs):=by
 obtain⟨d2,e⟩:=Cm.mp hd2;have e3:=List.find?_some e
 have e2:d2.name=PySem.Str.ofString "longest_on" := eq_of_beq e3
 exact L2.cZT (d2:=d2) (n:=63) (k:=19) (x := "_law_script") (CX:=λ_=>CX0) (sp:=λw=>xQ (K w.params)) hn (by decide) hdf ⟨rfl,by decide,by decide⟩ (List.mem_of_find?_eq_some e) hno hY (λw mg fa h c Pt a1 a2 a3 a4=>F w mg fa h c Pt a1 a2 a3 (e2▸a4)) (λ_ _ a Pt ns hl hP hS=>⟨a,ns,rfl,hS,hl,hP,λ_=>rfl⟩) λ_ _ _ _ _ z=>z
end Mine
namespace PySem.W.Fast
theorem tw7683263742298799583:True:=⟨⟩
theorem tw17971926691902404811:True:=⟨⟩
theorem tw15660398987450701563:True:=⟨⟩
theorem tw13572163384739345878:True:=⟨⟩
theorem tw14246482441907780713:True:=⟨⟩
theorem tw6057490205765244738:True:=⟨⟩
theorem tw17437036903936307412:True:=⟨⟩
theorem tw4871043215265594071:True:=⟨⟩
theorem tw13297885517545331553:True:=⟨⟩
theorem tw15115512864772462352:True:=⟨⟩
theorem tw17929976441431914636:True:=⟨⟩
theorem tw8449692535938966126:True:=⟨⟩
theorem tw16011854557644990277:True:=⟨⟩
theorem tw116865426727068192:True:=⟨⟩
theorem tw7885969959209263036:True:=⟨⟩
theorem tw12260327345529672157:True:=⟨⟩
theorem tw16002442818585384900:True:=⟨⟩
theorem tw1569710912816577092:True:=⟨⟩
theorem tw16912214796421270300:True:=⟨⟩
theorem tw4432217599374194326:True:=⟨⟩
theorem tw15519469750012207338:True:=⟨⟩
theorem tw4986943113759039367:True:=⟨⟩
theorem tw6361731619782185378:True:=⟨⟩
theorem tw4255941270650681121:True:=⟨⟩
theorem tw17653157680322484598:True:=⟨⟩
theorem tw9339334705006982168:True:=⟨⟩
theorem tw13129998161279197599:True:=⟨⟩
theorem tw726511678526709290:True:=⟨⟩
theorem tw6981079580345220020:True:=⟨⟩
theorem tw8650015245635629901:True:=⟨⟩
theorem tw13605728543540261869:True:=⟨⟩
theorem tw10236789017842010132:True:=⟨⟩
theorem tw18416520754324483781:True:=⟨⟩
theorem tw17826470137355383588:True:=⟨⟩
theorem tw255899343157668890:True:=⟨⟩
theorem tw15319471396503756001:True:=⟨⟩
theorem tw10457555376613066869:True:=⟨⟩
theorem tw16477978449978265223:True:=⟨⟩
theorem tw2366029697853811112:True:=⟨⟩
theorem tw8160050665480481395:True:=⟨⟩
theorem tw15689135553682911125:True:=⟨⟩
theorem tw4413053448489719991:True:=⟨⟩
theorem tw9851733730194347407:True:=⟨⟩
theorem tw13392867354880874071:True:=⟨⟩
theorem tw10982062913281018200:True:=⟨⟩
theorem tw17108691722670586407:True:=⟨⟩
theorem tw2644431752174765088:True:=⟨⟩
theorem tw7582269699155319436:True:=⟨⟩
theorem tw17591388576126910790:True:=⟨⟩
theorem tw9184184433683311549:True:=⟨⟩
theorem tw4420249134962620608:True:=⟨⟩
theorem tw10246086301474646503:True:=⟨⟩
theorem tw17672870650526532571:True:=⟨⟩
theorem tw3114618104031474553:True:=⟨⟩
theorem tw4892742226048492615:True:=⟨⟩
theorem tw6161400332970015750:True:=⟨⟩
theorem tw1334422452881472213:True:=⟨⟩
theorem tw9361788820699619229:True:=⟨⟩
theorem tw3328383486069964014:True:=⟨⟩
theorem tw17789872689001627295:True:=⟨⟩
theorem tw3300662905350146944:True:=⟨⟩
theorem tw9574057483651711338:True:=⟨⟩
theorem tw10625390223089603096:True:=⟨⟩
theorem tw9609690123912170294:True:=⟨⟩
theorem tw6318804493011407052:True:=⟨⟩
theorem tw15688058935733969418:True:=⟨⟩
theorem tw978637065110169707:True:=⟨⟩
theorem tw10990795312278474224:True:=⟨⟩
theorem tw13176583921447406550:True:=⟨⟩
theorem tw4791579502473592701:True:=⟨⟩
theorem tw3346287055698118891:True:=⟨⟩
theorem tw6510247388623498878:True:=⟨⟩
theorem tw1185079965475602394:True:=⟨⟩
theorem tw3837408173915663640:True:=⟨⟩
theorem tw8953769195558935797:True:=⟨⟩
theorem tw3450878002091905550:True:=⟨⟩
theorem tw16381069030480506176:True:=⟨⟩
theorem tw4082708786765615409:True:=⟨⟩
theorem tw7386344401069994888:True:=⟨⟩
theorem tw17275078877328925472:True:=⟨⟩
theorem tw14440171238322601659:True:=⟨⟩
theorem tw3024546897234660888:True:=⟨⟩
theorem tw8149398309418607459:True:=⟨⟩
theorem tw15452550749547053536:True:=⟨⟩
theorem tw10911727429248265272:True:=⟨⟩
theorem tw8502886818282574006:True:=⟨⟩
theorem tw5874782968627037673:True:=⟨⟩
theorem tw16936017924024592319:True:=⟨⟩
theorem tw590090200992922440:True:=⟨⟩
theorem tw17721730624745723695:True:=⟨⟩
theorem tw4063369694189769979:True:=⟨⟩
theorem tw9889060216176649794:True:=⟨⟩
theorem tw1728538467892119824:True:=⟨⟩
theorem tw14710802151342136446:True:=⟨⟩
theorem tw17377930024202876404:True:=⟨⟩
theorem tw12688697686000674434:True:=⟨⟩
theorem tw5404714419033022909:True:=⟨⟩
theorem tw4192818961303080454:True:=⟨⟩
theorem tw7683163448650362479:True:=⟨⟩
theorem tw7889691673047751535:True:=⟨⟩
theorem tw5384187709648736720:True:=⟨⟩
theorem tw5385850536711519694:True:=⟨⟩
theorem tw6072527036521782262:True:=⟨⟩
theorem tw4703345372053503789:True:=⟨⟩
theorem tw14617719442248718246:True:=⟨⟩
theorem tw14404150299593729702:True:=⟨⟩
theorem tw17855075482860093622:True:=⟨⟩
theorem tw10459858786352739995:True:=⟨⟩
theorem tw3998488563381984567:True:=⟨⟩
theorem tw14372963272063643403:True:=⟨⟩
theorem tw7627661277117871307:True:=⟨⟩
theorem tw12945434559693115340:True:=⟨⟩
theorem tw13155839583503419408:True:=⟨⟩
theorem tw8873984321747794657:True:=⟨⟩
theorem tw8853281933313443538:True:=⟨⟩
theorem tw16349764660605207234:True:=⟨⟩
theorem tw8120024822138582589:True:=⟨⟩
theorem tw11175002645895026509:True:=⟨⟩
theorem tw11634973057936432133:True:=⟨⟩
theorem tw5231609662309227376:True:=⟨⟩
theorem tw10148642042491994109:True:=⟨⟩
theorem tw12638582158080106557:True:=⟨⟩
theorem tw15762125594995084093:True:=⟨⟩
theorem tw15703382371021063725:True:=⟨⟩
theorem tw16165741240021142183:True:=⟨⟩
theorem tw13171776524945690506:True:=⟨⟩
theorem tw14339305224527549850:True:=⟨⟩
theorem tw6885286439341998051:True:=⟨⟩
theorem tw1209847045809870065:True:=⟨⟩
theorem tw15833743174716975196:True:=⟨⟩
theorem tw7694481486668842084:True:=⟨⟩
theorem tw15287132120822718516:True:=⟨⟩
theorem tw14524399968116478818:True:=⟨⟩
theorem tw5826035448608910106:True:=⟨⟩
theorem tw2838359355147266775:True:=⟨⟩
theorem tw11062353770245619871:True:=⟨⟩
theorem tw15772605843373539240:True:=⟨⟩
theorem tw8495470923132414008:True:=⟨⟩
theorem tw1926250017047435825:True:=⟨⟩
theorem tw16068653602428391525:True:=⟨⟩
theorem tw6875230858189020294:True:=⟨⟩
theorem tw8771551180910833099:True:=⟨⟩
theorem tw283901838674236209:True:=⟨⟩
theorem tw8130127012840083918:True:=⟨⟩
theorem tw12018817287431150243:True:=⟨⟩
theorem tw511653422354705128:True:=⟨⟩
theorem tw926071866016892372:True:=⟨⟩
theorem tw4695950546336889233:True:=⟨⟩
theorem tw15994900760509984777:True:=⟨⟩
theorem tw15355757744170911253:True:=⟨⟩
theorem tw1277659754525208040:True:=⟨⟩
theorem tw6503678843360836379:True:=⟨⟩
theorem tw7165880838879813203:True:=⟨⟩
theorem tw12306309558293717198:True:=⟨⟩
theorem tw74581733320483139:True:=⟨⟩
theorem tw18330917555009346027:True:=⟨⟩
theorem tw16419604099951636743:True:=⟨⟩
theorem tw8264939082390747877:True:=⟨⟩
theorem tw14831575751074859886:True:=⟨⟩
theorem tw14385198745335899357:True:=⟨⟩
theorem tw1306239216234193112:True:=⟨⟩
theorem tw1851430992981311082:True:=⟨⟩
theorem tw13591860155904955235:True:=⟨⟩
theorem tw2809702247868581064:True:=⟨⟩
theorem tw4161022819848998905:True:=⟨⟩
theorem tw1977807033037586050:True:=⟨⟩
theorem tw3688331172458990755:True:=⟨⟩
theorem tw2294597744027995889:True:=⟨⟩
theorem tw10885938669592974172:True:=⟨⟩
theorem tw13482594271002149874:True:=⟨⟩
theorem tw10914741794885820181:True:=⟨⟩
theorem tw11983151685948368709:True:=⟨⟩
theorem tw7760999549559038346:True:=⟨⟩
theorem tw17196680804969802040:True:=⟨⟩
theorem tw5593561296846866237:True:=⟨⟩
theorem tw16901355759699075758:True:=⟨⟩
theorem tw10603824816602450490:True:=⟨⟩
theorem tw17476468550331938732:True:=⟨⟩
theorem tw5578277894063284488:True:=⟨⟩
theorem tw16329777270700845092:True:=⟨⟩
theorem tw15939227522592249060:True:=⟨⟩
theorem tw17590889572306960203:True:=⟨⟩
theorem tw6076050834504240850:True:=⟨⟩
theorem tw14349848449076608465:True:=⟨⟩
theorem tw15900303767377490450:True:=⟨⟩
theorem tw18105803119866317975:True:=⟨⟩
theorem tw5374910213080709243:True:=⟨⟩
theorem tw14131229256485963309:True:=⟨⟩
theorem tw4271889157576123479:True:=⟨⟩
theorem tw5460309736423701295:True:=⟨⟩
theorem tw147411029499686772:True:=⟨⟩
theorem tw9055814659703052816:True:=⟨⟩
theorem tw192139188543460125:True:=⟨⟩
theorem tw4631171820221753324:True:=⟨⟩
theorem tw15803576555451807168:True:=⟨⟩
theorem tw15158999065595229157:True:=⟨⟩
theorem tw5915736660808792843:True:=⟨⟩
theorem tw13471665482036767552:True:=⟨⟩
theorem tw11851653222535628066:True:=⟨⟩
theorem tw9172660483526467828:True:=⟨⟩
theorem tw4338559063111392195:True:=⟨⟩
theorem tw5279991309033135180:True:=⟨⟩
theorem tw7055249649453617016:True:=⟨⟩
theorem tw16810999035781092125:True:=⟨⟩
theorem tw4437480864418171378:True:=⟨⟩
theorem tw16096953799426362294:True:=⟨⟩
theorem tw14355432511557887095:True:=⟨⟩
theorem tw9743098345739358786:True:=⟨⟩
theorem tw10885148916193465692:True:=⟨⟩
theorem tw5016104612418099614:True:=⟨⟩
theorem tw6324822115585316047:True:=⟨⟩
theorem tw9921966760878233547:True:=⟨⟩
theorem tw3444841985680100834:True:=⟨⟩
theorem tw1775671211679463816:True:=⟨⟩
theorem tw4419508401925350874:True:=⟨⟩
theorem tw109904937051243335:True:=⟨⟩
theorem tw6255344410693607447:True:=⟨⟩
theorem tw5901927485587122774:True:=⟨⟩
theorem tw2805161864774227718:True:=⟨⟩
theorem tw11486824890284769510:True:=⟨⟩
theorem tw8040388137013883621:True:=⟨⟩
theorem tw16452941348074686560:True:=⟨⟩
theorem tw7008016392716510259:True:=⟨⟩
theorem tw2339312595785281414:True:=⟨⟩
theorem tw2157654708891137290:True:=⟨⟩
theorem tw2357080029767826846:True:=⟨⟩
theorem tw16979960893220236450:True:=⟨⟩
theorem tw11072660787305368387:True:=⟨⟩
theorem tw7667728102822618608:True:=⟨⟩
theorem tw5859268781972392419:True:=⟨⟩
theorem tw10870530562096985624:True:=⟨⟩
theorem tw13579925300488073720:True:=⟨⟩
theorem tw14239864829833984766:True:=⟨⟩
theorem tw2455453611061690958:True:=⟨⟩
theorem tw15069820150295536906:True:=⟨⟩
theorem tw7849127468306954634:True:=⟨⟩
theorem tw8276949830804898698:True:=⟨⟩
theorem tw6147060502469445950:True:=⟨⟩
theorem tw15841884211956458831:True:=⟨⟩
theorem tw17762125448011674743:True:=⟨⟩
theorem tw1688108589329918058:True:=⟨⟩
theorem tw75148200730788934:True:=⟨⟩
theorem tw1329359261989217092:True:=⟨⟩
theorem tw11501802611628065620:True:=⟨⟩
theorem tw11673522634703606198:True:=⟨⟩
theorem tw1635872744749390610:True:=⟨⟩
theorem tw613986924127982335:True:=⟨⟩
theorem tw3341995279588953604:True:=⟨⟩
theorem tw491956068226670477:True:=⟨⟩
theorem tw18350647683500580644:True:=⟨⟩
theorem tw3720558764355893974:True:=⟨⟩
theorem tw10626043062024194140:True:=⟨⟩
theorem tw7912839246034879064:True:=⟨⟩
theorem tw13781618696751584343:True:=⟨⟩
theorem tw8384773382164972192:True:=⟨⟩
theorem tw10622378924835529550:True:=⟨⟩
theorem tw10298063648998194693:True:=⟨⟩
theorem tw13583092197278906639:True:=⟨⟩
theorem tw1589119224046427373:True:=⟨⟩
theorem tw11779193596949360570:True:=⟨⟩
theorem tw8367948960828333070:True:=⟨⟩
theorem tw8042102741128153995:True:=⟨⟩
theorem tw16533993552378180194:True:=⟨⟩
theorem tw11996241121168306794:True:=⟨⟩
theorem tw12231232034131040988:True:=⟨⟩
theorem tw4372844181126877137:True:=⟨⟩
theorem tw16072060238354108649:True:=⟨⟩
theorem tw16901776475133795586:True:=⟨⟩
theorem tw14853751018584833053:True:=⟨⟩
theorem tw9037251884096721129:True:=⟨⟩
theorem tw77911041867736397:True:=⟨⟩
theorem tw9833598276070540846:True:=⟨⟩
theorem tw8402631626462535739:True:=⟨⟩
theorem tw18044594594370534073:True:=⟨⟩
theorem tw4034820015220246293:True:=⟨⟩
theorem tw4966810013091861321:True:=⟨⟩
theorem tw12409127468048526650:True:=⟨⟩
theorem tw7310300973938955644:True:=⟨⟩
theorem tw15503412920134331651:True:=⟨⟩
theorem tw9785602628488530552:True:=⟨⟩
theorem tw8109470605779070667:True:=⟨⟩
theorem tw192521554291538970:True:=⟨⟩
theorem tw17571969863218590391:True:=⟨⟩
theorem tw3919342105666043402:True:=⟨⟩
theorem tw9740358944896916052:True:=⟨⟩
theorem tw8268730990304476764:True:=⟨⟩
theorem tw9828101024862347037:True:=⟨⟩
theorem tw16872019657429416825:True:=⟨⟩
theorem tw12575905077758916887:True:=⟨⟩
theorem tw6543034076342283566:True:=⟨⟩
theorem tw2104967124113596328:True:=⟨⟩
theorem tw12332286613513355551:True:=⟨⟩
theorem tw16402344224100470632:True:=⟨⟩
theorem tw7587598278516842526:True:=⟨⟩
theorem tw354636666199492401:True:=⟨⟩
theorem tw16080882118087122187:True:=⟨⟩
theorem tw1827546139886480539:True:=⟨⟩
theorem tw16491597971158223458:True:=⟨⟩
theorem tw9109240155443353486:True:=⟨⟩
theorem tw6862320230209909118:True:=⟨⟩
theorem tw11363670822444508817:True:=⟨⟩
theorem tw15262700615292988659:True:=⟨⟩
theorem tw7392789155972329033:True:=⟨⟩
theorem tw2920733739132900464:True:=⟨⟩
theorem tw10439668495937684605:True:=⟨⟩
theorem tw4581734427798298908:True:=⟨⟩
theorem tw2193910943951773481:True:=⟨⟩
theorem tw7939359191856988686:True:=⟨⟩
theorem tw4471489418776232920:True:=⟨⟩
theorem tw12640515262087500796:True:=⟨⟩
theorem tw13949369258371121660:True:=⟨⟩
theorem tw3801842248541296585:True:=⟨⟩
theorem tw13856439196815195658:True:=⟨⟩
theorem tw11606267614786146451:True:=⟨⟩
theorem tw5639049741967813300:True:=⟨⟩
theorem tw16322235338969593134:True:=⟨⟩
theorem tw5421384370829343632:True:=⟨⟩
theorem tw13492788140123262536:True:=⟨⟩
theorem tw11906381239282019309:True:=⟨⟩
theorem tw8149558308824056805:True:=⟨⟩
theorem tw3458035427129795609:True:=⟨⟩
theorem tw4965218172514386472:True:=⟨⟩
theorem tw15782069414452277725:True:=⟨⟩
theorem tw7605008767513812960:True:=⟨⟩
theorem tw2284849002313872176:True:=⟨⟩
theorem tw6849229598299609354:True:=⟨⟩
theorem tw17645106211515633203:True:=⟨⟩
theorem tw5679344353909392574:True:=⟨⟩
theorem tw12694532384204656773:True:=⟨⟩
theorem tw13286414191293575299:True:=⟨⟩
theorem tw5411059887167458907:True:=⟨⟩
theorem tw8280292474897633007:True:=⟨⟩
theorem tw12630660822597711933:True:=⟨⟩
theorem tw13820389102504479890:True:=⟨⟩
theorem tw10249379264939036460:True:=⟨⟩
theorem tw10440986757812450882:True:=⟨⟩
theorem tw11984433656174679611:True:=⟨⟩
theorem tw4763597915737772861:True:=⟨⟩
theorem tw13441964470054408531:True:=⟨⟩
theorem tw16434947138774220115:True:=⟨⟩
theorem tw8970680289877273108:True:=⟨⟩
theorem tw15982888446401908317:True:=⟨⟩
theorem tw8451796785302164762:True:=⟨⟩
theorem tw12884840549880201115:True:=⟨⟩
theorem tw16115696320208462879:True:=⟨⟩
theorem tw8258269964200108269:True:=⟨⟩
theorem tw1629807256288242134:True:=⟨⟩
theorem tw16350004549990684632:True:=⟨⟩
theorem tw813806429565863576:True:=⟨⟩
theorem tw6116917658409095154:True:=⟨⟩
theorem tw16048893312157743290:True:=⟨⟩
theorem tw18220487848471222629:True:=⟨⟩
theorem tw12800139583854744776:True:=⟨⟩
theorem tw1782902563596302118:True:=⟨⟩
theorem tw1211889354795592201:True:=⟨⟩
theorem tw5368850755124630124:True:=⟨⟩
theorem tw17161656692226095181:True:=⟨⟩
theorem tw12807480086143215609:True:=⟨⟩
theorem tw14181972145491562524:True:=⟨⟩
theorem tw18163098631276224497:True:=⟨⟩
theorem tw16410760127939448212:True:=⟨⟩
theorem tw11655482471944633321:True:=⟨⟩
theorem tw13220507554976825822:True:=⟨⟩
theorem tw9217592514753028177:True:=⟨⟩
theorem tw15259452788641930323:True:=⟨⟩
theorem tw306685372782101922:True:=⟨⟩
theorem tw17451001029822850078:True:=⟨⟩
theorem tw14845787384262228726:True:=⟨⟩
theorem tw17589482536998246333:True:=⟨⟩
theorem tw4711163944697221221:True:=⟨⟩
theorem tw3979898826692789634:True:=⟨⟩
theorem tw527512726840217907:True:=⟨⟩
theorem tw16040796730095610784:True:=⟨⟩
theorem tw13281542869605676484:True:=⟨⟩
theorem tw786787206160702653:True:=⟨⟩
theorem tw9172303156961502251:True:=⟨⟩
theorem tw15117372691207145998:True:=⟨⟩
theorem tw17632681910725711379:True:=⟨⟩
theorem tw937412867825593933:True:=⟨⟩
theorem tw1277076512031519825:True:=⟨⟩
theorem tw8129189464780044773:True:=⟨⟩
theorem tw1349736302660353307:True:=⟨⟩
theorem tw3206418359265963893:True:=⟨⟩
theorem tw5481035804761499950:True:=⟨⟩
theorem tw13123458412443599526:True:=⟨⟩
theorem tw1558990927265584924:True:=⟨⟩
theorem tw3012925410631869640:True:=⟨⟩
theorem tw5278373905045329417:True:=⟨⟩
theorem tw17903459016187876665:True:=⟨⟩
theorem tw1948554271490361225:True:=⟨⟩
theorem tw3125892324442367307:True:=⟨⟩
theorem tw8037186972775375405:True:=⟨⟩
theorem tw10919930242646198987:True:=⟨⟩
theorem tw9413565223310649018:True:=⟨⟩
theorem tw11157442271960460646:True:=⟨⟩
theorem tw14253827195288684841:True:=⟨⟩
theorem tw11674367372591444274:True:=⟨⟩
theorem tw17389047459940940408:True:=⟨⟩
theorem tw11864139734164858955:True:=⟨⟩
theorem tw16118638433930677657:True:=⟨⟩
theorem tw7280328509723316565:True:=⟨⟩
theorem tw2506285703743492561:True:=⟨⟩
theorem tw2551139848255752683:True:=⟨⟩
theorem tw14279657111124399747:True:=⟨⟩
theorem tw13668250064821855382:True:=⟨⟩
theorem tw16972764067628067274:True:=⟨⟩
theorem tw2882794645171901770:True:=⟨⟩
theorem tw9856143914877386878:True:=⟨⟩
theorem tw8743377805475184040:True:=⟨⟩
theorem tw4719556099295789916:True:=⟨⟩
theorem tw2373886836613046824:True:=⟨⟩
theorem tw13442760511532455466:True:=⟨⟩
theorem tw11868139472447783205:True:=⟨⟩
theorem tw2930388427692322414:True:=⟨⟩
theorem tw17575215728272943279:True:=⟨⟩
theorem tw8407670994206175289:True:=⟨⟩
theorem tw6774381540662204291:True:=⟨⟩
theorem tw13917770599388855547:True:=⟨⟩
theorem tw13466624155765357450:True:=⟨⟩
theorem tw13944771756107098481:True:=⟨⟩
theorem tw16299578087728867509:True:=⟨⟩
theorem tw1580717031689525314:True:=⟨⟩
theorem tw11490788851209387162:True:=⟨⟩
theorem tw16342752401534482880:True:=⟨⟩
theorem tw10410610272536008638:True:=⟨⟩
theorem tw9206662681004813245:True:=⟨⟩
theorem tw10847829315356868524:True:=⟨⟩
theorem tw12362610546960034072:True:=⟨⟩
theorem tw8055304192936698017:True:=⟨⟩
theorem tw15930511875553170622:True:=⟨⟩
theorem tw12401706741434889571:True:=⟨⟩
theorem tw4493902247527262965:True:=⟨⟩
theorem tw1485143517368140312:True:=⟨⟩
theorem tw948770937054369103:True:=⟨⟩
theorem tw17787891233250686161:True:=⟨⟩
theorem tw5354725833279685024:True:=⟨⟩
theorem tw11622545489358447121:True:=⟨⟩
theorem tw6653602004477260322:True:=⟨⟩
theorem tw17889504987804776613:True:=⟨⟩
theorem tw15555107399486481889:True:=⟨⟩
theorem tw3221106298247930252:True:=⟨⟩
theorem tw3855312179460947647:True:=⟨⟩
theorem tw9474005443470957516:True:=⟨⟩
theorem tw13793520559630412670:True:=⟨⟩
theorem tw5166442699466574954:True:=⟨⟩
theorem tw6387841772395885281:True:=⟨⟩
theorem tw7278493933509369796:True:=⟨⟩
theorem tw15275511751846660488:True:=⟨⟩
theorem tw10939044098742765365:True:=⟨⟩
theorem tw1963225434059727481:True:=⟨⟩
theorem tw8358388747840404015:True:=⟨⟩
theorem tw17982982845085122007:True:=⟨⟩
theorem tw14339374689330273743:True:=⟨⟩
theorem tw6016055725868736995:True:=⟨⟩
theorem tw7242696814665235045:True:=⟨⟩
theorem tw1398663441751231233:True:=⟨⟩
theorem tw9121550999829025789:True:=⟨⟩
theorem tw2539213042601093593:True:=⟨⟩
theorem tw3749883969145701670:True:=⟨⟩
theorem tw8156848303538221772:True:=⟨⟩
theorem tw17947142421352456431:True:=⟨⟩
theorem tw17138815834492762376:True:=⟨⟩
theorem tw2359888469747501073:True:=⟨⟩
theorem tw4667986840895186753:True:=⟨⟩
theorem tw13880727733029921129:True:=⟨⟩
theorem tw8766911413209199059:True:=⟨⟩
theorem tw14827924443925334140:True:=⟨⟩
theorem tw887935271123170204:True:=⟨⟩
theorem tw14617718202379472139:True:=⟨⟩
theorem tw12910047341282309316:True:=⟨⟩
theorem tw14668454090584867800:True:=⟨⟩
theorem tw16999106840656371020:True:=⟨⟩
theorem tw547911700748971229:True:=⟨⟩
theorem tw14137334234647036437:True:=⟨⟩
theorem tw9770860865326112757:True:=⟨⟩
theorem tw5510588994074057840:True:=⟨⟩
theorem tw10177048985608585031:True:=⟨⟩
theorem tw6081214691477724232:True:=⟨⟩
theorem tw14847629590337318908:True:=⟨⟩
theorem tw319623515056438724:True:=⟨⟩
theorem tw9000785139517109558:True:=⟨⟩
theorem tw14028210942535659870:True:=⟨⟩
theorem tw12697773664077183718:True:=⟨⟩
theorem tw2527264520341208124:True:=⟨⟩
theorem tw9712429315635968131:True:=⟨⟩
theorem tw11778118478799090628:True:=⟨⟩
theorem tw6910727421120567724:True:=⟨⟩
theorem tw17486158623623931919:True:=⟨⟩
theorem tw15815353084244642257:True:=⟨⟩
theorem tw509658686876393391:True:=⟨⟩
theorem tw3890944985281573812:True:=⟨⟩
theorem tw637651053538771704:True:=⟨⟩
theorem tw9853283223273477188:True:=⟨⟩
theorem tw550259659592695901:True:=⟨⟩
theorem tw897131326531431503:True:=⟨⟩
theorem tw4726942861826779456:True:=⟨⟩
theorem tw7966558635268291213:True:=⟨⟩
theorem tw15979468428994925991:True:=⟨⟩
theorem tw4058429894725236328:True:=⟨⟩
theorem tw1121248860037047615:True:=⟨⟩
theorem tw13036701444349405678:True:=⟨⟩
theorem tw17791072661428889893:True:=⟨⟩
theorem tw15549283785414777995:True:=⟨⟩
theorem tw372913315590545605:True:=⟨⟩
theorem tw17559385161290882373:True:=⟨⟩
theorem tw13034635092782879291:True:=⟨⟩
theorem tw12516401124071396984:True:=⟨⟩
theorem tw3657389019263933113:True:=⟨⟩
theorem tw14738931726671160365:True:=⟨⟩
theorem tw15353779265393782540:True:=⟨⟩
theorem tw1497269299348660387:True:=⟨⟩
theorem tw11041169909956522746:True:=⟨⟩
theorem tw1953725428896687943:True:=⟨⟩
theorem tw9571815755965286448:True:=⟨⟩
theorem tw7661701696709314823:True:=⟨⟩
theorem tw11646749209180294944:True:=⟨⟩
theorem tw15485731717292582635:True:=⟨⟩
theorem tw8725424542156113184:True:=⟨⟩
theorem tw559831152743657768:True:=⟨⟩
theorem tw14364273746649653018:True:=⟨⟩
theorem tw14101056992019318453:True:=⟨⟩
theorem tw15600291217345408790:True:=⟨⟩
theorem tw4019927205223799009:True:=⟨⟩
theorem tw13236942293934577700:True:=⟨⟩
theorem tw4032331589452328816:True:=⟨⟩
theorem tw13192797190181088979:True:=⟨⟩
theorem tw421580780472510303:True:=⟨⟩
theorem tw16673029723530608037:True:=⟨⟩
theorem tw15177001325818803476:True:=⟨⟩
theorem tw4134302911361001236:True:=⟨⟩
theorem tw5982551661622644277:True:=⟨⟩
theorem tw3053495091596985842:True:=⟨⟩
theorem tw17106394604856566463:True:=⟨⟩
theorem tw11839799586146306651:True:=⟨⟩
theorem tw1732477567625921126:True:=⟨⟩
theorem tw14056186235809274844:True:=⟨⟩
theorem tw4603424922229786777:True:=⟨⟩
theorem tw14190227796963848772:True:=⟨⟩
theorem tw9048024305562478011:True:=⟨⟩
theorem tw2698900493517198133:True:=⟨⟩
theorem tw13570605509363723388:True:=⟨⟩
theorem tw12054397517450817169:True:=⟨⟩
theorem tw17149400258654143218:True:=⟨⟩
theorem tw13153661758271295330:True:=⟨⟩
theorem tw4620367442992947851:True:=⟨⟩
theorem tw1406447151352792939:True:=⟨⟩
theorem tw4277376219234091119:True:=⟨⟩
theorem tw4482041955779950172:True:=⟨⟩
theorem tw18121180324474609695:True:=⟨⟩
theorem tw12055200346426156924:True:=⟨⟩
theorem tw10613381429509711407:True:=⟨⟩
theorem tw10964864375334321245:True:=⟨⟩
theorem tw16086581855774210242:True:=⟨⟩
theorem tw9735191565732584492:True:=⟨⟩
theorem tw9612160582474770188:True:=⟨⟩
theorem tw267291207137994960:True:=⟨⟩
theorem tw6867028699694832570:True:=⟨⟩
theorem tw5098361976106862756:True:=⟨⟩
theorem tw7289382896797835169:True:=⟨⟩
theorem tw14973552993192763707:True:=⟨⟩
theorem tw8419560278586904602:True:=⟨⟩
theorem tw11514766610933989189:True:=⟨⟩
theorem tw15494778736648754037:True:=⟨⟩
theorem tw8629029639526423381:True:=⟨⟩
theorem tw7356932296983049213:True:=⟨⟩
theorem tw8149666429887481217:True:=⟨⟩
theorem tw7294952205173085736:True:=⟨⟩
theorem tw13016817581469511961:True:=⟨⟩
theorem tw8331751372058591974:True:=⟨⟩
theorem tw14532356283718367650:True:=⟨⟩
theorem tw2419813925095010376:True:=⟨⟩
theorem tw5456335927567653338:True:=⟨⟩
theorem tw1030250547034058571:True:=⟨⟩
theorem tw11503831374944085436:True:=⟨⟩
theorem tw8448136970312492022:True:=⟨⟩
theorem tw6555932125221974131:True:=⟨⟩
theorem tw12688554454661689904:True:=⟨⟩
theorem tw1326727968322752347:True:=⟨⟩
end PySem.W.Fast
open PySem PySem.W PyProof.Rows
set_option maxRecDepth 100000 in
set_option maxHeartbeats 0 in
theorem PySem.Challenge.cw_flaglocker_k54_lose_and_find_holds : PySem.Challenge.rw_flaglocker_k54_lose_and_find.Holds := by
  w_on; o_law; k_head; (case hw => w_witness2)
  k_fill
  refine Mine.walk (l:=PySem.Challenge.rw_flaglocker_k54_lose_and_find) rfl rfl ?hd2 ?hno (fun w h Y => PySem.W.km_in_of Y) ?F
  case hd2 => kernel_rfl!
  case hno => intro w; kernel_rfl!
  case F =>
    intro w mg fa h c Pt KX G hmg TH
    apply Mine.all_mk KX G hmg TH
    all_goals first | exact ⟨by k_is,_,_,_,_,_,_,_,_,_,by k_is,by k_is,by k_is⟩ | exact ⟨by k_is,by k_is,_,_,_,_,_,_,_,_,_,by k_is,by k_is,by k_is⟩ | k_is | kernel_rfl! | (constructor <;> first | k_is | k_exc | kts_exm | kit_is | kernel_rfl!) | exact ⟨rfl,⟨_,rfl⟩,⟨_,rfl⟩,rfl,⟨_,rfl⟩,⟨_,rfl⟩,rfl,⟨_,rfl⟩,⟨_,rfl⟩,rfl,⟨_,rfl⟩,⟨_,rfl⟩,rfl,⟨_,rfl⟩,⟨_,rfl⟩,trivial⟩
