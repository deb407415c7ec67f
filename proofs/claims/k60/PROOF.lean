import PyProof.Rows.All
import Wide.All
import OpenK.AllK
import Wide.FinOn
import Lean
import PyProof.EqAt
import PyProof.EqKinds
import PyProof.TupleCall
import PySem.Challenge.RW_flaglocker_k60_whole_said_and_seen
set_option Elab.async false
set_option compiler.extract_closed false
set_option linter.all false
set_option maxHeartbeats 4000000
set_option maxRecDepth 100000
abbrev Q0:=PySem.Value->PySem.Shared->Prop
abbrev Q2:=List (PySem.Addr × PySem.Obj)
abbrev Q4:=List (Option (List Nat))
abbrev Q5:=PySem.Str->Option PySem.Value
abbrev Q6:=List (List Nat)
abbrev Aa:=@List.getElem?_eq_getElem
abbrev Ab:=@List.length_map
abbrev Ac:=@List.getD_eq_getElem?_getD
abbrev Ad:=@List.getElem?_eq_some_iff
abbrev Ae:=@List.getElem?_map
abbrev Af:=@PySem.wpAny_bind
abbrev Ag:=@List.length_append
abbrev Ah:=@PySem.Heap.get?_push_of_some
abbrev Ai:=@Nat.le_refl
abbrev Aj:=@List.mem_cons_of_mem
abbrev Ak:=@List.mem_cons_self
abbrev Al:=@List.mem_of_getElem?
abbrev Am:=@List.mem_singleton
abbrev An:=@PySem.wpAny_pure
abbrev Ao:=@List.map_append
abbrev Ap:=@decide_eq_true
abbrev Aq:=@List.getElem?_append_left
abbrev Ar:=@Bool.false_ne_true
abbrev As:=@PySem.Heap.lt_size
abbrev Au:=@List.map_cons
abbrev Av:=@PySem.Heap.get?_push_size
abbrev Aw:=@List.length_cons
abbrev Ax:=@List.getElem?_append_right
abbrev Ay:=@decide_eq_false
abbrev Az:=@List.size_toArray
abbrev Ba:=@List.mem_map
abbrev Bb:=@Nat.lt_of_lt_of_le
abbrev Bc:=@Nat.ne_of_lt
abbrev Bd:=@of_decide_eq_true
abbrev Be:=@List.mem_cons
abbrev Bf:=@List.filterMap_append
abbrev Bg:=@Option.some.inj
abbrev Bh:=@List.take_add_one
abbrev Bi:=@List.filterMap_cons_some
abbrev Bj:=@of_decide_eq_false
abbrev Bk:=@Option.map_eq_some_iff
abbrev Bl:=@Bool.eq_false_iff
abbrev Bm:=@PySem.PassesOwn.never
abbrev Bo:=@List.all_eq_true
abbrev Bp:=@List.length_replicate
abbrev Bq:=@List.length_range
abbrev Br:=@List.length_take
abbrev Bs:=@List.take_of_length_le
abbrev Bt:=@List.map_map
abbrev Bu:=@List.mem_iff_getElem
abbrev Bv:=@List.mem_append_right
abbrev Bw:=@List.mem_range
abbrev Bx:=@List.filterMap_cons_none
abbrev By:=@List.mem_append
abbrev Bz:=@PySem.Heap.get?_update_other
abbrev Ca:=@List.mem_filterMap
abbrev Cb:=@List.append_nil
abbrev Cc:=@Nat.le_trans
abbrev Cd:=@List.filterMap_nil
abbrev Ce:=@List.getElem_mem
abbrev Cf:=@List.range_succ
abbrev Cg:=@PySem.F.slot_dict_get
abbrev Ci:=@decide_eq_true_iff
abbrev Cj:=@List.take_length
abbrev Ck:=@PySem.F.plainAttrs_list
abbrev Cm:=@PySem.wpAny_holding
abbrev Co:=@List.flatten_cons
abbrev Cp:=@PySem.wpAny_mono
abbrev Cq:=@List.length_drop
abbrev Cr:=@PySem.F.plainAttrs_str
abbrev Cs:=@List.length_filterMap_le
abbrev Ct:=@beq_eq_false_iff_ne
abbrev Cu:=@List.nodup_cons
abbrev Cv:=@Int.emod_nonneg
abbrev Cw:=@List.lookup_cons
abbrev Cy:=@Nat.zero_le
abbrev Cz:=@PySem.mem_of_lookup
abbrev Da:=@List.replicate_succ
abbrev Dc:=@PyProof.Rows.callWith_type1
abbrev Dd:=@PySem.StrLaws.glued_eq_join
abbrev De:=@Nat.add_sub_cancel_left
abbrev Df:=@Array.getElem?_eq_some_iff
abbrev Dg:=@Int.emod_lt_of_pos
abbrev Dh:=@Nat.lt_irrefl
abbrev Di:=@PySem.F.plain_max_loop
abbrev Dj:=@List.map_congr_left
abbrev Dk:=@Array.getElem?_toList
abbrev Dm:=@congrArg
abbrev Dn:=@Option.isSome_iff_exists
abbrev Do:=@PySem.wpAny_Call_Name_kw
abbrev Dp:=@List.mem_append_left
abbrev Dq:=@decide_eq_decide
abbrev Dr:=@PySem.wpAny_pyIter_list
abbrev Ds:=@PySem.F.excBase_ValueError
abbrev Dt:=@List.mem_filter
abbrev Du:=@List.length_set
abbrev Dv:=@PySem.F.type_dict_get
abbrev Dw:=@PySem.F.slot_list_append
abbrev Dx:=@PySem.F.type_list_append
abbrev Dy:=@PySem.wpAny_typeNameOfWhole_keyiter
abbrev Dz:=@Option.map_some
abbrev Ea:=@PySem.F.slot_dict_keyiterator_next
abbrev Eb:=@Array.length_toList
abbrev Ec:=@Nat.ne_of_gt
abbrev Ed:=@PySem.F.entry_dict_get
abbrev Ee:=@beq_self_eq_true
abbrev Ef:=@List.getElem_map
abbrev Eg:=@PySem.tupleKind_room_in1
abbrev Eh:=@PySem.wpAny_passesOwn
abbrev Ei:=@PySem.codeAny_mono
abbrev Ej:=@PySem.Around.under_plainId
abbrev Ek:=@Int.toNat_natCast
abbrev El:=@Nat.sub_self
abbrev Em:=@PySem.wpAny_standAt
abbrev En:=@List.sum_cons
abbrev Eo:=@List.filterMap_cons
abbrev Ep:=@List.getElem_inj
abbrev Er:=@PySem.Heap.size_push
abbrev Et:=@List.getElem?_replicate
abbrev Eu:=@PySem.wpAny_getItem_str_slice
abbrev Ew:=@PySem.wpAny_tryCatch
abbrev Ey:=@PySem.F.slot_list_index
abbrev Ez:=@Nat.min_eq_right
abbrev Fa:=@PySem.call_meets
abbrev Fb:=@List.filter_append
abbrev Fc:=@Bool.eq_iff_iff
abbrev Fd:=@PySem.codeAny_builtin
abbrev Fe:=@Nat.min_eq_left
abbrev Ff:=@List.map_take
abbrev Fg:=@List.map_drop
abbrev Fh:=@PySem.W.methodCall_KW
abbrev Fi:=@List.getElem?_eq_none
abbrev Fj:=@List.length_filter_le
abbrev Fk:=@List.getElem?_zipWith
abbrev Fl:=@List.mem_iff_getElem?
abbrev Fm:=@PySem.wpAny_truthy_bool
abbrev Fn:=@List.append_assoc
abbrev Fo:=@PySem.wpAny_loadPart_at
abbrev Fp:=@PySem.Heap.get?_none_of_le
abbrev Fq:=@List.getElem?_set_ne
abbrev Fs:=@Bool.false_and
abbrev Ft:=@PySem.Calls.evalArgs_plain
abbrev Fu:=@PySem.codeAny_call_builtin
abbrev Fv:=@List.getElem_toArray
abbrev Fw:=@Bool.and_eq_true
abbrev Fx:=@Nat.le_add_right
abbrev Fy:=@List.countP_cons
abbrev Fz:=@Bool.true_and
abbrev Ga:=@PySem.plainId_quiet
abbrev Gb:=@PySem.F.slot_list_extend
abbrev Gc:=@PySem.F.type_list_extend
abbrev Gd:=@Nat.not_lt_zero
abbrev Ge:=@PySem.wpAny_call
abbrev Gf:=@PySem.W.callWith_K
abbrev Gg:=@List.filterMap_map
abbrev Gh:=@PySem.F.args_dict_get_2
abbrev Gi:=@List.getElem?_set_self
abbrev Gj:=@List.take_sublist
abbrev Gk:=@PySem.wpAny_Call_method_late
abbrev Gm:=@PySem.Calls.callWith_builtin
abbrev Gp:=@PySem.wpAny_newObj_type
abbrev Gq:=@PySem.wpAny_pyIter_enum
abbrev Gr:=@List.drop_of_length_le
abbrev Gu:=@PySem.F.entry_max_loop
abbrev Gv:=@PySem.F.slot_str_split
abbrev Gw:=@PySem.F.type_str_split
abbrev Gx:=@PySem.wpAny_call_entry
abbrev Gy:=@List.ext_getElem
abbrev Gz:=@List.filter_cons
abbrev Ha:=@List.any_cons
abbrev Hb:=@PySem.sizeLine_eq
abbrev He:=@Nat.le_succ
abbrev Hh:=@PySem.call_meetsIn
abbrev Hi:=@List.all_map
abbrev Hj:=@PySem.typeIs_str
namespace L2
open PySem PySem.Spec PyProof.Rows
variable {A:Around}{C a b dx:Addr}{E Q:Q0}{K:W.Frag}{M:Model}{N ps:List Str}{P:Program}{body:List Stmt}{ch fp:List Addr}{e tg:Expr}{es:List Expr}{f:Value->Value->Sem Value}{h h':Heap}{i k t':Nat}{kindOf:Str->Option NameKind}{kw:List (Str×Value)}{pins:Q2}{pl:Sem Bool}{pos:Pos}{s:Shared}{u:Value}{us:List Value}{w:World}{x:Str}
abbrev Key:=Sum Int Str
def lV:Key->Value->Bool
 |.inl k,v=>Value.isInt k v
 |.inr x,v=>Value.isStrOf x v
def eJX(w:World):Key->Int
 |.inl k=>hashInt k
 |.inr x=>hashStr w x
def bS:∀ {k:Key} {v:Value},lV k v=true->(∃i t,k=Sum.inl i/\v=Value.int i t)\/(∃x t,k=Sum.inr x/\v=Value.str x t)
 |.inl i,v,h=>by
  obtain⟨t,e⟩:=Value.isInt_shape (k:=i) (v:=v) h;exact .inl ⟨i,t,rfl,e⟩
 |.inr x,v,h=>by
  obtain⟨t,e⟩:=Value.isStrOf_shape (x:=x) (v:=v) h;exact .inr ⟨x,t,rfl,e⟩
def bZV(i:Int)(t:Tok):lV (.inl i) (.int i t)=true:=by simp[lV,Value.isInt]
def kP(x:Str)(t:Tok):lV (.inr x) (.str x t)=true:=by simp[lV,Value.isStrOf]
def eZA(a b:Int):decide ((Sum.inl a:Key)=Sum.inl b)=(a==b):=by
 by_cases e:a=b
 ·subst e;simp
 ·have h:¬(Sum.inl a:Key)=Sum.inl b:=λq=>e (Sum.inl.inj q)
  rw[Ay h];exact(Ct.mpr e).symm
def eQK(a b:Str):decide ((Sum.inr a:Key)=Sum.inr b)=decide (a=b):=by
 by_cases e:a=b
 ·subst e;simp
 ·have h:¬(Sum.inr a:Key)=Sum.inr b:=λq=>e (Sum.inr.inj q)
  rw[Ay h,Ay e]
def eQH(a:Int)(b:Str):decide ((Sum.inl a:Key)=Sum.inr b)=false:=Ay (λq=>nomatch q)
def eXJ(a:Str)(b:Int):decide ((Sum.inr a:Key)=Sum.inl b)=false:=Ay (λq=>nomatch q)
def bC(prog:Program)(w:World):PySem.KeyKind prog w Key where
 is:=lV
 hash:=eJX w
 inj:=λv a b ha hb=>by
  rcases bS ha with⟨i,t,rfl,rfl⟩|⟨x,t,rfl,rfl⟩
  ·rcases bS hb with⟨j,u,rfl,e⟩|⟨y,u,rfl,e⟩
   ·injection e with e1 _;rw[e1]
   ·exact nomatch e
  ·rcases bS hb with⟨j,u,rfl,e⟩|⟨y,u,rfl,e⟩
   ·exact nomatch e
   ·injection e with e1 _;rw[e1]
 byValue:=λk v h=>by
  rcases bS h with⟨i,t,rfl,rfl⟩|⟨x,t,rfl,rfl⟩ <;> rfl
 pyHash:=λhv h=>by
  rcases bS hv with⟨i,t,rfl,rfl⟩|⟨x,t,rfl,rfl⟩
  ·exact wpAny_pyHash_int h
  ·exact wpAny_pyHash_str h
 eqBool:=λhu hv h=>by
  rcases bS hu with⟨i,t,rfl,rfl⟩|⟨x,t,rfl,rfl⟩
  ·rcases bS hv with⟨j,u,rfl,rfl⟩|⟨y,u,rfl,rfl⟩
   ·rw[eZA]at h;exact wpAny_eqBool_int h
   ·rw[eQH]at h;exact SeqAt.EqAt.int_str i t y u _ _ _ _ h
  ·rcases bS hv with⟨j,u,rfl,rfl⟩|⟨y,u,rfl,rfl⟩
   ·rw[eXJ]at h;exact SeqAt.EqAt.str_int x t j u _ _ _ _ h
   ·rw[eQK]at h;exact wpAny_eqBool_str h
 «strs» := λk x t v h=>by
  rcases bS h with⟨i,u,rfl,e⟩|⟨y,u,rfl,e⟩
  ·exact nomatch e
  ·injection e with e1 _
   subst e1;cases v<;>rfl
def aQM(prog:Program)(w:World)(i:Int)(t:Tok):(bC prog w).is (.inl i) (.int i t)=true:=bZV i t
def yZ(prog:Program)(w:World)(x:Str)(t:Tok):(bC prog w).is (.inr x) (.str x t)=true:=kP x t
inductive V where
 |non|bl (b:Bool)|int (i:Int)|str (x:Str)|byt (b:Array UInt8)|flt (b:UInt64)|ref (a:Addr)|ty (n:String)
 deriving DecidableEq
variable {v:V}{xs:List V}
def RelV:V->Value->Prop
 |.non,u=>u=Value.none
 |.bl b,u=>u=Value.bool b
 |.int i,u=>∃t,u=Value.int i t
 |.str x,u=>∃t,u=Value.str x t
 |.byt b,u=>∃t,u=Value.bytes b t
 |.flt b,u=>∃t,u=Value.float b t
 |.ref a,u=>u=Value.ref a
 |.ty n,u=>u=Value.type n
abbrev Vals:List V->List Value->Prop:=Paired RelV
def Vals.length(r:Vals xs us):xs.length=us.length:=Paired.length r
def Vals.get:∀ {xs:List V} {us:List Value} {i:Nat} {x:V},Vals xs us->xs[i]?=some x->∃u,us[i]?=some u/\RelV x u
 |_,_,_,_,.nil,e=>by simp at e
 |_,_,0,_,.cons r _,e=>by simp at e;subst e;exact⟨_,rfl,r⟩
 |_,_,i+1,x,.cons _ t,e=>by
  obtain⟨u,h1,h2⟩:=Vals.get (i:=i) (x:=x) t (by simpa using e)
  exact⟨u,by simpa using h1,h2⟩
def Vals.set{x:V}(r:RelV x u):∀ {xs:List V} {us:List Value} (i:Nat),Vals xs us->Vals (xs.set i x) (us.set i u)
 |_,_,_,.nil=>.nil
 |_,_,0,.cons _ t=>.cons r t
 |_,_,i+1,.cons q t=>.cons q (Vals.set r i t)
def Vals.append:∀ {xs ys:List V} {us ws:List Value},Vals xs us->Vals ys ws->Vals (xs++ys) (us++ws)
 |_,_,_,_,.nil,s=>s
 |_,_,_,_,.cons r t,s=>.cons r (Vals.append t s)
def Vals.take:∀ {xs:List V} {us:List Value} (n:Nat),Vals xs us->Vals (xs.take n) (us.take n)
 |_,_,0,_=>.nil
 |_,_,_+1,.nil=>.nil
 |_,_,n+1,.cons r t=>.cons r (Vals.take n t)
def Vals.drop:∀ {xs:List V} {us:List Value} (n:Nat),Vals xs us->Vals (xs.drop n) (us.drop n)
 |_,_,0,r=>r
 |_,_,_+1,.nil=>.nil
 |_,_,n+1,.cons _ t=>Vals.drop n t
def RelO:Option V->Option Value->Prop
 |some v,some u=>RelV v u
 |none,none=>True
 |_,_=>False
def KV{κ:Type}:List (κ×V)->List (κ×Value)->Prop:=Paired λ(p:κ×V) (q:κ×Value)=>p.1=q.1/\RelV p.2 q.2
def kV:Key->V
 |.inl i=>.int i
 |.inr x=>.str x
inductive HO where
 |lst (xs:List V)
 |tup (xs:List V)
 |dK (kvs:List (Key×V))|dT (kvs:List (List Key×V))
 |set (S:Int->Bool) (n:Nat)
 |ins (C dx:Addr) (fs:List (Str×V))
 |own (x:Addr)
 |xd (fs:List (Str×V))
 |met (f x:Addr)
 |rng (lo hi:Int)
 |frz (o:Obj) (u:HO)
 |tbl (ps:Array Value)
 |ext (φ:Heap->Prop)
variable {o:HO}
abbrev Hp:=Addr->Option HO
variable {H:Hp}
def upd(H:Hp)(a:Addr)(o:HO):Hp:=λb=>if b=a then some o else H b
def aE:upd H a o a=some o:=by unfold upd;rw[if_pos rfl]
def aG(h:b≠a):upd H a o b=H b:=by unfold upd;rw[if_neg h]
def bQZ{u:HO}:upd (upd H a o) a u=upd H a u:=by
 funext b;unfold upd;split<;>rfl
def eJ4{u:HO}(h:H a=some o)(h':H b=some u)(d:o≠u):a≠b:=by
 intro e;subst e;rw[h]at h';exact d (Bg h')
def bE(h:H a=some o)(h':H b=none):a≠b:=by
 intro e;subst e;rw[h]at h';cases h'
section
variable (P:Program) (w:World)
def ObjOk(H:Hp)(h:Heap)(a:Addr):HO->Prop
 |.lst xs=>xs.length<=sizeLine/\∃(its:List Value) (n:Nat),Vals xs its/\h.get? a=some {cls:=.type "list",data:=.seq its.toArray n}
 |.tup xs=>xs.length<=sizeLine/\∃its:List Value,Vals xs its/\IsTup h a its.toArray
 |.dK kvs=>kvs.length<=sizeLine/\(a==sysModules)=false/\∃vs,KV kvs vs/\h.DictOf (bC P w) a vs
 | .dT kvs=>kvs.length<=sizeLine/\(a == sysModules)=false/\∃ xs:List (List Key×Addr×Value),
     Paired (λ(p:List Key×V) (q:List Key×Addr×Value)=>p.1=q.1/\H q.2.1=some (.tup (p.1.map kV))/\RelV p.2 q.2.2) kvs xs/\
     ∃o es ep,h.get? a=some o/\o.ExactDict/\o.data=.dict es ep/\es.toList=xs.map (entryOfKey (tupleKind (bC P w)))/\(xs.map (·.1)).Nodup
 |.set S n=>h.SetOf (intKind P w) a S n
 | .ins C dx fs=>H dx=some (.own a)/\fs.length<=1000/\dx≠a/\h.get? a=some (W.instObj C dx)/\
     ∃mA,h.Ns1 dx mA/\(∀f,RelO (fs.lookup f) (mA f))/\PySem.Within mA (fs.map (·.1))
 |.own _=>∃o,h.get? a=some o
 |.xd fs=>∃mA,h.Ns1 a mA/\∀f,RelO (fs.lookup f) (mA f)
 |.rng lo hi=>∃t u v,h.get? a=some {cls:=.type "range",data:=.fields #[.int lo t,.int hi u,.int 1 v]}
 |.frz o u=>h.get? a=some o/\ObjOk H h a u
 |.tbl ps=>h.get? a=some {cls:=.none,data:=.fields ps}
 |.met f x=>h.get? a=some (W.methodObj (.ref f) (.ref x))
 |.ext φ=>φ h/\(∃o,h.get? a=some o)/\∀h1 h2:Heap,φ h1->(∀o,h1.get? a=some o->h2.get? a=some o)->φ h2
def HOk(H:Hp)(h:Heap):Prop:=∀a o,H a=some o->ObjOk P w H h a o
end
section
variable {H':Hp}
def ObjOk.lt(x:ObjOk P w H h a o):a<h.objs.size:=by
 cases o with
 |lst xs=>obtain⟨_,_,_,_,e⟩:=x;exact As e
 |tup xs=>obtain⟨_,_,_,p⟩:=x;exact p.lt
 |dK kvs=>obtain⟨_,_,_,_,o,_,_,e,_⟩:=x;exact As e
 |dT kvs=>obtain⟨_,_,_,_,o,_,_,e,_⟩:=x;exact As e
 |set S n=>obtain⟨o,_,_,_,e,_⟩:=x;exact As e
 |ins C dx fs=>obtain⟨_,_,_,e,_⟩:=x;exact As e
 |own y=>obtain⟨_,e⟩:=x;exact As e
 |xd fs=>obtain⟨_,⟨_,_,_,e,_⟩,_⟩:=x;exact As e
 |rng lo hi=>obtain⟨_,_,_,e⟩:=x;exact As e
 |frz ob u=>obtain⟨e,_⟩:=x;exact As e
 |tbl ps=>exact As (show h.get? a=some _ from x)
 |met f y=>exact As (show h.get? a=some _ from x)
 |ext φ=>obtain⟨_,⟨_,e⟩,_⟩:=x;exact As e
def Paired.mapP{α β:Type}{F G:α->β->Prop}:∀ {l₁:List α} {l₂:List β},Paired F l₁ l₂->(∀a b,F a b->G a b)->Paired G l₁ l₂
 |_,_,.nil,_=>.nil
 |_,_,.cons r t,f=>.cons (f _ _ r) (Paired.mapP t f)
def ObjOk.stay(x:ObjOk P w H h a o)(k:∀b u,(b=a\/H b=some (.own a))->h.get? b=some u->h'.get? b=some u)(ho:∀b,H b=some (.own a)->H' b=some (.own a))(ht:∀b xs,H b=some (.tup xs)->H' b=some (.tup xs)):ObjOk P w H' h' a o:=by
 induction o with
 |lst xs=>obtain⟨z,its,n,r,e⟩:=x;exact⟨z,its,n,r,k _ _ (.inl rfl) e⟩
 |tup xs=>obtain⟨z,its,r,ob,e,c⟩:=x;exact⟨z,its,r,ob,k _ _ (.inl rfl) e,c⟩
 |dK kvs=>obtain⟨z,y,vs,r,ob,es,ep,e,c⟩:=x;exact⟨z,y,vs,r,ob,es,ep,k _ _ (.inl rfl) e,c⟩
 |dT kvs=>
  obtain⟨z,y,xs,r,ob,es,ep,e,c⟩:=x;exact⟨z,y,xs,Paired.mapP r λp q z=>⟨z.1,ht _ _ z.2.1,z.2.2⟩,ob,es,ep,k _ _ (.inl rfl) e,c⟩
 |set S n=>obtain⟨ob,es,ep,t,e,c⟩:=x;exact⟨ob,es,ep,t,k _ _ (.inl rfl) e,c⟩
 |ins C dx fs=>
  obtain⟨d,z,ne,e,mA,⟨od,es,ep,e2,c⟩,r⟩:=x;exact⟨ho _ d,z,ne,k _ _ (.inl rfl) e,mA,⟨od,es,ep,k _ _ (.inr d) e2,c⟩,r⟩
 |own y=>obtain⟨ob,e⟩:=x;exact⟨ob,k _ _ (.inl rfl) e⟩
 |xd fs=>obtain⟨mA,⟨od,es,ep,e,c⟩,r⟩:=x;exact⟨mA,⟨od,es,ep,k _ _ (.inl rfl) e,c⟩,r⟩
 |rng lo hi=>obtain⟨t,u,v,e⟩:=x;exact⟨t,u,v,k _ _ (.inl rfl) e⟩
 |frz ob u ih=>obtain⟨e,q⟩:=x;exact⟨k _ _ (.inl rfl) e,ih q⟩
 |tbl ps=>
  have e:h.get? a=some {cls:=.none,data:=.fields ps}:=x
  show h'.get? a=some {cls:=.none,data:=.fields ps}
  exact k a _ (.inl rfl) e
 |met f y=>
  have e:h.get? a=some (W.methodObj (.ref f) (.ref y)):=x
  show h'.get? a=some (W.methodObj (.ref f) (.ref y))
  exact k a _ (.inl rfl) e
 |ext φ=>obtain⟨p,⟨o,e⟩,st⟩:=x;exact⟨st _ _ p λo q=>k _ _ (.inl rfl) q,⟨o,k _ _ (.inl rfl) e⟩,st⟩
def HOk.lt(x:HOk P w H h)(e:H a=some o):a<h.objs.size:=(x a o e).lt
def HOk.fresh(x:HOk P w H h)(e:h.objs.size<=a):H a=none:=by
 cases q:H a with
 |none=>rfl
 |some u=>exact absurd (Bb (x.lt q) e) (Dh _)
def HOk.kept(x:HOk P w H h)(k:∀b u,h.get? b=some u->h'.get? b=some u):HOk P w H h':=λa o e=>
 (x a o e).stay (λb u _ q=>k b u q) (λ_ q=>q) λ_ _ q=>q
def HOk.laid(x:HOk P w H h)(k:∀b u,h.get? b=some u->h'.get? b=some u)(hp:h.objs.size<=a)(new:ObjOk P w (upd H a o) h' a o):HOk P w (upd H a o) h':=λb u e=>by
 have hn:=x.fresh hp
 by_cases hb:b=a
 ·subst hb;rw[aE]at e;cases e;exact new
 ·rw[aG hb]at e;exact(x b u e).stay (λc v _ q=>k c v q) (λc q=>by rw[aG (bE q hn)];exact q) λc xs q=>by rw[aG (bE q hn)];exact q
end
def Rd(H:Hp)(a:Addr)(u:HO):Prop:=H a=some u\/∃o,H a=some (.frz o u)
def Rd.ok{u:HO}(r:Rd H a u)(x:HOk P w H h):ObjOk P w H h a u:=by
 rcases r with r|⟨o,r⟩
 ·exact x a u r
 ·obtain⟨_,q⟩:=x a _ r;exact q
def Mut:Option HO->Prop
 |some (.lst _)=>True
 |some (.dK _)=>True
 |some (.dT _)=>True
 |some (.set _ _)=>True
 |some (.ins _ _ _)=>True
 |some (.ext _)=>True
 |_=>False
section
variable {x e:Addr} {o':HO}
def HOk.write(ok:HOk P w H h)(mu:Mut (H x))(he:e=x\/H e=some (.own x))(k:∀b u,b≠e->h.get? b=some u->h'.get? b=some u)(heo:∃u,h'.get? e=some u)(new:ObjOk P w (upd H x o') h' x o'):HOk P w (upd H x o') h':=λb u q=>by
 have nown:∀c y,H c=some (.own y)->c≠x:=λc y r z=>by subst z;rw[r]at mu;exact mu
 have ntup:∀c xs,H c=some (.tup xs)->c≠x:=λc xs r z=>by subst z;rw[r]at mu;exact mu
 by_cases hb:b=x
 ·subst hb;rw[aE]at q;cases q;exact new
 ·rw[aG hb]at q;by_cases hbe:b=e
  ·have q':H b=some (.own x):=by
    rcases he with z|z
    ·exact absurd (hbe.trans z) hb
    ·rw[hbe];exact z
   rw[q]at q';cases q';obtain⟨v,hv⟩:=heo;exact⟨v,by rw[hbe];exact hv⟩
  ·refine(ok b u q).stay (λc v hc r=>k c v ?_ r) (λc r=>by rw[aG (nown c b r)];exact r) λc xs r=>by rw[aG (ntup c xs r)];exact r
   rcases hc with rfl|hc
   ·exact hbe
   ·rintro rfl;rcases he with z|z
    ·exact nown c b hc z
    ·rw[hc]at z;cases z;exact hb rfl
end
structure Un (fs ex:List Addr) (H H':Hp) (h h':Heap):Prop where
 keep:∀b o,h.get? b=some o->H b=none->b∉fs->b∉ex->h'.get? b=some o
 slot:∀b o,h.get? b=some o->H b=none->b∈fs->b∉ex->∃sl,h'.get? b=some {o with slots:=sl}
 free:∀b o,h.get? b=some o->H b=none->b∉ex->H' b=none
 there:∀b o,h.get? b=some o->b∉ex->∃o',h'.get? b=some o'
 tups:∀b xs,H b=some (.tup xs)->H' b=some (.tup xs)
 frzs:∀b o u,H b=some (.frz o u)->H' b=some (.frz o u)
 tbls:∀b ps,H b=some (.tbl ps)->∃more,H' b=some (.tbl (ps++more))
section
variable {fs fs' ex ex':List Addr} {H1 H2:Hp} {h1 h2:Heap} {x e:Addr}
def Un.any(u:Un fs ex H H1 h h1){ob:Obj}(q:h.get? b=some ob)(n:H b=none)(hx:b∉ex):∃sl,h1.get? b=some {ob with slots:=sl}:=by
 by_cases hb:b∈fs
 ·exact u.slot b ob q n hb hx
 ·exact⟨ob.slots,u.keep b ob q n hb hx⟩
def Un.trans(a:Un fs ex H H1 h h1)(b:Un fs ex H1 H2 h1 h2):Un fs ex H H2 h h2 where
 keep:=λc ob q n hc hx=>b.keep c ob (a.keep c ob q n hc hx) (a.free c ob q n hx) hc hx
 slot:=λc ob q n hc hx=>by
  obtain⟨sl,e1⟩:=a.slot c ob q n hc hx;obtain⟨sl',e2⟩:=b.slot c _ e1 (a.free c ob q n hx) hc hx;exact⟨sl',e2⟩
 free:=λc ob q n hx=>by
  obtain⟨o',e1⟩:=a.there c ob q hx;exact b.free c o' e1 (a.free c ob q n hx) hx
 there:=λc ob q hx=>by
  obtain⟨o',e1⟩:=a.there c ob q hx;exact b.there c o' e1 hx
 tups:=λc xs q=>b.tups c xs (a.tups c xs q)
 frzs:=λc ob xs q=>b.frzs c ob xs (a.frzs c ob xs q)
 tbls:=λc ps q=>by
  obtain⟨m1,e1⟩:=a.tbls c ps q;obtain⟨m2,e2⟩:=b.tbls c _ e1;exact⟨m1++m2,by rw[e2,Array.append_assoc]⟩
def Un.kept(k:∀b u,h.get? b=some u->h'.get? b=some u):Un fs ex H H h h':=
 ⟨λb ob q _ _ _=>k b ob q,λb ob q _ _ _=>⟨ob.slots,k b ob q⟩,λ_ _ _ n _=>n,λb ob q _=>⟨ob,k b ob q⟩,λ_ _ q=>q,λ_ _ _ q=>q,λ_ ps q=>⟨#[],by rw[q];simp⟩⟩
def Un.refl:Un fs ex H H h h:=Un.kept λ_ _ q=>q
def Un.laid(k:∀b u,h.get? b=some u->h'.get? b=some u)(hp:h.objs.size<=a)(hn:H a=none):Un fs ex H (upd H a o) h h' where
 keep:=λb u q _ _ _=>k b u q
 slot:=λb u q _ _ _=>⟨u.slots,k b u q⟩
 free:=λb u q n _=>by rw[aG (Bc (Bb (As q) hp))];exact n
 there:=λb u q _=>⟨u,k b u q⟩
 tups:=λb xs q=>by rw[aG (bE q hn)];exact q
 frzs:=λb u xs q=>by rw[aG (bE q hn)];exact q
 tbls:=λb ps q=>⟨#[],by rw[aG (bE q hn),q];simp⟩
def Un.write(mu:Mut (H x))(he:e=x\/H e=some (.own x))(k:∀b u,b≠e->h.get? b=some u->h'.get? b=some u)(heo:∃u,h'.get? e=some u):Un fs ex H (upd H x o) h h':=by
 have hx:∀b,H b=none->b≠x:=λb n z=>by subst z;rw[n]at mu;exact mu
 have hb:∀b,H b=none->b≠e:=λb n z=>by
  subst z;rcases he with r|r
  ·exact hx b n r
  ·rw[n]at r;cases r
 have hm:∀b u,H b=some u->¬Mut (some u)->b≠x:=λb u q nm z=>by subst z;rw[q]at mu;exact nm mu
 refine⟨λb u q n _ _=>k b u (hb b n) q,λb u q n _ _=>⟨u.slots,k b u (hb b n) q⟩,λb u q n _=>by rw[aG (hx b n)];exact n,λb u q _=>?_,
  λb xs q=>by rw[aG (hm b _ q λz=>z)];exact q,λb u xs q=>by rw[aG (hm b _ q λz=>z)];exact q,λb ps q=>⟨#[],by rw[aG (hm b _ q λz=>z),q];simp⟩⟩
 by_cases hbe:b=e
 ·subst hbe;exact heo
 ·exact⟨u,k b u hbe q⟩
def Un.mono(u:Un fs ex H H1 h h1)(hs:∀b∈fs,b∈fs')(hx:∀b∈ex,b∈ex'):Un fs' ex' H H1 h h1:=
 ⟨λb ob q n hb he=>u.keep b ob q n (λz=>hb (hs b z)) λz=>he (hx b z),λ_ _ q n _ he=>u.any q n λz=>he (hx _ z),λb ob q n he=>u.free b ob q n λz=>he (hx b z),λb ob q he=>u.there b ob q λz=>he (hx b z),u.tups,u.frzs,u.tbls⟩
end
def trk(h:Heap)(H:Hp):List Addr:=(List.range h.objs.size).filter λa=>(H a).isSome
def tZ(h:Heap)(H:Hp):Heap:=W.hideAll h (trk h H)
def bXA(h:Heap)(H:Hp):(tZ h H).objs.size=h.objs.size:=W.hideAll_size _ _
def bJQ{o:Obj}(e:h.get? b=some o)(n:H b=none):(tZ h H).get? b=some o:=
 W.hideAll_get _ e λhm=>by
  have q:(H b).isSome=true:=(Dt.mp hm).2
  rw[n]at q;simp at q
def dX9{o:Obj}(e:(tZ h H).get? b=some o):h.get? b=some o/\H b=none:=by
 have e':h.get? b=some o:=W.of_hideAll (trk h H) e
 refine⟨e',?_⟩;cases q:H b with
 |none=>rfl
 |some x=>
  have hm:b∈trk h H:=List.mem_filter.mpr ⟨List.mem_range.mpr (Heap.lt_size e'),by simp[q]⟩
  have z:(tZ h H).get? b=none:=W.hideAll_none (trk h H) hm
  rw[z]at e;cases e
def dXV(g h:Heap)(L:Addr):List (Addr×Obj):=(List.range h.objs.size).filterMap λa=>if a=L\/(g.get? a).isSome=true then none else (h.get? a).map λo=>(a,o)
def rest(g h:Heap)(L d:Addr):List (Addr×Obj):=(dXV g h L).filter λp=>decide (p.1≠d)
structure Mod (K:W.Frag) (mg:Str->Option Value) (base:Heap):Prop where
 kin:K.In base
 glob:base.Ns mainGlobals mg
 blt:∃mb,base.Ns builtinsNs mb/\∀x:Str,x≠"__name__"->mb x=bootBuiltins x
 nolimit:base.NoLimit
structure Cx where
 prog:Program
 w:World
 K:W.Frag
 mg:Str->Option Value
 base:Heap
 A:Around
 N:List Str
 s₀:Shared
 H₀:Hp
 env:Env
 outer:List Env
 stack:List Env
 ex:List Addr
 fn:Str->Bool
 calm:Bool
 pn:List (Addr×Obj)
 xe:Value->Shared->Prop
variable {X:Cx}
def frs(l:List Env):List Addr:=l.filterMap (·.frame)
abbrev Cx.fs(X:Cx):List Addr:=frs X.outer
def Vis(sc:Scope)(x:Str):Prop:=sc.names.lookup x=some .local\/sc.names.lookup x=some .cell\/sc.names.lookup x=some .free
def Loc(sc:Scope)(x:Str):Prop:=sc.names.lookup x=some .local\/sc.names.lookup x=some .cell
def fQW(env:Env)(h:Heap)(m:Str->Option Value)(x:Str)(u:Value):Prop:=
 (env.kindOf x=some .local/\m x=some u)\/((env.kindOf x=some .cell\/env.kindOf x=some .free)/\∃c,env.cells.lookup x=some c/\h.IsCell c (some u))
structure Cx.Ok (X:Cx):Prop where
 mod:Mod X.K X.mg X.base
 kind:X.env.scope.kind=.function
 glob:X.env.globals=mainGlobals
 blt:X.env.builtins=builtinsNs
 above:X.s₀.heap.objs.size<=X.env.locals
 inj:∀x y c,X.env.cells.lookup x=some c->X.env.cells.lookup y=some c->x=y
 has:∀x,(X.env.kindOf x=some .cell\/X.env.kindOf x=some .free)->∃c,X.env.cells.lookup x=some c
 cab:∀x c,X.fn x=true->X.env.cells.lookup x=some c->X.s₀.heap.objs.size<=c
 hd:X.calm=true->X.A.handled=none
 frames:X.A.frames=some X.stack
 stk:X.stack=X.outer\/(X.stack=X.env::X.outer/\X.env.frame=some X.env.locals)
 exf:∀b∈X.ex,b≠X.env.locals/\∀x c,X.env.cells.lookup x=some c->c≠b
 bs:∀b o,X.base.get? b=some o->X.s₀.heap.get? b=some o/\X.H₀ b=none
 bsz:X.base.objs.size<=X.s₀.heap.objs.size
 noex:∀b o,X.base.get? b=some o->b∉X.ex
 exfs:∀b∈X.ex,b∉X.fs
 funs:X.s₀.heap.FunFrames X.base X.outer
 frf:∀b∈X.fs,X.H₀ b=none
structure Inv (X:Cx) (pins:List (Addr×Obj)) (σ:List (Option V)) (H:Hp) (s:Shared):Prop where
 ok:X.Ok
 os:s.os=X.s₀.os
 bare:AllBare s.gens
 base:Un X.fs X.ex X.H₀ H X.s₀.heap s.heap
 loc:∃m,s.heap.Ns X.env.locals m/\∀(i:Nat) (x:Str) (v:V),X.N[i]?=some x->σ[i]?=some (some v)->Vis X.env.scope x->∃u,RelV v u/\fQW X.env s.heap m x u
 cell:∀x c,X.env.cells.lookup x=some c->∃v,s.heap.IsCell c v
 free:H X.env.locals=none
 freeC:∀x c,X.env.cells.lookup x=some c->H c=none
 pin:∀p∈X.pn++pins,s.heap.get? p.1=some p.2/\H p.1=none/\p.1≠X.env.locals/\p.1∉X.fs/\∀v,p.2.data≠.cell v
 hok:HOk X.prog X.w H s.heap
 len:σ.length=X.N.length
section
variable {σ:List (Option V)} {H':Hp}
def Cx.Ok.nofr(ok:X.Ok){o:Obj}(e:X.base.get? b=some o):b∉X.fs:=λhb=>by
 have:=(ok.funs.mem hb).1
 rw[e]at this;cases this
def Inv.bs(I:Inv X pins σ H s):∀b o,X.base.get? b=some o->s.heap.get? b=some o/\H b=none:=λb o e=>
 ⟨I.base.keep b o (I.ok.bs b o e).1 (I.ok.bs b o e).2 (I.ok.nofr e) (I.ok.noex b o e),I.base.free b o (I.ok.bs b o e).1 (I.ok.bs b o e).2 (I.ok.noex b o e)⟩
def Inv.bk(I:Inv X pins σ H s):∀b o,X.base.get? b=some o->s.heap.get? b=some o:=λb o e=>(I.bs b o e).1
def Inv.mod(I:Inv X pins σ H s):Mod X.K X.mg X.base:=I.ok.mod
def Inv.kIn(I:Inv X pins σ H s):X.K.In s.heap:=I.ok.mod.kin.keeps I.bk
def Inv.nolimit(I:Inv X pins σ H s):s.heap.NoLimit:=I.ok.mod.nolimit.keeps I.bk
def Inv.fr(I:Inv X pins σ H s):∃m,Fr X.base X.env.locals s.heap m:=
 let ⟨m,hn,_⟩:=I.loc
 ⟨m,hn,I.bk,Cc I.ok.bsz I.ok.above⟩
def Inv.lt(I:Inv X pins σ H s):X.env.locals<s.heap.objs.size:=let ⟨_,hn,_⟩:=I.loc;hn.lt
def Inv.sz(I:Inv X pins σ H s):X.s₀.heap.objs.size<=s.heap.objs.size:=Cc I.ok.above (Nat.le_of_lt I.lt)
def Inv.nofs(I:Inv X pins σ H s)(h:s.heap.objs.size<=a):a∉X.fs:=λhb=>by
 obtain⟨_,o,ho,_⟩:=I.ok.funs.mem hb;exact absurd (Bb (As ho) (Cc I.sz h)) (Dh _)
def Inv.cne(I:Inv X pins σ H s):∀x c,X.env.cells.lookup x=some c->c≠X.env.locals:=λx c e z=>by
 obtain⟨v,o,ho,hd⟩:=I.cell x c e;obtain⟨m,⟨o',es,ep,ho',hd',_⟩,_⟩:=I.loc;rw[z,ho']at ho;cases ho;rw[hd']at hd;cases hd
def Inv.funs(I:Inv X pins σ H s):s.heap.FunFrames X.base X.outer:=by
 have all:∀(l:List Env),(∀b∈frs l,b∈X.fs)->X.s₀.heap.FunFrames X.base l->s.heap.FunFrames X.base l:=by
  intro l;induction l with
  |nil=>intro _ _;trivial
  |cons env r ih=>
   intro hs hl;obtain⟨hk,⟨L,o,hf,hn,ho,hd⟩,hr⟩:=hl;have hL:L∈X.fs:=hs L (by unfold frs;rw[Eo,hf];exact Ak)
   obtain⟨sl,e⟩:=I.base.slot L o ho (I.ok.frf L hL) hL λz=>I.ok.exfs L z hL;exact⟨hk,⟨L,_,hf,hn,e,hd⟩,ih (λb hb=>hs b (by unfold frs;rw[Eo,hf];exact Aj _ hb)) hr⟩
 exact all X.outer (λ_ hb=>hb) I.ok.funs
def Inv.stack(I:Inv X pins σ H s):s.heap.FunFrames X.base X.stack:=by
 rcases I.ok.stk with e|⟨e,hf⟩
 ·rw[e];exact I.funs
 ·rw[e];obtain⟨m,hn,_⟩:=I.loc;refine .cons (by rw[I.ok.kind];decide) hf hn ?_ I.funs
  exact Fp (Cc I.ok.bsz I.ok.above)
def Inv.stkSub(I:Inv X pins σ H s):∀b∈frs X.stack,b∈X.env.locals::X.fs:=λb hb=>by
 rcases I.ok.stk with e|⟨e,hf⟩
 ·rw[e]at hb;exact Aj _ hb
 ·rw[e]at hb;unfold frs at hb;rw[Eo,hf]at hb;exact hb
def Inv.stkFree(I:Inv X pins σ H s):∀b∈frs X.stack,H b=none:=λb hb=>by
 rcases Be.mp (I.stkSub b hb) with e|hb
 ·rw[e];exact I.free
 ·obtain⟨_,o,ho,_⟩:=I.ok.funs.mem hb;exact I.base.free b o ho (I.ok.frf b hb) λz=>I.ok.exfs b z hb
def Inv.step{g':Array GenState}{d':Drawn}{ch:List Addr}(I:Inv X pins σ H s)(hch:∀b∈ch,(b∈X.ex\/X.s₀.heap.objs.size<=b)/\b≠X.env.locals/\(∀x c,X.env.cells.lookup x=some c->c≠b)/\∀p∈X.pn++pins,p.1≠b)(keep:∀b o,b≠X.env.locals->b∉X.fs->b∉ch->s.heap.get? b=some o->H b=none->h'.get? b=some o)(slot:∀b o,b≠X.env.locals->b∈X.fs->b∉ch->s.heap.get? b=some o->H b=none->∃sl,h'.get? b=some {o with slots:=sl})(free:∀b o,b∉ch->s.heap.get? b=some o->H b=none->H' b=none)(there:∀b o,b∉ch->s.heap.get? b=some o->∃o',h'.get? b=some o')(tups:∀b xs,H b=some (.tup xs)->H' b=some (.tup xs))(frzs:∀b o u,H b=some (.frz o u)->H' b=some (.frz o u))(tbls:∀b ps,H b=some (.tbl ps)->∃more,H' b=some (.tbl (ps++more)))(ns:∀m,s.heap.Ns X.env.locals m->h'.Ns X.env.locals m)(hok:HOk X.prog X.w H' h')(hg:AllBare g'):Inv X pins σ H' {s with heap:=h',gens:=g',drawn:=d',toks:=t'}:=by
 have neL:∀b o,X.s₀.heap.get? b=some o->b≠X.env.locals:=λb o e=>Bc (Bb (As e) I.ok.above)
 have neC:∀b o,X.s₀.heap.get? b=some o->b∉X.ex->b∉ch:=λb o e hx hb=>by
  rcases (hch b hb).1 with z|z
  ·exact hx z
  ·exact absurd (Bb (As e) z) (Dh _)
 have cellK:∀x c,X.env.cells.lookup x=some c->∀v,s.heap.IsCell c v->h'.IsCell c v:=λx c e v ⟨o,ho,hd⟩=>by
  have nch:c∉ch:=λz=>(hch c z).2.2.1 x c e rfl
  by_cases hc:c∈X.fs
  ·obtain⟨sl,q⟩:=slot c o (I.cne x c e) hc nch ho (I.freeC x c e);exact⟨_,q,hd⟩
  ·exact⟨o,keep c o (I.cne x c e) hc nch ho (I.freeC x c e),hd⟩
 refine⟨I.ok,I.os,hg,⟨λb o e n hb hx=>?_,λb o e n hb hx=>?_,λb o e n hx=>?_,λb o e hx=>?_,λb xs e=>tups b xs (I.base.tups b xs e),λb o xs e=>frzs b o xs (I.base.frzs b o xs e),λb ps e=>?_⟩,?_,λx c e=>?_,?_,λx c e=>?_,λp hp=>?_,hok,I.len⟩
 ·exact keep b o (neL b o e) hb (neC b o e hx) (I.base.keep b o e n hb hx) (I.base.free b o e n hx)
 ·obtain⟨sl,e1⟩:=I.base.slot b o e n hb hx;obtain⟨sl',e2⟩:=slot b _ (neL b o e) hb (neC b o e hx) e1 (I.base.free b o e n hx);exact⟨sl',e2⟩
 ·obtain⟨o',e1⟩:=I.base.there b o e hx;exact free b o' (neC b o e hx) e1 (I.base.free b o e n hx)
 ·obtain⟨o',e1⟩:=I.base.there b o e hx;exact there b o' (neC b o e hx) e1
 ·obtain⟨m1,e1⟩:=I.base.tbls b ps e;obtain⟨m2,e2⟩:=tbls b _ e1;exact⟨m1++m2,by rw[e2,Array.append_assoc]⟩
 ·obtain⟨m,hn,hl⟩:=I.loc;refine⟨m,ns m hn,λi x v e1 e2 e3=>?_⟩;obtain⟨u,r,l⟩:=hl i x v e1 e2 e3;refine⟨u,r,?_⟩;rcases l with l|⟨k,c,e,z⟩
  ·exact .inl l
  ·exact .inr ⟨k,c,e,cellK x c e _ z⟩
 ·obtain⟨v,z⟩:=I.cell x c e;exact⟨v,cellK x c e v z⟩
 ·obtain⟨m,⟨o,_,_,ho,_⟩,_⟩:=I.loc;exact free _ o (λz=>(hch _ z).2.1 rfl) ho I.free
 ·obtain⟨v,o,ho,hd⟩:=I.cell x c e;exact free c o (λz=>(hch c z).2.2.1 x c e rfl) ho (I.freeC x c e)
 ·obtain⟨e,n,ne,nf,d⟩:=I.pin p hp;have nch:p.1∉ch:=λz=>(hch p.1 z).2.2.2 p hp rfl
  exact⟨keep p.1 p.2 ne nf nch e n,free p.1 p.2 nch e n,ne,nf,d⟩
def Inv.un{t':Nat}(I:Inv X pins σ H s)(u:Un X.fs [] H H' s.heap h')(hok:HOk X.prog X.w H' h'):Inv X pins σ H' {s with heap:=h',toks:=t'}:=by
 obtain⟨m,⟨o,es,ep,ho,r⟩,_⟩:=id I.loc;obtain⟨sl,hL⟩:=u.any ho I.free (by simp)
 exact I.step (g':=s.gens) (d':=s.drawn) (ch:=[]) (λ_ z=>nomatch z) (λb o _ hb _ e n=>u.keep b o e n hb (by simp)) (λb o _ hb _ e n=>u.slot b o e n hb (by simp)) (λb o _ e n=>u.free b o e n (by simp)) (λb o _ e=>u.there b o e (by simp)) u.tups u.frzs u.tbls (λm' hm=>by
  obtain⟨o',es',ep',ho',r'⟩:=hm;rw[ho]at ho';cases ho';exact⟨_,es',ep',hL,r'⟩) hok I.bare
def Inv.call{g':Array GenState}{t':Nat}{d':Drawn}{ch:List Addr}(I:Inv X pins σ H s)(u:Un (frs X.stack) ch H H' s.heap h')(hok:HOk X.prog X.w H' h')(hg:AllBare g')(hch:∀b∈ch,(b∈X.ex\/X.s₀.heap.objs.size<=b)/\b≠X.env.locals/\(∀x c,X.env.cells.lookup x=some c->c≠b)/\∀p∈X.pn++pins,p.1≠b):Inv X pins σ H' {s with heap:=h',gens:=g',drawn:=d',toks:=t'}:=by
 obtain⟨m,⟨o,es,ep,ho,r⟩,_⟩:=id I.loc;obtain⟨sl,hL⟩:=u.any ho I.free λz=>(hch _ z).2.1 rfl;exact I.step (ch:=ch) hch (λb o hL hb hc e n=>u.keep b o e n (λz=>(Be.mp (I.stkSub b z)).elim hL hb) hc) (λb o _ _ hc e n=>u.any e n hc) (λb o hc e n=>u.free b o e n hc) (λb o hc e=>u.there b o e hc) u.tups u.frzs u.tbls (λm' hm=>by
  obtain⟨o',es',ep',ho',r'⟩:=hm;rw[ho]at ho';cases ho';exact⟨_,es',ep',hL,r'⟩) hok hg
def Inv.turned{t':Nat}{it:Addr}(I:Inv X pins σ H s)(k:∀b o,b≠it->s.heap.get? b=some o->h'.get? b=some o)(hn:H it=none)(hL:it≠X.env.locals)(h1:it∈X.ex\/X.s₀.heap.objs.size<=it)(h2:∀x c,X.env.cells.lookup x=some c->c≠it)(h3:∀p∈X.pn++pins,p.1≠it):Inv X pins σ H {s with heap:=h',toks:=t'}:=by
 have nit:∀b u,H b=some u->b≠it:=λb u e z=>by rw[z,hn]at e;cases e
 refine I.step (g':=s.gens) (d':=s.drawn) (ch:=[it]) (λb hb=>?_) (λb o _ _ hc e _=>k b o (λz=>hc (by simp[z])) e) (λb o _ _ hc e _=>⟨o.slots,k b o (λz=>hc (by simp[z])) e⟩) (λ_ _ _ _ n=>n)
  (λb o hc e=>⟨o,k b o (λz=>hc (by simp[z])) e⟩) (λ_ _ e=>e) (λ_ _ _ e=>e) (λb ps e=>⟨#[],by rw[e];simp⟩) (λm hm=>?_) (λb u e=>?_) I.bare
 ·have e:b=it:=by simpa using hb
  subst e;exact⟨h1,hL,h2,h3⟩
 ·obtain⟨o,es,ep,ho,r⟩:=hm;exact⟨o,es,ep,k _ o (Ne.symm hL) ho,r⟩
 ·refine(I.hok b u e).stay (λc v hc q=>k c v ?_ q) (λ_ q=>q) λ_ _ q=>q;rcases hc with z|z
  ·rw[z];exact nit b u e
  ·exact nit c _ z
def Inv.tok(I:Inv X pins σ H s)(t:Nat):Inv X pins σ H {s with toks:=t}:=I.un (h':=s.heap) (t':=t) Un.refl I.hok
def Inv.kept{t':Nat}(I:Inv X pins σ H s)(k:∀b u,s.heap.get? b=some u->h'.get? b=some u):Inv X pins σ H {s with heap:=h',toks:=t'}:=I.un (Un.kept k) (I.hok.kept k)
def Inv.laid{a:Addr}{o:HO}{t':Nat}(I:Inv X pins σ H s)(k:∀b u,s.heap.get? b=some u->h'.get? b=some u)(hp:s.heap.objs.size<=a)(new:ObjOk X.prog X.w (upd H a o) h' a o):Inv X pins σ (upd H a o) {s with heap:=h',toks:=t'}:=I.un (Un.laid k hp (I.hok.fresh hp)) (I.hok.laid k hp new)
def Inv.write{x e:Addr}{o:HO}{t':Nat}(I:Inv X pins σ H s)(mu:Mut (H x))(he:e=x\/H e=some (.own x))(k:∀b u,b≠e->s.heap.get? b=some u->h'.get? b=some u)(heo:∃u,h'.get? e=some u)(new:ObjOk X.prog X.w (upd H x o) h' x o):Inv X pins σ (upd H x o) {s with heap:=h',toks:=t'}:=I.un (Un.write mu he k heo) (I.hok.write mu he k heo new)
def Inv.weak{σ':List (Option V)}(I:Inv X pins σ H s)(hl:σ'.length=σ.length)(w:∀(i:Nat) v,σ'[i]?=some (some v)->σ[i]?=some (some v)):Inv X pins σ' H s:=
 ⟨I.ok,I.os,I.bare,I.base,let ⟨m,hn,hl'⟩:=I.loc;⟨m,hn,λi x v e1 e2 e3=>hl' i x v e1 (w i v e2) e3⟩,I.cell,I.free,I.freeC,I.pin,I.hok,hl.trans I.len⟩
def Inv.pins_of{pins':Q2}(I:Inv X pins σ H s)(h:∀p∈pins',s.heap.get? p.1=some p.2/\H p.1=none/\p.1≠X.env.locals/\p.1∉X.fs/\∀v,p.2.data≠.cell v):Inv X pins' σ H s:=
 ⟨I.ok,I.os,I.bare,I.base,I.loc,I.cell,I.free,I.freeC,λp hp=>(By.mp hp).elim (λz=>I.pin p (Dp _ z)) (h p),I.hok,I.len⟩
def yY(hN:N.Nodup){j:Nat}(a:N[i]?=some x)(b:N[j]?=some x):i=j:=by
 obtain⟨h1,e1⟩:=Ad.mp a;obtain⟨h2,e2⟩:=Ad.mp b;exact(Ep hN).mp (e1.trans e2.symm)
def wC{Q:Unit->Shared->Prop}(I:Inv X pins σ H s)(hN:X.N.Nodup)(hi:X.N[i]?=some x)(hx:Loc X.env.scope x)(r:RelV v u)(h:∀s',Inv X pins (σ.set i (some v)) H s'->(∃a,Heap.SameBut a s.heap s'.heap/\(a=X.env.locals\/X.env.cells.lookup x=some a))->Q () s')(hf:X.fn x=true\/X.env.scope.names.lookup x=some .local:=by first|exact .inl rfl|exact .inr rfl|assumption):wpAny M A (storeName X.env x u) Q E s:=by
 obtain⟨m,hn,hl⟩:=id I.loc;have hcls:(X.env.scope.kind == .class || (X.env.scope.kind == .module&&X.env.locals != X.env.globals))=false:=by rw[I.ok.kind];rfl
 have hiσ:i<σ.length:=by rw[I.len];exact(Ad.mp hi).1
 have cne:=I.cne
 have tracked:∀ {a:Addr} {h':Heap},(∃o,s.heap.get? a=some o/\H a=none)->Heap.SameBut a s.heap h'->HOk X.prog X.w H h':=fun {a h'} ha hs b ob e=>by
  obtain⟨_,_,hfree⟩:=ha;refine(I.hok b ob e).stay (λc w' hc q=>(hs.2 c ?_).trans q) (λ_ q=>q) λ_ _ q=>q;rintro rfl;rcases hc with rfl|hc
  ·rw[hfree]at e;cases e
  ·rw[hfree]at hc;cases hc
 rcases hx with hk|hk
 ·refine wpAny_storeName_local hk hn (λh' hn' hs=>?_) hcls;obtain⟨oL,_,_,hoL,_⟩:=id hn;refine h _ ⟨I.ok,I.os,I.bare,⟨λb o e n hb hx=>?_,λb o e n hb hx=>?_,I.base.free,λb o e hx=>?_,I.base.tups,I.base.frzs,I.base.tbls⟩,⟨_,hn',λj y v' e1 e2 e3=>?_⟩,λy c e=>?_,I.free,I.freeC,λp hp=>?_,tracked ⟨oL,hoL,I.free⟩ hs,by simpa using I.len⟩ ⟨_,hs,.inl rfl⟩
  ·exact(hs.2 b (Bc (Bb (As e) I.ok.above))).trans (I.base.keep b o e n hb hx)
  ·obtain⟨sl,e1⟩:=I.base.slot b o e n hb hx;exact⟨sl,(hs.2 b (Bc (Bb (As e) I.ok.above))).trans e1⟩
  ·obtain⟨o',e1⟩:=I.base.there b o e hx;exact⟨o',(hs.2 b (Bc (Bb (As e) I.ok.above))).trans e1⟩
  ·by_cases hj:j=i
   ·subst hj;rw[hi]at e1;cases e1;rw[Gi hiσ]at e2;cases e2;exact⟨u,r,.inl ⟨hk,by simp⟩⟩
   ·rw[Fq (Ne.symm hj)]at e2;obtain⟨u',r',q⟩:=hl j y v' e1 e2 e3;refine⟨u',r',?_⟩;rcases q with⟨k,e⟩|⟨k,c,e,z⟩
    ·refine .inl ⟨k,?_⟩;have:y≠x:=λe=>hj (yY hN e1 (e▸hi))
     simp[this,e]
    ·exact .inr ⟨k,c,e,z.sameBut hs (cne y c e)⟩
  ·obtain⟨w',z⟩:=I.cell y c e;exact⟨w',z.sameBut hs (cne y c e)⟩
  ·obtain⟨e,n,ne,nf,d⟩:=I.pin p hp;exact⟨(hs.2 p.1 ne).trans e,n,ne,nf,d⟩
 ·have hfn:X.fn x=true:=by
   rcases hf with z|z
   ·exact z
   ·rw[z]at hk;cases hk
  obtain⟨c,hc⟩:=I.ok.has x (.inl hk);obtain⟨w',z⟩:=I.cell x c hc;refine wpAny_storeName_cell I.ok.kind hk hc z (λh' hc' hs=>?_);obtain⟨oc,hoc,hocd⟩:=id z;refine h {s with heap:=h'} ⟨I.ok,I.os,I.bare,⟨λb o e n hb hx=>?_,λb o e n hb hx=>?_,I.base.free,λb o e hx=>?_,I.base.tups,I.base.frzs,I.base.tbls⟩,⟨m,hn.sameBut hs (Ne.symm (cne x c hc)),λj y v' e1 e2 e3=>?_⟩,λy c' e=>?_,I.free,I.freeC,λp hp=>?_,tracked ⟨oc,hoc,I.freeC x c hc⟩ hs,by simpa using I.len⟩ ⟨c,hs,.inr hc⟩
  ·exact(hs.2 b (Bc (Bb (As e) (I.ok.cab x c hfn hc)))).trans (I.base.keep b o e n hb hx)
  ·obtain⟨sl,e1⟩:=I.base.slot b o e n hb hx;exact⟨sl,(hs.2 b (Bc (Bb (As e) (I.ok.cab x c hfn hc)))).trans e1⟩
  ·obtain⟨o',e1⟩:=I.base.there b o e hx;exact⟨o',(hs.2 b (Bc (Bb (As e) (I.ok.cab x c hfn hc)))).trans e1⟩
  ·by_cases hj:j=i
   ·subst hj;rw[hi]at e1;cases e1;rw[Gi hiσ]at e2;cases e2;exact⟨u,r,.inr ⟨.inl hk,c,hc,hc'⟩⟩
   ·rw[Fq (Ne.symm hj)]at e2;obtain⟨u',r',q⟩:=hl j y v' e1 e2 e3;refine⟨u',r',?_⟩;rcases q with q|⟨k,c',e,z'⟩
    ·exact .inl q
    ·refine .inr ⟨k,c',e,z'.sameBut hs ?_⟩;rintro rfl;exact hj (yY hN e1 (I.ok.inj _ _ _ e hc▸hi))
  ·by_cases hcc:c'=c
   ·subst hcc;exact⟨_,hc'⟩
   ·obtain⟨w2,z2⟩:=I.cell y c' e;exact⟨w2,z2.sameBut hs hcc⟩
  ·obtain⟨e,n,ne,nf,d⟩:=I.pin p hp;refine⟨(hs.2 p.1 ?_).trans e,n,ne,nf,d⟩;intro q;rw[q,hoc]at e;have q':oc=p.2:=Bg e
   exact d w' (by rw[<-q'];exact hocd)
def zG{Q:Unit->Shared->Prop}(I:Inv X pins σ H s)(hN:X.N.Nodup)(hi:X.N[i]?=some x)(hx:Loc X.env.scope x)(r:RelV v u)(h:∀s',Inv X pins (σ.set i (some v)) H s'->Q () s')(hf:X.fn x=true\/X.env.scope.names.lookup x=some .local:=by first|exact .inl rfl|exact .inr rfl|assumption):wpAny M A (storeName X.env x u) Q E s:=
 wC I hN hi hx r (λs' I' _=>h s' I') hf
def Inv.call'{s':Shared}{ch:List Addr}(I:Inv X pins σ H s)(ho:s'.os=s.os)(u:Un (frs X.stack) ch H H' s.heap s'.heap)(hok:HOk X.prog X.w H' s'.heap)(hg:AllBare s'.gens)(hch:∀b∈ch,(b∈X.ex\/X.s₀.heap.objs.size<=b)/\b≠X.env.locals/\(∀x c,X.env.cells.lookup x=some c->c≠b)/\∀p∈X.pn++pins,p.1≠b):Inv X pins σ H' s':=by
 obtain⟨h',g',d',t',o'⟩:=s';have e:o'=s.os:=ho
 subst e;exact I.call (g':=g') (t':=t') (d':=d') u hok hg hch
end
abbrev XK:=Value->Option Addr->Hp->Prop
abbrev St:=List (Option V)
variable {σ:St}
abbrev VK:=V->Hp->Prop
abbrev TE:=St->Hp->VK->Prop
variable {ta tb te:TE}
abbrev TT:=St->Hp->(Bool->Hp->Prop)->Prop
abbrev TA:=St->Hp->(List V->Hp->Prop)->Prop
variable {t:TA}
structure Ends where
 nx:St->Hp->Prop
 rt:VK
 bk:St->Hp->Prop:=λ_ _=>False
 ct:St->Hp->Prop:=λ_ _=>False
abbrev TS:=Ends->St->Hp->Prop
def EP(X:Cx)(pins:List (Addr×Obj))(σ:St)(Q:VK)(u:Value)(s':Shared):Prop:=∃v H',Inv X pins σ H' s'/\RelV v u/\Q v H'
def TP(X:Cx)(pins:List (Addr×Obj))(σ:St)(Q:Bool->Hp->Prop)(b:Bool)(s':Shared):Prop:=∃H',Inv X pins σ H' s'/\Q b H'
def AP(X:Cx)(pins:List (Addr×Obj))(σ:St)(Q:List V->Hp->Prop)(us:List Value)(s':Shared):Prop:=∃vs H',Inv X pins σ H' s'/\Vals vs us/\Q vs H'
def SP(X:Cx)(pins:List (Addr×Obj))(D:Ends)(f:Flow)(s':Shared):Prop:=
 match f with
 |.next=>∃σ' H',Inv X pins σ' H' s'/\D.nx σ' H'
 |.brk=>∃σ' H',Inv X pins σ' H' s'/\D.bk σ' H'
 |.cont=>∃σ' H',Inv X pins σ' H' s'/\D.ct σ' H'
 |.ret u=>∃v σ' H',Inv X pins σ' H' s'/\RelV v u/\D.rt v H'
def PE(X:Cx)(e:Expr)(t:TE):Prop:=
 ∀(pins:Q2) (s:Shared) (σ:St) (H:Hp) (Q:VK),Inv X pins σ H s->t σ H Q->wpAny (model X.prog X.w) X.A (eval e X.env) (EP X pins σ Q) X.xe s
def PT(X:Cx)(e:Expr)(t:TT):Prop:=
 ∀(pins:Q2) (s:Shared) (σ:St) (H:Hp) (Q:Bool->Hp->Prop),Inv X pins σ H s->t σ H Q->wpAny (model X.prog X.w) X.A (isTrue e X.env (eval e X.env)) (TP X pins σ Q) X.xe s
def PW(X:Cx)(e:Expr)(t:TT):Prop:=
 ∀(whole:Sem Value) (pins:Q2) (s:Shared) (σ:St) (H:Hp) (Q:Bool->Hp->Prop),Inv X pins σ H s->t σ H Q->wpAny (model X.prog X.w) X.A (isTrue e X.env whole) (TP X pins σ Q) X.xe s
def PW.pt{t:TT}(h:PW X e t):PT X e t:=h _
def PA(X:Cx)(es:List Expr)(t:TA):Prop:=
 ∀(pos:Pos) (pins:Q2) (s:Shared) (σ:St) (H:Hp) (Q:List V->Hp->Prop),Inv X pins σ H s->t σ H Q->wpAny (model X.prog X.w) X.A (spliced (backTo pos (starEach es X.env))) (AP X pins σ Q) X.xe s
def PS(X:Cx)(st:Stmt)(t:TS):Prop:=
 ∀(pins:Q2) (s:Shared) (σ:St) (H:Hp) (D:Ends),Inv X pins σ H s->t D σ H->wpAny (model X.prog X.w) X.A (exec st X.env) (SP X pins D) X.xe s
def PSs(X:Cx)(st:List Stmt)(t:TS):Prop:=
 ∀(pins:Q2) (s:Shared) (σ:St) (H:Hp) (D:Ends),Inv X pins σ H s->t D σ H->wpAny (model X.prog X.w) X.A (execs st X.env) (SP X pins D) X.xe s
def thn{α:Type}{t:Sem α}{Q Q':α->Shared->Prop}(h:wpAny M A t Q E s)(hQ:∀a s,Q a s->Q' a s):wpAny M A t Q' E s:=Cp h hQ λ_ _ x=>x
section
def bin{a b:Expr}(ha:PE X a ta)(hb:PE X b tb){R:V->V->Hp->Prop}(I:Inv X pins σ H s)(h:ta σ H λx H1=>tb σ H1 λy H2=>R x y H2){α:Type}{Q:α->Shared->Prop}{f:Value->Value->Sem α}(hf:∀v u s2 x y H2,Inv X pins σ H2 s2->RelV x v->RelV y u->R x y H2->wpAny (model X.prog X.w) X.A (f v u) Q X.xe s2):wpAny (model X.prog X.w) X.A (eval a X.env) (λv s₁=>wpAny (model X.prog X.w) X.A (eval b X.env) (λu s₂=>wpAny (model X.prog X.w) X.A (f v u) Q X.xe s₂) X.xe s₁) X.xe s:=by
 refine thn (ha pins s σ H _ I h) λv s1 ⟨x,H1,I1,r1,q1⟩=>?_;refine thn (hb pins s1 σ H1 _ I1 q1) λu s2 ⟨y,H2,I2,r2,q2⟩=>?_;exact hf v u s2 x y H2 I2 r1 r2 q2
def fQK(i:Nat):TE:=λσ H Q=>∃v,σ[i]?=some (some v)/\Q v H
def tC(v:V):TE:=λ_ H Q=>Q v H
def dJI(hN:X.N[i]?=some x)(hv:Vis X.env.scope x)(hd:(x==("__debug__" : Str))=false:=by decide)(hcd:(x==("__classdict__" : Str))=false:=by decide):PE X (.Name x pos) (fQK i):=by
 intro pins s σ H Q I h;obtain⟨v,e,h⟩:=h;obtain⟨m,hn,hl⟩:=I.loc;obtain⟨u,r,l⟩:=hl i x v hN e hv;have fin:EP X pins σ Q u s:=⟨v,H,I,r,h⟩
 rcases l with⟨hk,hm⟩|⟨hk,c,hc,hcell⟩
 ·exact wpAny_Name (wpAny_loadName_local I.ok.kind hk hn hm fin) hd
 ·rcases hk with hk|hk
  ·exact wpAny_Name (wpAny_loadName_cell I.ok.kind hk hc hcell fin) hd
  ·exact wpAny_Name (wpAny_loadName_free I.ok.kind hk hc hcell fin hcd) hd
def aJ{i j pos}:PE X (.Constant (.int i) j pos) (tC (.int i)):=λ_ _ _ H _ I h=>wpAny_Constant_int ⟨.int i,H,I.tok _,⟨_,rfl⟩,h⟩
def eQ{b j pos}:PE X (.Constant (.bool b) j pos) (tC (.bl b)):=λ_ _ _ H _ I h=>Constant_bool ⟨.bl b,H,I,rfl,h⟩
def cP{j pos}:PE X (.Constant .none j pos) (tC .non):=λ_ _ _ H _ I h=>Constant_none ⟨.non,H,I,rfl,h⟩
def eO{x j pos}:PE X (.Constant (.str x) j pos) (tC (.str x)):=λ_ _ _ H _ I h=>Calls.Constant_str ⟨.str x,H,I.tok _,⟨_,rfl⟩,h⟩
def Gl(X:Cx)(x:Str):Prop:=X.env.kindOf x=some .globalImplicit
def iO(I:Inv X pins σ H s)(hg:Gl X x)(hm:X.mg x=some u)(h:Q u s)(hd:(x==("__debug__" : Str))=false:=by decide):wpAny (model X.prog X.w) X.A (eval (.Name x pos) X.env) Q E s:=
 Calls.Name_function_global I.ok.kind hg (Calls.loadGlobal_global (by rw[I.ok.glob];exact I.mod.glob.keeps I.bk) hm h) hd
def gR(I:Inv X pins σ H s)(hg:Gl X x)(hm:X.mg x=none)(hv:bootBuiltins x=some u)(h:Q u s)(hn:x≠"__name__" := by decide)(hd:(x==("__debug__" : Str))=false:=by decide):wpAny (model X.prog X.w) X.A (eval (.Name x pos) X.env) Q E s:=by
 obtain⟨mb,h1,h2⟩:=I.mod.blt;exact Calls.Name_function_global I.ok.kind hg (Calls.loadGlobal_builtin (by rw[I.ok.glob];exact I.mod.glob.keeps I.bk) hm (by rw[I.ok.blt];exact h1.keeps I.bk) ((h2 x hn).trans hv) h) hd
def xG(hg:Gl X x)(hm:X.mg x=some u)(r:RelV v u)(hd:(x==("__debug__" : Str))=false:=by decide):PE X (.Name x pos) (tC v):=
 λ_ _ _ H _ I h=>iO I hg hm ⟨v,H,I,r,h⟩ hd
variable {a b:Expr}
variable {tA tB':TT} {rest:List Expr}
def fQD(t u:TT):TT:=λσ H Q=>t σ H λc H1=>if c=true then u σ H1 Q else Q false H1
def tOr(t u:TT):TT:=λσ H Q=>t σ H λc H1=>if c=true then Q true H1 else u σ H1 Q
def eJH(t:TT):TT:=λσ H Q=>t σ H λc H1=>Q (!c) H1
def bQP(ha:PT X a tA):PW X (.BoolOp .And [a] pos) tA:=by
 intro wh pins s σ H Q I h;refine isTrue_and (thn (ha pins s σ H Q I h) λc s1 e=>?_);cases c with
 |true=>exact isTrue_and_nil e
 |false=>exact e
def jT(ha:PT X a tA):PW X (.BoolOp .Or [a] pos) tA:=by
 intro wh pins s σ H Q I h;refine isTrue_or (thn (ha pins s σ H Q I h) λc s1 e=>?_);cases c with
 |false=>exact isTrue_or_nil e
 |true=>exact e
def bJF(ha:PT X a tA)(hb:PW X (.BoolOp .And (b::rest) pos) tB'):PW X (.BoolOp .And (a::b::rest) pos) (fQD tA tB'):=by
 intro wh pins s σ H Q I h;refine isTrue_and (thn (ha pins s σ H _ I h) λc s1 ⟨H1,I1,q1⟩=>?_);cases c with
 |true=>exact hb wh pins s1 σ H1 Q I1 q1
 |false=>exact⟨H1,I1,q1⟩
def pM(ha:PT X a tA)(hb:PW X (.BoolOp .Or (b::rest) pos) tB'):PW X (.BoolOp .Or (a::b::rest) pos) (tOr tA tB'):=by
 intro wh pins s σ H Q I h;refine isTrue_or (thn (ha pins s σ H _ I h) λc s1 ⟨H1,I1,q1⟩=>?_);cases c with
 |true=>exact⟨H1,I1,q1⟩
 |false=>exact hb wh pins s1 σ H1 Q I1 q1
def xW(ha:PT X a tA):PT X (.UnaryOp .Not a pos) (eJH tA):=by
 intro pins s σ H Q I h;exact isTrue_not (ha pins s σ H (λc H1=>Q (!c) H1) I h)
def aXO{op}{t:TE}(h:PE X a t):PE X (.BoolOp op [a] pos) t:=λpins s σ H Q I hw=>BoolOp_one (h pins s σ H Q I hw)
def tIf(t:TT)(ta tb:TE):TE:=λσ H Q=>t σ H λc H1=>if c=true then ta σ H1 Q else tb σ H1 Q
def rV{c:Expr}(hc:PT X c tA)(ha:PE X a ta)(hb:PE X b tb):PE X (.IfExp c a b pos) (tIf tA ta tb):=by
 intro pins s σ H Q I h;refine wpAny_IfExp (thn (hc pins s σ H _ I h) λd s1 ⟨H1,I1,q1⟩=>?_);cases d with
 |true=>exact ha pins s1 σ H1 Q I1 q1
 |false=>exact hb pins s1 σ H1 Q I1 q1
end
def SqL(K:W.Frag)(H:Hp)(a:Addr)(xs:List V):Prop:=
 Rd H a (.lst xs)\/
  ∃(o:Obj) (its:Array Value) (n:Nat),K.lookup a=some o/\o.cls=.type "list"/\o.dict=none/\o.data=.seq its n/\its.size<=sizeLine/\Vals xs its.toList
def SqT(K:W.Frag)(H:Hp)(a:Addr)(xs:List V):Prop:=
 Rd H a (.tup xs)\/
  ∃(o:Obj) (its:Array Value) (n:Nat),K.lookup a=some o/\o.cls=.type "tuple"/\o.data=.seq its n/\its.size<=sizeLine/\Vals xs its.toList
def fXD:Value->Option V
 |.none=>some .non
 |.bool b=>some (.bl b)
 |.int i _=>some (.int i)
 |.str x _=>some (.str x)
 |.bytes b _=>some (.byt b)
 |.float b _=>some (.flt b)
 |.ref a=>some (.ref a)
 |.type n=>some (.ty n)
 |_=>none
def RelV.abs{x:V}(r:RelV x u):fXD u=some x:=by
 cases x with
 |non=>cases r;rfl
 |bl _=>cases r;rfl
 |int _=>obtain⟨t,rfl⟩:=r;rfl
 |str _=>obtain⟨t,rfl⟩:=r;rfl
 |byt _=>obtain⟨t,rfl⟩:=r;rfl
 |flt _=>obtain⟨t,rfl⟩:=r;rfl
 |ref _=>cases r;rfl
 |ty _=>cases r;rfl
def RelV.inj{x y:V}(r:RelV x u)(q:RelV y u):x=y:=Bg (r.abs.symm.trans q.abs)
def Vals.inj:∀ {xs ys:List V} {us:List Value},Vals xs us->Vals ys us->xs=ys
 |_,_,_,.nil,.nil=>rfl
 |_,_,_,.cons r t,.cons r' t'=>by rw[r.inj r',Vals.inj t t']
section
variable {ys:List V}
def SqT.of(h:H a=some (.tup xs)):SqT K H a xs:=.inl (.inl h)
def Inv.list(I:Inv X pins σ H s)(h:SqL X.K H a xs):∃its:List Value,Vals xs its/\PlainL s.heap a its.toArray/\xs.length<=sizeLine:=by
 rcases h with h|⟨o,its,n,hk,hc,hd,hs,hz,r⟩
 ·obtain⟨z,its,n,r,e⟩:=h.ok I.hok;exact⟨its,r,⟨_,n,e,rfl,rfl,rfl⟩,z⟩
 ·refine⟨its.toList,r,⟨o,n,I.kIn a o hk,hc,hd,by simpa using hs⟩,?_⟩
  have e:=r.length
  simp only[Array.length_toList]at e;omega
def Inv.tuple(I:Inv X pins σ H s)(h:SqT X.K H a xs):∃its:List Value,Vals xs its/\IsTup s.heap a its.toArray/\xs.length<=sizeLine:=by
 rcases h with h|⟨o,its,n,hk,hc,hs,hz,r⟩
 ·obtain⟨z,its,r,p⟩:=h.ok I.hok;exact⟨its,r,p,z⟩
 ·refine⟨its.toList,r,⟨o,I.kIn a o hk,hc,n,by simpa using hs⟩,?_⟩
  have e:=r.length
  simp only[Array.length_toList]at e;omega
def Inv.list_inj(I:Inv X pins σ H s)(h:SqL X.K H a xs)(h':SqL X.K H a ys):xs=ys:=by
 obtain⟨its,r,⟨o,n,e,_,_,d⟩,_⟩:=I.list h;obtain⟨its',r',⟨o',n',e',_,_,d'⟩,_⟩:=I.list h';rw[e]at e';cases e';rw[d]at d';injection d' with d1 _
 have:its=its':=by simpa using congrArg Array.toList d1
 subst this;exact r.inj r'
end
abbrev Cx.wish(X:Cx)(E:Value->Shared->Prop):Cx:={X with xe:=E}
abbrev Cx.nox(X:Cx):Cx:=X.wish λ_ _=>False
def Cx.Ok.wish(ok:X.Ok)(E:Q0):(X.wish E).Ok:=
 ⟨ok.mod,ok.kind,ok.glob,ok.blt,ok.above,ok.inj,ok.has,ok.cab,ok.hd,ok.frames,ok.stk,ok.exf,ok.bs,ok.bsz,ok.noex,ok.exfs,ok.funs,ok.frf⟩
def Cx.Ok.unwish(ok:(X.wish E).Ok):X.Ok:=
 ⟨ok.mod,ok.kind,ok.glob,ok.blt,ok.above,ok.inj,ok.has,ok.cab,ok.hd,ok.frames,ok.stk,ok.exf,ok.bs,ok.bsz,ok.noex,ok.exfs,ok.funs,ok.frf⟩
def Inv.wish(I:Inv X pins σ H s)(E:Q0):Inv (X.wish E) pins σ H s:=⟨I.ok.wish E,I.os,I.bare,I.base,I.loc,I.cell,I.free,I.freeC,I.pin,I.hok,I.len⟩
def Inv.unwish(I:Inv (X.wish E) pins σ H s):Inv X pins σ H s:=⟨I.ok.unwish,I.os,I.bare,I.base,I.loc,I.cell,I.free,I.freeC,I.pin,I.hok,I.len⟩
def SP.unwish{D:Ends}{f:Flow}{s':Shared}(h:SP (X.wish E) pins D f s'):SP X pins D f s':=by
 cases f with
 |next=>obtain⟨σ',H',I,q⟩:=h;exact⟨σ',H',I.unwish,q⟩
 |brk=>obtain⟨σ',H',I,q⟩:=h;exact⟨σ',H',I.unwish,q⟩
 |cont=>obtain⟨σ',H',I,q⟩:=h;exact⟨σ',H',I.unwish,q⟩
 |ret u=>obtain⟨v,σ',H',I,r,q⟩:=h;exact⟨v,σ',H',I.unwish,r,q⟩
def PSs.nox{st:List Stmt}{t:TS}(h:PSs X.nox st t):PSs X st t:=λpins s σ H D I hw=>
 Cp (h pins s σ H D (I.wish _) hw) (λ_ _ q=>q.unwish) λ_ _ z=>False.elim z
section
variable {X:Cx} {st:Stmt} {rest:List Stmt} {t u:TS} {e:Expr} {te:TE} {pos:Pos}
def dZM:TS:=λD σ H=>D.nx σ H
def dJF(t u:TS):TS:=λD σ H=>t {D with nx:=u D} σ H
def bF:PSs X [] dZM:=λ_ _ σ H _ I h=>wpAny_execs_nil ⟨σ,H,I,h⟩
def aD(h1:PS X st t)(h2:PSs X rest u):PSs X (st::rest) (dJF t u):=by
 intro pins s σ H D I h;refine wpAny_execs_cons (thn (h1 pins s σ H {D with nx:=u D} I h) λf s1 q=>?_)
 cases f with
 |next=>
  obtain⟨σ',H',I',q⟩:=q;exact h2 pins s1 σ' H' D I' q
 |ret v=>exact q
 |brk=>exact q
 |cont=>exact q
def aH(h1:PS X st t):PSs X [st] t:=by
 intro pins s σ H D I h;refine wpAny_execs_cons (thn (h1 pins s σ H D I h) λf s1 q=>?_);cases f with
 |next=>exact wpAny_execs_nil q
 |ret v=>exact q
 |brk=>exact q
 |cont=>exact q
def Inv.quiet(I:Inv X pins σ H s):interactive X.env=false:=by simp[interactive,I.ok.kind]
def dZ3(te:TE):TS:=λD σ H=>te σ H λ_ H1=>D.nx σ H1
def dW(he:PE X e te)(hs:swapsWith e none pos.line X.env=pure false:=by rfl):PS X (.Expr e pos) (dZ3 te):=by
 intro pins s σ H D I h;exact wpAny_Expr_any (thn (he pins s σ H _ I h) λv s1 ⟨x,H1,I1,r1,q1⟩=>⟨σ,H1,I1,q1⟩) I.quiet hs
def fQB(te:TE):TS:=λD σ H=>te σ H D.rt
def aR(he:PE X e te):PS X (.Return (some e) pos) (fQB te):=by
 intro pins s σ H D I h;exact wpAny_Return_some (thn (he pins s σ H _ I h) λv s1 ⟨x,H1,I1,r1,q1⟩=>⟨x,σ,H1,I1,r1,q1⟩)
def eZ3(c:TT)(t u:TS):TS:=λD σ H=>c σ H λb H1=>if b=true then t D σ H1 else u D σ H1
def bY{c:Expr}{a b:List Stmt}{tc:TT}(hc:PT X c tc)(ha:PSs X a t)(hb:PSs X b u):PS X (.If c a b pos) (eZ3 tc t u):=by
 intro pins s σ H D I h;refine wpAny_If (thn (hc pins s σ H _ I h) λd s1 ⟨H1,I1,q1⟩=>?_);cases d with
 |true=>exact ha pins s1 σ H1 D I1 q1
 |false=>exact hb pins s1 σ H1 D I1 q1
def eXT:TS:=λ_ _ _=>False
def oF:PS X st eXT:=λ_ _ _ _ _ _ h=>h.elim
end
abbrev TG:=V->St->Hp->(St->Hp->Prop)->Prop
variable {g:TG}
abbrev TGs:=List V->St->Hp->(St->Hp->Prop)->Prop
def PG(X:Cx)(target:Expr)(t:TG):Prop:=
 ∀(pins:Q2) (s:Shared) (σ:St) (H:Hp) (v:V) (u:Value) (Q:St->Hp->Prop),Inv X pins σ H s->RelV v u->t v σ H Q->
  wpAny (model X.prog X.w) X.A (assign target X.env u) (λ_ s'=>∃σ' H',Inv X pins σ' H' s'/\Q σ' H') X.xe s
def PGs(X:Cx)(ts:List Expr)(t:TGs):Prop:=
 ∀(pins:Q2) (s:Shared) (σ:St) (H:Hp) (vs:List V) (us:List Value) (Q:St->Hp->Prop),Inv X pins σ H s->Vals vs us->t vs σ H Q->
  wpAny (model X.prog X.w) X.A (assignInOrder ((assignEach ts X.env).map (·.2)) us) (λ_ s'=>∃σ' H',Inv X pins σ' H' s'/\Q σ' H') X.xe s
abbrev cJ9:=V->V->V->Hp->(Hp->Prop)->Prop
def eZ7(X:Cx)(t:cJ9):Prop:=
 ∀(pins:Q2) (s:Shared) (σ:St) (H:Hp) (o i v:V) (ov iv u:Value) (Q:Hp->Prop),Inv X pins σ H s->RelV o ov->RelV i iv->RelV v u->t o i v H Q->
  wpAny (model X.prog X.w) X.A (setItem ov iv u) (λ_ s'=>∃H',Inv X pins σ H' s'/\Q H') X.xe s
section
variable {X:Cx} {pos:Pos}
def jL(i:Nat):TG:=λv σ H Q=>Q (σ.set i (some v)) H
def aW{i:Nat}(hN:X.N.Nodup)(hi:X.N[i]?=some x)(hx:Loc X.env.scope x)(hf:X.fn x=true\/X.env.scope.names.lookup x=some .local:=by first|exact .inl rfl|exact .inr rfl|assumption):PG X (.Name x pos) (jL i):=by
 intro pins s σ H v u Q I r h;exact wpAny_assign_Name (zG I hN hi hx r (λs' I'=>⟨_,H,I',h⟩) hf)
def eZD:TGs:=λvs σ H Q=>vs=[]/\Q σ H
def aJ3(t:TG)(u:TGs):TGs:=λvs σ H Q=>∃v r,vs=v::r/\t v σ H λσ' H'=>u r σ' H' Q
def aJ0:PGs X [] eZD:=by
 intro pins s σ H vs us Q I r h;obtain⟨e,h⟩:=h;subst e;cases r;exact assignInOrder_nil ⟨σ,H,I,h⟩
def hU{t:TG}{u:TGs}(h1:PG X e t)(h2:PGs X es u)(hs:(assignEach (e::es) X.env).map (·.2)=assign e X.env::(assignEach es X.env).map (·.2):=by rfl):PGs X (e::es) (aJ3 t u):=by
 intro pins s σ H vs us Q I r h;obtain⟨v,vr,e1,h⟩:=h;subst e1;cases r with
 |cons r rr=>
  rw[hs];refine assignInOrder_cons (thn (h1 pins s σ H _ _ _ I r h) λ_ s1 ⟨σ1,H1,I1,q1⟩=>?_);exact h2 pins s1 σ1 H1 _ _ Q I1 rr q1
def eQF(K:W.Frag)(n:Nat)(t:TGs):TG:=λv σ H Q=>∃a xs,v=.ref a/\SqT K H a xs/\xs.length=n/\t xs σ H Q
def eX9{t:TGs}{n:Nat}(hc:X.calm=true)(h:PGs X es t)(hn:(assignEach es X.env).length=n:=by rfl)(hst:(assignEach es X.env).findIdx? (·.1)=none:=by rfl):PG X (.Tuple es k pos) (eQF X.K n t):=by
 intro pins s σ H v u Q I r hw;obtain⟨a,xs,e1,hq,hl,hw⟩:=hw;subst e1;cases r;obtain⟨its,rv,ht,hz⟩:=I.tuple hq;refine assign_Tuple_tuple (I.ok.hd hc) ht (by simp[hn,<-hl,rv.length]) hst λh' hx=>?_
 have I1:Inv X pins σ H {s with heap:=h'}:=I.kept (t':=s.toks) λb o e=>hx b o (Bc (As e)) e
 exact h pins _ σ H xs _ Q I1 (by simpa using rv) hw
def eJY(to ti:TE)(t:cJ9):TG:=λv σ H Q=>to σ H λo H1=>ti σ H1 λi H2=>t o i v H2 λH3=>Q σ H3
def cZN{o i:Expr}{to ti:TE}{t:cJ9}(ho:PE X o to)(hi:PE X i ti)(hs:eZ7 X t)(ha:∀v,assign (.Subscript o i pos) X.env v=(do
 let ov <-holding [v] (eval o X.env)
 let iv <-holding [v,ov] (eval i X.env)
 standAt pos
 holding [v,ov,iv] (setItem ov iv v)
 release [v,ov,iv] []):=by intro _;rfl):PG X (.Subscript o i pos) (eJY to ti t):=by
 intro pins s σ H v u Q I r h;rw[ha];refine Af (Cm (thn (ho pins s σ H _ I h) λov s1 ⟨x,H1,I1,r1,q1⟩=>?_));refine Af (Cm (thn (hi pins s1 σ H1 _ I1 q1) λiv s2 ⟨y,H2,I2,r2,q2⟩=>?_));refine Af (Em (Af (Cm (thn (hs pins s2 σ H2 x y v ov iv u _ I2 r1 r2 r q2) λ_ s3 ⟨H3,I3,q3⟩=>?_))));exact wpAny_release ⟨σ,H3,I3,q3⟩
def cXY(te:TE)(g:TG):TS:=λD σ H=>te σ H λx H1=>g x σ H1 D.nx
def aJB(he:PE X e te)(hg:PG X tg g)(hs:swapsWithSole [tg] e pos.line X.env=pure false:=by rfl)(hw:swappedStores [tg] e X.env=pure none:=by rfl)(h1:(assignEach [tg] X.env).map (·.2)=[assign tg X.env]:=by rfl):PS X (.Assign [tg] e pos) (cXY te g):=by
 intro pins s σ H D I h;refine wpAny_Assign_stores (thn (he pins s σ H _ I h) λv s1 ⟨x,H1,I1,r1,q1⟩=>?_) hs hw;rw[h1];exact thn (hg pins s1 σ H1 x v _ I1 r1 q1) λ_ s2 q=>q
def aXV{i:Nat}{x:Str}{e:Expr}{te:TE}{pos':Pos}(hN:X.N.Nodup)(hi:X.N[i]?=some x)(hx:Loc X.env.scope x)(he:PE X e te)(hs:swapsWith e (some (.Name x pos')) pos.line X.env=pure false:=by rfl)(hf:X.fn x=true\/X.env.scope.names.lookup x=some .local:=by first|exact .inl rfl|exact .inr rfl|assumption):PS X (.Assign [.Name x pos'] e pos) (cXY te (jL i)):=by
 intro pins s σ H D I h;refine wpAny_Assign_Name (thn (he pins s σ H _ I h) λv s1 ⟨y,H1,I1,r1,q1⟩=>?_) hs;exact zG I1 hN hi hx r1 (λs2 I2=>⟨_,H1,I2,q1⟩) hf
end
def eXL(c:TT)(tb:TS):TS:=λD σ H=>∃W:Nat->St->Hp->Prop,(∃m,W m σ H)/\∀m σ H,W m σ H->
 c σ H λb H1=>if b=true then ∃N:St->Hp->Prop,(∀σ' H',N σ' H'->∃m',m' < m/\W m' σ' H')/\tb {D with nx:=N,ct:=N,bk:=D.nx} σ H1 else D.nx σ H1
def tJ{c:Expr}{tc:TT}{tb:TS}(hp:PassesOwn (model X.prog X.w) X.A X.env X.xe)(hc:PT X c tc)(hb:PSs X body tb):PS X (.While c body [] pos) (eXL tc tb):=by
 intro pins s σ H D I h;obtain⟨W,⟨m0,w0⟩,turn⟩:=h;refine wpAny_While (codeAny_whileLoop (λn s'=>∃σ' H',Inv X pins σ' H' s'/\W n σ' H') ?_ m0 ⟨σ,H,I,w0⟩);rintro n s1 ⟨σ1,H1,I1,w1⟩;refine Eh hp (thn (hc pins s1 σ1 H1 _ I1 (turn n σ1 H1 w1)) λb s2 ⟨H2,I2,q2⟩=>?_);cases b with
 |true=>
  obtain⟨N,hN,q2⟩:=q2;rw[if_pos rfl];refine Eh hp (thn (hb pins s2 σ1 H2 _ I2 q2) λf s3 q3=>?_);cases f with
  |next=>
   obtain⟨σ3,H3,I3,n3⟩:=q3;obtain⟨m',hm,w3⟩:=hN σ3 H3 n3;exact⟨m',hm,σ3,H3,I3,w3⟩
  |cont=>
   obtain⟨σ3,H3,I3,n3⟩:=q3;obtain⟨m',hm,w3⟩:=hN σ3 H3 n3;exact⟨m',hm,σ3,H3,I3,w3⟩
  |brk=>exact q3
  |ret v=>exact q3
 |false=>
  rw[if_neg Ar];exact wpAny_execs_nil ⟨σ1,H2,I2,q2⟩
structure It where
 go:Nat->Hp->Prop
 yld:Nat->Hp->V->Hp->Prop
 stop:Nat->Hp->Prop
def lE(X:Cx)(pins:List (Addr×Obj))(H:Hp)(b:Addr):Prop:=
 H b=none/\b≠X.env.locals/\b∉X.fs/\(b∈X.ex\/X.s₀.heap.objs.size<=b)/\(∀x c,X.env.cells.lookup x=some c->c≠b)/\∀p∈X.pn++pins,p.1≠b
def Inv.fpOk{H':Hp}(I:Inv X pins σ H s)(hb:s.heap.objs.size<=b)(hn:H' b=none):lE X pins H' b:=by
 refine⟨hn,Ec (Bb I.lt hb),I.nofs hb,.inr (Cc I.sz hb),λx c e z=>?_,λp hp z=>?_⟩
 ·obtain⟨v,q⟩:=I.cell x c e;exact absurd (Bb q.lt (by rw[z];exact hb)) (Dh _)
 ·exact absurd (Bb (As (I.pin p hp).1) (by rw[z];exact hb)) (Dh _)
structure Turn (P:Program) (w:World) (K:W.Frag) (tg:Expr) (J:It) (fp:List Addr) (it:Addr) (tn:Nat->Heap->Prop):Prop where
 mem:it∈fp
 obj:∀i h,tn i h->∀b∈fp,∃o,h.get? b=some o/\∀v,o.data≠.cell v
 keep:∀i h h',tn i h->(∀b∈fp,∀o,h.get? b=some o->h'.get? b=some o)->tn i h'
 item:∀(X:Cx),X.prog=P->X.w=w->X.K=K->X.calm=true->∀(i:Nat) (pins:Q2) (s:Shared) (σ:St) (H:Hp) (E:Q0),Inv X pins σ H s->(∀b∈fp,lE X pins H b)->tn i s.heap->J.go i H->
  wpAny (model P w) X.A (pyNext (.ref it)) (λr s1=>∃u,r=some u/\
   wpAny (model P w) X.A (letOwnedTupleGo tg (.ref it) u) (λ_ s2=>∃x H',Inv X pins σ H' s2/\RelV x u/\J.yld i H x H'/\tn (i+1) s2.heap/\∀b∈fp,H' b=none) E s1) E s
 done:∀(X:Cx),X.prog=P->X.w=w->X.K=K->X.calm=true->∀(i:Nat) (pins:Q2) (s:Shared) (σ:St) (H:Hp) (E:Q0),Inv X pins σ H s->(∀b∈fp,lE X pins H b)->tn i s.heap->J.stop i H->
  wpAny (model P w) X.A (pyNext (.ref it)) (λr s1=>r=none/\Inv X pins σ H s1) E s
 self:∀(A:Around) (i:Nat) (s:Shared) (Q:Q0) (E:Q0),tn i s.heap->Q (.ref it) s->wpAny (model P w) A (pyIter (.ref it)) Q E s
abbrev TI:=St->Hp->(It->Hp->Prop)->Prop
def PIE(X:Cx)(pins:List (Addr×Obj))(σ:St)(tg:Expr)(R:It->Hp->Prop)(itv:Value)(s2:Shared):Prop:=
 ∃(it:Addr) (fp:List Addr) (tn:Nat->Heap->Prop) (J:It) (H':Hp),itv=.ref it/\Inv X pins σ H' s2/\Turn X.prog X.w X.K tg J fp it tn/\tn 0 s2.heap/\(∀b∈fp,lE X pins H' b)/\R J H'
def PI(X:Cx)(tg iter:Expr)(wi:TI):Prop:=
 ∀(pins:Q2) (s:Shared) (σ:St) (H:Hp) (R:It->Hp->Prop),Inv X pins σ H s->wi σ H R->
  wpAny (model X.prog X.w) X.A (eval iter X.env) (λv s1=>wpAny (model X.prog X.w) X.A (pyIter v) (PIE X pins σ tg R) X.xe s1) X.xe s
def qY{s:Shared}{it:Addr}{o:Obj}{n:String}{vs:Array Value}{Q:Unit->Shared->Prop}(ho:s.heap.get? it=some o)(hc:o.cls=.type n)(hd:o.data=.fields vs)(hn:["enumerate", "zip", "dict_itemiterator", "dict_reverseitemiterator", "odict_iterator", "itertools.zip_longest", "itertools.pairwise"].contains n=false)(hQ:Q () s):wpAny M A (letOwnedTupleGo tg (.ref it) u) Q E s:=by
 unfold letOwnedTupleGo;cases tg<;>first
  |exact An hQ
  | (cases u <;> first
      |exact An hQ
      | (refine Af (wpAny_load ho ?_)
         rw[hc,hd];show wpAny M A (if (["enumerate", "zip", "dict_itemiterator", "dict_reverseitemiterator", "odict_iterator", "itertools.zip_longest", "itertools.pairwise"].contains n&&vs[0]? == some (rawInt _))=true then _ else _) Q E s
         rw[if_neg (by intro h;rw[hn,Fs]at h;cases h)]
         exact An hQ))
def Itl(K:W.Frag)(a:Addr):It:=
 ⟨λi H=>∃xs x,SqL K H a xs/\xs[i]?=some x,λi H x H'=>H'=H/\∀xs,SqL K H a xs->xs[i]?=some x,λi H=>∃xs,SqL K H a xs/\xs.length<=i⟩
def Itr(lo:Int)(n:Nat):It:=⟨λi _=>i<n,λi H x H'=>H'=H/\x=.int (lo+i),λi _=>n<=i⟩
def bZJ(a it:Addr):Turn P w K tg (Itl K a) [it] it (λi h=>h.IsListIter it a i) where
 mem:=by simp
 obj:=λi h st b hb=>by
  have e:b=it:=by simpa using hb
  subst e;obtain⟨o,e,c,d⟩:=st;exact⟨o,e,λv z=>by rw[d]at z;cases z⟩
 keep:=λi h h' st k=>st.at λo e=>k it (by simp) o e
 item:=by
  intro X hP hw hK hc i pins s σ H E I hf st hg;subst hP hw hK;obtain⟨xs,x,hq,hx⟩:=hg;obtain⟨its,rv,p,hz⟩:=I.list hq;obtain⟨u,hu,ru⟩:=rv.get hx;obtain⟨f0,f1,f2,f3,f4,f5⟩:=hf it (by simp)
  refine wpAny_pyNext_list_item st p.isList (x:=u) (by simpa using hu) λh' st' sb=>?_
  have I1:Inv X pins σ H {s with heap:=h'}:=I.turned (t':=s.toks) (λb o hb e=>(sb.2 b hb).trans e) f0 f1 f3 f4 f5
  obtain⟨o,e,c,d⟩:=id st';exact⟨u,rfl,qY (s:={s with heap:=h'}) e c d (by decide) ⟨x,H,I1,ru,⟨rfl,λys hy=>by rw[I.list_inj hy hq];exact hx⟩,st',λb hb=>(hf b hb).1⟩⟩
 done:=by
  intro X hP hw hK hc i pins s σ H E I hf st hg;subst hP hw hK;obtain⟨xs,hq,hx⟩:=hg;obtain⟨its,rv,p,hz⟩:=I.list hq;obtain⟨f0,f1,f2,f3,f4,f5⟩:=hf it (by simp)
  have hl:=rv.length
  exact wpAny_pyNext_list_end (I.ok.hd hc) st p.isList (by simp;omega) λh' eb=>⟨rfl,I.turned (t':=s.toks) (λb o hb e=>eb b o hb e) f0 f1 f3 f4 f5⟩
 self:=λ_ _ _ _ _ st h=>wpAny_pyIter_listiter st h
def aZZ{K:PySem.W.Frag}(it:Addr)(lo:Int)(n:Nat):Turn P w K tg (Itr lo n) [it] it (λi h=>IsRangeIter h it (lo+(i:Nat)*1) ((n:Int)-(i:Nat)) 1) where
 mem:=by simp
 obj:=λi h st b hb=>by
  have e:b=it:=by simpa using hb
  subst e;exact⟨_,st,λv z=>by
   have z':Data.fields _=Data.cell v:=z
   cases z'⟩
 keep:=λi h h' st k=>k it (by simp) _ st
 item:=by
  intro X hP hw hK hc i pins s σ H E I hf st hg;subst hP hw hK;obtain⟨f0,f1,f2,f3,f4,f5⟩:=hf it (by simp)
  have W:=Walks.range (prog:=X.prog) (w:=X.w) (I.ok.hd hc) it lo 1 n
  refine W.item i s _ _ hg st λv h' tk hv st' kk=>?_;obtain⟨t,rfl⟩:=hv;have I1:Inv X pins σ H {s with heap:=h',toks:=tk}:=I.turned (λb o hb e=>kk b o (by simpa using hb) e) f0 f1 f3 f4 f5
  refine⟨_,rfl,qY (s:={s with heap:=h',toks:=tk}) (n := "range_iterator") st' rfl rfl (by decide) ⟨.int (lo+i),H,I1,⟨t,?_⟩,⟨rfl,rfl⟩,st',λb hb=>(hf b hb).1⟩⟩
  rw[Int.mul_one]
 done:=by
  intro X hP hw hK hc i pins s σ H E I hf st hg;subst hP hw hK;obtain⟨f0,f1,f2,f3,f4,f5⟩:=hf it (by simp)
  exact wpAny_pyNext_range_end (I.ok.hd hc) st (by have:n<=i:=hg;omega) λh' eb=>⟨rfl,I.turned (t':=s.toks) (λb o hb e=>eb b o hb e) f0 f1 f3 f4 f5⟩
 self:=λ_ _ _ _ _ st h=>wpAny_pyIter_rangeiter st h
def aQX{R:It->Hp->Prop}{lo hi:Int}{t u v:Tok}{tk:Nat}(I:Inv X pins σ H s)(h1:-(2^62)<=lo)(h2:lo<2^62)(h3:-(2^62)<=hi)(h4:hi<2^62)(q:R (Itr lo (hi-lo).toNat) H):wpAny (model X.prog X.w) X.A (pyIter (.ref s.heap.objs.size)) (PIE X pins σ tg R) E {s with heap:=s.heap.push {cls:=.type "range",data:=.fields #[.int lo t,.int hi u,.int 1 v]},toks:=tk}:=by
 refine wpAny_pyIter_range (IsRange.new ..) (small_one h1 h2 h3 h4) ?_;have I1:Inv X pins σ H {s with heap:=s.heap.push {cls:=.type "range",data:=.fields #[.int lo t,.int hi u,.int 1 v]},toks:=tk}:=I.kept λb o e=>Ah _ e
 refine⟨(s.heap.push {cls:=.type "range",data:=.fields #[.int lo t,.int hi u,.int 1 v]}).objs.size,[(s.heap.push {cls:=.type "range",data:=.fields #[.int lo t,.int hi u,.int 1 v]}).objs.size],_,_,H,rfl,
  I1.kept (t':=tk) λb o e=>Ah _ e,aZZ _ lo (hi-lo).toNat,?_,λb hb=>?_,q⟩
 ·have e1:lo+((0:Nat):Int)*1=lo:=by simp
  have e2:(((hi-lo).toNat:Nat):Int)-((0:Nat):Int)=Builtin.Range.rangeSize lo hi 1:=by rw[rangeSize_one];split<;>omega
  show IsRangeIter _ _ (lo+((0:Nat):Int)*1) ((((hi-lo).toNat:Nat):Int)-((0:Nat):Int)) 1
  rw[e1,e2];exact Av _ rfl
 ·have e:b=(s.heap.push {cls:=.type "range",data:=.fields #[.int lo t,.int hi u,.int 1 v]}).objs.size:=by simpa using hb
  subst e;exact I1.fpOk (Ai _) (I1.hok.fresh (Ai _))
def fXH(wi:TI)(g:TG)(tb:TS):TS:=λD σ H=>wi σ H λJ H1=>∃W:Nat->Nat->St->Hp->Prop,(∃m,W 0 m σ H1)/\∀i m σ H,W i m σ H->
 (J.stop i H/\D.nx σ H)\/(J.go i H/\∃N:St->Hp->Prop,(∀σ' H',N σ' H'->∃m',m' < m/\W (i+1) m' σ' H')/\∀x H',J.yld i H x H'->g x σ H' λσ2 H2=>tb {D with nx:=N,ct:=N,bk:=D.nx} σ2 H2)
def oY(fp:List Addr)(h:Heap):List (Addr×Obj):=fp.filterMap λb=>(h.get? b).map λo=>(b,o)
def jF{o:Obj}(hb:b∈fp)(e:h.get? b=some o):(b,o)∈oY fp h:=Ca.mpr ⟨b,hb,by rw[e];rfl⟩
def bZ1{p:Addr×Obj}(hp:p∈oY fp h):p.1∈fp/\h.get? p.1=some p.2:=by
 obtain⟨b,hb,e⟩:=Ca.mp hp;cases q:h.get? b with
 |none=>rw[q]at e;cases e
 |some o=>
  rw[q]at e;have e':(b,o)=p:=Bg e
  subst e';exact⟨hb,q⟩
def Inv.pinned(I:Inv X pins σ H s)(hf:∀b∈fp,lE X pins H b)(ho:∀b∈fp,∃o,s.heap.get? b=some o/\∀v,o.data≠.cell v):Inv X (pins++oY fp s.heap) σ H s:=
 I.pins_of λp hp=>(By.mp hp).elim (λz=>I.pin p (Bv _ z)) λz=>by
  obtain⟨hb,e⟩:=bZ1 z;obtain⟨f0,f1,f2,_⟩:=hf p.1 hb;obtain⟨o,e',d⟩:=ho p.1 hb;rw[e]at e';cases e';exact⟨e,f0,f1,f2,d⟩
def Inv.unpinned{pl:Q2}(I:Inv X (pins++pl) σ H s):Inv X pins σ H s:=I.pins_of λp hp=>I.pin p (Bv _ (Dp _ hp))
def eQR{iter:Expr}{wi:TI}{tb:TS}(hp:PassesOwn (model X.prog X.w) X.A X.env X.xe)(hc:X.calm=true)(hi:PI X tg iter wi)(hg:PG X tg g)(hb:PSs X body tb)(hs:∀x,foldedSetIterable iter X.env x=pure x:=by intro _;rfl):PS X (.For tg iter body [] pos) (fXH wi g tb):=by
 intro pins s σ H D I h;refine wpAny_For (thn (hi pins s σ H _ I h) λv s1 h1=>thn h1 λitv s2 h2=>?_) hs;obtain⟨it,fp,tn,J,H2,e,I2,T,st2,f2,W,⟨m0,w0⟩,turn⟩:=h2;subst e
 -- what stays true of the iterator's objects through the loop
 have stat:∀ {H':Hp},(∀b∈fp,H' b=none)->∀b∈fp,lE X pins H' b:=λhn b hb=>⟨hn b hb,(f2 b hb).2⟩
 refine codeAny_forLoop_any (λn s'=>∃i σ' H',Inv X pins σ' H' s'/\tn i s'.heap/\(∀b∈fp,H' b=none)/\W i n σ' H') ?_ m0 ⟨0,σ,H2,I2,st2,λb hb=>(f2 b hb).1,w0⟩;rintro n s3 ⟨i,σ3,H3,I3,st3,fr3,w3⟩;rcases turn i n σ3 H3 w3 with⟨stop,qn⟩|⟨go,N,hN,step⟩
 ·refine Eh hp (thn (T.done X rfl rfl rfl hc i pins s3 σ3 H3 X.xe I3 (stat fr3) st3 stop) λr s4 ⟨hr,I4⟩=>?_);subst hr;exact wpAny_execs_nil ⟨σ3,H3,I4,qn⟩
 ·refine Eh hp (thn (T.item X rfl rfl rfl hc i pins s3 σ3 H3 X.xe I3 (stat fr3) st3 go) λr s4 ⟨u,hr,h4⟩=>?_);subst hr;refine Eh hp (thn h4 λ_ s5 ⟨x,H5,I5,r5,y5,st5,fr5⟩=>?_);have I5':=I5.pinned (stat fr5) (T.obj _ _ st5)
  refine Eh hp (thn (hg _ s5 σ3 H5 x u _ I5' r5 (step x H5 y5)) λ_ s6 ⟨σ6,H6,I6,q6⟩=>?_);refine Eh hp (thn (hb _ s6 σ6 H6 _ I6 q6) λf s7 q7=>?_);have again:∀ {σ7:St} {H7:Hp},Inv X (pins++oY fp s5.heap) σ7 H7 s7->N σ7 H7->∃m,m<n/\∃i σ' H',Inv X pins σ' H' s7/\tn i s7.heap/\(∀b∈fp,H' b=none)/\W i m σ' H':=fun {σ7 H7} I7 n7=>by
   obtain⟨m',hm,w7⟩:=hN σ7 H7 n7;refine⟨m',hm,i+1,σ7,H7,I7.unpinned,T.keep _ _ _ st5 λb hb o e=>(I7.pin (b,o) (Bv _ (Bv _ (jF hb e)))).1,λb hb=>?_,w7⟩;obtain⟨o,e,d⟩:=T.obj _ _ st5 b hb;exact(I7.pin (b,o) (Bv _ (Bv _ (jF hb e)))).2.1
  cases f with
  |next=>obtain⟨σ7,H7,I7,n7⟩:=q7;exact again I7 n7
  |cont=>obtain⟨σ7,H7,I7,n7⟩:=q7;exact again I7 n7
  |brk=>obtain⟨σ7,H7,I7,q7⟩:=q7;exact⟨σ7,H7,I7.unpinned,q7⟩
  |ret v=>obtain⟨x7,σ7,H7,I7,r7,q7⟩:=q7;exact⟨x7,σ7,H7,I7.unpinned,r7,q7⟩
def cX2{K:PySem.W.Frag}{tb:TS}{D:Ends}(Pv:Nat->St->Hp->Prop)(h0:Pv 0 σ H)(hl:∀i σ H,i<=xs.length->Pv i σ H->SqL K H a xs)(hs:∀i x σ H,xs[i]?=some x->Pv i σ H->g x σ H λσ2 H2=>tb {D with nx:=Pv (i+1),ct:=Pv (i+1),bk:=D.nx} σ2 H2)(hd:∀σ H,Pv xs.length σ H->D.nx σ H):∃W:Nat->Nat->St->Hp->Prop,(∃m,W 0 m σ H)/\∀i m σ H,W i m σ H->
 ((Itl K a).stop i H/\D.nx σ H)\/((Itl K a).go i H/\∃N:St->Hp->Prop,(∀σ' H',N σ' H'->∃m',m' < m/\W (i+1) m' σ' H')/\∀x H',(Itl K a).yld i H x H'->g x σ H' λσ2 H2=>tb {D with nx:=N,ct:=N,bk:=D.nx} σ2 H2):=by
 refine⟨λi m σ H=>m=xs.length-i/\i<=xs.length/\Pv i σ H,⟨xs.length,by simp,Nat.zero_le _,h0⟩,?_⟩
 rintro i m σ H ⟨rfl,hi,p⟩;have q:=hl i σ H hi p
 by_cases hlt:i<xs.length
 ·refine .inr ⟨⟨xs,xs[i],q,by simp[hlt]⟩,Pv (i+1),λσ' H' p'=>⟨xs.length-(i+1),by omega,rfl,hlt,p'⟩,λx H' y=>?_⟩
  obtain⟨e,y⟩:=y;subst e;exact hs i x σ _ (y xs q) p
 ·have e:i=xs.length:=by omega
  subst e;exact .inl ⟨⟨xs,q,Ai _⟩,hd σ H p⟩
def bXY{lo:Int}{n:Nat}{tb:TS}{D:Ends}(Pv:Nat->St->Hp->Prop)(h0:Pv 0 σ H)(hs:∀i σ H,i<n->Pv i σ H->g (.int (lo+i)) σ H λσ2 H2=>tb {D with nx:=Pv (i+1),ct:=Pv (i+1),bk:=D.nx} σ2 H2)(hd:∀σ H,Pv n σ H->D.nx σ H):∃W:Nat->Nat->St->Hp->Prop,(∃m,W 0 m σ H)/\∀i m σ H,W i m σ H->
 ((Itr lo n).stop i H/\D.nx σ H)\/((Itr lo n).go i H/\∃N:St->Hp->Prop,(∀σ' H',N σ' H'->∃m',m' < m/\W (i+1) m' σ' H')/\∀x H',(Itr lo n).yld i H x H'->g x σ H' λσ2 H2=>tb {D with nx:=N,ct:=N,bk:=D.nx} σ2 H2):=by
 refine⟨λi m σ H=>m=n-i/\i<=n/\Pv i σ H,⟨n,by simp,Nat.zero_le _,h0⟩,?_⟩
 rintro i m σ H ⟨rfl,hi,p⟩;by_cases hlt:i<n
 ·refine .inr ⟨hlt,Pv (i+1),λσ' H' p'=>⟨n-(i+1),by omega,rfl,hlt,p'⟩,λx H' y=>?_⟩
  obtain⟨e,y⟩:=y;subst e y;exact hs i σ _ hlt p
 ·have e:i=n:=by omega
  subst e;exact .inl ⟨Ai _,hd σ H p⟩
abbrev R2:=V->V->Hp->VK->Prop
def OpR(X:Cx)(f:Value->Value->Sem Value)(r:R2):Prop:=
 ∀(pins:Q2) (s:Shared) (σ:St) (H:Hp) (x y:V) (v u:Value) (Q:VK),Inv X pins σ H s->RelV x v->RelV y u->r x y H Q->
  wpAny (model X.prog X.w) X.A (f v u) (EP X pins σ Q) X.xe s
def UnR(X:Cx)(f:Value->Sem Value)(r:V->Hp->VK->Prop):Prop:=
 ∀(pins:Q2) (s:Shared) (σ:St) (H:Hp) (x:V) (v:Value) (Q:VK),Inv X pins σ H s->RelV x v->r x H Q->
  wpAny (model X.prog X.w) X.A (f v) (EP X pins σ Q) X.xe s
def CallR(X:Cx)(f:Value)(r:List V->Hp->VK->Prop):Prop:=
 ∀(pins:Q2) (s:Shared) (σ:St) (H:Hp) (xs:List V) (us:List Value) (Q:VK),Inv X pins σ H s->Vals xs us->r xs H Q->
  wpAny (model X.prog X.w) X.A (call f us) (EP X pins σ Q) X.xe s
def fXJ(X:Cx)(r:V->Hp->(Bool->Hp->Prop)->Prop):Prop:=
 ∀(pins:Q2) (s:Shared) (σ:St) (H:Hp) (x:V) (v:Value) (Q:Bool->Hp->Prop),Inv X pins σ H s->RelV x v->r x H Q->
  wpAny (model X.prog X.w) X.A (truthy v) (TP X pins σ Q) X.xe s
def tOp(r:R2)(ta tb:TE):TE:=λσ H Q=>ta σ H λx H1=>tb σ H1 λy H2=>r x y H2 Q
def tUn(r:V->Hp->VK->Prop)(ta:TE):TE:=λσ H Q=>ta σ H λx H1=>r x H1 Q
def rI(C:Int->Int->Prop)(g:Int->Int->V):R2:=λx y H Q=>∃i j,x=.int i/\y=.int j/\C i j/\Q (g i j) H
def rI0(g:Int->Int->V):R2:=λx y H Q=>∃i j,x=.int i/\y=.int j/\Q (g i j) H
def rU(g:Int->V):V->Hp->VK->Prop:=λx H Q=>∃i,x=.int i/\Q (g i) H
section
variable {a b:Expr}
def eQG(ha:PE X a ta)(hb:PE X b tb){R:V->V->Hp->Prop}(I:Inv X pins σ H s)(h:ta σ H λx H1=>tb σ H1 λy H2=>R x y H2)(hf:∀v u s2 x y H2,Inv X pins σ H2 s2->RelV x v->RelV y u->R x y H2->wpAny (model X.prog X.w) X.A (f v u) Q X.xe s2):wpAny (model X.prog X.w) X.A (eval a X.env) (λv s₁=>wpAny (model X.prog X.w) X.A (eval b X.env) (λu s₂=>wpAny (model X.prog X.w) X.A (f v u) Q X.xe s₂) X.xe s₁) X.xe s:=by
 refine thn (ha pins s σ H _ I h) λv s1 ⟨x,H1,I1,r1,q1⟩=>?_;refine thn (hb pins s1 σ H1 _ I1 q1) λu s2 ⟨y,H2,I2,r2,q2⟩=>?_;exact hf v u s2 x y H2 I2 r1 r2 q2
def aQ{op:Operator}{r:R2}(ho:OpR X (binaryOp op) r)(ha:PE X a ta)(hb:PE X b tb):PE X (.BinOp a op b pos) (tOp r ta tb):=by
 intro pins s σ H Q I h;exact wpAny_BinOp (eQG ha hb I h λv u s2 x y H2 I2 rx ry q=>ho pins s2 σ H2 x y v u Q I2 rx ry q)
def dZV{op:UnaryOp}{r:V->Hp->VK->Prop}(ho:UnR X (unaryOp op) r)(ha:PE X a ta):PE X (.UnaryOp op a pos) (tUn r ta):=by
 intro pins s σ H Q I h;exact UnaryOp_ (thn (ha pins s σ H _ I h) λv s1 ⟨x,H1,I1,r1,q1⟩=>ho pins s1 σ H1 x v Q I1 r1 q1)
def opI{C:Int->Int->Prop}{g:Int->Int->Int}(rule:∀(i j:Int) (t u:Tok) (s:Shared) (Q:Q0) (E:Q0),C i j->Q (.int (g i j) s.toks) {s with toks:=s.toks+1}->wpAny (model X.prog X.w) X.A (f (.int i t) (.int j u)) Q E s):OpR X f (rI C λi j=>.int (g i j)):=by
 intro pins s σ H x y v u Q I rx ry h;obtain⟨i,j,rfl,rfl,hc,q⟩:=h;obtain⟨t,rfl⟩:=rx;obtain⟨t',rfl⟩:=ry;exact rule i j t t' s _ _ hc ⟨.int (g i j),H,I.tok _,⟨_,rfl⟩,q⟩
def eJP{g:Int->Int->Int}(rule:∀(i j:Int) (t u:Tok) (s:Shared) (Q:Q0) (E:Q0),Q (.int (g i j) s.toks) {s with toks:=s.toks+1}->wpAny (model X.prog X.w) X.A (f (.int i t) (.int j u)) Q E s):OpR X f (rI0 λi j=>.int (g i j)):=by
 intro pins s σ H x y v u Q I rx ry h;obtain⟨i,j,rfl,rfl,q⟩:=h;obtain⟨t,rfl⟩:=rx;obtain⟨t',rfl⟩:=ry;exact rule i j t t' s _ _ ⟨.int (g i j),H,I.tok _,⟨_,rfl⟩,q⟩
def eXX{g:Int->Int->Bool}(rule:∀(i j:Int) (t u:Tok) (s:Shared) (Q:Q0) (E:Q0),Q (.bool (g i j)) s->wpAny (model X.prog X.w) X.A (f (.int i t) (.int j u)) Q E s):OpR X f (rI0 λi j=>.bl (g i j)):=by
 intro pins s σ H x y v u Q I rx ry h;obtain⟨i,j,rfl,rfl,q⟩:=h;obtain⟨t,rfl⟩:=rx;obtain⟨t',rfl⟩:=ry;exact rule i j t t' s _ _ ⟨.bl (g i j),H,I,rfl,q⟩
def eJK(i j:Int):Prop:=0<j/\j<1073741824
def CMul(i j:Int):Prop:=(-(2^64)<i/\i<2^64)\/(-(2^64)<j/\j<2^64)
def CMul.ok{i j:Int}(h:CMul i j):IntMulOk i j:=by
 rcases h with⟨h1,h2⟩|⟨h1,h2⟩
 ·exact .of_left (intBits_le_64 h1 h2)
 ·exact .of_right (intBits_le_64 h1 h2)
def eZF:OpR X (binaryOp .Add) (rI0 λi j=>.int (i+j)):=eJP λ_ _ _ _ _ _ _ q=>add_int q
def op_sub:OpR X (binaryOp .Sub) (rI0 λi j=>.int (i-j)):=eJP λ_ _ _ _ _ _ _ q=>sub_int q
def op_mul:OpR X (binaryOp .Mult) (rI CMul λi j=>.int (i*j)):=opI λ_ _ _ _ _ _ _ hc q=>mul_int q hc.ok
def op_fdiv:OpR X (binaryOp .FloorDiv) (rI eJK λi j=>.int (i / j)):=opI λi j _ _ _ _ _ hc q=>by
 have h1:(0:Int)<j:=hc.1
 have h2:j<1073741824:=hc.2
 exact floordiv_int (by omega) (by rw[Int.fdiv_eq_ediv_of_nonneg i (by omega)];exact q) (.inl (PyProof.noPylong_small (by omega)))
def op_mod:OpR X (binaryOp .Mod) (rI (λ_ j=>0<j) λi j=>.int (i%j)):=opI λi j _ _ _ _ _ hc q=>by
 have h1:(0:Int)<j:=hc
 exact mod_int' (by omega) (by rw[Int.fmod_eq_emod_of_nonneg i (by omega)];exact q)
def unI{f:Value->Sem Value}{g:Int->Int}(rule:∀(i:Int) (t:Tok) (s:Shared) (Q:Q0) (E:Q0),Q (.int (g i) s.toks) {s with toks:=s.toks+1}->wpAny (model X.prog X.w) X.A (f (.int i t)) Q E s):UnR X f (rU λi=>.int (g i)):=by
 intro pins s σ H x v Q I rx h;obtain⟨i,rfl,q⟩:=h;obtain⟨t,rfl⟩:=rx;exact rule i t s _ _ ⟨.int (g i),H,I.tok _,⟨_,rfl⟩,q⟩
def eZC:UnR X (unaryOp .USub) (rU λi=>.int (-i)):=unI λ_ _ _ _ _ q=>neg_int q
end
def dXP:V->V->Bool
 |.non,.non=>true|.non,.int _=>true|.int _,.non=>true|.non,.bl _=>true|.bl _,.non=>true|.non,.str _=>true|.str _,.non=>true
 |.int _,.int _=>true|.bl _,.bl _=>true|.str _,.str _=>true|.byt _,.byt _=>true
 |.int _,.str _=>true|.str _,.int _=>true|.bl _,.str _=>true|.str _,.bl _=>true
 |_,_=>false
def rEq:R2:=λx y H Q=>dXP x y=true/\Q (.bl (decide (x=y))) H
def rNe:R2:=λx y H Q=>dXP x y=true/\Q (.bl (!decide (x=y))) H
def aJS{i j:Int}:decide (V.int i=V.int j)=(i==j):=by
 rw[Fc];simp
def cXG{i j:Bool}:decide (V.bl i=V.bl j)=(i==j):=by
 rw[Fc];simp
def xX{i j:Str}:decide (V.str i=V.str j)=(i==j):=by
 rw[Fc];simp
def aJZ{i j:Array UInt8}:decide (V.byt i=V.byt j)=(i.toList==j.toList):=by
 rw[Fc];cases i;cases j;simp
section
variable {a b:Expr}
def bL{Q:VK}{k k':Bool}(I:Inv X pins σ H s)(q:Q (.bl k) H)(e:k=k'):EP X pins σ Q (.bool k') s:=by
 subst e;exact⟨.bl k,H,I,rfl,q⟩
def eJQ:OpR X (compareOp .Eq) rEq:=by
 intro pins s σ H x y v u Q I rx ry h;obtain⟨hs,q⟩:=h;cases x with
 |non=>
  cases rx;cases y with
  |non=>cases ry;exact PySem.EqNone.eq_none_none (bL I q (by simp))
  |bl j=>cases ry;exact PySem.EqNone.eq_none_bool (bL I q (by simp))
  |int j=>obtain⟨t',rfl⟩:=ry;exact PySem.EqNone.eq_none_int (bL I q (by simp))
  |str j=>obtain⟨t',rfl⟩:=ry;exact PySem.EqNone.eq_none_str (bL I q (by simp))
  |_=>exact absurd (show false=true from hs) Ar
 |bl i=>
  cases rx;cases y with
  |non=>cases ry;exact PySem.EqNone.eq_bool_none (bL I q (by simp))
  |bl j=>cases ry;exact eq_bool (bL I q cXG)
  |str j=>obtain⟨t',rfl⟩:=ry;exact PySem.EqMixed.eq_bool_str (bL I q (by simp))
  |_=>exact absurd (show false=true from hs) Ar
 |int i=>
  obtain⟨t,rfl⟩:=rx;cases y with
  |non=>cases ry;exact PySem.EqNone.eq_int_none (bL I q (by simp))
  |int j=>obtain⟨t',rfl⟩:=ry;exact eq_int (bL I q aJS)
  |str j=>obtain⟨t',rfl⟩:=ry;exact PySem.EqMixed.eq_int_str (bL I q (by simp))
  |_=>exact absurd (show false=true from hs) Ar
 |str i=>
  obtain⟨t,rfl⟩:=rx;cases y with
  |non=>cases ry;exact PySem.EqNone.eq_str_none (bL I q (by simp))
  |bl j=>cases ry;exact PySem.EqMixed.eq_str_bool (bL I q (by simp))
  |int j=>obtain⟨t',rfl⟩:=ry;exact PySem.EqMixed.eq_str_int (bL I q (by simp))
  |str j=>obtain⟨t',rfl⟩:=ry;exact eq_str (bL I q xX)
  |_=>exact absurd (show false=true from hs) Ar
 |byt i=>
  obtain⟨t,rfl⟩:=rx;cases y with
  |byt j=>obtain⟨t',rfl⟩:=ry;exact W.eq_bytes (bL I q aJZ)
  |_=>exact absurd (show false=true from hs) Ar
 |_=>cases y<;>exact absurd (show false=true from hs) Ar
def eZP:OpR X (compareOp .NotEq) rNe:=by
 intro pins s σ H x y v u Q I rx ry h;obtain⟨hs,q⟩:=h;cases x with
 |non=>
  cases rx;cases y with
  |non=>cases ry;exact PySem.EqNone.ne_none_none (bL I q (by simp))
  |bl j=>cases ry;exact PySem.EqNone.ne_none_bool (bL I q (by simp))
  |int j=>obtain⟨t',rfl⟩:=ry;exact PySem.EqNone.ne_none_int (bL I q (by simp))
  |str j=>obtain⟨t',rfl⟩:=ry;exact PySem.EqNone.ne_none_str (bL I q (by simp))
  |_=>exact absurd (show false=true from hs) Ar
 |bl i=>
  cases rx;cases y with
  |non=>cases ry;exact PySem.EqNone.ne_bool_none (bL I q (by simp))
  |bl j=>cases ry;exact ne_bool (bL I q (Dm not cXG))
  |str j=>obtain⟨t',rfl⟩:=ry;exact PySem.EqMixed.ne_bool_str (bL I q (by simp))
  |_=>exact absurd (show false=true from hs) Ar
 |int i=>
  obtain⟨t,rfl⟩:=rx;cases y with
  |non=>cases ry;exact PySem.EqNone.ne_int_none (bL I q (by simp))
  |int j=>obtain⟨t',rfl⟩:=ry;exact ne_int (bL I q (Dm not aJS))
  |str j=>obtain⟨t',rfl⟩:=ry;exact PySem.EqMixed.ne_int_str (bL I q (by simp))
  |_=>exact absurd (show false=true from hs) Ar
 |str i=>
  obtain⟨t,rfl⟩:=rx;cases y with
  |non=>cases ry;exact PySem.EqNone.ne_str_none (bL I q (by simp))
  |bl j=>cases ry;exact PySem.EqMixed.ne_str_bool (bL I q (by simp))
  |int j=>obtain⟨t',rfl⟩:=ry;exact PySem.EqMixed.ne_str_int (bL I q (by simp))
  |str j=>obtain⟨t',rfl⟩:=ry;exact ne_str (bL I q (Dm not xX))
  |_=>exact absurd (show false=true from hs) Ar
 |byt i=>
  obtain⟨t,rfl⟩:=rx;cases y with
  |byt j=>obtain⟨t',rfl⟩:=ry;exact W.ne_bytes (bL I q (Dm not aJZ))
  |_=>exact absurd (show false=true from hs) Ar
 |_=>cases y<;>exact absurd (show false=true from hs) Ar
def op_lt:OpR X (compareOp .Lt) (rI0 λi j=>.bl (decide (i<j))):=eXX λ_ _ _ _ _ _ _ q=>lt_int q
def op_le:OpR X (compareOp .LtE) (rI0 λi j=>.bl (decide (i<=j))):=eXX λ_ _ _ _ _ _ _ q=>le_int q
def op_gt:OpR X (compareOp .Gt) (rI0 λi j=>.bl (decide (j<i))):=eXX λ_ _ _ _ _ _ _ q=>gt_int q
def op_in_str:OpR X (compareOp .In) (λx y H Q=>∃i j,x=.str i/\y=.str j/\Q (.bl (!(Builtin.Str.occurrences j i 0 j.length 1).isEmpty)) H):=by
 intro pins s σ H x y v u Q I rx ry h;obtain⟨i,j,rfl,rfl,q⟩:=h;obtain⟨t,rfl⟩:=rx;obtain⟨t',rfl⟩:=ry;exact in_str (bL I q rfl)
def op_isN:OpR X (compareOp .Is) (λx y H Q=>y=.non/\Q (.bl (decide (x=.non))) H):=by
 intro pins s σ H x y v u Q I rx ry h;obtain⟨rfl,q⟩:=h;cases ry;refine is_none_gen (bL I q ?_);cases x<;>first
  |(cases rx;rfl)
  |(obtain⟨t,rfl⟩:=rx;rfl)
def op_notN:OpR X (compareOp .IsNot) (λx y H Q=>y=.non/\Q (.bl (!decide (x=.non))) H):=by
 intro pins s σ H x y v u Q I rx ry h;obtain⟨rfl,q⟩:=h;cases ry;refine isnot_none_gen (bL I q ?_);cases x<;>first
  |(cases rx;rfl)
  |(obtain⟨t,rfl⟩:=rx;rfl)
def bB(b:Expr){op:CmpOp}(h:op≠.In:=by decide)(h2:op≠.NotIn:=by decide):behindInMarks op b=false:=by
 have e1:(op==CmpOp.In)=false:=by cases op<;>first|rfl|exact absurd rfl h
 have e2:(op==CmpOp.NotIn)=false:=by cases op<;>first|rfl|exact absurd rfl h2
 cases b<;>simp[behindInMarks,e1,e2]
def fD{op:CmpOp}{r:R2}(ho:OpR X (compareOp op) r)(ha:PE X a ta)(hb:PE X b tb)(hm:behindInMarks op b=false):PE X (.Compare a [op] [b] pos) (tOp r ta tb):=by
 intro pins s σ H Q I h;exact wpAny_Compare1 (eQG ha hb I h λv u s2 x y H2 I2 rx ry q=>ho pins s2 σ H2 x y v u Q I2 rx ry q) hm
def eZ8(K:W.Frag)(x:V)(H:Hp)(k:Bool):Prop:=
 match x with
 |.non=>k=false
 |.bl b=>k=b
 |.int i=>k=(i != 0)
 |.str y=>y.length<=sizeLine/\k=((y.length:Int) != 0)
 |.byt y=>y.size<=sizeLine/\k=((y.size:Int) != 0)
 |.ref p=>(∃xs,SqL K H p xs/\k=!xs.isEmpty)\/(∃xs,SqT K H p xs/\k=!xs.isEmpty)\/∃kvs,H p=some (.dK kvs)/\k=!kvs.isEmpty
 |_=>False
def aJJ{κ:Type}{kvs:List (κ×V)}{vs:List (κ×Value)}(r:KV kvs vs):(!vs.isEmpty)=!kvs.isEmpty:=by
 cases r<;>rfl
def rD{its:List Value}(r:Vals xs its):(!its.toArray.isEmpty)=!xs.isEmpty:=by
 cases r<;>simp
def iW:(sizeLine:Nat)<2^63:=by rw[Hb];decide
def eXU:fXJ X (λx H Q=>∃k,eZ8 X.K x H k/\Q k H):=by
 intro pins s σ H x v Q I rx h;obtain⟨k,e,q⟩:=h;have hl:=iW
 have hs:sizeLine=16777216:=Hb
 cases x with
 |non=>
  cases rx;have e':k=false:=e
  subst e';exact truthy_none ⟨H,I,q⟩
 |bl b=>
  cases rx;have e':k=b:=e
  subst e';exact Fm ⟨H,I,q⟩
 |int i=>
  obtain⟨t,rfl⟩:=rx;have e':k=(i != 0):=e
  subst e';exact PySem.P.truthy_int ⟨H,I,q⟩
 |str y=>
  obtain⟨t,rfl⟩:=rx;obtain⟨hy,e'⟩:y.length<=sizeLine/\k=((y.length:Int) != 0):=e;subst e';exact PySem.P.truthy_str (by omega) ⟨H,I.tok _,q⟩
 |byt y=>
  obtain⟨t,rfl⟩:=rx;obtain⟨hy,e'⟩:y.size<=sizeLine/\k=((y.size:Int) != 0):=e;subst e';exact W.truthy_bytes (by omega) ⟨H,I.tok _,q⟩
 |ref p=>
  cases rx;have e':(∃xs,SqL X.K H p xs/\k=!xs.isEmpty)\/(∃xs,SqT X.K H p xs/\k=!xs.isEmpty)\/∃kvs,H p=some (.dK kvs)/\k=!kvs.isEmpty:=e
  rcases e' with⟨xs,hx,e'⟩|⟨xs,hx,e'⟩|⟨kvs,hx,e'⟩
  ·subst e';obtain⟨its,r,pl,hz⟩:=I.list hx;have hlen:=r.length
   exact wpAny_truthy_list pl.isList (by simp only[List.size_toArray];omega) ⟨H,I.tok _,by rw[rD r];exact q⟩
  ·subst e';obtain⟨its,r,pl,hz⟩:=I.tuple hx;have hlen:=r.length
   exact truthy_tuple pl (by simp only[List.size_toArray];omega) ⟨H,I.tok _,by rw[rD r];exact q⟩
  ·subst e';obtain⟨hz,hS,vs,r,m⟩:kvs.length<=sizeLine/\(p==sysModules)=false/\∃vs,KV kvs vs/\s.heap.DictOf (bC X.prog X.w) p vs:=I.hok p _ hx;have hlen:kvs.length=vs.length:=Paired.length r
   exact wpAny_truthy_dict hS m (by omega) ⟨H,I.tok _,by rw[aJJ r];exact q⟩
 |_=>exact(show False from e).elim
def aX3:OpR X (binaryOp .Add) (λx y H Q=>∃i j,x=.str i/\y=.str j/\i.length+j.length<=sizeLine/\Q (.str (i++j)) H):=by
 intro pins s σ H x y v u Q I rx ry h;obtain⟨i,j,rfl,rfl,hz,q⟩:=h;obtain⟨t,rfl⟩:=rx;obtain⟨t',rfl⟩:=ry;exact add_str (λt' tk=>⟨.str (i++j),H,I.tok _,⟨_,rfl⟩,q⟩) hz
def dA{x:V}(r:Vals [x] us):∃u,us=[u]/\RelV x u:=by
 cases r with
 |cons r1 r2=>cases r2;exact⟨_,rfl,r1⟩
def aJO{x y:V}(r:Vals [x,y] us):∃u w',us=[u,w']/\RelV x u/\RelV y w':=by
 cases r with
 |cons r1 r2=>
  cases r2 with
  |cons r3 r4=>cases r4;exact⟨_,_,rfl,r1,r3⟩
def call_int1:CallR X (.type "int") (λxs H Q=>(∃i,xs=[.int i]/\Q (.int i) H)\/∃k,xs=[.bl k]/\Q (.int (if k then 1 else 0)) H):=by
 intro pins s σ H xs us Q I r h;rcases h with⟨i,rfl,q⟩|⟨k,rfl,q⟩
 ·obtain⟨u,rfl,t,rfl⟩:=dA r;exact call_int_int ⟨.int i,H,I,⟨_,rfl⟩,q⟩
 ·obtain⟨u,rfl,r1⟩:=dA r;cases r1;exact call_int_bool ⟨.int (if k then 1 else 0),H,I.tok _,⟨_,rfl⟩,q⟩
def fQ2(K:W.Frag)(x:V)(H:Hp)(n:Nat):Prop:=
 match x with
 |.str y=>y.length<=sizeLine/\n=y.length
 |.byt y=>y.size<=sizeLine/\n=y.size
 |.ref p=>(∃xs,SqL K H p xs/\n=xs.length)\/∃xs,SqT K H p xs/\n=xs.length
 |_=>False
def call_len:CallR X (.builtin "len") (λxs H Q=>∃x n,xs=[x]/\fQ2 X.K x H n/\Q (.int n) H):=by
 intro pins s σ H xs us Q I r h;obtain⟨x,n,rfl,e,q⟩:=h;obtain⟨u,rfl,rx⟩:=dA r;have hl:=iW
 have hs:sizeLine=16777216:=Hb
 cases x with
 |str y=>
  obtain⟨t,rfl⟩:=rx;obtain⟨hy,e'⟩:y.length<=sizeLine/\n=y.length:=e;subst e';exact len_str (by omega) ⟨.int _,H,I.tok _,⟨_,rfl⟩,q⟩
 |byt y=>
  obtain⟨t,rfl⟩:=rx;obtain⟨hy,e'⟩:y.size<=sizeLine/\n=y.size:=e;subst e';exact W.len_bytes (by omega) ⟨.int _,H,I.tok _,⟨_,rfl⟩,q⟩
 |ref p=>
  cases rx;have e':(∃xs,SqL X.K H p xs/\n=xs.length)\/∃xs,SqT X.K H p xs/\n=xs.length:=e
  rcases e' with⟨xs,hx,e'⟩|⟨xs,hx,e'⟩
  ·subst e';obtain⟨its,r',pl,hz⟩:=I.list hx;have hlen:=r'.length
   exact Calls.call_len_list pl.isList (by simp only[List.size_toArray];omega) ⟨.int xs.length,H,I.tok _,⟨_,by simp only[List.size_toArray];rw[hlen]⟩,q⟩
  ·subst e';obtain⟨its,r',pl,hz⟩:=I.tuple hx;have hlen:=r'.length
   exact len_tuple pl (by simp only[List.size_toArray];omega) ⟨.int xs.length,H,I.tok _,⟨_,by simp only[List.size_toArray];rw[hlen]⟩,q⟩
 |_=>exact(show False from e).elim
end
structure ObjM (h:Heap) (x dx C:Addr) (mA:Str->Option Value):Prop where
 obj:h.get? x=some (W.instObj C dx)
 ns:h.Ns1 dx mA
 ne:dx≠x
def bX7{mA:Q5}(n:h.Ns1 dx mA):∃od,h.get? dx=some od/\∀name,W.lookIn name od=some (mA name):=by
 obtain⟨o,es,ep,ho,hd,hk,_,hm⟩:=n;refine⟨o,ho,λname=>?_⟩;have e:=hm name
 unfold nsFind findBy at e;rw[<-Array.find?_toList]at e;unfold W.lookIn;rw[hd];dsimp only;split
 ·rename_i y q
  rw[q]at e;exact Dm some e
 ·rename_i q
  rw[q]at e;have a:es.toList.any (·.refKey)=false:=by
   rw[List.any_eq_false];intro y hy;obtain⟨z,t,hkey⟩:=hk y (Array.mem_toList_iff.mp hy);simp[DictEntry.refKey,hkey]
  have a':¬es.toList.any (·.refKey)=true:=by rw[a];exact Ar
  rw[if_neg a'];exact Dm some e
def ObjM.look{x:Addr}{mA:Q5}(I:ObjM h x dx C mA):∃od,W.InstAt h x (W.instObj C dx) C (some od)/\∀name,W.lookIn name od=some (mA name):=
 let ⟨od,ho,hl⟩:=bX7 I.ns
 ⟨od,⟨I.obj,rfl,rfl,ho⟩,hl⟩
section
variable {prog:Program} {x f:Addr} {mA:Q5} {name:Str} {v:Value}
def dQK{expr:Bool}(X:K.In s.heap)(I:ObjM s.heap x dx C mA)(hg:W.plainGet K C name=true)(hh:W.hasDictIn K C=true)(ha:W.findIn K (.ref C) name=some none)(hv:mA name=some v)(hv':W.handedIn v=true)(h:Q v {s with toks:=s.toks+1}):wpAny (model prog w) A (getAttr (.ref x) name expr) Q E s:=by
 obtain⟨od,J,hl⟩:=I.look;exact W.get_value X J (W.plainGet_of hg).1 (W.findObj_own hh ha rfl (by rw[hl,hv])) hv' h
def bJE{Q:Value×List Value->Shared->Prop}(X:K.In s.heap)(I:ObjM s.heap x dx C mA)(hg:W.plainGet K C name=true)(hf:W.findIn K (.ref C) name=some (some (.ref f)))(ht:W.isFn K (.ref f)=true)(hv:mA name=none)(h:Q (.ref f,[.ref x]) s):wpAny (model prog w) A (getMethod (.ref x) name pl) Q E s:=by
 obtain⟨od,J,hl⟩:=I.look;exact W.method_fn X J (W.plainGet_of hg).1 (W.plainGet_of hg).2 hf (beq_iff_eq.mp ht) (by show (W.lookIn name od).map (·.isSome)=some false;rw[hl,hv];rfl) h
def dX5{ns:List Str}{Q:Unit->Shared->Prop}(X:K.In s.heap)(I:ObjM s.heap x dx C mA)(hs:W.findIn K (.ref C) "__setattr__"=some (some (.builtin "object.__setattr__")))(hp:W.plainOver K C=true)(ht:W.takerIn K C name=some none)(hh:W.hasDictIn K C=true)(hw:PySem.Within mA ns)(hsz:ns.length<=sizeLine)(h:∀h',ObjM h' x dx C (λy=>if y=name then some v else mA y)->Heap.SameBut dx s.heap h'->Q () {s with heap:=h',toks:=s.toks+2}):wpAny (model prog w) A (setAttr (.ref x) name v) Q E s:=by
 obtain⟨od,J,hl⟩:=I.look;refine W.set_plain X J hs (W.osa_open (s:={s with toks:=s.toks+1}) (r:=none) X J hp ht λb=>?_)
 obtain⟨cd,hc,hd'⟩:=W.any_some hh;have hx:s.heap.get? x=some ⟨.ref C,some dx,.plain,#[]⟩:=I.obj
 refine Af (An (Af (Af (wpAny_loadPart hx (Af (W.Looks.here (s:={s with toks:=s.toks+1}) (W.looks_clsIn X hc) ?_))))))
 rw[hd'];refine An (a:=some dx) (Af (An (Af ?_)));refine wpAny_nsSet1 (s:={s with toks:=s.toks+1}) I.ns λh' hn2 hs2=>?_
 obtain⟨oD,esD,epD,hoD,hdD,hcD⟩:=hn2.count (PySem.Within.cons name v hw);refine Af (wpAny_lookBehind hoD (by rw[hdD];exact pastItsLine_dict (Cc hcD (by rw[Aw];omega))) ?_)
 exact An (h _ ⟨(hs2.2 _ (Ne.symm I.ne)).trans I.obj,hn2,I.ne⟩ hs2)
def cJE{R:Result->Shared->Prop}{vs:List Value}(X:K.In s.heap)(hm:W.makesIn K C=true)(hi:W.findIn K (.ref C) "__init__"=some (some (.ref f)))(hf:W.typeIn K (.ref f)=some (.type "function"))(h:codeAny (model prog w) (A.under (.builtin "type.__call__" ⟨.ref C::vs,kw⟩)) (.call (.ref f) ⟨.ref (s.heap.objs.size+1)::vs,kw⟩) (W.InitBack (s.heap.objs.size+1) R)
 {s with heap:=(s.heap.push W.emptyDict).push (W.instObj C s.heap.objs.size)}):codeAny (model prog w) A (.call (.ref C) ⟨vs,kw⟩) R s:=by
 obtain⟨hh,g,d,t,os⟩:=s;exact W.make_core (W.makes_of X hm) (W.looks_findIn X hi) (λself=>W.bind_fn X self hf) (.inl rfl) h
end
def fI(f:Str)(v:V):List (Str×V)->List (Str×V)
 |[]=>[(f,v)]
 |(g,x)::r=>if g=f then (g,v)::r else (g,x)::fI f v r
def pO(f g:Str)(v:V):∀fs:List (Str×V),(fI f v fs).lookup g=if g=f then some v else fs.lookup g
 |[]=>by
  show List.lookup g [(f,v)]=_
  by_cases h:g=f
  ·have hb:(g==f)=true:=beq_iff_eq.mpr h
   simp only[List.lookup,hb,if_pos h]
  ·have hb:(g==f)=false:=Ct.mpr h
   simp only[List.lookup,hb,if_neg h]
 |(k,x)::r=>by
  have ih:=pO f g v r
  rw[show fI f v ((k,x)::r)=(if k=f then (k,v)::r else (k,x)::fI f v r) from rfl]
  by_cases hk:k=f
  ·rw[if_pos hk];by_cases h:g=k
   ·have hb:(g==k)=true:=beq_iff_eq.mpr h
    simp only[List.lookup,hb,if_pos (h.trans hk)]
   ·have hb:(g==k)=false:=Ct.mpr h
    simp only[List.lookup,hb,if_neg (λe:g=f=>h (e.trans hk.symm))]
  ·rw[if_neg hk];by_cases h:g=k
   ·have hb:(g==k)=true:=beq_iff_eq.mpr h
    simp only[List.lookup,hb,if_neg (λe:g=f=>hk (h.symm.trans e))]
   ·have hb:(g==k)=false:=Ct.mpr h
    simp only[List.lookup,hb];exact ih
def oZ(f:Str)(v:V):∀fs:List (Str×V),f∈(fI f v fs).map (·.1)/\∀g,g∈fs.map (·.1)->g∈(fI f v fs).map (·.1)
 |[]=>⟨by simp[fI],λg h=>by simp at h⟩
 |(k,x)::r=>by
  obtain⟨i1,i2⟩:=oZ f v r;rw[show fI f v ((k,x)::r)=(if k=f then (k,v)::r else (k,x)::fI f v r) from rfl]
  by_cases hk:k=f
  ·rw[if_pos hk];subst hk;exact⟨by simp,λg h=>by simpa using h⟩
  ·rw[if_neg hk];refine⟨?_,λg h=>?_⟩
   ·rw[Au];exact Aj _ i1
   ·rw[Au]at h ⊢;rcases Be.mp h with e|e
    ·exact Be.mpr (.inl e)
    ·exact Aj _ (i2 g e)
def pR(f:Str)(v:V):∀fs:List (Str×V),(fI f v fs).length<=fs.length+1
 |[]=>by simp[fI]
 |(k,x)::r=>by
  have ih:=pR f v r
  rw[show fI f v ((k,x)::r)=(if k=f then (k,v)::r else (k,x)::fI f v r) from rfl]
  by_cases hk:k=f
  ·rw[if_pos hk,Aw,Aw];omega
  ·rw[if_neg hk,Aw,Aw];omega
def RelO.some_of{v:V}{o:Option Value}(r:RelO (some v) o):∃u,o=some u/\RelV v u:=by
 cases o with
 |none=>exact(show False from r).elim
 |some u=>exact⟨u,rfl,r⟩
def RelO.none_of{o:Option Value}(r:RelO none o):o=none:=by
 cases o with
 |none=>rfl
 |some u=>exact(show False from r).elim
def bX3(r:RelV v u):W.handedIn u=true:=by
 cases v with
 |non=>cases (show u=Value.none from r);rfl
 |bl b=>cases (show u=Value.bool b from r);rfl
 |int i=>obtain⟨t,e⟩:=(show ∃t,u=Value.int i t from r);cases e;rfl
 |str x=>obtain⟨t,e⟩:=(show ∃t,u=Value.str x t from r);cases e;rfl
 |byt b=>obtain⟨t,e⟩:=(show ∃t,u=Value.bytes b t from r);cases e;rfl
 |flt b=>obtain⟨t,e⟩:=(show ∃t,u=Value.float b t from r);cases e;rfl
 |ref a=>cases (show u=Value.ref a from r);rfl
 |ty n=>cases (show u=Value.type n from r);rfl
section
variable {fs:List (Str×V)}
def xY(hok:HOk P w H h)(e:H a=some (.ins C dx fs)):∃mA,ObjM h a dx C mA/\(∀f,RelO (fs.lookup f) (mA f))/\PySem.Within mA (fs.map (·.1))/\fs.length<=1000/\H dx=some (.own a):=by
 obtain⟨d,z,ne,ob,mA,n,r,q⟩:=(show ObjOk P w H h a (.ins C dx fs) from hok a _ e);exact⟨mA,⟨ob,n,ne⟩,r,q,z,d⟩
end
structure Cls (K:W.Frag) (C:Addr):Prop where
 pg:W.plainGet K C Str.empty=true
 hd:W.hasDictIn K C=true
 po:W.plainOver K C=true
 sa:W.findIn K (.ref C) "__setattr__"=some (some (.builtin "object.__setattr__"))
def Cls.get(c:Cls K C)(f:Str):W.plainGet K C f=true:=c.pg
def NoAttr(K:W.Frag)(C:Addr)(f:Str):Prop:=W.findIn K (.ref C) f=some none
def NoAttr.taker{f:Str}(n:NoAttr K C f):W.takerIn K C f=some none:=by
 unfold W.takerIn;rw[show W.findIn K (.ref C) f=some none from n];rfl
structure Meth (K:W.Frag) (C:Addr) (m:Str) (f:Addr):Prop where
 at_:W.findIn K (.ref C) m=some (some (.ref f))
 fn:W.isFn K (.ref f)=true
 kp:W.keepIn K (.ref f)=true
section
variable {fs:List (Str×V)} {f:Str}
def aXL{b:Bool}(I:Inv X pins σ H s)(e:H a=some (.ins C dx fs))(c:Cls X.K C)(n:NoAttr X.K C f)(l:fs.lookup f=some v)(h:∀u s',Inv X pins σ H s'->RelV v u->Q u s'):wpAny (model X.prog X.w) A (getAttr (.ref a) f b) Q E s:=by
 obtain⟨mA,O,r,_,_,_⟩:=xY I.hok e;obtain⟨u,hu,ru⟩:=RelO.some_of (v:=v) (o:=mA f) (by rw[<-l];exact r f)
 exact dQK I.kIn O (c.get f) c.hd n hu (bX3 ru) (h u _ (I.tok _) ru)
def mS{m:Str}{g:Addr}{Q:Value×List Value->Shared->Prop}(I:Inv X pins σ H s)(e:H a=some (.ins C dx fs))(c:Cls X.K C)(k:Meth X.K C m g)(l:fs.lookup m=none)(h:Q (.ref g,[.ref a]) s):wpAny (model X.prog X.w) A (getMethod (.ref a) m pl) Q E s:=by
 obtain⟨mA,O,r,_,_,_⟩:=xY I.hok e;have hn:mA m=none:=RelO.none_of (by rw[<-l];exact r m)
 exact bJE I.kIn O (c.get m) k.at_ k.fn hn h
def aZ7{y:V}{Q:Unit->Shared->Prop}(I:Inv X pins σ H s)(e:H a=some (.ins C dx fs))(c:Cls X.K C)(n:NoAttr X.K C f)(hl:fs.length<1000)(ry:RelV y u)(h:∀s',Inv X pins σ (upd H a (.ins C dx (fI f y fs))) s'->Q () s'):wpAny (model X.prog X.w) A (setAttr (.ref a) f u) Q E s:=by
 obtain⟨mA,O,r,wi,_,ho⟩:=xY I.hok e;have hz:(fs.map (·.1)).length<=sizeLine:=by rw[Ab,Hb];omega
 refine dX5 I.kIn O c.sa c.po n.taker c.hd wi hz λh' O' sb=>h _ ?_;have hd:∃o,h'.get? dx=some o:=let ⟨o,_,_,e',_⟩:=O'.ns;⟨o,e'⟩
 refine I.write (x:=a) (e:=dx) (by rw[e];exact True.intro) (.inr ho) (λb q hb z=>(sb.2 b hb).trans z) hd ?_
 refine⟨by rw[aG O.ne];exact ho,?_,O.ne,O'.obj,_,O'.ns,λg=>?_,λg hg=>?_⟩
 ·have:=pR f y fs;omega
 ·show RelO ((fI f y fs).lookup g) (if g=f then some u else mA g)
  rw[pO];by_cases q:g=f
  ·rw[if_pos q,if_pos q];exact ry
  ·rw[if_neg q,if_neg q];exact r g
 ·by_cases q:g=f
  ·rw[q];exact(oZ f y fs).1
  ·refine(oZ f y fs).2 g (wi g λz=>hg ?_);show (if g=f then some u else mA g)=none
   rw[if_neg q];exact z
def Inv.made(I:Inv X pins σ H s):Inv X pins σ (upd (upd H s.heap.objs.size (.own (s.heap.objs.size+1))) (s.heap.objs.size+1) (.ins C s.heap.objs.size []))
 {s with heap:=(s.heap.push W.emptyDict).push (W.instObj C s.heap.objs.size)}:=by
 have e1:(s.heap.push W.emptyDict).get? s.heap.objs.size=some W.emptyDict:=Av s.heap rfl
 have e2:((s.heap.push W.emptyDict).push (W.instObj C s.heap.objs.size)).get? (s.heap.objs.size+1)=some (W.instObj C s.heap.objs.size):=by
  have:=Av (s.heap.push W.emptyDict) (o:=W.instObj C s.heap.objs.size) rfl
  rwa [Er]at this
 have e3:(s.heap.push W.emptyDict).Ns s.heap.objs.size (λ_=>none):=⟨W.emptyDict,#[],_,e1,rfl,(λe he=>absurd he (by simp)),λ_=>rfl⟩
 have I1:=I.laid (a:=s.heap.objs.size) (o:=.own (s.heap.objs.size+1)) (h':=s.heap.push W.emptyDict) (t':=s.toks) (λb u q=>Ah _ q) (Ai _) ⟨_,e1⟩
 refine I1.laid (a:=s.heap.objs.size+1) (o:=.ins C s.heap.objs.size []) (t':=s.toks) (λb u q=>Ah _ q) (Nat.le_of_eq (Er _ _)) ?_;have ne:s.heap.objs.size≠s.heap.objs.size+1:=Bc (Nat.lt_succ_self _)
 refine⟨by rw[aG ne,aE],Cy _,ne,e2,λ_=>none,(Heap.Ns1.of_empty e3).at λo q=>Ah _ q,λ_=>True.intro,λy hy=>absurd rfl hy⟩
def dQ9{prog:Program}{env:Env}{f:Str}(hb:attributeBase e f env (eval e env)=eval e env)(h:wpAny (model prog w) A (eval e env) (λo s₁=>wpAny (model prog w) A (getAttr o f true) Q E s₁) E s):wpAny (model prog w) A (eval (.Attribute e f pos) env) Q E s:=
 Attribute_any_ h (by rw[arm_eval_Attribute,hb])
end
def fQR(K:W.Frag)(ta:TE)(f:Str):TE:=λσ H Q=>ta σ H λx H1=>∃a C dx fs v,x=.ref a/\H1 a=some (.ins C dx fs)/\Cls K C/\NoAttr K C f/\fs.lookup f=some v/\Q v H1
def fQA(K:W.Frag)(ta tv:TE)(f:Str):TS:=λD σ H=>tv σ H λy H1=>ta σ H1 λx H2=>∃a C dx fs,x=.ref a/\H2 a=some (.ins C dx fs)/\Cls K C/\NoAttr K C f/\fs.length<1000/\
 D.nx σ (upd H2 a (.ins C dx (fI f y fs)))
section
variable {o value:Expr} {f:Str} {pos':Pos} {tv:TE}
def mG(he:PE X e ta)(hb:attributeBase e f X.env (eval e X.env)=eval e X.env):PE X (.Attribute e f pos) (fQR X.K ta f):=by
 intro pins s σ H Q I h;refine dQ9 hb (thn (he pins s σ H _ I h) λu s1 ⟨x,H1,I1,rx,a,C,dx,fs,v,ex,ea,c,n,l,q⟩=>?_);subst ex;obtain rfl:u=Value.ref a:=rx;exact aXL I1 ea c n l λu' s2 I2 ru=>⟨v,H1,I2,ru,q⟩
def kH(ha:PE X o ta)(hv:PE X value tv)(hs:swapsWith value (some (.Attribute o f pos')) pos.line X.env=pure false):PS X (.Assign [.Attribute o f pos'] value pos) (fQA X.K ta tv f):=by
 intro pins s σ H D I h;refine plainObj_wpAny_Assign_Attribute (thn (hv pins s σ H _ I h) λu s1 ⟨y,H1,I1,ry,q⟩=>thn (ha pins s1 σ H1 _ I1 q) λov s2 ⟨x,H2,I2,rx,a,C,dx,fs,ex,ea,c,n,l,q2⟩=>?_) hs;subst ex;obtain rfl:ov=Value.ref a:=rx;exact aZ7 I2 ea c n l ry λs3 I3=>⟨σ,_,I3,q2⟩
def dZL{m:Str}{apos:Pos}{args:List Expr}(he:PE X e te)(I:Inv X pins σ H s)(h:te σ H λx H1=>∃a C dx fs g,x=.ref a/\H1 a=some (.ins C dx fs)/\Cls X.K C/\Meth X.K C m g/\fs.lookup m=none/\
 ∀s1,Inv X pins σ H1 s1->wpAny (model X.prog X.w) X.A (callWith pos (.ref g) [.ref a] (backTo pos (starEach args X.env)) (backToKw pos (keywordEach [] X.env))) Q X.xe s1)(ht:eval (.Call (.Attribute e m apos) args [] pos) X.env=(do
 let ov <-eval e X.env
 standAt apos.atName
 let (f,first) <-holding [ov] (getMethod ov m pl)
 callWith pos f first (backTo pos (starEach args X.env)) (backToKw pos (keywordEach [] X.env)))):wpAny (model X.prog X.w) X.A (eval (.Call (.Attribute e m apos) args [] pos) X.env) Q X.xe s:=by
 refine Fh (pl:=pl) (thn (he pins s σ H _ I h) λu s1 ⟨x,H1,I1,rx,a,C,dx,fs,g,ex,ea,c,k,l,q⟩=>?_) ht;subst ex;obtain rfl:u=Value.ref a:=rx;exact mS I1 ea c k l (q s1 I1)
end
structure Room (k:Nat) (A:Around):Prop where
 hd:A.handled=none
 dp:A.depth+3*k+5<recursionLimit
 un:A.units+16*k+200<cLine
def Room.mono{j:Nat}(r:Room k A)(h:j<=k):Room j A:=⟨r.hd,by have:=r.dp;omega,by have:=r.un;omega⟩
def Room.deeper(r:Room (k+1) A)(env:Env):Room k (A.deeper env):=
 ⟨r.hd,by have:=r.dp;show A.depth+1+3*k+5<_;omega,by have:=r.un;show A.units+3+16*k+200<_;omega⟩
def aXS:(A.under (.builtin "type.__call__" ⟨.ref C::us,kw⟩)).depth=A.depth+1:=by
 first|rfl|simp[Around.under,Code.weight,Code.isCreation,Code.isGuard,Code.isCaller,Code.frames,Code.isFrame,guardIds]
def aZD:(A.under (.builtin "type.__call__" ⟨.ref C::us,kw⟩)).units=A.units+1:=by
 first|rfl|simp[Around.under,Code.cUnits,Code.frames,Code.isFrame]
def Room.make(r:Room (k+1) A)(C:Addr)(us:List Value)(kw:List (Str×Value)):Room k (A.under (.builtin "type.__call__" ⟨.ref C::us,kw⟩)):=
 ⟨r.hd,by have:=r.dp;rw[aXS];omega,by have:=r.un;rw[aZD];omega⟩
def Room.depth(r:Room k A):A.depth<recursionLimit:=by have:=r.dp;omega
def Room.units0(r:Room k A):A.units<cLine:=by have:=r.un;omega
def bQ5:TA:=λ_ H Q=>Q [] H
def zN(ta:TE)(tr:TA):TA:=λσ H Q=>ta σ H λx H1=>tr σ H1 λxs H2=>Q (x::xs) H2
section
variable {X:Cx} {e:Expr} {es:List Expr} {te:TE} {t:TA} {pos:Pos}
def aB:PA X [] bQ5:=λ_ _ _ _ H Q I h=>Calls.spliced_nil ⟨[],H,I,.nil,h⟩
def aA(ha:PE X e te)(hr:PA X es t)(hs:starEach (e::es) X.env=(false,eval e X.env)::starEach es X.env:=by rfl):PA X (e::es) (zN te t):=by
 intro pos pins s σ H Q I h;rw[hs];show wpAny _ _ (spliced ((false,eval e X.env)::backTo pos (starEach es X.env))) _ _ s
 refine Calls.spliced_cons (thn (ha pins s σ H _ I h) λu s1 ⟨x,H1,I1,r1,q1⟩=>?_);exact thn (hr pos pins s1 σ H1 _ I1 q1) λus s2 ⟨xs,H2,I2,r2,q2⟩=>⟨x::xs,H2,I2,.cons r1 r2,q2⟩
def eZM(t:TA):TE:=λσ H Q=>t σ H λxs H1=>xs.length<=sizeLine/\∀p,H1 p=none->Q (.ref p) (upd H1 p (.tup xs))
def eZK(t:TA):TE:=λσ H Q=>t σ H λxs H1=>xs.length<=sizeLine/\∀p,H1 p=none->Q (.ref p) (upd H1 p (.lst xs))
def lY{x1}(h:PA X es t):PE X (.Tuple es x1 pos) (eZM t):=by
 intro pins s σ H Q I hq;refine wpAny_Tuple_spliced (thn (h pos pins s σ H _ I hq) λus s1 ⟨xs,H1,I1,r,z,q⟩=>⟨by rw[<-r.length];exact z,?_⟩)
 have hf:H1 s1.heap.objs.size=none:=I1.hok.fresh (Ai _)
 refine⟨.ref s1.heap.objs.size,upd H1 s1.heap.objs.size (.tup xs),I1.laid (t':=s1.toks) (λb u e=>Ah _ e) (Ai _) ?_,rfl,q _ hf⟩;exact⟨z,us,r,⟨_,Av _ rfl,rfl,_,rfl⟩⟩
def cC(h:PA X es t):PE X (.List es pos) (eZK t):=by
 intro pins s σ H Q I hq;refine wpAny_List_spliced (thn (h pos pins s σ H _ I hq) λus s1 ⟨xs,H1,I1,r,z,q⟩=>⟨by rw[<-r.length];exact z,?_⟩)
 have hf:H1 s1.heap.objs.size=none:=I1.hok.fresh (Ai _)
 refine⟨.ref s1.heap.objs.size,upd H1 s1.heap.objs.size (.lst xs),I1.laid (t':=s1.toks) (λb u e=>Ah _ e) (Ai _) ?_,rfl,q _ hf⟩;exact⟨z,us,0,r,Av _ rfl⟩
end
abbrev Sp:=List V->Hp->VK->XK->Prop
abbrev CXT:=List Env->Hp->Shared->XK->Value->Shared->Prop
structure Env0 (P:Program) (w:World) (K:W.Frag) (mg:Str->Option Value) (base:Heap) (A:Around) (outer:List Env) (s:Shared) (H:Hp):Prop where
 frames:A.frames=some outer
 mod:Mod K mg base
 bs:∀b o,base.get? b=some o->s.heap.get? b=some o/\H b=none
 bsz:base.objs.size<=s.heap.objs.size
 funs:s.heap.FunFrames base outer
 frf:∀b∈frs outer,H b=none
 hok:HOk P w H s.heap
 bare:AllBare s.gens
def CE(outer:List Env)(P:Program)(w:World)(H:Hp)(s:Shared)(Q:VK)(u:Value)(s':Shared):Prop:=
 ∃v H',s'.os=s.os/\AllBare s'.gens/\Un (frs outer) [] H H' s.heap s'.heap/\HOk P w H' s'.heap/\RelV v u/\Q v H'
def CR(CX:CXT)(outer:List Env)(P:Program)(w:World)(H:Hp)(s:Shared)(Q:VK)(E:XK)(r:Result)(s':Shared):Prop:=
 match r with
 |.ok (.ret u)=>CE outer P w H s Q u s'
 |.ok _=>False
 |.error e=>CX outer H s E e s'
structure FnOk (P:Program) (w:World) (K:W.Frag) (mg:Str->Option Value) (base:Heap) (CX:CXT) (k:Nat) (f:Addr) (fd:FuncData) (ps:List Str) (sp:Sp):Prop where
 len:∀vs H Q E,sp vs H Q E->vs.length=ps.length
 run:∀(A:Around) (outer:List Env) (s:Shared) (H:Hp) (args:Args) (us:List Value) (vs:List V) (Q:VK) (E:XK),Room k A->Env0 P w K mg base A outer s H->BindsTo s fd args (ps.zip us)->Vals vs us->sp vs H Q E->
  codeAny (model P w) A (.call (.ref f) args) (CR CX outer P w H s Q E) s
def Env0.make{mg:Q5}{base:Heap}{outer:List Env}(e:Env0 P w K mg base A outer s H)(C:Addr)(us:List Value)(kw:List (Str×Value)):Env0 P w K mg base (A.under (.builtin "type.__call__" ⟨.ref C::us,kw⟩)) outer s H:=⟨by first|exact e.frames|(simpa [Around.under,Code.envs,Code.isFrame,pushEnvs]using e.frames),e.mod,e.bs,e.bsz,e.funs,e.frf,e.hok,e.bare⟩
section
variable {s':Shared}
def Inv.env0(I:Inv X pins σ H s):Env0 X.prog X.w X.K X.mg X.base X.A X.stack s H:=
 ⟨I.ok.frames,I.ok.mod,I.bs,Cc I.ok.bsz I.sz,I.stack,I.stkFree,I.hok,I.bare⟩
def Inv.after{Q:VK}(I:Inv X pins σ H s)(h:CE X.stack X.prog X.w H s Q u s'):EP X pins σ Q u s':=by
 obtain⟨v,H',os,bare,un,hok,r,q⟩:=h;obtain⟨hh,g,d,t,os'⟩:=s';obtain rfl:os'=s.os:=os;exact⟨v,H',I.call (h':=hh) (g':=g) (d':=d) (t':=t) (ch:=[]) un hok bare (λb z=>absurd z (by simp)),r,q⟩
end
def bQQ(sp:Sp)(dvs:List V)(E:XK)(t:TA):TE:=λσ H Q=>t σ H λvs H1=>sp (vs++dvs) H1 Q E
def bJ0(C:Addr)(m:Str)(sp:Sp)(dvs:List V)(E:XK)(ta:TE)(t:TA):TE:=λσ H Q=>ta σ H λx H1=>∃a dx fs,x=.ref a/\H1 a=some (.ins C dx fs)/\fs.lookup m=none/\
 t σ H1 λvs H2=>sp (x::(vs++dvs)) H2 Q E
def cXC(C:Addr)(sp:Sp)(dvs:List V)(E:XK)(t:TA):TE:=λσ H Q=>t σ H λvs H1=>∀x dx,H1 x=none->H1 dx=none->dx≠x->
 sp (.ref x::(vs++dvs)) (upd (upd H1 dx (.own x)) x (.ins C dx [])) (λv H2=>v=.non/\Q (.ref x) H2) E
def Binds(K:W.Frag)(fd:FuncData)(ps:List Str)(ds:List Value):Prop:=
 ∀(s:Shared) (us:List Value),K.In s.heap->(us++ds).length=ps.length->BindsTo s fd ⟨us,[]⟩ (ps.zip (us++ds))
def Binds.all{fd:FuncData}(h:∀us:List Value,us.length=ps.length->bindArgs fd ⟨us,[]⟩=pure (ps.zip us)):Binds K fd ps []:=λs us _ hl=>by
 rw[Cb]at hl ⊢;exact .of_eq (h us hl)
def iQ(CX:CXT)(X:Cx)(E:XK):Prop:=∀(pins:List (Addr×Obj)) (σ:St) (H:Hp) (s:Shared) (e:Value) (s':Shared),Inv X pins σ H s->CX X.stack H s E e s'->X.xe e s'
section
variable {CX:CXT} {f:Addr} {fd:FuncData} {sp:Sp} {dvs:List V} {ds:List Value} {E:XK} {m:Str} {p apos:Pos} {o:Expr}
def cXX{Q:VK}{vs:List V}(F:FnOk X.prog X.w X.K X.mg X.base CX k f fd ps sp)(hr:Room k X.A)(hb:Binds X.K fd ps ds)(hd:Vals dvs ds)(hx:iQ CX X E)(I:Inv X pins σ H s)(r:Vals vs us)(h:sp (vs++dvs) H Q E):wpAny (model X.prog X.w) X.A (call (.ref f) us) (EP X pins σ Q) X.xe s:=by
 have r2:Vals (vs++dvs) (us++ds):=r.append hd
 have hl:(us++ds).length=ps.length:=by rw[<-r2.length];exact F.len _ _ _ _ h
 refine Ge (Ei (F.run X.A X.stack s H ⟨us,[]⟩ (us++ds) (vs++dvs) Q E hr I.env0 (hb s us I.kIn hl) r2 h) λr s' hq=>?_);cases r with
 |error e=>exact hx pins σ H s e s' I hq
 |ok fl=>
  cases fl with
  |ret u=>exact I.after hq
  |next=>exact False.elim hq
  |brk=>exact False.elim hq
  |cont=>exact False.elim hq
def bQT(F:FnOk X.prog X.w X.K X.mg X.base CX k f fd ps sp)(hr:Room k X.A)(hg:Gl X x)(hm:X.mg x=some (.ref f))(hk:W.keepIn X.K (.ref f)=true)(hb:Binds X.K fd ps ds)(hd:Vals dvs ds)(hx:iQ CX X E)(ha:PA X (e::es) t)(hdb:(x==("__debug__" : Str))=false:=by decide)(he:starEach (e::es) X.env=(false,eval e X.env)::starEach es X.env:=by rfl)(hpl:(backTo pos (starEach es X.env)).any (·.1)=false:=by rfl):PE X (.Call (.Name x p) (e::es) [] pos) (bQQ sp dvs E t):=by
 intro pins s σ H Q I h;refine Do (iO I hg hm ?_ hdb);refine Gf (h₀:=X.base) I.ok.mod.kin hk (thn (ha pos pins s σ H _ I h) λus s1 ⟨vs,H1,I1,r,q⟩=>⟨I1.kIn,?_⟩) he hpl;exact cXX F hr hb hd hx I1 r q
def cJL{pl:Sem Bool}(he:PE X o ta)(c:Cls X.K C)(hm:Meth X.K C m f)(F:FnOk X.prog X.w X.K X.mg X.base CX k f fd ps sp)(hr:Room k X.A)(hb:Binds X.K fd ps ds)(hd:Vals dvs ds)(hx:iQ CX X E)(ht:eval (.Call (.Attribute o m apos) [] [] pos) X.env=(do
 let ov <-eval o X.env
 standAt apos.atName
 let (f,first) <-holding [ov] (getMethod ov m pl)
 callWith pos f first (backTo pos (starEach [] X.env)) (backToKw pos (keywordEach [] X.env))):=by rfl):PE X (.Call (.Attribute o m apos) [] [] pos) (bJ0 C m sp dvs E ta bQ5):=by
 intro pins s σ H Q I h;refine Fh (pl:=pl) (thn (he pins s σ H _ I h) λu s1 ⟨x,H1,I1,rx,a,dx,fs,ex,ea,l,q⟩=>?_) ht;subst ex;obtain rfl:u=Value.ref a:=rx;refine mS I1 ea c hm l ?_;exact W.callWith_K0 (first:=[.ref a]) I1.kIn hm.kp (cXX (us:=[.ref a]) (vs:=[.ref a]) F hr hb hd hx I1 (.cons rfl .nil) q)
structure Mk (K:W.Frag) (C f:Addr):Prop where
 makes:W.makesIn K C=true
 init:W.findIn K (.ref C) "__init__"=some (some (.ref f))
 fn:W.isFn K (.ref f)=true
 kp:W.keepIn K (.ref C)=true
def cX6{Q:VK}{vs:List V}(M:Mk X.K C f)(F:FnOk X.prog X.w X.K X.mg X.base CX k f fd ps sp)(hr:Room (k+1) X.A)(hb:Binds X.K fd ps ds)(hd:Vals dvs ds)(hx:iQ CX X E)(I:Inv X pins σ H s)(r:Vals vs us)(h:∀x dx,H x=none->H dx=none->dx≠x->sp (.ref x::(vs++dvs)) (upd (upd H dx (.own x)) x (.ins C dx [])) (λv H2=>v=.non/\Q (.ref x) H2) E):wpAny (model X.prog X.w) X.A (call (.ref C) us) (EP X pins σ Q) X.xe s:=by
 have hq:=h (s.heap.objs.size+1) s.heap.objs.size (I.hok.fresh (He _)) (I.hok.fresh (Ai _)) (Bc (Nat.lt_succ_self _))
 have I2:=Inv.made (C:=C) I
 have r2:Vals (V.ref (s.heap.objs.size+1)::(vs++dvs)) (Value.ref (s.heap.objs.size+1)::(us++ds)):=.cons rfl (r.append hd)
 have hl:(Value.ref (s.heap.objs.size+1)::us++ds).length=ps.length:=by
  have e:=r2.length
  rw[F.len _ _ _ _ hq]at e;exact e.symm
 refine Ge (cJE (f:=f) I.kIn M.makes M.init (beq_iff_eq.mp M.fn) (Ei (F.run _ X.stack _ _ ⟨Value.ref (s.heap.objs.size+1)::us,[]⟩ (Value.ref (s.heap.objs.size+1)::(us++ds)) _ _ E (hr.make C us [])
  (I2.env0.make C us []) (hb _ (Value.ref (s.heap.objs.size+1)::us) I2.kIn hl) r2 hq) λr s' hq'=>?_))
 cases r with
 |error e=>exact hx pins σ _ _ e s' I2 hq'
 |ok fl=>
  cases fl with
  |ret u=>
   obtain⟨v,H',I3,rv,ev,q3⟩:=I2.after hq';subst ev;exact⟨rv,⟨V.ref (s.heap.objs.size+1),H',I3,rfl,q3⟩⟩
  |next=>exact False.elim hq'
  |brk=>exact False.elim hq'
  |cont=>exact False.elim hq'
def dX2(M:Mk X.K C f)(F:FnOk X.prog X.w X.K X.mg X.base CX k f fd ps sp)(hr:Room (k+1) X.A)(hg:Gl X x)(hm:X.mg x=some (.ref C))(hb:Binds X.K fd ps ds)(hd:Vals dvs ds)(hx:iQ CX X E)(ha:PA X (e::es) t)(hdb:(x==("__debug__" : Str))=false:=by decide)(he:starEach (e::es) X.env=(false,eval e X.env)::starEach es X.env:=by rfl)(hpl:(backTo pos (starEach es X.env)).any (·.1)=false:=by rfl):PE X (.Call (.Name x p) (e::es) [] pos) (cXC C sp dvs E t):=by
 intro pins s σ H Q I h;refine Do (iO I hg hm ?_ hdb);refine Gf (h₀:=X.base) I.ok.mod.kin M.kp (thn (ha pos pins s σ H _ I h) λus s1 ⟨vs,H1,I1,r,q⟩=>⟨I1.kIn,?_⟩) he hpl;exact cX6 M F hr hb hd hx I1 r q
end
def PK(X:Cx)(kws:List Keyword)(t:TA):Prop:=
 ∀(pos:Pos) (pins:Q2) (s:Shared) (σ:St) (H:Hp) (Q:List V->Hp->Prop),Inv X pins σ H s->t σ H Q->wpAny (model X.prog X.w) X.A (evalAll ((backToKw pos (keywordEach kws X.env)).map (·.2))) (AP X pins σ Q) X.xe s
section
variable {kpos:Pos} {kws:List Keyword} {nm:Option Str}
def sT:PK X [] bQ5:=λ_ _ _ _ H Q I h=>wpAny_evalAll_nil ⟨[],H,I,.nil,h⟩
def oC(ha:PE X e te)(hr:PK X kws t):PK X (⟨nm,e,kpos⟩::kws) (zN te t):=by
 intro pos pins s σ H Q I h;show wpAny _ _ (evalAll ((do let v <-eval e X.env;standAt pos;pure v)::(backToKw pos (keywordEach kws X.env)).map (·.2))) _ _ s
 refine wpAny_evalAll_cons (Af (thn (ha pins s σ H _ I h) λu s1 ⟨x,H1,I1,r1,q1⟩=>Af (Em (An ?_))));exact thn (hr pos pins s1 σ H1 _ I1 q1) λus s2 ⟨xs,H2,I2,r2,q2⟩=>⟨x::xs,H2,I2,.cons r1 r2,q2⟩
end
structure FnScope (N P:List Str) (sc:Scope):Prop where
 kind:sc.kind=.function
 co:sc.isCoroutine=false
 gen:sc.isGenerator=false
 nd:N.Nodup
 pre:N.take P.length=P
 par:∀x∈P,sc.names.lookup x=some .local\/sc.names.lookup x=some .cell
 nofree:∀y∈sc.names,y.2≠.free
def wI:∀ {binds:List (Str×Value)} {m:Q5},(∀v,(x,v)∉binds)->bindL kindOf binds m x=m x
 |[],_,_=>rfl
 |(n,v)::r,m,h=>by
  unfold bindL;rw[wI λw hw=>h w (Aj _ hw)];split
  ·have:x≠n:=by rintro rfl;exact h v Ak
   simp[this]
  ·rfl
def vY:∀ {binds:List (Str×Value)} {m:Q5},(∀v,(x,v)∉binds)->bindC kindOf binds m x=m x
 |[],_,_=>rfl
 |(n,v)::r,m,h=>by
  unfold bindC;rw[vY λw hw=>h w (Aj _ hw)];split
  ·rfl
  ·have:x≠n:=by rintro rfl;exact h v Ak
   simp[this]
def uZ{v:Value}:∀ {P:List Str} {vs:List Value} {i:Nat} {m:Q5},P.Nodup->P[i]?=some x->vs[i]?=some v->kindOf x=some .local->
 bindL kindOf (P.zip vs) m x=some v
 |[],_,_,_,_,h,_,_=>by simp at h
 |_::_,[],_,_,_,_,h,_=>by simp at h
 |p::P,w::vs,0,m,nd,h1,h2,hk=>by
  simp at h1 h2;subst h1;subst h2;show bindL kindOf ((p,w)::P.zip vs) m p=_
  unfold bindL;rw[wI λv hv=>(Cu.mp nd).1 (List.of_mem_zip hv).1,if_pos hk];simp
 |p::P,w::vs,i+1,m,nd,h1,h2,hk=>by
  show bindL kindOf ((p,w)::P.zip vs) m x=_
  unfold bindL;exact uZ (i:=i) (List.nodup_cons.mp nd).2 (by simpa using h1) (by simpa using h2) hk
def vA{v:Value}:∀ {P:List Str} {vs:List Value} {i:Nat} {m:Q5},P.Nodup->P[i]?=some x->vs[i]?=some v->kindOf x≠some .local->
 bindC kindOf (P.zip vs) m x=some v
 |[],_,_,_,_,h,_,_=>by simp at h
 |_::_,[],_,_,_,_,h,_=>by simp at h
 |p::P,w::vs,0,m,nd,h1,h2,hk=>by
  simp at h1 h2;subst h1;subst h2;show bindC kindOf ((p,w)::P.zip vs) m p=_
  unfold bindC;rw[vY λv hv=>(Cu.mp nd).1 (List.of_mem_zip hv).1,if_neg hk];simp
 |p::P,w::vs,i+1,m,nd,h1,h2,hk=>by
  show bindC kindOf ((p,w)::P.zip vs) m x=_
  unfold bindC;exact vA (i:=i) (List.nodup_cons.mp nd).2 (by simpa using h1) (by simpa using h2) hk
def lX(N:List Str)(vs:List V):St:=vs.map some++List.replicate (N.length-vs.length) none
def gD(CX:CXT)(P:Program)(w:World)(K:W.Frag)(mg:Str->Option Value)(base:Heap)(N:List Str)(qual:Str)(scope:Scope)(f:Addr)(cd:Value)(A:Around)(outer:List Env)(s:Shared)(H:Hp)(E:XK):Cx where
 prog:=P
 w:=w
 K:=K
 mg:=mg
 base:=base
 A:=A.deeper (envOfC qual scope s.heap.objs.size f cd)
 N:=N
 s₀:=s
 H₀:=H
 env:=envOfC qual scope s.heap.objs.size f cd
 outer:=outer
 stack:=envOfC qual scope s.heap.objs.size f cd::outer
 ex:=[]
 calm:=true
 fn:=λ_=>true
 pn:=[]
 xe:=λe s'=>wpAny (model P w) (A.deeper (envOfC qual scope s.heap.objs.size f cd)) (leaving (envOfC qual scope s.heap.objs.size f cd) e) (λ_ s''=>CX outer H s E e s'') (λe' s''=>CX outer H s E e' s'') s'
def bP{sc:Scope}{n:Nat}(h:sc.names.lookup x=some .cell):∃c,(cellsFrom n sc.names []).lookup x=some c:=by
 have q:=W.cellsFrom_some sc.names n [] (.inl h)
 exact Dn.mp q
def bZU{CX:CXT}{mg:Q5}{base:Heap}{qual:Str}{scope:Scope}{f:Addr}{cd:Value}{outer:List Env}{s1:Shared}{E:XK}{vs:List V}(S:FnScope N ps scope)(hd:A.handled=none)(e0:Env0 P w K mg base A outer s H)(hl:vs.length=ps.length)(r:Vals vs us)(x:InCallC s s.heap.objs.size (bindL (envOfC qual scope s.heap.objs.size f cd).kindOf (ps.zip us) λ_=>none) (cellsFrom (s.heap.objs.size+1) scope.names []) (bindC (envOfC qual scope s.heap.objs.size f cd).kindOf (ps.zip us) λ_=>none) s1):Inv (gD CX P w K mg base N qual scope f cd A outer s H E) [] (lX N vs) H s1:=by
 have hpl:ps.length<=N.length:=by have:=Dm List.length S.pre;rw[Br]at this;omega
 obtain⟨h1,tk,rfl,hk⟩:=x.done;have noA:∀b:Addr,b∉(gD CX P w K mg base N qual scope f cd A outer s H E).ex:=λb z=>absurd (show b∈([]:List Addr) from z) (by simp)
 refine⟨⟨e0.mod,S.kind,rfl,rfl,Ai _,λy z c h1 h2=>?_,λy hy=>?_,λy c _ h=>?_,λ_=>hd,Around.frames_deeper e0.frames,.inr ⟨rfl,rfl⟩,λb z=>absurd z (noA b),e0.bs,e0.bsz,λb _ _=>noA b,λb z=>absurd z (noA b),e0.funs,e0.frf⟩,
  rfl,e0.bare,Un.kept hk,⟨_,x.toInCall.ns,λi y v h1 h2 h3=>?_⟩,λy c h=>⟨_,x.cell y c h⟩,e0.hok.fresh (Nat.le_refl _),λy c h=>?_,λp hp=>absurd (show p∈([]:Q2) from hp) (by simp),e0.hok.kept hk,?_⟩
 ·exact name_of_addr x.apart (Cz h1) (Cz h2)
 ·have hy:scope.names.lookup y=some .cell\/scope.names.lookup y=some .free:=hy
  rcases hy with hy|hy
  ·exact bP hy
  ·exact absurd rfl (S.nofree _ (Cz hy))
 ·exact Nat.le_of_lt (x.above y c (Cz h))
 ·have hi:i<vs.length:=by
   unfold lX at h2;by_cases hi:i<vs.length
   ·exact hi
   ·rw[List.getElem?_append_right (by simpa using hi)]at h2
    rw[Et]at h2;split at h2<;>cases h2
  have ha:vs[i]?=some v:=by
   unfold lX at h2;rw[List.getElem?_append_left (by simpa using hi),List.getElem?_map]at h2
   cases e:vs[i]? with
   |none=>rw[e]at h2;cases h2
   |some a=>rw[e]at h2;cases h2;rfl
  obtain⟨u,hu,rv⟩:=r.get ha;have hp:ps[i]?=some y:=by
   rw[<-S.pre,List.getElem?_take_of_lt (by omega)];exact h1
  have ndP:ps.Nodup:=by rw[<-S.pre];exact S.nd.sublist (Gj _ _)
  refine⟨u,rv,?_⟩;rcases S.par y (Al hp) with k|k
  ·exact .inl ⟨k,uZ ndP hp hu k⟩
  ·obtain⟨c,e⟩:=bP (n:=s.heap.objs.size+1) k;refine .inr ⟨.inl k,c,e,?_⟩;have q:=x.cell y c e
   rw[vA ndP hp hu (by show scope.names.lookup y≠_;rw[k];decide)]at q
   exact q
 ·exact e0.hok.fresh (Nat.le_of_lt (x.above y c (Cz h)))
 ·unfold lX;show _=N.length
  rw[Ag,Ab,Bp];omega
def cXT{CX:CXT}{mg:Q5}{base:Heap}{f:Addr}{name qual:Str}{params:Arguments}{scope:Scope}{dV kV doc pm cdv ct oc:Value}{an od:Option Addr}{osl:Array (Option Value)}{sp:Sp}(lk:K.lookup f=some ⟨oc,od,.func (W.fnOf name qual params body scope dV kV doc pm an cdv ct),osl⟩)(hcd:W.codeIn K cdv qual=true)(S:FnScope N ps scope)(len:∀vs H Q E,sp vs H Q E->vs.length=ps.length)(hbody:∀(A:Around) (outer:List Env) (s:Shared) (H:Hp) (vs:List V) (Q:VK) (E:XK),Room k (A.deeper (envOfC qual scope s.heap.objs.size f cdv))->sp vs H Q E->
 ∃t,PSs (gD CX P w K mg base N qual scope f cdv A outer s H E) body t/\t {nx:=λ_ H'=>Q .non H',rt:=Q} (lX N vs) H):FnOk P w K mg base CX (k+1) f (W.fnOf name qual params body scope dV kV doc pm an cdv ct) ps sp:=by
 refine⟨len,λA outer s H args us vs Q E hr e0 hb r hsp=>?_⟩;have hl:=len _ _ _ _ hsp
 have KX:K.In s.heap:=e0.mod.kin.keeps λb o e=>(e0.bs b o e).1
 have lim:s.heap.NoLimit:=e0.mod.nolimit.keeps λb o e=>(e0.bs b o e).1
 have hkind:∀y∈ps.zip us,scope.names.lookup y.1=some .local\/(scope.names.lookup y.1=some .cell/\((cellsFrom (s.heap.objs.size+1) scope.names []).lookup y.1).isSome=true):=λ⟨n,v⟩ hy=>by
  rcases S.par n (List.of_mem_zip hy).1 with q|q
  ·exact .inl q
  ·exact .inr ⟨q,W.cellsFrom_some _ _ _ (.inl q)⟩
 refine codeAny_call_function hr.depth (KX _ _ lk) rfl S.co S.gen rfl (W.codeRec_of KX hcd) (hb _ _ _ _ ?_);refine wpAny_newFunctionEnv_cells S.kind hkind λenv he s1 x=>?_;subst he;refine⟨lim.keeps x.toInCall.keep,codeAny_func ?_⟩;obtain⟨t,ht,hq⟩:=hbody A outer s H vs Q E (hr.deeper _) hsp;have I:Inv (gD CX P w K mg base N qual scope f cdv A outer s H E) [] (lX N vs) H s1:=bZU S hr.hd e0 hl r x
 refine Cp (ht [] s1 (lX N vs) H _ I hq) (λfl s' hs=>?_) λe s' hs=>hs;have fin:∀ {σ':St} {H':Hp} {v:V} {u:Value},Inv (gD CX P w K mg base N qual scope f cdv A outer s H E) [] σ' H' s'->RelV v u->Q v H'->CE outer P w H s Q u s':=
  fun {σ' H' v u} J rv q=>⟨v,H',J.os,J.bare,J.base,J.hok,rv,q⟩
 cases fl with
 |ret u=>
  obtain⟨v,σ',H',J,rv,q⟩:=hs;exact fin J rv q
 |next=>
  obtain⟨σ',H',J,q⟩:=hs;exact fin (v:=V.non) (u:=Value.none) J rfl q
 |brk=>
  obtain⟨_,_,_,q⟩:=hs;exact False.elim q
 |cont=>
  obtain⟨_,_,_,q⟩:=hs;exact False.elim q
section
variable {p:Pos} {id T:String} {r:List V->Hp->VK->Prop}
def tCB(r:List V->Hp->VK->Prop)(t:TA):TE:=λσ H Q=>t σ H λvs H1=>r vs H1 Q
def aS(hc:CallR X (.builtin id) r)(hg:Gl X x)(hm:X.mg x=none)(hv:bootBuiltins x=some (.builtin id))(ha:PA X (e::es) t)(hn:x≠"__name__" := by decide)(hdb:(x==("__debug__" : Str))=false:=by decide)(he:starEach (e::es) X.env=(false,eval e X.env)::starEach es X.env:=by rfl)(hpl:(backTo pos (starEach es X.env)).any (·.1)=false:=by rfl):PE X (.Call (.Name x p) (e::es) [] pos) (tCB r t):=by
 intro pins s σ H Q I h;refine Do (gR I hg hm hv ?_ hn hdb);exact PyProof.Rows.callWith_builtin1 (thn (ha pos pins s σ H _ I h) λus s1 ⟨vs,H1,I1,r1,q1⟩=>hc pins s1 σ H1 vs us Q I1 r1 q1) he hpl
def bR(hc:CallR X (.type T) r)(hg:Gl X x)(hm:X.mg x=none)(hv:bootBuiltins x=some (.type T))(ha:PA X (e::es) t)(hn:x≠"__name__" := by decide)(hdb:(x==("__debug__" : Str))=false:=by decide)(he:starEach (e::es) X.env=(false,eval e X.env)::starEach es X.env:=by rfl)(hpl:(backTo pos (starEach es X.env)).any (·.1)=false:=by rfl):PE X (.Call (.Name x p) (e::es) [] pos) (tCB r t):=by
 intro pins s σ H Q I h;refine Do (gR I hg hm hv ?_ hn hdb);exact Dc (thn (ha pos pins s σ H _ I h) λus s1 ⟨vs,H1,I1,r1,q1⟩=>hc pins s1 σ H1 vs us Q I1 r1 q1) he hpl
end
end L2
namespace HT
open PySem PyProof.Rows
def sIx(n d:Nat):Option Int->Nat
 |none=>d
 |some v=>if v<0 then (v+(n:Int)).toNat else min v.toNat n
end HT
namespace L2
open PySem PySem.Spec PyProof.Rows
variable {H:Hp}{X:Cx}{its:List Value}{n:Nat}{pins:Q2}{s:Shared}{x:V}{xs:List V}{α:Type}{σ:St}
abbrev TO:=St->Hp->(Option Int->Hp->Prop)->Prop
def PO(X:Cx)(e:Option Expr)(t:TO):Prop:=
 ∀(pins:Q2) (s:Shared) (σ:St) (H:Hp) (Q:Option Int->Hp->Prop),Inv X pins σ H s->t σ H Q->
  wpAny (model X.prog X.w) X.A (evalPart e X.env) (λu s'=>∃o H',Inv X pins σ H' s'/\IsPart u o/\Q o H') X.xe s
def bQM:TO:=λ_ H Q=>Q none H
section
variable {e:Expr} {te:TE} {lo hi:Option Expr} {tl th:TO} {pos p2:Pos}
def aJY:PO X none bQM:=by
 intro pins s σ H Q I h;rw[evalPart_none];exact An ⟨none,H,I,.none,h⟩
def SlR(X:Cx)(r:V->Option Int->Option Int->Hp->VK->Prop):Prop:=
 ∀(pins:Q2) (s:Shared) (σ:St) (H:Hp) (x:V) (v vl vu:Value) (lo hi:Option Int) (sl:Addr) (Q:VK),Inv X pins σ H s->RelV x v->s.heap.IsSliceOf sl vl vu .none->IsPart vl lo->IsPart vu hi->r x lo hi H Q->
  ∃T id,typeLookup (.type T) "__getitem__"=pure (some (.builtin id))/\s.TypeIs v T/\wpAny (model X.prog X.w) X.A (getItem v (.ref sl)) (EP X pins σ Q) X.xe s
def SlR.or{r r':V->Option Int->Option Int->Hp->VK->Prop}(h:SlR X r)(h':SlR X r'):SlR X (λx lo hi H Q=>r x lo hi H Q\/r' x lo hi H Q):=by
 intro pins s σ H x v vl vu lo hi sl Q I rx hs pl pu q;rcases q with q|q
 ·exact h pins s σ H x v vl vu lo hi sl Q I rx hs pl pu q
 ·exact h' pins s σ H x v vl vu lo hi sl Q I rx hs pl pu q
def tSl(r:V->Option Int->Option Int->Hp->VK->Prop)(te:TE)(tl th:TO):TE:=λσ H Q=>te σ H λx H1=>tl σ H1 λl H2=>th σ H2 λu H3=>r x l u H3 Q
def iH{r:V->Option Int->Option Int->Hp->VK->Prop}(hr:SlR X r)(he:PE X e te)(hl:PO X lo tl)(hu:PO X hi th):PE X (.Subscript e (.Slice lo hi none p2) pos) (tSl r te tl th):=by
 intro pins s σ H Q I h;refine Subscript_ (thn (he pins s σ H _ I h) λv s1 ⟨x,H1,I1,r1,q1⟩=>?_);refine wpAny_Slice (thn (hl pins s1 σ H1 _ I1 q1) λvl s2 ⟨l,H2,I2,pl,q2⟩=>thn (hu pins s2 σ H2 _ I2 q2) λvu s3 ⟨u,H3,I3,pu,q3⟩=>?_);rw[evalPart_none];refine An ?_;have I4:Inv X pins σ H3 {s3 with heap:=s3.heap.push {cls:=.type "slice",data:=.fields #[vl,vu,.none]}}:=I3.kept (t':=s3.toks) λb ob q=>Ah _ q
 obtain⟨T,id,hT,ht,hg⟩:=hr pins {s3 with heap:=s3.heap.push {cls:=.type "slice",data:=.fields #[vl,vu,.none]}} σ H3 x v vl vu l u s3.heap.objs.size Q I4 r1 (Heap.IsSliceOf.new ..) pl pu q3
 show wpAny (model X.prog X.w) X.A (subscriptTail e (.Slice lo hi none p2) v (.ref s3.heap.objs.size)) (EP X pins σ Q) X.xe {s3 with heap:=s3.heap.push {cls:=.type "slice",data:=.fields #[vl,vu,.none]}}
 exact tail_any (ops:=[.ref s3.heap.objs.size,v]) ht hT hg (by with_unfolding_all rfl)
def kO(xs:List V)(lo hi:Option Int):List V:=(xs.drop (HT.sIx xs.length 0 lo)).take (HT.sIx xs.length xs.length hi-HT.sIx xs.length 0 lo)
def aQC(xs:List V)(lo hi:Option Int):(kO xs lo hi).length<=xs.length:=by
 unfold kO;rw[Br,Cq];omega
end
def ixN(n:Nat)(i:Int):Option Nat:=if 0<=i then (if i<n then some i.toNat else none) else if -(n:Int)<=i then some (i+n).toNat else none
def atI(xs:List α)(i:Int):Option α:=(ixN xs.length i).bind λj=>xs[j]?
def bQX{i:Int}{j:Nat}(h:ixN n i=some j):seqIndex? i n=some j/\j<n/\-(n:Int)<=i/\i<n:=by
 unfold ixN at h;by_cases h0:0<=i
 ·rw[if_pos h0]at h;by_cases h1:i<n
  ·rw[if_pos h1]at h;have e:i.toNat=j:=Bg h
   exact⟨by rw[seqIndex_of h0 h1,e],by omega,by omega,h1⟩
  ·rw[if_neg h1]at h;cases h
 ·rw[if_neg h0]at h;by_cases h1:-(n:Int)<=i
  ·rw[if_pos h1]at h;have e:(i+n).toNat=j:=Bg h
   exact⟨by rw[seqIndex_neg (by omega) h1,e],by omega,h1,by omega⟩
  ·rw[if_neg h1]at h;cases h
def yL{xs:List α}{i:Int}{v:α}(h:atI xs i=some v):∃j,seqIndex? i xs.length=some j/\xs[j]?=some v/\j<xs.length/\-(xs.length:Int)<=i/\i<xs.length:=by
 unfold atI at h;cases e:ixN xs.length i with
 |none=>rw[e]at h;cases h
 |some j=>
  rw[e]at h;obtain⟨h1,h2,h3,h4⟩:=bQX e;exact⟨j,h1,h,h2,h3,h4⟩
def bD{xs:List α}{j:Nat}{v:α}(h:xs[j]?=some v):atI xs (j:Int)=some v:=by
 have hj:j<xs.length:=(Ad.mp h).1
 have e:ixN xs.length (j:Int)=some j:=by
  unfold ixN;rw[if_pos (by omega),if_pos (by omega)];simp
 unfold atI;rw[e];exact h
def dQS(b:Expr):Prop:=∀o i,subscripted b false o i=operate [o,i] (getItem o i)
def IxR(X:Cx)(r:R2):Prop:=
 ∀(value slice:Expr) (pins:Q2) (s:Shared) (σ:St) (H:Hp) (x y:V) (v u:Value) (Q:VK),Inv X pins σ H s->RelV x v->RelV y u->r x y H Q->
  subscripted slice false v u=operate [v,u] (getItem v u)->wpAny (model X.prog X.w) X.A (subscriptTail value slice v u) (EP X pins σ Q) X.xe s
def MtR(X:Cx)(id:String)(r:V->List V->Hp->VK->Prop):Prop:=
 ∀(pins:Q2) (s:Shared) (σ:St) (H:Hp) (x:V) (xs:List V) (v:Value) (us:List Value) (Q:VK),Inv X pins σ H s->RelV x v->Vals xs us->r x xs H Q->
  wpAny (model X.prog X.w) X.A (call (.builtin id) (v::us)) (EP X pins σ Q) X.xe s
section
variable {X:Cx} {a b:Expr} {ta tb:TE} {pos:Pos}
def IxR.or{r r':R2}(h:IxR X r)(h':IxR X r'):IxR X (λx y H Q=>r x y H Q\/r' x y H Q):=by
 intro value slice pins s σ H x y v u Q I rx ry q hs;rcases q with q|q
 ·exact h value slice pins s σ H x y v u Q I rx ry q hs
 ·exact h' value slice pins s σ H x y v u Q I rx ry q hs
def bG{r:R2}(hr:IxR X r)(ha:PE X a ta)(hb:PE X b tb)(hs:dQS b):PE X (.Subscript a b pos) (tOp r ta tb):=by
 intro pins s σ H Q I h;exact Subscript_ (eQG ha hb I h λv u s2 x y H2 I2 rx ry q=>hr a b pins s2 σ H2 x y v u Q I2 rx ry q (hs _ _))
def eQY(K:W.Frag):R2:=λx y H Q=>∃p xs i v,x=.ref p/\y=.int i/\SqL K H p xs/\atI xs i=some v/\Q v H
def eZQ(K:W.Frag):R2:=λx y H Q=>∃p xs i v,x=.ref p/\y=.int i/\SqT K H p xs/\atI xs i=some v/\Q v H
def eJS:R2:=λx y H Q=>∃z i c,x=.str z/\y=.int i/\z.length<=sizeLine/\atI z.cps.toList i=some c/\Q (.str ⟨#[c]⟩) H
def ix_list:IxR X (eQY X.K):=by
 intro value slice pins s σ H x y v u Q I rx ry h hs;obtain⟨p,xs,i,z,rfl,rfl,hq,he,q⟩:=h;cases rx;obtain⟨t,rfl⟩:=ry;obtain⟨its,r,pl,hz⟩:=I.list hq;obtain⟨j,h1,h2,h3,h4,h5⟩:=yL he;obtain⟨w,ew,rw'⟩:=r.get h2;have hl:=r.length
 have hn:=iW
 have fin:EP X pins σ Q w s:=⟨z,H,I,rw',q⟩
 by_cases h0:0<=i
 ·have hj:i.toNat=j:=by
   rw[seqIndex_of h0 h5]at h1;exact Bg h1
  exact item_listR pl.isList h0 (by omega) (by rw[hj];simpa using ew) fin hs
 ·have hj:(i+(its.toArray.size:Int)).toNat=j:=by
   rw[seqIndex_neg (by omega) h4]at h1
   rw[Az,<-hl];exact Bg h1
  exact subscriptTail_builtinR (x:=w) pl.isList.typeIs slot_list_getitem.lookup
   (wpAny_getItem_list_neg (Q:=λr s'=>r=w/\EP X pins σ Q r s') pl.isList (by omega) (by rw[List.size_toArray]<;>omega) (by omega) (by rw[hj];simpa using ew) ⟨rfl,fin⟩) hs
def ix_tup:IxR X (eZQ X.K):=by
 intro value slice pins s σ H x y v u Q I rx ry h hs;obtain⟨p,xs,i,z,rfl,rfl,hq,he,q⟩:=h;cases rx;obtain⟨t,rfl⟩:=ry;obtain⟨its,r,pl,hz⟩:=I.tuple hq;obtain⟨j,h1,h2,h3,h4,h5⟩:=yL he;obtain⟨w,ew,rw'⟩:=r.get h2;have hl:=r.length
 have hn:=iW
 have fin:EP X pins σ Q w s:=⟨z,H,I,rw',q⟩
 exact subscriptTail_builtinR (x:=w) pl.typeIs slot_tuple_getitem.lookup
  (getItem_tuple (j:=j) (Q:=λr s'=>r=w/\EP X pins σ Q r s') pl (by omega) (by omega) (by rw[List.size_toArray,<-hl];exact h1) (by simpa using ew) ⟨rfl,fin⟩) hs
def dJ3:IxR X eJS:=by
 intro value slice pins s σ H x y v u Q I rx ry h hs;obtain⟨z,i,c,rfl,rfl,hz,he,q⟩:=h;obtain⟨t,rfl⟩:=rx;obtain⟨t',rfl⟩:=ry;obtain⟨j,h1,h2,h3,h4,h5⟩:=yL he;have hl:z.cps.toList.length=z.length:=by simp[Str.length]
 rw[hl]at h1 h4 h5;have hn:=iW
 exact tail_any (Hj s z t) slot_str_getitem.lookup (getItem_str (c:=c) (by
  have e1:decide (i < -(2^63:Int))=false:=Ay (by omega)
  have e2:decide (i ≥ 2^63)=false:=Ay (by omega)
  rw[e1,e2,Bool.or_false]) (by rw[h1];simpa using h2) ⟨.str ⟨#[c]⟩,H,I.tok _,⟨_,rfl⟩,q⟩) hs
def rIx(K:W.Frag):R2:=λx y H Q=>eQY K x y H Q\/eZQ K x y H Q\/eJS x y H Q
def ix_seq:IxR X (rIx X.K):=ix_list.or (ix_tup.or dJ3)
def aZ1(its:List Value)(n j:Nat)(u:Value):Obj.mapSeq (·.setIfInBounds j u) {cls:=.type "list",data:=.seq its.toArray n}={cls:=.type "list",data:=.seq (its.set j u).toArray n}:=by
 simp[Obj.mapSeq]
def Inv.lst{p:Addr}(I:Inv X pins σ H s)(h:H p=some (.lst xs)):∃(its:List Value) (n:Nat),Vals xs its/\s.heap.get? p=some {cls:=.type "list",data:=.seq its.toArray n}/\xs.length<=sizeLine:=by
 obtain⟨z,its,n,r,e⟩:=I.hok p _ h;exact⟨its,n,r,e,z⟩
def Inv.lstUpd{p:Addr}{ys:List V}{its':List Value}{n':Nat}{f:Obj->Obj}(I:Inv X pins σ H s)(h:H p=some (.lst xs))(ho:s.heap.get? p=some {cls:=.type "list",data:=.seq its.toArray n})(hf:f {cls:=.type "list",data:=.seq its.toArray n}={cls:=.type "list",data:=.seq its'.toArray n'})(r:Vals ys its')(hz:ys.length<=sizeLine)(t:Nat):Inv X pins σ (upd H p (.lst ys)) {s with heap:=s.heap.update p f,toks:=t}:=by
 have e:(s.heap.update p f).get? p=some {cls:=.type "list",data:=.seq its'.toArray n'}:=by
  rw[Heap.get?_update_self f ho (by rw[hf]<;>rfl),hf]
 refine I.write (x:=p) (e:=p) (by rw[h];trivial) (.inl rfl) (λb u hb q=>(Bz _ _ (Ne.symm hb)).trans q) ⟨_,e⟩ ?_
 exact⟨hz,its',n',r,e⟩
def dZH:V->V->V->Hp->(Hp->Prop)->Prop:=λo i v H Q=>∃p xs k j,o=.ref p/\i=.int k/\H p=some (.lst xs)/\ixN xs.length k=some j/\Q (upd H p (.lst (xs.set j v)))
def zY:eZ7 X dZH:=by
 intro pins s σ H o i v ov iv u Q I ro ri rv h;obtain⟨p,xs,k,j,rfl,rfl,hp,hj,q⟩:=h;cases ro;obtain⟨t,rfl⟩:=ri;obtain⟨its,n,r,ho,hz⟩:=I.lst hp;obtain⟨h1,h2,h3,h4⟩:=bQX hj;have hl:=r.length
 have hn:=iW
 have I':Inv X pins σ (upd H p (.lst (xs.set j v))) {s with heap:=s.heap.update p (Obj.mapSeq (·.setIfInBounds j u))}:=
  I.lstUpd hp ho (aZ1 its n j u) (r.set rv j) (by rw[Du];exact hz) s.toks
 by_cases h0:0<=k
 ·have hk:k.toNat=j:=by
   rw[seqIndex_of h0 h4]at h1;exact Bg h1
  exact W.ki_setAt ho h0 (by omega) (by rw[Az,<-hl];exact h4) (by rw[hk];exact⟨_,I',q⟩)
 ·have hk:(k+(its.toArray.size:Int)).toNat=j:=by
   rw[seqIndex_neg (by omega) h3]at h1
   rw[Az,<-hl];exact Bg h1
  exact W.ki_setBack ho (by omega) (by rw[Az,<-hl];exact h3) (by omega) (by rw[hk];exact⟨_,I',q⟩)
def wY(lo hi:Option Int)(n:Nat):(sliceBounds lo hi none n).1=((HT.sIx n 0 lo:Nat):Int)/\(sliceBounds lo hi none n).2.1=((HT.sIx n n hi:Nat):Int)/\(sliceBounds lo hi none n).2.2=1:=by
 refine⟨?_,?_,rfl⟩
 ·cases lo with
  |none=>simp[sliceBounds,HT.sIx]
  |some i=>
   simp only[sliceBounds,HT.sIx,Option.getD_none,show (1:Int)>0 by decide,if_true]
   by_cases h:i<0
   ·simp only[h,if_true]<;>omega
   ·simp only[h,if_false]<;>omega
 ·cases hi with
  |none=>simp[sliceBounds,HT.sIx]
  |some i=>
   simp only[sliceBounds,HT.sIx,Option.getD_none,show (1:Int)>0 by decide,if_true]
   by_cases h:i<0
   ·simp only[h,if_true]<;>omega
   ·simp only[h,if_false]<;>omega
def uS(its:List Value)(lo hi:Option Int):slicePick its.toArray lo hi none=((its.drop (HT.sIx its.length 0 lo)).take (HT.sIx its.length its.length hi-HT.sIx its.length 0 lo)).toArray:=by
 obtain⟨h1,h2,h3⟩:=wY lo hi its.toArray.size;unfold slicePick;rw[h1,h2,h3];simp only[sliceRange_one,pick_run,List.size_toArray]<;>rfl
def fQM(K:W.Frag):V->Option Int->Option Int->Hp->VK->Prop:=λx lo hi H Q=>∃a xs,x=.ref a/\SqL K H a xs/\∀p,H p=none->Q (.ref p) (upd H p (.lst (kO xs lo hi)))
def sl_list:SlR X (fQM X.K):=by
 intro pins s σ H x v vl vu lo hi sl Q I rx hs pl pu h;obtain⟨a,xs,rfl,hx,q⟩:=h;cases rx;obtain⟨its,r,ht,hz⟩:=I.list hx;have hlen:=r.length
 refine⟨"list",_,slot_list_getitem.lookup,ht.isList.typeIs,?_⟩;refine wpAny_getItem_list_slice ht.isList hs pl pu .none (by simp) ?_ (by rw[List.size_toArray]<;>omega)
 rw[uS,<-hlen];refine⟨.ref s.heap.objs.size,_,I.laid (t':=s.toks) (o:=.lst (kO xs lo hi)) (λb ob q=>Ah _ q) (Ai _) ?_,rfl,q _ (I.hok.fresh (Ai _))⟩;exact⟨Cc (aQC xs lo hi) hz,_,0,(r.drop (HT.sIx xs.length 0 lo)).take (HT.sIx xs.length xs.length hi-HT.sIx xs.length 0 lo),Av _ rfl⟩
def cM:V->Bool
 |.non=>true
 |.bl _=>true
 |.int _=>true
 |.str _=>true
 |_=>false
def eqV:V->V->Bool
 |.non,.non=>true
 |.bl a,.bl b=>a==b
 |.bl a,.int b=>(if a then 1 else 0)==b
 |.int a,.bl b=>a==(if b then 1 else 0)
 |.int a,.int b=>a==b
 |.str a,.str b=>a==b
 |_,_=>false
def yT{A:Around}{s:Shared}{y:V}{u v:Value}(ry:RelV y u)(rx:RelV x v)(fy:cM y=true)(fx:cM x=true):SeqAt.EqAt A s u v (eqV y x):=by
 cases y with
 |non=>
  cases ry;cases x with
  |non=>cases rx;exact SeqAt.EqAt.same _
  |bl b=>cases rx;exact SeqAt.EqAt.none_bool b
  |int b=>obtain⟨t,rfl⟩:=rx;exact SeqAt.EqAt.none_int b t
  |str b=>obtain⟨t,rfl⟩:=rx;exact SeqAt.EqAt.none_str b t
  |_=>exact absurd (show false=true from fx) Ar
 |bl a=>
  cases ry;cases x with
  |non=>cases rx;exact SeqAt.EqAt.bool_none a
  |bl b=>cases rx;exact SeqAt.EqAt.bool_bool a b
  |int b=>obtain⟨t,rfl⟩:=rx;exact SeqAt.EqAt.bool_int a b t
  |str b=>obtain⟨t,rfl⟩:=rx;exact SeqAt.EqAt.bool_str a b t
  |_=>exact absurd (show false=true from fx) Ar
 |int a=>
  obtain⟨t',rfl⟩:=ry;cases x with
  |non=>cases rx;exact SeqAt.EqAt.int_none a t'
  |bl b=>cases rx;exact SeqAt.EqAt.int_bool a t' b
  |int b=>obtain⟨t,rfl⟩:=rx;exact SeqAt.EqAt.int_int a t' b t
  |str b=>obtain⟨t,rfl⟩:=rx;exact SeqAt.EqAt.int_str a t' b t
  |_=>exact absurd (show false=true from fx) Ar
 |str a=>
  obtain⟨t',rfl⟩:=ry;cases x with
  |non=>cases rx;exact SeqAt.EqAt.str_none a t'
  |bl b=>cases rx;exact SeqAt.EqAt.str_bool a t' b
  |int b=>obtain⟨t,rfl⟩:=rx;exact SeqAt.EqAt.str_int a t' b t
  |str b=>obtain⟨t,rfl⟩:=rx;exact SeqAt.EqAt.str_str a t' b t
  |_=>exact absurd (show false=true from fx) Ar
 |_=>exact absurd (show false=true from fy) Ar
def eqU(x:V)(u:Value):Bool:=match u with
 |.none=>eqV .non x
 |.bool b=>eqV (.bl b) x
 |.int i _=>eqV (.int i) x
 |.str z _=>eqV (.str z) x
 |_=>false
def cX7{y:V}{u:Value}(r:RelV y u)(f:cM y=true):eqU x u=eqV y x:=by
 cases y with
 |non=>cases r;rfl
 |bl b=>cases r;rfl
 |int i=>obtain⟨t,rfl⟩:=r;rfl
 |str z=>obtain⟨t,rfl⟩:=r;rfl
 |_=>exact absurd (show false=true from f) Ar
def nE:∀ {xs:List V} {us:List Value},Vals xs us->xs.all cM=true->us.any (eqU x)=xs.any λy=>eqV y x
 |_,_,.nil,_=>rfl
 |y::xs,u::us,.cons r t,f=>by
  rw[List.all_cons,Fw]at f;rw[Ha,Ha,cX7 r f.1,nE t f.2]
def kJ{A:Around}{v:Value}(rx:RelV x v)(fx:cM x=true):∀ {xs:List V} {us:List Value},Vals xs us->xs.all cM=true->∀u∈us,SeqAt.EqAt A s u v (eqU x u)
 |_,_,.nil,_=>λu hu=>by cases hu
 |y::xs,u::us,.cons r t,f=>λu' hu=>by
  rw[List.all_cons,Fw]at f;rcases Be.mp hu with rfl|hu
  ·rw[cX7 r f.1];exact yT r rx f.1 fx
  ·exact kJ rx fx t f.2 u' hu
def inV(x:V)(xs:List V):Bool:=xs.any λy=>eqV y x
def rIn(K:W.Frag)(neg:Bool):R2:=λx y H Q=>∃p xs,y=.ref p/\(SqL K H p xs\/SqT K H p xs)/\cM x=true/\xs.all cM=true/\Q (.bl (if neg then !inV x xs else inV x xs)) H
def op_in_seq:OpR X (compareOp .In) (rIn X.K false):=by
 intro pins s σ H x y v u Q I rx ry h;obtain⟨p,xs,rfl,hq,fx,fs,q⟩:=h;cases ry;rcases hq with hq|hq
 ·obtain⟨its,r,pl,hz⟩:=I.list hq;refine SeqAt.in_listAt (eqU x) pl.isList (λw hw=>kJ rx fx r fs w (by simpa using hw)) ⟨.bl _,H,I,rfl,?_⟩
  rw[show its.toArray.any (eqU x)=its.any (eqU x) by simp,nE r fs]
  exact q
 ·obtain⟨its,r,pl,hz⟩:=I.tuple hq;refine SeqAt.in_tupleAt (eqU x) pl (λw hw=>kJ rx fx r fs w (by simpa using hw)) ⟨.bl _,H,I,rfl,?_⟩
  rw[show its.toArray.any (eqU x)=its.any (eqU x) by simp,nE r fs]
  exact q
def op_notIn_seq:OpR X (compareOp .NotIn) (rIn X.K true):=by
 intro pins s σ H x y v u Q I rx ry h;obtain⟨p,xs,rfl,hq,fx,fs,q⟩:=h;cases ry;rcases hq with hq|hq
 ·obtain⟨its,r,pl,hz⟩:=I.list hq;refine SeqAt.notIn_listAt (eqU x) pl.isList (λw hw=>kJ rx fx r fs w (by simpa using hw)) ⟨.bl _,H,I,rfl,?_⟩
  rw[show its.toArray.any (eqU x)=its.any (eqU x) by simp,nE r fs]
  exact q
 ·obtain⟨its,r,pl,hz⟩:=I.tuple hq;refine SeqAt.notIn_tupleAt (eqU x) pl (λw hw=>kJ rx fx r fs w (by simpa using hw)) ⟨.bl _,H,I,rfl,?_⟩
  rw[show its.toArray.any (eqU x)=its.any (eqU x) by simp,nE r fs]
  exact q
def xE:CallR X (.builtin "len") (λxs H Q=>∃p ys,xs=[.ref p]/\(SqL X.K H p ys\/SqT X.K H p ys)/\Q (.int ys.length) H):=by
 intro pins s σ H xs us Q I r h;obtain⟨p,ys,rfl,hq,q⟩:=h;obtain⟨u,rfl,rx⟩:=dA r;cases rx;have hn:=iW
 rcases hq with hq|hq
 ·obtain⟨its,r',pl,hz⟩:=I.list hq;have hlen:=r'.length
  exact Calls.call_len_list pl.isList (by simp only[List.size_toArray]<;>omega) ⟨.int ys.length,H,I.tok _,⟨s.toks+1,by rw[List.size_toArray,hlen]⟩,q⟩
 ·obtain⟨its,r',pl,hz⟩:=I.tuple hq;have hlen:=r'.length
  exact len_tuple pl (by simp only[List.size_toArray]<;>omega) ⟨.int ys.length,H,I.tok _,⟨s.toks+1,by rw[List.size_toArray,hlen]⟩,q⟩
def CallR.or{f:Value}{r r':List V->Hp->VK->Prop}(h:CallR X f r)(h':CallR X f r'):CallR X f (λxs H Q=>r xs H Q\/r' xs H Q):=by
 intro pins s σ H xs us Q I rs q;rcases q with q|q
 ·exact h pins s σ H xs us Q I rs q
 ·exact h' pins s σ H xs us Q I rs q
def call_list_of:CallR X (.type "list") (λxs H Q=>∃p ys,xs=[.ref p]/\(SqL X.K H p ys\/SqT X.K H p ys)/\∀l,H l=none->Q (.ref l) (upd H l (.lst ys))):=by
 intro pins s σ H xs us Q I r h;obtain ⟨p,ys,rfl,hq,q⟩:=h;obtain ⟨u,rfl,rx⟩:=dA r;cases rx;have fin:∀ (its:List Value),Vals ys its->ys.length<=sizeLine->∀ (h':Heap) (c':Nat),(∀ b o',s.heap.get? b=some o'->h'.get? b=some o')->
     h'.get? s.heap.objs.size=some {cls:=.type "list",dict:=none,data:=.seq its.toArray c',slots:=#[]}->EP X pins σ Q (.ref s.heap.objs.size) {s with heap:=h'}:=λits r' hz h' c' kp e=>
  ⟨.ref s.heap.objs.size,_,I.laid (t':=s.toks) kp (Ai _) (show ObjOk X.prog X.w _ h' _ (.lst ys) from⟨hz,its,c',r',e⟩),rfl,q _ (I.hok.fresh (Ai _))⟩
 rcases hq with hq|hq
 ·obtain⟨its,r',pl,hz⟩:=I.list hq;have hlen:=r'.length
  obtain⟨o,ho,hc,n,hd⟩:=pl.isList;exact call_list_seq p (.inl rfl) ho hc hd (λh' c' kp e=>fin its r' hz h' c' kp e) (by simp only[List.size_toArray]<;>omega)
 ·obtain⟨its,r',pl,hz⟩:=I.tuple hq;have hlen:=r'.length
  obtain⟨o,ho,hc,n,hd⟩:=pl;exact call_list_seq p (.inr rfl) ho hc hd (λh' c' kp e=>fin its r' hz h' c' kp e) (by simp only[List.size_toArray]<;>omega)
def tyV(K:W.Frag)(T:String)(x:V)(H:Hp):Prop:=match x with
 |.str _=>T="str"
 |.int _=>T="int"
 | .ref p=>(T="list"/\∃ xs,SqL K H p xs)\/(T="tuple"/\∃ o,K.lookup p=some o/\o.cls=.type "tuple"/\o.dict=none)\/
     (T="dict"/\((∃kvs,H p=some (.dK kvs))\/∃kvs,H p=some (.dT kvs)))\/(T="set"/\∃S n,H p=some (.set S n))
 |_=>False
def dJ7{T:String}{v:Value}(I:Inv X pins σ H s)(r:RelV x v)(ty:tyV X.K T x H):s.TypeIs v T/\∀a,v=.ref a->∃ob,s.heap.get? a=some ob/\ob.dict=none:=by
 cases x with
 |str z=>
  obtain⟨t,rfl⟩:=r;cases (show T="str" from ty);exact⟨Hj s z t,λ_ e=>nomatch e⟩
 |int i=>
  obtain⟨t,rfl⟩:=r;cases (show T="int" from ty);exact⟨typeIs_int s i t,λ_ e=>nomatch e⟩
 |ref p=>
  cases r;rcases ty with⟨rfl,xs,hq⟩|⟨rfl,o,hk,hc,hd⟩|⟨rfl,hk⟩|⟨rfl,S,n,hk⟩
  ·obtain⟨its,_,pl,_⟩:=I.list hq;refine⟨pl.isList.typeIs,λa e=>?_⟩;cases e;obtain⟨o,n,e,c,hd,_⟩:=pl;exact⟨o,e,hd⟩
  ·refine⟨⟨o,I.kIn p o hk,hc⟩,λa e=>?_⟩;cases e;exact⟨o,I.kIn _ o hk,hd⟩
  ·have z:∃ o,s.heap.get? p=some o/\o.ExactDict:=by
    rcases hk with⟨kvs,hk⟩|⟨kvs,hk⟩
    ·obtain⟨_,_,_,_,o,_,_,e,ex,_⟩:=I.hok p _ hk;exact⟨o,e,ex⟩
    ·obtain⟨_,_,_,_,o,_,_,e,ex,_⟩:=I.hok p _ hk;exact⟨o,e,ex⟩
   obtain⟨o,e,ex⟩:=z;refine⟨⟨o,e,ex.1⟩,λa e2=>?_⟩;cases e2;exact⟨o,e,ex.2.1⟩
  ·obtain⟨o,_,_,_,e,ex,_⟩:=I.hok p _ hk;refine⟨⟨o,e,ex.1⟩,λa e2=>?_⟩;cases e2;exact⟨o,e,ex.2.1⟩
 |_=>exact False.elim ty
variable {o e:Expr} {t:TA} {T:String} {r:V->List V->Hp->VK->Prop}
end
def MtM(X:Cx)(id:String)(r:V->List V->Hp->VK->Prop):Prop:=
 ∀(pins:Q2) (s:Shared) (σ:St) (H:Hp) (x:V) (xs:List V) (v:Value) (us:List Value) (Q:VK),Inv X pins σ H s->RelV x v->Vals xs us->r x xs H Q->
  wpAny (model X.prog X.w) X.A (call (.builtin id) (v::us)) (EP X pins σ Q) X.xe s
def Vals.one:∀ {x:V} {us:List Value},Vals [x] us->∃u,us=[u]/\RelV x u
 |_,_,.cons r .nil=>⟨_,rfl,r⟩
def Vals.two:∀ {x y:V} {us:List Value},Vals [x,y] us->∃u v,us=[u,v]/\RelV x u/\RelV y v
 |_,_,_,.cons r (.cons q .nil)=>⟨_,_,rfl,r,q⟩
def Vals.rep{us:List Value}(h:Vals xs us):∀k:Nat,Vals (List.replicate k xs).flatten (List.replicate k us).flatten
 |0=>.nil
 |k+1=>by
  rw[Da,Da,Co,Co];exact Vals.append h (Vals.rep h k)
def vV(its:List Value):∀(k:Nat) (acc:List Value),
 List.foldl (λx1 x2=>x1++x2) acc.toArray (List.replicate k its.toArray)=(acc++(List.replicate k its).flatten).toArray
 |0,acc=>by simp
 |k+1,acc=>by
  have e:acc.toArray++its.toArray=(acc++its).toArray:=by simp
  have e2:(acc++its)++(List.replicate k its).flatten=acc++(List.replicate (k+1) its).flatten:=by
   rw[Da,Co,Fn]
  rw[<-e2,<-vV its k (acc++its),<-e,Da,List.foldl_cons]
section
variable {l:Addr} {ys:List V}
def Inv.lset{its':List Value}{f:Array Value->Array Value}{t':Nat}(I:Inv X pins σ H s)(hH:H l=some (.lst xs))(e:s.heap.get? l=some {cls:=.type "list",data:=.seq its.toArray n})(hf:f its.toArray=its'.toArray)(hv:Vals ys its')(hz:ys.length<=sizeLine):Inv X pins σ (upd H l (.lst ys)) {s with heap:=s.heap.update l (Obj.mapSeq f),toks:=t'}:=by
 have q:=PySem.IsL.update e f
 rw[hf]at q;refine I.write (x:=l) (e:=l) (by rw[hH];exact trivial) (.inl rfl) (λb' u hb hu=>(Bz s.heap (Obj.mapSeq f) (Ne.symm hb)).trans hu) ⟨_,q⟩ ?_
 exact⟨hz,its',_,hv,q⟩
def Inv.lnew{its:List Value}{t':Nat}(I:Inv X pins σ H s)(hv:Vals ys its)(hz:ys.length<=sizeLine):Inv X pins σ (upd H s.heap.objs.size (.lst ys)) {s with heap:=s.heap.push {cls:=.type "list",data:=.seq its.toArray},toks:=t'}:=
 I.laid (λ_ _ q=>Ah _ q) (Ai _) ⟨hz,its,0,hv,Av _ rfl⟩
def Inv.fresh(I:Inv X pins σ H s):H s.heap.objs.size=none:=I.hok.fresh (Ai _)
def Inv.lstM(I:Inv X pins σ H s)(hH:H l=some (.lst xs)):xs.length<=sizeLine/\∃(its:List Value) (n:Nat),Vals xs its/\xs.length=its.length/\s.heap.get? l=some {cls:=.type "list",data:=.seq its.toArray n}:=by
 obtain⟨z,its,n,r,e⟩:=I.hok l _ hH;exact⟨z,its,n,r,r.length,e⟩
def aXI(h:n<=sizeLine):Builtin.List.listTooLong n=false:=by
 unfold Builtin.List.listTooLong;exact Ay (by omega)
end
def aJ4:V->List V->Hp->VK->Prop:=λx vs H Q=>∃l xs y,x=.ref l/\vs=[y]/\H l=some (.lst xs)/\xs.length<sizeLine/\Q .non (upd H l (.lst (xs++[y])))
def vZ:MtM X "list.append" aJ4:=by
 intro pins s σ H x vs v us Q I rx rv h;obtain⟨l,xs,y,rfl,rfl,hH,hz,q⟩:=h;cases rx;obtain⟨u,rfl,ru⟩:=rv.one;obtain⟨z,its,n,r,hl,e⟩:=I.lstM hH;refine Fa F.slot_list_append ⟨_,e,rfl⟩ F.entry_list_append (F.args_list_append_2 _ _) (PySem.list_append l its.toArray n u (by rw[Az];omega)) ⟨e,?_⟩
 refine⟨.non,_,I.lset (its':=its++[u]) hH e (by simp) (r.append (.cons ru .nil)) ?_,rfl,q⟩
 rw[Ag,List.length_singleton];omega
def aJN:V->List V->Hp->VK->Prop:=λx vs H Q=>∃l b xs zs,x=.ref l/\vs=[.ref b]/\H l=some (.lst xs)/\H b=some (.lst zs)/\xs.length+zs.length<=sizeLine/\Q .non (upd H l (.lst (xs++zs)))
def bXS:MtM X "list.extend" aJN:=by
 intro pins s σ H x vs v us Q I rx rv h;obtain⟨l,b,xs,zs,rfl,rfl,hH,hB,hz,q⟩:=h;cases rx;obtain⟨u,rfl,ru⟩:=rv.one;cases ru;obtain⟨z,its,n,r,hl,e⟩:=I.lstM hH;obtain⟨z2,its2,n2,r2,hl2,e2⟩:=I.lstM hB;have hsz:its.toArray.size+its2.toArray.size<=sizeLine:=by rw[Az,Az];omega
 have hlong:¬(!its.toArray.isEmpty&&Builtin.List.listTooLong (its.toArray.size+its2.toArray.size))=true:=by
  rw[aXI hsz,Bool.and_false];exact Ar
 refine Fa F.slot_list_extend ⟨_,e,rfl⟩ F.entry_list_extend (F.args_list_extend_2 _ _)
  (AutoSeq1.list_extend_list_list_0 l its.toArray n b its2.toArray n2 hlong (by rw[Az];omega) (by omega)) ⟨e,e2,?_⟩
 refine⟨.non,_,I.lset (its':=its++its2) hH e (by simp) (r.append r2) ?_,rfl,q⟩
 rw[Ag];omega
def fXF:R2:=λx y H Q=>∃l b xs zs,x=.ref l/\y=.ref b/\H l=some (.lst xs)/\H b=some (.lst zs)/\xs.length+zs.length<=sizeLine/\∀p,H p=none->Q (.ref p) (upd H p (.lst (xs++zs)))
def dJU:OpR X (binaryOp .Add) fXF:=by
 intro pins s σ H x y v u Q I rx ry h;obtain⟨l,b,xs,zs,rfl,rfl,hH,hB,hz,q⟩:=h;cases rx;cases ry;obtain⟨z,its,n,r,hl,e⟩:=I.lstM hH;obtain⟨z2,its2,n2,r2,hl2,e2⟩:=I.lstM hB;refine PySem.P.add_list e e2 ?_ (by rw[Az,Az];omega)
 have ea:its.toArray++its2.toArray=(its++its2).toArray:=by simp
 rw[ea];exact⟨.ref _,_,I.lnew (t':=s.toks) (r.append r2) (by rw[Ag];omega),rfl,q _ I.fresh⟩
def fXI:R2:=λx y H Q=>∃l k xs,x=.ref l/\y=.int k/\H l=some (.lst xs)/\-(2^63)<=k/\k<2^63/\xs.length*k.toNat<=sizeLine/\
 ∀p,H p=none->Q (.ref p) (upd H p (.lst (List.replicate k.toNat xs).flatten))
def cJ2(xs:List α)(k:Nat):(List.replicate k xs).flatten.length=k*xs.length:=by
 induction k with
 |zero=>simp
 |succ k ih=>rw[Da,Co,Ag,ih,Nat.succ_mul,Nat.add_comm]
def yS:OpR X (binaryOp .Mult) fXI:=by
 intro pins s σ H x y v u Q I rx ry h;obtain⟨l,k,xs,rfl,rfl,hH,h1,h2,hz,q⟩:=h;cases rx;obtain⟨t,rfl⟩:=ry;obtain⟨z,its,n,r,hl,e⟩:=I.lstM hH;have hlen:its.toArray.size*k.toNat<=sizeLine:=by rw[Az,<-hl];exact hz
 have hcap:¬its.toArray.size*k.toNat>(2^63-1) / 8:=by
  have:(sizeLine:Nat)<=(2^63-1) / 8:=by decide
  omega
 have hfit:¬(!Builtin.List.listFitsIndex k)=true:=by
  rw[fitsIndex_both h1 h2];exact Ar
 have hlong:¬Builtin.List.listTooLong (its.toArray.size*k.toNat)=true:=by
  rw[aXI hlen];exact Ar
 have hnew:List.foldl (λx1 x2=>x1++x2) #[] (List.replicate (if its.toArray.isEmpty=true then 0 else k.toNat) its.toArray)=(List.replicate k.toNat its).flatten.toArray:=by
  have f0:∀m:Nat,List.foldl (λx1 x2=>x1++x2) #[] (List.replicate m its.toArray)=(List.replicate m its).flatten.toArray:=λm=>by
   have:=vV its m []
   rw[List.nil_append]at this;exact this
  rw[f0];cases its with
  |nil=>simp
  |cons a r'=>rw[if_neg (by simp)]
 refine wpAny_binaryOp_repeat_ref (T := "list") (U := "int") (by decide) ⟨_,e,rfl⟩ (λs'=>typeIs_int s' k t) noFill_list_mul F.fills_int_mul F.slot_int_rmul repeat_list F.slot_int_index.lookup
  (Fa F.slot_int_rmul (typeIs_int s k t) F.entry_int_rmul (F.args_int_rmul_2 _ _) (int___rmul___int_list k t l its.toArray n)
   ⟨e,rfl,⟨_,e,rfl⟩,Fa F.slot_list_mul ⟨_,e,rfl⟩ F.entry_list_mul (F.args_list_mul_2 _ _) (AutoListH.list___mul___list_int_3 l its.toArray n k t hfit hcap hlong) ⟨e,?_⟩⟩)
 rw[hnew];exact⟨.ref _,_,I.lnew (t':=s.toks) (r.rep k.toNat) (by rw[cJ2,Nat.mul_comm];exact hz),rfl,q _ I.fresh⟩
end L2
namespace Att
open PySem PySem.W PySem.Calls PyProof.Rows
def qB{P:Params}{h:Heap}:∀(ns:List Int) (vs:List Value),WellAll P h vs (ns.map WData.int)->IntsAre vs ns:=by
 intro ns;induction ns with
 |nil=>
  intro vs w;rw[List.map_nil]at w;cases w;exact .nil
 |cons n ns ih=>
  intro vs w;rw[Au]at w;cases w with
  |cons a b=>
   cases a;exact .cons _ _ (ih _ b)
def bZS{l:OpenLaw}{n:Nat}(hn:l.most=some n){P:Params}{h:Heap}{args:List WData}{vals:List Value}(hpre:l.row.toRowW.claim.pre args=true)(hwl:WellAll P h vals args):∃a vs ns,vals=[Value.ref a]/\args=[WData.list (ns.map WData.int)]/\h.get? a=some {cls:=.type "list",data:=.seq vs.toArray}/\IntsAre vs ns/\ns.length<=n:=by
 have hsh:WShape.hasAll [] args [.list .int]=true:=(pre_splitW hpre).1
 have hc:l.pre.holds [] {args:=args}=true:=(pre_splitW hpre).2
 obtain⟨d,r,rfl,h1,h2⟩:=hasAllW_cons hsh;obtain rfl:=hasAllW_nil h2;obtain⟨xs,rfl,h3⟩:=hasW_list h1;obtain⟨ns,rfl⟩:=items_int h3;have hlen:ns.length<=n:=by
  unfold OpenLaw.pre at hc;have h4:(WTm.not (.lt (.lit (.int (n:Int))) (.len (.arg 0)))).holds [] {args:=[.list (ns.map .int)]}=true:=by
   have h4:=(holds_andW hc).1
   rw[hn]at h4;exact h4
  have h5:=condW_of h4 (w_not (w_lt w_lit (w_len_list (w_arg rfl))))
  rw[Ab]at h5;refine Nat.le_of_not_lt λq=>?_;have q':(n:Int)<((ns.length:Nat):Int):=by omega
  first
   |(rw[Ap q']at h5;exact absurd h5 (by decide))
   |(simp at h5;omega)
 cases hwl with
 |cons w1 w2=>
  cases w2;cases w1 with
  |list ho hall=>exact⟨_,_,ns,rfl,rfl,ho,qB ns _ hall,hlen⟩
def bX8(l:OpenLaw)(args:List WData):l.row.toRowW.claim.post args (.bool true) args=true:=
 postW_of (r:=l.row.toRowW) (X:=(true==true))
  (show WShape.has [] (.bool true) .bool=true by first|rfl|decide|simp[WShape.has,WShape.arms,WShape.armsAll])
  (show (WTm.eq .res (.lit (.bool true))).value [] {args:=args,res:=some (.bool true),after:=args}=some (.bool (true==true)) from w_eq_bool (w_res rfl) w_lit) rfl
def attach_call{l:OpenLaw}{n:Nat}{q:Program}{loose:List Str}{XP:(Q5)->Heap->Prop}{YP:World->Heap->Prop}{d:DefRec}(hn:l.most=some n)(hdf:d.params.defaults=[])(call:∀(w:World) (s₀ s₁:Shared) (mg mb:Q5) (fa:Addr) (o:Obj) (pm cd doc:Value) (a:Addr) (vs:List Value) (ns:List Int),
 Ground q loose [] XP w s₀ mg mb s₁.heap->YP w s₁.heap->
 s₁.heap.get? fa=some o->o.data=.func (docDef d.name d.params d.body d.scope pm cd doc)->s₁.heap.CodeRec cd d.name->mg d.name=some (.ref fa)->
 s₁.heap.get? a=some {cls:=.type "list",data:=.seq vs.toArray}->IntsAre vs ns->ns.length<=n->s₁.gens=#[]->
 codeAny (model l.prog w) callerA (.call (.ref fa) ⟨[.ref a],[]⟩) (λr s'=>r=.ok (.ret (.bool true))/\OldK s₁.heap s'.heap/\s'.os=s₁.os/\AllBare s'.gens) s₁):WalkO q loose XP YP l.row.toRowW d [] (λf vs=>PySem.call f vs):=by
 intro w s₀ s₁ mg mb G Y fa o pm cd doc dV kV ho hd hcd hD hmg hg args vals as hpre hlay hrd hwl hlo;obtain rfl:dV=.none:=Dflts.none hD hdf;obtain rfl:kV=.none:=Dflts.noKw hD;obtain⟨a,vs,ns,rfl,rfl,hobj,hints,hlen⟩:=bZS hn hpre hwl;refine enter_call (Ei (call w s₀ s₁ mg mb fa o pm cd doc a vs ns G Y ho (fd_plain hd) hcd hmg hobj hints hlen hg) λr s' hq=>?_);obtain⟨rfl,h2,h3,h4⟩:=hq;exact⟨.inl ⟨.bool true,.bool true,[],rfl,λ_=>rfl,.bool true,bX8 l _,λ_=>⟨List.Pairwise.nil,λ_ hm=>(nomatch hm)⟩⟩,h2,h3,h4⟩
end Att
namespace L2
open PySem PySem.Spec PyProof.Rows
variable {x:Str}
def vF:∀ {vs:List Value} {ns:List Int},IntsAre vs ns->Vals (ns.map V.int) vs
 |_,_,.nil=>.nil
 |_,_,.cons n t h=>.cons ⟨t,rfl⟩ (vF h)
def iU(s:Stmt):Arguments:=match s with
 |.FunctionDef _ a _ _ _ _ _ _ _ _=>a
 |_=>{posonlyargs:=[],args:=[],vararg:=none,kwonlyargs:=[],kw_defaults:=[],kwarg:=none,defaults:=[]}
def eY(s:Stmt):List Stmt:=match s with
 |.FunctionDef _ _ b _ _ _ _ _ _ _=>b
 |_=>[]
def aI(s:Stmt):Scope:=match s with
 |.FunctionDef _ _ _ _ _ _ sc _ _ _=>sc
 |_=>{kind:=.function,names:=[],isGenerator:=false,isCoroutine:=false}
abbrev CX0:CXT:=λ_ _ _ _ _ _=>False
abbrev E0:XK:=λ_ _ _=>False
def cX0{X:Cx}:iQ CX0 X E0:=λ_ _ _ _ _ _ _ h=>h.elim
structure Fun (K:W.Frag) (x qual:Str) (st:Stmt) (f:Addr) (fd:FuncData):Prop where
 ex:∃(oc:Value) (od:Option Addr) (kV doc pm:Value) (an:Option Addr) (cdv ct:Value) (osl:Array (Option Value)),
  fd=W.fnOf x qual (iU st) (eY st) (aI st) .none kV doc pm an cdv ct/\K.lookup f=some ⟨oc,od,.func fd,osl⟩/\W.codeIn K cdv qual=true
 kp:W.keepIn K (.ref f)=true
section
variable {P:Program} {w:World} {K:W.Frag} {mg:Q5} {base:Heap}
def Fun.ok{qual:Str}{st:Stmt}{f:Addr}{fd:FuncData}{N ps:List Str}{k:Nat}{sp:Sp}(F:Fun K x qual st f fd)(S:FnScope N ps (aI st))(len:∀vs H Q E,sp vs H Q E->vs.length=ps.length)(hbody:∀(cdv:Value) (A:Around) (outer:List Env) (s:Shared) (H:Hp) (vs:List V) (Q:VK) (E:XK),Room k (A.deeper (envOfC qual (aI st) s.heap.objs.size f cdv))->sp vs H Q E->
 ∃t,PSs (gD CX0 P w K mg base N qual (aI st) f cdv A outer s H E).nox (eY st) t/\t {nx:=λ_ H'=>Q .non H',rt:=Q} (lX N vs) H):FnOk P w K mg base CX0 (k+1) f fd ps sp:=by
 obtain⟨oc,od,kV,doc,pm,an,cdv,ct,osl,rfl,lk,hcd⟩:=F.ex;refine cXT lk hcd S len λA outer s H vs Q E hr hsp=>?_;obtain⟨t,h,q⟩:=hbody cdv A outer s H vs Q E hr hsp;exact⟨t,h.nox,q⟩
def Fun.binds{qual:Str}{st:Stmt}{f:Addr}{fd:FuncData}{ps:List Str}(F:Fun K x qual st f fd)(h:∀(kV doc pm:Value) (an:Option Addr) (cdv ct:Value) (us:List Value),us.length=ps.length->bindArgs (W.fnOf x qual (iU st) (eY st) (aI st) .none kV doc pm an cdv ct) ⟨us,[]⟩=pure (ps.zip us)):Binds K fd ps []:=by
 obtain⟨oc,od,kV,doc,pm,an,cdv,ct,osl,rfl,lk,hcd⟩:=F.ex;exact .all (h kV doc pm an cdv ct)
def aJD{qual:Str}{st:Stmt}{f:Addr}{oc:Value}{od an:Option Addr}{osl:Array (Option Value)}{kV doc pm cdv ct:Value}(l:K.lookup f=some ⟨oc,od,.func (W.fnOf x qual (iU st) (eY st) (aI st) .none kV doc pm an cdv ct),osl⟩)(c:W.codeIn K cdv qual=true)(k:W.keepIn K (.ref f)=true):Fun K x qual st f (W.fnOf x qual (iU st) (eY st) (aI st) .none kV doc pm an cdv ct):=⟨⟨oc,od,kV,doc,pm,an,cdv,ct,osl,rfl,l,c⟩,k⟩
end
section
variable {X:Cx}
def pv(i:Nat){pos:Pos}(hN:X.N[i]?=some x:=by rfl)(hv:Vis X.env.scope x:=by first|exact Or.inl rfl|exact Or.inr (Or.inl rfl)|exact Or.inr (Or.inr rfl))(hd:(x==("__debug__" : Str))=false:=by decide)(hcd:(x==("__classdict__" : Str))=false:=by decide):PE X (.Name x pos) (fQK i):=dJI hN hv hd hcd
end
def fQV{A B:Prop}(h:B):if false=true then A else B:=by
 rw[if_neg Ar];exact h
def fQZ{A B:Prop}(h:A):if true=true then A else B:=by
 rw[if_pos rfl];exact h
def eJ{c A B:Prop}[Decidable c](h1:c->A)(h2:¬c->B):if c then A else B:=by
 by_cases h:c
 ·rw[if_pos h];exact h1 h
 ·rw[if_neg h];exact h2 h
def Same(H H':Hp):Prop:=∀b o,H b=some o->H' b=some o
def Same.refl(H:Hp):Same H H:=λ_ _ h=>h
def Same.trans{H H1 H2:Hp}(a:Same H H1)(b:Same H1 H2):Same H H2:=λc o h=>b c o (a c o h)
def Same.seq{K:W.Frag}{H H':Hp}{a:Addr}{xs:List V}(e:Same H H')(h:SqL K H a xs):SqL K H' a xs:=by
 rcases h with(h|⟨o,h⟩)|h
 ·exact .inl (.inl (e _ _ h))
 ·exact .inl (.inr ⟨o,e _ _ h⟩)
 ·exact .inr h
end L2
namespace FlT
open PySem PySem.Spec PyProof.Rows
def app_cps(x y:Str):(x++y).cps.toList=x.cps.toList++y.cps.toList:=by
 show (x.cps++y.cps).toList=_
 simp
def str_ext{x y:Str}(h:x.cps.toList=y.cps.toList):x=y:=by
 obtain⟨⟨x⟩⟩:=x;obtain⟨⟨y⟩⟩:=y;cases h;rfl
end FlT
namespace L2
open PySem PySem.Spec PyProof.Rows
variable {A:Around}{C Pt a b c dx ea f:Addr}{D:Ends}{E:Q0}{H H' H1 Hc Hs:Hp}{K:W.Frag}{M:Model}{N:List Str}{P prog:Program}{Q:VK}{R:It->Hp->Prop}{S:Str->Hp->Prop}{T newId:String}{X:Cx}{apos cpos np pos tp:Pos}{base h h':Heap}{bmB us:List Value}{cl:List (Str×Addr)}{d:Option Addr}{e iter l tg:Expr}{elts es ifs:List Expr}{env:Env}{ep j k' n t' x1:Nat}{fd:FuncData}{fp ps:List Addr}{fs:List (List V)}{g:TG}{i lo:Int}{kvs:List (Key×V)}{mg:Q5}{name q qual x z:Str}{neg:Bool}{ns:List Int}{o oe:Obj}{outer:List Env}{params:Arguments}{pins:Q2}{pl:Sem Bool}{r:V->List V->Hp->VK->Prop}{s s1:Shared}{scope:Scope}{sp:Sp}{st:Stmt}{t ta tk:TA}{te tl to tv:TE}{tests:TT}{u:Value}{v y:V}{vs xs ys:List V}{w:World}{α:Type}
def PE.imp{t t':TE}(h:PE X e t)(i:∀σ H Q,t' σ H Q->t σ H Q):PE X e t':=λpins s σ H Q I q=>h pins s σ H Q I (i σ H Q q)
def OpR.imp{f:Value->Value->Sem Value}{r r':R2}(h:OpR X f r)(i:∀x y H Q,r' x y H Q->r x y H Q):OpR X f r':=λpins s σ H x y v u Q I rx ry q=>h pins s σ H x y v u Q I rx ry (i x y H Q q)
def CallR.imp{f:Value}{r r':List V->Hp->VK->Prop}(h:CallR X f r)(i:∀xs H Q,r' xs H Q->r xs H Q):CallR X f r':=λpins s σ H xs us Q I rx q=>h pins s σ H xs us Q I rx (i xs H Q q)
def MtR.imp{id:String}{r r':V->List V->Hp->VK->Prop}(h:MtR X id r)(i:∀x xs H Q,r' x xs H Q->r x xs H Q):MtR X id r':=λpins s σ H x xs v us Q I rx rs q=>h pins s σ H x xs v us Q I rx rs (i x xs H Q q)
def IxR.imp{r r':R2}(h:IxR X r)(i:∀x y H Q,r' x y H Q->r x y H Q):IxR X r':=λvalue slice pins s σ H x y v u Q I rx ry q hs=>h value slice pins s σ H x y v u Q I rx ry (i x y H Q q) hs
def SlR.imp{r r':V->Option Int->Option Int->Hp->VK->Prop}(h:SlR X r)(i:∀x lo hi H Q,r' x lo hi H Q->r x lo hi H Q):SlR X r':=λpins s σ H x v vl vu lo hi sl Q I rx hs pl pu q=>h pins s σ H x v vl vu lo hi sl Q I rx hs pl pu (i x lo hi H Q q)
def Its(z:Str):It:=⟨λi _=>i<z.cps.size,λi H x H'=>H'=H/\∃c,z.cps[i]?=some c/\x=.str ⟨#[c]⟩,λi _=>z.cps.size<=i⟩
def aZM(z:Str)(t:Tok)(it:Addr):Turn P w K tg (Its z) [it] it (λi h=>h.IsStrIter it "str_ascii_iterator" z t i) where
 mem:=by simp
 obj:=λi h st b hb=>by
  have e:b=it:=by simpa using hb
  subst e;obtain⟨o,e,c,d⟩:=st;exact⟨o,e,λv z=>by rw[d]at z;cases z⟩
 keep:=λi h h' st k=>let ⟨o,ho,r⟩:=st;⟨o,k it (by simp) o ho,r⟩
 item:=by
  intro X hP hw hK hc i pins s σ H E I hf st hg;subst hP hw hK;obtain⟨f0,f1,f2,f3,f4,f5⟩:=hf it (by simp)
  have hi:i<z.cps.size:=hg
  refine wpAny_pyNext_ascii_item st (c:=z.cps[i]) (by simp[hi]) λh' st' sb=>?_
  have I1:Inv X pins σ H {s with heap:=h',toks:=s.toks+1}:=I.turned (λb o hb e=>(sb.2 b hb).trans e) f0 f1 f3 f4 f5
  obtain⟨o,e,c,d⟩:=id st';exact⟨_,rfl,qY (s:={s with heap:=h',toks:=s.toks+1}) e c d (by decide) ⟨.str ⟨#[z.cps[i]]⟩,H,I1,⟨_,rfl⟩,⟨rfl,_,by simp[hi],rfl⟩,st',λb hb=>(hf b hb).1⟩⟩
 done:=by
  intro X hP hw hK hc i pins s σ H E I hf st hg;subst hP hw hK;obtain⟨f0,f1,f2,f3,f4,f5⟩:=hf it (by simp)
  have hi:z.cps.size<=i:=hg
  exact wpAny_pyNext_ascii_end (I.ok.hd hc) st (by simp[hi]) λh' eb=>⟨rfl,I.turned (t':=s.toks) (λb o hb e=>eb b o hb e) f0 f1 f3 f4 f5⟩
 self:=λ_ _ _ _ _ st h=>wpAny_pyIter_striter_ascii st h
def bZO(z:Str)(t:Tok)(it:Addr):Turn P w K tg (Its z) [it] it (λi h=>h.IsStrIter it "str_iterator" z t i) where
 mem:=by simp
 obj:=λi h st b hb=>by
  have e:b=it:=by simpa using hb
  subst e;obtain⟨o,e,c,d⟩:=st;exact⟨o,e,λv z=>by rw[d]at z;cases z⟩
 keep:=λi h h' st k=>let ⟨o,ho,r⟩:=st;⟨o,k it (by simp) o ho,r⟩
 item:=by
  intro X hP hw hK hc i pins s σ H E I hf st hg;subst hP hw hK;obtain⟨f0,f1,f2,f3,f4,f5⟩:=hf it (by simp)
  have hi:i<z.cps.size:=hg
  refine wpAny_pyNext_wide_item st (c:=z.cps[i]) (by simp[hi]) λh' st' sb=>?_
  have I1:Inv X pins σ H {s with heap:=h',toks:=s.toks+1}:=I.turned (λb o hb e=>(sb.2 b hb).trans e) f0 f1 f3 f4 f5
  obtain⟨o,e,c,d⟩:=id st';exact⟨_,rfl,qY (s:={s with heap:=h',toks:=s.toks+1}) e c d (by decide) ⟨.str ⟨#[z.cps[i]]⟩,H,I1,⟨_,rfl⟩,⟨rfl,_,by simp[hi],rfl⟩,st',λb hb=>(hf b hb).1⟩⟩
 done:=by
  intro X hP hw hK hc i pins s σ H E I hf st hg;subst hP hw hK;obtain⟨f0,f1,f2,f3,f4,f5⟩:=hf it (by simp)
  have hi:z.cps.size<=i:=hg
  exact wpAny_pyNext_wide_end (I.ok.hd hc) st (by simp[hi]) λh' eb=>⟨rfl,I.turned (t':=s.toks) (λb o hb e=>eb b o hb e) f0 f1 f3 f4 f5⟩
 self:=λ_ _ _ _ _ st h=>wpAny_pyIter_striter_wide st h
def dQL{tb:TS}{σ:St}(Pv:Nat->St->Hp->Prop)(h0:Pv 0 σ H)(hs:∀i c σ H,z.cps.toList[i]?=some c->Pv i σ H->g (.str ⟨#[c]⟩) σ H λσ2 H2=>tb {D with nx:=Pv (i+1),ct:=Pv (i+1),bk:=D.nx} σ2 H2)(hd:∀σ H,Pv z.cps.toList.length σ H->D.nx σ H):∃W:Nat->Nat->St->Hp->Prop,(∃m,W 0 m σ H)/\∀i m σ H,W i m σ H->
 ((Its z).stop i H/\D.nx σ H)\/((Its z).go i H/\∃N:St->Hp->Prop,(∀σ' H',N σ' H'->∃m',m' < m/\W (i+1) m' σ' H')/\∀x H',(Its z).yld i H x H'->g x σ H' λσ2 H2=>tb {D with nx:=N,ct:=N,bk:=D.nx} σ2 H2):=by
 have hl:z.cps.toList.length=z.cps.size:=by simp
 rw[hl]at hd;refine⟨λi m σ H=>m=z.cps.size-i/\i<=z.cps.size/\Pv i σ H,⟨z.cps.size,by simp,Nat.zero_le _,h0⟩,?_⟩
 rintro i m σ H ⟨rfl,hi,p⟩;by_cases hlt:i<z.cps.size
 ·refine .inr ⟨hlt,Pv (i+1),λσ' H' p'=>⟨z.cps.size-(i+1),by omega,rfl,hlt,p'⟩,λx H' y=>?_⟩
  obtain⟨e,c,hc,hx⟩:=y;subst e hx;exact hs i c σ _ (by simpa using hc) p
 ·have e:i=z.cps.size:=by omega
  subst e;exact .inl ⟨Ai _,hd σ H p⟩
section
variable {b:Expr}
def fXG:V->Option Int->Option Int->Hp->VK->Prop:=λx lo hi H Q=>∃z,x=.str z/\z.length<=sizeLine/\Q (.str (Txt.slice z lo hi)) H
def eQ7:SlR X fXG:=by
 intro pins s σ H x v vl vu lo hi sl Q I rx hs pl pu h;obtain⟨z,rfl,hz,q⟩:=h;obtain⟨t,rfl⟩:=rx;refine⟨"str",_,PySem.F.slot_str_getitem.lookup,Hj _ _ _,?_⟩;cases pl with
 |none=>
  cases pu with
  |none=>exact Eu (l:=none) (u:=none) (st:=none) hs rfl (post_val_or_str ⟨Cc (Txt.slice_le z _ _) hz,λt' k=>⟨.str (Txt.slice z none none),H,I.tok _,⟨_,rfl⟩,q⟩⟩)
  |int j uj=>exact Eu (l:=none) (u:=some (j,uj)) (st:=none) hs rfl (post_val_or_str ⟨Cc (Txt.slice_le z _ _) hz,λt' k=>⟨.str (Txt.slice z none (some j)),H,I.tok _,⟨_,rfl⟩,q⟩⟩)
 |int i ui=>
  cases pu with
  |none=>exact Eu (l:=some (i,ui)) (u:=none) (st:=none) hs rfl (post_val_or_str ⟨Cc (Txt.slice_le z _ _) hz,λt' k=>⟨.str (Txt.slice z (some i) none),H,I.tok _,⟨_,rfl⟩,q⟩⟩)
  |int j uj=>exact Eu (l:=some (i,ui)) (u:=some (j,uj)) (st:=none) hs rfl (post_val_or_str ⟨Cc (Txt.slice_le z _ _) hz,λt' k=>⟨.str (Txt.slice z (some i) (some j)),H,I.tok _,⟨_,rfl⟩,q⟩⟩)
def dXU:V->List V->Hp->VK->Prop:=λx vs H Q=>∃z y i rest,x=.str z/\vs=[.str y]/\Builtin.Str.occurrences z y 0 z.length 1=i::rest/\Q (.int ((i:Nat):Int)) H
def mt_index:MtR X "str.index" dXU:=by
 intro pins s σ H x vs v us Q I rx rv h;obtain⟨z,y,i,rest,rfl,rfl,ho,q⟩:=h;obtain⟨t,rfl⟩:=rx;obtain⟨u,rfl,ru⟩:=rv.one;obtain⟨t',rfl⟩:=ru;exact SC.index ho ⟨.int i,H,I.tok _,⟨_,rfl⟩,q⟩
def aXQ{ys:List Str}:∀ {us:List Value},Vals (ys.map V.str) us->StrsAre us ys:=by
 induction ys with
 |nil=>intro us r;rw[List.map_nil]at r;cases r;exact .nil
 |cons n ns ih=>
  intro us r;rw[Au]at r;cases r with
  |cons r1 r2=>
   obtain⟨t,e⟩:=r1;subst e;exact .cons n t (ih r2)
def eZL(K:W.Frag):V->List V->Hp->VK->Prop:=λx vs H Q=>∃z p ys,x=.str z/\vs=[.ref p]/\SqL K H p (ys.map V.str)/\(ys.map (·.length)).sum+ys.length*z.length<=16777216/\Q (.str (Txt.join z ys)) H
def mt_join:MtR X "str.join" (eZL X.K):=by
 intro pins s σ H x vs v us Q I rx rv h;obtain⟨z,p,ys,rfl,rfl,hp,hz,q⟩:=h;obtain⟨t,rfl⟩:=rx;obtain⟨u,rfl,ru⟩:=rv.one;cases ru;obtain⟨its,r,pl,_⟩:=I.list hp;exact join_list pl.isList (by simpa using aXQ r) hz λt' k=>⟨.str (Txt.join z ys),H,I.tok _,⟨_,rfl⟩,q⟩
def uA:CallR X (.type "int") (λxs H Q=>∃x n,xs=[.str x]/\PySem.intText? x=some n/\x.length<=640/\Q (.int n) H):=by
 intro pins s σ H xs us Q I r h;obtain⟨x,n,rfl,hn,hl,q⟩:=h;obtain⟨u,rfl,t,rfl⟩:=dA r;exact W.KIN.call_text hn hl ⟨.int n,H,I.tok _,⟨_,rfl⟩,q⟩
def aXD{bs:List Bool}:∀ {us:List Value},Vals (bs.map V.bl) us->LSm.BoolsAre us bs:=by
 induction bs with
 |nil=>intro us r;rw[List.map_nil]at r;cases r;exact .nil
 |cons n ns ih=>
  intro us r;rw[Au]at r;cases r with
  |cons r1 r2=>
   cases r1;exact .cons n (ih r2)
def uT(hc:X.calm=true):CallR X (.builtin "all") (λxs H Q=>∃(p:Addr) (bs:List Bool),xs=[.ref p]/\SqL X.K H p (bs.map V.bl)/\Q (.bl (bs.all id)) H):=by
 intro pins s σ H xs us Q I r h;obtain⟨p,bs,rfl,hp,q⟩:=h;obtain⟨u,rfl,ru⟩:=dA r;cases ru;obtain⟨its,rv,pl,hz⟩:=I.list hp;have hb:=aXD rv
 have hl:=pl.isList
 have hlt:p<s.heap.objs.size:=by obtain⟨_,e,_⟩:=hl;exact As e
 refine call_all_walk (Dr hl ?_);refine⟨s.heap.objs.size,[s.heap.objs.size,p],[s.heap.objs.size],its.toArray.size,_,_,λi=>(bs[i]?).getD true,rfl,Walks.list (A:=X.A.in1) (I.ok.hd hc) _ p (Bc hlt) its.toArray,
  ⟨⟨_,Av _ rfl,rfl,rfl⟩,hl.push _⟩,λi v s' Q' E' hP hQ=>?_,λh' tk hk=>?_⟩
 ·obtain⟨b,e,rfl⟩:=hb.get i v (by simpa using hP)
  simp only[e,Option.getD_some]at hQ;exact Fm hQ
 ·have e:((List.range its.toArray.size).all λi=>(bs[i]?).getD true)=bs.all id:=by
   rw[Az,hb.length];exact LSm.range_all bs
  rw[e];exact⟨.bl (bs.all id),H,I.kept (LSm.kept_iter hk),rfl,q⟩
def iC(xs ys:List V):Bool:=xs.length==ys.length&&(List.range xs.length).all λj=>eqV (xs.getD j .non) (ys.getD j .non)
def Vals.getD_rel(r:Vals xs us)(h:j<us.length):RelV (xs.getD j .non) us[j]:=by
 have hl:=r.length
 have hx:j<xs.length:=by omega
 obtain⟨u,hu,ru⟩:=r.get (Aa hx);rw[Aa h]at hu;cases hu;rw[Ac,Aa hx];exact ru
def iE(h:xs.all cM=true)(j:Nat):cM (xs.getD j .non)=true:=by
 rw[Ac];cases e:xs[j]? with
 |none=>rfl
 |some x=>exact Bo.mp h x (Al e)
def dJK(K:W.Frag)(neg:Bool):R2:=λx y H Q=>∃p q xs ys,x=.ref p/\y=.ref q/\SqL K H p xs/\SqL K H q ys/\xs.all cM=true/\ys.all cM=true/\Q (.bl (if neg then !iC xs ys else iC xs ys)) H
def tG(h:xs.length≠ys.length):iC xs ys=false:=by
 unfold iC;rw[Ct.mpr h,Fs]
def kQ(h:xs.length=ys.length):iC xs ys=(List.range xs.length).all λj=>eqV (xs.getD j .non) (ys.getD j .non):=by
 unfold iC;rw[h,Ee,Fz]
def aZN(hu:X.A.units<cLine):OpR X (compareOp .Eq) (dJK X.K false):=by
 intro pins s σ H x y v u Q I rx ry h;obtain⟨p,q,xs,ys,rfl,rfl,hp,hq,fx,fy,k⟩:=h;cases rx;cases ry;obtain⟨its,r1,l1,_⟩:=I.list hp;obtain⟨its2,r2,l2,_⟩:=I.list hq;have e1:=r1.length
 have e2:=r2.length
 by_cases hl:xs.length=ys.length
 ·refine SeqAt.eq_listAt (e:=λj=>eqV (xs.getD j .non) (ys.getD j .non)) l1.isList l2.isList (by simp only[List.size_toArray];omega) hu (λj h1 h2=>?_) ?_
  ·have h1':j<its.length:=by simpa using h1
   have h2':j<its2.length:=by simpa using h2
   simpa using yT (A:=X.A.in1) (s:=s) (r1.getD_rel h1') (r2.getD_rel h2') (iE fx j) (iE fy j)
  ·refine⟨.bl (iC xs ys),H,I,?_,k⟩;rw[kQ hl];simp only[List.size_toArray,<-e1];rfl
 ·refine SeqAt.eq_list_lengthsAt l1.isList l2.isList (by simp only[List.size_toArray,bne_iff_ne];omega) hu ⟨.bl (iC xs ys),H,I,?_,k⟩
  rw[tG hl];rfl
def aZ2(hu:X.A.units<cLine):OpR X (compareOp .NotEq) (dJK X.K true):=by
 intro pins s σ H x y v u Q I rx ry h;obtain⟨p,q,xs,ys,rfl,rfl,hp,hq,fx,fy,k⟩:=h;cases rx;cases ry;obtain⟨its,r1,l1,_⟩:=I.list hp;obtain⟨its2,r2,l2,_⟩:=I.list hq;have e1:=r1.length
 have e2:=r2.length
 by_cases hl:xs.length=ys.length
 ·refine SeqAt.RcNeAt.lists (e:=λj=>eqV (xs.getD j .non) (ys.getD j .non)) l1.isList l2.isList (by simp only[List.size_toArray];omega) hu (λj h1 h2=>?_) X.prog X.w _ _ ?_
  ·have h1':j<its.length:=by simpa using h1
   have h2':j<its2.length:=by simpa using h2
   simpa using yT (A:=X.A.in1) (s:=s) (r1.getD_rel h1') (r2.getD_rel h2') (iE fx j) (iE fy j)
  ·refine⟨.bl (!iC xs ys),H,I,?_,k⟩;rw[kQ hl];simp only[List.size_toArray,<-e1];rfl
 ·refine SeqAt.RcNeAt.lists_lengths l1.isList l2.isList (by simp only[List.size_toArray,bne_iff_ne];omega) hu X.prog X.w _ _ ⟨.bl (!iC xs ys),H,I,?_,k⟩
  rw[tG hl];rfl
end
def rdO:Option HO->Option (List V)
 |some (.lst xs)=>some xs
 |some (.frz _ (.lst xs))=>some xs
 |_=>none
def rdL(H:Hp)(a:Addr):Option (List V):=rdO (H a)
def aY(h:rdL H a=some xs):SqL K H a xs:=by
 unfold rdL rdO at h;split at h
 ·cases h;exact .inl (.inl (by assumption))
 ·cases h;exact .inl (.inr ⟨_,by assumption⟩)
 ·cases h
def aO(h:H a=some (.lst xs)):rdL H a=some xs:=by unfold rdL;rw[h];rfl
def cA:rdL (upd H a (.lst xs)) a=some xs:=aO aE
def aXP{o:HO}(h:b≠a):rdL (upd H a o) b=rdL H b:=by unfold rdL;rw[aG h]
def aK(e:Same H H')(h:rdL H a=some xs):rdL H' a=some xs:=by
 unfold rdL at h ⊢;cases q:H a with
 |none=>rw[q]at h;cases h
 |some o=>rw[e a o q,<-q];exact h
def aF{p:Addr}(h:H p=none)(o:HO):Same H (upd H p o):=λb u q=>by rw[aG (bE q h)];exact q
def iD(H:Hp)(a:Addr):Option (List V):=match H a with|some (.lst xs)=>some xs|_=>none
def cI(h:H a=some (.lst xs)):iD H a=some xs:=by unfold iD;rw[h]
def lB(h:iD H a=some xs):H a=some (.lst xs):=by
 unfold iD at h;split at h
 ·cases h;assumption
 ·cases h
def cW:iD (upd H a (.lst xs)) a=some xs:=cI aE
def qM{o:HO}(h:b≠a):iD (upd H a o) b=iD H b:=by unfold iD;rw[aG h]
def sZ(H:Hp)(a:Addr):Option (List V):=match H a with|some (.tup xs)=>some xs|_=>none
def dE(h:H a=some (.tup xs)):sZ H a=some xs:=by unfold sZ;rw[h]
def qL(h:sZ H a=some xs):H a=some (.tup xs):=by
 unfold sZ at h;split at h
 ·cases h;assumption
 ·cases h
def wN:sZ (upd H a (.tup xs)) a=some xs:=dE aE
section
variable {a b c:Expr} {ta tb:TE}
def bQ9(i:Nat):TE:=λσ H Q=>match σ[i]? with|some (some v)=>Q v H|_=>False
def mv(i:Nat)(hN:X.N[i]?=some x:=by rfl)(hv:Vis X.env.scope x:=by first|exact Or.inl rfl|exact Or.inr (Or.inl rfl)|exact Or.inr (Or.inr rfl))(hd:(x==("__debug__" : Str))=false:=by decide)(hcd:(x==("__classdict__" : Str))=false:=by decide):PE X (.Name x pos) (bQ9 i):=(pv i hN hv hd hcd).imp λσ H Q q=>by
 unfold bQ9 at q;split at q
 ·exact⟨_,by assumption,q⟩
 ·exact q.elim
def mI(g:Int->Int->V):R2:=λx y H Q=>match x,y with|.int i,.int j=>Q (g i j) H|_,_=>False
def yR{g:Int->Int->V}{x:V}(q:mI g x y H Q):rI0 g x y H Q:=by
 unfold mI at q;split at q
 ·exact⟨_,_,rfl,rfl,q⟩
 ·exact q.elim
def mIC(C:Int->Int->Prop)(g:Int->Int->V):R2:=λx y H Q=>match x,y with|.int i,.int j=>C i j/\Q (g i j) H|_,_=>False
def yB{C:Int->Int->Prop}{g:Int->Int->V}{x:V}(q:mIC C g x y H Q):rI C g x y H Q:=by
 unfold mIC at q;split at q
 ·exact⟨_,_,rfl,rfl,q.1,q.2⟩
 ·exact q.elim
def bZH:R2:=λx y H Q=>match x,y with
 |.int i,.int j=>Q (.int (i+j)) H
 |.str z,.str y=>z.length+y.length<=sizeLine/\Q (.str (z++y)) H
 |.ref p,.ref q=>(match iD H p,iD H q with
  |some xs,some zs=>xs.length+zs.length<=sizeLine/\∀r,H r=none->Q (.ref r) (upd H r (.lst (xs++zs)))
  |_,_=>False)
 |_,_=>False
def bM:OpR X (binaryOp .Add) bZH:=by
 intro pins s σ H x y v u Q I rx ry q;unfold bZH at q;split at q
 ·exact eZF pins s σ H _ _ v u Q I rx ry ⟨_,_,rfl,rfl,q⟩
 ·exact aX3 pins s σ H _ _ v u Q I rx ry ⟨_,_,rfl,rfl,q.1,q.2⟩
 ·split at q
  ·exact dJU pins s σ H _ _ v u Q I rx ry ⟨_,_,_,_,rfl,rfl,lB (by assumption),lB (by assumption),q.1,q.2⟩
  ·exact q.elim
 ·exact q.elim
def pK:OpR X (binaryOp .Sub) (mI λi j=>.int (i-j)):=op_sub.imp λ_ _ _ _ q=>yR q
def kC:OpR X (binaryOp .Mult) (mIC CMul λi j=>.int (i*j)):=op_mul.imp λ_ _ _ _ q=>yB q
def dF:OpR X (binaryOp .Mod) (mIC (λ_ j=>0<j) λi j=>.int (i%j)):=op_mod.imp λ_ _ _ _ q=>yB q
def gO:OpR X (binaryOp .FloorDiv) (mIC eJK λi j=>.int (i / j)):=op_fdiv.imp λ_ _ _ _ q=>yB q
def aQJ:OpR X (compareOp .Lt) (mI λi j=>.bl (decide (i<j))):=op_lt.imp λ_ _ _ _ q=>yR q
def fQX:OpR X (compareOp .LtE) (mI λi j=>.bl (decide (i<=j))):=op_le.imp λ_ _ _ _ q=>yR q
def aZB:OpR X (compareOp .Gt) (mI λi j=>.bl (decide (j<i))):=op_gt.imp λ_ _ _ _ q=>yR q
def eZE:V->Hp->VK->Prop:=λx H Q=>match x with|.int i=>Q (.int (-i)) H|_=>False
def dZK:UnR X (unaryOp .USub) eZE:=λpins s σ H x v Q I rx q=>by
 unfold eZE at q;split at q
 ·exact eZC pins s σ H _ v Q I rx ⟨_,rfl,q⟩
 ·exact q.elim
def mEq:R2:=λx y H Q=>dXP x y=true/\Q (.bl (decide (x=y))) H
def nZ:OpR X (compareOp .Eq) mEq:=eJQ
def mNe:R2:=λx y H Q=>dXP x y=true/\Q (.bl (!decide (x=y))) H
def dQN:OpR X (compareOp .NotEq) mNe:=eZP
def bZY(neg:Bool):R2:=λx y H Q=>match x,y with
 |.ref p,.ref q=>(match rdL H p,rdL H q with
  |some xs,some ys=>xs.all cM=true/\ys.all cM=true/\Q (.bl (if neg then !iC xs ys else iC xs ys)) H
  |_,_=>False)
 |_,_=>False
def zF{x:V}(q:bZY neg x y H Q):dJK K neg x y H Q:=by
 unfold bZY at q;split at q
 ·split at q
  ·exact⟨_,_,_,_,rfl,rfl,aY (by assumption),aY (by assumption),q.1,q.2.1,q.2.2⟩
  ·exact q.elim
 ·exact q.elim
def cJF(hu:X.A.units<cLine):OpR X (compareOp .Eq) (bZY false):=(aZN hu).imp λ_ _ _ _ q=>zF q
def eZX(hu:X.A.units<cLine):OpR X (compareOp .NotEq) (bZY true):=(aZ2 hu).imp λ_ _ _ _ q=>zF q
def eXB:R2:=λx y H Q=>match y with|.non=>Q (.bl (decide (x=.non))) H|_=>False
def bQI:OpR X (compareOp .Is) eXB:=op_isN.imp λ_ y _ _ q=>by
 unfold eXB at q;split at q
 ·exact⟨rfl,q⟩
 ·exact q.elim
def cQZ:R2:=λx y H Q=>match y with|.non=>Q (.bl (!decide (x=.non))) H|_=>False
def sL:OpR X (compareOp .IsNot) cQZ:=op_notN.imp λ_ y _ _ q=>by
 unfold cQZ at q;split at q
 ·exact⟨rfl,q⟩
 ·exact q.elim
def subIn(y x:Str):Bool:=!(Builtin.Str.occurrences x y 0 x.length 1).isEmpty
def lA(x:Str)(c:Nat):subIn ⟨#[c]⟩ x=decide (c∈x.cps.toList):=PySem.StrLaws.found_one x c
def eXR(neg:Bool):R2:=λx y H Q=>match x,y with|.str i,.str j=>Q (.bl (if neg then !subIn i j else subIn i j)) H|_,_=>False
def aQ9:OpR X (compareOp .In) (eXR false):=op_in_str.imp λ_ _ _ _ q=>by
 unfold eXR at q;split at q
 ·exact⟨_,_,rfl,rfl,q⟩
 ·exact q.elim
def bXU(neg:Bool):R2:=λx y H Q=>match y with
 |.ref p=>(match rdL H p with|some xs=>cM x=true/\xs.all cM=true/\Q (.bl (if neg then !inV x xs else inV x xs)) H|none=>False)
 |_=>False
def aXE{x:V}(q:bXU neg x y H Q):rIn K neg x y H Q:=by
 unfold bXU at q;split at q
 ·split at q
  ·exact⟨_,_,rfl,.inl (aY (by assumption)),q.1,q.2.1,q.2.2⟩
  ·exact q.elim
 ·exact q.elim
def dZY:OpR X (compareOp .In) (bXU false):=op_in_seq.imp λ_ _ _ _ q=>aXE q
def rP:OpR X (compareOp .NotIn) (bXU true):=op_notIn_seq.imp λ_ _ _ _ q=>aXE q
def mB(Q:Bool->Hp->Prop):VK:=λx H=>match x with|.bl k=>Q k H|_=>False
def dZA{Q:Bool->Hp->Prop}{x:V}(q:mB Q x H):∃k,x=.bl k/\Q k H:=by
 unfold mB at q;split at q
 ·exact⟨_,rfl,q⟩
 ·exact q.elim
def dZQ(t:TE):TT:=λσ H Q=>t σ H (mB Q)
def aX{op:CmpOp}{r:R2}(ho:OpR X (compareOp op) r)(ha:PE X a ta)(hb:PE X b tb)(hm:behindInMarks op b=false):PT X (.Compare a [op] [b] pos) (dZQ (tOp r ta tb)):=by
 intro pins s σ H Q I h;refine wpAny_isTrue_Compare1 (thn (ha pins s σ H _ I h) λv s1 ⟨x,H1,I1,r1,q1⟩=>thn (hb pins s1 σ H1 _ I1 q1) λu s2 ⟨y,H2,I2,r2,q2⟩=>
  thn (ho pins s2 σ H2 x y v u _ I2 r1 r2 q2) λc s3 ⟨z,H3,I3,r3,q⟩=>?_) hm
 obtain⟨k,e,q3⟩:=dZA q;subst e;cases r3;exact Fm ⟨H3,I3,q3⟩
def cZJ(Q:Bool->Hp->Prop):VK:=λx H=>match x with
 |.non=>Q false H
 |.bl k=>Q k H
 |.int i=>Q (i != 0) H
 |.str y=>y.length<=sizeLine/\Q ((y.length:Int) != 0) H
 |.ref p=>(match rdL H p with
  |some xs=>Q (!xs.isEmpty) H
  |none=>(match H p with|some (.dK kvs)=>Q (!kvs.isEmpty) H|_=>False))
 |_=>False
def cJ3{Q:Bool->Hp->Prop}{x:V}(q:cZJ Q x H):∃k,eZ8 K x H k/\Q k H:=by
 unfold cZJ at q;split at q
 ·exact⟨_,rfl,q⟩
 ·exact⟨_,rfl,q⟩
 ·exact⟨_,rfl,q⟩
 ·exact⟨_,⟨q.1,rfl⟩,q.2⟩
 ·split at q
  ·exact⟨_,.inl ⟨_,aY (by assumption),rfl⟩,q⟩
  ·split at q
   ·exact⟨_,.inr (.inr ⟨_,by assumption,rfl⟩),q⟩
   ·exact q.elim
 ·exact q.elim
def cXN(t:TE):TT:=λσ H Q=>t σ H (cZJ Q)
def fY(ha:PE X a ta)(he:∀whole,isTrue a X.env whole=(do let v <-whole;standAt a.pos;holding [v] (truthy v)):=by intro _;rfl):PT X a (cXN ta):=by
 intro pins s σ H Q I h;refine isTrue_plain (thn (ha pins s σ H _ I h) λv s1 ⟨x,H1,I1,r1,q1⟩=>eXU pins s1 σ H1 x v Q I1 r1 (cJ3 q1)) (he _)
variable {rest:List Expr}
def dZF(ta tb:TE):TE:=λσ H Q=>ta σ H (mB λc H1=>if c=true then tb σ H1 Q else Q (.bl false) H1)
def yD(ha:PE X a ta)(hb:PE X (.BoolOp .And (b::rest) pos) tb):PE X (.BoolOp .And (a::b::rest) pos) (dZF ta tb):=by
 intro pins s σ H Q I h;refine BoolOp_and (thn (ha pins s σ H _ I h) λv s1 ⟨x,H1,I1,r1,q1⟩=>?_);obtain⟨c,rfl,q1⟩:=dZA q1;cases r1;refine Fm ?_;cases c with
 |true=>exact hb pins s1 σ H1 Q I1 q1
 |false=>exact⟨.bl false,H1,I1,rfl,q1⟩
def mIx:R2:=λx y H Q=>match x,y with
 |.str z,.int i=>z.length<=sizeLine/\(match atI z.cps.toList i with|some c=>Q (.str ⟨#[c]⟩) H|none=>False)
 |.ref p,.int i=>(match rdL H p with
  |some xs=>(match atI xs i with|some v=>Q v H|none=>False)
  |none=>(match sZ H p with
   |some xs=>(match atI xs i with|some v=>Q v H|none=>False)
   |none=>False))
 |_,_=>False
def cJO{x:V}(q:mIx x y H Q):rIx K x y H Q:=by
 unfold mIx at q;split at q
 ·obtain⟨h1,q⟩:=q;split at q
  ·exact .inr (.inr ⟨_,_,_,rfl,rfl,h1,by assumption,q⟩)
  ·exact q.elim
 ·split at q
  ·split at q
   ·exact .inl ⟨_,_,_,_,rfl,rfl,aY (by assumption),by assumption,q⟩
   ·exact q.elim
  ·split at q
   ·split at q
    ·exact .inr (.inl ⟨_,_,_,_,rfl,rfl,SqT.of (qL (by assumption)),by assumption,q⟩)
    ·exact q.elim
   ·exact q.elim
 ·exact q.elim
def bU:IxR X mIx:=ix_seq.imp λ_ _ _ _ q=>cJO q
def mSl:V->Option Int->Option Int->Hp->VK->Prop:=λx lo hi H Q=>match x with
 |.str z=>z.length<=sizeLine/\Q (.str (Txt.slice z lo hi)) H
 |.ref p=>(match rdL H p with|some xs=>∀r,H r=none->Q (.ref r) (upd H r (.lst (kO xs lo hi)))|none=>False)
 |_=>False
def dXJ:SlR X mSl:=(sl_list.or eQ7).imp λ_ _ _ _ _ q=>by
 unfold mSl at q;split at q
 ·exact .inr ⟨_,rfl,q.1,q.2⟩
 ·split at q
  ·exact .inl ⟨_,_,rfl,aY (by assumption),q⟩
  ·exact q.elim
 ·exact q.elim
def xZ(Q:Option Int->Hp->Prop):VK:=λx H1=>match x with|.int i=>Q (some i) H1|_=>False
def dZ9(t:TE):TO:=λσ H Q=>t σ H (xZ Q)
def fE(h:PE X e te):PO X (some e) (dZ9 te):=by
 intro pins s σ H Q I hw;rw[evalPart_some];refine thn (h pins s σ H _ I hw) λu s1 ⟨x,H1,I1,r1,q1⟩=>?_;unfold xZ at q1;split at q1
 ·obtain⟨t,rfl⟩:=r1;exact⟨_,H1,I1,.int _ t,q1⟩
 ·exact q1.elim
def bQ:List V->Hp->VK->Prop:=λxs H Q=>match xs with
 |[.str z]=>z.length<=sizeLine/\Q (.int z.length) H
 |[.ref p]=>(match rdL H p with
  |some xs=>Q (.int xs.length) H
  |none=>(match sZ H p with|some xs=>Q (.int xs.length) H|none=>False))
 |_=>False
def bZ:CallR X (.builtin "len") bQ:=call_len.imp λ_ _ _ q=>by
 unfold bQ at q;split at q
 ·exact⟨_,_,rfl,⟨q.1,rfl⟩,q.2⟩
 ·split at q
  ·exact⟨_,_,rfl,.inl ⟨_,aY (by assumption),rfl⟩,q⟩
  ·split at q
   ·exact⟨_,_,rfl,.inr ⟨_,SqT.of (qL (by assumption)),rfl⟩,q⟩
   ·exact q.elim
 ·exact q.elim
def fXM:List V->Hp->VK->Prop:=λxs H Q=>match xs with|[.int i,.int j]=>Q (.int (if j<i then j else i)) H|_=>False
def dXM:List V->Hp->VK->Prop:=λxs H Q=>match xs with
 |[.int i]=>Q (.int i) H
 |[.str x]=>(match PySem.intText? x with|some n=>x.length<=640/\Q (.int n) H|none=>False)
 |_=>False
def bQR:CallR X (.type "int") dXM:=(call_int1.or uA).imp λ_ _ _ q=>by
 unfold dXM at q;split at q
 ·exact .inl (.inl ⟨_,rfl,q⟩)
 ·split at q
  ·exact .inr ⟨_,_,rfl,by assumption,q.1,q.2⟩
  ·exact q.elim
 ·exact q.elim
def bQB:List V->Hp->VK->Prop:=λxs H Q=>match xs with
 |[.ref p]=>(match rdL H p with
  |some ys=>∀l,H l=none->Q (.ref l) (upd H l (.lst ys))
  |none=>(match sZ H p with|some ys=>∀l,H l=none->Q (.ref l) (upd H l (.lst ys))|none=>False))
 |_=>False
def iX:CallR X (.type "list") bQB:=call_list_of.imp λ_ _ _ q=>by
 unfold bQB at q;split at q
 ·split at q
  ·exact⟨_,_,rfl,.inl (aY (by assumption)),q⟩
  ·split at q
   ·exact⟨_,_,rfl,.inr (SqT.of (qL (by assumption))),q⟩
   ·exact q.elim
 ·exact q.elim
def aZ9(T:String)(x:V)(H:Hp)(P:Prop):Prop:=match x with
 |.str _=>T="str"/\P
 |.ref p=>(match rdL H p with|some _=>T="list"/\P|none=>False)
 |_=>False
def cQK{K:W.Frag}{x:V}{P:Prop}(q:aZ9 T x H P):tyV K T x H/\P:=by
 unfold aZ9 at q;split at q
 ·exact⟨q.1,q.2⟩
 ·split at q
  ·exact⟨.inl ⟨q.1,_,aY (by assumption)⟩,q.2⟩
  ·exact q.elim
 ·exact q.elim
def dZP(T:String)(r:V->List V->Hp->VK->Prop)(to:TE)(t:TA):TE:=λσ H Q=>to σ H λx H1=>aZ9 T x H1 (t σ H1 λxs H2=>r x xs H2 Q)
variable {o:Expr} {id:String}
def cB(pa:PlainAttrs T)(slot:Slot T name id)(hty:typeOf (.builtin id)=pure (.type "method_descriptor"))(hm:MtR X id r)(ho:PE X o to)(ha:PA X (e::es) t)(hbase:attributeBase o name X.env (eval o X.env)=eval o X.env:=by rfl)(hfew:((backTo cpos (starEach (e::es) X.env)).all (λx=>!x.1)&&(backToKw cpos (keywordEach [] X.env)).all (λx=>x.1.isSome)
 && decide ((e::es).length+([]:List Keyword).length+(if ([]:List Keyword).isEmpty then 0 else 1)<30))=true:=by rfl)(hline:(apos.endLine==cpos.line)=true:=by rfl)(hs:starEach (e::es) X.env=(false,eval e X.env)::starEach es X.env:=by rfl)(hplain:(backTo cpos (starEach es X.env)).any (·.1)=false:=by rfl):PE X (.Call (.Attribute o name apos) (e::es) [] cpos) (dZP T r to t):=by
 intro pins s σ H Q I h;refine Gk hbase hfew hline rfl (thn (ho pins s σ H _ I h) λv s1 ⟨x,H1,I1,r1,q⟩=>?_);obtain⟨ty,q1⟩:=cQK (K:=X.K) q;obtain⟨h1,h2⟩:=dJ7 I1 r1 ty;refine⟨T,id,pa,slot,hty,h1,h2,?_⟩;have hA:=ha cpos pins s1 σ H1 _ I1 q1
 rw[hs]at hA ⊢;refine Gm (by show (false || (backTo cpos (starEach es X.env)).any (·.1))=false;rw[hplain]<;>rfl) (Ft ?_)
 exact thn hA λus s2 ⟨vs,H2,I2,r2,q2⟩=>hm pins s2 σ H2 x vs v us Q I2 r1 r2 q2
def dXZ:V->List V->Hp->VK->Prop:=λx vs H Q=>match x,vs with
 |.ref l,[y]=>(match iD H l with|some xs=>xs.length<sizeLine/\Q .non (upd H l (.lst (xs++[y])))|none=>False)
 |_,_=>False
def aQ4:MtR X "list.append" dXZ:=MtR.imp (r:=aJ4) vZ λ_ _ _ _ q=>by
 unfold dXZ at q;split at q
 ·split at q
  ·exact⟨_,_,_,rfl,rfl,lB (by assumption),q.1,q.2⟩
  ·exact q.elim
 ·exact q.elim
def yC:V->List V->Hp->VK->Prop:=λx vs H Q=>match x,vs with
 |.str z,[.str y]=>(match Builtin.Str.occurrences z y 0 z.length 1 with|i::_=>Q (.int ((i:Nat):Int)) H|[]=>False)
 |_,_=>False
def dXE:MtR X "str.index" yC:=mt_index.imp λ_ _ _ _ q=>by
 unfold yC at q;split at q
 ·split at q
  ·exact⟨_,_,_,_,rfl,rfl,by assumption,q⟩
  ·exact q.elim
 ·exact q.elim
def mC:List V->Option (List Str)
 |[]=>some []
 |.str z::r=>(mC r).map (z::·)
 |_=>none
def aX0(ys:List Str):mC (ys.map V.str)=some ys:=by
 induction ys with
 |nil=>rfl
 |cons y r ih=>rw[Au,mC,ih];rfl
def vU:∀ {xs:List V} {ys:List Str},mC xs=some ys->xs=ys.map V.str
 |[],_,h=>by cases h;rfl
 |.str z::r,_,h=>by
  rw[mC]at h;cases e:mC r with
  |none=>rw[e]at h;cases h
  |some l=>rw[e]at h;cases h;rw[vU e];rfl
 |.non::_,_,h=>by cases h
 |.bl _::_,_,h=>by cases h
 |.int _::_,_,h=>by cases h
 |.byt _::_,_,h=>by cases h
 |.flt _::_,_,h=>by cases h
 |.ref _::_,_,h=>by cases h
 |.ty _::_,_,h=>by cases h
def bQL:V->List V->Hp->VK->Prop:=λx vs H Q=>match x,vs with
 |.str z,[.ref p]=>(match rdL H p with
  |some xs=>(match mC xs with|some ys=>(ys.map (·.length)).sum+ys.length*z.length<=16777216/\Q (.str (Txt.join z ys)) H|none=>False)
  |none=>False)
 |_,_=>False
def aJC:MtR X "str.join" bQL:=mt_join.imp λ_ _ _ _ q=>by
 unfold bQL at q;split at q
 ·split at q
  ·split at q
   ·have e:=vU (by assumption)
    subst e;exact⟨_,_,_,rfl,rfl,aY (by assumption),q.1,q.2⟩
   ·exact q.elim
  ·exact q.elim
 ·exact q.elim
def mF:List V->Option (List Bool)
 |[]=>some []
 |.bl z::r=>(mF r).map (z::·)
 |_=>none
def aXN(ys:List Bool):mF (ys.map V.bl)=some ys:=by
 induction ys with
 |nil=>rfl
 |cons y r ih=>rw[Au,mF,ih];rfl
def vW:∀ {xs:List V} {ys:List Bool},mF xs=some ys->xs=ys.map V.bl
 |[],_,h=>by cases h;rfl
 |.bl z::r,_,h=>by
  rw[mF]at h;cases e:mF r with
  |none=>rw[e]at h;cases h
  |some l=>rw[e]at h;cases h;rw[vW e];rfl
 |.non::_,_,h=>by cases h
 |.str _::_,_,h=>by cases h
 |.int _::_,_,h=>by cases h
 |.byt _::_,_,h=>by cases h
 |.flt _::_,_,h=>by cases h
 |.ref _::_,_,h=>by cases h
 |.ty _::_,_,h=>by cases h
def dXC:List V->Hp->VK->Prop:=λvs H Q=>match vs with
 |[.ref p]=>(match rdL H p with
  |some xs=>(match mF xs with|some bs=>Q (.bl (bs.all _root_.id)) H|none=>False)
  |none=>False)
 |_=>False
def aQW(hc:X.calm=true):CallR X (.builtin "all") dXC:=(uT hc).imp λ_ _ _ q=>by
 unfold dXC at q;split at q
 ·split at q
  ·split at q
   ·have e:=vW (by assumption)
    subst e;exact⟨_,_,rfl,aY (by assumption),q⟩
   ·exact q.elim
  ·exact q.elim
 ·exact q.elim
end
def zV(R:Str->Hp->Prop):VK:=λx H=>match x with|.str z=>R z H|_=>False
def cZ7{R:Str->Hp->Prop}{x:V}(q:zV R x H):∃z,x=.str z/\R z H:=by
 unfold zV at q;split at q
 ·exact⟨_,rfl,q⟩
 ·exact q.elim
def onL(o:Option (List V))(P:Prop):Prop:=match o with|some _=>P|none=>False
def gI(R:Addr->Hp->Prop):VK:=λx H=>match x with|.ref a=>R a H|_=>False
def bJ2{R:Addr->Hp->Prop}{x:V}(q:gI R x H):∃a,x=.ref a/\R a H:=by
 unfold gI at q;split at q
 ·exact⟨_,rfl,q⟩
 ·exact q.elim
section
variable {a b:Expr} {ta tb:TE} {p:Pos}
def fQI(tl:TE):TI:=λσ H R=>tl σ H (zV λz H1=>R (Its z) H1)
def jS(hl:PE X l tl):PI X tg l (fQI tl):=by
 intro pins s σ H R I h;refine thn (hl pins s σ H _ I h) λv s1 ⟨x,H1,I1,r1,q1⟩=>?_;obtain⟨z,rfl,q⟩:=cZ7 q1;obtain⟨t,rfl⟩:=r1;have fb:∀b∈[s1.heap.objs.size],lE X pins H1 b:=λb hb=>by
  have e:b=s1.heap.objs.size:=by simpa using hb
  subst e;exact I1.fpOk (Ai _) (I1.hok.fresh (Ai _))
 cases ha:z.cps.all (· < 128)
 ·refine wpAny_pyIter_wide ha ?_;exact⟨s1.heap.objs.size,[s1.heap.objs.size],_,_,H1,rfl,I1.kept (t':=s1.toks) λb o e=>Ah _ e,bZO z t _,⟨_,Av _ rfl,rfl,rfl⟩,fb,q⟩
 ·refine wpAny_pyIter_ascii ha ?_;exact⟨s1.heap.objs.size,[s1.heap.objs.size],_,_,H1,rfl,I1.kept (t':=s1.toks) λb o e=>Ah _ e,aZM z t _,⟨_,Av _ rfl,rfl,rfl⟩,fb,q⟩
def dZC(K:W.Frag)(tl:TE):TI:=λσ H R=>tl σ H (gI λa H1=>onL (rdL H1 a) (R (Itl K a) H1))
def bO(hl:PE X l tl):PI X tg l (dZC X.K tl):=by
 intro pins s σ H R I h;refine thn (hl pins s σ H _ I h) λv s1 ⟨x,H1,I1,r1,q1⟩=>?_;obtain⟨a,rfl,q⟩:=bJ2 q1;cases r1;unfold onL at q;split at q
 ·rename_i xs e
  obtain⟨its,rv,p,hz⟩:=I1.list (aY e);refine Dr p.isList ?_;refine⟨s1.heap.objs.size,[s1.heap.objs.size],_,_,H1,rfl,I1.kept (t':=s1.toks) λb o e=>Ah _ e,bZJ a _,⟨_,Av _ rfl,rfl,rfl⟩,λb hb=>?_,q⟩;have e:b=s1.heap.objs.size:=by simpa using hb
  subst e;exact I1.fpOk (Ai _) (I1.hok.fresh (Ai _))
 ·exact q.elim
def sJ(R:Int->Hp->Prop):List V->Hp->Prop:=λvs H=>match vs with|[.int j]=>R j H|_=>False
def qJ{R:Int->Hp->Prop}(q:sJ R vs H):∃j,vs=[.int j]/\R j H:=by
 unfold sJ at q;split at q
 ·exact⟨_,rfl,q⟩
 ·exact q.elim
def cZR(R:Int->Int->Hp->Prop):List V->Hp->Prop:=λvs H=>match vs with|[.int i,.int j]=>R i j H|_=>False
def dXQ{R:Int->Int->Hp->Prop}(q:cZR R vs H):∃i j,vs=[.int i,.int j]/\R i j H:=by
 unfold cZR at q;split at q
 ·exact⟨_,_,rfl,q⟩
 ·exact q.elim
def dZR(ta:TA):TI:=λσ H R=>ta σ H (sJ λj H1=>(-(2^62)<=j/\j<2^62)/\R (Itr 0 j.toNat) H1)
def dZ5(ta:TA):TI:=λσ H R=>ta σ H (cZR λi j H1=>(-(2^62)<=i/\i<2^62/\-(2^62)<=j/\j<2^62)/\R (Itr i (j-i).toNat) H1)
def kX{ta:TA}(hg:Gl X "range")(hm:X.mg "range"=none)(ha:PA X [a] ta)(hs:starEach [a] X.env=[(false,eval a X.env)]:=by rfl):PI X tg (.Call (.Name "range" p) [a] [] pos) (dZR ta):=by
 intro pins s σ H R I h;refine Call_ (gR I hg hm boot_range (Dc (thn (ha pos pins s σ H _ I h) λus s1 ⟨vs,H1,I1,r1,q1⟩=>?_) hs rfl));obtain⟨j,e,⟨b1,b2⟩,q⟩:=qJ q1;subst e;cases r1 with
 |cons r rr=>
  cases rr;obtain⟨t,rfl⟩:=r;exact call_range_1 (aQX I1 (by omega) (by omega) b1 b2 (by simpa using q))
def bX0{ta:TA}(hg:Gl X "range")(hm:X.mg "range"=none)(ha:PA X [a,b] ta)(hs:starEach [a,b] X.env=[(false,eval a X.env),(false,eval b X.env)]:=by rfl)(hs2:starEach [b] X.env=[(false,eval b X.env)]:=by rfl):PI X tg (.Call (.Name "range" p) [a,b] [] pos) (dZ5 ta):=by
 intro pins s σ H R I h;refine Call_ (gR I hg hm boot_range (Dc (thn (ha pos pins s σ H _ I h) λus s1 ⟨vs,H1,I1,r1,q1⟩=>?_) (by rw[hs,hs2]) (by rw[hs2];rfl)))
 obtain⟨i,j,e,⟨b1,b2,b3,b4⟩,q⟩:=dXQ q1;subst e;cases r1 with
 |cons r rr=>
  cases rr with
  |cons r' rr=>
   cases rr;obtain⟨t,rfl⟩:=r;obtain⟨t',rfl⟩:=r';exact call_range_2 (aQX I1 b1 b2 b3 b4 q)
def yP(J:It)(g:TG)(tb:TS)(D:Ends)(σ:St)(H1:Hp):Prop:=∃W:Nat->Nat->St->Hp->Prop,(∃m,W 0 m σ H1)/\∀i m σ H,W i m σ H->
 (J.stop i H/\D.nx σ H)\/(J.go i H/\∃N:St->Hp->Prop,(∀σ' H',N σ' H'->∃m',m' < m/\W (i+1) m' σ' H')/\∀x H',J.yld i H x H'->g x σ H' λσ2 H2=>tb {D with nx:=N,ct:=N,bk:=D.nx} σ2 H2)
def dZE(wi:TI)(g:TG)(tb:TS):TS:=λD σ H=>wi σ H λJ H1=>yP J g tb D σ H1
def cJ{body:List Stmt}{wi:TI}{tb:TS}(hp:PassesOwn (model X.prog X.w) X.A X.env X.xe)(hc:X.calm=true)(hi:PI X tg iter wi)(hg:PG X tg g)(hb:PSs X body tb)(hs:∀x,foldedSetIterable iter X.env x=pure x:=by intro _;rfl):PS X (.For tg iter body [] pos) (dZE wi g tb):=eQR (wi:=wi) hp hc hi hg hb hs
section
variable {tb:TS} {σ:St}
def fQ(Pv:Nat->St->Hp->Prop)(h0:Pv 0 σ H)(hl:∀i σ H,i<=xs.length->Pv i σ H->rdL H c=some xs)(hs:∀i x σ H,xs[i]?=some x->Pv i σ H->g x σ H λσ2 H2=>tb {D with nx:=Pv (i+1),ct:=Pv (i+1),bk:=D.nx} σ2 H2)(hd:∀σ H,Pv xs.length σ H->D.nx σ H):yP (Itl K c) g tb D σ H:=
 cX2 Pv h0 (λi σ H hi p=>aY (hl i σ H hi p)) hs hd
def aJI(Pv:Nat->St->Hp->Prop)(h0:Pv 0 σ H)(hs:∀i c σ H,z.cps.toList[i]?=some c->Pv i σ H->g (.str ⟨#[c]⟩) σ H λσ2 H2=>tb {D with nx:=Pv (i+1),ct:=Pv (i+1),bk:=D.nx} σ2 H2)(hd:∀σ H,Pv z.cps.toList.length σ H->D.nx σ H):yP (Its z) g tb D σ H:=
 dQL Pv h0 hs hd
def rL(Pv:Nat->St->Hp->Prop)(h0:Pv 0 σ H)(hs:∀i σ H,i<n->Pv i σ H->g (.int (lo+i)) σ H λσ2 H2=>tb {D with nx:=Pv (i+1),ct:=Pv (i+1),bk:=D.nx} σ2 H2)(hd:∀σ H,Pv n σ H->D.nx σ H):yP (Itr lo n) g tb D σ H:=
 bXY Pv h0 hs hd
end
end
section
variable {σ:St} {QB:Bool->Hp->Prop} {QA:List V->Hp->Prop} {QO:Option Int->Hp->Prop} {t u:TS} {ta tb:TE} {tt tu:TT} {tA:TA} {r:R2} {x:V} {j:Int} {z':Str} {p q:Addr} {k:Nat}
def jJ(h:t {D with nx:=u D} σ H):dJF t u D σ H:=h
def eXQ(h:D.nx σ H):dZM D σ H:=h
def fQ8{c:TT}(h:c σ H λb H1=>if b=true then t D σ H1 else u D σ H1):eZ3 c t u D σ H:=h
def fQF(h:te σ H D.rt):fQB te D σ H:=h
def eZI(h:te σ H λ_ H1=>D.nx σ H1):dZ3 te D σ H:=h
def fQE(h:te σ H λx H1=>g x σ H1 D.nx):cXY te g D σ H:=h
def eJO{wi:TI}{tb:TS}(h:wi σ H λJ H1=>yP J g tb D σ H1):dZE wi g tb D σ H:=h
def xD{QS:St->Hp->Prop}(h:QS (σ.set k (some v)) H):jL k v σ H QS:=h
def dJD{QS:St->Hp->Prop}{ti:TE}{ts:cJ9}(h:to σ H λo H1=>ti σ H1 λi H2=>ts o i v H2 λH3=>QS σ H3):eJY to ti ts v σ H QS:=h
def eZY(e:σ[k]?=some (some v))(h:Q v H):bQ9 k σ H Q:=by unfold bQ9;rw[e];exact h
def s_c(h:Q v H):tC v σ H Q:=h
def fQ1(h:ta σ H λx H1=>tb σ H1 λy H2=>r x y H2 Q):tOp r ta tb σ H Q:=h
def fXC{ru:V->Hp->VK->Prop}(h:ta σ H λx H1=>ru x H1 Q):tUn ru ta σ H Q:=h
def fQT(h:QA [] H):bQ5 σ H QA:=h
def eQV{tr:TA}(h:ta σ H λx H1=>tr σ H1 λxs H2=>QA (x::xs) H2):zN ta tr σ H QA:=h
def eZ6(h:tA σ H λxs H1=>xs.length<=sizeLine/\∀p,H1 p=none->Q (.ref p) (upd H1 p (.lst xs))):eZK tA σ H Q:=h
def fQS(h:tA σ H λxs H1=>xs.length<=sizeLine/\∀p,H1 p=none->Q (.ref p) (upd H1 p (.tup xs))):eZM tA σ H Q:=h
def eQL{E:XK}(h:tA σ H λvs H1=>sp (vs++[]) H1 Q E):bQQ sp [] E tA σ H Q:=h
def fXE{rc:List V->Hp->VK->Prop}(h:tA σ H λvs H1=>rc vs H1 Q):tCB rc tA σ H Q:=h
def fQ5{rs:V->Option Int->Option Int->Hp->VK->Prop}{tl th:TO}(h:te σ H λx H1=>tl σ H1 λl H2=>th σ H2 λu H3=>rs x l u H3 Q):tSl rs te tl th σ H Q:=h
def cQ8(h:QO none H):bQM σ H QO:=h
def eQB(h:te σ H (xZ QO)):dZ9 te σ H QO:=h
def cJB(h:QO (some i) H):xZ QO (.int i) H:=h
def eXV{rm:V->List V->Hp->VK->Prop}(h:to σ H λx H1=>aZ9 T x H1 (tA σ H1 λxs H2=>rm x xs H2 Q)):dZP T rm to tA σ H Q:=h
def eZ9{P:Prop}(h:P):aZ9 "str" (.str z) H P:=⟨rfl,h⟩
def eZ1{P:Prop}(e:rdL H p=some xs)(h:P):aZ9 "list" (.ref p) H P:=by unfold aZ9;simp only[e];exact⟨trivial,h⟩
def dJM(h:te σ H (mB QB)):dZQ te σ H QB:=h
def cJS(h:te σ H (cZJ QB)):cXN te σ H QB:=h
def fQ9{b:Bool}(h:QB b H):mB QB (.bl b) H:=h
def eXA{b:Bool}(h:QB b H):cZJ QB (.bl b) H:=h
def eZZ(h:tt σ H λc H1=>if c=true then tu σ H1 QB else QB false H1):fQD tt tu σ H QB:=h
def fXB(h:tt σ H λc H1=>if c=true then QB true H1 else tu σ H1 QB):tOr tt tu σ H QB:=h
def fQC(h:tt σ H λc H1=>QB (!c) H1):eJH tt σ H QB:=h
def dJQ(h:ta σ H (mB λc H1=>if c=true then tb σ H1 Q else Q (.bl false) H1)):dZF ta tb σ H Q:=h
def fQP(h:tt σ H λc H1=>if c=true then ta σ H1 Q else tb σ H1 Q):tIf tt ta tb σ H Q:=h
def fXA{g:Int->Int->V}(h:Q (g i j) H):mI g (.int i) (.int j) H Q:=h
def eZ4{C:Int->Int->Prop}{g:Int->Int->V}(c:C i j)(h:Q (g i j) H):mIC C g (.int i) (.int j) H Q:=⟨c,h⟩
def eQW(h:Q (.int (i+j)) H):bZH (.int i) (.int j) H Q:=h
def dJ4(c:z.length+z'.length<=sizeLine)(h:Q (.str (z++z')) H):bZH (.str z) (.str z') H Q:=⟨c,h⟩
def mM(e:iD H p=some xs)(e':iD H q=some ys)(c:xs.length+ys.length<=sizeLine)(h:∀r,H r=none->Q (.ref r) (upd H r (.lst (xs++ys)))):bZH (.ref p) (.ref q) H Q:=by
 unfold bZH;simp only[e,e'];exact⟨c,h⟩
def eJG(h:Q (.bl (decide (i=j))) H):mEq (.int i) (.int j) H Q:=⟨rfl,by
 rw[show decide (V.int i=V.int j)=decide (i=j) by simp];exact h⟩
def eZ2(h:Q (.bl (decide (z=z'))) H):mEq (.str z) (.str z') H Q:=⟨rfl,by
 rw[show decide (V.str z=V.str z')=decide (z=z') by simp];exact h⟩
def fQH(h:Q (.bl (!decide (i=j))) H):mNe (.int i) (.int j) H Q:=⟨rfl,by
 rw[show decide (V.int i=V.int j)=decide (i=j) by simp];exact h⟩
def fQJ(h:Q (.bl (!decide (z=z'))) H):mNe (.str z) (.str z') H Q:=⟨rfl,by
 rw[show decide (V.str z=V.str z')=decide (z=z') by simp];exact h⟩
def aJR{neg:Bool}(e:rdL H p=some xs)(e':rdL H q=some ys)(f:xs.all cM=true)(f':ys.all cM=true)(h:Q (.bl (if neg then !iC xs ys else iC xs ys)) H):bZY neg (.ref p) (.ref q) H Q:=by
 unfold bZY;simp only[e,e'];exact⟨f,f',h⟩
def eJ0(h:Q (.bl (decide (x=.non))) H):eXB x .non H Q:=h
def eXN(h:Q (.bl (!decide (x=.non))) H):cQZ x .non H Q:=h
def eZV(h:Q (.bl (if neg then !subIn z z' else subIn z z')) H):eXR neg (.str z) (.str z') H Q:=h
def wM{neg:Bool}(e:rdL H p=some xs)(f:cM x=true)(f':xs.all cM=true)(h:Q (.bl (if neg then !inV x xs else inV x xs)) H):bXU neg x (.ref p) H Q:=by
 unfold bXU;simp only[e];exact⟨f,f',h⟩
def aQR{c:Nat}(l:z.length<=sizeLine)(e:atI z.cps.toList i=some c)(h:Q (.str ⟨#[c]⟩) H):mIx (.str z) (.int i) H Q:=by
 unfold mIx;simp only[e];exact⟨l,h⟩
def cO(e:rdL H p=some xs)(e':atI xs i=some v)(h:Q v H):mIx (.ref p) (.int i) H Q:=by
 unfold mIx;simp only[e,e'];exact h
def eZ5{lo hi:Option Int}(e:rdL H p=some xs)(h:∀r,H r=none->Q (.ref r) (upd H r (.lst (kO xs lo hi)))):mSl (.ref p) lo hi H Q:=by
 unfold mSl;simp only[e];exact h
def eQ9(l:z.length<=sizeLine)(h:Q (.int z.length) H):bQ [.str z] H Q:=⟨l,h⟩
def dJH(e:rdL H p=some xs)(h:Q (.int xs.length) H):bQ [.ref p] H Q:=by unfold bQ;simp only[e];exact h
def yE(e:PySem.intText? z=some i)(l:z.length<=640)(h:Q (.int i) H):dXM [.str z] H Q:=by unfold dXM;simp only[e];exact⟨l,h⟩
def eQ3(e:rdL H p=some xs)(h:∀l,H l=none->Q (.ref l) (upd H l (.lst xs))):bQB [.ref p] H Q:=by unfold bQB;simp only[e];exact h
def eJZ(e:iD H p=some xs)(l:xs.length<sizeLine)(h:Q .non (upd H p (.lst (xs++[v])))):dXZ (.ref p) [v] H Q:=by unfold dXZ;simp only[e];exact⟨l,h⟩
def dXY{rest:List Nat}(e:Builtin.Str.occurrences z z' 0 z.length 1=k::rest)(h:Q (.int ((k:Nat):Int)) H):yC (.str z) [.str z'] H Q:=by unfold yC;simp only[e];exact h
def aZK{ss:List Str}(e:rdL H p=some (ss.map V.str))(l:(ss.map (·.length)).sum+ss.length*z.length<=16777216)(h:Q (.str (Txt.join z ss)) H):bQL (.str z) [.ref p] H Q:=by
 unfold bQL;simp only[e,aX0];exact⟨l,h⟩
def zD{bs:List Bool}(e:rdL H p=some (bs.map V.bl))(h:Q (.bl (bs.all id)) H):dXC [.ref p] H Q:=by
 unfold dXC;simp only[e,aXN];exact h
def dQ7(h:tl σ H (gI λa H1=>onL (rdL H1 a) (R (Itl K a) H1))):dZC K tl σ H R:=h
def dQO{R:Addr->Hp->Prop}(h:R p H):gI R (.ref p) H:=h
def eJU{P:Prop}(e:rdL H p=some xs)(h:P):onL (rdL H p) P:=by unfold onL;simp only[e];exact h
def dJ1(h:tl σ H (zV λz H1=>R (Its z) H1)):fQI tl σ H R:=h
def cJU{R:Str->Hp->Prop}(h:R z H):zV R (.str z) H:=h
def dXA(h:tA σ H (sJ λj H1=>(-(2^62)<=j/\j<2^62)/\R (Itr 0 j.toNat) H1)):dZR tA σ H R:=h
def dQ0(h:tA σ H (cZR λi j H1=>(-(2^62)<=i/\i<2^62/\-(2^62)<=j/\j<2^62)/\R (Itr i (j-i).toNat) H1)):dZ5 tA σ H R:=h
def eX0{R:Int->Hp->Prop}(h:R i H):sJ R [.int i] H:=h
def eQA{R:Int->Int->Hp->Prop}(h:R i j H):cZR R [.int i,.int j] H:=h
def dZ1{o:V}{QH:Hp->Prop}(e:iD H p=some xs)(e':ixN xs.length i=some k)(h:QH (upd H p (.lst (xs.set k v)))):dZH (.ref p) (.int i) v H QH:=⟨_,_,_,_,rfl,rfl,lB e,e',h⟩
end
def eX7{xs:List α}{i:Int}(h0:0<=i)(h1:i<xs.length):∃v,atI xs i=some v/\xs[i.toNat]?=some v:=by
 have hk:i.toNat<xs.length:=by omega
 have e:i=((i.toNat:Nat):Int):=by omega
 have q:atI xs ((i.toNat:Nat):Int)=some xs[i.toNat]:=bD (Aa hk)
 rw[<-e]at q;exact⟨xs[i.toNat],q,Aa hk⟩
def cZW(h0:0<=i)(h1:i<n):ixN n i=some i.toNat:=by
 unfold ixN;rw[if_pos h0,if_pos h1]
def bH(h:n<=100000):n<=sizeLine:=Cc h (by decide)
def bA(h:n<=100000):n<sizeLine:=Nat.lt_of_le_of_lt h (by decide)
def Cal(P:Program)(w:World)(K:W.Frag)(mg:Str->Option Value)(base:Heap)(k:Nat)(x:Str)(ps:List Str)(sp:Sp):Prop:=
 ∃(f:Addr) (fd:FuncData),FnOk P w K mg base CX0 k f fd ps sp/\mg x=some (.ref f)/\W.keepIn K (.ref f)=true/\Binds K fd ps []
section
variable {k:Nat} {ps:List Str} {p:Pos}
def aU(c:Cal X.prog X.w X.K X.mg X.base k x ps sp)(hr:Room k' X.A)(hk:k<=k')(hg:Gl X x)(ha:PA X (e::es) t)(hdb:(x==("__debug__" : Str))=false:=by decide)(he:starEach (e::es) X.env=(false,eval e X.env)::starEach es X.env:=by rfl)(hpl:(backTo pos (starEach es X.env)).any (·.1)=false:=by rfl):PE X (.Call (.Name x p) (e::es) [] pos) (bQQ sp [] E0 t):=by
 obtain⟨f,fd,F,hm,hk',hb⟩:=c;exact bQT F (hr.mono hk) hg hm hk' hb .nil cX0 ha hdb he hpl
def dQ(hg:Gl X x)(h:∃t,X.mg x=some (.str z t))(hd:(x==("__debug__" : Str))=false:=by decide):PE X (.Name x pos) (tC (.str z)):=by
 obtain⟨t,h⟩:=h;exact xG hg h ⟨t,rfl⟩ hd
def qI{z:Int}(hg:Gl X x)(h:∃t,X.mg x=some (.int z t))(hd:(x==("__debug__" : Str))=false:=by decide):PE X (.Name x pos) (tC (.int z)):=by
 obtain⟨t,h⟩:=h;exact xG hg h ⟨t,rfl⟩ hd
def dZU{lo hi:Option Int}(e:SqL K H a xs)(h:∀r,H r=none->Q (.ref r) (upd H r (.lst (kO xs lo hi)))):fQM K (.ref a) lo hi H Q:=⟨a,xs,rfl,e,h⟩
def eZS(e:SqL K H a xs)(e':atI xs i=some v)(h:Q v H):eQY K (.ref a) (.int i) H Q:=⟨a,xs,i,v,rfl,rfl,e,e',h⟩
end
def bK:bootBuiltins "len"=some (.builtin "len"):=by decide +kernel
def eXH:bootBuiltins "min"=some (.builtin "min"):=by decide +kernel
def sY:bootBuiltins "all"=some (.builtin "all"):=by decide +kernel
def aXT:bootBuiltins "sum"=some (.builtin "sum"):=by decide +kernel
def yA:bootBuiltins "int"=some (.type "int"):=by decide +kernel
def eM:bootBuiltins "list"=some (.type "list"):=by decide +kernel
def dQZ:bootBuiltins "dict"=some (.type "dict"):=by decide +kernel
def cXB:bootBuiltins "range"=some (.type "range"):=by decide +kernel
def eZ0{A B:Prop}(h:B):if (!true)=true then A else B:=h
def eJC{A B:Prop}(h:A):if (!false)=true then A else B:=h
def eP{X:Cx}{x:Str}{j:Nat}{pos:Pos}{es:List Expr}{t:TA}(h:PA X es t):PA X (.Constant (.str x) j pos::es) (zN (tC (.str x)) t):=aA eO h rfl
def aZR{R:Result->Shared->Prop}{elt target:Expr}{it acc:Value}(I:Nat->Shared->Prop)(turn:∀n s,I n s->wpAny (model prog w) A (pyNext it) (λr s₁=>match r with
 |none=>R (.ok .next) s₁
 | some v=>wpAny (model prog w) A (letOwnedTupleGo target it v) (λ_ s₁'=>wpAny (model prog w) A (assign target env v) (λ_ s₂=>
     wpAny (model prog w) A (forIn ifs true λc r=>if r=true then do let ok <-isTrue c env (eval c env);pure (ForInStep.yield ok) else pure (ForInStep.yield r)) (λok s₃=>
      if ok=true then wpAny (model prog w) A (eval elt env) (λx s₄=>
       wpAny (model prog w) A (call (.builtin "list.append") [acc,x]) (λ_ s₅=>∃m,m<n/\I m s₅) (λ_ _=>False) s₄) (λ_ _=>False) s₃
      else ∃m,m<n/\I m s₃) (λ_ _=>False) s₂) (λ_ _=>False) s₁') (λ_ _=>False) s₁) (λ_ _=>False) s)(n:Nat)(h:I n s):codeAny (model prog w) A (.compLoop (.ListComp elt [⟨target,iter,ifs,0⟩] scope pos) 0 it acc env) R s:=by
 refine codeAny_loop rfl I (λn s hI=>?_) n h;show wpAny _ A ((compTurn (.ListComp elt [⟨target,iter,ifs,0⟩] scope pos) 0 it acc env).onRaise (λx=>do noteFrame x env;theTreesLotGoes x)) _ _ s
 refine wpAny_noted ?_;rw[compTurn_list];refine Af (Em (Af (Cp (turn n s hI) (λr s₁ h₁=>?_) λ_ _ h'=>h'.elim)));cases r with
 |none=>exact An h₁
 |some v=>
  refine Af (Cp h₁ (λ_ s₁' h₁'=>?_) λ_ _ h'=>h'.elim);refine Af (Cp h₁' (λ_ s₂ h₂=>Af (Cp h₂ (λok s₃ h₃=>?_) λ_ _ h'=>h'.elim)) λ_ _ h'=>h'.elim);cases ok with
  |false=>exact An ⟨rfl,h₃⟩
  |true=>
   exact Af (Af (Cp h₃ (λx s₄ h₄=>Af (Cp h₄ (λ_ s₅ h₅=>An (An ⟨rfl,h₅⟩)) λ_ _ h'=>h'.elim)) λ_ _ h'=>h'.elim))
def cxC(X:Cx)(N:List Str)(scope:Scope)(cl:List (Str×Addr))(C:Addr)(s₀:Shared)(H₀:Hp)(ex:List Addr):Cx:=
 {prog:=X.prog,w:=X.w,K:=X.K,mg:=X.mg,base:=X.base,A:=X.A,N:=N,s₀:=s₀,H₀:=H₀,env:=compEnvC scope cl C X.env,outer:=X.stack,stack:=X.stack,ex:=ex,fn:=λ_=>false,calm:=X.calm,pn:=[],xe:=λ_ _=>False}
structure ClOk (X:Cx) (N:List Str) (scope:Scope) (cl:List (Str×Addr)) (vals:St->St):Prop where
 clos:closureFor scope X.env=pure cl
 sub:∀x c,cl.lookup x=some c->X.env.cells.lookup x=some c
 has:∀x,((relabel scope X.env).names.lookup x=some .cell\/(relabel scope X.env).names.lookup x=some .free)->∃c,cl.lookup x=some c
 len:∀σ,(vals σ).length=N.length
 val:∀σ (i:Nat) x v,N[i]?=some x->(vals σ)[i]?=some (some v)->∃(j:Nat),X.N[j]?=some x/\σ[j]?=some (some v)/\X.env.scope.names.lookup x=some .cell/\(∃c,cl.lookup x=some c)/\(relabel scope X.env).names.lookup x=some .cell
def PF(X:Cx)(ifs:List Expr)(t:TT):Prop:=∀(pins:List (Addr×Obj)) (s:Shared) (σ:St) (H:Hp) (Q:Bool->Hp->Prop),Inv X pins σ H s->t σ H Q->
 wpAny (model X.prog X.w) X.A (forIn ifs true λc r=>if r=true then do let ok <-isTrue c X.env (eval c X.env);pure (ForInStep.yield ok) else pure (ForInStep.yield r)) (TP X pins σ Q) X.xe s
def eJW:TT:=λ_ H Q=>Q true H
def cK:PF X [] eJW:=λpins s σ H Q I q=>wpAny_tests_nil ⟨H,I,q⟩
def fG{c:Expr}{t:TT}(h:PT X c t):PF X [c] t:=λpins s σ H Q I q=>wpAny_tests_one (h pins s σ H Q I q)
section
variable {σ:St} {H2:Hp} {s2:Shared} {vals:St->St}
def aZC{h1:Heap}{t1:Nat}(I:Inv X pins σ H2 s2)(ck:ClOk X N scope cl vals)(hkind:scope.kind=.function)(hf:∀b∈fp,lE X pins H2 b)(hlt:∀b∈fp,b<s2.heap.objs.size)(hns:h1.Ns s2.heap.objs.size λ_=>none)(hsb:Heap.SameBut s2.heap.objs.size (s2.heap.push {cls:=.type "dict",data:=.dict #[]}) h1):Inv (cxC X N scope cl s2.heap.objs.size s2 H2 fp) [] (vals σ) H2 {s2 with heap:=h1,toks:=t1}:=by
 have old:∀b o,s2.heap.get? b=some o->h1.get? b=some o:=λb o e=>(hsb.2 b (Bc (As e))).trans (Ah _ e)
 have hC:H2 s2.heap.objs.size=none:=I.hok.fresh (Ai _)
 refine⟨⟨I.ok.mod,hkind,I.ok.glob,I.ok.blt,Ai _,λx y c h1 h2=>I.ok.inj x y c (ck.sub x c h1) (ck.sub y c h2),ck.has,(λx c h=>nomatch h),I.ok.hd,I.ok.frames,.inl rfl,λb hb=>⟨Bc (hlt b hb),λx c e=>(hf b hb).2.2.2.2.1 x c (ck.sub x c e)⟩,
  I.bs,Nat.le_trans I.ok.bsz I.sz,λb o e hb=>?_,λb hb hs=>?_,I.stack,I.stkFree⟩,rfl,I.bare,Un.kept old,⟨_,hns,λi x v e1 e2 _=>?_⟩,λx c e=>?_,hC,λx c e=>I.freeC x c (ck.sub x c e),λp hp=>absurd (show p∈([]:Q2) from hp) (by simp),I.hok.kept old,ck.len σ⟩
 ·rcases (hf b hb).2.2.2.1 with z|z
  ·exact I.ok.noex b o e z
  ·exact absurd (Bb (As e) (Cc I.ok.bsz z)) (Dh _)
 ·rcases Be.mp (I.stkSub b hs) with z|z
  ·exact(hf b hb).2.1 z
  ·exact(hf b hb).2.2.1 z
 ·obtain⟨j,h1,h2,h3,⟨c,h4⟩,h5⟩:=ck.val σ i x v e1 e2;obtain⟨m,hn,hl⟩:=I.loc;obtain⟨u,r,l⟩:=hl j x v h1 h2 (.inr (.inl h3));refine⟨u,r,.inr ⟨.inl h5,c,h4,?_⟩⟩;rcases l with⟨z,_⟩|⟨_,c',e',z⟩
  ·have z':X.env.scope.names.lookup x=some .local:=z
   rw[h3]at z';cases z'
  ·rw[ck.sub x c h4]at e';cases e';obtain⟨o,ho,hd⟩:=z;exact⟨o,old _ o ho,hd⟩
 ·obtain⟨v,o,ho,hd⟩:=I.cell x c (ck.sub x c e);exact⟨v,o,old _ o ho,hd⟩
def bXD{σ':St}{s':Shared}{h'':Heap}{pins':Q2}(I:Inv X pins σ H2 s2)(hf:∀b∈fp,lE X pins H2 b)(I':Inv (cxC X N scope cl s2.heap.objs.size s2 H2 fp) pins' σ' H' s')(hsb:Heap.SameBut s2.heap.objs.size s'.heap h''):Inv X pins σ H' {s' with heap:=h''}:=by
 have u1:Un (frs X.stack) (s2.heap.objs.size::fp) H2 H' s2.heap s'.heap:=I'.base.mono (λ_ z=>z) λb z=>Aj _ z
 have hC:H' s2.heap.objs.size=none:=I'.free
 have k:∀b o,b≠s2.heap.objs.size->s'.heap.get? b=some o->h''.get? b=some o:=λb o hb e=>(hsb.2 b hb).trans e
 have u2:Un (frs X.stack) (s2.heap.objs.size::fp) H' H' s'.heap h'':=⟨λb o e _ _ hx=>k b o (λz=>hx (by simp[z])) e,λb o e _ _ hx=>⟨o.slots,k b o (λz=>hx (by simp[z])) e⟩,λ_ _ _ n _=>n,
  λb o e hx=>⟨o,k b o (λz=>hx (by simp[z])) e⟩,λ_ _ e=>e,λ_ _ _ e=>e,λb ps e=>⟨#[],by rw[e];simp⟩⟩
 have hok:HOk X.prog X.w H' h'':=λb u e=>by
  have nC:∀c v,H' c=some v->c≠s2.heap.objs.size:=λc v e z=>by rw[z,hC]at e;cases e
  refine(I'.hok b u e).stay (λc v hc q=>k c v ?_ q) (λ_ q=>q) λ_ _ q=>q;rcases hc with z|z
  ·rw[z];exact nC b u e
  ·exact nC c _ z
 refine I.call' (s':={s' with heap:=h''}) (ch:=s2.heap.objs.size::fp) I'.os (u1.trans u2) hok I'.bare λb hb=>?_
 have q:lE X pins H2 b:=by
  rcases Be.mp hb with z|z
  ·subst z;exact I.fpOk (Ai _) (I.hok.fresh (Ai _))
  ·exact hf b z
 exact⟨q.2.2.2.1,q.2.1,q.2.2.2.2.1,q.2.2.2.2.2⟩
end
def Wk(σ0 σ:St):Prop:=σ0.length=σ.length/\∀(i:Nat) v,σ0[i]?=some (some v)->σ[i]?=some (some v)
def Wk.refl(σ:St):Wk σ σ:=⟨rfl,λ_ _ h=>h⟩
def Wk.set{σ0 σ:St}{k:Nat}(h:σ0[k]?=some none)(w:Wk σ0 σ):Wk σ0 (σ.set k (some v)):=by
 refine⟨by rw[Du];exact w.1,λi u e=>?_⟩
 have ne:k≠i:=λz=>by subst z;rw[h]at e;cases e
 rw[Fq ne];exact w.2 i u e
def dI(g:TG)(tests:TT)(te:TE)(σ0:St)(Q:VK)(J:It)(H1:Hp):Prop:=∀D,H1 D=none->∃W:Nat->Nat->Hp->Prop,(∃m,W 0 m (upd H1 D (.lst [])))/\∀i m Hc,W i m Hc->
 (J.stop i Hc/\Q (.ref D) Hc)\/(J.go i Hc/\∀x H',J.yld i Hc x H'->g x σ0 H' λσ2 H2=>Wk σ0 σ2/\tests σ2 H2 λb H3=>if b=true then
  te σ2 H3 λy H4=>∃zs,H4 D=some (.lst zs)/\zs.length<sizeLine/\∃m',m' < m/\W (i+1) m' (upd H4 D (.lst (zs++[y]))) else ∃m',m' < m/\W (i+1) m' H3)
def cZB(wi:TI)(g:TG)(tests:TT)(te:TE)(vals:St->St):TE:=λσ H Q=>wi σ H λJ H1=>dI g tests te (vals σ) Q J H1
def aQI{σ:St}{H2:Hp}{s2:Shared}{vals:St->St}{it:Addr}{tn:Nat->Heap->Prop}{J:It}{elt:Expr}{RR:Value->Addr->Result->Shared->Prop}(I2:Inv X pins σ H2 s2)(T:Turn X.prog X.w X.K tg J fp it tn)(st2:tn 0 s2.heap)(f2:∀b∈fp,lE X pins H2 b)(hc:X.calm=true)(ck:ClOk X N scope cl vals)(hcell:∀y∈scope.names,y.2≠.cell)(hkind:scope.kind=.function)(hg:∀C s₀ H₀ ex,PG (cxC X N scope cl C s₀ H₀ ex) tg g)(ht:∀C s₀ H₀ ex,PF (cxC X N scope cl C s₀ H₀ ex) ifs tests)(he:∀C s₀ H₀ ex,PE (cxC X N scope cl C s₀ H₀ ex) elt te)(h:dI g tests te (vals σ) Q J H2)(hRR:∀D C s' H' m,s'.heap.Ns C m->Q (.ref D) H'->(∀h'',Heap.SameBut C s'.heap h''->Inv X pins σ H' {s' with heap:=h''})->lE X pins H' C->RR (.ref D) C (.ok .next) s'):wpAny (model X.prog X.w) X.A (newList []) (λacc s₃=>wpAny (model X.prog X.w) X.A (newFunctionEnv scope X.env.globals cl [] X.env.qual none .none (some X.env)) (λcenv s₄=>
 codeAny (model X.prog X.w) X.A (.compStart (.ListComp elt [⟨tg,iter,ifs,0⟩] scope pos) 0 (.ref it) acc {cenv with scope:=relabel scope X.env}) (RR acc cenv.locals) s₄) E s₃) E s2:=by
 have hD:H2 s2.heap.objs.size=none:=I2.hok.fresh (Ai _)
 obtain⟨W,⟨m0,w0⟩,turn⟩:=h _ hD;have hlt:∀b∈fp,b<s2.heap.objs.size:=λb hb=>by
  obtain⟨o,e,_⟩:=T.obj 0 _ st2 b hb;exact As e
 refine Gp ?_
 -- the list is laid
 have I3:Inv X pins σ (upd H2 s2.heap.objs.size (.lst [])) {s2 with heap:=s2.heap.push {cls:=.type "list",dict:=none,data:=.seq ([]:List Value).toArray}}:=
  I2.lnew (ys:=[]) (its:=[]) (t':=s2.toks) .nil (Cy _)
 have f3:∀b∈fp,lE X pins (upd H2 s2.heap.objs.size (.lst [])) b:=λb hb=>⟨by rw[aG (Bc (hlt b hb))];exact(f2 b hb).1,(f2 b hb).2⟩
 have st3:tn 0 (s2.heap.push {cls:=.type "list",dict:=none,data:=.seq ([]:List Value).toArray}):=T.keep _ _ _ st2 λb _ o e=>Ah _ e
 generalize hs3:({s2 with heap:=s2.heap.push {cls:=.type "list",dict:=none,data:=.seq ([]:List Value).toArray}}:Shared)=s3 at I3 ⊢
 have e3:s3.heap=s2.heap.push {cls:=.type "list",dict:=none,data:=.seq ([]:List Value).toArray}:=by rw[<-hs3]
 rw[<-e3]at st3;have hlt3:∀b∈fp,b<s3.heap.objs.size:=λb hb=>by
  obtain⟨o,e,_⟩:=T.obj 0 _ st3 b hb;exact As e
 refine wpAny_newFunctionEnv hcell (by intro y hy;simp at hy) (λh₁ hns₁ hsb₁=>?_) hkind
 have hns:h₁.Ns s3.heap.objs.size λ_=>none:=hns₁
 have I4:=aZC (t1:=s3.toks) I3 ck hkind f3 hlt3 hns hsb₁
 have old:∀b o,s3.heap.get? b=some o->h₁.get? b=some o:=λb o e=>(hsb₁.2 b (Bc (As e))).trans (Ah _ e)
 have st4:tn 0 h₁:=T.keep _ _ _ st3 λb _ o e=>old b o e
 have loop:∀ s₄:Shared,s₄={ s3 with heap:=h₁,toks:=s3.toks }->
     codeAny (model X.prog X.w) X.A (.compLoop (.ListComp elt [⟨tg,iter,ifs,0⟩] scope pos) 0 (.ref it) (.ref s2.heap.objs.size) (compEnvC scope cl s3.heap.objs.size X.env))
      (RR (.ref s2.heap.objs.size) s3.heap.objs.size) s₄:=by
  rintro s₄ rfl;have fpX:∀ {H':Hp},(∀b∈fp,H' b=none)->∀b∈fp,lE (cxC X N scope cl s3.heap.objs.size s3 (upd H2 s2.heap.objs.size (.lst [])) fp) [] H' b:=λhn b hb=>
   ⟨hn b hb,Nat.ne_of_lt (hlt3 b hb),λhs=>I4.ok.exfs b hb hs,.inl hb,λx c e=>(I4.ok.exf b hb).2 x c e,λp hp=>absurd (show p∈([]:Q2) from hp) (by simp)⟩
  refine aZR (λn s'=>∃i H',Inv (cxC X N scope cl s3.heap.objs.size s3 (upd H2 s2.heap.objs.size (.lst [])) fp) [] (vals σ) H' s'/\tn i s'.heap/\(∀b∈fp,H' b=none)/\W i n H') ?_ m0
   ⟨0,_,I4,st4,λb hb=>(f3 b hb).1,w0⟩
  rintro n s5 ⟨i,H5,I5,st5,fr5,w5⟩;rcases turn i n H5 w5 with⟨stop,q⟩|⟨go,step⟩
  ·refine thn (T.done (cxC X N scope cl s3.heap.objs.size s3 (upd H2 s2.heap.objs.size (.lst [])) fp) rfl rfl rfl hc i [] s5 (vals σ) H5 (λ_ _=>False) I5 (fpX fr5) st5 stop) λr s6 ⟨hr,I6⟩=>?_;subst hr;obtain⟨m,hn,_⟩:=id I6.loc;exact hRR _ _ s6 H5 m hn q (λh'' hsb=>bXD I3 f3 I6 hsb) (I3.fpOk (Ai _) I6.free)
  ·refine thn (T.item (cxC X N scope cl s3.heap.objs.size s3 (upd H2 s2.heap.objs.size (.lst [])) fp) rfl rfl rfl hc i [] s5 (vals σ) H5 (λ_ _=>False) I5 (fpX fr5) st5 go) λr s6 ⟨u,hr,h6⟩=>?_;subst hr;refine thn h6 λ_ s7 ⟨x,H7,I7,r7,y7,st7,fr7⟩=>?_;have I7':=I7.pinned (fpX fr7) (T.obj _ _ st7)
   refine thn (hg _ _ _ _ _ s7 (vals σ) H7 x u _ I7' r7 (step x H7 y7)) λ_ s8 ⟨σ8,H8,I8,wk8,q8⟩=>?_;refine thn (ht _ _ _ _ _ s8 σ8 H8 _ I8 q8) λb s9 ⟨H9,I9,q9⟩=>?_;have again:∀ {m':Nat} {s':Shared} {H':Hp},Inv (cxC X N scope cl s3.heap.objs.size s3 (upd H2 s2.heap.objs.size (.lst [])) fp) ([]++oY fp s7.heap) σ8 H' s'->m' < n->W (i+1) m' H'->
       ∃m,m<n/\∃i H',Inv (cxC X N scope cl s3.heap.objs.size s3 (upd H2 s2.heap.objs.size (.lst [])) fp) [] (vals σ) H' s'/\tn i s'.heap/\(∀b∈fp,H' b=none)/\W i m H':=fun {m' s' H'} J7 hm w7=>by
    refine⟨m',hm,i+1,H',(J7.weak wk8.1 wk8.2).unpinned,T.keep _ _ _ st7 λb hb o e=>(J7.pin (b,o) (Bv _ (Bv _ (jF hb e)))).1,λb hb=>?_,w7⟩;obtain⟨o,e,d⟩:=T.obj _ _ st7 b hb;exact(J7.pin (b,o) (Bv _ (Bv _ (jF hb e)))).2.1
   cases b with
   |true=>
    rw[if_pos rfl]at q9 ⊢;refine thn (he _ _ _ _ _ s9 σ8 H9 _ I9 q9) λv s10 ⟨y,H10,I10,r10,zs,hz,hl,m',hm,w10⟩=>?_;have ap:=vZ ([]++oY fp s7.heap) s10 σ8 H10 (.ref s2.heap.objs.size) [y] (.ref s2.heap.objs.size) [v] (λ_ H'=>H'=upd H10 s2.heap.objs.size (.lst (zs++[y]))) I10 rfl (.cons r10 .nil) ⟨_,_,_,rfl,rfl,hz,hl,rfl⟩
    refine thn ap λ_ s11 ⟨_,H11,I11,_,e11⟩=>?_;subst e11;exact again I11 hm w10
   |false=>
    rw[if_neg Ar]at q9 ⊢;obtain⟨m',hm,w9⟩:=q9;exact again I9 hm w9
 exact codeAny_compStart_list (loop _ rfl) (T.self _ 0 _ _ _ st4 (loop _ rfl))
section
variable {vals:St->St} {elt:Expr} {spos py:Pos} {wi:TI}
def bV(hc:X.calm=true)(hi:PI X tg iter wi)(ck:ClOk X N scope cl vals)(hcell:∀y∈scope.names,y.2≠.cell)(hkind:scope.kind=.function)(hnames:∀x∈scope.names,x.2=.local->scope.names.lookup x.1=some .local)(hg:∀C s₀ H₀ ex,PG (cxC X N scope cl C s₀ H₀ ex) tg g)(ht:∀C s₀ H₀ ex,PF (cxC X N scope cl C s₀ H₀ ex) ifs tests)(he:∀C s₀ H₀ ex,PE (cxC X N scope cl C s₀ H₀ ex) elt te)(hs:∀x,foldedSetIterable iter X.env x=pure x:=by intro _;rfl):PE X (.ListComp elt [⟨tg,iter,ifs,0⟩] scope pos) (cZB wi g tests te vals):=by
 intro pins s σ H Q I h;rw[eval_ListComp];refine wpAny_comprehension_free (use:=none) rfl hs ck.clos hkind hnames (thn (hi pins s σ H _ I h) λv s1 h1=>thn h1 λitv s2 h2=>?_);obtain⟨it,fp,tn,J,H2,e,I2,T,st2,f2,q⟩:=h2;subst e;refine aQI (RR:=λacc C=>compPost (model X.prog X.w) X.A X.xe none (EP X pins σ Q) acc C) I2 T st2 f2 hc ck hcell hkind hg ht he q λD C s' H' m hn q' back _=>?_;exact⟨m,hn,λh'' hsb=>⟨.ref D,H',back h'' hsb,rfl,q'⟩⟩
def dX{i:Nat}(hN:X.N.Nodup)(hix:X.N[i]?=some x)(hx:Loc X.env.scope x)(hc:X.calm=true)(hi:PI X tg iter wi)(ck:ClOk X N scope cl vals)(hcell:∀y∈scope.names,y.2≠.cell)(hkind:scope.kind=.function)(hnames:∀x∈scope.names,x.2=.local->scope.names.lookup x.1=some .local)(hg:∀C s₀ H₀ ex,PG (cxC X N scope cl C s₀ H₀ ex) tg g)(ht:∀C s₀ H₀ ex,PF (cxC X N scope cl C s₀ H₀ ex) ifs tests)(he:∀C s₀ H₀ ex,PE (cxC X N scope cl C s₀ H₀ ex) elt te)(hsw:swapsWith (.ListComp elt [⟨tg,iter,ifs,0⟩] scope pos) (some (.Name x py)) spos.line X.env=pure true:=by rfl)(hf:X.fn x=true\/X.env.scope.names.lookup x=some .local:=by first|exact .inl rfl|exact .inr rfl|assumption)(hs:∀x,foldedSetIterable iter X.env x=pure x:=by intro _;rfl):PS X (.Assign [.Name x py] (.ListComp elt [⟨tg,iter,ifs,0⟩] scope pos) spos) (cXY (cZB wi g tests te vals) (jL i)):=by
 intro pins s σ H D I h;rw[exec_Assign_Name_used _ _ _ _ hsw];refine Af (Em (Af ?_));show wpAny _ X.A (do let _ <-comprehension (.ListComp elt [⟨tg,iter,ifs,0⟩] scope pos) scope X.env _ (newList []) false (eval iter X.env) (some (assign (.Name x py) X.env))) _ _ s
 refine Af (Cp (wpAny_comprehension_free (use:=some (assign (.Name x py) X.env)) (Q:=λ_ s'=>SP X pins D .next s') rfl hs ck.clos hkind hnames
  (thn (hi pins s σ H _ I h) λv s1 h1=>thn h1 λitv s2 h2=>?_)) (λ_ s' hq=>An (An hq)) λ_ _ e=>e)
 obtain⟨it,fp,tn,J,H2,e,I2,T,st2,f2,q⟩:=h2;subst e;refine aQI (RR:=λacc C=>compPost (model X.prog X.w) X.A X.xe (some (assign (.Name x py) X.env)) (λ_ s'=>SP X pins D .next s') acc C) I2 T st2 f2 hc ck hcell hkind hg ht he q λDl C s' H' m hn q' back fC=>?_;show wpAny _ X.A (assign (.Name x py) X.env (.ref Dl)) _ _ s'
 have I':Inv X pins σ H' s':=back s'.heap (Heap.SameBut.refl ..)
 refine wpAny_assign_Name (wC I' hN hix hx (v:=.ref Dl) rfl (λs'' I'' hsb=>?_) hf);obtain⟨a,hsb,ha⟩:=hsb;have hCa:C≠a:=by
  rcases ha with z|z
  ·rw[z];exact fC.2.1
  ·exact λe=>fC.2.2.2.2.1 x a z e.symm
 refine⟨m,hn.sameBut hsb hCa,λh3 hsb3=>?_⟩;exact⟨σ.set i (some (.ref Dl)),H',I''.turned (t':=s''.toks) (λb o hb e=>(hsb3.2 b hb).trans e) fC.1 fC.2.1 fC.2.2.2.1 fC.2.2.2.2.1 fC.2.2.2.2.2,q'⟩
def fN(hfree:∀x∈scope.names,x.2≠.free)(hcell:∀y∈scope.names,y.2≠.cell):ClOk X N scope [] (λ_=>N.map λ_=>none) where
 clos:=closureFor_none hfree
 sub:=λx c h=>nomatch h
 has:=λx h=>by
  have e:(relabel scope X.env).names=scope.names:=by
   show List.map _ scope.names=scope.names
   refine map_eq_self λy hy=>?_;obtain⟨n,k⟩:=y;have:(k==NameKind.free)=false:=by simpa using hfree _ hy
   simp[this]
  rw[e]at h;rcases h with h|h
  ·exact absurd rfl (hcell _ (Cz h))
  ·exact absurd rfl (hfree _ (Cz h))
 len:=λσ=>by simp
 val:=λσ i x v h1 h2=>by
  rw[Ae]at h2;cases e:N[i]? with
  |none=>rw[e]at h2;cases h2
  |some y=>rw[e]at h2;cases h2
end
section
variable {σ0:St}
def dQT{J:It}{xs:List V}{ok:Hp->Prop}(f:V->Option V)(hgo:∀(i:Nat) H,ok H->i<xs.length->J.go i H)(hst:∀H,ok H->J.stop xs.length H)(hy:∀(i:Nat) H x H',ok H->J.yld i H x H'->H'=H/\xs[i]?=some x)(hok:∀D ys,H1 D=none->ok (upd H1 D (.lst ys)))(hlen:xs.length<sizeLine)(hs:∀(i:Nat) x Hc (A:VK) (B:Hp->Prop),xs[i]?=some x->ok Hc->(match f x with|some y=>A y Hc|none=>B Hc)->g x σ0 Hc λσ2 H2=>Wk σ0 σ2/\tests σ2 H2 λb H3=>if b=true then te σ2 H3 A else B H3)(fin:∀D,H1 D=none->Q (.ref D) (upd H1 D (.lst (xs.filterMap f)))):dI g tests te σ0 Q J H1:=by
 intro D hD;refine⟨λi m Hc=>m=xs.length-i/\i<=xs.length/\Hc=upd H1 D (.lst ((xs.take i).filterMap f)),⟨xs.length,by simp,Nat.zero_le _,by simp⟩,?_⟩
 rintro i m Hc ⟨rfl,hi,rfl⟩;by_cases hlt:i<xs.length
 ·refine .inr ⟨hgo i _ (hok D _ hD) hlt,λx H' y=>?_⟩;obtain⟨e,hx⟩:=hy i _ x H' (hok D _ hD) y;subst e;refine hs i x _ _ _ hx (hok D _ hD) ?_;have tk:xs.take (i+1)=xs.take i++[x]:=by rw[Bh,hx];rfl
  cases e:f x with
  |some y=>
   refine⟨_,aE,?_,xs.length-(i+1),by omega,rfl,hlt,?_⟩
   ·have:=Cs f (xs.take i)
    rw[Br]at this;omega
   ·rw[bQZ,tk,Bf];simp[e]
  |none=>
   refine⟨xs.length-(i+1),by omega,rfl,hlt,?_⟩
   rw[tk,Bf];simp[e]
 ·have e:i=xs.length:=by omega
  subst e;rw[Cj];exact .inl ⟨hst _ (hok D _ hD),fin D hD⟩
def aXX(f:Nat->Option V)(hl:z.length<sizeLine)(hs:∀(i:Nat) c Hc (A:VK) (B:Hp->Prop),z.cps.toList[i]?=some c->(match f c with|some y=>A y Hc|none=>B Hc)->g (.str ⟨#[c]⟩) σ0 Hc λσ2 H2=>Wk σ0 σ2/\tests σ2 H2 λb H3=>if b=true then te σ2 H3 A else B H3)(fin:∀D,H1 D=none->Q (.ref D) (upd H1 D (.lst (z.cps.toList.filterMap f)))):dI g tests te σ0 Q (Its z) H1:=by
 have hz:z.cps.toList.length=z.length:=by simp[Str.length]
 have hz2:z.cps.size=z.length:=rfl
 refine dQT (xs:=z.cps.toList.map λc=>.str ⟨#[c]⟩) (ok:=λ_=>True) (λx=>match x with|.str y=>f (y.cps.toList.headD 0)|_=>none) (λi H _ h=>?_) (λH _=>?_) (λi H x H' _ y=>?_) (λ_ _ _=>trivial) (by rw[Ab,hz];exact hl) (λi x Hc A B hx _ h=>?_) (λD hD=>?_)
 ·rw[Ab,hz]at h;exact h
 ·show z.cps.size<=_
  rw[Ab,hz];exact Ai _
 ·obtain⟨e,c,hc,hx⟩:=y;refine⟨e,?_⟩;rw[Ae,Dk,hc,hx];rfl
 ·rw[Ae]at hx;cases e:z.cps.toList[i]? with
  |none=>rw[e]at hx;cases hx
  |some c=>rw[e]at hx;cases hx;exact hs i c Hc A B e h
 ·have q:=fin D hD
  rw[Gg];exact q
end
def dJ9{wi:TI}{vals:St->St}{σ:St}(h:wi σ H λJ H1=>dI g tests te (vals σ) Q J H1):cZB wi g tests te vals σ H Q:=h
def eJD{σ:St}{Q:Bool->Hp->Prop}(h:Q true H):eJW σ H Q:=h
def clF(env:Env):List (Str×NameKind)->List (Str×Addr)->List (Str×Addr)
 |[],acc=>acc
 |(n,k)::r,acc=>if k == .free then clF env r ((n,(env.cells.lookup n).getD 0)::acc) else clF env r acc
def cQP(ix:List (Option Nat)):St->St:=λσ=>ix.map λo=>match o with|none=>none|some j=>(σ[j]?).join
def eZU(N XN:List Str)(sn dn:List (Str×NameKind))(ix:List (Option Nat)):Bool:=
 ix.length==N.length&&(sn.all λy=>y.2 != .cell&&(y.2 != .free || dn.lookup y.1==some .cell))&&decide ((sn.map (·.1)).Nodup) &&
 ((List.range N.length).all λi=>match ix[i]? with|some (some j)=>N[i]? == XN[j]? && (match N[i]? with|some x=>sn.lookup x==some .free|none=>false)|_=>true)
def qN:∀(names:List (Str×NameKind)) (acc:List (Str×Addr)),(∀y∈names,y.2=.free->∃c,env.cells.lookup y.1=some c)->
 (forIn names acc (λ(x:Str×NameKind) (cs:List (Str×Addr))=>(match x with
  | (name,kind)=>if (kind == NameKind.free)=true then do
      let a <-cellOf env name
      pure (ForInStep.yield ((name,a)::cs))
   else pure (ForInStep.yield cs):Sem (ForInStep (List (Str×Addr))))))=(pure (clF env names acc):Sem (List (Str×Addr)))
 |[],acc,_=>rfl
 |(n,k)::r,acc,h=>by
  rw[List.forIn_cons];unfold clF;cases e:k==NameKind.free with
  |false=>
   simp only[e,Bool.false_eq_true,if_false,pure_bind];exact qN r acc λy hy=>h y (Aj _ hy)
  |true=>
   obtain⟨c,hc⟩:=h (n,k) List.mem_cons_self (by simpa using e)
   have hc':env.cells.lookup n=some c:=hc
   simp only[e,if_true,cellOf,hc',Option.getD_some,pure_bind];exact qN r _ λy hy=>h y (Aj _ hy)
def qP:∀(names:List (Str×NameKind)) (acc:List (Str×Addr)) {x:Str} {c:Addr},(clF env names acc).lookup x=some c->
 acc.lookup x=some c\/((x,NameKind.free)∈names/\c=(env.cells.lookup x).getD 0)
 |[],acc,x,c,h=>.inl h
 |(n,k)::r,acc,x,c,h=>by
  unfold clF at h;cases e:k==NameKind.free with
  |false=>
   rw[e]at h;rcases qP r acc (by simpa using h) with z|⟨z,q⟩
   ·exact .inl z
   ·exact .inr ⟨Aj _ z,q⟩
  |true=>
   rw[e]at h;have ek:k=.free:=by simpa using e
   rcases qP r _ (by simpa using h) with z|⟨z,q⟩
   ·rw[Cw]at z;cases ex:x==n with
    |true=>
     rw[ex]at z;have exn:x=n:=by simpa using ex
     subst exn;subst ek;cases z;exact .inr ⟨Ak,rfl⟩
    |false=>rw[ex]at z;exact .inl z
   ·exact .inr ⟨Aj _ z,q⟩
def yQ:∀(names:List (Str×NameKind)) (acc:List (Str×Addr)) {x:Str},(acc.lookup x).isSome=true->((clF env names acc).lookup x).isSome=true
 |[],acc,x,h=>h
 |(n,k)::r,acc,x,h=>by
  unfold clF;split
  ·refine yQ r _ ?_;rw[Cw];cases ex:x==n with
   |true=>rfl
   |false=>exact h
  ·exact yQ r acc h
def nH:∀(names:List (Str×NameKind)) (acc:List (Str×Addr)) {x:Str},(x,NameKind.free)∈names->((clF env names acc).lookup x).isSome=true
 |(n,k)::r,acc,x,h=>by
  unfold clF;rcases Be.mp h with z|z
  ·cases z;simp only[beq_self_eq_true,if_true];refine yQ r _ ?_;rw[Cw,Ee];rfl
  ·split
   ·exact nH r _ z
   ·exact nH r acc z
def jA:∀ {names:List (Str×NameKind)} {k':NameKind},(names.map λ(n,k)=>if (k==NameKind.free&&env.scope.kind == .function&&env.kindOf n==some .cell) then (n,NameKind.cell) else (n,k)).lookup x=some k'->
 ∃k,(x,k)∈names/\(k'=k\/(k=.free/\k'=.cell))
 |[],_,h=>by simp at h
 |(n,k)::r,k',h=>by
  rw[Au]at h;dsimp only at h;cases hc:(k==NameKind.free&&env.scope.kind == .function&&env.kindOf n==some .cell) with
  |true=>
   rw[hc,if_pos rfl,Cw]at h;cases ex:x==n with
   |true=>
    rw[ex]at h;cases h;have:x=n:=by simpa using ex
    subst this;have hk:k=.free:=by
     have:=(Fw _ _).mp hc
     have:=(Fw _ _).mp this.1
     simpa using this.1
    exact⟨k,Ak,.inr ⟨hk,rfl⟩⟩
   |false=>
    rw[ex]at h;obtain⟨k1,h1,h2⟩:=jA h;exact⟨k1,Aj _ h1,h2⟩
  |false=>
   rw[hc,if_neg Ar,Cw]at h;cases ex:x==n with
   |true=>
    rw[ex]at h;cases h;have:x=n:=by simpa using ex
    subst this;exact⟨k,Ak,.inl rfl⟩
   |false=>
    rw[ex]at h;obtain⟨k1,h1,h2⟩:=jA h;exact⟨k1,Aj _ h1,h2⟩
def pV(hk:env.scope.kind=.function)(hx:env.kindOf x=some .cell):∀ {names:List (Str×NameKind)},names.lookup x=some .free->
 (names.map λ(n,k)=>if (k==NameKind.free&&env.scope.kind == .function&&env.kindOf n==some .cell) then (n,NameKind.cell) else (n,k)).lookup x=some .cell
 |[],h=>by simp at h
 |(n,k)::r,h=>by
  rw[Au];dsimp only;rw[Cw]at h;cases ex:x==n with
  |true=>
   rw[ex]at h;cases h;have:x=n:=by simpa using ex
   subst this;rw[hk,hx];simp[List.lookup_cons]
  |false=>
   rw[ex]at h;have ih:=pV hk hx h
   split<;>(rw[Cw,ex];exact ih)
def eR{N:List Str}(XN:List Str)(sc:Scope)(ix:List (Option Nat))(hN:X.N=XN)(hsc:X.env.scope=sc)(hk:sc.kind=.function)(hcs:∀x,sc.names.lookup x=some .cell->∃c,X.env.cells.lookup x=some c)(c:eZU N XN scope.names sc.names ix=true):ClOk X N scope (clF X.env scope.names []) (cQP ix):=by
 unfold eZU at c;simp only[Bool.and_eq_true,decide_eq_true_eq,List.all_eq_true,beq_iff_eq]at c;obtain⟨⟨⟨c0,c1⟩,c2⟩,c3⟩:=c;have fr:∀y,(y,NameKind.free)∈scope.names->sc.names.lookup y=some .cell:=λy hy=>by
  have z:=(c1 _ hy).2
  simpa using z
 have nocell:∀y,(y,NameKind.cell)∉scope.names:=λy hy=>by
  have z:=(c1 _ hy).1
  simp at z
 refine⟨?_,λx c h=>?_,λx h=>?_,λσ=>?_,λσ i x v h1 h2=>?_⟩
 ·unfold closureFor;simp only[bind_pure];exact qN scope.names [] λy hy hf=>hcs y.1 (fr y.1 (by rw[<-hf];exact hy))
 ·rcases qP _ _ h with z|⟨z,q⟩
  ·simp at z
  ·obtain⟨c',e⟩:=hcs x (fr x z);rw[q,e];rfl
 ·have:∃ k,(x,k)∈scope.names/\k=.free:=by
   rcases h with h|h
   ·obtain⟨k,h1,h2⟩:=jA h;rcases h2 with z|⟨z,_⟩
    ·subst z;exact absurd h1 (nocell x)
    ·exact⟨k,h1,z⟩
   ·obtain⟨k,h1,h2⟩:=jA h;rcases h2 with z|⟨z,z2⟩
    ·exact⟨k,h1,z.symm⟩
    ·exact⟨k,h1,z⟩
  obtain⟨k,h1,rfl⟩:=this;exact Dn.mp (nH scope.names [] h1)
 ·unfold cQP;rw[Ab,c0]
 ·unfold cQP at h2;rw[Ae]at h2;cases e:ix[i]? with
  |none=>rw[e]at h2;cases h2
  |some o=>
   rw[e]at h2;cases o with
   |none=>cases h2
   |some j=>
    have hi:i<N.length:=(Ad.mp h1).1
    have z:=c3 i (Bw.mpr hi)
    rw[e,h1]at z;simp only[Bool.and_eq_true,beq_iff_eq]at z;have hv:σ[j]?=some (some v):=by
     have h3:(σ[j]?).join=some v:=by simpa using h2
     cases e2:σ[j]? with
     |none=>rw[e2]at h3;cases h3
     |some o=>rw[e2]at h3;cases o with
      |none=>cases h3
      |some u=>cases h3;rfl
    have hm:(x,NameKind.free)∈scope.names:=Cz z.2
    have hx:=fr x hm
    refine⟨j,by rw[hN];exact z.1.symm,hv,by rw[hsc];exact hx,Dn.mp (nH scope.names [] hm),?_⟩
    exact pV (by rw[hsc];exact hk) (by show X.env.scope.names.lookup x=_;rw[hsc];exact hx) z.2
section
open PySem.AutoSeq1 (wpAny_loadPart')
def cQC{c:Bool}{x y:Sem α}{Q:α->Shared->Prop}(h1:wpAny M A x Q E s)(h2:wpAny M A y Q E s):wpAny M A (if c=true then x else y) Q E s:=by
 cases c
 ·exact h2
 ·exact h1
def bXK(l:Addr)(its:Array Value)(n:Nat)(dc:Option Addr)(sl:Array (Option Value))(k:Int)(t:Tok)(hk:Builtin.SmallTypes.fitsIndex k=true):Meets (Builtin.«enumerate.__new__» ⟨[.type "enumerate",.ref l],[("start",.int k t)]⟩) (λ_ R s=>s.heap.get? l=some ⟨.type "list",dc,.seq its n,sl⟩/\
 R (.ok (.ret (.ref (s.heap.push {cls:=.type "list_iterator",data:=.fields #[.ref l,.int 0 0]}).objs.size)))
  {s with heap:=(s.heap.push {cls:=.type "list_iterator",data:=.fields #[.ref l,.int 0 0]}).push ⟨.type "enumerate",none,.fields #[.none,.bool false,.ref s.heap.objs.size,rawInt k,.none,.none],#[]⟩}):=
 .of_wp λprog w A R s h=>by
  obtain⟨hp,g,d,tk,os⟩:=s;obtain⟨hl,h⟩:=h;have hsub:=sub_enumerate
  have hL:Heap.IsList hp l its:=⟨_,hl,rfl,n,rfl⟩
  have hk':(!Builtin.SmallTypes.fitsIndex k)=false:=by rw[hk];rfl
  wp_walk using wpAny_loadPart' hl
  refine wpAny_stack_any λst=>An ?_;refine cQC ?_ ?_ <;>
  ·wp_walk using (wpAny_loadPart' hl),(Dr (s:=⟨hp,g,d,tk,os⟩) hL)
   exact⟨_,rfl,h⟩
def oG{Bn:Builtin}{args:List Value}{kw:List (Str×Value)}{S:PySem.Spec}{Q Q1:Q0}(ft:TypeCalled T newId "object.__init__")(hct:checkTypeCall T ⟨args,kw⟩=pure ())(hcn:checkBuiltinCall newId ⟨.type T::args,kw⟩=pure ())(eN:entryFor table newId=some Bn)(g:Meets (Bn ⟨.type T::args,kw⟩) S)(h:S A.in1 (wants Q1 E) s)(hnx:∀o s1,Q1 o s1->s1.TypeIs o T/\argsOk "object.__init__" ⟨o::args,kw⟩/\∃Si,Meets (Builtin.«object.__init__» ⟨o::args,kw⟩) Si/\Si A.in1 (wants (λr s2=>r=.none/\Q o s2) E) s1):wpAny (model prog w) A (call (.type T) args kw) Q E s:=by
 obtain⟨c,tl,hmro⟩:=ft.mro;have hmade:=ft.made
 have hsub:=ft.sub
 have h1:=ft.notType
 have h2:=ft.canCreate
 refine Ge (codeAny_of_tree (show wpAny _ _ (callAny (.type T) _) _ _ _ from An ⟨Code.quiet_builtin _ (by decide +kernel),Fd F.entry_type_call ?_⟩))
 rw[Around.under_plain (weight_type_call_type T args kw) (units_type_call_type T args kw)];repeat (any_goals first|assumption|wp_step)
 refine Ei (Fu ft.plain eN (wpAny_of_eq hcn (g prog w A.in1 _ s h))) ?_;rintro(e|fl) s1 hr
 ·exact hr
 ·cases fl with
  |ret o=>
   obtain⟨hT,hok,Si,gi,hsi⟩:=hnx _ _ hr;have hli:=ft.init.lookup
   have hbi:=ft.init.bind o
   repeat (any_goals first|assumption|wp_step)
   refine Ei (Fu ft.init.plain F.entry_object_init (ft.init.check _ _ _ _ _ _ _ _ hT hok (gi prog w A.in1 _ s1 hsi))) ?_;rintro(e|fl2) s2 hr2
   ·exact hr2
   ·cases fl2 with
    |ret r=>
     obtain⟨rfl,hq⟩:=hr2;repeat (any_goals first|assumption|wp_step)
    |_=>exact hr2.elim
  |_=>exact hr.elim
def bQV{self:Value}{rest:List Value}{kw:List (Str×Value)}(hl:typeLookup (.type T) "__init__"=pure (some (.builtin "object.__init__")))(hm:Bind.madeBy (.type T)=pure (some newId))(hne:(some newId != some "object.__new__")=true):Meets (Builtin.«object.__init__» ⟨self::rest,kw⟩) (λ_ R s=>s.TypeIs self T/\R (.ok (.ret .none)) s):=by
 refine Meets.of_wp λprog w A R s hs=>?_;obtain⟨hT,hq⟩:=hs;cases rest with
 |nil=>
  cases kw with
  |nil=>exact An ⟨_,rfl,hq⟩
  |cons a r=>
   repeat (any_goals first|assumption|wp_step)
   exact⟨_,rfl,hq⟩
 |cons a r=>
  repeat (any_goals first|assumption|wp_step)
  exact⟨_,rfl,hq⟩
def nO{l:Addr}{its:Array Value}{k:Int}{t:Tok}{Q:Q0}(hk:Builtin.SmallTypes.fitsIndex k=true)(hL:s.heap.IsList l its)(h:∀h',IsEnum h' (s.heap.objs.size+1) s.heap.objs.size k .none->h'.IsListIter s.heap.objs.size l 0->h'.objs.size=s.heap.objs.size+2->(∀b o,s.heap.get? b=some o->h'.get? b=some o)->Q (.ref (s.heap.objs.size+1)) {s with heap:=h'}):wpAny (model prog w) A (call (.type "enumerate") [.ref l] [("start",.int k t)]) Q E s:=by
 obtain⟨⟨c,dc,dt,sl⟩,hl,hc,n,hd⟩:=hL;obtain rfl:c=.type "list" := hc;obtain rfl:dt=.seq its n:=hd;have hz:(s.heap.push {cls:=.type "list_iterator",data:=.fields #[.ref l,.int 0 0]}).objs.size=s.heap.objs.size+1:=Er ..
 refine oG (Q1:=λo s1=>s1.TypeIs o "enumerate"/\Q o s1) F.called_enumerate (by kernel_rfl) (by kernel_rfl) F.entry_enumerate_new (bXK l its n dc sl k t hk) ⟨hl,?_⟩ λo s1 hq=>⟨hq.1,?_,_,bQV F.called_enumerate.init.lookup F.called_enumerate.made (by decide),hq.1,rfl,hq.2⟩
 ·show _/\_
  rw[hz];have he:IsEnum ((s.heap.push {cls:=.type "list_iterator",data:=.fields #[.ref l,.int 0 0]}).push ⟨.type "enumerate",none,.fields #[.none,.bool false,.ref s.heap.objs.size,rawInt k,.none,.none],#[]⟩) (s.heap.objs.size+1) s.heap.objs.size k .none:=by
   have q:=Av (s.heap.push {cls:=.type "list_iterator",data:=.fields #[.ref l,.int 0 0]}) (o:=⟨.type "enumerate",none,.fields #[.none,.bool false,.ref s.heap.objs.size,rawInt k,.none,.none],#[]⟩) rfl
   rwa [hz]at q
  exact⟨⟨_,he,rfl⟩,h _ he ⟨_,Ah _ (Av _ rfl),rfl,rfl⟩ (by rw[Er,hz]) λb o x=>Ah _ (Ah _ x)⟩
 ·unfold argsOk;rw[signature?_of (n:=['_','_','t','i','n','i','_','_']) (o := "tcejbo".toList) (by kernel_rfl) F.owner_object]
  kernel_rfl
def gG{it:Addr}{P:Nat->Value->Prop}{S:Nat->Heap->Prop}(k:Nat)(D:Draws prog w A it fp n P S):Draws prog w A it fp (k+n) (λj v=>P (j-k) v) (λj h=>k<=j/\S (j-k) h) where
 live:=λi h st=>D.live _ h st.2
 frame:=λi h h' st kk=>⟨st.1,D.frame _ h h' st.2 kk⟩
 item:=λi s Q E hi st hQ=>D.item (i-k) s Q E (by have:=st.1;omega) st.2 λx h' tk hP hS sb=>hQ x h' tk hP ⟨by have:=st.1;omega,by rw[show i+1-k=i-k+1 by have:=st.1;omega];exact hS⟩ sb
 done:=λs Q E st hE=>D.done s Q E (by have q:=st.2;rwa [show k+n-k=n by omega]at q) hE
section
variable {σ:St}
def Inv.turnLaid{ch:List Addr}{o:HO}{t':Nat}(I:Inv X pins σ H s)(hch:∀b∈ch,lE X pins H b)(k:∀b u,b∉ch->s.heap.get? b=some u->h'.get? b=some u)(hp:s.heap.objs.size<=a)(new:ObjOk X.prog X.w (upd H a o) h' a o):Inv X pins σ (upd H a o) {s with heap:=h',toks:=t'}:=by
 have hn:=I.hok.fresh hp
 have nch:∀b u,H b=some u->b∉ch:=λb u e z=>by rw[(hch b z).1]at e;cases e
 refine I.step (g':=s.gens) (d':=s.drawn) (ch:=ch) (λb hb=>?_) (λb o _ _ hc e _=>k b o hc e) (λb o _ _ hc e _=>⟨o.slots,k b o hc e⟩) (λb o _ e n=>?_) (λb o hc e=>⟨o,k b o hc e⟩)
  (λb xs e=>by rw[aG (bE e hn)];exact e) (λb o u e=>by rw[aG (bE e hn)];exact e) (λb ps e=>⟨#[],by rw[aG (bE e hn),e];simp⟩) (λm hm=>?_) (λb u e=>?_) I.bare
 ·obtain⟨_,q1,_,q3,q4,q5⟩:=hch b hb;exact⟨q3,q1,q4,q5⟩
 ·rw[aG (Bc (Bb (As e) hp))];exact n
 ·obtain⟨ob,es,ep,ho,r⟩:=hm;exact⟨ob,es,ep,k _ ob (λz=>(hch _ z).2.1 rfl) ho,r⟩
 ·by_cases hb:b=a
  ·subst hb;rw[aE]at e;cases e;exact new
  ·rw[aG hb]at e;refine(I.hok b u e).stay (λc v hc q=>k c v ?_ q) (λc q=>by rw[aG (bE q hn)];exact q) λc xs q=>by rw[aG (bE q hn)];exact q
   rcases hc with z|z
   ·rw[z];exact nch b u e
   ·exact nch c _ z
def Inv.turnAll{ch:List Addr}{t':Nat}(I:Inv X pins σ H s)(hch:∀b∈ch,lE X pins H b)(k:∀b u,b∉ch->s.heap.get? b=some u->h'.get? b=some u):Inv X pins σ H {s with heap:=h',toks:=t'}:=by
 have nch:∀b u,H b=some u->b∉ch:=λb u e z=>by rw[(hch b z).1]at e;cases e
 refine I.step (g':=s.gens) (d':=s.drawn) (ch:=ch) (λb hb=>?_) (λb o _ _ hc e _=>k b o hc e) (λb o _ _ hc e _=>⟨o.slots,k b o hc e⟩) (λb o _ e n=>n) (λb o hc e=>⟨o,k b o hc e⟩)
  (λb xs e=>e) (λb o u e=>e) (λb ps e=>⟨#[],by rw[e];simp⟩) (λm hm=>?_) (λb u e=>?_) I.bare
 ·obtain⟨_,q1,_,q3,q4,q5⟩:=hch b hb;exact⟨q3,q1,q4,q5⟩
 ·obtain⟨ob,es,ep,ho,r⟩:=hm;exact⟨ob,es,ep,k _ ob (λz=>(hch _ z).2.1 rfl) ho,r⟩
 ·refine(I.hok b u e).stay (λc v hc q=>k c v ?_ q) (λc q=>q) λc xs q=>q;rcases hc with z|z
  ·rw[z];exact nch b u e
  ·exact nch c _ z
end
def Ite(K:W.Frag)(a:Addr)(k:Nat):It:=
 ⟨λi H=>∃xs x,SqL K H a xs/\xs[i]?=some x,λi H v H'=>∃p x,H p=none/\v=.ref p/\H'=upd H p (.tup [.int ((k+i:Nat):Int),x])/\∀xs,SqL K H a xs->xs[i]?=some x,λi H=>∃xs,SqL K H a xs/\xs.length=i⟩
def bXX(a e it:Addr)(k:Nat)(hei:e≠it):Turn P w K (.Tuple elts x1 tp) (Ite K a k) [e,it] e (λi h=>(∃old,IsEnum h e it ((k+i:Nat):Int) old)/\h.IsListIter it a i) where
 mem:=by simp
 obj:=λi h st b hb=>by
  obtain⟨⟨old,he⟩,o,ho,c,d⟩:=st;rcases Be.mp hb with z|z
  ·subst z;exact⟨_,he,λv z=>by cases z⟩
  ·rw[Am.mp z];exact⟨o,ho,λv z=>by rw[d]at z;cases z⟩
 keep:=λi h h' st kk=>⟨let ⟨old,he⟩:=st.1;⟨old,kk e (by simp) _ he⟩,st.2.at λo q=>kk it (by simp) o q⟩
 item:=by
  intro X hP hw hK hc i pins s σ H E I hf st hg;subst hP hw hK;obtain⟨xs,x,hq,hx⟩:=hg;obtain⟨its,rv,p,hz⟩:=I.list hq;obtain⟨u,hu,ru⟩:=rv.get hx;obtain⟨⟨old,he⟩,hit⟩:=st;have hai:a≠it:=by
   rintro rfl;obtain⟨o,ho,c,_⟩:=hit;obtain⟨o2,ho2,c2,_⟩:=p.isList;rw[ho]at ho2;cases ho2;rw[c]at c2;injection c2 with c2;exact absurd c2 (by decide)
  have hae:a≠e:=by
   rintro rfl;obtain⟨o2,ho2,c2,_⟩:=p.isList;rw[he]at ho2;cases ho2;injection c2 with c2;exact absurd c2 (by decide)
  have hl:=rv.length
  have hil:i<its.length:=(Ad.mp hu).1
  have D:=gG k (Draws.list (prog:=X.prog) (w:=X.w) (A:=X.A.in1) (show X.A.in1.handled=none from I.ok.hd hc) it a hai its.toArray)
  refine wpAny_pyNext_enum_itemD D (i:=k+i) he ⟨Fx _ _,by rw[De];exact⟨hit,p.isList⟩⟩ (by rw[Az];omega) hei (λz=>by
   rcases Be.mp z with z|z
   ·exact hei z
   ·exact hae (Am.mp z).symm) λy h1 tk hP ho hS hT hsz kk=>?_
  refine⟨_,rfl,wpAny_letOwnedTupleGo_enum ho λh2 he2 hs2=>?_⟩;have ey:y=u:=by
   have hP':its.toArray[k+i-k]?=some y:=hP
   rw[De]at hP';have:its[i]?=some y:=by simpa using hP'
   rw[hu]at this;cases this;rfl
  subst ey;have hTe:s.heap.objs.size≠e:=Ec (As he)
  have hTi:s.heap.objs.size≠it:=by obtain⟨o,q,_⟩:=hit;exact Ec (As q)
  have hT2:h2.get? s.heap.objs.size=some {cls:=.type "tuple",data:=.seq #[.int ((k+i:Nat):Int) tk,y]}:=(hs2.2 _ hTe).trans hT
  have hS':h1.IsListIter it a (i+1):=by
   have q:=hS.2.1
   rwa [show k+i+1-k=i+1 by omega]at q
  have I2:Inv X pins σ (upd H s.heap.objs.size (.tup [.int ((k+i:Nat):Int),x])) {s with heap:=h2,toks:=tk+1}:=by
   refine I.turnLaid (ch:=[e,it]) hf (λb u hb q=>(hs2.2 b (λz=>hb (by simp[z]))).trans (kk b u (λz=>hb (by simp[z])) (λz=>hb (by simp[z])) q)) (Nat.le_refl _) ⟨bH (by show 2<=_;omega),[.int ((k+i:Nat):Int) tk,y],.cons ⟨tk,rfl⟩ (.cons ru .nil),_,hT2,rfl,_,rfl⟩
  refine⟨.ref s.heap.objs.size,_,I2,rfl,⟨_,x,I.hok.fresh (Ai _),rfl,rfl,λys hy=>by rw[I.list_inj hy hq];exact hx⟩,⟨⟨y,he2⟩,hS'.at λo q=>(hs2.2 it hei.symm).trans q⟩,λb hb=>?_⟩
  rcases Be.mp hb with z|z
  ·rw[z,aG hTe.symm];exact(hf e (by simp)).1
  ·rw[List.mem_singleton.mp z,aG hTi.symm];exact(hf it (by simp)).1
 done:=by
  intro X hP hw hK hc i pins s σ H E I hf st hg;subst hP hw hK;obtain⟨xs,hq,hx⟩:=hg;obtain⟨its,rv,p,hz⟩:=I.list hq;obtain⟨⟨old,he⟩,hit⟩:=st;have hl:=rv.length
  have hai:a≠it:=by
   rintro rfl;obtain⟨o,ho,c,_⟩:=hit;obtain⟨o2,ho2,c2,_⟩:=p.isList;rw[ho]at ho2;cases ho2;rw[c]at c2;injection c2 with c2;exact absurd c2 (by decide)
  have D:=gG k (Draws.list (prog:=X.prog) (w:=X.w) (A:=X.A.in1) (show X.A.in1.handled=none from I.ok.hd hc) it a hai its.toArray)
  refine wpAny_pyNext_enum_endD D he ⟨Fx _ _,by rw[De,Az,<-hl,hx];exact⟨hit,p.isList⟩⟩ λh' eb=>⟨rfl,?_⟩
  exact I.turnAll (t':=s.toks) (ch:=[e,it]) hf λb u hb q=>eb b u (λz=>hb (by simp[z])) q
 self:=λ_ _ _ _ _ st h=>let ⟨⟨_,he⟩,_⟩:=st;Gq he h
section
variable {p kp:Pos}
def aZG(R:Addr->Hp->Prop):List V->Hp->Prop:=λvs H=>match vs with|[.ref j]=>R j H|_=>False
def bQN{R:Addr->Hp->Prop}(q:aZG R vs H):∃j,vs=[.ref j]/\R j H:=by
 unfold aZG at q;split at q
 ·exact⟨_,rfl,q⟩
 ·exact q.elim
def dZ0(K:W.Frag)(ta:TA):TI:=λσ H R=>ta σ H (aZG λa H1=>onL (rdL H1 a) (R (Ite K a 0) H1))
def bJP(K:W.Frag)(ta tk:TA):TI:=λσ H R=>ta σ H (aZG λa H1=>tk σ H1 (sJ λk H2=>(0<=k/\k<2^62)/\onL (rdL H2 a) (R (Ite K a k.toNat) H2)))
def xH{σ:St}{k:Nat}(I1:Inv X pins σ H1 s1)(he:IsEnum h' (s1.heap.objs.size+1) s1.heap.objs.size ((k:Nat):Int) .none)(hi:h'.IsListIter s1.heap.objs.size a 0)(hz:h'.objs.size=s1.heap.objs.size+2)(hk:∀b o,s1.heap.get? b=some o->h'.get? b=some o)(q:R (Ite X.K a k) H1):wpAny (model X.prog X.w) X.A (pyIter (.ref (s1.heap.objs.size+1))) (PIE X pins σ (.Tuple elts x1 tp) R) E {s1 with heap:=h'}:=by
 refine Gq (s:={s1 with heap:=h'}) he ⟨_,[s1.heap.objs.size+1,s1.heap.objs.size],_,_,H1,rfl,I1.kept (t':=s1.toks) hk,bXX a _ _ k (Nat.succ_ne_self _),⟨⟨_,he⟩,hi⟩,λb hb=>?_,q⟩
 have z:s1.heap.objs.size<=b:=by
  rcases Be.mp hb with z|z
  ·rw[z];exact He _
  ·rw[Am.mp z];exact Ai _
 exact I1.fpOk z (I1.hok.fresh z)
def kZ(hg:Gl X "enumerate")(hm:X.mg "enumerate"=none)(ha:PA X [l] ta)(hs:starEach [l] X.env=[(false,eval l X.env)]:=by rfl):PI X (.Tuple elts x1 tp) (.Call (.Name "enumerate" p) [l] [] pos) (dZ0 X.K ta):=by
 intro pins s σ H R I h;refine Call_ (gR I hg hm boot_enumerate (Dc (thn (ha pos pins s σ H _ I h) λus s1 ⟨vs,H1,I1,r1,q1⟩=>?_) hs rfl));obtain⟨a,rfl,q⟩:=bQN q1;obtain⟨u,rfl,ru⟩:=dA r1;cases ru;unfold onL at q;split at q
 ·rename_i xs ex
  obtain⟨its,rv,p,hz⟩:=I1.list (aY ex);exact call_enumerate_list p.isList λh' he hi hz hk=>xH I1 (k:=0) he hi hz hk q
 ·exact q.elim
def nW{args:List (Bool×Sem Value)}{kw:List (Option Str×Sem Value)}{Q:Q0}(h1:args.any (·.1)=false)(h2:kw.any (·.1.isNone)=false)(h:wpAny M A (evalArgs (.type T) true args kw) (λa s1=>wpAny M A (call (.type T) a.pos a.kw) Q E s1) E s):wpAny M A (callWith pos (.type T) [] args kw) Q E s:=by
 unfold callWith;refine Af (Cm (Cp h (λa s1 q1=>Af (Em ?_)) λ_ _ x=>x));rw[h1,h2];exact Af (An (Af (Cp q1 (λr s2 hr=>Af (Cm (wpAny_point (An hr)))) λ_ _ x=>x)))
def aQP{kx:Expr}(hg:Gl X "enumerate")(hm:X.mg "enumerate"=none)(ha:PA X [l] ta)(hk:PK X [⟨some "start",kx,kp⟩] tk)(hs:starEach [l] X.env=[(false,eval l X.env)]:=by rfl)(hks:keywordEach [⟨some "start",kx,kp⟩] X.env=[(some ("start" : Str),eval kx X.env)]:=by rfl):PI X (.Tuple elts x1 tp) (.Call (.Name "enumerate" p) [l] [⟨some "start",kx,kp⟩] pos) (bJP X.K ta tk):=by
 intro pins s σ H R I h;have hs2:backTo pos (starEach [l] X.env)=[(false,eval l X.env)]:=by rw[hs];rfl
 refine Do (gR I hg hm boot_enumerate (nW (by rw[hs2];rfl) (by rw[hks];rfl) ?_))
 rw[hs2];refine evalArgs_kwB (by rw[hks];rfl) ?_
 rw[<-hs2];refine thn (ha pos pins s σ H _ I h) λus s1 ⟨vs,H1,I1,r1,q1⟩=>?_;obtain⟨a,rfl,q⟩:=bQN q1;refine thn (hk pos pins s1 σ H1 _ I1 q) λws s2 ⟨zs,H2,I2,r2,q2⟩=>?_;obtain⟨k,rfl,⟨k0,k1⟩,q⟩:=qJ q2;obtain⟨u,rfl,ru⟩:=dA r1;cases ru;obtain⟨u,rfl,t,rfl⟩:=dA r2;unfold onL at q;split at q
 ·rename_i xs ex
  obtain⟨its,rv,p,hz⟩:=I2.list (aY ex);have e:(backToKw pos (keywordEach [⟨some "start",kx,kp⟩] X.env)).filterMap (·.1)=(["start"]:List Str):=by rw[hks];rfl
  rw[e];refine nO (by unfold Builtin.SmallTypes.fitsIndex;rw[Ap (by omega),Ap (by omega)];rfl) p.isList λh' he hi hz hk=>xH I2 (k:=k.toNat) ?_ hi hz hk q
  rw[show ((k.toNat:Nat):Int)=k by omega]
  exact he
 ·exact q.elim
end
section
variable {k:Nat} {tb:TS} {σ σ0:St}
def qH(Pv:Nat->St->Hp->Prop)(h0:Pv 0 σ H)(hl:∀i σ H,i<=xs.length->Pv i σ H->rdL H a=some xs)(hs:∀i x σ H p,xs[i]?=some x->Pv i σ H->H p=none->g (.ref p) σ (upd H p (.tup [.int ((k+i:Nat):Int),x])) λσ2 H2=>tb {D with nx:=Pv (i+1),ct:=Pv (i+1),bk:=D.nx} σ2 H2)(hd:∀σ H,Pv xs.length σ H->D.nx σ H):yP (Ite K a k) g tb D σ H:=by
 refine⟨λi m σ H=>m=xs.length-i/\i<=xs.length/\Pv i σ H,⟨xs.length,by simp,Nat.zero_le _,h0⟩,?_⟩
 rintro i m σ H ⟨rfl,hi,p⟩;have hr:=hl i σ H hi p
 by_cases hlt:i<xs.length
 ·refine .inr ⟨⟨xs,xs[i],aY hr,by simp[hlt]⟩,Pv (i+1),λσ' H' p'=>⟨xs.length-(i+1),by omega,rfl,hlt,p'⟩,λx H' y=>?_⟩
  obtain⟨q,z,hq,rfl,rfl,hz⟩:=y;exact hs i z σ H q (hz xs (aY hr)) p hq
 ·have e:i=xs.length:=by omega
  subst e;exact .inl ⟨⟨xs,aY hr,rfl⟩,hd σ H p⟩
def wW(f:Nat->V->Option V)(ha:rdL H1 a=some xs)(hl:xs.length<sizeLine)(hs:∀(i:Nat) x Hc p (A:VK) (B:Hp->Prop),xs[i]?=some x->Same H1 Hc->Hc p=none->(∀Hd,Same (upd Hc p (.tup [.int ((k+i:Nat):Int),x])) Hd->match f i x with|some y=>A y Hd|none=>B Hd)->
 g (.ref p) σ0 (upd Hc p (.tup [.int ((k+i:Nat):Int),x])) λσ2 H2=>Wk σ0 σ2/\tests σ2 H2 λb H3=>if b=true then te σ2 H3 A else B H3)(fin:∀D Hd,H1 D=none->Same H1 Hd->rdL Hd D=some ((List.range xs.length).filterMap λi=>f i (xs.getD i .non))->Q (.ref D) Hd):dI g tests te σ0 Q (Ite K a k) H1:=by
 intro D hD;refine⟨λi m Hc=>m=xs.length-i/\i<=xs.length/\Same H1 Hc/\Hc D=some (.lst ((List.range i).filterMap λi=>f i (xs.getD i .non))),⟨xs.length,by simp,Nat.zero_le _,aF hD _,by rw[aE];rfl⟩,?_⟩
 rintro i m Hc ⟨rfl,hi,sm,hDc⟩;have hr:=aK sm ha
 by_cases hlt:i<xs.length
 ·refine .inr ⟨⟨xs,xs[i],aY hr,by simp[hlt]⟩,λv H' y=>?_⟩
  obtain⟨q,z,hq,rfl,rfl,hz⟩:=y;have hx:=hz xs (aY hr)
  have hg:xs.getD i .non=z:=by rw[Ac,hx];rfl
  refine hs i z Hc q _ _ hx sm hq λHd sd=>?_;have hDd:Hd D=some (.lst ((List.range i).filterMap λi=>f i (xs.getD i .non))):=sd _ _ (aF hq _ _ _ hDc)
  have sH:Same H1 Hd:=sm.trans ((aF hq _).trans sd)
  cases e:f i z with
  |some y=>
   refine⟨_,hDd,?_,xs.length-(i+1),by omega,rfl,hlt,λb o hb=>?_,?_⟩
   ·have:=Cs (λi=>f i (xs.getD i .non)) (List.range i)
    rw[Bq]at this;omega
   ·rw[aG (bE hb hD)];exact sH b o hb
   ·rw[aE,Cf,Bf,Bi (b:=y) (by rw[hg,e]),Cd]
  |none=>
   refine⟨xs.length-(i+1),by omega,rfl,hlt,sH,?_⟩
   rw[hDd,Cf,Bf,Bx (by rw[hg,e]),Cd,Cb]
 ·have e:i=xs.length:=by omega
  subst e;exact .inl ⟨⟨xs,aY hr,rfl⟩,fin D Hc hD sm (aO hDc)⟩
def dQJ(h:ta σ H (aZG λa H1=>onL (rdL H1 a) (R (Ite K a 0) H1))):dZ0 K ta σ H R:=h
def cZ0(h:ta σ H (aZG λa H1=>tk σ H1 (sJ λk H2=>(0<=k/\k<2^62)/\onL (rdL H2 a) (R (Ite K a k.toNat) H2)))):bJP K ta tk σ H R:=h
def eX3{R:Addr->Hp->Prop}(h:R a H):aZG R [.ref a] H:=h
end
def eQC(neg:Bool):R2:=λx y H Q=>match x,y with|.bl c,.bl d=>Q (.bl (if neg then !decide (c=d) else decide (c=d))) H|_,_=>False
def aZW:OpR X (compareOp .IsNot) (eQC true):=by
 intro pins s σ H x y v u Q I rx ry q;unfold eQC at q;split at q
 ·cases rx;cases ry;refine isnot_bool (bL I q ?_);rename_i c d
  cases c<;>cases d<;>rfl
 ·exact q.elim
def dJ2{c d:Bool}(h:Q (.bl (!decide (c=d))) H):eQC true (.bl c) (.bl d) H Q:=h
section
variable {t:TG} {u:TGs} {r:List V} {σ:St} {Q:St->Hp->Prop}
def dJJ(e:sZ H a=some xs)(hn:xs.length=n)(h:u xs σ H Q):eQF K n u (.ref a) σ H Q:=⟨a,xs,rfl,.of (qL e),hn,h⟩
def cJ7(h:t v σ H λσ' H'=>u r σ' H' Q):aJ3 t u (v::r) σ H Q:=⟨v,r,rfl,h⟩
def eZG(h:Q σ H):eZD [] σ H Q:=⟨rfl,h⟩
end
def cY{K:W.Frag}{i j k:Nat}{y:Str}{px py:Pos}(hK:X.K=K)(hc:X.calm=true)(hN:X.N.Nodup)(hi:X.N[i]?=some x)(hx:Loc X.env.scope x)(hfx:X.fn x=true\/X.env.scope.names.lookup x=some .local)(hj:X.N[j]?=some y)(hy:Loc X.env.scope y)(hfy:X.fn y=true\/X.env.scope.names.lookup y=some .local):PG X (.Tuple [.Name x px,.Name y py] k pos) (eQF K 2 (aJ3 (jL i) (aJ3 (jL j) eZD))):=by
 subst hK;exact eX9 hc (hU (aW hN hi hx hfx) (hU (aW hN hj hy hfy) aJ0))
end
structure Fly (B:Heap) (l:List Env) (e:Addr) (cls:Value) (d:Option Addr) (fl:Value) (h:Heap):Prop where
 stays:B.StaysIn h
 new:B.get? e=none
 frames:h.FunFrames B l
 on:∃oe vs T oT ts,h.get? e=some oe/\(oe.cls=cls/\oe.dict=d)/\oe.data=.fields vs/\vs[1]?=some (.ref T)/\B.get? T=none/\T≠e/\h.get? T=some oT/\oT.data=.fields ts/\ts[3]?=some fl/\vs[2]?=some .none
def aQQ(o:Obj)(f:Array Value->Array Value):(o.mapFields f).dict=o.dict:=by
 obtain⟨c,d,dt,sl⟩:=o;cases dt<;>rfl
def vP{vs:Array Value}{f:Obj->Obj}(ha:h.get? a=some o)(hd:o.data=.fields vs):∀b u,h.get? b=some u->(∀ws,u.data≠.fields ws)->(h.update a f).get? b=some u:=λb u e n=>by
 rw[Bz _ _ (λz:a=b=>by rw[<-z,ha]at e;cases e;exact n vs hd)]
 exact e
section
variable {B:Heap} {l:List Env} {L e:Addr} {cls:Value} {Q:Unit->Shared->Prop}
def vS{vs:Array Value}{head:Value}{nx:Bool}(hfr:A.frames=some (env::outer))(hl:s.heap.FunFrames B (env::outer))(hf:env.frame=some L)(hB:B.StaysIn s.heap)(hn:B.get? e=none)(he:s.heap.get? e=some oe)(hd:oe.data=.fields vs)(h1:1<vs.size)(c2:vs[2]?=some .none)(hQ:∀h',Fly B (env::outer) e oe.cls oe.dict (rawInt L) h'->s.heap.UpToSlots h'->Q () {s with heap:=h'}):wpAny M A (do let a <-frameOf env;let pl <-entryPlaceOf L nx;let b <-EntryCells.newEntry head a .none (rawInt L) .none pl;setField (.ref e) 1 b) Q E s:=by
 have ne:e∉(env::outer).filterMap (·.frame):=λhm=>by
  obtain⟨_,o,ho,nf⟩:=hl.mem hm;rw[he]at ho;cases ho;exact nf vs hd
 refine Af (wpAny_frameOf_fun hfr hl hf λg1 so=>Af (wpAny_entryPlaceOf λpl hpl=>?_));have e1:g1.get? e=some oe:=(so.2.1 e ne).trans he
 have b1:B.StaysIn g1:=λb o q=>(so.2.1 b λhm=>by rw[(hl.mem hm).1]at q;cases q).trans (hB b o q)
 unfold EntryCells.newEntry newFields;refine Af (Gp ?_ (hpl.sizeOk5 _ _ _ _ _));generalize hts:(([head,.ref L,.none,rawInt L,.none]++(if pl.isEmpty then List.replicate 6 Value.none else pl):List Value)).toArray=ts
 have t3:ts[3]?=some (rawInt L):=by rw[<-hts];simp
 have e2:=Ah (h:=g1) ⟨.type "traceback",none,.fields ts,#[]⟩ e1
 refine wpAny_setField e2 hd h1 (hQ _ ?_ ?_)
 ·have te:g1.objs.size≠e:=Ec (As e1)
  have dm:=Obj.data_mapFields hd (·.setIfInBounds 1 (Value.ref g1.objs.size))
  refine⟨λb o q=>?_,hn,hl.of_keeps λb o q nf=>?_,_,_,g1.objs.size,⟨.type "traceback",none,.fields ts,#[]⟩,ts,Heap.get?_update_self _ e2 (Obj.isFreed_of_fields dm),⟨Obj.cls_mapFields _ _,aQQ _ _⟩,dm,by simp[h1],b1.fresh,te,?_,rfl,t3,(Array.getElem?_setIfInBounds_ne (by decide)).trans c2⟩
  ·rw[Bz _ _ (λz:e=b=>by rw[<-z,hn]at q;cases q)]
   exact Ah _ (b1 b o q)
  ·obtain⟨sl,q1⟩:=so.2.2 b o q;exact⟨_,vP e2 hd b _ (Ah _ q1) nf,rfl⟩
  ·rw[Bz _ _ te.symm];exact Av g1 rfl
 ·intro b o q nf;obtain⟨sl,q1⟩:=so.2.2 b o q;exact⟨sl,vP e2 hd b _ (Ah _ q1) nf⟩
def bZD{vs:Array Value}(hfr:A.frames=some (env::outer))(hl:s.heap.FunFrames B (env::outer))(hf:env.frame=some L)(hB:B.StaysIn s.heap)(hn:B.get? e=none)(he:s.heap.get? e=some oe)(hd:oe.data=.fields vs)(h1:vs[1]?=some .none)(c2:vs[2]?=some .none)(hQ:∀h',Fly B (env::outer) e oe.cls oe.dict (rawInt L) h'->s.heap.UpToSlots h'->Q () {s with heap:=h'}):wpAny M A (noteFrame (.ref e) env) Q E s:=by
 unfold noteFrame;simp only[hf];refine Af (wpAny_field he hd h1 ?_);rw[if_neg (show ¬((Value.none != Value.none)=true) by decide)]
 exact vS hfr hl hf hB hn he hd (Df.mp h1).1 c2 hQ
def aQO(hfr:A.frames=some (env::outer))(hf:env.frame=some L)(F:Fly B (env::outer) e cls d .none s.heap)(hQ:∀h',Fly B (env::outer) e cls d (rawInt L) h'->s.heap.UpToSlots h'->Q () {s with heap:=h'}):wpAny M A (noteFrame (.ref e) env) Q E s:=by
 obtain⟨hB,hn,hl,oe,vs,T,oT,ts,he,⟨rfl,rfl⟩,hd,h1,hT,hTe,gT,dT,t3,c2⟩:=F;unfold noteFrame;simp only[hf];refine Af (wpAny_field he hd h1 ?_);rw[if_pos (show (Value.ref T != Value.none)=true by simp)]
 refine Af (wpAny_field gT dT t3 ?_);rw[if_neg (show ¬((Value.none==rawInt L)=true) by simp[rawInt])]
 refine Af (wpAny_setField gT dT (Df.mp t3).1 ?_);have keep:∀b,b≠T->(s.heap.update T (Obj.mapFields (·.setIfInBounds 3 Value.none))).get? b=s.heap.get? b:=λb hb=>Bz _ _ (Ne.symm hb)
 refine vS (s:={s with heap:=s.heap.update T (Obj.mapFields (·.setIfInBounds 3 Value.none))}) hfr (hl.of_keeps λb o q nf=>⟨o,vP gT dT b o q nf,rfl⟩) hf
  (λb o q=>(keep b λz=>by rw[z,hT]at q;cases q).trans (hB b o q)) hn ((keep e hTe.symm).trans he) hd (Df.mp h1).1 c2 λh' F' up=>hQ h' F' λb o q nf=>up b o (vP gT dT b o q nf) nf
def iL{fl:Value}(F:Fly B l e cls d fl s.heap)(hQ:∀h',Fly B l e cls d .none h'->s.heap.UpToSlots h'->Q () {s with heap:=h'}):wpAny M A (setFlight (.ref e) none) Q E s:=by
 obtain⟨hB,hn,hl,oe,vs,T,oT,ts,he,hc,hd,h1,hT,hTe,gT,dT,t3,c2⟩:=F;have z3:3<ts.size:=(Df.mp t3).1
 unfold setFlight;refine Af (wpAny_field he hd h1 ?_);rw[if_pos (show (Value.ref T != Value.none)=true by simp)]
 refine wpAny_setField gT dT z3 (hQ _ ?_ λb o q nf=>⟨o.slots,vP gT dT b o q nf⟩);have dm:=Obj.data_mapFields dT (·.setIfInBounds 3 Value.none)
 refine⟨λb o q=>?_,hn,hl.of_keeps λb o q nf=>⟨o,vP gT dT b o q nf,rfl⟩,oe,vs,T,_,_,?_,hc,hd,h1,hT,hTe,Heap.get?_update_self _ gT (Obj.isFreed_of_fields dm),dm,by simp[z3],c2⟩
 ·rw[Bz _ _ (λz:T=b=>by rw[<-z,hT]at q;cases q)]
  exact hB b o q
 ·rw[Bz _ _ hTe];exact he
def Fly.less{fl:Value}(F:Fly B (env::outer) e cls d fl h):Fly B outer e cls d fl h:=⟨F.stays,F.new,F.frames.2.2,F.on⟩
def aX6{vs:Array Value}(hfr:A.frames=some (env::outer))(hl:s.heap.FunFrames B (env::outer))(hf:env.frame=some L)(hB:B.StaysIn s.heap)(hn:B.get? e=none)(he:s.heap.get? e=some oe)(hd:oe.data=.fields vs)(h1:vs[1]?=some .none)(c2:vs[2]?=some .none)(hQ:∀h',Fly B outer e oe.cls oe.dict .none h'->s.heap.UpToSlots h'->Q () {s with heap:=h'}):wpAny M A (leaving env (.ref e)) Q E s:=by
 unfold leaving;exact Af (bZD hfr hl hf hB hn he hd h1 c2 λh1 F1 u1=>iL (s:={s with heap:=h1}) F1 λh2 F2 u2=>hQ h2 F2.less (u1.trans u2))
def bJB(hfr:A.frames=some (env::outer))(hf:env.frame=some L)(F:Fly B (env::outer) e cls d .none s.heap)(hQ:∀h',Fly B outer e cls d .none h'->s.heap.UpToSlots h'->Q () {s with heap:=h'}):wpAny M A (leaving env (.ref e)) Q E s:=by
 unfold leaving;exact Af (aQO hfr hf F λh1 F1 u1=>iL (s:={s with heap:=h1}) F1 λh2 F2 u2=>hQ h2 F2.less (u1.trans u2))
end
structure UnB (fs:List Addr) (H H':Hp) (h B h':Heap):Prop where
 keep:∀b o,h.get? b=some o->H b=none->b∉fs->B.get? b=some o
 slot:∀b o,h.get? b=some o->H b=none->b∈fs->∃sl,h'.get? b=some {o with slots:=sl}
 free:∀b o,h.get? b=some o->H b=none->H' b=none
 there:∀b o,h.get? b=some o->b∉fs->∃o',B.get? b=some o'
 tups:∀b xs,H b=some (.tup xs)->H' b=some (.tup xs)
 frzs:∀b o u,H b=some (.frz o u)->H' b=some (.frz o u)
 tbls:∀b ps,H b=some (.tbl ps)->∃more,H' b=some (.tbl (ps++more))
def CXr(P:Program)(w:World):CXT:=λouter H s E e s'=>
 ∃(ea:Addr) (cls:Value) (d:Option Addr) (B:Heap) (H':Hp),e=.ref ea/\s'.os=s.os/\AllBare s'.gens/\Fly B outer ea cls d .none s'.heap/\HOk P w H' B/\UnB (frs outer) H H' s.heap B s'.heap/\E cls d H'
def HOk.down{B:Heap}(x:HOk P w H h)(k:∀b o u,H b=some u->h.get? b=some o->B.get? b=some o):HOk P w H B:=λa u e=>
 (x a u e).stay (λb o hb q=>by
  rcases hb with z|z
  ·subst z;exact k b o u e q
  ·exact k b o _ z q) (λ_ q=>q) λ_ _ q=>q
def ObjOk.get{o:HO}(x:ObjOk P w H h a o):∃ob,h.get? a=some ob:=by
 cases o with
 |lst xs=>obtain⟨_,_,_,_,e⟩:=x;exact⟨_,e⟩
 |tup xs=>obtain⟨_,_,_,ob,e,_⟩:=x;exact⟨_,e⟩
 |dK kvs=>obtain⟨_,_,_,_,ob,_,_,e,_⟩:=x;exact⟨_,e⟩
 |dT kvs=>obtain⟨_,_,_,_,ob,_,_,e,_⟩:=x;exact⟨_,e⟩
 |set S n=>obtain⟨ob,_,_,_,e,_⟩:=x;exact⟨_,e⟩
 |ins C dx fs=>obtain⟨_,_,_,e,_⟩:=x;exact⟨_,e⟩
 |own y=>exact x
 |xd fs=>obtain⟨_,⟨od,_,_,e,_⟩,_⟩:=x;exact⟨_,e⟩
 |rng lo hi=>obtain⟨_,_,_,e⟩:=x;exact⟨_,e⟩
 |frz ob u=>exact⟨_,x.1⟩
 |tbl ps=>exact⟨_,x⟩
 |met f y=>exact⟨_,x⟩
 |ext φ=>exact x.2.1
def HOk.hole(x:HOk P w H h)(e:h.get? a=none):H a=none:=by
 cases q:H a with
 |none=>rfl
 |some o=>
  obtain⟨ob,z⟩:=(x a o q).get;rw[e]at z;cases z
def gX{L:Addr}(hf:env.frame=some L)(h1:b≠L)(h2:b∉frs outer):b∉frs (env::outer):=λhm=>by
 obtain⟨e,he,q⟩:=Ca.mp hm;rcases Be.mp he with z|z
 ·subst z;rw[hf]at q;exact h1 (Bg q).symm
 ·exact h2 (Ca.mpr ⟨e,z,q⟩)
section
variable {cd:Value} {s₀:Shared} {H₀:Hp} {E:XK} {σ:St}
def xR{vs:Array Value}(I:Inv (gD (CXr P w) P w K mg base N qual scope f cd A outer s₀ H₀ E) pins σ H s)(he:s.heap.get? ea=some oe)(hd:oe.data=.fields vs)(h1:vs[1]?=some .none)(c2:vs[2]?=some .none)(hn:H ea=none)(h0:s₀.heap.get? ea=none)(q:E oe.cls oe.dict H):(gD (CXr P w) P w K mg base N qual scope f cd A outer s₀ H₀ E).xe (.ref ea) s:=by
 have hfr:=I.ok.frames
 have hst:=I.stack
 have hsf:=I.stkFree
 have hbase:=I.base
 have hlo:∀b o,s₀.heap.get? b=some o->b≠s₀.heap.objs.size:=λb o e=>Bc (As e)
 have nea:∀b o,s₀.heap.get? b=some o->b≠ea:=λb o e z=>by rw[z,h0]at e;cases e
 have hid:∀b o,s.heap.get? b=some o->b≠ea->b∉frs (envOfC qual scope s₀.heap.objs.size f cd::outer)->(W.hideAll s.heap (ea::frs (envOfC qual scope s₀.heap.objs.size f cd::outer))).get? b=some o:=λb o e n1 n2=>
  W.hideAll_get _ e λhm=>(Be.mp hm).elim n1 n2
 refine aX6 (B:=W.hideAll s.heap (ea::frs (envOfC qual scope s₀.heap.objs.size f cd::outer))) hfr (W.funFrames_hide hst λenv he b hb=>Aj _ (Ca.mpr ⟨env,he,hb⟩)) rfl (λb o q=>W.of_hideAll _ q)
  (W.hideAll_none _ Ak) he hd h1 c2 λh2 fl up=>?_
 refine⟨ea,_,_,_,H,rfl,I.os,I.bare,fl,I.hok.down λb o u e g=>hid b o g (λz=>by rw[z,hn]at e;cases e) λhm=>?_,⟨λb o e n hb=>?_,λb o e n hb=>?_,λb o e n=>hbase.free b o e n (by simp[gD]),λb o e hb=>?_,hbase.tups,hbase.frzs,hbase.tbls⟩,q⟩
 ·rw[hsf b hm]at e;cases e
 ·exact hid b o (hbase.keep b o e n hb (by simp[gD])) (nea b o e) (gX rfl (hlo b o e) hb)
 ·obtain⟨sl,q1⟩:=hbase.slot b o e n hb (by simp[gD])
  obtain⟨_,o2,g2,nf⟩:=I.ok.funs.mem hb;have e2:s₀.heap.get? b=some o2:=g2
  rw[e]at e2;cases e2;obtain⟨sl2,q2⟩:=up b _ q1 nf;exact⟨sl2,q2⟩
 ·obtain⟨o',q1⟩:=hbase.there b o e (by simp[gD])
  exact⟨o',hid b o' q1 (nea b o e) (gX rfl (hlo b o e) hb)⟩
def kS:iQ (CXr P w) (gD (CXr P w) P w K mg base N qual scope f cd A outer s₀ H₀ E) E:=by
 intro pins σ H s e s' I h;obtain⟨ea,cls,d,B,H',rfl,os,bare,fl,hok,un,q⟩:=h;have hbase:=I.base
 have hlo:∀b o,s₀.heap.get? b=some o->b≠s₀.heap.objs.size:=λb o e=>Bc (As e)
 refine bJB I.ok.frames rfl fl λh2 fl2 up=>?_;have ns:∀b o,s₀.heap.get? b=some o->b∉frs outer->b∉frs (envOfC qual scope s₀.heap.objs.size f cd::outer):=λb o e hb=>gX rfl (hlo b o e) hb
 have ins:∀b,b∈frs outer->b∈frs (envOfC qual scope s₀.heap.objs.size f cd::outer):=λb hb=>by
  obtain⟨e,he,q⟩:=Ca.mp hb;exact Ca.mpr ⟨e,Aj _ he,q⟩
 refine⟨ea,cls,d,B,H',rfl,os.trans I.os,bare,fl2,hok,⟨λb o e n hb=>?_,λb o e n hb=>?_,λb o e n=>?_,λb o e hb=>?_,λb xs e=>un.tups b xs (hbase.tups b xs e),λb o u e=>un.frzs b o u (hbase.frzs b o u e),λb ps e=>?_⟩,q⟩
 ·exact un.keep b o (hbase.keep b o e n hb (by simp[gD])) (hbase.free b o e n (by simp[gD])) (ns b o e hb)
 ·obtain⟨sl,q1⟩:=hbase.slot b o e n hb (by simp[gD])
  obtain⟨sl1,q2⟩:=un.slot b _ q1 (hbase.free b o e n (by simp[gD])) (ins b hb)
  obtain⟨_,o2,g2,nf⟩:=I.ok.funs.mem hb;have e2:s₀.heap.get? b=some o2:=g2
  rw[e]at e2;cases e2;obtain⟨sl2,q3⟩:=up b _ q2 nf;exact⟨sl2,q3⟩
 ·obtain⟨o',q1⟩:=hbase.there b o e (by simp[gD])
  exact un.free b o' q1 (hbase.free b o e n (by simp[gD]))
 ·obtain⟨o',q1⟩:=hbase.there b o e (by simp[gD])
  exact un.there b o' q1 (ns b o e hb)
 ·obtain⟨m1,e1⟩:=hbase.tbls b ps e;obtain⟨m2,e2⟩:=un.tbls b _ e1;exact⟨m1++m2,by rw[e2,Array.append_assoc]⟩
end
def cJR(X:K.In h)(q:W.excIn K C bmB newId=true):∃bm N nm qn bs hd sn sub ab col dd k0 k1 k2 k3 k5 mN,h.get? C=some (excClassObj nm qn C N bs bm hd sn sub ab col dd k0 k1 k2 k3 k5 newId)/\h.Ns N mN/\mN "__init__"=none/\OwnTail h bmB bm:=by
 unfold W.excIn at q;split at q
 ·rename_i dd c sl ho
  split at q
  ·rename_i C1 bm k0 k1 k2 k3 n k5 hm hs
   obtain⟨⟨⟨⟨⟨q1,q2⟩,q3⟩,q4⟩,q5⟩,q6⟩:((((C1=C/\n=newId)/\c.hasDel=false)/\W.tailIn K bmB bm=true)/\W.nsOkIn K c.ns=true)/\W.nsIn K c.ns "__init__"=some none:=by
    simpa only[Bool.and_eq_true,beq_iff_eq,Bool.not_eq_true']using q
   subst q1 q2;obtain⟨nm,bs,mro,ns,qn,hd,sn,sub,ab,col,del⟩:=c;dsimp only at hm q3 q5 q6;subst hm q3;obtain rfl:sl=#[k0,k1,k2,k3,some (.builtin n),k5]:=by
    obtain⟨l⟩:=sl;have hs':l=_:=hs
    rw[hs']
   exact⟨bm,ns,nm,qn,bs,hd,sn,sub,ab,col,dd,k0,k1,k2,k3,k5,_,X _ _ ho,.of_isNs (W.isNs_of_in X q5),W.nsMap_none_of_in X q5 q6,W.tail_of_in X q4⟩
  ·cases q
 ·cases q
def eQJ(X:Cx)(E:XK):Prop:=∀(pins:List (Addr×Obj)) (σ:St) (H:Hp) (s:Shared) (ea:Addr) (oe:Obj) (vs:Array Value),Inv X pins σ H s->s.heap.get? ea=some oe->oe.data=.fields vs->vs[1]?=some .none->vs[2]?=some .none->H ea=none->X.s₀.heap.get? ea=none->
 E oe.cls oe.dict H->X.xe (.ref ea) s
def nM{cd:Value}{s₀:Shared}{H₀:Hp}{E:XK}:eQJ (gD (CXr P w) P w K mg base N qual scope f cd A outer s₀ H₀ E) E:=λ_ _ _ _ _ _ _ I he hd h1 c2 hn h0 q=>xR I he hd h1 c2 hn h0 q
section
variable {E:XK} {B initId:String}
def cX4(C:Addr)(E:XK)(ta:TA):TS:=λ_ σ H=>ta σ H λvs H1=>vs.length<=sizeLine/\E (.ref C) none H1
def qQ(hR:eQJ X E)(hex:X.ex=[])(hc:X.calm=true)(hg:Gl X x)(hm:X.mg x=some (.ref C))(hx:W.excIn X.K C bmB newId=true)(FB:ExcBaseFacts B newId initId bmB)(ha:PA X (e::es) ta)(hd:(x==("__debug__" : Str))=false:=by decide)(he:starEach (e::es) X.env=(false,eval e X.env)::starEach es X.env:=by rfl)(hpl:(backTo cpos (starEach es X.env)).any (·.1)=false:=by rfl):PS X (.Raise (some (.Call (.Name x np) (e::es) [] cpos)) none pos) (cX4 C E ta):=by
 intro pins s σ H D I h;obtain⟨bm,N,nm,q,bs,hdct,sn,sub,ab,col,dd,k0,k1,k2,k3,k5,mN,hC,hN,hni,T⟩:=cJR I.ok.mod.kin hx;refine wpAny_Raise_call_subT (C:=C) (N:=N) (bm:=bm) (nm:=nm) (q:=q) (bs:=bs) (hdct:=hdct) (sn:=sn) (sub:=sub) (ab:=ab) (col:=col) (dd:=dd) (k0:=k0) (k1:=k1) (k2:=k2) (k3:=k3) (k5:=k5)
  FB (mN:=mN) (T.hasType FB.hasBase) (I.ok.hd hc) (by rw[he];show (false || (backTo cpos (starEach es X.env)).any (·.1))=false;rw[hpl];rfl) hni (iO I hg hm ⟨rfl,?_⟩ hd)
 have h1:=ha cpos pins s σ H _ I h
 rw[he]at h1 ⊢;refine Ft (thn h1 λus s2 ⟨vs,H2,I2,r,q2⟩=>⟨rfl,?_,I2.bk _ _ hC,hN.keeps I2.bk,T.keeps I2.bk,λh' ea hx=>?_⟩)
 ·show us.length<=sizeLine
  rw[<-r.length];exact q2.1
 ·obtain⟨t,g,_,_⟩:=hx.there;refine hR pins σ H2 {s2 with heap:=h'} ea _ _ (I2.kept (t':=s2.toks) hx.keeps) g rfl rfl rfl (I2.hok.hole hx.new) ?_ q2.2
  cases z:X.s₀.heap.get? ea with
  |none=>rfl
  |some o=>
   obtain⟨o',z'⟩:=I2.base.there ea o z (by rw[hex];simp)
   rw[hx.new]at z';cases z'
end
abbrev Cx.tr(X:Cx)(pins:List (Addr×Obj))(xe:Value->Shared->Prop):Cx:={X with pn:=X.pn++pins,xe:=xe}
abbrev Cx.hnd(X:Cx)(pins:List (Addr×Obj))(ea:Addr):Cx:={X with A:=X.A.mark (some (.ref ea)),calm:=false,pn:=X.pn++pins,xe:=λ_ _=>False}
section
variable {pins':Q2} {σ:St} {xe:Q0}
def Inv.tr(I:Inv X pins σ H s)(xe:Q0):Inv (X.tr pins xe) [] σ H s:=
 ⟨⟨I.ok.mod,I.ok.kind,I.ok.glob,I.ok.blt,I.ok.above,I.ok.inj,I.ok.has,I.ok.cab,I.ok.hd,I.ok.frames,I.ok.stk,I.ok.exf,I.ok.bs,I.ok.bsz,I.ok.noex,I.ok.exfs,I.ok.funs,I.ok.frf⟩,I.os,I.bare,I.base,I.loc,I.cell,I.free,I.freeC,
  λp hp=>I.pin p (by rwa [Cb]at hp),I.hok,I.len⟩
def Inv.untr(I:Inv (X.tr pins xe) pins' σ H s):Inv X pins σ H s:=
 ⟨⟨I.ok.mod,I.ok.kind,I.ok.glob,I.ok.blt,I.ok.above,I.ok.inj,I.ok.has,I.ok.cab,I.ok.hd,I.ok.frames,I.ok.stk,I.ok.exf,I.ok.bs,I.ok.bsz,I.ok.noex,I.ok.exfs,I.ok.funs,I.ok.frf⟩,I.os,I.bare,I.base,I.loc,I.cell,I.free,I.freeC,
  λp hp=>I.pin p (Dp _ hp),I.hok,I.len⟩
def Inv.hnd(I:Inv X pins σ H s)(ea:Addr):Inv (X.hnd pins ea) [] σ H s:=
 ⟨⟨I.ok.mod,I.ok.kind,I.ok.glob,I.ok.blt,I.ok.above,I.ok.inj,I.ok.has,I.ok.cab,(λz=>nomatch z),I.ok.frames,I.ok.stk,I.ok.exf,I.ok.bs,I.ok.bsz,I.ok.noex,I.ok.exfs,I.ok.funs,I.ok.frf⟩,I.os,I.bare,I.base,I.loc,I.cell,I.free,I.freeC,
  λp hp=>I.pin p (by rwa [Cb]at hp),I.hok,I.len⟩
def Inv.unhnd(I:Inv (X.hnd pins ea) pins' σ H s)(ok:X.Ok):Inv X pins σ H s:=
 ⟨ok,I.os,I.bare,I.base,I.loc,I.cell,I.free,I.freeC,λp hp=>I.pin p (Dp _ hp),I.hok,I.len⟩
structure Fre (X:Cx) (pins:List (Addr×Obj)) (a:Addr):Prop where
 s0:X.s₀.heap.get? a=none
 loc:a≠X.env.locals
 cell:∀x c,X.env.cells.lookup x=some c->c≠a
 pin:∀p∈X.pn++pins,p.1≠a
def Inv.adopt{a:Addr}{o:HO}(I:Inv X pins σ H s)(f:Fre X pins a)(hn:H a=none)(new:ObjOk X.prog X.w (upd H a o) s.heap a o):Inv X pins σ (upd H a o) s:=by
 have ne:∀b u,H b=some u->b≠a:=λb u e=>bE e hn
 refine⟨I.ok,I.os,I.bare,⟨I.base.keep,I.base.slot,λb u e n hx=>?_,I.base.there,λb xs e=>?_,λb u v e=>?_,λb ps e=>?_⟩,I.loc,I.cell,by rw[aG f.loc.symm];exact I.free,λx c e=>by rw[aG (f.cell x c e)];exact I.freeC x c e,λp hp=>?_,λb u e=>?_,I.len⟩
 ·rw[aG (λz=>by rw[z,f.s0]at e;cases e)]
  exact I.base.free b u e n hx
 ·have q:=I.base.tups b xs e
  rw[aG (ne b _ q)];exact q
 ·have q:=I.base.frzs b u v e
  rw[aG (ne b _ q)];exact q
 ·obtain⟨m,q⟩:=I.base.tbls b ps e;exact⟨m,by rw[aG (ne b _ q)];exact q⟩
 ·obtain⟨h1,h2,h3⟩:=I.pin p hp;exact⟨h1,by rw[aG (f.pin p hp)];exact h2,h3⟩
 ·by_cases hb:b=a
  ·subst hb;rw[aE]at e;cases e;exact new
  ·rw[aG hb]at e;exact(I.hok b u e).stay (λc v _ q=>q) (λc q=>by rw[aG (ne c _ q)];exact q) λc xs q=>by rw[aG (ne c _ q)];exact q
end
def fQ0(ea:Addr)(cls:Value)(d:Option Addr):HO:=.ext λh=>∃oe vs,h.get? ea=some oe/\oe.cls=cls/\oe.dict=d/\oe.data=.fields vs
def XS(X:Cx)(pins:List (Addr×Obj))(R:Value->Option Addr->St->Hp->Prop):Value->Shared->Prop:=λe s1=>
 ∃ea cls d B σ1 H1,e=.ref ea/\Fly B X.stack ea cls d .none s1.heap/\Fre X pins ea/\H1 ea=none/\(∀h2,B.StaysIn h2->s1.heap.UpToSlots h2->Inv X pins σ1 H1 {s1 with heap:=h2})/\R cls d σ1 H1
def aJ8(CX:CXT)(X:Cx)(Es:St->XK):Prop:=∀(pins:List (Addr×Obj)) (σ:St) (H:Hp) (s:Shared) (e:Value) (s':Shared),Inv X pins σ H s->CX X.stack H s (Es σ) e s'->X.xe e s'
def aZ6{R:Value->Option Addr->St->Hp->Prop}(hex:X.ex=[]):aJ8 (CXr X.prog X.w) (X.tr pins (XS X pins R)) (λσ cls d H1=>R cls d σ H1):=by
 intro pins' σ H s e s1 I' h;obtain⟨ea,cls,d,B,H1,rfl,os,bare,F,hok,un,q⟩:=h;have I:Inv X pins σ H s:=I'.untr
 have F:Fly B X.stack ea cls d .none s1.heap:=F
 have un:UnB (frs X.stack) H H1 s.heap B s1.heap:=un
 have nfs:ea∉frs X.stack:=λhm=>by
  obtain⟨_,o,g,nf⟩:=F.frames.mem hm;obtain⟨oe,vs,T,oT,ts,he,hc,hd,_⟩:=F.on;rw[g]at he;cases he;exact nf vs hd
 have ne:∀b o,s.heap.get? b=some o->b≠ea:=λb o g z=>by
  subst z;obtain⟨o',g'⟩:=un.there b o g nfs;rw[F.new]at g';cases g'
 refine⟨ea,cls,d,B,σ,H1,rfl,F,⟨?_,?_,λx c z=>?_,λp hp=>?_⟩,hok.hole F.new,λh2 st up=>?_,q⟩
 ·cases z:X.s₀.heap.get? ea with
  |none=>rfl
  |some o=>
   obtain⟨o',z'⟩:=I.base.there ea o z (by rw[hex];simp)
   exact absurd rfl (ne ea o' z')
 ·obtain⟨m,⟨o,_,_,g,_⟩,_⟩:=I.loc;exact(ne _ o g).symm
 ·obtain⟨v,o,g,_⟩:=I.cell x c z;exact ne c o g
 ·exact ne p.1 p.2 (I.pin p hp).1
 ·have slot:∀ b o,s.heap.get? b=some o->b∈frs X.stack->∃ sl,h2.get? b=some { o with slots:=sl }:=λb o g hb=>by
   obtain⟨sl,g1⟩:=un.slot b o g (I.stkFree b hb) hb;obtain⟨_,o2,g2,nf⟩:=I.stack.mem hb;rw[g]at g2;cases g2;obtain⟨sl2,g3⟩:=up b _ g1 nf;exact⟨sl2,g3⟩
  refine I.call' (s':={s1 with heap:=h2}) (ch:=[]) os ⟨λb o g n hb _=>st b o (un.keep b o g n hb),λb o g n hb _=>slot b o g hb,λb o g n _=>un.free b o g n,λb o g _=>?_,un.tups,un.frzs,un.tbls⟩ (hok.kept λb o g=>st b o g) bare λb hb=>absurd hb (by simp)
  by_cases hb:b∈frs X.stack
  ·obtain⟨sl,g1⟩:=slot b o g hb;exact⟨_,g1⟩
  ·obtain⟨o',g1⟩:=un.there b o g hb;exact⟨o',st b o' g1⟩
def SP.untr{xe:Q0}{f:Flow}{s':Shared}(h:SP (X.tr pins xe) [] D f s'):SP X pins D f s':=by
 cases f with
 |next=>obtain⟨σ',H',I,q⟩:=h;exact⟨σ',H',I.untr,q⟩
 |brk=>obtain⟨σ',H',I,q⟩:=h;exact⟨σ',H',I.untr,q⟩
 |cont=>obtain⟨σ',H',I,q⟩:=h;exact⟨σ',H',I.untr,q⟩
 |ret u=>obtain⟨v,σ',H',I,r,q⟩:=h;exact⟨v,σ',H',I.untr,r,q⟩
def SP.unhnd{f:Flow}{s':Shared}(ok:X.Ok)(h:SP (X.hnd pins ea) [] D f s'):SP X pins D f s':=by
 cases f with
 |next=>obtain⟨σ',H',I,q⟩:=h;exact⟨σ',H',I.unhnd ok,q⟩
 |brk=>obtain⟨σ',H',I,q⟩:=h;exact⟨σ',H',I.unhnd ok,q⟩
 |cont=>obtain⟨σ',H',I,q⟩:=h;exact⟨σ',H',I.unhnd ok,q⟩
 |ret u=>obtain⟨v,σ',H',I,r,q⟩:=h;exact⟨v,σ',H',I.unhnd ok,r,q⟩
def dJA(K:W.Frag)(C:Addr)(mk:(Value->Option Addr->St->Hp->Prop)->TS)(ts:TS):TS:=λD σ H=>mk (λcls d σ1 H1=>W.exmOne K cls (.ref C)=some true/\ts D σ1 H1) D σ H
def dQU{body suite:List Stmt}{b0:Stmt}{hp:Pos}{mk:(Value->Option Addr->St->Hp->Prop)->TS}{ts:TS}(hstk:X.stack=X.env::X.outer)(hfm:X.env.frame=some X.env.locals)(hex:X.ex=[])(hg:Gl X x)(hm:X.mg x=some (.ref C))(hb:∀pins R,PSs (X.tr pins (XS X pins R)) body (mk R))(hs:∀pins ea,PSs (X.hnd pins ea) (b0::suite) ts)(hd:(x==("__debug__" : Str))=false:=by decide):PS X (.Try body [.ExceptHandler (some (.Name x np)) none (b0::suite) hp] [] [] pos) (dJA X.K C mk ts):=by
 intro pins s σ H D I h;have hfr:X.A.frames=some (X.env::X.outer):=by rw[<-hstk];exact I.ok.frames
 refine wpAny_Try_except (Cp (hb pins _ [] s σ H D (I.tr _) h) (λf s1 q=>?_) λe s1 q=>?_)
 ·cases f with
  |next=>
   obtain⟨σ',H',I',q⟩:=q.untr;exact bF pins s1 σ' H' D I' q
  |brk=>exact q.untr
  |cont=>exact q.untr
  |ret u=>exact q.untr
 ·obtain⟨ea,cls,d,B,σ1,H1,rfl,F,fre,hn,inv,hx,r⟩:=q;rw[hstk]at F;refine aQO hfr hfm F λh2 F2 u2=>iL (s:={s1 with heap:=h2}) F2 λh3 F3 u3=>?_
  have I3:=inv h3 F3.stays (u2.trans u3)
  refine wpAny_handleBy_cons (codeAny_handlers_test (iO (I3.hnd ea) hg hm ?_ hd)) (by intro q;cases q)
  obtain⟨oe,vs,T,oT,tts,he,hc,_⟩:=id F3.on;refine W.exm_one I3.kIn (hc.1▸(W.Looks.ld he).andThen .now) hx _ _ _ _ (λ_ _ q=>q) ?_;refine codeAny_handlers_suite (iL (s:={s1 with heap:=h3}) F3 λh4 F4 u4=>?_)
  have I4:=inv h4 F4.stays ((u2.trans u3).trans u4)
  exact Cp (hs pins ea [] _ _ _ _ (I4.hnd ea) r) (λf s6 q=>q.unhnd I.ok) λ_ _ z=>z.elim
def eX2{mk:(Value->Option Addr->St->Hp->Prop)->TS}{ts:TS}{σ:St}(h:mk (λcls d σ1 H1=>W.exmOne K cls (.ref C)=some true/\ts D σ1 H1) D σ H):dJA K C mk ts D σ H:=h
section
open PySem.W
structure ExK (K:Frag) (D:Addr):Prop where
 cls:hasDictIn K D=true
 ga:findIn K (.ref D) "__getattribute__"=some (some (.builtin "BaseException.__getattribute__"))
 gh:findIn K (.ref D) "__getattr__"=some none
 ca:findIn K (.ref D) "__class__"=some (some (.builtin "object.__class__"))
 cg:specialIn K (.builtin "object.__class__") "__get__"=some (some (.builtin "getset_descriptor.__get__"))
 ct:takesIn K (.builtin "object.__class__")=some true
 mo:mroIn K D (.type "object")=some true
 mb:W.subIn K (.ref D) (.type "BaseException")=some true
section
variable {D:Addr}
def dX0{E:XK}{D:Ends}{σ:St}(h:ta σ H λvs H1=>vs.length<=sizeLine/\E (.ref C) none H1):cX4 C E ta D σ H:=h
end
def aXZ(P:Program)(w:World)(K:W.Frag)(mg:Str->Option Value)(base:Heap)(k:Nat)(x:Str)(ps:List Str)(sp:Sp):Prop:=
 ∃(f:Addr) (fd:FuncData),FnOk P w K mg base (CXr P w) k f fd ps sp/\mg x=some (.ref f)/\W.keepIn K (.ref f)=true/\Binds K fd ps []
section
variable {k:Nat} {ps:List Str} {p:Pos} {E:XK}
def kY(c:aXZ X.prog X.w X.K X.mg X.base k x ps sp)(hx:iQ (CXr X.prog X.w) X E)(hr:Room k' X.A)(hk:k<=k')(hg:Gl X x)(ha:PA X (e::es) t)(hdb:(x==("__debug__" : Str))=false:=by decide)(he:starEach (e::es) X.env=(false,eval e X.env)::starEach es X.env:=by rfl)(hpl:(backTo pos (starEach es X.env)).any (·.1)=false:=by rfl):PE X (.Call (.Name x p) (e::es) [] pos) (bQQ sp [] E t):=by
 obtain⟨f,fd,F,hm,hk',hb⟩:=c;exact bQT F (hr.mono hk) hg hm hk' hb .nil hx ha hdb he hpl
def vB:iQ (CXr X.prog X.w) X E0:=λ_ _ _ _ _ _ _ h=>by
 obtain⟨_,_,_,_,_,_,_,_,_,_,_,z⟩:=h;exact z.elim
def PS.nox{t:TS}(h:PS X.nox st t):PS X st t:=λpins s σ H D I hw=>
 Cp (h pins s σ H D (I.wish _) hw) (λ_ _ q=>q.unwish) λ_ _ z=>False.elim z
end
def Fun.okX{ps:List Str}{k:Nat}(F:Fun K x qual st f fd)(S:FnScope N ps (aI st))(len:∀vs H Q E,sp vs H Q E->vs.length=ps.length)(hbody:∀(cdv:Value) (A:Around) (outer:List Env) (s:Shared) (H:Hp) (vs:List V) (Q:VK) (E:XK),Room k (A.deeper (envOfC qual (aI st) s.heap.objs.size f cdv))->sp vs H Q E->
 ∃t,PSs (gD (CXr P w) P w K mg base N qual (aI st) f cdv A outer s H E) (eY st) t/\t {nx:=λ_ H'=>Q .non H',rt:=Q} (lX N vs) H):FnOk P w K mg base (CXr P w) (k+1) f fd ps sp:=by
 obtain⟨oc,od,kV,doc,pm,an,cdv,ct,osl,rfl,lk,hcd⟩:=F.ex;exact cXT lk hcd S len λA outer s H vs Q E hr hsp=>hbody cdv A outer s H vs Q E hr hsp
end
def Itz(K:W.Frag)(a b:Addr):It:=
 ⟨λi H=>∃xs ys x y,SqL K H a xs/\SqL K H b ys/\xs[i]?=some x/\ys[i]?=some y,λi H v H'=>∃p x y,H p=none/\v=.ref p/\H'=upd H p (.tup [x,y])/\(∀xs,SqL K H a xs->xs[i]?=some x)/\(∀ys,SqL K H b ys->ys[i]?=some y),
  λi H=>∃xs ys,SqL K H a xs/\SqL K H b ys/\(xs.length<=i\/ys.length<=i)⟩
structure ZipOf (z TI TO i1 i2:Addr):Prop where
 d1:TI≠z
 d2:TO≠z
 d3:i1≠z
 d4:i2≠z
 d5:TI≠TO
 d6:TI≠i1
 d7:TI≠i2
 d8:TO≠i1
 d9:TO≠i2
 d0:i1≠i2
def jM{u:Obj}(ha:h.get? a=some o)(hb:h.get? b=some u){S:String}(hs:o.cls=.type S)(ht:u.cls=.type T)(n:S≠T):a≠b:=λz=>by
 subst z;rw[ha]at hb;cases hb;rw[hs]at ht;injection ht with ht;exact n ht
def wQ{z TI TO i1 i2:Addr}{f0 p q:Value}{k1 k2:Nat}{xs ys:Array Value}(D:ZipOf z TI TO i1 i2)(hz:IsZip h z TI TO f0)(hO:IsPair h TO p q)(h1:h.IsListIter i1 a k1)(h2:h.IsListIter i2 b k2)(ha:h.IsList a xs)(hb:h.IsList b ys):ZipApart z TI TO i1 i2 a b:=by
 obtain⟨o1,g1,c1,_⟩:=h1;obtain⟨o2,g2,c2,_⟩:=h2;obtain⟨oa,ga,ca,_⟩:=ha;obtain⟨ob,gb,cb,_⟩:=hb;exact⟨D.d1,D.d2,D.d3,D.d4,D.d5,D.d6,D.d7,D.d8,D.d9,D.d0,jM ga hz ca rfl (by decide),jM ga hO ca rfl (by decide),jM ga g1 ca c1 (by decide),jM ga g2 ca c2 (by decide),jM gb hz cb rfl (by decide),jM gb hO cb rfl (by decide),jM gb g1 cb c1 (by decide),jM gb g2 cb c2 (by decide)⟩
def bJR(a b z TI TO i1 i2:Addr)(D:ZipOf z TI TO i1 i2):Turn P w K (.Tuple elts x1 tp) (Itz K a b) [z,TI,TO,i1,i2] z (λi h=>IsZip h z TI TO .none/\IsPair h TI (.ref i1) (.ref i2)/\(∃p q,IsPair h TO p q)/\h.IsListIter i1 a i/\h.IsListIter i2 b i) where
 mem:=by simp
 obj:=λi h st c hc=>by
  obtain⟨hz,hI,⟨p,q,hO⟩,⟨o1,g1,_,e1⟩,o2,g2,_,e2⟩:=st;simp only[List.mem_cons,List.not_mem_nil,or_false]at hc;rcases hc with z|z|z|z|z<;>subst z
  ·exact⟨_,hz,λv z=>by cases z⟩
  ·exact⟨_,hI,λv z=>by cases z⟩
  ·exact⟨_,hO,λv z=>by cases z⟩
  ·exact⟨o1,g1,λv z=>by rw[e1]at z;cases z⟩
  ·exact⟨o2,g2,λv z=>by rw[e2]at z;cases z⟩
 keep:=λi h h' st kk=>by
  obtain⟨hz,hI,⟨p,q,hO⟩,g1,g2⟩:=st;exact⟨kk z (by simp) _ hz,kk TI (by simp) _ hI,⟨p,q,kk TO (by simp) _ hO⟩,g1.at λo e=>kk i1 (by simp) o e,g2.at λo e=>kk i2 (by simp) o e⟩
 item:=by
  intro X hP hw hK hc i pins s σ H E I hf st hg;subst hP hw hK;obtain⟨xs,ys,x,y,qa,qb,hx,hy⟩:=hg;obtain⟨us,ra,pa,_⟩:=I.list qa;obtain⟨vs,rb,pb,_⟩:=I.list qb;obtain⟨u,hu,ru⟩:=ra.get hx;obtain⟨v,hv,rv⟩:=rb.get hy;obtain⟨hz,hI,⟨p,q,hO⟩,g1,g2⟩:=st;have D2:=wQ D hz hO g1 g2 pa.isList pb.isList
  have fr:∀c o,s.heap.get? c=some o->s.heap.objs.size≠c:=λc o e=>Ec (As e)
  refine wpAny_pyNext_zip_item D2 hz hI hO g1 g2 pa.isList pb.isList (x:=u) (y:=v) (by simpa using hu) (by simpa using hv) λh1 a1 a2 a3 a4 a5 a6 kk=>?_
  refine⟨_,rfl,wpAny_letOwnedTupleGo_zip a1 λh2 z2 sb=>?_⟩;have up:∀c o,c≠z->h1.get? c=some o->h2.get? c=some o:=λc o n e=>(sb.2 c n).trans e
  have I2:Inv X pins σ (upd H s.heap.objs.size (.tup [x,y])) {s with heap:=h2}:=by
   refine I.turnLaid (t':=s.toks) (ch:=[z,TI,TO,i1,i2]) hf (λc o n e=>?_) (Ai _) ⟨bH (by show 2<=_;omega),[u,v],.cons ru (.cons rv .nil),_,up _ _ (fr z _ hz) a5,rfl,_,rfl⟩
   simp only[List.mem_cons,List.not_mem_nil,or_false,not_or]at n;exact up c o n.1 (kk c o n.1 n.2.2.1 n.2.2.2.1 n.2.2.2.2 e)
  refine⟨.ref s.heap.objs.size,_,I2,rfl,⟨_,x,y,I.hok.fresh (Ai _),rfl,rfl,λzs hq=>by rw[I.list_inj hq qa];exact hx,λzs hq=>by rw[I.list_inj hq qb];exact hy⟩,
   ⟨z2,up _ _ D.d1 (kk _ _ D.d1 D.d5 D.d6 D.d7 hI),⟨_,_,up _ _ D.d2 a2⟩,a3.at λo e=>up _ o D.d3 e,a4.at λo e=>up _ o D.d4 e⟩,λc hc=>?_⟩
  have hn:=(hf c hc).1
  rw[aG]
  ·exact hn
  ·obtain⟨o1,e1,_⟩:=g1;obtain⟨o2,e2,_⟩:=g2;simp only[List.mem_cons,List.not_mem_nil,or_false]at hc;rcases hc with z|z|z|z|z<;>subst z
   ·exact(fr _ _ hz).symm
   ·exact(fr _ _ hI).symm
   ·exact(fr _ _ hO).symm
   ·exact(fr _ _ e1).symm
   ·exact(fr _ _ e2).symm
 done:=by
  intro X hP hw hK hc i pins s σ H E I hf st hg;subst hP hw hK;obtain⟨xs,ys,qa,qb,hl⟩:=hg;obtain⟨us,ra,pa,_⟩:=I.list qa;obtain⟨vs,rb,pb,_⟩:=I.list qb;have e1:=ra.length
  have e2:=rb.length
  obtain⟨hz,hI,⟨p,q,hO⟩,g1,g2⟩:=st;refine wpAny_pyNext_zip_end (I.ok.hd hc) (wQ D hz hO g1 g2 pa.isList pb.isList) hz hI hO g1 g2 pa.isList pb.isList ?_ λh' kk=>⟨rfl,?_⟩
  ·rcases hl with z|z
   ·exact .inl (by simp;omega)
   ·exact .inr (by simp;omega)
  ·refine I.turnAll (t':=s.toks) (ch:=[z,TI,TO,i1,i2]) hf λc o n e=>?_;simp only[List.mem_cons,List.not_mem_nil,or_false,not_or]at n;exact kk c o n.1 n.2.2.1 n.2.2.2.1 n.2.2.2.2 e
 self:=λ_ _ _ _ _ st h=>wpAny_pyIter_zip st.1 h
def cQ4:bootBuiltins "zip"=some (.type "zip"):=by decide +kernel
section
variable {l1 l2:Expr} {p:Pos}
def bJI(R:Addr->Addr->Hp->Prop):List V->Hp->Prop:=λvs H=>match vs with|[.ref i,.ref j]=>R i j H|_=>False
def cJ5{R:Addr->Addr->Hp->Prop}(q:bJI R vs H):∃i j,vs=[.ref i,.ref j]/\R i j H:=by
 unfold bJI at q;split at q
 ·exact⟨_,_,rfl,q⟩
 ·exact q.elim
def eJ8(K:W.Frag)(ta:TA):TI:=λσ H R=>ta σ H (bJI λa b H1=>onL (rdL H1 a) (onL (rdL H1 b) (R (Itz K a b) H1)))
def eQT(hg:Gl X "zip")(hm:X.mg "zip"=none)(ha:PA X [l1,l2] ta)(hs:starEach [l1,l2] X.env=[(false,eval l1 X.env),(false,eval l2 X.env)]:=by rfl)(hs2:starEach [l2] X.env=[(false,eval l2 X.env)]:=by rfl):PI X (.Tuple elts x1 tp) (.Call (.Name "zip" p) [l1,l2] [] pos) (eJ8 X.K ta):=by
 intro pins s σ H R I h;refine Call_ (gR I hg hm cQ4 (Dc (thn (ha pos pins s σ H _ I h) λus s1 ⟨vs,H1,I1,r1,q1⟩=>?_) (by rw[hs,hs2]) (by rw[hs2];rfl)))
 obtain⟨a,b,rfl,q⟩:=cJ5 q1;obtain⟨u,u2,rfl,ru,ru2⟩:=aJO r1;cases ru;cases ru2;unfold onL at q;split at q
 ·rename_i xs ex
  split at q
  ·rename_i ys ey
   obtain⟨us,ra,pa,_⟩:=I1.list (aY ex);obtain⟨vs,rb,pb,_⟩:=I1.list (aY ey);refine call_zip_2 pa.isList pb.isList λh' hz hI hO g1 g2 hsz hk=>?_;refine wpAny_pyIter_zip (s:={s1 with heap:=h'}) hz ⟨_,[s1.heap.objs.size+4,s1.heap.objs.size+2,s1.heap.objs.size+3,s1.heap.objs.size,s1.heap.objs.size+1],_,_,H1,rfl,I1.kept (t':=s1.toks) hk,
    bJR a b _ _ _ _ _ ⟨by simp,by simp,by simp,by simp,by simp,by simp,by simp,by simp,by simp,by simp⟩,⟨hz,hI,⟨_,_,hO⟩,g1,g2⟩,λc hc=>?_,q⟩
   have z:s1.heap.objs.size<=c:=by
    simp only[List.mem_cons,List.not_mem_nil,or_false]at hc;rcases hc with z|z|z|z|z<;>(rw[z];first|exact Ai _|exact Fx _ _)
   exact I1.fpOk z (I1.hok.fresh z)
  ·exact q.elim
 ·exact q.elim
end
section
variable {tb:TS} {σ:St}
def eXO(Pv:Nat->St->Hp->Prop)(h0:Pv 0 σ H)(hl:∀i σ H,i<=xs.length->i<=ys.length->Pv i σ H->rdL H a=some xs/\rdL H b=some ys)(hs:∀i x y σ H p,xs[i]?=some x->ys[i]?=some y->Pv i σ H->H p=none->g (.ref p) σ (upd H p (.tup [x,y])) λσ2 H2=>tb {D with nx:=Pv (i+1),ct:=Pv (i+1),bk:=D.nx} σ2 H2)(hd:∀σ H,Pv (min xs.length ys.length) σ H->D.nx σ H):yP (Itz K a b) g tb D σ H:=by
 refine⟨λi m σ H=>m=min xs.length ys.length-i/\i<=min xs.length ys.length/\Pv i σ H,⟨min xs.length ys.length,by simp,Nat.zero_le _,h0⟩,?_⟩
 rintro i m σ H ⟨rfl,hi,p⟩;obtain⟨hr1,hr2⟩:=hl i σ H (by omega) (by omega) p
 by_cases hlt:i<min xs.length ys.length
 ·refine .inr ⟨⟨xs,ys,xs[i]'(by omega),ys[i]'(by omega),aY hr1,aY hr2,Aa _,Aa _⟩,Pv (i+1),λσ' H' p'=>⟨min xs.length ys.length-(i+1),by omega,rfl,hlt,p'⟩,λx H' y=>?_⟩
  obtain⟨q,x1,y1,hq,rfl,rfl,hx,hy⟩:=y;exact hs i x1 y1 σ H q (hx xs (aY hr1)) (hy ys (aY hr2)) p hq
 ·have e:i=min xs.length ys.length:=by omega
  subst e;exact .inl ⟨⟨xs,ys,aY hr1,aY hr2,by omega⟩,hd σ H p⟩
def eX6(h:ta σ H (bJI λa b H1=>onL (rdL H1 a) (onL (rdL H1 b) (R (Itz K a b) H1)))):eJ8 K ta σ H R:=h
def eQ2{R:Addr->Addr->Hp->Prop}(h:R a b H):bJI R [.ref a,.ref b] H:=h
end
def dX1:V->List V->Hp->VK->Prop:=λx vs H Q=>match x,vs with
 |.ref l,[.ref b]=>(match iD H l,iD H b with|some xs,some zs=>xs.length+zs.length<=sizeLine/\Q .non (upd H l (.lst (xs++zs)))|_,_=>False)
 |_,_=>False
def cZK:MtR X "list.extend" dX1:=MtR.imp (r:=aJN) bXS λ_ _ _ _ q=>by
 unfold dX1 at q;split at q
 ·split at q
  ·exact⟨_,_,_,_,rfl,rfl,lB (by assumption),lB (by assumption),q.1,q.2⟩
  ·exact q.elim
 ·exact q.elim
section
variable {l:Addr} {zs:List V}
def eJ5(e:iD H l=some xs)(e':iD H b=some zs)(c:xs.length+zs.length<=sizeLine)(h:Q .non (upd H l (.lst (xs++zs)))):dX1 (.ref l) [.ref b] H Q:=by unfold dX1;simp only[e,e'];exact⟨c,h⟩
end
def dJV{t u:TS}{σ:St}(Pj:St->Hp->Prop)(hj:∀σ' H',Pj σ' H'->u D σ' H')(h:∀N:St->Hp->Prop,(∀σ' H',Pj σ' H'->N σ' H')->t {D with nx:=N} σ H):dJF t u D σ H:=h (u D) hj
def none_of{r:Addr}(s:Same H H')(h:H' r=none):H r=none:=by
 cases e:H r with
 |none=>rfl
 |some o=>rw[s _ _ e]at h;cases h
def bJ{p:Addr}{o:HO}(hp:H p=none)(s:Same H H'):Same H (upd H' p o):=λb u q=>by rw[aG (bE q hp)];exact s b u q
section
variable {σ0:St}
def gW{J:It}{n:Nat}(R:Addr->Nat->List V->Hp->Prop)(hl:n<sizeLine)(h0:∀D,H1 D=none->R D 0 [] (upd H1 D (.lst [])))(hgo:∀D i ys Hc,H1 D=none->R D i ys Hc->i<n->J.go i Hc)(hst:∀D ys Hc,H1 D=none->R D n ys Hc->J.stop n Hc)(hs:∀D i ys Hc x H' (A:VK) (B:Hp->Prop),H1 D=none->i<n->R D i ys Hc->Hc D=some (.lst ys)->J.yld i Hc x H'->
 (∀y H4,H4 D=some (.lst ys)->R D (i+1) (ys++[y]) (upd H4 D (.lst (ys++[y])))->A y H4)->(∀H3,H3 D=some (.lst ys)->R D (i+1) ys H3->B H3)->
 g x σ0 H' λσ2 H2=>Wk σ0 σ2/\tests σ2 H2 λb H3=>if b=true then te σ2 H3 A else B H3)(fin:∀D ys Hc,H1 D=none->R D n ys Hc->Hc D=some (.lst ys)->ys.length<=n->Q (.ref D) Hc):dI g tests te σ0 Q J H1:=by
 intro D hD;refine⟨λi m Hc=>m=n-i/\i<=n/\∃ys,ys.length<=i/\Hc D=some (.lst ys)/\R D i ys Hc,⟨n,by simp,Nat.zero_le _,[],Nat.le_refl _,aE,h0 D hD⟩,?_⟩
 rintro i m Hc ⟨rfl,hi,ys,hy,hDc,r⟩;by_cases hlt:i<n
 ·refine .inr ⟨hgo D i ys Hc hD r hlt,λx H' y=>hs D i ys Hc x H' _ _ hD hlt r hDc y (λz H4 e r4=>?_) (λH3 e r3=>?_)⟩
  ·exact⟨ys,e,by omega,n-(i+1),by omega,rfl,hlt,ys++[z],by rw[Ag];show ys.length+1<=_;omega,aE,r4⟩
  ·exact⟨n-(i+1),by omega,rfl,hlt,ys,by omega,e,r3⟩
 ·have e:i=n:=by omega
  subst e;exact .inl ⟨hst D ys Hc hD r,fin D ys Hc hD r hDc hy⟩
def Tups(H1 Hc:Hp)(ps:List Addr)(fs:List (List V)):Prop:=ps.length=fs.length/\∀(j:Nat) p t,ps[j]?=some p->fs[j]?=some t->H1 p=none/\Hc p=some (.tup t)
def Tups.keep{Hd:Hp}(t:Tups H1 Hc ps fs)(s:Same Hc Hd):Tups H1 Hd ps fs:=⟨t.1,λj p u hp hu=>⟨(t.2 j p u hp hu).1,s _ _ (t.2 j p u hp hu).2⟩⟩
def Tups.older{H0:Hp}(t:Tups H1 Hc ps fs)(s:Same H0 H1):Tups H0 Hc ps fs:=⟨t.1,λj p u hp hu=>⟨none_of s (t.2 j p u hp hu).1,(t.2 j p u hp hu).2⟩⟩
def Tups.put{D:Addr}{zs:List V}(t:Tups H1 Hc ps fs)(h:Hc D=some (.lst ys)):Tups H1 (upd Hc D (.lst zs)) ps fs:=⟨t.1,λj p u hp hu=>by
 obtain⟨a,b⟩:=t.2 j p u hp hu;refine⟨a,?_⟩;rw[aG λz=>by rw[z,h]at b;cases b]
 exact b⟩
def Tups.app{qs:List Addr}{gs:List (List V)}(t:Tups H1 Hc ps fs)(u:Tups H1 Hc qs gs):Tups H1 Hc (ps++qs) (fs++gs):=by
 refine⟨by rw[Ag,Ag,t.1,u.1],λj p v hp hv=>?_⟩
 by_cases h:j<ps.length
 ·rw[Aq h]at hp;rw[Aq (by rw[<-t.1];exact h)]at hv
  exact t.2 j p v hp hv
 ·rw[Ax (by omega)]at hp
  rw[Ax (by rw[<-t.1];omega),<-t.1]at hv
  exact u.2 _ p v hp hv
def Tups.nil:Tups H1 Hc [] []:=⟨rfl,λj p u hp=>by cases hp⟩
def Tups.one{p:Addr}{t:List V}(a:H1 p=none)(b:Hc p=some (.tup t)):Tups H1 Hc [p] [t]:=⟨rfl,λj q u hq hu=>by
 cases j with
 |zero=>cases hq;cases hu;exact⟨a,b⟩
 |succ j=>cases hq⟩
def bZ5(f:Nat->List V)(hl:n<sizeLine)(hs:∀(i:Nat) Hc (A:VK) (B:Hp->Prop),i<n->Same H1 Hc->(∀p Hd,Hc p=none->Same Hc Hd->Hd p=some (.tup (f i))->A (.ref p) Hd)->
 g (.int (lo+i)) σ0 Hc λσ2 H2=>Wk σ0 σ2/\tests σ2 H2 λb H3=>if b=true then te σ2 H3 A else B H3)(fin:∀D Hd ps,H1 D=none->Same H1 Hd->Hd D=some (.lst (ps.map V.ref))->ps.length=n->Tups H1 Hd ps ((List.range n).map f)->Q (.ref D) Hd):dI g tests te σ0 Q (Itr lo n) H1:=by
 refine gW (n:=n) (λD i ys Hc=>Same H1 Hc/\∃ps,ys=ps.map V.ref/\ps.length=i/\Tups H1 Hc ps ((List.range i).map f)) hl (λD hD=>⟨aF hD _,[],rfl,rfl,.nil⟩) (λD i ys Hc _ r h=>h) (λD ys Hc _ r=>Ai n) ?_ ?_
 ·rintro D i ys Hc x H' A B hD hi ⟨sm,ps,rfl,hn,tp⟩ hDc ⟨rfl,rfl⟩ ha hb;refine hs i H' A B hi sm (λp Hd hp sd hd=>?_);refine ha _ _ (sd _ _ hDc) ⟨bJ hD (sm.trans sd),ps++[p],by rw[Ao];rfl,by rw[Ag,hn];rfl,?_⟩
  rw[Cf,Ao];exact((tp.keep sd).app (.one (none_of sm hp) hd)).put (sd _ _ hDc)
 ·rintro D ys Hc hD ⟨sm,ps,rfl,hn,tp⟩ hDc _;exact fin D Hc ps hD sm hDc hn tp
end
def cXD(lo c:Int)(n:Nat):It:=⟨λi _=>i<n,λi H x H'=>H'=H/\x=.int (lo+(i:Int)*c),λi _=>n<=i⟩
def aQ0{K:PySem.W.Frag}(it:Addr)(lo c:Int)(n:Nat):Turn P w K tg (cXD lo c n) [it] it (λi h=>IsRangeIter h it (lo+(i:Nat)*c) ((n:Int)-(i:Nat)) c) where
 mem:=by simp
 obj:=λi h st b hb=>by
  have e:b=it:=by simpa using hb
  subst e;exact⟨_,st,λv z=>by
   have z':Data.fields _=Data.cell v:=z
   cases z'⟩
 keep:=λi h h' st k=>k it (by simp) _ st
 item:=by
  intro X hP hw hK hc i pins s σ H E I hf st hg;subst hP hw hK;obtain⟨f0,f1,f2,f3,f4,f5⟩:=hf it (by simp)
  have W:=Walks.range (prog:=X.prog) (w:=X.w) (I.ok.hd hc) it lo c n
  refine W.item i s _ _ hg st λv h' tk hv st' kk=>?_;obtain⟨t,rfl⟩:=hv;have I1:Inv X pins σ H {s with heap:=h',toks:=tk}:=I.turned (λb o hb e=>kk b o (by simpa using hb) e) f0 f1 f3 f4 f5
  exact⟨_,rfl,qY (s:={s with heap:=h',toks:=tk}) (n := "range_iterator") st' rfl rfl (by decide) ⟨.int (lo+i*c),H,I1,⟨t,rfl⟩,⟨rfl,rfl⟩,st',λb hb=>(hf b hb).1⟩⟩
 done:=by
  intro X hP hw hK hc i pins s σ H E I hf st hg;subst hP hw hK;obtain⟨f0,f1,f2,f3,f4,f5⟩:=hf it (by simp)
  exact wpAny_pyNext_range_end (I.ok.hd hc) st (by have:n<=i:=hg;omega) λh' eb=>⟨rfl,I.turned (t':=s.toks) (λb o hb e=>eb b o hb e) f0 f1 f3 f4 f5⟩
 self:=λ_ _ _ _ _ st h=>wpAny_pyIter_rangeiter st h
def cZX(R:Int->Int->Int->Hp->Prop):List V->Hp->Prop:=λvs H=>match vs with|[.int i,.int j,.int k]=>R i j k H|_=>False
def cJT{R:Int->Int->Int->Hp->Prop}(q:cZX R vs H):∃i j k,vs=[.int i,.int j,.int k]/\R i j k H:=by
 unfold cZX at q;split at q
 ·exact⟨_,_,_,rfl,q⟩
 ·exact q.elim
section
variable {st:Int} {tb:TS} {σ:St} {j k:Int}
def bZE(Pv:Nat->St->Hp->Prop)(h0:Pv 0 σ H)(hs:∀i σ H,i<n->Pv i σ H->g (.int (lo+(i:Int)*st)) σ H λσ2 H2=>tb {D with nx:=Pv (i+1),ct:=Pv (i+1),bk:=D.nx} σ2 H2)(hd:∀σ H,Pv n σ H->D.nx σ H):yP (cXD lo st n) g tb D σ H:=by
 refine⟨λi m σ H=>m=n-i/\i<=n/\Pv i σ H,⟨n,by simp,Nat.zero_le _,h0⟩,?_⟩
 rintro i m σ H ⟨rfl,hi,p⟩;by_cases hlt:i<n
 ·refine .inr ⟨hlt,Pv (i+1),λσ' H' p'=>⟨n-(i+1),by omega,rfl,hlt,p'⟩,λx H' y=>?_⟩
  obtain⟨e,y⟩:=y;subst e y;exact hs i σ _ hlt p
 ·have e:i=n:=by omega
  subst e;exact .inl ⟨Ai _,hd σ H p⟩
def dJN{R:Int->Int->Int->Hp->Prop}(h:R i j k H):cZX R [.int i,.int j,.int k] H:=h
end
def cXF{x:V}(h:cM x=true):eqV x x=true:=by
 cases x<;>first|rfl|(simp[eqV];done)|(cases h;done)
def Lsts(H1 Hc:Hp)(ps:List Addr)(fs:List (List V)):Prop:=ps.length=fs.length/\∀(j:Nat) p t,ps[j]?=some p->fs[j]?=some t->H1 p=none/\Hc p=some (.lst t)
def Lsts.keep{Hd:Hp}(t:Lsts H1 Hc ps fs)(s:Same Hc Hd):Lsts H1 Hd ps fs:=⟨t.1,λj p u hp hu=>⟨(t.2 j p u hp hu).1,s _ _ (t.2 j p u hp hu).2⟩⟩
def Lsts.older{H0:Hp}(t:Lsts H1 Hc ps fs)(s:Same H0 H1):Lsts H0 Hc ps fs:=⟨t.1,λj p u hp hu=>⟨none_of s (t.2 j p u hp hu).1,(t.2 j p u hp hu).2⟩⟩
def Lsts.put{D:Addr}{o:HO}(t:Lsts H1 Hc ps fs)(h:∀p∈ps,p≠D):Lsts H1 (upd Hc D o) ps fs:=⟨t.1,λj p u hp hu=>by
 obtain⟨a,b⟩:=t.2 j p u hp hu;refine⟨a,?_⟩;rw[aG (h p (Al hp))];exact b⟩
def Lsts.snoc{H1 Hc:Hp}{ps:List Addr}{fs:List (List V)}{q:Addr}{g:List V}(t:Lsts H1 Hc ps fs)(a:H1 q=none)(b:Hc q=some (.lst g)):Lsts H1 Hc (ps++[q]) (fs++[g]):=by
 refine⟨by rw[Ag,Ag,t.1];rfl,λj p v hp hv=>?_⟩
 by_cases h:j<ps.length
 ·rw[Aq h]at hp;rw[Aq (by rw[<-t.1];exact h)]at hv
  exact t.2 j p v hp hv
 ·rw[Ax (by omega)]at hp
  rw[Ax (by rw[<-t.1];omega),<-t.1]at hv
  cases e:j-ps.length with
  |zero=>rw[e]at hp hv;cases hp;cases hv;exact⟨a,b⟩
  |succ n=>rw[e]at hp;cases hp
def Lsts.nil:Lsts H1 Hc [] []:=⟨rfl,λj p u hp=>by cases hp⟩
def kL(ns:List Int):∀n,n<=ns.length->preSum (λi=>ns.getD i 0) n=(ns.take n).sum
 |0,_=>by simp[preSum]
 |n+1,h=>by
  have ih:=kL ns n (by omega)
  have e:ns.take (n+1)=ns.take n++[ns.getD n 0]:=by rw[Bh,Ac,Aa (by omega)];rfl
  rw[e,List.sum_append,<-ih];simp[preSum]
def bZM{ns:List Int}(h:∀n∈ns,0<=n/\n<=1000000):0<=ns.sum/\ns.sum<=1000000*(ns.length:Int):=by
 induction ns with
 |nil=>simp
 |cons n r ih=>
  obtain⟨a,b⟩:=h n (Ak ..);obtain⟨c,d⟩:=ih λm hm=>h m (Aj _ hm);rw[En,Aw];constructor
  ·omega
  ·push_cast;omega
def dJX:List V->Hp->VK->Prop:=λxs H Q=>∃(p:Addr) (ns:List Int),xs=[.ref p]/\rdL H p=some (ns.map V.int)/\(∀n∈ns,0<=n/\n<=1000000)/\ns.length<=100000/\Q (.int ns.sum) H
def bJW(hc:X.calm=true):CallR X (.builtin "sum") dJX:=by
 intro pins s σ H xs us Q I r h;obtain⟨p,ns,rfl,hp,hb,hn,q⟩:=h;obtain⟨u,rfl,ru⟩:=dA r;cases ru;obtain⟨its,rv,pl,hz⟩:=I.list (aY hp);have hl:=pl.isList
 have hlt:p<s.heap.objs.size:=by obtain⟨_,e,_⟩:=hl;exact As e
 have hle:its.length=ns.length:=by have:=rv.length;rw[Ab]at this;omega
 refine call_sum_walk (Dr hl ?_);refine⟨s.heap.objs.size,[s.heap.objs.size,p],[s.heap.objs.size],its.toArray.size,_,_,λi=>ns.getD i 0,rfl,Walks.list (A:=X.A.in1) (I.ok.hd hc) _ p (Bc hlt) its.toArray,
  ⟨⟨_,Av _ rfl,rfl,rfl⟩,hl.push _⟩,λb hb=>?_,λi v hv=>?_,λj hj=>?_,λh' tk t' hk=>?_⟩
 ·rw[show ({s with heap:=_}:Shared).heap=_ from rfl]
  simp only[List.mem_cons,List.not_mem_nil,or_false]at hb;rcases hb with e|e
  ·rw[e];simp[Heap.push]
  ·rw[e];exact Nat.lt_of_lt_of_le hlt (by simp[Heap.push])
 ·have hv':its[i]?=some v:=by simpa using hv
  have hi:i<ns.length:=by rw[<-hle];exact(Ad.mp hv').1
  obtain⟨u,hu,ru⟩:=rv.get (show (ns.map V.int)[i]?=some (.int ns[i]) by rw[Ae,Aa hi];rfl)
  rw[hv']at hu;cases hu;obtain⟨t,rfl⟩:=ru;exact⟨t,by show Value.int ns[i] t=Value.int (ns.getD i 0) t;rw[Ac,Aa hi];rfl⟩
 ·have hj' : j < ns.length := by have : j < its.length := by simpa using hj
                                 omega
  have e:=kL ns (j+1) (by omega)
  obtain⟨a1,a2⟩:=bZM (ns:=ns.take (j+1)) λm hm=>hb m (List.mem_of_mem_take hm);rw[Br]at a2;have a3:ns.getD j 0∈ns:=by rw[Ac,Aa hj'];exact Ce _
  obtain⟨b1,b2⟩:=hb _ a3;refine⟨?_,?_⟩
  ·show InLong (ns.getD j 0)
   unfold InLong;omega
  ·rw[e];unfold InLong;omega
 ·have e:preSum (λi=>ns.getD i 0) its.toArray.size=ns.sum:=by
   rw[Az,hle,kL ns _ (Ai _),Cj]
  rw[e];exact⟨.int ns.sum,H,I.kept (LSm.kept_iter hk),⟨_,rfl⟩,q⟩
def dZ7{p:Addr}(e:rdL H p=some (ns.map V.int))(hb:∀n∈ns,0<=n/\n<=1000000)(hl:ns.length<=100000)(h:Q (.int ns.sum) H):dJX [.ref p] H Q:=⟨p,ns,rfl,e,hb,hl,h⟩
section
variable {κ:Type} [DecidableEq κ]
def bT(kvs:List (κ×V))(k:κ):Option V:=(kvs.find? λkv=>decide (kv.1=k)).map (·.2)
def cX(kvs:List (κ×V))(k:κ)(v:V):List (κ×V):=
 if (kvs.any λkv=>decide (kv.1=k))=true then kvs.map (λkv=>if kv.1=k then (kv.1,v) else kv) else kvs++[(k,v)]
def cG{p:κ×V}{r:List (κ×V)}{k:κ}(e:p.1=k):bT (p::r) k=some p.2:=by simp[bT,List.find?_cons,e]
def bX{p:κ×V}{r:List (κ×V)}{k:κ}(e:¬p.1=k):bT (p::r) k=bT r k:=by simp[bT,List.find?_cons,e]
def fF(k:κ):∀kvs:List (κ×V),(kvs.any λkv=>decide (kv.1=k))=(bT kvs k).isSome
 |[]=>rfl
 |p::r=>by
  rw[Ha];by_cases e:p.1=k
  ·simp only[cG e,decide_eq_true e,Bool.true_or,Option.isSome_some]
  ·rw[bX e,Ay e,Bool.false_or];exact fF k r
def aQV(k j:κ)(y:V):∀kvs:List (κ×V),bT (kvs.map λkv=>if kv.1=k then (kv.1,y) else kv) j=(bT kvs j).map λx=>if j=k then y else x
 |[]=>rfl
 |p::r=>by
  have ih:=aQV k j y r
  rw[Au];by_cases h:p.1=k
  ·rw[if_pos h];by_cases e:p.1=j
   ·rw[cG (p:=(p.1,y)) e,cG e,Dz,if_pos (e.symm.trans h)]
   ·rw[bX (p:=(p.1,y)) e,bX e,ih]
  ·rw[if_neg h];by_cases e:p.1=j
   ·rw[cG (p:=p) e,cG e,Dz,if_neg (λz=>h (e.trans z))]
   ·rw[bX (p:=p) e,bX e,ih]
def vM(k j:κ)(y:V):∀kvs:List (κ×V),bT kvs k=none->bT (kvs++[(k,y)]) j=if j=k then some y else bT kvs j
 |[],_=>by
  by_cases e:k=j
  ·rw[if_pos e.symm];exact cG (p:=(k,y)) e
  ·rw[if_neg (λz=>e z.symm)];exact bX (p:=(k,y)) e
 |p::r,hn=>by
  rw[List.cons_append];have hk:¬p.1=k:=λz=>by rw[cG z]at hn;cases hn
  rw[bX hk]at hn;have ih:=vM k j y r hn
  by_cases e:p.1=j
  ·rw[cG e,cG e,if_neg (λz=>hk (e.trans z))]
  ·rw[bX e,bX e,ih]
def zQ(kvs:List (κ×V))(k j:κ)(y:V):bT (cX kvs k y) j=if j=k then some y else bT kvs j:=by
 unfold cX;by_cases a:(kvs.any λkv=>decide (kv.1=k))=true
 ·rw[if_pos a,aQV];rw[fF]at a;by_cases e:j=k
  ·obtain⟨x,hx⟩:=Dn.mp a;rw[if_pos e,e,hx,Dz,if_pos rfl]
  ·rw[if_neg e];cases bT kvs j with
   |none=>rfl
   |some x=>rw[Dz,if_neg e]
 ·rw[if_neg a];refine vM k j y kvs ?_;rw[fF]at a;cases q:bT kvs k with
  |none=>rfl
  |some x=>rw[q]at a;exact(a rfl).elim
def eE(kvs:List (κ×V))(k:κ)(v:V):(cX kvs k v).length<=kvs.length+1:=by
 unfold cX;split
 ·rw[Ab];omega
 ·rw[Ag,Aw,List.length_nil];omega
def kM{kvs:List (κ×V)}{k:κ}(v:V)(h:bT kvs k=none):cX kvs k v=kvs++[(k,v)]:=by
 unfold cX;rw[fF,h];exact if_neg (by decide)
def RelO.isSome_eq{o:Option V}{u:Option Value}(r:RelO o u):o.isSome=u.isSome:=by
 cases o with
 |none=>cases u with
  |none=>rfl
  |some _=>exact(show False from r).elim
 |some _=>cases u with
  |none=>exact(show False from r).elim
  |some _=>rfl
def RelO.getD{o:Option V}{u:Option Value}{d:V}{d':Value}(r:RelO o u)(rd:RelV d d'):RelV (o.getD d) (u.getD d'):=by
 cases o with
 |none=>cases u with
  |none=>exact rd
  |some _=>exact(show False from r).elim
 |some _=>cases u with
  |none=>exact(show False from r).elim
  |some _=>exact r
def KV.val{kvs:List (κ×V)}{vs:List (κ×Value)}(r:KV kvs vs)(k:κ):RelO (bT kvs k) (valueAt vs k):=by
 unfold KV at r;induction r with
 |nil=>exact True.intro
 | @cons p q ps qs h t ih=>
  obtain⟨h1,h2⟩:=h;by_cases e:p.1=k
  ·have e':q.1=k:=h1.symm.trans e
   have b:valueAt (q::qs) k=some q.2:=by simp[valueAt,List.find?_cons,e']
   rw[cG e,b];exact h2
  ·have e':¬q.1=k:=λz=>e (h1.trans z)
   have b:valueAt (q::qs) k=valueAt qs k:=by simp[valueAt,List.find?_cons,e']
   rw[bX e,b];exact ih
def KV.any{kvs:List (κ×V)}{vs:List (κ×Value)}(r:KV kvs vs)(k:κ):(kvs.any λkv=>decide (kv.1=k))=vs.any λkv=>decide (kv.1=k):=by
 unfold KV at r;induction r with
 |nil=>rfl
 |cons h t ih=>rw[Ha,Ha,ih,h.1]
def KV.repl{kvs:List (κ×V)}{vs:List (κ×Value)}(r:KV kvs vs)(k:κ)(ry:RelV y u):KV (kvs.map λkv=>if kv.1=k then (kv.1,y) else kv) (vs.map λkv=>if kv.1=k then (kv.1,u) else kv):=by
 unfold KV at r ⊢;induction r with
 |nil=>exact .nil
 | @cons p q ps qs h t ih=>
  rw[Au,Au];refine .cons ?_ ih;obtain⟨h1,h2⟩:=h;by_cases e:p.1=k
  ·rw[if_pos e,if_pos (h1.symm.trans e)];exact⟨h1,ry⟩
  ·rw[if_neg e,if_neg (λz=>e (h1.trans z))];exact⟨h1,h2⟩
def KV.put{kvs:List (κ×V)}{vs:List (κ×Value)}(r:KV kvs vs)(k:κ)(ry:RelV y u):KV (cX kvs k y) (stored vs k u):=by
 unfold cX stored;rw[r.any k];by_cases e:(vs.any λkv=>decide (kv.1=k))=true
 ·rw[if_pos e,if_pos e];exact r.repl k ry
 ·rw[if_neg e,if_neg e];exact Paired.snoc r ⟨rfl,ry⟩
def KV.length{kvs:List (κ×V)}{vs:List (κ×Value)}(r:KV kvs vs):kvs.length=vs.length:=Paired.length r
end
def pY{k:Key}(r:RelV (kV k) u):(bC P w).is k u=true:=by
 cases k with
 |inl i=>obtain⟨t,e⟩:=(show ∃t,u=Value.int i t from r);subst e;exact aQM P w i t
 |inr x=>obtain⟨t,e⟩:=(show ∃t,u=Value.str x t from r);subst e;exact yZ P w x t
def wD:∀ {ks:List Key} {us:List Value},Vals (ks.map kV) us->ItemsAre (bC P w) ks us
 |[],_,r=>by rw[List.map_nil]at r;cases r;exact .nil
 |k::ks,_,r=>by
  rw[Au]at r;cases r with
  |cons h t=>exact .cons (pY h) (wD t)
abbrev KT(H:Hp):List (List Key×V)->List (List Key×Addr×Value)->Prop:=Paired λp q=>p.1=q.1/\H q.2.1=some (.tup (p.1.map kV))/\RelV p.2 q.2.2
def KT.val{kvs:List (List Key×V)}{xs:List (List Key×Addr×Value)}(r:KT H kvs xs)(k:List Key):RelO (bT kvs k) ((atKey xs k).map (·.2)):=by
 induction r with
 |nil=>exact True.intro
 | @cons p q ps qs h t ih=>
  obtain⟨h1,_,h2⟩:=h;by_cases e:p.1=k
  ·have e':q.1=k:=h1.symm.trans e
   have b:atKey (q::qs) k=some q.2:=by simp[atKey,List.find?_cons,e']
   rw[cG e,b];exact h2
  ·have e':¬q.1=k:=λz=>e (h1.trans z)
   have b:atKey (q::qs) k=atKey qs k:=by simp[atKey,List.find?_cons,e']
   rw[bX e,b];exact ih
def KT.repl{kvs:List (List Key×V)}{xs:List (List Key×Addr×Value)}(r:KT H kvs xs)(k:List Key)(ry:RelV y u):KT H (kvs.map λkv=>if kv.1=k then (kv.1,y) else kv) (xs.map (putAt k u)):=by
 induction r with
 |nil=>exact .nil
 | @cons p q ps qs h t ih=>
  rw[Au,Au];refine .cons ?_ ih;obtain⟨h1,h2,h3⟩:=h;unfold putAt;by_cases e:p.1=k
  ·rw[if_pos e,if_pos (h1.symm.trans e)];exact⟨h1,h2,ry⟩
  ·rw[if_neg e,if_neg (λz=>e (h1.trans z))];exact⟨h1,h2,h3⟩
def KT.put{kvs:List (List Key×V)}{xs:List (List Key×Addr×Value)}(r:KT H kvs xs)(k:List Key)(hb:H b=some (.tup (k.map kV)))(ry:RelV y u):KT H (cX kvs k y) (storedH xs k b u):=by
 have e:(kvs.any λkv=>decide (kv.1=k))=(atKey xs k).isSome:=by
  rw[fF,(r.val k).isSome_eq,Option.isSome_map]
 unfold cX storedH;rw[e];by_cases q:(atKey xs k).isSome=true
 ·rw[if_pos q,if_pos q];exact r.repl k ry
 ·rw[if_neg q,if_neg q];exact Paired.snoc r ⟨rfl,hb,ry⟩
def KT.keeps{kvs:List (List Key×V)}{xs:List (List Key×Addr×Value)}(r:KT H kvs xs)(ht:∀b ys,H b=some (.tup ys)->H' b=some (.tup ys)):KT H' kvs xs:=
 Paired.mapP r λ_ _ z=>⟨z.1,ht _ _ z.2.1,z.2.2⟩
def dZ2{u:HO}(ok:HOk P w H h)(e:Rd H a u):ObjOk P w H h a u:=e.ok ok
def nT(ok:HOk P w H h)(e:Rd H a (.dK kvs)):kvs.length<=sizeLine/\(a==sysModules)=false/\∃vs,KV kvs vs/\h.DictOf (bC P w) a vs:=
 show ObjOk P w H h a (.dK kvs) from dZ2 ok e
def dZJ(ok:HOk P w H h)(e:H a=some (.dK kvs)):kvs.length<=sizeLine/\(a==sysModules)=false/\∃vs,KV kvs vs/\h.DictOf (bC P w) a vs:=nT ok (.inl e)
def mO{ks:List Key}(ok:HOk P w H h)(e:H a=some (.tup (ks.map kV))):(tupleKind (bC P w)).is h ks a:=by
 obtain⟨_,its,r,o,h1,h2,n,h3⟩:=(show ObjOk P w H h a (.tup (ks.map kV)) from ok a _ e);exact⟨o,its.toArray,n,h1,h2,h3,by simpa using wD r⟩
def pL{kvs:List (List Key×V)}(ok:HOk P w H h)(e:Rd H a (.dT kvs)):kvs.length<=sizeLine/\(a==sysModules)=false/\
 ∃xs,KT H kvs xs/\h.DictOfH (tupleKind (bC P w)) a xs:=by
 obtain⟨z,y,xs,r,o,es,ep,h1,h2,h3,h4,h5⟩:=(show ObjOk P w H h a (.dT kvs) from dZ2 ok e);refine⟨z,y,xs,r,o,es,ep,h1,h2,h3,h4,λx hx=>?_,h5⟩;have all:∀ {l:List (List Key×V)} {m:List (List Key×Addr×Value)},KT H l m->∀x∈m,(tupleKind (bC P w)).is h x.1 x.2.1:=by
  intro l m q;induction q with
  |nil=>intro x hx;exact nomatch hx
  | @cons p q ps qs hq t ih=>
   intro x hx;rcases Be.mp hx with e|hx
   ·subst e;exact mO ok (by rw[<-hq.1];exact hq.2.1)
   ·exact ih x hx
 exact all r x hx
def dZS{kvs:List (List Key×V)}(ok:HOk P w H h)(e:H a=some (.dT kvs)):kvs.length<=sizeLine/\(a==sysModules)=false/\
 ∃xs,KT H kvs xs/\h.DictOfH (tupleKind (bC P w)) a xs:=pL ok (.inl e)
def DGet(H:Hp)(a:Addr)(y:V)(r:Option V):Prop:=
 (∃kvs k,Rd H a (.dK kvs)/\y=kV k/\r=bT kvs k)\/∃kvs k b,Rd H a (.dT kvs)/\y=.ref b/\H b=some (.tup (k.map kV))/\r=bT kvs k
def DPut(H:Hp)(a:Addr)(y v:V)(H':Hp):Prop:=
 (∃kvs k,H a=some (.dK kvs)/\y=kV k/\kvs.length<sizeLine/\H'=upd H a (.dK (cX kvs k v)))\/
 ∃kvs k b,H a=some (.dT kvs)/\y=.ref b/\H b=some (.tup (k.map kV))/\kvs.length<sizeLine/\H'=upd H a (.dT (cX kvs k v))
def DGet.k{k:Key}(e:H a=some (.dK kvs)):DGet H a (kV k) (bT kvs k):=.inl ⟨kvs,k,.inl e,rfl,rfl⟩
def DPut.k{k:Key}(e:H a=some (.dK kvs))(hl:kvs.length<sizeLine):DPut H a (kV k) v (upd H a (.dK (cX kvs k v))):=.inl ⟨kvs,k,e,rfl,hl,rfl⟩
section
variable {σ:St} {r:Value} {o:Option V}
def Inv.big(I:Inv X pins σ H s):sysModules<s.heap.objs.size:=by
 have h:mainGlobals<s.heap.objs.size:=(I.mod.glob.keeps I.bk).lt
 exact Nat.lt_trans (by decide) h
def bXB{Q:Q0}(hu:A.units+1<cLine)(I:Inv X pins σ H s)(g:DGet H a y (some v))(ry:RelV y u)(h:∀w' s',Inv X pins σ H s'->RelV v w'->Q w' s'):wpAny (model X.prog X.w) A (getItem (.ref a) u) Q E s:=by
 rcases g with⟨kvs,k,e,ey,l⟩|⟨kvs,k,b,e,ey,eb,l⟩
 ·subst ey;obtain⟨z,hd,vs,rel,dd⟩:=nT I.hok e;obtain⟨w',hw,rw'⟩:=RelO.some_of (v:=v) (o:=valueAt vs k) (by rw[l];exact rel.val k)
  exact wpAny_getItem_of (pY ry) dd.mapOf hw (h w' _ (I.tok _) rw')
 ·subst ey;cases (show u=Value.ref b from ry);obtain⟨z,hd,xs,rel,dd⟩:=pL I.hok e;obtain⟨w',hw,rw'⟩:=RelO.some_of (v:=v) (o:=(atKey xs k).map (·.2)) (by rw[l];exact rel.val k)
  obtain⟨p,hp,hp2⟩:=Bk.mp hw;refine wpAny_getItem_heap (Eg hu) (mO I.hok eb) dd hp ?_;rw[hp2];exact h w' _ (I.tok _) rw'
def fQG{Q:Q0}(hu:A.units+1<cLine)(I:Inv X pins σ H s)(g:DGet H a y o)(ry:RelV y u)(h:∀s',Inv X pins σ H s'->Q (.bool o.isSome) s'):wpAny (model X.prog X.w) A (compareOp .In u (.ref a)) Q E s:=by
 rcases g with⟨kvs,k,e,ey,l⟩|⟨kvs,k,b,e,ey,eb,l⟩
 ·subst ey;obtain⟨z,hd,vs,rel,dd⟩:=nT I.hok e;refine wpAny_in_of (pY ry) hd dd.mapOf ?_;rw[<-(rel.val k).isSome_eq,<-l];exact h _ (I.tok _)
 ·subst ey;cases (show u=Value.ref b from ry);obtain⟨z,hd,xs,rel,dd⟩:=pL I.hok e;refine wpAny_in_heap (Eg hu) (mO I.hok eb) hd dd ?_;have q:=(rel.val k).isSome_eq
  rw[Option.isSome_map]at q;rw[<-q,<-l];exact h _ (I.tok _)
def dX4{Q:Q0}(hu:A.units+1<cLine)(I:Inv X pins σ H s)(g:DGet H a y o)(ry:RelV y u)(h:∀s',Inv X pins σ H s'->Q (.bool (!o.isSome)) s'):wpAny (model X.prog X.w) A (compareOp .NotIn u (.ref a)) Q E s:=by
 rcases g with⟨kvs,k,e,ey,l⟩|⟨kvs,k,b,e,ey,eb,l⟩
 ·subst ey;obtain⟨z,hd,vs,rel,dd⟩:=nT I.hok e;refine wpAny_notIn_of (pY ry) hd dd.mapOf ?_;rw[<-(rel.val k).isSome_eq,<-l];exact h _ (I.tok _)
 ·subst ey;cases (show u=Value.ref b from ry);obtain⟨z,hd,xs,rel,dd⟩:=pL I.hok e;refine wpAny_notIn_heap (Eg hu) (mO I.hok eb) hd dd ?_;have q:=(rel.val k).isSome_eq
  rw[Option.isSome_map]at q;rw[<-q,<-l];exact h _ (I.tok _)
def aJQ{ob:HO}(I:Inv X pins σ H s)(mu:Mut (H a))(hs:Heap.SameBut a s.heap h')(he:∃q,h'.get? a=some q)(new:ObjOk X.prog X.w (upd H a ob) h' a ob):Inv X pins σ (upd H a ob) {s with heap:=h',toks:=t'}:=
 I.write (x:=a) (e:=a) mu (.inl rfl) (λb q hb z=>(hs.2 b hb).trans z) he new
def cZH{vs:List (Key×Value)}(z:kvs.length<=sizeLine)(hd:(a==sysModules)=false)(rel:KV kvs vs)(dd:h'.DictOf (bC P w) a vs):ObjOk P w H' h' a (.dK kvs):=⟨z,hd,vs,rel,dd⟩
def bZZ{Q:Unit->Shared->Prop}(hu:A.units+1<cLine)(I:Inv X pins σ H s)(g:DPut H a y v H')(ry:RelV y u)(rv:RelV v r)(h:∀s',Inv X pins σ H' s'->Q () s'):wpAny (model X.prog X.w) A (setItem (.ref a) u r) Q E s:=by
 rcases g with⟨kvs,k,e,ey,l,eH⟩|⟨kvs,k,b,e,ey,eb,l,eH⟩
 ·subst ey eH;obtain⟨z,hd,vs,rel,dd⟩:=dZJ I.hok e;have hz:vs.length<=sizeLine:=by rw[<-rel.length];exact z
  have hl:(cX kvs k v).length<=sizeLine:=by have:=eE kvs k v;omega
  refine wpAny_setItem_pairs (hsz:=hz) (pY ry) dd λh' dd' hs=>h _ ?_;have he:∃q,h'.get? a=some q:=let ⟨q,_,_,hq,_⟩:=dd';⟨q,hq⟩
  exact aJQ I (by rw[e];exact True.intro) hs he (cZH hl hd (rel.put k rv) dd')
 ·subst ey eH;cases (show u=Value.ref b from ry);obtain⟨z,hd,xs,rel,dd⟩:=dZS I.hok e;have hz:xs.length<=sizeLine:=by rw[<-Paired.length rel];exact z
  have hl:(cX kvs k v).length<=sizeLine:=by have:=eE kvs k v;omega
  refine wpAny_setItem_heap (hsz:=hz) (Eg hu) (mO I.hok eb) dd λh' dd' hs=>h _ ?_;obtain⟨q,es,ep,hq,h2,h3,h4,_,h5⟩:=dd';refine aJQ I (by rw[e];exact True.intro) hs ⟨q,hq⟩ ⟨hl,hd,_,(rel.put k eb rv).keeps λc ys ec=>?_,q,es,ep,hq,h2,h3,h4,h5⟩
  rw[aG (eJ4 ec e (λz=>nomatch z))]
  exact ec
end
def eJ7(i:Expr):Prop:=∀ov iv,subscripted i false ov iv=operate [ov,iv] (getItem ov iv)
def dQ1{value slice:Expr}{id:String}{Q:Q0}(hl:typeLookup (.type T) "__getitem__"=pure (some (.builtin id)))(hs:eJ7 slice)(h:wpAny (model prog w) A (eval value env) (λo s₁=>wpAny (model prog w) A (eval slice env) (λi s₂=>s₂.TypeIs o T/\wpAny (model prog w) A (getItem o i) Q E s₂) E s₁) E s):wpAny (model prog w) A (eval (.Subscript value slice pos) env) Q E s:=by
 refine Subscript_ (Cp h (λo s₁ h₁=>Cp h₁ (λi s₂ h₂=>?_) λ_ _ x=>x) λ_ _ x=>x);obtain⟨hT,h₂⟩:=h₂;unfold subscriptTail;refine Af ?_;rw[getitemInPython_of_ne hT.not_modules];refine Af (wpAny_specialOf hT hl ?_);have fin:wpAny (model prog w) A (subscripted slice false o i) (λr s₃=>wpAny (model prog w) A (letTemporaryGo value o r >>= λ_=>pure r) Q E s₃) E s₂:=by
  rw[hs o i];exact wpAny_operating (Cp h₂ (λr s₃ h₃=>Af (wpAny_letTemporaryGo (An h₃))) λ_ _ x=>x)
 first
  |exact An (Af fin)
  |exact Af (An (Af fin))
  |exact Af fin
def aQD{σ:St}{o:Option V}(I:Inv X pins σ H s)(g:DGet H a y o):s.TypeIs (.ref a) "dict" := by
 rcases g with⟨kvs,k,e,_,_⟩|⟨kvs,k,b,e,_,_,_⟩
 ·obtain⟨_,_,vs,_,dd⟩:=nT I.hok e;exact dd.typeIs
 ·obtain⟨_,_,xs,_,dd⟩:=pL I.hok e;exact dd.typeIs
def dZN(td ty:TE):TE:=λσ H Q=>td σ H λx H1=>ty σ H1 λy H2=>∃a v,x=.ref a/\DGet H2 a y (some v)/\Q v H2
def dZ8(td ty tv:TE):TS:=λD σ H=>tv σ H λv H1=>td σ H1 λx H2=>ty σ H2 λy H3=>∃a H4,x=.ref a/\DPut H3 a y v H4/\D.nx σ H4
section
variable {o i value:Expr} {pos':Pos} {td ty:TE}
def gH(hu:X.A.units+1<cLine)(ho:PE X o td)(hi:PE X i ty)(hs:eJ7 i):PE X (.Subscript o i pos) (dZN td ty):=by
 intro pins s σ H Q I h;refine dQ1 PySem.F.slot_dict_getitem.lookup hs (thn (ho pins s σ H _ I h) λu s1 ⟨x,H1,I1,rx,q1⟩=>thn (hi pins s1 σ H1 _ I1 q1) λiv s2 ⟨y,H2,I2,ry,a,v,ex,g,q2⟩=>?_);subst ex;obtain rfl:u=Value.ref a:=rx;exact⟨aQD I2 g,bXB hu I2 g ry λw' s3 I3 rw'=>⟨v,H2,I3,rw',q2⟩⟩
def gM(hu:X.A.units+1<cLine)(ho:PE X o td)(hi:PE X i ty)(hv:PE X value tv)(hs:swapsWith value (some (.Subscript o i pos')) pos.line X.env=pure false):PS X (.Assign [.Subscript o i pos'] value pos) (dZ8 td ty tv):=by
 intro pins s σ H D I h;refine wpAny_Assign_Subscript (thn (hv pins s σ H _ I h) λr s1 ⟨v,H1,I1,rv,q1⟩=>thn (ho pins s1 σ H1 _ I1 q1) λu s2 ⟨x,H2,I2,rx,q2⟩=>thn (hi pins s2 σ H2 _ I2 q2) λiv s3 ⟨y,H3,I3,ry,a,H4,ex,g,q3⟩=>?_) hs;subst ex;obtain rfl:u=Value.ref a:=rx;exact bZZ hu I3 g ry rv λs4 I4=>⟨σ,H4,I4,q3⟩
end
def cQV(h:Heap)(hb:sysModules<h.objs.size):ObjOk P w H (h.push {cls:=.type "dict",data:=.dict #[]}) h.objs.size (.dK []):=
 ⟨Cy _,Ct.mpr (Ne.symm (Bc hb)),[],.nil,Heap.DictOf.new h⟩
def cZL(h:Heap)(hb:sysModules<h.objs.size):ObjOk P w H (h.push {cls:=.type "dict",data:=.dict #[]}) h.objs.size (.dT []):=
 ⟨Cy _,Ct.mpr (Ne.symm (Bc hb)),[],.nil,_,#[],0,Av _ rfl,⟨rfl,rfl,rfl⟩,rfl,rfl,List.nodup_nil⟩
def cZ1:TE:=λ_ H Q=>∀p,H p=none->Q (.ref p) (upd H p (.dK []))
def cQD:TE:=λ_ H Q=>∀p,H p=none->Q (.ref p) (upd H p (.dT []))
def rJ:PE X (.Dict [] [] pos) cZ1:=λpins s σ H Q I h=>
 wpAny_Dict_empty ⟨.ref s.heap.objs.size,_,I.laid (a:=s.heap.objs.size) (o:=.dK []) (t':=s.toks) (λ_ _ q=>Ah _ q) (Ai _) (cQV s.heap I.big),rfl,h _ (I.hok.fresh (Ai _))⟩
def zK:PE X (.Dict [] [] pos) cQD:=λpins s σ H Q I h=>
 wpAny_Dict_empty ⟨.ref s.heap.objs.size,_,I.laid (a:=s.heap.objs.size) (o:=.dT []) (t':=s.toks) (λ_ _ q=>Ah _ q) (Ai _) (cZL s.heap I.big),rfl,h _ (I.hok.fresh (Ai _))⟩
def fM(kvs more:List (Key×V)):List (Key×V):=more.foldl (λacc kv=>cX acc kv.1 kv.2) kvs
def KV.merge:∀ {more:List (Key×V)} {rs:List (Key×Value)} {kvs:List (Key×V)} {vs:List (Key×Value)},KV more rs->KV kvs vs->KV (fM kvs more) (merged vs rs):=by
 intro more rs kvs vs r;unfold KV at r;induction r generalizing kvs vs with
 |nil=>intro q;exact q
 | @cons p q ps qs h t ih=>
  intro r0;have e:KV (cX kvs p.1 p.2) (stored vs q.1 q.2):=by
   have:=r0.put p.1 h.2
   rw[<-h.1];exact this
  exact ih e
def lU:∀(more kvs:List (Key×V)),(fM kvs more).length<=kvs.length+more.length
 |[],kvs=>by show kvs.length<=kvs.length+0;omega
 |p::r,kvs=>by
  have h1:=lU r (cX kvs p.1 p.2)
  have h2:=eE kvs p.1 p.2
  show (fM (cX kvs p.1 p.2) r).length<=_
  rw[Aw];omega
def IsD(H:Hp)(a:Addr):Prop:=(∃kvs,Rd H a (.dK kvs))\/∃kvs,Rd H a (.dT kvs)
def eQS{σ:St}(I:Inv X pins σ H s)(d:IsD H a):s.TypeIs (.ref a) "dict"/\(∀b,Value.ref a=.ref b->∃ob,s.heap.get? b=some ob/\ob.dict=none)/\(a==sysModules)=false:=by
 rcases d with⟨kvs,e⟩|⟨kvs,e⟩
 ·obtain⟨_,hd,vs,_,dd⟩:=nT I.hok e;refine⟨dd.typeIs,λb q=>?_,hd⟩;cases q;obtain⟨ob,_,_,h1,h2,_⟩:=dd;exact⟨ob,h1,h2.2.1⟩
 ·obtain⟨_,hd,xs,_,dd⟩:=pL I.hok e;refine⟨dd.typeIs,λb q=>?_,hd⟩;cases q;obtain⟨ob,_,_,h1,h2,_⟩:=dd;exact⟨ob,h1,h2.2.1⟩
section
variable {σ:St} {d:V} {r:Value} {o:Option V}
def dJO{Q:Q0}(hu:A.units+1<cLine)(I:Inv X pins σ H s)(g:DGet H a y o)(ry:RelV y u)(h:∀w' s',Inv X pins σ H s'->RelV (o.getD .non) w'->Q w' s'):wpAny (model X.prog X.w) A (call (.builtin "dict.get") [.ref a,u]) Q E s:=by
 rcases g with⟨kvs,k,e,ey,l⟩|⟨kvs,k,b,e,ey,eb,l⟩
 ·subst ey;obtain⟨z,hd,vs,rel,dd⟩:=nT I.hok e;refine Hh Cg dd.typeIs Ed (Gh _ _) (meets_dict_get (bC X.prog X.w) a (pY ry) hd) ⟨_,dd.mapOf,h _ _ (I.tok _) ?_⟩;rw[l];exact(rel.val k).getD rfl
 ·subst ey;cases (show u=Value.ref b from ry);obtain⟨z,hd,xs,rel,dd⟩:=pL I.hok e;refine Hh Cg dd.typeIs Ed (Gh _ _) (meetsH_dict_get (tupleKind (bC X.prog X.w)) a b hd) ⟨Eg hu,k,xs,mO I.hok eb,dd,h _ _ (I.tok _) ?_⟩;rw[l];exact(rel.val k).getD rfl
def eZH{Q:Q0}(hu:A.units+1<cLine)(I:Inv X pins σ H s)(g:DGet H a y o)(ry:RelV y u)(rd:RelV d r)(h:∀w' s',Inv X pins σ H s'->RelV (o.getD d) w'->Q w' s'):wpAny (model X.prog X.w) A (call (.builtin "dict.get") [.ref a,u,r]) Q E s:=by
 rcases g with⟨kvs,k,e,ey,l⟩|⟨kvs,k,b,e,ey,eb,l⟩
 ·subst ey;obtain⟨z,hd,vs,rel,dd⟩:=nT I.hok e;refine Hh Cg dd.typeIs Ed (PySem.F.args_dict_get_3 _ _ _) (meets_dict_get_default (bC X.prog X.w) a (pY ry) hd r) ⟨_,dd.mapOf,h _ _ (I.tok _) ?_⟩;rw[l];exact(rel.val k).getD rd
 ·subst ey;cases (show u=Value.ref b from ry);obtain⟨z,hd,xs,rel,dd⟩:=pL I.hok e;refine Hh Cg dd.typeIs Ed (PySem.F.args_dict_get_3 _ _ _) (meetsH_dict_get_default (tupleKind (bC X.prog X.w)) a b hd r) ⟨Eg hu,k,xs,mO I.hok eb,dd,h _ _ (I.tok _) ?_⟩;rw[l];exact(rel.val k).getD rd
end
section
variable {σ:St}
def Inv.re(I:Inv X pins σ H s)(hn:∀b,H b=none->H' b=none)(tups:∀b xs,X.H₀ b=some (.tup xs)->H' b=some (.tup xs))(frzs:∀b o u,X.H₀ b=some (.frz o u)->H' b=some (.frz o u))(tbls:∀b ps,X.H₀ b=some (.tbl ps)->∃more,H' b=some (.tbl (ps++more)))(hok:HOk X.prog X.w H' s.heap):Inv X pins σ H' s:=
 ⟨I.ok,I.os,I.bare,⟨I.base.keep,I.base.slot,λb o e n hx=>hn b (I.base.free b o e n hx),I.base.there,tups,frzs,tbls⟩,I.loc,I.cell,hn _ I.free,λx c e=>hn c (I.freeC x c e),λp hp=>by
  obtain⟨a,b,c,d,e⟩:=I.pin p hp;exact⟨a,hn _ b,c,d,e⟩,hok,I.len⟩
def eJM:HO->Bool
 |.dK _=>true
 |.dT _=>true
 |_=>false
def Inv.freeze{u:HO}(I:Inv X pins σ H s)(ha:H a=some u)(hu:eJM u=true)(ho:s.heap.get? a=some o):Inv X pins σ (upd H a (.frz o u)) s:=by
 have ne:∀c v,H c=some v->eJM v=false->c≠a:=λc v q n z=>by rw[z,ha]at q;cases q;rw[n]at hu;cases hu
 have own:∀c y,H c=some (.own y)->upd H a (.frz o u) c=some (.own y):=λc y q=>by rw[aG (ne c _ q rfl)];exact q
 have tup:∀c xs,H c=some (.tup xs)->upd H a (.frz o u) c=some (.tup xs):=λc xs q=>by rw[aG (ne c _ q rfl)];exact q
 refine I.re (λb q=>by rw[aG (λz=>by rw[z,ha]at q;cases q)];exact q) (λb xs q=>tup b xs (I.base.tups b xs q)) (λb o' v q=>?_) (λb ps q=>?_) (λb v q=>?_)
 ·have:=I.base.frzs b o' v q
  rw[aG (ne b _ this rfl)];exact this
 ·obtain⟨m,e⟩:=I.base.tbls b ps q;exact⟨m,by rw[aG (ne b _ e rfl)];exact e⟩
 ·by_cases hb:b=a
  ·subst hb;rw[aE]at q;cases q;exact(show s.heap.get? b=some o/\ObjOk X.prog X.w (upd H b (.frz o u)) s.heap b u from⟨ho,(I.hok b _ ha).stay (λ_ _ _ q=>q) (λc=>own c b) tup⟩)
  ·rw[aG hb]at q;exact(I.hok b v q).stay (λ_ _ _ q=>q) (λc=>own c b) tup
def unf(Hs H:Hp):Hp:=λb=>match H b with
 |some (.frz o u)=>(match Hs b with|some (.frz _ _)=>some (.frz o u)|_=>some u)
 |x=>x
def eI{Hs:Hp}{u:HO}(h:H b=some u)(n:∀o v,u≠.frz o v):unf Hs H b=some u:=by
 unfold unf;rw[h];cases u<;>first|rfl|exact absurd rfl (n _ _)
def qZ(h:H b=none):unf Hs H b=none:=by unfold unf;rw[h]
def qO{Hs:Hp}{u:HO}(h:H b=some (.frz o u))(n:∀o v,Hs b≠some (.frz o v)):unf Hs H b=some u:=by
 unfold unf;rw[h];dsimp only;split
 ·rename_i e
  exact absurd e (n _ _)
 ·rfl
def lC{o':Obj}{u u':HO}(h:H b=some (.frz o u))(n:Hs b=some (.frz o' u')):unf Hs H b=some (.frz o u):=by
 unfold unf;rw[h];dsimp only;rw[n]
def Inv.unfreeze{Hs:Hp}(I:Inv X pins σ H s)(h0:∀b o u,X.H₀ b=some (.frz o u)->Hs b=some (.frz o u)):Inv X pins σ (unf Hs H) s:=by
 have own:∀c y,H c=some (.own y)->unf Hs H c=some (.own y):=λc y q=>eI q λ_ _ z=>by cases z
 have tup:∀c xs,H c=some (.tup xs)->unf Hs H c=some (.tup xs):=λc xs q=>eI q λ_ _ z=>by cases z
 refine I.re (λb q=>qZ q) (λb xs q=>tup b xs (I.base.tups b xs q)) (λb o u q=>lC (I.base.frzs b o u q) (h0 b o u q)) (λb ps q=>?_) (λb u q=>?_)
 ·obtain⟨m,e⟩:=I.base.tbls b ps q;exact⟨m,eI e λ_ _ z=>by cases z⟩
 ·cases e:H b with
  |none=>rw[qZ e]at q;cases q
  |some v=>
   have ok:=I.hok b v e
   by_cases hf:∃o v',v=.frz o v'
   ·obtain⟨o,v',rfl⟩:=hf;have ok2:s.heap.get? b=some o/\ObjOk X.prog X.w H s.heap b v':=ok
    by_cases hs:∃o' u',Hs b=some (.frz o' u')
    ·obtain⟨o',u',hs⟩:=hs;rw[lC e hs]at q;cases q;exact ok.stay (λ_ _ _ q=>q) (λc=>own c b) tup
    ·rw[qO e λo v z=>hs ⟨o,v,z⟩]at q;cases q;exact ok2.2.stay (λ_ _ _ q=>q) (λc=>own c b) tup
   ·rw[eI e λo v' z=>hf ⟨o,v',z⟩]at q;cases q;exact ok.stay (λ_ _ _ q=>q) (λc=>own c b) tup
def cZF(Hs:Hp)(D:Ends):Ends:=⟨λσ H=>D.nx σ (unf Hs H),λv H=>D.rt v (unf Hs H),λσ H=>D.bk σ (unf Hs H),λσ H=>D.ct σ (unf Hs H)⟩
end
def eJT(t:TE):TE:=λσ H Q=>t σ H λv H'=>Q v (unf H H')
def dZG(t:TS):TS:=λD σ H=>t (cZF H D) σ H
def bJ3{t:TE}(h:PE X e t):PE X e (eJT t):=λpins s σ H Q I q=>thn (h pins s σ H _ I q) λv s' ⟨x,H',I',r,q'⟩=>⟨x,unf H H',I'.unfreeze λb o u e=>I.base.frzs b o u e,r,q'⟩
def aZF{t:TS}(h:PS X st t):PS X st (dZG t):=λpins s σ H D I q=>thn (h pins s σ H _ I q) λf s' q'=>by
 cases f with
 |next=>obtain⟨σ',H',I',r⟩:=q';exact⟨σ',unf H H',I'.unfreeze λb o u e=>I.base.frzs b o u e,r⟩
 |brk=>obtain⟨σ',H',I',r⟩:=q';exact⟨σ',unf H H',I'.unfreeze λb o u e=>I.base.frzs b o u e,r⟩
 |cont=>obtain⟨σ',H',I',r⟩:=q';exact⟨σ',unf H H',I'.unfreeze λb o u e=>I.base.frzs b o u e,r⟩
 |ret u=>obtain⟨v,σ',H',I',rv,r⟩:=q';exact⟨v,σ',unf H H',I'.unfreeze λb o u e=>I.base.frzs b o u e,rv,r⟩
def fQQ{t:TE}{σ:St}(h:t σ H λv H'=>Q v (unf H H')):eJT t σ H Q:=h
def eQP{t:TS}{σ:St}(h:t (cZF H D) σ H):dZG t D σ H:=h
def tH{u:HO}(ha:Hs a=some u)(hu:∀o v,u≠.frz o v)(h:Same (upd Hs a (.frz o u)) H):Same Hs (unf Hs H):=λb v q=>by
 by_cases e:b=a
 ·subst e;rw[ha]at q;cases q;exact qO (h _ _ aE) λo v z=>by rw[ha]at z;cases z;exact hu _ _ rfl
 ·have:=h b v (by rw[aG e];exact q)
  by_cases hf:∃o v',v=.frz o v'
  ·obtain⟨o',v',rfl⟩:=hf;exact lC this q
  ·exact eI this λo v' z=>hf ⟨o,v',z⟩
def bZT(h:Same Hs H):Same Hs (unf Hs H):=λb v q=>by
 have:=h b v q
 by_cases hf:∃o v',v=.frz o v'
 ·obtain⟨o',v',rfl⟩:=hf;exact lC this q
 ·exact eI this λo v' z=>hf ⟨o,v',z⟩
def tB{β:Type}{R:α->β->Prop}{xs:List α}{ys:List β}(r:Paired R xs ys):∀ {i:Nat} {x:α},xs[i]?=some x->∃y,ys[i]?=some y/\R x y:=by
 induction r with
 |nil=>intro i x h;cases h
 |cons h t ih=>
  intro i x hx;cases i with
  |zero=>cases hx;exact⟨_,rfl,h⟩
  |succ i=>exact ih (i:=i) hx
def eJE{k:Key}(h:(bC P w).is k u=true):RelV (kV k) u:=by
 rcases bS h with⟨i,t,rfl,rfl⟩|⟨x,t,rfl,rfl⟩
 ·exact⟨t,rfl⟩
 ·exact⟨t,rfl⟩
def Itd(a:Addr)(o:Obj)(kvs:List (Key×V)):It:=⟨λi H=>H a=some (.frz o (.dK kvs))/\i<kvs.length,λi H x H'=>H'=H/\∃kv,kvs[i]?=some kv/\x=kV kv.1,λi H=>H a=some (.frz o (.dK kvs))/\kvs.length=i⟩
def aJE{σ:St}(I:Inv X pins σ H s)(ha:H a=some (.frz o (.dK kvs)))(hep:∃es,o.data=.dict es ep):kvs.length<=sizeLine/\(a==sysModules)=false/\∃vs,KV kvs vs/\s.heap.DictAt (bC X.prog X.w) a vs ep:=by
 have ok:s.heap.get? a=some o/\(kvs.length<=sizeLine/\(a==sysModules)=false/\∃vs,KV kvs vs/\s.heap.DictOf (bC X.prog X.w) a vs):=I.hok a _ ha
 obtain⟨e,z,hd,vs,rel,o',es',ep',ho',hx,hdat,r⟩:=ok;rw[e]at ho';cases ho';obtain⟨es,hes⟩:=hep;have q:=hdat
 rw[hes]at q;cases q;exact⟨z,hd,vs,rel,o,_,e,hx,hdat,r⟩
def bXW(a it:Addr)(o:Obj)(kvs:List (Key×V))(ep:Nat)(hep:∃es,o.data=.dict es ep):Turn P w K tg (Itd a o kvs) [it] it (λi h=>h.IsKeyIter it a i kvs.length ep) where
 mem:=by simp
 obj:=λi h st b hb=>by
  have e:b=it:=by simpa using hb
  subst e;obtain⟨o,e,c,d⟩:=st;exact⟨o,e,λv z=>by rw[d]at z;cases z⟩
 keep:=λi h h' st k=>let ⟨o,ho,r⟩:=st;⟨o,k it (by simp) o ho,r⟩
 item:=by
  intro X hP hw hK hc i pins s σ H E I hf st hg;subst hP hw hK;obtain⟨ha,hi⟩:=hg;obtain⟨z,hd,vs,rel,dd⟩:=aJE I ha hep;have hlv:=rel.length
  obtain⟨f0,f1,f2,f3,f4,f5⟩:=hf it (by simp)
  obtain⟨⟨k,v⟩,hx,hk1,_⟩:=tB rel (Aa hi);refine wpAny_pyNext_dict_item (knd:=bC X.prog X.w) (by rw[<-hlv];exact st) dd hx λkey h' hk st' sb=>?_
  have I1:Inv X pins σ H {s with heap:=h'}:=I.turned (t':=s.toks) (λb o hb e=>(sb.2 b hb).trans e) f0 f1 f3 f4 f5
  obtain⟨oi,e,c,d⟩:=id st';refine⟨key,rfl,qY (s:={s with heap:=h'}) e c d (by decide) ⟨kV k,H,I1,eJE hk,⟨rfl,kvs[i],Aa hi,by rw[hk1]⟩,?_,λb hb=>(hf b hb).1⟩⟩
  rw[hlv];exact st'
 done:=by
  intro X hP hw hK hc i pins s σ H E I hf st hg;subst hP hw hK;obtain⟨ha,hi⟩:=hg;obtain⟨z,hd,vs,rel,dd⟩:=aJE I ha hep;have hlv:=rel.length
  obtain⟨f0,f1,f2,f3,f4,f5⟩:=hf it (by simp)
  exact wpAny_pyNext_dict_end (knd:=bC X.prog X.w) (I.ok.hd hc) (by rw[<-hlv];exact st) dd (Fi (by omega)) λh' eb=>⟨rfl,I.turned (t':=s.toks) (λb o hb e=>eb b o hb e) f0 f1 f3 f4 f5⟩
 self:=λ_ _ _ _ _ st h=>wpAny_pyIter_keyiter st h
def cXE{σ:St}(I:Inv X pins σ H s)(ha:H a=some (.dK kvs)):∃o es ep,s.heap.get? a=some o/\o.data=.dict es ep:=by
 obtain⟨_,_,vs,_,o,es,ep,ho,_,hd,_⟩:=dZJ I.hok ha;exact⟨o,es,ep,ho,hd⟩
def cJ4{σ:St}(I:Inv X pins σ H s)(ha:H a=some (.frz o (.dK kvs))):∃ep,∃es,o.data=.dict es ep:=by
 have ok:s.heap.get? a=some o/\(kvs.length<=sizeLine/\(a==sysModules)=false/\∃vs,KV kvs vs/\s.heap.DictOf (bC X.prog X.w) a vs):=I.hok a _ ha
 obtain⟨e,_,_,vs,_,o',es,ep,ho,_,hd,_⟩:=ok;rw[e]at ho;cases ho;exact⟨ep,es,hd⟩
def yH(H:Hp)(a:Addr)(R:Obj->List (Key×V)->Hp->Prop):Prop:=(∃kvs,H a=some (.dK kvs)/\∀o,R o kvs (upd H a (.frz o (.dK kvs))))\/∃o kvs,H a=some (.frz o (.dK kvs))/\R o kvs H
def walk_at{σ:St}{R:Obj->List (Key×V)->Hp->Prop}(I:Inv X pins σ H s)(h:yH H a R):∃o kvs H' ep,Inv X pins σ H' s/\H' a=some (.frz o (.dK kvs))/\(∃es,o.data=.dict es ep)/\R o kvs H':=by
 rcases h with⟨kvs,ha,q⟩|⟨o,kvs,ha,q⟩
 ·obtain⟨o,es,ep,ho,hd⟩:=cXE I ha;exact⟨o,kvs,_,ep,I.freeze ha rfl ho,aE,⟨es,hd⟩,q o⟩
 ·obtain⟨ep,es,hd⟩:=cJ4 I ha;exact⟨o,kvs,H,ep,I,ha,⟨es,hd⟩,q⟩
def dZX(tl:TE):TI:=λσ H R=>tl σ H (gI λa H1=>yH H1 a λo kvs H2=>R (Itd a o kvs) H2)
def dQ3(hl:PE X l tl):PI X tg l (dZX tl):=by
 intro pins s σ H R I h;refine thn (hl pins s σ H _ I h) λv s1 ⟨x,H1,I1,r1,q1⟩=>?_;unfold gI at q1;split at q1
 ·cases r1;rename_i a0 _
  obtain⟨o,kvs,H2,ep,I2,ha,hep,q⟩:=walk_at I1 q1;obtain⟨z,hd,vs,rel,dd⟩:=aJE I2 ha hep;refine wpAny_pyIter_dict (knd:=bC X.prog X.w) hd dd ?_;refine⟨s1.heap.objs.size,[s1.heap.objs.size],_,_,H2,rfl,I2.kept (t':=s1.toks) λb o e=>Ah _ e,bXW a0 _ o kvs ep hep,⟨_,Av _ rfl,rfl,by rw[rel.length];rfl⟩,λb hb=>?_,q⟩
  have e:b=s1.heap.objs.size:=by simpa using hb
  subst e;exact I2.fpOk (Ai _) (I2.hok.fresh (Ai _))
 ·exact q1.elim
def isD(H:Hp)(p:Addr):Bool:=match H p with
 |some (.dK _)=>true
 |some (.dT _)=>true
 |some (.frz _ (.dK _))=>true
 |some (.frz _ (.dT _))=>true
 |_=>false
def dJ8{p:Addr}(h:isD H p=true):IsD H p:=by
 unfold isD at h;split at h
 ·exact .inl ⟨_,.inl (by assumption)⟩
 ·exact .inr ⟨_,.inl (by assumption)⟩
 ·exact .inl ⟨_,.inr ⟨_,by assumption⟩⟩
 ·exact .inr ⟨_,.inr ⟨_,by assumption⟩⟩
 ·cases h
def oX{p:Addr}(h:H p=some (.dK kvs)):isD H p=true:=by unfold isD;rw[h]
def cQS{p:Addr}(h:H p=some (.frz o (.dK kvs))):isD H p=true:=by unfold isD;rw[h]
section
variable {σ:St}
def dQI(h:tl σ H (gI λa H1=>yH H1 a λo kvs H2=>R (Itd a o kvs) H2)):dZX tl σ H R:=h
def eXP{Rw:Obj->List (Key×V)->Hp->Prop}(e:H a=some (.dK kvs))(h:∀o,Rw o kvs (upd H a (.frz o (.dK kvs)))):yH H a Rw:=.inl ⟨kvs,e,h⟩
end
section
variable {o:Expr} {id:String}
def cJD(r:V->List V->Hp->VK->Prop)(to:TE)(t:TA):TE:=λσ H Q=>to σ H (gI λp H1=>isD H1 p=true/\t σ H1 λxs H2=>r (.ref p) xs H2 Q)
def hX(slot:Slot "dict" name id)(hty:typeOf (.builtin id)=pure (.type "method_descriptor"))(hm:MtR X id r)(ho:PE X o to)(ha:PA X (e::es) t)(hbase:attributeBase o name X.env (eval o X.env)=eval o X.env:=by rfl)(hfew:((backTo cpos (starEach (e::es) X.env)).all (λx=>!x.1)&&(backToKw cpos (keywordEach [] X.env)).all (λx=>x.1.isSome)
 && decide ((e::es).length+([]:List Keyword).length+(if ([]:List Keyword).isEmpty then 0 else 1)<30))=true:=by rfl)(hline:(apos.endLine==cpos.line)=true:=by rfl)(hs:starEach (e::es) X.env=(false,eval e X.env)::starEach es X.env:=by rfl)(hplain:(backTo cpos (starEach es X.env)).any (·.1)=false:=by rfl):PE X (.Call (.Attribute o name apos) (e::es) [] cpos) (cJD r to t):=by
 intro pins s σ H Q I h;refine Gk hbase hfew hline rfl (thn (ho pins s σ H _ I h) λv s1 ⟨x,H1,I1,r1,q⟩=>?_);unfold gI at q;split at q
 ·obtain⟨hd,q1⟩:=q;obtain⟨h1,h2,_⟩:=eQS I1 (dJ8 hd);cases _root_.id r1;refine⟨"dict",_,PySem.F.plainAttrs_dict,slot,hty,h1,h2,?_⟩;have hA:=ha cpos pins s1 σ H1 _ I1 q1
  rw[hs]at hA ⊢;refine Gm (by show (false || (backTo cpos (starEach es X.env)).any (·.1))=false;rw[hplain]<;>rfl) (Ft ?_)
  exact thn hA λus s2 ⟨vs,H2,I2,r2,q2⟩=>hm pins s2 σ H2 _ vs _ us Q I2 r1 r2 q2
 ·exact q.elim
def eJ6:V->List V->Hp->VK->Prop:=λx vs H Q=>∃a y z o,x=.ref a/\vs=[y,z]/\DGet H a y o/\Q (o.getD z) H
def aJ7(hu:X.A.units+1<cLine):MtR X "dict.get" eJ6:=by
 intro pins s σ H x vs v us Q I rx rv h;obtain⟨a,y,z,ov,rfl,rfl,g,q⟩:=h;cases rx;obtain⟨u,w',rfl,ru,rw'⟩:=aJO rv;exact eZH hu I g ru rw' λw1 s1 I1 r1=>⟨_,H,I1,r1,q⟩
def eZB(x y:V)(H:Hp)(Q:VK):Prop:=∃a v,x=.ref a/\DGet H a y (some v)/\Q v H
def cZV(D:Ends)(σ:St)(x y v:V)(H:Hp):Prop:=∃a H4,x=.ref a/\DPut H a y v H4/\D.nx σ H4
end
section
variable {σ:St} {w:V} {td ty:TE}
def cJ8(h:to σ H (gI λp H1=>isD H1 p=true/\t σ H1 λxs H2=>r (.ref p) xs H2 Q)):cJD r to t σ H Q:=h
def eJB{P:Prop}(e:isD H a=true)(h:P):isD H a=true/\P:=⟨e,h⟩
def bQY(e:Rd H a (.dK kvs))(h:Q ((bT kvs (Sum.inr z)).getD w) H):eJ6 (.ref a) [.str z,w] H Q:=⟨a,.str z,w,_,rfl,rfl,.inl ⟨kvs,.inr z,e,rfl,rfl⟩,h⟩
def dJL(h:∀p,H p=none->Q (.ref p) (upd H p (.dK []))):cZ1 σ H Q:=h
def eJ9(h:td σ H λx H1=>ty σ H1 λy H2=>eZB x y H2 Q):dZN td ty σ H Q:=h
def tO(e:Rd H a (.dK kvs))(l:bT kvs (Sum.inr z)=some v)(h:Q v H):eZB (.ref a) (.str z) H Q:=⟨a,v,rfl,.inl ⟨kvs,.inr z,e,rfl,l.symm⟩,h⟩
def eQ8(h:tv σ H λv H1=>td σ H1 λx H2=>ty σ H2 λy H3=>cZV D σ x y v H3):dZ8 td ty tv D σ H:=h
def lD(e:H a=some (.dK kvs))(l:kvs.length<sizeLine)(h:D.nx σ (upd H a (.dK (cX kvs (Sum.inr z) v)))):cZV D σ (.ref a) (.str z) v H:=⟨a,_,rfl,.inl ⟨kvs,.inr z,e,rfl,l,rfl⟩,h⟩
end
section
open PySem.AutoSeq1 (wpAny_loadPart')
open PySem.MeetsSeq PySem.MeetsSeq2 PySem.MeetsSeq3
def Room.u1{k:Nat}(r:Room k A):A.units+1<cLine:=by have:=r.un;omega
end
section
open PySem.AutoSeq1 (wpAny_loadPart')
def dXL:typeLookup (.type "list") "keys"=pure none:=by rw[typeLookup_type,builtinLookup_eq_fast];kernel_rfl
def bJA{xs:Array Value}{k:Nat}{sl:Array (Option Value)}{Q:Option Value->Shared->Prop}(hx:s.heap.get? a=some ⟨.type "list",none,.seq xs k,sl⟩)(hA:A.handled=none)(h:∀h' tk,(∀b o,s.heap.get? b=some o->h'.get? b=some o)->Q none {s with heap:=h',toks:=tk}):wpAny (model prog w) A (getAttr? (.ref a) "keys") Q E s:=by
 obtain⟨hp,g,d,tk,os⟩:=s;have hT:∀tk',(⟨hp,g,d,tk',os⟩:Shared).TypeIs (.ref a) "list" := λ_=>⟨_,hx,rfl⟩
 have f1:=sub_AttributeError
 have f3:=PySem.F.slot_list_getattribute.lookup
 have f4:=PySem.F.slot_list_getattribute.bind (.ref a)
 have f5:=am_list_getattr_none
 unfold getAttr? getAttrBy? getAttrBy;repeat (any_goals (first|assumption|exact hT _|((with_reducible show wpAny _ _ (call (Value.builtin "list.__getattribute__") _ _) _ _ _);refine Fa PySem.F.slot_list_getattribute (hT _) am_entry_list_getattribute (PySem.F.args_list_getattribute_2 _ _) (meets_getattribute_miss_list a xs k sl "keys" _ dXL (by decide +kernel) (by decide)) ⟨hx,hA,λh' tk' e hx'=>?_⟩)|wp_step))
 obtain⟨t',u',he⟩:=hx'.there;show wpAny _ _ (getattributeRaised _ _ _ _ _ _ _) _ _ _
 unfold getattributeRaised;repeat (any_goals (first|assumption|wp_step))
 exact h _ _ hx'.keeps
def bX9{t:Addr}{xs:Array Value}{Q:Option (Array Value)->Shared->Prop}(h:s.heap.IsTuple t xs)(q:Q (some xs) s):wpAny (model prog w) A (seqItems? (.ref t)) Q E s:=by
 obtain⟨o,ho,hc,n,hd⟩:=h;unfold seqItems?;refine Af (wpAny_load ho ?_);rw[hd];exact An q
def eK:plainId "dict.update.loop"=true:=by decide +kernel
def jY:entryFor table "dict.update.loop"=some Builtin.«dict.update.loop» := entryFor_of_tree (by kernel_rfl)
def cQN{K:Type}[DecidableEq K]{knd:PySem.KeyKind P w K}(d I l:Addr)(its:Array Value)(ps:List (K×Value))(hpl:ps.length=its.size)(hdI:d≠I)(hlI:l≠I)(hld:l≠d)(k:Nat):∀i:Nat,its.size-i=k->i<=its.size->∀kvs:List (K×Value),kvs.length+k<=sizeLine->MeetsIn P w (Builtin.«dict.update.loop» ⟨[.ref d,.ref I,rawInt i,.none],[]⟩)
 (λA R s=>A.handled=none/\s.heap.IsListIter I l i/\s.heap.IsList l its/\s.heap.DictOf knd d kvs/\
  (∀j (h:j<its.size),∃t key val k',its[j]=.ref t/\t≠I/\t≠d/\s.heap.IsTuple t #[key,val]/\ps[j]?=some (k',val)/\knd.is k' key=true)/\
  ∀h' tk,(∀b o,b≠I->b≠d->s.heap.get? b=some o->h'.get? b=some o)->h'.DictOf knd d (merged kvs (ps.drop i))->R (.ok (.ret .none)) {s with heap:=h',toks:=tk}):=by
 induction k with
 |zero=>
  intro i hk hi kvs hz A R s h;obtain⟨hA,hit,hl,hd,hp,h⟩:=h;unfold Builtin.«dict.update.loop»;dsimp only[rawInt];refine wpAny_bind (wpAny_pyNext_list_end (show A.in1.handled=none from hA) hit hl (by simp;omega) λh' eb=>?_)
  dsimp only;unfold Builtin.Dict.addKeywords;refine Af (An (An ?_));refine h h' s.toks (λb o hb _ e=>eb b o hb e) ?_;obtain⟨o,es,ep,ho,r⟩:=hd;rw[Gr (by omega)]
  exact⟨o,es,ep,eb d o hdI ho,r⟩
 |succ k ih=>
  intro i hk hi kvs hz A R s h;obtain⟨hA,hit,hl,hd,hp,h⟩:=h;unfold Builtin.«dict.update.loop»;dsimp only[rawInt];have hlt:i<its.size:=by omega
  obtain⟨t,key,val,k',et,htI,htd,hT,hps,hk'⟩:=hp i hlt;refine wpAny_bind (wpAny_pyNext_list_item hit hl (x:=its[i]) (by simp[hlt]) λh' st' sb=>?_)
  dsimp only;rw[et];have hT':h'.IsTuple t #[key,val]:=by
   obtain⟨o,ho,r⟩:=hT;exact⟨o,(sb.2 t htI).trans ho,r⟩
  have hd':h'.DictOf knd d kvs:=by
   obtain⟨o,es,ep,ho,r⟩:=hd;exact⟨o,es,ep,(sb.2 d hdI).trans ho,r⟩
  refine Af (Cm (Af (Ew ?_)));unfold Builtin.Dict.pairItems;refine Af (wpAny_typeOf (T := "tuple") (s:={s with heap:=h'}) (by obtain⟨o,ho,hc,_⟩:=id hT';exact⟨o,ho,hc⟩) ?_)
  rw[if_pos (by decide)]
  obtain⟨o,ho,hc,n,hdt⟩:=id hT';refine Af (bX9 (s:={s with heap:=h'}) hT' ?_)
  refine An ?_;dsimp only[Option.getD];refine Cm (wpAny_dictSet_pairs (s:={s with heap:=h'}) (knd:=knd) hk' hd' (λh2 hd2 sb2=>?_) (by omega))
  refine An ?_;rw[show ((i:Int)+1)=((i+1:Nat):Int) by push_cast;rfl]
  refine⟨Ga eK _,Fd jY ?_⟩;rw[Ej eK _];have hst:(stored kvs k' val).length<=kvs.length+1:=by
   unfold stored;split
   ·rw[Ab];omega
   ·rw[Ag];exact Ai _
  refine ih (i+1) (by omega) (by omega) (stored kvs k' val) (by omega) A R _ ⟨hA,?_,?_,hd2,λj hj=>?_,λh3 tk hk3 hd3=>?_⟩
  ·obtain⟨oi,hoi,r⟩:=st';exact⟨oi,(sb2.2 I (Ne.symm hdI)).trans hoi,r⟩
  ·obtain⟨ol,hol,r⟩:=hl;exact⟨ol,(sb2.2 l hld).trans ((sb.2 l hlI).trans hol),r⟩
  ·obtain⟨t2,key2,val2,k2,e2,n2,n3,⟨o2,ho2,r2⟩,p2,q2⟩:=hp j hj;exact⟨t2,key2,val2,k2,e2,n2,n3,⟨o2,(sb2.2 t2 n3).trans ((sb.2 t2 n2).trans ho2),r2⟩,p2,q2⟩
  ·refine h h3 tk (λb o hb1 hb2 e=>hk3 b o hb1 hb2 ((sb2.2 b hb2).trans ((sb.2 b hb1).trans e))) ?_;have hdr:ps.drop i=(k',val)::ps.drop (i+1):=by
    have hi':i<ps.length:=by omega
    rw[List.drop_eq_getElem_cons hi'];have:=Aa hi'
    rw[hps]at this;rw[<-Bg this]
   rw[hdr];exact hd3
def qA{K:Type}[DecidableEq K]{knd:PySem.KeyKind prog w K}{l:Addr}{its:Array Value}{ps:List (K×Value)}{Q:Q0}(hx:s.heap.get? l=some ⟨.type "list",none,.seq its n,#[]⟩)(hA:A.handled=none)(hpl:ps.length=its.size)(hz:its.size<=sizeLine)(hp:∀j (h:j<its.size),∃t key val k',its[j]=.ref t/\s.heap.IsTuple t #[key,val]/\ps[j]?=some (k',val)/\knd.is k' key=true)(h:∀h' tk,h'.DictOf knd s.heap.objs.size (merged [] ps)->(∀b o,s.heap.get? b=some o->h'.get? b=some o)->Q (.ref s.heap.objs.size) {s with heap:=h',toks:=tk}):wpAny (model prog w) A (call (.type "dict") [.ref l]) Q E s:=by
 refine callType_codes (Q₁:=λob s1=>ob=.ref s.heap.objs.size/\s1={s with heap:=s.heap.push {cls:=.type "dict",data:=.dict #[]}}) PySem.F.kt_called_dict (PySem.F.kt_typeCall_dict_1 _) PySem.F.entry_dict_init (kt_code_dict_new _ ⟨rfl,rfl⟩) ?_
 rintro ob s1 ⟨rfl,rfl⟩;have hnw:(s.heap.push {cls:=.type "dict",data:=.dict #[]}).DictOf knd s.heap.objs.size []:=Heap.DictOf.new s.heap
 have hlx:(s.heap.push {cls:=.type "dict",data:=.dict #[]}).get? l=some ⟨.type "list",none,.seq its n,#[]⟩:=Ah _ hx
 have hlt:l<s.heap.objs.size:=As hx
 refine⟨hnw.typeIs,PySem.F.args_dict_init_2 _ _,?_⟩;unfold Builtin.«dict.__init__» Builtin.Dict.selfAndRest;refine Af (Af (wpAny_notOrdered_dict hnw.typeIs (show wpAny _ _ (pure (s.heap.objs.size,[Value.ref l])) _ _ _ from An ?_)));show wpAny _ _ (Builtin.Dict.updateFrom "dict.__init__" s.heap.objs.size (.ref l) [] .none) _ _ _
 unfold Builtin.Dict.updateFrom;refine Af (wpAny_typeOf (T := "list") ⟨_,hlx,rfl⟩ ?_);rw[if_pos (by decide)]
 refine Af (bJA (s:={s with heap:=s.heap.push {cls:=.type "dict",data:=.dict #[]}}) hlx (show A.in1.in1.handled=none from hA) λh1 tk1 k1=>?_)
 rw[if_pos (show (none:Option Value).isNone=true from rfl)];refine Af (wpAny_rule ?_);have hl1:h1.IsList l its:=⟨_,k1 _ _ hlx,rfl,n,rfl⟩
 refine Af (Dr (s:={s with heap:=h1,toks:=tk1}) hl1 ?_)
 refine An ⟨Ga eK _,Fd jY ?_⟩;rw[Ej eK _];have hd1:h1.DictOf knd s.heap.objs.size []:=by
  obtain⟨o,es,ep,ho,r⟩:=hnw;exact⟨o,es,ep,k1 _ _ ho,r⟩
 have hdl:s.heap.objs.size<h1.objs.size:=by
  obtain⟨o,_,_,ho,_⟩:=hd1;exact As ho
 have kk:∀b o,s.heap.get? b=some o->(h1.push {cls:=.type "list_iterator",data:=.fields #[.ref l,.int 0 0]}).get? b=some o:=λb o e=>Ah _ (k1 _ _ (Ah _ e))
 refine cQN (knd:=knd) s.heap.objs.size h1.objs.size l its ps hpl (Bc hdl) (Bc (Nat.lt_trans hlt hdl)) (Bc hlt) _ 0 rfl (Cy _) [] (by show 0+its.size<=_;omega) A.in1 _ _ ⟨hA,⟨_,Av _ rfl,rfl,rfl⟩,hl1.push _,hd1.push _,λj hj=>?_,λh' tk k2 d2=>⟨rfl,?_⟩⟩
 ·obtain⟨t,key,val,k',e,⟨ot,hot,r⟩,p,q⟩:=hp j hj;have ltt:=As hot
  exact⟨t,key,val,k',e,Bc (Nat.lt_trans ltt hdl),Bc ltt,⟨ot,kk _ _ hot,r⟩,p,q⟩
 ·exact h h' tk d2 λb o e=>k2 b o (Bc (Nat.lt_trans (As e) hdl)) (Bc (As e)) (kk b o e)
def xM(H:Hp)(qs:List Addr)(kvs:List (Key×V)):Prop:=qs.length=kvs.length/\∀(j:Nat) q kv,qs[j]?=some q->kvs[j]?=some kv->H q=some (.tup [kV kv.1,kv.2])
def sW:List V->Hp->VK->Prop:=λxs H Q=>∃(p:Addr) (qs:List Addr) (kvs:List (Key×V)),xs=[.ref p]/\H p=some (.lst (qs.map V.ref))/\xM H qs kvs/\∀r,H r=none->Q (.ref r) (upd H r (.dK (fM [] kvs)))
def wK{σ:St}(I:Inv X pins σ H s):∀(kvs:List (Key×V)) (qs:List Addr),xM H qs kvs->∃rs:List (Key×Value),KV kvs rs/\∀(j:Nat) q,qs[j]?=some q->∃key val k',s.heap.IsTuple q #[key,val]/\rs[j]?=some (k',val)/\(bC X.prog X.w).is k' key=true
 | [],qs,h=>⟨[],.nil,λj q hq=>by
     have:=(Ad.mp hq).1
     rw[h.1]at this;exact absurd this (Gd _)⟩
 |kv::r,qs,h=>by
  cases qs with
  |nil=>exact absurd h.1 (by simp)
  |cons q qr=>
   obtain⟨rs,rel,hr⟩:=wK I r qr ⟨by have:=h.1;simpa using this,λj q' kv' hq hk=>h.2 (j+1) q' kv' (by simpa using hq) (by simpa using hk)⟩
   have ht:=h.2 0 q kv rfl rfl
   obtain⟨its,rv,pl,_⟩:=I.tuple (SqT.of (K:=X.K) ht);obtain⟨key,val,rfl,r1,r2⟩:=aJO rv;refine⟨(kv.1,val)::rs,.cons ⟨rfl,r2⟩ rel,λj q' hq=>?_⟩;cases j with
   |zero=>
    cases hq;exact⟨key,val,kv.1,pl,rfl,pY r1⟩
   |succ j=>exact hr j q' (by simpa using hq)
def zI(hc:X.calm=true):CallR X (.type "dict") sW:=by
 intro pins s σ H xs us Q I r h;obtain⟨p,qs,kvs,rfl,hp,pa,q⟩:=h;obtain⟨u,rfl,ru⟩:=dA r;cases ru;obtain⟨hz,its,n,rv,hx⟩:(qs.map V.ref).length<=sizeLine/\∃(its:List Value) (n:Nat),Vals (qs.map V.ref) its/\s.heap.get? p=some {cls:=.type "list",data:=.seq its.toArray n}:=I.hok p _ hp;obtain⟨rs,rel,hr⟩:=wK I kvs qs pa;have hl:=rv.length
 have hrl:=rel.length
 have hpk:=pa.1
 rw[Ab]at hl hz;refine qA (knd:=bC X.prog X.w) (ps:=rs) hx (I.ok.hd hc) (by rw[Az];omega) (by rw[Az];omega) (λj hj=>?_) (λh' tk dd kk=>?_)
 ·have hj':j<its.length:=by simpa using hj
  have hjq:j<qs.length:=by omega
  obtain⟨u,hu,ru⟩:=rv.get (show (qs.map V.ref)[j]?=some (.ref qs[j]) by rw[Ae,Aa hjq];rfl)
  obtain⟨key,val,k',a1,a2,a3⟩:=hr j _ (Aa hjq);rw[Aa hj']at hu;have ee:=Bg hu
  exact⟨qs[j],key,val,k',by simpa using ee.trans ru,a1,a2,a3⟩
 ·refine⟨.ref s.heap.objs.size,_,I.laid (a:=s.heap.objs.size) (o:=.dK (fM [] kvs)) (t':=tk) kk (Ai _) (cZH (by have:=lU kvs [];rw[List.length_nil]at this;omega) (Ct.mpr (Ne.symm (Bc I.big))) (KV.merge rel .nil) dd),rfl,q _ (I.hok.fresh (Ai _))⟩
def yX{p:Addr}{qs:List Addr}{kvs:List (Key×V)}(hp:H p=some (.lst (qs.map V.ref)))(pa:xM H qs kvs)(h:∀r,H r=none->Q (.ref r) (upd H r (.dK (fM [] kvs)))):sW [.ref p] H Q:=⟨p,qs,kvs,rfl,hp,pa,h⟩
def yU:∀ {xs:List V} {us:List Value},us.length=xs.length->(∀(j:Nat) x u,xs[j]?=some x->us[j]?=some u->RelV x u)->Vals xs us
 |[],[],_,_=>.nil
 |x::r,u::t,hl,h=>.cons (h 0 x u rfl rfl) (yU (by simpa using hl) λj x' u' a b=>h (j+1) x' u' (by simpa using a) (by simpa using b))
 |[],_::_,hl,_=>absurd hl (by simp)
 |_::_,[],hl,_=>absurd hl (by simp)
end
section
open PySem.W
section
variable {K:Frag} {x D:Addr} {ox:Obj} {od:Option Obj}
def bJO{e t0:Addr}{vs:Array Value}{rest:List Value}{Q:Q0}(Z:ExK K D)(X:K.In s.heap)(I:InstAt s.heap e oe D od)(hb:W.subIn K (.ref D) (.type "ValueError")=some true)(hd:oe.data=.fields vs)(h0:vs[0]?=some (.ref t0))(hr:rest.length<=sizeLine)(h:Q .none {s with heap:=(s.heap.push {cls:=.type "tuple",data:=.seq rest.toArray}).update e (Obj.mapFields (·.setIfInBounds 0 (.ref s.heap.objs.size)))}):wpAny (model prog w) A (call (.builtin "ValueError.__init__") (.ref e::rest)) Q E s:=by
 have he:=I.at_
 obtain⟨cd,hc,_⟩:=any_some Z.cls;have FB:=Ds
 have L0:=I.type (M:=model prog w)
 have L1:=looks_subIn (M:=model prog w) X hb
 refine Ge (Fu FB.init.plain FB.initEntry ?_);have ck:∀(Q:Unit->Shared->Prop) (E:Q0) (B:Around),Q () s->wpAny (model prog w) B (checkBuiltinCall "ValueError.__init__" ⟨.ref e::rest,[]⟩) Q E s:=λQ E B hq=>by
  simp only[checkBuiltinCall,FB.initKind,FB.initSplit,FB.initRow];refine Af ((L0.andThen L1).at ?_);have hst:=FB.noStar
  have sg:∀(a b:String) (n:Nat),Bind.check ⟨.positional, "*", "ValueError",.self,[⟨"args",.varPos,false⟩]⟩ a b n (List.map (λx=>x.fst) ({pos:=Value.ref e::rest}:Args).kw)=pure ():=λa b n=>check_star_args _ _ _ _ _ _
  repeat (first|wp_step)
  rw[I.cls];refine Af ((looks_clsIn X hc).at (An ?_));repeat (first|wp_step)
  refine wpAny_onRaise ?_;rw[sg];exact An hq
 refine ck _ _ _ ?_;have hs0:0<vs.size:=(Df.mp h0).1
 have hg:=Ah (h:=s.heap) {cls:=.type "tuple",data:=.seq rest.toArray} he
 unfold Builtin.«BaseException.__init__» newTuple Builtin.BaseException.bexcPut;dsimp only;rw[if_neg (by simp)]
 refine Af (Gp (Af (Af (wpAny_field hg hd h0 (Af (wpAny_setField hg hd hs0 (wpAny_letGo (An h))))))) (by show rest.toArray.size<=sizeLine;rw[Az];exact hr))
def aXU(K:Frag)(D:Addr):Option (List Value):=(clsIn K D).map (·.mro)
def aQT{T:Addr}{v:Value}{h1:Heap}{m:Q5}{ns:List Str}{Q:Unit->Shared->Prop}(Z:ExK K D)(X:K.In s.heap)(I:InstAt s.heap x ox D od)(hs:findIn K (.ref D) "__setattr__"=some (some (.builtin "object.__setattr__")))(hm:aXU K D=some [.ref D,.ref T,.type "ValueError",.type "Exception",.type "BaseException",.type "object"])(hna:findIn K (.ref D) name=some none)(hi:∀(B:Around) (Q':Option Addr->Shared->Prop) (E':Q0),Q' (some dx) {s with heap:=h1,toks:=s.toks+1}->wpAny (model prog w) B (instanceDict x true) Q' E' {s with toks:=s.toks+1})(hn:h1.Ns1 dx m)(hw:Within m ns)(hz:ns.length<sizeLine)(h:∀h' tk',h'.Ns1 dx (λy=>if y=name then some v else m y)->Heap.SameBut dx h1 h'->Q () {s with heap:=h',toks:=tk'}):wpAny (model prog w) A (setAttr (.ref x) name v) Q E s:=by
 obtain⟨cd,hc,hd'⟩:=any_some Z.cls;have hmr:cd.mro=[.ref D,.ref T,.type "ValueError",.type "Exception",.type "BaseException",.type "object"]:=by
  unfold aXU at hm;rw[hc]at hm;exact Bg hm
 have SF:=PySem.F.store_ValueError
 have sub:Looks (model prog w) s.heap (isInstance (.ref x) (.type "object")) true:=I.type.andThen (looks_mroIn X Z.mo)
 have hmm:Looks (model prog w) s.heap (mroOf (.ref D)) cd.mro:=(looks_clsIn X hc).andThen .now
 have hx:=I.at_
 refine set_plain X I hs ?_;refine Fu SF.slot.plain SF.entry (@check_slot (model prog w) _ _ {s with toks:=s.toks+1} "object.__setattr__" "object" "__setattr__" (.ref x) [.str name s.toks,v] [] _ SF.kind SF.split sub (SF.args (.ref x) (.str name s.toks) v) ?_)
 rw[osa_eq,refuse_eq];refine Af (Af (I.type.here (s:={s with toks:=s.toks+1}) (Af (hmm.here (s:={s with toks:=s.toks+1}) ?_))))
 rw[hmr,refuseLoop_ref,refuseLoop_ref,SF.passes];refine An (Af (I.type.here (s:={s with toks:=s.toks+1}) (Af ((looks_findIn X hna).here (s:={s with toks:=s.toks+1}) (Af (An ?_))))))
 show wpAny (model prog w) A.in1 (Builtin.ObjectAttr.storeInOwnDict (Value.ref x) (Value.ref D) (Value.str name s.toks) name v false) _ _ _
 unfold Builtin.ObjectAttr.storeInOwnDict;refine Af (An ?_);rw[if_neg (show ¬((Value.ref D==Value.type "module")=true) by simp)]
 unfold Builtin.ObjectAttr.ownDictForStores;refine Af (hi _ _ _ ?_);show wpAny (model prog w) A.in1 (Builtin.ObjectAttr.storeInDict dx (Value.str name s.toks) name v) _ _ _
 unfold Builtin.ObjectAttr.storeInDict Builtin.ObjectAttr.newKeyGuard;refine Af (An (Af (wpAny_nsSet1 hn λh' hn' sb=>?_)));obtain⟨oD,esD,epD,hoD,hdD,hcD⟩:=hn'.count (Within.cons name v hw);refine Af (wpAny_lookBehind hoD (by rw[hdD];exact pastItsLine_dict (Cc hcD (by rw[Aw];omega))) ?_)
 exact An (h h' _ hn' sb)
def cZ3{T:Addr}{v:Value}{vs:Array Value}{Q:Unit->Shared->Prop}(Z:ExK K D)(X:K.In s.heap)(I:InstAt s.heap x ox D none)(hda:ox.data=.fields vs)(hdn:ox.dict=none)(hs:findIn K (.ref D) "__setattr__"=some (some (.builtin "object.__setattr__")))(hm:aXU K D=some [.ref D,.ref T,.type "ValueError",.type "Exception",.type "BaseException",.type "object"])(hna:findIn K (.ref D) name=some none)(h:∀h' tk',h'.get? x=some {ox with dict:=some s.heap.objs.size}->h'.Ns1 s.heap.objs.size (λy=>if y=name then some v else none)->(∀b o,b≠x->s.heap.get? b=some o->h'.get? b=some o)->Q () {s with heap:=h',toks:=tk'}):wpAny (model prog w) A (setAttr (.ref x) name v) Q E s:=by
 obtain⟨cd,hc,hd'⟩:=any_some Z.cls;have hx:=I.at_
 have hx1:(s.heap.push {cls:=.type "dict",data:=.dict #[]}).get? x=some ox:=Ah _ hx
 have hxs:x≠s.heap.objs.size:=Bc (As hx)
 have hgd:((s.heap.push {cls:=.type "dict",data:=.dict #[]}).update x λo=>{o with dict:=some s.heap.objs.size}).get? s.heap.objs.size=some {cls:=.type "dict",data:=.dict #[]}:=
  (Heap.get?_update_ne _ _ _ _ hxs.symm).trans (Heap.get?_push_at rfl rfl)
 have hnd:((s.heap.push {cls:=.type "dict",data:=.dict #[]}).update x λo=>{o with dict:=some s.heap.objs.size}).Ns s.heap.objs.size (λ_=>none):=
  ⟨_,#[],_,hgd,rfl,λe he=>absurd he (by simp),λ_=>rfl⟩
 have hxu:((s.heap.push {cls:=.type "dict",data:=.dict #[]}).update x λo=>{o with dict:=some s.heap.objs.size}).get? x=some {ox with dict:=some s.heap.objs.size}:=by
  refine Heap.get?_update_self _ hx1 ?_;obtain⟨a,b,c,d⟩:=ox;cases hda;rfl
 refine aQT Z X I hs hm hna (λB Q' E' q=>?_) (Heap.Ns1.of_empty hnd) Within.nil (by rw[List.length_nil,Hb];omega) λh' tk' n sb=>h h' tk' ((sb.2 x hxs).trans hxu) n λb o hb e=>
  (sb.2 b (Bc (As e))).trans ((Heap.get?_update_ne _ _ _ _ hb).trans (Ah _ e))
 unfold instanceDict;refine Af (wpAny_loadPart hx ?_);rw[I.cls];refine Af ((looks_clsIn X hc).here (s:={s with toks:=s.toks+1}) ?_)
 rw[hd',hdn,hda,if_neg (show ¬((!true)=true) by decide)]
 dsimp only;rw[if_neg (show ¬((!true || !typeHasDict (Value.ref D))=true) by simp[typeHasDict])]
 exact Af (wpAny_alloc' (Af (wpAny_update' hx1 (An q))))
def cQB{T:Addr}{v:Value}{m:Q5}{ns:List Str}{odx:Obj}{Q:Unit->Shared->Prop}(Z:ExK K D)(X:K.In s.heap)(I:InstAt s.heap x ox D (some odx))(hdn:ox.dict=some dx)(hs:findIn K (.ref D) "__setattr__"=some (some (.builtin "object.__setattr__")))(hm:aXU K D=some [.ref D,.ref T,.type "ValueError",.type "Exception",.type "BaseException",.type "object"])(hna:findIn K (.ref D) name=some none)(hn:s.heap.Ns1 dx m)(hw:Within m ns)(hz:ns.length<sizeLine)(h:∀h' tk',h'.Ns1 dx (λy=>if y=name then some v else m y)->Heap.SameBut dx s.heap h'->Q () {s with heap:=h',toks:=tk'}):wpAny (model prog w) A (setAttr (.ref x) name v) Q E s:=by
 obtain⟨cd,hc,hd'⟩:=any_some Z.cls;refine aQT Z X I hs hm hna (λB Q' E' q=>?_) hn hw hz h;unfold instanceDict;refine Af (wpAny_loadPart I.at_ ?_);rw[I.cls];refine Af ((looks_clsIn X hc).here (s:={s with toks:=s.toks+1}) ?_)
 rw[hd',hdn,if_neg (show ¬((!true)=true) by decide)]
 exact An q
end
end
section
open PySem.W
def eV(ea C:Addr)(d:Option Addr):HO:=.ext λh=>∃oe vs t0,h.get? ea=some oe/\oe.cls=.ref C/\oe.dict=d/\oe.data=.fields vs/\vs[1]?=some .none/\vs[0]?=some (.ref t0)/\vs[2]?=some .none
def xdO(dx:Addr)(fs:List (Str×V)):HO:=.ext λh=>∃mA,h.Ns1 dx mA/\(∀f,RelO (fs.lookup f) (mA f))/\Within mA (fs.map (·.1))
def yN{vs:Array Value}{t0:Addr}(g:h.get? ea=some oe)(c:oe.cls=.ref C)(di:oe.dict=d)(da:oe.data=.fields vs)(h1:vs[1]?=some .none)(h0:vs[0]?=some (.ref t0))(c2:vs[2]?=some .none):ObjOk P w H h ea (eV ea C d):=⟨⟨oe,vs,t0,g,c,di,da,h1,h0,c2⟩,⟨oe,g⟩,λ_ _ ⟨o,ws,t,g,q⟩ k=>⟨o,ws,t,k o g,q⟩⟩
def cJC{fs:List (Str×V)}{mA:Q5}(n:h.Ns1 dx mA)(r:∀f,RelO (fs.lookup f) (mA f))(wi:Within mA (fs.map (·.1))):ObjOk P w H h dx (xdO dx fs):=by
 refine⟨⟨mA,n,r,wi⟩,?_,λ_ _ ⟨m,⟨o,es,ep,g,q⟩,r⟩ k=>⟨m,⟨o,es,ep,k o g,q⟩,r⟩⟩;obtain⟨o,es,ep,g,_⟩:=n;exact⟨o,g⟩
structure XcK (K:Frag) (C T:Addr):Prop where
 ex:ExK K C
 sa:findIn K (.ref C) "__setattr__"=some (some (.builtin "object.__setattr__"))
 mro:aXU K C=some [.ref C,.ref T,.type "ValueError",.type "Exception",.type "BaseException",.type "object"]
 vb:W.subIn K (.ref C) (.type "ValueError")=some true
def eX5(K:Frag)(C T:Addr):Bool:=(clsIn K C).any λc=>match c.mro with
 |[.ref a,.ref b,.type x,.type y,.type z,.type u]=>a==C&&b==T&&x == "ValueError" && y == "Exception" && z == "BaseException" && u == "object"
 |_=>false
def aJW{K:Frag}{T:Addr}(h:eX5 K C T=true):aXU K C=some [.ref C,.ref T,.type "ValueError",.type "Exception",.type "BaseException",.type "object"]:=by
 obtain⟨c,hc,h⟩:=any_some h;unfold aXU;rw[hc];split at h
 ·rename_i hm
  simp only[Bool.and_eq_true,beq_iff_eq]at h;obtain⟨⟨⟨⟨⟨rfl,rfl⟩,rfl⟩,rfl⟩,rfl⟩,rfl⟩:=h;exact Dm some hm
 ·cases h
def oN{D:Addr}{vs:Array Value}(hok:HOk P w H h)(g:h.get? ea=some oe)(hc:oe.cls=.ref D)(hdi:oe.dict=d)(hda:oe.data=.fields vs)(hd:∀dx,d=some dx->∃o,H dx=some o):∃od,InstAt h ea oe D od:=by
 have no:notCls oe=true:=by
  obtain⟨c,di,da,sl⟩:=oe;cases hda;rfl
 cases d with
 |none=>exact⟨none,g,hc,no,by rw[hdi];trivial⟩
 |some dx=>
  obtain⟨o,z⟩:=hd dx rfl;obtain⟨ob,g2⟩:=(hok dx o z).get;exact⟨some ob,g,hc,no,by rw[hdi];exact g2⟩
def eXS{o:HO}(e:H a=some o):upd H a o=H:=by
 funext b
 unfold upd;split
 ·rename_i z;rw[z,e]
 ·rfl
def aZ5(K:Frag):List V->Hp->VK->Prop:=λvs H Q=>∃ea rest C T d,vs=.ref ea::rest/\rest.length<=sizeLine/\H ea=some (eV ea C d)/\(∀dx,d=some dx->∃o,H dx=some o)/\XcK K C T/\Q .non H
def bJM(K:Frag)(t:TA):TE:=λσ H Q=>t σ H λvs H1=>aZ5 K vs H1 Q
def dX7:CallR X (.builtin "ValueError.__init__") (aZ5 X.K):=by
 intro pins s σ H xs us Q I r h;obtain⟨ea,rest,C,T,d,rfl,hl,he,hd,Z,q⟩:=h;cases r with
 | @cons _ _ _ l2 r0 rr=>
  cases r0;obtain⟨oe,vs,t0,g,hc,hdi,hda,h1,h0,c2⟩:=(I.hok ea _ he).1;obtain⟨od,hI⟩:=oN I.hok g hc hdi hda hd;refine bJO Z.ex I.kIn hI Z.vb hda h0 (by rw[<-rr.length];exact hl) ?_
  have g2:=Ah (h:=s.heap) {cls:=.type "tuple",data:=.seq l2.toArray} g
  have hs0:0<vs.size:=(Df.mp h0).1
  have dm:=Obj.data_mapFields hda (·.setIfInBounds 0 (Value.ref s.heap.objs.size))
  refine⟨.non,H,?_,rfl,q⟩;have I2:=I.write (x:=ea) (e:=ea) (o:=eV ea C d) (t':=s.toks) (by rw[he];exact True.intro) (.inl rfl) (λb u hb z=>(Bz _ (Obj.mapFields (·.setIfInBounds 0 (Value.ref s.heap.objs.size))) (Ne.symm hb)).trans (Ah _ z))
   ⟨_,Heap.get?_update_self _ g2 (Obj.isFreed_of_fields dm)⟩ (yN (Heap.get?_update_self _ g2 (Obj.isFreed_of_fields dm)) (by rw[Obj.cls_mapFields];exact hc) (by rw[aQQ];exact hdi) dm (by rw[Array.getElem?_setIfInBounds];simp[h1]) (t0:=s.heap.objs.size) (by simp[hs0]) ((Array.getElem?_setIfInBounds_ne (by decide)).trans c2))
  rw[eXS he]at I2;exact I2
section
variable {T:Addr} {mc:Value}
def zS(hg:Gl X x)(hm:X.mg x=some (.ref T))(h1:specialIn X.K (.ref T) "__getattribute__"=some (some (.builtin "type.__getattribute__")))(h2:readsIn X.K T mc=true)(h3:findCls X.K (.ref T) mc "__init__"=some (.val (.builtin "ValueError.__init__")))(ha:PA X (e::es) t)(hdb:(x==("__debug__" : Str))=false:=by decide)(hst:starEach (e::es) X.env=(false,eval e X.env)::starEach es X.env:=by rfl)(hpl:(backTo pos (starEach es X.env)).any (·.1)=false:=by rfl)(ht:eval (.Call (.Attribute (.Name x np) "__init__" apos) (e::es) [] pos) X.env=(do
 let ov <-eval (.Name x np) X.env
 standAt apos.atName
 let (f,first) <-holding [ov] (getMethod ov "__init__" pl)
 callWith pos f first (backTo pos (starEach (e::es) X.env)) (backToKw pos (keywordEach [] X.env))):=by rfl):PE X (.Call (.Attribute (.Name x np) "__init__" apos) (e::es) [] pos) (bJM X.K t):=by
 intro pins s σ H Q I h;refine Fh (pl:=pl) (iO I hg hm ?_ hdb) ht;refine method_cls I.kIn h1 (cls_value I.kIn h2 h3 rfl ?_);exact PyProof.Rows.callWith_builtin1 (thn (ha pos pins _ σ H _ (I.tok _) h) λus s1 ⟨vs,H1,I1,r1,q1⟩=>dX7 pins s1 σ H1 vs us Q I1 r1 q1) hst hpl
end
def Inv.freAt{σ:St}(I:Inv X pins σ H s)(h:s.heap.objs.size<=a):Fre X pins a where
 s0:=Fp (Cc I.sz h)
 loc:=λz=>absurd (Bb I.lt h) (by rw[z];exact Dh _)
 cell:=λx c e z=>by
  obtain⟨_,o,g,_⟩:=I.cell x c e;exact absurd (Bb (As g) h) (by rw[z];exact Dh _)
 pin:=λp hp z=>absurd (Bb (As (I.pin p hp).1) h) (by rw[z];exact Dh _)
def dJB(K:Frag)(ta tv:TE)(f:Str):TS:=λD σ H=>tv σ H λy H1=>ta σ H1 λx H2=>∃ea C T,x=.ref ea/\XcK K C T/\findIn K (.ref C) f=some none/\
 ((H2 ea=some (eV ea C none)/\∀dx,H2 dx=none->D.nx σ (upd (upd H2 ea (eV ea C (some dx))) dx (xdO dx [(f,y)])))\/
  (∃dx fs,H2 ea=some (eV ea C (some dx))/\H2 dx=some (xdO dx fs)/\fs.length<100/\D.nx σ (upd H2 dx (xdO dx ((f,y)::fs)))))
def vX{f g:Str}{fs:List (Str×V)}:List.lookup g ((f,y)::fs)=if g=f then some y else fs.lookup g:=by
 rw[Cw];by_cases z:g=f
 ·rw[if_pos z,z];simp
 ·rw[if_neg z];have:(g==f)=false:=by simpa using z
  rw[this]
def xA{o value:Expr}{f:Str}{pos':Pos}{ta:TE}(ha:PE X o ta)(hv:PE X value tv)(hs:swapsWith value (some (.Attribute o f pos')) pos.line X.env=pure false):PS X (.Assign [.Attribute o f pos'] value pos) (dJB X.K ta tv f):=by
 intro pins s σ H D I h;refine plainObj_wpAny_Assign_Attribute (thn (hv pins s σ H _ I h) λu s1 ⟨y,H1,I1,ry,q⟩=>thn (ha pins s1 σ H1 _ I1 q) λov s2 ⟨x,H2,I2,rx,ea,C,T,ex,Z,hn,q2⟩=>?_) hs;subst ex;obtain rfl:ov=Value.ref ea:=rx;rcases q2 with⟨he,q3⟩|⟨dx,fs,he,hdx,hl,q3⟩
 ·obtain⟨oe,vs,t0,g,hc,hdi,hda,h1,h0,c2⟩:=(I2.hok ea _ he).1;obtain⟨od,hI⟩:=oN I2.hok g hc hdi hda (λ_ z=>nomatch z)
  have hod:od=none:=by
   have z:=hI.dict
   rw[hdi]at z;cases od with
   |none=>rfl
   |some o=>exact z.elim
  subst hod;refine cZ3 Z.ex I2.kIn hI hda hdi Z.sa Z.mro hn λh' tk' gx ns kp=>?_;have fr:=I2.freAt (Ai _)
  have hfree:H2 s2.heap.objs.size=none:=I2.hok.fresh (Ai _)
  have ne:s2.heap.objs.size≠ea:=λz=>by rw[z,he]at hfree;cases hfree
  have I3:=I2.write (x:=ea) (e:=ea) (o:=eV ea C (some s2.heap.objs.size)) (h':=h') (t':=tk') (by rw[he];exact True.intro) (.inl rfl) kp ⟨_,gx⟩ (yN gx hc rfl hda h1 h0 c2)
  have I4:=I3.adopt (a:=s2.heap.objs.size) (o:=xdO s2.heap.objs.size [(f,y)]) fr (by rw[aG ne];exact hfree) (cJC ns (λg=>by
   rw[vX];split
   ·exact ry
   ·exact True.intro) (λg hg=>by
   by_cases z:g=f
   ·rw[z];exact Am.mpr rfl
   ·exact absurd (show (if g=f then some u else none)=none by rw[if_neg z]) hg))
  exact⟨σ,_,I4,q3 _ hfree⟩
 ·obtain⟨oe,vs,t0,g,hc,hdi,hda,h1,h0,c2⟩:=(I2.hok ea _ he).1;obtain⟨mA,n,r,wi⟩:=(I2.hok dx _ hdx).1;obtain⟨od,hI⟩:=oN I2.hok g hc hdi hda (λz e=>by cases e;exact⟨_,hdx⟩)
  have hod:∃o,od=some o:=by
   have z:=hI.dict
   rw[hdi]at z;cases od with
   |none=>exact z.elim
   |some o=>exact⟨o,rfl⟩
  obtain⟨o,rfl⟩:=hod;refine cQB Z.ex I2.kIn hI hdi Z.sa Z.mro hn n wi (by rw[Ab,Hb];omega) λh' tk' ns sb=>?_
  have hd':∃o,h'.get? dx=some o:=let ⟨o,_,_,e',_⟩:=ns;⟨o,e'⟩
  have I3:=I2.write (x:=dx) (e:=dx) (o:=xdO dx ((f,y)::fs)) (h':=h') (t':=tk') (by rw[hdx];exact True.intro) (.inl rfl) (λb q hb z=>(sb.2 b hb).trans z) hd' (cJC ns (λg=>by
   rw[vX];split
   ·exact ry
   ·exact r g) (λg hg=>by
   by_cases z:g=f
   ·rw[z];exact Ak
   ·refine Aj _ (wi g λz2=>hg ?_);show (if g=f then some u else mA g)=none
    rw[if_neg z];exact z2))
  exact⟨σ,_,I3,q3⟩
end
section
open PySem.W
def aZO(K:Frag)(C:Addr)(bmB:List Value)(newId:String):Bool:=
 match K.lookup C with
 |some ⟨.type t,_,.cls c,sl⟩=>t == "type" && !c.hasDel&&nsOkIn K c.ns &&
  (match c.mro with|.ref C1::bm=>C1==C&&tailIn K bmB bm|_=>false)&&(match sl.toList with|[_,_,_,_,some (.builtin n),_]=>n==newId|_=>false)
 |_=>false
def eXZ{K:Frag}(X:K.In h)(q:aZO K C bmB newId=true):∃bm N nm qn bs hd sn sub ab col dd k0 k1 k2 k3 k5,h.get? C=some (excClassObj nm qn C N bs bm hd sn sub ab col dd k0 k1 k2 k3 k5 newId)/\OwnTail h bmB bm:=by
 unfold aZO at q;split at q
 ·rename_i t dd c sl ho
  simp only[Bool.and_eq_true,beq_iff_eq,Bool.not_eq_true']at q;obtain⟨⟨⟨⟨rfl,q1⟩,q2⟩,q3⟩,q4⟩:=q;split at q3
  ·rename_i C1 bm hm
   obtain⟨rfl,q5⟩:C1=C/\tailIn K bmB bm=true:=by simpa only[Bool.and_eq_true,beq_iff_eq]using q3
   split at q4
   ·rename_i k0 k1 k2 k3 n k5 hs
    obtain rfl:n=newId:=by simpa using q4
    obtain⟨nm,bs,mro,ns,qn,hd,sn,sub,ab,col,del⟩:=c;dsimp only at hm q1 q2;subst hm q1;obtain⟨l⟩:=sl;cases (show l=_ from hs);exact⟨bm,ns,nm,qn,bs,hd,sn,sub,ab,col,dd,k0,k1,k2,k3,k5,X _ _ ho,tail_of_in X q5⟩
   ·cases q4
  ·cases q3
 ·cases q
section
variable {K:Frag} {B initId:String}
def bZL{rest:List Value}{Q:Fin->Shared->Prop}(FB:ExcBaseFacts B newId initId bmB)(X:K.In s.heap)(hx:aZO K C bmB newId=true)(hi:findIn K (.ref C) "__init__"=some (some (.ref f)))(hf:typeIn K (.ref f)=some (.type "function"))(hr:rest.length<=sizeLine)(hq:∀h' e,Heap.MadeExcOf s.heap h' e (.ref C) rest->wpAny (model prog w) A (call (.ref f) (.ref e::rest)) (λr s'=>r=.none/\Q (.done (.ret (.ref e))) s') E {s with heap:=h'}):wpAny (model prog w) A (Builtin.«type.__call__» ⟨.ref C::rest,[]⟩) Q E s:=by
 obtain⟨h,g,d,t,os⟩:=s;obtain⟨bm,N,nm,qn,bs,hd,sn,sub,ab,col,dd,k0,k1,k2,k3,k5,hC,Tl⟩:=eXZ X hx;repeat (first|with_reducible refine wpAny_madeBy_exc hC ?_|with_reducible refine Fo hC ?_|wp_step)
 refine codeAny_call_builtin_code (Code.quiet_builtin _ FB.quiet) (wpAny_check_new_subT FB Tl hC (codeAny_exc_new_subT FB Tl hC ?_ hr));show wpAny _ _ _ _ _ _
 generalize hh1:(h.push {cls:=.type "tuple",data:=.seq rest.toArray}).push {cls:=.ref C,data:=.fields #[.ref h.objs.size,.none,.none,.none,.bool false,.none]}=h1;have kp:∀b o,h.get? b=some o->h1.get? b=some o:=λb o e=>by rw[<-hh1];exact Ah _ (Ah _ e)
 have fK:h1.get? (h.objs.size+1)=some {cls:=.ref C,data:=.fields #[.ref h.objs.size,.none,.none,.none,.bool false,.none]}:=by rw[<-hh1];heap_get
 have X1:=X.keeps kp
 have hC1:=kp _ _ hC
 have hcC:(Value.ref C::bm).contains (.ref C)=true:=by simp
 unfold isInstance;repeat (first|(with_reducible refine wpAny_isSubtype_exc hC1 ?_;rw[hcC])|with_reducible refine Fo fK ?_|wp_step)
 show wpAny _ _ (typeLookup (.ref C) _) _ _ _
 refine(looks_findIn X1 hi).here (s:=⟨h1,g,d,t,os⟩) (Cm (Af ?_));unfold bindSpecial;refine Af ((looks_typeIn X1 hf).here (s:=⟨h1,g,d,t,os⟩) ?_);rw[if_pos (by decide)]
 refine An (Af (Cp (hq h1 (h.objs.size+1) ⟨kp,Fp (He _),h.objs.size,fK,Fp (Ai _),?_⟩) (λr s' hr=>?_) λ_ _ z=>z))
 ·rw[<-hh1];exact Ah _ (Heap.get?_push_at rfl rfl)
 ·obtain⟨rfl,z⟩:=hr
  wp_walk
  exact z
def bJC{rest:List Value}{Q:Q0}(FB:ExcBaseFacts B newId initId bmB)(X:K.In s.heap)(hx:aZO K C bmB newId=true)(hi:findIn K (.ref C) "__init__"=some (some (.ref f)))(hf:typeIn K (.ref f)=some (.type "function"))(hr:rest.length<=sizeLine)(hq:∀h' e,Heap.MadeExcOf s.heap h' e (.ref C) rest->wpAny (model prog w) (A.under (.builtin "type.__call__" ⟨.ref C::rest,[]⟩)) (call (.ref f) (.ref e::rest)) (λr s'=>r=.none/\Q (.ref e) s') E {s with heap:=h'}):wpAny (model prog w) A (call (.ref C) rest) Q E s:=by
 have X0:=X
 obtain⟨h,g,d,t,os⟩:=s;obtain⟨bm,N,nm,qn,bs,hd,sn,sub,ab,col,dd,k0,k1,k2,k3,k5,hC,Tl⟩:=eXZ X hx;have c1:=tc_lookup
 have c2:=tc_bind (.ref C)
 have c3:(⟨h,g,d,t,os⟩:Shared).TypeIs (.ref C) "type" := ⟨_,hC,rfl⟩
 refine Ge (codeAny_of_tree ?_);show wpAny _ _ (callAny (.ref C) _) _ _ _
 repeat (any_goals (first|with_reducible refine Fo hC ?_|assumption|wp_step))
 exact⟨rfl,codeAny_call_builtin_at (Code.quiet_builtin _ (by decide +kernel)) entry_typeCall (wpAny_check_type_call_sub hC (bZL FB X0 hx hi hf hr λh' e hm=>hq h' e hm))⟩
def bXO{x:Sem Value}{Q:Flow->Shared->Prop}(hh:A.handled=none)(h:wpAny (model prog w) A x (λv s1=>∃e oe vs bm N nm qn bs hd sn sub ab col dd k0 k1 k2 k3 k5,v=.ref e/\s1.heap.get? C=some (excClassObj nm qn C N bs bm hd sn sub ab col dd k0 k1 k2 k3 k5 newId)/\bm.contains (.type "BaseException")=true/\
 s1.heap.get? e=some oe/\oe.cls=.ref C/\oe.data=.fields vs/\vs[1]?=some .none/\E (.ref e) s1) E s):wpAny (model prog w) A (raiseStmt env (some x) none) Q E s:=by
 unfold raiseStmt;refine Af (Cp h (λv s1 q=>?_) λ_ _ z=>z);obtain⟨e,oe,vs,bm,N,nm,qn,bs,hd,sn,sub,ab,col,dd,k0,k1,k2,k3,k5,rfl,hC,hb,he,hc,hda,h1,hE⟩:=q;obtain⟨hp,g,d,tk,os⟩:=s1;obtain⟨oc,odi,oda,osl⟩:=oe;dsimp only at hc hda;subst hc hda;have hcB:(Value.ref C::bm).contains (.type "BaseException")=true:=by rw[List.contains_cons,hb,Bool.or_true]
 repeat (first|with_reducible refine Fo hC ?_|with_reducible refine Fo he ?_|(with_reducible refine wpAny_isSubtype_exc hC ?_;rw[hcB])|wp_step)
 rw[h1];refine An ?_;rw[if_neg (show ¬((Value.none != Value.none)=true) by decide)]
 exact An (wpAny_raiseNew_none hh hE)
end
def del(H:Hp)(a:Addr):Hp:=λb=>if b=a then none else H b
def iT(h:b≠a):del H a b=H b:=if_neg h
def zO:del H a a=none:=if_pos rfl
section
variable {σ:St}
def Inv.drop{φ:Heap->Prop}(I:Inv X pins σ H s)(e:H ea=some (.ext φ)):Inv X pins σ (del H ea) s:=by
 have ne:∀b u,H b=some u->(∀ψ,u≠.ext ψ)->b≠ea:=λb u q n z=>by
  rw[z,e]at q;cases q;exact n φ rfl
 refine I.re (λb n=>?_) (λb xs q=>?_) (λb o u q=>?_) (λb ps q=>?_) λb o q=>?_
 ·unfold del;split
  ·rfl
  ·exact n
 ·have q1:=I.base.tups b xs q
  rw[iT (ne b _ q1 λ_ z=>nomatch z)]
  exact q1
 ·have q1:=I.base.frzs b o u q
  rw[iT (ne b _ q1 λ_ z=>nomatch z)]
  exact q1
 ·obtain⟨m,q1⟩:=I.base.tbls b ps q;exact⟨m,by rw[iT (ne b _ q1 λ_ z=>nomatch z)];exact q1⟩
 ·have hb:b≠ea:=λz=>by rw[z,zO]at q;cases q
  rw[iT hb]at q;exact(I.hok b o q).stay (λ_ _ _ z=>z) (λc z=>by rw[iT (ne c _ z λ_ z=>nomatch z)];exact z) λc xs z=>by rw[iT (ne c _ z λ_ z=>nomatch z)];exact z
def Inv.freNew(I:Inv X pins σ H s)(hex:X.ex=[])(h:s.heap.get? a=none):Fre X pins a where
 s0:=by
  cases z:X.s₀.heap.get? a with
  |none=>rfl
  |some o=>
   obtain⟨o',z'⟩:=I.base.there a o z (by rw[hex];simp)
   rw[h]at z';cases z'
 loc:=λz=>by
  obtain⟨m,⟨o,_,_,g,_⟩,_⟩:=I.loc;rw[<-z,h]at g;cases g
 cell:=λx c e z=>by
  obtain⟨_,o,g,_⟩:=I.cell x c e;rw[z,h]at g;cases g
 pin:=λp hp z=>by
  have g:=(I.pin p hp).1
  rw[z,h]at g;cases g
end
def bJN(P:Program)(w:World)(K:W.Frag)(mg:Str->Option Value)(base:Heap)(k:Nat)(C:Addr)(ps:List Str)(sp:Sp):Prop:=
 ∃(f:Addr) (fd:FuncData),FnOk P w K mg base CX0 k f fd ps sp/\findIn K (.ref C) "__init__"=some (some (.ref f))/\typeIn K (.ref f)=some (.type "function")/\Binds K fd ps []
structure XmK (K:Frag) (C:Addr):Prop where
 obj:aZO K C [.type "ValueError",.type "Exception",.type "BaseException",.type "object"] "ValueError.__new__"=true
 kp:keepIn K (.ref C)=true
def aJ1(C:Addr)(sp:Sp)(E:XK)(ta:TA):TS:=λ_ σ H=>ta σ H λvs H1=>vs.length<=sizeLine/\∀ea,H1 ea=none->sp (.ref ea::vs) (upd H1 ea (eV ea C none)) (λv H2=>v=.non/\∃d,H2 ea=some (eV ea C d)/\E (.ref C) d (del H2 ea)) E0
section
variable {E:XK} {k:Nat} {ps:List Str}
def bZ4{σ:St}{G:Addr->VK}{R:Q0}(hex:X.ex=[])(M:XmK X.K C)(c:bJN X.prog X.w X.K X.mg X.base k C ps sp)(hr:Room (k+1) X.A)(I1:Inv X pins σ H1 s1)(r:Vals vs us)(hl:vs.length<=sizeLine)(q:∀ea,H1 ea=none->sp (.ref ea::vs) (upd H1 ea (eV ea C none)) (G ea) E0)(hR:∀ea H2 s2,X.s₀.heap.get? ea=none->Inv X pins σ H2 s2->(G ea) .non H2->R (.ref ea) s2)(hG:∀ea v H2,G ea v H2->v=.non):wpAny (model X.prog X.w) X.A (call (.ref C) us) R X.xe s1:=by
 obtain⟨f,fd,F,hi,hf,hb⟩:=c;refine bJC Ds I1.kIn M.obj hi hf (by rw[<-r.length];exact hl) λh' ea hm=>?_
 obtain⟨t,g,_,_⟩:=hm.there;have hole:H1 ea=none:=I1.hok.hole hm.new
 have fr:=I1.freNew hex hm.new
 have I2:=(I1.kept (t':=s1.toks) hm.keeps).adopt (o:=eV ea C none) fr hole (yN g rfl rfl rfl rfl rfl rfl)
 have r2:Vals (V.ref ea::vs) (Value.ref ea::us):=.cons rfl r
 have hq:=q ea hole
 have hl2:((Value.ref ea::us)++[]).length=ps.length:=by rw[Cb,<-r2.length];exact F.len _ _ _ _ hq
 have hbb:=hb {s1 with heap:=h'} (Value.ref ea::us) I2.kIn hl2
 rw[Cb]at hbb;refine Ge (Ei (F.run _ X.stack {s1 with heap:=h'} _ ⟨Value.ref ea::us,[]⟩ (Value.ref ea::us) (V.ref ea::vs) _ E0 (hr.make C us []) (I2.env0.make C us []) hbb r2 hq) λrr s' hq'=>?_)
 cases rr with
 |error e=>exact False.elim hq'
 |ok fl=>
  cases fl with
  |ret u=>
   obtain⟨v,H',I3,rv,q3⟩:=I2.after hq';have ev:=hG ea v H' q3
   subst ev;exact⟨rv,hR ea H' s' fr.s0 I3 q3⟩
  |next=>exact False.elim hq'
  |brk=>exact False.elim hq'
  |cont=>exact False.elim hq'
def vC(hR:eQJ X E)(hex:X.ex=[])(hc:X.calm=true)(hg:Gl X x)(hm:X.mg x=some (.ref C))(M:XmK X.K C)(c:bJN X.prog X.w X.K X.mg X.base k C ps sp)(hr:Room k' X.A)(hkk:k+1<=k')(ha:PA X (e::es) ta)(hd:(x==("__debug__" : Str))=false:=by decide)(he:starEach (e::es) X.env=(false,eval e X.env)::starEach es X.env:=by rfl)(hpl:(backTo cpos (starEach es X.env)).any (·.1)=false:=by rfl):PS X (.Raise (some (.Call (.Name x np) (e::es) [] cpos)) none pos) (aJ1 C sp E ta):=by
 intro pins s σ H D I h;rw [arm_exec_Raise];simp only [evalOpt,Option.map];refine Af (Em (bXO (C:=C) (newId := "ValueError.__new__") (I.ok.hd hc) ?_));refine Af (Cp (Q:=λv s1=>∃ e oe vs bm N nm qn bs hd sn sub ab col dd k0 k1 k2 k3 k5,v=.ref e/\s1.heap.get? C=some (excClassObj nm qn C N bs bm hd sn sub ab col dd k0 k1 k2 k3 k5 "ValueError.__new__")/\bm.contains (.type "BaseException")=true/\
     s1.heap.get? e=some oe/\oe.cls=.ref C/\oe.data=.fields vs/\vs[1]?=some .none/\X.xe (.ref e) s1) ?_ (λv s3 h3=>Af (Em (An h3))) λ_ _ z=>z)
 refine Do (iO I hg hm ?_ hd);refine Gf (h₀:=X.base) I.ok.mod.kin M.kp (thn (ha cpos pins s σ H _ I h) λus s1 ⟨vs,H1,I1,r,hl,q⟩=>⟨I1.kIn,?_⟩) he hpl;refine bZ4 hex M c (hr.mono hkk) I1 r hl q (λea H' s' s0 I3 q3=>?_) λea v H2 z=>z.1;obtain⟨_,d,e2,q3⟩:=q3;obtain⟨oe,ws,t0,g2,hc2,hdi,hda,h1,h0,c2⟩:=(I3.hok ea _ e2).1;obtain⟨bm,N,nm,qn,bs,hdct,sn,sub,ab,col,dd,k0,k1,k2,k3,k5,hC,Tl⟩:=eXZ I3.kIn M.obj;refine⟨ea,oe,ws,bm,N,nm,qn,bs,hdct,sn,sub,ab,col,dd,k0,k1,k2,k3,k5,rfl,hC,Tl.hasType PySem.F.excBase_ValueError.hasBase,g2,hc2,hda,h1,?_⟩;exact hR pins σ (del H' ea) s' ea oe ws (I3.drop e2) g2 hda h1 c2 zO s0 (by rw[hc2,hdi];exact q3)
end
def uY(st:Stmt)(j:Nat):Stmt:=
 match st with
 |.ClassDef _ _ _ body _ _ _ _ _ _ _=>body.getD j (.Pass ⟨0,0,0,0⟩)
 |s=>s
section
variable {T:Addr} {σ:St} {D':Ends} {E:XK} {f:Str}
def dQX(h:ta σ H λvs H1=>aZ5 K vs H1 Q):bJM K ta σ H Q:=h
def cQF(h:ta σ H λvs H1=>vs.length<=sizeLine/\∀ea,H1 ea=none->sp (.ref ea::vs) (upd H1 ea (eV ea C none)) (λv H2=>v=.non/\∃d,H2 ea=some (eV ea C d)/\E (.ref C) d (del H2 ea)) E0):aJ1 C sp E ta D' σ H:=h
def eQI(h:tv σ H λy H1=>te σ H1 λx H2=>∃ea C T,x=.ref ea/\XcK K C T/\W.findIn K (.ref C) f=some none/\
 ((H2 ea=some (eV ea C none)/\∀dx,H2 dx=none->D'.nx σ (upd (upd H2 ea (eV ea C (some dx))) dx (xdO dx [(f,y)])))\/
  (∃dx fs,H2 ea=some (eV ea C (some dx))/\H2 dx=some (xdO dx fs)/\fs.length<100/\D'.nx σ (upd H2 dx (xdO dx ((f,y)::fs)))))):dJB K te tv f D' σ H:=h
end
end
def zX{it l:Addr}{items:Array Value}(hne:l≠it):∀(n i:Nat) (s:Shared) (Q:List Value->Shared->Prop),s.heap.IsListIter it l i->s.heap.IsList l items->i+n<=items.size->
 (∀h',h'.IsListIter it l (i+n)->Heap.SameBut it s.heap h'->Q ((items.toList.drop i).take n) {s with heap:=h'})->wpAny (model prog w) A (draw (.ref it) n) Q E s
 |0,i,s,Q,hit,_,_,k=>by
  refine An (M:=model prog w) ?_
  simpa using k s.heap hit (Heap.SameBut.refl ..)
 |n+1,i,s,Q,hit,hl,hle,k=>by
  have lt:i<items.size:=by omega
  show wpAny _ _ (pyNext (.ref it) >>= _) Q E s
  refine wpAny_bind (wpAny_pyNext_list_item hit hl (x:=items[i]) (by simp[lt]) λg1 it1 sb1=>?_)
  refine Af (Cm (zX hne n (i+1) _ _ it1 (hl.extBut sb1.extBut hne) (by omega) λg2 it2 sb2=>An ?_))
  have e:items.toList.drop i=items[i]::items.toList.drop (i+1):=by simp[List.drop_eq_getElem_cons,lt]
  have z:=k g2 (by rw[show i+(n+1)=i+1+n by omega];exact it2) (sb1.trans sb2)
  rw[e,List.take_succ_cons]at z;exact z
def aX2{l:Addr}{items:Array Value}{targets:List (Bool×(Value->Sem Unit))}{Q:Unit->Shared->Prop}(hh:A.handled=none)(hl:s.heap.IsList l items)(hn:targets.length=items.size)(hs:targets.findIdx? (·.1)=none)(k:∀h',Heap.ExtBut s.heap.objs.size s.heap h'->wpAny (model prog w) A (assignInOrder (targets.map (·.2)) items.toList) Q E {s with heap:=h'}):wpAny (model prog w) A (unpack (.ref l) targets) Q E s:=by
 have hlt:l≠s.heap.objs.size:=by obtain⟨o,ho,_⟩:=hl;exact Bc (As ho)
 unfold unpack;rw[hn,hs];refine Af (Cm ?_);unfold unpackItems notIterableAtAll;refine Af (Af (wpAny_specialOf hl.typeIs slot_list_iter.lookup (An ?_)));rw[if_neg (by simp)]
 refine Af (Cm (Dr hl ?_));refine Af (Cm (zX hlt items.size 0 _ _ ⟨_,Av _ rfl,rfl,rfl⟩ (hl.push _) (by omega) λg1 it1 sb1=>?_))
 have al:List.take items.size (List.drop 0 items.toList)=items.toList:=by rw[List.drop_zero];exact List.take_of_length_le (by simp)
 rw[al,if_neg (by simp)]
 refine wpAny_bind (wpAny_holding (wpAny_pyNext_list_end hh it1 ((hl.push _).extBut sb1.extBut hlt) (by simp) λg2 eb=>?_))
 simp only[Option.isSome_none,Bool.false_eq_true,if_false];exact An (k g2 λb o hb e=>eb b o hb (sb1.extBut b o hb (Ah _ e)))
def eJV(n:Nat)(t:TGs):TG:=λv σ H Q=>∃a xs,v=.ref a/\rdL H a=some xs/\xs.length=n/\t xs σ H Q
def eXI{k:Nat}{t:TGs}(hc:X.calm=true)(h:PGs X es t)(hn:(assignEach es X.env).length=n:=by rfl)(hst:(assignEach es X.env).findIdx? (·.1)=none:=by rfl):PG X (.Tuple es k pos) (eJV n t):=by
 intro pins s σ H v u Q I r hw;obtain⟨a,xs,e1,hq,hl,hw⟩:=hw;subst e1;cases r;obtain⟨its,rv,⟨o,nn,ho,hcl,_,hda⟩,hz⟩:=I.list (aY hq);rw[assign_Tuple];refine wpAny_bind (wpAny_standAt (aX2 (I.ok.hd hc) ⟨o,ho,hcl,nn,hda⟩ (by simp[hn,<-hl,rv.length]) hst λh' hx=>?_))
 have I1:Inv X pins σ H {s with heap:=h'}:=I.kept (t':=s.toks) λb o e=>hx b o (Bc (As e)) e
 exact h pins _ σ H xs _ Q I1 (by simpa using rv) hw
def eQU{t:TGs}{σ:St}{Q:St->Hp->Prop}(e:rdL H a=some xs)(hn:xs.length=n)(h:t xs σ H Q):eJV n t (.ref a) σ H Q:=⟨a,xs,rfl,e,hn,h⟩
section
open PySem.AutoSeq1 (wpAny_loadPart')
def aZS(z:Str)(tz:Tok)(k:Int)(t:Tok)(ha:z.cps.all (· < 128)=true)(hk:Builtin.SmallTypes.fitsIndex k=true):Meets (Builtin.«enumerate.__new__» ⟨[.type "enumerate",.str z tz],[("start",.int k t)]⟩) (λ_ R s=>
 R (.ok (.ret (.ref (s.heap.push {cls:=.type "str_ascii_iterator",data:=.fields #[.str z tz,.int 0 0]}).objs.size)))
  {s with heap:=(s.heap.push {cls:=.type "str_ascii_iterator",data:=.fields #[.str z tz,.int 0 0]}).push ⟨.type "enumerate",none,.fields #[.none,.bool false,.ref s.heap.objs.size,rawInt k,.none,.none],#[]⟩}):=
 .of_wp λprog w A R s h=>by
  obtain⟨hp,g,d,tk,os⟩:=s;have hsub:=sub_enumerate
  have hk':(!Builtin.SmallTypes.fitsIndex k)=false:=by rw[hk];rfl
  wp_walk
  refine wpAny_stack_any λst=>An ?_;refine cQC ?_ ?_ <;>
  ·wp_walk using (wpAny_pyIter_ascii (s:=⟨hp,g,d,tk,os⟩) ha)
   exact⟨_,rfl,h⟩
def tY{tz:Tok}{k:Int}{t:Tok}{Q:Q0}(ha:z.cps.all (· < 128)=true)(hk:Builtin.SmallTypes.fitsIndex k=true)(h:∀h',IsEnum h' (s.heap.objs.size+1) s.heap.objs.size k .none->h'.IsStrIter s.heap.objs.size "str_ascii_iterator" z tz 0->h'.objs.size=s.heap.objs.size+2->(∀b o,s.heap.get? b=some o->h'.get? b=some o)->Q (.ref (s.heap.objs.size+1)) {s with heap:=h'}):wpAny (model prog w) A (call (.type "enumerate") [.str z tz] [("start",.int k t)]) Q E s:=by
 have hz:(s.heap.push {cls:=.type "str_ascii_iterator",data:=.fields #[.str z tz,.int 0 0]}).objs.size=s.heap.objs.size+1:=Er ..
 refine oG (Q1:=λo s1=>s1.TypeIs o "enumerate"/\Q o s1) F.called_enumerate (by kernel_rfl) (by kernel_rfl) F.entry_enumerate_new (aZS z tz k t ha hk) ?_ λo s1 hq=>⟨hq.1,?_,_,bQV F.called_enumerate.init.lookup F.called_enumerate.made (by decide),hq.1,rfl,hq.2⟩
 ·show _/\_
  rw[hz];have he:IsEnum ((s.heap.push {cls:=.type "str_ascii_iterator",data:=.fields #[.str z tz,.int 0 0]}).push ⟨.type "enumerate",none,.fields #[.none,.bool false,.ref s.heap.objs.size,rawInt k,.none,.none],#[]⟩) (s.heap.objs.size+1) s.heap.objs.size k .none:=by
   have q:=Av (s.heap.push {cls:=.type "str_ascii_iterator",data:=.fields #[.str z tz,.int 0 0]}) (o:=⟨.type "enumerate",none,.fields #[.none,.bool false,.ref s.heap.objs.size,rawInt k,.none,.none],#[]⟩) rfl
   rwa [hz]at q
  exact⟨⟨_,he,rfl⟩,h _ he ⟨_,Ah _ (Av _ rfl),rfl,rfl⟩ (by rw[Er,hz]) λb o x=>Ah _ (Ah _ x)⟩
 ·unfold argsOk;rw[signature?_of (n:=['_','_','t','i','n','i','_','_']) (o := "tcejbo".toList) (by kernel_rfl) F.owner_object]
  kernel_rfl
def bJX(z:Str)(k:Nat):It:=
 ⟨λi _=>i<z.cps.size,λi H v H'=>∃p c,H p=none/\v=.ref p/\H'=upd H p (.tup [.int ((k+i:Nat):Int),.str ⟨#[c]⟩])/\z.cps[i]?=some c,λi _=>z.cps.size=i⟩
def aX4(z:Str)(tz:Tok)(e it:Addr)(k:Nat)(hei:e≠it):Turn P w K (.Tuple elts x1 tp) (bJX z k) [e,it] e (λi h=>(∃old,IsEnum h e it ((k+i:Nat):Int) old)/\h.IsStrIter it "str_ascii_iterator" z tz i) where
 mem:=by simp
 obj:=λi h st b hb=>by
  obtain⟨⟨old,he⟩,o,ho,c,d⟩:=st;rcases Be.mp hb with z|z
  ·subst z;exact⟨_,he,λv z=>by cases z⟩
  ·rw[Am.mp z];exact⟨o,ho,λv z=>by rw[d]at z;cases z⟩
 keep:=λi h h' st kk=>⟨let ⟨old,he⟩:=st.1;⟨old,kk e (by simp) _ he⟩,let ⟨o,ho,r⟩:=st.2;⟨o,kk it (by simp) o ho,r⟩⟩
 item:=by
  intro X hP hw hK hc i pins s σ H E I hf st hg;subst hP hw hK;obtain⟨⟨old,he⟩,hit⟩:=st;have hi:i<z.cps.size:=hg
  have D:=gG k (Draws.strAscii (prog:=X.prog) (w:=X.w) (A:=X.A.in1) (show X.A.in1.handled=none from I.ok.hd hc) it z tz)
  refine wpAny_pyNext_enum_itemD D (i:=k+i) he ⟨Fx _ _,by rw[De];exact hit⟩ (by omega) hei (λz=>hei (Am.mp z)) λy h1 tk hP ho hS hT hsz kk=>?_
  refine⟨_,rfl,wpAny_letOwnedTupleGo_enum ho λh2 he2 hs2=>?_⟩;obtain⟨c,u,hcu,rfl⟩:=hP;rw[De]at hcu;have hTe:s.heap.objs.size≠e:=Ec (As he)
  have hTi:s.heap.objs.size≠it:=by obtain⟨o,q,_⟩:=hit;exact Ec (As q)
  have hT2:h2.get? s.heap.objs.size=some {cls:=.type "tuple",data:=.seq #[.int ((k+i:Nat):Int) tk,.str ⟨#[c]⟩ u]}:=(hs2.2 _ hTe).trans hT
  have hS':h1.IsStrIter it "str_ascii_iterator" z tz (i+1):=by
   have q:=hS.2
   rwa [show k+i+1-k=i+1 by omega]at q
  have I2:Inv X pins σ (upd H s.heap.objs.size (.tup [.int ((k+i:Nat):Int),.str ⟨#[c]⟩])) {s with heap:=h2,toks:=tk+1}:=by
   refine I.turnLaid (ch:=[e,it]) hf (λb u hb q=>(hs2.2 b (λz=>hb (by simp[z]))).trans (kk b u (λz=>hb (by simp[z])) (λz=>hb (by simp[z])) q)) (Nat.le_refl _) ⟨bH (by show 2<=_;omega),[.int ((k+i:Nat):Int) tk,.str ⟨#[c]⟩ u],.cons ⟨tk,rfl⟩ (.cons ⟨u,rfl⟩ .nil),_,hT2,rfl,_,rfl⟩
  refine⟨.ref s.heap.objs.size,_,I2,rfl,⟨_,c,I.hok.fresh (Ai _),rfl,rfl,hcu⟩,⟨⟨_,he2⟩,let ⟨o,ho,r⟩:=hS';⟨o,(hs2.2 it hei.symm).trans ho,r⟩⟩,λb hb=>?_⟩
  rcases Be.mp hb with z|z
  ·rw[z,aG hTe.symm];exact(hf e (by simp)).1
  ·rw[List.mem_singleton.mp z,aG hTi.symm];exact(hf it (by simp)).1
 done:=by
  intro X hP hw hK hc i pins s σ H E I hf st hg;subst hP hw hK;have hx:z.cps.size=i:=hg
  obtain⟨⟨old,he⟩,hit⟩:=st;have D:=gG k (Draws.strAscii (prog:=X.prog) (w:=X.w) (A:=X.A.in1) (show X.A.in1.handled=none from I.ok.hd hc) it z tz)
  refine wpAny_pyNext_enum_endD D he ⟨Fx _ _,by rw[De,hx];exact hit⟩ λh' eb=>⟨rfl,?_⟩
  exact I.turnAll (t':=s.toks) (ch:=[e,it]) hf λb u hb q=>eb b u (λz=>hb (by simp[z])) q
 self:=λ_ _ _ _ _ st h=>let ⟨⟨_,he⟩,_⟩:=st;Gq he h
section
variable {p kp:Pos}
def bZ2(R:Addr->Hp->Prop)(S:Str->Hp->Prop):List V->Hp->Prop:=λvs H=>match vs with|[.ref j]=>R j H|[.str z]=>S z H|_=>False
def cJQ{R:Addr->Hp->Prop}(q:bZ2 R S vs H):(∃j,vs=[.ref j]/\R j H)\/(∃z,vs=[.str z]/\S z H):=by
 unfold bZ2 at q;split at q
 ·exact .inl ⟨_,rfl,q⟩
 ·exact .inr ⟨_,rfl,q⟩
 ·exact q.elim
def cX9(K:W.Frag)(ta tk:TA):TI:=λσ H R=>ta σ H (bZ2 (λa H1=>tk σ H1 (sJ λk H2=>(0<=k/\k<2^62)/\onL (rdL H2 a) (R (Ite K a k.toNat) H2))) λz H1=>tk σ H1 (sJ λk H2=>(0<=k/\k<2^62)/\z.cps.all (· < 128)=true/\R (bJX z k.toNat) H2))
def cZY{σ:St}{tz:Tok}{k:Nat}(I1:Inv X pins σ H1 s1)(he:IsEnum h' (s1.heap.objs.size+1) s1.heap.objs.size ((k:Nat):Int) .none)(hi:h'.IsStrIter s1.heap.objs.size "str_ascii_iterator" z tz 0)(hz:h'.objs.size=s1.heap.objs.size+2)(hk:∀b o,s1.heap.get? b=some o->h'.get? b=some o)(q:R (bJX z k) H1):wpAny (model X.prog X.w) X.A (pyIter (.ref (s1.heap.objs.size+1))) (PIE X pins σ (.Tuple elts x1 tp) R) E {s1 with heap:=h'}:=by
 refine Gq (s:={s1 with heap:=h'}) he ⟨_,[s1.heap.objs.size+1,s1.heap.objs.size],_,_,H1,rfl,I1.kept (t':=s1.toks) hk,aX4 z tz _ _ k (Nat.succ_ne_self _),⟨⟨_,he⟩,hi⟩,λb hb=>?_,q⟩
 have z:s1.heap.objs.size<=b:=by
  rcases Be.mp hb with z|z
  ·rw[z];exact He _
  ·rw[Am.mp z];exact Ai _
 exact I1.fpOk z (I1.hok.fresh z)
def aQ6{kx:Expr}(hg:Gl X "enumerate")(hm:X.mg "enumerate"=none)(ha:PA X [l] ta)(hk:PK X [⟨some "start",kx,kp⟩] tk)(hs:starEach [l] X.env=[(false,eval l X.env)]:=by rfl)(hks:keywordEach [⟨some "start",kx,kp⟩] X.env=[(some ("start" : Str),eval kx X.env)]:=by rfl):PI X (.Tuple elts x1 tp) (.Call (.Name "enumerate" p) [l] [⟨some "start",kx,kp⟩] pos) (cX9 X.K ta tk):=by
 intro pins s σ H R I h;have hs2:backTo pos (starEach [l] X.env)=[(false,eval l X.env)]:=by rw[hs];rfl
 refine Do (gR I hg hm boot_enumerate (nW (by rw[hs2];rfl) (by rw[hks];rfl) ?_))
 rw[hs2];refine evalArgs_kwB (by rw[hks];rfl) ?_
 rw[<-hs2];refine thn (ha pos pins s σ H _ I h) λus s1 ⟨vs,H1,I1,r1,q1⟩=>?_;have e:(backToKw pos (keywordEach [⟨some "start",kx,kp⟩] X.env)).filterMap (·.1)=(["start"]:List Str):=by rw[hks];rfl
 rcases cJQ q1 with⟨a,rfl,q⟩|⟨z,rfl,q⟩
 ·refine thn (hk pos pins s1 σ H1 _ I1 q) λws s2 ⟨zs,H2,I2,r2,q2⟩=>?_;obtain⟨k,rfl,⟨k0,k1⟩,q⟩:=qJ q2;obtain⟨u,rfl,ru⟩:=dA r1;cases ru;obtain⟨u,rfl,t,rfl⟩:=dA r2;unfold onL at q;split at q
  ·rename_i xs ex
   obtain⟨its,rv,p,hz⟩:=I2.list (aY ex);rw[e];refine nO (by unfold Builtin.SmallTypes.fitsIndex;rw[Ap (by omega),Ap (by omega)];rfl) p.isList λh' he hi hz hk=>xH I2 (k:=k.toNat) ?_ hi hz hk q
   rw[show ((k.toNat:Nat):Int)=k by omega]
   exact he
  ·exact q.elim
 ·refine thn (hk pos pins s1 σ H1 _ I1 q) λws s2 ⟨zs,H2,I2,r2,q2⟩=>?_;obtain⟨k,rfl,⟨k0,k1⟩,hz,q⟩:=qJ q2;obtain⟨u,rfl,ru⟩:=dA r1;obtain⟨tz,rfl⟩:=ru;obtain⟨u,rfl,t,rfl⟩:=dA r2;rw[e];refine tY hz (by unfold Builtin.SmallTypes.fitsIndex;rw[Ap (by omega),Ap (by omega)];rfl) λh' he hi hz hk=>cZY I2 (k:=k.toNat) ?_ hi hz hk q
  rw[show ((k.toNat:Nat):Int)=k by omega]
  exact he
end
section
variable {k:Nat} {σ σ0:St}
def cQ5(f:Nat->Nat->Option V)(hl:z.length<sizeLine)(hs:∀(i:Nat) c Hc p (A:VK) (B:Hp->Prop),z.cps.toList[i]?=some c->Same H1 Hc->Hc p=none->(∀Hd,Same (upd Hc p (.tup [.int ((k+i:Nat):Int),.str ⟨#[c]⟩])) Hd->match f i c with|some y=>A y Hd|none=>B Hd)->
 g (.ref p) σ0 (upd Hc p (.tup [.int ((k+i:Nat):Int),.str ⟨#[c]⟩])) λσ2 H2=>Wk σ0 σ2/\tests σ2 H2 λb H3=>if b=true then te σ2 H3 A else B H3)(fin:∀D Hd,H1 D=none->Same H1 Hd->rdL Hd D=some ((List.range z.length).filterMap λi=>f i (z.cps.toList.getD i 0))->Q (.ref D) Hd):dI g tests te σ0 Q (bJX z k) H1:=by
 intro D hD;have hzz:z.cps.size=z.length:=rfl
 refine⟨λi m Hc=>m=z.length-i/\i<=z.length/\Same H1 Hc/\Hc D=some (.lst ((List.range i).filterMap λi=>f i (z.cps.toList.getD i 0))),⟨z.length,by simp,Nat.zero_le _,aF hD _,by rw[aE];rfl⟩,?_⟩
 rintro i m Hc ⟨rfl,hi,sm,hDc⟩;by_cases hlt:i<z.length
 ·refine .inr ⟨hlt,λv H' y=>?_⟩;obtain⟨q,c,hq,rfl,rfl,hz⟩:=y;have hx:z.cps.toList[i]?=some c:=by rw[Dk];exact hz
  have hg:z.cps.toList.getD i 0=c:=by rw[Ac,hx];rfl
  refine hs i c Hc q _ _ hx sm hq λHd sd=>?_;have hDd:Hd D=some (.lst ((List.range i).filterMap λi=>f i (z.cps.toList.getD i 0))):=sd _ _ (aF hq _ _ _ hDc)
  have sH:Same H1 Hd:=sm.trans ((aF hq _).trans sd)
  cases e:f i c with
  |some y=>
   refine⟨_,hDd,?_,z.length-(i+1),by omega,rfl,hlt,λb o hb=>?_,?_⟩
   ·have:=Cs (λi=>f i (z.cps.toList.getD i 0)) (List.range i)
    rw[Bq]at this;omega
   ·rw[aG (bE hb hD)];exact sH b o hb
   ·rw[aE,Cf,Bf,Bi (b:=y) (by rw[hg,e]),Cd]
  |none=>
   refine⟨z.length-(i+1),by omega,rfl,hlt,sH,?_⟩
   rw[hDd,Cf,Bf,Bx (by rw[hg,e]),Cd,Cb]
 ·have e:i=z.length:=by omega
  subst e;exact .inl ⟨hzz,fin D Hc hD sm (aO hDc)⟩
def bJ9(h:ta σ H (bZ2 (λa H1=>tk σ H1 (sJ λk H2=>(0<=k/\k<2^62)/\onL (rdL H2 a) (R (Ite K a k.toNat) H2))) λz H1=>tk σ H1 (sJ λk H2=>(0<=k/\k<2^62)/\z.cps.all (· < 128)=true/\R (bJX z k.toNat) H2))):cX9 K ta tk σ H R:=h
def fQN(h:Q (.int (-i)) H):eZE (.int i) H Q:=h
def cJ6{R:Addr->Hp->Prop}(h:R a H):bZ2 R S [.ref a] H:=h
def dXT{R:Addr->Hp->Prop}(h:S z H):bZ2 R S [.str z] H:=h
end
end
section
variable {a b:Expr} {ta tb:TE} {rest:List Expr}
def cQR:Value->Bool
 |.none=>true
 |_=>false
def bQ4{x:V}(f:cM x=true)(r:RelV x u):eqV x .non=cQR u:=by
 cases x with
 |non=>cases r;rfl
 |bl b=>cases r;rfl
 |int i=>obtain⟨t,rfl⟩:=r;rfl
 |str i=>obtain⟨t,rfl⟩:=r;rfl
 |byt i=>cases f
 |flt i=>cases f
 |ref i=>cases f
 |ty i=>cases f
def bQ3:V->List V->Hp->VK->Prop:=λx vs H Q=>∃(p:Addr) (xs:List V) (j:Nat),x=.ref p/\vs=[.non]/\rdL H p=some xs/\xs.all cM=true/\xs[j]?=some .non/\(∀i y,i<j->xs[i]?=some y->y≠.non)/\Q (.int (j:Int)) H
def cXM:MtR X "list.index" bQ3:=by
 intro pins s σ H x vs v us Q I rx rv h;obtain⟨p,xs,j,rfl,rfl,hp,hf,hj,hb,q⟩:=h;cases rx;obtain⟨u,rfl,ru⟩:=rv.one;cases ru;obtain⟨its,r,pl,hz⟩:=I.list (aY hp);obtain⟨⟨c,dd,dt,sl⟩,ho,hc,n,hd⟩:=pl.isList;obtain rfl:c=.type "list" := hc;obtain rfl:dt=.seq its.toArray n:=hd;have hlen:=r.length
 have hjl:j<xs.length:=(Ad.mp hj).1
 have hn:=iW
 have rel:∀m (hm:m<its.length),∃x,xs[m]?=some x/\cM x=true/\RelV x its[m]:=λm hm=>by
  have hm':m<xs.length:=by omega
  obtain⟨u,hu,ru⟩:=r.get (Aa hm');rw[Aa hm]at hu;cases hu;exact⟨_,Aa hm',Bo.mp hf _ (Ce _),ru⟩
 have fl:∀m (hm:m<its.length) x,xs[m]?=some x->cQR its[m]=eqV x .non:=λm hm x hx=>by
  obtain⟨y,hy,fy,ry⟩:=rel m hm;rw[hx]at hy;cases hy;exact(bQ4 fy ry).symm
 refine Fa Ey ⟨_,ho,rfl⟩ PySem.F.entry_list_index (PySem.F.args_list_index_2 _ _) (SeqAt.list_indexAt p its.toArray n dd sl .none cQR j (by rw[Az];omega) (by omega) ?_ ?_) ⟨ho,λy hy=>?_,⟨.int j,H,I.tok _,⟨_,rfl⟩,q⟩⟩
 ·rw[Fv,fl j (by omega) _ hj]
  rfl
 ·intro m hm hmj;have hm':m<its.length:=by rw[Az]at hm;exact hm
  obtain⟨y,hy,fy,ry⟩:=rel m hm';rw[Fv,fl m hm' _ hy];have:=hb m y hmj hy
  cases y with
  |non=>exact absurd rfl this
  |_=>rfl
 ·have hy':y∈its:=by simpa using hy
  obtain⟨m,hm,rfl⟩:=Bu.mp hy';obtain⟨z,hz,fz,rz⟩:=rel m hm;rw[<-bQ4 fz rz];exact yT rz (show RelV .non .none from rfl) fz rfl
def cZG:List V->Hp->VK->Prop:=λxs H Q=>∃z:Str,xs=[.str z]/\z.length<=sizeLine/\∀l,H l=none->Q (.ref l) (upd H l (.lst (z.cps.toList.map λc=>.str ⟨#[c]⟩)))
def dXK(hc:X.calm=true):CallR X (.type "list") cZG:=by
 intro pins s σ H xs us Q I r h;obtain⟨z,rfl,hl,q⟩:=h;obtain⟨u,rfl,t,rfl⟩:=dA r;refine call_list_str (I.ok.hd hc) z t (λh' tk acc c' hk hS hacc=>?_) hl;have hsz:z.cps.toList.length=z.length:=by simp[Str.length]
 refine⟨.ref s.heap.objs.size,_,I.laid (t':=tk) hk (Ai _) (show ObjOk X.prog X.w _ h' _ (.lst (z.cps.toList.map λc=>.str ⟨#[c]⟩)) from⟨by rw[Ab,hsz];exact hl,acc.toList,c',yU ?_ λj x u hx hu=>?_,hS⟩),rfl,q _ (I.hok.fresh (Ai _))⟩
 ·rw[Ab,hsz,Eb,hacc.1];rfl
 ·obtain⟨c,w,hc,rfl⟩:=hacc.2 j u (by rw[<-Dk];exact hu)
  rw[Ae,Dk,hc]at hx;cases hx;exact⟨w,rfl⟩
section
variable {p:Addr}
def aJM{σ0:St}(f:Nat->Option V)(hl:z.length<sizeLine)(hs:∀(i:Nat) c Hc (A:VK) (B:Hp->Prop),z.cps.toList[i]?=some c->Same H1 Hc->(∀Hd,Same Hc Hd->match f c with|some y=>A y Hd|none=>B Hd)->
 g (.str ⟨#[c]⟩) σ0 Hc λσ2 H2=>Wk σ0 σ2/\tests σ2 H2 λb H3=>if b=true then te σ2 H3 A else B H3)(fin:∀D Hd,H1 D=none->Same H1 Hd->Hd D=some (.lst (z.cps.toList.filterMap f))->Q (.ref D) Hd):dI g tests te σ0 Q (Its z) H1:=by
 intro D hD;have hzz:z.cps.size=z.length:=rfl
 have hz2:z.cps.toList.length=z.length:=by simp[Str.length]
 refine⟨λi m Hc=>m=z.length-i/\i<=z.length/\Same H1 Hc/\Hc D=some (.lst ((z.cps.toList.take i).filterMap f)),⟨z.length,by simp,Nat.zero_le _,aF hD _,by rw[aE];rfl⟩,?_⟩
 rintro i m Hc ⟨rfl,hi,sm,hDc⟩;by_cases hlt:i<z.length
 ·refine .inr ⟨hlt,λv H' y=>?_⟩;obtain⟨rfl,c,hz,rfl⟩:=y;have hx:z.cps.toList[i]?=some c:=by rw[Dk];exact hz
  refine hs i c H' _ _ hx sm λHd sd=>?_;have hDd:Hd D=some (.lst ((z.cps.toList.take i).filterMap f)):=sd _ _ hDc
  have sH:Same H1 Hd:=sm.trans sd
  cases e:f c with
  |some y=>
   refine⟨_,hDd,?_,z.length-(i+1),by omega,rfl,hlt,λb o hb=>?_,?_⟩
   ·have:=Cs f (z.cps.toList.take i)
    rw[Br]at this;omega
   ·rw[aG (bE hb hD)];exact sH b o hb
   ·rw[aE,Bh,hx,Bf];show some (HO.lst (_++[y]))=some (HO.lst (_++[c].filterMap f))
    rw[Bi e,Cd]
  |none=>
   refine⟨z.length-(i+1),by omega,rfl,hlt,sH,?_⟩
   rw[hDd,Bh,hx,Bf];show some (HO.lst _)=some (HO.lst (_++[c].filterMap f))
   rw[Bx e,Cd,Cb]
 ·have e:i=z.length:=by omega
  subst e;refine .inl ⟨Ai _,fin D Hc hD sm ?_⟩;rw[hDc,Bs (by omega)]
def bXT{σ0:St}(f:Nat->Option V)(hl:n<sizeLine)(hs:∀(i:Nat) Hc (A:VK) (B:Hp->Prop),i<n->Same H1 Hc->(∀Hd,Same Hc Hd->match f i with|some y=>A y Hd|none=>B Hd)->
 g (.int (lo+i)) σ0 Hc λσ2 H2=>Wk σ0 σ2/\tests σ2 H2 λb H3=>if b=true then te σ2 H3 A else B H3)(fin:∀D Hd,H1 D=none->Same H1 Hd->Hd D=some (.lst ((List.range n).filterMap f))->Q (.ref D) Hd):dI g tests te σ0 Q (Itr lo n) H1:=by
 intro D hD;refine⟨λi m Hc=>m=n-i/\i<=n/\Same H1 Hc/\Hc D=some (.lst ((List.range i).filterMap f)),⟨n,by simp,Nat.zero_le _,aF hD _,by rw[aE];rfl⟩,?_⟩
 rintro i m Hc ⟨rfl,hi,sm,hDc⟩;by_cases hlt:i<n
 ·refine .inr ⟨hlt,λv H' y=>?_⟩;obtain⟨rfl,rfl⟩:=y;refine hs i H' _ _ hlt sm λHd sd=>?_;have hDd:Hd D=some (.lst ((List.range i).filterMap f)):=sd _ _ hDc
  have sH:Same H1 Hd:=sm.trans sd
  cases e:f i with
  |some y=>
   refine⟨_,hDd,?_,n-(i+1),by omega,rfl,hlt,λb o hb=>?_,?_⟩
   ·have:=Cs f (List.range i)
    rw[Bq]at this;omega
   ·rw[aG (bE hb hD)];exact sH b o hb
   ·rw[aE,Cf,Bf,Bi e,Cd]
  |none=>
   refine⟨n-(i+1),by omega,rfl,hlt,sH,?_⟩
   rw[hDd,Cf,Bf,Bx e,Cd,Cb]
 ·have e:i=n:=by omega
  subst e;exact .inl ⟨Ai _,fin D Hc hD sm hDc⟩
def cXP(e:rdL H p=some xs)(f:xs.all cM=true)(hj:xs[j]?=some .non)(hb:∀i y,i<j->xs[i]?=some y->y≠.non)(h:Q (.int (j:Int)) H):bQ3 (.ref p) [.non] H Q:=⟨p,xs,j,rfl,rfl,e,f,hj,hb,h⟩
def cJ1(hl:z.length<=sizeLine)(h:∀l,H l=none->Q (.ref l) (upd H l (.lst (z.cps.toList.map λc=>.str ⟨#[c]⟩)))):cZG [.str z] H Q:=⟨z,rfl,hl,h⟩
end
end
def eQD(neg:Bool):R2:=λx y H Q=>∃a ov,y=.ref a/\DGet H a x ov/\Q (.bl (if neg then !ov.isSome else ov.isSome)) H
def eJJ(hu:X.A.units+1<cLine):OpR X (compareOp .In) (eQD false):=by
 intro pins s σ H x y v u Q I rx ry h;obtain⟨a,ov,rfl,g,q⟩:=h;cases ry;exact fQG hu I g rx λs3 I3=>⟨.bl ov.isSome,H,I3,rfl,q⟩
def aQZ(hu:X.A.units+1<cLine):OpR X (compareOp .NotIn) (eQD true):=by
 intro pins s σ H x y v u Q I rx ry h;obtain⟨a,ov,rfl,g,q⟩:=h;cases ry;exact dX4 hu I g rx λs3 I3=>⟨.bl (!ov.isSome),H,I3,rfl,q⟩
def kG{σ0:St}{xs:List V}(f:V->Option V)(ha:rdL H1 a=some xs)(hl:xs.length<sizeLine)(hs:∀(i:Nat) x Hc (A:VK) (B:Hp->Prop),xs[i]?=some x->Same H1 Hc->(∀Hd,Same Hc Hd->match f x with|some y=>A y Hd|none=>B Hd)->
 g x σ0 Hc λσ2 H2=>Wk σ0 σ2/\tests σ2 H2 λb H3=>if b=true then te σ2 H3 A else B H3)(fin:∀D Hd,H1 D=none->Same H1 Hd->Hd D=some (.lst (xs.filterMap f))->Q (.ref D) Hd):dI g tests te σ0 Q (Itl K a) H1:=by
 intro D hD;refine⟨λi m Hc=>m=xs.length-i/\i<=xs.length/\Same H1 Hc/\Hc D=some (.lst ((xs.take i).filterMap f)),⟨xs.length,by simp,Nat.zero_le _,aF hD _,by rw[aE];rfl⟩,?_⟩
 rintro i m Hc ⟨rfl,hi,sm,hDc⟩;have hr:=aK sm ha
 by_cases hlt:i<xs.length
 ·refine .inr ⟨⟨xs,xs[i],aY hr,by simp[hlt]⟩,λv H' y=>?_⟩
  obtain⟨rfl,hz⟩:=y;have hx:xs[i]?=some v:=hz xs (aY hr)
  refine hs i v H' _ _ hx sm λHd sd=>?_;have hDd:Hd D=some (.lst ((xs.take i).filterMap f)):=sd _ _ hDc
  have sH:Same H1 Hd:=sm.trans sd
  cases e:f v with
  |some y=>
   refine⟨_,hDd,?_,xs.length-(i+1),by omega,rfl,hlt,λb o hb=>?_,?_⟩
   ·have:=Cs f (xs.take i)
    rw[Br]at this;omega
   ·rw[aG (bE hb hD)];exact sH b o hb
   ·rw[aE,Bh,hx,Bf];show some (HO.lst (_++[y]))=some (HO.lst (_++[v].filterMap f))
    rw[Bi e,Cd]
  |none=>
   refine⟨xs.length-(i+1),by omega,rfl,hlt,sH,?_⟩
   rw[hDd,Bh,hx,Bf];show some (HO.lst _)=some (HO.lst (_++[v].filterMap f))
   rw[Bx e,Cd,Cb]
 ·have e:i=xs.length:=by omega
  subst e;refine .inl ⟨⟨xs,aY hr,Ai _⟩,fin D Hc hD sm ?_⟩;rw[hDc,Bs (by omega)]
def cQ1{neg:Bool}(e:Rd H a (.dK kvs))(h:Q (.bl (if neg then !(bT kvs (Sum.inr z)).isSome else (bT kvs (Sum.inr z)).isSome)) H):eQD neg (.str z) (.ref a) H Q:=⟨a,_,rfl,.inl ⟨kvs,.inr z,e,rfl,rfl⟩,h⟩
section
open PySem.Builtin PySem.Builtin.Str
def vR:∀l:List (Str×Tok),Vals ((l.map (·.1)).map V.str) (strValues l)
 |[]=>.nil
 |p::r=>.cons ⟨p.2,rfl⟩ (vR r)
def bJD:V->List V->Hp->VK->Prop:=λx vs H Q=>∃z y:Str,x=.str z/\vs=[.str y]/\(y.length==0)=false/\z.length+2<=sizeLine/\∀l,H l=none->Q (.ref l) (upd H l (.lst ((Txt.split z y).map V.str)))
def xI:MtR X "str.split" bJD:=by
 intro pins s σ H x vs v us Q I rx rv h;obtain⟨z,y,rfl,rfl,hy,hsz,q⟩:=h;obtain⟨t,rfl⟩:=rx;obtain⟨u,rfl,ru⟩:=rv.one;obtain⟨u,rfl⟩:=ru;have hn:(partsBetween z (occurrences z y 0 z.length (z.length+1)) y.length).length<=sizeLine:=by
  have e1:=StrLaws.occ_length_le z y 0 z.length (z.length+1)
  rw[length_partsBetween];omega
 have fin:∀(l:List (Str×Tok)) (k:Nat),l.map (·.1)=Txt.split z y->(Txt.split z y).length<=sizeLine->EP X pins σ Q (.ref s.heap.objs.size) {s with heap:=s.heap.push {cls:=.type "list",data:=.seq (strValues l).toArray},toks:=k}:=λl k e hl=>
  ⟨.ref _,_,I.lnew (ys:=(Txt.split z y).map V.str) (t':=k) (by rw[<-e];exact vR l) (by rw[Ab];exact hl),rfl,q _ I.fresh⟩
 cases h1:(decide (z.length<y.length) || decide (strKind z<strKind y))
 ·cases hf:(occurrences z y 0 z.length (z.length+1)).isEmpty
  ·have es:Txt.split z y=partsBetween z (occurrences z y 0 z.length (z.length+1)) y.length:=(if_neg (ne_true_of_eq_false h1)).trans (if_neg (ne_true_of_eq_false hf))
   refine Fa F.slot_str_split (Hj _ _ _) F.entry_str_split (F.args_str_split_2 _ _) (meets_str_split_sep z y t u h1 hy hf (by omega) hn) ?_
   show wants _ _ _ {s with toks:=_,heap:=s.heap.push {cls:=.type "list",data:=.seq (strsFrom s.toks (partsBetween z (occurrences z y 0 z.length (z.length+1)) y.length)).toArray}}
   rw[strsFrom_eq];exact fin (numbered s.toks _) _ ((numbered_texts _ _).trans es.symm) (by rw[es];exact hn)
  ·have es:Txt.split z y=[z]:=(if_neg (ne_true_of_eq_false h1)).trans (if_pos hf)
   exact Fa F.slot_str_split (Hj _ _ _) F.entry_str_split (F.args_str_split_2 _ _) (meets_str_split_not_found z y t u h1 hy hf)
    (fin [(z,t)] s.toks es.symm (by rw[es];exact bH (by show 1<=_;omega)))
 ·have es:Txt.split z y=[z]:=if_pos h1
  exact Fa F.slot_str_split (Hj _ _ _) F.entry_str_split (F.args_str_split_2 _ _) (meets_str_split_cannot_occur z y t u h1)
   (fin [(z,t)] s.toks es.symm (by rw[es];exact bH (by show 1<=_;omega)))
def xN{y:Str}(hy:(y.length==0)=false)(hl:z.length<=10000)(h:∀l,H l=none->Q (.ref l) (upd H l (.lst ((Txt.split z y).map V.str)))):bJD (.str z) [.str y] H Q:=⟨z,y,rfl,rfl,hy,bH (by omega),h⟩
def jc:List (List Nat)->List Nat
 |[]=>[]
 |[t]=>t
 |t::u::r=>t++32::jc (u::r)
def wX:∀L:List Str,(Str.join ⟨#[32]⟩ L).cps.toList=jc (L.map λz=>z.cps.toList)
 |[]=>rfl
 |[z]=>rfl
 |z::y::r=>by
  have e:Str.join ⟨#[32]⟩ (z::y::r)=z++⟨#[32]⟩++Str.join ⟨#[32]⟩ (y::r):=rfl
  rw[e,FlT.app_cps,FlT.app_cps,wX (y::r)];show z.cps.toList++[32]++_=z.cps.toList++32::_
  rw[Fn];rfl
def wO:∀(t u a b:List Nat),32∉t->32∉u->t++32::a=u++32::b->t=u/\a=b
 |[],[],a,b,_,_,h=>by injection h with _ h;exact⟨rfl,h⟩
 |[],c::u,a,b,_,h2,h=>by injection h with h _;exact absurd (by rw[h];exact Ak) h2
 |c::t,[],a,b,h1,_,h=>by injection h with h _;exact absurd (by rw[<-h];exact Ak) h1
 |c::t,d::u,a,b,h1,h2,h=>by
  injection h with e h
  obtain⟨e1,e2⟩:=wO t u a b (λm=>h1 (Aj _ m)) (λm=>h2 (Aj _ m)) h;exact⟨by rw[e,e1],e2⟩
def cZP:∀(L M:Q6),L≠[]->M≠[]->(∀t∈L,32∉t)->(∀t∈M,32∉t)->jc L=jc M->L=M
 |[],_,h,_,_,_,_=>absurd rfl h
 |_::_,[],_,h,_,_,_=>absurd rfl h
 |[t],[u],_,_,_,_,h=>by rw[show t=u from h]
 |[t],u::v::r,_,_,h1,_,h=>by
  have e:t=u++32::jc (v::r):=h
  exact absurd (by rw[e];exact Bv _ Ak) (h1 t Ak)
 |t::u::r,[v],_,_,_,h2,h=>by
  have e:t++32::jc (u::r)=v:=h
  exact absurd (by rw[<-e];exact Bv _ Ak) (h2 v Ak)
 |t::u::r,v::w::q,_,_,h1,h2,h=>by
  obtain⟨e1,e2⟩:=wO t v _ _ (h1 t Ak) (h2 v Ak) h;rw[e1,cZP (u::r) (w::q) (λz=>nomatch z) (λz=>nomatch z) (λx hx=>h1 x (Aj _ hx)) (λx hx=>h2 x (Aj _ hx)) e2]
def bJ6(x y:Str):Txt.split x y≠[]:=by
 unfold Txt.split;split
 ·exact λz=>nomatch z
 ·split
  ·exact λz=>nomatch z
  ·intro z;have:=Dm List.length z
   rw[length_partsBetween]at this;cases this
def aXM{L:List Str}(hn:L≠[])(hf:∀z∈L,32∉z.cps.toList):Txt.split (Txt.join ⟨#[32]⟩ L) ⟨#[32]⟩=L:=by
 have e1:=StrLaws.join_split (Txt.join ⟨#[32]⟩ L) ⟨#[32]⟩
 have f1:=StrLaws.split_free (Txt.join ⟨#[32]⟩ L) 32
 have n1:=bJ6 (Txt.join ⟨#[32]⟩ L) ⟨#[32]⟩
 have e2:Txt.join ⟨#[32]⟩ L=Str.join ⟨#[32]⟩ L:=StrLaws.glued_eq_join _ _
 generalize Txt.split (Txt.join ⟨#[32]⟩ L) ⟨#[32]⟩=M at e1 f1 n1 ⊢;rw[e2]at e1;have e3:=Dm (λz:Str=>z.cps.toList) e1
 rw[wX,wX]at e3;have q:=cZP _ _ (by intro z;exact n1 (List.map_eq_nil_iff.mp z)) (by intro z;exact hn (List.map_eq_nil_iff.mp z)) (λt ht=>by obtain⟨z,hz,rfl⟩:=Ba.mp ht;exact f1 z hz) (λt ht=>by obtain⟨z,hz,rfl⟩:=Ba.mp ht;exact hf z hz) e3
 exact List.map_inj_right (λa b h=>FlT.str_ext h) |>.mp q
end
def dZO:List V->Hp->VK->Prop:=λxs H Q=>∃(p:Addr) (ns:List Int),xs=[.ref p]/\rdL H p=some (ns.map V.int)/\0<ns.length/\∀m,m∈ns->(∀a∈ns,m<=a)->Q (.int m) H
def eQX(hc:X.calm=true):CallR X (.builtin "min") dZO:=by
 intro pins s σ H xs us Q I r h;obtain⟨p,ns,rfl,hp,hn,q⟩:=h;obtain⟨u,rfl,ru⟩:=dA r;cases ru;obtain⟨its,rv,pl,hz⟩:=I.list (aY hp);have hl:=pl.isList
 have hlt:p<s.heap.objs.size:=by obtain⟨_,e,_⟩:=hl;exact As e
 have hle:its.length=ns.length:=by have:=rv.length;rw[Ab]at this;omega
 have at':∀(i:Nat) (v:Value),its.toArray[i]?=some v->∃t,v=Value.int (ns.getD i 0) t:=λi v hv=>by
  have hv':its[i]?=some v:=by simpa using hv
  have hi:i<ns.length:=by rw[<-hle];exact(Ad.mp hv').1
  obtain⟨u,hu,ru⟩:=rv.get (show (ns.map V.int)[i]?=some (.int ns[i]) by rw[Ae,Aa hi];rfl)
  rw[hv']at hu;cases hu;obtain⟨t,rfl⟩:=ru;exact⟨t,by rw[Ac,Aa hi];rfl⟩
 refine call_min_walk (Dr hl ?_);refine⟨s.heap.objs.size,[s.heap.objs.size,p],[s.heap.objs.size],its.toArray.size,_,_,_,rfl,Walks.list (A:=X.A.in1) (I.ok.hd hc) _ p (Bc hlt) its.toArray,
  ⟨⟨_,Av _ rfl,rfl,rfl⟩,hl.push _⟩,λb hb=>?_,by rw[Az];omega,CmpOf.ints_lt (λi=>ns.getD i 0) at',λv h' tk hv hk=>?_⟩
 ·rw[show ({s with heap:=_}:Shared).heap=_ from rfl]
  simp only[List.mem_cons,List.not_mem_nil,or_false]at hb;rcases hb with e|e
  ·rw[e];simp[Heap.push]
  ·rw[e];exact Nat.lt_of_lt_of_le hlt (by simp[Heap.push])
 ·obtain⟨t,rfl⟩:=at' _ _ hv;obtain⟨h1,h2⟩:=argBest_lt (λi=>ns.getD i 0) (its.toArray.size-1);rw[Az,hle]at h1 h2;have hb:argBest (λi j=>decide (ns.getD i 0<ns.getD j 0)) (its.toArray.size-1)<ns.length:=by rw[Az,hle];omega
  refine⟨.int _,H,I.kept (LSm.kept_iter hk),⟨_,rfl⟩,q _ ?_ λa ha=>?_⟩
  ·rw[Ac,Aa hb];exact Ce _
  ·obtain⟨j,hj,e⟩:=Bu.mp ha;have:=h2 j (by omega)
   rw[Az,hle];rw[<-e];have e2:ns.getD j 0=ns[j]:=by rw[Ac,Aa hj];rfl
   rw[<-e2];exact this
def eQZ{p:Addr}{ns:List Int}(e:rdL H p=some (ns.map V.int))(hn:0<ns.length)(h:∀m,m∈ns->(∀a∈ns,m<=a)->Q (.int m) H):dZO [.ref p] H Q:=⟨p,ns,rfl,e,hn,h⟩
def zW{id:String}{args:List (Bool×Sem Value)}{kw:List (Option Str×Sem Value)}{Q:Q0}(h1:args.any (·.1)=false)(h2:kw.any (·.1.isNone)=false)(h:wpAny M A (evalArgs (.builtin id) true args kw) (λa s1=>wpAny M A (call (.builtin id) a.pos a.kw) Q E s1) E s):wpAny M A (callWith pos (.builtin id) [] args kw) Q E s:=by
 unfold callWith;refine Af (Cm (Cp h (λa s1 q1=>Af (Em ?_)) λ_ _ x=>x));rw[h1,h2];exact Af (An (Af (Cp q1 (λr s2 hr=>Af (Cm (wpAny_point (An hr)))) λ_ _ x=>x)))
section
variable {a b c:Expr} {p:Pos}
def sA(lo hi:Int):Nat:=(lo-hi).toNat
def dJC(lo hi:Int):Builtin.Range.rangeSize lo hi (-1)=((sA lo hi:Nat):Int):=by
 unfold Builtin.Range.rangeSize sA;rw[if_neg (by decide)]
 split
 ·simp;omega
 ·omega
def eXW{hi:Int}(h1:-1000000<=lo)(h2:lo<=1000000)(h3:-1000000<=hi)(h4:hi<=1000000):Builtin.Range.small lo hi (-1)=true:=by
 have hs:=dJC lo hi
 unfold Builtin.Range.small;rw[hs];unfold sA;simp only[Builtin.Range.rangeFitsLong,Bool.and_eq_true,Bool.or_eq_true,decide_eq_true_eq,beq_iff_eq];rcases Int.lt_or_le hi lo with hl|hl
 ·refine⟨by omega,.inr ?_⟩
  rw[if_neg (by decide),Fw]
  exact⟨Ap (by omega),Ap (by omega)⟩
 ·refine⟨by omega,.inl ?_⟩
  omega
def dZT(ta:TA):TI:=λσ H R=>ta σ H (cZX λi j k H1=>(-1000000<=i/\i<=1000000/\-1000000<=j/\j<=1000000/\k=-1)/\R (cXD i (-1) (sA i j)) H1)
def bZF{σ:St}{hi:Int}{t u v:Tok}{tk:Nat}(I:Inv X pins σ H s)(h1:-1000000<=lo)(h2:lo<=1000000)(h3:-1000000<=hi)(h4:hi<=1000000)(q:R (cXD lo (-1) (sA lo hi)) H):wpAny (model X.prog X.w) X.A (pyIter (.ref s.heap.objs.size)) (PIE X pins σ tg R) E {s with heap:=s.heap.push {cls:=.type "range",data:=.fields #[.int lo t,.int hi u,.int (-1) v]},toks:=tk}:=by
 refine wpAny_pyIter_range (IsRange.new ..) (eXW h1 h2 h3 h4) ?_;have I1:Inv X pins σ H {s with heap:=s.heap.push {cls:=.type "range",data:=.fields #[.int lo t,.int hi u,.int (-1) v]},toks:=tk}:=I.kept λb o e=>Ah _ e
 refine⟨(s.heap.push {cls:=.type "range",data:=.fields #[.int lo t,.int hi u,.int (-1) v]}).objs.size,[(s.heap.push {cls:=.type "range",data:=.fields #[.int lo t,.int hi u,.int (-1) v]}).objs.size],_,_,H,rfl,
  I1.kept (t':=tk) λb o e=>Ah _ e,aQ0 _ lo (-1) (sA lo hi),?_,λb hb=>?_,q⟩
 ·have e1:lo+((0:Nat):Int)*(-1)=lo:=by simp
  have e2:((sA lo hi:Nat):Int)-((0:Nat):Int)=Builtin.Range.rangeSize lo hi (-1):=by rw[dJC];simp
  show IsRangeIter _ _ (lo+((0:Nat):Int)*(-1)) (((sA lo hi:Nat):Int)-((0:Nat):Int)) (-1)
  rw[e1,e2];exact Av _ rfl
 ·have e:b=(s.heap.push {cls:=.type "range",data:=.fields #[.int lo t,.int hi u,.int (-1) v]}).objs.size:=by simpa using hb
  subst e;exact I1.fpOk (Ai _) (I1.hok.fresh (Ai _))
def bXZ(hg:Gl X "range")(hm:X.mg "range"=none)(ha:PA X [a,b,c] ta)(hs:starEach [a,b,c] X.env=[(false,eval a X.env),(false,eval b X.env),(false,eval c X.env)]:=by rfl)(hs2:starEach [b,c] X.env=[(false,eval b X.env),(false,eval c X.env)]:=by rfl):PI X tg (.Call (.Name "range" p) [a,b,c] [] pos) (dZT ta):=by
 intro pins s σ H R I h;refine Call_ (gR I hg hm boot_range (Dc (thn (ha pos pins s σ H _ I h) λus s1 ⟨vs,H1,I1,r1,q1⟩=>?_) (by rw[hs,hs2]) (by rw[hs2];rfl)))
 obtain⟨i,j,k,e,⟨b1,b2,b3,b4,rfl⟩,q⟩:=cJT q1;subst e;cases r1 with
 |cons r rr=>
  cases rr with
  |cons r' rr=>
   cases rr with
   |cons r'' rr=>
    cases rr;obtain⟨t,rfl⟩:=r;obtain⟨t',rfl⟩:=r';obtain⟨t'',rfl⟩:=r'';exact call_range_3 (by omega) (bZF I1 b1 b2 b3 b4 q) (Or.inl (PyProof.noPylong_small (by omega)))
def cJX{σ:St}(h:ta σ H (cZX λi j k H1=>(-1000000<=i/\i<=1000000/\-1000000<=j/\j<=1000000/\k=-1)/\R (cXD i (-1) (sA i j)) H1)):dZT ta σ H R:=h
end
section
variable {σ0:St}
def fA{f:Nat->Option V}{i:Nat}{y:V}(h:f i=some y):(List.range (i+1)).filterMap f=(List.range i).filterMap f++[y]:=by
 rw[Cf,Bf,Bi h,Cd]
def lS{f:Nat->Option V}{i:Nat}(h:f i=none):(List.range (i+1)).filterMap f=(List.range i).filterMap f:=by
 rw[Cf,Bf,Bx h,Cd,Cb]
def dP{xs:List V}(f:Nat->Option V)(ha:rdL H1 a=some xs)(hl:xs.length<sizeLine)(hs:∀(i:Nat) x Hc (A:VK) (B:Hp->Prop),xs[i]?=some x->Same H1 Hc->(∀y,f i=some y->∀Hd,Same Hc Hd->A y Hd)->(f i=none->∀Hd,Same Hc Hd->B Hd)->
 g x σ0 Hc λσ2 H2=>Wk σ0 σ2/\tests σ2 H2 λb H3=>if b=true then te σ2 H3 A else B H3)(fin:∀D Hd,H1 D=none->Same H1 Hd->Hd D=some (.lst ((List.range xs.length).filterMap f))->Q (.ref D) Hd):dI g tests te σ0 Q (Itl K a) H1:=by
 refine gW (n:=xs.length) (λD i ys Hc=>Same H1 Hc/\ys=(List.range i).filterMap f) hl (λD hD=>⟨aF hD _,rfl⟩)
  (λD i ys Hc _ r h=>⟨xs,xs[i],aY (aK r.1 ha),by simp[h]⟩) (λD ys Hc _ r=>⟨xs,aY (aK r.1 ha),Nat.le_refl _⟩) ?_ ?_
 ·rintro D i ys Hc x H' A B hD hi ⟨sm,rfl⟩ hDc ⟨rfl,hz⟩ ha' hb;refine hs i x H' A B (hz xs (aY (aK sm ha))) sm (λy hy Hd sd=>?_) (λhn Hd sd=>?_)
  ·exact ha' _ _ (sd _ _ hDc) ⟨bJ hD (sm.trans sd),(fA hy).symm⟩
  ·exact hb _ (sd _ _ hDc) ⟨sm.trans sd,(lS hn).symm⟩
 ·rintro D ys Hc hD ⟨sm,rfl⟩ hDc _;exact fin D Hc hD sm hDc
def cZ4{k:Nat}{xs:List V}(f:Nat->Option V)(ha:rdL H1 a=some xs)(hl:xs.length<sizeLine)(hs:∀(i:Nat) x Hc p (A:VK) (B:Hp->Prop),xs[i]?=some x->Same H1 Hc->Hc p=none->(∀y,f i=some y->∀Hd,Same (upd Hc p (.tup [.int ((k+i:Nat):Int),x])) Hd->A y Hd)->(f i=none->∀Hd,Same (upd Hc p (.tup [.int ((k+i:Nat):Int),x])) Hd->B Hd)->
 g (.ref p) σ0 (upd Hc p (.tup [.int ((k+i:Nat):Int),x])) λσ2 H2=>Wk σ0 σ2/\tests σ2 H2 λb H3=>if b=true then te σ2 H3 A else B H3)(fin:∀D Hd,H1 D=none->Same H1 Hd->Hd D=some (.lst ((List.range xs.length).filterMap f))->Q (.ref D) Hd):dI g tests te σ0 Q (Ite K a k) H1:=by
 refine gW (n:=xs.length) (λD i ys Hc=>Same H1 Hc/\ys=(List.range i).filterMap f) hl (λD hD=>⟨aF hD _,rfl⟩)
  (λD i ys Hc _ r h=>⟨xs,xs[i],aY (aK r.1 ha),by simp[h]⟩) (λD ys Hc _ r=>⟨xs,aY (aK r.1 ha),rfl⟩) ?_ ?_
 ·rintro D i ys Hc x H' A B hD hi ⟨sm,rfl⟩ hDc ⟨q,z,hq,rfl,rfl,hz⟩ ha' hb;refine hs i z Hc q A B (hz xs (aY (aK sm ha))) sm hq (λy hy Hd sd=>?_) (λhn Hd sd=>?_)
  ·exact ha' _ _ (sd _ _ (aF hq _ _ _ hDc)) ⟨bJ hD (sm.trans ((aF hq _).trans sd)),(fA hy).symm⟩
  ·exact hb _ (sd _ _ (aF hq _ _ _ hDc)) ⟨sm.trans ((aF hq _).trans sd),(lS hn).symm⟩
 ·rintro D ys Hc hD ⟨sm,rfl⟩ hDc _;exact fin D Hc hD sm hDc
def cZS{k:Nat}{xs:List V}(f:Nat->Option (List V))(ha:rdL H1 a=some xs)(hl:xs.length<sizeLine)(hs:∀(i:Nat) x Hc p (A:VK) (B:Hp->Prop),xs[i]?=some x->Same H1 Hc->Hc p=none->(∀t,f i=some t->∀q Hd,Hc q=none->Same (upd Hc p (.tup [.int ((k+i:Nat):Int),x])) Hd->Hd q=some (.tup t)->A (.ref q) Hd)->(f i=none->∀Hd,Same (upd Hc p (.tup [.int ((k+i:Nat):Int),x])) Hd->B Hd)->
 g (.ref p) σ0 (upd Hc p (.tup [.int ((k+i:Nat):Int),x])) λσ2 H2=>Wk σ0 σ2/\tests σ2 H2 λb H3=>if b=true then te σ2 H3 A else B H3)(fin:∀D Hd ps,H1 D=none->Same H1 Hd->Hd D=some (.lst (ps.map V.ref))->ps.length<=xs.length->Tups H1 Hd ps ((List.range xs.length).filterMap f)->Q (.ref D) Hd):dI g tests te σ0 Q (Ite K a k) H1:=by
 refine gW (n:=xs.length) (λD i ys Hc=>Same H1 Hc/\∃ps,ys=ps.map V.ref/\Tups H1 Hc ps ((List.range i).filterMap f)) hl (λD hD=>⟨aF hD _,[],rfl,.nil⟩)
  (λD i ys Hc _ r h=>⟨xs,xs[i],aY (aK r.1 ha),by simp[h]⟩) (λD ys Hc _ r=>⟨xs,aY (aK r.1 ha),rfl⟩) ?_ ?_
 ·rintro D i ys Hc x H' A B hD hi ⟨sm,ps,rfl,tp⟩ hDc ⟨q,z,hq,rfl,rfl,hz⟩ ha' hb;refine hs i z Hc q A B (hz xs (aY (aK sm ha))) sm hq (λt ht p Hd hp sd hd=>?_) (λhn Hd sd=>?_)
  ·have hDd:=sd _ _ (aF hq _ _ _ hDc)
   refine ha' _ _ hDd ⟨bJ hD (sm.trans ((aF hq _).trans sd)),ps++[p],by rw[Ao];rfl,?_⟩
   rw[Cf,Bf,Bi ht,Cd];exact((tp.keep ((aF hq _).trans sd)).app (.one (none_of sm hp) hd)).put hDd
  ·refine hb _ (sd _ _ (aF hq _ _ _ hDc)) ⟨sm.trans ((aF hq _).trans sd),ps,rfl,?_⟩;rw[Cf,Bf,Bx hn,Cd,Cb];exact tp.keep ((aF hq _).trans sd)
 ·rintro D ys Hc hD ⟨sm,ps,rfl,tp⟩ hDc hy;exact fin D Hc ps hD sm hDc (by rw[Ab]at hy;exact hy) tp
end
section
variable {jt dq:Addr} {n0:Nat} {en:Array DictEntry} {od:Obj}
def cZ8{Q:Option Value->Shared->Prop}(hit:s.heap.IsKeyIter jt dq n0 en.size ep)(hod:s.heap.get? dq=some od)(hdd:od.data=.dict en ep)(hi:n0<en.size)(hq:∀h',h'.IsKeyIter jt dq (n0+1) en.size ep->Heap.SameBut jt s.heap h'->Q (some en[n0].key) {s with heap:=h'}):wpAny (model prog w) A (pyNext (.ref jt)) Q E s:=by
 obtain⟨oi,hoi,ci,di⟩:=id hit;have ow:Builtin.Dict_items.ownsTuple "dict_keyiterator"=false:=by decide
 have tI:=hit.typeIs
 unfold pyNext;refine Af (wpAny_attempt (wpAny_callSpecial?_slot (name:=Str.ofString "__next__") tI Ea (Gx Ea tI F.entry_dict_keyiterator_next ?_ (F.args_dict_keyiterator_next_1 _))));refine Af (An (Af (Af ?_)));refine Af (Dy tI (An (Af (wpAny_fieldsOf hoi di ?_))));simp only[ow,Bool.false_eq_true,if_false];show wpAny _ _ (if (Value.ref dq==Value.none)=true then _ else _) _ _ s
 rw[if_neg (by exact Ar)]
 refine Af (An (Af (wpAny_dictEntries hod hdd ?_)));rw[if_neg (by simp)]
 refine Af (An (Af (wpAny_dictEpoch hod hdd ?_)));rw[if_neg (by simp)]
 refine An ?_;simp only[show ¬((n0:Int)<0) by omega,if_false,Int.toNat_natCast,Array.getElem?_eq_getElem hi]
 refine Af (Af (Dy tI (An ?_)));refine Af (wpAny_isOneOf_keyiter tI ?_);show wpAny _ _ (setField (.ref jt) 1 (rawInt ((n0:Int)+1)) >>= _) _ _ s
 have nx:(s.heap.update jt (Obj.mapFields (·.setIfInBounds 1 (rawInt ((n0:Int)+1))))).IsKeyIter jt dq (n0+1) en.size ep:=
  ⟨_,Heap.get?_update_self _ hoi (Obj.isFreed_of_fields (Obj.data_mapFields di _)),(Obj.cls_mapFields ..).trans ci,by rw[Obj.data_mapFields di];simp[rawInt]⟩
 refine wpAny_bind (wpAny_setField hoi di (by simp) (wpAny_bind (wpAny_holding (wpAny_bind (wpAny_isOneOf_keyiter (s:={s with heap:=s.heap.update jt (Obj.mapFields (·.setIfInBounds 1 (rawInt ((n0:Int)+1))))}) nx.typeIs ?_)))))
 show wpAny _ _ (pure en[n0].key) _ _ _
 exact An (An ⟨_,rfl,An (hq _ nx (Heap.SameBut.update ..))⟩)
def bX6{Q:Option Value->Shared->Prop}(hh:A.handled=none)(hit:s.heap.IsKeyIter jt dq en.size en.size ep)(hod:s.heap.get? dq=some od)(hdd:od.data=.dict en ep)(hq:∀h',Heap.ExtBut jt s.heap h'->Q none {s with heap:=h'}):wpAny (model prog w) A (pyNext (.ref jt)) Q E s:=by
 obtain⟨oi,hoi,ci,di⟩:=id hit;have ow:Builtin.Dict_items.ownsTuple "dict_keyiterator"=false:=by decide
 have tI:=hit.typeIs
 unfold pyNext;refine Af (wpAny_attempt (wpAny_callSpecial?_slot (name:=Str.ofString "__next__") tI Ea (Gx Ea tI F.entry_dict_keyiterator_next ?_ (F.args_dict_keyiterator_next_1 _))));refine Af (An (Af (Af ?_)));refine Af (Dy tI (An (Af (wpAny_fieldsOf hoi di ?_))));simp only[ow,Bool.false_eq_true,if_false];show wpAny _ _ (if (Value.ref dq==Value.none)=true then _ else _) _ _ s
 rw[if_neg (by exact Ar)]
 refine Af (An (Af (wpAny_dictEntries hod hdd ?_)));rw[if_neg (by simp)]
 refine Af (An (Af (wpAny_dictEpoch hod hdd ?_)));rw[if_neg (by simp)]
 refine An ?_;simp only[show ¬((en.size:Int)<0) by omega,if_false,Int.toNat_natCast,Array.getElem?_eq_none (Nat.le_refl en.size)]
 refine Af (Af (Dy tI (An ?_)));show wpAny _ _ (setField (.ref jt) 0 .none >>= _) _ _ s
 refine wpAny_bind (wpAny_setField hoi di (by simp) ?_)
 show wpAny _ _ (newExc (Value.type "StopIteration") [] >>= _) _ _ _
 refine Af ?_;simp only[newTuple,newExc];refine wpAny_bind (wpAny_newObj_type (wpAny_bind (m:=firstArgMember _ _) (wpAny_of_eq (a:=Value.none) (by first|rfl|(simp only[firstArgMember];rfl)) (wpAny_newObj_type ?_ (by size_fits)))) (by size_fits))
 simp only[raiseNew];refine Af (wpAny_handled (?_:_));rw[show A.in1.handled=none by exact hh]
 refine Af (An (wpAny_throw ?thr));case thr=>
  refine Af (wpAny_isInstance (b:=true) (T := "StopIteration") ⟨_,Av _ rfl,rfl⟩ isSubtype_stop ?_);exact An (hq _ (((Heap.SameBut.update ..).extBut.push _).push _))
end
def ItT(a:Addr)(o:Obj)(kvs:List (List Key×V)):It:=⟨λi H=>H a=some (.frz o (.dT kvs))/\i<kvs.length,λi H x H'=>H'=H/\∃kv b,kvs[i]?=some kv/\x=.ref b/\H b=some (.tup (kv.1.map kV)),λi H=>H a=some (.frz o (.dT kvs))/\kvs.length=i⟩
def xO{σ:St}{kvs:List (List Key×V)}(I:Inv X pins σ H s)(ha:H a=some (.frz o (.dT kvs)))(hep:∃es,o.data=.dict es ep):kvs.length<=sizeLine/\(a==sysModules)=false/\∃xs es,KT H kvs xs/\s.heap.get? a=some o/\o.data=.dict es ep/\o.ExactDict/\es.toList=xs.map (entryOfKey (tupleKind (bC X.prog X.w))):=by
 have ok:s.heap.get? a=some o/\ObjOk X.prog X.w H s.heap a (.dT kvs):=I.hok a _ ha
 obtain⟨e,z,hd,xs,rel,o',es',ep',ho',hx,hdat,he,_⟩:=ok;rw[e]at ho';cases ho';obtain⟨es,hes⟩:=hep;have q:=hdat
 rw[hes]at q;cases q;exact⟨z,hd,xs,_,rel,e,hdat,hx,he⟩
def aZE(a it:Addr)(o:Obj)(kvs:List (List Key×V))(ep:Nat)(hep:∃es,o.data=.dict es ep):Turn P w K tg (ItT a o kvs) [it] it (λi h=>h.IsKeyIter it a i kvs.length ep) where
 mem:=by simp
 obj:=λi h st b hb=>by
  obtain⟨o,e,c,d⟩:=st;rw[Am.mp hb];exact⟨o,e,λv z=>by rw[d]at z;cases z⟩
 keep:=λi h h' st k=>let ⟨o,ho,r⟩:=st;⟨o,k it (by simp) o ho,r⟩
 item:=by
  intro X hP hw hK hc i pins s σ H E I hf st hg;subst hP hw hK;obtain⟨ha,hi⟩:=hg;obtain⟨z,hd,xs,es,rel,ho,hdat,hx,he⟩:=xO I ha hep;have hlv:=rel.length
  have hsz:es.size=xs.length:=by rw[<-Eb,he,Ab]
  obtain⟨f0,f1,f2,f3,f4,f5⟩:=hf it (by simp)
  obtain⟨⟨k,b,v⟩,hxi,hk1,hk2,_⟩:=tB rel (Aa hi);have hie:i<es.size:=by omega
  have hkey:es[i].key=.ref b:=by
   have q:es[i]?=some (entryOfKey (tupleKind (bC X.prog X.w)) (k,b,v)):=by rw[<-Dk,he,Ae,hxi];rfl
   rw[Array.getElem?_eq_getElem hie]at q;rw[Bg q];rfl
  refine cZ8 (en:=es) (by rw[hsz,<-hlv];exact st) ho hdat hie λh' st' sb=>?_
  rw[hkey];have I1:Inv X pins σ H {s with heap:=h'}:=I.turned (t':=s.toks) (λb o hb e=>(sb.2 b hb).trans e) f0 f1 f3 f4 f5
  obtain⟨oi,e,c,d⟩:=id st';refine⟨.ref b,rfl,qY (s:={s with heap:=h'}) e c d (by decide) ⟨.ref b,H,I1,rfl,⟨rfl,kvs[i],b,Aa hi,rfl,hk2⟩,?_,λb hb=>(hf b hb).1⟩⟩
  rw[hlv,<-hsz];exact st'
 done:=by
  intro X hP hw hK hc i pins s σ H E I hf st hg;subst hP hw hK;obtain⟨ha,hi⟩:=hg;obtain⟨z,hd,xs,es,rel,ho,hdat,hx,he⟩:=xO I ha hep;have hlv:=rel.length
  have hsz:es.size=xs.length:=by rw[<-Eb,he,Ab]
  obtain⟨f0,f1,f2,f3,f4,f5⟩:=hf it (by simp)
  exact bX6 (en:=es) (I.ok.hd hc) (by rw[hsz,<-hlv];rw[<-hi]at st;exact st) ho hdat λh' eb=>⟨rfl,I.turned (t':=s.toks) (λb o hb e=>eb b o hb e) f0 f1 f3 f4 f5⟩
 self:=λ_ _ _ _ _ st h=>wpAny_pyIter_keyiter st h
section
variable {dq:Addr} {en:Array DictEntry} {od:Obj}
def bXJ{Q:Q0}(hs:(dq==sysModules)=false)(hod:s.heap.get? dq=some od)(hx:od.ExactDict)(hdd:od.data=.dict en ep)(hq:Q (.ref s.heap.objs.size) {s with heap:=s.heap.push {cls:=.type "dict_keyiterator",data:=.fields #[.ref dq,.int 0 0,.int en.size 0,.int ep 0]}}):wpAny (model prog w) A (pyIter (.ref dq)) Q E s:=by
 have tD:s.TypeIs (.ref dq) "dict" := ⟨od,hod,hx.1⟩
 refine wpAny_pyIter_slot tD F.slot_dict_iter (Gx F.slot_dict_iter tD F.entry_dict_iter ?_ (F.args_dict_iter_1 _));unfold Builtin.«dict.__iter__» ;refine Af ?_;unfold Builtin.Dict.dictSlotNone ;refine Af (wpAny_notOrdered_dict tD ?_);show wpAny _ _ (pure (Value.ref dq)) _ _ s
 refine An ?_;show wpAny _ _ (Builtin.Dict.showsAll dq >>= _) _ _ s
 unfold Builtin.Dict.showsAll;rw[if_neg (by rw[hs];decide)]
 refine Af (An (Af (wpAny_dictEntries hod hdd (Af (wpAny_dictEpoch hod hdd ?_)))));refine Af (Gp (An ⟨_,rfl, "dict_keyiterator",_,⟨_,Av _ rfl,rfl⟩,F.slot_dict_keyiterator_next.lookup,(?_:_)⟩))
 simpa [rawInt]using hq
end
section
variable {σ:St}
def bXE{kvs:List (List Key×V)}(I:Inv X pins σ H s)(ha:H a=some (.dT kvs)):∃o es ep,s.heap.get? a=some o/\o.data=.dict es ep:=by
 obtain⟨_,_,xs,_,o,es,ep,ho,_,hd,_⟩:=dZS I.hok ha;exact⟨o,es,ep,ho,hd⟩
def cZO{kvs:List (List Key×V)}(I:Inv X pins σ H s)(ha:H a=some (.frz o (.dT kvs))):∃ep,∃es,o.data=.dict es ep:=by
 have ok:s.heap.get? a=some o/\ObjOk X.prog X.w H s.heap a (.dT kvs):=I.hok a _ ha
 obtain⟨e,_,_,xs,_,o',es,ep,ho,_,hd,_⟩:=ok;rw[e]at ho;cases ho;exact⟨ep,es,hd⟩
def oA(H:Hp)(a:Addr)(R:Obj->List (List Key×V)->Hp->Prop):Prop:=(∃kvs,H a=some (.dT kvs)/\∀o,R o kvs (upd H a (.frz o (.dT kvs))))\/∃o kvs,H a=some (.frz o (.dT kvs))/\R o kvs H
def bJG{R:Obj->List (List Key×V)->Hp->Prop}(I:Inv X pins σ H s)(h:oA H a R):∃o kvs H' ep,Inv X pins σ H' s/\H' a=some (.frz o (.dT kvs))/\(∃es,o.data=.dict es ep)/\R o kvs H':=by
 rcases h with⟨kvs,ha,q⟩|⟨o,kvs,ha,q⟩
 ·obtain⟨o,es,ep,ho,hd⟩:=bXE I ha;exact⟨o,kvs,_,ep,I.freeze ha rfl ho,aE,⟨es,hd⟩,q o⟩
 ·obtain⟨ep,es,hd⟩:=cZO I ha;exact⟨o,kvs,H,ep,I,ha,⟨es,hd⟩,q⟩
def cJJ(tl:TE):TI:=λσ H R=>tl σ H (gI λa H1=>oA H1 a λo kvs H2=>R (ItT a o kvs) H2)
def nK(hl:PE X l tl):PI X tg l (cJJ tl):=by
 intro pins s σ H R I h;refine thn (hl pins s σ H _ I h) λv s1 ⟨x,H1,I1,r1,q1⟩=>?_;unfold gI at q1;split at q1
 ·cases r1;rename_i a0 _
  obtain⟨o,kvs,H2,ep,I2,ha,hep,q⟩:=bJG I1 q1;obtain⟨z,hd,xs,es,rel,ho,hdat,hx,he⟩:=xO I2 ha hep;have hsz:es.size=kvs.length:=by rw[<-Eb,he,Ab,rel.length]
  refine bXJ hd ho hx hdat ?_;refine⟨s1.heap.objs.size,[s1.heap.objs.size],_,_,H2,rfl,I2.kept (t':=s1.toks) λb o e=>Ah _ e,aZE a0 _ o kvs ep hep,⟨_,Av _ rfl,rfl,by rw[hsz];rfl⟩,λb hb=>?_,q⟩
  rw[Am.mp hb];exact I2.fpOk (Ai _) (I2.hok.fresh (Ai _))
 ·exact q1.elim
def dZW:V->List V->Hp->VK->Prop:=λx vs H Q=>∃a y ov,x=.ref a/\vs=[y]/\DGet H a y ov/\Q (ov.getD .non) H
end
section
variable {σ:St} {kvs:List (List Key×V)} {k:List Key} {tb:TS}
def cQ6(Pv:Nat->St->Hp->Prop)(h0:Pv 0 σ H)(hl:∀i σ H,i<=kvs.length->Pv i σ H->H a=some (.frz o (.dT kvs)))(hs:∀i kv b σ H,kvs[i]?=some kv->H b=some (.tup (kv.1.map kV))->Pv i σ H->g (.ref b) σ H λσ2 H2=>tb {D with nx:=Pv (i+1),ct:=Pv (i+1),bk:=D.nx} σ2 H2)(hd:∀σ H,Pv kvs.length σ H->D.nx σ H):yP (ItT a o kvs) g tb D σ H:=by
 refine⟨λi m σ H=>m=kvs.length-i/\i<=kvs.length/\Pv i σ H,⟨kvs.length,by simp,Nat.zero_le _,h0⟩,?_⟩
 rintro i m σ H ⟨rfl,hi,p⟩;have hr:=hl i σ H hi p
 by_cases hlt:i<kvs.length
 ·refine .inr ⟨⟨hr,hlt⟩,Pv (i+1),λσ' H' p'=>⟨kvs.length-(i+1),by omega,rfl,hlt,p'⟩,λx H' y=>?_⟩
  obtain⟨rfl,kv,b,hx,rfl,hb⟩:=y;exact hs i kv b σ _ hx hb p
 ·have e:i=kvs.length:=by omega
  subst e;exact .inl ⟨⟨hr,rfl⟩,hd σ H p⟩
def cQE(h:tl σ H (gI λa H1=>oA H1 a λo kvs H2=>R (ItT a o kvs) H2)):cJJ tl σ H R:=h
def xJ{Rw:Obj->List (List Key×V)->Hp->Prop}(e:H a=some (.dT kvs))(h:∀o,Rw o kvs (upd H a (.frz o (.dT kvs)))):oA H a Rw:=.inl ⟨kvs,e,h⟩
def cQ0{Rw:Obj->List (List Key×V)->Hp->Prop}(e:H a=some (.frz o (.dT kvs)))(h:Rw o kvs H):oA H a Rw:=.inr ⟨o,kvs,e,h⟩
def dXI(h:∀p,H p=none->Q (.ref p) (upd H p (.dT []))):cQD σ H Q:=h
def aZ4(e:Rd H a (.dT kvs))(eb:H b=some (.tup (k.map kV)))(l:bT kvs k=some v)(h:Q v H):eZB (.ref a) (.ref b) H Q:=⟨a,v,rfl,.inr ⟨kvs,k,b,e,rfl,eb,l.symm⟩,h⟩
def wU(e:H a=some (.dT kvs))(eb:H b=some (.tup (k.map kV)))(l:kvs.length<sizeLine)(h:D.nx σ (upd H a (.dT (cX kvs k v)))):cZV D σ (.ref a) (.ref b) v H:=⟨a,_,rfl,.inr ⟨kvs,k,b,e,rfl,eb,l,rfl⟩,h⟩
def bQG(e:Rd H a (.dT kvs))(eb:H b=some (.tup (k.map kV)))(h:Q ((bT kvs k).getD .non) H):dZW (.ref a) [.ref b] H Q:=⟨a,_,_,rfl,rfl,.inr ⟨kvs,k,b,e,rfl,eb,rfl⟩,h⟩
end
def bZ8{Q:Int->Shared->Prop}(h:Q 0xFCA86420 {s with toks:=s.toks+1}):wpAny (model prog w) A (pyHash .none) Q E s:=by
 have tN:s.TypeIs .none "NoneType" := rfl
 unfold pyHash pyHashByItsType;refine Af ?_;rw[cRoomFor,if_neg (by decide)]
 refine An (Af (wpAny_specialOf tN F.slot_NoneType_hash.lookup ?_));show wpAny _ _ (if (some (Value.builtin "NoneType.__hash__")==some Value.none)=true then _ else _) Q E s
 rw[if_neg (by rw[beq_builtin_none];decide)]
 refine Af (wpAny_specialOf tN F.slot_NoneType_hash.lookup ?_);show wpAny _ _ (callSpecialIfBoundUnlessNone? .none "__hash__" _ >>= _) Q E s
 refine Af (wpAny_callSpecialIfBoundUnlessNone?_slot tN F.slot_NoneType_hash (Gx F.slot_NoneType_hash tN F.entry_NoneType_hash (show wpAny _ _ (do ret (<-mkInt 0xFCA86420)) _ _ s from wpAny_ret_mkInt ?_) (F.args_NoneType_hash_1 _)))
 show wpAny _ _ (if (decide (-(2:Int)^63<=0xFCA86420)&&decide ((0xFCA86420:Int)<2^63))=true then _ else _) Q E _
 rw[if_pos (by decide)]
 exact An h
def cZD:Option Key->Value->Bool
 |none,.none=>true
 |none,_=>false
 |some k,v=>lV k v
def cS{v:Value}(h:cZD none v=true):v=.none:=by
 cases v<;>first|rfl|(exact absurd h (by decide))|cases h
def mL{k:Key}{v:Value}(h:lV k v=true):v≠.none:=λz=>by
 rcases bS h with⟨i,t,_,e⟩|⟨x,t,_,e⟩ <;> rw[z]at e<;>cases e
def fQU(w:World):Option Key->Int
 |none=>0xFCA86420
 |some k=>eJX w k
def bQS(prog:Program)(w:World):PySem.KeyKind prog w (Option Key) where
 is:=cZD
 hash:=fQU w
 inj:=λv a b ha hb=>by
  cases a with
  |none=>
   cases b with
   |none=>rfl
   |some b=>exact absurd (cS ha) (mL hb)
  |some a=>
   cases b with
   |none=>exact absurd (cS hb) (mL ha)
   |some b=>exact Dm some ((bC prog w).inj v a b ha hb)
 byValue:=λk v h=>by
  cases k with
  |none=>rw[cS h];rfl
  |some k=>exact(bC prog w).byValue k v h
 pyHash:=fun {A E s k v Q} hv h=>by
  cases k with
  |none=>rw[cS hv];exact bZ8 h
  |some k=>exact(bC prog w).pyHash hv h
 eqBool:=fun {A E s a b u v Q} hu hv h=>by
  cases a with
  |none=>
   rw[cS hu];cases b with
   |none=>rw[cS hv];exact SeqAt.EqAt.same _ _ _ _ _ (by simpa using h)
   |some b=>
    have h2:Q false s:=by simpa using h
    rcases bS (show lV b v=true from hv) with⟨j,t,_,rfl⟩|⟨y,t,_,rfl⟩
    ·exact SeqAt.EqAt.none_int _ _ _ _ _ _ h2
    ·exact SeqAt.EqAt.none_str _ _ _ _ _ _ h2
  |some a=>
   cases b with
   |none=>
    rw[cS hv];have h2:Q false s:=by simpa using h
    rcases bS (show lV a u=true from hu) with⟨j,t,_,rfl⟩|⟨y,t,_,rfl⟩
    ·exact SeqAt.EqAt.int_none _ _ _ _ _ _ h2
    ·exact SeqAt.EqAt.str_none _ _ _ _ _ _ h2
   |some b=>
    refine(bC prog w).eqBool hu hv ?_;have e:decide (some a=some b)=decide (a=b):=Dq.mpr ⟨Bg,λz=>by rw[z]⟩
    rw[e]at h;exact h
 «strs» := λk x t v h=>by
  cases k with
  |none=>exact absurd (cS h) (λz=>nomatch z)
  |some k=>exact(bC prog w).strs k x t v h
def eQ0{f:Key->Option Value}(hm:h.MapOf (bC prog w) a f):h.MapOf (bQS prog w) a (λk=>k.bind f):=by
 obtain⟨o,es,ep,ho,hx,hd,hk,hf⟩:=hm;refine⟨o,es,ep,ho,hx,hd,λe he=>?_,λk=>?_⟩
 ·obtain⟨k,h1,h2⟩:=hk e he;exact⟨some k,h1,h2⟩
 ·cases k with
  |some k=>exact hf k
  |none=>
   show findBy cZD es none=none
   unfold findBy;rw[Option.map_eq_none_iff,Array.find?_eq_none];intro e he z;obtain⟨k,h1,_⟩:=hk e he;exact mL h1 (cS z)
def cQM:R2:=λx y H Q=>∃a,y=.ref a/\((∃ov,DGet H a x ov/\Q (.bl ov.isSome) H)\/(x=.non/\∃kvs,Rd H a (.dK kvs)/\Q (.bl false) H))
def dJR(hu:X.A.units+1<cLine):OpR X (compareOp .In) cQM:=by
 intro pins s σ H x y v u Q I rx ry h;obtain⟨a,rfl,h⟩:=h;cases ry;rcases h with⟨ov,g,q⟩|⟨rfl,kvs,e,q⟩
 ·exact fQG hu I g rx λs3 I3=>⟨.bl ov.isSome,H,I3,rfl,q⟩
 ·cases rx;obtain⟨z,hd,vs,rel,dd⟩:=nT I.hok e;exact wpAny_in_of (knd:=bQS X.prog X.w) (k:=none) (key:=Value.none) rfl hd (eQ0 dd.mapOf) ⟨.bl false,H,I.tok _,rfl,q⟩
def cXQ(hu:X.A.units+1<cLine):MtR X "dict.get" dZW:=by
 intro pins s σ H x vs v us Q I rx rv h;obtain⟨a,y,ov,rfl,rfl,g,q⟩:=h;cases rx;obtain⟨u,rfl,ru⟩:=rv.one;exact dJO hu I g ru λw1 s1 I1 r1=>⟨_,H,I1,r1,q⟩
def eXE(e:Rd H a (.dK kvs))(h:Q (.bl false) H):cQM .non (.ref a) H Q:=⟨a,rfl,.inr ⟨rfl,kvs,e,h⟩⟩
def cJW(e:Rd H a (.dK kvs))(h:Q (.bl (bT kvs (Sum.inr z)).isSome) H):cQM (.str z) (.ref a) H Q:=⟨a,rfl,.inl ⟨_,.inl ⟨kvs,.inr z,e,rfl,rfl⟩,h⟩⟩
def eJI:R2:=λx y H Q=>∃(p q:Addr) (a b c d:Int),x=.ref p/\y=.ref q/\H p=some (.tup [.int a,.int b])/\H q=some (.tup [.int c,.int d])/\Q (.bl (decide (a=c/\b=d))) H
def eJL(hu:X.A.units<cLine):OpR X (compareOp .Eq) eJI:=by
 intro pins s σ H x y v u Q I rx ry h;obtain⟨p,q,a,b,c,d,rfl,rfl,hp,hq,k⟩:=h;cases rx;cases ry;obtain⟨its,r1,l1,_⟩:=I.tuple (SqT.of (K:=X.K) hp);obtain⟨its2,r2,l2,_⟩:=I.tuple (SqT.of (K:=X.K) hq);obtain⟨u1,u2,rfl,⟨t1,rfl⟩,⟨t2,rfl⟩⟩:=r1.two;obtain⟨w1,w2,rfl,⟨t3,rfl⟩,⟨t4,rfl⟩⟩:=r2.two;refine SeqAt.eq_tupleAt (e:=λj=>if j=0 then a==c else b==d) (show s.heap.IsTuple p _ from l1) (show s.heap.IsTuple q _ from l2) hu (λj h1 h2=>?_) ?_
 ·match j,h1,h2 with
  |0,_,_=>exact SeqAt.EqAt.int_int a t1 c t3
  |1,_,_=>exact SeqAt.EqAt.int_int b t2 d t4
  |j+2,h1,_=>exact absurd h1 (by show ¬j+2<2;omega)
 ·refine⟨.bl (decide (a=c/\b=d)),H,I,?_,k⟩;show Value.bool _=Value.bool _
  congr 1
  show (((if (0:Nat)=0 then a==c else b==d)&&((if (1:Nat)=0 then a==c else b==d)&&true))&&true)=_
  rw[if_pos rfl,if_neg (by decide),Bool.and_true,Bool.and_true]
  by_cases e1:a=c
  ·by_cases e2:b=d
   ·simp[e1,e2]
   ·simp[e1,e2]
  ·simp[e1]
def eJ2{p q:Addr}{a b c d:Int}(hp:H p=some (.tup [.int a,.int b]))(hq:H q=some (.tup [.int c,.int d]))(h:Q (.bl (decide (a=c/\b=d))) H):eJI (.ref p) (.ref q) H Q:=⟨p,q,a,b,c,d,rfl,rfl,hp,hq,h⟩
def CtxNone(h:Heap)(ea:Addr):Prop:=∃o fs,h.get? ea=some o/\o.data=.fields fs/\fs[2]?=some .none
def CtxNone.ext(c:CtxNone h ea)(k:∀o,h.get? ea=some o->h'.get? ea=some o):CtxNone h' ea:=by
 obtain⟨o,fs,h1,h2,h3⟩:=c;exact⟨o,fs,k o h1,h2,h3⟩
def CtxNone.some(c:CtxNone h ea):∃o,h.get? ea=Option.some o:=by
 obtain⟨o,_,e,_⟩:=c;exact⟨o,e⟩
def dZD:V->List V->Hp->VK->Prop:=λx vs H Q=>∃z y:Str,x=.str z/\vs=[.str y]/\Q (.int (Txt.find z y)) H
def cXU:MtR X "str.find" dZD:=by
 intro pins s σ H x vs v us Q I rx rv h;obtain⟨z,y,rfl,rfl,q⟩:=h;obtain⟨t,rfl⟩:=rx;obtain⟨u,rfl,ru⟩:=rv.one;obtain⟨t',rfl⟩:=ru;exact SC.find ⟨.int (Txt.find z y),H,I.tok _,⟨_,rfl⟩,q⟩
def bJJ{y:Str}(h:Q (.int (Txt.find z y)) H):dZD (.str z) [.str y] H Q:=⟨z,y,rfl,rfl,h⟩
def dZZ:List V->Hp->VK->Prop:=λxs H Q=>(∃j:Int,xs=[.int j]/\∀r,H r=none->Q (.ref r) (upd H r (.rng 0 j)))\/(∃i j:Int,xs=[.int i,.int j]/\∀r,H r=none->Q (.ref r) (upd H r (.rng i j)))
def Inv.rngNew{σ:St}{hi:Int}{t u v:Tok}{tk:Nat}(I:Inv X pins σ H s):Inv X pins σ (upd H s.heap.objs.size (.rng lo hi)) {s with heap:=s.heap.push {cls:=.type "range",data:=.fields #[.int lo t,.int hi u,.int 1 v]},toks:=tk}:=
 (I.kept (t':=tk) λb o e=>Ah _ e).adopt (I.freAt (Ai _)) (I.hok.fresh (Ai _)) ⟨t,u,v,Av _ rfl⟩
def eX4:CallR X (.type "range") dZZ:=by
 intro pins s σ H xs us Q I r h;rcases h with⟨j,rfl,q⟩|⟨i,j,rfl,q⟩
 ·obtain⟨u,rfl,⟨t,rfl⟩⟩:=dA r;exact call_range_1 ⟨.ref _,_,I.rngNew,rfl,q _ (I.hok.fresh (Ai _))⟩
 ·obtain⟨u,w',rfl,⟨t,rfl⟩,⟨t',rfl⟩⟩:=aJO r;exact call_range_2 ⟨.ref _,_,I.rngNew,rfl,q _ (I.hok.fresh (Ai _))⟩
def cJ0{j:Int}(h:∀r,H r=none->Q (.ref r) (upd H r (.rng 0 j))):dZZ [.int j] H Q:=.inl ⟨j,rfl,h⟩
def cZE:List V->Hp->VK->Prop:=λxs H Q=>∃(a:Addr) (n:Nat),xs=[.ref a]/\H a=some (.rng 0 (n:Int))/\n<=100000/\∀r,H r=none->Q (.ref r) (upd H r (.lst ((List.range n).map λi=>V.int ((i:Nat):Int))))
def dQP(hc:X.calm=true):CallR X (.type "list") cZE:=by
 intro pins s σ H xs us Q I r h;obtain⟨a,n,rfl,ha,hn,q⟩:=h;obtain⟨u,rfl,ru⟩:=dA r;cases ru;obtain⟨t0,t1,t2,ho⟩:=I.hok a _ ha;refine call_list_range (n:=n) (I.ok.hd hc) ho (small_one (by decide) (by decide) (by omega) (by omega)) (by rw[rangeSize_nat];omega) (by omega) λh' tk acc c hk hS hacc=>?_
 refine⟨.ref s.heap.objs.size,_,I.laid (a:=s.heap.objs.size) (o:=.lst ((List.range n).map λi=>V.int ((i:Nat):Int))) (t':=tk) hk (Ai _) ⟨by rw[Ab,Bq];exact bH hn,acc.toList,c,?_,by rw[hS]⟩,rfl,q _ (I.hok.fresh (Ai _))⟩
 refine yU (by rw[Ab,Bq,Eb,hacc.1]) λj x u hx hu=>?_
 obtain⟨tk',rfl⟩:=hacc.2 j u (by rw[<-Dk];exact hu)
 have hj:j<n:=by
  have:=(Ad.mp hu).1
  rw[Eb,hacc.1]at this;exact this
 rw[Ae,List.getElem?_range hj]at hx;cases hx;exact⟨tk',by rw[show (0:Int)+((j:Nat):Int)*1=((j:Nat):Int) by omega]⟩
def dXB(ha:H a=some (.rng 0 (n:Int)))(hn:n<=100000)(h:∀r,H r=none->Q (.ref r) (upd H r (.lst ((List.range n).map λi=>V.int ((i:Nat):Int))))):cZE [.ref a] H Q:=⟨a,n,rfl,ha,hn,h⟩
def hdl(i:Nat)(ts:TS)(D:Ends)(cls:Value)(d:Option Addr)(σ1:St)(H1:Hp):Prop:=∀ea,H1 ea=none->
 ts {nx:=λσ2 H2=>D.nx (σ2.set i none) H2,rt:=D.rt,bk:=λσ2 H2=>D.bk (σ2.set i none) H2,ct:=λσ2 H2=>D.ct (σ2.set i none) H2} (σ1.set i (some (.ref ea))) (upd H1 ea (fQ0 ea cls d))
def btV(val:Nat->Int)(i j:Nat):Bool:=decide (val i>val j)
section
variable {R:Result->Shared->Prop} {J B:Addr} {us ws:List Addr} {P:Nat->Value->Prop} {St:Nat->Heap->Prop} {G:Shared->Prop} {val:Nat->Int}
def eX8{j:Int}{t u:Tok}{Q:Q0}(h:Q (.bool (decide (i>j))) s):wpAny (model prog w) A (richCompare .Gt (.int i t) (.int j u)) Q E s:=
 CmpOf.ints_gt (P:=λk v=>(k=0->∃t,v=Value.int i t)/\(k=1->∃t,v=.int j t)/\k<=1) (λk=>if k=0 then i else j) (λk v hv=>by
  obtain⟨h0,h1,h2⟩:=hv;by_cases e:k=0
  ·obtain⟨t,rfl⟩:=h0 e;exact⟨t,by rw[if_pos e]⟩
  ·obtain⟨t,rfl⟩:=h1 (by omega);exact⟨t,by rw[if_neg e]⟩) 0 1 _ _ s Q E ⟨λ_=>⟨t,rfl⟩,λe=>absurd e (by decide),by decide⟩ ⟨λe=>absurd e (by decide),λ_=>⟨u,rfl⟩,by decide⟩ h
def bQ7(W:Walks prog w A.in1 J us ws n P St)(nB:B∉us)(hG:∀(s:Shared) h' tk,G s->(∀b o,b∉ws->b≠B->s.heap.get? b=some o->h'.get? b=some o)->G {s with heap:=h',toks:=tk})(hcall:∀(i:Nat) v (s:Shared) (Q:Q0) (E:Q0),P i v->G s->(∀t s',G s'->(∀b o,b∈B::us->s.heap.get? b=some o->s'.heap.get? b=some o)->Q (.int (val i) t) s')->wpAny (model prog w) A.in1 (call (.ref f) [v]) Q E s)(hR:∀z s',P (argBest (btV val) (n-1)) z->G s'->R (.ok (.ret z)) s'):∀(r i:Nat) (s:Shared) (y:Value) (t:Tok) (c:Nat),n-(i+1)=r->i+1<=n->St (i+1) s.heap->P (argBest (btV val) i) y->s.heap.get? B=some {cls:=.type "list",data:=.seq #[y,.int (val (argBest (btV val) i)) t] c}->G s->
 codeAny (model prog w) A (.builtin "max.loop" ⟨[.ref J,.ref f,.ref B],[]⟩) R s:=by
 have nBw:B∉ws:=λz=>nB (W.sub _ z)
 have nm:(toString "max" ++ toString ".loop" : String)="max.loop" := by decide
 intro r;induction r with
 |zero=>
  intro i s y t c er hi st py eB g;have en:i+1=n:=by omega
  refine Fd Gu ?_;rw[Ej Di _];show wpAny _ A.in1 (seqItems? (.ref B) >>= _) _ _ s
  refine Af (wpAny_seqItems eB rfl ?_);show wpAny _ A.in1 (tryCatch (pyNext (.ref J)) _ >>= _) _ _ s
  refine Af (Ew (W.done s _ _ (en▸st) λh' tk kp=>?_));have eB2:=kp B _ nBw eB
  show wpAny _ A.in1 (updateSeq B (λ_=>#[]) >>= _) _ _ _
  refine Af (wpAny_updateSeq eB2 rfl (Af (wpAny_letGo (An ?_))));exact hR y _ (by rw[<-en];exact py) (hG s _ tk g λb o n1 n2 e=>(Bz _ _ (Ne.symm n2)).trans (kp b o n1 e))
 |succ r ih=>
  intro i s y t c er hi st py eB g;have lt:i+1<n:=by omega
  refine Fd Gu ?_;rw[Ej Di _];show wpAny _ A.in1 (seqItems? (.ref B) >>= _) _ _ s
  refine Af (wpAny_seqItems eB rfl ?_);show wpAny _ A.in1 (tryCatch (pyNext (.ref J)) _ >>= _) _ _ s
  refine Af (Ew (W.item (i+1) s _ _ lt st λz h' tk pz st2 kp=>?_));have eB2:=kp B _ nBw eB
  have g2:G {s with heap:=h',toks:=tk}:=hG _ _ tk g λb o n1 _ e=>kp b o n1 e
  show wpAny _ A.in1 (tryCatch (holding [z] (call (.ref f) [z])) _ >>= _) _ _ _
  refine Af (Ew (Cm (hcall (i+1) z _ _ _ pz g2 λu s3 g3 k3=>?_)));have eB3:=k3 B _ Ak eB2
  have st3:=W.frame _ _ _ st2 λb hb o e=>k3 b o (Aj _ hb) e
  show wpAny _ A.in1 (tryCatch (holding [z,.int (val (i+1)) u] (richCompare .Gt (.int (val (i+1)) u) (.int (val (argBest (btV val) i)) t) >>= _)) _ >>= _) _ _ _
  refine Af (Ew (Cm (Af (eX8 ?_))));refine Af (Cm (Fm (Af (wpAny_letGo (An ?_)))));have eb:decide (val (i+1)>val (argBest (btV val) i))=btV val (i+1) (argBest (btV val) i):=rfl
  rw[eb];cases e:btV val (i+1) (argBest (btV val) i) with
  |true=>
   simp only[if_true];refine Af (wpAny_updateSeq eB3 rfl (Af (wpAny_letGo ?_)));rw[nm];have ea:argBest (btV val) (i+1)=i+1:=by unfold argBest;rw[e];rfl
   refine An ⟨Ga Di _,ih (i+1) _ z u _ (by omega) lt (W.frame _ _ _ st3 λb hb o q=>(Bz _ _ (λy:B=b=>nB (y▸hb))).trans q) (by rw[ea];exact pz) (by rw[ea];exact Heap.get?_update_self _ eB3 rfl) (hG s3 _ s3.toks g3 λb o n1 n2 q=>(Bz _ _ (Ne.symm n2)).trans q)⟩
  |false=>
   simp only[Bool.false_eq_true,if_false];refine Af (wpAny_letGo ?_);rw[nm]
   have ea : argBest (btV val) (i + 1) = argBest (btV val) i := by conv => lhs; unfold argBest; rw [e]
                                                                   rfl
   refine An ⟨Ga Di _,ih (i+1) s3 y t c (by omega) lt st3 (by rw[ea];exact py) (by rw[ea];exact eB3) g3⟩
end
section
open PySem.W (KasT kas_sort kas_rev kas_asc kas_desc kas_tail3 kas_descPart kas_count kas_place kas_bin)
section
variable {r:Nat->Nat}
structure Ord (r:Nat->Nat) (n:Nat) (p:Array Nat):Prop where
 perm:p.toList.Perm (List.range n)
 inj:∀i j,i<n->j<n->r i=r j->i=j
def Ord.size{p:Array Nat}(h:Ord r n p):p.size=n:=by
 have:=h.perm.length_eq
 simpa using this
end
end
section
open PySem.W (CodeHd tabObj)
structure LamB (mg:Str->Option Value) (base:Heap) (c Pt:Addr):Prop where
 code:CodeHd base c Pt
 bm:∃bm ob,mg "__builtins__"=some (.ref bm)/\bm≠builtinsNs/\base.get? bm=some ob/\ob.cls=.type "module"/\ob.dict=some builtinsNs/\ob.data=.plain
def bQH(h:Heap)(mg:Str->Option Value)(x:Str)(c:Addr):Prop:=∃f o fd,mg x=some (.ref f)/\h.get? f=some o/\o.data=.func fd/\fd.code=.ref c
def bX1{mb:Q5}{CX:CXT}{k:Nat}{fa:Addr}{s₁:Shared}{vs:List Value}(KX:K.In s₁.heap)(hns:s₁.heap.Ns mainGlobals mg)(hb:s₁.heap.Ns builtinsNs mb)(hbb:∀x:Str,x≠"__name__"->mb x=bootBuiltins x)(hlim:s₁.heap.NoLimit)(hg:s₁.gens=#[])(ha:s₁.heap.get? a=some {cls:=.type "list",data:=.seq vs.toArray})(hi:IntsAre vs ns)(hl:ns.length<=sizeLine)(hr:Room k callerA)(hC:CodeHd s₁.heap c Pt)(hP:s₁.heap.get? Pt=some (tabObj #[]))(hbm:∃bm ob,mg "__builtins__"=some (.ref bm)/\bm≠builtinsNs/\s₁.heap.get? bm=some ob/\ob.cls=.type "module"/\ob.dict=some builtinsNs/\ob.data=.plain)(hKP:K.lookup Pt=none)(F:∀base:Heap,K.In base->base.Ns mainGlobals mg->LamB mg base c Pt->FnOk P w K mg base CX k fa fd [x] sp)(hbind:∀(s:Shared) (u:Value),BindsTo s fd ⟨[u],[]⟩ [(x,u)])(hsp:∀H:Hp,H Pt=some (.tbl #[])->SqL K H a (ns.map V.int)->sp [.ref a] H (λv _=>v=.bl true) λ_ _ _=>False)(hCX:∀H e s',CX [] H s₁ (λ_ _ _=>False) e s'->False):codeAny (model P w) callerA (.call (.ref fa) ⟨[.ref a],[]⟩) (λr s'=>r=.ok (.ret (.bool true))/\OldK s₁.heap s'.heap/\s'.os=s₁.os/\AllBare s'.gens) s₁:=by
 have rv:=vF hi
 have lenV:=hi.length
 have naP:a≠Pt:=λz=>by rw[z,hP]at ha;cases ha
 have core:∀ H:Hp,(∀ b,H b=none\/(∃ o xs,H b=some (.frz o (.lst xs)))\/b=Pt)->H Pt=some (.tbl #[])->SqL K H a (ns.map V.int)->HOk P w H s₁.heap->(∀ b,H b≠none->b=a\/b=Pt)->(H a≠none->K.lookup a=none)->
     codeAny (model P w) callerA (.call (.ref fa) ⟨[.ref a],[]⟩) (λr s'=>r=.ok (.ret (.bool true))/\OldK s₁.heap s'.heap/\s'.os=s₁.os/\AllBare s'.gens) s₁:=by
  intro H hO hHP hS hok hA hK;have base_of:∀ {b:Addr} {o:Obj},s₁.heap.get? b=some o->H b=none->(tZ s₁.heap H).get? b=some o:=λe n=>bJQ e n
  have noT:∀ {b:Addr} {o:Obj},s₁.heap.get? b=some o->(∀its n,o.data≠.seq its n)->(∀ps,o.cls=.none->o.data≠.fields ps)->H b=none:=fun {b o} e d d2=>by
   cases q:H b with
   |none=>rfl
   |some u=>
    rcases hA b (by rw[q];simp) with e'|e'
    ·subst e';rw[ha]at e;cases e;exact absurd rfl (d _ _)
    ·subst e';rw[hP]at e;cases e;exact absurd rfl (d2 _ rfl)
  have noA:∀ {b:Addr} {o:Obj} {es:Array DictEntry} {ep:Nat},s₁.heap.get? b=some o->o.data=.dict es ep->H b=none:=fun {b o es ep} e d=>noT e (λ_ _ z=>by rw[d]at z;cases z) λ_ _ z=>by rw[d]at z;cases z
  have nsK:∀ {b:Addr} {m:Q5},s₁.heap.Ns b m->(tZ s₁.heap H).Ns b m:=fun {b m} ⟨o,es,ep,e,d,r⟩=>⟨o,es,ep,base_of e (noA e d),d,r⟩
  have hKb:K.In (tZ s₁.heap H):=λb o e=>base_of (KX b o e) (by
   cases q:H b with
   |none=>rfl
   |some u=>
    rcases hA b (by rw[q];simp) with e'|e'
    ·subst e';rw[hK (by rw[q];simp)]at e;cases e
    ·subst e';rw[hKP]at e;cases e)
  have hM:Mod K mg (tZ s₁.heap H):=⟨hKb,nsK hns,⟨mb,nsK hb,hbb⟩,let ⟨mc,h1,h2⟩:=hlim;⟨mc,nsK h1,h2⟩⟩
  have hLB:LamB mg (tZ s₁.heap H) c Pt:=by
   refine⟨?_,?_⟩
   ·obtain⟨o,vs,file,tf,flags,tg,inF,text,tt,e,ecl,eda,r⟩:=hC;exact⟨o,vs,file,tf,flags,tg,inF,text,tt,base_of e (noT e (λ_ _ z=>by rw[eda]at z;cases z) λ_ z=>by rw[ecl]at z;cases z),ecl,eda,r⟩
   ·obtain⟨bm,ob,b1,b2,b3,b4,b5,b6⟩:=hbm;exact⟨bm,ob,b1,b2,base_of b3 (noT b3 (λ_ _ z=>by rw[b6]at z;cases z) λ_ z=>by rw[b4]at z;cases z),b4,b5,b6⟩
  have e0:Env0 P w K mg (tZ s₁.heap H) callerA [] s₁ H:=⟨rfl,hM,λb o e=>dX9 e,Nat.le_of_eq (bXA _ _),trivial,λb hb=>absurd (show b∈([]:List Addr) from hb) (by simp),hok,.of_eq hg⟩
  refine Ei ((F _ hKb (nsK hns) hLB).run callerA [] s₁ H ⟨[.ref a],[]⟩ [.ref a] [.ref a] _ _ hr e0 (hbind s₁ (.ref a)) (.cons rfl .nil) (hsp H hHP hS)) λr s' h=>?_;cases r with
  |error e=>exact(hCX H e s' h).elim
  |ok fl=>
   cases fl with
   |next=>exact False.elim h
   |brk=>exact False.elim h
   |cont=>exact False.elim h
   |ret u=>
    obtain⟨v,H',os,bare,un,hok',r',q⟩:=h;have q':v=.bl true:=q
    subst q';obtain rfl:u=Value.bool true:=r';refine⟨rfl,⟨λb o e=>?_,λb o e=>?_⟩,os,bare⟩
    ·cases q:H b with
     |none=>exact .inl (un.keep b o e q (by intro z;exact absurd (show b∈([]:List Addr) from z) (by simp)) (by simp))
     |some u=>
      rcases hO b with z|⟨ob,xs,z⟩|z
      ·rw[q]at z;cases z
      ·have z2:=un.frzs b ob _ z
       obtain⟨e1,_⟩:=hok b _ z;obtain⟨e2,_⟩:=hok' b _ z2;rw[e]at e1;cases e1;exact .inl e2
      ·subst z;rw[hP]at e;cases e;obtain⟨more,z2⟩:=un.tbls b _ hHP;exact .inr (.inl ⟨(hC.tab hP).isCodeTable,rfl,#[],more,rfl,hok' b _ z2⟩)
    ·exact un.there b o e (by simp)
 have tblOk:∀H:Hp,H Pt=some (.tbl #[])->ObjOk P w H s₁.heap Pt (.tbl #[]):=λ_ _=>hP
 cases hk:K.lookup a with
 |some o=>
  have e:=KX a o hk
  rw[ha]at e;cases e;refine core (λb=>if b=Pt then some (.tbl #[]) else none) (λb=>?_) (if_pos rfl) (.inr ⟨_,vs.toArray,_,hk,rfl,rfl,rfl,by rw[List.size_toArray,lenV];exact hl,by simpa using rv⟩) (λb u z=>?_) (λb z=>?_) λz=>?_
  ·by_cases hb:b=Pt
   ·exact .inr (.inr hb)
   ·exact .inl (if_neg hb)
  ·by_cases hb:b=Pt
   ·have z':=(if_pos hb).symm.trans z
    cases z';subst hb;exact hP
   ·have z':=(if_neg hb).symm.trans z
    cases z'
  ·by_cases hb:b=Pt
   ·exact .inr hb
   ·exact absurd (if_neg hb) z
  ·exact absurd (if_neg naP) z
 |none=>
  refine core (λb=>if b=a then some (.frz {cls:=.type "list",data:=.seq vs.toArray} (.lst (ns.map V.int))) else if b=Pt then some (.tbl #[]) else none) (λb=>?_) ((if_neg naP.symm).trans (if_pos rfl)) (.inl (.inr ⟨{cls:=.type "list",data:=.seq vs.toArray},if_pos rfl⟩)) (λb u z=>?_) (λb z=>?_) λ_=>hk
  ·by_cases hb:b=a
   ·exact .inr (.inl ⟨_,_,if_pos hb⟩)
   ·by_cases hb2:b=Pt
    ·exact .inr (.inr hb2)
    ·exact .inl ((if_neg hb).trans (if_neg hb2))
  ·by_cases hb:b=a
   ·have z':=(if_pos hb).symm.trans z
    cases z';subst hb;exact⟨ha,by rw[Ab];exact hl,vs,_,rv,ha⟩
   ·by_cases hb2:b=Pt
    ·have z':=((if_neg hb).trans (if_pos hb2)).symm.trans z
     cases z';subst hb2;exact hP
    ·have z':=((if_neg hb).trans (if_neg hb2)).symm.trans z
     cases z'
  ·by_cases hb:b=a
   ·exact .inl hb
   ·by_cases hb2:b=Pt
    ·exact .inr hb2
    ·exact absurd ((if_neg hb).trans (if_neg hb2)) z
def cZM{l:W.OpenLaw}{n k:Nat}{q:Program}{loose:List Str}{XP:(Q5)->Heap->Prop}{YP:World->Heap->Prop}{d d2:DefRec}{K:Params->W.Frag}{CX:World->CXT}{sp:World->Addr->Sp}(hn:l.most=some n)(hn2:n<=sizeLine)(hdf:d.params.defaults=[])(hr:Room k callerA)(hd2:d2∈recsOf q)(hno:∀w:World,W.noTabs (K w.params)=true)(hY:∀(w:World) (h:Heap),YP w h->(K w.params).In h)(F:∀(w:World) (mg:Q5) (fa:Addr) (h:Heap) (c Pt:Addr),(K w.params).In h->h.Ns mainGlobals mg->mg d.name=some (.ref fa)->bQH h mg d2.name c->
 ∃fd:FuncData,(∀(s:Shared) (u:Value),BindsTo s fd ⟨[u],[]⟩ [(x,u)])/\
  ∀base:Heap,(K w.params).In base->base.Ns mainGlobals mg->LamB mg base c Pt->FnOk l.prog w (K w.params) mg base (CX w) k fa fd [x] (sp w Pt))(hsp:∀(w:World) (H:Hp) (a Pt:Addr) (ns:List Int),ns.length<=n->H Pt=some (.tbl #[])->SqL (K w.params) H a (ns.map V.int)->sp w Pt [.ref a] H (λv _=>v=.bl true) λ_ _ _=>False)(hCX:∀(w:World) (H:Hp) (s:Shared) (e:Value) (s':Shared),CX w [] H s (λ_ _ _=>False) e s'->False):W.WalkO q loose XP YP l.row.toRowW d [] (λf vs=>PySem.call f vs):=by
 refine Att.attach_call hn hdf λw s₀ s₁ mg mb fa o pm cd doc a vs ns G Y ho hd hcd hmg hobj hints hlen hg=>?_;have KX:=hY w _ Y
 obtain⟨a2,o2,fd2,c,Pt,t1,t2,t3,t4,t5,t6⟩:=G.T.tab d2 hd2;have hC:=CodeHd.of t5 t6
 have hP:s₁.heap.get? Pt=some (tabObj #[]):=t6.2
 have hKP:(K w.params).lookup Pt=none:=by
  cases e:(K w.params).lookup Pt with
  |none=>rfl
  |some o=>
   have h1:=KX _ _ e
   rw[hP]at h1;cases h1;have h2:=Bo.mp (hno w) (Pt,tabObj #[]) (W.mem_of_lookupK e)
   exact absurd (show false=true from h2) Ar
 obtain⟨fd,hb,hF⟩:=F w mg fa _ c Pt KX G.T.g hmg ⟨a2,o2,fd2,t1,t2,t3,t4⟩;exact bX1 KX G.T.g G.T.b G.T.builtins G.T.nolimit hg hobj hints (Cc hlen hn2) hr hC hP G.T.bmain hKP hF hb (λH hO hS=>hsp w H a Pt ns hlen hO hS) λH e s'=>hCX w H s₁ e s'
def Fun.okC{ps:List Str}{k:Nat}(F:Fun K x qual st f fd)(hc:fd.code=.ref c)(S:FnScope N ps (aI st))(len:∀vs H Q E,sp vs H Q E->vs.length=ps.length)(hbody:∀(cdv:Value) (A:Around) (outer:List Env) (s:Shared) (H:Hp) (vs:List V) (Q:VK) (E:XK),cdv=.ref c->Room k (A.deeper (envOfC qual (aI st) s.heap.objs.size f cdv))->sp vs H Q E->
 ∃t,PSs (gD CX0 P w K mg base N qual (aI st) f cdv A outer s H E).nox (eY st) t/\t {nx:=λ_ H'=>Q .non H',rt:=Q} (lX N vs) H):FnOk P w K mg base CX0 (k+1) f fd ps sp:=by
 obtain⟨oc,od,kV,doc,pm,an,cdv,ct,osl,rfl,lk,hcd⟩:=F.ex;refine cXT lk hcd S len λA outer s H vs Q E hr hsp=>?_;obtain⟨t,h,q⟩:=hbody cdv A outer s H vs Q E hc hr hsp;exact⟨t,h.nox,q⟩
def dQ5{oc:Value}{od:Option Addr}{osl:Array (Option Value)}(T:bQH h mg x c)(KX:K.In h)(hm:mg x=some (.ref f))(lk:K.lookup f=some ⟨oc,od,.func fd,osl⟩):fd.code=.ref c:=by
 obtain⟨f',o',fd',e1,e2,e3,e4⟩:=T;rw[hm]at e1;cases e1;have:=KX _ _ lk
 rw[e2]at this;cases this;cases e3;exact e4
end
section
open PySem.W (CodeHd tabObj kla_obj kla_fn envX)
def tF(c:Addr)(q:Str):HO:=.ext λh=>h.CodeRec (.ref c) q
def cZU(r:h.CodeRec (.ref c) q):ObjOk P w H h c (tF c q):=by
 obtain⟨c2,oc,vs,t,e,ho,hd,hv⟩:=id r;cases e;refine⟨r,⟨oc,ho⟩,λh1 h2 r1 k=>?_⟩;obtain⟨c3,oc,vs,t,e,ho,hd,hv⟩:=r1;cases e;exact⟨_,oc,vs,t,rfl,k _ ho,hd,hv⟩
def LamT(Pt:Addr)(q:Str)(pos:Pos)(H:Hp):Prop:=H Pt=some (.tbl #[])\/∃c,H Pt=some (.tbl (#[]++#[rawInt pos.line,rawInt pos.col,.ref c]))/\H c=some (tF c q)
def SameP(Pt:Addr)(H H':Hp):Prop:=∀b o,b≠Pt->H b=some o->H' b=some o
def SameP.trans{H2:Hp}(a:SameP Pt H H1)(b:SameP Pt H1 H2):SameP Pt H H2:=λc o n e=>b c o n (a c o n e)
def Same.p(s:Same H H'):SameP Pt H H':=λb o _ e=>s b o e
def LamT.keep(h:LamT Pt q pos H)(s:Same H H'):LamT Pt q pos H':=by
 rcases h with h|⟨c,h1,h2⟩
 ·exact .inl (s _ _ h)
 ·exact .inr ⟨c,s _ _ h1,s _ _ h2⟩
def LamT.tb(h:LamT Pt q pos H):∃ps,H Pt=some (.tbl ps):=by
 rcases h with h|⟨c,h1,h2⟩
 ·exact⟨_,h⟩
 ·exact⟨_,h1⟩
structure ClOkL (X:Cx) (N:List Str) (scope:Scope) (cl:List (Str×Addr)) (vals:St->St) (x:Str):Prop where
 clos:closureFor scope X.env=pure cl
 sub:∀y c,cl.lookup y=some c->X.env.cells.lookup y=some c
 has:∀y,(scope.names.lookup y=some .cell\/scope.names.lookup y=some .free)->∃c,cl.lookup y=some c
 len:∀σ,(vals σ).length+1=N.length
 par:N[0]?=some x/\scope.names.lookup x=some .local
 val:∀σ (i:Nat) y v,N[i+1]?=some y->(vals σ)[i]?=some (some v)->∃(j:Nat),X.N[j]?=some y/\σ[j]?=some (some v)/\X.env.scope.names.lookup y=some .cell/\(∃c,cl.lookup y=some c)/\scope.names.lookup y=some .free
def cQ9(ix:List Nat):St->St:=λσ=>ix.map λj=>(σ[j]?).join
def eZW(N XN:List Str)(sn dn:List (Str×NameKind))(ix:List Nat)(x:Str):Bool:=
 (ix.length+1==N.length)&&(N[0]? == some x)&&(sn.lookup x==some .local)&&(sn.all λy=>y.2 != .cell&&(y.2 != .free || dn.lookup y.1==some .cell)) &&
 ((List.range ix.length).all λi=>match ix[i]? with|some j=>N[i+1]? == XN[j]? && (match N[i+1]? with|some y=>sn.lookup y==some .free|none=>false)|_=>true)
def jV{k:α}:∀ {l:List (Str×α)},l.lookup x=some k->(x,k)∈l:=fun {l} h=>Cz h
def eZR(XN:List Str)(sc:Scope)(ix:List Nat)(hN:X.N=XN)(hsc:X.env.scope=sc)(hcell:∀x,sc.names.lookup x=some .cell->∃c,X.env.cells.lookup x=some c)(hchk:eZW N XN scope.names sc.names ix x=true):ClOkL X N scope (clF X.env scope.names []) (cQ9 ix) x:=by
 unfold eZW at hchk;simp only[Bool.and_eq_true]at hchk;obtain⟨⟨⟨⟨h1,h2⟩,h3⟩,h4⟩,h5⟩:=hchk;have h4':=Bo.mp h4
 have fr:∀y,(y,NameKind.free)∈scope.names->∃c,X.env.cells.lookup y=some c:=λy hy=>by
  have:=h4' _ hy
  simp at this;exact hcell y this
 have hfree:∀y,scope.names.lookup y=some .free->∃c,(clF X.env scope.names []).lookup y=some c:=λy hy=>Dn.mp (nH scope.names [] (jV hy))
 refine⟨?_,λy c e=>?_,λy hy=>?_,λσ=>?_,⟨by simpa using h2,by simpa using h3⟩,λσ i y v e1 e2=>?_⟩
 ·unfold closureFor;exact(congrArg (· >>= λr=>pure r) (qN scope.names [] λy hy hk=>by obtain⟨n,k⟩:=y;cases (show k=.free from hk);exact fr n hy)).trans (by simp)
 ·rcases qP scope.names [] e with z|⟨z,rfl⟩
  ·cases z
  ·obtain⟨c,hc⟩:=fr y z;rw[hc];rfl
 ·rcases hy with hy|hy
  ·have:=h4' _ (jV hy)
   simp at this
  ·exact hfree y hy
 ·unfold cQ9;rw[Ab]
  simpa using h1
 ·unfold cQ9 at e2;rw[Ae]at e2;cases ej:ix[i]? with
  |none=>rw[ej]at e2;cases e2
  |some j=>
   rw[ej]at e2;have e2':(σ[j]?).join=some v:=Bg e2
   have hi:i<ix.length:=(Ad.mp ej).1
   have h6:=Bo.mp h5 i (Bw.mpr hi)
   rw[ej]at h6;dsimp only at h6;rw[e1]at h6;simp at h6;have hsg:σ[j]?=some (some v):=by
    cases q:σ[j]? with
    |none=>rw[q]at e2';cases e2'
    |some o=>rw[q]at e2';exact Dm some e2'
   have hdn:=h4' _ (jV h6.2)
   simp at hdn;exact⟨j,by rw[hN];exact h6.1.symm,hsg,by rw[hsc];exact hdn,hfree y h6.2,h6.2⟩
def cxL(X:Cx)(A:Around)(N:List Str)(q:Str)(scope:Scope)(cl:List (Str×Addr))(f c:Addr)(s₀:Shared)(H₀:Hp):Cx where
 prog:=X.prog
 w:=X.w
 K:=X.K
 mg:=X.mg
 base:=X.base
 A:=A.deeper (envX q scope s₀.heap.objs.size f (.ref c) cl)
 N:=N
 s₀:=s₀
 H₀:=H₀
 env:=envX q scope s₀.heap.objs.size f (.ref c) cl
 outer:=X.stack
 stack:=envX q scope s₀.heap.objs.size f (.ref c) cl::X.stack
 ex:=[]
 fn:=λ_=>false
 calm:=true
 pn:=[]
 xe:=λ_ _=>False
section
variable {σ:St} {vals:St->St} {c':Addr}
def bXL{h1:Heap}{t1:Nat}{v:Value}(I:Inv X pins σ H s)(ck:ClOkL X N scope cl vals x)(hA:A.frames=some X.stack)(hh:A.handled=none)(hkind:scope.kind=.function)(rv:RelV y v)(hns:h1.Ns s.heap.objs.size λz=>[(x,v)].reverse.lookup z)(hsb:Heap.SameBut s.heap.objs.size (s.heap.push {cls:=.type "frame",data:=.dict #[]}) h1):Inv (cxL X A N q scope cl f c' s H) [] (some y::vals σ) H {s with heap:=h1,toks:=t1}:=by
 have old:∀b o,s.heap.get? b=some o->h1.get? b=some o:=λb o e=>(hsb.2 b (Bc (As e))).trans (Ah _ e)
 have hC:H s.heap.objs.size=none:=I.hok.fresh (Ai _)
 have noA:∀b:Addr,b∉(cxL X A N q scope cl f c' s H).ex:=λb z=>absurd (show b∈([]:List Addr) from z) (by simp)
 refine⟨⟨I.ok.mod,hkind,rfl,rfl,Ai _,λy z c h1 h2=>I.ok.inj y z c (ck.sub y c h1) (ck.sub z c h2),ck.has,(λx c h=>nomatch h),λ_=>hh,Around.frames_deeper hA,.inr ⟨rfl,rfl⟩,λb z=>absurd z (noA b),
  I.bs,Nat.le_trans I.ok.bsz I.sz,λb _ _=>noA b,λb z=>absurd z (noA b),I.stack,I.stkFree⟩,rfl,I.bare,Un.kept old,⟨_,hns,λi z v' e1 e2 _=>?_⟩,λy c e=>?_,hC,λy c e=>I.freeC y c (ck.sub y c e),λp hp=>absurd (show p∈([]:Q2) from hp) (by simp),I.hok.kept old,?_⟩
 ·cases i with
  |zero=>
   have e1':N[0]?=some z:=e1
   rw[ck.par.1]at e1';cases e1';cases e2;refine⟨v,rv,.inl ⟨ck.par.2,?_⟩⟩;show [(x,v)].lookup x=some v
   rw[Cw,Ee]
  |succ i=>
   obtain⟨j,h1,h2,h3,⟨c,h4⟩,h5⟩:=ck.val σ i z v' e1 e2;obtain⟨m,hn,hl⟩:=I.loc;obtain⟨u,r,l⟩:=hl j z v' h1 h2 (.inr (.inl h3));refine⟨u,r,.inr ⟨.inr h5,c,h4,?_⟩⟩;rcases l with⟨z',_⟩|⟨_,c',e',z'⟩
   ·have z2:X.env.scope.names.lookup z=some .local:=z'
    rw[h3]at z2;cases z2
   ·rw[ck.sub z c h4]at e';cases e';obtain⟨o,ho,hd⟩:=z';exact⟨o,old _ o ho,hd⟩
 ·obtain⟨v,o,ho,hd⟩:=I.cell y c (ck.sub y c e);exact⟨v,o,old _ o ho,hd⟩
 ·show (some y::vals σ).length=N.length
  rw[Aw];exact ck.len σ
def cJI{body:Expr}{pm ctv v:Value}{y:V}{tb:TE}{Q:VK}(I:Inv X pins σ H s)(ck:ClOkL X N scope cl vals x)(hA:A.frames=some X.stack)(hh:A.handled=none)(hroom:A.depth<recursionLimit)(hf:s.heap.get? f=some (kla_obj "<lambda>" q params body scope cl pm c' ctv))(hcd:s.heap.CodeRec (.ref c') q)(hco:scope.isCoroutine=false)(hgen:scope.isGenerator=false)(hk:scope.kind=.function)(hcell:∀z∈scope.names,z.2≠.cell)(hbind:bindArgs (kla_fn "<lambda>" q params body scope cl pm (.ref c') ctv) ⟨[v],[]⟩=pure [(x,v)])(rv:RelV y v)(hb:PE (cxL X A N q scope cl f c' s H) body tb)(h:tb (some y::vals σ) H Q):codeAny (model X.prog X.w) A (.call (.ref f) ⟨[v],[]⟩) (λr s'=>match r with|.ok (.ret u)=>CE X.stack X.prog X.w H s Q u s'|_=>False) s:=by
 refine W.kla_callFunE hroom hf rfl hco hgen rfl hcd ?_;rw[hbind];refine An (wpAny_newFunctionEnv hcell (λz hz=>by rw[Am.mp hz];exact ck.par.2) (λh1 hns hsb=>⟨(I.nolimit).fresh _ hsb,?_⟩) hk)
 show codeAny _ _ (.expr body (envX q scope s.heap.objs.size f (.ref c') cl)) _ _
 refine W.kla_codeExpr ?_;have I1:=bXL (A:=A) (q:=q) (f:=f) (c':=c') (t1:=s.toks+[(x,v)].length) I ck hA hh hk rv hns hsb
 exact Cp (hb [] _ _ H _ I1 h) (λu s' ⟨v',H',J,r,q⟩=>⟨v',H',J.os,J.bare,J.base,J.hok,r,q⟩) λe s' z=>z.elim
def Inv.table{ps more:Array Value}{t':Nat}(I:Inv X pins σ H s)(hP:H Pt=some (.tbl ps))(hx:Heap.ExtBut Pt s.heap h')(ht:h'.get? Pt=some (tabObj (ps++more))):Inv X pins σ (upd H Pt (.tbl (ps++more))) {s with heap:=h',toks:=t'}:=by
 have neP:∀b u,H b=some u->(∀z,u≠.tbl z)->b≠Pt:=λb u e n z=>by rw[z,hP]at e;cases e;exact n _ rfl
 have nn:∀b,H b=none->b≠Pt:=λb e z=>by rw[z,hP]at e;cases e
 refine I.un ⟨λb o e n _ _=>hx b o (nn b n) e,λb o e n _ _=>⟨o.slots,hx b o (nn b n) e⟩,λb o e n _=>by rw[aG (nn b n)];exact n,λb o e _=>?_,λb xs e=>by rw[aG (neP b _ e λ_=>nofun)];exact e,λb o u e=>by rw[aG (neP b _ e λ_=>nofun)];exact e,λb qs e=>?_⟩ λb u e=>?_
 ·by_cases hb:b=Pt
  ·exact⟨_,hb▸ht⟩
  ·exact⟨o,hx b o hb e⟩
 ·by_cases hb:b=Pt
  ·subst hb;rw[hP]at e;cases e;exact⟨more,aE⟩
  ·exact⟨#[],by rw[aG hb,e];simp⟩
 ·by_cases hb:b=Pt
  ·subst hb;rw[aE]at e;cases e;exact ht
  ·rw[aG hb]at e;refine(I.hok b u e).stay (λc v hc q=>hx c v ?_ q) (λc q=>by rw[aG (neP c _ q λ_=>nofun)];exact q) λc xs q=>by rw[aG (neP c _ q λ_=>nofun)];exact q
   rcases hc with z|z
   ·rw[z];exact hb
   ·exact neP c _ z λ_=>nofun
def Inv.fsLt(I:Inv X pins σ H s)(h:b∈X.fs):b<s.heap.objs.size:=by
 obtain⟨_,o',g',_⟩:=I.ok.funs.mem h;exact Bb (As g') I.sz
def fnO(f:Addr)(o:Obj):HO:=.ext λh=>h.get? f=some o
def bJL(e:h.get? f=some o):ObjOk P w H h f (fnO f o):=⟨e,⟨o,e⟩,λh1 h2 e1 k=>k o e1⟩
def fQY(Pt:Addr)(q:Str)(params:Arguments)(body:Expr)(scope:Scope)(cl:List (Str×Addr))(pos:Pos):TE:=λσ H Q=>LamT Pt q pos H/\∀f c' pm ctv H',SameP Pt H H'->LamT Pt q pos H'->H' c'=some (tF c' q)->H' f=some (fnO f (kla_obj "<lambda>" q params body scope cl pm c' ctv))->Q (.ref f) H'
def dJZ{body:Expr}(ck:ClOkL X N scope cl vals x)(hcode:X.env.code=.ref c)(LB:LamB X.mg X.base c Pt)(hdef:defaultsOf params X.env=([],[])):PE X (.Lambda params body scope pos) (fQY Pt (X.env.qual ++ "<lambda>") params body scope cl pos):=by
 intro pins s σ H Q I hT;obtain⟨T,h⟩:=hT;refine W.kla_eval hdef ?_;generalize X.env.qual ++ "<lambda>"=q at T h ⊢;have hg:s.heap.Ns mainGlobals X.mg:=I.mod.glob.keeps I.bk
 obtain⟨ps0,hHP⟩:=T.tb;have hPs:s.heap.get? Pt=some (tabObj ps0):=I.hok Pt _ hHP
 obtain⟨bm,ob,b1,b2,b3,b4,b5,b6⟩:=LB.bm;have hbG:bm≠mainGlobals:=λz=>by
  obtain⟨o,es,ep,e,hd,_⟩:=I.mod.glob;rw[z,e]at b3;cases b3;rw[hd]at b6;cases b6
 have hbP:bm≠Pt:=λz=>by
  have:=(I.bs _ _ b3).2
  rw[z,hHP]at this;cases this
 have hgP:mainGlobals≠Pt:=λz=>by
  obtain⟨o,es,ep,e,hd,_⟩:=I.mod.glob;have:=(I.bs _ _ e).2
  rw[z,hHP]at this;cases this
 have hB:s.heap.BuiltinsAt X.mg Pt:=⟨bm,ob,b1,b2,hbG,hbP,I.bk _ _ b3,b4,b5,b6⟩
 have hPlt:Pt<s.heap.objs.size:=As hPs
 rcases T with T|⟨c',T,Tc⟩
 ·have hP0:s.heap.get? Pt=some (tabObj #[]):=I.hok Pt _ T
  refine W.kla_makeFunction ck.clos I.ok.glob hg hcode (LB.code.keeps I.bk) hP0 trivial rfl hgP hB λc' ctv h' tk hx hge hlt hrec htb=>?_;have I1:=I.table (t':=tk) T hx htb
  have hle:s.heap.objs.size<=h'.objs.size:=Cc hge (Nat.le_of_lt hlt)
  have nc:c'≠Pt:=Ec (Bb hPlt hge)
  have hcn:(upd H Pt (.tbl (#[]++#[rawInt pos.line,rawInt pos.col,.ref c']))) c'=none:=by rw[aG nc];exact I.hok.fresh hge
  have fr:=I.freAt hge
  have I2:=I1.adopt (a:=c') (o:=tF c' q) ⟨fr.s0,fr.loc,fr.cell,fr.pin⟩ hcn (cZU hrec)
  have I3:=I2.kept (t':=tk) (h':=h'.push (kla_obj "<lambda>" q params body scope cl ((X.mg "__name__").getD .none) c' ctv)) λb u e=>Ah _ e
  have nfP:h'.objs.size≠Pt:=Ec (Bb hPlt hle)
  have nfc:h'.objs.size≠c':=Ec hlt
  have ff:=I.freAt hle
  have hfn:(upd (upd H Pt (.tbl (#[]++#[rawInt pos.line,rawInt pos.col,.ref c']))) c' (tF c' q)) h'.objs.size=none:=by
   rw[aG nfc,aG nfP];exact I.hok.fresh hle
  have I4:=I3.adopt (a:=h'.objs.size) (o:=fnO h'.objs.size (kla_obj "<lambda>" q params body scope cl ((X.mg "__name__").getD .none) c' ctv)) ⟨ff.s0,ff.loc,ff.cell,ff.pin⟩ hfn (bJL (Av _ rfl))
  refine⟨.ref h'.objs.size,_,I4,rfl,h h'.objs.size c' ((X.mg "__name__").getD .none) ctv _ (λb o n e=>?_) (.inr ⟨c',?_,?_⟩) ?_ aE⟩
  ·rw[aG (λz=>by rw[z,I.hok.fresh hle]at e;cases e),aG (λz=>by rw[z,I.hok.fresh hge]at e;cases e),aG n]
   exact e
  ·rw[aG nfP.symm,aG nc.symm];exact aE
  ·rw[aG nfc.symm];exact aE
  ·rw[aG nfc.symm];exact aE
 ·have hP0:s.heap.get? Pt=some (tabObj (#[]++#[rawInt pos.line,rawInt pos.col,.ref c'])):=I.hok Pt _ T
  refine W.kla_makeFunctionHit (cv:=.ref c') ck.clos I.ok.glob hg hcode (LB.code.keeps I.bk) hP0 trivial (codeAmong_snoc [] trivial rfl) hB λctv h' tk hk hsz=>?_;have I3:=I.kept (t':=tk) (h':=h'.push (kla_obj "<lambda>" q params body scope cl ((X.mg "__name__").getD .none) c' ctv)) λb u e=>Ah _ (hk b u e)
  have ff:=I.freAt hsz
  have hfn:=I.hok.fresh hsz
  have I4:=I3.adopt (a:=h'.objs.size) (o:=fnO h'.objs.size (kla_obj "<lambda>" q params body scope cl ((X.mg "__name__").getD .none) c' ctv)) ⟨ff.s0,ff.loc,ff.cell,ff.pin⟩ hfn (bJL (Av _ rfl))
  have sm:=aF hfn (fnO h'.objs.size (kla_obj "<lambda>" q params body scope cl ((X.mg "__name__").getD .none) c' ctv))
  exact⟨.ref h'.objs.size,_,I4,rfl,h h'.objs.size c' ((X.mg "__name__").getD .none) ctv _ (Same.p sm) (LamT.keep (.inr ⟨c',T,Tc⟩) sm) (sm _ _ Tc) aE⟩
end
end
section
open PySem.W (CodeHd tabObj kla_obj kla_fn envX)
def bZ9(a v:Value):argsOk "max" ⟨[a],[(Str.ofString "key",v)]⟩:=by unfold argsOk;kernel_rfl
section
variable {l:Addr} {its:List Value} {G:Shared->Prop} {val:Nat->Int} {Q:Q0}
def bZW(hl:s.heap.IsList l its.toArray)(hne:0<its.length)(hh:A.handled=none)(hG0:∀h' tk,(∀b o,s.heap.get? b=some o->h'.get? b=some o)->G {s with heap:=h',toks:=tk})(hG:∀(s1:Shared) h' tk,G s1->(∀b o,b≠s.heap.objs.size->b≠s.heap.objs.size+1->s1.heap.get? b=some o->h'.get? b=some o)->G {s1 with heap:=h',toks:=tk})(hcall:∀(i:Nat) v (s1:Shared) (Q:Q0) (E:Q0),its[i]?=some v->G s1->(∀t s',G s'->(∀b o,(b=s.heap.objs.size\/b=s.heap.objs.size+1\/b=l)->s1.heap.get? b=some o->s'.heap.get? b=some o)->Q (.int (val i) t) s')->wpAny (model prog w) A.in1 (call (.ref f) [v]) Q E s1)(hQ:∀z s',its[argBest (btV val) (its.length-1)]?=some z->G s'->Q z s'):wpAny (model prog w) A (call (.builtin "max") [.ref l] [(Str.ofString "key",.ref f)]) Q E s:=by
 have hname:(toString "max" ++ toString ".loop" : String)="max.loop" := by decide
 obtain⟨ol,hol,_⟩:=id hl;have hll:l<s.heap.objs.size:=As hol
 refine kmk_tree PySem.F.kind_max PySem.F.plain_max PySem.F.entry_max (bZ9 _ _) ?_;show wpAny _ A.in1 (Builtin.Builtins.bindParams "max" ["key", "default"] 0 ⟨[],[(Str.ofString "key",.ref f)]⟩ >>= _) _ _ s
 refine Af (wpAny_of_eq (show Builtin.Builtins.bindParams "max" ["key", "default"] 0 ⟨[],[(Str.ofString "key",.ref f)]⟩=pure [some (.ref f),none] from rfl) ?_);refine Af (An ?_);refine Af (Dr hl ?_);refine Af (wpAny_newList ?_ (Cy _));rw[hname];have hS:(s.heap.push {cls:=.type "list_iterator",data:=.fields #[.ref l,.int 0 0]}).objs.size=s.heap.objs.size+1:=by rw[Er]
 have nlJ:l≠s.heap.objs.size:=Bc hll
 have nlB:l≠s.heap.objs.size+1:=Bc (Nat.lt_succ_of_lt hll)
 have W:=Walks.list (prog:=prog) (w:=w) (A:=A.in1) hh s.heap.objs.size l nlJ its.toArray
 have hsz:its.toArray.size=its.length:=Az ..
 have nB:s.heap.objs.size+1∉[s.heap.objs.size,l]:=λz=>by
  simp only[List.mem_cons,List.not_mem_nil,or_false]at z;rcases z with z|z
  ·exact Nat.succ_ne_self _ z
  ·exact nlB z.symm
 rw[hS];refine An ⟨Ga Di _,?_⟩;generalize hhp:(s.heap.push {cls:=.type "list_iterator",data:=.fields #[.ref l,.int 0 0]}).push {cls:=.type "list",data:=.seq #[]}=h0;have k0:∀b o,s.heap.get? b=some o->h0.get? b=some o:=λb o e=>by rw[<-hhp];exact Ah _ (Ah _ e)
 have gJ:h0.get? s.heap.objs.size=some {cls:=.type "list_iterator",data:=.fields #[.ref l,.int 0 0]}:=by rw[<-hhp];exact Ah _ (Av _ rfl)
 have gB:h0.get? (s.heap.objs.size+1)=some {cls:=.type "list",data:=.seq #[]}:=by rw[<-hhp,<-hS];exact Av _ rfl
 have hl0:h0.IsList l its.toArray:=by obtain⟨o,e,r⟩:=hl;exact⟨o,k0 _ _ e,r⟩
 refine Fd Gu ?_;rw[Ej Di _];show wpAny _ A.in1 (seqItems? (.ref (s.heap.objs.size+1)) >>= _) _ _ _
 refine Af (wpAny_seqItems gB rfl ?_);show wpAny _ A.in1 (tryCatch (pyNext (.ref s.heap.objs.size)) _ >>= _) _ _ _
 refine Af (Ew (W.item 0 _ _ _ (by rw[hsz];exact hne) ⟨⟨_,gJ,rfl,rfl⟩,hl0⟩ λv h' tk' hP st1 hk'=>?_))
 have hv:its[0]?=some v:=by simpa using hP
 have g1:G {s with heap:=h',toks:=tk'}:=by
  refine hG {s with heap:=h0,toks:=s.toks} h' tk' (hG0 h0 s.toks k0) λb o n1 n2 e=>hk' b o (λz=>n1 (by simpa using z)) e
 have gB1:=hk' (s.heap.objs.size+1) _ (λz=>absurd (show s.heap.objs.size+1=s.heap.objs.size by simpa using z) (Nat.succ_ne_self _)) gB
 show wpAny _ A.in1 (tryCatch (holding [v] (call (.ref f) [v])) _ >>= _) _ _ _
 refine Af (Ew (Cm (hcall 0 v _ _ _ hv g1 λt2 s2 g2 k2=>?_)));have gB2:=k2 _ _ (.inr (.inl rfl)) gB1
 have st2:=W.frame _ _ _ st1 λb hb o e=>k2 b o (by
  simp only[List.mem_cons,List.not_mem_nil,or_false]at hb;rcases hb with z|z
  ·exact .inl z
  ·exact .inr (.inr z)) e
 show wpAny _ A.in1 (updateSeq (s.heap.objs.size+1) (λ_=>#[v,.int (val 0) t2]) >>= _) _ _ _
 refine Af (wpAny_updateSeq gB2 rfl ?_);rw[hname];refine An ⟨Ga Di _,?_⟩;refine bQ7 (J:=s.heap.objs.size) (B:=s.heap.objs.size+1) (f:=f) (G:=G) (val:=val) W nB (λs1 h1 tk g k=>hG s1 h1 tk g λb o n1 n2 e=>k b o (λz=>n1 (by simpa using z)) n2 e)
  (λi u s1 Q1 E1 hu g k=>hcall i u s1 Q1 E1 (by simpa using hu) g λt s3 g3 k3=>k t s3 g3 λb o hb e=>k3 b o (by
   simp only[List.mem_cons,List.not_mem_nil,or_false]at hb;rcases hb with z|z|z
   ·exact .inr (.inl z)
   ·exact .inl z
   ·exact .inr (.inr z)) e)
  (λz s' pz g=>hQ z s' (by rw[hsz]at pz;simpa using pz) g) (its.toArray.size-1) 0 _ v t2 _ (by omega) (by omega) (W.frame _ _ _ st2 λb hb o e=>(Heap.get?_update_other _ _ (λz:s.heap.objs.size+1=b=>nB (z▸hb))).trans e) (show its.toArray[0]?=some v by simpa using hv) (Heap.get?_update_self _ gB2 rfl)
  (hG s2 _ s2.toks g2 λb o n1 n2 e=>(Bz _ _ (Ne.symm n2)).trans e)
end
section
variable {σ:St}
def Inv.freezeL(I:Inv X pins σ H s)(ha:H a=some (.lst xs))(ho:s.heap.get? a=some o):Inv X pins σ (upd H a (.frz o (.lst xs))) s:=by
 have ne:∀c v,H c=some v->(∀z,v≠.lst z)->c≠a:=λc v q n z=>by rw[z,ha]at q;cases q;exact n _ rfl
 have own:∀c y,H c=some (.own y)->upd H a (.frz o (.lst xs)) c=some (.own y):=λc y q=>by rw[aG (ne c _ q λ_=>nofun)];exact q
 have tup:∀c zs,H c=some (.tup zs)->upd H a (.frz o (.lst xs)) c=some (.tup zs):=λc zs q=>by rw[aG (ne c _ q λ_=>nofun)];exact q
 refine I.re (λb q=>by rw[aG (λz=>by rw[z,ha]at q;cases q)];exact q) (λb zs q=>tup b zs (I.base.tups b zs q)) (λb o' v q=>?_) (λb ps q=>?_) (λb v q=>?_)
 ·have:=I.base.frzs b o' v q
  rw[aG (ne b _ this λ_=>nofun)];exact this
 ·obtain⟨m,e⟩:=I.base.tbls b ps q;exact⟨m,by rw[aG (ne b _ e λ_=>nofun)];exact e⟩
 ·by_cases hb:b=a
  ·subst hb;rw[aE]at q;cases q;exact(show s.heap.get? b=some o/\ObjOk X.prog X.w (upd H b (.frz o (.lst xs))) s.heap b (.lst xs) from⟨ho,(I.hok b _ ha).stay (λ_ _ _ q=>q) (λc=>own c b) tup⟩)
  ·rw[aG hb]at q;exact(I.hok b v q).stay (λ_ _ _ q=>q) (λc=>own c b) tup
def cXA(ha:H a=some (.lst xs)):unf H (upd H a (.frz o (.lst xs)))=H:=by
 funext b
 by_cases hb:b=a
 ·subst hb;rw[qO aE (λo v z=>by rw[ha]at z;cases z),ha]
 ·cases e:H b with
  |none=>exact qZ (by rw[aG hb];exact e)
  |some u=>
   by_cases hf:∃o v,u=.frz o v
   ·obtain⟨o',v,rfl⟩:=hf;exact lC (by rw[aG hb];exact e) e
   ·exact eI (by rw[aG hb];exact e) λo v z=>hf ⟨o,v,z⟩
def Inv.turned2(I:Inv X pins σ H s)(k:∀c o,c≠a->c≠b->s.heap.get? c=some o->h'.get? c=some o)(fa:Fre X pins a)(fb:Fre X pins b)(na:H a=none)(nb:H b=none)(ha:X.s₀.heap.objs.size<=a)(hb:X.s₀.heap.objs.size<=b):Inv X pins σ H {s with heap:=h',toks:=t'}:=by
 have nit:∀c u,H c=some u->c≠a/\c≠b:=λc u e=>⟨(λz=>by rw[z,na]at e;cases e),(λz=>by rw[z,nb]at e;cases e)⟩
 have nch:∀ {c},c∉[a,b]->c≠a/\c≠b:=fun {c} h=>⟨λz=>h (by simp[z]),λz=>h (by simp[z])⟩
 refine I.step (g':=s.gens) (d':=s.drawn) (ch:=[a,b]) (λc hc=>?_) (λc o _ _ hc e _=>k c o (nch hc).1 (nch hc).2 e) (λc o _ _ hc e _=>⟨o.slots,k c o (nch hc).1 (nch hc).2 e⟩) (λ_ _ _ _ n=>n)
  (λc o hc e=>⟨o,k c o (nch hc).1 (nch hc).2 e⟩) (λ_ _ e=>e) (λ_ _ _ e=>e) (λb ps e=>⟨#[],by rw[e];simp⟩) (λm hm=>?_) (λc u e=>?_) I.bare
 ·simp only[List.mem_cons,List.not_mem_nil,or_false]at hc;rcases hc with rfl|rfl
  ·exact⟨.inr ha,fa.loc,fa.cell,fa.pin⟩
  ·exact⟨.inr hb,fb.loc,fb.cell,fb.pin⟩
 ·obtain⟨o,es,ep,ho,r⟩:=hm;exact⟨o,es,ep,k _ o fa.loc.symm fb.loc.symm ho,r⟩
 ·refine(I.hok c u e).stay (λd v hd q=>k d v ?_ ?_ q) (λ_ q=>q) λ_ _ q=>q
  ·rcases hd with z|z
   ·rw[z];exact(nit c u e).1
   ·exact(nit d _ z).1
  ·rcases hd with z|z
   ·rw[z];exact(nit c u e).2
   ·exact(nit d _ z).2
end
def bQE(Pt:Addr)(q:Str)(lpos:Pos)(tb:TE)(vals:St->St)(ta:TA):TE:=λσ H Q=>ta σ H λxs H1=>∃(p:Addr) (ns:List Int) (val:Nat->Int),xs=[.ref p]/\rdL H1 p=some (ns.map V.int)/\0<ns.length/\LamT Pt q lpos H1/\
 (∀H2,(∀a zs,rdL H1 a=some zs->rdL H2 a=some zs)->∀(i:Nat) n,ns[i]?=some n->tb (some (.int n)::vals σ) H2 λv H3=>v=.int (val i)/\H3=H2)/\
 ∀(i:Nat) m H2,ns[i]?=some m->(∀j,j<ns.length->val j<=val i)->SameP Pt H1 H2->LamT Pt q lpos H2->Q (.int m) H2
def zJ(val:Nat->Int):∀n,argBest (btV val) n<=n/\∀j,j<=n->val j<=val (argBest (btV val) n):=λn=>argBest_gt val n
def aJP(s:SameP Pt H H')(h:rdL H a=some xs)(hP:∃ps,H Pt=some (.tbl ps)):rdL H' a=some xs:=by
 have na:a≠Pt:=λz=>by
  obtain⟨ps,e⟩:=hP;unfold rdL at h;rw[z,e]at h;cases h
 unfold rdL at h ⊢;cases e:H a with
 |none=>rw[e]at h;cases h
 |some o=>rw[s a o na e];rw[e]at h;exact h
def bZN(h:rdL H a=some xs):H a=some (.lst xs)\/∃o,H a=some (.frz o (.lst xs)):=by
 unfold rdL at h;cases e:H a with
 |none=>rw[e]at h;cases h
 |some o=>
  rw[e]at h;cases o with
  |lst ys=>cases h;exact .inl rfl
  |frz o u=>
   cases u with
   |lst ys=>cases h;exact .inr ⟨o,rfl⟩
   |_=>cases h
  |_=>cases h
def bX2{vals:St->St}{body:Expr}{p lpos kp:Pos}{tb:TE}(hc:X.calm=true)(hdp:X.A.depth+3<recursionLimit)(hg:Gl X "max")(hm:X.mg "max"=none)(ha:PA X [l] ta)(hcode:X.env.code=.ref c)(LB:LamB X.mg X.base c Pt)(ck:ClOkL X N scope cl vals x)(hb:∀(A:Around) (f c':Addr) (s₀:Shared) (H₀:Hp),PE (cxL X A N (X.env.qual ++ "<lambda>") scope cl f c' s₀ H₀) body tb)(hdef:defaultsOf params X.env=([],[]))(hco:scope.isCoroutine=false)(hgen:scope.isGenerator=false)(hk:scope.kind=.function)(hcell:∀z∈scope.names,z.2≠.cell)(hbind:∀(q:Str) (pm ctv v:Value) (c':Addr),bindArgs (kla_fn "<lambda>" q params body scope cl pm (.ref c') ctv) ⟨[v],[]⟩=pure [(x,v)])(hs:starEach [l] X.env=[(false,eval l X.env)]:=by rfl)(hks:keywordEach [⟨some "key",.Lambda params body scope lpos,kp⟩] X.env=[(some ("key" : Str),eval (.Lambda params body scope lpos) X.env)]:=by rfl):PE X (.Call (.Name "max" p) [l] [⟨some "key",.Lambda params body scope lpos,kp⟩] pos) (bQE Pt (X.env.qual ++ "<lambda>") lpos tb vals ta):=by
 intro pins s σ H Q I h;have hs2:backTo pos (starEach [l] X.env)=[(false,eval l X.env)]:=by rw[hs];rfl
 refine Do (gR I hg hm boot_max (zW (by rw[hs2];rfl) (by rw[hks];rfl) ?_))
 rw[hs2];refine evalArgs_kwB (by rw[hks];rfl) ?_
 rw[<-hs2];refine thn (ha pos pins s σ H _ I h) λus s1 ⟨vs,H1,I1,r1,q1⟩=>?_;obtain⟨p,ns,val,rfl,hp,hn,T,hbd,qe⟩:=q1;refine thn (oC (dJZ ck hcode LB hdef) sT pos pins s1 σ H1 (λzs H2=>∃f c' pm ctv,zs=[.ref f]/\SameP Pt H1 H2/\LamT Pt (X.env.qual ++ "<lambda>") lpos H2/\H2 c'=some (tF c' (X.env.qual ++ "<lambda>"))/\H2 f=some (fnO f (kla_obj "<lambda>" (X.env.qual ++ "<lambda>") params body scope cl pm c' ctv))) I1 ⟨T,λf c' pm ctv H' a b c d=>⟨f,c',pm,ctv,rfl,a,b,c,d⟩⟩) λws s2 ⟨zs,H2,I2,r2,q2⟩=>?_;obtain⟨f,c',pm,ctv,rfl,sP,T2,hc',hf⟩:=q2;obtain⟨u,rfl,ru⟩:=dA r1;cases ru;obtain⟨u,rfl,ru⟩:=dA r2;cases ru;have e:(backToKw pos (keywordEach [⟨some "key",.Lambda params body scope lpos,kp⟩] X.env)).filterMap (·.1)=(["key"]:List Str):=by rw[hks];rfl
 rw[e];show wpAny (model X.prog X.w) X.A (call (.builtin "max") [.ref p] [(Str.ofString "key",.ref f)]) _ _ _
 generalize X.env.qual ++ "<lambda>"=q at *;have hp2:=aJP sP hp T.tb
 -- the list is known from here on
 obtain⟨ol,hol⟩:∃o,s2.heap.get? p=some o:=by
  obtain⟨its,rv,pl,hz⟩:=I2.list (aY hp2);obtain⟨o,e,_⟩:=pl.isList;exact⟨o,e⟩
 obtain⟨Hf,If,hpf,hback,hrd,hcf,hff⟩:∃Hf,Inv X pins σ Hf s2/\Hf p=some (.frz ol (.lst (ns.map V.int)))/\(∀s',Inv X pins σ Hf s'->Inv X pins σ H2 s')/\(∀a zs,rdL H1 a=some zs->rdL Hf a=some zs)/\Hf c'=some (tF c' q)/\Hf f=some (fnO f (kla_obj "<lambda>" q params body scope cl pm c' ctv)):=by
  rcases bZN hp2 with z|⟨o,z⟩
  ·have ne:∀b u,H2 b=some u->(∀y,u≠.lst y)->b≠p:=λb u e n y=>by rw[y,z]at e;cases e;exact n _ rfl
   refine⟨upd H2 p (.frz ol (.lst (ns.map V.int))),I2.freezeL z hol,aE,λs' J=>?_,λa zs h=>?_,?_,?_⟩
   ·have:=J.unfreeze (Hs:=H2) λb o u e=>I2.base.frzs b o u e
    rw[cXA z]at this;exact this
   ·have h2:=aJP sP h T.tb
    by_cases ea:a=p
    ·subst ea;rw[hp2]at h2;cases h2;show rdO (upd H2 a (.frz ol (.lst (ns.map V.int))) a)=_
     rw[aE];rfl
    ·unfold rdL at h2 ⊢;rw[aG ea];exact h2
   ·rw[aG (ne _ _ hc' λ_=>nofun)];exact hc'
   ·rw[aG (ne _ _ hf λ_=>nofun)];exact hf
  ·obtain⟨eo,_⟩:=I2.hok p _ z;rw[hol]at eo;cases eo;exact⟨H2,I2,z,λ_ J=>J,λa zs h=>aJP sP h T.tb,hc',hf⟩
 obtain⟨its,rv,pl,hz⟩:=If.list (aY (hrd p _ hp));have hl:=pl.isList
 have hle:its.length=ns.length:=by have:=rv.length;rw[Ab]at this;omega
 have at':∀(i:Nat) (v:Value),its[i]?=some v->∃n t,ns[i]?=some n/\v=Value.int n t:=λi v hv'=>by
  have hi:i<ns.length:=by rw[<-hle];exact(Ad.mp hv').1
  obtain⟨u,hu,ru⟩:=rv.get (show (ns.map V.int)[i]?=some (.int ns[i]) by rw[Ae,Aa hi];rfl)
  rw[hv']at hu;cases hu;obtain⟨t,rfl⟩:=ru;exact⟨_,t,Aa hi,rfl⟩
 have fJ:=If.freAt (Ai s2.heap.objs.size)
 have fB:=If.freAt (He s2.heap.objs.size)
 have nJ:Hf s2.heap.objs.size=none:=If.hok.fresh (Ai _)
 have nB:Hf (s2.heap.objs.size+1)=none:=If.hok.fresh (He _)
 have sz0:=If.sz
 have ns0:∀b,s2.heap.objs.size<=b->b∉frs X.stack:=λb hb z=>by
  rcases Be.mp (If.stkSub b z) with y|y
  ·exact absurd (Bb If.lt hb) (by rw[y];exact Dh _)
  ·exact absurd (Bb (If.fsLt y) hb) (Dh _)
 refine bZW (val:=val) (G:=λs'=>Inv X pins σ Hf s') hl (by omega) (If.ok.hd hc) (λh' tk k=>If.kept k) (λs3 h' tk J k=>?_) (λi v s3 Q3 E3 hv J k=>?_) λz s' hz' J=>?_
 ·exact J.turned2 k fJ fB nJ nB sz0 (Nat.le_succ_of_le sz0)
 ·obtain⟨n,t,en,rfl⟩:=at' i v hv;refine Ge (Ei (cJI (A:=X.A.in1) (q:=q) (f:=f) (c':=c') (pm:=pm) (ctv:=ctv) (v:=.int n t) (y:=.int n) (Q:=λv H3=>v=.int (val i)/\H3=Hf) J ck If.ok.frames (If.ok.hd hc) (by show X.A.depth<_;omega) (J.hok f _ hff).1 (J.hok c' _ hcf).1 hco hgen hk hcell (hbind q pm ctv _ c') ⟨t,rfl⟩ (hb _ _ _ _ _) (hbd Hf hrd i n en)) λr s4 hr=>?_)
  match r,hr with
  |.ok (.ret u),hr=>
   have un:Un (frs X.stack) [] Hf Hf s3.heap s4.heap:=by obtain⟨v',H',_,_,un,_,_,⟨_,rfl⟩⟩:=hr;exact un
   obtain⟨v',H',J',rv',⟨rfl,rfl⟩⟩:=J.after hr;obtain⟨t',rfl⟩:=rv';refine k t' s4 J' λb o hb e=>?_;rcases hb with z|z|z
   ·subst z;exact un.keep _ o e nJ (ns0 _ (Nat.le_refl _)) (by simp)
   ·subst z;exact un.keep _ o e nB (ns0 _ (Nat.le_succ _)) (by simp)
   ·subst z;have e1:=(J.hok _ _ hpf).1
    rw[e]at e1;cases e1;exact(J'.hok _ _ hpf).1
 ·obtain⟨h1,h2⟩:=zJ val (its.length-1);obtain⟨m,t,em,rfl⟩:=at' _ _ hz';exact⟨.int m,H2,hback s' J,⟨t,rfl⟩,qe _ m H2 em (λj hj=>h2 j (by omega)) sP T2⟩
def cXS{lpos:Pos}{tb:TE}{vals:St->St}{σ:St}(h:ta σ H λxs H1=>∃(p:Addr) (ns:List Int) (val:Nat->Int),xs=[.ref p]/\rdL H1 p=some (ns.map V.int)/\0<ns.length/\LamT Pt q lpos H1/\
 (∀H2,(∀a zs,rdL H1 a=some zs->rdL H2 a=some zs)->∀(i:Nat) n,ns[i]?=some n->tb (some (.int n)::vals σ) H2 λv H3=>v=.int (val i)/\H3=H2)/\
 ∀(i:Nat) m H2,ns[i]?=some m->(∀j,j<ns.length->val j<=val i)->SameP Pt H1 H2->LamT Pt q lpos H2->Q (.int m) H2):bQE Pt q lpos tb vals ta σ H Q:=h
def dJS{k:Nat}(r:Room k A):A.depth+3<recursionLimit:=by have:=r.dp;omega
end
def bXC(CX:CXT)(P:Program)(w:World)(K:W.Frag)(mg:Str->Option Value)(base:Heap)(k:Nat)(C:Addr)(m:Str)(ps:List Str)(sp:Sp):Prop:=
 ∃(f:Addr) (fd:FuncData),FnOk P w K mg base CX k f fd ps sp/\Meth K C m f/\Binds K fd ps []
def eQ4(CX:CXT)(P:Program)(w:World)(K:W.Frag)(mg:Str->Option Value)(base:Heap)(k:Nat)(C:Addr)(ps:List Str)(sp:Sp):Prop:=
 ∃(f:Addr) (fd:FuncData),FnOk P w K mg base CX k f fd ps sp/\Mk K C f/\Binds K fd ps []
section
variable {CX:CXT} {k:Nat} {ps:List Str} {Es:St->XK} {E:XK} {m:Str} {p:Pos} {o:Expr} {ta:TE} {σ:St}
def aX9(C:Addr)(m:Str)(sp:Sp)(Es:St->XK)(ta:TE)(t:TA):TE:=λσ H Q=>ta σ H λx H1=>∃a dx fs,x=.ref a/\H1 a=some (.ins C dx fs)/\fs.lookup m=none/\
 t σ H1 λvs H2=>sp (x::vs) H2 Q (Es σ)
def cJY{us:List Value}{vs:List V}(F:FnOk X.prog X.w X.K X.mg X.base CX k f fd ps sp)(hr:Room k X.A)(hb:Binds X.K fd ps [])(hx:aJ8 CX X Es)(I1:Inv X pins σ H s1)(r:Vals vs us)(q:sp vs H Q (Es σ)):wpAny (model X.prog X.w) X.A (call (.ref f) us) (EP X pins σ Q) X.xe s1:=by
 have hl:us.length=ps.length:=by rw[<-r.length];exact F.len _ _ _ _ q
 have hb1:=hb s1 us I1.kIn (by rw[Cb];exact hl)
 rw[Cb]at hb1;refine Ge (Ei (F.run X.A X.stack s1 H ⟨us,[]⟩ us vs Q (Es σ) hr I1.env0 hb1 r q) λrs s' hq=>?_);cases rs with
 |error e=>exact hx pins σ H s1 e s' I1 hq
 |ok fl=>
  cases fl with
  |ret u=>exact I1.after hq
  |next=>exact False.elim hq
  |brk=>exact False.elim hq
  |cont=>exact False.elim hq
def bJS{pl:Sem Bool}(he:PE X o ta)(c:Cls X.K C)(hm:Meth X.K C m f)(F:FnOk X.prog X.w X.K X.mg X.base CX k f fd ps sp)(hr:Room k X.A)(hb:Binds X.K fd ps [])(hx:aJ8 CX X Es)(ha:PA X (e::es) t)(hst:starEach (e::es) X.env=(false,eval e X.env)::starEach es X.env:=by rfl)(hpl:(backTo pos (starEach es X.env)).any (·.1)=false:=by rfl)(ht:eval (.Call (.Attribute o m apos) (e::es) [] pos) X.env=(do
 let ov <-eval o X.env
 standAt apos.atName
 let (f,first) <-holding [ov] (getMethod ov m pl)
 callWith pos f first (backTo pos (starEach (e::es) X.env)) (backToKw pos (keywordEach [] X.env))):=by rfl):PE X (.Call (.Attribute o m apos) (e::es) [] pos) (aX9 C m sp Es ta t):=by
 intro pins s σ H Q I h;refine Fh (pl:=pl) (thn (he pins s σ H _ I h) λu s1 ⟨x,H1,I1,rx,a,dx,fs,ex,ea,l,q⟩=>?_) ht;subst ex;obtain rfl:u=Value.ref a:=rx;refine mS I1 ea c hm l ?_;refine Gf (first:=[.ref a]) (h₀:=X.base) I.ok.mod.kin hm.kp (thn (ha pos pins s1 σ H1 _ I1 q) λus s2 ⟨vs,H2,I2,r,q2⟩=>⟨I2.kIn,?_⟩) hst hpl
 exact cJY (us:=.ref a::us) (vs:=.ref a::vs) F hr hb hx I2 (.cons rfl r) q2
def aJU(c:bXC CX0 X.prog X.w X.K X.mg X.base k C m ps sp)(cl:Cls X.K C)(hr:Room k' X.A)(hk:k<=k')(he:PE X o ta)(ht:eval (.Call (.Attribute o m apos) [] [] pos) X.env=(do
 let ov <-eval o X.env
 standAt apos.atName
 let (f,first) <-holding [ov] (getMethod ov m pl)
 callWith pos f first (backTo pos (starEach [] X.env)) (backToKw pos (keywordEach [] X.env))):=by rfl):PE X (.Call (.Attribute o m apos) [] [] pos) (bJ0 C m sp [] E0 ta bQ5):=by
 obtain⟨f,fd,F,hm,hb⟩:=c;exact cJL (pl:=pl) he cl hm F (hr.mono hk) hb .nil cX0 ht
def dQQ(c:bXC (CXr X.prog X.w) X.prog X.w X.K X.mg X.base k C m ps sp)(cl:Cls X.K C)(hx:aJ8 (CXr X.prog X.w) X Es)(hr:Room k' X.A)(hk:k<=k')(he:PE X o ta)(ha:PA X (e::es) t)(hst:starEach (e::es) X.env=(false,eval e X.env)::starEach es X.env:=by rfl)(hpl:(backTo pos (starEach es X.env)).any (·.1)=false:=by rfl)(ht:eval (.Call (.Attribute o m apos) (e::es) [] pos) X.env=(do
 let ov <-eval o X.env
 standAt apos.atName
 let (f,first) <-holding [ov] (getMethod ov m pl)
 callWith pos f first (backTo pos (starEach (e::es) X.env)) (backToKw pos (keywordEach [] X.env))):=by rfl):PE X (.Call (.Attribute o m apos) (e::es) [] pos) (aX9 C m sp Es ta t):=by
 obtain⟨f,fd,F,hm,hb⟩:=c;exact bJS (pl:=pl) he cl hm F (hr.mono hk) hb hx ha hst hpl ht
def eQ5(c:eQ4 CX0 X.prog X.w X.K X.mg X.base k C ps sp)(hr:Room k' X.A)(hk:k+1<=k')(hg:Gl X x)(hm:X.mg x=some (.ref C))(ha:PA X (e::es) t)(hdb:(x==("__debug__" : Str))=false:=by decide)(he:starEach (e::es) X.env=(false,eval e X.env)::starEach es X.env:=by rfl)(hpl:(backTo pos (starEach es X.env)).any (·.1)=false:=by rfl):PE X (.Call (.Name x p) (e::es) [] pos) (cXC C sp [] E0 t):=by
 obtain⟨f,fd,F,M,hb⟩:=c;exact dX2 M F (hr.mono hk) hg hm hb .nil cX0 ha hdb he hpl
def eJ3{dvs:List V}(h:ta σ H λx H1=>∃a dx fs,x=.ref a/\H1 a=some (.ins C dx fs)/\fs.lookup m=none/\t σ H1 λvs H2=>sp (x::(vs++dvs)) H2 Q E):bJ0 C m sp dvs E ta t σ H Q:=h
def eXF(h:ta σ H λx H1=>∃a dx fs,x=.ref a/\H1 a=some (.ins C dx fs)/\fs.lookup m=none/\t σ H1 λvs H2=>sp (x::vs) H2 Q (Es σ)):aX9 C m sp Es ta t σ H Q:=h
def eZN{dvs:List V}(h:t σ H λvs H1=>∀x dx,H1 x=none->H1 dx=none->dx≠x->sp (.ref x::(vs++dvs)) (upd (upd H1 dx (.own x)) x (.ins C dx [])) (λv H2=>v=.non/\Q (.ref x) H2) E):cXC C sp dvs E t σ H Q:=h
def eJ1{f:Str}(h:ta σ H λx H1=>∃a C dx fs v,x=.ref a/\H1 a=some (.ins C dx fs)/\Cls K C/\NoAttr K C f/\fs.lookup f=some v/\Q v H1):fQR K ta f σ H Q:=h
def eXY{f:Str}(h:tv σ H λy H1=>ta σ H1 λx H2=>∃a C dx fs,x=.ref a/\H2 a=some (.ins C dx fs)/\Cls K C/\NoAttr K C f/\fs.length<1000/\D.nx σ (upd H2 a (.ins C dx (fI f y fs)))):fQA K ta tv f D σ H:=h
end
def wZ(w:World):List DictEntry->List (Str×Int)->Prop
 |[],[]=>True
 |e::es,kn::r=>e.hash=PyData.keyHash w.params kn.1/\(∃t,e.key=.str kn.1 t)/\(∃t,e.val=.int kn.2 t)/\wZ w es r
 |_,_=>False
def fQL(w:World)(K:W.Frag)(mg:Str->Option Value)(x:Str)(kvs:List (Str×Int)):Prop:=
 ∃(d:Addr) (es:Array DictEntry) (ep:Nat),mg x=some (.ref d)/\K.lookup d=some ⟨.type "dict",none,.dict es ep,#[]⟩/\(d==sysModules)=false/\wZ w es.toList kvs/\(kvs.map (·.1)).Nodup
def rH{P:Program}:∀ {es:List DictEntry} {kvs:List (Str×Int)},wZ w es kvs->∃vs:List (Key×Value),Pairs (bC P w) es vs/\vs.map (·.1)=kvs.map (λkn=>(Sum.inr kn.1:Key))/\(∀e∈es,∃k,(bC P w).is k e.key=true/\e.hash=(bC P w).hash k)/\
 ∀z,(match valueAt vs (Sum.inr z:Key) with|some u=>∃n t,kvs.lookup z=some n/\u=.int n t|none=>kvs.lookup z=none)
 |[],[],_=>⟨[],.nil,rfl,(λe he=>nomatch he),λz=>rfl⟩
 |e::es,(k,n)::r,h=>by
  obtain⟨h1,⟨t,h2⟩,⟨t',h3⟩,h4⟩:=h;obtain⟨vs,p,m,ke,va⟩:=rH (P:=P) h4;refine⟨((Sum.inr k:Key),.int n t')::vs,.cons (by rw[h2];exact kP k t) h3 p,by rw[Au,m];rfl,λe' he=>?_,λz=>?_⟩
  ·rcases Be.mp he with rfl|q
   ·exact⟨Sum.inr k,by rw[h2];exact kP k t,h1⟩
   ·exact ke e' q
  ·have va':=va z
   unfold valueAt at va' ⊢;rw[List.find?_cons];by_cases ez:k=z
   ·subst ez;rw[Ap rfl];exact⟨n,t',by rw[Cw,Ee],rfl⟩
   ·rw[Ay λq=>ez (Sum.inr.inj q)];rw[Cw,show (z==k)=false from Ct.mpr λq=>ez q.symm];exact va'
 |[],_::_,h=>h.elim
 |_::_,[],h=>h.elim
def dZ6(kvs:List (Str×Int))(ta:TA):TE:=λσ H Q=>ta σ H λvs H1=>∃z,vs=[.str z]/\Q (match kvs.lookup z with|some n=>.int n|none=>.non) H1
def dQE{kvs:List (Str×Int)}{p:Pos}(hg:Gl X x)(hk:fQL X.w X.K X.mg x kvs)(ha:PA X [e] ta)(hdb:(x==("__debug__" : Str))=false:=by decide)(hbase:attributeBase (.Name x p) "get" X.env (eval (.Name x p) X.env)=eval (.Name x p) X.env:=by rfl)(hfew:((backTo cpos (starEach [e] X.env)).all (λx=>!x.1)&&(backToKw cpos (keywordEach [] X.env)).all (λx=>x.1.isSome)
 && decide (([e]:List Expr).length+([]:List Keyword).length+(if ([]:List Keyword).isEmpty then 0 else 1)<30))=true:=by rfl)(hline:(apos.endLine==cpos.line)=true:=by rfl)(hs:starEach [e] X.env=(false,eval e X.env)::starEach [] X.env:=by rfl)(hplain:(backTo cpos (starEach [] X.env)).any (·.1)=false:=by rfl):PE X (.Call (.Attribute (.Name x p) "get" apos) [e] [] cpos) (dZ6 kvs ta):=by
 intro pins s σ H Q I h;obtain⟨d,es,ep,hm,hl,hd,ok,nd⟩:=hk;obtain⟨vs,pr,m,ke,va⟩:=rH (P:=X.prog) ok;have dd:∀s':Shared,X.K.In s'.heap->s'.heap.DictOf (bC X.prog X.w) d vs:=λs' k=>⟨_,es,ep,k _ _ hl,by first|exact⟨rfl,rfl,rfl⟩|exact⟨rfl,rfl⟩|(constructor<;>rfl),rfl,λe he=>ke e (by simpa using he),pr,by rw[m,show kvs.map (λkn=>(Sum.inr kn.1:Key))=(kvs.map (·.1)).map (λz=>(Sum.inr z:Key)) by rw[List.map_map];rfl];exact List.pairwise_map.mpr (nd.imp λn q=>n (Sum.inr.inj q))⟩
 have ho:PE X (.Name x p) (tC (.ref d)):=xG hg hm rfl hdb
 refine Gk hbase hfew hline rfl (thn (ho pins s σ H (λy H1=>y=.ref d/\H1=H) I ⟨rfl,rfl⟩) λv s1 ⟨x',H1,I1,r1,q⟩=>?_);obtain⟨rfl,rfl⟩:=q;cases r1;have d1:=dd s1 I1.kIn
 refine⟨"dict",_,PySem.F.plainAttrs_dict,Cg,rfl,d1.typeIs,λb q=>?_,?_⟩
 ·cases q;obtain⟨ob,_,_,h1,h2,_⟩:=d1;exact⟨ob,h1,h2.2.1⟩
 have hA:=ha cpos pins s1 σ H1 _ I1 h
 rw[hs]at hA ⊢;refine Gm (by show (false || (backTo cpos (starEach [] X.env)).any (·.1))=false;rw[hplain]<;>rfl) (Ft ?_)
 refine thn hA λus s2 ⟨vs',H2,I2,r2,z,ez,q2⟩=>?_;subst ez;obtain⟨u,rfl,t,rfl⟩:=dA r2;have d2:=dd s2 I2.kIn
 refine Hh Cg d2.typeIs Ed (Gh _ _) (meets_dict_get (bC X.prog X.w) d (show (bC X.prog X.w).is (Sum.inr z:Key) (Value.str z t)=true from kP z t) hd) ⟨_,d2.mapOf,?_⟩;have va':=va z
 cases e:valueAt vs (Sum.inr z:Key) with
 |none=>
  rw[e]at va';have va2:kvs.lookup z=none:=va'
  rw[va2]at q2;exact⟨.non,H2,I2.tok _,rfl,q2⟩
 |some u=>
  rw[e]at va';obtain⟨n,t',e2,rfl⟩:=va';rw[e2]at q2;exact⟨.int n,H2,I2.tok _,⟨t',rfl⟩,q2⟩
def eQ6{kvs:List (Str×Int)}{σ:St}(h:ta σ H λvs H1=>∃z,vs=[.str z]/\Q (match kvs.lookup z with|some n=>.int n|none=>.non) H1):dZ6 kvs ta σ H Q:=h
def dZB:R2:=λx y H Q=>∃(p q:Addr) (xs:List V),x=.ref p/\y=.ref q/\H p=some (.tup xs)/\H q=some (.tup [])/\Q (.bl xs.isEmpty) H
def eQ1(hu:X.A.units<cLine):OpR X (compareOp .Eq) dZB:=by
 intro pins s σ H x y v u Q I rx ry h;obtain⟨p,q,xs,rfl,rfl,hp,hq,k⟩:=h;cases rx;cases ry;obtain⟨its,r1,l1,_⟩:=I.tuple (SqT.of (K:=X.K) hp);obtain⟨its2,r2,l2,_⟩:=I.tuple (SqT.of (K:=X.K) hq);have e1:=r1.length
 cases r2;refine SeqAt.eq_tupleAt (e:=λ_=>true) (show s.heap.IsTuple p _ from l1) (show s.heap.IsTuple q _ from l2) hu (λj h1 h2=>absurd h2 (by simp)) ?_
 refine⟨.bl xs.isEmpty,H,I,?_,k⟩;show Value.bool _=Value.bool _
 congr 1
 cases xs with
 |nil=>
  have:its=[]:=List.eq_nil_of_length_eq_zero e1.symm
  subst this;rfl
 |cons a r=>
  cases its with
  |nil=>simp at e1
  |cons b t=>simp
def dJY{p q:Addr}(hp:H p=some (.tup xs))(hq:H q=some (.tup []))(h:Q (.bl xs.isEmpty) H):dZB (.ref p) (.ref q) H Q:=⟨p,q,xs,rfl,rfl,hp,hq,h⟩
def fQ4(z:Str):Value->Bool
 |.str y _=>y==z
 |_=>false
def bQ2:V->List V->Hp->VK->Prop:=λx vs H Q=>∃(p:Addr) (ss:List Str) (z:Str) (j:Nat),x=.ref p/\vs=[.str z]/\rdL H p=some (ss.map V.str)/\ss[j]?=some z/\(∀(i:Nat) y,i<j->ss[i]?=some y->y≠z)/\Q (.int (j:Int)) H
def cXR:MtR X "list.index" bQ2:=by
 intro pins s σ H x vs v us Q I rx rv h;obtain⟨p,ss,z,j,rfl,rfl,hp,hj,hb,q⟩:=h;cases rx;obtain⟨u,rfl,t0,rfl⟩:=rv.one;obtain⟨its,r,pl,hz⟩:=I.list (aY hp);obtain⟨⟨c,dd,dt,sl⟩,ho,hc,n,hd⟩:=pl.isList;obtain rfl:c=.type "list" := hc;obtain rfl:dt=.seq its.toArray n:=hd;have hlen:=r.length
 rw[Ab]at hlen hz;have hjl:j<ss.length:=(Ad.mp hj).1
 have hn:=iW
 have rel:∀m (hm:m<its.length),∃y t,ss[m]?=some y/\its[m]=.str y t:=λm hm=>by
  have hm':m<ss.length:=by omega
  obtain⟨u,hu,t,ru⟩:=r.get (show (ss.map V.str)[m]?=some (.str ss[m]) by rw[Ae,Aa hm'];rfl)
  rw[Aa hm]at hu;cases hu;exact⟨ss[m],t,Aa hm',ru⟩
 refine Fa Ey ⟨_,ho,rfl⟩ PySem.F.entry_list_index (PySem.F.args_list_index_2 _ _) (SeqAt.list_indexAt p its.toArray n dd sl (.str z t0) (fQ4 z) j (by rw[Az];omega) (by omega) ?_ ?_) ⟨ho,λy hy=>?_,⟨.int j,H,I.tok _,⟨_,rfl⟩,q⟩⟩
 ·obtain⟨y,t,hy,e⟩:=rel j (by omega)
  rw[hj]at hy;cases hy;rw[Fv,e];exact Ee _
 ·intro m hm hmj;have hm':m<its.length:=by rw[Az]at hm;exact hm
  obtain⟨y,t,hy,e⟩:=rel m hm';rw[Fv,e];exact Ct.mpr (hb m y hmj hy)
 ·have hy':y∈its:=by simpa using hy
  obtain⟨m,hm,rfl⟩:=Bu.mp hy';obtain⟨y,t,_,e⟩:=rel m hm;rw[e];exact SeqAt.EqAt.str_str y t z t0
def bJU{p:Addr}{ss:List Str}(e:rdL H p=some (ss.map V.str))(hj:ss[j]?=some z)(hb:∀(i:Nat) y,i<j->ss[i]?=some y->y≠z)(h:Q (.int (j:Int)) H):bQ2 (.ref p) [.str z] H Q:=⟨p,ss,z,j,rfl,rfl,e,hj,hb,h⟩
def aM(i:Nat){pos':Pos}(hN:X.N.Nodup)(he:PE X e te)(hi:X.N[i]?=some x:=by rfl)(hx:Loc X.env.scope x:=by first|exact Or.inl rfl|exact Or.inr rfl)(hs:swapsWith e (some (.Name x pos')) pos.line X.env=pure false:=by rfl)(hf:X.fn x=true\/X.env.scope.names.lookup x=some .local:=by first|exact Or.inl rfl|exact Or.inr rfl):PS X (.Assign [.Name x pos'] e pos) (cXY te (jL i)):=aXV hN hi hx he hs hf
end L2
namespace Mine
open PySem L2
variable {H H':Hp}{K:W.Frag}{L cs cw fs js ks:List Nat}{Pt Z0 Zu Zv Zw Zx Zy Zz a b dd f hg p r s0 st:Addr}{Q:VK}{T cws:Q6}{TB:List (Option Int)}{bk:List (Str×Str)}{bs ds l:List Addr}{d i j k:Nat}{fd:FuncData}{h:Option (List Nat)}{hs:Q4}{kvs:List (Key×V)}{mg:Q5}{mss:List (Q6)}{n:Nat->Int}{o:HO}{ss:List (Option Nat)}{v x:V}{vs xs:List V}{z:Str}{zs:List Str}{α β:Type}
local macro_rules | `(tactic| walk_at "rd") => `(tactic| first | assumption | exact cA | exact cW | exact wN | exact aO (by assumption) | exact cI (by assumption) | (apply aK (aF (by assumption) _); walk_at "rd"))
local macro_rules | `(tactic| walk_at "dd") => `(tactic| first | exact oX (by assumption) | exact cQS (by assumption) | exact oX aE | assumption)
local macro_rules | `(tactic| walk_at "lo") => `(tactic| first | assumption | decide | omega | (simp only [List.length_map,List.length_append,List.length_cons,List.length_nil,Str.length_append]; omega))
local macro_rules | `(tactic| walk_at "ln") => `(tactic| first | assumption | decide | exact bH (by walk_at "lo") | exact bA (by walk_at "lo"))
local macro_rules | `(tactic| walk_at "ar") => `(tactic| first | assumption | decide | omega | exact ⟨by omega,by omega⟩ | exact Or.inl ⟨by omega,by omega⟩ | exact Or.inr ⟨by omega,by omega⟩ | (dsimp only; done) | (dsimp only; omega))
local macro_rules | `(tactic| walk_at "s") => `(tactic| first
 | (with_reducible first | refine jJ ?_ | refine eXQ ?_ | refine fQ8 ?_ | refine fQF ?_ | refine eZI ?_ | refine fQE ?_ | refine eJO ?_ | refine xD ?_ | refine dJD ?_)
 | ((with_reducible refine' eZY ?sv ?_); (case sv => exact rfl))
 | (with_reducible first | refine s_c ?_ | refine fQ1 ?_ | refine fXC ?_ | refine fQT ?_ | refine eQV ?_ | refine eQL ?_ | refine fXE ?_ | refine fQ5 ?_ | refine cQ8 ?_ | refine eQB ?_ | refine eXV ?_ | refine eZ9 ?_)
 | ((with_reducible refine' eZ1 ?se ?_); (case se => walk_at "rd"))
 | (with_reducible first | refine dJM ?_ | refine cJS ?_ | refine fQ9 ?_ | refine eXA ?_ | refine eZZ ?_ | refine fXB ?_ | refine fQC ?_ | refine dJQ ?_ | refine fQP ?_ | refine fXA ?_)
 | ((with_reducible refine eZ4 ?sc ?_); (case sc => walk_at "ar"))
 | with_reducible refine eQW ?_
 | ((with_reducible refine dJ4 ?sc ?_); (case sc => walk_at "ln"))
 | (with_reducible first | refine eJG ?_ | refine eZ2 ?_ | refine fQH ?_ | refine fQJ ?_ | refine eJ0 ?_ | refine eXN ?_ | refine eZV ?_)
 | ((with_reducible refine' eZ5 ?sc ?_); (case sc => walk_at "rd"))
 | ((with_reducible refine eQ9 ?sc ?_); (case sc => walk_at "ln"))
 | ((with_reducible refine' dJH ?sc ?_); (case sc => walk_at "rd"))
 | ((with_reducible refine' eQ3 ?sc ?_); (case sc => walk_at "rd"))
 | (with_reducible first | refine dJ1 ?_ | refine dXA ?_ | refine dQ0 ?_ | refine dQ7 ?_ | refine cJU ?_ | refine dQO ?_ | refine eX0 ?_ | refine eQA ?_ | refine cJB ?_)
 | ((with_reducible refine' eJU ?se ?_); (case se => walk_at "rd"))
 | ((with_reducible refine' eJZ ?se ?sl ?_); (case se => walk_at "rd"); (case sl => walk_at "ln"))
 | ((with_reducible refine' eJ5 ?se ?sf ?sl ?_); (case se => walk_at "rd"); (case sf => walk_at "rd"); (case sl => walk_at "ln"))
 | (with_reducible first | refine dJ2 ?_ | refine dQJ ?_ | refine cZ0 ?_ | refine eX3 ?_ | refine eX6 ?_ | refine eQ2 ?_ | refine cJ7 ?_ | refine eZG ?_)
 | ((with_reducible refine' dJJ ?se ?sn ?_); (case se => walk_at "rd"); (case sn => exact rfl))
 | (with_reducible first | refine eZ6 ?_ | refine fQS ?_ | refine dJN ?_ | refine dX0 ?_ | refine eX2 ?_ | refine cJ8 ?_)
 | ((with_reducible refine eJB ?sd ?_); (case sd => walk_at "dd"))
 | (with_reducible first | refine dJL ?_ | refine eJ9 ?_ | refine eQ8 ?_ | refine dQI ?_ | refine cQE ?_ | refine dXI ?_ | refine eQP ?_ | refine fQQ ?_)
 | ((with_reducible refine' eQU ?se ?sn ?_); (case se => walk_at "rd"); (case sn => exact rfl))
 | (with_reducible first | refine dQX ?_ | refine eQI ?_ | refine cQF ?_ | refine cJX ?_)
 | ((with_reducible refine cJ1 ?sc ?_); (case sc => walk_at "ln"))
 | (with_reducible first | refine fQN ?_ | refine bJ9 ?_ | refine cJ6 ?_ | refine dXT ?_ | refine dJ9 ?_ | refine eJD ?_ | refine eXY ?_ | refine eJ1 ?_ | refine eJ3 ?_ | refine eXF ?_ | refine eZN ?_ | refine eQ6 ?_ | refine fQZ ?_ | refine fQV ?_ | refine eZ0 ?_ | refine eJC ?_)
 | dsimp only)
local macro_rules | `(tactic| walk_at "go") => `(tactic| repeat' (walk_at "s"))
local macro_rules | `(tactic| walk_at "sc") => `(tactic| exact ⟨rfl,rfl,rfl,by decide +kernel,rfl,by decide +kernel,by decide +kernel⟩)
local macro_rules | `(tactic| walk_at "o") => `(tactic| first | exact Or.inl rfl | exact Or.inr rfl)
local macro_rules | `(tactic| walk_at "gs") => `(tactic| repeat' ((fail_if_success (with_reducible refine jJ ?_)); (walk_at "s")))
def top(i:Nat):Stmt:=PySem.Challenge.pw_flaglocker_k60_whole_said_and_seen.main.body.getD i (.Pass ⟨0,0,0,0⟩)
abbrev oM:Stmt:=top 86
abbrev qT:Stmt:=top 87
abbrev rO:Stmt:=top 89
abbrev gK:Stmt:=top 88
abbrev pB:Stmt:=top 90
abbrev kI:Stmt:=top 85
abbrev fX:Stmt:=top 47
abbrev iJ:Stmt:=uY (top 80) 0
abbrev oW:Stmt:=top 91
abbrev tL:Stmt:=top 92
abbrev rK:Stmt:=top 49
abbrev iM:Stmt:=top 52
abbrev fS:Stmt:=top 51
abbrev iY:Stmt:=top 55
abbrev jQ:Stmt:=top 53
abbrev fU:Stmt:=top 56
abbrev jE:Stmt:=top 57
abbrev kA:Stmt:=uY (top 19) 0
abbrev eD:Stmt:=top 58
abbrev oO:Stmt:=top 6
abbrev iV:Stmt:=top 10
abbrev dS:Stmt:=top 12
abbrev mK:Stmt:=top 13
abbrev iN:Stmt:=top 14
abbrev mR:Stmt:=top 64
abbrev fW:Stmt:=top 73
abbrev iZ:Stmt:=uY (top 18) 0
abbrev yJ:Stmt:=top 48
abbrev oJ:Stmt:=top 29
abbrev eL:Stmt:=top 30
abbrev mH:Stmt:=top 34
abbrev gP:Stmt:=top 35
abbrev eX:Stmt:=top 36
abbrev dR:Stmt:=top 37
abbrev dD:Stmt:=top 39
abbrev mX:Stmt:=top 40
abbrev fR:Stmt:=top 78
abbrev lR:Stmt:=top 74
abbrev jO:Stmt:=top 75
abbrev lO:Stmt:=top 76
abbrev lK:Stmt:=top 77
abbrev gQ:Stmt:=top 79
abbrev mQ:Stmt:=uY (top 80) 1
abbrev rE:Stmt:=top 95
abbrev gN:Stmt:=top 31
abbrev eS:Stmt:=uY (top 80) 2
abbrev oR:Stmt:=top 7
abbrev jX:Stmt:=top 42
abbrev mJ:Stmt:=top 43
abbrev oK:Stmt:=top 44
abbrev fT:Stmt:=uY (top 80) 5
abbrev mY:Stmt:=top 93
abbrev fP:Stmt:=top 82
abbrev kR:Stmt:=top 83
abbrev oQ:Stmt:=top 8
abbrev jB:Stmt:=top 11
abbrev rA:Stmt:=top 94
abbrev pW:Stmt:=top 96
structure KFs (K:W.Frag) (Zu Zz Zv Zx Z0 Zw Zy:Addr):Prop where
 x_NoDeed:W.excIn K Zw [.type "ValueError",.type "Exception",.type "BaseException",.type "object"] "ValueError.__new__"=true
 x_NoHoist:W.excIn K Zx [.type "ValueError",.type "Exception",.type "BaseException",.type "object"] "ValueError.__new__"=true
 x_NoHalyard:W.excIn K Zy [.type "ValueError",.type "Exception",.type "BaseException",.type "object"] "ValueError.__new__"=true
 m_Lack_TowerError:W.exmOne K (.ref Zu) (.ref Zz)=some true
 m_NoHalyard_TowerError:W.exmOne K (.ref Zy) (.ref Zz)=some true
 m_Lack_Lack:W.exmOne K (.ref Zu) (.ref Zu)=some true
 m_Short_Short:W.exmOne K (.ref Zv) (.ref Zv)=some true
 t1_TowerError:W.specialIn K (.ref Zz) "__getattribute__"=some (some (.builtin "type.__getattribute__"))
 t2_TowerError:W.readsIn K Zz (.type "type")=true
 t3_TowerError:W.findCls K (.ref Zz) (.type "type") "__init__"=some (.val (.builtin "ValueError.__init__"))
 xo_Lack:aZO K Zu [.type "ValueError",.type "Exception",.type "BaseException",.type "object"] "ValueError.__new__"=true
 xk_Lack:W.keepIn K (.ref Zu)=true
 xe1_Lack:W.hasDictIn K Zu=true
 xe2_Lack:W.findIn K (.ref Zu) "__getattribute__"=some (some (.builtin "BaseException.__getattribute__"))
 xe3_Lack:W.findIn K (.ref Zu) "__getattr__"=some none
 xe4_Lack:W.findIn K (.ref Zu) "__class__"=some (some (.builtin "object.__class__"))
 xe5_Lack:W.specialIn K (.builtin "object.__class__") "__get__"=some (some (.builtin "getset_descriptor.__get__"))
 xe6_Lack:W.takesIn K (.builtin "object.__class__")=some true
 xe7_Lack:W.mroIn K Zu (.type "object")=some true
 xe8_Lack:W.subIn K (.ref Zu) (.type "BaseException")=some true
 xs_Lack:W.findIn K (.ref Zu) "__setattr__"=some (some (.builtin "object.__setattr__"))
 xr_Lack:eX5 K Zu Zz=true
 xv_Lack:W.subIn K (.ref Zu) (.type "ValueError")=some true
 xn_Lack_wants:W.findIn K (.ref Zu) "wants"=some none
 xn_Lack_flags:W.findIn K (.ref Zu) "flags"=some none
 xo_Short:aZO K Zv [.type "ValueError",.type "Exception",.type "BaseException",.type "object"] "ValueError.__new__"=true
 xk_Short:W.keepIn K (.ref Zv)=true
 xe1_Short:W.hasDictIn K Zv=true
 xe2_Short:W.findIn K (.ref Zv) "__getattribute__"=some (some (.builtin "BaseException.__getattribute__"))
 xe3_Short:W.findIn K (.ref Zv) "__getattr__"=some none
 xe4_Short:W.findIn K (.ref Zv) "__class__"=some (some (.builtin "object.__class__"))
 xe5_Short:W.specialIn K (.builtin "object.__class__") "__get__"=some (some (.builtin "getset_descriptor.__get__"))
 xe6_Short:W.takesIn K (.builtin "object.__class__")=some true
 xe7_Short:W.mroIn K Zv (.type "object")=some true
 xe8_Short:W.subIn K (.ref Zv) (.type "BaseException")=some true
 xs_Short:W.findIn K (.ref Zv) "__setattr__"=some (some (.builtin "object.__setattr__"))
 xr_Short:eX5 K Zv Zz=true
 xv_Short:W.subIn K (.ref Zv) (.type "ValueError")=some true
 xn_Short_flag:W.findIn K (.ref Zv) "flag"=some none
 cl1_Tower:W.plainGet K Z0 Str.empty=true
 cl2_Tower:W.hasDictIn K Z0=true
 cl3_Tower:W.plainOver K Z0=true
 cl4_Tower:W.findIn K (.ref Z0) "__setattr__"=some (some (.builtin "object.__setattr__"))
 mk1_Tower:W.makesIn K Z0=true
 mk2_Tower:W.keepIn K (.ref Z0)=true
 na_Tower_book:W.findIn K (.ref Z0) "book"=some none
 na_Tower_many:W.findIn K (.ref Z0) "many"=some none
 na_Tower_stock_at_first:W.findIn K (.ref Z0) "stock_at_first"=some none
 na_Tower_stock:W.findIn K (.ref Z0) "stock"=some none
 na_Tower_hung:W.findIn K (.ref Z0) "hung"=some none
 na_Tower_deeds:W.findIn K (.ref Z0) "deeds"=some none
structure Gs (K:W.Frag) (mg:Str->Option Value) (w:World) (Zu Zz Zv Zx Z0 Zw Zy:Addr):Prop extends KFs K Zu Zz Zv Zx Z0 Zw Zy where
 c_Lack:mg "Lack"=some (.ref Zu)
 c_TowerError:mg "TowerError"=some (.ref Zz)
 c_Short:mg "Short"=some (.ref Zv)
 c_NoHoist:mg "NoHoist"=some (.ref Zx)
 c_Tower:mg "Tower"=some (.ref Z0)
 c_NoDeed:mg "NoDeed"=some (.ref Zw)
 c_NoHalyard:mg "NoHalyard"=some (.ref Zy)
 d_THINGS_IN:fQL w K mg "THINGS_IN" [("haul",3),("lower",2),("lose",2),("find",2),("say",2)]
 b_range:mg "range"=none
 b_enumerate:mg "enumerate"=none
 b_sum:mg "sum"=none
 b_len:mg "len"=none
 b_list:mg "list"=none
 b_int:mg "int"=none
 b_all:mg "all"=none
 b_min:mg "min"=none
 b_max:mg "max"=none
 b_dict:mg "dict"=none
 b_zip:mg "zip"=none
 s_FLAGS:∃t,mg "FLAGS"=some (.str "abcdefghijklmnopqrstuvw1234" t)
 s_SUBSTITUTES:∃t,mg "SUBSTITUTES"=some (.str "1234" t)
 s_LETTERS:∃t,mg "LETTERS"=some (.str "abcdefghijklmnopqrstuvw" t)
 s_LONGEST_TERM:∃t,mg "LONGEST_TERM"=some (.int 10 t)
 s_TERM_LETTERS:∃t,mg "TERM_LETTERS"=some (.str "abcdefghijklmnopqrstuvwxyz" t)
 s_MOST_TERMS:∃t,mg "MOST_TERMS"=some (.int 40 t)
 s_MOST_PLACES:∃t,mg "MOST_PLACES"=some (.int 7 t)
def Gs.xx_Lack{w:World}(G:Gs K mg w Zu Zz Zv Zx Z0 Zw Zy):ExK K Zu:=⟨G.xe1_Lack,G.xe2_Lack,G.xe3_Lack,G.xe4_Lack,G.xe5_Lack,G.xe6_Lack,G.xe7_Lack,G.xe8_Lack⟩
def Gs.xc_Lack{w:World}(G:Gs K mg w Zu Zz Zv Zx Z0 Zw Zy):XcK K Zu Zz:=⟨G.xx_Lack,G.xs_Lack,aJW G.xr_Lack,G.xv_Lack⟩
def Gs.xm_Lack{w:World}(G:Gs K mg w Zu Zz Zv Zx Z0 Zw Zy):XmK K Zu:=⟨G.xo_Lack,G.xk_Lack⟩
def Gs.xx_Short{w:World}(G:Gs K mg w Zu Zz Zv Zx Z0 Zw Zy):ExK K Zv:=⟨G.xe1_Short,G.xe2_Short,G.xe3_Short,G.xe4_Short,G.xe5_Short,G.xe6_Short,G.xe7_Short,G.xe8_Short⟩
def Gs.xc_Short{w:World}(G:Gs K mg w Zu Zz Zv Zx Z0 Zw Zy):XcK K Zv Zz:=⟨G.xx_Short,G.xs_Short,aJW G.xr_Short,G.xv_Short⟩
def Gs.xm_Short{w:World}(G:Gs K mg w Zu Zz Zv Zx Z0 Zw Zy):XmK K Zv:=⟨G.xo_Short,G.xk_Short⟩
def Gs.cl_Tower{w:World}(G:Gs K mg w Zu Zz Zv Zx Z0 Zw Zy):Cls K Z0:=⟨G.cl1_Tower,G.cl2_Tower,G.cl3_Tower,G.cl4_Tower⟩
abbrev lettersT:Str := "abcdefghijklmnopqrstuvw"
abbrev subsT:Str := "1234"
abbrev flagsT:Str := "abcdefghijklmnopqrstuvw1234"
abbrev one(c:Nat):Str:=⟨#[c]⟩
def aZT:subsT.cps.toList=[49,50,51,52]:=by decide
def zA:flagsT.cps.toList=lettersT.cps.toList++subsT.cps.toList:=by decide
def aV(c:Nat):Prop:=97<=c/\c<=119
def eG(c:Nat):Prop:=49<=c/\c<=52
instance (c:Nat):Decidable (aV c):=inferInstanceAs (Decidable (_/\_))
instance (c:Nat):Decidable (eG c):=inferInstanceAs (Decidable (_/\_))
def mem_letters{c:Nat}:c∈lettersT.cps.toList ↔ aV c:=by
 have h1:∀c∈lettersT.cps.toList,aV c:=by decide +kernel
 have h2:∀k:_root_.Fin 23,97+k.val∈lettersT.cps.toList:=by decide +kernel
 refine⟨h1 c,λh=>?_⟩;have e:=h2 ⟨c-97,by have:=h.1;have:=h.2;omega⟩
 rwa [show 97+(c-97)=c by have:=h.1;omega]at e
def mem_subs{c:Nat}:c∈subsT.cps.toList ↔ eG c:=by
 have h1:∀c∈subsT.cps.toList,eG c:=by decide +kernel
 have h2:∀k:_root_.Fin 4,49+k.val∈subsT.cps.toList:=by decide +kernel
 refine⟨h1 c,λh=>?_⟩;have e:=h2 ⟨c-49,by have:=h.1;have:=h.2;omega⟩
 rwa [show 49+(c-49)=c by have:=h.1;omega]at e
def wG{c:Nat}:c∈flagsT.cps.toList ↔ aV c\/eG c:=by
 rw[zA,By,mem_letters,mem_subs]
def kF{c:Nat}(h:aV c):¬eG c:=λz=>by unfold aV at h;unfold eG at z;omega
def tP(c:Nat):subIn (one c) subsT=decide (eG c):=by
 rw[lA];exact Dq.mpr mem_subs
def dZ(z:Str):z.cps.toList.length=z.length:=by simp[Str.length]
def qW(h:z.length=1):∃c,z=one c:=by
 obtain⟨⟨l⟩⟩:=z
 match l,h with
 |[c],_=>exact⟨c,rfl⟩
def jD(z:Str):Bool:=if z.length=1 then subIn z flagsT else false
def pT(h:z.length≠1):jD z=false:=if_neg h
def rZ{c:Nat}:jD (one c)=decide (aV c\/eG c):=by
 unfold jD;rw[if_pos (by rfl),lA]
 exact Dq.mpr wG
def bZG(h:jD z=true):∃c,z=one c/\(aV c\/eG c):=by
 by_cases h1:z.length=1
 ·obtain⟨c,rfl⟩:=qW h1;rw[rZ]at h;exact⟨c,rfl,Bd h⟩
 ·rw[pT h1]at h;cases h
def jN(c:Nat)(p:Int):Prop:=aV c\/(eG c/\(c:Int)-48<p)
instance (c:Nat) (p:Int):Decidable (jN c p):=inferInstanceAs (Decidable (_\/_))
def cT(z:Str)(p:Int):Bool:=if z.length=1 then decide (jN (z.cps.toList.headD 0) p) else false
def oE{c:Nat}{p:Int}:cT (one c) p=decide (jN c p):=rfl
def uQ{p:Int}(h:cT z p=true):∃c,z=one c/\jN c p:=by
 by_cases h1:z.length=1
 ·obtain⟨c,rfl⟩:=qW h1;exact⟨c,rfl,Bd h⟩
 ·unfold cT at h;rw[if_neg h1]at h;cases h
def cR(zs:List Str):Bool:=if zs.length<1\/7<zs.length then false else (List.range zs.length).all λi=>cT (zs.getD i ⟨#[]⟩) ((1+i:Nat):Int)
def iI(h:cR zs=true):1<=zs.length/\zs.length<=7:=by
 unfold cR at h;split at h
 ·cases h
 ·omega
def cQL(h:cR zs=true)(hi:i<zs.length):cT (zs.getD i ⟨#[]⟩) ((1+i:Nat):Int)=true:=by
 unfold cR at h;split at h
 ·cases h
 ·exact Bo.mp h i (Bw.mpr hi)
def stp(w:List Nat)(c:Nat):Nat:=if eG c then w.getD (c-49) 0 else c
def rdC(fs:List Nat):List Nat:=fs.foldl (λw c=>w++[stp w c]) []
def cQO(fs:List Nat)(c:Nat):rdC (fs++[c])=rdC fs++[stp (rdC fs) c]:=by
 unfold rdC;rw[List.foldl_append];rfl
def sQ{c:Nat}(h:fs[i]?=some c):rdC (fs.take (i+1))=rdC (fs.take i)++[stp (rdC (fs.take i)) c]:=by
 rw[Bh,h];exact cQO _ _
def dQA:∀fs:List Nat,(rdC fs).length=fs.length:=by
 intro fs;have h:∀i,i<=fs.length->(rdC (fs.take i)).length=i:=by
  intro i;induction i with
  |zero=>intro _;rfl
  |succ i ih=>
   intro hi;rw[sQ (Aa (by omega)),Ag,ih (by omega)]
   rfl
 have q:=h fs.length (Ai _)
 rwa [Cj]at q
def yG(h:i<=fs.length):(rdC (fs.take i)).length=i:=by
 rw[dQA,Br];omega
def aP(cs:List Nat):Str:=⟨cs.toArray⟩
def bW(cs:List Nat):(aP cs).length=cs.length:=by show cs.toArray.size=_;simp
def cF(cs:List Nat):(aP cs).cps.toList=cs:=rfl
def eW(cs:List Nat)(c:Nat):aP cs++one c=aP (cs++[c]):=FlT.str_ext (by rw[FlT.app_cps];rfl)
def sI{a b:List Nat}(h:aP a=aP b):a=b:=Dm (λz:Str=>z.cps.toList) h
def lI(z:Str):Nat:=z.cps.toList.headD 0
def aXK(h:cR zs=true)(hz:zs[i]?=some z):∃c,z=one c/\(zs.map lI)[i]?=some c/\(aV c\/(eG c/\c-49<i)):=by
 have hi:i<zs.length:=(Ad.mp hz).1
 have q:=cQL h hi
 rw[Ac,hz]at q;obtain⟨c,e,st⟩:=uQ q;have e':z=one c:=e
 refine⟨c,e',by rw[Ae,hz,e'];rfl,?_⟩
 rcases st with l|⟨s,l⟩
 ·exact .inl l
 ·refine .inr ⟨s,?_⟩;unfold eG at s;omega
def jG(zs:List Str):Str:=aP (rdC (zs.map lI))
def eXD(z:Str):Bool:=z.cps.toList.all λc=>decide (c∈lettersT.cps.toList)
def mD(z:Str):Bool:=if z.length<1\/7<z.length then false else eXD z
def iK(f:α->β):∀l:List α,l.filterMap (λx=>some (f x))=l.map f
 |[]=>rfl
 |x::r=>by rw[Bi (f:=λx=>some (f x)) (b:=f x) rfl,Au,iK f r]
def iA{f g:α->Option β}:∀ {l:List α},(∀x∈l,f x=g x)->l.filterMap f=l.filterMap g
 |[],_=>rfl
 |x::r,h=>by rw[Eo,Eo,h x Ak,iA λy hy=>h y (Aj _ hy)]
def one_inj{a b:Nat}:one a=one b ↔ a=b:=⟨λh=>by injection h with h;injection h with h;injection h,λh=>by rw[h]⟩
def bQC(a b:Nat):decide (one a=one b)=decide (a=b):=Dq.mpr one_inj
def dXG(h:k<cw.length):atI (aP cw).cps.toList ((k:Nat):Int)=some (cw.getD k 0):=by
 refine bD ?_;rw[cF,Ac,Aa h];rfl
def dQY(h:k<23):atI lettersT.cps.toList ((k:Nat):Int)=some (97+k):=by
 refine bD ?_;have q:∀k:_root_.Fin 23,lettersT.cps.toList[k.val]?=some (97+k.val):=by decide +kernel
 exact q ⟨k,h⟩
def bJK{k:Int}(h:0<=k):kO xs none (some k)=xs.take k.toNat:=by
 unfold kO;show (xs.drop 0).take ((if k<0 then (k+(xs.length:Int)).toNat else min k.toNat xs.length)-0)=_
 rw[if_neg (by omega),List.drop_zero,Nat.sub_zero]
 by_cases hk:k.toNat<=xs.length
 ·rw[Fe hk]
 ·rw[Ez (by omega),Bs (Ai _),Bs (by omega)]
def aJ5{ns:List Int}{i:Int}(h0:0<=i)(h:i<ns.length):∃n,n∈ns/\atI (ns.map V.int) i=some (.int n):=by
 obtain⟨v,h1,h2⟩:=eX7 (xs:=ns.map V.int) (i:=i) h0 (by rw[Ab];exact h)
 rw[Ae,Aa (by omega)]at h2
 cases h2;exact⟨_,Ce _,h1⟩
def aJL{ns:List Int}(h:(ns.map V.int)[j]?=some x):∃n,n∈ns/\x=V.int n:=by
 obtain⟨n,hn,e⟩:=Ba.mp (Al h);exact⟨n,hn,e.symm⟩
def dY{ns:List Str}(h:(ns.map V.str)[j]?=some x):∃n,ns[j]?=some n/\x=V.str n:=by
 rw[Ae]at h;cases e:ns[j]? with
 |none=>rw[e]at h;cases h
 |some n=>rw[e]at h;cases h;exact⟨n,rfl,rfl⟩
def qK{c:Nat}(h:eG c):PySem.intText? (one c)=some ((c:Int)-48):=by
 unfold eG at h;have:c=49\/c=50\/c=51\/c=52:=by omega
 rcases this with rfl|rfl|rfl|rfl<;>decide +kernel
def cE(zs:List Str):(zs.map V.str).all cM=true:=by
 rw[Bo];intro x hx;obtain⟨z,_,rfl⟩:=Ba.mp hx;rfl
def cQX(h1:1<=fs.length)(h7:fs.length<=7)(h:∀k,k<fs.length->jN (fs.getD k 0) ((1+k:Nat):Int)):cR (fs.map one)=true:=by
 unfold cR;rw[Ab,if_neg (by omega),Bo]
 intro i hi;have hi':=Bw.mp hi
 rw[Ac,Ae,Aa hi'];have q:=h i hi'
 rw[Ac,Aa hi']at q;exact Ap q
def chF(cw:List Nat)(k n:Nat):Option Nat:=if cw.getD n 0=cw.getD k 0 then some (49+n) else none
def chs(cw:List Nat)(k:Nat):List Nat:=cw.getD k 0::(List.range (min k 4)).filterMap (chF cw k)
def ch_iff{c:Nat}:c∈chs cw k ↔ c=cw.getD k 0\/∃n,n<k/\n<4/\cw.getD n 0=cw.getD k 0/\c=49+n:=by
 unfold chs;rw[Be,Ca];constructor
 ·rintro(h|⟨n,hn,h⟩)
  ·exact .inl h
  ·have:=Bw.mp hn
   unfold chF at h;split at h
   ·cases h;exact .inr ⟨n,by omega,by omega,by assumption,rfl⟩
   ·cases h
 ·rintro(h|⟨n,h1,h2,h3,rfl⟩)
  ·exact .inl h
  ·exact .inr ⟨n,Bw.mpr (by omega),if_pos h3⟩
def cJV(cw:List Nat)(k:Nat):1<=(chs cw k).length/\(chs cw k).length<=5:=by
 unfold chs;have:=Cs (chF cw k) (List.range (min k 4))
 rw[Bq]at this;rw[Aw];omega
def cZ9{c:Nat}(hL:aV (cw.getD k 0))(h:c∈chs cw k):jN c ((1+k:Nat):Int):=by
 rcases ch_iff.mp h with rfl|⟨n,h1,h2,_,rfl⟩
 ·exact .inl hL
 ·exact .inr ⟨⟨by omega,by omega⟩,by omega⟩
def dJT{c:Nat}(hL:aV (cw.getD k 0))(hk:k<cw.length)(h:c∈chs cw k):stp (cw.take k) c=cw.getD k 0:=by
 rcases ch_iff.mp h with rfl|⟨n,h1,h2,h3,rfl⟩
 ·exact if_neg (kF hL)
 ·unfold stp;rw[if_pos ⟨by omega,by omega⟩,show 49+n-49=n by omega,Ac,List.getElem?_take_of_lt h1,<-Ac,h3]
def yW(hL:∀d∈cw,aV d)(hl:fs.length<=cw.length):∀i,i<=fs.length->(∀k,k<i->fs.getD k 0∈chs cw k)->rdC (fs.take i)=cw.take i
 |0,_,_=>rfl
 |i+1,hi,h=>by
  have hc:cw[i]?=some (cw.getD i 0):=by rw[Ac,Aa (by omega)];rfl
  have hf:fs[i]?=some (fs.getD i 0):=by rw[Ac,Aa (by omega)];rfl
  rw[sQ hf,yW hL hl i (by omega) λk hk=>h k (by omega),dJT (hL _ (Al hc)) (by omega) (h i (by omega)),Bh,hc]
  rfl
def kB(hL:∀d∈cw,aV d)(hk:k<cw.length):aV (cw.getD k 0):=by
 rw[Ac,Aa hk];exact hL _ (Ce hk)
def dJW(hL:∀d∈cw,aV d)(hl:fs.length=cw.length)(h:∀k,k<fs.length->fs.getD k 0∈chs cw k):rdC fs=cw:=by
 have q:=yW hL (by omega) fs.length (Ai _) h
 rwa [Cj,hl,Cj]at q
def bJ1(hL:∀d∈cw,aV d)(h1:1<=fs.length)(h7:fs.length<=7)(hl:fs.length<=cw.length)(h:∀k,k<fs.length->fs.getD k 0∈chs cw k):cR (fs.map one)=true:=
 cQX h1 h7 λk hk=>cZ9 (kB hL (by omega)) (h k hk)
def cZQ{c:Nat}:inV (.str (one c)) ((cs.map one).map V.str)=decide (c∈cs):=by
 induction cs with
 |nil=>rfl
 |cons d r ih=>
  rw[Au,Au];show ((one d==one c) || inV (.str (one c)) ((r.map one).map V.str))=_
  rw[ih,<-xX];by_cases h:c=d
  ·subst h;rw[Ap rfl,Bool.true_or,Ap Ak]
  ·rw[Ay (λz=>by injection z with z;exact h (one_inj.mp z).symm),Bool.false_or]
   exact Dq.mpr ⟨λz=>Aj _ z,λz=>(Be.mp z).resolve_left h⟩
def dQR{c:Nat}(h:aV c):Builtin.Str.occurrences lettersT (one c) 0 lettersT.length 1=[c-97]:=by
 have q:∀k:_root_.Fin 23,Builtin.Str.occurrences lettersT (one (97+k.val)) 0 lettersT.length 1=[k.val]:=by decide +kernel
 unfold aV at h;have e:=q ⟨c-97,by omega⟩
 rwa [show 97+(c-97)=c by omega]at e
def lH(cs:List Nat)(n:Nat):Int:=((List.range n).map λi:Nat=>((1+i:Nat):Int)*((cs.getD i 0-97:Nat):Int)).sum
def iF(cs:List Nat)(n:Nat):lH cs (n+1)=lH cs n+((1+n:Nat):Int)*((cs.getD n 0-97:Nat):Int):=by
 unfold lH;rw[Cf,Ao,List.sum_append];simp
def mE{cs ds:List Nat}:∀ {n:Nat},(∀i,i<n->cs.getD i 0=ds.getD i 0)->lH cs n=lH ds n
 |0,_=>rfl
 |n+1,h=>by rw[iF,iF,mE λi hi=>h i (by omega),h n (by omega)]
def aXA{cs ds:List Nat}{k:Nat}:∀ {n:Nat},k<n->(∀i,i<n->i≠k->cs.getD i 0=ds.getD i 0)->
 lH ds n=lH cs n+((1+k:Nat):Int)*(((ds.getD k 0-97:Nat):Int)-((cs.getD k 0-97:Nat):Int))
 |0,h,_=>absurd h (Gd _)
 |n+1,h,hh=>by
  rw[iF,iF];by_cases e:k=n
  ·subst e;rw[mE (cs:=ds) (ds:=cs) λi hi=>(hh i (by omega) (by omega)).symm,Int.mul_sub]
   omega
  ·rw[aXA (k:=k) (n:=n) (by omega) λi hi=>hh i (by omega),hh n (by omega) (λz=>e z.symm)]
   omega
def bZC{m x y:Int}(hk:k<7)(hx:0<=x/\x<23)(hy:0<=y/\y<23)(h:m%23=0):(m+((1+k:Nat):Int)*(y-x))%23=0 ↔ y=x:=by
 have hk':k=0\/k=1\/k=2\/k=3\/k=4\/k=5\/k=6:=by omega
 rcases hk' with rfl|rfl|rfl|rfl|rfl|rfl|rfl<;>simp only[Nat.reduceAdd]<;>omega
def fO(cs:List Nat):Bool:=decide (lH cs cs.length%23=0)
def bXQ(cs:List Nat):Bool:=decide (1<cs.length)&&fO cs
def tK(hk:k<cs.length):(cs.set k d).getD i 0=if i=k then d else cs.getD i 0:=by
 rw[Ac,List.getElem?_set,Ac];by_cases e:i=k
 ·subst e;rw[if_pos rfl,if_pos rfl,if_pos hk];rfl
 ·rw[if_neg (λz=>e z.symm),if_neg e]
def bQJ(hL:∀d∈cs,aV d){c:Nat}(hc:aV c):∀d∈cs.set k c,aV d:=λd hd=>by
 rcases List.mem_or_eq_of_mem_set hd with h|h
 ·exact hL d h
 ·rw[h];exact hc
def qU{cs:List Nat}{k d:Nat}(hk:k<cs.length):lH (cs.set k d) cs.length=lH cs cs.length+((1+k:Nat):Int)*(((d-97:Nat):Int)-((cs.getD k 0-97:Nat):Int)):=by
 have e:(cs.set k d).getD k 0=d:=by rw[tK hk,if_pos rfl]
 rw[aXA (cs:=cs) (ds:=cs.set k d) (k:=k) hk (λi hi hn=>by rw[tK hk,if_neg hn]),e]
def dXW{cs:List Nat}(h7:cs.length<=7)(hL:∀d∈cs,aV d){k d:Nat}(hk:k<cs.length)(hd:aV d)(h:fO cs=true):fO (cs.set k d)=decide (d=cs.getD k 0):=by
 unfold fO at h ⊢;have hm:=Bd h
 have hg:=kB hL hk
 unfold aV at hd hg;rw[Du,qU hk];refine Dq.mpr ((bZC (by omega) ⟨by omega,by omega⟩ ⟨by omega,by omega⟩ hm).trans ?_)
 omega
def sG{cs:List Nat}(h7:cs.length<=7){k:Nat}(hk:k<cs.length):∃d,aV d/\fO (cs.set k d)=true:=by
 have q:∀k:_root_.Fin 7,∀m:_root_.Fin 23,∃d:_root_.Fin 23,(m.val+(1+k.val)*d.val)%23=0:=by decide +kernel
 have hs:=qU (cs:=cs) (k:=k) (d:=97) hk
 obtain⟨d,hd⟩:=q ⟨k,by omega⟩ ⟨(lH (cs.set k 97) cs.length%23).toNat,by omega⟩
 refine⟨97+d.val,⟨by omega,by have:=d.isLt;omega⟩,?_⟩
 unfold fO;rw[Du];have e2:=qU (cs:=cs) (k:=k) (d:=97+d.val) hk
 simp only at hd;have hk':k=0\/k=1\/k=2\/k=3\/k=4\/k=5\/k=6:=by omega
 refine Ap ?_;rcases hk' with rfl|rfl|rfl|rfl|rfl|rfl|rfl<;>simp only[Nat.reduceAdd]at hs e2 hd<;>omega
def cJK(hL:∀d∈cs,aV d):(aP cs).cps.all (· < 128)=true:=by
 rw[Array.all_eq_true];intro i hi;have h1:(aP cs).cps[i]∈cs:=by
  have:(aP cs).cps[i]∈(aP cs).cps:=Array.getElem_mem hi
  rw[<-Array.mem_toList_iff]at this;exact this
 have:=hL _ h1
 unfold aV at this;exact Ap (by omega)
def cX1(hL:∀d∈cs,aV d)(h7:cs.length<=7):mD (aP cs)=decide (1<=cs.length):=by
 unfold mD;rw[bW];by_cases h:1<=cs.length
 ·rw[if_neg (by omega),Ap h]
  unfold eXD;rw[cF,Bo];intro d hd;exact Ap (mem_letters.mpr (hL d hd))
 ·rw[if_pos (by omega),Ay h]
def dXX(c:Nat):Prop:=97<=c/\c<=122
def eF(t:List Nat):Prop:=1<=t.length/\t.length<=10/\∀c∈t,dXX c
abbrev tmsT:Str := "abcdefghijklmnopqrstuvwxyz"
def BkAt(H:Hp)(r:Addr)(bk:List (Str×Str)):Prop:=∃ps:List Addr,H r=some (.lst (ps.map V.ref))/\ps.length=bk.length/\∀(j:Nat) p b,ps[j]?=some p->bk[j]?=some b->H p=some (.tup [.str b.1,.str b.2])
def BkAt.keep(h:BkAt H r bk)(s:Same H H'):BkAt H' r bk:=by
 obtain⟨ps,h1,h2,h3⟩:=h;exact⟨ps,s _ _ h1,h2,λj p b hp hb=>s _ _ (h3 j p b hp hb)⟩
def bI(ts:List (List Nat)):Str:=Txt.join " " (ts.map aP)
structure GoodBk (bk:List (Str×Str)):Prop where
 le:bk.length<=60
 words:(bk.map (·.1)).Nodup
 means:(bk.map (·.2)).Nodup
 word:∀b∈bk,∃cw:List Nat,b.1=aP cw/\1<=cw.length/\cw.length<=6/\∀d∈cw,aV d
 mean:∀b∈bk,∃ts:List (List Nat),b.2=bI ts/\1<=ts.length/\ts.length<=5/\∀t∈ts,eF t
def wJ:∀ts:List (List Nat),(∀t∈ts,eF t)->((ts.map aP).map (·.length)).sum<=10*ts.length
 |[],_=>Ai _
 |t::r,h=>by
  rw[Au,Au,En,Aw,bW];have h1:=(h t Ak).2.1
  have:=wJ r λx hx=>h x (Aj _ hx)
  omega
def bQ8{k:Int}(h:0<=k):kO xs (some k) none=xs.drop k.toNat:=by
 unfold kO;show (xs.drop (if k<0 then (k+(xs.length:Int)).toNat else min k.toNat xs.length)).take (xs.length-(if k<0 then (k+(xs.length:Int)).toNat else min k.toNat xs.length))=_
 rw[if_neg (by omega)]
 by_cases hk:k.toNat<=xs.length
 ·rw[Fe hk,Bs (by rw[Cq];omega)]
 ·rw[Ez (by omega),List.drop_eq_nil_of_le (by omega),List.drop_eq_nil_of_le (by omega),List.take_nil]
def vQ(sep:Array Nat):∀(ys:List Str) (acc:Array Nat),(ys.foldl (λacc p=>acc++sep++p.cps) acc).toList=acc.toList++(ys.map λy=>sep.toList++y.cps.toList).flatten
 |[],acc=>by simp
 |y::r,acc=>by
  rw[List.foldl_cons,vQ sep r];simp
def aXC(sep y:Str)(r:List Str):(Txt.join sep (y::r)).cps.toList=y.cps.toList++(r.map λy=>sep.cps.toList++y.cps.toList).flatten:=by
 have e:=vQ sep.cps r y.cps
 rw[<-e];rfl
def cXJ{ts:Q6}(h5:ts.length<=5)(h:∀t∈ts,eF t):(bI ts).length<=60:=by
 unfold bI;cases ts with
 |nil=>exact Cy _
 |cons t r=>
  have hl:∀r:List (List Nat),(∀t∈r,eF t)->((r.map aP).map λy=>(Str.ofString " ").cps.toList++y.cps.toList).flatten.length<=11*r.length:=λr h=>by
   induction r with
   |nil=>exact Ai _
   |cons u v ih=>
    rw[Au,Au,Co,Ag,Ag,Aw];have h1:=(h u Ak).2.1
    have h2:=ih λx hx=>h x (Aj _ hx)
    rw[cF];have h3:(Str.ofString " ").cps.toList.length=1:=rfl
    omega
  have e:=aXC (Str.ofString " ") (aP t) (r.map aP)
  have h1:=(h t Ak).2.1
  have h2:=hl r λx hx=>h x (Aj _ hx)
  rw[<-dZ,Au,show Txt.join " " (aP t::r.map aP)=Txt.join (Str.ofString " ") (aP t::r.map aP) from rfl,e,Ag,cF];rw[Aw]at h5;omega
def xQ(K:W.Frag)(Pt:Addr):Sp:=λvs H Q _=>∃(a:Addr) (ns:List Int),vs=[.ref a]/\SqL K H a (ns.map V.int)/\ns.length<=63/\H Pt=some (.tbl #[])/\∀H',Q (.bl true) H'
def tX:Sp:=λvs H Q _=>∃z,vs=[.str z]/\z.length<=1000/\Q (.bl (jD z)) H
def oB:Sp:=λvs H Q _=>∃z p,vs=[.str z,.int p]/\z.length<=1000/\Q (.bl (cT z p)) H
def pQ:Sp:=λvs H Q _=>∃a zs,vs=[.ref a]/\rdL H a=some (zs.map V.str)/\zs.length<=1000/\(∀z∈zs,z.length<=1000)/\∀H',Same H H'->Q (.bl (cR zs)) H'
def mP(aN:Addr):Sp:=λvs H Q E=>∃a zs,vs=[.ref a]/\rdL H a=some (zs.map V.str)/\zs.length<=1000/\(∀z∈zs,z.length<=1000)/\(cR zs=true->∀H',Same H H'->Q (.str (jG zs)) H')/\(cR zs=false->∀H',Same H H'->E (.ref aN) none H')
def xB{j:Int}(e:j=(k:Int))(h:k<cw.length):atI (aP cw).cps.toList j=some (cw.getD k 0):=by
 rw[e];exact dXG h
def dJ{i:Int}(e:H p=some (.tup xs))(e':atI xs i=some v)(h:Q v H):mIx (.ref p) (.int i) H Q:=by
 have e1:rdL H p=none:=by unfold rdL;rw[e];rfl
 unfold mIx;simp only[e1,dE e,e'];exact h
section
variable {P:Program} {w:World} {K:W.Frag} {mg:Q5} {base:Heap}
def lW(aC:Addr):Sp:=λvs H Q _=>∃ea v,vs=[.ref ea,v]/\H ea=some (eV ea aC none)/\∀dx,H dx=none->Q .non (upd (upd H ea (eV ea aC (some dx))) dx (xdO dx [("flag",v)]))
def uN:FnScope ["self", "flag"] ["self", "flag"] (aI iZ):=by walk_at "sc"
def uF(F:Fun K "__init__" "Short.__init__" iZ f fd)(G:Gs K mg w Zu Zz Zv Zx Z0 Zw Zy):FnOk P w K mg base CX0 1 f fd ["self", "flag"] (lW Zv):=by
 refine F.ok uN (λvs H Q E h=>?_) (λcdv A outer s H vs Q E hr h=>?_)
 ·obtain⟨ea,v,rfl,_⟩:=h;rfl
 obtain⟨ea,v,rfl,he,q⟩:=h;refine⟨_,(@aD _ _ _ _ _ (dW (zS rfl G.c_TowerError G.t1_TowerError G.t2_TowerError G.t3_TowerError (aA (mv 0) (aA (mv 1) aB)))) (@aH _ _ _ (xA (mv 0) (mv 1) rfl))),?_⟩;walk_at "go";refine⟨ea,[v],Zv,Zz,none,rfl,by show 1<=sizeLine;decide,he,(λ_ z=>nomatch z),G.xc_Short,?_⟩
 walk_at "go";exact⟨ea,Zv,Zz,rfl,G.xc_Short,G.xn_Short_flag,.inl ⟨he,q⟩⟩
def cJG{H1:Hp}{ea dx:Addr}{o' o'':HO}(s:Same H H1)(h1:H1 ea=none)(h2:upd H1 ea o dx=none):Same H (del (upd (upd (upd H1 ea o) ea o') dx o'') ea):=λb u e=>by
 have e1:=s b u e
 have n1:b≠ea:=bE e1 h1
 have n3:dx≠ea:=λz=>by rw[z,aE]at h2;cases h2
 have n2:b≠dx:=λz=>by rw[<-z,aG n1,e1]at h2;cases h2
 rw[iT n1,aG n2,aG n1,aG n1];exact e1
def bJH{H1:Hp}{ea dx:Addr}{o' o'':HO}(h2:upd H1 ea o dx=none):upd (upd (upd H1 ea o) ea o') dx o'' ea=some o'/\del (upd (upd (upd H1 ea o) ea o') dx o'') ea dx=some o'':=by
 have n3:dx≠ea:=λz=>by rw[z,aE]at h2;cases h2
 exact⟨by rw[aG n3.symm,aE],by rw[iT n3,aE]⟩
structure Lk (kvs:List (Key×V)) (f:Nat->Option Int):Prop where
 nd:(kvs.map (·.1)).Nodup
 ks:∀kv∈kvs,∃(c:Nat) (n:Int),kv=(Sum.inr (one c),V.int n)
 val:∀c,bT kvs (Sum.inr (one c))=(f c).map V.int
def Lk.nil:Lk [] (λ_=>none):=⟨List.nodup_nil,(λkv h=>nomatch h),λc=>rfl⟩
def key_one{a b:Nat}:((Sum.inr (one a):Key)=Sum.inr (one b)) ↔ a=b:=⟨λh=>one_inj.mp (Sum.inr.inj h),λh=>by rw[h]⟩
def bQO:∀ {l:List α} {k:α},l.Nodup->¬k∈l->(l++[k]).Nodup
 |[],k,_,_=>by simp
 |a::r,k,h,hk=>by
  obtain⟨h1,h2⟩:=Cu.mp h;refine Cu.mpr ⟨λm=>?_,bQO h2 λm=>hk (Aj _ m)⟩;rcases By.mp m with q|q
  ·exact h1 q
  ·exact hk (by rw[Am.mp q];exact Ak ..)
def dQ6{k:Key}(h:bT kvs k=none):¬k∈kvs.map (·.1):=λm=>by
 obtain⟨p,hp,e⟩:=Ba.mp m;have q:(kvs.any λkv=>decide (kv.1=k))=true:=List.any_eq_true.mpr ⟨p,hp,Ap e⟩
 rw[fF,h]at q;cases q
def aXG(kvs:List (Key×V))(k:Key)(v:V)(h:bT kvs k≠none):(cX kvs k v).map (·.1)=kvs.map (·.1):=by
 unfold cX;have e:(kvs.any λkv=>decide (kv.1=k))=true:=by
  rw[fF];cases q:bT kvs k with
  |none=>exact absurd q h
  |some _=>rfl
 rw[if_pos e,Bt];refine Dj λkv _=>?_;show (if kv.1=k then (kv.1,v) else kv).1=kv.1
 split<;>rfl
def Lk.put{f:Nat->Option Int}(h:Lk kvs f)(c:Nat)(n:Int):Lk (cX kvs (Sum.inr (one c)) (.int n)) (λd=>if d=c then some n else f d) where
 nd:=by
  cases e:bT kvs (Sum.inr (one c)) with
  |none=>rw[kM _ e,Ao];exact bQO h.nd (dQ6 e)
  |some v=>rw[aXG _ _ _ (by rw[e];exact λz=>nomatch z)];exact h.nd
 ks:=λkv hkv=>by
  unfold cX at hkv;split at hkv
  ·obtain⟨kv',h',e⟩:=Ba.mp hkv;obtain⟨c',n',e'⟩:=h.ks kv' h';subst e';dsimp only at e;split at e
   ·exact⟨c',n,e.symm⟩
   ·exact⟨c',n',e.symm⟩
  ·rcases By.mp hkv with q|q
   ·exact h.ks kv q
   ·exact⟨c,n,Am.mp q⟩
 val:=λd=>by
  rw[zQ];by_cases e:d=c
  ·rw[if_pos (key_one.mpr e),if_pos e];rfl
  ·rw[if_neg (λz=>e (key_one.mp z)),if_neg e];exact h.val d
def cZ6[DecidableEq α]:∀ {l m:List α},l.Nodup->(∀x∈l,x∈m)->l.length<=m.length
 |[],m,_,_=>Cy _
 |a::r,m,h,s=>by
  obtain⟨h1,h2⟩:=Cu.mp h;have q:=cZ6 (l:=r) (m:=m.erase a) h2 λx hx=>(List.mem_erase_of_ne λz=>h1 (by rw[<-z];exact hx)).mpr (s x (Aj _ hx))
  have ha:=s a (Ak ..)
  rw[List.length_erase_of_mem ha]at q;have:=List.length_pos_of_mem ha
  rw[Aw];omega
def aZ(f:Nat->Option Int)(c:Nat):Int:=(f c).getD 0
def pZ(c:Nat):Prop:=aV c\/eG c
instance (c:Nat):Decidable (pZ c):=inferInstanceAs (Decidable (_\/_))
def cH(n:Nat->Int)(c:Nat):Option Int:=if pZ c/\0<n c then some (n c) else none
def nN{m:Nat->Int}(h:∀c,pZ c->m c=n c):cH m=cH n:=by
 funext c
 unfold cH;by_cases q:pZ c
 ·rw[h c q]
 ·rw[if_neg λz=>q z.1,if_neg λz=>q z.1]
def oP{c:Nat}(hc:pZ c)(h:0<=n c):aZ (cH n) c=n c:=by
 unfold aZ cH;by_cases q:0<n c
 ·rw[if_pos ⟨hc,q⟩];rfl
 ·rw[if_neg λz=>q z.2];show (0:Int)=n c;omega
def Lk.ext{f g:Nat->Option Int}(h:Lk kvs f)(e:f=g):Lk kvs g:=e▸h
def qG(f:Nat->Option Int)(c:Nat):((f c).map V.int).getD (.int 0)=.int (aZ f c):=by
 unfold aZ;cases f c<;>rfl
def flags_mem{c:Nat}:c∈flagsT.cps.toList ↔ pZ c:=wG
def eJR(n:Nat->Int)(i c:Nat):Option Int:=if c∈flagsT.cps.toList.take i/\0<n c then some (n c) else none
def eZJ(n:Nat->Int):eJR n 0=λ_=>none:=by
 funext c
 unfold eJR;rw[List.take_zero];exact if_neg λz=>nomatch z.1
def kvL(g:Nat->Int)(L:List Nat):List (Key×V):=L.map λc=>(Sum.inr (one c),V.int (g c))
def bN(n:Nat->Int)(i:Nat):List Nat:=(flagsT.cps.toList.take i).filter λc=>decide (0<n c)
def aXB{g:Nat->Int}{c:Nat}(h:c∉L):bT (kvL g L) (Sum.inr (one c))=none:=by
 induction L with
 |nil=>rfl
 |cons d r ih=>
  show bT ((Sum.inr (one d),V.int (g d))::kvL g r) _=none
  rw[bX (λz=>h (by rw[key_one.mp z];exact Ak)),ih λz=>h (Aj _ z)]
def flags_nd:flagsT.cps.toList.Nodup:=by decide +kernel
def plainL_mem{c:Nat}:c∈bN n i ↔ c∈flagsT.cps.toList.take i/\0<n c:=by
 unfold bN;rw[Dt,Ci]
def aXW{c:Nat}(h:flagsT.cps.toList[i]?=some c):c∉bN n i:=λz=>by
 have m:=(plainL_mem.mp z).1
 obtain⟨j,hj,e⟩:=Bu.mp m;rw[Br]at hj;rw[List.getElem_take]at e;obtain⟨hi,e2⟩:=Ad.mp h;have:=(Ep flags_nd).mp (e.trans e2.symm)
 omega
def aZU{c:Nat}(h:flagsT.cps.toList[i]?=some c)(p:0<n c):bN n (i+1)=bN n i++[c]:=by
 unfold bN;rw[Bh,h,Fb];show _++[c].filter _=_
 rw[show [c].filter (λc=>decide (0<n c))=[c] by simp[p]]
def aZL{c:Nat}(h:flagsT.cps.toList[i]?=some c)(p:¬0<n c):bN n (i+1)=bN n i:=by
 unfold bN;rw[Bh,h,Fb];show _++[c].filter _=_
 rw[show [c].filter (λc=>decide (0<n c))=[] by simp;omega,List.append_nil]
def iR(n:Nat->Int)(i:Nat):(bN n i).length<=27:=by
 unfold bN;exact Cc (Fj ..) (by rw[Br];exact Cc (Nat.min_le_right ..) (by decide))
def bX4(n:Nat->Int)(i:Nat):(bN n i).Nodup:=(flags_nd.sublist (Gj ..)).filter _
def bZ0(g:Nat->Int)(L:List Nat)(d:Nat):Option Int:=if d∈L then some (g d) else none
def cZC(g:Nat->Int){r:List Nat}{c:Nat}(hc:c∉r)(h:Lk (kvL g r) (bZ0 g r)):Lk (kvL g (r++[c])) (bZ0 g (r++[c])):=by
 have l:=h.put c (g c)
 rw[kM _ (aXB hc)]at l;have e:kvL g (r++[c])=kvL g r++[(Sum.inr (one c),V.int (g c))]:=by unfold kvL;rw[Ao];rfl
 rw[e];refine l.ext ?_;funext d
 unfold bZ0;by_cases hd:d=c
 ·subst hd;rw[if_pos rfl,if_pos (Bv _ (Am.mpr rfl))]
 ·rw[if_neg hd];by_cases hr:d∈r
  ·rw[if_pos hr,if_pos (Dp _ hr)]
  ·rw[if_neg hr,if_neg (λz=>(By.mp z).elim hr λy=>hd (Am.mp y))]
def aJ9(g:Nat->Int):∀(L r:List Nat),(r++L).Nodup->Lk (kvL g r) (bZ0 g r)->Lk (kvL g (r++L)) (bZ0 g (r++L))
 |[],r,_,h=>by rw[Cb];exact h
 |c::L,r,nd,h=>by
  have e:r++c::L=(r++[c])++L:=by rw[Fn];rfl
  have hc:c∉r:=λz=>(List.nodup_append.mp nd).2.2 c z c Ak rfl
  rw[e]at nd ⊢;exact aJ9 g L (r++[c]) nd (cZC g hc h)
def dJ0(g:Nat->Int)(nd:L.Nodup):Lk (kvL g L) (λd=>if d∈L then some (g d) else none):=by
 have r:=aJ9 g L [] nd (Lk.nil.ext (by funext d;unfold bZ0;rw[if_neg (λz=>nomatch z)]))
 exact r
def fV(n:Nat->Int):Lk (kvL n (bN n 27)) (cH n):=by
 refine(dJ0 n (bX4 n 27)).ext ?_;funext d
 unfold cH;have e:d∈bN n 27 ↔ pZ d/\0<n d:=by
  rw[plainL_mem,Bs (by decide),flags_mem]
 by_cases h:d∈bN n 27
 ·rw[if_pos h,if_pos (e.mp h)]
 ·rw[if_neg h,if_neg (λz=>h (e.mpr z))]
def cU:Sp:=λvs H Q _=>∃(a:Addr) (kvs:List (Key×V)) (f:Nat->Option Int),vs=[.ref a]/\Rd H a (.dK kvs)/\Lk kvs f/\
 ∀(r:Addr) (H':Hp),H r=none->Same H H'->H' r=some (.dK (kvL (aZ f) (bN (aZ f) 27)))->Q (.ref r) H'
def sc_plain_locker:FnScope ["locker", "plain", "flag"] ["locker"] (aI fX):=by walk_at "sc"
def qE(F:Fun K "plain_locker" "plain_locker" fX f fd)(G:Gs K mg w Zu Zz Zv Zx Z0 Zw Zy):FnOk P w K mg base CX0 1 f fd ["locker"] cU:=by
 refine F.ok sc_plain_locker (λvs H Q E h=>?_) (λcdv A outer s H vs Q E hr h=>?_)
 ·obtain⟨a,kvs,f,rfl,_⟩:=h;rfl
 obtain⟨a,kvs,f,rfl,ha,lk,q⟩:=h;refine⟨_,(@aD _ _ _ _ _ (aM 1 sc_plain_locker.nd rJ) (@aD _ _ _ _ _ (cJ Bm rfl (jS (dQ rfl G.s_FLAGS)) (aW (i:=2) sc_plain_locker.nd rfl (Or.inl rfl)) (@aH _ _ _ (bY (aX aZB (hX Cg Dv (aJ7 (Room.u1 hr)) (mv 0) (aA (mv 2) (aA aJ aB))) aJ (bB _)) (@aH _ _ _ (gM (Room.u1 hr) (mv 1) (mv 2) (gH (Room.u1 hr) (mv 0) (mv 2) (λ_ _=>rfl)) rfl)) bF))) (@aH _ _ _ (aR (mv 1))))),?_⟩;walk_at "go";intro p hp;walk_at "go";refine aJI (λi σ H'=>∃(v:Option V),σ=[some (.ref a),some (.ref p),v]/\Same H H'/\H' p=some (.dK (kvL (aZ f) (bN (aZ f) i))))
  ⟨none,rfl,aF hp _,aE⟩ ?_ ?_
 ·rintro i c σ H2 hc ⟨v,rfl,s2,hH⟩;have hi:i<27:=(Ad.mp hc).1
  have ha2:Rd H2 a (.dK kvs):=ha.elim (λe=>.inl (s2 _ _ e)) λ⟨o,e⟩=>.inr ⟨o,s2 _ _ e⟩
  have hd2:isD H2 a=true:=ha2.elim oX λ⟨o,e⟩=>cQS e
  have hpl:(kvL (aZ f) (bN (aZ f) i)).length<sizeLine:=bA (by unfold kvL;rw[Ab];have:=iR (aZ f) i;omega)
  walk_at "go";refine bQY (z:=one c) ha2 ?_;rw[lk.val c,qG];walk_at "go";refine eJ (λhd=>?_) (λhd=>?_)
  ·have hd':=Bd hd
   obtain⟨n,hn⟩:∃n,f c=some n:=by
    cases e:f c with
    |none=>rw[show aZ f c=0 by unfold aZ;rw[e];rfl]at hd';omega
    |some n=>exact⟨n,rfl⟩
   have hcn:aZ f c=n:=by unfold aZ;rw[hn];rfl
   walk_at "go";refine tO (z:=one c) ha2 (by rw[lk.val c,hn];rfl) ?_
   walk_at "go";refine lD (z:=one c) hH hpl ?_;refine⟨_,rfl,bJ hp s2,?_⟩;rw[aE,kM _ (aXB (aXW hc)),aZU hc (by omega)]
   unfold kvL;rw[Ao,<-hcn];rfl
  ·have hd':=Bj (Bl.mpr hd)
   walk_at "go";exact⟨_,rfl,s2,by rw[hH,aZL hc (by omega)]⟩
 ·rintro σ H2 ⟨v,rfl,s2,hH⟩;walk_at "go";exact q p H2 hp s2 hH
def cnt(cs:List Nat)(c:Nat):Int:=((cs.countP (· == c):Nat):Int)
def mZ{c:Nat}(h:cs[i]?=some c)(d:Nat):cnt (cs.take (i+1)) d=cnt (cs.take i) d+if d=c then 1 else 0:=by
 unfold cnt;rw[Bh,h,List.countP_append];show (((cs.take i).countP (· == d)+[c].countP (· == d):Nat):Int)=_
 by_cases e:d=c
 ·subst e;rw[if_pos rfl,List.countP_cons,List.countP_nil,if_pos (by simp)]
  push_cast
  rfl
 ·rw[if_neg e,List.countP_cons,List.countP_nil,if_neg (by simp;exact λz=>e z.symm)]
  push_cast
  rfl
def dJ6{c:Nat}(h:cs[i]?=some c):cnt (cs.take i) c+1<=cnt cs c:=by
 have e:=mZ h c
 rw[if_pos rfl]at e;rw[<-e];unfold cnt;have:(cs.take (i+1)).countP (· == c)<=cs.countP (· == c):=List.Sublist.countP_le (Gj _ _)
 omega
def sR(f:Nat->Option Int)(cs:List Nat)(k:Nat):Prop:=∀j d,j<k->cs[j]?=some d->cnt (cs.take j) d<aZ f d
def vG{f:Nat->Option Int}(c:Nat)(h0:0<=aZ f c):∀ {k:Nat},sR f cs k->cnt (cs.take k) c<=aZ f c
 |0,_=>by rw[List.take_zero];exact h0
 |k+1,h=>by
  have ih:=vG c h0 (k:=k) λj d hj=>h j d (by omega)
  cases e:cs[k]? with
  |none=>rw[List.take_add_one,e];simpa using ih
  |some d=>
   rw[mZ e];have hd:=h k d (by omega) e
   by_cases z:c=d
   ·subst z;rw[if_pos rfl];omega
   ·rw[if_neg z];omega
def yV(aC:Addr):Sp:=λvs H Q E=>∃(a b:Addr) (kvs:List (Key×V)) (f:Nat->Option Int) (cs:List Nat),vs=[.ref a,.ref b]/\H a=some (.dK kvs)/\Lk kvs f/\(∀c,0<=aZ f c)/\rdL H b=some ((cs.map one).map V.str)/\cs.length<=1000/\(∀c∈cs,pZ c)/\
 (sR f cs cs.length->∀(r:Addr) (kws:List (Key×V)) (H':Hp),H r=none->Same H H'->H' r=some (.dK kws)->Lk kws (cH λc=>aZ f c-cnt cs c)->Q (.ref r) H')/\
 (∀i c,cs[i]?=some c->sR f cs i->aZ f c<=cnt (cs.take i) c->∀(dx:Addr) (H':Hp),Same H H'->H' dx=some (xdO dx [("flag",.str (one c))])->E (.ref aC) (some dx) H')
def sc_taken:FnScope ["locker", "flags", "left", "flag"] ["locker", "flags"] (aI yJ):=by walk_at "sc"
def cXK(F:Fun K "taken" "taken" yJ f fd)(G:Gs K mg w Zu Zz Zv Zx Z0 Zw Zy)(c_plain_locker:Cal P w K mg base 1 "plain_locker" ["locker"] cU)(c_Short_init:bJN P w K mg base 1 Zv ["self", "flag"] (lW Zv)):FnOk P w K mg base (CXr P w) 3 f fd ["locker", "flags"] (yV Zv):=by
 refine F.okX sc_taken (λvs H Q E h=>?_) (λcdv A outer s H vs Q E hr h=>?_)
 ·obtain⟨a,b,kvs,f,cs,rfl,_⟩:=h;rfl
 obtain⟨a,b,kvs,f,cs,rfl,ha,lk,hf0,hb,hcs,hfl,q,qe⟩:=h;refine⟨_,(@aD _ _ _ _ _ (aM 2 sc_taken.nd (aU c_plain_locker hr (by decide) rfl (aA (mv 0) aB))) (@aD _ _ _ _ _ (cJ PassesOwn.leaving rfl (bO (mv 1)) (aW (i:=3) sc_taken.nd rfl (Or.inl rfl)) (@aD _ _ _ _ _ (bY (aX nZ (hX Cg Dv (aJ7 (Room.u1 hr)) (mv 2) (aA (mv 3) (aA aJ aB))) aJ (bB _)) (@aH _ _ _ (vC nM rfl rfl rfl G.c_Short G.xm_Short c_Short_init hr (by decide) (aA (mv 3) aB))) bF) (@aH _ _ _ (gM (Room.u1 hr) (mv 2) (mv 3) (aQ pK (gH (Room.u1 hr) (mv 2) (mv 3) (λ_ _=>rfl)) aJ) rfl)))) (@aH _ _ _ (aR (aU c_plain_locker hr (by decide) rfl (aA (mv 2) aB)))))),?_⟩
 walk_at "go";refine⟨a,kvs,f,rfl,.inl ha,lk,λp H1 hp s1 hp1=>?_⟩;have lw:Lk (kvL (aZ f) (bN (aZ f) 27)) _:=fV (aZ f)
 have hwl:(kvL (aZ f) (bN (aZ f) 27)).length<=27:=by unfold kvL;rw[Ab];exact iR _ _
 generalize kvL (aZ f) (bN (aZ f) 27)=kws at hp1 lw hwl;have hb1:=aK s1 hb
 walk_at "go";refine fQ (xs:=(cs.map one).map V.str) (λi σ H'=>∃(kvs':List (Key×V)) (g:Nat->Option Int) (v:Option V),σ=[some (.ref a),some (.ref b),some (.ref p),v]/\Same H H'/\H' p=some (.dK kvs')/\Lk kvs' g/\(∀c,aZ g c=aZ (cH (aZ f)) c-cnt (cs.take i) c)/\kvs'.length<=27+i/\sR f cs i)
  ⟨kws,_,_,rfl,s1,hp1,lw,λc=>by rw[List.take_zero];show _=_-((0:Nat):Int);omega,by omega,λj d hj=>by omega⟩ (λi σ H' _ ⟨_,_,_,_,e,_⟩=>aK e hb) ?_ ?_
 ·rintro i x σ H2 hx ⟨kvs',g,v,rfl,s2,hH,lg,hg,hl,hen⟩;have hi:i<cs.length:=by have:=(Ad.mp hx).1;rw[Ab,Ab]at this;exact this
  obtain⟨c,hc⟩:∃c,cs[i]?=some c:=⟨_,Aa hi⟩;obtain rfl:x=V.str (one c):=by rw[Ae,Ae,hc]at hx;cases hx;rfl
  have hpl:kvs'.length<sizeLine:=bA (by omega)
  have hfc:=hfl c (Al hc)
  have hgc:=hg c
  rw[oP hfc (hf0 c)]at hgc;have hle:=vG c (hf0 c) hen
  walk_at "go";refine bQY (z:=one c) (.inl hH) ?_;rw[lg.val c,qG];walk_at "go";refine eJ (λhd=>?_) (λhd=>?_)
  ·have hd':=Bd hd
   walk_at "go";refine⟨by show 1<=sizeLine;decide,λea hea=>⟨ea,_,rfl,aE,λdx hdx=>⟨rfl,some dx,(bJH hdx).1,?_⟩⟩⟩
   exact qe i c hc hen (by omega) dx _ (cJG s2 hea hdx) (bJH hdx).2
  ·have hd':=Bj (Bl.mpr hd)
   obtain⟨n,hn⟩:∃n,g c=some n:=by
    cases e:g c with
    |none=>exact absurd (show aZ g c=0 by unfold aZ;rw[e];rfl) hd'
    |some n=>exact⟨n,rfl⟩
   have hcn:aZ g c=n:=by unfold aZ;rw[hn];rfl
   walk_at "go";refine tO (z:=one c) (.inl hH) (by rw[lg.val c,hn];rfl) ?_
   walk_at "go";refine lD (z:=one c) hH hpl ?_;refine⟨_,_,_,rfl,bJ hp s2,aE,lg.put c (n-1),λd=>?_,by have:=eE kvs' (Sum.inr (one c)) (.int (n-1));omega,λj d hj hjd=>?_⟩
   ·rw[mZ hc];have:=hg d
    by_cases e:d=c
    ·subst e;show ((if d=d then some (n-1) else g d):Option Int).getD 0=_
     rw[if_pos rfl,if_pos rfl];show n-1=_
     omega
    ·show ((if d=c then some (n-1) else g d):Option Int).getD 0=_
     rw[if_neg e,if_neg e];show aZ g d=_
     omega
   ·by_cases e:j=i
    ·subst e;rw[hc]at hjd;cases hjd;omega
    ·exact hen j d (by omega) hjd
 ·rintro σ H2 ⟨kvs',g,v,rfl,s2,hH,lg,hg,hl,hen⟩;have ecs:((cs.map one).map V.str).length=cs.length:=by rw[Ab,Ab]
  rw[ecs]at hg hl hen;walk_at "go";refine⟨p,kvs',g,rfl,.inl hH,lg,λr H3 hr s3 hr3=>?_⟩;have l3:Lk (kvL (aZ g) (bN (aZ g) 27)) _:=fV (aZ g)
  generalize kvL (aZ g) (bN (aZ g) 27)=kws' at hr3 l3;refine q hen r kws' H3 (none_of s2 hr) (s2.trans s3) hr3 (l3.ext (nN λc hc=>?_));rw[hg c,oP hc (hf0 c),Bs (Ai _)]
def uW:Sp:=λvs H Q _=>∃(a b:Addr) (kvs:List (Key×V)) (f:Nat->Option Int) (cs:List Nat),vs=[.ref a,.ref b]/\H a=some (.dK kvs)/\Lk kvs f/\(∀c,0<=aZ f c)/\rdL H b=some ((cs.map one).map V.str)/\cs.length<=1000/\
 ∀(r:Addr) (kws:List (Key×V)) (H':Hp),H r=none->Same H H'->H' r=some (.dK kws)->Lk kws (cH λc=>aZ f c+cnt cs c)->Q (.ref r) H'
def sc_put_in:FnScope ["locker", "flags", "more", "flag"] ["locker", "flags"] (aI rK):=by walk_at "sc"
def bZX(F:Fun K "put_in" "put_in" rK f fd)(G:Gs K mg w Zu Zz Zv Zx Z0 Zw Zy)(c_plain_locker:Cal P w K mg base 1 "plain_locker" ["locker"] cU):FnOk P w K mg base CX0 2 f fd ["locker", "flags"] uW:=by
 refine F.ok sc_put_in (λvs H Q E h=>?_) (λcdv A outer s H vs Q E hr h=>?_)
 ·obtain⟨a,b,kvs,f,cs,rfl,_⟩:=h;rfl
 obtain⟨a,b,kvs,f,cs,rfl,ha,lk,hf0,hb,hcs,q⟩:=h;refine⟨_,(@aD _ _ _ _ _ (aM 2 sc_put_in.nd (aU c_plain_locker hr (by decide) rfl (aA (mv 0) aB))) (@aD _ _ _ _ _ (cJ Bm rfl (bO (mv 1)) (aW (i:=3) sc_put_in.nd rfl (Or.inl rfl)) (@aH _ _ _ (gM (Room.u1 hr) (mv 2) (mv 3) (aQ bM (hX Cg Dv (aJ7 (Room.u1 hr)) (mv 2) (aA (mv 3) (aA aJ aB))) aJ) rfl))) (@aH _ _ _ (aR (aU c_plain_locker hr (by decide) rfl (aA (mv 2) aB)))))),?_⟩
 walk_at "go";refine⟨a,kvs,f,rfl,.inl ha,lk,λp H1 hp s1 hp1=>?_⟩;have lw:Lk (kvL (aZ f) (bN (aZ f) 27)) _:=fV (aZ f)
 have hwl:(kvL (aZ f) (bN (aZ f) 27)).length<=27:=by unfold kvL;rw[Ab];exact iR _ _
 generalize kvL (aZ f) (bN (aZ f) 27)=kws at hp1 lw hwl;have hb1:=aK s1 hb
 walk_at "go";refine fQ (xs:=(cs.map one).map V.str) (λi σ H'=>∃(kvs':List (Key×V)) (g:Nat->Option Int) (v:Option V),σ=[some (.ref a),some (.ref b),some (.ref p),v]/\Same H H'/\H' p=some (.dK kvs')/\Lk kvs' g/\(∀c,aZ g c=aZ (cH (aZ f)) c+cnt (cs.take i) c)/\kvs'.length<=27+i)
  ⟨kws,_,_,rfl,s1,hp1,lw,λc=>by rw[List.take_zero];show _=_+((0:Nat):Int);omega,by omega⟩ (λi σ H' _ ⟨_,_,_,_,e,_⟩=>aK e hb) ?_ ?_
 ·rintro i x σ H2 hx ⟨kvs',g,v,rfl,s2,hH,lg,hg,hl⟩;have hi:i<cs.length:=by have:=(Ad.mp hx).1;rw[Ab,Ab]at this;exact this
  obtain⟨c,hc⟩:∃c,cs[i]?=some c:=⟨_,Aa hi⟩;obtain rfl:x=V.str (one c):=by rw[Ae,Ae,hc]at hx;cases hx;rfl
  have hpl:kvs'.length<sizeLine:=bA (by omega)
  walk_at "go";refine bQY (z:=one c) (.inl hH) ?_;rw[lg.val c,qG];walk_at "go";refine lD (z:=one c) hH hpl ?_;refine⟨_,_,_,rfl,bJ hp s2,aE,lg.put c (aZ g c+1),λd=>?_,by have:=eE kvs' (Sum.inr (one c)) (.int (aZ g c+1));omega⟩
  rw[mZ hc];have:=hg d
  by_cases e:d=c
  ·subst e;show ((if d=d then some (aZ g d+1) else g d):Option Int).getD 0=_
   rw[if_pos rfl,if_pos rfl];show aZ g d+1=_
   omega
  ·show ((if d=c then some (aZ g c+1) else g d):Option Int).getD 0=_
   rw[if_neg e,if_neg e];show aZ g d=_
   omega
 ·rintro σ H2 ⟨kvs',g,v,rfl,s2,hH,lg,hg,hl⟩;walk_at "go";refine⟨p,kvs',g,rfl,.inl hH,lg,λr H3 hr s3 hr3=>?_⟩;refine q r _ H3 (none_of s2 hr) (s2.trans s3) hr3 ((fV (aZ g)).ext (nN λc hc=>?_));rw[hg c,oP hc (hf0 c),Bs (by rw[Ab,Ab];exact Ai _)]
def gY:Sp:=λvs H Q _=>∃(cw:List Nat) (k:Nat) (p:Int),vs=[.str (aP cw),.int p]/\p=(k:Int)+1/\k<cw.length/\cw.length<=7/\
 ∀(r:Addr) (H':Hp),H r=none->Same H H'->H' r=some (.lst (((chs cw k).map one).map V.str))->Q (.ref r) H'
def dXH(G:Nat->Option β)(k:Nat):[0,1,2,3].filterMap (λn=>if n<k then G n else none)=(List.range (min k 4)).filterMap G:=by
 match k with
 |0=>rfl
 |1=>rfl
 |2=>rfl
 |3=>rfl
 |k+4=>
  rw[Ez (by omega)]
  exact iA λn hn=>if_pos (by simp only[List.mem_cons,List.not_mem_nil,or_false]at hn;omega)
def atF(cw:List Nat)(k:Nat)(c:Nat):Option V:=if c-49<k then (if cw.getD (c-49) 0=cw.getD k 0 then some (.str (one c)) else none) else none
def eZO(cw:List Nat)(k:Nat):subsT.cps.toList.filterMap (atF cw k)=(((List.range (min k 4)).filterMap (chF cw k)).map one).map V.str:=by
 rw[aZT,show [49,50,51,52]=[0,1,2,3].map (49+·) from rfl,Gg,Bt,List.map_filterMap,<-dXH];refine iA λn _=>?_;show atF cw k (49+n)=_
 unfold atF chF;rw[show 49+n-49=n by omega]
 by_cases h1:n<k
 ·rw[if_pos h1,if_pos h1];by_cases h2:cw.getD n 0=cw.getD k 0
  ·rw[if_pos h2,if_pos h2];rfl
  ·rw[if_neg h2,if_neg h2];rfl
 ·rw[if_neg h1,if_neg h1]
def sc_choices_at:FnScope ["word", "place", "letter", "above"] ["word", "place"] (aI fS):=by walk_at "sc"
def uV(F:Fun K "choices_at" "choices_at" fS f fd)(G:Gs K mg w Zu Zz Zv Zx Z0 Zw Zy):FnOk P w K mg base CX0 1 f fd ["word", "place"] gY:=by
 refine F.ok sc_choices_at (λvs H Q E h=>?_) (λcdv A outer s H vs Q E hr h=>?_)
 ·obtain⟨cw,k,p,rfl,_⟩:=h;rfl
 obtain⟨cw,k,pl,rfl,hpl,hk,h7,q⟩:=h;refine⟨_,(@aD _ _ _ _ _ (aM 2 sc_choices_at.nd (bG bU (mv 0) (aQ pK (mv 1) aJ) (λ_ _=>rfl))) (@aD _ _ _ _ _ (dX (i:=3) sc_choices_at.nd rfl (Or.inl rfl) rfl (jS (dQ rfl G.s_SUBSTITUTES)) (eR (N:=["sign", "place", "letter", "word"]) ["word", "place", "letter", "above"] (aI fS) [none,some 1,some 2,some 0] rfl rfl rfl (λx h=>bP h) (by decide +kernel)) (by decide +kernel) rfl (by decide +kernel) (λ_ _ _ _=>(aW (i:=0) (show List.Nodup (["sign", "place", "letter", "word"]:List Str) by decide +kernel) rfl (Or.inl rfl))) (λ_ _ _ _=>(fG (PW.pt (bJF (aX aQJ (bR bQR rfl G.b_int yA (aA (mv 0) aB)) (mv 1) (bB _)) (bQP (aX nZ (bG bU (mv 3) (aQ pK (bR bQR rfl G.b_int yA (aA (mv 0) aB)) aJ) (λ_ _=>rfl)) (mv 2) (bB _))))))) (λ_ _ _ _=>(mv 0))) (@aH _ _ _ (aR (aQ bM (cC (aA (mv 2) aB)) (mv 3)))))),?_⟩
 have hwl:(aP cw).length=cw.length:=bW cw
 walk_at "go";refine aQR (by rw[hwl];exact bH (by omega)) (xB (k:=k) (by omega) hk) ?_
 walk_at "go";refine aXX (atF cw k) (bA (by decide)) (λi c Hc A B hc' hA=>?_) (λD hD=>?_)
 ·have hs:eG c:=mem_subs.mp (Al hc')
  have h49:49<=c:=hs.1
  walk_at "go";refine⟨Wk.set rfl (Wk.refl _),?_⟩;walk_at "go";refine yE (qK hs) (by show 1<=640;decide) ?_
  walk_at "go";unfold atF at hA;refine eJ (λhd=>?_) (λhd=>?_)
  ·have hd':=Bd hd
   have hck:c-49<k:=by omega
   rw[if_pos hck]at hA;walk_at "go";refine yE (qK hs) (by show 1<=640;decide) ?_
   walk_at "go";refine aQR (by rw[hwl];exact bH (by omega)) (xB (k:=c-49) (by omega) (by omega)) ?_
   walk_at "go";rw[show decide (({cps:=#[cw.getD (c-49) 0]}:Str)={cps:=#[cw.getD k 0]})=decide (cw.getD (c-49) 0=cw.getD k 0) from bQC _ _];by_cases he:cw.getD (c-49) 0=cw.getD k 0
   ·rw[Ap he];rw[if_pos he]at hA;walk_at "go";exact hA
   ·rw[Ay he];rw[if_neg he]at hA;walk_at "go";exact hA
  ·have hd':=Bj (Bl.mpr hd)
   have hck:¬c-49<k:=by omega
   rw[if_neg hck]at hA;walk_at "go";exact hA
 ·rw[show (Str.ofString "1234").cps.toList.filterMap (atF cw k)=_ from eZO cw k];walk_at "go";refine⟨by show 1<=sizeLine;decide,λp hp=>?_⟩
  have hDp:D≠p:=λz=>by rw[z,aE]at hp;cases hp
  have hp0:H p=none:=by rw[aG (Ne.symm hDp)]at hp;exact hp
  have hlen:((((List.range (min k 4)).filterMap (chF cw k)).map one).map V.str).length<=4:=by
   have:=Cs (chF cw k) (List.range (min k 4))
   rw[Bq]at this;rw[Ab,Ab];omega
  walk_at "go";refine mM (xs:=[V.str (one (cw.getD k 0))]) (ys:=(((List.range (min k 4)).filterMap (chF cw k)).map one).map V.str) cW (by rw[qM hDp];exact cW) (bH (by show 1+_<=_;omega)) λr hr=>?_
  have hr0:H r=none:=by
   by_cases z:r=p
   ·rw[z];exact hp0
   ·rw[aG z]at hr;by_cases z2:r=D
    ·rw[z2];exact hD
    ·rw[aG z2]at hr;exact hr
  walk_at "go";exact q r _ hr0 ((aF hD _).trans ((aF hp _).trans (aF hr _))) aE
def aJA(cws:List (List Nat))(k:Nat):List (List V):=(List.range (cws.getD k []).length).map λj:Nat=>[V.int (k:Int),V.int (1+(j:Int))]
def mV(cws:List (List Nat))(i:Nat):List (List V):=((List.range i).map (aJA cws)).flatten
def jZ(cws:Q6)(i:Nat):mV cws (i+1)=mV cws i++aJA cws i:=by
 unfold mV;rw[Cf,Ao,List.flatten_append];simp
def cXL{k:Nat}(h7:∀c∈cws,c.length<=7):(aJA cws k).length<=7:=by
 unfold aJA;rw[Ab,Bq,Ac];cases e:cws[k]? with
 |none=>exact Cy _
 |some c=>exact h7 c (Al e)
def mU(h7:∀c∈cws,c.length<=7):∀i,(mV cws i).length<=7*i
 |0=>Ai _
 |i+1=>by
  rw[jZ,Ag];have:=mU h7 i
  have:=cXL (k:=i) h7
  omega
def aQB(h:((cws.map aP).map V.str)[i]?=some x):∃c,cws[i]?=some c/\c∈cws/\x=.str (aP c):=by
 rw[Ae,Ae]at h;cases e:cws[i]? with
 |none=>rw[e]at h;cases h
 |some c=>rw[e]at h;cases h;exact⟨c,rfl,Al e,rfl⟩
def pH:Sp:=λvs H Q _=>∃(a:Addr) (cws:List (List Nat)),vs=[.ref a]/\rdL H a=some ((cws.map aP).map V.str)/\cws.length<=8/\(∀c∈cws,c.length<=7)/\
 ∀(r:Addr) (ps:List Addr) (H':Hp),H r=none->Same H H'->H' r=some (.lst (ps.map V.ref))->Tups H H' ps (mV cws cws.length)->Q (.ref r) H'
def sc_wants_of:FnScope ["words", "wants", "number", "word"] ["words"] (aI iM):=by walk_at "sc"
def aQA(F:Fun K "wants_of" "wants_of" iM f fd)(G:Gs K mg w Zu Zz Zv Zx Z0 Zw Zy):FnOk P w K mg base CX0 1 f fd ["words"] pH:=by
 refine F.ok sc_wants_of (λvs H Q E h=>?_) (λcdv A outer s H vs Q E hr h=>?_)
 ·obtain⟨a,cws,rfl,_⟩:=h;rfl
 obtain⟨a,cws,rfl,ha,h8,h7,q⟩:=h;refine⟨_,(@aD _ _ _ _ _ (aM 1 sc_wants_of.nd (cC aB)) (@aD _ _ _ _ _ (cJ Bm rfl (kZ rfl G.b_enumerate (aA (mv 0) aB)) (cY (K:=K) (i:=2) (j:=3) (by rfl) (by rfl) sc_wants_of.nd (by rfl) (by exact(Or.inr rfl)) (by exact Or.inl rfl) (by rfl) (by exact(Or.inl rfl)) (by exact Or.inl rfl)) (@aH _ _ _ (dW (cB Ck Gb Gc cZK (mv 1) (aA (bV rfl (bX0 rfl G.b_range (aA aJ (aA (aQ bM (aS bZ rfl G.b_len bK (aA (mv 3) aB)) aJ) aB))) (eR (N:=["place", "number"]) ["words", "wants", "number", "word"] (aI iM) [none,some 2] rfl rfl rfl (λx h=>bP h) (by decide +kernel)) (by decide +kernel) rfl (by decide +kernel) (λ_ _ _ _=>(aW (i:=0) (show List.Nodup (["place", "number"]:List Str) by decide +kernel) rfl (Or.inl rfl))) (λ_ _ _ _=>cK) (λ_ _ _ _=>(lY (aA (mv 1) (aA (mv 0) aB))))) aB))))) (@aH _ _ _ (aR (mv 1))))),?_⟩
 walk_at "go";refine⟨by decide,λp hp=>?_⟩
 have ha1:=aK (aF hp (HO.lst [])) ha
 walk_at "go";refine qH (xs:=(cws.map aP).map V.str) (λi σ H'=>∃(ps:List Addr) (v1 v2:Option V),σ=[some (.ref a),some (.ref p),v1,v2]/\Same H H'/\H' p=some (.lst (ps.map V.ref))/\Tups H H' ps (mV cws i))
  ⟨[],_,_,rfl,aF hp _,aE,.nil⟩ (λj σ H' _ ⟨_,_,_,_,e,_⟩=>aK e ha) ?_ ?_
 ·rintro i x σ H2 pt hx ⟨ps,v1,v2,rfl,s2,hH,tp⟩ hpt;have hi:i<cws.length:=by have:=(Ad.mp hx).1;rw[Ab,Ab]at this;exact this
  obtain⟨cw,hcw,hm,rfl⟩:=aQB hx;have hc7:=h7 cw hm
  have hwl:(aP cw).length=cw.length:=bW cw
  walk_at "go";rw[hwl];refine⟨⟨by omega,by omega,by omega,by omega⟩,?_⟩
  rw[show ((cw.length:Int)+1-1).toNat=cw.length by omega]
  have s3:=s2.trans (aF hpt (HO.tup [V.int ((0+i:Nat):Int),V.str (aP cw)]))
  have hH3:=aF hpt (HO.tup [V.int ((0+i:Nat):Int),V.str (aP cw)]) _ _ hH
  have tp3:=tp.keep (aF hpt (HO.tup [V.int ((0+i:Nat):Int),V.str (aP cw)]))
  generalize upd H2 pt (HO.tup [V.int ((0+i:Nat):Int),V.str (aP cw)])=H3 at s3 hH3 tp3 ⊢;refine bZ5 (λj=>[V.int ((0+i:Nat):Int),V.int (1+(j:Int))]) (bA (by omega)) (λj Hc A B hj hs hA=>?_) (λD Hd qs hD sD hDd hqn tq=>?_)
  ·walk_at "go";refine⟨Wk.set rfl (Wk.refl _),?_⟩;walk_at "go";exact⟨by show 2<=sizeLine;decide,λpp hpp=>hA pp _ hpp (aF hpp _) aE⟩
  ·have hpd:=sD _ _ hH3
   have hpl:ps.length<=7*i:=by rw[tp.1];exact mU h7 i
   have e:(List.range cw.length).map (λj:Nat=>[V.int ((0+i:Nat):Int),V.int (1+(j:Int))])=aJA cws i:=by
    unfold aJA;rw[Ac,hcw,Nat.zero_add];rfl
   rw[e]at tq;walk_at "go";refine⟨ps++qs,_,_,rfl,bJ hp (s3.trans sD),by rw[aE,Ao],?_⟩
   rw[jZ];exact((tp3.keep sD).app (tq.older s3)).put hpd
 ·rintro σ H2 ⟨ps,v1,v2,rfl,s2,hH,tp⟩;walk_at "go";rw[show ((cws.map aP).map V.str).length=cws.length by rw[Ab,Ab]]at tp
  exact q p ps H2 hp s2 hH tp
def gF(cws:List (List Nat))(i:Nat):Nat:=((cws.take i).map List.length).sum
def hV(cws:List (List Nat))(cs:List Nat)(i:Nat):List V:=(((cs.drop (gF cws i)).take (cws.getD i []).length).map one).map V.str
def vH(h:cws[i]?=some cw):gF cws (i+1)=gF cws i+cw.length:=by
 unfold gF;rw[Bh,h,Ao,List.sum_append];simp
def dXF(hj:i<=j):kO xs (some (i:Int)) (some (j:Int))=(xs.drop i).take (j-i):=by
 unfold kO;show (xs.drop (if (i:Int)<0 then ((i:Int)+(xs.length:Int)).toNat else min (i:Int).toNat xs.length)).take ((if (j:Int)<0 then ((j:Int)+(xs.length:Int)).toNat else min (j:Int).toNat xs.length)-(if (i:Int)<0 then ((i:Int)+(xs.length:Int)).toNat else min (i:Int).toNat xs.length))=_
 rw[if_neg (by omega),if_neg (by omega),Ek,Ek]
 by_cases h1:i<=xs.length
 ·rw[Fe h1];by_cases h2:j<=xs.length
  ·rw[Fe h2]
  ·rw[Ez (by omega),Bs (by rw[Cq];omega),Bs (by rw[Cq];omega)]
 ·rw[Ez (show xs.length<=i by omega),Gr (Ai _),Gr (by omega),List.take_nil,List.take_nil]
def nI:Sp:=λvs H Q _=>∃(a b:Addr) (cws:List (List Nat)) (cs:List Nat),vs=[.ref a,.ref b]/\rdL H a=some ((cws.map aP).map V.str)/\rdL H b=some ((cs.map one).map V.str)/\cws.length<=8/\(∀c∈cws,c.length<=7)/\
 ∀(r:Addr) (ps:List Addr) (H':Hp),H r=none->Same H H'->H' r=some (.lst (ps.map V.ref))->(∀p∈ps,p≠r)->Lsts H H' ps ((List.range cws.length).map (hV cws cs))->Q (.ref r) H'
def sc_hoists_of:FnScope ["words", "flags", "hoists", "start", "word", "end"] ["words", "flags"] (aI jQ):=by walk_at "sc"
def xC(F:Fun K "hoists_of" "hoists_of" jQ f fd)(G:Gs K mg w Zu Zz Zv Zx Z0 Zw Zy):FnOk P w K mg base CX0 1 f fd ["words", "flags"] nI:=by
 refine F.ok sc_hoists_of (λvs H Q E h=>?_) (λcdv A outer s H vs Q E hr h=>?_)
 ·obtain⟨a,b,cws,cs,rfl,_⟩:=h;rfl
 obtain⟨a,b,cws,cs,rfl,ha,hb,h8,h7,q⟩:=h;refine⟨_,(@aD _ _ _ _ _ (aM 2 sc_hoists_of.nd (cC aB)) (@aD _ _ _ _ _ (aM 3 sc_hoists_of.nd aJ) (@aD _ _ _ _ _ (cJ Bm rfl (bO (mv 0)) (aW (i:=4) sc_hoists_of.nd rfl (Or.inl rfl)) (@aD _ _ _ _ _ (aM 5 sc_hoists_of.nd (aQ bM (mv 3) (aS bZ rfl G.b_len bK (aA (mv 4) aB)))) (@aD _ _ _ _ _ (dW (cB Ck Dw Dx aQ4 (mv 2) (aA (bR iX rfl G.b_list eM (aA (iH dXJ (mv 1) (fE (mv 3)) (fE (mv 5))) aB)) aB))) (@aH _ _ _ (aM 3 sc_hoists_of.nd (mv 5)))))) (@aH _ _ _ (aR (mv 2)))))),?_⟩;have hll:((cws.map aP).map V.str).length=cws.length:=by rw[Ab,Ab]
 walk_at "go";refine⟨by decide,λp hp=>?_⟩
 have ha1:=aK (aF hp (HO.lst [])) ha
 walk_at "go";refine fQ (xs:=(cws.map aP).map V.str) (λi σ H'=>∃(ps:List Addr) (v4 v5:Option V),σ=[some (.ref a),some (.ref b),some (.ref p),some (.int ((gF cws i:Nat):Int)),v4,v5]/\Same H H'/\H' p=some (.lst (ps.map V.ref))/\(∀x∈ps,x≠p)/\ps.length=i/\Lsts H H' ps ((List.range i).map (hV cws cs)))
  ⟨[],_,_,rfl,aF hp _,aE,(λx hx=>nomatch hx),rfl,.nil⟩ (λj σ H' _ ⟨_,_,_,_,e,_⟩=>aK e ha) ?_ ?_
 ·rintro i x σ H2 hx ⟨ps,v4,v5,rfl,s2,hH,hne,hpl,tp⟩;have hi:i<cws.length:=by have:=(Ad.mp hx).1;rw[hll]at this;exact this
  obtain⟨cw,hcw,hm,rfl⟩:=aQB hx;have hc7:=h7 cw hm
  have hwl:(aP cw).length=cw.length:=bW cw
  have hb2:=aK s2 hb
  walk_at "go";rw[hwl];intro r1 hr1;rw[show ((gF cws i:Nat):Int)+((cw.length:Nat):Int)=((gF cws i+cw.length:Nat):Int) by push_cast;rfl,dXF (by omega),show gF cws i+cw.length-gF cws i=cw.length by omega]
  have hrow_e:(((cs.map one).map V.str).drop (gF cws i)).take cw.length=hV cws cs i:=by
   unfold hV;rw[Ac,hcw,Ff,Ff,Fg,Fg];rfl
  rw[hrow_e];walk_at "go";intro r2 hr2;have hp1:r2≠p:=λz=>by
   have:=aF hr1 (HO.lst (hV cws cs i)) _ _ hH
   rw[<-z,hr2]at this;cases this
  have s3:Same H2 (upd (upd H2 r1 (HO.lst (hV cws cs i))) r2 (HO.lst (hV cws cs i))):=(aF hr1 _).trans (aF hr2 _)
  have hr3:(upd (upd H2 r1 (HO.lst (hV cws cs i))) r2 (HO.lst (hV cws cs i))) r2=some (.lst (hV cws cs i)):=aE
  have hr20:H2 r2=none:=none_of (aF hr1 _) hr2
  generalize upd (upd H2 r1 (HO.lst (hV cws cs i))) r2 (HO.lst (hV cws cs i))=H3 at s3 hr3 ⊢;have hH3:=s3 _ _ hH
  have hm3:=cI hH3
  walk_at "go";have hne2:∀x∈ps++[r2],x≠p:=λx hx=>by
   rcases By.mp hx with e|e
   ·exact hne x e
   ·rw[Am.mp e];exact hp1
  refine⟨ps++[r2],some (.str (aP cw)),some (.int ((gF cws i+cw.length:Nat):Int)),?_,bJ hp (s2.trans s3),by rw[aE,Ao];rfl,hne2,by rw[Ag,hpl];rfl,?_⟩
  ·rw[vH hcw];rfl
  ·rw[Cf,Ao];exact((tp.keep s3).snoc (none_of s2 hr20) hr3).put hne2
 ·rintro σ H2 ⟨ps,v4,v5,rfl,s2,hH,hne,hpl,tp⟩;walk_at "go";rw[hll]at tp;exact q p ps H2 hp s2 hH hne tp
def aXR:FnScope ["text"] ["text"] (aI oR):=by walk_at "sc"
def aZI(F:Fun K "is_flag" "is_flag" oR f fd)(G:Gs K mg w Zu Zz Zv Zx Z0 Zw Zy):FnOk P w K mg base CX0 1 f fd ["text"] tX:=by
 refine F.ok aXR (λvs H Q E h=>?_) (λcdv A outer s H vs Q E hr h=>?_)
 ·obtain⟨z,rfl,_⟩:=h;rfl
 obtain⟨z,rfl,hl,q⟩:=h;refine⟨_,(@aH _ _ _ (aR (yD (fD nZ (aS bZ rfl G.b_len bK (aA (mv 0) aB)) aJ (bB _)) (aXO (fD aQ9 (mv 0) (dQ rfl G.s_FLAGS) (by rfl)))))),?_⟩
 walk_at "go";refine eJ (λhc=>?_) (λhc=>?_)
 ·have e:jD z=subIn z flagsT:=if_pos (by have:=Bd hc;omega)
  rw[e]at q;walk_at "go";exact q
 ·have e:jD z=false:=pT (by have:=Bj (Bl.mpr hc);omega)
  rw[e]at q;exact q
def yF:FnScope ["text", "place"] ["text", "place"] (aI jX):=by walk_at "sc"
def xS(F:Fun K "may_stand" "may_stand" jX f fd)(G:Gs K mg w Zu Zz Zv Zx Z0 Zw Zy)(c_is_flag:Cal P w K mg base 1 "is_flag" ["text"] tX):FnOk P w K mg base CX0 2 f fd ["text", "place"] oB:=by
 refine F.ok yF (λvs H Q E h=>?_) (λcdv A outer s H vs Q E hr h=>?_)
 ·obtain⟨z,p,rfl,_⟩:=h;rfl
 obtain⟨z,p,rfl,hl,q⟩:=h;refine⟨_,(@aD _ _ _ _ _ (bY (xW (fY (aU c_is_flag hr (by decide) rfl (aA (mv 0) aB)))) (@aH _ _ _ (aR eQ)) bF) (@aD _ _ _ _ _ (bY (aX aQ9 (mv 0) (dQ rfl G.s_SUBSTITUTES) (by rfl)) (@aH _ _ _ (aR (fD aQJ (bR bQR rfl G.b_int yA (aA (mv 0) aB)) (mv 1) (bB _)))) bF) (@aH _ _ _ (aR eQ)))),?_⟩
 walk_at "go";refine⟨z,rfl,hl,?_⟩;walk_at "go";refine eJ (λhc=>?_) (λhc=>?_)
 ·have hf:jD z=false:=by simpa using hc
  have e:cT z p=false:=by
   by_cases h1:z.length=1
   ·obtain⟨c,rfl⟩:=qW h1;rw[rZ]at hf;have hf:=Bj hf
    rw[oE];exact Ay λst=>hf (st.elim .inl λz=>.inr z.1)
   ·exact if_neg h1
  rw[e]at q;walk_at "go";exact q
 ·have hf:jD z=true:=by simpa using hc
  obtain⟨c,rfl,hcc⟩:=bZG hf;walk_at "go";rw[if_neg Ar,show subIn (one c) (Str.ofString "1234")=decide (eG c) from tP c];rw[oE]at q;refine eJ (λhd=>?_) (λhd=>?_)
  ·have hs:=Bd hd
   walk_at "go";refine yE (qK hs) (by show 1<=640;decide) ?_
   walk_at "go";rw[show decide (jN c p)=decide ((c:Int)-48<p) from Dq.mpr ⟨λst=>st.elim (λl=>absurd hs (kF l)) (·.2),λl=>.inr ⟨hs,l⟩⟩]at q;exact q
  ·have hs:=Bj (Bl.mpr hd)
   walk_at "go";rw[Ap (show jN c p from .inl (hcc.resolve_right hs))]at q;exact q
def zE:FnScope ["flags"] ["flags"] (aI mJ):=by walk_at "sc"
def aQ7(F:Fun K "is_hoist" "is_hoist" mJ f fd)(G:Gs K mg w Zu Zz Zv Zx Z0 Zw Zy)(c_may_stand:Cal P w K mg base 2 "may_stand" ["text", "place"] oB):FnOk P w K mg base CX0 3 f fd ["flags"] pQ:=by
 refine F.ok zE (λvs H Q E h=>?_) (λcdv A outer s H vs Q E hr h=>?_)
 ·obtain⟨a,zs,rfl,_⟩:=h;rfl
 obtain⟨a,zs,rfl,ha,hl,hz,q⟩:=h;refine⟨_,(@aD _ _ _ _ _ (bY (PW.pt (pM (aX aQJ (aS bZ rfl G.b_len bK (aA (mv 0) aB)) aJ (bB _)) (jT (aX aZB (aS bZ rfl G.b_len bK (aA (mv 0) aB)) (qI rfl G.s_MOST_PLACES) (bB _))))) (@aH _ _ _ (aR eQ)) bF) (@aH _ _ _ (aR (aS (aQW rfl) rfl G.b_all sY (aA (bV rfl (aQP rfl G.b_enumerate (aA (mv 0) aB) (oC aJ sT)) (fN (N:=["place", "text"]) (by decide +kernel) (by decide +kernel)) (by decide +kernel) rfl (by decide +kernel) (λ_ _ _ _=>(cY (K:=K) (i:=0) (j:=1) (by rfl) (by rfl) (show List.Nodup (["place", "text"]:List Str) by decide +kernel) (by rfl) (by exact Or.inl rfl) (by exact Or.inr rfl) (by rfl) (by exact Or.inl rfl) (by exact Or.inr rfl))) (λ_ _ _ _=>cK) (λ_ _ _ _=>(aU c_may_stand hr (by decide) rfl (aA (mv 1) (aA (mv 0) aB))))) aB))))),?_⟩
 have hll:(zs.map V.str).length=zs.length:=Ab ..
 walk_at "go";rw[hll];refine eJ (λhc=>?_) (λhc=>?_)
 ·walk_at "go";have e:cR zs=false:=if_pos (.inl (by have:=Bd hc;omega))
  have r:=q H (Same.refl H)
  rw[e]at r;exact r
 ·have hc':=Bj (Bl.mpr hc)
  walk_at "go";rw[hll];refine eJ (λhd=>?_) (λhd=>?_)
  ·walk_at "go";have e:cR zs=false:=if_pos (.inr (by have:=Bd hd;omega))
   have r:=q H (Same.refl H)
   rw[e]at r;exact r
  ·have hd':=Bj (Bl.mpr hd)
   walk_at "go";refine⟨⟨by omega,by omega⟩,?_⟩
   walk_at "go";refine wW (λi x=>match x with|.str z=>some (.bl (cT z ((1+i:Nat):Int)))|_=>none) ha (by rw[hll];exact bA (by omega)) (λi x Hc p A B hx sm hp hA=>?_) (λD Hd hD sd hr=>?_)
   ·obtain⟨z,hzi,rfl⟩:=dY hx;walk_at "go";refine⟨Wk.set rfl (Wk.set rfl (Wk.refl _)),?_⟩;walk_at "go";refine⟨z,_,rfl,hz z (Al hzi),?_⟩;exact hA _ (Same.refl _)
   ·have e1:((List.range (zs.map V.str).length).filterMap λi=>(λi x=>match x with | .str z=>some (V.bl (cT z ((1+i:Nat):Int))) | _=>none:Nat->V->Option V) i ((zs.map V.str).getD i .non))=((List.range zs.length).map λi=>cT (zs.getD i ⟨#[]⟩) ((1+i:Nat):Int)).map V.bl:=by
     rw[hll,Bt];refine(iA (g:=λi=>some (V.bl (cT (zs.getD i ⟨#[]⟩) ((1+i:Nat):Int)))) λi hi=>?_).trans (iK _ _);have hi':=Bw.mp hi
     rw[Ac,Ae,Aa hi',Ac,Aa hi'];rfl
    rw[e1]at hr;walk_at "go";refine zD hr ?_;have e2:cR zs=((List.range zs.length).map λi=>cT (zs.getD i ⟨#[]⟩) ((1+i:Nat):Int)).all id:=by
     unfold cR;rw[if_neg (by omega),Hi]
     rfl
    have r:=q _ sd
    rw[e2]at r;exact r
def sc_read_of:FnScope ["flags", "word", "flag"] ["flags"] (aI oK):=by walk_at "sc"
def aX5(F:Fun K "read_of" "read_of" oK f fd)(G:Gs K mg w Zu Zz Zv Zx Z0 Zw Zy)(c_is_hoist:Cal P w K mg base 3 "is_hoist" ["flags"] pQ):FnOk P w K mg base (CXr P w) 4 f fd ["flags"] (mP Zx):=by
 refine F.okX sc_read_of (λvs H Q E h=>?_) (λcdv A outer s H vs Q E hr h=>?_)
 ·obtain⟨a,zs,rfl,_⟩:=h;rfl
 obtain⟨a,zs,rfl,ha,hl,hz,q,qe⟩:=h;refine⟨_,(@aD _ _ _ _ _ (bY (xW (fY (aU c_is_hoist hr (by decide) rfl (aA (mv 0) aB)))) (@aH _ _ _ (qQ nM rfl rfl rfl G.c_NoHoist G.x_NoHoist Ds (@eP _ _ _ _ _ _ aB))) bF) (@aD _ _ _ _ _ (aM 1 sc_read_of.nd eO) (@aD _ _ _ _ _ (PS.nox (cJ Bm rfl (bO (mv 0)) (aW (i:=2) sc_read_of.nd rfl (Or.inl rfl)) (@aH _ _ _ (bY (aX aQ9 (mv 2) (dQ rfl G.s_SUBSTITUTES) (by rfl)) (@aH _ _ _ (aM 1 sc_read_of.nd (aQ bM (mv 1) (bG bU (mv 1) (aQ pK (bR bQR rfl G.b_int yA (aA (mv 2) aB)) aJ) (λ_ _=>rfl))))) (@aH _ _ _ (aM 1 sc_read_of.nd (aQ bM (mv 1) (mv 2)))))))) (@aH _ _ _ (aR (mv 1)))))),?_⟩
 walk_at "go";refine⟨a,zs,rfl,ha,hl,hz,λH1 s1=>?_⟩;have ha1:=aK s1 ha
 walk_at "go";cases hh:cR zs with
 |false=>
  walk_at "go";exact⟨by show 1<=sizeLine;decide,qe hh H1 s1⟩
 |true=>
  walk_at "go";have h7:=iI hh
  refine fQ (xs:=zs.map V.str) (λi σ H'=>∃v,σ=[some (.ref a),some (.str (aP (rdC ((zs.map lI).take i)))),v]/\H'=H1)
   ⟨none,rfl,rfl⟩ (λi σ H' _ ⟨_,_,e⟩=>by rw[e];exact ha1) ?_ ?_
  ·rintro i x σ H' hx ⟨v,rfl,rfl⟩;obtain⟨z,hzi,rfl⟩:=dY hx;obtain⟨c,rfl,hci,hcc⟩:=aXK hh hzi;have hi:i<(zs.map lI).length:=(Ad.mp hci).1
   have hll:(zs.map lI).length=zs.length:=Ab ..
   have hrl:(rdC ((zs.map lI).take i)).length=i:=yG (by omega)
   have hst:=sQ hci
   generalize rdC ((zs.map lI).take i)=wd at hrl hst ⊢;have hwl:(aP wd).length=i:=(bW wd).trans hrl
   walk_at "go";rw[if_neg Ar,show subIn (one c) (Str.ofString "1234")=decide (eG c) from tP c];refine eJ (λhd=>?_) (λhd=>?_)
   ·have hs:=Bd hd
    have hlt:c-49<i:=(hcc.resolve_left λl=>kF l hs).2
    have h49:49<=c:=hs.1
    walk_at "go";refine yE (qK hs) (by show 1<=640;decide) ?_
    walk_at "go";have e1:atI (aP wd).cps.toList ((c:Int)-48-1)=some (wd.getD (c-49) 0):=by
     rw[show ((c:Int)-48-1)=((c-49:Nat):Int) by omega]
     refine bD ?_;rw[cF,Ac,Aa (by omega)]
     rfl
    have h2:(⟨#[wd.getD (c-49) 0]⟩:Str).length=1:=rfl
    refine aQR (by rw[hwl];exact bH (by omega)) e1 ?_
    walk_at "go";refine⟨some (.str (one c)),?_,rfl⟩;rw[hst,show stp wd c=wd.getD (c-49) 0 from if_pos hs,<-eW];rfl
   ·have hs:=Bj (Bl.mpr hd)
    have h2:(one c).length=1:=rfl
    walk_at "go";refine⟨some (.str (one c)),?_,rfl⟩;rw[hst,show stp wd c=c from if_neg hs,<-eW];rfl
  ·rintro σ H' ⟨v,rfl,rfl⟩;walk_at "go";have e:(zs.map lI).take (zs.map V.str).length=zs.map lI:=Bs (by rw[Ab,Ab];exact Ai _)
   rw[e];exact q hh _ s1
abbrev Wt:=Nat×Nat
def cZ(w:Wt):List Key:=[Sum.inl (w.1:Int),Sum.inl (w.2:Int)]
def oH{a b:Wt}(h:cZ a=cZ b):a=b:=by
 unfold cZ at h;injection h with h1 h2
 injection h2 with h2 _
 have e1:=Sum.inl.inj h1
 have e2:=Sum.inl.inj h2
 exact Prod.ext (by omega) (by omega)
def fK(m:List (Wt×Nat))(w:Wt):Option Nat:=(m.find? λx=>decide (x.1=w)).map (·.2)
def eC(m:List (Wt×Nat))(f:Nat):List Wt:=(m.filter λx=>decide (x.2=f)).map (·.1)
def ctm(m:List (Wt×Nat))(f:Nat):Nat:=m.countP λx=>decide (x.2=f)
def eT{x:Wt×Nat}{m:List (Wt×Nat)}{w:Wt}:fK (x::m) w=if x.1=w then some x.2 else fK m w:=by
 unfold fK;rw[List.find?_cons];by_cases h:x.1=w
 ·simp[h]
 ·simp[h]
def cQ2{m:List (Wt×Nat)}{w:Wt}{f:Nat}(h:fK m w=some f):(w,f)∈m:=by
 induction m with
 |nil=>cases h
 |cons x m ih=>
  rw[eT]at h;by_cases e:x.1=w
  ·rw[if_pos e]at h;cases h;rw[<-e];exact Ak
  ·rw[if_neg e]at h;exact Aj _ (ih h)
def tM{m:List (Wt×Nat)}(nd:(m.map (·.1)).Nodup){w:Wt}{f:Nat}(h:(w,f)∈m):fK m w=some f:=by
 induction m with
 |nil=>cases h
 |cons x m ih=>
  rw[eT];rw[Au,Cu]at nd;rcases Be.mp h with e|e
  ·rw[<-e,if_pos rfl]
  ·rw[if_neg (λz=>nd.1 (by rw[z];exact Ba.mpr ⟨_,e,rfl⟩)),ih nd.2 e]
def hget_none{m:List (Wt×Nat)}{w:Wt}:fK m w=none ↔ w∉m.map (·.1):=by
 induction m with
 |nil=>exact⟨λ_ z=>(nomatch z),λ_=>rfl⟩
 |cons x m ih=>
  rw[eT,Au,Be];by_cases e:x.1=w
  ·rw[if_pos e];exact⟨λz=>(nomatch z),λz=>absurd (Or.inl e.symm) z⟩
  ·rw[if_neg e,ih];exact⟨λz y=>y.elim (λq=>e q.symm) z,λz y=>z (Or.inr y)⟩
def by_mem{m:List (Wt×Nat)}{f:Nat}{w:Wt}:w∈eC m f ↔ (w,f)∈m:=by
 unfold eC;rw[Ba];constructor
 ·rintro⟨x,hx,rfl⟩;rw[Dt,Ci]at hx;rw[<-hx.2];exact hx.1
 ·intro h;exact⟨(w,f),Dt.mpr ⟨h,Ap rfl⟩,rfl⟩
def cZZ(m:List (Wt×Nat))(f:Nat):(eC m f).length=ctm m f:=by
 unfold eC ctm;rw[Ab,List.countP_eq_length_filter]
structure Asking (ch:Wt->List Nat) (m:List (Wt×Nat)) (first:Wt) (A:List (Nat×Wt)):Prop where
 nd:(A.map (·.1)).Nodup
 ok:∀(j:Nat) f w,A[j]?=some (f,w)->f∈ch w/\(w=first\/∃(g:Nat) (i:Nat) (v:Wt),i<j/\A[i]?=some (g,v)/\fK m w=some g)
def cD(m:List (Wt×Nat))(first:Wt)(A:List (Nat×Wt)):List Wt:=first::(A.map (·.1)).flatMap (eC m)
def mW(m:List (Wt×Nat))(first:Wt)(A:List (Nat×Wt))(f:Nat)(w:Wt):cD m first (A++[(f,w)])=cD m first A++eC m f:=by
 unfold cD;rw[Ao,List.flatMap_append];simp
def reach_mem{m:List (Wt×Nat)}{first:Wt}{A:List (Nat×Wt)}{w:Wt}:w∈cD m first A ↔ w=first\/∃f∈A.map (·.1),(w,f)∈m:=by
 unfold cD;rw[Be,List.mem_flatMap];constructor
 ·rintro(h|⟨f,hf,h⟩)
  ·exact .inl h
  ·exact .inr ⟨f,hf,by_mem.mp h⟩
 ·rintro(h|⟨f,hf,h⟩)
  ·exact .inl h
  ·exact .inr ⟨f,hf,by_mem.mpr h⟩
def aQ1(m:List (Wt×Nat)):∀ {fs:List Nat},fs.Nodup->(fs.flatMap (eC m)).length=m.countP (λx=>decide (x.2∈fs))
 |[],_=>by simp
 |f::fs,nd=>by
  rw[List.flatMap_cons,Ag,cZZ,aQ1 m (Cu.mp nd).2];have hf:=(Cu.mp nd).1
  unfold ctm;clear nd;induction m with
  |nil=>rfl
  |cons x m ih=>
   rw[Fy,Fy,Fy,<-ih];by_cases h1:x.2=f
   ·rw[if_pos (Ap h1),if_neg (by rw[Ci,h1];exact hf),if_pos (Ap (by rw[h1];exact Ak))]
    omega
   ·rw[if_neg (by rw[Ci];exact h1)]
    by_cases h2:x.2∈fs
    ·rw[if_pos (Ap h2),if_pos (Ap (Aj _ h2))];omega
    ·rw[if_neg (by rw[Ci];exact h2),if_neg (by rw[Ci];exact λz=>(Be.mp z).elim h1 h2)]
     omega
def wB{m:List (Wt×Nat)}{first:Wt}{A:List (Nat×Wt)}(nd:(A.map (·.1)).Nodup):(cD m first A).length<=1+m.length:=by
 unfold cD;rw[Aw,aQ1 m nd];have:=List.countP_le_length (p:=λx:Wt×Nat=>decide (x.2∈A.map (·.1))) (l:=m)
 omega
def Asking.snoc{ch:Wt->List Nat}{m:List (Wt×Nat)}{first w:Wt}{A:List (Nat×Wt)}{f:Nat}(ndm:(m.map (·.1)).Nodup)(h:Asking ch m first A)(hf:f∉A.map (·.1))(hc:f∈ch w)(hw:w∈cD m first A):Asking ch m first (A++[(f,w)]):=by
 refine⟨?_,λj g v hj=>?_⟩
 ·rw[Ao];exact List.nodup_append.mpr ⟨h.nd,by simp,λx hx y hy=>by rw[List.mem_singleton.mp hy];intro z;have z2:x=f:=z;rw[z2]at hx;exact hf hx⟩
 ·by_cases hlt:j<A.length
  ·rw[Aq hlt]at hj;obtain⟨h1,h2⟩:=h.ok j g v hj;refine⟨h1,h2.imp id ?_⟩;rintro⟨g',i,v',hi,hA,hg⟩;exact⟨g',i,v',hi,by rw[Aq (by omega)];exact hA,hg⟩
  ·have hj2:j=A.length:=by
    have:=(Ad.mp hj).1
    rw[Ag]at this;have:j<A.length+1:=this
    omega
   subst hj2;rw[Ax (Ai _),El]at hj;cases hj;refine⟨hc,?_⟩;rcases reach_mem.mp hw with e|⟨g',hg',hm⟩
   ·exact .inl e
   ·obtain⟨x,hx,rfl⟩:=Ba.mp hg';obtain⟨i,hi,ei⟩:=Bu.mp hx;exact .inr ⟨x.1,i,x.2,hi,by rw[Aq hi,Aa hi,ei],tM ndm hm⟩
structure Asked (ch:Wt->List Nat) (m:List (Wt×Nat)) (first:Wt) (A:List (Nat×Wt)):Prop extends Asking ch m first A where
 all1:∀f∈ch first,f∈A.map (·.1)
 all:∀w g,(w,g)∈m->g∈A.map (·.1)->∀f∈ch w,f∈A.map (·.1)
def Asking.done{ch:Wt->List Nat}{m:List (Wt×Nat)}{first:Wt}{A:List (Nat×Wt)}(h:Asking ch m first A)(hc:∀w∈cD m first A,∀f∈ch w,f∈A.map (·.1)):Asked ch m first A:=
 ⟨h,hc first (reach_mem.mpr (.inl rfl)),λw g hm hg=>hc w (reach_mem.mpr (.inr ⟨g,hg,hm⟩))⟩
def bZK(m:List (Wt×Nat))(w:Wt)(f:Nat):List (Wt×Nat):=if (fK m w).isSome=true then m.map λx=>if x.1=w then (x.1,f) else x else m++[(w,f)]
def bJZ{m:List (Wt×Nat)}{w v:Wt}{f:Nat}:fK (m.map λx=>if x.1=w then (x.1,f) else x) v=(fK m v).map λg=>if v=w then f else g:=by
 induction m with
 |nil=>rfl
 |cons x m ih=>
  rw[Au,eT,eT,ih];by_cases e:x.1=w
  ·rw[if_pos e];by_cases e2:x.1=v
   ·rw[if_pos e2,if_pos e2,Dz,if_pos (e2.symm.trans e)]
   ·rw[if_neg e2,if_neg e2]
  ·rw[if_neg e];by_cases e2:x.1=v
   ·rw[if_pos e2,if_pos e2,Dz,if_neg (λz=>e (e2.trans z))]
   ·rw[if_neg e2,if_neg e2]
def keys_map{m:List (Wt×Nat)}{w:Wt}{f:Nat}:(m.map λx=>if x.1=w then (x.1,f) else x).map (·.1)=m.map (·.1):=by
 rw[Bt];refine Dj λx _=>?_;show (if x.1=w then (x.1,f) else x).1=x.1
 by_cases e:x.1=w
 ·rw[if_pos e]
 ·rw[if_neg e]
def dJP{m:List (Wt×Nat)}{w:Wt}{f g:Nat}(nd:(m.map (·.1)).Nodup)(h:fK m w=some g)(c:Nat):ctm (m.map λx=>if x.1=w then (x.1,f) else x) c+(if c=g then 1 else 0)=ctm m c+(if c=f then 1 else 0):=by
 induction m with
 |nil=>cases h
 |cons x m ih=>
  rw[Au,Cu]at nd;rw[eT]at h;unfold ctm at ih ⊢;rw[Au,Fy,Fy];by_cases e:x.1=w
  ·rw [if_pos e] at h;cases h;have hm:(m.map λx=>if x.1=w then (x.1,f) else x)=m:=by
    refine(Dj λy hy=>?_).trans (List.map_id _);show (if y.1=w then (y.1,f) else y)=y
    rw[if_neg (λz=>nd.1 (by rw[e,<-z];exact Ba.mpr ⟨y,hy,rfl⟩))]
   rw[if_pos e,hm];have e1:(decide ((x.1,f).2=c)=true)=(c=f):=by rw[Ci];exact propext ⟨λz=>z.symm,λz=>z.symm⟩
   have e2:(decide (x.2=c)=true)=(c=x.2):=by rw[Ci];exact propext ⟨λz=>z.symm,λz=>z.symm⟩
   simp only[e1,e2];omega
  ·rw[if_neg e]at h;rw[if_neg e];have r:=ih nd.2 h
   omega
structure Along (ch:Wt->List Nat) (m0:List (Wt×Nat)) (A:List (Nat×Wt)) (f0:Nat) (m:List (Wt×Nat)) (c j:Nat) (w:Wt):Prop where
 keys:m.map (·.1)=m0.map (·.1)
 ok:∀v f,(v,f)∈m->f∈ch v
 ct:∀f,ctm m f+(if f=c then 1 else 0)=ctm m0 f+(if f=f0 then 1 else 0)
 at_:A[j]?=some (c,w)
 same:∀v g i u,fK m0 v=some g->A[i]?=some (g,u)->i<j->fK m v=some g
def dXS{A:List (Nat×Wt)}(nd:(A.map (·.1)).Nodup){g:Nat}{u v:Wt}(hi:A[i]?=some (g,u))(hj:A[j]?=some (g,v)):i=j:=by
 obtain⟨h1,e1⟩:=Ad.mp hi;obtain⟨h2,e2⟩:=Ad.mp hj;refine(Ep (h₀:=by rw[Ab];exact h1) (h₁:=by rw[Ab];exact h2) nd).mp ?_
 rw[Ef,Ef,e1,e2]
def Along.step{ch:Wt->List Nat}{m0 m:List (Wt×Nat)}{A:List (Nat×Wt)}{f0 c g:Nat}{first w v:Wt}(ha:Asking ch m0 first A)(nd0:(m0.map (·.1)).Nodup)(h:Along ch m0 A f0 m c j w)(hg:fK m0 w=some g)(hi:A[i]?=some (g,v))(hij:i<j):fK m w=some g/\Along ch m0 A f0 (m.map λx=>if x.1=w then (x.1,c) else x) g i v:=by
 have nd:(m.map (·.1)).Nodup:=by rw[h.keys];exact nd0
 have hw:=h.same w g i v hg hi hij
 refine⟨hw,keys_map.trans h.keys,λu f hu=>?_,λf=>?_,hi,λu g' i' u' h1 h2 h3=>?_⟩
 ·obtain⟨x,hx,e⟩:=Ba.mp hu;by_cases ex:x.1=w
  ·rw[if_pos ex]at e;cases e;rw[ex];exact(ha.ok j c w h.at_).1
  ·rw[if_neg ex]at e;exact h.ok u f (e▸hx)
 ·have r1:=dJP (f:=c) nd hw f
  have r2:=h.ct f
  omega
 ·rw[bJZ,h.same u g' i' u' h1 h2 (by omega),Dz]
  by_cases e:u=w
  ·subst e;rw[hg]at h1;cases h1;exact absurd (dXS ha.nd hi h2) (by omega)
  ·rw[if_neg e]
def Along.last{ch:Wt->List Nat}{m0 m:List (Wt×Nat)}{A:List (Nat×Wt)}{f0 c:Nat}{first:Wt}(ha:Asking ch m0 first A)(hf:first∉m0.map (·.1))(h:Along ch m0 A f0 m c j first):fK m first=none/\(m++[(first,c)]).map (·.1)=m0.map (·.1)++[first]/\(∀v f,(v,f)∈m++[(first,c)]->f∈ch v)/\∀f,ctm (m++[(first,c)]) f=ctm m0 f+(if f=f0 then 1 else 0):=by
 refine⟨hget_none.mpr (by rw[h.keys];exact hf),by rw[Ao,h.keys];rfl,λv f hv=>?_,λf=>?_⟩
 ·rcases By.mp hv with e|e
  ·exact h.ok v f e
  ·cases Am.mp e;exact(ha.ok j c first h.at_).1
 ·have r:=h.ct f
  unfold ctm at r ⊢;rw[List.countP_append];have e:List.countP (λx:Wt×Nat=>decide (x.2=f)) [(first,c)]=if f=c then 1 else 0:=by
   rw[List.countP_singleton];by_cases z:f=c
   ·rw[if_pos z,if_pos (Ap z.symm)]
   ·rw[if_neg z,if_neg (by rw[Ci];exact λy=>z y.symm)]
  rw[e];exact r
def fXK(m:List (Wt×Nat))(first:Wt)(A:List (Nat×Wt))(wl:List Wt):List Wt:=wl.filter λw=>decide (w=first) || (match fK m w with|some g=>decide (g∈A.map (·.1))|none=>false)
def pG(cws:List (List Nat))(k:Nat):List Wt:=(List.range (cws.getD k []).length).map λj=>(k,1+j)
def wlP(cws:List (List Nat))(i:Nat):List Wt:=(List.range i).flatMap (pG cws)
def wl(cws:List (List Nat)):List Wt:=wlP cws cws.length
def wV(w:Wt):List V:=[.int (w.1:Int),.int (w.2:Int)]
def nF(cws:Q6)(i:Nat):wlP cws (i+1)=wlP cws i++pG cws i:=by
 unfold wlP;rw[Cf,List.flatMap_append];simp
def sN(cws:Q6):∀i,mV cws i=(wlP cws i).map wV
 |0=>rfl
 |i+1=>by
  rw[jZ,nF,Ao,sN cws i];congr 1
  unfold aJA pG;rw[Bt];refine Dj λj _=>?_;show [V.int ((i:Nat):Int),V.int (1+(j:Int))]=[V.int ((i:Nat):Int),V.int ((1+j:Nat):Int)]
  rw[show ((1+j:Nat):Int)=1+(j:Int) by omega]
def wlP_mem{w:Wt}:∀ {i:Nat},w∈wlP cws i ↔ w.1<i/\1<=w.2/\w.2<=(cws.getD w.1 []).length:=fun {i}=>by
 unfold wlP pG;rw[List.mem_flatMap];constructor
 ·rintro⟨k,hk,h⟩;obtain⟨j,hj,rfl⟩:=Ba.mp h;have:=Bw.mp hk
  have:=Bw.mp hj
  exact⟨by omega,by show 1<=1+j;omega,by show 1+j<=(cws.getD k []).length;omega⟩
 ·rintro⟨h1,h2,h3⟩;refine⟨w.1,Bw.mpr h1,Ba.mpr ⟨w.2-1,Bw.mpr (by omega),?_⟩⟩
  exact Prod.ext rfl (by show 1+(w.2-1)=w.2;omega)
def rY(cws:Q6):∀i,(wlP cws i).Nodup
 |0=>List.nodup_nil
 |i+1=>by
  rw[nF];refine List.nodup_append.mpr ⟨rY cws i,?_,λa ha b hb e=>?_⟩
  ·unfold pG;exact List.Pairwise.map _ (λa b h=>λz=>h (by have:=Dm Prod.snd z;have e:1+a=1+b:=this;omega)) List.nodup_range
  ·subst e;have h1:=(wlP_mem.mp ha).1
   unfold pG at hb;obtain⟨j,_,rfl⟩:=Ba.mp hb;exact absurd h1 (Dh _)
def bQF(h7:∀c∈cws,c.length<=7)(i:Nat):(wlP cws i).length<=7*i:=by
 have:=mU h7 i
 rw[sN,Ab]at this;exact this
def chW(cws:List (List Nat))(w:Wt):List Nat:=chs (cws.getD w.1 []) (w.2-1)
def dM(ws:List Wt)(ds:List Addr):List (List Key×V):=List.zipWith (λw d=>(cZ w,V.ref d)) ws ds
def eJN(H:Hp)(r:Addr)(cws:List (List Nat))(i:Nat):Prop:=∃ds:List Addr,ds.length=i/\H r=some (.dT (dM ((wl cws).take i) ds))/\∀(j:Nat) w d,j<i->(wl cws)[j]?=some w->ds[j]?=some d->H d=some (.lst (((chW cws w).map one).map V.str))
def bZ3{ws:List Wt}(nd:ws.Nodup)(hl:ds.length=ws.length){w:Wt}{d:Addr}(hw:ws[j]?=some w)(hd:ds[j]?=some d):bT (dM ws ds) (cZ w)=some (.ref d):=by
 induction ws generalizing ds j with
 |nil=>cases hw
 |cons x ws ih=>
  cases ds with
  |nil=>cases hl
  |cons e ds=>
   show bT ((cZ x,V.ref e)::dM ws ds) _=_
   cases j with
   |zero=>cases hw;cases hd;exact cG rfl
   |succ j=>
    have hm:=Al (show ws[j]?=some w from hw)
    rw[bX (λz=>(Cu.mp nd).1 (by rw[oH z];exact hm))]
    exact ih (List.nodup_cons.mp nd).2 (by simpa using hl) hw hd
def aZH{ws:List Wt}{w:Wt}(h:w∉ws):bT (dM ws ds) (cZ w)=none:=by
 induction ws generalizing ds with
 |nil=>rfl
 |cons x ws ih=>
  cases ds with
  |nil=>rfl
  |cons e ds=>
   show bT ((cZ x,V.ref e)::dM ws ds) _=_
   rw[bX (λz=>h (by rw[oH z];exact Ak))]
   exact ih λz=>h (Aj _ z)
def vD{ws:List Wt}(hl:ds.length=ws.length):(dM ws ds).length=ws.length:=by
 unfold dM;rw[List.length_zipWith];omega
def aZ8{ws:List Wt}{w:Wt}{d:Addr}(hl:ds.length=ws.length):dM (ws++[w]) (ds++[d])=dM ws ds++[(cZ w,V.ref d)]:=by
 unfold dM;rw[List.zipWith_append (by omega)]
 rfl
def lM:Sp:=λvs H Q _=>∃(a:Addr) (cws:List (List Nat)),vs=[.ref a]/\rdL H a=some ((cws.map aP).map V.str)/\cws.length<=8/\(∀c∈cws,c.length<=7)/\
 ∀(r:Addr) (H':Hp),H r=none->Same H H'->eJN H' r cws (wl cws).length->Q (.ref r) H'
def sc_choices_of:FnScope ["words", "choices", "want"] ["words"] (aI iY):=by walk_at "sc"
def uJ(F:Fun K "choices_of" "choices_of" iY f fd)(G:Gs K mg w Zu Zz Zv Zx Z0 Zw Zy)(c_wants_of:Cal P w K mg base 1 "wants_of" ["words"] pH)(c_choices_at:Cal P w K mg base 1 "choices_at" ["word", "place"] gY):FnOk P w K mg base CX0 2 f fd ["words"] lM:=by
 refine F.ok sc_choices_of (λvs H Q E h=>?_) (λcdv A outer s H vs Q E hr h=>?_)
 ·obtain⟨a,cws,rfl,_⟩:=h;rfl
 obtain⟨a,cws,rfl,ha,h8,h7,q⟩:=h;refine⟨_,(@aD _ _ _ _ _ (@aXV _ _ 1 _ _ _ _ sc_choices_of.nd (by rfl) (by exact(Or.inl rfl)) zK (by rfl) (by walk_at "o")) (@aD _ _ _ _ _ (cJ Bm rfl (bO (aU c_wants_of hr (by decide) rfl (aA (mv 0) aB))) (aW (i:=2) sc_choices_of.nd rfl (Or.inl rfl)) (@aH _ _ _ (gM (Room.u1 hr) (mv 1) (mv 2) (aU c_choices_at hr (by decide) rfl (aA (bG bU (mv 0) (bG bU (mv 2) aJ (λ_ _=>rfl)) (λ_ _=>rfl)) (aA (bG bU (mv 2) aJ (λ_ _=>rfl)) aB))) rfl))) (@aH _ _ _ (aR (mv 1))))),?_⟩
 walk_at "go";intro pc hpc;walk_at "go";refine⟨a,cws,rfl,aK (aF hpc _) ha,h8,h7,λr ps H1 hr s1 e1 tp=>?_⟩;have s01:=(aF hpc (.dT [])).trans s1
 have ec1:=s1 _ _ (aE (H:=H) (a:=pc) (o:=.dT []))
 have hlw:(wl cws).length<=56:=Cc (bQF h7 _) (by omega)
 rw[sN]at tp;have hpl:ps.length=(wl cws).length:=by rw[tp.1,Ab];rfl
 have hpm:(ps.map V.ref).length=(wl cws).length:=by rw[Ab,hpl]
 have tat:∀(j:Nat) p w,ps[j]?=some p->(wl cws)[j]?=some w->H1 p=some (.tup (wV w)):=λj p w hp hw=>(tp.2 j p _ hp (by rw[Ae];exact Dm (Option.map wV) hw)).2
 have r1:=aO e1
 have hcr:pc≠r:=λz=>by rw[<-z,aE]at hr;cases hr
 walk_at "go";refine fQ (xs:=ps.map V.ref) (λi σ H'=>∃(v:Option V),σ=[some (.ref a),some (.ref pc),v]/\Same H H'/\(∀b u,b≠pc->H1 b=some u->H' b=some u)/\eJN H' pc cws i)
  ⟨_,rfl,s01,λb u _ h=>h,[],rfl,ec1,λj w d hj=>absurd hj (Gd _)⟩ (λi σ H' _ ⟨_,_,_,k,_⟩=>aO (k _ _ (Ne.symm hcr) e1)) ?_ ?_
 ·rintro i x σ H2 hx ⟨v,rfl,s2,k2,ds,dl,ed,hds⟩;rw[Ae]at hx;cases e:ps[i]? with
  |none=>rw[e]at hx;cases hx
  |some p=>
   rw[e]at hx;cases hx;have hi:i<(wl cws).length:=by rw[<-hpl];exact(Ad.mp e).1
   have ew:(wl cws)[i]?=some (wl cws)[i]:=Aa hi
   have hm:=wlP_mem.mp (Ce hi)
   have htp1:=tat i p _ e ew
   have hpne:p≠pc:=λz=>by rw[z,ec1]at htp1;cases htp1
   have ht:=k2 _ _ hpne htp1
   have hnew:(wl cws)[i]∉(wl cws).take i:=λz=>by
    obtain⟨j,hj,ej⟩:=Bu.mp z;rw[Br]at hj;rw[List.getElem_take]at ej;have:=(Ep (rY cws cws.length)).mp ej
    omega
   have htk:(wl cws).take (i+1)=(wl cws).take i++[(wl cws)[i]]:=by rw[Bh,ew];rfl
   generalize hw:(wl cws)[i]=w at hm ht hnew htk ew;obtain⟨h1,h2,h3⟩:=hm;have ecw:cws[w.1]?=some (cws.getD w.1 []):=by rw[Ac,Aa h1];rfl
   have h7w:=h7 _ (Al ecw)
   have ha2:=aK s2 ha
   walk_at "go";refine dJ ht (v:=.int (w.1:Int)) rfl ?_;walk_at "go";refine cO ha2 (v:=.str (aP (cws.getD w.1 []))) (bD (by rw[Ae,Ae,ecw];rfl)) ?_
   walk_at "go";refine dJ ht (v:=.int (w.2:Int)) rfl ?_;walk_at "go";refine⟨cws.getD w.1 [],w.2-1,_,rfl,by omega,by omega,h7w,λd H3 hd s3 e3=>?_⟩
   walk_at "go";have dl2:ds.length=((wl cws).take i).length:=by rw[dl,Br];omega
   refine wU (k:=cZ w) (s3 _ _ ed) (s3 _ _ ht) (bA (by rw[vD dl2,Br];omega)) ?_
   have hdp:d≠pc:=λz=>by rw[z,ed]at hd;cases hd
   refine⟨_,rfl,bJ hpc (s2.trans s3),λb u hb hu=>by rw[aG hb];exact s3 _ _ (k2 b u hb hu),ds++[d],by rw[Ag,dl];rfl,?_,λj v' d' hj hv hd'=>?_⟩
   ·rw[aE,kM _ (aZH hnew),htk,aZ8 dl2]
   ·by_cases hjl:j<i
    ·rw[Aq (by omega)]at hd'
     have hold:=hds j v' d' hjl hv hd'
     rw[aG (λz=>by rw[z,ed]at hold;cases hold)]
     exact s3 _ _ hold
    ·have hj2:j=i:=by omega
     subst hj2;rw[ew]at hv;cases hv;rw[Ax (by omega),dl,El]at hd'
     cases hd';rw[aG hdp];exact e3
 ·rintro σ H2 ⟨v,rfl,s2,k2,hch⟩;rw[hpm]at hch;walk_at "go";exact q pc H2 hpc s2 hch
def gE(m:List (Wt×Nat)):List (List Key×V):=m.map λx=>(cZ x.1,V.str (one x.2))
def jW(m:List (Wt×Nat))(w:Wt):bT (gE m) (cZ w)=(fK m w).map λf=>V.str (one f):=by
 induction m with
 |nil=>rfl
 |cons x m ih=>
  show bT ((cZ x.1,V.str (one x.2))::gE m) _=_
  rw[eT];by_cases e:x.1=w
  ·rw[if_pos e,cG (by show cZ x.1=cZ w;rw[e])]
   rfl
  ·rw[if_neg e,bX (λz=>e (oH z)),ih]
def fH(A:List (Nat×Wt))(bs:List Addr):List (Key×V):=List.zipWith (λx b=>(Sum.inr (one x.1),V.ref b)) A bs
def kW{A:List (Nat×Wt)}(hl:bs.length=A.length)(f:Nat):(bT (fH A bs) (Sum.inr (one f))).isSome=decide (f∈A.map (·.1)):=by
 induction A generalizing bs with
 |nil=>rfl
 |cons x A ih=>
  cases bs with
  |nil=>cases hl
  |cons b bs=>
   show (bT ((Sum.inr (one x.1),V.ref b)::fH A bs) _).isSome=_
   by_cases e:x.1=f
   ·rw[cG (by show (Sum.inr (one x.1):Key)=Sum.inr (one f);rw[e]),Ap (by rw[<-e];exact Ak)]
    rfl
   ·rw[bX (λz=>e (key_one.mp z)),ih (by simpa using hl)]
    exact Dq.mpr ⟨λz=>Aj _ z,λz=>(Be.mp z).resolve_left λy=>e y.symm⟩
def bZQ{A:List (Nat×Wt)}(hl:bs.length=A.length){f:Nat}(h:f∉A.map (·.1)):bT (fH A bs) (Sum.inr (one f))=none:=by
 have r:=kW hl f
 rw[Ay h]at r;cases e:bT (fH A bs) (Sum.inr (one f)) with
 |none=>rfl
 |some v=>rw[e]at r;cases r
def bX5{A:List (Nat×Wt)}{x:Nat×Wt}(hl:bs.length=A.length):fH (A++[x]) (bs++[b])=fH A bs++[(Sum.inr (one x.1),V.ref b)]:=by
 unfold fH;rw[List.zipWith_append (by omega)]
 rfl
def tQ{A:List (Nat×Wt)}(hl:bs.length=A.length):(fH A bs).length=A.length:=by
 unfold fH;rw[List.length_zipWith];omega
def cQA{A:List (Nat×Wt)}(nd:(A.map (·.1)).Nodup)(hl:bs.length=A.length){f:Nat}{w:Wt}(hA:A[j]?=some (f,w))(hb:bs[j]?=some b):bT (fH A bs) (Sum.inr (one f))=some (.ref b):=by
 induction A generalizing bs j with
 |nil=>cases hA
 |cons x A ih=>
  cases bs with
  |nil=>cases hl
  |cons e bs=>
   show bT ((Sum.inr (one x.1),V.ref e)::fH A bs) _=_
   rw[Au,Cu]at nd;cases j with
   |zero=>cases hA;cases hb;exact cG rfl
   |succ j=>
    have hm:f∈A.map (·.1):=Ba.mpr ⟨(f,w),Al (show A[j]?=some (f,w) from hA),rfl⟩
    rw[bX (λz=>nd.1 (by rw[key_one.mp z];exact hm))]
    exact ih nd.2 (by simpa using hl) hA hb
def WtsAt(H:Hp)(rs:List Addr)(ws:List Wt):Prop:=rs.length=ws.length/\∀(j:Nat) r w,rs[j]?=some r->ws[j]?=some w->H r=some (.tup (wV w))
def WtsAt.keep{rs:List Addr}{ws:List Wt}(h:WtsAt H rs ws)(k:∀r w,H r=some (.tup (wV w))->H' r=some (.tup (wV w))):WtsAt H' rs ws:=⟨h.1,λj r w hr hw=>k _ _ (h.2 j r w hr hw)⟩
def WtsAt.app{rs qs:List Addr}{ws vs:List Wt}(h:WtsAt H rs ws)(g:WtsAt H qs vs):WtsAt H (rs++qs) (ws++vs):=by
 refine⟨by rw[Ag,Ag,h.1,g.1],λj r w hr hw=>?_⟩
 by_cases hj:j<rs.length
 ·rw[Aq hj]at hr;rw[Aq (by rw[<-h.1];exact hj)]at hw
  exact h.2 j r w hr hw
 ·rw[Ax (by omega)]at hr
  rw[Ax (by rw[<-h.1];omega),<-h.1]at hw
  exact g.2 _ r w hr hw
def WtsAt.one{w:Wt}(h:H r=some (.tup (wV w))):WtsAt H [r] [w]:=⟨rfl,λj q v hq hv=>by
 cases j with
 |zero=>cases hq;cases hv;exact h
 |succ j=>cases hq⟩
def ChRd(H:Hp)(r:Addr)(cws:List (List Nat)):Prop:=∃ds:List Addr,ds.length=(wl cws).length/\Rd H r (.dT (dM (wl cws) ds))/\∀(j:Nat) w d,(wl cws)[j]?=some w->ds[j]?=some d->H d=some (.lst (((chW cws w).map one).map V.str))
def ChRd.keep(h:ChRd H r cws)(s:Same H H'):ChRd H' r cws:=by
 obtain⟨ds,h1,h2,h3⟩:=h;exact⟨ds,h1,h2.elim (λe=>.inl (s _ _ e)) λ⟨o,e⟩=>.inr ⟨o,s _ _ e⟩,λj w d hw hd=>s _ _ (h3 j w d hw hd)⟩
structure HungOk (cws:List (List Nat)) (m:List (Wt×Nat)):Prop where
 nd:(m.map (·.1)).Nodup
 sub:∀x∈m,x.1∈wl cws
def eX1(hL:∀c∈cws,c.length<=7/\∀d∈c,aV d){w:Wt}(hw:w∈wl cws){f:Nat}(hf:f∈chW cws w):pZ f:=by
 obtain⟨h1,h2,h3⟩:=wlP_mem.mp hw;have ecw:cws[w.1]?=some (cws.getD w.1 []):=by rw[Ac,Aa h1];rfl
 rcases ch_iff.mp hf with e|⟨n,_,h4,_,e⟩
 ·rw[e];exact .inl (kB (hL _ (Al ecw)).2 (by omega))
 ·rw[e];exact .inr ⟨by omega,by omega⟩
def eQE{m:List (Wt×Nat)}{first:Wt}{A:List (Nat×Wt)}(hm:HungOk cws m)(hfw:first∈wl cws)(h:Asking (chW cws) m first A){f:Nat}{w:Wt}(hj:A[j]?=some (f,w)):w∈wl cws:=by
 rcases (h.ok j f w hj).2 with e|⟨g,i,v,_,_,hg⟩
 ·rw[e];exact hfw
 ·exact hm.sub _ (cQ2 hg)
def aJV{m:List (Wt×Nat)}{first:Wt}{A:List (Nat×Wt)}(hm:HungOk cws m)(hfw:first∈wl cws)(hL:∀c∈cws,c.length<=7/\∀d∈c,aV d)(h:Asking (chW cws) m first A):A.length<=27:=by
 have r:=cZ6 (m:=flagsT.cps.toList) h.nd λf hf=>by
  obtain⟨x,hx,rfl⟩:=Ba.mp hf;obtain⟨j,hj,e⟩:=Bu.mp hx;have hj2:A[j]?=some (x.1,x.2):=by rw[Aa hj,e]
  exact flags_mem.mpr (eX1 hL (eQE hm hfw h hj2) (h.ok j _ _ hj2).1)
 rw[Ab]at r;exact r
def lP:Sp:=λvs H Q _=>∃(bf ac ah:Addr) (cws:List (List Nat)) (m:List (Wt×Nat)) (first:Wt),vs=[.ref bf,.ref ac,.ref ah]/\H bf=some (.tup (wV first))/\first∈wl cws/\ChRd H ac cws/\H ah=some (.dT (gE m))/\HungOk cws m/\m.length<=56/\cws.length<=8/\(∀c∈cws,c.length<=7/\∀d∈c,aV d)/\
 ∀(r:Addr) (A:List (Nat×Wt)) (bs:List Addr) (H':Hp),H r=none->Same H H'->H' r=some (.dK (fH A bs))->WtsAt H' bs (A.map (·.2))->Asked (chW cws) m first A->Q (.ref r) H'
def sc_asked_from:FnScope ["first", "choices", "hung", "asked", "reached", "at", "asking", "flag"] ["first", "choices", "hung"] (aI fU):=by walk_at "sc"
def uP(F:Fun K "asked_from" "asked_from" fU f fd)(G:Gs K mg w Zu Zz Zv Zx Z0 Zw Zy):FnOk P w K mg base CX0 1 f fd ["first", "choices", "hung"] lP:=by
 refine F.ok sc_asked_from (λvs H Q E h=>?_) (λcdv A outer s H vs Q E hr h=>?_)
 ·obtain⟨bf,ac,ah,cws,m,first,rfl,_⟩:=h;rfl
 obtain⟨bf,ac,ah,cws,m,first,rfl,hbf,hfw,hch,hah,hm,hml,h8,hL,q⟩:=h
 refine⟨_,(@aD _ _ _ _ _ (aM 3 sc_asked_from.nd rJ) (@aD _ _ _ _ _ (aM 4 sc_asked_from.nd (cC (aA (mv 0) aB))) (@aD _ _ _ _ _ (aM 5 sc_asked_from.nd aJ) (@aD _ _ _ _ _ (tJ Bm (aX aQJ (mv 5) (aS bZ rfl G.b_len bK (aA (mv 4) aB)) (bB _)) (@aD _ _ _ _ _ (aM 6 sc_asked_from.nd (bG bU (mv 4) (mv 5) (λ_ _=>rfl))) (@aD _ _ _ _ _ (cJ Bm rfl (bO (gH (Room.u1 hr) (mv 1) (mv 6) (λ_ _=>rfl))) (aW (i:=7) sc_asked_from.nd rfl (Or.inr rfl)) (@aH _ _ _ (bY (aX (aQZ (Room.u1 hr)) (mv 7) (mv 3) (by rfl)) (@aD _ _ _ _ _ (gM (Room.u1 hr) (mv 3) (mv 7) (mv 6) rfl) (@aH _ _ _ (dW (cB Ck Gb Gc cZK (mv 4) (aA (bJ3 (bV rfl (nK (mv 2)) (eR (N:=["want", "flag", "hung"]) ["first", "choices", "hung", "asked", "reached", "at", "asking", "flag"] (aI fU) [none,some 7,some 2] rfl rfl rfl (λx h=>bP h) (by decide +kernel)) (by decide +kernel) rfl (by decide +kernel) (λ_ _ _ _=>(aW (i:=0) (show List.Nodup (["want", "flag", "hung"]:List Str) by decide +kernel) rfl (Or.inl rfl))) (λ_ _ _ _=>(fG (aX nZ (gH (Room.u1 hr) (mv 2) (mv 0) (λ_ _=>rfl)) (mv 1) (bB _)))) (λ_ _ _ _=>(mv 0)))) aB))))) bF))) (@aH _ _ _ (aM 5 sc_asked_from.nd (aQ bM (mv 5) aJ)))))) (@aH _ _ _ (aR (mv 3))))))),?_⟩
 walk_at "go";intro pa hpa;walk_at "go";refine⟨by show 1<=sizeLine;decide,λpr hpr=>?_⟩
 have s1:=(aF hpa (.dK [])).trans (aF hpr (.lst [.ref bf]))
 have npr:pa≠pr:=λz=>by rw[<-z,aE]at hpr;cases hpr
 have ea1:(upd (upd H pa (.dK [])) pr (.lst [.ref bf])) pa=some (.dK []):=by rw[aG npr,aE]
 have er1:(upd (upd H pa (.dK [])) pr (.lst [.ref bf])) pr=_:=aE
 have hpr0:H pr=none:=none_of (aF hpa _) hpr
 generalize upd (upd H pa (.dK [])) pr (.lst [.ref bf])=H1 at s1 ea1 er1 ⊢;walk_at "go";refine ⟨λn σ H'=>∃ (A:List (Nat×Wt)) (bs rs:List Addr) (t:Nat) (v1 v2:Option V),σ=[some (.ref bf),some (.ref ac),some (.ref ah),some (.ref pa),some (.ref pr),some (.int (t:Int)),v1,v2]/\Same H H'/\H' pa=some (.dK (fH A bs))/\WtsAt H' bs (A.map (·.2))/\H' pr=some (.lst (rs.map V.ref))/\WtsAt H' rs (cD m first A)/\
     Asking (chW cws) m first A/\t<=(cD m first A).length/\(∀(j:Nat) w,j<t->(cD m first A)[j]?=some w->∀f∈chW cws w,f∈A.map (·.1))/\n=1+m.length-t,⟨_,[],[],[bf],0,_,_,rfl,s1,ea1,⟨rfl,λj r w hr=>(nomatch hr)⟩,er1,.one (s1 _ _ hbf),⟨List.nodup_nil,λj f w hj=>(nomatch hj)⟩,Cy _,λj w hj=>absurd hj (Gd _),rfl⟩,?_⟩
 rintro n σ H2 ⟨A,bs,rs,t,v1,v2,rfl,s2,ea2,wb2,er2,wr2,hask,htl,hcl,rfl⟩;have hrl:(rs.map V.ref).length=(cD m first A).length:=by rw[Ab,wr2.1]
 have rr2:=aO er2
 walk_at "go";rw[hrl];refine eJ (λhd=>?_) (λhd=>?_)
 ·have hd':=Bd hd
  have ht:t<(cD m first A).length:=by omega
  have hrm:=wB (m:=m) (first:=first) hask.nd
  have htr:t<rs.length:=by rw[wr2.1];exact ht
  have ew:(cD m first A)[t]?=some (cD m first A)[t]:=Aa ht
  have er:rs[t]?=some rs[t]:=Aa htr
  have hwt:=wr2.2 t _ _ er ew
  have hww:(cD m first A)[t]∈wl cws:=by
   rcases reach_mem.mp (Ce ht) with e|⟨f,_,hm2⟩
   ·rw[e];exact hfw
   ·exact hm.sub _ hm2
  generalize hbw:rs[t]=b at hwt er;generalize hwe:(cD m first A)[t]=w at hwt hww ew
  clear hbw hwe hd hd';obtain⟨ds,d1,d2,d3⟩:=id hch;obtain⟨jw,hjw,ejw⟩:=Bu.mp hww;have ejw2:(wl cws)[jw]?=some w:=by rw[Aa hjw,ejw]
  have edw:ds[jw]?=some (ds[jw]'(by omega)):=Aa (by omega)
  have hdlH:=d3 jw w _ ejw2 edw
  have hdv:=bZ3 (rY cws cws.length) d1 ejw2 edw
  generalize (ds[jw]'(by omega))=dl at hdlH hdv
  have hdl:=s2 _ _ hdlH
  have d22:Rd H2 ac (.dT (dM (wl cws) ds)):=d2.elim (λe=>.inl (s2 _ _ e)) λ⟨o,e⟩=>.inr ⟨o,s2 _ _ e⟩
  refine⟨λσ' H'=>∃(A:List (Nat×Wt)) (bs rs:List Addr) (v1 v2:Option V),σ'=[some (.ref bf),some (.ref ac),some (.ref ah),some (.ref pa),some (.ref pr),some (.int ((t+1:Nat):Int)),v1,v2]/\Same H H'/\H' pa=some (.dK (fH A bs))/\WtsAt H' bs (A.map (·.2))/\H' pr=some (.lst (rs.map V.ref))/\WtsAt H' rs (cD m first A)/\
   Asking (chW cws) m first A/\t+1<=(cD m first A).length/\(∀(j:Nat) w,j<t+1->(cD m first A)[j]?=some w->∀f∈chW cws w,f∈A.map (·.1)),?_,?_⟩
  ·rintro σ' H' ⟨A',bs',rs',v1',v2',rfl,g1,g2,g3,g4,g5,g6,g7,g8⟩;exact⟨1+m.length-(t+1),by omega,A',bs',rs',t+1,v1',v2',rfl,g1,g2,g3,g4,g5,g6,g7,g8,rfl⟩
  walk_at "go";refine cO rr2 (v:=.ref b) (bD (by rw[Ae,er];rfl)) ?_
  walk_at "go";refine aZ4 (k:=cZ w) d22 hwt hdv ?_;have rdl:=aO hdl
  have hcl5:=(cJV (cws.getD w.1 []) (w.2-1)).2
  have hcm:(((chW cws w).map one).map V.str).length=(chW cws w).length:=by rw[Ab,Ab]
  walk_at "go";have kt:∀ {H':Hp} {p:Addr} {u u':HO},H' p=some u->(∀ws,u≠.tup ws)->∀r w,H' r=some (.tup (wV w))->(upd H' p u') r=some (.tup (wV w)):=fun {H' p u u'} e ne r w h=>by
   rw[aG (λz=>by rw[z,e]at h;cases h;exact ne _ rfl)]
   exact h
  refine fQ (xs:=((chW cws w).map one).map V.str) (λi σ H'=>∃ (A:List (Nat×Wt)) (bs rs:List Addr) (v2:Option V),σ=[some (.ref bf),some (.ref ac),some (.ref ah),some (.ref pa),some (.ref pr),some (.int (t:Int)),some (.ref b),v2]/\Same H H'/\H' pa=some (.dK (fH A bs))/\WtsAt H' bs (A.map (·.2))/\H' pr=some (.lst (rs.map V.ref))/\WtsAt H' rs (cD m first A)/\
      H' b=some (.tup (wV w))/\Asking (chW cws) m first A/\(cD m first A)[t]?=some w/\(∀(j:Nat) v,j<t->(cD m first A)[j]?=some v->∀f∈chW cws v,f∈A.map (·.1))/\∀f∈(chW cws w).take i,f∈A.map (·.1))
   ⟨A,bs,rs,_,rfl,s2,ea2,wb2,er2,wr2,hwt,hask,ew,hcl,λf hf=>(nomatch hf)⟩ (λi σ H' _ ⟨_,_,_,_,_,e,_⟩=>aO (e _ _ hdlH)) ?_ ?_
  ·clear hask ew hcl hrm htl hrl rr2 wr2 er2 wb2 ea2 er;rintro i x σ H3 hx ⟨A,bs,rs,v2,rfl,s3,ea,wb,er,wr,hb,hask,ew,hcl,hpre⟩;rw[Ae,Ae]at hx;cases ef:(chW cws w)[i]? with
   |none=>rw[ef]at hx;cases hx
   |some f=>
    rw[ef]at hx;cases hx;have hfc:=Al ef
    have htk:(chW cws w).take (i+1)=(chW cws w).take i++[f]:=by rw[Bh,ef];rfl
    have hbl:bs.length=A.length:=by rw[wb.1,Ab]
    have hAl:=aJV hm hfw hL hask
    walk_at "go";refine cQ1 (neg:=true) (z:=one f) (.inl ea) ?_;rw[if_pos rfl,kW hbl];refine eJ (λhd=>?_) (λhd=>?_)
    ·have hni:f∉A.map (·.1):=λz=>by rw[Ap z]at hd;cases hd
     walk_at "go";refine lD (z:=one f) ea (bA (by rw[tQ hbl];omega)) ?_
     rw[kM _ (bZQ hbl hni),<-bX5 (x:=(f,w)) hbl];have s4:Same H (upd H3 pa (.dK (fH (A++[(f,w)]) (bs++[b])))):=bJ hpa s3
     have ea4:(upd H3 pa (.dK (fH (A++[(f,w)]) (bs++[b])))) pa=_:=aE
     have er4:(upd H3 pa (.dK (fH (A++[(f,w)]) (bs++[b])))) pr=_:=(aG (Ne.symm npr)).trans er
     have k4:=kt (u':=.dK (fH (A++[(f,w)]) (bs++[b]))) ea (λws z=>nomatch z)
     have wb4:=wb.keep k4
     have wr4:=wr.keep k4
     have hb4:=k4 _ _ hb
     generalize upd H3 pa (.dK (fH (A++[(f,w)]) (bs++[b])))=H4 at s4 ea4 er4 wb4 wr4 hb4 ⊢;have ah4:=s4 _ _ hah
     clear k4 wb wr er ea s3 hb;walk_at "go";refine xJ ah4 λo=>?_;have fz:(upd H4 ah (.frz o (.dT (gE m)))) ah=_:=aE
     have hkl:(gE m).length=m.length:=by unfold gE;rw[Ab]
     refine gW (n:=m.length) (λD i ys Hc=>Same (upd H4 ah (.frz o (.dT (gE m)))) Hc/\∃qs,ys=qs.map V.ref/\WtsAt Hc qs (eC (m.take i) f)) (bA (by omega)) (λD hD=>⟨aF hD _,[],rfl,rfl,λj r w hr=>(nomatch hr)⟩) (λD i ys Hc _ r h=>⟨r.1 _ _ fz,by omega⟩) (λD ys Hc _ r=>⟨r.1 _ _ fz,hkl⟩) ?_ ?_
     ·rintro D i2 ys Hc x H' A' B' hD hi2 ⟨sm,qs,rfl,wq⟩ hDc ⟨rfl,kv,b2,hkv,rfl,hb2⟩ hA' hB';have em:m[i2]?=some m[i2]:=Aa hi2
      unfold gE at hkv;rw[Ae,em]at hkv;cases hkv;have hbt:H' b2=some (.tup (wV m[i2].1)):=hb2
      have hv:bT (gE m) (cZ m[i2].1)=some (.str (one m[i2].2)):=by
       rw[jW,tM hm.nd (w:=m[i2].1) (f:=m[i2].2) (Ce hi2)];rfl
      have tk:m.take (i2+1)=m.take i2++[m[i2]]:=by rw[Bh,em];rfl
      rw[tk]at hA' hB';generalize m[i2]=x2 at hbt hv hA' hB';walk_at "go";refine⟨Wk.set rfl (Wk.refl _),?_⟩;walk_at "go";refine aZ4 (k:=cZ x2.1) (.inr ⟨o,sm _ _ fz⟩) hbt hv ?_;walk_at "go";rw[show decide (one x2.2=one f)=decide (x2.2=f) from bQC _ _];refine eJ (λhe=>?_) (λhe=>?_)
      ·have he':=Bd he
       walk_at "go";refine hA' _ _ hDc ⟨bJ hD sm,qs++[b2],by rw[Ao];rfl,?_⟩
       rw[show eC (m.take i2++[x2]) f=eC (m.take i2) f++[x2.1] by unfold eC;rw[List.filter_append,List.map_append];simp[he']]
       exact(wq.app (.one hbt)).keep (kt hDc (λws z=>nomatch z))
      ·have he':=Bj (Bl.mpr he)
       walk_at "go";refine hB' _ hDc ⟨sm,qs,rfl,?_⟩;rw[show eC (m.take i2++[x2]) f=eC (m.take i2) f by unfold eC;rw[List.filter_append,List.map_append];simp[he']]
       exact wq
     ·rintro D ys Hc hD ⟨sm,qs,rfl,wq⟩ hDc _;rw [Cj] at wq;have hD4:H4 D=none:=by
       by_cases z:D=ah
       ·rw[z,aE]at hD;cases hD
       ·rw[aG z]at hD;exact hD
      have su:=tH ah4 (λo v z=>nomatch z) sm
      have eu:=eI (Hs:=H4) hDc (λo v z=>nomatch z)
      have wqu:WtsAt (unf H4 Hc) qs (eC m f):=wq.keep λr w h=>eI h (λo v z=>nomatch z)
      generalize unf H4 Hc=Hu at su eu wqu;have eru:=su _ _ er4
      have hmr:=cI eru
      have hmd:=cI eu
      have nDr:pr≠D:=bE er4 hD4
      have hq1:qs.length<=56:=by rw[wqu.1,cZZ];unfold ctm;exact Cc List.countP_le_length hml
      have hr1:rs.length<=57:=by rw[wr4.1];exact Cc (wB hask.nd) (by omega)
      have hlen:(rs.map V.ref).length+(qs.map V.ref).length<=sizeLine:=bH (by rw[Ab,Ab];omega)
      walk_at "go";have kr:=kt (u':=.lst (rs.map V.ref++qs.map V.ref)) eru (λws z=>nomatch z)
      have hRt:=(Ad.mp ew).1
      refine⟨A++[(f,w)],bs++[b],rs++qs,_,rfl,bJ hpr0 (s4.trans su),?_,?_,?_,?_,?_,hask.snoc hm.nd hni hfc (Al ew),?_,λj v hj hv=>?_,λg hg=>?_⟩
      ·rw[aG npr];exact su _ _ ea4
      ·rw[Ao];exact((wb4.keep λr w h=>su _ _ h).app (.one (su _ _ hb4))).keep kr
      ·rw[aE,Ao]
      ·rw[mW];exact((wr4.keep λr w h=>su _ _ h).app wqu).keep kr
      ·exact kr _ _ (su _ _ hb4)
      ·rw[mW,Aq hRt];exact ew
      ·rw[mW,Aq (by omega)]at hv
       intro g hg;rw[Ao];exact Dp _ (hcl j v hj hv g hg)
      ·rw[htk]at hg;rw[Ao];rcases By.mp hg with z|z
       ·exact Dp _ (hpre g z)
       ·rw[Am.mp z];exact Bv _ (Am.mpr rfl)
    ·have hin:f∈A.map (·.1):=by
      rw[Bool.not_eq_true,Bool.not_eq_false']at hd;exact Bd hd
     walk_at "go";refine⟨A,bs,rs,_,rfl,s3,ea,wb,er,wr,hb,hask,ew,hcl,λg hg=>?_⟩;rw[htk]at hg;rcases By.mp hg with z|z
     ·exact hpre g z
     ·rw[Am.mp z];exact hin
  ·clear hask ew hcl hrm htl hrl rr2 wr2 er2 wb2 ea2 er;rintro σ H3 ⟨A,bs,rs,v2,rfl,s3,ea,wb,er,wr,hb,hask,ew,hcl,hpre⟩;rw[hcm,Cj]at hpre;walk_at "go";refine⟨A,bs,rs,_,_,rfl,s3,ea,wb,er,wr,hask,(Ad.mp ew).1,λj v hj hv=>?_⟩;by_cases hjt:j<t
   ·exact hcl j v hjt hv
   ·have:j=t:=by omega
    subst this;rw[ew]at hv;cases hv;exact hpre
 ·have hd':=Bj (Bl.mpr hd)
  walk_at "go";refine q pa A bs H2 hpa s2 ea2 wb2 (hask.done λw hw f hf=>?_);obtain⟨j,hj,ej⟩:=Bu.mp hw;exact hcl j w (by omega) (by rw[Aa hj,ej]) f hf
def zT{m:List (Wt×Nat)}{w:Wt}{f:Nat}:cX (gE m) (cZ w) (.str (one f))=gE (bZK m w f):=by
 have e:((gE m).any λkv=>decide (kv.1=cZ w))=(fK m w).isSome:=by
  rw[fF,jW];cases fK m w<;>rfl
 unfold cX bZK;rw[e];by_cases h:(fK m w).isSome=true
 ·rw[if_pos h,if_pos h];unfold gE;rw[Bt,Bt];refine Dj λx _=>?_;show (if cZ x.1=cZ w then (cZ x.1,V.str (one f)) else (cZ x.1,V.str (one x.2)))=(λx:Wt×Nat=>(cZ x.1,V.str (one x.2))) (if x.1=w then (x.1,f) else x)
  by_cases ex:x.1=w
  ·rw[if_pos ex,if_pos (by rw[ex])]
  ·rw[if_neg ex,if_neg (λz=>ex (oH z))]
 ·rw[if_neg h,if_neg h];unfold gE;rw[Ao];rfl
def lJ:Sp:=λvs H Q _=>∃(aa ah:Addr) (cws:List (List Nat)) (m:List (Wt×Nat)) (first:Wt) (A:List (Nat×Wt)) (bs:List Addr) (f0:Nat),vs=[.str (one f0),.ref aa,.ref ah]/\H aa=some (.dK (fH A bs))/\WtsAt H bs (A.map (·.2))/\Asking (chW cws) m first A/\H ah=some (.dT (gE m))/\(m.map (·.1)).Nodup/\first∉m.map (·.1)/\(∀v f,(v,f)∈m->f∈chW cws v)/\f0∈A.map (·.1)/\m.length<=56/\
 ∀(m':List (Wt×Nat)) (H':Hp),(∀b u,b≠ah->H b=some u->H' b=some u)->H' ah=some (.dT (gE m'))->m'.map (·.1)=m.map (·.1)++[first]->(∀v f,(v,f)∈m'->f∈chW cws v)->(∀f,ctm m' f=ctm m f+(if f=f0 then 1 else 0))->Q .non H'
def sc_hang_along:FnScope ["flag", "asked", "hung", "want", "given"] ["flag", "asked", "hung"] (aI jE):=by walk_at "sc"
def uH(F:Fun K "hang_along" "hang_along" jE f fd)(G:Gs K mg w Zu Zz Zv Zx Z0 Zw Zy):FnOk P w K mg base CX0 1 f fd ["flag", "asked", "hung"] lJ:=by
 refine F.ok sc_hang_along (λvs H Q E h=>?_) (λcdv A outer s H vs Q E hr h=>?_)
 ·obtain⟨aa,ah,cws,m,first,A,bs,f0,rfl,_⟩:=h;rfl
 obtain⟨aa,ah,cws,m,first,A,bs,f0,rfl,haa,hwb,hask,hah,nd,hnf,hmc,hf0,hml,q⟩:=h
 refine⟨_,(@aH _ _ _ (tJ Bm (aX sL (mv 0) cP (bB _)) (@aD _ _ _ _ _ (aM 3 sc_hang_along.nd (gH (Room.u1 hr) (mv 1) (mv 0) (λ_ _=>rfl))) (@aD _ _ _ _ _ (aM 4 sc_hang_along.nd (hX Cg Dv (cXQ (Room.u1 hr)) (mv 2) (aA (mv 3) aB))) (@aD _ _ _ _ _ (gM (Room.u1 hr) (mv 2) (mv 3) (mv 0) rfl) (@aH _ _ _ (aM 0 sc_hang_along.nd (mv 4)))))))),?_⟩;have hbl:bs.length=A.length:=by rw[hwb.1,Ab]
 have nah:aa≠ah:=λz=>by rw[z,hah]at haa;cases haa
 obtain⟨x0,hx0,e0⟩:=Ba.mp hf0;obtain⟨j0,hj0,ej0⟩:=Bu.mp hx0;have ej:A[j0]?=some (f0,x0.2):=by rw[Aa hj0,ej0,<-e0]
 walk_at "go";refine ⟨λn σ H'=>(∃ (m2:List (Wt×Nat)) (c j:Nat) (w:Wt) (v1 v2:Option V),σ=[some (.str (one c)),some (.ref aa),some (.ref ah),v1,v2]/\(∀ b u,b≠ah->H b=some u->H' b=some u)/\H' ah=some (.dT (gE m2))/\Along (chW cws) m A f0 m2 c j w/\n=j+1)\/
     (∃(m':List (Wt×Nat)) (v1 v2:Option V),σ=[some .non,some (.ref aa),some (.ref ah),v1,v2]/\(∀b u,b≠ah->H b=some u->H' b=some u)/\H' ah=some (.dT (gE m'))/\m'.map (·.1)=m.map (·.1)++[first]/\(∀v f,(v,f)∈m'->f∈chW cws v)/\(∀f,ctm m' f=ctm m f+(if f=f0 then 1 else 0))/\n=0),
  ⟨_,.inl ⟨m,f0,j0,x0.2,none,none,rfl,λb u _ h=>h,hah,⟨rfl,hmc,λf=>rfl,ej,λv g i u hg _ _=>hg⟩,rfl⟩⟩,?_⟩
 rintro n σ H2 (⟨m2,c,j,w,v1,v2,rfl,fr,eh,al,rfl⟩|⟨m',v1,v2,rfl,fr,eh,hk,hc,hct,rfl⟩)
 ·walk_at "go";rw[show (!decide (V.str (one c)=V.non))=true from rfl];walk_at "go";have hjl:=(Ad.mp al.at_).1
  have ebj:bs[j]?=some (bs[j]'(by omega)):=Aa (by omega)
  have hbt:=hwb.2 j _ w ebj (by rw[Ae,al.at_];rfl)
  have hav:=cQA hask.nd hbl al.at_ ebj
  generalize (bs[j]'(by omega))=b at hbt hav
  have nb:b≠ah:=λz=>by rw[z,hah]at hbt;cases hbt
  have haa2:=fr _ _ nah haa
  have hb2:=fr _ _ nb hbt
  have hkl:(gE m2).length<sizeLine:=by
   have:m2.length=m.length:=by rw[<-Ab (f:=(·.1)) (as:=m2),al.keys,Ab]
   unfold gE;rw[Ab];exact bA (by omega)
  have hdd:isD H2 ah=true:=by unfold isD;rw[eh]
  refine⟨_,λσ' H' h=>h,?_⟩;walk_at "go";refine tO (z:=one c) (.inl haa2) hav ?_;walk_at "go";refine bQG (k:=cZ w) (.inl eh) hb2 ?_;rw[jW];have fr2:∀o,∀b u,b≠ah->H b=some u->(upd H2 ah o) b=some u:=λo b u hb hu=>by rw[aG hb];exact fr b u hb hu
  rcases (hask.ok j c w al.at_).2 with rfl|⟨g,i,v,hij,hi,hg⟩
  ·obtain⟨l1,l2,l3,l4⟩:=al.last hask hnf;rw[l1];walk_at "go";refine wU (k:=cZ w) eh hb2 hkl ?_;rw[zT,show bZK m2 w c=m2++[(w,c)] by unfold bZK;rw[l1];rfl]
   walk_at "go";exact⟨0,by omega,.inr ⟨m2++[(w,c)],_,_,rfl,fr2 _,aE,l2,l3,l4,rfl⟩⟩
  ·obtain⟨l1,l2⟩:=al.step hask nd hg hi hij;rw[l1];walk_at "go";refine wU (k:=cZ w) eh hb2 hkl ?_;rw[zT,show bZK m2 w c=m2.map λx=>if x.1=w then (x.1,c) else x by unfold bZK;rw[l1];rfl]
   walk_at "go";exact⟨i+1,by omega,.inl ⟨_,g,i,v,_,_,rfl,fr2 _,aE,l2,rfl⟩⟩
 ·walk_at "go";exact q m' H2 fr eh hk hc hct
def nA(aC:Addr):Sp:=λvs H Q _=>∃(ea p q:Addr) (xs ys:List V),vs=[.ref ea,.ref p,.ref q]/\H ea=some (eV ea aC none)/\rdL H p=some xs/\rdL H q=some ys/\
 ∀(dx l1 l2:Addr) (H':Hp),(∀b u,b≠ea->H b=some u->H' b=some u)->H dx=none->dx≠ea->H' ea=some (eV ea aC (some dx))->H' dx=some (xdO dx [("flags",.ref l2),("wants",.ref l1)])->H' l1=some (.lst xs)->H' l2=some (.lst ys)->H l1=none->H l2=none->Q .non H'
def xV:FnScope ["self", "wants", "flags"] ["self", "wants", "flags"] (aI kA):=by walk_at "sc"
def xL(F:Fun K "__init__" "Lack.__init__" kA f fd)(G:Gs K mg w Zu Zz Zv Zx Z0 Zw Zy):FnOk P w K mg base CX0 1 f fd ["self", "wants", "flags"] (nA Zu):=by
 refine F.ok xV (λvs H Q E h=>?_) (λcdv A outer s H vs Q E hr h=>?_)
 ·obtain⟨ea,p,q,xs,ys,rfl,_⟩:=h;rfl
 obtain⟨ea,p,q,xs,ys,rfl,he,hp,hq,qq⟩:=h;refine⟨_,(@aD _ _ _ _ _ (dW (zS rfl G.c_TowerError G.t1_TowerError G.t2_TowerError G.t3_TowerError (aA (mv 0) (aA (bR iX rfl G.b_list eM (aA (mv 1) aB)) (aA (bR iX rfl G.b_list eM (aA (mv 2) aB)) aB))))) (@aD _ _ _ _ _ (xA (mv 0) (bR iX rfl G.b_list eM (aA (mv 1) aB)) rfl) (@aH _ _ _ (xA (mv 0) (bR iX rfl G.b_list eM (aA (mv 2) aB)) rfl)))),?_⟩;walk_at "go";intro l1 hl1;have s1:=aF hl1 (.lst xs)
 generalize upd H l1 (.lst xs)=H1 at s1 ⊢;have hq1:=aK s1 hq
 walk_at "go";intro l2 hl2;have s2:=s1.trans (aF hl2 (.lst ys))
 generalize upd H1 l2 (.lst ys)=H2 at s2 ⊢;have he2:=s2 _ _ he
 walk_at "go";refine⟨ea,[.ref l1,.ref l2],Zu,Zz,none,rfl,by show 2<=sizeLine;decide,he2,(λ_ z=>nomatch z),G.xc_Lack,?_⟩
 have hp2:=aK s2 hp
 walk_at "go";intro l3 hl3;have s3:=s2.trans (aF hl3 (.lst xs))
 have e3:(upd H2 l3 (.lst xs)) l3=_:=aE
 generalize upd H2 l3 (.lst xs)=H3 at s3 e3 ⊢;have he3:=s3 _ _ he
 walk_at "go";refine⟨ea,Zu,Zz,rfl,G.xc_Lack,G.xn_Lack_wants,.inl ⟨he3,λdx hdx=>?_⟩⟩;have nde:dx≠ea:=λz=>by rw[z,he3]at hdx;cases hdx
 have fr4:∀b u,b≠ea->H b=some u->(upd (upd H3 ea (eV ea Zu (some dx))) dx (xdO dx [("wants",.ref l3)])) b=some u:=λb u hb hu=>by
  have e:=s3 _ _ hu
  rw[aG (λz=>by rw[z,hdx]at e;cases e),aG hb]
  exact e
 have ee4:(upd (upd H3 ea (eV ea Zu (some dx))) dx (xdO dx [("wants",.ref l3)])) ea=some (eV ea Zu (some dx)):=by rw[aG nde.symm,aE]
 have ed4:(upd (upd H3 ea (eV ea Zu (some dx))) dx (xdO dx [("wants",.ref l3)])) dx=_:=aE
 have n3e:l3≠ea:=λz=>by rw[z,he3]at e3;cases e3
 have n3d:l3≠dx:=λz=>by rw[z,hdx]at e3;cases e3
 have el4:(upd (upd H3 ea (eV ea Zu (some dx))) dx (xdO dx [("wants",.ref l3)])) l3=some (.lst xs):=by rw[aG n3d,aG n3e];exact e3
 have hqe:q≠ea:=λz=>by rw[z]at hq;unfold rdL at hq;rw[he]at hq;cases hq
 have hq4:rdL (upd (upd H3 ea (eV ea Zu (some dx))) dx (xdO dx [("wants",.ref l3)])) q=some ys:=by
  have hq3:=aK s3 hq
  rw[aXP (λz=>by rw[z]at hq3;unfold rdL at hq3;rw[hdx]at hq3;cases hq3),aXP hqe]
  exact hq3
 generalize upd (upd H3 ea (eV ea Zu (some dx))) dx (xdO dx [("wants",.ref l3)])=H4 at fr4 ee4 ed4 el4 hq4 ⊢;walk_at "go";intro l4 hl4;have s5:=aF hl4 (.lst ys)
 have e5:(upd H4 l4 (.lst ys)) l4=_:=aE
 have ee5:=s5 _ _ ee4
 have ed5:=s5 _ _ ed4
 have el5:=s5 _ _ el4
 have n4d:l4≠dx:=λz=>by rw[z,ed4]at hl4;cases hl4
 have n4e:l4≠ea:=λz=>by rw[z,ee4]at hl4;cases hl4
 have h40:H l4=none:=by
  cases e:H l4 with
  |none=>rfl
  |some u=>rw[fr4 _ _ n4e e]at hl4;cases hl4
 generalize upd H4 l4 (.lst ys)=H5 at s5 e5 ee5 ed5 el5 ⊢;walk_at "go";refine⟨ea,Zu,Zz,rfl,G.xc_Lack,G.xn_Lack_flags,.inr ⟨dx,_,ee5,ed5,(by show 1<100;decide),?_⟩⟩
 refine qq dx l3 l4 _ (λb u hb hu=>?_) (none_of s3 hdx) nde (by rw[aG nde.symm];exact ee5) aE (by rw[aG n3d];exact el5) (by rw[aG n4d];exact e5) (none_of s2 hl3) h40
 have e:=s5 _ _ (fr4 b u hb hu)
 rw[aG (λz=>by have q9:=s3 _ _ hu;rw[z,hdx]at q9;cases q9)]
 exact e
def ctn(fs:List Nat)(c:Nat):Nat:=fs.countP λx=>decide (x=c)
def pN(aC:Addr):Sp:=λvs H Q E=>∃(a b:Addr) (kvs:List (Key×V)) (f:Nat->Option Int) (cws:List (List Nat)),vs=[.ref a,.ref b]/\Rd H a (.dK kvs)/\Lk kvs f/\rdL H b=some ((cws.map aP).map V.str)/\cws.length<=8/\(∀c∈cws,c.length<=7/\∀d∈c,aV d)/\
 (∀(r:Addr) (ps:List Addr) (fs:List Nat) (H':Hp),H r=none->Same H H'->H' r=some (.lst (ps.map V.ref))->(∀p∈ps,p≠r)->Lsts H H' ps ((List.range cws.length).map (hV cws fs))->fs.length=(wl cws).length->(∀(j:Nat) w g,(wl cws)[j]?=some w->fs[j]?=some g->g∈chW cws w)->(∀c,(ctn fs c:Int)<=aZ (cH (aZ f)) c)->Q (.ref r) H')/\
 (∀(dx:Addr) (H':Hp),Same H H'->E (.ref aC) (some dx) H')
def sc_hang_all:FnScope ["locker", "words", "choices", "left", "hung", "first", "asked", "free", "wants"] ["locker", "words"] (aI eD):=by walk_at "sc"
def aQK(F:Fun K "hang_all" "hang_all" eD f fd)(G:Gs K mg w Zu Zz Zv Zx Z0 Zw Zy)(c_choices_of:Cal P w K mg base 2 "choices_of" ["words"] lM)(c_plain_locker:Cal P w K mg base 1 "plain_locker" ["locker"] cU)(c_hoists_of:Cal P w K mg base 1 "hoists_of" ["words", "flags"] nI)(c_asked_from:Cal P w K mg base 1 "asked_from" ["first", "choices", "hung"] lP)(c_hang_along:Cal P w K mg base 1 "hang_along" ["flag", "asked", "hung"] lJ)(c_Lack_init:bJN P w K mg base 1 Zu ["self", "wants", "flags"] (nA Zu)):FnOk P w K mg base (CXr P w) 3 f fd ["locker", "words"] (pN Zu):=by
 refine F.okX sc_hang_all (λvs H Q E h=>?_) (λcdv A outer s H vs Q E hr h=>?_)
 ·obtain⟨a,b,kvs,f,cws,rfl,_⟩:=h;rfl
 obtain⟨a,b,kvs,f,cws,rfl,ha,lk,hb,h8,hL,q,qe⟩:=h;refine⟨_,(@aD _ _ _ _ _ (aM 2 sc_hang_all.nd (aU c_choices_of hr (by decide) rfl (aA (mv 1) aB))) (@aD _ _ _ _ _ (aM 3 sc_hang_all.nd (aU c_plain_locker hr (by decide) rfl (aA (mv 0) aB))) (@aD _ _ _ _ _ (@aXV _ _ 4 _ _ _ _ sc_hang_all.nd (by rfl) (by exact(Or.inr rfl)) zK (by rfl) (by walk_at "o")) (@aD _ _ _ _ _ (aZF (cJ PassesOwn.leaving rfl (nK (mv 2)) (aW (i:=5) sc_hang_all.nd rfl (Or.inr rfl)) (@aD _ _ _ _ _ (aM 6 sc_hang_all.nd (aU c_asked_from hr (by decide) rfl (aA (mv 5) (aA (mv 2) (aA (mv 4) aB))))) (@aD _ _ _ _ _ (aZF (dX (i:=7) sc_hang_all.nd rfl (Or.inl rfl) rfl (dQ3 (mv 6)) (eR (N:=["flag", "left"]) ["locker", "words", "choices", "left", "hung", "first", "asked", "free", "wants"] (aI eD) [none,some 3] rfl rfl rfl (λx h=>bP h) (by decide +kernel)) (by decide +kernel) rfl (by decide +kernel) (λ_ _ _ _=>(aW (i:=0) (show List.Nodup (["flag", "left"]:List Str) by decide +kernel) rfl (Or.inl rfl))) (λ_ _ _ _=>(fG (aX aZB (hX Cg Dv (aJ7 (Room.u1 hr)) (mv 1) (aA (mv 0) (aA aJ aB))) aJ (bB _)))) (λ_ _ _ _=>(mv 0)))) (@aD _ _ _ _ _ (bY (aX (cJF hr.units0) (mv 7) (cC aB) (bB _)) (@aD _ _ _ _ _ (aZF (dX (i:=8) sc_hang_all.nd rfl (Or.inl rfl) rfl (nK (mv 2)) (eR (N:=["want", "first", "asked", "hung"]) ["locker", "words", "choices", "left", "hung", "first", "asked", "free", "wants"] (aI eD) [none,some 5,some 6,some 4] rfl rfl rfl (λx h=>bP h) (by decide +kernel)) (by decide +kernel) rfl (by decide +kernel) (λ_ _ _ _=>(aW (i:=0) (show List.Nodup (["want", "first", "asked", "hung"]:List Str) by decide +kernel) rfl (Or.inl rfl))) (λ_ _ _ _=>(fG (PW.pt (pM (aX (eJL hr.units0) (mv 0) (mv 1) (bB _)) (jT (aX (dJR (Room.u1 hr)) (hX Cg Dv (cXQ (Room.u1 hr)) (mv 3) (aA (mv 0) aB)) (mv 2) (by rfl))))))) (λ_ _ _ _=>(mv 0)))) (@aH _ _ _ (vC nM rfl rfl rfl G.c_Lack G.xm_Lack c_Lack_init hr (by decide) (aA (mv 8) (aA (bV rfl (jS (dQ rfl G.s_FLAGS)) (eR (N:=["flag", "asked"]) ["locker", "words", "choices", "left", "hung", "first", "asked", "free", "wants"] (aI eD) [none,some 6] rfl rfl rfl (λx h=>bP h) (by decide +kernel)) (by decide +kernel) rfl (by decide +kernel) (λ_ _ _ _=>(aW (i:=0) (show List.Nodup (["flag", "asked"]:List Str) by decide +kernel) rfl (Or.inl rfl))) (λ_ _ _ _=>(fG (aX (eJJ (Room.u1 hr)) (mv 0) (mv 1) (by rfl)))) (λ_ _ _ _=>(mv 0))) aB))))) bF) (@aD _ _ _ _ _ (gM (Room.u1 hr) (mv 3) (bG bU (mv 7) aJ (λ_ _=>rfl)) (aQ pK (gH (Room.u1 hr) (mv 3) (bG bU (mv 7) aJ (λ_ _=>rfl)) (λ_ _=>rfl)) aJ) rfl) (@aH _ _ _ (dW (aU c_hang_along hr (by decide) rfl (aA (bG bU (mv 7) aJ (λ_ _=>rfl)) (aA (mv 6) (aA (mv 4) aB)))))))))))) (@aH _ _ _ (aR (aU c_hoists_of hr (by decide) rfl (aA (mv 1) (aA (bJ3 (bV rfl (nK (mv 2)) (eR (N:=["want", "hung"]) ["locker", "words", "choices", "left", "hung", "first", "asked", "free", "wants"] (aI eD) [none,some 4] rfl rfl rfl (λx h=>bP h) (by decide +kernel)) (by decide +kernel) rfl (by decide +kernel) (λ_ _ _ _=>(aW (i:=0) (show List.Nodup (["want", "hung"]:List Str) by decide +kernel) rfl (Or.inl rfl))) (λ_ _ _ _=>cK) (λ_ _ _ _=>(gH (Room.u1 hr) (mv 1) (mv 0) (λ_ _=>rfl))))) aB))))))))),?_⟩
 have h7:∀c∈cws,c.length<=7:=λc hc=>(hL c hc).1
 have hlw:(wl cws).length<=56:=Cc (bQF h7 _) (by omega)
 walk_at "go";refine⟨b,cws,rfl,hb,h8,h7,λac H1 hac s1 hch=>?_⟩;walk_at "go";refine⟨a,kvs,f,rfl,ha.elim (λe=>.inl (s1 _ _ e)) (λ⟨o,e⟩=>.inr ⟨o,s1 _ _ e⟩),lk,λal H2 hal s2 el=>?_⟩;walk_at "go";intro ah hah;have s3:=s2.trans (aF hah (.dT []))
 have eh3:(upd H2 ah (.dT [])) ah=_:=aE
 have el3:=aF hah (.dT []) _ _ el
 generalize upd H2 ah (.dT [])=H3 at s3 eh3 el3 ⊢;obtain⟨ds,dl,ed,hds⟩:=hch;rw[Cj]at ed;have ed3:=s3 _ _ ed
 walk_at "go";refine xJ ed3 λo=>?_;have fz:(upd H3 ac (.frz o (.dT (dM (wl cws) ds)))) ac=_:=aE
 have kl:(dM (wl cws) ds).length=(wl cws).length:=vD dl
 have nac:ah≠ac:=λz=>by have e:=s2 _ _ ed;rw[<-z,hah]at e;cases e
 have nla:al≠ac:=λz=>by rw[z,ed3]at el3;cases el3
 have nlh:al≠ah:=λz=>by rw[z,eh3]at el3;cases el3
 have s13:Same H1 H3:=s3
 have hah1:H1 ah=none:=none_of s2 hah
 generalize hn0:aZ (cH (aZ f))=n0;refine cQ6 (λi σ H'=>∃(m:List (Wt×Nat)) (kl2:List (Key×V)) (fl:Nat->Option Int) (v5 v6 v7 v8:Option V),σ=[some (.ref a),some (.ref b),some (.ref ac),some (.ref al),some (.ref ah),v5,v6,v7,v8]/\(∀p u,p≠ac->p≠al->p≠ah->H1 p=some u->H' p=some u)/\H' ac=some (.frz o (.dT (dM (wl cws) ds)))/\H' ah=some (.dT (gE m))/\H' al=some (.dK kl2)/\Lk kl2 fl/\kl2.length<=27/\m.map (·.1)=(wl cws).take i/\(∀v g,(v,g)∈m->g∈chW cws v)/\(∀c,aZ fl c=n0 c-(ctm m c:Int)/\0<=aZ fl c))
  ⟨[],_,cH (aZ f),_,_,_,_,rfl,λp u h1 h2 h3 hu=>by rw[aG h1];exact s13 _ _ hu,fz,by rw[aG nac];exact eh3,by rw[aG nla];exact el3,fV _,by unfold kvL;rw[Ab];exact iR _ _,rfl,(λv g hv=>nomatch hv),λc=>?_⟩ (λi σ H' _ ⟨_,_,_,_,_,_,_,_,_,e,_⟩=>e) ?_ ?_
 ·rw[hn0];refine⟨by show n0 c=n0 c-((0:Nat):Int);omega,?_⟩
  rw[<-hn0];show 0<=(cH (aZ f) c).getD 0
  unfold cH;split
  ·rename_i h;exact Int.le_of_lt h.2
  ·exact Int.le_refl 0
 ·rintro i kv bf σ H4 hkv hbf ⟨m,kl2,fl,v5,v6,v7,v8,rfl,fr,ec,eh,el4,lkl,l27,hk,hmc,hct⟩;have hi:i<(wl cws).length:=by rw[<-kl];exact(Ad.mp hkv).1
  have ew:(wl cws)[i]?=some (wl cws)[i]:=Aa hi
  have ekv:kv=(cZ (wl cws)[i],V.ref (ds[i]'(by omega))):=by
   unfold dM at hkv;rw[Fk,ew,Aa (show i<ds.length by omega)]at hkv
   exact(Bg hkv).symm
  rw[ekv]at hbf;have hnd:=rY cws cws.length
  have hfw:(wl cws)[i]∈wl cws:=Ce hi
  have htk:(wl cws).take (i+1)=(wl cws).take i++[(wl cws)[i]]:=by rw[Bh,ew];rfl
  have hfn:(wl cws)[i]∉m.map (·.1):=by
   rw[hk];intro z;obtain⟨j,hj,ej⟩:=Bu.mp z;rw[Br]at hj;rw[List.getElem_take]at ej;have:=(Ep hnd).mp ej
   omega
  have hml:m.length<=56:=by
   have e:m.length=(m.map (·.1)).length:=(Ab _).symm
   rw[e,hk,Br];omega
  have hmo:HungOk cws m:=⟨by rw[hk];exact hnd.sublist (Gj ..),λx hx=>List.mem_of_mem_take (by rw[<-hk];exact Ba.mpr ⟨x,hx,rfl⟩)⟩
  have hcr:ChRd H4 ac cws:=⟨ds,dl,.inr ⟨o,ec⟩,λj w d hw hd=>by
   have h1:=hds j w d (Ad.mp hw).1 hw hd
   exact fr d _ (λz=>by rw[z,ed]at h1;cases h1) (λz=>by rw[z,hal]at h1;cases h1) (λz=>by rw[z,hah1]at h1;cases h1) h1⟩
  replace hbf:H4 bf=some (.tup (wV (wl cws)[i])):=hbf
  clear ekv hkv;generalize (wl cws)[i]=first at hbf ew hfw htk hfn
  walk_at "go";refine⟨bf,ac,ah,cws,m,first,rfl,hbf,hfw,hcr,eh,hmo,hml,h8,hL,λpa A bs H5 hpa s5 ea wb hask=>?_⟩
  have el5:=s5 _ _ el4
  have hbl:bs.length=A.length:=by rw[wb.1,Ab]
  have hA27:=aJV hmo hfw hL hask.toAsking
  have hdl5:=oX el5
  walk_at "go";refine eXP ea λoa=>?_;have fza:(upd H5 pa (.frz oa (.dK (fH A bs)))) pa=_:=aE
  have nlp:al≠pa:=λz=>by rw[z,hpa]at el4;cases el4
  have elf:(upd H5 pa (.frz oa (.dK (fH A bs)))) al=_:=(aG nlp).trans el5
  refine gW (n:=A.length) (λD i ys Hc=>Same (upd H5 pa (.frz oa (.dK (fH A bs)))) Hc/\ys=((((A.take i).map (·.1)).filter λc=>decide (0<aZ fl c)).map one).map V.str) (bA (by omega)) (λD hD=>⟨aF hD _,rfl⟩) (λD i ys Hc _ r h=>⟨r.1 _ _ fza,by rw[tQ hbl];exact h⟩) (λD ys Hc _ r=>⟨r.1 _ _ fza,tQ hbl⟩) ?_ ?_
  ·rintro D i2 ys Hc x H' A' B' hD hi2 ⟨sm,rfl⟩ hDc ⟨rfl,kv,hkv,rfl⟩ hA' hB';have eA:A[i2]?=some A[i2]:=Aa hi2
   unfold fH at hkv;rw[Fk,eA,Aa (show i2<bs.length by omega)]at hkv
   cases hkv;have tk:A.take (i2+1)=A.take i2++[A[i2]]:=by rw[Bh,eA];rfl
   rw[tk,Ao,Fb]at hA' hB';generalize A[i2]=xa at hA' hB';have elc:=sm _ _ elf
   have hdc:=oX elc
   dsimp only[kV];walk_at "go";refine⟨Wk.set rfl (Wk.refl _),?_⟩;walk_at "go";refine bQY (z:=one xa.1) (.inl elc) ?_;rw[lkl.val xa.1,qG];walk_at "go";refine eJ (λhe=>?_) (λhe=>?_)
   ·have he':=Bd he
    walk_at "go";refine hA' _ _ hDc ⟨bJ hD sm,?_⟩;rw[show ([xa].map (·.1)).filter (λc=>decide (0<aZ fl c))=[xa.1] by simp[he'],List.map_append,List.map_append]
    rfl
   ·have he':=Bj (Bl.mpr he)
    walk_at "go";refine hB' _ hDc ⟨sm,?_⟩;rw[show ([xa].map (·.1)).filter (λc=>decide (0<aZ fl c))=[] by simp;omega,List.append_nil]
  ·rintro D ys Hc hD ⟨sm,rfl⟩ hDc _;rw[Cj]at hDc;have su:=tH ea (λo v z=>nomatch z) sm
   have eu:=eI (Hs:=H5) hDc (λo v z=>nomatch z)
   refine xD ?_;unfold cZF;dsimp only;generalize unf H5 Hc=H6 at su eu ⊢;have s46:=s5.trans su
   have ea6:=su _ _ ea
   have wb6:WtsAt H6 bs (A.map (·.2)):=wb.keep λr w h=>su _ _ h
   have ec6:=s46 _ _ ec
   have eh6:=s46 _ _ eh
   have el6:=s46 _ _ el4
   have hbf6:=s46 _ _ hbf
   have fr6:∀p u,p≠ac->p≠al->p≠ah->H1 p=some u->H6 p=some u:=λp u h1 h2 h3 hu=>s46 _ _ (fr p u h1 h2 h3 hu)
   have hD4:H4 D=none:=by
    have h5:H5 D=none:=by
     by_cases z:D=pa
     ·rw[z,aE]at hD;cases hD
     ·rw[aG z]at hD;exact hD
    exact none_of s5 h5
   clear sm hDc hD fza elf hdl5 el5;walk_at "go";refine⟨by decide,λpe hpe=>?_⟩
   refine aJR (neg:=false) (aK (aF hpe _) (aO eu)) cA (cE _) rfl ?_;have s67:=aF hpe (.lst [])
   generalize upd H6 pe (.lst [])=H7 at s67 ⊢;have en:∀xs:List V,iC xs []=xs.isEmpty:=λxs=>by cases xs<;>rfl
   rw[if_neg (by decide),en]
   cases hfr:(A.map (·.1)).filter (λc=>decide (0<aZ fl c)) with
   |nil=>
    rw[hfr]at eu;rw[show (List.map V.str (List.map one [])).isEmpty=true from rfl];have ec7:=s67 _ _ ec6
    have eh7:=s67 _ _ eh6
    have ea7:=s67 _ _ ea6
    have hbf7:=s67 _ _ hbf6
    have fr7:∀p u,p≠ac->p≠al->p≠ah->H1 p=some u->H7 p=some u:=λp u h1 h2 h3 hu=>s67 _ _ (fr6 p u h1 h2 h3 hu)
    clear eu wb6 hpe s67 fr6 fr ec6 eh6 ea6 hbf6 el6 su hD4 s46 hpa s5 ea wb el4 nlp;walk_at "go";refine cQ0 ec7 ?_;refine gW (n:=(wl cws).length) (λD i ys Hc=>Same H7 Hc/\∃rs:List Addr,ys=rs.map V.ref) (bA (by omega)) (λD hD=>⟨aF hD _,[],rfl⟩) (λD i ys Hc _ r h=>⟨r.1 _ _ ec7,by rw[kl];exact h⟩) (λD ys Hc _ r=>⟨r.1 _ _ ec7,kl⟩) ?_ ?_
    ·rintro D i2 ys Hc x H' A' B' hD hi2 ⟨sm,rs,rfl⟩ hDc ⟨rfl,kv,bk,hkv,rfl,hbk⟩ hA' hB';have ew2:(wl cws)[i2]?=some (wl cws)[i2]:=Aa hi2
     have ekv:kv=(cZ (wl cws)[i2],V.ref (ds[i2]'(by omega))):=by
      unfold dM at hkv;rw[Fk,ew2,Aa (show i2<ds.length by omega)]at hkv
      exact(Bg hkv).symm
     rw[ekv]at hbk;replace hbk:H' bk=some (.tup (wV (wl cws)[i2])):=hbk
     clear ekv hkv ew2;generalize (wl cws)[i2]=wx at hbk;have ehc:=sm _ _ eh7
     have eac:=sm _ _ ea7
     have hfc:=sm _ _ hbf7
     have yes:A' (.ref bk) H':=hA' _ _ hDc ⟨bJ hD sm,rs++[bk],by rw[Ao];rfl⟩
     have no:B' H':=hB' _ hDc ⟨sm,rs,rfl⟩
     clear hA' hB';walk_at "go";refine⟨Wk.set rfl (Wk.refl _),?_⟩;walk_at "go";refine eJ2 hbk hfc ?_;have hd2:decide ((wx.1:Int)=(first.1:Int)/\(wx.2:Int)=(first.2:Int))=decide (wx=first):=Dq.mpr ⟨λh=>Prod.ext (by omega) (by omega),λh=>by rw[h];exact⟨rfl,rfl⟩⟩
     rw[hd2];by_cases e:wx=first
     ·rw[Ap e];walk_at "go";exact yes
     ·rw[Ay e];have hdd:isD H' ah=true:=by unfold isD;rw[ehc]
      walk_at "go";refine bQG (k:=cZ wx) (.inl ehc) hbk ?_;rw[jW];cases eg:fK m wx with
      |none=>
       refine eXE (.inl eac) ?_;walk_at "go";exact no
      |some g=>
       refine cJW (z:=one g) (.inl eac) ?_;rw[kW hbl];refine eJ (λhg=>?_) (λhg=>?_)
       ·walk_at "go";exact yes
       ·walk_at "go";exact no
    ·rintro D ys Hc hD ⟨sm,rs,rfl⟩ hDc _;have su:=bZT sm
     have eu:=eI (Hs:=H7) hDc (λo v z=>nomatch z)
     refine xD ?_;unfold cZF;dsimp only;generalize unf H7 Hc=H8 at su eu ⊢;have ea8:=su _ _ ea7
     walk_at "go";refine aJM (λc=>if decide (c∈A.map (·.1))=true then some (.str (one c)) else none) (by decide) (λi3 c Hc2 A' B' hc sm2 hA'=>?_) (λD2 H9 hD2 s9 hr9=>?_)
     ·have r:=hA' _ (Same.refl _)
      walk_at "go";refine⟨Wk.set rfl (Wk.refl _),?_⟩;walk_at "go";refine cQ1 (z:=one c) (neg:=false) (.inl (sm2 _ _ ea8)) ?_;rw[if_neg (by decide),kW hbl]
      refine eJ (λhg=>?_) (λhg=>?_)
      ·rw[if_pos hg]at r;walk_at "go";exact r
      ·rw[if_neg hg]at r;exact r
     ·have eD9:=s9 _ _ eu
      walk_at "go";refine⟨by show 2<=sizeLine;decide,λea hea=>⟨ea,D,D2,_,_,rfl,aE,aK (aF hea _) (aO eD9),aK (aF hea _) (aO hr9),λdx l1 l2 H' frx hdx nde e1 e2 e3 e4 hl1 hl2=>⟨rfl,some dx,e1,?_⟩⟩⟩
      have go9:∀b u,H9 b=some u->(del H' ea) b=some u:=λb u hu=>by
       have nb:b≠ea:=λz=>by rw[z,hea]at hu;cases hu
       rw[iT nb];exact frx b u nb (by rw[aG nb];exact hu)
      have hto:∀b u,H b=some u->H9 b=some u:=λb u hu=>by
       refine s9 _ _ (su _ _ (fr7 b u (λz=>by rw[z,hac]at hu;cases hu) (λz=>?_) (λz=>?_) (s1 _ _ hu)))
       ·have:=s1 _ _ hu
        rw[z,hal]at this;cases this
       ·have:=s1 _ _ hu
        rw[z,hah1]at this;cases this
      exact qe dx (del H' ea) λb u hu=>go9 _ _ (hto b u hu)
   |cons f0 fr0=>
    rw[hfr]at eu;rw[show (List.map V.str (List.map one (f0::fr0))).isEmpty=false from rfl];have hf0m:f0∈(A.map (·.1)).filter (λc=>decide (0<aZ fl c)):=by rw[hfr];exact Ak
    rw[Dt,Ci]at hf0m;obtain⟨hf0A,hf0p⟩:=hf0m;obtain⟨n1,hn1⟩:∃n1,fl f0=some n1:=by
     cases e:fl f0 with
     |none=>rw[show aZ fl f0=0 by unfold aZ;rw[e];rfl]at hf0p;omega
     |some n=>exact⟨n,rfl⟩
    have hcn1:aZ fl f0=n1:=by unfold aZ;rw[hn1];rfl
    have el7:=s67 _ _ el6
    have ea7:=s67 _ _ ea6
    have eh7:=s67 _ _ eh6
    have ec7:=s67 _ _ ec6
    have eD7:=s67 _ _ eu
    have wb7:WtsAt H7 bs (A.map (·.2)):=wb6.keep λr w h=>s67 _ _ h
    have hdl7:=oX el7
    have at0:atI (List.map V.str (List.map one (f0::fr0))) 0=some (V.str (one f0)):=bD (show (List.map V.str (List.map one (f0::fr0)))[0]?=some (V.str (one f0)) from rfl)
    walk_at "go";refine cO (aO eD7) (v:=.str (one f0)) at0 ?_;walk_at "go";refine tO (z:=one f0) (.inl el7) (by rw[lkl.val f0,hn1];rfl) ?_
    walk_at "go";refine cO (aO eD7) (v:=.str (one f0)) at0 ?_;walk_at "go";refine lD (z:=one f0) el7 (bA (by omega)) ?_
    have nDl:D≠al:=λz=>by rw[z]at hD4;rw[hD4]at el4;cases el4
    have npl:pa≠al:=λz=>by rw[z]at hpa;rw[hpa]at el4;cases el4
    have nhl:ah≠al:=Ne.symm nlh
    have ncl:ac≠al:=Ne.symm nla
    have el8:(upd H7 al (.dK (cX kl2 (Sum.inr (one f0)) (V.int (n1-1))))) al=_:=aE
    have ea8:(upd H7 al (.dK (cX kl2 (Sum.inr (one f0)) (V.int (n1-1))))) pa=_:=(aG npl).trans ea7
    have eh8:(upd H7 al (.dK (cX kl2 (Sum.inr (one f0)) (V.int (n1-1))))) ah=_:=(aG nhl).trans eh7
    have ec8:(upd H7 al (.dK (cX kl2 (Sum.inr (one f0)) (V.int (n1-1))))) ac=_:=(aG ncl).trans ec7
    have eD8:(upd H7 al (.dK (cX kl2 (Sum.inr (one f0)) (V.int (n1-1))))) D=_:=(aG nDl).trans eD7
    have wb8:WtsAt (upd H7 al (.dK (cX kl2 (Sum.inr (one f0)) (V.int (n1-1))))) bs (A.map (·.2)):=wb7.keep λr w h=>by
     rw[aG (λz=>by rw[z,el7]at h;cases h)]
     exact h
    have fr8:∀p u,p≠ac->p≠al->p≠ah->H1 p=some u->(upd H7 al (.dK (cX kl2 (Sum.inr (one f0)) (V.int (n1-1))))) p=some u:=λp u h1 h2 h3 hu=>by
     rw[aG h2];exact s67 _ _ (fr6 p u h1 h2 h3 hu)
    generalize upd H7 al (.dK (cX kl2 (Sum.inr (one f0)) (V.int (n1-1))))=H8 at el8 ea8 eh8 ec8 eD8 wb8 fr8 ⊢;walk_at "go";refine cO (aO eD8) (v:=.str (one f0)) at0 ?_;walk_at "go";refine⟨pa,ah,cws,m,first,A,bs,f0,rfl,ea8,wb8,hask.toAsking,eh8,hmo.nd,hfn,hmc,hf0A,hml,λm' H9 fr9 eh9 hk9 hc9 hct9=>?_⟩
    walk_at "go";refine⟨m',_,_,_,_,_,_,rfl,λp u h1 h2 h3 hu=>fr9 p u h3 (fr8 p u h1 h2 h3 hu),fr9 _ _ (Ne.symm nac) ec8,eh9,fr9 _ _ nlh el8,lkl.put f0 (n1-1),?_,?_,hc9,λc=>?_⟩
    ·have hv:bT kl2 (Sum.inr (one f0))≠none:=by rw[lkl.val f0,hn1];exact λz=>nomatch z
     have e:=Dm List.length (aXG kl2 (Sum.inr (one f0)) (.int (n1-1)) hv)
     rw[Ab,Ab]at e;omega
    ·rw[hk9,hk,htk]
    ·have h1:=hct c
     have h2:=hct9 c
     have h3:aZ (λd=>if d=f0 then some (n1-1) else fl d) c=if c=f0 then n1-1 else aZ fl c:=by
      show ((if c=f0 then some (n1-1) else fl c):Option Int).getD 0=_
      by_cases z:c=f0
      ·rw[if_pos z,if_pos z];rfl
      ·rw[if_neg z,if_neg z];rfl
     rw[h3];by_cases z:c=f0
     ·subst z;rw[if_pos rfl]at h2 ⊢;omega
     ·rw[if_neg z]at h2 ⊢;omega
 ·rintro σ H4 ⟨m,kl2,fl,v5,v6,v7,v8,rfl,fr,ec,eh,el4,lkl,l27,hk,hmc,hct⟩;rw[kl,Cj]at hk;have ec5:=qO (Hs:=H3) ec (λo v z=>by rw[ed3]at z;cases z)
  have eh5:=eI (Hs:=H3) eh (λo v z=>nomatch z)
  have sh5:Same H (unf H3 H4):=λb u hu=>by
   have h1:=s1 _ _ hu
   have h4:=fr b u (λz=>by rw[z,hac]at hu;cases hu) (λz=>by rw[z,hal]at h1;cases h1) (λz=>by rw[z,hah1]at h1;cases h1) h1
   by_cases hf:∃o v,u=.frz o v
   ·obtain⟨o',v',rfl⟩:=hf;exact lC h4 (s13 _ _ h1)
   ·exact eI h4 λo v z=>hf ⟨o,v,z⟩
  unfold cZF;dsimp only;generalize unf H3 H4=H5 at ec5 eh5 sh5 ⊢;have hml:m.length=(wl cws).length:=by rw[<-hk,Ab]
  have hnd:(m.map (·.1)).Nodup:=by rw[hk];exact rY cws cws.length
  walk_at "go";refine xJ ec5 λo2=>?_;have fz2:(upd H5 ac (.frz o2 (.dT (dM (wl cws) ds)))) ac=_:=aE
  have eh6:(upd H5 ac (.frz o2 (.dT (dM (wl cws) ds)))) ah=_:=(aG nac).trans eh5
  refine gW (n:=(wl cws).length) (λD i ys Hc=>Same (upd H5 ac (.frz o2 (.dT (dM (wl cws) ds)))) Hc/\ys=(((m.take i).map (·.2)).map one).map V.str) (bA (by omega)) (λD hD=>⟨aF hD _,rfl⟩) (λD i ys Hc _ r h=>⟨r.1 _ _ fz2,by rw[kl];exact h⟩) (λD ys Hc _ r=>⟨r.1 _ _ fz2,kl⟩) ?_ ?_
  ·rintro D i2 ys Hc x H' A' B' hD hi2 ⟨sm,rfl⟩ hDc ⟨rfl,kv,bk,hkv,rfl,hbk⟩ hA' hB';have ew2:(wl cws)[i2]?=some (wl cws)[i2]:=Aa hi2
   have ekv:kv=(cZ (wl cws)[i2],V.ref (ds[i2]'(by omega))):=by
    unfold dM at hkv;rw[Fk,ew2,Aa (show i2<ds.length by omega)]at hkv
    exact(Bg hkv).symm
   rw[ekv]at hbk;have em:m[i2]?=some m[i2]:=Aa (by omega)
   have e1:m[i2].1=(wl cws)[i2]:=by
    have e0:(m.map (·.1))[i2]?=some (wl cws)[i2]:=by rw[hk];exact ew2
    rw[Ae,em]at e0;exact Bg e0
   have tk:m.take (i2+1)=m.take i2++[m[i2]]:=by rw[Bh,em];rfl
   rw[tk]at hA';replace hbk:H' bk=some (.tup ((cZ m[i2].1).map kV)):=by rw[e1];exact hbk
   have hval:bT (gE m) (cZ m[i2].1)=some (.str (one m[i2].2)):=by
    have hm2:(m[i2].1,m[i2].2)∈m:=Al em
    rw[jW,tM hnd hm2];rfl
   clear ekv hkv ew2 tk e1 em;generalize m[i2]=mx at hbk hA' hval;have ehc:=sm _ _ eh6
   walk_at "go";refine⟨Wk.set rfl (Wk.refl _),?_⟩;walk_at "go";refine aZ4 (k:=cZ mx.1) (.inl ehc) hbk hval ?_;refine hA' _ _ hDc ⟨bJ hD sm,?_⟩;rw[Ao,Ao,Ao];rfl
  ·rintro D ys Hc hD ⟨sm,rfl⟩ hDc _;rw[<-hml,Cj]at hDc;have su:=tH ec5 (λo v z=>nomatch z) sm
   have eu:=eI (Hs:=H5) hDc (λo v z=>nomatch z)
   generalize unf H5 Hc=H6 at su eu ⊢;have s06:=sh5.trans su
   refine⟨b,D,cws,m.map (·.2),rfl,aK s06 hb,aO eu,h8,h7,λr ps H7 hr s7 er hne hls=>?_⟩;refine q r ps (m.map (·.2)) H7 (none_of s06 hr) (s06.trans s7) er hne (hls.older s06) (by rw[Ab,hml]) (λj w g hw hg=>?_) (λc=>?_)
   ·rw[<-hk,Ae]at hw;rw[Ae]at hg;cases em:m[j]? with
    |none=>rw[em]at hw;cases hw
    |some x=>
     rw[em]at hw hg;cases hw;cases hg;exact hmc x.1 x.2 (Al em)
   ·rw[hn0];have h1:=hct c
    have h2:ctn (m.map (·.2)) c=ctm m c:=by
     unfold ctn ctm;rw[List.countP_map];rfl
    rw[h2];omega
def dQV{sep:Str}{n:Nat}:∀ {L:List Str},(∀z∈L,z.length<=n)->(Txt.join sep L).length<=(n+sep.length)*L.length
 |[],_=>Cy _
 |y::r,h=>by
  have hl:∀r:List Str,(∀z∈r,z.length<=n)->(r.map λy=>sep.cps.toList++y.cps.toList).flatten.length<=(n+sep.length)*r.length:=λr h=>by
   induction r with
   |nil=>exact Ai _
   |cons u v ih=>
    rw[Au,Co,Ag,Ag,Aw,dZ,dZ];have h1:=h u Ak
    have h2:=ih λx hx=>h x (Aj _ hx)
    rw[Nat.mul_succ];omega
  rw[<-dZ,aXC,Ag,dZ,Aw,Nat.mul_succ];have h1:=h y Ak
  have h2:=hl r λx hx=>h x (Aj _ hx)
  omega
def cQ(F:α->V):∀xs:List α,(List.range xs.length).filterMap (λj=>(xs[j]?).map F)=xs.map F:=λxs=>by
 have h:∀n,n<=xs.length->(List.range n).filterMap (λj=>(xs[j]?).map F)=(xs.take n).map F:=λn=>by
  induction n with
  |zero=>intro _;rfl
  |succ n ih=>
   intro hn;have e:xs[n]?=some xs[n]:=Aa (by omega)
   rw[fA (y:=F xs[n]) (by rw[e];rfl),ih (by omega),Bh,e,Ao]
   rfl
 have r:=h xs.length (Ai _)
 rw[Cj]at r;exact r
def fXL:Option (List Nat)->Str
 |none=>⟨#[45]⟩
 |some cs=>aP cs
def HalV(H:Hp)(v:V):Option (List Nat)->Prop
 |none=>v=.non
 |some cs=>∃p,v=.ref p/\H p=some (.lst ((cs.map one).map V.str))
def sS(hs:List (Option (List Nat))):Prop:=∀cs,some cs∈hs->cR (cs.map one)=true
structure HalsAt (H:Hp) (vs:List V) (hs:List (Option (List Nat))):Prop where
 len:vs.length=hs.length
 val:∀(j:Nat) v h,vs[j]?=some v->hs[j]?=some h->HalV H v h
def HalV.keep(a:HalV H v h)(s:∀p xs,H p=some (.lst xs)->v=.ref p->H' p=some (.lst xs)):HalV H' v h:=by
 cases h with
 |none=>exact a
 |some cs=>
  obtain⟨p,e,hp⟩:=a;exact⟨p,e,s p _ hp e⟩
def HalsAt.keep(a:HalsAt H vs hs)(s:Same H H'):HalsAt H' vs hs:=⟨a.len,λj v h hv hh=>(a.val j v h hv hh).keep λp xs hp _=>s _ _ hp⟩
def HalsAt.nil:HalsAt H [] []:=⟨rfl,λj v h hv=>nomatch hv⟩
def HalsAt.snoc{H:Hp}{vs:List V}{hs:Q4}{v:V}{h:Option (List Nat)}(a:HalsAt H vs hs)(b:HalV H v h):HalsAt H (vs++[v]) (hs++[h]):=by
 refine⟨by rw[Ag,Ag,a.len];rfl,λj x g hx hg=>?_⟩
 by_cases hj:j<vs.length
 ·rw[Aq hj]at hx;rw[Aq (by rw[<-a.len];exact hj)]at hg
  exact a.val j x g hx hg
 ·have e:j=vs.length:=by
   have:=(Ad.mp hx).1
   rw[Ag]at this;have:j<vs.length+1:=this
   omega
  subst e;rw[Ax (Ai _),El]at hx;rw[a.len,Ax (Ai _),El]at hg;cases hx;cases hg;exact b
def HalV.ne(hr:H r=some (.lst vs))(hj:vs[j]?=some v)(a:HalV H v h):v≠.ref r:=λz=>by
 cases h with
 |none=>rw[show v=.non from a]at z;cases z
 |some cs=>
  obtain⟨p,e,hp⟩:=a;rw[z]at e;cases e;rw[hr]at hp;cases hp;obtain⟨u,_,hu⟩:=dY hj;rw[z]at hu;cases hu
def HalsAt.put{us:List V}(hr:H r=some (.lst vs))(a:HalsAt H vs hs):HalsAt (upd H r (.lst us)) vs hs:=⟨a.len,λj v h hv hh=>(a.val j v h hv hh).keep λp xs hp e=>by
 rw[aG (λz=>(a.val j v h hv hh).ne hr hv (by rw[<-z];exact e))]
 exact hp⟩
def dQH{K:W.Frag}{g:TG}{tests:TT}{te:TE}{σ0:St}{H1:Hp}{hs:Q4}(ha:rdL H1 a=some xs)(hl:xs.length<sizeLine)(hx:xs.length=hs.length)(step:∀(i:Nat) x h Hc (A:VK) (B:Hp->Prop),xs[i]?=some x->hs[i]?=some h->Same H1 Hc->(∀v Hd,Same Hc Hd->HalV Hd v h->(∀p,v=.ref p->Hc p=none)->A v Hd)->
 g x σ0 Hc λσ2 H2=>Wk σ0 σ2/\tests σ2 H2 λb H3=>if b=true then te σ2 H3 A else B H3)(fin:∀D Hd vs,H1 D=none->Same H1 Hd->Hd D=some (.lst vs)->HalsAt Hd vs hs->(∀p,V.ref p∈vs->H1 p=none)->Q (.ref D) Hd):dI g tests te σ0 Q (Itl K a) H1:=by
 refine gW (n:=xs.length) (λD i ys Hc=>Same H1 Hc/\HalsAt Hc ys (hs.take i)/\∀p,V.ref p∈ys->H1 p=none) hl (λD hD=>⟨aF hD _,.nil,λp hp=>nomatch hp⟩)
  (λD i ys Hc _ r h=>⟨xs,xs[i],aY (aK r.1 ha),by simp[h]⟩) (λD ys Hc _ r=>⟨xs,aY (aK r.1 ha),Nat.le_refl _⟩) ?_ ?_
 ·rintro D i ys Hc x H' A B hD hi ⟨sm,at',fr⟩ hDc ⟨rfl,hz⟩ ha' hb;have hi2:i<hs.length:=by omega
  have eh:hs[i]?=some hs[i]:=Aa hi2
  refine step i x hs[i] H' A B (hz xs (aY (aK sm ha))) eh sm (λv Hd sd hv hn=>?_);refine ha' _ _ (sd _ _ hDc) ⟨bJ hD (sm.trans sd),?_,λp hp=>?_⟩
  ·rw[Bh,eh];refine HalsAt.snoc ((at'.keep sd).put (sd _ _ hDc)) (hv.keep λp zs hp e=>?_);rw[aG (λz=>by have:=hn p e;rw[z,hDc]at this;cases this)]
   exact hp
  ·rcases By.mp hp with e|e
   ·exact fr p e
   ·exact none_of sm (hn p (Am.mp e).symm)
 ·rintro D ys Hc hD ⟨sm,at',fr⟩ hDc _;rw[hx,Cj]at at';exact fin D Hc ys hD sm hDc at' fr
def cQ3{f:Nat->Option Int}(hf0:∀c,0<=aZ f c)(c:Nat):aZ (cH (aZ f)) c<=aZ f c:=by
 show (cH (aZ f) c).getD 0<=_
 unfold cH;split
 ·exact Int.le_refl _
 ·exact hf0 c
def tW{cws:Q6}:∀i,i<=cws.length->(wlP cws i).length=gF cws i
 |0,_=>rfl
 |i+1,h=>by
  have e:cws[i]?=some cws[i]:=Aa (by omega)
  rw[nF,Ag,tW i (by omega),vH e]
  unfold pG;rw[Ab,Bq,Ac,e];rfl
def eZT(hi:cws[i]?=some cw)(hk:k<cw.length):(wl cws)[gF cws i+k]?=some (i,1+k):=by
 have hil:=(Ad.mp hi).1
 have h:∀n,i<n->n<=cws.length->(wlP cws n)[gF cws i+k]?=some (i,1+k):=λn=>by
  induction n with
  |zero=>intro h;omega
  |succ n ih=>
   intro h1 h2;rw[nF];by_cases hn:i=n
   ·subst hn;have e:=tW (cws:=cws) i (by omega)
    rw[Ax (by omega),show gF cws i+k-(wlP cws i).length=k by omega]
    unfold pG;rw[Ae,Ac,hi];show ((List.range cw.length)[k]?).map _=_
    rw[List.getElem?_range hk];rfl
   ·have r:=ih (by omega) (by omega)
    rw[Aq (Ad.mp r).1];exact r
 exact h cws.length hil (Ai _)
def Hg(cw h:List Nat):Prop:=h.length=cw.length/\∀(k g:Nat),h[k]?=some g->g∈chs cw k
inductive Hgs:List (List Nat)->List (List Nat)->Prop
 |nil:Hgs [] []
 |cons {cw h:List Nat} {cws hs:Q6}:Hg cw h->Hgs cws hs->Hgs (cw::cws) (h::hs)
def yK(xs ys:List Nat)(c:Nat):ctn (xs++ys) c=ctn xs c+ctn ys c:=List.countP_append
def Hgs.perm{cws':Q6}(s:cws.Perm cws'):∀ {hs:Q6},Hgs cws hs->∃hs',Hgs cws' hs'/\∀c,ctn hs'.flatten c=ctn hs.flatten c:=by
 induction s with
 |nil=>intro hs h;exact⟨hs,h,λc=>rfl⟩
 |cons a s ih=>
  rintro _ (_|⟨h1,h2⟩);obtain⟨hs',p,q⟩:=ih h2;exact⟨_::hs',.cons h1 p,λc=>by rw[Co,yK,Co,yK,q c]⟩
 |swap a b l=>
  rintro _ (_|⟨h1,h2⟩);rcases h2 with _|⟨h2,h3⟩
  exact⟨_,.cons h2 (.cons h1 h3),λc=>by simp only[List.flatten_cons,yK];omega⟩
 |trans _ _ ih1 ih2=>
  intro hs h;obtain⟨h1,p1,q1⟩:=ih1 h;obtain⟨h2,p2,q2⟩:=ih2 p1;exact⟨h2,p2,λc=>(q2 c).trans (q1 c)⟩
def Hgs.at{hs:Q6}(h:Hgs cws hs):∀ {i:Nat} {cw:List Nat},cws[i]?=some cw->∃g,hs[i]?=some g/\Hg cw g:=by
 induction h with
 |nil=>intro i cw e;cases e
 |cons a b ih=>
  intro i cw e;cases i with
  |zero=>cases e;exact⟨_,rfl,a⟩
  |succ i=>exact ih e
def uL:List (List Nat)->List Nat->List (List Nat)
 |[],_=>[]
 |cw::r,fs=>fs.take cw.length::uL r (fs.drop cw.length)
def vJ:∀ {cws:Q6} {fs:List Nat},fs.length=(cws.map List.length).sum->(uL cws fs).flatten=fs
 |[],fs,h=>by rw[List.eq_nil_of_length_eq_zero h];rfl
 |cw::r,fs,h=>by
  rw[Au,En]at h;rw[uL,Co,vJ (by rw[Cq];omega),List.take_append_drop]
def aQH:∀ {cws:Q6} {fs:List Nat},fs.length=(cws.map List.length).sum->(∀(i k g:Nat) cw,cws[i]?=some cw->k<cw.length->fs[gF cws i+k]?=some g->g∈chs cw k)->Hgs cws (uL cws fs)
 |[],fs,h,_=>.nil
 |cw::r,fs,h,hc=>by
  rw[Au,En]at h;refine .cons ⟨by rw[Br];omega,λk g hk=>?_⟩ (aQH (by rw[Cq];omega) λi k g cw' hi hk hg=>?_)
  ·have hkl:k<cw.length:=by
    have:=(Ad.mp hk).1
    rw[Br]at this;omega
   rw[List.getElem?_take,if_pos hkl]at hk;exact hc 0 k g cw rfl hkl (by rw[show gF (cw::r) 0=0 from rfl,Nat.zero_add];exact hk)
  ·refine hc (i+1) k g cw' hi hk ?_;rw[List.getElem?_drop]at hg;rw[show gF (cw::r) (i+1)=cw.length+gF r i by unfold gF;rw[List.take_succ_cons,Au,En],Nat.add_assoc]
   exact hg
def cQY(cws:Q6):(wl cws).length=(cws.map List.length).sum:=by
 have h:=tW (cws:=cws) cws.length (Ai _)
 unfold gF at h;rw[Cj]at h;exact h
def eQQ(hl:fs.length=(wl cws).length)(hch:∀(j:Nat) w g,(wl cws)[j]?=some w->fs[j]?=some g->g∈chW cws w):Hgs cws (uL cws fs):=by
 refine aQH (hl.trans (cQY cws)) λi k g cw hi hk hg=>?_;have h:=hch _ _ g (eZT hi hk) hg
 unfold chW at h;rw[Ac,hi,show (i,1+k).2-1=k by show 1+k-1=k;omega]at h
 exact h
def aQ2:∀ {cws:Q6} {fs:List Nat} {i:Nat} {cw:List Nat},cws[i]?=some cw->(uL cws fs)[i]?=some ((fs.drop (gF cws i)).take cw.length)
 |[],_,i,_,h=>by cases h
 |c::r,fs,0,cw,h=>by cases h;rfl
 |c::r,fs,i+1,cw,h=>by
  show (uL r (fs.drop c.length))[i]?=_
  rw[aQ2 (show r[i]?=some cw from h),List.drop_drop];rfl
def dX6(cs:List Nat)(c:Nat):cnt cs c=(ctn cs c:Int):=by
 unfold cnt ctn;refine Dm (λn:Nat=>(n:Int)) (List.countP_congr λx _=>?_);simp
def eJA{c:Nat}(hL:∀d∈cw,aV d)(hk:k<cw.length)(h:c∈chs cw k):pZ c:=by
 rcases ch_iff.mp h with e|⟨m,_,h4,_,e⟩
 ·left
  rw[e,Ac,Aa hk];exact hL _ (Ce hk)
 ·right
  rw[e];unfold eG;omega
def dZ4:∀ {cws gs:Q6},Hgs cws gs->(∀c∈cws,1<=c.length/\c.length<=7/\∀d∈c,aV d)->(∀g∈gs,cR (g.map one)=true/\∀c∈g,pZ c)
 |_,_,.nil,_,g,hg=>nomatch hg
 |_,_,.cons (cw:=cw) (h:=h) a b,hW,g,hg=>by
  rcases Be.mp hg with e|e
  ·rw[e];obtain⟨h1,h7,hL⟩:=hW cw Ak;refine⟨bJ1 hL (by rw[a.1];exact h1) (by rw[a.1];exact h7) (by rw[a.1];exact Ai _) λk hk=>?_,λc hc=>?_⟩
   ·exact a.2 k _ (by rw[Ac,Aa hk];rfl)
   ·obtain⟨k,hk,ek⟩:=Bu.mp hc;exact eJA hL (by rw[<-a.1];exact hk) (a.2 k c (by rw[Aa hk,ek]))
  ·exact dZ4 b (λc hc=>hW c (Aj _ hc)) g e
def Hgs.lens:∀ {cws gs:Q6},Hgs cws gs->gs.length=cws.length
 |_,_,.nil=>rfl
 |_,_,.cons _ b=>by rw[Aw,Aw,b.lens]
def bXV{f:Nat->Option Int}(h:∀c,cnt cs c<=aZ f c):sR f cs cs.length:=λj d hj hd=>by
 have:=dJ6 hd
 have:=h d
 omega
def nQ(h:(ks.map λk=>V.int ((k:Nat):Int))[j]?=some x):∃k,ks[j]?=some k/\x=.int ((k:Nat):Int):=by
 rw[Ae]at h;cases e:ks[j]? with
 |none=>rw[e]at h;cases h
 |some k=>rw[e]at h;cases h;exact⟨k,rfl,rfl⟩
def HalsAt.get(a:HalsAt H vs hs)(hk:k<hs.length):∃v,atI vs (k:Int)=some v/\vs[k]?=some v/\HalV H v (hs.getD k none):=by
 have hv:k<vs.length:=by rw[a.len];exact hk
 refine⟨vs[k],bD (Aa hv),Aa hv,?_⟩;refine a.val k _ _ (Aa hv) ?_;rw[Ac,Aa hk];rfl
def cN(hs:List (Option (List Nat)))(ks:List Nat):List Nat:=ks.flatMap λk=>(hs.getD k none).getD []
def bZ6(hs:Q4)(A B:List Nat):cN hs (A++B)=cN hs A++cN hs B:=List.flatMap_append ..
def wA(ok:sS hs)(k:Nat):((hs.getD k none).getD []).length<=7:=by
 cases e:hs[k]? with
 |none=>rw[Ac,e];exact Cy _
 |some h=>
  rw[Ac,e];cases h with
  |none=>exact Cy _
  |some cs=>
   have:=iI (ok cs (Al e))
   rw[Ab]at this;exact this.2
def oS(ok:sS hs):∀ks:List Nat,(cN hs ks).length<=7*ks.length
 |[]=>Cy _
 |k::r=>by
  show (((hs.getD k none).getD [])++cN hs r).length<=_
  rw[Ag,Aw];have:=wA ok k
  have:=oS ok r
  omega
def pU:Sp:=λvs H Q _=>∃(a b:Addr) (us:List V) (hs:List (Option (List Nat))) (ks:List Nat),vs=[.ref a,.ref b]/\rdL H a=some us/\HalsAt H us hs/\sS hs/\rdL H b=some (ks.map λk=>V.int ((k:Nat):Int))/\ks.length<=7/\(∀k∈ks,k<hs.length)/\
 ∀(r:Addr) (H':Hp),H r=none->Same H H'->H' r=some (.lst (((cN hs ks).map one).map V.str))->Q (.ref r) H'
def sc_flags_on:FnScope ["halyards", "numbers", "flags", "number"] ["halyards", "numbers"] (aI mR):=by walk_at "sc"
def aQ8(F:Fun K "flags_on" "flags_on" mR f fd)(G:Gs K mg w Zu Zz Zv Zx Z0 Zw Zy):FnOk P w K mg base CX0 1 f fd ["halyards", "numbers"] pU:=by
 refine F.ok sc_flags_on (λvs H Q E h=>?_) (λcdv A outer s H vs Q E hr h=>?_)
 ·obtain⟨a,b,us,hs,ks,rfl,_⟩:=h;rfl
 obtain⟨a,b,us,hs,ks,rfl,ha,hat,ok,hb,h7,hk,q⟩:=h;refine⟨_,(@aD _ _ _ _ _ (aM 2 sc_flags_on.nd (cC aB)) (@aD _ _ _ _ _ (cJ Bm rfl (bO (mv 1)) (aW (i:=3) sc_flags_on.nd rfl (Or.inl rfl)) (@aH _ _ _ (bY (aX sL (bG bU (mv 0) (mv 3) (λ_ _=>rfl)) cP (bB _)) (@aH _ _ _ (dW (cB Ck Gb Gc cZK (mv 2) (aA (bG bU (mv 0) (mv 3) (λ_ _=>rfl)) aB)))) bF))) (@aH _ _ _ (aR (mv 2))))),?_⟩;walk_at "go";refine⟨by decide,λp hp=>?_⟩
 have sp:=aF hp (.lst [])
 have hb1:=aK sp hb
 walk_at "go";refine fQ (xs:=(ks.map λk=>V.int ((k:Nat):Int))) (λi σ H'=>∃v,σ=[some (.ref a),some (.ref b),some (.ref p),v]/\Same H H'/\H' p=some (.lst (((cN hs (ks.take i)).map one).map V.str)))
  ⟨_,rfl,sp,aE⟩ (λi σ H' _ ⟨_,_,e,_⟩=>aK e hb) ?_ ?_
 ·rintro i x σ H2 hx ⟨v,rfl,s2,e2⟩;obtain⟨k,hki,rfl⟩:=nQ hx;have hkl:=hk k (Al hki)
  obtain⟨u,au,_,hv⟩:=(hat.keep s2).get hkl;have r2:=aK s2 ha
  have ft:cN hs (ks.take (i+1))=cN hs (ks.take i)++(hs.getD k none).getD []:=by
   rw[Bh,hki,bZ6];show _++(_++[])=_
   rw[Cb]
  walk_at "go";refine cO r2 au ?_;walk_at "go";cases eh:hs.getD k none with
  |none=>
   rw[eh]at hv ft;rw[show u=.non from hv,show decide (V.non=V.non)=true from rfl];walk_at "go";exact⟨_,rfl,s2,by rw[ft];show _=some (HO.lst (((_++[]).map one).map V.str));rw[Cb];exact e2⟩
  |some cs=>
   have h7c:=wA ok k
   rw[eh]at hv ft h7c;obtain⟨pc,rfl,hpc⟩:=hv;rw[show decide (V.ref pc=V.non)=false from Ay (λz=>nomatch z)]
   have m2:=cI e2
   have rc:=aO hpc
   have l2:=oS ok (ks.take i)
   rw[Br]at l2;have hln:(((cN hs (ks.take i)).map one).map V.str).length+((cs.map one).map V.str).length<=sizeLine:=bH (by rw[Ab,Ab,Ab,Ab];have:cs.length<=7:=h7c;omega)
   walk_at "go";refine cO r2 au ?_;walk_at "go";refine⟨_,rfl,bJ hp s2,?_⟩;rw[aE,ft,Ao,Ao];rfl
 ·rintro σ H2 ⟨v,rfl,s2,e2⟩;rw[Bs (by rw[Ab];exact Ai _)]at e2
  walk_at "go";exact q p H2 hp s2 e2
def mean:List (Str×Str)->Str->Option Str
 |[],_=>none
 |b::r,w=>if b.1=w then some b.2 else mean r w
def bkK(bk:List (Str×Str)):List (Key×V):=bk.map λb=>(Sum.inr b.1,V.str b.2)
def pS:∀(bk:List (Str×Str)) (kv:List (Key×V)),(bk.map (·.1)).Nodup->(∀b∈bk,bT kv (Sum.inr b.1)=none)->∀w:Str,bT (fM kv (bkK bk)) (Sum.inr w)=((mean bk w).map V.str).or (bT kv (Sum.inr w))
 |[],kv,_,_,w=>by
  show bT kv (Sum.inr w)=_
  rfl
 |b::r,kv,nd,h,w=>by
  obtain⟨n1,n2⟩:=Cu.mp nd;replace n1:¬b.1∈r.map (·.1):=n1
  have hb:=h b Ak
  have e:∀j,bT (cX kv (Sum.inr b.1) (V.str b.2)) j=if j=Sum.inr b.1 then some (V.str b.2) else bT kv j:=λj=>by
   rw[zQ]
  show bT (fM (cX kv (Sum.inr b.1) (V.str b.2)) (bkK r)) (Sum.inr w)=_
  rw[pS r _ n2 (λc hc=>?_) w,e]
  ·show _=((if b.1=w then some b.2 else mean r w).map V.str).or _
   by_cases z:b.1=w
   ·subst z;rw [if_pos rfl,if_pos rfl];have:mean r b.1=none:=by
     clear e hb h nd n2;induction r with
     |nil=>rfl
     |cons c t ih=>
      show (if c.1=b.1 then _ else _)=none
      rw[if_neg (λz=>n1 (by rw[<-z];exact Ak))]
      exact ih λm=>n1 (Aj _ m)
    rw[this];rfl
   ·have z2:¬(Sum.inr w:Key)=Sum.inr b.1:=λk=>z (by injection k with k;exact k.symm)
    rw[if_neg z,if_neg z2]
  ·rw[e];rw[if_neg (λk=>n1 (by injection k with k;rw[<-k];exact Ba.mpr ⟨c,hc,rfl⟩))]
   exact h c (Aj _ hc)
def tU(nd:(bk.map (·.1)).Nodup)(w:Str):bT (fM [] (bkK bk)) (Sum.inr w)=(mean bk w).map V.str:=by
 rw[pS bk [] nd (λb _=>rfl) w];cases mean bk w<;>rfl
def zC(nd:(bk.map (·.1)).Nodup){b:Str×Str}(h:b∈bk):mean bk b.1=some b.2:=by
 induction bk with
 |nil=>cases h
 |cons c r ih=>
  obtain⟨n1,n2⟩:=Cu.mp nd;replace n1:¬c.1∈r.map (·.1):=n1
  show (if c.1=b.1 then some c.2 else mean r b.1)=some b.2
  rcases Be.mp h with z|z
  ·subst z;rw[if_pos rfl]
  ·rw[if_neg (λk=>n1 (by rw[k];exact Ba.mpr ⟨b,z,rfl⟩))]
   exact ih n2 z
def dX8{w m:Str}(h:mean bk w=some m):(w,m)∈bk:=by
 induction bk with
 |nil=>cases h
 |cons c r ih=>
  unfold mean at h;split at h
  ·rename_i e
   cases h;rw[<-e];exact Ak
  ·exact Aj _ (ih h)
def eQM(bk:List (Str×Str))(ws ms:List Str):Prop:=ws.length=ms.length/\∀(i:Nat) w,ws[i]?=some w->mean bk w=ms[i]?
def iS:Sp:=λvs H Q _=>∃(a b:Addr) (bk:List (Str×Str)) (ws:List Str),vs=[.ref a,.ref b]/\BkAt H a bk/\(bk.map (·.1)).Nodup/\(∀x∈bk,x.2.length<=100)/\rdL H b=some (ws.map V.str)/\ws.length<=1000/\1<=ws.length/\(∀(i:Nat) w,ws[i]?=some w->mean bk w≠none)/\
 ∀ms,1<=ws.length->eQM bk ws ms->∀H',Same H H'->Q (.str (Txt.join " " ms)) H'
def sc_text_said:FnScope ["book", "words", "meaning_of", "at", "word"] ["book", "words"] (aI gN):=by walk_at "sc"
def xT(F:Fun K "text_said" "text_said" gN f fd)(G:Gs K mg w Zu Zz Zv Zx Z0 Zw Zy):FnOk P w K mg base CX0 1 f fd ["book", "words"] iS:=by
 refine F.ok sc_text_said (λvs H Q E h=>?_) (λcdv A outer s H vs Q E hr h=>?_)
 ·obtain⟨a,b,bk,ws,rfl,_⟩:=h;rfl
 obtain⟨a,b,bk,ws,rfl,hbk,hnd,h100,hb,hwl,hw1',hall,q⟩:=h;refine⟨_,(@aD _ _ _ _ _ (bY (aX (cJF hr.units0) (mv 1) (cC aB) (bB _)) (@aH _ _ _ oF) bF) (@aD _ _ _ _ _ (aM 2 sc_text_said.nd (bR (zI rfl) rfl G.b_dict dQZ (aA (mv 0) aB))) (@aD _ _ _ _ _ (cJ Bm rfl (kZ rfl G.b_enumerate (aA (mv 1) aB)) (cY (K:=K) (i:=3) (j:=4) (by rfl) (by rfl) sc_text_said.nd (by rfl) (by exact(Or.inl rfl)) (by exact Or.inl rfl) (by rfl) (by exact(Or.inl rfl)) (by exact Or.inl rfl)) (@aH _ _ _ (bY (aX (aQZ (Room.u1 hr)) (mv 4) (mv 2) (by rfl)) (@aH _ _ _ oF) bF))) (@aH _ _ _ (aR (cB Cr PySem.F.slot_str_join PySem.F.type_str_join aJC eO (aA (bV rfl (bO (mv 1)) (eR (N:=["word", "meaning_of"]) ["book", "words", "meaning_of", "at", "word"] (aI gN) [none,some 2] rfl rfl rfl (λx h=>bP h) (by decide +kernel)) (by decide +kernel) rfl (by decide +kernel) (λ_ _ _ _=>(aW (i:=0) (show List.Nodup (["word", "meaning_of"]:List Str) by decide +kernel) rfl (Or.inl rfl))) (λ_ _ _ _=>cK) (λ_ _ _ _=>(gH (Room.u1 hr) (mv 1) (mv 0) (λ_ _=>rfl)))) aB))))))),?_⟩
 walk_at "go";refine⟨by decide,λpe hpe=>?_⟩
 have s1:=aF hpe (.lst [])
 have r1:rdL (upd H pe (.lst [])) pe=some []:=cA
 generalize upd H pe (.lst [])=H1 at s1 r1 ⊢;have hb1:=aK s1 hb
 refine aJR hb1 r1 (cE _) rfl ?_;rw[if_neg Ar];walk_at "go";cases ws with
 |nil=>exact absurd hw1' (by decide)
 |cons w0 wr=>
  rw[show iC (List.map V.str (w0::wr)) []=false from rfl];generalize hws:w0::wr=ws at hb hwl q hall hw1' hb1;have h1:1<=ws.length:=by rw[<-hws,Aw];omega
  clear hws;have bk1:=hbk.keep s1
  obtain⟨qs,b1,b2,b3⟩:=bk1;have hql:qs.length=(bkK bk).length:=by unfold bkK;rw[Ab,b2]
  walk_at "go";refine yX (kvs:=bkK bk) b1 ⟨hql,λj p kv hp hkv=>?_⟩ λr hr=>?_
  ·unfold bkK at hkv;rw[Ae]at hkv;cases e:bk[j]? with
   |none=>rw[e]at hkv;cases hkv
   |some u=>
    rw[e]at hkv;cases hkv;exact b3 j p u hp e
  ·have s2:=s1.trans (aF hr (.dK (fM [] (bkK bk))))
   have d2:(upd H1 r (.dK (fM [] (bkK bk)))) r=_:=aE
   generalize upd H1 r (.dK (fM [] (bkK bk)))=H2 at s2 d2 ⊢;have hb2:=aK s2 hb
   walk_at "go";refine qH (xs:=ws.map V.str) (λi σ H'=>∃v3 v4:Option V,σ=[some (.ref a),some (.ref b),some (.ref r),v3,v4]/\Same H2 H'/\∀(j:Nat) v,j<i->ws[j]?=some v->mean bk v≠none)
    ⟨_,_,rfl,Same.refl _,λj v hj=>absurd hj (Gd _)⟩ (λi σ H' _ ⟨_,_,_,e,_⟩=>aK e hb2) ?_ ?_
   ·rintro i x σ H3 pt hx ⟨v3,v4,rfl,s3,hfd⟩ hpt;obtain⟨w1,hw1,rfl⟩:=dY hx;have s4:=s3.trans (aF hpt (.tup [V.int ((0+i:Nat):Int),V.str w1]))
    have d4:=s4 _ _ d2
    walk_at "go";refine cQ1 (neg:=true) (z:=w1) (.inl d4) ?_;rw[tU hnd,if_pos rfl];walk_at "go";cases e:mean bk w1 with
    |none=>exact absurd e (hall i w1 hw1)
    |some m=>
     rw[show (Option.map V.str (some m)).isSome=true from rfl];walk_at "go";refine⟨_,_,rfl,s4,λj v hj hjv=>?_⟩;by_cases ej:j=i
     ·subst ej;rw[hw1]at hjv;cases hjv;rw[e];exact λz=>by cases z
     ·exact hfd j v (by omega) hjv
   ·rintro σ H3 ⟨v3,v4,rfl,s3,hfd⟩;have hwm:(ws.map V.str).length=ws.length:=Ab ..
    have d3:=s3 _ _ d2
    have hb3:=aK s3 hb2
    have all:∀w1∈ws,∃m,mean bk w1=some m:=λw1 hw=>by
     obtain⟨j,hj,e⟩:=Bu.mp hw;have:=hfd j w1 (by rw[hwm];exact hj) (by rw[Aa hj,e])
     cases e2:mean bk w1 with
     |none=>exact absurd e2 this
     |some m=>exact⟨m,rfl⟩
    walk_at "go";refine kG (xs:=ws.map V.str) (λx=>match x with|.str z=>(mean bk z).map V.str|_=>none) hb3 (by rw[hwm];exact bA (by omega)) (λi x Hc A B hx sm hA=>?_) (λD Hd hD sD hd=>?_)
    ·obtain⟨w1,hw1,rfl⟩:=dY hx;obtain⟨m,hm⟩:=all w1 (Al hw1);walk_at "go";refine⟨Wk.set rfl (Wk.refl _),?_⟩;walk_at "go";refine tO (z:=w1) (.inl (sm _ _ d3)) (by rw[tU hnd,hm];rfl) ?_
     have r:=hA _ (Same.refl _)
     simp only[hm]at r;exact r
    ·have said:eQM bk ws (ws.filterMap (mean bk))/\(ws.map V.str).filterMap (λx=>match x with | .str z=>(mean bk z).map V.str | _=>none)=(ws.filterMap (mean bk)).map V.str:=by
      clear hfd hb hb1 hb2 hb3 q hall hw1' hwl h1 hwm hd sD hD;induction ws with
      |nil=>exact⟨⟨rfl,λi w h=>by cases h⟩,rfl⟩
      |cons w1 t ih=>
       obtain⟨m,hm⟩:=all w1 Ak;obtain⟨⟨i1,i2⟩,i3⟩:=ih λv hv=>all v (Aj _ hv);rw[Bi hm];refine⟨⟨by rw[Aw,Aw,i1],λi w hw=>?_⟩,?_⟩
       ·cases i with
        |zero=>cases hw;exact hm
        |succ i=>exact i2 i w (by simpa using hw)
       ·rw[Au,Bi (b:=V.str m) (by show (mean bk w1).map V.str=_;rw[hm];rfl),i3]
        rfl
     rw[said.2]at hd;have hml:∀m∈ws.filterMap (mean bk),m.length<=100:=λm hm=>by
      obtain⟨w1,_,e⟩:=Ca.mp hm;exact h100 _ (dX8 e)
     have hsl:(ws.filterMap (mean bk)).length=ws.length:=said.1.1.symm
     have sums:∀ms:List Str,(∀m∈ms,m.length<=100)->(ms.map (·.length)).sum<=100*ms.length:=λms h=>by
      induction ms with
      |nil=>exact Ai _
      |cons m t ih=>
       rw[Au,En,Aw];have h1:=h m Ak
       have h2:=ih λx hx=>h x (Aj _ hx)
       omega
     have hsum:=sums _ hml
     walk_at "go";refine aZK (aO hd) (by rw[show (Str.ofString " ").length=1 from rfl];omega) ?_
     exact q _ h1 said.1 Hd (s2.trans (s3.trans sD))
def fZ(z:Str):Bool:=if z.length<1\/10<z.length then false else z.cps.toList.all λc=>decide (c∈tmsT.cps.toList)
abbrev dH(z:Str):List Str:=Txt.split z (Str.ofString " ")
def dXR(z:Str)(n:Int):Bool:=decide (((dH z).length:Int)<=n)&&(dH z).all fZ
def bXP{y:Str}(h:y∈dH z):y.length<=z.length:=by
 have:=PySem.join_mem_le (Str.ofString " ") (dH z) y h
 rw[StrLaws.join_split]at this;exact this
def aXY(z:Str):(dH z).length<=z.length+2:=by
 unfold dH Txt.split;split
 ·show 1<=_;omega
 ·split
  ·show 1<=_;omega
  ·rw[PySem.length_partsBetween];have e1:=StrLaws.occ_length_le z (Str.ofString " ") 0 z.length (z.length+1)
   omega
def tE:Sp:=λvs H Q _=>∃z,vs=[.str z]/\z.length<=1000/\∀H',Same H H'->Q (.bl (fZ z)) H'
def gA:Sp:=λvs H Q _=>∃z n,vs=[.str z,.int n]/\z.length<=1000/\∀H',Same H H'->Q (.bl (dXR z n)) H'
def aZQ:FnScope ["text"] ["text"] (aI oJ):=by walk_at "sc"
def aZX(F:Fun K "is_term" "is_term" oJ f fd)(G:Gs K mg w Zu Zz Zv Zx Z0 Zw Zy):FnOk P w K mg base CX0 1 f fd ["text"] tE:=by
 refine F.ok aZQ (λvs H Q E h=>?_) (λcdv A outer s H vs Q E hr h=>?_)
 ·obtain⟨z,rfl,_⟩:=h;rfl
 obtain⟨z,rfl,hl,q⟩:=h;refine⟨_,(@aD _ _ _ _ _ (bY (PW.pt (pM (aX aQJ (aS bZ rfl G.b_len bK (aA (mv 0) aB)) aJ (bB _)) (jT (aX aZB (aS bZ rfl G.b_len bK (aA (mv 0) aB)) (qI rfl G.s_LONGEST_TERM) (bB _))))) (@aH _ _ _ (aR eQ)) bF) (@aH _ _ _ (aR (aS (aQW rfl) rfl G.b_all sY (aA (bV rfl (jS (mv 0)) (fN (N:=["sign"]) (by decide +kernel) (by decide +kernel)) (by decide +kernel) rfl (by decide +kernel) (λ_ _ _ _=>(aW (i:=0) (show List.Nodup (["sign"]:List Str) by decide +kernel) rfl (Or.inl rfl))) (λ_ _ _ _=>cK) (λ_ _ _ _=>(fD aQ9 (mv 0) (dQ rfl G.s_TERM_LETTERS) (by rfl)))) aB))))),?_⟩
 walk_at "go";refine eJ (λhc=>?_) (λhc=>?_)
 ·walk_at "go";have e:fZ z=false:=if_pos (.inl (by have:=Bd hc;omega))
  have r:=q H (Same.refl H)
  rw[e]at r;exact r
 ·have hc':=Bj (Bl.mpr hc)
  walk_at "go";refine eJ (λhd=>?_) (λhd=>?_)
  ·walk_at "go";have e:fZ z=false:=if_pos (.inr (by have:=Bd hd;omega))
   have r:=q H (Same.refl H)
   rw[e]at r;exact r
  ·have hd':=Bj (Bl.mpr hd)
   walk_at "go";refine aXX (λc=>some (.bl (decide (c∈tmsT.cps.toList)))) (bA (by omega)) (λi c Hc A B hc' hA=>?_) (λD hD=>?_)
   ·walk_at "go";refine⟨Wk.set rfl (Wk.refl _),?_⟩;walk_at "go";have e:subIn ⟨#[c]⟩ tmsT=decide (c∈tmsT.cps.toList):=lA _ _
    show A (.bl (subIn ⟨#[c]⟩ tmsT)) Hc
    rw[e];exact hA
   ·walk_at "go";have e:z.cps.toList.filterMap (λc=>some (V.bl (decide (c∈tmsT.cps.toList))))=(z.cps.toList.map λc=>decide (c∈tmsT.cps.toList)).map V.bl:=by
     rw[Bt];exact iK _ _
    rw[e];have sm:Same H (upd H D (.lst ((z.cps.toList.map λc=>decide (c∈tmsT.cps.toList)).map V.bl))):=aF hD _
    refine zD (bs:=z.cps.toList.map λc=>decide (c∈tmsT.cps.toList)) cA ?_;have e2:fZ z=(z.cps.toList.map λc=>decide (c∈tmsT.cps.toList)).all id:=by
     unfold fZ;rw[if_neg (by omega),Hi]
     rfl
    have r:=q _ sm
    rw[e2]at r;exact r
def sc_is_row_of_terms:FnScope ["text", "most", "terms"] ["text", "most"] (aI eL):=by walk_at "sc"
def lZ(F:Fun K "is_row_of_terms" "is_row_of_terms" eL f fd)(G:Gs K mg w Zu Zz Zv Zx Z0 Zw Zy)(c_is_term:Cal P w K mg base 1 "is_term" ["text"] tE):FnOk P w K mg base CX0 2 f fd ["text", "most"] gA:=by
 refine F.ok sc_is_row_of_terms (λvs H Q E h=>?_) (λcdv A outer s H vs Q E hr h=>?_)
 ·obtain⟨z,n,rfl,_⟩:=h;rfl
 obtain⟨z,n,rfl,hl,q⟩:=h;refine⟨_,(@aD _ _ _ _ _ (aM 2 sc_is_row_of_terms.nd (cB Cr Gv Gw xI (mv 0) (@eP _ _ _ _ _ _ aB))) (@aH _ _ _ (aR (yD (fD fQX (aS bZ rfl G.b_len bK (aA (mv 2) aB)) (mv 1) (bB _)) (aXO (aS (aQW rfl) rfl G.b_all sY (aA (bV rfl (bO (mv 2)) (fN (N:=["term"]) (by decide +kernel) (by decide +kernel)) (by decide +kernel) rfl (by decide +kernel) (λ_ _ _ _=>(aW (i:=0) (show List.Nodup (["term"]:List Str) by decide +kernel) rfl (Or.inl rfl))) (λ_ _ _ _=>cK) (λ_ _ _ _=>(aU c_is_term hr (by decide) rfl (aA (mv 0) aB)))) aB))))))),?_⟩
 walk_at "go";refine xN rfl (by omega) λr hr=>?_
 have s1:=aF hr (.lst ((dH z).map V.str))
 have r1:rdL (upd H r (.lst ((dH z).map V.str))) r=some ((dH z).map V.str):=cA
 show jL _ _ _ (upd H r (.lst ((dH z).map V.str))) _
 generalize upd H r (.lst ((dH z).map V.str))=H1 at s1 r1 ⊢;have hpl:((dH z).map V.str).length=(dH z).length:=Ab ..
 have hpm:=aXY z
 walk_at "go";rw[hpl];unfold dXR at q;refine eJ (λhc=>?_) (λhc=>?_)
 ·rw[show decide (((dH z).length:Int)<=n)=true from hc,Fz]at q;walk_at "go";refine kG (xs:=(dH z).map V.str) (λx=>match x with|.str y=>some (.bl (fZ y))|_=>none) r1 (by rw[hpl];exact bA (by omega)) (λi x Hc A B hx sm hA=>?_) (λD Hd hD sD hd=>?_)
  ·obtain⟨y,hy,rfl⟩:=dY hx;walk_at "go";refine⟨Wk.set rfl (Wk.refl _),?_⟩;walk_at "go";refine⟨y,rfl,by have:=bXP (Al hy);omega,λH2 s2=>?_⟩
   exact hA _ s2
  ·have e:((dH z).map V.str).filterMap (λx=>match x with | .str y=>some (V.bl (fZ y)) | _=>none)=((dH z).map fZ).map V.bl:=by
    rw[Gg,Bt];exact iK (λy=>V.bl (fZ y)) _
   rw[e]at hd;walk_at "go";refine zD (bs:=(dH z).map fZ) (aO hd) ?_;have r:=q Hd (s1.trans sD)
   rw[show ((dH z).map fZ).all id=(dH z).all fZ by rw[Hi];rfl]
   exact r
 ·have hc':decide (((dH z).length:Int)<=n)=false:=Bl.mpr hc
  rw[hc',Fs]at q;exact q _ s1
def bQ6{t:List Nat}(h:eF t):fZ (aP t)=true:=by
 unfold fZ;rw[bW,if_neg (by have:=h.1;have:=h.2.1;omega),cF,Bo]
 intro c hc;have:=h.2.2 c hc
 refine Ap ?_;have q:∀k:_root_.Fin 26,(97+k.val)∈tmsT.cps.toList:=by decide +kernel
 unfold dXX at this;have e:=q ⟨c-97,by omega⟩
 rwa [show 97+(c-97)=c by omega]at e
def sF{ts:Q6}(h1:1<=ts.length)(h:∀t∈ts,eF t):dH (bI ts)=ts.map aP:=by
 refine aXM (L:=ts.map aP) (λz=>?_) (λz hz=>?_)
 ·rw[List.map_eq_nil_iff]at z;rw[z]at h1;exact absurd h1 (by decide)
 ·obtain⟨t,ht,rfl⟩:=Ba.mp hz;rw[cF];intro m;have:=(h t ht).2.2 32 m
  unfold dXX at this;omega
def pE(ts:Q6)(h:∀t∈ts,eF t):(bI ts).length<=11*ts.length:=by
 have e:=PySem.StrLaws.join_length_le (Str.ofString " ") (ts.map aP)
 have e2:bI ts=Str.join (Str.ofString " ") (ts.map aP):=Dd _ _
 have s1:=wJ ts h
 rw[e2];rw[Ab,show (Str.ofString " ").length=1 from rfl]at e;omega
def aQU(H:Hp)(r:Addr)(ts:List (List Nat)):Prop:=H r=some (.lst ((ts.map aP).map V.str))
def pJ:Sp:=λvs H Q _=>∃ts:List (List Nat),vs=[.str (bI ts)]/\1<=ts.length/\ts.length<=40/\(∀t∈ts,eF t)/\∀(r:Addr) (H':Hp),H r=none->Same H H'->aQU H' r ts->Q (.ref r) H'
def aQE:FnScope ["text"] ["text"] (aI mH):=by walk_at "sc"
def aXF(F:Fun K "terms_of" "terms_of" mH f fd)(G:Gs K mg w Zu Zz Zv Zx Z0 Zw Zy)(c_is_row_of_terms:Cal P w K mg base 2 "is_row_of_terms" ["text", "most"] gA):FnOk P w K mg base CX0 3 f fd ["text"] pJ:=by
 refine F.ok aQE (λvs H Q E h=>?_) (λcdv A outer s H vs Q E hr h=>?_)
 ·obtain⟨ts,rfl,_⟩:=h;rfl
 obtain⟨ts,rfl,h1,h40,hT,q⟩:=h;refine⟨_,(@aD _ _ _ _ _ (bY (xW (fY (aU c_is_row_of_terms hr (by decide) rfl (aA (mv 0) (aA (qI rfl G.s_MOST_TERMS) aB))))) (@aH _ _ _ oF) bF) (@aH _ _ _ (aR (cB Cr Gv Gw xI (mv 0) (@eP _ _ _ _ _ _ aB))))),?_⟩
 have hl:=pE ts hT
 have hp:=sF h1 hT
 have hr:dXR (bI ts) 40=true:=by
  unfold dXR;rw[hp,Ab,Ap (by omega),Fz,Bo]
  intro z hz;obtain⟨t,ht,rfl⟩:=Ba.mp hz;exact bQ6 (hT t ht)
 walk_at "go";refine⟨bI ts,40,rfl,by omega,λH1 s1=>?_⟩
 rw[hr];walk_at "go";refine xN rfl (by omega) λr hr1=>?_
 rw[show Txt.split (bI ts) (Str.ofString " ")=ts.map aP from hp];exact q r _ (none_of s1 hr1) (s1.trans (aF hr1 _)) aE
def MsAt(H:Hp)(r:Addr)(mss:List (List (List Nat))):Prop:=∃ps:List Addr,H r=some (.lst (ps.map V.ref))/\ps.length=mss.length/\∀(j:Nat) p ms,ps[j]?=some p->mss[j]?=some ms->aQU H p ms
def MsAt.keep(h:MsAt H r mss)(s:Same H H'):MsAt H' r mss:=by
 obtain⟨ps,h1,h2,h3⟩:=h;exact⟨ps,s _ _ h1,h2,λj p ms hp hm=>s _ _ (h3 j p ms hp hm)⟩
def cV(bk:List (Str×Str))(mss:List (List (List Nat))):Prop:=mss.length=bk.length/\∀(j:Nat) b ms,bk[j]?=some b->mss[j]?=some ms->b.2=bI ms/\1<=ms.length/\ms.length<=5/\∀t∈ms,eF t
def cQJ(h:GoodBk bk):∃mss,cV bk mss:=by
 have hm:=h.mean
 clear h;induction bk with
 |nil=>exact⟨[],rfl,λj b ms hb=>by cases hb⟩
 |cons b r ih=>
  obtain⟨ms,e,h1,h5,hT⟩:=hm b Ak;obtain⟨mss,hl,hh⟩:=ih λc hc=>hm c (Aj _ hc);refine⟨ms::mss,by rw[Aw,Aw,hl],λj c us hc hu=>?_⟩
  cases j with
  |zero=>cases hc;cases hu;exact⟨e,h1,h5,hT⟩
  |succ j=>exact hh j c us (by simpa using hc) (by simpa using hu)
def kK:Sp:=λvs H Q _=>∃(a:Addr) (bk:List (Str×Str)) (mss:List (List (List Nat))),vs=[.ref a]/\BkAt H a bk/\bk.length<=60/\cV bk mss/\∀(r:Addr) (H':Hp),H r=none->Same H H'->MsAt H' r mss->Q (.ref r) H'
def qR:FnScope ["book"] ["book"] (aI gP):=by walk_at "sc"
def rG(F:Fun K "meanings_of" "meanings_of" gP f fd)(G:Gs K mg w Zu Zz Zv Zx Z0 Zw Zy):FnOk P w K mg base CX0 1 f fd ["book"] kK:=by
 refine F.ok qR (λvs H Q E h=>?_) (λcdv A outer s H vs Q E hr h=>?_)
 ·obtain⟨a,bk,mss,rfl,_⟩:=h;rfl
 obtain⟨a,bk,mss,rfl,hbk,h60,hms,q⟩:=h;refine⟨_,(@aH _ _ _ (aR (bV rfl (bO (mv 0)) (fN (N:=["word", "meaning"]) (by decide +kernel) (by decide +kernel)) (by decide +kernel) rfl (by decide +kernel) (λ_ _ _ _=>(cY (K:=K) (i:=0) (j:=1) (by rfl) (by rfl) (show List.Nodup (["word", "meaning"]:List Str) by decide +kernel) (by rfl) (by exact Or.inl rfl) (by exact Or.inr rfl) (by rfl) (by exact Or.inl rfl) (by exact Or.inr rfl))) (λ_ _ _ _=>cK) (λ_ _ _ _=>(cB Cr Gv Gw xI (mv 1) (@eP _ _ _ _ _ _ aB)))))),?_⟩
 obtain⟨qs,b1,b2,b3⟩:=id hbk;have rq:=aO b1
 have hql:(qs.map V.ref).length=bk.length:=by rw[Ab,b2]
 walk_at "go";refine gW (n:=bk.length) (λD i ys Hc=>Same H Hc/\∃ps:List Addr,ys=ps.map V.ref/\ps.length=i/\∀(j:Nat) p ms,ps[j]?=some p->mss[j]?=some ms->p≠D/\aQU Hc p ms) (bA (by omega)) (λD hD=>⟨aF hD _,[],rfl,rfl,λj p ms hp=>by cases hp⟩) (λD i ys Hc hD r hi=>?_) (λD ys Hc hD r=>?_) ?_ (λD ys Hc hD r hDc hyl=>?_)
 ·exact⟨_,(qs.map V.ref)[i]'(by omega),aY (aK r.1 rq),Aa _⟩
 ·exact⟨_,aY (aK r.1 rq),by omega⟩
 ·rintro D i ys Hc x H' A B hD hi ⟨sm,ps,rfl,hpl,hps⟩ hDc y hA hB;obtain⟨rfl,hx⟩:=y;have hx':=hx _ (aY (aK sm rq))
  rw[Ae]at hx';have hq:qs[i]?=some (qs[i]'(by omega)):=Aa _
  rw[hq]at hx';cases hx';have hbi:bk[i]?=some bk[i]:=Aa hi
  have tp:=sm _ _ (b3 i _ _ hq hbi)
  obtain⟨ms,hmi⟩:∃ms,mss[i]?=some ms:=⟨_,Aa (by rw[hms.1];exact hi)⟩
  obtain⟨e2,m1,m5,mT⟩:=hms.2 i _ ms hbi hmi;have hl:=pE ms mT
  have hp:=sF m1 mT
  rw[e2]at tp;have tpl:=dE tp
  walk_at "go";refine⟨Wk.set rfl (Wk.set rfl (Wk.refl _)),?_⟩;walk_at "go";refine xN rfl (by omega) λp5 hp5=>?_
  rw[show Txt.split (bI ms) (Str.ofString " ")=ms.map aP from hp];have nD:p5≠D:=λz=>by rw[z,hDc]at hp5;cases hp5
  refine hA (.ref p5) _ (by rw[aG (Ne.symm nD)];exact hDc) ⟨?_,ps++[p5],by rw[Ao];rfl,by rw[Ag,hpl];rfl,λj p us hpj hmj=>?_⟩
  ·refine bJ hD (sm.trans (aF hp5 _))
  ·by_cases hj:j<ps.length
   ·rw[Aq hj]at hpj;obtain⟨n1,t1⟩:=hps j p us hpj hmj;refine⟨n1,?_⟩;unfold aQU at t1 ⊢;rw[aG n1];exact aF hp5 _ _ _ t1
   ·have ej:j=ps.length:=by
     have:=(Ad.mp hpj).1
     rw[Ag]at this;have:j<ps.length+1:=this
     omega
    subst ej;rw[Ax (Ai _),El]at hpj;cases hpj;rw[hpl,hmi]at hmj;cases hmj;refine⟨nD,?_⟩;unfold aQU;rw[aG nD,aE]
 ·obtain⟨sm,ps,rfl,hpl,hps⟩:=r;exact q D Hc hD sm ⟨ps,hDc,by rw[hpl,hms.1],λj p ms hp hm=>(hps j p ms hp hm).2⟩
def aX1:∀xs:List V,xs.all cM=true->iC xs xs=true:=λxs h=>by
 rw[kQ rfl,Bo];intro i hi;have f:=iE h i
 generalize xs.getD i .non=x at f ⊢;cases x with
 |non=>rfl
 |bl b=>show (b==b)=true;simp
 |int i=>show (i==i)=true;simp
 |str z=>show (z==z)=true;simp
 |_=>cases f
def bXH(xs ys:List Str):iC (xs.map V.str) (ys.map V.str)=decide (xs=ys):=by
 by_cases e:xs=ys
 ·subst e;rw[aX1 _ (cE _),Ap rfl]
 ·rw[Ay e];by_cases hl:xs.length=ys.length
  ·cases h:iC (xs.map V.str) (ys.map V.str) with
   |false=>rfl
   |true=>
    rw[kQ (by rw[Ab,Ab,hl]),Bo,Ab]at h
    refine absurd (Gy hl λj h1 h2=>?_) e;have q:=h j (Bw.mpr h1)
    rw[Ac,Ac,Ae,Ae,Aa h1,Aa h2]at q;have q2:(xs[j]==ys[j])=true:=q
    exact eq_of_beq q2
  ·exact tG (by rw[Ab,Ab];exact hl)
def cQW{s l:Nat}(h:s<=xs.length):kO xs (some (s:Int)) (some ((s:Int)+(l:Int)))=(xs.drop s).take l:=by
 unfold kO;show (xs.drop (if (s:Int)<0 then ((s:Int)+(xs.length:Int)).toNat else min (s:Int).toNat xs.length)).take ((if (s:Int)+(l:Int)<0 then ((s:Int)+(l:Int)+(xs.length:Int)).toNat else min ((s:Int)+(l:Int)).toNat xs.length)-(if (s:Int)<0 then ((s:Int)+(xs.length:Int)).toNat else min (s:Int).toNat xs.length))=_
 rw[if_neg (by omega),if_neg (by omega),show (s:Int).toNat=s from rfl,show ((s:Int)+(l:Int)).toNat=s+l by omega,Fe h]
 by_cases hl:s+l<=xs.length
 ·rw[Fe hl,De]
 ·rw[Ez (by omega),Bs (by rw[Cq];omega),Bs (by rw[Cq];omega)]
def xU{a b:Q6}(h:a.map aP=b.map aP):a=b:=List.map_inj_right (λ_ _ e=>sI e) |>.mp h
def bQ(mss:List (List (List Nat)))(j:Nat):Nat:=(mss.getD j []).length
def eU(mss:List (List (List Nat)))(T:List (List Nat))(s j:Nat):Prop:=(T.drop s).take (bQ mss j)=mss.getD j []
instance (mss:List (Q6)) (T:Q6) (s j:Nat):Decidable (eU mss T s j):=inferInstanceAs (Decidable (_=_))
def dG(mss:List (List (List Nat)))(T:List (List Nat))(s:Nat):List Nat:=(List.range mss.length).filter λj=>decide (eU mss T s j)
def bJ7(mss:List (List (List Nat)))(T:List (List Nat))(s i:Nat):Option V:=if eU mss T s i then some (V.int (i:Int)) else none
def cQI(mss:List (Q6))(T:Q6)(s:Nat):∀n,(List.range n).filterMap (bJ7 mss T s)=((List.range n).filter λj=>decide (eU mss T s j)).map λj:Nat=>V.int (j:Int)
 |0=>rfl
 |n+1=>by
  rw[Cf,Bf,Fb,Ao,cQI mss T s n];congr 1
  by_cases h:eU mss T s n
  ·rw[Bi (b:=V.int (n:Int)) (by unfold bJ7;rw[if_pos h]),Gz,if_pos (Ap h)]
   rfl
  ·rw[Bx (by unfold bJ7;rw[if_neg h]),Gz,if_neg (by rw[Ay h];exact Ar)]
   rfl
def dN{s:Nat}(h:j∈dG mss T s):j<mss.length/\eU mss T s j:=by
 obtain⟨h1,h2⟩:=Dt.mp h;exact⟨Bw.mp h1,Bd h2⟩
def nY{s:Nat}(h:eU mss T s j)(hs:s<=T.length):s+bQ mss j<=T.length:=by
 have:=Dm List.length h
 rw[Br,Cq]at this;unfold bQ at this ⊢;omega
def iP{ms:Q6}(h:mss[j]?=some ms):mss.getD j []=ms:=by
 rw[Ac,h];rfl
def gC:Sp:=λvs H Q _=>∃(a b:Addr) (mss:List (List (List Nat))) (T:List (List Nat)) (s:Nat),vs=[.ref a,.ref b,.int (s:Int)]/\MsAt H a mss/\mss.length<=60/\aQU H b T/\T.length<=1000/\s<=T.length/\
 ∀(r:Addr) (H':Hp),Same H H'->rdL H' r=some ((dG mss T s).map λj:Nat=>V.int (j:Int))->Q (.ref r) H'
def sO:FnScope ["meanings", "terms", "start"] ["meanings", "terms", "start"] (aI eX):=by walk_at "sc"
def tR(F:Fun K "standing_at" "standing_at" eX f fd)(G:Gs K mg w Zu Zz Zv Zx Z0 Zw Zy):FnOk P w K mg base CX0 1 f fd ["meanings", "terms", "start"] gC:=by
 refine F.ok sO (λvs H Q E h=>?_) (λcdv A outer s H vs Q E hr h=>?_)
 ·obtain⟨a,b,mss,T,s,rfl,_⟩:=h;rfl
 obtain⟨a,b,mss,T,st,rfl,hms,h60,hT,hTl,hst,q⟩:=h;refine⟨_,(@aH _ _ _ (aR (bV rfl (kZ rfl G.b_enumerate (aA (mv 0) aB)) (eR (N:=["number", "meaning", "terms", "start"]) ["meanings", "terms", "start"] (aI eX) [none,none,some 1,some 2] rfl rfl rfl (λx h=>bP h) (by decide +kernel)) (by decide +kernel) rfl (by decide +kernel) (λ_ _ _ _=>(cY (K:=K) (i:=0) (j:=1) (by rfl) (by rfl) (show List.Nodup (["number", "meaning", "terms", "start"]:List Str) by decide +kernel) (by rfl) (by exact Or.inl rfl) (by exact Or.inr rfl) (by rfl) (by exact Or.inl rfl) (by exact Or.inr rfl))) (λ_ _ _ _=>(fG (aX (cJF hr.units0) (iH dXJ (mv 2) (fE (mv 3)) (fE (aQ bM (mv 3) (aS bZ rfl G.b_len bK (aA (mv 1) aB))))) (mv 1) (bB _)))) (λ_ _ _ _=>(mv 0))))),?_⟩
 obtain⟨ps,p1,p2,p3⟩:=id hms;have rp:=aO p1
 have hpl:(ps.map V.ref).length=mss.length:=by rw[Ab,p2]
 walk_at "go";refine wW (k:=0) (xs:=ps.map V.ref) (λi _=>bJ7 mss T st i) rp (by rw[hpl];exact bA (by omega)) (λi x Hc pt A B hx sm hpt hA=>?_) (λD Hd hD sD hd=>?_)
 ·rw[Ae]at hx;cases e:ps[i]? with
  |none=>rw[e]at hx;cases hx
  |some pm=>
   rw[e]at hx;cases hx;have hi:i<mss.length:=by rw[<-p2];exact(Ad.mp e).1
   obtain⟨ms,hmi⟩:∃ms,mss[i]?=some ms:=⟨_,Aa hi⟩;have sc:=sm.trans (aF hpt (.tup [V.int ((0+i:Nat):Int),V.ref pm]))
   have tm:=sc _ _ (p3 i pm ms e hmi)
   have tt:=sc _ _ hT
   have rm:=aO tm
   have rt:=aO tt
   have tpt:sZ (upd Hc pt (.tup [V.int ((0+i:Nat):Int),V.ref pm])) pt=some [V.int ((0+i:Nat):Int),V.ref pm]:=wN
   have hml:((ms.map aP).map V.str).length=ms.length:=by rw[Ab,Ab]
   have htl:((T.map aP).map V.str).length=T.length:=by rw[Ab,Ab]
   have eg:=iP hmi
   have hSt:eU mss T st i ↔ (T.drop st).take ms.length=ms:=by unfold eU bQ;rw[eg]
   generalize upd Hc pt (.tup [V.int ((0+i:Nat):Int),V.ref pm])=H2 at hA sc tm tt rm rt tpt ⊢;walk_at "go";refine⟨Wk.set rfl (Wk.set rfl (Wk.refl _)),?_⟩;walk_at "go";rw[hml];intro r hr;rw[cQW (by rw[htl];exact hst),<-Fg,<-Fg,<-Ff,<-Ff]
   have s3:=aF hr (.lst ((((T.drop st).take ms.length).map aP).map V.str))
   refine aJR cA (aK s3 rm) (cE _) (cE _) ?_;rw[if_neg Ar,bXH];have r4:=hA _ s3
   generalize upd H2 r (.lst ((((T.drop st).take ms.length).map aP).map V.str))=H3 at r4 ⊢;walk_at "go";unfold bJ7 at r4;by_cases z:eU mss T st i
   ·rw[if_pos z]at r4;rw[Ap (Dm (List.map aP) (hSt.mp z))];walk_at "go";rw[Nat.zero_add];exact r4
   ·rw[if_neg z]at r4;rw[Ay (λk=>z (hSt.mpr (xU k)))];exact r4
 ·rw[hpl,cQI]at hd;exact q D Hd sD hd
def tV:Option Int->V
 |none=>.non
 |some n=>.int n
def pA(mss:List (List (List Nat)))(T:List (List Nat))(TB:List (Option Int))(i:Nat):List (Option Int):=(dG mss T i).map λj=>TB.getD (i+bQ mss j) none
def knL(mss:List (List (List Nat)))(T:List (List Nat))(TB:List (Option Int))(i:Nat):List Int:=(pA mss T TB i).filterMap id
def aQN(mss:List (List (List Nat)))(T:List (List Nat))(TB:List (Option Int))(i:Nat):Prop:=(knL mss T TB i=[]/\TB.getD i none=none)\/∃m,m∈knL mss T TB i/\(∀a∈knL mss T TB i,m<=a)/\TB.getD i none=some (1+m)
def yM(mss:List (List (List Nat))):Prop:=mss.length<=60/\∀ms∈mss,1<=ms.length/\ms.length<=5
def jR(h:yM mss)(hj:j<mss.length):1<=bQ mss j/\bQ mss j<=5:=by
 unfold bQ;rw[Ac,Aa hj];exact h.2 _ (Ce hj)
def vT(hL:yM mss){TC:List (Option Int)}(h:∀k,i<k->TB.getD k none=TC.getD k none):pA mss T TB i=pA mss T TC i:=by
 unfold pA;refine Dj λj hj=>?_;have:=jR hL (dN hj).1
 exact h _ (by omega)
def bXN(hL:yM mss){TC:List (Option Int)}(h:∀k,i<=k->TB.getD k none=TC.getD k none)(r:aQN mss T TB i):aQN mss T TC i:=by
 unfold aQN knL at r ⊢;rw[vT hL (λk hk=>h k (by omega)),h i (Ai _)]at r
 exact r
structure TabOk (mss:List (List (List Nat))) (T:List (List Nat)) (TB:List (Option Int)):Prop where
 len:TB.length=T.length+1
 last:TB.getD T.length none=some 0
 small:∀k n,TB.getD k none=some n->0<=n/\n<=1000
 row:∀i,i<T.length->aQN mss T TB i
def bQW(h:k<TB.length):atI (TB.map tV) (k:Int)=some (tV (TB.getD k none)):=by
 refine bD ?_;rw[Ae,Aa h,Ac,Aa h];rfl
def pD{v:Option Int}(hk:k<TB.length):(TB.set k v).getD i none=if i=k then v else TB.getD i none:=by
 rw[Ac,List.getElem?_set,Ac];by_cases e:i=k
 ·subst e;rw[if_pos rfl,if_pos rfl,if_pos hk];rfl
 ·rw[if_neg (λz=>e z.symm),if_neg e]
def fQO(bs:List (Option Int)):(bs.map tV).filterMap (λx=>match x with|.int n=>some (V.int n)|_=>none)=(bs.filterMap id).map V.int:=by
 induction bs with
 |nil=>rfl
 |cons b r ih=>
  cases b with
  |none=>rw[Au,Bx rfl,ih,Bx rfl]
  |some n=>rw[Au,Bi (f:=λx=>match x with|.int n=>some (V.int n)|_=>none) (a:=tV (some n)) (b:=V.int n) rfl,ih,Bi (f:=id) (a:=some n) (b:=n) rfl];rfl
def hZ:Sp:=λvs H Q _=>∃(a b:Addr) (mss:List (List (List Nat))) (T:List (List Nat)),vs=[.ref a,.ref b]/\MsAt H a mss/\yM mss/\aQU H b T/\T.length<=40/\
 ∀(r:Addr) (TB:List (Option Int)) (H':Hp),H r=none->Same H H'->H' r=some (.lst (TB.map tV))->TabOk mss T TB->Q (.ref r) H'
def sc_least_numbers:FnScope ["meanings", "terms", "table", "start", "behind", "known"] ["meanings", "terms"] (aI dR):=by walk_at "sc"
def oV(F:Fun K "least_numbers" "least_numbers" dR f fd)(G:Gs K mg w Zu Zz Zv Zx Z0 Zw Zy)(c_standing_at:Cal P w K mg base 1 "standing_at" ["meanings", "terms", "start"] gC):FnOk P w K mg base CX0 2 f fd ["meanings", "terms"] hZ:=by
 refine F.ok sc_least_numbers (λvs H Q E h=>?_) (λcdv A outer s H vs Q E hr h=>?_)
 ·obtain⟨a,b,mss,T,rfl,_⟩:=h;rfl
 obtain⟨a,b,mss,T,rfl,hms,hL,hT,h40,q⟩:=h;refine⟨_,(@aD _ _ _ _ _ (aM 2 sc_least_numbers.nd (aQ bM (aQ yS (cC (aA cP aB)) (aS bZ rfl G.b_len bK (aA (mv 1) aB))) (cC (aA aJ aB)))) (@aD _ _ _ _ _ (cJ Bm rfl (bXZ rfl G.b_range (aA (aQ pK (aS bZ rfl G.b_len bK (aA (mv 1) aB)) aJ) (aA (dZV dZK aJ) (aA (dZV dZK aJ) aB)))) (aW (i:=3) sc_least_numbers.nd rfl (Or.inr rfl)) (@aD _ _ _ _ _ (dX (i:=4) sc_least_numbers.nd rfl (Or.inl rfl) rfl (bO (aU c_standing_at hr (by decide) rfl (aA (mv 0) (aA (mv 1) (aA (mv 3) aB))))) (eR (N:=["number", "table", "start", "meanings"]) ["meanings", "terms", "table", "start", "behind", "known"] (aI dR) [none,some 2,some 3,some 0] rfl rfl rfl (λx h=>bP h) (by decide +kernel)) (by decide +kernel) rfl (by decide +kernel) (λ_ _ _ _=>(aW (i:=0) (show List.Nodup (["number", "table", "start", "meanings"]:List Str) by decide +kernel) rfl (Or.inl rfl))) (λ_ _ _ _=>cK) (λ_ _ _ _=>(bG bU (mv 1) (aQ bM (mv 2) (aS bZ rfl G.b_len bK (aA (bG bU (mv 3) (mv 0) (λ_ _=>rfl)) aB))) (λ_ _=>rfl)))) (@aD _ _ _ _ _ (dX (i:=5) sc_least_numbers.nd rfl (Or.inl rfl) rfl (bO (mv 4)) (fN (N:=["many"]) (by decide +kernel) (by decide +kernel)) (by decide +kernel) rfl (by decide +kernel) (λ_ _ _ _=>(aW (i:=0) (show List.Nodup (["many"]:List Str) by decide +kernel) rfl (Or.inl rfl))) (λ_ _ _ _=>(fG (aX sL (mv 0) cP (bB _)))) (λ_ _ _ _=>(mv 0))) (@aH _ _ _ (bY (aX (eZX hr.units0) (mv 5) (cC aB) (bB _)) (@aH _ _ _ (aJB (aQ bM aJ (aS (eQX rfl) rfl G.b_min eXH (aA (mv 5) aB))) (cZN (mv 2) (mv 3) zY))) bF))))) (@aH _ _ _ (aR (mv 2))))),?_⟩
 have htl:((T.map aP).map V.str).length=T.length:=by rw[Ab,Ab]
 have rT:=aO hT
 walk_at "go";refine⟨by show 1<=sizeLine;decide,λp0 hp0=>?_⟩
 have s0:=aF hp0 (.lst [V.non])
 have e0:(upd H p0 (.lst [V.non])) p0=some (.lst [V.non]):=aE
 generalize upd H p0 (.lst [V.non])=H0 at s0 e0 ⊢;have rT0:=aK s0 rT
 walk_at "go";rw[htl];refine⟨p0,_,[V.non],rfl,rfl,e0,by omega,by omega,by show 1*((T.length:Int)).toNat<=sizeLine;exact bH (by omega),λp1 hp1=>?_⟩
 have er:(List.replicate ((T.length:Int)).toNat [V.non]).flatten=(List.replicate T.length (none:Option Int)).map tV:=by
  rw[show ((T.length:Int)).toNat=T.length from rfl];generalize T.length=n;induction n with
  |zero=>rfl
  |succ n ih=>rw[Da,Co,ih,Da,Au];rfl
 rw[er];have s1:=s0.trans (aF hp1 (.lst ((List.replicate T.length (none:Option Int)).map tV)))
 have e1:(upd H0 p1 (.lst ((List.replicate T.length (none:Option Int)).map tV))) p1=_:=aE
 generalize upd H0 p1 (.lst ((List.replicate T.length (none:Option Int)).map tV))=H1 at s1 e1 ⊢;walk_at "go";refine⟨by show 1<=sizeLine;decide,λp2 hp2=>?_⟩
 have n2:p1≠p2:=bE e1 hp2
 refine mM (xs:=(List.replicate T.length (none:Option Int)).map tV) (ys:=[V.int 0]) (by rw[qM n2];exact cI e1) cW (bH (by rw[Ab,Bp];show _+1<=_;omega)) λtb htb=>?_
 rw[show (List.replicate T.length (none:Option Int)).map tV++[V.int 0]=(List.replicate T.length (none:Option Int)++[some 0]).map tV by rw[Ao];rfl]
 have htbH:H tb=none:=none_of (s1.trans (aF hp2 _)) htb
 have s3:=s1.trans ((aF hp2 (.lst [V.int 0])).trans (aF htb (.lst ((List.replicate T.length (none:Option Int)++[some 0]).map tV))))
 have e3:(upd (upd H1 p2 (.lst [V.int 0])) tb (.lst ((List.replicate T.length (none:Option Int)++[some 0]).map tV))) tb=_:=aE
 generalize upd (upd H1 p2 (.lst [V.int 0])) tb (.lst ((List.replicate T.length (none:Option Int)++[some 0]).map tV))=H3 at s3 e3 ⊢;have rT3:=aK s3 rT
 walk_at "go";rw[htl];refine⟨⟨by omega,by omega,by omega,by omega,rfl⟩,?_⟩
 have hcn:sA ((T.length:Int)-1) (-1)=T.length:=by unfold sA;omega
 rw[hcn];have ini:∀k,(List.replicate T.length (none:Option Int)++[some 0]).getD k none=if k=T.length then some 0 else none:=λk=>by
  rw[Ac];by_cases h1:k<T.length
  ·rw[Aq (by rw[Bp];exact h1),Et,if_pos h1,if_neg (by omega)]
   rfl
  ·rw[Ax (by rw[Bp];omega),Bp]
   by_cases h2:k=T.length
   ·subst h2;rw[if_pos rfl,El];rfl
   ·rw[if_neg h2,Fi (by show 1<=_;omega)];rfl
 refine bZE (λt σ H'=>∃(TB:List (Option Int)) (v3 v4 v5:Option V),σ=[some (.ref a),some (.ref b),some (.ref tb),v3,v4,v5]/\Same H H'/\H' tb=some (.lst (TB.map tV))/\TB.length=T.length+1/\TB.getD T.length none=some 0/\(∀k v,TB.getD k none=some v->0<=v/\v<=(t:Int))/\(∀i,T.length<=i+t->i<T.length->aQN mss T TB i)/\∀i,i+t<T.length->TB.getD i none=none)
  ⟨List.replicate T.length none++[some 0],_,_,_,rfl,s3,e3,by rw[Ag,Bp];rfl,by rw[ini,if_pos rfl],λk v hv=>?_,λi h1 h2=>absurd h1 (by omega),λi hi=>by rw[ini,if_neg (by omega)]⟩ ?_ ?_
 ·rw[ini]at hv;split at hv
  ·cases hv;omega
  ·cases hv
 ·rintro t σ H4 ht ⟨TB,v3,v4,v5,rfl,s4,e4,hlen,hlast,hsm,hV,hnone⟩;obtain⟨st,hst⟩:∃st:Nat,st+t+1=T.length:=⟨T.length-1-t,by omega⟩
  rw[show (T.length:Int)-1+(t:Int)*(-1)=(st:Int) by omega]
  have hms4:=hms.keep s4
  have hT4:=s4 _ _ hT
  walk_at "go";refine⟨a,b,mss,T,st,rfl,hms4,hL.1,hT4,by omega,by omega,λrs H5 s5 e5=>?_⟩
  have e45:=s5 _ _ e4
  obtain⟨ps,p1',p2',p3'⟩:=hms4.keep s5;walk_at "go";refine kG (xs:=(dG mss T st).map λj:Nat=>V.int (j:Int)) (λx=>match x with|.int j=>some (tV (TB.getD (st+bQ mss j.toNat) none))|_=>none) e5 (by
   rw[Ab];have:(dG mss T st).length<=mss.length:=by unfold dG;have:=Fj (λj=>decide (eU mss T st j)) (List.range mss.length);rw[Bq]at this;exact this
   exact bA (by have:=hL.1;omega)) (λi x Hc A B hx sm hA=>?_) (λD Hd hD sD hd=>?_)
  ·rw[Ae]at hx;cases e:(dG mss T st)[i]? with
   |none=>rw[e]at hx;cases hx
   |some j=>
    rw[e]at hx;cases hx;obtain⟨hj,hS⟩:=dN (Al e);have hle:=nY hS (by omega)
    have hpj:ps[j]?=some (ps[j]'(by omega)):=Aa _
    obtain⟨ms,hmj⟩:∃ms,mss[j]?=some ms:=⟨_,Aa hj⟩;have tm:=sm _ _ (p3' j _ ms hpj hmj)
    have rm:=aO tm
    have eg:=iP hmj
    have hml:((ms.map aP).map V.str).length=bQ mss j:=by unfold bQ;rw[eg,Ab,Ab]
    have rps:=aO (sm _ _ p1')
    have rtb:=aO (sm _ _ e45)
    walk_at "go";refine⟨Wk.set rfl (Wk.refl _),?_⟩;walk_at "go";refine cO rps (v:=.ref (ps[j]'(by omega))) (bD (by rw[Ae,hpj];rfl)) ?_
    walk_at "go";rw[hml];refine cO rtb (by rw[show (st:Int)+(bQ mss j:Int)=((st+bQ mss j:Nat):Int) by omega];exact bQW (by omega)) ?_
    exact hA _ (Same.refl _)
  ·have eb:((dG mss T st).map λj:Nat=>V.int (j:Int)).filterMap (λx=>match x with | .int j=>some (tV (TB.getD (st+bQ mss j.toNat) none)) | _=>none)=(pA mss T TB st).map tV:=by
    unfold pA;rw[Gg,Bt];exact iK (λj:Nat=>tV (TB.getD (st+bQ mss j) none)) _
   rw[eb]at hd;have e4d:=sD _ _ e45
   have rbD:=aO hd
   have hbl:((pA mss T TB st).map tV).length<=60:=by
    rw[Ab];unfold pA dG;rw[Ab];have:=Fj (λj=>decide (eU mss T st j)) (List.range mss.length)
    rw[Bq]at this;have:=hL.1
    omega
   walk_at "go";refine kG (xs:=(pA mss T TB st).map tV) (λx=>match x with|.int n=>some (V.int n)|_=>none) rbD (bA (by omega)) (λi x Hc A B hx sm hA=>?_) (λD2 Hd2 hD2 sD2 hd2=>?_)
   ·rw[Ae]at hx;cases e:(pA mss T TB st)[i]? with
    |none=>rw[e]at hx;cases hx
    |some o=>
     rw[e]at hx;cases hx;have r:=hA _ (Same.refl _)
     cases o with
     |none=>
      walk_at "go";refine⟨Wk.set rfl (Wk.refl _),?_⟩;walk_at "go";exact r
     |some n=>
      walk_at "go";refine⟨Wk.set rfl (Wk.refl _),?_⟩;walk_at "go";exact r
   ·rw[fQO]at hd2;have hd2':Hd2 D2=some (.lst ((knL mss T TB st).map V.int)):=hd2
    have e42:=sD2 _ _ e4d
    walk_at "go";refine⟨by decide,λpe hpe=>?_⟩
    have s6:=aF hpe (.lst [])
    refine aJR (neg:=true) (aK s6 (aO hd2')) cA (by rw[Bo];intro x hx;obtain⟨n,_,rfl⟩:=Ba.mp hx;rfl) rfl ?_
    have e6:=s6 _ _ e42
    have d6:=s6 _ _ hd2'
    have s06:=s4.trans (s5.trans (sD.trans (sD2.trans s6)))
    generalize upd Hd2 pe (.lst [])=H6 at s6 e6 d6 s06 ⊢;have en:∀xs:List V,iC xs []=xs.isEmpty:=λxs=>by cases xs<;>rfl
    rw[if_pos rfl,en];have hst1:st<TB.length:=by omega
    have hstn:TB.getD st none=none:=hnone st (by omega)
    walk_at "go";cases hk:knL mss T TB st with
    |nil=>
     rw[show (List.map V.int ([]:List Int)).isEmpty=true from rfl];walk_at "go";refine⟨TB,_,_,_,rfl,s06,e6,hlen,hlast,λk v hv=>by have:=hsm k v hv;omega,λi h1 h2=>?_,λi hi=>hnone i (by omega)⟩
     by_cases ei:i=st
     ·subst ei;exact .inl ⟨hk,hstn⟩
     ·exact hV i (by omega) h2
    |cons k0 kr=>
     rw[show (List.map V.int (k0::kr)).isEmpty=false from rfl];rw[hk]at d6;have nD:D2≠tb:=λz=>by rw[z,sD2 _ _ e4d]at hd2';rw[z]at hD2;rw[e4d]at hD2;cases hD2
     walk_at "go";refine eQZ (ns:=k0::kr) (aO d6) (by rw[Aw];omega) λm hm hmin=>?_
     walk_at "go";refine dZ1 (o:=.non) (cI e6) (cZW (by omega) (by rw[Ab];omega)) ?_
     rw[show ((st:Nat):Int).toNat=st from rfl,show V.int (1+m)=tV (some (1+m)) from rfl,<-List.map_set];have hmk:m∈knL mss T TB st:=by rw[hk];exact hm
     have hmo:some m∈pA mss T TB st:=by
      obtain⟨o,ho,e⟩:=Ca.mp hmk;have e2:o=some m:=e
      rw[<-e2];exact ho
     obtain⟨jj,hjj,ejj⟩:=Ba.mp hmo;have hmb:=hsm _ _ ejj
     have gd:∀k,k≠st->TB.getD k none=(TB.set st (some (1+m))).getD k none:=λk hk=>by rw[pD hst1,if_neg hk]
     walk_at "go";refine⟨TB.set st (some (1+m)),_,_,_,rfl,bJ htbH s06,aE,by rw[Du];exact hlen,by rw[<-gd _ (by omega)];exact hlast,λk v hv=>?_,λi h1 h2=>?_,λi hi=>by rw[<-gd _ (by omega)];exact hnone i (by omega)⟩
     ·by_cases ek:k=st
      ·subst ek;rw[pD hst1,if_pos rfl]at hv;cases hv;omega
      ·rw[<-gd k ek]at hv;have:=hsm k v hv
       omega
     ·by_cases ei:i=st
      ·subst ei;have ebe:pA mss T (TB.set i (some (1+m))) i=pA mss T TB i:=vT hL λk hk=>(gd k (by omega)).symm
       refine .inr ⟨m,?_,?_,by rw[pD hst1,if_pos rfl]⟩
       ·unfold knL;rw[ebe];exact hmk
       ·unfold knL;rw[ebe];intro x hx;have hx2:x∈knL mss T TB i:=hx
        rw[hk]at hx2;exact hmin x hx2
      ·exact bXN hL (λk hk=>gd k (by omega)) (hV i (by omega) h2)
 ·rintro σ H4 ⟨TB,v3,v4,v5,rfl,s4,e4,hlen,hlast,hsm,hV,hnone⟩;walk_at "go";exact q tb TB H4 htbH s4 e4 ⟨hlen,hlast,λk n hn=>by have:=hsm k n hn;omega,λi hi=>hV i (by omega) hi⟩
def aJ6(h:cV bk mss)(h60:bk.length<=60):yM mss:=by
 refine⟨by rw[h.1];exact h60,λms hm=>?_⟩
 obtain⟨j,hj,e⟩:=Bu.mp hm;have hb:j<bk.length:=by rw[<-h.1];exact hj
 have:=h.2 j _ ms (Aa hb) (by rw[Aa hj,e])
 exact⟨this.2.1,this.2.2.1⟩
def jK:Sp:=λ_ _ _ _=>False
def rS(F:Fun K "behind_haul" "behind_haul" lR f fd)(G:Gs K mg w Zu Zz Zv Zx Z0 Zw Zy):FnOk P w K mg base CX0 1 f fd ["halyards", "locker", "number", "word"] jK:=⟨λ_ _ _ _ h=>h.elim,λ_ _ _ _ _ _ _ _ _ _ _ _ _ h=>h.elim⟩
def jH:Sp:=λ_ _ _ _=>False
def qC(F:Fun K "behind_lower" "behind_lower" jO f fd)(G:Gs K mg w Zu Zz Zv Zx Z0 Zw Zy):FnOk P w K mg base CX0 1 f fd ["halyards", "locker", "number"] jH:=⟨λ_ _ _ _ h=>h.elim,λ_ _ _ _ _ _ _ _ _ _ _ _ _ h=>h.elim⟩
def jU:Sp:=λ_ _ _ _=>False
def sK(F:Fun K "behind_lose" "behind_lose" lO f fd)(G:Gs K mg w Zu Zz Zv Zx Z0 Zw Zy):FnOk P w K mg base CX0 1 f fd ["halyards", "locker", "flag"] jU:=⟨λ_ _ _ _ h=>h.elim,λ_ _ _ _ _ _ _ _ _ _ _ _ _ h=>h.elim⟩
def kN:Sp:=λ_ _ _ _=>False
def qS(F:Fun K "behind_find" "behind_find" lK f fd)(G:Gs K mg w Zu Zz Zv Zx Z0 Zw Zy):FnOk P w K mg base CX0 1 f fd ["halyards", "locker", "flag"] kN:=⟨λ_ _ _ _ h=>h.elim,λ_ _ _ _ _ _ _ _ _ _ _ _ _ h=>h.elim⟩
def fQ7:Str:=("longest_on" : Str) ++ ".<locals>." ++ "<lambda>"
def fQ6:Pos:=⟨112,29,112,65⟩
def dL(Pt:Addr)(H:Hp):Prop:=LamT Pt fQ7 fQ6 H
structure Best (mss:List (List (List Nat))) (T:List (List Nat)) (TB:List (Option Int)) (i k:Nat):Prop where
 st:k∈dG mss T i
 one:∃n,TB.getD i none=some n/\TB.getD (i+bQ mss k) none=some (n-1)
 most:∀j∈dG mss T i,TB.getD (i+bQ mss j) none=TB.getD (i+bQ mss k) none->bQ mss j<=bQ mss k
inductive Path (mss:List (List (List Nat))) (T:List (List Nat)) (TB:List (Option Int)):Nat->List Nat->Prop
 |nil:Path mss T TB T.length []
 |cons {i k:Nat} {ks:List Nat}:i<T.length->Best mss T TB i k->Path mss T TB (i+bQ mss k) ks->Path mss T TB i (k::ks)
def cX8(p:Nat->Bool):∀L:List Nat,(L.map λj:Nat=>V.int (j:Int)).filterMap (λx=>match x with|.int j=>if p j.toNat=true then some (V.int j) else none|_=>none)=(L.filter p).map λj:Nat=>V.int (j:Int)
 |[]=>rfl
 |j::r=>by
  rw[Au];cases h:p j with
  |true=>
   rw[Bi (b:=V.int (j:Int)) (by show (if p ((j:Int)).toNat=true then _ else _)=_;rw[Ek,if_pos h]),cX8 p r,Gz,if_pos h]
   rfl
  |false=>
   rw[Bx (by show (if p ((j:Int)).toNat=true then _ else _)=_;rw[Ek,if_neg (by rw[h];decide)]),cX8 p r,Gz,if_neg (by rw[h];decide)]
def gZ(Pt:Addr):Sp:=λvs H Q _=>∃(a b tb:Addr) (mss:List (List (List Nat))) (T:List (List Nat)) (TB:List (Option Int)) (i:Nat) (n:Int),vs=[.ref a,.ref b,.ref tb,.int (i:Int)]/\MsAt H a mss/\yM mss/\aQU H b T/\T.length<=40/\H tb=some (.lst (TB.map tV))/\TabOk mss T TB/\i<T.length/\TB.getD i none=some n/\dL Pt H/\
 ∀(k:Nat) (H':Hp),Best mss T TB i k->SameP Pt H H'->dL Pt H'->Q (.int (k:Int)) H'
def sc_longest_on:FnScope ["meanings", "terms", "table", "start", "left", "standing", "shortest"] ["meanings", "terms", "table", "start"] (aI dD):=by walk_at "sc"
def uD{c:Addr}(F:Fun K "longest_on" "longest_on" dD f fd)(G:Gs K mg w Zu Zz Zv Zx Z0 Zw Zy)(hfc:fd.code=.ref c)(LB:LamB mg base c Pt)(c_standing_at:Cal P w K mg base 1 "standing_at" ["meanings", "terms", "start"] gC):FnOk P w K mg base CX0 2 f fd ["meanings", "terms", "table", "start"] (gZ Pt):=by
 refine F.okC hfc sc_longest_on (λvs H Q E h=>?_) (λcdv A outer s H vs Q E hcdv hr h=>?_)
 ·obtain⟨a,b,tb,mss,T,TB,i,n,rfl,_⟩:=h;rfl
 obtain⟨a,b,tb,mss,T,TB,st,n,rfl,hms,hL,hT,h40,etb,ok,hst,hn,hlam,q⟩:=h;refine⟨_,(@aD _ _ _ _ _ (aM 4 sc_longest_on.nd (aQ pK (bG bU (mv 2) (mv 3) (λ_ _=>rfl)) aJ)) (@aD _ _ _ _ _ (aM 5 sc_longest_on.nd (aU c_standing_at hr (by decide) rfl (aA (mv 0) (aA (mv 1) (aA (mv 3) aB))))) (@aD _ _ _ _ _ (dX (i:=6) sc_longest_on.nd rfl (Or.inl rfl) rfl (bO (mv 5)) (eR (N:=["number", "left", "table", "start", "meanings"]) ["meanings", "terms", "table", "start", "left", "standing", "shortest"] (aI dD) [none,some 4,some 2,some 3,some 0] rfl rfl rfl (λx h=>bP h) (by decide +kernel)) (by decide +kernel) rfl (by decide +kernel) (λ_ _ _ _=>(aW (i:=0) (show List.Nodup (["number", "left", "table", "start", "meanings"]:List Str) by decide +kernel) rfl (Or.inl rfl))) (λ_ _ _ _=>(fG (aX nZ (bG bU (mv 2) (aQ bM (mv 3) (aS bZ rfl G.b_len bK (aA (bG bU (mv 4) (mv 0) (λ_ _=>rfl)) aB))) (λ_ _=>rfl)) (mv 1) (bB _)))) (λ_ _ _ _=>(mv 0))) (@aH _ _ _ (aR (bX2 rfl (dJS hr) rfl G.b_max (aA (mv 6) aB) hcdv LB (eZR (N:=["number", "meanings"]) (x := "number") ["meanings", "terms", "table", "start", "left", "standing", "shortest"] (aI dD) [0] rfl rfl (λx h=>bP h) (by decide +kernel)) (λA f c' s₀ H₀=>(aS bZ rfl G.b_len bK (aA (bG bU (mv 1) (mv 0) (λ_ _=>rfl)) aB))) rfl rfl rfl rfl (by decide +kernel) (λ_ _ _ _ _=>rfl))))))),?_⟩
 have rtb0:=aO etb
 have hlen:=ok.len
 walk_at "go";refine cO rtb0 (v:=.int n) (by rw[bQW (by omega),hn];rfl) ?_
 walk_at "go";refine⟨a,b,mss,T,st,rfl,hms,hL.1,hT,by omega,by omega,λrs H5 s5 e5=>?_⟩
 have e45:=s5 _ _ etb
 obtain⟨ps,p1',p2',p3'⟩:=hms.keep s5;have hsl:(dG mss T st).length<=60:=by
  have:=Fj (λj=>decide (eU mss T st j)) (List.range mss.length)
  rw[Bq]at this;have:=hL.1
  unfold dG;omega
 walk_at "go";refine kG (xs:=(dG mss T st).map λj:Nat=>V.int (j:Int)) (λx=>match x with|.int j=>if decide (TB.getD (st+bQ mss j.toNat) none=some (n-1))=true then some (V.int j) else none|_=>none) e5 (by rw[Ab];exact bA (by omega)) (λi x Hc A B hx sm hA=>?_) (λD Hd hD sD hd=>?_)
 ·rw[Ae]at hx;cases e:(dG mss T st)[i]? with
  |none=>rw[e]at hx;cases hx
  |some j=>
   rw[e]at hx;cases hx;obtain⟨hj,hS⟩:=dN (Al e);have hle:=nY hS (by omega)
   have hpj:ps[j]?=some (ps[j]'(by omega)):=Aa _
   obtain⟨ms,hmj⟩:∃ms,mss[j]?=some ms:=⟨_,Aa hj⟩;have tm:=sm _ _ (p3' j _ ms hpj hmj)
   have rm:=aO tm
   have eg:=iP hmj
   have hml:((ms.map aP).map V.str).length=bQ mss j:=by unfold bQ;rw[eg,Ab,Ab]
   have rps:=aO (sm _ _ p1')
   have rtb:=aO (sm _ _ e45)
   have r:(match (if decide (TB.getD (st+bQ mss j) none=some (n-1))=true then some (V.int (j:Int)) else none) with|some y=>A y Hc|none=>B Hc):=hA _ (Same.refl _)
   walk_at "go";refine⟨Wk.set rfl (Wk.refl _),?_⟩;walk_at "go";refine cO rps (v:=.ref (ps[j]'(by omega))) (bD (by rw[Ae,hpj];rfl)) ?_
   walk_at "go";rw[hml];refine cO rtb (by rw[show (st:Int)+(bQ mss j:Int)=((st+bQ mss j:Nat):Int) by omega];exact bQW (by omega)) ?_
   generalize TB.getD (st+bQ mss j) none=o at r ⊢;cases o with
   |none=>
    rw[if_neg (by simp)]at r
    refine⟨rfl,?_⟩;rw[show decide (tV none=V.int (n-1))=false from Ay λz=>nomatch z]
    exact r
   |some m=>
    show mEq (V.int m) (V.int (n-1)) _ _
    walk_at "go";by_cases z:m=n-1
    ·rw[Ap (by rw[z]),if_pos rfl]at r
     rw[Ap z];walk_at "go";exact r
    ·rw[Ay (λy=>z (by injection y)),if_neg (by decide)]at r
     rw[Ay z];exact r
 ·rw[cX8 λj=>decide (TB.getD (st+bQ mss j) none=some (n-1))]at hd;generalize hks:(dG mss T st).filter (λj=>decide (TB.getD (st+bQ mss j) none=some (n-1)))=ks at hd;have hmem:∀j,j∈ks ↔ j∈dG mss T st/\TB.getD (st+bQ mss j) none=some (n-1):=λj=>by rw[<-hks,Dt,Ci]
  have hpos:0<ks.length:=by
   rcases ok.row st hst with⟨_,z⟩|⟨m,hm,_,hm2⟩
   ·rw[hn]at z;cases z
   ·rw[hn]at hm2;obtain⟨o,ho,e⟩:=Ca.mp hm;have e2:o=some m:=e
    obtain⟨j,hj,ej⟩:=Ba.mp ho;have:j∈ks:=(hmem j).mpr ⟨hj,by rw[ej,e2];injection hm2 with hm2;rw[hm2];congr 1;omega⟩
    exact List.length_pos_of_mem this
  have hlD:=hlam.keep (s5.trans sD)
  have hpsD:=sD _ _ p1'
  walk_at "go";refine cXS ?_;walk_at "go";refine⟨D,ks.map λj:Nat=>(j:Int),λi=>((bQ mss (ks.getD i 0):Nat):Int),rfl,by rw[Bt];exact aO hd,by rw[Ab];exact hpos,hlD,λH2 hrd i n0 hn0=>?_,λi m H2 hm hbest sP hl2=>?_⟩
  ·rw[Ae]at hn0;obtain⟨k,ek,rfl⟩:=Bk.mp hn0;obtain⟨hk1,hk2⟩:=(hmem k).mp (Al ek);obtain⟨hj,hS⟩:=dN hk1;have hpj:ps[k]?=some (ps[k]'(by omega)):=Aa _
   obtain⟨ms,hmj⟩:∃ms,mss[k]?=some ms:=⟨_,Aa hj⟩;have rps:=hrd _ _ (aO hpsD)
   have rm:=hrd _ _ (aO (sD _ _ (p3' k _ ms hpj hmj)))
   have hml:((ms.map aP).map V.str).length=bQ mss k:=by unfold bQ;rw[iP hmj,Ab,Ab]
   have egk:ks.getD i 0=k:=by rw[Ac,ek];rfl
   change tCB L2.bQ (zN (tOp mIx (bQ9 1) (bQ9 0)) bQ5) [some (V.int (k:Int)),some (V.ref a)] H2 _
   walk_at "go";refine cO rps (v:=.ref (ps[k]'(by omega))) (bD (by rw[Ae,hpj];rfl)) ?_
   walk_at "go";rw[hml,egk];exact⟨rfl,rfl⟩
  ·rw[Ae]at hm;obtain⟨k,ek,rfl⟩:=Bk.mp hm;obtain⟨hk1,hk2⟩:=(hmem k).mp (Al ek);have egk:ks.getD i 0=k:=by rw[Ac,ek];rfl
   refine q k H2 ⟨hk1,⟨n,hn,hk2⟩,λj hj ej=>?_⟩ ((Same.p (s5.trans sD)).trans sP) hl2;obtain⟨u,hu⟩:=Fl.mp ((hmem j).mpr ⟨hj,ej.trans hk2⟩);have hul:=(Ad.mp hu).1
   have h2:((bQ mss (ks.getD u 0):Nat):Int)<=((bQ mss (ks.getD i 0):Nat):Int):=hbest u (by rw[Ab];exact hul)
   rw[egk,show ks.getD u 0=j by rw[Ac,hu];rfl]at h2
   omega
def rdP(s:SameP Pt H H')(l:dL Pt H)(h:rdL H a=some xs):rdL H' a=some xs:=aJP s h l.tb
def atP(s:SameP Pt H H')(l:dL Pt H)(h:H a=some o)(ht:∀ps,o≠.tbl ps):H' a=some o:=s a o (λz=>by
 obtain⟨ps,e⟩:=l.tb;rw[z,e]at h;cases h;exact ht _ rfl) h
def msP(h:MsAt H r mss)(s:SameP Pt H H')(l:dL Pt H):MsAt H' r mss:=by
 obtain⟨ps,h1,h2,h3⟩:=h;exact⟨ps,atP s l h1 (λ_=>nofun),h2,λj p ms hp hm=>atP s l (h3 j p ms hp hm) λ_=>nofun⟩
def bkP(h:BkAt H r bk)(s:SameP Pt H H')(l:dL Pt H):BkAt H' r bk:=by
 obtain⟨ps,h1,h2,h3⟩:=h;exact⟨ps,atP s l h1 (λ_=>nofun),h2,λj p b hp hb=>atP s l (h3 j p b hp hb) λ_=>nofun⟩
def aJX(h:dL Pt H)(e:H p=some (.lst xs)):dL Pt (upd H p o):=by
 have ne:∀b u,H b=some u->(∀z,u≠.lst z)->b≠p:=λb u h n y=>by rw[y,e]at h;cases h;exact n _ rfl
 rcases h with h|⟨c,h1,h2⟩
 ·exact .inl (by rw[aG (ne _ _ h λ_=>nofun)];exact h)
 ·exact .inr ⟨c,by rw[aG (ne _ _ h1 λ_=>nofun)];exact h1,by rw[aG (ne _ _ h2 λ_=>nofun)];exact h2⟩
def fQ3(hp:H p=none)(s:SameP Pt H H'):SameP Pt H (upd H' p o):=λb u n e=>by rw[aG (λz=>by rw[z,hp]at e;cases e)];exact s b u n e
inductive Cov (mss:List (List (List Nat))) (T:List (List Nat)):Nat->Nat->Prop
 |nil:Cov mss T T.length 0
 |cons {i k n:Nat}:i<T.length->k∈dG mss T i->Cov mss T (i+bQ mss k) n->Cov mss T i (n+1)
def dXN(hL:yM mss)(ok:TabOk mss T TB):∀d i,i+d=T.length->(∀n,Cov mss T i n->∃m:Nat,m<=n/\TB.getD i none=some (m:Int))/\∀v,TB.getD i none=some v->∃n:Nat,v=(n:Int)/\Cov mss T i n:=λd=>by
 induction d using Nat.strongRecOn with
 |ind d ih=>
  intro i hi;by_cases h0:d=0
  ·obtain rfl:i=T.length:=by omega
   refine⟨λn _=>⟨0,Cy _,ok.last⟩,λv hv=>?_⟩;rw[ok.last]at hv;cases hv;exact⟨0,rfl,.nil⟩
  ·have hlt:i<T.length:=by omega
   have step:∀k∈dG mss T i,i+bQ mss k<=T.length/\1<=bQ mss k:=λk hk=>by
    obtain⟨h1,h2⟩:=dN hk;exact⟨nY h2 (by omega),(jR hL h1).1⟩
   have kn:∀k∈dG mss T i,∀m,TB.getD (i+bQ mss k) none=some m->m∈knL mss T TB i:=λk hk m e=>Ca.mpr ⟨some m,Ba.mpr ⟨k,hk,e⟩,rfl⟩
   refine⟨λn hc=>?_,λv hv=>?_⟩
   ·cases hc with
    |nil=>exact absurd hlt (Dh _)
    | @cons _ k n _ hk hc=>
     obtain⟨s1,s2⟩:=step k hk;obtain⟨m,hm,e⟩:=(ih (T.length-(i+bQ mss k)) (by omega) (i+bQ mss k) (by omega)).1 n hc
     rcases ok.row i hlt with⟨z,_⟩|⟨m0,hm0,hmin,e0⟩
     ·have:=kn k hk _ e
      rw[z]at this;cases this
     ·have h1:=hmin _ (kn k hk _ e)
      have h2:=ok.small i _ e0
      refine⟨(1+m0).toNat,by omega,?_⟩
      rw[e0,Int.toNat_of_nonneg (by omega)]
   ·rcases ok.row i hlt with⟨_,z⟩|⟨m0,hm0,hmin,e0⟩
    ·rw[hv]at z;cases z
    ·rw[hv]at e0;cases e0;obtain⟨o,ho,e⟩:=Ca.mp hm0;have e2:o=some m0:=e
     obtain⟨k,hk,ek⟩:=Ba.mp ho;obtain⟨s1,s2⟩:=step k hk;obtain⟨n,en,hc⟩:=(ih (T.length-(i+bQ mss k)) (by omega) (i+bQ mss k) (by omega)).2 m0 (ek.trans e2)
     exact⟨n+1,by omega,.cons hlt hk hc⟩
def pP(Pt:Addr):Sp:=λvs H Q _=>∃(a:Addr) (bk:List (Str×Str)) (mss:List (List (List Nat))) (T:List (List Nat)) (n:Nat),vs=[.ref a,.str (bI T)]/\BkAt H a bk/\bk.length<=60/\cV bk mss/\1<=T.length/\T.length<=40/\(∀t∈T,eF t)/\Cov mss T 0 n/\dL Pt H/\
 ∀(r:Addr) (TB:List (Option Int)) (ks:List Nat) (H':Hp),H r=none->SameP Pt H H'->dL Pt H'->H' r=some (.lst (ks.map λk=>V.int ((k:Nat):Int)))->TabOk mss T TB->Path mss T TB 0 ks->Q (.ref r) H'
inductive PathTo (mss:List (List (List Nat))) (T:List (List Nat)) (TB:List (Option Int)):Nat->List Nat->Prop
 |nil:PathTo mss T TB 0 []
 |snoc {i k:Nat} {ks:List Nat}:i<T.length->Best mss T TB i k->PathTo mss T TB i ks->PathTo mss T TB (i+bQ mss k) (ks++[k])
def PathTo.path(h:PathTo mss T TB i ks):∀ {rs:List Nat},Path mss T TB i rs->Path mss T TB 0 (ks++rs):=by
 induction h with
 |nil=>exact λh=>h
 |snoc h1 h2 _ ih=>
  intro rs hr;rw[Fn];exact ih (.cons h1 h2 hr)
def PathTo.len(hL:yM mss)(h:PathTo mss T TB i ks):ks.length<=i:=by
 induction h with
 |nil=>exact Ai _
 | @snoc i k ks h1 h2 _ ih=>
  have:=(jR hL (dN h2.st).1).1
  rw[Ag];show ks.length+1<=_
  omega
def sc_cut_text:FnScope ["book", "text", "terms", "meanings", "table", "numbers", "start", "number"] ["book", "text"] (aI mX):=by walk_at "sc"
def aQ5(F:Fun K "cut_text" "cut_text" mX f fd)(G:Gs K mg w Zu Zz Zv Zx Z0 Zw Zy)(c_terms_of:Cal P w K mg base 3 "terms_of" ["text"] pJ)(c_meanings_of:Cal P w K mg base 1 "meanings_of" ["book"] kK)(c_least_numbers:Cal P w K mg base 2 "least_numbers" ["meanings", "terms"] hZ)(c_longest_on:Cal P w K mg base 2 "longest_on" ["meanings", "terms", "table", "start"] (gZ Pt)):FnOk P w K mg base CX0 4 f fd ["book", "text"] (pP Pt):=by
 refine F.ok sc_cut_text (λvs H Q E h=>?_) (λcdv A outer s H vs Q E hr h=>?_)
 ·obtain⟨a,bk,mss,T,n,rfl,_⟩:=h;rfl
 obtain⟨a,bk,mss,T,n,rfl,hbk,h60,hms,h1,h40,hT,hcov,hlam,q⟩:=h;refine⟨_,(@aD _ _ _ _ _ (aM 2 sc_cut_text.nd (aU c_terms_of hr (by decide) rfl (aA (mv 1) aB))) (@aD _ _ _ _ _ (aM 3 sc_cut_text.nd (aU c_meanings_of hr (by decide) rfl (aA (mv 0) aB))) (@aD _ _ _ _ _ (aM 4 sc_cut_text.nd (aU c_least_numbers hr (by decide) rfl (aA (mv 3) (aA (mv 2) aB)))) (@aD _ _ _ _ _ (bY (aX bQI (bG bU (mv 4) aJ (λ_ _=>rfl)) cP (bB _)) (@aH _ _ _ oF) bF) (@aD _ _ _ _ _ (aM 5 sc_cut_text.nd (cC aB)) (@aD _ _ _ _ _ (aM 6 sc_cut_text.nd aJ) (@aD _ _ _ _ _ (tJ Bm (aX aQJ (mv 6) (aS bZ rfl G.b_len bK (aA (mv 2) aB)) (bB _)) (@aD _ _ _ _ _ (aM 7 sc_cut_text.nd (aU c_longest_on hr (by decide) rfl (aA (mv 3) (aA (mv 2) (aA (mv 4) (aA (mv 6) aB)))))) (@aD _ _ _ _ _ (dW (cB Ck Dw Dx aQ4 (mv 5) (aA (mv 7) aB))) (@aH _ _ _ (aM 6 sc_cut_text.nd (aQ bM (mv 6) (aS bZ rfl G.b_len bK (aA (bG bU (mv 3) (mv 7) (λ_ _=>rfl)) aB)))))))) (@aH _ _ _ (aR (mv 5)))))))))),?_⟩
 have hL:=aJ6 hms h60
 walk_at "go";refine⟨T,rfl,h1,h40,hT,λrt H1 hrt s1 ht1=>?_⟩;walk_at "go";refine⟨a,bk,mss,rfl,hbk.keep s1,h60,hms,λrm H2 hrm s2 hm2=>?_⟩;walk_at "go";refine⟨rm,rt,mss,T,rfl,hm2,hL,s2 _ _ ht1,h40,λtb TB H3 htb s3 e3 ok=>?_⟩;obtain⟨m,hmn,em⟩:=(dXN hL ok T.length 0 (by omega)).1 n hcov
 have s03:=s1.trans (s2.trans s3)
 have ht3:=s3 _ _ (s2 _ _ ht1)
 have hm3:=hm2.keep s3
 have l3:=hlam.keep s03
 clear hcov hmn hbk s2 hrm hm2 ht1 hrt htb;walk_at "go";refine cO (aO e3) (v:=.int (m:Int)) (by rw[show (0:Int)=((0:Nat):Int) from rfl,bQW (by rw[ok.len];omega),em];rfl) ?_
 walk_at "go";refine⟨by decide,λpn hpn=>?_⟩
 have s4:=aF hpn (.lst [])
 have e4:(upd H3 pn (.lst [])) pn=some (.lst ((([]:List Nat)).map λk=>V.int ((k:Nat):Int))):=aE
 generalize upd H3 pn (.lst [])=H4 at s4 e4 ⊢;have htl:((T.map aP).map V.str).length=T.length:=by rw[Ab,Ab]
 have hpnH:H pn=none:=none_of s03 hpn
 walk_at "go";refine⟨λm σ H'=>∃(i:Nat) (ks:List Nat) (v7:Option V),σ=[some (.ref a),some (.str (bI T)),some (.ref rt),some (.ref rm),some (.ref tb),some (.ref pn),some (.int (i:Int)),v7]/\m+i=T.length/\SameP Pt H3 H'/\dL Pt H'/\H' pn=some (.lst (ks.map λk=>V.int ((k:Nat):Int)))/\PathTo mss T TB i ks/\∃v,TB.getD i none=some v,
  ⟨T.length,0,[],_,rfl,rfl,Same.p s4,l3.keep s4,e4,.nil,_,em⟩,?_⟩
 rintro m0 σ H5 ⟨i,ks,v7,rfl,hi,sP,l5,e5,hp,v,ev⟩;have ht5:=atP sP l3 ht3 (λ_=>nofun)
 have hm5:=msP hm3 sP l3
 have e35:=atP sP l3 e3 λ_=>nofun
 have rt5:=aO ht5
 have hpl:=hp.len hL
 walk_at "go";rw[htl];refine eJ (λhg=>?_) (λhg=>?_)
 ·have hlt:i<T.length:=by have:=Bd hg;omega
  refine⟨λσ' H'=>∃(i':Nat) (ks:List Nat) (v7:Option V),i<i'/\i'<=T.length/\σ'=[some (.ref a),some (.str (bI T)),some (.ref rt),some (.ref rm),some (.ref tb),some (.ref pn),some (.int (i':Int)),v7]/\SameP Pt H3 H'/\dL Pt H'/\H' pn=some (.lst (ks.map λk=>V.int ((k:Nat):Int)))/\PathTo mss T TB i' ks/\∃v,TB.getD i' none=some v,λσ' H' ⟨i',ks,v7,a1,a2,a3,a4⟩=>⟨T.length-i',by omega,i',ks,v7,a3,by omega,a4⟩,?_⟩
  walk_at "go";refine⟨rm,rt,tb,mss,T,TB,i,v,rfl,hm5,hL,ht5,h40,e35,ok,hlt,ev,l5,λk H6 hb sP6 l6=>?_⟩;have sP36:=sP.trans sP6
  have e6:=atP sP6 l5 e5 λ_=>nofun
  have hm6:=cI e6
  obtain⟨ps,p1,p2,p3⟩:=id hm3;obtain⟨hk,hS⟩:=dN hb.st;have hle:=nY hS (by omega)
  have hk1:=(jR hL hk).1
  have hkl:(ks.map λk=>V.int ((k:Nat):Int)).length<=40:=by rw[Ab];omega
  obtain⟨n',en,en2⟩:=hb.one;have hpj:ps[k]?=some (ps[k]'(by omega)):=Aa _
  obtain⟨ms,hmj⟩:∃ms,mss[k]?=some ms:=⟨_,Aa hk⟩;have hml:((ms.map aP).map V.str).length=bQ mss k:=by unfold bQ;rw[iP hmj,Ab,Ab]
  walk_at "go";have s37:SameP Pt H3 (upd H6 pn (.lst ((ks.map λk=>V.int ((k:Nat):Int))++[V.int (k:Int)]))):=fQ3 hpn sP36
  have l7:dL Pt (upd H6 pn (.lst ((ks.map λk=>V.int ((k:Nat):Int))++[V.int (k:Int)]))):=aJX l6 e6
  have e7:(upd H6 pn (.lst ((ks.map λk=>V.int ((k:Nat):Int))++[V.int (k:Int)]))) pn=some (.lst ((ks++[k]).map λk=>V.int ((k:Nat):Int))):=by rw[aE,Ao];rfl
  generalize upd H6 pn (.lst ((ks.map λk=>V.int ((k:Nat):Int))++[V.int (k:Int)]))=H7 at s37 l7 e7 ⊢;have rps:=rdP s37 l3 (aO p1)
  have rmk:=rdP s37 l3 (aO (p3 k _ ms hpj hmj))
  refine cO rps (v:=.ref (ps[k]'(by omega))) (bD (by rw[Ae,hpj];rfl)) ?_
  walk_at "go";rw[hml];exact⟨i+bQ mss k,ks++[k],_,by omega,hle,rfl,s37,l7,e7,.snoc hlt hb hp,_,en2⟩
 ·walk_at "go";obtain rfl:i=T.length:=by rw[Ci]at hg;omega
  exact q pn TB ks H5 hpnH ((Same.p s03).trans sP) l5 e5 ok (by have:=hp.path .nil;rw[Cb]at this;exact this)
def rC:Sp:=λvs H Q _=>∃c,vs=[.str (one c)]/\aV c/\Q (.int ((c-97:Nat):Int)) H
def tS:Sp:=λvs H Q _=>∃z,vs=[.str z]/\z.length<=1000/\∀H',Same H H'->Q (.bl (mD z)) H'
def gS:Sp:=λvs H Q _=>∃(cs:List Nat),(vs=[.str (aP cs)]\/∃a,vs=[.ref a]/\rdL H a=some ((cs.map one).map V.str))/\cs.length<=1000/\(∀d∈cs,aV d)/\∀H',Same H H'->Q (.bl (fO cs)) H'
def lQ:Sp:=λvs H Q _=>∃(cs:List Nat),vs=[.str (aP cs)]/\cs.length<=7/\(∀d∈cs,aV d)/\∀H',Same H H'->Q (.bl (bXQ cs)) H'
def aZ0:FnScope ["letter"] ["letter"] (aI oO):=by walk_at "sc"
def aJH(F:Fun K "rank_of" "rank_of" oO f fd)(G:Gs K mg w Zu Zz Zv Zx Z0 Zw Zy):FnOk P w K mg base CX0 1 f fd ["letter"] rC:=by
 refine F.ok aZ0 (λvs H Q E h=>?_) (λcdv A outer s H vs Q E hr h=>?_)
 ·obtain⟨c,rfl,_⟩:=h;rfl
 obtain⟨c,rfl,hc,q⟩:=h;refine⟨_,(@aH _ _ _ (aR (cB Cr PySem.F.slot_str_index PySem.F.type_str_index dXE (dQ rfl G.s_LETTERS) (aA (mv 0) aB)))),?_⟩;walk_at "go";exact dXY (dQR hc) q
def aZA:FnScope ["text"] ["text"] (aI oQ):=by walk_at "sc"
def aX7(F:Fun K "is_word" "is_word" oQ f fd)(G:Gs K mg w Zu Zz Zv Zx Z0 Zw Zy):FnOk P w K mg base CX0 1 f fd ["text"] tS:=by
 refine F.ok aZA (λvs H Q E h=>?_) (λcdv A outer s H vs Q E hr h=>?_)
 ·obtain⟨z,rfl,_⟩:=h;rfl
 obtain⟨z,rfl,hl,q⟩:=h;refine⟨_,(@aD _ _ _ _ _ (bY (PW.pt (pM (aX aQJ (aS bZ rfl G.b_len bK (aA (mv 0) aB)) aJ (bB _)) (jT (aX aZB (aS bZ rfl G.b_len bK (aA (mv 0) aB)) (qI rfl G.s_MOST_PLACES) (bB _))))) (@aH _ _ _ (aR eQ)) bF) (@aH _ _ _ (aR (aS (aQW rfl) rfl G.b_all sY (aA (bV rfl (jS (mv 0)) (fN (N:=["sign"]) (by decide +kernel) (by decide +kernel)) (by decide +kernel) rfl (by decide +kernel) (λ_ _ _ _=>(aW (i:=0) (show List.Nodup (["sign"]:List Str) by decide +kernel) rfl (Or.inl rfl))) (λ_ _ _ _=>cK) (λ_ _ _ _=>(fD aQ9 (mv 0) (dQ rfl G.s_LETTERS) (by rfl)))) aB))))),?_⟩
 walk_at "go";refine eJ (λhc=>?_) (λhc=>?_)
 ·walk_at "go";have e:mD z=false:=if_pos (.inl (by have:=Bd hc;omega))
  have r:=q H (Same.refl H)
  rw[e]at r;exact r
 ·have hc':=Bj (Bl.mpr hc)
  walk_at "go";refine eJ (λhd=>?_) (λhd=>?_)
  ·walk_at "go";have e:mD z=false:=if_pos (.inr (by have:=Bd hd;omega))
   have r:=q H (Same.refl H)
   rw[e]at r;exact r
  ·have hd':=Bj (Bl.mpr hd)
   walk_at "go";refine aXX (λc=>some (.bl (decide (c∈lettersT.cps.toList)))) (bA (by omega)) (λi c Hc A B hc' hA=>?_) (λD hD=>?_)
   ·walk_at "go";refine⟨Wk.set rfl (Wk.refl _),?_⟩;walk_at "go";have e:subIn ⟨#[c]⟩ lettersT=decide (c∈lettersT.cps.toList):=lA _ _
    show A (.bl (subIn ⟨#[c]⟩ lettersT)) Hc
    rw[e];exact hA
   ·walk_at "go";have e:z.cps.toList.filterMap (λc=>some (V.bl (decide (c∈lettersT.cps.toList))))=(z.cps.toList.map λc=>decide (c∈lettersT.cps.toList)).map V.bl:=by
     rw[Bt];exact iK _ _
    rw[e];have sm:Same H (upd H D (.lst ((z.cps.toList.map λc=>decide (c∈lettersT.cps.toList)).map V.bl))):=aF hD _
    refine zD (bs:=z.cps.toList.map λc=>decide (c∈lettersT.cps.toList)) cA ?_;have e2:mD z=(z.cps.toList.map λc=>decide (c∈lettersT.cps.toList)).all id:=by
     unfold mD eXD;rw[if_neg (by omega),Hi]
     rfl
    have r:=q _ sm
    rw[e2]at r;exact r
def wgt(cs:List Nat)(i:Nat):Int:=((1+i:Nat):Int)*((cs.getD i 0-97:Nat):Int)
def bJV(hl:cs.length<=1000)(hL:∀d∈cs,aV d):∀n∈(List.range cs.length).map (wgt cs),0<=n/\n<=1000000:=λn hn=>by
 obtain⟨i,hi,rfl⟩:=Ba.mp hn;have hi':=Bw.mp hi
 have hg:=kB hL hi'
 unfold aV at hg;unfold wgt;have h2:((1+i:Nat):Int)*((cs.getD i 0-97:Nat):Int)<=((1+i:Nat):Int)*22:=Int.mul_le_mul_of_nonneg_left (by omega) (by omega)
 exact⟨Int.mul_nonneg (by omega) (by omega),by omega⟩
def sc_is_divided:FnScope ["letters", "weighed"] ["letters"] (aI iV):=by walk_at "sc"
def uK(F:Fun K "is_divided" "is_divided" iV f fd)(G:Gs K mg w Zu Zz Zv Zx Z0 Zw Zy)(c_rank_of:Cal P w K mg base 1 "rank_of" ["letter"] rC):FnOk P w K mg base CX0 2 f fd ["letters"] gS:=by
 refine F.ok sc_is_divided (λvs H Q E h=>?_) (λcdv A outer s H vs Q E hr h=>?_)
 ·obtain⟨cs,rfl|⟨a,rfl,_⟩,_⟩:=h<;>rfl
 obtain⟨cs,hv,hl,hL,q⟩:=h;have fin:∀D Hd,Same H Hd->rdL Hd D=some (((List.range cs.length).map (wgt cs)).map V.int)->∀(Q':VK),(Q' (.int (lH cs cs.length)) Hd)->dJX [.ref D] Hd Q':=λD Hd sD hD Q' q'=>
  dZ7 hD (bJV hl hL) (by rw[Ab,Bq];omega) q'
 have fm:∀(G:Nat->Option V),(∀i,i<cs.length->G i=some (V.int (wgt cs i)))->(List.range cs.length).filterMap G=((List.range cs.length).map (wgt cs)).map V.int:=λG hG=>by
  rw[Bt,<-iK];exact iA λi hi=>hG i (Bw.mp hi)
 rcases hv with rfl|⟨a,rfl,ha⟩
 ·refine⟨_,(@aD _ _ _ _ _ (dX (i:=1) sc_is_divided.nd rfl (Or.inl rfl) rfl (aQ6 rfl G.b_enumerate (aA (mv 0) aB) (oC aJ sT)) (fN (N:=["place", "letter"]) (by decide +kernel) (by decide +kernel)) (by decide +kernel) rfl (by decide +kernel) (λ_ _ _ _=>(cY (K:=K) (i:=0) (j:=1) (by rfl) (by rfl) (show List.Nodup (["place", "letter"]:List Str) by decide +kernel) (by rfl) (by exact Or.inl rfl) (by exact Or.inr rfl) (by rfl) (by exact Or.inl rfl) (by exact Or.inr rfl))) (λ_ _ _ _=>cK) (λ_ _ _ _=>(aQ kC (mv 0) (aU c_rank_of hr (by decide) rfl (aA (mv 1) aB))))) (@aH _ _ _ (aR (fD nZ (aQ dF (aS (bJW rfl) rfl G.b_sum aXT (aA (mv 1) aB)) (aS bZ rfl G.b_len bK (aA (dQ rfl G.s_LETTERS) aB))) aJ (bB _))))),?_⟩
  walk_at "go";refine⟨⟨by omega,by omega⟩,cJK hL,?_⟩
  refine cQ5 (k:=1) (λi c=>some (V.int (((1+i:Nat):Int)*((c-97:Nat):Int)))) (by rw[bW];exact bA (by omega)) (λi c Hc p A B hc sm hp hA=>?_) (λD Hd hD sD hd=>?_)
  ·have hi:=(Ad.mp hc).1
   rw[cF]at hi;walk_at "go";refine⟨Wk.set rfl (Wk.set rfl (Wk.refl _)),?_⟩;walk_at "go";refine⟨c,rfl,hL c (by rw[cF]at hc;exact Al hc),?_⟩
   walk_at "go";exact hA _ (Same.refl _)
  ·rw[bW,cF]at hd;rw[fm (λi=>some (V.int (((1+i:Nat):Int)*((cs.getD i 0-97:Nat):Int)))) (λi _=>rfl)]at hd;walk_at "go";refine fin D Hd sD hd _ ?_;walk_at "go";have r:=q Hd sD
   exact r
 ·refine⟨_,(@aD _ _ _ _ _ (dX (i:=1) sc_is_divided.nd rfl (Or.inl rfl) rfl (aQ6 rfl G.b_enumerate (aA (mv 0) aB) (oC aJ sT)) (fN (N:=["place", "letter"]) (by decide +kernel) (by decide +kernel)) (by decide +kernel) rfl (by decide +kernel) (λ_ _ _ _=>(cY (K:=K) (i:=0) (j:=1) (by rfl) (by rfl) (show List.Nodup (["place", "letter"]:List Str) by decide +kernel) (by rfl) (by exact Or.inl rfl) (by exact Or.inr rfl) (by rfl) (by exact Or.inl rfl) (by exact Or.inr rfl))) (λ_ _ _ _=>cK) (λ_ _ _ _=>(aQ kC (mv 0) (aU c_rank_of hr (by decide) rfl (aA (mv 1) aB))))) (@aH _ _ _ (aR (fD nZ (aQ dF (aS (bJW rfl) rfl G.b_sum aXT (aA (mv 1) aB)) (aS bZ rfl G.b_len bK (aA (dQ rfl G.s_LETTERS) aB))) aJ (bB _))))),?_⟩
  walk_at "go";refine⟨⟨by omega,by omega⟩,?_⟩
  walk_at "go";refine wW (k:=1) (xs:=(cs.map one).map V.str) (λi x=>match x with|.str z=>some (V.int (((1+i:Nat):Int)*((lI z-97:Nat):Int)))|_=>none) ha (by rw[Ab,Ab];exact bA (by omega)) (λi x Hc p A B hx sm hp hA=>?_) (λD Hd hD sD hd=>?_)
  ·obtain⟨z,hz,rfl⟩:=dY hx;rw[Ae]at hz;cases e:cs[i]? with
   |none=>rw[e]at hz;cases hz
   |some c=>
    have hi:=(Ad.mp e).1
    rw[e]at hz;cases hz;walk_at "go";refine⟨Wk.set rfl (Wk.set rfl (Wk.refl _)),?_⟩;walk_at "go";refine⟨c,rfl,hL c (Al e),?_⟩;walk_at "go";exact hA _ (Same.refl _)
  ·rw[Ab,Ab,fm _ (λi hi=>?_)]at hd
   ·walk_at "go";refine fin D Hd sD hd _ ?_;walk_at "go";have r:=q Hd sD
    exact r
   ·have e:((cs.map one).map V.str).getD i .non=.str (one (cs.getD i 0)):=by
     rw[Ac,Ae,Ae,Ac,Aa hi];rfl
    rw[e];rfl
def uE:FnScope ["word"] ["word"] (aI jB):=by walk_at "sc"
def uG(F:Fun K "is_checked" "is_checked" jB f fd)(G:Gs K mg w Zu Zz Zv Zx Z0 Zw Zy)(c_is_word:Cal P w K mg base 1 "is_word" ["text"] tS)(c_is_divided:Cal P w K mg base 2 "is_divided" ["letters"] gS):FnOk P w K mg base CX0 3 f fd ["word"] lQ:=by
 refine F.ok uE (λvs H Q E h=>?_) (λcdv A outer s H vs Q E hr h=>?_)
 ·obtain⟨cs,rfl,_⟩:=h;rfl
 obtain⟨cs,rfl,h7,hL,q⟩:=h;refine⟨_,(@aH _ _ _ (aR (yD (aU c_is_word hr (by decide) rfl (aA (mv 0) aB)) (yD (fD aZB (aS bZ rfl G.b_len bK (aA (mv 0) aB)) aJ (bB _)) (aXO (aU c_is_divided hr (by decide) rfl (aA (mv 0) aB))))))),?_⟩
 have hwl:(aP cs).length=cs.length:=bW cs
 walk_at "go";refine⟨_,rfl,by omega,λH1 s1=>?_⟩
 rw[cX1 hL h7];walk_at "go";refine eJ (λhc=>?_) (λhc=>?_)
 ·walk_at "go";rw[hwl];refine eJ (λhd=>?_) (λhd=>?_)
  ·have hd':=Bd hd
   walk_at "go";refine⟨cs,.inl rfl,by omega,hL,λH2 s2=>?_⟩
   have r:=q H2 (s1.trans s2)
   unfold bXQ at r;rw[Ap (by omega),Fz]at r
   exact r
  ·have hd':=Bj (Bl.mpr hd)
   have r:=q H1 s1
   unfold bXQ at r;rw[Ay (by omega),Fs]at r
   exact r
 ·have hc':=Bj (Bl.mpr hc)
  have r:=q H1 s1
  unfold bXQ at r;rw[Ay (by omega),Fs]at r
  exact r
def lG(cs:List Nat)(k:Nat):List V:=((cs.map one).map V.str).set k .non
def cXW(hk:k<cs.length):(lG cs k).take k=((cs.take k).map one).map V.str:=by
 unfold lG;rw[List.take_set_of_le (Ai _),<-Ff,<-Ff]
def cQQ:(lG cs k).drop (k+1)=((cs.drop (k+1)).map one).map V.str:=by
 unfold lG;rw[List.drop_set_of_lt (by omega),<-Fg,<-Fg]
def cQU:(lG cs k).all cM=true:=by
 rw[Bo];intro x hx;rcases List.mem_or_eq_of_mem_set hx with h|h
 ·obtain⟨z,_,rfl⟩:=Ba.mp h;rfl
 ·rw[h];rfl
def eQO(hk:k<cs.length):(lG cs k)[k]?=some .non:=by
 unfold lG;rw[Gi (by rw[Ab,Ab];exact hk)]
def dJG:∀i y,i<k->(lG cs k)[i]?=some y->y≠.non:=λi y hi hy=>by
 unfold lG at hy;rw[Fq (by omega),Ae]at hy
 cases e:(cs.map one)[i]? with
 |none=>rw[e]at hy;cases hy
 |some z=>rw[e]at hy;cases hy;exact V.noConfusion
def cZT(hk:k<cs.length):((cs.take k).map one).map V.str++[V.str (one d)]++((cs.drop (k+1)).map one).map V.str=((cs.set k d).map one).map V.str:=by
 rw[List.set_eq_take_append_cons_drop,if_pos hk,Ao,Ao,Au,Au,Fn];rfl
def set_set{e:Nat}:(cs.set k d).set k e=cs.set k e:=List.set_set ..
def zL{cs:List Nat}(h7:cs.length<=7)(hL:∀d∈cs,aV d){k d c:Nat}(hk:k<cs.length)(hd:aV d)(h:fO (cs.set k d)=true)(hc:aV c):fO (cs.set k c)=decide (c=d):=by
 have q:=dXW (cs:=cs.set k d) (by rw[Du];exact h7) (bQJ hL hd) (k:=k) (d:=c) (by rw[Du];exact hk) hc h
 rw[set_set,tK hk,if_pos rfl]at q;exact q
def dQ4(g:Nat->β){F:Nat->Bool}(hd:aV d)(h:∀c,aV c->F c=decide (c=d)):lettersT.cps.toList.filterMap (λc=>if F c=true then some (g c) else none)=[g d]:=by
 have q:∀k:_root_.Fin 23,lettersT.cps.toList.filterMap (λc=>if c=97+k.val then some c else none)=[97+k.val]:=by decide +kernel
 unfold aV at hd;have e:=q ⟨d-97,by omega⟩
 simp only[show 97+(d-97)=d by omega]at e
 have e2:lettersT.cps.toList.filterMap (λc=>if F c=true then some (g c) else none)=(lettersT.cps.toList.filterMap (λc=>if c=d then some c else none)).map g:=by
  rw[List.map_filterMap];refine iA λc hc=>?_;rw[h c (mem_letters.mp hc)];by_cases z:c=d
  ·rw[if_pos (Ap z),if_pos z];rfl
  ·rw[if_neg (by rw[Ay z];exact Ar),if_neg z];rfl
 rw[e2,e];rfl
def iB:Sp:=λvs H Q _=>∃(a:Addr) (cs:List Nat) (k:Nat),vs=[.ref a]/\rdL H a=some (lG cs k)/\k<cs.length/\cs.length<=7/\(∀d∈cs,aV d)/\
 ∀(d:Nat) (H':Hp),Same H H'->aV d->fO (cs.set k d)=true->Q (.str (one d)) H'
def sc_hidden_letter:FnScope ["letters", "at", "ahead", "behind"] ["letters"] (aI dS):=by walk_at "sc"
def oU(F:Fun K "hidden_letter" "hidden_letter" dS f fd)(G:Gs K mg w Zu Zz Zv Zx Z0 Zw Zy)(c_is_divided:Cal P w K mg base 2 "is_divided" ["letters"] gS):FnOk P w K mg base CX0 3 f fd ["letters"] iB:=by
 refine F.ok sc_hidden_letter (λvs H Q E h=>?_) (λcdv A outer s H vs Q E hr h=>?_)
 ·obtain⟨a,cs,k,rfl,_⟩:=h;rfl
 obtain⟨a,cs,k,rfl,ha,hk,h7,hL,q⟩:=h;refine⟨_,(@aD _ _ _ _ _ (aM 1 sc_hidden_letter.nd (cB Ck Ey PySem.F.type_list_index cXM (mv 0) (aA cP aB))) (@aD _ _ _ _ _ (aM 2 sc_hidden_letter.nd (iH dXJ (mv 0) aJY (fE (mv 1)))) (@aD _ _ _ _ _ (aM 3 sc_hidden_letter.nd (iH dXJ (mv 0) (fE (aQ bM (mv 1) aJ)) aJY)) (@aH _ _ _ (aR (bG bU (bV rfl (jS (dQ rfl G.s_LETTERS)) (eR (N:=["letter", "behind", "ahead"]) ["letters", "at", "ahead", "behind"] (aI dS) [none,some 3,some 2] rfl rfl rfl (λx h=>bP h) (by decide +kernel)) (by decide +kernel) rfl (by decide +kernel) (λ_ _ _ _=>(aW (i:=0) (show List.Nodup (["letter", "behind", "ahead"]:List Str) by decide +kernel) rfl (Or.inl rfl))) (λ_ _ _ _=>(fG (fY (aU c_is_divided hr (by decide) rfl (aA (aQ bM (aQ bM (mv 2) (cC (aA (mv 0) aB))) (mv 1)) aB))))) (λ_ _ _ _=>(mv 0))) aJ (λ_ _=>rfl))))))),?_⟩
 walk_at "go";refine cXP ha cQU (eQO hk) dJG ?_;walk_at "go";intro r hr;rw[bJK (by omega),show ((k:Nat):Int).toNat=k from rfl,cXW hk]
 have s1:Same H (upd H r (.lst (((cs.take k).map one).map V.str))):=aF hr _
 have m1:iD (upd H r (.lst (((cs.take k).map one).map V.str))) r=some (((cs.take k).map one).map V.str):=cW
 have e1:(upd H r (.lst (((cs.take k).map one).map V.str))) r=some (.lst (((cs.take k).map one).map V.str)):=aE
 generalize upd H r (.lst (((cs.take k).map one).map V.str))=H1 at s1 m1 e1 ⊢;have ha1:=aK s1 ha
 walk_at "go";intro r2 hr2;rw[bQ8 (by omega),show ((k:Nat)+1:Int).toNat=k+1 by omega,cQQ]
 have s2:Same H1 (upd H1 r2 (.lst (((cs.drop (k+1)).map one).map V.str))):=aF hr2 _
 have e2:(upd H1 r2 (.lst (((cs.drop (k+1)).map one).map V.str))) r2=some (.lst (((cs.drop (k+1)).map one).map V.str)):=aE
 generalize upd H1 r2 (.lst (((cs.drop (k+1)).map one).map V.str))=H2 at s2 e2 ⊢;have e1':=s2 _ _ e1
 walk_at "go";obtain⟨d,hd,hdv⟩:=sG h7 hk;have lt:(((cs.take k).map one).map V.str).length<=7:=by rw[Ab,Ab,Br];omega
 have ld:(((cs.drop (k+1)).map one).map V.str).length<=7:=by rw[Ab,Ab,Cq];omega
 refine aJM (λc=>if fO (cs.set k c)=true then some (V.str (one c)) else none) (bA (by decide)) (λi c Hc A B hc sm hA=>?_) (λD Hd hD sD hd'=>?_)
 ·have hcl:aV c:=mem_letters.mp (Al hc)
  walk_at "go";refine⟨Wk.set rfl (Wk.refl _),?_⟩;walk_at "go";refine⟨by show 1<=sizeLine;decide,λp1 hp1=>?_⟩
  have c1:=sm _ _ e1'
  have c2:=sm _ _ e2
  have n1:r≠p1:=bE c1 hp1
  have n2:r2≠p1:=bE c2 hp1
  walk_at "go";refine mM (xs:=((cs.take k).map one).map V.str) (ys:=[V.str (one c)]) (by rw[qM n1];exact cI c1) cW (bH (by show _+1<=_;omega)) λl hl=>?_
  have c3:(upd (upd Hc p1 (.lst [V.str (one c)])) l (.lst (((cs.take k).map one).map V.str++[V.str (one c)]))) r2=some (.lst (((cs.drop (k+1)).map one).map V.str)):=aF hl _ _ _ (aF hp1 _ _ _ c2)
  walk_at "go";refine mM (xs:=((cs.take k).map one).map V.str++[V.str (one c)]) (ys:=((cs.drop (k+1)).map one).map V.str) cW (cI c3) (bH (by rw[Ag];show _+1+_<=_;omega)) λl2 hl2=>?_
  rw[cZT hk];have s5:Same Hc (upd (upd (upd Hc p1 (.lst [V.str (one c)])) l (.lst (((cs.take k).map one).map V.str++[V.str (one c)]))) l2 (.lst (((cs.set k c).map one).map V.str))):=(aF hp1 _).trans ((aF hl _).trans (aF hl2 _))
  have c5:rdL (upd (upd (upd Hc p1 (.lst [V.str (one c)])) l (.lst (((cs.take k).map one).map V.str++[V.str (one c)]))) l2 (.lst (((cs.set k c).map one).map V.str))) l2=some (((cs.set k c).map one).map V.str):=cA
  generalize upd (upd (upd Hc p1 (.lst [V.str (one c)])) l (.lst (((cs.take k).map one).map V.str++[V.str (one c)]))) l2 (.lst (((cs.set k c).map one).map V.str))=H5 at s5 c5 ⊢;walk_at "go";refine⟨cs.set k c,.inr ⟨l2,rfl,c5⟩,by rw[Du];omega,bQJ hL hcl,λH6 s6=>?_⟩
  have r6:=hA H6 (s5.trans s6)
  walk_at "go";by_cases hb:fO (cs.set k c)=true
  ·rw[if_pos hb]at r6;rw[if_pos hb];walk_at "go";exact r6
  ·rw[if_neg hb]at r6;rw[if_neg hb];exact r6
 ·rw[show (Str.ofString "abcdefghijklmnopqrstuvw").cps.toList.filterMap (λc=>if fO (cs.set k c)=true then some (V.str (one c)) else none)=[V.str (one d)] from dQ4 (λc=>V.str (one c)) hd λc hc=>zL h7 hL hk hd hdv hc]at hd'
  walk_at "go";refine cO (aO hd') (v:=V.str (one d)) rfl ?_;exact q d Hd (s1.trans (s2.trans sD)) hd hdv
def jP{x:Nat}:(cs++[x]).set cs.length d=cs++[d]:=by
 rw[List.set_append_right _ _ (Ai _),El];rfl
def cXH:(cs.map one).map V.str++[V.non]=lG (cs++[97]) cs.length:=by
 unfold lG;rw[Ao,Ao,List.set_append_right _ _ (by rw[Ab,Ab];exact Ai _),Ab,Ab,El]
 rfl
def zH(hL:∀d∈cs,aV d){c:Nat}(hc:aV c):∀d∈cs++[c],aV d:=λd hd=>by
 rcases By.mp hd with h|h
 ·exact hL d h
 ·rw[Am.mp h];exact hc
def kD:Sp:=λvs H Q _=>∃(cs:List Nat),vs=[.str (aP cs)]/\1<=cs.length/\cs.length<=6/\(∀d∈cs,aV d)/\∀(d:Nat) (H':Hp),Same H H'->aV d->fO (cs++[d])=true->Q (.str (one d)) H'
def zB:FnScope ["word"] ["word"] (aI mK):=by walk_at "sc"
def aQ3(F:Fun K "check_of" "check_of" mK f fd)(G:Gs K mg w Zu Zz Zv Zx Z0 Zw Zy)(c_hidden_letter:Cal P w K mg base 3 "hidden_letter" ["letters"] iB):FnOk P w K mg base CX0 4 f fd ["word"] kD:=by
 refine F.ok zB (λvs H Q E h=>?_) (λcdv A outer s H vs Q E hr h=>?_)
 ·obtain⟨cs,rfl,_⟩:=h;rfl
 obtain⟨cs,rfl,h1,h6,hL,q⟩:=h;refine⟨_,(@aH _ _ _ (aR (aU c_hidden_letter hr (by decide) rfl (aA (aQ bM (bR (dXK rfl) rfl G.b_list eM (aA (mv 0) aB)) (cC (aA cP aB))) aB)))),?_⟩
 have hwl:(aP cs).length=cs.length:=bW cs
 walk_at "go";intro r hr;have el:(aP cs).cps.toList.map (λc=>V.str ⟨#[c]⟩)=(cs.map one).map V.str:=by rw[cF,Bt];rfl
 rw[el];walk_at "go";refine⟨by show 1<=sizeLine;decide,λp hp=>?_⟩
 have nr:r≠p:=λz=>by rw[<-z,aE]at hp;cases hp
 refine mM (xs:=(cs.map one).map V.str) (ys:=[V.non]) (by rw[qM nr];exact cW) cW (bH (by rw[Ab,Ab];show _+1<=_;omega)) λl hl=>?_
 rw[cXH];have s1:Same H (upd (upd (upd H r (.lst ((cs.map one).map V.str))) p (.lst [V.non])) l (.lst (lG (cs++[97]) cs.length))):=(aF hr _).trans ((aF hp _).trans (aF hl _))
 have e1:rdL (upd (upd (upd H r (.lst ((cs.map one).map V.str))) p (.lst [V.non])) l (.lst (lG (cs++[97]) cs.length))) l=some (lG (cs++[97]) cs.length):=cA
 generalize upd (upd (upd H r (.lst ((cs.map one).map V.str))) p (.lst [V.non])) l (.lst (lG (cs++[97]) cs.length))=H1 at s1 e1 ⊢;walk_at "go";have ll:(cs++[97]).length=cs.length+1:=by rw[Ag];rfl
 refine⟨l,cs++[97],cs.length,rfl,e1,by omega,by omega,zH hL (by decide),λd H2 s2 hd hdv=>?_⟩
 rw[jP]at hdv;exact q d H2 (s1.trans s2) hd hdv
def vK(h6:cs.length<=6)(hL:∀d∈cs,aV d){c:Nat}(hd:aV d)(h:fO (cs++[d])=true)(hc:aV c):fO (cs++[c])=decide (c=d):=by
 have ll:(cs++[97]).length=cs.length+1:=by rw[Ag];rfl
 have q:=zL (cs:=cs++[97]) (by omega) (zH hL (by decide)) (k:=cs.length) (d:=d) (c:=c) (by omega) hd (by rw[jP];exact h) hc
 rw[jP]at q;exact q
def sV:Option Nat->V
 |none=>.non
 |some c=>.str (one c)
def aJ2(cw:List Nat)(k:Nat):Option Nat->Bool
 |none=>true
 |some c=>decide (c∈chs cw k)
def rQ(ss:List (Option Nat))(cw:List Nat):Bool:=decide (ss.length=cw.length)&&(List.range ss.length).all λk=>aJ2 cw k (ss.getD k none)
def hJ:Sp:=λvs H Q _=>∃(a:Addr) (ss:List (Option Nat)) (cw:List Nat),vs=[.ref a,.str (aP cw)]/\rdL H a=some (ss.map sV)/\ss.length<=1000/\cw.length<=7/\∀H',Same H H'->Q (.bl (rQ ss cw)) H'
def bXR(h:ss.length≠cw.length):rQ ss cw=false:=by
 unfold rQ;rw[Ay h,Fs]
def bJY(h:ss.length=cw.length)(e:∀k,k<ss.length->aJ2 cw k (ss.getD k none)=true):rQ ss cw=true:=by
 unfold rQ;rw[Ap h,Fz,Bo];exact λk hk=>e k (Bw.mp hk)
def pF(ss:List (Option Nat))(i:Nat):Option (Nat×Nat):=(ss.getD i none).map λc=>(i,c)
def iG(ss:List (Option Nat)):List (Nat×Nat):=(List.range ss.length).filterMap (pF ss)
def cZ2(x:Nat×Nat):List V:=[.int ((1+x.1:Nat):Int),.str (one x.2)]
def bJ8(cw:List Nat)(x:Nat×Nat):Bool:=decide (x.2∈chs cw x.1)
def cJH{x:Nat×Nat}(h:x∈iG ss):x.1<ss.length:=by
 obtain⟨i,hi,e⟩:=Ca.mp h;unfold pF at e;cases e2:ss.getD i none with
 |none=>rw[e2]at e;cases e
 |some c=>rw[e2]at e;cases e;exact Bw.mp hi
def cZA(ss:List (Option Nat))(cw:List Nat):((iG ss).map (bJ8 cw)).all id=(List.range ss.length).all λk=>aJ2 cw k (ss.getD k none):=by
 rw[Fc,Bo,Bo];constructor
 ·intro h k hk;cases e:ss.getD k none with
  |none=>rfl
  |some c=>exact h _ (Ba.mpr ⟨(k,c),Ca.mpr ⟨k,hk,by unfold pF;rw[e];rfl⟩,rfl⟩)
 ·intro h b hb;obtain⟨x,hx,rfl⟩:=Ba.mp hb;obtain⟨i,hi,e⟩:=Ca.mp hx;have r:=h i hi
  unfold pF at e;cases e2:ss.getD i none with
  |none=>rw[e2]at e;cases e
  |some c=>rw[e2]at e r;cases e;exact r
def bZ7(F:α->V):∀xs:List α,(List.range xs.length).filterMap (λj=>(xs[j]?).map F)=xs.map F:=λxs=>by
 have h:∀n,n<=xs.length->(List.range n).filterMap (λj=>(xs[j]?).map F)=(xs.take n).map F:=λn=>by
  induction n with
  |zero=>intro _;rfl
  |succ n ih=>
   intro hn;have e:xs[n]?=some xs[n]:=Aa (by omega)
   rw[fA (y:=F xs[n]) (by rw[e];rfl),ih (by omega),Bh,e,Ao]
   rfl
 have r:=h xs.length (Ai _)
 rw[Cj]at r;exact r
def sc_fits_sight:FnScope ["sight", "word", "seen"] ["sight", "word"] (aI fP):=by walk_at "sc"
def uO(F:Fun K "fits_sight" "fits_sight" fP f fd)(G:Gs K mg w Zu Zz Zv Zx Z0 Zw Zy)(c_choices_at:Cal P w K mg base 1 "choices_at" ["word", "place"] gY):FnOk P w K mg base CX0 2 f fd ["sight", "word"] hJ:=by
 refine F.ok sc_fits_sight (λvs H Q E h=>?_) (λcdv A outer s H vs Q E hr h=>?_)
 ·obtain⟨a,ss,cw,rfl,_⟩:=h;rfl
 obtain⟨a,ss,cw,rfl,ha,hl,h7,q⟩:=h;refine⟨_,(@aD _ _ _ _ _ (bY (aX dQN (aS bZ rfl G.b_len bK (aA (mv 0) aB)) (aS bZ rfl G.b_len bK (aA (mv 1) aB)) (bB _)) (@aH _ _ _ (aR eQ)) bF) (@aD _ _ _ _ _ (dX (i:=2) sc_fits_sight.nd rfl (Or.inl rfl) rfl (aQP rfl G.b_enumerate (aA (mv 0) aB) (oC aJ sT)) (fN (N:=["place", "flag"]) (by decide +kernel) (by decide +kernel)) (by decide +kernel) rfl (by decide +kernel) (λ_ _ _ _=>(cY (K:=K) (i:=0) (j:=1) (by rfl) (by rfl) (show List.Nodup (["place", "flag"]:List Str) by decide +kernel) (by rfl) (by exact Or.inl rfl) (by exact Or.inr rfl) (by rfl) (by exact Or.inl rfl) (by exact Or.inr rfl))) (λ_ _ _ _=>(fG (aX sL (mv 1) cP (bB _)))) (λ_ _ _ _=>(lY (aA (mv 0) (aA (mv 1) aB))))) (@aH _ _ _ (aR (aS (aQW rfl) rfl G.b_all sY (aA (bV rfl (bO (mv 2)) (eR (N:=["place", "flag", "word"]) ["sight", "word", "seen"] (aI fP) [none,none,some 1] rfl rfl rfl (λx h=>bP h) (by decide +kernel)) (by decide +kernel) rfl (by decide +kernel) (λ_ _ _ _=>(cY (K:=K) (i:=0) (j:=1) (by rfl) (by rfl) (show List.Nodup (["place", "flag", "word"]:List Str) by decide +kernel) (by rfl) (by exact Or.inl rfl) (by exact Or.inr rfl) (by rfl) (by exact Or.inl rfl) (by exact Or.inr rfl))) (λ_ _ _ _=>cK) (λ_ _ _ _=>(fD dZY (mv 1) (aU c_choices_at hr (by decide) rfl (aA (mv 2) (aA (mv 0) aB))) (by rfl)))) aB)))))),?_⟩
 have hwl:(aP cw).length=cw.length:=bW cw
 have hsl:(ss.map sV).length=ss.length:=Ab _
 walk_at "go";rw[hwl,hsl];refine eJ (λhc=>?_) (λhc=>?_)
 ·walk_at "go";have r:=q H (Same.refl H)
  rw[bXR (λz=>by rw[z]at hc;simp at hc)]at r
  exact r
 ·have he:ss.length=cw.length:=by
   have z:=Bl.mpr hc
   simp at z;omega
  walk_at "go";refine⟨⟨by omega,by omega⟩,?_⟩
  walk_at "go";refine cZS (k:=1) (xs:=ss.map sV) (λi=>(pF ss i).map cZ2) ha (by rw[hsl];exact bA (by omega)) (λi x Hc p A B hx sm hp hA hB=>?_) (λD Hd ps hD sD hd hpl tp=>?_)
  ·rw[Ae]at hx;cases e:ss[i]? with
   |none=>rw[e]at hx;cases hx
   |some o=>
    rw[e]at hx;have eg:ss.getD i none=o:=by rw[Ac,e];rfl
    unfold pF at hA hB;rw[eg]at hA hB;cases o with
    |none=>
     cases hx;walk_at "go";refine⟨Wk.set rfl (Wk.set rfl (Wk.refl _)),?_⟩;walk_at "go";exact hB rfl _ (Same.refl _)
    |some c=>
     cases hx;walk_at "go";refine⟨Wk.set rfl (Wk.set rfl (Wk.refl _)),?_⟩;walk_at "go";refine⟨by show 2<=sizeLine;decide,λq2 hq2=>?_⟩
     exact hA _ rfl q2 _ (none_of (aF hp _) hq2) (aF hq2 _) aE
  ·rw [hsl,show (λi=>(pF ss i).map cZ2)=λi=>(pF ss i).map cZ2 from rfl,<-List.map_filterMap] at tp;have tpl:ps.length=(iG ss).length:=by
    rw[tp.1,Ab];rfl
   have rd:=aO hd
   have hsn:(iG ss).length<=1000:=by rw[<-tpl];omega
   walk_at "go";refine dP (xs:=ps.map V.ref) (λj=>((iG ss)[j]?).map λx=>V.bl (bJ8 cw x)) rd (by rw[Ab];exact bA (by omega)) (λi x Hc A B hx sm hA hB=>?_) (λD2 Hd2 hD2 sD2 hd2=>?_)
   ·rw[Ae]at hx;cases e:ps[i]? with
    |none=>rw[e]at hx;cases hx
    |some p=>
     rw[e]at hx;cases hx;have hi:i<(iG ss).length:=by rw[<-tpl];exact(Ad.mp e).1
     have e3:(iG ss)[i]?=some (iG ss)[i]:=Aa hi
     have hm:=cJH (Al e3)
     have ht:=(tp.2 i p (cZ2 (iG ss)[i]) e (by rw[Ae];exact Dm (Option.map cZ2) e3)).2
     rw[e3]at hA;generalize (iG ss)[i]=x at ht hA hm;obtain⟨k,c⟩:=x;have tc:sZ Hc p=some [.int ((1+k:Nat):Int),.str (one c)]:=dE (sm _ _ ht)
     walk_at "go";refine⟨Wk.set rfl (Wk.set rfl (Wk.refl _)),?_⟩;walk_at "go";refine⟨cw,k,_,rfl,by omega,by omega,h7,λr3 H3 hr3 s3 he3=>?_⟩
     walk_at "go";refine wM (aO he3) rfl (cE _) ?_;rw[cZQ];exact hA _ rfl _ s3
   ·walk_at "go";rw[Ab,tpl]at hd2;have e4:=bZ7 (λx=>V.bl (bJ8 cw x)) (iG ss)
    rw[e4,show (iG ss).map (λx=>V.bl (bJ8 cw x))=((iG ss).map (bJ8 cw)).map V.bl by rw[Bt];rfl]at hd2
    refine zD (aO hd2) ?_;rw[cZA];have r:=q Hd2 (sD.trans sD2)
    unfold rQ at r;rw[Ap he,Fz]at r;exact r
def ckL(cs:List Nat):Nat:=(lettersT.cps.toList.find? λd=>fO (cs++[d])).getD 0
def aQF(h6:cs.length<=6)(hL:∀d∈cs,aV d)(hd:aV d)(h:fO (cs++[d])=true):ckL cs=d:=by
 unfold ckL;cases e:lettersT.cps.toList.find? λd=>fO (cs++[d]) with
 |none=>exact absurd h (by have:=List.find?_eq_none.mp e d (mem_letters.mpr hd);exact this)
 |some c=>
  have hc:=List.find?_some e
  have hm:=mem_letters.mp (List.mem_of_find?_eq_some e)
  have r:=vK h6 hL hd h hm
  have hc2:fO (cs++[c])=true:=hc
  rw[hc2]at r;exact Bd r.symm
def eZ:Sp:=λvs H Q _=>∃(cs:List Nat),vs=[.str (aP cs)]/\1<=cs.length/\cs.length<=6/\(∀d∈cs,aV d)/\∀H',Same H H'->aV (ckL cs)->fO (cs++[ckL cs])=true->Q (.str (aP (cs++[ckL cs]))) H'
def uB:FnScope ["word"] ["word"] (aI iN):=by walk_at "sc"
def uU(F:Fun K "with_check" "with_check" iN f fd)(G:Gs K mg w Zu Zz Zv Zx Z0 Zw Zy)(c_check_of:Cal P w K mg base 4 "check_of" ["word"] kD):FnOk P w K mg base CX0 5 f fd ["word"] eZ:=by
 refine F.ok uB (λvs H Q E h=>?_) (λcdv A outer s H vs Q E hr h=>?_)
 ·obtain⟨cs,rfl,_⟩:=h;rfl
 obtain⟨cs,rfl,h1,h6,hL,q⟩:=h;refine⟨_,(@aH _ _ _ (aR (aQ bM (mv 0) (aU c_check_of hr (by decide) rfl (aA (mv 0) aB))))),?_⟩
 have hwl:(aP cs).length=cs.length:=bW cs
 walk_at "go";refine⟨cs,rfl,h1,h6,hL,λd H1 s1 hd hdv=>?_⟩;have e:=aQF h6 hL hd hdv
 have h1l:(one d).length=1:=rfl
 walk_at "go";have r:=q H1 s1
 rw[e]at r;rw[eW];exact r hd hdv
def bQ0(ws:List (List Nat)):Prop:=∀cs∈ws,1<=cs.length/\cs.length<=6/\∀d∈cs,aV d
def dQB(ws:List (List Nat))(ss:List (Option Nat)):List Nat:=(List.range ws.length).filter λi=>rQ ss (ws.getD i []++[ckL (ws.getD i [])])
def nV(n:Nat):V:=.int (n:Int)
def BkW(H:Hp)(r:Addr)(ws:List (List Nat)):Prop:=∃(ps:List Addr) (ms:List Str),H r=some (.lst (ps.map V.ref))/\ps.length=ws.length/\ms.length=ws.length/\∀(j:Nat) p cs,ps[j]?=some p->ws[j]?=some cs->H p=some (.tup [.str (aP cs),.str (ms.getD j ⟨#[]⟩)])
def sC:Sp:=λvs H Q _=>∃(a b:Addr) (ws:List (List Nat)) (ss:List (Option Nat)),vs=[.ref a,.ref b]/\BkW H a ws/\bQ0 ws/\ws.length<=100/\rdL H b=some (ss.map sV)/\ss.length<=1000/\
 ∀(r:Addr) (H':Hp),H r=none->Same H H'->H' r=some (.lst ((dQB ws ss).map nV))->Q (.ref r) H'
def bXF{n:Nat}(F:Nat->Bool):(List.range n).filterMap (λi=>if F i=true then some (nV i) else none)=((List.range n).filter F).map nV:=by
 induction n with
 |zero=>rfl
 |succ n ih=>
  rw[Cf,Bf,Fb,Ao,ih];congr 1
  by_cases h:F n=true
  ·simp[h]
  ·simp[h]
def aXJ:FnScope ["book", "sight"] ["book", "sight"] (aI kR):=by walk_at "sc"
def aX8(F:Fun K "read_in" "read_in" kR f fd)(G:Gs K mg w Zu Zz Zv Zx Z0 Zw Zy)(c_fits_sight:Cal P w K mg base 2 "fits_sight" ["sight", "word"] hJ)(c_with_check:Cal P w K mg base 5 "with_check" ["word"] eZ):FnOk P w K mg base CX0 6 f fd ["book", "sight"] sC:=by
 refine F.ok aXJ (λvs H Q E h=>?_) (λcdv A outer s H vs Q E hr h=>?_)
 ·obtain⟨a,b,ws,ss,rfl,_⟩:=h;rfl
 obtain⟨a,b,ws,ss,rfl,hbk,hok,h100,hb,hl,q⟩:=h;refine⟨_,(@aH _ _ _ (aR (bV rfl (kZ rfl G.b_enumerate (aA (mv 0) aB)) (eR (N:=["number", "row", "sight"]) ["book", "sight"] (aI kR) [none,none,some 1] rfl rfl rfl (λx h=>bP h) (by decide +kernel)) (by decide +kernel) rfl (by decide +kernel) (λ_ _ _ _=>(cY (K:=K) (i:=0) (j:=1) (by rfl) (by rfl) (show List.Nodup (["number", "row", "sight"]:List Str) by decide +kernel) (by rfl) (by exact Or.inl rfl) (by exact Or.inr rfl) (by rfl) (by exact Or.inl rfl) (by exact Or.inr rfl))) (λ_ _ _ _=>(fG (fY (aU c_fits_sight hr (by decide) rfl (aA (mv 2) (aA (aU c_with_check hr (by decide) rfl (aA (bG bU (mv 1) aJ (λ_ _=>rfl)) aB)) aB)))))) (λ_ _ _ _=>(mv 0))))),?_⟩
 obtain⟨ps,ms,b1,b2,b3,b4⟩:=id hbk;have rq:=aO b1
 have hql:(ps.map V.ref).length=ws.length:=by rw[Ab,b2]
 walk_at "go";refine cZ4 (k:=0) (xs:=ps.map V.ref) (λi=>if rQ ss (ws.getD i []++[ckL (ws.getD i [])])=true then some (nV i) else none) rq (by rw[hql];exact bA (by omega)) (λi x Hc p A B hx sm hp hA hB=>?_) (λD Hd hD sD hd=>?_)
 ·rw[Ae]at hx;cases e:ps[i]? with
  |none=>rw[e]at hx;cases hx
  |some pt=>
   rw[e]at hx;cases hx;have hi:i<ws.length:=by rw[<-b2];exact(Ad.mp e).1
   have ew:ws[i]?=some ws[i]:=Aa hi
   have eg:ws.getD i []=ws[i]:=by rw[Ac,ew];rfl
   have ht:=aF hp (.tup [.int ((0+i:Nat):Int),.ref pt]) _ _ (sm _ _ (b4 i pt _ e ew))
   obtain⟨w1,w6,wL⟩:=hok _ (Al ew);rw[eg]at hA hB;generalize ws[i]=cs at ht w1 w6 wL hA hB;have hrb:=aK (sm.trans (aF hp (.tup [.int ((0+i:Nat):Int),.ref pt]))) hb
   walk_at "go";refine⟨Wk.set rfl (Wk.set rfl (Wk.refl _)),?_⟩;walk_at "go";refine dJ ht (v:=.str (aP cs)) rfl ?_;walk_at "go";refine⟨cs,rfl,w1,w6,wL,λH1 s1 hd hdv=>?_⟩;walk_at "go";refine⟨b,ss,cs++[ckL cs],rfl,aK s1 hrb,hl,by rw[Ag];show _+1<=_;omega,λH2 s2=>?_⟩
   walk_at "go";refine eJ (λhf=>?_) (λhf=>?_)
   ·walk_at "go";have r:=hA (nV i) (if_pos hf) _ (s1.trans s2)
    rw[show (nV i)=.int ((0+i:Nat):Int) by unfold nV;rw[Nat.zero_add]]at r
    exact r
   ·walk_at "go";exact hB (if_neg hf) _ (s1.trans s2)
 ·rw[hql,bXF]at hd;walk_at "go";exact q D Hd hD sD hd
def dO(mss:List (List (List Nat)))(js:List Nat):List (List Nat):=(js.map λj=>mss.getD j []).flatten
def dC(mss:List (Q6))(j:Nat)(b:List Nat):dO mss (j::b)=mss.getD j []++dO mss b:=by
 unfold dO;rw[Au,Co]
def vI(sep:Str):∀(a b:List Str),a≠[]->b≠[]->Str.join sep (a++b)=Str.join sep a++sep++Str.join sep b
 |[],_,h,_=>absurd rfl h
 |[x],y::r,_,_=>rfl
 |[x],[],_,h=>absurd rfl h
 |x::z::a,b,_,h=>by
  have ih:=vI sep (z::a) b (by simp) h
  show x++sep++Str.join sep ((z::a)++b)=(x++sep++Str.join sep (z::a))++sep++Str.join sep b
  rw[ih];simp only[Str.append_assoc]
def vN{a b:Q6}(ha:a≠[])(hb:b≠[]):bI (a++b)=bI a++Str.ofString " " ++ bI b:=by
 have e:∀ts:List (List Nat),bI ts=Str.join (Str.ofString " ") (ts.map aP):=λts=>Dd _ _
 rw[e,e,e,Ao];exact vI _ _ _ (by simpa using ha) (by simpa using hb)
def cXI(l:List Str):Txt.join " " l=Str.join (Str.ofString " ") l:=Dd _ _
def oI:∀ {js:List Nat},js≠[]->(∀j∈js,mss.getD j []≠[])->Txt.join " " (js.map λj=>bI (mss.getD j []))=bI (dO mss js)
 |[],h,_=>absurd rfl h
 |[j],_,_=>by
  rw[cXI];show bI (mss.getD j [])=_
  rw[dC];unfold dO;simp
 |j::k::r,_,h=>by
  have ih:=oI (js:=k::r) (by simp) λj hj=>h j (List.mem_cons_of_mem _ hj)
  have hne:dO mss (k::r)≠[]:=by
   rw[dC];exact λz=>h k (by simp) (List.append_eq_nil_iff.mp z).1
  rw[dC,vN (h j (by simp)) hne,<-ih,cXI,cXI]
  rfl
def zZ(hL:yM mss):∀ {js:List Nat} {i:Nat},i<=T.length->(∀j∈js,j<mss.length)->T.drop i=dO mss js->Cov mss T i js.length
 |[],i,hi,_,h=>by
  have:i=T.length:=by
   have:=Dm List.length h
   rw[Cq]at this;have e:(dO mss []).length=0:=rfl
   omega
  subst this;exact .nil
 |j::r,i,hi,hj,h=>by
  rw[dC]at h;have hjl:=hj j Ak
  have hm:=(jR hL hjl).1
  have hlen:=Dm List.length h
  rw[Cq,Ag]at hlen;have hml:(mss.getD j []).length=bQ mss j:=rfl
  have hst:j∈dG mss T i:=by
   refine Dt.mpr ⟨Bw.mpr hjl,Ap ?_⟩;show (T.drop i).take (bQ mss j)=_
   rw[h,<-hml,List.take_left'];rfl
  refine .cons (by omega) hst (zZ hL (by omega) (λk hk=>hj k (Aj _ hk)) ?_)
  rw[<-List.drop_drop,h,<-hml,List.drop_left'];rfl
def eJF{n:Nat}(h:Cov mss T i n):∃js:List Nat,(∀j∈js,j<mss.length)/\T.drop i=dO mss js/\js.length=n:=by
 induction h with
 |nil=>exact⟨[],(λj hj=>nomatch hj),List.drop_length,rfl⟩
 | @cons i k n hi hk _ ih=>
  obtain⟨js,h1,h2,h3⟩:=ih;obtain⟨hkl,hS⟩:=dN hk;refine⟨k::js,λj hj=>?_,?_,by rw[Aw,h3]⟩
  ·rcases Be.mp hj with rfl|z
   ·exact hkl
   ·exact h1 j z
  ·rw[dC,<-h2,<-List.drop_drop,<-show (T.drop i).take (bQ mss k)=mss.getD k [] from hS];exact(List.take_append_drop _ _).symm
def cQ7(hk:k∈dG mss T i):T.drop i=mss.getD k []++T.drop (i+bQ mss k):=by
 obtain⟨hkl,hS⟩:=dN hk;rw[<-List.drop_drop,<-show (T.drop i).take (bQ mss k)=mss.getD k [] from hS];exact(List.take_append_drop _ _).symm
def kU(h:Path mss T TB i ks):T.drop i=dO mss ks/\∀k∈ks,k<mss.length:=by
 induction h with
 |nil=>exact⟨List.drop_length,λk hk=>nomatch hk⟩
 | @cons i k ks hi hb _ ih=>
  refine⟨by rw[dC,<-ih.1];exact cQ7 hb.st,λj hj=>?_⟩
  rcases Be.mp hj with rfl|z
  ·exact(dN hb.st).1
  ·exact ih.2 j z
def kE(bk:List (Str×Str))(cws:List (List Nat)):Prop:=cws.length=bk.length/\∀(j:Nat) b cw,bk[j]?=some b->cws[j]?=some cw->b.1=aP cw/\1<=cw.length/\cw.length<=6/\∀d∈cw,aV d
def kT(m:Nat->Int)(c:Nat):0<=aZ (cH m) c:=by
 unfold aZ cH;split
 ·rename_i h
  exact Int.le_of_lt (by simp only[Option.getD_some];exact h.2)
 ·exact Int.le_refl _
structure TwSt (H:Hp) (B R:Addr) (hs:List (Option (List Nat))) (f:Nat->Option Int):Prop where
 hal:∃us,H B=some (.lst us)/\HalsAt H us hs
 ok:sS hs
 loc:∃kvs,H R=some (.dK kvs)/\Lk kvs f
 pos:∀c,0<=aZ f c
def rW{g:List Nat}(hL:∀d∈cw,aV d)(h:Hg cw g):rdC g=cw:=dJW hL h.1 λk hk=>h.2 k _ (by rw[Ac,Aa hk];rfl)
def zR:∀ {L:List Nat} {gs:Q6},L.length=gs.length->(∀z∈L.zip gs,hs.getD z.1 none=some z.2)->cN hs L=gs.flatten
 |[],[],_,_=>rfl
 |k::L,g::gs,hl,h=>by
  show ((hs.getD k none).getD [])++cN hs L=g++gs.flatten
  rw[show hs.getD k none=some g from h (k,g) List.mem_cons_self,zR (by simpa using hl) λz hz=>h z (List.mem_cons_of_mem _ hz)]
  rfl
 |[],_::_,hl,_=>by cases hl
 |_::_,[],hl,_=>by cases hl
def TwSt.keepS{B R:Addr}{f:Nat->Option Int}(tw:TwSt H B R hs f)(k:Same H H'):TwSt H' B R hs f:=by
 obtain⟨⟨us,u1,u2⟩,ok,⟨kvs,v1,v2⟩,ps⟩:=tw;exact⟨⟨us,k _ _ u1,u2.keep k⟩,ok,⟨kvs,k _ _ v1,v2⟩,ps⟩
def fwS(cws:List (List Nat))(k:Nat):List Nat:=cws.getD k []++[ckL (cws.getD k [])]
def bZB(gs:Q6):cN (gs.map some) (List.range gs.length)=gs.flatten:=zR (by rw[Bq]) λz hz=>by
 obtain⟨i,hi,e⟩:=Bu.mp hz;rw[List.length_zip,Bq,Nat.min_self]at hi;rw[List.getElem_zip]at e;rw[<-e,List.getElem_range,Ac,Ae,Aa hi];rfl
def twP{B R:Addr}{f:Nat->Option Int}(tw:TwSt H B R hs f)(s:SameP Pt H H')(l:dL Pt H):TwSt H' B R hs f:=by
 obtain⟨⟨us,u1,u2⟩,ok,⟨kvs,v1,v2⟩,ps⟩:=tw;exact⟨⟨us,atP s l u1 (λ_=>nofun),u2.len,λj v h hv hh=>(u2.val j v h hv hh).keep λp xs hp _=>atP s l hp λ_=>nofun⟩,ok,⟨kvs,atP s l v1 (λ_=>nofun),v2⟩,ps⟩
def jI:Sp:=λvs H Q _=>∃(hg:Addr) (us:List V) (hs:List (Option (List Nat))),vs=[.ref hg]/\rdL H hg=some us/\HalsAt H us hs/\sS hs/\hs.length<=7/\∀(r:Addr) (H':Hp),H r=none->Same H H'->H' r=some (.lst (((cN hs (List.range hs.length)).map one).map V.str))->Q (.ref r) H'
def qD:FnScope ["halyards"] ["halyards"] (aI fW):=by walk_at "sc"
def qF(F:Fun K "all_flags_on" "all_flags_on" fW f fd)(G:Gs K mg w Zu Zz Zv Zx Z0 Zw Zy)(c_flags_on:Cal P w K mg base 1 "flags_on" ["halyards", "numbers"] pU):FnOk P w K mg base CX0 2 f fd ["halyards"] jI:=by
 refine F.ok qD (λvs H Q E h=>?_) (λcdv A outer s H vs Q E hr h=>?_)
 ·obtain⟨hg,us,hs,rfl,_⟩:=h;rfl
 obtain⟨hg,us,hs,rfl,rh,hat,ok,h7,q⟩:=h;refine⟨_,(@aH _ _ _ (aR (aU c_flags_on hr (by decide) rfl (aA (mv 0) (aA (bR (dQP rfl) rfl G.b_list eM (aA (bR eX4 rfl G.b_range cXB (aA (aS bZ rfl G.b_len bK (aA (mv 0) aB)) aB)) aB)) aB))))),?_⟩
 walk_at "go";rw[hat.len];refine cJ0 λr1 hr1=>?_;have k1:=aF hr1 (HO.rng 0 ((hs.length:Nat):Int))
 have e1:(upd H r1 (HO.rng 0 ((hs.length:Nat):Int))) r1=some (HO.rng 0 ((hs.length:Nat):Int)):=aE
 generalize upd H r1 (HO.rng 0 ((hs.length:Nat):Int))=H1 at k1 e1 ⊢;walk_at "go";refine dXB e1 (by omega) λr2 hr2=>?_
 have k2:=k1.trans (aF hr2 (.lst ((List.range hs.length).map λk=>V.int ((k:Nat):Int))))
 have e2:rdL (upd H1 r2 (.lst ((List.range hs.length).map λk=>V.int ((k:Nat):Int)))) r2=some ((List.range hs.length).map λk=>V.int ((k:Nat):Int)):=cA
 generalize upd H1 r2 (.lst ((List.range hs.length).map λk=>V.int ((k:Nat):Int)))=H2 at k2 e2 ⊢;walk_at "go";exact⟨hg,r2,us,hs,List.range hs.length,rfl,aK k2 rh,hat.keep k2,ok,e2,by rw[Bq];omega,(λk hk=>Bw.mp hk),λr H' hr s' e=>q r H' (none_of k2 hr) (k2.trans s') e⟩
def bQU(cws:List (List Nat))(ks:List Nat)(hs:List (Option (List Nat))):Prop:=∃gs:List (List Nat),hs=gs.map some++List.replicate (hs.length-ks.length) none/\Hgs (ks.map (fwS cws)) gs/\ks.length<=hs.length
structure SayIn (H:Hp) (b:Addr) (bk:List (Str×Str)) (cws:List (List Nat)) (mss:List (List (List Nat))) (T:List (List Nat)) (n0:Nat):Prop where
 bkA:BkAt H b bk
 cw:kE bk cws
 le:bk.length<=60
 ms:cV bk mss
 t1:1<=T.length
 t40:T.length<=40
 tT:∀t∈T,eF t
 cov:Cov mss T 0 n0
def rF(m:Nat):(List.replicate ((m:Int)).toNat [V.non]).flatten=List.replicate m V.non:=by
 rw[Ek];induction m with
 |zero=>rfl
 |succ n ih=>rw[Da,Co,ih,Da];rfl
def cQG:∀ {cws gs:Q6},Hgs cws gs->(∀c∈cws,∀d∈c,aV d)->gs.map rdC=cws
 |_,_,.nil,_=>rfl
 |_,_,.cons (cw:=cw) (h:=h) a b,hL=>by
  rw[Au,rW (hL cw Ak) a,cQG b λc hc=>hL c (Aj _ hc)]
def qV:∀ {gs:Q6},(∀g∈gs,g.length<=7)->gs.flatten.length<=7*gs.length
 |[],_=>Ai _
 |g::r,h=>by
  rw[Co,Ag,Aw];have:=h g Ak
  have:=qV λx hx=>h x (Aj g hx)
  omega
def HalsAt.app{us:List V}{gs:Q4}(a:HalsAt H us hs)(b:HalsAt H vs gs):HalsAt H (us++vs) (hs++gs):=by
 refine⟨by rw[Ag,Ag,a.len,b.len],λj v h hv hh=>?_⟩
 have hl:=a.len
 rcases Nat.lt_or_ge j us.length with z|z
 ·rw[Aq z]at hv;rw[Aq (by omega)]at hh
  exact a.val j v h hv hh
 ·rw[Ax z]at hv;rw[Ax (by omega),<-hl]at hh
  exact b.val _ v h hv hh
def aZJ{m:Nat}:HalsAt H (List.replicate m V.non) (List.replicate m none):=by
 refine⟨by rw[Bp,Bp],λj v h hv hh=>?_⟩
 rw[Et]at hv hh;split at hv
 ·rename_i hj
  rw[if_pos hj]at hh;cases hv;cases hh;rfl
 ·cases hv
def cZI(hms:cV bk mss)(h:Path mss T TB i ks):i+ks.length<=T.length:=by
 induction h with
 |nil=>exact Ai _
 | @cons i k ks hi hb _ ih=>
  have hk:=(kU (.cons hi hb ‹_›)).2 k (Ak ..)
  have h1:1<=bQ mss k:=by
   unfold bQ;rw[Ac,Aa hk];exact(hms.2 k _ _ (Aa (by rw[<-hms.1];exact hk)) (Aa hk)).2.1
  rw[Aw];omega
def cX3(h6:cs.length<=6)(hL:∀d∈cs,aV d):aV (ckL cs)/\fO (cs++[ckL cs])=true:=by
 obtain⟨d,hdl,hdv⟩:=sG (cs:=cs++[97]) (by rw[Ag];show _+1<=_;omega) (k:=cs.length) (by rw[Ag];show _<_+1;omega)
 rw[jP]at hdv;rw[aQF h6 hL hdl hdv];exact⟨hdl,hdv⟩
def lN(aL aN Pt:Addr):Sp:=λvs H Q E=>∃(b B R:Addr) (hs:List (Option (List Nat))) (f:Nat->Option Int) (bk:List (Str×Str)) (cws:List (List Nat)) (mss:List (List (List Nat))) (T:List (List Nat)) (n0:Nat),vs=[.ref b,.ref B,.ref R,.str (bI T)]/\TwSt H B R hs f/\hs.length<=6/\SayIn H b bk cws mss T n0/\dL Pt H/\
 (∀(t B' R':Addr) (hs':Q4) (f':Nat->Option Int) (ks:List Nat) (TB:List (Option Int)) (H':Hp),SameP Pt H H'->dL Pt H'->H t=none->H' t=some (.tup [.ref B',.ref R'])->H B'=none->hs'.length=hs.length->bQU cws ks hs'->TabOk mss T TB->Path mss T TB 0 ks->TwSt H' B' R' hs' f'->Q (.ref t) H')/\
 (∀(dx:Addr) (H':Hp),SameP Pt H H'->dL Pt H'->E (.ref aL) (some dx) H')/\(∀H',SameP Pt H H'->dL Pt H'->E (.ref aN) none H')
def sc_behind_say:FnScope ["book", "halyards", "locker", "text", "words", "more", "hoists", "bare"] ["book", "halyards", "locker", "text"] (aI fR):=by walk_at "sc"
def uM(F:Fun K "behind_say" "behind_say" fR f fd)(G:Gs K mg w Zu Zz Zv Zx Z0 Zw Zy)(c_put_in:Cal P w K mg base 2 "put_in" ["locker", "flags"] uW)(c_hang_all:aXZ P w K mg base 3 "hang_all" ["locker", "words"] (pN Zu))(c_with_check:Cal P w K mg base 5 "with_check" ["word"] eZ)(c_all_flags_on:Cal P w K mg base 2 "all_flags_on" ["halyards"] jI)(c_taken:aXZ P w K mg base 3 "taken" ["locker", "flags"] (yV Zv))(c_cut_text:Cal P w K mg base 4 "cut_text" ["book", "text"] (pP Pt)):FnOk P w K mg base (CXr P w) 6 f fd ["book", "halyards", "locker", "text"] (lN Zu Zy Pt):=by
 refine F.okX sc_behind_say (λvs H Q E h=>?_) (λcdv A outer s H vs Q E hr h=>?_)
 ·obtain⟨b,B,R,hs,f,bk,cws,mss,T,n0,rfl,_⟩:=h;rfl
 obtain⟨b,B,R,hs,f,bk,cws,mss,T,n0,rfl,tw,h6,⟨hbk,hcw,h60,hms,t1,t40,tT,hcov⟩,lam,q,qe,qn⟩:=h;refine⟨_,(@aD _ _ _ _ _ (dX (i:=4) sc_behind_say.nd rfl (Or.inl rfl) rfl (bO (aU c_cut_text hr (by decide) rfl (aA (mv 0) (aA (mv 3) aB)))) (eR (N:=["number", "book"]) ["book", "halyards", "locker", "text", "words", "more", "hoists", "bare"] (aI fR) [none,some 0] rfl rfl rfl (λx h=>bP h) (by decide +kernel)) (by decide +kernel) rfl (by decide +kernel) (λ_ _ _ _=>(aW (i:=0) (show List.Nodup (["number", "book"]:List Str) by decide +kernel) rfl (Or.inl rfl))) (λ_ _ _ _=>cK) (λ_ _ _ _=>(aU c_with_check hr (by decide) rfl (aA (bG bU (bG bU (mv 1) (mv 0) (λ_ _=>rfl)) aJ (λ_ _=>rfl)) aB)))) (@aD _ _ _ _ _ (bY (aX aZB (aS bZ rfl G.b_len bK (aA (mv 4) aB)) (aS bZ rfl G.b_len bK (aA (mv 1) aB)) (bB _)) (@aH _ _ _ (qQ nM rfl rfl rfl G.c_NoHalyard G.x_NoHalyard Ds (@eP _ _ _ _ _ _ aB))) bF) (@aD _ _ _ _ _ (aM 5 sc_behind_say.nd (aU c_put_in hr (by decide) rfl (aA (mv 2) (aA (aU c_all_flags_on hr (by decide) rfl (aA (mv 1) aB)) aB)))) (@aD _ _ _ _ _ (aM 6 sc_behind_say.nd (kY c_hang_all kS hr (by decide) rfl (aA (mv 5) (aA (mv 4) aB)))) (@aD _ _ _ _ _ (aM 7 sc_behind_say.nd (aQ yS (cC (aA cP aB)) (aQ pK (aS bZ rfl G.b_len bK (aA (mv 1) aB)) (aS bZ rfl G.b_len bK (aA (mv 6) aB))))) (@aH _ _ _ (aR (lY (aA (aQ bM (mv 6) (mv 7)) (aA (kY c_taken kS hr (by decide) rfl (aA (mv 5) (aA (aU c_all_flags_on hr (by decide) rfl (aA (mv 6) aB)) aB))) aB)))))))))),?_⟩
 walk_at "go";refine⟨b,bk,mss,T,n0,rfl,hbk,h60,hms,t1,t40,tT,hcov,lam,λr1 TB ks H1 hr1 s1 l1 e1 htab hpath=>?_⟩;obtain⟨_,hklt⟩:=kU hpath;have hkb:∀k∈ks,k<bk.length:=λk hk=>by have:=hklt k hk;rw[hms.1]at this;exact this
 have bk1:=bkP hbk s1 lam
 have tw1:=twP tw s1 lam
 obtain⟨qs,b1,b2,b3⟩:=id bk1;have rq:=aO b1
 have hkl:ks.length<=40:=by
  have:=cZI hms hpath
  omega
 have hvl:((ks.map λk=>V.int ((k:Nat):Int))).length=ks.length:=Ab ..
 walk_at "go";refine dP (xs:=(ks.map λk=>V.int ((k:Nat):Int))) (λj=>(ks[j]?).map λk=>V.str (aP (fwS cws k))) (aO e1) (by rw[hvl];exact bA (by omega)) (λj x Hc A B hx sm hA hB=>?_) (λD H2 hD sD hd=>?_)
 ·obtain⟨k,hk,rfl⟩:=nQ hx;have hkb':=hkb k (Al hk)
  have ec:cws[k]?=some (cws[k]'(by rw[hcw.1];exact hkb')):=Aa _
  obtain⟨hw,hc1,hc6,hcL⟩:=hcw.2 k _ _ (Aa hkb') ec;have ep:qs[k]?=some (qs[k]'(by omega)):=Aa _
  have tp:=sm _ _ (b3 k _ _ ep (Aa hkb'))
  rw[hw]at tp;have ef:fwS cws k=cws[k]'(by rw[hcw.1];exact hkb')++[ckL (cws[k]'(by rw[hcw.1];exact hkb'))]:=by unfold fwS;rw[Ac,ec];rfl
  walk_at "go";refine⟨Wk.set rfl (Wk.refl _),?_⟩;walk_at "go";refine cO (aK sm rq) (v:=.ref (qs[k]'(by omega))) (bD (by rw[Ae,ep];rfl)) ?_
  walk_at "go";refine dJ tp (v:=.str (aP (cws[k]'(by rw[hcw.1];exact hkb')))) (bD (j:=0) rfl) ?_
  walk_at "go";exact⟨_,rfl,hc1,hc6,hcL,λH' s' _ _=>hA _ (by rw[hk,<-ef];rfl) H' s'⟩
 rw[hvl,cQ (λk=>V.str (aP (fwS cws k)))]at hd;have hd':H2 D=some (.lst (((ks.map (fwS cws)).map aP).map V.str)):=by rw[hd,Bt,Bt];rfl
 have s2:=s1.trans (Same.p sD)
 have l2:=l1.keep sD
 have tw2:=tw1.keepS sD
 have hwd:∀c∈ks.map (fwS cws),1<=c.length/\c.length<=7/\∀d∈c,aV d:=λc hc=>by
  obtain⟨k,hk,rfl⟩:=Ba.mp hc;have hkb':=hkb k hk
  have ec:cws[k]?=some (cws[k]'(by rw[hcw.1];exact hkb')):=Aa _
  obtain⟨_,hc1,hc6,hcL⟩:=hcw.2 k _ _ (Aa hkb') ec;have ef:fwS cws k=cws[k]'(by rw[hcw.1];exact hkb')++[ckL (cws[k]'(by rw[hcw.1];exact hkb'))]:=by unfold fwS;rw[Ac,ec];rfl
  rw[ef,Ag];refine⟨by show 1<=_+1;omega,by show _+1<=7;omega,λd hd=>?_⟩
  rcases By.mp hd with z|z
  ·exact hcL d z
  ·rw[Am.mp z];exact(cX3 hc6 hcL).1
 obtain⟨⟨us,hB,hat⟩,ok,⟨kvs,hR,lk⟩,hpos⟩:=id tw2;have rB:=aO hB
 have rd2:=aO hd'
 have hul:=hat.len
 have hwl:(((ks.map (fwS cws)).map aP).map V.str).length=ks.length:=by rw[Ab,Ab,Ab]
 walk_at "go";rw[hwl,hul];by_cases hgt:hs.length<ks.length
 ·rw[Ap (show ((hs.length:Nat):Int)<((ks.length:Nat):Int) by omega)]
  walk_at "go";exact⟨by show 1<=sizeLine;decide,qn _ s2 l2⟩
 rw[Ay (show ¬((hs.length:Nat):Int)<((ks.length:Nat):Int) by omega)]
 walk_at "go";refine⟨B,us,hs,rfl,rB,hat,ok,by omega,λr3 H3 hr3 s3 e3=>?_⟩
 have fl3:(cN hs (List.range hs.length)).length<=7*(List.range hs.length).length:=oS ok _
 rw[Bq]at fl3;walk_at "go";refine⟨R,r3,kvs,f,_,rfl,s3 _ _ hR,lk,hpos,aO e3,by omega,λr4 kws H4 hr4 s4 e4 lk4=>?_⟩
 have s24:=s3.trans s4
 have rd4:=aK s24 rd2
 walk_at "go";have s25:∀ {H5:Hp},Same H4 H5->SameP Pt H H5/\dL Pt H5:=λk=>⟨s2.trans (Same.p (s24.trans k)),l2.keep (s24.trans k)⟩
 refine⟨r4,D,kws,_,ks.map (fwS cws),rfl,.inl e4,lk4,rd4,by rw[Ab];omega,(λc hc=>⟨(hwd c hc).2.1,(hwd c hc).2.2⟩),λrh ps fs H5 hrh s5 er hne hls hfl hch hct=>?_,λdx H5 s5=>qe dx H5 (s25 s5).1 (s25 s5).2⟩
 have hgs:=eQQ hfl hch
 have hflat:=vJ (hfl.trans (cQY (ks.map (fwS cws))))
 have hgl:=hgs.lens
 have hpg:∀(i:Nat) p g,ps[i]?=some p->(uL (ks.map (fwS cws)) fs)[i]?=some g->H5 p=some (.lst ((g.map one).map V.str)):=λi p g hp hg=>by
  have hi:i<(ks.map (fwS cws)).length:=by rw[<-hgl];exact(Ad.mp hg).1
  have ec:(ks.map (fwS cws))[i]?=some (ks.map (fwS cws))[i]:=Aa hi
  rw[aQ2 ec]at hg;obtain⟨_,h2⟩:=hls.2 i p (hV (ks.map (fwS cws)) fs i) hp (by rw[Ae,List.getElem?_range hi];rfl)
  unfold hV at h2;rw[Ac,ec]at h2;cases hg;exact h2
 have hgf:=dZ4 hgs hwd
 have hrd:=cQG hgs λc hc=>(hwd c hc).2.2
 have hpsl:ps.length=(uL (ks.map (fwS cws)) fs).length:=by rw[hls.1,Ab,Bq,hgl]
 rw[Ab]at hgl;generalize uL (ks.map (fwS cws)) fs=gs at hgs hflat hgl hpg hgf hrd hpsl;have hatG:HalsAt H5 (ps.map V.ref) (gs.map some):=⟨by rw[Ab,Ab,hpsl],λj v h hv hh=>by
  rw[Ae]at hv hh;obtain⟨pj,ep,rfl⟩:=Bk.mp hv;obtain⟨g,eg,rfl⟩:=Bk.mp hh;exact⟨pj,rfl,hpg j pj g ep eg⟩⟩
 have okG:sS (gs.map some):=λcs hc=>by
  obtain⟨g,hg,e⟩:=Ba.mp hc;cases e;exact(hgf cs hg).1
 obtain⟨m2,em2⟩:∃m2:Nat,hs.length=gs.length+m2:=⟨hs.length-gs.length,by omega⟩
 have rer:=aO er
 have rB5:=aK (s24.trans s5) rB
 walk_at "go";refine⟨by show 1<=sizeLine;decide,λp6 hp6=>?_⟩
 have k6:=aF hp6 (.lst [V.non])
 have e6:(upd H5 p6 (.lst [V.non])) p6=some (.lst [V.non]):=aE
 generalize upd H5 p6 (.lst [V.non])=H6 at k6 e6 ⊢;have rB6:=aK k6 rB5
 have rer6:=aK k6 rer
 walk_at "go";rw[hul,Ab,show ((hs.length:Nat):Int)-((ps.length:Nat):Int)=((m2:Nat):Int) by omega]
 refine⟨p6,_,[V.non],rfl,rfl,e6,by omega,by omega,by show 1*((m2:Int)).toNat<=sizeLine;exact bH (by omega),λp7 hp7=>?_⟩
 rw[rF];have k7:=k6.trans (aF hp7 (.lst (List.replicate m2 V.non)))
 have e7:(upd H6 p7 (.lst (List.replicate m2 V.non))) p7=some (.lst (List.replicate m2 V.non)):=aE
 generalize upd H6 p7 (.lst (List.replicate m2 V.non))=H7 at k7 e7 ⊢;walk_at "go";refine mM (xs:=ps.map V.ref) (ys:=List.replicate m2 V.non) (cI (k7 _ _ er)) (cI e7) (bH (by rw[Ab,Bp];omega)) λp8 hp8=>?_
 have k8:=k7.trans (aF hp8 (.lst (ps.map V.ref++List.replicate m2 V.non)))
 have e8:(upd H7 p8 (.lst (ps.map V.ref++List.replicate m2 V.non))) p8=some (.lst (ps.map V.ref++List.replicate m2 V.non)):=aE
 have hp85:H5 p8=none:=none_of k7 hp8
 generalize upd H7 p8 (.lst (ps.map V.ref++List.replicate m2 V.non))=H8 at k8 e8 ⊢;walk_at "go";refine⟨rh,_,gs.map some,rfl,aK k8 rer,hatG.keep k8,okG,by rw[Ab];omega,λr9 H9 hr9 s9 e9=>?_⟩
 rw[Ab,bZB,hflat]at e9;have s59:=k8.trans s9
 have hcnt:∀c,cnt fs c<=aZ (cH λc=>aZ f c+cnt (cN hs (List.range hs.length)) c) c:=λc=>by
  rw[dX6];exact Int.le_trans (hct c) (cQ3 (kT _) c)
 have hfsl:fs.length<=1000:=by
  rw[<-hflat];have:gs.flatten.length<=7*gs.length:=qV λg hg=>by
   have:=(iI (hgf g hg).1).2
   rw[Ab]at this;exact this
  omega
 have hfl2:∀c∈fs,pZ c:=λc hc=>by
  rw[<-hflat]at hc;obtain⟨g,hg,hcg⟩:=List.mem_flatten.mp hc;exact(hgf g hg).2 c hcg
 walk_at "go";refine⟨r4,r9,kws,_,fs,rfl,(s5.trans s59) _ _ e4,lk4,kT _,aO e9,hfsl,hfl2,λ_ r10 kwt H10 hr10 s10 e10 lk10=>?_,λi c hi _ hlt=>absurd (bXV hcnt i c (Ad.mp hi).1 hi) (by omega)⟩
 have s510:=s59.trans s10
 walk_at "go";refine⟨by show 2<=sizeLine;decide,λt ht=>?_⟩
 have kt:=aF ht (.tup [.ref p8,.ref r10])
 have s511:=s510.trans kt
 have sH:=s25 (s5.trans s511)
 have e811:=(s9.trans (s10.trans kt)) _ _ e8
 have noneP:∀ {y:Addr},H5 y=none->H y=none:=fun {y} hy=>by
  by_cases e:y=Pt
  ·obtain⟨tb,htb⟩:=(s25 s5).2.tb;rw[e,htb]at hy;cases hy
  ·cases eH:H y with
   |none=>rfl
   |some o=>rw[(s25 s5).1 y o e eH]at hy;cases hy
 have hsl:(gs.map some++List.replicate m2 none).length=hs.length:=by rw[Ag,Ab,Bp];omega
 refine q t p8 r10 (gs.map some++List.replicate m2 none) _ ks TB _ sH.1 sH.2 (noneP (none_of s510 ht)) aE (noneP hp85) hsl ⟨gs,by rw[hsl,show hs.length-ks.length=m2 by omega],hgs,by rw[hsl];omega⟩ htab hpath ⟨⟨_,e811,?_⟩,?_,⟨_,kt _ _ e10,lk10⟩,kT _⟩
 ·exact(hatG.keep s511).app aZJ
 ·intro cs hc;rcases By.mp hc with z|z
  ·exact okG cs z
  ·cases (List.mem_replicate.mp z).2
def dB(aL aN Pt:Addr):Sp:=λvs H Q E=>∃(b hg st dp:Addr) (hs:List (Option (List Nat))) (f:Nat->Option Int) (bk:List (Str×Str)) (cws:List (List Nat)) (mss:List (List (List Nat))) (T:List (List Nat)) (n0:Nat),vs=[.ref b,.ref hg,.ref st,.ref dp]/\TwSt H hg st hs f/\hs.length<=6/\SayIn H b bk cws mss T n0/\dL Pt H/\H dp=some (.tup [.str (Str.ofString "say"),.str (bI T)])/\
 (∀(t B' R':Addr) (hs':Q4) (f':Nat->Option Int) (ks:List Nat) (TB:List (Option Int)) (H':Hp),SameP Pt H H'->dL Pt H'->H t=none->H' t=some (.tup [.ref B',.ref R'])->H B'=none->hs'.length=hs.length->bQU cws ks hs'->TabOk mss T TB->Path mss T TB 0 ks->TwSt H' B' R' hs' f'->Q (.ref t) H')/\
 (∀(dx:Addr) (H':Hp),SameP Pt H H'->dL Pt H'->E (.ref aL) (some dx) H')/\(∀H',SameP Pt H H'->dL Pt H'->E (.ref aN) none H')
def dQM{aL aN:Addr}{Q':VK}{E:XK}(h:∀v H,Q v H->Q' v H)(q:dB aL aN Pt vs H Q E):dB aL aN Pt vs H Q' E:=by
 obtain⟨b,hg,st,dp,hs,f,bk,cws,mss,T,n0,e,a1,a2,a3,a4,a5,q1,q2⟩:=q;exact⟨b,hg,st,dp,hs,f,bk,cws,mss,T,n0,e,a1,a2,a3,a4,a5,λt B' R' hs' f' ks TB H' b1 b2 b3 b4 b5 b6 b7 b8 b9 b10=>h _ _ (q1 t B' R' hs' f' ks TB H' b1 b2 b3 b4 b5 b6 b7 b8 b9 b10),q2⟩
def sU:FnScope ["book", "halyards", "locker", "deed"] ["book", "halyards", "locker", "deed"] (aI gQ):=by walk_at "sc"
def sM(F:Fun K "behind_deed" "behind_deed" gQ f fd)(G:Gs K mg w Zu Zz Zv Zx Z0 Zw Zy)(c_behind_say:aXZ P w K mg base 6 "behind_say" ["book", "halyards", "locker", "text"] (lN Zu Zy Pt))(c_behind_haul:Cal P w K mg base 1 "behind_haul" ["halyards", "locker", "number", "word"] jK)(c_behind_lower:Cal P w K mg base 1 "behind_lower" ["halyards", "locker", "number"] jH)(c_behind_lose:Cal P w K mg base 1 "behind_lose" ["halyards", "locker", "flag"] jU)(c_behind_find:Cal P w K mg base 1 "behind_find" ["halyards", "locker", "flag"] kN):FnOk P w K mg base (CXr P w) 7 f fd ["book", "halyards", "locker", "deed"] (dB Zu Zy Pt):=by
 refine F.okX sU (λvs H Q E h=>?_) (λcdv A outer s H vs Q E hr h=>?_)
 ·obtain⟨b,hg,st,dp,hs,f,bk,cws,mss,T,n0,rfl,_⟩:=h;rfl
 obtain⟨b,hg,st,dp,hs,f,bk,cws,mss,T,n0,rfl,tw,h6,si,lam,tp,q⟩:=h;refine⟨_,(@aD _ _ _ _ _ (bY (aX nZ (bG bU (mv 3) aJ (λ_ _=>rfl)) eO (bB _)) (@aH _ _ _ (aR (aU c_behind_haul hr (by decide) rfl (aA (mv 1) (aA (mv 2) (aA (bG bU (mv 3) aJ (λ_ _=>rfl)) (aA (bG bU (mv 3) aJ (λ_ _=>rfl)) aB))))))) bF) (@aD _ _ _ _ _ (bY (aX nZ (bG bU (mv 3) aJ (λ_ _=>rfl)) eO (bB _)) (@aH _ _ _ (aR (aU c_behind_lower hr (by decide) rfl (aA (mv 1) (aA (mv 2) (aA (bG bU (mv 3) aJ (λ_ _=>rfl)) aB)))))) bF) (@aD _ _ _ _ _ (bY (aX nZ (bG bU (mv 3) aJ (λ_ _=>rfl)) eO (bB _)) (@aH _ _ _ (aR (aU c_behind_lose hr (by decide) rfl (aA (mv 1) (aA (mv 2) (aA (bG bU (mv 3) aJ (λ_ _=>rfl)) aB)))))) bF) (@aD _ _ _ _ _ (bY (aX nZ (bG bU (mv 3) aJ (λ_ _=>rfl)) eO (bB _)) (@aH _ _ _ (aR (aU c_behind_find hr (by decide) rfl (aA (mv 1) (aA (mv 2) (aA (bG bU (mv 3) aJ (λ_ _=>rfl)) aB)))))) bF) (@aH _ _ _ (aR (kY c_behind_say kS hr (by decide) rfl (aA (mv 0) (aA (mv 1) (aA (mv 2) (aA (bG bU (mv 3) aJ (λ_ _=>rfl)) aB))))))))))),?_⟩
 have tt:=dE tp
 walk_at "go";refine dJ tp (v:=.str (Str.ofString "say")) (bD (j:=0) rfl) ?_;walk_at "go";rw[show decide ((Str.ofString "say")=(Str.ofString "haul"))=false from by decide +kernel]
 walk_at "go";refine dJ tp (v:=.str (Str.ofString "say")) (bD (j:=0) rfl) ?_;walk_at "go";rw[show decide ((Str.ofString "say")=(Str.ofString "lower"))=false from by decide +kernel]
 walk_at "go";refine dJ tp (v:=.str (Str.ofString "say")) (bD (j:=0) rfl) ?_;walk_at "go";rw[show decide ((Str.ofString "say")=(Str.ofString "lose"))=false from by decide +kernel]
 walk_at "go";refine dJ tp (v:=.str (Str.ofString "say")) (bD (j:=0) rfl) ?_;walk_at "go";rw[show decide ((Str.ofString "say")=(Str.ofString "find"))=false from by decide +kernel]
 walk_at "go";refine dJ tp (v:=.str (bI T)) (bD (j:=1) rfl) ?_;walk_at "go";exact⟨b,hg,st,hs,f,bk,cws,mss,T,n0,rfl,tw,h6,si,lam,q⟩
def twF(b:Addr)(m:Int)(s0 st hg dd:Addr):List (Str×V):=[("book",.ref b),("many",.int m),("stock_at_first",.ref s0),("stock",.ref st),("hung",.ref hg),("deeds",.ref dd)]
def tw1(b:Addr):List (Str×V):=[("book",.ref b)]
def tw2(b:Addr)(m:Int):List (Str×V):=[("book",.ref b),("many",.int m)]
def tw3(b:Addr)(m:Int)(s0:Addr):List (Str×V):=[("book",.ref b),("many",.int m),("stock_at_first",.ref s0)]
def tw4(b:Addr)(m:Int)(s0 st:Addr):List (Str×V):=[("book",.ref b),("many",.int m),("stock_at_first",.ref s0),("stock",.ref st)]
def tw5(b:Addr)(m:Int)(s0 st hg:Addr):List (Str×V):=[("book",.ref b),("many",.int m),("stock_at_first",.ref s0),("stock",.ref st),("hung",.ref hg)]
def dXO:fI "book" (.ref b) []=tw1 b:=rfl
def dQ8{m:Int}:fI "many" (.int m) (tw1 b)=tw2 b m:=rfl
def cJZ{m:Int}:fI "stock_at_first" (.ref s0) (tw2 b m)=tw3 b m s0:=rfl
def dQW{m:Int}:fI "stock" (.ref st) (tw3 b m s0)=tw4 b m s0 st:=rfl
def dX3{m:Int}:fI "hung" (.ref hg) (tw4 b m s0 st)=tw5 b m s0 st hg:=rfl
def dQ2{m:Int}:fI "deeds" (.ref dd) (tw5 b m s0 st hg)=twF b m s0 st hg dd:=rfl
def bQK{m:Int}:(twF b m s0 st hg dd).lookup ("book" : Str)=some (.ref b):=rfl
def cX5{m:Int}:(twF b m s0 st hg dd).lookup ("stock" : Str)=some (.ref st):=rfl
def xK{m:Int}:(twF b m s0 st hg dd).lookup ("hung" : Str)=some (.ref hg):=rfl
def cJM{m:Int}:(twF b m s0 st hg dd).lookup ("deeds" : Str)=some (.ref dd):=rfl
def bJT{m:Int}:(twF b m s0 st hg dd).lookup ("do" : Str)=none:=rfl
def aZY{m:Int}:(twF b m s0 st hg dd).lookup ("read" : Str)=none:=rfl
def rN{m:Int}:(twF b m s0 st hg dd).lookup ("halyards" : Str)=none:=rfl
def zP{m:Int}{h':Addr}:fI "hung" (.ref h') (twF b m s0 st hg dd)=twF b m s0 st h' dd:=rfl
def xP{m:Int}{s':Addr}:fI "stock" (.ref s') (twF b m s0 st hg dd)=twF b m s0 s' hg dd:=rfl
def SameE(l:List Addr)(H H':Hp):Prop:=∀b o,b∉l->H b=some o->H' b=some o
def SameE.of(s:Same H H'):SameE l H H':=λb o _ e=>s b o e
def SameE.trans{H2:Hp}(s:SameE l H H')(t:SameE l H' H2):SameE l H H2:=λb o n e=>t b o n (s b o n e)
def SameE.put{x:Addr}{o:HO}(hx:x∈l)(s:SameE l H H'):SameE l H (upd H' x o):=λb u n e=>by rw[aG (λz=>n (by rw[z];exact hx))];exact s b u n e
def rdE{u:HO}(s:SameE l H H')(n:a∉l)(h:Rd H a u):Rd H' a u:=by
 rcases h with h|⟨o,h⟩
 ·exact .inl (s _ _ n h)
 ·exact .inr ⟨o,s _ _ n h⟩
def SameE.none{x:Addr}(s:SameE l H H')(n:x∉l)(h:H' x=none):H x=none:=by
 cases e:H x with
 |none=>rfl
 |some o=>rw[s x o n e]at h;cases h
def gU(C:Addr):Sp:=λvs H Q _=>∃(x b l dx:Addr) (xs:List V) (kvs:List (Key×V)) (f:Nat->Option Int) (m:Nat),vs=[.ref x,.ref b,.ref l,.int (m:Int)]/\H x=some (.ins C dx [])/\rdL H b=some xs/\Rd H l (.dK kvs)/\Lk kvs f/\m<=6/\
 ∀(b' s0 st hg dd:Addr) (H':Hp),H b'=none->H hg=none->H dd=none->hg≠dd->b'≠dd->SameE [x] H H'->H' x=some (.ins C dx (twF b' m s0 st hg dd))->H' b'=some (.lst xs)->H' s0=some (.dK (kvL (aZ f) (bN (aZ f) 27)))->H' st=some (.dK (kvL (aZ f) (bN (aZ f) 27)))->
  H' hg=some (.lst (List.replicate m V.non))->H' dd=some (.lst [])->Q .non H'
def uR:FnScope ["self", "book", "locker", "many"] ["self", "book", "locker", "many"] (aI iJ):=by walk_at "sc"
def uC(F:Fun K "__init__" "Tower.__init__" iJ f fd)(G:Gs K mg w Zu Zz Zv Zx Z0 Zw Zy)(c_plain_locker:Cal P w K mg base 1 "plain_locker" ["locker"] cU):FnOk P w K mg base CX0 2 f fd ["self", "book", "locker", "many"] (gU Z0):=by
 refine F.ok uR (λvs H Q E h=>?_) (λcdv A outer s H vs Q E hr h=>?_)
 ·obtain⟨x,b,l,dx,xs,kvs,f,m,rfl,_⟩:=h;rfl
 obtain⟨x,b,l,dx,xs,kvs,f,m,rfl,hx,hb,hl,hk,hm,q⟩:=h;refine⟨_,(@aD _ _ _ _ _ (kH (mv 0) (bR iX rfl G.b_list eM (aA (mv 1) aB)) rfl) (@aD _ _ _ _ _ (kH (mv 0) (mv 3) rfl) (@aD _ _ _ _ _ (kH (mv 0) (aU c_plain_locker hr (by decide) rfl (aA (mv 2) aB)) rfl) (@aD _ _ _ _ _ (kH (mv 0) (aU c_plain_locker hr (by decide) rfl (aA (mv 2) aB)) rfl) (@aD _ _ _ _ _ (kH (mv 0) (aQ yS (cC (aA cP aB)) (mv 3)) rfl) (@aH _ _ _ (kH (mv 0) (cC aB) rfl))))))),?_⟩
 walk_at "go";intro b' hb';have nx:b'≠x:=λz=>by rw[z,hx]at hb';cases hb'
 have nl:l∉[x]:=λz=>by
  rw[Am.mp z]at hl;rcases hl with h|⟨_,h⟩ <;> (rw[hx]at h;cases h)
 have sE1:SameE [x] H (upd H b' (.lst xs)):=.of (aF hb' (.lst xs))
 have e1:(upd H b' (.lst xs)) b'=some (.lst xs):=aE
 have x1:=aF hb' (.lst xs) _ _ hx
 generalize upd H b' (.lst xs)=H1 at sE1 e1 x1 ⊢;have nin:∀ {y:Addr} {o:HO} {H':Hp} {fs:List (Str×V)},H' y=some o->H' x=some (.ins Z0 dx fs)->(∀fs',o≠.ins Z0 dx fs')->y≠x:=λe1 e2 n z=>by rw[z,e2]at e1;cases e1;exact n _ rfl
 walk_at "go";refine⟨x,Z0,dx,[],rfl,x1,G.cl_Tower,G.na_Tower_book,by decide,?_⟩
 rw[dXO];have sE2:=sE1.put (o:=.ins Z0 dx (tw1 b')) (Am.mpr rfl)
 have x2:(upd H1 x (.ins Z0 dx (tw1 b'))) x=some (.ins Z0 dx (tw1 b')):=aE
 have e2:(upd H1 x (.ins Z0 dx (tw1 b'))) b'=some (.lst xs):=by rw[aG nx];exact e1
 generalize upd H1 x (.ins Z0 dx (tw1 b'))=H2 at sE2 x2 e2 ⊢;walk_at "go";refine⟨x,Z0,dx,_,rfl,x2,G.cl_Tower,G.na_Tower_many,by show 1<1000;decide,?_⟩
 rw[dQ8];have sE3:=sE2.put (o:=.ins Z0 dx (tw2 b' (m:Int))) (Am.mpr rfl)
 have x3:(upd H2 x (.ins Z0 dx (tw2 b' (m:Int)))) x=some (.ins Z0 dx (tw2 b' (m:Int))):=aE
 have e3:(upd H2 x (.ins Z0 dx (tw2 b' (m:Int)))) b'=some (.lst xs):=by rw[aG nx];exact e2
 generalize upd H2 x (.ins Z0 dx (tw2 b' (m:Int)))=H3 at sE3 x3 e3 ⊢;walk_at "go";refine⟨l,kvs,f,rfl,rdE sE3 nl hl,hk,λs0 H4 hs0 s4 d4=>?_⟩;have sE4:=sE3.trans (.of s4)
 have x4:=s4 _ _ x3
 have e4:=s4 _ _ e3
 have n0:=nin d4 x4 λ_=>nofun
 walk_at "go";refine⟨x,Z0,dx,_,rfl,x4,G.cl_Tower,G.na_Tower_stock_at_first,by show 2<1000;decide,?_⟩
 rw[cJZ];have sE5:=sE4.put (o:=.ins Z0 dx (tw3 b' (m:Int) s0)) (Am.mpr rfl)
 have x5:(upd H4 x (.ins Z0 dx (tw3 b' (m:Int) s0))) x=some (.ins Z0 dx (tw3 b' (m:Int) s0)):=aE
 have e5:(upd H4 x (.ins Z0 dx (tw3 b' (m:Int) s0))) b'=some (.lst xs):=by rw[aG nx];exact e4
 have d5:(upd H4 x (.ins Z0 dx (tw3 b' (m:Int) s0))) s0=some (.dK (kvL (aZ f) (bN (aZ f) 27))):=by rw[aG n0];exact d4
 generalize upd H4 x (.ins Z0 dx (tw3 b' (m:Int) s0))=H5 at sE5 x5 e5 d5 ⊢;walk_at "go";refine⟨l,kvs,f,rfl,rdE sE5 nl hl,hk,λst H6 hst s6 d6=>?_⟩;have sE6:=sE5.trans (.of s6)
 have x6:=s6 _ _ x5
 have e6:=s6 _ _ e5
 have d06:=s6 _ _ d5
 have n1:=nin d6 x6 λ_=>nofun
 walk_at "go";refine⟨x,Z0,dx,_,rfl,x6,G.cl_Tower,G.na_Tower_stock,by show 3<1000;decide,?_⟩
 rw[dQW];have sE7:=sE6.put (o:=.ins Z0 dx (tw4 b' (m:Int) s0 st)) (Am.mpr rfl)
 have x7:(upd H6 x (.ins Z0 dx (tw4 b' (m:Int) s0 st))) x=some (.ins Z0 dx (tw4 b' (m:Int) s0 st)):=aE
 have e7:(upd H6 x (.ins Z0 dx (tw4 b' (m:Int) s0 st))) b'=some (.lst xs):=by rw[aG nx];exact e6
 have d07:(upd H6 x (.ins Z0 dx (tw4 b' (m:Int) s0 st))) s0=some (.dK (kvL (aZ f) (bN (aZ f) 27))):=by rw[aG n0];exact d06
 have d17:(upd H6 x (.ins Z0 dx (tw4 b' (m:Int) s0 st))) st=some (.dK (kvL (aZ f) (bN (aZ f) 27))):=by rw[aG n1];exact d6
 generalize upd H6 x (.ins Z0 dx (tw4 b' (m:Int) s0 st))=H7 at sE7 x7 e7 d07 d17 ⊢;walk_at "go";refine⟨by show 1<=sizeLine;decide,λp0 hp0=>?_⟩
 have k8:=aF hp0 (.lst [V.non])
 have e8:(upd H7 p0 (.lst [V.non])) p0=some (.lst [V.non]):=aE
 generalize upd H7 p0 (.lst [V.non])=H8 at k8 e8 ⊢;walk_at "go";refine⟨p0,_,[V.non],rfl,rfl,e8,by omega,by omega,by show 1*((m:Int)).toNat<=sizeLine;exact bH (by omega),λhg hhg=>?_⟩
 rw[rF];have k9:=k8.trans (aF hhg (.lst (List.replicate m V.non)))
 have h9:(upd H8 hg (.lst (List.replicate m V.non))) hg=some (.lst (List.replicate m V.non)):=aE
 have hg7:H7 hg=none:=none_of k8 hhg
 generalize upd H8 hg (.lst (List.replicate m V.non))=H9 at k9 h9 ⊢;have x9:=k9 _ _ x7
 have n2:=nin h9 x9 λ_=>nofun
 have nin1:∀ {y:Addr},y≠x->y∉[x]:=λn z=>n (Am.mp z)
 have hgH:=sE7.none (nin1 n2) hg7
 walk_at "go";refine⟨x,Z0,dx,_,rfl,x9,G.cl_Tower,G.na_Tower_hung,by show 4<1000;decide,?_⟩
 rw[dX3];have sE10:=(sE7.trans (.of k9)).put (o:=.ins Z0 dx (tw5 b' (m:Int) s0 st hg)) (Am.mpr rfl)
 have x10:(upd H9 x (.ins Z0 dx (tw5 b' (m:Int) s0 st hg))) x=some (.ins Z0 dx (tw5 b' (m:Int) s0 st hg)):=aE
 have e10:(upd H9 x (.ins Z0 dx (tw5 b' (m:Int) s0 st hg))) b'=some (.lst xs):=by rw[aG nx];exact k9 _ _ e7
 have d010:(upd H9 x (.ins Z0 dx (tw5 b' (m:Int) s0 st hg))) s0=some (.dK (kvL (aZ f) (bN (aZ f) 27))):=by rw[aG n0];exact k9 _ _ d07
 have d110:(upd H9 x (.ins Z0 dx (tw5 b' (m:Int) s0 st hg))) st=some (.dK (kvL (aZ f) (bN (aZ f) 27))):=by rw[aG n1];exact k9 _ _ d17
 have h10:(upd H9 x (.ins Z0 dx (tw5 b' (m:Int) s0 st hg))) hg=some (.lst (List.replicate m V.non)):=by rw[aG n2];exact h9
 generalize upd H9 x (.ins Z0 dx (tw5 b' (m:Int) s0 st hg))=H10 at sE10 x10 e10 d010 d110 h10 ⊢;walk_at "go";refine⟨by decide,λdd hdd=>?_⟩
 have k11:=aF hdd (.lst [])
 have f11:(upd H10 dd (.lst [])) dd=some (.lst []):=aE
 have nhd:hg≠dd:=λz=>by rw[<-z,h10]at hdd;cases hdd
 have nbd:b'≠dd:=λz=>by rw[<-z,e10]at hdd;cases hdd
 have x11:=k11 _ _ x10
 have ndx:dd≠x:=λz=>by rw[z,x10]at hdd;cases hdd
 have ddH:=sE10.none (nin1 ndx) hdd
 generalize upd H10 dd (.lst [])=H11 at k11 f11 x11 ⊢;walk_at "go";refine⟨x,Z0,dx,_,rfl,x11,G.cl_Tower,G.na_Tower_deeds,by show 5<1000;decide,?_⟩
 rw[dQ2];refine q b' s0 st hg dd _ hb' hgH ddH nhd nbd ((sE10.trans (.of k11)).put (Am.mpr rfl)) aE ?_ ?_ ?_ ?_ ?_
 ·rw[aG nx];exact k11 _ _ e10
 ·rw[aG n0];exact k11 _ _ d010
 ·rw[aG n1];exact k11 _ _ d110
 ·rw[aG n2];exact k11 _ _ h10
 ·rw[aG ndx];exact f11
def cXO(e:H p=some (.tup xs))(h:Q (.int (xs.length:Int)) H):L2.bQ [.ref p] H Q:=by
 have e1:rdL H p=none:=by unfold rdL;rw[e];rfl
 unfold L2.bQ;simp only[e1,dE e];exact h
def things:List (Str×Int):=[("haul",3),("lower",2),("lose",2),("find",2),("say",2)]
def pX(C aL aN Pt:Addr):Sp:=λvs H Q E=>∃(a b s0 st hg dd dp dx:Addr) (m:Int) (z:Str) (zs ds:List V),vs=[.ref a,.ref dp]/\H a=some (.ins C dx (twF b m s0 st hg dd))/\H dp=some (.tup (.str z::zs))/\things.lookup z=some (((V.str z::zs).length:Nat):Int)/\H dd=some (.lst ds)/\ds.length<=1000/\
 ∀p0,H p0=none->dB aL aN Pt [.ref b,.ref hg,.ref st,.ref dp] (upd H p0 (.tup [])) (λv H1=>∃(p hg' st':Addr),v=.ref p/\H1 p=some (.tup [.ref hg',.ref st'])/\H1 a=some (.ins C dx (twF b m s0 st hg dd))/\H1 dd=some (.lst ds)/\(∀ys,H1 a≠some (.lst ys))/\
  Q .non (upd (upd H1 a (.ins C dx (twF b m s0 st' hg' dd))) dd (.lst (ds++[.ref dp])))) E
def sc_Tower_do:FnScope ["self", "deed", "behind"] ["self", "deed"] (aI mQ):=by walk_at "sc"
def aQY(F:Fun K "do" "Tower.do" mQ f fd)(G:Gs K mg w Zu Zz Zv Zx Z0 Zw Zy)(c_behind_deed:aXZ P w K mg base 7 "behind_deed" ["book", "halyards", "locker", "deed"] (dB Zu Zy Pt)):FnOk P w K mg base (CXr P w) 8 f fd ["self", "deed"] (pX Z0 Zu Zy Pt):=by
 refine F.okX sc_Tower_do (λvs H Q E h=>?_) (λcdv A outer s H vs Q E hr h=>?_)
 ·obtain⟨a,b,s0,st,hg,dd,dp,dx,m,z,zs,ds,rfl,_⟩:=h;rfl
 obtain⟨a,b,s0,st,hg,dd,dp,dx,m,z,zs,ds,rfl,ha,hdp,hz,hdd,hds,q⟩:=h;refine⟨_,(@aD _ _ _ _ _ (bY (PW.pt (pM (aX (eQ1 hr.units0) (mv 1) (lY aB) (bB _)) (jT (aX dQN (dQE rfl G.d_THINGS_IN (aA (bG bU (mv 1) aJ (λ_ _=>rfl)) aB)) (aS bZ rfl G.b_len bK (aA (mv 1) aB)) (bB _))))) (@aH _ _ _ (qQ nM rfl rfl rfl G.c_NoDeed G.x_NoDeed Ds (@eP _ _ _ _ _ _ aB))) bF) (@aD _ _ _ _ _ (aM 2 sc_Tower_do.nd (kY c_behind_deed kS hr (by decide) rfl (aA (mG (mv 0) rfl) (aA (mG (mv 0) rfl) (aA (mG (mv 0) rfl) (aA (mv 1) aB)))))) (@aD _ _ _ _ _ (kH (mv 0) (bG bU (mv 2) aJ (λ_ _=>rfl)) rfl) (@aD _ _ _ _ _ (kH (mv 0) (bG bU (mv 2) aJ (λ_ _=>rfl)) rfl) (@aH _ _ _ (dW (cB Ck Dw Dx aQ4 (mG (mv 0) rfl) (aA (mv 1) aB)))))))),?_⟩
 have tdp:=dE hdp
 walk_at "go";refine⟨by decide,λp0 hp0=>?_⟩
 have k1:=aF hp0 (.tup [])
 refine dJY (k1 _ _ hdp) aE ?_;have q0:=q p0 hp0
 have a1:=k1 _ _ ha
 have dp1:=k1 _ _ hdp
 have dd1:=k1 _ _ hdd
 generalize upd H p0 (.tup [])=H1 at k1 a1 dp1 dd1 q0 ⊢;have tdp1:=dE dp1
 walk_at "go";rw[show (V.str z::zs).isEmpty=false from rfl];walk_at "go";refine dJ dp1 (v:=.str z) (bD (j:=0) rfl) ?_;walk_at "go";refine⟨z,rfl,?_⟩;rw[show List.lookup z [("haul",3),("lower",2),("lose",2),("find",2),("say",2)]=some (((V.str z::zs).length:Nat):Int) from hz];walk_at "go";refine cXO dp1 ?_;walk_at "go";rw[show (!decide ((((V.str z::zs).length:Nat):Int)=(((V.str z::zs).length:Nat):Int)))=false by rw[Ap rfl];rfl]
 walk_at "go";refine⟨a,Z0,dx,_,_,rfl,a1,G.cl_Tower,G.na_Tower_book,bQK,?_⟩;walk_at "go";refine⟨a,Z0,dx,_,_,rfl,a1,G.cl_Tower,G.na_Tower_hung,xK,?_⟩;walk_at "go";refine⟨a,Z0,dx,_,_,rfl,a1,G.cl_Tower,G.na_Tower_stock,cX5,?_⟩;walk_at "go";refine dQM (λv H2 hv=>?_) q0;obtain⟨p,hg',st',rfl,ep,ea,edd,_,qq⟩:=hv;have nd:dd≠a:=λz=>by rw[z,ea]at edd;cases edd
 have np:p≠a:=λz=>by rw[z,ea]at ep;cases ep
 have up:∀o u,upd (upd H2 a o) a u=upd H2 a u:=λo u=>bQZ
 have tp2:=dE ep
 walk_at "go";refine dJ ep (v:=.ref hg') (bD (j:=0) rfl) ?_;walk_at "go";refine⟨a,Z0,dx,_,rfl,ea,G.cl_Tower,G.na_Tower_hung,by show 6<1000;decide,?_⟩
 rw[zP];have a3:(upd H2 a (.ins Z0 dx (twF b m s0 st hg' dd))) a=some (.ins Z0 dx (twF b m s0 st hg' dd)):=aE
 have p3:(upd H2 a (.ins Z0 dx (twF b m s0 st hg' dd))) p=some (.tup [.ref hg',.ref st']):=by rw[aG np];exact ep
 walk_at "go";refine dJ p3 (v:=.ref st') (bD (j:=1) rfl) ?_;walk_at "go";refine⟨a,Z0,dx,_,rfl,a3,G.cl_Tower,G.na_Tower_stock,by show 6<1000;decide,?_⟩
 rw[xP,up];have a4:(upd H2 a (.ins Z0 dx (twF b m s0 st' hg' dd))) a=some (.ins Z0 dx (twF b m s0 st' hg' dd)):=aE
 have dd4:(upd H2 a (.ins Z0 dx (twF b m s0 st' hg' dd))) dd=some (.lst ds):=by rw[aG nd];exact edd
 have md4:=cI dd4
 walk_at "go";refine⟨a,Z0,dx,_,_,rfl,a4,G.cl_Tower,G.na_Tower_deeds,cJM,?_⟩;walk_at "go";exact qq
def gL(C:Addr):Sp:=λvs H Q _=>∃(a b s0 st hg dd dx:Addr) (m:Int) (us:List V) (hs:List (Option (List Nat))),vs=[.ref a]/\H a=some (.ins C dx (twF b m s0 st hg dd))/\rdL H hg=some us/\HalsAt H us hs/\us.length<=1000/\
 ∀(r:Addr) (us':List V) (H':Hp),H r=none->Same H H'->H' r=some (.lst us')->HalsAt H' us' hs->(∀p,V.ref p∈us'->H p=none)->Q (.ref r) H'
def nX:FnScope ["self"] ["self"] (aI eS):=by walk_at "sc"
def nL(F:Fun K "halyards" "Tower.halyards" eS f fd)(G:Gs K mg w Zu Zz Zv Zx Z0 Zw Zy):FnOk P w K mg base CX0 1 f fd ["self"] (gL Z0):=by
 refine F.ok nX (λvs H Q E h=>?_) (λcdv A outer s H vs Q E hr h=>?_)
 ·obtain⟨a,b,s0,st,hg,dd,dx,m,us,hs,rfl,_⟩:=h;rfl
 obtain⟨a,b,s0,st,hg,dd,dx,m,us,hs,rfl,ha,hhg,hat,hul,q⟩:=h;refine⟨_,(@aH _ _ _ (aR (bV rfl (bO (mG (mv 0) rfl)) (fN (N:=["hoist"]) (by decide +kernel) (by decide +kernel)) (by decide +kernel) rfl (by decide +kernel) (λ_ _ _ _=>(aW (i:=0) (show List.Nodup (["hoist"]:List Str) by decide +kernel) rfl (Or.inl rfl))) (λ_ _ _ _=>cK) (λ_ _ _ _=>(rV (aX bQI (mv 0) cP (bB _)) cP (bR iX rfl G.b_list eM (aA (mv 0) aB))))))),?_⟩
 walk_at "go";refine⟨a,Z0,dx,_,_,rfl,ha,G.cl_Tower,G.na_Tower_hung,xK,?_⟩;walk_at "go";refine dQH (hs:=hs) hhg (bA (by omega)) hat.len (λi x h Hc A B hx hh sm hA=>?_) (λD Hd vs hD sD hd hatD hfr=>?_)
 ·have hv:=(hat.keep sm).val i x h hx hh
  cases h with
  |none=>
   obtain rfl:x=V.non:=hv;walk_at "go";refine⟨Wk.set rfl (Wk.refl _),?_⟩;walk_at "go";rw[show decide (V.non=V.non)=true from rfl];walk_at "go";exact hA .non _ (Same.refl _) rfl λp z=>nomatch z
  |some cs=>
   obtain⟨pc,rfl,hpc⟩:=hv;have rc:=aO hpc
   walk_at "go";refine⟨Wk.set rfl (Wk.refl _),?_⟩;walk_at "go";rw[show decide (V.ref pc=V.non)=false from Ay (λz=>nomatch z)]
   walk_at "go";intro l2 hl2;exact hA (.ref l2) _ (aF hl2 _) ⟨l2,rfl,aE⟩ λp z=>by cases z;exact hl2
 ·exact q D vs Hd hD sD hd hatD hfr
def dU(cws:List (List Nat)):List Str:=cws.map λcw=>aP (cw++[ckL cw])
def aQL:Option (List Nat)->V
 |none=>.non
 |some cs=>.str (jG (cs.map one))
def rdN(cws:List (List Nat)):Option (List Nat)->V
 |none=>.non
 |some cs=>match (dU cws).findIdx? (λy=>y==jG (cs.map one)) with|some j=>.int (j:Int)|none=>.non
def cQH(y:Str)(zs:List Str):inV (.str y) (zs.map V.str)=decide (y∈zs):=by
 unfold inV;rw[List.any_map,Fc,List.any_eq_true,Ci];constructor
 ·rintro⟨z,hz,e⟩;have e':(z==y)=true:=e
  rw[<-eq_of_beq e'];exact hz
 ·intro h;exact⟨y,h,show (y==y)=true from Ee _⟩
def dJE(zs:List Str):inV .non (zs.map V.str)=false:=by
 unfold inV;rw[List.any_map,List.any_eq_false];intro z _ h;cases h
def lL(C:Addr):Sp:=λvs H Q _=>∃(a b s0 st hg dd dx:Addr) (m:Int) (us:List V) (hs:List (Option (List Nat))) (bk:List (Str×Str)) (cws:List (List Nat)),vs=[.ref a]/\H a=some (.ins C dx (twF b m s0 st hg dd))/\rdL H hg=some us/\HalsAt H us hs/\us.length<=1000/\sS hs/\BkAt H b bk/\bk.length<=60/\kE bk cws/\
 ∀(r:Addr) (H':Hp),H r=none->Same H H'->H' r=some (.lst (hs.map (rdN cws)))->Q (.ref r) H'
def sc_Tower_read:FnScope ["self", "spoken", "words"] ["self"] (aI fT):=by walk_at "sc"
def uI(F:Fun K "read" "Tower.read" fT f fd)(G:Gs K mg w Zu Zz Zv Zx Z0 Zw Zy)(c_with_check:Cal P w K mg base 5 "with_check" ["word"] eZ)(c_read_of:aXZ P w K mg base 4 "read_of" ["flags"] (mP Zx)):FnOk P w K mg base CX0 6 f fd ["self"] (lL Z0):=by
 refine F.ok sc_Tower_read (λvs H Q E h=>?_) (λcdv A outer s H vs Q E hr h=>?_)
 ·obtain⟨a,b,s0,st,hg,dd,dx,m,us,hs,bk,cws,rfl,_⟩:=h;rfl
 obtain⟨a,b,s0,st,hg,dd,dx,m,us,hs,bk,cws,rfl,ha,hhg,hat,hul,hok,hbk,h60,hcw,q⟩:=h;refine⟨_,(@aD _ _ _ _ _ (aM 1 sc_Tower_read.nd (bV rfl (bO (mG (mv 0) rfl)) (fN (N:=["word", "meaning"]) (by decide +kernel) (by decide +kernel)) (by decide +kernel) rfl (by decide +kernel) (λ_ _ _ _=>(cY (K:=K) (i:=0) (j:=1) (by rfl) (by rfl) (show List.Nodup (["word", "meaning"]:List Str) by decide +kernel) (by rfl) (by exact Or.inl rfl) (by exact Or.inr rfl) (by rfl) (by exact Or.inl rfl) (by exact Or.inr rfl))) (λ_ _ _ _=>cK) (λ_ _ _ _=>(aU c_with_check hr (by decide) rfl (aA (mv 0) aB))))) (@aD _ _ _ _ _ (dX (i:=2) sc_Tower_read.nd rfl (Or.inl rfl) rfl (bO (mG (mv 0) rfl)) (fN (N:=["hoist"]) (by decide +kernel) (by decide +kernel)) (by decide +kernel) rfl (by decide +kernel) (λ_ _ _ _=>(aW (i:=0) (show List.Nodup (["hoist"]:List Str) by decide +kernel) rfl (Or.inl rfl))) (λ_ _ _ _=>cK) (λ_ _ _ _=>(rV (aX bQI (mv 0) cP (bB _)) cP (kY c_read_of vB hr (by decide) rfl (aA (mv 0) aB))))) (@aH _ _ _ (aR (bV rfl (bO (mv 2)) (eR (N:=["word", "spoken"]) ["self", "spoken", "words"] (aI fT) [none,some 1] rfl rfl rfl (λx h=>bP h) (by decide +kernel)) (by decide +kernel) rfl (by decide +kernel) (λ_ _ _ _=>(aW (i:=0) (show List.Nodup (["word", "spoken"]:List Str) by decide +kernel) rfl (Or.inl rfl))) (λ_ _ _ _=>cK) (λ_ _ _ _=>(rV (aX dZY (mv 0) (mv 1) (by rfl)) (cB Ck Ey PySem.F.type_list_index cXR (mv 1) (aA (mv 0) aB)) cP))))))),?_⟩
 obtain⟨qs,b1,b2,b3⟩:=id hbk;have rq:=aO b1
 have hql:(qs.map V.ref).length=bk.length:=by rw[Ab,b2]
 walk_at "go";refine⟨a,Z0,dx,_,_,rfl,ha,G.cl_Tower,G.na_Tower_book,bQK,?_⟩;walk_at "go";refine dP (xs:=qs.map V.ref) (λj=>(cws[j]?).map λcw=>V.str (aP (cw++[ckL cw]))) rq (by rw[hql];exact bA (by omega)) (λj x Hc A B hx sm hA hB=>?_) (λD Hd hD sD hd=>?_)
 ·rw[Ae]at hx;obtain⟨p,ep,rfl⟩:=Bk.mp hx;have hjb:j<bk.length:=by rw[<-b2];exact(Ad.mp ep).1
  have ec:cws[j]?=some (cws[j]'(by rw[hcw.1];exact hjb)):=Aa _
  obtain⟨hw,hc1,hc6,hcL⟩:=hcw.2 j _ _ (Aa hjb) ec;have tp:=sm _ _ (b3 j p _ ep (Aa hjb))
  rw[hw]at tp;have tpl:=dE tp
  walk_at "go";refine⟨Wk.set rfl (Wk.set rfl (Wk.refl _)),?_⟩;walk_at "go";exact⟨_,rfl,hc1,hc6,hcL,λH' s' _ _=>hA _ (by rw[ec];rfl) H' s'⟩
 ·rw[hql,<-hcw.1,cQ (λcw=>V.str (aP (cw++[ckL cw])))]at hd;have hspk:Hd D=some (.lst ((dU cws).map V.str)):=by rw[hd];unfold dU;rw[Bt];rfl
  have haD:=sD _ _ ha
  have hhD:=aK sD hhg
  have hatD:=hat.keep sD
  walk_at "go";refine⟨a,Z0,dx,_,_,rfl,haD,G.cl_Tower,G.na_Tower_hung,xK,?_⟩;walk_at "go";refine dP (xs:=us) (λj=>(hs[j]?).map aQL) hhD (bA (by omega)) (λj x Hc A B hx sm hA hB=>?_) (λD2 Hd2 hD2 sD2 hd2=>?_)
  ·have hjl:j<hs.length:=by rw[<-hat.len];exact(Ad.mp hx).1
   obtain⟨o,eh⟩:∃o,hs[j]?=some o:=⟨_,Aa hjl⟩;have hv:=(hatD.keep sm).val j x _ hx eh
   cases o with
   |none=>
    obtain rfl:x=V.non:=hv;walk_at "go";refine⟨Wk.set rfl (Wk.refl _),?_⟩;walk_at "go";rw[show decide (V.non=V.non)=true from rfl];walk_at "go";exact hA _ (by rw[eh];rfl) _ (Same.refl _)
   |some cs=>
    obtain⟨pc,rfl,hpc⟩:=hv;have hB':=hok cs (Al eh)
    have h7:=iI hB'
    walk_at "go";refine⟨Wk.set rfl (Wk.refl _),?_⟩;walk_at "go";rw[show decide (V.ref pc=V.non)=false from Ay (λz=>nomatch z)]
    walk_at "go";exact⟨pc,cs.map one,rfl,aO hpc,by omega,λz hz=>by obtain⟨c,_,rfl⟩:=Ba.mp hz;show 1<=1000;decide,λ_ H' s'=>hA _ (by rw[eh];rfl) H' s',λz=>by rw[hB']at z;cases z⟩
  ·rw[hat.len,cQ aQL]at hd2;have r2:=aO hd2
   have rs2:=aO (sD2 _ _ hspk)
   have hll:(hs.map aQL).length<=1000:=by rw[Ab,<-hat.len];exact hul
   walk_at "go";refine dP (xs:=hs.map aQL) (λj=>(hs[j]?).map (rdN cws)) r2 (bA (by omega)) (λj x Hc A B hx sm hA hB=>?_) (λD3 Hd3 hD3 sD3 hd3=>?_)
   ·rw[Ae]at hx;obtain⟨o,eo,rfl⟩:=Bk.mp hx;have rsc:=aK sm rs2
    have r:=hA (rdN cws o) (by rw[eo];rfl)
    cases o with
    |none=>
     walk_at "go";refine⟨Wk.set rfl (Wk.refl _),?_⟩;walk_at "go";refine wM (neg:=false) rsc rfl (cE _) ?_;rw[if_neg Ar,show aQL none=V.non from rfl,dJE];walk_at "go";exact r _ (Same.refl _)
    |some cs=>
     have r':∀Hd,Same Hc Hd->A (match (dU cws).findIdx? (λy=>y==jG (cs.map one)) with|some j=>V.int (j:Int)|none=>.non) Hd:=r
     change jL 0 (V.str (jG (cs.map one))) _ _ _
     generalize jG (cs.map one)=z at r' ⊢;walk_at "go";refine⟨Wk.set rfl (Wk.refl _),?_⟩;walk_at "go";refine wM (neg:=false) rsc rfl (cE _) ?_;rw[if_neg Ar,cQH];cases e:(dU cws).findIdx? (λy=>y==z) with
     |none=>
      rw[e]at r';rw[decide_eq_false λhm=>by have:=List.findIdx?_eq_none_iff.mp e z hm;simp at this]
      walk_at "go";exact r' _ (Same.refl _)
     |some k=>
      rw[e]at r';obtain⟨k1,k2,k3⟩:=List.findIdx?_eq_some_iff_getElem.mp e;have ez:(dU cws)[k]=z:=eq_of_beq k2
      rw[Ap (by rw[<-ez];exact Ce _)]
      walk_at "go";refine bJU rsc (by rw[Aa k1,ez]) (λi y hi hy e2=>?_) (r' _ (Same.refl _))
      obtain⟨i1,i2⟩:=Ad.mp hy;have:=k3 i hi
      rw[i2,e2]at this;simp at this
   ·rw[Ab,cQ (rdN cws)]at hd3;exact q D3 Hd3 (none_of (sD.trans sD2) hD3) (sD.trans (sD2.trans sD3)) hd3
def jC:Sp:=λvs H Q _=>∃c k:Int,vs=[.int c,.int k]/\0<=k/\k<=1000/\∀n:Int,0<=n->Q (.int n) H
def vL:Sp:=λvs H Q _=>∃n m:Int,vs=[.int n,.int m]/\0<=n/\1<=m/\m<=7/\∀(cw:List Nat) (H':Hp),Same H H'->1<=cw.length->(cw.length:Int)<=m->(∀d∈cw,aV d)->Q (.str (aP cw)) H'
def aZ3:FnScope ["_law_cell", "_law_k"] ["_law_cell", "_law_k"] (aI oM):=by walk_at "sc"
def aZP(F:Fun K "_law_mixed" "_law_mixed" oM f fd)(G:Gs K mg w Zu Zz Zv Zx Z0 Zw Zy):FnOk P w K mg base CX0 1 f fd ["_law_cell", "_law_k"] jC:=by
 refine F.ok aZ3 (λvs H Q E h=>?_) (λcdv A outer s H vs Q E hr h=>?_)
 ·obtain⟨c,k,rfl,_⟩:=h;rfl
 obtain⟨c,k,rfl,h0,h1,q⟩:=h;refine⟨_,(@aH _ _ _ (aR (aQ dF (aQ kC (aQ bM (aQ bM (aQ bM (aQ dF (mv 0) aJ) (aQ kC (aQ kC aJ (mv 1)) (mv 1))) (mv 1)) aJ) aJ) aJ))),?_⟩;walk_at "go";exact q _ (Cv _ (by decide))
def sc_l_word:FnScope ["_law_number", "_law_most", "_law_letters", "_law_kinds", "_law_base", "_law_word_here", "_law_k"] ["_law_number", "_law_most"] (aI qT):=by walk_at "sc"
def bXI(F:Fun K "_law_word" "_law_word" qT f fd)(G:Gs K mg w Zu Zz Zv Zx Z0 Zw Zy):FnOk P w K mg base CX0 1 f fd ["_law_number", "_law_most"] vL:=by
 refine F.ok sc_l_word (λvs H Q E h=>?_) (λcdv A outer s H vs Q E hr h=>?_)
 ·obtain⟨n,m,rfl,_⟩:=h;rfl
 obtain⟨n,m,rfl,h0,hm1,hm7,q⟩:=h;refine⟨_,(@aD _ _ _ _ _ (aM 2 sc_l_word.nd eO) (@aD _ _ _ _ _ (aM 3 sc_l_word.nd (@bG _ _ _ _ _ _ _ bU (@cC _ _ _ _ (aA aJ (aA aJ (aA aJ (aA aJ aB))))) (aQ dF (mv 0) aJ) (λ_ _=>rfl))) (@aD _ _ _ _ _ (aM 4 sc_l_word.nd (aQ dF (aQ gO (mv 0) aJ) aJ)) (@aD _ _ _ _ _ (aM 5 sc_l_word.nd eO) (@aD _ _ _ _ _ (cJ Bm rfl (kX rfl G.b_range (aA (aQ bM aJ (aQ dF (aQ gO (mv 0) aJ) (mv 1))) aB)) (aW (i:=6) sc_l_word.nd rfl (Or.inl rfl)) (@aD _ _ _ _ _ (aM 0 sc_l_word.nd (aQ dF (aQ kC (aQ bM (aQ bM (mv 0) (mv 6)) aJ) aJ) aJ)) (@aH _ _ _ (aM 5 sc_l_word.nd (aQ bM (mv 5) (bG bU (mv 2) (aQ dF (aQ bM (mv 4) (aQ kC (aQ dF (aQ gO (mv 0) aJ) (mv 3)) aJ)) aJ) (λ_ _=>rfl))))))) (@aH _ _ _ (aR (mv 5)))))))),?_⟩;walk_at "go";refine⟨by decide,λp hp=>?_⟩
 walk_at "go";obtain⟨kn,hkn,akn⟩:=aJ5 (ns:=[1,2,3,23]) (i:=n%4) (by omega) (by show n%4<4;omega)
 have hk:1<=kn:=(by decide:∀x∈([1,2,3,23]:List Int),1<=x) kn hkn
 have hk2:kn<=23:=(by decide:∀x∈([1,2,3,23]:List Int),x<=23) kn hkn
 refine cO (xs:=([1,2,3,23]:List Int).map V.int) cA akn ?_;have z0:=Cv (n / 92) (show m≠0 by omega)
 have z1:=Dg (n / 92) (show 0<m by omega)
 walk_at "go";generalize n / 92%m=l at z0 z1 ⊢;refine⟨⟨by omega,by omega⟩,?_⟩
 have s1:Same H (upd H p (.lst [V.int 1,V.int 2,V.int 3,V.int 23])):=aF hp _
 generalize upd H p (.lst [V.int 1,V.int 2,V.int 3,V.int 23])=H1 at s1 ⊢;refine rL (λi σ H'=>∃(x:Int) (cw:List Nat) (v:Option V),σ=[some (.int x),some (.int m),some (.str (Str.ofString "abcdefghijklmnopqrstuvw")),some (.int kn),some (.int (n / 4%23)),some (.str (aP cw)),v]/\0<=x/\cw.length=i/\(∀d∈cw,aV d)/\H'=H1)
  ⟨n,[],none,rfl,h0,rfl,(λd hd=>nomatch hd),rfl⟩ ?_ ?_
 ·rintro i σ H' hi ⟨x,cw,v,rfl,hx0,hn,hL,rfl⟩;have hwl:(aP cw).length=cw.length:=bW cw
  walk_at "go";generalize (x+(0+(i:Int))+1)*69621%2147483647 / 7%kn*5=y;have y0:=Cv (n / 4%23+y) (show (23:Int)≠0 by decide)
  have y1:=Dg (n / 4%23+y) (show (0:Int)<23 by decide)
  have e1:=dQY (k:=((n / 4%23+y)%23).toNat) (by omega)
  rw[show ((((n / 4%23+y)%23).toNat:Nat):Int)=(n / 4%23+y)%23 by omega]at e1
  refine aQR (by decide) e1 ?_
  have h1l:(⟨#[97+((n / 4%23+y)%23).toNat]⟩:Str).length=1:=rfl
  walk_at "go";refine⟨(x+(0+(i:Int))+1)*69621%2147483647,cw++[97+((n / 4%23+y)%23).toNat],some (.int (0+(i:Int))),?_,Cv _ (show (2147483647:Int)≠0 by decide),by rw[Ag,hn];rfl,λd hd=>?_,rfl⟩
  ·rw[<-eW];rfl
  ·rcases By.mp hd with z|z
   ·exact hL d z
   ·rw[Am.mp z];exact⟨by omega,by omega⟩
 ·rintro σ H' ⟨x,cw,v,rfl,hx0,hn,hL,rfl⟩;walk_at "go";exact q cw _ s1 (by omega) (by omega) hL
def nU(K:W.Frag):Sp:=λvs H Q _=>∃(a:Addr) (ns:List Int) (k:Int),vs=[.ref a,.int k]/\SqL K H a (ns.map V.int)/\0<=k/\∀n:Int,Q (.int n) H
def yO:FnScope ["_law_script", "_law_k"] ["_law_script", "_law_k"] (aI kI):=by walk_at "sc"
def xF(F:Fun K "_law_cell_at" "_law_cell_at" kI f fd)(G:Gs K mg w Zu Zz Zv Zx Z0 Zw Zy):FnOk P w K mg base CX0 1 f fd ["_law_script", "_law_k"] (nU K):=by
 refine F.ok yO (λvs H Q E h=>?_) (λcdv A outer s H vs Q E hr h=>?_)
 ·obtain⟨a,ns,k,rfl,_⟩:=h;rfl
 obtain⟨a,ns,k,rfl,hS,hk,q⟩:=h;refine⟨_,(@aD _ _ _ _ _ (bY (aX aQJ (mv 1) (aS xE rfl G.b_len bK (aA (mv 0) aB)) (bB _)) (@aH _ _ _ (aR (bG ix_list (mv 0) (mv 1) (λ_ _=>rfl)))) bF) (@aH _ _ _ (aR aJ))),?_⟩;walk_at "go";refine⟨_,_,rfl,.inl hS,?_⟩;have hnl:(ns.map V.int).length=ns.length:=Ab ..
 rw[hnl];walk_at "go";refine eJ (λhd=>?_) (λhd=>?_)
 ·have hd':=Bd hd
  obtain⟨n,_,an⟩:=aJ5 (ns:=ns) (i:=k) hk hd';walk_at "go";exact eZS hS an (q n)
 ·walk_at "go";exact q 0
def nG:Sp:=λvs H Q _=>∃(cs:List Nat),vs=[.str (aP cs)]/\1<=cs.length/\cs.length<=6/\(∀d∈cs,aV d)/\∀H',Same H H'->aV (ckL cs)->fO (cs++[ckL cs])=true->Q (.str (aP (cs++[ckL cs]))) H'
def bZR:lH (cs++[d]) (cs++[d]).length=lH cs cs.length+((1+cs.length:Nat):Int)*((d-97:Nat):Int):=by
 rw[Ag,show [d].length=1 from rfl,iF,mE (ds:=cs) (λi hi=>by rw[Ac,Aq hi,<-Ac])]
 rw[show (cs++[d]).getD cs.length 0=d by rw[Ac,Ax (Ai _),El];rfl]
def eXG:Bool:=(List.range 23).all λi=>Txt.find lettersT ⟨#[97+i]⟩ == (i:Int)
def cJN:eXG=true:=by decide +kernel
def aQS(h:aV d):Txt.find lettersT (one d)=((d-97:Nat):Int):=by
 unfold aV at h;have a:=Bo.mp cJN (d-97) (Bw.mpr (by omega))
 rw[show 97+(d-97)=d by omega]at a
 exact eq_of_beq a
def eXM:Bool:=(List.range 23).all λi=>(Str.ofString "abcdefghijklmnopqrstuvw").cps.toList[i]? == some (97+i)
def cJA:eXM=true:=by decide +kernel
def aJF{c:Nat}(h:i<23)(e:(Str.ofString "abcdefghijklmnopqrstuvw").cps.toList[i]?=some c):c=97+i:=by
 have a:=eq_of_beq (Bo.mp cJA i (Bw.mpr h))
 rw[e]at a;exact Bg a
def sc_l_checked:FnScope ["_law_word_here", "_law_letters", "_law_total", "_law_letter"] ["_law_word_here"] (aI gK):=by walk_at "sc"
def yI(F:Fun K "_law_checked" "_law_checked" gK f fd)(G:Gs K mg w Zu Zz Zv Zx Z0 Zw Zy):FnOk P w K mg base CX0 1 f fd ["_law_word_here"] nG:=by
 refine F.ok sc_l_checked (λvs H Q E h=>?_) (λcdv A outer s H vs Q E hr h=>?_)
 ·obtain⟨cs,rfl,_⟩:=h;rfl
 obtain⟨cs,rfl,h1,h6,hL,q⟩:=h;refine⟨_,(@aD _ _ _ _ _ (aM 1 sc_l_checked.nd eO) (@aD _ _ _ _ _ (aM 2 sc_l_checked.nd (aS (bJW rfl) rfl G.b_sum aXT (aA (bV rfl (kX rfl G.b_range (aA (aS bZ rfl G.b_len bK (aA (mv 0) aB)) aB)) (eR (N:=["_law_k", "_law_letters", "_law_word_here"]) ["_law_word_here", "_law_letters", "_law_total", "_law_letter"] (aI gK) [none,some 1,some 0] rfl rfl rfl (λx h=>bP h) (by decide +kernel)) (by decide +kernel) rfl (by decide +kernel) (λ_ _ _ _=>(aW (i:=0) (show List.Nodup (["_law_k", "_law_letters", "_law_word_here"]:List Str) by decide +kernel) rfl (Or.inl rfl))) (λ_ _ _ _=>cK) (λ_ _ _ _=>(aQ kC (aQ bM (mv 0) aJ) (cB Cr PySem.F.slot_str_find PySem.F.type_str_find cXU (mv 1) (aA (bG bU (mv 2) (mv 0) (λ_ _=>rfl)) aB))))) aB))) (@aD _ _ _ _ _ (cJ Bm rfl (jS (mv 1)) (aW (i:=3) sc_l_checked.nd rfl (Or.inl rfl)) (@aH _ _ _ (bY (aX nZ (aQ dF (aQ bM (mv 2) (aQ kC (aQ bM (aS bZ rfl G.b_len bK (aA (mv 0) aB)) aJ) (cB Cr PySem.F.slot_str_find PySem.F.type_str_find cXU (mv 1) (aA (mv 3) aB)))) aJ) aJ (bB _)) (@aH _ _ _ (aR (aQ bM (mv 0) (mv 3)))) bF))) (@aH _ _ _ (aR (mv 0)))))),?_⟩
 have hwl:(aP cs).length=cs.length:=bW cs
 walk_at "go";rw[hwl];refine⟨⟨by omega,by omega⟩,?_⟩
 rw[show ((cs.length:Int)).toNat=cs.length from rfl];refine bXT (λi=>some (V.int (wgt cs i))) (bA (by omega)) (λi Hc A B hi sm hA=>?_) (λD Hd hD sD hd=>?_)
 ·have hg:=kB hL hi
  have r:A (V.int (wgt cs i)) Hc:=hA _ (Same.refl _)
  walk_at "go";refine⟨Wk.set rfl (Wk.refl _),?_⟩;walk_at "go";refine aQR (by rw[hwl];exact bH (by omega)) (xB (k:=i) (by omega) hi) ?_
  walk_at "go";refine bJJ ?_;rw[show (⟨#[cs.getD i 0]⟩:Str)=one (cs.getD i 0) from rfl];rw[show Txt.find (Str.ofString "abcdefghijklmnopqrstuvw") (one (cs.getD i 0))=((cs.getD i 0-97:Nat):Int) from aQS hg];walk_at "go";rw[show (0+(i:Int)+1)*((cs.getD i 0-97:Nat):Int)=wgt cs i by unfold wgt;rw[show ((1+i:Nat):Int)=0+(i:Int)+1 by omega]]
  exact r
 ·have hd':Hd D=some (.lst (((List.range cs.length).map (wgt cs)).map V.int)):=by
   rw[hd,Bt];congr 2
   exact List.filterMap_eq_map (f:=λi=>V.int (wgt cs i))▸rfl
  walk_at "go";refine dZ7 (aO hd') (bJV (by omega) hL) (by rw[Ab,Bq];omega) ?_
  rw[show ((List.range cs.length).map (wgt cs)).sum=lH cs cs.length from rfl];obtain⟨d,hdl,hdv⟩:=sG (cs:=cs++[97]) (by rw[Ag];show _+1<=_;omega) (k:=cs.length) (by rw[Ag];show _<_+1;omega)
  rw[jP]at hdv;have ec:=aQF h6 hL hdl hdv
  rw[ec]at q;have q2:=q Hd sD hdl hdv
  have hd2:=hdl
  unfold aV at hd2;walk_at "go";refine aJI (λi σ H'=>∃v3,σ=[some (.str (aP cs)),some (.str (Str.ofString "abcdefghijklmnopqrstuvw")),some (.int (lH cs cs.length)),v3]/\H'=Hd/\i<=d-97) ⟨_,rfl,rfl,Cy _⟩ ?_ ?_
  ·rintro i c σ H' hc ⟨v3,rfl,rfl,hid⟩;have hi23:i<23:=by have:=(Ad.mp hc).1;exact this
   have hcc:c=97+i:=aJF hi23 hc
   subst hcc;have hic:aV (97+i):=⟨by omega,by omega⟩
   have r:=vK h6 hL hdl hdv hic
   unfold fO at r;rw[bZR,show 97+i-97=i by omega]at r
   walk_at "go";rw[hwl];refine bJJ ?_;rw[show Txt.find (Str.ofString "abcdefghijklmnopqrstuvw") ⟨#[97+i]⟩=((97+i-97:Nat):Int) from aQS hic,show 97+i-97=i by omega]
   walk_at "go";rw[show ((1+cs.length:Nat):Int)=(cs.length:Int)+1 by omega]at r
   rw[r];refine eJ (λhc=>?_) (λhc=>?_)
   ·have hc':=Bd hc
    have h1l:(⟨#[97+i]⟩:Str).length=1:=rfl
    walk_at "go";rw[show aP cs++⟨#[97+i]⟩=aP (cs++[97+i]) from eW cs (97+i),hc'];exact q2
   ·have hc':=Bj (Bl.mpr hc)
    walk_at "go";exact⟨_,rfl,rfl,by omega⟩
  ·rintro σ H' ⟨v3,rfl,rfl,hid⟩;exact absurd (show 23<=d-97 from hid) (by omega)
def bQA(z:Str):Prop:=∃ts:List (List Nat),z=bI ts/\1<=ts.length/\ts.length<=5/\∀t∈ts,eF t
def aJK(bk:List (Str×Str)):Prop:=∀b∈bk,bQA b.2
def cZ5:∀z∈(["sail", "fog", "wind", "calm", "x"]:List Str),eF z.cps.toList:=by
 unfold eF dXX;decide +kernel
def zU(h:∃t:List Nat,z=aP t/\eF t):bQA z:=by
 obtain⟨t,rfl,ht⟩:=h;refine⟨[t],?_,by show 1<=1;decide,by show 1<=5;decide,λu hu=>by rw[Am.mp hu];exact ht⟩
 show aP t=Txt.join _ [aP t]
 rw[show Txt.join (" " : Str) [aP t]=Str.join (" " : Str) [aP t] from Dd _ _];rfl
def cXV{y:Str}(h:∃t:List Nat,y=aP t/\eF t)(g:∃t:List Nat,z=aP t/\eF t):bQA (y++Str.ofString " " ++ z):=by
 obtain⟨t,rfl,ht⟩:=h;obtain⟨u,rfl,hu⟩:=g;refine⟨[t,u],?_,by show 1<=2;decide,by show 2<=5;decide,λv hv=>?_⟩
 ·rw[show [t,u]=[t]++[u] from rfl,vN (by simp) (by simp)]
  rw[show bI [t]=aP t from by unfold bI;rw[show Txt.join (" " : Str) ([t].map aP)=Str.join (" " : Str) ([t].map aP) from Dd _ _];rfl,show bI [u]=aP u from by unfold bI;rw[show Txt.join (" " : Str) ([u].map aP)=Str.join (" " : Str) ([u].map aP) from Dd _ _];rfl]
 ·rcases Be.mp hv with e|e
  ·rw[e];exact ht
  ·rw[Am.mp e];exact hu
def dQG:aJK [(Str.ofString "ab",Str.ofString "sail")]:=λb hb=>by
 rw[Am.mp hb];exact zU ⟨(Str.ofString "sail").cps.toList,FlT.str_ext (by rw[cF]),cZ5 _ (Ak ..)⟩
def cJP(hcw:kE bk cws)(hnd:cws.Nodup)(h:bk.length<=60)(hm:(bk.map (·.2)).Nodup)(ho:aJK bk):GoodBk bk:=by
 have words:bk.map (·.1)=cws.map aP:=by
  refine Gy (by rw[Ab,Ab,hcw.1]) λj j1 j2=>?_
  rw[Ab]at j1 j2;rw[Ef,Ef];exact(hcw.2 j _ _ (Aa j1) (Aa j2)).1
 refine⟨h,?_,hm,λb hb=>?_,ho⟩
 ·rw[words];exact List.pairwise_map.mpr (hnd.imp λhne e=>hne (sI e))
 ·obtain⟨j,hj⟩:=Fl.mp hb;have hl:=(Ad.mp hj).1
  exact⟨_,hcw.2 j b _ hj (Aa (by rw[hcw.1];exact hl))⟩
def aQG{ss:List Str}{i:Int}(h0:0<=i)(h1:i<(ss.length:Int)):∃z,z∈ss/\atI (ss.map V.str) i=some (.str z):=by
 obtain⟨k,rfl⟩:∃k:Nat,i=(k:Int):=⟨i.toNat,by omega⟩
 have hk:k<ss.length:=by omega
 exact⟨ss[k],Ce _,bD (by rw[Ae,Aa hk];rfl)⟩
def wF:Sp:=λvs H Q _=>∃(a:Addr) (ns:List Int),vs=[.ref a]/\rdL H a=some (ns.map V.int)/\ns.length<=7/\
 ∀(r:Addr) (bk:List (Str×Str)) (cws:Q6) (H':Hp),H r=none->Same H H'->BkAt H' r bk->kE bk cws->cws.Nodup->1<=bk.length->bk.length<=8->GoodBk bk->Q (.ref r) H'
def sc_l_book:FnScope ["_law_cells", "_law_terms", "_law_book_here", "_law_k", "_law_cell", "_law_number", "_law_word_here", "_law_meaning"] ["_law_cells"] (aI rO):=by walk_at "sc"
def bXM(F:Fun K "_law_book" "_law_book" rO f fd)(G:Gs K mg w Zu Zz Zv Zx Z0 Zw Zy)(c_l_mixed:Cal P w K mg base 1 "_law_mixed" ["_law_cell", "_law_k"] jC)(c_l_word:Cal P w K mg base 1 "_law_word" ["_law_number", "_law_most"] vL):FnOk P w K mg base CX0 2 f fd ["_law_cells"] wF:=by
 refine F.ok sc_l_book (λvs H Q E h=>?_) (λcdv A outer s H vs Q E hr h=>?_)
 ·obtain⟨a,ns,rfl,_⟩:=h;rfl
 obtain⟨a,ns,rfl,hns,h7,q⟩:=h;refine⟨_,(@aD _ _ _ _ _ (aM 1 sc_l_book.nd (@cC _ _ _ _ (@eP _ _ _ _ _ _ (@eP _ _ _ _ _ _ (@eP _ _ _ _ _ _ (@eP _ _ _ _ _ _ (@eP _ _ _ _ _ _ aB))))))) (@aD _ _ _ _ _ (aM 2 sc_l_book.nd (cC (aA (lY (@eP _ _ _ _ _ _ (@eP _ _ _ _ _ _ aB))) aB))) (@aD _ _ _ _ _ (cJ Bm rfl (kZ rfl G.b_enumerate (aA (mv 0) aB)) (cY (K:=K) (i:=3) (j:=4) (by rfl) (by rfl) sc_l_book.nd (by rfl) (by exact(Or.inl rfl)) (by exact Or.inl rfl) (by rfl) (by exact(Or.inl rfl)) (by exact Or.inl rfl)) (@aD _ _ _ _ _ (aM 5 sc_l_book.nd (aU c_l_mixed hr (by decide) rfl (aA (mv 4) (aA (mv 3) aB)))) (@aD _ _ _ _ _ (aM 6 sc_l_book.nd (aU c_l_word hr (by decide) rfl (aA (mv 5) (aA aJ aB)))) (@aD _ _ _ _ _ (aM 7 sc_l_book.nd (bG bU (mv 1) (aQ dF (aQ gO (mv 5) aJ) aJ) (λ_ _=>rfl))) (@aD _ _ _ _ _ (bY (aX nZ (aQ dF (aQ gO (mv 5) aJ) aJ) aJ (bB _)) (@aH _ _ _ (aM 7 sc_l_book.nd (aQ bM (aQ bM (mv 7) eO) (bG bU (mv 1) (aQ dF (aQ gO (mv 5) aJ) aJ) (λ_ _=>rfl))))) bF) (@aH _ _ _ (bY (PW.pt (bJF (aX rP (mv 6) (bV rfl (bO (mv 2)) (fN (N:=["_law_page"]) (by decide +kernel) (by decide +kernel)) (by decide +kernel) rfl (by decide +kernel) (λ_ _ _ _=>(aW (i:=0) (show List.Nodup (["_law_page"]:List Str) by decide +kernel) rfl (Or.inl rfl))) (λ_ _ _ _=>cK) (λ_ _ _ _=>(bG bU (mv 0) aJ (λ_ _=>rfl)))) (by rfl)) (bQP (aX rP (mv 7) (bV rfl (bO (mv 2)) (fN (N:=["_law_page"]) (by decide +kernel) (by decide +kernel)) (by decide +kernel) rfl (by decide +kernel) (λ_ _ _ _=>(aW (i:=0) (show List.Nodup (["_law_page"]:List Str) by decide +kernel) rfl (Or.inl rfl))) (λ_ _ _ _=>cK) (λ_ _ _ _=>(bG bU (mv 0) aJ (λ_ _=>rfl)))) (by rfl))))) (@aH _ _ _ (dW (cB Ck Dw Dx aQ4 (mv 2) (aA (lY (aA (mv 6) (aA (mv 7) aB))) aB)))) bF))))))) (@aH _ _ _ (aR (mv 2)))))),?_⟩
 walk_at "go";refine⟨by show 5<=sizeLine;decide,λrt hrt=>?_⟩
 have k1:=aF hrt (.lst ((["sail", "fog", "wind", "calm", "x"]:List Str).map V.str))
 have e1:rdL (upd H rt (.lst ((["sail", "fog", "wind", "calm", "x"]:List Str).map V.str))) rt=some ((["sail", "fog", "wind", "calm", "x"]:List Str).map V.str):=cA
 change jL 1 (V.ref rt) _ (upd H rt (.lst ((["sail", "fog", "wind", "calm", "x"]:List Str).map V.str))) _
 have htl:(["sail", "fog", "wind", "calm", "x"]:List Str).length=5:=rfl
 have hts:∀z∈(["sail", "fog", "wind", "calm", "x"]:List Str),z.length<=10:=by decide +kernel
 have htT:∀z∈(["sail", "fog", "wind", "calm", "x"]:List Str),∃t:List Nat,z=aP t/\eF t:=λz hz=>⟨z.cps.toList,FlT.str_ext (by rw[cF]),cZ5 z hz⟩
 generalize (["sail", "fog", "wind", "calm", "x"]:List Str)=ts at k1 e1 htl hts htT ⊢;generalize upd H rt (.lst (ts.map V.str))=H1 at k1 e1 ⊢;walk_at "go";refine⟨by show 2<=sizeLine;decide,λp2 hp2=>?_⟩
 have k2:=aF hp2 (.tup [V.str (Str.ofString "ab"),V.str (Str.ofString "sail")])
 have t2:(upd H1 p2 (.tup [V.str (Str.ofString "ab"),V.str (Str.ofString "sail")])) p2=some (.tup [V.str (Str.ofString "ab"),V.str (Str.ofString "sail")]):=aE
 generalize upd H1 p2 (.tup [V.str (Str.ofString "ab"),V.str (Str.ofString "sail")])=H2 at k2 t2 ⊢;walk_at "go";refine⟨by show 1<=sizeLine;decide,λrb hrb=>?_⟩
 have nrt:rt≠rb:=λz=>by
  have:=aK k2 e1
  rw[z]at this;unfold rdL at this;rw[hrb]at this;cases this
 have k3:=aF hrb (.lst [V.ref p2])
 have e3:BkAt (upd H2 rb (.lst [V.ref p2])) rb [(Str.ofString "ab",Str.ofString "sail")]:=⟨[p2],aE,rfl,λj p b hp hb=>by
  match j,hp,hb with
  |0,hp,hb=>cases hp;cases hb;exact k3 _ _ t2
  |j+1,hp,_=>cases hp⟩
 have s03:=k1.trans (k2.trans k3)
 have hrbH:H rb=none:=none_of (k1.trans k2) hrb
 have et3:=aK (k2.trans k3) e1
 generalize upd H2 rb (.lst [V.ref p2])=H3 at k3 e3 s03 et3 ⊢;have hns3:=aK s03 hns
 walk_at "go";refine qH (xs:=ns.map V.int) (λi σ H'=>∃(bk:List (Str×Str)) (cws:Q6) (v3 v4 v5 v6 v7:Option V),σ=[some (.ref a),some (.ref rt),some (.ref rb),v3,v4,v5,v6,v7]/\Same H H'/\rdL H' rt=some (ts.map V.str)/\BkAt H' rb bk/\kE bk cws/\cws.Nodup/\1<=bk.length/\bk.length<=1+i/\(bk.map (·.2)).Nodup/\aJK bk)
  ⟨_,[[97,98]],_,_,_,_,_,rfl,s03,et3,e3,⟨rfl,λj b cw hb hc=>by
   match j,hb,hc with
   |0,hb,hc=>cases hb;cases hc;exact⟨rfl,by decide,by decide,by unfold aV;decide⟩
   |j+1,hb,_=>cases hb⟩,by simp,Nat.le_refl _,Nat.le_refl _,by simp,dQG⟩ (λi σ H' _ ⟨_,_,_,_,_,_,_,_,e,_⟩=>aK e hns) ?_ ?_
 ·rintro i x σ H4 pe hx ⟨bk,cws,v3,v4,v5,v6,v7,rfl,s4,et4,hbk,hcw,hnd,hb1,hbl,hmn,hmo⟩ hpe;have hi:i<7:=by have:=(Ad.mp hx).1;rw[Ab]at this;omega
  obtain⟨c,_,rfl⟩:=aJL hx;have k5:=aF hpe (.tup [V.int ((0+i:Nat):Int),V.int c])
  have te5:(upd H4 pe (.tup [V.int ((0+i:Nat):Int),V.int c])) pe=some (.tup [V.int ((0+i:Nat):Int),V.int c]):=aE
  have s5:=s4.trans k5
  have et5:=aK k5 et4
  obtain⟨qs,b1,b2,b3⟩:=id hbk;generalize upd H4 pe (.tup [V.int ((0+i:Nat):Int),V.int c])=H5 at k5 te5 s5 et5 ⊢;have tt5:=dE te5
  walk_at "go";refine⟨c,_,rfl,by omega,by omega,λN hN=>?_⟩
  walk_at "go";refine⟨N,6,rfl,hN,by decide,by decide,λcw H6 s6 hc1 hc6 hcL=>?_⟩
  have y0:=Cv (N / 5) (show (5:Int)≠0 by decide)
  have y1:=Dg (N / 5) (show (0:Int)<5 by decide)
  have et6:=aK s6 et5
  walk_at "go";obtain⟨z1,hz1,az1⟩:=aQG (ss:=ts) y0 (by rw[htl];exact y1)
  have hzl:=hts z1 hz1
  refine cO et6 az1 ?_;have s06:=s5.trans s6
  have hbk6:BkAt H6 rb bk:=⟨qs,(k5.trans s6) _ _ b1,b2,λj p b hp hb=>(k5.trans s6) _ _ (b3 j p b hp hb)⟩
  walk_at "gs"
  with_reducible refine dJV (λσ' H'=>∃z:Str,σ'=[some (.ref a),some (.ref rt),some (.ref rb),some (.int ((0+i:Nat):Int)),some (.int c),some (.int N),some (.str (aP cw)),some (.str z)]/\z.length<=30/\H'=H6/\bQA z) (λσ' H' j7=>?_) (λM hM=>?_)
  ·obtain⟨z,rfl,hz,rfl,hmz⟩:=j7;obtain⟨qs',c1,c2,c3⟩:=id hbk6;have rq:=aO c1
   have hql:(qs'.map V.ref).length=bk.length:=by rw[Ab,c2]
   have words:bk.map (·.1)=cws.map aP:=by
    refine Gy (by rw[Ab,Ab,hcw.1]) λj j1 j2=>?_
    rw[Ab]at j1 j2;rw[Ef,Ef];exact(hcw.2 j _ _ (Aa j1) (Aa j2)).1
   walk_at "go";refine dP (xs:=qs'.map V.ref) (λj=>(bk[j]?).map λb=>V.str b.1) rq (by rw[hql];exact bA (by omega)) (λj x Hc A B hx sm hA hB=>?_) (λD Hd hD sD hd=>?_)
   ·rw[Ae]at hx;obtain⟨p,ep,rfl⟩:=Bk.mp hx;have hjb:j<bk.length:=by rw[<-c2];exact(Ad.mp ep).1
    have eb:=Aa hjb
    have tp:=sm _ _ (c3 j p _ ep eb)
    walk_at "go";refine⟨Wk.set rfl (Wk.refl _),?_⟩;walk_at "go";exact dJ tp (v:=.str bk[j].1) (bD (j:=0) rfl) (hA _ (by rw[eb];rfl) _ (Same.refl _))
   rw[hql,cQ (λb:Str×Str=>V.str b.1),show bk.map (λb=>V.str b.1)=(bk.map (·.1)).map V.str by rw[Bt];rfl]at hd
   refine wM (neg:=true) (aO hd) rfl (cE _) ?_;rw[if_pos rfl,cQH];have keep:∀H9,Same H' H9->rdL H9 rt=some (ts.map V.str)/\BkAt H9 rb bk:=λH9 k=>⟨aK k et6,⟨qs',k _ _ c1,c2,λj p b hp hb=>k _ _ (c3 j p b hp hb)⟩⟩
   by_cases hw:aP cw∈bk.map (·.1)
   ·rw[Ap hw];walk_at "go";exact⟨bk,cws,_,_,_,_,_,rfl,s06.trans sD,(keep _ sD).1,(keep _ sD).2,hcw,hnd,hb1,by omega,hmn,hmo⟩
   ·rw[Ay hw];have rqD:=aK sD rq
    walk_at "go";refine dP (xs:=qs'.map V.ref) (λj=>(bk[j]?).map λb=>V.str b.2) rqD (by rw[hql];exact bA (by omega)) (λj x Hc A B hx sm hA hB=>?_) (λD2 Hd2 hD2 sD2 hd2=>?_)
    ·rw[Ae]at hx;obtain⟨p,ep,rfl⟩:=Bk.mp hx;have hjb:j<bk.length:=by rw[<-c2];exact(Ad.mp ep).1
     have eb:=Aa hjb
     have tp:=sm _ _ (sD _ _ (c3 j p _ ep eb))
     walk_at "go";refine⟨Wk.set rfl (Wk.refl _),?_⟩;walk_at "go";exact dJ tp (v:=.str bk[j].2) (bD (j:=1) rfl) (hA _ (by rw[eb];rfl) _ (Same.refl _))
    rw[hql,cQ (λb:Str×Str=>V.str b.2),show bk.map (λb=>V.str b.2)=(bk.map (·.2)).map V.str by rw[Bt];rfl]at hd2
    refine wM (neg:=true) (aO hd2) rfl (cE _) ?_;rw[if_pos rfl,cQH];have s62:=sD.trans sD2
    by_cases hm:z∈bk.map (·.2)
    ·rw[Ap hm];walk_at "go";exact⟨bk,cws,_,_,_,_,_,rfl,s06.trans s62,(keep _ s62).1,(keep _ s62).2,hcw,hnd,hb1,by omega,hmn,hmo⟩
    ·rw[Ay hm];have c1':=s62 _ _ c1
     walk_at "go";refine⟨by show 2<=sizeLine;decide,λpt hpt=>?_⟩
     have k8:=aF hpt (.tup [.str (aP cw),.str z])
     have t8:(upd Hd2 pt (.tup [.str (aP cw),.str z])) pt=some (.tup [.str (aP cw),.str z]):=aE
     have s68:=s62.trans k8
     have c18:=k8 _ _ c1'
     have et8:=(keep _ s68).1
     have c38:∀(j:Nat) p b,qs'[j]?=some p->bk[j]?=some b->(upd Hd2 pt (.tup [.str (aP cw),.str z])) p=some (.tup [.str b.1,.str b.2]):=λj p b hp hb=>s68 _ _ (c3 j p b hp hb)
     generalize upd Hd2 pt (.tup [.str (aP cw),.str z])=H8 at k8 t8 s68 c18 et8 c38 ⊢;have m8:=cI c18
     walk_at "go";have ne:∀p xs,H8 p=some (.tup xs)->p≠rb:=λp xs e z=>by rw[z,c18]at e;cases e
     refine⟨bk++[(aP cw,z)],cws++[cw],_,_,_,_,_,rfl,bJ hrbH (s06.trans s68),?_,?_,?_,?_,by rw[Ag];omega,by rw[Ag];show _+1<=_;omega,?_,?_⟩
     ·rw[aXP nrt];exact et8
     ·refine⟨qs'++[pt],by rw[aE,Ao];rfl,by rw[Ag,Ag,c2];rfl,λj p b hp hb=>?_⟩
      rcases Nat.lt_or_ge j qs'.length with zz|zz
      ·rw[Aq zz]at hp;rw[Aq (by omega)]at hb
       have:=c38 j p b hp hb
       rw[aG (ne _ _ this)];exact this
      ·rw[Ax zz]at hp;rw[Ax (by omega)]at hb
       have w1:=(Ad.mp hp).1
       have eu:j-qs'.length=0:=by have:j-qs'.length<1:=w1;omega
       have ev:j-bk.length=0:=by omega
       rw[eu]at hp;rw[ev]at hb;cases hp;cases hb;rw[aG (ne _ _ t8)];exact t8
     ·refine⟨by rw[Ag,Ag,hcw.1];rfl,λj b cw' hb hc=>?_⟩
      have hcl:=hcw.1
      rcases Nat.lt_or_ge j bk.length with zz|zz
      ·rw[Aq zz]at hb;rw[Aq (by omega)]at hc
       exact hcw.2 j b cw' hb hc
      ·rw[Ax zz]at hb;rw[Ax (by omega)]at hc
       have w1:=(Ad.mp hb).1
       have eu:j-bk.length=0:=by have:j-bk.length<1:=w1;omega
       have ev:j-cws.length=0:=by omega
       rw[eu]at hb;rw[ev]at hc;cases hb;cases hc;exact⟨rfl,hc1,by omega,hcL⟩
     ·rw[words]at hw;refine List.nodup_append.mpr ⟨hnd,by simp,λu hu v hv e=>?_⟩
      rw[Am.mp hv]at e;exact hw (Ba.mpr ⟨u,hu,by rw[e]⟩)
     ·rw[Ao];refine List.nodup_append.mpr ⟨hmn,by simp,λu hu v hv e=>?_⟩
      rw[Am.mp hv]at e;rw[e]at hu;exact hm hu
     ·intro b hb;rcases By.mp hb with zz|zz
      ·exact hmo b zz
      ·rw[Am.mp zz];exact hmz
  ·walk_at "go";refine eJ (λhg=>?_) (λhg=>?_)
   ·have w0:=Cv (N / 50) (show (5:Int)≠0 by decide)
    have w1:=Dg (N / 50) (show (0:Int)<5 by decide)
    obtain⟨z2,hz2,az2⟩:=aQG (ss:=ts) w0 (by rw[htl];exact w1)
    have hzl2:=hts z2 hz2
    have hsp:(Str.ofString " ").length=1:=rfl
    have hl1:(z1++Str.ofString " ").length=z1.length+1:=by rw[Str.length_append];rfl
    walk_at "go";refine cO et6 az2 ?_;walk_at "go";exact hM _ _ ⟨_,rfl,by rw[Str.length_append,hl1];omega,rfl,cXV (htT z1 hz1) (htT z2 hz2)⟩
   ·walk_at "go";exact hM _ _ ⟨z1,rfl,by omega,rfl,zU (htT z1 hz1)⟩
 ·rintro σ H4 ⟨bk,cws,v3,v4,v5,v6,v7,rfl,s4,et4,hbk,hcw,hnd,hb1,hbl,hmn,hmo⟩;rw[Ab]at hbl;walk_at "go";exact q rb bk cws H4 hrbH s4 hbk hcw hnd hb1 (by omega) (cJP hcw hnd (by omega) hmn hmo)
def rR:Sp:=λvs H Q _=>∃(c:Int) (b:Addr) (bk:List (Str×Str)) (cws:List (List Nat)),vs=[.int c,.ref b]/\BkAt H b bk/\kE bk cws/\bk.length<=8/\
 ∀(p:Addr) (kvs:List (Key×V)) (f:Nat->Option Int) (H':Hp),H p=none->Same H H'->H' p=some (.dK kvs)->Lk kvs f->(∀c,0<=aZ f c/\aZ f c<=9)->Q (.ref p) H'
def sc_l_flags:FnScope ["_law_cell", "_law_book_here", "_law_number", "_law_most", "_law_locker", "_law_flag"] ["_law_cell", "_law_book_here"] (aI pB):=by walk_at "sc"
def aJG(F:Fun K "_law_flags" "_law_flags" pB f fd)(G:Gs K mg w Zu Zz Zv Zx Z0 Zw Zy)(c_l_mixed:Cal P w K mg base 1 "_law_mixed" ["_law_cell", "_law_k"] jC)(c_l_checked:Cal P w K mg base 1 "_law_checked" ["_law_word_here"] nG):FnOk P w K mg base CX0 2 f fd ["_law_cell", "_law_book_here"] rR:=by
 refine F.ok sc_l_flags (λvs H Q E h=>?_) (λcdv A outer s H vs Q E hr h=>?_)
 ·obtain⟨c,b,bk,cws,rfl,_⟩:=h;rfl
 obtain⟨c,b,bk,cws,rfl,hbk,hcw,h8,q⟩:=h;refine⟨_,(@aD _ _ _ _ _ (aM 2 sc_l_flags.nd (aU c_l_mixed hr (by decide) rfl (aA (mv 0) (aA aJ aB)))) (@aD _ _ _ _ _ (aM 3 sc_l_flags.nd (aQ bM aJ (aQ dF (mv 2) aJ))) (@aD _ _ _ _ _ (aM 4 sc_l_flags.nd rJ) (@aD _ _ _ _ _ (cJ Bm rfl (jS (aQ bM (cB Cr PySem.F.slot_str_join PySem.F.type_str_join aJC eO (aA (bV rfl (bO (mv 1)) (fN (N:=["_law_page"]) (by decide +kernel) (by decide +kernel)) (by decide +kernel) rfl (by decide +kernel) (λ_ _ _ _=>(aW (i:=0) (show List.Nodup (["_law_page"]:List Str) by decide +kernel) rfl (Or.inl rfl))) (λ_ _ _ _=>cK) (λ_ _ _ _=>(aU c_l_checked hr (by decide) rfl (aA (bG bU (mv 0) aJ (λ_ _=>rfl)) aB)))) aB)) eO)) (aW (i:=5) sc_l_flags.nd rfl (Or.inl rfl)) (@aD _ _ _ _ _ (aM 2 sc_l_flags.nd (aQ dF (aQ kC (aQ bM (mv 2) aJ) aJ) aJ)) (@aH _ _ _ (gM (Room.u1 hr) (mv 4) (mv 5) (aQ dF (aQ gO (mv 2) aJ) (aQ bM (mv 3) aJ)) rfl)))) (@aH _ _ _ (aR (mv 4))))))),?_⟩
 obtain⟨qs,b1,b2,b3⟩:=id hbk;have hql:(qs.map V.ref).length=bk.length:=by rw[Ab,b2]
 walk_at "go";refine⟨c,90,rfl,by omega,by omega,λn hn=>?_⟩
 have y0:=Cv n (show (8:Int)≠0 by decide)
 have y1:=Dg n (show (0:Int)<8 by decide)
 walk_at "go";generalize n%8=n9 at y0 y1 ⊢;intro pd hpd;have s1:=aF hpd (HO.dK [])
 have e1:(upd H pd (HO.dK [])) pd=some (.dK []):=aE
 generalize upd H pd (HO.dK [])=H1 at s1 e1 ⊢;have rq:=aO (s1 _ _ b1)
 walk_at "go";refine dP (xs:=qs.map V.ref) (λj=>(cws[j]?).map λcw=>V.str (aP (cw++[ckL cw]))) rq (by rw[hql];exact bA (by omega)) (λj x Hc A B hx sm hA hB=>?_) (λD Hd hD sD hd=>?_)
 ·rw[Ae]at hx;obtain⟨p,ep,rfl⟩:=Bk.mp hx;have hjb:j<bk.length:=by rw[<-b2];exact(Ad.mp ep).1
  have ec:cws[j]?=some (cws[j]'(by rw[hcw.1];exact hjb)):=Aa _
  obtain⟨hw,hc1,hc6,hcL⟩:=hcw.2 j _ _ (Aa hjb) ec;have tp:=sm _ _ (s1 _ _ (b3 j p _ ep (Aa hjb)))
  rw[hw]at tp;walk_at "go";refine⟨Wk.set rfl (Wk.refl _),?_⟩;walk_at "go";refine dJ tp (v:=.str (aP (cws[j]'(by rw[hcw.1];exact hjb)))) (bD (j:=0) rfl) ?_
  walk_at "go";exact⟨_,rfl,hc1,hc6,hcL,λH' s' _ _=>hA _ (by rw[ec];rfl) H' s'⟩
 rw[hql,<-hcw.1,cQ (λcw=>V.str (aP (cw++[ckL cw]))),show cws.map (λcw=>V.str (aP (cw++[ckL cw])))=((cws.map λcw=>cw++[ckL cw]).map aP).map V.str by rw[Bt,Bt];rfl]at hd
 have h7:∀c∈cws.map (λcw=>cw++[ckL cw]),c.length<=7:=λc hc=>by
  obtain⟨cw,hm,rfl⟩:=Ba.mp hc;obtain⟨j,hj⟩:=Fl.mp hm;have hjl:=(Ad.mp hj).1
  have:=(hcw.2 j _ _ (Aa (by rw[<-hcw.1];exact hjl)) hj).2.2.1
  rw[Ag];show _+1<=7
  omega
 have h8:(cws.map (λcw=>cw++[ckL cw])).length<=8:=by rw[Ab,hcw.1];exact h8
 generalize cws.map (λcw=>cw++[ckL cw])=cws at hd h7 h8;have hb1:=aO hd
 have e1:=sD _ _ e1
 have s1:=s1.trans sD
 have hw7:∀z∈cws.map aP,z.length<=7:=λz hz=>by
  obtain⟨c,hc,rfl⟩:=Ba.mp hz;rw[bW];exact h7 c hc
 have hjl:(Txt.join (Str.ofString "") (cws.map aP)).length<=56:=by
  have:=dQV (sep:=Str.ofString "") (n:=7) (L:=cws.map aP) hw7
  rw[Ab,show (Str.ofString "").length=0 from rfl]at this;omega
 have hsum:((cws.map aP).map (·.length)).sum<=7*(cws.map aP).length:=by
  generalize cws.map aP=L at hw7;induction L with
  |nil=>exact Ai _
  |cons u v ih=>
   have h1:=hw7 u Ak
   have h2:=ih λx hx=>hw7 x (Aj _ hx)
   rw[Au,En,Aw];omega
 rw[Ab]at hsum;walk_at "go";refine aZK (ss:=cws.map aP) hb1 (by rw[show (Str.ofString "").length=0 from rfl];omega) ?_
 have h12:(Str.ofString "1234aw").length=6:=rfl
 walk_at "go";have htl:(Txt.join (Str.ofString "") (cws.map aP)++Str.ofString "1234aw").length<=62:=by rw[Str.length_append];omega
 generalize Txt.join (Str.ofString "") (cws.map aP)++Str.ofString "1234aw"=zz at htl ⊢;refine aJI (λi σ H'=>∃(n':Int) (kvs:List (Key×V)) (f:Nat->Option Int) (v5:Option V),σ=[some (.int c),some (.ref b),some (.int n'),some (.int (1+n9)),some (.ref pd),v5]/\0<=n'/\Same H H'/\H' pd=some (.dK kvs)/\Lk kvs f/\kvs.length<=i/\∀c,0<=aZ f c/\aZ f c<=9)
  ⟨n,[],_,_,rfl,hn,s1,e1,.nil,Ai _,λc=>⟨Int.le_refl _,(by decide:(0:Int)<=9)⟩⟩ ?_ ?_
 ·rintro i d σ H2 hd ⟨n',kvs,f,v5,rfl,hn',s2,e2,lk,hkl,hf⟩;have hi':i<62:=by have:=(Ad.mp hd).1;rw[dZ]at this;omega
  have x0:=Cv ((n'+11)*69621) (show (2147483647:Int)≠0 by decide)
  walk_at "go";generalize (n'+11)*69621%2147483647=n'' at x0 ⊢;have x1:=Cv (n'' / 7) (show 1+n9+1≠0 by omega)
  have x2:=Dg (n'' / 7) (show 0<1+n9+1 by omega)
  walk_at "go";refine lD (z:=one d) e2 (bA (by omega)) ?_
  refine⟨n'',_,_,_,rfl,x0,bJ hpd s2,aE,lk.put d _,?_,λc=>?_⟩
  ·have:=eE kvs (Sum.inr (one d)) (.int (n'' / 7%(1+n9+1)))
   omega
  ·show 0<=((if c=d then some (n'' / 7%(1+n9+1)) else f c):Option Int).getD 0/\((if c=d then some (n'' / 7%(1+n9+1)) else f c):Option Int).getD 0<=9
   by_cases z:c=d
   ·rw[if_pos z];exact⟨x1,by show n'' / 7%(1+n9+1)<=9;omega⟩
   ·rw[if_neg z];exact hf c
 ·rintro σ H2 ⟨n',kvs,f,v5,rfl,hn',s2,e2,lk,hkl,hf⟩;rw[dZ]at hkl;walk_at "go";exact q pd kvs f H2 hpd s2 e2 lk hf
def wR(ns:List Int)(lo m:Int)(h:0<=lo)(h2:0<=m):∃ms:List Int,kO (ns.map V.int) (some lo) (some (lo+m))=ms.map V.int/\ms.length<=m.toNat:=by
 refine⟨(ns.drop (min lo.toNat ns.length)).take (min (lo+m).toNat ns.length-min lo.toNat ns.length),?_,?_⟩
 ·unfold kO;rw[Ff,Fg];show ((ns.map V.int).drop (if lo<0 then (lo+((ns.map V.int).length:Int)).toNat else min lo.toNat (ns.map V.int).length)).take ((if lo+m<0 then (lo+m+((ns.map V.int).length:Int)).toNat else min (lo+m).toNat (ns.map V.int).length)-(if lo<0 then (lo+((ns.map V.int).length:Int)).toNat else min lo.toNat (ns.map V.int).length))=_
  rw[if_neg (by omega),if_neg (by omega),Ab]
 ·rw[Br,Cq];omega
def rX(K:W.Frag)(C:Addr):Sp:=λvs H Q _=>∃(a:Addr) (ns:List Int),vs=[.ref a]/\SqL K H a (ns.map V.int)/\ns.length<=63/\
 ∀(r x dx rb rl rw b' s0 st hg dd:Addr) (bk:List (Str×Str)) (cws:Q6) (f:Nat->Option Int) (m:Nat) (H':Hp),Same H H'->H' r=some (.lst [.ref x,.ref rb,.ref rl,.ref rw])->BkAt H' rb bk->kE bk cws->cws.Nodup->1<=bk.length->bk.length<=8->GoodBk bk->1<=m->m<=6->
  H' x=some (.ins C dx (twF b' m s0 st hg dd))->BkAt H' b' bk->TwSt H' hg st (List.replicate m none) f->H' dd=some (.lst [])->hg≠dd->b'≠dd->H' rw=some (.lst (List.replicate m V.non))->rw≠dd->hg≠rw->Q (.ref r) H'
def sc_l_begun:FnScope ["_law_script", "_law_book_here", "_law_totals", "_law_many"] ["_law_script"] (aI oW):=by walk_at "sc"
def aZV(F:Fun K "_law_begun" "_law_begun" oW f fd)(G:Gs K mg w Zu Zz Zv Zx Z0 Zw Zy)(c_l_book:Cal P w K mg base 2 "_law_book" ["_law_cells"] wF)(c_l_flags:Cal P w K mg base 2 "_law_flags" ["_law_cell", "_law_book_here"] rR)(c_l_cell_at:Cal P w K mg base 1 "_law_cell_at" ["_law_script", "_law_k"] (nU K))(c_Tower_init:eQ4 CX0 P w K mg base 2 Z0 ["self", "book", "locker", "many"] (gU Z0)):FnOk P w K mg base CX0 4 f fd ["_law_script"] (rX K Z0):=by
 refine F.ok sc_l_begun (λvs H Q E h=>?_) (λcdv A outer s H vs Q E hr h=>?_)
 ·obtain⟨a,ns,rfl,_⟩:=h;rfl
 obtain⟨a,ns,rfl,hS,h63,q⟩:=h;refine⟨_,(@aD _ _ _ _ _ (aM 1 sc_l_begun.nd (aU c_l_book hr (by decide) rfl (aA (iH sl_list (mv 0) (fE aJ) (fE aJ)) aB))) (@aD _ _ _ _ _ (aM 2 sc_l_begun.nd (aU c_l_flags hr (by decide) rfl (aA (aU c_l_cell_at hr (by decide) rfl (aA (mv 0) (aA aJ aB))) (aA (mv 1) aB)))) (@aD _ _ _ _ _ (aM 3 sc_l_begun.nd (aQ bM aJ (aQ dF (aU c_l_cell_at hr (by decide) rfl (aA (mv 0) (aA aJ aB))) aJ))) (@aH _ _ _ (aR (@cC _ _ _ _ (aA (eQ5 c_Tower_init hr (by decide) rfl G.c_Tower (aA (mv 1) (aA (mv 2) (aA (mv 3) aB)))) (aA (mv 1) (aA (mv 2) (aA (aQ yS (cC (aA cP aB)) (mv 3)) aB)))))))))),?_⟩
 walk_at "go";refine dZU hS λrc hrc=>?_;obtain⟨ms,em,hml⟩:=wR ns 2 7 (by decide) (by decide)
 rw[show (2:Int)+7=9 from rfl]at em;rw[em];have k1:=aF hrc (.lst (ms.map V.int))
 have e1:rdL (upd H rc (.lst (ms.map V.int))) rc=some (ms.map V.int):=cA
 generalize upd H rc (.lst (ms.map V.int))=H1 at k1 e1 ⊢;walk_at "go";refine⟨rc,ms,rfl,e1,hml,λrb bk cws H2 hrb s2 hbk hcw hnd hb1 hb8 hgb=>?_⟩;have s02:=k1.trans s2
 walk_at "go";refine⟨a,ns,1,rfl,s02.seq hS,by omega,λn1=>?_⟩
 walk_at "go";refine⟨n1,rb,bk,cws,rfl,hbk,hcw,hb8,λrl kvs f H3 hrl s3 el lk hf=>?_⟩;have s03:=s02.trans s3
 walk_at "go";refine⟨a,ns,0,rfl,s03.seq hS,by omega,λn0=>?_⟩
 have y0:=Cv n0 (show (6:Int)≠0 by decide)
 have y1:=Dg n0 (show (0:Int)<6 by decide)
 obtain⟨m,em,m1,m6⟩:∃m:Nat,1+n0%6=(m:Int)/\1<=m/\m<=6:=⟨(1+n0%6).toNat,by omega,by omega,by omega⟩
 walk_at "go";rw[em];walk_at "go";intro x dx hx hdx hne;obtain⟨qs,b1,b2,b3⟩:=id hbk;have hkk:=(aF hdx (.own x)).trans (aF (show (upd H3 dx (.own x)) x=none by rw[aG (Ne.symm hne)];exact hx) (.ins Z0 dx []))
 refine⟨x,rb,rl,dx,qs.map V.ref,kvs,f,m,rfl,aE,aO (hkk _ _ (s3 _ _ b1)),.inl (hkk _ _ el),lk,m6,λb' s0 st hg dd H4 hb' hhg hdd nhd nbd sE x4 e4 d04 d14 h4 f4=>⟨rfl,?_⟩⟩;have s34:Same H3 H4:=λb o e=>sE b o (λz=>by rw[Am.mp z,hx]at e;cases e) (hkk _ _ e)
 have s04:=s03.trans s34
 walk_at "go";refine⟨by show 1<=sizeLine;decide,λp0 hp0=>?_⟩
 have k5:=aF hp0 (.lst [V.non])
 have e5:(upd H4 p0 (.lst [V.non])) p0=some (.lst [V.non]):=aE
 generalize upd H4 p0 (.lst [V.non])=H5 at k5 e5 ⊢;walk_at "go";refine⟨p0,_,[V.non],rfl,rfl,e5,by omega,by omega,by show 1*((m:Int)).toNat<=sizeLine;exact bH (by omega),λrw' hrw=>?_⟩
 rw[rF];have k6:=k5.trans (aF hrw (.lst (List.replicate m V.non)))
 have e6:(upd H5 rw' (.lst (List.replicate m V.non))) rw'=some (.lst (List.replicate m V.non)):=aE
 have nrw:rw'≠dd:=λz=>by rw[z,k5 _ _ f4]at hrw;cases hrw
 have nhw:hg≠rw':=λz=>by rw[<-z,k5 _ _ h4]at hrw;cases hrw
 generalize upd H5 rw' (.lst (List.replicate m V.non))=H6 at k6 e6 ⊢;walk_at "go";refine⟨by show 4<=sizeLine;decide,λr hr=>?_⟩
 have k7:=aF hr (.lst [.ref x,.ref rb,.ref rl,.ref rw'])
 have k47:=k6.trans k7
 have s07:=s04.trans k47
 have bkk:∀(y:Addr),H4 y=some (.lst (qs.map V.ref))->BkAt (upd H6 r (.lst [.ref x,.ref rb,.ref rl,.ref rw'])) y bk:=λy hy=>⟨qs,k47 _ _ hy,b2,λj p b hp hb=>k47 _ _ (s34 _ _ (s3 _ _ (b3 j p b hp hb)))⟩
 refine q r x dx rb rl rw' b' s0 st hg dd bk cws (cH (aZ f)) m _ s07 aE (bkk rb (s34 _ _ (s3 _ _ b1))) hcw hnd hb1 hb8 hgb m1 m6 (k47 _ _ x4) (bkk b' e4) ⟨⟨_,k47 _ _ h4,?_⟩,?_,⟨_,k47 _ _ d14,fV _⟩,kT _⟩ (k47 _ _ f4) nhd nbd (k7 _ _ e6) nrw (λz=>nhw z)
 ·refine⟨by rw[Bp,Bp],λj v h hv hh=>?_⟩
  rw[Et]at hv hh;split at hv
  ·rename_i hj
   rw[if_pos hj]at hh;cases hv;cases hh;rfl
  ·cases hv
 ·intro cs hc;cases (List.mem_replicate.mp hc).2
def nS(bk:List (Str×Str))(js:List Nat):List Str:=js.map λj=>(bk.getD j (Str.empty,Str.empty)).1
def dQD(hg:GoodBk bk)(hm:cV bk mss)(hj:∀j∈js,j<bk.length){ms:List Str}(h:eQM bk (nS bk js) ms):ms=js.map λj=>bI (mss.getD j []):=by
 obtain⟨h1,h2⟩:=h;have hl:(nS bk js).length=js.length:=Ab ..
 refine Gy (by rw[Ab];omega) λi a b=>?_
 rw[Ab]at b;have hi:=hj _ (Ce b)
 have eb:bk.getD js[i] (Str.empty,Str.empty)=bk[js[i]]:=by rw[Ac,Aa hi];rfl
 have e:=h2 i (bk[js[i]]).1 (by unfold nS;rw[Ae,Aa b,Dz,eb])
 rw[zC hg.words (Ce hi),Aa a]at e;have hmi:js[i]<mss.length:=by rw[hm.1];exact hi
 have h3:=(hm.2 js[i] _ _ (Aa hi) (Aa hmi)).1
 rw[Ef,iP (Aa hmi),<-h3];injection e with e
 exact e.symm
def dQC(hg:GoodBk bk)(hm:cV bk mss){rb rw':Addr}{E:XK}(hb:BkAt H rb bk)(hr:rdL H rw'=some ((nS bk js).map V.str))(h1:1<=js.length)(h1000:js.length<=1000)(hj:∀j∈js,j<bk.length)(q:∀H',Same H H'->Q (.str (bI (dO mss js))) H'):iS [.ref rb,.ref rw'] H Q E:=by
 have hl:(nS bk js).length=js.length:=Ab ..
 refine⟨rb,rw',bk,nS bk js,rfl,hb,hg.words,λx hx=>?_,hr,by omega,by omega,λi v hv hn=>?_,λms _ hs H' s=>?_⟩
 ·obtain⟨ts,e,a1,a5,aT⟩:=hg.mean x hx;have:=pE ts aT
  rw[e];omega
 ·unfold nS at hv;rw[Ae]at hv;obtain⟨j,ej,rfl⟩:=Bk.mp hv;have hjl:=hj j (Al ej)
  rw[Ac,Aa hjl]at hn;have:=zC hg.words (Ce hjl)
  rw[show mean bk bk[j].1=none from hn]at this;cases this
 ·rw[dQD hg hm hj hs,oI (λz=>by rw[z]at h1;exact absurd h1 (by decide)) λj hj'=>?_]
  ·exact q H' s
  ·have hjl:j<mss.length:=by rw[hm.1];exact hj j hj'
   have h2:=(hm.2 j _ _ (Aa (hj j hj')) (Aa hjl)).2.1
   rw[iP (Aa hjl)];intro z;rw[z]at h2;exact absurd h2 (by decide)
def bQ1(h:cV bk mss):∀j,j<mss.length->mss.getD j []≠[]/\(mss.getD j []).length<=5/\∀t∈mss.getD j [],eF t:=λj hj=>by
 obtain⟨_,h1,h5,hT⟩:=h.2 j _ _ (Aa (by rw[<-h.1];exact hj)) (Aa hj)
 rw[Ac,Aa hj];exact⟨λz=>by rw[show (some mss[j]).getD []=mss[j] from rfl]at z;rw[z]at h1;exact absurd h1 (by decide),h5,hT⟩
def rM(h:cV bk mss):∀ {js:List Nat},(∀j∈js,j<mss.length)->(dO mss js).length<=5*js.length/\∀t∈dO mss js,eF t
 |[],_=>⟨Ai _,λt ht=>nomatch ht⟩
 |j::r,hj=>by
  obtain⟨i1,i2⟩:=rM h (js:=r) λx hx=>hj x (Aj _ hx);obtain⟨_,l5,lT⟩:=bQ1 h j (hj j Ak);rw[dC,Ag,Aw];refine⟨by omega,λt ht=>?_⟩
  rcases By.mp ht with z|z
  ·exact lT t z
  ·exact i2 t z
def bQD{n:Nat}:∀ {L:List Str},(∀z∈L,z.length<=n)->(L.map (·.length)).sum<=n*L.length
 |[],_=>Ai _
 |z::r,h=>by
  rw[Au,En,Aw,Nat.mul_succ];have:=h z Ak
  have:=bQD λx hx=>h x (Aj z hx)
  omega
def vO:Sp:=λvs H Q _=>∃(b:Addr) (n:Int) (bk:List (Str×Str)) (mss:List (List (List Nat))),vs=[.ref b,.int n]/\BkAt H b bk/\cV bk mss/\GoodBk bk/\1<=bk.length/\bk.length<=8/\0<=n/\∀(js:List Nat) (H':Hp),Same H H'->(∀j∈js,j<mss.length)->1<=js.length->js.length<=3->Q (.str (bI (dO mss js))) H'
def sc_l_text:FnScope ["_law_book_here", "_law_number", "_law_some", "_law_k"] ["_law_book_here", "_law_number"] (aI tL):=by walk_at "sc"
def bZI(F:Fun K "_law_text" "_law_text" tL f fd)(G:Gs K mg w Zu Zz Zv Zx Z0 Zw Zy):FnOk P w K mg base CX0 1 f fd ["_law_book_here", "_law_number"] vO:=by
 refine F.ok sc_l_text (λvs H Q E h=>?_) (λcdv A outer s H vs Q E hr h=>?_)
 ·obtain⟨b,n,bk,mss,rfl,_⟩:=h;rfl
 obtain⟨b,n,bk,mss,rfl,hbk,hms,hgb,h1,h8,hn,q⟩:=h;refine⟨_,(@aD _ _ _ _ _ (aM 2 sc_l_text.nd (cC aB)) (@aD _ _ _ _ _ (cJ Bm rfl (kX rfl G.b_range (aA (aQ bM aJ (aQ dF (mv 1) aJ)) aB)) (aW (i:=3) sc_l_text.nd rfl (Or.inl rfl)) (@aD _ _ _ _ _ (aM 1 sc_l_text.nd (aQ dF (aQ kC (aQ bM (aQ bM (mv 1) (mv 3)) aJ) aJ) aJ)) (@aH _ _ _ (dW (cB Ck Dw Dx aQ4 (mv 2) (aA (bG bU (bG bU (mv 0) (aQ dF (aQ gO (mv 1) aJ) (aS bZ rfl G.b_len bK (aA (mv 0) aB))) (λ_ _=>rfl)) aJ (λ_ _=>rfl)) aB)))))) (@aH _ _ _ (aR (cB Cr PySem.F.slot_str_join PySem.F.type_str_join aJC eO (aA (mv 2) aB)))))),?_⟩;obtain⟨qs,b1,b2,b3⟩:=id hbk;have rq:=aO b1
 have hql:(qs.map V.ref).length=bk.length:=by rw[Ab,b2]
 walk_at "go";refine⟨by decide,λp hp=>?_⟩
 have s1:=aF hp (.lst [])
 have e1:(upd H p (.lst [])) p=some (.lst []):=aE
 generalize upd H p (.lst [])=H1 at s1 e1 ⊢;have y0:=Cv n (show (3:Int)≠0 by decide)
 have y1:=Dg n (show (0:Int)<3 by decide)
 obtain⟨k0,ek0,hk0⟩:∃k0:Nat,n%3=(k0:Int)/\k0<3:=⟨(n%3).toNat,by omega,by omega⟩
 walk_at "go";rw[ek0];refine⟨⟨by omega,by omega⟩,?_⟩
 rw[show ((1:Int)+(k0:Int)).toNat=k0+1 by omega]
 refine rL (λi σ H'=>∃(x:Int) (js:List Nat) (v3:Option V),σ=[some (.ref b),some (.int x),some (.ref p),v3]/\0<=x/\Same H H'/\(∀j∈js,j<mss.length)/\js.length=i/\H' p=some (.lst ((js.map λj=>bI (mss.getD j [])).map V.str))) ⟨n,[],_,rfl,hn,s1,(λj hj=>nomatch hj),rfl,e1⟩ ?_ ?_
 ·rintro i σ H2 hi ⟨x,js,v3,rfl,hx,s2,hj,hjl,e2⟩;have m2:=cI e2
  have rq2:=aK s2 rq
  walk_at "go";rw[hql];have x0:=Cv ((x+(0+(i:Int))+1)*69621) (show (2147483647:Int)≠0 by decide)
  generalize (x+(0+(i:Int))+1)*69621%2147483647=x' at x0 ⊢;have w0:=Cv (x' / 7) (show ((bk.length:Nat):Int)≠0 by omega)
  have w1:=Dg (x' / 7) (show (0:Int)<((bk.length:Nat):Int) by omega)
  obtain⟨j,ej,hjb⟩:∃j:Nat,x' / 7%((bk.length:Nat):Int)=(j:Int)/\j<bk.length:=⟨(x' / 7%((bk.length:Nat):Int)).toNat,by omega,by omega⟩
  rw[ej];have ep:qs[j]?=some (qs[j]'(by omega)):=Aa _
  have tp:=s2 _ _ (b3 j _ _ ep (Aa hjb))
  have hjm:j<mss.length:=by rw[hms.1];exact hjb
  have em:=(hms.2 j _ _ (Aa hjb) (Aa hjm)).1
  have em':bk[j].2=bI (mss.getD j []):=by rw[em,Ac,Aa hjm];rfl
  rw[em']at tp;refine cO rq2 (v:=.ref (qs[j]'(by omega))) (bD (by rw[Ae,ep];rfl)) ?_
  walk_at "go";refine dJ tp (v:=.str (bI (mss.getD j []))) (bD (j:=1) rfl) ?_;walk_at "go";refine⟨_,js++[j],_,rfl,x0,bJ hp s2,λj' hj'=>?_,by rw[Ag,hjl];rfl,by rw[aE,Ao,Ao];rfl⟩
  rcases By.mp hj' with z|z
  ·exact hj j' z
  ·rw[Am.mp z];exact hjm
 ·rintro σ H2 ⟨x,js,v3,rfl,hx,s2,hj,hjl,e2⟩;have r2:=aO e2
  have hne:js≠[]:=λz=>by rw[z]at hjl;cases hjl
  walk_at "go";refine aZK r2 ?_ ?_
  ·have h1:((js.map λj=>bI (mss.getD j [])).map (·.length)).sum<=60 * (js.map λj=>bI (mss.getD j [])).length:=bQD λz hz=>by
    obtain⟨j,hj',rfl⟩:=Ba.mp hz;obtain⟨_,l5,lT⟩:=bQ1 hms j (hj j hj');exact cXJ l5 lT
   rw[Ab]at h1 ⊢;rw[show (Str.ofString " ").length=1 from rfl];omega
  ·rw[show Txt.join (Str.ofString " ") (js.map λj=>bI (mss.getD j []))=bI (dO mss js) from oI hne λj hj'=>(bQ1 hms j (hj j hj')).1];exact q js H2 s2 hj (by omega) (by omega)
def pI:Sp:=λvs H Q _=>∃(p:Addr) (cs:List Nat) (n:Int),vs=[.ref p,.int n]/\rdL H p=some ((cs.map one).map V.str)/\cs.length<=7/\∀(r:Addr) (ss:List (Option Nat)) (H':Hp),H r=none->Same H H'->H' r=some (.lst (ss.map sV))->ss.length=cs.length->(∀(k:Nat) (c:Nat),ss[k]?=some (some c)->cs[k]?=some c)->Q (.ref r) H'
def aJT(cs:List Nat):(cs.map some).map sV=(cs.map one).map V.str:=by rw[Bt,Bt];rfl
def sc_l_hidden:FnScope ["_law_hoist", "_law_number", "_law_sight", "_law_k"] ["_law_hoist", "_law_number"] (aI mY):=by walk_at "sc"
def aXH(F:Fun K "_law_hidden" "_law_hidden" mY f fd)(G:Gs K mg w Zu Zz Zv Zx Z0 Zw Zy):FnOk P w K mg base CX0 1 f fd ["_law_hoist", "_law_number"] pI:=by
 refine F.ok sc_l_hidden (λvs H Q E h=>?_) (λcdv A outer s H vs Q E hr h=>?_)
 ·obtain⟨p,cs,n,rfl,_⟩:=h;rfl
 obtain⟨p,cs,n,rfl,hp,h7,q⟩:=h;refine⟨_,(@aD _ _ _ _ _ (aM 2 sc_l_hidden.nd (bR iX rfl G.b_list eM (aA (mv 0) aB))) (@aD _ _ _ _ _ (cJ Bm rfl (kX rfl G.b_range (aA (aS bZ rfl G.b_len bK (aA (mv 0) aB)) aB)) (aW (i:=3) sc_l_hidden.nd rfl (Or.inl rfl)) (@aH _ _ _ (bY (aX nZ (aQ dF (aQ gO (mv 1) (aQ bM (mv 3) aJ)) aJ) aJ (bB _)) (@aH _ _ _ (aJB cP (cZN (mv 2) (mv 3) zY))) bF))) (@aH _ _ _ (aR (mv 2))))),?_⟩;have hpl:((cs.map one).map V.str).length=cs.length:=by rw[Ab,Ab]
 walk_at "go";intro r hr;have k1:=aF hr (.lst ((cs.map one).map V.str))
 have e1:(upd H r (.lst ((cs.map one).map V.str))) r=some (.lst ((cs.map some).map sV)):=by rw[aE,aJT]
 generalize upd H r (.lst ((cs.map one).map V.str))=H1 at k1 e1 ⊢;have hp1:=aK k1 hp
 walk_at "go";rw[hpl];refine⟨⟨by omega,by omega⟩,?_⟩
 rw[show ((cs.length:Nat):Int).toNat=cs.length from Ek _];refine rL (λi σ H'=>∃(ss:List (Option Nat)) (v3:Option V),σ=[some (.ref p),some (.int n),some (.ref r),v3]/\Same H H'/\H' r=some (.lst (ss.map sV))/\ss.length=cs.length/\∀(k:Nat) (c:Nat),ss[k]?=some (some c)->cs[k]?=some c) ⟨cs.map some,_,rfl,k1,e1,Ab ..,λk c h=>by rw[Ae]at h;obtain⟨d,hd,e⟩:=Bk.mp h;cases e;exact hd⟩ ?_ ?_
 ·rintro i σ H2 hi ⟨ss,v3,rfl,s2,e2,hsl,hss⟩;have m2:=cI e2
  walk_at "go";refine eJ (λh1=>?_) (λh1=>?_)
  ·walk_at "go";refine dZ1 (o:=(ss.map sV)[i]'(by rw[Ab];omega)) m2 (cZW (by omega) (by rw[Ab];omega)) ?_
   rw[show ((0:Int)+(i:Int)).toNat=i by omega,show (ss.map sV).set i .non=(ss.set i none).map sV by rw[List.map_set];rfl]
   walk_at "go";refine⟨ss.set i none,_,rfl,bJ hr s2,aE,by rw[Du];exact hsl,λk c h=>?_⟩
   rw[List.getElem?_set]at h;split at h
   ·split at h
    ·cases h
    ·cases h
   ·exact hss k c h
  ·walk_at "go";exact⟨ss,_,rfl,s2,e2,hsl,hss⟩
 ·rintro σ H2 ⟨ss,v3,rfl,s2,e2,hsl,hss⟩;walk_at "go";exact q r ss H2 hr s2 e2 hsl hss
def eXK(h:BkAt H b bk)(hc:kE bk cws):BkW H b cws:=by
 obtain⟨ps,h1,h2,h3⟩:=h;refine⟨ps,bk.map (·.2),h1,by rw[h2,hc.1],by rw[Ab,hc.1],λj p cs hp hcs=>?_⟩
 have hj:j<bk.length:=by rw[<-h2];exact(Ad.mp hp).1
 have:=h3 j p _ hp (Aa hj)
 rw[(hc.2 j _ cs (Aa hj) hcs).1]at this;rw[this,Ac,Ae,Aa hj];rfl
def qX(hc:kE bk cws):bQ0 cws:=λcs h=>by
 obtain⟨j,hj⟩:=Fl.mp h;have hl:=(Ad.mp hj).1
 exact(hc.2 j _ cs (Aa (by rw[<-hc.1];exact hl)) hj).2
def dZI(hc:kE bk cws)(hk:k<bk.length):∃cw,cws[k]?=some cw/\fwS cws k=cw++[ckL cw]/\(∃p,bk[k]?=some (aP cw,p))/\1<=cw.length/\cw.length<=6/\(∀d∈cw,aV d)/\(fwS cws k).length<=7/\(∀d∈fwS cws k,aV d)/\bXQ (fwS cws k)=true:=by
 have ec:cws[k]?=some (cws[k]'(by rw[hc.1];exact hk)):=Aa _
 obtain⟨hw,h1,h6,hL⟩:=hc.2 k _ _ (Aa hk) ec;have ef:fwS cws k=cws[k]'(by rw[hc.1];exact hk)++[ckL (cws[k]'(by rw[hc.1];exact hk))]:=by unfold fwS;rw[Ac,ec];rfl
 obtain⟨o1,o2⟩:=cX3 h6 hL;refine⟨_,ec,ef,⟨bk[k].2,by rw[Aa hk,<-hw]⟩,h1,h6,hL,by rw[ef,Ag];show _+1<=7;omega,?_,?_⟩
 ·rw[ef];intro d hd;rcases By.mp hd with z|z
  ·exact hL d z
  ·rw[Am.mp z];exact o1
 ·rw[ef];unfold bXQ;rw[o2,Bool.and_true,Ci,Ag];show 1<_+1
  omega
def in_rd:k∈dQB cws ss ↔ k<cws.length/\rQ ss (fwS cws k)=true:=by
 unfold dQB;rw[Dt,Bw];rfl
def eXC(h:k∈L):inV (.int (k:Int)) (L.map nV)=true:=by
 unfold inV;rw[List.any_eq_true];exact⟨nV k,Ba.mpr ⟨k,h,rfl⟩,by show eqV (V.int (k:Int)) (V.int (k:Int))=true;exact cXF rfl⟩
def dXD(L:List Nat):(L.map nV).all cM=true:=by
 rw[Hi];exact Bo.mpr λ_ _=>rfl
def cQT(h:Hg cw cs)(hl:ss.length=cs.length)(hs:∀(k:Nat) (c:Nat),ss[k]?=some (some c)->cs[k]?=some c):rQ ss cw=true:=by
 refine bJY (hl.trans h.1) λk hk=>?_;rw[Ac,Aa hk];show aJ2 cw k ss[k]=true
 cases e:ss[k] with
 |none=>rfl
 |some c=>exact Ap (h.2 k c (hs k c (by rw[Aa hk,e])))
def vE:Sp:=λvs H Q _=>∃(b p:Addr) (k:Nat) (n:Int) (bk:List (Str×Str)) (cws:List (List Nat)) (cs:List Nat),vs=[.ref b,.ref p,.int (k:Int),.int n]/\BkAt H b bk/\kE bk cws/\bk.length<=8/\k<bk.length/\rdL H p=some ((cs.map one).map V.str)/\Hg (fwS cws k) cs/\cR (cs.map one)=true/\∀H',Same H H'->Q (.bl true) H'
def sc_l_seen:FnScope ["_law_book_here", "_law_hoist", "_law_number", "_law_draw", "_law_word_here", "_law_sight", "_law_found", "_law_one"] ["_law_book_here", "_law_hoist", "_law_number", "_law_draw"] (aI rA):=by walk_at "sc"
def bZA(F:Fun K "_law_seen" "_law_seen" rA f fd)(G:Gs K mg w Zu Zz Zv Zx Z0 Zw Zy)(c_check_of:Cal P w K mg base 4 "check_of" ["word"] kD)(c_l_hidden:Cal P w K mg base 1 "_law_hidden" ["_law_hoist", "_law_number"] pI)(c_read_in:Cal P w K mg base 6 "read_in" ["book", "sight"] sC)(c_is_checked:Cal P w K mg base 3 "is_checked" ["word"] lQ)(c_read_of:aXZ P w K mg base 4 "read_of" ["flags"] (mP Zx))(c_fits_sight:Cal P w K mg base 2 "fits_sight" ["sight", "word"] hJ):FnOk P w K mg base CX0 7 f fd ["_law_book_here", "_law_hoist", "_law_number", "_law_draw"] vE:=by
 refine F.ok sc_l_seen (λvs H Q E h=>?_) (λcdv A outer s H vs Q E hr h=>?_)
 ·obtain⟨b,p,k,n,bk,cws,cs,rfl,_⟩:=h;rfl
 obtain⟨b,p,k,n,bk,cws,cs,rfl,hbk,hcw,h8,hk,hp,hg,hb,q⟩:=h;refine⟨_,(@aD _ _ _ _ _ (aM 4 sc_l_seen.nd (aQ bM (bG bU (bG bU (mv 0) (mv 2) (λ_ _=>rfl)) aJ (λ_ _=>rfl)) (aU c_check_of hr (by decide) rfl (aA (bG bU (bG bU (mv 0) (mv 2) (λ_ _=>rfl)) aJ (λ_ _=>rfl)) aB)))) (@aD _ _ _ _ _ (bY (PW.pt (pM (aX aZW (aU c_is_checked hr (by decide) rfl (aA (mv 4) aB)) eQ (bB _)) (jT (aX dQN (kY c_read_of vB hr (by decide) rfl (aA (mv 1) aB)) (mv 4) (bB _))))) (@aH _ _ _ (aR eQ)) bF) (@aD _ _ _ _ _ (cJ Bm rfl (bO (cC (aA (bR iX rfl G.b_list eM (aA (mv 1) aB)) (aA (aU c_l_hidden hr (by decide) rfl (aA (mv 1) (aA (mv 3) aB))) aB)))) (aW (i:=5) sc_l_seen.nd rfl (Or.inl rfl)) (@aD _ _ _ _ _ (aM 6 sc_l_seen.nd (aU c_read_in hr (by decide) rfl (aA (mv 0) (aA (mv 5) aB)))) (@aD _ _ _ _ _ (bY (PW.pt (pM (aX aZW (aU c_fits_sight hr (by decide) rfl (aA (mv 5) (aA (mv 4) aB))) eQ (bB _)) (jT (aX rP (mv 2) (mv 6) (by rfl))))) (@aH _ _ _ (aR eQ)) bF) (@aH _ _ _ (cJ Bm rfl (bO (mv 6)) (aW (i:=7) sc_l_seen.nd rfl (Or.inl rfl)) (@aH _ _ _ (bY (aX aZW (aU c_fits_sight hr (by decide) rfl (aA (mv 5) (aA (aQ bM (bG bU (bG bU (mv 0) (mv 7) (λ_ _=>rfl)) aJ (λ_ _=>rfl)) (aU c_check_of hr (by decide) rfl (aA (bG bU (bG bU (mv 0) (mv 7) (λ_ _=>rfl)) aJ (λ_ _=>rfl)) aB))) aB))) eQ (bB _)) (@aH _ _ _ (aR eQ)) bF))))))) (@aH _ _ _ (aR eQ))))),?_⟩
 obtain⟨cw,ec,ef,⟨mn,eb⟩,c1,c6,cL,f7,fL,fck⟩:=dZI hcw hk;obtain⟨qs,b1,b2,b3⟩:=id hbk;have rq:=aO b1
 have ep:qs[k]?=some (qs[k]'(by omega)):=Aa _
 have tp:=b3 k _ _ ep eb
 have hcl:=hg.1
 walk_at "gs"
 with_reducible refine jJ ?_
 walk_at "gs";refine cO rq (v:=.ref (qs[k]'(by omega))) (bD (by rw[Ae,ep];rfl)) ?_
 walk_at "gs";refine dJ tp (v:=.str (aP cw)) (bD (j:=0) rfl) ?_;walk_at "gs";refine cO rq (v:=.ref (qs[k]'(by omega))) (bD (by rw[Ae,ep];rfl)) ?_
 walk_at "gs";refine dJ tp (v:=.str (aP cw)) (bD (j:=0) rfl) ?_;walk_at "gs";refine⟨cw,rfl,c1,c6,cL,λd H1 s1 hd hdv=>?_⟩;have ed:=aQF c6 cL hd hdv
 have hwl:(aP cw).length=cw.length:=bW cw
 have h1l:(one d).length=1:=rfl
 walk_at "gs";rw[show aP cw++one d=aP (fwS cws k) by rw[ef,ed,eW]]
 with_reducible refine jJ ?_
 walk_at "gs";refine⟨fwS cws k,rfl,f7,fL,λH2 s2=>?_⟩;rw[fck];have s02:=s1.trans s2
 walk_at "gs";refine⟨p,cs.map one,rfl,aK s02 hp,by rw[Ab];omega,(λz hz=>by obtain⟨c,_,rfl⟩:=Ba.mp hz;show 1<=1000;decide),λ_ H3 s3=>?_,λz=>by rw[hb]at z;cases z⟩
 have erd:jG (cs.map one)=aP (fwS cws k):=by
  unfold jG;rw[Bt,<-rW fL hg];congr 2
  exact(Dj λc _=>rfl).trans (List.map_id cs)
 rw[erd];have s03:=s02.trans s3
 walk_at "gs";rw[show (!decide (aP (fwS cws k)=aP (fwS cws k)))=false by rw[Ap rfl];rfl]
 walk_at "gs";have hp3:=aK s03 hp
 with_reducible refine jJ ?_
 walk_at "gs";intro r1 hr1;have k4:=aF hr1 (.lst ((cs.map one).map V.str))
 have e4:(upd H3 r1 (.lst ((cs.map one).map V.str))) r1=some (.lst ((cs.map some).map sV)):=by rw[aE,aJT]
 generalize upd H3 r1 (.lst ((cs.map one).map V.str))=H4 at k4 e4 ⊢;have s04:=s03.trans k4
 walk_at "gs";refine⟨p,cs,n,rfl,aK s04 hp,by omega,λr2 ss H5 hr2 s5 e5 hsl hss=>?_⟩
 have s05:=s04.trans s5
 walk_at "gs";refine⟨by show 2<=sizeLine;decide,λrs hrs=>?_⟩
 have k6:=aF hrs (.lst [V.ref r1,V.ref r2])
 have e6:rdL (upd H5 rs (.lst [V.ref r1,V.ref r2])) rs=some [V.ref r1,V.ref r2]:=cA
 have e46:=(s5.trans k6) _ _ e4
 have e56:=k6 _ _ e5
 generalize upd H5 rs (.lst [V.ref r1,V.ref r2])=H6 at k6 e6 e46 e56 ⊢;have s06:=s05.trans k6
 have fits:∀(r:Addr),V.ref r∈[V.ref r1,V.ref r2]->∃ss:List (Option Nat),H6 r=some (.lst (ss.map sV))/\ss.length<=7/\rQ ss (fwS cws k)=true:=λr hr=>by
  rcases Be.mp hr with z|z
  ·cases z;exact⟨cs.map some,e46,by rw[Ab];omega,cQT hg (Ab ..) λj c h=>by rw[Ae]at h;obtain⟨d,hd,e⟩:=Bk.mp h;cases e;exact hd⟩
  ·cases Am.mp z;exact⟨ss,e56,by omega,cQT hg hsl hss⟩
 walk_at "gs";refine fQ (xs:=[V.ref r1,V.ref r2]) (λi σ H'=>∃v5 v6 v7,σ=[some (.ref b),some (.ref p),some (.int (k:Int)),some (.int n),some (.str (aP (fwS cws k))),v5,v6,v7]/\Same H6 H') ⟨_,_,_,rfl,Same.refl _⟩ (λi σ H' _ ⟨_,_,_,_,e⟩=>aK e e6) ?_ ?_
 ·rintro i x σ H7 hx ⟨v5,v6,v7,rfl,s7⟩;obtain ⟨r,rfl⟩:∃ r,x=.ref r:=by
   match i,hx with
   |0,hx=>exact⟨_,(Bg hx).symm⟩
   |1,hx=>exact⟨_,(Bg hx).symm⟩
  obtain⟨tt,er,tl,hfit⟩:=fits r (Al hx);have er7:=s7 _ _ er
  have s07:=s06.trans s7
  have hcb:=hcw.1
  walk_at "gs"
  with_reducible refine jJ ?_
  walk_at "gs";refine⟨b,r,cws,tt,rfl,eXK (hbk.keep s07) hcw,qX hcw,by omega,aO er7,by omega,λrf H8 hrf s8 e8=>?_⟩
  have er8:=s8 _ _ er7
  have re8:=aO e8
  walk_at "gs"
  with_reducible refine jJ ?_
  walk_at "gs";refine⟨r,tt,fwS cws k,rfl,aO er8,by omega,f7,λH9 s9=>?_⟩
  rw[hfit];have hin:=in_rd.mpr ⟨show k<cws.length by omega,hfit⟩
  walk_at "gs";refine wM (neg:=true) (aK s9 re8) rfl (dXD _) ?_;rw[if_pos rfl,eXC hin];have re9:=aK s9 re8
  walk_at "gs";have s69:=s7.trans (s8.trans s9)
  have s79:=s8.trans s9
  refine fQ (xs:=(dQB cws tt).map nV) (λi σ H'=>∃v7,σ=[some (.ref b),some (.ref p),some (.int (k:Int)),some (.int n),some (.str (aP (fwS cws k))),some (.ref r),some (.ref rf),v7]/\Same H9 H') ⟨_,rfl,Same.refl _⟩ (λi σ H' _ ⟨_,_,e⟩=>aK e re9) ?_ ?_
  ·rintro i' x σ H10 hx' ⟨v7,rfl,s10⟩;rw[Ae]at hx';obtain⟨j,hj,rfl⟩:=Bk.mp hx';obtain⟨hjl,hjf⟩:=in_rd.mp (Al hj);obtain⟨cj,ec',ef',⟨mn',eb'⟩,c1',c6',cL',f7',fL',fck'⟩:=dZI hcw (show j<bk.length by omega)
   have s010:=s07.trans (s79.trans s10)
   have ep':qs[j]?=some (qs[j]'(by omega)):=Aa _
   have tp':=s010 _ _ (b3 j _ _ ep' eb')
   have rq':=aK s010 rq
   have er10:=(s79.trans s10) _ _ er7
   change jL 7 (V.int (j:Int)) _ _ _
   walk_at "gs";refine cO rq' (v:=.ref (qs[j]'(by omega))) (bD (by rw[Ae,ep'];rfl)) ?_
   walk_at "gs";refine dJ tp' (v:=.str (aP cj)) (bD (j:=0) rfl) ?_;walk_at "gs";refine cO rq' (v:=.ref (qs[j]'(by omega))) (bD (by rw[Ae,ep'];rfl)) ?_
   walk_at "gs";refine dJ tp' (v:=.str (aP cj)) (bD (j:=0) rfl) ?_;walk_at "gs";refine⟨cj,rfl,c1',c6',cL',λd' H11 s11 hd' hdv'=>?_⟩;have ed':=aQF c6' cL' hd' hdv'
   have hwl':(aP cj).length=cj.length:=bW cj
   have h1l':(one d').length=1:=rfl
   walk_at "gs";rw[show aP cj++one d'=aP (fwS cws j) by rw[ef',ed',eW]]
   refine⟨r,tt,fwS cws j,rfl,aO (s11 _ _ er10),by omega,f7',λH12 s12=>?_⟩
   rw[hjf];walk_at "gs";exact⟨_,rfl,s10.trans (s11.trans s12)⟩
  ·rintro σ H10 ⟨v7,rfl,s10⟩;exact⟨_,_,_,rfl,s69.trans s10⟩
 ·rintro σ H7 ⟨v5,v6,v7,rfl,s7⟩;walk_at "gs";exact q H7 (s06.trans s7)
def wH(C Pt:Addr):Sp:=λvs H Q _=>∃(x dx b s0 st hg dd:Addr) (m:Nat) (hs:List (Option (List Nat))) (f:Nat->Option Int) (dps:List Addr) (bk:List (Str×Str)) (cws:List (List Nat)) (mss:List (List (List Nat))) (T:List (List Nat)) (n0:Nat),vs=[.ref x,.str (bI T)]/\H x=some (.ins C dx (twF b m s0 st hg dd))/\TwSt H hg st hs f/\hs.length=m/\m<=6/\SayIn H b bk cws mss T n0/\dL Pt H/\H dd=some (.lst (dps.map V.ref))/\dps.length<=1000/\hg≠dd/\
 (∀H',SameP Pt H H'->dL Pt H'->Q (.bl false) H')/\
 ∀(hs':Q4) (f':Nat->Option Int) (st' hg' dp:Addr) (ks:List Nat) (H':Hp),SameE [Pt,x,dd] H H'->dL Pt H'->H' x=some (.ins C dx (twF b m s0 st' hg' dd))->H' dd=some (.lst ((dps++[dp]).map V.ref))->hs'.length=m->bQU cws ks hs'->dO mss ks=T->(∀k∈ks,k<mss.length)->H hg'=none->TwSt H' hg' st' hs' f'->Q (.bl true) H'
def pC(l:dL Pt H)(h:H a=some o)(ht:∀ps,o≠.tbl ps):a≠Pt:=λz=>by
 obtain⟨ps,e⟩:=l.tb;rw[z,e]at h;cases h;exact ht _ rfl
def TwSt.keepE{B R:Addr}{f:Nat->Option Int}(tw:TwSt H B R hs f)(s:SameE l H H')(nB:B∉l)(nR:∀kvs,H R=some (.dK kvs)->R∉l)(nP:∀p c cs,H p=some (.lst (V.str (one c)::cs))->p∉l):TwSt H' B R hs f:=by
 obtain⟨⟨us,u1,u2⟩,ok,⟨kvs,v1,v2⟩,ps⟩:=tw;refine⟨⟨us,s _ _ nB u1,u2.len,λj v h hv hh=>?_⟩,ok,⟨kvs,s _ _ (nR _ v1) v1,v2⟩,ps⟩;have r:=u2.val j v h hv hh
 cases h with
 |none=>exact r
 |some cs=>
  obtain⟨p,rfl,hp⟩:=r;have h1:=(iI (ok cs (Al hh))).1
  cases cs with
  |nil=>exact absurd h1 (by decide)
  |cons c cs=>exact⟨p,rfl,s _ _ (nP p c _ hp) hp⟩
def no2{x y:Addr}(h1:p≠x)(h2:p≠y):p∉[x,y]:=λe=>by
 simp only[List.mem_cons,List.not_mem_nil,or_false]at e;rcases e with e|e
 ·exact h1 e
 ·exact h2 e
def bJ4{C dx:Addr}{fs:List (Str×V)}(h:dL Pt H)(e:H p=some (.ins C dx fs)):dL Pt (upd H p o):=by
 have ne:∀b u,H b=some u->(∀c d f,u≠.ins c d f)->b≠p:=λb u h n y=>by rw[y,e]at h;cases h;exact n _ _ _ rfl
 rcases h with h|⟨c,h1,h2⟩
 ·exact .inl (by rw[aG (ne _ _ h λ_ _ _=>nofun)];exact h)
 ·exact .inr ⟨c,by rw[aG (ne _ _ h1 λ_ _ _=>nofun)];exact h1,by rw[aG (ne _ _ h2 λ_ _ _=>nofun)];exact h2⟩
def bXG:FnScope ["_law_tower", "_law_text_here"] ["_law_tower", "_law_text_here"] (aI rE):=by walk_at "sc"
def bZP(F:Fun K "_law_done" "_law_done" rE f fd)(G:Gs K mg w Zu Zz Zv Zx Z0 Zw Zy)(c_Tower_do:bXC (CXr P w) P w K mg base 8 Z0 "do" ["self", "deed"] (pX Z0 Zu Zy Pt)):FnOk P w K mg base CX0 10 f fd ["_law_tower", "_law_text_here"] (wH Z0 Pt):=by
 refine F.ok bXG (λvs H Q E h=>?_) (λcdv A outer s H vs Q E hr h=>?_)
 ·obtain⟨x,dx,b,s0,st,hg,dd,m,hs,f,dps,bk,cws,mss,T,n0,rfl,_⟩:=h;rfl
 obtain⟨x,dx,b,s0,st,hg,dd,m,hs,f,dps,bk,cws,mss,T,n0,rfl,ex,tw,hsl,h6,si,lam,edd,hdl,ngd,qf,qt⟩:=h;refine⟨_,(@aD _ _ _ _ _ (dQU rfl rfl rfl rfl G.c_TowerError (λpins R=>(@aH _ _ _ (dW (dQQ c_Tower_do G.cl_Tower (aZ6 rfl) hr (by decide) (mv 0) (aA (lY (@eP _ _ _ _ _ _ (aA (mv 1) aB))) aB))))) (λpins ea=>(@aH _ _ _ (aR eQ)))) (@aH _ _ _ (aR eQ))),?_⟩
 walk_at "gs"
 with_reducible refine jJ ?_
 walk_at "gs";refine⟨x,dx,_,rfl,ex,bJT,?_⟩;walk_at "gs";refine⟨by show 2<=sizeLine;decide,λdp hdp=>?_⟩
 have k1:=aF hdp (.tup [.str (Str.ofString "say"),.str (bI T)])
 have e1:(upd H dp (.tup [.str (Str.ofString "say"),.str (bI T)])) dp=some (.tup [.str (Str.ofString "say"),.str (bI T)]):=aE
 generalize upd H dp (.tup [.str (Str.ofString "say"),.str (bI T)])=H1 at k1 e1 ⊢;walk_at "gs";refine⟨x,b,s0,st,hg,dd,dp,dx,m,Str.ofString "say",[.str (bI T)],dps.map V.ref,rfl,k1 _ _ ex,e1,rfl,k1 _ _ edd,by rw[Ab];exact hdl,λp0 hp0=>?_⟩
 have k2:=aF hp0 (.tup [])
 have s02:=k1.trans k2
 obtain⟨i1,i2,i3,i4,i5,i6,i7,i8⟩:=si;refine⟨b,hg,st,dp,hs,f,bk,cws,mss,T,n0,rfl,tw.keepS s02,by omega,⟨i1.keep s02,i2,i3,i4,i5,i6,i7,i8⟩,lam.keep s02,k2 _ _ e1,λt B' R' hs' f' ks TB H3 s3 l3 ht et hB hl hsd htab hpath tw3=>?_,λdy H3 s3 l3=>⟨G.m_Lack_TowerError,?_⟩,λH3 s3 l3=>⟨G.m_NoHalyard_TowerError,?_⟩⟩
 ·have l2:=lam.keep s02
  have ex3:=atP s3 l2 (s02 _ _ ex) (λ_=>nofun)
  have ed3:=atP s3 l2 (s02 _ _ edd) (λ_=>nofun)
  have ndx:dd≠x:=λz=>by rw[z,ex3]at ed3;cases ed3
  have nxP:x≠Pt:=pC l3 ex3 λ_=>nofun
  have ndP:dd≠Pt:=pC l3 ed3 λ_=>nofun
  refine⟨t,B',R',rfl,et,ex3,ed3,(λys z=>by rw[ex3]at z;cases z),?_⟩
  rw[show dps.map V.ref++[V.ref dp]=(dps++[dp]).map V.ref by rw[Ao];rfl]
  have sX:SameE [x,dd] H3 (upd (upd H3 x (.ins Z0 dx (twF b m s0 R' B' dd))) dd (.lst ((dps++[dp]).map V.ref))):=λy o ny e=>by
   rw[aG (λz=>ny (by rw[z];exact Aj _ (Ak ..))),aG (λz=>ny (by rw[z];exact Ak ..))]
   exact e
  have sE:SameE [Pt,x,dd] H (upd (upd H3 x (.ins Z0 dx (twF b m s0 R' B' dd))) dd (.lst ((dps++[dp]).map V.ref))):=λy o ny e=>sX y o (λz=>ny (Aj _ z)) (s3 y o (λz=>ny (by rw[z];exact Ak ..)) (s02 _ _ e))
  have lF:dL Pt (upd (upd H3 x (.ins Z0 dx (twF b m s0 R' B' dd))) dd (.lst ((dps++[dp]).map V.ref))):=aJX (bJ4 l3 ex3) (by rw[aG ndx];exact ed3)
  have hBH:=none_of s02 hB
  obtain⟨us,u1,u2⟩:=id tw3.hal;have twF':=tw3.keepE sX (no2 (λz=>by rw[z,ex3]at u1;cases u1) (λz=>by rw[z,edd]at hBH;cases hBH)) (λkvs e=>no2 (λz=>by rw[z,ex3]at e;cases e) (λz=>by rw[z,ed3]at e;cases e)) (λp c cs e=>no2 (λz=>by rw[z,ex3]at e;cases e) (λz=>by
   rw[z,ed3]at e;have e':dps.map V.ref=V.str (one c)::cs:=by injection Bg e
   cases dps with
   |nil=>cases e'
   |cons d ds=>injection e' with e1 _;cases e1))
  walk_at "gs";exact qt hs' f' R' B' dp ks _ sE lF (by rw[aG (Ne.symm ndx)];exact aE) aE (by rw[hl,hsl]) hsd (kU hpath).1.symm (kU hpath).2 hBH twF'
 ·walk_at "gs";exact qf H3 ((Same.p s02).trans s3) l3
 ·walk_at "gs";exact qf H3 ((Same.p s02).trans s3) l3
def cXZ(h:bQU cws ks hs):∃(gs:Q6) (m2:Nat),hs=gs.map some++List.replicate m2 none/\Hgs (ks.map (fwS cws)) gs/\gs.length=ks.length:=by
 obtain⟨gs,h1,h2,h3⟩:=h;exact⟨gs,_,h1,h2,by rw[h2.lens,Ab]⟩
def dJ5(nd:cws.Nodup)(hj:j<cws.length)(hk:k<cws.length)(e:fwS cws j=fwS cws k):j=k:=by
 unfold fwS at e;rw[Ac,Ac,Aa hj,Aa hk]at e;have e2:cws[j]=cws[k]:=List.append_inj_left' e rfl
 exact(Ep nd).mp e2
def bJ5(nd:cws.Nodup)(hk:k<cws.length){g:List Nat}(e:rdC g=fwS cws k):rdN cws (some g)=.int (k:Int):=by
 have er:jG (g.map one)=aP (fwS cws k):=by
  unfold jG;rw[Bt,<-e];congr 2
  exact(Dj λc _=>rfl).trans (List.map_id g)
 have sp:∀j,j<cws.length->(dU cws)[j]?=some (aP (fwS cws j)):=λj hj=>by
  unfold dU fwS;rw[Ae,Aa hj,Ac,Aa hj];rfl
 have sl:(dU cws).length=cws.length:=by unfold dU;rw[Ab]
 have hf:(dU cws).findIdx? (λy=>y==jG (g.map one))=some k:=by
  rw[er];obtain⟨i1,i2⟩:=Ad.mp (sp k hk);refine List.findIdx?_eq_some_iff_getElem.mpr ⟨i1,by rw[i2];exact Ee _,λj hj=>?_⟩
  obtain⟨j1,j2⟩:=Ad.mp (sp j (by omega))
  rw[j2];have:aP (fwS cws j)≠aP (fwS cws k):=λz=>by have:=dJ5 nd (by omega) hk (sI z);omega
  simp[this]
 show (match (dU cws).findIdx? (λy=>y==jG (g.map one)) with|some j=>V.int (j:Int)|none=>.non)=_
 rw[hf]
def uX(nd:cws.Nodup)(hL:∀c∈cws,c.length<=6/\∀d∈c,aV d):∀ {ks:List Nat} {gs:Q6},Hgs (ks.map (fwS cws)) gs->(∀k∈ks,k<cws.length)->(gs.map some).map (rdN cws)=(ks.map λk=>V.int ((k:Nat):Int))
 |[],_,.nil,_=>rfl
 |k::ks,_,.cons (h:=g) a b,hk=>by
  have hkl:=hk k Ak
  have fL:∀d∈fwS cws k,aV d:=λd hd=>by
   unfold fwS at hd;rw[Ac,Aa hkl]at hd;have:=hL _ (Ce hkl)
   rcases By.mp hd with z|z
   ·exact this.2 d z
   ·rw[Am.mp z];exact(cX3 this.1 this.2).1
  rw[Au,Au,bJ5 nd hkl (rW fL a),uX nd hL b λx hx=>hk x (Aj _ hx),Au]
def sB(F:α->V)(xs:List α):∀m:Nat,(List.range (xs.length+m)).filterMap (λj=>(xs[j]?).map F)=xs.map F
 |0=>cQ F xs
 |m+1=>by
  rw[show xs.length+(m+1)=(xs.length+m)+1 from rfl,Cf,Bf,sB F xs m,Bx (by rw[Fi (by omega)];rfl),Cd,Cb]
def BkAt.keepE(h:BkAt H r bk)(s:SameE l H H')(nr:r∉l)(nt:∀p xs,H p=some (.tup xs)->p∉l):BkAt H' r bk:=by
 obtain⟨ps,h1,h2,h3⟩:=h;exact⟨ps,s _ _ nr h1,h2,λj p b hp hb=>s _ _ (nt p _ (h3 j p b hp hb)) (h3 j p b hp hb)⟩
def no3{x y z:Addr}(h1:p≠x)(h2:p≠y)(h3:p≠z):p∉[x,y,z]:=λe=>by
 simp only[List.mem_cons,List.not_mem_nil,or_false]at e;rcases e with e|e|e
 ·exact h1 e
 ·exact h2 e
 ·exact h3 e
def zM(h:cV bk mss)(hj:∀j∈js,j<mss.length)(h1:1<=js.length):1<=(dO mss js).length:=by
 cases js with
 |nil=>exact absurd h1 (by decide)
 |cons j r=>
  obtain⟨n1,_⟩:=bQ1 h j (hj j Ak);rw[dC,Ag];have:=List.length_pos_iff.mpr n1
  omega
def sc_law:FnScope ["_law_script", "_law_tower", "_law_book_here", "_law_totals", "_law_words", "_law_k", "_law_cell", "_law_number", "_law_text_here", "_law_numbers", "_law_one", "_law_hoist"] ["_law_script"] (aI pW):=by walk_at "sc"
def eQN(F:Fun K "law" "law" pW f fd)(G:Gs K mg w Zu Zz Zv Zx Z0 Zw Zy)(c_l_begun:Cal P w K mg base 4 "_law_begun" ["_law_script"] (rX K Z0))(c_l_mixed:Cal P w K mg base 1 "_law_mixed" ["_law_cell", "_law_k"] jC)(c_l_text:Cal P w K mg base 1 "_law_text" ["_law_book_here", "_law_number"] vO)(c_l_done:Cal P w K mg base 10 "_law_done" ["_law_tower", "_law_text_here"] (wH Z0 Pt))(c_text_said:Cal P w K mg base 1 "text_said" ["book", "words"] iS)(c_Tower_halyards:bXC CX0 P w K mg base 1 Z0 "halyards" ["self"] (gL Z0))(c_Tower_read:bXC CX0 P w K mg base 6 Z0 "read" ["self"] (lL Z0))(c_l_seen:Cal P w K mg base 7 "_law_seen" ["_law_book_here", "_law_hoist", "_law_number", "_law_draw"] vE):FnOk P w K mg base CX0 11 f fd ["_law_script"] (xQ K Pt):=by
 refine F.ok sc_law (λvs H Q E h=>?_) (λcdv A outer s H vs Q E hr h=>?_)
 ·obtain⟨a,ns,rfl,_⟩:=h;rfl
 obtain⟨a,ns,rfl,hS,h63,hP,q⟩:=h;refine⟨_,(@aD _ _ _ _ _ (aJB (aU c_l_begun hr (by decide) rfl (aA (mv 0) aB)) (eXI rfl (hU (aW (i:=1) sc_law.nd rfl (Or.inl rfl)) (hU (aW (i:=2) sc_law.nd rfl (Or.inr rfl)) (hU (aW (i:=3) sc_law.nd rfl (Or.inl rfl)) (hU (aW (i:=4) sc_law.nd rfl (Or.inl rfl)) aJ0)))))) (@aD _ _ _ _ _ (cJ Bm rfl (kZ rfl G.b_enumerate (aA (aQ bM (cC (aA aJ aB)) (iH sl_list (mv 0) (fE aJ) (fE aJ))) aB)) (cY (K:=K) (i:=5) (j:=6) (by rfl) (by rfl) sc_law.nd (by rfl) (by exact(Or.inl rfl)) (by exact Or.inl rfl) (by rfl) (by exact(Or.inl rfl)) (by exact Or.inl rfl)) (@aD _ _ _ _ _ (aM 7 sc_law.nd (aU c_l_mixed hr (by decide) rfl (aA (mv 6) (aA (mv 5) aB)))) (@aD _ _ _ _ _ (aM 8 sc_law.nd (aU c_l_text hr (by decide) rfl (aA (mv 2) (aA (mv 7) aB)))) (@aH _ _ _ (bY (fY (aU c_l_done hr (by decide) rfl (aA (mv 1) (aA (mv 8) aB)))) (@aD _ _ _ _ _ (dX (i:=9) sc_law.nd rfl (Or.inl rfl) rfl (bO (aJU c_Tower_read G.cl_Tower hr (by decide) (mv 1))) (fN (N:=["_law_one"]) (by decide +kernel) (by decide +kernel)) (by decide +kernel) rfl (by decide +kernel) (λ_ _ _ _=>(aW (i:=0) (show List.Nodup (["_law_one"]:List Str) by decide +kernel) rfl (Or.inl rfl))) (λ_ _ _ _=>(fG (aX sL (mv 0) cP (bB _)))) (λ_ _ _ _=>(mv 0))) (@aD _ _ _ _ _ (bY (aX dQN (aU c_text_said hr (by decide) rfl (aA (mv 2) (aA (bV rfl (bO (mv 9)) (eR (N:=["_law_one", "_law_book_here"]) ["_law_script", "_law_tower", "_law_book_here", "_law_totals", "_law_words", "_law_k", "_law_cell", "_law_number", "_law_text_here", "_law_numbers", "_law_one", "_law_hoist"] (aI pW) [none,some 2] rfl rfl rfl (λx h=>bP h) (by decide +kernel)) (by decide +kernel) rfl (by decide +kernel) (λ_ _ _ _=>(aW (i:=0) (show List.Nodup (["_law_one", "_law_book_here"]:List Str) by decide +kernel) rfl (Or.inl rfl))) (λ_ _ _ _=>cK) (λ_ _ _ _=>(bG bU (bG bU (mv 1) (mv 0) (λ_ _=>rfl)) aJ (λ_ _=>rfl)))) aB))) (mv 8) (bB _)) (@aH _ _ _ (aR eQ)) bF) (@aH _ _ _ (cJ Bm rfl (eQT rfl G.b_zip (aA (mv 9) (aA (aJU c_Tower_halyards G.cl_Tower hr (by decide) (mv 1)) aB))) (cY (K:=K) (i:=10) (j:=11) (by rfl) (by rfl) sc_law.nd (by rfl) (by exact(Or.inl rfl)) (by exact Or.inl rfl) (by rfl) (by exact(Or.inl rfl)) (by exact Or.inl rfl)) (@aH _ _ _ (bY (PW.pt (pM (aX bQI (mv 11) cP (bB _)) (jT (xW (fY (aU c_l_seen hr (by decide) rfl (aA (mv 2) (aA (mv 11) (aA (mv 10) (aA (aQ gO (mv 7) aJ) aB)))))))))) (@aH _ _ _ (aR eQ)) bF)))))) bF))))) (@aH _ _ _ (aR eQ)))),?_⟩
 have lam0:dL Pt H:=.inl hP
 walk_at "go";refine⟨a,ns,rfl,hS,h63,λr x dx rb rl rw' b' s0 st0 hg0 dd bk cws f0 m H1 s1 er hbk hcw hnd hb1 hb8 hgb m1 m6 ex hbk' tw0 edd nhd nbd erw nrw nhw=>?_⟩;obtain⟨mss,hms⟩:=cQJ hgb;have rr:=aO er
 have hS1:=s1.seq hS
 walk_at "go";refine⟨by show 1<=sizeLine;decide,λp2 hp2=>?_⟩
 have k2:=aF hp2 (.lst [V.int 0])
 have e2:(upd H1 p2 (.lst [V.int 0])) p2=some (.lst [V.int 0]):=aE
 generalize upd H1 p2 (.lst [V.int 0])=H2 at k2 e2 ⊢;walk_at "go";refine dZU (k2.seq hS1) λp3 hp3=>?_;obtain⟨ms,em,hml⟩:=wR ns 9 24 (by decide) (by decide)
 rw[show (9:Int)+24=33 from rfl]at em;rw[em];have hml40:ms.length<=24:=hml
 have k3:=aF hp3 (.lst (ms.map V.int))
 have m2:=cI (k3 _ _ e2)
 refine mM (xs:=[V.int 0]) (ys:=ms.map V.int) m2 cW (bH (by rw[Ab];show 1+_<=_;omega)) λrc hrc=>?_
 rw[show [V.int 0]++ms.map V.int=((0:Int)::ms).map V.int from rfl];have k4:=k2.trans (k3.trans (aF hrc (.lst (((0:Int)::ms).map V.int))))
 have e4:rdL (upd (upd H2 p3 (.lst (ms.map V.int))) rc (.lst (((0:Int)::ms).map V.int))) rc=some (((0:Int)::ms).map V.int):=cA
 have hcl:((0:Int)::ms).length<=41:=by rw[Aw];omega
 have hrc1:H1 rc=none:=none_of (k2.trans k3) hrc
 generalize (0:Int)::ms=cs at k4 e4 hcl ⊢;generalize upd (upd H2 p3 (.lst (ms.map V.int))) rc (.lst (cs.map V.int))=H4 at k4 e4 ⊢;have lam4:=lam0.keep (s1.trans k4)
 have ex4:=k4 _ _ ex
 have edd4:=k4 _ _ edd
 have nxP:x≠Pt:=pC lam4 ex4 λ_=>nofun
 have ndP:dd≠Pt:=pC lam4 edd4 λ_=>nofun
 have nrcP:rc≠Pt:=λz=>by
  obtain⟨tb,etb⟩:=lam4.tb;unfold rdL at e4;rw[z,etb]at e4;cases e4
 have nin:rc∉[Pt,x,dd]:=no3 nrcP (λz=>by rw[z,ex]at hrc1;cases hrc1) (λz=>by rw[z,edd]at hrc1;cases hrc1)
 have rdE':∀ {l:List Addr} {H H':Hp} {y:Addr} {ys:List V},SameE l H H'->y∉l->rdL H y=some ys->rdL H' y=some ys:=fun {l H H' y ys} s n h=>by
  unfold rdL at h ⊢;cases e:H y with
  |none=>rw[e]at h;cases h
  |some o=>rw[s _ _ n e];rw[e]at h;exact h
 have tw4:TwSt H4 hg0 st0 (List.replicate m none) f0:=tw0.keepS k4
 have hbk4:=hbk.keep k4
 have hbb4:=hbk'.keep k4
 have ntt:∀p xs,H4 p=some (.tup xs)->p∉[Pt,x,dd]:=λp xs e=>no3 (pC lam4 e λ_=>nofun) (λz=>by rw[z,ex4]at e;cases e) (λz=>by rw[z,edd4]at e;cases e)
 have nbk:∀y,BkAt H4 y bk->y∉[Pt,x,dd]:=λy h=>by
  obtain⟨qs,h1,h2,_⟩:=h;refine no3 (pC lam4 h1 λ_=>nofun) (λz=>by rw[z,ex4]at h1;cases h1) (λz=>?_)
  rw[z,edd4]at h1;have e':([]:List V)=qs.map V.ref:=by injection Bg h1
  cases qs with
  |nil=>rw[<-h2]at hb1;exact absurd hb1 (by decide)
  |cons _ _=>cases e'
 have nrb:=nbk rb hbk4
 have nbb:=nbk b' hbb4
 have hcL:∀c∈cws,c.length<=6/\∀d∈c,aV d:=λc hc=>(qX hcw c hc).2
 have hcb:=hcw.1
 have hmb:=hms.1
 walk_at "go";refine qH (xs:=cs.map V.int) (λi σ H'=>∃(hs:Q4) (f:Nat->Option Int) (st hg:Addr) (dps:List Addr) (v5 v6 v7 v8 v9 v10 v11:Option V),σ=[some (.ref a),some (.ref x),some (.ref rb),some (.ref rl),some (.ref rw'),v5,v6,v7,v8,v9,v10,v11]/\SameE [Pt,x,dd] H4 H'/\dL Pt H'/\H' x=some (.ins Z0 dx (twF b' m s0 st hg dd))/\TwSt H' hg st hs f/\hs.length=m/\H' dd=some (.lst (dps.map V.ref))/\dps.length<=i/\hg≠dd)
  ⟨List.replicate m none,f0,st0,hg0,[],_,_,_,_,_,_,_,rfl,λb o _ e=>e,lam4,ex4,tw4,Bp ..,edd4,Ai _,nhd⟩ (λi σ H' _ ⟨_,_,_,_,_,_,_,_,_,_,_,_,_,sE,_⟩=>rdE' sE nin e4) ?_ ?_
 ·rintro i v σ H5 pt hv ⟨hs,f,st,hg,dps,v5,v6,v7,v8,v9,v10,v11,rfl,sE5,lam5,x5,tw5,hsl,d5,hdl,ngd⟩ hpt;rw[Ae]at hv;obtain⟨cell,hcell,rfl⟩:=Bk.mp hv;have hi41:i<41:=by have:=(Ad.mp hcell).1;omega
  have k6:=aF hpt (.tup [.int ((0+i:Nat):Int),.int cell])
  have t6:=dE (show (upd H5 pt (.tup [.int ((0+i:Nat):Int),.int cell])) pt=_ from aE)
  generalize upd H5 pt (.tup [.int ((0+i:Nat):Int),.int cell])=H6 at k6 t6 ⊢;have sE6:=sE5.trans (.of k6)
  walk_at "gs"
  with_reducible refine jJ ?_
  walk_at "gs";refine⟨cell,_,rfl,by omega,by omega,λn hn=>?_⟩
  walk_at "gs"
  with_reducible refine jJ ?_
  walk_at "gs";refine⟨rb,n,bk,mss,rfl,hbk4.keepE sE6 nrb ntt,hms,hgb,hb1,hb8,hn,λjs H7 s7 hjs hj1 hj3=>?_⟩;have k7:=k6.trans s7
  have sE7:=sE5.trans (.of k7)
  have hfs:=rM hms hjs
  walk_at "gs";refine⟨x,dx,b',s0,st,hg,dd,m,hs,f,dps,bk,cws,mss,dO mss js,js.length,rfl,k7 _ _ x5,tw5.keepS k7,hsl,m6,⟨hbb4.keepE sE7 nbb ntt,hcw,by omega,hms,?_,by omega,hfs.2,zZ (aJ6 hms (by omega)) (Cy _) hjs List.drop_zero⟩,lam5.keep k7,k7 _ _ d5,by omega,ngd,λH8 s8 l8=>?_,λhs' f' st' hg' dp ks H8 sE8 l8 x8 d8 hl8 hsd hflat hks hng tw8=>?_⟩
  ·exact zM hms hjs hj1
  ·have l7:=lam5.keep k7
   have sP:SameE [Pt,x,dd] H7 H8:=λy o ny e=>s8 y o (λz=>ny (by rw[z];exact Ak ..)) e
   walk_at "gs";exact⟨hs,f,st,hg,dps,_,_,_,_,_,_,_,rfl,sE7.trans sP,l8,atP s8 l7 (k7 _ _ x5) (λ_=>nofun),twP (tw5.keepS k7) s8 l7,hsl,atP s8 l7 (k7 _ _ d5) (λ_=>nofun),by omega,ngd⟩
  ·have sE48:=sE7.trans sE8
   have hbk8:=hbk4.keepE sE48 nrb ntt
   have hbb8:=hbb4.keepE sE48 nbb ntt
   have ngd':hg'≠dd:=λz=>by rw[z,k7 _ _ d5]at hng;cases hng
   obtain⟨gs,mm,ehs,hgs,hgl⟩:=cXZ hsd;have hkc:∀k∈ks,k<cws.length:=λk hk=>by have:=hks k hk;omega
   have hkb:∀k∈ks,k<bk.length:=λk hk=>by have:=hks k hk;omega
   have hlen:gs.length+mm=m:=by rw[<-hl8,ehs,Ag,Ab,Bp]
   have hks1:1<=ks.length:=by
    cases ks with
    |nil=>
     have:=zM hms hjs hj1
     rw[<-hflat]at this;exact absurd this (show ¬1<=0 by decide)
    |cons _ _=>rw[Aw];omega
   obtain⟨us,u1,u2⟩:=id tw8.hal;have hul:=u2.len
   walk_at "gs"
   with_reducible refine jJ ?_
   walk_at "gs";refine⟨x,dx,_,rfl,x8,aZY,?_⟩;walk_at "gs";refine⟨x,b',s0,st',hg',dd,dx,m,us,hs',bk,cws,rfl,x8,aO u1,u2,by omega,tw8.ok,hbb8,by omega,hcw,λr9 H9 hr9 s9 e9=>?_⟩
   have erd:hs'.map (rdN cws)=(ks.map λk=>V.int ((k:Nat):Int))++List.replicate mm V.non:=by
    rw[ehs,Ao,uX hnd hcL hgs hkc,List.map_replicate];rfl
   rw[erd]at e9;have hxl:((ks.map λk=>V.int ((k:Nat):Int))++List.replicate mm V.non).length=ks.length+mm:=by rw[Ag,Ab,Bp]
   walk_at "gs";refine dP (xs:=(ks.map λk=>V.int ((k:Nat):Int))++List.replicate mm V.non) (λj=>(ks[j]?).map λk=>V.int ((k:Nat):Int)) (aO e9) (by rw[hxl];exact bA (by omega)) (λj v Hc A B hv sm hA hB=>?_) (λD H10 hD sD hd=>?_)
   ·rcases Nat.lt_or_ge j ks.length with z|z
    ·rw[Aq (by rw[Ab];exact z)]at hv
     obtain⟨k,hk,rfl⟩:=nQ hv;walk_at "gs";refine⟨Wk.set rfl (Wk.refl _),?_⟩;walk_at "gs";rw[show (!decide (V.int ((k:Nat):Int)=V.non))=true by rw[Ay λz=>nomatch z];rfl]
     walk_at "gs";exact hA _ (by rw[hk];rfl) _ (Same.refl _)
    ·rw[Ax (by rw[Ab];exact z)]at hv
     obtain rfl:v=V.non:=(List.mem_replicate.mp (Al hv)).2;walk_at "gs";refine⟨Wk.set rfl (Wk.refl _),?_⟩;walk_at "gs";rw[show (!decide (V.non=V.non))=false by rw[Ap rfl];rfl]
     walk_at "gs";exact hB (by rw[Fi z];rfl) _ (Same.refl _)
   rw[hxl,sB (λk=>V.int ((k:Nat):Int)) ks mm]at hd;have s810:=s9.trans sD
   have hvl:((ks.map λk=>V.int ((k:Nat):Int))).length=ks.length:=Ab ..
   have bk10:=hbk8.keep s810
   obtain⟨qs,b1,b2,b3⟩:=id bk10;have rq:=aO b1
   walk_at "gs"
   with_reducible refine jJ ?_
   walk_at "gs";refine dP (xs:=(ks.map λk=>V.int ((k:Nat):Int))) (λj=>(ks[j]?).map λk=>V.str (bk.getD k (Str.empty,Str.empty)).1) (aO hd) (by rw[hvl];exact bA (by omega)) (λj v Hc A B hv sm hA hB=>?_) (λD2 H11 hD2 sD2 hd2=>?_)
   ·obtain⟨k,hk,rfl⟩:=nQ hv;have hkb':=hkb k (Al hk)
    have ep:qs[k]?=some (qs[k]'(by omega)):=Aa _
    have tp:=sm _ _ (b3 k _ _ ep (Aa hkb'))
    have eg:bk.getD k (Str.empty,Str.empty)=bk[k]:=by rw[Ac,Aa hkb'];rfl
    walk_at "gs";refine⟨Wk.set rfl (Wk.refl _),?_⟩;walk_at "gs";refine cO (aK sm rq) (v:=.ref (qs[k]'(by omega))) (bD (by rw[Ae,ep];rfl)) ?_
    walk_at "gs";refine dJ tp (v:=.str bk[k].1) (bD (j:=0) rfl) ?_;walk_at "gs";exact hA _ (by rw[hk,<-eg];rfl) _ (Same.refl _)
   rw[hvl,cQ (λk=>V.str (bk.getD k (Str.empty,Str.empty)).1)]at hd2;have hd2':H11 D2=some (.lst ((nS bk ks).map V.str)):=by rw[hd2];unfold nS;rw[Bt];rfl
   walk_at "gs";refine dQC hgb hms (bk10.keep sD2) (aO hd2') hks1 (by omega) hkb λH12 s12=>?_
   rw[hflat];walk_at "gs";rw[show (!decide (bI (dO mss js)=bI (dO mss js)))=false by rw[Ap rfl];rfl]
   have s1012:=sD2.trans s12
   have s812:=s810.trans s1012
   have hd12:=s1012 _ _ hd
   have x12:=s812 _ _ x8
   walk_at "gs";refine⟨x,dx,_,rfl,x12,rN,?_⟩;walk_at "gs";refine⟨x,b',s0,st',hg',dd,dx,m,us,hs',rfl,x12,aK s812 (aO u1),u2.keep s812,by omega,λrh us' H13 hrh s13 e13 hat13 _=>?_⟩
   have s1013:=s1012.trans s13
   have s813:=s812.trans s13
   have re13:=aO e13
   have rd13:=aO (s13 _ _ hd12)
   walk_at "gs";refine eXO (xs:=(ks.map λk=>V.int ((k:Nat):Int))) (ys:=us') (λi' σ H'=>∃v10 v11,σ=[some (.ref a),some (.ref x),some (.ref rb),some (.ref rl),some (.ref rw'),some (.int ((0+i:Nat):Int)),some (.int cell),some (.int n),some (.str (bI (dO mss js))),some (.ref D),v10,v11]/\Same H13 H') ⟨_,_,rfl,Same.refl _⟩ (λi' σ H' _ _ ⟨_,_,_,e⟩=>⟨aK e rd13,aK e re13⟩) ?_ ?_
   ·rintro i' v y σ H14 pz hv hy ⟨v10,v11,rfl,s14⟩ hpz;obtain⟨k,hk,rfl⟩:=nQ hv;have hkl:=(Ad.mp hk).1
    obtain⟨g,eg,hgg⟩:=hgs.at (i:=i') (cw:=fwS cws k) (by rw[Ae,hk];rfl)
    have eh:hs'[i']?=some (some g):=by rw[ehs,Aq (by rw[Ab];omega),Ae,eg];rfl
    have hhv:=(hat13.keep s14).val i' y _ hy eh
    obtain⟨pg,rfl,hpg⟩:=hhv;have hbg:=tw8.ok _ (Al eh)
    have k15:=aF hpz (.tup [.int ((k:Nat):Int),.ref pg])
    have t15:=dE (show (upd H14 pz (.tup [.int ((k:Nat):Int),.ref pg])) pz=_ from aE)
    generalize upd H14 pz (.tup [.int ((k:Nat):Int),.ref pg])=H15 at k15 t15 ⊢;have s1315:=s14.trans k15
    walk_at "gs";rw[show decide (V.ref pg=V.non)=false from Ay (λz=>nomatch z)]
    walk_at "gs";refine⟨rb,pg,k,_,bk,cws,_,rfl,bk10.keep (s1013.trans s1315),hcw,hb8,hkb k (Al hk),aO (k15 _ _ hpg),hgg,hbg,λH16 s16=>?_⟩;walk_at "gs";exact⟨_,_,rfl,s1315.trans s16⟩
   ·rintro σ H14 ⟨v10,v11,rfl,s14⟩;have s814:=s813.trans s14
    exact⟨hs',f',st',hg',_,_,_,_,_,_,_,_,rfl,sE48.trans (.of s814),l8.keep s814,s814 _ _ x8,tw8.keepS s814,hl8,s814 _ _ d8,by rw[Ag];show _+1<=_;omega,ngd'⟩
 ·rintro σ H5 ⟨hs,f,st,hg,dps,v5,v6,v7,v8,v9,v10,v11,rfl,_⟩;walk_at "go";exact q _
end
variable {A:List (Nat×Wt)}{ch:Wt->List Nat}{first w:Wt}{m:List (Wt×Nat)}{ws:List Wt}
def FnP(K:W.Frag)(x q:Str)(st:Stmt)(f:Addr):Prop:=∃(oc:Value) (od:Option Addr) (sl:Array (Option Value)) (kV dc pm:Value) (an:Option Addr) (cd ct:Value),K.lookup f=some ⟨oc,od,.func (W.fnOf x q (iU st) (eY st) (aI st) .none kV dc pm an cd ct),sl⟩/\W.codeIn K cd q=true/\W.keepIn K (.ref f)=true
abbrev FnG(K:W.Frag)(x:Str)(st:Stmt)(f:Addr):Prop:=W.nsIn K mainGlobals x=some (some (.ref f))/\FnP K x x st f
abbrev FnM(K:W.Frag)(C:Addr)(x q:Str)(st:Stmt)(f:Addr):Prop:=W.findIn K (.ref C) x=some (some (.ref f))/\W.isFn K (.ref f)=true/\FnP K x q st f
abbrev FnI(K:W.Frag)(C:Addr)(q:Str)(st:Stmt)(f:Addr):Prop:=W.findIn K (.ref C) "__init__"=some (some (.ref f))/\W.typeIn K (.ref f)=some (.type "function")/\FnP K "__init__" q st f
abbrev dQF(x q:Str)(st:Stmt)(ps:List Str):Prop:=∀(kV doc pm:Value) (an:Option Addr) (cdv ct:Value) (us:List Value),us.length=ps.length->bindArgs (W.fnOf x q (iU st) (eY st) (aI st) .none kV doc pm an cdv ct) ⟨us,[]⟩=pure (ps.zip us)
def FnP.c{P:Program}{w:World}{base:Heap}{CX:CXT}{x q:Str}{st:Stmt}{ps:List Str}{sp:Sp}(p:FnP K x q st f)(o:∀ {fd:FuncData},Fun K x q st f fd->FnOk P w K mg base CX k f fd ps sp)(hb:dQF x q st ps):∃fd:FuncData,FnOk P w K mg base CX k f fd ps sp/\W.keepIn K (.ref f)=true/\Binds K fd ps []:=by
 obtain⟨_,_,_,_,_,_,_,_,_,l,c,k⟩:=p;have F:=aJD (st:=st) l c k
 exact⟨_,o F,k,F.binds hb⟩
local macro_rules | `(tactic| walk_at "bd") => `(tactic| (intro a1 a2 a3 a4 a5 a6 us hl; iterate 7 (all_goals try (rcases us with _ | ⟨u,us⟩; (· first | rfl | (simp at hl)))); all_goals (simp at hl)))
def all_mk{l:W.OpenLaw}{w:World}{h:Heap}{fa:Addr}{f_0 f_1 f_2 f_3 f_4 f_5 f_6 f_7 f_8 f_9 f_10 f_11 f_12 f_13 f_14 f_15 f_16 f_17 f_18 f_19 f_20 f_21 f_22 f_23 f_24 f_25 f_26 f_27 f_28 f_29 f_30 f_31 f_32 f_33 f_34 f_35 f_36 f_37 f_38 f_39 f_40 f_41 f_42 f_43 f_44 f_45 f_46 f_47 f_48 f_49 f_50 f_51 f_52 f_53 f_54 f_55 f_56 f_57:Addr}{t_FLAGS t_SUBSTITUTES t_LETTERS t_LONGEST_TERM t_TERM_LETTERS t_MOST_TERMS t_MOST_PLACES:Tok}{dd_THINGS_IN:Addr}{es_THINGS_IN:Array DictEntry}{ep_THINGS_IN:Nat}{c:Addr}(X:K.In h)(Gn:h.Ns mainGlobals mg)(hfa:mg "law"=some (.ref fa))(TH:bQH h mg "longest_on" c)(q_Lack:W.nsIn K mainGlobals "Lack"=some (some (.ref Zu)))(q_TowerError:W.nsIn K mainGlobals "TowerError"=some (some (.ref Zz)))(q_Short:W.nsIn K mainGlobals "Short"=some (some (.ref Zv)))(q_NoHoist:W.nsIn K mainGlobals "NoHoist"=some (some (.ref Zx)))(q_Tower:W.nsIn K mainGlobals "Tower"=some (some (.ref Z0)))(q_NoDeed:W.nsIn K mainGlobals "NoDeed"=some (some (.ref Zw)))(q_NoHalyard:W.nsIn K mainGlobals "NoHalyard"=some (some (.ref Zy)))(p_0:FnG K "_law_mixed" oM f_0)(p_1:FnG K "_law_word" qT f_1)(p_2:FnG K "_law_book" rO f_2)(p_3:FnG K "_law_checked" gK f_3)(p_4:FnG K "_law_flags" pB f_4)(p_5:FnG K "_law_cell_at" kI f_5)(p_6:FnG K "plain_locker" fX f_6)(p_7:FnM K Z0 "__init__" "Tower.__init__" iJ f_7)(p_8:FnG K "_law_begun" oW f_8)(p_9:FnG K "_law_text" tL f_9)(p_10:FnG K "put_in" rK f_10)(p_11:FnG K "wants_of" iM f_11)(p_12:FnG K "choices_at" fS f_12)(p_13:FnG K "choices_of" iY f_13)(p_14:FnG K "hoists_of" jQ f_14)(p_15:FnG K "asked_from" fU f_15)(p_16:FnG K "hang_along" jE f_16)(p_17:FnI K Zu "Lack.__init__" kA f_17)(p_18:FnG K "hang_all" eD f_18)(p_19:FnG K "rank_of" oO f_19)(p_20:FnG K "is_divided" iV f_20)(p_21:FnG K "hidden_letter" dS f_21)(p_22:FnG K "check_of" mK f_22)(p_23:FnG K "with_check" iN f_23)(p_24:FnG K "flags_on" mR f_24)(p_25:FnG K "all_flags_on" fW f_25)(p_26:FnI K Zv "Short.__init__" iZ f_26)(p_27:FnG K "taken" yJ f_27)(p_28:FnG K "is_term" oJ f_28)(p_29:FnG K "is_row_of_terms" eL f_29)(p_30:FnG K "terms_of" mH f_30)(p_31:FnG K "meanings_of" gP f_31)(p_32:FnG K "standing_at" eX f_32)(p_33:FnG K "least_numbers" dR f_33)(p_34:FnG K "longest_on" dD f_34)(p_35:FnG K "cut_text" mX f_35)(p_36:FnG K "behind_say" fR f_36)(p_37:FnG K "behind_haul" lR f_37)(p_38:FnG K "behind_lower" jO f_38)(p_39:FnG K "behind_lose" lO f_39)(p_40:FnG K "behind_find" lK f_40)(p_41:FnG K "behind_deed" gQ f_41)(p_42:FnM K Z0 "do" "Tower.do" mQ f_42)(p_43:FnG K "_law_done" rE f_43)(p_44:FnG K "text_said" gN f_44)(p_45:FnM K Z0 "halyards" "Tower.halyards" eS f_45)(p_46:FnG K "is_flag" oR f_46)(p_47:FnG K "may_stand" jX f_47)(p_48:FnG K "is_hoist" mJ f_48)(p_49:FnG K "read_of" oK f_49)(p_50:FnM K Z0 "read" "Tower.read" fT f_50)(p_51:FnG K "_law_hidden" mY f_51)(p_52:FnG K "fits_sight" fP f_52)(p_53:FnG K "read_in" kR f_53)(p_54:FnG K "is_word" oQ f_54)(p_55:FnG K "is_checked" jB f_55)(p_56:FnG K "_law_seen" rA f_56)(p_57:FnG K "law" pW f_57)(z_range:W.nsIn K mainGlobals "range"=some none)(z_enumerate:W.nsIn K mainGlobals "enumerate"=some none)(z_sum:W.nsIn K mainGlobals "sum"=some none)(z_len:W.nsIn K mainGlobals "len"=some none)(z_list:W.nsIn K mainGlobals "list"=some none)(z_int:W.nsIn K mainGlobals "int"=some none)(z_all:W.nsIn K mainGlobals "all"=some none)(z_min:W.nsIn K mainGlobals "min"=some none)(z_max:W.nsIn K mainGlobals "max"=some none)(z_dict:W.nsIn K mainGlobals "dict"=some none)(z_zip:W.nsIn K mainGlobals "zip"=some none)(g_FLAGS:W.nsIn K mainGlobals "FLAGS"=some (some (.str "abcdefghijklmnopqrstuvw1234" t_FLAGS)))(g_SUBSTITUTES:W.nsIn K mainGlobals "SUBSTITUTES"=some (some (.str "1234" t_SUBSTITUTES)))(g_LETTERS:W.nsIn K mainGlobals "LETTERS"=some (some (.str "abcdefghijklmnopqrstuvw" t_LETTERS)))(g_LONGEST_TERM:W.nsIn K mainGlobals "LONGEST_TERM"=some (some (.int 10 t_LONGEST_TERM)))(g_TERM_LETTERS:W.nsIn K mainGlobals "TERM_LETTERS"=some (some (.str "abcdefghijklmnopqrstuvwxyz" t_TERM_LETTERS)))(g_MOST_TERMS:W.nsIn K mainGlobals "MOST_TERMS"=some (some (.int 40 t_MOST_TERMS)))(g_MOST_PLACES:W.nsIn K mainGlobals "MOST_PLACES"=some (some (.int 7 t_MOST_PLACES)))(KF:KFs K Zu Zz Zv Zx Z0 Zw Zy)(qd_THINGS_IN:W.nsIn K mainGlobals "THINGS_IN"=some (some (.ref dd_THINGS_IN)))(ld_THINGS_IN:K.lookup dd_THINGS_IN=some ⟨.type "dict",none,.dict es_THINGS_IN ep_THINGS_IN,#[]⟩)(sd_THINGS_IN:(dd_THINGS_IN==sysModules)=false)(ed_THINGS_IN:wZ w es_THINGS_IN.toList [("haul",3),("lower",2),("lose",2),("find",2),("say",2)]):∃fd:FuncData,(∀(s:Shared) (v:Value),BindsTo s fd ⟨[v],[]⟩ [("_law_script",v)])/\∀base:Heap,K.In base->base.Ns mainGlobals mg->LamB mg base c Pt->FnOk l.prog w K mg base CX0 11 fa fd ["_law_script"] (xQ K Pt):=by
 have M:∀ {x:Str} {v:Value},W.nsIn K mainGlobals x=some (some v)->mg x=some v:=λh=>W.mg_of X Gn h
 have N:∀ {x:Str},W.nsIn K mainGlobals x=some none->mg x=none:=λh=>W.mg_none_of X Gn h
 have e:=hfa.symm.trans (M p_57.1)
 cases e;have G:Gs K mg w Zu Zz Zv Zx Z0 Zw Zy:=⟨KF,M q_Lack,M q_TowerError,M q_Short,M q_NoHoist,M q_Tower,M q_NoDeed,M q_NoHalyard,⟨_,_,_,M qd_THINGS_IN,ld_THINGS_IN,sd_THINGS_IN,ed_THINGS_IN,by decide +kernel⟩,N z_range,N z_enumerate,N z_sum,N z_len,N z_list,N z_int,N z_all,N z_min,N z_max,N z_dict,N z_zip,⟨_,M g_FLAGS⟩,⟨_,M g_SUBSTITUTES⟩,⟨_,M g_LETTERS⟩,⟨_,M g_LONGEST_TERM⟩,⟨_,M g_TERM_LETTERS⟩,⟨_,M g_MOST_TERMS⟩,⟨_,M g_MOST_PLACES⟩⟩
 obtain⟨_,_,_,kV,dc,pm,an,cd,ct,lk,hc,hk⟩:=p_57.2;have F:=aJD (st:=pW) lk hc hk
 refine⟨W.fnOf "law" "law" (iU pW) (eY pW) (aI pW) .none kV dc pm an cd ct,λs v=>.of_eq rfl,λbase _ _ LB=>?_⟩;have mk:∀ {CX:CXT} {k:Nat} {x:Str} {st:Stmt} {f:Addr} {ps:List Str} {sp:Sp},FnG K x st f->(∀ {fd:FuncData},Fun K x x st f fd->FnOk l.prog w K mg base CX k f fd ps sp)->dQF x x st ps->∃(f:Addr) (fd:FuncData),FnOk l.prog w K mg base CX k f fd ps sp/\mg x=some (.ref f)/\W.keepIn K (.ref f)=true/\Binds K fd ps []:=λp o hb=>by
  obtain⟨fd,a,b,c⟩:=p.2.c o hb;exact⟨_,fd,a,M p.1,b,c⟩
 have mt:∀ {CX:CXT} {k:Nat} {x:Str} {st:Stmt} {f:Addr} {ps:List Str} {sp:Sp} {C:Addr} {q:Str},FnM K C x q st f->(∀ {fd:FuncData},Fun K x q st f fd->FnOk l.prog w K mg base CX k f fd ps sp)->dQF x q st ps->bXC CX l.prog w K mg base k C x ps sp:=λp o hb=>by
  obtain⟨fd,a,b,c⟩:=p.2.2.c o hb;exact⟨_,fd,a,⟨p.1,p.2.1,b⟩,c⟩
 have mi:∀ {k:Nat} {st:Stmt} {f:Addr} {ps:List Str} {sp:Sp} {C:Addr} {q:Str},FnI K C q st f->(∀ {fd:FuncData},Fun K "__init__" q st f fd->FnOk l.prog w K mg base CX0 k f fd ps sp)->dQF "__init__" q st ps->bJN l.prog w K mg base k C ps sp:=λp o hb=>by
  obtain⟨fd,a,b,c⟩:=p.2.2.c o hb;exact⟨_,fd,a,p.1,p.2.1,c⟩
 have c_l_mixed:=mk p_0 (λF=>aZP F G ) (by walk_at "bd")
 have c_l_word:=mk p_1 (λF=>bXI F G ) (by walk_at "bd")
 have c_l_book:=mk p_2 (λF=>bXM F G c_l_mixed c_l_word) (by walk_at "bd")
 have c_l_checked:=mk p_3 (λF=>yI F G ) (by walk_at "bd")
 have c_l_flags:=mk p_4 (λF=>aJG F G c_l_mixed c_l_checked) (by walk_at "bd")
 have c_l_cell_at:=mk p_5 (λF=>xF F G ) (by walk_at "bd")
 have c_plain_locker:=mk p_6 (λF=>qE F G ) (by walk_at "bd")
 have c_Tower_init:eQ4 CX0 l.prog w K mg base 2 Z0 ["self", "book", "locker", "many"] (gU Z0):=by
  obtain⟨fd,a,b,c⟩:=p_7.2.2.c (λF=>uC F G c_plain_locker) (by walk_at "bd")
  exact⟨_,fd,a,⟨G.mk1_Tower,p_7.1,p_7.2.1,G.mk2_Tower⟩,c⟩
 have c_l_begun:=mk p_8 (λF=>aZV F G c_l_book c_l_flags c_l_cell_at c_Tower_init) (by walk_at "bd")
 have c_l_text:=mk p_9 (λF=>bZI F G ) (by walk_at "bd")
 have c_put_in:=mk p_10 (λF=>bZX F G c_plain_locker) (by walk_at "bd")
 have c_wants_of:=mk p_11 (λF=>aQA F G ) (by walk_at "bd")
 have c_choices_at:=mk p_12 (λF=>uV F G ) (by walk_at "bd")
 have c_choices_of:=mk p_13 (λF=>uJ F G c_wants_of c_choices_at) (by walk_at "bd")
 have c_hoists_of:=mk p_14 (λF=>xC F G ) (by walk_at "bd")
 have c_asked_from:=mk p_15 (λF=>uP F G ) (by walk_at "bd")
 have c_hang_along:=mk p_16 (λF=>uH F G ) (by walk_at "bd")
 have c_Lack_init:=mi p_17 (λF=>xL F G ) (by walk_at "bd")
 have c_hang_all:=mk p_18 (λF=>aQK F G c_choices_of c_plain_locker c_hoists_of c_asked_from c_hang_along c_Lack_init) (by walk_at "bd")
 have c_rank_of:=mk p_19 (λF=>aJH F G ) (by walk_at "bd")
 have c_is_divided:=mk p_20 (λF=>uK F G c_rank_of) (by walk_at "bd")
 have c_hidden_letter:=mk p_21 (λF=>oU F G c_is_divided) (by walk_at "bd")
 have c_check_of:=mk p_22 (λF=>aQ3 F G c_hidden_letter) (by walk_at "bd")
 have c_with_check:=mk p_23 (λF=>uU F G c_check_of) (by walk_at "bd")
 have c_flags_on:=mk p_24 (λF=>aQ8 F G ) (by walk_at "bd")
 have c_all_flags_on:=mk p_25 (λF=>qF F G c_flags_on) (by walk_at "bd")
 have c_Short_init:=mi p_26 (λF=>uF F G ) (by walk_at "bd")
 have c_taken:=mk p_27 (λF=>cXK F G c_plain_locker c_Short_init) (by walk_at "bd")
 have c_is_term:=mk p_28 (λF=>aZX F G ) (by walk_at "bd")
 have c_is_row_of_terms:=mk p_29 (λF=>lZ F G c_is_term) (by walk_at "bd")
 have c_terms_of:=mk p_30 (λF=>aXF F G c_is_row_of_terms) (by walk_at "bd")
 have c_meanings_of:=mk p_31 (λF=>rG F G ) (by walk_at "bd")
 have c_standing_at:=mk p_32 (λF=>tR F G ) (by walk_at "bd")
 have c_least_numbers:=mk p_33 (λF=>oV F G c_standing_at) (by walk_at "bd")
 have c_longest_on:Cal l.prog w K mg base 2 "longest_on" ["meanings", "terms", "table", "start"] (gZ Pt):=by
  obtain⟨_,_,_,_,_,_,_,_,_,l,c,k⟩:=p_34.2;have F:=aJD (st:=dD) l c k
  have b:=F.binds (ps:=["meanings", "terms", "table", "start"]) (by walk_at "bd")
  exact⟨_,_,uD F G (dQ5 TH X (M p_34.1) l) LB c_standing_at,M p_34.1,k,b⟩
 have c_cut_text:=mk p_35 (λF=>aQ5 F G c_terms_of c_meanings_of c_least_numbers c_longest_on) (by walk_at "bd")
 have c_behind_say:=mk p_36 (λF=>uM F G c_put_in c_hang_all c_with_check c_all_flags_on c_taken c_cut_text) (by walk_at "bd")
 have c_behind_haul:=mk p_37 (λF=>rS F G ) (by walk_at "bd")
 have c_behind_lower:=mk p_38 (λF=>qC F G ) (by walk_at "bd")
 have c_behind_lose:=mk p_39 (λF=>sK F G ) (by walk_at "bd")
 have c_behind_find:=mk p_40 (λF=>qS F G ) (by walk_at "bd")
 have c_behind_deed:=mk p_41 (λF=>sM F G c_behind_say c_behind_haul c_behind_lower c_behind_lose c_behind_find) (by walk_at "bd")
 have c_Tower_do:=mt p_42 (λF=>aQY F G c_behind_deed) (by walk_at "bd")
 have c_l_done:=mk p_43 (λF=>bZP F G c_Tower_do) (by walk_at "bd")
 have c_text_said:=mk p_44 (λF=>xT F G ) (by walk_at "bd")
 have c_Tower_halyards:=mt p_45 (λF=>nL F G ) (by walk_at "bd")
 have c_is_flag:=mk p_46 (λF=>aZI F G ) (by walk_at "bd")
 have c_may_stand:=mk p_47 (λF=>xS F G c_is_flag) (by walk_at "bd")
 have c_is_hoist:=mk p_48 (λF=>aQ7 F G c_may_stand) (by walk_at "bd")
 have c_read_of:=mk p_49 (λF=>aX5 F G c_is_hoist) (by walk_at "bd")
 have c_Tower_read:=mt p_50 (λF=>uI F G c_with_check c_read_of) (by walk_at "bd")
 have c_l_hidden:=mk p_51 (λF=>aXH F G ) (by walk_at "bd")
 have c_fits_sight:=mk p_52 (λF=>uO F G c_choices_at) (by walk_at "bd")
 have c_read_in:=mk p_53 (λF=>aX8 F G c_fits_sight c_with_check) (by walk_at "bd")
 have c_is_word:=mk p_54 (λF=>aX7 F G ) (by walk_at "bd")
 have c_is_checked:=mk p_55 (λF=>uG F G c_is_word c_is_divided) (by walk_at "bd")
 have c_l_seen:=mk p_56 (λF=>bZA F G c_check_of c_l_hidden c_read_in c_is_checked c_read_of c_fits_sight) (by walk_at "bd")
 exact eQN F G c_l_begun c_l_mixed c_l_text c_l_done c_text_said c_Tower_halyards c_Tower_read c_l_seen
def walk{l:W.OpenLaw}{q:Program}{loose:List Str}{XP:(Q5)->Heap->Prop}{YP:World->Heap->Prop}{d:DefRec}{K:Params->W.Frag}(hn:l.most=some 63)(hdf:d.params.defaults=[])(hd2:((PyProof.Rows.recsOf q).find? λe=>e.name==PySem.Str.ofString "longest_on").isSome=true)(hno:∀w:World,W.noTabs (K w.params)=true)(hY:∀(w:World) (h:Heap),YP w h->(K w.params).In h)(F:∀(w:World) (mg:Q5) (fa:Addr) (h:Heap) (c Pt:Addr),(K w.params).In h->h.Ns mainGlobals mg->mg d.name=some (.ref fa)->bQH h mg "longest_on" c->
 ∃fd:FuncData,(∀(s:Shared) (u:Value),BindsTo s fd ⟨[u],[]⟩ [("_law_script",u)])/\∀base:Heap,(K w.params).In base->base.Ns mainGlobals mg->LamB mg base c Pt->FnOk l.prog w (K w.params) mg base CX0 11 fa fd ["_law_script"] (xQ (K w.params) Pt)):W.WalkO q loose XP YP l.row.toRowW d [] (λf vs=>PySem.call f vs):=by
 obtain⟨d2,e⟩:=Dn.mp hd2;have e3:=List.find?_some e
 have e2:d2.name=PySem.Str.ofString "longest_on" := eq_of_beq e3
 exact L2.cZM (d2:=d2) (n:=63) (k:=11) (x := "_law_script") (CX:=λ_=>CX0) (sp:=λw=>xQ (K w.params)) hn (by decide) hdf ⟨rfl,by decide,by decide⟩ (List.mem_of_find?_eq_some e) hno hY (λw mg fa h c Pt a1 a2 a3 a4=>F w mg fa h c Pt a1 a2 a3 (e2▸a4)) (λ_ _ a Pt ns hl hP hS=>⟨a,ns,rfl,hS,hl,hP,λ_=>rfl⟩) λ_ _ _ _ _ z=>z
end Mine
namespace PySem.W.Fast
theorem tw14972536283879777109:True:=⟨⟩
theorem tw9288528970851536987:True:=⟨⟩
theorem tw14806870846912962392:True:=⟨⟩
theorem tw4518712211266492815:True:=⟨⟩
theorem tw9475846936236430136:True:=⟨⟩
theorem tw816336732383800392:True:=⟨⟩
theorem tw16284462762507089305:True:=⟨⟩
theorem tw1370969415411086519:True:=⟨⟩
theorem tw8369784274922549675:True:=⟨⟩
theorem tw13969161923989601416:True:=⟨⟩
theorem tw2744650971148896653:True:=⟨⟩
theorem tw12315097403256512558:True:=⟨⟩
theorem tw5754902930570925392:True:=⟨⟩
theorem tw7523498675684642266:True:=⟨⟩
theorem tw2002231395659232064:True:=⟨⟩
theorem tw4870792252846842761:True:=⟨⟩
theorem tw7303114491985921523:True:=⟨⟩
theorem tw1006346229827753037:True:=⟨⟩
theorem tw1710214407524855515:True:=⟨⟩
theorem tw11826011297147870424:True:=⟨⟩
theorem tw1437207679401358230:True:=⟨⟩
theorem tw13860334636638281576:True:=⟨⟩
theorem tw5989982344800813390:True:=⟨⟩
theorem tw9228099937368356027:True:=⟨⟩
theorem tw14863373187311154395:True:=⟨⟩
theorem tw7804419861471308309:True:=⟨⟩
theorem tw16698523256134052869:True:=⟨⟩
theorem tw2327374491010767926:True:=⟨⟩
theorem tw5869860042195919102:True:=⟨⟩
theorem tw17177127087385472958:True:=⟨⟩
theorem tw11136971780205669765:True:=⟨⟩
theorem tw391419346368972207:True:=⟨⟩
theorem tw8042366396224446500:True:=⟨⟩
theorem tw13355409932730011570:True:=⟨⟩
theorem tw3332869259638750143:True:=⟨⟩
theorem tw16633005769451031483:True:=⟨⟩
theorem tw8033532536973119560:True:=⟨⟩
theorem tw14381497191652728004:True:=⟨⟩
theorem tw6624279293112743304:True:=⟨⟩
theorem tw16496144487465120370:True:=⟨⟩
theorem tw11728706702838394047:True:=⟨⟩
theorem tw9035731635379160269:True:=⟨⟩
theorem tw15048915766244890232:True:=⟨⟩
theorem tw14771388197440230822:True:=⟨⟩
theorem tw14901881856349309055:True:=⟨⟩
theorem tw7216746281080410278:True:=⟨⟩
theorem tw14489201401340150731:True:=⟨⟩
theorem tw11257992814015324143:True:=⟨⟩
theorem tw2769445802381532909:True:=⟨⟩
theorem tw9079932576108573544:True:=⟨⟩
theorem tw10451322917301162188:True:=⟨⟩
theorem tw18391626126098288488:True:=⟨⟩
theorem tw11760807388422540604:True:=⟨⟩
theorem tw14166522128176025026:True:=⟨⟩
theorem tw17942710043264147984:True:=⟨⟩
theorem tw10830270219488438885:True:=⟨⟩
theorem tw6849894532959165490:True:=⟨⟩
theorem tw17779209769317078285:True:=⟨⟩
theorem tw15889663518382314330:True:=⟨⟩
theorem tw4683105674484426402:True:=⟨⟩
theorem tw10816241924613605873:True:=⟨⟩
theorem tw16268072425014884825:True:=⟨⟩
theorem tw433423050723619817:True:=⟨⟩
theorem tw5669911126747862422:True:=⟨⟩
theorem tw18040150358979510613:True:=⟨⟩
theorem tw4702905590682700427:True:=⟨⟩
theorem tw7640379862845100460:True:=⟨⟩
theorem tw15741080985698723627:True:=⟨⟩
theorem tw15830593535062087172:True:=⟨⟩
theorem tw12628093991146439976:True:=⟨⟩
theorem tw4257109442213310333:True:=⟨⟩
theorem tw1835302157517564904:True:=⟨⟩
theorem tw12854912748716286561:True:=⟨⟩
theorem tw13000195728544981396:True:=⟨⟩
theorem tw2799217391529747438:True:=⟨⟩
theorem tw9613298328298700170:True:=⟨⟩
theorem tw2285857995865382951:True:=⟨⟩
theorem tw5741563383080420646:True:=⟨⟩
theorem tw6206869055625628866:True:=⟨⟩
theorem tw3171197359012921157:True:=⟨⟩
theorem tw1914601217084803699:True:=⟨⟩
theorem tw3486349169407699578:True:=⟨⟩
theorem tw11021380866535198796:True:=⟨⟩
theorem tw564882792026732727:True:=⟨⟩
theorem tw5811041961607136532:True:=⟨⟩
theorem tw15996715567590565659:True:=⟨⟩
theorem tw3821671317693596560:True:=⟨⟩
theorem tw4497844834564152304:True:=⟨⟩
theorem tw299766950450105215:True:=⟨⟩
theorem tw18142035478467702117:True:=⟨⟩
theorem tw10395329907524405540:True:=⟨⟩
theorem tw1597934349565351387:True:=⟨⟩
theorem tw11093728887824579180:True:=⟨⟩
theorem tw4555894729326357078:True:=⟨⟩
theorem tw17773619845518667966:True:=⟨⟩
theorem tw7916335030866451220:True:=⟨⟩
theorem tw1379054759101058762:True:=⟨⟩
theorem tw11270335617131582401:True:=⟨⟩
theorem tw10654450580294325182:True:=⟨⟩
theorem tw12173248464087748782:True:=⟨⟩
theorem tw9745012214898943222:True:=⟨⟩
theorem tw11267000079038227293:True:=⟨⟩
theorem tw7543762133187378527:True:=⟨⟩
theorem tw17470920299020196522:True:=⟨⟩
theorem tw2698955150510799591:True:=⟨⟩
theorem tw12554663465290905533:True:=⟨⟩
theorem tw15879980792485388473:True:=⟨⟩
theorem tw18195051400871546028:True:=⟨⟩
theorem tw11138878318613306101:True:=⟨⟩
theorem tw15577316440928616293:True:=⟨⟩
theorem tw4036422585067194615:True:=⟨⟩
theorem tw1195035236558603514:True:=⟨⟩
theorem tw3810643122649533696:True:=⟨⟩
theorem tw80697242927814131:True:=⟨⟩
theorem tw7599306375016522475:True:=⟨⟩
theorem tw8422567256676327144:True:=⟨⟩
theorem tw10907528988712208525:True:=⟨⟩
theorem tw17796437417852408097:True:=⟨⟩
theorem tw584071713269951743:True:=⟨⟩
theorem tw1634668791765787195:True:=⟨⟩
theorem tw8259518541066882585:True:=⟨⟩
theorem tw652999875708650004:True:=⟨⟩
theorem tw18109666861995601374:True:=⟨⟩
theorem tw335918414737943563:True:=⟨⟩
theorem tw6116212084141071007:True:=⟨⟩
theorem tw7387369848130616457:True:=⟨⟩
theorem tw6211707096591967361:True:=⟨⟩
theorem tw6571324727327208139:True:=⟨⟩
theorem tw2599052497075772250:True:=⟨⟩
theorem tw16025055106244859803:True:=⟨⟩
theorem tw13574805836586190214:True:=⟨⟩
theorem tw9119128893992908654:True:=⟨⟩
theorem tw8247920084077166494:True:=⟨⟩
theorem tw6292854263303528104:True:=⟨⟩
theorem tw14787594877164794279:True:=⟨⟩
theorem tw15861253401095261367:True:=⟨⟩
theorem tw16831345095419378899:True:=⟨⟩
theorem tw14600785982564004866:True:=⟨⟩
theorem tw1303299617913177091:True:=⟨⟩
theorem tw6963770831454589697:True:=⟨⟩
theorem tw7486157357422653728:True:=⟨⟩
theorem tw7719045176292531905:True:=⟨⟩
theorem tw5594711433234632523:True:=⟨⟩
theorem tw2217285752696337076:True:=⟨⟩
theorem tw8619538844074697127:True:=⟨⟩
theorem tw2006883952830281164:True:=⟨⟩
theorem tw4494467397875407720:True:=⟨⟩
theorem tw13445235551329927366:True:=⟨⟩
theorem tw12652256897692016661:True:=⟨⟩
theorem tw4894459602829638360:True:=⟨⟩
theorem tw1110846853855299568:True:=⟨⟩
theorem tw10347176851580617535:True:=⟨⟩
theorem tw4742715564524366850:True:=⟨⟩
theorem tw15347208119853838423:True:=⟨⟩
theorem tw11312902117939592429:True:=⟨⟩
theorem tw13078966827405370034:True:=⟨⟩
theorem tw5057513298368137070:True:=⟨⟩
theorem tw1301019902869604223:True:=⟨⟩
theorem tw16849893231008119052:True:=⟨⟩
theorem tw17940374067207685587:True:=⟨⟩
theorem tw9404768159144178315:True:=⟨⟩
theorem tw13553816240731022151:True:=⟨⟩
theorem tw10365413479485943546:True:=⟨⟩
theorem tw7753589529128714132:True:=⟨⟩
theorem tw6313365972063234885:True:=⟨⟩
theorem tw1723061879452665117:True:=⟨⟩
theorem tw16092922053985400482:True:=⟨⟩
theorem tw9901786015575329658:True:=⟨⟩
theorem tw7018567363332176556:True:=⟨⟩
theorem tw1171070128463900059:True:=⟨⟩
theorem tw12182903768016368931:True:=⟨⟩
theorem tw4759113365859186738:True:=⟨⟩
theorem tw15808911934522901394:True:=⟨⟩
theorem tw15563331512185128005:True:=⟨⟩
theorem tw4015654149784222552:True:=⟨⟩
theorem tw11796353001920831297:True:=⟨⟩
theorem tw2150786005748485848:True:=⟨⟩
theorem tw16847913171915640841:True:=⟨⟩
theorem tw13602981343753917740:True:=⟨⟩
theorem tw1224046867756916892:True:=⟨⟩
theorem tw4946869276554207881:True:=⟨⟩
theorem tw7356385141898456812:True:=⟨⟩
theorem tw5574136169990199299:True:=⟨⟩
theorem tw4732669709834003080:True:=⟨⟩
theorem tw3525655359360761299:True:=⟨⟩
theorem tw10075635771510840416:True:=⟨⟩
theorem tw7618750303617608949:True:=⟨⟩
theorem tw13191701355670909414:True:=⟨⟩
theorem tw10064388505424659884:True:=⟨⟩
theorem tw14435662378909144039:True:=⟨⟩
theorem tw17307109341823855039:True:=⟨⟩
theorem tw5499561495367143169:True:=⟨⟩
theorem tw8314819267988144528:True:=⟨⟩
theorem tw11035909965058166544:True:=⟨⟩
theorem tw8531473249631731036:True:=⟨⟩
theorem tw9738194604968539620:True:=⟨⟩
theorem tw11066765289567348031:True:=⟨⟩
theorem tw8927753622197212058:True:=⟨⟩
theorem tw3437639402713662522:True:=⟨⟩
theorem tw15112046716167645252:True:=⟨⟩
theorem tw16362297985559574709:True:=⟨⟩
theorem tw15071926988762542461:True:=⟨⟩
theorem tw764186665661447444:True:=⟨⟩
theorem tw7622240722215702778:True:=⟨⟩
theorem tw12770287408600962656:True:=⟨⟩
theorem tw13444741320462411941:True:=⟨⟩
theorem tw1296081595900432114:True:=⟨⟩
theorem tw15732561550471626165:True:=⟨⟩
theorem tw18221249518316159418:True:=⟨⟩
theorem tw12445821045822862847:True:=⟨⟩
theorem tw12482197586686673188:True:=⟨⟩
theorem tw2295464188816588877:True:=⟨⟩
theorem tw13627326698517712403:True:=⟨⟩
theorem tw10225207045176535288:True:=⟨⟩
theorem tw6480483209738953915:True:=⟨⟩
theorem tw8348061166079217372:True:=⟨⟩
theorem tw5914268174433799846:True:=⟨⟩
theorem tw1932953977651305325:True:=⟨⟩
theorem tw16402549364279413574:True:=⟨⟩
theorem tw15592383065007719260:True:=⟨⟩
theorem tw12367106077089611817:True:=⟨⟩
theorem tw12682043552435466487:True:=⟨⟩
theorem tw16104276439992942:True:=⟨⟩
theorem tw14371783873590109041:True:=⟨⟩
theorem tw12544157801682168310:True:=⟨⟩
theorem tw12692619087635726645:True:=⟨⟩
theorem tw8144550229337916737:True:=⟨⟩
theorem tw2944492221523128759:True:=⟨⟩
theorem tw10581478806794419378:True:=⟨⟩
theorem tw10390760659727319573:True:=⟨⟩
theorem tw3437400719921365986:True:=⟨⟩
theorem tw12949802843750189150:True:=⟨⟩
theorem tw15576482634357115454:True:=⟨⟩
theorem tw7052376582946431385:True:=⟨⟩
theorem tw10724441272796719905:True:=⟨⟩
theorem tw9226971735273776477:True:=⟨⟩
theorem tw10981498766043506251:True:=⟨⟩
theorem tw12342374619195394079:True:=⟨⟩
theorem tw14513777605000406030:True:=⟨⟩
theorem tw3910234944839140298:True:=⟨⟩
theorem tw13668714134372336760:True:=⟨⟩
theorem tw2908902314323333063:True:=⟨⟩
theorem tw4317134164107897971:True:=⟨⟩
theorem tw3909669428287342826:True:=⟨⟩
theorem tw17882944847897498475:True:=⟨⟩
theorem tw12853280531037839624:True:=⟨⟩
theorem tw12443737026143102557:True:=⟨⟩
theorem tw13346815472514724806:True:=⟨⟩
theorem tw13652199776980543053:True:=⟨⟩
theorem tw6186927578281593987:True:=⟨⟩
theorem tw11400158111297307510:True:=⟨⟩
theorem tw8093990077946009476:True:=⟨⟩
theorem tw2147179217073997689:True:=⟨⟩
theorem tw7576850300184380364:True:=⟨⟩
theorem tw7293316942202906736:True:=⟨⟩
theorem tw8558048593460100975:True:=⟨⟩
theorem tw13113547215839466414:True:=⟨⟩
theorem tw17546192214197245695:True:=⟨⟩
theorem tw4084859993191765792:True:=⟨⟩
theorem tw10746065567194091532:True:=⟨⟩
theorem tw4588085596308760768:True:=⟨⟩
theorem tw11431600104097716090:True:=⟨⟩
theorem tw6905002584359299952:True:=⟨⟩
theorem tw17260363834774899314:True:=⟨⟩
theorem tw10836870599084059085:True:=⟨⟩
theorem tw11109378336111677297:True:=⟨⟩
theorem tw12810755110578355161:True:=⟨⟩
theorem tw9744849305284466444:True:=⟨⟩
theorem tw16916510616154277780:True:=⟨⟩
theorem tw828780213193752563:True:=⟨⟩
theorem tw4656241446138005683:True:=⟨⟩
theorem tw14606561657648775319:True:=⟨⟩
theorem tw10386865485456463494:True:=⟨⟩
theorem tw10510584721625296201:True:=⟨⟩
theorem tw6182915340267042909:True:=⟨⟩
theorem tw6673568057825949489:True:=⟨⟩
theorem tw1492366197758426214:True:=⟨⟩
theorem tw14608705167199522855:True:=⟨⟩
theorem tw11759073057474319057:True:=⟨⟩
theorem tw15243521560216788705:True:=⟨⟩
theorem tw5019895814739187151:True:=⟨⟩
theorem tw7092322829870161174:True:=⟨⟩
theorem tw12825553305134258536:True:=⟨⟩
theorem tw6125946057518493825:True:=⟨⟩
theorem tw13877292925693163882:True:=⟨⟩
theorem tw15052700037662641720:True:=⟨⟩
theorem tw10274234950697428295:True:=⟨⟩
theorem tw10350400524121376850:True:=⟨⟩
theorem tw17051615743958395050:True:=⟨⟩
theorem tw14779972700915435932:True:=⟨⟩
theorem tw13673956483584013149:True:=⟨⟩
theorem tw10171782465082760688:True:=⟨⟩
theorem tw1624946203345167049:True:=⟨⟩
theorem tw5922042832799754773:True:=⟨⟩
theorem tw14799837190964485813:True:=⟨⟩
theorem tw4558497768658775741:True:=⟨⟩
theorem tw4984715842689601061:True:=⟨⟩
theorem tw13381019685142220905:True:=⟨⟩
theorem tw17315860880697125574:True:=⟨⟩
theorem tw394806508870504270:True:=⟨⟩
theorem tw4140032602875447757:True:=⟨⟩
theorem tw14985497296440862065:True:=⟨⟩
theorem tw10954992752750339995:True:=⟨⟩
theorem tw9328877567546895624:True:=⟨⟩
theorem tw11144738461244274162:True:=⟨⟩
theorem tw16408054899591940470:True:=⟨⟩
theorem tw6703448415699103352:True:=⟨⟩
theorem tw9198387407105300932:True:=⟨⟩
theorem tw4407726957497067330:True:=⟨⟩
theorem tw1751753051999197788:True:=⟨⟩
theorem tw11945932864454303948:True:=⟨⟩
theorem tw14995469992093356852:True:=⟨⟩
theorem tw4895250692408231009:True:=⟨⟩
theorem tw8609716549220678549:True:=⟨⟩
theorem tw5145086063619186789:True:=⟨⟩
theorem tw9576762125098465086:True:=⟨⟩
theorem tw5250765221040750197:True:=⟨⟩
theorem tw5995625065396693521:True:=⟨⟩
theorem tw14563562915582774138:True:=⟨⟩
theorem tw17059014901058659286:True:=⟨⟩
theorem tw12382249453279586812:True:=⟨⟩
theorem tw11107523167309064501:True:=⟨⟩
theorem tw14398734455230754762:True:=⟨⟩
theorem tw14549525082631634104:True:=⟨⟩
theorem tw6873461451247421581:True:=⟨⟩
theorem tw16494824561733621779:True:=⟨⟩
theorem tw3482046047284122236:True:=⟨⟩
theorem tw527093880878637443:True:=⟨⟩
theorem tw5749518130627940199:True:=⟨⟩
theorem tw11580979815893919714:True:=⟨⟩
theorem tw2526437242977770229:True:=⟨⟩
theorem tw14912007425012037077:True:=⟨⟩
theorem tw2741755837269918642:True:=⟨⟩
theorem tw7173993767115237199:True:=⟨⟩
theorem tw17874184159507582303:True:=⟨⟩
theorem tw13045639340748152216:True:=⟨⟩
theorem tw3297959224617786082:True:=⟨⟩
theorem tw391747703485425325:True:=⟨⟩
theorem tw11854445894334443552:True:=⟨⟩
theorem tw16665389816709014145:True:=⟨⟩
theorem tw5998865659127570403:True:=⟨⟩
theorem tw14743684115938489329:True:=⟨⟩
theorem tw2874033165892527738:True:=⟨⟩
theorem tw1548265008221353808:True:=⟨⟩
theorem tw7793762136719200623:True:=⟨⟩
theorem tw249539088863883546:True:=⟨⟩
theorem tw5856213335745197970:True:=⟨⟩
theorem tw14283224612989813256:True:=⟨⟩
theorem tw3312350960092018181:True:=⟨⟩
theorem tw5810552498052950788:True:=⟨⟩
theorem tw7341557080529225183:True:=⟨⟩
theorem tw12010441845024558698:True:=⟨⟩
theorem tw16096598503046622577:True:=⟨⟩
theorem tw11366671055445741160:True:=⟨⟩
theorem tw10238029820838303034:True:=⟨⟩
theorem tw2004545285786512171:True:=⟨⟩
theorem tw3411728695769548461:True:=⟨⟩
theorem tw18356638329756464143:True:=⟨⟩
theorem tw749952570206112123:True:=⟨⟩
theorem tw17668996866016501101:True:=⟨⟩
theorem tw5445482819019534072:True:=⟨⟩
theorem tw13893354599043290224:True:=⟨⟩
theorem tw12945736391543606278:True:=⟨⟩
theorem tw13524425944120544204:True:=⟨⟩
theorem tw935640811657646020:True:=⟨⟩
theorem tw8619751996967265036:True:=⟨⟩
theorem tw8628033667161042117:True:=⟨⟩
theorem tw8301088293149107439:True:=⟨⟩
theorem tw16369546052423857664:True:=⟨⟩
theorem tw2823795774956691112:True:=⟨⟩
theorem tw8149058635358459985:True:=⟨⟩
theorem tw880859311359160235:True:=⟨⟩
theorem tw10177384092153080961:True:=⟨⟩
theorem tw370216358618370154:True:=⟨⟩
theorem tw14330253317775035363:True:=⟨⟩
theorem tw8247284352308993829:True:=⟨⟩
theorem tw4071884177658244955:True:=⟨⟩
theorem tw4296143319974698643:True:=⟨⟩
theorem tw2505516447903216810:True:=⟨⟩
theorem tw14049228145048968327:True:=⟨⟩
theorem tw11351713764331191639:True:=⟨⟩
theorem tw13049078748820247363:True:=⟨⟩
theorem tw17658991463857134776:True:=⟨⟩
theorem tw17480282869042740135:True:=⟨⟩
theorem tw193844021548757478:True:=⟨⟩
theorem tw17880650478800034885:True:=⟨⟩
theorem tw9996529077980505206:True:=⟨⟩
theorem tw10303523439798019474:True:=⟨⟩
theorem tw14021602374275130323:True:=⟨⟩
theorem tw4262306843196293776:True:=⟨⟩
theorem tw11650826007678807393:True:=⟨⟩
theorem tw9674266707502242624:True:=⟨⟩
theorem tw533671399040362708:True:=⟨⟩
theorem tw8364595478054647671:True:=⟨⟩
theorem tw15709173765103676511:True:=⟨⟩
theorem tw4871601156164123853:True:=⟨⟩
theorem tw4665889570634731267:True:=⟨⟩
theorem tw8690868907838749842:True:=⟨⟩
theorem tw13760063397352834320:True:=⟨⟩
theorem tw11106329957643581888:True:=⟨⟩
theorem tw13985385151198247193:True:=⟨⟩
theorem tw3893457990377941229:True:=⟨⟩
theorem tw17585265850591145333:True:=⟨⟩
theorem tw15798006788906077466:True:=⟨⟩
theorem tw15778262575459841050:True:=⟨⟩
theorem tw7998411191912318714:True:=⟨⟩
theorem tw12290651085026130538:True:=⟨⟩
theorem tw13591321571322351119:True:=⟨⟩
theorem tw5380521113090667801:True:=⟨⟩
theorem tw340284410000972206:True:=⟨⟩
theorem tw14375656795944452544:True:=⟨⟩
theorem tw13419396821432975192:True:=⟨⟩
theorem tw5280075862275731565:True:=⟨⟩
theorem tw15158202777896114514:True:=⟨⟩
theorem tw3838182724146308593:True:=⟨⟩
theorem tw17085989060206226616:True:=⟨⟩
theorem tw433473891785543960:True:=⟨⟩
theorem tw16691200000379333773:True:=⟨⟩
theorem tw4080894671906246169:True:=⟨⟩
theorem tw2773886267683543350:True:=⟨⟩
theorem tw9064139485342474392:True:=⟨⟩
theorem tw14392754343067076872:True:=⟨⟩
theorem tw11677270291621738907:True:=⟨⟩
theorem tw3950983977330875798:True:=⟨⟩
theorem tw14223545963950226192:True:=⟨⟩
theorem tw10066350010693125094:True:=⟨⟩
theorem tw5585982921277236243:True:=⟨⟩
theorem tw7301888829521769179:True:=⟨⟩
theorem tw16899380739239019623:True:=⟨⟩
theorem tw16650140548943264330:True:=⟨⟩
theorem tw15724808228293608557:True:=⟨⟩
theorem tw11062824527024901749:True:=⟨⟩
theorem tw13933623841180173931:True:=⟨⟩
theorem tw14885181693328025388:True:=⟨⟩
theorem tw5992762367340205171:True:=⟨⟩
theorem tw18287260103179009014:True:=⟨⟩
theorem tw10186247804598814564:True:=⟨⟩
theorem tw12104074440669466204:True:=⟨⟩
theorem tw11615685772815149388:True:=⟨⟩
theorem tw5119429074860046790:True:=⟨⟩
theorem tw8286083233043845715:True:=⟨⟩
theorem tw7225158269996099912:True:=⟨⟩
theorem tw17698010773235042360:True:=⟨⟩
theorem tw13313976254510729621:True:=⟨⟩
theorem tw12892479020871933291:True:=⟨⟩
theorem tw6021761736647197208:True:=⟨⟩
theorem tw15432273656878407420:True:=⟨⟩
theorem tw10172271513845193197:True:=⟨⟩
theorem tw14975968089607158713:True:=⟨⟩
theorem tw16710886274935423541:True:=⟨⟩
theorem tw6649644678472858888:True:=⟨⟩
theorem tw13895045309631432697:True:=⟨⟩
theorem tw7031974009417252701:True:=⟨⟩
theorem tw3022563660529705668:True:=⟨⟩
theorem tw4406987860023121179:True:=⟨⟩
theorem tw10726610784139296283:True:=⟨⟩
theorem tw5580435118892845824:True:=⟨⟩
theorem tw4930163381998393457:True:=⟨⟩
theorem tw13642423018783721249:True:=⟨⟩
theorem tw8267929121354696045:True:=⟨⟩
theorem tw9857454741499743411:True:=⟨⟩
theorem tw13041995465508666495:True:=⟨⟩
theorem tw12437895087447297353:True:=⟨⟩
theorem tw16916689610705666975:True:=⟨⟩
theorem tw3782632877757002838:True:=⟨⟩
theorem tw9655325692648880670:True:=⟨⟩
theorem tw16081776831939300201:True:=⟨⟩
theorem tw7189917609911455529:True:=⟨⟩
theorem tw10322879353131181438:True:=⟨⟩
theorem tw10657907985265318432:True:=⟨⟩
theorem tw15204960795966051933:True:=⟨⟩
theorem tw631203042993448732:True:=⟨⟩
theorem tw15696331552470339442:True:=⟨⟩
theorem tw10662199691078780581:True:=⟨⟩
theorem tw10304802208330040414:True:=⟨⟩
theorem tw3162188584224393364:True:=⟨⟩
theorem tw9700804026946541483:True:=⟨⟩
theorem tw12910670504127642840:True:=⟨⟩
theorem tw6019785088327291715:True:=⟨⟩
theorem tw16202024001067676894:True:=⟨⟩
theorem tw4319854416026820553:True:=⟨⟩
theorem tw4565991305692884367:True:=⟨⟩
theorem tw1689946399800637449:True:=⟨⟩
theorem tw3858288910725473044:True:=⟨⟩
theorem tw13085736593950699292:True:=⟨⟩
theorem tw11552282258371264248:True:=⟨⟩
theorem tw10585224804955269947:True:=⟨⟩
theorem tw10640002901025653530:True:=⟨⟩
theorem tw16574817325031898356:True:=⟨⟩
theorem tw2615209358403796003:True:=⟨⟩
theorem tw2515864759003013322:True:=⟨⟩
theorem tw13604271552222747309:True:=⟨⟩
theorem tw13030981288617134399:True:=⟨⟩
theorem tw7773444059895911407:True:=⟨⟩
theorem tw13920832833108759744:True:=⟨⟩
theorem tw8490379211222929015:True:=⟨⟩
theorem tw18290555969192507346:True:=⟨⟩
theorem tw715510060350665852:True:=⟨⟩
theorem tw7425770988740006086:True:=⟨⟩
theorem tw11731766678260724254:True:=⟨⟩
theorem tw15145615831155942068:True:=⟨⟩
theorem tw16964019980430901675:True:=⟨⟩
theorem tw2665828530340602467:True:=⟨⟩
theorem tw4437424242775353038:True:=⟨⟩
theorem tw8256516634026749433:True:=⟨⟩
theorem tw1913505054668114096:True:=⟨⟩
theorem tw7682999943689984634:True:=⟨⟩
theorem tw12206434031917424098:True:=⟨⟩
theorem tw4288300706204876005:True:=⟨⟩
theorem tw4359821630504356999:True:=⟨⟩
theorem tw2153536244592637388:True:=⟨⟩
theorem tw18268961629824607015:True:=⟨⟩
theorem tw4004815127266728627:True:=⟨⟩
theorem tw5589808912947980525:True:=⟨⟩
theorem tw5741686728958082907:True:=⟨⟩
theorem tw13364118851982918273:True:=⟨⟩
theorem tw841766433205092628:True:=⟨⟩
theorem tw886133630279478378:True:=⟨⟩
theorem tw15407376853540850026:True:=⟨⟩
theorem tw8900754411799459634:True:=⟨⟩
theorem tw391199404472716635:True:=⟨⟩
theorem tw12756172719155120863:True:=⟨⟩
theorem tw18247994291827332696:True:=⟨⟩
theorem tw8060164573562306423:True:=⟨⟩
theorem tw9793919945471492434:True:=⟨⟩
theorem tw1346236377865045522:True:=⟨⟩
theorem tw8932958562264219109:True:=⟨⟩
theorem tw16971249979625441530:True:=⟨⟩
theorem tw9036134137849927342:True:=⟨⟩
theorem tw4521022716439280863:True:=⟨⟩
theorem tw10074275321049424091:True:=⟨⟩
theorem tw14015040213854790155:True:=⟨⟩
theorem tw4044244907436086736:True:=⟨⟩
theorem tw2890644101508382179:True:=⟨⟩
theorem tw419719621075204842:True:=⟨⟩
theorem tw17756810856774465645:True:=⟨⟩
theorem tw1080677697801577461:True:=⟨⟩
theorem tw18299663770291300676:True:=⟨⟩
theorem tw11766024102868952437:True:=⟨⟩
theorem tw3008018130969083278:True:=⟨⟩
theorem tw2633996236484362461:True:=⟨⟩
theorem tw15299042158491355158:True:=⟨⟩
theorem tw11302866923256352732:True:=⟨⟩
theorem tw13609879471212161156:True:=⟨⟩
theorem tw2893440138095217122:True:=⟨⟩
theorem tw1183217230386195786:True:=⟨⟩
theorem tw5045552791785385077:True:=⟨⟩
theorem tw1279255529707680658:True:=⟨⟩
theorem tw7774152679140958385:True:=⟨⟩
theorem tw14205291044378620461:True:=⟨⟩
theorem tw6186562367043081049:True:=⟨⟩
theorem tw14444931790507428801:True:=⟨⟩
theorem tw4863688576563049798:True:=⟨⟩
theorem tw4013966184206445734:True:=⟨⟩
theorem tw2208203208573268513:True:=⟨⟩
theorem tw1293968584998765337:True:=⟨⟩
theorem tw8115924482133412427:True:=⟨⟩
theorem tw16357731264246047727:True:=⟨⟩
theorem tw3311758331040102077:True:=⟨⟩
theorem tw5838052655758095627:True:=⟨⟩
theorem tw16413049994715227514:True:=⟨⟩
theorem tw4230646368253655054:True:=⟨⟩
theorem tw17390640363330331688:True:=⟨⟩
theorem tw2806971160865187798:True:=⟨⟩
theorem tw9562987396037175063:True:=⟨⟩
theorem tw7425831345473343924:True:=⟨⟩
theorem tw11348927874489969533:True:=⟨⟩
theorem tw301398177805300755:True:=⟨⟩
theorem tw6516436160323365155:True:=⟨⟩
theorem tw9518181717639576434:True:=⟨⟩
theorem tw15585110053259962241:True:=⟨⟩
theorem tw16687069052466719613:True:=⟨⟩
theorem tw11466131089334496094:True:=⟨⟩
theorem tw883828873374818927:True:=⟨⟩
theorem tw1149736129414317072:True:=⟨⟩
theorem tw5303486211012886491:True:=⟨⟩
theorem tw4641957103514814105:True:=⟨⟩
theorem tw13347902085152611168:True:=⟨⟩
theorem tw14742735854828533758:True:=⟨⟩
theorem tw5821543714789246571:True:=⟨⟩
theorem tw16222688405543789472:True:=⟨⟩
end PySem.W.Fast
open PySem PySem.W PyProof.Rows
set_option maxRecDepth 100000 in
set_option maxHeartbeats 0 in
theorem PySem.Challenge.cw_flaglocker_k60_whole_said_and_seen_holds : PySem.Challenge.rw_flaglocker_k60_whole_said_and_seen.Holds := by
  w_on; o_law; k_head; (case hw => w_witness2)
  k_fill
  refine Mine.walk (l:=PySem.Challenge.rw_flaglocker_k60_whole_said_and_seen) rfl rfl ?hd2 ?hno (fun w h Y => PySem.W.km_in_of Y) ?F
  case hd2 => kernel_rfl!
  case hno => intro w; kernel_rfl!
  case F =>
    intro w mg fa h c Pt KX G hmg TH
    apply Mine.all_mk KX G hmg TH
    all_goals first | exact ⟨by k_is,_,_,_,_,_,_,_,_,_,by k_is,by k_is,by k_is⟩ | exact ⟨by k_is,by k_is,_,_,_,_,_,_,_,_,_,by k_is,by k_is,by k_is⟩ | k_is | kernel_rfl! | (constructor <;> first | k_is | k_exc | kts_exm | kernel_rfl!) | exact ⟨rfl,⟨_,rfl⟩,⟨_,rfl⟩,rfl,⟨_,rfl⟩,⟨_,rfl⟩,rfl,⟨_,rfl⟩,⟨_,rfl⟩,rfl,⟨_,rfl⟩,⟨_,rfl⟩,rfl,⟨_,rfl⟩,⟨_,rfl⟩,trivial⟩
