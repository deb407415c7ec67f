import PyProof.Rows.All
import Wide.All
import OpenK.AllK
import Wide.FinOn
import Lean
import PyProof.EqAt
import PyProof.EqKinds
import PyProof.TupleCall
import PySem.Challenge.RW_flaglocker_k56_deeds_refused
set_option Elab.async false
set_option compiler.extract_closed false
set_option linter.all false
set_option maxHeartbeats 4000000
set_option maxRecDepth 100000
abbrev Q0:=PySem.Value->PySem.Shared->Prop
abbrev Q2:=List (PySem.Addr × PySem.Obj)
abbrev Q3:=List (Option (List Nat))
abbrev Q4:=PySem.Str->Option PySem.Value
abbrev Q5:=List (List Nat)
abbrev Aa:=@List.getElem?_eq_getElem
abbrev Ab:=@List.length_map
abbrev Ac:=@List.getElem?_eq_some_iff
abbrev Ad:=@List.getD_eq_getElem?_getD
abbrev Ae:=@PySem.wpAny_bind
abbrev Af:=@List.length_append
abbrev Ag:=@List.getElem?_map
abbrev Ah:=@PySem.Heap.get?_push_of_some
abbrev Ai:=@Nat.le_refl
abbrev Aj:=@List.mem_cons_self
abbrev Ak:=@List.mem_cons_of_mem
abbrev Al:=@List.mem_singleton
abbrev Am:=@List.map_append
abbrev An:=@Bool.false_ne_true
abbrev Ao:=@List.mem_of_getElem?
abbrev Ap:=@decide_eq_true
abbrev Aq:=@PySem.wpAny_pure
abbrev Ar:=@List.getElem?_append_left
abbrev As:=@decide_eq_false
abbrev Au:=@PySem.Heap.lt_size
abbrev Av:=@List.getElem?_append_right
abbrev Aw:=@List.map_cons
abbrev Ax:=@List.size_toArray
abbrev Ay:=@PySem.Heap.get?_push_size
abbrev Az:=@of_decide_eq_true
abbrev Ba:=@List.length_cons
abbrev Bb:=@List.mem_cons
abbrev Bc:=@List.mem_append_right
abbrev Bd:=@List.mem_map
abbrev Be:=@List.take_of_length_le
abbrev Bf:=@Nat.lt_of_lt_of_le
abbrev Bg:=@PySem.F.plainAttrs_list
abbrev Bh:=@List.take_add_one
abbrev Bi:=@Nat.le_trans
abbrev Bj:=@List.append_nil
abbrev Bk:=@List.getElem_mem
abbrev Bl:=@Nat.ne_of_lt
abbrev Bm:=@of_decide_eq_false
abbrev Bo:=@Option.some.inj
abbrev Bp:=@List.mem_append
abbrev Bq:=@PySem.PassesOwn.never
abbrev Br:=@List.filterMap_append
abbrev Bs:=@Bool.eq_false_iff
abbrev Bt:=@List.length_take
abbrev Bu:=@List.mem_iff_getElem
abbrev Bv:=@List.all_eq_true
abbrev Bw:=@PySem.F.slot_dict_get
abbrev Bx:=@Int.emod_nonneg
abbrev By:=@List.mem_range
abbrev Bz:=@Option.map_eq_some_iff
abbrev Ca:=@List.map_map
abbrev Cb:=@Int.emod_lt_of_pos
abbrev Cc:=@PySem.wpAny_loadPart'
abbrev Cd:=@List.range_succ
abbrev Ce:=@List.length_range
abbrev Cf:=@List.length_drop
abbrev Cg:=@List.take_length
abbrev Ci:=@List.filterMap_cons_some
abbrev Cj:=@PySem.F.excBase_ValueError
abbrev Ck:=@decide_eq_true_iff
abbrev Cm:=@PySem.F.plainAttrs_str
abbrev Co:=@List.mem_append_left
abbrev Cp:=@List.filterMap_cons_none
abbrev Cq:=@PySem.wpAny_mono
abbrev Cr:=@List.filterMap_nil
abbrev Cs:=@PySem.Heap.get?_update_other
abbrev Ct:=@List.flatten_cons
abbrev Cu:=@PySem.wpAny_holding
abbrev Cv:=@List.length_filterMap_le
abbrev Cw:=@beq_eq_false_iff_ne
abbrev Cy:=@List.nodup_cons
abbrev Cz:=@Nat.add_sub_cancel_left
abbrev Da:=@Nat.zero_le
abbrev Dc:=@List.length_set
abbrev De:=@List.replicate_succ
abbrev Df:=@PyProof.Rows.callWith_type1
abbrev Dg:=@List.mem_filterMap
abbrev Dh:=@PySem.wpAny_Call_Name_kw
abbrev Di:=@Array.getElem?_eq_some_iff
abbrev Dj:=@List.getElem?_set_self
abbrev Dk:=@List.lookup_cons
abbrev Dm:=@PySem.mem_of_lookup
abbrev Dn:=@List.length_replicate
abbrev Do:=@PySem.F.type_dict_get
abbrev Dp:=@PySem.F.slot_list_extend
abbrev Dq:=@PySem.F.type_list_extend
abbrev Dr:=@List.getElem?_set_ne
abbrev Ds:=@congrArg
abbrev Dt:=@PySem.F.slot_list_index
abbrev Du:=@PySem.StrLaws.glued_eq_join
abbrev Dv:=@PySem.Str.length_append
abbrev Dw:=@Array.getElem?_toList
abbrev Dx:=@Bool.and_eq_true
abbrev Dy:=@decide_eq_decide
abbrev Dz:=@Nat.lt_irrefl
abbrev Ea:=@Option.isSome_iff_exists
abbrev Eb:=@PySem.F.slot_list_append
abbrev Ec:=@PySem.F.type_list_append
abbrev Ed:=@PySem.codeAny_call_builtin
abbrev Ee:=@List.getElem_toArray
abbrev Ef:=@PySem.wpAny_typeNameOfWhole_keyiter
abbrev Eg:=@PySem.wpAny_pyIter_list
abbrev Eh:=@PySem.F.slot_dict_keyiterator_next
abbrev Ei:=@PySem.codeAny_mono
abbrev Ej:=@PySem.F.entry_dict_get
abbrev Ek:=@Nat.sub_self
abbrev El:=@List.map_take
abbrev Em:=@beq_self_eq_true
abbrev En:=@List.countP_cons
abbrev Eo:=@Nat.min_eq_right
abbrev Ep:=@PySem.wpAny_call
abbrev Er:=@PySem.W.callWith_K
abbrev Et:=@PySem.tupleKind_room_in1
abbrev Eu:=@List.mem_filter
abbrev Ew:=@PySem.wpAny_passesOwn
abbrev Ey:=@Option.map_some
abbrev Ez:=@Nat.min_eq_left
abbrev Fa:=@List.map_drop
abbrev Fb:=@List.filterMap_cons
abbrev Fc:=@Int.toNat_of_nonneg
abbrev Fd:=@List.map_congr_left
abbrev Fe:=@List.flatMap_append
abbrev Ff:=@PySem.wpAny_getItem_str_slice
abbrev Fg:=@Nat.le_add_right
abbrev Fh:=@List.eq_nil_of_length_eq_zero
abbrev Fi:=@PySem.call_meets
abbrev Fj:=@PySem.Calls.callWith_builtin
abbrev Fk:=@List.of_mem_zip
abbrev Fl:=@PySem.wpAny_standAt
abbrev Fm:=@List.sum_cons
abbrev Fn:=@PySem.W.methodCall_KW
abbrev Fo:=@List.getElem?_zipWith
abbrev Fp:=@PySem.wpAny_truthy_bool
abbrev Fq:=@PySem.wpAny_loadPart_at
abbrev Fs:=@Int.toNat_natCast
abbrev Ft:=@PySem.Heap.get?_none_of_le
abbrev Fu:=@PySem.Heap.size_push
abbrev Fv:=@Bool.and_false
abbrev Fw:=@PySem.Calls.evalArgs_plain
abbrev Fx:=@PySem.Around.under_plainId
abbrev Fy:=@List.getElem_inj
abbrev Fz:=@Nat.ne_of_gt
abbrev Ga:=@PySem.call_meetsIn
abbrev Gb:=@PySem.F.args_list_index_2
abbrev Gc:=@List.mem_or_eq_of_mem_set
abbrev Gd:=@Array.length_toList
abbrev Ge:=@Bool.true_and
abbrev Gf:=@PySem.F.entry_list_index
abbrev Gg:=@Bool.eq_iff_iff
abbrev Gh:=@PySem.codeAny_builtin
abbrev Gi:=@beq_iff_eq
abbrev Gj:=@List.filterMap_map
abbrev Gk:=@List.filter_append
abbrev Gm:=@PySem.sizeLine_eq
abbrev Gp:=@List.getElem?_replicate
abbrev Gq:=@PySem.F.args_dict_get_2
abbrev Gr:=@PySem.F.type_list_index
abbrev Gu:=@PySem.W.cellsFrom_some
abbrev Gv:=@List.take_sublist
abbrev Gw:=@List.append_assoc
abbrev Gx:=@PySem.wpAny_Call_method_late
abbrev Gy:=@PySem.wpAny_newObj_type
abbrev Gz:=@PySem.wpAny_pyIter_enum
abbrev Ha:=@List.all_map
abbrev Hb:=@List.drop_eq_nil_of_le
abbrev He:=@List.take_zero
abbrev Hf:=@List.nodup_append
abbrev Hh:=@PySem.F.slot_str_split
abbrev Hi:=@PySem.F.type_str_split
abbrev Hj:=@PySem.wpAny_call_entry
abbrev Hk:=@List.any_eq_true
abbrev Hl:=@List.mem_flatMap
abbrev Hm:=@List.getElem_map
abbrev Hn:=@List.any_cons
abbrev Ho:=@PySem.wpAny_attempt
abbrev Hq:=@Int.le_refl
abbrev Hr:=@List.map_nil
abbrev Ht:=@LawfulBEq.eq_of_beq
abbrev Hv:=@PySem.typeIs_str
namespace L2
open PySem PySem.Spec PyProof.Rows
variable {A:Around}{C a b dx:Addr}{E Q:Q0}{K:W.Frag}{M:Model}{N ps:List Str}{P:Program}{body:List Stmt}{ch fp:List Addr}{e tg:Expr}{es:List Expr}{f:Value->Value->Sem Value}{h h':Heap}{i k t':Nat}{kindOf:Str->Option NameKind}{kw:List (Str×Value)}{y3:Q2}{pl:Sem Bool}{pos:Pos}{s:Shared}{u:Value}{us:List Value}{w:World}{x:Str}
abbrev Key:=Sum Int Str
def oC:Key->Value->Bool
 |.inl k,v=>Value.isInt k v
 |.inr x,v=>Value.isStrOf x v
def fJG(w:World):Key->Int
 |.inl k=>hashInt k
 |.inr x=>hashStr w x
def cD:∀ {k:Key} {v:Value},oC k v=true->(∃i t,k=Sum.inl i/\v=Value.int i t)\/(∃x t,k=Sum.inr x/\v=Value.str x t)
 |.inl i,v,h=>by
  obtain⟨t,e⟩:=Value.isInt_shape (k:=i) (v:=v) h;exact .inl ⟨i,t,rfl,e⟩
 |.inr x,v,h=>by
  obtain⟨t,e⟩:=Value.isStrOf_shape (x:=x) (v:=v) h;exact .inr ⟨x,t,rfl,e⟩
def cQ5(i:Int)(t:Tok):oC (.inl i) (.int i t)=true:=by simp[oC,Value.isInt]
def mW(x:Str)(t:Tok):oC (.inr x) (.str x t)=true:=by simp[oC,Value.isStrOf]
def eJJ(a b:Int):decide ((Sum.inl a:Key)=Sum.inl b)=(a==b):=by
 by_cases e:a=b
 ·subst e;simp
 ·have h:¬(Sum.inl a:Key)=Sum.inl b:=λq=>e (Sum.inl.inj q)
  rw[As h];exact(Cw.mpr e).symm
def eJY(a b:Str):decide ((Sum.inr a:Key)=Sum.inr b)=decide (a=b):=by
 by_cases e:a=b
 ·subst e;simp
 ·have h:¬(Sum.inr a:Key)=Sum.inr b:=λq=>e (Sum.inr.inj q)
  rw[As h,As e]
def fQG(a:Int)(b:Str):decide ((Sum.inl a:Key)=Sum.inr b)=false:=As (λq=>nomatch q)
def eJD(a:Str)(b:Int):decide ((Sum.inr a:Key)=Sum.inl b)=false:=As (λq=>nomatch q)
def bK(prog:Program)(w:World):PySem.KeyKind prog w Key where
 is:=oC
 hash:=fJG w
 inj:=λv a b ha hb=>by
  rcases cD ha with⟨i,t,rfl,rfl⟩|⟨x,t,rfl,rfl⟩
  ·rcases cD hb with⟨j,u,rfl,e⟩|⟨y,u,rfl,e⟩
   ·injection e with e1 _;rw[e1]
   ·exact nomatch e
  ·rcases cD hb with⟨j,u,rfl,e⟩|⟨y,u,rfl,e⟩
   ·exact nomatch e
   ·injection e with e1 _;rw[e1]
 byValue:=λk v h=>by
  rcases cD h with⟨i,t,rfl,rfl⟩|⟨x,t,rfl,rfl⟩ <;> rfl
 pyHash:=λhv h=>by
  rcases cD hv with⟨i,t,rfl,rfl⟩|⟨x,t,rfl,rfl⟩
  ·exact wpAny_pyHash_int h
  ·exact wpAny_pyHash_str h
 eqBool:=λhu hv h=>by
  rcases cD hu with⟨i,t,rfl,rfl⟩|⟨x,t,rfl,rfl⟩
  ·rcases cD hv with⟨j,u,rfl,rfl⟩|⟨y,u,rfl,rfl⟩
   ·rw[eJJ]at h;exact wpAny_eqBool_int h
   ·rw[fQG]at h;exact SeqAt.EqAt.int_str i t y u _ _ _ _ h
  ·rcases cD hv with⟨j,u,rfl,rfl⟩|⟨y,u,rfl,rfl⟩
   ·rw[eJD]at h;exact SeqAt.EqAt.str_int x t j u _ _ _ _ h
   ·rw[eJY]at h;exact wpAny_eqBool_str h
 «strs» := λk x t v h=>by
  rcases cD h with⟨i,u,rfl,e⟩|⟨y,u,rfl,e⟩
  ·exact nomatch e
  ·injection e with e1 _
   subst e1;cases v<;>rfl
def aZ7(prog:Program)(w:World)(i:Int)(t:Tok):(bK prog w).is (.inl i) (.int i t)=true:=cQ5 i t
def aJG(prog:Program)(w:World)(x:Str)(t:Tok):(bK prog w).is (.inr x) (.str x t)=true:=mW x t
inductive V where
 |non|bl (b:Bool)|int (i:Int)|str (x:Str)|byt (b:Array UInt8)|flt (b:UInt64)|ref (a:Addr)|ty (n:String)
 deriving DecidableEq
variable {v:V}{xs:List V}
def RelV:V->Value->Prop
 |.non,u=>u=Value.none
 |.bl b,u=>u=Value.bool b
 |.int i,u=>∃t,u=Value.int i t
 |.str x,u=>∃t,u=Value.str x t
 |.byt b,u=>∃t,u=Value.bytes b t
 |.flt b,u=>∃t,u=Value.float b t
 |.ref a,u=>u=Value.ref a
 |.ty n,u=>u=Value.type n
abbrev Vals:List V->List Value->Prop:=Paired RelV
def Vals.length(r:Vals xs us):xs.length=us.length:=Paired.length r
def Vals.get:∀ {xs:List V} {us:List Value} {i:Nat} {x:V},Vals xs us->xs[i]?=some x->∃u,us[i]?=some u/\RelV x u
 |_,_,_,_,.nil,e=>by simp at e
 |_,_,0,_,.cons r _,e=>by simp at e;subst e;exact⟨_,rfl,r⟩
 |_,_,i+1,x,.cons _ t,e=>by
  obtain⟨u,h1,h2⟩:=Vals.get (i:=i) (x:=x) t (by simpa using e)
  exact⟨u,by simpa using h1,h2⟩
def Vals.set{x:V}(r:RelV x u):∀ {xs:List V} {us:List Value} (i:Nat),Vals xs us->Vals (xs.set i x) (us.set i u)
 |_,_,_,.nil=>.nil
 |_,_,0,.cons _ t=>.cons r t
 |_,_,i+1,.cons q t=>.cons q (Vals.set r i t)
def Vals.append:∀ {xs ys:List V} {us ws:List Value},Vals xs us->Vals ys ws->Vals (xs++ys) (us++ws)
 |_,_,_,_,.nil,s=>s
 |_,_,_,_,.cons r t,s=>.cons r (Vals.append t s)
def Vals.take:∀ {xs:List V} {us:List Value} (n:Nat),Vals xs us->Vals (xs.take n) (us.take n)
 |_,_,0,_=>.nil
 |_,_,_+1,.nil=>.nil
 |_,_,n+1,.cons r t=>.cons r (Vals.take n t)
def Vals.drop:∀ {xs:List V} {us:List Value} (n:Nat),Vals xs us->Vals (xs.drop n) (us.drop n)
 |_,_,0,r=>r
 |_,_,_+1,.nil=>.nil
 |_,_,n+1,.cons _ t=>Vals.drop n t
def RelO:Option V->Option Value->Prop
 |some v,some u=>RelV v u
 |none,none=>True
 |_,_=>False
def KV{κ:Type}:List (κ×V)->List (κ×Value)->Prop:=Paired λ(p:κ×V) (q:κ×Value)=>p.1=q.1/\RelV p.2 q.2
def kV:Key->V
 |.inl i=>.int i
 |.inr x=>.str x
inductive HO where
 |lst (xs:List V)
 |tup (xs:List V)
 |dK (kvs:List (Key×V))|dT (kvs:List (List Key×V))
 |set (S:Int->Bool) (n:Nat)
 |ins (C dx:Addr) (fs:List (Str×V))
 |own (x:Addr)
 |xd (fs:List (Str×V))
 |met (f x:Addr)
 |rng (lo hi:Int)
 |frz (o:Obj) (u:HO)
 |tbl (ps:Array Value)
 |ext (φ:Heap->Prop)
variable {o:HO}
abbrev Hp:=Addr->Option HO
variable {H:Hp}
def upd(H:Hp)(a:Addr)(o:HO):Hp:=λb=>if b=a then some o else H b
def aH:upd H a o a=some o:=by unfold upd;rw[if_pos rfl]
def aM(h:b≠a):upd H a o b=H b:=by unfold upd;rw[if_neg h]
def bZ5{u:HO}:upd (upd H a o) a u=upd H a u:=by
 funext b;unfold upd;split<;>rfl
def fXJ{u:HO}(h:H a=some o)(h':H b=some u)(d:o≠u):a≠b:=by
 intro e;subst e;rw[h]at h';exact d (Bo h')
def bM(h:H a=some o)(h':H b=none):a≠b:=by
 intro e;subst e;rw[h]at h';cases h'
section
variable (P:Program) (w:World)
def ObjOk(H:Hp)(h:Heap)(a:Addr):HO->Prop
 |.lst xs=>xs.length<=sizeLine/\∃(its:List Value) (n:Nat),Vals xs its/\h.get? a=some {cls:=.type "list",data:=.seq its.toArray n}
 |.tup xs=>xs.length<=sizeLine/\∃its:List Value,Vals xs its/\IsTup h a its.toArray
 |.dK kvs=>kvs.length<=sizeLine/\(a==sysModules)=false/\∃vs,KV kvs vs/\h.DictOf (bK P w) a vs
 | .dT kvs=>kvs.length<=sizeLine/\(a == sysModules)=false/\∃ xs:List (List Key×Addr×Value),
     Paired (λ(p:List Key×V) (q:List Key×Addr×Value)=>p.1=q.1/\H q.2.1=some (.tup (p.1.map kV))/\RelV p.2 q.2.2) kvs xs/\
     ∃o es ep,h.get? a=some o/\o.ExactDict/\o.data=.dict es ep/\es.toList=xs.map (entryOfKey (tupleKind (bK P w)))/\(xs.map (·.1)).Nodup
 |.set S n=>h.SetOf (intKind P w) a S n
 | .ins C dx fs=>H dx=some (.own a)/\fs.length<=1000/\dx≠a/\h.get? a=some (W.instObj C dx)/\
     ∃mA,h.Ns1 dx mA/\(∀f,RelO (fs.lookup f) (mA f))/\PySem.Within mA (fs.map (·.1))
 |.own _=>∃o,h.get? a=some o
 |.xd fs=>∃mA,h.Ns1 a mA/\∀f,RelO (fs.lookup f) (mA f)
 |.rng lo hi=>∃t u v,h.get? a=some {cls:=.type "range",data:=.fields #[.int lo t,.int hi u,.int 1 v]}
 |.frz o u=>h.get? a=some o/\ObjOk H h a u
 |.tbl ps=>h.get? a=some {cls:=.none,data:=.fields ps}
 |.met f x=>h.get? a=some (W.methodObj (.ref f) (.ref x))
 |.ext φ=>φ h/\(∃o,h.get? a=some o)/\∀h1 h2:Heap,φ h1->(∀o,h1.get? a=some o->h2.get? a=some o)->φ h2
def HOk(H:Hp)(h:Heap):Prop:=∀a o,H a=some o->ObjOk P w H h a o
end
section
variable {H':Hp}
def ObjOk.lt(x:ObjOk P w H h a o):a<h.objs.size:=by
 cases o with
 |lst xs=>obtain⟨_,_,_,_,e⟩:=x;exact Au e
 |tup xs=>obtain⟨_,_,_,p⟩:=x;exact p.lt
 |dK kvs=>obtain⟨_,_,_,_,o,_,_,e,_⟩:=x;exact Au e
 |dT kvs=>obtain⟨_,_,_,_,o,_,_,e,_⟩:=x;exact Au e
 |set S n=>obtain⟨o,_,_,_,e,_⟩:=x;exact Au e
 |ins C dx fs=>obtain⟨_,_,_,e,_⟩:=x;exact Au e
 |own y=>obtain⟨_,e⟩:=x;exact Au e
 |xd fs=>obtain⟨_,⟨_,_,_,e,_⟩,_⟩:=x;exact Au e
 |rng lo hi=>obtain⟨_,_,_,e⟩:=x;exact Au e
 |frz ob u=>obtain⟨e,_⟩:=x;exact Au e
 |tbl ps=>exact Au (show h.get? a=some _ from x)
 |met f y=>exact Au (show h.get? a=some _ from x)
 |ext φ=>obtain⟨_,⟨_,e⟩,_⟩:=x;exact Au e
def Paired.mapP{α β:Type}{F G:α->β->Prop}:∀ {l₁:List α} {l₂:List β},Paired F l₁ l₂->(∀a b,F a b->G a b)->Paired G l₁ l₂
 |_,_,.nil,_=>.nil
 |_,_,.cons r t,f=>.cons (f _ _ r) (Paired.mapP t f)
def ObjOk.stay(x:ObjOk P w H h a o)(k:∀b u,(b=a\/H b=some (.own a))->h.get? b=some u->h'.get? b=some u)(ho:∀b,H b=some (.own a)->H' b=some (.own a))(ht:∀b xs,H b=some (.tup xs)->H' b=some (.tup xs)):ObjOk P w H' h' a o:=by
 induction o with
 |lst xs=>obtain⟨z,its,n,r,e⟩:=x;exact⟨z,its,n,r,k _ _ (.inl rfl) e⟩
 |tup xs=>obtain⟨z,its,r,ob,e,c⟩:=x;exact⟨z,its,r,ob,k _ _ (.inl rfl) e,c⟩
 |dK kvs=>obtain⟨z,y,vs,r,ob,es,ep,e,c⟩:=x;exact⟨z,y,vs,r,ob,es,ep,k _ _ (.inl rfl) e,c⟩
 |dT kvs=>
  obtain⟨z,y,xs,r,ob,es,ep,e,c⟩:=x;exact⟨z,y,xs,Paired.mapP r λp q z=>⟨z.1,ht _ _ z.2.1,z.2.2⟩,ob,es,ep,k _ _ (.inl rfl) e,c⟩
 |set S n=>obtain⟨ob,es,ep,t,e,c⟩:=x;exact⟨ob,es,ep,t,k _ _ (.inl rfl) e,c⟩
 |ins C dx fs=>
  obtain⟨d,z,ne,e,mA,⟨od,es,ep,e2,c⟩,r⟩:=x;exact⟨ho _ d,z,ne,k _ _ (.inl rfl) e,mA,⟨od,es,ep,k _ _ (.inr d) e2,c⟩,r⟩
 |own y=>obtain⟨ob,e⟩:=x;exact⟨ob,k _ _ (.inl rfl) e⟩
 |xd fs=>obtain⟨mA,⟨od,es,ep,e,c⟩,r⟩:=x;exact⟨mA,⟨od,es,ep,k _ _ (.inl rfl) e,c⟩,r⟩
 |rng lo hi=>obtain⟨t,u,v,e⟩:=x;exact⟨t,u,v,k _ _ (.inl rfl) e⟩
 |frz ob u ih=>obtain⟨e,q⟩:=x;exact⟨k _ _ (.inl rfl) e,ih q⟩
 |tbl ps=>
  have e:h.get? a=some {cls:=.none,data:=.fields ps}:=x
  show h'.get? a=some {cls:=.none,data:=.fields ps}
  exact k a _ (.inl rfl) e
 |met f y=>
  have e:h.get? a=some (W.methodObj (.ref f) (.ref y)):=x
  show h'.get? a=some (W.methodObj (.ref f) (.ref y))
  exact k a _ (.inl rfl) e
 |ext φ=>obtain⟨p,⟨o,e⟩,st⟩:=x;exact⟨st _ _ p λo q=>k _ _ (.inl rfl) q,⟨o,k _ _ (.inl rfl) e⟩,st⟩
def HOk.lt(x:HOk P w H h)(e:H a=some o):a<h.objs.size:=(x a o e).lt
def HOk.fresh(x:HOk P w H h)(e:h.objs.size<=a):H a=none:=by
 cases q:H a with
 |none=>rfl
 |some u=>exact absurd (Bf (x.lt q) e) (Dz _)
def HOk.kept(x:HOk P w H h)(k:∀b u,h.get? b=some u->h'.get? b=some u):HOk P w H h':=λa o e=>
 (x a o e).stay (λb u _ q=>k b u q) (λ_ q=>q) λ_ _ q=>q
def HOk.laid(x:HOk P w H h)(k:∀b u,h.get? b=some u->h'.get? b=some u)(hp:h.objs.size<=a)(new:ObjOk P w (upd H a o) h' a o):HOk P w (upd H a o) h':=λb u e=>by
 have hn:=x.fresh hp
 by_cases hb:b=a
 ·subst hb;rw[aH]at e;cases e;exact new
 ·rw[aM hb]at e;exact(x b u e).stay (λc v _ q=>k c v q) (λc q=>by rw[aM (bM q hn)];exact q) λc xs q=>by rw[aM (bM q hn)];exact q
end
def Rd(H:Hp)(a:Addr)(u:HO):Prop:=H a=some u\/∃o,H a=some (.frz o u)
def Rd.ok{u:HO}(r:Rd H a u)(x:HOk P w H h):ObjOk P w H h a u:=by
 rcases r with r|⟨o,r⟩
 ·exact x a u r
 ·obtain⟨_,q⟩:=x a _ r;exact q
def Mut:Option HO->Prop
 |some (.lst _)=>True
 |some (.dK _)=>True
 |some (.dT _)=>True
 |some (.set _ _)=>True
 |some (.ins _ _ _)=>True
 |some (.ext _)=>True
 |_=>False
section
variable {x e:Addr} {o':HO}
def HOk.write(ok:HOk P w H h)(mu:Mut (H x))(he:e=x\/H e=some (.own x))(k:∀b u,b≠e->h.get? b=some u->h'.get? b=some u)(heo:∃u,h'.get? e=some u)(new:ObjOk P w (upd H x o') h' x o'):HOk P w (upd H x o') h':=λb u q=>by
 have nown:∀c y,H c=some (.own y)->c≠x:=λc y r z=>by subst z;rw[r]at mu;exact mu
 have ntup:∀c xs,H c=some (.tup xs)->c≠x:=λc xs r z=>by subst z;rw[r]at mu;exact mu
 by_cases hb:b=x
 ·subst hb;rw[aH]at q;cases q;exact new
 ·rw[aM hb]at q;by_cases hbe:b=e
  ·have q':H b=some (.own x):=by
    rcases he with z|z
    ·exact absurd (hbe.trans z) hb
    ·rw[hbe];exact z
   rw[q]at q';cases q';obtain⟨v,hv⟩:=heo;exact⟨v,by rw[hbe];exact hv⟩
  ·refine(ok b u q).stay (λc v hc r=>k c v ?_ r) (λc r=>by rw[aM (nown c b r)];exact r) λc xs r=>by rw[aM (ntup c xs r)];exact r
   rcases hc with rfl|hc
   ·exact hbe
   ·rintro rfl;rcases he with z|z
    ·exact nown c b hc z
    ·rw[hc]at z;cases z;exact hb rfl
end
structure Un (fs ex:List Addr) (H H':Hp) (h h':Heap):Prop where
 keep:∀b o,h.get? b=some o->H b=none->b∉fs->b∉ex->h'.get? b=some o
 slot:∀b o,h.get? b=some o->H b=none->b∈fs->b∉ex->∃sl,h'.get? b=some {o with slots:=sl}
 free:∀b o,h.get? b=some o->H b=none->b∉ex->H' b=none
 there:∀b o,h.get? b=some o->b∉ex->∃o',h'.get? b=some o'
 tups:∀b xs,H b=some (.tup xs)->H' b=some (.tup xs)
 frzs:∀b o u,H b=some (.frz o u)->H' b=some (.frz o u)
 tbls:∀b ps,H b=some (.tbl ps)->∃more,H' b=some (.tbl (ps++more))
section
variable {fs fs' ex ex':List Addr} {H1 H2:Hp} {h1 h2:Heap} {x e:Addr}
def Un.any(u:Un fs ex H H1 h h1){ob:Obj}(q:h.get? b=some ob)(n:H b=none)(hx:b∉ex):∃sl,h1.get? b=some {ob with slots:=sl}:=by
 by_cases hb:b∈fs
 ·exact u.slot b ob q n hb hx
 ·exact⟨ob.slots,u.keep b ob q n hb hx⟩
def Un.trans(a:Un fs ex H H1 h h1)(b:Un fs ex H1 H2 h1 h2):Un fs ex H H2 h h2 where
 keep:=λc ob q n hc hx=>b.keep c ob (a.keep c ob q n hc hx) (a.free c ob q n hx) hc hx
 slot:=λc ob q n hc hx=>by
  obtain⟨sl,e1⟩:=a.slot c ob q n hc hx;obtain⟨sl',e2⟩:=b.slot c _ e1 (a.free c ob q n hx) hc hx;exact⟨sl',e2⟩
 free:=λc ob q n hx=>by
  obtain⟨o',e1⟩:=a.there c ob q hx;exact b.free c o' e1 (a.free c ob q n hx) hx
 there:=λc ob q hx=>by
  obtain⟨o',e1⟩:=a.there c ob q hx;exact b.there c o' e1 hx
 tups:=λc xs q=>b.tups c xs (a.tups c xs q)
 frzs:=λc ob xs q=>b.frzs c ob xs (a.frzs c ob xs q)
 tbls:=λc ps q=>by
  obtain⟨m1,e1⟩:=a.tbls c ps q;obtain⟨m2,e2⟩:=b.tbls c _ e1;exact⟨m1++m2,by rw[e2,Array.append_assoc]⟩
def Un.kept(k:∀b u,h.get? b=some u->h'.get? b=some u):Un fs ex H H h h':=
 ⟨λb ob q _ _ _=>k b ob q,λb ob q _ _ _=>⟨ob.slots,k b ob q⟩,λ_ _ _ n _=>n,λb ob q _=>⟨ob,k b ob q⟩,λ_ _ q=>q,λ_ _ _ q=>q,λ_ ps q=>⟨#[],by rw[q];simp⟩⟩
def Un.refl:Un fs ex H H h h:=Un.kept λ_ _ q=>q
def Un.laid(k:∀b u,h.get? b=some u->h'.get? b=some u)(hp:h.objs.size<=a)(hn:H a=none):Un fs ex H (upd H a o) h h' where
 keep:=λb u q _ _ _=>k b u q
 slot:=λb u q _ _ _=>⟨u.slots,k b u q⟩
 free:=λb u q n _=>by rw[aM (Bl (Bf (Au q) hp))];exact n
 there:=λb u q _=>⟨u,k b u q⟩
 tups:=λb xs q=>by rw[aM (bM q hn)];exact q
 frzs:=λb u xs q=>by rw[aM (bM q hn)];exact q
 tbls:=λb ps q=>⟨#[],by rw[aM (bM q hn),q];simp⟩
def Un.write(mu:Mut (H x))(he:e=x\/H e=some (.own x))(k:∀b u,b≠e->h.get? b=some u->h'.get? b=some u)(heo:∃u,h'.get? e=some u):Un fs ex H (upd H x o) h h':=by
 have hx:∀b,H b=none->b≠x:=λb n z=>by subst z;rw[n]at mu;exact mu
 have hb:∀b,H b=none->b≠e:=λb n z=>by
  subst z;rcases he with r|r
  ·exact hx b n r
  ·rw[n]at r;cases r
 have hm:∀b u,H b=some u->¬Mut (some u)->b≠x:=λb u q nm z=>by subst z;rw[q]at mu;exact nm mu
 refine⟨λb u q n _ _=>k b u (hb b n) q,λb u q n _ _=>⟨u.slots,k b u (hb b n) q⟩,λb u q n _=>by rw[aM (hx b n)];exact n,λb u q _=>?_,
  λb xs q=>by rw[aM (hm b _ q λz=>z)];exact q,λb u xs q=>by rw[aM (hm b _ q λz=>z)];exact q,λb ps q=>⟨#[],by rw[aM (hm b _ q λz=>z),q];simp⟩⟩
 by_cases hbe:b=e
 ·subst hbe;exact heo
 ·exact⟨u,k b u hbe q⟩
def Un.mono(u:Un fs ex H H1 h h1)(hs:∀b∈fs,b∈fs')(hx:∀b∈ex,b∈ex'):Un fs' ex' H H1 h h1:=
 ⟨λb ob q n hb he=>u.keep b ob q n (λz=>hb (hs b z)) λz=>he (hx b z),λ_ _ q n _ he=>u.any q n λz=>he (hx _ z),λb ob q n he=>u.free b ob q n λz=>he (hx b z),λb ob q he=>u.there b ob q λz=>he (hx b z),u.tups,u.frzs,u.tbls⟩
end
def trk(h:Heap)(H:Hp):List Addr:=(List.range h.objs.size).filter λa=>(H a).isSome
def yC(h:Heap)(H:Hp):Heap:=W.hideAll h (trk h H)
def cXD(h:Heap)(H:Hp):(yC h H).objs.size=h.objs.size:=W.hideAll_size _ _
def dQN{o:Obj}(e:h.get? b=some o)(n:H b=none):(yC h H).get? b=some o:=
 W.hideAll_get _ e λhm=>by
  have q:(H b).isSome=true:=(Eu.mp hm).2
  rw[n]at q;simp at q
def dJ6{o:Obj}(e:(yC h H).get? b=some o):h.get? b=some o/\H b=none:=by
 have e':h.get? b=some o:=W.of_hideAll (trk h H) e
 refine⟨e',?_⟩;cases q:H b with
 |none=>rfl
 |some x=>
  have hm:b∈trk h H:=List.mem_filter.mpr ⟨List.mem_range.mpr (Heap.lt_size e'),by simp[q]⟩
  have z:(yC h H).get? b=none:=W.hideAll_none (trk h H) hm
  rw[z]at e;cases e
def dZ7(g h:Heap)(L:Addr):List (Addr×Obj):=(List.range h.objs.size).filterMap λa=>if a=L\/(g.get? a).isSome=true then none else (h.get? a).map λo=>(a,o)
def rest(g h:Heap)(L d:Addr):List (Addr×Obj):=(dZ7 g h L).filter λp=>decide (p.1≠d)
structure Mod (K:W.Frag) (mg:Str->Option Value) (base:Heap):Prop where
 kin:K.In base
 glob:base.Ns mainGlobals mg
 blt:∃mb,base.Ns builtinsNs mb/\∀x:Str,x≠"__name__"->mb x=bootBuiltins x
 nolimit:base.NoLimit
structure Cx where
 prog:Program
 w:World
 K:W.Frag
 mg:Str->Option Value
 base:Heap
 A:Around
 N:List Str
 s₀:Shared
 H₀:Hp
 env:Env
 outer:List Env
 stack:List Env
 ex:List Addr
 fn:Str->Bool
 calm:Bool
 pn:List (Addr×Obj)
 xe:Value->Shared->Prop
variable {X:Cx}
def frs(l:List Env):List Addr:=l.filterMap (·.frame)
abbrev Cx.fs(X:Cx):List Addr:=frs X.outer
def Vis(sc:Scope)(x:Str):Prop:=sc.names.lookup x=some .local\/sc.names.lookup x=some .cell\/sc.names.lookup x=some .free
def Loc(sc:Scope)(x:Str):Prop:=sc.names.lookup x=some .local\/sc.names.lookup x=some .cell
def gQG(env:Env)(h:Heap)(m:Str->Option Value)(x:Str)(u:Value):Prop:=
 (env.kindOf x=some .local/\m x=some u)\/((env.kindOf x=some .cell\/env.kindOf x=some .free)/\∃c,env.cells.lookup x=some c/\h.IsCell c (some u))
structure Cx.Ok (X:Cx):Prop where
 mod:Mod X.K X.mg X.base
 kind:X.env.scope.kind=.function
 glob:X.env.globals=mainGlobals
 blt:X.env.builtins=builtinsNs
 above:X.s₀.heap.objs.size<=X.env.locals
 inj:∀x y c,X.env.cells.lookup x=some c->X.env.cells.lookup y=some c->x=y
 has:∀x,(X.env.kindOf x=some .cell\/X.env.kindOf x=some .free)->∃c,X.env.cells.lookup x=some c
 cab:∀x c,X.fn x=true->X.env.cells.lookup x=some c->X.s₀.heap.objs.size<=c
 hd:X.calm=true->X.A.handled=none
 frames:X.A.frames=some X.stack
 stk:X.stack=X.outer\/(X.stack=X.env::X.outer/\X.env.frame=some X.env.locals)
 exf:∀b∈X.ex,b≠X.env.locals/\∀x c,X.env.cells.lookup x=some c->c≠b
 bs:∀b o,X.base.get? b=some o->X.s₀.heap.get? b=some o/\X.H₀ b=none
 bsz:X.base.objs.size<=X.s₀.heap.objs.size
 noex:∀b o,X.base.get? b=some o->b∉X.ex
 exfs:∀b∈X.ex,b∉X.fs
 funs:X.s₀.heap.FunFrames X.base X.outer
 frf:∀b∈X.fs,X.H₀ b=none
structure Inv (X:Cx) (y3:List (Addr×Obj)) (σ:List (Option V)) (H:Hp) (s:Shared):Prop where
 ok:X.Ok
 os:s.os=X.s₀.os
 bare:AllBare s.gens
 base:Un X.fs X.ex X.H₀ H X.s₀.heap s.heap
 loc:∃m,s.heap.Ns X.env.locals m/\∀(i:Nat) (x:Str) (v:V),X.N[i]?=some x->σ[i]?=some (some v)->Vis X.env.scope x->∃u,RelV v u/\gQG X.env s.heap m x u
 cell:∀x c,X.env.cells.lookup x=some c->∃v,s.heap.IsCell c v
 free:H X.env.locals=none
 freeC:∀x c,X.env.cells.lookup x=some c->H c=none
 pin:∀p∈X.pn++y3,s.heap.get? p.1=some p.2/\H p.1=none/\p.1≠X.env.locals/\p.1∉X.fs/\∀v,p.2.data≠.cell v
 hok:HOk X.prog X.w H s.heap
 len:σ.length=X.N.length
section
variable {σ:List (Option V)} {H':Hp}
def Cx.Ok.nofr(ok:X.Ok){o:Obj}(e:X.base.get? b=some o):b∉X.fs:=λhb=>by
 have:=(ok.funs.mem hb).1
 rw[e]at this;cases this
def Inv.bs(I:Inv X y3 σ H s):∀b o,X.base.get? b=some o->s.heap.get? b=some o/\H b=none:=λb o e=>
 ⟨I.base.keep b o (I.ok.bs b o e).1 (I.ok.bs b o e).2 (I.ok.nofr e) (I.ok.noex b o e),I.base.free b o (I.ok.bs b o e).1 (I.ok.bs b o e).2 (I.ok.noex b o e)⟩
def Inv.bk(I:Inv X y3 σ H s):∀b o,X.base.get? b=some o->s.heap.get? b=some o:=λb o e=>(I.bs b o e).1
def Inv.mod(I:Inv X y3 σ H s):Mod X.K X.mg X.base:=I.ok.mod
def Inv.kIn(I:Inv X y3 σ H s):X.K.In s.heap:=I.ok.mod.kin.keeps I.bk
def Inv.fr(I:Inv X y3 σ H s):∃m,Fr X.base X.env.locals s.heap m:=
 let ⟨m,hn,_⟩:=I.loc
 ⟨m,hn,I.bk,Bi I.ok.bsz I.ok.above⟩
def Inv.lt(I:Inv X y3 σ H s):X.env.locals<s.heap.objs.size:=let ⟨_,hn,_⟩:=I.loc;hn.lt
def Inv.sz(I:Inv X y3 σ H s):X.s₀.heap.objs.size<=s.heap.objs.size:=Bi I.ok.above (Nat.le_of_lt I.lt)
def Inv.nofs(I:Inv X y3 σ H s)(h:s.heap.objs.size<=a):a∉X.fs:=λhb=>by
 obtain⟨_,o,ho,_⟩:=I.ok.funs.mem hb;exact absurd (Bf (Au ho) (Bi I.sz h)) (Dz _)
def Inv.cne(I:Inv X y3 σ H s):∀x c,X.env.cells.lookup x=some c->c≠X.env.locals:=λx c e z=>by
 obtain⟨v,o,ho,hd⟩:=I.cell x c e;obtain⟨m,⟨o',es,ep,ho',hd',_⟩,_⟩:=I.loc;rw[z,ho']at ho;cases ho;rw[hd']at hd;cases hd
def Inv.funs(I:Inv X y3 σ H s):s.heap.FunFrames X.base X.outer:=by
 have all:∀(l:List Env),(∀b∈frs l,b∈X.fs)->X.s₀.heap.FunFrames X.base l->s.heap.FunFrames X.base l:=by
  intro l;induction l with
  |nil=>intro _ _;trivial
  |cons env r ih=>
   intro hs hl;obtain⟨hk,⟨L,o,hf,hn,ho,hd⟩,hr⟩:=hl;have hL:L∈X.fs:=hs L (by unfold frs;rw[Fb,hf];exact Aj)
   obtain⟨sl,e⟩:=I.base.slot L o ho (I.ok.frf L hL) hL λz=>I.ok.exfs L z hL;exact⟨hk,⟨L,_,hf,hn,e,hd⟩,ih (λb hb=>hs b (by unfold frs;rw[Fb,hf];exact Ak _ hb)) hr⟩
 exact all X.outer (λ_ hb=>hb) I.ok.funs
def Inv.stack(I:Inv X y3 σ H s):s.heap.FunFrames X.base X.stack:=by
 rcases I.ok.stk with e|⟨e,hf⟩
 ·rw[e];exact I.funs
 ·rw[e];obtain⟨m,hn,_⟩:=I.loc;refine .cons (by rw[I.ok.kind];decide) hf hn ?_ I.funs
  exact Ft (Bi I.ok.bsz I.ok.above)
def Inv.stkSub(I:Inv X y3 σ H s):∀b∈frs X.stack,b∈X.env.locals::X.fs:=λb hb=>by
 rcases I.ok.stk with e|⟨e,hf⟩
 ·rw[e]at hb;exact Ak _ hb
 ·rw[e]at hb;unfold frs at hb;rw[Fb,hf]at hb;exact hb
def Inv.stkFree(I:Inv X y3 σ H s):∀b∈frs X.stack,H b=none:=λb hb=>by
 rcases Bb.mp (I.stkSub b hb) with e|hb
 ·rw[e];exact I.free
 ·obtain⟨_,o,ho,_⟩:=I.ok.funs.mem hb;exact I.base.free b o ho (I.ok.frf b hb) λz=>I.ok.exfs b z hb
def Inv.step{g':Array GenState}{d':Drawn}{ch:List Addr}(I:Inv X y3 σ H s)(hch:∀b∈ch,(b∈X.ex\/X.s₀.heap.objs.size<=b)/\b≠X.env.locals/\(∀x c,X.env.cells.lookup x=some c->c≠b)/\∀p∈X.pn++y3,p.1≠b)(keep:∀b o,b≠X.env.locals->b∉X.fs->b∉ch->s.heap.get? b=some o->H b=none->h'.get? b=some o)(slot:∀b o,b≠X.env.locals->b∈X.fs->b∉ch->s.heap.get? b=some o->H b=none->∃sl,h'.get? b=some {o with slots:=sl})(free:∀b o,b∉ch->s.heap.get? b=some o->H b=none->H' b=none)(there:∀b o,b∉ch->s.heap.get? b=some o->∃o',h'.get? b=some o')(tups:∀b xs,H b=some (.tup xs)->H' b=some (.tup xs))(frzs:∀b o u,H b=some (.frz o u)->H' b=some (.frz o u))(tbls:∀b ps,H b=some (.tbl ps)->∃more,H' b=some (.tbl (ps++more)))(ns:∀m,s.heap.Ns X.env.locals m->h'.Ns X.env.locals m)(hok:HOk X.prog X.w H' h')(hg:AllBare g'):Inv X y3 σ H' {s with heap:=h',gens:=g',drawn:=d',toks:=t'}:=by
 have neL:∀b o,X.s₀.heap.get? b=some o->b≠X.env.locals:=λb o e=>Bl (Bf (Au e) I.ok.above)
 have neC:∀b o,X.s₀.heap.get? b=some o->b∉X.ex->b∉ch:=λb o e hx hb=>by
  rcases (hch b hb).1 with z|z
  ·exact hx z
  ·exact absurd (Bf (Au e) z) (Dz _)
 have cellK:∀x c,X.env.cells.lookup x=some c->∀v,s.heap.IsCell c v->h'.IsCell c v:=λx c e v ⟨o,ho,hd⟩=>by
  have nch:c∉ch:=λz=>(hch c z).2.2.1 x c e rfl
  by_cases hc:c∈X.fs
  ·obtain⟨sl,q⟩:=slot c o (I.cne x c e) hc nch ho (I.freeC x c e);exact⟨_,q,hd⟩
  ·exact⟨o,keep c o (I.cne x c e) hc nch ho (I.freeC x c e),hd⟩
 refine⟨I.ok,I.os,hg,⟨λb o e n hb hx=>?_,λb o e n hb hx=>?_,λb o e n hx=>?_,λb o e hx=>?_,λb xs e=>tups b xs (I.base.tups b xs e),λb o xs e=>frzs b o xs (I.base.frzs b o xs e),λb ps e=>?_⟩,?_,λx c e=>?_,?_,λx c e=>?_,λp hp=>?_,hok,I.len⟩
 ·exact keep b o (neL b o e) hb (neC b o e hx) (I.base.keep b o e n hb hx) (I.base.free b o e n hx)
 ·obtain⟨sl,e1⟩:=I.base.slot b o e n hb hx;obtain⟨sl',e2⟩:=slot b _ (neL b o e) hb (neC b o e hx) e1 (I.base.free b o e n hx);exact⟨sl',e2⟩
 ·obtain⟨o',e1⟩:=I.base.there b o e hx;exact free b o' (neC b o e hx) e1 (I.base.free b o e n hx)
 ·obtain⟨o',e1⟩:=I.base.there b o e hx;exact there b o' (neC b o e hx) e1
 ·obtain⟨m1,e1⟩:=I.base.tbls b ps e;obtain⟨m2,e2⟩:=tbls b _ e1;exact⟨m1++m2,by rw[e2,Array.append_assoc]⟩
 ·obtain⟨m,hn,hl⟩:=I.loc;refine⟨m,ns m hn,λi x v e1 e2 e3=>?_⟩;obtain⟨u,r,l⟩:=hl i x v e1 e2 e3;refine⟨u,r,?_⟩;rcases l with l|⟨k,c,e,z⟩
  ·exact .inl l
  ·exact .inr ⟨k,c,e,cellK x c e _ z⟩
 ·obtain⟨v,z⟩:=I.cell x c e;exact⟨v,cellK x c e v z⟩
 ·obtain⟨m,⟨o,_,_,ho,_⟩,_⟩:=I.loc;exact free _ o (λz=>(hch _ z).2.1 rfl) ho I.free
 ·obtain⟨v,o,ho,hd⟩:=I.cell x c e;exact free c o (λz=>(hch c z).2.2.1 x c e rfl) ho (I.freeC x c e)
 ·obtain⟨e,n,ne,nf,d⟩:=I.pin p hp;have nch:p.1∉ch:=λz=>(hch p.1 z).2.2.2 p hp rfl
  exact⟨keep p.1 p.2 ne nf nch e n,free p.1 p.2 nch e n,ne,nf,d⟩
def Inv.un{t':Nat}(I:Inv X y3 σ H s)(u:Un X.fs [] H H' s.heap h')(hok:HOk X.prog X.w H' h'):Inv X y3 σ H' {s with heap:=h',toks:=t'}:=by
 obtain⟨m,⟨o,es,ep,ho,r⟩,_⟩:=id I.loc;obtain⟨sl,hL⟩:=u.any ho I.free (by simp)
 exact I.step (g':=s.gens) (d':=s.drawn) (ch:=[]) (λ_ z=>nomatch z) (λb o _ hb _ e n=>u.keep b o e n hb (by simp)) (λb o _ hb _ e n=>u.slot b o e n hb (by simp)) (λb o _ e n=>u.free b o e n (by simp)) (λb o _ e=>u.there b o e (by simp)) u.tups u.frzs u.tbls (λm' hm=>by
  obtain⟨o',es',ep',ho',r'⟩:=hm;rw[ho]at ho';cases ho';exact⟨_,es',ep',hL,r'⟩) hok I.bare
def Inv.call{g':Array GenState}{t':Nat}{d':Drawn}{ch:List Addr}(I:Inv X y3 σ H s)(u:Un (frs X.stack) ch H H' s.heap h')(hok:HOk X.prog X.w H' h')(hg:AllBare g')(hch:∀b∈ch,(b∈X.ex\/X.s₀.heap.objs.size<=b)/\b≠X.env.locals/\(∀x c,X.env.cells.lookup x=some c->c≠b)/\∀p∈X.pn++y3,p.1≠b):Inv X y3 σ H' {s with heap:=h',gens:=g',drawn:=d',toks:=t'}:=by
 obtain⟨m,⟨o,es,ep,ho,r⟩,_⟩:=id I.loc;obtain⟨sl,hL⟩:=u.any ho I.free λz=>(hch _ z).2.1 rfl;exact I.step (ch:=ch) hch (λb o hL hb hc e n=>u.keep b o e n (λz=>(Bb.mp (I.stkSub b z)).elim hL hb) hc) (λb o _ _ hc e n=>u.any e n hc) (λb o hc e n=>u.free b o e n hc) (λb o hc e=>u.there b o e hc) u.tups u.frzs u.tbls (λm' hm=>by
  obtain⟨o',es',ep',ho',r'⟩:=hm;rw[ho]at ho';cases ho';exact⟨_,es',ep',hL,r'⟩) hok hg
def Inv.turned{t':Nat}{it:Addr}(I:Inv X y3 σ H s)(k:∀b o,b≠it->s.heap.get? b=some o->h'.get? b=some o)(hn:H it=none)(hL:it≠X.env.locals)(h1:it∈X.ex\/X.s₀.heap.objs.size<=it)(h2:∀x c,X.env.cells.lookup x=some c->c≠it)(h3:∀p∈X.pn++y3,p.1≠it):Inv X y3 σ H {s with heap:=h',toks:=t'}:=by
 have nit:∀b u,H b=some u->b≠it:=λb u e z=>by rw[z,hn]at e;cases e
 refine I.step (g':=s.gens) (d':=s.drawn) (ch:=[it]) (λb hb=>?_) (λb o _ _ hc e _=>k b o (λz=>hc (by simp[z])) e) (λb o _ _ hc e _=>⟨o.slots,k b o (λz=>hc (by simp[z])) e⟩) (λ_ _ _ _ n=>n)
  (λb o hc e=>⟨o,k b o (λz=>hc (by simp[z])) e⟩) (λ_ _ e=>e) (λ_ _ _ e=>e) (λb ps e=>⟨#[],by rw[e];simp⟩) (λm hm=>?_) (λb u e=>?_) I.bare
 ·have e:b=it:=by simpa using hb
  subst e;exact⟨h1,hL,h2,h3⟩
 ·obtain⟨o,es,ep,ho,r⟩:=hm;exact⟨o,es,ep,k _ o (Ne.symm hL) ho,r⟩
 ·refine(I.hok b u e).stay (λc v hc q=>k c v ?_ q) (λ_ q=>q) λ_ _ q=>q;rcases hc with z|z
  ·rw[z];exact nit b u e
  ·exact nit c _ z
def Inv.tok(I:Inv X y3 σ H s)(t:Nat):Inv X y3 σ H {s with toks:=t}:=I.un (h':=s.heap) (t':=t) Un.refl I.hok
def Inv.kept{t':Nat}(I:Inv X y3 σ H s)(k:∀b u,s.heap.get? b=some u->h'.get? b=some u):Inv X y3 σ H {s with heap:=h',toks:=t'}:=I.un (Un.kept k) (I.hok.kept k)
def Inv.laid{a:Addr}{o:HO}{t':Nat}(I:Inv X y3 σ H s)(k:∀b u,s.heap.get? b=some u->h'.get? b=some u)(hp:s.heap.objs.size<=a)(new:ObjOk X.prog X.w (upd H a o) h' a o):Inv X y3 σ (upd H a o) {s with heap:=h',toks:=t'}:=I.un (Un.laid k hp (I.hok.fresh hp)) (I.hok.laid k hp new)
def Inv.write{x e:Addr}{o:HO}{t':Nat}(I:Inv X y3 σ H s)(mu:Mut (H x))(he:e=x\/H e=some (.own x))(k:∀b u,b≠e->s.heap.get? b=some u->h'.get? b=some u)(heo:∃u,h'.get? e=some u)(new:ObjOk X.prog X.w (upd H x o) h' x o):Inv X y3 σ (upd H x o) {s with heap:=h',toks:=t'}:=I.un (Un.write mu he k heo) (I.hok.write mu he k heo new)
def Inv.weak{σ':List (Option V)}(I:Inv X y3 σ H s)(hl:σ'.length=σ.length)(w:∀(i:Nat) v,σ'[i]?=some (some v)->σ[i]?=some (some v)):Inv X y3 σ' H s:=
 ⟨I.ok,I.os,I.bare,I.base,let ⟨m,hn,hl'⟩:=I.loc;⟨m,hn,λi x v e1 e2 e3=>hl' i x v e1 (w i v e2) e3⟩,I.cell,I.free,I.freeC,I.pin,I.hok,hl.trans I.len⟩
def Inv.pins_of{pins':Q2}(I:Inv X y3 σ H s)(h:∀p∈pins',s.heap.get? p.1=some p.2/\H p.1=none/\p.1≠X.env.locals/\p.1∉X.fs/\∀v,p.2.data≠.cell v):Inv X pins' σ H s:=
 ⟨I.ok,I.os,I.bare,I.base,I.loc,I.cell,I.free,I.freeC,λp hp=>(Bp.mp hp).elim (λz=>I.pin p (Co _ z)) (h p),I.hok,I.len⟩
def wA(hN:N.Nodup){j:Nat}(a:N[i]?=some x)(b:N[j]?=some x):i=j:=by
 obtain⟨h1,e1⟩:=Ac.mp a;obtain⟨h2,e2⟩:=Ac.mp b;exact(Fy hN).mp (e1.trans e2.symm)
def zT{Q:Unit->Shared->Prop}(I:Inv X y3 σ H s)(hN:X.N.Nodup)(hi:X.N[i]?=some x)(hx:Loc X.env.scope x)(r:RelV v u)(h:∀s',Inv X y3 (σ.set i (some v)) H s'->(∃a,Heap.SameBut a s.heap s'.heap/\(a=X.env.locals\/X.env.cells.lookup x=some a))->Q () s')(hf:X.fn x=true\/X.env.scope.names.lookup x=some .local:=by first|exact .inl rfl|exact .inr rfl|assumption):wpAny M A (storeName X.env x u) Q E s:=by
 obtain⟨m,hn,hl⟩:=id I.loc;have hcls:(X.env.scope.kind == .class || (X.env.scope.kind == .module&&X.env.locals != X.env.globals))=false:=by rw[I.ok.kind];rfl
 have hiσ:i<σ.length:=by rw[I.len];exact(Ac.mp hi).1
 have cne:=I.cne
 have tracked:∀ {a:Addr} {h':Heap},(∃o,s.heap.get? a=some o/\H a=none)->Heap.SameBut a s.heap h'->HOk X.prog X.w H h':=fun {a h'} ha hs b ob e=>by
  obtain⟨_,_,hfree⟩:=ha;refine(I.hok b ob e).stay (λc w' hc q=>(hs.2 c ?_).trans q) (λ_ q=>q) λ_ _ q=>q;rintro rfl;rcases hc with rfl|hc
  ·rw[hfree]at e;cases e
  ·rw[hfree]at hc;cases hc
 rcases hx with hk|hk
 ·refine wpAny_storeName_local hk hn (λh' hn' hs=>?_) hcls;obtain⟨oL,_,_,hoL,_⟩:=id hn;refine h _ ⟨I.ok,I.os,I.bare,⟨λb o e n hb hx=>?_,λb o e n hb hx=>?_,I.base.free,λb o e hx=>?_,I.base.tups,I.base.frzs,I.base.tbls⟩,⟨_,hn',λj y v' e1 e2 e3=>?_⟩,λy c e=>?_,I.free,I.freeC,λp hp=>?_,tracked ⟨oL,hoL,I.free⟩ hs,by simpa using I.len⟩ ⟨_,hs,.inl rfl⟩
  ·exact(hs.2 b (Bl (Bf (Au e) I.ok.above))).trans (I.base.keep b o e n hb hx)
  ·obtain⟨sl,e1⟩:=I.base.slot b o e n hb hx;exact⟨sl,(hs.2 b (Bl (Bf (Au e) I.ok.above))).trans e1⟩
  ·obtain⟨o',e1⟩:=I.base.there b o e hx;exact⟨o',(hs.2 b (Bl (Bf (Au e) I.ok.above))).trans e1⟩
  ·by_cases hj:j=i
   ·subst hj;rw[hi]at e1;cases e1;rw[Dj hiσ]at e2;cases e2;exact⟨u,r,.inl ⟨hk,by simp⟩⟩
   ·rw[Dr (Ne.symm hj)]at e2;obtain⟨u',r',q⟩:=hl j y v' e1 e2 e3;refine⟨u',r',?_⟩;rcases q with⟨k,e⟩|⟨k,c,e,z⟩
    ·refine .inl ⟨k,?_⟩;have:y≠x:=λe=>hj (wA hN e1 (e▸hi))
     simp[this,e]
    ·exact .inr ⟨k,c,e,z.sameBut hs (cne y c e)⟩
  ·obtain⟨w',z⟩:=I.cell y c e;exact⟨w',z.sameBut hs (cne y c e)⟩
  ·obtain⟨e,n,ne,nf,d⟩:=I.pin p hp;exact⟨(hs.2 p.1 ne).trans e,n,ne,nf,d⟩
 ·have hfn:X.fn x=true:=by
   rcases hf with z|z
   ·exact z
   ·rw[z]at hk;cases hk
  obtain⟨c,hc⟩:=I.ok.has x (.inl hk);obtain⟨w',z⟩:=I.cell x c hc;refine wpAny_storeName_cell I.ok.kind hk hc z (λh' hc' hs=>?_);obtain⟨oc,hoc,hocd⟩:=id z;refine h {s with heap:=h'} ⟨I.ok,I.os,I.bare,⟨λb o e n hb hx=>?_,λb o e n hb hx=>?_,I.base.free,λb o e hx=>?_,I.base.tups,I.base.frzs,I.base.tbls⟩,⟨m,hn.sameBut hs (Ne.symm (cne x c hc)),λj y v' e1 e2 e3=>?_⟩,λy c' e=>?_,I.free,I.freeC,λp hp=>?_,tracked ⟨oc,hoc,I.freeC x c hc⟩ hs,by simpa using I.len⟩ ⟨c,hs,.inr hc⟩
  ·exact(hs.2 b (Bl (Bf (Au e) (I.ok.cab x c hfn hc)))).trans (I.base.keep b o e n hb hx)
  ·obtain⟨sl,e1⟩:=I.base.slot b o e n hb hx;exact⟨sl,(hs.2 b (Bl (Bf (Au e) (I.ok.cab x c hfn hc)))).trans e1⟩
  ·obtain⟨o',e1⟩:=I.base.there b o e hx;exact⟨o',(hs.2 b (Bl (Bf (Au e) (I.ok.cab x c hfn hc)))).trans e1⟩
  ·by_cases hj:j=i
   ·subst hj;rw[hi]at e1;cases e1;rw[Dj hiσ]at e2;cases e2;exact⟨u,r,.inr ⟨.inl hk,c,hc,hc'⟩⟩
   ·rw[Dr (Ne.symm hj)]at e2;obtain⟨u',r',q⟩:=hl j y v' e1 e2 e3;refine⟨u',r',?_⟩;rcases q with q|⟨k,c',e,z'⟩
    ·exact .inl q
    ·refine .inr ⟨k,c',e,z'.sameBut hs ?_⟩;rintro rfl;exact hj (wA hN e1 (I.ok.inj _ _ _ e hc▸hi))
  ·by_cases hcc:c'=c
   ·subst hcc;exact⟨_,hc'⟩
   ·obtain⟨w2,z2⟩:=I.cell y c' e;exact⟨w2,z2.sameBut hs hcc⟩
  ·obtain⟨e,n,ne,nf,d⟩:=I.pin p hp;refine⟨(hs.2 p.1 ?_).trans e,n,ne,nf,d⟩;intro q;rw[q,hoc]at e;have q':oc=p.2:=Bo e
   exact d w' (by rw[<-q'];exact hocd)
def wZ{Q:Unit->Shared->Prop}(I:Inv X y3 σ H s)(hN:X.N.Nodup)(hi:X.N[i]?=some x)(hx:Loc X.env.scope x)(r:RelV v u)(h:∀s',Inv X y3 (σ.set i (some v)) H s'->Q () s')(hf:X.fn x=true\/X.env.scope.names.lookup x=some .local:=by first|exact .inl rfl|exact .inr rfl|assumption):wpAny M A (storeName X.env x u) Q E s:=
 zT I hN hi hx r (λs' I' _=>h s' I') hf
def Inv.call'{s':Shared}{ch:List Addr}(I:Inv X y3 σ H s)(ho:s'.os=s.os)(u:Un (frs X.stack) ch H H' s.heap s'.heap)(hok:HOk X.prog X.w H' s'.heap)(hg:AllBare s'.gens)(hch:∀b∈ch,(b∈X.ex\/X.s₀.heap.objs.size<=b)/\b≠X.env.locals/\(∀x c,X.env.cells.lookup x=some c->c≠b)/\∀p∈X.pn++y3,p.1≠b):Inv X y3 σ H' s':=by
 obtain⟨h',g',d',t',o'⟩:=s';have e:o'=s.os:=ho
 subst e;exact I.call (g':=g') (t':=t') (d':=d') u hok hg hch
end
abbrev XK:=Value->Option Addr->Hp->Prop
abbrev St:=List (Option V)
variable {σ:St}
abbrev VK:=V->Hp->Prop
abbrev TE:=St->Hp->VK->Prop
variable {ta tb te:TE}
abbrev TT:=St->Hp->(Bool->Hp->Prop)->Prop
abbrev TA:=St->Hp->(List V->Hp->Prop)->Prop
variable {t:TA}
structure Ends where
 nx:St->Hp->Prop
 rt:VK
 bk:St->Hp->Prop:=λ_ _=>False
 ct:St->Hp->Prop:=λ_ _=>False
abbrev TS:=Ends->St->Hp->Prop
def EP(X:Cx)(y3:List (Addr×Obj))(σ:St)(Q:VK)(u:Value)(s':Shared):Prop:=∃v H',Inv X y3 σ H' s'/\RelV v u/\Q v H'
def TP(X:Cx)(y3:List (Addr×Obj))(σ:St)(Q:Bool->Hp->Prop)(b:Bool)(s':Shared):Prop:=∃H',Inv X y3 σ H' s'/\Q b H'
def AP(X:Cx)(y3:List (Addr×Obj))(σ:St)(Q:List V->Hp->Prop)(us:List Value)(s':Shared):Prop:=∃vs H',Inv X y3 σ H' s'/\Vals vs us/\Q vs H'
def SP(X:Cx)(y3:List (Addr×Obj))(D:Ends)(f:Flow)(s':Shared):Prop:=
 match f with
 |.next=>∃σ' H',Inv X y3 σ' H' s'/\D.nx σ' H'
 |.brk=>∃σ' H',Inv X y3 σ' H' s'/\D.bk σ' H'
 |.cont=>∃σ' H',Inv X y3 σ' H' s'/\D.ct σ' H'
 |.ret u=>∃v σ' H',Inv X y3 σ' H' s'/\RelV v u/\D.rt v H'
def PE(X:Cx)(e:Expr)(t:TE):Prop:=
 ∀(y3:Q2) (s:Shared) (σ:St) (H:Hp) (Q:VK),Inv X y3 σ H s->t σ H Q->wpAny (model X.prog X.w) X.A (eval e X.env) (EP X y3 σ Q) X.xe s
def PT(X:Cx)(e:Expr)(t:TT):Prop:=
 ∀(y3:Q2) (s:Shared) (σ:St) (H:Hp) (Q:Bool->Hp->Prop),Inv X y3 σ H s->t σ H Q->wpAny (model X.prog X.w) X.A (isTrue e X.env (eval e X.env)) (TP X y3 σ Q) X.xe s
def PW(X:Cx)(e:Expr)(t:TT):Prop:=
 ∀(whole:Sem Value) (y3:Q2) (s:Shared) (σ:St) (H:Hp) (Q:Bool->Hp->Prop),Inv X y3 σ H s->t σ H Q->wpAny (model X.prog X.w) X.A (isTrue e X.env whole) (TP X y3 σ Q) X.xe s
def PW.pt{t:TT}(h:PW X e t):PT X e t:=h _
def PA(X:Cx)(es:List Expr)(t:TA):Prop:=
 ∀(pos:Pos) (y3:Q2) (s:Shared) (σ:St) (H:Hp) (Q:List V->Hp->Prop),Inv X y3 σ H s->t σ H Q->wpAny (model X.prog X.w) X.A (spliced (backTo pos (starEach es X.env))) (AP X y3 σ Q) X.xe s
def PS(X:Cx)(st:Stmt)(t:TS):Prop:=
 ∀(y3:Q2) (s:Shared) (σ:St) (H:Hp) (D:Ends),Inv X y3 σ H s->t D σ H->wpAny (model X.prog X.w) X.A (exec st X.env) (SP X y3 D) X.xe s
def PSs(X:Cx)(st:List Stmt)(t:TS):Prop:=
 ∀(y3:Q2) (s:Shared) (σ:St) (H:Hp) (D:Ends),Inv X y3 σ H s->t D σ H->wpAny (model X.prog X.w) X.A (execs st X.env) (SP X y3 D) X.xe s
def thn{α:Type}{t:Sem α}{Q Q':α->Shared->Prop}(h:wpAny M A t Q E s)(hQ:∀a s,Q a s->Q' a s):wpAny M A t Q' E s:=Cq h hQ λ_ _ x=>x
section
def bin{a b:Expr}(ha:PE X a ta)(hb:PE X b tb){R:V->V->Hp->Prop}(I:Inv X y3 σ H s)(h:ta σ H λx H1=>tb σ H1 λy H2=>R x y H2){α:Type}{Q:α->Shared->Prop}{f:Value->Value->Sem α}(hf:∀v u s2 x y H2,Inv X y3 σ H2 s2->RelV x v->RelV y u->R x y H2->wpAny (model X.prog X.w) X.A (f v u) Q X.xe s2):wpAny (model X.prog X.w) X.A (eval a X.env) (λv s₁=>wpAny (model X.prog X.w) X.A (eval b X.env) (λu s₂=>wpAny (model X.prog X.w) X.A (f v u) Q X.xe s₂) X.xe s₁) X.xe s:=by
 refine thn (ha y3 s σ H _ I h) λv s1 ⟨x,H1,I1,r1,q1⟩=>?_;refine thn (hb y3 s1 σ H1 _ I1 q1) λu s2 ⟨y,H2,I2,r2,q2⟩=>?_;exact hf v u s2 x y H2 I2 r1 r2 q2
def fJ0(i:Nat):TE:=λσ H Q=>∃v,σ[i]?=some (some v)/\Q v H
def tC(v:V):TE:=λ_ H Q=>Q v H
def fQD(hN:X.N[i]?=some x)(hv:Vis X.env.scope x)(hd:(x==("__debug__" : Str))=false:=by decide)(hcd:(x==("__classdict__" : Str))=false:=by decide):PE X (.Name x pos) (fJ0 i):=by
 intro y3 s σ H Q I h;obtain⟨v,e,h⟩:=h;obtain⟨m,hn,hl⟩:=I.loc;obtain⟨u,r,l⟩:=hl i x v hN e hv;have fin:EP X y3 σ Q u s:=⟨v,H,I,r,h⟩
 rcases l with⟨hk,hm⟩|⟨hk,c,hc,hcell⟩
 ·exact wpAny_Name (wpAny_loadName_local I.ok.kind hk hn hm fin) hd
 ·rcases hk with hk|hk
  ·exact wpAny_Name (wpAny_loadName_cell I.ok.kind hk hc hcell fin) hd
  ·exact wpAny_Name (wpAny_loadName_free I.ok.kind hk hc hcell fin hcd) hd
def aJ{i j pos}:PE X (.Constant (.int i) j pos) (tC (.int i)):=λ_ _ _ H _ I h=>wpAny_Constant_int ⟨.int i,H,I.tok _,⟨_,rfl⟩,h⟩
def nO{b j pos}:PE X (.Constant (.bool b) j pos) (tC (.bl b)):=λ_ _ _ H _ I h=>Constant_bool ⟨.bl b,H,I,rfl,h⟩
def dG{j pos}:PE X (.Constant .none j pos) (tC .non):=λ_ _ _ H _ I h=>Constant_none ⟨.non,H,I,rfl,h⟩
def cS{x j pos}:PE X (.Constant (.str x) j pos) (tC (.str x)):=λ_ _ _ H _ I h=>Calls.Constant_str ⟨.str x,H,I.tok _,⟨_,rfl⟩,h⟩
def Gl(X:Cx)(x:Str):Prop:=X.env.kindOf x=some .globalImplicit
def fS(I:Inv X y3 σ H s)(hg:Gl X x)(hm:X.mg x=some u)(h:Q u s)(hd:(x==("__debug__" : Str))=false:=by decide):wpAny (model X.prog X.w) X.A (eval (.Name x pos) X.env) Q E s:=
 Calls.Name_function_global I.ok.kind hg (Calls.loadGlobal_global (by rw[I.ok.glob];exact I.mod.glob.keeps I.bk) hm h) hd
def iS(I:Inv X y3 σ H s)(hg:Gl X x)(hm:X.mg x=none)(hv:bootBuiltins x=some u)(h:Q u s)(hn:x≠"__name__" := by decide)(hd:(x==("__debug__" : Str))=false:=by decide):wpAny (model X.prog X.w) X.A (eval (.Name x pos) X.env) Q E s:=by
 obtain⟨mb,h1,h2⟩:=I.mod.blt;exact Calls.Name_function_global I.ok.kind hg (Calls.loadGlobal_builtin (by rw[I.ok.glob];exact I.mod.glob.keeps I.bk) hm (by rw[I.ok.blt];exact h1.keeps I.bk) ((h2 x hn).trans hv) h) hd
def uD(hg:Gl X x)(hm:X.mg x=some u)(r:RelV v u)(hd:(x==("__debug__" : Str))=false:=by decide):PE X (.Name x pos) (tC v):=
 λ_ _ _ H _ I h=>fS I hg hm ⟨v,H,I,r,h⟩ hd
def eQU(hg:Gl X x)(hm:X.mg x=none)(hv:bootBuiltins x=some u)(r:RelV v u)(hn:x≠"__name__" := by decide)(hd:(x==("__debug__" : Str))=false:=by decide):PE X (.Name x pos) (tC v):=
 λ_ _ _ H _ I h=>iS I hg hm hv ⟨v,H,I,r,h⟩ hn hd
variable {a b:Expr}
variable {tA tB':TT} {rest:List Expr}
def fXZ(t u:TT):TT:=λσ H Q=>t σ H λc H1=>if c=true then u σ H1 Q else Q false H1
def tOr(t u:TT):TT:=λσ H Q=>t σ H λc H1=>if c=true then Q true H1 else u σ H1 Q
def fZM(t:TT):TT:=λσ H Q=>t σ H λc H1=>Q (!c) H1
def qP(ha:PT X a tA):PW X (.BoolOp .And [a] pos) tA:=by
 intro wh y3 s σ H Q I h;refine isTrue_and (thn (ha y3 s σ H Q I h) λc s1 e=>?_);cases c with
 |true=>exact isTrue_and_nil e
 |false=>exact e
def mR(ha:PT X a tA):PW X (.BoolOp .Or [a] pos) tA:=by
 intro wh y3 s σ H Q I h;refine isTrue_or (thn (ha y3 s σ H Q I h) λc s1 e=>?_);cases c with
 |false=>exact isTrue_or_nil e
 |true=>exact e
def xB(ha:PT X a tA)(hb:PW X (.BoolOp .And (b::rest) pos) tB'):PW X (.BoolOp .And (a::b::rest) pos) (fXZ tA tB'):=by
 intro wh y3 s σ H Q I h;refine isTrue_and (thn (ha y3 s σ H _ I h) λc s1 ⟨H1,I1,q1⟩=>?_);cases c with
 |true=>exact hb wh y3 s1 σ H1 Q I1 q1
 |false=>exact⟨H1,I1,q1⟩
def oG(ha:PT X a tA)(hb:PW X (.BoolOp .Or (b::rest) pos) tB'):PW X (.BoolOp .Or (a::b::rest) pos) (tOr tA tB'):=by
 intro wh y3 s σ H Q I h;refine isTrue_or (thn (ha y3 s σ H _ I h) λc s1 ⟨H1,I1,q1⟩=>?_);cases c with
 |true=>exact⟨H1,I1,q1⟩
 |false=>exact hb wh y3 s1 σ H1 Q I1 q1
def sJ(ha:PT X a tA):PT X (.UnaryOp .Not a pos) (fZM tA):=by
 intro y3 s σ H Q I h;exact isTrue_not (ha y3 s σ H (λc H1=>Q (!c) H1) I h)
def bXF{op}{t:TE}(h:PE X a t):PE X (.BoolOp op [a] pos) t:=λy3 s σ H Q I hw=>BoolOp_one (h y3 s σ H Q I hw)
def tIf(t:TT)(ta tb:TE):TE:=λσ H Q=>t σ H λc H1=>if c=true then ta σ H1 Q else tb σ H1 Q
def pU{c:Expr}(hc:PT X c tA)(ha:PE X a ta)(hb:PE X b tb):PE X (.IfExp c a b pos) (tIf tA ta tb):=by
 intro y3 s σ H Q I h;refine wpAny_IfExp (thn (hc y3 s σ H _ I h) λd s1 ⟨H1,I1,q1⟩=>?_);cases d with
 |true=>exact ha y3 s1 σ H1 Q I1 q1
 |false=>exact hb y3 s1 σ H1 Q I1 q1
end
def SqL(K:W.Frag)(H:Hp)(a:Addr)(xs:List V):Prop:=
 Rd H a (.lst xs)\/
  ∃(o:Obj) (its:Array Value) (n:Nat),K.lookup a=some o/\o.cls=.type "list"/\o.dict=none/\o.data=.seq its n/\its.size<=sizeLine/\Vals xs its.toList
def SqT(K:W.Frag)(H:Hp)(a:Addr)(xs:List V):Prop:=
 Rd H a (.tup xs)\/
  ∃(o:Obj) (its:Array Value) (n:Nat),K.lookup a=some o/\o.cls=.type "tuple"/\o.data=.seq its n/\its.size<=sizeLine/\Vals xs its.toList
def gQF:Value->Option V
 |.none=>some .non
 |.bool b=>some (.bl b)
 |.int i _=>some (.int i)
 |.str x _=>some (.str x)
 |.bytes b _=>some (.byt b)
 |.float b _=>some (.flt b)
 |.ref a=>some (.ref a)
 |.type n=>some (.ty n)
 |_=>none
def RelV.abs{x:V}(r:RelV x u):gQF u=some x:=by
 cases x with
 |non=>cases r;rfl
 |bl _=>cases r;rfl
 |int _=>obtain⟨t,rfl⟩:=r;rfl
 |str _=>obtain⟨t,rfl⟩:=r;rfl
 |byt _=>obtain⟨t,rfl⟩:=r;rfl
 |flt _=>obtain⟨t,rfl⟩:=r;rfl
 |ref _=>cases r;rfl
 |ty _=>cases r;rfl
def RelV.inj{x y:V}(r:RelV x u)(q:RelV y u):x=y:=Bo (r.abs.symm.trans q.abs)
def Vals.inj:∀ {xs ys:List V} {us:List Value},Vals xs us->Vals ys us->xs=ys
 |_,_,_,.nil,.nil=>rfl
 |_,_,_,.cons r t,.cons r' t'=>by rw[r.inj r',Vals.inj t t']
section
variable {ys:List V}
def SqT.of(h:H a=some (.tup xs)):SqT K H a xs:=.inl (.inl h)
def Inv.list(I:Inv X y3 σ H s)(h:SqL X.K H a xs):∃its:List Value,Vals xs its/\PlainL s.heap a its.toArray/\xs.length<=sizeLine:=by
 rcases h with h|⟨o,its,n,hk,hc,hd,hs,hz,r⟩
 ·obtain⟨z,its,n,r,e⟩:=h.ok I.hok;exact⟨its,r,⟨_,n,e,rfl,rfl,rfl⟩,z⟩
 ·refine⟨its.toList,r,⟨o,n,I.kIn a o hk,hc,hd,by simpa using hs⟩,?_⟩
  have e:=r.length
  simp only[Array.length_toList]at e;omega
def Inv.tuple(I:Inv X y3 σ H s)(h:SqT X.K H a xs):∃its:List Value,Vals xs its/\IsTup s.heap a its.toArray/\xs.length<=sizeLine:=by
 rcases h with h|⟨o,its,n,hk,hc,hs,hz,r⟩
 ·obtain⟨z,its,r,p⟩:=h.ok I.hok;exact⟨its,r,p,z⟩
 ·refine⟨its.toList,r,⟨o,I.kIn a o hk,hc,n,by simpa using hs⟩,?_⟩
  have e:=r.length
  simp only[Array.length_toList]at e;omega
def Inv.list_inj(I:Inv X y3 σ H s)(h:SqL X.K H a xs)(h':SqL X.K H a ys):xs=ys:=by
 obtain⟨its,r,⟨o,n,e,_,_,d⟩,_⟩:=I.list h;obtain⟨its',r',⟨o',n',e',_,_,d'⟩,_⟩:=I.list h';rw[e]at e';cases e';rw[d]at d';injection d' with d1 _
 have:its=its':=by simpa using congrArg Array.toList d1
 subst this;exact r.inj r'
end
abbrev Cx.wish(X:Cx)(E:Value->Shared->Prop):Cx:={X with xe:=E}
abbrev Cx.nox(X:Cx):Cx:=X.wish λ_ _=>False
def Cx.Ok.wish(ok:X.Ok)(E:Q0):(X.wish E).Ok:=
 ⟨ok.mod,ok.kind,ok.glob,ok.blt,ok.above,ok.inj,ok.has,ok.cab,ok.hd,ok.frames,ok.stk,ok.exf,ok.bs,ok.bsz,ok.noex,ok.exfs,ok.funs,ok.frf⟩
def Cx.Ok.unwish(ok:(X.wish E).Ok):X.Ok:=
 ⟨ok.mod,ok.kind,ok.glob,ok.blt,ok.above,ok.inj,ok.has,ok.cab,ok.hd,ok.frames,ok.stk,ok.exf,ok.bs,ok.bsz,ok.noex,ok.exfs,ok.funs,ok.frf⟩
def Inv.wish(I:Inv X y3 σ H s)(E:Q0):Inv (X.wish E) y3 σ H s:=⟨I.ok.wish E,I.os,I.bare,I.base,I.loc,I.cell,I.free,I.freeC,I.pin,I.hok,I.len⟩
def Inv.unwish(I:Inv (X.wish E) y3 σ H s):Inv X y3 σ H s:=⟨I.ok.unwish,I.os,I.bare,I.base,I.loc,I.cell,I.free,I.freeC,I.pin,I.hok,I.len⟩
def SP.unwish{D:Ends}{f:Flow}{s':Shared}(h:SP (X.wish E) y3 D f s'):SP X y3 D f s':=by
 cases f with
 |next=>obtain⟨σ',H',I,q⟩:=h;exact⟨σ',H',I.unwish,q⟩
 |brk=>obtain⟨σ',H',I,q⟩:=h;exact⟨σ',H',I.unwish,q⟩
 |cont=>obtain⟨σ',H',I,q⟩:=h;exact⟨σ',H',I.unwish,q⟩
 |ret u=>obtain⟨v,σ',H',I,r,q⟩:=h;exact⟨v,σ',H',I.unwish,r,q⟩
def PSs.nox{st:List Stmt}{t:TS}(h:PSs X.nox st t):PSs X st t:=λy3 s σ H D I hw=>
 Cq (h y3 s σ H D (I.wish _) hw) (λ_ _ q=>q.unwish) λ_ _ z=>False.elim z
section
variable {X:Cx} {st:Stmt} {rest:List Stmt} {t u:TS} {e:Expr} {te:TE} {pos:Pos}
def eXZ:TS:=λD σ H=>D.nx σ H
def eJK(t u:TS):TS:=λD σ H=>t {D with nx:=u D} σ H
def bH:PSs X [] eXZ:=λ_ _ σ H _ I h=>wpAny_execs_nil ⟨σ,H,I,h⟩
def aE(h1:PS X st t)(h2:PSs X rest u):PSs X (st::rest) (eJK t u):=by
 intro y3 s σ H D I h;refine wpAny_execs_cons (thn (h1 y3 s σ H {D with nx:=u D} I h) λf s1 q=>?_)
 cases f with
 |next=>
  obtain⟨σ',H',I',q⟩:=q;exact h2 y3 s1 σ' H' D I' q
 |ret v=>exact q
 |brk=>exact q
 |cont=>exact q
def aI(h1:PS X st t):PSs X [st] t:=by
 intro y3 s σ H D I h;refine wpAny_execs_cons (thn (h1 y3 s σ H D I h) λf s1 q=>?_);cases f with
 |next=>exact wpAny_execs_nil q
 |ret v=>exact q
 |brk=>exact q
 |cont=>exact q
def fZN:TS:=λD σ H=>D.ct σ H
def aJN:PS X (.Continue pos) fZN:=λ_ _ σ H _ I h=>wpAny_Continue ⟨σ,H,I,h⟩
def Inv.quiet(I:Inv X y3 σ H s):interactive X.env=false:=by simp[interactive,I.ok.kind]
def eXJ(te:TE):TS:=λD σ H=>te σ H λ_ H1=>D.nx σ H1
def cH(he:PE X e te)(hs:swapsWith e none pos.line X.env=pure false:=by rfl):PS X (.Expr e pos) (eXJ te):=by
 intro y3 s σ H D I h;exact wpAny_Expr_any (thn (he y3 s σ H _ I h) λv s1 ⟨x,H1,I1,r1,q1⟩=>⟨σ,H1,I1,q1⟩) I.quiet hs
def fXP(te:TE):TS:=λD σ H=>te σ H D.rt
def aV(he:PE X e te):PS X (.Return (some e) pos) (fXP te):=by
 intro y3 s σ H D I h;exact wpAny_Return_some (thn (he y3 s σ H _ I h) λv s1 ⟨x,H1,I1,r1,q1⟩=>⟨x,σ,H1,I1,r1,q1⟩)
def fJS(c:TT)(t u:TS):TS:=λD σ H=>c σ H λb H1=>if b=true then t D σ H1 else u D σ H1
def bZ{c:Expr}{a b:List Stmt}{tc:TT}(hc:PT X c tc)(ha:PSs X a t)(hb:PSs X b u):PS X (.If c a b pos) (fJS tc t u):=by
 intro y3 s σ H D I h;refine wpAny_If (thn (hc y3 s σ H _ I h) λd s1 ⟨H1,I1,q1⟩=>?_);cases d with
 |true=>exact ha y3 s1 σ H1 D I1 q1
 |false=>exact hb y3 s1 σ H1 D I1 q1
end
abbrev TG:=V->St->Hp->(St->Hp->Prop)->Prop
variable {g:TG}
abbrev TGs:=List V->St->Hp->(St->Hp->Prop)->Prop
def PG(X:Cx)(target:Expr)(t:TG):Prop:=
 ∀(y3:Q2) (s:Shared) (σ:St) (H:Hp) (v:V) (u:Value) (Q:St->Hp->Prop),Inv X y3 σ H s->RelV v u->t v σ H Q->
  wpAny (model X.prog X.w) X.A (assign target X.env u) (λ_ s'=>∃σ' H',Inv X y3 σ' H' s'/\Q σ' H') X.xe s
def PGs(X:Cx)(ts:List Expr)(t:TGs):Prop:=
 ∀(y3:Q2) (s:Shared) (σ:St) (H:Hp) (vs:List V) (us:List Value) (Q:St->Hp->Prop),Inv X y3 σ H s->Vals vs us->t vs σ H Q->
  wpAny (model X.prog X.w) X.A (assignInOrder ((assignEach ts X.env).map (·.2)) us) (λ_ s'=>∃σ' H',Inv X y3 σ' H' s'/\Q σ' H') X.xe s
abbrev eQD:=V->V->V->Hp->(Hp->Prop)->Prop
def fZV(X:Cx)(t:eQD):Prop:=
 ∀(y3:Q2) (s:Shared) (σ:St) (H:Hp) (o i v:V) (ov iv u:Value) (Q:Hp->Prop),Inv X y3 σ H s->RelV o ov->RelV i iv->RelV v u->t o i v H Q->
  wpAny (model X.prog X.w) X.A (setItem ov iv u) (λ_ s'=>∃H',Inv X y3 σ H' s'/\Q H') X.xe s
section
variable {X:Cx} {pos:Pos}
def gH(i:Nat):TG:=λv σ H Q=>Q (σ.set i (some v)) H
def bF{i:Nat}(hN:X.N.Nodup)(hi:X.N[i]?=some x)(hx:Loc X.env.scope x)(hf:X.fn x=true\/X.env.scope.names.lookup x=some .local:=by first|exact .inl rfl|exact .inr rfl|assumption):PG X (.Name x pos) (gH i):=by
 intro y3 s σ H v u Q I r h;exact wpAny_assign_Name (wZ I hN hi hx r (λs' I'=>⟨_,H,I',h⟩) hf)
def eJL:TGs:=λvs σ H Q=>vs=[]/\Q σ H
def bJQ(t:TG)(u:TGs):TGs:=λvs σ H Q=>∃v r,vs=v::r/\t v σ H λσ' H'=>u r σ' H' Q
def bJE:PGs X [] eJL:=by
 intro y3 s σ H vs us Q I r h;obtain⟨e,h⟩:=h;subst e;cases r;exact assignInOrder_nil ⟨σ,H,I,h⟩
def jM{t:TG}{u:TGs}(h1:PG X e t)(h2:PGs X es u)(hs:(assignEach (e::es) X.env).map (·.2)=assign e X.env::(assignEach es X.env).map (·.2):=by rfl):PGs X (e::es) (bJQ t u):=by
 intro y3 s σ H vs us Q I r h;obtain⟨v,vr,e1,h⟩:=h;subst e1;cases r with
 |cons r rr=>
  rw[hs];refine assignInOrder_cons (thn (h1 y3 s σ H _ _ _ I r h) λ_ s1 ⟨σ1,H1,I1,q1⟩=>?_);exact h2 y3 s1 σ1 H1 _ _ Q I1 rr q1
def eJC(K:W.Frag)(n:Nat)(t:TGs):TG:=λv σ H Q=>∃a xs,v=.ref a/\SqT K H a xs/\xs.length=n/\t xs σ H Q
def eZK{t:TGs}{n:Nat}(hc:X.calm=true)(h:PGs X es t)(hn:(assignEach es X.env).length=n:=by rfl)(hst:(assignEach es X.env).findIdx? (·.1)=none:=by rfl):PG X (.Tuple es k pos) (eJC X.K n t):=by
 intro y3 s σ H v u Q I r hw;obtain⟨a,xs,e1,hq,hl,hw⟩:=hw;subst e1;cases r;obtain⟨its,rv,ht,hz⟩:=I.tuple hq;refine assign_Tuple_tuple (I.ok.hd hc) ht (by simp[hn,<-hl,rv.length]) hst λh' hx=>?_
 have I1:Inv X y3 σ H {s with heap:=h'}:=I.kept (t':=s.toks) λb o e=>hx b o (Bl (Au e)) e
 exact h y3 _ σ H xs _ Q I1 (by simpa using rv) hw
def fJ4(to ti:TE)(t:eQD):TG:=λv σ H Q=>to σ H λo H1=>ti σ H1 λi H2=>t o i v H2 λH3=>Q σ H3
def bXI{o i:Expr}{to ti:TE}{t:eQD}(ho:PE X o to)(hi:PE X i ti)(hs:fZV X t)(ha:∀v,assign (.Subscript o i pos) X.env v=(do
 let ov <-holding [v] (eval o X.env)
 let iv <-holding [v,ov] (eval i X.env)
 standAt pos
 holding [v,ov,iv] (setItem ov iv v)
 release [v,ov,iv] []):=by intro _;rfl):PG X (.Subscript o i pos) (fJ4 to ti t):=by
 intro y3 s σ H v u Q I r h;rw[ha];refine Ae (Cu (thn (ho y3 s σ H _ I h) λov s1 ⟨x,H1,I1,r1,q1⟩=>?_));refine Ae (Cu (thn (hi y3 s1 σ H1 _ I1 q1) λiv s2 ⟨y,H2,I2,r2,q2⟩=>?_));refine Ae (Fl (Ae (Cu (thn (hs y3 s2 σ H2 x y v ov iv u _ I2 r1 r2 r q2) λ_ s3 ⟨H3,I3,q3⟩=>?_))));exact wpAny_release ⟨σ,H3,I3,q3⟩
def dQJ(te:TE)(g:TG):TS:=λD σ H=>te σ H λx H1=>g x σ H1 D.nx
def vI(he:PE X e te)(hg:PG X tg g)(hs:swapsWithSole [tg] e pos.line X.env=pure false:=by rfl)(hw:swappedStores [tg] e X.env=pure none:=by rfl)(h1:(assignEach [tg] X.env).map (·.2)=[assign tg X.env]:=by rfl):PS X (.Assign [tg] e pos) (dQJ te g):=by
 intro y3 s σ H D I h;refine wpAny_Assign_stores (thn (he y3 s σ H _ I h) λv s1 ⟨x,H1,I1,r1,q1⟩=>?_) hs hw;rw[h1];exact thn (hg y3 s1 σ H1 x v _ I1 r1 q1) λ_ s2 q=>q
def bX1{i:Nat}{x:Str}{e:Expr}{te:TE}{pos':Pos}(hN:X.N.Nodup)(hi:X.N[i]?=some x)(hx:Loc X.env.scope x)(he:PE X e te)(hs:swapsWith e (some (.Name x pos')) pos.line X.env=pure false:=by rfl)(hf:X.fn x=true\/X.env.scope.names.lookup x=some .local:=by first|exact .inl rfl|exact .inr rfl|assumption):PS X (.Assign [.Name x pos'] e pos) (dQJ te (gH i)):=by
 intro y3 s σ H D I h;refine wpAny_Assign_Name (thn (he y3 s σ H _ I h) λv s1 ⟨y,H1,I1,r1,q1⟩=>?_) hs;exact wZ I1 hN hi hx r1 (λs2 I2=>⟨_,H1,I2,q1⟩) hf
end
def eX5(c:TT)(tb:TS):TS:=λD σ H=>∃W:Nat->St->Hp->Prop,(∃m,W m σ H)/\∀m σ H,W m σ H->
 c σ H λb H1=>if b=true then ∃N:St->Hp->Prop,(∀σ' H',N σ' H'->∃m',m' < m/\W m' σ' H')/\tb {D with nx:=N,ct:=N,bk:=D.nx} σ H1 else D.nx σ H1
def vE{c:Expr}{tc:TT}{tb:TS}(hp:PassesOwn (model X.prog X.w) X.A X.env X.xe)(hc:PT X c tc)(hb:PSs X body tb):PS X (.While c body [] pos) (eX5 tc tb):=by
 intro y3 s σ H D I h;obtain⟨W,⟨m0,w0⟩,turn⟩:=h;refine wpAny_While (codeAny_whileLoop (λn s'=>∃σ' H',Inv X y3 σ' H' s'/\W n σ' H') ?_ m0 ⟨σ,H,I,w0⟩);rintro n s1 ⟨σ1,H1,I1,w1⟩;refine Ew hp (thn (hc y3 s1 σ1 H1 _ I1 (turn n σ1 H1 w1)) λb s2 ⟨H2,I2,q2⟩=>?_);cases b with
 |true=>
  obtain⟨N,hN,q2⟩:=q2;rw[if_pos rfl];refine Ew hp (thn (hb y3 s2 σ1 H2 _ I2 q2) λf s3 q3=>?_);cases f with
  |next=>
   obtain⟨σ3,H3,I3,n3⟩:=q3;obtain⟨m',hm,w3⟩:=hN σ3 H3 n3;exact⟨m',hm,σ3,H3,I3,w3⟩
  |cont=>
   obtain⟨σ3,H3,I3,n3⟩:=q3;obtain⟨m',hm,w3⟩:=hN σ3 H3 n3;exact⟨m',hm,σ3,H3,I3,w3⟩
  |brk=>exact q3
  |ret v=>exact q3
 |false=>
  rw[if_neg An];exact wpAny_execs_nil ⟨σ1,H2,I2,q2⟩
structure It where
 go:Nat->Hp->Prop
 yld:Nat->Hp->V->Hp->Prop
 stop:Nat->Hp->Prop
def nL(X:Cx)(y3:List (Addr×Obj))(H:Hp)(b:Addr):Prop:=
 H b=none/\b≠X.env.locals/\b∉X.fs/\(b∈X.ex\/X.s₀.heap.objs.size<=b)/\(∀x c,X.env.cells.lookup x=some c->c≠b)/\∀p∈X.pn++y3,p.1≠b
def Inv.fpOk{H':Hp}(I:Inv X y3 σ H s)(hb:s.heap.objs.size<=b)(hn:H' b=none):nL X y3 H' b:=by
 refine⟨hn,Fz (Bf I.lt hb),I.nofs hb,.inr (Bi I.sz hb),λx c e z=>?_,λp hp z=>?_⟩
 ·obtain⟨v,q⟩:=I.cell x c e;exact absurd (Bf q.lt (by rw[z];exact hb)) (Dz _)
 ·exact absurd (Bf (Au (I.pin p hp).1) (by rw[z];exact hb)) (Dz _)
structure Turn (P:Program) (w:World) (K:W.Frag) (tg:Expr) (J:It) (fp:List Addr) (it:Addr) (tn:Nat->Heap->Prop):Prop where
 mem:it∈fp
 obj:∀i h,tn i h->∀b∈fp,∃o,h.get? b=some o/\∀v,o.data≠.cell v
 keep:∀i h h',tn i h->(∀b∈fp,∀o,h.get? b=some o->h'.get? b=some o)->tn i h'
 item:∀(X:Cx),X.prog=P->X.w=w->X.K=K->X.calm=true->∀(i:Nat) (y3:Q2) (s:Shared) (σ:St) (H:Hp) (E:Q0),Inv X y3 σ H s->(∀b∈fp,nL X y3 H b)->tn i s.heap->J.go i H->
  wpAny (model P w) X.A (pyNext (.ref it)) (λr s1=>∃u,r=some u/\
   wpAny (model P w) X.A (letOwnedTupleGo tg (.ref it) u) (λ_ s2=>∃x H',Inv X y3 σ H' s2/\RelV x u/\J.yld i H x H'/\tn (i+1) s2.heap/\∀b∈fp,H' b=none) E s1) E s
 done:∀(X:Cx),X.prog=P->X.w=w->X.K=K->X.calm=true->∀(i:Nat) (y3:Q2) (s:Shared) (σ:St) (H:Hp) (E:Q0),Inv X y3 σ H s->(∀b∈fp,nL X y3 H b)->tn i s.heap->J.stop i H->
  wpAny (model P w) X.A (pyNext (.ref it)) (λr s1=>r=none/\Inv X y3 σ H s1) E s
 self:∀(A:Around) (i:Nat) (s:Shared) (Q:Q0) (E:Q0),tn i s.heap->Q (.ref it) s->wpAny (model P w) A (pyIter (.ref it)) Q E s
abbrev TI:=St->Hp->(It->Hp->Prop)->Prop
def PIE(X:Cx)(y3:List (Addr×Obj))(σ:St)(tg:Expr)(R:It->Hp->Prop)(itv:Value)(s2:Shared):Prop:=
 ∃(it:Addr) (fp:List Addr) (tn:Nat->Heap->Prop) (J:It) (H':Hp),itv=.ref it/\Inv X y3 σ H' s2/\Turn X.prog X.w X.K tg J fp it tn/\tn 0 s2.heap/\(∀b∈fp,nL X y3 H' b)/\R J H'
def PI(X:Cx)(tg iter:Expr)(wi:TI):Prop:=
 ∀(y3:Q2) (s:Shared) (σ:St) (H:Hp) (R:It->Hp->Prop),Inv X y3 σ H s->wi σ H R->
  wpAny (model X.prog X.w) X.A (eval iter X.env) (λv s1=>wpAny (model X.prog X.w) X.A (pyIter v) (PIE X y3 σ tg R) X.xe s1) X.xe s
def wF{s:Shared}{it:Addr}{o:Obj}{n:String}{vs:Array Value}{Q:Unit->Shared->Prop}(ho:s.heap.get? it=some o)(hc:o.cls=.type n)(hd:o.data=.fields vs)(hn:["enumerate", "zip", "dict_itemiterator", "dict_reverseitemiterator", "odict_iterator", "itertools.zip_longest", "itertools.pairwise"].contains n=false)(hQ:Q () s):wpAny M A (letOwnedTupleGo tg (.ref it) u) Q E s:=by
 unfold letOwnedTupleGo;cases tg<;>first
  |exact Aq hQ
  | (cases u <;> first
      |exact Aq hQ
      | (refine Ae (wpAny_load ho ?_)
         rw[hc,hd];show wpAny M A (if (["enumerate", "zip", "dict_itemiterator", "dict_reverseitemiterator", "odict_iterator", "itertools.zip_longest", "itertools.pairwise"].contains n&&vs[0]? == some (rawInt _))=true then _ else _) Q E s
         rw[if_neg (by intro h;rw[hn,Bool.false_and]at h;cases h)]
         exact Aq hQ))
def Itl(K:W.Frag)(a:Addr):It:=
 ⟨λi H=>∃xs x,SqL K H a xs/\xs[i]?=some x,λi H x H'=>H'=H/\∀xs,SqL K H a xs->xs[i]?=some x,λi H=>∃xs,SqL K H a xs/\xs.length<=i⟩
def Itr(lo:Int)(n:Nat):It:=⟨λi _=>i<n,λi H x H'=>H'=H/\x=.int (lo+i),λi _=>n<=i⟩
def cQ7(a it:Addr):Turn P w K tg (Itl K a) [it] it (λi h=>h.IsListIter it a i) where
 mem:=by simp
 obj:=λi h st b hb=>by
  have e:b=it:=by simpa using hb
  subst e;obtain⟨o,e,c,d⟩:=st;exact⟨o,e,λv z=>by rw[d]at z;cases z⟩
 keep:=λi h h' st k=>st.at λo e=>k it (by simp) o e
 item:=by
  intro X hP hw hK hc i y3 s σ H E I hf st hg;subst hP hw hK;obtain⟨xs,x,hq,hx⟩:=hg;obtain⟨its,rv,p,hz⟩:=I.list hq;obtain⟨u,hu,ru⟩:=rv.get hx;obtain⟨f0,f1,f2,f3,f4,f5⟩:=hf it (by simp)
  refine wpAny_pyNext_list_item st p.isList (x:=u) (by simpa using hu) λh' st' sb=>?_
  have I1:Inv X y3 σ H {s with heap:=h'}:=I.turned (t':=s.toks) (λb o hb e=>(sb.2 b hb).trans e) f0 f1 f3 f4 f5
  obtain⟨o,e,c,d⟩:=id st';exact⟨u,rfl,wF (s:={s with heap:=h'}) e c d (by decide) ⟨x,H,I1,ru,⟨rfl,λys hy=>by rw[I.list_inj hy hq];exact hx⟩,st',λb hb=>(hf b hb).1⟩⟩
 done:=by
  intro X hP hw hK hc i y3 s σ H E I hf st hg;subst hP hw hK;obtain⟨xs,hq,hx⟩:=hg;obtain⟨its,rv,p,hz⟩:=I.list hq;obtain⟨f0,f1,f2,f3,f4,f5⟩:=hf it (by simp)
  have hl:=rv.length
  exact wpAny_pyNext_list_end (I.ok.hd hc) st p.isList (by simp;omega) λh' eb=>⟨rfl,I.turned (t':=s.toks) (λb o hb e=>eb b o hb e) f0 f1 f3 f4 f5⟩
 self:=λ_ _ _ _ _ st h=>wpAny_pyIter_listiter st h
def bXR{K:PySem.W.Frag}(it:Addr)(lo:Int)(n:Nat):Turn P w K tg (Itr lo n) [it] it (λi h=>IsRangeIter h it (lo+(i:Nat)*1) ((n:Int)-(i:Nat)) 1) where
 mem:=by simp
 obj:=λi h st b hb=>by
  have e:b=it:=by simpa using hb
  subst e;exact⟨_,st,λv z=>by
   have z':Data.fields _=Data.cell v:=z
   cases z'⟩
 keep:=λi h h' st k=>k it (by simp) _ st
 item:=by
  intro X hP hw hK hc i y3 s σ H E I hf st hg;subst hP hw hK;obtain⟨f0,f1,f2,f3,f4,f5⟩:=hf it (by simp)
  have W:=Walks.range (prog:=X.prog) (w:=X.w) (I.ok.hd hc) it lo 1 n
  refine W.item i s _ _ hg st λv h' tk hv st' kk=>?_;obtain⟨t,rfl⟩:=hv;have I1:Inv X y3 σ H {s with heap:=h',toks:=tk}:=I.turned (λb o hb e=>kk b o (by simpa using hb) e) f0 f1 f3 f4 f5
  refine⟨_,rfl,wF (s:={s with heap:=h',toks:=tk}) (n := "range_iterator") st' rfl rfl (by decide) ⟨.int (lo+i),H,I1,⟨t,?_⟩,⟨rfl,rfl⟩,st',λb hb=>(hf b hb).1⟩⟩
  rw[Int.mul_one]
 done:=by
  intro X hP hw hK hc i y3 s σ H E I hf st hg;subst hP hw hK;obtain⟨f0,f1,f2,f3,f4,f5⟩:=hf it (by simp)
  exact wpAny_pyNext_range_end (I.ok.hd hc) st (by have:n<=i:=hg;omega) λh' eb=>⟨rfl,I.turned (t':=s.toks) (λb o hb e=>eb b o hb e) f0 f1 f3 f4 f5⟩
 self:=λ_ _ _ _ _ st h=>wpAny_pyIter_rangeiter st h
def aJ1{R:It->Hp->Prop}{lo hi:Int}{t u v:Tok}{tk:Nat}(I:Inv X y3 σ H s)(h1:-(2^62)<=lo)(h2:lo<2^62)(h3:-(2^62)<=hi)(h4:hi<2^62)(q:R (Itr lo (hi-lo).toNat) H):wpAny (model X.prog X.w) X.A (pyIter (.ref s.heap.objs.size)) (PIE X y3 σ tg R) E {s with heap:=s.heap.push {cls:=.type "range",data:=.fields #[.int lo t,.int hi u,.int 1 v]},toks:=tk}:=by
 refine wpAny_pyIter_range (IsRange.new ..) (small_one h1 h2 h3 h4) ?_;have I1:Inv X y3 σ H {s with heap:=s.heap.push {cls:=.type "range",data:=.fields #[.int lo t,.int hi u,.int 1 v]},toks:=tk}:=I.kept λb o e=>Ah _ e
 refine⟨(s.heap.push {cls:=.type "range",data:=.fields #[.int lo t,.int hi u,.int 1 v]}).objs.size,[(s.heap.push {cls:=.type "range",data:=.fields #[.int lo t,.int hi u,.int 1 v]}).objs.size],_,_,H,rfl,
  I1.kept (t':=tk) λb o e=>Ah _ e,bXR _ lo (hi-lo).toNat,?_,λb hb=>?_,q⟩
 ·have e1:lo+((0:Nat):Int)*1=lo:=by simp
  have e2:(((hi-lo).toNat:Nat):Int)-((0:Nat):Int)=Builtin.Range.rangeSize lo hi 1:=by rw[rangeSize_one];split<;>omega
  show IsRangeIter _ _ (lo+((0:Nat):Int)*1) ((((hi-lo).toNat:Nat):Int)-((0:Nat):Int)) 1
  rw[e1,e2];exact Ay _ rfl
 ·have e:b=(s.heap.push {cls:=.type "range",data:=.fields #[.int lo t,.int hi u,.int 1 v]}).objs.size:=by simpa using hb
  subst e;exact I1.fpOk (Ai _) (I1.hok.fresh (Ai _))
def gQN(wi:TI)(g:TG)(tb:TS):TS:=λD σ H=>wi σ H λJ H1=>∃W:Nat->Nat->St->Hp->Prop,(∃m,W 0 m σ H1)/\∀i m σ H,W i m σ H->
 (J.stop i H/\D.nx σ H)\/(J.go i H/\∃N:St->Hp->Prop,(∀σ' H',N σ' H'->∃m',m' < m/\W (i+1) m' σ' H')/\∀x H',J.yld i H x H'->g x σ H' λσ2 H2=>tb {D with nx:=N,ct:=N,bk:=D.nx} σ2 H2)
def rO(fp:List Addr)(h:Heap):List (Addr×Obj):=fp.filterMap λb=>(h.get? b).map λo=>(b,o)
def kQ{o:Obj}(hb:b∈fp)(e:h.get? b=some o):(b,o)∈rO fp h:=Dg.mpr ⟨b,hb,by rw[e];rfl⟩
def bJ3{p:Addr×Obj}(hp:p∈rO fp h):p.1∈fp/\h.get? p.1=some p.2:=by
 obtain⟨b,hb,e⟩:=Dg.mp hp;cases q:h.get? b with
 |none=>rw[q]at e;cases e
 |some o=>
  rw[q]at e;have e':(b,o)=p:=Bo e
  subst e';exact⟨hb,q⟩
def Inv.pinned(I:Inv X y3 σ H s)(hf:∀b∈fp,nL X y3 H b)(ho:∀b∈fp,∃o,s.heap.get? b=some o/\∀v,o.data≠.cell v):Inv X (y3++rO fp s.heap) σ H s:=
 I.pins_of λp hp=>(Bp.mp hp).elim (λz=>I.pin p (Bc _ z)) λz=>by
  obtain⟨hb,e⟩:=bJ3 z;obtain⟨f0,f1,f2,_⟩:=hf p.1 hb;obtain⟨o,e',d⟩:=ho p.1 hb;rw[e]at e';cases e';exact⟨e,f0,f1,f2,d⟩
def Inv.unpinned{pl:Q2}(I:Inv X (y3++pl) σ H s):Inv X y3 σ H s:=I.pins_of λp hp=>I.pin p (Bc _ (Co _ hp))
def fQ4{iter:Expr}{wi:TI}{tb:TS}(hp:PassesOwn (model X.prog X.w) X.A X.env X.xe)(hc:X.calm=true)(hi:PI X tg iter wi)(hg:PG X tg g)(hb:PSs X body tb)(hs:∀x,foldedSetIterable iter X.env x=pure x:=by intro _;rfl):PS X (.For tg iter body [] pos) (gQN wi g tb):=by
 intro y3 s σ H D I h;refine wpAny_For (thn (hi y3 s σ H _ I h) λv s1 h1=>thn h1 λitv s2 h2=>?_) hs;obtain⟨it,fp,tn,J,H2,e,I2,T,st2,f2,W,⟨m0,w0⟩,turn⟩:=h2;subst e
 -- what stays true of the iterator's objects through the loop
 have stat:∀ {H':Hp},(∀b∈fp,H' b=none)->∀b∈fp,nL X y3 H' b:=λhn b hb=>⟨hn b hb,(f2 b hb).2⟩
 refine codeAny_forLoop_any (λn s'=>∃i σ' H',Inv X y3 σ' H' s'/\tn i s'.heap/\(∀b∈fp,H' b=none)/\W i n σ' H') ?_ m0 ⟨0,σ,H2,I2,st2,λb hb=>(f2 b hb).1,w0⟩;rintro n s3 ⟨i,σ3,H3,I3,st3,fr3,w3⟩;rcases turn i n σ3 H3 w3 with⟨stop,qn⟩|⟨go,N,hN,step⟩
 ·refine Ew hp (thn (T.done X rfl rfl rfl hc i y3 s3 σ3 H3 X.xe I3 (stat fr3) st3 stop) λr s4 ⟨hr,I4⟩=>?_);subst hr;exact wpAny_execs_nil ⟨σ3,H3,I4,qn⟩
 ·refine Ew hp (thn (T.item X rfl rfl rfl hc i y3 s3 σ3 H3 X.xe I3 (stat fr3) st3 go) λr s4 ⟨u,hr,h4⟩=>?_);subst hr;refine Ew hp (thn h4 λ_ s5 ⟨x,H5,I5,r5,y5,st5,fr5⟩=>?_);have I5':=I5.pinned (stat fr5) (T.obj _ _ st5)
  refine Ew hp (thn (hg _ s5 σ3 H5 x u _ I5' r5 (step x H5 y5)) λ_ s6 ⟨σ6,H6,I6,q6⟩=>?_);refine Ew hp (thn (hb _ s6 σ6 H6 _ I6 q6) λf s7 q7=>?_);have again:∀ {σ7:St} {H7:Hp},Inv X (y3++rO fp s5.heap) σ7 H7 s7->N σ7 H7->∃m,m<n/\∃i σ' H',Inv X y3 σ' H' s7/\tn i s7.heap/\(∀b∈fp,H' b=none)/\W i m σ' H':=fun {σ7 H7} I7 n7=>by
   obtain⟨m',hm,w7⟩:=hN σ7 H7 n7;refine⟨m',hm,i+1,σ7,H7,I7.unpinned,T.keep _ _ _ st5 λb hb o e=>(I7.pin (b,o) (Bc _ (Bc _ (kQ hb e)))).1,λb hb=>?_,w7⟩;obtain⟨o,e,d⟩:=T.obj _ _ st5 b hb;exact(I7.pin (b,o) (Bc _ (Bc _ (kQ hb e)))).2.1
  cases f with
  |next=>obtain⟨σ7,H7,I7,n7⟩:=q7;exact again I7 n7
  |cont=>obtain⟨σ7,H7,I7,n7⟩:=q7;exact again I7 n7
  |brk=>obtain⟨σ7,H7,I7,q7⟩:=q7;exact⟨σ7,H7,I7.unpinned,q7⟩
  |ret v=>obtain⟨x7,σ7,H7,I7,r7,q7⟩:=q7;exact⟨x7,σ7,H7,I7.unpinned,r7,q7⟩
def dZB{K:PySem.W.Frag}{tb:TS}{D:Ends}(Pv:Nat->St->Hp->Prop)(h0:Pv 0 σ H)(hl:∀i σ H,i<=xs.length->Pv i σ H->SqL K H a xs)(hs:∀i x σ H,xs[i]?=some x->Pv i σ H->g x σ H λσ2 H2=>tb {D with nx:=Pv (i+1),ct:=Pv (i+1),bk:=D.nx} σ2 H2)(hd:∀σ H,Pv xs.length σ H->D.nx σ H):∃W:Nat->Nat->St->Hp->Prop,(∃m,W 0 m σ H)/\∀i m σ H,W i m σ H->
 ((Itl K a).stop i H/\D.nx σ H)\/((Itl K a).go i H/\∃N:St->Hp->Prop,(∀σ' H',N σ' H'->∃m',m' < m/\W (i+1) m' σ' H')/\∀x H',(Itl K a).yld i H x H'->g x σ H' λσ2 H2=>tb {D with nx:=N,ct:=N,bk:=D.nx} σ2 H2):=by
 refine⟨λi m σ H=>m=xs.length-i/\i<=xs.length/\Pv i σ H,⟨xs.length,by simp,Nat.zero_le _,h0⟩,?_⟩
 rintro i m σ H ⟨rfl,hi,p⟩;have q:=hl i σ H hi p
 by_cases hlt:i<xs.length
 ·refine .inr ⟨⟨xs,xs[i],q,by simp[hlt]⟩,Pv (i+1),λσ' H' p'=>⟨xs.length-(i+1),by omega,rfl,hlt,p'⟩,λx H' y=>?_⟩
  obtain⟨e,y⟩:=y;subst e;exact hs i x σ _ (y xs q) p
 ·have e:i=xs.length:=by omega
  subst e;exact .inl ⟨⟨xs,q,Ai _⟩,hd σ H p⟩
def cXX{lo:Int}{n:Nat}{tb:TS}{D:Ends}(Pv:Nat->St->Hp->Prop)(h0:Pv 0 σ H)(hs:∀i σ H,i<n->Pv i σ H->g (.int (lo+i)) σ H λσ2 H2=>tb {D with nx:=Pv (i+1),ct:=Pv (i+1),bk:=D.nx} σ2 H2)(hd:∀σ H,Pv n σ H->D.nx σ H):∃W:Nat->Nat->St->Hp->Prop,(∃m,W 0 m σ H)/\∀i m σ H,W i m σ H->
 ((Itr lo n).stop i H/\D.nx σ H)\/((Itr lo n).go i H/\∃N:St->Hp->Prop,(∀σ' H',N σ' H'->∃m',m' < m/\W (i+1) m' σ' H')/\∀x H',(Itr lo n).yld i H x H'->g x σ H' λσ2 H2=>tb {D with nx:=N,ct:=N,bk:=D.nx} σ2 H2):=by
 refine⟨λi m σ H=>m=n-i/\i<=n/\Pv i σ H,⟨n,by simp,Nat.zero_le _,h0⟩,?_⟩
 rintro i m σ H ⟨rfl,hi,p⟩;by_cases hlt:i<n
 ·refine .inr ⟨hlt,Pv (i+1),λσ' H' p'=>⟨n-(i+1),by omega,rfl,hlt,p'⟩,λx H' y=>?_⟩
  obtain⟨e,y⟩:=y;subst e y;exact hs i σ _ hlt p
 ·have e:i=n:=by omega
  subst e;exact .inl ⟨Ai _,hd σ H p⟩
abbrev R2:=V->V->Hp->VK->Prop
def OpR(X:Cx)(f:Value->Value->Sem Value)(r:R2):Prop:=
 ∀(y3:Q2) (s:Shared) (σ:St) (H:Hp) (x y:V) (v u:Value) (Q:VK),Inv X y3 σ H s->RelV x v->RelV y u->r x y H Q->
  wpAny (model X.prog X.w) X.A (f v u) (EP X y3 σ Q) X.xe s
def UnR(X:Cx)(f:Value->Sem Value)(r:V->Hp->VK->Prop):Prop:=
 ∀(y3:Q2) (s:Shared) (σ:St) (H:Hp) (x:V) (v:Value) (Q:VK),Inv X y3 σ H s->RelV x v->r x H Q->
  wpAny (model X.prog X.w) X.A (f v) (EP X y3 σ Q) X.xe s
def CallR(X:Cx)(f:Value)(r:List V->Hp->VK->Prop):Prop:=
 ∀(y3:Q2) (s:Shared) (σ:St) (H:Hp) (xs:List V) (us:List Value) (Q:VK),Inv X y3 σ H s->Vals xs us->r xs H Q->
  wpAny (model X.prog X.w) X.A (call f us) (EP X y3 σ Q) X.xe s
def gQM(X:Cx)(r:V->Hp->(Bool->Hp->Prop)->Prop):Prop:=
 ∀(y3:Q2) (s:Shared) (σ:St) (H:Hp) (x:V) (v:Value) (Q:Bool->Hp->Prop),Inv X y3 σ H s->RelV x v->r x H Q->
  wpAny (model X.prog X.w) X.A (truthy v) (TP X y3 σ Q) X.xe s
def tOp(r:R2)(ta tb:TE):TE:=λσ H Q=>ta σ H λx H1=>tb σ H1 λy H2=>r x y H2 Q
def tUn(r:V->Hp->VK->Prop)(ta:TE):TE:=λσ H Q=>ta σ H λx H1=>r x H1 Q
def rI(C:Int->Int->Prop)(g:Int->Int->V):R2:=λx y H Q=>∃i j,x=.int i/\y=.int j/\C i j/\Q (g i j) H
def rI0(g:Int->Int->V):R2:=λx y H Q=>∃i j,x=.int i/\y=.int j/\Q (g i j) H
def rU(g:Int->V):V->Hp->VK->Prop:=λx H Q=>∃i,x=.int i/\Q (g i) H
section
variable {a b:Expr}
def fQR(ha:PE X a ta)(hb:PE X b tb){R:V->V->Hp->Prop}(I:Inv X y3 σ H s)(h:ta σ H λx H1=>tb σ H1 λy H2=>R x y H2)(hf:∀v u s2 x y H2,Inv X y3 σ H2 s2->RelV x v->RelV y u->R x y H2->wpAny (model X.prog X.w) X.A (f v u) Q X.xe s2):wpAny (model X.prog X.w) X.A (eval a X.env) (λv s₁=>wpAny (model X.prog X.w) X.A (eval b X.env) (λu s₂=>wpAny (model X.prog X.w) X.A (f v u) Q X.xe s₂) X.xe s₁) X.xe s:=by
 refine thn (ha y3 s σ H _ I h) λv s1 ⟨x,H1,I1,r1,q1⟩=>?_;refine thn (hb y3 s1 σ H1 _ I1 q1) λu s2 ⟨y,H2,I2,r2,q2⟩=>?_;exact hf v u s2 x y H2 I2 r1 r2 q2
def aQ{op:Operator}{r:R2}(ho:OpR X (binaryOp op) r)(ha:PE X a ta)(hb:PE X b tb):PE X (.BinOp a op b pos) (tOp r ta tb):=by
 intro y3 s σ H Q I h;exact wpAny_BinOp (fQR ha hb I h λv u s2 x y H2 I2 rx ry q=>ho y3 s2 σ H2 x y v u Q I2 rx ry q)
def sX{op:UnaryOp}{r:V->Hp->VK->Prop}(ho:UnR X (unaryOp op) r)(ha:PE X a ta):PE X (.UnaryOp op a pos) (tUn r ta):=by
 intro y3 s σ H Q I h;exact UnaryOp_ (thn (ha y3 s σ H _ I h) λv s1 ⟨x,H1,I1,r1,q1⟩=>ho y3 s1 σ H1 x v Q I1 r1 q1)
def opI{C:Int->Int->Prop}{g:Int->Int->Int}(rule:∀(i j:Int) (t u:Tok) (s:Shared) (Q:Q0) (E:Q0),C i j->Q (.int (g i j) s.toks) {s with toks:=s.toks+1}->wpAny (model X.prog X.w) X.A (f (.int i t) (.int j u)) Q E s):OpR X f (rI C λi j=>.int (g i j)):=by
 intro y3 s σ H x y v u Q I rx ry h;obtain⟨i,j,rfl,rfl,hc,q⟩:=h;obtain⟨t,rfl⟩:=rx;obtain⟨t',rfl⟩:=ry;exact rule i j t t' s _ _ hc ⟨.int (g i j),H,I.tok _,⟨_,rfl⟩,q⟩
def fZT{g:Int->Int->Int}(rule:∀(i j:Int) (t u:Tok) (s:Shared) (Q:Q0) (E:Q0),Q (.int (g i j) s.toks) {s with toks:=s.toks+1}->wpAny (model X.prog X.w) X.A (f (.int i t) (.int j u)) Q E s):OpR X f (rI0 λi j=>.int (g i j)):=by
 intro y3 s σ H x y v u Q I rx ry h;obtain⟨i,j,rfl,rfl,q⟩:=h;obtain⟨t,rfl⟩:=rx;obtain⟨t',rfl⟩:=ry;exact rule i j t t' s _ _ ⟨.int (g i j),H,I.tok _,⟨_,rfl⟩,q⟩
def dJ3{g:Int->Int->Bool}(rule:∀(i j:Int) (t u:Tok) (s:Shared) (Q:Q0) (E:Q0),Q (.bool (g i j)) s->wpAny (model X.prog X.w) X.A (f (.int i t) (.int j u)) Q E s):OpR X f (rI0 λi j=>.bl (g i j)):=by
 intro y3 s σ H x y v u Q I rx ry h;obtain⟨i,j,rfl,rfl,q⟩:=h;obtain⟨t,rfl⟩:=rx;obtain⟨t',rfl⟩:=ry;exact rule i j t t' s _ _ ⟨.bl (g i j),H,I,rfl,q⟩
def fZ4(i j:Int):Prop:=0<j/\j<1073741824
def gQJ(i j:Int):Prop:=0<=j/\j<=1000000/\i.natAbs<2^64
def CMul(i j:Int):Prop:=(-(2^64)<i/\i<2^64)\/(-(2^64)<j/\j<2^64)
def CMul.ok{i j:Int}(h:CMul i j):IntMulOk i j:=by
 rcases h with⟨h1,h2⟩|⟨h1,h2⟩
 ·exact .of_left (intBits_le_64 h1 h2)
 ·exact .of_right (intBits_le_64 h1 h2)
def eZG:OpR X (binaryOp .Add) (rI0 λi j=>.int (i+j)):=fZT λ_ _ _ _ _ _ _ q=>add_int q
def op_sub:OpR X (binaryOp .Sub) (rI0 λi j=>.int (i-j)):=fZT λ_ _ _ _ _ _ _ q=>sub_int q
def op_mul:OpR X (binaryOp .Mult) (rI CMul λi j=>.int (i*j)):=opI λ_ _ _ _ _ _ _ hc q=>mul_int q hc.ok
def op_fdiv:OpR X (binaryOp .FloorDiv) (rI fZ4 λi j=>.int (i / j)):=opI λi j _ _ _ _ _ hc q=>by
 have h1:(0:Int)<j:=hc.1
 have h2:j<1073741824:=hc.2
 exact floordiv_int (by omega) (by rw[Int.fdiv_eq_ediv_of_nonneg i (by omega)];exact q) (.inl (PyProof.noPylong_small (by omega)))
def op_mod:OpR X (binaryOp .Mod) (rI (λ_ j=>0<j) λi j=>.int (i%j)):=opI λi j _ _ _ _ _ hc q=>by
 have h1:(0:Int)<j:=hc
 exact mod_int' (by omega) (by rw[Int.fmod_eq_emod_of_nonneg i (by omega)];exact q)
def op_pow:OpR X (binaryOp .Pow) (rI gQJ λi j=>.int (i^j.toNat)):=opI λ_ _ _ _ _ _ _ hc q=>pow_int_small hc.1 hc.2.1 hc.2.2 q
def unI{f:Value->Sem Value}{g:Int->Int}(rule:∀(i:Int) (t:Tok) (s:Shared) (Q:Q0) (E:Q0),Q (.int (g i) s.toks) {s with toks:=s.toks+1}->wpAny (model X.prog X.w) X.A (f (.int i t)) Q E s):UnR X f (rU λi=>.int (g i)):=by
 intro y3 s σ H x v Q I rx h;obtain⟨i,rfl,q⟩:=h;obtain⟨t,rfl⟩:=rx;exact rule i t s _ _ ⟨.int (g i),H,I.tok _,⟨_,rfl⟩,q⟩
def eJX:UnR X (unaryOp .USub) (rU λi=>.int (-i)):=unI λ_ _ _ _ _ q=>neg_int q
end
def dZG:V->V->Bool
 |.non,.non=>true|.non,.int _=>true|.int _,.non=>true|.non,.bl _=>true|.bl _,.non=>true|.non,.str _=>true|.str _,.non=>true
 |.int _,.int _=>true|.bl _,.bl _=>true|.str _,.str _=>true|.byt _,.byt _=>true
 |.int _,.str _=>true|.str _,.int _=>true|.bl _,.str _=>true|.str _,.bl _=>true
 |_,_=>false
def rEq:R2:=λx y H Q=>dZG x y=true/\Q (.bl (decide (x=y))) H
def rNe:R2:=λx y H Q=>dZG x y=true/\Q (.bl (!decide (x=y))) H
def bZX{i j:Int}:decide (V.int i=V.int j)=(i==j):=by
 rw[Gg];simp
def dQL{i j:Bool}:decide (V.bl i=V.bl j)=(i==j):=by
 rw[Gg];simp
def bJY{i j:Str}:decide (V.str i=V.str j)=(i==j):=by
 rw[Gg];simp
def bJR{i j:Array UInt8}:decide (V.byt i=V.byt j)=(i.toList==j.toList):=by
 rw[Gg];cases i;cases j;simp
section
variable {a b:Expr}
def bY{Q:VK}{k k':Bool}(I:Inv X y3 σ H s)(q:Q (.bl k) H)(e:k=k'):EP X y3 σ Q (.bool k') s:=by
 subst e;exact⟨.bl k,H,I,rfl,q⟩
def fXT:OpR X (compareOp .Eq) rEq:=by
 intro y3 s σ H x y v u Q I rx ry h;obtain⟨hs,q⟩:=h;cases x with
 |non=>
  cases rx;cases y with
  |non=>cases ry;exact PySem.EqNone.eq_none_none (bY I q (by simp))
  |bl j=>cases ry;exact PySem.EqNone.eq_none_bool (bY I q (by simp))
  |int j=>obtain⟨t',rfl⟩:=ry;exact PySem.EqNone.eq_none_int (bY I q (by simp))
  |str j=>obtain⟨t',rfl⟩:=ry;exact PySem.EqNone.eq_none_str (bY I q (by simp))
  |_=>exact absurd (show false=true from hs) An
 |bl i=>
  cases rx;cases y with
  |non=>cases ry;exact PySem.EqNone.eq_bool_none (bY I q (by simp))
  |bl j=>cases ry;exact eq_bool (bY I q dQL)
  |str j=>obtain⟨t',rfl⟩:=ry;exact PySem.EqMixed.eq_bool_str (bY I q (by simp))
  |_=>exact absurd (show false=true from hs) An
 |int i=>
  obtain⟨t,rfl⟩:=rx;cases y with
  |non=>cases ry;exact PySem.EqNone.eq_int_none (bY I q (by simp))
  |int j=>obtain⟨t',rfl⟩:=ry;exact eq_int (bY I q bZX)
  |str j=>obtain⟨t',rfl⟩:=ry;exact PySem.EqMixed.eq_int_str (bY I q (by simp))
  |_=>exact absurd (show false=true from hs) An
 |str i=>
  obtain⟨t,rfl⟩:=rx;cases y with
  |non=>cases ry;exact PySem.EqNone.eq_str_none (bY I q (by simp))
  |bl j=>cases ry;exact PySem.EqMixed.eq_str_bool (bY I q (by simp))
  |int j=>obtain⟨t',rfl⟩:=ry;exact PySem.EqMixed.eq_str_int (bY I q (by simp))
  |str j=>obtain⟨t',rfl⟩:=ry;exact eq_str (bY I q bJY)
  |_=>exact absurd (show false=true from hs) An
 |byt i=>
  obtain⟨t,rfl⟩:=rx;cases y with
  |byt j=>obtain⟨t',rfl⟩:=ry;exact W.eq_bytes (bY I q bJR)
  |_=>exact absurd (show false=true from hs) An
 |_=>cases y<;>exact absurd (show false=true from hs) An
def fJA:OpR X (compareOp .NotEq) rNe:=by
 intro y3 s σ H x y v u Q I rx ry h;obtain⟨hs,q⟩:=h;cases x with
 |non=>
  cases rx;cases y with
  |non=>cases ry;exact PySem.EqNone.ne_none_none (bY I q (by simp))
  |bl j=>cases ry;exact PySem.EqNone.ne_none_bool (bY I q (by simp))
  |int j=>obtain⟨t',rfl⟩:=ry;exact PySem.EqNone.ne_none_int (bY I q (by simp))
  |str j=>obtain⟨t',rfl⟩:=ry;exact PySem.EqNone.ne_none_str (bY I q (by simp))
  |_=>exact absurd (show false=true from hs) An
 |bl i=>
  cases rx;cases y with
  |non=>cases ry;exact PySem.EqNone.ne_bool_none (bY I q (by simp))
  |bl j=>cases ry;exact ne_bool (bY I q (Ds not dQL))
  |str j=>obtain⟨t',rfl⟩:=ry;exact PySem.EqMixed.ne_bool_str (bY I q (by simp))
  |_=>exact absurd (show false=true from hs) An
 |int i=>
  obtain⟨t,rfl⟩:=rx;cases y with
  |non=>cases ry;exact PySem.EqNone.ne_int_none (bY I q (by simp))
  |int j=>obtain⟨t',rfl⟩:=ry;exact ne_int (bY I q (Ds not bZX))
  |str j=>obtain⟨t',rfl⟩:=ry;exact PySem.EqMixed.ne_int_str (bY I q (by simp))
  |_=>exact absurd (show false=true from hs) An
 |str i=>
  obtain⟨t,rfl⟩:=rx;cases y with
  |non=>cases ry;exact PySem.EqNone.ne_str_none (bY I q (by simp))
  |bl j=>cases ry;exact PySem.EqMixed.ne_str_bool (bY I q (by simp))
  |int j=>obtain⟨t',rfl⟩:=ry;exact PySem.EqMixed.ne_str_int (bY I q (by simp))
  |str j=>obtain⟨t',rfl⟩:=ry;exact ne_str (bY I q (Ds not bJY))
  |_=>exact absurd (show false=true from hs) An
 |byt i=>
  obtain⟨t,rfl⟩:=rx;cases y with
  |byt j=>obtain⟨t',rfl⟩:=ry;exact W.ne_bytes (bY I q (Ds not bJR))
  |_=>exact absurd (show false=true from hs) An
 |_=>cases y<;>exact absurd (show false=true from hs) An
def op_lt:OpR X (compareOp .Lt) (rI0 λi j=>.bl (decide (i<j))):=dJ3 λ_ _ _ _ _ _ _ q=>lt_int q
def op_le:OpR X (compareOp .LtE) (rI0 λi j=>.bl (decide (i<=j))):=dJ3 λ_ _ _ _ _ _ _ q=>le_int q
def op_gt:OpR X (compareOp .Gt) (rI0 λi j=>.bl (decide (j<i))):=dJ3 λ_ _ _ _ _ _ _ q=>gt_int q
def op_ge:OpR X (compareOp .GtE) (rI0 λi j=>.bl (decide (j<=i))):=dJ3 λ_ _ _ _ _ _ _ q=>ge_int q
def op_in_str:OpR X (compareOp .In) (λx y H Q=>∃i j,x=.str i/\y=.str j/\Q (.bl (!(Builtin.Str.occurrences j i 0 j.length 1).isEmpty)) H):=by
 intro y3 s σ H x y v u Q I rx ry h;obtain⟨i,j,rfl,rfl,q⟩:=h;obtain⟨t,rfl⟩:=rx;obtain⟨t',rfl⟩:=ry;exact in_str (bY I q rfl)
def op_isN:OpR X (compareOp .Is) (λx y H Q=>y=.non/\Q (.bl (decide (x=.non))) H):=by
 intro y3 s σ H x y v u Q I rx ry h;obtain⟨rfl,q⟩:=h;cases ry;refine is_none_gen (bY I q ?_);cases x<;>first
  |(cases rx;rfl)
  |(obtain⟨t,rfl⟩:=rx;rfl)
def op_notN:OpR X (compareOp .IsNot) (λx y H Q=>y=.non/\Q (.bl (!decide (x=.non))) H):=by
 intro y3 s σ H x y v u Q I rx ry h;obtain⟨rfl,q⟩:=h;cases ry;refine isnot_none_gen (bY I q ?_);cases x<;>first
  |(cases rx;rfl)
  |(obtain⟨t,rfl⟩:=rx;rfl)
def bD(b:Expr){op:CmpOp}(h:op≠.In:=by decide)(h2:op≠.NotIn:=by decide):behindInMarks op b=false:=by
 have e1:(op==CmpOp.In)=false:=by cases op<;>first|rfl|exact absurd rfl h
 have e2:(op==CmpOp.NotIn)=false:=by cases op<;>first|rfl|exact absurd rfl h2
 cases b<;>simp[behindInMarks,e1,e2]
def fE{op:CmpOp}{r:R2}(ho:OpR X (compareOp op) r)(ha:PE X a ta)(hb:PE X b tb)(hm:behindInMarks op b=false):PE X (.Compare a [op] [b] pos) (tOp r ta tb):=by
 intro y3 s σ H Q I h;exact wpAny_Compare1 (fQR ha hb I h λv u s2 x y H2 I2 rx ry q=>ho y3 s2 σ H2 x y v u Q I2 rx ry q) hm
def fJC(K:W.Frag)(x:V)(H:Hp)(k:Bool):Prop:=
 match x with
 |.non=>k=false
 |.bl b=>k=b
 |.int i=>k=(i != 0)
 |.str y=>y.length<=sizeLine/\k=((y.length:Int) != 0)
 |.byt y=>y.size<=sizeLine/\k=((y.size:Int) != 0)
 |.ref p=>(∃xs,SqL K H p xs/\k=!xs.isEmpty)\/(∃xs,SqT K H p xs/\k=!xs.isEmpty)\/∃kvs,H p=some (.dK kvs)/\k=!kvs.isEmpty
 |_=>False
def bX8{κ:Type}{kvs:List (κ×V)}{vs:List (κ×Value)}(r:KV kvs vs):(!vs.isEmpty)=!kvs.isEmpty:=by
 cases r<;>rfl
def uN{its:List Value}(r:Vals xs its):(!its.toArray.isEmpty)=!xs.isEmpty:=by
 cases r<;>simp
def jA:(sizeLine:Nat)<2^63:=by rw[Gm];decide
def eJN:gQM X (λx H Q=>∃k,fJC X.K x H k/\Q k H):=by
 intro y3 s σ H x v Q I rx h;obtain⟨k,e,q⟩:=h;have hl:=jA
 have hs:sizeLine=16777216:=Gm
 cases x with
 |non=>
  cases rx;have e':k=false:=e
  subst e';exact truthy_none ⟨H,I,q⟩
 |bl b=>
  cases rx;have e':k=b:=e
  subst e';exact Fp ⟨H,I,q⟩
 |int i=>
  obtain⟨t,rfl⟩:=rx;have e':k=(i != 0):=e
  subst e';exact PySem.P.truthy_int ⟨H,I,q⟩
 |str y=>
  obtain⟨t,rfl⟩:=rx;obtain⟨hy,e'⟩:y.length<=sizeLine/\k=((y.length:Int) != 0):=e;subst e';exact PySem.P.truthy_str (by omega) ⟨H,I.tok _,q⟩
 |byt y=>
  obtain⟨t,rfl⟩:=rx;obtain⟨hy,e'⟩:y.size<=sizeLine/\k=((y.size:Int) != 0):=e;subst e';exact W.truthy_bytes (by omega) ⟨H,I.tok _,q⟩
 |ref p=>
  cases rx;have e':(∃xs,SqL X.K H p xs/\k=!xs.isEmpty)\/(∃xs,SqT X.K H p xs/\k=!xs.isEmpty)\/∃kvs,H p=some (.dK kvs)/\k=!kvs.isEmpty:=e
  rcases e' with⟨xs,hx,e'⟩|⟨xs,hx,e'⟩|⟨kvs,hx,e'⟩
  ·subst e';obtain⟨its,r,pl,hz⟩:=I.list hx;have hlen:=r.length
   exact wpAny_truthy_list pl.isList (by simp only[List.size_toArray];omega) ⟨H,I.tok _,by rw[uN r];exact q⟩
  ·subst e';obtain⟨its,r,pl,hz⟩:=I.tuple hx;have hlen:=r.length
   exact truthy_tuple pl (by simp only[List.size_toArray];omega) ⟨H,I.tok _,by rw[uN r];exact q⟩
  ·subst e';obtain⟨hz,hS,vs,r,m⟩:kvs.length<=sizeLine/\(p==sysModules)=false/\∃vs,KV kvs vs/\s.heap.DictOf (bK X.prog X.w) p vs:=I.hok p _ hx;have hlen:kvs.length=vs.length:=Paired.length r
   exact wpAny_truthy_dict hS m (by omega) ⟨H,I.tok _,by rw[bX8 r];exact q⟩
 |_=>exact(show False from e).elim
def bQ7:OpR X (binaryOp .Add) (λx y H Q=>∃i j,x=.str i/\y=.str j/\i.length+j.length<=sizeLine/\Q (.str (i++j)) H):=by
 intro y3 s σ H x y v u Q I rx ry h;obtain⟨i,j,rfl,rfl,hz,q⟩:=h;obtain⟨t,rfl⟩:=rx;obtain⟨t',rfl⟩:=ry;exact add_str (λt' tk=>⟨.str (i++j),H,I.tok _,⟨_,rfl⟩,q⟩) hz
def eW{x:V}(r:Vals [x] us):∃u,us=[u]/\RelV x u:=by
 cases r with
 |cons r1 r2=>cases r2;exact⟨_,rfl,r1⟩
def cJN{x y:V}(r:Vals [x,y] us):∃u w',us=[u,w']/\RelV x u/\RelV y w':=by
 cases r with
 |cons r1 r2=>
  cases r2 with
  |cons r3 r4=>cases r4;exact⟨_,_,rfl,r1,r3⟩
def call_int1:CallR X (.type "int") (λxs H Q=>(∃i,xs=[.int i]/\Q (.int i) H)\/∃k,xs=[.bl k]/\Q (.int (if k then 1 else 0)) H):=by
 intro y3 s σ H xs us Q I r h;rcases h with⟨i,rfl,q⟩|⟨k,rfl,q⟩
 ·obtain⟨u,rfl,t,rfl⟩:=eW r;exact call_int_int ⟨.int i,H,I,⟨_,rfl⟩,q⟩
 ·obtain⟨u,rfl,r1⟩:=eW r;cases r1;exact call_int_bool ⟨.int (if k then 1 else 0),H,I.tok _,⟨_,rfl⟩,q⟩
def gQC(K:W.Frag)(x:V)(H:Hp)(n:Nat):Prop:=
 match x with
 |.str y=>y.length<=sizeLine/\n=y.length
 |.byt y=>y.size<=sizeLine/\n=y.size
 |.ref p=>(∃xs,SqL K H p xs/\n=xs.length)\/∃xs,SqT K H p xs/\n=xs.length
 |_=>False
def call_len:CallR X (.builtin "len") (λxs H Q=>∃x n,xs=[x]/\gQC X.K x H n/\Q (.int n) H):=by
 intro y3 s σ H xs us Q I r h;obtain⟨x,n,rfl,e,q⟩:=h;obtain⟨u,rfl,rx⟩:=eW r;have hl:=jA
 have hs:sizeLine=16777216:=Gm
 cases x with
 |str y=>
  obtain⟨t,rfl⟩:=rx;obtain⟨hy,e'⟩:y.length<=sizeLine/\n=y.length:=e;subst e';exact len_str (by omega) ⟨.int _,H,I.tok _,⟨_,rfl⟩,q⟩
 |byt y=>
  obtain⟨t,rfl⟩:=rx;obtain⟨hy,e'⟩:y.size<=sizeLine/\n=y.size:=e;subst e';exact W.len_bytes (by omega) ⟨.int _,H,I.tok _,⟨_,rfl⟩,q⟩
 |ref p=>
  cases rx;have e':(∃xs,SqL X.K H p xs/\n=xs.length)\/∃xs,SqT X.K H p xs/\n=xs.length:=e
  rcases e' with⟨xs,hx,e'⟩|⟨xs,hx,e'⟩
  ·subst e';obtain⟨its,r',pl,hz⟩:=I.list hx;have hlen:=r'.length
   exact Calls.call_len_list pl.isList (by simp only[List.size_toArray];omega) ⟨.int xs.length,H,I.tok _,⟨_,by simp only[List.size_toArray];rw[hlen]⟩,q⟩
  ·subst e';obtain⟨its,r',pl,hz⟩:=I.tuple hx;have hlen:=r'.length
   exact len_tuple pl (by simp only[List.size_toArray];omega) ⟨.int xs.length,H,I.tok _,⟨_,by simp only[List.size_toArray];rw[hlen]⟩,q⟩
 |_=>exact(show False from e).elim
end
structure ObjM (h:Heap) (x dx C:Addr) (mA:Str->Option Value):Prop where
 obj:h.get? x=some (W.instObj C dx)
 ns:h.Ns1 dx mA
 ne:dx≠x
def yS{mA:Q4}(n:h.Ns1 dx mA):∃od,h.get? dx=some od/\∀name,W.lookIn name od=some (mA name):=by
 obtain⟨o,es,ep,ho,hd,hk,_,hm⟩:=n;refine⟨o,ho,λname=>?_⟩;have e:=hm name
 unfold nsFind findBy at e;rw[<-Array.find?_toList]at e;unfold W.lookIn;rw[hd];dsimp only;split
 ·rename_i y q
  rw[q]at e;exact Ds some e
 ·rename_i q
  rw[q]at e;have a:es.toList.any (·.refKey)=false:=by
   rw[List.any_eq_false];intro y hy;obtain⟨z,t,hkey⟩:=hk y (Array.mem_toList_iff.mp hy);simp[DictEntry.refKey,hkey]
  have a':¬es.toList.any (·.refKey)=true:=by rw[a];exact An
  rw[if_neg a'];exact Ds some e
def ObjM.look{x:Addr}{mA:Q4}(I:ObjM h x dx C mA):∃od,W.InstAt h x (W.instObj C dx) C (some od)/\∀name,W.lookIn name od=some (mA name):=
 let ⟨od,ho,hl⟩:=yS I.ns
 ⟨od,⟨I.obj,rfl,rfl,ho⟩,hl⟩
section
variable {prog:Program} {x f:Addr} {mA:Q4} {name:Str} {v:Value}
def dJQ{expr:Bool}(X:K.In s.heap)(I:ObjM s.heap x dx C mA)(hg:W.plainGet K C name=true)(hh:W.hasDictIn K C=true)(ha:W.findIn K (.ref C) name=some none)(hv:mA name=some v)(hv':W.handedIn v=true)(h:Q v {s with toks:=s.toks+1}):wpAny (model prog w) A (getAttr (.ref x) name expr) Q E s:=by
 obtain⟨od,J,hl⟩:=I.look;exact W.get_value X J (W.plainGet_of hg).1 (W.findObj_own hh ha rfl (by rw[hl,hv])) hv' h
def dQ7{Q:Value×List Value->Shared->Prop}(X:K.In s.heap)(I:ObjM s.heap x dx C mA)(hg:W.plainGet K C name=true)(hf:W.findIn K (.ref C) name=some (some (.ref f)))(ht:W.isFn K (.ref f)=true)(hv:mA name=none)(h:Q (.ref f,[.ref x]) s):wpAny (model prog w) A (getMethod (.ref x) name pl) Q E s:=by
 obtain⟨od,J,hl⟩:=I.look;exact W.method_fn X J (W.plainGet_of hg).1 (W.plainGet_of hg).2 hf (Gi.mp ht) (by show (W.lookIn name od).map (·.isSome)=some false;rw[hl,hv];rfl) h
def dZ3{ns:List Str}{Q:Unit->Shared->Prop}(X:K.In s.heap)(I:ObjM s.heap x dx C mA)(hs:W.findIn K (.ref C) "__setattr__"=some (some (.builtin "object.__setattr__")))(hp:W.plainOver K C=true)(ht:W.takerIn K C name=some none)(hh:W.hasDictIn K C=true)(hw:PySem.Within mA ns)(hsz:ns.length<=sizeLine)(h:∀h',ObjM h' x dx C (λy=>if y=name then some v else mA y)->Heap.SameBut dx s.heap h'->Q () {s with heap:=h',toks:=s.toks+2}):wpAny (model prog w) A (setAttr (.ref x) name v) Q E s:=by
 obtain⟨od,J,hl⟩:=I.look;refine W.set_plain X J hs (W.osa_open (s:={s with toks:=s.toks+1}) (r:=none) X J hp ht λb=>?_)
 obtain⟨cd,hc,hd'⟩:=W.any_some hh;have hx:s.heap.get? x=some ⟨.ref C,some dx,.plain,#[]⟩:=I.obj
 refine Ae (Aq (Ae (Ae (wpAny_loadPart hx (Ae (W.Looks.here (s:={s with toks:=s.toks+1}) (W.looks_clsIn X hc) ?_))))))
 rw[hd'];refine Aq (a:=some dx) (Ae (Aq (Ae ?_)));refine wpAny_nsSet1 (s:={s with toks:=s.toks+1}) I.ns λh' hn2 hs2=>?_
 obtain⟨oD,esD,epD,hoD,hdD,hcD⟩:=hn2.count (PySem.Within.cons name v hw);refine Ae (wpAny_lookBehind hoD (by rw[hdD];exact pastItsLine_dict (Bi hcD (by rw[Ba];omega))) ?_)
 exact Aq (h _ ⟨(hs2.2 _ (Ne.symm I.ne)).trans I.obj,hn2,I.ne⟩ hs2)
def cZ3{R:Result->Shared->Prop}{vs:List Value}(X:K.In s.heap)(hm:W.makesIn K C=true)(hi:W.findIn K (.ref C) "__init__"=some (some (.ref f)))(hf:W.typeIn K (.ref f)=some (.type "function"))(h:codeAny (model prog w) (A.under (.builtin "type.__call__" ⟨.ref C::vs,kw⟩)) (.call (.ref f) ⟨.ref (s.heap.objs.size+1)::vs,kw⟩) (W.InitBack (s.heap.objs.size+1) R)
 {s with heap:=(s.heap.push W.emptyDict).push (W.instObj C s.heap.objs.size)}):codeAny (model prog w) A (.call (.ref C) ⟨vs,kw⟩) R s:=by
 obtain⟨hh,g,d,t,os⟩:=s;exact W.make_core (W.makes_of X hm) (W.looks_findIn X hi) (λself=>W.bind_fn X self hf) (.inl rfl) h
end
def gD(f:Str)(v:V):List (Str×V)->List (Str×V)
 |[]=>[(f,v)]
 |(g,x)::r=>if g=f then (g,v)::r else (g,x)::gD f v r
def tM(f g:Str)(v:V):∀fs:List (Str×V),(gD f v fs).lookup g=if g=f then some v else fs.lookup g
 |[]=>by
  show List.lookup g [(f,v)]=_
  by_cases h:g=f
  ·have hb:(g==f)=true:=Gi.mpr h
   simp only[List.lookup,hb,if_pos h]
  ·have hb:(g==f)=false:=Cw.mpr h
   simp only[List.lookup,hb,if_neg h]
 |(k,x)::r=>by
  have ih:=tM f g v r
  rw[show gD f v ((k,x)::r)=(if k=f then (k,v)::r else (k,x)::gD f v r) from rfl]
  by_cases hk:k=f
  ·rw[if_pos hk];by_cases h:g=k
   ·have hb:(g==k)=true:=Gi.mpr h
    simp only[List.lookup,hb,if_pos (h.trans hk)]
   ·have hb:(g==k)=false:=Cw.mpr h
    simp only[List.lookup,hb,if_neg (λe:g=f=>h (e.trans hk.symm))]
  ·rw[if_neg hk];by_cases h:g=k
   ·have hb:(g==k)=true:=Gi.mpr h
    simp only[List.lookup,hb,if_neg (λe:g=f=>hk (h.symm.trans e))]
   ·have hb:(g==k)=false:=Cw.mpr h
    simp only[List.lookup,hb];exact ih
def sQ(f:Str)(v:V):∀fs:List (Str×V),f∈(gD f v fs).map (·.1)/\∀g,g∈fs.map (·.1)->g∈(gD f v fs).map (·.1)
 |[]=>⟨by simp[gD],λg h=>by simp at h⟩
 |(k,x)::r=>by
  obtain⟨i1,i2⟩:=sQ f v r;rw[show gD f v ((k,x)::r)=(if k=f then (k,v)::r else (k,x)::gD f v r) from rfl]
  by_cases hk:k=f
  ·rw[if_pos hk];subst hk;exact⟨by simp,λg h=>by simpa using h⟩
  ·rw[if_neg hk];refine⟨?_,λg h=>?_⟩
   ·rw[Aw];exact Ak _ i1
   ·rw[Aw]at h ⊢;rcases Bb.mp h with e|e
    ·exact Bb.mpr (.inl e)
    ·exact Ak _ (i2 g e)
def tF(f:Str)(v:V):∀fs:List (Str×V),(gD f v fs).length<=fs.length+1
 |[]=>by simp[gD]
 |(k,x)::r=>by
  have ih:=tF f v r
  rw[show gD f v ((k,x)::r)=(if k=f then (k,v)::r else (k,x)::gD f v r) from rfl]
  by_cases hk:k=f
  ·rw[if_pos hk,Ba,Ba];omega
  ·rw[if_neg hk,Ba,Ba];omega
def RelO.some_of{v:V}{o:Option Value}(r:RelO (some v) o):∃u,o=some u/\RelV v u:=by
 cases o with
 |none=>exact(show False from r).elim
 |some u=>exact⟨u,rfl,r⟩
def RelO.none_of{o:Option Value}(r:RelO none o):o=none:=by
 cases o with
 |none=>rfl
 |some u=>exact(show False from r).elim
def cQI(r:RelV v u):W.handedIn u=true:=by
 cases v with
 |non=>cases (show u=Value.none from r);rfl
 |bl b=>cases (show u=Value.bool b from r);rfl
 |int i=>obtain⟨t,e⟩:=(show ∃t,u=Value.int i t from r);cases e;rfl
 |str x=>obtain⟨t,e⟩:=(show ∃t,u=Value.str x t from r);cases e;rfl
 |byt b=>obtain⟨t,e⟩:=(show ∃t,u=Value.bytes b t from r);cases e;rfl
 |flt b=>obtain⟨t,e⟩:=(show ∃t,u=Value.float b t from r);cases e;rfl
 |ref a=>cases (show u=Value.ref a from r);rfl
 |ty n=>cases (show u=Value.type n from r);rfl
section
variable {fs:List (Str×V)}
def aXI(hok:HOk P w H h)(e:H a=some (.ins C dx fs)):∃mA,ObjM h a dx C mA/\(∀f,RelO (fs.lookup f) (mA f))/\PySem.Within mA (fs.map (·.1))/\fs.length<=1000/\H dx=some (.own a):=by
 obtain⟨d,z,ne,ob,mA,n,r,q⟩:=(show ObjOk P w H h a (.ins C dx fs) from hok a _ e);exact⟨mA,⟨ob,n,ne⟩,r,q,z,d⟩
end
structure Cls (K:W.Frag) (C:Addr):Prop where
 pg:W.plainGet K C Str.empty=true
 hd:W.hasDictIn K C=true
 po:W.plainOver K C=true
 sa:W.findIn K (.ref C) "__setattr__"=some (some (.builtin "object.__setattr__"))
def Cls.get(c:Cls K C)(f:Str):W.plainGet K C f=true:=c.pg
def NoAttr(K:W.Frag)(C:Addr)(f:Str):Prop:=W.findIn K (.ref C) f=some none
def NoAttr.taker{f:Str}(n:NoAttr K C f):W.takerIn K C f=some none:=by
 unfold W.takerIn;rw[show W.findIn K (.ref C) f=some none from n];rfl
structure Meth (K:W.Frag) (C:Addr) (m:Str) (f:Addr):Prop where
 at_:W.findIn K (.ref C) m=some (some (.ref f))
 fn:W.isFn K (.ref f)=true
 kp:W.keepIn K (.ref f)=true
section
variable {fs:List (Str×V)} {f:Str}
def bQL{b:Bool}(I:Inv X y3 σ H s)(e:H a=some (.ins C dx fs))(c:Cls X.K C)(n:NoAttr X.K C f)(l:fs.lookup f=some v)(h:∀u s',Inv X y3 σ H s'->RelV v u->Q u s'):wpAny (model X.prog X.w) A (getAttr (.ref a) f b) Q E s:=by
 obtain⟨mA,O,r,_,_,_⟩:=aXI I.hok e;obtain⟨u,hu,ru⟩:=RelO.some_of (v:=v) (o:=mA f) (by rw[<-l];exact r f)
 exact dJQ I.kIn O (c.get f) c.hd n hu (cQI ru) (h u _ (I.tok _) ru)
def oY{m:Str}{g:Addr}{Q:Value×List Value->Shared->Prop}(I:Inv X y3 σ H s)(e:H a=some (.ins C dx fs))(c:Cls X.K C)(k:Meth X.K C m g)(l:fs.lookup m=none)(h:Q (.ref g,[.ref a]) s):wpAny (model X.prog X.w) A (getMethod (.ref a) m pl) Q E s:=by
 obtain⟨mA,O,r,_,_,_⟩:=aXI I.hok e;have hn:mA m=none:=RelO.none_of (by rw[<-l];exact r m)
 exact dQ7 I.kIn O (c.get m) k.at_ k.fn hn h
def bXK{y:V}{Q:Unit->Shared->Prop}(I:Inv X y3 σ H s)(e:H a=some (.ins C dx fs))(c:Cls X.K C)(n:NoAttr X.K C f)(hl:fs.length<1000)(ry:RelV y u)(h:∀s',Inv X y3 σ (upd H a (.ins C dx (gD f y fs))) s'->Q () s'):wpAny (model X.prog X.w) A (setAttr (.ref a) f u) Q E s:=by
 obtain⟨mA,O,r,wi,_,ho⟩:=aXI I.hok e;have hz:(fs.map (·.1)).length<=sizeLine:=by rw[Ab,Gm];omega
 refine dZ3 I.kIn O c.sa c.po n.taker c.hd wi hz λh' O' sb=>h _ ?_;have hd:∃o,h'.get? dx=some o:=let ⟨o,_,_,e',_⟩:=O'.ns;⟨o,e'⟩
 refine I.write (x:=a) (e:=dx) (by rw[e];exact True.intro) (.inr ho) (λb q hb z=>(sb.2 b hb).trans z) hd ?_
 refine⟨by rw[aM O.ne];exact ho,?_,O.ne,O'.obj,_,O'.ns,λg=>?_,λg hg=>?_⟩
 ·have:=tF f y fs;omega
 ·show RelO ((gD f y fs).lookup g) (if g=f then some u else mA g)
  rw[tM];by_cases q:g=f
  ·rw[if_pos q,if_pos q];exact ry
  ·rw[if_neg q,if_neg q];exact r g
 ·by_cases q:g=f
  ·rw[q];exact(sQ f y fs).1
  ·refine(sQ f y fs).2 g (wi g λz=>hg ?_);show (if g=f then some u else mA g)=none
   rw[if_neg q];exact z
def Inv.made(I:Inv X y3 σ H s):Inv X y3 σ (upd (upd H s.heap.objs.size (.own (s.heap.objs.size+1))) (s.heap.objs.size+1) (.ins C s.heap.objs.size []))
 {s with heap:=(s.heap.push W.emptyDict).push (W.instObj C s.heap.objs.size)}:=by
 have e1:(s.heap.push W.emptyDict).get? s.heap.objs.size=some W.emptyDict:=Ay s.heap rfl
 have e2:((s.heap.push W.emptyDict).push (W.instObj C s.heap.objs.size)).get? (s.heap.objs.size+1)=some (W.instObj C s.heap.objs.size):=by
  have:=Ay (s.heap.push W.emptyDict) (o:=W.instObj C s.heap.objs.size) rfl
  rwa [Fu]at this
 have e3:(s.heap.push W.emptyDict).Ns s.heap.objs.size (λ_=>none):=⟨W.emptyDict,#[],_,e1,rfl,(λe he=>absurd he (by simp)),λ_=>rfl⟩
 have I1:=I.laid (a:=s.heap.objs.size) (o:=.own (s.heap.objs.size+1)) (h':=s.heap.push W.emptyDict) (t':=s.toks) (λb u q=>Ah _ q) (Ai _) ⟨_,e1⟩
 refine I1.laid (a:=s.heap.objs.size+1) (o:=.ins C s.heap.objs.size []) (t':=s.toks) (λb u q=>Ah _ q) (Nat.le_of_eq (Fu _ _)) ?_;have ne:s.heap.objs.size≠s.heap.objs.size+1:=Bl (Nat.lt_succ_self _)
 refine⟨by rw[aM ne,aH],Da _,ne,e2,λ_=>none,(Heap.Ns1.of_empty e3).at λo q=>Ah _ q,λ_=>True.intro,λy hy=>absurd rfl hy⟩
def bZV{prog:Program}{env:Env}{f:Str}(hb:attributeBase e f env (eval e env)=eval e env)(h:wpAny (model prog w) A (eval e env) (λo s₁=>wpAny (model prog w) A (getAttr o f true) Q E s₁) E s):wpAny (model prog w) A (eval (.Attribute e f pos) env) Q E s:=
 Attribute_any_ h (by rw[arm_eval_Attribute,hb])
end
def fZ6(K:W.Frag)(ta:TE)(f:Str):TE:=λσ H Q=>ta σ H λx H1=>∃a C dx fs v,x=.ref a/\H1 a=some (.ins C dx fs)/\Cls K C/\NoAttr K C f/\fs.lookup f=some v/\Q v H1
def fZI(K:W.Frag)(ta tv:TE)(f:Str):TS:=λD σ H=>tv σ H λy H1=>ta σ H1 λx H2=>∃a C dx fs,x=.ref a/\H2 a=some (.ins C dx fs)/\Cls K C/\NoAttr K C f/\fs.length<1000/\
 D.nx σ (upd H2 a (.ins C dx (gD f y fs)))
section
variable {o value:Expr} {f:Str} {pos':Pos} {tv:TE}
def kG(he:PE X e ta)(hb:attributeBase e f X.env (eval e X.env)=eval e X.env):PE X (.Attribute e f pos) (fZ6 X.K ta f):=by
 intro y3 s σ H Q I h;refine bZV hb (thn (he y3 s σ H _ I h) λu s1 ⟨x,H1,I1,rx,a,C,dx,fs,v,ex,ea,c,n,l,q⟩=>?_);subst ex;obtain rfl:u=Value.ref a:=rx;exact bQL I1 ea c n l λu' s2 I2 ru=>⟨v,H1,I2,ru,q⟩
def lX(ha:PE X o ta)(hv:PE X value tv)(hs:swapsWith value (some (.Attribute o f pos')) pos.line X.env=pure false):PS X (.Assign [.Attribute o f pos'] value pos) (fZI X.K ta tv f):=by
 intro y3 s σ H D I h;refine plainObj_wpAny_Assign_Attribute (thn (hv y3 s σ H _ I h) λu s1 ⟨y,H1,I1,ry,q⟩=>thn (ha y3 s1 σ H1 _ I1 q) λov s2 ⟨x,H2,I2,rx,a,C,dx,fs,ex,ea,c,n,l,q2⟩=>?_) hs;subst ex;obtain rfl:ov=Value.ref a:=rx;exact bXK I2 ea c n l ry λs3 I3=>⟨σ,_,I3,q2⟩
def eXN{m:Str}{apos:Pos}{args:List Expr}(he:PE X e te)(I:Inv X y3 σ H s)(h:te σ H λx H1=>∃a C dx fs g,x=.ref a/\H1 a=some (.ins C dx fs)/\Cls X.K C/\Meth X.K C m g/\fs.lookup m=none/\
 ∀s1,Inv X y3 σ H1 s1->wpAny (model X.prog X.w) X.A (callWith pos (.ref g) [.ref a] (backTo pos (starEach args X.env)) (backToKw pos (keywordEach [] X.env))) Q X.xe s1)(ht:eval (.Call (.Attribute e m apos) args [] pos) X.env=(do
 let ov <-eval e X.env
 standAt apos.atName
 let (f,first) <-holding [ov] (getMethod ov m pl)
 callWith pos f first (backTo pos (starEach args X.env)) (backToKw pos (keywordEach [] X.env)))):wpAny (model X.prog X.w) X.A (eval (.Call (.Attribute e m apos) args [] pos) X.env) Q X.xe s:=by
 refine Fn (pl:=pl) (thn (he y3 s σ H _ I h) λu s1 ⟨x,H1,I1,rx,a,C,dx,fs,g,ex,ea,c,k,l,q⟩=>?_) ht;subst ex;obtain rfl:u=Value.ref a:=rx;exact oY I1 ea c k l (q s1 I1)
end
structure Room (k:Nat) (A:Around):Prop where
 hd:A.handled=none
 dp:A.depth+3*k+5<recursionLimit
 un:A.units+16*k+200<cLine
def Room.mono{j:Nat}(r:Room k A)(h:j<=k):Room j A:=⟨r.hd,by have:=r.dp;omega,by have:=r.un;omega⟩
def Room.deeper(r:Room (k+1) A)(env:Env):Room k (A.deeper env):=
 ⟨r.hd,by have:=r.dp;show A.depth+1+3*k+5<_;omega,by have:=r.un;show A.units+3+16*k+200<_;omega⟩
def bZB:(A.under (.builtin "type.__call__" ⟨.ref C::us,kw⟩)).depth=A.depth+1:=by
 first|rfl|simp[Around.under,Code.weight,Code.isCreation,Code.isGuard,Code.isCaller,Code.frames,Code.isFrame,guardIds]
def bXB:(A.under (.builtin "type.__call__" ⟨.ref C::us,kw⟩)).units=A.units+1:=by
 first|rfl|simp[Around.under,Code.cUnits,Code.frames,Code.isFrame]
def Room.make(r:Room (k+1) A)(C:Addr)(us:List Value)(kw:List (Str×Value)):Room k (A.under (.builtin "type.__call__" ⟨.ref C::us,kw⟩)):=
 ⟨r.hd,by have:=r.dp;rw[bZB];omega,by have:=r.un;rw[bXB];omega⟩
def Room.depth(r:Room k A):A.depth<recursionLimit:=by have:=r.dp;omega
def Room.units(r:Room k A):A.units+64<cLine:=by have:=r.un;omega
def Room.units0(r:Room k A):A.units<cLine:=by have:=r.un;omega
def bQN:TA:=λ_ H Q=>Q [] H
def aQI(ta:TE)(tr:TA):TA:=λσ H Q=>ta σ H λx H1=>tr σ H1 λxs H2=>Q (x::xs) H2
section
variable {X:Cx} {e:Expr} {es:List Expr} {te:TE} {t:TA} {pos:Pos}
def aB:PA X [] bQN:=λ_ _ _ _ H Q I h=>Calls.spliced_nil ⟨[],H,I,.nil,h⟩
def aA(ha:PE X e te)(hr:PA X es t)(hs:starEach (e::es) X.env=(false,eval e X.env)::starEach es X.env:=by rfl):PA X (e::es) (aQI te t):=by
 intro pos y3 s σ H Q I h;rw[hs];show wpAny _ _ (spliced ((false,eval e X.env)::backTo pos (starEach es X.env))) _ _ s
 refine Calls.spliced_cons (thn (ha y3 s σ H _ I h) λu s1 ⟨x,H1,I1,r1,q1⟩=>?_);exact thn (hr pos y3 s1 σ H1 _ I1 q1) λus s2 ⟨xs,H2,I2,r2,q2⟩=>⟨x::xs,H2,I2,.cons r1 r2,q2⟩
def fXG(t:TA):TE:=λσ H Q=>t σ H λxs H1=>xs.length<=sizeLine/\∀p,H1 p=none->Q (.ref p) (upd H1 p (.tup xs))
def fXR(t:TA):TE:=λσ H Q=>t σ H λxs H1=>xs.length<=sizeLine/\∀p,H1 p=none->Q (.ref p) (upd H1 p (.lst xs))
def cW{x1}(h:PA X es t):PE X (.Tuple es x1 pos) (fXG t):=by
 intro y3 s σ H Q I hq;refine wpAny_Tuple_spliced (thn (h pos y3 s σ H _ I hq) λus s1 ⟨xs,H1,I1,r,z,q⟩=>⟨by rw[<-r.length];exact z,?_⟩)
 have hf:H1 s1.heap.objs.size=none:=I1.hok.fresh (Ai _)
 refine⟨.ref s1.heap.objs.size,upd H1 s1.heap.objs.size (.tup xs),I1.laid (t':=s1.toks) (λb u e=>Ah _ e) (Ai _) ?_,rfl,q _ hf⟩;exact⟨z,us,r,⟨_,Ay _ rfl,rfl,_,rfl⟩⟩
def bJ(h:PA X es t):PE X (.List es pos) (fXR t):=by
 intro y3 s σ H Q I hq;refine wpAny_List_spliced (thn (h pos y3 s σ H _ I hq) λus s1 ⟨xs,H1,I1,r,z,q⟩=>⟨by rw[<-r.length];exact z,?_⟩)
 have hf:H1 s1.heap.objs.size=none:=I1.hok.fresh (Ai _)
 refine⟨.ref s1.heap.objs.size,upd H1 s1.heap.objs.size (.lst xs),I1.laid (t':=s1.toks) (λb u e=>Ah _ e) (Ai _) ?_,rfl,q _ hf⟩;exact⟨z,us,0,r,Ay _ rfl⟩
end
abbrev Sp:=List V->Hp->VK->XK->Prop
abbrev CXT:=List Env->Hp->Shared->XK->Value->Shared->Prop
structure Env0 (P:Program) (w:World) (K:W.Frag) (mg:Str->Option Value) (base:Heap) (A:Around) (outer:List Env) (s:Shared) (H:Hp):Prop where
 frames:A.frames=some outer
 mod:Mod K mg base
 bs:∀b o,base.get? b=some o->s.heap.get? b=some o/\H b=none
 bsz:base.objs.size<=s.heap.objs.size
 funs:s.heap.FunFrames base outer
 frf:∀b∈frs outer,H b=none
 hok:HOk P w H s.heap
 bare:AllBare s.gens
def CE(outer:List Env)(P:Program)(w:World)(H:Hp)(s:Shared)(Q:VK)(u:Value)(s':Shared):Prop:=
 ∃v H',s'.os=s.os/\AllBare s'.gens/\Un (frs outer) [] H H' s.heap s'.heap/\HOk P w H' s'.heap/\RelV v u/\Q v H'
def CR(CX:CXT)(outer:List Env)(P:Program)(w:World)(H:Hp)(s:Shared)(Q:VK)(E:XK)(r:Result)(s':Shared):Prop:=
 match r with
 |.ok (.ret u)=>CE outer P w H s Q u s'
 |.ok _=>False
 |.error e=>CX outer H s E e s'
structure FnOk (P:Program) (w:World) (K:W.Frag) (mg:Str->Option Value) (base:Heap) (CX:CXT) (k:Nat) (f:Addr) (fd:FuncData) (ps:List Str) (sp:Sp):Prop where
 len:∀vs H Q E,sp vs H Q E->vs.length=ps.length
 run:∀(A:Around) (outer:List Env) (s:Shared) (H:Hp) (args:Args) (us:List Value) (vs:List V) (Q:VK) (E:XK),Room k A->Env0 P w K mg base A outer s H->BindsTo s fd args (ps.zip us)->Vals vs us->sp vs H Q E->
  codeAny (model P w) A (.call (.ref f) args) (CR CX outer P w H s Q E) s
def Env0.make{mg:Q4}{base:Heap}{outer:List Env}(e:Env0 P w K mg base A outer s H)(C:Addr)(us:List Value)(kw:List (Str×Value)):Env0 P w K mg base (A.under (.builtin "type.__call__" ⟨.ref C::us,kw⟩)) outer s H:=⟨by first|exact e.frames|(simpa [Around.under,Code.envs,Code.isFrame,pushEnvs]using e.frames),e.mod,e.bs,e.bsz,e.funs,e.frf,e.hok,e.bare⟩
section
variable {s':Shared}
def Inv.env0(I:Inv X y3 σ H s):Env0 X.prog X.w X.K X.mg X.base X.A X.stack s H:=
 ⟨I.ok.frames,I.ok.mod,I.bs,Bi I.ok.bsz I.sz,I.stack,I.stkFree,I.hok,I.bare⟩
def Inv.after{Q:VK}(I:Inv X y3 σ H s)(h:CE X.stack X.prog X.w H s Q u s'):EP X y3 σ Q u s':=by
 obtain⟨v,H',os,bare,un,hok,r,q⟩:=h;obtain⟨hh,g,d,t,os'⟩:=s';obtain rfl:os'=s.os:=os;exact⟨v,H',I.call (h':=hh) (g':=g) (d':=d) (t':=t) (ch:=[]) un hok bare (λb z=>absurd z (by simp)),r,q⟩
end
def aJT(sp:Sp)(dvs:List V)(E:XK)(t:TA):TE:=λσ H Q=>t σ H λvs H1=>sp (vs++dvs) H1 Q E
def cZN(C:Addr)(m:Str)(sp:Sp)(dvs:List V)(E:XK)(ta:TE)(t:TA):TE:=λσ H Q=>ta σ H λx H1=>∃a dx fs,x=.ref a/\H1 a=some (.ins C dx fs)/\fs.lookup m=none/\
 t σ H1 λvs H2=>sp (x::(vs++dvs)) H2 Q E
def dXU(C:Addr)(sp:Sp)(dvs:List V)(E:XK)(t:TA):TE:=λσ H Q=>t σ H λvs H1=>∀x dx,H1 x=none->H1 dx=none->dx≠x->
 sp (.ref x::(vs++dvs)) (upd (upd H1 dx (.own x)) x (.ins C dx [])) (λv H2=>v=.non/\Q (.ref x) H2) E
def Binds(K:W.Frag)(fd:FuncData)(ps:List Str)(ds:List Value):Prop:=
 ∀(s:Shared) (us:List Value),K.In s.heap->(us++ds).length=ps.length->BindsTo s fd ⟨us,[]⟩ (ps.zip (us++ds))
def Binds.all{fd:FuncData}(h:∀us:List Value,us.length=ps.length->bindArgs fd ⟨us,[]⟩=pure (ps.zip us)):Binds K fd ps []:=λs us _ hl=>by
 rw[Bj]at hl ⊢;exact .of_eq (h us hl)
def kF(CX:CXT)(X:Cx)(E:XK):Prop:=∀(y3:List (Addr×Obj)) (σ:St) (H:Hp) (s:Shared) (e:Value) (s':Shared),Inv X y3 σ H s->CX X.stack H s E e s'->X.xe e s'
section
variable {CX:CXT} {f:Addr} {fd:FuncData} {sp:Sp} {dvs:List V} {ds:List Value} {E:XK} {m:Str} {p apos:Pos} {o:Expr}
def cJC{Q:VK}{vs:List V}(F:FnOk X.prog X.w X.K X.mg X.base CX k f fd ps sp)(hr:Room k X.A)(hb:Binds X.K fd ps ds)(hd:Vals dvs ds)(hx:kF CX X E)(I:Inv X y3 σ H s)(r:Vals vs us)(h:sp (vs++dvs) H Q E):wpAny (model X.prog X.w) X.A (call (.ref f) us) (EP X y3 σ Q) X.xe s:=by
 have r2:Vals (vs++dvs) (us++ds):=r.append hd
 have hl:(us++ds).length=ps.length:=by rw[<-r2.length];exact F.len _ _ _ _ h
 refine Ep (Ei (F.run X.A X.stack s H ⟨us,[]⟩ (us++ds) (vs++dvs) Q E hr I.env0 (hb s us I.kIn hl) r2 h) λr s' hq=>?_);cases r with
 |error e=>exact hx y3 σ H s e s' I hq
 |ok fl=>
  cases fl with
  |ret u=>exact I.after hq
  |next=>exact False.elim hq
  |brk=>exact False.elim hq
  |cont=>exact False.elim hq
def bJC(F:FnOk X.prog X.w X.K X.mg X.base CX k f fd ps sp)(hr:Room k X.A)(hg:Gl X x)(hm:X.mg x=some (.ref f))(hk:W.keepIn X.K (.ref f)=true)(hb:Binds X.K fd ps ds)(hd:Vals dvs ds)(hx:kF CX X E)(ha:PA X (e::es) t)(hdb:(x==("__debug__" : Str))=false:=by decide)(he:starEach (e::es) X.env=(false,eval e X.env)::starEach es X.env:=by rfl)(hpl:(backTo pos (starEach es X.env)).any (·.1)=false:=by rfl):PE X (.Call (.Name x p) (e::es) [] pos) (aJT sp dvs E t):=by
 intro y3 s σ H Q I h;refine Dh (fS I hg hm ?_ hdb);refine Er (h₀:=X.base) I.ok.mod.kin hk (thn (ha pos y3 s σ H _ I h) λus s1 ⟨vs,H1,I1,r,q⟩=>⟨I1.kIn,?_⟩) he hpl;exact cJC F hr hb hd hx I1 r q
def dQ4{pl:Sem Bool}(he:PE X o ta)(c:Cls X.K C)(hm:Meth X.K C m f)(F:FnOk X.prog X.w X.K X.mg X.base CX k f fd ps sp)(hr:Room k X.A)(hb:Binds X.K fd ps ds)(hd:Vals dvs ds)(hx:kF CX X E)(ht:eval (.Call (.Attribute o m apos) [] [] pos) X.env=(do
 let ov <-eval o X.env
 standAt apos.atName
 let (f,first) <-holding [ov] (getMethod ov m pl)
 callWith pos f first (backTo pos (starEach [] X.env)) (backToKw pos (keywordEach [] X.env))):=by rfl):PE X (.Call (.Attribute o m apos) [] [] pos) (cZN C m sp dvs E ta bQN):=by
 intro y3 s σ H Q I h;refine Fn (pl:=pl) (thn (he y3 s σ H _ I h) λu s1 ⟨x,H1,I1,rx,a,dx,fs,ex,ea,l,q⟩=>?_) ht;subst ex;obtain rfl:u=Value.ref a:=rx;refine oY I1 ea c hm l ?_;exact W.callWith_K0 (first:=[.ref a]) I1.kIn hm.kp (cJC (us:=[.ref a]) (vs:=[.ref a]) F hr hb hd hx I1 (.cons rfl .nil) q)
structure Mk (K:W.Frag) (C f:Addr):Prop where
 makes:W.makesIn K C=true
 init:W.findIn K (.ref C) "__init__"=some (some (.ref f))
 fn:W.isFn K (.ref f)=true
 kp:W.keepIn K (.ref C)=true
def dQD{Q:VK}{vs:List V}(M:Mk X.K C f)(F:FnOk X.prog X.w X.K X.mg X.base CX k f fd ps sp)(hr:Room (k+1) X.A)(hb:Binds X.K fd ps ds)(hd:Vals dvs ds)(hx:kF CX X E)(I:Inv X y3 σ H s)(r:Vals vs us)(h:∀x dx,H x=none->H dx=none->dx≠x->sp (.ref x::(vs++dvs)) (upd (upd H dx (.own x)) x (.ins C dx [])) (λv H2=>v=.non/\Q (.ref x) H2) E):wpAny (model X.prog X.w) X.A (call (.ref C) us) (EP X y3 σ Q) X.xe s:=by
 have hq:=h (s.heap.objs.size+1) s.heap.objs.size (I.hok.fresh (Nat.le_succ _)) (I.hok.fresh (Ai _)) (Bl (Nat.lt_succ_self _))
 have I2:=Inv.made (C:=C) I
 have r2:Vals (V.ref (s.heap.objs.size+1)::(vs++dvs)) (Value.ref (s.heap.objs.size+1)::(us++ds)):=.cons rfl (r.append hd)
 have hl:(Value.ref (s.heap.objs.size+1)::us++ds).length=ps.length:=by
  have e:=r2.length
  rw[F.len _ _ _ _ hq]at e;exact e.symm
 refine Ep (cZ3 (f:=f) I.kIn M.makes M.init (Gi.mp M.fn) (Ei (F.run _ X.stack _ _ ⟨Value.ref (s.heap.objs.size+1)::us,[]⟩ (Value.ref (s.heap.objs.size+1)::(us++ds)) _ _ E (hr.make C us [])
  (I2.env0.make C us []) (hb _ (Value.ref (s.heap.objs.size+1)::us) I2.kIn hl) r2 hq) λr s' hq'=>?_))
 cases r with
 |error e=>exact hx y3 σ _ _ e s' I2 hq'
 |ok fl=>
  cases fl with
  |ret u=>
   obtain⟨v,H',I3,rv,ev,q3⟩:=I2.after hq';subst ev;exact⟨rv,⟨V.ref (s.heap.objs.size+1),H',I3,rfl,q3⟩⟩
  |next=>exact False.elim hq'
  |brk=>exact False.elim hq'
  |cont=>exact False.elim hq'
def dJT(M:Mk X.K C f)(F:FnOk X.prog X.w X.K X.mg X.base CX k f fd ps sp)(hr:Room (k+1) X.A)(hg:Gl X x)(hm:X.mg x=some (.ref C))(hb:Binds X.K fd ps ds)(hd:Vals dvs ds)(hx:kF CX X E)(ha:PA X (e::es) t)(hdb:(x==("__debug__" : Str))=false:=by decide)(he:starEach (e::es) X.env=(false,eval e X.env)::starEach es X.env:=by rfl)(hpl:(backTo pos (starEach es X.env)).any (·.1)=false:=by rfl):PE X (.Call (.Name x p) (e::es) [] pos) (dXU C sp dvs E t):=by
 intro y3 s σ H Q I h;refine Dh (fS I hg hm ?_ hdb);refine Er (h₀:=X.base) I.ok.mod.kin M.kp (thn (ha pos y3 s σ H _ I h) λus s1 ⟨vs,H1,I1,r,q⟩=>⟨I1.kIn,?_⟩) he hpl;exact dQD M F hr hb hd hx I1 r q
end
def PK(X:Cx)(kws:List Keyword)(t:TA):Prop:=
 ∀(pos:Pos) (y3:Q2) (s:Shared) (σ:St) (H:Hp) (Q:List V->Hp->Prop),Inv X y3 σ H s->t σ H Q->wpAny (model X.prog X.w) X.A (evalAll ((backToKw pos (keywordEach kws X.env)).map (·.2))) (AP X y3 σ Q) X.xe s
section
variable {kpos:Pos} {kws:List Keyword} {nm:Option Str}
def bZG:PK X [] bQN:=λ_ _ _ _ H Q I h=>wpAny_evalAll_nil ⟨[],H,I,.nil,h⟩
def aXR(ha:PE X e te)(hr:PK X kws t):PK X (⟨nm,e,kpos⟩::kws) (aQI te t):=by
 intro pos y3 s σ H Q I h;show wpAny _ _ (evalAll ((do let v <-eval e X.env;standAt pos;pure v)::(backToKw pos (keywordEach kws X.env)).map (·.2))) _ _ s
 refine wpAny_evalAll_cons (Ae (thn (ha y3 s σ H _ I h) λu s1 ⟨x,H1,I1,r1,q1⟩=>Ae (Fl (Aq ?_))));exact thn (hr pos y3 s1 σ H1 _ I1 q1) λus s2 ⟨xs,H2,I2,r2,q2⟩=>⟨x::xs,H2,I2,.cons r1 r2,q2⟩
end
structure FnScope (N P:List Str) (sc:Scope):Prop where
 kind:sc.kind=.function
 co:sc.isCoroutine=false
 gen:sc.isGenerator=false
 nd:N.Nodup
 pre:N.take P.length=P
 par:∀x∈P,sc.names.lookup x=some .local\/sc.names.lookup x=some .cell
 nofree:∀y∈sc.names,y.2≠.free
def aQM:∀ {binds:List (Str×Value)} {m:Q4},(∀v,(x,v)∉binds)->bindL kindOf binds m x=m x
 |[],_,_=>rfl
 |(n,v)::r,m,h=>by
  unfold bindL;rw[aQM λw hw=>h w (Ak _ hw)];split
  ·have:x≠n:=by rintro rfl;exact h v Aj
   simp[this]
  ·rfl
def zK:∀ {binds:List (Str×Value)} {m:Q4},(∀v,(x,v)∉binds)->bindC kindOf binds m x=m x
 |[],_,_=>rfl
 |(n,v)::r,m,h=>by
  unfold bindC;rw[zK λw hw=>h w (Ak _ hw)];split
  ·rfl
  ·have:x≠n:=by rintro rfl;exact h v Aj
   simp[this]
def zE{v:Value}:∀ {P:List Str} {vs:List Value} {i:Nat} {m:Q4},P.Nodup->P[i]?=some x->vs[i]?=some v->kindOf x=some .local->
 bindL kindOf (P.zip vs) m x=some v
 |[],_,_,_,_,h,_,_=>by simp at h
 |_::_,[],_,_,_,_,h,_=>by simp at h
 |p::P,w::vs,0,m,nd,h1,h2,hk=>by
  simp at h1 h2;subst h1;subst h2;show bindL kindOf ((p,w)::P.zip vs) m p=_
  unfold bindL;rw[aQM λv hv=>(Cy.mp nd).1 (Fk hv).1,if_pos hk];simp
 |p::P,w::vs,i+1,m,nd,h1,h2,hk=>by
  show bindL kindOf ((p,w)::P.zip vs) m x=_
  unfold bindL;exact zE (i:=i) (List.nodup_cons.mp nd).2 (by simpa using h1) (by simpa using h2) hk
def zV{v:Value}:∀ {P:List Str} {vs:List Value} {i:Nat} {m:Q4},P.Nodup->P[i]?=some x->vs[i]?=some v->kindOf x≠some .local->
 bindC kindOf (P.zip vs) m x=some v
 |[],_,_,_,_,h,_,_=>by simp at h
 |_::_,[],_,_,_,_,h,_=>by simp at h
 |p::P,w::vs,0,m,nd,h1,h2,hk=>by
  simp at h1 h2;subst h1;subst h2;show bindC kindOf ((p,w)::P.zip vs) m p=_
  unfold bindC;rw[zK λv hv=>(Cy.mp nd).1 (Fk hv).1,if_neg hk];simp
 |p::P,w::vs,i+1,m,nd,h1,h2,hk=>by
  show bindC kindOf ((p,w)::P.zip vs) m x=_
  unfold bindC;exact zV (i:=i) (List.nodup_cons.mp nd).2 (by simpa using h1) (by simpa using h2) hk
def lT(N:List Str)(vs:List V):St:=vs.map some++List.replicate (N.length-vs.length) none
def iB(CX:CXT)(P:Program)(w:World)(K:W.Frag)(mg:Str->Option Value)(base:Heap)(N:List Str)(qual:Str)(scope:Scope)(f:Addr)(cd:Value)(A:Around)(outer:List Env)(s:Shared)(H:Hp)(E:XK):Cx where
 prog:=P
 w:=w
 K:=K
 mg:=mg
 base:=base
 A:=A.deeper (envOfC qual scope s.heap.objs.size f cd)
 N:=N
 s₀:=s
 H₀:=H
 env:=envOfC qual scope s.heap.objs.size f cd
 outer:=outer
 stack:=envOfC qual scope s.heap.objs.size f cd::outer
 ex:=[]
 calm:=true
 fn:=λ_=>true
 pn:=[]
 xe:=λe s'=>wpAny (model P w) (A.deeper (envOfC qual scope s.heap.objs.size f cd)) (leaving (envOfC qual scope s.heap.objs.size f cd) e) (λ_ s''=>CX outer H s E e s'') (λe' s''=>CX outer H s E e' s'') s'
def cE{sc:Scope}{n:Nat}(h:sc.names.lookup x=some .cell):∃c,(cellsFrom n sc.names []).lookup x=some c:=by
 have q:=Gu sc.names n [] (.inl h)
 exact Ea.mp q
def aQA{CX:CXT}{mg:Q4}{base:Heap}{qual:Str}{scope:Scope}{f:Addr}{cd:Value}{outer:List Env}{s1:Shared}{E:XK}{vs:List V}(S:FnScope N ps scope)(hd:A.handled=none)(e0:Env0 P w K mg base A outer s H)(hl:vs.length=ps.length)(r:Vals vs us)(x:InCallC s s.heap.objs.size (bindL (envOfC qual scope s.heap.objs.size f cd).kindOf (ps.zip us) λ_=>none) (cellsFrom (s.heap.objs.size+1) scope.names []) (bindC (envOfC qual scope s.heap.objs.size f cd).kindOf (ps.zip us) λ_=>none) s1):Inv (iB CX P w K mg base N qual scope f cd A outer s H E) [] (lT N vs) H s1:=by
 have hpl:ps.length<=N.length:=by have:=Ds List.length S.pre;rw[Bt]at this;omega
 obtain⟨h1,tk,rfl,hk⟩:=x.done;have noA:∀b:Addr,b∉(iB CX P w K mg base N qual scope f cd A outer s H E).ex:=λb z=>absurd (show b∈([]:List Addr) from z) (by simp)
 refine⟨⟨e0.mod,S.kind,rfl,rfl,Ai _,λy z c h1 h2=>?_,λy hy=>?_,λy c _ h=>?_,λ_=>hd,Around.frames_deeper e0.frames,.inr ⟨rfl,rfl⟩,λb z=>absurd z (noA b),e0.bs,e0.bsz,λb _ _=>noA b,λb z=>absurd z (noA b),e0.funs,e0.frf⟩,
  rfl,e0.bare,Un.kept hk,⟨_,x.toInCall.ns,λi y v h1 h2 h3=>?_⟩,λy c h=>⟨_,x.cell y c h⟩,e0.hok.fresh (Nat.le_refl _),λy c h=>?_,λp hp=>absurd (show p∈([]:Q2) from hp) (by simp),e0.hok.kept hk,?_⟩
 ·exact name_of_addr x.apart (Dm h1) (Dm h2)
 ·have hy:scope.names.lookup y=some .cell\/scope.names.lookup y=some .free:=hy
  rcases hy with hy|hy
  ·exact cE hy
  ·exact absurd rfl (S.nofree _ (Dm hy))
 ·exact Nat.le_of_lt (x.above y c (Dm h))
 ·have hi:i<vs.length:=by
   unfold lT at h2;by_cases hi:i<vs.length
   ·exact hi
   ·rw[List.getElem?_append_right (by simpa using hi)]at h2
    rw[Gp]at h2;split at h2<;>cases h2
  have ha:vs[i]?=some v:=by
   unfold lT at h2;rw[List.getElem?_append_left (by simpa using hi),List.getElem?_map]at h2
   cases e:vs[i]? with
   |none=>rw[e]at h2;cases h2
   |some a=>rw[e]at h2;cases h2;rfl
  obtain⟨u,hu,rv⟩:=r.get ha;have hp:ps[i]?=some y:=by
   rw[<-S.pre,List.getElem?_take_of_lt (by omega)];exact h1
  have ndP:ps.Nodup:=by rw[<-S.pre];exact S.nd.sublist (Gv _ _)
  refine⟨u,rv,?_⟩;rcases S.par y (Ao hp) with k|k
  ·exact .inl ⟨k,zE ndP hp hu k⟩
  ·obtain⟨c,e⟩:=cE (n:=s.heap.objs.size+1) k;refine .inr ⟨.inl k,c,e,?_⟩;have q:=x.cell y c e
   rw[zV ndP hp hu (by show scope.names.lookup y≠_;rw[k];decide)]at q
   exact q
 ·exact e0.hok.fresh (Nat.le_of_lt (x.above y c (Dm h)))
 ·unfold lT;show _=N.length
  rw[Af,Ab,Dn];omega
def eXF{CX:CXT}{mg:Q4}{base:Heap}{f:Addr}{name qual:Str}{params:Arguments}{scope:Scope}{dV kV doc pm cdv ct oc:Value}{an od:Option Addr}{osl:Array (Option Value)}{sp:Sp}(lk:K.lookup f=some ⟨oc,od,.func (W.fnOf name qual params body scope dV kV doc pm an cdv ct),osl⟩)(hcd:W.codeIn K cdv qual=true)(S:FnScope N ps scope)(len:∀vs H Q E,sp vs H Q E->vs.length=ps.length)(hbody:∀(A:Around) (outer:List Env) (s:Shared) (H:Hp) (vs:List V) (Q:VK) (E:XK),Room k (A.deeper (envOfC qual scope s.heap.objs.size f cdv))->sp vs H Q E->
 ∃t,PSs (iB CX P w K mg base N qual scope f cdv A outer s H E) body t/\t {nx:=λ_ H'=>Q .non H',rt:=Q} (lT N vs) H):FnOk P w K mg base CX (k+1) f (W.fnOf name qual params body scope dV kV doc pm an cdv ct) ps sp:=by
 refine⟨len,λA outer s H args us vs Q E hr e0 hb r hsp=>?_⟩;have hl:=len _ _ _ _ hsp
 have KX:K.In s.heap:=e0.mod.kin.keeps λb o e=>(e0.bs b o e).1
 have lim:s.heap.NoLimit:=e0.mod.nolimit.keeps λb o e=>(e0.bs b o e).1
 have hkind:∀y∈ps.zip us,scope.names.lookup y.1=some .local\/(scope.names.lookup y.1=some .cell/\((cellsFrom (s.heap.objs.size+1) scope.names []).lookup y.1).isSome=true):=λ⟨n,v⟩ hy=>by
  rcases S.par n (Fk hy).1 with q|q
  ·exact .inl q
  ·exact .inr ⟨q,Gu _ _ _ (.inl q)⟩
 refine codeAny_call_function hr.depth (KX _ _ lk) rfl S.co S.gen rfl (W.codeRec_of KX hcd) (hb _ _ _ _ ?_);refine wpAny_newFunctionEnv_cells S.kind hkind λenv he s1 x=>?_;subst he;refine⟨lim.keeps x.toInCall.keep,codeAny_func ?_⟩;obtain⟨t,ht,hq⟩:=hbody A outer s H vs Q E (hr.deeper _) hsp;have I:Inv (iB CX P w K mg base N qual scope f cdv A outer s H E) [] (lT N vs) H s1:=aQA S hr.hd e0 hl r x
 refine Cq (ht [] s1 (lT N vs) H _ I hq) (λfl s' hs=>?_) λe s' hs=>hs;have fin:∀ {σ':St} {H':Hp} {v:V} {u:Value},Inv (iB CX P w K mg base N qual scope f cdv A outer s H E) [] σ' H' s'->RelV v u->Q v H'->CE outer P w H s Q u s':=
  fun {σ' H' v u} J rv q=>⟨v,H',J.os,J.bare,J.base,J.hok,rv,q⟩
 cases fl with
 |ret u=>
  obtain⟨v,σ',H',J,rv,q⟩:=hs;exact fin J rv q
 |next=>
  obtain⟨σ',H',J,q⟩:=hs;exact fin (v:=V.non) (u:=Value.none) J rfl q
 |brk=>
  obtain⟨_,_,_,q⟩:=hs;exact False.elim q
 |cont=>
  obtain⟨_,_,_,q⟩:=hs;exact False.elim q
section
variable {p:Pos} {id T:String} {r:List V->Hp->VK->Prop}
def tCB(r:List V->Hp->VK->Prop)(t:TA):TE:=λσ H Q=>t σ H λvs H1=>r vs H1 Q
def aX(hc:CallR X (.builtin id) r)(hg:Gl X x)(hm:X.mg x=none)(hv:bootBuiltins x=some (.builtin id))(ha:PA X (e::es) t)(hn:x≠"__name__" := by decide)(hdb:(x==("__debug__" : Str))=false:=by decide)(he:starEach (e::es) X.env=(false,eval e X.env)::starEach es X.env:=by rfl)(hpl:(backTo pos (starEach es X.env)).any (·.1)=false:=by rfl):PE X (.Call (.Name x p) (e::es) [] pos) (tCB r t):=by
 intro y3 s σ H Q I h;refine Dh (iS I hg hm hv ?_ hn hdb);exact PyProof.Rows.callWith_builtin1 (thn (ha pos y3 s σ H _ I h) λus s1 ⟨vs,H1,I1,r1,q1⟩=>hc y3 s1 σ H1 vs us Q I1 r1 q1) he hpl
def cF(hc:CallR X (.type T) r)(hg:Gl X x)(hm:X.mg x=none)(hv:bootBuiltins x=some (.type T))(ha:PA X (e::es) t)(hn:x≠"__name__" := by decide)(hdb:(x==("__debug__" : Str))=false:=by decide)(he:starEach (e::es) X.env=(false,eval e X.env)::starEach es X.env:=by rfl)(hpl:(backTo pos (starEach es X.env)).any (·.1)=false:=by rfl):PE X (.Call (.Name x p) (e::es) [] pos) (tCB r t):=by
 intro y3 s σ H Q I h;refine Dh (iS I hg hm hv ?_ hn hdb);exact Df (thn (ha pos y3 s σ H _ I h) λus s1 ⟨vs,H1,I1,r1,q1⟩=>hc y3 s1 σ H1 vs us Q I1 r1 q1) he hpl
end
end L2
namespace HT
open PySem PyProof.Rows
def sIx(n d:Nat):Option Int->Nat
 |none=>d
 |some v=>if v<0 then (v+(n:Int)).toNat else min v.toNat n
end HT
namespace L2
open PySem PySem.Spec PyProof.Rows
variable {H:Hp}{X:Cx}{its:List Value}{n:Nat}{y3:Q2}{s:Shared}{x:V}{xs:List V}{α:Type}{σ:St}
abbrev TO:=St->Hp->(Option Int->Hp->Prop)->Prop
def PO(X:Cx)(e:Option Expr)(t:TO):Prop:=
 ∀(y3:Q2) (s:Shared) (σ:St) (H:Hp) (Q:Option Int->Hp->Prop),Inv X y3 σ H s->t σ H Q->
  wpAny (model X.prog X.w) X.A (evalPart e X.env) (λu s'=>∃o H',Inv X y3 σ H' s'/\IsPart u o/\Q o H') X.xe s
def bZL:TO:=λ_ H Q=>Q none H
section
variable {e:Expr} {te:TE} {lo hi:Option Expr} {tl th:TO} {pos p2:Pos}
def qZ:PO X none bZL:=by
 intro y3 s σ H Q I h;rw[evalPart_none];exact Aq ⟨none,H,I,.none,h⟩
def SlR(X:Cx)(r:V->Option Int->Option Int->Hp->VK->Prop):Prop:=
 ∀(y3:Q2) (s:Shared) (σ:St) (H:Hp) (x:V) (v vl vu:Value) (lo hi:Option Int) (sl:Addr) (Q:VK),Inv X y3 σ H s->RelV x v->s.heap.IsSliceOf sl vl vu .none->IsPart vl lo->IsPart vu hi->r x lo hi H Q->
  ∃T id,typeLookup (.type T) "__getitem__"=pure (some (.builtin id))/\s.TypeIs v T/\wpAny (model X.prog X.w) X.A (getItem v (.ref sl)) (EP X y3 σ Q) X.xe s
def SlR.or{r r':V->Option Int->Option Int->Hp->VK->Prop}(h:SlR X r)(h':SlR X r'):SlR X (λx lo hi H Q=>r x lo hi H Q\/r' x lo hi H Q):=by
 intro y3 s σ H x v vl vu lo hi sl Q I rx hs pl pu q;rcases q with q|q
 ·exact h y3 s σ H x v vl vu lo hi sl Q I rx hs pl pu q
 ·exact h' y3 s σ H x v vl vu lo hi sl Q I rx hs pl pu q
def tSl(r:V->Option Int->Option Int->Hp->VK->Prop)(te:TE)(tl th:TO):TE:=λσ H Q=>te σ H λx H1=>tl σ H1 λl H2=>th σ H2 λu H3=>r x l u H3 Q
def dP{r:V->Option Int->Option Int->Hp->VK->Prop}(hr:SlR X r)(he:PE X e te)(hl:PO X lo tl)(hu:PO X hi th):PE X (.Subscript e (.Slice lo hi none p2) pos) (tSl r te tl th):=by
 intro y3 s σ H Q I h;refine Subscript_ (thn (he y3 s σ H _ I h) λv s1 ⟨x,H1,I1,r1,q1⟩=>?_);refine wpAny_Slice (thn (hl y3 s1 σ H1 _ I1 q1) λvl s2 ⟨l,H2,I2,pl,q2⟩=>thn (hu y3 s2 σ H2 _ I2 q2) λvu s3 ⟨u,H3,I3,pu,q3⟩=>?_);rw[evalPart_none];refine Aq ?_;have I4:Inv X y3 σ H3 {s3 with heap:=s3.heap.push {cls:=.type "slice",data:=.fields #[vl,vu,.none]}}:=I3.kept (t':=s3.toks) λb ob q=>Ah _ q
 obtain⟨T,id,hT,ht,hg⟩:=hr y3 {s3 with heap:=s3.heap.push {cls:=.type "slice",data:=.fields #[vl,vu,.none]}} σ H3 x v vl vu l u s3.heap.objs.size Q I4 r1 (Heap.IsSliceOf.new ..) pl pu q3
 show wpAny (model X.prog X.w) X.A (subscriptTail e (.Slice lo hi none p2) v (.ref s3.heap.objs.size)) (EP X y3 σ Q) X.xe {s3 with heap:=s3.heap.push {cls:=.type "slice",data:=.fields #[vl,vu,.none]}}
 exact tail_any (ops:=[.ref s3.heap.objs.size,v]) ht hT hg (by with_unfolding_all rfl)
def jP(xs:List V)(lo hi:Option Int):List V:=(xs.drop (HT.sIx xs.length 0 lo)).take (HT.sIx xs.length xs.length hi-HT.sIx xs.length 0 lo)
def aZO(xs:List V)(lo hi:Option Int):(jP xs lo hi).length<=xs.length:=by
 unfold jP;rw[Bt,Cf];omega
end
def ixN(n:Nat)(i:Int):Option Nat:=if 0<=i then (if i<n then some i.toNat else none) else if -(n:Int)<=i then some (i+n).toNat else none
def atI(xs:List α)(i:Int):Option α:=(ixN xs.length i).bind λj=>xs[j]?
def bZR{i:Int}{j:Nat}(h:ixN n i=some j):seqIndex? i n=some j/\j<n/\-(n:Int)<=i/\i<n:=by
 unfold ixN at h;by_cases h0:0<=i
 ·rw[if_pos h0]at h;by_cases h1:i<n
  ·rw[if_pos h1]at h;have e:i.toNat=j:=Bo h
   exact⟨by rw[seqIndex_of h0 h1,e],by omega,by omega,h1⟩
  ·rw[if_neg h1]at h;cases h
 ·rw[if_neg h0]at h;by_cases h1:-(n:Int)<=i
  ·rw[if_pos h1]at h;have e:(i+n).toNat=j:=Bo h
   exact⟨by rw[seqIndex_neg (by omega) h1,e],by omega,h1,by omega⟩
  ·rw[if_neg h1]at h;cases h
def aX2{xs:List α}{i:Int}{v:α}(h:atI xs i=some v):∃j,seqIndex? i xs.length=some j/\xs[j]?=some v/\j<xs.length/\-(xs.length:Int)<=i/\i<xs.length:=by
 unfold atI at h;cases e:ixN xs.length i with
 |none=>rw[e]at h;cases h
 |some j=>
  rw[e]at h;obtain⟨h1,h2,h3,h4⟩:=bZR e;exact⟨j,h1,h,h2,h3,h4⟩
def bB{xs:List α}{j:Nat}{v:α}(h:xs[j]?=some v):atI xs (j:Int)=some v:=by
 have hj:j<xs.length:=(Ac.mp h).1
 have e:ixN xs.length (j:Int)=some j:=by
  unfold ixN;rw[if_pos (by omega),if_pos (by omega)];simp
 unfold atI;rw[e];exact h
def eQO(b:Expr):Prop:=∀o i,subscripted b false o i=operate [o,i] (getItem o i)
def IxR(X:Cx)(r:R2):Prop:=
 ∀(value slice:Expr) (y3:Q2) (s:Shared) (σ:St) (H:Hp) (x y:V) (v u:Value) (Q:VK),Inv X y3 σ H s->RelV x v->RelV y u->r x y H Q->
  subscripted slice false v u=operate [v,u] (getItem v u)->wpAny (model X.prog X.w) X.A (subscriptTail value slice v u) (EP X y3 σ Q) X.xe s
def MtR(X:Cx)(id:String)(r:V->List V->Hp->VK->Prop):Prop:=
 ∀(y3:Q2) (s:Shared) (σ:St) (H:Hp) (x:V) (xs:List V) (v:Value) (us:List Value) (Q:VK),Inv X y3 σ H s->RelV x v->Vals xs us->r x xs H Q->
  wpAny (model X.prog X.w) X.A (call (.builtin id) (v::us)) (EP X y3 σ Q) X.xe s
section
variable {X:Cx} {a b:Expr} {ta tb:TE} {pos:Pos}
def IxR.or{r r':R2}(h:IxR X r)(h':IxR X r'):IxR X (λx y H Q=>r x y H Q\/r' x y H Q):=by
 intro value slice y3 s σ H x y v u Q I rx ry q hs;rcases q with q|q
 ·exact h value slice y3 s σ H x y v u Q I rx ry q hs
 ·exact h' value slice y3 s σ H x y v u Q I rx ry q hs
def bI{r:R2}(hr:IxR X r)(ha:PE X a ta)(hb:PE X b tb)(hs:eQO b):PE X (.Subscript a b pos) (tOp r ta tb):=by
 intro y3 s σ H Q I h;exact Subscript_ (fQR ha hb I h λv u s2 x y H2 I2 rx ry q=>hr a b y3 s2 σ H2 x y v u Q I2 rx ry q (hs _ _))
def fQW(K:W.Frag):R2:=λx y H Q=>∃p xs i v,x=.ref p/\y=.int i/\SqL K H p xs/\atI xs i=some v/\Q v H
def fJF(K:W.Frag):R2:=λx y H Q=>∃p xs i v,x=.ref p/\y=.int i/\SqT K H p xs/\atI xs i=some v/\Q v H
def fJM:R2:=λx y H Q=>∃z i c,x=.str z/\y=.int i/\z.length<=sizeLine/\atI z.cps.toList i=some c/\Q (.str ⟨#[c]⟩) H
def ix_list:IxR X (fQW X.K):=by
 intro value slice y3 s σ H x y v u Q I rx ry h hs;obtain⟨p,xs,i,z,rfl,rfl,hq,he,q⟩:=h;cases rx;obtain⟨t,rfl⟩:=ry;obtain⟨its,r,pl,hz⟩:=I.list hq;obtain⟨j,h1,h2,h3,h4,h5⟩:=aX2 he;obtain⟨w,ew,rw'⟩:=r.get h2;have hl:=r.length
 have hn:=jA
 have fin:EP X y3 σ Q w s:=⟨z,H,I,rw',q⟩
 by_cases h0:0<=i
 ·have hj:i.toNat=j:=by
   rw[seqIndex_of h0 h5]at h1;exact Bo h1
  exact item_listR pl.isList h0 (by omega) (by rw[hj];simpa using ew) fin hs
 ·have hj:(i+(its.toArray.size:Int)).toNat=j:=by
   rw[seqIndex_neg (by omega) h4]at h1
   rw[Ax,<-hl];exact Bo h1
  exact subscriptTail_builtinR (x:=w) pl.isList.typeIs slot_list_getitem.lookup
   (wpAny_getItem_list_neg (Q:=λr s'=>r=w/\EP X y3 σ Q r s') pl.isList (by omega) (by rw[List.size_toArray]<;>omega) (by omega) (by rw[hj];simpa using ew) ⟨rfl,fin⟩) hs
def ix_tup:IxR X (fJF X.K):=by
 intro value slice y3 s σ H x y v u Q I rx ry h hs;obtain⟨p,xs,i,z,rfl,rfl,hq,he,q⟩:=h;cases rx;obtain⟨t,rfl⟩:=ry;obtain⟨its,r,pl,hz⟩:=I.tuple hq;obtain⟨j,h1,h2,h3,h4,h5⟩:=aX2 he;obtain⟨w,ew,rw'⟩:=r.get h2;have hl:=r.length
 have hn:=jA
 have fin:EP X y3 σ Q w s:=⟨z,H,I,rw',q⟩
 exact subscriptTail_builtinR (x:=w) pl.typeIs slot_tuple_getitem.lookup
  (getItem_tuple (j:=j) (Q:=λr s'=>r=w/\EP X y3 σ Q r s') pl (by omega) (by omega) (by rw[List.size_toArray,<-hl];exact h1) (by simpa using ew) ⟨rfl,fin⟩) hs
def eZ3:IxR X fJM:=by
 intro value slice y3 s σ H x y v u Q I rx ry h hs;obtain⟨z,i,c,rfl,rfl,hz,he,q⟩:=h;obtain⟨t,rfl⟩:=rx;obtain⟨t',rfl⟩:=ry;obtain⟨j,h1,h2,h3,h4,h5⟩:=aX2 he;have hl:z.cps.toList.length=z.length:=by simp[Str.length]
 rw[hl]at h1 h4 h5;have hn:=jA
 exact tail_any (Hv s z t) slot_str_getitem.lookup (getItem_str (c:=c) (by
  have e1:decide (i < -(2^63:Int))=false:=As (by omega)
  have e2:decide (i ≥ 2^63)=false:=As (by omega)
  rw[e1,e2,Bool.or_false]) (by rw[h1];simpa using h2) ⟨.str ⟨#[c]⟩,H,I.tok _,⟨_,rfl⟩,q⟩) hs
def rIx(K:W.Frag):R2:=λx y H Q=>fQW K x y H Q\/fJF K x y H Q\/fJM x y H Q
def ix_seq:IxR X (rIx X.K):=ix_list.or (ix_tup.or eZ3)
def bXA(its:List Value)(n j:Nat)(u:Value):Obj.mapSeq (·.setIfInBounds j u) {cls:=.type "list",data:=.seq its.toArray n}={cls:=.type "list",data:=.seq (its.set j u).toArray n}:=by
 simp[Obj.mapSeq]
def Inv.lst{p:Addr}(I:Inv X y3 σ H s)(h:H p=some (.lst xs)):∃(its:List Value) (n:Nat),Vals xs its/\s.heap.get? p=some {cls:=.type "list",data:=.seq its.toArray n}/\xs.length<=sizeLine:=by
 obtain⟨z,its,n,r,e⟩:=I.hok p _ h;exact⟨its,n,r,e,z⟩
def Inv.lstUpd{p:Addr}{ys:List V}{its':List Value}{n':Nat}{f:Obj->Obj}(I:Inv X y3 σ H s)(h:H p=some (.lst xs))(ho:s.heap.get? p=some {cls:=.type "list",data:=.seq its.toArray n})(hf:f {cls:=.type "list",data:=.seq its.toArray n}={cls:=.type "list",data:=.seq its'.toArray n'})(r:Vals ys its')(hz:ys.length<=sizeLine)(t:Nat):Inv X y3 σ (upd H p (.lst ys)) {s with heap:=s.heap.update p f,toks:=t}:=by
 have e:(s.heap.update p f).get? p=some {cls:=.type "list",data:=.seq its'.toArray n'}:=by
  rw[Heap.get?_update_self f ho (by rw[hf]<;>rfl),hf]
 refine I.write (x:=p) (e:=p) (by rw[h];trivial) (.inl rfl) (λb u hb q=>(Cs _ _ (Ne.symm hb)).trans q) ⟨_,e⟩ ?_
 exact⟨hz,its',n',r,e⟩
def eXP:V->V->V->Hp->(Hp->Prop)->Prop:=λo i v H Q=>∃p xs k j,o=.ref p/\i=.int k/\H p=some (.lst xs)/\ixN xs.length k=some j/\Q (upd H p (.lst (xs.set j v)))
def vR:fZV X eXP:=by
 intro y3 s σ H o i v ov iv u Q I ro ri rv h;obtain⟨p,xs,k,j,rfl,rfl,hp,hj,q⟩:=h;cases ro;obtain⟨t,rfl⟩:=ri;obtain⟨its,n,r,ho,hz⟩:=I.lst hp;obtain⟨h1,h2,h3,h4⟩:=bZR hj;have hl:=r.length
 have hn:=jA
 have I':Inv X y3 σ (upd H p (.lst (xs.set j v))) {s with heap:=s.heap.update p (Obj.mapSeq (·.setIfInBounds j u))}:=
  I.lstUpd hp ho (bXA its n j u) (r.set rv j) (by rw[Dc];exact hz) s.toks
 by_cases h0:0<=k
 ·have hk:k.toNat=j:=by
   rw[seqIndex_of h0 h4]at h1;exact Bo h1
  exact W.ki_setAt ho h0 (by omega) (by rw[Ax,<-hl];exact h4) (by rw[hk];exact⟨_,I',q⟩)
 ·have hk:(k+(its.toArray.size:Int)).toNat=j:=by
   rw[seqIndex_neg (by omega) h3]at h1
   rw[Ax,<-hl];exact Bo h1
  exact W.ki_setBack ho (by omega) (by rw[Ax,<-hl];exact h3) (by omega) (by rw[hk];exact⟨_,I',q⟩)
def aX4(lo hi:Option Int)(n:Nat):(sliceBounds lo hi none n).1=((HT.sIx n 0 lo:Nat):Int)/\(sliceBounds lo hi none n).2.1=((HT.sIx n n hi:Nat):Int)/\(sliceBounds lo hi none n).2.2=1:=by
 refine⟨?_,?_,rfl⟩
 ·cases lo with
  |none=>simp[sliceBounds,HT.sIx]
  |some i=>
   simp only[sliceBounds,HT.sIx,Option.getD_none,show (1:Int)>0 by decide,if_true]
   by_cases h:i<0
   ·simp only[h,if_true]<;>omega
   ·simp only[h,if_false]<;>omega
 ·cases hi with
  |none=>simp[sliceBounds,HT.sIx]
  |some i=>
   simp only[sliceBounds,HT.sIx,Option.getD_none,show (1:Int)>0 by decide,if_true]
   by_cases h:i<0
   ·simp only[h,if_true]<;>omega
   ·simp only[h,if_false]<;>omega
def xS(its:List Value)(lo hi:Option Int):slicePick its.toArray lo hi none=((its.drop (HT.sIx its.length 0 lo)).take (HT.sIx its.length its.length hi-HT.sIx its.length 0 lo)).toArray:=by
 obtain⟨h1,h2,h3⟩:=aX4 lo hi its.toArray.size;unfold slicePick;rw[h1,h2,h3];simp only[sliceRange_one,pick_run,List.size_toArray]<;>rfl
def fJ5(K:W.Frag):V->Option Int->Option Int->Hp->VK->Prop:=λx lo hi H Q=>∃a xs,x=.ref a/\SqL K H a xs/\∀p,H p=none->Q (.ref p) (upd H p (.lst (jP xs lo hi)))
def sl_list:SlR X (fJ5 X.K):=by
 intro y3 s σ H x v vl vu lo hi sl Q I rx hs pl pu h;obtain⟨a,xs,rfl,hx,q⟩:=h;cases rx;obtain⟨its,r,ht,hz⟩:=I.list hx;have hlen:=r.length
 refine⟨"list",_,slot_list_getitem.lookup,ht.isList.typeIs,?_⟩;refine wpAny_getItem_list_slice ht.isList hs pl pu .none (by simp) ?_ (by rw[List.size_toArray]<;>omega)
 rw[xS,<-hlen];refine⟨.ref s.heap.objs.size,_,I.laid (t':=s.toks) (o:=.lst (jP xs lo hi)) (λb ob q=>Ah _ q) (Ai _) ?_,rfl,q _ (I.hok.fresh (Ai _))⟩;exact⟨Bi (aZO xs lo hi) hz,_,0,(r.drop (HT.sIx xs.length 0 lo)).take (HT.sIx xs.length xs.length hi-HT.sIx xs.length 0 lo),Ay _ rfl⟩
def cB:V->Bool
 |.non=>true
 |.bl _=>true
 |.int _=>true
 |.str _=>true
 |_=>false
def eqV:V->V->Bool
 |.non,.non=>true
 |.bl a,.bl b=>a==b
 |.bl a,.int b=>(if a then 1 else 0)==b
 |.int a,.bl b=>a==(if b then 1 else 0)
 |.int a,.int b=>a==b
 |.str a,.str b=>a==b
 |_,_=>false
def oO{A:Around}{s:Shared}{y x:V}{u v:Value}(ry:RelV y u)(rx:RelV x v)(fy:cB y=true)(fx:cB x=true):SeqAt.EqAt A s u v (eqV y x):=by
 cases y with
 |non=>
  cases ry;cases x with
  |non=>cases rx;exact SeqAt.EqAt.same _
  |bl b=>cases rx;exact SeqAt.EqAt.none_bool b
  |int b=>obtain⟨t,rfl⟩:=rx;exact SeqAt.EqAt.none_int b t
  |str b=>obtain⟨t,rfl⟩:=rx;exact SeqAt.EqAt.none_str b t
  |_=>exact absurd (show false=true from fx) An
 |bl a=>
  cases ry;cases x with
  |non=>cases rx;exact SeqAt.EqAt.bool_none a
  |bl b=>cases rx;exact SeqAt.EqAt.bool_bool a b
  |int b=>obtain⟨t,rfl⟩:=rx;exact SeqAt.EqAt.bool_int a b t
  |str b=>obtain⟨t,rfl⟩:=rx;exact SeqAt.EqAt.bool_str a b t
  |_=>exact absurd (show false=true from fx) An
 |int a=>
  obtain⟨t',rfl⟩:=ry;cases x with
  |non=>cases rx;exact SeqAt.EqAt.int_none a t'
  |bl b=>cases rx;exact SeqAt.EqAt.int_bool a t' b
  |int b=>obtain⟨t,rfl⟩:=rx;exact SeqAt.EqAt.int_int a t' b t
  |str b=>obtain⟨t,rfl⟩:=rx;exact SeqAt.EqAt.int_str a t' b t
  |_=>exact absurd (show false=true from fx) An
 |str a=>
  obtain⟨t',rfl⟩:=ry;cases x with
  |non=>cases rx;exact SeqAt.EqAt.str_none a t'
  |bl b=>cases rx;exact SeqAt.EqAt.str_bool a t' b
  |int b=>obtain⟨t,rfl⟩:=rx;exact SeqAt.EqAt.str_int a t' b t
  |str b=>obtain⟨t,rfl⟩:=rx;exact SeqAt.EqAt.str_str a t' b t
  |_=>exact absurd (show false=true from fx) An
 |_=>exact absurd (show false=true from fy) An
def eqU(x:V)(u:Value):Bool:=match u with
 |.none=>eqV .non x
 |.bool b=>eqV (.bl b) x
 |.int i _=>eqV (.int i) x
 |.str z _=>eqV (.str z) x
 |_=>false
def cZP{y:V}{u:Value}(r:RelV y u)(f:cB y=true):eqU x u=eqV y x:=by
 cases y with
 |non=>cases r;rfl
 |bl b=>cases r;rfl
 |int i=>obtain⟨t,rfl⟩:=r;rfl
 |str z=>obtain⟨t,rfl⟩:=r;rfl
 |_=>exact absurd (show false=true from f) An
def qH:∀ {xs:List V} {us:List Value},Vals xs us->xs.all cB=true->us.any (eqU x)=xs.any λy=>eqV y x
 |_,_,.nil,_=>rfl
 |y::xs,u::us,.cons r t,f=>by
  rw[List.all_cons,Dx]at f;rw[Hn,Hn,cZP r f.1,qH t f.2]
def mS{A:Around}{v:Value}(rx:RelV x v)(fx:cB x=true):∀ {xs:List V} {us:List Value},Vals xs us->xs.all cB=true->∀u∈us,SeqAt.EqAt A s u v (eqU x u)
 |_,_,.nil,_=>λu hu=>by cases hu
 |y::xs,u::us,.cons r t,f=>λu' hu=>by
  rw[List.all_cons,Dx]at f;rcases Bb.mp hu with rfl|hu
  ·rw[cZP r f.1];exact oO r rx f.1 fx
  ·exact mS rx fx t f.2 u' hu
def inV(x:V)(xs:List V):Bool:=xs.any λy=>eqV y x
def rIn(K:W.Frag)(neg:Bool):R2:=λx y H Q=>∃p xs,y=.ref p/\(SqL K H p xs\/SqT K H p xs)/\cB x=true/\xs.all cB=true/\Q (.bl (if neg then !inV x xs else inV x xs)) H
def op_in_seq:OpR X (compareOp .In) (rIn X.K false):=by
 intro y3 s σ H x y v u Q I rx ry h;obtain⟨p,xs,rfl,hq,fx,fs,q⟩:=h;cases ry;rcases hq with hq|hq
 ·obtain⟨its,r,pl,hz⟩:=I.list hq;refine SeqAt.in_listAt (eqU x) pl.isList (λw hw=>mS rx fx r fs w (by simpa using hw)) ⟨.bl _,H,I,rfl,?_⟩
  rw[show its.toArray.any (eqU x)=its.any (eqU x) by simp,qH r fs]
  exact q
 ·obtain⟨its,r,pl,hz⟩:=I.tuple hq;refine SeqAt.in_tupleAt (eqU x) pl (λw hw=>mS rx fx r fs w (by simpa using hw)) ⟨.bl _,H,I,rfl,?_⟩
  rw[show its.toArray.any (eqU x)=its.any (eqU x) by simp,qH r fs]
  exact q
def op_notIn_seq:OpR X (compareOp .NotIn) (rIn X.K true):=by
 intro y3 s σ H x y v u Q I rx ry h;obtain⟨p,xs,rfl,hq,fx,fs,q⟩:=h;cases ry;rcases hq with hq|hq
 ·obtain⟨its,r,pl,hz⟩:=I.list hq;refine SeqAt.notIn_listAt (eqU x) pl.isList (λw hw=>mS rx fx r fs w (by simpa using hw)) ⟨.bl _,H,I,rfl,?_⟩
  rw[show its.toArray.any (eqU x)=its.any (eqU x) by simp,qH r fs]
  exact q
 ·obtain⟨its,r,pl,hz⟩:=I.tuple hq;refine SeqAt.notIn_tupleAt (eqU x) pl (λw hw=>mS rx fx r fs w (by simpa using hw)) ⟨.bl _,H,I,rfl,?_⟩
  rw[show its.toArray.any (eqU x)=its.any (eqU x) by simp,qH r fs]
  exact q
def aXL:CallR X (.builtin "len") (λxs H Q=>∃p ys,xs=[.ref p]/\(SqL X.K H p ys\/SqT X.K H p ys)/\Q (.int ys.length) H):=by
 intro y3 s σ H xs us Q I r h;obtain⟨p,ys,rfl,hq,q⟩:=h;obtain⟨u,rfl,rx⟩:=eW r;cases rx;have hn:=jA
 rcases hq with hq|hq
 ·obtain⟨its,r',pl,hz⟩:=I.list hq;have hlen:=r'.length
  exact Calls.call_len_list pl.isList (by simp only[List.size_toArray]<;>omega) ⟨.int ys.length,H,I.tok _,⟨s.toks+1,by rw[List.size_toArray,hlen]⟩,q⟩
 ·obtain⟨its,r',pl,hz⟩:=I.tuple hq;have hlen:=r'.length
  exact len_tuple pl (by simp only[List.size_toArray]<;>omega) ⟨.int ys.length,H,I.tok _,⟨s.toks+1,by rw[List.size_toArray,hlen]⟩,q⟩
def CallR.or{f:Value}{r r':List V->Hp->VK->Prop}(h:CallR X f r)(h':CallR X f r'):CallR X f (λxs H Q=>r xs H Q\/r' xs H Q):=by
 intro y3 s σ H xs us Q I rs q;rcases q with q|q
 ·exact h y3 s σ H xs us Q I rs q
 ·exact h' y3 s σ H xs us Q I rs q
def call_list_of:CallR X (.type "list") (λxs H Q=>∃p ys,xs=[.ref p]/\(SqL X.K H p ys\/SqT X.K H p ys)/\∀l,H l=none->Q (.ref l) (upd H l (.lst ys))):=by
 intro y3 s σ H xs us Q I r h;obtain ⟨p,ys,rfl,hq,q⟩:=h;obtain ⟨u,rfl,rx⟩:=eW r;cases rx;have fin:∀ (its:List Value),Vals ys its->ys.length<=sizeLine->∀ (h':Heap) (c':Nat),(∀ b o',s.heap.get? b=some o'->h'.get? b=some o')->
     h'.get? s.heap.objs.size=some {cls:=.type "list",dict:=none,data:=.seq its.toArray c',slots:=#[]}->EP X y3 σ Q (.ref s.heap.objs.size) {s with heap:=h'}:=λits r' hz h' c' kp e=>
  ⟨.ref s.heap.objs.size,_,I.laid (t':=s.toks) kp (Ai _) (show ObjOk X.prog X.w _ h' _ (.lst ys) from⟨hz,its,c',r',e⟩),rfl,q _ (I.hok.fresh (Ai _))⟩
 rcases hq with hq|hq
 ·obtain⟨its,r',pl,hz⟩:=I.list hq;have hlen:=r'.length
  obtain⟨o,ho,hc,n,hd⟩:=pl.isList;exact call_list_seq p (.inl rfl) ho hc hd (λh' c' kp e=>fin its r' hz h' c' kp e) (by simp only[List.size_toArray]<;>omega)
 ·obtain⟨its,r',pl,hz⟩:=I.tuple hq;have hlen:=r'.length
  obtain⟨o,ho,hc,n,hd⟩:=pl;exact call_list_seq p (.inr rfl) ho hc hd (λh' c' kp e=>fin its r' hz h' c' kp e) (by simp only[List.size_toArray]<;>omega)
def tyV(K:W.Frag)(T:String)(x:V)(H:Hp):Prop:=match x with
 |.str _=>T="str"
 |.int _=>T="int"
 | .ref p=>(T="list"/\∃ xs,SqL K H p xs)\/(T="tuple"/\∃ o,K.lookup p=some o/\o.cls=.type "tuple"/\o.dict=none)\/
     (T="dict"/\((∃kvs,H p=some (.dK kvs))\/∃kvs,H p=some (.dT kvs)))\/(T="set"/\∃S n,H p=some (.set S n))
 |_=>False
def cX5{T:String}{v:Value}(I:Inv X y3 σ H s)(r:RelV x v)(ty:tyV X.K T x H):s.TypeIs v T/\∀a,v=.ref a->∃ob,s.heap.get? a=some ob/\ob.dict=none:=by
 cases x with
 |str z=>
  obtain⟨t,rfl⟩:=r;cases (show T="str" from ty);exact⟨Hv s z t,λ_ e=>nomatch e⟩
 |int i=>
  obtain⟨t,rfl⟩:=r;cases (show T="int" from ty);exact⟨typeIs_int s i t,λ_ e=>nomatch e⟩
 |ref p=>
  cases r;rcases ty with⟨rfl,xs,hq⟩|⟨rfl,o,hk,hc,hd⟩|⟨rfl,hk⟩|⟨rfl,S,n,hk⟩
  ·obtain⟨its,_,pl,_⟩:=I.list hq;refine⟨pl.isList.typeIs,λa e=>?_⟩;cases e;obtain⟨o,n,e,c,hd,_⟩:=pl;exact⟨o,e,hd⟩
  ·refine⟨⟨o,I.kIn p o hk,hc⟩,λa e=>?_⟩;cases e;exact⟨o,I.kIn _ o hk,hd⟩
  ·have z:∃ o,s.heap.get? p=some o/\o.ExactDict:=by
    rcases hk with⟨kvs,hk⟩|⟨kvs,hk⟩
    ·obtain⟨_,_,_,_,o,_,_,e,ex,_⟩:=I.hok p _ hk;exact⟨o,e,ex⟩
    ·obtain⟨_,_,_,_,o,_,_,e,ex,_⟩:=I.hok p _ hk;exact⟨o,e,ex⟩
   obtain⟨o,e,ex⟩:=z;refine⟨⟨o,e,ex.1⟩,λa e2=>?_⟩;cases e2;exact⟨o,e,ex.2.1⟩
  ·obtain⟨o,_,_,_,e,ex,_⟩:=I.hok p _ hk;refine⟨⟨o,e,ex.1⟩,λa e2=>?_⟩;cases e2;exact⟨o,e,ex.2.1⟩
 |_=>exact False.elim ty
variable {o e:Expr} {t:TA} {T:String} {r:V->List V->Hp->VK->Prop}
end
def MtM(X:Cx)(id:String)(r:V->List V->Hp->VK->Prop):Prop:=
 ∀(y3:Q2) (s:Shared) (σ:St) (H:Hp) (x:V) (xs:List V) (v:Value) (us:List Value) (Q:VK),Inv X y3 σ H s->RelV x v->Vals xs us->r x xs H Q->
  wpAny (model X.prog X.w) X.A (call (.builtin id) (v::us)) (EP X y3 σ Q) X.xe s
def Vals.one:∀ {x:V} {us:List Value},Vals [x] us->∃u,us=[u]/\RelV x u
 |_,_,.cons r .nil=>⟨_,rfl,r⟩
def Vals.two:∀ {x y:V} {us:List Value},Vals [x,y] us->∃u v,us=[u,v]/\RelV x u/\RelV y v
 |_,_,_,.cons r (.cons q .nil)=>⟨_,_,rfl,r,q⟩
def Vals.zero:∀ {us:List Value},Vals [] us->us=[]
 |_,.nil=>rfl
def Vals.rep{us:List Value}(h:Vals xs us):∀k:Nat,Vals (List.replicate k xs).flatten (List.replicate k us).flatten
 |0=>.nil
 |k+1=>by
  rw[De,De,Ct,Ct];exact Vals.append h (Vals.rep h k)
def yY(its:List Value):∀(k:Nat) (acc:List Value),
 List.foldl (λx1 x2=>x1++x2) acc.toArray (List.replicate k its.toArray)=(acc++(List.replicate k its).flatten).toArray
 |0,acc=>by simp
 |k+1,acc=>by
  have e:acc.toArray++its.toArray=(acc++its).toArray:=by simp
  have e2:(acc++its)++(List.replicate k its).flatten=acc++(List.replicate (k+1) its).flatten:=by
   rw[De,Ct,Gw]
  rw[<-e2,<-yY its k (acc++its),<-e,De,List.foldl_cons]
section
variable {l:Addr} {ys:List V}
def Inv.lset{its':List Value}{f:Array Value->Array Value}{t':Nat}(I:Inv X y3 σ H s)(hH:H l=some (.lst xs))(e:s.heap.get? l=some {cls:=.type "list",data:=.seq its.toArray n})(hf:f its.toArray=its'.toArray)(hv:Vals ys its')(hz:ys.length<=sizeLine):Inv X y3 σ (upd H l (.lst ys)) {s with heap:=s.heap.update l (Obj.mapSeq f),toks:=t'}:=by
 have q:=PySem.IsL.update e f
 rw[hf]at q;refine I.write (x:=l) (e:=l) (by rw[hH];exact trivial) (.inl rfl) (λb' u hb hu=>(Cs s.heap (Obj.mapSeq f) (Ne.symm hb)).trans hu) ⟨_,q⟩ ?_
 exact⟨hz,its',_,hv,q⟩
def Inv.lnew{its:List Value}{t':Nat}(I:Inv X y3 σ H s)(hv:Vals ys its)(hz:ys.length<=sizeLine):Inv X y3 σ (upd H s.heap.objs.size (.lst ys)) {s with heap:=s.heap.push {cls:=.type "list",data:=.seq its.toArray},toks:=t'}:=
 I.laid (λ_ _ q=>Ah _ q) (Ai _) ⟨hz,its,0,hv,Ay _ rfl⟩
def Inv.fresh(I:Inv X y3 σ H s):H s.heap.objs.size=none:=I.hok.fresh (Ai _)
def Inv.lstM(I:Inv X y3 σ H s)(hH:H l=some (.lst xs)):xs.length<=sizeLine/\∃(its:List Value) (n:Nat),Vals xs its/\xs.length=its.length/\s.heap.get? l=some {cls:=.type "list",data:=.seq its.toArray n}:=by
 obtain⟨z,its,n,r,e⟩:=I.hok l _ hH;exact⟨z,its,n,r,r.length,e⟩
def aZW(h:n<=sizeLine):Builtin.List.listTooLong n=false:=by
 unfold Builtin.List.listTooLong;exact As (by omega)
end
def bJF:V->List V->Hp->VK->Prop:=λx vs H Q=>∃l xs y,x=.ref l/\vs=[y]/\H l=some (.lst xs)/\xs.length<sizeLine/\Q .non (upd H l (.lst (xs++[y])))
def yT:MtM X "list.append" bJF:=by
 intro y3 s σ H x vs v us Q I rx rv h;obtain⟨l,xs,y,rfl,rfl,hH,hz,q⟩:=h;cases rx;obtain⟨u,rfl,ru⟩:=rv.one;obtain⟨z,its,n,r,hl,e⟩:=I.lstM hH;refine Fi F.slot_list_append ⟨_,e,rfl⟩ F.entry_list_append (F.args_list_append_2 _ _) (PySem.list_append l its.toArray n u (by rw[Ax];omega)) ⟨e,?_⟩
 refine⟨.non,_,I.lset (its':=its++[u]) hH e (by simp) (r.append (.cons ru .nil)) ?_,rfl,q⟩
 rw[Af,List.length_singleton];omega
def bJB:V->List V->Hp->VK->Prop:=λx vs H Q=>∃l b xs zs,x=.ref l/\vs=[.ref b]/\H l=some (.lst xs)/\H b=some (.lst zs)/\xs.length+zs.length<=sizeLine/\Q .non (upd H l (.lst (xs++zs)))
def cQE:MtM X "list.extend" bJB:=by
 intro y3 s σ H x vs v us Q I rx rv h;obtain⟨l,b,xs,zs,rfl,rfl,hH,hB,hz,q⟩:=h;cases rx;obtain⟨u,rfl,ru⟩:=rv.one;cases ru;obtain⟨z,its,n,r,hl,e⟩:=I.lstM hH;obtain⟨z2,its2,n2,r2,hl2,e2⟩:=I.lstM hB;have hsz:its.toArray.size+its2.toArray.size<=sizeLine:=by rw[Ax,Ax];omega
 have hlong:¬(!its.toArray.isEmpty&&Builtin.List.listTooLong (its.toArray.size+its2.toArray.size))=true:=by
  rw[aZW hsz,Fv];exact An
 refine Fi F.slot_list_extend ⟨_,e,rfl⟩ F.entry_list_extend (F.args_list_extend_2 _ _)
  (AutoSeq1.list_extend_list_list_0 l its.toArray n b its2.toArray n2 hlong (by rw[Ax];omega) (by omega)) ⟨e,e2,?_⟩
 refine⟨.non,_,I.lset (its':=its++its2) hH e (by simp) (r.append r2) ?_,rfl,q⟩
 rw[Af];omega
def gQR:R2:=λx y H Q=>∃l b xs zs,x=.ref l/\y=.ref b/\H l=some (.lst xs)/\H b=some (.lst zs)/\xs.length+zs.length<=sizeLine/\∀p,H p=none->Q (.ref p) (upd H p (.lst (xs++zs)))
def eZ5:OpR X (binaryOp .Add) gQR:=by
 intro y3 s σ H x y v u Q I rx ry h;obtain⟨l,b,xs,zs,rfl,rfl,hH,hB,hz,q⟩:=h;cases rx;cases ry;obtain⟨z,its,n,r,hl,e⟩:=I.lstM hH;obtain⟨z2,its2,n2,r2,hl2,e2⟩:=I.lstM hB;refine PySem.P.add_list e e2 ?_ (by rw[Ax,Ax];omega)
 have ea:its.toArray++its2.toArray=(its++its2).toArray:=by simp
 rw[ea];exact⟨.ref _,_,I.lnew (t':=s.toks) (r.append r2) (by rw[Af];omega),rfl,q _ I.fresh⟩
def gQA:R2:=λx y H Q=>∃l k xs,x=.ref l/\y=.int k/\H l=some (.lst xs)/\-(2^63)<=k/\k<2^63/\xs.length*k.toNat<=sizeLine/\
 ∀p,H p=none->Q (.ref p) (upd H p (.lst (List.replicate k.toNat xs).flatten))
def eQH(xs:List α)(k:Nat):(List.replicate k xs).flatten.length=k*xs.length:=by
 induction k with
 |zero=>simp
 |succ k ih=>rw[De,Ct,Af,ih,Nat.succ_mul,Nat.add_comm]
def aXF:OpR X (binaryOp .Mult) gQA:=by
 intro y3 s σ H x y v u Q I rx ry h;obtain⟨l,k,xs,rfl,rfl,hH,h1,h2,hz,q⟩:=h;cases rx;obtain⟨t,rfl⟩:=ry;obtain⟨z,its,n,r,hl,e⟩:=I.lstM hH;have hlen:its.toArray.size*k.toNat<=sizeLine:=by rw[Ax,<-hl];exact hz
 have hcap:¬its.toArray.size*k.toNat>(2^63-1) / 8:=by
  have:(sizeLine:Nat)<=(2^63-1) / 8:=by decide
  omega
 have hfit:¬(!Builtin.List.listFitsIndex k)=true:=by
  rw[fitsIndex_both h1 h2];exact An
 have hlong:¬Builtin.List.listTooLong (its.toArray.size*k.toNat)=true:=by
  rw[aZW hlen];exact An
 have hnew:List.foldl (λx1 x2=>x1++x2) #[] (List.replicate (if its.toArray.isEmpty=true then 0 else k.toNat) its.toArray)=(List.replicate k.toNat its).flatten.toArray:=by
  have f0:∀m:Nat,List.foldl (λx1 x2=>x1++x2) #[] (List.replicate m its.toArray)=(List.replicate m its).flatten.toArray:=λm=>by
   have:=yY its m []
   rw[List.nil_append]at this;exact this
  rw[f0];cases its with
  |nil=>simp
  |cons a r'=>rw[if_neg (by simp)]
 refine wpAny_binaryOp_repeat_ref (T := "list") (U := "int") (by decide) ⟨_,e,rfl⟩ (λs'=>typeIs_int s' k t) noFill_list_mul F.fills_int_mul F.slot_int_rmul repeat_list F.slot_int_index.lookup
  (Fi F.slot_int_rmul (typeIs_int s k t) F.entry_int_rmul (F.args_int_rmul_2 _ _) (int___rmul___int_list k t l its.toArray n)
   ⟨e,rfl,⟨_,e,rfl⟩,Fi F.slot_list_mul ⟨_,e,rfl⟩ F.entry_list_mul (F.args_list_mul_2 _ _) (AutoListH.list___mul___list_int_3 l its.toArray n k t hfit hcap hlong) ⟨e,?_⟩⟩)
 rw[hnew];exact⟨.ref _,_,I.lnew (t':=s.toks) (r.rep k.toNat) (by rw[eQH,Nat.mul_comm];exact hz),rfl,q _ I.fresh⟩
end L2
namespace Att
open PySem PySem.W PySem.Calls PyProof.Rows
def tW{P:Params}{h:Heap}:∀(ns:List Int) (vs:List Value),WellAll P h vs (ns.map WData.int)->IntsAre vs ns:=by
 intro ns;induction ns with
 |nil=>
  intro vs w;rw[Hr]at w;cases w;exact .nil
 |cons n ns ih=>
  intro vs w;rw[Aw]at w;cases w with
  |cons a b=>
   cases a;exact .cons _ _ (ih _ b)
def cXO{l:OpenLaw}{n:Nat}(hn:l.most=some n){P:Params}{h:Heap}{args:List WData}{vals:List Value}(hpre:l.row.toRowW.claim.pre args=true)(hwl:WellAll P h vals args):∃a vs ns,vals=[Value.ref a]/\args=[WData.list (ns.map WData.int)]/\h.get? a=some {cls:=.type "list",data:=.seq vs.toArray}/\IntsAre vs ns/\ns.length<=n:=by
 have hsh:WShape.hasAll [] args [.list .int]=true:=(pre_splitW hpre).1
 have hc:l.pre.holds [] {args:=args}=true:=(pre_splitW hpre).2
 obtain⟨d,r,rfl,h1,h2⟩:=hasAllW_cons hsh;obtain rfl:=hasAllW_nil h2;obtain⟨xs,rfl,h3⟩:=hasW_list h1;obtain⟨ns,rfl⟩:=items_int h3;have hlen:ns.length<=n:=by
  unfold OpenLaw.pre at hc;have h4:(WTm.not (.lt (.lit (.int (n:Int))) (.len (.arg 0)))).holds [] {args:=[.list (ns.map .int)]}=true:=by
   have h4:=(holds_andW hc).1
   rw[hn]at h4;exact h4
  have h5:=condW_of h4 (w_not (w_lt w_lit (w_len_list (w_arg rfl))))
  rw[Ab]at h5;refine Nat.le_of_not_lt λq=>?_;have q':(n:Int)<((ns.length:Nat):Int):=by omega
  first
   |(rw[Ap q']at h5;exact absurd h5 (by decide))
   |(simp at h5;omega)
 cases hwl with
 |cons w1 w2=>
  cases w2;cases w1 with
  |list ho hall=>exact⟨_,_,ns,rfl,rfl,ho,tW ns _ hall,hlen⟩
def cQG(l:OpenLaw)(args:List WData):l.row.toRowW.claim.post args (.bool true) args=true:=
 postW_of (r:=l.row.toRowW) (X:=(true==true))
  (show WShape.has [] (.bool true) .bool=true by first|rfl|decide|simp[WShape.has,WShape.arms,WShape.armsAll])
  (show (WTm.eq .res (.lit (.bool true))).value [] {args:=args,res:=some (.bool true),after:=args}=some (.bool (true==true)) from w_eq_bool (w_res rfl) w_lit) rfl
def attach_call{l:OpenLaw}{n:Nat}{q:Program}{loose:List Str}{XP:(Q4)->Heap->Prop}{YP:World->Heap->Prop}{d:DefRec}(hn:l.most=some n)(hdf:d.params.defaults=[])(call:∀(w:World) (s₀ s₁:Shared) (mg mb:Q4) (fa:Addr) (o:Obj) (pm cd doc:Value) (a:Addr) (vs:List Value) (ns:List Int),
 Ground q loose [] XP w s₀ mg mb s₁.heap->YP w s₁.heap->
 s₁.heap.get? fa=some o->o.data=.func (docDef d.name d.params d.body d.scope pm cd doc)->s₁.heap.CodeRec cd d.name->mg d.name=some (.ref fa)->
 s₁.heap.get? a=some {cls:=.type "list",data:=.seq vs.toArray}->IntsAre vs ns->ns.length<=n->s₁.gens=#[]->
 codeAny (model l.prog w) callerA (.call (.ref fa) ⟨[.ref a],[]⟩) (λr s'=>r=.ok (.ret (.bool true))/\OldK s₁.heap s'.heap/\s'.os=s₁.os/\AllBare s'.gens) s₁):WalkO q loose XP YP l.row.toRowW d [] (λf vs=>PySem.call f vs):=by
 intro w s₀ s₁ mg mb G Y fa o pm cd doc dV kV ho hd hcd hD hmg hg args vals as hpre hlay hrd hwl hlo;obtain rfl:dV=.none:=Dflts.none hD hdf;obtain rfl:kV=.none:=Dflts.noKw hD;obtain⟨a,vs,ns,rfl,rfl,hobj,hints,hlen⟩:=cXO hn hpre hwl;refine enter_call (Ei (call w s₀ s₁ mg mb fa o pm cd doc a vs ns G Y ho (fd_plain hd) hcd hmg hobj hints hlen hg) λr s' hq=>?_);obtain⟨rfl,h2,h3,h4⟩:=hq;exact⟨.inl ⟨.bool true,.bool true,[],rfl,λ_=>rfl,.bool true,cQG l _,λ_=>⟨List.Pairwise.nil,λ_ hm=>(nomatch hm)⟩⟩,h2,h3,h4⟩
end Att
namespace L2
open PySem PySem.Spec PyProof.Rows
variable {x:Str}
def zY:∀ {vs:List Value} {ns:List Int},IntsAre vs ns->Vals (ns.map V.int) vs
 |_,_,.nil=>.nil
 |_,_,.cons n t h=>.cons ⟨t,rfl⟩ (zY h)
def kC(s:Stmt):Arguments:=match s with
 |.FunctionDef _ a _ _ _ _ _ _ _ _=>a
 |_=>{posonlyargs:=[],args:=[],vararg:=none,kwonlyargs:=[],kw_defaults:=[],kwarg:=none,defaults:=[]}
def fU(s:Stmt):List Stmt:=match s with
 |.FunctionDef _ _ b _ _ _ _ _ _ _=>b
 |_=>[]
def aK(s:Stmt):Scope:=match s with
 |.FunctionDef _ _ _ _ _ _ sc _ _ _=>sc
 |_=>{kind:=.function,names:=[],isGenerator:=false,isCoroutine:=false}
abbrev CX0:CXT:=λ_ _ _ _ _ _=>False
abbrev E0:XK:=λ_ _ _=>False
def dZD{X:Cx}:kF CX0 X E0:=λ_ _ _ _ _ _ _ h=>h.elim
structure Fun (K:W.Frag) (x qual:Str) (st:Stmt) (f:Addr) (fd:FuncData):Prop where
 ex:∃(oc:Value) (od:Option Addr) (kV doc pm:Value) (an:Option Addr) (cdv ct:Value) (osl:Array (Option Value)),
  fd=W.fnOf x qual (kC st) (fU st) (aK st) .none kV doc pm an cdv ct/\K.lookup f=some ⟨oc,od,.func fd,osl⟩/\W.codeIn K cdv qual=true
 kp:W.keepIn K (.ref f)=true
section
variable {P:Program} {w:World} {K:W.Frag} {mg:Q4} {base:Heap}
def Fun.ok{qual:Str}{st:Stmt}{f:Addr}{fd:FuncData}{N ps:List Str}{k:Nat}{sp:Sp}(F:Fun K x qual st f fd)(S:FnScope N ps (aK st))(len:∀vs H Q E,sp vs H Q E->vs.length=ps.length)(hbody:∀(cdv:Value) (A:Around) (outer:List Env) (s:Shared) (H:Hp) (vs:List V) (Q:VK) (E:XK),Room k (A.deeper (envOfC qual (aK st) s.heap.objs.size f cdv))->sp vs H Q E->
 ∃t,PSs (iB CX0 P w K mg base N qual (aK st) f cdv A outer s H E).nox (fU st) t/\t {nx:=λ_ H'=>Q .non H',rt:=Q} (lT N vs) H):FnOk P w K mg base CX0 (k+1) f fd ps sp:=by
 obtain⟨oc,od,kV,doc,pm,an,cdv,ct,osl,rfl,lk,hcd⟩:=F.ex;refine eXF lk hcd S len λA outer s H vs Q E hr hsp=>?_;obtain⟨t,h,q⟩:=hbody cdv A outer s H vs Q E hr hsp;exact⟨t,h.nox,q⟩
def Fun.binds{qual:Str}{st:Stmt}{f:Addr}{fd:FuncData}{ps:List Str}(F:Fun K x qual st f fd)(h:∀(kV doc pm:Value) (an:Option Addr) (cdv ct:Value) (us:List Value),us.length=ps.length->bindArgs (W.fnOf x qual (kC st) (fU st) (aK st) .none kV doc pm an cdv ct) ⟨us,[]⟩=pure (ps.zip us)):Binds K fd ps []:=by
 obtain⟨oc,od,kV,doc,pm,an,cdv,ct,osl,rfl,lk,hcd⟩:=F.ex;exact .all (h kV doc pm an cdv ct)
def aQ3{qual:Str}{st:Stmt}{f:Addr}{oc:Value}{od an:Option Addr}{osl:Array (Option Value)}{kV doc pm cdv ct:Value}(l:K.lookup f=some ⟨oc,od,.func (W.fnOf x qual (kC st) (fU st) (aK st) .none kV doc pm an cdv ct),osl⟩)(c:W.codeIn K cdv qual=true)(k:W.keepIn K (.ref f)=true):Fun K x qual st f (W.fnOf x qual (kC st) (fU st) (aK st) .none kV doc pm an cdv ct):=⟨⟨oc,od,kV,doc,pm,an,cdv,ct,osl,rfl,l,c⟩,k⟩
end
section
variable {X:Cx}
def pv(i:Nat){pos:Pos}(hN:X.N[i]?=some x:=by rfl)(hv:Vis X.env.scope x:=by first|exact Or.inl rfl|exact Or.inr (Or.inl rfl)|exact Or.inr (Or.inr rfl))(hd:(x==("__debug__" : Str))=false:=by decide)(hcd:(x==("__classdict__" : Str))=false:=by decide):PE X (.Name x pos) (fJ0 i):=fQD hN hv hd hcd
end
def fJ7{A B:Prop}(h:B):if false=true then A else B:=by
 rw[if_neg An];exact h
def gQE{A B:Prop}(h:A):if true=true then A else B:=by
 rw[if_pos rfl];exact h
def dZ{c A B:Prop}[Decidable c](h1:c->A)(h2:¬c->B):if c then A else B:=by
 by_cases h:c
 ·rw[if_pos h];exact h1 h
 ·rw[if_neg h];exact h2 h
def Same(H H':Hp):Prop:=∀b o,H b=some o->H' b=some o
def Same.refl(H:Hp):Same H H:=λ_ _ h=>h
def Same.trans{H H1 H2:Hp}(a:Same H H1)(b:Same H1 H2):Same H H2:=λc o h=>b c o (a c o h)
def Same.seq{K:W.Frag}{H H':Hp}{a:Addr}{xs:List V}(e:Same H H')(h:SqL K H a xs):SqL K H' a xs:=by
 rcases h with(h|⟨o,h⟩)|h
 ·exact .inl (.inl (e _ _ h))
 ·exact .inl (.inr ⟨o,e _ _ h⟩)
 ·exact .inr h
end L2
namespace FlT
open PySem PySem.Spec PyProof.Rows
def sIx(n d:Nat):Option Int->Nat
 |none=>d
 |some v=>if v<0 then (v+(n:Int)).toNat else min v.toNat n
def cJD(n d:Nat)(hd:d<=n)(o:Option Int):sIx n d o<=n:=by
 cases o with
 |none=>exact hd
 |some v=>
  show (if v<0 then (v+(n:Int)).toNat else min v.toNat n)<=n
  by_cases hv:v<0
  ·rw[if_pos hv];omega
  ·rw[if_neg hv];omega
def bZM(n d:Nat)(hd:d<=n)(v:Option Int):(match v with
 |none=>(d:Int)
 |some i=>if (1:Int)>0 then max 0 (min (if i<0 then i+(n:Int) else i) (n:Int)) else max (-1) (min (if i<0 then i+(n:Int) else i) ((n:Int)-1)))=((sIx n d v:Nat):Int):=by
 cases v with
 |none=>rfl
 |some i=>
  simp only[show (1:Int)>0 by decide,if_true,sIx]
  by_cases h:i<0
  ·simp only[h,if_true];omega
  ·simp only[h,if_false];omega
def bJK(lo hi:Option Int)(n:Nat):Builtin.Str.strSliceIndices lo hi 1 n=(List.range (sIx n n hi-sIx n 0 lo)).map (sIx n 0 lo+·):=by
 have h1:=bZM n 0 (Da _) lo
 have h2:=bZM n n (Ai _) hi
 rw[<-sliceRange_one,<-h1,<-h2];rfl
def slice_cps(z:Str)(lo hi:Option Int):(Txt.slice z lo hi).cps.toList=(z.cps.toList.drop (sIx z.length 0 lo)).take (sIx z.length z.length hi-sIx z.length 0 lo):=by
 have e:((Builtin.Str.strSliceIndices lo hi 1 z.length).filterMap (z.cps[·]?))=(z.cps.toList.drop (sIx z.length 0 lo)).take (sIx z.length z.length hi-sIx z.length 0 lo):=by
  rw[bJK,pick_run]
 unfold Txt.slice;split
 ·rename_i h
  have hl:(Builtin.Str.strSliceIndices lo hi 1 z.length).length=z.length:=by simpa using h
  rw[bJK,Ab,Ce]at hl;have hn:z.cps.toList.length=z.length:=by simp[Str.length]
  have h1:=cJD z.length z.length (Ai _) hi
  have h2:=cJD z.length 0 (Da _) lo
  have a0:sIx z.length 0 lo=0:=by omega
  rw[a0,List.drop_zero,Be (by omega)]
 ·show (List.toArray _).toList=_
  rw[<-e]
def yW:∀(ys:List Str) (acc:Array Nat),(ys.foldl (λacc p=>acc++(#[]:Array Nat)++p.cps) acc).toList=acc.toList++(ys.map λy=>y.cps.toList).flatten
 |[],acc=>by simp
 |y::r,acc=>by
  rw[List.foldl_cons,yW r];simp
def join_cps(ys:List Str):(Txt.join ⟨#[]⟩ ys).cps.toList=(ys.map λy=>y.cps.toList).flatten:=by
 cases ys with
 |nil=>rfl
 |cons y r=>
  have e:=yW r y.cps
  rw[Aw,Ct,<-e];rfl
def app_cps(x y:Str):(x++y).cps.toList=x.cps.toList++y.cps.toList:=by
 show (x.cps++y.cps).toList=_
 simp
def str_ext{x y:Str}(h:x.cps.toList=y.cps.toList):x=y:=by
 obtain⟨⟨x⟩⟩:=x;obtain⟨⟨y⟩⟩:=y;cases h;rfl
end FlT
namespace L2
open PySem PySem.Spec PyProof.Rows
variable {A:Around}{C a b dx ea f q:Addr}{D:Ends}{E:Q0}{Es:St->XK}{H H' H1 Hc Hs:Hp}{K:W.Frag}{M:Model}{N:List Str}{P prog:Program}{Q:VK}{R:It->Hp->Prop}{S:Str->Hp->Prop}{T newId:String}{X:Cx}{apos cpos np pos tp:Pos}{base h h':Heap}{bmB us:List Value}{body:List Stmt}{bs:List Bool}{cl:List (Str×Addr)}{d:Option Addr}{e iter l tg:Expr}{elts es ifs:List Expr}{env:Env}{ep i j k k' n x1:Nat}{fd:FuncData}{fp ps:List Addr}{fs:List (List V)}{g:TG}{hi:Option Int}{kvs:List (Key×V)}{lo:Int}{mg:Q4}{mk:(Value->Option Addr->St->Hp->Prop)->TS}{name qual x z:Str}{neg:Bool}{ns:List Int}{o oe:Obj}{outer:List Env}{y3:Q2}{pl:Sem Bool}{r:V->List V->Hp->VK->Prop}{s s1:Shared}{scope:Scope}{sp:Sp}{st:Stmt}{t ta tk:TA}{tb ts:TS}{te tl to tv:TE}{tests:TT}{u:Value}{v y:V}{vals:St->St}{vs xs ys:List V}{w:World}{σ σ0:St}
def PE.imp{t t':TE}(h:PE X e t)(i:∀σ H Q,t' σ H Q->t σ H Q):PE X e t':=λy3 s σ H Q I q=>h y3 s σ H Q I (i σ H Q q)
def OpR.imp{f:Value->Value->Sem Value}{r r':R2}(h:OpR X f r)(i:∀x y H Q,r' x y H Q->r x y H Q):OpR X f r':=λy3 s σ H x y v u Q I rx ry q=>h y3 s σ H x y v u Q I rx ry (i x y H Q q)
def CallR.imp{f:Value}{r r':List V->Hp->VK->Prop}(h:CallR X f r)(i:∀xs H Q,r' xs H Q->r xs H Q):CallR X f r':=λy3 s σ H xs us Q I rx q=>h y3 s σ H xs us Q I rx (i xs H Q q)
def MtR.imp{id:String}{r r':V->List V->Hp->VK->Prop}(h:MtR X id r)(i:∀x xs H Q,r' x xs H Q->r x xs H Q):MtR X id r':=λy3 s σ H x xs v us Q I rx rs q=>h y3 s σ H x xs v us Q I rx rs (i x xs H Q q)
def IxR.imp{r r':R2}(h:IxR X r)(i:∀x y H Q,r' x y H Q->r x y H Q):IxR X r':=λvalue slice y3 s σ H x y v u Q I rx ry q hs=>h value slice y3 s σ H x y v u Q I rx ry (i x y H Q q) hs
def SlR.imp{r r':V->Option Int->Option Int->Hp->VK->Prop}(h:SlR X r)(i:∀x lo hi H Q,r' x lo hi H Q->r x lo hi H Q):SlR X r':=λy3 s σ H x v vl vu lo hi sl Q I rx hs pl pu q=>h y3 s σ H x v vl vu lo hi sl Q I rx hs pl pu (i x lo hi H Q q)
def Its(z:Str):It:=⟨λi _=>i<z.cps.size,λi H x H'=>H'=H/\∃c,z.cps[i]?=some c/\x=.str ⟨#[c]⟩,λi _=>z.cps.size<=i⟩
def bZC(z:Str)(t:Tok)(it:Addr):Turn P w K tg (Its z) [it] it (λi h=>h.IsStrIter it "str_ascii_iterator" z t i) where
 mem:=by simp
 obj:=λi h st b hb=>by
  have e:b=it:=by simpa using hb
  subst e;obtain⟨o,e,c,d⟩:=st;exact⟨o,e,λv z=>by rw[d]at z;cases z⟩
 keep:=λi h h' st k=>let ⟨o,ho,r⟩:=st;⟨o,k it (by simp) o ho,r⟩
 item:=by
  intro X hP hw hK hc i y3 s σ H E I hf st hg;subst hP hw hK;obtain⟨f0,f1,f2,f3,f4,f5⟩:=hf it (by simp)
  have hi:i<z.cps.size:=hg
  refine wpAny_pyNext_ascii_item st (c:=z.cps[i]) (by simp[hi]) λh' st' sb=>?_
  have I1:Inv X y3 σ H {s with heap:=h',toks:=s.toks+1}:=I.turned (λb o hb e=>(sb.2 b hb).trans e) f0 f1 f3 f4 f5
  obtain⟨o,e,c,d⟩:=id st';exact⟨_,rfl,wF (s:={s with heap:=h',toks:=s.toks+1}) e c d (by decide) ⟨.str ⟨#[z.cps[i]]⟩,H,I1,⟨_,rfl⟩,⟨rfl,_,by simp[hi],rfl⟩,st',λb hb=>(hf b hb).1⟩⟩
 done:=by
  intro X hP hw hK hc i y3 s σ H E I hf st hg;subst hP hw hK;obtain⟨f0,f1,f2,f3,f4,f5⟩:=hf it (by simp)
  have hi:z.cps.size<=i:=hg
  exact wpAny_pyNext_ascii_end (I.ok.hd hc) st (by simp[hi]) λh' eb=>⟨rfl,I.turned (t':=s.toks) (λb o hb e=>eb b o hb e) f0 f1 f3 f4 f5⟩
 self:=λ_ _ _ _ _ st h=>wpAny_pyIter_striter_ascii st h
def cQS(z:Str)(t:Tok)(it:Addr):Turn P w K tg (Its z) [it] it (λi h=>h.IsStrIter it "str_iterator" z t i) where
 mem:=by simp
 obj:=λi h st b hb=>by
  have e:b=it:=by simpa using hb
  subst e;obtain⟨o,e,c,d⟩:=st;exact⟨o,e,λv z=>by rw[d]at z;cases z⟩
 keep:=λi h h' st k=>let ⟨o,ho,r⟩:=st;⟨o,k it (by simp) o ho,r⟩
 item:=by
  intro X hP hw hK hc i y3 s σ H E I hf st hg;subst hP hw hK;obtain⟨f0,f1,f2,f3,f4,f5⟩:=hf it (by simp)
  have hi:i<z.cps.size:=hg
  refine wpAny_pyNext_wide_item st (c:=z.cps[i]) (by simp[hi]) λh' st' sb=>?_
  have I1:Inv X y3 σ H {s with heap:=h',toks:=s.toks+1}:=I.turned (λb o hb e=>(sb.2 b hb).trans e) f0 f1 f3 f4 f5
  obtain⟨o,e,c,d⟩:=id st';exact⟨_,rfl,wF (s:={s with heap:=h',toks:=s.toks+1}) e c d (by decide) ⟨.str ⟨#[z.cps[i]]⟩,H,I1,⟨_,rfl⟩,⟨rfl,_,by simp[hi],rfl⟩,st',λb hb=>(hf b hb).1⟩⟩
 done:=by
  intro X hP hw hK hc i y3 s σ H E I hf st hg;subst hP hw hK;obtain⟨f0,f1,f2,f3,f4,f5⟩:=hf it (by simp)
  have hi:z.cps.size<=i:=hg
  exact wpAny_pyNext_wide_end (I.ok.hd hc) st (by simp[hi]) λh' eb=>⟨rfl,I.turned (t':=s.toks) (λb o hb e=>eb b o hb e) f0 f1 f3 f4 f5⟩
 self:=λ_ _ _ _ _ st h=>wpAny_pyIter_striter_wide st h
def dZ2(Pv:Nat->St->Hp->Prop)(h0:Pv 0 σ H)(hs:∀i c σ H,z.cps.toList[i]?=some c->Pv i σ H->g (.str ⟨#[c]⟩) σ H λσ2 H2=>tb {D with nx:=Pv (i+1),ct:=Pv (i+1),bk:=D.nx} σ2 H2)(hd:∀σ H,Pv z.cps.toList.length σ H->D.nx σ H):∃W:Nat->Nat->St->Hp->Prop,(∃m,W 0 m σ H)/\∀i m σ H,W i m σ H->
 ((Its z).stop i H/\D.nx σ H)\/((Its z).go i H/\∃N:St->Hp->Prop,(∀σ' H',N σ' H'->∃m',m' < m/\W (i+1) m' σ' H')/\∀x H',(Its z).yld i H x H'->g x σ H' λσ2 H2=>tb {D with nx:=N,ct:=N,bk:=D.nx} σ2 H2):=by
 have hl:z.cps.toList.length=z.cps.size:=by simp
 rw[hl]at hd;refine⟨λi m σ H=>m=z.cps.size-i/\i<=z.cps.size/\Pv i σ H,⟨z.cps.size,by simp,Nat.zero_le _,h0⟩,?_⟩
 rintro i m σ H ⟨rfl,hi,p⟩;by_cases hlt:i<z.cps.size
 ·refine .inr ⟨hlt,Pv (i+1),λσ' H' p'=>⟨z.cps.size-(i+1),by omega,rfl,hlt,p'⟩,λx H' y=>?_⟩
  obtain⟨e,c,hc,hx⟩:=y;subst e hx;exact hs i c σ _ (by simpa using hc) p
 ·have e:i=z.cps.size:=by omega
  subst e;exact .inl ⟨Ai _,hd σ H p⟩
section
variable {b:Expr}
def gQP:V->Option Int->Option Int->Hp->VK->Prop:=λx lo hi H Q=>∃z,x=.str z/\z.length<=sizeLine/\Q (.str (Txt.slice z lo hi)) H
def eJF:SlR X gQP:=by
 intro y3 s σ H x v vl vu lo hi sl Q I rx hs pl pu h;obtain⟨z,rfl,hz,q⟩:=h;obtain⟨t,rfl⟩:=rx;refine⟨"str",_,PySem.F.slot_str_getitem.lookup,Hv _ _ _,?_⟩;cases pl with
 |none=>
  cases pu with
  |none=>exact Ff (l:=none) (u:=none) (st:=none) hs rfl (post_val_or_str ⟨Bi (Txt.slice_le z _ _) hz,λt' k=>⟨.str (Txt.slice z none none),H,I.tok _,⟨_,rfl⟩,q⟩⟩)
  |int j uj=>exact Ff (l:=none) (u:=some (j,uj)) (st:=none) hs rfl (post_val_or_str ⟨Bi (Txt.slice_le z _ _) hz,λt' k=>⟨.str (Txt.slice z none (some j)),H,I.tok _,⟨_,rfl⟩,q⟩⟩)
 |int i ui=>
  cases pu with
  |none=>exact Ff (l:=some (i,ui)) (u:=none) (st:=none) hs rfl (post_val_or_str ⟨Bi (Txt.slice_le z _ _) hz,λt' k=>⟨.str (Txt.slice z (some i) none),H,I.tok _,⟨_,rfl⟩,q⟩⟩)
  |int j uj=>exact Ff (l:=some (i,ui)) (u:=some (j,uj)) (st:=none) hs rfl (post_val_or_str ⟨Bi (Txt.slice_le z _ _) hz,λt' k=>⟨.str (Txt.slice z (some i) (some j)),H,I.tok _,⟨_,rfl⟩,q⟩⟩)
def eQB:V->List V->Hp->VK->Prop:=λx vs H Q=>∃z y i rest,x=.str z/\vs=[.str y]/\Builtin.Str.occurrences z y 0 z.length 1=i::rest/\Q (.int ((i:Nat):Int)) H
def mt_index:MtR X "str.index" eQB:=by
 intro y3 s σ H x vs v us Q I rx rv h;obtain⟨z,y,i,rest,rfl,rfl,ho,q⟩:=h;obtain⟨t,rfl⟩:=rx;obtain⟨u,rfl,ru⟩:=rv.one;obtain⟨t',rfl⟩:=ru;exact SC.index ho ⟨.int i,H,I.tok _,⟨_,rfl⟩,q⟩
def vJ{ys:List Str}:∀ {us:List Value},Vals (ys.map V.str) us->StrsAre us ys:=by
 induction ys with
 |nil=>intro us r;rw[Hr]at r;cases r;exact .nil
 |cons n ns ih=>
  intro us r;rw[Aw]at r;cases r with
  |cons r1 r2=>
   obtain⟨t,e⟩:=r1;subst e;exact .cons n t (ih r2)
def fJB(K:W.Frag):V->List V->Hp->VK->Prop:=λx vs H Q=>∃z p ys,x=.str z/\vs=[.ref p]/\SqL K H p (ys.map V.str)/\(ys.map (·.length)).sum+ys.length*z.length<=16777216/\Q (.str (Txt.join z ys)) H
def mt_join:MtR X "str.join" (fJB X.K):=by
 intro y3 s σ H x vs v us Q I rx rv h;obtain⟨z,p,ys,rfl,rfl,hp,hz,q⟩:=h;obtain⟨t,rfl⟩:=rx;obtain⟨u,rfl,ru⟩:=rv.one;cases ru;obtain⟨its,r,pl,_⟩:=I.list hp;exact join_list pl.isList (by simpa using vJ r) hz λt' k=>⟨.str (Txt.join z ys),H,I.tok _,⟨_,rfl⟩,q⟩
def yL:CallR X (.type "int") (λxs H Q=>∃x n,xs=[.str x]/\PySem.intText? x=some n/\x.length<=640/\Q (.int n) H):=by
 intro y3 s σ H xs us Q I r h;obtain⟨x,n,rfl,hn,hl,q⟩:=h;obtain⟨u,rfl,t,rfl⟩:=eW r;exact W.KIN.call_text hn hl ⟨.int n,H,I.tok _,⟨_,rfl⟩,q⟩
def aZV:∀ {us:List Value},Vals (bs.map V.bl) us->LSm.BoolsAre us bs:=by
 induction bs with
 |nil=>intro us r;rw[Hr]at r;cases r;exact .nil
 |cons n ns ih=>
  intro us r;rw[Aw]at r;cases r with
  |cons r1 r2=>
   cases r1;exact .cons n (ih r2)
def yK(hc:X.calm=true):CallR X (.builtin "all") (λxs H Q=>∃(p:Addr) (bs:List Bool),xs=[.ref p]/\SqL X.K H p (bs.map V.bl)/\Q (.bl (bs.all id)) H):=by
 intro y3 s σ H xs us Q I r h;obtain⟨p,bs,rfl,hp,q⟩:=h;obtain⟨u,rfl,ru⟩:=eW r;cases ru;obtain⟨its,rv,pl,hz⟩:=I.list hp;have hb:=aZV rv
 have hl:=pl.isList
 have hlt:p<s.heap.objs.size:=by obtain⟨_,e,_⟩:=hl;exact Au e
 refine call_all_walk (Eg hl ?_);refine⟨s.heap.objs.size,[s.heap.objs.size,p],[s.heap.objs.size],its.toArray.size,_,_,λi=>(bs[i]?).getD true,rfl,Walks.list (A:=X.A.in1) (I.ok.hd hc) _ p (Bl hlt) its.toArray,
  ⟨⟨_,Ay _ rfl,rfl,rfl⟩,hl.push _⟩,λi v s' Q' E' hP hQ=>?_,λh' tk hk=>?_⟩
 ·obtain⟨b,e,rfl⟩:=hb.get i v (by simpa using hP)
  simp only[e,Option.getD_some]at hQ;exact Fp hQ
 ·have e:((List.range its.toArray.size).all λi=>(bs[i]?).getD true)=bs.all id:=by
   rw[Ax,hb.length];exact LSm.range_all bs
  rw[e];exact⟨.bl (bs.all id),H,I.kept (LSm.kept_iter hk),rfl,q⟩
def kH(xs ys:List V):Bool:=xs.length==ys.length&&(List.range xs.length).all λj=>eqV (xs.getD j .non) (ys.getD j .non)
def Vals.getD_rel(r:Vals xs us)(h:j<us.length):RelV (xs.getD j .non) us[j]:=by
 have hl:=r.length
 have hx:j<xs.length:=by omega
 obtain⟨u,hu,ru⟩:=r.get (Aa hx);rw[Aa h]at hu;cases hu;rw[Ad,Aa hx];exact ru
def jY(h:xs.all cB=true)(j:Nat):cB (xs.getD j .non)=true:=by
 rw[Ad];cases e:xs[j]? with
 |none=>rfl
 |some x=>exact Bv.mp h x (Ao e)
def eZ8(K:W.Frag)(neg:Bool):R2:=λx y H Q=>∃p q xs ys,x=.ref p/\y=.ref q/\SqL K H p xs/\SqL K H q ys/\xs.all cB=true/\ys.all cB=true/\Q (.bl (if neg then !kH xs ys else kH xs ys)) H
def wW(h:xs.length≠ys.length):kH xs ys=false:=by
 unfold kH;rw[Cw.mpr h,Bool.false_and]
def nH(h:xs.length=ys.length):kH xs ys=(List.range xs.length).all λj=>eqV (xs.getD j .non) (ys.getD j .non):=by
 unfold kH;rw[h,Em,Ge]
def bXX(hu:X.A.units<cLine):OpR X (compareOp .Eq) (eZ8 X.K false):=by
 intro y3 s σ H x y v u Q I rx ry h;obtain⟨p,q,xs,ys,rfl,rfl,hp,hq,fx,fy,k⟩:=h;cases rx;cases ry;obtain⟨its,r1,l1,_⟩:=I.list hp;obtain⟨its2,r2,l2,_⟩:=I.list hq;have e1:=r1.length
 have e2:=r2.length
 by_cases hl:xs.length=ys.length
 ·refine SeqAt.eq_listAt (e:=λj=>eqV (xs.getD j .non) (ys.getD j .non)) l1.isList l2.isList (by simp only[List.size_toArray];omega) hu (λj h1 h2=>?_) ?_
  ·have h1':j<its.length:=by simpa using h1
   have h2':j<its2.length:=by simpa using h2
   simpa using oO (A:=X.A.in1) (s:=s) (r1.getD_rel h1') (r2.getD_rel h2') (jY fx j) (jY fy j)
  ·refine⟨.bl (kH xs ys),H,I,?_,k⟩;rw[nH hl];simp only[List.size_toArray,<-e1];rfl
 ·refine SeqAt.eq_list_lengthsAt l1.isList l2.isList (by simp only[List.size_toArray,bne_iff_ne];omega) hu ⟨.bl (kH xs ys),H,I,?_,k⟩
  rw[wW hl];rfl
def bXG(hu:X.A.units<cLine):OpR X (compareOp .NotEq) (eZ8 X.K true):=by
 intro y3 s σ H x y v u Q I rx ry h;obtain⟨p,q,xs,ys,rfl,rfl,hp,hq,fx,fy,k⟩:=h;cases rx;cases ry;obtain⟨its,r1,l1,_⟩:=I.list hp;obtain⟨its2,r2,l2,_⟩:=I.list hq;have e1:=r1.length
 have e2:=r2.length
 by_cases hl:xs.length=ys.length
 ·refine SeqAt.RcNeAt.lists (e:=λj=>eqV (xs.getD j .non) (ys.getD j .non)) l1.isList l2.isList (by simp only[List.size_toArray];omega) hu (λj h1 h2=>?_) X.prog X.w _ _ ?_
  ·have h1':j<its.length:=by simpa using h1
   have h2':j<its2.length:=by simpa using h2
   simpa using oO (A:=X.A.in1) (s:=s) (r1.getD_rel h1') (r2.getD_rel h2') (jY fx j) (jY fy j)
  ·refine⟨.bl (!kH xs ys),H,I,?_,k⟩;rw[nH hl];simp only[List.size_toArray,<-e1];rfl
 ·refine SeqAt.RcNeAt.lists_lengths l1.isList l2.isList (by simp only[List.size_toArray,bne_iff_ne];omega) hu X.prog X.w _ _ ⟨.bl (!kH xs ys),H,I,?_,k⟩
  rw[wW hl];rfl
end
def rdO:Option HO->Option (List V)
 |some (.lst xs)=>some xs
 |some (.frz _ (.lst xs))=>some xs
 |_=>none
def rdL(H:Hp)(a:Addr):Option (List V):=rdO (H a)
def bG(h:rdL H a=some xs):SqL K H a xs:=by
 unfold rdL rdO at h;split at h
 ·cases h;exact .inl (.inl (by assumption))
 ·cases h;exact .inl (.inr ⟨_,by assumption⟩)
 ·cases h
def aR(h:H a=some (.lst xs)):rdL H a=some xs:=by unfold rdL;rw[h];rfl
def bP:rdL (upd H a (.lst xs)) a=some xs:=aR aH
def bX3{o:HO}(h:b≠a):rdL (upd H a o) b=rdL H b:=by unfold rdL;rw[aM h]
def aO{H:Hp}(e:Same H H')(h:rdL H a=some xs):rdL H' a=some xs:=by
 unfold rdL at h ⊢;cases q:H a with
 |none=>rw[q]at h;cases h
 |some o=>rw[e a o q,<-q];exact h
def aG{p:Addr}(h:H p=none)(o:HO):Same H (upd H p o):=λb u q=>by rw[aM (bM q h)];exact q
def jQ(H:Hp)(a:Addr):Option (List V):=match H a with|some (.lst xs)=>some xs|_=>none
def bQ(h:H a=some (.lst xs)):jQ H a=some xs:=by unfold jQ;rw[h]
def nG(h:jQ H a=some xs):H a=some (.lst xs):=by
 unfold jQ at h;split at h
 ·cases h;assumption
 ·cases h
def dD:jQ (upd H a (.lst xs)) a=some xs:=bQ aH
def uE{o:HO}(h:b≠a):jQ (upd H a o) b=jQ H b:=by unfold jQ;rw[aM h]
def tR(H:Hp)(a:Addr):Option (List V):=match H a with|some (.tup xs)=>some xs|_=>none
def cN(h:H a=some (.tup xs)):tR H a=some xs:=by unfold tR;rw[h]
def uJ(h:tR H a=some xs):H a=some (.tup xs):=by
 unfold tR at h;split at h
 ·cases h;assumption
 ·cases h
def mZ:tR (upd H a (.tup xs)) a=some xs:=cN aH
section
variable {a b c:Expr} {ta tb:TE}
def eQF(i:Nat):TE:=λσ H Q=>match σ[i]? with|some (some v)=>Q v H|_=>False
def mv(i:Nat)(hN:X.N[i]?=some x:=by rfl)(hv:Vis X.env.scope x:=by first|exact Or.inl rfl|exact Or.inr (Or.inl rfl)|exact Or.inr (Or.inr rfl))(hd:(x==("__debug__" : Str))=false:=by decide)(hcd:(x==("__classdict__" : Str))=false:=by decide):PE X (.Name x pos) (eQF i):=(pv i hN hv hd hcd).imp λσ H Q q=>by
 unfold eQF at q;split at q
 ·exact⟨_,by assumption,q⟩
 ·exact q.elim
def mI(g:Int->Int->V):R2:=λx y H Q=>match x,y with|.int i,.int j=>Q (g i j) H|_,_=>False
def xG{g:Int->Int->V}{x:V}(q:mI g x y H Q):rI0 g x y H Q:=by
 unfold mI at q;split at q
 ·exact⟨_,_,rfl,rfl,q⟩
 ·exact q.elim
def mIC(C:Int->Int->Prop)(g:Int->Int->V):R2:=λx y H Q=>match x,y with|.int i,.int j=>C i j/\Q (g i j) H|_,_=>False
def aQS{C:Int->Int->Prop}{g:Int->Int->V}{x:V}(q:mIC C g x y H Q):rI C g x y H Q:=by
 unfold mIC at q;split at q
 ·exact⟨_,_,rfl,rfl,q.1,q.2⟩
 ·exact q.elim
def cXK:R2:=λx y H Q=>match x,y with
 |.int i,.int j=>Q (.int (i+j)) H
 |.str z,.str y=>z.length+y.length<=sizeLine/\Q (.str (z++y)) H
 |.ref p,.ref q=>(match jQ H p,jQ H q with
  |some xs,some zs=>xs.length+zs.length<=sizeLine/\∀r,H r=none->Q (.ref r) (upd H r (.lst (xs++zs)))
  |_,_=>False)
 |_,_=>False
def bN:OpR X (binaryOp .Add) cXK:=by
 intro y3 s σ H x y v u Q I rx ry q;unfold cXK at q;split at q
 ·exact eZG y3 s σ H _ _ v u Q I rx ry ⟨_,_,rfl,rfl,q⟩
 ·exact bQ7 y3 s σ H _ _ v u Q I rx ry ⟨_,_,rfl,rfl,q.1,q.2⟩
 ·split at q
  ·exact eZ5 y3 s σ H _ _ v u Q I rx ry ⟨_,_,_,_,rfl,rfl,nG (by assumption),nG (by assumption),q.1,q.2⟩
  ·exact q.elim
 ·exact q.elim
def tG:OpR X (binaryOp .Sub) (mI λi j=>.int (i-j)):=op_sub.imp λ_ _ _ _ q=>xG q
def nV:OpR X (binaryOp .Mult) (mIC CMul λi j=>.int (i*j)):=op_mul.imp λ_ _ _ _ q=>aQS q
def cV:OpR X (binaryOp .Mod) (mIC (λ_ j=>0<j) λi j=>.int (i%j)):=op_mod.imp λ_ _ _ _ q=>aQS q
def fF:OpR X (binaryOp .FloorDiv) (mIC fZ4 λi j=>.int (i / j)):=op_fdiv.imp λ_ _ _ _ q=>aQS q
def aXP:OpR X (compareOp .Lt) (mI λi j=>.bl (decide (i<j))):=op_lt.imp λ_ _ _ _ q=>xG q
def gQD:OpR X (compareOp .LtE) (mI λi j=>.bl (decide (i<=j))):=op_le.imp λ_ _ _ _ q=>xG q
def bQS:OpR X (compareOp .Gt) (mI λi j=>.bl (decide (j<i))):=op_gt.imp λ_ _ _ _ q=>xG q
def fJO:OpR X (compareOp .GtE) (mI λi j=>.bl (decide (j<=i))):=op_ge.imp λ_ _ _ _ q=>xG q
def eZP:V->Hp->VK->Prop:=λx H Q=>match x with|.int i=>Q (.int (-i)) H|_=>False
def sV:UnR X (unaryOp .USub) eZP:=λy3 s σ H x v Q I rx q=>by
 unfold eZP at q;split at q
 ·exact eJX y3 s σ H _ v Q I rx ⟨_,rfl,q⟩
 ·exact q.elim
def mEq:R2:=λx y H Q=>dZG x y=true/\Q (.bl (decide (x=y))) H
def iE:OpR X (compareOp .Eq) mEq:=fXT
def mNe:R2:=λx y H Q=>dZG x y=true/\Q (.bl (!decide (x=y))) H
def cXE:OpR X (compareOp .NotEq) mNe:=fJA
def cXP(neg:Bool):R2:=λx y H Q=>match x,y with
 |.ref p,.ref q=>(match rdL H p,rdL H q with
  |some xs,some ys=>xs.all cB=true/\ys.all cB=true/\Q (.bl (if neg then !kH xs ys else kH xs ys)) H
  |_,_=>False)
 |_,_=>False
def bQF{x:V}(q:cXP neg x y H Q):eZ8 K neg x y H Q:=by
 unfold cXP at q;split at q
 ·split at q
  ·exact⟨_,_,_,_,rfl,rfl,bG (by assumption),bG (by assumption),q.1,q.2.1,q.2.2⟩
  ·exact q.elim
 ·exact q.elim
def dZE(hu:X.A.units<cLine):OpR X (compareOp .Eq) (cXP false):=(bXX hu).imp λ_ _ _ _ q=>bQF q
def fZ0(hu:X.A.units<cLine):OpR X (compareOp .NotEq) (cXP true):=(bXG hu).imp λ_ _ _ _ q=>bQF q
def fQ3:R2:=λx y H Q=>match y with|.non=>Q (.bl (decide (x=.non))) H|_=>False
def aJK:OpR X (compareOp .Is) fQ3:=op_isN.imp λ_ y _ _ q=>by
 unfold fQ3 at q;split at q
 ·exact⟨rfl,q⟩
 ·exact q.elim
def cZW:R2:=λx y H Q=>match y with|.non=>Q (.bl (!decide (x=.non))) H|_=>False
def aQN:OpR X (compareOp .IsNot) cZW:=op_notN.imp λ_ y _ _ q=>by
 unfold cZW at q;split at q
 ·exact⟨rfl,q⟩
 ·exact q.elim
def subIn(y x:Str):Bool:=!(Builtin.Str.occurrences x y 0 x.length 1).isEmpty
def mX(x:Str)(c:Nat):subIn ⟨#[c]⟩ x=decide (c∈x.cps.toList):=PySem.StrLaws.found_one x c
def fXE(neg:Bool):R2:=λx y H Q=>match x,y with|.str i,.str j=>Q (.bl (if neg then !subIn i j else subIn i j)) H|_,_=>False
def aZN:OpR X (compareOp .In) (fXE false):=op_in_str.imp λ_ _ _ _ q=>by
 unfold fXE at q;split at q
 ·exact⟨_,_,rfl,rfl,q⟩
 ·exact q.elim
def cXI(neg:Bool):R2:=λx y H Q=>match y with
 |.ref p=>(match rdL H p with|some xs=>cB x=true/\xs.all cB=true/\Q (.bl (if neg then !inV x xs else inV x xs)) H|none=>False)
 |_=>False
def bQE{x:V}(q:cXI neg x y H Q):rIn K neg x y H Q:=by
 unfold cXI at q;split at q
 ·split at q
  ·exact⟨_,_,rfl,.inl (bG (by assumption)),q.1,q.2.1,q.2.2⟩
  ·exact q.elim
 ·exact q.elim
def eXL:OpR X (compareOp .In) (cXI false):=op_in_seq.imp λ_ _ _ _ q=>bQE q
def bQB:OpR X (compareOp .NotIn) (cXI true):=op_notIn_seq.imp λ_ _ _ _ q=>bQE q
def mB(Q:Bool->Hp->Prop):VK:=λx H=>match x with|.bl k=>Q k H|_=>False
def eXY{Q:Bool->Hp->Prop}{x:V}(q:mB Q x H):∃k,x=.bl k/\Q k H:=by
 unfold mB at q;split at q
 ·exact⟨_,rfl,q⟩
 ·exact q.elim
def eXX(t:TE):TT:=λσ H Q=>t σ H (mB Q)
def bC{op:CmpOp}{r:R2}(ho:OpR X (compareOp op) r)(ha:PE X a ta)(hb:PE X b tb)(hm:behindInMarks op b=false):PT X (.Compare a [op] [b] pos) (eXX (tOp r ta tb)):=by
 intro y3 s σ H Q I h;refine wpAny_isTrue_Compare1 (thn (ha y3 s σ H _ I h) λv s1 ⟨x,H1,I1,r1,q1⟩=>thn (hb y3 s1 σ H1 _ I1 q1) λu s2 ⟨y,H2,I2,r2,q2⟩=>
  thn (ho y3 s2 σ H2 x y v u _ I2 r1 r2 q2) λc s3 ⟨z,H3,I3,r3,q⟩=>?_) hm
 obtain⟨k,e,q3⟩:=eXY q;subst e;cases r3;exact Fp ⟨H3,I3,q3⟩
def cZ2(Q:Bool->Hp->Prop):VK:=λx H=>match x with
 |.non=>Q false H
 |.bl k=>Q k H
 |.int i=>Q (i != 0) H
 |.str y=>y.length<=sizeLine/\Q ((y.length:Int) != 0) H
 |.ref p=>(match rdL H p with
  |some xs=>Q (!xs.isEmpty) H
  |none=>(match H p with|some (.dK kvs)=>Q (!kvs.isEmpty) H|_=>False))
 |_=>False
def dJK{Q:Bool->Hp->Prop}{x:V}(q:cZ2 Q x H):∃k,fJC K x H k/\Q k H:=by
 unfold cZ2 at q;split at q
 ·exact⟨_,rfl,q⟩
 ·exact⟨_,rfl,q⟩
 ·exact⟨_,rfl,q⟩
 ·exact⟨_,⟨q.1,rfl⟩,q.2⟩
 ·split at q
  ·exact⟨_,.inl ⟨_,bG (by assumption),rfl⟩,q⟩
  ·split at q
   ·exact⟨_,.inr (.inr ⟨_,by assumption,rfl⟩),q⟩
   ·exact q.elim
 ·exact q.elim
def cJ1(t:TE):TT:=λσ H Q=>t σ H (cZ2 Q)
def eG(ha:PE X a ta)(he:∀whole,isTrue a X.env whole=(do let v <-whole;standAt a.pos;holding [v] (truthy v)):=by intro _;rfl):PT X a (cJ1 ta):=by
 intro y3 s σ H Q I h;refine isTrue_plain (thn (ha y3 s σ H _ I h) λv s1 ⟨x,H1,I1,r1,q1⟩=>eJN y3 s1 σ H1 x v Q I1 r1 (dJK q1)) (he _)
variable {rest:List Expr}
def eXQ(ta tb:TE):TE:=λσ H Q=>ta σ H (mB λc H1=>if c=true then tb σ H1 Q else Q (.bl false) H1)
def aZE(ha:PE X a ta)(hb:PE X (.BoolOp .And (b::rest) pos) tb):PE X (.BoolOp .And (a::b::rest) pos) (eXQ ta tb):=by
 intro y3 s σ H Q I h;refine BoolOp_and (thn (ha y3 s σ H _ I h) λv s1 ⟨x,H1,I1,r1,q1⟩=>?_);obtain⟨c,rfl,q1⟩:=eXY q1;cases r1;refine Fp ?_;cases c with
 |true=>exact hb y3 s1 σ H1 Q I1 q1
 |false=>exact⟨.bl false,H1,I1,rfl,q1⟩
def mIx:R2:=λx y H Q=>match x,y with
 |.str z,.int i=>z.length<=sizeLine/\(match atI z.cps.toList i with|some c=>Q (.str ⟨#[c]⟩) H|none=>False)
 |.ref p,.int i=>(match rdL H p with
  |some xs=>(match atI xs i with|some v=>Q v H|none=>False)
  |none=>(match tR H p with
   |some xs=>(match atI xs i with|some v=>Q v H|none=>False)
   |none=>False))
 |_,_=>False
def eQZ{x:V}(q:mIx x y H Q):rIx K x y H Q:=by
 unfold mIx at q;split at q
 ·obtain⟨h1,q⟩:=q;split at q
  ·exact .inr (.inr ⟨_,_,_,rfl,rfl,h1,by assumption,q⟩)
  ·exact q.elim
 ·split at q
  ·split at q
   ·exact .inl ⟨_,_,_,_,rfl,rfl,bG (by assumption),by assumption,q⟩
   ·exact q.elim
  ·split at q
   ·split at q
    ·exact .inr (.inl ⟨_,_,_,_,rfl,rfl,SqT.of (uJ (by assumption)),by assumption,q⟩)
    ·exact q.elim
   ·exact q.elim
 ·exact q.elim
def bX:IxR X mIx:=ix_seq.imp λ_ _ _ _ q=>eQZ q
def mSl:V->Option Int->Option Int->Hp->VK->Prop:=λx lo hi H Q=>match x with
 |.str z=>z.length<=sizeLine/\Q (.str (Txt.slice z lo hi)) H
 |.ref p=>(match rdL H p with|some xs=>∀r,H r=none->Q (.ref r) (upd H r (.lst (jP xs lo hi)))|none=>False)
 |_=>False
def aZF:SlR X mSl:=(sl_list.or eJF).imp λ_ _ _ _ _ q=>by
 unfold mSl at q;split at q
 ·exact .inr ⟨_,rfl,q.1,q.2⟩
 ·split at q
  ·exact .inl ⟨_,_,rfl,bG (by assumption),q⟩
  ·exact q.elim
 ·exact q.elim
def aX0(Q:Option Int->Hp->Prop):VK:=λx H1=>match x with|.int i=>Q (some i) H1|_=>False
def eX4(t:TE):TO:=λσ H Q=>t σ H (aX0 Q)
def dE(h:PE X e te):PO X (some e) (eX4 te):=by
 intro y3 s σ H Q I hw;rw[evalPart_some];refine thn (h y3 s σ H _ I hw) λu s1 ⟨x,H1,I1,r1,q1⟩=>?_;unfold aX0 at q1;split at q1
 ·obtain⟨t,rfl⟩:=r1;exact⟨_,H1,I1,.int _ t,q1⟩
 ·exact q1.elim
def fG:List V->Hp->VK->Prop:=λxs H Q=>match xs with
 |[.str z]=>z.length<=sizeLine/\Q (.int z.length) H
 |[.ref p]=>(match rdL H p with
  |some xs=>Q (.int xs.length) H
  |none=>(match tR H p with|some xs=>Q (.int xs.length) H|none=>False))
 |_=>False
def cQ:CallR X (.builtin "len") fG:=call_len.imp λ_ _ _ q=>by
 unfold fG at q;split at q
 ·exact⟨_,_,rfl,⟨q.1,rfl⟩,q.2⟩
 ·split at q
  ·exact⟨_,_,rfl,.inl ⟨_,bG (by assumption),rfl⟩,q⟩
  ·split at q
   ·exact⟨_,_,rfl,.inr ⟨_,SqT.of (uJ (by assumption)),rfl⟩,q⟩
   ·exact q.elim
 ·exact q.elim
def gQX:List V->Hp->VK->Prop:=λxs H Q=>match xs with|[.int i,.int j]=>Q (.int (if j<i then j else i)) H|_=>False
def dJN:List V->Hp->VK->Prop:=λxs H Q=>match xs with
 |[.int i]=>Q (.int i) H
 |[.str x]=>(match PySem.intText? x with|some n=>x.length<=640/\Q (.int n) H|none=>False)
 |_=>False
def bZ1:CallR X (.type "int") dJN:=(call_int1.or yL).imp λ_ _ _ q=>by
 unfold dJN at q;split at q
 ·exact .inl (.inl ⟨_,rfl,q⟩)
 ·split at q
  ·exact .inr ⟨_,_,rfl,by assumption,q.1,q.2⟩
  ·exact q.elim
 ·exact q.elim
def bZ8:List V->Hp->VK->Prop:=λxs H Q=>match xs with
 |[.ref p]=>(match rdL H p with
  |some ys=>∀l,H l=none->Q (.ref l) (upd H l (.lst ys))
  |none=>(match tR H p with|some ys=>∀l,H l=none->Q (.ref l) (upd H l (.lst ys))|none=>False))
 |_=>False
def iY:CallR X (.type "list") bZ8:=call_list_of.imp λ_ _ _ q=>by
 unfold bZ8 at q;split at q
 ·split at q
  ·exact⟨_,_,rfl,.inl (bG (by assumption)),q⟩
  ·split at q
   ·exact⟨_,_,rfl,.inr (SqT.of (uJ (by assumption))),q⟩
   ·exact q.elim
 ·exact q.elim
def aXW(T:String)(x:V)(H:Hp)(P:Prop):Prop:=match x with
 |.str _=>T="str"/\P
 |.ref p=>(match rdL H p with|some _=>T="list"/\P|none=>False)
 |_=>False
def aJO{K:W.Frag}{x:V}{P:Prop}(q:aXW T x H P):tyV K T x H/\P:=by
 unfold aXW at q;split at q
 ·exact⟨q.1,q.2⟩
 ·split at q
  ·exact⟨.inl ⟨q.1,_,bG (by assumption)⟩,q.2⟩
  ·exact q.elim
 ·exact q.elim
def eXM(T:String)(r:V->List V->Hp->VK->Prop)(to:TE)(t:TA):TE:=λσ H Q=>to σ H λx H1=>aXW T x H1 (t σ H1 λxs H2=>r x xs H2 Q)
variable {o:Expr} {id:String}
def cA(pa:PlainAttrs T)(slot:Slot T name id)(hty:typeOf (.builtin id)=pure (.type "method_descriptor"))(hm:MtR X id r)(ho:PE X o to)(ha:PA X (e::es) t)(hbase:attributeBase o name X.env (eval o X.env)=eval o X.env:=by rfl)(hfew:((backTo cpos (starEach (e::es) X.env)).all (λx=>!x.1)&&(backToKw cpos (keywordEach [] X.env)).all (λx=>x.1.isSome)
 && decide ((e::es).length+([]:List Keyword).length+(if ([]:List Keyword).isEmpty then 0 else 1)<30))=true:=by rfl)(hline:(apos.endLine==cpos.line)=true:=by rfl)(hs:starEach (e::es) X.env=(false,eval e X.env)::starEach es X.env:=by rfl)(hplain:(backTo cpos (starEach es X.env)).any (·.1)=false:=by rfl):PE X (.Call (.Attribute o name apos) (e::es) [] cpos) (eXM T r to t):=by
 intro y3 s σ H Q I h;refine Gx hbase hfew hline rfl (thn (ho y3 s σ H _ I h) λv s1 ⟨x,H1,I1,r1,q⟩=>?_);obtain⟨ty,q1⟩:=aJO (K:=X.K) q;obtain⟨h1,h2⟩:=cX5 I1 r1 ty;refine⟨T,id,pa,slot,hty,h1,h2,?_⟩;have hA:=ha cpos y3 s1 σ H1 _ I1 q1
 rw[hs]at hA ⊢;refine Fj (by show (false || (backTo cpos (starEach es X.env)).any (·.1))=false;rw[hplain]<;>rfl) (Fw ?_)
 exact thn hA λus s2 ⟨vs,H2,I2,r2,q2⟩=>hm y3 s2 σ H2 x vs v us Q I2 r1 r2 q2
def dZJ:V->List V->Hp->VK->Prop:=λx vs H Q=>match x,vs with
 |.ref l,[y]=>(match jQ H l with|some xs=>xs.length<sizeLine/\Q .non (upd H l (.lst (xs++[y])))|none=>False)
 |_,_=>False
def bQA:MtR X "list.append" dZJ:=MtR.imp (r:=bJF) yT λ_ _ _ _ q=>by
 unfold dZJ at q;split at q
 ·split at q
  ·exact⟨_,_,_,rfl,rfl,nG (by assumption),q.1,q.2⟩
  ·exact q.elim
 ·exact q.elim
def aQ4:V->List V->Hp->VK->Prop:=λx vs H Q=>match x,vs with
 |.str z,[.str y]=>(match Builtin.Str.occurrences z y 0 z.length 1 with|i::_=>Q (.int ((i:Nat):Int)) H|[]=>False)
 |_,_=>False
def dJW:MtR X "str.index" aQ4:=mt_index.imp λ_ _ _ _ q=>by
 unfold aQ4 at q;split at q
 ·split at q
  ·exact⟨_,_,_,_,rfl,rfl,by assumption,q⟩
  ·exact q.elim
 ·exact q.elim
def pB:List V->Option (List Str)
 |[]=>some []
 |.str z::r=>(pB r).map (z::·)
 |_=>none
def bQQ(ys:List Str):pB (ys.map V.str)=some ys:=by
 induction ys with
 |nil=>rfl
 |cons y r ih=>rw[Aw,pB,ih];rfl
def zF:∀ {xs:List V} {ys:List Str},pB xs=some ys->xs=ys.map V.str
 |[],_,h=>by cases h;rfl
 |.str z::r,_,h=>by
  rw[pB]at h;cases e:pB r with
  |none=>rw[e]at h;cases h
  |some l=>rw[e]at h;cases h;rw[zF e];rfl
 |.non::_,_,h=>by cases h
 |.bl _::_,_,h=>by cases h
 |.int _::_,_,h=>by cases h
 |.byt _::_,_,h=>by cases h
 |.flt _::_,_,h=>by cases h
 |.ref _::_,_,h=>by cases h
 |.ty _::_,_,h=>by cases h
def bJM:V->List V->Hp->VK->Prop:=λx vs H Q=>match x,vs with
 |.str z,[.ref p]=>(match rdL H p with
  |some xs=>(match pB xs with|some ys=>(ys.map (·.length)).sum+ys.length*z.length<=16777216/\Q (.str (Txt.join z ys)) H|none=>False)
  |none=>False)
 |_,_=>False
def dQ9:MtR X "str.join" bJM:=mt_join.imp λ_ _ _ _ q=>by
 unfold bJM at q;split at q
 ·split at q
  ·split at q
   ·have e:=zF (by assumption)
    subst e;exact⟨_,_,_,rfl,rfl,bG (by assumption),q.1,q.2⟩
   ·exact q.elim
  ·exact q.elim
 ·exact q.elim
def pD:List V->Option (List Bool)
 |[]=>some []
 |.bl z::r=>(pD r).map (z::·)
 |_=>none
def bQX(ys:List Bool):pD (ys.map V.bl)=some ys:=by
 induction ys with
 |nil=>rfl
 |cons y r ih=>rw[Aw,pD,ih];rfl
def zQ:∀ {xs:List V} {ys:List Bool},pD xs=some ys->xs=ys.map V.bl
 |[],_,h=>by cases h;rfl
 |.bl z::r,_,h=>by
  rw[pD]at h;cases e:pD r with
  |none=>rw[e]at h;cases h
  |some l=>rw[e]at h;cases h;rw[zQ e];rfl
 |.non::_,_,h=>by cases h
 |.str _::_,_,h=>by cases h
 |.int _::_,_,h=>by cases h
 |.byt _::_,_,h=>by cases h
 |.flt _::_,_,h=>by cases h
 |.ref _::_,_,h=>by cases h
 |.ty _::_,_,h=>by cases h
def eQG:List V->Hp->VK->Prop:=λvs H Q=>match vs with
 |[.ref p]=>(match rdL H p with
  |some xs=>(match pD xs with|some bs=>Q (.bl (bs.all _root_.id)) H|none=>False)
  |none=>False)
 |_=>False
def bJP(hc:X.calm=true):CallR X (.builtin "all") eQG:=(yK hc).imp λ_ _ _ q=>by
 unfold eQG at q;split at q
 ·split at q
  ·split at q
   ·have e:=zQ (by assumption)
    subst e;exact⟨_,_,rfl,bG (by assumption),q⟩
   ·exact q.elim
  ·exact q.elim
 ·exact q.elim
end
def aJY(R:Str->Hp->Prop):VK:=λx H=>match x with|.str z=>R z H|_=>False
def dQZ{R:Str->Hp->Prop}{x:V}(q:aJY R x H):∃z,x=.str z/\R z H:=by
 unfold aJY at q;split at q
 ·exact⟨_,rfl,q⟩
 ·exact q.elim
def onL(o:Option (List V))(P:Prop):Prop:=match o with|some _=>P|none=>False
def iP(R:Addr->Hp->Prop):VK:=λx H=>match x with|.ref a=>R a H|_=>False
def dXQ{R:Addr->Hp->Prop}{x:V}(q:iP R x H):∃a,x=.ref a/\R a H:=by
 unfold iP at q;split at q
 ·exact⟨_,rfl,q⟩
 ·exact q.elim
section
variable {a b:Expr} {ta tb:TE} {p:Pos}
def fXL(tl:TE):TI:=λσ H R=>tl σ H (aJY λz H1=>R (Its z) H1)
def kT(hl:PE X l tl):PI X tg l (fXL tl):=by
 intro y3 s σ H R I h;refine thn (hl y3 s σ H _ I h) λv s1 ⟨x,H1,I1,r1,q1⟩=>?_;obtain⟨z,rfl,q⟩:=dQZ q1;obtain⟨t,rfl⟩:=r1;have fb:∀b∈[s1.heap.objs.size],nL X y3 H1 b:=λb hb=>by
  have e:b=s1.heap.objs.size:=by simpa using hb
  subst e;exact I1.fpOk (Ai _) (I1.hok.fresh (Ai _))
 cases ha:z.cps.all (· < 128)
 ·refine wpAny_pyIter_wide ha ?_;exact⟨s1.heap.objs.size,[s1.heap.objs.size],_,_,H1,rfl,I1.kept (t':=s1.toks) λb o e=>Ah _ e,cQS z t _,⟨_,Ay _ rfl,rfl,rfl⟩,fb,q⟩
 ·refine wpAny_pyIter_ascii ha ?_;exact⟨s1.heap.objs.size,[s1.heap.objs.size],_,_,H1,rfl,I1.kept (t':=s1.toks) λb o e=>Ah _ e,bZC z t _,⟨_,Ay _ rfl,rfl,rfl⟩,fb,q⟩
def eXE(K:W.Frag)(tl:TE):TI:=λσ H R=>tl σ H (iP λa H1=>onL (rdL H1 a) (R (Itl K a) H1))
def cG(hl:PE X l tl):PI X tg l (eXE X.K tl):=by
 intro y3 s σ H R I h;refine thn (hl y3 s σ H _ I h) λv s1 ⟨x,H1,I1,r1,q1⟩=>?_;obtain⟨a,rfl,q⟩:=dXQ q1;cases r1;unfold onL at q;split at q
 ·rename_i xs e
  obtain⟨its,rv,p,hz⟩:=I1.list (bG e);refine Eg p.isList ?_;refine⟨s1.heap.objs.size,[s1.heap.objs.size],_,_,H1,rfl,I1.kept (t':=s1.toks) λb o e=>Ah _ e,cQ7 a _,⟨_,Ay _ rfl,rfl,rfl⟩,λb hb=>?_,q⟩;have e:b=s1.heap.objs.size:=by simpa using hb
  subst e;exact I1.fpOk (Ai _) (I1.hok.fresh (Ai _))
 ·exact q.elim
def wR(R:Int->Hp->Prop):List V->Hp->Prop:=λvs H=>match vs with|[.int j]=>R j H|_=>False
def uI{R:Int->Hp->Prop}(q:wR R vs H):∃j,vs=[.int j]/\R j H:=by
 unfold wR at q;split at q
 ·exact⟨_,rfl,q⟩
 ·exact q.elim
def dQG(R:Int->Int->Hp->Prop):List V->Hp->Prop:=λvs H=>match vs with|[.int i,.int j]=>R i j H|_=>False
def dZT{R:Int->Int->Hp->Prop}(q:dQG R vs H):∃i j,vs=[.int i,.int j]/\R i j H:=by
 unfold dQG at q;split at q
 ·exact⟨_,_,rfl,q⟩
 ·exact q.elim
def eQ7(ta:TA):TI:=λσ H R=>ta σ H (wR λj H1=>(-(2^62)<=j/\j<2^62)/\R (Itr 0 j.toNat) H1)
def eXG(ta:TA):TI:=λσ H R=>ta σ H (dQG λi j H1=>(-(2^62)<=i/\i<2^62/\-(2^62)<=j/\j<2^62)/\R (Itr i (j-i).toNat) H1)
def nJ{ta:TA}(hg:Gl X "range")(hm:X.mg "range"=none)(ha:PA X [a] ta)(hs:starEach [a] X.env=[(false,eval a X.env)]:=by rfl):PI X tg (.Call (.Name "range" p) [a] [] pos) (eQ7 ta):=by
 intro y3 s σ H R I h;refine Call_ (iS I hg hm boot_range (Df (thn (ha pos y3 s σ H _ I h) λus s1 ⟨vs,H1,I1,r1,q1⟩=>?_) hs rfl));obtain⟨j,e,⟨b1,b2⟩,q⟩:=uI q1;subst e;cases r1 with
 |cons r rr=>
  cases rr;obtain⟨t,rfl⟩:=r;exact call_range_1 (aJ1 I1 (by omega) (by omega) b1 b2 (by simpa using q))
def cQ9{ta:TA}(hg:Gl X "range")(hm:X.mg "range"=none)(ha:PA X [a,b] ta)(hs:starEach [a,b] X.env=[(false,eval a X.env),(false,eval b X.env)]:=by rfl)(hs2:starEach [b] X.env=[(false,eval b X.env)]:=by rfl):PI X tg (.Call (.Name "range" p) [a,b] [] pos) (eXG ta):=by
 intro y3 s σ H R I h;refine Call_ (iS I hg hm boot_range (Df (thn (ha pos y3 s σ H _ I h) λus s1 ⟨vs,H1,I1,r1,q1⟩=>?_) (by rw[hs,hs2]) (by rw[hs2];rfl)))
 obtain⟨i,j,e,⟨b1,b2,b3,b4⟩,q⟩:=dZT q1;subst e;cases r1 with
 |cons r rr=>
  cases rr with
  |cons r' rr=>
   cases rr;obtain⟨t,rfl⟩:=r;obtain⟨t',rfl⟩:=r';exact call_range_2 (aJ1 I1 b1 b2 b3 b4 q)
def aQ1(J:It)(g:TG)(tb:TS)(D:Ends)(σ:St)(H1:Hp):Prop:=∃W:Nat->Nat->St->Hp->Prop,(∃m,W 0 m σ H1)/\∀i m σ H,W i m σ H->
 (J.stop i H/\D.nx σ H)\/(J.go i H/\∃N:St->Hp->Prop,(∀σ' H',N σ' H'->∃m',m' < m/\W (i+1) m' σ' H')/\∀x H',J.yld i H x H'->g x σ H' λσ2 H2=>tb {D with nx:=N,ct:=N,bk:=D.nx} σ2 H2)
def eXB(wi:TI)(g:TG)(tb:TS):TS:=λD σ H=>wi σ H λJ H1=>aQ1 J g tb D σ H1
def dA{wi:TI}{tb:TS}(hp:PassesOwn (model X.prog X.w) X.A X.env X.xe)(hc:X.calm=true)(hi:PI X tg iter wi)(hg:PG X tg g)(hb:PSs X body tb)(hs:∀x,foldedSetIterable iter X.env x=pure x:=by intro _;rfl):PS X (.For tg iter body [] pos) (eXB wi g tb):=fQ4 (wi:=wi) hp hc hi hg hb hs
section
variable {c:Addr} {tb:TS}
def iK(Pv:Nat->St->Hp->Prop)(h0:Pv 0 σ H)(hl:∀i σ H,i<=xs.length->Pv i σ H->rdL H c=some xs)(hs:∀i x σ H,xs[i]?=some x->Pv i σ H->g x σ H λσ2 H2=>tb {D with nx:=Pv (i+1),ct:=Pv (i+1),bk:=D.nx} σ2 H2)(hd:∀σ H,Pv xs.length σ H->D.nx σ H):aQ1 (Itl K c) g tb D σ H:=
 dZB Pv h0 (λi σ H hi p=>bG (hl i σ H hi p)) hs hd
def bQZ(Pv:Nat->St->Hp->Prop)(h0:Pv 0 σ H)(hs:∀i c σ H,z.cps.toList[i]?=some c->Pv i σ H->g (.str ⟨#[c]⟩) σ H λσ2 H2=>tb {D with nx:=Pv (i+1),ct:=Pv (i+1),bk:=D.nx} σ2 H2)(hd:∀σ H,Pv z.cps.toList.length σ H->D.nx σ H):aQ1 (Its z) g tb D σ H:=
 dZ2 Pv h0 hs hd
def xL(Pv:Nat->St->Hp->Prop)(h0:Pv 0 σ H)(hs:∀i σ H,i<n->Pv i σ H->g (.int (lo+i)) σ H λσ2 H2=>tb {D with nx:=Pv (i+1),ct:=Pv (i+1),bk:=D.nx} σ2 H2)(hd:∀σ H,Pv n σ H->D.nx σ H):aQ1 (Itr lo n) g tb D σ H:=
 cXX Pv h0 hs hd
end
def eJU(hg:Gl X x)(hm:X.mg x=none)(hv:bootBuiltins x=some (.type T))(hn:x≠"__name__" := by decide)(hd:(x==("__debug__" : Str))=false:=by decide):PE X (.Name x pos) (tC (.ty T)):=eQU hg hm hv rfl hn hd
end
section
variable {QB:Bool->Hp->Prop} {QA:List V->Hp->Prop} {QO:Option Int->Hp->Prop} {t u:TS} {ta tb:TE} {tt tu:TT} {tA:TA} {r:R2} {x:V} {i j:Int} {z':Str} {p:Addr}
def nY(h:t {D with nx:=u D} σ H):eJK t u D σ H:=h
def eZJ(h:D.nx σ H):eXZ D σ H:=h
def gQU{c:TT}(h:c σ H λb H1=>if b=true then t D σ H1 else u D σ H1):fJS c t u D σ H:=h
def fJI(h:te σ H D.rt):fXP te D σ H:=h
def eZU(h:te σ H λ_ H1=>D.nx σ H1):eXJ te D σ H:=h
def fJE(h:te σ H λx H1=>g x σ H1 D.nx):dQJ te g D σ H:=h
def fXY{wi:TI}{tb:TS}(h:wi σ H λJ H1=>aQ1 J g tb D σ H1):eXB wi g tb D σ H:=h
def aQR{QS:St->Hp->Prop}(h:QS (σ.set k (some v)) H):gH k v σ H QS:=h
def eZ9{QS:St->Hp->Prop}{ti:TE}{ts:eQD}(h:to σ H λo H1=>ti σ H1 λi H2=>ts o i v H2 λH3=>QS σ H3):fJ4 to ti ts v σ H QS:=h
def fZY(e:σ[k]?=some (some v))(h:Q v H):eQF k σ H Q:=by unfold eQF;rw[e];exact h
def s_c(h:Q v H):tC v σ H Q:=h
def gQI(h:ta σ H λx H1=>tb σ H1 λy H2=>r x y H2 Q):tOp r ta tb σ H Q:=h
def gQK{ru:V->Hp->VK->Prop}(h:ta σ H λx H1=>ru x H1 Q):tUn ru ta σ H Q:=h
def fJL(h:QA [] H):bQN σ H QA:=h
def eX7{tr:TA}(h:ta σ H λx H1=>tr σ H1 λxs H2=>QA (x::xs) H2):aQI ta tr σ H QA:=h
def fZ2(h:tA σ H λxs H1=>xs.length<=sizeLine/\∀p,H1 p=none->Q (.ref p) (upd H1 p (.lst xs))):fXR tA σ H Q:=h
def fZG(h:tA σ H λxs H1=>xs.length<=sizeLine/\∀p,H1 p=none->Q (.ref p) (upd H1 p (.tup xs))):fXG tA σ H Q:=h
def eZT{E:XK}(h:tA σ H λvs H1=>sp (vs++[]) H1 Q E):aJT sp [] E tA σ H Q:=h
def gQS{rc:List V->Hp->VK->Prop}(h:tA σ H λvs H1=>rc vs H1 Q):tCB rc tA σ H Q:=h
def gQO{rs:V->Option Int->Option Int->Hp->VK->Prop}{tl th:TO}(h:te σ H λx H1=>tl σ H1 λl H2=>th σ H2 λu H3=>rs x l u H3 Q):tSl rs te tl th σ H Q:=h
def cJ9(h:QO none H):bZL σ H QO:=h
def eJO(h:te σ H (aX0 QO)):eX4 te σ H QO:=h
def dQ3(h:QO (some i) H):aX0 QO (.int i) H:=h
def fQZ{rm:V->List V->Hp->VK->Prop}(h:to σ H λx H1=>aXW T x H1 (tA σ H1 λxs H2=>rm x xs H2 Q)):eXM T rm to tA σ H Q:=h
def fX1{P:Prop}(h:P):aXW "str" (.str z) H P:=⟨rfl,h⟩
def fZL{P:Prop}(e:rdL H p=some xs)(h:P):aXW "list" (.ref p) H P:=by unfold aXW;simp only[e];exact⟨trivial,h⟩
def eZM(h:te σ H (mB QB)):eXX te σ H QB:=h
def dJM(h:te σ H (cZ2 QB)):cJ1 te σ H QB:=h
def gQH{b:Bool}(h:QB b H):mB QB (.bl b) H:=h
def eJ7{b:Bool}(h:QB b H):cZ2 QB (.bl b) H:=h
def fJY(h:tt σ H λc H1=>if c=true then tu σ H1 QB else QB false H1):fXZ tt tu σ H QB:=h
def fJ8(h:tt σ H λc H1=>if c=true then QB true H1 else tu σ H1 QB):tOr tt tu σ H QB:=h
def fJQ(h:tt σ H λc H1=>QB (!c) H1):fZM tt σ H QB:=h
def fXA(h:ta σ H (mB λc H1=>if c=true then tb σ H1 Q else Q (.bl false) H1)):eXQ ta tb σ H Q:=h
def fZD(h:tt σ H λc H1=>if c=true then ta σ H1 Q else tb σ H1 Q):tIf tt ta tb σ H Q:=h
def gQB{g:Int->Int->V}(h:Q (g i j) H):mI g (.int i) (.int j) H Q:=h
def fX4{C:Int->Int->Prop}{g:Int->Int->V}(c:C i j)(h:Q (g i j) H):mIC C g (.int i) (.int j) H Q:=⟨c,h⟩
def fQ8(h:Q (.int (i+j)) H):cXK (.int i) (.int j) H Q:=h
def eJP(c:z.length+z'.length<=sizeLine)(h:Q (.str (z++z')) H):cXK (.str z) (.str z') H Q:=⟨c,h⟩
def fL(e:jQ H p=some xs)(e':jQ H q=some ys)(c:xs.length+ys.length<=sizeLine)(h:∀r,H r=none->Q (.ref r) (upd H r (.lst (xs++ys)))):cXK (.ref p) (.ref q) H Q:=by
 unfold cXK;simp only[e,e'];exact⟨c,h⟩
def fXO(h:Q (.bl (decide (i=j))) H):mEq (.int i) (.int j) H Q:=⟨rfl,by
 rw[show decide (V.int i=V.int j)=decide (i=j) by simp];exact h⟩
def fZ1(h:Q (.bl (decide (z=z'))) H):mEq (.str z) (.str z') H Q:=⟨rfl,by
 rw[show decide (V.str z=V.str z')=decide (z=z') by simp];exact h⟩
def fXK(h:Q (.bl (!decide (i=j))) H):mNe (.int i) (.int j) H Q:=⟨rfl,by
 rw[show decide (V.int i=V.int j)=decide (i=j) by simp];exact h⟩
def fJW(h:Q (.bl (!decide (z=z'))) H):mNe (.str z) (.str z') H Q:=⟨rfl,by
 rw[show decide (V.str z=V.str z')=decide (z=z') by simp];exact h⟩
def bZ3{neg:Bool}(e:rdL H p=some xs)(e':rdL H q=some ys)(f:xs.all cB=true)(f':ys.all cB=true)(h:Q (.bl (if neg then !kH xs ys else kH xs ys)) H):cXP neg (.ref p) (.ref q) H Q:=by
 unfold cXP;simp only[e,e'];exact⟨f,f',h⟩
def fZ8(h:Q (.bl (decide (x=.non))) H):fQ3 x .non H Q:=h
def fQT(h:Q (.bl (!decide (x=.non))) H):cZW x .non H Q:=h
def fZJ(h:Q (.bl (if neg then !subIn z z' else subIn z z')) H):fXE neg (.str z) (.str z') H Q:=h
def bQD{neg:Bool}(e:rdL H p=some xs)(f:cB x=true)(f':xs.all cB=true)(h:Q (.bl (if neg then !inV x xs else inV x xs)) H):cXI neg x (.ref p) H Q:=by
 unfold cXI;simp only[e];exact⟨f,f',h⟩
def xE{c:Nat}(l:z.length<=sizeLine)(e:atI z.cps.toList i=some c)(h:Q (.str ⟨#[c]⟩) H):mIx (.str z) (.int i) H Q:=by
 unfold mIx;simp only[e];exact⟨l,h⟩
def cU(e:rdL H p=some xs)(e':atI xs i=some v)(h:Q v H):mIx (.ref p) (.int i) H Q:=by
 unfold mIx;simp only[e,e'];exact h
def fZW{lo:Option Int}(l:z.length<=sizeLine)(h:Q (.str (Txt.slice z lo hi)) H):mSl (.str z) lo hi H Q:=⟨l,h⟩
def fJD{lo:Option Int}(e:rdL H p=some xs)(h:∀r,H r=none->Q (.ref r) (upd H r (.lst (jP xs lo hi)))):mSl (.ref p) lo hi H Q:=by
 unfold mSl;simp only[e];exact h
def eJV(l:z.length<=sizeLine)(h:Q (.int z.length) H):fG [.str z] H Q:=⟨l,h⟩
def eJ4(e:rdL H p=some xs)(h:Q (.int xs.length) H):fG [.ref p] H Q:=by unfold fG;simp only[e];exact h
def aX8(e:PySem.intText? z=some i)(l:z.length<=640)(h:Q (.int i) H):dJN [.str z] H Q:=by unfold dJN;simp only[e];exact⟨l,h⟩
def fQJ(e:rdL H p=some xs)(h:∀l,H l=none->Q (.ref l) (upd H l (.lst xs))):bZ8 [.ref p] H Q:=by unfold bZ8;simp only[e];exact h
def fZC(e:jQ H p=some xs)(l:xs.length<sizeLine)(h:Q .non (upd H p (.lst (xs++[v])))):dZJ (.ref p) [v] H Q:=by unfold dZJ;simp only[e];exact⟨l,h⟩
def dZ6{rest:List Nat}(e:Builtin.Str.occurrences z z' 0 z.length 1=k::rest)(h:Q (.int ((k:Nat):Int)) H):aQ4 (.str z) [.str z'] H Q:=by unfold aQ4;simp only[e];exact h
def dXS{ss:List Str}(e:rdL H p=some (ss.map V.str))(l:(ss.map (·.length)).sum+ss.length*z.length<=16777216)(h:Q (.str (Txt.join z ss)) H):bJM (.str z) [.ref p] H Q:=by
 unfold bJM;simp only[e,bQQ];exact⟨l,h⟩
def bZY{bs:List Bool}(e:rdL H p=some (bs.map V.bl))(h:Q (.bl (bs.all id)) H):eQG [.ref p] H Q:=by
 unfold eQG;simp only[e,bQX];exact h
def dZN(h:tl σ H (iP λa H1=>onL (rdL H1 a) (R (Itl K a) H1))):eXE K tl σ H R:=h
def dZR{R:Addr->Hp->Prop}(h:R p H):iP R (.ref p) H:=h
def fX8{P:Prop}(e:rdL H p=some xs)(h:P):onL (rdL H p) P:=by unfold onL;simp only[e];exact h
def eJW(h:tl σ H (aJY λz H1=>R (Its z) H1)):fXL tl σ H R:=h
def dJ1{R:Str->Hp->Prop}(h:R z H):aJY R (.str z) H:=h
def dJZ(h:tA σ H (wR λj H1=>(-(2^62)<=j/\j<2^62)/\R (Itr 0 j.toNat) H1)):eQ7 tA σ H R:=h
def eQ1(h:tA σ H (dQG λi j H1=>(-(2^62)<=i/\i<2^62/\-(2^62)<=j/\j<2^62)/\R (Itr i (j-i).toNat) H1)):eXG tA σ H R:=h
def eJI{R:Int->Hp->Prop}(h:R i H):wR R [.int i] H:=h
def eJM{R:Int->Int->Hp->Prop}(h:R i j H):dQG R [.int i,.int j] H:=h
def fZB{o:V}{QH:Hp->Prop}(e:jQ H p=some xs)(e':ixN xs.length i=some k)(h:QH (upd H p (.lst (xs.set k v)))):eXP (.ref p) (.int i) v H QH:=⟨_,_,_,_,rfl,rfl,nG e,e',h⟩
end
def dQK{α:Type}{xs:List α}{i:Int}(h0:0<=i)(h1:i<xs.length):∃v,atI xs i=some v/\xs[i.toNat]?=some v:=by
 have hk:i.toNat<xs.length:=by omega
 have e:i=((i.toNat:Nat):Int):=by omega
 have q:atI xs ((i.toNat:Nat):Int)=some xs[i.toNat]:=bB (Aa hk)
 rw[<-e]at q;exact⟨xs[i.toNat],q,Aa hk⟩
def eZO{i:Int}(h0:0<=i)(h1:i<n):ixN n i=some i.toNat:=by
 unfold ixN;rw[if_pos h0,if_pos h1]
def bO(h:n<=100000):n<=sizeLine:=Bi h (by decide)
def bL(h:n<=100000):n<sizeLine:=Nat.lt_of_le_of_lt h (by decide)
def Cal(P:Program)(w:World)(K:W.Frag)(mg:Str->Option Value)(base:Heap)(k:Nat)(x:Str)(ps:List Str)(sp:Sp):Prop:=
 ∃(f:Addr) (fd:FuncData),FnOk P w K mg base CX0 k f fd ps sp/\mg x=some (.ref f)/\W.keepIn K (.ref f)=true/\Binds K fd ps []
section
variable {ps:List Str} {p:Pos} {i:Int}
def aZ(c:Cal X.prog X.w X.K X.mg X.base k x ps sp)(hr:Room k' X.A)(hk:k<=k')(hg:Gl X x)(ha:PA X (e::es) t)(hdb:(x==("__debug__" : Str))=false:=by decide)(he:starEach (e::es) X.env=(false,eval e X.env)::starEach es X.env:=by rfl)(hpl:(backTo pos (starEach es X.env)).any (·.1)=false:=by rfl):PE X (.Call (.Name x p) (e::es) [] pos) (aJT sp [] E0 t):=by
 obtain⟨f,fd,F,hm,hk',hb⟩:=c;exact bJC F (hr.mono hk) hg hm hk' hb .nil dZD ha hdb he hpl
def eO(hg:Gl X x)(h:∃t,X.mg x=some (.str z t))(hd:(x==("__debug__" : Str))=false:=by decide):PE X (.Name x pos) (tC (.str z)):=by
 obtain⟨t,h⟩:=h;exact uD hg h ⟨t,rfl⟩ hd
def qJ{z:Int}(hg:Gl X x)(h:∃t,X.mg x=some (.int z t))(hd:(x==("__debug__" : Str))=false:=by decide):PE X (.Name x pos) (tC (.int z)):=by
 obtain⟨t,h⟩:=h;exact uD hg h ⟨t,rfl⟩ hd
def dQV{lo:Option Int}(e:SqL K H a xs)(h:∀r,H r=none->Q (.ref r) (upd H r (.lst (jP xs lo hi)))):fJ5 K (.ref a) lo hi H Q:=⟨a,xs,rfl,e,h⟩
def fXU(e:SqL K H a xs)(e':atI xs i=some v)(h:Q v H):fQW K (.ref a) (.int i) H Q:=⟨a,xs,i,v,rfl,rfl,e,e',h⟩
end
def bS:bootBuiltins "len"=some (.builtin "len"):=by decide +kernel
def bU:bootBuiltins "isinstance"=some (.builtin "isinstance"):=by decide +kernel
def fQE:bootBuiltins "min"=some (.builtin "min"):=by decide +kernel
def fQU:bootBuiltins "max"=some (.builtin "max"):=by decide +kernel
def aXH:bootBuiltins "all"=some (.builtin "all"):=by decide +kernel
def bXS:bootBuiltins "sum"=some (.builtin "sum"):=by decide +kernel
def sP:bootBuiltins "int"=some (.type "int"):=by decide +kernel
def fD:bootBuiltins "list"=some (.type "list"):=by decide +kernel
def fX7{A B:Prop}(h:B):if (!true)=true then A else B:=h
def fJU{A B:Prop}(h:A):if (!false)=true then A else B:=h
def aY{X:Cx}{x:Str}{j:Nat}{pos:Pos}{es:List Expr}{t:TA}(h:PA X es t):PA X (.Constant (.str x) j pos::es) (aQI (tC (.str x)) t):=aA cS h rfl
def bQK{R:Result->Shared->Prop}{elt target:Expr}{it acc:Value}(I:Nat->Shared->Prop)(turn:∀n s,I n s->wpAny (model prog w) A (pyNext it) (λr s₁=>match r with
 |none=>R (.ok .next) s₁
 | some v=>wpAny (model prog w) A (letOwnedTupleGo target it v) (λ_ s₁'=>wpAny (model prog w) A (assign target env v) (λ_ s₂=>
     wpAny (model prog w) A (forIn ifs true λc r=>if r=true then do let ok <-isTrue c env (eval c env);pure (ForInStep.yield ok) else pure (ForInStep.yield r)) (λok s₃=>
      if ok=true then wpAny (model prog w) A (eval elt env) (λx s₄=>
       wpAny (model prog w) A (call (.builtin "list.append") [acc,x]) (λ_ s₅=>∃m,m<n/\I m s₅) (λ_ _=>False) s₄) (λ_ _=>False) s₃
      else ∃m,m<n/\I m s₃) (λ_ _=>False) s₂) (λ_ _=>False) s₁') (λ_ _=>False) s₁) (λ_ _=>False) s)(n:Nat)(h:I n s):codeAny (model prog w) A (.compLoop (.ListComp elt [⟨target,iter,ifs,0⟩] scope pos) 0 it acc env) R s:=by
 refine codeAny_loop rfl I (λn s hI=>?_) n h;show wpAny _ A ((compTurn (.ListComp elt [⟨target,iter,ifs,0⟩] scope pos) 0 it acc env).onRaise (λx=>do noteFrame x env;theTreesLotGoes x)) _ _ s
 refine wpAny_noted ?_;rw[compTurn_list];refine Ae (Fl (Ae (Cq (turn n s hI) (λr s₁ h₁=>?_) λ_ _ h'=>h'.elim)));cases r with
 |none=>exact Aq h₁
 |some v=>
  refine Ae (Cq h₁ (λ_ s₁' h₁'=>?_) λ_ _ h'=>h'.elim);refine Ae (Cq h₁' (λ_ s₂ h₂=>Ae (Cq h₂ (λok s₃ h₃=>?_) λ_ _ h'=>h'.elim)) λ_ _ h'=>h'.elim);cases ok with
  |false=>exact Aq ⟨rfl,h₃⟩
  |true=>
   exact Ae (Ae (Cq h₃ (λx s₄ h₄=>Ae (Cq h₄ (λ_ s₅ h₅=>Aq (Aq ⟨rfl,h₅⟩)) λ_ _ h'=>h'.elim)) λ_ _ h'=>h'.elim))
def cxC(X:Cx)(N:List Str)(scope:Scope)(cl:List (Str×Addr))(C:Addr)(s₀:Shared)(H₀:Hp)(ex:List Addr):Cx:=
 {prog:=X.prog,w:=X.w,K:=X.K,mg:=X.mg,base:=X.base,A:=X.A,N:=N,s₀:=s₀,H₀:=H₀,env:=compEnvC scope cl C X.env,outer:=X.stack,stack:=X.stack,ex:=ex,fn:=λ_=>false,calm:=X.calm,pn:=[],xe:=λ_ _=>False}
structure ClOk (X:Cx) (N:List Str) (scope:Scope) (cl:List (Str×Addr)) (vals:St->St):Prop where
 clos:closureFor scope X.env=pure cl
 sub:∀x c,cl.lookup x=some c->X.env.cells.lookup x=some c
 has:∀x,((relabel scope X.env).names.lookup x=some .cell\/(relabel scope X.env).names.lookup x=some .free)->∃c,cl.lookup x=some c
 len:∀σ,(vals σ).length=N.length
 val:∀σ (i:Nat) x v,N[i]?=some x->(vals σ)[i]?=some (some v)->∃(j:Nat),X.N[j]?=some x/\σ[j]?=some (some v)/\X.env.scope.names.lookup x=some .cell/\(∃c,cl.lookup x=some c)/\(relabel scope X.env).names.lookup x=some .cell
def PF(X:Cx)(ifs:List Expr)(t:TT):Prop:=∀(y3:List (Addr×Obj)) (s:Shared) (σ:St) (H:Hp) (Q:Bool->Hp->Prop),Inv X y3 σ H s->t σ H Q->
 wpAny (model X.prog X.w) X.A (forIn ifs true λc r=>if r=true then do let ok <-isTrue c X.env (eval c X.env);pure (ForInStep.yield ok) else pure (ForInStep.yield r)) (TP X y3 σ Q) X.xe s
def fJN:TT:=λ_ H Q=>Q true H
def cZ:PF X [] fJN:=λy3 s σ H Q I q=>wpAny_tests_nil ⟨H,I,q⟩
def jG{c:Expr}{t:TT}(h:PT X c t):PF X [c] t:=λy3 s σ H Q I q=>wpAny_tests_one (h y3 s σ H Q I q)
section
variable {H2:Hp} {s2:Shared}
def bQW{h1:Heap}{t1:Nat}(I:Inv X y3 σ H2 s2)(ck:ClOk X N scope cl vals)(hkind:scope.kind=.function)(hf:∀b∈fp,nL X y3 H2 b)(hlt:∀b∈fp,b<s2.heap.objs.size)(hns:h1.Ns s2.heap.objs.size λ_=>none)(hsb:Heap.SameBut s2.heap.objs.size (s2.heap.push {cls:=.type "dict",data:=.dict #[]}) h1):Inv (cxC X N scope cl s2.heap.objs.size s2 H2 fp) [] (vals σ) H2 {s2 with heap:=h1,toks:=t1}:=by
 have old:∀b o,s2.heap.get? b=some o->h1.get? b=some o:=λb o e=>(hsb.2 b (Bl (Au e))).trans (Ah _ e)
 have hC:H2 s2.heap.objs.size=none:=I.hok.fresh (Ai _)
 refine⟨⟨I.ok.mod,hkind,I.ok.glob,I.ok.blt,Ai _,λx y c h1 h2=>I.ok.inj x y c (ck.sub x c h1) (ck.sub y c h2),ck.has,(λx c h=>nomatch h),I.ok.hd,I.ok.frames,.inl rfl,λb hb=>⟨Bl (hlt b hb),λx c e=>(hf b hb).2.2.2.2.1 x c (ck.sub x c e)⟩,
  I.bs,Nat.le_trans I.ok.bsz I.sz,λb o e hb=>?_,λb hb hs=>?_,I.stack,I.stkFree⟩,rfl,I.bare,Un.kept old,⟨_,hns,λi x v e1 e2 _=>?_⟩,λx c e=>?_,hC,λx c e=>I.freeC x c (ck.sub x c e),λp hp=>absurd (show p∈([]:Q2) from hp) (by simp),I.hok.kept old,ck.len σ⟩
 ·rcases (hf b hb).2.2.2.1 with z|z
  ·exact I.ok.noex b o e z
  ·exact absurd (Bf (Au e) (Bi I.ok.bsz z)) (Dz _)
 ·rcases Bb.mp (I.stkSub b hs) with z|z
  ·exact(hf b hb).2.1 z
  ·exact(hf b hb).2.2.1 z
 ·obtain⟨j,h1,h2,h3,⟨c,h4⟩,h5⟩:=ck.val σ i x v e1 e2;obtain⟨m,hn,hl⟩:=I.loc;obtain⟨u,r,l⟩:=hl j x v h1 h2 (.inr (.inl h3));refine⟨u,r,.inr ⟨.inl h5,c,h4,?_⟩⟩;rcases l with⟨z,_⟩|⟨_,c',e',z⟩
  ·have z':X.env.scope.names.lookup x=some .local:=z
   rw[h3]at z';cases z'
  ·rw[ck.sub x c h4]at e';cases e';obtain⟨o,ho,hd⟩:=z;exact⟨o,old _ o ho,hd⟩
 ·obtain⟨v,o,ho,hd⟩:=I.cell x c (ck.sub x c e);exact⟨v,o,old _ o ho,hd⟩
def cQX{σ':St}{s':Shared}{h'':Heap}{pins':Q2}(I:Inv X y3 σ H2 s2)(hf:∀b∈fp,nL X y3 H2 b)(I':Inv (cxC X N scope cl s2.heap.objs.size s2 H2 fp) pins' σ' H' s')(hsb:Heap.SameBut s2.heap.objs.size s'.heap h''):Inv X y3 σ H' {s' with heap:=h''}:=by
 have u1:Un (frs X.stack) (s2.heap.objs.size::fp) H2 H' s2.heap s'.heap:=I'.base.mono (λ_ z=>z) λb z=>Ak _ z
 have hC:H' s2.heap.objs.size=none:=I'.free
 have k:∀b o,b≠s2.heap.objs.size->s'.heap.get? b=some o->h''.get? b=some o:=λb o hb e=>(hsb.2 b hb).trans e
 have u2:Un (frs X.stack) (s2.heap.objs.size::fp) H' H' s'.heap h'':=⟨λb o e _ _ hx=>k b o (λz=>hx (by simp[z])) e,λb o e _ _ hx=>⟨o.slots,k b o (λz=>hx (by simp[z])) e⟩,λ_ _ _ n _=>n,
  λb o e hx=>⟨o,k b o (λz=>hx (by simp[z])) e⟩,λ_ _ e=>e,λ_ _ _ e=>e,λb ps e=>⟨#[],by rw[e];simp⟩⟩
 have hok:HOk X.prog X.w H' h'':=λb u e=>by
  have nC:∀c v,H' c=some v->c≠s2.heap.objs.size:=λc v e z=>by rw[z,hC]at e;cases e
  refine(I'.hok b u e).stay (λc v hc q=>k c v ?_ q) (λ_ q=>q) λ_ _ q=>q;rcases hc with z|z
  ·rw[z];exact nC b u e
  ·exact nC c _ z
 refine I.call' (s':={s' with heap:=h''}) (ch:=s2.heap.objs.size::fp) I'.os (u1.trans u2) hok I'.bare λb hb=>?_
 have q:nL X y3 H2 b:=by
  rcases Bb.mp hb with z|z
  ·subst z;exact I.fpOk (Ai _) (I.hok.fresh (Ai _))
  ·exact hf b z
 exact⟨q.2.2.2.1,q.2.1,q.2.2.2.2.1,q.2.2.2.2.2⟩
end
def Wk(σ0 σ:St):Prop:=σ0.length=σ.length/\∀(i:Nat) v,σ0[i]?=some (some v)->σ[i]?=some (some v)
def Wk.refl(σ:St):Wk σ σ:=⟨rfl,λ_ _ h=>h⟩
def Wk.set(h:σ0[k]?=some none)(w:Wk σ0 σ):Wk σ0 (σ.set k (some v)):=by
 refine⟨by rw[Dc];exact w.1,λi u e=>?_⟩
 have ne:k≠i:=λz=>by subst z;rw[h]at e;cases e
 rw[Dr ne];exact w.2 i u e
def eC(g:TG)(tests:TT)(te:TE)(σ0:St)(Q:VK)(J:It)(H1:Hp):Prop:=∀D,H1 D=none->∃W:Nat->Nat->Hp->Prop,(∃m,W 0 m (upd H1 D (.lst [])))/\∀i m Hc,W i m Hc->
 (J.stop i Hc/\Q (.ref D) Hc)\/(J.go i Hc/\∀x H',J.yld i Hc x H'->g x σ0 H' λσ2 H2=>Wk σ0 σ2/\tests σ2 H2 λb H3=>if b=true then
  te σ2 H3 λy H4=>∃zs,H4 D=some (.lst zs)/\zs.length<sizeLine/\∃m',m' < m/\W (i+1) m' (upd H4 D (.lst (zs++[y]))) else ∃m',m' < m/\W (i+1) m' H3)
def cJ5(wi:TI)(g:TG)(tests:TT)(te:TE)(vals:St->St):TE:=λσ H Q=>wi σ H λJ H1=>eC g tests te (vals σ) Q J H1
def aJX{H2:Hp}{s2:Shared}{it:Addr}{tn:Nat->Heap->Prop}{J:It}{elt:Expr}{RR:Value->Addr->Result->Shared->Prop}(I2:Inv X y3 σ H2 s2)(T:Turn X.prog X.w X.K tg J fp it tn)(st2:tn 0 s2.heap)(f2:∀b∈fp,nL X y3 H2 b)(hc:X.calm=true)(ck:ClOk X N scope cl vals)(hcell:∀y∈scope.names,y.2≠.cell)(hkind:scope.kind=.function)(hg:∀C s₀ H₀ ex,PG (cxC X N scope cl C s₀ H₀ ex) tg g)(ht:∀C s₀ H₀ ex,PF (cxC X N scope cl C s₀ H₀ ex) ifs tests)(he:∀C s₀ H₀ ex,PE (cxC X N scope cl C s₀ H₀ ex) elt te)(h:eC g tests te (vals σ) Q J H2)(hRR:∀D C s' H' m,s'.heap.Ns C m->Q (.ref D) H'->(∀h'',Heap.SameBut C s'.heap h''->Inv X y3 σ H' {s' with heap:=h''})->nL X y3 H' C->RR (.ref D) C (.ok .next) s'):wpAny (model X.prog X.w) X.A (newList []) (λacc s₃=>wpAny (model X.prog X.w) X.A (newFunctionEnv scope X.env.globals cl [] X.env.qual none .none (some X.env)) (λcenv s₄=>
 codeAny (model X.prog X.w) X.A (.compStart (.ListComp elt [⟨tg,iter,ifs,0⟩] scope pos) 0 (.ref it) acc {cenv with scope:=relabel scope X.env}) (RR acc cenv.locals) s₄) E s₃) E s2:=by
 have hD:H2 s2.heap.objs.size=none:=I2.hok.fresh (Ai _)
 obtain⟨W,⟨m0,w0⟩,turn⟩:=h _ hD;have hlt:∀b∈fp,b<s2.heap.objs.size:=λb hb=>by
  obtain⟨o,e,_⟩:=T.obj 0 _ st2 b hb;exact Au e
 refine Gy ?_
 -- the list is laid
 have I3:Inv X y3 σ (upd H2 s2.heap.objs.size (.lst [])) {s2 with heap:=s2.heap.push {cls:=.type "list",dict:=none,data:=.seq ([]:List Value).toArray}}:=
  I2.lnew (ys:=[]) (its:=[]) (t':=s2.toks) .nil (Da _)
 have f3:∀b∈fp,nL X y3 (upd H2 s2.heap.objs.size (.lst [])) b:=λb hb=>⟨by rw[aM (Bl (hlt b hb))];exact(f2 b hb).1,(f2 b hb).2⟩
 have st3:tn 0 (s2.heap.push {cls:=.type "list",dict:=none,data:=.seq ([]:List Value).toArray}):=T.keep _ _ _ st2 λb _ o e=>Ah _ e
 generalize hs3:({s2 with heap:=s2.heap.push {cls:=.type "list",dict:=none,data:=.seq ([]:List Value).toArray}}:Shared)=s3 at I3 ⊢
 have e3:s3.heap=s2.heap.push {cls:=.type "list",dict:=none,data:=.seq ([]:List Value).toArray}:=by rw[<-hs3]
 rw[<-e3]at st3;have hlt3:∀b∈fp,b<s3.heap.objs.size:=λb hb=>by
  obtain⟨o,e,_⟩:=T.obj 0 _ st3 b hb;exact Au e
 refine wpAny_newFunctionEnv hcell (by intro y hy;simp at hy) (λh₁ hns₁ hsb₁=>?_) hkind
 have hns:h₁.Ns s3.heap.objs.size λ_=>none:=hns₁
 have I4:=bQW (t1:=s3.toks) I3 ck hkind f3 hlt3 hns hsb₁
 have old:∀b o,s3.heap.get? b=some o->h₁.get? b=some o:=λb o e=>(hsb₁.2 b (Bl (Au e))).trans (Ah _ e)
 have st4:tn 0 h₁:=T.keep _ _ _ st3 λb _ o e=>old b o e
 have loop:∀ s₄:Shared,s₄={ s3 with heap:=h₁,toks:=s3.toks }->
     codeAny (model X.prog X.w) X.A (.compLoop (.ListComp elt [⟨tg,iter,ifs,0⟩] scope pos) 0 (.ref it) (.ref s2.heap.objs.size) (compEnvC scope cl s3.heap.objs.size X.env))
      (RR (.ref s2.heap.objs.size) s3.heap.objs.size) s₄:=by
  rintro s₄ rfl;have fpX:∀ {H':Hp},(∀b∈fp,H' b=none)->∀b∈fp,nL (cxC X N scope cl s3.heap.objs.size s3 (upd H2 s2.heap.objs.size (.lst [])) fp) [] H' b:=λhn b hb=>
   ⟨hn b hb,Nat.ne_of_lt (hlt3 b hb),λhs=>I4.ok.exfs b hb hs,.inl hb,λx c e=>(I4.ok.exf b hb).2 x c e,λp hp=>absurd (show p∈([]:Q2) from hp) (by simp)⟩
  refine bQK (λn s'=>∃i H',Inv (cxC X N scope cl s3.heap.objs.size s3 (upd H2 s2.heap.objs.size (.lst [])) fp) [] (vals σ) H' s'/\tn i s'.heap/\(∀b∈fp,H' b=none)/\W i n H') ?_ m0
   ⟨0,_,I4,st4,λb hb=>(f3 b hb).1,w0⟩
  rintro n s5 ⟨i,H5,I5,st5,fr5,w5⟩;rcases turn i n H5 w5 with⟨stop,q⟩|⟨go,step⟩
  ·refine thn (T.done (cxC X N scope cl s3.heap.objs.size s3 (upd H2 s2.heap.objs.size (.lst [])) fp) rfl rfl rfl hc i [] s5 (vals σ) H5 (λ_ _=>False) I5 (fpX fr5) st5 stop) λr s6 ⟨hr,I6⟩=>?_;subst hr;obtain⟨m,hn,_⟩:=id I6.loc;exact hRR _ _ s6 H5 m hn q (λh'' hsb=>cQX I3 f3 I6 hsb) (I3.fpOk (Ai _) I6.free)
  ·refine thn (T.item (cxC X N scope cl s3.heap.objs.size s3 (upd H2 s2.heap.objs.size (.lst [])) fp) rfl rfl rfl hc i [] s5 (vals σ) H5 (λ_ _=>False) I5 (fpX fr5) st5 go) λr s6 ⟨u,hr,h6⟩=>?_;subst hr;refine thn h6 λ_ s7 ⟨x,H7,I7,r7,y7,st7,fr7⟩=>?_;have I7':=I7.pinned (fpX fr7) (T.obj _ _ st7)
   refine thn (hg _ _ _ _ _ s7 (vals σ) H7 x u _ I7' r7 (step x H7 y7)) λ_ s8 ⟨σ8,H8,I8,wk8,q8⟩=>?_;refine thn (ht _ _ _ _ _ s8 σ8 H8 _ I8 q8) λb s9 ⟨H9,I9,q9⟩=>?_;have again:∀ {m':Nat} {s':Shared} {H':Hp},Inv (cxC X N scope cl s3.heap.objs.size s3 (upd H2 s2.heap.objs.size (.lst [])) fp) ([]++rO fp s7.heap) σ8 H' s'->m' < n->W (i+1) m' H'->
       ∃m,m<n/\∃i H',Inv (cxC X N scope cl s3.heap.objs.size s3 (upd H2 s2.heap.objs.size (.lst [])) fp) [] (vals σ) H' s'/\tn i s'.heap/\(∀b∈fp,H' b=none)/\W i m H':=fun {m' s' H'} J7 hm w7=>by
    refine⟨m',hm,i+1,H',(J7.weak wk8.1 wk8.2).unpinned,T.keep _ _ _ st7 λb hb o e=>(J7.pin (b,o) (Bc _ (Bc _ (kQ hb e)))).1,λb hb=>?_,w7⟩;obtain⟨o,e,d⟩:=T.obj _ _ st7 b hb;exact(J7.pin (b,o) (Bc _ (Bc _ (kQ hb e)))).2.1
   cases b with
   |true=>
    rw[if_pos rfl]at q9 ⊢;refine thn (he _ _ _ _ _ s9 σ8 H9 _ I9 q9) λv s10 ⟨y,H10,I10,r10,zs,hz,hl,m',hm,w10⟩=>?_;have ap:=yT ([]++rO fp s7.heap) s10 σ8 H10 (.ref s2.heap.objs.size) [y] (.ref s2.heap.objs.size) [v] (λ_ H'=>H'=upd H10 s2.heap.objs.size (.lst (zs++[y]))) I10 rfl (.cons r10 .nil) ⟨_,_,_,rfl,rfl,hz,hl,rfl⟩
    refine thn ap λ_ s11 ⟨_,H11,I11,_,e11⟩=>?_;subst e11;exact again I11 hm w10
   |false=>
    rw[if_neg An]at q9 ⊢;obtain⟨m',hm,w9⟩:=q9;exact again I9 hm w9
 exact codeAny_compStart_list (loop _ rfl) (T.self _ 0 _ _ _ st4 (loop _ rfl))
section
variable {elt:Expr} {spos py:Pos} {wi:TI}
def cJ(hc:X.calm=true)(hi:PI X tg iter wi)(ck:ClOk X N scope cl vals)(hcell:∀y∈scope.names,y.2≠.cell)(hkind:scope.kind=.function)(hnames:∀x∈scope.names,x.2=.local->scope.names.lookup x.1=some .local)(hg:∀C s₀ H₀ ex,PG (cxC X N scope cl C s₀ H₀ ex) tg g)(ht:∀C s₀ H₀ ex,PF (cxC X N scope cl C s₀ H₀ ex) ifs tests)(he:∀C s₀ H₀ ex,PE (cxC X N scope cl C s₀ H₀ ex) elt te)(hs:∀x,foldedSetIterable iter X.env x=pure x:=by intro _;rfl):PE X (.ListComp elt [⟨tg,iter,ifs,0⟩] scope pos) (cJ5 wi g tests te vals):=by
 intro y3 s σ H Q I h;rw[eval_ListComp];refine wpAny_comprehension_free (use:=none) rfl hs ck.clos hkind hnames (thn (hi y3 s σ H _ I h) λv s1 h1=>thn h1 λitv s2 h2=>?_);obtain⟨it,fp,tn,J,H2,e,I2,T,st2,f2,q⟩:=h2;subst e;refine aJX (RR:=λacc C=>compPost (model X.prog X.w) X.A X.xe none (EP X y3 σ Q) acc C) I2 T st2 f2 hc ck hcell hkind hg ht he q λD C s' H' m hn q' back _=>?_;exact⟨m,hn,λh'' hsb=>⟨.ref D,H',back h'' hsb,rfl,q'⟩⟩
def fR{i:Nat}(hN:X.N.Nodup)(hix:X.N[i]?=some x)(hx:Loc X.env.scope x)(hc:X.calm=true)(hi:PI X tg iter wi)(ck:ClOk X N scope cl vals)(hcell:∀y∈scope.names,y.2≠.cell)(hkind:scope.kind=.function)(hnames:∀x∈scope.names,x.2=.local->scope.names.lookup x.1=some .local)(hg:∀C s₀ H₀ ex,PG (cxC X N scope cl C s₀ H₀ ex) tg g)(ht:∀C s₀ H₀ ex,PF (cxC X N scope cl C s₀ H₀ ex) ifs tests)(he:∀C s₀ H₀ ex,PE (cxC X N scope cl C s₀ H₀ ex) elt te)(hsw:swapsWith (.ListComp elt [⟨tg,iter,ifs,0⟩] scope pos) (some (.Name x py)) spos.line X.env=pure true:=by rfl)(hf:X.fn x=true\/X.env.scope.names.lookup x=some .local:=by first|exact .inl rfl|exact .inr rfl|assumption)(hs:∀x,foldedSetIterable iter X.env x=pure x:=by intro _;rfl):PS X (.Assign [.Name x py] (.ListComp elt [⟨tg,iter,ifs,0⟩] scope pos) spos) (dQJ (cJ5 wi g tests te vals) (gH i)):=by
 intro y3 s σ H D I h;rw[exec_Assign_Name_used _ _ _ _ hsw];refine Ae (Fl (Ae ?_));show wpAny _ X.A (do let _ <-comprehension (.ListComp elt [⟨tg,iter,ifs,0⟩] scope pos) scope X.env _ (newList []) false (eval iter X.env) (some (assign (.Name x py) X.env))) _ _ s
 refine Ae (Cq (wpAny_comprehension_free (use:=some (assign (.Name x py) X.env)) (Q:=λ_ s'=>SP X y3 D .next s') rfl hs ck.clos hkind hnames
  (thn (hi y3 s σ H _ I h) λv s1 h1=>thn h1 λitv s2 h2=>?_)) (λ_ s' hq=>Aq (Aq hq)) λ_ _ e=>e)
 obtain⟨it,fp,tn,J,H2,e,I2,T,st2,f2,q⟩:=h2;subst e;refine aJX (RR:=λacc C=>compPost (model X.prog X.w) X.A X.xe (some (assign (.Name x py) X.env)) (λ_ s'=>SP X y3 D .next s') acc C) I2 T st2 f2 hc ck hcell hkind hg ht he q λDl C s' H' m hn q' back fC=>?_;show wpAny _ X.A (assign (.Name x py) X.env (.ref Dl)) _ _ s'
 have I':Inv X y3 σ H' s':=back s'.heap (Heap.SameBut.refl ..)
 refine wpAny_assign_Name (zT I' hN hix hx (v:=.ref Dl) rfl (λs'' I'' hsb=>?_) hf);obtain⟨a,hsb,ha⟩:=hsb;have hCa:C≠a:=by
  rcases ha with z|z
  ·rw[z];exact fC.2.1
  ·exact λe=>fC.2.2.2.2.1 x a z e.symm
 refine⟨m,hn.sameBut hsb hCa,λh3 hsb3=>?_⟩;exact⟨σ.set i (some (.ref Dl)),H',I''.turned (t':=s''.toks) (λb o hb e=>(hsb3.2 b hb).trans e) fC.1 fC.2.1 fC.2.2.2.1 fC.2.2.2.2.1 fC.2.2.2.2.2,q'⟩
def iC(hfree:∀x∈scope.names,x.2≠.free)(hcell:∀y∈scope.names,y.2≠.cell):ClOk X N scope [] (λ_=>N.map λ_=>none) where
 clos:=closureFor_none hfree
 sub:=λx c h=>nomatch h
 has:=λx h=>by
  have e:(relabel scope X.env).names=scope.names:=by
   show List.map _ scope.names=scope.names
   refine map_eq_self λy hy=>?_;obtain⟨n,k⟩:=y;have:(k==NameKind.free)=false:=by simpa using hfree _ hy
   simp[this]
  rw[e]at h;rcases h with h|h
  ·exact absurd rfl (hcell _ (Dm h))
  ·exact absurd rfl (hfree _ (Dm h))
 len:=λσ=>by simp
 val:=λσ i x v h1 h2=>by
  rw[Ag]at h2;cases e:N[i]? with
  |none=>rw[e]at h2;cases h2
  |some y=>rw[e]at h2;cases h2
end
def eQT{J:It}{xs:List V}{ok:Hp->Prop}(f:V->Option V)(hgo:∀(i:Nat) H,ok H->i<xs.length->J.go i H)(hst:∀H,ok H->J.stop xs.length H)(hy:∀(i:Nat) H x H',ok H->J.yld i H x H'->H'=H/\xs[i]?=some x)(hok:∀D ys,H1 D=none->ok (upd H1 D (.lst ys)))(hlen:xs.length<sizeLine)(hs:∀(i:Nat) x Hc (A:VK) (B:Hp->Prop),xs[i]?=some x->ok Hc->(match f x with|some y=>A y Hc|none=>B Hc)->g x σ0 Hc λσ2 H2=>Wk σ0 σ2/\tests σ2 H2 λb H3=>if b=true then te σ2 H3 A else B H3)(fin:∀D,H1 D=none->Q (.ref D) (upd H1 D (.lst (xs.filterMap f)))):eC g tests te σ0 Q J H1:=by
 intro D hD;refine⟨λi m Hc=>m=xs.length-i/\i<=xs.length/\Hc=upd H1 D (.lst ((xs.take i).filterMap f)),⟨xs.length,by simp,Nat.zero_le _,by simp⟩,?_⟩
 rintro i m Hc ⟨rfl,hi,rfl⟩;by_cases hlt:i<xs.length
 ·refine .inr ⟨hgo i _ (hok D _ hD) hlt,λx H' y=>?_⟩;obtain⟨e,hx⟩:=hy i _ x H' (hok D _ hD) y;subst e;refine hs i x _ _ _ hx (hok D _ hD) ?_;have tk:xs.take (i+1)=xs.take i++[x]:=by rw[Bh,hx];rfl
  cases e:f x with
  |some y=>
   refine⟨_,aH,?_,xs.length-(i+1),by omega,rfl,hlt,?_⟩
   ·have:=Cv f (xs.take i)
    rw[Bt]at this;omega
   ·rw[bZ5,tk,Br];simp[e]
  |none=>
   refine⟨xs.length-(i+1),by omega,rfl,hlt,?_⟩
   rw[tk,Br];simp[e]
 ·have e:i=xs.length:=by omega
  subst e;rw[Cg];exact .inl ⟨hst _ (hok D _ hD),fin D hD⟩
def bQI(f:Nat->Option V)(hl:z.length<sizeLine)(hs:∀(i:Nat) c Hc (A:VK) (B:Hp->Prop),z.cps.toList[i]?=some c->(match f c with|some y=>A y Hc|none=>B Hc)->g (.str ⟨#[c]⟩) σ0 Hc λσ2 H2=>Wk σ0 σ2/\tests σ2 H2 λb H3=>if b=true then te σ2 H3 A else B H3)(fin:∀D,H1 D=none->Q (.ref D) (upd H1 D (.lst (z.cps.toList.filterMap f)))):eC g tests te σ0 Q (Its z) H1:=by
 have hz:z.cps.toList.length=z.length:=by simp[Str.length]
 have hz2:z.cps.size=z.length:=rfl
 refine eQT (xs:=z.cps.toList.map λc=>.str ⟨#[c]⟩) (ok:=λ_=>True) (λx=>match x with|.str y=>f (y.cps.toList.headD 0)|_=>none) (λi H _ h=>?_) (λH _=>?_) (λi H x H' _ y=>?_) (λ_ _ _=>trivial) (by rw[Ab,hz];exact hl) (λi x Hc A B hx _ h=>?_) (λD hD=>?_)
 ·rw[Ab,hz]at h;exact h
 ·show z.cps.size<=_
  rw[Ab,hz];exact Ai _
 ·obtain⟨e,c,hc,hx⟩:=y;refine⟨e,?_⟩;rw[Ag,Dw,hc,hx];rfl
 ·rw[Ag]at hx;cases e:z.cps.toList[i]? with
  |none=>rw[e]at hx;cases hx
  |some c=>rw[e]at hx;cases hx;exact hs i c Hc A B e h
 ·have q:=fin D hD
  rw[Gj];exact q
def fQX{wi:TI}(h:wi σ H λJ H1=>eC g tests te (vals σ) Q J H1):cJ5 wi g tests te vals σ H Q:=h
def fZ3{Q:Bool->Hp->Prop}(h:Q true H):fJN σ H Q:=h
def clF(env:Env):List (Str×NameKind)->List (Str×Addr)->List (Str×Addr)
 |[],acc=>acc
 |(n,k)::r,acc=>if k == .free then clF env r ((n,(env.cells.lookup n).getD 0)::acc) else clF env r acc
def dQ0(ix:List (Option Nat)):St->St:=λσ=>ix.map λo=>match o with|none=>none|some j=>(σ[j]?).join
def fZA(N XN:List Str)(sn dn:List (Str×NameKind))(ix:List (Option Nat)):Bool:=
 ix.length==N.length&&(sn.all λy=>y.2 != .cell&&(y.2 != .free || dn.lookup y.1==some .cell))&&decide ((sn.map (·.1)).Nodup) &&
 ((List.range N.length).all λi=>match ix[i]? with|some (some j)=>N[i]? == XN[j]? && (match N[i]? with|some x=>sn.lookup x==some .free|none=>false)|_=>true)
def aXN:∀(names:List (Str×NameKind)) (acc:List (Str×Addr)),(∀y∈names,y.2=.free->∃c,env.cells.lookup y.1=some c)->
 (forIn names acc (λ(x:Str×NameKind) (cs:List (Str×Addr))=>(match x with
  | (name,kind)=>if (kind == NameKind.free)=true then do
      let a <-cellOf env name
      pure (ForInStep.yield ((name,a)::cs))
   else pure (ForInStep.yield cs):Sem (ForInStep (List (Str×Addr))))))=(pure (clF env names acc):Sem (List (Str×Addr)))
 |[],acc,_=>rfl
 |(n,k)::r,acc,h=>by
  rw[List.forIn_cons];unfold clF;cases e:k==NameKind.free with
  |false=>
   simp only[e,Bool.false_eq_true,if_false,pure_bind];exact aXN r acc λy hy=>h y (Ak _ hy)
  |true=>
   obtain⟨c,hc⟩:=h (n,k) List.mem_cons_self (by simpa using e)
   have hc':env.cells.lookup n=some c:=hc
   simp only[e,if_true,cellOf,hc',Option.getD_some,pure_bind];exact aXN r _ λy hy=>h y (Ak _ hy)
def aXB:∀(names:List (Str×NameKind)) (acc:List (Str×Addr)) {x:Str} {c:Addr},(clF env names acc).lookup x=some c->
 acc.lookup x=some c\/((x,NameKind.free)∈names/\c=(env.cells.lookup x).getD 0)
 |[],acc,x,c,h=>.inl h
 |(n,k)::r,acc,x,c,h=>by
  unfold clF at h;cases e:k==NameKind.free with
  |false=>
   rw[e]at h;rcases aXB r acc (by simpa using h) with z|⟨z,q⟩
   ·exact .inl z
   ·exact .inr ⟨Ak _ z,q⟩
  |true=>
   rw[e]at h;have ek:k=.free:=by simpa using e
   rcases aXB r _ (by simpa using h) with z|⟨z,q⟩
   ·rw[Dk]at z;cases ex:x==n with
    |true=>
     rw[ex]at z;have exn:x=n:=by simpa using ex
     subst exn;subst ek;cases z;exact .inr ⟨Aj,rfl⟩
    |false=>rw[ex]at z;exact .inl z
   ·exact .inr ⟨Ak _ z,q⟩
def aXU:∀(names:List (Str×NameKind)) (acc:List (Str×Addr)) {x:Str},(acc.lookup x).isSome=true->((clF env names acc).lookup x).isSome=true
 |[],acc,x,h=>h
 |(n,k)::r,acc,x,h=>by
  unfold clF;split
  ·refine aXU r _ ?_;rw[Dk];cases ex:x==n with
   |true=>rfl
   |false=>exact h
  ·exact aXU r acc h
def uK:∀(names:List (Str×NameKind)) (acc:List (Str×Addr)) {x:Str},(x,NameKind.free)∈names->((clF env names acc).lookup x).isSome=true
 |(n,k)::r,acc,x,h=>by
  unfold clF;rcases Bb.mp h with z|z
  ·cases z;simp only[beq_self_eq_true,if_true];refine aXU r _ ?_;rw[Dk,Em];rfl
  ·split
   ·exact uK r _ z
   ·exact uK r acc z
def kR:∀ {names:List (Str×NameKind)} {k':NameKind},(names.map λ(n,k)=>if (k==NameKind.free&&env.scope.kind == .function&&env.kindOf n==some .cell) then (n,NameKind.cell) else (n,k)).lookup x=some k'->
 ∃k,(x,k)∈names/\(k'=k\/(k=.free/\k'=.cell))
 |[],_,h=>by simp at h
 |(n,k)::r,k',h=>by
  rw[Aw]at h;dsimp only at h;cases hc:(k==NameKind.free&&env.scope.kind == .function&&env.kindOf n==some .cell) with
  |true=>
   rw[hc,if_pos rfl,Dk]at h;cases ex:x==n with
   |true=>
    rw[ex]at h;cases h;have:x=n:=by simpa using ex
    subst this;have hk:k=.free:=by
     have:=(Dx _ _).mp hc
     have:=(Dx _ _).mp this.1
     simpa using this.1
    exact⟨k,Aj,.inr ⟨hk,rfl⟩⟩
   |false=>
    rw[ex]at h;obtain⟨k1,h1,h2⟩:=kR h;exact⟨k1,Ak _ h1,h2⟩
  |false=>
   rw[hc,if_neg An,Dk]at h;cases ex:x==n with
   |true=>
    rw[ex]at h;cases h;have:x=n:=by simpa using ex
    subst this;exact⟨k,Aj,.inl rfl⟩
   |false=>
    rw[ex]at h;obtain⟨k1,h1,h2⟩:=kR h;exact⟨k1,Ak _ h1,h2⟩
def tL(hk:env.scope.kind=.function)(hx:env.kindOf x=some .cell):∀ {names:List (Str×NameKind)},names.lookup x=some .free->
 (names.map λ(n,k)=>if (k==NameKind.free&&env.scope.kind == .function&&env.kindOf n==some .cell) then (n,NameKind.cell) else (n,k)).lookup x=some .cell
 |[],h=>by simp at h
 |(n,k)::r,h=>by
  rw[Aw];dsimp only;rw[Dk]at h;cases ex:x==n with
  |true=>
   rw[ex]at h;cases h;have:x=n:=by simpa using ex
   subst this;rw[hk,hx];simp[List.lookup_cons]
  |false=>
   rw[ex]at h;have ih:=tL hk hx h
   split<;>(rw[Dk,ex];exact ih)
def fH{N:List Str}(XN:List Str)(sc:Scope)(ix:List (Option Nat))(hN:X.N=XN)(hsc:X.env.scope=sc)(hk:sc.kind=.function)(hcs:∀x,sc.names.lookup x=some .cell->∃c,X.env.cells.lookup x=some c)(c:fZA N XN scope.names sc.names ix=true):ClOk X N scope (clF X.env scope.names []) (dQ0 ix):=by
 unfold fZA at c;simp only[Bool.and_eq_true,decide_eq_true_eq,List.all_eq_true,beq_iff_eq]at c;obtain⟨⟨⟨c0,c1⟩,c2⟩,c3⟩:=c;have fr:∀y,(y,NameKind.free)∈scope.names->sc.names.lookup y=some .cell:=λy hy=>by
  have z:=(c1 _ hy).2
  simpa using z
 have nocell:∀y,(y,NameKind.cell)∉scope.names:=λy hy=>by
  have z:=(c1 _ hy).1
  simp at z
 refine⟨?_,λx c h=>?_,λx h=>?_,λσ=>?_,λσ i x v h1 h2=>?_⟩
 ·unfold closureFor;simp only[bind_pure];exact aXN scope.names [] λy hy hf=>hcs y.1 (fr y.1 (by rw[<-hf];exact hy))
 ·rcases aXB _ _ h with z|⟨z,q⟩
  ·simp at z
  ·obtain⟨c',e⟩:=hcs x (fr x z);rw[q,e];rfl
 ·have:∃ k,(x,k)∈scope.names/\k=.free:=by
   rcases h with h|h
   ·obtain⟨k,h1,h2⟩:=kR h;rcases h2 with z|⟨z,_⟩
    ·subst z;exact absurd h1 (nocell x)
    ·exact⟨k,h1,z⟩
   ·obtain⟨k,h1,h2⟩:=kR h;rcases h2 with z|⟨z,z2⟩
    ·exact⟨k,h1,z.symm⟩
    ·exact⟨k,h1,z⟩
  obtain⟨k,h1,rfl⟩:=this;exact Ea.mp (uK scope.names [] h1)
 ·unfold dQ0;rw[Ab,c0]
 ·unfold dQ0 at h2;rw[Ag]at h2;cases e:ix[i]? with
  |none=>rw[e]at h2;cases h2
  |some o=>
   rw[e]at h2;cases o with
   |none=>cases h2
   |some j=>
    have hi:i<N.length:=(Ac.mp h1).1
    have z:=c3 i (By.mpr hi)
    rw[e,h1]at z;simp only[Bool.and_eq_true,beq_iff_eq]at z;have hv:σ[j]?=some (some v):=by
     have h3:(σ[j]?).join=some v:=by simpa using h2
     cases e2:σ[j]? with
     |none=>rw[e2]at h3;cases h3
     |some o=>rw[e2]at h3;cases o with
      |none=>cases h3
      |some u=>cases h3;rfl
    have hm:(x,NameKind.free)∈scope.names:=Dm z.2
    have hx:=fr x hm
    refine⟨j,by rw[hN];exact z.1.symm,hv,by rw[hsc];exact hx,Ea.mp (uK scope.names [] hm),?_⟩
    exact tL (by rw[hsc];exact hk) (by show X.env.scope.names.lookup x=_;rw[hsc];exact hx) z.2
section
open PySem.AutoSeq1 (wpAny_loadPart')
def cJB{α:Type}{c:Bool}{x y:Sem α}{Q:α->Shared->Prop}(h1:wpAny M A x Q E s)(h2:wpAny M A y Q E s):wpAny M A (if c=true then x else y) Q E s:=by
 cases c
 ·exact h2
 ·exact h1
def cXS(l:Addr)(its:Array Value)(n:Nat)(dc:Option Addr)(sl:Array (Option Value))(k:Int)(t:Tok)(hk:Builtin.SmallTypes.fitsIndex k=true):Meets (Builtin.«enumerate.__new__» ⟨[.type "enumerate",.ref l],[("start",.int k t)]⟩) (λ_ R s=>s.heap.get? l=some ⟨.type "list",dc,.seq its n,sl⟩/\
 R (.ok (.ret (.ref (s.heap.push {cls:=.type "list_iterator",data:=.fields #[.ref l,.int 0 0]}).objs.size)))
  {s with heap:=(s.heap.push {cls:=.type "list_iterator",data:=.fields #[.ref l,.int 0 0]}).push ⟨.type "enumerate",none,.fields #[.none,.bool false,.ref s.heap.objs.size,rawInt k,.none,.none],#[]⟩}):=
 .of_wp λprog w A R s h=>by
  obtain⟨hp,g,d,tk,os⟩:=s;obtain⟨hl,h⟩:=h;have hsub:=sub_enumerate
  have hL:Heap.IsList hp l its:=⟨_,hl,rfl,n,rfl⟩
  have hk':(!Builtin.SmallTypes.fitsIndex k)=false:=by rw[hk];rfl
  wp_walk using Cc hl
  refine wpAny_stack_any λst=>Aq ?_;refine cJB ?_ ?_ <;>
  ·wp_walk using (Cc hl),(Eg (s:=⟨hp,g,d,tk,os⟩) hL)
   exact⟨_,rfl,h⟩
def qK{Bn:Builtin}{args:List Value}{kw:List (Str×Value)}{S:PySem.Spec}{Q Q1:Q0}(ft:TypeCalled T newId "object.__init__")(hct:checkTypeCall T ⟨args,kw⟩=pure ())(hcn:checkBuiltinCall newId ⟨.type T::args,kw⟩=pure ())(eN:entryFor table newId=some Bn)(g:Meets (Bn ⟨.type T::args,kw⟩) S)(h:S A.in1 (wants Q1 E) s)(hnx:∀o s1,Q1 o s1->s1.TypeIs o T/\argsOk "object.__init__" ⟨o::args,kw⟩/\∃Si,Meets (Builtin.«object.__init__» ⟨o::args,kw⟩) Si/\Si A.in1 (wants (λr s2=>r=.none/\Q o s2) E) s1):wpAny (model prog w) A (call (.type T) args kw) Q E s:=by
 obtain⟨c,tl,hmro⟩:=ft.mro;have hmade:=ft.made
 have hsub:=ft.sub
 have h1:=ft.notType
 have h2:=ft.canCreate
 refine Ep (codeAny_of_tree (show wpAny _ _ (callAny (.type T) _) _ _ _ from Aq ⟨Code.quiet_builtin _ (by decide +kernel),Gh F.entry_type_call ?_⟩))
 rw[Around.under_plain (weight_type_call_type T args kw) (units_type_call_type T args kw)];repeat (any_goals first|assumption|wp_step)
 refine Ei (Ed ft.plain eN (wpAny_of_eq hcn (g prog w A.in1 _ s h))) ?_;rintro(e|fl) s1 hr
 ·exact hr
 ·cases fl with
  |ret o=>
   obtain⟨hT,hok,Si,gi,hsi⟩:=hnx _ _ hr;have hli:=ft.init.lookup
   have hbi:=ft.init.bind o
   repeat (any_goals first|assumption|wp_step)
   refine Ei (Ed ft.init.plain F.entry_object_init (ft.init.check _ _ _ _ _ _ _ _ hT hok (gi prog w A.in1 _ s1 hsi))) ?_;rintro(e|fl2) s2 hr2
   ·exact hr2
   ·cases fl2 with
    |ret r=>
     obtain⟨rfl,hq⟩:=hr2;repeat (any_goals first|assumption|wp_step)
    |_=>exact hr2.elim
  |_=>exact hr.elim
def bZ0{self:Value}{rest:List Value}{kw:List (Str×Value)}(hl:typeLookup (.type T) "__init__"=pure (some (.builtin "object.__init__")))(hm:Bind.madeBy (.type T)=pure (some newId))(hne:(some newId != some "object.__new__")=true):Meets (Builtin.«object.__init__» ⟨self::rest,kw⟩) (λ_ R s=>s.TypeIs self T/\R (.ok (.ret .none)) s):=by
 refine Meets.of_wp λprog w A R s hs=>?_;obtain⟨hT,hq⟩:=hs;cases rest with
 |nil=>
  cases kw with
  |nil=>exact Aq ⟨_,rfl,hq⟩
  |cons a r=>
   repeat (any_goals first|assumption|wp_step)
   exact⟨_,rfl,hq⟩
 |cons a r=>
  repeat (any_goals first|assumption|wp_step)
  exact⟨_,rfl,hq⟩
def qD{l:Addr}{its:Array Value}{k:Int}{t:Tok}{Q:Q0}(hk:Builtin.SmallTypes.fitsIndex k=true)(hL:s.heap.IsList l its)(h:∀h',IsEnum h' (s.heap.objs.size+1) s.heap.objs.size k .none->h'.IsListIter s.heap.objs.size l 0->h'.objs.size=s.heap.objs.size+2->(∀b o,s.heap.get? b=some o->h'.get? b=some o)->Q (.ref (s.heap.objs.size+1)) {s with heap:=h'}):wpAny (model prog w) A (call (.type "enumerate") [.ref l] [("start",.int k t)]) Q E s:=by
 obtain⟨⟨c,dc,dt,sl⟩,hl,hc,n,hd⟩:=hL;obtain rfl:c=.type "list" := hc;obtain rfl:dt=.seq its n:=hd;have hz:(s.heap.push {cls:=.type "list_iterator",data:=.fields #[.ref l,.int 0 0]}).objs.size=s.heap.objs.size+1:=Fu ..
 refine qK (Q1:=λo s1=>s1.TypeIs o "enumerate"/\Q o s1) F.called_enumerate (by kernel_rfl) (by kernel_rfl) F.entry_enumerate_new (cXS l its n dc sl k t hk) ⟨hl,?_⟩ λo s1 hq=>⟨hq.1,?_,_,bZ0 F.called_enumerate.init.lookup F.called_enumerate.made (by decide),hq.1,rfl,hq.2⟩
 ·show _/\_
  rw[hz];have he:IsEnum ((s.heap.push {cls:=.type "list_iterator",data:=.fields #[.ref l,.int 0 0]}).push ⟨.type "enumerate",none,.fields #[.none,.bool false,.ref s.heap.objs.size,rawInt k,.none,.none],#[]⟩) (s.heap.objs.size+1) s.heap.objs.size k .none:=by
   have q:=Ay (s.heap.push {cls:=.type "list_iterator",data:=.fields #[.ref l,.int 0 0]}) (o:=⟨.type "enumerate",none,.fields #[.none,.bool false,.ref s.heap.objs.size,rawInt k,.none,.none],#[]⟩) rfl
   rwa [hz]at q
  exact⟨⟨_,he,rfl⟩,h _ he ⟨_,Ah _ (Ay _ rfl),rfl,rfl⟩ (by rw[Fu,hz]) λb o x=>Ah _ (Ah _ x)⟩
 ·unfold argsOk;rw[signature?_of (n:=['_','_','t','i','n','i','_','_']) (o := "tcejbo".toList) (by kernel_rfl) F.owner_object]
  kernel_rfl
def iI{it:Addr}{P:Nat->Value->Prop}{S:Nat->Heap->Prop}(k:Nat)(D:Draws prog w A it fp n P S):Draws prog w A it fp (k+n) (λj v=>P (j-k) v) (λj h=>k<=j/\S (j-k) h) where
 live:=λi h st=>D.live _ h st.2
 frame:=λi h h' st kk=>⟨st.1,D.frame _ h h' st.2 kk⟩
 item:=λi s Q E hi st hQ=>D.item (i-k) s Q E (by have:=st.1;omega) st.2 λx h' tk hP hS sb=>hQ x h' tk hP ⟨by have:=st.1;omega,by rw[show i+1-k=i-k+1 by have:=st.1;omega];exact hS⟩ sb
 done:=λs Q E st hE=>D.done s Q E (by have q:=st.2;rwa [show k+n-k=n by omega]at q) hE
def Inv.turnLaid{ch:List Addr}{o:HO}{t':Nat}(I:Inv X y3 σ H s)(hch:∀b∈ch,nL X y3 H b)(k:∀b u,b∉ch->s.heap.get? b=some u->h'.get? b=some u)(hp:s.heap.objs.size<=a)(new:ObjOk X.prog X.w (upd H a o) h' a o):Inv X y3 σ (upd H a o) {s with heap:=h',toks:=t'}:=by
 have hn:=I.hok.fresh hp
 have nch:∀b u,H b=some u->b∉ch:=λb u e z=>by rw[(hch b z).1]at e;cases e
 refine I.step (g':=s.gens) (d':=s.drawn) (ch:=ch) (λb hb=>?_) (λb o _ _ hc e _=>k b o hc e) (λb o _ _ hc e _=>⟨o.slots,k b o hc e⟩) (λb o _ e n=>?_) (λb o hc e=>⟨o,k b o hc e⟩)
  (λb xs e=>by rw[aM (bM e hn)];exact e) (λb o u e=>by rw[aM (bM e hn)];exact e) (λb ps e=>⟨#[],by rw[aM (bM e hn),e];simp⟩) (λm hm=>?_) (λb u e=>?_) I.bare
 ·obtain⟨_,q1,_,q3,q4,q5⟩:=hch b hb;exact⟨q3,q1,q4,q5⟩
 ·rw[aM (Bl (Bf (Au e) hp))];exact n
 ·obtain⟨ob,es,ep,ho,r⟩:=hm;exact⟨ob,es,ep,k _ ob (λz=>(hch _ z).2.1 rfl) ho,r⟩
 ·by_cases hb:b=a
  ·subst hb;rw[aH]at e;cases e;exact new
  ·rw[aM hb]at e;refine(I.hok b u e).stay (λc v hc q=>k c v ?_ q) (λc q=>by rw[aM (bM q hn)];exact q) λc xs q=>by rw[aM (bM q hn)];exact q
   rcases hc with z|z
   ·rw[z];exact nch b u e
   ·exact nch c _ z
def Inv.turnAll{ch:List Addr}{t':Nat}(I:Inv X y3 σ H s)(hch:∀b∈ch,nL X y3 H b)(k:∀b u,b∉ch->s.heap.get? b=some u->h'.get? b=some u):Inv X y3 σ H {s with heap:=h',toks:=t'}:=by
 have nch:∀b u,H b=some u->b∉ch:=λb u e z=>by rw[(hch b z).1]at e;cases e
 refine I.step (g':=s.gens) (d':=s.drawn) (ch:=ch) (λb hb=>?_) (λb o _ _ hc e _=>k b o hc e) (λb o _ _ hc e _=>⟨o.slots,k b o hc e⟩) (λb o _ e n=>n) (λb o hc e=>⟨o,k b o hc e⟩)
  (λb xs e=>e) (λb o u e=>e) (λb ps e=>⟨#[],by rw[e];simp⟩) (λm hm=>?_) (λb u e=>?_) I.bare
 ·obtain⟨_,q1,_,q3,q4,q5⟩:=hch b hb;exact⟨q3,q1,q4,q5⟩
 ·obtain⟨ob,es,ep,ho,r⟩:=hm;exact⟨ob,es,ep,k _ ob (λz=>(hch _ z).2.1 rfl) ho,r⟩
 ·refine(I.hok b u e).stay (λc v hc q=>k c v ?_ q) (λc q=>q) λc xs q=>q;rcases hc with z|z
  ·rw[z];exact nch b u e
  ·exact nch c _ z
def Ite(K:W.Frag)(a:Addr)(k:Nat):It:=
 ⟨λi H=>∃xs x,SqL K H a xs/\xs[i]?=some x,λi H v H'=>∃p x,H p=none/\v=.ref p/\H'=upd H p (.tup [.int ((k+i:Nat):Int),x])/\∀xs,SqL K H a xs->xs[i]?=some x,λi H=>∃xs,SqL K H a xs/\xs.length=i⟩
def cXW(a e it:Addr)(k:Nat)(hei:e≠it):Turn P w K (.Tuple elts x1 tp) (Ite K a k) [e,it] e (λi h=>(∃old,IsEnum h e it ((k+i:Nat):Int) old)/\h.IsListIter it a i) where
 mem:=by simp
 obj:=λi h st b hb=>by
  obtain⟨⟨old,he⟩,o,ho,c,d⟩:=st;rcases Bb.mp hb with z|z
  ·subst z;exact⟨_,he,λv z=>by cases z⟩
  ·rw[Al.mp z];exact⟨o,ho,λv z=>by rw[d]at z;cases z⟩
 keep:=λi h h' st kk=>⟨let ⟨old,he⟩:=st.1;⟨old,kk e (by simp) _ he⟩,st.2.at λo q=>kk it (by simp) o q⟩
 item:=by
  intro X hP hw hK hc i y3 s σ H E I hf st hg;subst hP hw hK;obtain⟨xs,x,hq,hx⟩:=hg;obtain⟨its,rv,p,hz⟩:=I.list hq;obtain⟨u,hu,ru⟩:=rv.get hx;obtain⟨⟨old,he⟩,hit⟩:=st;have hai:a≠it:=by
   rintro rfl;obtain⟨o,ho,c,_⟩:=hit;obtain⟨o2,ho2,c2,_⟩:=p.isList;rw[ho]at ho2;cases ho2;rw[c]at c2;injection c2 with c2;exact absurd c2 (by decide)
  have hae:a≠e:=by
   rintro rfl;obtain⟨o2,ho2,c2,_⟩:=p.isList;rw[he]at ho2;cases ho2;injection c2 with c2;exact absurd c2 (by decide)
  have hl:=rv.length
  have hil:i<its.length:=(Ac.mp hu).1
  have D:=iI k (Draws.list (prog:=X.prog) (w:=X.w) (A:=X.A.in1) (show X.A.in1.handled=none from I.ok.hd hc) it a hai its.toArray)
  refine wpAny_pyNext_enum_itemD D (i:=k+i) he ⟨Fg _ _,by rw[Cz];exact⟨hit,p.isList⟩⟩ (by rw[Ax];omega) hei (λz=>by
   rcases Bb.mp z with z|z
   ·exact hei z
   ·exact hae (Al.mp z).symm) λy h1 tk hP ho hS hT hsz kk=>?_
  refine⟨_,rfl,wpAny_letOwnedTupleGo_enum ho λh2 he2 hs2=>?_⟩;have ey:y=u:=by
   have hP':its.toArray[k+i-k]?=some y:=hP
   rw[Cz]at hP';have:its[i]?=some y:=by simpa using hP'
   rw[hu]at this;cases this;rfl
  subst ey;have hTe:s.heap.objs.size≠e:=Fz (Au he)
  have hTi:s.heap.objs.size≠it:=by obtain⟨o,q,_⟩:=hit;exact Fz (Au q)
  have hT2:h2.get? s.heap.objs.size=some {cls:=.type "tuple",data:=.seq #[.int ((k+i:Nat):Int) tk,y]}:=(hs2.2 _ hTe).trans hT
  have hS':h1.IsListIter it a (i+1):=by
   have q:=hS.2.1
   rwa [show k+i+1-k=i+1 by omega]at q
  have I2:Inv X y3 σ (upd H s.heap.objs.size (.tup [.int ((k+i:Nat):Int),x])) {s with heap:=h2,toks:=tk+1}:=by
   refine I.turnLaid (ch:=[e,it]) hf (λb u hb q=>(hs2.2 b (λz=>hb (by simp[z]))).trans (kk b u (λz=>hb (by simp[z])) (λz=>hb (by simp[z])) q)) (Nat.le_refl _) ⟨bO (by show 2<=_;omega),[.int ((k+i:Nat):Int) tk,y],.cons ⟨tk,rfl⟩ (.cons ru .nil),_,hT2,rfl,_,rfl⟩
  refine⟨.ref s.heap.objs.size,_,I2,rfl,⟨_,x,I.hok.fresh (Ai _),rfl,rfl,λys hy=>by rw[I.list_inj hy hq];exact hx⟩,⟨⟨y,he2⟩,hS'.at λo q=>(hs2.2 it hei.symm).trans q⟩,λb hb=>?_⟩
  rcases Bb.mp hb with z|z
  ·rw[z,aM hTe.symm];exact(hf e (by simp)).1
  ·rw[List.mem_singleton.mp z,aM hTi.symm];exact(hf it (by simp)).1
 done:=by
  intro X hP hw hK hc i y3 s σ H E I hf st hg;subst hP hw hK;obtain⟨xs,hq,hx⟩:=hg;obtain⟨its,rv,p,hz⟩:=I.list hq;obtain⟨⟨old,he⟩,hit⟩:=st;have hl:=rv.length
  have hai:a≠it:=by
   rintro rfl;obtain⟨o,ho,c,_⟩:=hit;obtain⟨o2,ho2,c2,_⟩:=p.isList;rw[ho]at ho2;cases ho2;rw[c]at c2;injection c2 with c2;exact absurd c2 (by decide)
  have D:=iI k (Draws.list (prog:=X.prog) (w:=X.w) (A:=X.A.in1) (show X.A.in1.handled=none from I.ok.hd hc) it a hai its.toArray)
  refine wpAny_pyNext_enum_endD D he ⟨Fg _ _,by rw[Cz,Ax,<-hl,hx];exact⟨hit,p.isList⟩⟩ λh' eb=>⟨rfl,?_⟩
  exact I.turnAll (t':=s.toks) (ch:=[e,it]) hf λb u hb q=>eb b u (λz=>hb (by simp[z])) q
 self:=λ_ _ _ _ _ st h=>let ⟨⟨_,he⟩,_⟩:=st;Gz he h
section
variable {p kp:Pos}
def bX7(R:Addr->Hp->Prop):List V->Hp->Prop:=λvs H=>match vs with|[.ref j]=>R j H|_=>False
def bZU{R:Addr->Hp->Prop}(q:bX7 R vs H):∃j,vs=[.ref j]/\R j H:=by
 unfold bX7 at q;split at q
 ·exact⟨_,rfl,q⟩
 ·exact q.elim
def eX0(K:W.Frag)(ta:TA):TI:=λσ H R=>ta σ H (bX7 λa H1=>onL (rdL H1 a) (R (Ite K a 0) H1))
def dXD(K:W.Frag)(ta tk:TA):TI:=λσ H R=>ta σ H (bX7 λa H1=>tk σ H1 (wR λk H2=>(0<=k/\k<2^62)/\onL (rdL H2 a) (R (Ite K a k.toNat) H2)))
def aZC(I1:Inv X y3 σ H1 s1)(he:IsEnum h' (s1.heap.objs.size+1) s1.heap.objs.size ((k:Nat):Int) .none)(hi:h'.IsListIter s1.heap.objs.size a 0)(hz:h'.objs.size=s1.heap.objs.size+2)(hk:∀b o,s1.heap.get? b=some o->h'.get? b=some o)(q:R (Ite X.K a k) H1):wpAny (model X.prog X.w) X.A (pyIter (.ref (s1.heap.objs.size+1))) (PIE X y3 σ (.Tuple elts x1 tp) R) E {s1 with heap:=h'}:=by
 refine Gz (s:={s1 with heap:=h'}) he ⟨_,[s1.heap.objs.size+1,s1.heap.objs.size],_,_,H1,rfl,I1.kept (t':=s1.toks) hk,cXW a _ _ k (Nat.succ_ne_self _),⟨⟨_,he⟩,hi⟩,λb hb=>?_,q⟩
 have z:s1.heap.objs.size<=b:=by
  rcases Bb.mp hb with z|z
  ·rw[z];exact Nat.le_succ _
  ·rw[Al.mp z];exact Ai _
 exact I1.fpOk z (I1.hok.fresh z)
def kK(hg:Gl X "enumerate")(hm:X.mg "enumerate"=none)(ha:PA X [l] ta)(hs:starEach [l] X.env=[(false,eval l X.env)]:=by rfl):PI X (.Tuple elts x1 tp) (.Call (.Name "enumerate" p) [l] [] pos) (eX0 X.K ta):=by
 intro y3 s σ H R I h;refine Call_ (iS I hg hm boot_enumerate (Df (thn (ha pos y3 s σ H _ I h) λus s1 ⟨vs,H1,I1,r1,q1⟩=>?_) hs rfl));obtain⟨a,rfl,q⟩:=bZU q1;obtain⟨u,rfl,ru⟩:=eW r1;cases ru;unfold onL at q;split at q
 ·rename_i xs ex
  obtain⟨its,rv,p,hz⟩:=I1.list (bG ex);exact call_enumerate_list p.isList λh' he hi hz hk=>aZC I1 (k:=0) he hi hz hk q
 ·exact q.elim
def pT{args:List (Bool×Sem Value)}{kw:List (Option Str×Sem Value)}{Q:Q0}(h1:args.any (·.1)=false)(h2:kw.any (·.1.isNone)=false)(h:wpAny M A (evalArgs (.type T) true args kw) (λa s1=>wpAny M A (call (.type T) a.pos a.kw) Q E s1) E s):wpAny M A (callWith pos (.type T) [] args kw) Q E s:=by
 unfold callWith;refine Ae (Cu (Cq h (λa s1 q1=>Ae (Fl ?_)) λ_ _ x=>x));rw[h1,h2];exact Ae (Aq (Ae (Cq q1 (λr s2 hr=>Ae (Cu (wpAny_point (Aq hr)))) λ_ _ x=>x)))
def dX4{kx:Expr}(hg:Gl X "enumerate")(hm:X.mg "enumerate"=none)(ha:PA X [l] ta)(hk:PK X [⟨some "start",kx,kp⟩] tk)(hs:starEach [l] X.env=[(false,eval l X.env)]:=by rfl)(hks:keywordEach [⟨some "start",kx,kp⟩] X.env=[(some ("start" : Str),eval kx X.env)]:=by rfl):PI X (.Tuple elts x1 tp) (.Call (.Name "enumerate" p) [l] [⟨some "start",kx,kp⟩] pos) (dXD X.K ta tk):=by
 intro y3 s σ H R I h;have hs2:backTo pos (starEach [l] X.env)=[(false,eval l X.env)]:=by rw[hs];rfl
 refine Dh (iS I hg hm boot_enumerate (pT (by rw[hs2];rfl) (by rw[hks];rfl) ?_))
 rw[hs2];refine evalArgs_kwB (by rw[hks];rfl) ?_
 rw[<-hs2];refine thn (ha pos y3 s σ H _ I h) λus s1 ⟨vs,H1,I1,r1,q1⟩=>?_;obtain⟨a,rfl,q⟩:=bZU q1;refine thn (hk pos y3 s1 σ H1 _ I1 q) λws s2 ⟨zs,H2,I2,r2,q2⟩=>?_;obtain⟨k,rfl,⟨k0,k1⟩,q⟩:=uI q2;obtain⟨u,rfl,ru⟩:=eW r1;cases ru;obtain⟨u,rfl,t,rfl⟩:=eW r2;unfold onL at q;split at q
 ·rename_i xs ex
  obtain⟨its,rv,p,hz⟩:=I2.list (bG ex);have e:(backToKw pos (keywordEach [⟨some "start",kx,kp⟩] X.env)).filterMap (·.1)=(["start"]:List Str):=by rw[hks];rfl
  rw[e];refine qD (by unfold Builtin.SmallTypes.fitsIndex;rw[Ap (by omega),Ap (by omega)];rfl) p.isList λh' he hi hz hk=>aZC I2 (k:=k.toNat) ?_ hi hz hk q
  rw[show ((k.toNat:Nat):Int)=k by omega]
  exact he
 ·exact q.elim
end
def qY(Pv:Nat->St->Hp->Prop)(h0:Pv 0 σ H)(hl:∀i σ H,i<=xs.length->Pv i σ H->rdL H a=some xs)(hs:∀i x σ H p,xs[i]?=some x->Pv i σ H->H p=none->g (.ref p) σ (upd H p (.tup [.int ((k+i:Nat):Int),x])) λσ2 H2=>tb {D with nx:=Pv (i+1),ct:=Pv (i+1),bk:=D.nx} σ2 H2)(hd:∀σ H,Pv xs.length σ H->D.nx σ H):aQ1 (Ite K a k) g tb D σ H:=by
 refine⟨λi m σ H=>m=xs.length-i/\i<=xs.length/\Pv i σ H,⟨xs.length,by simp,Nat.zero_le _,h0⟩,?_⟩
 rintro i m σ H ⟨rfl,hi,p⟩;have hr:=hl i σ H hi p
 by_cases hlt:i<xs.length
 ·refine .inr ⟨⟨xs,xs[i],bG hr,by simp[hlt]⟩,Pv (i+1),λσ' H' p'=>⟨xs.length-(i+1),by omega,rfl,hlt,p'⟩,λx H' y=>?_⟩
  obtain⟨q,z,hq,rfl,rfl,hz⟩:=y;exact hs i z σ H q (hz xs (bG hr)) p hq
 ·have e:i=xs.length:=by omega
  subst e;exact .inl ⟨⟨xs,bG hr,rfl⟩,hd σ H p⟩
def aQP(f:Nat->V->Option V)(ha:rdL H1 a=some xs)(hl:xs.length<sizeLine)(hs:∀(i:Nat) x Hc p (A:VK) (B:Hp->Prop),xs[i]?=some x->Same H1 Hc->Hc p=none->(∀Hd,Same (upd Hc p (.tup [.int ((k+i:Nat):Int),x])) Hd->match f i x with|some y=>A y Hd|none=>B Hd)->
 g (.ref p) σ0 (upd Hc p (.tup [.int ((k+i:Nat):Int),x])) λσ2 H2=>Wk σ0 σ2/\tests σ2 H2 λb H3=>if b=true then te σ2 H3 A else B H3)(fin:∀D Hd,H1 D=none->Same H1 Hd->rdL Hd D=some ((List.range xs.length).filterMap λi=>f i (xs.getD i .non))->Q (.ref D) Hd):eC g tests te σ0 Q (Ite K a k) H1:=by
 intro D hD;refine⟨λi m Hc=>m=xs.length-i/\i<=xs.length/\Same H1 Hc/\Hc D=some (.lst ((List.range i).filterMap λi=>f i (xs.getD i .non))),⟨xs.length,by simp,Nat.zero_le _,aG hD _,by rw[aH];rfl⟩,?_⟩
 rintro i m Hc ⟨rfl,hi,sm,hDc⟩;have hr:=aO sm ha
 by_cases hlt:i<xs.length
 ·refine .inr ⟨⟨xs,xs[i],bG hr,by simp[hlt]⟩,λv H' y=>?_⟩
  obtain⟨q,z,hq,rfl,rfl,hz⟩:=y;have hx:=hz xs (bG hr)
  have hg:xs.getD i .non=z:=by rw[Ad,hx];rfl
  refine hs i z Hc q _ _ hx sm hq λHd sd=>?_;have hDd:Hd D=some (.lst ((List.range i).filterMap λi=>f i (xs.getD i .non))):=sd _ _ (aG hq _ _ _ hDc)
  have sH:Same H1 Hd:=sm.trans ((aG hq _).trans sd)
  cases e:f i z with
  |some y=>
   refine⟨_,hDd,?_,xs.length-(i+1),by omega,rfl,hlt,λb o hb=>?_,?_⟩
   ·have:=Cv (λi=>f i (xs.getD i .non)) (List.range i)
    rw[Ce]at this;omega
   ·rw[aM (bM hb hD)];exact sH b o hb
   ·rw[aH,Cd,Br,Ci (b:=y) (by rw[hg,e]),Cr]
  |none=>
   refine⟨xs.length-(i+1),by omega,rfl,hlt,sH,?_⟩
   rw[hDd,Cd,Br,Cp (by rw[hg,e]),Cr,Bj]
 ·have e:i=xs.length:=by omega
  subst e;exact .inl ⟨⟨xs,bG hr,rfl⟩,fin D Hc hD sm (aR hDc)⟩
def dJR(h:ta σ H (bX7 λa H1=>onL (rdL H1 a) (R (Ite K a 0) H1))):eX0 K ta σ H R:=h
def dQ6(h:ta σ H (bX7 λa H1=>tk σ H1 (wR λk H2=>(0<=k/\k<2^62)/\onL (rdL H2 a) (R (Ite K a k.toNat) H2)))):dXD K ta tk σ H R:=h
def eX8{R:Addr->Hp->Prop}(h:R a H):bX7 R [.ref a] H:=h
section
variable {t:TG} {u:TGs} {r:List V} {Q:St->Hp->Prop}
def fQY(e:tR H a=some xs)(hn:xs.length=n)(h:u xs σ H Q):eJC K n u (.ref a) σ H Q:=⟨a,xs,rfl,.of (uJ e),hn,h⟩
def dJU(h:t v σ H λσ' H'=>u r σ' H' Q):bJQ t u (v::r) σ H Q:=⟨v,r,rfl,h⟩
def eJT(h:Q σ H):eJL [] σ H Q:=⟨rfl,h⟩
end
def dN{K:W.Frag}{i j:Nat}{y:Str}{px py:Pos}(hK:X.K=K)(hc:X.calm=true)(hN:X.N.Nodup)(hi:X.N[i]?=some x)(hx:Loc X.env.scope x)(hfx:X.fn x=true\/X.env.scope.names.lookup x=some .local)(hj:X.N[j]?=some y)(hy:Loc X.env.scope y)(hfy:X.fn y=true\/X.env.scope.names.lookup y=some .local):PG X (.Tuple [.Name x px,.Name y py] k pos) (eJC K 2 (bJQ (gH i) (bJQ (gH j) eJL))):=by
 subst hK;exact eZK hc (jM (bF hN hi hx hfx) (jM (bF hN hj hy hfy) bJE))
end
structure Fly (B:Heap) (l:List Env) (e:Addr) (cls:Value) (d:Option Addr) (fl:Value) (h:Heap):Prop where
 stays:B.StaysIn h
 new:B.get? e=none
 frames:h.FunFrames B l
 on:∃oe vs T oT ts,h.get? e=some oe/\(oe.cls=cls/\oe.dict=d)/\oe.data=.fields vs/\vs[1]?=some (.ref T)/\B.get? T=none/\T≠e/\h.get? T=some oT/\oT.data=.fields ts/\ts[3]?=some fl/\vs[2]?=some .none
def aZ6(o:Obj)(f:Array Value->Array Value):(o.mapFields f).dict=o.dict:=by
 obtain⟨c,d,dt,sl⟩:=o;cases dt<;>rfl
def zH{vs:Array Value}{f:Obj->Obj}(ha:h.get? a=some o)(hd:o.data=.fields vs):∀b u,h.get? b=some u->(∀ws,u.data≠.fields ws)->(h.update a f).get? b=some u:=λb u e n=>by
 rw[Cs _ _ (λz:a=b=>by rw[<-z,ha]at e;cases e;exact n vs hd)]
 exact e
section
variable {B:Heap} {l:List Env} {L e:Addr} {cls:Value} {Q:Unit->Shared->Prop}
def zU{vs:Array Value}{head:Value}{nx:Bool}(hfr:A.frames=some (env::outer))(hl:s.heap.FunFrames B (env::outer))(hf:env.frame=some L)(hB:B.StaysIn s.heap)(hn:B.get? e=none)(he:s.heap.get? e=some oe)(hd:oe.data=.fields vs)(h1:1<vs.size)(c2:vs[2]?=some .none)(hQ:∀h',Fly B (env::outer) e oe.cls oe.dict (rawInt L) h'->s.heap.UpToSlots h'->Q () {s with heap:=h'}):wpAny M A (do let a <-frameOf env;let pl <-entryPlaceOf L nx;let b <-EntryCells.newEntry head a .none (rawInt L) .none pl;setField (.ref e) 1 b) Q E s:=by
 have ne:e∉(env::outer).filterMap (·.frame):=λhm=>by
  obtain⟨_,o,ho,nf⟩:=hl.mem hm;rw[he]at ho;cases ho;exact nf vs hd
 refine Ae (wpAny_frameOf_fun hfr hl hf λg1 so=>Ae (wpAny_entryPlaceOf λpl hpl=>?_));have e1:g1.get? e=some oe:=(so.2.1 e ne).trans he
 have b1:B.StaysIn g1:=λb o q=>(so.2.1 b λhm=>by rw[(hl.mem hm).1]at q;cases q).trans (hB b o q)
 unfold EntryCells.newEntry newFields;refine Ae (Gy ?_ (hpl.sizeOk5 _ _ _ _ _));generalize hts:(([head,.ref L,.none,rawInt L,.none]++(if pl.isEmpty then List.replicate 6 Value.none else pl):List Value)).toArray=ts
 have t3:ts[3]?=some (rawInt L):=by rw[<-hts];simp
 have e2:=Ah (h:=g1) ⟨.type "traceback",none,.fields ts,#[]⟩ e1
 refine wpAny_setField e2 hd h1 (hQ _ ?_ ?_)
 ·have te:g1.objs.size≠e:=Fz (Au e1)
  have dm:=Obj.data_mapFields hd (·.setIfInBounds 1 (Value.ref g1.objs.size))
  refine⟨λb o q=>?_,hn,hl.of_keeps λb o q nf=>?_,_,_,g1.objs.size,⟨.type "traceback",none,.fields ts,#[]⟩,ts,Heap.get?_update_self _ e2 (Obj.isFreed_of_fields dm),⟨Obj.cls_mapFields _ _,aZ6 _ _⟩,dm,by simp[h1],b1.fresh,te,?_,rfl,t3,(Array.getElem?_setIfInBounds_ne (by decide)).trans c2⟩
  ·rw[Cs _ _ (λz:e=b=>by rw[<-z,hn]at q;cases q)]
   exact Ah _ (b1 b o q)
  ·obtain⟨sl,q1⟩:=so.2.2 b o q;exact⟨_,zH e2 hd b _ (Ah _ q1) nf,rfl⟩
  ·rw[Cs _ _ te.symm];exact Ay g1 rfl
 ·intro b o q nf;obtain⟨sl,q1⟩:=so.2.2 b o q;exact⟨sl,zH e2 hd b _ (Ah _ q1) nf⟩
def cQ2{vs:Array Value}(hfr:A.frames=some (env::outer))(hl:s.heap.FunFrames B (env::outer))(hf:env.frame=some L)(hB:B.StaysIn s.heap)(hn:B.get? e=none)(he:s.heap.get? e=some oe)(hd:oe.data=.fields vs)(h1:vs[1]?=some .none)(c2:vs[2]?=some .none)(hQ:∀h',Fly B (env::outer) e oe.cls oe.dict (rawInt L) h'->s.heap.UpToSlots h'->Q () {s with heap:=h'}):wpAny M A (noteFrame (.ref e) env) Q E s:=by
 unfold noteFrame;simp only[hf];refine Ae (wpAny_field he hd h1 ?_);rw[if_neg (show ¬((Value.none != Value.none)=true) by decide)]
 exact zU hfr hl hf hB hn he hd (Di.mp h1).1 c2 hQ
def vQ(hfr:A.frames=some (env::outer))(hf:env.frame=some L)(F:Fly B (env::outer) e cls d .none s.heap)(hQ:∀h',Fly B (env::outer) e cls d (rawInt L) h'->s.heap.UpToSlots h'->Q () {s with heap:=h'}):wpAny M A (noteFrame (.ref e) env) Q E s:=by
 obtain⟨hB,hn,hl,oe,vs,T,oT,ts,he,⟨rfl,rfl⟩,hd,h1,hT,hTe,gT,dT,t3,c2⟩:=F;unfold noteFrame;simp only[hf];refine Ae (wpAny_field he hd h1 ?_);rw[if_pos (show (Value.ref T != Value.none)=true by simp)]
 refine Ae (wpAny_field gT dT t3 ?_);rw[if_neg (show ¬((Value.none==rawInt L)=true) by simp[rawInt])]
 refine Ae (wpAny_setField gT dT (Di.mp t3).1 ?_);have keep:∀b,b≠T->(s.heap.update T (Obj.mapFields (·.setIfInBounds 3 Value.none))).get? b=s.heap.get? b:=λb hb=>Cs _ _ (Ne.symm hb)
 refine zU (s:={s with heap:=s.heap.update T (Obj.mapFields (·.setIfInBounds 3 Value.none))}) hfr (hl.of_keeps λb o q nf=>⟨o,zH gT dT b o q nf,rfl⟩) hf
  (λb o q=>(keep b λz=>by rw[z,hT]at q;cases q).trans (hB b o q)) hn ((keep e hTe.symm).trans he) hd (Di.mp h1).1 c2 λh' F' up=>hQ h' F' λb o q nf=>up b o (zH gT dT b o q nf) nf
def fP{fl:Value}(F:Fly B l e cls d fl s.heap)(hQ:∀h',Fly B l e cls d .none h'->s.heap.UpToSlots h'->Q () {s with heap:=h'}):wpAny M A (setFlight (.ref e) none) Q E s:=by
 obtain⟨hB,hn,hl,oe,vs,T,oT,ts,he,hc,hd,h1,hT,hTe,gT,dT,t3,c2⟩:=F;have z3:3<ts.size:=(Di.mp t3).1
 unfold setFlight;refine Ae (wpAny_field he hd h1 ?_);rw[if_pos (show (Value.ref T != Value.none)=true by simp)]
 refine wpAny_setField gT dT z3 (hQ _ ?_ λb o q nf=>⟨o.slots,zH gT dT b o q nf⟩);have dm:=Obj.data_mapFields dT (·.setIfInBounds 3 Value.none)
 refine⟨λb o q=>?_,hn,hl.of_keeps λb o q nf=>⟨o,zH gT dT b o q nf,rfl⟩,oe,vs,T,_,_,?_,hc,hd,h1,hT,hTe,Heap.get?_update_self _ gT (Obj.isFreed_of_fields dm),dm,by simp[z3],c2⟩
 ·rw[Cs _ _ (λz:T=b=>by rw[<-z,hT]at q;cases q)]
  exact hB b o q
 ·rw[Cs _ _ hTe];exact he
def Fly.less{fl:Value}(F:Fly B (env::outer) e cls d fl h):Fly B outer e cls d fl h:=⟨F.stays,F.new,F.frames.2.2,F.on⟩
def bQP{vs:Array Value}(hfr:A.frames=some (env::outer))(hl:s.heap.FunFrames B (env::outer))(hf:env.frame=some L)(hB:B.StaysIn s.heap)(hn:B.get? e=none)(he:s.heap.get? e=some oe)(hd:oe.data=.fields vs)(h1:vs[1]?=some .none)(c2:vs[2]?=some .none)(hQ:∀h',Fly B outer e oe.cls oe.dict .none h'->s.heap.UpToSlots h'->Q () {s with heap:=h'}):wpAny M A (leaving env (.ref e)) Q E s:=by
 unfold leaving;exact Ae (cQ2 hfr hl hf hB hn he hd h1 c2 λh1 F1 u1=>fP (s:={s with heap:=h1}) F1 λh2 F2 u2=>hQ h2 F2.less (u1.trans u2))
def cXV(hfr:A.frames=some (env::outer))(hf:env.frame=some L)(F:Fly B (env::outer) e cls d .none s.heap)(hQ:∀h',Fly B outer e cls d .none h'->s.heap.UpToSlots h'->Q () {s with heap:=h'}):wpAny M A (leaving env (.ref e)) Q E s:=by
 unfold leaving;exact Ae (vQ hfr hf F λh1 F1 u1=>fP (s:={s with heap:=h1}) F1 λh2 F2 u2=>hQ h2 F2.less (u1.trans u2))
end
structure UnB (fs:List Addr) (H H':Hp) (h B h':Heap):Prop where
 keep:∀b o,h.get? b=some o->H b=none->b∉fs->B.get? b=some o
 slot:∀b o,h.get? b=some o->H b=none->b∈fs->∃sl,h'.get? b=some {o with slots:=sl}
 free:∀b o,h.get? b=some o->H b=none->H' b=none
 there:∀b o,h.get? b=some o->b∉fs->∃o',B.get? b=some o'
 tups:∀b xs,H b=some (.tup xs)->H' b=some (.tup xs)
 frzs:∀b o u,H b=some (.frz o u)->H' b=some (.frz o u)
 tbls:∀b ps,H b=some (.tbl ps)->∃more,H' b=some (.tbl (ps++more))
def CXr(P:Program)(w:World):CXT:=λouter H s E e s'=>
 ∃(ea:Addr) (cls:Value) (d:Option Addr) (B:Heap) (H':Hp),e=.ref ea/\s'.os=s.os/\AllBare s'.gens/\Fly B outer ea cls d .none s'.heap/\HOk P w H' B/\UnB (frs outer) H H' s.heap B s'.heap/\E cls d H'
def HOk.down{B:Heap}(x:HOk P w H h)(k:∀b o u,H b=some u->h.get? b=some o->B.get? b=some o):HOk P w H B:=λa u e=>
 (x a u e).stay (λb o hb q=>by
  rcases hb with z|z
  ·subst z;exact k b o u e q
  ·exact k b o _ z q) (λ_ q=>q) λ_ _ q=>q
def ObjOk.get{o:HO}(x:ObjOk P w H h a o):∃ob,h.get? a=some ob:=by
 cases o with
 |lst xs=>obtain⟨_,_,_,_,e⟩:=x;exact⟨_,e⟩
 |tup xs=>obtain⟨_,_,_,ob,e,_⟩:=x;exact⟨_,e⟩
 |dK kvs=>obtain⟨_,_,_,_,ob,_,_,e,_⟩:=x;exact⟨_,e⟩
 |dT kvs=>obtain⟨_,_,_,_,ob,_,_,e,_⟩:=x;exact⟨_,e⟩
 |set S n=>obtain⟨ob,_,_,_,e,_⟩:=x;exact⟨_,e⟩
 |ins C dx fs=>obtain⟨_,_,_,e,_⟩:=x;exact⟨_,e⟩
 |own y=>exact x
 |xd fs=>obtain⟨_,⟨od,_,_,e,_⟩,_⟩:=x;exact⟨_,e⟩
 |rng lo hi=>obtain⟨_,_,_,e⟩:=x;exact⟨_,e⟩
 |frz ob u=>exact⟨_,x.1⟩
 |tbl ps=>exact⟨_,x⟩
 |met f y=>exact⟨_,x⟩
 |ext φ=>exact x.2.1
def HOk.hole(x:HOk P w H h)(e:h.get? a=none):H a=none:=by
 cases q:H a with
 |none=>rfl
 |some o=>
  obtain⟨ob,z⟩:=(x a o q).get;rw[e]at z;cases z
def jD{L:Addr}(hf:env.frame=some L)(h1:b≠L)(h2:b∉frs outer):b∉frs (env::outer):=λhm=>by
 obtain⟨e,he,q⟩:=Dg.mp hm;rcases Bb.mp he with z|z
 ·subst z;rw[hf]at q;exact h1 (Bo q).symm
 ·exact h2 (Dg.mpr ⟨e,z,q⟩)
section
variable {cd:Value} {s₀:Shared} {H₀:Hp} {E:XK}
def aX6{vs:Array Value}(I:Inv (iB (CXr P w) P w K mg base N qual scope f cd A outer s₀ H₀ E) y3 σ H s)(he:s.heap.get? ea=some oe)(hd:oe.data=.fields vs)(h1:vs[1]?=some .none)(c2:vs[2]?=some .none)(hn:H ea=none)(h0:s₀.heap.get? ea=none)(q:E oe.cls oe.dict H):(iB (CXr P w) P w K mg base N qual scope f cd A outer s₀ H₀ E).xe (.ref ea) s:=by
 have hfr:=I.ok.frames
 have hst:=I.stack
 have hsf:=I.stkFree
 have hbase:=I.base
 have hlo:∀b o,s₀.heap.get? b=some o->b≠s₀.heap.objs.size:=λb o e=>Bl (Au e)
 have nea:∀b o,s₀.heap.get? b=some o->b≠ea:=λb o e z=>by rw[z,h0]at e;cases e
 have hid:∀b o,s.heap.get? b=some o->b≠ea->b∉frs (envOfC qual scope s₀.heap.objs.size f cd::outer)->(W.hideAll s.heap (ea::frs (envOfC qual scope s₀.heap.objs.size f cd::outer))).get? b=some o:=λb o e n1 n2=>
  W.hideAll_get _ e λhm=>(Bb.mp hm).elim n1 n2
 refine bQP (B:=W.hideAll s.heap (ea::frs (envOfC qual scope s₀.heap.objs.size f cd::outer))) hfr (W.funFrames_hide hst λenv he b hb=>Ak _ (Dg.mpr ⟨env,he,hb⟩)) rfl (λb o q=>W.of_hideAll _ q)
  (W.hideAll_none _ Aj) he hd h1 c2 λh2 fl up=>?_
 refine⟨ea,_,_,_,H,rfl,I.os,I.bare,fl,I.hok.down λb o u e g=>hid b o g (λz=>by rw[z,hn]at e;cases e) λhm=>?_,⟨λb o e n hb=>?_,λb o e n hb=>?_,λb o e n=>hbase.free b o e n (by simp[iB]),λb o e hb=>?_,hbase.tups,hbase.frzs,hbase.tbls⟩,q⟩
 ·rw[hsf b hm]at e;cases e
 ·exact hid b o (hbase.keep b o e n hb (by simp[iB])) (nea b o e) (jD rfl (hlo b o e) hb)
 ·obtain⟨sl,q1⟩:=hbase.slot b o e n hb (by simp[iB])
  obtain⟨_,o2,g2,nf⟩:=I.ok.funs.mem hb;have e2:s₀.heap.get? b=some o2:=g2
  rw[e]at e2;cases e2;obtain⟨sl2,q2⟩:=up b _ q1 nf;exact⟨sl2,q2⟩
 ·obtain⟨o',q1⟩:=hbase.there b o e (by simp[iB])
  exact⟨o',hid b o' q1 (nea b o e) (jD rfl (hlo b o e) hb)⟩
def bW:kF (CXr P w) (iB (CXr P w) P w K mg base N qual scope f cd A outer s₀ H₀ E) E:=by
 intro y3 σ H s e s' I h;obtain⟨ea,cls,d,B,H',rfl,os,bare,fl,hok,un,q⟩:=h;have hbase:=I.base
 have hlo:∀b o,s₀.heap.get? b=some o->b≠s₀.heap.objs.size:=λb o e=>Bl (Au e)
 refine cXV I.ok.frames rfl fl λh2 fl2 up=>?_;have ns:∀b o,s₀.heap.get? b=some o->b∉frs outer->b∉frs (envOfC qual scope s₀.heap.objs.size f cd::outer):=λb o e hb=>jD rfl (hlo b o e) hb
 have ins:∀b,b∈frs outer->b∈frs (envOfC qual scope s₀.heap.objs.size f cd::outer):=λb hb=>by
  obtain⟨e,he,q⟩:=Dg.mp hb;exact Dg.mpr ⟨e,Ak _ he,q⟩
 refine⟨ea,cls,d,B,H',rfl,os.trans I.os,bare,fl2,hok,⟨λb o e n hb=>?_,λb o e n hb=>?_,λb o e n=>?_,λb o e hb=>?_,λb xs e=>un.tups b xs (hbase.tups b xs e),λb o u e=>un.frzs b o u (hbase.frzs b o u e),λb ps e=>?_⟩,q⟩
 ·exact un.keep b o (hbase.keep b o e n hb (by simp[iB])) (hbase.free b o e n (by simp[iB])) (ns b o e hb)
 ·obtain⟨sl,q1⟩:=hbase.slot b o e n hb (by simp[iB])
  obtain⟨sl1,q2⟩:=un.slot b _ q1 (hbase.free b o e n (by simp[iB])) (ins b hb)
  obtain⟨_,o2,g2,nf⟩:=I.ok.funs.mem hb;have e2:s₀.heap.get? b=some o2:=g2
  rw[e]at e2;cases e2;obtain⟨sl2,q3⟩:=up b _ q2 nf;exact⟨sl2,q3⟩
 ·obtain⟨o',q1⟩:=hbase.there b o e (by simp[iB])
  exact un.free b o' q1 (hbase.free b o e n (by simp[iB]))
 ·obtain⟨o',q1⟩:=hbase.there b o e (by simp[iB])
  exact un.there b o' q1 (ns b o e hb)
 ·obtain⟨m1,e1⟩:=hbase.tbls b ps e;obtain⟨m2,e2⟩:=un.tbls b _ e1;exact⟨m1++m2,by rw[e2,Array.append_assoc]⟩
end
def dJV(X:K.In h)(q:W.excIn K C bmB newId=true):∃bm N nm qn bs hd sn sub ab col dd k0 k1 k2 k3 k5 mN,h.get? C=some (excClassObj nm qn C N bs bm hd sn sub ab col dd k0 k1 k2 k3 k5 newId)/\h.Ns N mN/\mN "__init__"=none/\OwnTail h bmB bm:=by
 unfold W.excIn at q;split at q
 ·rename_i dd c sl ho
  split at q
  ·rename_i C1 bm k0 k1 k2 k3 n k5 hm hs
   obtain⟨⟨⟨⟨⟨q1,q2⟩,q3⟩,q4⟩,q5⟩,q6⟩:((((C1=C/\n=newId)/\c.hasDel=false)/\W.tailIn K bmB bm=true)/\W.nsOkIn K c.ns=true)/\W.nsIn K c.ns "__init__"=some none:=by
    simpa only[Bool.and_eq_true,beq_iff_eq,Bool.not_eq_true']using q
   subst q1 q2;obtain⟨nm,bs,mro,ns,qn,hd,sn,sub,ab,col,del⟩:=c;dsimp only at hm q3 q5 q6;subst hm q3;obtain rfl:sl=#[k0,k1,k2,k3,some (.builtin n),k5]:=by
    obtain⟨l⟩:=sl;have hs':l=_:=hs
    rw[hs']
   exact⟨bm,ns,nm,qn,bs,hd,sn,sub,ab,col,dd,k0,k1,k2,k3,k5,_,X _ _ ho,.of_isNs (W.isNs_of_in X q5),W.nsMap_none_of_in X q5 q6,W.tail_of_in X q4⟩
  ·cases q
 ·cases q
def eZN(X:Cx)(E:XK):Prop:=∀(y3:List (Addr×Obj)) (σ:St) (H:Hp) (s:Shared) (ea:Addr) (oe:Obj) (vs:Array Value),Inv X y3 σ H s->s.heap.get? ea=some oe->oe.data=.fields vs->vs[1]?=some .none->vs[2]?=some .none->H ea=none->X.s₀.heap.get? ea=none->
 E oe.cls oe.dict H->X.xe (.ref ea) s
def eJ{cd:Value}{s₀:Shared}{H₀:Hp}{E:XK}:eZN (iB (CXr P w) P w K mg base N qual scope f cd A outer s₀ H₀ E) E:=λ_ _ _ _ _ _ _ I he hd h1 c2 hn h0 q=>aX6 I he hd h1 c2 hn h0 q
section
variable {E:XK} {B initId:String}
def cZQ(C:Addr)(E:XK)(ta:TA):TS:=λ_ σ H=>ta σ H λvs H1=>vs.length<=sizeLine/\E (.ref C) none H1
def gU(hR:eZN X E)(hex:X.ex=[])(hc:X.calm=true)(hg:Gl X x)(hm:X.mg x=some (.ref C))(hx:W.excIn X.K C bmB newId=true)(FB:ExcBaseFacts B newId initId bmB)(ha:PA X (e::es) ta)(hd:(x==("__debug__" : Str))=false:=by decide)(he:starEach (e::es) X.env=(false,eval e X.env)::starEach es X.env:=by rfl)(hpl:(backTo cpos (starEach es X.env)).any (·.1)=false:=by rfl):PS X (.Raise (some (.Call (.Name x np) (e::es) [] cpos)) none pos) (cZQ C E ta):=by
 intro y3 s σ H D I h;obtain⟨bm,N,nm,q,bs,hdct,sn,sub,ab,col,dd,k0,k1,k2,k3,k5,mN,hC,hN,hni,T⟩:=dJV I.ok.mod.kin hx;refine wpAny_Raise_call_subT (C:=C) (N:=N) (bm:=bm) (nm:=nm) (q:=q) (bs:=bs) (hdct:=hdct) (sn:=sn) (sub:=sub) (ab:=ab) (col:=col) (dd:=dd) (k0:=k0) (k1:=k1) (k2:=k2) (k3:=k3) (k5:=k5)
  FB (mN:=mN) (T.hasType FB.hasBase) (I.ok.hd hc) (by rw[he];show (false || (backTo cpos (starEach es X.env)).any (·.1))=false;rw[hpl];rfl) hni (fS I hg hm ⟨rfl,?_⟩ hd)
 have h1:=ha cpos y3 s σ H _ I h
 rw[he]at h1 ⊢;refine Fw (thn h1 λus s2 ⟨vs,H2,I2,r,q2⟩=>⟨rfl,?_,I2.bk _ _ hC,hN.keeps I2.bk,T.keeps I2.bk,λh' ea hx=>?_⟩)
 ·show us.length<=sizeLine
  rw[<-r.length];exact q2.1
 ·obtain⟨t,g,_,_⟩:=hx.there;refine hR y3 σ H2 {s2 with heap:=h'} ea _ _ (I2.kept (t':=s2.toks) hx.keeps) g rfl rfl rfl (I2.hok.hole hx.new) ?_ q2.2
  cases z:X.s₀.heap.get? ea with
  |none=>rfl
  |some o=>
   obtain⟨o',z'⟩:=I2.base.there ea o z (by rw[hex];simp)
   rw[hx.new]at z';cases z'
end
abbrev Cx.tr(X:Cx)(y3:List (Addr×Obj))(xe:Value->Shared->Prop):Cx:={X with pn:=X.pn++y3,xe:=xe}
abbrev Cx.hnd(X:Cx)(y3:List (Addr×Obj))(ea:Addr):Cx:={X with A:=X.A.mark (some (.ref ea)),calm:=false,pn:=X.pn++y3,xe:=λ_ _=>False}
section
variable {pins':Q2} {xe:Q0}
def Inv.tr(I:Inv X y3 σ H s)(xe:Q0):Inv (X.tr y3 xe) [] σ H s:=
 ⟨⟨I.ok.mod,I.ok.kind,I.ok.glob,I.ok.blt,I.ok.above,I.ok.inj,I.ok.has,I.ok.cab,I.ok.hd,I.ok.frames,I.ok.stk,I.ok.exf,I.ok.bs,I.ok.bsz,I.ok.noex,I.ok.exfs,I.ok.funs,I.ok.frf⟩,I.os,I.bare,I.base,I.loc,I.cell,I.free,I.freeC,
  λp hp=>I.pin p (by rwa [Bj]at hp),I.hok,I.len⟩
def Inv.untr(I:Inv (X.tr y3 xe) pins' σ H s):Inv X y3 σ H s:=
 ⟨⟨I.ok.mod,I.ok.kind,I.ok.glob,I.ok.blt,I.ok.above,I.ok.inj,I.ok.has,I.ok.cab,I.ok.hd,I.ok.frames,I.ok.stk,I.ok.exf,I.ok.bs,I.ok.bsz,I.ok.noex,I.ok.exfs,I.ok.funs,I.ok.frf⟩,I.os,I.bare,I.base,I.loc,I.cell,I.free,I.freeC,
  λp hp=>I.pin p (Co _ hp),I.hok,I.len⟩
def Inv.hnd(I:Inv X y3 σ H s)(ea:Addr):Inv (X.hnd y3 ea) [] σ H s:=
 ⟨⟨I.ok.mod,I.ok.kind,I.ok.glob,I.ok.blt,I.ok.above,I.ok.inj,I.ok.has,I.ok.cab,(λz=>nomatch z),I.ok.frames,I.ok.stk,I.ok.exf,I.ok.bs,I.ok.bsz,I.ok.noex,I.ok.exfs,I.ok.funs,I.ok.frf⟩,I.os,I.bare,I.base,I.loc,I.cell,I.free,I.freeC,
  λp hp=>I.pin p (by rwa [Bj]at hp),I.hok,I.len⟩
def Inv.unhnd(I:Inv (X.hnd y3 ea) pins' σ H s)(ok:X.Ok):Inv X y3 σ H s:=
 ⟨ok,I.os,I.bare,I.base,I.loc,I.cell,I.free,I.freeC,λp hp=>I.pin p (Co _ hp),I.hok,I.len⟩
structure Fre (X:Cx) (y3:List (Addr×Obj)) (a:Addr):Prop where
 s0:X.s₀.heap.get? a=none
 loc:a≠X.env.locals
 cell:∀x c,X.env.cells.lookup x=some c->c≠a
 pin:∀p∈X.pn++y3,p.1≠a
def Inv.adopt{a:Addr}{o:HO}(I:Inv X y3 σ H s)(f:Fre X y3 a)(hn:H a=none)(new:ObjOk X.prog X.w (upd H a o) s.heap a o):Inv X y3 σ (upd H a o) s:=by
 have ne:∀b u,H b=some u->b≠a:=λb u e=>bM e hn
 refine⟨I.ok,I.os,I.bare,⟨I.base.keep,I.base.slot,λb u e n hx=>?_,I.base.there,λb xs e=>?_,λb u v e=>?_,λb ps e=>?_⟩,I.loc,I.cell,by rw[aM f.loc.symm];exact I.free,λx c e=>by rw[aM (f.cell x c e)];exact I.freeC x c e,λp hp=>?_,λb u e=>?_,I.len⟩
 ·rw[aM (λz=>by rw[z,f.s0]at e;cases e)]
  exact I.base.free b u e n hx
 ·have q:=I.base.tups b xs e
  rw[aM (ne b _ q)];exact q
 ·have q:=I.base.frzs b u v e
  rw[aM (ne b _ q)];exact q
 ·obtain⟨m,q⟩:=I.base.tbls b ps e;exact⟨m,by rw[aM (ne b _ q)];exact q⟩
 ·obtain⟨h1,h2,h3⟩:=I.pin p hp;exact⟨h1,by rw[aM (f.pin p hp)];exact h2,h3⟩
 ·by_cases hb:b=a
  ·subst hb;rw[aH]at e;cases e;exact new
  ·rw[aM hb]at e;exact(I.hok b u e).stay (λc v _ q=>q) (λc q=>by rw[aM (ne c _ q)];exact q) λc xs q=>by rw[aM (ne c _ q)];exact q
def Inv.unname{n:Str}{m:Q4}{v:Option Value}{t:Nat}(I:Inv X y3 σ H s)(hN:X.N.Nodup)(hi:X.N[i]?=some n)(hm:s.heap.Ns X.env.locals m)(hl:X.env.scope.names.lookup n=some .local)(hn:h'.Ns X.env.locals (λx=>if x=n then v else m x))(sb:Heap.SameBut X.env.locals s.heap h'):Inv X y3 (σ.set i none) H {s with heap:=h',toks:=t}:=by
 have k:∀b o,b≠X.env.locals->s.heap.get? b=some o->h'.get? b=some o:=λb o hb e=>(sb.2 b hb).trans e
 have nl:∀b o,X.s₀.heap.get? b=some o->b≠X.env.locals:=λb o e=>Bl (Bf (Au e) I.ok.above)
 have there:∀b o,s.heap.get? b=some o->∃o',h'.get? b=some o':=λb o e=>by
  by_cases hb:b=X.env.locals
  ·obtain⟨o',_,_,q,_⟩:=hn;exact⟨o',by rw[hb];exact q⟩
  ·exact⟨o,k b o hb e⟩
 obtain⟨m1,hm1,hl1⟩:=id I.loc;refine⟨I.ok,I.os,I.bare,⟨λb o e n hb hx=>k b o (nl b o e) (I.base.keep b o e n hb hx),λb o e n hb hx=>?_,I.base.free,λb o e hx=>?_,I.base.tups,I.base.frzs,I.base.tbls⟩,⟨_,hn,λj y u e1 e2 e3=>?_⟩,λx c e=>?_,I.free,I.freeC,λp hp=>?_,λb u e=>?_,by rw[Dc];exact I.len⟩
 ·obtain⟨sl,q⟩:=I.base.slot b o e n hb hx;exact⟨sl,k b _ (nl b o e) q⟩
 ·obtain⟨o',q⟩:=I.base.there b o e hx;exact there b o' q
 ·have hji:j≠i:=λz=>by
   subst z;rw[Dj (by rw[I.len];exact(Ac.mp hi).1)]at e2
   cases e2
  rw[Dr (Ne.symm hji)]at e2;have hyn:y≠n:=λz=>hji (wA hN e1 (by rw[z];exact hi))
  obtain⟨u',r,look⟩:=hl1 j y u e1 e2 e3;have em:m1=m:=by
   obtain⟨o1,es1,ep1,g1,d1,_,f1⟩:=hm1;obtain⟨o2,es2,ep2,g2,d2,_,f2⟩:=hm;rw[g1]at g2;cases g2;rw[d1]at d2;cases d2;funext z
   rw[<-f1 z,f2 z]
  refine⟨u',r,?_⟩;rcases look with⟨z1,z2⟩|⟨z1,c,z2,o,z3,z4⟩
  ·exact .inl ⟨z1,by show (if y=n then v else m y)=_;rw[if_neg hyn,<-em];exact z2⟩
  ·exact .inr ⟨z1,c,z2,o,k c o (I.cne y c z2) z3,z4⟩
 ·obtain⟨v',o,z1,z2⟩:=I.cell x c e;exact⟨v',o,k c o (I.cne x c e) z1,z2⟩
 ·obtain⟨h1,h2,h3,h4⟩:=I.pin p hp;exact⟨k _ _ h3 h1,h2,h3,h4⟩
 ·refine(I.hok b u e).stay (λc o hc q=>k c o (λz=>?_) q) (λ_ q=>q) λ_ _ q=>q;have fr:=I.free
  rcases hc with z1|z1
  ·rw[<-z1,z,fr]at e;cases e
  ·rw[z,fr]at z1;cases z1
end
def jU(ea:Addr)(cls:Value)(d:Option Addr):HO:=.ext λh=>∃oe vs,h.get? ea=some oe/\oe.cls=cls/\oe.dict=d/\oe.data=.fields vs
def Fly.obj{B:Heap}{l:List Env}{cls fl:Value}(F:Fly B l ea cls d fl h):ObjOk P w H h ea (jU ea cls d):=by
 obtain⟨oe,vs,T,oT,ts,he,hc,hd,_⟩:=F.on;exact⟨⟨oe,vs,he,hc.1,hc.2,hd⟩,⟨oe,he⟩,λh1 h2 ⟨o,ws,g,q⟩ k=>⟨o,ws,k o g,q⟩⟩
def XS(X:Cx)(y3:List (Addr×Obj))(R:Value->Option Addr->St->Hp->Prop):Value->Shared->Prop:=λe s1=>
 ∃ea cls d B σ1 H1,e=.ref ea/\Fly B X.stack ea cls d .none s1.heap/\Fre X y3 ea/\H1 ea=none/\(∀h2,B.StaysIn h2->s1.heap.UpToSlots h2->Inv X y3 σ1 H1 {s1 with heap:=h2})/\R cls d σ1 H1
def aQC(CX:CXT)(X:Cx)(Es:St->XK):Prop:=∀(y3:List (Addr×Obj)) (σ:St) (H:Hp) (s:Shared) (e:Value) (s':Shared),Inv X y3 σ H s->CX X.stack H s (Es σ) e s'->X.xe e s'
def pH{R:Value->Option Addr->St->Hp->Prop}(hex:X.ex=[]):aQC (CXr X.prog X.w) (X.tr y3 (XS X y3 R)) (λσ cls d H1=>R cls d σ H1):=by
 intro pins' σ H s e s1 I' h;obtain⟨ea,cls,d,B,H1,rfl,os,bare,F,hok,un,q⟩:=h;have I:Inv X y3 σ H s:=I'.untr
 have F:Fly B X.stack ea cls d .none s1.heap:=F
 have un:UnB (frs X.stack) H H1 s.heap B s1.heap:=un
 have nfs:ea∉frs X.stack:=λhm=>by
  obtain⟨_,o,g,nf⟩:=F.frames.mem hm;obtain⟨oe,vs,T,oT,ts,he,hc,hd,_⟩:=F.on;rw[g]at he;cases he;exact nf vs hd
 have ne:∀b o,s.heap.get? b=some o->b≠ea:=λb o g z=>by
  subst z;obtain⟨o',g'⟩:=un.there b o g nfs;rw[F.new]at g';cases g'
 refine⟨ea,cls,d,B,σ,H1,rfl,F,⟨?_,?_,λx c z=>?_,λp hp=>?_⟩,hok.hole F.new,λh2 st up=>?_,q⟩
 ·cases z:X.s₀.heap.get? ea with
  |none=>rfl
  |some o=>
   obtain⟨o',z'⟩:=I.base.there ea o z (by rw[hex];simp)
   exact absurd rfl (ne ea o' z')
 ·obtain⟨m,⟨o,_,_,g,_⟩,_⟩:=I.loc;exact(ne _ o g).symm
 ·obtain⟨v,o,g,_⟩:=I.cell x c z;exact ne c o g
 ·exact ne p.1 p.2 (I.pin p hp).1
 ·have slot:∀ b o,s.heap.get? b=some o->b∈frs X.stack->∃ sl,h2.get? b=some { o with slots:=sl }:=λb o g hb=>by
   obtain⟨sl,g1⟩:=un.slot b o g (I.stkFree b hb) hb;obtain⟨_,o2,g2,nf⟩:=I.stack.mem hb;rw[g]at g2;cases g2;obtain⟨sl2,g3⟩:=up b _ g1 nf;exact⟨sl2,g3⟩
  refine I.call' (s':={s1 with heap:=h2}) (ch:=[]) os ⟨λb o g n hb _=>st b o (un.keep b o g n hb),λb o g n hb _=>slot b o g hb,λb o g n _=>un.free b o g n,λb o g _=>?_,un.tups,un.frzs,un.tbls⟩ (hok.kept λb o g=>st b o g) bare λb hb=>absurd hb (by simp)
  by_cases hb:b∈frs X.stack
  ·obtain⟨sl,g1⟩:=slot b o g hb;exact⟨_,g1⟩
  ·obtain⟨o',g1⟩:=un.there b o g hb;exact⟨o',st b o' g1⟩
section
variable {CX:CXT} {ps:List Str} {p:Pos}
def bXO(sp:Sp)(Es:St->XK)(t:TA):TE:=λσ H Q=>t σ H λvs H1=>sp vs H1 Q (Es σ)
def dXY(F:FnOk X.prog X.w X.K X.mg X.base CX k f fd ps sp)(hr:Room k X.A)(hg:Gl X x)(hm:X.mg x=some (.ref f))(hk:W.keepIn X.K (.ref f)=true)(hb:Binds X.K fd ps [])(hx:aQC CX X Es)(ha:PA X (e::es) t)(hdb:(x==("__debug__" : Str))=false:=by decide)(he:starEach (e::es) X.env=(false,eval e X.env)::starEach es X.env:=by rfl)(hpl:(backTo pos (starEach es X.env)).any (·.1)=false:=by rfl):PE X (.Call (.Name x p) (e::es) [] pos) (bXO sp Es t):=by
 intro y3 s σ H Q I h;refine Dh (fS I hg hm ?_ hdb);refine Er (h₀:=X.base) I.ok.mod.kin hk (thn (ha pos y3 s σ H _ I h) λus s1 ⟨vs,H1,I1,r,q⟩=>⟨I1.kIn,?_⟩) he hpl;have hl:us.length=ps.length:=by rw[<-r.length];exact F.len _ _ _ _ q
 have hb1:=hb s1 us I1.kIn (by rw[Bj];exact hl)
 rw[Bj]at hb1;refine Ep (Ei (F.run X.A X.stack s1 H1 ⟨us,[]⟩ us vs Q (Es σ) hr I1.env0 hb1 r q) λrs s' hq=>?_);cases rs with
 |error e=>exact hx y3 σ H1 s1 e s' I1 hq
 |ok fl=>
  cases fl with
  |ret u=>exact I1.after hq
  |next=>exact False.elim hq
  |brk=>exact False.elim hq
  |cont=>exact False.elim hq
end
def fJK(K:W.Frag)(C:Addr)(i:Nat)(mk:(Value->Option Addr->St->Hp->Prop)->TS)(ts:TS):TS:=λD σ H=>
 mk (λcls d σ1 H1=>W.exmOne K cls (.ref C)=some true/\∀ea,H1 ea=none->
  ts {nx:=λσ2 H2=>D.nx (σ2.set i none) H2,rt:=D.rt,bk:=λσ2 H2=>D.bk (σ2.set i none) H2,ct:=λσ2 H2=>D.ct (σ2.set i none) H2} (σ1.set i (some (.ref ea))) (upd H1 ea (jU ea cls d))) D σ H
def SP.untr{xe:Q0}{f:Flow}{s':Shared}(h:SP (X.tr y3 xe) [] D f s'):SP X y3 D f s':=by
 cases f with
 |next=>obtain⟨σ',H',I,q⟩:=h;exact⟨σ',H',I.untr,q⟩
 |brk=>obtain⟨σ',H',I,q⟩:=h;exact⟨σ',H',I.untr,q⟩
 |cont=>obtain⟨σ',H',I,q⟩:=h;exact⟨σ',H',I.untr,q⟩
 |ret u=>obtain⟨v,σ',H',I,r,q⟩:=h;exact⟨v,σ',H',I.untr,r,q⟩
def cJI{suite:List Stmt}{b0:Stmt}{n:Str}{hp:Pos}{i:Nat}(hstk:X.stack=X.env::X.outer)(hfm:X.env.frame=some X.env.locals)(hex:X.ex=[])(hN:X.N.Nodup)(hi:X.N[i]?=some n)(hl:X.env.scope.names.lookup n=some .local)(hg:Gl X x)(hm:X.mg x=some (.ref C))(hb:∀y3 R,PSs (X.tr y3 (XS X y3 R)) body (mk R))(hs:∀y3 ea,PSs (X.hnd y3 ea) (b0::suite) ts)(hd:(x==("__debug__" : Str))=false:=by decide):PS X (.Try body [.ExceptHandler (some (.Name x np)) (some n) (b0::suite) hp] [] [] pos) (fJK X.K C i mk ts):=by
 intro y3 s σ H D I h;have hfr:X.A.frames=some (X.env::X.outer):=by rw[<-hstk];exact I.ok.frames
 have hcls:(X.env.scope.kind == .class || (X.env.scope.kind == .module&&X.env.locals != X.env.globals))=false:=by rw[I.ok.kind];rfl
 refine wpAny_Try_except (Cq (hb y3 _ [] s σ H D (I.tr _) h) (λf s1 q=>?_) λe s1 q=>?_)
 ·cases f with
  |next=>
   obtain⟨σ',H',I',q⟩:=q.untr;exact bH y3 s1 σ' H' D I' q
  |brk=>exact q.untr
  |cont=>exact q.untr
  |ret u=>exact q.untr
 ·obtain⟨ea,cls,d,B,σ1,H1,rfl,F,fre,hn,inv,hx,r⟩:=q;rw[hstk]at F;refine vQ hfr hfm F λh2 F2 u2=>fP (s:={s1 with heap:=h2}) F2 λh3 F3 u3=>?_
  have I3:=inv h3 F3.stays (u2.trans u3)
  refine wpAny_handleBy_cons (codeAny_handlers_test (fS (I3.hnd ea) hg hm ?_ hd)) (by intro q;cases q)
  obtain⟨oe,vs,T,oT,tts,he,hc,_⟩:=id F3.on;refine W.exm_one I3.kIn (hc.1▸(W.Looks.ld he).andThen .now) hx _ _ _ _ (λ_ _ q=>q) ?_;refine codeAny_handlers_suite_as (fP (s:={s1 with heap:=h3}) F3 λh4 F4 u4=>?_)
  have I4:=(inv h4 F4.stays ((u2.trans u3).trans u4)).adopt (o:=jU ea cls d) fre hn F4.obj
  refine wZ I4 hN hi (.inl hl) (v:=.ref ea) rfl (λs5 I5=>?_) (.inr hl);refine Cq (hs y3 ea [] s5 _ _ _ (I5.hnd ea) (r ea hn)) (λf s6 q=>?_) λ_ _ z=>z.elim;have go:∀ {σ2:St} {H2:Hp} {Q:Unit->Shared->Prop} {E:Q0},Inv (X.hnd y3 ea) [] σ2 H2 s6->(∀ s7,Inv X y3 (σ2.set i none) H2 s7->Q () s7)->
      wpAny (model X.prog X.w) X.A (do bindName X.env n .none;unbindBehindTheSuite X.env n hp) Q E s6:=fun {σ2 H2 Q E} I6 k=>by
   have I6':=I6.unhnd I.ok
   obtain⟨m,hm6,_⟩:=id I6'.loc;exact wpAny_nameGoes_keeps hl hm6 hcls λh7 v hn7 sb=>k _ (I6'.unname hN hi hm6 hl hn7 sb)
  cases f with
  |next=>
   obtain⟨σ2,H2,I6,q⟩:=q;exact go I6 λs7 I7=>⟨_,H2,I7,q⟩
  |brk=>
   obtain⟨σ2,H2,I6,q⟩:=q;exact go I6 λs7 I7=>⟨_,H2,I7,q⟩
  |cont=>
   obtain⟨σ2,H2,I6,q⟩:=q;exact go I6 λs7 I7=>⟨_,H2,I7,q⟩
  |ret u=>
   obtain⟨v,σ2,H2,I6,rv,q⟩:=q;exact go I6 λs7 I7=>⟨v,_,H2,I7,rv,q⟩
def SP.unhnd{f:Flow}{s':Shared}(ok:X.Ok)(h:SP (X.hnd y3 ea) [] D f s'):SP X y3 D f s':=by
 cases f with
 |next=>obtain⟨σ',H',I,q⟩:=h;exact⟨σ',H',I.unhnd ok,q⟩
 |brk=>obtain⟨σ',H',I,q⟩:=h;exact⟨σ',H',I.unhnd ok,q⟩
 |cont=>obtain⟨σ',H',I,q⟩:=h;exact⟨σ',H',I.unhnd ok,q⟩
 |ret u=>obtain⟨v,σ',H',I,r,q⟩:=h;exact⟨v,σ',H',I.unhnd ok,r,q⟩
def eXD(K:W.Frag)(C:Addr)(mk:(Value->Option Addr->St->Hp->Prop)->TS)(ts:TS):TS:=λD σ H=>mk (λcls d σ1 H1=>W.exmOne K cls (.ref C)=some true/\ts D σ1 H1) D σ H
def eQC{suite:List Stmt}{b0:Stmt}{hp:Pos}(hstk:X.stack=X.env::X.outer)(hfm:X.env.frame=some X.env.locals)(hex:X.ex=[])(hg:Gl X x)(hm:X.mg x=some (.ref C))(hb:∀y3 R,PSs (X.tr y3 (XS X y3 R)) body (mk R))(hs:∀y3 ea,PSs (X.hnd y3 ea) (b0::suite) ts)(hd:(x==("__debug__" : Str))=false:=by decide):PS X (.Try body [.ExceptHandler (some (.Name x np)) none (b0::suite) hp] [] [] pos) (eXD X.K C mk ts):=by
 intro y3 s σ H D I h;have hfr:X.A.frames=some (X.env::X.outer):=by rw[<-hstk];exact I.ok.frames
 refine wpAny_Try_except (Cq (hb y3 _ [] s σ H D (I.tr _) h) (λf s1 q=>?_) λe s1 q=>?_)
 ·cases f with
  |next=>
   obtain⟨σ',H',I',q⟩:=q.untr;exact bH y3 s1 σ' H' D I' q
  |brk=>exact q.untr
  |cont=>exact q.untr
  |ret u=>exact q.untr
 ·obtain⟨ea,cls,d,B,σ1,H1,rfl,F,fre,hn,inv,hx,r⟩:=q;rw[hstk]at F;refine vQ hfr hfm F λh2 F2 u2=>fP (s:={s1 with heap:=h2}) F2 λh3 F3 u3=>?_
  have I3:=inv h3 F3.stays (u2.trans u3)
  refine wpAny_handleBy_cons (codeAny_handlers_test (fS (I3.hnd ea) hg hm ?_ hd)) (by intro q;cases q)
  obtain⟨oe,vs,T,oT,tts,he,hc,_⟩:=id F3.on;refine W.exm_one I3.kIn (hc.1▸(W.Looks.ld he).andThen .now) hx _ _ _ _ (λ_ _ q=>q) ?_;refine codeAny_handlers_suite (fP (s:={s1 with heap:=h3}) F3 λh4 F4 u4=>?_)
  have I4:=inv h4 F4.stays ((u2.trans u3).trans u4)
  exact Cq (hs y3 ea [] _ _ _ _ (I4.hnd ea) r) (λf s6 q=>q.unhnd I.ok) λ_ _ z=>z.elim
def fQB(h:mk (λcls d σ1 H1=>W.exmOne K cls (.ref C)=some true/\ts D σ1 H1) D σ H):eXD K C mk ts D σ H:=h
section
open PySem.W
structure ExK (K:Frag) (D:Addr):Prop where
 cls:hasDictIn K D=true
 ga:findIn K (.ref D) "__getattribute__"=some (some (.builtin "BaseException.__getattribute__"))
 gh:findIn K (.ref D) "__getattr__"=some none
 ca:findIn K (.ref D) "__class__"=some (some (.builtin "object.__class__"))
 cg:specialIn K (.builtin "object.__class__") "__get__"=some (some (.builtin "getset_descriptor.__get__"))
 ct:takesIn K (.builtin "object.__class__")=some true
 mo:mroIn K D (.type "object")=some true
 mb:W.subIn K (.ref D) (.type "BaseException")=some true
section
variable {K:Frag} {x D:Addr} {ox:Obj} {od:Option Obj}
def aQL{nm:Value}{Q:Unit->Shared->Prop}(Z:ExK K D)(X:K.In s.heap)(I:InstAt s.heap x ox D od)(hq:Q () s):wpAny M A (checkBuiltinCall "BaseException.__getattribute__" ⟨[.ref x,nm],[]⟩) Q E s:=by
 have hk:builtinKind "BaseException.__getattribute__"=some .slot:=by decide +kernel
 have hs:splitId "BaseException.__getattribute__"=some ("BaseException", "__getattribute__"):=by decide +kernel
 have L0:=I.type (M:=M)
 have L1:=looks_subIn (M:=M) X Z.mb
 have ha:=F.args_bexc_ga (.ref x) nm
 simp only[checkBuiltinCall,hk,hs];refine Ae ((L0.andThen L1).at ?_);rw[if_neg (show ¬((!true)=true) by decide)]
 exact wpAny_of_eq ha hq
def cZ1{M:Model}(Z:ExK K D)(X:K.In h)(I:InstAt h x ox D od):Looks M h (Builtin.ObjectAttr.find (.ref x) (.ref D) "__class__") (Builtin.ObjectAttr.Found.bind (.builtin "getset_descriptor.__get__") (.builtin "object.__class__")):=by
 refine looks_find X I ?_;obtain⟨cd,hc,_⟩:=any_some Z.cls;unfold findObj;rw[hc,Option.bind_some,Z.ca,Option.bind_some];simp[Z.cg,Z.ct]
def cQY{Q:Option Value->Shared->Prop}(Z:ExK K D)(X:K.In s.heap)(I:InstAt s.heap x ox D od)(h:Q (some (.ref D)) {s with toks:=s.toks+1}):wpAny (model prog w) A (getAttr? (.ref x) "__class__") Q E s:=by
 obtain⟨hh,g,d,t,os⟩:=s;have L0:=I.type (M:=model prog w)
 have L1:=looks_findIn (M:=model prog w) X Z.ga
 have L2:=looks_findIn (M:=model prog w) X Z.gh
 have L3:=cZ1 (M:=model prog w) Z X I
 unfold getAttr? getAttrBy? getAttrBy;refine Ae (wpAny_mkText (Ae (Ho (Cu (Ae (L0.at (Ae (L1.at ?_))))))));have ne:(Value.builtin "BaseException.__getattribute__" == Value.builtin "object.__getattribute__")=false:=by decide +kernel
 have fb:=F.excAttr_ValueError.ga.bind (.ref x)
 dsimp only;rw[ne,Fv,if_neg An];unfold getAttrByItsOwn hookBefore;rw[if_pos (show onTheHeap (Value.ref D)=true from rfl)];refine Ae (L2.at (Ae (Ho (Cu ?_))));unfold callGetattribute boundAndCalled;rw[if_neg (show ¬((false&&onTheHeap (Value.builtin "BaseException.__getattribute__"))=true) by decide)]
 refine Ae (wpAny_of_eq fb ?_);refine Ep (Ed F.excAttr_ValueError.ga.plain F.entry_bexc_ga (aQL Z X I ?_));unfold Builtin.«object.__getattribute__»;refine Ae (Aq (Ae (Aq (Ae (L0.at (Ae (L3.at ?_)))))));show wpAny _ _ (Builtin.ObjectAttr.bindTo _ _ _ _) _ _ _
 unfold Builtin.ObjectAttr.bindTo;refine Ae (Cu (Ep (class_get (ox:=ox) (od:=od) X I Z.mo ?_)));refine Aq ?_;exact handed_on rfl (Aq h)
def aZ3(Z:ExK K D):KitX K (.ref x) (.ref D) (λh=>∃ox od,InstAt h x ox D od) where
 ty:=λ_ _ _ ⟨_,_,I⟩=>I.type
 it:=λM h X _=>by
  have q:(clsIn K D).isSome=true:=by
   obtain⟨cd,hc,_⟩:=any_some Z.cls;rw[hc];rfl
  unfold clsIn at q;split at q
  ·rename_i ho
   intro A1 Q1 E1 s1 k1 q1;unfold isType loadHead;exact Ae (wpAny_loadPart (k1 _ _ (X _ _ ho)) (Aq q1))
  ·cases q
 ne:=λh tp dd its n sl X htp=>by
  have q:(clsIn K D).isSome=true:=by
   obtain⟨cd,hc,_⟩:=any_some Z.cls;rw[hc];rfl
  unfold clsIn at q;split at q
  ·rename_i ho
   refine Bs.mpr λz=>?_;obtain rfl:D=tp:=Value.ref.inj (Gi.mp z);have z:=(X _ _ ho).symm.trans htp
   cases z
  ·cases q
 ca:=λX ⟨_,_,I⟩ k=>cQY Z X I k
end
def cXH:V->Option Value
 |.ref C=>some (.ref C)
 |.ty T=>some (.type T)
 |_=>none
def bJS:List V->Option (List Value)
 |[]=>some []
 |v::r=>(cXH v).bind λc=>(bJS r).map (c::·)
def aZH{c:Value}(h:cXH v=some c)(r:RelV v u):u=c:=by
 cases v with
 |ref C=>cases h;exact r
 |ty T=>cases h;exact r
 |_=>cases h
def zS:∀ {vs:List V} {cs us:List Value},bJS vs=some cs->Vals vs us->us=cs
 |[],_,_,h,.nil=>by cases h;rfl
 |v::vs,_,_,h,.cons r rr=>by
  unfold bJS at h;obtain⟨c,h1,h2⟩:=Option.bind_eq_some_iff.mp h;obtain⟨cs,h3,h4⟩:=Bz.mp h2;subst h4;rw[aZH h1 r,zS h3 rr]
def dXL(K:W.Frag):List V->Hp->VK->Prop:=λxs H Q=>∃ea D d c b,xs=[.ref ea,c]/\H ea=some (jU ea (.ref D) d)/\(∀dx,d=some dx->∃o,H dx=some o)/\ExK K D/\
 ((∃cv,cXH c=some cv/\kitOne K (.ref D) cv=some b)\/(∃tp cs cv,c=.ref tp/\H tp=some (.tup cs)/\bJS cs=some cv/\kitAny K (.ref D) cv=some b))/\Q (.bl b) H
def cX7{D:Addr}(hok:HOk P w H h)(e:H ea=some (jU ea (.ref D) d))(hd:∀dx,d=some dx->∃o,H dx=some o):∃ox od,InstAt h ea ox D od:=by
 obtain⟨⟨oe,vs,g,hc,hdi,hda⟩,_⟩:=hok ea _ e;have no:notCls oe=true:=by
  obtain⟨c,di,da,sl⟩:=oe;cases hda;rfl
 cases d with
 |none=>exact⟨oe,none,g,hc,no,by rw[hdi];trivial⟩
 |some dx=>
  obtain⟨o,z⟩:=hd dx rfl;obtain⟨ob,g2⟩:=(hok dx o z).get;exact⟨oe,some ob,g,hc,no,by rw[hdi];exact g2⟩
def fZ9:CallR X (.builtin "isinstance") (dXL X.K):=by
 intro y3 s σ H xs us Q I r h;obtain⟨ea,D,d,c,b,rfl,he,hd,Z,hc,q⟩:=h;obtain⟨u,u2,rfl,ru,rc⟩:=cJN r;cases ru;have hI:=cX7 I.hok he hd
 rcases hc with⟨cv,h1,h2⟩|⟨tp,cs,cv,rfl,h1,h2,h3⟩
 ·rw[aZH h1 rc];exact kia_one (aZ3 Z) I.kIn hI h2 (λz=>nomatch z) λtk=>⟨.bl b,H,I.tok _,rfl,q⟩
 ·cases rc;obtain⟨_,its,rv,o,g,hcl,n,hda⟩:=I.hok tp _ h1;obtain rfl:=zS h2 rv;obtain⟨oc,od,oda,osl⟩:=o;obtain rfl:oc=.type "tuple" := hcl;obtain rfl:oda=.seq its.toArray n:=hda;exact kia_tup (aZ3 Z) I.kIn hI g h3 (λz=>nomatch z) λtk=>⟨.bl b,H,I.tok _,rfl,q⟩
def gE(h:X.K=K):CallR X (.builtin "isinstance") (dXL K):=by
 subst h;exact fZ9
section
variable {D:Addr} {c:V} {cv:Value} {b:Bool}
def eX6(e:H ea=some (jU ea (.ref D) none))(Z:ExK K D)(h1:cXH c=some cv)(h2:kitOne K (.ref D) cv=some b)(h:Q (.bl b) H):dXL K [.ref ea,c] H Q:=
 ⟨ea,D,none,c,b,rfl,e,(λ_ z=>nomatch z),Z,.inl ⟨cv,h1,h2⟩,h⟩
def dJ5{E:XK}{D:Ends}(h:ta σ H λvs H1=>vs.length<=sizeLine/\E (.ref C) none H1):cZQ C E ta D σ H:=h
def eQI(h:t σ H λvs H1=>sp vs H1 Q (Es σ)):bXO sp Es t σ H Q:=h
end
def gI(P:Program)(w:World)(K:W.Frag)(mg:Str->Option Value)(base:Heap)(k:Nat)(x:Str)(ps:List Str)(sp:Sp):Prop:=
 ∃(f:Addr) (fd:FuncData),FnOk P w K mg base (CXr P w) k f fd ps sp/\mg x=some (.ref f)/\W.keepIn K (.ref f)=true/\Binds K fd ps []
section
variable {ps:List Str} {p:Pos} {E:XK}
def cP(c:gI X.prog X.w X.K X.mg X.base k x ps sp)(hx:kF (CXr X.prog X.w) X E)(hr:Room k' X.A)(hk:k<=k')(hg:Gl X x)(ha:PA X (e::es) t)(hdb:(x==("__debug__" : Str))=false:=by decide)(he:starEach (e::es) X.env=(false,eval e X.env)::starEach es X.env:=by rfl)(hpl:(backTo pos (starEach es X.env)).any (·.1)=false:=by rfl):PE X (.Call (.Name x p) (e::es) [] pos) (aJT sp [] E t):=by
 obtain⟨f,fd,F,hm,hk',hb⟩:=c;exact bJC F (hr.mono hk) hg hm hk' hb .nil hx ha hdb he hpl
def dJ7(c:gI X.prog X.w X.K X.mg X.base k x ps sp)(hx:aQC (CXr X.prog X.w) X Es)(hr:Room k' X.A)(hk:k<=k')(hg:Gl X x)(ha:PA X (e::es) t)(hdb:(x==("__debug__" : Str))=false:=by decide)(he:starEach (e::es) X.env=(false,eval e X.env)::starEach es X.env:=by rfl)(hpl:(backTo pos (starEach es X.env)).any (·.1)=false:=by rfl):PE X (.Call (.Name x p) (e::es) [] pos) (bXO sp Es t):=by
 obtain⟨f,fd,F,hm,hk',hb⟩:=c;exact dXY F (hr.mono hk) hg hm hk' hb hx ha hdb he hpl
def zZ:kF (CXr X.prog X.w) X E0:=λ_ _ _ _ _ _ _ h=>by
 obtain⟨_,_,_,_,_,_,_,_,_,_,_,z⟩:=h;exact z.elim
def PS.nox{t:TS}(h:PS X.nox st t):PS X st t:=λy3 s σ H D I hw=>
 Cq (h y3 s σ H D (I.wish _) hw) (λ_ _ q=>q.unwish) λ_ _ z=>False.elim z
end
def Fun.okX{ps:List Str}(F:Fun K x qual st f fd)(S:FnScope N ps (aK st))(len:∀vs H Q E,sp vs H Q E->vs.length=ps.length)(hbody:∀(cdv:Value) (A:Around) (outer:List Env) (s:Shared) (H:Hp) (vs:List V) (Q:VK) (E:XK),Room k (A.deeper (envOfC qual (aK st) s.heap.objs.size f cdv))->sp vs H Q E->
 ∃t,PSs (iB (CXr P w) P w K mg base N qual (aK st) f cdv A outer s H E) (fU st) t/\t {nx:=λ_ H'=>Q .non H',rt:=Q} (lT N vs) H):FnOk P w K mg base (CXr P w) (k+1) f fd ps sp:=by
 obtain⟨oc,od,kV,doc,pm,an,cdv,ct,osl,rfl,lk,hcd⟩:=F.ex;exact eXF lk hcd S len λA outer s H vs Q E hr hsp=>hbody cdv A outer s H vs Q E hr hsp
def fA(hg:Gl X x)(h:X.mg x=some (.ref C))(hd:(x==("__debug__" : Str))=false:=by decide):PE X (.Name x pos) (tC (.ref C)):=uD hg h rfl hd
def xZ:bootBuiltins "ValueError"=some (.type "ValueError"):=by decide +kernel
def fJ1(h:mk (λcls d σ1 H1=>W.exmOne K cls (.ref C)=some true/\∀ea,H1 ea=none->ts {nx:=λσ2 H2=>D.nx (σ2.set i none) H2,rt:=D.rt,bk:=λσ2 H2=>D.bk (σ2.set i none) H2,ct:=λσ2 H2=>D.ct (σ2.set i none) H2} (σ1.set i (some (.ref ea))) (upd H1 ea (jU ea cls d))) D σ H):fJK K C i mk ts D σ H:=h
end
def Itz(K:W.Frag)(a b:Addr):It:=
 ⟨λi H=>∃xs ys x y,SqL K H a xs/\SqL K H b ys/\xs[i]?=some x/\ys[i]?=some y,λi H v H'=>∃p x y,H p=none/\v=.ref p/\H'=upd H p (.tup [x,y])/\(∀xs,SqL K H a xs->xs[i]?=some x)/\(∀ys,SqL K H b ys->ys[i]?=some y),
  λi H=>∃xs ys,SqL K H a xs/\SqL K H b ys/\(xs.length<=i\/ys.length<=i)⟩
structure ZipOf (z TI TO i1 i2:Addr):Prop where
 d1:TI≠z
 d2:TO≠z
 d3:i1≠z
 d4:i2≠z
 d5:TI≠TO
 d6:TI≠i1
 d7:TI≠i2
 d8:TO≠i1
 d9:TO≠i2
 d0:i1≠i2
def mK{u:Obj}(ha:h.get? a=some o)(hb:h.get? b=some u){S:String}(hs:o.cls=.type S)(ht:u.cls=.type T)(n:S≠T):a≠b:=λz=>by
 subst z;rw[ha]at hb;cases hb;rw[hs]at ht;injection ht with ht;exact n ht
def zR{z TI TO i1 i2:Addr}{f0 p q:Value}{k1 k2:Nat}{xs ys:Array Value}(D:ZipOf z TI TO i1 i2)(hz:IsZip h z TI TO f0)(hO:IsPair h TO p q)(h1:h.IsListIter i1 a k1)(h2:h.IsListIter i2 b k2)(ha:h.IsList a xs)(hb:h.IsList b ys):ZipApart z TI TO i1 i2 a b:=by
 obtain⟨o1,g1,c1,_⟩:=h1;obtain⟨o2,g2,c2,_⟩:=h2;obtain⟨oa,ga,ca,_⟩:=ha;obtain⟨ob,gb,cb,_⟩:=hb;exact⟨D.d1,D.d2,D.d3,D.d4,D.d5,D.d6,D.d7,D.d8,D.d9,D.d0,mK ga hz ca rfl (by decide),mK ga hO ca rfl (by decide),mK ga g1 ca c1 (by decide),mK ga g2 ca c2 (by decide),mK gb hz cb rfl (by decide),mK gb hO cb rfl (by decide),mK gb g1 cb c1 (by decide),mK gb g2 cb c2 (by decide)⟩
def cZT(a b z TI TO i1 i2:Addr)(D:ZipOf z TI TO i1 i2):Turn P w K (.Tuple elts x1 tp) (Itz K a b) [z,TI,TO,i1,i2] z (λi h=>IsZip h z TI TO .none/\IsPair h TI (.ref i1) (.ref i2)/\(∃p q,IsPair h TO p q)/\h.IsListIter i1 a i/\h.IsListIter i2 b i) where
 mem:=by simp
 obj:=λi h st c hc=>by
  obtain⟨hz,hI,⟨p,q,hO⟩,⟨o1,g1,_,e1⟩,o2,g2,_,e2⟩:=st;simp only[List.mem_cons,List.not_mem_nil,or_false]at hc;rcases hc with z|z|z|z|z<;>subst z
  ·exact⟨_,hz,λv z=>by cases z⟩
  ·exact⟨_,hI,λv z=>by cases z⟩
  ·exact⟨_,hO,λv z=>by cases z⟩
  ·exact⟨o1,g1,λv z=>by rw[e1]at z;cases z⟩
  ·exact⟨o2,g2,λv z=>by rw[e2]at z;cases z⟩
 keep:=λi h h' st kk=>by
  obtain⟨hz,hI,⟨p,q,hO⟩,g1,g2⟩:=st;exact⟨kk z (by simp) _ hz,kk TI (by simp) _ hI,⟨p,q,kk TO (by simp) _ hO⟩,g1.at λo e=>kk i1 (by simp) o e,g2.at λo e=>kk i2 (by simp) o e⟩
 item:=by
  intro X hP hw hK hc i y3 s σ H E I hf st hg;subst hP hw hK;obtain⟨xs,ys,x,y,qa,qb,hx,hy⟩:=hg;obtain⟨us,ra,pa,_⟩:=I.list qa;obtain⟨vs,rb,pb,_⟩:=I.list qb;obtain⟨u,hu,ru⟩:=ra.get hx;obtain⟨v,hv,rv⟩:=rb.get hy;obtain⟨hz,hI,⟨p,q,hO⟩,g1,g2⟩:=st;have D2:=zR D hz hO g1 g2 pa.isList pb.isList
  have fr:∀c o,s.heap.get? c=some o->s.heap.objs.size≠c:=λc o e=>Fz (Au e)
  refine wpAny_pyNext_zip_item D2 hz hI hO g1 g2 pa.isList pb.isList (x:=u) (y:=v) (by simpa using hu) (by simpa using hv) λh1 a1 a2 a3 a4 a5 a6 kk=>?_
  refine⟨_,rfl,wpAny_letOwnedTupleGo_zip a1 λh2 z2 sb=>?_⟩;have up:∀c o,c≠z->h1.get? c=some o->h2.get? c=some o:=λc o n e=>(sb.2 c n).trans e
  have I2:Inv X y3 σ (upd H s.heap.objs.size (.tup [x,y])) {s with heap:=h2}:=by
   refine I.turnLaid (t':=s.toks) (ch:=[z,TI,TO,i1,i2]) hf (λc o n e=>?_) (Ai _) ⟨bO (by show 2<=_;omega),[u,v],.cons ru (.cons rv .nil),_,up _ _ (fr z _ hz) a5,rfl,_,rfl⟩
   simp only[List.mem_cons,List.not_mem_nil,or_false,not_or]at n;exact up c o n.1 (kk c o n.1 n.2.2.1 n.2.2.2.1 n.2.2.2.2 e)
  refine⟨.ref s.heap.objs.size,_,I2,rfl,⟨_,x,y,I.hok.fresh (Ai _),rfl,rfl,λzs hq=>by rw[I.list_inj hq qa];exact hx,λzs hq=>by rw[I.list_inj hq qb];exact hy⟩,
   ⟨z2,up _ _ D.d1 (kk _ _ D.d1 D.d5 D.d6 D.d7 hI),⟨_,_,up _ _ D.d2 a2⟩,a3.at λo e=>up _ o D.d3 e,a4.at λo e=>up _ o D.d4 e⟩,λc hc=>?_⟩
  have hn:=(hf c hc).1
  rw[aM]
  ·exact hn
  ·obtain⟨o1,e1,_⟩:=g1;obtain⟨o2,e2,_⟩:=g2;simp only[List.mem_cons,List.not_mem_nil,or_false]at hc;rcases hc with z|z|z|z|z<;>subst z
   ·exact(fr _ _ hz).symm
   ·exact(fr _ _ hI).symm
   ·exact(fr _ _ hO).symm
   ·exact(fr _ _ e1).symm
   ·exact(fr _ _ e2).symm
 done:=by
  intro X hP hw hK hc i y3 s σ H E I hf st hg;subst hP hw hK;obtain⟨xs,ys,qa,qb,hl⟩:=hg;obtain⟨us,ra,pa,_⟩:=I.list qa;obtain⟨vs,rb,pb,_⟩:=I.list qb;have e1:=ra.length
  have e2:=rb.length
  obtain⟨hz,hI,⟨p,q,hO⟩,g1,g2⟩:=st;refine wpAny_pyNext_zip_end (I.ok.hd hc) (zR D hz hO g1 g2 pa.isList pb.isList) hz hI hO g1 g2 pa.isList pb.isList ?_ λh' kk=>⟨rfl,?_⟩
  ·rcases hl with z|z
   ·exact .inl (by simp;omega)
   ·exact .inr (by simp;omega)
  ·refine I.turnAll (t':=s.toks) (ch:=[z,TI,TO,i1,i2]) hf λc o n e=>?_;simp only[List.mem_cons,List.not_mem_nil,or_false,not_or]at n;exact kk c o n.1 n.2.2.1 n.2.2.2.1 n.2.2.2.2 e
 self:=λ_ _ _ _ _ st h=>wpAny_pyIter_zip st.1 h
def cJZ:bootBuiltins "zip"=some (.type "zip"):=by decide +kernel
section
variable {l1 l2:Expr} {p:Pos}
def cJ2(R:Addr->Addr->Hp->Prop):List V->Hp->Prop:=λvs H=>match vs with|[.ref i,.ref j]=>R i j H|_=>False
def eQS{R:Addr->Addr->Hp->Prop}(q:cJ2 R vs H):∃i j,vs=[.ref i,.ref j]/\R i j H:=by
 unfold cJ2 at q;split at q
 ·exact⟨_,_,rfl,q⟩
 ·exact q.elim
def fZZ(K:W.Frag)(ta:TA):TI:=λσ H R=>ta σ H (cJ2 λa b H1=>onL (rdL H1 a) (onL (rdL H1 b) (R (Itz K a b) H1)))
def fQ2(hg:Gl X "zip")(hm:X.mg "zip"=none)(ha:PA X [l1,l2] ta)(hs:starEach [l1,l2] X.env=[(false,eval l1 X.env),(false,eval l2 X.env)]:=by rfl)(hs2:starEach [l2] X.env=[(false,eval l2 X.env)]:=by rfl):PI X (.Tuple elts x1 tp) (.Call (.Name "zip" p) [l1,l2] [] pos) (fZZ X.K ta):=by
 intro y3 s σ H R I h;refine Call_ (iS I hg hm cJZ (Df (thn (ha pos y3 s σ H _ I h) λus s1 ⟨vs,H1,I1,r1,q1⟩=>?_) (by rw[hs,hs2]) (by rw[hs2];rfl)))
 obtain⟨a,b,rfl,q⟩:=eQS q1;obtain⟨u,u2,rfl,ru,ru2⟩:=cJN r1;cases ru;cases ru2;unfold onL at q;split at q
 ·rename_i xs ex
  split at q
  ·rename_i ys ey
   obtain⟨us,ra,pa,_⟩:=I1.list (bG ex);obtain⟨vs,rb,pb,_⟩:=I1.list (bG ey);refine call_zip_2 pa.isList pb.isList λh' hz hI hO g1 g2 hsz hk=>?_;refine wpAny_pyIter_zip (s:={s1 with heap:=h'}) hz ⟨_,[s1.heap.objs.size+4,s1.heap.objs.size+2,s1.heap.objs.size+3,s1.heap.objs.size,s1.heap.objs.size+1],_,_,H1,rfl,I1.kept (t':=s1.toks) hk,
    cZT a b _ _ _ _ _ ⟨by simp,by simp,by simp,by simp,by simp,by simp,by simp,by simp,by simp,by simp⟩,⟨hz,hI,⟨_,_,hO⟩,g1,g2⟩,λc hc=>?_,q⟩
   have z:s1.heap.objs.size<=c:=by
    simp only[List.mem_cons,List.not_mem_nil,or_false]at hc;rcases hc with z|z|z|z|z<;>(rw[z];first|exact Ai _|exact Fg _ _)
   exact I1.fpOk z (I1.hok.fresh z)
  ·exact q.elim
 ·exact q.elim
end
def fQN(Pv:Nat->St->Hp->Prop)(h0:Pv 0 σ H)(hl:∀i σ H,i<=xs.length->i<=ys.length->Pv i σ H->rdL H a=some xs/\rdL H b=some ys)(hs:∀i x y σ H p,xs[i]?=some x->ys[i]?=some y->Pv i σ H->H p=none->g (.ref p) σ (upd H p (.tup [x,y])) λσ2 H2=>tb {D with nx:=Pv (i+1),ct:=Pv (i+1),bk:=D.nx} σ2 H2)(hd:∀σ H,Pv (min xs.length ys.length) σ H->D.nx σ H):aQ1 (Itz K a b) g tb D σ H:=by
 refine⟨λi m σ H=>m=min xs.length ys.length-i/\i<=min xs.length ys.length/\Pv i σ H,⟨min xs.length ys.length,by simp,Nat.zero_le _,h0⟩,?_⟩
 rintro i m σ H ⟨rfl,hi,p⟩;obtain⟨hr1,hr2⟩:=hl i σ H (by omega) (by omega) p
 by_cases hlt:i<min xs.length ys.length
 ·refine .inr ⟨⟨xs,ys,xs[i]'(by omega),ys[i]'(by omega),bG hr1,bG hr2,Aa _,Aa _⟩,Pv (i+1),λσ' H' p'=>⟨min xs.length ys.length-(i+1),by omega,rfl,hlt,p'⟩,λx H' y=>?_⟩
  obtain⟨q,x1,y1,hq,rfl,rfl,hx,hy⟩:=y;exact hs i x1 y1 σ H q (hx xs (bG hr1)) (hy ys (bG hr2)) p hq
 ·have e:i=min xs.length ys.length:=by omega
  subst e;exact .inl ⟨⟨xs,ys,bG hr1,bG hr2,by omega⟩,hd σ H p⟩
def fQH(h:ta σ H (cJ2 λa b H1=>onL (rdL H1 a) (onL (rdL H1 b) (R (Itz K a b) H1)))):fZZ K ta σ H R:=h
def eZB{R:Addr->Addr->Hp->Prop}(h:R a b H):cJ2 R [.ref a,.ref b] H:=h
section
variable {o:Expr} {id:String}
def cJM(T:String)(r:V->List V->Hp->VK->Prop)(to:TE):TE:=λσ H Q=>to σ H λx H1=>aXW T x H1 (r x [] H1 Q)
def cX9(pa:PlainAttrs T)(slot:Slot T name id)(hty:typeOf (.builtin id)=pure (.type "method_descriptor"))(hm:MtR X id r)(ho:PE X o to)(hbase:attributeBase o name X.env (eval o X.env)=eval o X.env:=by rfl)(hline:(apos.endLine==cpos.line)=true:=by rfl):PE X (.Call (.Attribute o name apos) [] [] cpos) (cJM T r to):=by
 intro y3 s σ H Q I h;refine wpAny_Call_method0_late hbase hline (thn (ho y3 s σ H _ I h) λv s1 ⟨x,H1,I1,r1,q⟩=>?_);obtain⟨ty,q1⟩:=aJO (K:=X.K) q;obtain⟨h1,h2⟩:=cX5 I1 r1 ty;exact⟨T,id,pa,slot,hty,h1,h2,Fj rfl (PySem.evalArgs_none (hm y3 s1 σ H1 x [] v [] Q I1 r1 .nil q1))⟩
def dJ9:V->List V->Hp->VK->Prop:=λx vs H Q=>match x,vs with
 |.ref l,[.ref b]=>(match jQ H l,jQ H b with|some xs,some zs=>xs.length+zs.length<=sizeLine/\Q .non (upd H l (.lst (xs++zs)))|_,_=>False)
 |_,_=>False
def aQK:MtR X "list.extend" dJ9:=MtR.imp (r:=bJB) cQE λ_ _ _ _ q=>by
 unfold dJ9 at q;split at q
 ·split at q
  ·exact⟨_,_,_,_,rfl,rfl,nG (by assumption),nG (by assumption),q.1,q.2⟩
  ·exact q.elim
 ·exact q.elim
end
section
variable {l:Addr} {zs:List V}
def dJF(h:to σ H λx H1=>aXW T x H1 (r x [] H1 Q)):cJM T r to σ H Q:=h
def eXC(e:jQ H l=some xs)(e':jQ H b=some zs)(c:xs.length+zs.length<=sizeLine)(h:Q .non (upd H l (.lst (xs++zs)))):dJ9 (.ref l) [.ref b] H Q:=by unfold dJ9;simp only[e,e'];exact⟨c,h⟩
end
def eZX{t u:TS}(Pj:St->Hp->Prop)(hj:∀σ' H',Pj σ' H'->u D σ' H')(h:∀N:St->Hp->Prop,(∀σ' H',Pj σ' H'->N σ' H')->t {D with nx:=N} σ H):eJK t u D σ H:=h (u D) hj
def none_of{r:Addr}(s:Same H H')(h:H' r=none):H r=none:=by
 cases e:H r with
 |none=>rfl
 |some o=>rw[s _ _ e]at h;cases h
def bR{p:Addr}{o:HO}(hp:H p=none)(s:Same H H'):Same H (upd H' p o):=λb u q=>by rw[aM (bM q hp)];exact s b u q
def jB{J:It}{n:Nat}(R:Addr->Nat->List V->Hp->Prop)(hl:n<sizeLine)(h0:∀D,H1 D=none->R D 0 [] (upd H1 D (.lst [])))(hgo:∀D i ys Hc,H1 D=none->R D i ys Hc->i<n->J.go i Hc)(hst:∀D ys Hc,H1 D=none->R D n ys Hc->J.stop n Hc)(hs:∀D i ys Hc x H' (A:VK) (B:Hp->Prop),H1 D=none->i<n->R D i ys Hc->Hc D=some (.lst ys)->J.yld i Hc x H'->
 (∀y H4,H4 D=some (.lst ys)->R D (i+1) (ys++[y]) (upd H4 D (.lst (ys++[y])))->A y H4)->(∀H3,H3 D=some (.lst ys)->R D (i+1) ys H3->B H3)->
 g x σ0 H' λσ2 H2=>Wk σ0 σ2/\tests σ2 H2 λb H3=>if b=true then te σ2 H3 A else B H3)(fin:∀D ys Hc,H1 D=none->R D n ys Hc->Hc D=some (.lst ys)->ys.length<=n->Q (.ref D) Hc):eC g tests te σ0 Q J H1:=by
 intro D hD;refine⟨λi m Hc=>m=n-i/\i<=n/\∃ys,ys.length<=i/\Hc D=some (.lst ys)/\R D i ys Hc,⟨n,by simp,Nat.zero_le _,[],Nat.le_refl _,aH,h0 D hD⟩,?_⟩
 rintro i m Hc ⟨rfl,hi,ys,hy,hDc,r⟩;by_cases hlt:i<n
 ·refine .inr ⟨hgo D i ys Hc hD r hlt,λx H' y=>hs D i ys Hc x H' _ _ hD hlt r hDc y (λz H4 e r4=>?_) (λH3 e r3=>?_)⟩
  ·exact⟨ys,e,by omega,n-(i+1),by omega,rfl,hlt,ys++[z],by rw[Af];show ys.length+1<=_;omega,aH,r4⟩
  ·exact⟨n-(i+1),by omega,rfl,hlt,ys,by omega,e,r3⟩
 ·have e:i=n:=by omega
  subst e;exact .inl ⟨hst D ys Hc hD r,fin D ys Hc hD r hDc hy⟩
def Tups(H1 Hc:Hp)(ps:List Addr)(fs:List (List V)):Prop:=ps.length=fs.length/\∀(j:Nat) p t,ps[j]?=some p->fs[j]?=some t->H1 p=none/\Hc p=some (.tup t)
def Tups.keep{Hd:Hp}(t:Tups H1 Hc ps fs)(s:Same Hc Hd):Tups H1 Hd ps fs:=⟨t.1,λj p u hp hu=>⟨(t.2 j p u hp hu).1,s _ _ (t.2 j p u hp hu).2⟩⟩
def Tups.older{H0:Hp}(t:Tups H1 Hc ps fs)(s:Same H0 H1):Tups H0 Hc ps fs:=⟨t.1,λj p u hp hu=>⟨none_of s (t.2 j p u hp hu).1,(t.2 j p u hp hu).2⟩⟩
def Tups.put{D:Addr}{zs:List V}(t:Tups H1 Hc ps fs)(h:Hc D=some (.lst ys)):Tups H1 (upd Hc D (.lst zs)) ps fs:=⟨t.1,λj p u hp hu=>by
 obtain⟨a,b⟩:=t.2 j p u hp hu;refine⟨a,?_⟩;rw[aM λz=>by rw[z,h]at b;cases b]
 exact b⟩
def Tups.app{qs:List Addr}{gs:List (List V)}(t:Tups H1 Hc ps fs)(u:Tups H1 Hc qs gs):Tups H1 Hc (ps++qs) (fs++gs):=by
 refine⟨by rw[Af,Af,t.1,u.1],λj p v hp hv=>?_⟩
 by_cases h:j<ps.length
 ·rw[Ar h]at hp;rw[Ar (by rw[<-t.1];exact h)]at hv
  exact t.2 j p v hp hv
 ·rw[Av (by omega)]at hp
  rw[Av (by rw[<-t.1];omega),<-t.1]at hv
  exact u.2 _ p v hp hv
def Tups.nil:Tups H1 Hc [] []:=⟨rfl,λj p u hp=>by cases hp⟩
def Tups.one{p:Addr}{t:List V}(a:H1 p=none)(b:Hc p=some (.tup t)):Tups H1 Hc [p] [t]:=⟨rfl,λj q u hq hu=>by
 cases j with
 |zero=>cases hq;cases hu;exact⟨a,b⟩
 |succ j=>cases hq⟩
def cQW(f:Nat->List V)(hl:n<sizeLine)(hs:∀(i:Nat) Hc (A:VK) (B:Hp->Prop),i<n->Same H1 Hc->(∀p Hd,Hc p=none->Same Hc Hd->Hd p=some (.tup (f i))->A (.ref p) Hd)->
 g (.int (lo+i)) σ0 Hc λσ2 H2=>Wk σ0 σ2/\tests σ2 H2 λb H3=>if b=true then te σ2 H3 A else B H3)(fin:∀D Hd ps,H1 D=none->Same H1 Hd->Hd D=some (.lst (ps.map V.ref))->ps.length=n->Tups H1 Hd ps ((List.range n).map f)->Q (.ref D) Hd):eC g tests te σ0 Q (Itr lo n) H1:=by
 refine jB (n:=n) (λD i ys Hc=>Same H1 Hc/\∃ps,ys=ps.map V.ref/\ps.length=i/\Tups H1 Hc ps ((List.range i).map f)) hl (λD hD=>⟨aG hD _,[],rfl,rfl,.nil⟩) (λD i ys Hc _ r h=>h) (λD ys Hc _ r=>Ai n) ?_ ?_
 ·rintro D i ys Hc x H' A B hD hi ⟨sm,ps,rfl,hn,tp⟩ hDc ⟨rfl,rfl⟩ ha hb;refine hs i H' A B hi sm (λp Hd hp sd hd=>?_);refine ha _ _ (sd _ _ hDc) ⟨bR hD (sm.trans sd),ps++[p],by rw[Am];rfl,by rw[Af,hn];rfl,?_⟩
  rw[Cd,Am];exact((tp.keep sd).app (.one (none_of sm hp) hd)).put (sd _ _ hDc)
 ·rintro D ys Hc hD ⟨sm,ps,rfl,hn,tp⟩ hDc _;exact fin D Hc ps hD sm hDc hn tp
def dQX(lo c:Int)(n:Nat):It:=⟨λi _=>i<n,λi H x H'=>H'=H/\x=.int (lo+(i:Int)*c),λi _=>n<=i⟩
def aJ5{K:PySem.W.Frag}(it:Addr)(lo c:Int)(n:Nat):Turn P w K tg (dQX lo c n) [it] it (λi h=>IsRangeIter h it (lo+(i:Nat)*c) ((n:Int)-(i:Nat)) c) where
 mem:=by simp
 obj:=λi h st b hb=>by
  have e:b=it:=by simpa using hb
  subst e;exact⟨_,st,λv z=>by
   have z':Data.fields _=Data.cell v:=z
   cases z'⟩
 keep:=λi h h' st k=>k it (by simp) _ st
 item:=by
  intro X hP hw hK hc i y3 s σ H E I hf st hg;subst hP hw hK;obtain⟨f0,f1,f2,f3,f4,f5⟩:=hf it (by simp)
  have W:=Walks.range (prog:=X.prog) (w:=X.w) (I.ok.hd hc) it lo c n
  refine W.item i s _ _ hg st λv h' tk hv st' kk=>?_;obtain⟨t,rfl⟩:=hv;have I1:Inv X y3 σ H {s with heap:=h',toks:=tk}:=I.turned (λb o hb e=>kk b o (by simpa using hb) e) f0 f1 f3 f4 f5
  exact⟨_,rfl,wF (s:={s with heap:=h',toks:=tk}) (n := "range_iterator") st' rfl rfl (by decide) ⟨.int (lo+i*c),H,I1,⟨t,rfl⟩,⟨rfl,rfl⟩,st',λb hb=>(hf b hb).1⟩⟩
 done:=by
  intro X hP hw hK hc i y3 s σ H E I hf st hg;subst hP hw hK;obtain⟨f0,f1,f2,f3,f4,f5⟩:=hf it (by simp)
  exact wpAny_pyNext_range_end (I.ok.hd hc) st (by have:n<=i:=hg;omega) λh' eb=>⟨rfl,I.turned (t':=s.toks) (λb o hb e=>eb b o hb e) f0 f1 f3 f4 f5⟩
 self:=λ_ _ _ _ _ st h=>wpAny_pyIter_rangeiter st h
def cZC(R:Int->Int->Int->Hp->Prop):List V->Hp->Prop:=λvs H=>match vs with|[.int i,.int j,.int k]=>R i j k H|_=>False
def dZV{R:Int->Int->Int->Hp->Prop}(q:cZC R vs H):∃i j k,vs=[.int i,.int j,.int k]/\R i j k H:=by
 unfold cZC at q;split at q
 ·exact⟨_,_,_,rfl,q⟩
 ·exact q.elim
section
variable {st:Int} {i j k:Int}
def cXA(Pv:Nat->St->Hp->Prop)(h0:Pv 0 σ H)(hs:∀i σ H,i<n->Pv i σ H->g (.int (lo+(i:Int)*st)) σ H λσ2 H2=>tb {D with nx:=Pv (i+1),ct:=Pv (i+1),bk:=D.nx} σ2 H2)(hd:∀σ H,Pv n σ H->D.nx σ H):aQ1 (dQX lo st n) g tb D σ H:=by
 refine⟨λi m σ H=>m=n-i/\i<=n/\Pv i σ H,⟨n,by simp,Nat.zero_le _,h0⟩,?_⟩
 rintro i m σ H ⟨rfl,hi,p⟩;by_cases hlt:i<n
 ·refine .inr ⟨hlt,Pv (i+1),λσ' H' p'=>⟨n-(i+1),by omega,rfl,hlt,p'⟩,λx H' y=>?_⟩
  obtain⟨e,y⟩:=y;subst e y;exact hs i σ _ hlt p
 ·have e:i=n:=by omega
  subst e;exact .inl ⟨Ai _,hd σ H p⟩
def fQQ{R:Int->Int->Int->Hp->Prop}(h:R i j k H):cZC R [.int i,.int j,.int k] H:=h
end
def aZZ{x:V}(h:cB x=true):eqV x x=true:=by
 cases x<;>first|rfl|(simp[eqV];done)|(cases h;done)
def Lsts(H1 Hc:Hp)(ps:List Addr)(fs:List (List V)):Prop:=ps.length=fs.length/\∀(j:Nat) p t,ps[j]?=some p->fs[j]?=some t->H1 p=none/\Hc p=some (.lst t)
def Lsts.keep{Hd:Hp}(t:Lsts H1 Hc ps fs)(s:Same Hc Hd):Lsts H1 Hd ps fs:=⟨t.1,λj p u hp hu=>⟨(t.2 j p u hp hu).1,s _ _ (t.2 j p u hp hu).2⟩⟩
def Lsts.older{H0:Hp}(t:Lsts H1 Hc ps fs)(s:Same H0 H1):Lsts H0 Hc ps fs:=⟨t.1,λj p u hp hu=>⟨none_of s (t.2 j p u hp hu).1,(t.2 j p u hp hu).2⟩⟩
def Lsts.put{D:Addr}{o:HO}(t:Lsts H1 Hc ps fs)(h:∀p∈ps,p≠D):Lsts H1 (upd Hc D o) ps fs:=⟨t.1,λj p u hp hu=>by
 obtain⟨a,b⟩:=t.2 j p u hp hu;refine⟨a,?_⟩;rw[aM (h p (Ao hp))];exact b⟩
def Lsts.snoc{ps:List Addr}{fs:List (List V)}{g:List V}(t:Lsts H1 Hc ps fs)(a:H1 q=none)(b:Hc q=some (.lst g)):Lsts H1 Hc (ps++[q]) (fs++[g]):=by
 refine⟨by rw[Af,Af,t.1];rfl,λj p v hp hv=>?_⟩
 by_cases h:j<ps.length
 ·rw[Ar h]at hp;rw[Ar (by rw[<-t.1];exact h)]at hv
  exact t.2 j p v hp hv
 ·rw[Av (by omega)]at hp
  rw[Av (by rw[<-t.1];omega),<-t.1]at hv
  cases e:j-ps.length with
  |zero=>rw[e]at hp hv;cases hp;cases hv;exact⟨a,b⟩
  |succ n=>rw[e]at hp;cases hp
def Lsts.nil:Lsts H1 Hc [] []:=⟨rfl,λj p u hp=>by cases hp⟩
def Lsts.mem(t:Lsts H1 Hc ps fs){p:Addr}(hp:p∈ps):∃g∈fs,H1 p=none/\Hc p=some (.lst g):=by
 obtain⟨j,hj⟩:=List.mem_iff_getElem?.mp hp;have hl:j<fs.length:=by rw[<-t.1];exact(Ac.mp hj).1
 exact⟨fs[j],Bk _,t.2 j p _ hj (Aa hl)⟩
def mJ(ns:List Int):∀n,n<=ns.length->preSum (λi=>ns.getD i 0) n=(ns.take n).sum
 |0,_=>by simp[preSum]
 |n+1,h=>by
  have ih:=mJ ns n (by omega)
  have e:ns.take (n+1)=ns.take n++[ns.getD n 0]:=by rw[Bh,Ad,Aa (by omega)];rfl
  rw[e,List.sum_append,<-ih];simp[preSum]
def cQD{ns:List Int}(h:∀n∈ns,0<=n/\n<=1000000):0<=ns.sum/\ns.sum<=1000000*(ns.length:Int):=by
 induction ns with
 |nil=>simp
 |cons n r ih=>
  obtain⟨a,b⟩:=h n (Aj ..);obtain⟨c,d⟩:=ih λm hm=>h m (Ak _ hm);rw[Fm,Ba];constructor
  ·omega
  ·push_cast;omega
def fXD:List V->Hp->VK->Prop:=λxs H Q=>∃(p:Addr) (ns:List Int),xs=[.ref p]/\rdL H p=some (ns.map V.int)/\(∀n∈ns,0<=n/\n<=1000000)/\ns.length<=100000/\Q (.int ns.sum) H
def cJ4(hc:X.calm=true):CallR X (.builtin "sum") fXD:=by
 intro y3 s σ H xs us Q I r h;obtain⟨p,ns,rfl,hp,hb,hn,q⟩:=h;obtain⟨u,rfl,ru⟩:=eW r;cases ru;obtain⟨its,rv,pl,hz⟩:=I.list (bG hp);have hl:=pl.isList
 have hlt:p<s.heap.objs.size:=by obtain⟨_,e,_⟩:=hl;exact Au e
 have hle:its.length=ns.length:=by have:=rv.length;rw[Ab]at this;omega
 refine call_sum_walk (Eg hl ?_);refine⟨s.heap.objs.size,[s.heap.objs.size,p],[s.heap.objs.size],its.toArray.size,_,_,λi=>ns.getD i 0,rfl,Walks.list (A:=X.A.in1) (I.ok.hd hc) _ p (Bl hlt) its.toArray,
  ⟨⟨_,Ay _ rfl,rfl,rfl⟩,hl.push _⟩,λb hb=>?_,λi v hv=>?_,λj hj=>?_,λh' tk t' hk=>?_⟩
 ·rw[show ({s with heap:=_}:Shared).heap=_ from rfl]
  simp only[List.mem_cons,List.not_mem_nil,or_false]at hb;rcases hb with e|e
  ·rw[e];simp[Heap.push]
  ·rw[e];exact Nat.lt_of_lt_of_le hlt (by simp[Heap.push])
 ·have hv':its[i]?=some v:=by simpa using hv
  have hi:i<ns.length:=by rw[<-hle];exact(Ac.mp hv').1
  obtain⟨u,hu,ru⟩:=rv.get (show (ns.map V.int)[i]?=some (.int ns[i]) by rw[Ag,Aa hi];rfl)
  rw[hv']at hu;cases hu;obtain⟨t,rfl⟩:=ru;exact⟨t,by show Value.int ns[i] t=Value.int (ns.getD i 0) t;rw[Ad,Aa hi];rfl⟩
 ·have hj' : j < ns.length := by have : j < its.length := by simpa using hj
                                 omega
  have e:=mJ ns (j+1) (by omega)
  obtain⟨a1,a2⟩:=cQD (ns:=ns.take (j+1)) λm hm=>hb m (List.mem_of_mem_take hm);rw[Bt]at a2;have a3:ns.getD j 0∈ns:=by rw[Ad,Aa hj'];exact Bk _
  obtain⟨b1,b2⟩:=hb _ a3;refine⟨?_,?_⟩
  ·show InLong (ns.getD j 0)
   unfold InLong;omega
  ·rw[e];unfold InLong;omega
 ·have e:preSum (λi=>ns.getD i 0) its.toArray.size=ns.sum:=by
   rw[Ax,hle,mJ ns _ (Ai _),Cg]
  rw[e];exact⟨.int ns.sum,H,I.kept (LSm.kept_iter hk),⟨_,rfl⟩,q⟩
def eXW{p:Addr}(e:rdL H p=some (ns.map V.int))(hb:∀n∈ns,0<=n/\n<=1000000)(hl:ns.length<=100000)(h:Q (.int ns.sum) H):fXD [.ref p] H Q:=⟨p,ns,rfl,e,hb,hl,h⟩
section
variable {κ:Type} [DecidableEq κ]
def cR(kvs:List (κ×V))(k:κ):Option V:=(kvs.find? λkv=>decide (kv.1=k)).map (·.2)
def eV(kvs:List (κ×V))(k:κ)(v:V):List (κ×V):=
 if (kvs.any λkv=>decide (kv.1=k))=true then kvs.map (λkv=>if kv.1=k then (kv.1,v) else kv) else kvs++[(k,v)]
def cT{p:κ×V}{r:List (κ×V)}{k:κ}(e:p.1=k):cR (p::r) k=some p.2:=by simp[cR,List.find?_cons,e]
def cO{p:κ×V}{r:List (κ×V)}{k:κ}(e:¬p.1=k):cR (p::r) k=cR r k:=by simp[cR,List.find?_cons,e]
def eZ(k:κ):∀kvs:List (κ×V),(kvs.any λkv=>decide (kv.1=k))=(cR kvs k).isSome
 |[]=>rfl
 |p::r=>by
  rw[Hn];by_cases e:p.1=k
  ·simp only[cT e,decide_eq_true e,Bool.true_or,Option.isSome_some]
  ·rw[cO e,As e,Bool.false_or];exact eZ k r
def aJI(k j:κ)(y:V):∀kvs:List (κ×V),cR (kvs.map λkv=>if kv.1=k then (kv.1,y) else kv) j=(cR kvs j).map λx=>if j=k then y else x
 |[]=>rfl
 |p::r=>by
  have ih:=aJI k j y r
  rw[Aw];by_cases h:p.1=k
  ·rw[if_pos h];by_cases e:p.1=j
   ·rw[cT (p:=(p.1,y)) e,cT e,Ey,if_pos (e.symm.trans h)]
   ·rw[cO (p:=(p.1,y)) e,cO e,ih]
  ·rw[if_neg h];by_cases e:p.1=j
   ·rw[cT (p:=p) e,cT e,Ey,if_neg (λz=>h (e.trans z))]
   ·rw[cO (p:=p) e,cO e,ih]
def zL(k j:κ)(y:V):∀kvs:List (κ×V),cR kvs k=none->cR (kvs++[(k,y)]) j=if j=k then some y else cR kvs j
 |[],_=>by
  by_cases e:k=j
  ·rw[if_pos e.symm];exact cT (p:=(k,y)) e
  ·rw[if_neg (λz=>e z.symm)];exact cO (p:=(k,y)) e
 |p::r,hn=>by
  rw[List.cons_append];have hk:¬p.1=k:=λz=>by rw[cT z]at hn;cases hn
  rw[cO hk]at hn;have ih:=zL k j y r hn
  by_cases e:p.1=j
  ·rw[cT e,cT e,if_neg (λz=>hk (e.trans z))]
  ·rw[cO e,cO e,ih]
def dXP(kvs:List (κ×V))(k j:κ)(y:V):cR (eV kvs k y) j=if j=k then some y else cR kvs j:=by
 unfold eV;by_cases a:(kvs.any λkv=>decide (kv.1=k))=true
 ·rw[if_pos a,aJI];rw[eZ]at a;by_cases e:j=k
  ·obtain⟨x,hx⟩:=Ea.mp a;rw[if_pos e,e,hx,Ey,if_pos rfl]
  ·rw[if_neg e];cases cR kvs j with
   |none=>rfl
   |some x=>rw[Ey,if_neg e]
 ·rw[if_neg a];refine zL k j y kvs ?_;rw[eZ]at a;cases q:cR kvs k with
  |none=>rfl
  |some x=>rw[q]at a;exact(a rfl).elim
def fW(kvs:List (κ×V))(k:κ)(v:V):(eV kvs k v).length<=kvs.length+1:=by
 unfold eV;split
 ·rw[Ab];omega
 ·rw[Af,Ba,List.length_nil];omega
def lQ{kvs:List (κ×V)}{k:κ}(v:V)(h:cR kvs k=none):eV kvs k v=kvs++[(k,v)]:=by
 unfold eV;rw[eZ,h];exact if_neg (by decide)
def RelO.isSome_eq{o:Option V}{u:Option Value}(r:RelO o u):o.isSome=u.isSome:=by
 cases o with
 |none=>cases u with
  |none=>rfl
  |some _=>exact(show False from r).elim
 |some _=>cases u with
  |none=>exact(show False from r).elim
  |some _=>rfl
def RelO.getD{o:Option V}{u:Option Value}{d:V}{d':Value}(r:RelO o u)(rd:RelV d d'):RelV (o.getD d) (u.getD d'):=by
 cases o with
 |none=>cases u with
  |none=>exact rd
  |some _=>exact(show False from r).elim
 |some _=>cases u with
  |none=>exact(show False from r).elim
  |some _=>exact r
def KV.val{kvs:List (κ×V)}{vs:List (κ×Value)}(r:KV kvs vs)(k:κ):RelO (cR kvs k) (valueAt vs k):=by
 unfold KV at r;induction r with
 |nil=>exact True.intro
 | @cons p q ps qs h t ih=>
  obtain⟨h1,h2⟩:=h;by_cases e:p.1=k
  ·have e':q.1=k:=h1.symm.trans e
   have b:valueAt (q::qs) k=some q.2:=by simp[valueAt,List.find?_cons,e']
   rw[cT e,b];exact h2
  ·have e':¬q.1=k:=λz=>e (h1.trans z)
   have b:valueAt (q::qs) k=valueAt qs k:=by simp[valueAt,List.find?_cons,e']
   rw[cO e,b];exact ih
def KV.any{kvs:List (κ×V)}{vs:List (κ×Value)}(r:KV kvs vs)(k:κ):(kvs.any λkv=>decide (kv.1=k))=vs.any λkv=>decide (kv.1=k):=by
 unfold KV at r;induction r with
 |nil=>rfl
 |cons h t ih=>rw[Hn,Hn,ih,h.1]
def KV.repl{kvs:List (κ×V)}{vs:List (κ×Value)}(r:KV kvs vs)(k:κ)(ry:RelV y u):KV (kvs.map λkv=>if kv.1=k then (kv.1,y) else kv) (vs.map λkv=>if kv.1=k then (kv.1,u) else kv):=by
 unfold KV at r ⊢;induction r with
 |nil=>exact .nil
 | @cons p q ps qs h t ih=>
  rw[Aw,Aw];refine .cons ?_ ih;obtain⟨h1,h2⟩:=h;by_cases e:p.1=k
  ·rw[if_pos e,if_pos (h1.symm.trans e)];exact⟨h1,ry⟩
  ·rw[if_neg e,if_neg (λz=>e (h1.trans z))];exact⟨h1,h2⟩
def KV.put{kvs:List (κ×V)}{vs:List (κ×Value)}(r:KV kvs vs)(k:κ)(ry:RelV y u):KV (eV kvs k y) (stored vs k u):=by
 unfold eV stored;rw[r.any k];by_cases e:(vs.any λkv=>decide (kv.1=k))=true
 ·rw[if_pos e,if_pos e];exact r.repl k ry
 ·rw[if_neg e,if_neg e];exact Paired.snoc r ⟨rfl,ry⟩
def KV.length{kvs:List (κ×V)}{vs:List (κ×Value)}(r:KV kvs vs):kvs.length=vs.length:=Paired.length r
end
def uW{k:Key}(r:RelV (kV k) u):(bK P w).is k u=true:=by
 cases k with
 |inl i=>obtain⟨t,e⟩:=(show ∃t,u=Value.int i t from r);subst e;exact aZ7 P w i t
 |inr x=>obtain⟨t,e⟩:=(show ∃t,u=Value.str x t from r);subst e;exact aJG P w x t
def zM:∀ {ks:List Key} {us:List Value},Vals (ks.map kV) us->ItemsAre (bK P w) ks us
 |[],_,r=>by rw[Hr]at r;cases r;exact .nil
 |k::ks,_,r=>by
  rw[Aw]at r;cases r with
  |cons h t=>exact .cons (uW h) (zM t)
abbrev KT(H:Hp):List (List Key×V)->List (List Key×Addr×Value)->Prop:=Paired λp q=>p.1=q.1/\H q.2.1=some (.tup (p.1.map kV))/\RelV p.2 q.2.2
def KT.val{kvs:List (List Key×V)}{xs:List (List Key×Addr×Value)}(r:KT H kvs xs)(k:List Key):RelO (cR kvs k) ((atKey xs k).map (·.2)):=by
 induction r with
 |nil=>exact True.intro
 | @cons p q ps qs h t ih=>
  obtain⟨h1,_,h2⟩:=h;by_cases e:p.1=k
  ·have e':q.1=k:=h1.symm.trans e
   have b:atKey (q::qs) k=some q.2:=by simp[atKey,List.find?_cons,e']
   rw[cT e,b];exact h2
  ·have e':¬q.1=k:=λz=>e (h1.trans z)
   have b:atKey (q::qs) k=atKey qs k:=by simp[atKey,List.find?_cons,e']
   rw[cO e,b];exact ih
def KT.repl{kvs:List (List Key×V)}{xs:List (List Key×Addr×Value)}(r:KT H kvs xs)(k:List Key)(ry:RelV y u):KT H (kvs.map λkv=>if kv.1=k then (kv.1,y) else kv) (xs.map (putAt k u)):=by
 induction r with
 |nil=>exact .nil
 | @cons p q ps qs h t ih=>
  rw[Aw,Aw];refine .cons ?_ ih;obtain⟨h1,h2,h3⟩:=h;unfold putAt;by_cases e:p.1=k
  ·rw[if_pos e,if_pos (h1.symm.trans e)];exact⟨h1,h2,ry⟩
  ·rw[if_neg e,if_neg (λz=>e (h1.trans z))];exact⟨h1,h2,h3⟩
def KT.put{kvs:List (List Key×V)}{xs:List (List Key×Addr×Value)}(r:KT H kvs xs)(k:List Key)(hb:H b=some (.tup (k.map kV)))(ry:RelV y u):KT H (eV kvs k y) (storedH xs k b u):=by
 have e:(kvs.any λkv=>decide (kv.1=k))=(atKey xs k).isSome:=by
  rw[eZ,(r.val k).isSome_eq,Option.isSome_map]
 unfold eV storedH;rw[e];by_cases q:(atKey xs k).isSome=true
 ·rw[if_pos q,if_pos q];exact r.repl k ry
 ·rw[if_neg q,if_neg q];exact Paired.snoc r ⟨rfl,hb,ry⟩
def KT.keeps{kvs:List (List Key×V)}{xs:List (List Key×Addr×Value)}(r:KT H kvs xs)(ht:∀b ys,H b=some (.tup ys)->H' b=some (.tup ys)):KT H' kvs xs:=
 Paired.mapP r λ_ _ z=>⟨z.1,ht _ _ z.2.1,z.2.2⟩
def eXH{u:HO}(ok:HOk P w H h)(e:Rd H a u):ObjOk P w H h a u:=e.ok ok
def lN(ok:HOk P w H h)(e:Rd H a (.dK kvs)):kvs.length<=sizeLine/\(a==sysModules)=false/\∃vs,KV kvs vs/\h.DictOf (bK P w) a vs:=
 show ObjOk P w H h a (.dK kvs) from eXH ok e
def eXU(ok:HOk P w H h)(e:H a=some (.dK kvs)):kvs.length<=sizeLine/\(a==sysModules)=false/\∃vs,KV kvs vs/\h.DictOf (bK P w) a vs:=lN ok (.inl e)
def pE{ks:List Key}(ok:HOk P w H h)(e:H a=some (.tup (ks.map kV))):(tupleKind (bK P w)).is h ks a:=by
 obtain⟨_,its,r,o,h1,h2,n,h3⟩:=(show ObjOk P w H h a (.tup (ks.map kV)) from ok a _ e);exact⟨o,its.toArray,n,h1,h2,h3,by simpa using zM r⟩
def sY{kvs:List (List Key×V)}(ok:HOk P w H h)(e:Rd H a (.dT kvs)):kvs.length<=sizeLine/\(a==sysModules)=false/\
 ∃xs,KT H kvs xs/\h.DictOfH (tupleKind (bK P w)) a xs:=by
 obtain⟨z,y,xs,r,o,es,ep,h1,h2,h3,h4,h5⟩:=(show ObjOk P w H h a (.dT kvs) from eXH ok e);refine⟨z,y,xs,r,o,es,ep,h1,h2,h3,h4,λx hx=>?_,h5⟩;have all:∀ {l:List (List Key×V)} {m:List (List Key×Addr×Value)},KT H l m->∀x∈m,(tupleKind (bK P w)).is h x.1 x.2.1:=by
  intro l m q;induction q with
  |nil=>intro x hx;exact nomatch hx
  | @cons p q ps qs hq t ih=>
   intro x hx;rcases Bb.mp hx with e|hx
   ·subst e;exact pE ok (by rw[<-hq.1];exact hq.2.1)
   ·exact ih x hx
 exact all r x hx
def eQ9{kvs:List (List Key×V)}(ok:HOk P w H h)(e:H a=some (.dT kvs)):kvs.length<=sizeLine/\(a==sysModules)=false/\
 ∃xs,KT H kvs xs/\h.DictOfH (tupleKind (bK P w)) a xs:=sY ok (.inl e)
def tY(H:Hp)(a:Addr)(y:V)(r:Option V):Prop:=
 (∃kvs k,Rd H a (.dK kvs)/\y=kV k/\r=cR kvs k)\/∃kvs k b,Rd H a (.dT kvs)/\y=.ref b/\H b=some (.tup (k.map kV))/\r=cR kvs k
def fXC(H:Hp)(a:Addr)(y v:V)(H':Hp):Prop:=
 (∃kvs k,H a=some (.dK kvs)/\y=kV k/\kvs.length<sizeLine/\H'=upd H a (.dK (eV kvs k v)))\/
 ∃kvs k b,H a=some (.dT kvs)/\y=.ref b/\H b=some (.tup (k.map kV))/\kvs.length<sizeLine/\H'=upd H a (.dT (eV kvs k v))
section
variable {r:Value} {o:Option V}
def Inv.big(I:Inv X y3 σ H s):sysModules<s.heap.objs.size:=by
 have h:mainGlobals<s.heap.objs.size:=(I.mod.glob.keeps I.bk).lt
 exact Nat.lt_trans (by decide) h
def cX0{Q:Q0}(hu:A.units+1<cLine)(I:Inv X y3 σ H s)(g:tY H a y (some v))(ry:RelV y u)(h:∀w' s',Inv X y3 σ H s'->RelV v w'->Q w' s'):wpAny (model X.prog X.w) A (getItem (.ref a) u) Q E s:=by
 rcases g with⟨kvs,k,e,ey,l⟩|⟨kvs,k,b,e,ey,eb,l⟩
 ·subst ey;obtain⟨z,hd,vs,rel,dd⟩:=lN I.hok e;obtain⟨w',hw,rw'⟩:=RelO.some_of (v:=v) (o:=valueAt vs k) (by rw[l];exact rel.val k)
  exact wpAny_getItem_of (uW ry) dd.mapOf hw (h w' _ (I.tok _) rw')
 ·subst ey;cases (show u=Value.ref b from ry);obtain⟨z,hd,xs,rel,dd⟩:=sY I.hok e;obtain⟨w',hw,rw'⟩:=RelO.some_of (v:=v) (o:=(atKey xs k).map (·.2)) (by rw[l];exact rel.val k)
  obtain⟨p,hp,hp2⟩:=Bz.mp hw;refine wpAny_getItem_heap (Et hu) (pE I.hok eb) dd hp ?_;rw[hp2];exact h w' _ (I.tok _) rw'
def fJH{Q:Q0}(hu:A.units+1<cLine)(I:Inv X y3 σ H s)(g:tY H a y o)(ry:RelV y u)(h:∀s',Inv X y3 σ H s'->Q (.bool o.isSome) s'):wpAny (model X.prog X.w) A (compareOp .In u (.ref a)) Q E s:=by
 rcases g with⟨kvs,k,e,ey,l⟩|⟨kvs,k,b,e,ey,eb,l⟩
 ·subst ey;obtain⟨z,hd,vs,rel,dd⟩:=lN I.hok e;refine wpAny_in_of (uW ry) hd dd.mapOf ?_;rw[<-(rel.val k).isSome_eq,<-l];exact h _ (I.tok _)
 ·subst ey;cases (show u=Value.ref b from ry);obtain⟨z,hd,xs,rel,dd⟩:=sY I.hok e;refine wpAny_in_heap (Et hu) (pE I.hok eb) hd dd ?_;have q:=(rel.val k).isSome_eq
  rw[Option.isSome_map]at q;rw[<-q,<-l];exact h _ (I.tok _)
def dZS{Q:Q0}(hu:A.units+1<cLine)(I:Inv X y3 σ H s)(g:tY H a y o)(ry:RelV y u)(h:∀s',Inv X y3 σ H s'->Q (.bool (!o.isSome)) s'):wpAny (model X.prog X.w) A (compareOp .NotIn u (.ref a)) Q E s:=by
 rcases g with⟨kvs,k,e,ey,l⟩|⟨kvs,k,b,e,ey,eb,l⟩
 ·subst ey;obtain⟨z,hd,vs,rel,dd⟩:=lN I.hok e;refine wpAny_notIn_of (uW ry) hd dd.mapOf ?_;rw[<-(rel.val k).isSome_eq,<-l];exact h _ (I.tok _)
 ·subst ey;cases (show u=Value.ref b from ry);obtain⟨z,hd,xs,rel,dd⟩:=sY I.hok e;refine wpAny_notIn_heap (Et hu) (pE I.hok eb) hd dd ?_;have q:=(rel.val k).isSome_eq
  rw[Option.isSome_map]at q;rw[<-q,<-l];exact h _ (I.tok _)
def bJD{t':Nat}{ob:HO}(I:Inv X y3 σ H s)(mu:Mut (H a))(hs:Heap.SameBut a s.heap h')(he:∃q,h'.get? a=some q)(new:ObjOk X.prog X.w (upd H a ob) h' a ob):Inv X y3 σ (upd H a ob) {s with heap:=h',toks:=t'}:=
 I.write (x:=a) (e:=a) mu (.inl rfl) (λb q hb z=>(hs.2 b hb).trans z) he new
def fQA{vs:List (Key×Value)}(z:kvs.length<=sizeLine)(hd:(a==sysModules)=false)(rel:KV kvs vs)(dd:h'.DictOf (bK P w) a vs):ObjOk P w H' h' a (.dK kvs):=⟨z,hd,vs,rel,dd⟩
def bJ9{Q:Unit->Shared->Prop}(hu:A.units+1<cLine)(I:Inv X y3 σ H s)(g:fXC H a y v H')(ry:RelV y u)(rv:RelV v r)(h:∀s',Inv X y3 σ H' s'->Q () s'):wpAny (model X.prog X.w) A (setItem (.ref a) u r) Q E s:=by
 rcases g with⟨kvs,k,e,ey,l,eH⟩|⟨kvs,k,b,e,ey,eb,l,eH⟩
 ·subst ey eH;obtain⟨z,hd,vs,rel,dd⟩:=eXU I.hok e;have hz:vs.length<=sizeLine:=by rw[<-rel.length];exact z
  have hl:(eV kvs k v).length<=sizeLine:=by have:=fW kvs k v;omega
  refine wpAny_setItem_pairs (hsz:=hz) (uW ry) dd λh' dd' hs=>h _ ?_;have he:∃q,h'.get? a=some q:=let ⟨q,_,_,hq,_⟩:=dd';⟨q,hq⟩
  exact bJD I (by rw[e];exact True.intro) hs he (fQA hl hd (rel.put k rv) dd')
 ·subst ey eH;cases (show u=Value.ref b from ry);obtain⟨z,hd,xs,rel,dd⟩:=eQ9 I.hok e;have hz:xs.length<=sizeLine:=by rw[<-Paired.length rel];exact z
  have hl:(eV kvs k v).length<=sizeLine:=by have:=fW kvs k v;omega
  refine wpAny_setItem_heap (hsz:=hz) (Et hu) (pE I.hok eb) dd λh' dd' hs=>h _ ?_;obtain⟨q,es,ep,hq,h2,h3,h4,_,h5⟩:=dd';refine bJD I (by rw[e];exact True.intro) hs ⟨q,hq⟩ ⟨hl,hd,_,(rel.put k eb rv).keeps λc ys ec=>?_,q,es,ep,hq,h2,h3,h4,h5⟩
  rw[aM (fXJ ec e (λz=>nomatch z))]
  exact ec
end
def fZE(i:Expr):Prop:=∀ov iv,subscripted i false ov iv=operate [ov,iv] (getItem ov iv)
def dJJ{value slice:Expr}{id:String}{Q:Q0}(hl:typeLookup (.type T) "__getitem__"=pure (some (.builtin id)))(hs:fZE slice)(h:wpAny (model prog w) A (eval value env) (λo s₁=>wpAny (model prog w) A (eval slice env) (λi s₂=>s₂.TypeIs o T/\wpAny (model prog w) A (getItem o i) Q E s₂) E s₁) E s):wpAny (model prog w) A (eval (.Subscript value slice pos) env) Q E s:=by
 refine Subscript_ (Cq h (λo s₁ h₁=>Cq h₁ (λi s₂ h₂=>?_) λ_ _ x=>x) λ_ _ x=>x);obtain⟨hT,h₂⟩:=h₂;unfold subscriptTail;refine Ae ?_;rw[getitemInPython_of_ne hT.not_modules];refine Ae (wpAny_specialOf hT hl ?_);have fin:wpAny (model prog w) A (subscripted slice false o i) (λr s₃=>wpAny (model prog w) A (letTemporaryGo value o r >>= λ_=>pure r) Q E s₃) E s₂:=by
  rw[hs o i];exact wpAny_operating (Cq h₂ (λr s₃ h₃=>Ae (wpAny_letTemporaryGo (Aq h₃))) λ_ _ x=>x)
 first
  |exact Aq (Ae fin)
  |exact Ae (Aq (Ae fin))
  |exact Ae fin
def aJ4{o:Option V}(I:Inv X y3 σ H s)(g:tY H a y o):s.TypeIs (.ref a) "dict" := by
 rcases g with⟨kvs,k,e,_,_⟩|⟨kvs,k,b,e,_,_,_⟩
 ·obtain⟨_,_,vs,_,dd⟩:=lN I.hok e;exact dd.typeIs
 ·obtain⟨_,_,xs,_,dd⟩:=sY I.hok e;exact dd.typeIs
def eXA(td ty:TE):TE:=λσ H Q=>td σ H λx H1=>ty σ H1 λy H2=>∃a v,x=.ref a/\tY H2 a y (some v)/\Q v H2
def eQ5(td ty tv:TE):TS:=λD σ H=>tv σ H λv H1=>td σ H1 λx H2=>ty σ H2 λy H3=>∃a H4,x=.ref a/\fXC H3 a y v H4/\D.nx σ H4
section
variable {o i value:Expr} {pos':Pos} {td ty:TE}
def kE(hu:X.A.units+1<cLine)(ho:PE X o td)(hi:PE X i ty)(hs:fZE i):PE X (.Subscript o i pos) (eXA td ty):=by
 intro y3 s σ H Q I h;refine dJJ PySem.F.slot_dict_getitem.lookup hs (thn (ho y3 s σ H _ I h) λu s1 ⟨x,H1,I1,rx,q1⟩=>thn (hi y3 s1 σ H1 _ I1 q1) λiv s2 ⟨y,H2,I2,ry,a,v,ex,g,q2⟩=>?_);subst ex;obtain rfl:u=Value.ref a:=rx;exact⟨aJ4 I2 g,cX0 hu I2 g ry λw' s3 I3 rw'=>⟨v,H2,I3,rw',q2⟩⟩
def iM(hu:X.A.units+1<cLine)(ho:PE X o td)(hi:PE X i ty)(hv:PE X value tv)(hs:swapsWith value (some (.Subscript o i pos')) pos.line X.env=pure false):PS X (.Assign [.Subscript o i pos'] value pos) (eQ5 td ty tv):=by
 intro y3 s σ H D I h;refine wpAny_Assign_Subscript (thn (hv y3 s σ H _ I h) λr s1 ⟨v,H1,I1,rv,q1⟩=>thn (ho y3 s1 σ H1 _ I1 q1) λu s2 ⟨x,H2,I2,rx,q2⟩=>thn (hi y3 s2 σ H2 _ I2 q2) λiv s3 ⟨y,H3,I3,ry,a,H4,ex,g,q3⟩=>?_) hs;subst ex;obtain rfl:u=Value.ref a:=rx;exact bJ9 hu I3 g ry rv λs4 I4=>⟨σ,H4,I4,q3⟩
end
def cZM(h:Heap)(hb:sysModules<h.objs.size):ObjOk P w H (h.push {cls:=.type "dict",data:=.dict #[]}) h.objs.size (.dK []):=
 ⟨Da _,Cw.mpr (Ne.symm (Bl hb)),[],.nil,Heap.DictOf.new h⟩
def dQR(h:Heap)(hb:sysModules<h.objs.size):ObjOk P w H (h.push {cls:=.type "dict",data:=.dict #[]}) h.objs.size (.dT []):=
 ⟨Da _,Cw.mpr (Ne.symm (Bl hb)),[],.nil,_,#[],0,Ay _ rfl,⟨rfl,rfl,rfl⟩,rfl,rfl,List.nodup_nil⟩
def cZZ:TE:=λ_ H Q=>∀p,H p=none->Q (.ref p) (upd H p (.dK []))
def dXF:TE:=λ_ H Q=>∀p,H p=none->Q (.ref p) (upd H p (.dT []))
def vM:PE X (.Dict [] [] pos) cZZ:=λy3 s σ H Q I h=>
 wpAny_Dict_empty ⟨.ref s.heap.objs.size,_,I.laid (a:=s.heap.objs.size) (o:=.dK []) (t':=s.toks) (λ_ _ q=>Ah _ q) (Ai _) (cZM s.heap I.big),rfl,h _ (I.hok.fresh (Ai _))⟩
def aJS:PE X (.Dict [] [] pos) dXF:=λy3 s σ H Q I h=>
 wpAny_Dict_empty ⟨.ref s.heap.objs.size,_,I.laid (a:=s.heap.objs.size) (o:=.dT []) (t':=s.toks) (λ_ _ q=>Ah _ q) (Ai _) (dQR s.heap I.big),rfl,h _ (I.hok.fresh (Ai _))⟩
def IsD(H:Hp)(a:Addr):Prop:=(∃kvs,Rd H a (.dK kvs))\/∃kvs,Rd H a (.dT kvs)
def eZL(I:Inv X y3 σ H s)(d:IsD H a):s.TypeIs (.ref a) "dict"/\(∀b,Value.ref a=.ref b->∃ob,s.heap.get? b=some ob/\ob.dict=none)/\(a==sysModules)=false:=by
 rcases d with⟨kvs,e⟩|⟨kvs,e⟩
 ·obtain⟨_,hd,vs,_,dd⟩:=lN I.hok e;refine⟨dd.typeIs,λb q=>?_,hd⟩;cases q;obtain⟨ob,_,_,h1,h2,_⟩:=dd;exact⟨ob,h1,h2.2.1⟩
 ·obtain⟨_,hd,xs,_,dd⟩:=sY I.hok e;refine⟨dd.typeIs,λb q=>?_,hd⟩;cases q;obtain⟨ob,_,_,h1,h2,_⟩:=dd;exact⟨ob,h1,h2.2.1⟩
section
variable {d:V} {r:Value} {o:Option V}
def eJB{Q:Q0}(hu:A.units+1<cLine)(I:Inv X y3 σ H s)(g:tY H a y o)(ry:RelV y u)(h:∀w' s',Inv X y3 σ H s'->RelV (o.getD .non) w'->Q w' s'):wpAny (model X.prog X.w) A (call (.builtin "dict.get") [.ref a,u]) Q E s:=by
 rcases g with⟨kvs,k,e,ey,l⟩|⟨kvs,k,b,e,ey,eb,l⟩
 ·subst ey;obtain⟨z,hd,vs,rel,dd⟩:=lN I.hok e;refine Ga Bw dd.typeIs Ej (Gq _ _) (meets_dict_get (bK X.prog X.w) a (uW ry) hd) ⟨_,dd.mapOf,h _ _ (I.tok _) ?_⟩;rw[l];exact(rel.val k).getD rfl
 ·subst ey;cases (show u=Value.ref b from ry);obtain⟨z,hd,xs,rel,dd⟩:=sY I.hok e;refine Ga Bw dd.typeIs Ej (Gq _ _) (meetsH_dict_get (tupleKind (bK X.prog X.w)) a b hd) ⟨Et hu,k,xs,pE I.hok eb,dd,h _ _ (I.tok _) ?_⟩;rw[l];exact(rel.val k).getD rfl
def eJ1{Q:Q0}(hu:A.units+1<cLine)(I:Inv X y3 σ H s)(g:tY H a y o)(ry:RelV y u)(rd:RelV d r)(h:∀w' s',Inv X y3 σ H s'->RelV (o.getD d) w'->Q w' s'):wpAny (model X.prog X.w) A (call (.builtin "dict.get") [.ref a,u,r]) Q E s:=by
 rcases g with⟨kvs,k,e,ey,l⟩|⟨kvs,k,b,e,ey,eb,l⟩
 ·subst ey;obtain⟨z,hd,vs,rel,dd⟩:=lN I.hok e;refine Ga Bw dd.typeIs Ej (PySem.F.args_dict_get_3 _ _ _) (meets_dict_get_default (bK X.prog X.w) a (uW ry) hd r) ⟨_,dd.mapOf,h _ _ (I.tok _) ?_⟩;rw[l];exact(rel.val k).getD rd
 ·subst ey;cases (show u=Value.ref b from ry);obtain⟨z,hd,xs,rel,dd⟩:=sY I.hok e;refine Ga Bw dd.typeIs Ej (PySem.F.args_dict_get_3 _ _ _) (meetsH_dict_get_default (tupleKind (bK X.prog X.w)) a b hd r) ⟨Et hu,k,xs,pE I.hok eb,dd,h _ _ (I.tok _) ?_⟩;rw[l];exact(rel.val k).getD rd
end
def Inv.re(I:Inv X y3 σ H s)(hn:∀b,H b=none->H' b=none)(tups:∀b xs,X.H₀ b=some (.tup xs)->H' b=some (.tup xs))(frzs:∀b o u,X.H₀ b=some (.frz o u)->H' b=some (.frz o u))(tbls:∀b ps,X.H₀ b=some (.tbl ps)->∃more,H' b=some (.tbl (ps++more)))(hok:HOk X.prog X.w H' s.heap):Inv X y3 σ H' s:=
 ⟨I.ok,I.os,I.bare,⟨I.base.keep,I.base.slot,λb o e n hx=>hn b (I.base.free b o e n hx),I.base.there,tups,frzs,tbls⟩,I.loc,I.cell,hn _ I.free,λx c e=>hn c (I.freeC x c e),λp hp=>by
  obtain⟨a,b,c,d,e⟩:=I.pin p hp;exact⟨a,hn _ b,c,d,e⟩,hok,I.len⟩
def fJR:HO->Bool
 |.dK _=>true
 |.dT _=>true
 |_=>false
def Inv.freeze{u:HO}(I:Inv X y3 σ H s)(ha:H a=some u)(hu:fJR u=true)(ho:s.heap.get? a=some o):Inv X y3 σ (upd H a (.frz o u)) s:=by
 have ne:∀c v,H c=some v->fJR v=false->c≠a:=λc v q n z=>by rw[z,ha]at q;cases q;rw[n]at hu;cases hu
 have own:∀c y,H c=some (.own y)->upd H a (.frz o u) c=some (.own y):=λc y q=>by rw[aM (ne c _ q rfl)];exact q
 have tup:∀c xs,H c=some (.tup xs)->upd H a (.frz o u) c=some (.tup xs):=λc xs q=>by rw[aM (ne c _ q rfl)];exact q
 refine I.re (λb q=>by rw[aM (λz=>by rw[z,ha]at q;cases q)];exact q) (λb xs q=>tup b xs (I.base.tups b xs q)) (λb o' v q=>?_) (λb ps q=>?_) (λb v q=>?_)
 ·have:=I.base.frzs b o' v q
  rw[aM (ne b _ this rfl)];exact this
 ·obtain⟨m,e⟩:=I.base.tbls b ps q;exact⟨m,by rw[aM (ne b _ e rfl)];exact e⟩
 ·by_cases hb:b=a
  ·subst hb;rw[aH]at q;cases q;exact(show s.heap.get? b=some o/\ObjOk X.prog X.w (upd H b (.frz o u)) s.heap b u from⟨ho,(I.hok b _ ha).stay (λ_ _ _ q=>q) (λc=>own c b) tup⟩)
  ·rw[aM hb]at q;exact(I.hok b v q).stay (λ_ _ _ q=>q) (λc=>own c b) tup
def unf(Hs H:Hp):Hp:=λb=>match H b with
 |some (.frz o u)=>(match Hs b with|some (.frz _ _)=>some (.frz o u)|_=>some u)
 |x=>x
def fK{Hs:Hp}{u:HO}(h:H b=some u)(n:∀o v,u≠.frz o v):unf Hs H b=some u:=by
 unfold unf;rw[h];cases u<;>first|rfl|exact absurd rfl (n _ _)
def aZ9(h:H b=none):unf Hs H b=none:=by unfold unf;rw[h]
def aXY{Hs:Hp}{u:HO}(h:H b=some (.frz o u))(n:∀o v,Hs b≠some (.frz o v)):unf Hs H b=some u:=by
 unfold unf;rw[h];dsimp only;split
 ·rename_i e
  exact absurd e (n _ _)
 ·rfl
def rE{o':Obj}{u u':HO}(h:H b=some (.frz o u))(n:Hs b=some (.frz o' u')):unf Hs H b=some (.frz o u):=by
 unfold unf;rw[h];dsimp only;rw[n]
def Inv.unfreeze(I:Inv X y3 σ H s)(h0:∀b o u,X.H₀ b=some (.frz o u)->Hs b=some (.frz o u)):Inv X y3 σ (unf Hs H) s:=by
 have own:∀c y,H c=some (.own y)->unf Hs H c=some (.own y):=λc y q=>fK q λ_ _ z=>by cases z
 have tup:∀c xs,H c=some (.tup xs)->unf Hs H c=some (.tup xs):=λc xs q=>fK q λ_ _ z=>by cases z
 refine I.re (λb q=>aZ9 q) (λb xs q=>tup b xs (I.base.tups b xs q)) (λb o u q=>rE (I.base.frzs b o u q) (h0 b o u q)) (λb ps q=>?_) (λb u q=>?_)
 ·obtain⟨m,e⟩:=I.base.tbls b ps q;exact⟨m,fK e λ_ _ z=>by cases z⟩
 ·cases e:H b with
  |none=>rw[aZ9 e]at q;cases q
  |some v=>
   have ok:=I.hok b v e
   by_cases hf:∃o v',v=.frz o v'
   ·obtain⟨o,v',rfl⟩:=hf;have ok2:s.heap.get? b=some o/\ObjOk X.prog X.w H s.heap b v':=ok
    by_cases hs:∃o' u',Hs b=some (.frz o' u')
    ·obtain⟨o',u',hs⟩:=hs;rw[rE e hs]at q;cases q;exact ok.stay (λ_ _ _ q=>q) (λc=>own c b) tup
    ·rw[aXY e λo v z=>hs ⟨o,v,z⟩]at q;cases q;exact ok2.2.stay (λ_ _ _ q=>q) (λc=>own c b) tup
   ·rw[fK e λo v' z=>hf ⟨o,v',z⟩]at q;cases q;exact ok.stay (λ_ _ _ q=>q) (λc=>own c b) tup
def cZD(Hs:Hp)(D:Ends):Ends:=⟨λσ H=>D.nx σ (unf Hs H),λv H=>D.rt v (unf Hs H),λσ H=>D.bk σ (unf Hs H),λσ H=>D.ct σ (unf Hs H)⟩
def fXM(t:TE):TE:=λσ H Q=>t σ H λv H'=>Q v (unf H H')
def eQ8(t:TS):TS:=λD σ H=>t (cZD H D) σ H
def cJQ{t:TE}(h:PE X e t):PE X e (fXM t):=λy3 s σ H Q I q=>thn (h y3 s σ H _ I q) λv s' ⟨x,H',I',r,q'⟩=>⟨x,unf H H',I'.unfreeze λb o u e=>I.base.frzs b o u e,r,q'⟩
def bZD{t:TS}(h:PS X st t):PS X st (eQ8 t):=λy3 s σ H D I q=>thn (h y3 s σ H _ I q) λf s' q'=>by
 cases f with
 |next=>obtain⟨σ',H',I',r⟩:=q';exact⟨σ',unf H H',I'.unfreeze λb o u e=>I.base.frzs b o u e,r⟩
 |brk=>obtain⟨σ',H',I',r⟩:=q';exact⟨σ',unf H H',I'.unfreeze λb o u e=>I.base.frzs b o u e,r⟩
 |cont=>obtain⟨σ',H',I',r⟩:=q';exact⟨σ',unf H H',I'.unfreeze λb o u e=>I.base.frzs b o u e,r⟩
 |ret u=>obtain⟨v,σ',H',I',rv,r⟩:=q';exact⟨v,σ',unf H H',I'.unfreeze λb o u e=>I.base.frzs b o u e,rv,r⟩
def fZP{t:TE}(h:t σ H λv H'=>Q v (unf H H')):fXM t σ H Q:=h
def eZ0{t:TS}(h:t (cZD H D) σ H):eQ8 t D σ H:=h
def wL{u:HO}(ha:Hs a=some u)(hu:∀o v,u≠.frz o v)(h:Same (upd Hs a (.frz o u)) H):Same Hs (unf Hs H):=λb v q=>by
 by_cases e:b=a
 ·subst e;rw[ha]at q;cases q;exact aXY (h _ _ aH) λo v z=>by rw[ha]at z;cases z;exact hu _ _ rfl
 ·have:=h b v (by rw[aM e];exact q)
  by_cases hf:∃o v',v=.frz o v'
  ·obtain⟨o',v',rfl⟩:=hf;exact rE this q
  ·exact fK this λo v' z=>hf ⟨o,v',z⟩
def cQ8(h:Same Hs H):Same Hs (unf Hs H):=λb v q=>by
 have:=h b v q
 by_cases hf:∃o v',v=.frz o v'
 ·obtain⟨o',v',rfl⟩:=hf;exact rE this q
 ·exact fK this λo v' z=>hf ⟨o,v',z⟩
def wQ{α β:Type}{R:α->β->Prop}{xs:List α}{ys:List β}(r:Paired R xs ys):∀ {i:Nat} {x:α},xs[i]?=some x->∃y,ys[i]?=some y/\R x y:=by
 induction r with
 |nil=>intro i x h;cases h
 |cons h t ih=>
  intro i x hx;cases i with
  |zero=>cases hx;exact⟨_,rfl,h⟩
  |succ i=>exact ih (i:=i) hx
def fJJ{k:Key}(h:(bK P w).is k u=true):RelV (kV k) u:=by
 rcases cD h with⟨i,t,rfl,rfl⟩|⟨x,t,rfl,rfl⟩
 ·exact⟨t,rfl⟩
 ·exact⟨t,rfl⟩
def Itd(a:Addr)(o:Obj)(kvs:List (Key×V)):It:=⟨λi H=>H a=some (.frz o (.dK kvs))/\i<kvs.length,λi H x H'=>H'=H/\∃kv,kvs[i]?=some kv/\x=kV kv.1,λi H=>H a=some (.frz o (.dK kvs))/\kvs.length=i⟩
def bZF(I:Inv X y3 σ H s)(ha:H a=some (.frz o (.dK kvs)))(hep:∃es,o.data=.dict es ep):kvs.length<=sizeLine/\(a==sysModules)=false/\∃vs,KV kvs vs/\s.heap.DictAt (bK X.prog X.w) a vs ep:=by
 have ok:s.heap.get? a=some o/\(kvs.length<=sizeLine/\(a==sysModules)=false/\∃vs,KV kvs vs/\s.heap.DictOf (bK X.prog X.w) a vs):=I.hok a _ ha
 obtain⟨e,z,hd,vs,rel,o',es',ep',ho',hx,hdat,r⟩:=ok;rw[e]at ho';cases ho';obtain⟨es,hes⟩:=hep;have q:=hdat
 rw[hes]at q;cases q;exact⟨z,hd,vs,rel,o,_,e,hx,hdat,r⟩
def cX1(a it:Addr)(o:Obj)(kvs:List (Key×V))(ep:Nat)(hep:∃es,o.data=.dict es ep):Turn P w K tg (Itd a o kvs) [it] it (λi h=>h.IsKeyIter it a i kvs.length ep) where
 mem:=by simp
 obj:=λi h st b hb=>by
  have e:b=it:=by simpa using hb
  subst e;obtain⟨o,e,c,d⟩:=st;exact⟨o,e,λv z=>by rw[d]at z;cases z⟩
 keep:=λi h h' st k=>let ⟨o,ho,r⟩:=st;⟨o,k it (by simp) o ho,r⟩
 item:=by
  intro X hP hw hK hc i y3 s σ H E I hf st hg;subst hP hw hK;obtain⟨ha,hi⟩:=hg;obtain⟨z,hd,vs,rel,dd⟩:=bZF I ha hep;have hlv:=rel.length
  obtain⟨f0,f1,f2,f3,f4,f5⟩:=hf it (by simp)
  obtain⟨⟨k,v⟩,hx,hk1,_⟩:=wQ rel (Aa hi);refine wpAny_pyNext_dict_item (knd:=bK X.prog X.w) (by rw[<-hlv];exact st) dd hx λkey h' hk st' sb=>?_
  have I1:Inv X y3 σ H {s with heap:=h'}:=I.turned (t':=s.toks) (λb o hb e=>(sb.2 b hb).trans e) f0 f1 f3 f4 f5
  obtain⟨oi,e,c,d⟩:=id st';refine⟨key,rfl,wF (s:={s with heap:=h'}) e c d (by decide) ⟨kV k,H,I1,fJJ hk,⟨rfl,kvs[i],Aa hi,by rw[hk1]⟩,?_,λb hb=>(hf b hb).1⟩⟩
  rw[hlv];exact st'
 done:=by
  intro X hP hw hK hc i y3 s σ H E I hf st hg;subst hP hw hK;obtain⟨ha,hi⟩:=hg;obtain⟨z,hd,vs,rel,dd⟩:=bZF I ha hep;have hlv:=rel.length
  obtain⟨f0,f1,f2,f3,f4,f5⟩:=hf it (by simp)
  exact wpAny_pyNext_dict_end (knd:=bK X.prog X.w) (I.ok.hd hc) (by rw[<-hlv];exact st) dd (List.getElem?_eq_none (by omega)) λh' eb=>⟨rfl,I.turned (t':=s.toks) (λb o hb e=>eb b o hb e) f0 f1 f3 f4 f5⟩
 self:=λ_ _ _ _ _ st h=>wpAny_pyIter_keyiter st h
def dXI(I:Inv X y3 σ H s)(ha:H a=some (.dK kvs)):∃o es ep,s.heap.get? a=some o/\o.data=.dict es ep:=by
 obtain⟨_,_,vs,_,o,es,ep,ho,_,hd,_⟩:=eXU I.hok ha;exact⟨o,es,ep,ho,hd⟩
def eQW(I:Inv X y3 σ H s)(ha:H a=some (.frz o (.dK kvs))):∃ep,∃es,o.data=.dict es ep:=by
 have ok:s.heap.get? a=some o/\(kvs.length<=sizeLine/\(a==sysModules)=false/\∃vs,KV kvs vs/\s.heap.DictOf (bK X.prog X.w) a vs):=I.hok a _ ha
 obtain⟨e,_,_,vs,_,o',es,ep,ho,_,hd,_⟩:=ok;rw[e]at ho;cases ho;exact⟨ep,es,hd⟩
def aQY(H:Hp)(a:Addr)(R:Obj->List (Key×V)->Hp->Prop):Prop:=(∃kvs,H a=some (.dK kvs)/\∀o,R o kvs (upd H a (.frz o (.dK kvs))))\/∃o kvs,H a=some (.frz o (.dK kvs))/\R o kvs H
def walk_at{R:Obj->List (Key×V)->Hp->Prop}(I:Inv X y3 σ H s)(h:aQY H a R):∃o kvs H' ep,Inv X y3 σ H' s/\H' a=some (.frz o (.dK kvs))/\(∃es,o.data=.dict es ep)/\R o kvs H':=by
 rcases h with⟨kvs,ha,q⟩|⟨o,kvs,ha,q⟩
 ·obtain⟨o,es,ep,ho,hd⟩:=dXI I ha;exact⟨o,kvs,_,ep,I.freeze ha rfl ho,aH,⟨es,hd⟩,q o⟩
 ·obtain⟨ep,es,hd⟩:=eQW I ha;exact⟨o,kvs,H,ep,I,ha,⟨es,hd⟩,q⟩
def eXK(tl:TE):TI:=λσ H R=>tl σ H (iP λa H1=>aQY H1 a λo kvs H2=>R (Itd a o kvs) H2)
def eQJ(hl:PE X l tl):PI X tg l (eXK tl):=by
 intro y3 s σ H R I h;refine thn (hl y3 s σ H _ I h) λv s1 ⟨x,H1,I1,r1,q1⟩=>?_;unfold iP at q1;split at q1
 ·cases r1;rename_i a0 _
  obtain⟨o,kvs,H2,ep,I2,ha,hep,q⟩:=walk_at I1 q1;obtain⟨z,hd,vs,rel,dd⟩:=bZF I2 ha hep;refine wpAny_pyIter_dict (knd:=bK X.prog X.w) hd dd ?_;refine⟨s1.heap.objs.size,[s1.heap.objs.size],_,_,H2,rfl,I2.kept (t':=s1.toks) λb o e=>Ah _ e,cX1 a0 _ o kvs ep hep,⟨_,Ay _ rfl,rfl,by rw[rel.length];rfl⟩,λb hb=>?_,q⟩
  have e:b=s1.heap.objs.size:=by simpa using hb
  subst e;exact I2.fpOk (Ai _) (I2.hok.fresh (Ai _))
 ·exact q1.elim
def isD(H:Hp)(p:Addr):Bool:=match H p with
 |some (.dK _)=>true
 |some (.dT _)=>true
 |some (.frz _ (.dK _))=>true
 |some (.frz _ (.dT _))=>true
 |_=>false
def eJR{p:Addr}(h:isD H p=true):IsD H p:=by
 unfold isD at h;split at h
 ·exact .inl ⟨_,.inl (by assumption)⟩
 ·exact .inr ⟨_,.inl (by assumption)⟩
 ·exact .inl ⟨_,.inr ⟨_,by assumption⟩⟩
 ·exact .inr ⟨_,.inr ⟨_,by assumption⟩⟩
 ·cases h
def rN{p:Addr}(h:H p=some (.dK kvs)):isD H p=true:=by unfold isD;rw[h]
def cZS{p:Addr}(h:H p=some (.frz o (.dK kvs))):isD H p=true:=by unfold isD;rw[h]
def dZZ(h:tl σ H (iP λa H1=>aQY H1 a λo kvs H2=>R (Itd a o kvs) H2)):eXK tl σ H R:=h
def eZ4{Rw:Obj->List (Key×V)->Hp->Prop}(e:H a=some (.dK kvs))(h:∀o,Rw o kvs (upd H a (.frz o (.dK kvs)))):aQY H a Rw:=.inl ⟨kvs,e,h⟩
section
variable {o:Expr} {id:String}
def dX8(r:V->List V->Hp->VK->Prop)(to:TE)(t:TA):TE:=λσ H Q=>to σ H (iP λp H1=>isD H1 p=true/\t σ H1 λxs H2=>r (.ref p) xs H2 Q)
def iD(slot:Slot "dict" name id)(hty:typeOf (.builtin id)=pure (.type "method_descriptor"))(hm:MtR X id r)(ho:PE X o to)(ha:PA X (e::es) t)(hbase:attributeBase o name X.env (eval o X.env)=eval o X.env:=by rfl)(hfew:((backTo cpos (starEach (e::es) X.env)).all (λx=>!x.1)&&(backToKw cpos (keywordEach [] X.env)).all (λx=>x.1.isSome)
 && decide ((e::es).length+([]:List Keyword).length+(if ([]:List Keyword).isEmpty then 0 else 1)<30))=true:=by rfl)(hline:(apos.endLine==cpos.line)=true:=by rfl)(hs:starEach (e::es) X.env=(false,eval e X.env)::starEach es X.env:=by rfl)(hplain:(backTo cpos (starEach es X.env)).any (·.1)=false:=by rfl):PE X (.Call (.Attribute o name apos) (e::es) [] cpos) (dX8 r to t):=by
 intro y3 s σ H Q I h;refine Gx hbase hfew hline rfl (thn (ho y3 s σ H _ I h) λv s1 ⟨x,H1,I1,r1,q⟩=>?_);unfold iP at q;split at q
 ·obtain⟨hd,q1⟩:=q;obtain⟨h1,h2,_⟩:=eZL I1 (eJR hd);cases _root_.id r1;refine⟨"dict",_,PySem.F.plainAttrs_dict,slot,hty,h1,h2,?_⟩;have hA:=ha cpos y3 s1 σ H1 _ I1 q1
  rw[hs]at hA ⊢;refine Fj (by show (false || (backTo cpos (starEach es X.env)).any (·.1))=false;rw[hplain]<;>rfl) (Fw ?_)
  exact thn hA λus s2 ⟨vs,H2,I2,r2,q2⟩=>hm y3 s2 σ H2 _ vs _ us Q I2 r1 r2 q2
 ·exact q.elim
def fZH:V->List V->Hp->VK->Prop:=λx vs H Q=>∃a y z o,x=.ref a/\vs=[y,z]/\tY H a y o/\Q (o.getD z) H
def aZK(hu:X.A.units+1<cLine):MtR X "dict.get" fZH:=by
 intro y3 s σ H x vs v us Q I rx rv h;obtain⟨a,y,z,ov,rfl,rfl,g,q⟩:=h;cases rx;obtain⟨u,w',rfl,ru,rw'⟩:=cJN rv;exact eJ1 hu I g ru rw' λw1 s1 I1 r1=>⟨_,H,I1,r1,q⟩
def eJG:V->List V->Hp->VK->Prop:=λx vs H Q=>∃(p:Addr) (ys:List Str) (z:Str),x=.ref p/\vs=[.str z]/\rdL H p=some (ys.map V.str)/\Q (.int ((ys.countP (· == z):Nat):Int)) H
def tH(z:Str):∀ys:List Str,countIn (.str z) (ys.map PyData.str)=((ys.countP (· == z):Nat):Int)
 |[]=>rfl
 |y::r=>by
  have ih:=tH z r
  rw[Aw];unfold countIn;rw[ih,En];by_cases e:y=z
  ·subst e;simp[same];omega
  ·simp[same,e]
def dZX:MtR X "list.count" eJG:=by
 intro y3 s σ H x vs v us Q I rx rv h;obtain⟨p,ys,z,rfl,rfl,hp,q⟩:=h;cases rx;obtain⟨u,rfl,ru⟩:=rv.one;obtain⟨t,rfl⟩:=ru;obtain⟨its,r,pl,_⟩:=I.list (bG hp);exact count_list_strs pl.isList (vJ r) (by rw[tH];exact⟨.int _,H,I.tok _,⟨_,rfl⟩,q⟩)
def fQF(x y:V)(H:Hp)(Q:VK):Prop:=∃a v,x=.ref a/\tY H a y (some v)/\Q v H
def dXK(D:Ends)(σ:St)(x y v:V)(H:Hp):Prop:=∃a H4,x=.ref a/\fXC H a y v H4/\D.nx σ H4
end
section
variable {w:V} {td ty:TE}
def eQV(h:to σ H (iP λp H1=>isD H1 p=true/\t σ H1 λxs H2=>r (.ref p) xs H2 Q)):dX8 r to t σ H Q:=h
def fXX{P:Prop}(e:isD H a=true)(h:P):isD H a=true/\P:=⟨e,h⟩
def bJU(e:Rd H a (.dK kvs))(h:Q ((cR kvs (Sum.inr z)).getD w) H):fZH (.ref a) [.str z,w] H Q:=⟨a,.str z,w,_,rfl,rfl,.inl ⟨kvs,.inr z,e,rfl,rfl⟩,h⟩
def eZZ(h:∀p,H p=none->Q (.ref p) (upd H p (.dK []))):cZZ σ H Q:=h
def fZK(h:td σ H λx H1=>ty σ H1 λy H2=>fQF x y H2 Q):eXA td ty σ H Q:=h
def aX9(e:Rd H a (.dK kvs))(l:cR kvs (Sum.inr z)=some v)(h:Q v H):fQF (.ref a) (.str z) H Q:=⟨a,v,rfl,.inl ⟨kvs,.inr z,e,rfl,l.symm⟩,h⟩
def fQL(h:tv σ H λv H1=>td σ H1 λx H2=>ty σ H2 λy H3=>dXK D σ x y v H3):eQ5 td ty tv D σ H:=h
def nF(e:H a=some (.dK kvs))(l:kvs.length<sizeLine)(h:D.nx σ (upd H a (.dK (eV kvs (Sum.inr z) v)))):dXK D σ (.ref a) (.str z) v H:=⟨a,_,rfl,.inl ⟨kvs,.inr z,e,rfl,l,rfl⟩,h⟩
end
section
open PySem.AutoSeq1 (wpAny_loadPart')
open PySem.MeetsSeq PySem.MeetsSeq2 PySem.MeetsSeq3
def EqW(P:Program)(w:World)(A:Around)(s:Shared)(u v:Value):Prop:=∀(E:Value->Shared->Prop) (Q:Bool->Shared->Prop),Q true s->wpAny (model P w) A (eqBool u v) Q E s
def cX2(l b:Addr)(xs ys:Array Value)(n n2:Nat)(dd dd2:Option Addr)(sl sl2:Array (Option Value))(hsz:xs.size=ys.size)(k:Nat):∀i:Nat,xs.size-i=k->MeetsIn P w (Builtin.«list.__eq__.loop» ⟨[.ref l,.ref b,rawInt i,rawInt 2],[]⟩)
 (λA R s=>s.heap.get? l=some ⟨.type "list",dd,.seq xs n,sl⟩/\s.heap.get? b=some ⟨.type "list",dd2,.seq ys n2,sl2⟩/\(∀j (h1:j<xs.size) (h2:j<ys.size),EqW P w A.in1 s xs[j] ys[j])/\R (.ok (.ret (.bool true))) s):=by
 induction k with
 |zero=>
  intro i hk A R s h;obtain⟨hp,g,d,tk,os⟩:=s;obtain⟨ha,hq,he,h⟩:=h
  wp_walk using (Cc ha),(Cc hq)
  have n1:xs[((i:Nat):Int).toNat]?=none:=by simp;omega
  have n2':ys[((i:Nat):Int).toNat]?=none:=by simp;omega
  rw[n1,n2']
  wp_walk using (Cc ha),(Cc hq)
  show R (.ok (.ret (.bool (xs.size==ys.size)))) _
  rw[hsz,Em];exact h
 |succ k ih=>
  intro i hk A R s h;obtain⟨hp,g,d,tk,os⟩:=s;obtain⟨ha,hq,he,h⟩:=h
  wp_walk using (Cc ha),(Cc hq)
  have l1:i<xs.size:=by omega
  have l2:i<ys.size:=by omega
  have n1:xs[((i:Nat):Int).toNat]?=some xs[i]:=by simp[l1]
  have n2':ys[((i:Nat):Int).toNat]?=some ys[i]:=by simp[l2]
  have hc:((i:Int)+1)=((i+1:Nat):Int):=by push_cast;rfl
  rw[n1,n2'];refine Ae (he i l1 l2 _ _ ?_)
  wp_walk
  rw[hc];refine⟨plainId_quiet plain_eq_loop _,Gh entry_eq_loop ?_⟩;rw[Fx plain_eq_loop _];exact ih (i+1) (by omega) A R _ ⟨ha,hq,he,h⟩
def cQV(l b:Addr)(xs ys:Array Value)(n n2:Nat)(dd dd2:Option Addr)(sl sl2:Array (Option Value))(hsz:xs.size=ys.size)(k:Nat):∀i:Nat,xs.size-i=k->MeetsIn P w (Builtin.«list.__eq__.loop» ⟨[.ref l,.ref b,rawInt i,rawInt 3],[]⟩)
 (λA R s=>s.heap.get? l=some ⟨.type "list",dd,.seq xs n,sl⟩/\s.heap.get? b=some ⟨.type "list",dd2,.seq ys n2,sl2⟩/\(∀j (h1:j<xs.size) (h2:j<ys.size),EqW P w A.in1 s xs[j] ys[j])/\R (.ok (.ret (.bool false))) s):=by
 induction k with
 |zero=>
  intro i hk A R s h;obtain⟨hp,g,d,tk,os⟩:=s;obtain⟨ha,hq,he,h⟩:=h
  wp_walk using (Cc ha),(Cc hq)
  have n1:xs[((i:Nat):Int).toNat]?=none:=by simp;omega
  have n2':ys[((i:Nat):Int).toNat]?=none:=by simp;omega
  rw[n1,n2']
  wp_walk using (Cc ha),(Cc hq)
  show R (.ok (.ret (.bool (xs.size != ys.size)))) _
  rw[hsz,bne_self_eq_false];exact h
 |succ k ih=>
  intro i hk A R s h;obtain⟨hp,g,d,tk,os⟩:=s;obtain⟨ha,hq,he,h⟩:=h
  wp_walk using (Cc ha),(Cc hq)
  have l1:i<xs.size:=by omega
  have l2:i<ys.size:=by omega
  have n1:xs[((i:Nat):Int).toNat]?=some xs[i]:=by simp[l1]
  have n2':ys[((i:Nat):Int).toNat]?=some ys[i]:=by simp[l2]
  have hc:((i:Int)+1)=((i+1:Nat):Int):=by push_cast;rfl
  rw[n1,n2'];refine Ae (he i l1 l2 _ _ ?_)
  wp_walk
  rw[hc];refine⟨plainId_quiet plain_eq_loop _,Gh entry_eq_loop ?_⟩;rw[Fx plain_eq_loop _];exact ih (i+1) (by omega) A R _ ⟨ha,hq,he,h⟩
section
variable {l:Addr} {xs ys:Array Value}
def eZC{Q:Q0}(hl:s.heap.IsList l xs)(hb:s.heap.IsList b ys)(hsz:xs.size=ys.size)(hu:A.units<cLine)(he:∀j (h1:j<xs.size) (h2:j<ys.size),EqW P w A.in1 s xs[j] ys[j])(h:Q (.bool true) s):wpAny (model P w) A (richCompare .Eq (.ref l) (.ref b)) Q E s:=by
 obtain⟨⟨cls,dd,data,sl⟩,ho,hc,n,hd⟩:=id hl;obtain⟨⟨cls2,dd2,data2,sl2⟩,ho2,hc2,n2,hd2⟩:=id hb;obtain rfl:cls=.type "list" := hc;obtain rfl:data=.seq xs n:=hd;obtain rfl:cls2=.type "list" := hc2;obtain rfl:data2=.seq ys n2:=hd2;have g:MeetsIn P w (Builtin.«list.__eq__» ⟨[.ref l,.ref b],[]⟩) (λA R s=>s.heap.get? l=some ⟨.type "list",dd,.seq xs n,sl⟩/\s.heap.get? b=some ⟨.type "list",dd2,.seq ys n2,sl2⟩/\(∀j (h1:j<xs.size) (h2:j<ys.size),EqW P w A.in1 s xs[j] ys[j])/\R (.ok (.ret (.bool true))) s):=by
  intro A R s h;obtain⟨hp,g,d,tk,os⟩:=s;obtain⟨ha,hq,he,h⟩:=h;have f3:=AutoSeq1.sub_list_list
  have hne:¬(xs.size != ys.size)=true:=by simp[hsz]
  wp_walk using (Cc ha),(Cc hq)
  refine⟨plainId_quiet plain_eq_loop _,Gh entry_eq_loop ?_⟩;rw[Fx plain_eq_loop _];exact cX2 l b xs ys n n2 dd dd2 sl sl2 hsz _ 0 rfl A R _ ⟨ha,hq,he,h⟩
 exact wpAny_richCompare_same_room (op:=.Eq) ⟨_,ho,rfl⟩ ⟨_,ho2,rfl⟩ PySem.F.slot_list_eq (Ga PySem.F.slot_list_eq ⟨_,ho,rfl⟩ PySem.F.entry_list_eq (PySem.F.args_list_eq_2 _ _) g ⟨ho,ho2,he,show Value.bool true≠Value.notImplemented/\Q (.bool true) s from⟨(λx=>nomatch x),h⟩⟩) hu
def fQ7{Q:Q0}(hl:s.heap.IsList l xs)(hb:s.heap.IsList b ys)(hsz:xs.size=ys.size)(hu:A.units<cLine)(he:∀j (h1:j<xs.size) (h2:j<ys.size),EqW P w A.in1 s xs[j] ys[j])(h:Q (.bool false) s):wpAny (model P w) A (richCompare .NotEq (.ref l) (.ref b)) Q E s:=by
 obtain⟨⟨cls,dd,data,sl⟩,ho,hc,n,hd⟩:=id hl;obtain⟨⟨cls2,dd2,data2,sl2⟩,ho2,hc2,n2,hd2⟩:=id hb;obtain rfl:cls=.type "list" := hc;obtain rfl:data=.seq xs n:=hd;obtain rfl:cls2=.type "list" := hc2;obtain rfl:data2=.seq ys n2:=hd2;have g:MeetsIn P w (Builtin.«list.__ne__» ⟨[.ref l,.ref b],[]⟩) (λA R s=>s.heap.get? l=some ⟨.type "list",dd,.seq xs n,sl⟩/\s.heap.get? b=some ⟨.type "list",dd2,.seq ys n2,sl2⟩/\(∀j (h1:j<xs.size) (h2:j<ys.size),EqW P w A.in1 s xs[j] ys[j])/\R (.ok (.ret (.bool false))) s):=by
  intro A R s h;obtain⟨hp,g,d,tk,os⟩:=s;obtain⟨ha,hq,he,h⟩:=h;have f3:=AutoSeq1.sub_list_list
  have hne:¬(xs.size != ys.size)=true:=by simp[hsz]
  wp_walk using (Cc ha),(Cc hq)
  refine⟨plainId_quiet plain_eq_loop _,Gh entry_eq_loop ?_⟩;rw[Fx plain_eq_loop _];exact cQV l b xs ys n n2 dd dd2 sl sl2 hsz _ 0 rfl A R _ ⟨ha,hq,he,h⟩
 exact wpAny_richCompare_same_room (op:=.NotEq) ⟨_,ho,rfl⟩ ⟨_,ho2,rfl⟩ PySem.F.slot_list_ne (Ga PySem.F.slot_list_ne ⟨_,ho,rfl⟩ PySem.F.entry_list_ne (PySem.F.args_list_ne_2 _ _) g ⟨ho,ho2,he,show Value.bool false≠Value.notImplemented/\Q (.bool false) s from⟨(λx=>nomatch x),h⟩⟩) hu
def EqW.same(u:Value):EqW P w A s u u:=λE Q hq=>SeqAt.EqAt.same u P w E Q hq
def EqW.refs(hne:l≠b)(h:∀(E:Q0) (Q:Q0),Q (.bool true) s->wpAny (model P w) A (richCompare .Eq (.ref l) (.ref b)) Q E s):EqW P w A s (.ref l) (.ref b):=λE Q hq=>by
 unfold eqBool;refine Cu (wpAny_ite_split (λhab=>absurd (by have:=Ht hab;injection this) hne) (λ_=>?_))
 exact Ae (h E _ (Fp hq))
end
def DEq(kvs kws:List (Key×V)):Prop:=kvs.length=kws.length/\∀kv∈kvs,cB kv.2=true/\cR kws kv.1=some kv.2
def bJA{kws:List (Key×V)}{ws:List (Key×Value)}(rw':KV kws ws){vs:List (Key×Value)}(r:KV kvs vs)(h:∀kv∈kvs,cB kv.2=true/\cR kws kv.1=some kv.2):W.KeqHits A s ws vs true:=by
 unfold KV at r;induction r with
 |nil=>exact .nil
 | @cons kv vv _ _ hk t ih=>
  obtain⟨k,v⟩:=kv;obtain⟨k',u⟩:=vv;obtain⟨e,ru⟩:=hk;cases e;obtain⟨f,hv⟩:=h (k,v) (Aj ..);have ro:=rw'.val k
  rw[hv]at ro;cases ey:valueAt ws k with
  |none=>rw[ey]at ro;exact(show False from ro).elim
  |some y=>
   rw[ey]at ro;have eq:=oO (A:=A) (s:=s) ru (show RelV v y from ro) f f
   rw[aZZ f]at eq;exact .hit (e:=true) (b:=true) ey eq (ih λkv hkv=>h kv (Ak _ hkv))
def eQ2(I:Inv X y3 σ H s){p:Addr}{kws:List (Key×V)}(hp:Rd H p (.dK kvs))(hq:Rd H q (.dK kws))(d:DEq kvs kws)(hu:A.units<cLine)(E:Q0)(Q:Q0):(Q (.bool true) s->wpAny (model X.prog X.w) A (richCompare .Eq (.ref p) (.ref q)) Q E s)/\(Q (.bool false) s->wpAny (model X.prog X.w) A (richCompare .NotEq (.ref p) (.ref q)) Q E s):=by
 obtain⟨z1,d1,vs,r1,dd1⟩:=lN I.hok hp;obtain⟨z2,d2,ws,r2,dd2⟩:=lN I.hok hq;have hl:(vs.length==ws.length)=true:=Gi.mpr (by rw[<-r1.length,<-r2.length];exact d.1)
 refine⟨λh=>W.keq_eq (r:=true) d1 d2 dd1 dd2 hu (λ_=>bJA r2 r1 d.2) (by rw[hl];exact h),λh=>W.keq_ne (r:=true) d1 d2 dd1 dd2 hu (λ_=>bJA r2 r1 d.2) (by rw[hl];exact h)⟩
def Room.u1(r:Room k A):A.units+1<cLine:=by have:=r.un;omega
end
section
open PySem.AutoSeq1 (wpAny_loadPart')
def bJZ:∀ {xs:List V} {us:List Value},us.length=xs.length->(∀(j:Nat) x u,xs[j]?=some x->us[j]?=some u->RelV x u)->Vals xs us
 |[],[],_,_=>.nil
 |x::r,u::t,hl,h=>.cons (h 0 x u rfl rfl) (bJZ (by simpa using hl) λj x' u' a b=>h (j+1) x' u' (by simpa using a) (by simpa using b))
 |[],_::_,hl,_=>absurd hl (by simp)
 |_::_,[],hl,_=>absurd hl (by simp)
end
section
open PySem.W
section
variable {K:Frag} {x D:Addr} {ox:Obj} {od:Option Obj}
def eQX{v:Value}{expr:Bool}{Q:Q0}(Z:ExK K D)(X:K.In s.heap)(I:InstAt s.heap x ox D od)(hf:findObj K D od name=some (.value v))(hh:handedIn v=true)(h:Q v {s with toks:=s.toks+1}):wpAny (model prog w) A (getAttr (.ref x) name expr) Q E s:=by
 obtain⟨hp,g,d,t,os⟩:=s;have L0:=I.type (M:=model prog w)
 have L1:=looks_findIn (M:=model prog w) X Z.ga
 have L2:=looks_findIn (M:=model prog w) X Z.gh
 have L3:=looks_find (M:=model prog w) X I hf
 unfold getAttr getAttrBy;refine Ae (wpAny_mkText (Cu (Ae (L0.at (Ae (L1.at ?_))))));have ne:(Value.builtin "BaseException.__getattribute__" == Value.builtin "object.__getattribute__")=false:=by decide +kernel
 have fb:=F.excAttr_ValueError.ga.bind (.ref x)
 dsimp only;rw[ne,Fv,if_neg An];unfold getAttrByItsOwn hookBefore;rw[if_pos (show onTheHeap (Value.ref D)=true from rfl)];refine Ae (L2.at (Ae (Ho (Cu ?_))));unfold callGetattribute boundAndCalled;rw[if_neg (by rw[show onTheHeap (Value.builtin "BaseException.__getattribute__")=false from rfl,Fv];exact An)]
 refine Ae (wpAny_of_eq fb ?_);refine Ep (Ed F.excAttr_ValueError.ga.plain F.entry_bexc_ga (aQL Z X I ?_));unfold Builtin.«object.__getattribute__»;refine Ae (Aq (Ae (Aq (Ae (L0.at (Ae (L3.at ?_)))))));refine Aq ?_;exact handed_on hh h
def dQY{e t0:Addr}{vs:Array Value}{rest:List Value}{Q:Q0}(Z:ExK K D)(X:K.In s.heap)(I:InstAt s.heap e oe D od)(hb:W.subIn K (.ref D) (.type "ValueError")=some true)(hd:oe.data=.fields vs)(h0:vs[0]?=some (.ref t0))(hr:rest.length<=sizeLine)(h:Q .none {s with heap:=(s.heap.push {cls:=.type "tuple",data:=.seq rest.toArray}).update e (Obj.mapFields (·.setIfInBounds 0 (.ref s.heap.objs.size)))}):wpAny (model prog w) A (call (.builtin "ValueError.__init__") (.ref e::rest)) Q E s:=by
 have he:=I.at_
 obtain⟨cd,hc,_⟩:=any_some Z.cls;have FB:=Cj
 have L0:=I.type (M:=model prog w)
 have L1:=looks_subIn (M:=model prog w) X hb
 refine Ep (Ed FB.init.plain FB.initEntry ?_);have ck:∀(Q:Unit->Shared->Prop) (E:Q0) (B:Around),Q () s->wpAny (model prog w) B (checkBuiltinCall "ValueError.__init__" ⟨.ref e::rest,[]⟩) Q E s:=λQ E B hq=>by
  simp only[checkBuiltinCall,FB.initKind,FB.initSplit,FB.initRow];refine Ae ((L0.andThen L1).at ?_);have hst:=FB.noStar
  have sg:∀(a b:String) (n:Nat),Bind.check ⟨.positional, "*", "ValueError",.self,[⟨"args",.varPos,false⟩]⟩ a b n (List.map (λx=>x.fst) ({pos:=Value.ref e::rest}:Args).kw)=pure ():=λa b n=>check_star_args _ _ _ _ _ _
  repeat (first|wp_step)
  rw[I.cls];refine Ae ((looks_clsIn X hc).at (Aq ?_));repeat (first|wp_step)
  refine wpAny_onRaise ?_;rw[sg];exact Aq hq
 refine ck _ _ _ ?_;have hs0:0<vs.size:=(Di.mp h0).1
 have hg:=Ah (h:=s.heap) {cls:=.type "tuple",data:=.seq rest.toArray} he
 unfold Builtin.«BaseException.__init__» newTuple Builtin.BaseException.bexcPut;dsimp only;rw[if_neg (by simp)]
 refine Ae (Gy (Ae (Ae (wpAny_field hg hd h0 (Ae (wpAny_setField hg hd hs0 (wpAny_letGo (Aq h))))))) (by show rest.toArray.size<=sizeLine;rw[Ax];exact hr))
def bQ0(K:Frag)(D:Addr):Option (List Value):=(clsIn K D).map (·.mro)
def aJE{T:Addr}{v:Value}{h1:Heap}{m:Q4}{ns:List Str}{Q:Unit->Shared->Prop}(Z:ExK K D)(X:K.In s.heap)(I:InstAt s.heap x ox D od)(hs:findIn K (.ref D) "__setattr__"=some (some (.builtin "object.__setattr__")))(hm:bQ0 K D=some [.ref D,.ref T,.type "ValueError",.type "Exception",.type "BaseException",.type "object"])(hna:findIn K (.ref D) name=some none)(hi:∀(B:Around) (Q':Option Addr->Shared->Prop) (E':Q0),Q' (some dx) {s with heap:=h1,toks:=s.toks+1}->wpAny (model prog w) B (instanceDict x true) Q' E' {s with toks:=s.toks+1})(hn:h1.Ns1 dx m)(hw:Within m ns)(hz:ns.length<sizeLine)(h:∀h' tk',h'.Ns1 dx (λy=>if y=name then some v else m y)->Heap.SameBut dx h1 h'->Q () {s with heap:=h',toks:=tk'}):wpAny (model prog w) A (setAttr (.ref x) name v) Q E s:=by
 obtain⟨cd,hc,hd'⟩:=any_some Z.cls;have hmr:cd.mro=[.ref D,.ref T,.type "ValueError",.type "Exception",.type "BaseException",.type "object"]:=by
  unfold bQ0 at hm;rw[hc]at hm;exact Bo hm
 have SF:=PySem.F.store_ValueError
 have sub:Looks (model prog w) s.heap (isInstance (.ref x) (.type "object")) true:=I.type.andThen (looks_mroIn X Z.mo)
 have hmm:Looks (model prog w) s.heap (mroOf (.ref D)) cd.mro:=(looks_clsIn X hc).andThen .now
 have hx:=I.at_
 refine set_plain X I hs ?_;refine Ed SF.slot.plain SF.entry (@check_slot (model prog w) _ _ {s with toks:=s.toks+1} "object.__setattr__" "object" "__setattr__" (.ref x) [.str name s.toks,v] [] _ SF.kind SF.split sub (SF.args (.ref x) (.str name s.toks) v) ?_)
 rw[osa_eq,refuse_eq];refine Ae (Ae (I.type.here (s:={s with toks:=s.toks+1}) (Ae (hmm.here (s:={s with toks:=s.toks+1}) ?_))))
 rw[hmr,refuseLoop_ref,refuseLoop_ref,SF.passes];refine Aq (Ae (I.type.here (s:={s with toks:=s.toks+1}) (Ae ((looks_findIn X hna).here (s:={s with toks:=s.toks+1}) (Ae (Aq ?_))))))
 show wpAny (model prog w) A.in1 (Builtin.ObjectAttr.storeInOwnDict (Value.ref x) (Value.ref D) (Value.str name s.toks) name v false) _ _ _
 unfold Builtin.ObjectAttr.storeInOwnDict;refine Ae (Aq ?_);rw[if_neg (show ¬((Value.ref D==Value.type "module")=true) by simp)]
 unfold Builtin.ObjectAttr.ownDictForStores;refine Ae (hi _ _ _ ?_);show wpAny (model prog w) A.in1 (Builtin.ObjectAttr.storeInDict dx (Value.str name s.toks) name v) _ _ _
 unfold Builtin.ObjectAttr.storeInDict Builtin.ObjectAttr.newKeyGuard;refine Ae (Aq (Ae (wpAny_nsSet1 hn λh' hn' sb=>?_)));obtain⟨oD,esD,epD,hoD,hdD,hcD⟩:=hn'.count (Within.cons name v hw);refine Ae (wpAny_lookBehind hoD (by rw[hdD];exact pastItsLine_dict (Bi hcD (by rw[Ba];omega))) ?_)
 exact Aq (h h' _ hn' sb)
def cZ5{T:Addr}{v:Value}{vs:Array Value}{Q:Unit->Shared->Prop}(Z:ExK K D)(X:K.In s.heap)(I:InstAt s.heap x ox D none)(hda:ox.data=.fields vs)(hdn:ox.dict=none)(hs:findIn K (.ref D) "__setattr__"=some (some (.builtin "object.__setattr__")))(hm:bQ0 K D=some [.ref D,.ref T,.type "ValueError",.type "Exception",.type "BaseException",.type "object"])(hna:findIn K (.ref D) name=some none)(h:∀h' tk',h'.get? x=some {ox with dict:=some s.heap.objs.size}->h'.Ns1 s.heap.objs.size (λy=>if y=name then some v else none)->(∀b o,b≠x->s.heap.get? b=some o->h'.get? b=some o)->Q () {s with heap:=h',toks:=tk'}):wpAny (model prog w) A (setAttr (.ref x) name v) Q E s:=by
 obtain⟨cd,hc,hd'⟩:=any_some Z.cls;have hx:=I.at_
 have hx1:(s.heap.push {cls:=.type "dict",data:=.dict #[]}).get? x=some ox:=Ah _ hx
 have hxs:x≠s.heap.objs.size:=Bl (Au hx)
 have hgd:((s.heap.push {cls:=.type "dict",data:=.dict #[]}).update x λo=>{o with dict:=some s.heap.objs.size}).get? s.heap.objs.size=some {cls:=.type "dict",data:=.dict #[]}:=
  (Heap.get?_update_ne _ _ _ _ hxs.symm).trans (Heap.get?_push_at rfl rfl)
 have hnd:((s.heap.push {cls:=.type "dict",data:=.dict #[]}).update x λo=>{o with dict:=some s.heap.objs.size}).Ns s.heap.objs.size (λ_=>none):=
  ⟨_,#[],_,hgd,rfl,λe he=>absurd he (by simp),λ_=>rfl⟩
 have hxu:((s.heap.push {cls:=.type "dict",data:=.dict #[]}).update x λo=>{o with dict:=some s.heap.objs.size}).get? x=some {ox with dict:=some s.heap.objs.size}:=by
  refine Heap.get?_update_self _ hx1 ?_;obtain⟨a,b,c,d⟩:=ox;cases hda;rfl
 refine aJE Z X I hs hm hna (λB Q' E' q=>?_) (Heap.Ns1.of_empty hnd) Within.nil (by rw[List.length_nil,Gm];omega) λh' tk' n sb=>h h' tk' ((sb.2 x hxs).trans hxu) n λb o hb e=>
  (sb.2 b (Bl (Au e))).trans ((Heap.get?_update_ne _ _ _ _ hb).trans (Ah _ e))
 unfold instanceDict;refine Ae (wpAny_loadPart hx ?_);rw[I.cls];refine Ae ((looks_clsIn X hc).here (s:={s with toks:=s.toks+1}) ?_)
 rw[hd',hdn,hda,if_neg (show ¬((!true)=true) by decide)]
 dsimp only;rw[if_neg (show ¬((!true || !typeHasDict (Value.ref D))=true) by simp[typeHasDict])]
 exact Ae (wpAny_alloc' (Ae (wpAny_update' hx1 (Aq q))))
def dXN{T:Addr}{v:Value}{m:Q4}{ns:List Str}{odx:Obj}{Q:Unit->Shared->Prop}(Z:ExK K D)(X:K.In s.heap)(I:InstAt s.heap x ox D (some odx))(hdn:ox.dict=some dx)(hs:findIn K (.ref D) "__setattr__"=some (some (.builtin "object.__setattr__")))(hm:bQ0 K D=some [.ref D,.ref T,.type "ValueError",.type "Exception",.type "BaseException",.type "object"])(hna:findIn K (.ref D) name=some none)(hn:s.heap.Ns1 dx m)(hw:Within m ns)(hz:ns.length<sizeLine)(h:∀h' tk',h'.Ns1 dx (λy=>if y=name then some v else m y)->Heap.SameBut dx s.heap h'->Q () {s with heap:=h',toks:=tk'}):wpAny (model prog w) A (setAttr (.ref x) name v) Q E s:=by
 obtain⟨cd,hc,hd'⟩:=any_some Z.cls;refine aJE Z X I hs hm hna (λB Q' E' q=>?_) hn hw hz h;unfold instanceDict;refine Ae (wpAny_loadPart I.at_ ?_);rw[I.cls];refine Ae ((looks_clsIn X hc).here (s:={s with toks:=s.toks+1}) ?_)
 rw[hd',hdn,if_neg (show ¬((!true)=true) by decide)]
 exact Aq q
end
end
section
open PySem.W
def dY(ea C:Addr)(d:Option Addr):HO:=.ext λh=>∃oe vs t0,h.get? ea=some oe/\oe.cls=.ref C/\oe.dict=d/\oe.data=.fields vs/\vs[1]?=some .none/\vs[0]?=some (.ref t0)/\vs[2]?=some .none
def xdO(dx:Addr)(fs:List (Str×V)):HO:=.ext λh=>∃mA,h.Ns1 dx mA/\(∀f,RelO (fs.lookup f) (mA f))/\Within mA (fs.map (·.1))
def aXA{vs:Array Value}{t0:Addr}(g:h.get? ea=some oe)(c:oe.cls=.ref C)(di:oe.dict=d)(da:oe.data=.fields vs)(h1:vs[1]?=some .none)(h0:vs[0]?=some (.ref t0))(c2:vs[2]?=some .none):ObjOk P w H h ea (dY ea C d):=⟨⟨oe,vs,t0,g,c,di,da,h1,h0,c2⟩,⟨oe,g⟩,λ_ _ ⟨o,ws,t,g,q⟩ k=>⟨o,ws,t,k o g,q⟩⟩
def cZA{fs:List (Str×V)}{mA:Q4}(n:h.Ns1 dx mA)(r:∀f,RelO (fs.lookup f) (mA f))(wi:Within mA (fs.map (·.1))):ObjOk P w H h dx (xdO dx fs):=by
 refine⟨⟨mA,n,r,wi⟩,?_,λ_ _ ⟨m,⟨o,es,ep,g,q⟩,r⟩ k=>⟨m,⟨o,es,ep,k o g,q⟩,r⟩⟩;obtain⟨o,es,ep,g,_⟩:=n;exact⟨o,g⟩
structure XcK (K:Frag) (C T:Addr):Prop where
 ex:ExK K C
 sa:findIn K (.ref C) "__setattr__"=some (some (.builtin "object.__setattr__"))
 mro:bQ0 K C=some [.ref C,.ref T,.type "ValueError",.type "Exception",.type "BaseException",.type "object"]
 vb:W.subIn K (.ref C) (.type "ValueError")=some true
def cX8(K:Frag)(C T:Addr):Bool:=(clsIn K C).any λc=>match c.mro with
 |[.ref a,.ref b,.type x,.type y,.type z,.type u]=>a==C&&b==T&&x == "ValueError" && y == "Exception" && z == "BaseException" && u == "object"
 |_=>false
def uG{K:Frag}{T:Addr}(h:cX8 K C T=true):bQ0 K C=some [.ref C,.ref T,.type "ValueError",.type "Exception",.type "BaseException",.type "object"]:=by
 obtain⟨c,hc,h⟩:=any_some h;unfold bQ0;rw[hc];split at h
 ·rename_i hm
  simp only[Bool.and_eq_true,beq_iff_eq]at h;obtain⟨⟨⟨⟨⟨rfl,rfl⟩,rfl⟩,rfl⟩,rfl⟩,rfl⟩:=h;exact Ds some hm
 ·cases h
def nA{D:Addr}{vs:Array Value}(hok:HOk P w H h)(g:h.get? ea=some oe)(hc:oe.cls=.ref D)(hdi:oe.dict=d)(hda:oe.data=.fields vs)(hd:∀dx,d=some dx->∃o,H dx=some o):∃od,InstAt h ea oe D od:=by
 have no:notCls oe=true:=by
  obtain⟨c,di,da,sl⟩:=oe;cases hda;rfl
 cases d with
 |none=>exact⟨none,g,hc,no,by rw[hdi];trivial⟩
 |some dx=>
  obtain⟨o,z⟩:=hd dx rfl;obtain⟨ob,g2⟩:=(hok dx o z).get;exact⟨some ob,g,hc,no,by rw[hdi];exact g2⟩
def eZ6{o:HO}(e:H a=some o):upd H a o=H:=by
 funext b
 unfold upd;split
 ·rename_i z;rw[z,e]
 ·rfl
def bQ4(K:Frag):List V->Hp->VK->Prop:=λvs H Q=>∃ea rest C T d,vs=.ref ea::rest/\rest.length<=sizeLine/\H ea=some (dY ea C d)/\(∀dx,d=some dx->∃o,H dx=some o)/\XcK K C T/\Q .non H
def dXW(K:Frag)(t:TA):TE:=λσ H Q=>t σ H λvs H1=>bQ4 K vs H1 Q
def dZY:CallR X (.builtin "ValueError.__init__") (bQ4 X.K):=by
 intro y3 s σ H xs us Q I r h;obtain⟨ea,rest,C,T,d,rfl,hl,he,hd,Z,q⟩:=h;cases r with
 | @cons _ _ _ l2 r0 rr=>
  cases r0;obtain⟨oe,vs,t0,g,hc,hdi,hda,h1,h0,c2⟩:=(I.hok ea _ he).1;obtain⟨od,hI⟩:=nA I.hok g hc hdi hda hd;refine dQY Z.ex I.kIn hI Z.vb hda h0 (by rw[<-rr.length];exact hl) ?_
  have g2:=Ah (h:=s.heap) {cls:=.type "tuple",data:=.seq l2.toArray} g
  have hs0:0<vs.size:=(Di.mp h0).1
  have dm:=Obj.data_mapFields hda (·.setIfInBounds 0 (Value.ref s.heap.objs.size))
  refine⟨.non,H,?_,rfl,q⟩;have I2:=I.write (x:=ea) (e:=ea) (o:=dY ea C d) (t':=s.toks) (by rw[he];exact True.intro) (.inl rfl) (λb u hb z=>(Cs _ (Obj.mapFields (·.setIfInBounds 0 (Value.ref s.heap.objs.size))) (Ne.symm hb)).trans (Ah _ z))
   ⟨_,Heap.get?_update_self _ g2 (Obj.isFreed_of_fields dm)⟩ (aXA (Heap.get?_update_self _ g2 (Obj.isFreed_of_fields dm)) (by rw[Obj.cls_mapFields];exact hc) (by rw[aZ6];exact hdi) dm (by rw[Array.getElem?_setIfInBounds];simp[h1]) (t0:=s.heap.objs.size) (by simp[hs0]) ((Array.getElem?_setIfInBounds_ne (by decide)).trans c2))
  rw[eZ6 he]at I2;exact I2
section
variable {T:Addr} {mc:Value}
def qG(hg:Gl X x)(hm:X.mg x=some (.ref T))(h1:specialIn X.K (.ref T) "__getattribute__"=some (some (.builtin "type.__getattribute__")))(h2:readsIn X.K T mc=true)(h3:findCls X.K (.ref T) mc "__init__"=some (.val (.builtin "ValueError.__init__")))(ha:PA X (e::es) t)(hdb:(x==("__debug__" : Str))=false:=by decide)(hst:starEach (e::es) X.env=(false,eval e X.env)::starEach es X.env:=by rfl)(hpl:(backTo pos (starEach es X.env)).any (·.1)=false:=by rfl)(ht:eval (.Call (.Attribute (.Name x np) "__init__" apos) (e::es) [] pos) X.env=(do
 let ov <-eval (.Name x np) X.env
 standAt apos.atName
 let (f,first) <-holding [ov] (getMethod ov "__init__" pl)
 callWith pos f first (backTo pos (starEach (e::es) X.env)) (backToKw pos (keywordEach [] X.env))):=by rfl):PE X (.Call (.Attribute (.Name x np) "__init__" apos) (e::es) [] pos) (dXW X.K t):=by
 intro y3 s σ H Q I h;refine Fn (pl:=pl) (fS I hg hm ?_ hdb) ht;refine method_cls I.kIn h1 (cls_value I.kIn h2 h3 rfl ?_);exact PyProof.Rows.callWith_builtin1 (thn (ha pos y3 _ σ H _ (I.tok _) h) λus s1 ⟨vs,H1,I1,r1,q1⟩=>dZY y3 s1 σ H1 vs us Q I1 r1 q1) hst hpl
end
def Inv.freAt(I:Inv X y3 σ H s)(h:s.heap.objs.size<=a):Fre X y3 a where
 s0:=Ft (Bi I.sz h)
 loc:=λz=>absurd (Bf I.lt h) (by rw[z];exact Dz _)
 cell:=λx c e z=>by
  obtain⟨_,o,g,_⟩:=I.cell x c e;exact absurd (Bf (Au g) h) (by rw[z];exact Dz _)
 pin:=λp hp z=>absurd (Bf (Au (I.pin p hp).1) h) (by rw[z];exact Dz _)
def eXR(K:Frag)(ta tv:TE)(f:Str):TS:=λD σ H=>tv σ H λy H1=>ta σ H1 λx H2=>∃ea C T,x=.ref ea/\XcK K C T/\findIn K (.ref C) f=some none/\
 ((H2 ea=some (dY ea C none)/\∀dx,H2 dx=none->D.nx σ (upd (upd H2 ea (dY ea C (some dx))) dx (xdO dx [(f,y)])))\/
  (∃dx fs,H2 ea=some (dY ea C (some dx))/\H2 dx=some (xdO dx fs)/\fs.length<100/\D.nx σ (upd H2 dx (xdO dx ((f,y)::fs)))))
def zB{f g:Str}{fs:List (Str×V)}:List.lookup g ((f,y)::fs)=if g=f then some y else fs.lookup g:=by
 rw[Dk];by_cases z:g=f
 ·rw[if_pos z,z];simp
 ·rw[if_neg z];have:(g==f)=false:=by simpa using z
  rw[this]
def pX{o value:Expr}{f:Str}{pos':Pos}{ta:TE}(ha:PE X o ta)(hv:PE X value tv)(hs:swapsWith value (some (.Attribute o f pos')) pos.line X.env=pure false):PS X (.Assign [.Attribute o f pos'] value pos) (eXR X.K ta tv f):=by
 intro y3 s σ H D I h;refine plainObj_wpAny_Assign_Attribute (thn (hv y3 s σ H _ I h) λu s1 ⟨y,H1,I1,ry,q⟩=>thn (ha y3 s1 σ H1 _ I1 q) λov s2 ⟨x,H2,I2,rx,ea,C,T,ex,Z,hn,q2⟩=>?_) hs;subst ex;obtain rfl:ov=Value.ref ea:=rx;rcases q2 with⟨he,q3⟩|⟨dx,fs,he,hdx,hl,q3⟩
 ·obtain⟨oe,vs,t0,g,hc,hdi,hda,h1,h0,c2⟩:=(I2.hok ea _ he).1;obtain⟨od,hI⟩:=nA I2.hok g hc hdi hda (λ_ z=>nomatch z)
  have hod:od=none:=by
   have z:=hI.dict
   rw[hdi]at z;cases od with
   |none=>rfl
   |some o=>exact z.elim
  subst hod;refine cZ5 Z.ex I2.kIn hI hda hdi Z.sa Z.mro hn λh' tk' gx ns kp=>?_;have fr:=I2.freAt (Ai _)
  have hfree:H2 s2.heap.objs.size=none:=I2.hok.fresh (Ai _)
  have ne:s2.heap.objs.size≠ea:=λz=>by rw[z,he]at hfree;cases hfree
  have I3:=I2.write (x:=ea) (e:=ea) (o:=dY ea C (some s2.heap.objs.size)) (h':=h') (t':=tk') (by rw[he];exact True.intro) (.inl rfl) kp ⟨_,gx⟩ (aXA gx hc rfl hda h1 h0 c2)
  have I4:=I3.adopt (a:=s2.heap.objs.size) (o:=xdO s2.heap.objs.size [(f,y)]) fr (by rw[aM ne];exact hfree) (cZA ns (λg=>by
   rw[zB];split
   ·exact ry
   ·exact True.intro) (λg hg=>by
   by_cases z:g=f
   ·rw[z];exact Al.mpr rfl
   ·exact absurd (show (if g=f then some u else none)=none by rw[if_neg z]) hg))
  exact⟨σ,_,I4,q3 _ hfree⟩
 ·obtain⟨oe,vs,t0,g,hc,hdi,hda,h1,h0,c2⟩:=(I2.hok ea _ he).1;obtain⟨mA,n,r,wi⟩:=(I2.hok dx _ hdx).1;obtain⟨od,hI⟩:=nA I2.hok g hc hdi hda (λz e=>by cases e;exact⟨_,hdx⟩)
  have hod:∃o,od=some o:=by
   have z:=hI.dict
   rw[hdi]at z;cases od with
   |none=>exact z.elim
   |some o=>exact⟨o,rfl⟩
  obtain⟨o,rfl⟩:=hod;refine dXN Z.ex I2.kIn hI hdi Z.sa Z.mro hn n wi (by rw[Ab,Gm];omega) λh' tk' ns sb=>?_
  have hd':∃o,h'.get? dx=some o:=let ⟨o,_,_,e',_⟩:=ns;⟨o,e'⟩
  have I3:=I2.write (x:=dx) (e:=dx) (o:=xdO dx ((f,y)::fs)) (h':=h') (t':=tk') (by rw[hdx];exact True.intro) (.inl rfl) (λb q hb z=>(sb.2 b hb).trans z) hd' (cZA ns (λg=>by
   rw[zB];split
   ·exact ry
   ·exact r g) (λg hg=>by
   by_cases z:g=f
   ·rw[z];exact Aj
   ·refine Ak _ (wi g λz2=>hg ?_);show (if g=f then some u else mA g)=none
    rw[if_neg z];exact z2))
  exact⟨σ,_,I3,q3⟩
def dQP(K:Frag)(ta:TE)(f:Str):TE:=λσ H Q=>ta σ H λx H1=>∃ea C dx fs v,x=.ref ea/\(H1 ea=some (jU ea (.ref C) (some dx))\/H1 ea=some (dY ea C (some dx)))/\H1 dx=some (xdO dx fs)/\ExK K C/\findIn K (.ref C) f=some none/\fs.lookup f=some v/\Q v H1
def cZ8(r:RelV v u):handedIn u=true:=by
 cases v<;>first|(obtain⟨_,rfl⟩:=(show ∃t,u=_ from r);rfl)|(cases r;rfl)
def dJP{f:Str}{ta:TE}(he:PE X e ta)(hb:attributeBase e f X.env (eval e X.env)=eval e X.env):PE X (.Attribute e f pos) (dQP X.K ta f):=by
 intro y3 s σ H Q I h;refine bZV hb (thn (he y3 s σ H _ I h) λu s1 ⟨x,H1,I1,rx,ea,C,dx,fs,v,ex,e1,e2,Z,n,l,q⟩=>?_);subst ex;obtain rfl:u=Value.ref ea:=rx;obtain⟨oe,vs,g,hc,hdi,hda⟩:∃oe vs,s1.heap.get? ea=some oe/\oe.cls=.ref C/\oe.dict=some dx/\oe.data=.fields vs:=by
  rcases e1 with e1|e1
  ·exact(I1.hok ea _ e1).1
  ·obtain⟨oe,vs,t0,g,hc,hdi,hda,_⟩:=(I1.hok ea _ e1).1;exact⟨oe,vs,g,hc,hdi,hda⟩
 obtain⟨⟨mA,ns,r,wi⟩,_⟩:=I1.hok dx _ e2;obtain⟨od,hI⟩:=nA I1.hok g hc hdi hda (λz e=>by cases e;exact⟨_,e2⟩)
 obtain⟨o,go,lo⟩:=yS ns;have hod:od=some o:=by
  have z:=hI.dict
  rw[hdi]at z;cases od with
  |none=>exact z.elim
  |some o'=>
   have z:s1.heap.get? dx=some o':=z
   rw[go]at z;exact z.symm
 subst hod;have rl:=r f
 rw[l]at rl;cases hu:mA f with
 |none=>rw[hu]at rl;exact rl.elim
 |some u=>
  rw[hu]at rl;exact eQX Z I1.kIn hI (findObj_own Z.cls n rfl (by rw[lo,hu])) (cZ8 rl) ⟨v,H1,I1.tok _,rl,q⟩
end
section
open PySem.W
def aQX(K:Frag)(C:Addr)(bmB:List Value)(newId:String):Bool:=
 match K.lookup C with
 |some ⟨.type t,_,.cls c,sl⟩=>t == "type" && !c.hasDel&&nsOkIn K c.ns &&
  (match c.mro with|.ref C1::bm=>C1==C&&tailIn K bmB bm|_=>false)&&(match sl.toList with|[_,_,_,_,some (.builtin n),_]=>n==newId|_=>false)
 |_=>false
def eJ6{K:Frag}(X:K.In h)(q:aQX K C bmB newId=true):∃bm N nm qn bs hd sn sub ab col dd k0 k1 k2 k3 k5,h.get? C=some (excClassObj nm qn C N bs bm hd sn sub ab col dd k0 k1 k2 k3 k5 newId)/\OwnTail h bmB bm:=by
 unfold aQX at q;split at q
 ·rename_i t dd c sl ho
  simp only[Bool.and_eq_true,beq_iff_eq,Bool.not_eq_true']at q;obtain⟨⟨⟨⟨rfl,q1⟩,q2⟩,q3⟩,q4⟩:=q;split at q3
  ·rename_i C1 bm hm
   obtain⟨rfl,q5⟩:C1=C/\tailIn K bmB bm=true:=by simpa only[Bool.and_eq_true,beq_iff_eq]using q3
   split at q4
   ·rename_i k0 k1 k2 k3 n k5 hs
    obtain rfl:n=newId:=by simpa using q4
    obtain⟨nm,bs,mro,ns,qn,hd,sn,sub,ab,col,del⟩:=c;dsimp only at hm q1 q2;subst hm q1;obtain⟨l⟩:=sl;cases (show l=_ from hs);exact⟨bm,ns,nm,qn,bs,hd,sn,sub,ab,col,dd,k0,k1,k2,k3,k5,X _ _ ho,tail_of_in X q5⟩
   ·cases q4
  ·cases q3
 ·cases q
section
variable {K:Frag} {B initId:String}
def cQA{rest:List Value}{Q:Fin->Shared->Prop}(FB:ExcBaseFacts B newId initId bmB)(X:K.In s.heap)(hx:aQX K C bmB newId=true)(hi:findIn K (.ref C) "__init__"=some (some (.ref f)))(hf:typeIn K (.ref f)=some (.type "function"))(hr:rest.length<=sizeLine)(hq:∀h' e,Heap.MadeExcOf s.heap h' e (.ref C) rest->wpAny (model prog w) A (call (.ref f) (.ref e::rest)) (λr s'=>r=.none/\Q (.done (.ret (.ref e))) s') E {s with heap:=h'}):wpAny (model prog w) A (Builtin.«type.__call__» ⟨.ref C::rest,[]⟩) Q E s:=by
 obtain⟨h,g,d,t,os⟩:=s;obtain⟨bm,N,nm,qn,bs,hd,sn,sub,ab,col,dd,k0,k1,k2,k3,k5,hC,Tl⟩:=eJ6 X hx;repeat (first|with_reducible refine wpAny_madeBy_exc hC ?_|with_reducible refine Fq hC ?_|wp_step)
 refine codeAny_call_builtin_code (Code.quiet_builtin _ FB.quiet) (wpAny_check_new_subT FB Tl hC (codeAny_exc_new_subT FB Tl hC ?_ hr));show wpAny _ _ _ _ _ _
 generalize hh1:(h.push {cls:=.type "tuple",data:=.seq rest.toArray}).push {cls:=.ref C,data:=.fields #[.ref h.objs.size,.none,.none,.none,.bool false,.none]}=h1;have kp:∀b o,h.get? b=some o->h1.get? b=some o:=λb o e=>by rw[<-hh1];exact Ah _ (Ah _ e)
 have fX:h1.get? (h.objs.size+1)=some {cls:=.ref C,data:=.fields #[.ref h.objs.size,.none,.none,.none,.bool false,.none]}:=by rw[<-hh1];heap_get
 have X1:=X.keeps kp
 have hC1:=kp _ _ hC
 have hcC:(Value.ref C::bm).contains (.ref C)=true:=by simp
 unfold isInstance;repeat (first|(with_reducible refine wpAny_isSubtype_exc hC1 ?_;rw[hcC])|with_reducible refine Fq fX ?_|wp_step)
 show wpAny _ _ (typeLookup (.ref C) _) _ _ _
 refine(looks_findIn X1 hi).here (s:=⟨h1,g,d,t,os⟩) (Cu (Ae ?_));unfold bindSpecial;refine Ae ((looks_typeIn X1 hf).here (s:=⟨h1,g,d,t,os⟩) ?_);rw[if_pos (by decide)]
 refine Aq (Ae (Cq (hq h1 (h.objs.size+1) ⟨kp,Ft (Nat.le_succ _),h.objs.size,fX,Ft (Ai _),?_⟩) (λr s' hr=>?_) λ_ _ z=>z))
 ·rw[<-hh1];exact Ah _ (Heap.get?_push_at rfl rfl)
 ·obtain⟨rfl,z⟩:=hr
  wp_walk
  exact z
def cZG{rest:List Value}{Q:Q0}(FB:ExcBaseFacts B newId initId bmB)(X:K.In s.heap)(hx:aQX K C bmB newId=true)(hi:findIn K (.ref C) "__init__"=some (some (.ref f)))(hf:typeIn K (.ref f)=some (.type "function"))(hr:rest.length<=sizeLine)(hq:∀h' e,Heap.MadeExcOf s.heap h' e (.ref C) rest->wpAny (model prog w) (A.under (.builtin "type.__call__" ⟨.ref C::rest,[]⟩)) (call (.ref f) (.ref e::rest)) (λr s'=>r=.none/\Q (.ref e) s') E {s with heap:=h'}):wpAny (model prog w) A (call (.ref C) rest) Q E s:=by
 have X0:=X
 obtain⟨h,g,d,t,os⟩:=s;obtain⟨bm,N,nm,qn,bs,hd,sn,sub,ab,col,dd,k0,k1,k2,k3,k5,hC,Tl⟩:=eJ6 X hx;have c1:=tc_lookup
 have c2:=tc_bind (.ref C)
 have c3:(⟨h,g,d,t,os⟩:Shared).TypeIs (.ref C) "type" := ⟨_,hC,rfl⟩
 refine Ep (codeAny_of_tree ?_);show wpAny _ _ (callAny (.ref C) _) _ _ _
 repeat (any_goals (first|with_reducible refine Fq hC ?_|assumption|wp_step))
 exact⟨rfl,codeAny_call_builtin_at (Code.quiet_builtin _ (by decide +kernel)) entry_typeCall (wpAny_check_type_call_sub hC (cQA FB X0 hx hi hf hr λh' e hm=>hq h' e hm))⟩
def cQN{x:Sem Value}{Q:Flow->Shared->Prop}(hh:A.handled=none)(h:wpAny (model prog w) A x (λv s1=>∃e oe vs bm N nm qn bs hd sn sub ab col dd k0 k1 k2 k3 k5,v=.ref e/\s1.heap.get? C=some (excClassObj nm qn C N bs bm hd sn sub ab col dd k0 k1 k2 k3 k5 newId)/\bm.contains (.type "BaseException")=true/\
 s1.heap.get? e=some oe/\oe.cls=.ref C/\oe.data=.fields vs/\vs[1]?=some .none/\E (.ref e) s1) E s):wpAny (model prog w) A (raiseStmt env (some x) none) Q E s:=by
 unfold raiseStmt;refine Ae (Cq h (λv s1 q=>?_) λ_ _ z=>z);obtain⟨e,oe,vs,bm,N,nm,qn,bs,hd,sn,sub,ab,col,dd,k0,k1,k2,k3,k5,rfl,hC,hb,he,hc,hda,h1,hE⟩:=q;obtain⟨hp,g,d,tk,os⟩:=s1;obtain⟨oc,odi,oda,osl⟩:=oe;dsimp only at hc hda;subst hc hda;have hcB:(Value.ref C::bm).contains (.type "BaseException")=true:=by rw[List.contains_cons,hb,Bool.or_true]
 repeat (first|with_reducible refine Fq hC ?_|with_reducible refine Fq he ?_|(with_reducible refine wpAny_isSubtype_exc hC ?_;rw[hcB])|wp_step)
 rw[h1];refine Aq ?_;rw[if_neg (show ¬((Value.none != Value.none)=true) by decide)]
 exact Aq (wpAny_raiseNew_none hh hE)
end
def del(H:Hp)(a:Addr):Hp:=λb=>if b=a then none else H b
def fO(h:b≠a):del H a b=H b:=if_neg h
def aJF:del H a a=none:=if_pos rfl
def Inv.drop{φ:Heap->Prop}(I:Inv X y3 σ H s)(e:H ea=some (.ext φ)):Inv X y3 σ (del H ea) s:=by
 have ne:∀b u,H b=some u->(∀ψ,u≠.ext ψ)->b≠ea:=λb u q n z=>by
  rw[z,e]at q;cases q;exact n φ rfl
 refine I.re (λb n=>?_) (λb xs q=>?_) (λb o u q=>?_) (λb ps q=>?_) λb o q=>?_
 ·unfold del;split
  ·rfl
  ·exact n
 ·have q1:=I.base.tups b xs q
  rw[fO (ne b _ q1 λ_ z=>nomatch z)]
  exact q1
 ·have q1:=I.base.frzs b o u q
  rw[fO (ne b _ q1 λ_ z=>nomatch z)]
  exact q1
 ·obtain⟨m,q1⟩:=I.base.tbls b ps q;exact⟨m,by rw[fO (ne b _ q1 λ_ z=>nomatch z)];exact q1⟩
 ·have hb:b≠ea:=λz=>by rw[z,aJF]at q;cases q
  rw[fO hb]at q;exact(I.hok b o q).stay (λ_ _ _ z=>z) (λc z=>by rw[fO (ne c _ z λ_ z=>nomatch z)];exact z) λc xs z=>by rw[fO (ne c _ z λ_ z=>nomatch z)];exact z
def Inv.freNew(I:Inv X y3 σ H s)(hex:X.ex=[])(h:s.heap.get? a=none):Fre X y3 a where
 s0:=by
  cases z:X.s₀.heap.get? a with
  |none=>rfl
  |some o=>
   obtain⟨o',z'⟩:=I.base.there a o z (by rw[hex];simp)
   rw[h]at z';cases z'
 loc:=λz=>by
  obtain⟨m,⟨o,_,_,g,_⟩,_⟩:=I.loc;rw[<-z,h]at g;cases g
 cell:=λx c e z=>by
  obtain⟨_,o,g,_⟩:=I.cell x c e;rw[z,h]at g;cases g
 pin:=λp hp z=>by
  have g:=(I.pin p hp).1
  rw[z,h]at g;cases g
def aJZ(P:Program)(w:World)(K:W.Frag)(mg:Str->Option Value)(base:Heap)(k:Nat)(C:Addr)(ps:List Str)(sp:Sp):Prop:=
 ∃(f:Addr) (fd:FuncData),FnOk P w K mg base CX0 k f fd ps sp/\findIn K (.ref C) "__init__"=some (some (.ref f))/\typeIn K (.ref f)=some (.type "function")/\Binds K fd ps []
structure XmK (K:Frag) (C:Addr):Prop where
 obj:aQX K C [.type "ValueError",.type "Exception",.type "BaseException",.type "object"] "ValueError.__new__"=true
 kp:keepIn K (.ref C)=true
def bZ2(C:Addr)(sp:Sp)(E:XK)(ta:TA):TS:=λ_ σ H=>ta σ H λvs H1=>vs.length<=sizeLine/\∀ea,H1 ea=none->sp (.ref ea::vs) (upd H1 ea (dY ea C none)) (λv H2=>v=.non/\∃d,H2 ea=some (dY ea C d)/\E (.ref C) d (del H2 ea)) E0
section
variable {E:XK} {ps:List Str}
def cXG{G:Addr->VK}{R:Q0}(hex:X.ex=[])(M:XmK X.K C)(c:aJZ X.prog X.w X.K X.mg X.base k C ps sp)(hr:Room (k+1) X.A)(I1:Inv X y3 σ H1 s1)(r:Vals vs us)(hl:vs.length<=sizeLine)(q:∀ea,H1 ea=none->sp (.ref ea::vs) (upd H1 ea (dY ea C none)) (G ea) E0)(hR:∀ea H2 s2,X.s₀.heap.get? ea=none->Inv X y3 σ H2 s2->(G ea) .non H2->R (.ref ea) s2)(hG:∀ea v H2,G ea v H2->v=.non):wpAny (model X.prog X.w) X.A (call (.ref C) us) R X.xe s1:=by
 obtain⟨f,fd,F,hi,hf,hb⟩:=c;refine cZG Cj I1.kIn M.obj hi hf (by rw[<-r.length];exact hl) λh' ea hm=>?_
 obtain⟨t,g,_,_⟩:=hm.there;have hole:H1 ea=none:=I1.hok.hole hm.new
 have fr:=I1.freNew hex hm.new
 have I2:=(I1.kept (t':=s1.toks) hm.keeps).adopt (o:=dY ea C none) fr hole (aXA g rfl rfl rfl rfl rfl rfl)
 have r2:Vals (V.ref ea::vs) (Value.ref ea::us):=.cons rfl r
 have hq:=q ea hole
 have hl2:((Value.ref ea::us)++[]).length=ps.length:=by rw[Bj,<-r2.length];exact F.len _ _ _ _ hq
 have hbb:=hb {s1 with heap:=h'} (Value.ref ea::us) I2.kIn hl2
 rw[Bj]at hbb;refine Ep (Ei (F.run _ X.stack {s1 with heap:=h'} _ ⟨Value.ref ea::us,[]⟩ (Value.ref ea::us) (V.ref ea::vs) _ E0 (hr.make C us []) (I2.env0.make C us []) hbb r2 hq) λrr s' hq'=>?_)
 cases rr with
 |error e=>exact False.elim hq'
 |ok fl=>
  cases fl with
  |ret u=>
   obtain⟨v,H',I3,rv,q3⟩:=I2.after hq';have ev:=hG ea v H' q3
   subst ev;exact⟨rv,hR ea H' s' fr.s0 I3 q3⟩
  |next=>exact False.elim hq'
  |brk=>exact False.elim hq'
  |cont=>exact False.elim hq'
def jV(hR:eZN X E)(hex:X.ex=[])(hc:X.calm=true)(hg:Gl X x)(hm:X.mg x=some (.ref C))(M:XmK X.K C)(c:aJZ X.prog X.w X.K X.mg X.base k C ps sp)(hr:Room k' X.A)(hkk:k+1<=k')(ha:PA X (e::es) ta)(hd:(x==("__debug__" : Str))=false:=by decide)(he:starEach (e::es) X.env=(false,eval e X.env)::starEach es X.env:=by rfl)(hpl:(backTo cpos (starEach es X.env)).any (·.1)=false:=by rfl):PS X (.Raise (some (.Call (.Name x np) (e::es) [] cpos)) none pos) (bZ2 C sp E ta):=by
 intro y3 s σ H D I h;rw [arm_exec_Raise];simp only [evalOpt,Option.map];refine Ae (Fl (cQN (C:=C) (newId := "ValueError.__new__") (I.ok.hd hc) ?_));refine Ae (Cq (Q:=λv s1=>∃ e oe vs bm N nm qn bs hd sn sub ab col dd k0 k1 k2 k3 k5,v=.ref e/\s1.heap.get? C=some (excClassObj nm qn C N bs bm hd sn sub ab col dd k0 k1 k2 k3 k5 "ValueError.__new__")/\bm.contains (.type "BaseException")=true/\
     s1.heap.get? e=some oe/\oe.cls=.ref C/\oe.data=.fields vs/\vs[1]?=some .none/\X.xe (.ref e) s1) ?_ (λv s3 h3=>Ae (Fl (Aq h3))) λ_ _ z=>z)
 refine Dh (fS I hg hm ?_ hd);refine Er (h₀:=X.base) I.ok.mod.kin M.kp (thn (ha cpos y3 s σ H _ I h) λus s1 ⟨vs,H1,I1,r,hl,q⟩=>⟨I1.kIn,?_⟩) he hpl;refine cXG hex M c (hr.mono hkk) I1 r hl q (λea H' s' s0 I3 q3=>?_) λea v H2 z=>z.1;obtain⟨_,d,e2,q3⟩:=q3;obtain⟨oe,ws,t0,g2,hc2,hdi,hda,h1,h0,c2⟩:=(I3.hok ea _ e2).1;obtain⟨bm,N,nm,qn,bs,hdct,sn,sub,ab,col,dd,k0,k1,k2,k3,k5,hC,Tl⟩:=eJ6 I3.kIn M.obj;refine⟨ea,oe,ws,bm,N,nm,qn,bs,hdct,sn,sub,ab,col,dd,k0,k1,k2,k3,k5,rfl,hC,Tl.hasType PySem.F.excBase_ValueError.hasBase,g2,hc2,hda,h1,?_⟩;exact hR y3 σ (del H' ea) s' ea oe ws (I3.drop e2) g2 hda h1 c2 aJF s0 (by rw[hc2,hdi];exact q3)
end
def nX(st:Stmt)(j:Nat):Stmt:=
 match st with
 |.ClassDef _ _ _ body _ _ _ _ _ _ _=>body.getD j (.Pass ⟨0,0,0,0⟩)
 |s=>s
section
variable {D T:Addr} {c:V} {cv:Value} {b:Bool} {D':Ends} {E:XK} {f:Str}
def dJC(h:ta σ H λvs H1=>bQ4 K vs H1 Q):dXW K ta σ H Q:=h
def dZA(h:ta σ H λvs H1=>vs.length<=sizeLine/\∀ea,H1 ea=none->sp (.ref ea::vs) (upd H1 ea (dY ea C none)) (λv H2=>v=.non/\∃d,H2 ea=some (dY ea C d)/\E (.ref C) d (del H2 ea)) E0):bZ2 C sp E ta D' σ H:=h
def eZA(h:te σ H λx H1=>∃ea C dx fs v,x=.ref ea/\(H1 ea=some (jU ea (.ref C) (some dx))\/H1 ea=some (dY ea C (some dx)))/\H1 dx=some (xdO dx fs)/\ExK K C/\W.findIn K (.ref C) f=some none/\fs.lookup f=some v/\Q v H1):dQP K te f σ H Q:=h
def eJZ(h:tv σ H λy H1=>te σ H1 λx H2=>∃ea C T,x=.ref ea/\XcK K C T/\W.findIn K (.ref C) f=some none/\
 ((H2 ea=some (dY ea C none)/\∀dx,H2 dx=none->D'.nx σ (upd (upd H2 ea (dY ea C (some dx))) dx (xdO dx [(f,y)])))\/
  (∃dx fs,H2 ea=some (dY ea C (some dx))/\H2 dx=some (xdO dx fs)/\fs.length<100/\D'.nx σ (upd H2 dx (xdO dx ((f,y)::fs)))))):eXR K te tv f D' σ H:=h
def eZH(e:H ea=some (jU ea (.ref D) (some dx))){o:HO}(hd:H dx=some o)(Z:ExK K D)(h1:cXH c=some cv)(h2:W.kitOne K (.ref D) cv=some b)(h:Q (.bl b) H):dXL K [.ref ea,c] H Q:=
 ⟨ea,D,some dx,c,b,rfl,e,(λ_ z=>by cases z;exact⟨o,hd⟩),Z,.inl ⟨cv,h1,h2⟩,h⟩
end
end
structure FnOkM (P:Program) (w:World) (K:W.Frag) (mg:Str->Option Value) (base:Heap) (k:Nat) (f:Addr) (fd:FuncData) (ps:List Str) (sp:Sp):Prop where
 len:∀vs H Q E,sp vs H Q E->vs.length=ps.length
 run:∀(B:Around) (ea:Addr) (outer:List Env) (s:Shared) (H:Hp) (args:Args) (us:List Value) (vs:List V) (Q:VK),Room k B->Env0 P w K mg base B outer s H->BindsTo s fd args (ps.zip us)->Vals vs us->sp vs H Q E0->
  codeAny (model P w) (B.mark (some (.ref ea))) (.call (.ref f) args) (CR CX0 outer P w H s Q E0) s
def Fun.okM{ps:List Str}(F:Fun K x qual st f fd)(S:FnScope N ps (aK st))(len:∀vs H Q E,sp vs H Q E->vs.length=ps.length)(hbody:∀(cdv:Value) (B:Around) (ea:Addr) (outer:List Env) (s:Shared) (H:Hp) (vs:List V) (Q:VK),Room k (B.deeper (envOfC qual (aK st) s.heap.objs.size f cdv))->sp vs H Q E0->
 ∃t,PSs ((iB CX0 P w K mg base N qual (aK st) f cdv B outer s H E0).hnd [] ea) (fU st) t/\t {nx:=λ_ H'=>Q .non H',rt:=Q} (lT N vs) H):FnOkM P w K mg base (k+1) f fd ps sp:=by
 obtain⟨oc,od,kV,doc,pm,an,cdv,ct,osl,rfl,lk,hcd⟩:=F.ex;refine⟨len,λB ea outer s H args us vs Q hr e0 hb r hsp=>?_⟩;have hl:=len _ _ _ _ hsp
 have KX:K.In s.heap:=e0.mod.kin.keeps λb o e=>(e0.bs b o e).1
 have nl:s.heap.NoLimit:=e0.mod.nolimit.keeps λb o e=>(e0.bs b o e).1
 have kinds:∀y∈ps.zip us,(aK st).names.lookup y.1=some .local\/((aK st).names.lookup y.1=some .cell/\((cellsFrom (s.heap.objs.size+1) (aK st).names []).lookup y.1).isSome=true):=λ⟨n,v⟩ hy=>
  (S.par n (Fk hy).1).elim .inl λq=>.inr ⟨q,Gu _ _ _ (.inl q)⟩
 refine codeAny_call_function (show (B.mark (some (.ref ea))).depth<recursionLimit from hr.depth) (KX _ _ lk) rfl S.co S.gen rfl (W.codeRec_of KX hcd) (hb _ _ _ _ ?_);refine wpAny_newFunctionEnv_cells S.kind kinds λenv he s1 x=>?_;subst he;refine⟨nl.keeps x.toInCall.keep,codeAny_func ?_⟩;obtain⟨t,ht,hq⟩:=hbody cdv B ea outer s H vs Q (hr.deeper _) hsp;have I:=(aQA (CX:=CX0) (E:=E0) S hr.hd e0 hl r x).hnd ea
 refine Cq (ht [] s1 (lT N vs) H _ I hq) (λfl s' hs=>?_) λe s' z=>False.elim z;cases fl with
 |ret u=>
  obtain⟨v,σ',H',J,rv,q⟩:=hs;exact⟨v,H',J.os,J.bare,J.base,J.hok,rv,q⟩
 |next=>
  obtain⟨σ',H',J,q⟩:=hs;exact⟨V.non,H',J.os,J.bare,J.base,J.hok,rfl,q⟩
 |brk=>
  obtain⟨_,_,_,q⟩:=hs;exact False.elim q
 |cont=>
  obtain⟨_,_,_,q⟩:=hs;exact False.elim q
def fXB(P:Program)(w:World)(K:W.Frag)(mg:Str->Option Value)(base:Heap)(k:Nat)(x:Str)(ps:List Str)(sp:Sp):Prop:=
 ∃(f:Addr) (fd:FuncData),FnOkM P w K mg base k f fd ps sp/\mg x=some (.ref f)/\W.keepIn K (.ref f)=true/\Binds K fd ps []
section
variable {pn:Q2} {ps:List Str} {p:Pos}
def dZ4(c:fXB X.prog X.w X.K X.mg X.base k x ps sp)(hr:Room k' X.A)(hk:k<=k')(hg:Gl (X.hnd pn ea) x)(ha:PA (X.hnd pn ea) (e::es) t)(hdb:(x==("__debug__" : Str))=false:=by decide)(he:starEach (e::es) (X.hnd pn ea).env=(false,eval e (X.hnd pn ea).env)::starEach es (X.hnd pn ea).env:=by rfl)(hpl:(backTo pos (starEach es (X.hnd pn ea).env)).any (·.1)=false:=by rfl):PE (X.hnd pn ea) (.Call (.Name x p) (e::es) [] pos) (aJT sp [] E0 t):=by
 obtain⟨f,fd,F,hm,hkp,hb⟩:=c;intro y3 s σ H Q I h;refine Dh (fS I hg hm ?_ hdb);refine Er (h₀:=X.base) I.ok.mod.kin hkp (thn (ha pos y3 s σ H _ I h) λus s1 ⟨vs,H1,I1,r,q⟩=>⟨I1.kIn,?_⟩) he hpl;have q':sp vs H1 Q E0:=by have q:sp (vs++[]) H1 Q E0:=q;rw[Bj]at q;exact q
 have hl:(us++[]).length=ps.length:=by rw[Bj,<-r.length];exact F.len _ _ _ _ q'
 have hbb:=hb s1 us I1.kIn hl
 rw[Bj]at hbb;have e1:=I1.env0
 have e0:Env0 X.prog X.w X.K X.mg X.base X.A X.stack s1 H1:=⟨e1.frames,e1.mod,e1.bs,e1.bsz,e1.funs,e1.frf,e1.hok,e1.bare⟩
 refine Ep (Ei (F.run X.A ea X.stack s1 H1 ⟨us,[]⟩ us vs Q (hr.mono hk) e0 hbb r q') λrr s' hq=>?_);cases rr with
 |error e=>exact False.elim hq
 |ok fl=>
  cases fl with
  |ret u=>exact I1.after hq
  |next=>exact False.elim hq
  |brk=>exact False.elim hq
  |cont=>exact False.elim hq
end
def pS{f:Str}{ta:TE}(h:X.K=K)(he:PE X e ta)(hb:attributeBase e f X.env (eval e X.env)=eval e X.env):PE X (.Attribute e f pos) (dQP K ta f):=by
 subst h;exact dJP he hb
def aJH{it l:Addr}{items:Array Value}(hne:l≠it):∀(n i:Nat) (s:Shared) (Q:List Value->Shared->Prop),s.heap.IsListIter it l i->s.heap.IsList l items->i+n<=items.size->
 (∀h',h'.IsListIter it l (i+n)->Heap.SameBut it s.heap h'->Q ((items.toList.drop i).take n) {s with heap:=h'})->wpAny (model prog w) A (draw (.ref it) n) Q E s
 |0,i,s,Q,hit,_,_,k=>by
  refine Aq (M:=model prog w) ?_
  simpa using k s.heap hit (Heap.SameBut.refl ..)
 |n+1,i,s,Q,hit,hl,hle,k=>by
  have lt:i<items.size:=by omega
  show wpAny _ _ (pyNext (.ref it) >>= _) Q E s
  refine wpAny_bind (wpAny_pyNext_list_item hit hl (x:=items[i]) (by simp[lt]) λg1 it1 sb1=>?_)
  refine Ae (Cu (aJH hne n (i+1) _ _ it1 (hl.extBut sb1.extBut hne) (by omega) λg2 it2 sb2=>Aq ?_))
  have e:items.toList.drop i=items[i]::items.toList.drop (i+1):=by simp[List.drop_eq_getElem_cons,lt]
  have z:=k g2 (by rw[show i+(n+1)=i+1+n by omega];exact it2) (sb1.trans sb2)
  rw[e,List.take_succ_cons]at z;exact z
def bXJ{l:Addr}{items:Array Value}{targets:List (Bool×(Value->Sem Unit))}{Q:Unit->Shared->Prop}(hh:A.handled=none)(hl:s.heap.IsList l items)(hn:targets.length=items.size)(hs:targets.findIdx? (·.1)=none)(k:∀h',Heap.ExtBut s.heap.objs.size s.heap h'->wpAny (model prog w) A (assignInOrder (targets.map (·.2)) items.toList) Q E {s with heap:=h'}):wpAny (model prog w) A (unpack (.ref l) targets) Q E s:=by
 have hlt:l≠s.heap.objs.size:=by obtain⟨o,ho,_⟩:=hl;exact Bl (Au ho)
 unfold unpack;rw[hn,hs];refine Ae (Cu ?_);unfold unpackItems notIterableAtAll;refine Ae (Ae (wpAny_specialOf hl.typeIs slot_list_iter.lookup (Aq ?_)));rw[if_neg (by simp)]
 refine Ae (Cu (Eg hl ?_));refine Ae (Cu (aJH hlt items.size 0 _ _ ⟨_,Ay _ rfl,rfl,rfl⟩ (hl.push _) (by omega) λg1 it1 sb1=>?_))
 have al:List.take items.size (List.drop 0 items.toList)=items.toList:=by rw[List.drop_zero];exact List.take_of_length_le (by simp)
 rw[al,if_neg (by simp)]
 refine wpAny_bind (wpAny_holding (wpAny_pyNext_list_end hh it1 ((hl.push _).extBut sb1.extBut hlt) (by simp) λg2 eb=>?_))
 simp only[Option.isSome_none,Bool.false_eq_true,if_false];exact Aq (k g2 λb o hb e=>eb b o hb (sb1.extBut b o hb (Ah _ e)))
def fZU(n:Nat)(t:TGs):TG:=λv σ H Q=>∃a xs,v=.ref a/\rdL H a=some xs/\xs.length=n/\t xs σ H Q
def fQM{t:TGs}(hc:X.calm=true)(h:PGs X es t)(hn:(assignEach es X.env).length=n:=by rfl)(hst:(assignEach es X.env).findIdx? (·.1)=none:=by rfl):PG X (.Tuple es k pos) (fZU n t):=by
 intro y3 s σ H v u Q I r hw;obtain⟨a,xs,e1,hq,hl,hw⟩:=hw;subst e1;cases r;obtain⟨its,rv,⟨o,nn,ho,hcl,_,hda⟩,hz⟩:=I.list (bG hq);rw[assign_Tuple];refine wpAny_bind (wpAny_standAt (bXJ (I.ok.hd hc) ⟨o,ho,hcl,nn,hda⟩ (by simp[hn,<-hl,rv.length]) hst λh' hx=>?_))
 have I1:Inv X y3 σ H {s with heap:=h'}:=I.kept (t':=s.toks) λb o e=>hx b o (Bl (Au e)) e
 exact h y3 _ σ H xs _ Q I1 (by simpa using rv) hw
def eJS{t:TGs}{Q:St->Hp->Prop}(e:rdL H a=some xs)(hn:xs.length=n)(h:t xs σ H Q):fZU n t (.ref a) σ H Q:=⟨a,xs,rfl,e,hn,h⟩
section
open PySem.AutoSeq1 (wpAny_loadPart')
def bQ1(z:Str)(tz:Tok)(k:Int)(t:Tok)(ha:z.cps.all (· < 128)=true)(hk:Builtin.SmallTypes.fitsIndex k=true):Meets (Builtin.«enumerate.__new__» ⟨[.type "enumerate",.str z tz],[("start",.int k t)]⟩) (λ_ R s=>
 R (.ok (.ret (.ref (s.heap.push {cls:=.type "str_ascii_iterator",data:=.fields #[.str z tz,.int 0 0]}).objs.size)))
  {s with heap:=(s.heap.push {cls:=.type "str_ascii_iterator",data:=.fields #[.str z tz,.int 0 0]}).push ⟨.type "enumerate",none,.fields #[.none,.bool false,.ref s.heap.objs.size,rawInt k,.none,.none],#[]⟩}):=
 .of_wp λprog w A R s h=>by
  obtain⟨hp,g,d,tk,os⟩:=s;have hsub:=sub_enumerate
  have hk':(!Builtin.SmallTypes.fitsIndex k)=false:=by rw[hk];rfl
  wp_walk
  refine wpAny_stack_any λst=>Aq ?_;refine cJB ?_ ?_ <;>
  ·wp_walk using (wpAny_pyIter_ascii (s:=⟨hp,g,d,tk,os⟩) ha)
   exact⟨_,rfl,h⟩
def yJ{tz:Tok}{k:Int}{t:Tok}{Q:Q0}(ha:z.cps.all (· < 128)=true)(hk:Builtin.SmallTypes.fitsIndex k=true)(h:∀h',IsEnum h' (s.heap.objs.size+1) s.heap.objs.size k .none->h'.IsStrIter s.heap.objs.size "str_ascii_iterator" z tz 0->h'.objs.size=s.heap.objs.size+2->(∀b o,s.heap.get? b=some o->h'.get? b=some o)->Q (.ref (s.heap.objs.size+1)) {s with heap:=h'}):wpAny (model prog w) A (call (.type "enumerate") [.str z tz] [("start",.int k t)]) Q E s:=by
 have hz:(s.heap.push {cls:=.type "str_ascii_iterator",data:=.fields #[.str z tz,.int 0 0]}).objs.size=s.heap.objs.size+1:=Fu ..
 refine qK (Q1:=λo s1=>s1.TypeIs o "enumerate"/\Q o s1) F.called_enumerate (by kernel_rfl) (by kernel_rfl) F.entry_enumerate_new (bQ1 z tz k t ha hk) ?_ λo s1 hq=>⟨hq.1,?_,_,bZ0 F.called_enumerate.init.lookup F.called_enumerate.made (by decide),hq.1,rfl,hq.2⟩
 ·show _/\_
  rw[hz];have he:IsEnum ((s.heap.push {cls:=.type "str_ascii_iterator",data:=.fields #[.str z tz,.int 0 0]}).push ⟨.type "enumerate",none,.fields #[.none,.bool false,.ref s.heap.objs.size,rawInt k,.none,.none],#[]⟩) (s.heap.objs.size+1) s.heap.objs.size k .none:=by
   have q:=Ay (s.heap.push {cls:=.type "str_ascii_iterator",data:=.fields #[.str z tz,.int 0 0]}) (o:=⟨.type "enumerate",none,.fields #[.none,.bool false,.ref s.heap.objs.size,rawInt k,.none,.none],#[]⟩) rfl
   rwa [hz]at q
  exact⟨⟨_,he,rfl⟩,h _ he ⟨_,Ah _ (Ay _ rfl),rfl,rfl⟩ (by rw[Fu,hz]) λb o x=>Ah _ (Ah _ x)⟩
 ·unfold argsOk;rw[signature?_of (n:=['_','_','t','i','n','i','_','_']) (o := "tcejbo".toList) (by kernel_rfl) F.owner_object]
  kernel_rfl
def cZ6(z:Str)(k:Nat):It:=
 ⟨λi _=>i<z.cps.size,λi H v H'=>∃p c,H p=none/\v=.ref p/\H'=upd H p (.tup [.int ((k+i:Nat):Int),.str ⟨#[c]⟩])/\z.cps[i]?=some c,λi _=>z.cps.size=i⟩
def bXV(z:Str)(tz:Tok)(e it:Addr)(k:Nat)(hei:e≠it):Turn P w K (.Tuple elts x1 tp) (cZ6 z k) [e,it] e (λi h=>(∃old,IsEnum h e it ((k+i:Nat):Int) old)/\h.IsStrIter it "str_ascii_iterator" z tz i) where
 mem:=by simp
 obj:=λi h st b hb=>by
  obtain⟨⟨old,he⟩,o,ho,c,d⟩:=st;rcases Bb.mp hb with z|z
  ·subst z;exact⟨_,he,λv z=>by cases z⟩
  ·rw[Al.mp z];exact⟨o,ho,λv z=>by rw[d]at z;cases z⟩
 keep:=λi h h' st kk=>⟨let ⟨old,he⟩:=st.1;⟨old,kk e (by simp) _ he⟩,let ⟨o,ho,r⟩:=st.2;⟨o,kk it (by simp) o ho,r⟩⟩
 item:=by
  intro X hP hw hK hc i y3 s σ H E I hf st hg;subst hP hw hK;obtain⟨⟨old,he⟩,hit⟩:=st;have hi:i<z.cps.size:=hg
  have D:=iI k (Draws.strAscii (prog:=X.prog) (w:=X.w) (A:=X.A.in1) (show X.A.in1.handled=none from I.ok.hd hc) it z tz)
  refine wpAny_pyNext_enum_itemD D (i:=k+i) he ⟨Fg _ _,by rw[Cz];exact hit⟩ (by omega) hei (λz=>hei (Al.mp z)) λy h1 tk hP ho hS hT hsz kk=>?_
  refine⟨_,rfl,wpAny_letOwnedTupleGo_enum ho λh2 he2 hs2=>?_⟩;obtain⟨c,u,hcu,rfl⟩:=hP;rw[Cz]at hcu;have hTe:s.heap.objs.size≠e:=Fz (Au he)
  have hTi:s.heap.objs.size≠it:=by obtain⟨o,q,_⟩:=hit;exact Fz (Au q)
  have hT2:h2.get? s.heap.objs.size=some {cls:=.type "tuple",data:=.seq #[.int ((k+i:Nat):Int) tk,.str ⟨#[c]⟩ u]}:=(hs2.2 _ hTe).trans hT
  have hS':h1.IsStrIter it "str_ascii_iterator" z tz (i+1):=by
   have q:=hS.2
   rwa [show k+i+1-k=i+1 by omega]at q
  have I2:Inv X y3 σ (upd H s.heap.objs.size (.tup [.int ((k+i:Nat):Int),.str ⟨#[c]⟩])) {s with heap:=h2,toks:=tk+1}:=by
   refine I.turnLaid (ch:=[e,it]) hf (λb u hb q=>(hs2.2 b (λz=>hb (by simp[z]))).trans (kk b u (λz=>hb (by simp[z])) (λz=>hb (by simp[z])) q)) (Nat.le_refl _) ⟨bO (by show 2<=_;omega),[.int ((k+i:Nat):Int) tk,.str ⟨#[c]⟩ u],.cons ⟨tk,rfl⟩ (.cons ⟨u,rfl⟩ .nil),_,hT2,rfl,_,rfl⟩
  refine⟨.ref s.heap.objs.size,_,I2,rfl,⟨_,c,I.hok.fresh (Ai _),rfl,rfl,hcu⟩,⟨⟨_,he2⟩,let ⟨o,ho,r⟩:=hS';⟨o,(hs2.2 it hei.symm).trans ho,r⟩⟩,λb hb=>?_⟩
  rcases Bb.mp hb with z|z
  ·rw[z,aM hTe.symm];exact(hf e (by simp)).1
  ·rw[List.mem_singleton.mp z,aM hTi.symm];exact(hf it (by simp)).1
 done:=by
  intro X hP hw hK hc i y3 s σ H E I hf st hg;subst hP hw hK;have hx:z.cps.size=i:=hg
  obtain⟨⟨old,he⟩,hit⟩:=st;have D:=iI k (Draws.strAscii (prog:=X.prog) (w:=X.w) (A:=X.A.in1) (show X.A.in1.handled=none from I.ok.hd hc) it z tz)
  refine wpAny_pyNext_enum_endD D he ⟨Fg _ _,by rw[Cz,hx];exact hit⟩ λh' eb=>⟨rfl,?_⟩
  exact I.turnAll (t':=s.toks) (ch:=[e,it]) hf λb u hb q=>eb b u (λz=>hb (by simp[z])) q
 self:=λ_ _ _ _ _ st h=>let ⟨⟨_,he⟩,_⟩:=st;Gz he h
section
variable {p kp:Pos}
def cQL(R:Addr->Hp->Prop)(S:Str->Hp->Prop):List V->Hp->Prop:=λvs H=>match vs with|[.ref j]=>R j H|[.str z]=>S z H|_=>False
def dZ0{R:Addr->Hp->Prop}(q:cQL R S vs H):(∃j,vs=[.ref j]/\R j H)\/(∃z,vs=[.str z]/\S z H):=by
 unfold cQL at q;split at q
 ·exact .inl ⟨_,rfl,q⟩
 ·exact .inr ⟨_,rfl,q⟩
 ·exact q.elim
def dXJ(K:W.Frag)(ta tk:TA):TI:=λσ H R=>ta σ H (cQL (λa H1=>tk σ H1 (wR λk H2=>(0<=k/\k<2^62)/\onL (rdL H2 a) (R (Ite K a k.toNat) H2))) λz H1=>tk σ H1 (wR λk H2=>(0<=k/\k<2^62)/\z.cps.all (· < 128)=true/\R (cZ6 z k.toNat) H2))
def cZE{tz:Tok}(I1:Inv X y3 σ H1 s1)(he:IsEnum h' (s1.heap.objs.size+1) s1.heap.objs.size ((k:Nat):Int) .none)(hi:h'.IsStrIter s1.heap.objs.size "str_ascii_iterator" z tz 0)(hz:h'.objs.size=s1.heap.objs.size+2)(hk:∀b o,s1.heap.get? b=some o->h'.get? b=some o)(q:R (cZ6 z k) H1):wpAny (model X.prog X.w) X.A (pyIter (.ref (s1.heap.objs.size+1))) (PIE X y3 σ (.Tuple elts x1 tp) R) E {s1 with heap:=h'}:=by
 refine Gz (s:={s1 with heap:=h'}) he ⟨_,[s1.heap.objs.size+1,s1.heap.objs.size],_,_,H1,rfl,I1.kept (t':=s1.toks) hk,bXV z tz _ _ k (Nat.succ_ne_self _),⟨⟨_,he⟩,hi⟩,λb hb=>?_,q⟩
 have z:s1.heap.objs.size<=b:=by
  rcases Bb.mp hb with z|z
  ·rw[z];exact Nat.le_succ _
  ·rw[Al.mp z];exact Ai _
 exact I1.fpOk z (I1.hok.fresh z)
def aZX{kx:Expr}(hg:Gl X "enumerate")(hm:X.mg "enumerate"=none)(ha:PA X [l] ta)(hk:PK X [⟨some "start",kx,kp⟩] tk)(hs:starEach [l] X.env=[(false,eval l X.env)]:=by rfl)(hks:keywordEach [⟨some "start",kx,kp⟩] X.env=[(some ("start" : Str),eval kx X.env)]:=by rfl):PI X (.Tuple elts x1 tp) (.Call (.Name "enumerate" p) [l] [⟨some "start",kx,kp⟩] pos) (dXJ X.K ta tk):=by
 intro y3 s σ H R I h;have hs2:backTo pos (starEach [l] X.env)=[(false,eval l X.env)]:=by rw[hs];rfl
 refine Dh (iS I hg hm boot_enumerate (pT (by rw[hs2];rfl) (by rw[hks];rfl) ?_))
 rw[hs2];refine evalArgs_kwB (by rw[hks];rfl) ?_
 rw[<-hs2];refine thn (ha pos y3 s σ H _ I h) λus s1 ⟨vs,H1,I1,r1,q1⟩=>?_;have e:(backToKw pos (keywordEach [⟨some "start",kx,kp⟩] X.env)).filterMap (·.1)=(["start"]:List Str):=by rw[hks];rfl
 rcases dZ0 q1 with⟨a,rfl,q⟩|⟨z,rfl,q⟩
 ·refine thn (hk pos y3 s1 σ H1 _ I1 q) λws s2 ⟨zs,H2,I2,r2,q2⟩=>?_;obtain⟨k,rfl,⟨k0,k1⟩,q⟩:=uI q2;obtain⟨u,rfl,ru⟩:=eW r1;cases ru;obtain⟨u,rfl,t,rfl⟩:=eW r2;unfold onL at q;split at q
  ·rename_i xs ex
   obtain⟨its,rv,p,hz⟩:=I2.list (bG ex);rw[e];refine qD (by unfold Builtin.SmallTypes.fitsIndex;rw[Ap (by omega),Ap (by omega)];rfl) p.isList λh' he hi hz hk=>aZC I2 (k:=k.toNat) ?_ hi hz hk q
   rw[show ((k.toNat:Nat):Int)=k by omega]
   exact he
  ·exact q.elim
 ·refine thn (hk pos y3 s1 σ H1 _ I1 q) λws s2 ⟨zs,H2,I2,r2,q2⟩=>?_;obtain⟨k,rfl,⟨k0,k1⟩,hz,q⟩:=uI q2;obtain⟨u,rfl,ru⟩:=eW r1;obtain⟨tz,rfl⟩:=ru;obtain⟨u,rfl,t,rfl⟩:=eW r2;rw[e];refine yJ hz (by unfold Builtin.SmallTypes.fitsIndex;rw[Ap (by omega),Ap (by omega)];rfl) λh' he hi hz hk=>cZE I2 (k:=k.toNat) ?_ hi hz hk q
  rw[show ((k.toNat:Nat):Int)=k by omega]
  exact he
end
def dQW(f:Nat->Nat->Option V)(hl:z.length<sizeLine)(hs:∀(i:Nat) c Hc p (A:VK) (B:Hp->Prop),z.cps.toList[i]?=some c->Same H1 Hc->Hc p=none->(∀Hd,Same (upd Hc p (.tup [.int ((k+i:Nat):Int),.str ⟨#[c]⟩])) Hd->match f i c with|some y=>A y Hd|none=>B Hd)->
 g (.ref p) σ0 (upd Hc p (.tup [.int ((k+i:Nat):Int),.str ⟨#[c]⟩])) λσ2 H2=>Wk σ0 σ2/\tests σ2 H2 λb H3=>if b=true then te σ2 H3 A else B H3)(fin:∀D Hd,H1 D=none->Same H1 Hd->rdL Hd D=some ((List.range z.length).filterMap λi=>f i (z.cps.toList.getD i 0))->Q (.ref D) Hd):eC g tests te σ0 Q (cZ6 z k) H1:=by
 intro D hD;have hzz:z.cps.size=z.length:=rfl
 refine⟨λi m Hc=>m=z.length-i/\i<=z.length/\Same H1 Hc/\Hc D=some (.lst ((List.range i).filterMap λi=>f i (z.cps.toList.getD i 0))),⟨z.length,by simp,Nat.zero_le _,aG hD _,by rw[aH];rfl⟩,?_⟩
 rintro i m Hc ⟨rfl,hi,sm,hDc⟩;by_cases hlt:i<z.length
 ·refine .inr ⟨hlt,λv H' y=>?_⟩;obtain⟨q,c,hq,rfl,rfl,hz⟩:=y;have hx:z.cps.toList[i]?=some c:=by rw[Dw];exact hz
  have hg:z.cps.toList.getD i 0=c:=by rw[Ad,hx];rfl
  refine hs i c Hc q _ _ hx sm hq λHd sd=>?_;have hDd:Hd D=some (.lst ((List.range i).filterMap λi=>f i (z.cps.toList.getD i 0))):=sd _ _ (aG hq _ _ _ hDc)
  have sH:Same H1 Hd:=sm.trans ((aG hq _).trans sd)
  cases e:f i c with
  |some y=>
   refine⟨_,hDd,?_,z.length-(i+1),by omega,rfl,hlt,λb o hb=>?_,?_⟩
   ·have:=Cv (λi=>f i (z.cps.toList.getD i 0)) (List.range i)
    rw[Ce]at this;omega
   ·rw[aM (bM hb hD)];exact sH b o hb
   ·rw[aH,Cd,Br,Ci (b:=y) (by rw[hg,e]),Cr]
  |none=>
   refine⟨z.length-(i+1),by omega,rfl,hlt,sH,?_⟩
   rw[hDd,Cd,Br,Cp (by rw[hg,e]),Cr,Bj]
 ·have e:i=z.length:=by omega
  subst e;exact .inl ⟨hzz,fin D Hc hD sm (aR hDc)⟩
def dX9(h:ta σ H (cQL (λa H1=>tk σ H1 (wR λk H2=>(0<=k/\k<2^62)/\onL (rdL H2 a) (R (Ite K a k.toNat) H2))) λz H1=>tk σ H1 (wR λk H2=>(0<=k/\k<2^62)/\z.cps.all (· < 128)=true/\R (cZ6 z k.toNat) H2))):dXJ K ta tk σ H R:=h
def fX6{i:Int}(h:Q (.int (-i)) H):eZP (.int i) H Q:=h
def dZM{R:Addr->Hp->Prop}(h:R a H):cQL R S [.ref a] H:=h
def dJD{R:Addr->Hp->Prop}(h:S z H):cQL R S [.str z] H:=h
end
section
variable {a b:Expr} {ta tb:TE} {rest:List Expr}
def cJV:Value->Bool
 |.none=>true
 |_=>false
def bJL{x:V}(f:cB x=true)(r:RelV x u):eqV x .non=cJV u:=by
 cases x with
 |non=>cases r;rfl
 |bl b=>cases r;rfl
 |int i=>obtain⟨t,rfl⟩:=r;rfl
 |str i=>obtain⟨t,rfl⟩:=r;rfl
 |byt i=>cases f
 |flt i=>cases f
 |ref i=>cases f
 |ty i=>cases f
def bJJ:V->List V->Hp->VK->Prop:=λx vs H Q=>∃(p:Addr) (xs:List V) (j:Nat),x=.ref p/\vs=[.non]/\rdL H p=some xs/\xs.all cB=true/\xs[j]?=some .non/\(∀i y,i<j->xs[i]?=some y->y≠.non)/\Q (.int (j:Int)) H
def dXA:MtR X "list.index" bJJ:=by
 intro y3 s σ H x vs v us Q I rx rv h;obtain⟨p,xs,j,rfl,rfl,hp,hf,hj,hb,q⟩:=h;cases rx;obtain⟨u,rfl,ru⟩:=rv.one;cases ru;obtain⟨its,r,pl,hz⟩:=I.list (bG hp);obtain⟨⟨c,dd,dt,sl⟩,ho,hc,n,hd⟩:=pl.isList;obtain rfl:c=.type "list" := hc;obtain rfl:dt=.seq its.toArray n:=hd;have hlen:=r.length
 have hjl:j<xs.length:=(Ac.mp hj).1
 have hn:=jA
 have rel:∀m (hm:m<its.length),∃x,xs[m]?=some x/\cB x=true/\RelV x its[m]:=λm hm=>by
  have hm':m<xs.length:=by omega
  obtain⟨u,hu,ru⟩:=r.get (Aa hm');rw[Aa hm]at hu;cases hu;exact⟨_,Aa hm',Bv.mp hf _ (Bk _),ru⟩
 have fl:∀m (hm:m<its.length) x,xs[m]?=some x->cJV its[m]=eqV x .non:=λm hm x hx=>by
  obtain⟨y,hy,fy,ry⟩:=rel m hm;rw[hx]at hy;cases hy;exact(bJL fy ry).symm
 refine Fi Dt ⟨_,ho,rfl⟩ Gf (Gb _ _) (SeqAt.list_indexAt p its.toArray n dd sl .none cJV j (by rw[Ax];omega) (by omega) ?_ ?_) ⟨ho,λy hy=>?_,⟨.int j,H,I.tok _,⟨_,rfl⟩,q⟩⟩
 ·rw[Ee,fl j (by omega) _ hj]
  rfl
 ·intro m hm hmj;have hm':m<its.length:=by rw[Ax]at hm;exact hm
  obtain⟨y,hy,fy,ry⟩:=rel m hm';rw[Ee,fl m hm' _ hy];have:=hb m y hmj hy
  cases y with
  |non=>exact absurd rfl this
  |_=>rfl
 ·have hy':y∈its:=by simpa using hy
  obtain⟨m,hm,rfl⟩:=Bu.mp hy';obtain⟨z,hz,fz,rz⟩:=rel m hm;rw[<-bJL fz rz];exact oO rz (show RelV .non .none from rfl) fz rfl
def cZH:List V->Hp->VK->Prop:=λxs H Q=>∃z:Str,xs=[.str z]/\z.length<=sizeLine/\∀l,H l=none->Q (.ref l) (upd H l (.lst (z.cps.toList.map λc=>.str ⟨#[c]⟩)))
def eQN(hc:X.calm=true):CallR X (.type "list") cZH:=by
 intro y3 s σ H xs us Q I r h;obtain⟨z,rfl,hl,q⟩:=h;obtain⟨u,rfl,t,rfl⟩:=eW r;refine call_list_str (I.ok.hd hc) z t (λh' tk acc c' hk hS hacc=>?_) hl;have hsz:z.cps.toList.length=z.length:=by simp[Str.length]
 refine⟨.ref s.heap.objs.size,_,I.laid (t':=tk) hk (Ai _) (show ObjOk X.prog X.w _ h' _ (.lst (z.cps.toList.map λc=>.str ⟨#[c]⟩)) from⟨by rw[Ab,hsz];exact hl,acc.toList,c',bJZ ?_ λj x u hx hu=>?_,hS⟩),rfl,q _ (I.hok.fresh (Ai _))⟩
 ·rw[Ab,hsz,Gd,hacc.1];rfl
 ·obtain⟨c,w,hc,rfl⟩:=hacc.2 j u (by rw[<-Dw];exact hu)
  rw[Ag,Dw,hc]at hx;cases hx;exact⟨w,rfl⟩
section
variable {p:Addr}
def aXZ(f:Nat->Option V)(hl:z.length<sizeLine)(hs:∀(i:Nat) c Hc (A:VK) (B:Hp->Prop),z.cps.toList[i]?=some c->Same H1 Hc->(∀Hd,Same Hc Hd->match f c with|some y=>A y Hd|none=>B Hd)->
 g (.str ⟨#[c]⟩) σ0 Hc λσ2 H2=>Wk σ0 σ2/\tests σ2 H2 λb H3=>if b=true then te σ2 H3 A else B H3)(fin:∀D Hd,H1 D=none->Same H1 Hd->Hd D=some (.lst (z.cps.toList.filterMap f))->Q (.ref D) Hd):eC g tests te σ0 Q (Its z) H1:=by
 intro D hD;have hzz:z.cps.size=z.length:=rfl
 have hz2:z.cps.toList.length=z.length:=by simp[Str.length]
 refine⟨λi m Hc=>m=z.length-i/\i<=z.length/\Same H1 Hc/\Hc D=some (.lst ((z.cps.toList.take i).filterMap f)),⟨z.length,by simp,Nat.zero_le _,aG hD _,by rw[aH];rfl⟩,?_⟩
 rintro i m Hc ⟨rfl,hi,sm,hDc⟩;by_cases hlt:i<z.length
 ·refine .inr ⟨hlt,λv H' y=>?_⟩;obtain⟨rfl,c,hz,rfl⟩:=y;have hx:z.cps.toList[i]?=some c:=by rw[Dw];exact hz
  refine hs i c H' _ _ hx sm λHd sd=>?_;have hDd:Hd D=some (.lst ((z.cps.toList.take i).filterMap f)):=sd _ _ hDc
  have sH:Same H1 Hd:=sm.trans sd
  cases e:f c with
  |some y=>
   refine⟨_,hDd,?_,z.length-(i+1),by omega,rfl,hlt,λb o hb=>?_,?_⟩
   ·have:=Cv f (z.cps.toList.take i)
    rw[Bt]at this;omega
   ·rw[aM (bM hb hD)];exact sH b o hb
   ·rw[aH,Bh,hx,Br];show some (HO.lst (_++[y]))=some (HO.lst (_++[c].filterMap f))
    rw[Ci e,Cr]
  |none=>
   refine⟨z.length-(i+1),by omega,rfl,hlt,sH,?_⟩
   rw[hDd,Bh,hx,Br];show some (HO.lst _)=some (HO.lst (_++[c].filterMap f))
   rw[Cp e,Cr,Bj]
 ·have e:i=z.length:=by omega
  subst e;refine .inl ⟨Ai _,fin D Hc hD sm ?_⟩;rw[hDc,Be (by omega)]
def cXN(f:Nat->Option V)(hl:n<sizeLine)(hs:∀(i:Nat) Hc (A:VK) (B:Hp->Prop),i<n->Same H1 Hc->(∀Hd,Same Hc Hd->match f i with|some y=>A y Hd|none=>B Hd)->
 g (.int (lo+i)) σ0 Hc λσ2 H2=>Wk σ0 σ2/\tests σ2 H2 λb H3=>if b=true then te σ2 H3 A else B H3)(fin:∀D Hd,H1 D=none->Same H1 Hd->Hd D=some (.lst ((List.range n).filterMap f))->Q (.ref D) Hd):eC g tests te σ0 Q (Itr lo n) H1:=by
 intro D hD;refine⟨λi m Hc=>m=n-i/\i<=n/\Same H1 Hc/\Hc D=some (.lst ((List.range i).filterMap f)),⟨n,by simp,Nat.zero_le _,aG hD _,by rw[aH];rfl⟩,?_⟩
 rintro i m Hc ⟨rfl,hi,sm,hDc⟩;by_cases hlt:i<n
 ·refine .inr ⟨hlt,λv H' y=>?_⟩;obtain⟨rfl,rfl⟩:=y;refine hs i H' _ _ hlt sm λHd sd=>?_;have hDd:Hd D=some (.lst ((List.range i).filterMap f)):=sd _ _ hDc
  have sH:Same H1 Hd:=sm.trans sd
  cases e:f i with
  |some y=>
   refine⟨_,hDd,?_,n-(i+1),by omega,rfl,hlt,λb o hb=>?_,?_⟩
   ·have:=Cv f (List.range i)
    rw[Ce]at this;omega
   ·rw[aM (bM hb hD)];exact sH b o hb
   ·rw[aH,Cd,Br,Ci e,Cr]
  |none=>
   refine⟨n-(i+1),by omega,rfl,hlt,sH,?_⟩
   rw[hDd,Cd,Br,Cp e,Cr,Bj]
 ·have e:i=n:=by omega
  subst e;exact .inl ⟨Ai _,fin D Hc hD sm hDc⟩
def cJG(e:rdL H p=some xs)(f:xs.all cB=true)(hj:xs[j]?=some .non)(hb:∀i y,i<j->xs[i]?=some y->y≠.non)(h:Q (.int (j:Int)) H):bJJ (.ref p) [.non] H Q:=⟨p,xs,j,rfl,rfl,e,f,hj,hb,h⟩
def dZP(hl:z.length<=sizeLine)(h:∀l,H l=none->Q (.ref l) (upd H l (.lst (z.cps.toList.map λc=>.str ⟨#[c]⟩)))):cZH [.str z] H Q:=⟨z,rfl,hl,h⟩
end
end
def eX9(neg:Bool):R2:=λx y H Q=>∃a ov,y=.ref a/\tY H a x ov/\Q (.bl (if neg then !ov.isSome else ov.isSome)) H
def fX2(hu:X.A.units+1<cLine):OpR X (compareOp .In) (eX9 false):=by
 intro y3 s σ H x y v u Q I rx ry h;obtain⟨a,ov,rfl,g,q⟩:=h;cases ry;exact fJH hu I g rx λs3 I3=>⟨.bl ov.isSome,H,I3,rfl,q⟩
def aZ0(hu:X.A.units+1<cLine):OpR X (compareOp .NotIn) (eX9 true):=by
 intro y3 s σ H x y v u Q I rx ry h;obtain⟨a,ov,rfl,g,q⟩:=h;cases ry;exact dZS hu I g rx λs3 I3=>⟨.bl (!ov.isSome),H,I3,rfl,q⟩
def qL{xs:List V}(f:V->Option V)(ha:rdL H1 a=some xs)(hl:xs.length<sizeLine)(hs:∀(i:Nat) x Hc (A:VK) (B:Hp->Prop),xs[i]?=some x->Same H1 Hc->(∀Hd,Same Hc Hd->match f x with|some y=>A y Hd|none=>B Hd)->
 g x σ0 Hc λσ2 H2=>Wk σ0 σ2/\tests σ2 H2 λb H3=>if b=true then te σ2 H3 A else B H3)(fin:∀D Hd,H1 D=none->Same H1 Hd->Hd D=some (.lst (xs.filterMap f))->Q (.ref D) Hd):eC g tests te σ0 Q (Itl K a) H1:=by
 intro D hD;refine⟨λi m Hc=>m=xs.length-i/\i<=xs.length/\Same H1 Hc/\Hc D=some (.lst ((xs.take i).filterMap f)),⟨xs.length,by simp,Nat.zero_le _,aG hD _,by rw[aH];rfl⟩,?_⟩
 rintro i m Hc ⟨rfl,hi,sm,hDc⟩;have hr:=aO sm ha
 by_cases hlt:i<xs.length
 ·refine .inr ⟨⟨xs,xs[i],bG hr,by simp[hlt]⟩,λv H' y=>?_⟩
  obtain⟨rfl,hz⟩:=y;have hx:xs[i]?=some v:=hz xs (bG hr)
  refine hs i v H' _ _ hx sm λHd sd=>?_;have hDd:Hd D=some (.lst ((xs.take i).filterMap f)):=sd _ _ hDc
  have sH:Same H1 Hd:=sm.trans sd
  cases e:f v with
  |some y=>
   refine⟨_,hDd,?_,xs.length-(i+1),by omega,rfl,hlt,λb o hb=>?_,?_⟩
   ·have:=Cv f (xs.take i)
    rw[Bt]at this;omega
   ·rw[aM (bM hb hD)];exact sH b o hb
   ·rw[aH,Bh,hx,Br];show some (HO.lst (_++[y]))=some (HO.lst (_++[v].filterMap f))
    rw[Ci e,Cr]
  |none=>
   refine⟨xs.length-(i+1),by omega,rfl,hlt,sH,?_⟩
   rw[hDd,Bh,hx,Br];show some (HO.lst _)=some (HO.lst (_++[v].filterMap f))
   rw[Cp e,Cr,Bj]
 ·have e:i=xs.length:=by omega
  subst e;refine .inl ⟨⟨xs,bG hr,Ai _⟩,fin D Hc hD sm ?_⟩;rw[hDc,Be (by omega)]
def cJO{neg:Bool}(e:Rd H a (.dK kvs))(h:Q (.bl (if neg then !(cR kvs (Sum.inr z)).isSome else (cR kvs (Sum.inr z)).isSome)) H):eX9 neg (.str z) (.ref a) H Q:=⟨a,_,rfl,.inl ⟨kvs,.inr z,e,rfl,rfl⟩,h⟩
section
open PySem.Builtin PySem.Builtin.Str
def zG:∀l:List (Str×Tok),Vals ((l.map (·.1)).map V.str) (strValues l)
 |[]=>.nil
 |p::r=>.cons ⟨p.2,rfl⟩ (zG r)
def cZU:V->List V->Hp->VK->Prop:=λx vs H Q=>∃z y:Str,x=.str z/\vs=[.str y]/\(y.length==0)=false/\z.length+2<=sizeLine/\∀l,H l=none->Q (.ref l) (upd H l (.lst ((Txt.split z y).map V.str)))
def aZA:MtR X "str.split" cZU:=by
 intro y3 s σ H x vs v us Q I rx rv h;obtain⟨z,y,rfl,rfl,hy,hsz,q⟩:=h;obtain⟨t,rfl⟩:=rx;obtain⟨u,rfl,ru⟩:=rv.one;obtain⟨u,rfl⟩:=ru;have hn:(partsBetween z (occurrences z y 0 z.length (z.length+1)) y.length).length<=sizeLine:=by
  have e1:=StrLaws.occ_length_le z y 0 z.length (z.length+1)
  rw[length_partsBetween];omega
 have fin:∀(l:List (Str×Tok)) (k:Nat),l.map (·.1)=Txt.split z y->(Txt.split z y).length<=sizeLine->EP X y3 σ Q (.ref s.heap.objs.size) {s with heap:=s.heap.push {cls:=.type "list",data:=.seq (strValues l).toArray},toks:=k}:=λl k e hl=>
  ⟨.ref _,_,I.lnew (ys:=(Txt.split z y).map V.str) (t':=k) (by rw[<-e];exact zG l) (by rw[Ab];exact hl),rfl,q _ I.fresh⟩
 cases h1:(decide (z.length<y.length) || decide (strKind z<strKind y))
 ·cases hf:(occurrences z y 0 z.length (z.length+1)).isEmpty
  ·have es:Txt.split z y=partsBetween z (occurrences z y 0 z.length (z.length+1)) y.length:=(if_neg (ne_true_of_eq_false h1)).trans (if_neg (ne_true_of_eq_false hf))
   refine Fi F.slot_str_split (Hv _ _ _) F.entry_str_split (F.args_str_split_2 _ _) (meets_str_split_sep z y t u h1 hy hf (by omega) hn) ?_
   show wants _ _ _ {s with toks:=_,heap:=s.heap.push {cls:=.type "list",data:=.seq (strsFrom s.toks (partsBetween z (occurrences z y 0 z.length (z.length+1)) y.length)).toArray}}
   rw[strsFrom_eq];exact fin (numbered s.toks _) _ ((numbered_texts _ _).trans es.symm) (by rw[es];exact hn)
  ·have es:Txt.split z y=[z]:=(if_neg (ne_true_of_eq_false h1)).trans (if_pos hf)
   exact Fi F.slot_str_split (Hv _ _ _) F.entry_str_split (F.args_str_split_2 _ _) (meets_str_split_not_found z y t u h1 hy hf)
    (fin [(z,t)] s.toks es.symm (by rw[es];exact bO (by show 1<=_;omega)))
 ·have es:Txt.split z y=[z]:=if_pos h1
  exact Fi F.slot_str_split (Hv _ _ _) F.entry_str_split (F.args_str_split_2 _ _) (meets_str_split_cannot_occur z y t u h1)
   (fin [(z,t)] s.toks es.symm (by rw[es];exact bO (by show 1<=_;omega)))
def aQZ{y:Str}(hy:(y.length==0)=false)(hl:z.length<=10000)(h:∀l,H l=none->Q (.ref l) (upd H l (.lst ((Txt.split z y).map V.str)))):cZU (.str z) [.str y] H Q:=⟨z,y,rfl,rfl,hy,bO (by omega),h⟩
def jc:List (List Nat)->List Nat
 |[]=>[]
 |[t]=>t
 |t::u::r=>t++32::jc (u::r)
def aZD:∀L:List Str,(Str.join ⟨#[32]⟩ L).cps.toList=jc (L.map λz=>z.cps.toList)
 |[]=>rfl
 |[z]=>rfl
 |z::y::r=>by
  have e:Str.join ⟨#[32]⟩ (z::y::r)=z++⟨#[32]⟩++Str.join ⟨#[32]⟩ (y::r):=rfl
  rw[e,FlT.app_cps,FlT.app_cps,aZD (y::r)];show z.cps.toList++[32]++_=z.cps.toList++32::_
  rw[Gw];rfl
def zP:∀(t u a b:List Nat),32∉t->32∉u->t++32::a=u++32::b->t=u/\a=b
 |[],[],a,b,_,_,h=>by injection h with _ h;exact⟨rfl,h⟩
 |[],c::u,a,b,_,h2,h=>by injection h with h _;exact absurd (by rw[h];exact Aj) h2
 |c::t,[],a,b,h1,_,h=>by injection h with h _;exact absurd (by rw[<-h];exact Aj) h1
 |c::t,d::u,a,b,h1,h2,h=>by
  injection h with e h
  obtain⟨e1,e2⟩:=zP t u a b (λm=>h1 (Ak _ m)) (λm=>h2 (Ak _ m)) h;exact⟨by rw[e,e1],e2⟩
def dQM:∀(L M:Q5),L≠[]->M≠[]->(∀t∈L,32∉t)->(∀t∈M,32∉t)->jc L=jc M->L=M
 |[],_,h,_,_,_,_=>absurd rfl h
 |_::_,[],_,h,_,_,_=>absurd rfl h
 |[t],[u],_,_,_,_,h=>by rw[show t=u from h]
 |[t],u::v::r,_,_,h1,_,h=>by
  have e:t=u++32::jc (v::r):=h
  exact absurd (by rw[e];exact Bc _ Aj) (h1 t Aj)
 |t::u::r,[v],_,_,_,h2,h=>by
  have e:t++32::jc (u::r)=v:=h
  exact absurd (by rw[<-e];exact Bc _ Aj) (h2 v Aj)
 |t::u::r,v::w::q,_,_,h1,h2,h=>by
  obtain⟨e1,e2⟩:=zP t v _ _ (h1 t Aj) (h2 v Aj) h;rw[e1,dQM (u::r) (w::q) (λz=>nomatch z) (λz=>nomatch z) (λx hx=>h1 x (Ak _ hx)) (λx hx=>h2 x (Ak _ hx)) e2]
def dQE(x y:Str):Txt.split x y≠[]:=by
 unfold Txt.split;split
 ·exact λz=>nomatch z
 ·split
  ·exact λz=>nomatch z
  ·intro z;have:=Ds List.length z
   rw[length_partsBetween]at this;cases this
def bQY{L:List Str}(hn:L≠[])(hf:∀z∈L,32∉z.cps.toList):Txt.split (Txt.join ⟨#[32]⟩ L) ⟨#[32]⟩=L:=by
 have e1:=StrLaws.join_split (Txt.join ⟨#[32]⟩ L) ⟨#[32]⟩
 have f1:=StrLaws.split_free (Txt.join ⟨#[32]⟩ L) 32
 have n1:=dQE (Txt.join ⟨#[32]⟩ L) ⟨#[32]⟩
 have e2:Txt.join ⟨#[32]⟩ L=Str.join ⟨#[32]⟩ L:=StrLaws.glued_eq_join _ _
 generalize Txt.split (Txt.join ⟨#[32]⟩ L) ⟨#[32]⟩=M at e1 f1 n1 ⊢;rw[e2]at e1;have e3:=Ds (λz:Str=>z.cps.toList) e1
 rw[aZD,aZD]at e3;have q:=dQM _ _ (by intro z;exact n1 (List.map_eq_nil_iff.mp z)) (by intro z;exact hn (List.map_eq_nil_iff.mp z)) (λt ht=>by obtain⟨z,hz,rfl⟩:=Bd.mp ht;exact f1 z hz) (λt ht=>by obtain⟨z,hz,rfl⟩:=Bd.mp ht;exact hf z hz) e3
 exact List.map_inj_right (λa b h=>FlT.str_ext h) |>.mp q
end
def fJP:List V->Hp->VK->Prop:=λxs H Q=>∃(p:Addr) (ns:List Int),xs=[.ref p]/\rdL H p=some (ns.map V.int)/\0<ns.length/\∀m,m∈ns->(∀a∈ns,m<=a)->Q (.int m) H
def eJ5(hc:X.calm=true):CallR X (.builtin "min") fJP:=by
 intro y3 s σ H xs us Q I r h;obtain⟨p,ns,rfl,hp,hn,q⟩:=h;obtain⟨u,rfl,ru⟩:=eW r;cases ru;obtain⟨its,rv,pl,hz⟩:=I.list (bG hp);have hl:=pl.isList
 have hlt:p<s.heap.objs.size:=by obtain⟨_,e,_⟩:=hl;exact Au e
 have hle:its.length=ns.length:=by have:=rv.length;rw[Ab]at this;omega
 have at':∀(i:Nat) (v:Value),its.toArray[i]?=some v->∃t,v=Value.int (ns.getD i 0) t:=λi v hv=>by
  have hv':its[i]?=some v:=by simpa using hv
  have hi:i<ns.length:=by rw[<-hle];exact(Ac.mp hv').1
  obtain⟨u,hu,ru⟩:=rv.get (show (ns.map V.int)[i]?=some (.int ns[i]) by rw[Ag,Aa hi];rfl)
  rw[hv']at hu;cases hu;obtain⟨t,rfl⟩:=ru;exact⟨t,by rw[Ad,Aa hi];rfl⟩
 refine call_min_walk (Eg hl ?_);refine⟨s.heap.objs.size,[s.heap.objs.size,p],[s.heap.objs.size],its.toArray.size,_,_,_,rfl,Walks.list (A:=X.A.in1) (I.ok.hd hc) _ p (Bl hlt) its.toArray,
  ⟨⟨_,Ay _ rfl,rfl,rfl⟩,hl.push _⟩,λb hb=>?_,by rw[Ax];omega,CmpOf.ints_lt (λi=>ns.getD i 0) at',λv h' tk hv hk=>?_⟩
 ·rw[show ({s with heap:=_}:Shared).heap=_ from rfl]
  simp only[List.mem_cons,List.not_mem_nil,or_false]at hb;rcases hb with e|e
  ·rw[e];simp[Heap.push]
  ·rw[e];exact Nat.lt_of_lt_of_le hlt (by simp[Heap.push])
 ·obtain⟨t,rfl⟩:=at' _ _ hv;obtain⟨h1,h2⟩:=argBest_lt (λi=>ns.getD i 0) (its.toArray.size-1);rw[Ax,hle]at h1 h2;have hb:argBest (λi j=>decide (ns.getD i 0<ns.getD j 0)) (its.toArray.size-1)<ns.length:=by rw[Ax,hle];omega
  refine⟨.int _,H,I.kept (LSm.kept_iter hk),⟨_,rfl⟩,q _ ?_ λa ha=>?_⟩
  ·rw[Ad,Aa hb];exact Bk _
  ·obtain⟨j,hj,e⟩:=Bu.mp ha;have:=h2 j (by omega)
   rw[Ax,hle];rw[<-e];have e2:ns.getD j 0=ns[j]:=by rw[Ad,Aa hj];rfl
   rw[<-e2];exact this
section
variable {a b c:Expr} {p:Pos}
def xD(lo hi:Int):Nat:=(lo-hi).toNat
def eX3(lo hi:Int):Builtin.Range.rangeSize lo hi (-1)=((xD lo hi:Nat):Int):=by
 unfold Builtin.Range.rangeSize xD;rw[if_neg (by decide)]
 split
 ·simp;omega
 ·omega
def eJH{hi:Int}(h1:-1000000<=lo)(h2:lo<=1000000)(h3:-1000000<=hi)(h4:hi<=1000000):Builtin.Range.small lo hi (-1)=true:=by
 have hs:=eX3 lo hi
 unfold Builtin.Range.small;rw[hs];unfold xD;simp only[Builtin.Range.rangeFitsLong,Bool.and_eq_true,Bool.or_eq_true,decide_eq_true_eq,beq_iff_eq];rcases Int.lt_or_le hi lo with hl|hl
 ·refine⟨by omega,.inr ?_⟩
  rw[if_neg (by decide),Dx]
  exact⟨Ap (by omega),Ap (by omega)⟩
 ·refine⟨by omega,.inl ?_⟩
  omega
def eX1(ta:TA):TI:=λσ H R=>ta σ H (cZC λi j k H1=>(-1000000<=i/\i<=1000000/\-1000000<=j/\j<=1000000/\k=-1)/\R (dQX i (-1) (xD i j)) H1)
def cXU{hi:Int}{t u v:Tok}{tk:Nat}(I:Inv X y3 σ H s)(h1:-1000000<=lo)(h2:lo<=1000000)(h3:-1000000<=hi)(h4:hi<=1000000)(q:R (dQX lo (-1) (xD lo hi)) H):wpAny (model X.prog X.w) X.A (pyIter (.ref s.heap.objs.size)) (PIE X y3 σ tg R) E {s with heap:=s.heap.push {cls:=.type "range",data:=.fields #[.int lo t,.int hi u,.int (-1) v]},toks:=tk}:=by
 refine wpAny_pyIter_range (IsRange.new ..) (eJH h1 h2 h3 h4) ?_;have I1:Inv X y3 σ H {s with heap:=s.heap.push {cls:=.type "range",data:=.fields #[.int lo t,.int hi u,.int (-1) v]},toks:=tk}:=I.kept λb o e=>Ah _ e
 refine⟨(s.heap.push {cls:=.type "range",data:=.fields #[.int lo t,.int hi u,.int (-1) v]}).objs.size,[(s.heap.push {cls:=.type "range",data:=.fields #[.int lo t,.int hi u,.int (-1) v]}).objs.size],_,_,H,rfl,
  I1.kept (t':=tk) λb o e=>Ah _ e,aJ5 _ lo (-1) (xD lo hi),?_,λb hb=>?_,q⟩
 ·have e1:lo+((0:Nat):Int)*(-1)=lo:=by simp
  have e2:((xD lo hi:Nat):Int)-((0:Nat):Int)=Builtin.Range.rangeSize lo hi (-1):=by rw[eX3];simp
  show IsRangeIter _ _ (lo+((0:Nat):Int)*(-1)) (((xD lo hi:Nat):Int)-((0:Nat):Int)) (-1)
  rw[e1,e2];exact Ay _ rfl
 ·have e:b=(s.heap.push {cls:=.type "range",data:=.fields #[.int lo t,.int hi u,.int (-1) v]}).objs.size:=by simpa using hb
  subst e;exact I1.fpOk (Ai _) (I1.hok.fresh (Ai _))
def bJ2(hg:Gl X "range")(hm:X.mg "range"=none)(ha:PA X [a,b,c] ta)(hs:starEach [a,b,c] X.env=[(false,eval a X.env),(false,eval b X.env),(false,eval c X.env)]:=by rfl)(hs2:starEach [b,c] X.env=[(false,eval b X.env),(false,eval c X.env)]:=by rfl):PI X tg (.Call (.Name "range" p) [a,b,c] [] pos) (eX1 ta):=by
 intro y3 s σ H R I h;refine Call_ (iS I hg hm boot_range (Df (thn (ha pos y3 s σ H _ I h) λus s1 ⟨vs,H1,I1,r1,q1⟩=>?_) (by rw[hs,hs2]) (by rw[hs2];rfl)))
 obtain⟨i,j,k,e,⟨b1,b2,b3,b4,rfl⟩,q⟩:=dZV q1;subst e;cases r1 with
 |cons r rr=>
  cases rr with
  |cons r' rr=>
   cases rr with
   |cons r'' rr=>
    cases rr;obtain⟨t,rfl⟩:=r;obtain⟨t',rfl⟩:=r';obtain⟨t'',rfl⟩:=r'';exact call_range_3 (by omega) (cXU I1 b1 b2 b3 b4 q) (Or.inl (PyProof.noPylong_small (by omega)))
def dZI(h:ta σ H (cZC λi j k H1=>(-1000000<=i/\i<=1000000/\-1000000<=j/\j<=1000000/\k=-1)/\R (dQX i (-1) (xD i j)) H1)):eX1 ta σ H R:=h
end
def jC{f:Nat->Option V}{y:V}(h:f i=some y):(List.range (i+1)).filterMap f=(List.range i).filterMap f++[y]:=by
 rw[Cd,Br,Ci h,Cr]
def oB{f:Nat->Option V}(h:f i=none):(List.range (i+1)).filterMap f=(List.range i).filterMap f:=by
 rw[Cd,Br,Cp h,Cr,Bj]
def iA{xs:List V}(f:Nat->Option V)(ha:rdL H1 a=some xs)(hl:xs.length<sizeLine)(hs:∀(i:Nat) x Hc (A:VK) (B:Hp->Prop),xs[i]?=some x->Same H1 Hc->(∀y,f i=some y->∀Hd,Same Hc Hd->A y Hd)->(f i=none->∀Hd,Same Hc Hd->B Hd)->
 g x σ0 Hc λσ2 H2=>Wk σ0 σ2/\tests σ2 H2 λb H3=>if b=true then te σ2 H3 A else B H3)(fin:∀D Hd,H1 D=none->Same H1 Hd->Hd D=some (.lst ((List.range xs.length).filterMap f))->Q (.ref D) Hd):eC g tests te σ0 Q (Itl K a) H1:=by
 refine jB (n:=xs.length) (λD i ys Hc=>Same H1 Hc/\ys=(List.range i).filterMap f) hl (λD hD=>⟨aG hD _,rfl⟩)
  (λD i ys Hc _ r h=>⟨xs,xs[i],bG (aO r.1 ha),by simp[h]⟩) (λD ys Hc _ r=>⟨xs,bG (aO r.1 ha),Nat.le_refl _⟩) ?_ ?_
 ·rintro D i ys Hc x H' A B hD hi ⟨sm,rfl⟩ hDc ⟨rfl,hz⟩ ha' hb;refine hs i x H' A B (hz xs (bG (aO sm ha))) sm (λy hy Hd sd=>?_) (λhn Hd sd=>?_)
  ·exact ha' _ _ (sd _ _ hDc) ⟨bR hD (sm.trans sd),(jC hy).symm⟩
  ·exact hb _ (sd _ _ hDc) ⟨sm.trans sd,(oB hn).symm⟩
 ·rintro D ys Hc hD ⟨sm,rfl⟩ hDc _;exact fin D Hc hD sm hDc
def cJX{xs:List V}(f:Nat->Option V)(ha:rdL H1 a=some xs)(hl:xs.length<sizeLine)(hs:∀(i:Nat) x Hc p (A:VK) (B:Hp->Prop),xs[i]?=some x->Same H1 Hc->Hc p=none->(∀y,f i=some y->∀Hd,Same (upd Hc p (.tup [.int ((k+i:Nat):Int),x])) Hd->A y Hd)->(f i=none->∀Hd,Same (upd Hc p (.tup [.int ((k+i:Nat):Int),x])) Hd->B Hd)->
 g (.ref p) σ0 (upd Hc p (.tup [.int ((k+i:Nat):Int),x])) λσ2 H2=>Wk σ0 σ2/\tests σ2 H2 λb H3=>if b=true then te σ2 H3 A else B H3)(fin:∀D Hd,H1 D=none->Same H1 Hd->Hd D=some (.lst ((List.range xs.length).filterMap f))->Q (.ref D) Hd):eC g tests te σ0 Q (Ite K a k) H1:=by
 refine jB (n:=xs.length) (λD i ys Hc=>Same H1 Hc/\ys=(List.range i).filterMap f) hl (λD hD=>⟨aG hD _,rfl⟩)
  (λD i ys Hc _ r h=>⟨xs,xs[i],bG (aO r.1 ha),by simp[h]⟩) (λD ys Hc _ r=>⟨xs,bG (aO r.1 ha),rfl⟩) ?_ ?_
 ·rintro D i ys Hc x H' A B hD hi ⟨sm,rfl⟩ hDc ⟨q,z,hq,rfl,rfl,hz⟩ ha' hb;refine hs i z Hc q A B (hz xs (bG (aO sm ha))) sm hq (λy hy Hd sd=>?_) (λhn Hd sd=>?_)
  ·exact ha' _ _ (sd _ _ (aG hq _ _ _ hDc)) ⟨bR hD (sm.trans ((aG hq _).trans sd)),(jC hy).symm⟩
  ·exact hb _ (sd _ _ (aG hq _ _ _ hDc)) ⟨sm.trans ((aG hq _).trans sd),(oB hn).symm⟩
 ·rintro D ys Hc hD ⟨sm,rfl⟩ hDc _;exact fin D Hc hD sm hDc
section
variable {jt dq:Addr} {n0:Nat} {en:Array DictEntry} {od:Obj}
def cJ7{Q:Option Value->Shared->Prop}(hit:s.heap.IsKeyIter jt dq n0 en.size ep)(hod:s.heap.get? dq=some od)(hdd:od.data=.dict en ep)(hi:n0<en.size)(hq:∀h',h'.IsKeyIter jt dq (n0+1) en.size ep->Heap.SameBut jt s.heap h'->Q (some en[n0].key) {s with heap:=h'}):wpAny (model prog w) A (pyNext (.ref jt)) Q E s:=by
 obtain⟨oi,hoi,ci,di⟩:=id hit;have ow:Builtin.Dict_items.ownsTuple "dict_keyiterator"=false:=by decide
 have tI:=hit.typeIs
 unfold pyNext;refine Ae (Ho (wpAny_callSpecial?_slot (name:=Str.ofString "__next__") tI Eh (Hj Eh tI F.entry_dict_keyiterator_next ?_ (F.args_dict_keyiterator_next_1 _))));refine Ae (Aq (Ae (Ae ?_)));refine Ae (Ef tI (Aq (Ae (wpAny_fieldsOf hoi di ?_))));simp only[ow,Bool.false_eq_true,if_false];show wpAny _ _ (if (Value.ref dq==Value.none)=true then _ else _) _ _ s
 rw[if_neg (by exact An)]
 refine Ae (Aq (Ae (wpAny_dictEntries hod hdd ?_)));rw[if_neg (by simp)]
 refine Ae (Aq (Ae (wpAny_dictEpoch hod hdd ?_)));rw[if_neg (by simp)]
 refine Aq ?_;simp only[show ¬((n0:Int)<0) by omega,if_false,Int.toNat_natCast,Array.getElem?_eq_getElem hi]
 refine Ae (Ae (Ef tI (Aq ?_)));refine Ae (wpAny_isOneOf_keyiter tI ?_);show wpAny _ _ (setField (.ref jt) 1 (rawInt ((n0:Int)+1)) >>= _) _ _ s
 have nx:(s.heap.update jt (Obj.mapFields (·.setIfInBounds 1 (rawInt ((n0:Int)+1))))).IsKeyIter jt dq (n0+1) en.size ep:=
  ⟨_,Heap.get?_update_self _ hoi (Obj.isFreed_of_fields (Obj.data_mapFields di _)),(Obj.cls_mapFields ..).trans ci,by rw[Obj.data_mapFields di];simp[rawInt]⟩
 refine wpAny_bind (wpAny_setField hoi di (by simp) (wpAny_bind (wpAny_holding (wpAny_bind (wpAny_isOneOf_keyiter (s:={s with heap:=s.heap.update jt (Obj.mapFields (·.setIfInBounds 1 (rawInt ((n0:Int)+1))))}) nx.typeIs ?_)))))
 show wpAny _ _ (pure en[n0].key) _ _ _
 exact Aq (Aq ⟨_,rfl,Aq (hq _ nx (Heap.SameBut.update ..))⟩)
def cXZ{Q:Option Value->Shared->Prop}(hh:A.handled=none)(hit:s.heap.IsKeyIter jt dq en.size en.size ep)(hod:s.heap.get? dq=some od)(hdd:od.data=.dict en ep)(hq:∀h',Heap.ExtBut jt s.heap h'->Q none {s with heap:=h'}):wpAny (model prog w) A (pyNext (.ref jt)) Q E s:=by
 obtain⟨oi,hoi,ci,di⟩:=id hit;have ow:Builtin.Dict_items.ownsTuple "dict_keyiterator"=false:=by decide
 have tI:=hit.typeIs
 unfold pyNext;refine Ae (Ho (wpAny_callSpecial?_slot (name:=Str.ofString "__next__") tI Eh (Hj Eh tI F.entry_dict_keyiterator_next ?_ (F.args_dict_keyiterator_next_1 _))));refine Ae (Aq (Ae (Ae ?_)));refine Ae (Ef tI (Aq (Ae (wpAny_fieldsOf hoi di ?_))));simp only[ow,Bool.false_eq_true,if_false];show wpAny _ _ (if (Value.ref dq==Value.none)=true then _ else _) _ _ s
 rw[if_neg (by exact An)]
 refine Ae (Aq (Ae (wpAny_dictEntries hod hdd ?_)));rw[if_neg (by simp)]
 refine Ae (Aq (Ae (wpAny_dictEpoch hod hdd ?_)));rw[if_neg (by simp)]
 refine Aq ?_;simp only[show ¬((en.size:Int)<0) by omega,if_false,Int.toNat_natCast,Array.getElem?_eq_none (Nat.le_refl en.size)]
 refine Ae (Ae (Ef tI (Aq ?_)));show wpAny _ _ (setField (.ref jt) 0 .none >>= _) _ _ s
 refine wpAny_bind (wpAny_setField hoi di (by simp) ?_)
 show wpAny _ _ (newExc (Value.type "StopIteration") [] >>= _) _ _ _
 refine Ae ?_;simp only[newTuple,newExc];refine wpAny_bind (wpAny_newObj_type (wpAny_bind (m:=firstArgMember _ _) (wpAny_of_eq (a:=Value.none) (by first|rfl|(simp only[firstArgMember];rfl)) (wpAny_newObj_type ?_ (by size_fits)))) (by size_fits))
 simp only[raiseNew];refine Ae (wpAny_handled (?_:_));rw[show A.in1.handled=none by exact hh]
 refine Ae (Aq (wpAny_throw ?thr));case thr=>
  refine Ae (wpAny_isInstance (b:=true) (T := "StopIteration") ⟨_,Ay _ rfl,rfl⟩ isSubtype_stop ?_);exact Aq (hq _ (((Heap.SameBut.update ..).extBut.push _).push _))
end
def ItT(a:Addr)(o:Obj)(kvs:List (List Key×V)):It:=⟨λi H=>H a=some (.frz o (.dT kvs))/\i<kvs.length,λi H x H'=>H'=H/\∃kv b,kvs[i]?=some kv/\x=.ref b/\H b=some (.tup (kv.1.map kV)),λi H=>H a=some (.frz o (.dT kvs))/\kvs.length=i⟩
def aXO{kvs:List (List Key×V)}(I:Inv X y3 σ H s)(ha:H a=some (.frz o (.dT kvs)))(hep:∃es,o.data=.dict es ep):kvs.length<=sizeLine/\(a==sysModules)=false/\∃xs es,KT H kvs xs/\s.heap.get? a=some o/\o.data=.dict es ep/\o.ExactDict/\es.toList=xs.map (entryOfKey (tupleKind (bK X.prog X.w))):=by
 have ok:s.heap.get? a=some o/\ObjOk X.prog X.w H s.heap a (.dT kvs):=I.hok a _ ha
 obtain⟨e,z,hd,xs,rel,o',es',ep',ho',hx,hdat,he,_⟩:=ok;rw[e]at ho';cases ho';obtain⟨es,hes⟩:=hep;have q:=hdat
 rw[hes]at q;cases q;exact⟨z,hd,xs,_,rel,e,hdat,hx,he⟩
def bQG(a it:Addr)(o:Obj)(kvs:List (List Key×V))(ep:Nat)(hep:∃es,o.data=.dict es ep):Turn P w K tg (ItT a o kvs) [it] it (λi h=>h.IsKeyIter it a i kvs.length ep) where
 mem:=by simp
 obj:=λi h st b hb=>by
  obtain⟨o,e,c,d⟩:=st;rw[Al.mp hb];exact⟨o,e,λv z=>by rw[d]at z;cases z⟩
 keep:=λi h h' st k=>let ⟨o,ho,r⟩:=st;⟨o,k it (by simp) o ho,r⟩
 item:=by
  intro X hP hw hK hc i y3 s σ H E I hf st hg;subst hP hw hK;obtain⟨ha,hi⟩:=hg;obtain⟨z,hd,xs,es,rel,ho,hdat,hx,he⟩:=aXO I ha hep;have hlv:=rel.length
  have hsz:es.size=xs.length:=by rw[<-Gd,he,Ab]
  obtain⟨f0,f1,f2,f3,f4,f5⟩:=hf it (by simp)
  obtain⟨⟨k,b,v⟩,hxi,hk1,hk2,_⟩:=wQ rel (Aa hi);have hie:i<es.size:=by omega
  have hkey:es[i].key=.ref b:=by
   have q:es[i]?=some (entryOfKey (tupleKind (bK X.prog X.w)) (k,b,v)):=by rw[<-Dw,he,Ag,hxi];rfl
   rw[Array.getElem?_eq_getElem hie]at q;rw[Bo q];rfl
  refine cJ7 (en:=es) (by rw[hsz,<-hlv];exact st) ho hdat hie λh' st' sb=>?_
  rw[hkey];have I1:Inv X y3 σ H {s with heap:=h'}:=I.turned (t':=s.toks) (λb o hb e=>(sb.2 b hb).trans e) f0 f1 f3 f4 f5
  obtain⟨oi,e,c,d⟩:=id st';refine⟨.ref b,rfl,wF (s:={s with heap:=h'}) e c d (by decide) ⟨.ref b,H,I1,rfl,⟨rfl,kvs[i],b,Aa hi,rfl,hk2⟩,?_,λb hb=>(hf b hb).1⟩⟩
  rw[hlv,<-hsz];exact st'
 done:=by
  intro X hP hw hK hc i y3 s σ H E I hf st hg;subst hP hw hK;obtain⟨ha,hi⟩:=hg;obtain⟨z,hd,xs,es,rel,ho,hdat,hx,he⟩:=aXO I ha hep;have hlv:=rel.length
  have hsz:es.size=xs.length:=by rw[<-Gd,he,Ab]
  obtain⟨f0,f1,f2,f3,f4,f5⟩:=hf it (by simp)
  exact cXZ (en:=es) (I.ok.hd hc) (by rw[hsz,<-hlv];rw[<-hi]at st;exact st) ho hdat λh' eb=>⟨rfl,I.turned (t':=s.toks) (λb o hb e=>eb b o hb e) f0 f1 f3 f4 f5⟩
 self:=λ_ _ _ _ _ st h=>wpAny_pyIter_keyiter st h
section
variable {dq:Addr} {en:Array DictEntry} {od:Obj}
def cXT{Q:Q0}(hs:(dq==sysModules)=false)(hod:s.heap.get? dq=some od)(hx:od.ExactDict)(hdd:od.data=.dict en ep)(hq:Q (.ref s.heap.objs.size) {s with heap:=s.heap.push {cls:=.type "dict_keyiterator",data:=.fields #[.ref dq,.int 0 0,.int en.size 0,.int ep 0]}}):wpAny (model prog w) A (pyIter (.ref dq)) Q E s:=by
 have tD:s.TypeIs (.ref dq) "dict" := ⟨od,hod,hx.1⟩
 refine wpAny_pyIter_slot tD F.slot_dict_iter (Hj F.slot_dict_iter tD F.entry_dict_iter ?_ (F.args_dict_iter_1 _));unfold Builtin.«dict.__iter__» ;refine Ae ?_;unfold Builtin.Dict.dictSlotNone ;refine Ae (wpAny_notOrdered_dict tD ?_);show wpAny _ _ (pure (Value.ref dq)) _ _ s
 refine Aq ?_;show wpAny _ _ (Builtin.Dict.showsAll dq >>= _) _ _ s
 unfold Builtin.Dict.showsAll;rw[if_neg (by rw[hs];decide)]
 refine Ae (Aq (Ae (wpAny_dictEntries hod hdd (Ae (wpAny_dictEpoch hod hdd ?_)))));refine Ae (Gy (Aq ⟨_,rfl, "dict_keyiterator",_,⟨_,Ay _ rfl,rfl⟩,F.slot_dict_keyiterator_next.lookup,(?_:_)⟩))
 simpa [rawInt]using hq
end
def cQT{kvs:List (List Key×V)}(I:Inv X y3 σ H s)(ha:H a=some (.dT kvs)):∃o es ep,s.heap.get? a=some o/\o.data=.dict es ep:=by
 obtain⟨_,_,xs,_,o,es,ep,ho,_,hd,_⟩:=eQ9 I.hok ha;exact⟨o,es,ep,ho,hd⟩
def dXT{kvs:List (List Key×V)}(I:Inv X y3 σ H s)(ha:H a=some (.frz o (.dT kvs))):∃ep,∃es,o.data=.dict es ep:=by
 have ok:s.heap.get? a=some o/\ObjOk X.prog X.w H s.heap a (.dT kvs):=I.hok a _ ha
 obtain⟨e,_,_,xs,_,o',es,ep,ho,_,hd,_⟩:=ok;rw[e]at ho;cases ho;exact⟨ep,es,hd⟩
def qF(H:Hp)(a:Addr)(R:Obj->List (List Key×V)->Hp->Prop):Prop:=(∃kvs,H a=some (.dT kvs)/\∀o,R o kvs (upd H a (.frz o (.dT kvs))))\/∃o kvs,H a=some (.frz o (.dT kvs))/\R o kvs H
def cX3{R:Obj->List (List Key×V)->Hp->Prop}(I:Inv X y3 σ H s)(h:qF H a R):∃o kvs H' ep,Inv X y3 σ H' s/\H' a=some (.frz o (.dT kvs))/\(∃es,o.data=.dict es ep)/\R o kvs H':=by
 rcases h with⟨kvs,ha,q⟩|⟨o,kvs,ha,q⟩
 ·obtain⟨o,es,ep,ho,hd⟩:=cQT I ha;exact⟨o,kvs,_,ep,I.freeze ha rfl ho,aH,⟨es,hd⟩,q o⟩
 ·obtain⟨ep,es,hd⟩:=dXT I ha;exact⟨o,kvs,H,ep,I,ha,⟨es,hd⟩,q⟩
def cZL(tl:TE):TI:=λσ H R=>tl σ H (iP λa H1=>qF H1 a λo kvs H2=>R (ItT a o kvs) H2)
def qE(hl:PE X l tl):PI X tg l (cZL tl):=by
 intro y3 s σ H R I h;refine thn (hl y3 s σ H _ I h) λv s1 ⟨x,H1,I1,r1,q1⟩=>?_;unfold iP at q1;split at q1
 ·cases r1;rename_i a0 _
  obtain⟨o,kvs,H2,ep,I2,ha,hep,q⟩:=cX3 I1 q1;obtain⟨z,hd,xs,es,rel,ho,hdat,hx,he⟩:=aXO I2 ha hep;have hsz:es.size=kvs.length:=by rw[<-Gd,he,Ab,rel.length]
  refine cXT hd ho hx hdat ?_;refine⟨s1.heap.objs.size,[s1.heap.objs.size],_,_,H2,rfl,I2.kept (t':=s1.toks) λb o e=>Ah _ e,bQG a0 _ o kvs ep hep,⟨_,Ay _ rfl,rfl,by rw[hsz];rfl⟩,λb hb=>?_,q⟩
  rw[Al.mp hb];exact I2.fpOk (Ai _) (I2.hok.fresh (Ai _))
 ·exact q1.elim
def eX2:V->List V->Hp->VK->Prop:=λx vs H Q=>∃a y ov,x=.ref a/\vs=[y]/\tY H a y ov/\Q (ov.getD .non) H
section
variable {kvs:List (List Key×V)} {k:List Key}
def dX3(Pv:Nat->St->Hp->Prop)(h0:Pv 0 σ H)(hl:∀i σ H,i<=kvs.length->Pv i σ H->H a=some (.frz o (.dT kvs)))(hs:∀i kv b σ H,kvs[i]?=some kv->H b=some (.tup (kv.1.map kV))->Pv i σ H->g (.ref b) σ H λσ2 H2=>tb {D with nx:=Pv (i+1),ct:=Pv (i+1),bk:=D.nx} σ2 H2)(hd:∀σ H,Pv kvs.length σ H->D.nx σ H):aQ1 (ItT a o kvs) g tb D σ H:=by
 refine⟨λi m σ H=>m=kvs.length-i/\i<=kvs.length/\Pv i σ H,⟨kvs.length,by simp,Nat.zero_le _,h0⟩,?_⟩
 rintro i m σ H ⟨rfl,hi,p⟩;have hr:=hl i σ H hi p
 by_cases hlt:i<kvs.length
 ·refine .inr ⟨⟨hr,hlt⟩,Pv (i+1),λσ' H' p'=>⟨kvs.length-(i+1),by omega,rfl,hlt,p'⟩,λx H' y=>?_⟩
  obtain⟨rfl,kv,b,hx,rfl,hb⟩:=y;exact hs i kv b σ _ hx hb p
 ·have e:i=kvs.length:=by omega
  subst e;exact .inl ⟨⟨hr,rfl⟩,hd σ H p⟩
def dX0(h:tl σ H (iP λa H1=>qF H1 a λo kvs H2=>R (ItT a o kvs) H2)):cZL tl σ H R:=h
def aXD{Rw:Obj->List (List Key×V)->Hp->Prop}(e:H a=some (.dT kvs))(h:∀o,Rw o kvs (upd H a (.frz o (.dT kvs)))):qF H a Rw:=.inl ⟨kvs,e,h⟩
def dQ2{Rw:Obj->List (List Key×V)->Hp->Prop}(e:H a=some (.frz o (.dT kvs)))(h:Rw o kvs H):qF H a Rw:=.inr ⟨o,kvs,e,h⟩
def dZQ(h:∀p,H p=none->Q (.ref p) (upd H p (.dT []))):dXF σ H Q:=h
def bQO(e:Rd H a (.dT kvs))(eb:H b=some (.tup (k.map kV)))(l:cR kvs k=some v)(h:Q v H):fQF (.ref a) (.ref b) H Q:=⟨a,v,rfl,.inr ⟨kvs,k,b,e,rfl,eb,l.symm⟩,h⟩
def aXT(e:H a=some (.dT kvs))(eb:H b=some (.tup (k.map kV)))(l:kvs.length<sizeLine)(h:D.nx σ (upd H a (.dT (eV kvs k v)))):dXK D σ (.ref a) (.ref b) v H:=⟨a,_,rfl,.inr ⟨kvs,k,b,e,rfl,eb,l,rfl⟩,h⟩
def bJT(e:Rd H a (.dT kvs))(eb:H b=some (.tup (k.map kV)))(h:Q ((cR kvs k).getD .non) H):eX2 (.ref a) [.ref b] H Q:=⟨a,_,_,rfl,rfl,.inr ⟨kvs,k,b,e,rfl,eb,rfl⟩,h⟩
end
def cQZ{Q:Int->Shared->Prop}(h:Q 0xFCA86420 {s with toks:=s.toks+1}):wpAny (model prog w) A (pyHash .none) Q E s:=by
 have tN:s.TypeIs .none "NoneType" := rfl
 unfold pyHash pyHashByItsType;refine Ae ?_;rw[cRoomFor,if_neg (by decide)]
 refine Aq (Ae (wpAny_specialOf tN F.slot_NoneType_hash.lookup ?_));show wpAny _ _ (if (some (Value.builtin "NoneType.__hash__")==some Value.none)=true then _ else _) Q E s
 rw[if_neg (by rw[beq_builtin_none];decide)]
 refine Ae (wpAny_specialOf tN F.slot_NoneType_hash.lookup ?_);show wpAny _ _ (callSpecialIfBoundUnlessNone? .none "__hash__" _ >>= _) Q E s
 refine Ae (wpAny_callSpecialIfBoundUnlessNone?_slot tN F.slot_NoneType_hash (Hj F.slot_NoneType_hash tN F.entry_NoneType_hash (show wpAny _ _ (do ret (<-mkInt 0xFCA86420)) _ _ s from wpAny_ret_mkInt ?_) (F.args_NoneType_hash_1 _)))
 show wpAny _ _ (if (decide (-(2:Int)^63<=0xFCA86420)&&decide ((0xFCA86420:Int)<2^63))=true then _ else _) Q E _
 rw[if_pos (by decide)]
 exact Aq h
def cZO:Option Key->Value->Bool
 |none,.none=>true
 |none,_=>false
 |some k,v=>oC k v
def dI{v:Value}(h:cZO none v=true):v=.none:=by
 cases v<;>first|rfl|(exact absurd h (by decide))|cases h
def oX{k:Key}{v:Value}(h:oC k v=true):v≠.none:=λz=>by
 rcases cD h with⟨i,t,_,e⟩|⟨x,t,_,e⟩ <;> rw[z]at e<;>cases e
def gQL(w:World):Option Key->Int
 |none=>0xFCA86420
 |some k=>fJG w k
def bZ6(prog:Program)(w:World):PySem.KeyKind prog w (Option Key) where
 is:=cZO
 hash:=gQL w
 inj:=λv a b ha hb=>by
  cases a with
  |none=>
   cases b with
   |none=>rfl
   |some b=>exact absurd (dI ha) (oX hb)
  |some a=>
   cases b with
   |none=>exact absurd (dI hb) (oX ha)
   |some b=>exact Ds some ((bK prog w).inj v a b ha hb)
 byValue:=λk v h=>by
  cases k with
  |none=>rw[dI h];rfl
  |some k=>exact(bK prog w).byValue k v h
 pyHash:=fun {A E s k v Q} hv h=>by
  cases k with
  |none=>rw[dI hv];exact cQZ h
  |some k=>exact(bK prog w).pyHash hv h
 eqBool:=fun {A E s a b u v Q} hu hv h=>by
  cases a with
  |none=>
   rw[dI hu];cases b with
   |none=>rw[dI hv];exact SeqAt.EqAt.same _ _ _ _ _ (by simpa using h)
   |some b=>
    have h2:Q false s:=by simpa using h
    rcases cD (show oC b v=true from hv) with⟨j,t,_,rfl⟩|⟨y,t,_,rfl⟩
    ·exact SeqAt.EqAt.none_int _ _ _ _ _ _ h2
    ·exact SeqAt.EqAt.none_str _ _ _ _ _ _ h2
  |some a=>
   cases b with
   |none=>
    rw[dI hv];have h2:Q false s:=by simpa using h
    rcases cD (show oC a u=true from hu) with⟨j,t,_,rfl⟩|⟨y,t,_,rfl⟩
    ·exact SeqAt.EqAt.int_none _ _ _ _ _ _ h2
    ·exact SeqAt.EqAt.str_none _ _ _ _ _ _ h2
   |some b=>
    refine(bK prog w).eqBool hu hv ?_;have e:decide (some a=some b)=decide (a=b):=Dy.mpr ⟨Bo,λz=>by rw[z]⟩
    rw[e]at h;exact h
 «strs» := λk x t v h=>by
  cases k with
  |none=>exact absurd (dI h) (λz=>nomatch z)
  |some k=>exact(bK prog w).strs k x t v h
def fQV{f:Key->Option Value}(hm:h.MapOf (bK prog w) a f):h.MapOf (bZ6 prog w) a (λk=>k.bind f):=by
 obtain⟨o,es,ep,ho,hx,hd,hk,hf⟩:=hm;refine⟨o,es,ep,ho,hx,hd,λe he=>?_,λk=>?_⟩
 ·obtain⟨k,h1,h2⟩:=hk e he;exact⟨some k,h1,h2⟩
 ·cases k with
  |some k=>exact hf k
  |none=>
   show findBy cZO es none=none
   unfold findBy;rw[Option.map_eq_none_iff,Array.find?_eq_none];intro e he z;obtain⟨k,h1,_⟩:=hk e he;exact oX h1 (dI z)
def cJR:R2:=λx y H Q=>∃a,y=.ref a/\((∃ov,tY H a x ov/\Q (.bl ov.isSome) H)\/(x=.non/\∃kvs,Rd H a (.dK kvs)/\Q (.bl false) H))
def fXF(hu:X.A.units+1<cLine):OpR X (compareOp .In) cJR:=by
 intro y3 s σ H x y v u Q I rx ry h;obtain⟨a,rfl,h⟩:=h;cases ry;rcases h with⟨ov,g,q⟩|⟨rfl,kvs,e,q⟩
 ·exact fJH hu I g rx λs3 I3=>⟨.bl ov.isSome,H,I3,rfl,q⟩
 ·cases rx;obtain⟨z,hd,vs,rel,dd⟩:=lN I.hok e;exact wpAny_in_of (knd:=bZ6 X.prog X.w) (k:=none) (key:=Value.none) rfl hd (fQV dd.mapOf) ⟨.bl false,H,I.tok _,rfl,q⟩
def dX7(hu:X.A.units+1<cLine):MtR X "dict.get" eX2:=by
 intro y3 s σ H x vs v us Q I rx rv h;obtain⟨a,y,ov,rfl,rfl,g,q⟩:=h;cases rx;obtain⟨u,rfl,ru⟩:=rv.one;exact eJB hu I g ru λw1 s1 I1 r1=>⟨_,H,I1,r1,q⟩
def eJ9(e:Rd H a (.dK kvs))(h:Q (.bl false) H):cJR .non (.ref a) H Q:=⟨a,rfl,.inr ⟨rfl,kvs,e,h⟩⟩
def dJI(e:Rd H a (.dK kvs))(h:Q (.bl (cR kvs (Sum.inr z)).isSome) H):cJR (.str z) (.ref a) H Q:=⟨a,rfl,.inl ⟨_,.inl ⟨kvs,.inr z,e,rfl,rfl⟩,h⟩⟩
def fZF:R2:=λx y H Q=>∃(p q:Addr) (a b c d:Int),x=.ref p/\y=.ref q/\H p=some (.tup [.int a,.int b])/\H q=some (.tup [.int c,.int d])/\Q (.bl (decide (a=c/\b=d))) H
def fX3(hu:X.A.units<cLine):OpR X (compareOp .Eq) fZF:=by
 intro y3 s σ H x y v u Q I rx ry h;obtain⟨p,q,a,b,c,d,rfl,rfl,hp,hq,k⟩:=h;cases rx;cases ry;obtain⟨its,r1,l1,_⟩:=I.tuple (SqT.of (K:=X.K) hp);obtain⟨its2,r2,l2,_⟩:=I.tuple (SqT.of (K:=X.K) hq);obtain⟨u1,u2,rfl,⟨t1,rfl⟩,⟨t2,rfl⟩⟩:=r1.two;obtain⟨w1,w2,rfl,⟨t3,rfl⟩,⟨t4,rfl⟩⟩:=r2.two;refine SeqAt.eq_tupleAt (e:=λj=>if j=0 then a==c else b==d) (show s.heap.IsTuple p _ from l1) (show s.heap.IsTuple q _ from l2) hu (λj h1 h2=>?_) ?_
 ·match j,h1,h2 with
  |0,_,_=>exact SeqAt.EqAt.int_int a t1 c t3
  |1,_,_=>exact SeqAt.EqAt.int_int b t2 d t4
  |j+2,h1,_=>exact absurd h1 (by show ¬j+2<2;omega)
 ·refine⟨.bl (decide (a=c/\b=d)),H,I,?_,k⟩;show Value.bool _=Value.bool _
  congr 1
  show (((if (0:Nat)=0 then a==c else b==d)&&((if (1:Nat)=0 then a==c else b==d)&&true))&&true)=_
  rw[if_pos rfl,if_neg (by decide),Bool.and_true,Bool.and_true]
  by_cases e1:a=c
  ·by_cases e2:b=d
   ·simp[e1,e2]
   ·simp[e1,e2]
  ·simp[e1]
def fZR{p:Addr}{a b c d:Int}(hp:H p=some (.tup [.int a,.int b]))(hq:H q=some (.tup [.int c,.int d]))(h:Q (.bl (decide (a=c/\b=d))) H):fZF (.ref p) (.ref q) H Q:=⟨p,q,a,b,c,d,rfl,rfl,hp,hq,h⟩
def CtxNone(h:Heap)(ea:Addr):Prop:=∃o fs,h.get? ea=some o/\o.data=.fields fs/\fs[2]?=some .none
def CtxNone.some(c:CtxNone h ea):∃o,h.get? ea=Option.some o:=by
 obtain⟨o,_,e,_⟩:=c;exact⟨o,e⟩
def eQ6:V->List V->Hp->VK->Prop:=λx vs H Q=>∃z y:Str,x=.str z/\vs=[.str y]/\Q (.int (Txt.find z y)) H
def bXT:MtR X "str.find" eQ6:=by
 intro y3 s σ H x vs v us Q I rx rv h;obtain⟨z,y,rfl,rfl,q⟩:=h;obtain⟨t,rfl⟩:=rx;obtain⟨u,rfl,ru⟩:=rv.one;obtain⟨t',rfl⟩:=ru;exact SC.find ⟨.int (Txt.find z y),H,I.tok _,⟨_,rfl⟩,q⟩
def bXU{y:Str}(h:Q (.int (Txt.find z y)) H):eQ6 (.str z) [.str y] H Q:=⟨z,y,rfl,rfl,h⟩
def cJY{ps:List Str}(sp:Nat->Sp)(h0:∀vs H Q E,¬sp 0 vs H Q E)(hm:mg x=some (.ref f))(hk:W.keepIn K (.ref f)=true)(hb:Binds K fd ps [])(st:∀d n,Cal P w K mg base (d+1) x ps (sp n)->FnOk P w K mg base CX0 (d+2) f fd ps (sp (n+1))):∀n,FnOk P w K mg base CX0 (n+1) f fd ps (sp n)
 |0=>⟨λvs H Q E h=>(h0 _ _ _ _ h).elim,λA outer s H args us vs Q E _ _ _ _ h=>(h0 _ _ _ _ h).elim⟩
 |n+1=>st n n ⟨f,fd,cJY sp h0 hm hk hb st n,hm,hk,hb⟩
def Lsts.app{qs:List Addr}{gs:List (List V)}(t:Lsts H1 Hc ps fs)(u:Lsts H1 Hc qs gs):Lsts H1 Hc (ps++qs) (fs++gs):=by
 refine⟨by rw[Af,Af,t.1,u.1],λj p v hp hv=>?_⟩
 by_cases h:j<ps.length
 ·rw[Ar h]at hp;rw[Ar (by rw[<-t.1];exact h)]at hv
  exact t.2 j p v hp hv
 ·rw[Av (by omega)]at hp
  rw[Av (by rw[<-t.1];omega),<-t.1]at hv
  exact u.2 _ p v hp hv
def dJ4(f:Nat->List V)(ha:rdL H1 a=some xs)(hl:xs.length<sizeLine)(hs:∀(i:Nat) x Hc (A:VK) (B:Hp->Prop),xs[i]?=some x->Same H1 Hc->(∀q Hd,Hc q=none->Same Hc Hd->Hd q=some (.lst (f i))->A (.ref q) Hd)->
 g x σ0 Hc λσ2 H2=>Wk σ0 σ2/\tests σ2 H2 λb H3=>if b=true then te σ2 H3 A else B H3)(fin:∀D Hd ps,H1 D=none->Same H1 Hd->Hd D=some (.lst (ps.map V.ref))->ps.length=xs.length->Lsts H1 Hd ps ((List.range xs.length).map f)->(∀p∈ps,p≠D)->Q (.ref D) Hd):eC g tests te σ0 Q (Itl K a) H1:=by
 refine jB (n:=xs.length) (λD i ys Hc=>Same H1 Hc/\∃ps,ys=ps.map V.ref/\ps.length=i/\Lsts H1 Hc ps ((List.range i).map f)/\∀p∈ps,p≠D) hl (λD hD=>⟨aG hD _,[],rfl,rfl,.nil,λp hp=>nomatch hp⟩)
  (λD i ys Hc _ r h=>⟨xs,xs[i],bG (aO r.1 ha),by simp[h]⟩) (λD ys Hc _ r=>⟨xs,bG (aO r.1 ha),Nat.le_refl _⟩) ?_ ?_
 ·rintro D i ys Hc x H' A B hD hi ⟨sm,ps,rfl,hn,ls,nd⟩ hDc ⟨rfl,hz⟩ ha' hb;refine hs i x H' A B (hz xs (bG (aO sm ha))) sm (λq Hd hq sd hd=>?_);have nq:q≠D:=λz=>by rw[z,hDc]at hq;cases hq
  have nd2:∀p∈ps++[q],p≠D:=λp hp=>by
   rcases Bp.mp hp with e|e
   ·exact nd p e
   ·rw[Al.mp e];exact nq
  refine ha' _ _ (sd _ _ hDc) ⟨bR hD (sm.trans sd),ps++[q],by rw[Am];rfl,by rw[Af,hn];rfl,?_,nd2⟩
  rw[Cd,Am];exact((ls.keep sd).snoc (none_of sm hq) hd).put nd2
 ·rintro D ys Hc hD ⟨sm,ps,rfl,hn,ls,nd⟩ hDc _;exact fin D Hc ps hD sm hDc hn ls nd
section
open PySem
open PySem.Spec PyProof.Rows
def Alx(H:Hp):Nat->V->V->Prop
 |0,x,y=>x=y/\(cB x=true\/∃p,x=.ref p)
 |n+1,x,y=>(x=y/\(cB x=true\/∃p,x=.ref p))\/∃p q,x=.ref p/\y=.ref q/\((∃xs ys,rdL H p=some xs/\rdL H q=some ys/\xs.length=ys.length/\∀(j:Nat) x' y',xs[j]?=some x'->ys[j]?=some y'->Alx H n x' y')\/∃kvs kws,Rd H p (.dK kvs)/\Rd H q (.dK kws)/\DEq kvs kws)
def Alx.same{x:V}(h:cB x=true\/∃p,x=.ref p):Alx H n x x:=by
 cases n with
 |zero=>exact⟨rfl,h⟩
 |succ n=>exact .inl ⟨rfl,h⟩
def aJR{x:V}{v:Value}(h:cB x=true\/∃p,x=.ref p)(ru:RelV x u)(rv:RelV x v):EqW X.prog X.w A s u v:=by
 rcases h with hf|⟨p,rfl⟩
 ·have:=oO (A:=A) (s:=s) ru rv hf hf
  rw[aZZ hf]at this;exact λE Q hq=>this X.prog X.w E Q hq
 ·cases ru;cases rv;exact .same _
def dZC(I:Inv X y3 σ H s){p:Addr}(hp:rdL H p=some xs)(hq:rdL H q=some ys)(hl:xs.length=ys.length)(h:∀(j:Nat) x' y' u v,xs[j]?=some x'->ys[j]?=some y'->RelV x' u->RelV y' v->EqW X.prog X.w A.in1 s u v)(hu:A.units<cLine)(E:Q0)(Q:Q0):(Q (.bool true) s->wpAny (model X.prog X.w) A (richCompare .Eq (.ref p) (.ref q)) Q E s)/\(Q (.bool false) s->wpAny (model X.prog X.w) A (richCompare .NotEq (.ref p) (.ref q)) Q E s):=by
 obtain⟨its,r1,l1,_⟩:=I.list (bG hp);obtain⟨its2,r2,l2,_⟩:=I.list (bG hq);have e1:=r1.length
 have e2:=r2.length
 have he:∀j (h1:j<its.toArray.size) (h2:j<its2.toArray.size),EqW X.prog X.w A.in1 s its.toArray[j] its2.toArray[j]:=λj h1 h2=>by
  have h1':j<its.length:=by simpa using h1
  have h2':j<its2.length:=by simpa using h2
  obtain⟨u',hu',ru'⟩:=r1.get (Aa (show j<xs.length by omega))
  obtain⟨v',hv',rv'⟩:=r2.get (Aa (show j<ys.length by omega))
  rw[Aa h1']at hu';rw[Aa h2']at hv';cases hu';cases hv'
  simpa using h j _ _ _ _ (List.getElem?_eq_getElem _) (List.getElem?_eq_getElem _) ru' rv'
 have hs:its.toArray.size=its2.toArray.size:=by simp only[List.size_toArray];omega
 exact⟨λq=>eZC l1.isList l2.isList hs hu he q,λq=>fQ7 l1.isList l2.isList hs hu he q⟩
def eZQ(I:Inv X y3 σ H s):∀(n:Nat) (A:Around) (x y:V) (u v:Value),Alx H n x y->RelV x u->RelV y v->A.units+n<cLine->EqW X.prog X.w A s u v:=by
 intro n;induction n with
 |zero=>
  intro A x y u v h ru rv hu;obtain⟨rfl,hx⟩:=h;exact aJR hx ru rv
 |succ n ih=>
  intro A x y u v h ru rv hu;rcases h with⟨rfl,hx⟩|⟨p,q,rfl,rfl,hpq⟩
  ·exact aJR hx ru rv
  ·cases ru;cases rv;by_cases e:p=q
   ·subst e;exact .same _
   rcases hpq with⟨xs,ys,hp,hq,hl,h⟩|⟨kvs,kws,hp,hq,d⟩
   ·exact .refs e λE Q hq'=>(dZC I hp hq hl (λj x' y' u v hx hy hu' hv'=>ih A.in1 x' y' u v (h j x' y' hx hy) hu' hv' (by show A.units+1+n<cLine;omega)) (by omega) E Q).1 hq'
   ·exact .refs e λE Q hq'=>(eQ2 I hp hq d (by omega) E Q).1 hq'
def fJX(neg:Bool):R2:=λx y H Q=>∃n p q xs ys,n<=50/\x=.ref p/\y=.ref q/\rdL H p=some xs/\rdL H q=some ys/\xs.length=ys.length/\(∀(j:Nat) x' y',xs[j]?=some x'->ys[j]?=some y'->Alx H n x' y')/\Q (.bl (!neg)) H
def fZO(hu:X.A.units+64<cLine):OpR X (compareOp .NotEq) (fJX true):=by
 intro y3 s σ H x y v u Q I rx ry h;obtain⟨n,p,q,xs,ys,hn,rfl,rfl,hp,hq,hl,al,k⟩:=h;cases rx;cases ry;exact(dZC I hp hq hl (λj x' y' u v hx hy hu' hv'=>eZQ I n X.A.in1 x' y' u v (al j x' y' hx hy) hu' hv' (by show X.A.units+1+n<cLine;omega)) (by omega) _ _).2 ⟨.bl false,H,I,rfl,k⟩
def fXW{neg:Bool}{p:Addr}(n:Nat)(hp:rdL H p=some xs)(hq:rdL H q=some ys)(hl:xs.length=ys.length)(al:∀(j:Nat) x' y',xs[j]?=some x'->ys[j]?=some y'->Alx H n x' y')(h:Q (.bl (!neg)) H)(hn:n<=50:=by omega):fJX neg (.ref p) (.ref q) H Q:=⟨n,p,q,xs,ys,hn,rfl,rfl,hp,hq,hl,al,h⟩
end
def hdl(i:Nat)(ts:TS)(D:Ends)(cls:Value)(d:Option Addr)(σ1:St)(H1:Hp):Prop:=∀ea,H1 ea=none->
 ts {nx:=λσ2 H2=>D.nx (σ2.set i none) H2,rt:=D.rt,bk:=λσ2 H2=>D.bk (σ2.set i none) H2,ct:=λσ2 H2=>D.ct (σ2.set i none) H2} (σ1.set i (some (.ref ea))) (upd H1 ea (jU ea cls d))
def eXS:List V->Hp->VK->Prop:=λxs H Q=>∃(p:Addr) (ns:List Int),xs=[.ref p]/\rdL H p=some (ns.map V.int)/\0<ns.length/\∀m,m∈ns->(∀a∈ns,a<=m)->Q (.int m) H
def eZE(hc:X.calm=true):CallR X (.builtin "max") eXS:=by
 intro y3 s σ H xs us Q I r h;obtain⟨p,ns,rfl,hp,hn,q⟩:=h;obtain⟨u,rfl,ru⟩:=eW r;cases ru;obtain⟨its,rv,pl,hz⟩:=I.list (bG hp);have hl:=pl.isList
 have hlt:p<s.heap.objs.size:=by obtain⟨_,e,_⟩:=hl;exact Au e
 have hle:its.length=ns.length:=by have:=rv.length;rw[Ab]at this;omega
 have at':∀(i:Nat) (v:Value),its.toArray[i]?=some v->∃t,v=Value.int (ns.getD i 0) t:=λi v hv=>by
  have hv':its[i]?=some v:=by simpa using hv
  have hi:i<ns.length:=by rw[<-hle];exact(Ac.mp hv').1
  obtain⟨u,hu,ru⟩:=rv.get (show (ns.map V.int)[i]?=some (.int ns[i]) by rw[Ag,Aa hi];rfl)
  rw[hv']at hu;cases hu;obtain⟨t,rfl⟩:=ru;exact⟨t,by rw[Ad,Aa hi];rfl⟩
 refine call_max_walk (Eg hl ?_);refine⟨s.heap.objs.size,[s.heap.objs.size,p],[s.heap.objs.size],its.toArray.size,_,_,_,rfl,Walks.list (A:=X.A.in1) (I.ok.hd hc) _ p (Bl hlt) its.toArray,
  ⟨⟨_,Ay _ rfl,rfl,rfl⟩,hl.push _⟩,λb hb=>?_,by rw[Ax];omega,CmpOf.ints_gt (λi=>ns.getD i 0) at',λv h' tk hv hk=>?_⟩
 ·rw[show ({s with heap:=_}:Shared).heap=_ from rfl]
  simp only[List.mem_cons,List.not_mem_nil,or_false]at hb;rcases hb with e|e
  ·rw[e];simp[Heap.push]
  ·rw[e];exact Nat.lt_of_lt_of_le hlt (by simp[Heap.push])
 ·obtain⟨t,rfl⟩:=at' _ _ hv;obtain⟨h1,h2⟩:=argBest_gt (λi=>ns.getD i 0) (its.toArray.size-1);rw[Ax,hle]at h1 h2;have hb:argBest (λi j=>decide (ns.getD i 0>ns.getD j 0)) (its.toArray.size-1)<ns.length:=by rw[Ax,hle];omega
  refine⟨.int _,H,I.kept (LSm.kept_iter hk),⟨_,rfl⟩,q _ ?_ λa ha=>?_⟩
  ·rw[Ad,Aa hb];exact Bk _
  ·obtain⟨j,hj,e⟩:=Bu.mp ha;have:=h2 j (by omega)
   rw[Ax,hle];rw[<-e];have e2:ns.getD j 0=ns[j]:=by rw[Ad,Aa hj];rfl
   rw[<-e2];exact this
def fQ9{p:Addr}(e:rdL H p=some (ns.map V.int))(hn:0<ns.length)(h:∀m,m∈ns->(∀a∈ns,a<=m)->Q (.int m) H):eXS [.ref p] H Q:=⟨p,ns,rfl,e,hn,h⟩
section
open PySem.W (KasT kas_sort kas_rev kas_asc kas_desc kas_tail3 kas_descPart kas_count kas_place kas_bin)
section
variable {r:Nat->Nat}
structure Ord (r:Nat->Nat) (n:Nat) (p:Array Nat):Prop where
 perm:p.toList.Perm (List.range n)
 inj:∀i j,i<n->j<n->r i=r j->i=j
def Ord.size{p:Array Nat}(h:Ord r n p):p.size=n:=by
 have:=h.perm.length_eq
 simpa using this
end
end
section
open PySem.W (CodeHd tabObj)
structure LamB (mg:Str->Option Value) (base:Heap) (c Pt:Addr):Prop where
 code:CodeHd base c Pt
 bm:∃bm ob,mg "__builtins__"=some (.ref bm)/\bm≠builtinsNs/\base.get? bm=some ob/\ob.cls=.type "module"/\ob.dict=some builtinsNs/\ob.data=.plain
def cZJ(h:Heap)(mg:Str->Option Value)(x:Str)(c:Addr):Prop:=∃f o fd,mg x=some (.ref f)/\h.get? f=some o/\o.data=.func fd/\fd.code=.ref c
def cXR{mb:Q4}{CX:CXT}{fa c Pt:Addr}{s₁:Shared}{vs:List Value}(KX:K.In s₁.heap)(hns:s₁.heap.Ns mainGlobals mg)(hb:s₁.heap.Ns builtinsNs mb)(hbb:∀x:Str,x≠"__name__"->mb x=bootBuiltins x)(hlim:s₁.heap.NoLimit)(hg:s₁.gens=#[])(ha:s₁.heap.get? a=some {cls:=.type "list",data:=.seq vs.toArray})(hi:IntsAre vs ns)(hl:ns.length<=sizeLine)(hr:Room k callerA)(hC:CodeHd s₁.heap c Pt)(hP:s₁.heap.get? Pt=some (tabObj #[]))(hbm:∃bm ob,mg "__builtins__"=some (.ref bm)/\bm≠builtinsNs/\s₁.heap.get? bm=some ob/\ob.cls=.type "module"/\ob.dict=some builtinsNs/\ob.data=.plain)(hKP:K.lookup Pt=none)(F:∀base:Heap,K.In base->base.Ns mainGlobals mg->LamB mg base c Pt->FnOk P w K mg base CX k fa fd [x] sp)(hbind:∀(s:Shared) (u:Value),BindsTo s fd ⟨[u],[]⟩ [(x,u)])(hsp:∀H:Hp,H Pt=some (.tbl #[])->SqL K H a (ns.map V.int)->sp [.ref a] H (λv _=>v=.bl true) λ_ _ _=>False)(hCX:∀H e s',CX [] H s₁ (λ_ _ _=>False) e s'->False):codeAny (model P w) callerA (.call (.ref fa) ⟨[.ref a],[]⟩) (λr s'=>r=.ok (.ret (.bool true))/\OldK s₁.heap s'.heap/\s'.os=s₁.os/\AllBare s'.gens) s₁:=by
 have rv:=zY hi
 have lenV:=hi.length
 have naP:a≠Pt:=λz=>by rw[z,hP]at ha;cases ha
 have core:∀ H:Hp,(∀ b,H b=none\/(∃ o xs,H b=some (.frz o (.lst xs)))\/b=Pt)->H Pt=some (.tbl #[])->SqL K H a (ns.map V.int)->HOk P w H s₁.heap->(∀ b,H b≠none->b=a\/b=Pt)->(H a≠none->K.lookup a=none)->
     codeAny (model P w) callerA (.call (.ref fa) ⟨[.ref a],[]⟩) (λr s'=>r=.ok (.ret (.bool true))/\OldK s₁.heap s'.heap/\s'.os=s₁.os/\AllBare s'.gens) s₁:=by
  intro H hO hHP hS hok hA hK;have base_of:∀ {b:Addr} {o:Obj},s₁.heap.get? b=some o->H b=none->(yC s₁.heap H).get? b=some o:=λe n=>dQN e n
  have noT:∀ {b:Addr} {o:Obj},s₁.heap.get? b=some o->(∀its n,o.data≠.seq its n)->(∀ps,o.cls=.none->o.data≠.fields ps)->H b=none:=fun {b o} e d d2=>by
   cases q:H b with
   |none=>rfl
   |some u=>
    rcases hA b (by rw[q];simp) with e'|e'
    ·subst e';rw[ha]at e;cases e;exact absurd rfl (d _ _)
    ·subst e';rw[hP]at e;cases e;exact absurd rfl (d2 _ rfl)
  have noA:∀ {b:Addr} {o:Obj} {es:Array DictEntry} {ep:Nat},s₁.heap.get? b=some o->o.data=.dict es ep->H b=none:=fun {b o es ep} e d=>noT e (λ_ _ z=>by rw[d]at z;cases z) λ_ _ z=>by rw[d]at z;cases z
  have nsK:∀ {b:Addr} {m:Q4},s₁.heap.Ns b m->(yC s₁.heap H).Ns b m:=fun {b m} ⟨o,es,ep,e,d,r⟩=>⟨o,es,ep,base_of e (noA e d),d,r⟩
  have hKb:K.In (yC s₁.heap H):=λb o e=>base_of (KX b o e) (by
   cases q:H b with
   |none=>rfl
   |some u=>
    rcases hA b (by rw[q];simp) with e'|e'
    ·subst e';rw[hK (by rw[q];simp)]at e;cases e
    ·subst e';rw[hKP]at e;cases e)
  have hM:Mod K mg (yC s₁.heap H):=⟨hKb,nsK hns,⟨mb,nsK hb,hbb⟩,let ⟨mc,h1,h2⟩:=hlim;⟨mc,nsK h1,h2⟩⟩
  have hLB:LamB mg (yC s₁.heap H) c Pt:=by
   refine⟨?_,?_⟩
   ·obtain⟨o,vs,file,tf,flags,tg,inF,text,tt,e,ecl,eda,r⟩:=hC;exact⟨o,vs,file,tf,flags,tg,inF,text,tt,base_of e (noT e (λ_ _ z=>by rw[eda]at z;cases z) λ_ z=>by rw[ecl]at z;cases z),ecl,eda,r⟩
   ·obtain⟨bm,ob,b1,b2,b3,b4,b5,b6⟩:=hbm;exact⟨bm,ob,b1,b2,base_of b3 (noT b3 (λ_ _ z=>by rw[b6]at z;cases z) λ_ z=>by rw[b4]at z;cases z),b4,b5,b6⟩
  have e0:Env0 P w K mg (yC s₁.heap H) callerA [] s₁ H:=⟨rfl,hM,λb o e=>dJ6 e,Nat.le_of_eq (cXD _ _),trivial,λb hb=>absurd (show b∈([]:List Addr) from hb) (by simp),hok,.of_eq hg⟩
  refine Ei ((F _ hKb (nsK hns) hLB).run callerA [] s₁ H ⟨[.ref a],[]⟩ [.ref a] [.ref a] _ _ hr e0 (hbind s₁ (.ref a)) (.cons rfl .nil) (hsp H hHP hS)) λr s' h=>?_;cases r with
  |error e=>exact(hCX H e s' h).elim
  |ok fl=>
   cases fl with
   |next=>exact False.elim h
   |brk=>exact False.elim h
   |cont=>exact False.elim h
   |ret u=>
    obtain⟨v,H',os,bare,un,hok',r',q⟩:=h;have q':v=.bl true:=q
    subst q';obtain rfl:u=Value.bool true:=r';refine⟨rfl,⟨λb o e=>?_,λb o e=>?_⟩,os,bare⟩
    ·cases q:H b with
     |none=>exact .inl (un.keep b o e q (by intro z;exact absurd (show b∈([]:List Addr) from z) (by simp)) (by simp))
     |some u=>
      rcases hO b with z|⟨ob,xs,z⟩|z
      ·rw[q]at z;cases z
      ·have z2:=un.frzs b ob _ z
       obtain⟨e1,_⟩:=hok b _ z;obtain⟨e2,_⟩:=hok' b _ z2;rw[e]at e1;cases e1;exact .inl e2
      ·subst z;rw[hP]at e;cases e;obtain⟨more,z2⟩:=un.tbls b _ hHP;exact .inr (.inl ⟨(hC.tab hP).isCodeTable,rfl,#[],more,rfl,hok' b _ z2⟩)
    ·exact un.there b o e (by simp)
 have tblOk:∀H:Hp,H Pt=some (.tbl #[])->ObjOk P w H s₁.heap Pt (.tbl #[]):=λ_ _=>hP
 cases hk:K.lookup a with
 |some o=>
  have e:=KX a o hk
  rw[ha]at e;cases e;refine core (λb=>if b=Pt then some (.tbl #[]) else none) (λb=>?_) (if_pos rfl) (.inr ⟨_,vs.toArray,_,hk,rfl,rfl,rfl,by rw[List.size_toArray,lenV];exact hl,by simpa using rv⟩) (λb u z=>?_) (λb z=>?_) λz=>?_
  ·by_cases hb:b=Pt
   ·exact .inr (.inr hb)
   ·exact .inl (if_neg hb)
  ·by_cases hb:b=Pt
   ·have z':=(if_pos hb).symm.trans z
    cases z';subst hb;exact hP
   ·have z':=(if_neg hb).symm.trans z
    cases z'
  ·by_cases hb:b=Pt
   ·exact .inr hb
   ·exact absurd (if_neg hb) z
  ·exact absurd (if_neg naP) z
 |none=>
  refine core (λb=>if b=a then some (.frz {cls:=.type "list",data:=.seq vs.toArray} (.lst (ns.map V.int))) else if b=Pt then some (.tbl #[]) else none) (λb=>?_) ((if_neg naP.symm).trans (if_pos rfl)) (.inl (.inr ⟨{cls:=.type "list",data:=.seq vs.toArray},if_pos rfl⟩)) (λb u z=>?_) (λb z=>?_) λ_=>hk
  ·by_cases hb:b=a
   ·exact .inr (.inl ⟨_,_,if_pos hb⟩)
   ·by_cases hb2:b=Pt
    ·exact .inr (.inr hb2)
    ·exact .inl ((if_neg hb).trans (if_neg hb2))
  ·by_cases hb:b=a
   ·have z':=(if_pos hb).symm.trans z
    cases z';subst hb;exact⟨ha,by rw[Ab];exact hl,vs,_,rv,ha⟩
   ·by_cases hb2:b=Pt
    ·have z':=((if_neg hb).trans (if_pos hb2)).symm.trans z
     cases z';subst hb2;exact hP
    ·have z':=((if_neg hb).trans (if_neg hb2)).symm.trans z
     cases z'
  ·by_cases hb:b=a
   ·exact .inl hb
   ·by_cases hb2:b=Pt
    ·exact .inr hb2
    ·exact absurd ((if_neg hb).trans (if_neg hb2)) z
def dX2{l:W.OpenLaw}{n k:Nat}{q:Program}{loose:List Str}{XP:(Q4)->Heap->Prop}{YP:World->Heap->Prop}{d d2:DefRec}{K:Params->W.Frag}{CX:World->CXT}{sp:World->Addr->Sp}(hn:l.most=some n)(hn2:n<=sizeLine)(hdf:d.params.defaults=[])(hr:Room k callerA)(hd2:d2∈recsOf q)(hno:∀w:World,W.noTabs (K w.params)=true)(hY:∀(w:World) (h:Heap),YP w h->(K w.params).In h)(F:∀(w:World) (mg:Q4) (fa:Addr) (h:Heap) (c Pt:Addr),(K w.params).In h->h.Ns mainGlobals mg->mg d.name=some (.ref fa)->cZJ h mg d2.name c->
 ∃fd:FuncData,(∀(s:Shared) (u:Value),BindsTo s fd ⟨[u],[]⟩ [(x,u)])/\
  ∀base:Heap,(K w.params).In base->base.Ns mainGlobals mg->LamB mg base c Pt->FnOk l.prog w (K w.params) mg base (CX w) k fa fd [x] (sp w Pt))(hsp:∀(w:World) (H:Hp) (a Pt:Addr) (ns:List Int),ns.length<=n->H Pt=some (.tbl #[])->SqL (K w.params) H a (ns.map V.int)->sp w Pt [.ref a] H (λv _=>v=.bl true) λ_ _ _=>False)(hCX:∀(w:World) (H:Hp) (s:Shared) (e:Value) (s':Shared),CX w [] H s (λ_ _ _=>False) e s'->False):W.WalkO q loose XP YP l.row.toRowW d [] (λf vs=>PySem.call f vs):=by
 refine Att.attach_call hn hdf λw s₀ s₁ mg mb fa o pm cd doc a vs ns G Y ho hd hcd hmg hobj hints hlen hg=>?_;have KX:=hY w _ Y
 obtain⟨a2,o2,fd2,c,Pt,t1,t2,t3,t4,t5,t6⟩:=G.T.tab d2 hd2;have hC:=CodeHd.of t5 t6
 have hP:s₁.heap.get? Pt=some (tabObj #[]):=t6.2
 have hKP:(K w.params).lookup Pt=none:=by
  cases e:(K w.params).lookup Pt with
  |none=>rfl
  |some o=>
   have h1:=KX _ _ e
   rw[hP]at h1;cases h1;have h2:=Bv.mp (hno w) (Pt,tabObj #[]) (W.mem_of_lookupK e)
   exact absurd (show false=true from h2) An
 obtain⟨fd,hb,hF⟩:=F w mg fa _ c Pt KX G.T.g hmg ⟨a2,o2,fd2,t1,t2,t3,t4⟩;exact cXR KX G.T.g G.T.b G.T.builtins G.T.nolimit hg hobj hints (Bi hlen hn2) hr hC hP G.T.bmain hKP hF hb (λH hO hS=>hsp w H a Pt ns hlen hO hS) λH e s'=>hCX w H s₁ e s'
end
section
open PySem.W (CodeHd tabObj kla_obj kla_fn envX)
def SameP(Pt:Addr)(H H':Hp):Prop:=∀b o,b≠Pt->H b=some o->H' b=some o
def SameP.trans{Pt:Addr}{H2:Hp}(a:SameP Pt H H1)(b:SameP Pt H1 H2):SameP Pt H H2:=λc o n e=>b c o n (a c o n e)
def Same.p{Pt:Addr}(s:Same H H'):SameP Pt H H':=λb o _ e=>s b o e
end
def aXM(CX:CXT)(P:Program)(w:World)(K:W.Frag)(mg:Str->Option Value)(base:Heap)(k:Nat)(C:Addr)(m:Str)(ps:List Str)(sp:Sp):Prop:=
 ∃(f:Addr) (fd:FuncData),FnOk P w K mg base CX k f fd ps sp/\Meth K C m f/\Binds K fd ps []
def eJE(CX:CXT)(P:Program)(w:World)(K:W.Frag)(mg:Str->Option Value)(base:Heap)(k:Nat)(C:Addr)(ps:List Str)(sp:Sp):Prop:=
 ∃(f:Addr) (fd:FuncData),FnOk P w K mg base CX k f fd ps sp/\Mk K C f/\Binds K fd ps []
section
variable {CX:CXT} {ps:List Str} {E:XK} {m:Str} {p:Pos} {o:Expr} {ta:TE}
def bQM(C:Addr)(m:Str)(sp:Sp)(Es:St->XK)(ta:TE)(t:TA):TE:=λσ H Q=>ta σ H λx H1=>∃a dx fs,x=.ref a/\H1 a=some (.ins C dx fs)/\fs.lookup m=none/\
 t σ H1 λvs H2=>sp (x::vs) H2 Q (Es σ)
def eQM{us:List Value}{vs:List V}(F:FnOk X.prog X.w X.K X.mg X.base CX k f fd ps sp)(hr:Room k X.A)(hb:Binds X.K fd ps [])(hx:aQC CX X Es)(I1:Inv X y3 σ H s1)(r:Vals vs us)(q:sp vs H Q (Es σ)):wpAny (model X.prog X.w) X.A (call (.ref f) us) (EP X y3 σ Q) X.xe s1:=by
 have hl:us.length=ps.length:=by rw[<-r.length];exact F.len _ _ _ _ q
 have hb1:=hb s1 us I1.kIn (by rw[Bj];exact hl)
 rw[Bj]at hb1;refine Ep (Ei (F.run X.A X.stack s1 H ⟨us,[]⟩ us vs Q (Es σ) hr I1.env0 hb1 r q) λrs s' hq=>?_);cases rs with
 |error e=>exact hx y3 σ H s1 e s' I1 hq
 |ok fl=>
  cases fl with
  |ret u=>exact I1.after hq
  |next=>exact False.elim hq
  |brk=>exact False.elim hq
  |cont=>exact False.elim hq
def dXE{pl:Sem Bool}(he:PE X o ta)(c:Cls X.K C)(hm:Meth X.K C m f)(F:FnOk X.prog X.w X.K X.mg X.base CX k f fd ps sp)(hr:Room k X.A)(hb:Binds X.K fd ps [])(hx:aQC CX X Es)(ha:PA X (e::es) t)(hst:starEach (e::es) X.env=(false,eval e X.env)::starEach es X.env:=by rfl)(hpl:(backTo pos (starEach es X.env)).any (·.1)=false:=by rfl)(ht:eval (.Call (.Attribute o m apos) (e::es) [] pos) X.env=(do
 let ov <-eval o X.env
 standAt apos.atName
 let (f,first) <-holding [ov] (getMethod ov m pl)
 callWith pos f first (backTo pos (starEach (e::es) X.env)) (backToKw pos (keywordEach [] X.env))):=by rfl):PE X (.Call (.Attribute o m apos) (e::es) [] pos) (bQM C m sp Es ta t):=by
 intro y3 s σ H Q I h;refine Fn (pl:=pl) (thn (he y3 s σ H _ I h) λu s1 ⟨x,H1,I1,rx,a,dx,fs,ex,ea,l,q⟩=>?_) ht;subst ex;obtain rfl:u=Value.ref a:=rx;refine oY I1 ea c hm l ?_;refine Er (first:=[.ref a]) (h₀:=X.base) I.ok.mod.kin hm.kp (thn (ha pos y3 s1 σ H1 _ I1 q) λus s2 ⟨vs,H2,I2,r,q2⟩=>⟨I2.kIn,?_⟩) hst hpl
 exact eQM (us:=.ref a::us) (vs:=.ref a::vs) F hr hb hx I2 (.cons rfl r) q2
def iJ(c:aXM CX0 X.prog X.w X.K X.mg X.base k C m ps sp)(cl:Cls X.K C)(hr:Room k' X.A)(hk:k<=k')(he:PE X o ta)(ht:eval (.Call (.Attribute o m apos) [] [] pos) X.env=(do
 let ov <-eval o X.env
 standAt apos.atName
 let (f,first) <-holding [ov] (getMethod ov m pl)
 callWith pos f first (backTo pos (starEach [] X.env)) (backToKw pos (keywordEach [] X.env))):=by rfl):PE X (.Call (.Attribute o m apos) [] [] pos) (cZN C m sp [] E0 ta bQN):=by
 obtain⟨f,fd,F,hm,hb⟩:=c;exact dQ4 (pl:=pl) he cl hm F (hr.mono hk) hb .nil dZD ht
def bZ4(c:aXM (CXr X.prog X.w) X.prog X.w X.K X.mg X.base k C m ps sp)(cl:Cls X.K C)(hx:aQC (CXr X.prog X.w) X Es)(hr:Room k' X.A)(hk:k<=k')(he:PE X o ta)(ha:PA X (e::es) t)(hst:starEach (e::es) X.env=(false,eval e X.env)::starEach es X.env:=by rfl)(hpl:(backTo pos (starEach es X.env)).any (·.1)=false:=by rfl)(ht:eval (.Call (.Attribute o m apos) (e::es) [] pos) X.env=(do
 let ov <-eval o X.env
 standAt apos.atName
 let (f,first) <-holding [ov] (getMethod ov m pl)
 callWith pos f first (backTo pos (starEach (e::es) X.env)) (backToKw pos (keywordEach [] X.env))):=by rfl):PE X (.Call (.Attribute o m apos) (e::es) [] pos) (bQM C m sp Es ta t):=by
 obtain⟨f,fd,F,hm,hb⟩:=c;exact dXE (pl:=pl) he cl hm F (hr.mono hk) hb hx ha hst hpl ht
def fQ0(c:eJE CX0 X.prog X.w X.K X.mg X.base k C ps sp)(hr:Room k' X.A)(hk:k+1<=k')(hg:Gl X x)(hm:X.mg x=some (.ref C))(ha:PA X (e::es) t)(hdb:(x==("__debug__" : Str))=false:=by decide)(he:starEach (e::es) X.env=(false,eval e X.env)::starEach es X.env:=by rfl)(hpl:(backTo pos (starEach es X.env)).any (·.1)=false:=by rfl):PE X (.Call (.Name x p) (e::es) [] pos) (dXU C sp [] E0 t):=by
 obtain⟨f,fd,F,M,hb⟩:=c;exact dJT M F (hr.mono hk) hg hm hb .nil dZD ha hdb he hpl
def fXV{dvs:List V}(h:ta σ H λx H1=>∃a dx fs,x=.ref a/\H1 a=some (.ins C dx fs)/\fs.lookup m=none/\t σ H1 λvs H2=>sp (x::(vs++dvs)) H2 Q E):cZN C m sp dvs E ta t σ H Q:=h
def eZD(h:ta σ H λx H1=>∃a dx fs,x=.ref a/\H1 a=some (.ins C dx fs)/\fs.lookup m=none/\t σ H1 λvs H2=>sp (x::vs) H2 Q (Es σ)):bQM C m sp Es ta t σ H Q:=h
def fZ7{dvs:List V}(h:t σ H λvs H1=>∀x dx,H1 x=none->H1 dx=none->dx≠x->sp (.ref x::(vs++dvs)) (upd (upd H1 dx (.own x)) x (.ins C dx [])) (λv H2=>v=.non/\Q (.ref x) H2) E):dXU C sp dvs E t σ H Q:=h
def fJ3{f:Str}(h:ta σ H λx H1=>∃a C dx fs v,x=.ref a/\H1 a=some (.ins C dx fs)/\Cls K C/\NoAttr K C f/\fs.lookup f=some v/\Q v H1):fZ6 K ta f σ H Q:=h
def eZV{f:Str}(h:tv σ H λy H1=>ta σ H1 λx H2=>∃a C dx fs,x=.ref a/\H2 a=some (.ins C dx fs)/\Cls K C/\NoAttr K C f/\fs.length<1000/\D.nx σ (upd H2 a (.ins C dx (gD f y fs)))):fZI K ta tv f D σ H:=h
end
def aZB(w:World):List DictEntry->List (Str×Int)->Prop
 |[],[]=>True
 |e::es,kn::r=>e.hash=PyData.keyHash w.params kn.1/\(∃t,e.key=.str kn.1 t)/\(∃t,e.val=.int kn.2 t)/\aZB w es r
 |_,_=>False
def fJV(w:World)(K:W.Frag)(mg:Str->Option Value)(x:Str)(kvs:List (Str×Int)):Prop:=
 ∃(d:Addr) (es:Array DictEntry) (ep:Nat),mg x=some (.ref d)/\K.lookup d=some ⟨.type "dict",none,.dict es ep,#[]⟩/\(d==sysModules)=false/\aZB w es.toList kvs/\(kvs.map (·.1)).Nodup
def xA{P:Program}:∀ {es:List DictEntry} {kvs:List (Str×Int)},aZB w es kvs->∃vs:List (Key×Value),Pairs (bK P w) es vs/\vs.map (·.1)=kvs.map (λkn=>(Sum.inr kn.1:Key))/\(∀e∈es,∃k,(bK P w).is k e.key=true/\e.hash=(bK P w).hash k)/\
 ∀z,(match valueAt vs (Sum.inr z:Key) with|some u=>∃n t,kvs.lookup z=some n/\u=.int n t|none=>kvs.lookup z=none)
 |[],[],_=>⟨[],.nil,rfl,(λe he=>nomatch he),λz=>rfl⟩
 |e::es,(k,n)::r,h=>by
  obtain⟨h1,⟨t,h2⟩,⟨t',h3⟩,h4⟩:=h;obtain⟨vs,p,m,ke,va⟩:=xA (P:=P) h4;refine⟨((Sum.inr k:Key),.int n t')::vs,.cons (by rw[h2];exact mW k t) h3 p,by rw[Aw,m];rfl,λe' he=>?_,λz=>?_⟩
  ·rcases Bb.mp he with rfl|q
   ·exact⟨Sum.inr k,by rw[h2];exact mW k t,h1⟩
   ·exact ke e' q
  ·have va':=va z
   unfold valueAt at va' ⊢;rw[List.find?_cons];by_cases ez:k=z
   ·subst ez;rw[Ap rfl];exact⟨n,t',by rw[Dk,Em],rfl⟩
   ·rw[As λq=>ez (Sum.inr.inj q)];rw[Dk,show (z==k)=false from Cw.mpr λq=>ez q.symm];exact va'
 |[],_::_,h=>h.elim
 |_::_,[],h=>h.elim
def eXV(kvs:List (Str×Int))(ta:TA):TE:=λσ H Q=>ta σ H λvs H1=>∃z,vs=[.str z]/\Q (match kvs.lookup z with|some n=>.int n|none=>.non) H1
def dJ2{kvs:List (Str×Int)}{p:Pos}(hg:Gl X x)(hk:fJV X.w X.K X.mg x kvs)(ha:PA X [e] ta)(hdb:(x==("__debug__" : Str))=false:=by decide)(hbase:attributeBase (.Name x p) "get" X.env (eval (.Name x p) X.env)=eval (.Name x p) X.env:=by rfl)(hfew:((backTo cpos (starEach [e] X.env)).all (λx=>!x.1)&&(backToKw cpos (keywordEach [] X.env)).all (λx=>x.1.isSome)
 && decide (([e]:List Expr).length+([]:List Keyword).length+(if ([]:List Keyword).isEmpty then 0 else 1)<30))=true:=by rfl)(hline:(apos.endLine==cpos.line)=true:=by rfl)(hs:starEach [e] X.env=(false,eval e X.env)::starEach [] X.env:=by rfl)(hplain:(backTo cpos (starEach [] X.env)).any (·.1)=false:=by rfl):PE X (.Call (.Attribute (.Name x p) "get" apos) [e] [] cpos) (eXV kvs ta):=by
 intro y3 s σ H Q I h;obtain⟨d,es,ep,hm,hl,hd,ok,nd⟩:=hk;obtain⟨vs,pr,m,ke,va⟩:=xA (P:=X.prog) ok;have dd:∀s':Shared,X.K.In s'.heap->s'.heap.DictOf (bK X.prog X.w) d vs:=λs' k=>⟨_,es,ep,k _ _ hl,by first|exact⟨rfl,rfl,rfl⟩|exact⟨rfl,rfl⟩|(constructor<;>rfl),rfl,λe he=>ke e (by simpa using he),pr,by rw[m,show kvs.map (λkn=>(Sum.inr kn.1:Key))=(kvs.map (·.1)).map (λz=>(Sum.inr z:Key)) by rw[List.map_map];rfl];exact List.pairwise_map.mpr (nd.imp λn q=>n (Sum.inr.inj q))⟩
 have ho:PE X (.Name x p) (tC (.ref d)):=uD hg hm rfl hdb
 refine Gx hbase hfew hline rfl (thn (ho y3 s σ H (λy H1=>y=.ref d/\H1=H) I ⟨rfl,rfl⟩) λv s1 ⟨x',H1,I1,r1,q⟩=>?_);obtain⟨rfl,rfl⟩:=q;cases r1;have d1:=dd s1 I1.kIn
 refine⟨"dict",_,PySem.F.plainAttrs_dict,Bw,rfl,d1.typeIs,λb q=>?_,?_⟩
 ·cases q;obtain⟨ob,_,_,h1,h2,_⟩:=d1;exact⟨ob,h1,h2.2.1⟩
 have hA:=ha cpos y3 s1 σ H1 _ I1 h
 rw[hs]at hA ⊢;refine Fj (by show (false || (backTo cpos (starEach [] X.env)).any (·.1))=false;rw[hplain]<;>rfl) (Fw ?_)
 refine thn hA λus s2 ⟨vs',H2,I2,r2,z,ez,q2⟩=>?_;subst ez;obtain⟨u,rfl,t,rfl⟩:=eW r2;have d2:=dd s2 I2.kIn
 refine Ga Bw d2.typeIs Ej (Gq _ _) (meets_dict_get (bK X.prog X.w) d (show (bK X.prog X.w).is (Sum.inr z:Key) (Value.str z t)=true from mW z t) hd) ⟨_,d2.mapOf,?_⟩;have va':=va z
 cases e:valueAt vs (Sum.inr z:Key) with
 |none=>
  rw[e]at va';have va2:kvs.lookup z=none:=va'
  rw[va2]at q2;exact⟨.non,H2,I2.tok _,rfl,q2⟩
 |some u=>
  rw[e]at va';obtain⟨n,t',e2,rfl⟩:=va';rw[e2]at q2;exact⟨.int n,H2,I2.tok _,⟨t',rfl⟩,q2⟩
def eZ7{kvs:List (Str×Int)}(h:ta σ H λvs H1=>∃z,vs=[.str z]/\Q (match kvs.lookup z with|some n=>.int n|none=>.non) H1):eXV kvs ta σ H Q:=h
def eXO:R2:=λx y H Q=>∃(p q:Addr) (xs:List V),x=.ref p/\y=.ref q/\H p=some (.tup xs)/\H q=some (.tup [])/\Q (.bl xs.isEmpty) H
def eZR(hu:X.A.units<cLine):OpR X (compareOp .Eq) eXO:=by
 intro y3 s σ H x y v u Q I rx ry h;obtain⟨p,q,xs,rfl,rfl,hp,hq,k⟩:=h;cases rx;cases ry;obtain⟨its,r1,l1,_⟩:=I.tuple (SqT.of (K:=X.K) hp);obtain⟨its2,r2,l2,_⟩:=I.tuple (SqT.of (K:=X.K) hq);have e1:=r1.length
 cases r2;refine SeqAt.eq_tupleAt (e:=λ_=>true) (show s.heap.IsTuple p _ from l1) (show s.heap.IsTuple q _ from l2) hu (λj h1 h2=>absurd h2 (by simp)) ?_
 refine⟨.bl xs.isEmpty,H,I,?_,k⟩;show Value.bool _=Value.bool _
 congr 1
 cases xs with
 |nil=>
  have:its=[]:=Fh e1.symm
  subst this;rfl
 |cons a r=>
  cases its with
  |nil=>simp at e1
  |cons b t=>simp
def cJ8{p:Addr}(hp:H p=some (.tup xs))(hq:H q=some (.tup []))(h:Q (.bl xs.isEmpty) H):eXO (.ref p) (.ref q) H Q:=⟨p,q,xs,rfl,rfl,hp,hq,h⟩
def fJ6(z:Str):Value->Bool
 |.str y _=>y==z
 |_=>false
def bJI:V->List V->Hp->VK->Prop:=λx vs H Q=>∃(p:Addr) (ss:List Str) (z:Str) (j:Nat),x=.ref p/\vs=[.str z]/\rdL H p=some (ss.map V.str)/\ss[j]?=some z/\(∀(i:Nat) y,i<j->ss[i]?=some y->y≠z)/\Q (.int (j:Int)) H
def dXX:MtR X "list.index" bJI:=by
 intro y3 s σ H x vs v us Q I rx rv h;obtain⟨p,ss,z,j,rfl,rfl,hp,hj,hb,q⟩:=h;cases rx;obtain⟨u,rfl,t0,rfl⟩:=rv.one;obtain⟨its,r,pl,hz⟩:=I.list (bG hp);obtain⟨⟨c,dd,dt,sl⟩,ho,hc,n,hd⟩:=pl.isList;obtain rfl:c=.type "list" := hc;obtain rfl:dt=.seq its.toArray n:=hd;have hlen:=r.length
 rw[Ab]at hlen hz;have hjl:j<ss.length:=(Ac.mp hj).1
 have hn:=jA
 have rel:∀m (hm:m<its.length),∃y t,ss[m]?=some y/\its[m]=.str y t:=λm hm=>by
  have hm':m<ss.length:=by omega
  obtain⟨u,hu,t,ru⟩:=r.get (show (ss.map V.str)[m]?=some (.str ss[m]) by rw[Ag,Aa hm'];rfl)
  rw[Aa hm]at hu;cases hu;exact⟨ss[m],t,Aa hm',ru⟩
 refine Fi Dt ⟨_,ho,rfl⟩ Gf (Gb _ _) (SeqAt.list_indexAt p its.toArray n dd sl (.str z t0) (fJ6 z) j (by rw[Ax];omega) (by omega) ?_ ?_) ⟨ho,λy hy=>?_,⟨.int j,H,I.tok _,⟨_,rfl⟩,q⟩⟩
 ·obtain⟨y,t,hy,e⟩:=rel j (by omega)
  rw[hj]at hy;cases hy;rw[Ee,e];exact Em _
 ·intro m hm hmj;have hm':m<its.length:=by rw[Ax]at hm;exact hm
  obtain⟨y,t,hy,e⟩:=rel m hm';rw[Ee,e];exact Cw.mpr (hb m y hmj hy)
 ·have hy':y∈its:=by simpa using hy
  obtain⟨m,hm,rfl⟩:=Bu.mp hy';obtain⟨y,t,_,e⟩:=rel m hm;rw[e];exact SeqAt.EqAt.str_str y t z t0
def cZF{p:Addr}{ss:List Str}(e:rdL H p=some (ss.map V.str))(hj:ss[j]?=some z)(hb:∀(i:Nat) y,i<j->ss[i]?=some y->y≠z)(h:Q (.int (j:Int)) H):bJI (.ref p) [.str z] H Q:=⟨p,ss,z,j,rfl,rfl,e,hj,hb,h⟩
where strOf:Value->Option Str
 |.str z _=>some z
 |_=>none
def eQ3:List V->Hp->VK->Prop:=λxs H Q=>∃k,xs=[.bl k]/\Q (.int (if k then 1 else 0)) H
def cJJ:CallR X (.type "int") eQ3:=call_int1.imp λ_ _ _ q=>.inr q
def fQ5{k:Bool}(h:Q (.int (if k then 1 else 0)) H):eQ3 [.bl k] H Q:=⟨k,rfl,h⟩
def eXT:R2:=λx y H Q=>x=.int 10/\y=.int 20/\Q (.int 100000000000000000000) H
def fQI:OpR X (binaryOp .Pow) eXT:=op_pow.imp λx y H Q q=>by
 obtain⟨rfl,rfl,q⟩:=q;exact⟨10,20,rfl,rfl,⟨by decide,by decide,by decide⟩,by
  show Q (V.int ((10:Int)^(20:Int).toNat)) H
  rw[show (10:Int)^(20:Int).toNat=100000000000000000000 by decide]
  exact q⟩
def eJ0(h:Q (.int 100000000000000000000) H):eXT (.int 10) (.int 20) H Q:=⟨rfl,rfl,h⟩
def aP(i:Nat){pos':Pos}(hN:X.N.Nodup)(he:PE X e te)(hi:X.N[i]?=some x:=by rfl)(hx:Loc X.env.scope x:=by first|exact Or.inl rfl|exact Or.inr rfl)(hs:swapsWith e (some (.Name x pos')) pos.line X.env=pure false:=by rfl)(hf:X.fn x=true\/X.env.scope.names.lookup x=some .local:=by first|exact Or.inl rfl|exact Or.inr rfl):PS X (.Assign [.Name x pos'] e pos) (dQJ te (gH i)):=bX1 hN hi hx he hs hf
def tE{hp:Heap}:∀ {bs:List Bool} {us:List Value},Vals (bs.map V.bl) us->ReadsAll hp us (bs.map PyData.bool) []
 |[],_,.nil=>.nil
 |b::bs,_,.cons (b:=u) r rs=>by
  cases r;exact ReadsAll.cons (as:=[]) (.bool b) (tE rs)
def rF(k:Bool):∀bs:List Bool,countIn (.bool k) (bs.map PyData.bool)=((bs.countP (· == k):Nat):Int)
 |[]=>rfl
 |b::r=>by
  have ih:=rF k r
  rw[Aw];unfold countIn;rw[ih,En];by_cases e:b=k
  ·subst e;simp[same];omega
  ·simp[same,e]
def bJX:V->List V->Hp->VK->Prop:=λx vs H Q=>∃(p:Addr) (bs:List Bool) (k:Bool),x=.ref p/\vs=[.bl k]/\rdL H p=some (bs.map V.bl)/\Q (.int ((bs.countP (· == k):Nat):Int)) H
def dXO:MtR X "list.count" bJX:=by
 intro y3 s σ H x vs v us Q I rx rv h;obtain⟨p,bs,k,rfl,rfl,hp,q⟩:=h;cases rx;obtain⟨u,rfl,ru⟩:=rv.one;cases ru;obtain⟨its,r,pl,_⟩:=I.list (bG hp);exact count_list_bools (hp:=s.heap) pl.isList (tE r) (by rw[Ha];exact Bv.mpr λ_ _=>rfl) (by rw[rF];exact⟨.int _,H,I.tok _,⟨_,rfl⟩,q⟩)
def dQI{p:Addr}{k:Bool}(e:rdL H p=some (bs.map V.bl))(h:Q (.int ((bs.countP (· == k):Nat):Int)) H):bJX (.ref p) [.bl k] H Q:=⟨p,bs,k,rfl,rfl,e,h⟩
def fZS(k:Bool):Value->Bool
 |.bool b=>b==k
 |_=>false
def bZS:V->List V->Hp->VK->Prop:=λx vs H Q=>∃(p:Addr) (bs:List Bool) (k:Bool) (j:Nat),x=.ref p/\vs=[.bl k]/\rdL H p=some (bs.map V.bl)/\bs[j]?=some k/\(∀(i:Nat) y,i<j->bs[i]?=some y->y≠k)/\Q (.int (j:Int)) H
def dQA:MtR X "list.index" bZS:=by
 intro y3 s σ H x vs v us Q I rx rv h;obtain⟨p,bs,k,j,rfl,rfl,hp,hj,hb,q⟩:=h;cases rx;obtain⟨u,rfl,ru⟩:=rv.one;cases ru;obtain⟨its,r,pl,hz⟩:=I.list (bG hp);obtain⟨⟨c,dd,dt,sl⟩,ho,hc,n,hd⟩:=pl.isList;obtain rfl:c=.type "list" := hc;obtain rfl:dt=.seq its.toArray n:=hd;have hlen:=r.length
 rw[Ab]at hlen hz;have hjl:j<bs.length:=(Ac.mp hj).1
 have hn:=jA
 have rel:∀m (hm:m<its.length),∃y,bs[m]?=some y/\its[m]=.bool y:=λm hm=>by
  have hm':m<bs.length:=by omega
  obtain⟨u,hu,ru⟩:=r.get (show (bs.map V.bl)[m]?=some (.bl bs[m]) by rw[Ag,Aa hm'];rfl)
  rw[Aa hm]at hu;cases hu;exact⟨bs[m],Aa hm',ru⟩
 refine Fi Dt ⟨_,ho,rfl⟩ Gf (Gb _ _) (SeqAt.list_indexAt p its.toArray n dd sl (.bool k) (fZS k) j (by rw[Ax];omega) (by omega) ?_ ?_) ⟨ho,λy hy=>?_,⟨.int j,H,I.tok _,⟨_,rfl⟩,q⟩⟩
 ·obtain⟨y,hy,e⟩:=rel j (by omega)
  rw[hj]at hy;cases hy;rw[Ee,e];exact Em _
 ·intro m hm hmj;have hm':m<its.length:=by rw[Ax]at hm;exact hm
  obtain⟨y,hy,e⟩:=rel m hm';rw[Ee,e];exact Cw.mpr (hb m y hmj hy)
 ·have hy':y∈its:=by simpa using hy
  obtain⟨m,hm,rfl⟩:=Bu.mp hy';obtain⟨y,_,e⟩:=rel m hm;rw[e];exact oO (y:=.bl y) (x:=.bl k) rfl rfl rfl rfl
def dX6{p:Addr}{k:Bool}{j:Nat}(e:rdL H p=some (bs.map V.bl))(hj:bs[j]?=some k)(hb:∀(i:Nat) y,i<j->bs[i]?=some y->y≠k)(h:Q (.int (j:Int)) H):bZS (.ref p) [.bl k] H Q:=⟨p,bs,k,j,rfl,rfl,e,hj,hb,h⟩
section
variable {X:Cx}
def bZZ:V->List V->Hp->VK->Prop:=λx vs H Q=>∃z:Str,x=.str z/\vs=[]/\z.length<=1000/\((Txt.upper z).length<=3*z.length->Q (.str (Txt.upper z)) H)
def dQF:MtR X "str.upper" bZZ:=by
 intro y3 s σ H x vs v us Q I rx rv h;obtain⟨z,rfl,rfl,hz,q⟩:=h;obtain⟨t,rfl⟩:=rx;obtain rfl:=rv.zero;refine SCL.upper (by have:=Gm;omega) λhl=>?_
 exact⟨.str _,H,I.tok _,⟨_,rfl⟩,q hl⟩
def cJ0(hl:z.length<=1000)(h:(Txt.upper z).length<=3*z.length->Q (.str (Txt.upper z)) H):bZZ (.str z) [] H Q:=⟨z,rfl,rfl,hl,h⟩
def fXN:R2:=λx y H Q=>∃(p:Addr) (xs:List V),y=.ref p/\H p=some (.tup xs)/\cB x=true/\xs.all cB=true/\Q (.bl (inV x xs)) H
def fJ2{X:Cx}:OpR X (compareOp .In) fXN:=op_in_seq.imp λ_ _ _ _ ⟨p,xs,e,h,f,f',q⟩=>⟨p,xs,e,.inr (SqT.of h),f,f',q⟩
def fZX{x:V}{p:Addr}(h:H p=some (.tup xs))(f:cB x=true)(f':xs.all cB=true)(q:Q (.bl (inV x xs)) H):fXN x (.ref p) H Q:=⟨p,xs,rfl,h,f,f',q⟩
def cM{X:Cx}{as es:List Expr}{x1:Nat}{pos:Pos}{t1 t:TA}(h:PA X as t1)(hr:PA X es t):PA X (.Tuple as x1 pos::es) (aQI (fXG t1) t):=aA (cW h) hr rfl
def gQ{X:Cx}{n:Int}{j:Nat}{pos:Pos}{es:List Expr}{t:TA}(h:PA X es t):PA X (.Constant (.int n) j pos::es) (aQI (tC (.int n)) t):=aA aJ h rfl
def bQ8{c:Nat}(h1:97<=c)(h2:c<=122)(cs:List Nat):∃y:Str,Txt.upper ⟨(c::cs).toArray⟩=⟨#[c-32]⟩++y:=by
 have e:(⟨(c::cs).toArray⟩:Str)=⟨#[c]⟩++⟨cs.toArray⟩:=by
  refine PySem.Str.ext' ?_;show (c::cs).toArray=#[c]++cs.toArray
  simp
 refine⟨Txt.upper ⟨cs.toArray⟩,?_⟩;rw[e,W.KOpn.upper_app,W.KOpn.upper_one (by omega),if_pos ⟨h1,h2⟩]
end
end L2
namespace Mine
open PySem L2
variable {H H':Hp}{K:W.Frag}{Q:VK}{Z0 Zo Zp Zq Zr Zs Zt Zu Zv Zw Zx Zy Zz b dd dp dx ea f hg p r s0 st:Addr}{bk:List (Str×Str)}{bs dps ds l ps:List Addr}{cs cw fs ks:List Nat}{cws:Q5}{d i j k n:Nat}{fd:FuncData}{h:Option (List Nat)}{hs:Q3}{kvs:List (Key×V)}{m:Int}{mg:Q4}{mss:List (Q5)}{us xs:List V}{v x:V}{z:Str}{zs:List Str}{α β:Type}
local macro_rules | `(tactic| walk_at "rd") => `(tactic| first | assumption | exact bP | exact dD | exact mZ | exact aR (by assumption) | exact bQ (by assumption) | (apply aO (aG (by assumption) _); walk_at "rd"))
local macro_rules | `(tactic| walk_at "dd") => `(tactic| first | exact rN (by assumption) | exact cZS (by assumption) | exact rN aH | assumption)
local macro_rules | `(tactic| walk_at "lo") => `(tactic| first | assumption | decide | omega | (simp only [List.length_map,List.length_append,List.length_cons,List.length_nil,Str.length_append]; omega))
local macro_rules | `(tactic| walk_at "ln") => `(tactic| first | assumption | decide | exact bO (by walk_at "lo") | exact bL (by walk_at "lo"))
local macro_rules | `(tactic| walk_at "ar") => `(tactic| first | assumption | decide | omega | exact ⟨by omega,by omega⟩ | exact Or.inl ⟨by omega,by omega⟩ | exact Or.inr ⟨by omega,by omega⟩ | (dsimp only; done) | (dsimp only; omega))
local macro_rules | `(tactic| walk_at "s") => `(tactic| first
 | (with_reducible first | refine nY ?_ | refine eZJ ?_ | refine gQU ?_ | refine fJI ?_ | refine eZU ?_ | refine fJE ?_ | refine fXY ?_ | refine aQR ?_ | refine eZ9 ?_)
 | ((with_reducible refine' fZY ?sv ?_); (case sv => exact rfl))
 | (with_reducible first | refine s_c ?_ | refine gQI ?_ | refine gQK ?_ | refine fJL ?_ | refine eX7 ?_ | refine eZT ?_ | refine gQS ?_ | refine gQO ?_ | refine cJ9 ?_ | refine eJO ?_ | refine fQZ ?_ | refine fX1 ?_)
 | ((with_reducible refine' fZL ?se ?_); (case se => walk_at "rd"))
 | (with_reducible first | refine eZM ?_ | refine dJM ?_ | refine gQH ?_ | refine eJ7 ?_ | refine fJY ?_ | refine fJ8 ?_ | refine fJQ ?_ | refine fXA ?_ | refine fZD ?_ | refine gQB ?_)
 | ((with_reducible refine fX4 ?sc ?_); (case sc => walk_at "ar"))
 | with_reducible refine fQ8 ?_
 | ((with_reducible refine eJP ?sc ?_); (case sc => walk_at "ln"))
 | (with_reducible first | refine fXO ?_ | refine fZ1 ?_ | refine fXK ?_ | refine fJW ?_ | refine fZ8 ?_ | refine fQT ?_ | refine fZJ ?_)
 | ((with_reducible refine fZW ?sc ?_); (case sc => walk_at "ln"))
 | ((with_reducible refine' fJD ?sc ?_); (case sc => walk_at "rd"))
 | ((with_reducible refine eJV ?sc ?_); (case sc => walk_at "ln"))
 | ((with_reducible refine' eJ4 ?sc ?_); (case sc => walk_at "rd"))
 | ((with_reducible refine' fQJ ?sc ?_); (case sc => walk_at "rd"))
 | (with_reducible first | refine eJW ?_ | refine dJZ ?_ | refine eQ1 ?_ | refine dZN ?_ | refine dJ1 ?_ | refine dZR ?_ | refine eJI ?_ | refine eJM ?_ | refine dQ3 ?_)
 | ((with_reducible refine' fX8 ?se ?_); (case se => walk_at "rd"))
 | ((with_reducible refine' fZC ?se ?sl ?_); (case se => walk_at "rd"); (case sl => walk_at "ln"))
 | with_reducible refine dJF ?_
 | ((with_reducible refine' eXC ?se ?sf ?sl ?_); (case se => walk_at "rd"); (case sf => walk_at "rd"); (case sl => walk_at "ln"))
 | (with_reducible first | refine dJR ?_ | refine dQ6 ?_ | refine eX8 ?_ | refine fQH ?_ | refine eZB ?_ | refine dJU ?_ | refine eJT ?_)
 | ((with_reducible refine' fQY ?se ?sn ?_); (case se => walk_at "rd"); (case sn => exact rfl))
 | (with_reducible first | refine fZ2 ?_ | refine fZG ?_ | refine fQQ ?_ | refine dJ5 ?_ | refine eQI ?_ | refine fJ1 ?_ | refine fQB ?_ | refine eQV ?_)
 | ((with_reducible refine fXX ?sd ?_); (case sd => walk_at "dd"))
 | (with_reducible first | refine eZZ ?_ | refine fZK ?_ | refine fQL ?_ | refine dZZ ?_ | refine dX0 ?_ | refine dZQ ?_ | refine eZ0 ?_ | refine fZP ?_)
 | ((with_reducible refine' eJS ?se ?sn ?_); (case se => walk_at "rd"); (case sn => exact rfl))
 | (with_reducible first | refine dJC ?_ | refine eJZ ?_ | refine eZA ?_ | refine dZA ?_ | refine dZI ?_)
 | ((with_reducible refine dZP ?sc ?_); (case sc => walk_at "ln"))
 | (with_reducible first | refine fX6 ?_ | refine dX9 ?_ | refine dZM ?_ | refine dJD ?_ | refine fQX ?_ | refine fZ3 ?_ | refine eZV ?_ | refine fJ3 ?_ | refine fXV ?_ | refine eZD ?_ | refine fZ7 ?_ | refine eZ7 ?_ | refine fQ5 ?_ | refine eJ0 ?_ | refine gQE ?_ | refine fJ7 ?_ | refine fX7 ?_ | refine fJU ?_)
 | dsimp only)
local macro_rules | `(tactic| walk_at "g") => `(tactic| repeat' (walk_at "s"))
local macro_rules | `(tactic| walk_at "sc") => `(tactic| exact ⟨rfl,rfl,rfl,by decide +kernel,rfl,by decide +kernel,by decide +kernel⟩)
local macro_rules | `(tactic| walk_at "o") => `(tactic| first | exact Or.inl rfl | exact Or.inr rfl)
local macro_rules | `(tactic| walk_at "u") => `(tactic| repeat' ((fail_if_success (with_reducible refine nY ?_)); (walk_at "s")))
def Knd(K:W.Frag)(c0 c1 c2 c3 c4 c5 c6 c7 b0 b1 b2 aT D:Addr)(i:Nat):Prop:=W.kitOne K (.ref D) (.ref c0)=some (decide (i=0))/\W.kitOne K (.ref D) (.ref c1)=some (decide (i=1))/\W.kitOne K (.ref D) (.ref c2)=some (decide (i=2))/\W.kitOne K (.ref D) (.ref c3)=some (decide (i=3))/\W.kitOne K (.ref D) (.ref c4)=some (decide (i=4))/\W.kitOne K (.ref D) (.ref c5)=some (decide (i=5))/\W.kitOne K (.ref D) (.ref c6)=some (decide (i=6))/\W.kitOne K (.ref D) (.ref c7)=some (decide (i=7))/\W.kitOne K (.ref D) (.ref b0)=some false/\W.kitOne K (.ref D) (.ref b1)=some false/\W.kitOne K (.ref D) (.ref b2)=some false/\W.kitOne K (.ref D) (.type "ValueError")=some true/\W.exmOne K (.ref D) (.ref aT)=some true
def top(i:Nat):Stmt:=PySem.Challenge.pw_flaglocker_k56_deeds_refused.main.body.getD i (.Pass ⟨0,0,0,0⟩)
abbrev rQ:Stmt:=top 84
abbrev xI:Stmt:=top 85
abbrev vW:Stmt:=top 88
abbrev iR:Stmt:=top 87
abbrev rW:Stmt:=top 89
abbrev mO:Stmt:=top 83
abbrev hV:Stmt:=top 48
abbrev kS:Stmt:=nX (top 81) 0
abbrev sL:Stmt:=top 91
abbrev vN:Stmt:=top 50
abbrev kM:Stmt:=top 53
abbrev gN:Stmt:=top 52
abbrev kI:Stmt:=top 56
abbrev lK:Stmt:=top 54
abbrev gO:Stmt:=top 57
abbrev kX:Stmt:=top 58
abbrev lY:Stmt:=nX (top 19) 0
abbrev eQ:Stmt:=top 59
abbrev sO:Stmt:=top 6
abbrev jZ:Stmt:=top 10
abbrev eM:Stmt:=top 12
abbrev oR:Stmt:=top 13
abbrev kA:Stmt:=top 14
abbrev lJ:Stmt:=top 74
abbrev kO:Stmt:=nX (top 18) 0
abbrev aXK:Stmt:=top 49
abbrev sM:Stmt:=top 31
abbrev eX:Stmt:=top 32
abbrev oV:Stmt:=top 35
abbrev iT:Stmt:=top 36
abbrev fT:Stmt:=top 37
abbrev eK:Stmt:=top 38
abbrev kP:Stmt:=nX (top 21) 0
abbrev pW:Stmt:=top 40
abbrev kN:Stmt:=top 39
abbrev pJ:Stmt:=top 41
abbrev gP:Stmt:=top 79
abbrev eU:Stmt:=top 72
abbrev dU:Stmt:=top 62
abbrev sR:Stmt:=top 66
abbrev fV:Stmt:=top 64
abbrev sN:Stmt:=top 60
abbrev pG:Stmt:=top 65
abbrev rX:Stmt:=top 7
abbrev lM:Stmt:=top 43
abbrev oQ:Stmt:=top 44
abbrev sK:Stmt:=top 45
abbrev gJ:Stmt:=top 67
abbrev mE:Stmt:=top 68
abbrev wI:Stmt:=top 69
abbrev rP:Stmt:=top 8
abbrev kY:Stmt:=top 11
abbrev iV:Stmt:=nX (top 23) 0
abbrev jI:Stmt:=top 75
abbrev gW:Stmt:=top 76
abbrev fZ:Stmt:=top 73
abbrev iX:Stmt:=top 77
abbrev iZ:Stmt:=top 78
abbrev iU:Stmt:=top 80
abbrev pC:Stmt:=nX (top 81) 1
abbrev vT:Stmt:=top 97
abbrev fI:Stmt:=nX (top 81) 2
abbrev hX:Stmt:=nX (top 81) 3
abbrev mP:Stmt:=nX (top 81) 4
abbrev gK:Stmt:=nX (top 81) 5
abbrev lG:Stmt:=top 94
abbrev lR:Stmt:=top 95
abbrev qV:Stmt:=top 96
abbrev nI:Stmt:=top 92
abbrev uQ:Stmt:=top 93
abbrev uZ:Stmt:=top 98
structure KFs (K:W.Frag) (Zo Zz Zq Zx Z0 Zt Zy Zw Zu Zv Zr Zs Zp:Addr):Prop where
 m_Lack:W.exmOne K (.ref Zo) (.ref Zo)=some true
 x_NoHoist:W.excIn K Zx [.type "ValueError",.type "Exception",.type "BaseException",.type "object"] "ValueError.__new__"=true
 x_NoDeed:W.excIn K Zt [.type "ValueError",.type "Exception",.type "BaseException",.type "object"] "ValueError.__new__"=true
 x_NoHalyard:W.excIn K Zy [.type "ValueError",.type "Exception",.type "BaseException",.type "object"] "ValueError.__new__"=true
 x_NoFlag:W.excIn K Zu [.type "ValueError",.type "Exception",.type "BaseException",.type "object"] "ValueError.__new__"=true
 x_NoText:W.excIn K Zv [.type "ValueError",.type "Exception",.type "BaseException",.type "object"] "ValueError.__new__"=true
 ek_NoDeed:ExK K Zt
 ek_NoHalyard:ExK K Zy
 ek_NoFlag:ExK K Zu
 ek_NoText:ExK K Zv
 kn_NoDeed:Knd K Zt Zy Zw Zu Zq Zv Zr Zo Zs Zx Zp Zz Zt 0
 kn_NoHalyard:Knd K Zt Zy Zw Zu Zq Zv Zr Zo Zs Zx Zp Zz Zy 1
 kn_NoWord:Knd K Zt Zy Zw Zu Zq Zv Zr Zo Zs Zx Zp Zz Zw 2
 kn_NoFlag:Knd K Zt Zy Zw Zu Zq Zv Zr Zo Zs Zx Zp Zz Zu 3
 kn_Short:Knd K Zt Zy Zw Zu Zq Zv Zr Zo Zs Zx Zp Zz Zq 4
 kn_NoText:Knd K Zt Zy Zw Zu Zq Zv Zr Zo Zs Zx Zp Zz Zv 5
 kn_NoCut:Knd K Zt Zy Zw Zu Zq Zv Zr Zo Zs Zx Zp Zz Zr 6
 t1_TowerError:W.specialIn K (.ref Zz) "__getattribute__"=some (some (.builtin "type.__getattribute__"))
 t2_TowerError:W.readsIn K Zz (.type "type")=true
 t3_TowerError:W.findCls K (.ref Zz) (.type "type") "__init__"=some (.val (.builtin "ValueError.__init__"))
 xo_Lack:aQX K Zo [.type "ValueError",.type "Exception",.type "BaseException",.type "object"] "ValueError.__new__"=true
 xk_Lack:W.keepIn K (.ref Zo)=true
 xx_Lack:ExK K Zo
 xs_Lack:W.findIn K (.ref Zo) "__setattr__"=some (some (.builtin "object.__setattr__"))
 xr_Lack:cX8 K Zo Zz=true
 xv_Lack:W.subIn K (.ref Zo) (.type "ValueError")=some true
 xn_Lack_wants:W.findIn K (.ref Zo) "wants"=some none
 xn_Lack_flags:W.findIn K (.ref Zo) "flags"=some none
 xo_Short:aQX K Zq [.type "ValueError",.type "Exception",.type "BaseException",.type "object"] "ValueError.__new__"=true
 xk_Short:W.keepIn K (.ref Zq)=true
 xx_Short:ExK K Zq
 xs_Short:W.findIn K (.ref Zq) "__setattr__"=some (some (.builtin "object.__setattr__"))
 xr_Short:cX8 K Zq Zz=true
 xv_Short:W.subIn K (.ref Zq) (.type "ValueError")=some true
 xn_Short_flag:W.findIn K (.ref Zq) "flag"=some none
 xo_NoWord:aQX K Zw [.type "ValueError",.type "Exception",.type "BaseException",.type "object"] "ValueError.__new__"=true
 xk_NoWord:W.keepIn K (.ref Zw)=true
 xx_NoWord:ExK K Zw
 xs_NoWord:W.findIn K (.ref Zw) "__setattr__"=some (some (.builtin "object.__setattr__"))
 xr_NoWord:cX8 K Zw Zz=true
 xv_NoWord:W.subIn K (.ref Zw) (.type "ValueError")=some true
 xn_NoWord_at:W.findIn K (.ref Zw) "at"=some none
 xo_NoCut:aQX K Zr [.type "ValueError",.type "Exception",.type "BaseException",.type "object"] "ValueError.__new__"=true
 xk_NoCut:W.keepIn K (.ref Zr)=true
 xx_NoCut:ExK K Zr
 xs_NoCut:W.findIn K (.ref Zr) "__setattr__"=some (some (.builtin "object.__setattr__"))
 xr_NoCut:cX8 K Zr Zz=true
 xv_NoCut:W.subIn K (.ref Zr) (.type "ValueError")=some true
 xn_NoCut_terms:W.findIn K (.ref Zr) "terms"=some none
 cl1_Tower:W.plainGet K Z0 Str.empty=true
 cl2_Tower:W.hasDictIn K Z0=true
 cl3_Tower:W.plainOver K Z0=true
 cl4_Tower:W.findIn K (.ref Z0) "__setattr__"=some (some (.builtin "object.__setattr__"))
 mk1_Tower:W.makesIn K Z0=true
 mk2_Tower:W.keepIn K (.ref Z0)=true
 na_Tower_book:W.findIn K (.ref Z0) "book"=some none
 na_Tower_many:W.findIn K (.ref Z0) "many"=some none
 na_Tower_stock_at_first:W.findIn K (.ref Z0) "stock_at_first"=some none
 na_Tower_stock:W.findIn K (.ref Z0) "stock"=some none
 na_Tower_hung:W.findIn K (.ref Z0) "hung"=some none
 na_Tower_deeds:W.findIn K (.ref Z0) "deeds"=some none
structure Gs (K:W.Frag) (mg:Str->Option Value) (w:World) (Zo Zz Zq Zx Z0 Zt Zy Zw Zu Zv Zr Zs Zp:Addr):Prop extends KFs K Zo Zz Zq Zx Z0 Zt Zy Zw Zu Zv Zr Zs Zp where
 c_Lack:mg "Lack"=some (.ref Zo)
 c_TowerError:mg "TowerError"=some (.ref Zz)
 c_Short:mg "Short"=some (.ref Zq)
 c_NoHoist:mg "NoHoist"=some (.ref Zx)
 c_Tower:mg "Tower"=some (.ref Z0)
 c_NoDeed:mg "NoDeed"=some (.ref Zt)
 c_NoHalyard:mg "NoHalyard"=some (.ref Zy)
 c_NoWord:mg "NoWord"=some (.ref Zw)
 c_NoFlag:mg "NoFlag"=some (.ref Zu)
 c_NoText:mg "NoText"=some (.ref Zv)
 c_NoCut:mg "NoCut"=some (.ref Zr)
 c_NoBook:mg "NoBook"=some (.ref Zs)
 c_NoRow:mg "NoRow"=some (.ref Zp)
 d_THINGS_IN:fJV w K mg "THINGS_IN" [("haul",3),("lower",2),("lose",2),("find",2),("say",2)]
 b_range:mg "range"=none
 b_enumerate:mg "enumerate"=none
 b_sum:mg "sum"=none
 b_len:mg "len"=none
 b_list:mg "list"=none
 b_int:mg "int"=none
 b_all:mg "all"=none
 b_min:mg "min"=none
 b_max:mg "max"=none
 b_zip:mg "zip"=none
 b_isinstance:mg "isinstance"=none
 b_ValueError:mg "ValueError"=none
 s_FLAGS:∃t,mg "FLAGS"=some (.str "abcdefghijklmnopqrstuvw1234" t)
 s_SUBSTITUTES:∃t,mg "SUBSTITUTES"=some (.str "1234" t)
 s_LETTERS:∃t,mg "LETTERS"=some (.str "abcdefghijklmnopqrstuvw" t)
 s_LONGEST_TERM:∃t,mg "LONGEST_TERM"=some (.int 10 t)
 s_TERM_LETTERS:∃t,mg "TERM_LETTERS"=some (.str "abcdefghijklmnopqrstuvwxyz" t)
 s_MOST_TERMS:∃t,mg "MOST_TERMS"=some (.int 40 t)
 s_MOST_PLACES:∃t,mg "MOST_PLACES"=some (.int 7 t)
 s_MOST_OF_A_FLAG:∃t,mg "MOST_OF_A_FLAG"=some (.int 99 t)
def Gs.xc_Lack{w:World}(G:Gs K mg w Zo Zz Zq Zx Z0 Zt Zy Zw Zu Zv Zr Zs Zp):XcK K Zo Zz:=⟨G.xx_Lack,G.xs_Lack,uG G.xr_Lack,G.xv_Lack⟩
def Gs.xm_Lack{w:World}(G:Gs K mg w Zo Zz Zq Zx Z0 Zt Zy Zw Zu Zv Zr Zs Zp):XmK K Zo:=⟨G.xo_Lack,G.xk_Lack⟩
def Gs.xc_Short{w:World}(G:Gs K mg w Zo Zz Zq Zx Z0 Zt Zy Zw Zu Zv Zr Zs Zp):XcK K Zq Zz:=⟨G.xx_Short,G.xs_Short,uG G.xr_Short,G.xv_Short⟩
def Gs.xm_Short{w:World}(G:Gs K mg w Zo Zz Zq Zx Z0 Zt Zy Zw Zu Zv Zr Zs Zp):XmK K Zq:=⟨G.xo_Short,G.xk_Short⟩
def Gs.xc_NoWord{w:World}(G:Gs K mg w Zo Zz Zq Zx Z0 Zt Zy Zw Zu Zv Zr Zs Zp):XcK K Zw Zz:=⟨G.xx_NoWord,G.xs_NoWord,uG G.xr_NoWord,G.xv_NoWord⟩
def Gs.xm_NoWord{w:World}(G:Gs K mg w Zo Zz Zq Zx Z0 Zt Zy Zw Zu Zv Zr Zs Zp):XmK K Zw:=⟨G.xo_NoWord,G.xk_NoWord⟩
def Gs.xc_NoCut{w:World}(G:Gs K mg w Zo Zz Zq Zx Z0 Zt Zy Zw Zu Zv Zr Zs Zp):XcK K Zr Zz:=⟨G.xx_NoCut,G.xs_NoCut,uG G.xr_NoCut,G.xv_NoCut⟩
def Gs.xm_NoCut{w:World}(G:Gs K mg w Zo Zz Zq Zx Z0 Zt Zy Zw Zu Zv Zr Zs Zp):XmK K Zr:=⟨G.xo_NoCut,G.xk_NoCut⟩
def Gs.cl_Tower{w:World}(G:Gs K mg w Zo Zz Zq Zx Z0 Zt Zy Zw Zu Zv Zr Zs Zp):Cls K Z0:=⟨G.cl1_Tower,G.cl2_Tower,G.cl3_Tower,G.cl4_Tower⟩
abbrev lettersT:Str := "abcdefghijklmnopqrstuvw"
abbrev subsT:Str := "1234"
abbrev flagsT:Str := "abcdefghijklmnopqrstuvw1234"
abbrev one(c:Nat):Str:=⟨#[c]⟩
def bXD:subsT.cps.toList=[49,50,51,52]:=by decide
def aJ3:flagsT.cps.toList=lettersT.cps.toList++subsT.cps.toList:=by decide
def bA(c:Nat):Prop:=97<=c/\c<=119
def eE(c:Nat):Prop:=49<=c/\c<=52
instance (c:Nat):Decidable (bA c):=inferInstanceAs (Decidable (_/\_))
instance (c:Nat):Decidable (eE c):=inferInstanceAs (Decidable (_/\_))
def mem_letters{c:Nat}:c∈lettersT.cps.toList ↔ bA c:=by
 have h1:∀c∈lettersT.cps.toList,bA c:=by decide +kernel
 have h2:∀k:_root_.Fin 23,97+k.val∈lettersT.cps.toList:=by decide +kernel
 refine⟨h1 c,λh=>?_⟩;have e:=h2 ⟨c-97,by have:=h.1;have:=h.2;omega⟩
 rwa [show 97+(c-97)=c by have:=h.1;omega]at e
def mem_subs{c:Nat}:c∈subsT.cps.toList ↔ eE c:=by
 have h1:∀c∈subsT.cps.toList,eE c:=by decide +kernel
 have h2:∀k:_root_.Fin 4,49+k.val∈subsT.cps.toList:=by decide +kernel
 refine⟨h1 c,λh=>?_⟩;have e:=h2 ⟨c-49,by have:=h.1;have:=h.2;omega⟩
 rwa [show 49+(c-49)=c by have:=h.1;omega]at e
def mem_flags{c:Nat}:c∈flagsT.cps.toList ↔ bA c\/eE c:=by
 rw[aJ3,Bp,mem_letters,mem_subs]
def lF{c:Nat}(h:bA c):¬eE c:=λz=>by unfold bA at h;unfold eE at z;omega
def uU(c:Nat):subIn (one c) subsT=decide (eE c):=by
 rw[mX];exact Dy.mpr mem_subs
def dS(z:Str):z.cps.toList.length=z.length:=by simp[Str.length]
def vY(h:z.length=1):∃c,z=one c:=by
 obtain⟨⟨l⟩⟩:=z
 match l,h with
 |[c],_=>exact⟨c,rfl⟩
def dO(z:Str):Bool:=if z.length=1 then subIn z flagsT else false
def tJ(h:z.length≠1):dO z=false:=if_neg h
def pF{c:Nat}:dO (one c)=decide (bA c\/eE c):=by
 unfold dO;rw[if_pos (by rfl),mX]
 exact Dy.mpr mem_flags
def cQ1(h:dO z=true):∃c,z=one c/\(bA c\/eE c):=by
 by_cases h1:z.length=1
 ·obtain⟨c,rfl⟩:=vY h1;rw[pF]at h;exact⟨c,rfl,Az h⟩
 ·rw[tJ h1]at h;cases h
def lZ(c:Nat)(p:Int):Prop:=bA c\/(eE c/\(c:Int)-48<p)
instance (c:Nat) (p:Int):Decidable (lZ c p):=inferInstanceAs (Decidable (_\/_))
def dJ(z:Str)(p:Int):Bool:=if z.length=1 then decide (lZ (z.cps.toList.headD 0) p) else false
def pR{c:Nat}{p:Int}:dJ (one c) p=decide (lZ c p):=rfl
def yI{p:Int}(h:dJ z p=true):∃c,z=one c/\lZ c p:=by
 by_cases h1:z.length=1
 ·obtain⟨c,rfl⟩:=vY h1;exact⟨c,rfl,Az h⟩
 ·unfold dJ at h;rw[if_neg h1]at h;cases h
def dF(zs:List Str):Bool:=if zs.length<1\/7<zs.length then false else (List.range zs.length).all λi=>dJ (zs.getD i ⟨#[]⟩) ((1+i:Nat):Int)
def fJ(h:dF zs=true):1<=zs.length/\zs.length<=7:=by
 unfold dF at h;split at h
 ·cases h
 ·omega
def cZY(h:dF zs=true)(hi:i<zs.length):dJ (zs.getD i ⟨#[]⟩) ((1+i:Nat):Int)=true:=by
 unfold dF at h;split at h
 ·cases h
 ·exact Bv.mp h i (By.mpr hi)
def stp(w:List Nat)(c:Nat):Nat:=if eE c then w.getD (c-49) 0 else c
def rdC(fs:List Nat):List Nat:=fs.foldl (λw c=>w++[stp w c]) []
def dXZ(fs:List Nat)(c:Nat):rdC (fs++[c])=rdC fs++[stp (rdC fs) c]:=by
 unfold rdC;rw[List.foldl_append];rfl
def xO{c:Nat}(h:fs[i]?=some c):rdC (fs.take (i+1))=rdC (fs.take i)++[stp (rdC (fs.take i)) c]:=by
 rw[Bh,h];exact dXZ _ _
def aQQ:∀fs:List Nat,(rdC fs).length=fs.length:=by
 intro fs;have h:∀i,i<=fs.length->(rdC (fs.take i)).length=i:=by
  intro i;induction i with
  |zero=>intro _;rfl
  |succ i ih=>
   intro hi;rw[xO (Aa (by omega)),Af,ih (by omega)]
   rfl
 have q:=h fs.length (Ai _)
 rwa [Cg]at q
def pZ(h:i<=fs.length):(rdC (fs.take i)).length=i:=by
 rw[aQQ,Bt];omega
def aU(cs:List Nat):Str:=⟨cs.toArray⟩
def cC(cs:List Nat):(aU cs).length=cs.length:=by show cs.toArray.size=_;simp
def bV(cs:List Nat):(aU cs).cps.toList=cs:=rfl
def gR(cs:List Nat)(c:Nat):aU cs++one c=aU (cs++[c]):=FlT.str_ext (by rw[FlT.app_cps];rfl)
def dQU{a b:List Nat}(h:aU a=aU b):a=b:=Ds (λz:Str=>z.cps.toList) h
def lL(z:Str):Nat:=z.cps.toList.headD 0
def cQF(cs:List Nat):(cs.map one).map lL=cs:=by
 rw[Ca];exact List.map_id cs
def uT(h:dF zs=true)(hz:zs[i]?=some z):∃c,z=one c/\(zs.map lL)[i]?=some c/\(bA c\/(eE c/\c-49<i)):=by
 have hi:i<zs.length:=(Ac.mp hz).1
 have q:=cZY h hi
 rw[Ad,hz]at q;obtain⟨c,e,st⟩:=yI q;have e':z=one c:=e
 refine⟨c,e',by rw[Ag,hz,e'];rfl,?_⟩
 rcases st with l|⟨s,l⟩
 ·exact .inl l
 ·refine .inr ⟨s,?_⟩;unfold eE at s;omega
def oE(zs:List Str):Str:=aU (rdC (zs.map lL))
def eQ0(z:Str):Bool:=z.cps.toList.all λc=>decide (c∈lettersT.cps.toList)
def fM(z:Str):Bool:=if z.length<1\/7<z.length then false else eQ0 z
def iO(f:α->β):∀l:List α,l.filterMap (λx=>some (f x))=l.map f
 |[]=>rfl
 |x::r=>by rw[Ci (f:=λx=>some (f x)) (b:=f x) rfl,Aw,iO f r]
def jL{f g:α->Option β}:∀ {l:List α},(∀x∈l,f x=g x)->l.filterMap f=l.filterMap g
 |[],_=>rfl
 |x::r,h=>by rw[Fb,Fb,h x Aj,jL λy hy=>h y (Ak _ hy)]
def one_inj{a b:Nat}:one a=one b ↔ a=b:=⟨λh=>by injection h with h;injection h with h;injection h,λh=>by rw[h]⟩
def bZK(a b:Nat):decide (one a=one b)=decide (a=b):=Dy.mpr one_inj
def eQE(h:k<cw.length):atI (aU cw).cps.toList ((k:Nat):Int)=some (cw.getD k 0):=by
 refine bB ?_;rw[bV,Ad,Aa h];rfl
def bJV(h:k<23):atI lettersT.cps.toList ((k:Nat):Int)=some (97+k):=by
 refine bB ?_;have q:∀k:_root_.Fin 23,lettersT.cps.toList[k.val]?=some (97+k.val):=by decide +kernel
 exact q ⟨k,h⟩
def cZI{k:Int}(h:0<=k):jP xs none (some k)=xs.take k.toNat:=by
 unfold jP;show (xs.drop 0).take ((if k<0 then (k+(xs.length:Int)).toNat else min k.toNat xs.length)-0)=_
 rw[if_neg (by omega),List.drop_zero,Nat.sub_zero]
 by_cases hk:k.toNat<=xs.length
 ·rw[Ez hk]
 ·rw[Eo (by omega),Be (Ai _),Be (by omega)]
def cQM(cs:List Nat):Txt.join (Str.ofString "") (cs.map one)=aU cs:=by
 refine FlT.str_ext ?_;rw[show Str.ofString ""=⟨#[]⟩ from rfl,FlT.join_cps,bV];induction cs with
 |nil=>rfl
 |cons c r ih=>rw[Aw,Aw,Ct,ih];rfl
def cX6(cs:List Nat):((cs.map one).map (·.length)).sum=cs.length:=by
 induction cs with
 |nil=>rfl
 |cons m r ih=>rw[Aw,Aw,Fm,ih,Ba];show 1+r.length=_;omega
def dQ8(cs:List Nat):∀z∈cs.map one,z.length<=1000:=λz hz=>by
 obtain⟨c,_,rfl⟩:=Bd.mp hz;show 1<=1000
 decide
def aQ7{ns:List Int}{i:Int}(h0:0<=i)(h:i<ns.length):∃n,n∈ns/\atI (ns.map V.int) i=some (.int n):=by
 obtain⟨v,h1,h2⟩:=dQK (xs:=ns.map V.int) (i:=i) h0 (by rw[Ab];exact h)
 rw[Ag,Aa (by omega)]at h2
 cases h2;exact⟨_,Bk _,h1⟩
def bZ9{ss:List Str}{i:Int}(h0:0<=i)(h:i<ss.length):∃n,n∈ss/\atI (ss.map V.str) i=some (.str n)/\ss[i.toNat]?=some n:=by
 obtain⟨v,h1,h2⟩:=dQK (xs:=ss.map V.str) (i:=i) h0 (by rw[Ab];exact h)
 rw[Ag,Aa (by omega)]at h2
 cases h2;exact⟨_,Bk _,h1,Aa (by omega)⟩
def bXQ{ns:List Int}(h:(ns.map V.int)[j]?=some x):∃n,n∈ns/\x=V.int n:=by
 obtain⟨n,hn,e⟩:=Bd.mp (Ao h);exact⟨n,hn,e.symm⟩
def gX{ns:List Str}(h:(ns.map V.str)[j]?=some x):∃n,ns[j]?=some n/\x=V.str n:=by
 rw[Ag]at h;cases e:ns[j]? with
 |none=>rw[e]at h;cases h
 |some n=>rw[e]at h;cases h;exact⟨n,rfl,rfl⟩
def uC{c:Nat}(h:eE c):PySem.intText? (one c)=some ((c:Int)-48):=by
 unfold eE at h;have:c=49\/c=50\/c=51\/c=52:=by omega
 rcases this with rfl|rfl|rfl|rfl<;>decide +kernel
def cY(zs:List Str):(zs.map V.str).all cB=true:=by
 rw[Bv];intro x hx;obtain⟨z,_,rfl⟩:=Bd.mp hx;rfl
def dQS(h1:1<=fs.length)(h7:fs.length<=7)(h:∀k,k<fs.length->lZ (fs.getD k 0) ((1+k:Nat):Int)):dF (fs.map one)=true:=by
 unfold dF;rw[Ab,if_neg (by omega),Bv]
 intro i hi;have hi':=By.mp hi
 rw[Ad,Ag,Aa hi'];have q:=h i hi'
 rw[Ad,Aa hi']at q;exact Ap q
def chF(cw:List Nat)(k n:Nat):Option Nat:=if cw.getD n 0=cw.getD k 0 then some (49+n) else none
def chs(cw:List Nat)(k:Nat):List Nat:=cw.getD k 0::(List.range (min k 4)).filterMap (chF cw k)
def ch_iff{c:Nat}:c∈chs cw k ↔ c=cw.getD k 0\/∃n,n<k/\n<4/\cw.getD n 0=cw.getD k 0/\c=49+n:=by
 unfold chs;rw[Bb,Dg];constructor
 ·rintro(h|⟨n,hn,h⟩)
  ·exact .inl h
  ·have:=By.mp hn
   unfold chF at h;split at h
   ·cases h;exact .inr ⟨n,by omega,by omega,by assumption,rfl⟩
   ·cases h
 ·rintro(h|⟨n,h1,h2,h3,rfl⟩)
  ·exact .inl h
  ·exact .inr ⟨n,By.mpr (by omega),if_pos h3⟩
def dZL(cw:List Nat)(k:Nat):1<=(chs cw k).length/\(chs cw k).length<=5:=by
 unfold chs;have:=Cv (chF cw k) (List.range (min k 4))
 rw[Ce]at this;rw[Ba];omega
def cJF{c:Nat}(hL:bA (cw.getD k 0))(h:c∈chs cw k):lZ c ((1+k:Nat):Int):=by
 rcases ch_iff.mp h with rfl|⟨n,h1,h2,_,rfl⟩
 ·exact .inl hL
 ·exact .inr ⟨⟨by omega,by omega⟩,by omega⟩
def mL(hL:∀d∈cw,bA d)(hk:k<cw.length):bA (cw.getD k 0):=by
 rw[Ad,Aa hk];exact hL _ (Bk hk)
def dXH(hL:∀d∈cw,bA d)(h1:1<=fs.length)(h7:fs.length<=7)(hl:fs.length<=cw.length)(h:∀k,k<fs.length->fs.getD k 0∈chs cw k):dF (fs.map one)=true:=
 dQS h1 h7 λk hk=>cJF (mL hL (by omega)) (h k hk)
def eQY(hL:∀d∈cw,bA d)(h1:1<=cw.length)(h7:cw.length<=7):fM (aU cw)=true:=by
 unfold fM eQ0;rw[cC,if_neg (by omega),Bv]
 exact λc hc=>Ap (mem_letters.mpr (hL c hc))
def dJ8{c:Nat}(h:bA c):Builtin.Str.occurrences lettersT (one c) 0 lettersT.length 1=[c-97]:=by
 have q:∀k:_root_.Fin 23,Builtin.Str.occurrences lettersT (one (97+k.val)) 0 lettersT.length 1=[k.val]:=by decide +kernel
 unfold bA at h;have e:=q ⟨c-97,by omega⟩
 rwa [show 97+(c-97)=c by omega]at e
def jX(cs:List Nat)(n:Nat):Int:=((List.range n).map λi:Nat=>((1+i:Nat):Int)*((cs.getD i 0-97:Nat):Int)).sum
def jO(cs:List Nat)(n:Nat):jX cs (n+1)=jX cs n+((1+n:Nat):Int)*((cs.getD n 0-97:Nat):Int):=by
 unfold jX;rw[Cd,Am,List.sum_append];simp
def pI{cs ds:List Nat}:∀ {n:Nat},(∀i,i<n->cs.getD i 0=ds.getD i 0)->jX cs n=jX ds n
 |0,_=>rfl
 |n+1,h=>by rw[jO,jO,pI λi hi=>h i (by omega),h n (by omega)]
def aJQ{cs ds:List Nat}{k:Nat}:∀ {n:Nat},k<n->(∀i,i<n->i≠k->cs.getD i 0=ds.getD i 0)->
 jX ds n=jX cs n+((1+k:Nat):Int)*(((ds.getD k 0-97:Nat):Int)-((cs.getD k 0-97:Nat):Int))
 |0,h,_=>absurd h (Nat.not_lt_zero _)
 |n+1,h,hh=>by
  rw[jO,jO];by_cases e:k=n
  ·subst e;rw[pI (cs:=ds) (ds:=cs) λi hi=>(hh i (by omega) (by omega)).symm,Int.mul_sub]
   omega
  ·rw[aJQ (k:=k) (n:=n) (by omega) λi hi=>hh i (by omega),hh n (by omega) (λz=>e z.symm)]
   omega
def bJ6{x y:Int}(hk:k<7)(hx:0<=x/\x<23)(hy:0<=y/\y<23)(h:m%23=0):(m+((1+k:Nat):Int)*(y-x))%23=0 ↔ y=x:=by
 have q:∀k:_root_.Fin 7,∀x y:_root_.Fin 23,(((1+k.val:Nat):Int)*((y.val:Int)-(x.val:Int)))%23=0 ↔ y.val=x.val:=by decide +kernel
 obtain⟨a,rfl⟩:∃a:Nat,x=(a:Int):=⟨x.toNat,(Fc hx.1).symm⟩;obtain⟨b,rfl⟩:∃b:Nat,y=(b:Int):=⟨y.toNat,(Fc hy.1).symm⟩;rw[Int.add_emod,h,Int.zero_add,Int.emod_emod];exact(q ⟨k,hk⟩ ⟨a,Int.ofNat_lt.mp hx.2⟩ ⟨b,Int.ofNat_lt.mp hy.2⟩).trans Int.ofNat_inj.symm
def gL(cs:List Nat):Bool:=decide (jX cs cs.length%23=0)
def dQC(cs:List Nat):Bool:=decide (1<cs.length)&&gL cs
def wD(hk:k<cs.length):(cs.set k d).getD i 0=if i=k then d else cs.getD i 0:=by
 rw[Ad,List.getElem?_set,Ad];by_cases e:i=k
 ·subst e;rw[if_pos rfl,if_pos rfl,if_pos hk];rfl
 ·rw[if_neg (λz=>e z.symm),if_neg e]
def bJH(hL:∀d∈cs,bA d){c:Nat}(hc:bA c):∀d∈cs.set k c,bA d:=λd hd=>by
 rcases Gc hd with h|h
 ·exact hL d h
 ·rw[h];exact hc
def vS{cs:List Nat}{k d:Nat}(hk:k<cs.length):jX (cs.set k d) cs.length=jX cs cs.length+((1+k:Nat):Int)*(((d-97:Nat):Int)-((cs.getD k 0-97:Nat):Int)):=by
 have e:(cs.set k d).getD k 0=d:=by rw[wD hk,if_pos rfl]
 rw[aJQ (cs:=cs) (ds:=cs.set k d) (k:=k) hk (λi hi hn=>by rw[wD hk,if_neg hn]),e]
def dZK{cs:List Nat}(h7:cs.length<=7)(hL:∀d∈cs,bA d){k d:Nat}(hk:k<cs.length)(hd:bA d)(h:gL cs=true):gL (cs.set k d)=decide (d=cs.getD k 0):=by
 unfold gL at h ⊢;have hm:=Az h
 have hg:=mL hL hk
 unfold bA at hd hg;rw[Dc,vS hk];refine Dy.mpr ((bJ6 (by omega) ⟨by omega,by omega⟩ ⟨by omega,by omega⟩ hm).trans ?_)
 omega
def vZ{cs:List Nat}(h7:cs.length<=7){k:Nat}(hk:k<cs.length):∃d,bA d/\gL (cs.set k d)=true:=by
 have q:∀k:_root_.Fin 7,∀m:_root_.Fin 23,∃d:_root_.Fin 23,(m.val+(1+k.val)*d.val)%23=0:=by decide +kernel
 have hs:=vS (cs:=cs) (k:=k) (d:=97) hk
 have x0:=Bx (jX (cs.set k 97) cs.length) (show (23:Int)≠0 by decide)
 have x1:=Cb (jX (cs.set k 97) cs.length) (show (0:Int)<23 by decide)
 obtain⟨a,ha⟩:∃a:Nat,jX (cs.set k 97) cs.length%23=(a:Int):=⟨_,(Fc x0).symm⟩;obtain⟨d,hd⟩:=q ⟨k,Bf hk h7⟩ ⟨a,Int.ofNat_lt.mp (ha▸x1)⟩;refine⟨97+d.val,⟨Fg ..,Nat.add_le_add_left (Nat.le_of_lt_succ d.isLt) 97⟩,?_⟩;unfold gL;rw[Dc];have e2:=vS (cs:=cs) (k:=k) (d:=97+d.val) hk
 rw[Cz,Int.mul_sub]at e2;rw[Ek,Int.mul_sub]at hs;have e3:jX (cs.set k (97+d.val)) cs.length=jX (cs.set k 97) cs.length+(((1+k)*d.val:Nat):Int):=by
  rw[e2,hs,Int.natCast_mul,show ((0:Nat):Int)=0 from rfl,Int.mul_zero];generalize ((1+k:Nat):Int)*(d.val:Int)=P;generalize ((1+k:Nat):Int)*((cs.getD k 0-97:Nat):Int)=R;clear hs e2 ha hd x0 x1;omega
 refine Ap ?_;rw[e3,<-Int.emod_add_emod,ha];have hd':(a+(1+k)*d.val)%23=0:=hd
 generalize (1+k)*d.val=P at hd';clear hs e2 e3 ha hd x0 x1;omega
def cZV(hL:∀d∈cs,bA d):(aU cs).cps.all (· < 128)=true:=by
 rw[Array.all_eq_true];intro i hi;have h1:(aU cs).cps[i]∈cs:=by
  have:(aU cs).cps[i]∈(aU cs).cps:=Array.getElem_mem hi
  rw[<-Array.mem_toList_iff]at this;exact this
 have:=hL _ h1
 unfold bA at this;exact Ap (by omega)
def cQ6(c:Nat):Prop:=97<=c/\c<=122
def jS(t:List Nat):Prop:=1<=t.length/\t.length<=10/\∀c∈t,cQ6 c
abbrev tmsT:Str := "abcdefghijklmnopqrstuvwxyz"
def BkAt(H:Hp)(r:Addr)(bk:List (Str×Str)):Prop:=∃ps:List Addr,H r=some (.lst (ps.map V.ref))/\ps.length=bk.length/\∀(j:Nat) p b,ps[j]?=some p->bk[j]?=some b->H p=some (.tup [.str b.1,.str b.2])
def BkAt.keep(h:BkAt H r bk)(s:Same H H'):BkAt H' r bk:=by
 obtain⟨ps,h1,h2,h3⟩:=h;exact⟨ps,s _ _ h1,h2,λj p b hp hb=>s _ _ (h3 j p b hp hb)⟩
def eY(ts:List (List Nat)):Str:=Txt.join " " (ts.map aU)
def aQF:∀ts:List (List Nat),(∀t∈ts,jS t)->((ts.map aU).map (·.length)).sum<=10*ts.length
 |[],_=>Ai _
 |t::r,h=>by
  rw[Aw,Aw,Fm,Ba,cC];have h1:=(h t Aj).2.1
  have:=aQF r λx hx=>h x (Ak _ hx)
  omega
def bJ1{k:Int}(h:0<=k):jP xs (some k) none=xs.drop k.toNat:=by
 unfold jP;show (xs.drop (if k<0 then (k+(xs.length:Int)).toNat else min k.toNat xs.length)).take (xs.length-(if k<0 then (k+(xs.length:Int)).toNat else min k.toNat xs.length))=_
 rw[if_neg (by omega)]
 by_cases hk:k.toNat<=xs.length
 ·rw[Ez hk,Be (by rw[Cf];omega)]
 ·rw[Eo (by omega),Hb (by omega),Hb (by omega),List.take_nil]
def yZ(sep:Array Nat):∀(ys:List Str) (acc:Array Nat),(ys.foldl (λacc p=>acc++sep++p.cps) acc).toList=acc.toList++(ys.map λy=>sep.toList++y.cps.toList).flatten
 |[],acc=>by simp
 |y::r,acc=>by
  rw[List.foldl_cons,yZ sep r];simp
def cZB(sep y:Str)(r:List Str):(Txt.join sep (y::r)).cps.toList=y.cps.toList++(r.map λy=>sep.cps.toList++y.cps.toList).flatten:=by
 have e:=yZ sep.cps r y.cps
 rw[<-e];rfl
def aQW(K:W.Frag)(Pt:Addr):Sp:=λvs H Q _=>∃(a:Addr) (ns:List Int),vs=[.ref a]/\SqL K H a (ns.map V.int)/\ns.length<=63/\H Pt=some (.tbl #[])/\∀H',Q (.bl true) H'
def pK:Sp:=λvs H Q _=>∃z,vs=[.str z]/\z.length<=1000/\Q (.bl (dO z)) H
def qO:Sp:=λvs H Q _=>∃z p,vs=[.str z,.int p]/\z.length<=1000/\Q (.bl (dJ z p)) H
def sZ:Sp:=λvs H Q _=>∃a zs,vs=[.ref a]/\rdL H a=some (zs.map V.str)/\zs.length<=1000/\(∀z∈zs,z.length<=1000)/\∀H',Same H H'->Q (.bl (dF zs)) H'
def oK(aN:Addr):Sp:=λvs H Q E=>∃a zs,vs=[.ref a]/\rdL H a=some (zs.map V.str)/\zs.length<=1000/\(∀z∈zs,z.length<=1000)/\(dF zs=true->∀H',Same H H'->Q (.str (oE zs)) H')/\(dF zs=false->∀H',Same H H'->E (.ref aN) none H')
def aQ0{j:Int}(e:j=(k:Int))(h:k<cw.length):atI (aU cw).cps.toList j=some (cw.getD k 0):=by
 rw[e];exact eQE h
def cK{i:Int}(e:H p=some (.tup xs))(e':atI xs i=some v)(h:Q v H):mIx (.ref p) (.int i) H Q:=by
 have e1:rdL H p=none:=by unfold rdL;rw[e];rfl
 unfold mIx;simp only[e1,cN e,e'];exact h
section
variable {P:Program} {w:World} {base:Heap}
def oI(aC:Addr):Sp:=λvs H Q _=>∃ea v,vs=[.ref ea,v]/\H ea=some (dY ea aC none)/\∀dx,H dx=none->Q .non (upd (upd H ea (dY ea aC (some dx))) dx (xdO dx [("flag",v)]))
def xU:FnScope ["self", "flag"] ["self", "flag"] (aK kO):=by walk_at "sc"
variable(G:Gs K mg w Zo Zz Zq Zx Z0 Zt Zy Zw Zu Zv Zr Zs Zp)
def yG(F:Fun K "__init__" "Short.__init__" kO f fd):FnOk P w K mg base CX0 1 f fd ["self", "flag"] (oI Zq):=by
 refine F.ok xU (λvs H Q E h=>?_) (λcdv A outer s H vs Q E hr h=>?_)
 ·obtain⟨ea,v,rfl,_⟩:=h;rfl
 obtain⟨ea,v,rfl,he,q⟩:=h;refine⟨_,(@aE _ _ _ _ _ (cH (qG rfl G.c_TowerError G.t1_TowerError G.t2_TowerError G.t3_TowerError (aA (mv 0) (aA (mv 1) aB)))) (@aI _ _ _ (pX (mv 0) (mv 1) rfl))),?_⟩;walk_at "g";refine⟨ea,[v],Zq,Zz,none,rfl,by show 1<=sizeLine;decide,he,(λ_ z=>nomatch z),G.xc_Short,?_⟩
 walk_at "g";exact⟨ea,Zq,Zz,rfl,G.xc_Short,G.xn_Short_flag,.inl ⟨he,q⟩⟩
def xJ{H1:Hp}{o o' o'':HO}(s:Same H H1)(h1:H1 ea=none)(h2:upd H1 ea o dx=none):Same H (del (upd (upd (upd H1 ea o) ea o') dx o'') ea):=λb u e=>by
 have e1:=s b u e
 have n1:b≠ea:=bM e1 h1
 have n3:dx≠ea:=λz=>by rw[z,aH]at h2;cases h2
 have n2:b≠dx:=λz=>by rw[<-z,aM n1,e1]at h2;cases h2
 rw[fO n1,aM n2,aM n1,aM n1];exact e1
def rG{H1:Hp}{o o' o'':HO}(h2:upd H1 ea o dx=none):upd (upd (upd H1 ea o) ea o') dx o'' ea=some o'/\del (upd (upd (upd H1 ea o) ea o') dx o'') ea dx=some o'':=by
 have n3:dx≠ea:=λz=>by rw[z,aH]at h2;cases h2
 exact⟨by rw[aM n3.symm,aH],by rw[fO n3,aH]⟩
structure Lk (kvs:List (Key×V)) (f:Nat->Option Int):Prop where
 nd:(kvs.map (·.1)).Nodup
 ks:∀kv∈kvs,∃(c:Nat) (n:Int),kv=(Sum.inr (one c),V.int n)
 val:∀c,cR kvs (Sum.inr (one c))=(f c).map V.int
def Lk.nil:Lk [] (λ_=>none):=⟨List.nodup_nil,(λkv h=>nomatch h),λc=>rfl⟩
def key_one{a b:Nat}:((Sum.inr (one a):Key)=Sum.inr (one b)) ↔ a=b:=⟨λh=>one_inj.mp (Sum.inr.inj h),λh=>by rw[h]⟩
def bJN:∀ {l:List α} {k:α},l.Nodup->¬k∈l->(l++[k]).Nodup
 |[],k,_,_=>by simp
 |a::r,k,h,hk=>by
  obtain⟨h1,h2⟩:=Cy.mp h;refine Cy.mpr ⟨λm=>?_,bJN h2 λm=>hk (Ak _ m)⟩;rcases Bp.mp m with q|q
  ·exact h1 q
  ·exact hk (by rw[Al.mp q];exact Aj ..)
def dJS{k:Key}(h:cR kvs k=none):¬k∈kvs.map (·.1):=λm=>by
 obtain⟨p,hp,e⟩:=Bd.mp m;have q:(kvs.any λkv=>decide (kv.1=k))=true:=Hk.mpr ⟨p,hp,Ap e⟩
 rw[eZ,h]at q;cases q
def bQC(kvs:List (Key×V))(k:Key)(v:V)(h:cR kvs k≠none):(eV kvs k v).map (·.1)=kvs.map (·.1):=by
 unfold eV;have e:(kvs.any λkv=>decide (kv.1=k))=true:=by
  rw[eZ];cases q:cR kvs k with
  |none=>exact absurd q h
  |some _=>rfl
 rw[if_pos e,Ca];refine Fd λkv _=>?_;show (if kv.1=k then (kv.1,v) else kv).1=kv.1
 split<;>rfl
def Lk.put{f:Nat->Option Int}(h:Lk kvs f)(c:Nat)(n:Int):Lk (eV kvs (Sum.inr (one c)) (.int n)) (λd=>if d=c then some n else f d) where
 nd:=by
  cases e:cR kvs (Sum.inr (one c)) with
  |none=>rw[lQ _ e,Am];exact bJN h.nd (dJS e)
  |some v=>rw[bQC _ _ _ (by rw[e];exact λz=>nomatch z)];exact h.nd
 ks:=λkv hkv=>by
  unfold eV at hkv;split at hkv
  ·obtain⟨kv',h',e⟩:=Bd.mp hkv;obtain⟨c',n',e'⟩:=h.ks kv' h';subst e';dsimp only at e;split at e
   ·exact⟨c',n,e.symm⟩
   ·exact⟨c',n',e.symm⟩
  ·rcases Bp.mp hkv with q|q
   ·exact h.ks kv q
   ·exact⟨c,n,Al.mp q⟩
 val:=λd=>by
  rw[dXP];by_cases e:d=c
  ·rw[if_pos (key_one.mpr e),if_pos e];rfl
  ·rw[if_neg (λz=>e (key_one.mp z)),if_neg e];exact h.val d
def dQH(nd:(kvs.map (·.1)).Nodup){kv:Key×V}(h:kv∈kvs):cR kvs kv.1=some kv.2:=by
 induction kvs with
 |nil=>cases h
 |cons p r ih=>
  obtain⟨n1,n2⟩:=Cy.mp nd;rcases Bb.mp h with e|e
  ·subst e;exact cT rfl
  ·rw[cO λz=>n1 (by show p.1∈_;rw[z];exact Bd.mpr ⟨kv,e,rfl⟩)]
   exact ih n2 e
def aQ9[DecidableEq α]:∀ {l m:List α},l.Nodup->(∀x∈l,x∈m)->l.length<=m.length
 |[],m,_,_=>Da _
 |a::r,m,h,s=>by
  obtain⟨h1,h2⟩:=Cy.mp h;have q:=aQ9 (l:=r) (m:=m.erase a) h2 λx hx=>(List.mem_erase_of_ne λz=>h1 (by rw[<-z];exact hx)).mpr (s x (Ak _ hx))
  have ha:=s a (Aj ..)
  rw[List.length_erase_of_mem ha]at q;have:=List.length_pos_of_mem ha
  rw[Ba];omega
def Lk.at_mem{f:Nat->Option Int}(h:Lk kvs f){kv:Key×V}(hkv:kv∈kvs):∃c n,kv=(Sum.inr (one c),V.int n)/\f c=some n:=by
 obtain⟨c,n,e⟩:=h.ks kv hkv;have v:=dQH h.nd hkv
 rw[e]at v;have v2:=h.val c
 rw[v2]at v;cases q:f c with
 |none=>rw[q]at v;cases v
 |some m=>rw[q]at v;cases v;exact⟨c,_,e,q⟩
def Lk.keys{kws:List (Key×V)}{f:Nat->Option Int}(h:Lk kvs f)(h':Lk kws f):∀x∈kvs.map (·.1),x∈kws.map (·.1):=λx hx=>by
 obtain⟨kv,hkv,rfl⟩:=Bd.mp hx;obtain⟨c,n,rfl,hf⟩:=h.at_mem hkv;have v:=h'.val c
 rw[hf]at v;have q:(kws.any λkv=>decide (kv.1=Sum.inr (one c)))=true:=by rw[eZ,v];rfl
 obtain⟨p,hp,e⟩:=Hk.mp q;exact Bd.mpr ⟨p,hp,Az e⟩
def Lk.deq{kws:List (Key×V)}{f:Nat->Option Int}(h:Lk kvs f)(h':Lk kws f):DEq kvs kws:=by
 refine⟨?_,λkv hkv=>?_⟩
 ·have a:=aQ9 h.nd (h.keys h')
  have b:=aQ9 h'.nd (h'.keys h)
  rw[Ab,Ab]at a b;omega
 ·obtain⟨c,n,rfl,hf⟩:=h.at_mem hkv;exact⟨rfl,by rw[h'.val c,hf];rfl⟩
def bE(f:Nat->Option Int)(c:Nat):Int:=(f c).getD 0
def rK(c:Nat):Prop:=bA c\/eE c
instance (c:Nat):Decidable (rK c):=inferInstanceAs (Decidable (_\/_))
def cI(n:Nat->Int)(c:Nat):Option Int:=if rK c/\0<n c then some (n c) else none
def pQ{m n:Nat->Int}(h:∀c,rK c->m c=n c):cI m=cI n:=by
 funext c
 unfold cI;by_cases q:rK c
 ·rw[h c q]
 ·rw[if_neg λz=>q z.1,if_neg λz=>q z.1]
def sG{n:Nat->Int}{c:Nat}(hc:rK c)(h:0<=n c):bE (cI n) c=n c:=by
 unfold bE cI;by_cases q:0<n c
 ·rw[if_pos ⟨hc,q⟩];rfl
 ·rw[if_neg λz=>q z.2];show (0:Int)=n c;omega
def Lk.ext{f g:Nat->Option Int}(h:Lk kvs f)(e:f=g):Lk kvs g:=e▸h
def uH(f:Nat->Option Int)(c:Nat):((f c).map V.int).getD (.int 0)=.int (bE f c):=by
 unfold bE;cases f c<;>rfl
def flags_mem{c:Nat}:c∈flagsT.cps.toList ↔ rK c:=mem_flags
def fX5(n:Nat->Int)(i c:Nat):Option Int:=if c∈flagsT.cps.toList.take i/\0<n c then some (n c) else none
def fXI(n:Nat->Int):fX5 n 0=λ_=>none:=by
 funext c
 unfold fX5;rw[He];exact if_neg λz=>nomatch z.1
def kvL(g:Nat->Int)(L:List Nat):List (Key×V):=L.map λc=>(Sum.inr (one c),V.int (g c))
def bT(n:Nat->Int)(i:Nat):List Nat:=(flagsT.cps.toList.take i).filter λc=>decide (0<n c)
def aZ4{g:Nat->Int}{L:List Nat}{c:Nat}(h:c∉L):cR (kvL g L) (Sum.inr (one c))=none:=by
 induction L with
 |nil=>rfl
 |cons d r ih=>
  show cR ((Sum.inr (one d),V.int (g d))::kvL g r) _=none
  rw[cO (λz=>h (by rw[key_one.mp z];exact Aj)),ih λz=>h (Ak _ z)]
def flags_nd:flagsT.cps.toList.Nodup:=by decide +kernel
def plainL_mem{n:Nat->Int}{c:Nat}:c∈bT n i ↔ c∈flagsT.cps.toList.take i/\0<n c:=by
 unfold bT;rw[Eu,Ck]
def bQV{n:Nat->Int}{c:Nat}(h:flagsT.cps.toList[i]?=some c):c∉bT n i:=λz=>by
 have m:=(plainL_mem.mp z).1
 obtain⟨j,hj,e⟩:=Bu.mp m;rw[Bt]at hj;rw[List.getElem_take]at e;obtain⟨hi,e2⟩:=Ac.mp h;have:=(Fy flags_nd).mp (e.trans e2.symm)
 omega
def bX9{n:Nat->Int}{c:Nat}(h:flagsT.cps.toList[i]?=some c)(p:0<n c):bT n (i+1)=bT n i++[c]:=by
 unfold bT;rw[Bh,h,Gk];show _++[c].filter _=_
 rw[show [c].filter (λc=>decide (0<n c))=[c] by simp[p]]
def bZJ{n:Nat->Int}{c:Nat}(h:flagsT.cps.toList[i]?=some c)(p:¬0<n c):bT n (i+1)=bT n i:=by
 unfold bT;rw[Bh,h,Gk];show _++[c].filter _=_
 rw[show [c].filter (λc=>decide (0<n c))=[] by simp;omega,List.append_nil]
def kB(n:Nat->Int)(i:Nat):(bT n i).length<=27:=by
 unfold bT;exact Bi (List.length_filter_le ..) (by rw[Bt];exact Bi (Nat.min_le_right ..) (by decide))
def cQQ(n:Nat->Int)(i:Nat):(bT n i).Nodup:=(flags_nd.sublist (Gv ..)).filter _
def cQR(g:Nat->Int)(L:List Nat)(d:Nat):Option Int:=if d∈L then some (g d) else none
def cZ7(g:Nat->Int){r:List Nat}{c:Nat}(hc:c∉r)(h:Lk (kvL g r) (cQR g r)):Lk (kvL g (r++[c])) (cQR g (r++[c])):=by
 have l:=h.put c (g c)
 rw[lQ _ (aZ4 hc)]at l;have e:kvL g (r++[c])=kvL g r++[(Sum.inr (one c),V.int (g c))]:=by unfold kvL;rw[Am];rfl
 rw[e];refine l.ext ?_;funext d
 unfold cQR;by_cases hd:d=c
 ·subst hd;rw[if_pos rfl,if_pos (Bc _ (Al.mpr rfl))]
 ·rw[if_neg hd];by_cases hr:d∈r
  ·rw[if_pos hr,if_pos (Co _ hr)]
  ·rw[if_neg hr,if_neg (λz=>(Bp.mp z).elim hr λy=>hd (Al.mp y))]
def bJO(g:Nat->Int):∀(L r:List Nat),(r++L).Nodup->Lk (kvL g r) (cQR g r)->Lk (kvL g (r++L)) (cQR g (r++L))
 |[],r,_,h=>by rw[Bj];exact h
 |c::L,r,nd,h=>by
  have e:r++c::L=(r++[c])++L:=by rw[Gw];rfl
  have hc:c∉r:=λz=>(Hf.mp nd).2.2 c z c Aj rfl
  rw[e]at nd ⊢;exact bJO g L (r++[c]) nd (cZ7 g hc h)
def eZF(g:Nat->Int){L:List Nat}(nd:L.Nodup):Lk (kvL g L) (λd=>if d∈L then some (g d) else none):=by
 have r:=bJO g L [] nd (Lk.nil.ext (by funext d;unfold cQR;rw[if_neg (λz=>nomatch z)]))
 exact r
def dW(n:Nat->Int):Lk (kvL n (bT n 27)) (cI n):=by
 refine(eZF n (cQQ n 27)).ext ?_;funext d
 unfold cI;have e:d∈bT n 27 ↔ rK d/\0<n d:=by
  rw[plainL_mem,Be (by decide),flags_mem]
 by_cases h:d∈bT n 27
 ·rw[if_pos h,if_pos (e.mp h)]
 ·rw[if_neg h,if_neg (λz=>h (e.mpr z))]
def dC:Sp:=λvs H Q _=>∃(a:Addr) (kvs:List (Key×V)) (f:Nat->Option Int),vs=[.ref a]/\Rd H a (.dK kvs)/\Lk kvs f/\
 ∀(r:Addr) (H':Hp),H r=none->Same H H'->H' r=some (.dK (kvL (bE f) (bT (bE f) 27)))->Q (.ref r) H'
def l8:FnScope ["locker", "plain", "flag"] ["locker"] (aK hV):=by walk_at "sc"
def tS(F:Fun K "plain_locker" "plain_locker" hV f fd):FnOk P w K mg base CX0 1 f fd ["locker"] dC:=by
 refine F.ok l8 (λvs H Q E h=>?_) (λcdv A outer s H vs Q E hr h=>?_)
 ·obtain⟨a,kvs,f,rfl,_⟩:=h;rfl
 obtain⟨a,kvs,f,rfl,ha,lk,q⟩:=h;refine⟨_,(@aE _ _ _ _ _ (aP 1 l8.nd vM) (@aE _ _ _ _ _ (dA Bq rfl (kT (eO rfl G.s_FLAGS)) (bF (i:=2) l8.nd rfl (Or.inl rfl)) (@aI _ _ _ (bZ (bC bQS (iD Bw Do (aZK (Room.u1 hr)) (mv 0) (aA (mv 2) (aA aJ aB))) aJ (bD _)) (@aI _ _ _ (iM (Room.u1 hr) (mv 1) (mv 2) (kE (Room.u1 hr) (mv 0) (mv 2) (λ_ _=>rfl)) rfl)) bH))) (@aI _ _ _ (aV (mv 1))))),?_⟩;walk_at "g";intro p hp;walk_at "g";refine bQZ (λi σ H'=>∃(v:Option V),σ=[some (.ref a),some (.ref p),v]/\Same H H'/\H' p=some (.dK (kvL (bE f) (bT (bE f) i))))
  ⟨none,rfl,aG hp _,aH⟩ ?_ ?_
 ·rintro i c σ H2 hc ⟨v,rfl,s2,hH⟩;have hi:i<27:=(Ac.mp hc).1
  have ha2:Rd H2 a (.dK kvs):=ha.elim (λe=>.inl (s2 _ _ e)) λ⟨o,e⟩=>.inr ⟨o,s2 _ _ e⟩
  have hd2:isD H2 a=true:=ha2.elim rN λ⟨o,e⟩=>cZS e
  have hpl:(kvL (bE f) (bT (bE f) i)).length<sizeLine:=bL (by unfold kvL;rw[Ab];have:=kB (bE f) i;omega)
  walk_at "g";refine bJU (z:=one c) ha2 ?_;rw[lk.val c,uH];walk_at "g";refine dZ (λhd=>?_) (λhd=>?_)
  ·have hd':=Az hd
   obtain⟨n,hn⟩:∃n,f c=some n:=by
    cases e:f c with
    |none=>rw[show bE f c=0 by unfold bE;rw[e];rfl]at hd';omega
    |some n=>exact⟨n,rfl⟩
   have hcn:bE f c=n:=by unfold bE;rw[hn];rfl
   walk_at "g";refine aX9 (z:=one c) ha2 (by rw[lk.val c,hn];rfl) ?_
   walk_at "g";refine nF (z:=one c) hH hpl ?_;refine⟨_,rfl,bR hp s2,?_⟩;rw[aH,lQ _ (aZ4 (bQV hc)),bX9 hc (by omega)]
   unfold kvL;rw[Am,<-hcn];rfl
  ·have hd':=Bm (Bs.mpr hd)
   walk_at "g";exact⟨_,rfl,s2,by rw[hH,bZJ hc (by omega)]⟩
 ·rintro σ H2 ⟨v,rfl,s2,hH⟩;walk_at "g";exact q p H2 hp s2 hH
def cnt(cs:List Nat)(c:Nat):Int:=((cs.countP (· == c):Nat):Int)
def pY{c:Nat}(h:cs[i]?=some c)(d:Nat):cnt (cs.take (i+1)) d=cnt (cs.take i) d+if d=c then 1 else 0:=by
 unfold cnt;rw[Bh,h,List.countP_append];show (((cs.take i).countP (· == d)+[c].countP (· == d):Nat):Int)=_
 by_cases e:d=c
 ·subst e;rw[if_pos rfl,List.countP_cons,List.countP_nil,if_pos (by simp)]
  push_cast
  rfl
 ·rw[if_neg e,List.countP_cons,List.countP_nil,if_neg (by simp;exact λz=>e z.symm)]
  push_cast
  rfl
def eJ3{c:Nat}(h:cs[i]?=some c):cnt (cs.take i) c+1<=cnt cs c:=by
 have e:=pY h c
 rw[if_pos rfl]at e;rw[<-e];unfold cnt;have:(cs.take (i+1)).countP (· == c)<=cs.countP (· == c):=List.Sublist.countP_le (Gv _ _)
 omega
def aQT(f:Nat->Option Int)(cs:List Nat)(k:Nat):Prop:=∀j d,j<k->cs[j]?=some d->cnt (cs.take j) d<bE f d
def zC{f:Nat->Option Int}(c:Nat)(h0:0<=bE f c):∀ {k:Nat},aQT f cs k->cnt (cs.take k) c<=bE f c
 |0,_=>by rw[He];exact h0
 |k+1,h=>by
  have ih:=zC c h0 (k:=k) λj d hj=>h j d (by omega)
  cases e:cs[k]? with
  |none=>rw[List.take_add_one,e];simpa using ih
  |some d=>
   rw[pY e];have hd:=h k d (by omega) e
   by_cases z:c=d
   ·subst z;rw[if_pos rfl];omega
   ·rw[if_neg z];omega
def qI(aC:Addr):Sp:=λvs H Q E=>∃(a b:Addr) (kvs:List (Key×V)) (f:Nat->Option Int) (cs:List Nat),vs=[.ref a,.ref b]/\H a=some (.dK kvs)/\Lk kvs f/\(∀c,0<=bE f c)/\rdL H b=some ((cs.map one).map V.str)/\cs.length<=1000/\(∀c∈cs,rK c)/\
 (aQT f cs cs.length->∀(r:Addr) (kws:List (Key×V)) (H':Hp),H r=none->Same H H'->H' r=some (.dK kws)->Lk kws (cI λc=>bE f c-cnt cs c)->Q (.ref r) H')/\
 (∀i c,cs[i]?=some c->aQT f cs i->bE f c<=cnt (cs.take i) c->∀(dx:Addr) (H':Hp),Same H H'->H' dx=some (xdO dx [("flag",.str (one c))])->E (.ref aC) (some dx) H')
def l9:FnScope ["locker", "flags", "left", "flag"] ["locker", "flags"] (aK aXK):=by walk_at "sc"
def dXR(F:Fun K "taken" "taken" aXK f fd)(y4:Cal P w K mg base 1 "plain_locker" ["locker"] dC)(j3:aJZ P w K mg base 1 Zq ["self", "flag"] (oI Zq)):FnOk P w K mg base (CXr P w) 3 f fd ["locker", "flags"] (qI Zq):=by
 refine F.okX l9 (λvs H Q E h=>?_) (λcdv A outer s H vs Q E hr h=>?_)
 ·obtain⟨a,b,kvs,f,cs,rfl,_⟩:=h;rfl
 obtain⟨a,b,kvs,f,cs,rfl,ha,lk,hf0,hb,hcs,hfl,q,qe⟩:=h;refine⟨_,(@aE _ _ _ _ _ (aP 2 l9.nd (aZ y4 hr (by decide) rfl (aA (mv 0) aB))) (@aE _ _ _ _ _ (dA PassesOwn.leaving rfl (cG (mv 1)) (bF (i:=3) l9.nd rfl (Or.inl rfl)) (@aE _ _ _ _ _ (bZ (bC iE (iD Bw Do (aZK (Room.u1 hr)) (mv 2) (aA (mv 3) (aA aJ aB))) aJ (bD _)) (@aI _ _ _ (jV eJ rfl rfl rfl G.c_Short G.xm_Short j3 hr (by decide) (aA (mv 3) aB))) bH) (@aI _ _ _ (iM (Room.u1 hr) (mv 2) (mv 3) (aQ tG (kE (Room.u1 hr) (mv 2) (mv 3) (λ_ _=>rfl)) aJ) rfl)))) (@aI _ _ _ (aV (aZ y4 hr (by decide) rfl (aA (mv 2) aB)))))),?_⟩
 walk_at "g";refine⟨a,kvs,f,rfl,.inl ha,lk,λp H1 hp s1 hp1=>?_⟩;have lw:Lk (kvL (bE f) (bT (bE f) 27)) _:=dW (bE f)
 have hwl:(kvL (bE f) (bT (bE f) 27)).length<=27:=by unfold kvL;rw[Ab];exact kB _ _
 generalize kvL (bE f) (bT (bE f) 27)=kws at hp1 lw hwl;have hb1:=aO s1 hb
 walk_at "g";refine iK (xs:=(cs.map one).map V.str) (λi σ H'=>∃(kvs':List (Key×V)) (g:Nat->Option Int) (v:Option V),σ=[some (.ref a),some (.ref b),some (.ref p),v]/\Same H H'/\H' p=some (.dK kvs')/\Lk kvs' g/\(∀c,bE g c=bE (cI (bE f)) c-cnt (cs.take i) c)/\kvs'.length<=27+i/\aQT f cs i)
  ⟨kws,_,_,rfl,s1,hp1,lw,λc=>by rw[He];show _=_-((0:Nat):Int);omega,by omega,λj d hj=>by omega⟩ (λi σ H' _ ⟨_,_,_,_,e,_⟩=>aO e hb) ?_ ?_
 ·rintro i x σ H2 hx ⟨kvs',g,v,rfl,s2,hH,lg,hg,hl,hen⟩;have hi:i<cs.length:=by have:=(Ac.mp hx).1;rw[Ab,Ab]at this;exact this
  obtain⟨c,hc⟩:∃c,cs[i]?=some c:=⟨_,Aa hi⟩;obtain rfl:x=V.str (one c):=by rw[Ag,Ag,hc]at hx;cases hx;rfl
  have hpl:kvs'.length<sizeLine:=bL (by omega)
  have hfc:=hfl c (Ao hc)
  have hgc:=hg c
  rw[sG hfc (hf0 c)]at hgc;have hle:=zC c (hf0 c) hen
  walk_at "g";refine bJU (z:=one c) (.inl hH) ?_;rw[lg.val c,uH];walk_at "g";refine dZ (λhd=>?_) (λhd=>?_)
  ·have hd':=Az hd
   walk_at "g";refine⟨by show 1<=sizeLine;decide,λea hea=>⟨ea,_,rfl,aH,λdx hdx=>⟨rfl,some dx,(rG hdx).1,?_⟩⟩⟩
   exact qe i c hc hen (by omega) dx _ (xJ s2 hea hdx) (rG hdx).2
  ·have hd':=Bm (Bs.mpr hd)
   obtain⟨n,hn⟩:∃n,g c=some n:=by
    cases e:g c with
    |none=>exact absurd (show bE g c=0 by unfold bE;rw[e];rfl) hd'
    |some n=>exact⟨n,rfl⟩
   have hcn:bE g c=n:=by unfold bE;rw[hn];rfl
   walk_at "g";refine aX9 (z:=one c) (.inl hH) (by rw[lg.val c,hn];rfl) ?_
   walk_at "g";refine nF (z:=one c) hH hpl ?_;refine⟨_,_,_,rfl,bR hp s2,aH,lg.put c (n-1),λd=>?_,by have:=fW kvs' (Sum.inr (one c)) (.int (n-1));omega,λj d hj hjd=>?_⟩
   ·rw[pY hc];have:=hg d
    by_cases e:d=c
    ·subst e;show ((if d=d then some (n-1) else g d):Option Int).getD 0=_
     rw[if_pos rfl,if_pos rfl];show n-1=_
     omega
    ·show ((if d=c then some (n-1) else g d):Option Int).getD 0=_
     rw[if_neg e,if_neg e];show bE g d=_
     omega
   ·by_cases e:j=i
    ·subst e;rw[hc]at hjd;cases hjd;omega
    ·exact hen j d (by omega) hjd
 ·rintro σ H2 ⟨kvs',g,v,rfl,s2,hH,lg,hg,hl,hen⟩;have ecs:((cs.map one).map V.str).length=cs.length:=by rw[Ab,Ab]
  rw[ecs]at hg hl hen;walk_at "g";refine⟨p,kvs',g,rfl,.inl hH,lg,λr H3 hr s3 hr3=>?_⟩;have l3:Lk (kvL (bE g) (bT (bE g) 27)) _:=dW (bE g)
  generalize kvL (bE g) (bT (bE g) 27)=kws' at hr3 l3;refine q hen r kws' H3 (none_of s2 hr) (s2.trans s3) hr3 (l3.ext (pQ λc hc=>?_));rw[hg c,sG hc (hf0 c),Be (Ai _)]
def gS:Sp:=λvs H Q _=>∃(a b:Addr) (kvs:List (Key×V)) (f:Nat->Option Int) (cs:List Nat),vs=[.ref a,.ref b]/\H a=some (.dK kvs)/\Lk kvs f/\(∀c,0<=bE f c)/\rdL H b=some ((cs.map one).map V.str)/\cs.length<=1000/\
 ∀(r:Addr) (kws:List (Key×V)) (H':Hp),H r=none->Same H H'->H' r=some (.dK kws)->Lk kws (cI λc=>bE f c+cnt cs c)->Q (.ref r) H'
def j4:FnScope ["locker", "flags", "more", "flag"] ["locker", "flags"] (aK vN):=by walk_at "sc"
def bJ5(F:Fun K "put_in" "put_in" vN f fd)(G:Gs K mg w Zo Zz Zq Zx Z0 Zt Zy Zw Zu Zv Zr Zs Zp)(y4:Cal P w K mg base 1 "plain_locker" ["locker"] dC):FnOk P w K mg base CX0 2 f fd ["locker", "flags"] gS:=by
 refine F.ok j4 (λvs H Q E h=>?_) (λcdv A outer s H vs Q E hr h=>?_)
 ·obtain⟨a,b,kvs,f,cs,rfl,_⟩:=h;rfl
 obtain⟨a,b,kvs,f,cs,rfl,ha,lk,hf0,hb,hcs,q⟩:=h;refine⟨_,(@aE _ _ _ _ _ (aP 2 j4.nd (aZ y4 hr (by decide) rfl (aA (mv 0) aB))) (@aE _ _ _ _ _ (dA Bq rfl (cG (mv 1)) (bF (i:=3) j4.nd rfl (Or.inl rfl)) (@aI _ _ _ (iM (Room.u1 hr) (mv 2) (mv 3) (aQ bN (iD Bw Do (aZK (Room.u1 hr)) (mv 2) (aA (mv 3) (aA aJ aB))) aJ) rfl))) (@aI _ _ _ (aV (aZ y4 hr (by decide) rfl (aA (mv 2) aB)))))),?_⟩
 walk_at "g";refine⟨a,kvs,f,rfl,.inl ha,lk,λp H1 hp s1 hp1=>?_⟩;have lw:Lk (kvL (bE f) (bT (bE f) 27)) _:=dW (bE f)
 have hwl:(kvL (bE f) (bT (bE f) 27)).length<=27:=by unfold kvL;rw[Ab];exact kB _ _
 generalize kvL (bE f) (bT (bE f) 27)=kws at hp1 lw hwl;have hb1:=aO s1 hb
 walk_at "g";refine iK (xs:=(cs.map one).map V.str) (λi σ H'=>∃(kvs':List (Key×V)) (g:Nat->Option Int) (v:Option V),σ=[some (.ref a),some (.ref b),some (.ref p),v]/\Same H H'/\H' p=some (.dK kvs')/\Lk kvs' g/\(∀c,bE g c=bE (cI (bE f)) c+cnt (cs.take i) c)/\kvs'.length<=27+i)
  ⟨kws,_,_,rfl,s1,hp1,lw,λc=>by rw[He];show _=_+((0:Nat):Int);omega,by omega⟩ (λi σ H' _ ⟨_,_,_,_,e,_⟩=>aO e hb) ?_ ?_
 ·rintro i x σ H2 hx ⟨kvs',g,v,rfl,s2,hH,lg,hg,hl⟩;have hi:i<cs.length:=by have:=(Ac.mp hx).1;rw[Ab,Ab]at this;exact this
  obtain⟨c,hc⟩:∃c,cs[i]?=some c:=⟨_,Aa hi⟩;obtain rfl:x=V.str (one c):=by rw[Ag,Ag,hc]at hx;cases hx;rfl
  have hpl:kvs'.length<sizeLine:=bL (by omega)
  walk_at "g";refine bJU (z:=one c) (.inl hH) ?_;rw[lg.val c,uH];walk_at "g";refine nF (z:=one c) hH hpl ?_;refine⟨_,_,_,rfl,bR hp s2,aH,lg.put c (bE g c+1),λd=>?_,by have:=fW kvs' (Sum.inr (one c)) (.int (bE g c+1));omega⟩
  rw[pY hc];have:=hg d
  by_cases e:d=c
  ·subst e;show ((if d=d then some (bE g d+1) else g d):Option Int).getD 0=_
   rw[if_pos rfl,if_pos rfl];show bE g d+1=_
   omega
  ·show ((if d=c then some (bE g c+1) else g d):Option Int).getD 0=_
   rw[if_neg e,if_neg e];show bE g d=_
   omega
 ·rintro σ H2 ⟨kvs',g,v,rfl,s2,hH,lg,hg,hl⟩;walk_at "g";refine⟨p,kvs',g,rfl,.inl hH,lg,λr H3 hr s3 hr3=>?_⟩;refine q r _ H3 (none_of s2 hr) (s2.trans s3) hr3 ((dW (bE g)).ext (pQ λc hc=>?_));rw[hg c,sG hc (hf0 c),Be (by rw[Ab,Ab];exact Ai _)]
def nU:Sp:=λvs H Q _=>∃(cw:List Nat) (k:Nat) (p:Int),vs=[.str (aU cw),.int p]/\p=(k:Int)+1/\k<cw.length/\cw.length<=7/\
 ∀(r:Addr) (H':Hp),H r=none->Same H H'->H' r=some (.lst (((chs cw k).map one).map V.str))->Q (.ref r) H'
def dJH(G:Nat->Option β)(k:Nat):[0,1,2,3].filterMap (λn=>if n<k then G n else none)=(List.range (min k 4)).filterMap G:=by
 match k with
 |0=>rfl
 |1=>rfl
 |2=>rfl
 |3=>rfl
 |k+4=>
  rw[Eo (by omega)]
  exact jL λn hn=>if_pos (by simp only[List.mem_cons,List.not_mem_nil,or_false]at hn;omega)
def atF(cw:List Nat)(k:Nat)(c:Nat):Option V:=if c-49<k then (if cw.getD (c-49) 0=cw.getD k 0 then some (.str (one c)) else none) else none
def fXS(cw:List Nat)(k:Nat):subsT.cps.toList.filterMap (atF cw k)=(((List.range (min k 4)).filterMap (chF cw k)).map one).map V.str:=by
 rw[bXD,show [49,50,51,52]=[0,1,2,3].map (49+·) from rfl,Gj,Ca,List.map_filterMap,<-dJH];refine jL λn _=>?_;show atF cw k (49+n)=_
 unfold atF chF;rw[show 49+n-49=n by omega]
 by_cases h1:n<k
 ·rw[if_pos h1,if_pos h1];by_cases h2:cw.getD n 0=cw.getD k 0
  ·rw[if_pos h2,if_pos h2];rfl
  ·rw[if_neg h2,if_neg h2];rfl
 ·rw[if_neg h1,if_neg h1]
def j5:FnScope ["word", "place", "letter", "above"] ["word", "place"] (aK gN):=by walk_at "sc"
def yQ(F:Fun K "choices_at" "choices_at" gN f fd):FnOk P w K mg base CX0 1 f fd ["word", "place"] nU:=by
 refine F.ok j5 (λvs H Q E h=>?_) (λcdv A outer s H vs Q E hr h=>?_)
 ·obtain⟨cw,k,p,rfl,_⟩:=h;rfl
 obtain⟨cw,k,pl,rfl,hpl,hk,h7,q⟩:=h;refine⟨_,(@aE _ _ _ _ _ (aP 2 j5.nd (bI bX (mv 0) (aQ tG (mv 1) aJ) (λ_ _=>rfl))) (@aE _ _ _ _ _ (fR (i:=3) j5.nd rfl (Or.inl rfl) rfl (kT (eO rfl G.s_SUBSTITUTES)) (fH (N:=["sign", "place", "letter", "word"]) ["word", "place", "letter", "above"] (aK gN) [none,some 1,some 2,some 0] rfl rfl rfl (λx h=>cE h) (by decide +kernel)) (by decide +kernel) rfl (by decide +kernel) (λ_ _ _ _=>(bF (i:=0) (show List.Nodup (["sign", "place", "letter", "word"]:List Str) by decide +kernel) rfl (Or.inl rfl))) (λ_ _ _ _=>(jG (PW.pt (xB (bC aXP (cF bZ1 rfl G.b_int sP (aA (mv 0) aB)) (mv 1) (bD _)) (qP (bC iE (bI bX (mv 3) (aQ tG (cF bZ1 rfl G.b_int sP (aA (mv 0) aB)) aJ) (λ_ _=>rfl)) (mv 2) (bD _))))))) (λ_ _ _ _=>(mv 0))) (@aI _ _ _ (aV (aQ bN (bJ (aA (mv 2) aB)) (mv 3)))))),?_⟩
 have hwl:(aU cw).length=cw.length:=cC cw
 walk_at "g";refine xE (by rw[hwl];exact bO (by omega)) (aQ0 (k:=k) (by omega) hk) ?_
 walk_at "g";refine bQI (atF cw k) (bL (by decide)) (λi c Hc A B hc' hA=>?_) (λD hD=>?_)
 ·have hs:eE c:=mem_subs.mp (Ao hc')
  have h49:49<=c:=hs.1
  walk_at "g";refine⟨Wk.set rfl (Wk.refl _),?_⟩;walk_at "g";refine aX8 (uC hs) (by show 1<=640;decide) ?_
  walk_at "g";unfold atF at hA;refine dZ (λhd=>?_) (λhd=>?_)
  ·have hd':=Az hd
   have hck:c-49<k:=by omega
   rw[if_pos hck]at hA;walk_at "g";refine aX8 (uC hs) (by show 1<=640;decide) ?_
   walk_at "g";refine xE (by rw[hwl];exact bO (by omega)) (aQ0 (k:=c-49) (by omega) (by omega)) ?_
   walk_at "g";rw[show decide (({cps:=#[cw.getD (c-49) 0]}:Str)={cps:=#[cw.getD k 0]})=decide (cw.getD (c-49) 0=cw.getD k 0) from bZK _ _];by_cases he:cw.getD (c-49) 0=cw.getD k 0
   ·rw[Ap he];rw[if_pos he]at hA;walk_at "g";exact hA
   ·rw[As he];rw[if_neg he]at hA;walk_at "g";exact hA
  ·have hd':=Bm (Bs.mpr hd)
   have hck:¬c-49<k:=by omega
   rw[if_neg hck]at hA;walk_at "g";exact hA
 ·rw[show (Str.ofString "1234").cps.toList.filterMap (atF cw k)=_ from fXS cw k];walk_at "g";refine⟨by show 1<=sizeLine;decide,λp hp=>?_⟩
  have hDp:D≠p:=λz=>by rw[z,aH]at hp;cases hp
  have hp0:H p=none:=by rw[aM (Ne.symm hDp)]at hp;exact hp
  have hlen:((((List.range (min k 4)).filterMap (chF cw k)).map one).map V.str).length<=4:=by
   have:=Cv (chF cw k) (List.range (min k 4))
   rw[Ce]at this;rw[Ab,Ab];omega
  walk_at "g";refine fL (xs:=[V.str (one (cw.getD k 0))]) (ys:=(((List.range (min k 4)).filterMap (chF cw k)).map one).map V.str) dD (by rw[uE hDp];exact dD) (bO (by show 1+_<=_;omega)) λr hr=>?_
  have hr0:H r=none:=by
   by_cases z:r=p
   ·rw[z];exact hp0
   ·rw[aM z]at hr;by_cases z2:r=D
    ·rw[z2];exact hD
    ·rw[aM z2]at hr;exact hr
  walk_at "g";exact q r _ hr0 ((aG hD _).trans ((aG hp _).trans (aG hr _))) aH
def bQ5(cws:List (List Nat))(k:Nat):List (List V):=(List.range (cws.getD k []).length).map λj:Nat=>[V.int (k:Int),V.int (1+(j:Int))]
def oM(cws:List (List Nat))(i:Nat):List (List V):=((List.range i).map (bQ5 cws)).flatten
def mC(cws:Q5)(i:Nat):oM cws (i+1)=oM cws i++bQ5 cws i:=by
 unfold oM;rw[Cd,Am,List.flatten_append];simp
def cJH{k:Nat}(h7:∀c∈cws,c.length<=7):(bQ5 cws k).length<=7:=by
 unfold bQ5;rw[Ab,Ce,Ad];cases e:cws[k]? with
 |none=>exact Da _
 |some c=>exact h7 c (Ao e)
def oW(h7:∀c∈cws,c.length<=7):∀i,(oM cws i).length<=7*i
 |0=>Ai _
 |i+1=>by
  rw[mC,Af];have:=oW h7 i
  have:=cJH (k:=i) h7
  omega
def aZR(h:((cws.map aU).map V.str)[i]?=some x):∃c,cws[i]?=some c/\c∈cws/\x=.str (aU c):=by
 rw[Ag,Ag]at h;cases e:cws[i]? with
 |none=>rw[e]at h;cases h
 |some c=>rw[e]at h;cases h;exact⟨c,rfl,Ao e,rfl⟩
def tO:Sp:=λvs H Q _=>∃(a:Addr) (cws:List (List Nat)),vs=[.ref a]/\rdL H a=some ((cws.map aU).map V.str)/\cws.length<=8/\(∀c∈cws,c.length<=7)/\
 ∀(r:Addr) (ps:List Addr) (H':Hp),H r=none->Same H H'->H' r=some (.lst (ps.map V.ref))->Tups H H' ps (oM cws cws.length)->Q (.ref r) H'
def j6:FnScope ["words", "wants", "number", "word"] ["words"] (aK kM):=by walk_at "sc"
def aJV(F:Fun K "wants_of" "wants_of" kM f fd):FnOk P w K mg base CX0 1 f fd ["words"] tO:=by
 refine F.ok j6 (λvs H Q E h=>?_) (λcdv A outer s H vs Q E hr h=>?_)
 ·obtain⟨a,cws,rfl,_⟩:=h;rfl
 obtain⟨a,cws,rfl,ha,h8,h7,q⟩:=h;refine⟨_,(@aE _ _ _ _ _ (aP 1 j6.nd (bJ aB)) (@aE _ _ _ _ _ (dA Bq rfl (kK rfl G.b_enumerate (aA (mv 0) aB)) (dN (K:=K) (i:=2) (j:=3) (by rfl) (by rfl) j6.nd (by rfl) (by exact(Or.inr rfl)) (by exact Or.inl rfl) (by rfl) (by exact(Or.inl rfl)) (by exact Or.inl rfl)) (@aI _ _ _ (cH (cA Bg Dp Dq aQK (mv 1) (aA (cJ rfl (cQ9 rfl G.b_range (aA aJ (aA (aQ bN (aX cQ rfl G.b_len bS (aA (mv 3) aB)) aJ) aB))) (fH (N:=["place", "number"]) ["words", "wants", "number", "word"] (aK kM) [none,some 2] rfl rfl rfl (λx h=>cE h) (by decide +kernel)) (by decide +kernel) rfl (by decide +kernel) (λ_ _ _ _=>(bF (i:=0) (show List.Nodup (["place", "number"]:List Str) by decide +kernel) rfl (Or.inl rfl))) (λ_ _ _ _=>cZ) (λ_ _ _ _=>(cW (aA (mv 1) (aA (mv 0) aB))))) aB))))) (@aI _ _ _ (aV (mv 1))))),?_⟩
 walk_at "g";refine⟨by decide,λp hp=>?_⟩
 have ha1:=aO (aG hp (HO.lst [])) ha
 walk_at "g";refine qY (xs:=(cws.map aU).map V.str) (λi σ H'=>∃(ps:List Addr) (v1 v2:Option V),σ=[some (.ref a),some (.ref p),v1,v2]/\Same H H'/\H' p=some (.lst (ps.map V.ref))/\Tups H H' ps (oM cws i))
  ⟨[],_,_,rfl,aG hp _,aH,.nil⟩ (λj σ H' _ ⟨_,_,_,_,e,_⟩=>aO e ha) ?_ ?_
 ·rintro i x σ H2 pt hx ⟨ps,v1,v2,rfl,s2,hH,tp⟩ hpt;have hi:i<cws.length:=by have:=(Ac.mp hx).1;rw[Ab,Ab]at this;exact this
  obtain⟨cw,hcw,hm,rfl⟩:=aZR hx;have hc7:=h7 cw hm
  have hwl:(aU cw).length=cw.length:=cC cw
  walk_at "g";rw[hwl];refine⟨⟨by omega,by omega,by omega,by omega⟩,?_⟩
  rw[show ((cw.length:Int)+1-1).toNat=cw.length by omega]
  have s3:=s2.trans (aG hpt (HO.tup [V.int ((0+i:Nat):Int),V.str (aU cw)]))
  have hH3:=aG hpt (HO.tup [V.int ((0+i:Nat):Int),V.str (aU cw)]) _ _ hH
  have tp3:=tp.keep (aG hpt (HO.tup [V.int ((0+i:Nat):Int),V.str (aU cw)]))
  generalize upd H2 pt (HO.tup [V.int ((0+i:Nat):Int),V.str (aU cw)])=H3 at s3 hH3 tp3 ⊢;refine cQW (λj=>[V.int ((0+i:Nat):Int),V.int (1+(j:Int))]) (bL (by omega)) (λj Hc A B hj hs hA=>?_) (λD Hd qs hD sD hDd hqn tq=>?_)
  ·walk_at "g";refine⟨Wk.set rfl (Wk.refl _),?_⟩;walk_at "g";exact⟨by show 2<=sizeLine;decide,λpp hpp=>hA pp _ hpp (aG hpp _) aH⟩
  ·have hpd:=sD _ _ hH3
   have hpl:ps.length<=7*i:=by rw[tp.1];exact oW h7 i
   have e:(List.range cw.length).map (λj:Nat=>[V.int ((0+i:Nat):Int),V.int (1+(j:Int))])=bQ5 cws i:=by
    unfold bQ5;rw[Ad,hcw,Nat.zero_add];rfl
   rw[e]at tq;walk_at "g";refine⟨ps++qs,_,_,rfl,bR hp (s3.trans sD),by rw[aH,Am],?_⟩
   rw[mC];exact((tp3.keep sD).app (tq.older s3)).put hpd
 ·rintro σ H2 ⟨ps,v1,v2,rfl,s2,hH,tp⟩;walk_at "g";rw[show ((cws.map aU).map V.str).length=cws.length by rw[Ab,Ab]]at tp
  exact q p ps H2 hp s2 hH tp
def iF(cws:List (List Nat))(i:Nat):Nat:=((cws.take i).map List.length).sum
def lI(cws:List (List Nat))(cs:List Nat)(i:Nat):List V:=(((cs.drop (iF cws i)).take (cws.getD i []).length).map one).map V.str
def zW(h:cws[i]?=some cw):iF cws (i+1)=iF cws i+cw.length:=by
 unfold iF;rw[Bh,h,Am,List.sum_append];simp
def eQQ(hj:i<=j):jP xs (some (i:Int)) (some (j:Int))=(xs.drop i).take (j-i):=by
 unfold jP;show (xs.drop (if (i:Int)<0 then ((i:Int)+(xs.length:Int)).toNat else min (i:Int).toNat xs.length)).take ((if (j:Int)<0 then ((j:Int)+(xs.length:Int)).toNat else min (j:Int).toNat xs.length)-(if (i:Int)<0 then ((i:Int)+(xs.length:Int)).toNat else min (i:Int).toNat xs.length))=_
 rw[if_neg (by omega),if_neg (by omega),Fs,Fs]
 by_cases h1:i<=xs.length
 ·rw[Ez h1];by_cases h2:j<=xs.length
  ·rw[Ez h2]
  ·rw[Eo (by omega),Be (by rw[Cf];omega),Be (by rw[Cf];omega)]
 ·rw[Eo (show xs.length<=i by omega),List.drop_of_length_le (Ai _),List.drop_of_length_le (by omega),List.take_nil,List.take_nil]
def pP:Sp:=λvs H Q _=>∃(a b:Addr) (cws:List (List Nat)) (cs:List Nat),vs=[.ref a,.ref b]/\rdL H a=some ((cws.map aU).map V.str)/\rdL H b=some ((cs.map one).map V.str)/\cws.length<=8/\(∀c∈cws,c.length<=7)/\
 ∀(r:Addr) (ps:List Addr) (H':Hp),H r=none->Same H H'->H' r=some (.lst (ps.map V.ref))->(∀p∈ps,p≠r)->Lsts H H' ps ((List.range cws.length).map (lI cws cs))->Q (.ref r) H'
def w6:FnScope ["words", "flags", "hoists", "start", "word", "end"] ["words", "flags"] (aK lK):=by walk_at "sc"
def aQV(F:Fun K "hoists_of" "hoists_of" lK f fd):FnOk P w K mg base CX0 1 f fd ["words", "flags"] pP:=by
 refine F.ok w6 (λvs H Q E h=>?_) (λcdv A outer s H vs Q E hr h=>?_)
 ·obtain⟨a,b,cws,cs,rfl,_⟩:=h;rfl
 obtain⟨a,b,cws,cs,rfl,ha,hb,h8,h7,q⟩:=h;refine⟨_,(@aE _ _ _ _ _ (aP 2 w6.nd (bJ aB)) (@aE _ _ _ _ _ (aP 3 w6.nd aJ) (@aE _ _ _ _ _ (dA Bq rfl (cG (mv 0)) (bF (i:=4) w6.nd rfl (Or.inl rfl)) (@aE _ _ _ _ _ (aP 5 w6.nd (aQ bN (mv 3) (aX cQ rfl G.b_len bS (aA (mv 4) aB)))) (@aE _ _ _ _ _ (cH (cA Bg Eb Ec bQA (mv 2) (aA (cF iY rfl G.b_list fD (aA (dP aZF (mv 1) (dE (mv 3)) (dE (mv 5))) aB)) aB))) (@aI _ _ _ (aP 3 w6.nd (mv 5)))))) (@aI _ _ _ (aV (mv 2)))))),?_⟩;have hll:((cws.map aU).map V.str).length=cws.length:=by rw[Ab,Ab]
 walk_at "g";refine⟨by decide,λp hp=>?_⟩
 have ha1:=aO (aG hp (HO.lst [])) ha
 walk_at "g";refine iK (xs:=(cws.map aU).map V.str) (λi σ H'=>∃(ps:List Addr) (v4 v5:Option V),σ=[some (.ref a),some (.ref b),some (.ref p),some (.int ((iF cws i:Nat):Int)),v4,v5]/\Same H H'/\H' p=some (.lst (ps.map V.ref))/\(∀x∈ps,x≠p)/\ps.length=i/\Lsts H H' ps ((List.range i).map (lI cws cs)))
  ⟨[],_,_,rfl,aG hp _,aH,(λx hx=>nomatch hx),rfl,.nil⟩ (λj σ H' _ ⟨_,_,_,_,e,_⟩=>aO e ha) ?_ ?_
 ·rintro i x σ H2 hx ⟨ps,v4,v5,rfl,s2,hH,hne,hpl,tp⟩;have hi:i<cws.length:=by have:=(Ac.mp hx).1;rw[hll]at this;exact this
  obtain⟨cw,hcw,hm,rfl⟩:=aZR hx;have hc7:=h7 cw hm
  have hwl:(aU cw).length=cw.length:=cC cw
  have hb2:=aO s2 hb
  walk_at "g";rw[hwl];intro r1 hr1;rw[show ((iF cws i:Nat):Int)+((cw.length:Nat):Int)=((iF cws i+cw.length:Nat):Int) by push_cast;rfl,eQQ (by omega),show iF cws i+cw.length-iF cws i=cw.length by omega]
  have hrow_e:(((cs.map one).map V.str).drop (iF cws i)).take cw.length=lI cws cs i:=by
   unfold lI;rw[Ad,hcw,El,El,Fa,Fa];rfl
  rw[hrow_e];walk_at "g";intro r2 hr2;have hp1:r2≠p:=λz=>by
   have:=aG hr1 (HO.lst (lI cws cs i)) _ _ hH
   rw[<-z,hr2]at this;cases this
  have s3:Same H2 (upd (upd H2 r1 (HO.lst (lI cws cs i))) r2 (HO.lst (lI cws cs i))):=(aG hr1 _).trans (aG hr2 _)
  have hr3:(upd (upd H2 r1 (HO.lst (lI cws cs i))) r2 (HO.lst (lI cws cs i))) r2=some (.lst (lI cws cs i)):=aH
  have hr20:H2 r2=none:=none_of (aG hr1 _) hr2
  generalize upd (upd H2 r1 (HO.lst (lI cws cs i))) r2 (HO.lst (lI cws cs i))=H3 at s3 hr3 ⊢;have hH3:=s3 _ _ hH
  have hm3:=bQ hH3
  walk_at "g";have hne2:∀x∈ps++[r2],x≠p:=λx hx=>by
   rcases Bp.mp hx with e|e
   ·exact hne x e
   ·rw[Al.mp e];exact hp1
  refine⟨ps++[r2],some (.str (aU cw)),some (.int ((iF cws i+cw.length:Nat):Int)),?_,bR hp (s2.trans s3),by rw[aH,Am];rfl,hne2,by rw[Af,hpl];rfl,?_⟩
  ·rw[zW hcw];rfl
  ·rw[Cd,Am];exact((tp.keep s3).snoc (none_of s2 hr20) hr3).put hne2
 ·rintro σ H2 ⟨ps,v4,v5,rfl,s2,hH,hne,hpl,tp⟩;walk_at "g";rw[hll]at tp;exact q p ps H2 hp s2 hH hne tp
def bZE:FnScope ["text"] ["text"] (aK rX):=by walk_at "sc"
def bX4(F:Fun K "is_flag" "is_flag" rX f fd):FnOk P w K mg base CX0 1 f fd ["text"] pK:=by
 refine F.ok bZE (λvs H Q E h=>?_) (λcdv A outer s H vs Q E hr h=>?_)
 ·obtain⟨z,rfl,_⟩:=h;rfl
 obtain⟨z,rfl,hl,q⟩:=h;refine⟨_,(@aI _ _ _ (aV (aZE (fE iE (aX cQ rfl G.b_len bS (aA (mv 0) aB)) aJ (bD _)) (bXF (fE aZN (mv 0) (eO rfl G.s_FLAGS) (by rfl)))))),?_⟩
 walk_at "g";refine dZ (λhc=>?_) (λhc=>?_)
 ·have e:dO z=subIn z flagsT:=if_pos (by have:=Az hc;omega)
  rw[e]at q;walk_at "g";exact q
 ·have e:dO z=false:=tJ (by have:=Bm (Bs.mpr hc);omega)
  rw[e]at q;exact q
def aXX:FnScope ["text", "place"] ["text", "place"] (aK lM):=by walk_at "sc"
def aQ8(F:Fun K "may_stand" "may_stand" lM f fd)(w8:Cal P w K mg base 1 "is_flag" ["text"] pK):FnOk P w K mg base CX0 2 f fd ["text", "place"] qO:=by
 refine F.ok aXX (λvs H Q E h=>?_) (λcdv A outer s H vs Q E hr h=>?_)
 ·obtain⟨z,p,rfl,_⟩:=h;rfl
 obtain⟨z,p,rfl,hl,q⟩:=h;refine⟨_,(@aE _ _ _ _ _ (bZ (sJ (eG (aZ w8 hr (by decide) rfl (aA (mv 0) aB)))) (@aI _ _ _ (aV nO)) bH) (@aE _ _ _ _ _ (bZ (bC aZN (mv 0) (eO rfl G.s_SUBSTITUTES) (by rfl)) (@aI _ _ _ (aV (fE aXP (cF bZ1 rfl G.b_int sP (aA (mv 0) aB)) (mv 1) (bD _)))) bH) (@aI _ _ _ (aV nO)))),?_⟩
 walk_at "g";refine⟨z,rfl,hl,?_⟩;walk_at "g";refine dZ (λhc=>?_) (λhc=>?_)
 ·have hf:dO z=false:=by simpa using hc
  have e:dJ z p=false:=by
   by_cases h1:z.length=1
   ·obtain⟨c,rfl⟩:=vY h1;rw[pF]at hf;have hf:=Bm hf
    rw[pR];exact As λst=>hf (st.elim .inl λz=>.inr z.1)
   ·exact if_neg h1
  rw[e]at q;walk_at "g";exact q
 ·have hf:dO z=true:=by simpa using hc
  obtain⟨c,rfl,hcc⟩:=cQ1 hf;walk_at "g";rw[if_neg An,show subIn (one c) (Str.ofString "1234")=decide (eE c) from uU c];rw[pR]at q;refine dZ (λhd=>?_) (λhd=>?_)
  ·have hs:=Az hd
   walk_at "g";refine aX8 (uC hs) (by show 1<=640;decide) ?_
   walk_at "g";rw[show decide (lZ c p)=decide ((c:Int)-48<p) from Dy.mpr ⟨λst=>st.elim (λl=>absurd hs (lF l)) (·.2),λl=>.inr ⟨hs,l⟩⟩]at q;exact q
  ·have hs:=Bm (Bs.mpr hd)
   walk_at "g";rw[Ap (show lZ c p from .inl (hcc.resolve_right hs))]at q;exact q
def aZY:FnScope ["flags"] ["flags"] (aK oQ):=by walk_at "sc"
def aZU(F:Fun K "is_hoist" "is_hoist" oQ f fd)(j8:Cal P w K mg base 2 "may_stand" ["text", "place"] qO):FnOk P w K mg base CX0 3 f fd ["flags"] sZ:=by
 refine F.ok aZY (λvs H Q E h=>?_) (λcdv A outer s H vs Q E hr h=>?_)
 ·obtain⟨a,zs,rfl,_⟩:=h;rfl
 obtain⟨a,zs,rfl,ha,hl,hz,q⟩:=h;refine⟨_,(@aE _ _ _ _ _ (bZ (PW.pt (oG (bC aXP (aX cQ rfl G.b_len bS (aA (mv 0) aB)) aJ (bD _)) (mR (bC bQS (aX cQ rfl G.b_len bS (aA (mv 0) aB)) (qJ rfl G.s_MOST_PLACES) (bD _))))) (@aI _ _ _ (aV nO)) bH) (@aI _ _ _ (aV (aX (bJP rfl) rfl G.b_all aXH (aA (cJ rfl (dX4 rfl G.b_enumerate (aA (mv 0) aB) (aXR aJ bZG)) (iC (N:=["place", "text"]) (by decide +kernel) (by decide +kernel)) (by decide +kernel) rfl (by decide +kernel) (λ_ _ _ _=>(dN (K:=K) (i:=0) (j:=1) (by rfl) (by rfl) (show List.Nodup (["place", "text"]:List Str) by decide +kernel) (by rfl) (by exact Or.inl rfl) (by exact Or.inr rfl) (by rfl) (by exact Or.inl rfl) (by exact Or.inr rfl))) (λ_ _ _ _=>cZ) (λ_ _ _ _=>(aZ j8 hr (by decide) rfl (aA (mv 1) (aA (mv 0) aB))))) aB))))),?_⟩
 have hll:(zs.map V.str).length=zs.length:=Ab ..
 walk_at "g";rw[hll];refine dZ (λhc=>?_) (λhc=>?_)
 ·walk_at "g";have e:dF zs=false:=if_pos (.inl (by have:=Az hc;omega))
  have r:=q H (Same.refl H)
  rw[e]at r;exact r
 ·have hc':=Bm (Bs.mpr hc)
  walk_at "g";rw[hll];refine dZ (λhd=>?_) (λhd=>?_)
  ·walk_at "g";have e:dF zs=false:=if_pos (.inr (by have:=Az hd;omega))
   have r:=q H (Same.refl H)
   rw[e]at r;exact r
  ·have hd':=Bm (Bs.mpr hd)
   walk_at "g";refine⟨⟨by omega,by omega⟩,?_⟩
   walk_at "g";refine aQP (λi x=>match x with|.str z=>some (.bl (dJ z ((1+i:Nat):Int)))|_=>none) ha (by rw[hll];exact bL (by omega)) (λi x Hc p A B hx sm hp hA=>?_) (λD Hd hD sd hr=>?_)
   ·obtain⟨z,hzi,rfl⟩:=gX hx;walk_at "g";refine⟨Wk.set rfl (Wk.set rfl (Wk.refl _)),?_⟩;walk_at "g";refine⟨z,_,rfl,hz z (Ao hzi),?_⟩;exact hA _ (Same.refl _)
   ·have e1:((List.range (zs.map V.str).length).filterMap λi=>(λi x=>match x with | .str z=>some (V.bl (dJ z ((1+i:Nat):Int))) | _=>none:Nat->V->Option V) i ((zs.map V.str).getD i .non))=((List.range zs.length).map λi=>dJ (zs.getD i ⟨#[]⟩) ((1+i:Nat):Int)).map V.bl:=by
     rw[hll,Ca];refine(jL (g:=λi=>some (V.bl (dJ (zs.getD i ⟨#[]⟩) ((1+i:Nat):Int)))) λi hi=>?_).trans (iO _ _);have hi':=By.mp hi
     rw[Ad,Ag,Aa hi',Ad,Aa hi'];rfl
    rw[e1]at hr;walk_at "g";refine bZY hr ?_;have e2:dF zs=((List.range zs.length).map λi=>dJ (zs.getD i ⟨#[]⟩) ((1+i:Nat):Int)).all id:=by
     unfold dF;rw[if_neg (by omega),Ha]
     rfl
    have r:=q _ sd
    rw[e2]at r;exact r
def o3:FnScope ["flags", "word", "flag"] ["flags"] (aK sK):=by walk_at "sc"
def bXH(F:Fun K "read_of" "read_of" sK f fd)(j9:Cal P w K mg base 3 "is_hoist" ["flags"] sZ):FnOk P w K mg base (CXr P w) 4 f fd ["flags"] (oK Zx):=by
 refine F.okX o3 (λvs H Q E h=>?_) (λcdv A outer s H vs Q E hr h=>?_)
 ·obtain⟨a,zs,rfl,_⟩:=h;rfl
 obtain⟨a,zs,rfl,ha,hl,hz,q,qe⟩:=h;refine⟨_,(@aE _ _ _ _ _ (bZ (sJ (eG (aZ j9 hr (by decide) rfl (aA (mv 0) aB)))) (@aI _ _ _ (gU eJ rfl rfl rfl G.c_NoHoist G.x_NoHoist Cj (@aY _ _ _ _ _ _ aB))) bH) (@aE _ _ _ _ _ (aP 1 o3.nd cS) (@aE _ _ _ _ _ (PS.nox (dA Bq rfl (cG (mv 0)) (bF (i:=2) o3.nd rfl (Or.inl rfl)) (@aI _ _ _ (bZ (bC aZN (mv 2) (eO rfl G.s_SUBSTITUTES) (by rfl)) (@aI _ _ _ (aP 1 o3.nd (aQ bN (mv 1) (bI bX (mv 1) (aQ tG (cF bZ1 rfl G.b_int sP (aA (mv 2) aB)) aJ) (λ_ _=>rfl))))) (@aI _ _ _ (aP 1 o3.nd (aQ bN (mv 1) (mv 2)))))))) (@aI _ _ _ (aV (mv 1)))))),?_⟩
 walk_at "g";refine⟨a,zs,rfl,ha,hl,hz,λH1 s1=>?_⟩;have ha1:=aO s1 ha
 walk_at "g";cases hh:dF zs with
 |false=>
  walk_at "g";exact⟨by show 1<=sizeLine;decide,qe hh H1 s1⟩
 |true=>
  walk_at "g";have h7:=fJ hh
  refine iK (xs:=zs.map V.str) (λi σ H'=>∃v,σ=[some (.ref a),some (.str (aU (rdC ((zs.map lL).take i)))),v]/\H'=H1)
   ⟨none,rfl,rfl⟩ (λi σ H' _ ⟨_,_,e⟩=>by rw[e];exact ha1) ?_ ?_
  ·rintro i x σ H' hx ⟨v,rfl,rfl⟩;obtain⟨z,hzi,rfl⟩:=gX hx;obtain⟨c,rfl,hci,hcc⟩:=uT hh hzi;have hi:i<(zs.map lL).length:=(Ac.mp hci).1
   have hll:(zs.map lL).length=zs.length:=Ab ..
   have hrl:(rdC ((zs.map lL).take i)).length=i:=pZ (by omega)
   have hst:=xO hci
   generalize rdC ((zs.map lL).take i)=wd at hrl hst ⊢;have hwl:(aU wd).length=i:=(cC wd).trans hrl
   walk_at "g";rw[if_neg An,show subIn (one c) (Str.ofString "1234")=decide (eE c) from uU c];refine dZ (λhd=>?_) (λhd=>?_)
   ·have hs:=Az hd
    have hlt:c-49<i:=(hcc.resolve_left λl=>lF l hs).2
    have h49:49<=c:=hs.1
    walk_at "g";refine aX8 (uC hs) (by show 1<=640;decide) ?_
    walk_at "g";have e1:atI (aU wd).cps.toList ((c:Int)-48-1)=some (wd.getD (c-49) 0):=by
     rw[show ((c:Int)-48-1)=((c-49:Nat):Int) by omega]
     refine bB ?_;rw[bV,Ad,Aa (by omega)]
     rfl
    have h2:(⟨#[wd.getD (c-49) 0]⟩:Str).length=1:=rfl
    refine xE (by rw[hwl];exact bO (by omega)) e1 ?_
    walk_at "g";refine⟨some (.str (one c)),?_,rfl⟩;rw[hst,show stp wd c=wd.getD (c-49) 0 from if_pos hs,<-gR];rfl
   ·have hs:=Bm (Bs.mpr hd)
    have h2:(one c).length=1:=rfl
    walk_at "g";refine⟨some (.str (one c)),?_,rfl⟩;rw[hst,show stp wd c=c from if_neg hs,<-gR];rfl
  ·rintro σ H' ⟨v,rfl,rfl⟩;walk_at "g";have e:(zs.map lL).take (zs.map V.str).length=zs.map lL:=Be (by rw[Ab,Ab];exact Ai _)
   rw[e];exact q hh _ s1
abbrev Wt:=Nat×Nat
def dR(w:Wt):List Key:=[Sum.inl (w.1:Int),Sum.inl (w.2:Int)]
def pN{a b:Wt}(h:dR a=dR b):a=b:=by
 unfold dR at h;injection h with h1 h2
 injection h2 with h2 _
 have e1:=Sum.inl.inj h1
 have e2:=Sum.inl.inj h2
 exact Prod.ext (by omega) (by omega)
def fX(m:List (Wt×Nat))(w:Wt):Option Nat:=(m.find? λx=>decide (x.1=w)).map (·.2)
def eP(m:List (Wt×Nat))(f:Nat):List Wt:=(m.filter λx=>decide (x.2=f)).map (·.1)
def ctm(m:List (Wt×Nat))(f:Nat):Nat:=m.countP λx=>decide (x.2=f)
def fN{x:Wt×Nat}{m:List (Wt×Nat)}{w:Wt}:fX (x::m) w=if x.1=w then some x.2 else fX m w:=by
 unfold fX;rw[List.find?_cons];by_cases h:x.1=w
 ·simp[h]
 ·simp[h]
def dX5{m:List (Wt×Nat)}{w:Wt}{f:Nat}(h:fX m w=some f):(w,f)∈m:=by
 induction m with
 |nil=>cases h
 |cons x m ih=>
  rw[fN]at h;by_cases e:x.1=w
  ·rw[if_pos e]at h;cases h;rw[<-e];exact Aj
  ·rw[if_neg e]at h;exact Ak _ (ih h)
def xK{m:List (Wt×Nat)}(nd:(m.map (·.1)).Nodup){w:Wt}{f:Nat}(h:(w,f)∈m):fX m w=some f:=by
 induction m with
 |nil=>cases h
 |cons x m ih=>
  rw[fN];rw[Aw,Cy]at nd;rcases Bb.mp h with e|e
  ·rw[<-e,if_pos rfl]
  ·rw[if_neg (λz=>nd.1 (by rw[z];exact Bd.mpr ⟨_,e,rfl⟩)),ih nd.2 e]
def hget_none{m:List (Wt×Nat)}{w:Wt}:fX m w=none ↔ w∉m.map (·.1):=by
 induction m with
 |nil=>exact⟨λ_ z=>(nomatch z),λ_=>rfl⟩
 |cons x m ih=>
  rw[fN,Aw,Bb];by_cases e:x.1=w
  ·rw[if_pos e];exact⟨λz=>(nomatch z),λz=>absurd (Or.inl e.symm) z⟩
  ·rw[if_neg e,ih];exact⟨λz y=>y.elim (λq=>e q.symm) z,λz y=>z (Or.inr y)⟩
def by_mem{m:List (Wt×Nat)}{f:Nat}{w:Wt}:w∈eP m f ↔ (w,f)∈m:=by
 unfold eP;rw[Bd];constructor
 ·rintro⟨x,hx,rfl⟩;rw[Eu,Ck]at hx;rw[<-hx.2];exact hx.1
 ·intro h;exact⟨(w,f),Eu.mpr ⟨h,Ap rfl⟩,rfl⟩
def dXM(m:List (Wt×Nat))(f:Nat):(eP m f).length=ctm m f:=by
 unfold eP ctm;rw[Ab,List.countP_eq_length_filter]
structure Asking (ch:Wt->List Nat) (m:List (Wt×Nat)) (first:Wt) (A:List (Nat×Wt)):Prop where
 nd:(A.map (·.1)).Nodup
 ok:∀(j:Nat) f w,A[j]?=some (f,w)->f∈ch w/\(w=first\/∃(g:Nat) (i:Nat) (v:Wt),i<j/\A[i]?=some (g,v)/\fX m w=some g)
def cX(m:List (Wt×Nat))(first:Wt)(A:List (Nat×Wt)):List Wt:=first::(A.map (·.1)).flatMap (eP m)
def pA(m:List (Wt×Nat))(first:Wt)(A:List (Nat×Wt))(f:Nat)(w:Wt):cX m first (A++[(f,w)])=cX m first A++eP m f:=by
 unfold cX;rw[Am,Fe];simp
def reach_mem{m:List (Wt×Nat)}{first:Wt}{A:List (Nat×Wt)}{w:Wt}:w∈cX m first A ↔ w=first\/∃f∈A.map (·.1),(w,f)∈m:=by
 unfold cX;rw[Bb,Hl];constructor
 ·rintro(h|⟨f,hf,h⟩)
  ·exact .inl h
  ·exact .inr ⟨f,hf,by_mem.mp h⟩
 ·rintro(h|⟨f,hf,h⟩)
  ·exact .inl h
  ·exact .inr ⟨f,hf,by_mem.mpr h⟩
def aZ1(m:List (Wt×Nat)):∀ {fs:List Nat},fs.Nodup->(fs.flatMap (eP m)).length=m.countP (λx=>decide (x.2∈fs))
 |[],_=>by simp
 |f::fs,nd=>by
  rw[List.flatMap_cons,Af,dXM,aZ1 m (Cy.mp nd).2];have hf:=(Cy.mp nd).1
  unfold ctm;clear nd;induction m with
  |nil=>rfl
  |cons x m ih=>
   rw[En,En,En,<-ih];by_cases h1:x.2=f
   ·rw[if_pos (Ap h1),if_neg (by rw[Ck,h1];exact hf),if_pos (Ap (by rw[h1];exact Aj))]
    omega
   ·rw[if_neg (by rw[Ck];exact h1)]
    by_cases h2:x.2∈fs
    ·rw[if_pos (Ap h2),if_pos (Ap (Ak _ h2))];omega
    ·rw[if_neg (by rw[Ck];exact h2),if_neg (by rw[Ck];exact λz=>(Bb.mp z).elim h1 h2)]
     omega
def zA{m:List (Wt×Nat)}{first:Wt}{A:List (Nat×Wt)}(nd:(A.map (·.1)).Nodup):(cX m first A).length<=1+m.length:=by
 unfold cX;rw[Ba,aZ1 m nd];have:=List.countP_le_length (p:=λx:Wt×Nat=>decide (x.2∈A.map (·.1))) (l:=m)
 omega
def Asking.snoc{ch:Wt->List Nat}{m:List (Wt×Nat)}{first w:Wt}{A:List (Nat×Wt)}{f:Nat}(ndm:(m.map (·.1)).Nodup)(h:Asking ch m first A)(hf:f∉A.map (·.1))(hc:f∈ch w)(hw:w∈cX m first A):Asking ch m first (A++[(f,w)]):=by
 refine⟨?_,λj g v hj=>?_⟩
 ·rw[Am];exact List.nodup_append.mpr ⟨h.nd,by simp,λx hx y hy=>by rw[List.mem_singleton.mp hy];intro z;have z2:x=f:=z;rw[z2]at hx;exact hf hx⟩
 ·by_cases hlt:j<A.length
  ·rw[Ar hlt]at hj;obtain⟨h1,h2⟩:=h.ok j g v hj;refine⟨h1,h2.imp id ?_⟩;rintro⟨g',i,v',hi,hA,hg⟩;exact⟨g',i,v',hi,by rw[Ar (by omega)];exact hA,hg⟩
  ·have hj2:j=A.length:=by
    have:=(Ac.mp hj).1
    rw[Af]at this;have:j<A.length+1:=this
    omega
   subst hj2;rw[Av (Ai _),Ek]at hj;cases hj;refine⟨hc,?_⟩;rcases reach_mem.mp hw with e|⟨g',hg',hm⟩
   ·exact .inl e
   ·obtain⟨x,hx,rfl⟩:=Bd.mp hg';obtain⟨i,hi,ei⟩:=Bu.mp hx;exact .inr ⟨x.1,i,x.2,hi,by rw[Ar hi,Aa hi,ei],xK ndm hm⟩
structure Asked (ch:Wt->List Nat) (m:List (Wt×Nat)) (first:Wt) (A:List (Nat×Wt)):Prop extends Asking ch m first A where
 all1:∀f∈ch first,f∈A.map (·.1)
 all:∀w g,(w,g)∈m->g∈A.map (·.1)->∀f∈ch w,f∈A.map (·.1)
def Asking.done{ch:Wt->List Nat}{m:List (Wt×Nat)}{first:Wt}{A:List (Nat×Wt)}(h:Asking ch m first A)(hc:∀w∈cX m first A,∀f∈ch w,f∈A.map (·.1)):Asked ch m first A:=
 ⟨h,hc first (reach_mem.mpr (.inl rfl)),λw g hm hg=>hc w (reach_mem.mpr (.inr ⟨g,hg,hm⟩))⟩
def cQK(m:List (Wt×Nat))(w:Wt)(f:Nat):List (Wt×Nat):=if (fX m w).isSome=true then m.map λx=>if x.1=w then (x.1,f) else x else m++[(w,f)]
def dQ5{m:List (Wt×Nat)}{w v:Wt}{f:Nat}:fX (m.map λx=>if x.1=w then (x.1,f) else x) v=(fX m v).map λg=>if v=w then f else g:=by
 induction m with
 |nil=>rfl
 |cons x m ih=>
  rw[Aw,fN,fN,ih];by_cases e:x.1=w
  ·rw[if_pos e];by_cases e2:x.1=v
   ·rw[if_pos e2,if_pos e2,Ey,if_pos (e2.symm.trans e)]
   ·rw[if_neg e2,if_neg e2]
  ·rw[if_neg e];by_cases e2:x.1=v
   ·rw[if_pos e2,if_pos e2,Ey,if_neg (λz=>e (e2.trans z))]
   ·rw[if_neg e2,if_neg e2]
def keys_map{m:List (Wt×Nat)}{w:Wt}{f:Nat}:(m.map λx=>if x.1=w then (x.1,f) else x).map (·.1)=m.map (·.1):=by
 rw[Ca];refine Fd λx _=>?_;show (if x.1=w then (x.1,f) else x).1=x.1
 by_cases e:x.1=w
 ·rw[if_pos e]
 ·rw[if_neg e]
def eZ1{m:List (Wt×Nat)}{w:Wt}{f g:Nat}(nd:(m.map (·.1)).Nodup)(h:fX m w=some g)(c:Nat):ctm (m.map λx=>if x.1=w then (x.1,f) else x) c+(if c=g then 1 else 0)=ctm m c+(if c=f then 1 else 0):=by
 induction m with
 |nil=>cases h
 |cons x m ih=>
  rw[Aw,Cy]at nd;rw[fN]at h;unfold ctm at ih ⊢;rw[Aw,En,En];by_cases e:x.1=w
  ·rw [if_pos e] at h;cases h;have hm:(m.map λx=>if x.1=w then (x.1,f) else x)=m:=by
    refine(Fd λy hy=>?_).trans (List.map_id _);show (if y.1=w then (y.1,f) else y)=y
    rw[if_neg (λz=>nd.1 (by rw[e,<-z];exact Bd.mpr ⟨y,hy,rfl⟩))]
   rw[if_pos e,hm];have e1:(decide ((x.1,f).2=c)=true)=(c=f):=by rw[Ck];exact propext ⟨λz=>z.symm,λz=>z.symm⟩
   have e2:(decide (x.2=c)=true)=(c=x.2):=by rw[Ck];exact propext ⟨λz=>z.symm,λz=>z.symm⟩
   simp only[e1,e2];omega
  ·rw[if_neg e]at h;rw[if_neg e];have r:=ih nd.2 h
   omega
structure Along (ch:Wt->List Nat) (m0:List (Wt×Nat)) (A:List (Nat×Wt)) (f0:Nat) (m:List (Wt×Nat)) (c j:Nat) (w:Wt):Prop where
 keys:m.map (·.1)=m0.map (·.1)
 ok:∀v f,(v,f)∈m->f∈ch v
 ct:∀f,ctm m f+(if f=c then 1 else 0)=ctm m0 f+(if f=f0 then 1 else 0)
 at_:A[j]?=some (c,w)
 same:∀v g i u,fX m0 v=some g->A[i]?=some (g,u)->i<j->fX m v=some g
def dJL{A:List (Nat×Wt)}(nd:(A.map (·.1)).Nodup){g:Nat}{u v:Wt}(hi:A[i]?=some (g,u))(hj:A[j]?=some (g,v)):i=j:=by
 obtain⟨h1,e1⟩:=Ac.mp hi;obtain⟨h2,e2⟩:=Ac.mp hj;refine(Fy (h₀:=by rw[Ab];exact h1) (h₁:=by rw[Ab];exact h2) nd).mp ?_
 rw[Hm,Hm,e1,e2]
def Along.step{ch:Wt->List Nat}{m0 m:List (Wt×Nat)}{A:List (Nat×Wt)}{f0 c g:Nat}{first w v:Wt}(ha:Asking ch m0 first A)(nd0:(m0.map (·.1)).Nodup)(h:Along ch m0 A f0 m c j w)(hg:fX m0 w=some g)(hi:A[i]?=some (g,v))(hij:i<j):fX m w=some g/\Along ch m0 A f0 (m.map λx=>if x.1=w then (x.1,c) else x) g i v:=by
 have nd:(m.map (·.1)).Nodup:=by rw[h.keys];exact nd0
 have hw:=h.same w g i v hg hi hij
 refine⟨hw,keys_map.trans h.keys,λu f hu=>?_,λf=>?_,hi,λu g' i' u' h1 h2 h3=>?_⟩
 ·obtain⟨x,hx,e⟩:=Bd.mp hu;by_cases ex:x.1=w
  ·rw[if_pos ex]at e;cases e;rw[ex];exact(ha.ok j c w h.at_).1
  ·rw[if_neg ex]at e;exact h.ok u f (e▸hx)
 ·have r1:=eZ1 (f:=c) nd hw f
  have r2:=h.ct f
  omega
 ·rw[dQ5,h.same u g' i' u' h1 h2 (by omega),Ey]
  by_cases e:u=w
  ·subst e;rw[hg]at h1;cases h1;exact absurd (dJL ha.nd hi h2) (by omega)
  ·rw[if_neg e]
def Along.last{ch:Wt->List Nat}{m0 m:List (Wt×Nat)}{A:List (Nat×Wt)}{f0 c:Nat}{first:Wt}(ha:Asking ch m0 first A)(hf:first∉m0.map (·.1))(h:Along ch m0 A f0 m c j first):fX m first=none/\(m++[(first,c)]).map (·.1)=m0.map (·.1)++[first]/\(∀v f,(v,f)∈m++[(first,c)]->f∈ch v)/\∀f,ctm (m++[(first,c)]) f=ctm m0 f+(if f=f0 then 1 else 0):=by
 refine⟨hget_none.mpr (by rw[h.keys];exact hf),by rw[Am,h.keys];rfl,λv f hv=>?_,λf=>?_⟩
 ·rcases Bp.mp hv with e|e
  ·exact h.ok v f e
  ·cases Al.mp e;exact(ha.ok j c first h.at_).1
 ·have r:=h.ct f
  unfold ctm at r ⊢;rw[List.countP_append];have e:List.countP (λx:Wt×Nat=>decide (x.2=f)) [(first,c)]=if f=c then 1 else 0:=by
   rw[List.countP_singleton];by_cases z:f=c
   ·rw[if_pos z,if_pos (Ap z.symm)]
   ·rw[if_neg z,if_neg (by rw[Ck];exact λy=>z y.symm)]
  rw[e];exact r
def gQV(m:List (Wt×Nat))(first:Wt)(A:List (Nat×Wt))(wl:List Wt):List Wt:=wl.filter λw=>decide (w=first) || (match fX m w with|some g=>decide (g∈A.map (·.1))|none=>false)
def tP(cws:List (List Nat))(k:Nat):List Wt:=(List.range (cws.getD k []).length).map λj=>(k,1+j)
def wlP(cws:List (List Nat))(i:Nat):List Wt:=(List.range i).flatMap (tP cws)
def wl(cws:List (List Nat)):List Wt:=wlP cws cws.length
def wV(w:Wt):List V:=[.int (w.1:Int),.int (w.2:Int)]
def pM(cws:Q5)(i:Nat):wlP cws (i+1)=wlP cws i++tP cws i:=by
 unfold wlP;rw[Cd,Fe];simp
def wH(cws:Q5):∀i,oM cws i=(wlP cws i).map wV
 |0=>rfl
 |i+1=>by
  rw[mC,pM,Am,wH cws i];congr 1
  unfold bQ5 tP;rw[Ca];refine Fd λj _=>?_;show [V.int ((i:Nat):Int),V.int (1+(j:Int))]=[V.int ((i:Nat):Int),V.int ((1+j:Nat):Int)]
  rw[show ((1+j:Nat):Int)=1+(j:Int) by omega]
def wlP_mem{w:Wt}:∀ {i:Nat},w∈wlP cws i ↔ w.1<i/\1<=w.2/\w.2<=(cws.getD w.1 []).length:=fun {i}=>by
 unfold wlP tP;rw[Hl];constructor
 ·rintro⟨k,hk,h⟩;obtain⟨j,hj,rfl⟩:=Bd.mp h;have:=By.mp hk
  have:=By.mp hj
  exact⟨by omega,by show 1<=1+j;omega,by show 1+j<=(cws.getD k []).length;omega⟩
 ·rintro⟨h1,h2,h3⟩;refine⟨w.1,By.mpr h1,Bd.mpr ⟨w.2-1,By.mpr (by omega),?_⟩⟩
  exact Prod.ext rfl (by show 1+(w.2-1)=w.2;omega)
def wG(cws:Q5):∀i,(wlP cws i).Nodup
 |0=>List.nodup_nil
 |i+1=>by
  rw[pM];refine Hf.mpr ⟨wG cws i,?_,λa ha b hb e=>?_⟩
  ·unfold tP;exact List.Pairwise.map _ (λa b h=>λz=>h (by have:=Ds Prod.snd z;have e:1+a=1+b:=this;omega)) List.nodup_range
  ·subst e;have h1:=(wlP_mem.mp ha).1
   unfold tP at hb;obtain⟨j,_,rfl⟩:=Bd.mp hb;exact absurd h1 (Dz _)
def bZN(h7:∀c∈cws,c.length<=7)(i:Nat):(wlP cws i).length<=7*i:=by
 have:=oW h7 i
 rw[wH,Ab]at this;exact this
def chW(cws:List (List Nat))(w:Wt):List Nat:=chs (cws.getD w.1 []) (w.2-1)
def eI(ws:List Wt)(ds:List Addr):List (List Key×V):=List.zipWith (λw d=>(dR w,V.ref d)) ws ds
def fJZ(H:Hp)(r:Addr)(cws:List (List Nat))(i:Nat):Prop:=∃ds:List Addr,ds.length=i/\H r=some (.dT (eI ((wl cws).take i) ds))/\∀(j:Nat) w d,j<i->(wl cws)[j]?=some w->ds[j]?=some d->H d=some (.lst (((chW cws w).map one).map V.str))
def cXJ{ws:List Wt}(nd:ws.Nodup)(hl:ds.length=ws.length){w:Wt}{d:Addr}(hw:ws[j]?=some w)(hd:ds[j]?=some d):cR (eI ws ds) (dR w)=some (.ref d):=by
 induction ws generalizing ds j with
 |nil=>cases hw
 |cons x ws ih=>
  cases ds with
  |nil=>cases hl
  |cons e ds=>
   show cR ((dR x,V.ref e)::eI ws ds) _=_
   cases j with
   |zero=>cases hw;cases hd;exact cT rfl
   |succ j=>
    have hm:=Ao (show ws[j]?=some w from hw)
    rw[cO (λz=>(Cy.mp nd).1 (by rw[pN z];exact hm))]
    exact ih (List.nodup_cons.mp nd).2 (by simpa using hl) hw hd
def bZI{ws:List Wt}{w:Wt}(h:w∉ws):cR (eI ws ds) (dR w)=none:=by
 induction ws generalizing ds with
 |nil=>rfl
 |cons x ws ih=>
  cases ds with
  |nil=>rfl
  |cons e ds=>
   show cR ((dR x,V.ref e)::eI ws ds) _=_
   rw[cO (λz=>h (by rw[pN z];exact Aj))]
   exact ih λz=>h (Ak _ z)
def zJ{ws:List Wt}(hl:ds.length=ws.length):(eI ws ds).length=ws.length:=by
 unfold eI;rw[List.length_zipWith];omega
def bQR{ws:List Wt}{w:Wt}{d:Addr}(hl:ds.length=ws.length):eI (ws++[w]) (ds++[d])=eI ws ds++[(dR w,V.ref d)]:=by
 unfold eI;rw[List.zipWith_append (by omega)]
 rfl
def oF:Sp:=λvs H Q _=>∃(a:Addr) (cws:List (List Nat)),vs=[.ref a]/\rdL H a=some ((cws.map aU).map V.str)/\cws.length<=8/\(∀c∈cws,c.length<=7)/\
 ∀(r:Addr) (H':Hp),H r=none->Same H H'->fJZ H' r cws (wl cws).length->Q (.ref r) H'
def i0:FnScope ["words", "choices", "want"] ["words"] (aK kI):=by walk_at "sc"
def yM(F:Fun K "choices_of" "choices_of" kI f fd)(G:Gs K mg w Zo Zz Zq Zx Z0 Zt Zy Zw Zu Zv Zr Zs Zp)(i4:Cal P w K mg base 1 "wants_of" ["words"] tO)(i5:Cal P w K mg base 1 "choices_at" ["word", "place"] nU):FnOk P w K mg base CX0 2 f fd ["words"] oF:=by
 refine F.ok i0 (λvs H Q E h=>?_) (λcdv A outer s H vs Q E hr h=>?_)
 ·obtain⟨a,cws,rfl,_⟩:=h;rfl
 obtain⟨a,cws,rfl,ha,h8,h7,q⟩:=h;refine⟨_,(@aE _ _ _ _ _ (@bX1 _ _ 1 _ _ _ _ i0.nd (by rfl) (by exact(Or.inl rfl)) aJS (by rfl) (by walk_at "o")) (@aE _ _ _ _ _ (dA Bq rfl (cG (aZ i4 hr (by decide) rfl (aA (mv 0) aB))) (bF (i:=2) i0.nd rfl (Or.inl rfl)) (@aI _ _ _ (iM (Room.u1 hr) (mv 1) (mv 2) (aZ i5 hr (by decide) rfl (aA (bI bX (mv 0) (bI bX (mv 2) aJ (λ_ _=>rfl)) (λ_ _=>rfl)) (aA (bI bX (mv 2) aJ (λ_ _=>rfl)) aB))) rfl))) (@aI _ _ _ (aV (mv 1))))),?_⟩
 walk_at "g";intro pc hpc;walk_at "g";refine⟨a,cws,rfl,aO (aG hpc _) ha,h8,h7,λr ps H1 hr s1 e1 tp=>?_⟩;have s01:=(aG hpc (.dT [])).trans s1
 have ec1:=s1 _ _ (aH (H:=H) (a:=pc) (o:=.dT []))
 have hlw:(wl cws).length<=56:=Bi (bZN h7 _) (by omega)
 rw[wH]at tp;have hpl:ps.length=(wl cws).length:=by rw[tp.1,Ab];rfl
 have hpm:(ps.map V.ref).length=(wl cws).length:=by rw[Ab,hpl]
 have tat:∀(j:Nat) p w,ps[j]?=some p->(wl cws)[j]?=some w->H1 p=some (.tup (wV w)):=λj p w hp hw=>(tp.2 j p _ hp (by rw[Ag];exact Ds (Option.map wV) hw)).2
 have r1:=aR e1
 have hcr:pc≠r:=λz=>by rw[<-z,aH]at hr;cases hr
 walk_at "g";refine iK (xs:=ps.map V.ref) (λi σ H'=>∃(v:Option V),σ=[some (.ref a),some (.ref pc),v]/\Same H H'/\(∀b u,b≠pc->H1 b=some u->H' b=some u)/\fJZ H' pc cws i)
  ⟨_,rfl,s01,λb u _ h=>h,[],rfl,ec1,λj w d hj=>absurd hj (Nat.not_lt_zero _)⟩ (λi σ H' _ ⟨_,_,_,k,_⟩=>aR (k _ _ (Ne.symm hcr) e1)) ?_ ?_
 ·rintro i x σ H2 hx ⟨v,rfl,s2,k2,ds,dl,ed,hds⟩;rw[Ag]at hx;cases e:ps[i]? with
  |none=>rw[e]at hx;cases hx
  |some p=>
   rw[e]at hx;cases hx;have hi:i<(wl cws).length:=by rw[<-hpl];exact(Ac.mp e).1
   have ew:(wl cws)[i]?=some (wl cws)[i]:=Aa hi
   have hm:=wlP_mem.mp (Bk hi)
   have htp1:=tat i p _ e ew
   have hpne:p≠pc:=λz=>by rw[z,ec1]at htp1;cases htp1
   have ht:=k2 _ _ hpne htp1
   have hnew:(wl cws)[i]∉(wl cws).take i:=λz=>by
    obtain⟨j,hj,ej⟩:=Bu.mp z;rw[Bt]at hj;rw[List.getElem_take]at ej;have:=(Fy (wG cws cws.length)).mp ej
    omega
   have htk:(wl cws).take (i+1)=(wl cws).take i++[(wl cws)[i]]:=by rw[Bh,ew];rfl
   generalize hw:(wl cws)[i]=w at hm ht hnew htk ew;obtain⟨h1,h2,h3⟩:=hm;have ecw:cws[w.1]?=some (cws.getD w.1 []):=by rw[Ad,Aa h1];rfl
   have h7w:=h7 _ (Ao ecw)
   have ha2:=aO s2 ha
   walk_at "g";refine cK ht (v:=.int (w.1:Int)) rfl ?_;walk_at "g";refine cU ha2 (v:=.str (aU (cws.getD w.1 []))) (bB (by rw[Ag,Ag,ecw];rfl)) ?_
   walk_at "g";refine cK ht (v:=.int (w.2:Int)) rfl ?_;walk_at "g";refine⟨cws.getD w.1 [],w.2-1,_,rfl,by omega,by omega,h7w,λd H3 hd s3 e3=>?_⟩
   walk_at "g";have dl2:ds.length=((wl cws).take i).length:=by rw[dl,Bt];omega
   refine aXT (k:=dR w) (s3 _ _ ed) (s3 _ _ ht) (bL (by rw[zJ dl2,Bt];omega)) ?_
   have hdp:d≠pc:=λz=>by rw[z,ed]at hd;cases hd
   refine⟨_,rfl,bR hpc (s2.trans s3),λb u hb hu=>by rw[aM hb];exact s3 _ _ (k2 b u hb hu),ds++[d],by rw[Af,dl];rfl,?_,λj v' d' hj hv hd'=>?_⟩
   ·rw[aH,lQ _ (bZI hnew),htk,bQR dl2]
   ·by_cases hjl:j<i
    ·rw[Ar (by omega)]at hd'
     have hold:=hds j v' d' hjl hv hd'
     rw[aM (λz=>by rw[z,ed]at hold;cases hold)]
     exact s3 _ _ hold
    ·have hj2:j=i:=by omega
     subst hj2;rw[ew]at hv;cases hv;rw[Av (by omega),dl,Ek]at hd'
     cases hd';rw[aM hdp];exact e3
 ·rintro σ H2 ⟨v,rfl,s2,k2,hch⟩;rw[hpm]at hch;walk_at "g";exact q pc H2 hpc s2 hch
def iG(m:List (Wt×Nat)):List (List Key×V):=m.map λx=>(dR x.1,V.str (one x.2))
def mH(m:List (Wt×Nat))(w:Wt):cR (iG m) (dR w)=(fX m w).map λf=>V.str (one f):=by
 induction m with
 |nil=>rfl
 |cons x m ih=>
  show cR ((dR x.1,V.str (one x.2))::iG m) _=_
  rw[fN];by_cases e:x.1=w
  ·rw[if_pos e,cT (by show dR x.1=dR w;rw[e])]
   rfl
  ·rw[if_neg e,cO (λz=>e (pN z)),ih]
def gF(A:List (Nat×Wt))(bs:List Addr):List (Key×V):=List.zipWith (λx b=>(Sum.inr (one x.1),V.ref b)) A bs
def nE{A:List (Nat×Wt)}(hl:bs.length=A.length)(f:Nat):(cR (gF A bs) (Sum.inr (one f))).isSome=decide (f∈A.map (·.1)):=by
 induction A generalizing bs with
 |nil=>rfl
 |cons x A ih=>
  cases bs with
  |nil=>cases hl
  |cons b bs=>
   show (cR ((Sum.inr (one x.1),V.ref b)::gF A bs) _).isSome=_
   by_cases e:x.1=f
   ·rw[cT (by show (Sum.inr (one x.1):Key)=Sum.inr (one f);rw[e]),Ap (by rw[<-e];exact Aj)]
    rfl
   ·rw[cO (λz=>e (key_one.mp z)),ih (by simpa using hl)]
    exact Dy.mpr ⟨λz=>Ak _ z,λz=>(Bb.mp z).resolve_left λy=>e y.symm⟩
def cXM{A:List (Nat×Wt)}(hl:bs.length=A.length){f:Nat}(h:f∉A.map (·.1)):cR (gF A bs) (Sum.inr (one f))=none:=by
 have r:=nE hl f
 rw[As h]at r;cases e:cR (gF A bs) (Sum.inr (one f)) with
 |none=>rfl
 |some v=>rw[e]at r;cases r
def cXF{A:List (Nat×Wt)}{x:Nat×Wt}(hl:bs.length=A.length):gF (A++[x]) (bs++[b])=gF A bs++[(Sum.inr (one x.1),V.ref b)]:=by
 unfold gF;rw[List.zipWith_append (by omega)]
 rfl
def xM{A:List (Nat×Wt)}(hl:bs.length=A.length):(gF A bs).length=A.length:=by
 unfold gF;rw[List.length_zipWith];omega
def cJE{A:List (Nat×Wt)}(nd:(A.map (·.1)).Nodup)(hl:bs.length=A.length){f:Nat}{w:Wt}(hA:A[j]?=some (f,w))(hb:bs[j]?=some b):cR (gF A bs) (Sum.inr (one f))=some (.ref b):=by
 induction A generalizing bs j with
 |nil=>cases hA
 |cons x A ih=>
  cases bs with
  |nil=>cases hl
  |cons e bs=>
   show cR ((Sum.inr (one x.1),V.ref e)::gF A bs) _=_
   rw[Aw,Cy]at nd;cases j with
   |zero=>cases hA;cases hb;exact cT rfl
   |succ j=>
    have hm:f∈A.map (·.1):=Bd.mpr ⟨(f,w),Ao (show A[j]?=some (f,w) from hA),rfl⟩
    rw[cO (λz=>nd.1 (by rw[key_one.mp z];exact hm))]
    exact ih nd.2 (by simpa using hl) hA hb
def WtsAt(H:Hp)(rs:List Addr)(ws:List Wt):Prop:=rs.length=ws.length/\∀(j:Nat) r w,rs[j]?=some r->ws[j]?=some w->H r=some (.tup (wV w))
def WtsAt.keep{rs:List Addr}{ws:List Wt}(h:WtsAt H rs ws)(k:∀r w,H r=some (.tup (wV w))->H' r=some (.tup (wV w))):WtsAt H' rs ws:=⟨h.1,λj r w hr hw=>k _ _ (h.2 j r w hr hw)⟩
def WtsAt.app{rs qs:List Addr}{ws vs:List Wt}(h:WtsAt H rs ws)(g:WtsAt H qs vs):WtsAt H (rs++qs) (ws++vs):=by
 refine⟨by rw[Af,Af,h.1,g.1],λj r w hr hw=>?_⟩
 by_cases hj:j<rs.length
 ·rw[Ar hj]at hr;rw[Ar (by rw[<-h.1];exact hj)]at hw
  exact h.2 j r w hr hw
 ·rw[Av (by omega)]at hr
  rw[Av (by rw[<-h.1];omega),<-h.1]at hw
  exact g.2 _ r w hr hw
def WtsAt.one{w:Wt}(h:H r=some (.tup (wV w))):WtsAt H [r] [w]:=⟨rfl,λj q v hq hv=>by
 cases j with
 |zero=>cases hq;cases hv;exact h
 |succ j=>cases hq⟩
def ChRd(H:Hp)(r:Addr)(cws:List (List Nat)):Prop:=∃ds:List Addr,ds.length=(wl cws).length/\Rd H r (.dT (eI (wl cws) ds))/\∀(j:Nat) w d,(wl cws)[j]?=some w->ds[j]?=some d->H d=some (.lst (((chW cws w).map one).map V.str))
def ChRd.keep(h:ChRd H r cws)(s:Same H H'):ChRd H' r cws:=by
 obtain⟨ds,h1,h2,h3⟩:=h;exact⟨ds,h1,h2.elim (λe=>.inl (s _ _ e)) λ⟨o,e⟩=>.inr ⟨o,s _ _ e⟩,λj w d hw hd=>s _ _ (h3 j w d hw hd)⟩
structure HungOk (cws:List (List Nat)) (m:List (Wt×Nat)):Prop where
 nd:(m.map (·.1)).Nodup
 sub:∀x∈m,x.1∈wl cws
def eZ2(hL:∀c∈cws,c.length<=7/\∀d∈c,bA d){w:Wt}(hw:w∈wl cws){f:Nat}(hf:f∈chW cws w):rK f:=by
 obtain⟨h1,h2,h3⟩:=wlP_mem.mp hw;have ecw:cws[w.1]?=some (cws.getD w.1 []):=by rw[Ad,Aa h1];rfl
 rcases ch_iff.mp hf with e|⟨n,_,h4,_,e⟩
 ·rw[e];exact .inl (mL (hL _ (Ao ecw)).2 (by omega))
 ·rw[e];exact .inr ⟨by omega,by omega⟩
def eJA{m:List (Wt×Nat)}{first:Wt}{A:List (Nat×Wt)}(hm:HungOk cws m)(hfw:first∈wl cws)(h:Asking (chW cws) m first A){f:Nat}{w:Wt}(hj:A[j]?=some (f,w)):w∈wl cws:=by
 rcases (h.ok j f w hj).2 with e|⟨g,i,v,_,_,hg⟩
 ·rw[e];exact hfw
 ·exact hm.sub _ (dX5 hg)
def bZO{m:List (Wt×Nat)}{first:Wt}{A:List (Nat×Wt)}(hm:HungOk cws m)(hfw:first∈wl cws)(hL:∀c∈cws,c.length<=7/\∀d∈c,bA d)(h:Asking (chW cws) m first A):A.length<=27:=by
 have r:=aQ9 (m:=flagsT.cps.toList) h.nd λf hf=>by
  obtain⟨x,hx,rfl⟩:=Bd.mp hf;obtain⟨j,hj,e⟩:=Bu.mp hx;have hj2:A[j]?=some (x.1,x.2):=by rw[Aa hj,e]
  exact flags_mem.mpr (eZ2 hL (eJA hm hfw h hj2) (h.ok j _ _ hj2).1)
 rw[Ab]at r;exact r
def oJ:Sp:=λvs H Q _=>∃(bf ac ah:Addr) (cws:List (List Nat)) (m:List (Wt×Nat)) (first:Wt),vs=[.ref bf,.ref ac,.ref ah]/\H bf=some (.tup (wV first))/\first∈wl cws/\ChRd H ac cws/\H ah=some (.dT (iG m))/\HungOk cws m/\m.length<=56/\cws.length<=8/\(∀c∈cws,c.length<=7/\∀d∈c,bA d)/\
 ∀(r:Addr) (A:List (Nat×Wt)) (bs:List Addr) (H':Hp),H r=none->Same H H'->H' r=some (.dK (gF A bs))->WtsAt H' bs (A.map (·.2))->Asked (chW cws) m first A->Q (.ref r) H'
def wS:FnScope ["first", "choices", "hung", "asked", "reached", "at", "asking", "flag"] ["first", "choices", "hung"] (aK gO):=by walk_at "sc"
def yE(F:Fun K "asked_from" "asked_from" gO f fd):FnOk P w K mg base CX0 1 f fd ["first", "choices", "hung"] oJ:=by
 refine F.ok wS (λvs H Q E h=>?_) (λcdv A outer s H vs Q E hr h=>?_)
 ·obtain⟨bf,ac,ah,cws,m,first,rfl,_⟩:=h;rfl
 obtain⟨bf,ac,ah,cws,m,first,rfl,hbf,hfw,hch,hah,hm,hml,h8,hL,q⟩:=h
 refine⟨_,(@aE _ _ _ _ _ (aP 3 wS.nd vM) (@aE _ _ _ _ _ (aP 4 wS.nd (bJ (aA (mv 0) aB))) (@aE _ _ _ _ _ (aP 5 wS.nd aJ) (@aE _ _ _ _ _ (vE Bq (bC aXP (mv 5) (aX cQ rfl G.b_len bS (aA (mv 4) aB)) (bD _)) (@aE _ _ _ _ _ (aP 6 wS.nd (bI bX (mv 4) (mv 5) (λ_ _=>rfl))) (@aE _ _ _ _ _ (dA Bq rfl (cG (kE (Room.u1 hr) (mv 1) (mv 6) (λ_ _=>rfl))) (bF (i:=7) wS.nd rfl (Or.inr rfl)) (@aI _ _ _ (bZ (bC (aZ0 (Room.u1 hr)) (mv 7) (mv 3) (by rfl)) (@aE _ _ _ _ _ (iM (Room.u1 hr) (mv 3) (mv 7) (mv 6) rfl) (@aI _ _ _ (cH (cA Bg Dp Dq aQK (mv 4) (aA (cJQ (cJ rfl (qE (mv 2)) (fH (N:=["want", "flag", "hung"]) ["first", "choices", "hung", "asked", "reached", "at", "asking", "flag"] (aK gO) [none,some 7,some 2] rfl rfl rfl (λx h=>cE h) (by decide +kernel)) (by decide +kernel) rfl (by decide +kernel) (λ_ _ _ _=>(bF (i:=0) (show List.Nodup (["want", "flag", "hung"]:List Str) by decide +kernel) rfl (Or.inl rfl))) (λ_ _ _ _=>(jG (bC iE (kE (Room.u1 hr) (mv 2) (mv 0) (λ_ _=>rfl)) (mv 1) (bD _)))) (λ_ _ _ _=>(mv 0)))) aB))))) bH))) (@aI _ _ _ (aP 5 wS.nd (aQ bN (mv 5) aJ)))))) (@aI _ _ _ (aV (mv 3))))))),?_⟩
 walk_at "g";intro pa hpa;walk_at "g";refine⟨by show 1<=sizeLine;decide,λpr hpr=>?_⟩
 have s1:=(aG hpa (.dK [])).trans (aG hpr (.lst [.ref bf]))
 have npr:pa≠pr:=λz=>by rw[<-z,aH]at hpr;cases hpr
 have ea1:(upd (upd H pa (.dK [])) pr (.lst [.ref bf])) pa=some (.dK []):=by rw[aM npr,aH]
 have er1:(upd (upd H pa (.dK [])) pr (.lst [.ref bf])) pr=_:=aH
 have hpr0:H pr=none:=none_of (aG hpa _) hpr
 generalize upd (upd H pa (.dK [])) pr (.lst [.ref bf])=H1 at s1 ea1 er1 ⊢;walk_at "g";refine ⟨λn σ H'=>∃ (A:List (Nat×Wt)) (bs rs:List Addr) (t:Nat) (v1 v2:Option V),σ=[some (.ref bf),some (.ref ac),some (.ref ah),some (.ref pa),some (.ref pr),some (.int (t:Int)),v1,v2]/\Same H H'/\H' pa=some (.dK (gF A bs))/\WtsAt H' bs (A.map (·.2))/\H' pr=some (.lst (rs.map V.ref))/\WtsAt H' rs (cX m first A)/\
     Asking (chW cws) m first A/\t<=(cX m first A).length/\(∀(j:Nat) w,j<t->(cX m first A)[j]?=some w->∀f∈chW cws w,f∈A.map (·.1))/\n=1+m.length-t,⟨_,[],[],[bf],0,_,_,rfl,s1,ea1,⟨rfl,λj r w hr=>(nomatch hr)⟩,er1,.one (s1 _ _ hbf),⟨List.nodup_nil,λj f w hj=>(nomatch hj)⟩,Da _,λj w hj=>absurd hj (Nat.not_lt_zero _),rfl⟩,?_⟩
 rintro n σ H2 ⟨A,bs,rs,t,v1,v2,rfl,s2,ea2,wb2,er2,wr2,hask,htl,hcl,rfl⟩;have hrl:(rs.map V.ref).length=(cX m first A).length:=by rw[Ab,wr2.1]
 have rr2:=aR er2
 walk_at "g";rw[hrl];refine dZ (λhd=>?_) (λhd=>?_)
 ·have hd':=Az hd
  have ht:t<(cX m first A).length:=by omega
  have hrm:=zA (m:=m) (first:=first) hask.nd
  have htr:t<rs.length:=by rw[wr2.1];exact ht
  have ew:(cX m first A)[t]?=some (cX m first A)[t]:=Aa ht
  have er:rs[t]?=some rs[t]:=Aa htr
  have hwt:=wr2.2 t _ _ er ew
  have hww:(cX m first A)[t]∈wl cws:=by
   rcases reach_mem.mp (Bk ht) with e|⟨f,_,hm2⟩
   ·rw[e];exact hfw
   ·exact hm.sub _ hm2
  generalize hbw:rs[t]=b at hwt er;generalize hwe:(cX m first A)[t]=w at hwt hww ew
  clear hbw hwe hd hd';obtain⟨ds,d1,d2,d3⟩:=id hch;obtain⟨jw,hjw,ejw⟩:=Bu.mp hww;have ejw2:(wl cws)[jw]?=some w:=by rw[Aa hjw,ejw]
  have edw:ds[jw]?=some (ds[jw]'(by omega)):=Aa (by omega)
  have hdlH:=d3 jw w _ ejw2 edw
  have hdv:=cXJ (wG cws cws.length) d1 ejw2 edw
  generalize (ds[jw]'(by omega))=dl at hdlH hdv
  have hdl:=s2 _ _ hdlH
  have d22:Rd H2 ac (.dT (eI (wl cws) ds)):=d2.elim (λe=>.inl (s2 _ _ e)) λ⟨o,e⟩=>.inr ⟨o,s2 _ _ e⟩
  refine⟨λσ' H'=>∃(A:List (Nat×Wt)) (bs rs:List Addr) (v1 v2:Option V),σ'=[some (.ref bf),some (.ref ac),some (.ref ah),some (.ref pa),some (.ref pr),some (.int ((t+1:Nat):Int)),v1,v2]/\Same H H'/\H' pa=some (.dK (gF A bs))/\WtsAt H' bs (A.map (·.2))/\H' pr=some (.lst (rs.map V.ref))/\WtsAt H' rs (cX m first A)/\
   Asking (chW cws) m first A/\t+1<=(cX m first A).length/\(∀(j:Nat) w,j<t+1->(cX m first A)[j]?=some w->∀f∈chW cws w,f∈A.map (·.1)),?_,?_⟩
  ·rintro σ' H' ⟨A',bs',rs',v1',v2',rfl,g1,g2,g3,g4,g5,g6,g7,g8⟩;exact⟨1+m.length-(t+1),by omega,A',bs',rs',t+1,v1',v2',rfl,g1,g2,g3,g4,g5,g6,g7,g8,rfl⟩
  walk_at "g";refine cU rr2 (v:=.ref b) (bB (by rw[Ag,er];rfl)) ?_
  walk_at "g";refine bQO (k:=dR w) d22 hwt hdv ?_;have rdl:=aR hdl
  have hcl5:=(dZL (cws.getD w.1 []) (w.2-1)).2
  have hcm:(((chW cws w).map one).map V.str).length=(chW cws w).length:=by rw[Ab,Ab]
  walk_at "g";have kt:∀ {H':Hp} {p:Addr} {u u':HO},H' p=some u->(∀ws,u≠.tup ws)->∀r w,H' r=some (.tup (wV w))->(upd H' p u') r=some (.tup (wV w)):=fun {H' p u u'} e ne r w h=>by
   rw[aM (λz=>by rw[z,e]at h;cases h;exact ne _ rfl)]
   exact h
  refine iK (xs:=((chW cws w).map one).map V.str) (λi σ H'=>∃ (A:List (Nat×Wt)) (bs rs:List Addr) (v2:Option V),σ=[some (.ref bf),some (.ref ac),some (.ref ah),some (.ref pa),some (.ref pr),some (.int (t:Int)),some (.ref b),v2]/\Same H H'/\H' pa=some (.dK (gF A bs))/\WtsAt H' bs (A.map (·.2))/\H' pr=some (.lst (rs.map V.ref))/\WtsAt H' rs (cX m first A)/\
      H' b=some (.tup (wV w))/\Asking (chW cws) m first A/\(cX m first A)[t]?=some w/\(∀(j:Nat) v,j<t->(cX m first A)[j]?=some v->∀f∈chW cws v,f∈A.map (·.1))/\∀f∈(chW cws w).take i,f∈A.map (·.1))
   ⟨A,bs,rs,_,rfl,s2,ea2,wb2,er2,wr2,hwt,hask,ew,hcl,λf hf=>(nomatch hf)⟩ (λi σ H' _ ⟨_,_,_,_,_,e,_⟩=>aR (e _ _ hdlH)) ?_ ?_
  ·clear hask ew hcl hrm htl hrl rr2 wr2 er2 wb2 ea2 er;rintro i x σ H3 hx ⟨A,bs,rs,v2,rfl,s3,ea,wb,er,wr,hb,hask,ew,hcl,hpre⟩;rw[Ag,Ag]at hx;cases ef:(chW cws w)[i]? with
   |none=>rw[ef]at hx;cases hx
   |some f=>
    rw[ef]at hx;cases hx;have hfc:=Ao ef
    have htk:(chW cws w).take (i+1)=(chW cws w).take i++[f]:=by rw[Bh,ef];rfl
    have hbl:bs.length=A.length:=by rw[wb.1,Ab]
    have hAl:=bZO hm hfw hL hask
    walk_at "g";refine cJO (neg:=true) (z:=one f) (.inl ea) ?_;rw[if_pos rfl,nE hbl];refine dZ (λhd=>?_) (λhd=>?_)
    ·have hni:f∉A.map (·.1):=λz=>by rw[Ap z]at hd;cases hd
     walk_at "g";refine nF (z:=one f) ea (bL (by rw[xM hbl];omega)) ?_
     rw[lQ _ (cXM hbl hni),<-cXF (x:=(f,w)) hbl];have s4:Same H (upd H3 pa (.dK (gF (A++[(f,w)]) (bs++[b])))):=bR hpa s3
     have ea4:(upd H3 pa (.dK (gF (A++[(f,w)]) (bs++[b])))) pa=_:=aH
     have er4:(upd H3 pa (.dK (gF (A++[(f,w)]) (bs++[b])))) pr=_:=(aM (Ne.symm npr)).trans er
     have k4:=kt (u':=.dK (gF (A++[(f,w)]) (bs++[b]))) ea (λws z=>nomatch z)
     have wb4:=wb.keep k4
     have wr4:=wr.keep k4
     have hb4:=k4 _ _ hb
     generalize upd H3 pa (.dK (gF (A++[(f,w)]) (bs++[b])))=H4 at s4 ea4 er4 wb4 wr4 hb4 ⊢;have ah4:=s4 _ _ hah
     clear k4 wb wr er ea s3 hb;walk_at "g";refine aXD ah4 λo=>?_;have fz:(upd H4 ah (.frz o (.dT (iG m)))) ah=_:=aH
     have hkl:(iG m).length=m.length:=by unfold iG;rw[Ab]
     refine jB (n:=m.length) (λD i ys Hc=>Same (upd H4 ah (.frz o (.dT (iG m)))) Hc/\∃qs,ys=qs.map V.ref/\WtsAt Hc qs (eP (m.take i) f)) (bL (by omega)) (λD hD=>⟨aG hD _,[],rfl,rfl,λj r w hr=>(nomatch hr)⟩) (λD i ys Hc _ r h=>⟨r.1 _ _ fz,by omega⟩) (λD ys Hc _ r=>⟨r.1 _ _ fz,hkl⟩) ?_ ?_
     ·rintro D i2 ys Hc x H' A' B' hD hi2 ⟨sm,qs,rfl,wq⟩ hDc ⟨rfl,kv,b2,hkv,rfl,hb2⟩ hA' hB';have em:m[i2]?=some m[i2]:=Aa hi2
      unfold iG at hkv;rw[Ag,em]at hkv;cases hkv;have hbt:H' b2=some (.tup (wV m[i2].1)):=hb2
      have hv:cR (iG m) (dR m[i2].1)=some (.str (one m[i2].2)):=by
       rw[mH,xK hm.nd (w:=m[i2].1) (f:=m[i2].2) (Bk hi2)];rfl
      have tk:m.take (i2+1)=m.take i2++[m[i2]]:=by rw[Bh,em];rfl
      rw[tk]at hA' hB';generalize m[i2]=x2 at hbt hv hA' hB';walk_at "g";refine⟨Wk.set rfl (Wk.refl _),?_⟩;walk_at "g";refine bQO (k:=dR x2.1) (.inr ⟨o,sm _ _ fz⟩) hbt hv ?_;walk_at "g";rw[show decide (one x2.2=one f)=decide (x2.2=f) from bZK _ _];refine dZ (λhe=>?_) (λhe=>?_)
      ·have he':=Az he
       walk_at "g";refine hA' _ _ hDc ⟨bR hD sm,qs++[b2],by rw[Am];rfl,?_⟩
       rw[show eP (m.take i2++[x2]) f=eP (m.take i2) f++[x2.1] by unfold eP;rw[List.filter_append,List.map_append];simp[he']]
       exact(wq.app (.one hbt)).keep (kt hDc (λws z=>nomatch z))
      ·have he':=Bm (Bs.mpr he)
       walk_at "g";refine hB' _ hDc ⟨sm,qs,rfl,?_⟩;rw[show eP (m.take i2++[x2]) f=eP (m.take i2) f by unfold eP;rw[List.filter_append,List.map_append];simp[he']]
       exact wq
     ·rintro D ys Hc hD ⟨sm,qs,rfl,wq⟩ hDc _;rw [Cg] at wq;have hD4:H4 D=none:=by
       by_cases z:D=ah
       ·rw[z,aH]at hD;cases hD
       ·rw[aM z]at hD;exact hD
      have su:=wL ah4 (λo v z=>nomatch z) sm
      have eu:=fK (Hs:=H4) hDc (λo v z=>nomatch z)
      have wqu:WtsAt (unf H4 Hc) qs (eP m f):=wq.keep λr w h=>fK h (λo v z=>nomatch z)
      generalize unf H4 Hc=Hu at su eu wqu;have eru:=su _ _ er4
      have hmr:=bQ eru
      have hmd:=bQ eu
      have nDr:pr≠D:=bM er4 hD4
      have hq1:qs.length<=56:=by rw[wqu.1,dXM];unfold ctm;exact Bi List.countP_le_length hml
      have hr1:rs.length<=57:=by rw[wr4.1];exact Bi (zA hask.nd) (by omega)
      have hlen:(rs.map V.ref).length+(qs.map V.ref).length<=sizeLine:=bO (by rw[Ab,Ab];omega)
      walk_at "g";have kr:=kt (u':=.lst (rs.map V.ref++qs.map V.ref)) eru (λws z=>nomatch z)
      have hRt:=(Ac.mp ew).1
      refine⟨A++[(f,w)],bs++[b],rs++qs,_,rfl,bR hpr0 (s4.trans su),?_,?_,?_,?_,?_,hask.snoc hm.nd hni hfc (Ao ew),?_,λj v hj hv=>?_,λg hg=>?_⟩
      ·rw[aM npr];exact su _ _ ea4
      ·rw[Am];exact((wb4.keep λr w h=>su _ _ h).app (.one (su _ _ hb4))).keep kr
      ·rw[aH,Am]
      ·rw[pA];exact((wr4.keep λr w h=>su _ _ h).app wqu).keep kr
      ·exact kr _ _ (su _ _ hb4)
      ·rw[pA,Ar hRt];exact ew
      ·rw[pA,Ar (by omega)]at hv
       intro g hg;rw[Am];exact Co _ (hcl j v hj hv g hg)
      ·rw[htk]at hg;rw[Am];rcases Bp.mp hg with z|z
       ·exact Co _ (hpre g z)
       ·rw[Al.mp z];exact Bc _ (Al.mpr rfl)
    ·have hin:f∈A.map (·.1):=by
      rw[Bool.not_eq_true,Bool.not_eq_false']at hd;exact Az hd
     walk_at "g";refine⟨A,bs,rs,_,rfl,s3,ea,wb,er,wr,hb,hask,ew,hcl,λg hg=>?_⟩;rw[htk]at hg;rcases Bp.mp hg with z|z
     ·exact hpre g z
     ·rw[Al.mp z];exact hin
  ·clear hask ew hcl hrm htl hrl rr2 wr2 er2 wb2 ea2 er;rintro σ H3 ⟨A,bs,rs,v2,rfl,s3,ea,wb,er,wr,hb,hask,ew,hcl,hpre⟩;rw[hcm,Cg]at hpre;walk_at "g";refine⟨A,bs,rs,_,_,rfl,s3,ea,wb,er,wr,hask,(Ac.mp ew).1,λj v hj hv=>?_⟩;by_cases hjt:j<t
   ·exact hcl j v hjt hv
   ·have:j=t:=by omega
    subst this;rw[ew]at hv;cases hv;exact hpre
 ·have hd':=Bm (Bs.mpr hd)
  walk_at "g";refine q pa A bs H2 hpa s2 ea2 wb2 (hask.done λw hw f hf=>?_);obtain⟨j,hj,ej⟩:=Bu.mp hw;exact hcl j w (by omega) (by rw[Aa hj,ej]) f hf
def aZT{m:List (Wt×Nat)}{w:Wt}{f:Nat}:eV (iG m) (dR w) (.str (one f))=iG (cQK m w f):=by
 have e:((iG m).any λkv=>decide (kv.1=dR w))=(fX m w).isSome:=by
  rw[eZ,mH];cases fX m w<;>rfl
 unfold eV cQK;rw[e];by_cases h:(fX m w).isSome=true
 ·rw[if_pos h,if_pos h];unfold iG;rw[Ca,Ca];refine Fd λx _=>?_;show (if dR x.1=dR w then (dR x.1,V.str (one f)) else (dR x.1,V.str (one x.2)))=(λx:Wt×Nat=>(dR x.1,V.str (one x.2))) (if x.1=w then (x.1,f) else x)
  by_cases ex:x.1=w
  ·rw[if_pos ex,if_pos (by rw[ex])]
  ·rw[if_neg ex,if_neg (λz=>ex (pN z))]
 ·rw[if_neg h,if_neg h];unfold iG;rw[Am];rfl
def nQ:Sp:=λvs H Q _=>∃(aa ah:Addr) (cws:List (List Nat)) (m:List (Wt×Nat)) (first:Wt) (A:List (Nat×Wt)) (bs:List Addr) (f0:Nat),vs=[.str (one f0),.ref aa,.ref ah]/\H aa=some (.dK (gF A bs))/\WtsAt H bs (A.map (·.2))/\Asking (chW cws) m first A/\H ah=some (.dT (iG m))/\(m.map (·.1)).Nodup/\first∉m.map (·.1)/\(∀v f,(v,f)∈m->f∈chW cws v)/\f0∈A.map (·.1)/\m.length<=56/\
 ∀(m':List (Wt×Nat)) (H':Hp),(∀b u,b≠ah->H b=some u->H' b=some u)->H' ah=some (.dT (iG m'))->m'.map (·.1)=m.map (·.1)++[first]->(∀v f,(v,f)∈m'->f∈chW cws v)->(∀f,ctm m' f=ctm m f+(if f=f0 then 1 else 0))->Q .non H'
def o9:FnScope ["flag", "asked", "hung", "want", "given"] ["flag", "asked", "hung"] (aK kX):=by walk_at "sc"
def xV(F:Fun K "hang_along" "hang_along" kX f fd)(G:Gs K mg w Zo Zz Zq Zx Z0 Zt Zy Zw Zu Zv Zr Zs Zp):FnOk P w K mg base CX0 1 f fd ["flag", "asked", "hung"] nQ:=by
 refine F.ok o9 (λvs H Q E h=>?_) (λcdv A outer s H vs Q E hr h=>?_)
 ·obtain⟨aa,ah,cws,m,first,A,bs,f0,rfl,_⟩:=h;rfl
 obtain⟨aa,ah,cws,m,first,A,bs,f0,rfl,haa,hwb,hask,hah,nd,hnf,hmc,hf0,hml,q⟩:=h
 refine⟨_,(@aI _ _ _ (vE Bq (bC aQN (mv 0) dG (bD _)) (@aE _ _ _ _ _ (aP 3 o9.nd (kE (Room.u1 hr) (mv 1) (mv 0) (λ_ _=>rfl))) (@aE _ _ _ _ _ (aP 4 o9.nd (iD Bw Do (dX7 (Room.u1 hr)) (mv 2) (aA (mv 3) aB))) (@aE _ _ _ _ _ (iM (Room.u1 hr) (mv 2) (mv 3) (mv 0) rfl) (@aI _ _ _ (aP 0 o9.nd (mv 4)))))))),?_⟩;have hbl:bs.length=A.length:=by rw[hwb.1,Ab]
 have nah:aa≠ah:=λz=>by rw[z,hah]at haa;cases haa
 obtain⟨x0,hx0,e0⟩:=Bd.mp hf0;obtain⟨j0,hj0,ej0⟩:=Bu.mp hx0;have ej:A[j0]?=some (f0,x0.2):=by rw[Aa hj0,ej0,<-e0]
 walk_at "g";refine ⟨λn σ H'=>(∃ (m2:List (Wt×Nat)) (c j:Nat) (w:Wt) (v1 v2:Option V),σ=[some (.str (one c)),some (.ref aa),some (.ref ah),v1,v2]/\(∀ b u,b≠ah->H b=some u->H' b=some u)/\H' ah=some (.dT (iG m2))/\Along (chW cws) m A f0 m2 c j w/\n=j+1)\/
     (∃(m':List (Wt×Nat)) (v1 v2:Option V),σ=[some .non,some (.ref aa),some (.ref ah),v1,v2]/\(∀b u,b≠ah->H b=some u->H' b=some u)/\H' ah=some (.dT (iG m'))/\m'.map (·.1)=m.map (·.1)++[first]/\(∀v f,(v,f)∈m'->f∈chW cws v)/\(∀f,ctm m' f=ctm m f+(if f=f0 then 1 else 0))/\n=0),
  ⟨_,.inl ⟨m,f0,j0,x0.2,none,none,rfl,λb u _ h=>h,hah,⟨rfl,hmc,λf=>rfl,ej,λv g i u hg _ _=>hg⟩,rfl⟩⟩,?_⟩
 rintro n σ H2 (⟨m2,c,j,w,v1,v2,rfl,fr,eh,al,rfl⟩|⟨m',v1,v2,rfl,fr,eh,hk,hc,hct,rfl⟩)
 ·walk_at "g";rw[show (!decide (V.str (one c)=V.non))=true from rfl];walk_at "g";have hjl:=(Ac.mp al.at_).1
  have ebj:bs[j]?=some (bs[j]'(by omega)):=Aa (by omega)
  have hbt:=hwb.2 j _ w ebj (by rw[Ag,al.at_];rfl)
  have hav:=cJE hask.nd hbl al.at_ ebj
  generalize (bs[j]'(by omega))=b at hbt hav
  have nb:b≠ah:=λz=>by rw[z,hah]at hbt;cases hbt
  have haa2:=fr _ _ nah haa
  have hb2:=fr _ _ nb hbt
  have hkl:(iG m2).length<sizeLine:=by
   have:m2.length=m.length:=by rw[<-Ab (f:=(·.1)) (as:=m2),al.keys,Ab]
   unfold iG;rw[Ab];exact bL (by omega)
  have hdd:isD H2 ah=true:=by unfold isD;rw[eh]
  refine⟨_,λσ' H' h=>h,?_⟩;walk_at "g";refine aX9 (z:=one c) (.inl haa2) hav ?_;walk_at "g";refine bJT (k:=dR w) (.inl eh) hb2 ?_;rw[mH];have fr2:∀o,∀b u,b≠ah->H b=some u->(upd H2 ah o) b=some u:=λo b u hb hu=>by rw[aM hb];exact fr b u hb hu
  rcases (hask.ok j c w al.at_).2 with rfl|⟨g,i,v,hij,hi,hg⟩
  ·obtain⟨l1,l2,l3,l4⟩:=al.last hask hnf;rw[l1];walk_at "g";refine aXT (k:=dR w) eh hb2 hkl ?_;rw[aZT,show cQK m2 w c=m2++[(w,c)] by unfold cQK;rw[l1];rfl]
   walk_at "g";exact⟨0,by omega,.inr ⟨m2++[(w,c)],_,_,rfl,fr2 _,aH,l2,l3,l4,rfl⟩⟩
  ·obtain⟨l1,l2⟩:=al.step hask nd hg hi hij;rw[l1];walk_at "g";refine aXT (k:=dR w) eh hb2 hkl ?_;rw[aZT,show cQK m2 w c=m2.map λx=>if x.1=w then (x.1,c) else x by unfold cQK;rw[l1];rfl]
   walk_at "g";exact⟨i+1,by omega,.inl ⟨_,g,i,v,_,_,rfl,fr2 _,aH,l2,rfl⟩⟩
 ·walk_at "g";exact q m' H2 fr eh hk hc hct
def kW(aC:Addr):Sp:=λvs H Q _=>∃(ea p q:Addr) (xs ys:List V),vs=[.ref ea,.ref p,.ref q]/\H ea=some (dY ea aC none)/\rdL H p=some xs/\rdL H q=some ys/\
 ∀(dx l1 l2:Addr) (H':Hp),(∀b u,b≠ea->H b=some u->H' b=some u)->H dx=none->dx≠ea->H' ea=some (dY ea aC (some dx))->H' dx=some (xdO dx [("flags",.ref l2),("wants",.ref l1)])->H' l1=some (.lst xs)->H' l2=some (.lst ys)->H l1=none->H l2=none->Q .non H'
def aX3:FnScope ["self", "wants", "flags"] ["self", "wants", "flags"] (aK lY):=by walk_at "sc"
def aXJ(F:Fun K "__init__" "Lack.__init__" lY f fd):FnOk P w K mg base CX0 1 f fd ["self", "wants", "flags"] (kW Zo):=by
 refine F.ok aX3 (λvs H Q E h=>?_) (λcdv A outer s H vs Q E hr h=>?_)
 ·obtain⟨ea,p,q,xs,ys,rfl,_⟩:=h;rfl
 obtain⟨ea,p,q,xs,ys,rfl,he,hp,hq,qq⟩:=h;refine⟨_,(@aE _ _ _ _ _ (cH (qG rfl G.c_TowerError G.t1_TowerError G.t2_TowerError G.t3_TowerError (aA (mv 0) (aA (cF iY rfl G.b_list fD (aA (mv 1) aB)) (aA (cF iY rfl G.b_list fD (aA (mv 2) aB)) aB))))) (@aE _ _ _ _ _ (pX (mv 0) (cF iY rfl G.b_list fD (aA (mv 1) aB)) rfl) (@aI _ _ _ (pX (mv 0) (cF iY rfl G.b_list fD (aA (mv 2) aB)) rfl)))),?_⟩;walk_at "g";intro l1 hl1;have s1:=aG hl1 (.lst xs)
 generalize upd H l1 (.lst xs)=H1 at s1 ⊢;have hq1:=aO s1 hq
 walk_at "g";intro l2 hl2;have s2:=s1.trans (aG hl2 (.lst ys))
 generalize upd H1 l2 (.lst ys)=H2 at s2 ⊢;have he2:=s2 _ _ he
 walk_at "g";refine⟨ea,[.ref l1,.ref l2],Zo,Zz,none,rfl,by show 2<=sizeLine;decide,he2,(λ_ z=>nomatch z),G.xc_Lack,?_⟩
 have hp2:=aO s2 hp
 walk_at "g";intro l3 hl3;have s3:=s2.trans (aG hl3 (.lst xs))
 have e3:(upd H2 l3 (.lst xs)) l3=_:=aH
 generalize upd H2 l3 (.lst xs)=H3 at s3 e3 ⊢;have he3:=s3 _ _ he
 walk_at "g";refine⟨ea,Zo,Zz,rfl,G.xc_Lack,G.xn_Lack_wants,.inl ⟨he3,λdx hdx=>?_⟩⟩;have nde:dx≠ea:=λz=>by rw[z,he3]at hdx;cases hdx
 have fr4:∀b u,b≠ea->H b=some u->(upd (upd H3 ea (dY ea Zo (some dx))) dx (xdO dx [("wants",.ref l3)])) b=some u:=λb u hb hu=>by
  have e:=s3 _ _ hu
  rw[aM (λz=>by rw[z,hdx]at e;cases e),aM hb]
  exact e
 have ee4:(upd (upd H3 ea (dY ea Zo (some dx))) dx (xdO dx [("wants",.ref l3)])) ea=some (dY ea Zo (some dx)):=by rw[aM nde.symm,aH]
 have ed4:(upd (upd H3 ea (dY ea Zo (some dx))) dx (xdO dx [("wants",.ref l3)])) dx=_:=aH
 have n3e:l3≠ea:=λz=>by rw[z,he3]at e3;cases e3
 have n3d:l3≠dx:=λz=>by rw[z,hdx]at e3;cases e3
 have el4:(upd (upd H3 ea (dY ea Zo (some dx))) dx (xdO dx [("wants",.ref l3)])) l3=some (.lst xs):=by rw[aM n3d,aM n3e];exact e3
 have hqe:q≠ea:=λz=>by rw[z]at hq;unfold rdL at hq;rw[he]at hq;cases hq
 have hq4:rdL (upd (upd H3 ea (dY ea Zo (some dx))) dx (xdO dx [("wants",.ref l3)])) q=some ys:=by
  have hq3:=aO s3 hq
  rw[bX3 (λz=>by rw[z]at hq3;unfold rdL at hq3;rw[hdx]at hq3;cases hq3),bX3 hqe]
  exact hq3
 generalize upd (upd H3 ea (dY ea Zo (some dx))) dx (xdO dx [("wants",.ref l3)])=H4 at fr4 ee4 ed4 el4 hq4 ⊢;walk_at "g";intro l4 hl4;have s5:=aG hl4 (.lst ys)
 have e5:(upd H4 l4 (.lst ys)) l4=_:=aH
 have ee5:=s5 _ _ ee4
 have ed5:=s5 _ _ ed4
 have el5:=s5 _ _ el4
 have n4d:l4≠dx:=λz=>by rw[z,ed4]at hl4;cases hl4
 have n4e:l4≠ea:=λz=>by rw[z,ee4]at hl4;cases hl4
 have h40:H l4=none:=by
  cases e:H l4 with
  |none=>rfl
  |some u=>rw[fr4 _ _ n4e e]at hl4;cases hl4
 generalize upd H4 l4 (.lst ys)=H5 at s5 e5 ee5 ed5 el5 ⊢;walk_at "g";refine⟨ea,Zo,Zz,rfl,G.xc_Lack,G.xn_Lack_flags,.inr ⟨dx,_,ee5,ed5,(by show 1<100;decide),?_⟩⟩
 refine qq dx l3 l4 _ (λb u hb hu=>?_) (none_of s3 hdx) nde (by rw[aM nde.symm];exact ee5) aH (by rw[aM n3d];exact el5) (by rw[aM n4d];exact e5) (none_of s2 hl3) h40
 have e:=s5 _ _ (fr4 b u hb hu)
 rw[aM (λz=>by have q9:=s3 _ _ hu;rw[z,hdx]at q9;cases q9)]
 exact e
def ctn(fs:List Nat)(c:Nat):Nat:=fs.countP λx=>decide (x=c)
def iL(aC:Addr):Sp:=λvs H Q E=>∃(a b:Addr) (kvs:List (Key×V)) (f:Nat->Option Int) (cws:List (List Nat)),vs=[.ref a,.ref b]/\Rd H a (.dK kvs)/\Lk kvs f/\rdL H b=some ((cws.map aU).map V.str)/\cws.length<=8/\(∀c∈cws,c.length<=7/\∀d∈c,bA d)/\
 (∀(r:Addr) (ps:List Addr) (fs:List Nat) (H':Hp),H r=none->Same H H'->H' r=some (.lst (ps.map V.ref))->(∀p∈ps,p≠r)->Lsts H H' ps ((List.range cws.length).map (lI cws fs))->fs.length=(wl cws).length->(∀(j:Nat) w g,(wl cws)[j]?=some w->fs[j]?=some g->g∈chW cws w)->(∀c,(ctn fs c:Int)<=bE (cI (bE f)) c)->Q (.ref r) H')/\
 (∀(dx l1 l2:Addr) (x1 x2:List V) (H':Hp),Same H H'->H' dx=some (xdO dx [("flags",.ref l2),("wants",.ref l1)])->H' l1=some (.lst x1)->H' l2=some (.lst x2)->H l1=none->H l2=none->E (.ref aC) (some dx) H')
def z9:FnScope ["locker", "words", "choices", "left", "hung", "first", "asked", "free", "wants"] ["locker", "words"] (aK eQ):=by walk_at "sc"
def aZJ(F:Fun K "hang_all" "hang_all" eQ f fd)(i6:Cal P w K mg base 2 "choices_of" ["words"] oF)(y4:Cal P w K mg base 1 "plain_locker" ["locker"] dC)(i7:Cal P w K mg base 1 "hoists_of" ["words", "flags"] pP)(i8:Cal P w K mg base 1 "asked_from" ["first", "choices", "hung"] oJ)(i9:Cal P w K mg base 1 "hang_along" ["flag", "asked", "hung"] nQ)(v0:aJZ P w K mg base 1 Zo ["self", "wants", "flags"] (kW Zo)):FnOk P w K mg base (CXr P w) 3 f fd ["locker", "words"] (iL Zo):=by
 refine F.okX z9 (λvs H Q E h=>?_) (λcdv A outer s H vs Q E hr h=>?_)
 ·obtain⟨a,b,kvs,f,cws,rfl,_⟩:=h;rfl
 obtain⟨a,b,kvs,f,cws,rfl,ha,lk,hb,h8,hL,q,qe⟩:=h;refine⟨_,(@aE _ _ _ _ _ (aP 2 z9.nd (aZ i6 hr (by decide) rfl (aA (mv 1) aB))) (@aE _ _ _ _ _ (aP 3 z9.nd (aZ y4 hr (by decide) rfl (aA (mv 0) aB))) (@aE _ _ _ _ _ (@bX1 _ _ 4 _ _ _ _ z9.nd (by rfl) (by exact(Or.inr rfl)) aJS (by rfl) (by walk_at "o")) (@aE _ _ _ _ _ (bZD (dA PassesOwn.leaving rfl (qE (mv 2)) (bF (i:=5) z9.nd rfl (Or.inr rfl)) (@aE _ _ _ _ _ (aP 6 z9.nd (aZ i8 hr (by decide) rfl (aA (mv 5) (aA (mv 2) (aA (mv 4) aB))))) (@aE _ _ _ _ _ (bZD (fR (i:=7) z9.nd rfl (Or.inl rfl) rfl (eQJ (mv 6)) (fH (N:=["flag", "left"]) ["locker", "words", "choices", "left", "hung", "first", "asked", "free", "wants"] (aK eQ) [none,some 3] rfl rfl rfl (λx h=>cE h) (by decide +kernel)) (by decide +kernel) rfl (by decide +kernel) (λ_ _ _ _=>(bF (i:=0) (show List.Nodup (["flag", "left"]:List Str) by decide +kernel) rfl (Or.inl rfl))) (λ_ _ _ _=>(jG (bC bQS (iD Bw Do (aZK (Room.u1 hr)) (mv 1) (aA (mv 0) (aA aJ aB))) aJ (bD _)))) (λ_ _ _ _=>(mv 0)))) (@aE _ _ _ _ _ (bZ (bC (dZE hr.units0) (mv 7) (bJ aB) (bD _)) (@aE _ _ _ _ _ (bZD (fR (i:=8) z9.nd rfl (Or.inl rfl) rfl (qE (mv 2)) (fH (N:=["want", "first", "asked", "hung"]) ["locker", "words", "choices", "left", "hung", "first", "asked", "free", "wants"] (aK eQ) [none,some 5,some 6,some 4] rfl rfl rfl (λx h=>cE h) (by decide +kernel)) (by decide +kernel) rfl (by decide +kernel) (λ_ _ _ _=>(bF (i:=0) (show List.Nodup (["want", "first", "asked", "hung"]:List Str) by decide +kernel) rfl (Or.inl rfl))) (λ_ _ _ _=>(jG (PW.pt (oG (bC (fX3 hr.units0) (mv 0) (mv 1) (bD _)) (mR (bC (fXF (Room.u1 hr)) (iD Bw Do (dX7 (Room.u1 hr)) (mv 3) (aA (mv 0) aB)) (mv 2) (by rfl))))))) (λ_ _ _ _=>(mv 0)))) (@aI _ _ _ (jV eJ rfl rfl rfl G.c_Lack G.xm_Lack v0 hr (by decide) (aA (mv 8) (aA (cJ rfl (kT (eO rfl G.s_FLAGS)) (fH (N:=["flag", "asked"]) ["locker", "words", "choices", "left", "hung", "first", "asked", "free", "wants"] (aK eQ) [none,some 6] rfl rfl rfl (λx h=>cE h) (by decide +kernel)) (by decide +kernel) rfl (by decide +kernel) (λ_ _ _ _=>(bF (i:=0) (show List.Nodup (["flag", "asked"]:List Str) by decide +kernel) rfl (Or.inl rfl))) (λ_ _ _ _=>(jG (bC (fX2 (Room.u1 hr)) (mv 0) (mv 1) (by rfl)))) (λ_ _ _ _=>(mv 0))) aB))))) bH) (@aE _ _ _ _ _ (iM (Room.u1 hr) (mv 3) (bI bX (mv 7) aJ (λ_ _=>rfl)) (aQ tG (kE (Room.u1 hr) (mv 3) (bI bX (mv 7) aJ (λ_ _=>rfl)) (λ_ _=>rfl)) aJ) rfl) (@aI _ _ _ (cH (aZ i9 hr (by decide) rfl (aA (bI bX (mv 7) aJ (λ_ _=>rfl)) (aA (mv 6) (aA (mv 4) aB)))))))))))) (@aI _ _ _ (aV (aZ i7 hr (by decide) rfl (aA (mv 1) (aA (cJQ (cJ rfl (qE (mv 2)) (fH (N:=["want", "hung"]) ["locker", "words", "choices", "left", "hung", "first", "asked", "free", "wants"] (aK eQ) [none,some 4] rfl rfl rfl (λx h=>cE h) (by decide +kernel)) (by decide +kernel) rfl (by decide +kernel) (λ_ _ _ _=>(bF (i:=0) (show List.Nodup (["want", "hung"]:List Str) by decide +kernel) rfl (Or.inl rfl))) (λ_ _ _ _=>cZ) (λ_ _ _ _=>(kE (Room.u1 hr) (mv 1) (mv 0) (λ_ _=>rfl))))) aB))))))))),?_⟩
 have h7:∀c∈cws,c.length<=7:=λc hc=>(hL c hc).1
 have hlw:(wl cws).length<=56:=Bi (bZN h7 _) (by omega)
 walk_at "g";refine⟨b,cws,rfl,hb,h8,h7,λac H1 hac s1 hch=>?_⟩;walk_at "g";refine⟨a,kvs,f,rfl,ha.elim (λe=>.inl (s1 _ _ e)) (λ⟨o,e⟩=>.inr ⟨o,s1 _ _ e⟩),lk,λal H2 hal s2 el=>?_⟩;walk_at "g";intro ah hah;have s3:=s2.trans (aG hah (.dT []))
 have eh3:(upd H2 ah (.dT [])) ah=_:=aH
 have el3:=aG hah (.dT []) _ _ el
 generalize upd H2 ah (.dT [])=H3 at s3 eh3 el3 ⊢;obtain⟨ds,dl,ed,hds⟩:=hch;rw[Cg]at ed;have ed3:=s3 _ _ ed
 walk_at "g";refine aXD ed3 λo=>?_;have fz:(upd H3 ac (.frz o (.dT (eI (wl cws) ds)))) ac=_:=aH
 have kl:(eI (wl cws) ds).length=(wl cws).length:=zJ dl
 have nac:ah≠ac:=λz=>by have e:=s2 _ _ ed;rw[<-z,hah]at e;cases e
 have nla:al≠ac:=λz=>by rw[z,ed3]at el3;cases el3
 have nlh:al≠ah:=λz=>by rw[z,eh3]at el3;cases el3
 have s13:Same H1 H3:=s3
 have hah1:H1 ah=none:=none_of s2 hah
 generalize hn0:bE (cI (bE f))=n0;refine dX3 (λi σ H'=>∃(m:List (Wt×Nat)) (kl2:List (Key×V)) (fl:Nat->Option Int) (v5 v6 v7 v8:Option V),σ=[some (.ref a),some (.ref b),some (.ref ac),some (.ref al),some (.ref ah),v5,v6,v7,v8]/\(∀p u,p≠ac->p≠al->p≠ah->H1 p=some u->H' p=some u)/\H' ac=some (.frz o (.dT (eI (wl cws) ds)))/\H' ah=some (.dT (iG m))/\H' al=some (.dK kl2)/\Lk kl2 fl/\kl2.length<=27/\m.map (·.1)=(wl cws).take i/\(∀v g,(v,g)∈m->g∈chW cws v)/\(∀c,bE fl c=n0 c-(ctm m c:Int)/\0<=bE fl c))
  ⟨[],_,cI (bE f),_,_,_,_,rfl,λp u h1 h2 h3 hu=>by rw[aM h1];exact s13 _ _ hu,fz,by rw[aM nac];exact eh3,by rw[aM nla];exact el3,dW _,by unfold kvL;rw[Ab];exact kB _ _,rfl,(λv g hv=>nomatch hv),λc=>?_⟩ (λi σ H' _ ⟨_,_,_,_,_,_,_,_,_,e,_⟩=>e) ?_ ?_
 ·rw[hn0];refine⟨by show n0 c=n0 c-((0:Nat):Int);omega,?_⟩
  rw[<-hn0];show 0<=(cI (bE f) c).getD 0
  unfold cI;split
  ·rename_i h;exact Int.le_of_lt h.2
  ·exact Hq 0
 ·rintro i kv bf σ H4 hkv hbf ⟨m,kl2,fl,v5,v6,v7,v8,rfl,fr,ec,eh,el4,lkl,l27,hk,hmc,hct⟩;have hi:i<(wl cws).length:=by rw[<-kl];exact(Ac.mp hkv).1
  have ew:(wl cws)[i]?=some (wl cws)[i]:=Aa hi
  have ekv:kv=(dR (wl cws)[i],V.ref (ds[i]'(by omega))):=by
   unfold eI at hkv;rw[Fo,ew,Aa (show i<ds.length by omega)]at hkv
   exact(Bo hkv).symm
  rw[ekv]at hbf;have hnd:=wG cws cws.length
  have hfw:(wl cws)[i]∈wl cws:=Bk hi
  have htk:(wl cws).take (i+1)=(wl cws).take i++[(wl cws)[i]]:=by rw[Bh,ew];rfl
  have hfn:(wl cws)[i]∉m.map (·.1):=by
   rw[hk];intro z;obtain⟨j,hj,ej⟩:=Bu.mp z;rw[Bt]at hj;rw[List.getElem_take]at ej;have:=(Fy hnd).mp ej
   omega
  have hml:m.length<=56:=by
   have e:m.length=(m.map (·.1)).length:=(Ab _).symm
   rw[e,hk,Bt];omega
  have hmo:HungOk cws m:=⟨by rw[hk];exact hnd.sublist (Gv ..),λx hx=>List.mem_of_mem_take (by rw[<-hk];exact Bd.mpr ⟨x,hx,rfl⟩)⟩
  have hcr:ChRd H4 ac cws:=⟨ds,dl,.inr ⟨o,ec⟩,λj w d hw hd=>by
   have h1:=hds j w d (Ac.mp hw).1 hw hd
   exact fr d _ (λz=>by rw[z,ed]at h1;cases h1) (λz=>by rw[z,hal]at h1;cases h1) (λz=>by rw[z,hah1]at h1;cases h1) h1⟩
  replace hbf:H4 bf=some (.tup (wV (wl cws)[i])):=hbf
  clear ekv hkv;generalize (wl cws)[i]=first at hbf ew hfw htk hfn
  walk_at "g";refine⟨bf,ac,ah,cws,m,first,rfl,hbf,hfw,hcr,eh,hmo,hml,h8,hL,λpa A bs H5 hpa s5 ea wb hask=>?_⟩
  have el5:=s5 _ _ el4
  have hbl:bs.length=A.length:=by rw[wb.1,Ab]
  have hA27:=bZO hmo hfw hL hask.toAsking
  have hdl5:=rN el5
  walk_at "g";refine eZ4 ea λoa=>?_;have fza:(upd H5 pa (.frz oa (.dK (gF A bs)))) pa=_:=aH
  have nlp:al≠pa:=λz=>by rw[z,hpa]at el4;cases el4
  have elf:(upd H5 pa (.frz oa (.dK (gF A bs)))) al=_:=(aM nlp).trans el5
  refine jB (n:=A.length) (λD i ys Hc=>Same (upd H5 pa (.frz oa (.dK (gF A bs)))) Hc/\ys=((((A.take i).map (·.1)).filter λc=>decide (0<bE fl c)).map one).map V.str) (bL (by omega)) (λD hD=>⟨aG hD _,rfl⟩) (λD i ys Hc _ r h=>⟨r.1 _ _ fza,by rw[xM hbl];exact h⟩) (λD ys Hc _ r=>⟨r.1 _ _ fza,xM hbl⟩) ?_ ?_
  ·rintro D i2 ys Hc x H' A' B' hD hi2 ⟨sm,rfl⟩ hDc ⟨rfl,kv,hkv,rfl⟩ hA' hB';have eA:A[i2]?=some A[i2]:=Aa hi2
   unfold gF at hkv;rw[Fo,eA,Aa (show i2<bs.length by omega)]at hkv
   cases hkv;have tk:A.take (i2+1)=A.take i2++[A[i2]]:=by rw[Bh,eA];rfl
   rw[tk,Am,Gk]at hA' hB';generalize A[i2]=xa at hA' hB';have elc:=sm _ _ elf
   have hdc:=rN elc
   dsimp only[kV];walk_at "g";refine⟨Wk.set rfl (Wk.refl _),?_⟩;walk_at "g";refine bJU (z:=one xa.1) (.inl elc) ?_;rw[lkl.val xa.1,uH];walk_at "g";refine dZ (λhe=>?_) (λhe=>?_)
   ·have he':=Az he
    walk_at "g";refine hA' _ _ hDc ⟨bR hD sm,?_⟩;rw[show ([xa].map (·.1)).filter (λc=>decide (0<bE fl c))=[xa.1] by simp[he'],List.map_append,List.map_append]
    rfl
   ·have he':=Bm (Bs.mpr he)
    walk_at "g";refine hB' _ hDc ⟨sm,?_⟩;rw[show ([xa].map (·.1)).filter (λc=>decide (0<bE fl c))=[] by simp;omega,List.append_nil]
  ·rintro D ys Hc hD ⟨sm,rfl⟩ hDc _;rw[Cg]at hDc;have su:=wL ea (λo v z=>nomatch z) sm
   have eu:=fK (Hs:=H5) hDc (λo v z=>nomatch z)
   refine aQR ?_;unfold cZD;dsimp only;generalize unf H5 Hc=H6 at su eu ⊢;have s46:=s5.trans su
   have ea6:=su _ _ ea
   have wb6:WtsAt H6 bs (A.map (·.2)):=wb.keep λr w h=>su _ _ h
   have ec6:=s46 _ _ ec
   have eh6:=s46 _ _ eh
   have el6:=s46 _ _ el4
   have hbf6:=s46 _ _ hbf
   have fr6:∀p u,p≠ac->p≠al->p≠ah->H1 p=some u->H6 p=some u:=λp u h1 h2 h3 hu=>s46 _ _ (fr p u h1 h2 h3 hu)
   have hD4:H4 D=none:=by
    have h5:H5 D=none:=by
     by_cases z:D=pa
     ·rw[z,aH]at hD;cases hD
     ·rw[aM z]at hD;exact hD
    exact none_of s5 h5
   clear sm hDc hD fza elf hdl5 el5;walk_at "g";refine⟨by decide,λpe hpe=>?_⟩
   refine bZ3 (neg:=false) (aO (aG hpe _) (aR eu)) bP (cY _) rfl ?_;have s67:=aG hpe (.lst [])
   generalize upd H6 pe (.lst [])=H7 at s67 ⊢;have en:∀xs:List V,kH xs []=xs.isEmpty:=λxs=>by cases xs<;>rfl
   rw[if_neg (by decide),en]
   cases hfr:(A.map (·.1)).filter (λc=>decide (0<bE fl c)) with
   |nil=>
    rw[hfr]at eu;rw[show (List.map V.str (List.map one [])).isEmpty=true from rfl];have ec7:=s67 _ _ ec6
    have eh7:=s67 _ _ eh6
    have ea7:=s67 _ _ ea6
    have hbf7:=s67 _ _ hbf6
    have fr7:∀p u,p≠ac->p≠al->p≠ah->H1 p=some u->H7 p=some u:=λp u h1 h2 h3 hu=>s67 _ _ (fr6 p u h1 h2 h3 hu)
    clear eu wb6 hpe s67 fr6 fr ec6 eh6 ea6 hbf6 el6 su hD4 s46 hpa s5 ea wb el4 nlp;walk_at "g";refine dQ2 ec7 ?_;refine jB (n:=(wl cws).length) (λD i ys Hc=>Same H7 Hc/\∃rs:List Addr,ys=rs.map V.ref) (bL (by omega)) (λD hD=>⟨aG hD _,[],rfl⟩) (λD i ys Hc _ r h=>⟨r.1 _ _ ec7,by rw[kl];exact h⟩) (λD ys Hc _ r=>⟨r.1 _ _ ec7,kl⟩) ?_ ?_
    ·rintro D i2 ys Hc x H' A' B' hD hi2 ⟨sm,rs,rfl⟩ hDc ⟨rfl,kv,bk,hkv,rfl,hbk⟩ hA' hB';have ew2:(wl cws)[i2]?=some (wl cws)[i2]:=Aa hi2
     have ekv:kv=(dR (wl cws)[i2],V.ref (ds[i2]'(by omega))):=by
      unfold eI at hkv;rw[Fo,ew2,Aa (show i2<ds.length by omega)]at hkv
      exact(Bo hkv).symm
     rw[ekv]at hbk;replace hbk:H' bk=some (.tup (wV (wl cws)[i2])):=hbk
     clear ekv hkv ew2;generalize (wl cws)[i2]=wx at hbk;have ehc:=sm _ _ eh7
     have eac:=sm _ _ ea7
     have hfc:=sm _ _ hbf7
     have yes:A' (.ref bk) H':=hA' _ _ hDc ⟨bR hD sm,rs++[bk],by rw[Am];rfl⟩
     have no:B' H':=hB' _ hDc ⟨sm,rs,rfl⟩
     clear hA' hB';walk_at "g";refine⟨Wk.set rfl (Wk.refl _),?_⟩;walk_at "g";refine fZR hbk hfc ?_;have hd2:decide ((wx.1:Int)=(first.1:Int)/\(wx.2:Int)=(first.2:Int))=decide (wx=first):=Dy.mpr ⟨λh=>Prod.ext (by omega) (by omega),λh=>by rw[h];exact⟨rfl,rfl⟩⟩
     rw[hd2];by_cases e:wx=first
     ·rw[Ap e];walk_at "g";exact yes
     ·rw[As e];have hdd:isD H' ah=true:=by unfold isD;rw[ehc]
      walk_at "g";refine bJT (k:=dR wx) (.inl ehc) hbk ?_;rw[mH];cases eg:fX m wx with
      |none=>
       refine eJ9 (.inl eac) ?_;walk_at "g";exact no
      |some g=>
       refine dJI (z:=one g) (.inl eac) ?_;rw[nE hbl];refine dZ (λhg=>?_) (λhg=>?_)
       ·walk_at "g";exact yes
       ·walk_at "g";exact no
    ·rintro D ys Hc hD ⟨sm,rs,rfl⟩ hDc _;have su:=cQ8 sm
     have eu:=fK (Hs:=H7) hDc (λo v z=>nomatch z)
     refine aQR ?_;unfold cZD;dsimp only;generalize unf H7 Hc=H8 at su eu ⊢;have ea8:=su _ _ ea7
     walk_at "g";refine aXZ (λc=>if decide (c∈A.map (·.1))=true then some (.str (one c)) else none) (by decide) (λi3 c Hc2 A' B' hc sm2 hA'=>?_) (λD2 H9 hD2 s9 hr9=>?_)
     ·have r:=hA' _ (Same.refl _)
      walk_at "g";refine⟨Wk.set rfl (Wk.refl _),?_⟩;walk_at "g";refine cJO (z:=one c) (neg:=false) (.inl (sm2 _ _ ea8)) ?_;rw[if_neg (by decide),nE hbl]
      refine dZ (λhg=>?_) (λhg=>?_)
      ·rw[if_pos hg]at r;walk_at "g";exact r
      ·rw[if_neg hg]at r;exact r
     ·have eD9:=s9 _ _ eu
      walk_at "g";refine⟨by show 2<=sizeLine;decide,λea hea=>⟨ea,D,D2,_,_,rfl,aH,aO (aG hea _) (aR eD9),aO (aG hea _) (aR hr9),λdx l1 l2 H' frx hdx nde e1 e2 e3 e4 hl1 hl2=>⟨rfl,some dx,e1,?_⟩⟩⟩
      have go9:∀b u,H9 b=some u->(del H' ea) b=some u:=λb u hu=>by
       have nb:b≠ea:=λz=>by rw[z,hea]at hu;cases hu
       rw[fO nb];exact frx b u nb (by rw[aM nb];exact hu)
      have hto:∀b u,H b=some u->H9 b=some u:=λb u hu=>by
       refine s9 _ _ (su _ _ (fr7 b u (λz=>by rw[z,hac]at hu;cases hu) (λz=>?_) (λz=>?_) (s1 _ _ hu)))
       ·have:=s1 _ _ hu
        rw[z,hal]at this;cases this
       ·have:=s1 _ _ hu
        rw[z,hah1]at this;cases this
      have n1:l1≠ea:=λz=>by rw[z,e1]at e3;cases e3
      have n2:l2≠ea:=λz=>by rw[z,e1]at e4;cases e4
      exact qe dx l1 l2 _ _ (del H' ea) (λb u hu=>go9 _ _ (hto b u hu)) ((fO nde).trans e2) ((fO n1).trans e3) ((fO n2).trans e4) (none_of hto (by rw[aM n1]at hl1;exact hl1)) (none_of hto (by rw[aM n2]at hl2;exact hl2))
   |cons f0 fr0=>
    rw[hfr]at eu;rw[show (List.map V.str (List.map one (f0::fr0))).isEmpty=false from rfl];have hf0m:f0∈(A.map (·.1)).filter (λc=>decide (0<bE fl c)):=by rw[hfr];exact Aj
    rw[Eu,Ck]at hf0m;obtain⟨hf0A,hf0p⟩:=hf0m;obtain⟨n1,hn1⟩:∃n1,fl f0=some n1:=by
     cases e:fl f0 with
     |none=>rw[show bE fl f0=0 by unfold bE;rw[e];rfl]at hf0p;omega
     |some n=>exact⟨n,rfl⟩
    have hcn1:bE fl f0=n1:=by unfold bE;rw[hn1];rfl
    have el7:=s67 _ _ el6
    have ea7:=s67 _ _ ea6
    have eh7:=s67 _ _ eh6
    have ec7:=s67 _ _ ec6
    have eD7:=s67 _ _ eu
    have wb7:WtsAt H7 bs (A.map (·.2)):=wb6.keep λr w h=>s67 _ _ h
    have hdl7:=rN el7
    have at0:atI (List.map V.str (List.map one (f0::fr0))) 0=some (V.str (one f0)):=bB (show (List.map V.str (List.map one (f0::fr0)))[0]?=some (V.str (one f0)) from rfl)
    walk_at "g";refine cU (aR eD7) (v:=.str (one f0)) at0 ?_;walk_at "g";refine aX9 (z:=one f0) (.inl el7) (by rw[lkl.val f0,hn1];rfl) ?_
    walk_at "g";refine cU (aR eD7) (v:=.str (one f0)) at0 ?_;walk_at "g";refine nF (z:=one f0) el7 (bL (by omega)) ?_
    have nDl:D≠al:=λz=>by rw[z]at hD4;rw[hD4]at el4;cases el4
    have npl:pa≠al:=λz=>by rw[z]at hpa;rw[hpa]at el4;cases el4
    have nhl:ah≠al:=Ne.symm nlh
    have ncl:ac≠al:=Ne.symm nla
    have el8:(upd H7 al (.dK (eV kl2 (Sum.inr (one f0)) (V.int (n1-1))))) al=_:=aH
    have ea8:(upd H7 al (.dK (eV kl2 (Sum.inr (one f0)) (V.int (n1-1))))) pa=_:=(aM npl).trans ea7
    have eh8:(upd H7 al (.dK (eV kl2 (Sum.inr (one f0)) (V.int (n1-1))))) ah=_:=(aM nhl).trans eh7
    have ec8:(upd H7 al (.dK (eV kl2 (Sum.inr (one f0)) (V.int (n1-1))))) ac=_:=(aM ncl).trans ec7
    have eD8:(upd H7 al (.dK (eV kl2 (Sum.inr (one f0)) (V.int (n1-1))))) D=_:=(aM nDl).trans eD7
    have wb8:WtsAt (upd H7 al (.dK (eV kl2 (Sum.inr (one f0)) (V.int (n1-1))))) bs (A.map (·.2)):=wb7.keep λr w h=>by
     rw[aM (λz=>by rw[z,el7]at h;cases h)]
     exact h
    have fr8:∀p u,p≠ac->p≠al->p≠ah->H1 p=some u->(upd H7 al (.dK (eV kl2 (Sum.inr (one f0)) (V.int (n1-1))))) p=some u:=λp u h1 h2 h3 hu=>by
     rw[aM h2];exact s67 _ _ (fr6 p u h1 h2 h3 hu)
    generalize upd H7 al (.dK (eV kl2 (Sum.inr (one f0)) (V.int (n1-1))))=H8 at el8 ea8 eh8 ec8 eD8 wb8 fr8 ⊢;walk_at "g";refine cU (aR eD8) (v:=.str (one f0)) at0 ?_;walk_at "g";refine⟨pa,ah,cws,m,first,A,bs,f0,rfl,ea8,wb8,hask.toAsking,eh8,hmo.nd,hfn,hmc,hf0A,hml,λm' H9 fr9 eh9 hk9 hc9 hct9=>?_⟩
    walk_at "g";refine⟨m',_,_,_,_,_,_,rfl,λp u h1 h2 h3 hu=>fr9 p u h3 (fr8 p u h1 h2 h3 hu),fr9 _ _ (Ne.symm nac) ec8,eh9,fr9 _ _ nlh el8,lkl.put f0 (n1-1),?_,?_,hc9,λc=>?_⟩
    ·have hv:cR kl2 (Sum.inr (one f0))≠none:=by rw[lkl.val f0,hn1];exact λz=>nomatch z
     have e:=Ds List.length (bQC kl2 (Sum.inr (one f0)) (.int (n1-1)) hv)
     rw[Ab,Ab]at e;omega
    ·rw[hk9,hk,htk]
    ·have h1:=hct c
     have h2:=hct9 c
     have h3:bE (λd=>if d=f0 then some (n1-1) else fl d) c=if c=f0 then n1-1 else bE fl c:=by
      show ((if c=f0 then some (n1-1) else fl c):Option Int).getD 0=_
      by_cases z:c=f0
      ·rw[if_pos z,if_pos z];rfl
      ·rw[if_neg z,if_neg z];rfl
     rw[h3];by_cases z:c=f0
     ·subst z;rw[if_pos rfl]at h2 ⊢;omega
     ·rw[if_neg z]at h2 ⊢;omega
 ·rintro σ H4 ⟨m,kl2,fl,v5,v6,v7,v8,rfl,fr,ec,eh,el4,lkl,l27,hk,hmc,hct⟩;rw[kl,Cg]at hk;have ec5:=aXY (Hs:=H3) ec (λo v z=>by rw[ed3]at z;cases z)
  have eh5:=fK (Hs:=H3) eh (λo v z=>nomatch z)
  have sh5:Same H (unf H3 H4):=λb u hu=>by
   have h1:=s1 _ _ hu
   have h4:=fr b u (λz=>by rw[z,hac]at hu;cases hu) (λz=>by rw[z,hal]at h1;cases h1) (λz=>by rw[z,hah1]at h1;cases h1) h1
   by_cases hf:∃o v,u=.frz o v
   ·obtain⟨o',v',rfl⟩:=hf;exact rE h4 (s13 _ _ h1)
   ·exact fK h4 λo v z=>hf ⟨o,v,z⟩
  unfold cZD;dsimp only;generalize unf H3 H4=H5 at ec5 eh5 sh5 ⊢;have hml:m.length=(wl cws).length:=by rw[<-hk,Ab]
  have hnd:(m.map (·.1)).Nodup:=by rw[hk];exact wG cws cws.length
  walk_at "g";refine aXD ec5 λo2=>?_;have fz2:(upd H5 ac (.frz o2 (.dT (eI (wl cws) ds)))) ac=_:=aH
  have eh6:(upd H5 ac (.frz o2 (.dT (eI (wl cws) ds)))) ah=_:=(aM nac).trans eh5
  refine jB (n:=(wl cws).length) (λD i ys Hc=>Same (upd H5 ac (.frz o2 (.dT (eI (wl cws) ds)))) Hc/\ys=(((m.take i).map (·.2)).map one).map V.str) (bL (by omega)) (λD hD=>⟨aG hD _,rfl⟩) (λD i ys Hc _ r h=>⟨r.1 _ _ fz2,by rw[kl];exact h⟩) (λD ys Hc _ r=>⟨r.1 _ _ fz2,kl⟩) ?_ ?_
  ·rintro D i2 ys Hc x H' A' B' hD hi2 ⟨sm,rfl⟩ hDc ⟨rfl,kv,bk,hkv,rfl,hbk⟩ hA' hB';have ew2:(wl cws)[i2]?=some (wl cws)[i2]:=Aa hi2
   have ekv:kv=(dR (wl cws)[i2],V.ref (ds[i2]'(by omega))):=by
    unfold eI at hkv;rw[Fo,ew2,Aa (show i2<ds.length by omega)]at hkv
    exact(Bo hkv).symm
   rw[ekv]at hbk;have em:m[i2]?=some m[i2]:=Aa (by omega)
   have e1:m[i2].1=(wl cws)[i2]:=by
    have e0:(m.map (·.1))[i2]?=some (wl cws)[i2]:=by rw[hk];exact ew2
    rw[Ag,em]at e0;exact Bo e0
   have tk:m.take (i2+1)=m.take i2++[m[i2]]:=by rw[Bh,em];rfl
   rw[tk]at hA';replace hbk:H' bk=some (.tup ((dR m[i2].1).map kV)):=by rw[e1];exact hbk
   have hval:cR (iG m) (dR m[i2].1)=some (.str (one m[i2].2)):=by
    have hm2:(m[i2].1,m[i2].2)∈m:=Ao em
    rw[mH,xK hnd hm2];rfl
   clear ekv hkv ew2 tk e1 em;generalize m[i2]=mx at hbk hA' hval;have ehc:=sm _ _ eh6
   walk_at "g";refine⟨Wk.set rfl (Wk.refl _),?_⟩;walk_at "g";refine bQO (k:=dR mx.1) (.inl ehc) hbk hval ?_;refine hA' _ _ hDc ⟨bR hD sm,?_⟩;rw[Am,Am,Am];rfl
  ·rintro D ys Hc hD ⟨sm,rfl⟩ hDc _;rw[<-hml,Cg]at hDc;have su:=wL ec5 (λo v z=>nomatch z) sm
   have eu:=fK (Hs:=H5) hDc (λo v z=>nomatch z)
   generalize unf H5 Hc=H6 at su eu ⊢;have s06:=sh5.trans su
   refine⟨b,D,cws,m.map (·.2),rfl,aO s06 hb,aR eu,h8,h7,λr ps H7 hr s7 er hne hls=>?_⟩;refine q r ps (m.map (·.2)) H7 (none_of s06 hr) (s06.trans s7) er hne (hls.older s06) (by rw[Ab,hml]) (λj w g hw hg=>?_) (λc=>?_)
   ·rw[<-hk,Ag]at hw;rw[Ag]at hg;cases em:m[j]? with
    |none=>rw[em]at hw;cases hw
    |some x=>
     rw[em]at hw hg;cases hw;cases hg;exact hmc x.1 x.2 (Ao em)
   ·rw[hn0];have h1:=hct c
    have h2:ctn (m.map (·.2)) c=ctm m c:=by
     unfold ctn ctm;rw[List.countP_map];rfl
    rw[h2];omega
def uS:Sp:=λvs H Q _=>∃(a b:Addr) (kvs:List (Key×V)) (f:Nat->Option Int) (cws:List (List Nat)),vs=[.ref a,.ref b]/\Rd H a (.dK kvs)/\Lk kvs f/\rdL H b=some ((cws.map aU).map V.str)/\cws.length<=8/\(∀c∈cws,c.length<=7/\∀d∈c,bA d)/\
 (∀H',Same H H'->Q .non H')/\(∀(t l1 l2:Addr) (x1 x2:List V) (H':Hp),Same H H'->H' t=some (.tup [.ref l1,.ref l2])->H' l1=some (.lst x1)->H' l2=some (.lst x2)->H l1=none->H l2=none->Q (.ref t) H')
def yBB:FnScope ["locker", "words", "lack"] ["locker", "words"] (aK sN):=by walk_at "sc"
def bQT(F:Fun K "lack_of" "lack_of" sN f fd)(z5:gI P w K mg base 3 "hang_all" ["locker", "words"] (iL Zo)):FnOk P w K mg base CX0 4 f fd ["locker", "words"] uS:=by
 refine F.ok yBB (λvs H Q E h=>?_) (λcdv A outer s H vs Q E hr h=>?_)
 ·obtain⟨a,b,kvs,f,cws,rfl,_⟩:=h;rfl
 obtain⟨a,b,kvs,f,cws,rfl,ha,lk,hb,h8,hL,q1,q2⟩:=h;refine⟨_,(@aE _ _ _ _ _ (cJI (i:=2) rfl rfl rfl yBB.nd rfl rfl rfl G.c_Lack (λy3 R=>(@aI _ _ _ (cH (dJ7 z5 (pH rfl) hr (by decide) rfl (aA (mv 0) (aA (mv 1) aB)))))) (λy3 ea=>(@aI _ _ _ (aV (cW (aA (pS (K:=K) rfl (mv 2) rfl) (aA (pS (K:=K) rfl (mv 2) rfl) aB))))))) (@aI _ _ _ (aV dG))),?_⟩
 walk_at "g";refine⟨a,b,kvs,f,cws,rfl,ha,lk,hb,h8,hL,λrh ps fs H1 hrh s1 _ _ _ _ _ _=>?_,λdx l1 l2 x1 x2 H1 s1 ed el1 el2 hn1 hn2=>⟨G.m_Lack,λea hea=>?_⟩⟩
 ·walk_at "g";exact q1 _ s1
 ·have k2:=aG hea (jU ea (.ref Zo) (some dx))
  have e2:(upd H1 ea (jU ea (.ref Zo) (some dx))) ea=_:=aH
  have ed2:=k2 _ _ ed
  generalize upd H1 ea (jU ea (.ref Zo) (some dx))=H2 at k2 e2 ed2 ⊢;walk_at "g";refine⟨ea,Zo,dx,_,_,rfl,.inl e2,ed2,G.xx_Lack,G.xn_Lack_wants,rfl,?_⟩;walk_at "g";refine⟨ea,Zo,dx,_,_,rfl,.inl e2,ed2,G.xx_Lack,G.xn_Lack_flags,rfl,?_⟩;walk_at "g";refine⟨by show 2<=sizeLine;decide,λt ht=>?_⟩
  have s3:=k2.trans (aG ht (.tup [.ref l1,.ref l2]))
  exact q2 t l1 l2 x1 x2 _ (s1.trans s3) aH (s3 _ _ el1) (s3 _ _ el2) hn1 hn2
def uF(h:(ks.map λk=>V.int ((k:Nat):Int))[j]?=some x):∃k,ks[j]?=some k/\x=.int ((k:Nat):Int):=by
 rw[Ag]at h;cases e:ks[j]? with
 |none=>rw[e]at h;cases h
 |some k=>rw[e]at h;cases h;exact⟨k,rfl,rfl⟩
def dM:List Nat->Nat->List (List Nat)
 |_,0=>[[]]
 |ks,m+1=>(List.range ks.length).flatMap λj=>(dM (ks.drop (j+1)) m).map λl=>ks.getD j 0::l
def oZ(ks:List Nat):dM ks 0=[[]]:=by cases ks<;>rfl
def oU(ks:List Nat)(m:Nat):dM ks (m+1)=(List.range ks.length).flatMap λj=>(dM (ks.drop (j+1)) m).map λl=>ks.getD j 0::l:=by rw[dM]
def aZS{x:Nat}{l:List Nat}:∀ {ks:List Nat},(x::l).Sublist ks->∃j,j<ks.length/\ks.getD j 0=x/\l.Sublist (ks.drop (j+1))
 |[],h=>by cases h
 |k::ks,h=>by
  rcases List.sublist_cons_iff.mp h with e|⟨r,e,hr⟩
  ·obtain⟨j,h1,h2,h3⟩:=aZS e;exact⟨j+1,Nat.succ_lt_succ h1,h2,h3⟩
  ·cases e;exact⟨0,Nat.succ_pos _,rfl,hr⟩
def mem_combs:∀ {m:Nat} {ks l:List Nat},l∈dM ks m ↔ l.Sublist ks/\l.length=m
 |0,ks,l=>by
  rw[oZ,Al];constructor
  ·rintro rfl;exact⟨List.nil_sublist _,rfl⟩
  ·exact λh=>Fh h.2
 |m+1,ks,l=>by
  rw[oU,Hl];constructor
  ·rintro⟨j,hj,hl⟩;rw[By]at hj;obtain⟨l',h1,rfl⟩:=Bd.mp hl;obtain⟨h2,h3⟩:=mem_combs.mp h1;refine⟨?_,by rw[Ba,h3]⟩
   have e:ks.getD j 0::ks.drop (j+1)=ks.drop j:=by
    rw[Ad,Aa hj];exact(List.drop_eq_getElem_cons hj).symm
   have h4:(ks.getD j 0::l').Sublist (ks.getD j 0::ks.drop (j+1)):=h2.cons_cons _
   rw[e]at h4;exact h4.trans (List.drop_sublist _ _)
  ·rintro⟨h1,h2⟩;cases l with
   |nil=>cases h2
   |cons x l=>
    obtain⟨j,h3,h4,h5⟩:=aZS h1;exact⟨j,List.mem_range.mpr h3,List.mem_map.mpr ⟨l,mem_combs.mpr ⟨h5,by simpa using h2⟩,by rw[h4]⟩⟩
def sS(f:α->List β)(b:Nat):∀(L:List α),(∀x∈L,(f x).length<=b)->(L.flatMap f).length<=L.length*b
 |[],_=>Da _
 |x::r,h=>by
  rw[List.flatMap_cons,Af,Ba,Nat.succ_mul];have h1:=sS f b r λy hy=>h y (Ak _ hy)
  have h2:=h x Aj
  omega
def jT:∀ {m:Nat} {ks:List Nat},ks.length<=6->(dM ks m).length<=6^m
 |0,ks,_=>by rw[oZ];decide
 |m+1,ks,h=>by
  rw[oU];refine Bi (sS _ (6^m) _ λj _=>?_) ?_
  ·rw[Ab];exact jT (by rw[Cf];omega)
  ·rw[Ce,Nat.pow_succ,Nat.mul_comm];exact Nat.mul_le_mul_left _ h
def dXV(ks:List Nat)(j:Nat):(ks.map λk=>V.int ((k:Nat):Int)).drop j=((ks.drop j).map λk=>V.int ((k:Nat):Int)):=(Fa ..).symm
def cXL:jP xs (some ((k:Nat):Int)) none=xs.drop k:=by
 unfold jP;show (xs.drop (if ((k:Nat):Int)<0 then (((k:Nat):Int)+(xs.length:Int)).toNat else min ((k:Nat):Int).toNat xs.length)).take (xs.length-(if ((k:Nat):Int)<0 then (((k:Nat):Int)+(xs.length:Int)).toNat else min ((k:Nat):Int).toNat xs.length))=_
 rw[if_neg (by omega),Fs]
 by_cases h:k<=xs.length
 ·rw[Ez h,Be (by rw[Cf];omega)]
 ·rw[Eo (by omega),List.drop_length,List.take_nil,Hb (by omega)]
def sI(ks:List Nat)(m i:Nat):List (List Nat):=(List.range i).flatMap λj=>(dM (ks.drop (j+1)) m).map λl=>ks.getD j 0::l
def aZG(ks:List Nat)(m i:Nat):sI ks m (i+1)=sI ks m i++(dM (ks.drop (i+1)) m).map λl=>ks.getD i 0::l:=by
 unfold sI;rw[Cd,Fe,List.flatMap_cons,List.flatMap_nil,Bj]
def fJ9{m:Nat}(h:m<=7):6^m<=279936:=Bi (Nat.pow_le_pow_right (by decide) h) (by decide)
def bZA{m i:Nat}(h:ks.length<=6):(sI ks m i).length<=i*6^m:=by
 have:=sS (λj=>(dM (ks.drop (j+1)) m).map λl=>ks.getD j 0::l) (6^m) (List.range i) λj _=>by
  rw[Ab];exact jT (by rw[Cf];omega)
 rwa [Ce]at this
def bXP(h:(ps.map V.ref)[j]?=some x):∃p,ps[j]?=some p/\x=.ref p:=by
 rw[Ag]at h;cases e:ps[j]? with
 |none=>rw[e]at h;cases h
 |some p=>rw[e]at h;cases h;exact⟨p,rfl,rfl⟩
def bX0(k:Nat)(L:Q5):(List.range L.length).map (λj=>V.int ((k:Nat):Int)::((L.getD j []).map λk=>V.int ((k:Nat):Int)))=(L.map λl=>k::l).map λl=>(l.map λk=>V.int ((k:Nat):Int)):=by
 rw[Ca];have h:∀n,n<=L.length->(List.range n).map (λj=>V.int ((k:Nat):Int)::((L.getD j []).map λk=>V.int ((k:Nat):Int)))=(L.take n).map ((λl=>(l.map λk=>V.int ((k:Nat):Int))) ∘ λl=>k::l):=λn=>by
  induction n with
  |zero=>intro _;rfl
  |succ n ih=>
   intro hn;have e:L[n]?=some L[n]:=Aa (by omega)
   rw[Cd,Am,ih (by omega),Bh,e,Am]
   refine Ds _ ?_;show [V.int ((k:Nat):Int)::((L.getD n []).map λk=>V.int ((k:Nat):Int))]=[((k::L[n]).map λk=>V.int ((k:Nat):Int))]
   rw[Ad,e];rfl
 have r:=h L.length (Ai _)
 rwa [Cg]at r
def dB(n:Nat):Sp:=λvs H Q _=>∃(b:Addr) (ks:List Nat) (m:Nat),vs=[.ref b,.int ((m:Nat):Int)]/\rdL H b=some (ks.map λk=>V.int ((k:Nat):Int))/\ks.length<=6/\m<n/\m<=7/\
 ∀(r:Addr) (ps:List Addr) (H':Hp),H r=none->Same H H'->H' r=some (.lst (ps.map V.ref))->Lsts H H' ps ((dM ks m).map λl=>(l.map λk=>V.int ((k:Nat):Int)))->(∀p∈ps,p≠r)->Q (.ref r) H'
def sF:∀vs H Q E,¬dB 0 vs H Q E:=λvs H Q E ⟨_,_,_,_,_,_,h,_⟩=>Nat.not_lt_zero _ h
def n4:FnScope ["numbers", "many", "lists", "at", "number", "behind"] ["numbers", "many"] (aK dU):=by walk_at "sc"
def tQ(F:Fun K "rising_lists" "rising_lists" dU f fd)(o4:Cal P w K mg base (d+1) "rising_lists" ["numbers", "many"] (dB n)):FnOk P w K mg base CX0 (d+2) f fd ["numbers", "many"] (dB (n+1)):=by
 refine F.ok n4 (λvs H Q E h=>?_) (λcdv A outer s H vs Q E hr h=>?_)
 ·obtain⟨b,ks,m,rfl,_⟩:=h;rfl
 obtain⟨b,ks,m,rfl,hb,h6,hmn,h7,q⟩:=h;refine⟨_,(@aE _ _ _ _ _ (bZ (bC iE (mv 1) aJ (bD _)) (@aI _ _ _ (aV (bJ (aA (bJ aB) aB)))) bH) (@aE _ _ _ _ _ (aP 2 n4.nd (bJ aB)) (@aE _ _ _ _ _ (dA Bq rfl (kK rfl G.b_enumerate (aA (mv 0) aB)) (dN (K:=K) (i:=3) (j:=4) (by rfl) (by rfl) n4.nd (by rfl) (by exact(Or.inl rfl)) (by exact Or.inl rfl) (by rfl) (by exact(Or.inr rfl)) (by exact Or.inl rfl)) (@aE _ _ _ _ _ (aP 5 n4.nd (aZ o4 hr (Ai _) rfl (aA (dP aZF (mv 0) (dE (aQ bN (mv 3) aJ)) qZ) (aA (aQ tG (mv 1) aJ) aB)))) (@aI _ _ _ (cH (cA Bg Dp Dq aQK (mv 2) (aA (cJ rfl (cG (mv 5)) (fH (N:=["rest", "number"]) ["numbers", "many", "lists", "at", "number", "behind"] (aK dU) [none,some 4] rfl rfl rfl (λx h=>cE h) (by decide +kernel)) (by decide +kernel) rfl (by decide +kernel) (λ_ _ _ _=>(bF (i:=0) (show List.Nodup (["rest", "number"]:List Str) by decide +kernel) rfl (Or.inl rfl))) (λ_ _ _ _=>cZ) (λ_ _ _ _=>(aQ bN (bJ (aA (mv 1) aB)) (mv 0)))) aB)))))) (@aI _ _ _ (aV (mv 2)))))),?_⟩
 cases m with
 |zero=>
  walk_at "g";rw[show decide (((0:Nat):Int)=0)=true from rfl];walk_at "g";refine⟨by decide,λp hp=>?_⟩
  have s1:=aG hp (.lst [])
  have e1:(upd H p (.lst [])) p=some (.lst ((([]:List Nat)).map λk=>V.int ((k:Nat):Int))):=aH
  generalize upd H p (.lst [])=H1 at s1 e1 ⊢;walk_at "g";refine⟨by show 1<=sizeLine;decide,λr hr=>?_⟩
  have s2:=aG hr (.lst [.ref p])
  have npr:p≠r:=λz=>by rw[z,hr]at e1;cases e1
  refine q r [p] _ (none_of s1 hr) (s1.trans s2) aH ?_ (λz hz=>by rw[Al.mp hz];exact npr)
  rw[oZ];exact Lsts.snoc (ps:=[]) (fs:=[]) .nil hp (s2 _ _ e1)
 |succ m=>
  have h6m:=fJ9 (m:=m+1) h7
  rw[Nat.pow_succ]at h6m;walk_at "g";rw[show decide (((m+1:Nat):Int)=0)=false from As (by omega)]
  walk_at "g";refine⟨by decide,λp hp=>?_⟩
  have s1:=aG hp (.lst [])
  have e1:(upd H p (.lst [])) p=some (.lst (([]:List Addr).map V.ref)):=aH
  generalize upd H p (.lst [])=H1 at s1 e1 ⊢;have hb1:=aO s1 hb
  walk_at "g";refine qY (xs:=(ks.map λk=>V.int ((k:Nat):Int))) (λi σ H'=>∃(ps:List Addr) (v3 v4 v5:Option V),σ=[some (.ref b),some (.int ((m+1:Nat):Int)),some (.ref p),v3,v4,v5]/\Same H H'/\H' p=some (.lst (ps.map V.ref))/\Lsts H H' ps ((sI ks m i).map λl=>(l.map λk=>V.int ((k:Nat):Int)))/\∀z∈ps,z≠p)
   ⟨[],_,_,_,rfl,s1,e1,.nil,λz hz=>nomatch hz⟩ (λi σ H' _ ⟨_,_,_,_,_,e,_⟩=>aO e hb) ?_ ?_
  ·rintro i x σ H2 pt hx ⟨ps,v3,v4,v5,rfl,s2,e2,ls,nd⟩ hpt;obtain⟨k,ek,rfl⟩:=uF hx;have hi:i<ks.length:=(Ac.mp ek).1
   have hps:ps.length=(sI ks m i).length:=by rw[ls.1,Ab]
   have hpl:=bZA (m:=m) (i:=i) h6
   have hpl2:i*6^m<=5*6^m:=Nat.mul_le_mul_right _ (by omega)
   have s3:=s2.trans (aG hpt (.tup [.int ((0+i:Nat):Int),.int ((k:Nat):Int)]))
   have s23:=aG hpt (.tup [.int ((0+i:Nat):Int),.int ((k:Nat):Int)])
   have et3:(upd H2 pt (.tup [.int ((0+i:Nat):Int),.int ((k:Nat):Int)])) pt=some (.tup [.int ((0+i:Nat):Int),.int ((k:Nat):Int)]):=aH
   generalize upd H2 pt (.tup [.int ((0+i:Nat):Int),.int ((k:Nat):Int)])=H3 at s3 s23 et3 ⊢;have hb3:=aO s3 hb
   have tt3:=cN et3
   walk_at "g";rw[show ((0+i:Nat):Int)+1=((i+1:Nat):Int) by omega]
   intro ra hra;rw[cXL,dXV];have s4:=aG hra (.lst ((ks.drop (i+1)).map λk=>V.int ((k:Nat):Int)))
   have e4:rdL (upd H3 ra (.lst ((ks.drop (i+1)).map λk=>V.int ((k:Nat):Int)))) ra=some ((ks.drop (i+1)).map λk=>V.int ((k:Nat):Int)):=bP
   generalize upd H3 ra (.lst ((ks.drop (i+1)).map λk=>V.int ((k:Nat):Int)))=H4 at s4 e4 ⊢;have s24:=s23.trans s4
   walk_at "g";rw[show ((m+1:Nat):Int)-1=((m:Nat):Int) by omega]
   refine⟨ra,ks.drop (i+1),m,rfl,e4,by rw[Cf];omega,by omega,by omega,λrb qs H5 hrb s5 e5 lq nq=>?_⟩
   have s25:=s24.trans s5
   have rb5:=aR e5
   have rp5:=aR (s25 _ _ e2)
   have hqs:qs.length=(dM (ks.drop (i+1)) m).length:=by rw[lq.1,Ab]
   have hql:(dM (ks.drop (i+1)) m).length<=6^m:=jT (by rw[Cf];omega)
   walk_at "g";refine dJ4 (λj=>V.int ((k:Nat):Int)::(((dM (ks.drop (i+1)) m).getD j []).map λk=>V.int ((k:Nat):Int))) rb5 (by rw[Ab,hqs];exact Nat.lt_of_le_of_lt (Bi hql (Bi (Nat.le_mul_of_pos_right _ (by decide:0<6)) h6m)) (by decide)) (λj x Hc A B hx sm hA=>?_) (λD Hd us hD sd eD hul lu nu=>?_)
   ·obtain⟨u,eu,rfl⟩:=bXP hx;have hj:j<(dM (ks.drop (i+1)) m).length:=by rw[<-hqs];exact(Ac.mp eu).1
    obtain⟨l,el⟩:∃l,(dM (ks.drop (i+1)) m)[j]?=some l:=⟨_,Aa hj⟩;have hu:=sm _ _ (lq.2 j u (l.map λk=>V.int ((k:Nat):Int)) eu (by rw[Ag,el];rfl)).2
    have hll:l.length=m:=(mem_combs.mp (Ao el)).2
    have hgl:(dM (ks.drop (i+1)) m).getD j []=l:=by rw[Ad,el];rfl
    rw[hgl]at hA;walk_at "g";refine⟨Wk.set rfl (Wk.refl _),?_⟩;walk_at "g";refine⟨by show 1<=sizeLine;decide,λp6 hp6=>?_⟩
    have s6:=aG hp6 (.lst [V.int ((k:Nat):Int)])
    have e6:(upd Hc p6 (.lst [V.int ((k:Nat):Int)])) p6=some (.lst [V.int ((k:Nat):Int)]):=aH
    have hu6:=s6 _ _ hu
    generalize upd Hc p6 (.lst [V.int ((k:Nat):Int)])=H6 at s6 e6 hu6 ⊢;refine fL (bQ e6) (bQ hu6) (bO (by rw[Ab];show 1+_<=_;omega)) λp7 hp7=>?_
    exact hA p7 _ (none_of s6 hp7) (s6.trans (aG hp7 _)) aH
   ·rw[Ab,hqs,bX0]at lu;rw[Ab]at hul;have s2d:=s25.trans sd
    have e2d:=s2d _ _ e2
    have npD:∀z∈us,z≠p:=λz hz zp=>by
     obtain⟨g,_,h1,_⟩:=lu.mem hz;rw[zp,s25 _ _ e2]at h1;cases h1
    have hek:ks.getD i 0=k:=by rw[Ad,ek];rfl
    walk_at "g";refine eXC (bQ e2d) (bQ eD) (Bi (by rw[Ab,Ab,hps,hul,hqs];omega:_<=279936) (by decide)) ?_
    walk_at "g";refine⟨ps++us,_,_,_,rfl,bR hp (s2.trans s2d),by rw[Am];exact aH,?_,λz hz=>?_⟩
    ·rw[aZG,Am,hek];refine Lsts.put ?_ λz hz=>?_
     ·exact(ls.keep s2d).app (lu.older (s2.trans s25))
     ·rcases Bp.mp hz with e|e
      ·exact nd z e
      ·exact npD z e
    ·rcases Bp.mp hz with e|e
     ·exact nd z e
     ·exact npD z e
  ·rintro σ H2 ⟨ps,v3,v4,v5,rfl,s2,e2,ls,nd⟩;walk_at "g";refine q p ps H2 hp s2 e2 ?_ nd;rw[oU];rw[Ab]at ls;exact ls
def dZH{sep:Str}{n:Nat}:∀ {L:List Str},(∀z∈L,z.length<=n)->(Txt.join sep L).length<=(n+sep.length)*L.length
 |[],_=>Da _
 |y::r,h=>by
  have hl:∀r:List Str,(∀z∈r,z.length<=n)->(r.map λy=>sep.cps.toList++y.cps.toList).flatten.length<=(n+sep.length)*r.length:=λr h=>by
   induction r with
   |nil=>exact Ai _
   |cons u v ih=>
    rw[Aw,Ct,Af,Af,Ba,dS,dS];have h1:=h u Aj
    have h2:=ih λx hx=>h x (Ak _ hx)
    rw[Nat.mul_succ];omega
  rw[<-dS,cZB,Af,dS,Ba,Nat.mul_succ];have h1:=h y Aj
  have h2:=hl r λx hx=>h x (Ak _ hx)
  omega
def eT(F:α->V):∀xs:List α,(List.range xs.length).filterMap (λj=>(xs[j]?).map F)=xs.map F:=λxs=>by
 have h:∀n,n<=xs.length->(List.range n).filterMap (λj=>(xs[j]?).map F)=(xs.take n).map F:=λn=>by
  induction n with
  |zero=>intro _;rfl
  |succ n ih=>
   intro hn;have e:xs[n]?=some xs[n]:=Aa (by omega)
   rw[jC (y:=F xs[n]) (by rw[e];rfl),ih (by omega),Bh,e,Am]
   rfl
 have r:=h xs.length (Ai _)
 rw[Cg]at r;exact r
def gQW:Option (List Nat)->Str
 |none=>⟨#[45]⟩
 |some cs=>aU cs
def HalV(H:Hp)(v:V):Option (List Nat)->Prop
 |none=>v=.non
 |some cs=>∃p,v=.ref p/\H p=some (.lst ((cs.map one).map V.str))
def hU(hs:List (Option (List Nat))):Prop:=∀cs,some cs∈hs->dF (cs.map one)=true
structure HalsAt (H:Hp) (vs:List V) (hs:List (Option (List Nat))):Prop where
 len:vs.length=hs.length
 val:∀(j:Nat) v h,vs[j]?=some v->hs[j]?=some h->HalV H v h
def HalV.keep(a:HalV H v h)(s:∀p xs,H p=some (.lst xs)->v=.ref p->H' p=some (.lst xs)):HalV H' v h:=by
 cases h with
 |none=>exact a
 |some cs=>
  obtain⟨p,e,hp⟩:=a;exact⟨p,e,s p _ hp e⟩
def HalsAt.keep{vs:List V}(a:HalsAt H vs hs)(s:Same H H'):HalsAt H' vs hs:=⟨a.len,λj v h hv hh=>(a.val j v h hv hh).keep λp xs hp _=>s _ _ hp⟩
def HalsAt.nil:HalsAt H [] []:=⟨rfl,λj v h hv=>nomatch hv⟩
def HalsAt.snoc{vs:List V}(a:HalsAt H vs hs)(b:HalV H v h):HalsAt H (vs++[v]) (hs++[h]):=by
 refine⟨by rw[Af,Af,a.len];rfl,λj x g hx hg=>?_⟩
 by_cases hj:j<vs.length
 ·rw[Ar hj]at hx;rw[Ar (by rw[<-a.len];exact hj)]at hg
  exact a.val j x g hx hg
 ·have e:j=vs.length:=by
   have:=(Ac.mp hx).1
   rw[Af]at this;have:j<vs.length+1:=this
   omega
  subst e;rw[Av (Ai _),Ek]at hx;rw[a.len,Av (Ai _),Ek]at hg;cases hx;cases hg;exact b
def HalV.ne{vs:List V}(hr:H r=some (.lst vs))(hj:vs[j]?=some v)(a:HalV H v h):v≠.ref r:=λz=>by
 cases h with
 |none=>rw[show v=.non from a]at z;cases z
 |some cs=>
  obtain⟨p,e,hp⟩:=a;rw[z]at e;cases e;rw[hr]at hp;cases hp;obtain⟨u,_,hu⟩:=gX hj;rw[z]at hu;cases hu
def HalsAt.put{vs:List V}(hr:H r=some (.lst vs))(a:HalsAt H vs hs):HalsAt (upd H r (.lst us)) vs hs:=⟨a.len,λj v h hv hh=>(a.val j v h hv hh).keep λp xs hp e=>by
 rw[aM (λz=>(a.val j v h hv hh).ne hr hv (by rw[<-z];exact e))]
 exact hp⟩
def bZQ{g:TG}{tests:TT}{te:TE}{σ0:St}{H1:Hp}{a:Addr}{hs:Q3}(ha:rdL H1 a=some xs)(hl:xs.length<sizeLine)(hx:xs.length=hs.length)(step:∀(i:Nat) x h Hc (A:VK) (B:Hp->Prop),xs[i]?=some x->hs[i]?=some h->Same H1 Hc->(∀v Hd,Same Hc Hd->HalV Hd v h->(∀p,v=.ref p->Hc p=none)->A v Hd)->
 g x σ0 Hc λσ2 H2=>Wk σ0 σ2/\tests σ2 H2 λb H3=>if b=true then te σ2 H3 A else B H3)(fin:∀D Hd vs,H1 D=none->Same H1 Hd->Hd D=some (.lst vs)->HalsAt Hd vs hs->(∀p,V.ref p∈vs->H1 p=none)->Q (.ref D) Hd):eC g tests te σ0 Q (Itl K a) H1:=by
 refine jB (n:=xs.length) (λD i ys Hc=>Same H1 Hc/\HalsAt Hc ys (hs.take i)/\∀p,V.ref p∈ys->H1 p=none) hl (λD hD=>⟨aG hD _,.nil,λp hp=>nomatch hp⟩)
  (λD i ys Hc _ r h=>⟨xs,xs[i],bG (aO r.1 ha),by simp[h]⟩) (λD ys Hc _ r=>⟨xs,bG (aO r.1 ha),Nat.le_refl _⟩) ?_ ?_
 ·rintro D i ys Hc x H' A B hD hi ⟨sm,at',fr⟩ hDc ⟨rfl,hz⟩ ha' hb;have hi2:i<hs.length:=by omega
  have eh:hs[i]?=some hs[i]:=Aa hi2
  refine step i x hs[i] H' A B (hz xs (bG (aO sm ha))) eh sm (λv Hd sd hv hn=>?_);refine ha' _ _ (sd _ _ hDc) ⟨bR hD (sm.trans sd),?_,λp hp=>?_⟩
  ·rw[Bh,eh];refine HalsAt.snoc ((at'.keep sd).put (sd _ _ hDc)) (hv.keep λp zs hp e=>?_);rw[aM (λz=>by have:=hn p e;rw[z,hDc]at this;cases this)]
   exact hp
  ·rcases Bp.mp hp with e|e
   ·exact fr p e
   ·exact none_of sm (hn p (Al.mp e).symm)
 ·rintro D ys Hc hD ⟨sm,at',fr⟩ hDc _;rw[hx,Cg]at at';exact fin D Hc ys hD sm hDc at' fr
def cX4{f:Nat->Option Int}(hf0:∀c,0<=bE f c)(c:Nat):bE (cI (bE f)) c<=bE f c:=by
 show (cI (bE f) c).getD 0<=_
 unfold cI;split
 ·exact Hq _
 ·exact hf0 c
def vX{cws:Q5}:∀i,i<=cws.length->(wlP cws i).length=iF cws i
 |0,_=>rfl
 |i+1,h=>by
  have e:cws[i]?=some cws[i]:=Aa (by omega)
  rw[pM,Af,vX i (by omega),zW e]
  unfold tP;rw[Ab,Ce,Ad,e];rfl
def fXQ(hi:cws[i]?=some cw)(hk:k<cw.length):(wl cws)[iF cws i+k]?=some (i,1+k):=by
 have hil:=(Ac.mp hi).1
 have h:∀n,i<n->n<=cws.length->(wlP cws n)[iF cws i+k]?=some (i,1+k):=λn=>by
  induction n with
  |zero=>intro h;omega
  |succ n ih=>
   intro h1 h2;rw[pM];by_cases hn:i=n
   ·subst hn;have e:=vX (cws:=cws) i (by omega)
    rw[Av (by omega),show iF cws i+k-(wlP cws i).length=k by omega]
    unfold tP;rw[Ag,Ad,hi];show ((List.range cw.length)[k]?).map _=_
    rw[List.getElem?_range hk];rfl
   ·have r:=ih (by omega) (by omega)
    rw[Ar (Ac.mp r).1];exact r
 exact h cws.length hil (Ai _)
def Hg(cw h:List Nat):Prop:=h.length=cw.length/\∀(k g:Nat),h[k]?=some g->g∈chs cw k
inductive Hgs:List (List Nat)->List (List Nat)->Prop
 |nil:Hgs [] []
 |cons {cw h:List Nat} {cws hs:Q5}:Hg cw h->Hgs cws hs->Hgs (cw::cws) (h::hs)
def aXV(xs ys:List Nat)(c:Nat):ctn (xs++ys) c=ctn xs c+ctn ys c:=List.countP_append
def Hgs.perm{cws':Q5}(s:cws.Perm cws'):∀ {hs:Q5},Hgs cws hs->∃hs',Hgs cws' hs'/\∀c,ctn hs'.flatten c=ctn hs.flatten c:=by
 induction s with
 |nil=>intro hs h;exact⟨hs,h,λc=>rfl⟩
 |cons a s ih=>
  rintro _ (_|⟨h1,h2⟩);obtain⟨hs',p,q⟩:=ih h2;exact⟨_::hs',.cons h1 p,λc=>by rw[Ct,aXV,Ct,aXV,q c]⟩
 |swap a b l=>
  rintro _ (_|⟨h1,h2⟩);rcases h2 with _|⟨h2,h3⟩
  exact⟨_,.cons h2 (.cons h1 h3),λc=>by simp only[List.flatten_cons,aXV];omega⟩
 |trans _ _ ih1 ih2=>
  intro hs h;obtain⟨h1,p1,q1⟩:=ih1 h;obtain⟨h2,p2,q2⟩:=ih2 p1;exact⟨h2,p2,λc=>(q2 c).trans (q1 c)⟩
def tX:List (List Nat)->List Nat->List (List Nat)
 |[],_=>[]
 |cw::r,fs=>fs.take cw.length::tX r (fs.drop cw.length)
def aQH:∀ {cws:Q5} {fs:List Nat},fs.length=(cws.map List.length).sum->(tX cws fs).flatten=fs
 |[],fs,h=>by rw[Fh h];rfl
 |cw::r,fs,h=>by
  rw[Aw,Fm]at h;rw[tX,Ct,aQH (by rw[Cf];omega),List.take_append_drop]
def aJ0:∀ {cws:Q5} {fs:List Nat},fs.length=(cws.map List.length).sum->(∀(i k g:Nat) cw,cws[i]?=some cw->k<cw.length->fs[iF cws i+k]?=some g->g∈chs cw k)->Hgs cws (tX cws fs)
 |[],fs,h,_=>.nil
 |cw::r,fs,h,hc=>by
  rw[Aw,Fm]at h;refine .cons ⟨by rw[Bt];omega,λk g hk=>?_⟩ (aJ0 (by rw[Cf];omega) λi k g cw' hi hk hg=>?_)
  ·have hkl:k<cw.length:=by
    have:=(Ac.mp hk).1
    rw[Bt]at this;omega
   rw[List.getElem?_take,if_pos hkl]at hk;exact hc 0 k g cw rfl hkl (by rw[show iF (cw::r) 0=0 from rfl,Nat.zero_add];exact hk)
  ·refine hc (i+1) k g cw' hi hk ?_;rw[List.getElem?_drop]at hg;rw[show iF (cw::r) (i+1)=cw.length+iF r i by unfold iF;rw[List.take_succ_cons,Aw,Fm],Nat.add_assoc]
   exact hg
def cZR(cws:Q5):(wl cws).length=(cws.map List.length).sum:=by
 have h:=vX (cws:=cws) cws.length (Ai _)
 unfold iF at h;rw[Cg]at h;exact h
def eJ8(hl:fs.length=(wl cws).length)(hch:∀(j:Nat) w g,(wl cws)[j]?=some w->fs[j]?=some g->g∈chW cws w):Hgs cws (tX cws fs):=by
 refine aJ0 (hl.trans (cZR cws)) λi k g cw hi hk hg=>?_;have h:=hch _ _ g (fXQ hi hk) hg
 unfold chW at h;rw[Ad,hi,show (i,1+k).2-1=k by show 1+k-1=k;omega]at h
 exact h
def HalsAt.get{vs:List V}(a:HalsAt H vs hs)(hk:k<hs.length):∃v,atI vs (k:Int)=some v/\vs[k]?=some v/\HalV H v (hs.getD k none):=by
 have hv:k<vs.length:=by rw[a.len];exact hk
 refine⟨vs[k],bB (Aa hv),Aa hv,?_⟩;refine a.val k _ _ (Aa hv) ?_;rw[Ad,Aa hk];rfl
def cL(hs:List (Option (List Nat)))(n:Nat):List Nat:=(List.range hs.length).filter λk=>(hs.getD k none).isSome && !decide (k=n)
def mY(h:k∈cL hs n):k<hs.length/\(hs.getD k none).isSome=true/\k≠n:=by
 obtain⟨h1,h2⟩:=Eu.mp h;rw[Dx,Bool.not_eq_true',decide_eq_false_iff_not]at h2;exact⟨By.mp h1,h2.1,h2.2⟩
def wY(hn:n<hs.length):(cL hs n).length+1<=hs.length:=by
 have h1:(cL hs n).Sublist ((List.range hs.length).filter λk=>!decide (k=n)):=by
  have e:cL hs n=((List.range hs.length).filter λk=>!decide (k=n)).filter λk=>(hs.getD k none).isSome:=by
   unfold cL;rw[List.filter_filter]
  rw[e];exact List.filter_sublist
 have h2:=h1.length_le
 have h3:=List.length_eq_countP_add_countP (p:=λk=>decide (k=n)) (l:=List.range hs.length)
 rw[Ce]at h3;have h4:1<=(List.range hs.length).countP λk=>decide (k=n):=by
  refine List.countP_pos_iff.mpr ⟨n,By.mpr hn,Ap rfl⟩
 have h5:((List.range hs.length).filter λk=>!decide (k=n)).length=(List.range hs.length).countP λk=>!decide (k=n):=List.countP_eq_length_filter.symm
 have h6:((List.range hs.length).countP λa=>¬(decide (a=n))=true)=(List.range hs.length).countP λk=>!decide (k=n):=by
  congr 1
  funext k
  cases decide (k=n)<;>rfl
 omega
def oth(hs:List (Option (List Nat)))(n:Nat)(i:Nat):Option V:=if ((hs.getD i none).isSome && !decide (i=n))=true then some (V.int ((i:Nat):Int)) else none
def fQ1(hs:Q3)(n m:Nat):(List.range m).filterMap (oth hs n)=((List.range m).filter λk=>(hs.getD k none).isSome && !decide (k=n)).map λk=>V.int ((k:Nat):Int):=by
 induction List.range m with
 |nil=>rfl
 |cons a r ih=>
  by_cases h:((hs.getD a none).isSome && !decide (a=n))=true
  ·rw[Ci (b:=V.int ((a:Nat):Int)) (by unfold oth;rw[if_pos h]),List.filter_cons_of_pos (p:=λk=>(hs.getD k none).isSome && !decide (k=n)) h,Aw,ih]
  ·rw[Cp (by unfold oth;rw[if_neg h]),List.filter_cons_of_neg (p:=λk=>(hs.getD k none).isSome && !decide (k=n)) h,ih]
def lP:Sp:=λvs H Q _=>∃(a:Addr) (us:List V) (hs:List (Option (List Nat))) (n:Nat),vs=[.ref a,.int ((n:Nat):Int)]/\rdL H a=some us/\HalsAt H us hs/\hs.length<=7/\
 ∀(r:Addr) (H':Hp),H r=none->Same H H'->H' r=some (.lst ((cL hs n).map λk=>V.int ((k:Nat):Int)))->Q (.ref r) H'
def vO:FnScope ["halyards", "number"] ["halyards", "number"] (aK fV):=by walk_at "sc"
def uM(F:Fun K "others_hung" "others_hung" fV f fd):FnOk P w K mg base CX0 1 f fd ["halyards", "number"] lP:=by
 refine F.ok vO (λvs H Q E h=>?_) (λcdv A outer s H vs Q E hr h=>?_)
 ·obtain⟨a,us,hs,n,rfl,_⟩:=h;rfl
 obtain⟨a,us,hs,n,rfl,ha,hat,h7,q⟩:=h;refine⟨_,(@aI _ _ _ (aV (cJ rfl (kK rfl G.b_enumerate (aA (mv 0) aB)) (fH (N:=["other", "hoist", "number"]) ["halyards", "number"] (aK fV) [none,none,some 1] rfl rfl rfl (λx h=>cE h) (by decide +kernel)) (by decide +kernel) rfl (by decide +kernel) (λ_ _ _ _=>(dN (K:=K) (i:=0) (j:=1) (by rfl) (by rfl) (show List.Nodup (["other", "hoist", "number"]:List Str) by decide +kernel) (by rfl) (by exact Or.inl rfl) (by exact Or.inr rfl) (by rfl) (by exact Or.inl rfl) (by exact Or.inr rfl))) (λ_ _ _ _=>(jG (PW.pt (xB (bC aQN (mv 1) dG (bD _)) (qP (bC cXE (mv 0) (mv 2) (bD _))))))) (λ_ _ _ _=>(mv 0))))),?_⟩
 have hul:=hat.len
 walk_at "g";refine cJX (xs:=us) (oth hs n) ha (bL (by omega)) (λi x Hc p A B hx sm hp hA hB=>?_) (λD Hd hD sD hd=>?_)
 ·have hi:i<hs.length:=by rw[<-hul];exact(Ac.mp hx).1
  have hv:=hat.val i x (hs.getD i none) hx (by rw[Ad,Aa hi];rfl)
  have tp:tR (upd Hc p (.tup [.int ((0+i:Nat):Int),x])) p=some [.int ((0+i:Nat):Int),x]:=mZ
  rw[Nat.zero_add]at tp hA hB ⊢;walk_at "g";refine⟨Wk.set rfl (Wk.set rfl (Wk.refl _)),?_⟩;walk_at "g";cases eh:hs.getD i none with
  |none=>
   rw[eh]at hv;obtain rfl:x=V.non:=hv;rw[show decide (V.non=V.non)=true from rfl];walk_at "g";exact hB (by unfold oth;rw[eh];rfl) _ (Same.refl _)
  |some cs=>
   rw[eh]at hv;obtain⟨pc,rfl,_⟩:=hv;rw[show decide (V.ref pc=V.non)=false from As (λz=>nomatch z)]
   walk_at "g";by_cases hn:i=n
   ·rw[Ap (show ((i:Nat):Int)=((n:Nat):Int) by omega)]
    exact hB (by unfold oth;rw[eh,Ap hn];rfl) _ (Same.refl _)
   ·rw[As (show ¬((i:Nat):Int)=((n:Nat):Int) by omega)]
    walk_at "g";exact hA _ (by unfold oth;rw[eh,As hn];rfl) _ (Same.refl _)
 ·rw[hul,fQ1]at hd;exact q D Hd hD sD hd
def dH(hs:List (Option (List Nat)))(ks:List Nat):List Nat:=ks.flatMap λk=>(hs.getD k none).getD []
def cXY(hs:Q3)(A B:List Nat):dH hs (A++B)=dH hs A++dH hs B:=Fe ..
def zD(ok:hU hs)(k:Nat):((hs.getD k none).getD []).length<=7:=by
 cases e:hs[k]? with
 |none=>rw[Ad,e];exact Da _
 |some h=>
  rw[Ad,e];cases h with
  |none=>exact Da _
  |some cs=>
   have:=fJ (ok cs (Ao e))
   rw[Ab]at this;exact this.2
def jN(ok:hU hs):∀ks:List Nat,(dH hs ks).length<=7*ks.length
 |[]=>Da _
 |k::r=>by
  show (((hs.getD k none).getD [])++dH hs r).length<=_
  rw[Af,Ba];have:=zD ok k
  have:=jN ok r
  omega
def iN:Sp:=λvs H Q _=>∃(a b:Addr) (us:List V) (hs:List (Option (List Nat))) (ks:List Nat),vs=[.ref a,.ref b]/\rdL H a=some us/\HalsAt H us hs/\hU hs/\rdL H b=some (ks.map λk=>V.int ((k:Nat):Int))/\ks.length<=7/\(∀k∈ks,k<hs.length)/\
 ∀(r:Addr) (H':Hp),H r=none->Same H H'->H' r=some (.lst (((dH hs ks).map one).map V.str))->Q (.ref r) H'
def gV:FnScope ["halyards", "numbers", "flags", "number"] ["halyards", "numbers"] (aK pG):=by walk_at "sc"
def aJD(F:Fun K "flags_on" "flags_on" pG f fd)(G:Gs K mg w Zo Zz Zq Zx Z0 Zt Zy Zw Zu Zv Zr Zs Zp):FnOk P w K mg base CX0 1 f fd ["halyards", "numbers"] iN:=by
 refine F.ok gV (λvs H Q E h=>?_) (λcdv A outer s H vs Q E hr h=>?_)
 ·obtain⟨a,b,us,hs,ks,rfl,_⟩:=h;rfl
 obtain⟨a,b,us,hs,ks,rfl,ha,hat,ok,hb,h7,hk,q⟩:=h;refine⟨_,(@aE _ _ _ _ _ (aP 2 gV.nd (bJ aB)) (@aE _ _ _ _ _ (dA Bq rfl (cG (mv 1)) (bF (i:=3) gV.nd rfl (Or.inl rfl)) (@aI _ _ _ (bZ (bC aQN (bI bX (mv 0) (mv 3) (λ_ _=>rfl)) dG (bD _)) (@aI _ _ _ (cH (cA Bg Dp Dq aQK (mv 2) (aA (bI bX (mv 0) (mv 3) (λ_ _=>rfl)) aB)))) bH))) (@aI _ _ _ (aV (mv 2))))),?_⟩;walk_at "g";refine⟨by decide,λp hp=>?_⟩
 have sp:=aG hp (.lst [])
 have hb1:=aO sp hb
 walk_at "g";refine iK (xs:=(ks.map λk=>V.int ((k:Nat):Int))) (λi σ H'=>∃v,σ=[some (.ref a),some (.ref b),some (.ref p),v]/\Same H H'/\H' p=some (.lst (((dH hs (ks.take i)).map one).map V.str)))
  ⟨_,rfl,sp,aH⟩ (λi σ H' _ ⟨_,_,e,_⟩=>aO e hb) ?_ ?_
 ·rintro i x σ H2 hx ⟨v,rfl,s2,e2⟩;obtain⟨k,hki,rfl⟩:=uF hx;have hkl:=hk k (Ao hki)
  obtain⟨u,au,_,hv⟩:=(hat.keep s2).get hkl;have r2:=aO s2 ha
  have ft:dH hs (ks.take (i+1))=dH hs (ks.take i)++(hs.getD k none).getD []:=by
   rw[Bh,hki,cXY];show _++(_++[])=_
   rw[Bj]
  walk_at "g";refine cU r2 au ?_;walk_at "g";cases eh:hs.getD k none with
  |none=>
   rw[eh]at hv ft;rw[show u=.non from hv,show decide (V.non=V.non)=true from rfl];walk_at "g";exact⟨_,rfl,s2,by rw[ft];show _=some (HO.lst (((_++[]).map one).map V.str));rw[Bj];exact e2⟩
  |some cs=>
   have h7c:=zD ok k
   rw[eh]at hv ft h7c;obtain⟨pc,rfl,hpc⟩:=hv;rw[show decide (V.ref pc=V.non)=false from As (λz=>nomatch z)]
   have m2:=bQ e2
   have rc:=aR hpc
   have l2:=jN ok (ks.take i)
   rw[Bt]at l2;have hln:(((dH hs (ks.take i)).map one).map V.str).length+((cs.map one).map V.str).length<=sizeLine:=bO (by rw[Ab,Ab,Ab,Ab];have:cs.length<=7:=h7c;omega)
   walk_at "g";refine cU r2 au ?_;walk_at "g";refine⟨_,rfl,bR hp s2,?_⟩;rw[aH,ft,Am,Am];rfl
 ·rintro σ H2 ⟨v,rfl,s2,e2⟩;rw[Be (by rw[Ab];exact Ai _)]at e2
  walk_at "g";exact q p H2 hp s2 e2
def hJ(os:List Nat):List (List Nat):=(List.range (os.length+1)).flatMap λm=>dM os m
def zX(os:List Nat)(i:Nat):List (List Nat):=(List.range i).flatMap λm=>dM os m
def vV(os:List Nat)(i:Nat):zX os (i+1)=zX os i++dM os i:=by
 unfold zX;rw[Cd,Fe];congr 1
 show dM os i++[]=_
 rw[Bj]
def mem_sets{os l:List Nat}:l∈hJ os ↔ l.Sublist os:=by
 unfold hJ;rw[Hl];constructor
 ·rintro⟨m,_,h⟩;exact(mem_combs.mp h).1
 ·intro h;exact⟨l.length,By.mpr (Nat.lt_succ_of_le h.length_le),mem_combs.mpr ⟨h,rfl⟩⟩
def rJ{os:List Nat}:∀ {i:Nat},os.length<=6->i<=6->(zX os i).length<=i*6^5
 |0,_,_=>Da _
 |i+1,h,hi=>by
  rw[vV,Af,Nat.succ_mul];have h1:=rJ (i:=i) h (by omega)
  have h2:(dM os i).length<=6^5:=Bi (jT h) (Nat.pow_le_pow_right (by decide) (by omega))
  omega
def vA:Sp:=λvs H Q _=>∃(b:Addr) (os:List Nat),vs=[.ref b]/\rdL H b=some (os.map λk=>V.int ((k:Nat):Int))/\os.length<=5/\
 ∀(r:Addr) (ps:List Addr) (H':Hp),H r=none->Same H H'->H' r=some (.lst (ps.map V.ref))->Lsts H H' ps ((hJ os).map λl=>(l.map λk=>V.int ((k:Nat):Int)))->(∀p∈ps,p≠r)->Q (.ref r) H'
def g0:FnScope ["others", "sets", "many"] ["others"] (aK sR):=by walk_at "sc"
def bZH(F:Fun K "sets_of" "sets_of" sR f fd)(o4:Cal P w K mg base 9 "rising_lists" ["numbers", "many"] (dB 8)):FnOk P w K mg base CX0 10 f fd ["others"] vA:=by
 refine F.ok g0 (λvs H Q E h=>?_) (λcdv A outer s H vs Q E hr h=>?_)
 ·obtain⟨b,os,rfl,_⟩:=h;rfl
 obtain⟨b,os,rfl,hb,h5,q⟩:=h;refine⟨_,(@aE _ _ _ _ _ (aP 1 g0.nd (bJ aB)) (@aE _ _ _ _ _ (dA Bq rfl (nJ rfl G.b_range (aA (aQ bN (aX cQ rfl G.b_len bS (aA (mv 0) aB)) aJ) aB)) (bF (i:=2) g0.nd rfl (Or.inl rfl)) (@aI _ _ _ (cH (cA Bg Dp Dq aQK (mv 1) (aA (aZ o4 hr (by decide) rfl (aA (mv 0) (aA (mv 2) aB))) aB))))) (@aI _ _ _ (aV (mv 1))))),?_⟩
 have hbl:((os.map λk=>V.int ((k:Nat):Int))).length=os.length:=Ab ..
 walk_at "g";refine⟨by decide,λp hp=>?_⟩
 have s1:=aG hp (.lst [])
 have e1:(upd H p (.lst [])) p=some (.lst (([]:List Addr).map V.ref)):=aH
 generalize upd H p (.lst [])=H1 at s1 e1 ⊢;have hb1:=aO s1 hb
 walk_at "g";rw[hbl];refine⟨⟨by omega,by omega⟩,?_⟩
 refine xL (λi σ H'=>∃(ps:List Addr) (v:Option V),σ=[some (.ref b),some (.ref p),v]/\Same H H'/\H' p=some (.lst (ps.map V.ref))/\Lsts H H' ps ((zX os i).map λl=>(l.map λk=>V.int ((k:Nat):Int)))/\∀z∈ps,z≠p)
  ⟨[],_,rfl,s1,e1,.nil,λz hz=>nomatch hz⟩ ?_ ?_
 ·rintro i σ H2 hi ⟨ps,v,rfl,s2,e2,ls,nd⟩;have hi6:i<=os.length:=by omega
  have hb2:=aO s2 hb
  have hps:ps.length=(zX os i).length:=by rw[ls.1,Ab]
  have hpl:=rJ (os:=os) (i:=i) (by omega) (by omega)
  walk_at "g";rw[show (0:Int)+(i:Int)=((i:Nat):Int) by omega]
  refine⟨b,os,i,rfl,hb2,by omega,by omega,by omega,λrb qs H5 hrb s5 e5 lq nq=>?_⟩
  have hqs:qs.length=(dM os i).length:=by rw[lq.1,Ab]
  have hql:(dM os i).length<=6^5:=Bi (jT (by omega)) (Nat.pow_le_pow_right (by decide) (by omega))
  have e25:=s5 _ _ e2
  have m5:=bQ e25
  have r5:=aR e5
  have hln:(ps.map V.ref).length+(qs.map V.ref).length<=sizeLine:=bO (by rw[Ab,Ab,hps,hqs];omega)
  walk_at "g";have npq:∀z∈qs,z≠p:=λz hz zp=>by
   obtain⟨g,_,h1,_⟩:=lq.mem hz;rw[zp,e2]at h1;cases h1
  have nd2:∀z∈ps++qs,z≠p:=λz hz=>(Bp.mp hz).elim (nd z) (npq z)
  refine⟨ps++qs,_,rfl,bR hp (s2.trans s5),?_,?_,nd2⟩
  ·rw[aH,Am]
  ·rw[vV,Am];exact((ls.keep s5).app (lq.older s2)).put nd2
 ·rintro σ H2 ⟨ps,v,rfl,s2,e2,ls,nd⟩;rw[show ((os.length:Int)+1).toNat=os.length+1 by omega]at ls
  walk_at "g";exact q p ps H2 hp s2 e2 ls nd
def dL(hs:List (Option (List Nat)))(cw ks:List Nat):List (List Nat):=cw::ks.map λk=>rdC ((hs.getD k none).getD [])
def pO(ks:List Nat):((ks.map λk=>V.int ((k:Nat):Int))).length=ks.length:=Ab ..
def jH:Sp:=λvs H Q _=>∃(a b:Addr) (us:List V) (hs:List (Option (List Nat))) (cw ks:List Nat),vs=[.ref a,.str (aU cw),.ref b]/\rdL H a=some us/\HalsAt H us hs/\hU hs/\rdL H b=some (ks.map λk=>V.int ((k:Nat):Int))/\ks.length<=7/\(∀k∈ks,k<hs.length/\(hs.getD k none).isSome=true)/\
 ∀(r:Addr) (H':Hp),H r=none->Same H H'->H' r=some (.lst (((dL hs cw ks).map aU).map V.str))->Q (.ref r) H'
def yO:FnScope ["halyards", "word", "lowered"] ["halyards", "word", "lowered"] (aK gJ):=by walk_at "sc"
def xQ(F:Fun K "words_with" "words_with" gJ f fd)(G:Gs K mg w Zo Zz Zq Zx Z0 Zt Zy Zw Zu Zv Zr Zs Zp)(u0:gI P w K mg base 4 "read_of" ["flags"] (oK Zx)):FnOk P w K mg base CX0 5 f fd ["halyards", "word", "lowered"] jH:=by
 refine F.ok yO (λvs H Q E h=>?_) (λcdv A outer s H vs Q E hr h=>?_)
 ·obtain⟨a,b,us,hs,cw,ks,rfl,_⟩:=h;rfl
 obtain⟨a,b,us,hs,cw,ks,rfl,ha,hat,ok,hb,h7,hk,q⟩:=h;refine⟨_,(@aI _ _ _ (aV (aQ bN (bJ (aA (mv 1) aB)) (cJ rfl (cG (mv 2)) (fH (N:=["other", "halyards"]) ["halyards", "word", "lowered"] (aK gJ) [none,some 0] rfl rfl rfl (λx h=>cE h) (by decide +kernel)) (by decide +kernel) rfl (by decide +kernel) (λ_ _ _ _=>(bF (i:=0) (show List.Nodup (["other", "halyards"]:List Str) by decide +kernel) rfl (Or.inl rfl))) (λ_ _ _ _=>cZ) (λ_ _ _ _=>(cP u0 zZ hr (by decide) rfl (aA (bI bX (mv 1) (mv 0) (λ_ _=>rfl)) aB))))))),?_⟩
 walk_at "g";refine⟨by show 1<=sizeLine;decide,λp hp=>?_⟩
 have s1:=aG hp (.lst [V.str (aU cw)])
 have e1:(upd H p (.lst [V.str (aU cw)])) p=some (.lst [V.str (aU cw)]):=aH
 generalize upd H p (.lst [V.str (aU cw)])=H1 at s1 e1 ⊢;have hb1:=aO s1 hb
 have ha1:=aO s1 ha
 walk_at "g";refine iA (xs:=(ks.map λk=>V.int ((k:Nat):Int))) (λj=>(ks[j]?).map λk=>V.str (aU (rdC ((hs.getD k none).getD [])))) hb1 (bL (by rw[pO];omega)) (λj x Hc A B hx sm hA hB=>?_) (λD Hd hD sD hd=>?_)
 ·obtain⟨k,hki,rfl⟩:=uF hx;obtain⟨hkl,hks⟩:=hk k (Ao hki);obtain⟨u,au,_,hv⟩:=(hat.keep (s1.trans sm)).get hkl;have hA2:=hA (V.str (aU (rdC ((hs.getD k none).getD [])))) (by rw[hki];rfl)
  have r2:=aO sm ha1
  cases eh:hs.getD k none with
  |none=>rw[eh]at hks;cases hks
  |some cs=>
   rw[eh]at hv hA2;obtain⟨pc,rfl,hpc⟩:=hv;have hb:=ok cs (by
    rw[Ad,Aa hkl]at eh;rw[<-show hs[k]=some cs from eh];exact Bk hkl)
   have h7c:=fJ hb
   walk_at "g";refine⟨Wk.set rfl (Wk.refl _),?_⟩;walk_at "g";refine cU r2 au ?_;walk_at "g";refine⟨pc,cs.map one,rfl,aR hpc,by omega,dQ8 cs,λ_ H3 s3=>?_,λhf=>?_⟩
   ·have e:oE (cs.map one)=aU (rdC cs):=by unfold oE;rw[cQF]
    rw[e];exact hA2 _ s3
   ·rw[hb]at hf;cases hf
 ·rw[pO,eT,show ks.map (λk=>V.str (aU (rdC ((hs.getD k none).getD []))))=((ks.map λk=>rdC ((hs.getD k none).getD [])).map aU).map V.str by rw[Ca,Ca];rfl]at hd
  refine fL (bQ (sD _ _ e1)) (bQ hd) (bO (by rw[Ab,Ab,Ab];show 1+_<=_;omega)) λr hr=>?_
  exact q r _ (none_of (s1.trans sD) hr) (s1.trans (sD.trans (aG hr _))) aH
def aJL(f:Nat->Option Int)(hs:List (Option (List Nat)))(L:List Nat):Nat->Option Int:=cI λc=>bE f c+cnt (dH hs L) c
def dZ5(hb:dF (cs.map one)=true):∀d∈rdC cs,bA d:=by
 have h:∀i,i<=cs.length->∀d∈rdC (cs.take i),bA d:=λi=>by
  induction i with
  |zero=>intro _ d hd;rw[He]at hd;cases hd
  |succ i ih=>
   intro hi d hd;have hci:cs[i]?=some cs[i]:=Aa (by omega)
   have hrl:(rdC (cs.take i)).length=i:=pZ (by omega)
   rw[xO hci]at hd;obtain⟨c,e1,e2,e3⟩:=uT hb (i:=i) (z:=one cs[i]) (by rw[Ag,hci];rfl)
   have ec:cs[i]=c:=one_inj.mp e1
   rcases Bp.mp hd with e|e
   ·exact ih (by omega) d e
   ·rw[Al.mp e,ec];unfold stp;rcases e3 with l|⟨sb,lt⟩
    ·rw[if_neg (lF l)];exact l
    ·rw[if_pos sb,Ad,Aa (by omega)]
     exact ih (by omega) _ (Bk _)
 have r:=h cs.length (Ai _)
 rwa [Cg]at r
def cZX{xs:List Addr}{u:Addr}(h:xs[xs.length-1]?=some u):atI (xs.map V.ref) (-1)=some (.ref u):=by
 have hl:0<xs.length:=by have:=(Ac.mp h).1;omega
 unfold atI;rw[show ixN (xs.map V.ref).length (-1)=some (xs.length-1) by
  rw[Ab];unfold ixN;rw[if_neg (by omega),if_pos (by omega)]
  exact Ds some (by omega)]
 show (xs.map V.ref)[xs.length-1]?=_
 rw[Ag,h];rfl
def rZ(ok:hU hs)(hc:cw.length<=7/\∀d∈cw,bA d)(hk:∀k∈ks,k<hs.length/\(hs.getD k none).isSome=true):∀c∈dL hs cw ks,c.length<=7/\∀d∈c,bA d:=λc hcm=>by
 rcases Bb.mp hcm with e|e
 ·rw[e];exact hc
 ·obtain⟨k,hkm,rfl⟩:=Bd.mp e;obtain⟨hkl,hks⟩:=hk k hkm;cases eh:hs.getD k none with
  |none=>rw[eh]at hks;cases hks
  |some cs=>
   have hb:=ok cs (by
    rw[Ad,Aa hkl]at eh;rw[<-show hs[k]=some cs from eh];exact Bk hkl)
   have h7c:=fJ hb
   rw[Ab]at h7c;refine⟨by show (rdC cs).length<=7;rw[aQQ];exact h7c.2,?_⟩
   exact dZ5 hb
def eQ4(H:Hp)(p u:Addr):Prop:=∃(c l1 l2:Addr) (x1 x2:List V),H u=some (.tup [.ref c,.ref l1,.ref l2])/\H l1=some (.lst x1)/\H l2=some (.lst x2)/\l1≠p/\l2≠p
def qU(aC:Addr):Sp:=λvs H Q E=>∃(a b:Addr) (kvs:List (Key×V)) (f:Nat->Option Int) (us:List V) (hs:List (Option (List Nat))) (n:Nat) (cw:List Nat),vs=[.ref a,.ref b,.int ((n:Nat):Int),.str (aU cw)]/\H a=some (.dK kvs)/\Lk kvs f/\(∀c,0<=bE f c)/\rdL H b=some us/\HalsAt H us hs/\hU hs/\hs.length<=6/\n<hs.length/\cw.length<=7/\(∀d∈cw,bA d)/\
 (∀(t L p:Addr) (ks:List Nat) (H':Hp),Same H H'->H' t=some (.tup [.ref L,.ref p])->H' L=some (.lst (ks.map λk=>V.int ((k:Nat):Int)))->ks.Sublist (cL hs n)->Q (.ref t) H')/\
 ∀(dx:Addr) (H':Hp),Same H H'->E (.ref aC) (some dx) H'
def o5:FnScope ["locker", "halyards", "number", "word", "papers", "lowered", "more", "lack"] ["locker", "halyards", "number", "word"] (aK mE):=by walk_at "sc"
def aQ6(F:Fun K "least_set" "least_set" mE f fd)(g9:Cal P w K mg base 10 "sets_of" ["others"] vA)(v0:aJZ P w K mg base 1 Zo ["self", "wants", "flags"] (kW Zo))(c8:Cal P w K mg base 1 "others_hung" ["halyards", "number"] lP)(y6:Cal P w K mg base 2 "put_in" ["locker", "flags"] gS)(c9:Cal P w K mg base 4 "lack_of" ["locker", "words"] uS)(y8:Cal P w K mg base 1 "flags_on" ["halyards", "numbers"] iN)(u5:Cal P w K mg base 5 "words_with" ["halyards", "word", "lowered"] jH):FnOk P w K mg base (CXr P w) 11 f fd ["locker", "halyards", "number", "word"] (qU Zo):=by
 refine F.okX o5 (λvs H Q E h=>?_) (λcdv A outer s H vs Q E hr h=>?_)
 ·obtain⟨a,b,kvs,f,us,hs,n,cw,rfl,_⟩:=h;rfl
 obtain⟨a,b,kvs,f,us,hs,n,cw,rfl,ha,lk,hf0,hb,hat,ok,h6,hn,hc7,hcL,q,qe⟩:=h;refine⟨_,(@aE _ _ _ _ _ (aP 4 o5.nd (bJ aB)) (@aE _ _ _ _ _ (PS.nox (dA Bq rfl (cG (aZ g9 hr (by decide) rfl (aA (aZ c8 hr (by decide) rfl (aA (mv 1) (aA (mv 2) aB))) aB))) (bF (i:=5) o5.nd rfl (Or.inl rfl)) (@aE _ _ _ _ _ (aP 6 o5.nd (aZ y6 hr (by decide) rfl (aA (mv 0) (aA (aZ y8 hr (by decide) rfl (aA (mv 1) (aA (aQ bN (bJ (aA (mv 2) aB)) (mv 5)) aB))) aB)))) (@aE _ _ _ _ _ (aP 7 o5.nd (aZ c9 hr (by decide) rfl (aA (mv 6) (aA (aZ u5 hr (by decide) rfl (aA (mv 1) (aA (mv 3) (aA (mv 5) aB)))) aB)))) (@aE _ _ _ _ _ (bZ (bC aJK (mv 7) dG (bD _)) (@aI _ _ _ (aV (cW (aA (mv 5) (aA (mv 4) aB))))) bH) (@aI _ _ _ (cH (cA Bg Eb Ec bQA (mv 4) (aA (cW (aA (mv 5) (aA (bI bX (mv 7) aJ (λ_ _=>rfl)) (aA (bI bX (mv 7) aJ (λ_ _=>rfl)) aB)))) aB))))))))) (@aI _ _ _ (jV eJ rfl rfl rfl G.c_Lack G.xm_Lack v0 hr (by decide) (aA (bI bX (bI bX (mv 4) (sX sV aJ) (λ_ _=>rfl)) aJ (λ_ _=>rfl)) (aA (bI bX (bI bX (mv 4) (sX sV aJ) (λ_ _=>rfl)) aJ (λ_ _=>rfl)) aB)))))),?_⟩
 have hol:=wY hn
 walk_at "g";refine⟨by decide,λp hp=>?_⟩
 have s1:=aG hp (.lst [])
 have e1:(upd H p (.lst [])) p=some (.lst (([]:List Addr).map V.ref)):=aH
 generalize upd H p (.lst [])=H1 at s1 e1 ⊢;walk_at "g";refine⟨b,us,hs,n,rfl,aO s1 hb,hat.keep s1,by omega,λro H2 hro s2 eo=>?_⟩
 walk_at "g";refine⟨ro,cL hs n,rfl,aR eo,by omega,λrS ps H3 hrS s3 eS ls nd=>?_⟩
 have s13:=s2.trans s3
 walk_at "g";have hps:ps.length=(hJ (cL hs n)).length:=by rw[ls.1,Ab]
 have hpl:(ps.map V.ref).length=(hJ (cL hs n)).length:=by rw[Ab,hps]
 have hsl:(hJ (cL hs n)).length<=6*6^5:=Bi (rJ (i:=(cL hs n).length+1) (by omega) (by omega)) (Nat.mul_le_mul_right _ (by omega))
 have e13:=s13 _ _ e1
 have s03:=s1.trans s13
 have lat:∀(j:Nat) c l,ps[j]?=some c->(hJ (cL hs n))[j]?=some l->H3 c=some (.lst (l.map λk=>V.int ((k:Nat):Int)))/\c≠p/\H c=none:=λj c l hc hl=>by
  obtain⟨h1,h2⟩:=ls.2 j c (l.map λk=>V.int ((k:Nat):Int)) hc (by rw[Ag,hl];rfl)
  exact⟨h2,(λz=>by rw[z,s2 _ _ e1]at h1;cases h1),none_of (s1.trans s2) h1⟩
 have npS:rS≠p:=λz=>by rw[z,s2 _ _ e1]at hrS;cases hrS
 have hsub:∀(j:Nat) l,(hJ (cL hs n))[j]?=some l->l.Sublist (cL hs n):=λj l h=>mem_sets.mp (Ao h)
 refine iK (xs:=ps.map V.ref) (λi σ H'=>∃(ts:List Addr) (v5 v6 v7:Option V),σ=[some (.ref a),some (.ref b),some (.int ((n:Nat):Int)),some (.str (aU cw)),some (.ref p),v5,v6,v7]/\Same H H'/\(∀z u,z≠p->H3 z=some u->H' z=some u)/\H' p=some (.lst (ts.map V.ref))/\ts.length=i/\∀u∈ts,eQ4 H' p u)
  ⟨[],_,_,_,rfl,s03,λz u _ h=>h,e13,rfl,λu hu=>nomatch hu⟩ (λi σ H' _ ⟨_,_,_,_,_,_,fr,_⟩=>aR (fr _ _ npS eS)) ?_ ?_
 ·rintro i x σ H4 hx ⟨ts,v5,v6,v7,rfl,s4,fr4,e4,htl,hpap⟩;have hi:i<(hJ (cL hs n)).length:=by rw[<-hpl];exact(Ac.mp hx).1
  obtain⟨l,hl⟩:∃l,(hJ (cL hs n))[i]?=some l:=⟨_,Aa hi⟩;obtain⟨c,hc,rfl⟩:=bXP hx;obtain⟨lc3,ncp,hcn⟩:=lat i c l hc hl;have lc:=fr4 _ _ ncp lc3
  have hlk:∀k∈l,k<hs.length/\(hs.getD k none).isSome=true:=λk hk=>by
   have:=mY ((hsub i l hl).subset hk)
   exact⟨this.1,this.2.1⟩
  have hll:l.length<=5:=by have:=(hsub i l hl).length_le;omega
  have hb4:=aO s4 hb
  have hat4:=hat.keep s4
  walk_at "g";refine⟨by show 1<=sizeLine;decide,λp5 hp5=>?_⟩
  have s5:=aG hp5 (.lst [V.int ((n:Nat):Int)])
  have e5:(upd H4 p5 (.lst [V.int ((n:Nat):Int)])) p5=some (.lst [V.int ((n:Nat):Int)]):=aH
  generalize upd H4 p5 (.lst [V.int ((n:Nat):Int)])=H5 at s5 e5 ⊢;walk_at "g";refine fL (bQ e5) (bQ (s5 _ _ lc)) (bO (by rw[pO];show 1+_<=_;omega)) λp6 hp6=>?_
  have s6:=aG hp6 (.lst ((n::l).map λk=>V.int ((k:Nat):Int)))
  have e6:rdL (upd H5 p6 (.lst ((n::l).map λk=>V.int ((k:Nat):Int)))) p6=some ((n::l).map λk=>V.int ((k:Nat):Int)):=bP
  change bQN _ (upd H5 p6 (.lst ((n::l).map λk=>V.int ((k:Nat):Int)))) _
  generalize upd H5 p6 (.lst ((n::l).map λk=>V.int ((k:Nat):Int)))=H6 at s6 e6 ⊢;have s46:=s5.trans s6
  walk_at "g";refine⟨b,p6,us,hs,n::l,rfl,aO s46 hb4,hat4.keep s46,ok,e6,by show l.length+1<=7;omega,λk hk=>by rcases Bb.mp hk with e|e;(· rw[e];exact hn);(· exact(hlk k e).1),λr7 H7 hr7 s7 e7=>?_⟩
  have s47:=s46.trans s7
  have fl7:=jN ok (n::l)
  walk_at "g";refine⟨a,r7,kvs,f,dH hs (n::l),rfl,s47 _ _ (s4 _ _ ha),lk,hf0,aR e7,by rw[Ba]at fl7;omega,λr8 kws H8 hr8 s8 e8 lk8=>?_⟩
  have s48:=s47.trans s8
  walk_at "g";refine⟨b,c,us,hs,cw,l,rfl,aO s48 hb4,hat4.keep s48,ok,aR (s48 _ _ lc),by omega,hlk,λr9 H9 hr9 s9 e9=>?_⟩
  have s49:=s48.trans s9
  walk_at "g";refine⟨r8,r9,kws,aJL f hs (n::l),dL hs cw l,rfl,.inl (s9 _ _ e8),lk8,aR e9,by unfold dL;rw[Ba,Ab];omega,rZ ok ⟨hc7,hcL⟩ hlk,λH10 s10=>?_,λt0 l1 l2 x1 x2 H10 s10 e10 el1 el2 hn1 hn2=>?_⟩
  ·have s410:=s49.trans s10
   walk_at "g";rw[show decide (V.non=V.non)=true from rfl];walk_at "g";refine⟨by show 2<=sizeLine;decide,λt ht=>?_⟩
   have s11:=s410.trans (aG ht (.tup [.ref c,.ref p]))
   exact q t c p l _ (s4.trans s11) aH (s11 _ _ lc) (hsub i l hl)
  ·have s410:=s49.trans s10
   have n1:l1≠p:=λz=>by rw[z,s49 _ _ e4]at hn1;cases hn1
   have n2:l2≠p:=λz=>by rw[z,s49 _ _ e4]at hn2;cases hn2
   have m10:=bQ (s410 _ _ e4)
   have r10:=aR (s410 _ _ e4)
   have hln:(ts.map V.ref).length<sizeLine:=bL (by rw[Ab,htl];omega)
   walk_at "g";rw[show decide (V.ref t0=V.non)=false from As (λz=>nomatch z)]
   walk_at "g";refine cK e10 (v:=.ref l1) rfl ?_;walk_at "g";refine cK e10 (v:=.ref l2) rfl ?_;walk_at "g";refine⟨by show 3<=sizeLine;decide,λtp htp=>?_⟩
   have s11:=aG htp (.tup [.ref c,.ref l1,.ref l2])
   have e11:(upd H10 tp (.tup [.ref c,.ref l1,.ref l2])) tp=some (.tup [.ref c,.ref l1,.ref l2]):=aH
   generalize upd H10 tp (.tup [.ref c,.ref l1,.ref l2])=H11 at s11 e11 ⊢;have s411:=s410.trans s11
   have ep:=s411 _ _ e4
   have m11:=bQ ep
   walk_at "g";refine⟨ts++[tp],_,_,_,rfl,bR hp (s4.trans s411),λz u hz h=>by rw[aM hz];exact s411 _ _ (fr4 z u hz h),by rw[aH,Am];rfl,by rw[Af,htl];rfl,λu hu=>?_⟩
   have put:∀u c l1 l2 x1 x2,H11 u=some (.tup [.ref c,.ref l1,.ref l2])->H11 l1=some (.lst x1)->H11 l2=some (.lst x2)->l1≠p->l2≠p->eQ4 (upd H11 p (.lst (ts.map V.ref++[.ref tp]))) p u:=λu c l1 l2 x1 x2 g1 g2 g3 g4 g5=>⟨c,l1,l2,x1,x2,by rw[aM λz=>by rw[z,ep]at g1;cases g1];exact g1,by rw[aM g4];exact g2,by rw[aM g5];exact g3,g4,g5⟩
   rcases Bp.mp hu with z|z
   ·obtain⟨c',k1,k2,y1,y2,g1,g2,g3,g4,g5⟩:=hpap u z;exact put _ _ _ _ _ _ (s411 _ _ g1) (s411 _ _ g2) (s411 _ _ g3) g4 g5
   ·rw[Al.mp z];exact put _ _ _ _ _ _ e11 (s11 _ _ el1) (s11 _ _ el2) n1 n2
 ·rintro σ H4 ⟨ts,v5,v6,v7,rfl,s4,fr4,e4,htl,hpap⟩;rw[hpl]at htl;have hpos:0<(hJ (cL hs n)).length:=List.length_pos_of_mem (mem_sets.mpr (List.nil_sublist (cL hs n)))
  have hu:ts[ts.length-1]?=some (ts[ts.length-1]'(by omega)):=Aa (by omega)
  have au:=cZX hu
  obtain⟨c,l1,l2,x1,x2,h1,h3,h5,_,_⟩:=hpap _ (Ao hu);generalize ts[ts.length-1]'(by omega)=u at h1 au
  have r4:=aR e4
  walk_at "g";refine cU r4 au ?_;walk_at "g";refine cK h1 (v:=.ref l1) rfl ?_;walk_at "g";refine cU r4 au ?_;walk_at "g";refine cK h1 (v:=.ref l2) rfl ?_;walk_at "g";refine⟨by show 2<=sizeLine;decide,λea hea=>⟨ea,l1,l2,_,_,rfl,aH,aO (aG hea _) (aR h3),aO (aG hea _) (aR h5),λdx k1 k2 H' frx hdx nde g1 g2 g3 g4 hk1 hk2=>⟨rfl,some dx,g1,?_⟩⟩⟩
  have go9:∀b u,H4 b=some u->(del H' ea) b=some u:=λb u hu=>by
   have nb:b≠ea:=λz=>by rw[z,hea]at hu;cases hu
   rw[fO nb];exact frx b u nb (by rw[aM nb];exact hu)
  exact qe dx (del H' ea) λb u hu=>go9 _ _ (s4 _ _ hu)
def aJB:∀ {cws:Q5} {fs:List Nat} {i:Nat} {cw:List Nat},cws[i]?=some cw->(tX cws fs)[i]?=some ((fs.drop (iF cws i)).take cw.length)
 |[],_,i,_,h=>by cases h
 |c::r,fs,0,cw,h=>by cases h;rfl
 |c::r,fs,i+1,cw,h=>by
  show (tX r (fs.drop c.length))[i]?=_
  rw[aJB (show r[i]?=some cw from h),List.drop_drop];rfl
def dZ9(cs:List Nat)(c:Nat):cnt cs c=(ctn cs c:Int):=by
 unfold cnt ctn;refine Ds (λn:Nat=>(n:Int)) (List.countP_congr λx _=>?_);simp
def vC{p:List α->Prop}(h0:p [])(h1:∀l a,p l->p (l++[a])):∀l,p l:=λl=>by
 have h:∀r:List α,p r.reverse:=λr=>by
  induction r with
  |nil=>exact h0
  |cons a r ih=>rw[List.reverse_cons];exact h1 _ _ ih
 have:=h l.reverse
 rwa [List.reverse_reverse]at this
def rH(hs:List (Option (List Nat)))(zs:List (Nat×List Nat)):List (Option (List Nat)):=zs.foldl (λh z=>h.set z.1 (some z.2)) hs
def mV(hs:Q3)(zs:List (Nat×List Nat))(z:Nat×List Nat):rH hs (zs++[z])=(rH hs zs).set z.1 (some z.2):=by
 unfold rH;rw[List.foldl_append];rfl
def qN(hs:Q3):∀zs:List (Nat×List Nat),(rH hs zs).length=hs.length:=λzs=>by
 refine vC (p:=λzs=>(rH hs zs).length=hs.length) rfl (λzs z ih=>?_) zs;rw[mV,Dc,ih]
def dJA(hs:Q3):∀(zs:List (Nat×List Nat)),(zs.map (·.1)).Nodup->(∀z∈zs,z.1<hs.length)->∀z∈zs,(rH hs zs).getD z.1 none=some z.2:=λzs=>by
 refine vC (p:=λzs=>(zs.map (·.1)).Nodup->(∀z∈zs,z.1<hs.length)->∀z∈zs,(rH hs zs).getD z.1 none=some z.2) (λ_ _ z hz=>nomatch hz) (λzs y ih=>?_) zs
 ·intro nd hl z hz;rw[Am,Aw,Hr]at nd;rw[mV];rcases Bp.mp hz with e|e
  ·have ne:y.1≠z.1:=λq=>(Hf.mp nd).2.2 z.1 (List.mem_map_of_mem e) y.1 Aj q.symm
   rw[Ad,Dr ne,<-Ad];exact ih (Hf.mp nd).1 (λw hw=>hl w (Co _ hw)) z e
  ·rw[Al.mp e,Ad,Dj (by rw[qN];exact hl y (Bc _ Aj))]
   rfl
def bZP(ok:hU hs):∀zs:List (Nat×List Nat),(∀z∈zs,dF (z.2.map one)=true)->hU (rH hs zs):=λzs=>by
 refine vC (p:=λzs=>(∀z∈zs,dF (z.2.map one)=true)->hU (rH hs zs)) (λ_=>ok) (λzs z ih=>?_) zs;intro h cs hcs;rw[mV]at hcs;rcases Gc hcs with e|e
 ·exact ih (λy hy=>h y (Co _ hy)) cs e
 ·cases e;exact h z (Bc _ Aj)
def aJP:∀ {L:List Nat} {gs:Q5},L.length=gs.length->(∀z∈L.zip gs,hs.getD z.1 none=some z.2)->dH hs L=gs.flatten
 |[],[],_,_=>rfl
 |k::L,g::gs,hl,h=>by
  show ((hs.getD k none).getD [])++dH hs L=g++gs.flatten
  rw[show hs.getD k none=some g from h (k,g) List.mem_cons_self,aJP (by simpa using hl) λz hz=>h z (List.mem_cons_of_mem _ hz)]
  rfl
 |[],_::_,hl,_=>by cases hl
 |_::_,[],hl,_=>by cases hl
def HalsAt.set{vs:List V}(a:HalsAt H vs hs)(b:HalV H v h):HalsAt H (vs.set k v) (hs.set k h):=by
 refine⟨by rw[Dc,Dc,a.len],λj u g hu hg=>?_⟩
 by_cases e:k=j
 ·subst e;have h1:=(Ac.mp hu).1
  have h2:=(Ac.mp hg).1
  rw[Dc]at h1 h2;rw[Dj h1]at hu;rw[Dj h2]at hg;cases hu;cases hg;exact b
 ·rw[Dr e]at hu hg;exact a.val j u g hu hg
def bQU{D:Addr}(h:rdL H p=some xs)(n:p≠D)(fr:∀z u,z≠D->H z=some u->H' z=some u):rdL H' p=some xs:=by
 refine aO (H:=λz=>if z=p then H z else none) (λz u e=>?_) ?_
 ·dsimp only at e;by_cases zp:z=p
  ·rw[if_pos zp]at e;rw[zp]at e ⊢;exact fr p u n e
  ·rw[if_neg zp]at e;cases e
 ·unfold rdL at h ⊢;dsimp only;rw[if_pos rfl];exact h
def cJL{L:List α}{M:List β}{a:α}{b:β}(h1:L[i]?=some a)(h2:M[i]?=some b):(L.zip M).take (i+1)=(L.zip M).take i++[(a,b)]:=by
 rw[Bh];congr 1
 have:(L.zip M)[i]?=some (a,b):=by rw[List.getElem?_zip_eq_some];exact⟨h1,h2⟩
 rw[this];rfl
def fX0{c:Nat}(hL:∀d∈cw,bA d)(hk:k<cw.length)(h:c∈chs cw k):rK c:=by
 rcases ch_iff.mp h with e|⟨m,_,h4,_,e⟩
 ·left
  rw[e,Ad,Aa hk];exact hL _ (Bk hk)
 ·right
  rw[e];unfold eE;omega
def cJU:∀ {cws gs:Q5},Hgs cws gs->(∀c∈cws,1<=c.length/\c.length<=7/\∀d∈c,bA d)->(∀g∈gs,dF (g.map one)=true/\∀c∈g,rK c)
 |_,_,.nil,_,g,hg=>nomatch hg
 |_,_,.cons (cw:=cw) (h:=h) a b,hW,g,hg=>by
  rcases Bb.mp hg with e|e
  ·rw[e];obtain⟨h1,h7,hL⟩:=hW cw Aj;refine⟨dXH hL (by rw[a.1];exact h1) (by rw[a.1];exact h7) (by rw[a.1];exact Ai _) λk hk=>?_,λc hc=>?_⟩
   ·exact a.2 k _ (by rw[Ad,Aa hk];rfl)
   ·obtain⟨k,hk,ek⟩:=Bu.mp hc;exact fX0 hL (by rw[<-a.1];exact hk) (a.2 k c (by rw[Aa hk,ek]))
  ·exact cJU b (λc hc=>hW c (Ak _ hc)) g e
def Hgs.lens:∀ {cws gs:Q5},Hgs cws gs->gs.length=cws.length
 |_,_,.nil=>rfl
 |_,_,.cons _ b=>by rw[Ba,Ba,b.lens]
def sW(f:Nat->Option Int)(hs:Q3)(L:List Nat)(c:Nat):0<=bE (aJL f hs L) c:=by
 show 0<=(cI _ c).getD 0
 unfold cI;split
 ·rename_i h;exact Int.le_of_lt h.2
 ·exact Hq _
def bJ8(hs:Q3)(n:Nat):(cL hs n).Nodup:=List.Nodup.sublist List.filter_sublist List.nodup_range
def cXB(h:ks.Sublist (cL hs n)):(n::ks).Nodup:=Cy.mpr ⟨λz=>(mY (h.subset z)).2.2 rfl,(bJ8 hs n).sublist h⟩
def wJ(ok:hU hs)(h1:1<=cw.length)(hc:cw.length<=7/\∀d∈cw,bA d)(hk:∀k∈ks,k<hs.length/\(hs.getD k none).isSome=true):∀c∈dL hs cw ks,1<=c.length/\c.length<=7/\∀d∈c,bA d:=λc hcm=>by
 refine⟨?_,rZ ok hc hk c hcm⟩;rcases Bb.mp hcm with e|e
 ·rw[e];exact h1
 ·obtain⟨k,hkm,rfl⟩:=Bd.mp e;obtain⟨hkl,hks⟩:=hk k hkm;cases eh:hs.getD k none with
  |none=>rw[eh]at hks;cases hks
  |some cs=>
   have hb:=ok cs (by
    rw[Ad,Aa hkl]at eh;rw[<-show hs[k]=some cs from eh];exact Bk hkl)
   have h7c:=fJ hb
   rw[Ab]at h7c;show 1<=(rdC cs).length
   rw[aQQ];exact h7c.1
def fQ6(H:Hp)(a b:Addr)(kvs:List (Key×V))(f:Nat->Option Int)(us:List V)(hs:List (Option (List Nat)))(n:Nat)(cw:List Nat):Prop:=H a=some (.dK kvs)/\Lk kvs f/\(∀c,0<=bE f c)/\rdL H b=some us/\HalsAt H us hs/\hU hs/\hs.length<=6/\n<hs.length/\1<=cw.length/\cw.length<=7/\(∀d∈cw,bA d)
def zN(aC:Addr):Sp:=λvs H Q E=>∃(a b:Addr) (kvs:List (Key×V)) (f:Nat->Option Int) (us:List V) (hs:List (Option (List Nat))) (n:Nat) (cw:List Nat),vs=[.ref a,.ref b,.int ((n:Nat):Int),.str (aU cw)]/\fQ6 H a b kvs f us hs n cw/\
 (∀(t L B R:Addr) (ks:List Nat) (gs:Q5) (vs':List V) (kws:List (Key×V)) (g:Nat->Int) (H':Hp),Same H H'->H' t=some (.tup [.ref L,.ref B,.ref R])->ks.Sublist (cL hs n)->Hgs (dL hs cw ks) gs->H B=none->H' B=some (.lst vs')->HalsAt H' vs' (rH hs ((n::ks).zip gs))->H' R=some (.dK kws)->Lk kws (cI g)->Q (.ref t) H')/\
 ∀(dx:Addr) (H':Hp),Same H H'->E (.ref aC) (some dx) H'
def u6:FnScope ["locker", "halyards", "number", "word", "lowered", "rehung", "more", "behind", "at", "hoist"] ["locker", "halyards", "number", "word"] (aK wI):=by walk_at "sc"
def cXC(F:Fun K "hauled" "hauled" wI f fd)(y6:Cal P w K mg base 2 "put_in" ["locker", "flags"] gS)(b7:gI P w K mg base 11 "least_set" ["locker", "halyards", "number", "word"] (qU Zo))(y8:Cal P w K mg base 1 "flags_on" ["halyards", "numbers"] iN)(z5:gI P w K mg base 3 "hang_all" ["locker", "words"] (iL Zo))(z6:gI P w K mg base 3 "taken" ["locker", "flags"] (qI Zq))(u5:Cal P w K mg base 5 "words_with" ["halyards", "word", "lowered"] jH):FnOk P w K mg base (CXr P w) 12 f fd ["locker", "halyards", "number", "word"] (zN Zo):=by
 refine F.okX u6 (λvs H Q E h=>?_) (λcdv A outer s H vs Q E hr h=>?_)
 ·obtain⟨a,b,kvs,f,us,hs,n,cw,rfl,_⟩:=h;rfl
 obtain⟨a,b,kvs,f,us,hs,n,cw,rfl,⟨ha,lk,hf0,hb,hat,ok,h6,hn,hc1,hc7,hcL⟩,q,qe⟩:=h;refine⟨_,(@aE _ _ _ _ _ (aP 4 u6.nd (bI bX (cP b7 bW hr (by decide) rfl (aA (mv 0) (aA (mv 1) (aA (mv 2) (aA (mv 3) aB))))) aJ (λ_ _=>rfl))) (@aE _ _ _ _ _ (aP 5 u6.nd (aQ bN (bJ (aA (mv 2) aB)) (mv 4))) (@aE _ _ _ _ _ (aP 6 u6.nd (aZ y6 hr (by decide) rfl (aA (mv 0) (aA (aZ y8 hr (by decide) rfl (aA (mv 1) (aA (mv 5) aB))) aB)))) (@aE _ _ _ _ _ (fR (i:=7) u6.nd rfl (Or.inl rfl) rfl (cG (mv 1)) (iC (N:=["hoist"]) (by decide +kernel) (by decide +kernel)) (by decide +kernel) rfl (by decide +kernel) (λ_ _ _ _=>(bF (i:=0) (show List.Nodup (["hoist"]:List Str) by decide +kernel) rfl (Or.inl rfl))) (λ_ _ _ _=>cZ) (λ_ _ _ _=>(pU (bC aJK (mv 0) dG (bD _)) dG (cF iY rfl G.b_list fD (aA (mv 0) aB))))) (@aE _ _ _ _ _ (dA PassesOwn.leaving rfl (fQ2 rfl G.b_zip (aA (mv 5) (aA (cP z5 bW hr (by decide) rfl (aA (mv 6) (aA (aZ u5 hr (by decide) rfl (aA (mv 1) (aA (mv 3) (aA (mv 4) aB)))) aB))) aB))) (dN (K:=K) (i:=8) (j:=9) (by rfl) (by rfl) u6.nd (by rfl) (by exact(Or.inl rfl)) (by exact Or.inl rfl) (by rfl) (by exact(Or.inl rfl)) (by exact Or.inl rfl)) (@aI _ _ _ (vI (mv 9) (bXI (mv 7) (mv 8) vR)))) (@aI _ _ _ (aV (cW (aA (mv 4) (aA (mv 7) (aA (cP z6 bW hr (by decide) rfl (aA (mv 6) (aA (aZ y8 hr (by decide) rfl (aA (mv 7) (aA (mv 5) aB))) aB))) aB))))))))))),?_⟩
 have hol:=wY hn
 walk_at "g";refine⟨a,b,kvs,f,us,hs,n,cw,rfl,ha,lk,hf0,hb,hat,ok,h6,hn,hc7,hcL,λt0 L p0 ks H1 s1 et eL hks=>?_,qe⟩;have hlk:∀k∈ks,k<hs.length/\(hs.getD k none).isSome=true:=λk hk=>by
  have:=mY (hks.subset hk)
  exact⟨this.1,this.2.1⟩
 have hkl:ks.length<=5:=by have:=hks.length_le;omega
 have hb1:=aO s1 hb
 have hat1:=hat.keep s1
 refine cK et (v:=.ref L) rfl ?_;walk_at "g";refine⟨by show 1<=sizeLine;decide,λp5 hp5=>?_⟩
 have s5:=aG hp5 (.lst [V.int ((n:Nat):Int)])
 have e5:(upd H1 p5 (.lst [V.int ((n:Nat):Int)])) p5=some (.lst [V.int ((n:Nat):Int)]):=aH
 generalize upd H1 p5 (.lst [V.int ((n:Nat):Int)])=H5 at s5 e5 ⊢;walk_at "g";refine fL (bQ e5) (bQ (s5 _ _ eL)) (bO (by rw[pO];show 1+_<=_;omega)) λp6 hp6=>?_
 have s6:=aG hp6 (.lst ((n::ks).map λk=>V.int ((k:Nat):Int)))
 have e6:rdL (upd H5 p6 (.lst ((n::ks).map λk=>V.int ((k:Nat):Int)))) p6=some ((n::ks).map λk=>V.int ((k:Nat):Int)):=bP
 change gH _ _ _ (upd H5 p6 (.lst ((n::ks).map λk=>V.int ((k:Nat):Int)))) _
 generalize upd H5 p6 (.lst ((n::ks).map λk=>V.int ((k:Nat):Int)))=H6 at s6 e6 ⊢;have s16:=s5.trans s6
 walk_at "g";refine⟨b,p6,us,hs,n::ks,rfl,aO s16 hb1,hat1.keep s16,ok,e6,by show ks.length+1<=7;omega,λk hk=>by rcases Bb.mp hk with e|e;(· rw[e];exact hn);(· exact(hlk k e).1),λr7 H7 hr7 s7 e7=>?_⟩
 have s17:=s16.trans s7
 have fl7:=jN ok (n::ks)
 walk_at "g";refine⟨a,r7,kvs,f,dH hs (n::ks),rfl,s17 _ _ (s1 _ _ ha),lk,hf0,aR e7,by rw[Ba]at fl7;omega,λr8 kws H8 hr8 s8 e8 lk8=>?_⟩
 have s18:=s17.trans s8
 have e68:=aO (s7.trans s8) e6
 have hb8:=aO s18 hb1
 have hat8:=hat1.keep s18
 have hul:=hat.len
 walk_at "g";refine bZQ (hs:=hs) hb8 (bL (by omega)) hul (λi x h Hc A B hx hh sm hA=>?_) (λD Hd vs hD sD hd hatD hfr=>?_)
 ·have hv:=(hat8.keep sm).val i x h hx hh
  cases h with
  |none=>
   obtain rfl:x=V.non:=hv;walk_at "g";refine⟨Wk.set rfl (Wk.refl _),?_⟩;walk_at "g";rw[show decide (V.non=V.non)=true from rfl];walk_at "g";exact hA .non _ (Same.refl _) rfl λp z=>nomatch z
  |some cs=>
   obtain⟨pc,rfl,hpc⟩:=hv;have rc:=aR hpc
   walk_at "g";refine⟨Wk.set rfl (Wk.refl _),?_⟩;walk_at "g";rw[show decide (V.ref pc=V.non)=false from As (λz=>nomatch z)]
   walk_at "g";intro l2 hl2;exact hA (.ref l2) _ (aG hl2 _) ⟨l2,rfl,aH⟩ λp z=>by cases z;exact hl2
 ·have s1D:=s18.trans sD
  have e6D:=aO sD e68
  have eLD:=s1D _ _ eL
  walk_at "g";refine⟨b,L,us,hs,cw,ks,rfl,aO s1D hb1,hat1.keep s1D,ok,aR eLD,by omega,hlk,λr9 H9 hr9 s9 e9=>?_⟩
  walk_at "g";refine⟨r8,r9,kws,aJL f hs (n::ks),dL hs cw ks,rfl,.inl (s9 _ _ (sD _ _ e8)),lk8,aR e9,by unfold dL;rw[Ba,Ab];omega,rZ ok ⟨hc7,hcL⟩ hlk,λrh ps fs H10 hrh s10 er hne hls hfl hch hct=>?_,λdx l1 l2 x1 x2 H10 s10 _ _ _ _ _=>qe dx H10 (s1.trans (s1D.trans (s9.trans s10)))⟩
  have sD10:=s9.trans s10
  have hgs:=eJ8 hfl hch
  have hflat:=aQH (hfl.trans (cZR (dL hs cw ks)))
  have hgl:=hgs.lens
  have hpg:∀(i:Nat) p g,ps[i]?=some p->(tX (dL hs cw ks) fs)[i]?=some g->H10 p=some (.lst ((g.map one).map V.str))/\p≠D:=λi p g hp hg=>by
   have hi:i<(dL hs cw ks).length:=by rw[<-hgl];exact(Ac.mp hg).1
   have ec:(dL hs cw ks)[i]?=some (dL hs cw ks)[i]:=Aa hi
   rw[aJB ec]at hg;obtain⟨h1,h2⟩:=hls.2 i p (lI (dL hs cw ks) fs i) hp (by rw[Ag,List.getElem?_range hi];rfl)
   refine⟨?_,λz=>by rw[z,s9 _ _ hd]at h1;cases h1⟩
   unfold lI at h2;rw[Ad,ec]at h2;cases hg;exact h2
  have hcnt:∀c,cnt (tX (dL hs cw ks) fs).flatten c<=bE (aJL f hs (n::ks)) c:=λc=>by
   rw[hflat,dZ9];exact Int.le_trans (hct c) (cX4 (sW f hs (n::ks)) c)
  have hwone:=wJ ok hc1 ⟨hc7,hcL⟩ hlk
  have hgf:=cJU hgs hwone
  have hpsl:ps.length=(tX (dL hs cw ks) fs).length:=by rw[hls.1,Ab,Ce,hgl]
  have hgl2:(tX (dL hs cw ks) fs).length=(n::ks).length:=by rw[hgl];show ((ks.map _).length+1)=ks.length+1;rw[Ab]
  generalize tX (dL hs cw ks) fs=gs at hgs hflat hgl hpg hcnt hgf hpsl hgl2;have e610:=aO sD10 e6D
  have er10:=aR er
  have eD10:=sD10 _ _ hd
  have hat10:=hatD.keep sD10
  have nd6:p6≠D:=λz=>by rw[z]at e68;unfold rdL at e68;rw[hD]at e68;cases e68
  have ndh:rh≠D:=λz=>by rw[z,s9 _ _ hd]at hrh;cases hrh
  have s810:=sD.trans sD10
  walk_at "g";refine fQN (xs:=((n::ks).map λk=>V.int ((k:Nat):Int))) (ys:=ps.map V.ref) (λi σ H'=>∃(v8 v9:Option V) (ws:List V),σ=[some (.ref a),some (.ref b),some (.int ((n:Nat):Int)),some (.str (aU cw)),some (.ref L),some (.ref p6),some (.ref r8),some (.ref D),v8,v9]/\Same H8 H'/\(∀z u,z≠D->H10 z=some u->H' z=some u)/\H' D=some (.lst ws)/\HalsAt H' ws (rH hs (((n::ks).zip gs).take i)))
   ⟨_,_,vs,rfl,s810,λz u _ h=>h,eD10,hat10⟩ (λi σ H' _ _ ⟨_,_,_,_,_,fr,_⟩=>⟨bQU e610 nd6 fr,bQU er10 ndh fr⟩) ?_ ?_
  ·rintro i x y σ H11 pt hx hy ⟨v8,v9,ws,rfl,s11,fr11,e11,hat11⟩ hpt;obtain⟨k,hk,rfl⟩:=uF hx;obtain⟨pg,hpgi,rfl⟩:=bXP hy;have hig:i<gs.length:=by rw[<-hpsl];exact(Ac.mp hpgi).1
   have eg:gs[i]?=some gs[i]:=Aa hig
   obtain⟨hp10,npD⟩:=hpg i pg _ hpgi eg;have hp11:=fr11 _ _ npD hp10
   have hkl2:k<hs.length:=by rcases Bb.mp (Ao hk) with e|e;(· rw[e];exact hn);(· exact(hlk k e).1)
   have hwl:ws.length=hs.length:=by rw[hat11.len,qN]
   have tk:=cJL hk eg
   generalize gs[i]=g at eg hp10 hp11 tk;have s12:=aG hpt (.tup [.int ((k:Nat):Int),.ref pg])
   have t12:tR (upd H11 pt (.tup [.int ((k:Nat):Int),.ref pg])) pt=some [.int ((k:Nat):Int),.ref pg]:=mZ
   have e12:=s12 _ _ e11
   have hat12:=hat11.keep s12
   have hp12:=s12 _ _ hp11
   generalize upd H11 pt (.tup [.int ((k:Nat):Int),.ref pg])=H12 at s12 t12 e12 hat12 hp12 ⊢;walk_at "g";refine fZB (o:=.non) (bQ e12) (eZO (by omega) (by rw[hwl];omega)) ?_
   rw[show ((k:Nat):Int).toNat=k from rfl];refine⟨_,_,ws.set k (.ref pg),rfl,bR hD (s11.trans s12),λz u hz h=>by rw[aM hz];exact s12 _ _ (fr11 z u hz h),aH,?_⟩
   rw[tk,mV];exact(hat12.put e12).set ⟨pg,rfl,by rw[aM npD];exact hp12⟩
  ·rintro σ H11 ⟨v8,v9,ws,rfl,s11,fr11,e11,hat11⟩;have hzl:((n::ks).zip gs).length=(n::ks).length:=by rw[List.length_zip,hgl2,Nat.min_self]
   rw[pO,Ab,hpsl,hgl2,Nat.min_self,<-hzl,Cg]at hat11;have hzk:∀z∈(n::ks).zip gs,z.1∈n::ks/\z.2∈gs:=λz hz=>Fk hz
   have ok':hU (rH hs ((n::ks).zip gs)):=bZP ok _ λz hz=>(hgf z.2 (hzk z hz).2).1
   have hkk:∀k∈n::ks,k<hs.length:=λk hk=>by rcases Bb.mp hk with e|e;(· rw[e];exact hn);(· exact(hlk k e).1)
   have ndz:(((n::ks).zip gs).map (·.1)).Nodup:=by
    rw[show ((n::ks).zip gs).map (·.1)=n::ks from List.map_fst_zip (by rw[hgl2];exact Ai _)]
    exact cXB hks
   have hfo:dH (rH hs ((n::ks).zip gs)) (n::ks)=gs.flatten:=aJP hgl2.symm (dJA hs _ ndz λz hz=>hkk z.1 (hzk z hz).1)
   have e6b:=bQU e610 nd6 fr11
   have e8b:H11 r8=some (.dK kws):=s11 _ _ e8
   walk_at "g";refine⟨D,p6,ws,_,n::ks,rfl,aR e11,hat11,ok',e6b,by show ks.length+1<=7;omega,λk hk=>by rw[qN];exact hkk k hk,λr12 H12 hr12 s12 e12=>?_⟩
   rw[hfo]at e12;have hfle:gs.flatten.length<=42:=by
    have:=jN ok' (n::ks)
    rw[hfo,Ba]at this;omega
   walk_at "g";refine⟨r8,r12,kws,aJL f hs (n::ks),gs.flatten,rfl,s12 _ _ e8b,lk8,sW f hs (n::ks),aR e12,by omega,λc hc=>by obtain⟨g,hg,hcg⟩:=List.mem_flatten.mp hc;exact(hgf g hg).2 c hcg,λ_ rR kwR H13 hrR s13 eR lkR=>?_,λi c hi _ hle=>?_⟩
   ·walk_at "g";refine⟨by show 3<=sizeLine;decide,λt ht=>?_⟩
    have k14:=aG ht (.tup [.ref L,.ref D,.ref rR])
    have s114:=s12.trans (s13.trans k14)
    have sH11:Same H H11:=s1.trans (s18.trans s11)
    exact q t L D rR ks gs ws kwR _ _ (sH11.trans s114) aH hks hgs (none_of (s1.trans s18) hD) (s114 _ _ e11) (hat11.keep s114) (k14 _ _ eR) lkR
   ·have h1:=eJ3 hi
    have h2:=hcnt c
    omega
def gG:Sp:=λ_ _ _ _=>False
def tZ(F:Fun K "all_flags_on" "all_flags_on" lJ f fd)(G:Gs K mg w Zo Zz Zq Zx Z0 Zt Zy Zw Zu Zv Zr Zs Zp):FnOk P w K mg base CX0 1 f fd ["halyards"] gG:=⟨λ_ _ _ _ h=>h.elim,λ_ _ _ _ _ _ _ _ _ _ _ _ _ h=>h.elim⟩
def nZ:Sp:=λ_ _ _ _=>False
def yN(F:Fun K "longest_on" "longest_on" pW f fd)(G:Gs K mg w Zo Zz Zq Zx Z0 Zt Zy Zw Zu Zv Zr Zs Zp):FnOk P w K mg base CX0 1 f fd ["meanings", "terms", "table", "start"] nZ:=⟨λ_ _ _ _ h=>h.elim,λ_ _ _ _ _ _ _ _ _ _ _ _ _ h=>h.elim⟩
def hZ(z:Str):Bool:=if z.length<1\/10<z.length then false else z.cps.toList.all λc=>decide (c∈tmsT.cps.toList)
abbrev dQ(z:Str):List Str:=Txt.split z (Str.ofString " ")
def xY(z:Str)(n:Int):Bool:=decide (((dQ z).length:Int)<=n)&&(dQ z).all hZ
def cQU{y:Str}(h:y∈dQ z):y.length<=z.length:=by
 have:=PySem.join_mem_le (Str.ofString " ") (dQ z) y h
 rw[StrLaws.join_split]at this;exact this
def bQH(z:Str):(dQ z).length<=z.length+2:=by
 unfold dQ Txt.split;split
 ·show 1<=_;omega
 ·split
  ·show 1<=_;omega
  ·rw[PySem.length_partsBetween];have e1:=StrLaws.occ_length_le z (Str.ofString " ") 0 z.length (z.length+1)
   omega
def xN:Sp:=λvs H Q _=>∃z,vs=[.str z]/\z.length<=1000/\∀H',Same H H'->Q (.bl (hZ z)) H'
def gY:Sp:=λvs H Q _=>∃z n,vs=[.str z,.int n]/\z.length<=1000/\∀H',Same H H'->Q (.bl (xY z n)) H'
def bXM:FnScope ["text"] ["text"] (aK sM):=by walk_at "sc"
def bQ6(F:Fun K "is_term" "is_term" sM f fd):FnOk P w K mg base CX0 1 f fd ["text"] xN:=by
 refine F.ok bXM (λvs H Q E h=>?_) (λcdv A outer s H vs Q E hr h=>?_)
 ·obtain⟨z,rfl,_⟩:=h;rfl
 obtain⟨z,rfl,hl,q⟩:=h;refine⟨_,(@aE _ _ _ _ _ (bZ (PW.pt (oG (bC aXP (aX cQ rfl G.b_len bS (aA (mv 0) aB)) aJ (bD _)) (mR (bC bQS (aX cQ rfl G.b_len bS (aA (mv 0) aB)) (qJ rfl G.s_LONGEST_TERM) (bD _))))) (@aI _ _ _ (aV nO)) bH) (@aI _ _ _ (aV (aX (bJP rfl) rfl G.b_all aXH (aA (cJ rfl (kT (mv 0)) (iC (N:=["sign"]) (by decide +kernel) (by decide +kernel)) (by decide +kernel) rfl (by decide +kernel) (λ_ _ _ _=>(bF (i:=0) (show List.Nodup (["sign"]:List Str) by decide +kernel) rfl (Or.inl rfl))) (λ_ _ _ _=>cZ) (λ_ _ _ _=>(fE aZN (mv 0) (eO rfl G.s_TERM_LETTERS) (by rfl)))) aB))))),?_⟩
 walk_at "g";refine dZ (λhc=>?_) (λhc=>?_)
 ·walk_at "g";have e:hZ z=false:=if_pos (.inl (by have:=Az hc;omega))
  have r:=q H (Same.refl H)
  rw[e]at r;exact r
 ·have hc':=Bm (Bs.mpr hc)
  walk_at "g";refine dZ (λhd=>?_) (λhd=>?_)
  ·walk_at "g";have e:hZ z=false:=if_pos (.inr (by have:=Az hd;omega))
   have r:=q H (Same.refl H)
   rw[e]at r;exact r
  ·have hd':=Bm (Bs.mpr hd)
   walk_at "g";refine bQI (λc=>some (.bl (decide (c∈tmsT.cps.toList)))) (bL (by omega)) (λi c Hc A B hc' hA=>?_) (λD hD=>?_)
   ·walk_at "g";refine⟨Wk.set rfl (Wk.refl _),?_⟩;walk_at "g";have e:subIn ⟨#[c]⟩ tmsT=decide (c∈tmsT.cps.toList):=mX _ _
    show A (.bl (subIn ⟨#[c]⟩ tmsT)) Hc
    rw[e];exact hA
   ·walk_at "g";have e:z.cps.toList.filterMap (λc=>some (V.bl (decide (c∈tmsT.cps.toList))))=(z.cps.toList.map λc=>decide (c∈tmsT.cps.toList)).map V.bl:=by
     rw[Ca];exact iO _ _
    rw[e];have sm:Same H (upd H D (.lst ((z.cps.toList.map λc=>decide (c∈tmsT.cps.toList)).map V.bl))):=aG hD _
    refine bZY (bs:=z.cps.toList.map λc=>decide (c∈tmsT.cps.toList)) bP ?_;have e2:hZ z=(z.cps.toList.map λc=>decide (c∈tmsT.cps.toList)).all id:=by
     unfold hZ;rw[if_neg (by omega),Ha]
     rfl
    have r:=q _ sm
    rw[e2]at r;exact r
def yBC:FnScope ["text", "most", "terms"] ["text", "most"] (aK eX):=by walk_at "sc"
def oS(F:Fun K "is_row_of_terms" "is_row_of_terms" eX f fd)(b8:Cal P w K mg base 1 "is_term" ["text"] xN):FnOk P w K mg base CX0 2 f fd ["text", "most"] gY:=by
 refine F.ok yBC (λvs H Q E h=>?_) (λcdv A outer s H vs Q E hr h=>?_)
 ·obtain⟨z,n,rfl,_⟩:=h;rfl
 obtain⟨z,n,rfl,hl,q⟩:=h;refine⟨_,(@aE _ _ _ _ _ (aP 2 yBC.nd (cA Cm Hh Hi aZA (mv 0) (@aY _ _ _ _ _ _ aB))) (@aI _ _ _ (aV (aZE (fE gQD (aX cQ rfl G.b_len bS (aA (mv 2) aB)) (mv 1) (bD _)) (bXF (aX (bJP rfl) rfl G.b_all aXH (aA (cJ rfl (cG (mv 2)) (iC (N:=["term"]) (by decide +kernel) (by decide +kernel)) (by decide +kernel) rfl (by decide +kernel) (λ_ _ _ _=>(bF (i:=0) (show List.Nodup (["term"]:List Str) by decide +kernel) rfl (Or.inl rfl))) (λ_ _ _ _=>cZ) (λ_ _ _ _=>(aZ b8 hr (by decide) rfl (aA (mv 0) aB)))) aB))))))),?_⟩
 walk_at "g";refine aQZ rfl (by omega) λr hr=>?_
 have s1:=aG hr (.lst ((dQ z).map V.str))
 have r1:rdL (upd H r (.lst ((dQ z).map V.str))) r=some ((dQ z).map V.str):=bP
 show gH _ _ _ (upd H r (.lst ((dQ z).map V.str))) _
 generalize upd H r (.lst ((dQ z).map V.str))=H1 at s1 r1 ⊢;have hpl:((dQ z).map V.str).length=(dQ z).length:=Ab ..
 have hpm:=bQH z
 walk_at "g";rw[hpl];unfold xY at q;refine dZ (λhc=>?_) (λhc=>?_)
 ·rw[show decide (((dQ z).length:Int)<=n)=true from hc,Ge]at q;walk_at "g";refine qL (xs:=(dQ z).map V.str) (λx=>match x with|.str y=>some (.bl (hZ y))|_=>none) r1 (by rw[hpl];exact bL (by omega)) (λi x Hc A B hx sm hA=>?_) (λD Hd hD sD hd=>?_)
  ·obtain⟨y,hy,rfl⟩:=gX hx;walk_at "g";refine⟨Wk.set rfl (Wk.refl _),?_⟩;walk_at "g";refine⟨y,rfl,by have:=cQU (Ao hy);omega,λH2 s2=>?_⟩
   exact hA _ s2
  ·have e:((dQ z).map V.str).filterMap (λx=>match x with | .str y=>some (V.bl (hZ y)) | _=>none)=((dQ z).map hZ).map V.bl:=by
    rw[Gj,Ca];exact iO (λy=>V.bl (hZ y)) _
   rw[e]at hd;walk_at "g";refine bZY (bs:=(dQ z).map hZ) (aR hd) ?_;have r:=q Hd (s1.trans sD)
   rw[show ((dQ z).map hZ).all id=(dQ z).all hZ by rw[Ha];rfl]
   exact r
 ·have hc':decide (((dQ z).length:Int)<=n)=false:=Bs.mpr hc
  rw[hc',Bool.false_and]at q;exact q _ s1
def cXQ{t:List Nat}(h:jS t):hZ (aU t)=true:=by
 unfold hZ;rw[cC,if_neg (by have:=h.1;have:=h.2.1;omega),bV,Bv]
 intro c hc;have:=h.2.2 c hc
 refine Ap ?_;have q:∀k:_root_.Fin 26,(97+k.val)∈tmsT.cps.toList:=by decide +kernel
 unfold cQ6 at this;have e:=q ⟨c-97,by omega⟩
 rwa [show 97+(c-97)=c by omega]at e
def oN{ts:Q5}(h1:1<=ts.length)(h:∀t∈ts,jS t):dQ (eY ts)=ts.map aU:=by
 refine bQY (L:=ts.map aU) (λz=>?_) (λz hz=>?_)
 ·rw[List.map_eq_nil_iff]at z;rw[z]at h1;exact absurd h1 (by decide)
 ·obtain⟨t,ht,rfl⟩:=Bd.mp hz;rw[bV];intro m;have:=(h t ht).2.2 32 m
  unfold cQ6 at this;omega
def cQP(ts:Q5)(h:∀t∈ts,jS t):(eY ts).length<=11*ts.length:=by
 have e:=PySem.StrLaws.join_length_le (Str.ofString " ") (ts.map aU)
 have e2:eY ts=Str.join (Str.ofString " ") (ts.map aU):=Du _ _
 have s1:=aQF ts h
 rw[e2];rw[Ab,show (Str.ofString " ").length=1 from rfl]at e;omega
def aZ5(H:Hp)(r:Addr)(ts:List (List Nat)):Prop:=H r=some (.lst ((ts.map aU).map V.str))
def sU(aT:Addr):Sp:=λvs H Q E=>∃z:Str,vs=[.str z]/\z.length<=1000/\(xY z 40=true->∀(r:Addr) (H':Hp),H r=none->Same H H'->H' r=some (.lst ((dQ z).map V.str))->Q (.ref r) H')/\(xY z 40=false->∀H',Same H H'->E (.ref aT) none H')
def dQ1{T:Q5}(h1:1<=T.length)(h40:T.length<=40)(hT:∀t∈T,jS t):xY (eY T) 40=true:=by
 unfold xY;rw[oN h1 hT,Ab,Ap (by omega),Ge,Bv]
 intro z hz;obtain⟨t,ht,rfl⟩:=Bd.mp hz;exact cXQ (hT t ht)
def aJ7:FnScope ["text"] ["text"] (aK oV):=by walk_at "sc"
def aJU(F:Fun K "terms_of" "terms_of" oV f fd)(b9:Cal P w K mg base 2 "is_row_of_terms" ["text", "most"] gY):FnOk P w K mg base (CXr P w) 3 f fd ["text"] (sU Zv):=by
 refine F.okX aJ7 (λvs H Q E h=>?_) (λcdv A outer s H vs Q E hr h=>?_)
 ·obtain⟨z,rfl,_⟩:=h;rfl
 obtain⟨z,rfl,hz,q,qe⟩:=h;refine⟨_,(@aE _ _ _ _ _ (bZ (sJ (eG (aZ b9 hr (by decide) rfl (aA (mv 0) (aA (qJ rfl G.s_MOST_TERMS) aB))))) (@aI _ _ _ (gU eJ rfl rfl rfl G.c_NoText G.x_NoText Cj (@aY _ _ _ _ _ _ aB))) bH) (@aI _ _ _ (aV (cA Cm Hh Hi aZA (mv 0) (@aY _ _ _ _ _ _ aB))))),?_⟩
 walk_at "g";refine⟨z,40,rfl,hz,λH1 s1=>?_⟩;cases hr:xY z 40 with
 |false=>
  walk_at "g";exact⟨by show 1<=sizeLine;decide,qe hr _ s1⟩
 |true=>
  walk_at "g";refine aQZ rfl (by omega) λr hr1=>?_
  exact q hr r _ (none_of s1 hr1) (s1.trans (aG hr1 _)) aH
def MsAt(H:Hp)(r:Addr)(mss:List (List (List Nat))):Prop:=∃ps:List Addr,H r=some (.lst (ps.map V.ref))/\ps.length=mss.length/\∀(j:Nat) p ms,ps[j]?=some p->mss[j]?=some ms->aZ5 H p ms
def MsAt.keep(h:MsAt H r mss)(s:Same H H'):MsAt H' r mss:=by
 obtain⟨ps,h1,h2,h3⟩:=h;exact⟨ps,s _ _ h1,h2,λj p ms hp hm=>s _ _ (h3 j p ms hp hm)⟩
def jW(bk:List (Str×Str))(mss:List (List (List Nat))):Prop:=mss.length=bk.length/\∀(j:Nat) b ms,bk[j]?=some b->mss[j]?=some ms->b.2=eY ms/\1<=ms.length/\ms.length<=5/\∀t∈ms,jS t
def mQ:Sp:=λvs H Q _=>∃(a:Addr) (bk:List (Str×Str)) (mss:List (List (List Nat))),vs=[.ref a]/\BkAt H a bk/\bk.length<=60/\jW bk mss/\∀(r:Addr) (H':Hp),H r=none->Same H H'->MsAt H' r mss->Q (.ref r) H'
def wK:FnScope ["book"] ["book"] (aK iT):=by walk_at "sc"
def uP(F:Fun K "meanings_of" "meanings_of" iT f fd)(G:Gs K mg w Zo Zz Zq Zx Z0 Zt Zy Zw Zu Zv Zr Zs Zp):FnOk P w K mg base CX0 1 f fd ["book"] mQ:=by
 refine F.ok wK (λvs H Q E h=>?_) (λcdv A outer s H vs Q E hr h=>?_)
 ·obtain⟨a,bk,mss,rfl,_⟩:=h;rfl
 obtain⟨a,bk,mss,rfl,hbk,h60,hms,q⟩:=h;refine⟨_,(@aI _ _ _ (aV (cJ rfl (cG (mv 0)) (iC (N:=["word", "meaning"]) (by decide +kernel) (by decide +kernel)) (by decide +kernel) rfl (by decide +kernel) (λ_ _ _ _=>(dN (K:=K) (i:=0) (j:=1) (by rfl) (by rfl) (show List.Nodup (["word", "meaning"]:List Str) by decide +kernel) (by rfl) (by exact Or.inl rfl) (by exact Or.inr rfl) (by rfl) (by exact Or.inl rfl) (by exact Or.inr rfl))) (λ_ _ _ _=>cZ) (λ_ _ _ _=>(cA Cm Hh Hi aZA (mv 1) (@aY _ _ _ _ _ _ aB)))))),?_⟩
 obtain⟨qs,b1,b2,b3⟩:=id hbk;have rq:=aR b1
 have hql:(qs.map V.ref).length=bk.length:=by rw[Ab,b2]
 walk_at "g";refine jB (n:=bk.length) (λD i ys Hc=>Same H Hc/\∃ps:List Addr,ys=ps.map V.ref/\ps.length=i/\∀(j:Nat) p ms,ps[j]?=some p->mss[j]?=some ms->p≠D/\aZ5 Hc p ms) (bL (by omega)) (λD hD=>⟨aG hD _,[],rfl,rfl,λj p ms hp=>by cases hp⟩) (λD i ys Hc hD r hi=>?_) (λD ys Hc hD r=>?_) ?_ (λD ys Hc hD r hDc hyl=>?_)
 ·exact⟨_,(qs.map V.ref)[i]'(by omega),bG (aO r.1 rq),Aa _⟩
 ·exact⟨_,bG (aO r.1 rq),by omega⟩
 ·rintro D i ys Hc x H' A B hD hi ⟨sm,ps,rfl,hpl,hps⟩ hDc y hA hB;obtain⟨rfl,hx⟩:=y;have hx':=hx _ (bG (aO sm rq))
  rw[Ag]at hx';have hq:qs[i]?=some (qs[i]'(by omega)):=Aa _
  rw[hq]at hx';cases hx';have hbi:bk[i]?=some bk[i]:=Aa hi
  have tp:=sm _ _ (b3 i _ _ hq hbi)
  obtain⟨ms,hmi⟩:∃ms,mss[i]?=some ms:=⟨_,Aa (by rw[hms.1];exact hi)⟩
  obtain⟨e2,m1,m5,mT⟩:=hms.2 i _ ms hbi hmi;have hl:=cQP ms mT
  have hp:=oN m1 mT
  rw[e2]at tp;have tpl:=cN tp
  walk_at "g";refine⟨Wk.set rfl (Wk.set rfl (Wk.refl _)),?_⟩;walk_at "g";refine aQZ rfl (by omega) λp5 hp5=>?_
  rw[show Txt.split (eY ms) (Str.ofString " ")=ms.map aU from hp];have nD:p5≠D:=λz=>by rw[z,hDc]at hp5;cases hp5
  refine hA (.ref p5) _ (by rw[aM (Ne.symm nD)];exact hDc) ⟨?_,ps++[p5],by rw[Am];rfl,by rw[Af,hpl];rfl,λj p us hpj hmj=>?_⟩
  ·refine bR hD (sm.trans (aG hp5 _))
  ·by_cases hj:j<ps.length
   ·rw[Ar hj]at hpj;obtain⟨n1,t1⟩:=hps j p us hpj hmj;refine⟨n1,?_⟩;unfold aZ5 at t1 ⊢;rw[aM n1];exact aG hp5 _ _ _ t1
   ·have ej:j=ps.length:=by
     have:=(Ac.mp hpj).1
     rw[Af]at this;have:j<ps.length+1:=this
     omega
    subst ej;rw[Av (Ai _),Ek]at hpj;cases hpj;rw[hpl,hmi]at hmj;cases hmj;refine⟨nD,?_⟩;unfold aZ5;rw[aM nD,aH]
 ·obtain⟨sm,ps,rfl,hpl,hps⟩:=r;exact q D Hc hD sm ⟨ps,hDc,by rw[hpl,hms.1],λj p ms hp hm=>(hps j p ms hp hm).2⟩
def bX6:∀xs:List V,xs.all cB=true->kH xs xs=true:=λxs h=>by
 rw[nH rfl,Bv];intro i hi;have f:=jY h i
 generalize xs.getD i .non=x at f ⊢;cases x with
 |non=>rfl
 |bl b=>show (b==b)=true;simp
 |int i=>show (i==i)=true;simp
 |str z=>show (z==z)=true;simp
 |_=>cases f
def cQH(xs ys:List Str):kH (xs.map V.str) (ys.map V.str)=decide (xs=ys):=by
 by_cases e:xs=ys
 ·subst e;rw[bX6 _ (cY _),Ap rfl]
 ·rw[As e];by_cases hl:xs.length=ys.length
  ·cases h:kH (xs.map V.str) (ys.map V.str) with
   |false=>rfl
   |true=>
    rw[nH (by rw[Ab,Ab,hl]),Bv,Ab]at h
    refine absurd (List.ext_getElem hl λj h1 h2=>?_) e;have q:=h j (By.mpr h1)
    rw[Ad,Ad,Ag,Ag,Aa h1,Aa h2]at q;have q2:(xs[j]==ys[j])=true:=q
    exact Ht q2
  ·exact wW (by rw[Ab,Ab];exact hl)
def aZP{xs:List V}{s l:Nat}(h:s<=xs.length):jP xs (some (s:Int)) (some ((s:Int)+(l:Int)))=(xs.drop s).take l:=by
 unfold jP;show (xs.drop (if (s:Int)<0 then ((s:Int)+(xs.length:Int)).toNat else min (s:Int).toNat xs.length)).take ((if (s:Int)+(l:Int)<0 then ((s:Int)+(l:Int)+(xs.length:Int)).toNat else min ((s:Int)+(l:Int)).toNat xs.length)-(if (s:Int)<0 then ((s:Int)+(xs.length:Int)).toNat else min (s:Int).toNat xs.length))=_
 rw[if_neg (by omega),if_neg (by omega),show (s:Int).toNat=s from rfl,show ((s:Int)+(l:Int)).toNat=s+l by omega,Ez h]
 by_cases hl:s+l<=xs.length
 ·rw[Ez hl,Cz]
 ·rw[Eo (by omega),Be (by rw[Cf];omega),Be (by rw[Cf];omega)]
def aXC{a b:Q5}(h:a.map aU=b.map aU):a=b:=List.map_inj_right (λ_ _ e=>dQU e) |>.mp h
def fG(mss:List (List (List Nat)))(j:Nat):Nat:=(mss.getD j []).length
def fY(mss:List (List (List Nat)))(T:List (List Nat))(s j:Nat):Prop:=(T.drop s).take (fG mss j)=mss.getD j []
instance (mss:List (Q5)) (T:Q5) (s j:Nat):Decidable (fY mss T s j):=inferInstanceAs (Decidable (_=_))
def lV(mss:List (List (List Nat)))(T:List (List Nat))(s:Nat):List Nat:=(List.range mss.length).filter λj=>decide (fY mss T s j)
def cJW(mss:List (List (List Nat)))(T:List (List Nat))(s i:Nat):Option V:=if fY mss T s i then some (V.int (i:Int)) else none
def dXG(mss:List (Q5))(T:Q5)(s:Nat):∀n,(List.range n).filterMap (cJW mss T s)=((List.range n).filter λj=>decide (fY mss T s j)).map λj:Nat=>V.int (j:Int)
 |0=>rfl
 |n+1=>by
  rw[Cd,Br,Gk,Am,dXG mss T s n];congr 1
  by_cases h:fY mss T s n
  ·rw[Ci (b:=V.int (n:Int)) (by unfold cJW;rw[if_pos h]),List.filter_cons,if_pos (Ap h)]
   rfl
  ·rw[Cp (by unfold cJW;rw[if_neg h]),List.filter_cons,if_neg (by rw[As h];exact An)]
   rfl
def vU{T:Q5}{s:Nat}(h:j∈lV mss T s):j<mss.length/\fY mss T s j:=by
 obtain⟨h1,h2⟩:=Eu.mp h;exact⟨By.mp h1,Az h2⟩
def cJS{T:Q5}{s:Nat}(h:fY mss T s j)(hs:s<=T.length):s+fG mss j<=T.length:=by
 have:=Ds List.length h
 rw[Bt,Cf]at this;unfold fG at this ⊢;omega
def aX7{ms:Q5}(h:mss[j]?=some ms):mss.getD j []=ms:=by
 rw[Ad,h];rfl
def gZ:Sp:=λvs H Q _=>∃(a b:Addr) (mss:List (List (List Nat))) (T:List (List Nat)) (s:Nat),vs=[.ref a,.ref b,.int (s:Int)]/\MsAt H a mss/\mss.length<=60/\aZ5 H b T/\T.length<=1000/\s<=T.length/\
 ∀(r:Addr) (H':Hp),Same H H'->rdL H' r=some ((lV mss T s).map λj:Nat=>V.int (j:Int))->Q (.ref r) H'
def vF:FnScope ["meanings", "terms", "start"] ["meanings", "terms", "start"] (aK fT):=by walk_at "sc"
def uV(F:Fun K "standing_at" "standing_at" fT f fd):FnOk P w K mg base CX0 1 f fd ["meanings", "terms", "start"] gZ:=by
 refine F.ok vF (λvs H Q E h=>?_) (λcdv A outer s H vs Q E hr h=>?_)
 ·obtain⟨a,b,mss,T,s,rfl,_⟩:=h;rfl
 obtain⟨a,b,mss,T,st,rfl,hms,h60,hT,hTl,hst,q⟩:=h;refine⟨_,(@aI _ _ _ (aV (cJ rfl (kK rfl G.b_enumerate (aA (mv 0) aB)) (fH (N:=["number", "meaning", "terms", "start"]) ["meanings", "terms", "start"] (aK fT) [none,none,some 1,some 2] rfl rfl rfl (λx h=>cE h) (by decide +kernel)) (by decide +kernel) rfl (by decide +kernel) (λ_ _ _ _=>(dN (K:=K) (i:=0) (j:=1) (by rfl) (by rfl) (show List.Nodup (["number", "meaning", "terms", "start"]:List Str) by decide +kernel) (by rfl) (by exact Or.inl rfl) (by exact Or.inr rfl) (by rfl) (by exact Or.inl rfl) (by exact Or.inr rfl))) (λ_ _ _ _=>(jG (bC (dZE hr.units0) (dP aZF (mv 2) (dE (mv 3)) (dE (aQ bN (mv 3) (aX cQ rfl G.b_len bS (aA (mv 1) aB))))) (mv 1) (bD _)))) (λ_ _ _ _=>(mv 0))))),?_⟩
 obtain⟨ps,p1,p2,p3⟩:=id hms;have rp:=aR p1
 have hpl:(ps.map V.ref).length=mss.length:=by rw[Ab,p2]
 walk_at "g";refine aQP (k:=0) (xs:=ps.map V.ref) (λi _=>cJW mss T st i) rp (by rw[hpl];exact bL (by omega)) (λi x Hc pt A B hx sm hpt hA=>?_) (λD Hd hD sD hd=>?_)
 ·rw[Ag]at hx;cases e:ps[i]? with
  |none=>rw[e]at hx;cases hx
  |some pm=>
   rw[e]at hx;cases hx;have hi:i<mss.length:=by rw[<-p2];exact(Ac.mp e).1
   obtain⟨ms,hmi⟩:∃ms,mss[i]?=some ms:=⟨_,Aa hi⟩;have sc:=sm.trans (aG hpt (.tup [V.int ((0+i:Nat):Int),V.ref pm]))
   have tm:=sc _ _ (p3 i pm ms e hmi)
   have tt:=sc _ _ hT
   have rm:=aR tm
   have rt:=aR tt
   have tpt:tR (upd Hc pt (.tup [V.int ((0+i:Nat):Int),V.ref pm])) pt=some [V.int ((0+i:Nat):Int),V.ref pm]:=mZ
   have hml:((ms.map aU).map V.str).length=ms.length:=by rw[Ab,Ab]
   have htl:((T.map aU).map V.str).length=T.length:=by rw[Ab,Ab]
   have eg:=aX7 hmi
   have hSt:fY mss T st i ↔ (T.drop st).take ms.length=ms:=by unfold fY fG;rw[eg]
   generalize upd Hc pt (.tup [V.int ((0+i:Nat):Int),V.ref pm])=H2 at hA sc tm tt rm rt tpt ⊢;walk_at "g";refine⟨Wk.set rfl (Wk.set rfl (Wk.refl _)),?_⟩;walk_at "g";rw[hml];intro r hr;rw[aZP (by rw[htl];exact hst),<-Fa,<-Fa,<-El,<-El]
   have s3:=aG hr (.lst ((((T.drop st).take ms.length).map aU).map V.str))
   refine bZ3 bP (aO s3 rm) (cY _) (cY _) ?_;rw[if_neg An,cQH];have r4:=hA _ s3
   generalize upd H2 r (.lst ((((T.drop st).take ms.length).map aU).map V.str))=H3 at r4 ⊢;walk_at "g";unfold cJW at r4;by_cases z:fY mss T st i
   ·rw[if_pos z]at r4;rw[Ap (Ds (List.map aU) (hSt.mp z))];walk_at "g";rw[Nat.zero_add];exact r4
   ·rw[if_neg z]at r4;rw[As (λk=>z (hSt.mpr (aXC k)))];exact r4
 ·rw[hpl,dXG]at hd;exact q D Hd sD hd
def nW(aC:Addr):Sp:=λvs H Q _=>∃ea v,vs=[.ref ea,v]/\H ea=some (dY ea aC none)/\∀dx,H dx=none->Q .non (upd (upd H ea (dY ea aC (some dx))) dx (xdO dx [("terms",v)]))
def xT:FnScope ["self", "terms"] ["self", "terms"] (aK kP):=by walk_at "sc"
def yA(F:Fun K "__init__" "NoCut.__init__" kP f fd):FnOk P w K mg base CX0 1 f fd ["self", "terms"] (nW Zr):=by
 refine F.ok xT (λvs H Q E h=>?_) (λcdv A outer s H vs Q E hr h=>?_)
 ·obtain⟨ea,v,rfl,_⟩:=h;rfl
 obtain⟨ea,v,rfl,he,q⟩:=h;refine⟨_,(@aE _ _ _ _ _ (cH (qG rfl G.c_TowerError G.t1_TowerError G.t2_TowerError G.t3_TowerError (aA (mv 0) (aA (mv 1) aB)))) (@aI _ _ _ (pX (mv 0) (mv 1) rfl))),?_⟩;walk_at "g";refine⟨ea,[v],Zr,Zz,none,rfl,by show 1<=sizeLine;decide,he,(λ_ z=>nomatch z),G.xc_NoCut,?_⟩
 walk_at "g";exact⟨ea,Zr,Zz,rfl,G.xc_NoCut,G.xn_NoCut_terms,.inl ⟨he,q⟩⟩
def tV:Option Int->V
 |none=>.non
 |some n=>.int n
def fQS(mss:List (List (List Nat))):Prop:=mss.length<=60/\∀ms∈mss,1<=ms.length/\ms.length<=5
def eQR(h:jW bk mss)(h60:bk.length<=60):fQS mss:=by
 refine⟨by rw[h.1];exact h60,λms hm=>?_⟩
 obtain⟨j,hj,e⟩:=Bu.mp hm;have hb:j<bk.length:=by rw[<-h.1];exact hj
 have:=h.2 j _ ms (Aa hb) (by rw[Aa hj,e])
 exact⟨this.2.1,this.2.2.1⟩
def aQE(mss:List (Q5))(T:Q5)(s:Nat):(lV mss T s).length<=mss.length:=by
 have:=List.length_filter_le (λj=>decide (fY mss T s j)) (List.range mss.length)
 rw[Ce]at this;exact this
def bZW(mss:List (List (List Nat)))(T:List (List Nat)):Prop:=∀s j,s<T.length->j∈lV mss T s->s+fG mss j<T.length
def dXC{A:Q5}{y:List Nat}(h:∀ms∈mss,y∉ms):bZW mss (A++[y]):=λs j hs hj=>by
 obtain⟨hj1,hS⟩:=vU hj;have hle:=cJS hS (Nat.le_of_lt hs)
 refine Nat.lt_of_le_of_ne hle λe=>?_;have hs':s<=A.length:=by rw[Af]at hs;exact Nat.le_of_lt_succ hs
 unfold fY at hS;rw[Be (by rw[Cf];omega),List.drop_append_of_le_length hs',Ad,Aa hj1]at hS
 refine h mss[j] (Bk hj1) ?_;rw[<-show A.drop s++[y]=mss[j] from hS];exact Bc _ (Al.mpr rfl)
def aXS(n:Nat):List (Option Int):=List.replicate n none++[some 0]
def bZ7(h:k<n):atI ((aXS n).map tV) (k:Int)=some V.non:=by
 refine bB ?_;rw[Ag];unfold aXS;rw[Ar (by rw[Dn];exact h),Gp,if_pos h]
 rfl
def dJO(xs:List V):xs.filterMap (λ_=>(none:Option V))=[]:=by
 induction xs with
 |nil=>rfl
 |cons x r ih=>exact ih
def jR:Sp:=λvs H Q _=>∃(a b:Addr) (mss:List (List (List Nat))) (T:List (List Nat)),vs=[.ref a,.ref b]/\MsAt H a mss/\fQS mss/\aZ5 H b T/\T.length<=40/\bZW mss T/\∀(r:Addr) (H':Hp),Same H H'->H' r=some (.lst ((aXS T.length).map tV))->Q (.ref r) H'
def o6:FnScope ["meanings", "terms", "table", "start", "behind", "known"] ["meanings", "terms"] (aK eK):=by walk_at "sc"
def rY(F:Fun K "least_numbers" "least_numbers" eK f fd)(u7:Cal P w K mg base 1 "standing_at" ["meanings", "terms", "start"] gZ):FnOk P w K mg base CX0 2 f fd ["meanings", "terms"] jR:=by
 refine F.ok o6 (λvs H Q E h=>?_) (λcdv A outer s H vs Q E hr h=>?_)
 ·obtain⟨a,b,mss,T,rfl,_⟩:=h;rfl
 obtain⟨a,b,mss,T,rfl,hms,hL,hT,h40,hno,q⟩:=h;refine⟨_,(@aE _ _ _ _ _ (aP 2 o6.nd (aQ bN (aQ aXF (bJ (aA dG aB)) (aX cQ rfl G.b_len bS (aA (mv 1) aB))) (bJ (aA aJ aB)))) (@aE _ _ _ _ _ (dA Bq rfl (bJ2 rfl G.b_range (aA (aQ tG (aX cQ rfl G.b_len bS (aA (mv 1) aB)) aJ) (aA (sX sV aJ) (aA (sX sV aJ) aB)))) (bF (i:=3) o6.nd rfl (Or.inr rfl)) (@aE _ _ _ _ _ (fR (i:=4) o6.nd rfl (Or.inl rfl) rfl (cG (aZ u7 hr (by decide) rfl (aA (mv 0) (aA (mv 1) (aA (mv 3) aB))))) (fH (N:=["number", "table", "start", "meanings"]) ["meanings", "terms", "table", "start", "behind", "known"] (aK eK) [none,some 2,some 3,some 0] rfl rfl rfl (λx h=>cE h) (by decide +kernel)) (by decide +kernel) rfl (by decide +kernel) (λ_ _ _ _=>(bF (i:=0) (show List.Nodup (["number", "table", "start", "meanings"]:List Str) by decide +kernel) rfl (Or.inl rfl))) (λ_ _ _ _=>cZ) (λ_ _ _ _=>(bI bX (mv 1) (aQ bN (mv 2) (aX cQ rfl G.b_len bS (aA (bI bX (mv 3) (mv 0) (λ_ _=>rfl)) aB))) (λ_ _=>rfl)))) (@aE _ _ _ _ _ (fR (i:=5) o6.nd rfl (Or.inl rfl) rfl (cG (mv 4)) (iC (N:=["many"]) (by decide +kernel) (by decide +kernel)) (by decide +kernel) rfl (by decide +kernel) (λ_ _ _ _=>(bF (i:=0) (show List.Nodup (["many"]:List Str) by decide +kernel) rfl (Or.inl rfl))) (λ_ _ _ _=>(jG (bC aQN (mv 0) dG (bD _)))) (λ_ _ _ _=>(mv 0))) (@aI _ _ _ (bZ (bC (fZ0 hr.units0) (mv 5) (bJ aB) (bD _)) (@aI _ _ _ (vI (aQ bN aJ (aX (eJ5 rfl) rfl G.b_min fQE (aA (mv 5) aB))) (bXI (mv 2) (mv 3) vR))) bH))))) (@aI _ _ _ (aV (mv 2))))),?_⟩
 have htl:((T.map aU).map V.str).length=T.length:=by rw[Ab,Ab]
 have rT:=aR hT
 walk_at "g";refine⟨by show 1<=sizeLine;decide,λp0 hp0=>?_⟩
 have s0:=aG hp0 (.lst [V.non])
 have e0:(upd H p0 (.lst [V.non])) p0=some (.lst [V.non]):=aH
 generalize upd H p0 (.lst [V.non])=H0 at s0 e0 ⊢;have rT0:=aO s0 rT
 walk_at "g";rw[htl];refine⟨p0,_,[V.non],rfl,rfl,e0,by omega,by omega,by show 1*((T.length:Int)).toNat<=sizeLine;exact bO (by omega),λp1 hp1=>?_⟩
 have er:(List.replicate ((T.length:Int)).toNat [V.non]).flatten=(List.replicate T.length (none:Option Int)).map tV:=by
  rw[show ((T.length:Int)).toNat=T.length from rfl];generalize T.length=n;induction n with
  |zero=>rfl
  |succ n ih=>rw[De,Ct,ih,De,Aw];rfl
 rw[er];have s1:=s0.trans (aG hp1 (.lst ((List.replicate T.length (none:Option Int)).map tV)))
 have e1:(upd H0 p1 (.lst ((List.replicate T.length (none:Option Int)).map tV))) p1=_:=aH
 generalize upd H0 p1 (.lst ((List.replicate T.length (none:Option Int)).map tV))=H1 at s1 e1 ⊢;walk_at "g";refine⟨by show 1<=sizeLine;decide,λp2 hp2=>?_⟩
 have n2:p1≠p2:=bM e1 hp2
 refine fL (xs:=(List.replicate T.length (none:Option Int)).map tV) (ys:=[V.int 0]) (by rw[uE n2];exact bQ e1) dD (bO (by rw[Ab,Dn];show _+1<=_;omega)) λtb htb=>?_
 rw[show (List.replicate T.length (none:Option Int)).map tV++[V.int 0]=(aXS T.length).map tV by unfold aXS;rw[Am];rfl]
 have s3:=s1.trans ((aG hp2 (.lst [V.int 0])).trans (aG htb (.lst ((aXS T.length).map tV))))
 have e3:(upd (upd H1 p2 (.lst [V.int 0])) tb (.lst ((aXS T.length).map tV))) tb=_:=aH
 generalize upd (upd H1 p2 (.lst [V.int 0])) tb (.lst ((aXS T.length).map tV))=H3 at s3 e3 ⊢;have rT3:=aO s3 rT
 walk_at "g";rw[htl];refine⟨⟨by omega,by omega,by omega,by omega,rfl⟩,?_⟩
 have hcn:xD ((T.length:Int)-1) (-1)=T.length:=by unfold xD;omega
 rw[hcn];refine cXA (λt σ H'=>∃(v3 v4 v5:Option V),σ=[some (.ref a),some (.ref b),some (.ref tb),v3,v4,v5]/\Same H H'/\H' tb=some (.lst ((aXS T.length).map tV))) ⟨_,_,_,rfl,s3,e3⟩ ?_ ?_
 ·rintro t σ H4 ht ⟨v3,v4,v5,rfl,s4,e4⟩;obtain⟨st,hst⟩:∃st:Nat,st+t+1=T.length:=⟨T.length-1-t,by omega⟩
  rw[show (T.length:Int)-1+(t:Int)*(-1)=(st:Int) by omega]
  have hms4:=hms.keep s4
  have hT4:=s4 _ _ hT
  walk_at "g";refine⟨a,b,mss,T,st,rfl,hms4,hL.1,hT4,by omega,by omega,λrs H5 s5 e5=>?_⟩
  have e45:=s5 _ _ e4
  obtain⟨ps,p1',p2',p3'⟩:=hms4.keep s5;have hsl:=aQE mss T st
  have h60:=hL.1
  walk_at "g";refine qL (xs:=(lV mss T st).map λj:Nat=>V.int (j:Int)) (λ_=>some V.non) e5 (by rw[Ab];exact bL (by omega)) (λi x Hc A B hx sm hA=>?_) (λD Hd hD sD hd=>?_)
  ·rw[Ag]at hx;obtain⟨j,e,rfl⟩:=Bz.mp hx;have hjm:=Ao e
   obtain⟨hj,hS⟩:=vU hjm;have hle:=hno st j (by omega) hjm
   have hpj:ps[j]?=some (ps[j]'(by omega)):=Aa _
   obtain⟨ms,hmj⟩:∃ms,mss[j]?=some ms:=⟨_,Aa hj⟩;have rm:=aR (sm _ _ (p3' j _ ms hpj hmj))
   have hml:((ms.map aU).map V.str).length=fG mss j:=by unfold fG;rw[aX7 hmj,Ab,Ab]
   have rps:=aR (sm _ _ p1')
   have rtb:=aR (sm _ _ e45)
   walk_at "g";refine⟨Wk.set rfl (Wk.refl _),?_⟩;walk_at "g";refine cU rps (v:=.ref (ps[j]'(by omega))) (bB (by rw[Ag,hpj];rfl)) ?_
   walk_at "g";rw[hml];refine cU rtb (by rw[show (st:Int)+(fG mss j:Int)=((st+fG mss j:Nat):Int) by omega];exact bZ7 hle) ?_
   exact hA _ (Same.refl _)
  ·have e4d:=sD _ _ e45
   have rbD:=aR hd
   generalize hN:(((lV mss T st).map λj:Nat=>V.int (j:Int)).filterMap λ_=>some V.non)=N at hd rbD;have hNl:N.length<=60:=by
    rw[<-hN,iO,Ab,Ab];omega
   have hNn:∀x∈N,x=V.non:=λx hx=>by
    rw[<-hN]at hx;obtain⟨_,_,e⟩:=Dg.mp hx;exact(Bo e).symm
   walk_at "g";refine qL (xs:=N) (λ_=>none) rbD (bL (by omega)) (λi x Hc A B hx sm hA=>?_) (λD2 Hd2 hD2 sD2 hd2=>?_)
   ·obtain rfl:=hNn x (Ao hx);have r:=hA _ (Same.refl _)
    walk_at "g";refine⟨Wk.set rfl (Wk.refl _),?_⟩;walk_at "g";exact r
   ·rw[dJO]at hd2;have e42:=sD2 _ _ e4d
    walk_at "g";refine⟨by decide,λpe hpe=>?_⟩
    have s6:=aG hpe (.lst [])
    refine bZ3 (neg:=true) (aO s6 (aR hd2)) bP rfl rfl ?_;walk_at "g";exact⟨_,_,_,rfl,s4.trans (s5.trans (sD.trans (sD2.trans s6))),s6 _ _ e42⟩
 ·rintro σ H4 ⟨v3,v4,v5,rfl,s4,e4⟩;walk_at "g";exact q tb H4 s4 e4
def fJT(L:List Nat)(n:Nat):inV (V.int (n:Int)) (L.map λk=>V.int ((k:Nat):Int))=decide (n∈L):=by
 unfold inV;by_cases h:n∈L
 ·rw[Ap h,Hk];exact⟨_,List.mem_map.mpr ⟨n,h,rfl⟩,by show ((n:Int)==(n:Int))=true;simp⟩
 ·rw[As h,List.any_eq_false];intro x hx;obtain⟨k,hk,rfl⟩:=Bd.mp hx;show ¬((k:Int)==(n:Int))=true
  rw[Gi]
  exact fun z => h (by have : k = n := by omega
                       rw[<-this];exact hk)
def fZ5(L:List Nat):(L.map λk=>V.int ((k:Nat):Int)).all cB=true:=by
 rw[Bv];intro x hx;obtain⟨n,_,rfl⟩:=Bd.mp hx;rfl
def tK:Sp:=λvs H Q _=>∃(a b:Addr) (mss:List (List (List Nat))) (T:List (List Nat)),vs=[.ref a,.ref b]/\MsAt H a mss/\fQS mss/\aZ5 H b T/\T.length<=40/\∀(m:Int) (H':Hp),Same H H'->Q (.int m) H'
def a7:FnScope ["meanings", "terms", "ends", "start"] ["meanings", "terms"] (aK kN):=by walk_at "sc"
def aJA(F:Fun K "most_cut" "most_cut" kN f fd)(u7:Cal P w K mg base 1 "standing_at" ["meanings", "terms", "start"] gZ):FnOk P w K mg base CX0 2 f fd ["meanings", "terms"] tK:=by
 refine F.ok a7 (λvs H Q E h=>?_) (λcdv A outer s H vs Q E hr h=>?_)
 ·obtain⟨a,b,mss,T,rfl,_⟩:=h;rfl
 obtain⟨a,b,mss,T,rfl,hms,hL,hT,h40,q⟩:=h;refine⟨_,(@aE _ _ _ _ _ (aP 2 a7.nd (bJ (aA aJ aB))) (@aE _ _ _ _ _ (dA Bq rfl (nJ rfl G.b_range (aA (aX cQ rfl G.b_len bS (aA (mv 1) aB)) aB)) (bF (i:=3) a7.nd rfl (Or.inr rfl)) (@aI _ _ _ (bZ (bC eXL (mv 3) (mv 2) (by rfl)) (@aI _ _ _ (cH (cA Bg Dp Dq aQK (mv 2) (aA (cJ rfl (cG (aZ u7 hr (by decide) rfl (aA (mv 0) (aA (mv 1) (aA (mv 3) aB))))) (fH (N:=["number", "start", "meanings"]) ["meanings", "terms", "ends", "start"] (aK kN) [none,some 3,some 0] rfl rfl rfl (λx h=>cE h) (by decide +kernel)) (by decide +kernel) rfl (by decide +kernel) (λ_ _ _ _=>(bF (i:=0) (show List.Nodup (["number", "start", "meanings"]:List Str) by decide +kernel) rfl (Or.inl rfl))) (λ_ _ _ _=>cZ) (λ_ _ _ _=>(aQ bN (mv 1) (aX cQ rfl G.b_len bS (aA (bI bX (mv 2) (mv 0) (λ_ _=>rfl)) aB))))) aB)))) bH))) (@aI _ _ _ (aV (aX (eZE rfl) rfl G.b_max fQU (aA (mv 2) aB)))))),?_⟩
 have htl:((T.map aU).map V.str).length=T.length:=by rw[Ab,Ab]
 have rT:=aR hT
 have h60:=hL.1
 walk_at "g";refine⟨by show 1<=sizeLine;decide,λpe hpe=>?_⟩
 have s1:=aG hpe (.lst [V.int 0])
 have e1:(upd H pe (.lst [V.int 0])) pe=some (.lst ((([0]:List Nat)).map λk=>V.int ((k:Nat):Int))):=aH
 generalize upd H pe (.lst [V.int 0])=H1 at s1 e1 ⊢;have rT1:=aO s1 rT
 walk_at "g";rw[htl];refine⟨⟨by omega,by omega⟩,?_⟩
 rw[show ((T.length:Nat):Int).toNat=T.length from Fs _];refine xL (λi σ H'=>∃(L:List Nat) (v3:Option V),σ=[some (.ref a),some (.ref b),some (.ref pe),v3]/\Same H H'/\H' pe=some (.lst (L.map λk=>V.int ((k:Nat):Int)))/\L.length<=1+60*i/\1<=L.length)
  ⟨[0],_,rfl,s1,e1,Ai _,Ai _⟩ ?_ ?_
 ·rintro i σ H2 hi ⟨L,v3,rfl,s2,e2,hll,h1⟩;have hi':i<T.length:=hi
  have hms2:=hms.keep s2
  have hT2:=s2 _ _ hT
  have re2:=aR e2
  rw[show (0:Int)+(i:Int)=(i:Int) by omega]
  walk_at "g";refine bQD (neg:=false) re2 rfl (fZ5 L) ?_;rw[if_neg (by decide),fJT]
  by_cases hm:i∈L
  ·rw[Ap hm];walk_at "g";refine⟨a,b,mss,T,i,rfl,hms2,hL.1,hT2,by omega,by omega,λrs H3 s3 e3=>?_⟩
   have e23:=s3 _ _ e2
   obtain⟨ps,p1',p2',p3'⟩:=hms2.keep s3;have hsl:=aQE mss T i
   walk_at "g";refine qL (xs:=(lV mss T i).map λj:Nat=>V.int (j:Int)) (λx=>match x with|.int j=>some (V.int (((i+fG mss j.toNat):Nat):Int))|_=>none) e3 (by rw[Ab];exact bL (by omega)) (λu x Hc A B hx sm hA=>?_) (λD Hd hD sD hd=>?_)
   ·rw[Ag]at hx;obtain⟨j,ej,rfl⟩:=Bz.mp hx;obtain⟨hj,hS⟩:=vU (Ao ej);have hpj:ps[j]?=some (ps[j]'(by omega)):=Aa _
    obtain⟨ms,hmj⟩:∃ms,mss[j]?=some ms:=⟨_,Aa hj⟩;have rm:=aR (sm _ _ (p3' j _ ms hpj hmj))
    have hml:((ms.map aU).map V.str).length=fG mss j:=by unfold fG;rw[aX7 hmj,Ab,Ab]
    have rps:=aR (sm _ _ p1')
    have r:A (V.int (((i+fG mss j):Nat):Int)) Hc:=hA _ (Same.refl _)
    walk_at "g";refine⟨Wk.set rfl (Wk.refl _),?_⟩;walk_at "g";refine cU rps (v:=.ref (ps[j]'(by omega))) (bB (by rw[Ag,hpj];rfl)) ?_
    walk_at "g";rw[hml,show (i:Int)+(fG mss j:Int)=(((i+fG mss j):Nat):Int) by omega]
    exact r
   ·have eb:((lV mss T i).map λj:Nat=>V.int (j:Int)).filterMap (λx=>match x with | .int j=>some (V.int (((i+fG mss j.toNat):Nat):Int)) | _=>none)=(((lV mss T i).map λj=>i+fG mss j).map λk=>V.int ((k:Nat):Int)):=by
     rw[Gj,Ca];exact iO (λj:Nat=>V.int (((i+fG mss j):Nat):Int)) _
    rw[eb]at hd;have eD:=sD _ _ e23
    have hmD:=bQ eD
    have hmd:=bQ hd
    have hlx:(L.map λk=>V.int ((k:Nat):Int)).length+(((lV mss T i).map λj=>i+fG mss j).map λk=>V.int ((k:Nat):Int)).length<=10000:=by rw[Ab,Ab,Ab];omega
    walk_at "g";rw[<-Am];exact⟨L++(lV mss T i).map λj=>i+fG mss j,_,rfl,bR hpe (s2.trans (s3.trans sD)),aH,by rw[Af,Ab];omega,by rw[Af];omega⟩
  ·rw[As hm];walk_at "g";exact⟨L,_,rfl,s2,e2,by omega,h1⟩
 ·rintro σ H2 ⟨L,v3,rfl,s2,e2,hll,h1⟩;have e2':rdL H2 pe=some ((L.map λk=>((k:Nat):Int)).map V.int):=by rw[Ca];exact aR e2
  walk_at "g";exact fQ9 e2' (by rw[Ab];omega) λm hm hmax=>q m H2 s2
def lU(aT aC:Addr):Sp:=λvs H Q E=>∃(a:Addr) (z:Str) (bk:List (Str×Str)) (mss:List (List (List Nat))),vs=[.ref a,.str z]/\BkAt H a bk/\bk.length<=60/\jW bk mss/\z.length<=1000/\
 ((xY z 40=false/\∀H',Same H H'->E (.ref aT) none H')\/
  ∃T:List (List Nat),z=eY T/\1<=T.length/\T.length<=40/\(∀t∈T,jS t)/\bZW mss T/\∀(m:Int) (dx:Addr) (H':Hp),Same H H'->H' dx=some (xdO dx [("terms",.int m)])->E (.ref aC) (some dx) H')
def x8:FnScope ["book", "text", "terms", "meanings", "table", "numbers", "start", "number"] ["book", "text"] (aK pJ):=by walk_at "sc"
def aZ2(F:Fun K "cut_text" "cut_text" pJ f fd)(a8:gI P w K mg base 3 "terms_of" ["text"] (sU Zv))(a9:Cal P w K mg base 1 "meanings_of" ["book"] mQ)(yA0:Cal P w K mg base 2 "least_numbers" ["meanings", "terms"] jR)(yA1:aJZ P w K mg base 1 Zr ["self", "terms"] (nW Zr))(yA2:Cal P w K mg base 1 "longest_on" ["meanings", "terms", "table", "start"] nZ)(yA3:Cal P w K mg base 2 "most_cut" ["meanings", "terms"] tK):FnOk P w K mg base (CXr P w) 4 f fd ["book", "text"] (lU Zv Zr):=by
 refine F.okX x8 (λvs H Q E h=>?_) (λcdv A outer s H vs Q E hr h=>?_)
 ·obtain⟨a,z,bk,mss,rfl,_⟩:=h;rfl
 obtain⟨a,z,bk,mss,rfl,hbk,h60,hms,hz,hcase⟩:=h;refine⟨_,(@aE _ _ _ _ _ (aP 2 x8.nd (cP a8 bW hr (by decide) rfl (aA (mv 1) aB))) (@aE _ _ _ _ _ (aP 3 x8.nd (aZ a9 hr (by decide) rfl (aA (mv 0) aB))) (@aE _ _ _ _ _ (aP 4 x8.nd (aZ yA0 hr (by decide) rfl (aA (mv 3) (aA (mv 2) aB)))) (@aE _ _ _ _ _ (bZ (bC aJK (bI bX (mv 4) aJ (λ_ _=>rfl)) dG (bD _)) (@aI _ _ _ (jV eJ rfl rfl rfl G.c_NoCut G.xm_NoCut yA1 hr (by decide) (aA (aZ yA3 hr (by decide) rfl (aA (mv 3) (aA (mv 2) aB))) aB))) bH) (@aE _ _ _ _ _ (aP 5 x8.nd (bJ aB)) (@aE _ _ _ _ _ (aP 6 x8.nd aJ) (@aE _ _ _ _ _ (PS.nox (vE Bq (bC aXP (mv 6) (aX cQ rfl G.b_len bS (aA (mv 2) aB)) (bD _)) (@aE _ _ _ _ _ (aP 7 x8.nd (aZ yA2 hr (by decide) rfl (aA (mv 3) (aA (mv 2) (aA (mv 4) (aA (mv 6) aB)))))) (@aE _ _ _ _ _ (cH (cA Bg Eb Ec bQA (mv 5) (aA (mv 7) aB))) (@aI _ _ _ (aP 6 x8.nd (aQ bN (mv 6) (aX cQ rfl G.b_len bS (aA (bI bX (mv 3) (mv 7) (λ_ _=>rfl)) aB))))))))) (@aI _ _ _ (aV (mv 5)))))))))),?_⟩
 have hL:=eQR hms h60
 walk_at "g";rcases hcase with⟨lI,qe⟩|⟨T,rfl,h1,h40,hT,hno,qe⟩
 ·refine⟨z,rfl,hz,(λhr=>by rw[lI]at hr;cases hr),λ_ H1 s1=>?_⟩
  exact qe H1 s1
 refine⟨eY T,rfl,hz,λ_ rt H1 hrt s1 ht1=>?_,λhr=>by rw[dQ1 h1 h40 hT]at hr;cases hr⟩
 rw[oN h1 hT]at ht1;replace ht1:aZ5 H1 rt T:=ht1
 walk_at "g";refine⟨a,bk,mss,rfl,hbk.keep s1,h60,hms,λrm H2 hrm s2 hm2=>?_⟩;walk_at "g";refine⟨rm,rt,mss,T,rfl,hm2,hL,s2 _ _ ht1,h40,hno,λtb H3 s3 e3=>?_⟩;have s03:=s1.trans (s2.trans s3)
 have ht3:=s3 _ _ (s2 _ _ ht1)
 have hm3:=hm2.keep s3
 walk_at "g";refine cU (aR e3) (v:=V.non) (by rw[show (0:Int)=((0:Nat):Int) from rfl];exact bZ7 (by omega)) ?_
 walk_at "g";refine⟨rm,rt,mss,T,rfl,hm3,hL,ht3,h40,λm H4 s4=>?_⟩;walk_at "g";refine⟨by show 1<=sizeLine;decide,λea hea=>⟨ea,_,rfl,aH,λdx hdx=>⟨rfl,some dx,(rG hdx).1,?_⟩⟩⟩
 exact qe m dx _ (xJ (s03.trans s4) hea hdx) (rG hdx).2
def mF(aC:Addr):Sp:=λvs H Q _=>∃ea v,vs=[.ref ea,v]/\H ea=some (dY ea aC none)/\∀dx,H dx=none->Q .non (upd (upd H ea (dY ea aC (some dx))) dx (xdO dx [("at",v)]))
def vB:FnScope ["self", "at"] ["self", "at"] (aK iV):=by walk_at "sc"
def uX(F:Fun K "__init__" "NoWord.__init__" iV f fd):FnOk P w K mg base CX0 1 f fd ["self", "at"] (mF Zw):=by
 refine F.ok vB (λvs H Q E h=>?_) (λcdv A outer s H vs Q E hr h=>?_)
 ·obtain⟨ea,v,rfl,_⟩:=h;rfl
 obtain⟨ea,v,rfl,he,q⟩:=h;refine⟨_,(@aE _ _ _ _ _ (cH (qG rfl G.c_TowerError G.t1_TowerError G.t2_TowerError G.t3_TowerError (aA (mv 0) (aA (mv 1) aB)))) (@aI _ _ _ (pX (mv 0) (mv 1) rfl))),?_⟩;walk_at "g";refine⟨ea,[v],Zw,Zz,none,rfl,by show 1<=sizeLine;decide,he,(λ_ z=>nomatch z),G.xc_NoWord,?_⟩
 walk_at "g";exact⟨ea,Zw,Zz,rfl,G.xc_NoWord,G.xn_NoWord_at,.inl ⟨he,q⟩⟩
def wC:Sp:=λvs H Q _=>∃c,vs=[.str (one c)]/\bA c/\Q (.int ((c-97:Nat):Int)) H
def wB:Sp:=λvs H Q _=>∃z,vs=[.str z]/\z.length<=1000/\∀H',Same H H'->Q (.bl (fM z)) H'
def jE:Sp:=λvs H Q _=>∃(cs:List Nat),(vs=[.str (aU cs)]\/∃a,vs=[.ref a]/\rdL H a=some ((cs.map one).map V.str))/\cs.length<=1000/\(∀d∈cs,bA d)/\∀H',Same H H'->Q (.bl (gL cs)) H'
def jF(z:Str):Bool:=fM z&&dQC z.cps.toList
def nS:Sp:=λvs H Q _=>∃z:Str,vs=[.str z]/\z.length<=1000/\∀H',Same H H'->Q (.bl (jF z)) H'
def kL(h:fM z=true):z.length<=7/\∀d∈z.cps.toList,bA d:=by
 unfold fM at h;split at h
 ·cases h
 ·rename_i hl
  unfold eQ0 at h;exact⟨by omega,λd hd=>mem_letters.mp (Az (Bv.mp h d hd))⟩
def bXC:FnScope ["letter"] ["letter"] (aK sO):=by walk_at "sc"
def bQ2(F:Fun K "rank_of" "rank_of" sO f fd):FnOk P w K mg base CX0 1 f fd ["letter"] wC:=by
 refine F.ok bXC (λvs H Q E h=>?_) (λcdv A outer s H vs Q E hr h=>?_)
 ·obtain⟨c,rfl,_⟩:=h;rfl
 obtain⟨c,rfl,hc,q⟩:=h;refine⟨_,(@aI _ _ _ (aV (cA Cm PySem.F.slot_str_index PySem.F.type_str_index dJW (eO rfl G.s_LETTERS) (aA (mv 0) aB)))),?_⟩;walk_at "g";exact dZ6 (dJ8 hc) q
def bXW:FnScope ["text"] ["text"] (aK rP):=by walk_at "sc"
def bXE(F:Fun K "is_word" "is_word" rP f fd):FnOk P w K mg base CX0 1 f fd ["text"] wB:=by
 refine F.ok bXW (λvs H Q E h=>?_) (λcdv A outer s H vs Q E hr h=>?_)
 ·obtain⟨z,rfl,_⟩:=h;rfl
 obtain⟨z,rfl,hl,q⟩:=h;refine⟨_,(@aE _ _ _ _ _ (bZ (PW.pt (oG (bC aXP (aX cQ rfl G.b_len bS (aA (mv 0) aB)) aJ (bD _)) (mR (bC bQS (aX cQ rfl G.b_len bS (aA (mv 0) aB)) (qJ rfl G.s_MOST_PLACES) (bD _))))) (@aI _ _ _ (aV nO)) bH) (@aI _ _ _ (aV (aX (bJP rfl) rfl G.b_all aXH (aA (cJ rfl (kT (mv 0)) (iC (N:=["sign"]) (by decide +kernel) (by decide +kernel)) (by decide +kernel) rfl (by decide +kernel) (λ_ _ _ _=>(bF (i:=0) (show List.Nodup (["sign"]:List Str) by decide +kernel) rfl (Or.inl rfl))) (λ_ _ _ _=>cZ) (λ_ _ _ _=>(fE aZN (mv 0) (eO rfl G.s_LETTERS) (by rfl)))) aB))))),?_⟩
 walk_at "g";refine dZ (λhc=>?_) (λhc=>?_)
 ·walk_at "g";have e:fM z=false:=if_pos (.inl (by have:=Az hc;omega))
  have r:=q H (Same.refl H)
  rw[e]at r;exact r
 ·have hc':=Bm (Bs.mpr hc)
  walk_at "g";refine dZ (λhd=>?_) (λhd=>?_)
  ·walk_at "g";have e:fM z=false:=if_pos (.inr (by have:=Az hd;omega))
   have r:=q H (Same.refl H)
   rw[e]at r;exact r
  ·have hd':=Bm (Bs.mpr hd)
   walk_at "g";refine bQI (λc=>some (.bl (decide (c∈lettersT.cps.toList)))) (bL (by omega)) (λi c Hc A B hc' hA=>?_) (λD hD=>?_)
   ·walk_at "g";refine⟨Wk.set rfl (Wk.refl _),?_⟩;walk_at "g";have e:subIn ⟨#[c]⟩ lettersT=decide (c∈lettersT.cps.toList):=mX _ _
    show A (.bl (subIn ⟨#[c]⟩ lettersT)) Hc
    rw[e];exact hA
   ·walk_at "g";have e:z.cps.toList.filterMap (λc=>some (V.bl (decide (c∈lettersT.cps.toList))))=(z.cps.toList.map λc=>decide (c∈lettersT.cps.toList)).map V.bl:=by
     rw[Ca];exact iO _ _
    rw[e];have sm:Same H (upd H D (.lst ((z.cps.toList.map λc=>decide (c∈lettersT.cps.toList)).map V.bl))):=aG hD _
    refine bZY (bs:=z.cps.toList.map λc=>decide (c∈lettersT.cps.toList)) bP ?_;have e2:fM z=(z.cps.toList.map λc=>decide (c∈lettersT.cps.toList)).all id:=by
     unfold fM eQ0;rw[if_neg (by omega),Ha]
     rfl
    have r:=q _ sm
    rw[e2]at r;exact r
def wgt(cs:List Nat)(i:Nat):Int:=((1+i:Nat):Int)*((cs.getD i 0-97:Nat):Int)
def cJ3(hl:cs.length<=1000)(hL:∀d∈cs,bA d):∀n∈(List.range cs.length).map (wgt cs),0<=n/\n<=1000000:=λn hn=>by
 obtain⟨i,hi,rfl⟩:=Bd.mp hn;have hi':=By.mp hi
 have hg:=mL hL hi'
 unfold bA at hg;unfold wgt;have h2:((1+i:Nat):Int)*((cs.getD i 0-97:Nat):Int)<=((1+i:Nat):Int)*22:=Int.mul_le_mul_of_nonneg_left (by omega) (by omega)
 exact⟨Int.mul_nonneg (by omega) (by omega),by omega⟩
def yA4:FnScope ["letters", "weighed"] ["letters"] (aK jZ):=by walk_at "sc"
def yH(F:Fun K "is_divided" "is_divided" jZ f fd)(n5:Cal P w K mg base 1 "rank_of" ["letter"] wC):FnOk P w K mg base CX0 2 f fd ["letters"] jE:=by
 refine F.ok yA4 (λvs H Q E h=>?_) (λcdv A outer s H vs Q E hr h=>?_)
 ·obtain⟨cs,rfl|⟨a,rfl,_⟩,_⟩:=h<;>rfl
 obtain⟨cs,hv,hl,hL,q⟩:=h;have fin:∀D Hd,Same H Hd->rdL Hd D=some (((List.range cs.length).map (wgt cs)).map V.int)->∀(Q':VK),(Q' (.int (jX cs cs.length)) Hd)->fXD [.ref D] Hd Q':=λD Hd sD hD Q' q'=>
  eXW hD (cJ3 hl hL) (by rw[Ab,Ce];omega) q'
 have fm:∀(G:Nat->Option V),(∀i,i<cs.length->G i=some (V.int (wgt cs i)))->(List.range cs.length).filterMap G=((List.range cs.length).map (wgt cs)).map V.int:=λG hG=>by
  rw[Ca,<-iO];exact jL λi hi=>hG i (By.mp hi)
 rcases hv with rfl|⟨a,rfl,ha⟩
 ·refine⟨_,(@aE _ _ _ _ _ (fR (i:=1) yA4.nd rfl (Or.inl rfl) rfl (aZX rfl G.b_enumerate (aA (mv 0) aB) (aXR aJ bZG)) (iC (N:=["place", "letter"]) (by decide +kernel) (by decide +kernel)) (by decide +kernel) rfl (by decide +kernel) (λ_ _ _ _=>(dN (K:=K) (i:=0) (j:=1) (by rfl) (by rfl) (show List.Nodup (["place", "letter"]:List Str) by decide +kernel) (by rfl) (by exact Or.inl rfl) (by exact Or.inr rfl) (by rfl) (by exact Or.inl rfl) (by exact Or.inr rfl))) (λ_ _ _ _=>cZ) (λ_ _ _ _=>(aQ nV (mv 0) (aZ n5 hr (by decide) rfl (aA (mv 1) aB))))) (@aI _ _ _ (aV (fE iE (aQ cV (aX (cJ4 rfl) rfl G.b_sum bXS (aA (mv 1) aB)) (aX cQ rfl G.b_len bS (aA (eO rfl G.s_LETTERS) aB))) aJ (bD _))))),?_⟩
  walk_at "g";refine⟨⟨by omega,by omega⟩,cZV hL,?_⟩
  refine dQW (k:=1) (λi c=>some (V.int (((1+i:Nat):Int)*((c-97:Nat):Int)))) (by rw[cC];exact bL (by omega)) (λi c Hc p A B hc sm hp hA=>?_) (λD Hd hD sD hd=>?_)
  ·have hi:=(Ac.mp hc).1
   rw[bV]at hi;walk_at "g";refine⟨Wk.set rfl (Wk.set rfl (Wk.refl _)),?_⟩;walk_at "g";refine⟨c,rfl,hL c (by rw[bV]at hc;exact Ao hc),?_⟩
   walk_at "g";exact hA _ (Same.refl _)
  ·rw[cC,bV]at hd;rw[fm (λi=>some (V.int (((1+i:Nat):Int)*((cs.getD i 0-97:Nat):Int)))) (λi _=>rfl)]at hd;walk_at "g";refine fin D Hd sD hd _ ?_;walk_at "g";have r:=q Hd sD
   exact r
 ·refine⟨_,(@aE _ _ _ _ _ (fR (i:=1) yA4.nd rfl (Or.inl rfl) rfl (aZX rfl G.b_enumerate (aA (mv 0) aB) (aXR aJ bZG)) (iC (N:=["place", "letter"]) (by decide +kernel) (by decide +kernel)) (by decide +kernel) rfl (by decide +kernel) (λ_ _ _ _=>(dN (K:=K) (i:=0) (j:=1) (by rfl) (by rfl) (show List.Nodup (["place", "letter"]:List Str) by decide +kernel) (by rfl) (by exact Or.inl rfl) (by exact Or.inr rfl) (by rfl) (by exact Or.inl rfl) (by exact Or.inr rfl))) (λ_ _ _ _=>cZ) (λ_ _ _ _=>(aQ nV (mv 0) (aZ n5 hr (by decide) rfl (aA (mv 1) aB))))) (@aI _ _ _ (aV (fE iE (aQ cV (aX (cJ4 rfl) rfl G.b_sum bXS (aA (mv 1) aB)) (aX cQ rfl G.b_len bS (aA (eO rfl G.s_LETTERS) aB))) aJ (bD _))))),?_⟩
  walk_at "g";refine⟨⟨by omega,by omega⟩,?_⟩
  walk_at "g";refine aQP (k:=1) (xs:=(cs.map one).map V.str) (λi x=>match x with|.str z=>some (V.int (((1+i:Nat):Int)*((lL z-97:Nat):Int)))|_=>none) ha (by rw[Ab,Ab];exact bL (by omega)) (λi x Hc p A B hx sm hp hA=>?_) (λD Hd hD sD hd=>?_)
  ·obtain⟨z,hz,rfl⟩:=gX hx;rw[Ag]at hz;cases e:cs[i]? with
   |none=>rw[e]at hz;cases hz
   |some c=>
    have hi:=(Ac.mp e).1
    rw[e]at hz;cases hz;walk_at "g";refine⟨Wk.set rfl (Wk.set rfl (Wk.refl _)),?_⟩;walk_at "g";refine⟨c,rfl,hL c (Ao e),?_⟩;walk_at "g";exact hA _ (Same.refl _)
  ·rw[Ab,Ab,fm _ (λi hi=>?_)]at hd
   ·walk_at "g";refine fin D Hd sD hd _ ?_;walk_at "g";have r:=q Hd sD
    exact r
   ·have e:((cs.map one).map V.str).getD i .non=.str (one (cs.getD i 0)):=by
     rw[Ad,Ag,Ag,Ad,Aa hi];rfl
    rw[e];rfl
def yD:FnScope ["word"] ["word"] (aK kY):=by walk_at "sc"
def xX(F:Fun K "is_checked" "is_checked" kY f fd)(yA5:Cal P w K mg base 1 "is_word" ["text"] wB)(u8:Cal P w K mg base 2 "is_divided" ["letters"] jE):FnOk P w K mg base CX0 3 f fd ["word"] nS:=by
 refine F.ok yD (λvs H Q E h=>?_) (λcdv A outer s H vs Q E hr h=>?_)
 ·obtain⟨z,rfl,_⟩:=h;rfl
 obtain⟨z,rfl,hz,q⟩:=h;refine⟨_,(@aI _ _ _ (aV (aZE (aZ yA5 hr (by decide) rfl (aA (mv 0) aB)) (aZE (fE bQS (aX cQ rfl G.b_len bS (aA (mv 0) aB)) aJ (bD _)) (bXF (aZ u8 hr (by decide) rfl (aA (mv 0) aB))))))),?_⟩
 walk_at "g";refine⟨z,rfl,hz,λH1 s1=>?_⟩;have q1:∀H2,Same H1 H2->Q (.bl (jF z)) H2:=λH2 s2=>q H2 (s1.trans s2)
 unfold jF at q1;cases e:fM z with
 |false=>
  rw[e]at q1;walk_at "g";exact q1 H1 (Same.refl _)
 |true=>
  rw[e,Ge]at q1;obtain⟨h7,hL⟩:=kL e;have hzl:=dS z
  walk_at "g";unfold dQC at q1;refine dZ (λhd=>?_) (λhd=>?_)
  ·have hd':=Az hd
   rw[Ap (by omega),Ge]at q1
   walk_at "g";exact⟨z.cps.toList,.inl rfl,by omega,hL,λH2 s2=>q1 H2 s2⟩
  ·have hd':=Bm (Bs.mpr hd)
   rw[As (by omega),Bool.false_and]at q1
   exact q1 H1 (Same.refl _)
def nM(cs:List Nat)(k:Nat):List V:=((cs.map one).map V.str).set k .non
def dX1(hk:k<cs.length):(nM cs k).take k=((cs.take k).map one).map V.str:=by
 unfold nM;rw[List.take_set_of_le (Ai _),<-El,<-El]
def cJK:(nM cs k).drop (k+1)=((cs.drop (k+1)).map one).map V.str:=by
 unfold nM;rw[List.drop_set_of_lt (by omega),<-Fa,<-Fa]
def dQQ:(nM cs k).all cB=true:=by
 rw[Bv];intro x hx;rcases Gc hx with h|h
 ·obtain⟨z,_,rfl⟩:=Bd.mp h;rfl
 ·rw[h];rfl
def fQC(hk:k<cs.length):(nM cs k)[k]?=some .non:=by
 unfold nM;rw[Dj (by rw[Ab,Ab];exact hk)]
def fQP:∀i y,i<k->(nM cs k)[i]?=some y->y≠.non:=λi y hi hy=>by
 unfold nM at hy;rw[Dr (by omega),Ag]at hy
 cases e:(cs.map one)[i]? with
 |none=>rw[e]at hy;cases hy
 |some z=>rw[e]at hy;cases hy;exact V.noConfusion
def dXB(hk:k<cs.length):((cs.take k).map one).map V.str++[V.str (one d)]++((cs.drop (k+1)).map one).map V.str=((cs.set k d).map one).map V.str:=by
 rw[List.set_eq_take_append_cons_drop,if_pos hk,Am,Am,Aw,Aw,Gw];rfl
def set_set{e:Nat}:(cs.set k d).set k e=cs.set k e:=List.set_set ..
def aJM{cs:List Nat}(h7:cs.length<=7)(hL:∀d∈cs,bA d){k d c:Nat}(hk:k<cs.length)(hd:bA d)(h:gL (cs.set k d)=true)(hc:bA c):gL (cs.set k c)=decide (c=d):=by
 have q:=dZK (cs:=cs.set k d) (by rw[Dc];exact h7) (bJH hL hd) (k:=k) (d:=c) (by rw[Dc];exact hk) hc h
 rw[set_set,wD hk,if_pos rfl]at q;exact q
def dZF(g:Nat->β){F:Nat->Bool}(hd:bA d)(h:∀c,bA c->F c=decide (c=d)):lettersT.cps.toList.filterMap (λc=>if F c=true then some (g c) else none)=[g d]:=by
 have q:∀k:_root_.Fin 23,lettersT.cps.toList.filterMap (λc=>if c=97+k.val then some c else none)=[97+k.val]:=by decide +kernel
 unfold bA at hd;have e:=q ⟨d-97,by omega⟩
 simp only[show 97+(d-97)=d by omega]at e
 have e2:lettersT.cps.toList.filterMap (λc=>if F c=true then some (g c) else none)=(lettersT.cps.toList.filterMap (λc=>if c=d then some c else none)).map g:=by
  rw[List.map_filterMap];refine jL λc hc=>?_;rw[h c (mem_letters.mp hc)];by_cases z:c=d
  ·rw[if_pos (Ap z),if_pos z];rfl
  ·rw[if_neg (by rw[As z];exact An),if_neg z];rfl
 rw[e2,e];rfl
def mM{x:Nat}:(cs++[x]).set cs.length d=cs++[d]:=by
 rw[List.set_append_right _ _ (Ai _),Ek];rfl
def dQB:(cs.map one).map V.str++[V.non]=nM (cs++[97]) cs.length:=by
 unfold nM;rw[Am,Am,List.set_append_right _ _ (by rw[Ab,Ab];exact Ai _),Ab,Ab,Ek]
 rfl
def uR(hL:∀d∈cs,bA d){c:Nat}(hc:bA c):∀d∈cs++[c],bA d:=λd hd=>by
 rcases Bp.mp hd with h|h
 ·exact hL d h
 ·rw[Al.mp h];exact hc
def rL(h6:cs.length<=6)(hL:∀d∈cs,bA d){c:Nat}(hd:bA d)(h:gL (cs++[d])=true)(hc:bA c):gL (cs++[c])=decide (c=d):=by
 have ll:(cs++[97]).length=cs.length+1:=by rw[Af];rfl
 have q:=aJM (cs:=cs++[97]) (by omega) (uR hL (by decide)) (k:=cs.length) (d:=d) (c:=c) (by omega) hd (by rw[mM];exact h) hc
 rw[mM]at q;exact q
def ckL(cs:List Nat):Nat:=(lettersT.cps.toList.find? λd=>gL (cs++[d])).getD 0
def cJT(h6:cs.length<=6)(hL:∀d∈cs,bA d)(hd:bA d)(h:gL (cs++[d])=true):ckL cs=d:=by
 unfold ckL;cases e:lettersT.cps.toList.find? λd=>gL (cs++[d]) with
 |none=>exact absurd h (by have:=List.find?_eq_none.mp e d (mem_letters.mpr hd);exact this)
 |some c=>
  have hc:=List.find?_some e
  have hm:=mem_letters.mp (List.mem_of_find?_eq_some e)
  have r:=rL h6 hL hd h hm
  have hc2:gL (cs++[c])=true:=hc
  rw[hc2]at r;exact Az r.symm
def cJP(h6:cs.length<=6)(hL:∀d∈cs,bA d):bA (ckL cs)/\gL (cs++[ckL cs])=true:=by
 obtain⟨d,hdl,hdv⟩:=vZ (cs:=cs++[97]) (by rw[Af];show _+1<=_;omega) (k:=cs.length) (by rw[Af];show _<_+1;omega)
 rw[mM]at hdv;rw[cJT h6 hL hdl hdv];exact⟨hdl,hdv⟩
def jK:Sp:=λvs H Q _=>∃(a:Addr) (cs:List Nat) (k:Nat),vs=[.ref a]/\rdL H a=some (nM cs k)/\k<cs.length/\cs.length<=7/\(∀d∈cs,bA d)/\
 ∀(d:Nat) (H':Hp),Same H H'->bA d->gL (cs.set k d)=true->Q (.str (one d)) H'
def n6:FnScope ["letters", "at", "ahead", "behind"] ["letters"] (aK eM):=by walk_at "sc"
def sT(F:Fun K "hidden_letter" "hidden_letter" eM f fd)(u8:Cal P w K mg base 2 "is_divided" ["letters"] jE):FnOk P w K mg base CX0 3 f fd ["letters"] jK:=by
 refine F.ok n6 (λvs H Q E h=>?_) (λcdv A outer s H vs Q E hr h=>?_)
 ·obtain⟨a,cs,k,rfl,_⟩:=h;rfl
 obtain⟨a,cs,k,rfl,ha,hk,h7,hL,q⟩:=h;refine⟨_,(@aE _ _ _ _ _ (aP 1 n6.nd (cA Bg Dt Gr dXA (mv 0) (aA dG aB))) (@aE _ _ _ _ _ (aP 2 n6.nd (dP aZF (mv 0) qZ (dE (mv 1)))) (@aE _ _ _ _ _ (aP 3 n6.nd (dP aZF (mv 0) (dE (aQ bN (mv 1) aJ)) qZ)) (@aI _ _ _ (aV (bI bX (cJ rfl (kT (eO rfl G.s_LETTERS)) (fH (N:=["letter", "behind", "ahead"]) ["letters", "at", "ahead", "behind"] (aK eM) [none,some 3,some 2] rfl rfl rfl (λx h=>cE h) (by decide +kernel)) (by decide +kernel) rfl (by decide +kernel) (λ_ _ _ _=>(bF (i:=0) (show List.Nodup (["letter", "behind", "ahead"]:List Str) by decide +kernel) rfl (Or.inl rfl))) (λ_ _ _ _=>(jG (eG (aZ u8 hr (by decide) rfl (aA (aQ bN (aQ bN (mv 2) (bJ (aA (mv 0) aB))) (mv 1)) aB))))) (λ_ _ _ _=>(mv 0))) aJ (λ_ _=>rfl))))))),?_⟩
 walk_at "g";refine cJG ha dQQ (fQC hk) fQP ?_;walk_at "g";intro r hr;rw[cZI (by omega),show ((k:Nat):Int).toNat=k from rfl,dX1 hk]
 have s1:Same H (upd H r (.lst (((cs.take k).map one).map V.str))):=aG hr _
 have m1:jQ (upd H r (.lst (((cs.take k).map one).map V.str))) r=some (((cs.take k).map one).map V.str):=dD
 have e1:(upd H r (.lst (((cs.take k).map one).map V.str))) r=some (.lst (((cs.take k).map one).map V.str)):=aH
 generalize upd H r (.lst (((cs.take k).map one).map V.str))=H1 at s1 m1 e1 ⊢;have ha1:=aO s1 ha
 walk_at "g";intro r2 hr2;rw[bJ1 (by omega),show ((k:Nat)+1:Int).toNat=k+1 by omega,cJK]
 have s2:Same H1 (upd H1 r2 (.lst (((cs.drop (k+1)).map one).map V.str))):=aG hr2 _
 have e2:(upd H1 r2 (.lst (((cs.drop (k+1)).map one).map V.str))) r2=some (.lst (((cs.drop (k+1)).map one).map V.str)):=aH
 generalize upd H1 r2 (.lst (((cs.drop (k+1)).map one).map V.str))=H2 at s2 e2 ⊢;have e1':=s2 _ _ e1
 walk_at "g";obtain⟨d,hd,hdv⟩:=vZ h7 hk;have lt:(((cs.take k).map one).map V.str).length<=7:=by rw[Ab,Ab,Bt];omega
 have ld:(((cs.drop (k+1)).map one).map V.str).length<=7:=by rw[Ab,Ab,Cf];omega
 refine aXZ (λc=>if gL (cs.set k c)=true then some (V.str (one c)) else none) (bL (by decide)) (λi c Hc A B hc sm hA=>?_) (λD Hd hD sD hd'=>?_)
 ·have hcl:bA c:=mem_letters.mp (Ao hc)
  walk_at "g";refine⟨Wk.set rfl (Wk.refl _),?_⟩;walk_at "g";refine⟨by show 1<=sizeLine;decide,λp1 hp1=>?_⟩
  have c1:=sm _ _ e1'
  have c2:=sm _ _ e2
  have n1:r≠p1:=bM c1 hp1
  have n2:r2≠p1:=bM c2 hp1
  walk_at "g";refine fL (xs:=((cs.take k).map one).map V.str) (ys:=[V.str (one c)]) (by rw[uE n1];exact bQ c1) dD (bO (by show _+1<=_;omega)) λl hl=>?_
  have c3:(upd (upd Hc p1 (.lst [V.str (one c)])) l (.lst (((cs.take k).map one).map V.str++[V.str (one c)]))) r2=some (.lst (((cs.drop (k+1)).map one).map V.str)):=aG hl _ _ _ (aG hp1 _ _ _ c2)
  walk_at "g";refine fL (xs:=((cs.take k).map one).map V.str++[V.str (one c)]) (ys:=((cs.drop (k+1)).map one).map V.str) dD (bQ c3) (bO (by rw[Af];show _+1+_<=_;omega)) λl2 hl2=>?_
  rw[dXB hk];have s5:Same Hc (upd (upd (upd Hc p1 (.lst [V.str (one c)])) l (.lst (((cs.take k).map one).map V.str++[V.str (one c)]))) l2 (.lst (((cs.set k c).map one).map V.str))):=(aG hp1 _).trans ((aG hl _).trans (aG hl2 _))
  have c5:rdL (upd (upd (upd Hc p1 (.lst [V.str (one c)])) l (.lst (((cs.take k).map one).map V.str++[V.str (one c)]))) l2 (.lst (((cs.set k c).map one).map V.str))) l2=some (((cs.set k c).map one).map V.str):=bP
  generalize upd (upd (upd Hc p1 (.lst [V.str (one c)])) l (.lst (((cs.take k).map one).map V.str++[V.str (one c)]))) l2 (.lst (((cs.set k c).map one).map V.str))=H5 at s5 c5 ⊢;walk_at "g";refine⟨cs.set k c,.inr ⟨l2,rfl,c5⟩,by rw[Dc];omega,bJH hL hcl,λH6 s6=>?_⟩
  have r6:=hA H6 (s5.trans s6)
  walk_at "g";by_cases hb:gL (cs.set k c)=true
  ·rw[if_pos hb]at r6;rw[if_pos hb];walk_at "g";exact r6
  ·rw[if_neg hb]at r6;rw[if_neg hb];exact r6
 ·rw[show (Str.ofString "abcdefghijklmnopqrstuvw").cps.toList.filterMap (λc=>if gL (cs.set k c)=true then some (V.str (one c)) else none)=[V.str (one d)] from dZF (λc=>V.str (one c)) hd λc hc=>aJM h7 hL hk hd hdv hc]at hd'
  walk_at "g";refine cU (aR hd') (v:=V.str (one d)) rfl ?_;exact q d Hd (s1.trans (s2.trans sD)) hd hdv
def tB:Sp:=λvs H Q _=>∃(cs:List Nat),vs=[.str (aU cs)]/\1<=cs.length/\cs.length<=6/\(∀d∈cs,bA d)/\∀(d:Nat) (H':Hp),Same H H'->bA d->gL (cs++[d])=true->Q (.str (one d)) H'
def aJW:FnScope ["word"] ["word"] (aK oR):=by walk_at "sc"
def aZQ(F:Fun K "check_of" "check_of" oR f fd)(yA6:Cal P w K mg base 3 "hidden_letter" ["letters"] jK):FnOk P w K mg base CX0 4 f fd ["word"] tB:=by
 refine F.ok aJW (λvs H Q E h=>?_) (λcdv A outer s H vs Q E hr h=>?_)
 ·obtain⟨cs,rfl,_⟩:=h;rfl
 obtain⟨cs,rfl,h1,h6,hL,q⟩:=h;refine⟨_,(@aI _ _ _ (aV (aZ yA6 hr (by decide) rfl (aA (aQ bN (cF (eQN rfl) rfl G.b_list fD (aA (mv 0) aB)) (bJ (aA dG aB))) aB)))),?_⟩
 have hwl:(aU cs).length=cs.length:=cC cs
 walk_at "g";intro r hr;have el:(aU cs).cps.toList.map (λc=>V.str ⟨#[c]⟩)=(cs.map one).map V.str:=by rw[bV,Ca];rfl
 rw[el];walk_at "g";refine⟨by show 1<=sizeLine;decide,λp hp=>?_⟩
 have nr:r≠p:=λz=>by rw[<-z,aH]at hp;cases hp
 refine fL (xs:=(cs.map one).map V.str) (ys:=[V.non]) (by rw[uE nr];exact dD) dD (bO (by rw[Ab,Ab];show _+1<=_;omega)) λl hl=>?_
 rw[dQB];have s1:Same H (upd (upd (upd H r (.lst ((cs.map one).map V.str))) p (.lst [V.non])) l (.lst (nM (cs++[97]) cs.length))):=(aG hr _).trans ((aG hp _).trans (aG hl _))
 have e1:rdL (upd (upd (upd H r (.lst ((cs.map one).map V.str))) p (.lst [V.non])) l (.lst (nM (cs++[97]) cs.length))) l=some (nM (cs++[97]) cs.length):=bP
 generalize upd (upd (upd H r (.lst ((cs.map one).map V.str))) p (.lst [V.non])) l (.lst (nM (cs++[97]) cs.length))=H1 at s1 e1 ⊢;walk_at "g";have ll:(cs++[97]).length=cs.length+1:=by rw[Af];rfl
 refine⟨l,cs++[97],cs.length,rfl,e1,by omega,by omega,uR hL (by decide),λd H2 s2 hd hdv=>?_⟩
 rw[mM]at hdv;exact q d H2 (s1.trans s2) hd hdv
def jJ:Sp:=λvs H Q _=>∃(cs:List Nat),vs=[.str (aU cs)]/\1<=cs.length/\cs.length<=6/\(∀d∈cs,bA d)/\∀H',Same H H'->bA (ckL cs)->gL (cs++[ckL cs])=true->Q (.str (aU (cs++[ckL cs]))) H'
def yP:FnScope ["word"] ["word"] (aK kA):=by walk_at "sc"
def yB(F:Fun K "with_check" "with_check" kA f fd)(G:Gs K mg w Zo Zz Zq Zx Z0 Zt Zy Zw Zu Zv Zr Zs Zp)(yA7:Cal P w K mg base 4 "check_of" ["word"] tB):FnOk P w K mg base CX0 5 f fd ["word"] jJ:=by
 refine F.ok yP (λvs H Q E h=>?_) (λcdv A outer s H vs Q E hr h=>?_)
 ·obtain⟨cs,rfl,_⟩:=h;rfl
 obtain⟨cs,rfl,h1,h6,hL,q⟩:=h;refine⟨_,(@aI _ _ _ (aV (aQ bN (mv 0) (aZ yA7 hr (by decide) rfl (aA (mv 0) aB))))),?_⟩
 have hwl:(aU cs).length=cs.length:=cC cs
 walk_at "g";refine⟨cs,rfl,h1,h6,hL,λd H1 s1 hd hdv=>?_⟩;have e:=cJT h6 hL hd hdv
 have h1l:(one d).length=1:=rfl
 walk_at "g";have r:=q H1 s1
 rw[e]at r;rw[gR];exact r hd hdv
def wN(bk:List (Str×Str))(cws:List (List Nat)):Prop:=cws.length=bk.length/\∀(j:Nat) b cw,bk[j]?=some b->cws[j]?=some cw->b.1=aU cw/\1<=cw.length/\cw.length<=6/\∀d∈cw,bA d
def dX(aN:Addr):Sp:=λvs H Q E=>∃(b:Addr) (us:List V) (n:Int),vs=[.ref b,.int n]/\rdL H b=some us/\us.length<=1000/\((0<=n/\n<(us.length:Int))->Q .non H)/\(¬(0<=n/\n<(us.length:Int))->∀H',Same H H'->E (.ref aN) none H')
def nN:FnScope ["halyards", "number"] ["halyards", "number"] (aK eU):=by walk_at "sc"
def nK(F:Fun K "look_for_halyard" "look_for_halyard" eU f fd):FnOk P w K mg base (CXr P w) 1 f fd ["halyards", "number"] (dX Zy):=by
 refine F.okX nN (λvs H Q E h=>?_) (λcdv A outer s H vs Q E hr h=>?_)
 ·obtain⟨b,us,n,rfl,_⟩:=h;rfl
 obtain⟨b,us,n,rfl,hb,hl,q1,q2⟩:=h;refine⟨_,(@aI _ _ _ (bZ (PW.pt (oG (bC aXP (mv 1) aJ (bD _)) (mR (bC fJO (mv 1) (aX cQ rfl G.b_len bS (aA (mv 0) aB)) (bD _))))) (@aI _ _ _ (gU eJ rfl rfl rfl G.c_NoHalyard G.x_NoHalyard Cj (@aY _ _ _ _ _ _ aB))) bH)),?_⟩;walk_at "g";refine dZ (λh1=>?_) (λh1=>?_)
 ·have hn:=Az h1
  walk_at "g";exact⟨by show 1<=sizeLine;decide,q2 (λz=>by omega) _ (Same.refl _)⟩
 ·have hn:¬n<0:=λz=>h1 (Ap z)
  walk_at "g";refine dZ (λh2=>?_) (λh2=>?_)
  ·have hm:=Az h2
   walk_at "g";exact⟨by show 1<=sizeLine;decide,q2 (λz=>by omega) _ (Same.refl _)⟩
  ·have hm:¬(us.length:Int)<=n:=λz=>h2 (Ap z)
   walk_at "g";exact q1 ⟨by omega,by omega⟩
def yU(m:Nat->Int)(c:Nat):0<=bE (cI m) c:=by
 unfold bE cI;split
 ·rename_i h
  exact Int.le_of_lt (by simp only[Option.getD_some];exact h.2)
 ·exact Hq _
structure TwSt (H:Hp) (B R:Addr) (hs:List (Option (List Nat))) (f:Nat->Option Int):Prop where
 hal:∃us,H B=some (.lst us)/\HalsAt H us hs
 ok:hU hs
 loc:∃kvs,H R=some (.dK kvs)/\Lk kvs f
 pos:∀c,0<=bE f c
inductive Dd where
 |haul (n:Int) (z:Str)
 |lower (n:Int)
 |lose (z:Str)
 |find (z:Str)
 |say (z:Str)
def Dd.vs:Dd->List V
 |.haul n z=>[.str (Str.ofString "haul"),.int n,.str z]
 |.lower n=>[.str (Str.ofString "lower"),.int n]
 |.lose z=>[.str (Str.ofString "lose"),.str z]
 |.find z=>[.str (Str.ofString "find"),.str z]
 |.say z=>[.str (Str.ofString "say"),.str z]
def Dd.zl:Dd->Prop
 |.haul _ z=>z.length<=1000
 |.lower _=>True
 |.lose z=>z.length<=1000
 |.find z=>z.length<=1000
 |.say z=>z.length<=1000
def Dd.no(m:Nat)(f:Nat->Option Int)(mss:List (List (List Nat))):Dd->Nat->Prop
 |.haul n z,i=>(i=1/\¬(0<=n/\n<(m:Int)))\/(i=2/\(0<=n/\n<(m:Int))/\jF z=false)
 |.lower n,i=>i=1/\¬(0<=n/\n<(m:Int))
 |.lose z,i=>(i=3/\dO z=false)\/(i=4/\∃c,z=one c/\rK c/\bE f c<=0)
 |.find z,i=>i=3/\dO z=false
 |.say z,i=>(i=5/\xY z 40=false)\/(i=6/\∃T:List (List Nat),z=eY T/\1<=T.length/\T.length<=40/\(∀t∈T,jS t)/\bZW mss T)
def XO(v:V)(i:Nat)(o:Option Addr)(H:Hp):Prop:=
 (i=2/\∃dx,o=some dx/\H dx=some (xdO dx [("at",.int 0)]))\/(i=4/\∃dx,o=some dx/\H dx=some (xdO dx [("flag",v)]))\/(i=6/\∃dx m,o=some dx/\H dx=some (xdO dx [("terms",.int m)]))\/(i≠2/\i≠4/\i≠6/\o=none)
def xR(c0 c1 c2 c3 c4 c5 c6:Addr)(i:Nat):Addr:=[c0,c1,c2,c3,c4,c5,c6].getD i c0
def Dd.arg:Dd->V
 |.haul n _=>.int n
 |.lower n=>.int n
 |.lose z=>.str z
 |.find z=>.str z
 |.say z=>.str z
def fQ(aF:Addr):Sp:=λvs H Q E=>∃z:Str,vs=[.str z]/\z.length<=1000/\(dO z=true->Q .non H)/\(dO z=false->∀H',Same H H'->E (.ref aF) none H')
def rV:FnScope ["flag"] ["flag"] (aK fZ):=by walk_at "sc"
def rM(F:Fun K "look_for_flag" "look_for_flag" fZ f fd)(w8:Cal P w K mg base 1 "is_flag" ["text"] pK):FnOk P w K mg base (CXr P w) 2 f fd ["flag"] (fQ Zu):=by
 refine F.okX rV (λvs H Q E h=>?_) (λcdv A outer s H vs Q E hr h=>?_)
 ·obtain⟨z,rfl,_⟩:=h;rfl
 obtain⟨z,rfl,hz,q1,q2⟩:=h;refine⟨_,(@aI _ _ _ (bZ (sJ (eG (aZ w8 hr (by decide) rfl (aA (mv 0) aB)))) (@aI _ _ _ (gU eJ rfl rfl rfl G.c_NoFlag G.x_NoFlag Cj (@aY _ _ _ _ _ _ aB))) bH)),?_⟩
 walk_at "g";refine⟨z,rfl,hz,?_⟩;cases e:dO z with
 |true=>
  walk_at "g";exact q1 e
 |false=>
  walk_at "g";exact⟨by show 1<=sizeLine;decide,q2 e _ (Same.refl _)⟩
def lO(aS aF:Addr):Sp:=λvs H _ E=>∃(B R:Addr) (hs:List (Option (List Nat))) (f:Nat->Option Int) (z:Str),vs=[.ref B,.ref R,.str z]/\TwSt H B R hs f/\z.length<=1000/\
 ((dO z=false/\∀H',Same H H'->E (.ref aF) none H')\/∃c,z=one c/\rK c/\bE f c<=0/\∀(dx:Addr) (H':Hp),Same H H'->H' dx=some (xdO dx [("flag",.str z)])->E (.ref aS) (some dx) H')
def uO:FnScope ["halyards", "locker", "flag"] ["halyards", "locker", "flag"] (aK iX):=by walk_at "sc"
def xC(F:Fun K "behind_lose" "behind_lose" iX f fd)(G:Gs K mg w Zo Zz Zq Zx Z0 Zt Zy Zw Zu Zv Zr Zs Zp)(u9:gI P w K mg base 2 "look_for_flag" ["flag"] (fQ Zu))(z6:gI P w K mg base 3 "taken" ["locker", "flags"] (qI Zq)):FnOk P w K mg base (CXr P w) 4 f fd ["halyards", "locker", "flag"] (lO Zq Zu):=by
 refine F.okX uO (λvs H Q E h=>?_) (λcdv A outer s H vs Q E hr h=>?_)
 ·obtain⟨B,R,hs,f,z,rfl,_⟩:=h;rfl
 obtain⟨B,R,hs,f,z,rfl,tw,hz,hq⟩:=h;refine⟨_,(@aE _ _ _ _ _ (cH (cP u9 bW hr (by decide) rfl (aA (mv 2) aB))) (@aI _ _ _ (aV (cW (aA (mv 0) (aA (cP z6 bW hr (by decide) rfl (aA (mv 1) (aA (bJ (aA (mv 2) aB)) aB))) aB)))))),?_⟩
 obtain⟨⟨us,hB,hat⟩,ok,⟨kvs,hR,lk⟩,hpos⟩:=id tw;walk_at "g";rcases hq with⟨hf,qe⟩|⟨c,rfl,hc,hle,qe⟩
 ·exact⟨z,rfl,hz,(λht=>by rw[hf]at ht;cases ht),λ_ H' s'=>qe H' s'⟩
 refine⟨one c,rfl,hz,λ_=>?_,λhf=>by rw[pF,Ap (show bA c\/eE c from hc)]at hf;cases hf⟩
 walk_at "g";refine⟨by show 1<=sizeLine;decide,λp1 hp1=>?_⟩
 have k1:=aG hp1 (.lst [V.str (one c)])
 have e1:rdL (upd H p1 (.lst [V.str (one c)])) p1=some (([c].map one).map V.str):=bP
 generalize upd H p1 (.lst [V.str (one c)])=H1 at k1 e1 ⊢;walk_at "g";refine⟨R,p1,kvs,f,[c],rfl,k1 _ _ hR,lk,hpos,e1,by show 1<=1000;decide,(λd hd=>by rw[Al.mp hd];exact hc),λhen R' kws H2 hR' s2 e2 lk2=>?_,λi d hd hen _ dx H2 s2 ex=>?_⟩
 ·have hp:0<bE f c:=hen 0 c (Nat.succ_pos _) rfl
  omega
 ·cases i with
  |succ i=>cases hd
  |zero=>
   cases hd;exact qe dx H2 (k1.trans s2) ex
def lH(aF:Addr):Sp:=λvs H _ E=>∃(B R:Addr) (z:Str),vs=[.ref B,.ref R,.str z]/\z.length<=1000/\dO z=false/\∀H',Same H H'->E (.ref aF) none H'
def vG:FnScope ["halyards", "locker", "flag"] ["halyards", "locker", "flag"] (aK iZ):=by walk_at "sc"
def vK(F:Fun K "behind_find" "behind_find" iZ f fd)(u9:gI P w K mg base 2 "look_for_flag" ["flag"] (fQ Zu))(y6:Cal P w K mg base 2 "put_in" ["locker", "flags"] gS)(wT:Cal P w K mg base 1 "all_flags_on" ["halyards"] gG):FnOk P w K mg base (CXr P w) 3 f fd ["halyards", "locker", "flag"] (lH Zu):=by
 refine F.okX vG (λvs H Q E h=>?_) (λcdv A outer s H vs Q E hr h=>?_)
 ·obtain⟨B,R,z,rfl,_⟩:=h;rfl
 obtain⟨B,R,z,rfl,hz,hf,qe⟩:=h;refine⟨_,(@aE _ _ _ _ _ (cH (cP u9 bW hr (by decide) rfl (aA (mv 2) aB))) (@aE _ _ _ _ _ (bZ (bC fJO (aQ bN (iD Bw Do (aZK (Room.u1 hr)) (mv 1) (aA (mv 2) (aA aJ aB))) (cA Bg PySem.F.slot_list_count PySem.F.type_list_count dZX (aZ wT hr (by decide) rfl (aA (mv 0) aB)) (aA (mv 2) aB))) (qJ rfl G.s_MOST_OF_A_FLAG) (bD _)) (@aI _ _ _ (gU eJ rfl rfl rfl G.c_NoFlag G.x_NoFlag Cj (@aY _ _ _ _ _ _ aB))) bH) (@aI _ _ _ (aV (cW (aA (mv 0) (aA (aZ y6 hr (by decide) rfl (aA (mv 1) (aA (bJ (aA (mv 2) aB)) aB))) aB))))))),?_⟩
 walk_at "g";exact⟨z,rfl,hz,(λht=>by rw[hf]at ht;cases ht),λ_ H' s'=>qe H' s'⟩
def lE(aN:Addr):Sp:=λvs H _ E=>∃(B R:Addr) (us:List V) (n:Int),vs=[.ref B,.ref R,.int n]/\rdL H B=some us/\us.length<=1000/\¬(0<=n/\n<(us.length:Int))/\∀H',Same H H'->E (.ref aN) none H'
def yBD:FnScope ["halyards", "locker", "number", "behind"] ["halyards", "locker", "number"] (aK gW):=by walk_at "sc"
def tU(F:Fun K "behind_lower" "behind_lower" gW f fd)(t7:gI P w K mg base 1 "look_for_halyard" ["halyards", "number"] (dX Zy))(y6:Cal P w K mg base 2 "put_in" ["locker", "flags"] gS)(y8:Cal P w K mg base 1 "flags_on" ["halyards", "numbers"] iN):FnOk P w K mg base (CXr P w) 3 f fd ["halyards", "locker", "number"] (lE Zy):=by
 refine F.okX yBD (λvs H Q E h=>?_) (λcdv A outer s H vs Q E hr h=>?_)
 ·obtain⟨B,R,us,n,rfl,_⟩:=h;rfl
 obtain⟨B,R,us,n,rfl,hB,hl,hn,qe⟩:=h;refine⟨_,(@aE _ _ _ _ _ (cH (cP t7 bW hr (by decide) rfl (aA (mv 0) (aA (mv 2) aB)))) (@aE _ _ _ _ _ (aP 3 yBD.nd (cF iY rfl G.b_list fD (aA (mv 0) aB))) (@aE _ _ _ _ _ (vI dG (bXI (mv 3) (mv 2) vR)) (@aI _ _ _ (aV (cW (aA (mv 3) (aA (aZ y6 hr (by decide) rfl (aA (mv 1) (aA (aZ y8 hr (by decide) rfl (aA (mv 0) (aA (bJ (aA (mv 2) aB)) aB))) aB))) aB)))))))),?_⟩
 walk_at "g";exact⟨B,us,n,rfl,hB,hl,(λz=>absurd z hn),λ_ H' s'=>qe H' s'⟩
def oA(aT aC:Addr):Sp:=λvs H _ E=>∃(b B R:Addr) (z:Str),vs=[.ref b,.ref B,.ref R,.str z]/\lU aT aC [.ref b,.str z] H (λ_ _=>False) E
def o7:FnScope ["book", "halyards", "locker", "text", "words", "more", "hoists", "bare"] ["book", "halyards", "locker", "text"] (aK gP):=by walk_at "sc"
def yF(F:Fun K "behind_say" "behind_say" gP f fd)(y6:Cal P w K mg base 2 "put_in" ["locker", "flags"] gS)(z5:gI P w K mg base 3 "hang_all" ["locker", "words"] (iL Zo))(t9:Cal P w K mg base 5 "with_check" ["word"] jJ)(wT:Cal P w K mg base 1 "all_flags_on" ["halyards"] gG)(z6:gI P w K mg base 3 "taken" ["locker", "flags"] (qI Zq))(yA8:gI P w K mg base 4 "cut_text" ["book", "text"] (lU Zv Zr)):FnOk P w K mg base (CXr P w) 6 f fd ["book", "halyards", "locker", "text"] (oA Zv Zr):=by
 refine F.okX o7 (λvs H Q E h=>?_) (λcdv A outer s H vs Q E hr h=>?_)
 ·obtain⟨b,B,R,z,rfl,_⟩:=h;rfl
 obtain⟨b,B,R,z,rfl,a,z',bk,mss,e,h1,h2,h3,h4,h5⟩:=h;refine⟨_,(@aE _ _ _ _ _ (fR (i:=4) o7.nd rfl (Or.inl rfl) rfl (cG (cP yA8 bW hr (by decide) rfl (aA (mv 0) (aA (mv 3) aB)))) (fH (N:=["number", "book"]) ["book", "halyards", "locker", "text", "words", "more", "hoists", "bare"] (aK gP) [none,some 0] rfl rfl rfl (λx h=>cE h) (by decide +kernel)) (by decide +kernel) rfl (by decide +kernel) (λ_ _ _ _=>(bF (i:=0) (show List.Nodup (["number", "book"]:List Str) by decide +kernel) rfl (Or.inl rfl))) (λ_ _ _ _=>cZ) (λ_ _ _ _=>(aZ t9 hr (by decide) rfl (aA (bI bX (bI bX (mv 1) (mv 0) (λ_ _=>rfl)) aJ (λ_ _=>rfl)) aB)))) (@aE _ _ _ _ _ (bZ (bC bQS (aX cQ rfl G.b_len bS (aA (mv 4) aB)) (aX cQ rfl G.b_len bS (aA (mv 1) aB)) (bD _)) (@aI _ _ _ (gU eJ rfl rfl rfl G.c_NoHalyard G.x_NoHalyard Cj (@aY _ _ _ _ _ _ aB))) bH) (@aE _ _ _ _ _ (aP 5 o7.nd (aZ y6 hr (by decide) rfl (aA (mv 2) (aA (aZ wT hr (by decide) rfl (aA (mv 1) aB)) aB)))) (@aE _ _ _ _ _ (aP 6 o7.nd (cP z5 bW hr (by decide) rfl (aA (mv 5) (aA (mv 4) aB)))) (@aE _ _ _ _ _ (aP 7 o7.nd (aQ aXF (bJ (aA dG aB)) (aQ tG (aX cQ rfl G.b_len bS (aA (mv 1) aB)) (aX cQ rfl G.b_len bS (aA (mv 6) aB))))) (@aI _ _ _ (aV (cW (aA (aQ bN (mv 6) (mv 7)) (aA (cP z6 bW hr (by decide) rfl (aA (mv 5) (aA (aZ wT hr (by decide) rfl (aA (mv 6) aB)) aB))) aB)))))))))),?_⟩
 walk_at "g";exact⟨a,z',bk,mss,e,h1,h2,h3,h4,h5⟩
def lW(aL aN aW:Addr):Sp:=λvs H Q E=>∃(B R:Addr) (hs:List (Option (List Nat))) (f:Nat->Option Int) (n:Int) (z:Str),vs=[.ref B,.ref R,.int n,.str z]/\TwSt H B R hs f/\hs.length<=6/\z.length<=1000/\
 ((¬(0<=n/\n<(hs.length:Int))/\∀H',Same H H'->E (.ref aN) none H')\/
  ((0<=n/\n<(hs.length:Int))/\jF z=false/\∀(dx:Addr) (H':Hp),Same H H'->H' dx=some (xdO dx [("at",.int 0)])->E (.ref aW) (some dx) H')\/
  ((0<=n/\n<(hs.length:Int))/\jF z=true/\(∀(t B' R':Addr) (hs':Q3) (f':Nat->Option Int) (H':Hp),Same H H'->H' t=some (.tup [.ref B',.ref R'])->H B'=none->hs'.length=hs.length->TwSt H' B' R' hs' f'->Q (.ref t) H')/\
   ∀(dx:Addr) (H':Hp),Same H H'->E (.ref aL) (some dx) H'))
def yBE:FnScope ["halyards", "locker", "number", "word", "told"] ["halyards", "locker", "number", "word"] (aK jI):=by walk_at "sc"
def xF(F:Fun K "behind_haul" "behind_haul" jI f fd)(t7:gI P w K mg base 1 "look_for_halyard" ["halyards", "number"] (dX Zy))(yA9:gI P w K mg base 12 "hauled" ["locker", "halyards", "number", "word"] (zN Zo))(yAA:Cal P w K mg base 3 "is_checked" ["word"] nS)(yAB:aJZ P w K mg base 1 Zw ["self", "at"] (mF Zw)):FnOk P w K mg base (CXr P w) 13 f fd ["halyards", "locker", "number", "word"] (lW Zo Zy Zw):=by
 refine F.okX yBE (λvs H Q E h=>?_) (λcdv A outer s H vs Q E hr h=>?_)
 ·obtain⟨B,R,hs,f,n,z,rfl,_⟩:=h;rfl
 obtain⟨B,R,hs,f,n,z,rfl,tw,h6,hz,hq⟩:=h;refine⟨_,(@aE _ _ _ _ _ (cH (cP t7 bW hr (by decide) rfl (aA (mv 0) (aA (mv 2) aB)))) (@aE _ _ _ _ _ (bZ (sJ (eG (aZ yAA hr (by decide) rfl (aA (mv 3) aB)))) (@aI _ _ _ (jV eJ rfl rfl rfl G.c_NoWord G.xm_NoWord yAB hr (by decide) (aA aJ aB))) bH) (@aE _ _ _ _ _ (aP 4 yBE.nd (cP yA9 bW hr (by decide) rfl (aA (mv 1) (aA (mv 0) (aA (mv 2) (aA (mv 3) aB)))))) (@aI _ _ _ (aV (cW (aA (bI bX (mv 4) aJ (λ_ _=>rfl)) (aA (bI bX (mv 4) aJ (λ_ _=>rfl)) aB)))))))),?_⟩
 obtain⟨⟨us,hB,hat⟩,ok,⟨kvs,hR,lk⟩,hpos⟩:=tw;have rB:=aR hB
 have hul:=hat.len
 walk_at "g";refine⟨B,us,n,rfl,rB,by omega,λhn=>?_,λhn H' s'=>?_⟩
 rotate_left
 ·rw[hul]at hn;rcases hq with⟨_,qe⟩|⟨hh,_⟩|⟨hh,_⟩
  ·exact qe H' s'
  ·exact absurd hh hn
  ·exact absurd hh hn
 rw[hul]at hn;walk_at "g";refine⟨z,rfl,hz,λH1 s1=>?_⟩;rcases hq with⟨hh,_⟩|⟨_,hc,qe⟩|⟨_,hc,q,qe⟩
 ·exact absurd hn hh
 ·rw[hc];walk_at "g";refine⟨by show 1<=sizeLine;decide,λea hea=>⟨ea,_,rfl,aH,λdx hdx=>⟨rfl,some dx,(rG hdx).1,?_⟩⟩⟩
  exact qe dx _ (xJ s1 hea hdx) (rG hdx).2
 rw[hc];obtain⟨k,rfl⟩:∃k:Nat,n=(k:Int):=⟨n.toNat,(Fc hn.1).symm⟩;have hk:k<hs.length:=Int.ofNat_lt.mp hn.2
 unfold jF at hc;rw[Dx]at hc;obtain⟨hc7,hcL⟩:=kL hc.1;have hzl:=dS z
 obtain⟨cw,rfl⟩:∃cw,z=aU cw:=⟨z.cps.toList,FlT.str_ext (by rw[bV])⟩
 rw[bV]at hcL hzl;have hck:=hc.2
 rw[bV]at hck;have hc1:1<=cw.length:=by
  unfold dQC at hck;rw[Dx,Ck]at hck;omega
 have hc7':cw.length<=7:=by omega
 walk_at "g";refine⟨R,B,kvs,f,us,hs,k,cw,rfl,⟨s1 _ _ hR,lk,hpos,aO s1 rB,hat.keep s1,ok,h6,hk,hc1,hc7',hcL⟩,λt L B2 R2 ks gs vs' kws g H2 s2 et hks hgs hB2 eB hatB eR lkR=>?_,λdx H2 s2=>qe dx H2 (s1.trans s2)⟩;have tt:=cN et
 walk_at "g";refine cK et (v:=.ref B2) (bB (j:=1) rfl) ?_;walk_at "g";refine cK et (v:=.ref R2) (bB (j:=2) rfl) ?_;walk_at "g";refine⟨by show 2<=sizeLine;decide,λt3 ht3=>?_⟩
 have k3:=aG ht3 (.tup [.ref B2,.ref R2])
 have s03:=s1.trans (s2.trans k3)
 have hlk:∀k∈ks,k<hs.length/\(hs.getD k none).isSome=true:=λk hk=>by
  have:=mY (hks.subset hk)
  exact⟨this.1,this.2.1⟩
 have hgf:=cJU hgs (wJ ok hc1 ⟨hc7',hcL⟩ hlk)
 exact q t3 B2 R2 _ _ _ s03 aH (none_of s1 hB2) (qN hs _) ⟨⟨vs',k3 _ _ eB,hatB.keep k3⟩,bZP ok _ λz hz=>(hgf z.2 (Fk hz).2).1,⟨kws,k3 _ _ eR,lkR⟩,yU _⟩
def mD(aD aN aW aF aS aT aC aL:Addr):Sp:=λvs H Q E=>∃(b hg st dp:Addr) (bk:List (Str×Str)) (mss:List (List (List Nat))) (hs:List (Option (List Nat))) (f:Nat->Option Int) (d:Dd),vs=[.ref b,.ref hg,.ref st,.ref dp]/\TwSt H hg st hs f/\hs.length<=6/\BkAt H b bk/\bk.length<=60/\jW bk mss/\H dp=some (.tup d.vs)/\d.zl/\
 ((∃i,d.no hs.length f mss i/\∀(o:Option Addr) (H':Hp),Same H H'->XO d.arg i o H'->E (.ref (xR aD aN aW aF aS aT aC i)) o H')\/
  (∃n z,d=.haul n z/\(0<=n/\n<(hs.length:Int))/\jF z=true/\(∀(t B' R':Addr) (hs':Q3) (f':Nat->Option Int) (H':Hp),Same H H'->H' t=some (.tup [.ref B',.ref R'])->H B'=none->hs'.length=hs.length->TwSt H' B' R' hs' f'->Q (.ref t) H')/\∀(dx:Addr) (H':Hp),Same H H'->E (.ref aL) (some dx) H'))
def vD:FnScope ["book", "halyards", "locker", "deed"] ["book", "halyards", "locker", "deed"] (aK iU):=by walk_at "sc"
def wO(F:Fun K "behind_deed" "behind_deed" iU f fd)(G:Gs K mg w Zo Zz Zq Zx Z0 Zt Zy Zw Zu Zv Zr Zs Zp)(yAC:gI P w K mg base 6 "behind_say" ["book", "halyards", "locker", "text"] (oA Zv Zr))(yAD:gI P w K mg base 13 "behind_haul" ["halyards", "locker", "number", "word"] (lW Zo Zy Zw))(yAE:gI P w K mg base 3 "behind_lower" ["halyards", "locker", "number"] (lE Zy))(yAF:gI P w K mg base 4 "behind_lose" ["halyards", "locker", "flag"] (lO Zq Zu))(yAG:gI P w K mg base 3 "behind_find" ["halyards", "locker", "flag"] (lH Zu)):FnOk P w K mg base (CXr P w) 14 f fd ["book", "halyards", "locker", "deed"] (mD Zt Zy Zw Zu Zq Zv Zr Zo):=by
 refine F.okX vD (λvs H Q E h=>?_) (λcdv A outer s H vs Q E hr h=>?_)
 ·obtain⟨b,hg,st,dp,bk,mss,hs,f,d,rfl,_⟩:=h;rfl
 obtain⟨b,hg,st,dp,bk,mss,hs,f,d,rfl,tw,h6,hbk,h60,hms,tp,hzl,hq⟩:=h;refine⟨_,(@aE _ _ _ _ _ (bZ (bC iE (bI bX (mv 3) aJ (λ_ _=>rfl)) cS (bD _)) (@aI _ _ _ (aV (cP yAD bW hr (by decide) rfl (aA (mv 1) (aA (mv 2) (aA (bI bX (mv 3) aJ (λ_ _=>rfl)) (aA (bI bX (mv 3) aJ (λ_ _=>rfl)) aB))))))) bH) (@aE _ _ _ _ _ (bZ (bC iE (bI bX (mv 3) aJ (λ_ _=>rfl)) cS (bD _)) (@aI _ _ _ (aV (cP yAE bW hr (by decide) rfl (aA (mv 1) (aA (mv 2) (aA (bI bX (mv 3) aJ (λ_ _=>rfl)) aB)))))) bH) (@aE _ _ _ _ _ (bZ (bC iE (bI bX (mv 3) aJ (λ_ _=>rfl)) cS (bD _)) (@aI _ _ _ (aV (cP yAF bW hr (by decide) rfl (aA (mv 1) (aA (mv 2) (aA (bI bX (mv 3) aJ (λ_ _=>rfl)) aB)))))) bH) (@aE _ _ _ _ _ (bZ (bC iE (bI bX (mv 3) aJ (λ_ _=>rfl)) cS (bD _)) (@aI _ _ _ (aV (cP yAG bW hr (by decide) rfl (aA (mv 1) (aA (mv 2) (aA (bI bX (mv 3) aJ (λ_ _=>rfl)) aB)))))) bH) (@aI _ _ _ (aV (cP yAC bW hr (by decide) rfl (aA (mv 0) (aA (mv 1) (aA (mv 2) (aA (bI bX (mv 3) aJ (λ_ _=>rfl)) aB))))))))))),?_⟩
 cases d with
 |haul n z=>
  replace tp:H dp=some (.tup [.str (Str.ofString "haul"),.int n,.str z]):=tp
  have tt:=cN tp
  walk_at "g";refine cK tp (v:=.str (Str.ofString "haul")) (bB (j:=0) rfl) ?_;walk_at "g";rw[show decide ((Str.ofString "haul")=(Str.ofString "haul"))=true from Ap rfl];walk_at "g";refine cK tp (v:=.int n) (bB (j:=1) rfl) ?_;walk_at "g";refine cK tp (v:=.str z) (bB (j:=2) rfl) ?_;walk_at "g";refine⟨hg,st,hs,f,n,z,rfl,tw,h6,hzl,?_⟩;rcases hq with⟨i,⟨rfl,hn⟩|⟨rfl,hn,hc⟩,qe⟩|⟨n',z',e,hn,hc,q,qe⟩
  ·exact .inl ⟨hn,λH' s'=>qe none H' s' (.inr (.inr (.inr ⟨by decide,by decide,by decide,rfl⟩)))⟩
  ·exact .inr (.inl ⟨hn,hc,λdx H' s' e=>qe (some dx) H' s' (.inl ⟨rfl,dx,rfl,e⟩)⟩)
  ·cases e;exact .inr (.inr ⟨hn,hc,q,qe⟩)
 |lower n=>
  replace tp:H dp=some (.tup [.str (Str.ofString "lower"),.int n]):=tp
  have tt:=cN tp
  obtain⟨us,hB,hat⟩:=tw.hal;have hul:=hat.len
  walk_at "g";refine cK tp (v:=.str (Str.ofString "lower")) (bB (j:=0) rfl) ?_;walk_at "g";rw[show decide ((Str.ofString "lower")=(Str.ofString "haul"))=false from by decide +kernel]
  walk_at "g";refine cK tp (v:=.str (Str.ofString "lower")) (bB (j:=0) rfl) ?_;walk_at "g";rw[show decide ((Str.ofString "lower")=(Str.ofString "lower"))=true from Ap rfl];walk_at "g";refine cK tp (v:=.int n) (bB (j:=1) rfl) ?_;walk_at "g";rcases hq with⟨i,⟨rfl,hn⟩,qe⟩|⟨n',z',e,_⟩
  ·exact⟨hg,st,us,n,rfl,aR hB,by omega,by rw[hul];exact hn,λH' s'=>qe none H' s' (.inr (.inr (.inr ⟨by decide,by decide,by decide,rfl⟩)))⟩
  ·cases e
 |lose z=>
  replace tp:H dp=some (.tup [.str (Str.ofString "lose"),.str z]):=tp
  have tt:=cN tp
  walk_at "g";refine cK tp (v:=.str (Str.ofString "lose")) (bB (j:=0) rfl) ?_;walk_at "g";rw[show decide ((Str.ofString "lose")=(Str.ofString "haul"))=false from by decide +kernel]
  walk_at "g";refine cK tp (v:=.str (Str.ofString "lose")) (bB (j:=0) rfl) ?_;walk_at "g";rw[show decide ((Str.ofString "lose")=(Str.ofString "lower"))=false from by decide +kernel]
  walk_at "g";refine cK tp (v:=.str (Str.ofString "lose")) (bB (j:=0) rfl) ?_;walk_at "g";rw[show decide ((Str.ofString "lose")=(Str.ofString "lose"))=true from Ap rfl];walk_at "g";refine cK tp (v:=.str z) (bB (j:=1) rfl) ?_;walk_at "g";rcases hq with⟨i,⟨rfl,hf⟩|⟨rfl,c,hzc,hc,hle⟩,qe⟩|⟨n',z',e,_⟩
  ·exact⟨hg,st,hs,f,z,rfl,tw,hzl,.inl ⟨hf,λH' s'=>qe none H' s' (.inr (.inr (.inr ⟨by decide,by decide,by decide,rfl⟩)))⟩⟩
  ·exact⟨hg,st,hs,f,z,rfl,tw,hzl,.inr ⟨c,hzc,hc,hle,λdx H' s' e=>qe (some dx) H' s' (.inr (.inl ⟨rfl,dx,rfl,e⟩))⟩⟩
  ·cases e
 |find z=>
  replace tp:H dp=some (.tup [.str (Str.ofString "find"),.str z]):=tp
  have tt:=cN tp
  walk_at "g";refine cK tp (v:=.str (Str.ofString "find")) (bB (j:=0) rfl) ?_;walk_at "g";rw[show decide ((Str.ofString "find")=(Str.ofString "haul"))=false from by decide +kernel]
  walk_at "g";refine cK tp (v:=.str (Str.ofString "find")) (bB (j:=0) rfl) ?_;walk_at "g";rw[show decide ((Str.ofString "find")=(Str.ofString "lower"))=false from by decide +kernel]
  walk_at "g";refine cK tp (v:=.str (Str.ofString "find")) (bB (j:=0) rfl) ?_;walk_at "g";rw[show decide ((Str.ofString "find")=(Str.ofString "lose"))=false from by decide +kernel]
  walk_at "g";refine cK tp (v:=.str (Str.ofString "find")) (bB (j:=0) rfl) ?_;walk_at "g";rw[show decide ((Str.ofString "find")=(Str.ofString "find"))=true from Ap rfl];walk_at "g";refine cK tp (v:=.str z) (bB (j:=1) rfl) ?_;walk_at "g";rcases hq with⟨i,⟨rfl,hf⟩,qe⟩|⟨n',z',e,_⟩
  ·exact⟨hg,st,z,rfl,hzl,hf,λH' s'=>qe none H' s' (.inr (.inr (.inr ⟨by decide,by decide,by decide,rfl⟩)))⟩
  ·cases e
 |say z=>
  replace tp:H dp=some (.tup [.str (Str.ofString "say"),.str z]):=tp
  have tt:=cN tp
  walk_at "g";refine cK tp (v:=.str (Str.ofString "say")) (bB (j:=0) rfl) ?_;walk_at "g";rw[show decide ((Str.ofString "say")=(Str.ofString "haul"))=false from by decide +kernel]
  walk_at "g";refine cK tp (v:=.str (Str.ofString "say")) (bB (j:=0) rfl) ?_;walk_at "g";rw[show decide ((Str.ofString "say")=(Str.ofString "lower"))=false from by decide +kernel]
  walk_at "g";refine cK tp (v:=.str (Str.ofString "say")) (bB (j:=0) rfl) ?_;walk_at "g";rw[show decide ((Str.ofString "say")=(Str.ofString "lose"))=false from by decide +kernel]
  walk_at "g";refine cK tp (v:=.str (Str.ofString "say")) (bB (j:=0) rfl) ?_;walk_at "g";rw[show decide ((Str.ofString "say")=(Str.ofString "find"))=false from by decide +kernel]
  walk_at "g";refine cK tp (v:=.str z) (bB (j:=1) rfl) ?_;walk_at "g";refine⟨b,hg,st,z,rfl,b,z,bk,mss,rfl,hbk,h60,hms,hzl,?_⟩;rcases hq with⟨i,⟨rfl,hr⟩|⟨rfl,T,hzT,t1,t2,t3,t4⟩,qe⟩|⟨n',z',e,_⟩
  ·exact .inl ⟨hr,λH' s'=>qe none H' s' (.inr (.inr (.inr ⟨by decide,by decide,by decide,rfl⟩)))⟩
  ·exact .inr ⟨T,hzT,t1,t2,t3,t4,λm dx H' s' e=>qe (some dx) H' s' (.inr (.inr (.inl ⟨rfl,dx,m,rfl,e⟩)))⟩
  ·cases e
def twF(b:Addr)(m:Int)(s0 st hg dd:Addr):List (Str×V):=[("book",.ref b),("many",.int m),("stock_at_first",.ref s0),("stock",.ref st),("hung",.ref hg),("deeds",.ref dd)]
def tw1(b:Addr):List (Str×V):=[("book",.ref b)]
def tw2(b:Addr)(m:Int):List (Str×V):=[("book",.ref b),("many",.int m)]
def tw3(b:Addr)(m:Int)(s0:Addr):List (Str×V):=[("book",.ref b),("many",.int m),("stock_at_first",.ref s0)]
def tw4(b:Addr)(m:Int)(s0 st:Addr):List (Str×V):=[("book",.ref b),("many",.int m),("stock_at_first",.ref s0),("stock",.ref st)]
def tw5(b:Addr)(m:Int)(s0 st hg:Addr):List (Str×V):=[("book",.ref b),("many",.int m),("stock_at_first",.ref s0),("stock",.ref st),("hung",.ref hg)]
def dJ0:gD "book" (.ref b) []=tw1 b:=rfl
def eQP:gD "many" (.int m) (tw1 b)=tw2 b m:=rfl
def dJX:gD "stock_at_first" (.ref s0) (tw2 b m)=tw3 b m s0:=rfl
def dJY:gD "stock" (.ref st) (tw3 b m s0)=tw4 b m s0 st:=rfl
def dZO:gD "hung" (.ref hg) (tw4 b m s0 st)=tw5 b m s0 st hg:=rfl
def dJG:gD "deeds" (.ref dd) (tw5 b m s0 st hg)=twF b m s0 st hg dd:=rfl
def bJW:(twF b m s0 st hg dd).lookup ("book" : Str)=some (.ref b):=rfl
def aZI:(twF b m s0 st hg dd).lookup ("stock" : Str)=some (.ref st):=rfl
def aX5:(twF b m s0 st hg dd).lookup ("hung" : Str)=some (.ref hg):=rfl
def aZL:(twF b m s0 st hg dd).lookup ("deeds" : Str)=some (.ref dd):=rfl
def aJC:(twF b m s0 st hg dd).lookup ("do" : Str)=none:=rfl
def wM:(twF b m s0 st hg dd).lookup ("read" : Str)=none:=rfl
def zI:(twF b m s0 st hg dd).lookup ("log" : Str)=none:=rfl
def qT:(twF b m s0 st hg dd).lookup ("locker" : Str)=none:=rfl
def mG:(twF b m s0 st hg dd).lookup ("halyards" : Str)=none:=rfl
def aJJ{h':Addr}:gD "hung" (.ref h') (twF b m s0 st hg dd)=twF b m s0 st h' dd:=rfl
def aQ5{s':Addr}:gD "stock" (.ref s') (twF b m s0 st hg dd)=twF b m s0 s' hg dd:=rfl
def SameE(l:List Addr)(H H':Hp):Prop:=∀b o,b∉l->H b=some o->H' b=some o
def SameE.of(s:Same H H'):SameE l H H':=λb o _ e=>s b o e
def SameE.trans{H2:Hp}(s:SameE l H H')(t:SameE l H' H2):SameE l H H2:=λb o n e=>t b o n (s b o n e)
def SameE.put{x:Addr}{o:HO}(hx:x∈l)(s:SameE l H H'):SameE l H (upd H' x o):=λb u n e=>by rw[aM (λz=>n (by rw[z];exact hx))];exact s b u n e
def rdE{a:Addr}{u:HO}(s:SameE l H H')(n:a∉l)(h:Rd H a u):Rd H' a u:=by
 rcases h with h|⟨o,h⟩
 ·exact .inl (s _ _ n h)
 ·exact .inr ⟨o,s _ _ n h⟩
def SameE.none{x:Addr}(s:SameE l H H')(n:x∉l)(h:H' x=none):H x=none:=by
 cases e:H x with
 |none=>rfl
 |some o=>rw[s x o n e]at h;cases h
def aZ8(m:Nat):(List.replicate ((m:Int)).toNat [V.non]).flatten=List.replicate m V.non:=by
 rw[Fs];induction m with
 |zero=>rfl
 |succ n ih=>rw[De,Ct,ih,De];rfl
def iW(C:Addr):Sp:=λvs H Q _=>∃(x b l dx:Addr) (xs:List V) (kvs:List (Key×V)) (f:Nat->Option Int) (m:Nat),vs=[.ref x,.ref b,.ref l,.int (m:Int)]/\H x=some (.ins C dx [])/\rdL H b=some xs/\Rd H l (.dK kvs)/\Lk kvs f/\m<=6/\
 ∀(b' s0 st hg dd:Addr) (H':Hp),H b'=none->H hg=none->H dd=none->H st=none->hg≠dd->b'≠dd->SameE [x] H H'->H' x=some (.ins C dx (twF b' m s0 st hg dd))->H' b'=some (.lst xs)->H' s0=some (.dK (kvL (bE f) (bT (bE f) 27)))->H' st=some (.dK (kvL (bE f) (bT (bE f) 27)))->
  H' hg=some (.lst (List.replicate m V.non))->H' dd=some (.lst [])->Q .non H'
def xW:FnScope ["self", "book", "locker", "many"] ["self", "book", "locker", "many"] (aK kS):=by walk_at "sc"
def xP(F:Fun K "__init__" "Tower.__init__" kS f fd)(y4:Cal P w K mg base 1 "plain_locker" ["locker"] dC):FnOk P w K mg base CX0 2 f fd ["self", "book", "locker", "many"] (iW Z0):=by
 refine F.ok xW (λvs H Q E h=>?_) (λcdv A outer s H vs Q E hr h=>?_)
 ·obtain⟨x,b,l,dx,xs,kvs,f,m,rfl,_⟩:=h;rfl
 obtain⟨x,b,l,dx,xs,kvs,f,m,rfl,hx,hb,hl,hk,hm,q⟩:=h;refine⟨_,(@aE _ _ _ _ _ (lX (mv 0) (cF iY rfl G.b_list fD (aA (mv 1) aB)) rfl) (@aE _ _ _ _ _ (lX (mv 0) (mv 3) rfl) (@aE _ _ _ _ _ (lX (mv 0) (aZ y4 hr (by decide) rfl (aA (mv 2) aB)) rfl) (@aE _ _ _ _ _ (lX (mv 0) (aZ y4 hr (by decide) rfl (aA (mv 2) aB)) rfl) (@aE _ _ _ _ _ (lX (mv 0) (aQ aXF (bJ (aA dG aB)) (mv 3)) rfl) (@aI _ _ _ (lX (mv 0) (bJ aB) rfl))))))),?_⟩
 walk_at "g";intro b' hb';have nx:b'≠x:=λz=>by rw[z,hx]at hb';cases hb'
 have nl:l∉[x]:=λz=>by
  rw[Al.mp z]at hl;rcases hl with h|⟨_,h⟩ <;> (rw[hx]at h;cases h)
 have sE1:SameE [x] H (upd H b' (.lst xs)):=.of (aG hb' (.lst xs))
 have e1:(upd H b' (.lst xs)) b'=some (.lst xs):=aH
 have x1:=aG hb' (.lst xs) _ _ hx
 generalize upd H b' (.lst xs)=H1 at sE1 e1 x1 ⊢;have nin:∀ {y:Addr} {o:HO} {H':Hp} {fs:List (Str×V)},H' y=some o->H' x=some (.ins Z0 dx fs)->(∀fs',o≠.ins Z0 dx fs')->y≠x:=λe1 e2 n z=>by rw[z,e2]at e1;cases e1;exact n _ rfl
 walk_at "g";refine⟨x,Z0,dx,[],rfl,x1,G.cl_Tower,G.na_Tower_book,by decide,?_⟩
 rw[dJ0];have sE2:=sE1.put (o:=.ins Z0 dx (tw1 b')) (Al.mpr rfl)
 have x2:(upd H1 x (.ins Z0 dx (tw1 b'))) x=some (.ins Z0 dx (tw1 b')):=aH
 have e2:(upd H1 x (.ins Z0 dx (tw1 b'))) b'=some (.lst xs):=by rw[aM nx];exact e1
 generalize upd H1 x (.ins Z0 dx (tw1 b'))=H2 at sE2 x2 e2 ⊢;walk_at "g";refine⟨x,Z0,dx,_,rfl,x2,G.cl_Tower,G.na_Tower_many,by show 1<1000;decide,?_⟩
 rw[eQP];have sE3:=sE2.put (o:=.ins Z0 dx (tw2 b' (m:Int))) (Al.mpr rfl)
 have x3:(upd H2 x (.ins Z0 dx (tw2 b' (m:Int)))) x=some (.ins Z0 dx (tw2 b' (m:Int))):=aH
 have e3:(upd H2 x (.ins Z0 dx (tw2 b' (m:Int)))) b'=some (.lst xs):=by rw[aM nx];exact e2
 generalize upd H2 x (.ins Z0 dx (tw2 b' (m:Int)))=H3 at sE3 x3 e3 ⊢;walk_at "g";refine⟨l,kvs,f,rfl,rdE sE3 nl hl,hk,λs0 H4 hs0 s4 d4=>?_⟩;have sE4:=sE3.trans (.of s4)
 have x4:=s4 _ _ x3
 have e4:=s4 _ _ e3
 have n0:=nin d4 x4 λ_=>nofun
 walk_at "g";refine⟨x,Z0,dx,_,rfl,x4,G.cl_Tower,G.na_Tower_stock_at_first,by show 2<1000;decide,?_⟩
 rw[dJX];have sE5:=sE4.put (o:=.ins Z0 dx (tw3 b' (m:Int) s0)) (Al.mpr rfl)
 have x5:(upd H4 x (.ins Z0 dx (tw3 b' (m:Int) s0))) x=some (.ins Z0 dx (tw3 b' (m:Int) s0)):=aH
 have e5:(upd H4 x (.ins Z0 dx (tw3 b' (m:Int) s0))) b'=some (.lst xs):=by rw[aM nx];exact e4
 have d5:(upd H4 x (.ins Z0 dx (tw3 b' (m:Int) s0))) s0=some (.dK (kvL (bE f) (bT (bE f) 27))):=by rw[aM n0];exact d4
 generalize upd H4 x (.ins Z0 dx (tw3 b' (m:Int) s0))=H5 at sE5 x5 e5 d5 ⊢;walk_at "g";refine⟨l,kvs,f,rfl,rdE sE5 nl hl,hk,λst H6 hst s6 d6=>?_⟩;have sE6:=sE5.trans (.of s6)
 have x6:=s6 _ _ x5
 have e6:=s6 _ _ e5
 have d06:=s6 _ _ d5
 have n1:=nin d6 x6 λ_=>nofun
 walk_at "g";refine⟨x,Z0,dx,_,rfl,x6,G.cl_Tower,G.na_Tower_stock,by show 3<1000;decide,?_⟩
 rw[dJY];have sE7:=sE6.put (o:=.ins Z0 dx (tw4 b' (m:Int) s0 st)) (Al.mpr rfl)
 have x7:(upd H6 x (.ins Z0 dx (tw4 b' (m:Int) s0 st))) x=some (.ins Z0 dx (tw4 b' (m:Int) s0 st)):=aH
 have e7:(upd H6 x (.ins Z0 dx (tw4 b' (m:Int) s0 st))) b'=some (.lst xs):=by rw[aM nx];exact e6
 have d07:(upd H6 x (.ins Z0 dx (tw4 b' (m:Int) s0 st))) s0=some (.dK (kvL (bE f) (bT (bE f) 27))):=by rw[aM n0];exact d06
 have d17:(upd H6 x (.ins Z0 dx (tw4 b' (m:Int) s0 st))) st=some (.dK (kvL (bE f) (bT (bE f) 27))):=by rw[aM n1];exact d6
 generalize upd H6 x (.ins Z0 dx (tw4 b' (m:Int) s0 st))=H7 at sE7 x7 e7 d07 d17 ⊢;walk_at "g";refine⟨by show 1<=sizeLine;decide,λp0 hp0=>?_⟩
 have k8:=aG hp0 (.lst [V.non])
 have e8:(upd H7 p0 (.lst [V.non])) p0=some (.lst [V.non]):=aH
 generalize upd H7 p0 (.lst [V.non])=H8 at k8 e8 ⊢;walk_at "g";refine⟨p0,_,[V.non],rfl,rfl,e8,by omega,by omega,by show 1*((m:Int)).toNat<=sizeLine;exact bO (by omega),λhg hhg=>?_⟩
 rw[aZ8];have k9:=k8.trans (aG hhg (.lst (List.replicate m V.non)))
 have h9:(upd H8 hg (.lst (List.replicate m V.non))) hg=some (.lst (List.replicate m V.non)):=aH
 have hg7:H7 hg=none:=none_of k8 hhg
 generalize upd H8 hg (.lst (List.replicate m V.non))=H9 at k9 h9 ⊢;have x9:=k9 _ _ x7
 have n2:=nin h9 x9 λ_=>nofun
 have nin1:∀ {y:Addr},y≠x->y∉[x]:=λn z=>n (Al.mp z)
 have hgH:=sE7.none (nin1 n2) hg7
 have stH:=sE5.none (nin1 n1) hst
 walk_at "g";refine⟨x,Z0,dx,_,rfl,x9,G.cl_Tower,G.na_Tower_hung,by show 4<1000;decide,?_⟩
 rw[dZO];have sE10:=(sE7.trans (.of k9)).put (o:=.ins Z0 dx (tw5 b' (m:Int) s0 st hg)) (Al.mpr rfl)
 have x10:(upd H9 x (.ins Z0 dx (tw5 b' (m:Int) s0 st hg))) x=some (.ins Z0 dx (tw5 b' (m:Int) s0 st hg)):=aH
 have e10:(upd H9 x (.ins Z0 dx (tw5 b' (m:Int) s0 st hg))) b'=some (.lst xs):=by rw[aM nx];exact k9 _ _ e7
 have d010:(upd H9 x (.ins Z0 dx (tw5 b' (m:Int) s0 st hg))) s0=some (.dK (kvL (bE f) (bT (bE f) 27))):=by rw[aM n0];exact k9 _ _ d07
 have d110:(upd H9 x (.ins Z0 dx (tw5 b' (m:Int) s0 st hg))) st=some (.dK (kvL (bE f) (bT (bE f) 27))):=by rw[aM n1];exact k9 _ _ d17
 have h10:(upd H9 x (.ins Z0 dx (tw5 b' (m:Int) s0 st hg))) hg=some (.lst (List.replicate m V.non)):=by rw[aM n2];exact h9
 generalize upd H9 x (.ins Z0 dx (tw5 b' (m:Int) s0 st hg))=H10 at sE10 x10 e10 d010 d110 h10 ⊢;walk_at "g";refine⟨by decide,λdd hdd=>?_⟩
 have k11:=aG hdd (.lst [])
 have f11:(upd H10 dd (.lst [])) dd=some (.lst []):=aH
 have nhd:hg≠dd:=λz=>by rw[<-z,h10]at hdd;cases hdd
 have nbd:b'≠dd:=λz=>by rw[<-z,e10]at hdd;cases hdd
 have x11:=k11 _ _ x10
 have ndx:dd≠x:=λz=>by rw[z,x10]at hdd;cases hdd
 have ddH:=sE10.none (nin1 ndx) hdd
 generalize upd H10 dd (.lst [])=H11 at k11 f11 x11 ⊢;walk_at "g";refine⟨x,Z0,dx,_,rfl,x11,G.cl_Tower,G.na_Tower_deeds,by show 5<1000;decide,?_⟩
 rw[dJG];refine q b' s0 st hg dd _ hb' hgH ddH stH nhd nbd ((sE10.trans (.of k11)).put (Al.mpr rfl)) aH ?_ ?_ ?_ ?_ ?_
 ·rw[aM nx];exact k11 _ _ e10
 ·rw[aM n0];exact k11 _ _ d010
 ·rw[aM n1];exact k11 _ _ d110
 ·rw[aM n2];exact k11 _ _ h10
 ·rw[aM ndx];exact f11
def uY(e:H p=some (.tup xs))(h:Q (.int (xs.length:Int)) H):L2.fG [.ref p] H Q:=by
 have e1:rdL H p=none:=by unfold rdL;rw[e];rfl
 unfold L2.fG;simp only[e1,cN e];exact h
def things:List (Str×Int):=[("haul",3),("lower",2),("lose",2),("find",2),("say",2)]
def eZI(hat:HalsAt H us hs)(ok:hU hs)(hv:us[j]?=some (V.ref p))(hh:hs[j]?=some h):∃c cs,h=some (c::cs)/\H p=some (.lst (V.str (one c)::(cs.map one).map V.str)):=by
 have r:=hat.val j _ _ hv hh
 cases h with
 |none=>cases r
 |some cs=>
  obtain⟨q,e,hq⟩:=r;cases e;have:=(fJ (ok cs (Ao hh))).1
  cases cs with
  |nil=>exact absurd this (by decide)
  |cons c cs=>exact⟨c,cs,rfl,hq⟩
def TwSt.keepE{B R:Addr}{f:Nat->Option Int}(tw:TwSt H B R hs f)(s:SameE l H H')(nB:B∉l)(nR:∀kvs,H R=some (.dK kvs)->R∉l)(nP:∀p c cs,H p=some (.lst (V.str (one c)::cs))->p∉l):TwSt H' B R hs f:=by
 obtain⟨⟨us,u1,u2⟩,ok,⟨kvs,v1,v2⟩,ps⟩:=tw;refine⟨⟨us,s _ _ nB u1,u2.len,λj v h hv hh=>?_⟩,ok,⟨kvs,s _ _ (nR _ v1) v1,v2⟩,ps⟩;have r:=u2.val j v h hv hh
 cases h with
 |none=>exact r
 |some cs=>
  obtain⟨p,rfl,hp⟩:=r;obtain⟨c,cs',e,hq⟩:=eZI u2 ok hv hh;exact⟨p,rfl,s _ _ (nP p c _ hq) hp⟩
def BkAt.keepE(h:BkAt H r bk)(s:SameE l H H')(nr:r∉l)(nt:∀p xs,H p=some (.tup xs)->p∉l):BkAt H' r bk:=by
 obtain⟨ps,h1,h2,h3⟩:=h;exact⟨ps,s _ _ nr h1,h2,λj p b hp hb=>s _ _ (nt p _ (h3 j p b hp hb)) (h3 j p b hp hb)⟩
def TwSt.keepS{B R:Addr}{f:Nat->Option Int}(tw:TwSt H B R hs f)(k:Same H H'):TwSt H' B R hs f:=by
 obtain⟨⟨us,u1,u2⟩,ok,⟨kvs,v1,v2⟩,ps⟩:=tw;exact⟨⟨us,k _ _ u1,u2.keep k⟩,ok,⟨kvs,k _ _ v1,v2⟩,ps⟩
def no2{x y:Addr}(h1:p≠x)(h2:p≠y):p∉[x,y]:=λe=>by
 simp only[List.mem_cons,List.not_mem_nil,or_false]at e;rcases e with e|e
 ·exact h1 e
 ·exact h2 e
def cJA(ts:List V):Prop:=ts=[]\/∃(z:Str) (zs:List V),ts=.str z::zs/\things.lookup z≠some ((ts.length:Nat):Int)
structure TwAll (C:Addr) (H:Hp) (x b s0 st hg dd dx:Addr) (m:Nat) (bk:List (Str×Str)) (mss:List (List (List Nat))) (hs:List (Option (List Nat))) (f:Nat->Option Int) (dps:List Addr):Prop where
 ins:H x=some (.ins C dx (twF b m s0 st hg dd))
 tw:TwSt H hg st hs f
 len:hs.length=m
 six:m<=6
 bka:BkAt H b bk
 b60:bk.length<=60
 mns:jW bk mss
 log:H dd=some (.lst (dps.map V.ref))
 ngd:hg≠dd
 nbd:b≠dd
def TwAll.keep{C:Addr}{x:Addr}{m:Nat}{f:Nat->Option Int}(t:TwAll C H x b s0 st hg dd dx m bk mss hs f dps)(s:Same H H'):TwAll C H' x b s0 st hg dd dx m bk mss hs f dps:=⟨s _ _ t.ins,t.tw.keepS s,t.len,t.six,t.bka.keep s,t.b60,t.mns,s _ _ t.log,t.ngd,t.nbd⟩
def DeedOk(m:Nat)(f:Nat->Option Int)(mss:List (List (List Nat)))(H:Hp)(dp:Addr)(i:Nat)(v:V):Prop:=(i=0/\∃ts,H dp=some (.tup ts)/\cJA ts)\/∃d:Dd,H dp=some (.tup d.vs)/\d.zl/\d.no m f mss i/\v=d.arg
def lS(C aD aN aW aF aS aT aC aL:Addr):Sp:=λvs H Q E=>∃(x b s0 st hg dd dx dp:Addr) (m:Nat) (bk:List (Str×Str)) (mss:List (List (List Nat))) (hs:List (Option (List Nat))) (f:Nat->Option Int) (dps:List Addr),vs=[.ref x,.ref dp]/\TwAll C H x b s0 st hg dd dx m bk mss hs f dps/\dps.length<=900/\
 ((∃i v,DeedOk m f mss H dp i v/\∀(o:Option Addr) (H':Hp),Same H H'->XO v i o H'->E (.ref (xR aD aN aW aF aS aT aC i)) o H')\/
  ∃n z,H dp=some (.tup (Dd.haul n z).vs)/\z.length<=1000/\(0<=n/\n<(m:Int))/\jF z=true/\(∀(st' hg':Addr) (hs':Q3) (f':Nat->Option Int) (H2:Hp),SameE [x,dd] H H2->TwAll C H2 x b s0 st' hg' dd dx m bk mss hs' f' (dps++[dp])->Q .non H2)/\∀(dy:Addr) (H':Hp),Same H H'->E (.ref aL) (some dy) H')
def Dd.head(d:Dd):∃z zs,d.vs=.str z::zs/\things.lookup z=some (((V.str z::zs).length:Nat):Int):=by
 cases d<;>exact⟨_,_,rfl,rfl⟩
def yBF:FnScope ["self", "deed", "behind"] ["self", "deed"] (aK pC):=by walk_at "sc"
def aJ6(F:Fun K "do" "Tower.do" pC f fd)(yAH:gI P w K mg base 14 "behind_deed" ["book", "halyards", "locker", "deed"] (mD Zt Zy Zw Zu Zq Zv Zr Zo)):FnOk P w K mg base (CXr P w) 15 f fd ["self", "deed"] (lS Z0 Zt Zy Zw Zu Zq Zv Zr Zo):=by
 refine F.okX yBF (λvs H Q E h=>?_) (λcdv A outer s H vs Q E hr h=>?_)
 ·obtain⟨x,b,s0,st,hg,dd,dx,dp,m,bk,mss,hs,f,dps,rfl,_⟩:=h;rfl
 obtain⟨a,b,s0,st,hg,dd,dx,dp,m,bk,mss,hs,f,dps,rfl,tw,hdl,hq⟩:=h;refine⟨_,(@aE _ _ _ _ _ (bZ (PW.pt (oG (bC (eZR hr.units0) (mv 1) (cW aB) (bD _)) (mR (bC cXE (dJ2 rfl G.d_THINGS_IN (aA (bI bX (mv 1) aJ (λ_ _=>rfl)) aB)) (aX cQ rfl G.b_len bS (aA (mv 1) aB)) (bD _))))) (@aI _ _ _ (gU eJ rfl rfl rfl G.c_NoDeed G.x_NoDeed Cj (@aY _ _ _ _ _ _ aB))) bH) (@aE _ _ _ _ _ (aP 2 yBF.nd (cP yAH bW hr (by decide) rfl (aA (kG (mv 0) rfl) (aA (kG (mv 0) rfl) (aA (kG (mv 0) rfl) (aA (mv 1) aB)))))) (@aE _ _ _ _ _ (lX (mv 0) (bI bX (mv 2) aJ (λ_ _=>rfl)) rfl) (@aE _ _ _ _ _ (lX (mv 0) (bI bX (mv 2) aJ (λ_ _=>rfl)) rfl) (@aI _ _ _ (cH (cA Bg Eb Ec bQA (kG (mv 0) rfl) (aA (mv 1) aB)))))))),?_⟩
 have hq':(∃ts,H dp=some (.tup ts)/\cJA ts/\∀H',Same H H'->E (.ref Zt) none H')\/∃d:Dd,H dp=some (.tup d.vs)/\d.zl/\((∃i,d.no m f mss i/\∀(o:Option Addr) (H':Hp),Same H H'->XO d.arg i o H'->E (.ref (xR Zt Zy Zw Zu Zq Zv Zr i)) o H')\/∃n z,d=.haul n z/\(0<=n/\n<(m:Int))/\jF z=true/\(∀(st' hg':Addr) (hs':Q3) (f':Nat->Option Int) (H2:Hp),SameE [a,dd] H H2->TwAll Z0 H2 a b s0 st' hg' dd dx m bk mss hs' f' (dps++[dp])->Q .non H2)/\∀(dy:Addr) (H':Hp),Same H H'->E (.ref Zo) (some dy) H'):=by
  rcases hq with⟨i,v,⟨rfl,ts,t1,t2⟩|⟨d,t1,t2,t3,rfl⟩,qe⟩|⟨n,z,t1,t2,t3⟩
  ·exact .inl ⟨ts,t1,t2,λH' s'=>qe none H' s' (.inr (.inr (.inr ⟨by decide,by decide,by decide,rfl⟩)))⟩
  ·exact .inr ⟨d,t1,t2,.inl ⟨i,t3,qe⟩⟩
  ·exact .inr ⟨_,t1,t2,.inr ⟨n,z,rfl,t3⟩⟩
 clear hq;rcases hq' with⟨ts,hdp,hbad,qe⟩|⟨d,hdp,hzl,hq⟩
 ·have tdp:=cN hdp
  walk_at "g";refine⟨by decide,λp0 hp0=>?_⟩
  have k1:=aG hp0 (.tup [])
  refine cJ8 (k1 _ _ hdp) aH ?_;have dp1:=k1 _ _ hdp
  generalize upd H p0 (.tup [])=H1 at k1 dp1 ⊢;rcases hbad with rfl|⟨z,zs,rfl,hz⟩
  ·rw[show ([]:List V).isEmpty=true from rfl];walk_at "g";exact⟨by show 1<=sizeLine;decide,qe _ k1⟩
  have tdp1:=cN dp1
  rw[show (V.str z::zs).isEmpty=false from rfl];walk_at "g";refine cK dp1 (v:=.str z) (bB (j:=0) rfl) ?_;walk_at "g";refine⟨z,rfl,?_⟩;rw[show List.lookup z [("haul",3),("lower",2),("lose",2),("find",2),("say",2)]=things.lookup z from rfl];generalize things.lookup z=o at hz ⊢;cases o with
  |none=>
   walk_at "g";refine uY dp1 ?_;walk_at "g";refine⟨rfl,?_⟩;rw[As (λe=>nomatch e)]
   walk_at "g";exact⟨by show 1<=sizeLine;decide,qe _ k1⟩
  |some n=>
   walk_at "g";refine uY dp1 ?_;walk_at "g";rw[As (λe=>hz (by rw[e]))]
   walk_at "g";exact⟨by show 1<=sizeLine;decide,qe _ k1⟩
 obtain⟨z,zs,ed,hz⟩:=d.head;have hdp0:=hdp
 rw[ed]at hdp;have tdp:=cN hdp
 walk_at "g";refine⟨by decide,λp0 hp0=>?_⟩
 have k1:=aG hp0 (.tup [])
 refine cJ8 (k1 _ _ hdp) aH ?_;have tw1:=tw.keep k1
 have dp1:=k1 _ _ hdp
 have dp10:=k1 _ _ hdp0
 generalize upd H p0 (.tup [])=H1 at k1 tw1 dp1 dp10 ⊢;have a1:=tw1.ins
 have tdp1:=cN dp1
 walk_at "g";rw[show (V.str z::zs).isEmpty=false from rfl];walk_at "g";refine cK dp1 (v:=.str z) (bB (j:=0) rfl) ?_;walk_at "g";refine⟨z,rfl,?_⟩;rw[show List.lookup z [("haul",3),("lower",2),("lose",2),("find",2),("say",2)]=some (((V.str z::zs).length:Nat):Int) from hz];walk_at "g";refine uY dp1 ?_;walk_at "g";rw[show (!decide ((((V.str z::zs).length:Nat):Int)=(((V.str z::zs).length:Nat):Int)))=false by rw[Ap rfl];rfl]
 walk_at "g";refine⟨a,Z0,dx,_,_,rfl,a1,G.cl_Tower,G.na_Tower_book,bJW,?_⟩;walk_at "g";refine⟨a,Z0,dx,_,_,rfl,a1,G.cl_Tower,G.na_Tower_hung,aX5,?_⟩;walk_at "g";refine⟨a,Z0,dx,_,_,rfl,a1,G.cl_Tower,G.na_Tower_stock,aZI,?_⟩;walk_at "g";have hlm:=tw.len
 subst hlm;refine⟨b,hg,st,dp,bk,mss,hs,f,d,rfl,tw1.tw,tw.six,tw1.bka,tw.b60,tw.mns,dp10,hzl,?_⟩;rcases hq with⟨i,hno,qe⟩|⟨n,y,e,hn,hc,q,qe⟩
 ·exact .inl ⟨i,hno,λo H' s' x'=>qe o H' (k1.trans s') x'⟩
 refine .inr ⟨n,y,e,hn,hc,λt hg' st' hs' f' H2 s2 ep hB hl' tw2=>?_,λdy H' s'=>qe dy H' (k1.trans s')⟩;have ea:=s2 _ _ a1
 have edd:=s2 _ _ tw1.log
 have bk2:=tw1.bka.keep s2
 have nBd:hg'≠dd:=λz=>by rw[z,tw1.log]at hB;cases hB
 have nd:dd≠a:=λz=>by rw[z,ea]at edd;cases edd
 have np:t≠a:=λz=>by rw[z,ea]at ep;cases ep
 have up:∀o u,upd (upd H2 a o) a u=upd H2 a u:=λo u=>bZ5
 have tp2:=cN ep
 walk_at "g";refine cK ep (v:=.ref hg') (bB (j:=0) rfl) ?_;walk_at "g";refine⟨a,Z0,dx,_,rfl,ea,G.cl_Tower,G.na_Tower_hung,by show 6<1000;decide,?_⟩
 rw[aJJ];have a3:(upd H2 a (.ins Z0 dx (twF b hs.length s0 st hg' dd))) a=some (.ins Z0 dx (twF b hs.length s0 st hg' dd)):=aH
 have p3:(upd H2 a (.ins Z0 dx (twF b hs.length s0 st hg' dd))) t=some (.tup [.ref hg',.ref st']):=by rw[aM np];exact ep
 walk_at "g";refine cK p3 (v:=.ref st') (bB (j:=1) rfl) ?_;walk_at "g";refine⟨a,Z0,dx,_,rfl,a3,G.cl_Tower,G.na_Tower_stock,by show 6<1000;decide,?_⟩
 rw[aQ5,up];have a4:(upd H2 a (.ins Z0 dx (twF b hs.length s0 st' hg' dd))) a=some (.ins Z0 dx (twF b hs.length s0 st' hg' dd)):=aH
 have dd4:(upd H2 a (.ins Z0 dx (twF b hs.length s0 st' hg' dd))) dd=some (.lst (dps.map V.ref)):=by rw[aM nd];exact edd
 have md4:=bQ dd4
 have hdl2:(dps.map V.ref).length<=1000:=by rw[Ab];omega
 walk_at "g";refine⟨a,Z0,dx,_,_,rfl,a4,G.cl_Tower,G.na_Tower_deeds,aZL,?_⟩;walk_at "g";have sE:SameE [a,dd] H2 (upd (upd H2 a (.ins Z0 dx (twF b hs.length s0 st' hg' dd))) dd (.lst (dps.map V.ref++[.ref dp]))):=λc o nb e=>by
  rw[aM (λz=>nb (by rw[z];exact Ak _ (Aj ..))),aM (λz=>nb (by rw[z];exact Aj ..))]
  exact e
 obtain⟨us,u1,u2⟩:=id tw2.hal;obtain⟨qs,c1,_,_⟩:=id bk2;have nT:∀p xs,H2 p=some (.tup xs)->p∉[a,dd]:=λp xs e=>no2 (λz=>by rw[z,ea]at e;cases e) (λz=>by rw[z,edd]at e;cases e)
 refine q st' hg' hs' f' _ ((SameE.of (k1.trans s2)).trans sE) ⟨by rw[aM (Ne.symm nd)];exact aH,tw2.keepE sE (no2 (λz=>by rw[z,ea]at u1;cases u1) nBd) (λkvs e=>no2 (λz=>by rw[z,ea]at e;cases e) (λz=>by rw[z,edd]at e;cases e)) (λp c cs e=>no2 (λz=>by rw[z,ea]at e;cases e) (λz=>?_)),hl',tw.six,bk2.keepE sE (no2 (λz=>by rw[z,ea]at c1;cases c1) tw.nbd) nT,tw.b60,tw.mns,by rw[aH,Am];rfl,nBd,tw.nbd⟩
 rw[z,edd]at e;have e':dps.map V.ref=V.str (one c)::cs:=by injection Bo e
 cases dps with
 |nil=>cases e'
 |cons d ds=>injection e' with e1 _;cases e1
def iQ(cws:List (List Nat)):List Str:=cws.map λcw=>aU (cw++[ckL cw])
def aZM:Option (List Nat)->V
 |none=>.non
 |some cs=>.str (oE (cs.map one))
def rdN(cws:List (List Nat)):Option (List Nat)->V
 |none=>.non
 |some cs=>match (iQ cws).findIdx? (λy=>y==oE (cs.map one)) with|some j=>.int (j:Int)|none=>.non
def cJ6(y:Str)(zs:List Str):inV (.str y) (zs.map V.str)=decide (y∈zs):=by
 unfold inV;rw[List.any_map,Gg,Hk,Ck];constructor
 ·rintro⟨z,hz,e⟩;have e':(z==y)=true:=e
  rw[<-Ht e'];exact hz
 ·intro h;exact⟨y,h,show (y==y)=true from Em _⟩
def eZW(zs:List Str):inV .non (zs.map V.str)=false:=by
 unfold inV;rw[List.any_map,List.any_eq_false];intro z _ h;cases h
def oH(C:Addr):Sp:=λvs H Q _=>∃(a b s0 st hg dd dx:Addr) (m:Int) (us:List V) (hs:List (Option (List Nat))) (bk:List (Str×Str)) (cws:List (List Nat)),vs=[.ref a]/\H a=some (.ins C dx (twF b m s0 st hg dd))/\rdL H hg=some us/\HalsAt H us hs/\us.length<=1000/\hU hs/\BkAt H b bk/\bk.length<=60/\wN bk cws/\
 ∀(r:Addr) (H':Hp),H r=none->Same H H'->H' r=some (.lst (hs.map (rdN cws)))->Q (.ref r) H'
def yAI:FnScope ["self", "spoken", "words"] ["self"] (aK gK):=by walk_at "sc"
def yR(F:Fun K "read" "Tower.read" gK f fd)(t9:Cal P w K mg base 5 "with_check" ["word"] jJ)(u0:gI P w K mg base 4 "read_of" ["flags"] (oK Zx)):FnOk P w K mg base CX0 6 f fd ["self"] (oH Z0):=by
 refine F.ok yAI (λvs H Q E h=>?_) (λcdv A outer s H vs Q E hr h=>?_)
 ·obtain⟨a,b,s0,st,hg,dd,dx,m,us,hs,bk,cws,rfl,_⟩:=h;rfl
 obtain⟨a,b,s0,st,hg,dd,dx,m,us,hs,bk,cws,rfl,ha,hhg,hat,hul,hok,hbk,h60,hcw,q⟩:=h;refine⟨_,(@aE _ _ _ _ _ (aP 1 yAI.nd (cJ rfl (cG (kG (mv 0) rfl)) (iC (N:=["word", "meaning"]) (by decide +kernel) (by decide +kernel)) (by decide +kernel) rfl (by decide +kernel) (λ_ _ _ _=>(dN (K:=K) (i:=0) (j:=1) (by rfl) (by rfl) (show List.Nodup (["word", "meaning"]:List Str) by decide +kernel) (by rfl) (by exact Or.inl rfl) (by exact Or.inr rfl) (by rfl) (by exact Or.inl rfl) (by exact Or.inr rfl))) (λ_ _ _ _=>cZ) (λ_ _ _ _=>(aZ t9 hr (by decide) rfl (aA (mv 0) aB))))) (@aE _ _ _ _ _ (fR (i:=2) yAI.nd rfl (Or.inl rfl) rfl (cG (kG (mv 0) rfl)) (iC (N:=["hoist"]) (by decide +kernel) (by decide +kernel)) (by decide +kernel) rfl (by decide +kernel) (λ_ _ _ _=>(bF (i:=0) (show List.Nodup (["hoist"]:List Str) by decide +kernel) rfl (Or.inl rfl))) (λ_ _ _ _=>cZ) (λ_ _ _ _=>(pU (bC aJK (mv 0) dG (bD _)) dG (cP u0 zZ hr (by decide) rfl (aA (mv 0) aB))))) (@aI _ _ _ (aV (cJ rfl (cG (mv 2)) (fH (N:=["word", "spoken"]) ["self", "spoken", "words"] (aK gK) [none,some 1] rfl rfl rfl (λx h=>cE h) (by decide +kernel)) (by decide +kernel) rfl (by decide +kernel) (λ_ _ _ _=>(bF (i:=0) (show List.Nodup (["word", "spoken"]:List Str) by decide +kernel) rfl (Or.inl rfl))) (λ_ _ _ _=>cZ) (λ_ _ _ _=>(pU (bC eXL (mv 0) (mv 1) (by rfl)) (cA Bg Dt Gr dXX (mv 1) (aA (mv 0) aB)) dG))))))),?_⟩
 obtain⟨qs,b1,b2,b3⟩:=id hbk;have rq:=aR b1
 have hql:(qs.map V.ref).length=bk.length:=by rw[Ab,b2]
 walk_at "g";refine⟨a,Z0,dx,_,_,rfl,ha,G.cl_Tower,G.na_Tower_book,bJW,?_⟩;walk_at "g";refine iA (xs:=qs.map V.ref) (λj=>(cws[j]?).map λcw=>V.str (aU (cw++[ckL cw]))) rq (by rw[hql];exact bL (by omega)) (λj x Hc A B hx sm hA hB=>?_) (λD Hd hD sD hd=>?_)
 ·rw[Ag]at hx;obtain⟨p,ep,rfl⟩:=Bz.mp hx;have hjb:j<bk.length:=by rw[<-b2];exact(Ac.mp ep).1
  have ec:cws[j]?=some (cws[j]'(by rw[hcw.1];exact hjb)):=Aa _
  obtain⟨hw,hc1,hc6,hcL⟩:=hcw.2 j _ _ (Aa hjb) ec;have tp:=sm _ _ (b3 j p _ ep (Aa hjb))
  rw[hw]at tp;have tpl:=cN tp
  walk_at "g";refine⟨Wk.set rfl (Wk.set rfl (Wk.refl _)),?_⟩;walk_at "g";exact⟨_,rfl,hc1,hc6,hcL,λH' s' _ _=>hA _ (by rw[ec];rfl) H' s'⟩
 ·rw[hql,<-hcw.1,eT (λcw=>V.str (aU (cw++[ckL cw])))]at hd;have hspk:Hd D=some (.lst ((iQ cws).map V.str)):=by rw[hd];unfold iQ;rw[Ca];rfl
  have haD:=sD _ _ ha
  have hhD:=aO sD hhg
  have hatD:=hat.keep sD
  walk_at "g";refine⟨a,Z0,dx,_,_,rfl,haD,G.cl_Tower,G.na_Tower_hung,aX5,?_⟩;walk_at "g";refine iA (xs:=us) (λj=>(hs[j]?).map aZM) hhD (bL (by omega)) (λj x Hc A B hx sm hA hB=>?_) (λD2 Hd2 hD2 sD2 hd2=>?_)
  ·have hjl:j<hs.length:=by rw[<-hat.len];exact(Ac.mp hx).1
   obtain⟨o,eh⟩:∃o,hs[j]?=some o:=⟨_,Aa hjl⟩;have hv:=(hatD.keep sm).val j x _ hx eh
   cases o with
   |none=>
    obtain rfl:x=V.non:=hv;walk_at "g";refine⟨Wk.set rfl (Wk.refl _),?_⟩;walk_at "g";rw[show decide (V.non=V.non)=true from rfl];walk_at "g";exact hA _ (by rw[eh];rfl) _ (Same.refl _)
   |some cs=>
    obtain⟨pc,rfl,hpc⟩:=hv;have hB':=hok cs (Ao eh)
    have h7:=fJ hB'
    walk_at "g";refine⟨Wk.set rfl (Wk.refl _),?_⟩;walk_at "g";rw[show decide (V.ref pc=V.non)=false from As (λz=>nomatch z)]
    walk_at "g";exact⟨pc,cs.map one,rfl,aR hpc,by omega,λz hz=>by obtain⟨c,_,rfl⟩:=Bd.mp hz;show 1<=1000;decide,λ_ H' s'=>hA _ (by rw[eh];rfl) H' s',λz=>by rw[hB']at z;cases z⟩
  ·rw[hat.len,eT aZM]at hd2;have r2:=aR hd2
   have rs2:=aR (sD2 _ _ hspk)
   have hll:(hs.map aZM).length<=1000:=by rw[Ab,<-hat.len];exact hul
   walk_at "g";refine iA (xs:=hs.map aZM) (λj=>(hs[j]?).map (rdN cws)) r2 (bL (by omega)) (λj x Hc A B hx sm hA hB=>?_) (λD3 Hd3 hD3 sD3 hd3=>?_)
   ·rw[Ag]at hx;obtain⟨o,eo,rfl⟩:=Bz.mp hx;have rsc:=aO sm rs2
    have r:=hA (rdN cws o) (by rw[eo];rfl)
    cases o with
    |none=>
     walk_at "g";refine⟨Wk.set rfl (Wk.refl _),?_⟩;walk_at "g";refine bQD (neg:=false) rsc rfl (cY _) ?_;rw[if_neg An,show aZM none=V.non from rfl,eZW];walk_at "g";exact r _ (Same.refl _)
    |some cs=>
     have r':∀Hd,Same Hc Hd->A (match (iQ cws).findIdx? (λy=>y==oE (cs.map one)) with|some j=>V.int (j:Int)|none=>.non) Hd:=r
     change gH 0 (V.str (oE (cs.map one))) _ _ _
     generalize oE (cs.map one)=z at r' ⊢;walk_at "g";refine⟨Wk.set rfl (Wk.refl _),?_⟩;walk_at "g";refine bQD (neg:=false) rsc rfl (cY _) ?_;rw[if_neg An,cJ6];cases e:(iQ cws).findIdx? (λy=>y==z) with
     |none=>
      rw[e]at r';rw[decide_eq_false λhm=>by have:=List.findIdx?_eq_none_iff.mp e z hm;simp at this]
      walk_at "g";exact r' _ (Same.refl _)
     |some k=>
      rw[e]at r';obtain⟨k1,k2,k3⟩:=List.findIdx?_eq_some_iff_getElem.mp e;have ez:(iQ cws)[k]=z:=Ht k2
      rw[Ap (by rw[<-ez];exact Bk _)]
      walk_at "g";refine cZF rsc (by rw[Aa k1,ez]) (λi y hi hy e2=>?_) (r' _ (Same.refl _))
      obtain⟨i1,i2⟩:=Ac.mp hy;have:=k3 i hi
      rw[i2,e2]at this;simp at this
   ·rw[Ab,eT (rdN cws)]at hd3;exact q D3 Hd3 (none_of (sD.trans sD2) hD3) (sD.trans (sD2.trans sD3)) hd3
def lD(C:Addr):Sp:=λvs H Q _=>∃(a b s0 st hg dd dx:Addr) (m:Int) (kvs:List (Key×V)) (f:Nat->Option Int),vs=[.ref a]/\H a=some (.ins C dx (twF b m s0 st hg dd))/\Rd H st (.dK kvs)/\Lk kvs f/\∀(r:Addr) (H':Hp),H r=none->Same H H'->H' r=some (.dK (kvL (bE f) (bT (bE f) 27)))->Q (.ref r) H'
def uB:FnScope ["self"] ["self"] (aK hX):=by walk_at "sc"
def uA(F:Fun K "locker" "Tower.locker" hX f fd)(y4:Cal P w K mg base 1 "plain_locker" ["locker"] dC):FnOk P w K mg base CX0 2 f fd ["self"] (lD Z0):=by
 refine F.ok uB (λvs H Q E h=>?_) (λcdv A outer s H vs Q E hr h=>?_)
 ·obtain⟨a,b,s0,st,hg,dd,dx,m,kvs,f,rfl,_⟩:=h;rfl
 obtain⟨a,b,s0,st,hg,dd,dx,m,kvs,f,rfl,ha,hst,hk,q⟩:=h;refine⟨_,(@aI _ _ _ (aV (aZ y4 hr (by decide) rfl (aA (kG (mv 0) rfl) aB)))),?_⟩
 walk_at "g";refine⟨a,Z0,dx,_,_,rfl,ha,G.cl_Tower,G.na_Tower_stock,aZI,?_⟩;walk_at "g";exact⟨st,kvs,f,rfl,hst,hk,λr H' hr s' e=>q r H' hr s' e⟩
def iH(C:Addr):Sp:=λvs H Q _=>∃(a b s0 st hg dd dx:Addr) (m:Int) (us:List V) (hs:List (Option (List Nat))),vs=[.ref a]/\H a=some (.ins C dx (twF b m s0 st hg dd))/\rdL H hg=some us/\HalsAt H us hs/\us.length<=1000/\
 ∀(r:Addr) (us':List V) (H':Hp),H r=none->Same H H'->H' r=some (.lst us')->HalsAt H' us' hs->(∀p,V.ref p∈us'->H p=none)->Q (.ref r) H'
def qR:FnScope ["self"] ["self"] (aK fI):=by walk_at "sc"
def qX(F:Fun K "halyards" "Tower.halyards" fI f fd):FnOk P w K mg base CX0 1 f fd ["self"] (iH Z0):=by
 refine F.ok qR (λvs H Q E h=>?_) (λcdv A outer s H vs Q E hr h=>?_)
 ·obtain⟨a,b,s0,st,hg,dd,dx,m,us,hs,rfl,_⟩:=h;rfl
 obtain⟨a,b,s0,st,hg,dd,dx,m,us,hs,rfl,ha,hhg,hat,hul,q⟩:=h;refine⟨_,(@aI _ _ _ (aV (cJ rfl (cG (kG (mv 0) rfl)) (iC (N:=["hoist"]) (by decide +kernel) (by decide +kernel)) (by decide +kernel) rfl (by decide +kernel) (λ_ _ _ _=>(bF (i:=0) (show List.Nodup (["hoist"]:List Str) by decide +kernel) rfl (Or.inl rfl))) (λ_ _ _ _=>cZ) (λ_ _ _ _=>(pU (bC aJK (mv 0) dG (bD _)) dG (cF iY rfl G.b_list fD (aA (mv 0) aB))))))),?_⟩
 walk_at "g";refine⟨a,Z0,dx,_,_,rfl,ha,G.cl_Tower,G.na_Tower_hung,aX5,?_⟩;walk_at "g";refine bZQ (hs:=hs) hhg (bL (by omega)) hat.len (λi x h Hc A B hx hh sm hA=>?_) (λD Hd vs hD sD hd hatD hfr=>?_)
 ·have hv:=(hat.keep sm).val i x h hx hh
  cases h with
  |none=>
   obtain rfl:x=V.non:=hv;walk_at "g";refine⟨Wk.set rfl (Wk.refl _),?_⟩;walk_at "g";rw[show decide (V.non=V.non)=true from rfl];walk_at "g";exact hA .non _ (Same.refl _) rfl λp z=>nomatch z
  |some cs=>
   obtain⟨pc,rfl,hpc⟩:=hv;have rc:=aR hpc
   walk_at "g";refine⟨Wk.set rfl (Wk.refl _),?_⟩;walk_at "g";rw[show decide (V.ref pc=V.non)=false from As (λz=>nomatch z)]
   walk_at "g";intro l2 hl2;exact hA (.ref l2) _ (aG hl2 _) ⟨l2,rfl,aH⟩ λp z=>by cases z;exact hl2
 ·exact q D vs Hd hD sD hd hatD hfr
def pV(C:Addr):Sp:=λvs H Q _=>∃(a b s0 st hg dd dx:Addr) (m:Int) (xs:List V),vs=[.ref a]/\H a=some (.ins C dx (twF b m s0 st hg dd))/\H dd=some (.lst xs)/\∀(r:Addr) (H':Hp),H r=none->Same H H'->H' r=some (.lst xs)->Q (.ref r) H'
def aXE:FnScope ["self"] ["self"] (aK mP):=by walk_at "sc"
def aQU(F:Fun K "log" "Tower.log" mP f fd):FnOk P w K mg base CX0 1 f fd ["self"] (pV Z0):=by
 refine F.ok aXE (λvs H Q E h=>?_) (λcdv A outer s H vs Q E hr h=>?_)
 ·obtain⟨a,b,s0,st,hg,dd,dx,m,xs,rfl,_⟩:=h;rfl
 obtain⟨a,b,s0,st,hg,dd,dx,m,xs,rfl,ha,hdd,q⟩:=h;refine⟨_,(@aI _ _ _ (aV (cF iY rfl G.b_list fD (aA (kG (mv 0) rfl) aB)))),?_⟩;have rd:=aR hdd
 walk_at "g";refine⟨a,Z0,dx,_,_,rfl,ha,G.cl_Tower,G.na_Tower_deeds,aZL,?_⟩;walk_at "g";intro r hr;exact q r _ hr (aG hr _) aH
def kJ:Sp:=λvs H Q _=>∃c k:Int,vs=[.int c,.int k]/\0<=k/\k<=1000/\∀n:Int,0<=n->Q (.int n) H
def aQG:Sp:=λvs H Q _=>∃n m:Int,vs=[.int n,.int m]/\0<=n/\1<=m/\m<=7/\∀(cw:List Nat) (H':Hp),Same H H'->1<=cw.length->(cw.length:Int)<=m->(∀d∈cw,bA d)->Q (.str (aU cw)) H'
def bXN:FnScope ["_law_cell", "_law_k"] ["_law_cell", "_law_k"] (aK rQ):=by walk_at "sc"
def bX2(F:Fun K "_law_mixed" "_law_mixed" rQ f fd)(G:Gs K mg w Zo Zz Zq Zx Z0 Zt Zy Zw Zu Zv Zr Zs Zp):FnOk P w K mg base CX0 1 f fd ["_law_cell", "_law_k"] kJ:=by
 refine F.ok bXN (λvs H Q E h=>?_) (λcdv A outer s H vs Q E hr h=>?_)
 ·obtain⟨c,k,rfl,_⟩:=h;rfl
 obtain⟨c,k,rfl,h0,h1,q⟩:=h;refine⟨_,(@aI _ _ _ (aV (aQ cV (aQ nV (aQ bN (aQ bN (aQ bN (aQ cV (mv 0) aJ) (aQ nV (aQ nV aJ (mv 1)) (mv 1))) (mv 1)) aJ) aJ) aJ))),?_⟩;walk_at "g";exact q _ (Bx _ (by decide))
def wE:FnScope ["_law_number", "_law_most", "_law_letters", "_law_kinds", "_law_base", "_law_word_here", "_law_k"] ["_law_number", "_law_most"] (aK xI):=by walk_at "sc"
def cQ3(F:Fun K "_law_word" "_law_word" xI f fd):FnOk P w K mg base CX0 1 f fd ["_law_number", "_law_most"] aQG:=by
 refine F.ok wE (λvs H Q E h=>?_) (λcdv A outer s H vs Q E hr h=>?_)
 ·obtain⟨n,m,rfl,_⟩:=h;rfl
 obtain⟨n,m,rfl,h0,hm1,hm7,q⟩:=h;refine⟨_,(@aE _ _ _ _ _ (aP 2 wE.nd cS) (@aE _ _ _ _ _ (aP 3 wE.nd (@bI _ _ _ _ _ _ _ bX (@bJ _ _ _ _ (aA aJ (aA aJ (aA aJ (aA aJ aB))))) (aQ cV (mv 0) aJ) (λ_ _=>rfl))) (@aE _ _ _ _ _ (aP 4 wE.nd (aQ cV (aQ fF (mv 0) aJ) aJ)) (@aE _ _ _ _ _ (aP 5 wE.nd cS) (@aE _ _ _ _ _ (dA Bq rfl (nJ rfl G.b_range (aA (aQ bN aJ (aQ cV (aQ fF (mv 0) aJ) (mv 1))) aB)) (bF (i:=6) wE.nd rfl (Or.inl rfl)) (@aE _ _ _ _ _ (aP 0 wE.nd (aQ cV (aQ nV (aQ bN (aQ bN (mv 0) (mv 6)) aJ) aJ) aJ)) (@aI _ _ _ (aP 5 wE.nd (aQ bN (mv 5) (bI bX (mv 2) (aQ cV (aQ bN (mv 4) (aQ nV (aQ cV (aQ fF (mv 0) aJ) (mv 3)) aJ)) aJ) (λ_ _=>rfl))))))) (@aI _ _ _ (aV (mv 5)))))))),?_⟩;walk_at "g";refine⟨by decide,λp hp=>?_⟩
 walk_at "g";obtain⟨kn,hkn,akn⟩:=aQ7 (ns:=[1,2,3,23]) (i:=n%4) (by omega) (by show n%4<4;omega)
 have hk:1<=kn:=(by decide:∀x∈([1,2,3,23]:List Int),1<=x) kn hkn
 have hk2:kn<=23:=(by decide:∀x∈([1,2,3,23]:List Int),x<=23) kn hkn
 refine cU (xs:=([1,2,3,23]:List Int).map V.int) bP akn ?_;have z0:=Bx (n / 92) (show m≠0 by omega)
 have z1:=Cb (n / 92) (show 0<m by omega)
 walk_at "g";generalize n / 92%m=l at z0 z1 ⊢;refine⟨⟨by omega,by omega⟩,?_⟩
 have s1:Same H (upd H p (.lst [V.int 1,V.int 2,V.int 3,V.int 23])):=aG hp _
 generalize upd H p (.lst [V.int 1,V.int 2,V.int 3,V.int 23])=H1 at s1 ⊢;refine xL (λi σ H'=>∃(x:Int) (cw:List Nat) (v:Option V),σ=[some (.int x),some (.int m),some (.str (Str.ofString "abcdefghijklmnopqrstuvw")),some (.int kn),some (.int (n / 4%23)),some (.str (aU cw)),v]/\0<=x/\cw.length=i/\(∀d∈cw,bA d)/\H'=H1)
  ⟨n,[],none,rfl,h0,rfl,(λd hd=>nomatch hd),rfl⟩ ?_ ?_
 ·rintro i σ H' hi ⟨x,cw,v,rfl,hx0,hn,hL,rfl⟩;have hwl:(aU cw).length=cw.length:=cC cw
  walk_at "g";generalize (x+(0+(i:Int))+1)*69621%2147483647 / 7%kn*5=y;have y0:=Bx (n / 4%23+y) (show (23:Int)≠0 by decide)
  have y1:=Cb (n / 4%23+y) (show (0:Int)<23 by decide)
  have e1:=bJV (k:=((n / 4%23+y)%23).toNat) (by omega)
  rw[show ((((n / 4%23+y)%23).toNat:Nat):Int)=(n / 4%23+y)%23 by omega]at e1
  refine xE (by decide) e1 ?_
  have h1l:(⟨#[97+((n / 4%23+y)%23).toNat]⟩:Str).length=1:=rfl
  walk_at "g";refine⟨(x+(0+(i:Int))+1)*69621%2147483647,cw++[97+((n / 4%23+y)%23).toNat],some (.int (0+(i:Int))),?_,Bx _ (show (2147483647:Int)≠0 by decide),by rw[Af,hn];rfl,λd hd=>?_,rfl⟩
  ·rw[<-gR];rfl
  ·rcases Bp.mp hd with z|z
   ·exact hL d z
   ·rw[Al.mp z];exact⟨by omega,by omega⟩
 ·rintro σ H' ⟨x,cw,v,rfl,hx0,hn,hL,rfl⟩;walk_at "g";exact q cw _ s1 (by omega) (by omega) hL
def rA(K:W.Frag):Sp:=λvs H Q _=>∃(a:Addr) (ns:List Int) (k:Int),vs=[.ref a,.int k]/\SqL K H a (ns.map V.int)/\0<=k/\∀n:Int,Q (.int n) H
def aQ2:FnScope ["_law_script", "_law_k"] ["_law_script", "_law_k"] (aK mO):=by walk_at "sc"
def aXG(F:Fun K "_law_cell_at" "_law_cell_at" mO f fd):FnOk P w K mg base CX0 1 f fd ["_law_script", "_law_k"] (rA K):=by
 refine F.ok aQ2 (λvs H Q E h=>?_) (λcdv A outer s H vs Q E hr h=>?_)
 ·obtain⟨a,ns,k,rfl,_⟩:=h;rfl
 obtain⟨a,ns,k,rfl,hS,hk,q⟩:=h;refine⟨_,(@aE _ _ _ _ _ (bZ (bC aXP (mv 1) (aX aXL rfl G.b_len bS (aA (mv 0) aB)) (bD _)) (@aI _ _ _ (aV (bI ix_list (mv 0) (mv 1) (λ_ _=>rfl)))) bH) (@aI _ _ _ (aV aJ))),?_⟩;walk_at "g";refine⟨_,_,rfl,.inl hS,?_⟩;have hnl:(ns.map V.int).length=ns.length:=Ab ..
 rw[hnl];walk_at "g";refine dZ (λhd=>?_) (λhd=>?_)
 ·have hd':=Az hd
  obtain⟨n,_,an⟩:=aQ7 (ns:=ns) (i:=k) hk hd';walk_at "g";exact fXU hS an (q n)
 ·walk_at "g";exact q 0
def gM:Sp:=λvs H Q _=>∃(cs:List Nat),vs=[.str (aU cs)]/\1<=cs.length/\cs.length<=6/\(∀d∈cs,bA d)/\∀H',Same H H'->bA (ckL cs)->gL (cs++[ckL cs])=true->Q (.str (aU (cs++[ckL cs]))) H'
def cQB:jX (cs++[d]) (cs++[d]).length=jX cs cs.length+((1+cs.length:Nat):Int)*((d-97:Nat):Int):=by
 rw[Af,show [d].length=1 from rfl,jO,pI (ds:=cs) (λi hi=>by rw[Ad,Ar hi,<-Ad])]
 rw[show (cs++[d]).getD cs.length 0=d by rw[Ad,Av (Ai _),Ek];rfl]
def eJQ:Bool:=(List.range 23).all λi=>Txt.find lettersT ⟨#[97+i]⟩ == (i:Int)
def dQT:eJQ=true:=by decide +kernel
def xH(h:bA d):Txt.find lettersT (one d)=((d-97:Nat):Int):=by
 unfold bA at h;have a:=Bv.mp dQT (d-97) (By.mpr (by omega))
 rw[show 97+(d-97)=d by omega]at a
 exact Ht a
def fXH:Bool:=(List.range 23).all λi=>(Str.ofString "abcdefghijklmnopqrstuvw").cps.toList[i]? == some (97+i)
def cZ0:fXH=true:=by decide +kernel
def bX5{c:Nat}(h:i<23)(e:(Str.ofString "abcdefghijklmnopqrstuvw").cps.toList[i]?=some c):c=97+i:=by
 have a:=Ht (Bv.mp cZ0 i (By.mpr h))
 rw[e]at a;exact Bo a
def n8:FnScope ["_law_word_here", "_law_letters", "_law_total", "_law_letter"] ["_law_word_here"] (aK iR):=by walk_at "sc"
def aX1(F:Fun K "_law_checked" "_law_checked" iR f fd):FnOk P w K mg base CX0 1 f fd ["_law_word_here"] gM:=by
 refine F.ok n8 (λvs H Q E h=>?_) (λcdv A outer s H vs Q E hr h=>?_)
 ·obtain⟨cs,rfl,_⟩:=h;rfl
 obtain⟨cs,rfl,h1,h6,hL,q⟩:=h;refine⟨_,(@aE _ _ _ _ _ (aP 1 n8.nd cS) (@aE _ _ _ _ _ (aP 2 n8.nd (aX (cJ4 rfl) rfl G.b_sum bXS (aA (cJ rfl (nJ rfl G.b_range (aA (aX cQ rfl G.b_len bS (aA (mv 0) aB)) aB)) (fH (N:=["_law_k", "_law_letters", "_law_word_here"]) ["_law_word_here", "_law_letters", "_law_total", "_law_letter"] (aK iR) [none,some 1,some 0] rfl rfl rfl (λx h=>cE h) (by decide +kernel)) (by decide +kernel) rfl (by decide +kernel) (λ_ _ _ _=>(bF (i:=0) (show List.Nodup (["_law_k", "_law_letters", "_law_word_here"]:List Str) by decide +kernel) rfl (Or.inl rfl))) (λ_ _ _ _=>cZ) (λ_ _ _ _=>(aQ nV (aQ bN (mv 0) aJ) (cA Cm PySem.F.slot_str_find PySem.F.type_str_find bXT (mv 1) (aA (bI bX (mv 2) (mv 0) (λ_ _=>rfl)) aB))))) aB))) (@aE _ _ _ _ _ (dA Bq rfl (kT (mv 1)) (bF (i:=3) n8.nd rfl (Or.inl rfl)) (@aI _ _ _ (bZ (bC iE (aQ cV (aQ bN (mv 2) (aQ nV (aQ bN (aX cQ rfl G.b_len bS (aA (mv 0) aB)) aJ) (cA Cm PySem.F.slot_str_find PySem.F.type_str_find bXT (mv 1) (aA (mv 3) aB)))) aJ) aJ (bD _)) (@aI _ _ _ (aV (aQ bN (mv 0) (mv 3)))) bH))) (@aI _ _ _ (aV (mv 0)))))),?_⟩
 have hwl:(aU cs).length=cs.length:=cC cs
 walk_at "g";rw[hwl];refine⟨⟨by omega,by omega⟩,?_⟩
 rw[show ((cs.length:Int)).toNat=cs.length from rfl];refine cXN (λi=>some (V.int (wgt cs i))) (bL (by omega)) (λi Hc A B hi sm hA=>?_) (λD Hd hD sD hd=>?_)
 ·have hg:=mL hL hi
  have r:A (V.int (wgt cs i)) Hc:=hA _ (Same.refl _)
  walk_at "g";refine⟨Wk.set rfl (Wk.refl _),?_⟩;walk_at "g";refine xE (by rw[hwl];exact bO (by omega)) (aQ0 (k:=i) (by omega) hi) ?_
  walk_at "g";refine bXU ?_;rw[show (⟨#[cs.getD i 0]⟩:Str)=one (cs.getD i 0) from rfl];rw[show Txt.find (Str.ofString "abcdefghijklmnopqrstuvw") (one (cs.getD i 0))=((cs.getD i 0-97:Nat):Int) from xH hg];walk_at "g";rw[show (0+(i:Int)+1)*((cs.getD i 0-97:Nat):Int)=wgt cs i by unfold wgt;rw[show ((1+i:Nat):Int)=0+(i:Int)+1 by omega]]
  exact r
 ·have hd':Hd D=some (.lst (((List.range cs.length).map (wgt cs)).map V.int)):=by
   rw[hd,Ca];congr 2
   exact List.filterMap_eq_map (f:=λi=>V.int (wgt cs i))▸rfl
  walk_at "g";refine eXW (aR hd') (cJ3 (by omega) hL) (by rw[Ab,Ce];omega) ?_
  rw[show ((List.range cs.length).map (wgt cs)).sum=jX cs cs.length from rfl];obtain⟨d,hdl,hdv⟩:=vZ (cs:=cs++[97]) (by rw[Af];show _+1<=_;omega) (k:=cs.length) (by rw[Af];show _<_+1;omega)
  rw[mM]at hdv;have ec:=cJT h6 hL hdl hdv
  rw[ec]at q;have q2:=q Hd sD hdl hdv
  have hd2:=hdl
  unfold bA at hd2;walk_at "g";refine bQZ (λi σ H'=>∃v3,σ=[some (.str (aU cs)),some (.str (Str.ofString "abcdefghijklmnopqrstuvw")),some (.int (jX cs cs.length)),v3]/\H'=Hd/\i<=d-97) ⟨_,rfl,rfl,Da _⟩ ?_ ?_
  ·rintro i c σ H' hc ⟨v3,rfl,rfl,hid⟩;have hi23:i<23:=by have:=(Ac.mp hc).1;exact this
   have hcc:c=97+i:=bX5 hi23 hc
   subst hcc;have hic:bA (97+i):=⟨by omega,by omega⟩
   have r:=rL h6 hL hdl hdv hic
   unfold gL at r;rw[cQB,show 97+i-97=i by omega]at r
   walk_at "g";rw[hwl];refine bXU ?_;rw[show Txt.find (Str.ofString "abcdefghijklmnopqrstuvw") ⟨#[97+i]⟩=((97+i-97:Nat):Int) from xH hic,show 97+i-97=i by omega]
   walk_at "g";rw[show ((1+cs.length:Nat):Int)=(cs.length:Int)+1 by omega]at r
   rw[r];refine dZ (λhc=>?_) (λhc=>?_)
   ·have hc':=Az hc
    have h1l:(⟨#[97+i]⟩:Str).length=1:=rfl
    walk_at "g";rw[show aU cs++⟨#[97+i]⟩=aU (cs++[97+i]) from gR cs (97+i),hc'];exact q2
   ·have hc':=Bm (Bs.mpr hc)
    walk_at "g";exact⟨_,rfl,rfl,by omega⟩
  ·rintro σ H' ⟨v3,rfl,rfl,hid⟩;exact absurd (show 23<=d-97 from hid) (by omega)
def yX(sep:Str):∀(a b:List Str),a≠[]->b≠[]->Str.join sep (a++b)=Str.join sep a++sep++Str.join sep b
 |[],_,h,_=>absurd rfl h
 |[x],y::r,_,_=>rfl
 |[x],[],_,h=>absurd rfl h
 |x::z::a,b,_,h=>by
  have ih:=yX sep (z::a) b (by simp) h
  show x++sep++Str.join sep ((z::a)++b)=(x++sep++Str.join sep (z::a))++sep++Str.join sep b
  rw[ih];simp only[Str.append_assoc]
def cQ4{a b:Q5}(ha:a≠[])(hb:b≠[]):eY (a++b)=eY a++Str.ofString " " ++ eY b:=by
 have e:∀ts:List (List Nat),eY ts=Str.join (Str.ofString " ") (ts.map aU):=λts=>Du _ _
 rw[e,e,e,Am];exact yX _ _ _ (by simpa using ha) (by simpa using hb)
def wU(t:List Nat):Prop:=jS t/\t≠[121]
def bJG(z:Str):Prop:=∃ts:List (List Nat),z=eY ts/\1<=ts.length/\ts.length<=5/\∀t∈ts,wU t
def wX(bk:List (Str×Str)):Prop:=∀b∈bk,bJG b.2
def dQO:∀z∈(["sail", "fog", "wind", "calm", "x"]:List Str),wU z.cps.toList:=by
 unfold wU jS cQ6;decide +kernel
def aJ2(h:∃t:List Nat,z=aU t/\wU t):bJG z:=by
 obtain⟨t,rfl,ht⟩:=h;refine⟨[t],?_,by show 1<=1;decide,by show 1<=5;decide,λu hu=>by rw[Al.mp hu];exact ht⟩
 show aU t=Txt.join _ [aU t]
 rw[show Txt.join (" " : Str) [aU t]=Str.join (" " : Str) [aU t] from Du _ _];rfl
def cZK{y:Str}(h:∃t:List Nat,y=aU t/\wU t)(g:∃t:List Nat,z=aU t/\wU t):bJG (y++Str.ofString " " ++ z):=by
 obtain⟨t,rfl,ht⟩:=h;obtain⟨u,rfl,hu⟩:=g;refine⟨[t,u],?_,by show 1<=2;decide,by show 2<=5;decide,λv hv=>?_⟩
 ·rw[show [t,u]=[t]++[u] from rfl,cQ4 (by simp) (by simp)]
  rw[show eY [t]=aU t from by unfold eY;rw[show Txt.join (" " : Str) ([t].map aU)=Str.join (" " : Str) ([t].map aU) from Du _ _];rfl,show eY [u]=aU u from by unfold eY;rw[show Txt.join (" " : Str) ([u].map aU)=Str.join (" " : Str) ([u].map aU) from Du _ _];rfl]
 ·rcases Bb.mp hv with e|e
  ·rw[e];exact ht
  ·rw[Al.mp e];exact hu
def dJB:wX [(Str.ofString "ab",Str.ofString "sail")]:=λb hb=>by
 rw[Al.mp hb];exact aJ2 ⟨(Str.ofString "sail").cps.toList,FlT.str_ext (by rw[bV]),dQO _ (Aj ..)⟩
def dZU(h:wX bk):∃mss,jW bk mss/\∀ms∈mss,[121]∉ms:=by
 induction bk with
 |nil=>exact⟨[],⟨rfl,λj b ms hb=>by cases hb⟩,λms hm=>nomatch hm⟩
 |cons b r ih=>
  obtain⟨mss,h1,h2⟩:=ih λx hx=>h x (Ak _ hx);obtain⟨ts,e,t1,t5,tT⟩:=h b Aj;refine⟨ts::mss,⟨by rw[Ba,Ba,h1.1],λj b' ms hb hm=>?_⟩,λms hm=>?_⟩
  ·cases j with
   |zero=>cases hb;cases hm;exact⟨e,t1,t5,λt ht=>(tT t ht).1⟩
   |succ j=>exact h1.2 j b' ms hb hm
  ·rcases Bb.mp hm with z|z
   ·rw[z];exact λy=>(tT _ y).2 rfl
   ·exact h2 ms z
def aJ9{ss:List Str}{i:Int}(h0:0<=i)(h1:i<(ss.length:Int)):∃z,z∈ss/\atI (ss.map V.str) i=some (.str z):=by
 obtain⟨k,rfl⟩:∃k:Nat,i=(k:Int):=⟨i.toNat,by omega⟩
 have hk:k<ss.length:=by omega
 exact⟨ss[k],Bk _,bB (by rw[Ag,Aa hk];rfl)⟩
def aQB:Sp:=λvs H Q _=>∃(a:Addr) (ns:List Int),vs=[.ref a]/\rdL H a=some (ns.map V.int)/\ns.length<=7/\
 ∀(r:Addr) (bk:List (Str×Str)) (cws:Q5) (H':Hp),H r=none->Same H H'->BkAt H' r bk->wN bk cws->cws.Nodup->1<=bk.length->bk.length<=8->wX bk->Q (.ref r) H'
def wP:FnScope ["_law_cells", "_law_terms", "_law_book_here", "_law_k", "_law_cell", "_law_number", "_law_word_here", "_law_meaning"] ["_law_cells"] (aK vW):=by walk_at "sc"
def bJ0(F:Fun K "_law_book" "_law_book" vW f fd)(z7:Cal P w K mg base 1 "_law_mixed" ["_law_cell", "_law_k"] kJ)(yAJ:Cal P w K mg base 1 "_law_word" ["_law_number", "_law_most"] aQG):FnOk P w K mg base CX0 2 f fd ["_law_cells"] aQB:=by
 refine F.ok wP (λvs H Q E h=>?_) (λcdv A outer s H vs Q E hr h=>?_)
 ·obtain⟨a,ns,rfl,_⟩:=h;rfl
 obtain⟨a,ns,rfl,hns,h7,q⟩:=h;refine⟨_,(@aE _ _ _ _ _ (aP 1 wP.nd (@bJ _ _ _ _ (@aY _ _ _ _ _ _ (@aY _ _ _ _ _ _ (@aY _ _ _ _ _ _ (@aY _ _ _ _ _ _ (@aY _ _ _ _ _ _ aB))))))) (@aE _ _ _ _ _ (aP 2 wP.nd (bJ (aA (cW (@aY _ _ _ _ _ _ (@aY _ _ _ _ _ _ aB))) aB))) (@aE _ _ _ _ _ (dA Bq rfl (kK rfl G.b_enumerate (aA (mv 0) aB)) (dN (K:=K) (i:=3) (j:=4) (by rfl) (by rfl) wP.nd (by rfl) (by exact(Or.inl rfl)) (by exact Or.inl rfl) (by rfl) (by exact(Or.inl rfl)) (by exact Or.inl rfl)) (@aE _ _ _ _ _ (aP 5 wP.nd (aZ z7 hr (by decide) rfl (aA (mv 4) (aA (mv 3) aB)))) (@aE _ _ _ _ _ (aP 6 wP.nd (aZ yAJ hr (by decide) rfl (aA (mv 5) (aA aJ aB)))) (@aE _ _ _ _ _ (aP 7 wP.nd (bI bX (mv 1) (aQ cV (aQ fF (mv 5) aJ) aJ) (λ_ _=>rfl))) (@aE _ _ _ _ _ (bZ (bC iE (aQ cV (aQ fF (mv 5) aJ) aJ) aJ (bD _)) (@aI _ _ _ (aP 7 wP.nd (aQ bN (aQ bN (mv 7) cS) (bI bX (mv 1) (aQ cV (aQ fF (mv 5) aJ) aJ) (λ_ _=>rfl))))) bH) (@aI _ _ _ (bZ (PW.pt (xB (bC bQB (mv 6) (cJ rfl (cG (mv 2)) (iC (N:=["_law_page"]) (by decide +kernel) (by decide +kernel)) (by decide +kernel) rfl (by decide +kernel) (λ_ _ _ _=>(bF (i:=0) (show List.Nodup (["_law_page"]:List Str) by decide +kernel) rfl (Or.inl rfl))) (λ_ _ _ _=>cZ) (λ_ _ _ _=>(bI bX (mv 0) aJ (λ_ _=>rfl)))) (by rfl)) (qP (bC bQB (mv 7) (cJ rfl (cG (mv 2)) (iC (N:=["_law_page"]) (by decide +kernel) (by decide +kernel)) (by decide +kernel) rfl (by decide +kernel) (λ_ _ _ _=>(bF (i:=0) (show List.Nodup (["_law_page"]:List Str) by decide +kernel) rfl (Or.inl rfl))) (λ_ _ _ _=>cZ) (λ_ _ _ _=>(bI bX (mv 0) aJ (λ_ _=>rfl)))) (by rfl))))) (@aI _ _ _ (cH (cA Bg Eb Ec bQA (mv 2) (aA (cW (aA (mv 6) (aA (mv 7) aB))) aB)))) bH))))))) (@aI _ _ _ (aV (mv 2)))))),?_⟩
 walk_at "g";refine⟨by show 5<=sizeLine;decide,λrt hrt=>?_⟩
 have k1:=aG hrt (.lst ((["sail", "fog", "wind", "calm", "x"]:List Str).map V.str))
 have e1:rdL (upd H rt (.lst ((["sail", "fog", "wind", "calm", "x"]:List Str).map V.str))) rt=some ((["sail", "fog", "wind", "calm", "x"]:List Str).map V.str):=bP
 change gH 1 (V.ref rt) _ (upd H rt (.lst ((["sail", "fog", "wind", "calm", "x"]:List Str).map V.str))) _
 have htl:(["sail", "fog", "wind", "calm", "x"]:List Str).length=5:=rfl
 have hts:∀z∈(["sail", "fog", "wind", "calm", "x"]:List Str),z.length<=10:=by decide +kernel
 have htT:∀z∈(["sail", "fog", "wind", "calm", "x"]:List Str),∃t:List Nat,z=aU t/\wU t:=λz hz=>⟨z.cps.toList,FlT.str_ext (by rw[bV]),dQO z hz⟩
 generalize (["sail", "fog", "wind", "calm", "x"]:List Str)=ts at k1 e1 htl hts htT ⊢;generalize upd H rt (.lst (ts.map V.str))=H1 at k1 e1 ⊢;walk_at "g";refine⟨by show 2<=sizeLine;decide,λp2 hp2=>?_⟩
 have k2:=aG hp2 (.tup [V.str (Str.ofString "ab"),V.str (Str.ofString "sail")])
 have t2:(upd H1 p2 (.tup [V.str (Str.ofString "ab"),V.str (Str.ofString "sail")])) p2=some (.tup [V.str (Str.ofString "ab"),V.str (Str.ofString "sail")]):=aH
 generalize upd H1 p2 (.tup [V.str (Str.ofString "ab"),V.str (Str.ofString "sail")])=H2 at k2 t2 ⊢;walk_at "g";refine⟨by show 1<=sizeLine;decide,λrb hrb=>?_⟩
 have nrt:rt≠rb:=λz=>by
  have:=aO k2 e1
  rw[z]at this;unfold rdL at this;rw[hrb]at this;cases this
 have k3:=aG hrb (.lst [V.ref p2])
 have e3:BkAt (upd H2 rb (.lst [V.ref p2])) rb [(Str.ofString "ab",Str.ofString "sail")]:=⟨[p2],aH,rfl,λj p b hp hb=>by
  match j,hp,hb with
  |0,hp,hb=>cases hp;cases hb;exact k3 _ _ t2
  |j+1,hp,_=>cases hp⟩
 have s03:=k1.trans (k2.trans k3)
 have hrbH:H rb=none:=none_of (k1.trans k2) hrb
 have et3:=aO (k2.trans k3) e1
 generalize upd H2 rb (.lst [V.ref p2])=H3 at k3 e3 s03 et3 ⊢;have hns3:=aO s03 hns
 walk_at "g";refine qY (xs:=ns.map V.int) (λi σ H'=>∃(bk:List (Str×Str)) (cws:Q5) (v3 v4 v5 v6 v7:Option V),σ=[some (.ref a),some (.ref rt),some (.ref rb),v3,v4,v5,v6,v7]/\Same H H'/\rdL H' rt=some (ts.map V.str)/\BkAt H' rb bk/\wN bk cws/\cws.Nodup/\1<=bk.length/\bk.length<=1+i/\wX bk)
  ⟨_,[[97,98]],_,_,_,_,_,rfl,s03,et3,e3,⟨rfl,λj b cw hb hc=>by
   match j,hb,hc with
   |0,hb,hc=>cases hb;cases hc;exact⟨rfl,by decide,by decide,by unfold bA;decide⟩
   |j+1,hb,_=>cases hb⟩,by simp,Nat.le_refl _,Nat.le_refl _,dJB⟩ (λi σ H' _ ⟨_,_,_,_,_,_,_,_,e,_⟩=>aO e hns) ?_ ?_
 ·rintro i x σ H4 pe hx ⟨bk,cws,v3,v4,v5,v6,v7,rfl,s4,et4,hbk,hcw,hnd,hb1,hbl,hmo⟩ hpe;have hi:i<7:=by have:=(Ac.mp hx).1;rw[Ab]at this;omega
  obtain⟨c,_,rfl⟩:=bXQ hx;have k5:=aG hpe (.tup [V.int ((0+i:Nat):Int),V.int c])
  have te5:(upd H4 pe (.tup [V.int ((0+i:Nat):Int),V.int c])) pe=some (.tup [V.int ((0+i:Nat):Int),V.int c]):=aH
  have s5:=s4.trans k5
  have et5:=aO k5 et4
  obtain⟨qs,b1,b2,b3⟩:=id hbk;generalize upd H4 pe (.tup [V.int ((0+i:Nat):Int),V.int c])=H5 at k5 te5 s5 et5 ⊢;have tt5:=cN te5
  walk_at "g";refine⟨c,_,rfl,by omega,by omega,λN hN=>?_⟩
  walk_at "g";refine⟨N,6,rfl,hN,by decide,by decide,λcw H6 s6 hc1 hc6 hcL=>?_⟩
  have y0:=Bx (N / 5) (show (5:Int)≠0 by decide)
  have y1:=Cb (N / 5) (show (0:Int)<5 by decide)
  have et6:=aO s6 et5
  walk_at "g";obtain⟨z1,hz1,az1⟩:=aJ9 (ss:=ts) y0 (by rw[htl];exact y1)
  have hzl:=hts z1 hz1
  refine cU et6 az1 ?_;have s06:=s5.trans s6
  have hbk6:BkAt H6 rb bk:=⟨qs,(k5.trans s6) _ _ b1,b2,λj p b hp hb=>(k5.trans s6) _ _ (b3 j p b hp hb)⟩
  walk_at "u"
  with_reducible refine eZX (λσ' H'=>∃z:Str,σ'=[some (.ref a),some (.ref rt),some (.ref rb),some (.int ((0+i:Nat):Int)),some (.int c),some (.int N),some (.str (aU cw)),some (.str z)]/\z.length<=30/\H'=H6/\bJG z) (λσ' H' j7=>?_) (λM hM=>?_)
  ·obtain⟨z,rfl,hz,rfl,hmz⟩:=j7;obtain⟨qs',c1,c2,c3⟩:=id hbk6;have rq:=aR c1
   have hql:(qs'.map V.ref).length=bk.length:=by rw[Ab,c2]
   have words:bk.map (·.1)=cws.map aU:=by
    refine List.ext_getElem (by rw[Ab,Ab,hcw.1]) λj j1 j2=>?_
    rw[Ab]at j1 j2;rw[Hm,Hm];exact(hcw.2 j _ _ (Aa j1) (Aa j2)).1
   walk_at "g";refine iA (xs:=qs'.map V.ref) (λj=>(bk[j]?).map λb=>V.str b.1) rq (by rw[hql];exact bL (by omega)) (λj x Hc A B hx sm hA hB=>?_) (λD Hd hD sD hd=>?_)
   ·rw[Ag]at hx;obtain⟨p,ep,rfl⟩:=Bz.mp hx;have hjb:j<bk.length:=by rw[<-c2];exact(Ac.mp ep).1
    have eb:=Aa hjb
    have tp:=sm _ _ (c3 j p _ ep eb)
    walk_at "g";refine⟨Wk.set rfl (Wk.refl _),?_⟩;walk_at "g";exact cK tp (v:=.str bk[j].1) (bB (j:=0) rfl) (hA _ (by rw[eb];rfl) _ (Same.refl _))
   rw[hql,eT (λb:Str×Str=>V.str b.1),show bk.map (λb=>V.str b.1)=(bk.map (·.1)).map V.str by rw[Ca];rfl]at hd
   refine bQD (neg:=true) (aR hd) rfl (cY _) ?_;rw[if_pos rfl,cJ6];have keep:∀H9,Same H' H9->rdL H9 rt=some (ts.map V.str)/\BkAt H9 rb bk:=λH9 k=>⟨aO k et6,⟨qs',k _ _ c1,c2,λj p b hp hb=>k _ _ (c3 j p b hp hb)⟩⟩
   by_cases hw:aU cw∈bk.map (·.1)
   ·rw[Ap hw];walk_at "g";exact⟨bk,cws,_,_,_,_,_,rfl,s06.trans sD,(keep _ sD).1,(keep _ sD).2,hcw,hnd,hb1,by omega,hmo⟩
   ·rw[As hw];have rqD:=aO sD rq
    walk_at "g";refine iA (xs:=qs'.map V.ref) (λj=>(bk[j]?).map λb=>V.str b.2) rqD (by rw[hql];exact bL (by omega)) (λj x Hc A B hx sm hA hB=>?_) (λD2 Hd2 hD2 sD2 hd2=>?_)
    ·rw[Ag]at hx;obtain⟨p,ep,rfl⟩:=Bz.mp hx;have hjb:j<bk.length:=by rw[<-c2];exact(Ac.mp ep).1
     have eb:=Aa hjb
     have tp:=sm _ _ (sD _ _ (c3 j p _ ep eb))
     walk_at "g";refine⟨Wk.set rfl (Wk.refl _),?_⟩;walk_at "g";exact cK tp (v:=.str bk[j].2) (bB (j:=1) rfl) (hA _ (by rw[eb];rfl) _ (Same.refl _))
    rw[hql,eT (λb:Str×Str=>V.str b.2),show bk.map (λb=>V.str b.2)=(bk.map (·.2)).map V.str by rw[Ca];rfl]at hd2
    refine bQD (neg:=true) (aR hd2) rfl (cY _) ?_;rw[if_pos rfl,cJ6];have s62:=sD.trans sD2
    by_cases hm:z∈bk.map (·.2)
    ·rw[Ap hm];walk_at "g";exact⟨bk,cws,_,_,_,_,_,rfl,s06.trans s62,(keep _ s62).1,(keep _ s62).2,hcw,hnd,hb1,by omega,hmo⟩
    ·rw[As hm];have c1':=s62 _ _ c1
     walk_at "g";refine⟨by show 2<=sizeLine;decide,λpt hpt=>?_⟩
     have k8:=aG hpt (.tup [.str (aU cw),.str z])
     have t8:(upd Hd2 pt (.tup [.str (aU cw),.str z])) pt=some (.tup [.str (aU cw),.str z]):=aH
     have s68:=s62.trans k8
     have c18:=k8 _ _ c1'
     have et8:=(keep _ s68).1
     have c38:∀(j:Nat) p b,qs'[j]?=some p->bk[j]?=some b->(upd Hd2 pt (.tup [.str (aU cw),.str z])) p=some (.tup [.str b.1,.str b.2]):=λj p b hp hb=>s68 _ _ (c3 j p b hp hb)
     generalize upd Hd2 pt (.tup [.str (aU cw),.str z])=H8 at k8 t8 s68 c18 et8 c38 ⊢;have m8:=bQ c18
     walk_at "g";have ne:∀p xs,H8 p=some (.tup xs)->p≠rb:=λp xs e z=>by rw[z,c18]at e;cases e
     refine⟨bk++[(aU cw,z)],cws++[cw],_,_,_,_,_,rfl,bR hrbH (s06.trans s68),?_,?_,?_,?_,by rw[Af];omega,by rw[Af];show _+1<=_;omega,?_⟩
     ·rw[bX3 nrt];exact et8
     ·refine⟨qs'++[pt],by rw[aH,Am];rfl,by rw[Af,Af,c2];rfl,λj p b hp hb=>?_⟩
      rcases Nat.lt_or_ge j qs'.length with zz|zz
      ·rw[Ar zz]at hp;rw[Ar (by omega)]at hb
       have:=c38 j p b hp hb
       rw[aM (ne _ _ this)];exact this
      ·rw[Av zz]at hp;rw[Av (by omega)]at hb
       have w1:=(Ac.mp hp).1
       have eu:j-qs'.length=0:=by have:j-qs'.length<1:=w1;omega
       have ev:j-bk.length=0:=by omega
       rw[eu]at hp;rw[ev]at hb;cases hp;cases hb;rw[aM (ne _ _ t8)];exact t8
     ·refine⟨by rw[Af,Af,hcw.1];rfl,λj b cw' hb hc=>?_⟩
      have hcl:=hcw.1
      rcases Nat.lt_or_ge j bk.length with zz|zz
      ·rw[Ar zz]at hb;rw[Ar (by omega)]at hc
       exact hcw.2 j b cw' hb hc
      ·rw[Av zz]at hb;rw[Av (by omega)]at hc
       have w1:=(Ac.mp hb).1
       have eu:j-bk.length=0:=by have:j-bk.length<1:=w1;omega
       have ev:j-cws.length=0:=by omega
       rw[eu]at hb;rw[ev]at hc;cases hb;cases hc;exact⟨rfl,hc1,by omega,hcL⟩
     ·rw[words]at hw;refine List.nodup_append.mpr ⟨hnd,by simp,λu hu v hv e=>?_⟩
      rw[Al.mp hv]at e;exact hw (Bd.mpr ⟨u,hu,by rw[e]⟩)
     ·intro b hb;rcases Bp.mp hb with zz|zz
      ·exact hmo b zz
      ·rw[Al.mp zz];exact hmz
  ·walk_at "g";refine dZ (λhg=>?_) (λhg=>?_)
   ·have w0:=Bx (N / 50) (show (5:Int)≠0 by decide)
    have w1:=Cb (N / 50) (show (0:Int)<5 by decide)
    obtain⟨z2,hz2,az2⟩:=aJ9 (ss:=ts) w0 (by rw[htl];exact w1)
    have hzl2:=hts z2 hz2
    have hsp:(Str.ofString " ").length=1:=rfl
    have hl1:(z1++Str.ofString " ").length=z1.length+1:=by rw[Dv];rfl
    walk_at "g";refine cU et6 az2 ?_;walk_at "g";exact hM _ _ ⟨_,rfl,by rw[Dv,hl1];omega,rfl,cZK (htT z1 hz1) (htT z2 hz2)⟩
   ·walk_at "g";exact hM _ _ ⟨z1,rfl,by omega,rfl,aJ2 (htT z1 hz1)⟩
 ·rintro σ H4 ⟨bk,cws,v3,v4,v5,v6,v7,rfl,s4,et4,hbk,hcw,hnd,hb1,hbl,hmo⟩;rw[Ab]at hbl;walk_at "g";exact q rb bk cws H4 hrbH s4 hbk hcw hnd hb1 (by omega) hmo
def vL:Sp:=λvs H Q _=>∃(c:Int) (b:Addr) (bk:List (Str×Str)) (cws:List (List Nat)),vs=[.int c,.ref b]/\BkAt H b bk/\wN bk cws/\bk.length<=8/\
 ∀(p:Addr) (kvs:List (Key×V)) (f:Nat->Option Int) (H':Hp),H p=none->Same H H'->H' p=some (.dK kvs)->Lk kvs f->(∀c,0<=bE f c/\bE f c<=9)->Q (.ref p) H'
def q0:FnScope ["_law_cell", "_law_book_here", "_law_number", "_law_most", "_law_locker", "_law_flag"] ["_law_cell", "_law_book_here"] (aK rW):=by walk_at "sc"
def bQJ(F:Fun K "_law_flags" "_law_flags" rW f fd)(G:Gs K mg w Zo Zz Zq Zx Z0 Zt Zy Zw Zu Zv Zr Zs Zp)(z7:Cal P w K mg base 1 "_law_mixed" ["_law_cell", "_law_k"] kJ)(z8:Cal P w K mg base 1 "_law_checked" ["_law_word_here"] gM):FnOk P w K mg base CX0 2 f fd ["_law_cell", "_law_book_here"] vL:=by
 refine F.ok q0 (λvs H Q E h=>?_) (λcdv A outer s H vs Q E hr h=>?_)
 ·obtain⟨c,b,bk,cws,rfl,_⟩:=h;rfl
 obtain⟨c,b,bk,cws,rfl,hbk,hcw,h8,q⟩:=h;refine⟨_,(@aE _ _ _ _ _ (aP 2 q0.nd (aZ z7 hr (by decide) rfl (aA (mv 0) (aA aJ aB)))) (@aE _ _ _ _ _ (aP 3 q0.nd (aQ bN aJ (aQ cV (mv 2) aJ))) (@aE _ _ _ _ _ (aP 4 q0.nd vM) (@aE _ _ _ _ _ (dA Bq rfl (kT (aQ bN (cA Cm PySem.F.slot_str_join PySem.F.type_str_join dQ9 cS (aA (cJ rfl (cG (mv 1)) (iC (N:=["_law_page"]) (by decide +kernel) (by decide +kernel)) (by decide +kernel) rfl (by decide +kernel) (λ_ _ _ _=>(bF (i:=0) (show List.Nodup (["_law_page"]:List Str) by decide +kernel) rfl (Or.inl rfl))) (λ_ _ _ _=>cZ) (λ_ _ _ _=>(aZ z8 hr (by decide) rfl (aA (bI bX (mv 0) aJ (λ_ _=>rfl)) aB)))) aB)) cS)) (bF (i:=5) q0.nd rfl (Or.inl rfl)) (@aE _ _ _ _ _ (aP 2 q0.nd (aQ cV (aQ nV (aQ bN (mv 2) aJ) aJ) aJ)) (@aI _ _ _ (iM (Room.u1 hr) (mv 4) (mv 5) (aQ cV (aQ fF (mv 2) aJ) (aQ bN (mv 3) aJ)) rfl)))) (@aI _ _ _ (aV (mv 4))))))),?_⟩
 obtain⟨qs,b1,b2,b3⟩:=id hbk;have hql:(qs.map V.ref).length=bk.length:=by rw[Ab,b2]
 walk_at "g";refine⟨c,90,rfl,by omega,by omega,λn hn=>?_⟩
 have y0:=Bx n (show (8:Int)≠0 by decide)
 have y1:=Cb n (show (0:Int)<8 by decide)
 walk_at "g";generalize n%8=n9 at y0 y1 ⊢;intro pd hpd;have s1:=aG hpd (HO.dK [])
 have e1:(upd H pd (HO.dK [])) pd=some (.dK []):=aH
 generalize upd H pd (HO.dK [])=H1 at s1 e1 ⊢;have rq:=aR (s1 _ _ b1)
 walk_at "g";refine iA (xs:=qs.map V.ref) (λj=>(cws[j]?).map λcw=>V.str (aU (cw++[ckL cw]))) rq (by rw[hql];exact bL (by omega)) (λj x Hc A B hx sm hA hB=>?_) (λD Hd hD sD hd=>?_)
 ·rw[Ag]at hx;obtain⟨p,ep,rfl⟩:=Bz.mp hx;have hjb:j<bk.length:=by rw[<-b2];exact(Ac.mp ep).1
  have ec:cws[j]?=some (cws[j]'(by rw[hcw.1];exact hjb)):=Aa _
  obtain⟨hw,hc1,hc6,hcL⟩:=hcw.2 j _ _ (Aa hjb) ec;have tp:=sm _ _ (s1 _ _ (b3 j p _ ep (Aa hjb)))
  rw[hw]at tp;walk_at "g";refine⟨Wk.set rfl (Wk.refl _),?_⟩;walk_at "g";refine cK tp (v:=.str (aU (cws[j]'(by rw[hcw.1];exact hjb)))) (bB (j:=0) rfl) ?_
  walk_at "g";exact⟨_,rfl,hc1,hc6,hcL,λH' s' _ _=>hA _ (by rw[ec];rfl) H' s'⟩
 rw[hql,<-hcw.1,eT (λcw=>V.str (aU (cw++[ckL cw]))),show cws.map (λcw=>V.str (aU (cw++[ckL cw])))=((cws.map λcw=>cw++[ckL cw]).map aU).map V.str by rw[Ca,Ca];rfl]at hd
 have h7:∀c∈cws.map (λcw=>cw++[ckL cw]),c.length<=7:=λc hc=>by
  obtain⟨cw,hm,rfl⟩:=Bd.mp hc;obtain⟨j,hj⟩:=List.mem_iff_getElem?.mp hm;have hjl:=(Ac.mp hj).1
  have:=(hcw.2 j _ _ (Aa (by rw[<-hcw.1];exact hjl)) hj).2.2.1
  rw[Af];show _+1<=7
  omega
 have h8:(cws.map (λcw=>cw++[ckL cw])).length<=8:=by rw[Ab,hcw.1];exact h8
 generalize cws.map (λcw=>cw++[ckL cw])=cws at hd h7 h8;have hb1:=aR hd
 have e1:=sD _ _ e1
 have s1:=s1.trans sD
 have hw7:∀z∈cws.map aU,z.length<=7:=λz hz=>by
  obtain⟨c,hc,rfl⟩:=Bd.mp hz;rw[cC];exact h7 c hc
 have hjl:(Txt.join (Str.ofString "") (cws.map aU)).length<=56:=by
  have:=dZH (sep:=Str.ofString "") (n:=7) (L:=cws.map aU) hw7
  rw[Ab,show (Str.ofString "").length=0 from rfl]at this;omega
 have hsum:((cws.map aU).map (·.length)).sum<=7*(cws.map aU).length:=by
  generalize cws.map aU=L at hw7;induction L with
  |nil=>exact Ai _
  |cons u v ih=>
   have h1:=hw7 u Aj
   have h2:=ih λx hx=>hw7 x (Ak _ hx)
   rw[Aw,Fm,Ba];omega
 rw[Ab]at hsum;walk_at "g";refine dXS (ss:=cws.map aU) hb1 (by rw[show (Str.ofString "").length=0 from rfl];omega) ?_
 have h12:(Str.ofString "1234aw").length=6:=rfl
 walk_at "g";have htl:(Txt.join (Str.ofString "") (cws.map aU)++Str.ofString "1234aw").length<=62:=by rw[Dv];omega
 generalize Txt.join (Str.ofString "") (cws.map aU)++Str.ofString "1234aw"=zz at htl ⊢;refine bQZ (λi σ H'=>∃(n':Int) (kvs:List (Key×V)) (f:Nat->Option Int) (v5:Option V),σ=[some (.int c),some (.ref b),some (.int n'),some (.int (1+n9)),some (.ref pd),v5]/\0<=n'/\Same H H'/\H' pd=some (.dK kvs)/\Lk kvs f/\kvs.length<=i/\∀c,0<=bE f c/\bE f c<=9)
  ⟨n,[],_,_,rfl,hn,s1,e1,.nil,Ai _,λc=>⟨Hq _,(by decide:(0:Int)<=9)⟩⟩ ?_ ?_
 ·rintro i d σ H2 hd ⟨n',kvs,f,v5,rfl,hn',s2,e2,lk,hkl,hf⟩;have hi':i<62:=by have:=(Ac.mp hd).1;rw[dS]at this;omega
  have x0:=Bx ((n'+11)*69621) (show (2147483647:Int)≠0 by decide)
  walk_at "g";generalize (n'+11)*69621%2147483647=n'' at x0 ⊢;have x1:=Bx (n'' / 7) (show 1+n9+1≠0 by omega)
  have x2:=Cb (n'' / 7) (show 0<1+n9+1 by omega)
  walk_at "g";refine nF (z:=one d) e2 (bL (by omega)) ?_
  refine⟨n'',_,_,_,rfl,x0,bR hpd s2,aH,lk.put d _,?_,λc=>?_⟩
  ·have:=fW kvs (Sum.inr (one d)) (.int (n'' / 7%(1+n9+1)))
   omega
  ·show 0<=((if c=d then some (n'' / 7%(1+n9+1)) else f c):Option Int).getD 0/\((if c=d then some (n'' / 7%(1+n9+1)) else f c):Option Int).getD 0<=9
   by_cases z:c=d
   ·rw[if_pos z];exact⟨x1,by show n'' / 7%(1+n9+1)<=9;omega⟩
   ·rw[if_neg z];exact hf c
 ·rintro σ H2 ⟨n',kvs,f,v5,rfl,hn',s2,e2,lk,hkl,hf⟩;rw[dS]at hkl;walk_at "g";exact q pd kvs f H2 hpd s2 e2 lk hf
def sA(ns:List Int)(lo m:Int)(h:0<=lo)(h2:0<=m):∃ms:List Int,jP (ns.map V.int) (some lo) (some (lo+m))=ms.map V.int/\ms.length<=m.toNat:=by
 refine⟨(ns.drop (min lo.toNat ns.length)).take (min (lo+m).toNat ns.length-min lo.toNat ns.length),?_,?_⟩
 ·unfold jP;rw[El,Fa];show ((ns.map V.int).drop (if lo<0 then (lo+((ns.map V.int).length:Int)).toNat else min lo.toNat (ns.map V.int).length)).take ((if lo+m<0 then (lo+m+((ns.map V.int).length:Int)).toNat else min (lo+m).toNat (ns.map V.int).length)-(if lo<0 then (lo+((ns.map V.int).length:Int)).toNat else min lo.toNat (ns.map V.int).length))=_
  rw[if_neg (Int.not_lt.mpr h),if_neg (Int.not_lt.mpr (Int.add_nonneg h h2)),Ab]
 ·rw[Bt,Int.toNat_add h h2];refine Bi (Nat.min_le_left ..) ?_;generalize lo.toNat=a;generalize m.toNat=b;generalize ns.length=L;clear h h2;omega
def vP(K:W.Frag)(C:Addr):Sp:=λvs H Q _=>∃(a:Addr) (ns:List Int),vs=[.ref a]/\SqL K H a (ns.map V.int)/\ns.length<=63/\
 ∀(r x dx rb rl rw b' s0 st hg dd:Addr) (bk:List (Str×Str)) (cws:Q5) (f:Nat->Option Int) (m:Nat) (H':Hp),Same H H'->H' r=some (.lst [.ref x,.ref rb,.ref rl,.ref rw])->BkAt H' rb bk->wN bk cws->cws.Nodup->1<=bk.length->bk.length<=8->wX bk->1<=m->m<=6->
  H' x=some (.ins C dx (twF b' m s0 st hg dd))->BkAt H' b' bk->TwSt H' hg st (List.replicate m none) f->H' dd=some (.lst [])->hg≠dd->b'≠dd->H' rw=some (.lst (List.replicate m V.non))->rw≠dd->hg≠rw->H x=none->H dd=none->Q (.ref r) H'
def m3:FnScope ["_law_script", "_law_book_here", "_law_totals", "_law_many"] ["_law_script"] (aK sL):=by walk_at "sc"
def bXY(F:Fun K "_law_begun" "_law_begun" sL f fd)(yB0:Cal P w K mg base 2 "_law_book" ["_law_cells"] aQB)(yB1:Cal P w K mg base 2 "_law_flags" ["_law_cell", "_law_book_here"] vL)(m4:Cal P w K mg base 1 "_law_cell_at" ["_law_script", "_law_k"] (rA K))(yB2:eJE CX0 P w K mg base 2 Z0 ["self", "book", "locker", "many"] (iW Z0)):FnOk P w K mg base CX0 4 f fd ["_law_script"] (vP K Z0):=by
 refine F.ok m3 (λvs H Q E h=>?_) (λcdv A outer s H vs Q E hr h=>?_)
 ·obtain⟨a,ns,rfl,_⟩:=h;rfl
 obtain⟨a,ns,rfl,hS,h63,q⟩:=h;refine⟨_,(@aE _ _ _ _ _ (aP 1 m3.nd (aZ yB0 hr (by decide) rfl (aA (dP sl_list (mv 0) (dE aJ) (dE aJ)) aB))) (@aE _ _ _ _ _ (aP 2 m3.nd (aZ yB1 hr (by decide) rfl (aA (aZ m4 hr (by decide) rfl (aA (mv 0) (aA aJ aB))) (aA (mv 1) aB)))) (@aE _ _ _ _ _ (aP 3 m3.nd (aQ bN aJ (aQ cV (aZ m4 hr (by decide) rfl (aA (mv 0) (aA aJ aB))) aJ))) (@aI _ _ _ (aV (@bJ _ _ _ _ (aA (fQ0 yB2 hr (by decide) rfl G.c_Tower (aA (mv 1) (aA (mv 2) (aA (mv 3) aB)))) (aA (mv 1) (aA (mv 2) (aA (aQ aXF (bJ (aA dG aB)) (mv 3)) aB)))))))))),?_⟩
 walk_at "g";refine dQV hS λrc hrc=>?_;obtain⟨ms,em,hml⟩:=sA ns 2 7 (by decide) (by decide)
 rw[show (2:Int)+7=9 from rfl]at em;rw[em];have k1:=aG hrc (.lst (ms.map V.int))
 have e1:rdL (upd H rc (.lst (ms.map V.int))) rc=some (ms.map V.int):=bP
 generalize upd H rc (.lst (ms.map V.int))=H1 at k1 e1 ⊢;walk_at "g";refine⟨rc,ms,rfl,e1,hml,λrb bk cws H2 hrb s2 hbk hcw hnd hb1 hb8 hgb=>?_⟩;have s02:=k1.trans s2
 walk_at "g";refine⟨a,ns,1,rfl,s02.seq hS,by omega,λn1=>?_⟩
 walk_at "g";refine⟨n1,rb,bk,cws,rfl,hbk,hcw,hb8,λrl kvs f H3 hrl s3 el lk hf=>?_⟩;have s03:=s02.trans s3
 walk_at "g";refine⟨a,ns,0,rfl,s03.seq hS,by omega,λn0=>?_⟩
 have y0:=Bx n0 (show (6:Int)≠0 by decide)
 have y1:=Cb n0 (show (0:Int)<6 by decide)
 obtain⟨m,em,m1,m6⟩:∃m:Nat,1+n0%6=(m:Int)/\1<=m/\m<=6:=⟨(1+n0%6).toNat,by omega,by omega,by omega⟩
 walk_at "g";rw[em];walk_at "g";intro x dx hx hdx hne;obtain⟨qs,b1,b2,b3⟩:=id hbk;have hkk:=(aG hdx (.own x)).trans (aG (show (upd H3 dx (.own x)) x=none by rw[aM (Ne.symm hne)];exact hx) (.ins Z0 dx []))
 refine⟨x,rb,rl,dx,qs.map V.ref,kvs,f,m,rfl,aH,aR (hkk _ _ (s3 _ _ b1)),.inl (hkk _ _ el),lk,m6,λb' s0 st hg dd H4 hb' hhg hdd hst nhd nbd sE x4 e4 d04 d14 h4 f4=>⟨rfl,?_⟩⟩;have s34:Same H3 H4:=λb o e=>sE b o (λz=>by rw[Al.mp z,hx]at e;cases e) (hkk _ _ e)
 have s04:=s03.trans s34
 walk_at "g";refine⟨by show 1<=sizeLine;decide,λp0 hp0=>?_⟩
 have k5:=aG hp0 (.lst [V.non])
 have e5:(upd H4 p0 (.lst [V.non])) p0=some (.lst [V.non]):=aH
 generalize upd H4 p0 (.lst [V.non])=H5 at k5 e5 ⊢;walk_at "g";refine⟨p0,_,[V.non],rfl,rfl,e5,by omega,by omega,by show 1*((m:Int)).toNat<=sizeLine;exact bO (by omega),λrw' hrw=>?_⟩
 rw[aZ8];have k6:=k5.trans (aG hrw (.lst (List.replicate m V.non)))
 have e6:(upd H5 rw' (.lst (List.replicate m V.non))) rw'=some (.lst (List.replicate m V.non)):=aH
 have nrw:rw'≠dd:=λz=>by rw[z,k5 _ _ f4]at hrw;cases hrw
 have nhw:hg≠rw':=λz=>by rw[<-z,k5 _ _ h4]at hrw;cases hrw
 generalize upd H5 rw' (.lst (List.replicate m V.non))=H6 at k6 e6 ⊢;walk_at "g";refine⟨by show 4<=sizeLine;decide,λr hr=>?_⟩
 have k7:=aG hr (.lst [.ref x,.ref rb,.ref rl,.ref rw'])
 have k47:=k6.trans k7
 have s07:=s04.trans k47
 have bkk:∀(y:Addr),H4 y=some (.lst (qs.map V.ref))->BkAt (upd H6 r (.lst [.ref x,.ref rb,.ref rl,.ref rw'])) y bk:=λy hy=>⟨qs,k47 _ _ hy,b2,λj p b hp hb=>k47 _ _ (s34 _ _ (s3 _ _ (b3 j p b hp hb)))⟩
 refine q r x dx rb rl rw' b' s0 st hg dd bk cws (cI (bE f)) m _ s07 aH (bkk rb (s34 _ _ (s3 _ _ b1))) hcw hnd hb1 hb8 hgb m1 m6 (k47 _ _ x4) (bkk b' e4) ⟨⟨_,k47 _ _ h4,?_⟩,?_,⟨_,k47 _ _ d14,dW _⟩,yU _⟩ (k47 _ _ f4) nhd nbd (k7 _ _ e6) nrw (λz=>nhw z) (none_of s03 hx) (none_of (s03.trans hkk) hdd)
 ·refine⟨by rw[Dn,Dn],λj v h hv hh=>?_⟩
  rw[Gp]at hv hh;split at hv
  ·rename_i hj
   rw[if_pos hj]at hh;cases hv;cases hh;rfl
  ·cases hv
 ·intro cs hc;cases (List.mem_replicate.mp hc).2
def ExAt(H:Hp)(ea D:Addr):Prop:=H ea=some (jU ea (.ref D) none)\/∃dx o,H ea=some (jU ea (.ref D) (some dx))/\H dx=some o
def ExAt.keep{D:Addr}(h:ExAt H ea D)(s:Same H H'):ExAt H' ea D:=by
 rcases h with h|⟨dx,o,h,g⟩
 ·exact .inl (s _ _ h)
 ·exact .inr ⟨dx,o,s _ _ h,s _ _ g⟩
def kZ{D:Addr}{c:V}{cv:Value}{b:Bool}(e:ExAt H ea D)(Z:ExK K D)(h1:cXH c=some cv)(h2:W.kitOne K (.ref D) cv=some b)(h:Q (.bl b) H):dXL K [.ref ea,c] H Q:=by
 rcases e with e|⟨dx,o,e,g⟩
 ·exact eX6 e Z h1 h2 h
 ·exact eZH e g Z h1 h2 h
def clsL:List Str:=["deed", "halyard", "word", "flag", "short", "text", "cut", "lack"]
def oP(i:Nat):Str:=clsL.getD i (Str.ofString "")
def bsI(i:Nat):List Bool:=[decide (i=0),decide (i=1),decide (i=2),decide (i=3),decide (i=4),decide (i=5),decide (i=6),decide (i=7)]
def dZ8:∀i,i<8->(bsI i).countP (· == true)=1:=by decide
def eJ2:∀i,i<8->(bsI i)[i]?=some true:=by decide
def eZY:∀i,i<8->∀k,k<i->(bsI i)[k]?=some false:=by decide
def eQK(h:i<8):atI (clsL.map V.str) (i:Int)=some (.str (oP i)):=by
 refine bB ?_;rw[Ag,Aa (show i<clsL.length from h)];unfold oP;rw[Ad,Aa (show i<clsL.length from h)];rfl
def pL(K:W.Frag)(c0 c1 c2 c3 c4 c5 c6 c7 b0 b1 b2 aT:Addr):Sp:=λvs H Q _=>∃(ea D:Addr) (i:Nat),vs=[.ref ea]/\ExK K D/\Knd K c0 c1 c2 c3 c4 c5 c6 c7 b0 b1 b2 aT D i/\i<8/\ExAt H ea D/\∀H',Same H H'->Q (.str (oP i)) H'
def yB3:FnScope ["_law_e", "_law_truths"] ["_law_e"] (aK nI):=by walk_at "sc"
def bXL(F:Fun K "_law_class" "_law_class" nI f fd):FnOkM P w K mg base 1 f fd ["_law_e"] (pL K Zt Zy Zw Zu Zq Zv Zr Zo Zs Zx Zp Zz):=by
 refine F.okM yB3 (λvs H Q E h=>?_) (λcdv A ea0 outer s H vs Q hr h=>?_)
 ·obtain⟨ea,D,i,rfl,_⟩:=h;rfl
 obtain⟨ea,D,i,rfl,Z,⟨f0,f1,f2,f3,f4,f5,f6,f7,f8,f9,f10,f11,_⟩,hi,he,q⟩:=h;refine⟨_,(@aE _ _ _ _ _ (aP 1 yB3.nd (@bJ _ _ _ _ (aA (aX (gE (K:=K) rfl) rfl G.b_isinstance bU (aA (mv 0) (aA (fA rfl G.c_NoDeed) aB))) (aA (aX (gE (K:=K) rfl) rfl G.b_isinstance bU (aA (mv 0) (aA (fA rfl G.c_NoHalyard) aB))) (aA (aX (gE (K:=K) rfl) rfl G.b_isinstance bU (aA (mv 0) (aA (fA rfl G.c_NoWord) aB))) (aA (aX (gE (K:=K) rfl) rfl G.b_isinstance bU (aA (mv 0) (aA (fA rfl G.c_NoFlag) aB))) aB)))))) (@aE _ _ _ _ _ (aP 1 yB3.nd (aQ bN (mv 1) (@bJ _ _ _ _ (aA (aX (gE (K:=K) rfl) rfl G.b_isinstance bU (aA (mv 0) (aA (fA rfl G.c_Short) aB))) (aA (aX (gE (K:=K) rfl) rfl G.b_isinstance bU (aA (mv 0) (aA (fA rfl G.c_NoText) aB))) (aA (aX (gE (K:=K) rfl) rfl G.b_isinstance bU (aA (mv 0) (aA (fA rfl G.c_NoCut) aB))) (aA (aX (gE (K:=K) rfl) rfl G.b_isinstance bU (aA (mv 0) (aA (fA rfl G.c_Lack) aB))) aB))))))) (@aE _ _ _ _ _ (bZ (PW.pt (oG (eG (aX (gE (K:=K) rfl) rfl G.b_isinstance bU (aA (mv 0) (aA (fA rfl G.c_NoBook) aB)))) (oG (eG (aX (gE (K:=K) rfl) rfl G.b_isinstance bU (aA (mv 0) (aA (fA rfl G.c_NoHoist) aB)))) (oG (eG (aX (gE (K:=K) rfl) rfl G.b_isinstance bU (aA (mv 0) (aA (fA rfl G.c_NoRow) aB)))) (mR (sJ (eG (aX (gE (K:=K) rfl) rfl G.b_isinstance bU (aA (mv 0) (aA (eJU rfl G.b_ValueError xZ) aB)))))))))) (@aI _ _ _ (aV cS)) bH) (@aE _ _ _ _ _ (bZ (bC cXE (cA Bg PySem.F.slot_list_count PySem.F.type_list_count dXO (mv 1) (aA nO aB)) aJ (bD _)) (@aI _ _ _ (aV cS)) bH) (@aI _ _ _ (aV (@bI _ _ _ _ _ _ _ bX (@bJ _ _ _ _ (@aY _ _ _ _ _ _ (@aY _ _ _ _ _ _ (@aY _ _ _ _ _ _ (@aY _ _ _ _ _ _ (@aY _ _ _ _ _ _ (@aY _ _ _ _ _ _ (@aY _ _ _ _ _ _ (@aY _ _ _ _ _ _ aB))))))))) (cA Bg Dt Gr dQA (mv 1) (aA nO aB)) (λ_ _=>rfl)))))))),?_⟩;walk_at "g";refine kZ he Z rfl f0 ?_;walk_at "g";refine kZ he Z rfl f1 ?_;walk_at "g";refine kZ he Z rfl f2 ?_;walk_at "g";refine kZ he Z rfl f3 ?_;walk_at "g";refine⟨by show 4<=sizeLine;decide,λp1 h1=>?_⟩
 have k1:=aG h1 (HO.lst [.bl (decide (i=0)),.bl (decide (i=1)),.bl (decide (i=2)),.bl (decide (i=3))])
 have l1:(upd H p1 (HO.lst [.bl (decide (i=0)),.bl (decide (i=1)),.bl (decide (i=2)),.bl (decide (i=3))])) p1=some (HO.lst [.bl (decide (i=0)),.bl (decide (i=1)),.bl (decide (i=2)),.bl (decide (i=3))]):=aH
 generalize upd H p1 (HO.lst [.bl (decide (i=0)),.bl (decide (i=1)),.bl (decide (i=2)),.bl (decide (i=3))])=H1 at k1 l1 ⊢;have he1:=he.keep k1
 walk_at "g";refine kZ he1 Z rfl f4 ?_;walk_at "g";refine kZ he1 Z rfl f5 ?_;walk_at "g";refine kZ he1 Z rfl f6 ?_;walk_at "g";refine kZ he1 Z rfl f7 ?_;walk_at "g";refine⟨by show 4<=sizeLine;decide,λp2 h2=>?_⟩
 refine fL (bQ (aG h2 _ _ _ l1)) dD (by show 8<=sizeLine;decide) λp3 h3=>?_
 have k3:=(aG h2 (HO.lst [.bl (decide (i=4)),.bl (decide (i=5)),.bl (decide (i=6)),.bl (decide (i=7))])).trans (aG h3 (HO.lst ((bsI i).map V.bl)))
 have l3:(upd (upd H1 p2 (HO.lst [.bl (decide (i=4)),.bl (decide (i=5)),.bl (decide (i=6)),.bl (decide (i=7))])) p3 (HO.lst ((bsI i).map V.bl))) p3=some (HO.lst ((bsI i).map V.bl)):=aH
 change gH 1 (V.ref p3) _ (upd (upd H1 p2 (HO.lst [.bl (decide (i=4)),.bl (decide (i=5)),.bl (decide (i=6)),.bl (decide (i=7))])) p3 (HO.lst ((bsI i).map V.bl))) _
 generalize upd (upd H1 p2 (HO.lst [.bl (decide (i=4)),.bl (decide (i=5)),.bl (decide (i=6)),.bl (decide (i=7))])) p3 (HO.lst ((bsI i).map V.bl))=H3 at k3 l3 ⊢;have he3:=he1.keep k3
 walk_at "g";refine kZ he3 Z rfl f8 ?_;walk_at "g";refine kZ he3 Z rfl f9 ?_;walk_at "g";refine kZ he3 Z rfl f10 ?_;walk_at "g";refine kZ he3 Z rfl f11 ?_;walk_at "g";refine dQI (aR l3) ?_;rw[dZ8 i hi];walk_at "g";refine⟨by show 8<=sizeLine;decide,λp4 h4=>?_⟩
 have k4:=aG h4 (HO.lst (clsL.map V.str))
 have l4:(upd H3 p4 (HO.lst (clsL.map V.str))) p4=some (HO.lst (clsL.map V.str)):=aH
 walk_at "g";refine dX6 (j:=i) (aR (k4 _ _ l3)) (eJ2 i hi) (λk y hk hy e=>?_) ?_
 ·rw[eZY i hi k hk]at hy;cases hy;cases e
 ·exact cU (aR l4) (eQK hi) (q _ (k1.trans (k3.trans k4)))
def DeedOk.lt{m:Nat}{f:Nat->Option Int}(h:DeedOk m f mss H dp i v):i<7:=by
 rcases h with⟨rfl,_⟩|⟨d,_,_,h,_⟩
 ·decide
 ·cases d with
  |haul n z=>rcases h with⟨rfl,_⟩|⟨rfl,_⟩ <;> decide
  |lower n=>rcases h with⟨rfl,_⟩;decide
  |lose z=>rcases h with⟨rfl,_⟩|⟨rfl,_⟩ <;> decide
  |find z=>rcases h with⟨rfl,_⟩;decide
  |say z=>rcases h with⟨rfl,_⟩|⟨rfl,_⟩ <;> decide
def DeedOk.lost{m:Nat}{f:Nat->Option Int}(h:DeedOk m f mss H dp 4 v):∃z:Str,v=.str z/\H dp=some (.tup [.str (Str.ofString "lose"),.str z]):=by
 rcases h with⟨h,_⟩|⟨d,e,_,h,rfl⟩
 ·cases h
 ·cases d with
  |haul n z=>rcases h with⟨h,_⟩|⟨h,_⟩ <;> cases h
  |lower n=>cases h.1
  |lose z=>exact⟨z,rfl,e⟩
  |find z=>cases h.1
  |say z=>rcases h with⟨h,_⟩|⟨h,_⟩ <;> cases h
def bJ7:∀i,i<7->i≠2->oP i≠Str.ofString "word" := by decide +kernel
def bQ3:∀i,i<7->i≠4->oP i≠Str.ofString "short" := by decide +kernel
def aQD(C:Addr):Sp:=λvs H Q _=>∃(x b s0 st hg dd dx dp:Addr) (m:Nat) (bk:List (Str×Str)) (mss:List (List (List Nat))) (hs:List (Option (List Nat))) (f:Nat->Option Int) (dps:List Addr) (i:Nat) (v:V),vs=[.ref x,.ref dp]/\TwAll C H x b s0 st hg dd dx m bk mss hs f dps/\dps.length<=900/\DeedOk m f mss H dp i v/\∀H',Same H H'->Q (.str (oP i)) H'
def yB4:FnScope ["_law_tower", "_law_deed_here", "_law_e", "_law_word_here"] ["_law_tower", "_law_deed_here"] (aK uQ):=by walk_at "sc"
def cQO(F:Fun K "_law_told" "_law_told" uQ f fd)(o0:aXM (CXr P w) P w K mg base 15 Z0 "do" ["self", "deed"] (lS Z0 Zt Zy Zw Zu Zq Zv Zr Zo))(yB5:fXB P w K mg base 1 "_law_class" ["_law_e"] (pL K Zt Zy Zw Zu Zq Zv Zr Zo Zs Zx Zp Zz)):FnOk P w K mg base CX0 17 f fd ["_law_tower", "_law_deed_here"] (aQD Z0):=by
 refine F.ok yB4 (λvs H Q E h=>?_) (λcdv A outer s H vs Q E hr h=>?_)
 ·obtain⟨x,b,s0,st,hg,dd,dx,dp,m,bk,mss,hs,f,dps,i,v,rfl,_⟩:=h;rfl
 obtain⟨x,b,s0,st,hg,dd,dx,dp,m,bk,mss,hs,f,dps,i,v,rfl,tw,hdl,hok,q⟩:=h;refine⟨_,(@aE _ _ _ _ _ (cJI (i:=2) rfl rfl rfl yB4.nd rfl rfl rfl G.c_TowerError (λy3 R=>(@aI _ _ _ (cH (bZ4 o0 G.cl_Tower (pH rfl) hr (by decide) (mv 0) (aA (mv 1) aB))))) (λy3 ea=>(@aE _ _ _ _ _ (aP 3 yB4.nd (dZ4 yB5 hr (by decide) rfl (aA (mv 2) aB))) (@aE _ _ _ _ _ (bZ (PW.pt (oG (PW.pt (xB (bC iE (mv 3) cS (bD _)) (qP (bC cXE (pS (K:=K) rfl (mv 2) rfl) aJ (bD _))))) (mR (PW.pt (xB (bC iE (mv 3) cS (bD _)) (qP (bC cXE (pS (K:=K) rfl (mv 2) rfl) (bI bX (mv 1) aJ (λ_ _=>rfl)) (bD _)))))))) (@aI _ _ _ (aV cS)) bH) (@aI _ _ _ (aV (mv 3))))))) (@aI _ _ _ (aV cS))),?_⟩
 have hi:=hok.lt
 have kn:ExK K (xR Zt Zy Zw Zu Zq Zv Zr i)/\Knd K Zt Zy Zw Zu Zq Zv Zr Zo Zs Zx Zp Zz (xR Zt Zy Zw Zu Zq Zv Zr i) i:=by
  clear hok q
  match i,hi with
  |0,_=>exact⟨G.ek_NoDeed,G.kn_NoDeed⟩
  |1,_=>exact⟨G.ek_NoHalyard,G.kn_NoHalyard⟩
  |2,_=>exact⟨G.xx_NoWord,G.kn_NoWord⟩
  |3,_=>exact⟨G.ek_NoFlag,G.kn_NoFlag⟩
  |4,_=>exact⟨G.xx_Short,G.kn_Short⟩
  |5,_=>exact⟨G.ek_NoText,G.kn_NoText⟩
  |6,_=>exact⟨G.xx_NoCut,G.kn_NoCut⟩
 walk_at "g";refine⟨x,dx,_,rfl,tw.ins,aJC,?_⟩;walk_at "g";refine⟨x,b,s0,st,hg,dd,dx,dp,m,bk,mss,hs,f,dps,rfl,tw,hdl,.inl ⟨i,v,hok,λo H1 s1 xo=>⟨kn.2.2.2.2.2.2.2.2.2.2.2.2.2,λea hea=>?_⟩⟩⟩;have k2:=aG hea (jU ea (.ref (xR Zt Zy Zw Zu Zq Zv Zr i)) o)
 have he:(upd H1 ea (jU ea (.ref (xR Zt Zy Zw Zu Zq Zv Zr i)) o)) ea=some (jU ea (.ref (xR Zt Zy Zw Zu Zq Zv Zr i)) o):=aH
 generalize upd H1 ea (jU ea (.ref (xR Zt Zy Zw Zu Zq Zv Zr i)) o)=H2 at k2 he ⊢;have hex:ExAt H2 ea (xR Zt Zy Zw Zu Zq Zv Zr i):=by
  rcases xo with⟨_,d,rfl,e⟩|⟨_,d,rfl,e⟩|⟨_,d,_,rfl,e⟩|⟨_,_,_,rfl⟩
  ·exact .inr ⟨d,_,he,k2 _ _ e⟩
  ·exact .inr ⟨d,_,he,k2 _ _ e⟩
  ·exact .inr ⟨d,_,he,k2 _ _ e⟩
  ·exact .inl he
 walk_at "g";refine⟨ea,_,i,rfl,kn.1,kn.2,by omega,hex,λH3 s3=>?_⟩
 have s13:=k2.trans s3
 by_cases h2:i=2
 ·subst h2;obtain ⟨d,rfl,e⟩:∃ d,o=some d/\H1 d=some (xdO d [("at",.int 0)]):=by
   rcases xo with⟨_,h⟩|⟨h,_⟩|⟨h,_⟩|⟨h,_⟩
   ·exact h
   ·cases h
   ·cases h
   ·exact absurd rfl h
  walk_at "g";rw[show decide (oP 2=Str.ofString "word")=true from by decide +kernel]
  walk_at "g";refine⟨ea,Zw,d,_,_,rfl,.inl (s3 _ _ he),s13 _ _ e,G.xx_NoWord,G.xn_NoWord_at,rfl,?_⟩;walk_at "g";rw[show (!decide ((0:Int)=0))=false from rfl];walk_at "g";rw[show decide (oP 2=Str.ofString "short")=false from by decide +kernel]
  walk_at "g";exact q H3 (s1.trans s13)
 by_cases h4:i=4
 ·subst h4;obtain ⟨d,rfl,e⟩:∃ d,o=some d/\H1 d=some (xdO d [("flag",v)]):=by
   rcases xo with⟨h,_⟩|⟨_,h⟩|⟨h,_⟩|⟨_,h,_⟩
   ·cases h
   ·exact h
   ·cases h
   ·exact absurd rfl h
  obtain⟨z,rfl,ez⟩:=hok.lost;have e3:=(s1.trans s13) _ _ ez
  have tz:=cN e3
  walk_at "g";rw[show decide (oP 4=Str.ofString "word")=false from by decide +kernel]
  walk_at "g";rw[show decide (oP 4=Str.ofString "short")=true from by decide +kernel]
  walk_at "g";refine⟨ea,Zq,d,_,_,rfl,.inl (s3 _ _ he),s13 _ _ e,G.xx_Short,G.xn_Short_flag,rfl,?_⟩;walk_at "g";refine cK e3 (v:=.str z) (bB (j:=1) rfl) ?_;walk_at "g";rw[show (!decide (z=z))=false by rw[Ap rfl];rfl]
  walk_at "g";exact q H3 (s1.trans s13)
 walk_at "g";rw[As (bJ7 i hi h2)];walk_at "g";rw[As (bQ3 i hi h4)];walk_at "g";exact q H3 (s1.trans s13)
def eXI(H:Hp)(p:Addr):Prop:=∃ts,H p=some (.tup ts)/\cJA ts
def BadAll(H0 H:Hp)(ps:List Addr):Prop:=Same H0 H/\∀p∈ps,eXI H p
def BadAll.keep{H0:Hp}(b:BadAll H0 H ps)(s:Same H H'):BadAll H0 H' ps:=⟨b.1.trans s,λp hp=>by
 obtain⟨ts,e,b⟩:=b.2 p hp;exact⟨ts,s _ _ e,b⟩⟩
def BadAll.put{H0:Hp}(b:BadAll H0 H ps)(ts:List V)(hp:H p=none)(h:cJA ts):BadAll H0 (upd H p (.tup ts)) (ps++[p]):=by
 have k:=b.keep (aG hp (.tup ts))
 refine⟨k.1,λq hq=>?_⟩;rcases Bp.mp hq with z|z
 ·exact k.2 q z
 ·rw[Al.mp z];exact⟨ts,aH,h⟩
def mU(a:Int){n:Nat}(h:1<=n):∃y:Nat,a%(n:Int)=(y:Int)/\y<n:=by
 have x0:=Bx a (show ((n:Nat):Int)≠0 by omega)
 have x1:=Cb a (show (0:Int)<(n:Int) by omega)
 exact⟨(a%(n:Int)).toNat,(Fc x0).symm,by omega⟩
def qW{zs:List V}(e:(V.str z::zs).length=n)(h:things.lookup z≠some (n:Int)):cJA (.str z::zs):=.inr ⟨z,zs,rfl,by rw[e];exact h⟩
def qQ:Sp:=λvs H Q _=>∃(N:Int) (w:Str),vs=[.int N,.str w]/\∀(p:Addr) (H':Hp),Same H H'->eXI H' p->Q (.ref p) H'
def m7:FnScope ["_law_number", "_law_word_here", "_law_some"] ["_law_number", "_law_word_here"] (aK lG):=by walk_at "sc"
def aQO(F:Fun K "_law_no_deed" "_law_no_deed" lG f fd)(G:Gs K mg w Zo Zz Zq Zx Z0 Zt Zy Zw Zu Zv Zr Zs Zp):FnOk P w K mg base CX0 1 f fd ["_law_number", "_law_word_here"] qQ:=by
 refine F.ok m7 (λvs H Q E h=>?_) (λcdv A outer s H vs Q E hr h=>?_)
 ·obtain⟨N,w,rfl,_⟩:=h;rfl
 obtain⟨N,w,rfl,q⟩:=h;refine⟨_,(@aE _ _ _ _ _ (aP 2 m7.nd (@bJ _ _ _ _ (@cM _ _ _ _ _ _ _ aB (@cM _ _ _ _ _ _ _ (@aY _ _ _ _ _ _ (@gQ _ _ _ _ _ _ (aA (mv 1) aB))) (@cM _ _ _ _ _ _ _ (@aY _ _ _ _ _ _ aB) (@cM _ _ _ _ _ _ _ (@aY _ _ _ _ _ _ (@gQ _ _ _ _ _ _ aB)) (@cM _ _ _ _ _ _ _ (@aY _ _ _ _ _ _ (@gQ _ _ _ _ _ _ (aA (mv 1) (aA (mv 1) aB)))) (@cM _ _ _ _ _ _ _ (@aY _ _ _ _ _ _ aB) (@cM _ _ _ _ _ _ _ (@aY _ _ _ _ _ _ (@gQ _ _ _ _ _ _ (@gQ _ _ _ _ _ _ aB))) aB))))))))) (@aE _ _ _ _ _ (aP 2 m7.nd (aQ bN (mv 2) (@bJ _ _ _ _ (@cM _ _ _ _ _ _ _ (@aY _ _ _ _ _ _ aB) (@cM _ _ _ _ _ _ _ (@aY _ _ _ _ _ _ (@aY _ _ _ _ _ _ (@aY _ _ _ _ _ _ aB))) (@cM _ _ _ _ _ _ _ (@aY _ _ _ _ _ _ aB) (@cM _ _ _ _ _ _ _ (@aY _ _ _ _ _ _ (@aY _ _ _ _ _ _ (@aY _ _ _ _ _ _ aB))) (@cM _ _ _ _ _ _ _ (@aY _ _ _ _ _ _ aB) (@cM _ _ _ _ _ _ _ (@aY _ _ _ _ _ _ (@aY _ _ _ _ _ _ (@gQ _ _ _ _ _ _ aB))) aB))))))))) (@aE _ _ _ _ _ (aP 2 m7.nd (aQ bN (mv 2) (bJ (@cM _ _ _ _ _ _ _ (@aY _ _ _ _ _ _ aB) (@cM _ _ _ _ _ _ _ (@aY _ _ _ _ _ _ (@gQ _ _ _ _ _ _ (aA (mv 1) aB))) aB))))) (@aI _ _ _ (aV (bI bX (mv 2) (aQ cV (mv 0) aJ) (λ_ _=>rfl))))))),?_⟩;have B:BadAll H H []:=⟨Same.refl H,λp hp=>nomatch hp⟩
 walk_at "g";refine⟨by decide,λp1 h1=>?_⟩
 replace B:=B.put [] h1 (.inl rfl)
 generalize upd H p1 (.tup [])=H1 at B ⊢;walk_at "g";refine⟨by show 3<=sizeLine;decide,λp2 h2=>?_⟩
 replace B:=B.put [.str (Str.ofString "hoist"),.int 0,.str w] h2 (qW (n:=3) rfl (by decide +kernel))
 generalize upd H1 p2 (.tup [.str (Str.ofString "hoist"),.int 0,.str w])=H2 at B ⊢;walk_at "g";refine⟨by show 1<=sizeLine;decide,λp3 h3=>?_⟩
 replace B:=B.put [.str (Str.ofString "haul")] h3 (qW (n:=1) rfl (by decide +kernel))
 generalize upd H2 p3 (.tup [.str (Str.ofString "haul")])=H3 at B ⊢;walk_at "g";refine⟨by show 2<=sizeLine;decide,λp4 h4=>?_⟩
 replace B:=B.put [.str (Str.ofString "haul"),.int 0] h4 (qW (n:=2) rfl (by decide +kernel))
 generalize upd H3 p4 (.tup [.str (Str.ofString "haul"),.int 0])=H4 at B ⊢;walk_at "g";refine⟨by show 4<=sizeLine;decide,λp5 h5=>?_⟩
 replace B:=B.put [.str (Str.ofString "haul"),.int 0,.str w,.str w] h5 (qW (n:=4) rfl (by decide +kernel))
 generalize upd H4 p5 (.tup [.str (Str.ofString "haul"),.int 0,.str w,.str w])=H5 at B ⊢;walk_at "g";refine⟨by show 1<=sizeLine;decide,λp6 h6=>?_⟩
 replace B:=B.put [.str (Str.ofString "lower")] h6 (qW (n:=1) rfl (by decide +kernel))
 generalize upd H5 p6 (.tup [.str (Str.ofString "lower")])=H6 at B ⊢;walk_at "g";refine⟨by show 3<=sizeLine;decide,λp7 h7=>?_⟩
 replace B:=B.put [.str (Str.ofString "lower"),.int 0,.int 0] h7 (qW (n:=3) rfl (by decide +kernel))
 generalize upd H6 p7 (.tup [.str (Str.ofString "lower"),.int 0,.int 0])=H7 at B ⊢;walk_at "g";refine⟨by show 7<=sizeLine;decide,λqA gA=>?_⟩
 replace B:=B.keep (aG gA (.lst [V.ref p1,V.ref p2,V.ref p3,V.ref p4,V.ref p5,V.ref p6,V.ref p7]))
 have lA:(upd H7 qA (.lst [V.ref p1,V.ref p2,V.ref p3,V.ref p4,V.ref p5,V.ref p6,V.ref p7])) qA=some (.lst [V.ref p1,V.ref p2,V.ref p3,V.ref p4,V.ref p5,V.ref p6,V.ref p7]):=aH
 generalize upd H7 qA (.lst [V.ref p1,V.ref p2,V.ref p3,V.ref p4,V.ref p5,V.ref p6,V.ref p7])=HA at B lA ⊢;walk_at "g";refine⟨by show 1<=sizeLine;decide,λp8 h8=>?_⟩
 replace lA:=aG h8 (.tup [.str (Str.ofString "say")]) _ _ lA
 replace B:=B.put [.str (Str.ofString "say")] h8 (qW (n:=1) rfl (by decide +kernel))
 generalize upd HA p8 (.tup [.str (Str.ofString "say")])=H8 at B lA ⊢;walk_at "g";refine⟨by show 3<=sizeLine;decide,λp9 h9=>?_⟩
 replace lA:=aG h9 (.tup [.str (Str.ofString "say"),.str (Str.ofString "sail"),.str (Str.ofString "fog")]) _ _ lA
 replace B:=B.put [.str (Str.ofString "say"),.str (Str.ofString "sail"),.str (Str.ofString "fog")] h9 (qW (n:=3) rfl (by decide +kernel))
 generalize upd H8 p9 (.tup [.str (Str.ofString "say"),.str (Str.ofString "sail"),.str (Str.ofString "fog")])=H9 at B lA ⊢;walk_at "g";refine⟨by show 1<=sizeLine;decide,λp10 h10=>?_⟩
 replace lA:=aG h10 (.tup [.str (Str.ofString "lose")]) _ _ lA
 replace B:=B.put [.str (Str.ofString "lose")] h10 (qW (n:=1) rfl (by decide +kernel))
 generalize upd H9 p10 (.tup [.str (Str.ofString "lose")])=H10 at B lA ⊢;walk_at "g";refine⟨by show 3<=sizeLine;decide,λp11 h11=>?_⟩
 replace lA:=aG h11 (.tup [.str (Str.ofString "lose"),.str (Str.ofString "a"),.str (Str.ofString "a")]) _ _ lA
 replace B:=B.put [.str (Str.ofString "lose"),.str (Str.ofString "a"),.str (Str.ofString "a")] h11 (qW (n:=3) rfl (by decide +kernel))
 generalize upd H10 p11 (.tup [.str (Str.ofString "lose"),.str (Str.ofString "a"),.str (Str.ofString "a")])=H11 at B lA ⊢;walk_at "g";refine⟨by show 1<=sizeLine;decide,λp12 h12=>?_⟩
 replace lA:=aG h12 (.tup [.str (Str.ofString "find")]) _ _ lA
 replace B:=B.put [.str (Str.ofString "find")] h12 (qW (n:=1) rfl (by decide +kernel))
 generalize upd H11 p12 (.tup [.str (Str.ofString "find")])=H12 at B lA ⊢;walk_at "g";refine⟨by show 3<=sizeLine;decide,λp13 h13=>?_⟩
 replace lA:=aG h13 (.tup [.str (Str.ofString "find"),.str (Str.ofString "a"),.int 1]) _ _ lA
 replace B:=B.put [.str (Str.ofString "find"),.str (Str.ofString "a"),.int 1] h13 (qW (n:=3) rfl (by decide +kernel))
 generalize upd H12 p13 (.tup [.str (Str.ofString "find"),.str (Str.ofString "a"),.int 1])=H13 at B lA ⊢;walk_at "g";refine⟨by show 6<=sizeLine;decide,λqB gB=>?_⟩
 refine fL (bQ (aG gB _ _ _ lA)) dD (by show 13<=sizeLine;decide) λrB fB=>?_
 have sB:=(aG gB (.lst [V.ref p8,V.ref p9,V.ref p10,V.ref p11,V.ref p12,V.ref p13])).trans (aG fB (.lst [V.ref p1,V.ref p2,V.ref p3,V.ref p4,V.ref p5,V.ref p6,V.ref p7,V.ref p8,V.ref p9,V.ref p10,V.ref p11,V.ref p12,V.ref p13]))
 replace B:=B.keep sB
 have lB:(upd (upd H13 qB (.lst [V.ref p8,V.ref p9,V.ref p10,V.ref p11,V.ref p12,V.ref p13])) rB (.lst [V.ref p1,V.ref p2,V.ref p3,V.ref p4,V.ref p5,V.ref p6,V.ref p7,V.ref p8,V.ref p9,V.ref p10,V.ref p11,V.ref p12,V.ref p13])) rB=some (.lst [V.ref p1,V.ref p2,V.ref p3,V.ref p4,V.ref p5,V.ref p6,V.ref p7,V.ref p8,V.ref p9,V.ref p10,V.ref p11,V.ref p12,V.ref p13]):=aH
 change gH 2 (V.ref rB) _ (upd (upd H13 qB (.lst [V.ref p8,V.ref p9,V.ref p10,V.ref p11,V.ref p12,V.ref p13])) rB (.lst [V.ref p1,V.ref p2,V.ref p3,V.ref p4,V.ref p5,V.ref p6,V.ref p7,V.ref p8,V.ref p9,V.ref p10,V.ref p11,V.ref p12,V.ref p13])) _
 generalize upd (upd H13 qB (.lst [V.ref p8,V.ref p9,V.ref p10,V.ref p11,V.ref p12,V.ref p13])) rB (.lst [V.ref p1,V.ref p2,V.ref p3,V.ref p4,V.ref p5,V.ref p6,V.ref p7,V.ref p8,V.ref p9,V.ref p10,V.ref p11,V.ref p12,V.ref p13])=HB at B lB ⊢;walk_at "g";refine⟨by show 1<=sizeLine;decide,λp14 h14=>?_⟩
 replace lB:=aG h14 (.tup [.str (Str.ofString "")]) _ _ lB
 replace B:=B.put [.str (Str.ofString "")] h14 (qW (n:=1) rfl (by decide +kernel))
 generalize upd HB p14 (.tup [.str (Str.ofString "")])=H14 at B lB ⊢;walk_at "g";refine⟨by show 3<=sizeLine;decide,λp15 h15=>?_⟩
 replace lB:=aG h15 (.tup [.str (Str.ofString "Haul"),.int 0,.str w]) _ _ lB
 replace B:=B.put [.str (Str.ofString "Haul"),.int 0,.str w] h15 (qW (n:=3) rfl (by decide +kernel))
 generalize upd H14 p15 (.tup [.str (Str.ofString "Haul"),.int 0,.str w])=H15 at B lB ⊢;walk_at "g";refine⟨by show 2<=sizeLine;decide,λqC gC=>?_⟩
 refine fL (bQ (aG gC _ _ _ lB)) dD (by show 15<=sizeLine;decide) λrC fC=>?_
 have sC:=(aG gC (.lst [V.ref p14,V.ref p15])).trans (aG fC (.lst [V.ref p1,V.ref p2,V.ref p3,V.ref p4,V.ref p5,V.ref p6,V.ref p7,V.ref p8,V.ref p9,V.ref p10,V.ref p11,V.ref p12,V.ref p13,V.ref p14,V.ref p15]))
 replace B:=B.keep sC
 have lC:(upd (upd H15 qC (.lst [V.ref p14,V.ref p15])) rC (.lst [V.ref p1,V.ref p2,V.ref p3,V.ref p4,V.ref p5,V.ref p6,V.ref p7,V.ref p8,V.ref p9,V.ref p10,V.ref p11,V.ref p12,V.ref p13,V.ref p14,V.ref p15])) rC=some (.lst [V.ref p1,V.ref p2,V.ref p3,V.ref p4,V.ref p5,V.ref p6,V.ref p7,V.ref p8,V.ref p9,V.ref p10,V.ref p11,V.ref p12,V.ref p13,V.ref p14,V.ref p15]):=aH
 change gH 2 (V.ref rC) _ (upd (upd H15 qC (.lst [V.ref p14,V.ref p15])) rC (.lst [V.ref p1,V.ref p2,V.ref p3,V.ref p4,V.ref p5,V.ref p6,V.ref p7,V.ref p8,V.ref p9,V.ref p10,V.ref p11,V.ref p12,V.ref p13,V.ref p14,V.ref p15])) _
 generalize upd (upd H15 qC (.lst [V.ref p14,V.ref p15])) rC (.lst [V.ref p1,V.ref p2,V.ref p3,V.ref p4,V.ref p5,V.ref p6,V.ref p7,V.ref p8,V.ref p9,V.ref p10,V.ref p11,V.ref p12,V.ref p13,V.ref p14,V.ref p15])=HC at B lC ⊢;walk_at "g";obtain⟨y,ey,hy⟩:∃y:Nat,N%15=(y:Int)/\y<15:=mU N (n:=15) (by decide)
 rw[ey];have hy':y<([]++[p1]++[p2]++[p3]++[p4]++[p5]++[p6]++[p7]++[p8]++[p9]++[p10]++[p11]++[p12]++[p13]++[p14]++[p15]:List Addr).length:=hy
 refine cU (aR lC) (v:=.ref (([]++[p1]++[p2]++[p3]++[p4]++[p5]++[p6]++[p7]++[p8]++[p9]++[p10]++[p11]++[p12]++[p13]++[p14]++[p15]:List Addr)[y])) (bB (by rw[show ([V.ref p1,V.ref p2,V.ref p3,V.ref p4,V.ref p5,V.ref p6,V.ref p7,V.ref p8,V.ref p9,V.ref p10,V.ref p11,V.ref p12,V.ref p13,V.ref p14,V.ref p15]:List V)=([]++[p1]++[p2]++[p3]++[p4]++[p5]++[p6]++[p7]++[p8]++[p9]++[p10]++[p11]++[p12]++[p13]++[p14]++[p15]:List Addr).map V.ref from rfl,Ag,Aa hy'];rfl)) ?_
 exact q _ _ B.1 (B.2 _ (Bk _))
def qM{c:Nat}(h:c∈z.cps.toList)(hn:¬bA c):jF z=false:=by
 unfold jF;cases e:fM z with
 |false=>rfl
 |true=>exact absurd ((kL e).2 c h) hn
def bJ4(h:7<z.length):jF z=false:=by
 unfold jF;cases e:fM z with
 |false=>rfl
 |true=>have:=(kL e).1;omega
def kU(a b:Str):(a++b).cps.toList=a.cps.toList++b.cps.toList:=FlT.app_cps _ _
def bXZ(h6:cs.length<=6)(hL:∀d∈cs,bA d){c:Nat}(hc:bA c)(hn:c≠ckL cs):jF (aU (cs++[c]))=false:=by
 obtain⟨k1,k2⟩:=cJP h6 hL;unfold jF dQC;rw[bV,rL h6 hL k1 k2 hc,As hn,Fv,Fv]
def bQ9{c:Nat}(h:bA c):jF (Txt.upper (aU (c::cs)))=false:=by
 unfold bA at h;obtain⟨y,e⟩:=bQ8 (c:=c) (by omega) (by omega) cs
 rw[show aU (c::cs)=⟨(c::cs).toArray⟩ from rfl,e];exact qM (c:=c-32) (by rw[kU];exact Co _ Aj) (λz=>by unfold bA at z;omega)
def vH:Txt.slice (aU (cs++[k])) none (some (-1))=aU cs:=by
 refine FlT.str_ext ?_;rw[FlT.slice_cps,bV,bV,cC];show ((cs++[k]).drop 0).take ((if (-1:Int)<0 then ((-1:Int)+((cs++[k]).length:Int)).toNat else min (-1:Int).toNat (cs++[k]).length)-0)=_
 rw[if_pos (by decide),List.drop_zero,Nat.sub_zero,Af,show ((-1:Int)+((cs.length+[k].length:Nat):Int)).toNat=cs.length by show ((-1:Int)+((cs.length+1:Nat):Int)).toNat=cs.length;omega]
 rw[List.take_append_of_le_length (Ai _),Cg]
def dZW:atI (aU (cs++[k])).cps.toList (-1)=some k:=by
 rw[bV];unfold atI;have e:ixN (cs++[k]).length (-1)=some cs.length:=by
  rw[Af];unfold ixN;rw[if_neg (by omega),if_pos (by show _<=_;have:[k].length=1:=rfl;omega)]
  refine Ds some ?_;show ((-1:Int)+((cs.length+1:Nat):Int)).toNat=_
  omega
 rw[e];show (cs++[k])[cs.length]?=some k
 rw[Av (Ai _),Ek];rfl
def qS:Sp:=λvs H Q _=>∃(N:Int) (cs:List Nat),vs=[.int N,.str (aU (cs++[ckL cs]))]/\1<=cs.length/\cs.length<=6/\(∀d∈cs,bA d)/\∀(z:Str) (H':Hp),Same H H'->z.length<=1000->jF z=false->Q (.str z) H'
def o8:FnScope ["_law_number", "_law_word_here", "_law_letters", "_law_turned", "_law_wrong", "_law_some"] ["_law_number", "_law_word_here"] (aK lR):=by walk_at "sc"
def aXQ(F:Fun K "_law_no_word" "_law_no_word" lR f fd)(G:Gs K mg w Zo Zz Zq Zx Z0 Zt Zy Zw Zu Zv Zr Zs Zp):FnOk P w K mg base CX0 1 f fd ["_law_number", "_law_word_here"] qS:=by
 refine F.ok o8 (λvs H Q E h=>?_) (λcdv A outer s H vs Q E hr h=>?_)
 ·obtain⟨N,cs,rfl,_⟩:=h;rfl
 obtain⟨N,cs,rfl,h1,h6,hL,q⟩:=h;refine⟨_,(@aE _ _ _ _ _ (aP 2 o8.nd cS) (@aE _ _ _ _ _ (aP 3 o8.nd (aQ bN (aQ bN (cA Cm PySem.F.slot_str_find PySem.F.type_str_find bXT (mv 2) (aA (bI bX (mv 1) (sX sV aJ) (λ_ _=>rfl)) aB)) aJ) (aQ cV (aQ fF (mv 0) aJ) aJ))) (@aE _ _ _ _ _ (aP 4 o8.nd (aQ bN (dP aZF (mv 1) qZ (dE (sX sV aJ))) (bI bX (mv 2) (aQ cV (mv 3) aJ) (λ_ _=>rfl)))) (@aE _ _ _ _ _ (aP 5 o8.nd (@bJ _ _ _ _ (aA (mv 4) (@aY _ _ _ _ _ _ (@aY _ _ _ _ _ _ (@aY _ _ _ _ _ _ (aA (cX9 Cm PySem.F.slot_str_upper PySem.F.type_str_upper dQF (mv 1)) (aA (aQ bN (mv 1) cS) (aA (aQ bN (dP aZF (mv 1) qZ (dE (sX sV aJ))) cS) (aA (aQ bN cS (mv 1)) (aA (aQ bN (mv 1) cS) aB))))))))))) (@aI _ _ _ (aV (bI bX (mv 5) (aQ cV (mv 0) aJ) (λ_ _=>rfl)))))))),?_⟩;obtain⟨k1,k2⟩:=cJP h6 hL;have hwl:(aU (cs++[ckL cs])).length=cs.length+1:=by rw[cC,Af];rfl
 have hk:=k1
 unfold bA at hk;walk_at "g";refine xE (by rw[hwl];exact bO (by omega)) dZW ?_
 walk_at "g";refine bXU ?_;rw[show Txt.find (Str.ofString "abcdefghijklmnopqrstuvw") (one (ckL cs))=((ckL cs-97:Nat):Int) from xH k1];have x0:=Bx (N / 9) (show (22:Int)≠0 by decide)
 have x1:=Cb (N / 9) (show (0:Int)<22 by decide)
 walk_at "g";obtain⟨y,ey,hy⟩:∃y:Nat,(((ckL cs-97:Nat):Int)+1+N / 9%22)%23=(y:Int)/\y<23:=mU _ (n:=23) (by decide)
 have hne:97+y≠ckL cs:=by omega
 have hyl:bA (97+y):=⟨by omega,by omega⟩
 rw[ey];clear ey x0 x1;refine xE (by show 23<=sizeLine;decide) (bJV hy) ?_
 rw[vH];have hsl:=cC cs
 walk_at "g";rw[show aU cs++⟨#[97+y]⟩=aU (cs++[97+y]) from gR cs (97+y)];walk_at "g";refine cJ0 (by omega) λhup=>?_
 walk_at "g";rw[vH];have hb:(Str.ofString " ").length=1:=rfl
 walk_at "g";refine⟨by show 9<=sizeLine;decide,λp hp=>?_⟩
 have hall:∀z∈([aU (cs++[97+y]),Str.ofString "",Str.ofString "a",Str.ofString "x",Txt.upper (aU (cs++[ckL cs])),aU (cs++[ckL cs])++Str.ofString "aaaaaaa",aU cs++Str.ofString "1",Str.ofString " " ++ aU (cs++[ckL cs]),aU (cs++[ckL cs])++Str.ofString "\n"]:List Str),jF z=false/\z.length<=1000:=λz hz=>by
  simp only[List.mem_cons,List.not_mem_nil,or_false]at hz;rcases hz with rfl|rfl|rfl|rfl|rfl|rfl|rfl|rfl|rfl
  ·exact⟨bXZ h6 hL hyl hne,by rw[cC,Af];show _+1<=_;omega⟩
  ·exact⟨by decide +kernel,by decide⟩
  ·exact⟨by decide +kernel,by decide⟩
  ·exact⟨by decide +kernel,by decide⟩
  ·refine⟨?_,by omega⟩
   cases cs with
   |nil=>exact absurd h1 (by decide)
   |cons c r=>exact bQ9 (hL c Aj)
  ·exact⟨bJ4 (by rw[Dv,hwl];show 7<_+7;omega),by rw[Dv,hwl];show _+7<=_;omega⟩
  ·exact⟨qM (c:=49) (by rw[kU];exact Bc _ Aj) (by unfold bA;decide),by rw[Dv,hsl];show _+1<=_;omega⟩
  ·exact⟨qM (c:=32) (by rw[kU];exact Co _ Aj) (by unfold bA;decide),by rw[Dv,hwl];show 1+_<=_;omega⟩
  ·exact⟨qM (c:=10) (by rw[kU];exact Bc _ Aj) (by unfold bA;decide),by rw[Dv,hwl];show _+1<=_;omega⟩
 change gH 5 (V.ref p) _ (upd H p (HO.lst (([aU (cs++[97+y]),Str.ofString "",Str.ofString "a",Str.ofString "x",Txt.upper (aU (cs++[ckL cs])),aU (cs++[ckL cs])++Str.ofString "aaaaaaa",aU cs++Str.ofString "1",Str.ofString " " ++ aU (cs++[ckL cs]),aU (cs++[ckL cs])++Str.ofString "\n"]:List Str).map V.str))) _
 have hlen:([aU (cs++[97+y]),Str.ofString "",Str.ofString "a",Str.ofString "x",Txt.upper (aU (cs++[ckL cs])),aU (cs++[ckL cs])++Str.ofString "aaaaaaa",aU cs++Str.ofString "1",Str.ofString " " ++ aU (cs++[ckL cs]),aU (cs++[ckL cs])++Str.ofString "\n"]:List Str).length=9:=rfl
 generalize ([aU (cs++[97+y]),Str.ofString "",Str.ofString "a",Str.ofString "x",Txt.upper (aU (cs++[ckL cs])),aU (cs++[ckL cs])++Str.ofString "aaaaaaa",aU cs++Str.ofString "1",Str.ofString " " ++ aU (cs++[ckL cs]),aU (cs++[ckL cs])++Str.ofString "\n"]:List Str)=ts at hall hlen ⊢;have k3:=aG hp (.lst (ts.map V.str))
 have r3:rdL (upd H p (.lst (ts.map V.str))) p=some (ts.map V.str):=bP
 generalize upd H p (.lst (ts.map V.str))=H3 at k3 r3 ⊢;have w0:=Bx N (show (9:Int)≠0 by decide)
 have w1:=Cb N (show (0:Int)<9 by decide)
 obtain⟨z,hz,az,_⟩:=bZ9 (ss:=ts) w0 (by rw[hlen];exact w1)
 walk_at "g";refine cU r3 az ?_;exact q z H3 k3 (hall z hz).2 (hall z hz).1
def gQQ{n x:Int}(h1:1<=m)(hx:0<=x)(h6:m<=6)(h:n∈([m,-1,m+1+x,100000000000000000000]:List Int)):¬(0<=n/\n<m):=by
 simp only[List.mem_cons,List.not_mem_nil,or_false]at h;rcases h with rfl|rfl|rfl|rfl<;>omega
def DeedOk.keep{m:Nat}{f:Nat->Option Int}(h:DeedOk m f mss H dp i v)(s:Same H H'):DeedOk m f mss H' dp i v:=by
 rcases h with⟨e,ts,t1,t2⟩|⟨d,t1,t2⟩
 ·exact .inl ⟨e,ts,s _ _ t1,t2⟩
 ·exact .inr ⟨d,s _ _ t1,t2⟩
def flg8:List Str:=["x", "5", "0", "ab", "", "A", "12", "-"]
def dJE:∀z∈flg8,dO z=false/\z.length<=1000:=by decide +kernel
def txt10:List Str:=["", "Sail", "sail  sail", " sail", "sail ", "sail\nsail", "sail 1", "y", "sail y", "sailsailsail"]
def cQJ:∀z∈txt10,z.length<=1000:=by decide +kernel
def cZ4:∀k,k<10->k≠7->k≠8->xY (txt10.getD k (Str.ofString "")) 40=false:=by decide +kernel
def eQL:∀k,k<10->(k=7\/k=8)->∃A:List (List Nat),txt10.getD k (Str.ofString "")=eY (A++[[121]])/\(A++[[121]]).length<=40/\∀t∈A++[[121]],jS t:=λk hk h=>by
 rcases h with rfl|rfl
 ·exact⟨[],by decide +kernel,by decide,by unfold jS cQ6;decide⟩
 ·exact⟨[[115,97,105,108]],by decide +kernel,by decide,by unfold jS cQ6;decide⟩
def fQK(hy:∀ms∈mss,[121]∉ms){m:Nat}{g:Nat->Option Int}(hk:k<10):(Dd.say (txt10.getD k (Str.ofString ""))).no m g mss (if k=7\/k=8 then 6 else 5):=by
 by_cases h:k=7\/k=8
 ·rw[if_pos h];obtain⟨A,e,l,t⟩:=eQL k hk h;exact .inr ⟨rfl,_,e,by rw[Af];show 1<=_+1;omega,l,t,dXC hy⟩
 ·rw[if_neg h];exact .inl ⟨rfl,cZ4 k hk (λz=>h (.inl z)) (λz=>h (.inr z))⟩
def fX9(xs:List Nat):xs.take 1=[]/\xs=[]\/∃c,xs.take 1=[c]/\c∈xs:=by
 cases xs with
 |nil=>exact .inl ⟨rfl,rfl⟩
 |cons c r=>exact .inr ⟨c,rfl,Aj⟩
def aJ8(g:Nat->Option Int):∀l:List Nat,∃F:List Nat,l.filterMap (λc=>if g c=none then some (V.str (one c)) else none)=(F.map one).map V.str/\∀c∈F,c∈l/\g c=none
 |[]=>⟨[],rfl,λc hc=>nomatch hc⟩
 |c::r=>by
  obtain⟨F,e,h⟩:=aJ8 g r;by_cases hc:g c=none
  ·refine⟨c::F,?_,λd hd=>?_⟩
   ·rw[Ci (f:=λc=>if g c=none then some (V.str (one c)) else none) (b:=V.str (one c)) (if_pos hc),e]
    rfl
   ·rcases Bb.mp hd with z|z
    ·rw[z];exact⟨Aj,hc⟩
    ·exact⟨Ak _ (h d z).1,(h d z).2⟩
  ·refine⟨F,?_,λd hd=>⟨Ak _ (h d hd).1,(h d hd).2⟩⟩;rw[Cp (f:=λc=>if g c=none then some (V.str (one c)) else none) (if_neg hc),e]
def fZQ(xs:List V):jP xs (some 0) (some 1)=xs.take 1:=by
 have:=aZP (xs:=xs) (s:=0) (l:=1) (Da _)
 simpa using this
def zO:Sp:=λvs H Q _=>∃(N:Int) (m:Nat) (cs:List Nat) (rl:Addr) (kvs:List (Key×V)) (g:Nat->Option Int) (mss:List (List (List Nat))),vs=[.int N,.int (m:Int),.str (aU (cs++[ckL cs])),.ref rl]/\1<=m/\m<=6/\1<=cs.length/\cs.length<=6/\(∀d∈cs,bA d)/\H rl=some (.dK kvs)/\Lk kvs g/\(∀ms∈mss,[121]∉ms)/\
 ∀(t dp:Addr) (i:Nat) (v:V) (H':Hp),Same H H'->H' t=some (.tup [.ref dp,.str (oP i)])->DeedOk m g mss H' dp i v->Q (.ref t) H'
def w4:FnScope ["_law_number", "_law_many", "_law_word_here", "_law_locker", "_law_way", "_law_halyard", "_law_flag", "_law_texts"] ["_law_number", "_law_many", "_law_word_here", "_law_locker"] (aK qV):=by walk_at "sc"
def cQC(F:Fun K "_law_deed" "_law_deed" qV f fd)(yB6:Cal P w K mg base 1 "_law_no_deed" ["_law_number", "_law_word_here"] qQ)(m9:Cal P w K mg base 1 "_law_no_word" ["_law_number", "_law_word_here"] qS):FnOk P w K mg base CX0 2 f fd ["_law_number", "_law_many", "_law_word_here", "_law_locker"] zO:=by
 refine F.ok w4 (λvs H Q E h=>?_) (λcdv A outer s H vs Q E hr h=>?_)
 ·obtain⟨N,m,cs,rl,kvs,g,mss,rfl,_⟩:=h;rfl
 obtain⟨N,m,cs,rl,kvs,g,mss,rfl,m1,m6,h1,h6,hL,hrl,lk,hy,q⟩:=h;refine⟨_,(@aE _ _ _ _ _ (aP 4 w4.nd (aQ cV (mv 0) aJ)) (@aE _ _ _ _ _ (aP 0 w4.nd (aQ fF (mv 0) aJ)) (@aE _ _ _ _ _ (aP 5 w4.nd (@bI _ _ _ _ _ _ _ bX (@bJ _ _ _ _ (aA (mv 1) (aA (sX sV aJ) (aA (aQ bN (aQ bN (mv 1) aJ) (aQ cV (mv 0) aJ)) (aA (aQ fQI aJ aJ) aB))))) (aQ cV (aQ fF (mv 0) aJ) aJ) (λ_ _=>rfl))) (@aE _ _ _ _ _ (bZ (bC iE (mv 4) aJ (bD _)) (@aI _ _ _ (aV (cW (aA (aZ yB6 hr (by decide) rfl (aA (mv 0) (aA (mv 2) aB))) (@aY _ _ _ _ _ _ aB))))) bH) (@aE _ _ _ _ _ (bZ (bC iE (mv 4) aJ (bD _)) (@aI _ _ _ (aV (cW (@cM _ _ _ _ _ _ _ (@aY _ _ _ _ _ _ (aA (mv 5) (aA (mv 2) aB))) (@aY _ _ _ _ _ _ aB))))) bH) (@aE _ _ _ _ _ (bZ (bC iE (mv 4) aJ (bD _)) (@aI _ _ _ (aV (cW (@cM _ _ _ _ _ _ _ (@aY _ _ _ _ _ _ (aA (mv 5) (aA (aZ m9 hr (by decide) rfl (aA (aQ fF (mv 0) aJ) (aA (mv 2) aB))) aB))) (@aY _ _ _ _ _ _ aB))))) bH) (@aE _ _ _ _ _ (bZ (bC iE (mv 4) aJ (bD _)) (@aI _ _ _ (aV (cW (@cM _ _ _ _ _ _ _ (@aY _ _ _ _ _ _ (aA (aQ cV (mv 0) (mv 1)) (aA (aZ m9 hr (by decide) rfl (aA (aQ fF (mv 0) aJ) (aA (mv 2) aB))) aB))) (@aY _ _ _ _ _ _ aB))))) bH) (@aE _ _ _ _ _ (bZ (bC iE (mv 4) aJ (bD _)) (@aI _ _ _ (aV (cW (@cM _ _ _ _ _ _ _ (@aY _ _ _ _ _ _ (aA (mv 5) aB)) (@aY _ _ _ _ _ _ aB))))) bH) (@aE _ _ _ _ _ (bZ (bC iE (mv 4) aJ (bD _)) (@aE _ _ _ _ _ (aP 6 w4.nd (@bI _ _ _ _ _ _ _ bX (@bJ _ _ _ _ (@aY _ _ _ _ _ _ (@aY _ _ _ _ _ _ (@aY _ _ _ _ _ _ (@aY _ _ _ _ _ _ (@aY _ _ _ _ _ _ (@aY _ _ _ _ _ _ (@aY _ _ _ _ _ _ (@aY _ _ _ _ _ _ aB))))))))) (aQ cV (aQ fF (mv 0) aJ) aJ) (λ_ _=>rfl))) (@aI _ _ _ (aV (cW (@cM _ _ _ _ _ _ _ (aA (@bI _ _ _ _ _ _ _ bX (bJ (@aY _ _ _ _ _ _ (@aY _ _ _ _ _ _ aB))) (aQ cV (mv 0) aJ) (λ_ _=>rfl)) (aA (mv 6) aB)) (@aY _ _ _ _ _ _ aB)))))) bH) (@aE _ _ _ _ _ (bZ (bC iE (mv 4) aJ (bD _)) (@aE _ _ _ _ _ (aP 6 w4.nd (dP aZF (cJ rfl (kT cS) (fH (N:=["_law_one", "_law_locker"]) ["_law_number", "_law_many", "_law_word_here", "_law_locker", "_law_way", "_law_halyard", "_law_flag", "_law_texts"] (aK qV) [none,some 3] rfl rfl rfl (λx h=>cE h) (by decide +kernel)) (by decide +kernel) rfl (by decide +kernel) (λ_ _ _ _=>(bF (i:=0) (show List.Nodup (["_law_one", "_law_locker"]:List Str) by decide +kernel) rfl (Or.inl rfl))) (λ_ _ _ _=>(jG (bC (aZ0 (Room.u1 hr)) (mv 0) (mv 1) (by rfl)))) (λ_ _ _ _=>(mv 0))) (dE aJ) (dE aJ))) (@aI _ _ _ (aV (cW (@cM _ _ _ _ _ _ _ (@aY _ _ _ _ _ _ (aA (cA Cm PySem.F.slot_str_join PySem.F.type_str_join dQ9 cS (aA (mv 6) aB)) aB)) (aA (@bI _ _ _ _ _ _ _ bX (bJ (@aY _ _ _ _ _ _ (@aY _ _ _ _ _ _ aB))) (cF cJJ rfl G.b_int sP (aA (fE (dZE hr.units0) (mv 6) (bJ aB) (bD _)) aB)) (λ_ _=>rfl)) aB)))))) bH) (@aE _ _ _ _ _ (aP 7 w4.nd (@bJ _ _ _ _ (@aY _ _ _ _ _ _ (@aY _ _ _ _ _ _ (@aY _ _ _ _ _ _ (@aY _ _ _ _ _ _ (@aY _ _ _ _ _ _ (@aY _ _ _ _ _ _ (@aY _ _ _ _ _ _ (@aY _ _ _ _ _ _ (@aY _ _ _ _ _ _ (@aY _ _ _ _ _ _ aB)))))))))))) (@aI _ _ _ (aV (cW (@cM _ _ _ _ _ _ _ (@aY _ _ _ _ _ _ (aA (bI bX (mv 7) (aQ cV (mv 0) aJ) (λ_ _=>rfl)) aB)) (aA (@bI _ _ _ _ _ _ _ bX (bJ (@aY _ _ _ _ _ _ (@aY _ _ _ _ _ _ aB))) (cF cJJ rfl G.b_int sP (aA (fE fJ2 (aQ cV (mv 0) aJ) (cW (@gQ _ _ _ _ _ _ (@gQ _ _ _ _ _ _ aB))) (by rfl)) aB)) (λ_ _=>rfl)) aB)))))))))))))))),?_⟩
 have fin:∀(dp:Addr) (i:Nat) (v:V) (H2:Hp),Same H H2->DeedOk m g mss H2 dp i v->∀t,H2 t=none->Q (.ref t) (upd H2 t (.tup [.ref dp,.str (oP i)])):=λdp i v H2 s2 hd t ht=>q t dp i v _ (s2.trans (aG ht _)) aH (hd.keep (aG ht _))
 have fin2:∀(d:Dd) (i:Nat) (H2:Hp) (dp:Addr),Same H H2->H2 dp=none->d.zl->d.no m g mss i->∀t,(upd H2 dp (.tup d.vs)) t=none->Q (.ref t) (upd (upd H2 dp (.tup d.vs)) t (.tup [.ref dp,.str (oP i)])):=λd i H2 dp s2 hdp hz hn t ht=>fin dp i d.arg _ (s2.trans (aG hdp _)) (.inr ⟨d,aH,hz,hn,rfl⟩) t ht
 have hwl:(aU (cs++[ckL cs])).length=cs.length+1:=by rw[cC,Af];rfl
 have hw8:(aU (cs++[ckL cs])).length<=1000:=by omega
 have hm0:(0:Int)<(m:Int):=by omega
 clear q;walk_at "g";refine⟨by show 4<=sizeLine;decide,λp1 hp1=>?_⟩
 have x0:=Bx (N / 8) (show (9:Int)≠0 by decide)
 have hal:∀n∈([(m:Int),-1,(m:Int)+1+N / 8%9,100000000000000000000]:List Int),¬(0<=n/\n<(m:Int)):=λn=>gQQ (by omega) x0 (by omega)
 have k1:=aG hp1 (.lst ([(m:Int),-1,(m:Int)+1+N / 8%9,100000000000000000000].map V.int))
 have r1:rdL (upd H p1 (.lst ([(m:Int),-1,(m:Int)+1+N / 8%9,100000000000000000000].map V.int))) p1=some ([(m:Int),-1,(m:Int)+1+N / 8%9,100000000000000000000].map V.int):=bP
 have l4:([(m:Int),-1,(m:Int)+1+N / 8%9,100000000000000000000]:List Int).length=4:=rfl
 change tOp _ _ _ _ (upd H p1 (.lst ([(m:Int),-1,(m:Int)+1+N / 8%9,100000000000000000000].map V.int))) _
 generalize ([(m:Int),-1,(m:Int)+1+N / 8%9,100000000000000000000]:List Int)=ns at hal k1 r1 l4 ⊢;generalize upd H p1 (.lst (ns.map V.int))=H1 at k1 r1 ⊢;have hrl1:=k1 _ _ hrl
 clear hp1 hrl x0;have w0:=Bx (N / 8 / 9) (show (4:Int)≠0 by decide)
 have w1:=Cb (N / 8 / 9) (show (0:Int)<4 by decide)
 obtain⟨n,hn,an⟩:=aQ7 (ns:=ns) w0 (by rw[l4];exact w1)
 have hal:=hal n hn
 walk_at "g";refine cU r1 an ?_;clear an hn w0 w1 l4 r1;walk_at "g";refine dZ (λ_=>?_) (λ_=>?_)
 ·walk_at "g";refine⟨_,_,rfl,λdp H2 s2 hb=>?_⟩;walk_at "g";refine⟨by show 2<=sizeLine;decide,λt ht=>?_⟩
  exact fin dp 0 .non H2 (k1.trans s2) (.inl ⟨rfl,hb⟩) t ht
 walk_at "g";refine dZ (λ_=>?_) (λ_=>?_)
 ·walk_at "g";refine⟨by show 3<=sizeLine;decide,λdp hdp=>?_⟩
  walk_at "g";refine⟨by show 2<=sizeLine;decide,λt ht=>?_⟩
  exact fin2 (.haul n _) 1 H1 dp k1 hdp hw8 (.inl ⟨rfl,hal⟩) t ht
 walk_at "g";refine dZ (λ_=>?_) (λ_=>?_)
 ·walk_at "g";refine⟨_,cs,rfl,h1,h6,hL,λz H2 s2 hz hc=>?_⟩;walk_at "g";refine⟨by show 3<=sizeLine;decide,λdp hdp=>?_⟩
  walk_at "g";refine⟨by show 2<=sizeLine;decide,λt ht=>?_⟩
  exact fin2 (.haul n z) 1 H2 dp (k1.trans s2) hdp hz (.inl ⟨rfl,hal⟩) t ht
 walk_at "g";refine dZ (λ_=>?_) (λ_=>?_)
 ·walk_at "g";refine⟨_,cs,rfl,h1,h6,hL,λz H2 s2 hz hc=>?_⟩;walk_at "g";refine⟨by show 3<=sizeLine;decide,λdp hdp=>?_⟩
  walk_at "g";refine⟨by show 2<=sizeLine;decide,λt ht=>?_⟩
  exact fin2 (.haul (N / 8%(m:Int)) z) 2 H2 dp (k1.trans s2) hdp hz (.inr ⟨rfl,⟨Bx _ (Int.ne_of_gt hm0),Cb _ hm0⟩,hc⟩) t ht
 walk_at "g";refine dZ (λ_=>?_) (λ_=>?_)
 ·walk_at "g";refine⟨by show 2<=sizeLine;decide,λdp hdp=>?_⟩
  walk_at "g";refine⟨by show 2<=sizeLine;decide,λt ht=>?_⟩
  exact fin2 (.lower n) 1 H1 dp k1 hdp trivial ⟨rfl,hal⟩ t ht
 walk_at "g";refine dZ (λ_=>?_) (λ_=>?_)
 ·walk_at "g";refine⟨by show 8<=sizeLine;decide,λp2 hp2=>?_⟩
  have k2:=k1.trans (aG hp2 (.lst (flg8.map V.str)))
  have r2:rdL (upd H1 p2 (.lst (flg8.map V.str))) p2=some (flg8.map V.str):=bP
  change tOp _ _ _ _ (upd H1 p2 (.lst (flg8.map V.str))) _
  generalize upd H1 p2 (.lst (flg8.map V.str))=H2 at k2 r2 ⊢;have w0:=Bx (N / 8 / 2) (show (8:Int)≠0 by decide)
  have w1:=Cb (N / 8 / 2) (show (0:Int)<8 by decide)
  obtain⟨z,hz,az,_⟩:=bZ9 (ss:=flg8) w0 w1;obtain⟨hf,hzl⟩:=dJE z hz;walk_at "g";refine cU r2 az ?_;walk_at "g";refine⟨by show 2<=sizeLine;decide,λp3 hp3=>?_⟩
  have k3:=k2.trans (aG hp3 (.lst (([Str.ofString "lose",Str.ofString "find"]:List Str).map V.str)))
  have r3:rdL (upd H2 p3 (.lst (([Str.ofString "lose",Str.ofString "find"]:List Str).map V.str))) p3=some (([Str.ofString "lose",Str.ofString "find"]:List Str).map V.str):=bP
  change tOp _ _ _ _ (upd H2 p3 (.lst (([Str.ofString "lose",Str.ofString "find"]:List Str).map V.str))) _
  generalize upd H2 p3 (.lst (([Str.ofString "lose",Str.ofString "find"]:List Str).map V.str))=H3 at k3 r3 ⊢;obtain⟨y,ey,hy2⟩:∃y:Nat,N / 8%2=(y:Int)/\y<2:=mU (N / 8) (n:=2) (by decide)
  walk_at "g";rw[ey]
  match y,hy2 with
  |0,_=>
   refine cU r3 (v:=.str (Str.ofString "lose")) (bB rfl) ?_;walk_at "g";refine⟨by show 2<=sizeLine;decide,λdp hdp=>?_⟩
   walk_at "g";refine⟨by show 2<=sizeLine;decide,λt ht=>?_⟩
   exact fin2 (.lose z) 3 H3 dp k3 hdp hzl (.inl ⟨rfl,hf⟩) t ht
  |1,_=>
   refine cU r3 (v:=.str (Str.ofString "find")) (bB rfl) ?_;walk_at "g";refine⟨by show 2<=sizeLine;decide,λdp hdp=>?_⟩
   walk_at "g";refine⟨by show 2<=sizeLine;decide,λt ht=>?_⟩
   exact fin2 (.find z) 3 H3 dp k3 hdp hzl ⟨rfl,hf⟩ t ht
 walk_at "g";refine dZ (λ_=>?_) (λ_=>?_)
 ·walk_at "g";refine aXZ (λc=>if g c=none then some (.str (one c)) else none) (by decide) (λi c Hc A B hc sm hA=>?_) (λD Hd hD sD hd=>?_)
  ·walk_at "g";refine⟨Wk.set rfl (Wk.refl _),?_⟩;walk_at "g";refine cJO (z:=one c) (.inl (sm _ _ hrl1)) ?_;rw[lk.val c];have r:=hA Hc (Same.refl _)
   cases e:g c with
   |none=>
    rw[e]at r;walk_at "g";exact r
   |some x=>
    rw[e]at r;walk_at "g";exact r
  ·obtain⟨F,eF,hF⟩:=aJ8 g (Str.ofString "abcdefghijklmnopqrstuvw1234").cps.toList;rw[eF]at hd;have kD:=k1.trans sD
   have rD:=aR hd
   walk_at "g";intro r6 hr6;rw[fZQ,<-El,<-El];have key:∃b:Bool,(((F.take 1).map one).map V.str).isEmpty=b/\(F.take 1).length<=1/\(Dd.lose (aU (F.take 1))).zl/\(Dd.lose (aU (F.take 1))).no m g mss (if b=true then 3 else 4):=by
    rcases fX9 F with⟨e1,_⟩|⟨c,e1,hc⟩
    ·rw[e1];exact⟨true,rfl,by decide,by show 0<=1000;decide,.inl ⟨rfl,by decide +kernel⟩⟩
    ·rw[e1];obtain⟨hcm,hgc⟩:=hF c hc;exact⟨false,rfl,by show 1<=1;decide,by show 1<=1000;decide,.inr ⟨rfl,c,rfl,mem_flags.mp hcm,by unfold bE;rw[hgc];exact Hq _⟩⟩
   obtain⟨b,hb,hl1,hzl,hno⟩:=key;generalize F.take 1=G at hb hl1 hzl hno ⊢;have k7:=kD.trans (aG hr6 (.lst ((G.map one).map V.str)))
   have r7:rdL (upd Hd r6 (.lst ((G.map one).map V.str))) r6=some ((G.map one).map V.str):=bP
   generalize upd Hd r6 (.lst ((G.map one).map V.str))=H7 at k7 r7 ⊢;walk_at "g";refine dXS r7 (by rw[cX6,show (Str.ofString "").length=0 from rfl];omega) ?_
   rw[cQM];walk_at "g";refine⟨by show 2<=sizeLine;decide,λdp hdp=>?_⟩
   have k8:=aG hdp (.tup [.str (Str.ofString "lose"),.str (aU G)])
   have d8:DeedOk m g mss (upd H7 dp (.tup [.str (Str.ofString "lose"),.str (aU G)])) dp (if b=true then 3 else 4) (.str (aU G)):=.inr ⟨.lose (aU G),aH,hzl,hno,rfl⟩
   generalize upd H7 dp (.tup [.str (Str.ofString "lose"),.str (aU G)])=H8 at k8 d8 ⊢;have r8:=aO k8 r7
   walk_at "g";refine⟨by show 2<=sizeLine;decide,λp9 hp9=>?_⟩
   have k9:=aG hp9 (.lst [.str (Str.ofString "short"),.str (Str.ofString "flag")])
   have r9:rdL (upd H8 p9 (.lst [.str (Str.ofString "short"),.str (Str.ofString "flag")])) p9=some [.str (Str.ofString "short"),.str (Str.ofString "flag")]:=bP
   generalize upd H8 p9 (.lst [.str (Str.ofString "short"),.str (Str.ofString "flag")])=H9 at k9 r9 ⊢;have r89:=aO k9 r8
   walk_at "g";refine⟨by decide,λp10 hp10=>?_⟩
   have k10:=aG hp10 (.lst [])
   refine bZ3 (neg:=false) (aO k10 r89) bP (cY _) rfl ?_;have r10:=aO k10 r9
   generalize upd H9 p10 (.lst [])=H10 at k10 r10 ⊢;rw[if_neg An,show ∀xs:List V,kH xs []=xs.isEmpty from λxs=>by cases xs<;>rfl,hb]
   cases b with
   |true=>
    walk_at "g";refine cU r10 (v:=.str (Str.ofString "flag")) (bB (j:=1) rfl) ?_;walk_at "g";refine⟨by show 2<=sizeLine;decide,λt ht=>?_⟩
    exact fin dp 3 _ H10 (k7.trans (k8.trans (k9.trans k10))) (d8.keep (k9.trans k10)) t ht
   |false=>
    walk_at "g";refine cU r10 (v:=.str (Str.ofString "short")) (bB (j:=0) rfl) ?_;walk_at "g";refine⟨by show 2<=sizeLine;decide,λt ht=>?_⟩
    exact fin dp 4 _ H10 (k7.trans (k8.trans (k9.trans k10))) (d8.keep (k9.trans k10)) t ht
 ·walk_at "g";refine⟨by show 10<=sizeLine;decide,λp2 hp2=>?_⟩
  have k2:=k1.trans (aG hp2 (.lst (txt10.map V.str)))
  have r2:rdL (upd H1 p2 (.lst (txt10.map V.str))) p2=some (txt10.map V.str):=bP
  change gH 7 (V.ref p2) _ (upd H1 p2 (.lst (txt10.map V.str))) _
  generalize upd H1 p2 (.lst (txt10.map V.str))=H2 at k2 r2 ⊢;obtain⟨y,ey,hy10⟩:∃y:Nat,N / 8%10=(y:Int)/\y<10:=mU (N / 8) (n:=10) (by decide)
  have et:txt10[y]?=some (txt10.getD y (Str.ofString "")):=by
   rw[Ad,Aa (show y<txt10.length from hy10)];rfl
  have hzl:=cQJ _ (Ao et)
  have hno:=fQK hy (m:=m) (g:=g) hy10
  generalize txt10.getD y (Str.ofString "")=Z at et hzl hno;walk_at "g";rw[ey];refine cU r2 (v:=.str Z) (bB (by rw[Ag,et];rfl)) ?_
  walk_at "g";refine⟨by show 2<=sizeLine;decide,λdp hdp=>?_⟩
  have k3:=aG hdp (.tup [.str (Str.ofString "say"),.str Z])
  have d3:DeedOk m g mss (upd H2 dp (.tup [.str (Str.ofString "say"),.str Z])) dp (if y=7\/y=8 then 6 else 5) (.str Z):=.inr ⟨.say Z,aH,hzl,hno,rfl⟩
  generalize upd H2 dp (.tup [.str (Str.ofString "say"),.str Z])=H3 at k3 d3 ⊢;walk_at "g";refine⟨by show 2<=sizeLine;decide,λp4 hp4=>?_⟩
  have k4:=aG hp4 (.lst [.str (Str.ofString "text"),.str (Str.ofString "cut")])
  have r4:rdL (upd H3 p4 (.lst [.str (Str.ofString "text"),.str (Str.ofString "cut")])) p4=some [.str (Str.ofString "text"),.str (Str.ofString "cut")]:=bP
  generalize upd H3 p4 (.lst [.str (Str.ofString "text"),.str (Str.ofString "cut")])=H4 at k4 r4 ⊢;walk_at "g";refine⟨by show 2<=sizeLine;decide,λp5 hp5=>?_⟩
  have k5:=aG hp5 (.tup [.int 7,.int 8])
  refine fZX aH rfl rfl ?_;have r5:=aO k5 r4
  generalize upd H4 p5 (.tup [.int 7,.int 8])=H5 at k5 r5 ⊢;have ei:inV (V.int (N / 8%10)) [.int 7,.int 8]=decide (y=7\/y=8):=by
   rw[ey]
   match y,hy10 with
   |0,_=>rfl
   |1,_=>rfl
   |2,_=>rfl
   |3,_=>rfl
   |4,_=>rfl
   |5,_=>rfl
   |6,_=>rfl
   |7,_=>rfl
   |8,_=>rfl
   |9,_=>rfl
  rw[ei];by_cases h:y=7\/y=8
  ·rw[Ap h];rw[if_pos h]at d3;walk_at "g";refine cU r5 (v:=.str (Str.ofString "cut")) (bB (j:=1) rfl) ?_;walk_at "g";refine⟨by show 2<=sizeLine;decide,λt ht=>?_⟩
   exact fin dp 6 _ H5 (k2.trans (k3.trans (k4.trans k5))) (d3.keep (k4.trans k5)) t ht
  ·rw[As h];rw[if_neg h]at d3;walk_at "g";refine cU r5 (v:=.str (Str.ofString "text")) (bB (j:=0) rfl) ?_;walk_at "g";refine⟨by show 2<=sizeLine;decide,λt ht=>?_⟩
   exact fin dp 5 _ H5 (k2.trans (k3.trans (k4.trans k5))) (d3.keep (k4.trans k5)) t ht
def sqE{a:Addr}(h:SqL K H a xs)(hn:∀p∈l,H p=none)(s:SameE l H H'):SqL K H' a xs:=by
 have n:∀ {u},H a=some u->a∉l:=λe z=>by rw[hn a z]at e;cases e
 rcases h with(h|⟨o,h⟩)|h
 ·exact .inl (.inl (s _ _ (n h) h))
 ·exact .inl (.inr ⟨o,s _ _ (n h) h⟩)
 ·exact .inr h
def dZ1(h1:1<=cs.length)(h6:cs.length<=6)(hL:∀d∈cs,bA d):jF (aU (cs++[ckL cs]))=true:=by
 obtain⟨k1,k2⟩:=cJP h6 hL;unfold jF dQC;rw[eQY (uR hL k1) (by rw[Af];show 1<=_+1;omega) (by rw[Af];show _+1<=7;omega),bV,k2,Bool.and_true,Ge,Ck,Af]
 show 1<_+1
 omega
def gQT{y:Addr}{ys:List V}(s:SameE l H H')(n:y∉l)(h:rdL H y=some ys):rdL H' y=some ys:=by
 unfold rdL at h ⊢;cases e:H y with
 |none=>rw[e]at h;cases h
 |some o=>rw[s _ _ n e];rw[e]at h;exact h
def bZT{rb:Addr}(hbk:BkAt H rb bk)(hcw:wN bk cws)(hj:j<bk.length):∃(qs:List Addr) (p:Addr) (cw:List Nat) (z:Str),H rb=some (.lst (qs.map V.ref))/\qs.length=bk.length/\atI (qs.map V.ref) (j:Int)=some (.ref p)/\H p=some (.tup [.str (aU cw),.str z])/\1<=cw.length/\cw.length<=6/\∀d∈cw,bA d:=by
 obtain⟨qs,b1,b2,b3⟩:=hbk;have ec:cws[j]?=some (cws[j]'(by rw[hcw.1];exact hj)):=Aa _
 obtain⟨hw,hc⟩:=hcw.2 j _ _ (Aa hj) ec;have ep:qs[j]?=some (qs[j]'(by omega)):=Aa _
 have tp:=b3 j _ _ ep (Aa hj)
 rw[hw]at tp;exact⟨qs,_,_,_,b1,b2,bB (by rw[Ag,ep];rfl),tp,hc⟩
def yV(C:Addr):Sp:=λvs H Q _=>∃(x b s0 st hg dd dx rb rc:Addr) (m:Nat) (bk:List (Str×Str)) (mss:List (List (List Nat))) (cws:List (List Nat)) (hs:List (Option (List Nat))) (f:Nat->Option Int) (dps:List Addr) (ms:List Int),vs=[.ref x,.ref rb,.int (m:Int),.ref rc]/\TwAll C H x b s0 st hg dd dx m bk mss hs f dps/\dps.length<=500/\1<=m/\BkAt H rb bk/\wN bk cws/\1<=bk.length/\rdL H rc=some (ms.map V.int)/\ms.length<=4/\rb∉[x,dd]/\rc∉[x,dd]/\
 ∀(st' hg':Addr) (hs':Q3) (f':Nat->Option Int) (dps':List Addr) (H':Hp),SameE [x,dd] H H'->TwAll C H' x b s0 st' hg' dd dx m bk mss hs' f' dps'->dps'.length<=600->Q .non H'
def yBG:FnScope ["_law_tower", "_law_book_here", "_law_many", "_law_cells", "_law_k", "_law_cell"] ["_law_tower", "_law_book_here", "_law_many", "_law_cells"] (aK vT):=by walk_at "sc"
def cQ0(F:Fun K "_law_hung" "_law_hung" vT f fd)(o0:aXM (CXr P w) P w K mg base 15 Z0 "do" ["self", "deed"] (lS Z0 Zt Zy Zw Zu Zq Zv Zr Zo))(z8:Cal P w K mg base 1 "_law_checked" ["_law_word_here"] gM):FnOk P w K mg base CX0 17 f fd ["_law_tower", "_law_book_here", "_law_many", "_law_cells"] (yV Z0):=by
 refine F.ok yBG (λvs H Q E h=>?_) (λcdv A outer s H vs Q E hr h=>?_)
 ·obtain⟨x,b,s0,st,hg,dd,dx,rb,rc,m,bk,mss,cws,hs,f,dps,ms,rfl,_⟩:=h;rfl
 obtain⟨x,b,s0,st,hg,dd,dx,rb,rc,m,bk,mss,cws,hs,f,dps,ms,rfl,tw,hdl,m1,hbk,hcw,hb1,hrc,hml,nrb,nrc,q⟩:=h;refine⟨_,(@aI _ _ _ (dA Bq rfl (kK rfl G.b_enumerate (aA (mv 3) aB)) (dN (K:=K) (i:=4) (j:=5) (by rfl) (by rfl) yBG.nd (by rfl) (by exact(Or.inl rfl)) (by exact Or.inl rfl) (by rfl) (by exact(Or.inl rfl)) (by exact Or.inl rfl)) (@aI _ _ _ (eQC rfl rfl rfl rfl G.c_Lack (λy3 R=>(@aI _ _ _ (cH (bZ4 o0 G.cl_Tower (pH rfl) hr (by decide) (mv 0) (aA (cW (@aY _ _ _ _ _ _ (aA (aQ cV (mv 4) (mv 2)) (aA (aZ z8 hr (by decide) rfl (aA (bI bX (bI bX (mv 1) (aQ cV (mv 5) (aX cQ rfl G.b_len bS (aA (mv 1) aB))) (λ_ _=>rfl)) aJ (λ_ _=>rfl)) aB)) aB)))) aB))))) (λy3 ea=>(@aI _ _ _ aJN)))))),?_⟩
 have ntt:∀p xs,H p=some (.tup xs)->p∉[x,dd]:=λp xs e=>no2 (λz=>by rw[z,tw.ins]at e;cases e) (λz=>by rw[z,tw.log]at e;cases e)
 have hm0:(0:Int)<(m:Int):=by omega
 have hb0:(0:Int)<((bk.length:Nat):Int):=by omega
 walk_at "g";refine qY (xs:=ms.map V.int) (λi σ H'=>∃(st' hg':Addr) (hs':Q3) (f':Nat->Option Int) (dps':List Addr) (v4 v5:Option V),σ=[some (.ref x),some (.ref rb),some (.int (m:Int)),some (.ref rc),v4,v5]/\SameE [x,dd] H H'/\TwAll Z0 H' x b s0 st' hg' dd dx m bk mss hs' f' dps'/\dps'.length<=500+i)
  ⟨st,hg,hs,f,dps,_,_,rfl,λ_ _ _ e=>e,tw,hdl⟩ (λi σ H' _ ⟨_,_,_,_,_,_,_,_,sE,_⟩=>gQT sE nrc hrc) ?_ ?_
 ·rintro i v σ H1 pt hv ⟨st1,hg1,hs1,f1,dps1,v4,v5,rfl,sE1,tw1,hdl1⟩ hpt;rw[Ag]at hv;obtain⟨cell,hcell,rfl⟩:=Bz.mp hv;have hi4:i<4:=by have:=(Ac.mp hcell).1;omega
  have k2:=aG hpt (.tup [.int ((0+i:Nat):Int),.int cell])
  have t2:=cN (show (upd H1 pt (.tup [.int ((0+i:Nat):Int),.int cell])) pt=_ from aH)
  generalize upd H1 pt (.tup [.int ((0+i:Nat):Int),.int cell])=H2 at k2 t2 ⊢;have sE2:=sE1.trans (.of k2)
  have bk2:=hbk.keepE sE2 nrb ntt
  obtain⟨j,ej,hj⟩:∃j:Nat,cell%((bk.length:Nat):Int)=(j:Int)/\j<bk.length:=mU cell hb1;obtain⟨qs,pj,cw,zj,b1,b2,aj,tpj,hc1,hc6,hcL⟩:=bZT bk2 hcw hj;have hql:(qs.map V.ref).length=bk.length:=by rw[Ab,b2]
  have rq:=aR b1
  have tw2:=tw1.keep k2
  walk_at "g";refine⟨x,dx,_,rfl,tw2.ins,aJC,?_⟩;walk_at "g";rw[hql];walk_at "g";rw[ej];refine cU rq aj ?_;walk_at "g";refine cK tpj (v:=.str (aU cw)) (bB (j:=0) rfl) ?_;walk_at "g";refine⟨cw,rfl,hc1,hc6,hcL,λH3 s3 _ _=>?_⟩;walk_at "g";refine⟨by show 3<=sizeLine;decide,λdp hdp=>?_⟩
  have k4:=k2.trans (s3.trans (aG hdp (.tup (Dd.haul (((0+i:Nat):Int)%(m:Int)) (aU (cw++[ckL cw]))).vs)))
  have e4:(upd H3 dp (.tup (Dd.haul (((0+i:Nat):Int)%(m:Int)) (aU (cw++[ckL cw]))).vs)) dp=some (.tup (Dd.haul (((0+i:Nat):Int)%(m:Int)) (aU (cw++[ckL cw]))).vs):=aH
  change bQN _ (upd H3 dp (.tup (Dd.haul (((0+i:Nat):Int)%(m:Int)) (aU (cw++[ckL cw]))).vs)) _
  generalize upd H3 dp (.tup (Dd.haul (((0+i:Nat):Int)%(m:Int)) (aU (cw++[ckL cw]))).vs)=H4 at k4 e4 ⊢;have tw4:=tw1.keep k4
  walk_at "g";refine⟨x,b,s0,st1,hg1,dd,dx,dp,m,bk,mss,hs1,f1,dps1,rfl,tw4,by omega,.inr ⟨_,_,e4,by rw[cC,Af];show _+1<=_;omega,⟨Bx _ (Int.ne_of_gt hm0),Cb _ hm0⟩,dZ1 hc1 hc6 hcL,λst' hg' hs' f' H5 sE5 tw5=>?_,λdy H5 s5=>⟨G.m_Lack,?_⟩⟩⟩
  ·walk_at "g";exact⟨st',hg',hs',f',_,_,_,rfl,(sE1.trans (.of k4)).trans sE5,tw5,by rw[Af];show _+1<=_;omega⟩
  ·exact⟨st1,hg1,hs1,f1,dps1,_,_,rfl,sE1.trans (.of (k4.trans s5)),tw4.keep s5,by omega⟩
 ·rintro σ H1 ⟨st1,hg1,hs1,f1,dps1,v4,v5,rfl,sE1,tw1,hdl1⟩;rw[Ab]at hdl1;walk_at "g";exact q st1 hg1 hs1 f1 dps1 H1 sE1 tw1 (by omega)
def eZS{x C:Addr}{fs:List (Str×V)}(ex:H x=some (.ins C dx fs))(ed:H dd=some (.lst []))(hb1:1<=bk.length)(h:BkAt H p bk):p∉[x,dd]:=by
 obtain⟨qs,h1,h2,_⟩:=h;refine no2 (λz=>by rw[z,ex]at h1;cases h1) (λz=>?_)
 rw[z,ed]at h1;have e':([]:List V)=qs.map V.ref:=by injection Bo h1
 cases qs with
 |nil=>rw[<-h2]at hb1;exact absurd hb1 (by decide)
 |cons _ _=>cases e'
def DeedOk.plain{m:Nat}{f:Nat->Option Int}(h:DeedOk m (cI (bE f)) mss H dp i v):DeedOk m f mss H dp i v:=by
 rcases h with h|⟨d,t1,t2,t3,t4⟩
 ·exact .inl h
 ·refine .inr ⟨d,t1,t2,?_,t4⟩;cases d with
  |haul n z=>exact t3
  |lower n=>exact t3
  |find z=>exact t3
  |say z=>exact t3
  |lose z=>
   rcases t3 with t3|⟨e,c,hz,hc,hle⟩
   ·exact .inl t3
   ·refine .inr ⟨e,c,hz,hc,Int.not_lt.mp λhp=>?_⟩;rw [show bE (cI (bE f)) c=bE f c by
     show (cI (bE f) c).getD 0=_
     unfold cI;rw[if_pos ⟨hc,hp⟩];rfl]at hle
    omega
structure StAt (H:Hp) (hs:List (Option (List Nat))) (f:Nat->Option Int) (dps:List Addr) (cws:List (List Nat)) (us:List V) (r1 r2 r3 r4:Addr):Prop where
 h1:H r1=some (.lst us)
 hal:HalsAt H us hs
 h2:H r2=some (.dK (kvL (bE f) (bT (bE f) 27)))
 h3:H r3=some (.lst (dps.map V.ref))
 h4:H r4=some (.lst (hs.map (rdN cws)))
def StAt.keep{f:Nat->Option Int}{r1 r2 r3 r4:Addr}(h:StAt H hs f dps cws us r1 r2 r3 r4)(s:Same H H'):StAt H' hs f dps cws us r1 r2 r3 r4:=⟨s _ _ h.h1,h.hal.keep s,s _ _ h.h2,s _ _ h.h3,s _ _ h.h4⟩
def cZ9(cws:Q5)(o:Option (List Nat)):cB (rdN cws o)=true:=by
 cases o with
 |none=>rfl
 |some cs=>
  show cB (match (iQ cws).findIdx? (λy=>y==oE (cs.map one)) with|some j=>V.int (j:Int)|none=>.non)=true
  cases (iQ cws).findIdx? (λy=>y==oE (cs.map one))<;>rfl
def aQJ(f:xs.all cB=true):∀(j:Nat) x y,xs[j]?=some x->xs[j]?=some y->Alx H n x y:=λj x y hx hy=>by
 rw[hx]at hy;cases hy;exact Alx.same (.inl (Bv.mp f x (Ao hx)))
def uL{q:Addr}{ys:List V}(hp:rdL H p=some xs)(hq:rdL H q=some ys)(hl:xs.length=ys.length)(h:∀(j:Nat) x y,xs[j]?=some x->ys[j]?=some y->Alx H n x y):Alx H (n+1) (.ref p) (.ref q):=.inr ⟨p,q,rfl,rfl,.inl ⟨xs,ys,hp,hq,hl,h⟩⟩
def StAt.alike{f:Nat->Option Int}{us':List V}{r1 r2 r3 r4 q1 q2 q3 q4:Addr}(a:StAt H hs f dps cws us r1 r2 r3 r4)(b:StAt H hs f dps cws us' q1 q2 q3 q4):∀(j:Nat) x y,[V.ref r1,V.ref r2,V.ref r3,V.ref r4][j]?=some x->[V.ref q1,V.ref q2,V.ref q3,V.ref q4][j]?=some y->Alx H 2 x y:=λj x y hx hy=>by
 match j,hx,hy with
 |0,hx,hy=>
  cases hx;cases hy;refine uL (aR a.h1) (aR b.h1) (by rw[a.hal.len,b.hal.len]) λk u v hu hv=>?_
  have hk:k<hs.length:=by rw[<-a.hal.len];exact(Ac.mp hu).1
  have eh:hs[k]?=some hs[k]:=Aa hk
  have ha:=a.hal.val k u _ hu eh
  have hb:=b.hal.val k v _ hv eh
  cases e:hs[k] with
  |none=>
   rw[e]at ha hb;rw[show u=.non from ha,show v=.non from hb];exact Alx.same (.inl rfl)
  |some cs=>
   rw[e]at ha hb;obtain⟨p,rfl,hp⟩:=ha;obtain⟨p',rfl,hp'⟩:=hb;exact uL (aR hp) (aR hp') rfl (aQJ (cY _))
 |1,hx,hy=>
  cases hx;cases hy;exact .inr ⟨_,_,rfl,rfl,.inr ⟨_,_,.inl a.h2,.inl b.h2,(dW (bE f)).deq (dW (bE f))⟩⟩
 |2,hx,hy=>
  cases hx;cases hy;refine uL (aR a.h3) (aR b.h3) rfl λk u v hu hv=>?_;rw[hu]at hv;cases hv;rw[Ag]at hu;obtain⟨p,_,rfl⟩:=Bz.mp hu;exact Alx.same (.inr ⟨p,rfl⟩)
 |3,hx,hy=>
  cases hx;cases hy;exact uL (aR a.h4) (aR b.h4) rfl (aQJ (by rw[Ha];exact Bv.mpr λo _=>cZ9 cws o))
 |j+4,hx,_=>cases hx
def y9:FnScope ["_law_script", "_law_tower", "_law_book_here", "_law_totals", "_law_words", "_law_state", "_law_k", "_law_cell", "_law_number", "_law_word_here", "_law_deed_here", "_law_due"] ["_law_script"] (aK uZ):=by walk_at "sc"
def fQO{Pt:Addr}(F:Fun K "law" "law" uZ f fd)(yB7:Cal P w K mg base 4 "_law_begun" ["_law_script"] (vP K Z0))(yB8:Cal P w K mg base 17 "_law_hung" ["_law_tower", "_law_book_here", "_law_many", "_law_cells"] (yV Z0))(l0:aXM CX0 P w K mg base 1 Z0 "halyards" ["self"] (iH Z0))(l5:aXM CX0 P w K mg base 2 Z0 "locker" ["self"] (lD Z0))(l6:aXM CX0 P w K mg base 1 Z0 "log" ["self"] (pV Z0))(l7:aXM CX0 P w K mg base 6 Z0 "read" ["self"] (oH Z0))(z7:Cal P w K mg base 1 "_law_mixed" ["_law_cell", "_law_k"] kJ)(z8:Cal P w K mg base 1 "_law_checked" ["_law_word_here"] gM)(yB9:Cal P w K mg base 2 "_law_deed" ["_law_number", "_law_many", "_law_word_here", "_law_locker"] zO)(yBA:Cal P w K mg base 17 "_law_told" ["_law_tower", "_law_deed_here"] (aQD Z0)):FnOk P w K mg base CX0 18 f fd ["_law_script"] (aQW K Pt):=by
 refine F.ok y9 (λvs H Q E h=>?_) (λcdv A outer s H vs Q E hr h=>?_)
 ·obtain⟨a,ns,rfl,_⟩:=h;rfl
 obtain⟨a,ns,rfl,hS,h63,hP,q⟩:=h;refine⟨_,(@aE _ _ _ _ _ (vI (aZ yB7 hr (by decide) rfl (aA (mv 0) aB)) (fQM rfl (jM (bF (i:=1) y9.nd rfl (Or.inl rfl)) (jM (bF (i:=2) y9.nd rfl (Or.inl rfl)) (jM (bF (i:=3) y9.nd rfl (Or.inl rfl)) (jM (bF (i:=4) y9.nd rfl (Or.inl rfl)) bJE)))))) (@aE _ _ _ _ _ (cH (aZ yB8 hr (by decide) rfl (aA (mv 1) (aA (mv 2) (aA (aX cQ rfl G.b_len bS (aA (mv 4) aB)) (aA (dP sl_list (mv 0) (dE aJ) (dE aJ)) aB)))))) (@aE _ _ _ _ _ (aP 5 y9.nd (@bJ _ _ _ _ (aA (iJ l0 G.cl_Tower hr (by decide) (mv 1)) (aA (iJ l5 G.cl_Tower hr (by decide) (mv 1)) (aA (iJ l6 G.cl_Tower hr (by decide) (mv 1)) (aA (iJ l7 G.cl_Tower hr (by decide) (mv 1)) aB)))))) (@aE _ _ _ _ _ (dA Bq rfl (kK rfl G.b_enumerate (aA (aQ bN (bJ (aA aJ aB)) (dP sl_list (mv 0) (dE aJ) (dE aJ))) aB)) (dN (K:=K) (i:=6) (j:=7) (by rfl) (by rfl) y9.nd (by rfl) (by exact(Or.inl rfl)) (by exact Or.inl rfl) (by rfl) (by exact(Or.inl rfl)) (by exact Or.inl rfl)) (@aE _ _ _ _ _ (aP 8 y9.nd (aZ z7 hr (by decide) rfl (aA (mv 7) (aA (mv 6) aB)))) (@aE _ _ _ _ _ (aP 9 y9.nd (aZ z8 hr (by decide) rfl (aA (bI bX (bI bX (mv 2) (aQ cV (aQ fF (mv 8) aJ) (aX cQ rfl G.b_len bS (aA (mv 2) aB))) (λ_ _=>rfl)) aJ (λ_ _=>rfl)) aB))) (@aE _ _ _ _ _ (vI (aZ yB9 hr (by decide) rfl (aA (mv 8) (aA (aX cQ rfl G.b_len bS (aA (mv 4) aB)) (aA (mv 9) (aA (bI bX (mv 5) aJ (λ_ _=>rfl)) aB))))) (dN (K:=K) (i:=10) (j:=11) (by rfl) (by rfl) y9.nd (by rfl) (by exact(Or.inl rfl)) (by exact Or.inl rfl) (by rfl) (by exact(Or.inl rfl)) (by exact Or.inl rfl))) (@aE _ _ _ _ _ (bZ (bC cXE (aZ yBA hr (by decide) rfl (aA (mv 1) (aA (mv 10) aB))) (mv 11) (bD _)) (@aI _ _ _ (aV nO)) bH) (@aI _ _ _ (bZ (bC (fZO hr.units) (@bJ _ _ _ _ (aA (iJ l0 G.cl_Tower hr (by decide) (mv 1)) (aA (iJ l5 G.cl_Tower hr (by decide) (mv 1)) (aA (iJ l6 G.cl_Tower hr (by decide) (mv 1)) (aA (iJ l7 G.cl_Tower hr (by decide) (mv 1)) aB))))) (mv 5) (bD _)) (@aI _ _ _ (aV nO)) bH))))))) (@aI _ _ _ (aV nO)))))),?_⟩
 walk_at "u"
 with_reducible refine nY ?_
 walk_at "u";refine⟨a,ns,rfl,hS,h63,λr x dx rb rl rw' b' s0 st0 hg0 dd bk cws f0 m H1 s1 er hbk hcw hnd hb1 hb8 hmo m1 m6 ex hbk' tw0 edd nhd nbd erw nrw nhw hxn hdn=>?_⟩;obtain⟨mss,hms,hy⟩:=dZU hmo;have tw1:TwAll Z0 H1 x b' s0 st0 hg0 dd dx m bk mss (List.replicate m none) f0 []:=⟨ex,tw0,Dn ..,m6,hbk',by omega,hms,edd,nhd,nbd⟩
 have rr:=aR er
 have hS1:=s1.seq hS
 have rew:=aR erw
 have hwl:(List.replicate m V.non).length=m:=Dn ..
 have nrw2:rw'∉[x,dd]:=no2 (λz=>by rw[z,ex]at erw;cases erw) nrw
 have nrb:rb∉[x,dd]:=eZS ex edd hb1 hbk
 walk_at "u"
 with_reducible refine nY ?_
 walk_at "u";rw[hwl];refine dQV hS1 λrc hrc=>?_;obtain⟨ms,em,hml⟩:=sA ns 9 4 (by decide) (by decide)
 rw[show (9:Int)+4=13 from rfl]at em;rw[em];have k2:=aG hrc (.lst (ms.map V.int))
 have e2:rdL (upd H1 rc (.lst (ms.map V.int))) rc=some (ms.map V.int):=bP
 generalize upd H1 rc (.lst (ms.map V.int))=H2 at k2 e2 ⊢;have nrc:rc∉[x,dd]:=no2 (λz=>by rw[z,ex]at hrc;cases hrc) (λz=>by rw[z,edd]at hrc;cases hrc)
 walk_at "u";refine⟨x,b',s0,st0,hg0,dd,dx,rb,rc,m,bk,mss,cws,_,f0,[],ms,rfl,tw1.keep k2,Da _,m1,hbk.keep k2,hcw,hb1,e2,hml,nrb,nrc,λst hg hs f dps H3 sE3 tw3 hdl3=>?_⟩;have sE03:SameE [x,dd] H H3:=((SameE.of s1).trans (.of k2)).trans sE3
 have hS3:=sqE hS (λp hp=>by simp only[List.mem_cons,List.not_mem_nil,or_false]at hp;rcases hp with z|z<;>(rw[z];assumption)) sE03
 have ntt:∀p xs,H2 p=some (.tup xs)->p∉[x,dd]:=λp xs e=>no2 (λz=>by rw[z,k2 _ _ ex]at e;cases e) (λz=>by rw[z,k2 _ _ edd]at e;cases e)
 have hbk3:=(hbk.keep k2).keepE sE3 nrb ntt
 have erw3:=sE3 _ _ nrw2 (k2 _ _ erw)
 clear s1 er rr hS1 rew k2 e2 nrc nrb sE3 sE03 ntt hbk hbk' tw0 tw1 ex edd erw hrc em hml nrw2 nrw nhw hxn hdn hS hP nhd nbd hmo hnd;obtain⟨⟨us,hB,hat⟩,ok,⟨kvs,hR,lk⟩,hpos⟩:=id tw3.tw;have rB:=aR hB
 have hul:=hat.len
 have hsl:=tw3.len
 walk_at "u"
 with_reducible refine nY ?_
 walk_at "u";refine⟨x,dx,_,rfl,tw3.ins,mG,?_⟩;walk_at "u";refine⟨x,b',s0,st,hg,dd,dx,m,us,hs,rfl,tw3.ins,rB,hat,by omega,λr1 us1 H4 hr1 s4 e4 hat4 _=>?_⟩
 walk_at "u";refine⟨x,dx,_,rfl,s4 _ _ tw3.ins,qT,?_⟩;walk_at "u";refine⟨x,b',s0,st,hg,dd,dx,m,kvs,f,rfl,s4 _ _ tw3.ins,.inl (s4 _ _ hR),lk,λr2 H5 hr2 s5 e5=>?_⟩;have s35:=s4.trans s5
 walk_at "u";refine⟨x,dx,_,rfl,s35 _ _ tw3.ins,zI,?_⟩;walk_at "u";refine⟨x,b',s0,st,hg,dd,dx,m,_,rfl,s35 _ _ tw3.ins,s35 _ _ tw3.log,λr3 H6 hr3 s6 e6=>?_⟩;have s36:=s35.trans s6
 walk_at "u";refine⟨x,dx,_,rfl,s36 _ _ tw3.ins,wM,?_⟩;walk_at "u";refine⟨x,b',s0,st,hg,dd,dx,m,us,hs,bk,cws,rfl,s36 _ _ tw3.ins,aO s36 rB,hat.keep s36,by omega,ok,tw3.bka.keep s36,tw3.b60,hcw,λr4 H7 hr4 s7 e7=>?_⟩
 have S7:StAt H7 hs f dps cws us1 r1 r2 r3 r4:=⟨(s5.trans (s6.trans s7)) _ _ e4,hat4.keep (s5.trans (s6.trans s7)),(s6.trans s7) _ _ e5,s7 _ _ e6,e7⟩
 have s37:=s36.trans s7
 walk_at "u";refine⟨by show 4<=sizeLine;decide,λrs hrs=>?_⟩
 have k8:=aG hrs (.lst [.ref r1,.ref r2,.ref r3,.ref r4])
 have e8:(upd H7 rs (.lst [.ref r1,.ref r2,.ref r3,.ref r4])) rs=some (.lst [.ref r1,.ref r2,.ref r3,.ref r4]):=aH
 generalize upd H7 rs (.lst [.ref r1,.ref r2,.ref r3,.ref r4])=H8 at k8 e8 ⊢;have s38:=s37.trans k8
 have S8:=S7.keep k8
 have tw8:=tw3.keep s38
 have hS8:=s38.seq hS3
 have hbk8:=hbk3.keep s38
 have erw8:=s38 _ _ erw3
 clear s4 s5 s6 s7 s35 s36 s37 s38 k8 S7 e4 e5 e6 e7 hat4 hr1 hr2 hr3 hr4 hrs tw3 hS3 hbk3 erw3 hB hat hR lk rB;walk_at "u"
 with_reducible refine nY ?_
 walk_at "u";refine⟨by show 1<=sizeLine;decide,λp9 hp9=>?_⟩
 have k9:=aG hp9 (.lst [.int 0])
 have e9:(upd H8 p9 (.lst [.int 0])) p9=some (.lst [.int 0]):=aH
 generalize upd H8 p9 (.lst [.int 0])=H9 at k9 e9 ⊢;walk_at "u";refine dQV (k9.seq hS8) λrd hrd=>?_;obtain⟨ms2,em2,hml2⟩:=sA ns 13 40 (by decide) (by decide)
 rw[show (13:Int)+40=53 from rfl]at em2;rw[em2];have k10:=aG hrd (.lst (ms2.map V.int))
 have e10:(upd H9 rd (.lst (ms2.map V.int))) rd=some (.lst (ms2.map V.int)):=aH
 generalize upd H9 rd (.lst (ms2.map V.int))=H10 at k10 e10 ⊢;have hml40:ms2.length<=40:=hml2
 refine fL (xs:=[.int 0]) (ys:=ms2.map V.int) (bQ (k10 _ _ e9)) (bQ e10) (bO (by rw[Ab];show 1+_<=_;omega)) λrq hrq=>?_
 have k11:=k9.trans (k10.trans (aG hrq (.lst ((0::ms2).map V.int))))
 have e11:(upd H10 rq (.lst ((0::ms2).map V.int))) rq=some (.lst ((0::ms2).map V.int)):=aH
 rw[show [V.int 0]++ms2.map V.int=(0::ms2).map V.int from rfl];generalize upd H10 rq (.lst ((0::ms2).map V.int))=H11 at k11 e11 ⊢;have S11:=S8.keep k11
 have tw11:=tw8.keep k11
 have hbk11:=hbk8.keep k11
 have erw11:=k11 _ _ erw8
 have e811:=k11 _ _ e8
 have rq11:=aR e11
 clear S8 tw8 hbk8 erw8 e8 k9 k10 k11 e9 e10 e11 hrq hrd hp9 hS8 em2 hml2;walk_at "u";refine qY (xs:=(0::ms2).map V.int) (λi σ H'=>∃(v6 v7 v8 v9 v10 v11:Option V),σ=[some (.ref a),some (.ref x),some (.ref rb),some (.ref rl),some (.ref rw'),some (.ref rs),v6,v7,v8,v9,v10,v11]/\Same H11 H')
  ⟨_,_,_,_,_,_,rfl,Same.refl _⟩ (λi σ H' _ ⟨_,_,_,_,_,_,_,sm⟩=>aO sm rq11) ?_ ?_
 ·rintro i v σ H12 pt hv ⟨v6,v7,v8,v9,v10,v11,rfl,s12⟩ hpt;rw[Ag]at hv;obtain⟨cell,hcell,rfl⟩:=Bz.mp hv;have hi:i<41:=by have:=(Ac.mp hcell).1;rw[Ba]at this;omega
  have k13:=s12.trans (aG hpt (.tup [.int ((0+i:Nat):Int),.int cell]))
  have t13:=cN (show (upd H12 pt (.tup [.int ((0+i:Nat):Int),.int cell])) pt=_ from aH)
  generalize upd H12 pt (.tup [.int ((0+i:Nat):Int),.int cell])=H13 at k13 t13 ⊢;clear hpt s12 hv;walk_at "u"
  with_reducible refine nY ?_
  walk_at "u";refine⟨cell,_,rfl,by omega,by omega,λN hN=>?_⟩
  obtain⟨j,ej,hj⟩:∃j:Nat,N / 7%((bk.length:Nat):Int)=(j:Int)/\j<bk.length:=mU (N / 7) hb1;obtain⟨qs,pj,cw,zj,b1,b2,aj,tpj,hc1,hc6,hcL⟩:=bZT (hbk11.keep k13) hcw hj;have hql:(qs.map V.ref).length=bk.length:=by rw[Ab,b2]
  have rb13:=aR b1
  have hb0:(0:Int)<((bk.length:Nat):Int):=by omega
  walk_at "u"
  with_reducible refine nY ?_
  walk_at "u";rw[hql];walk_at "u";rw[ej];refine cU rb13 aj ?_;walk_at "u";refine cK tpj (v:=.str (aU cw)) (bB (j:=0) rfl) ?_;walk_at "u";refine⟨cw,rfl,hc1,hc6,hcL,λH14 s14 _ _=>?_⟩;have k14:=k13.trans s14
  have S14:=S11.keep k14
  have rw14:=aR (k14 _ _ erw11)
  have rs14:=aR (k14 _ _ e811)
  clear b1 aj tpj rb13 hql s14 k13 t13;walk_at "u"
  with_reducible refine nY ?_
  walk_at "u";rw[hwl];refine cU rs14 (v:=.ref r2) (bB (j:=1) rfl) ?_;walk_at "u";refine⟨N,m,cw,r2,_,_,mss,rfl,m1,m6,hc1,hc6,hcL,S14.h2,dW _,hy,λt dp i' v' H15 s15 et hd=>?_⟩;have k15:=k14.trans s15
  have tt:=cN et
  have tw15:=tw11.keep k15
  walk_at "u"
  with_reducible refine nY ?_
  walk_at "u";refine⟨x,b',s0,st,hg,dd,dx,dp,m,bk,mss,hs,f,dps,i',v',rfl,tw15,by omega,hd.plain,λH16 s16=>?_⟩
  walk_at "u";rw[show (!decide (oP i'=oP i'))=false by rw[Ap rfl];rfl]
  have k16:=k15.trans s16
  have tw16:=tw11.keep k16
  have S16:=S11.keep k16
  have e16:=k16 _ _ e811
  clear k15 k14 S14 rw14 rs14 tw15 tt et hd s15 s16;obtain⟨⟨us6,hB,hat⟩,ok6,⟨kvs6,hR,lk⟩,hpos6⟩:=id tw16.tw;have rB:=aR hB
  have hul6:=hat.len
  walk_at "u";refine⟨x,dx,_,rfl,tw16.ins,mG,?_⟩;walk_at "u";refine⟨x,b',s0,st,hg,dd,dx,m,us6,hs,rfl,tw16.ins,rB,hat,by omega,λq1 us2 H17 hq1 s17 e17 hat17 _=>?_⟩
  walk_at "u";refine⟨x,dx,_,rfl,s17 _ _ tw16.ins,qT,?_⟩;walk_at "u";refine⟨x,b',s0,st,hg,dd,dx,m,kvs6,f,rfl,s17 _ _ tw16.ins,.inl (s17 _ _ hR),lk,λq2 H18 hq2 s18 e18=>?_⟩;have t18:=s17.trans s18
  walk_at "u";refine⟨x,dx,_,rfl,t18 _ _ tw16.ins,zI,?_⟩;walk_at "u";refine⟨x,b',s0,st,hg,dd,dx,m,_,rfl,t18 _ _ tw16.ins,t18 _ _ tw16.log,λq3 H19 hq3 s19 e19=>?_⟩;have t19:=t18.trans s19
  walk_at "u";refine⟨x,dx,_,rfl,t19 _ _ tw16.ins,wM,?_⟩;walk_at "u";refine⟨x,b',s0,st,hg,dd,dx,m,us6,hs,bk,cws,rfl,t19 _ _ tw16.ins,aO t19 rB,hat.keep t19,by omega,ok6,tw16.bka.keep t19,tw16.b60,hcw,λq4 H20 hq4 s20 e20=>?_⟩
  have t20:=t19.trans s20
  have S20:StAt H20 hs f dps cws us2 q1 q2 q3 q4:=⟨(s18.trans (s19.trans s20)) _ _ e17,hat17.keep (s18.trans (s19.trans s20)),(s19.trans s20) _ _ e18,s20 _ _ e19,e20⟩
  walk_at "u";refine⟨by show 4<=sizeLine;decide,λrz hrz=>?_⟩
  have k21:=aG hrz (.lst [.ref q1,.ref q2,.ref q3,.ref q4])
  have r21:rdL (upd H20 rz (.lst [.ref q1,.ref q2,.ref q3,.ref q4])) rz=some [.ref q1,.ref q2,.ref q3,.ref q4]:=bP
  generalize upd H20 rz (.lst [.ref q1,.ref q2,.ref q3,.ref q4])=H21 at k21 r21 ⊢;refine fXW (neg:=true) 2 r21 (aR ((t20.trans k21) _ _ e16)) rfl ((S20.keep k21).alike (S16.keep (t20.trans k21))) ?_;walk_at "u";exact⟨_,_,_,_,_,_,rfl,k16.trans (t20.trans k21)⟩
 ·rintro σ H12 ⟨v6,v7,v8,v9,v10,v11,rfl,s12⟩;walk_at "u";exact q H12
end
variable {A:List (Nat×Wt)}{ch:Wt->List Nat}{first w:Wt}{ws:List Wt}
def FnP(K:W.Frag)(x q:Str)(st:Stmt)(f:Addr):Prop:=∃(oc:Value) (od:Option Addr) (sl:Array (Option Value)) (kV dc pm:Value) (an:Option Addr) (cd ct:Value),K.lookup f=some ⟨oc,od,.func (W.fnOf x q (kC st) (fU st) (aK st) .none kV dc pm an cd ct),sl⟩/\W.codeIn K cd q=true/\W.keepIn K (.ref f)=true
abbrev FnG(K:W.Frag)(x:Str)(st:Stmt)(f:Addr):Prop:=W.nsIn K mainGlobals x=some (some (.ref f))/\FnP K x x st f
abbrev FnM(K:W.Frag)(C:Addr)(x q:Str)(st:Stmt)(f:Addr):Prop:=W.findIn K (.ref C) x=some (some (.ref f))/\W.isFn K (.ref f)=true/\FnP K x q st f
abbrev FnI(K:W.Frag)(C:Addr)(q:Str)(st:Stmt)(f:Addr):Prop:=W.findIn K (.ref C) "__init__"=some (some (.ref f))/\W.typeIn K (.ref f)=some (.type "function")/\FnP K "__init__" q st f
abbrev eQA(x q:Str)(st:Stmt)(ps:List Str):Prop:=∀(kV doc pm:Value) (an:Option Addr) (cdv ct:Value) (us:List Value),us.length=ps.length->bindArgs (W.fnOf x q (kC st) (fU st) (aK st) .none kV doc pm an cdv ct) ⟨us,[]⟩=pure (ps.zip us)
def FnP.c{P:Program}{w:World}{base:Heap}{CX:CXT}{x q:Str}{st:Stmt}{ps:List Str}{sp:Sp}(p:FnP K x q st f)(o:∀ {fd:FuncData},Fun K x q st f fd->FnOk P w K mg base CX k f fd ps sp)(hb:eQA x q st ps):∃fd:FuncData,FnOk P w K mg base CX k f fd ps sp/\W.keepIn K (.ref f)=true/\Binds K fd ps []:=by
 obtain⟨_,_,_,_,_,_,_,_,_,l,c,k⟩:=p;have F:=aQ3 (st:=st) l c k
 exact⟨_,o F,k,F.binds hb⟩
local macro_rules | `(tactic| walk_at "bd") => `(tactic| (intro a1 a2 a3 a4 a5 a6 us hl; iterate 7 (all_goals try (rcases us with _ | ⟨u,us⟩; (· first | rfl | (simp at hl)))); all_goals (simp at hl)))
def all_mk{l:W.OpenLaw}{w:World}{h:Heap}{fa:Addr}{f_0 f_1 f_2 f_3 f_4 f_5 f_6 f_7 f_8 f_9 f_10 f_11 f_12 f_13 f_14 f_15 f_16 f_17 f_18 f_19 f_20 f_21 f_22 f_23 f_24 f_25 f_26 f_27 f_28 f_29 f_30 f_31 f_32 f_33 f_34 f_35 f_36 f_37 f_38 f_39 f_40 f_41 f_42 f_43 f_44 f_45 f_46 f_47 f_48 f_49 f_50 f_51 f_52 f_53 f_54 f_55 f_56 f_57 f_58 f_59 f_60 f_61 f_62 f_63 f_64 f_65 f_66 f_67 f_68 f_69 f_70:Addr}{t_FLAGS t_SUBSTITUTES t_LETTERS t_LONGEST_TERM t_TERM_LETTERS t_MOST_TERMS t_MOST_PLACES t_MOST_OF_A_FLAG:Tok}{dd_THINGS_IN:Addr}{es_THINGS_IN:Array DictEntry}{ep_THINGS_IN:Nat}{c Pt:Addr}(X:K.In h)(Gn:h.Ns mainGlobals mg)(hfa:mg "law"=some (.ref fa))(TH:cZJ h mg "longest_on" c)(q_Lack:W.nsIn K mainGlobals "Lack"=some (some (.ref Zo)))(q_TowerError:W.nsIn K mainGlobals "TowerError"=some (some (.ref Zz)))(q_Short:W.nsIn K mainGlobals "Short"=some (some (.ref Zq)))(q_NoHoist:W.nsIn K mainGlobals "NoHoist"=some (some (.ref Zx)))(q_Tower:W.nsIn K mainGlobals "Tower"=some (some (.ref Z0)))(q_NoDeed:W.nsIn K mainGlobals "NoDeed"=some (some (.ref Zt)))(q_NoHalyard:W.nsIn K mainGlobals "NoHalyard"=some (some (.ref Zy)))(q_NoWord:W.nsIn K mainGlobals "NoWord"=some (some (.ref Zw)))(q_NoFlag:W.nsIn K mainGlobals "NoFlag"=some (some (.ref Zu)))(q_NoText:W.nsIn K mainGlobals "NoText"=some (some (.ref Zv)))(q_NoCut:W.nsIn K mainGlobals "NoCut"=some (some (.ref Zr)))(q_NoBook:W.nsIn K mainGlobals "NoBook"=some (some (.ref Zs)))(q_NoRow:W.nsIn K mainGlobals "NoRow"=some (some (.ref Zp)))(p_0:FnG K "_law_mixed" rQ f_0)(p_1:FnG K "_law_word" xI f_1)(p_2:FnG K "_law_book" vW f_2)(p_3:FnG K "_law_checked" iR f_3)(p_4:FnG K "_law_flags" rW f_4)(p_5:FnG K "_law_cell_at" mO f_5)(p_6:FnG K "plain_locker" hV f_6)(p_7:FnM K Z0 "__init__" "Tower.__init__" kS f_7)(p_8:FnG K "_law_begun" sL f_8)(p_9:FnG K "put_in" vN f_9)(p_10:FnG K "wants_of" kM f_10)(p_11:FnG K "choices_at" gN f_11)(p_12:FnG K "choices_of" kI f_12)(p_13:FnG K "hoists_of" lK f_13)(p_14:FnG K "asked_from" gO f_14)(p_15:FnG K "hang_along" kX f_15)(p_16:FnI K Zo "Lack.__init__" lY f_16)(p_17:FnG K "hang_all" eQ f_17)(p_18:FnG K "rank_of" sO f_18)(p_19:FnG K "is_divided" jZ f_19)(p_20:FnG K "hidden_letter" eM f_20)(p_21:FnG K "check_of" oR f_21)(p_22:FnG K "with_check" kA f_22)(p_23:FnG K "all_flags_on" lJ f_23)(p_24:FnI K Zq "Short.__init__" kO f_24)(p_25:FnG K "taken" aXK f_25)(p_26:FnG K "is_term" sM f_26)(p_27:FnG K "is_row_of_terms" eX f_27)(p_28:FnG K "terms_of" oV f_28)(p_29:FnG K "meanings_of" iT f_29)(p_30:FnG K "standing_at" fT f_30)(p_31:FnG K "least_numbers" eK f_31)(p_32:FnI K Zr "NoCut.__init__" kP f_32)(p_33:FnG K "longest_on" pW f_33)(p_34:FnG K "most_cut" kN f_34)(p_35:FnG K "cut_text" pJ f_35)(p_36:FnG K "behind_say" gP f_36)(p_37:FnG K "look_for_halyard" eU f_37)(p_38:FnG K "rising_lists" dU f_38)(p_39:FnG K "sets_of" sR f_39)(p_40:FnG K "others_hung" fV f_40)(p_41:FnG K "lack_of" sN f_41)(p_42:FnG K "flags_on" pG f_42)(p_43:FnG K "is_flag" rX f_43)(p_44:FnG K "may_stand" lM f_44)(p_45:FnG K "is_hoist" oQ f_45)(p_46:FnG K "read_of" sK f_46)(p_47:FnG K "words_with" gJ f_47)(p_48:FnG K "least_set" mE f_48)(p_49:FnG K "hauled" wI f_49)(p_50:FnG K "is_word" rP f_50)(p_51:FnG K "is_checked" kY f_51)(p_52:FnI K Zw "NoWord.__init__" iV f_52)(p_53:FnG K "behind_haul" jI f_53)(p_54:FnG K "behind_lower" gW f_54)(p_55:FnG K "look_for_flag" fZ f_55)(p_56:FnG K "behind_lose" iX f_56)(p_57:FnG K "behind_find" iZ f_57)(p_58:FnG K "behind_deed" iU f_58)(p_59:FnM K Z0 "do" "Tower.do" pC f_59)(p_60:FnG K "_law_hung" vT f_60)(p_61:FnM K Z0 "halyards" "Tower.halyards" fI f_61)(p_62:FnM K Z0 "locker" "Tower.locker" hX f_62)(p_63:FnM K Z0 "log" "Tower.log" mP f_63)(p_64:FnM K Z0 "read" "Tower.read" gK f_64)(p_65:FnG K "_law_no_deed" lG f_65)(p_66:FnG K "_law_no_word" lR f_66)(p_67:FnG K "_law_deed" qV f_67)(p_68:FnG K "_law_class" nI f_68)(p_69:FnG K "_law_told" uQ f_69)(p_70:FnG K "law" uZ f_70)(z_range:W.nsIn K mainGlobals "range"=some none)(z_enumerate:W.nsIn K mainGlobals "enumerate"=some none)(z_sum:W.nsIn K mainGlobals "sum"=some none)(z_len:W.nsIn K mainGlobals "len"=some none)(z_list:W.nsIn K mainGlobals "list"=some none)(z_int:W.nsIn K mainGlobals "int"=some none)(z_all:W.nsIn K mainGlobals "all"=some none)(z_min:W.nsIn K mainGlobals "min"=some none)(z_max:W.nsIn K mainGlobals "max"=some none)(z_zip:W.nsIn K mainGlobals "zip"=some none)(z_isinstance:W.nsIn K mainGlobals "isinstance"=some none)(z_ValueError:W.nsIn K mainGlobals "ValueError"=some none)(g_FLAGS:W.nsIn K mainGlobals "FLAGS"=some (some (.str "abcdefghijklmnopqrstuvw1234" t_FLAGS)))(g_SUBSTITUTES:W.nsIn K mainGlobals "SUBSTITUTES"=some (some (.str "1234" t_SUBSTITUTES)))(g_LETTERS:W.nsIn K mainGlobals "LETTERS"=some (some (.str "abcdefghijklmnopqrstuvw" t_LETTERS)))(g_LONGEST_TERM:W.nsIn K mainGlobals "LONGEST_TERM"=some (some (.int 10 t_LONGEST_TERM)))(g_TERM_LETTERS:W.nsIn K mainGlobals "TERM_LETTERS"=some (some (.str "abcdefghijklmnopqrstuvwxyz" t_TERM_LETTERS)))(g_MOST_TERMS:W.nsIn K mainGlobals "MOST_TERMS"=some (some (.int 40 t_MOST_TERMS)))(g_MOST_PLACES:W.nsIn K mainGlobals "MOST_PLACES"=some (some (.int 7 t_MOST_PLACES)))(g_MOST_OF_A_FLAG:W.nsIn K mainGlobals "MOST_OF_A_FLAG"=some (some (.int 99 t_MOST_OF_A_FLAG)))(KF:KFs K Zo Zz Zq Zx Z0 Zt Zy Zw Zu Zv Zr Zs Zp)(qd_THINGS_IN:W.nsIn K mainGlobals "THINGS_IN"=some (some (.ref dd_THINGS_IN)))(ld_THINGS_IN:K.lookup dd_THINGS_IN=some ⟨.type "dict",none,.dict es_THINGS_IN ep_THINGS_IN,#[]⟩)(sd_THINGS_IN:(dd_THINGS_IN==sysModules)=false)(ed_THINGS_IN:aZB w es_THINGS_IN.toList [("haul",3),("lower",2),("lose",2),("find",2),("say",2)]):∃fd:FuncData,(∀(s:Shared) (v:Value),BindsTo s fd ⟨[v],[]⟩ [("_law_script",v)])/\∀base:Heap,K.In base->base.Ns mainGlobals mg->LamB mg base c Pt->FnOk l.prog w K mg base CX0 18 fa fd ["_law_script"] (aQW K Pt):=by
 have M:∀ {x:Str} {v:Value},W.nsIn K mainGlobals x=some (some v)->mg x=some v:=λh=>W.mg_of X Gn h
 have N:∀ {x:Str},W.nsIn K mainGlobals x=some none->mg x=none:=λh=>W.mg_none_of X Gn h
 have e:=hfa.symm.trans (M p_70.1)
 cases e;have G:Gs K mg w Zo Zz Zq Zx Z0 Zt Zy Zw Zu Zv Zr Zs Zp:=⟨KF,M q_Lack,M q_TowerError,M q_Short,M q_NoHoist,M q_Tower,M q_NoDeed,M q_NoHalyard,M q_NoWord,M q_NoFlag,M q_NoText,M q_NoCut,M q_NoBook,M q_NoRow,⟨_,_,_,M qd_THINGS_IN,ld_THINGS_IN,sd_THINGS_IN,ed_THINGS_IN,by decide +kernel⟩,N z_range,N z_enumerate,N z_sum,N z_len,N z_list,N z_int,N z_all,N z_min,N z_max,N z_zip,N z_isinstance,N z_ValueError,⟨_,M g_FLAGS⟩,⟨_,M g_SUBSTITUTES⟩,⟨_,M g_LETTERS⟩,⟨_,M g_LONGEST_TERM⟩,⟨_,M g_TERM_LETTERS⟩,⟨_,M g_MOST_TERMS⟩,⟨_,M g_MOST_PLACES⟩,⟨_,M g_MOST_OF_A_FLAG⟩⟩
 obtain⟨_,_,_,kV,dc,pm,an,cd,ct,lk,hc,hk⟩:=p_70.2;have F:=aQ3 (st:=uZ) lk hc hk
 refine⟨W.fnOf "law" "law" (kC uZ) (fU uZ) (aK uZ) .none kV dc pm an cd ct,λs v=>.of_eq rfl,λbase _ _ LB=>?_⟩;have mk:∀ {CX:CXT} {k:Nat} {x:Str} {st:Stmt} {f:Addr} {ps:List Str} {sp:Sp},FnG K x st f->(∀ {fd:FuncData},Fun K x x st f fd->FnOk l.prog w K mg base CX k f fd ps sp)->eQA x x st ps->∃(f:Addr) (fd:FuncData),FnOk l.prog w K mg base CX k f fd ps sp/\mg x=some (.ref f)/\W.keepIn K (.ref f)=true/\Binds K fd ps []:=λp o hb=>by
  obtain⟨fd,a,b,c⟩:=p.2.c o hb;exact⟨_,fd,a,M p.1,b,c⟩
 have mt:∀ {CX:CXT} {k:Nat} {x:Str} {st:Stmt} {f:Addr} {ps:List Str} {sp:Sp} {C:Addr} {q:Str},FnM K C x q st f->(∀ {fd:FuncData},Fun K x q st f fd->FnOk l.prog w K mg base CX k f fd ps sp)->eQA x q st ps->aXM CX l.prog w K mg base k C x ps sp:=λp o hb=>by
  obtain⟨fd,a,b,c⟩:=p.2.2.c o hb;exact⟨_,fd,a,⟨p.1,p.2.1,b⟩,c⟩
 have mi:∀ {k:Nat} {st:Stmt} {f:Addr} {ps:List Str} {sp:Sp} {C:Addr} {q:Str},FnI K C q st f->(∀ {fd:FuncData},Fun K "__init__" q st f fd->FnOk l.prog w K mg base CX0 k f fd ps sp)->eQA "__init__" q st ps->aJZ l.prog w K mg base k C ps sp:=λp o hb=>by
  obtain⟨fd,a,b,c⟩:=p.2.2.c o hb;exact⟨_,fd,a,p.1,p.2.1,c⟩
 have z7:=mk p_0 (λF=>bX2 F G ) (by walk_at "bd")
 have yAJ:=mk p_1 (λF=>cQ3 G F ) (by walk_at "bd")
 have yB0:=mk p_2 (λF=>bJ0 G F z7 yAJ) (by walk_at "bd")
 have z8:=mk p_3 (λF=>aX1 G F ) (by walk_at "bd")
 have yB1:=mk p_4 (λF=>bQJ F G z7 z8) (by walk_at "bd")
 have m4:=mk p_5 (λF=>aXG G F ) (by walk_at "bd")
 have y4:=mk p_6 (λF=>tS G F ) (by walk_at "bd")
 have yB2:eJE CX0 l.prog w K mg base 2 Z0 ["self", "book", "locker", "many"] (iW Z0):=by
  obtain⟨fd,a,b,c⟩:=p_7.2.2.c (λF=>xP G F y4) (by walk_at "bd")
  exact⟨_,fd,a,⟨G.mk1_Tower,p_7.1,p_7.2.1,G.mk2_Tower⟩,c⟩
 have yB7:=mk p_8 (λF=>bXY G F yB0 yB1 m4 yB2) (by walk_at "bd")
 have y6:=mk p_9 (λF=>bJ5 F G y4) (by walk_at "bd")
 have i4:=mk p_10 (λF=>aJV G F ) (by walk_at "bd")
 have i5:=mk p_11 (λF=>yQ G F ) (by walk_at "bd")
 have i6:=mk p_12 (λF=>yM F G i4 i5) (by walk_at "bd")
 have i7:=mk p_13 (λF=>aQV G F ) (by walk_at "bd")
 have i8:=mk p_14 (λF=>yE G F ) (by walk_at "bd")
 have i9:=mk p_15 (λF=>xV F G ) (by walk_at "bd")
 have v0:=mi p_16 (λF=>aXJ G F ) (by walk_at "bd")
 have z5:=mk p_17 (λF=>aZJ G F i6 y4 i7 i8 i9 v0) (by walk_at "bd")
 have n5:=mk p_18 (λF=>bQ2 G F ) (by walk_at "bd")
 have u8:=mk p_19 (λF=>yH G F n5) (by walk_at "bd")
 have yA6:=mk p_20 (λF=>sT G F u8) (by walk_at "bd")
 have yA7:=mk p_21 (λF=>aZQ G F yA6) (by walk_at "bd")
 have t9:=mk p_22 (λF=>yB F G yA7) (by walk_at "bd")
 have wT:=mk p_23 (λF=>tZ F G ) (by walk_at "bd")
 have j3:=mi p_24 (λF=>yG G F ) (by walk_at "bd")
 have z6:=mk p_25 (λF=>dXR G F y4 j3) (by walk_at "bd")
 have b8:=mk p_26 (λF=>bQ6 G F ) (by walk_at "bd")
 have b9:=mk p_27 (λF=>oS G F b8) (by walk_at "bd")
 have a8:=mk p_28 (λF=>aJU G F b9) (by walk_at "bd")
 have a9:=mk p_29 (λF=>uP F G ) (by walk_at "bd")
 have u7:=mk p_30 (λF=>uV G F ) (by walk_at "bd")
 have yA0:=mk p_31 (λF=>rY G F u7) (by walk_at "bd")
 have yA1:=mi p_32 (λF=>yA G F ) (by walk_at "bd")
 have yA2:=mk p_33 (λF=>yN F G ) (by walk_at "bd")
 have yA3:=mk p_34 (λF=>aJA G F u7) (by walk_at "bd")
 have yA8:=mk p_35 (λF=>aZ2 G F a8 a9 yA0 yA1 yA2 yA3) (by walk_at "bd")
 have yAC:=mk p_36 (λF=>yF G F y6 z5 t9 wT z6 yA8) (by walk_at "bd")
 have t7:=mk p_37 (λF=>nK G F ) (by walk_at "bd")
 have o4:Cal l.prog w K mg base 9 "rising_lists" ["numbers", "many"] (dB 8):=by
  obtain⟨_,_,_,_,_,_,_,_,_,l,c,k⟩:=p_38.2;have F:=aQ3 (st:=dU) l c k
  have b:=F.binds (ps:=["numbers", "many"]) (by walk_at "bd")
  exact⟨_,_,cJY dB sF (M p_38.1) k b (λd n c=>tQ G F c) 8,M p_38.1,k,b⟩
 have g9:=mk p_39 (λF=>bZH G F o4) (by walk_at "bd")
 have c8:=mk p_40 (λF=>uM G F ) (by walk_at "bd")
 have c9:=mk p_41 (λF=>bQT G F z5) (by walk_at "bd")
 have y8:=mk p_42 (λF=>aJD F G ) (by walk_at "bd")
 have w8:=mk p_43 (λF=>bX4 G F ) (by walk_at "bd")
 have j8:=mk p_44 (λF=>aQ8 G F w8) (by walk_at "bd")
 have j9:=mk p_45 (λF=>aZU G F j8) (by walk_at "bd")
 have u0:=mk p_46 (λF=>bXH G F j9) (by walk_at "bd")
 have u5:=mk p_47 (λF=>xQ F G u0) (by walk_at "bd")
 have b7:=mk p_48 (λF=>aQ6 G F g9 v0 c8 y6 c9 y8 u5) (by walk_at "bd")
 have yA9:=mk p_49 (λF=>cXC G F y6 b7 y8 z5 z6 u5) (by walk_at "bd")
 have yA5:=mk p_50 (λF=>bXE G F ) (by walk_at "bd")
 have yAA:=mk p_51 (λF=>xX G F yA5 u8) (by walk_at "bd")
 have yAB:=mi p_52 (λF=>uX G F ) (by walk_at "bd")
 have yAD:=mk p_53 (λF=>xF G F t7 yA9 yAA yAB) (by walk_at "bd")
 have yAE:=mk p_54 (λF=>tU G F t7 y6 y8) (by walk_at "bd")
 have u9:=mk p_55 (λF=>rM G F w8) (by walk_at "bd")
 have yAF:=mk p_56 (λF=>xC F G u9 z6) (by walk_at "bd")
 have yAG:=mk p_57 (λF=>vK G F u9 y6 wT) (by walk_at "bd")
 have yAH:=mk p_58 (λF=>wO F G yAC yAD yAE yAF yAG) (by walk_at "bd")
 have o0:=mt p_59 (λF=>aJ6 G F yAH) (by walk_at "bd")
 have yB8:=mk p_60 (λF=>cQ0 G F o0 z8) (by walk_at "bd")
 have l0:=mt p_61 (λF=>qX G F ) (by walk_at "bd")
 have l5:=mt p_62 (λF=>uA G F y4) (by walk_at "bd")
 have l6:=mt p_63 (λF=>aQU G F ) (by walk_at "bd")
 have l7:=mt p_64 (λF=>yR G F t9 u0) (by walk_at "bd")
 have yB6:=mk p_65 (λF=>aQO F G ) (by walk_at "bd")
 have m9:=mk p_66 (λF=>aXQ F G ) (by walk_at "bd")
 have yB9:=mk p_67 (λF=>cQC G F yB6 m9) (by walk_at "bd")
 have yB5:fXB l.prog w K mg base 1 "_law_class" ["_law_e"] (pL K Zt Zy Zw Zu Zq Zv Zr Zo Zs Zx Zp Zz):=by
  obtain⟨_,_,_,_,_,_,_,_,_,l,c,k⟩:=p_68.2;have F:=aQ3 (st:=nI) l c k
  have b:=F.binds (ps:=["_law_e"]) (by walk_at "bd")
  exact⟨_,_,bXL G F ,M p_68.1,k,b⟩
 have yBA:=mk p_69 (λF=>cQO G F o0 yB5) (by walk_at "bd")
 exact fQO G F yB7 yB8 l0 l5 l6 l7 z7 z8 yB9 yBA
def walk{l:W.OpenLaw}{q:Program}{loose:List Str}{XP:(Q4)->Heap->Prop}{YP:World->Heap->Prop}{d:DefRec}{K:Params->W.Frag}(hn:l.most=some 63)(hdf:d.params.defaults=[])(hd2:((PyProof.Rows.recsOf q).find? λe=>e.name==PySem.Str.ofString "longest_on").isSome=true)(hno:∀w:World,W.noTabs (K w.params)=true)(hY:∀(w:World) (h:Heap),YP w h->(K w.params).In h)(F:∀(w:World) (mg:Q4) (fa:Addr) (h:Heap) (c Pt:Addr),(K w.params).In h->h.Ns mainGlobals mg->mg d.name=some (.ref fa)->cZJ h mg "longest_on" c->
 ∃fd:FuncData,(∀(s:Shared) (u:Value),BindsTo s fd ⟨[u],[]⟩ [("_law_script",u)])/\∀base:Heap,(K w.params).In base->base.Ns mainGlobals mg->LamB mg base c Pt->FnOk l.prog w (K w.params) mg base CX0 18 fa fd ["_law_script"] (aQW (K w.params) Pt)):W.WalkO q loose XP YP l.row.toRowW d [] (λf vs=>PySem.call f vs):=by
 obtain⟨d2,e⟩:=Ea.mp hd2;have e3:=List.find?_some e
 have e2:d2.name=PySem.Str.ofString "longest_on" := Ht e3
 exact L2.dX2 (d2:=d2) (n:=63) (k:=18) (x := "_law_script") (CX:=λ_=>CX0) (sp:=λw=>aQW (K w.params)) hn (by decide) hdf ⟨rfl,by decide,by decide⟩ (List.mem_of_find?_eq_some e) hno hY (λw mg fa h c Pt a1 a2 a3 a4=>F w mg fa h c Pt a1 a2 a3 (e2▸a4)) (λ_ _ a Pt ns hl hP hS=>⟨a,ns,rfl,hS,hl,hP,λ_=>rfl⟩) λ_ _ _ _ _ z=>z
end Mine
namespace PySem.W.Fast
theorem tw406850270081313177:True:=⟨⟩
theorem tw16946814959179665630:True:=⟨⟩
theorem tw7994898888960431820:True:=⟨⟩
theorem tw6269345660940989980:True:=⟨⟩
theorem tw6669411832648378915:True:=⟨⟩
theorem tw16014806941411802514:True:=⟨⟩
theorem tw771266962705171872:True:=⟨⟩
theorem tw2800947377151460939:True:=⟨⟩
theorem tw11370185437192529641:True:=⟨⟩
theorem tw7540694313086363229:True:=⟨⟩
theorem tw4810969794271760084:True:=⟨⟩
theorem tw7989081009544078487:True:=⟨⟩
theorem tw72717864974951786:True:=⟨⟩
theorem tw743135989293019663:True:=⟨⟩
theorem tw1609438821097789677:True:=⟨⟩
theorem tw3498035156576866900:True:=⟨⟩
theorem tw12666695030028112261:True:=⟨⟩
theorem tw243995822832380440:True:=⟨⟩
theorem tw9723291076426893317:True:=⟨⟩
theorem tw16949973447233462383:True:=⟨⟩
theorem tw3500188958300638795:True:=⟨⟩
theorem tw10913195913465244286:True:=⟨⟩
theorem tw8905222575594297680:True:=⟨⟩
theorem tw17265966941847705169:True:=⟨⟩
theorem tw14404181581639724011:True:=⟨⟩
theorem tw13872948202499303922:True:=⟨⟩
theorem tw2370786931097352812:True:=⟨⟩
theorem tw7191327050946269683:True:=⟨⟩
theorem tw17215985144695025477:True:=⟨⟩
theorem tw12388949825718501906:True:=⟨⟩
theorem tw6636266558905156139:True:=⟨⟩
theorem tw6961534516743678303:True:=⟨⟩
theorem tw7101348225932403627:True:=⟨⟩
theorem tw81517185854143263:True:=⟨⟩
theorem tw10571191500577032113:True:=⟨⟩
theorem tw3226346408337722543:True:=⟨⟩
theorem tw8403416119013214823:True:=⟨⟩
theorem tw7342620770971472880:True:=⟨⟩
theorem tw15322856764213604354:True:=⟨⟩
theorem tw11117487019801896195:True:=⟨⟩
theorem tw15055730176416024383:True:=⟨⟩
theorem tw247763568671301363:True:=⟨⟩
theorem tw10828658253788232676:True:=⟨⟩
theorem tw11235052934614531708:True:=⟨⟩
theorem tw2832141466846580300:True:=⟨⟩
theorem tw8819951902367438774:True:=⟨⟩
theorem tw17699340014478779536:True:=⟨⟩
theorem tw12879604518450692532:True:=⟨⟩
theorem tw732454062600263954:True:=⟨⟩
theorem tw4889914592091710059:True:=⟨⟩
theorem tw15644991750185844585:True:=⟨⟩
theorem tw3571905538857536544:True:=⟨⟩
theorem tw5835259580231244787:True:=⟨⟩
theorem tw9130491353667946238:True:=⟨⟩
theorem tw7950889998234534146:True:=⟨⟩
theorem tw12915234899802506500:True:=⟨⟩
theorem tw4316219835308499092:True:=⟨⟩
theorem tw2578302172341382251:True:=⟨⟩
theorem tw12154579568509679743:True:=⟨⟩
theorem tw16192145027628975047:True:=⟨⟩
theorem tw8353773522750251297:True:=⟨⟩
theorem tw3034737415774123192:True:=⟨⟩
theorem tw11113513071753138830:True:=⟨⟩
theorem tw11174891061895511501:True:=⟨⟩
theorem tw4260862042649955193:True:=⟨⟩
theorem tw14852299637874640723:True:=⟨⟩
theorem tw10583570132199624366:True:=⟨⟩
theorem tw10482406419819964416:True:=⟨⟩
theorem tw11759205703760168902:True:=⟨⟩
theorem tw2760541507649898629:True:=⟨⟩
theorem tw1511733828487115562:True:=⟨⟩
theorem tw5814079195660247969:True:=⟨⟩
theorem tw10407132313403000922:True:=⟨⟩
theorem tw3865645453902553415:True:=⟨⟩
theorem tw5060058600034379683:True:=⟨⟩
theorem tw17809908926647378786:True:=⟨⟩
theorem tw5057523263201817036:True:=⟨⟩
theorem tw2974721318209290620:True:=⟨⟩
theorem tw12102949543978092531:True:=⟨⟩
theorem tw5066916286245179119:True:=⟨⟩
theorem tw17383212883215100476:True:=⟨⟩
theorem tw12976052959834081872:True:=⟨⟩
theorem tw4667551126250679709:True:=⟨⟩
theorem tw16358640825093747720:True:=⟨⟩
theorem tw12945194214977490713:True:=⟨⟩
theorem tw9004699498036722790:True:=⟨⟩
theorem tw7077935398993721242:True:=⟨⟩
theorem tw13456743739125166931:True:=⟨⟩
theorem tw8161719771990915165:True:=⟨⟩
theorem tw14450185583698185799:True:=⟨⟩
theorem tw5582209607827420821:True:=⟨⟩
theorem tw10414958823805345089:True:=⟨⟩
theorem tw14193375587775022572:True:=⟨⟩
theorem tw17007679482551478986:True:=⟨⟩
theorem tw13081119631992313891:True:=⟨⟩
theorem tw17918608397754726072:True:=⟨⟩
theorem tw10239439965673869656:True:=⟨⟩
theorem tw12028123010405169385:True:=⟨⟩
theorem tw18317906543752968195:True:=⟨⟩
theorem tw1025032865998656941:True:=⟨⟩
theorem tw5317995810132850630:True:=⟨⟩
theorem tw8719743910563948906:True:=⟨⟩
theorem tw9823306722776565005:True:=⟨⟩
theorem tw7926029532128961706:True:=⟨⟩
theorem tw6866322944441919959:True:=⟨⟩
theorem tw4586629343199838542:True:=⟨⟩
theorem tw7734873358962386935:True:=⟨⟩
theorem tw15384856922878288126:True:=⟨⟩
theorem tw8710860903449366756:True:=⟨⟩
theorem tw2276834056034607228:True:=⟨⟩
theorem tw1154467610233751301:True:=⟨⟩
theorem tw10607527966785967764:True:=⟨⟩
theorem tw15249100214743540197:True:=⟨⟩
theorem tw10863538267266929632:True:=⟨⟩
theorem tw16852847047195089266:True:=⟨⟩
theorem tw5467061424749618648:True:=⟨⟩
theorem tw2462259096077679258:True:=⟨⟩
theorem tw10622103824816980145:True:=⟨⟩
theorem tw14970747757548934079:True:=⟨⟩
theorem tw8555022407206537365:True:=⟨⟩
theorem tw1345582487138598920:True:=⟨⟩
theorem tw8221653097274355061:True:=⟨⟩
theorem tw16978515783235911180:True:=⟨⟩
theorem tw3842314537965808910:True:=⟨⟩
theorem tw3151341762810413559:True:=⟨⟩
theorem tw16754771824894405957:True:=⟨⟩
theorem tw5616266787228359109:True:=⟨⟩
theorem tw12583485466975462835:True:=⟨⟩
theorem tw17702904938140862113:True:=⟨⟩
theorem tw8925594401514522223:True:=⟨⟩
theorem tw6008283494650913665:True:=⟨⟩
theorem tw189014724393185326:True:=⟨⟩
theorem tw11794603890495239941:True:=⟨⟩
theorem tw1355808339073121163:True:=⟨⟩
theorem tw7260287900821769252:True:=⟨⟩
theorem tw15018152980196327148:True:=⟨⟩
theorem tw9686606647126725787:True:=⟨⟩
theorem tw16662999041978819309:True:=⟨⟩
theorem tw10337134951907857297:True:=⟨⟩
theorem tw7926869295317896572:True:=⟨⟩
theorem tw1795583568114709415:True:=⟨⟩
theorem tw5837136749590690185:True:=⟨⟩
theorem tw18330217471506801540:True:=⟨⟩
theorem tw2986397660051519419:True:=⟨⟩
theorem tw9194652293520636019:True:=⟨⟩
theorem tw8289782685267315955:True:=⟨⟩
theorem tw8894426554885198084:True:=⟨⟩
theorem tw2810751057216771453:True:=⟨⟩
theorem tw4679687438349464057:True:=⟨⟩
theorem tw2547590092114903408:True:=⟨⟩
theorem tw17365790016705760737:True:=⟨⟩
theorem tw3196655072809797346:True:=⟨⟩
theorem tw12464939051845807956:True:=⟨⟩
theorem tw8783343852823764592:True:=⟨⟩
theorem tw1403605435115154298:True:=⟨⟩
theorem tw6484454082621265464:True:=⟨⟩
theorem tw5450111548953996128:True:=⟨⟩
theorem tw18346925287773879595:True:=⟨⟩
theorem tw8654486067772159747:True:=⟨⟩
theorem tw411082491254272629:True:=⟨⟩
theorem tw9696220226713605409:True:=⟨⟩
theorem tw4952354874948095714:True:=⟨⟩
theorem tw11767221657600110364:True:=⟨⟩
theorem tw6867235442838030378:True:=⟨⟩
theorem tw16408855904802200158:True:=⟨⟩
theorem tw2199898863317924420:True:=⟨⟩
theorem tw12220649363668005914:True:=⟨⟩
theorem tw13925161423422661380:True:=⟨⟩
theorem tw15631402617609185322:True:=⟨⟩
theorem tw9347711123527088691:True:=⟨⟩
theorem tw17686273927888795416:True:=⟨⟩
theorem tw4797392962240678261:True:=⟨⟩
theorem tw2683308500583592371:True:=⟨⟩
theorem tw4300744454430605528:True:=⟨⟩
theorem tw830006894601258214:True:=⟨⟩
theorem tw10560200667836223097:True:=⟨⟩
theorem tw15320252065204785053:True:=⟨⟩
theorem tw12404295584916579875:True:=⟨⟩
theorem tw4312379878089589291:True:=⟨⟩
theorem tw14656515654011577420:True:=⟨⟩
theorem tw1419825612102629747:True:=⟨⟩
theorem tw12688015359694151882:True:=⟨⟩
theorem tw6400072808622484159:True:=⟨⟩
theorem tw9801438469820410182:True:=⟨⟩
theorem tw3841571660734397242:True:=⟨⟩
theorem tw746247597940458089:True:=⟨⟩
theorem tw3464065429676536630:True:=⟨⟩
theorem tw12996269127589120042:True:=⟨⟩
theorem tw10635373095410189917:True:=⟨⟩
theorem tw5469300322492568920:True:=⟨⟩
theorem tw391594956713383468:True:=⟨⟩
theorem tw10382428648768160278:True:=⟨⟩
theorem tw7433890779760507343:True:=⟨⟩
theorem tw10101562361776109425:True:=⟨⟩
theorem tw2350986040886900597:True:=⟨⟩
theorem tw16976142777357143429:True:=⟨⟩
theorem tw2267643940654281793:True:=⟨⟩
theorem tw1160511471439279217:True:=⟨⟩
theorem tw2551160157244648351:True:=⟨⟩
theorem tw17628655533905608008:True:=⟨⟩
theorem tw14260608904590374587:True:=⟨⟩
theorem tw16209578592287743829:True:=⟨⟩
theorem tw6921756915530434328:True:=⟨⟩
theorem tw2860129168549580130:True:=⟨⟩
theorem tw6565584724704021418:True:=⟨⟩
theorem tw9510670174842600401:True:=⟨⟩
theorem tw1911088525751041350:True:=⟨⟩
theorem tw5512861809933269725:True:=⟨⟩
theorem tw15685219354581321715:True:=⟨⟩
theorem tw1116285832387936051:True:=⟨⟩
theorem tw15660698851276101377:True:=⟨⟩
theorem tw1721860017205692246:True:=⟨⟩
theorem tw17921632998323492069:True:=⟨⟩
theorem tw3705215506725704565:True:=⟨⟩
theorem tw11839310648327724517:True:=⟨⟩
theorem tw1795105855960154227:True:=⟨⟩
theorem tw4795381937022952630:True:=⟨⟩
theorem tw15879334000450723785:True:=⟨⟩
theorem tw6661688546597812315:True:=⟨⟩
theorem tw9279882107998852530:True:=⟨⟩
theorem tw14460396624283787991:True:=⟨⟩
theorem tw8289560688560535930:True:=⟨⟩
theorem tw15586628439203230332:True:=⟨⟩
theorem tw13167087272023587639:True:=⟨⟩
theorem tw8871740847378605301:True:=⟨⟩
theorem tw9283509862688675170:True:=⟨⟩
theorem tw74044780651748286:True:=⟨⟩
theorem tw14602117959297137853:True:=⟨⟩
theorem tw12040187939992357137:True:=⟨⟩
theorem tw17526035835895268537:True:=⟨⟩
theorem tw13869021652651578664:True:=⟨⟩
theorem tw1730773230047955697:True:=⟨⟩
theorem tw3432959631964261485:True:=⟨⟩
theorem tw15820787087301641427:True:=⟨⟩
theorem tw13974547340735151382:True:=⟨⟩
theorem tw7708223292401845880:True:=⟨⟩
theorem tw2307829379901772812:True:=⟨⟩
theorem tw2194218012756306676:True:=⟨⟩
theorem tw8201395397277323256:True:=⟨⟩
theorem tw4217776970259493061:True:=⟨⟩
theorem tw14420085686127377556:True:=⟨⟩
theorem tw6158626308100589161:True:=⟨⟩
theorem tw9993945563250647496:True:=⟨⟩
theorem tw3468779591506846864:True:=⟨⟩
theorem tw3838557274535937358:True:=⟨⟩
theorem tw15746057765721822475:True:=⟨⟩
theorem tw15104102879201893920:True:=⟨⟩
theorem tw7943428026883742580:True:=⟨⟩
theorem tw3057747862277875883:True:=⟨⟩
theorem tw17057577431760755579:True:=⟨⟩
theorem tw4158282451294107438:True:=⟨⟩
theorem tw4702700438372782905:True:=⟨⟩
theorem tw10825650098950550303:True:=⟨⟩
theorem tw6995335122680473215:True:=⟨⟩
theorem tw5560269864621807310:True:=⟨⟩
theorem tw8637740661102728608:True:=⟨⟩
theorem tw2247304480478559772:True:=⟨⟩
theorem tw16420730301078234881:True:=⟨⟩
theorem tw1615552162856725836:True:=⟨⟩
theorem tw13688736083512824557:True:=⟨⟩
theorem tw29977726370749246:True:=⟨⟩
theorem tw15893073696793649438:True:=⟨⟩
theorem tw14568967250179646767:True:=⟨⟩
theorem tw10816000104973459038:True:=⟨⟩
theorem tw10949752654197461139:True:=⟨⟩
theorem tw457747914932384756:True:=⟨⟩
theorem tw17303595936791729773:True:=⟨⟩
theorem tw1410220352296766860:True:=⟨⟩
theorem tw15065840435225295452:True:=⟨⟩
theorem tw11116188313246010695:True:=⟨⟩
theorem tw1563259584099582800:True:=⟨⟩
theorem tw16435934996928031496:True:=⟨⟩
theorem tw205773934174748440:True:=⟨⟩
theorem tw1127398310427223941:True:=⟨⟩
theorem tw16285665511568686235:True:=⟨⟩
theorem tw151384402059124490:True:=⟨⟩
theorem tw11908968318659107391:True:=⟨⟩
theorem tw1361516225069185375:True:=⟨⟩
theorem tw15467836126903249549:True:=⟨⟩
theorem tw1654151406543473903:True:=⟨⟩
theorem tw15932196450950114346:True:=⟨⟩
theorem tw8535883417729605998:True:=⟨⟩
theorem tw14513840749230482119:True:=⟨⟩
theorem tw16091657061699303472:True:=⟨⟩
theorem tw16502605095407083204:True:=⟨⟩
theorem tw15384982488802283077:True:=⟨⟩
theorem tw2259878494595983397:True:=⟨⟩
theorem tw15691622428554902475:True:=⟨⟩
theorem tw11119452940338085963:True:=⟨⟩
theorem tw11842278223374107814:True:=⟨⟩
theorem tw4128774372186095278:True:=⟨⟩
theorem tw573433842772003295:True:=⟨⟩
theorem tw7840022054844304969:True:=⟨⟩
theorem tw1231003169645670277:True:=⟨⟩
theorem tw3641168012466275662:True:=⟨⟩
theorem tw2192973959598283438:True:=⟨⟩
theorem tw9207182428738905077:True:=⟨⟩
theorem tw2374685446243169604:True:=⟨⟩
theorem tw18270058422595424614:True:=⟨⟩
theorem tw7791165313781919133:True:=⟨⟩
theorem tw449671801871770052:True:=⟨⟩
theorem tw10781599686553522973:True:=⟨⟩
theorem tw8808428178602227070:True:=⟨⟩
theorem tw476958345513285352:True:=⟨⟩
theorem tw5489819399800655043:True:=⟨⟩
theorem tw6846038723680299520:True:=⟨⟩
theorem tw7462265648204716430:True:=⟨⟩
theorem tw7850733836609192575:True:=⟨⟩
theorem tw5184513212523475863:True:=⟨⟩
theorem tw9298403544254707920:True:=⟨⟩
theorem tw5247994816873363996:True:=⟨⟩
theorem tw10287928694431007475:True:=⟨⟩
theorem tw15736800781482776026:True:=⟨⟩
theorem tw302702963440737675:True:=⟨⟩
theorem tw11839479282941572498:True:=⟨⟩
theorem tw16531431629919037068:True:=⟨⟩
theorem tw11360873716484378882:True:=⟨⟩
theorem tw2078775390356543917:True:=⟨⟩
theorem tw16076228865779175680:True:=⟨⟩
theorem tw18393362910626423271:True:=⟨⟩
theorem tw1650148663003995915:True:=⟨⟩
theorem tw5161863303568606994:True:=⟨⟩
theorem tw10420469739678623600:True:=⟨⟩
theorem tw6722638877364509810:True:=⟨⟩
theorem tw3022289942663657835:True:=⟨⟩
theorem tw8809090492376456898:True:=⟨⟩
theorem tw4364895394700654680:True:=⟨⟩
theorem tw2064603990995944453:True:=⟨⟩
theorem tw5672654458634156860:True:=⟨⟩
theorem tw10210484315398451000:True:=⟨⟩
theorem tw7925664107862391219:True:=⟨⟩
theorem tw3423055169167370991:True:=⟨⟩
theorem tw9113159494023193323:True:=⟨⟩
theorem tw16129288147481226290:True:=⟨⟩
theorem tw9856597124799921673:True:=⟨⟩
theorem tw490481275363319632:True:=⟨⟩
theorem tw11601220793495582394:True:=⟨⟩
theorem tw788642036015753458:True:=⟨⟩
theorem tw10574768986879990076:True:=⟨⟩
theorem tw13167884528977596449:True:=⟨⟩
theorem tw16344010431986947666:True:=⟨⟩
theorem tw3183595363125656979:True:=⟨⟩
theorem tw6626084420366835982:True:=⟨⟩
theorem tw5916130080864286340:True:=⟨⟩
theorem tw4101860361697610785:True:=⟨⟩
theorem tw14436354805060234868:True:=⟨⟩
theorem tw17250435718860163712:True:=⟨⟩
theorem tw14826431846055054290:True:=⟨⟩
theorem tw4497911641472959293:True:=⟨⟩
theorem tw8186427992498426236:True:=⟨⟩
theorem tw9153627161663840069:True:=⟨⟩
theorem tw14280545960789601247:True:=⟨⟩
theorem tw6789383976129118125:True:=⟨⟩
theorem tw3950311734802484845:True:=⟨⟩
theorem tw4360925952336062009:True:=⟨⟩
theorem tw9485414662272872863:True:=⟨⟩
theorem tw17563013776070259546:True:=⟨⟩
theorem tw7830164611138041334:True:=⟨⟩
theorem tw8846936904956074596:True:=⟨⟩
theorem tw2009068532355663748:True:=⟨⟩
theorem tw6546776635836296006:True:=⟨⟩
theorem tw13826552382825765473:True:=⟨⟩
theorem tw17301400153031570298:True:=⟨⟩
theorem tw2050599455373017151:True:=⟨⟩
theorem tw864123161915050638:True:=⟨⟩
theorem tw14349712379498344783:True:=⟨⟩
theorem tw13268614444639120099:True:=⟨⟩
theorem tw3396145030203376681:True:=⟨⟩
theorem tw14528033932636545275:True:=⟨⟩
theorem tw7198155241622401203:True:=⟨⟩
theorem tw8989210633137890044:True:=⟨⟩
theorem tw14521498384668273063:True:=⟨⟩
theorem tw9629446289262901142:True:=⟨⟩
theorem tw14314109019412050138:True:=⟨⟩
theorem tw6768563099798147134:True:=⟨⟩
theorem tw2632597541024255001:True:=⟨⟩
theorem tw961992918050503527:True:=⟨⟩
theorem tw11483570044194359441:True:=⟨⟩
theorem tw5031283849985974465:True:=⟨⟩
theorem tw12235054072356910883:True:=⟨⟩
theorem tw12099832117314784152:True:=⟨⟩
theorem tw6640646861368237984:True:=⟨⟩
theorem tw9854216439411527866:True:=⟨⟩
theorem tw3134957761632687706:True:=⟨⟩
theorem tw15180589335835752780:True:=⟨⟩
theorem tw9004638098339869843:True:=⟨⟩
theorem tw3052272350230617057:True:=⟨⟩
theorem tw16761492077419055931:True:=⟨⟩
theorem tw13929096953836932034:True:=⟨⟩
theorem tw17229828593591031194:True:=⟨⟩
theorem tw16124440053447248530:True:=⟨⟩
theorem tw10010006551555574115:True:=⟨⟩
theorem tw8095774305197208432:True:=⟨⟩
theorem tw17349133070709425643:True:=⟨⟩
theorem tw12366030639168264033:True:=⟨⟩
theorem tw3042515404721359150:True:=⟨⟩
theorem tw7499924946502196588:True:=⟨⟩
theorem tw4599068572648116371:True:=⟨⟩
theorem tw14109242932189231065:True:=⟨⟩
theorem tw12152047020631309329:True:=⟨⟩
theorem tw7131509585056608132:True:=⟨⟩
theorem tw18010897462702488434:True:=⟨⟩
theorem tw1935890414789269051:True:=⟨⟩
theorem tw10105689579008762449:True:=⟨⟩
theorem tw8482007655083152310:True:=⟨⟩
theorem tw11546390152162753976:True:=⟨⟩
theorem tw3782400932698196256:True:=⟨⟩
theorem tw9135661190481778398:True:=⟨⟩
theorem tw16434766570805141332:True:=⟨⟩
theorem tw8866239640107882608:True:=⟨⟩
theorem tw8115674667984242787:True:=⟨⟩
theorem tw11883686671888778421:True:=⟨⟩
theorem tw15994474630369538631:True:=⟨⟩
theorem tw9275846157176943920:True:=⟨⟩
theorem tw9736216706039871924:True:=⟨⟩
theorem tw4092308056556517760:True:=⟨⟩
theorem tw535812709874135062:True:=⟨⟩
theorem tw3019278597250506950:True:=⟨⟩
theorem tw15648143362615210538:True:=⟨⟩
theorem tw4408710137790931181:True:=⟨⟩
theorem tw8606907177840494321:True:=⟨⟩
theorem tw8295998769046381354:True:=⟨⟩
theorem tw17760616766579434581:True:=⟨⟩
theorem tw15596984688979235283:True:=⟨⟩
theorem tw15746890840221393162:True:=⟨⟩
theorem tw6083852469865604712:True:=⟨⟩
theorem tw10039031766844690372:True:=⟨⟩
theorem tw6512202163501403762:True:=⟨⟩
theorem tw8666362669526286721:True:=⟨⟩
theorem tw2829255720067658364:True:=⟨⟩
theorem tw16030151971439673551:True:=⟨⟩
theorem tw14792391372530368875:True:=⟨⟩
theorem tw15436770570528465779:True:=⟨⟩
theorem tw674555586543500761:True:=⟨⟩
theorem tw11517747929988253843:True:=⟨⟩
theorem tw15151067633683400550:True:=⟨⟩
theorem tw14437465126606674048:True:=⟨⟩
theorem tw11835297145943170112:True:=⟨⟩
theorem tw3400410312488260453:True:=⟨⟩
theorem tw9663986715424389563:True:=⟨⟩
theorem tw11546395282152588008:True:=⟨⟩
theorem tw3000751442194863371:True:=⟨⟩
theorem tw11876381482984643439:True:=⟨⟩
theorem tw5186941691988481366:True:=⟨⟩
theorem tw3414686029846982605:True:=⟨⟩
theorem tw10867620137245930955:True:=⟨⟩
theorem tw15356386931357292284:True:=⟨⟩
theorem tw4308320545258321087:True:=⟨⟩
theorem tw13132092811321040513:True:=⟨⟩
theorem tw15638793423788832667:True:=⟨⟩
theorem tw7202159420265233022:True:=⟨⟩
theorem tw10152761360603649250:True:=⟨⟩
theorem tw2809833512443823170:True:=⟨⟩
theorem tw9476894915776740460:True:=⟨⟩
theorem tw15766030346839264241:True:=⟨⟩
theorem tw11739909200919584735:True:=⟨⟩
end PySem.W.Fast
open PySem PySem.W PyProof.Rows
set_option maxRecDepth 100000 in
set_option maxHeartbeats 0 in
theorem PySem.Challenge.cw_flaglocker_k56_deeds_refused_holds : PySem.Challenge.rw_flaglocker_k56_deeds_refused.Holds := by
  w_on; o_law; k_head; (case hw => w_witness2)
  k_fill
  refine Mine.walk (l:=PySem.Challenge.rw_flaglocker_k56_deeds_refused) rfl rfl ?hd2 ?hno (fun w h Y => PySem.W.km_in_of Y) ?F
  case hd2 => kernel_rfl!
  case hno => intro w; kernel_rfl!
  case F =>
    intro w mg fa h c Pt KX G hmg TH
    apply Mine.all_mk KX G hmg TH
    all_goals first | exact ⟨by k_is,_,_,_,_,_,_,_,_,_,by k_is,by k_is,by k_is⟩ | exact ⟨by k_is,by k_is,_,_,_,_,_,_,_,_,_,by k_is,by k_is,by k_is⟩ | k_is | kernel_rfl! | (constructor <;> first | k_is | k_exc | kts_exm | kit_is | kernel_rfl! | (constructor <;> k_is) | (unfold Mine.Knd; and_intros <;> first | kit_is | kts_exm)) | exact ⟨rfl,⟨_,rfl⟩,⟨_,rfl⟩,rfl,⟨_,rfl⟩,⟨_,rfl⟩,rfl,⟨_,rfl⟩,⟨_,rfl⟩,rfl,⟨_,rfl⟩,⟨_,rfl⟩,rfl,⟨_,rfl⟩,⟨_,rfl⟩,trivial⟩
