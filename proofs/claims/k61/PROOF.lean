import PyProof.Rows.All
import Wide.All
import OpenK.AllK
import Wide.FinOn
import Lean
import PyProof.EqAt
import PyProof.EqKinds
import PyProof.TupleCall
import PySem.Challenge.RW_flaglocker_k61_rows_refused
set_option Elab.async false
set_option compiler.extract_closed false
set_option linter.all false
set_option maxHeartbeats 4000000
set_option maxRecDepth 100000
abbrev Q2:=PySem.Value->PySem.Shared->Prop
abbrev Q4:=List (PySem.Addr × PySem.Obj)
abbrev Q5:=List (Option (List Nat))
abbrev Q6:=PySem.Str->Option PySem.Value
abbrev Q7:=List (List Nat)
abbrev Aa:=@List.getElem?_eq_getElem
abbrev Ac:=@List.length_map
abbrev Ad:=@PySem.wpAny_bind
abbrev Ae:=@List.getElem?_map
abbrev Af:=@PySem.Heap.get?_push_of_some
abbrev Ag:=@List.getElem?_eq_some_iff
abbrev Ah:=@List.getD_eq_getElem?_getD
abbrev Ai:=@Nat.le_refl
abbrev Aj:=@List.length_append
abbrev Ak:=@List.mem_singleton
abbrev Al:=@List.mem_cons_self
abbrev Am:=@List.mem_cons_of_mem
abbrev An:=@decide_eq_false
abbrev Ao:=@decide_eq_true
abbrev Ap:=@PySem.wpAny_pure
abbrev Aq:=@Bool.false_ne_true
abbrev Ar:=@List.map_append
abbrev As:=@List.mem_of_getElem?
abbrev Au:=@PySem.Heap.get?_push_size
abbrev Av:=@PySem.Heap.lt_size
abbrev Aw:=@of_decide_eq_true
abbrev Ax:=@List.map_cons
abbrev Ay:=@Option.some.inj
abbrev Az:=@List.size_toArray
abbrev Ba:=@List.mem_cons
abbrev Bb:=@Nat.ne_of_lt
abbrev Bc:=@Nat.lt_of_lt_of_le
abbrev Bd:=@List.take_of_length_le
abbrev Be:=@List.length_cons
abbrev Bf:=@List.take_add_one
abbrev Bg:=@List.mem_append_right
abbrev Bh:=@decide_eq_true_iff
abbrev Bi:=@List.length_take
abbrev Bj:=@Bool.and_eq_true
abbrev Bk:=@Option.map_eq_some_iff
abbrev Bl:=@PySem.F.excBase_ValueError
abbrev Bm:=@Bool.eq_false_iff
abbrev Bo:=@PySem.F.plainAttrs_str
abbrev Bp:=@PySem.PassesOwn.never
abbrev Bq:=@PySem.F.plainAttrs_list
abbrev Br:=@List.getElem?_append_right
abbrev Bs:=@of_decide_eq_false
abbrev Bt:=@List.append_nil
abbrev Bu:=@List.filterMap_append
abbrev Bv:=@List.all_eq_true
abbrev Bw:=@List.mem_map
abbrev Bx:=@List.getElem?_append_left
abbrev By:=@PySem.wpAny_holding
abbrev Bz:=@PySem.Heap.get?_update_other
abbrev Ca:=@List.length_replicate
abbrev Cb:=@PySem.F.slot_dict_get
abbrev Cc:=@List.filterMap_cons_some
abbrev Cd:=@Nat.le_trans
abbrev Ce:=@List.mem_append
abbrev Cf:=@PySem.wpAny_loadPart'
abbrev Cg:=@List.filterMap_cons_none
abbrev Ci:=@List.map_map
abbrev Cj:=@List.length_range
abbrev Ck:=@PySem.wpAny_mono
abbrev Cm:=@List.take_length
abbrev Co:=@List.getElem_mem
abbrev Cp:=@List.range_succ
abbrev Cq:=@List.filterMap_nil
abbrev Cr:=@beq_eq_false_iff_ne
abbrev Cs:=@List.lookup_cons
abbrev Cu:=@List.mem_range
abbrev Cv:=@Nat.add_sub_cancel_left
abbrev Cw:=@List.append_assoc
abbrev Cy:=@PySem.Around.under_plainId
abbrev Cz:=@List.length_filterMap_le
abbrev Da:=@PySem.F.slot_list_append
abbrev Dc:=@PySem.F.type_list_append
abbrev De:=@PySem.mem_of_lookup
abbrev Df:=@List.replicate_succ
abbrev Dg:=@PyProof.Rows.callWith_type1
abbrev Dh:=@List.flatten_cons
abbrev Di:=@Array.getElem?_eq_some_iff
abbrev Dj:=@List.mem_iff_getElem
abbrev Dk:=@Nat.lt_irrefl
abbrev Dm:=@List.length_set
abbrev Dn:=@PySem.F.plain_max_loop
abbrev Do:=@Nat.zero_le
abbrev Dp:=@PySem.wpAny_pyIter_list
abbrev Dq:=@Array.getElem?_toList
abbrev Dr:=@PySem.F.type_dict_get
abbrev Ds:=@congrArg
abbrev Dt:=@Option.isSome_iff_exists
abbrev Du:=@PySem.codeAny_builtin
abbrev Dv:=@PySem.wpAny_Call_Name_kw
abbrev Dw:=@List.mem_append_left
abbrev Dx:=@List.length_drop
abbrev Dy:=@decide_eq_decide
abbrev Dz:=@PySem.wpAny_truthy_bool
abbrev Ea:=@PySem.F.slot_str_split
abbrev Eb:=@PySem.F.type_str_split
abbrev Ec:=@Int.toNat_natCast
abbrev Ed:=@List.filterMap_cons
abbrev Ee:=@PySem.F.slot_str_join
abbrev Ef:=@PySem.F.type_str_join
abbrev Eg:=@List.mem_filterMap
abbrev Eh:=@Nat.min_eq_right
abbrev Ei:=@Bool.true_and
abbrev Ej:=@PySem.plainId_quiet
abbrev Ek:=@List.getElem?_set_ne
abbrev El:=@PySem.codeAny_call_builtin
abbrev Em:=@PySem.wpAny_typeNameOfWhole_keyiter
abbrev En:=@List.take_zero
abbrev Eo:=@PySem.F.slot_dict_keyiterator_next
abbrev Ep:=@Nat.min_eq_left
abbrev Er:=@Array.length_toList
abbrev Et:=@List.map_eq_nil_iff
abbrev Eu:=@PySem.F.entry_dict_get
abbrev Ew:=@PySem.wpAny_standAt
abbrev Ey:=@beq_self_eq_true
abbrev Ez:=@Bool.false_and
abbrev Fa:=@PySem.tupleKind_room_in1
abbrev Fb:=@PySem.W.methodCall_KW
abbrev Fc:=@List.length_filter_le
abbrev Fd:=@PySem.wpAny_passesOwn
abbrev Fe:=@Nat.ne_of_gt
abbrev Ff:=@PySem.codeAny_mono
abbrev Fg:=@List.map_nil
abbrev Fh:=@List.mem_of_mem_take
abbrev Fi:=@Bool.not_eq_true'
abbrev Fj:=@beq_iff_eq
abbrev Fk:=@PySem.wpAny_call
abbrev Fl:=@PySem.call_meets
abbrev Fm:=@PySem.F.slot_list_extend
abbrev Fn:=@PySem.F.type_list_extend
abbrev Fo:=@List.map_take
abbrev Fp:=@List.eq_of_mem_replicate
abbrev Fq:=@PySem.Heap.size_push
abbrev Fs:=@PySem.wpAny_getItem_str_slice
abbrev Ft:=@PySem.wpAny_tryCatch
abbrev Fu:=@PySem.F.slot_list_index
abbrev Fv:=@List.filter_cons
abbrev Fw:=@PySem.wpAny_field
abbrev Fx:=@List.getElem?_set_self
abbrev Fy:=@PySem.W.callWith_K
abbrev Fz:=@List.filterMap_map
abbrev Ga:=@List.all_map
abbrev Gb:=@List.drop_eq_nil_of_le
abbrev Gc:=@List.nodup_cons
abbrev Gd:=@List.map_drop
abbrev Ge:=@PySem.Heap.get?_update_self
abbrev Gf:=@PySem.wpAny_newObj_type
abbrev Gg:=@PySem.wpAny_loadPart_at
abbrev Gh:=@PySem.Heap.get?_none_of_le
abbrev Gi:=@PySem.Calls.evalArgs_plain
abbrev Gj:=@List.getElem_toArray
abbrev Gk:=@Nat.le_add_right
abbrev Gm:=@PySem.call_meetsIn
abbrev Gp:=@PySem.wpAny_call_entry
abbrev Gq:=@Nat.sub_self
abbrev Gr:=@List.mem_or_eq_of_mem_set
abbrev Gu:=@PySem.wpAny_comprehension_free
abbrev Gv:=@PySem.wpAny_attempt
abbrev Gw:=@List.sum_cons
abbrev Gx:=@Bool.false_or
abbrev Gy:=@List.mem_filter
abbrev Gz:=@Bool.eq_iff_iff
abbrev Hg:=@PySem.Obj.data_mapFields
abbrev Hh:=@PySem.sizeLine_eq
abbrev Hi:=@PySem.F.args_dict_get_2
abbrev Hj:=@PySem.wpAny_pyIter_rangeiter
abbrev Hk:=@PySem.wpAny_Call_method_late
abbrev Hl:=@PySem.Calls.callWith_builtin
abbrev Hm:=@PySem.wpAny_pyIter_enum
abbrev Hn:=@List.drop_of_length_le
abbrev Ho:=@PySem.F.entry_max_loop
abbrev Hq:=@PySem.Str.length_append
abbrev Hr:=@PySem.typeIs_str
abbrev Ht:=@List.any_cons
abbrev Hv:=@Nat.le_succ
namespace L2
open PySem PySem.Spec PyProof.Rows
variable {A:Around}{C a b dx:Addr}{E Q:Q2}{K:W.Frag}{M:Model}{N ps:List Str}{P:Program}{body:List Stmt}{ch fp:List Addr}{e tg:Expr}{es:List Expr}{f:Value->Value->Sem Value}{h h':Heap}{i k t':Nat}{kindOf:Str->Option NameKind}{kw:List (Str×Value)}{y0:Q4}{pl:Sem Bool}{pos:Pos}{s:Shared}{u:Value}{us:List Value}{w:World}{x:Str}
abbrev Key:=Sum Int Str
noncomputable def oO:Key->Value->Bool
 |.inl k,v=>Value.isInt k v
 |.inr x,v=>Value.isStrOf x v
noncomputable def RW(w:World):Key->Int
 |.inl k=>hashInt k
 |.inr x=>hashStr w x
def cM:∀ {k:Key} {v:Value},oO k v=true->(∃i t,k=Sum.inl i/\v=Value.int i t)\/(∃x t,k=Sum.inr x/\v=Value.str x t)
 |.inl i,v,h=>by
  obtain⟨t,e⟩:=Value.isInt_shape   h;exact .inl ⟨i,t,rfl,e⟩
 |.inr x,v,h=>by
  obtain⟨t,e⟩:=Value.isStrOf_shape   h;exact .inr ⟨x,t,rfl,e⟩
def Mf(i:Int)(t:Tok):oO (.inl i) (.int i t)=true:=by simp[oO,Value.isInt]
def nQ(x:Str)(t:Tok):oO (.inr x) (.str x t)=true:=by simp[oO,Value.isStrOf]
def Ms(a b:Int):decide ((Sum.inl a:Key)=Sum.inl b)=(a==b):=by grind
def LJ(a b:Str):decide ((Sum.inr a:Key)=Sum.inr b)=decide (a=b):=by grind
def Lf(a:Int)(b:Str):decide ((Sum.inl a:Key)=Sum.inr b)=false:=An (λq=>nomatch q)
def BD(a:Str)(b:Int):decide ((Sum.inr a:Key)=Sum.inl b)=false:=An (λq=>nomatch q)
noncomputable def bL(prog:Program)(w:World):PySem.KeyKind prog w Key where
 is:=oO
 hash:=RW w
 inj:=λv a b l f=>by
  rcases cM l with⟨i,t,rfl,rfl⟩|⟨x,t,rfl,rfl⟩
  .rcases cM f with⟨j,u,rfl,e⟩|⟨y,u,rfl,e⟩
   .injection e with c _;rw[c]
   .exact nomatch e
  .rcases cM f with⟨j,u,rfl,e⟩|⟨y,u,rfl,e⟩
   .exact nomatch e
   .injection e with c _;rw[c]
 byValue:=λk v h=>by
  rcases cM h with⟨i,t,rfl,rfl⟩|⟨x,t,rfl,rfl⟩ <;> rfl
 pyHash:=λd h=>by
  rcases cM d with⟨i,t,rfl,rfl⟩|⟨x,t,rfl,rfl⟩
  .exact wpAny_pyHash_int h
  .exact wpAny_pyHash_str h
 eqBool:=λg d h=>by
  rcases cM g with⟨i,t,rfl,rfl⟩|⟨x,t,rfl,rfl⟩
  .rcases cM d with⟨j,u,rfl,rfl⟩|⟨y,u,rfl,rfl⟩
   .rw[Ms]at h;exact wpAny_eqBool_int h
   .rw[Lf]at h;exact SeqAt.EqAt.int_str i t y u _ _ _ _ h
  .rcases cM d with⟨j,u,rfl,rfl⟩|⟨y,u,rfl,rfl⟩
   .rw[BD]at h;exact SeqAt.EqAt.str_int x t j u _ _ _ _ h
   .rw[LJ]at h;exact wpAny_eqBool_str h
 «strs» := λk x t v h=>by
  rcases cM h with⟨i,u,rfl,e⟩|⟨y,u,rfl,e⟩
  .exact nomatch e
  .injection e with c _
   subst c;cases v<;>rfl
def Nl(prog:Program)(w:World)(i:Int)(t:Tok):(bL prog w).is (.inl i) (.int i t)=true:=Mf i t
def G7(prog:Program)(w:World)(x:Str)(t:Tok):(bL prog w).is (.inr x) (.str x t)=true:=nQ x t
inductive V where
 |non|bl (b:Bool)|int (i:Int)|str (x:Str)|byt (b:Array UInt8)|flt (b:UInt64)|ref (a:Addr)|ty (n:String)
 deriving DecidableEq
variable {v:V}{xs:List V}
def RelV:V->Value->Prop
 |.non,u=>u=Value.none
 |.bl b,u=>u=Value.bool b
 |.int i,u=>∃t,u=Value.int i t
 |.str x,u=>∃t,u=Value.str x t
 |.byt b,u=>∃t,u=Value.bytes b t
 |.flt b,u=>∃t,u=Value.float b t
 |.ref a,u=>u=Value.ref a
 |.ty n,u=>u=Value.type n
abbrev Vals:List V->List Value->Prop:=Paired RelV
def Vals.length(r:Vals xs us):xs.length=us.length:=Paired.length r
def Vals.get:∀ {a:List V} {b:List Value} {i:Nat} {x:V},Vals a b->a[i]?=some x->∃u,b[i]?=some u/\RelV x u
 |_,_,_,_,.nil,e=>by simp at e
 |_,_,0,_,.cons r _,e=>by simp at e;subst e;exact⟨_,rfl,r⟩
 |_,_,i+1,x,.cons _ t,e=>by
  obtain⟨u,d,c⟩:=Vals.get   t (by simpa using e)
  simp_all
def Vals.set{x:V}(r:RelV x u):∀ {a:List V} {b:List Value} (i:Nat),Vals a b->Vals (a.set i x) (b.set i u)
 |_,_,_,.nil=>.nil
 |_,_,0,.cons _ t=>.cons r t
 |_,_,i+1,.cons q t=>.cons q (Vals.set r i t)
def Vals.append:∀ {b a:List V} {d c:List Value},Vals b d->Vals a c->Vals (b++a) (d++c)
 |_,_,_,_,.nil,s=>s
 |_,_,_,_,.cons r t,s=>.cons r (Vals.append t s)
def Vals.take:∀ {a:List V} {b:List Value} (n:Nat),Vals a b->Vals (a.take n) (b.take n)
 |_,_,0,_=>.nil
 |_,_,_+1,.nil=>.nil
 |_,_,n+1,.cons r t=>.cons r (Vals.take n t)
def Vals.drop:∀ {a:List V} {b:List Value} (n:Nat),Vals a b->Vals (a.drop n) (b.drop n)
 |_,_,0,r=>r
 |_,_,_+1,.nil=>.nil
 |_,_,n+1,.cons _ t=>Vals.drop n t
def Zj:Option V->Option Value->Prop
 |some v,some u=>RelV v u
 |none,none=>True
 |_,_=>False
def KV{a:Type}:List (a×V)->List (a×Value)->Prop:=Paired λp q=>p.1=q.1/\RelV p.2 q.2
noncomputable def kV:Key->V
 |.inl i=>.int i
 |.inr x=>.str x
inductive HO where
 |lst (xs:List V)
 |tup (xs:List V)
 |dK (kvs:List (Key×V))|dT (kvs:List (List Key×V))
 |set (S:Int->Bool) (n:Nat)
 |ins (C dx:Addr) (fs:List (Str×V))
 |own (x:Addr)
 |xd (fs:List (Str×V))
 |met (f x:Addr)
 |rng (lo hi:Int)
 |frz (o:Obj) (u:HO)
 |tbl (ps:Array Value)
 |ext (φ:Heap->Prop)
variable {o:HO}
abbrev Hp:=Addr->Option HO
variable {H:Hp}
noncomputable def upd(H:Hp)(a:Addr)(o:HO):Hp:=λb=>if b=a then some o else H b
def aG:upd H a o a=some o:=by unfold upd;rw[if_pos rfl]
def aK(h:b≠a):upd H a o b=H b:=by unfold upd;rw[if_neg h]
def OH{u:HO}:upd (upd H a o) a u=upd H a u:=by
 funext b;unfold upd;split<;>rfl
def CJ{u:HO}(h:H a=some o)(h':H b=some u)(d:o≠u):a≠b:=by grind
def bN(h:H a=some o)(h':H b=none):a≠b:=by grind
section
variable (P:Program) (w:World)
def ZW(H:Hp)(h:Heap)(a:Addr):HO->Prop
 |.lst d=>d.length<=sizeLine/\∃c n,Vals d c/\h.get? a=some {cls:=.type "list",data:=.seq c.toArray n}
 |.tup d=>d.length<=sizeLine/\∃c,Vals d c/\IsTup h a c.toArray
 |.dK b=>b.length<=sizeLine/\(a==sysModules)=false/\∃k,KV b k/\h.DictOf (bL P w) a k
 | .dT b=>b.length<=sizeLine/\(a == sysModules)=false/\∃ d,
     Paired (λp q=>p.1=q.1/\H q.2.1=some (.tup (p.1.map kV))/\RelV p.2 q.2.2) b d/\
     ∃o r A,h.get? a=some o/\o.ExactDict/\o.data=.dict r A/\r.toList=d.map (entryOfKey (tupleKind (bL P w)))/\(d.map (·.1)).Nodup
 |.set S n=>h.SetOf (intKind P w) a S n
 | .ins C i g=>H i=some (.own a)/\g.length<=1000/\i≠a/\h.get? a=some (W.instObj C i)/\
     ∃e,h.Ns1 i e/\(∀f,Zj (g.lookup f) (e f))/\PySem.Within e (g.map (·.1))
 |.own _=>∃o,h.get? a=some o
 |.xd g=>∃e,h.Ns1 a e/\∀f,Zj (g.lookup f) (e f)
 |.rng y z=>∃t u v,h.get? a=some {cls:=.type "range",data:=.fields #[.int y t,.int z u,.int 1 v]}
 |.frz o u=>h.get? a=some o/\ZW H h a u
 |.tbl s=>h.get? a=some {cls:=.none,data:=.fields s}
 |.met f x=>h.get? a=some (W.methodObj (.ref f) (.ref x))
 |.ext j=>j h/\(∃o,h.get? a=some o)/\∀m l,j m->(∀o,m.get? a=some o->l.get? a=some o)->j l
def Y_(H:Hp)(h:Heap):Prop:=∀a o,H a=some o->ZW P w H h a o
end
section
variable {H':Hp}
def ZW.lt(x:ZW P w H h a o):a<h.objs.size:=by
 cases o with
 |lst c=>obtain⟨_,_,_,_,e⟩:=x;exact Av e
 |tup c=>obtain⟨_,_,_,p⟩:=x;exact p.lt
 |dK b=>obtain⟨_,_,_,_,o,_,_,e,_⟩:=x;exact Av e
 |dT b=>obtain⟨_,_,_,_,o,_,_,e,_⟩:=x;exact Av e
 |set S n=>obtain⟨o,_,_,_,e,_⟩:=x;exact Av e
 |ins C m d=>obtain⟨_,_,_,e,_⟩:=x;exact Av e
 |own y=>obtain⟨_,e⟩:=x;exact Av e
 |xd d=>obtain⟨_,⟨_,_,_,e,_⟩,_⟩:=x;exact Av e
 |rng k l=>obtain⟨_,_,_,e⟩:=x;exact Av e
 |frz j u=>obtain⟨e,_⟩:=x;exact Av e
 |tbl i=>exact Av (show h.get? a=some _ from x)
 |met f y=>exact Av (show h.get? a=some _ from x)
 |ext g=>obtain⟨_,⟨_,e⟩,_⟩:=x;exact Av e
def Paired.Wl{g e:Type}{F G:g->e->Prop}:∀ {d:List g} {c:List e},Paired F d c->(∀a b,F a b->G a b)->Paired G d c
 |_,_,.nil,_=>.nil
 |_,_,.cons r t,f=>.cons (f _ _ r) (Paired.Wl t f)
def ZW.Zl(x:ZW P w H h a o)(k:∀b u,(b=a\/H b=some (.own a))->h.get? b=some u->h'.get? b=some u)(K:∀b,H b=some (.own a)->H' b=some (.own a))(J:∀b m,H b=some (.tup m)->H' b=some (.tup m)):ZW P w H' h' a o:=by
 induction o with
 |lst m=>obtain⟨z,l,n,r,e⟩:=x;exact⟨z,l,n,r,k _ _ (.inl rfl) e⟩
 |tup m=>obtain⟨z,l,r,g,e,c⟩:=x;exact⟨z,l,r,g,k _ _ (.inl rfl) e,c⟩
 |dK B=>obtain⟨z,y,F,r,g,i,j,e,c⟩:=x;exact⟨z,y,F,r,g,i,j,k _ _ (.inl rfl) e,c⟩
 |dT B=>
  obtain⟨z,y,m,r,g,i,j,e,c⟩:=x;exact⟨z,y,m,Paired.Wl r λp q z=>⟨z.1,J _ _ z.2.1,z.2.2⟩,g,i,j,k _ _ (.inl rfl) e,c⟩
 |set S n=>obtain⟨g,i,j,t,e,c⟩:=x;exact⟨g,i,j,t,k _ _ (.inl rfl) e,c⟩
 |ins C R L=>
  obtain⟨d,z,G,e,A,⟨s,i,j,M,c⟩,r⟩:=x;exact⟨K _ d,z,G,k _ _ (.inl rfl) e,A,⟨s,i,j,k _ _ (.inr d) M,c⟩,r⟩
 |own y=>obtain⟨g,e⟩:=x;exact⟨g,k _ _ (.inl rfl) e⟩
 |xd L=>obtain⟨A,⟨s,i,j,e,c⟩,r⟩:=x;exact⟨A,⟨s,i,j,k _ _ (.inl rfl) e,c⟩,r⟩
 |rng O Q=>obtain⟨t,u,v,e⟩:=x;exact⟨t,u,v,k _ _ (.inl rfl) e⟩
 |frz g u I=>obtain⟨e,q⟩:=x;exact⟨k _ _ (.inl rfl) e,I q⟩
 |tbl E=>
  have e:=x
  show h'.get? a=some {cls:=.none,data:=.fields E}
  exact k a _ (.inl rfl) e
 |met f y=>
  have e:=x
  exact k a _ (.inl rfl) e
 |ext N=>obtain⟨p,⟨o,e⟩,D⟩:=x;exact⟨D _ _ p λo q=>k _ _ (.inl rfl) q,⟨o,k _ _ (.inl rfl) e⟩,D⟩
def Y_.lt(x:Y_ P w H h)(e:H a=some o):a<h.objs.size:=(x a o e).lt
def Y_.fresh(x:Y_ P w H h)(e:h.objs.size<=a):H a=none:=by
 cases q:H a with
 |none=>rfl
 |some u=>exact absurd (Bc (x.lt q) e) (Dk _)
def Y_.kept(x:Y_ P w H h)(k:∀b u,h.get? b=some u->h'.get? b=some u):Y_ P w H h':=λa o e=>
 (x a o e).Zl (λb u _ q=>k b u q) (λ_ q=>q) λ_ _ q=>q
def Y_.laid(x:Y_ P w H h)(k:∀b u,h.get? b=some u->h'.get? b=some u)(i:h.objs.size<=a)(d:ZW P w (upd H a o) h' a o):Y_ P w (upd H a o) h':=λb u e=>by
 have f:=x.fresh i
 by_cases g:b=a
 .subst g;rw[aG]at e;cases e;exact d
 .rw[aK g]at e;exact(x b u e).Zl (λc v _ q=>k c v q) (λc q=>by rwa[aK (bN q f)]) λc j q=>by rwa[aK (bN q f)]
end
def Rd(H:Hp)(a:Addr)(u:HO):Prop:=H a=some u\/∃o,H a=some (.frz o u)
def Rd.ok{u:HO}(r:Rd H a u)(x:Y_ P w H h):ZW P w H h a u:=by
 rcases r with r|⟨o,r⟩
 .exact x a u r
 .obtain⟨_,q⟩:=x a _ r;exact q
def Vc:Option HO->Prop
 |some (.lst _)=>True
 |some (.dK _)=>True
 |some (.dT _)=>True
 |some (.set _ _)=>True
 |some (.ins _ _ _)=>True
 |some (.ext _)=>True
 |_=>False
section
variable {x e:Addr} {o':HO}
def Y_.write(ok:Y_ P w H h)(i:Vc (H x))(s:e=x\/H e=some (.own x))(k:∀b u,b≠e->h.get? b=some u->h'.get? b=some u)(n:∃u,h'.get? e=some u)(m:ZW P w (upd H x o') h' x o'):Y_ P w (upd H x o') h':=λb u q=>by
 have d:∀c y,H c=some (.own y)->c≠x:=λc y r z=>by subst z;rw[r]at i;exact i
 have f:∀c g,H c=some (.tup g)->c≠x:=λc g r z=>by subst z;rw[r]at i;exact i
 by_cases l:b=x
 .subst l;rw[aG]at q;cases q;exact m
 .rw[aK l]at q;by_cases a:b=e
  .have p:H b=some (.own x):=by
    rcases s with z|z
    .exact absurd (a.trans z) l
    .rw[a];exact z
   rw[q]at p;cases p;obtain⟨v,t⟩:=n;exact⟨v,by rw[a];exact t⟩
  .refine(ok b u q).Zl (λc v j r=>k c v ?_ r) (λc r=>by rw[aK (d c b r)];exact r) λc g r=>by rw[aK (f c g r)];exact r
   grind
end
structure Un (fs ex:List Addr) (H H':Hp) (h h':Heap):Prop where
 keep:∀b o,h.get? b=some o->H b=none->b∉fs->b∉ex->h'.get? b=some o
 slot:∀b o,h.get? b=some o->H b=none->b∈fs->b∉ex->∃sl,h'.get? b=some {o with slots:=sl}
 free:∀b o,h.get? b=some o->H b=none->b∉ex->H' b=none
 there:∀b o,h.get? b=some o->b∉ex->∃o',h'.get? b=some o'
 tups:∀b xs,H b=some (.tup xs)->H' b=some (.tup xs)
 frzs:∀b o u,H b=some (.frz o u)->H' b=some (.frz o u)
 tbls:∀b ps,H b=some (.tbl ps)->∃more,H' b=some (.tbl (ps++more))
section
variable {fs fs' ex ex':List Addr} {H1 H2:Hp} {h1 h2:Heap} {x e:Addr}
def Un.any(u:Un fs ex H H1 h h1){a:Obj}(q:h.get? b=some a)(n:H b=none)(c:b∉ex):∃e,h1.get? b=some {a with slots:=e}:=by
 by_cases d:b∈fs
 .exact u.slot b a q n d c
 .exact⟨a.slots,u.keep b a q n d c⟩
def Un.trans(a:Un fs ex H H1 h h1)(b:Un fs ex H1 H2 h1 h2):Un fs ex H H2 h h2 where
 keep:=λc d q n i e=>b.keep c d (a.keep c d q n i e) (a.free c d q n e) i e
 slot:=λc d q n i e=>by
  obtain⟨s,f⟩:=a.slot c d q n i e;obtain⟨j,l⟩:=b.slot c _ f (a.free c d q n e) i e;exact⟨j,l⟩
 free:=λc d q n e=>by
  obtain⟨k,f⟩:=a.there c d q e;exact b.free c k f (a.free c d q n e) e
 there:=λc d q e=>by
  obtain⟨k,f⟩:=a.there c d q e;exact b.there c k f e
 tups:=λc g q=>b.tups c g (a.tups c g q)
 frzs:=λc d g q=>b.frzs c d g (a.frzs c d g q)
 tbls:=λc m q=>by
  obtain⟨r,f⟩:=a.tbls c m q;obtain⟨p,l⟩:=b.tbls c _ f;grind
def Un.kept(k:∀b u,h.get? b=some u->h'.get? b=some u):Un fs ex H H h h':=
 ⟨λb a q _ _ _=>k b a q,λb a q _ _ _=>⟨a.slots,k b a q⟩,λ_ _ _ n _=>n,λb a q _=>⟨a,k b a q⟩,λ_ _ q=>q,λ_ _ _ q=>q,λ_ c q=>⟨#[],by rw[q];simp⟩⟩
def Un.refl:Un fs ex H H h h:=Un.kept λ_ _ q=>q
def Un.laid(k:∀b u,h.get? b=some u->h'.get? b=some u)(e:h.objs.size<=a)(c:H a=none):Un fs ex H (upd H a o) h h' where
 keep:=λb u q _ _ _=>k b u q
 slot:=λb u q _ _ _=>⟨u.slots,k b u q⟩
 free:=λb u q n _=>by rwa[aK (Bb (Bc (Av q) e))]
 there:=λb u q _=>⟨u,k b u q⟩
 tups:=λb d q=>by rwa[aK (bN q c)]
 frzs:=λb u d q=>by rwa[aK (bN q c)]
 tbls:=λb f q=>⟨#[],by rw[aK (bN q c),q];simp⟩
def Un.write(c:Vc (H x))(m:e=x\/H e=some (.own x))(k:∀b u,b≠e->h.get? b=some u->h'.get? b=some u)(f:∃u,h'.get? e=some u):Un fs ex H (upd H x o) h h':=by
 have g:∀b,H b=none->b≠x:=λb n z=>by subst z;rw[n]at c;exact c
 have i:∀b,H b=none->b≠e:=λb n z=>by grind
 have d:∀b u,H b=some u->¬Vc (some u)->b≠x:=λb u q l z=>by grind
 refine⟨λb u q n _ _=>k b u (i b n) q,λb u q n _ _=>⟨u.slots,k b u (i b n) q⟩,λb u q n _=>by rw[aK (g b n)];exact n,λb u q _=>?_,
  λb j q=>by rw[aK (d b _ q λz=>z)];exact q,λb u j q=>by rw[aK (d b _ q λz=>z)];exact q,λb p q=>⟨#[],by rw[aK (d b _ q λz=>z),q];simp⟩⟩
 grind
def Un.mono(u:Un fs ex H H1 h h1)(hs:∀b∈fs,b∈fs')(d:∀b∈ex,b∈ex'):Un fs' ex' H H1 h h1:=
 ⟨λb c q n e a=>u.keep b c q n (λz=>e (hs b z)) λz=>a (d b z),λ_ _ q n _ a=>u.any q n λz=>a (d _ z),λb c q n a=>u.free b c q n λz=>a (d b z),λb c q a=>u.there b c q λz=>a (d b z),u.tups,u.frzs,u.tbls⟩
end
noncomputable def OS(h:Heap)(H:Hp):List Addr:=(List.range h.objs.size).filter λa=>(H a).isSome
noncomputable def yZ(h:Heap)(H:Hp):Heap:=W.hideAll h (OS h H)
def HK(h:Heap)(H:Hp):(yZ h H).objs.size=h.objs.size:=W.hideAll_size _ _
def DK{o:Obj}(e:h.get? b=some o)(n:H b=none):(yZ h H).get? b=some o:=
 W.hideAll_get _ e λa=>by
  have q:=(Gy.mp a).2
  grind
def FH{o:Obj}(e:(yZ h H).get? b=some o):h.get? b=some o/\H b=none:=by
 have a:=W.of_hideAll _ e
 refine⟨a,?_⟩;cases q:H b with
 |none=>rfl
 |some x=>
  have c:b∈OS h H:=List.mem_filter.mpr ⟨List.mem_range.mpr (Heap.lt_size a),by simp[q]⟩
  have z:(yZ h H).get? b=none:=W.hideAll_none _ c
  grind
noncomputable def Nu(g h:Heap)(L:Addr):List (Addr×Obj):=(List.range h.objs.size).filterMap λa=>if a=L\/(g.get? a).isSome=true then none else (h.get? a).map λo=>(a,o)
noncomputable def rest(g h:Heap)(L d:Addr):List (Addr×Obj):=(Nu g h L).filter λp=>decide (p.1≠d)
structure Mod (K:W.Frag) (mg:Str->Option Value) (base:Heap):Prop where
 WE:K.In base
 glob:base.Ns mainGlobals mg
 blt:∃mb,base.Ns builtinsNs mb/\∀x:Str,x≠"__name__"->mb x=bootBuiltins x
 nolimit:base.NoLimit
structure Cx where
 prog:Program
 w:World
 K:W.Frag
 mg:Str->Option Value
 base:Heap
 A:Around
 N:List Str
 s₀:Shared
 H₀:Hp
 env:Env
 outer:List Env
 stack:List Env
 ex:List Addr
 fn:Str->Bool
 calm:Bool
 pn:List (Addr×Obj)
 xe:Value->Shared->Prop
variable {X:Cx}
noncomputable def YV(l:List Env):List Addr:=l.filterMap (·.frame)
noncomputable abbrev Cx.fs(X:Cx):List Addr:=YV X.outer
def T9(a:Scope)(x:Str):Prop:=a.names.lookup x=some .local\/a.names.lookup x=some .cell\/a.names.lookup x=some .free
def Loc(a:Scope)(x:Str):Prop:=a.names.lookup x=some .local\/a.names.lookup x=some .cell
def Jo(a:Env)(h:Heap)(m:Str->Option Value)(x:Str)(u:Value):Prop:=
 (a.kindOf x=some .local/\m x=some u)\/((a.kindOf x=some .cell\/a.kindOf x=some .free)/\∃c,a.cells.lookup x=some c/\h.IsCell c (some u))
structure Cx.Ok (X:Cx):Prop where
 mod:Mod X.K X.mg X.base
 kind:X.env.scope.kind=.function
 glob:X.env.globals=mainGlobals
 blt:X.env.builtins=builtinsNs
 above:X.s₀.heap.objs.size<=X.env.locals
 inj:∀x y c,X.env.cells.lookup x=some c->X.env.cells.lookup y=some c->x=y
 has:∀x,(X.env.kindOf x=some .cell\/X.env.kindOf x=some .free)->∃c,X.env.cells.lookup x=some c
 WK:∀x c,X.fn x=true->X.env.cells.lookup x=some c->X.s₀.heap.objs.size<=c
 hd:X.calm=true->X.A.handled=none
 frames:X.A.frames=some X.stack
 Ws:X.stack=X.outer\/(X.stack=X.env::X.outer/\X.env.frame=some X.env.locals)
 Wq:∀b∈X.ex,b≠X.env.locals/\∀x c,X.env.cells.lookup x=some c->c≠b
 bs:∀b o,X.base.get? b=some o->X.s₀.heap.get? b=some o/\X.H₀ b=none
 XF:X.base.objs.size<=X.s₀.heap.objs.size
 X2:∀b o,X.base.get? b=some o->b∉X.ex
 Yk:∀b∈X.ex,b∉X.fs
 Zf:X.s₀.heap.FunFrames X.base X.outer
 Xc:∀b∈X.fs,X.H₀ b=none
structure Inv (X:Cx) (y0:List (Addr×Obj)) (U:List (Option V)) (H:Hp) (s:Shared):Prop where
 ok:X.Ok
 os:s.os=X.s₀.os
 bare:AllBare s.gens
 base:Un X.fs X.ex X.H₀ H X.s₀.heap s.heap
 loc:∃m,s.heap.Ns X.env.locals m/\∀(i:Nat) (x:Str) (v:V),X.N[i]?=some x->U[i]?=some (some v)->T9 X.env.scope x->∃u,RelV v u/\Jo X.env s.heap m x u
 cell:∀x c,X.env.cells.lookup x=some c->∃v,s.heap.IsCell c v
 free:H X.env.locals=none
 ZI:∀x c,X.env.cells.lookup x=some c->H c=none
 pin:∀p∈X.pn++y0,s.heap.get? p.1=some p.2/\H p.1=none/\p.1≠X.env.locals/\p.1∉X.fs/\∀v,p.2.data≠.cell v
 Z8:Y_ X.prog X.w H s.heap
 len:U.length=X.N.length
section
variable {U:List (Option V)} {H':Hp}
def Cx.Ok.TJ(ok:X.Ok){o:Obj}(e:X.base.get? b=some o):b∉X.fs:=λa=>by
 have:=(ok.Zf.mem a).1
 grind
def Inv.bs(I:Inv X y0 U H s):∀b o,X.base.get? b=some o->s.heap.get? b=some o/\H b=none:=λb o e=>
 ⟨I.base.keep b o (I.ok.bs b o e).1 (I.ok.bs b o e).2 (I.ok.TJ e) (I.ok.X2 b o e),I.base.free b o (I.ok.bs b o e).1 (I.ok.bs b o e).2 (I.ok.X2 b o e)⟩
def Inv.bk(I:Inv X y0 U H s):∀b o,X.base.get? b=some o->s.heap.get? b=some o:=λb o e=>(I.bs b o e).1
def Inv.mod(I:Inv X y0 U H s):Mod X.K X.mg X.base:=I.ok.mod
def Inv.Y2(I:Inv X y0 U H s):X.K.In s.heap:=I.ok.mod.WE.keeps I.bk
def Inv.nolimit(I:Inv X y0 U H s):s.heap.NoLimit:=I.ok.mod.nolimit.keeps I.bk
def Inv.fr(I:Inv X y0 U H s):∃m,Fr X.base X.env.locals s.heap m:=
 let ⟨m,a,_⟩:=I.loc
 ⟨m,a,I.bk,Cd I.ok.XF I.ok.above⟩
def Inv.lt(I:Inv X y0 U H s):X.env.locals<s.heap.objs.size:=let ⟨_,a,_⟩:=I.loc;a.lt
def Inv.sz(I:Inv X y0 U H s):X.s₀.heap.objs.size<=s.heap.objs.size:=Cd I.ok.above (Nat.le_of_lt I.lt)
def Inv.Tj(I:Inv X y0 U H s)(h:s.heap.objs.size<=a):a∉X.fs:=λc=>by
 obtain⟨_,o,b,_⟩:=I.ok.Zf.mem c;exact absurd (Bc (Av b) (Cd I.sz h)) (Dk _)
def Inv.Va(I:Inv X y0 U H s):∀x c,X.env.cells.lookup x=some c->c≠X.env.locals:=λx c e z=>by
 obtain⟨v,o,d,f⟩:=I.cell x c e;obtain⟨m,⟨g,h,i,a,b,_⟩,_⟩:=I.loc;grind
def Inv.Zf(I:Inv X y0 U H s):s.heap.FunFrames X.base X.outer:=by
 have f:∀l,(∀b∈YV l,b∈X.fs)->X.s₀.heap.FunFrames X.base l->s.heap.FunFrames X.base l:=by
  intro l;induction l with
  |nil=>intro _ _;trivial
  |cons q r h=>
   intro g m;obtain⟨n,⟨L,o,a,k,j,p⟩,i⟩:=m;have d:=g L (by unfold YV;rw[Ed,a];exact Al)
   obtain⟨t,e⟩:=I.base.slot L o j (I.ok.Xc L d) d λz=>I.ok.Yk L z d;exact⟨n,⟨L,_,a,k,e,p⟩,h (λb c=>g b (by unfold YV;rw[Ed,a];exact Am _ c)) i⟩
 exact f X.outer (λ_ c=>c) I.ok.Zf
def Inv.stack(I:Inv X y0 U H s):s.heap.FunFrames X.base X.stack:=by
 rcases I.ok.Ws with e|⟨e,b⟩
 .rw[e];exact I.Zf
 .rw[e];obtain⟨m,a,_⟩:=I.loc;refine .cons (by rw[I.ok.kind];decide) b a ?_ I.Zf
  exact Gh (Cd I.ok.XF I.ok.above)
def Inv.Yh(I:Inv X y0 U H s):∀b∈YV X.stack,b∈X.env.locals::X.fs:=λb a=>by
 rcases I.ok.Ws with e|⟨e,c⟩
 .rw[e]at a;exact Am _ a
 .rw[e]at a;unfold YV at a;rwa[Ed,c]at a
def Inv.YY(I:Inv X y0 U H s):∀b∈YV X.stack,H b=none:=λb a=>by
 rcases Ba.mp (I.Yh b a) with e|a
 .rw[e];exact I.free
 .obtain⟨_,o,c,_⟩:=I.ok.Zf.mem a;exact I.base.free b o c (I.ok.Xc b a) λz=>I.ok.Yk b z a
def Inv.step{ch:List Addr}(I:Inv X y0 U H s)(A:∀b∈ch,(b∈X.ex\/X.s₀.heap.objs.size<=b)/\b≠X.env.locals/\(∀x c,X.env.cells.lookup x=some c->c≠b)/\∀p∈X.pn++y0,p.1≠b)(y:∀b o,b≠X.env.locals->b∉X.fs->b∉ch->s.heap.get? b=some o->H b=none->h'.get? b=some o)(F:∀b o,b≠X.env.locals->b∈X.fs->b∉ch->s.heap.get? b=some o->H b=none->∃V,h'.get? b=some {o with slots:=V})(f:∀b o,b∉ch->s.heap.get? b=some o->H b=none->H' b=none)(G:∀b o,b∉ch->s.heap.get? b=some o->∃N,h'.get? b=some N)(L:∀b E,H b=some (.tup E)->H' b=some (.tup E))(Q:∀b o u,H b=some (.frz o u)->H' b=some (.frz o u))(M:∀b S,H b=some (.tbl S)->∃P,H' b=some (.tbl (S++P)))(ns:∀m,s.heap.Ns X.env.locals m->h'.Ns X.env.locals m)(W:Y_ X.prog X.w H' h')(hg:AllBare g'):Inv X y0 U H' {s with heap:=h',gens:=g',drawn:=d',toks:=t'}:=by
 have O:∀b o,X.s₀.heap.get? b=some o->b≠X.env.locals:=λb o e=>Bb (Bc (Av e) I.ok.above)
 have C:∀b o,X.s₀.heap.get? b=some o->b∉X.ex->b∉ch:=λb o e a J=>by
  rcases (A b J).1 with z|z
  .exact a z
  .exact absurd (Bc (Av e) z) (Dk _)
 have B:∀x c,X.env.cells.lookup x=some c->∀v,s.heap.IsCell c v->h'.IsCell c v:=λx c e v ⟨o,K,Y⟩=>by
  have j:=λz=>(A c z).2.2.1 x c e rfl
  by_cases hc:c∈X.fs
  .obtain⟨V,q⟩:=F c o (I.Va x c e) hc j K (I.ZI x c e);exact⟨_,q,Y⟩
  .exact⟨o,y c o (I.Va x c e) hc j K (I.ZI x c e),Y⟩
 refine⟨I.ok,I.os,hg,⟨λb o e n J a=>?_,λb o e n J a=>?_,λb o e n a=>?_,λb o e a=>?_,λb E e=>L b E (I.base.tups b E e),λb o E e=>Q b o E (I.base.frzs b o E e),λb S e=>?_⟩,?_,λx c e=>?_,?_,λx c e=>?_,λp hp=>?_,W,I.len⟩
 .exact y b o (O b o e) J (C b o e a) (I.base.keep b o e n J a) (I.base.free b o e n a)
 .obtain⟨V,D⟩:=I.base.slot b o e n J a;obtain⟨T,R⟩:=F b _ (O b o e) J (C b o e a) D (I.base.free b o e n a);exact⟨T,R⟩
 .obtain⟨N,D⟩:=I.base.there b o e a;exact f b N (C b o e a) D (I.base.free b o e n a)
 .obtain⟨N,D⟩:=I.base.there b o e a;exact G b N (C b o e a) D
 .obtain⟨m1,D⟩:=I.base.tbls b S e;obtain⟨m2,R⟩:=M b _ D;exact⟨m1++m2,by rw[R,Array.append_assoc]⟩
 .obtain⟨m,hn,hl⟩:=I.loc;refine⟨m,ns m hn,λi x v D R e3=>?_⟩;obtain⟨u,r,l⟩:=hl i x v D R e3;refine⟨u,r,?_⟩;rcases l with l|⟨k,c,e,z⟩
  .exact .inl l
  .exact .inr ⟨k,c,e,B x c e _ z⟩
 .obtain⟨v,z⟩:=I.cell x c e;exact⟨v,B x c e v z⟩
 .obtain⟨m,⟨o,_,_,K,_⟩,_⟩:=I.loc;exact f _ o (λz=>(A _ z).2.1 rfl) K I.free
 .obtain⟨v,o,K,Y⟩:=I.cell x c e;exact f c o (λz=>(A c z).2.2.1 x c e rfl) K (I.ZI x c e)
 .obtain⟨e,n,ne,Z,d⟩:=I.pin p hp;have j:=λz=>(A p.1 z).2.2.2 p hp rfl
  exact⟨y p.1 p.2 ne Z j e n,f p.1 p.2 j e n,ne,Z,d⟩
def Inv.un{t':Nat}(I:Inv X y0 U H s)(u:Un X.fs [] H H' s.heap h')(c:Y_ X.prog X.w H' h'):Inv X y0 U H' {s with heap:=h',toks:=t'}:=by
 obtain⟨m,⟨o,A,B,k,r⟩,_⟩:=id I.loc;obtain⟨v,q⟩:=u.any k I.free (by simp)
 exact I.step   (ch:=[]) (λ_ z=>nomatch z) (λb o _ f _ e n=>u.keep b o e n f (by simp)) (λb o _ f _ e n=>u.slot b o e n f (by simp)) (λb o _ e n=>u.free b o e n (by simp)) (λb o _ e=>u.there b o e (by simp)) u.tups u.frzs u.tbls (λy p=>by
  obtain⟨x,i,j,a,l⟩:=p;rw[k]at a;cases a;exact⟨_,i,j,q,l⟩) c I.bare
def Inv.call{t':Nat}{d':Drawn}{ch:List Addr}(I:Inv X y0 U H s)(u:Un (YV X.stack) ch H H' s.heap h')(j:Y_ X.prog X.w H' h')(B:AllBare g')(i:∀b∈ch,(b∈X.ex\/X.s₀.heap.objs.size<=b)/\b≠X.env.locals/\(∀x c,X.env.cells.lookup x=some c->c≠b)/\∀p∈X.pn++y0,p.1≠b):Inv X y0 U H' {s with heap:=h',gens:=g',drawn:=d',toks:=t'}:=by
 obtain⟨m,⟨o,G,J,v,r⟩,_⟩:=id I.loc;obtain⟨D,k⟩:=u.any v I.free λz=>(i _ z).2.1 rfl;exact I.step  i (λb o k C a e n=>u.keep b o e n (λz=>(Ba.mp (I.Yh b z)).elim k C) a) (λb o _ _ a e n=>u.any e n a) (λb o a e n=>u.free b o e n a) (λb o a e=>u.there b o e a) u.tups u.frzs u.tbls (λF A=>by
  obtain⟨E,l,q,f,y⟩:=A;rw[v]at f;cases f;exact⟨_,l,q,k,y⟩) j B
def Inv.turned{t':Nat}{a:Addr}(I:Inv X y0 U H s)(k:∀b o,b≠a->s.heap.get? b=some o->h'.get? b=some o)(w:H a=none)(j:a≠X.env.locals)(D:a∈X.ex\/X.s₀.heap.objs.size<=a)(C:∀x c,X.env.cells.lookup x=some c->c≠a)(B:∀p∈X.pn++y0,p.1≠a):Inv X y0 U H {s with heap:=h',toks:=t'}:=by
 have i:∀b u,H b=some u->b≠a:=λb u e z=>by rw[z,w]at e;cases e
 refine I.step (g':=s.gens) (d':=s.drawn) (ch:=[a]) (λb A=>?_) (λb o _ _ f e _=>k b o (λz=>f (by simp[z])) e) (λb o _ _ f e _=>⟨o.slots,k b o (λz=>f (by simp[z])) e⟩) (λ_ _ _ _ n=>n)
  (λb o f e=>⟨o,k b o (λz=>f (by simp[z])) e⟩) (λ_ _ e=>e) (λ_ _ _ e=>e) (λb G e=>⟨#[],by rw[e];simp⟩) (λm y=>?_) (λb u e=>?_) I.bare
 .have e:b=a:=by simpa using A
  subst e;exact⟨D,j,C,B⟩
 .obtain⟨o,E,F,l,r⟩:=y;exact⟨o,E,F,k _ o (Ne.symm j) l,r⟩
 .refine(I.Z8 b u e).Zl (λc v f q=>k c v ?_ q) (λ_ q=>q) λ_ _ q=>q;grind
def Inv.tok(I:Inv X y0 U H s)(t:Nat):Inv X y0 U H {s with toks:=t}:=I.un   Un.refl I.Z8
def Inv.kept{t':Nat}(I:Inv X y0 U H s)(k:∀b u,s.heap.get? b=some u->h'.get? b=some u):Inv X y0 U H {s with heap:=h',toks:=t'}:=I.un (Un.kept k) (I.Z8.kept k)
def Inv.laid{a:Addr}{o:HO}{t':Nat}(I:Inv X y0 U H s)(k:∀b u,s.heap.get? b=some u->h'.get? b=some u)(d:s.heap.objs.size<=a)(c:ZW X.prog X.w (upd H a o) h' a o):Inv X y0 U (upd H a o) {s with heap:=h',toks:=t'}:=I.un (Un.laid k d (I.Z8.fresh d)) (I.Z8.laid k d c)
def Inv.write{x e:Addr}{o:HO}{t':Nat}(I:Inv X y0 U H s)(d:Vc (H x))(f:e=x\/H e=some (.own x))(k:∀b u,b≠e->s.heap.get? b=some u->h'.get? b=some u)(a:∃u,h'.get? e=some u)(c:ZW X.prog X.w (upd H x o) h' x o):Inv X y0 U (upd H x o) {s with heap:=h',toks:=t'}:=I.un (Un.write d f k a) (I.Z8.write d f k a c)
def Inv.weak{b:List _}(I:Inv X y0 U H s)(d:b.length=U.length)(w:∀(i:Nat) v,b[i]?=some (some v)->U[i]?=some (some v)):Inv X y0 b H s:=
 ⟨I.ok,I.os,I.bare,I.base,let ⟨m,c,a⟩:=I.loc;⟨m,c,λi x v g f e=>a i x v g (w i v f) e⟩,I.cell,I.free,I.ZI,I.pin,I.Z8,d.trans I.len⟩
def Inv.XJ{a:Q4}(I:Inv X y0 U H s)(h:∀p∈a,s.heap.get? p.1=some p.2/\H p.1=none/\p.1≠X.env.locals/\p.1∉X.fs/\∀v,p.2.data≠.cell v):Inv X a U H s:=
 ⟨I.ok,I.os,I.bare,I.base,I.loc,I.cell,I.free,I.ZI,λp b=>(Ce.mp b).elim (λz=>I.pin p (Dw _ z)) (h p),I.Z8,I.len⟩
def xE(c:N.Nodup){j:Nat}(a:N[i]?=some x)(b:N[j]?=some x):i=j:=by
 obtain⟨g,e⟩:=Ag.mp a;obtain⟨f,d⟩:=Ag.mp b;exact(List.getElem_inj c).mp (e.trans d.symm)
def sM{Q:Unit->Shared->Prop}(I:Inv X y0 U H s)(hN:X.N.Nodup)(T:X.N[i]?=some x)(B:Loc X.env.scope x)(r:RelV v u)(h:∀s',Inv X y0 (U.set i (some v)) H s'->(∃a,Heap.SameBut a s.heap s'.heap/\(a=X.env.locals\/X.env.cells.lookup x=some a))->Q () s')(hf:X.fn x=true\/X.env.scope.names.lookup x=some .local:=by first|exact .inl rfl|exact .inr rfl|assumption):wpAny M A (storeName X.env x u) Q E s:=by
 obtain⟨m,hn,hl⟩:=id I.loc;have V:(X.env.scope.kind == .class || (X.env.scope.kind == .module&&X.env.locals != X.env.globals))=false:=by rw[I.ok.kind];rfl
 have S:i<U.length:=by rw[I.len];exact(Ag.mp T).1
 have L:=I.Va
 have g:∀ {a:Addr} {O:Heap},(∃o,s.heap.get? a=some o/\H a=none)->Heap.SameBut a s.heap O->Y_ X.prog X.w H O:=fun {a O} ha f b ob e=>by
  obtain⟨_,_,C⟩:=ha;refine(I.Z8 b ob e).Zl (λc Z t q=>(f.2 c ?_).trans q) (λ_ q=>q) λ_ _ q=>q;rintro rfl;rcases t with rfl|t
  .rw[C]at e;cases e
  .rw[C]at t;cases t
 rcases B with F|F
 .refine wpAny_storeName_local F hn (λO a2 f=>?_) V;obtain⟨oL,_,_,a1,_⟩:=id hn;refine h _ ⟨I.ok,I.os,I.bare,⟨λb o e n K B=>?_,λb o e n K B=>?_,I.base.free,λb o e B=>?_,I.base.tups,I.base.frzs,I.base.tbls⟩,⟨_,a2,λj y v' l D e3=>?_⟩,λy c e=>?_,I.free,I.ZI,λp hp=>?_,g ⟨oL,a1,I.free⟩ f,by simpa using I.len⟩ ⟨_,f,.inl rfl⟩
  .exact(f.2 b (Bb (Bc (Av e) I.ok.above))).trans (I.base.keep b o e n K B)
  .obtain⟨sl,l⟩:=I.base.slot b o e n K B;exact⟨sl,(f.2 b (Bb (Bc (Av e) I.ok.above))).trans l⟩
  .obtain⟨o',l⟩:=I.base.there b o e B;exact⟨o',(f.2 b (Bb (Bc (Av e) I.ok.above))).trans l⟩
  .by_cases G:j=i
   .subst G;rw[T]at l;cases l;rw[Fx S]at D;cases D;exact⟨u,r,.inl ⟨F,by simp⟩⟩
   .rw[Ek (Ne.symm G)]at D;obtain⟨u',r',q⟩:=hl j y v' l D e3;refine⟨u',r',?_⟩;rcases q with⟨k,e⟩|⟨k,c,e,z⟩
    .refine .inl ⟨k,?_⟩;have:y≠x:=λe=>G (xE hN l (e▸T))
     simp[this,e]
    .exact .inr ⟨k,c,e,z.sameBut f (L y c e)⟩
  .obtain⟨Z,z⟩:=I.cell y c e;exact⟨Z,z.sameBut f (L y c e)⟩
  .obtain⟨e,n,ne,nf,d⟩:=I.pin p hp;exact⟨(f.2 p.1 ne).trans e,n,ne,nf,d⟩
 .have J:X.fn x=true:=by
   rcases hf with z|z
   .exact z
   .rw[z]at F;cases F
  obtain⟨c,t⟩:=I.ok.has x (.inl F);obtain⟨Z,z⟩:=I.cell x c t;refine wpAny_storeName_cell I.ok.kind F t z (λO Y f=>?_);obtain⟨oc,R,P⟩:=id z;refine h {s with heap:=O} ⟨I.ok,I.os,I.bare,⟨λb o e n K B=>?_,λb o e n K B=>?_,I.base.free,λb o e B=>?_,I.base.tups,I.base.frzs,I.base.tbls⟩,⟨m,hn.sameBut f (Ne.symm (L x c t)),λj y v' l D e3=>?_⟩,λy c' e=>?_,I.free,I.ZI,λp hp=>?_,g ⟨oc,R,I.ZI x c t⟩ f,by simpa using I.len⟩ ⟨c,f,.inr t⟩
  .exact(f.2 b (Bb (Bc (Av e) (I.ok.WK x c J t)))).trans (I.base.keep b o e n K B)
  .obtain⟨sl,l⟩:=I.base.slot b o e n K B;exact⟨sl,(f.2 b (Bb (Bc (Av e) (I.ok.WK x c J t)))).trans l⟩
  .obtain⟨o',l⟩:=I.base.there b o e B;exact⟨o',(f.2 b (Bb (Bc (Av e) (I.ok.WK x c J t)))).trans l⟩
  .by_cases G:j=i
   .subst G;rw[T]at l;cases l;rw[Fx S]at D;cases D;exact⟨u,r,.inr ⟨.inl F,c,t,Y⟩⟩
   .rw[Ek (Ne.symm G)]at D;obtain⟨u',r',q⟩:=hl j y v' l D e3;refine⟨u',r',?_⟩;rcases q with q|⟨k,c',e,z'⟩
    .exact .inl q
    .refine .inr ⟨k,c',e,z'.sameBut f ?_⟩;rintro rfl;exact G (xE hN l (I.ok.inj _ _ _ e t▸T))
  .by_cases W:c'=c
   .subst W;exact⟨_,Y⟩
   .obtain⟨w2,z2⟩:=I.cell y c' e;exact⟨w2,z2.sameBut f W⟩
  .obtain⟨e,n,ne,nf,d⟩:=I.pin p hp;refine⟨(f.2 p.1 ?_).trans e,n,ne,nf,d⟩;intro q;rw[q,R]at e;have q':=Ay e
   exact d Z (by rw[<-q'];exact P)
def vW{Q:Unit->Shared->Prop}(I:Inv X y0 U H s)(e:X.N.Nodup)(c:X.N[i]?=some x)(b:Loc X.env.scope x)(r:RelV v u)(h:∀a,Inv X y0 (U.set i (some v)) H a->Q () a)(d:X.fn x=true\/X.env.scope.names.lookup x=some .local:=by first|exact .inl rfl|exact .inr rfl|assumption):wpAny M A (storeName X.env x u) Q E s:=
 sM I e c b r (λa f _=>h a f) d
def Inv.WN{ch:List Addr}(I:Inv X y0 U H s)(j:s'.os=s.os)(u:Un (YV X.stack) ch H H' s.heap s'.heap)(a:Y_ X.prog X.w H' s'.heap)(k:AllBare s'.gens)(f:∀b∈ch,(b∈X.ex\/X.s₀.heap.objs.size<=b)/\b≠X.env.locals/\(∀x c,X.env.cells.lookup x=some c->c≠b)/\∀p∈X.pn++y0,p.1≠b):Inv X y0 U H' s':=by
 obtain⟨l,g',d',t',i⟩:=s';have e:=j
 subst e;exact I.call    u a k f
end
abbrev XK:=Value->Option Addr->Hp->Prop
abbrev St:=List (Option V)
variable {U:St}
abbrev VK:=V->Hp->Prop
abbrev TE:=St->Hp->VK->Prop
variable {ta tb te:TE}
abbrev TT:=St->Hp->(Bool->Hp->Prop)->Prop
abbrev TA:=St->Hp->(List V->Hp->Prop)->Prop
variable {t:TA}
structure Ends where
 nx:St->Hp->Prop
 rt:VK
 bk:St->Hp->Prop:=λ_ _=>False
 ct:St->Hp->Prop:=λ_ _=>False
abbrev TS:=Ends->St->Hp->Prop
def EP(X:Cx)(b:List (Addr×Obj))(U:St)(Q:VK)(u:Value)(s':Shared):Prop:=∃v a,Inv X b U a s'/\RelV v u/\Q v a
def TP(X:Cx)(c:List (Addr×Obj))(U:St)(Q:Bool->Hp->Prop)(b:Bool)(s':Shared):Prop:=∃a,Inv X c U a s'/\Q b a
def AP(X:Cx)(c:List (Addr×Obj))(U:St)(Q:List V->Hp->Prop)(us:List Value)(s':Shared):Prop:=∃a b,Inv X c U b s'/\Vals a us/\Q a b
def SP(X:Cx)(c:List (Addr×Obj))(D:Ends)(f:Flow)(s':Shared):Prop:=
 match f with
 |.next=>∃b a,Inv X c b a s'/\D.nx b a
 |.brk=>∃b a,Inv X c b a s'/\D.bk b a
 |.cont=>∃b a,Inv X c b a s'/\D.ct b a
 |.ret u=>∃v b a,Inv X c b a s'/\RelV v u/\D.rt v a
def PE(X:Cx)(e:Expr)(t:TE):Prop:=
 ∀(a:Q4) s (U:St) H Q,Inv X a U H s->t U H Q->wpAny (model X.prog X.w) X.A (eval e X.env) (EP X a U Q) X.xe s
def PT(X:Cx)(e:Expr)(t:TT):Prop:=
 ∀(a:Q4) s (U:St) H Q,Inv X a U H s->t U H Q->wpAny (model X.prog X.w) X.A (isTrue e X.env (eval e X.env)) (TP X a U Q) X.xe s
def PW(X:Cx)(e:Expr)(t:TT):Prop:=
 ∀a (b:Q4) s (U:St) H Q,Inv X b U H s->t U H Q->wpAny (model X.prog X.w) X.A (isTrue e X.env a) (TP X b U Q) X.xe s
def PW.pt{t:TT}(h:PW X e t):PT X e t:=h _
def PA(X:Cx)(c:List Expr)(t:TA):Prop:=
 ∀a (b:Q4) s (U:St) H Q,Inv X b U H s->t U H Q->wpAny (model X.prog X.w) X.A (spliced (backTo a (starEach c X.env))) (AP X b U Q) X.xe s
def PS(X:Cx)(st:Stmt)(t:TS):Prop:=
 ∀(a:Q4) s (U:St) H D,Inv X a U H s->t D U H->wpAny (model X.prog X.w) X.A (exec st X.env) (SP X a D) X.xe s
def Yg(X:Cx)(st:List Stmt)(t:TS):Prop:=
 ∀(a:Q4) s (U:St) H D,Inv X a U H s->t D U H->wpAny (model X.prog X.w) X.A (execs st X.env) (SP X a D) X.xe s
def ZY{b:Type}{t:Sem b}{Q c:b->Shared->Prop}(h:wpAny M A t Q E s)(d:∀a s,Q a s->c a s):wpAny M A t c E s:=Ck h d λ_ _ x=>x
section
def bin{a b:Expr}(r:PE X a ta)(q:PE X b tb){R:V->V->Hp->Prop}(I:Inv X y0 U H s)(h:ta U H λx i=>tb U i λy c=>R x y c){j:Type}{Q:j->Shared->Prop}{f:Value->Value->Sem j}(p:∀v u g x y c,Inv X y0 U c g->RelV x v->RelV y u->R x y c->wpAny (model X.prog X.w) X.A (f v u) Q X.xe g):wpAny (model X.prog X.w) X.A (eval a X.env) (λv e=>wpAny (model X.prog X.w) X.A (eval b X.env) (λu d=>wpAny (model X.prog X.w) X.A (f v u) Q X.xe d) X.xe e) X.xe s:=by
 refine ZY (r y0 s U H _ I h) λv k ⟨x,i,z,m,o⟩=>?_;refine ZY (q y0 k U i _ z o) λu g ⟨y,c,t,l,n⟩=>?_;exact p v u g x y c t m l n
def Oi(i:Nat):TE:=λU H Q=>∃v,U[i]?=some (some v)/\Q v H
def tC(v:V):TE:=λ_ H Q=>Q v H
def Iu(t:X.N[i]?=some x)(n:T9 X.env.scope x)(f:(x==("__debug__" : Str))=false:=by decide)(g:(x==("__classdict__" : Str))=false:=by decide):PE X (.Name x pos) (Oi i):=by
 intro k s U H Q I h;obtain⟨v,e,h⟩:=h;obtain⟨m,o,q⟩:=I.loc;obtain⟨u,r,l⟩:=q i x v t e n;have d:EP X k U Q u s:=⟨v,H,I,r,h⟩
 rcases l with⟨b,p⟩|⟨b,c,j,a⟩
 .exact wpAny_Name (wpAny_loadName_local I.ok.kind b o p d) f
 .rcases b with b|b
  .exact wpAny_Name (wpAny_loadName_cell I.ok.kind b j a d) f
  .exact wpAny_Name (wpAny_loadName_free I.ok.kind b j a d g) f
def aM{i j pos}:PE X (.Constant (.int i) j pos) (tC (.int i)):=λ_ _ _ H _ I h=>wpAny_Constant_int ⟨.int i,H,I.tok _,⟨_,rfl⟩,h⟩
def lV{b j pos}:PE X (.Constant (.bool b) j pos) (tC (.bl b)):=λ_ _ _ H _ I h=>Constant_bool ⟨.bl b,H,I,rfl,h⟩
def cO{j pos}:PE X (.Constant .none j pos) (tC .non):=λ_ _ _ H _ I h=>Constant_none ⟨.non,H,I,rfl,h⟩
def cB{x j pos}:PE X (.Constant (.str x) j pos) (tC (.str x)):=λ_ _ _ H _ I h=>Calls.Constant_str ⟨.str x,H,I.tok _,⟨_,rfl⟩,h⟩
def Gl(X:Cx)(x:Str):Prop:=X.env.kindOf x=some .globalImplicit
def lB(I:Inv X y0 U H s)(b:Gl X x)(a:X.mg x=some u)(h:Q u s)(c:(x==("__debug__" : Str))=false:=by decide):wpAny (model X.prog X.w) X.A (eval (.Name x pos) X.env) Q E s:=
 Calls.Name_function_global I.ok.kind b (Calls.loadGlobal_global (by rw[I.ok.glob];exact I.mod.glob.keeps I.bk) a h) c
def iF(I:Inv X y0 U H s)(d:Gl X x)(c:X.mg x=none)(a:bootBuiltins x=some u)(h:Q u s)(b:x≠"__name__" := by decide)(e:(x==("__debug__" : Str))=false:=by decide):wpAny (model X.prog X.w) X.A (eval (.Name x pos) X.env) Q E s:=by
 obtain⟨i,g,f⟩:=I.mod.blt;exact Calls.Name_function_global I.ok.kind d (Calls.loadGlobal_builtin (by rw[I.ok.glob];exact I.mod.glob.keeps I.bk) c (by rw[I.ok.blt];exact g.keeps I.bk) ((f x b).trans a) h) e
def rE(b:Gl X x)(a:X.mg x=some u)(r:RelV v u)(c:(x==("__debug__" : Str))=false:=by decide):PE X (.Name x pos) (tC v):=
 λ_ _ _ H _ I h=>lB I b a ⟨v,H,I,r,h⟩ c
def AX(d:Gl X x)(c:X.mg x=none)(a:bootBuiltins x=some u)(r:RelV v u)(b:x≠"__name__" := by decide)(e:(x==("__debug__" : Str))=false:=by decide):PE X (.Name x pos) (tC v):=
 λ_ _ _ H _ I h=>iF I d c a ⟨v,H,I,r,h⟩ b e
variable {a b:Expr}
variable {tA tB':TT} {rest:List Expr}
def Rv(t u:TT):TT:=λU H Q=>t U H λc a=>if c=true then u U a Q else Q false a
def QY(t u:TT):TT:=λU H Q=>t U H λc a=>if c=true then Q true a else u U a Q
def Pd(t:TT):TT:=λU H Q=>t U H λc a=>Q (!c) a
def Tr(d:PT X a tA):PW X (.BoolOp .And [a] pos) tA:=by
 intro f b s U H Q I h;refine isTrue_and (ZY (d b s U H Q I h) λc g e=>?_);cases c with
 |true=>exact isTrue_and_nil e
 |false=>exact e
def gR(d:PT X a tA):PW X (.BoolOp .Or [a] pos) tA:=by
 intro f b s U H Q I h;refine isTrue_or (ZY (d b s U H Q I h) λc g e=>?_);cases c with
 |false=>exact isTrue_or_nil e
 |true=>exact e
def Sa(l:PT X a tA)(k:PW X (.BoolOp .And (b::rest) pos) tB'):PW X (.BoolOp .And (a::b::rest) pos) (Rv tA tB'):=by
 intro i d s U H Q I h;refine isTrue_and (ZY (l d s U H _ I h) λc j ⟨g,f,e⟩=>?_);cases c with
 |true=>exact k i d j U g Q f e
 |false=>exact⟨g,f,e⟩
def jY(l:PT X a tA)(k:PW X (.BoolOp .Or (b::rest) pos) tB'):PW X (.BoolOp .Or (a::b::rest) pos) (QY tA tB'):=by
 intro i d s U H Q I h;refine isTrue_or (ZY (l d s U H _ I h) λc j ⟨g,f,e⟩=>?_);cases c with
 |true=>exact⟨g,f,e⟩
 |false=>exact k i d j U g Q f e
def hJ(d:PT X a tA):PT X (.UnaryOp .Not a pos) (Pd tA):=by
 intro b s U H Q I h;exact isTrue_not (d b s U H _ I h)
def sB{t:TE}(h:PE X a t):PE X (.BoolOp op [a] pos) t:=λb s U H Q I c=>BoolOp_one (h b s U H Q I c)
def NZ(t:TT)(d b:TE):TE:=λU H Q=>t U H λc a=>if c=true then d U a Q else b U a Q
def kH(k:PT X c tA)(m:PE X a ta)(l:PE X b tb):PE X (.IfExp c a b pos) (NZ tA ta tb):=by
 intro e s U H Q I h;refine wpAny_IfExp (ZY (k e s U H _ I h) λd f ⟨j,i,g⟩=>?_);cases d with
 |true=>exact m e f U j Q i g
 |false=>exact l e f U j Q i g
end
def Y6(K:W.Frag)(H:Hp)(a:Addr)(xs:List V):Prop:=
 Rd H a (.lst xs)\/
  ∃o b n,K.lookup a=some o/\o.cls=.type "list"/\o.dict=none/\o.data=.seq b n/\b.size<=sizeLine/\Vals xs b.toList
def YQ(K:W.Frag)(H:Hp)(a:Addr)(xs:List V):Prop:=
 Rd H a (.tup xs)\/
  ∃o b n,K.lookup a=some o/\o.cls=.type "tuple"/\o.data=.seq b n/\b.size<=sizeLine/\Vals xs b.toList
noncomputable def FP:Value->Option V
 |.none=>some .non
 |.bool b=>some (.bl b)
 |.int i _=>some (.int i)
 |.str x _=>some (.str x)
 |.bytes b _=>some (.byt b)
 |.float b _=>some (.flt b)
 |.ref a=>some (.ref a)
 |.type n=>some (.ty n)
 |_=>none
def RelV.abs{x:V}(r:RelV x u):FP u=some x:=by
 cases x with
 |non=>cases r;rfl
 |bl _=>cases r;rfl
 |int _=>obtain⟨t,rfl⟩:=r;rfl
 |str _=>obtain⟨t,rfl⟩:=r;rfl
 |byt _=>obtain⟨t,rfl⟩:=r;rfl
 |flt _=>obtain⟨t,rfl⟩:=r;rfl
 |ref _=>cases r;rfl
 |ty _=>cases r;rfl
def RelV.inj{x y:V}(r:RelV x u)(q:RelV y u):x=y:=Ay (r.abs.symm.trans q.abs)
def Vals.inj{b a:List V}{c:List Value}(h:Vals b c)(g:Vals a c):b=a:=by
 induction h generalizing a with
 |nil=>cases g;rfl
 |cons r _ i=>cases g with|cons q t=>rw[r.inj q,i t]
section
variable {ys:List V}
def YQ.of(h:H a=some (.tup xs)):YQ K H a xs:=.inl (.inl h)
def Inv.list(I:Inv X y0 U H s)(h:Y6 X.K H a xs):∃b,Vals xs b/\PlainL s.heap a b.toArray/\xs.length<=sizeLine:=by
 rcases h with h|⟨o,b,n,d,g,f,c,i,r⟩
 .obtain⟨z,b,n,r,e⟩:=h.ok I.Z8;exact⟨b,r,⟨_,n,e,rfl,rfl,rfl⟩,z⟩
 .refine⟨b.toList,r,⟨o,n,I.Y2 a o d,g,f,by simpa using c⟩,?_⟩
  have e:=r.length
  grind
def Inv.tuple(I:Inv X y0 U H s)(h:YQ X.K H a xs):∃b,Vals xs b/\IsTup s.heap a b.toArray/\xs.length<=sizeLine:=by
 rcases h with h|⟨o,b,n,d,f,c,g,r⟩
 .obtain⟨z,b,r,p⟩:=h.ok I.Z8;exact⟨b,r,p,z⟩
 .refine⟨b.toList,r,⟨o,I.Y2 a o d,f,n,by simpa using c⟩,?_⟩
  have e:=r.length
  simp_all
def Inv.X1(I:Inv X y0 U H s)(h:Y6 X.K H a xs)(h':Y6 X.K H a ys):xs=ys:=by
 obtain⟨c,r,⟨o,n,e,_,_,d⟩,_⟩:=I.list h;obtain⟨b,i,⟨k,l,f,_,_,g⟩,_⟩:=I.list h'
 have:c=b:=by grind
 subst this;exact r.inj i
def Inv.XA(I:Inv X y0 U H s)(h:YQ X.K H a xs)(h':YQ X.K H a ys):xs=ys:=by
 obtain⟨c,r,⟨o,e,_,n,d⟩,_⟩:=I.tuple h;obtain⟨b,i,⟨k,f,_,l,g⟩,_⟩:=I.tuple h'
 have:c=b:=by grind
 subst this;exact r.inj i
end
noncomputable abbrev Cx.YA(X:Cx)(E:Value->Shared->Prop):Cx:={X with xe:=E}
noncomputable abbrev Cx.Xf(X:Cx):Cx:=X.YA λ_ _=>False
def Cx.Ok.YA(ok:X.Ok)(E:Q2):(X.YA E).Ok:=
 ⟨ok.mod,ok.kind,ok.glob,ok.blt,ok.above,ok.inj,ok.has,ok.WK,ok.hd,ok.frames,ok.Ws,ok.Wq,ok.bs,ok.XF,ok.X2,ok.Yk,ok.Zf,ok.Xc⟩
def Cx.Ok.Zd(ok:(X.YA E).Ok):X.Ok:=
 ⟨ok.mod,ok.kind,ok.glob,ok.blt,ok.above,ok.inj,ok.has,ok.WK,ok.hd,ok.frames,ok.Ws,ok.Wq,ok.bs,ok.XF,ok.X2,ok.Yk,ok.Zf,ok.Xc⟩
def Inv.YA(I:Inv X y0 U H s)(E:Q2):Inv (X.YA E) y0 U H s:=⟨I.ok.YA E,I.os,I.bare,I.base,I.loc,I.cell,I.free,I.ZI,I.pin,I.Z8,I.len⟩
def Inv.Zd(I:Inv (X.YA E) y0 U H s):Inv X y0 U H s:=⟨I.ok.Zd,I.os,I.bare,I.base,I.loc,I.cell,I.free,I.ZI,I.pin,I.Z8,I.len⟩
def SP.Zd{f:Flow}{s':Shared}(h:SP (X.YA E) y0 D f s'):SP X y0 D f s':=by
 cases f with
 |next=>obtain⟨a,b,I,q⟩:=h;exact⟨a,b,I.Zd,q⟩
 |brk=>obtain⟨a,b,I,q⟩:=h;exact⟨a,b,I.Zd,q⟩
 |cont=>obtain⟨a,b,I,q⟩:=h;exact⟨a,b,I.Zd,q⟩
 |ret u=>obtain⟨v,a,b,I,r,q⟩:=h;exact⟨v,a,b,I.Zd,r,q⟩
def Yg.Xf{st:List Stmt}{t:TS}(h:Yg X.Xf st t):Yg X st t:=λa s U H D I b=>
 Ck (h a s U H D (I.YA _) b) (λ_ _ q=>q.Zd) λ_ _ z=>False.elim z
section
variable {X:Cx} {st:Stmt} {rest:List Stmt} {t u:TS} {e:Expr} {te:TE} {pos:Pos}
def Qf:TS:=λD U H=>D.nx U H
def Qh(t u:TS):TS:=λD U H=>t {D with nx:=u D} U H
def bE:Yg X [] Qf:=λ_ _ U H _ I h=>wpAny_execs_nil ⟨U,H,I,h⟩
def aH(d:PS X st t)(c:Yg X rest u):Yg X (st::rest) (Qh t u):=by
 intro a s U H D I h;refine wpAny_execs_cons (ZY (d a s U H {D with nx:=u D} I h) λf b q=>?_)
 cases f with
 |next=>
  obtain⟨e,i,g,q⟩:=q;exact c a b e i D g q
 |ret v=>exact q
 |brk=>exact q
 |cont=>exact q
def aI(b:PS X st t):Yg X [st] t:=by
 intro a s U H D I h;refine wpAny_execs_cons (ZY (b a s U H D I h) λf c q=>?_);cases f with
 |next=>exact wpAny_execs_nil q
 |ret v=>exact q
 |brk=>exact q
 |cont=>exact q
def Inv.quiet(I:Inv X y0 U H s):interactive X.env=false:=by simp[interactive,I.ok.kind]
def N5(a:TE):TS:=λD U H=>a U H λ_ b=>D.nx U b
def cR(c:PE X e te)(hs:swapsWith e none pos.line X.env=pure false:=by rfl):PS X (.Expr e pos) (N5 te):=by
 intro a s U H D I h;exact wpAny_Expr_any (ZY (c a s U H _ I h) λv g ⟨x,f,d,i,b⟩=>⟨U,f,d,b⟩) I.quiet hs
def Oe(a:TE):TS:=λD U H=>a U H D.rt
def aV(d:PE X e te):PS X (.Return (some e) pos) (Oe te):=by
 intro a s U H D I h;exact wpAny_Return_some (ZY (d a s U H _ I h) λv i ⟨x,g,f,b,c⟩=>⟨x,U,g,f,b,c⟩)
def Qr(c:TT)(t u:TS):TS:=λD U H=>c U H λb a=>if b=true then t D U a else u D U a
def bP{a b:List Stmt}{f:TT}(l:PT X c f)(n:Yg X a t)(m:Yg X b u):PS X (.If c a b pos) (Qr f t u):=by
 intro e s U H D I h;refine wpAny_If (ZY (l e s U H _ I h) λd g ⟨k,j,i⟩=>?_);cases d with
 |true=>exact n e g U k D j i
 |false=>exact m e g U k D j i
def C8:TS:=λ_ _ _=>False
def iK:PS X st C8:=λ_ _ _ _ _ _ h=>h.elim
end
abbrev TG:=V->St->Hp->(St->Hp->Prop)->Prop
variable {g:TG}
abbrev Xp:=List V->St->Hp->(St->Hp->Prop)->Prop
def PG(X:Cx)(a:Expr)(t:TG):Prop:=
 ∀(b:Q4) s (U:St) H v u Q,Inv X b U H s->RelV v u->t v U H Q->
  wpAny (model X.prog X.w) X.A (assign a X.env u) (λ_ e=>∃c d,Inv X b c d e/\Q c d) X.xe s
def Vp(X:Cx)(f:List Expr)(t:Xp):Prop:=
 ∀(a:Q4) s (U:St) H b c Q,Inv X a U H s->Vals b c->t b U H Q->
  wpAny (model X.prog X.w) X.A (assignInOrder ((assignEach f X.env).map (·.2)) c) (λ_ g=>∃d e,Inv X a d e g/\Q d e) X.xe s
abbrev T6:=V->V->V->Hp->(Hp->Prop)->Prop
def ON(X:Cx)(t:T6):Prop:=
 ∀(a:Q4) s (U:St) H o i v b c u Q,Inv X a U H s->RelV o b->RelV i c->RelV v u->t o i v H Q->
  wpAny (model X.prog X.w) X.A (setItem b c u) (λ_ e=>∃d,Inv X a U d e/\Q d) X.xe s
section
variable {X:Cx} {pos:Pos}
def iT(i:Nat):TG:=λv U H Q=>Q (U.set i (some v)) H
def bB{i:Nat}(d:X.N.Nodup)(b:X.N[i]?=some x)(a:Loc X.env.scope x)(c:X.fn x=true\/X.env.scope.names.lookup x=some .local:=by first|exact .inl rfl|exact .inr rfl|assumption):PG X (.Name x pos) (iT i):=by
 intro f s U H v u Q I r h;exact wpAny_assign_Name (vW I d b a r (λg e=>⟨_,H,e,h⟩) c)
def Se:Xp:=λa U H Q=>a=[]/\Q U H
def Ug(t:TG)(u:Xp):Xp:=λa U H Q=>∃v r,a=v::r/\t v U H λb c=>u r b c Q
def Ph:Vp X [] Se:=by
 intro a s U H b c Q I r h;obtain⟨e,h⟩:=h;exact assignInOrder_nil ⟨U,H,I,h⟩
def mK{t:TG}{u:Xp}(g:PG X e t)(f:Vp X es u)(hs:(assignEach (e::es) X.env).map (·.2)=assign e X.env::(assignEach es X.env).map (·.2):=by rfl):Vp X (e::es) (Ug t u):=by
 intro a s U H m o Q I r h;obtain⟨v,n,i,h⟩:=h;subst i;cases r with
 |cons r c=>
  rw[hs];refine assignInOrder_cons (ZY (g a s U H _ _ _ I r h) λ_ b ⟨j,l,k,d⟩=>?_);exact f a b j l _ _ Q k c d
def Tw(K:W.Frag)(n:Nat)(t:Xp):TG:=λv U H Q=>∃a b,v=.ref a/\YQ K H a b/\b.length=n/\t b U H Q
def LD{t:Xp}{n:Nat}(x:X.calm=true)(h:Vp X es t)(q:(assignEach es X.env).length=n:=by rfl)(d:(assignEach es X.env).findIdx? (·.1)=none:=by rfl):PG X (.Tuple es k pos) (Tw X.K n t):=by
 intro f s U H v u Q I r c;obtain⟨a,i,z,p,w,c⟩:=c;subst z;cases r;obtain⟨j,g,m,B⟩:=I.tuple p;refine assign_Tuple_tuple (I.ok.hd x) m (by simp[q,<-w,g.length]) d λy l=>?_
 have A:=I.kept (t':=s.toks) λb o e=>l b o (Bb (Av e)) e
 exact h f _ U H i _ Q A (by (assumption)) c
def RI(a b:TE)(t:T6):TG:=λv U H Q=>a U H λo e=>b U e λi d=>t o i v d λc=>Q U c
def yG{o i:Expr}{d e:TE}{t:T6}(p:PE X o d)(q:PE X i e)(hs:ON X t)(w:∀v,assign (.Subscript o i pos) X.env v=(do
 let a <-holding [v] (eval o X.env)
 let b <-holding [v,a] (eval i X.env)
 standAt pos
 holding [v,a,b] (setItem a b v)
 release [v,a,b] []):=by intro _;rfl):PG X (.Subscript o i pos) (RI d e t):=by
 intro c s U H v u Q I r h;rw[w];refine Ad (By (ZY (p c s U H _ I h) λa g ⟨x,E,B,k,n⟩=>?_));refine Ad (By (ZY (q c g U E _ B n) λb f ⟨y,D,A,j,m⟩=>?_));refine Ad (Ew (Ad (By (ZY (hs c f U D x y v a b u _ A k j r m) λ_ F ⟨C,z,l⟩=>?_))));exact wpAny_release ⟨U,C,z,l⟩
def VO(a:TE)(g:TG):TS:=λD U H=>a U H λx b=>g x U b D.nx
def sJ(j:PE X e te)(i:PG X tg g)(hs:swapsWithSole [tg] e pos.line X.env=pure false:=by rfl)(f:swappedStores [tg] e X.env=pure none:=by rfl)(k:(assignEach [tg] X.env).map (·.2)=[assign tg X.env]:=by rfl):PS X (.Assign [tg] e pos) (VO te g):=by
 intro a s U H D I h;refine wpAny_Assign_stores (ZY (j a s U H _ I h) λv b ⟨x,m,l,c,d⟩=>?_) hs f;rw[k];exact ZY (i a b U m x v _ l c d) λ_ n q=>q
def Sk{i:Nat}{x:Str}{e:Expr}{b:TE}{a:Pos}(m:X.N.Nodup)(j:X.N[i]?=some x)(g:Loc X.env.scope x)(l:PE X e b)(hs:swapsWith e (some (.Name x a)) pos.line X.env=pure false:=by rfl)(k:X.fn x=true\/X.env.scope.names.lookup x=some .local:=by first|exact .inl rfl|exact .inr rfl|assumption):PS X (.Assign [.Name x a] e pos) (VO b (iT i)):=by
 intro c s U H D I h;refine wpAny_Assign_Name (ZY (l c s U H _ I h) λv r ⟨y,p,o,d,f⟩=>?_) hs;exact vW o m j g d (λq n=>⟨_,p,n,f⟩) k
end
def K7(c:TT)(g:TS):TS:=λD U H=>∃W:Nat->St->Hp->Prop,(∃m,W m U H)/\∀m U H,W m U H->
 c U H λb e=>if b=true then ∃N,(∀d f,N d f->∃a,a < m/\W a d f)/\g {D with nx:=N,ct:=N,bk:=D.nx} U e else D.nx U e
def xQ{t:TT}{u:TS}(x:PassesOwn (model X.prog X.w) X.A X.env X.xe)(P:PT X c t)(Q:Yg X body u):PS X (.While c body [] pos) (K7 t u):=by
 intro k s U H D I h;obtain⟨W,⟨O,J⟩,a⟩:=h;refine wpAny_While (codeAny_whileLoop (λn M=>∃z F,Inv X k z F M/\W n z F) ?_ O ⟨U,H,I,J⟩);rintro n L ⟨j,E,R,G⟩;refine Fd x (ZY (P k L j E _ R (a n j E G)) λb K ⟨C,B,i⟩=>?_);cases b with
 |true=>
  obtain⟨N,y,i⟩:=i;rw[if_pos rfl];refine Fd x (ZY (Q k K j C _ B i) λf S g=>?_);cases f with
  |next=>
   obtain⟨d,e,r,o⟩:=g;obtain⟨p,q,l⟩:=y d e o;exact⟨p,q,d,e,r,l⟩
  |cont=>
   obtain⟨d,e,r,o⟩:=g;obtain⟨p,q,l⟩:=y d e o;exact⟨p,q,d,e,r,l⟩
  |brk=>exact g
  |ret v=>exact g
 |false=>
  rw[if_neg Aq];exact wpAny_execs_nil ⟨j,C,B,i⟩
structure It where
 go:Nat->Hp->Prop
 Xa:Nat->Hp->V->Hp->Prop
 stop:Nat->Hp->Prop
def gY(X:Cx)(a:List (Addr×Obj))(H:Hp)(b:Addr):Prop:=
 H b=none/\b≠X.env.locals/\b∉X.fs/\(b∈X.ex\/X.s₀.heap.objs.size<=b)/\(∀x c,X.env.cells.lookup x=some c->c≠b)/\∀p∈X.pn++a,p.1≠b
def Inv.YO(I:Inv X y0 U H s)(a:s.heap.objs.size<=b)(g:d b=none):gY X y0 d b:=by
 refine⟨g,Fe (Bc I.lt a),I.Tj a,.inr (Cd I.sz a),λx c e z=>?_,λp f z=>?_⟩
 .obtain⟨v,q⟩:=I.cell x c e;exact absurd (Bc q.lt (by rwa[z])) (Dk _)
 .exact absurd (Bc (Av (I.pin p f).1) (by simp_all)) (Dk _)
structure Turn (P:Program) (w:World) (K:W.Frag) (tg:Expr) (J:It) (fp:List Addr) (it:Addr) (tn:Nat->Heap->Prop):Prop where
 mem:it∈fp
 obj:∀i h,tn i h->∀b∈fp,∃o,h.get? b=some o/\∀v,o.data≠.cell v
 keep:∀i h h',tn i h->(∀b∈fp,∀o,h.get? b=some o->h'.get? b=some o)->tn i h'
 item:∀(X:Cx),X.prog=P->X.w=w->X.K=K->X.calm=true->∀(i:Nat) (y0:Q4) (s:Shared) (U:St) (H:Hp) (E:Q2),Inv X y0 U H s->(∀b∈fp,gY X y0 H b)->tn i s.heap->J.go i H->
  wpAny (model P w) X.A (pyNext (.ref it)) (λr s1=>∃u,r=some u/\
   wpAny (model P w) X.A (letOwnedTupleGo tg (.ref it) u) (λ_ s2=>∃x H',Inv X y0 U H' s2/\RelV x u/\J.Xa i H x H'/\tn (i+1) s2.heap/\∀b∈fp,H' b=none) E s1) E s
 done:∀(X:Cx),X.prog=P->X.w=w->X.K=K->X.calm=true->∀(i:Nat) (y0:Q4) (s:Shared) (U:St) (H:Hp) (E:Q2),Inv X y0 U H s->(∀b∈fp,gY X y0 H b)->tn i s.heap->J.stop i H->
  wpAny (model P w) X.A (pyNext (.ref it)) (λr s1=>r=none/\Inv X y0 U H s1) E s
 self:∀(A:Around) (i:Nat) (s:Shared) (Q:Q2) (E:Q2),tn i s.heap->Q (.ref it) s->wpAny (model P w) A (pyIter (.ref it)) Q E s
abbrev TI:=St->Hp->(It->Hp->Prop)->Prop
def UQ(X:Cx)(d:List (Addr×Obj))(U:St)(i:Expr)(R:It->Hp->Prop)(a:Value)(f:Shared):Prop:=
 ∃g h e J c,a=.ref g/\Inv X d U c f/\Turn X.prog X.w X.K i J h g e/\e 0 f.heap/\(∀b∈h,gY X d c b)/\R J c
def PI(X:Cx)(c a:Expr)(wi:TI):Prop:=
 ∀(b:Q4) s (U:St) H R,Inv X b U H s->wi U H R->
  wpAny (model X.prog X.w) X.A (eval a X.env) (λv d=>wpAny (model X.prog X.w) X.A (pyIter v) (UQ X b U c R) X.xe d) X.xe s
def qI{s:Shared}{b:Addr}{o:Obj}{n:String}{vs:Array Value}{Q:Unit->Shared->Prop}(c:s.heap.get? b=some o)(f:o.cls=.type n)(e:o.data=.fields vs)(d:["enumerate", "zip", "dict_itemiterator", "dict_reverseitemiterator", "odict_iterator", "itertools.zip_longest", "itertools.pairwise"].contains n=false)(a:Q () s):wpAny M A (letOwnedTupleGo tg (.ref b) u) Q E s:=by
 unfold letOwnedTupleGo;cases tg<;>first
  |exact Ap a
  | (cases u <;> first
      |exact Ap a
      | (refine Ad (wpAny_load c ?_)
         rw[f,e];show wpAny M A (if (["enumerate", "zip", "dict_itemiterator", "dict_reverseitemiterator", "odict_iterator", "itertools.zip_longest", "itertools.pairwise"].contains n&&vs[0]? == some (rawInt _))=true then _ else _) Q E s
         rw[if_neg (by grind)]
         exact Ap a))
noncomputable def Xr(K:W.Frag)(a:Addr):It:=
 ⟨λi H=>∃b x,Y6 K H a b/\b[i]?=some x,λi H x c=>c=H/\∀b,Y6 K H a b->b[i]?=some x,λi H=>∃b,Y6 K H a b/\b.length<=i⟩
noncomputable def Uk(K:W.Frag)(a:Addr):It:=
 ⟨λi H=>∃b x,YQ K H a b/\b[i]?=some x,λi H x c=>c=H/\∀b,YQ K H a b->b[i]?=some x,λi H=>∃b,YQ K H a b/\b.length<=i⟩
noncomputable def XR(a:Int)(n:Nat):It:=⟨λi _=>i<n,λi H x b=>b=H/\x=.int (a+i),λi _=>n<=i⟩
def C3(a g:Addr):Turn P w K tg (Xr K a) [g] g (λi h=>h.IsListIter g a i) where
 mem:=by simp
 obj:=λi h f b j=>by
  have e:b=g:=by simpa using j
  subst e;obtain⟨o,e,c,d⟩:=f;exact⟨o,e,λv z=>by rw[d]at z;cases z⟩
 keep:=λi h q f k=>f.at λo e=>k g (by simp) o e
 item:=by
  intro X D B F Q i O s U H E I n f C;subst D B F;obtain⟨R,x,m,A⟩:=C;obtain⟨y,r,p,V⟩:=I.list m;obtain⟨u,Y,T⟩:=r.get A;obtain⟨N,M,Z,L,J,G⟩:=n g (by simp)
  refine wpAny_pyNext_list_item f p.isList (x:=u) (by simpa using Y) λq l S=>?_
  have I1:=I.turned (t':=s.toks) (λb o j e=>(S.2 b j).trans e) N M L J G
  obtain⟨o,e,c,d⟩:=id l;exact⟨u,rfl,qI (s:={s with heap:=q}) e c d (by decide) ⟨x,H,I1,T,⟨rfl,λys W=>by rw[I.X1 W m];exact A⟩,l,λb j=>(n b j).1⟩⟩
 done:=by
  intro X D B F Q i O s U H E I n f C;subst D B F;obtain⟨R,m,A⟩:=C;obtain⟨y,r,p,V⟩:=I.list m;obtain⟨N,M,Z,L,J,G⟩:=n g (by simp)
  have hl:=r.length
  exact wpAny_pyNext_list_end (I.ok.hd Q) f p.isList (by simp;((try clear L M V);omega)) λq eb=>⟨rfl,I.turned (t':=s.toks) (λb o j e=>eb b o j e) N M L J G⟩
 self:=λ_ _ _ _ _ f h=>wpAny_pyIter_listiter f h
def D5(a j:Addr):Turn P w K tg (Uk K a) [j] j (λi h=>h.IsTupleIter j a i) where
 mem:=by simp
 obj:=λi h f b l=>by
  have e:b=j:=by simpa using l
  subst e;obtain⟨o,e,c,d⟩:=f;exact⟨o,e,λv z=>by rw[d]at z;cases z⟩
 keep:=λi h r f k=>f.at λo e=>k j (by simp) o e
 item:=by
  intro X D B F Q i O s U H E I q f C;subst D B F;obtain⟨R,x,n,A⟩:=C;obtain⟨g,y,p,V⟩:=I.tuple n;obtain⟨u,Y,T⟩:=y.get A;obtain⟨N,M,Z,L,J,G⟩:=q j (by simp)
  refine wpAny_pyNext_tuple_item f (show s.heap.IsTuple a g.toArray from p) (x:=u) (by simpa using Y) λr m S=>?_
  have I1:=I.turned (t':=s.toks) (λb o l e=>(S.2 b l).trans e) N M L J G
  obtain⟨o,e,c,d⟩:=id m;exact⟨u,rfl,qI (s:={s with heap:=r}) e c d (by decide) ⟨x,H,I1,T,⟨rfl,λys W=>by rw[I.XA W n];exact A⟩,m,λb l=>(q b l).1⟩⟩
 done:=by
  intro X D B F Q i O s U H E I q f C;subst D B F;obtain⟨R,n,A⟩:=C;obtain⟨g,y,p,V⟩:=I.tuple n;obtain⟨N,M,Z,L,J,G⟩:=q j (by simp)
  have hl:=y.length
  exact wpAny_pyNext_tuple_end (I.ok.hd Q) f (show s.heap.IsTuple a g.toArray from p) (by simp;((try clear L M V);omega)) λr eb=>⟨rfl,I.turned (t':=s.toks) (λb o l e=>eb b o l e) N M L J G⟩
 self:=λ_ _ _ _ _ f h=>wpAny_pyIter_tupleiter f h
def Ie{K:PySem.W.Frag}(c:Addr)(g:Int)(n:Nat):Turn P w K tg (XR g n) [c] c (λi h=>IsRangeIter h c (g+(i:Nat)*1) ((n:Int)-(i:Nat)) 1) where
 mem:=by simp
 obj:=λi h a b d=>by
  have e:b=c:=by simpa using d
  subst e;exact⟨_,a,λv z=>by
   have G:=z
   cases G⟩
 keep:=λi h l a k=>k c (by simp) _ a
 item:=by
  intro X r m u q i D s U H E I j a p;subst r m u;obtain⟨C,B,M,A,y,x⟩:=j c (by simp)
  have W:=Walks.range (prog:=X.prog) (w:=X.w) (I.ok.hd q) c g 1 n
  refine W.item i s _ _ p a λv l F L f J=>?_;obtain⟨t,rfl⟩:=L;have O:Inv X D U H {s with heap:=l,toks:=F}:=I.turned (λb o d e=>J b o (by simpa using d) e) C B A y x
  refine⟨_,rfl,qI (s:={s with heap:=l,toks:=F}) (n := "range_iterator") f rfl rfl (by decide) ⟨.int (g+i),H,O,⟨t,?_⟩,⟨rfl,rfl⟩,f,λb d=>(j b d).1⟩⟩
  rw[Int.mul_one]
 done:=by
  intro X r m u q i D s U H E I j a p;subst r m u;obtain⟨C,B,M,A,y,x⟩:=j c (by simp)
  exact wpAny_pyNext_range_end (I.ok.hd q) a (by have:n<=i:=p;((try clear A B);omega)) λl N=>⟨rfl,I.turned (t':=s.toks) (λb o d e=>N b o d e) C B A y x⟩
 self:=λ_ _ _ _ _ a h=>Hj a h
def Q0{a c:Int}{t u v:Tok}{d:Nat}(I:Inv X y0 U H s)(k:-(2^62)<=a)(j:a<2^62)(i:-(2^62)<=c)(h:c<2^62)(q:R (XR a (c-a).toNat) H):wpAny (model X.prog X.w) X.A (pyIter (.ref s.heap.objs.size)) (UQ X y0 U tg R) E {s with heap:=s.heap.push {cls:=.type "range",data:=.fields #[.int a t,.int c u,.int 1 v]},toks:=d}:=by
 refine wpAny_pyIter_range (IsRange.new ..) (small_one k j i h) ?_;have f:Inv X y0 U H {s with heap:=s.heap.push {cls:=.type "range",data:=.fields #[.int a t,.int c u,.int 1 v]},toks:=d}:=I.kept λb o e=>Af _ e
 refine⟨(s.heap.push {cls:=.type "range",data:=.fields #[.int a t,.int c u,.int 1 v]}).objs.size,[(s.heap.push {cls:=.type "range",data:=.fields #[.int a t,.int c u,.int 1 v]}).objs.size],_,_,H,rfl,
  f.kept (t':=d) λb o e=>Af _ e,Ie _ a (c-a).toNat,?_,λb g=>?_,q⟩
 .have m:a+((0:Nat):Int)*1=a:=by simp
  have l:(((c-a).toNat:Nat):Int)-((0:Nat):Int)=Builtin.Range.rangeSize a c 1:=by rw[rangeSize_one];split<;>((try clear h i j k m);omega)
  show IsRangeIter _ _ (a+((0:Nat):Int)*1) ((((c-a).toNat:Nat):Int)-((0:Nat):Int)) 1
  rw[m,l];exact Au _ rfl
 .have e:b=(s.heap.push {cls:=.type "range",data:=.fields #[.int a t,.int c u,.int 1 v]}).objs.size:=by simpa using g
  subst e;exact f.YO (Ai _) (f.Z8.fresh (Ai _))
def MV(wi:TI)(g:TG)(d:TS):TS:=λD U H=>wi U H λJ h=>∃W:Nat->Nat->St->Hp->Prop,(∃m,W 0 m U h)/\∀i m U H,W i m U H->
 (J.stop i H/\D.nx U H)\/(J.go i H/\∃N,(∀c a,N c a->∃b,b < m/\W (i+1) b c a)/\∀x a,J.Xa i H x a->g x U a λe f=>d {D with nx:=N,ct:=N,bk:=D.nx} e f)
noncomputable def nN(a:List Addr)(h:Heap):List (Addr×Obj):=a.filterMap λb=>(h.get? b).map λo=>(b,o)
def gH{o:Obj}(a:b∈fp)(e:h.get? b=some o):(b,o)∈nN fp h:=Eg.mpr ⟨b,a,by rw[e];rfl⟩
def GS(a:p∈nN fp h):p.1∈fp/\h.get? p.1=some p.2:=by
 obtain⟨b,c,e⟩:=Eg.mp a;cases q:h.get? b with
 |none=>rw[q]at e;cases e
 |some o=>
  rw[q]at e;have d:=Ay e
  subst d;exact⟨c,q⟩
def Inv.pinned(I:Inv X y0 U H s)(h:∀b∈fp,gY X y0 H b)(g:∀b∈fp,∃o,s.heap.get? b=some o/\∀v,o.data≠.cell v):Inv X (y0++nN fp s.heap) U H s:=
 I.XJ λp f=>(Ce.mp f).elim (λz=>I.pin p (Bg _ z)) λz=>by
  obtain⟨a,e⟩:=GS z;obtain⟨k,j,i,_⟩:=h p.1 a;obtain⟨o,c,d⟩:=g p.1 a;simp_all
def Inv.Y9{pl:Q4}(I:Inv X (y0++pl) U H s):Inv X y0 U H s:=I.XJ λp a=>I.pin p (Bg _ (Dw _ a))
def Ir{tb:TS}(L:PassesOwn (model X.prog X.w) X.A X.env X.xe)(hc:X.calm=true)(hi:PI X tg c wi)(hg:PG X tg g)(j:Yg X body tb)(hs:∀x,foldedSetIterable c X.env x=pure x:=by intro _;rfl):PS X (.For tg c body [] pos) (MV wi g tb):=by
 intro z s U H D I h;refine wpAny_For (ZY (hi z s U H _ I h) λv s1 h1=>ZY h1 λa2 s2 h2=>?_) hs;obtain⟨it,O,tn,J,H2,e,I2,T,S,f2,W,⟨m0,w0⟩,C⟩:=h2;subst e
 -- what stays true of the iterator's objects through the loop
 have a:∀ {t:Hp},(∀b∈O,t b=none)->∀b∈O,gY X z t b:=λhn b j=>⟨hn b j,(f2 b j).2⟩
 refine codeAny_forLoop_any (λn s'=>∃i Q t,Inv X z Q t s'/\tn i s'.heap/\(∀b∈O,t b=none)/\W i n Q t) ?_ m0 ⟨0,U,H2,I2,S,λb j=>(f2 b j).1,w0⟩;rintro n s3 ⟨i,P,R,I3,G,M,w3⟩;rcases C i n P R w3 with⟨E,qn⟩|⟨go,N,hN,F⟩
 .refine Fd L (ZY (T.done X rfl rfl rfl hc i z s3 P R X.xe I3 (a M) G E) λr s4 ⟨Y,I4⟩=>?_);subst Y;exact wpAny_execs_nil ⟨P,R,I4,qn⟩
 .refine Fd L (ZY (T.item X rfl rfl rfl hc i z s3 P R X.xe I3 (a M) G go) λr s4 ⟨u,Y,h4⟩=>?_);subst Y;refine Fd L (ZY h4 λ_ s5 ⟨x,H5,I5,r5,y5,B,Z⟩=>?_);have a1:=I5.pinned (a Z) (T.obj _ _ B)
  refine Fd L (ZY (hg _ s5 P H5 x u _ a1 r5 (F x H5 y5)) λ_ s6 ⟨U6,H6,I6,q6⟩=>?_);refine Fd L (ZY (j _ s6 U6 H6 _ I6 q6) λf V y=>?_);have k:∀ {l:St} {q:Hp},Inv X (z++nN O s5.heap) l q V->N l q->∃m,m<n/\∃i Q t,Inv X z Q t V/\tn i V.heap/\(∀b∈O,t b=none)/\W i m Q t:=fun {l q} p K=>by
   obtain⟨m',hm,w7⟩:=hN l q K;refine⟨m',hm,i+1,l,q,p.Y9,T.keep _ _ _ B λb j o e=>(p.pin (b,o) (Bg _ (Bg _ (gH j e)))).1,λb j=>?_,w7⟩;obtain⟨o,e,d⟩:=T.obj _ _ B b j;exact(p.pin (b,o) (Bg _ (Bg _ (gH j e)))).2.1
  cases f with
  |next=>obtain⟨l,q,p,K⟩:=y;exact k p K
  |cont=>obtain⟨l,q,p,K⟩:=y;exact k p K
  |brk=>obtain⟨l,q,p,y⟩:=y;exact⟨l,q,p.Y9,y⟩
  |ret v=>obtain⟨x7,l,q,p,r7,y⟩:=y;exact⟨x7,l,q,p.Y9,r7,y⟩
def Ks{K:PySem.W.Frag}{k:TS}{D:Ends}(b:Nat->St->Hp->Prop)(t:b 0 U H)(o:∀i U H,i<=xs.length->b i U H->Y6 K H a xs)(hs:∀i x U H,xs[i]?=some x->b i U H->g x U H λf j=>k {D with nx:=b (i+1),ct:=b (i+1),bk:=D.nx} f j)(s:∀U H,b xs.length U H->D.nx U H):∃W:Nat->Nat->St->Hp->Prop,(∃m,W 0 m U H)/\∀i m U H,W i m U H->
 ((Xr K a).stop i H/\D.nx U H)\/((Xr K a).go i H/\∃N,(∀h c,N h c->∃l,l < m/\W (i+1) l h c)/\∀x c,(Xr K a).Xa i H x c->g x U c λf j=>k {D with nx:=N,ct:=N,bk:=D.nx} f j):=by
 refine⟨λi m U H=>m=xs.length-i/\i<=xs.length/\b i U H,⟨xs.length,by simp,Nat.zero_le _,t⟩,?_⟩
 rintro i m U H ⟨rfl,r,p⟩;have q:=o i U H r p
 by_cases d:i<xs.length
 .refine .inr ⟨⟨xs,xs[i],q,by simp[d]⟩,b (i+1),λh c n=>⟨xs.length-(i+1),by ((try clear r);omega),rfl,d,n⟩,λx c y=>?_⟩
  obtain⟨e,y⟩:=y;subst e;exact hs i x U _ (y xs q) p
 .have e:i=xs.length:=by omega
  subst e;exact .inl ⟨⟨xs,q,Ai _⟩,s U H p⟩
def JC{n:Nat}{k:TS}{D:Ends}(b:Nat->St->Hp->Prop)(r:b 0 U H)(hs:∀i U H,i<n->b i U H->g (.int (d+i)) U H λf j=>k {D with nx:=b (i+1),ct:=b (i+1),bk:=D.nx} f j)(q:∀U H,b n U H->D.nx U H):∃W:Nat->Nat->St->Hp->Prop,(∃m,W 0 m U H)/\∀i m U H,W i m U H->
 ((XR d n).stop i H/\D.nx U H)\/((XR d n).go i H/\∃N,(∀h c,N h c->∃l,l < m/\W (i+1) l h c)/\∀x c,(XR d n).Xa i H x c->g x U c λf j=>k {D with nx:=N,ct:=N,bk:=D.nx} f j):=by
 refine⟨λi m U H=>m=n-i/\i<=n/\b i U H,⟨n,by simp,Nat.zero_le _,r⟩,?_⟩
 rintro i m U H ⟨rfl,s,p⟩;by_cases a:i<n
 .refine .inr ⟨a,b (i+1),λh c o=>⟨n-(i+1),by ((try clear s);omega),rfl,a,o⟩,λx c y=>?_⟩
  obtain⟨e,y⟩:=y;subst e y;exact hs i U _ a p
 .have e:i=n:=by omega
  subst e;exact .inl ⟨Ai _,q U H p⟩
abbrev R2:=V->V->Hp->VK->Prop
def ZH(X:Cx)(f:Value->Value->Sem Value)(r:R2):Prop:=
 ∀(a:Q4) s (U:St) H x y v u Q,Inv X a U H s->RelV x v->RelV y u->r x y H Q->
  wpAny (model X.prog X.w) X.A (f v u) (EP X a U Q) X.xe s
def Uz(X:Cx)(f:Value->Sem Value)(r:V->Hp->VK->Prop):Prop:=
 ∀(a:Q4) s (U:St) H x v Q,Inv X a U H s->RelV x v->r x H Q->
  wpAny (model X.prog X.w) X.A (f v) (EP X a U Q) X.xe s
def ZU(X:Cx)(f:Value)(r:List V->Hp->VK->Prop):Prop:=
 ∀(a:Q4) s (U:St) H b c Q,Inv X a U H s->Vals b c->r b H Q->
  wpAny (model X.prog X.w) X.A (call f c) (EP X a U Q) X.xe s
def CI(X:Cx)(r:V->Hp->(Bool->Hp->Prop)->Prop):Prop:=
 ∀(a:Q4) s (U:St) H x v Q,Inv X a U H s->RelV x v->r x H Q->
  wpAny (model X.prog X.w) X.A (truthy v) (TP X a U Q) X.xe s
def Wv(r:R2)(b a:TE):TE:=λU H Q=>b U H λx d=>a U d λy c=>r x y c Q
def RE(r:V->Hp->VK->Prop)(a:TE):TE:=λU H Q=>a U H λx b=>r x b Q
def rI(C:Int->Int->Prop)(g:Int->Int->V):R2:=λx y H Q=>∃i j,x=.int i/\y=.int j/\C i j/\Q (g i j) H
def W9(g:Int->Int->V):R2:=λx y H Q=>∃i j,x=.int i/\y=.int j/\Q (g i j) H
def rU(g:Int->V):V->Hp->VK->Prop:=λx H Q=>∃i,x=.int i/\Q (g i) H
section
variable {a b:Expr}
def SS(q:PE X a ta)(p:PE X b tb){R:V->V->Hp->Prop}(I:Inv X y0 U H s)(h:ta U H λx i=>tb U i λy c=>R x y c)(o:∀v u g x y c,Inv X y0 U c g->RelV x v->RelV y u->R x y c->wpAny (model X.prog X.w) X.A (f v u) Q X.xe g):wpAny (model X.prog X.w) X.A (eval a X.env) (λv e=>wpAny (model X.prog X.w) X.A (eval b X.env) (λu d=>wpAny (model X.prog X.w) X.A (f v u) Q X.xe d) X.xe e) X.xe s:=by
 refine ZY (q y0 s U H _ I h) λv j ⟨x,i,t,l,n⟩=>?_;refine ZY (p y0 j U i _ t n) λu g ⟨y,c,r,k,m⟩=>?_;exact o v u g x y c r l k m
def cH(g:ZH X (binaryOp op) r)(j:PE X a ta)(i:PE X b tb):PE X (.BinOp a op b pos) (Wv r ta tb):=by
 intro c s U H Q I h;exact wpAny_BinOp (SS j i I h λv u d x y l k f e q=>g c d U l x y v u Q k f e q)
def QR(f:Uz X (unaryOp op) r)(g:PE X a ta):PE X (.UnaryOp op a pos) (RE r ta):=by
 intro b s U H Q I h;exact UnaryOp_ (ZY (g b s U H _ I h) λv c ⟨x,j,i,d,e⟩=>f b c U j x v Q i d e)
def TY{C:Int->Int->Prop}{g:Int->Int->Int}(a:∀i j t u s (Q:Q2) (E:Q2),C i j->Q (.int (g i j) s.toks) {s with toks:=s.toks+1}->wpAny (model X.prog X.w) X.A (f (.int i t) (.int j u)) Q E s):ZH X f (rI C λi j=>.int (g i j)):=by
 intro k s U H x y v u Q I d c h;obtain⟨i,j,rfl,rfl,e,q⟩:=h;obtain⟨t,rfl⟩:=d;obtain⟨b,rfl⟩:=c;exact a i j t b s _ _ e ⟨.int _,H,I.tok _,⟨_,rfl⟩,q⟩
def NV{g:Int->Int->Int}(a:∀i j t u s (Q:Q2) (E:Q2),Q (.int (g i j) s.toks) {s with toks:=s.toks+1}->wpAny (model X.prog X.w) X.A (f (.int i t) (.int j u)) Q E s):ZH X f (W9 λi j=>.int (g i j)):=by
 intro e s U H x y v u Q I d c h;obtain⟨i,j,rfl,rfl,q⟩:=h;obtain⟨t,rfl⟩:=d;obtain⟨b,rfl⟩:=c;exact a i j t b s _ _ ⟨.int _,H,I.tok _,⟨_,rfl⟩,q⟩
def Ue{g:Int->Int->Bool}(a:∀i j t u s (Q:Q2) (E:Q2),Q (.bool (g i j)) s->wpAny (model X.prog X.w) X.A (f (.int i t) (.int j u)) Q E s):ZH X f (W9 λi j=>.bl (g i j)):=by
 intro e s U H x y v u Q I d c h;obtain⟨i,j,rfl,rfl,q⟩:=h;obtain⟨t,rfl⟩:=d;obtain⟨b,rfl⟩:=c;exact a i j t b s _ _ ⟨.bl _,H,I,rfl,q⟩
def NN(i j:Int):Prop:=0<j/\j<1073741824
def WX(i j:Int):Prop:=(-(2^64)<i/\i<2^64)\/(-(2^64)<j/\j<2^64)
def WX.ok{i j:Int}(h:WX i j):IntMulOk i j:=by
 rcases h with⟨b,a⟩|⟨b,a⟩
 .exact .of_left (intBits_le_64 b a)
 .exact .of_right (intBits_le_64 b a)
def Ma:ZH X (binaryOp .Add) (W9 λi j=>.int (i+j)):=NV λ_ _ _ _ _ _ _ q=>add_int q
def Wg:ZH X (binaryOp .Sub) (W9 λi j=>.int (i-j)):=NV λ_ _ _ _ _ _ _ q=>sub_int q
def We:ZH X (binaryOp .Mult) (rI WX λi j=>.int (i*j)):=TY λ_ _ _ _ _ _ _ a q=>mul_int q a.ok
def W2:ZH X (binaryOp .FloorDiv) (rI NN λi j=>.int (i / j)):=TY λi j _ _ _ _ _ a q=>by
 have c:=a.1
 have b:=a.2
 exact floordiv_int (by omega) (by rwa[Int.fdiv_eq_ediv_of_nonneg i (by (exact Int.le_of_lt (by assumption)))]) (.inl (PyProof.noPylong_small (by omega)))
def V9:ZH X (binaryOp .Mod) (rI (λ_ j=>0<j) λi j=>.int (i%j)):=TY λi j _ _ _ _ _ a q=>by
 exact mod_int' (by omega) (by rwa[Int.fmod_eq_emod_of_nonneg i (by (exact Int.le_of_lt (by assumption)))])
def EZ{f:Value->Sem Value}{g:Int->Int}(a:∀i t s (Q:Q2) (E:Q2),Q (.int (g i) s.toks) {s with toks:=s.toks+1}->wpAny (model X.prog X.w) X.A (f (.int i t)) Q E s):Uz X f (rU λi=>.int (g i)):=by
 intro c s U H x v Q I b h;obtain⟨i,rfl,q⟩:=h;obtain⟨t,rfl⟩:=b;exact a i t s _ _ ⟨.int _,H,I.tok _,⟨_,rfl⟩,q⟩
def JG:Uz X (unaryOp .USub) (rU λi=>.int (-i)):=EZ λ_ _ _ _ _ q=>neg_int q
end
noncomputable def UI:V->V->Bool
 |.non,.non=>true|.non,.int _=>true|.int _,.non=>true|.non,.bl _=>true|.bl _,.non=>true|.non,.str _=>true|.str _,.non=>true
 |.int _,.int _=>true|.bl _,.bl _=>true|.str _,.str _=>true|.byt _,.byt _=>true
 |.int _,.str _=>true|.str _,.int _=>true|.bl _,.str _=>true|.str _,.bl _=>true
 |_,_=>false
def MG:R2:=λx y H Q=>UI x y=true/\Q (.bl (decide (x=y))) H
def Ih:R2:=λx y H Q=>UI x y=true/\Q (.bl (!decide (x=y))) H
def Qx{i j:Int}:decide (V.int i=V.int j)=(i==j):=by
 rw[Gz];simp
def R4{i j:Bool}:decide (V.bl i=V.bl j)=(i==j):=by
 rw[Gz];simp
def Qw{i j:Str}:decide (V.str i=V.str j)=(i==j):=by
 rw[Gz];simp
def PM{i j:Array UInt8}:decide (V.byt i=V.byt j)=(i.toList==j.toList):=by
 rw[Gz];simp_all
section
variable {a b:Expr}
def cF{Q:VK}{k a:Bool}(I:Inv X y0 U H s)(q:Q (.bl k) H)(e:k=a):EP X y0 U Q (.bool a) s:=by
 subst e;exact⟨.bl k,H,I,rfl,q⟩
def Nc:ZH X (compareOp .Eq) MG:=by
 intro e s U H x y v u Q I d a h;obtain⟨c,q⟩:=h;cases x with
 |non=>
  cases d;cases y with
  |non=>cases a;exact PySem.EqNone.eq_none_none (cF I q (by simp))
  |bl j=>cases a;exact PySem.EqNone.eq_none_bool (cF I q (by simp))
  |int j=>obtain⟨b,rfl⟩:=a;exact PySem.EqNone.eq_none_int (cF I q (by simp))
  |str j=>obtain⟨b,rfl⟩:=a;exact PySem.EqNone.eq_none_str (cF I q (by simp))
  |_=>exact absurd (show false=true from c) Aq
 |bl i=>
  cases d;cases y with
  |non=>cases a;exact PySem.EqNone.eq_bool_none (cF I q (by simp))
  |bl j=>cases a;exact eq_bool (cF I q R4)
  |str j=>obtain⟨b,rfl⟩:=a;exact PySem.EqMixed.eq_bool_str (cF I q (by simp))
  |_=>exact absurd (show false=true from c) Aq
 |int i=>
  obtain⟨t,rfl⟩:=d;cases y with
  |non=>cases a;exact PySem.EqNone.eq_int_none (cF I q (by simp))
  |int j=>obtain⟨b,rfl⟩:=a;exact eq_int (cF I q Qx)
  |str j=>obtain⟨b,rfl⟩:=a;exact PySem.EqMixed.eq_int_str (cF I q (by simp))
  |_=>exact absurd (show false=true from c) Aq
 |str i=>
  obtain⟨t,rfl⟩:=d;cases y with
  |non=>cases a;exact PySem.EqNone.eq_str_none (cF I q (by simp))
  |bl j=>cases a;exact PySem.EqMixed.eq_str_bool (cF I q (by simp))
  |int j=>obtain⟨b,rfl⟩:=a;exact PySem.EqMixed.eq_str_int (cF I q (by simp))
  |str j=>obtain⟨b,rfl⟩:=a;exact eq_str (cF I q Qw)
  |_=>exact absurd (show false=true from c) Aq
 |byt i=>
  obtain⟨t,rfl⟩:=d;cases y with
  |byt j=>obtain⟨b,rfl⟩:=a;exact W.eq_bytes (cF I q PM)
  |_=>exact absurd (show false=true from c) Aq
 |_=>cases y<;>exact absurd (show false=true from c) Aq
def AL:ZH X (compareOp .NotEq) Ih:=by
 intro e s U H x y v u Q I d a h;obtain⟨c,q⟩:=h;cases x with
 |non=>
  cases d;cases y with
  |non=>cases a;exact PySem.EqNone.ne_none_none (cF I q (by simp))
  |bl j=>cases a;exact PySem.EqNone.ne_none_bool (cF I q (by simp))
  |int j=>obtain⟨b,rfl⟩:=a;exact PySem.EqNone.ne_none_int (cF I q (by simp))
  |str j=>obtain⟨b,rfl⟩:=a;exact PySem.EqNone.ne_none_str (cF I q (by simp))
  |_=>exact absurd (show false=true from c) Aq
 |bl i=>
  cases d;cases y with
  |non=>cases a;exact PySem.EqNone.ne_bool_none (cF I q (by simp))
  |bl j=>cases a;exact ne_bool (cF I q (Ds not R4))
  |str j=>obtain⟨b,rfl⟩:=a;exact PySem.EqMixed.ne_bool_str (cF I q (by simp))
  |_=>exact absurd (show false=true from c) Aq
 |int i=>
  obtain⟨t,rfl⟩:=d;cases y with
  |non=>cases a;exact PySem.EqNone.ne_int_none (cF I q (by simp))
  |int j=>obtain⟨b,rfl⟩:=a;exact ne_int (cF I q (Ds not Qx))
  |str j=>obtain⟨b,rfl⟩:=a;exact PySem.EqMixed.ne_int_str (cF I q (by simp))
  |_=>exact absurd (show false=true from c) Aq
 |str i=>
  obtain⟨t,rfl⟩:=d;cases y with
  |non=>cases a;exact PySem.EqNone.ne_str_none (cF I q (by simp))
  |bl j=>cases a;exact PySem.EqMixed.ne_str_bool (cF I q (by simp))
  |int j=>obtain⟨b,rfl⟩:=a;exact PySem.EqMixed.ne_str_int (cF I q (by simp))
  |str j=>obtain⟨b,rfl⟩:=a;exact ne_str (cF I q (Ds not Qw))
  |_=>exact absurd (show false=true from c) Aq
 |byt i=>
  obtain⟨t,rfl⟩:=d;cases y with
  |byt j=>obtain⟨b,rfl⟩:=a;exact W.ne_bytes (cF I q (Ds not PM))
  |_=>exact absurd (show false=true from c) Aq
 |_=>cases y<;>exact absurd (show false=true from c) Aq
def Ve:ZH X (compareOp .Lt) (W9 λi j=>.bl (decide (i<j))):=Ue λ_ _ _ _ _ _ _ q=>lt_int q
def U9:ZH X (compareOp .LtE) (W9 λi j=>.bl (decide (i<=j))):=Ue λ_ _ _ _ _ _ _ q=>le_int q
def Vf:ZH X (compareOp .Gt) (W9 λi j=>.bl (decide (j<i))):=Ue λ_ _ _ _ _ _ _ q=>gt_int q
def UR:ZH X (compareOp .GtE) (W9 λi j=>.bl (decide (j<=i))):=Ue λ_ _ _ _ _ _ _ q=>ge_int q
def Xy:ZH X (compareOp .In) (λx y H Q=>∃i j,x=.str i/\y=.str j/\Q (.bl (!(Builtin.Str.occurrences j i 0 j.length 1).isEmpty)) H):=by
 intro c s U H x y v u Q I b a h;obtain⟨i,j,rfl,rfl,q⟩:=h;obtain⟨t,rfl⟩:=b;obtain⟨d,rfl⟩:=a;exact in_str (cF I q rfl)
def Wo:ZH X (compareOp .Is) (λx y H Q=>y=.non/\Q (.bl (decide (x=.non))) H):=by
 intro c s U H x y v u Q I a b h;obtain⟨rfl,q⟩:=h;cases b;refine is_none_gen (cF I q ?_);cases x<;>first
  |(obtain⟨t,rfl⟩:=a;rfl)
def WV:ZH X (compareOp .IsNot) (λx y H Q=>y=.non/\Q (.bl (!decide (x=.non))) H):=by
 intro c s U H x y v u Q I a b h;obtain⟨rfl,q⟩:=h;cases b;refine isnot_none_gen (cF I q ?_);cases x<;>first
  |(obtain⟨t,rfl⟩:=a;rfl)
def Yf:ZH X (compareOp .NotIn) (λx y H Q=>∃i j,x=.str i/\y=.str j/\Q (.bl (!(!(Builtin.Str.occurrences j i 0 j.length 1).isEmpty))) H):=by
 intro c s U H x y v u Q I b a h;obtain⟨i,j,rfl,rfl,q⟩:=h;obtain⟨t,rfl⟩:=b;obtain⟨d,rfl⟩:=a;exact notIn_str (cF I q rfl)
def aZ(b:Expr){op:CmpOp}(h:op≠.In:=by decide)(a:op≠.NotIn:=by decide):behindInMarks op b=false:=by
 have d:(op==CmpOp.In)=false:=by grind
 have c:(op==CmpOp.NotIn)=false:=by grind
 cases b<;>simp[behindInMarks,d,c]
def cZ(g:ZH X (compareOp op) r)(k:PE X a ta)(j:PE X b tb)(i:behindInMarks op b=false):PE X (.Compare a [op] [b] pos) (Wv r ta tb):=by
 intro c s U H Q I h;exact wpAny_Compare1 (SS k j I h λv u d x y m l f e q=>g c d U m x y v u Q l f e q) i
def Po(K:W.Frag)(x:V)(H:Hp)(k:Bool):Prop:=
 match x with
 |.non=>k=false
 |.bl b=>k=b
 |.int i=>k=(i != 0)
 |.str y=>y.length<=sizeLine/\k=((y.length:Int) != 0)
 |.byt y=>y.size<=sizeLine/\k=((y.size:Int) != 0)
 |.ref p=>(∃a,Y6 K H p a/\k=!a.isEmpty)\/(∃a,YQ K H p a/\k=!a.isEmpty)\/∃c,H p=some (.dK c)/\k=!c.isEmpty
 |_=>False
def G5{b:Type}{a:List _}{vs:List (b×Value)}(r:KV a vs):(!vs.isEmpty)=!a.isEmpty:=by
 cases r<;>rfl
def wI(r:Vals xs its):(!its.toArray.isEmpty)=!xs.isEmpty:=by
 cases r<;>simp
def kW:(sizeLine:Nat)<2^63:=by rw[Hh];decide
def GL:CI X (λx H Q=>∃k,Po X.K x H k/\Q k H):=by
 intro B s U H x v Q I g h;obtain⟨k,e,q⟩:=h;have D:=kW
 have C:=Hh
 cases x with
 |non=>
  cases g;have a:=e
  subst a;exact truthy_none ⟨H,I,q⟩
 |bl b=>
  cases g;have a:=e
  subst a;exact Dz ⟨H,I,q⟩
 |int i=>
  obtain⟨t,rfl⟩:=g;have a:=e
  subst a;exact PySem.P.truthy_int ⟨H,I,q⟩
 |str y=>
  obtain⟨t,rfl⟩:=g;obtain⟨z,a⟩:y.length<=sizeLine/\k=((y.length:Int) != 0):=e;subst a;exact PySem.P.truthy_str (by ((try clear D);omega)) ⟨H,I.tok _,q⟩
 |byt y=>
  obtain⟨t,rfl⟩:=g;obtain⟨z,a⟩:y.size<=sizeLine/\k=((y.size:Int) != 0):=e;subst a;exact W.truthy_bytes (by (exact Nat.le_trans (by assumption) (by decide))) ⟨H,I.tok _,q⟩
 |ref p=>
  cases g;have a:=e
  rcases a with⟨f,j,a⟩|⟨f,j,a⟩|⟨c,j,a⟩
  .subst a;obtain⟨o,r,n,u⟩:=I.list j;have d:=r.length
   exact wpAny_truthy_list n.isList (by simp only[List.size_toArray];omega) ⟨H,I.tok _,by rwa[wI r]⟩
  .subst a;obtain⟨o,r,n,u⟩:=I.tuple j;have d:=r.length
   exact truthy_tuple n (by simp only[List.size_toArray];omega) ⟨H,I.tok _,by rwa[wI r]⟩
  .subst a;obtain⟨u,A,l,r,m⟩:c.length<=sizeLine/\(p==sysModules)=false/\∃l,KV c l/\s.heap.DictOf (bL X.prog X.w) p l:=I.Z8 p _ j;have d:=Paired.length r
   exact wpAny_truthy_dict A m (by omega) ⟨H,I.tok _,by rwa[G5 r]⟩
 |_=>exact(show False from e).elim
def CM:ZH X (binaryOp .Add) (λx y H Q=>∃i j,x=.str i/\y=.str j/\i.length+j.length<=sizeLine/\Q (.str (i++j)) H):=by
 intro e s U H x y v u Q I c b h;obtain⟨i,j,rfl,rfl,d,q⟩:=h;obtain⟨t,rfl⟩:=c;obtain⟨a,rfl⟩:=b;exact add_str (λa f=>⟨.str _,H,I.tok _,⟨_,rfl⟩,q⟩) d
def dL{x:V}(r:Vals [x] us):∃u,us=[u]/\RelV x u:=by
 cases r with
 |cons b a=>cases a;exact⟨_,rfl,b⟩
def Um{x y:V}(r:Vals [x,y] us):∃u a,us=[u,a]/\RelV x u/\RelV y a:=by
 cases r with
 |cons e d=>
  cases d with
  |cons c b=>cases b;exact⟨_,_,rfl,e,c⟩
def XC:ZU X (.type "int") (λa H Q=>(∃i,a=[.int i]/\Q (.int i) H)\/∃k,a=[.bl k]/\Q (.int (if k then 1 else 0)) H):=by
 intro c s U H a d Q I r h;rcases h with⟨i,rfl,q⟩|⟨k,rfl,q⟩
 .obtain⟨u,rfl,t,rfl⟩:=dL r;exact call_int_int ⟨.int i,H,I,⟨_,rfl⟩,q⟩
 .obtain⟨u,rfl,b⟩:=dL r;cases b;exact call_int_bool ⟨.int _,H,I.tok _,⟨_,rfl⟩,q⟩
def Yd:ZU X (.type "str") (λa H Q=>∃i,a=[.int i]/\i.natAbs.log2<1920/\Q (.str (toString i)) H):=by
 intro c s U H a d Q I r h;obtain⟨i,rfl,b,q⟩:=h;obtain⟨u,rfl,t,rfl⟩:=dL r;exact PySem.P.str_of_int b ⟨.str _,H,I.tok _,⟨_,rfl⟩,q⟩
def KP(K:W.Frag)(x:V)(H:Hp)(n:Nat):Prop:=
 match x with
 |.str y=>y.length<=sizeLine/\n=y.length
 |.byt y=>y.size<=sizeLine/\n=y.size
 |.ref p=>(∃a,Y6 K H p a/\n=a.length)\/∃a,YQ K H p a/\n=a.length
 |_=>False
def Xt:ZU X (.builtin "len") (λa H Q=>∃x n,a=[x]/\KP X.K x H n/\Q (.int n) H):=by
 intro m s U H a o Q I r h;obtain⟨x,n,rfl,e,q⟩:=h;obtain⟨u,rfl,d⟩:=dL r;have w:=kW
 have v:=Hh
 cases x with
 |str y=>
  obtain⟨t,rfl⟩:=d;obtain⟨l,c⟩:y.length<=sizeLine/\n=y.length:=e;subst c;exact len_str (by ((try clear w);omega)) ⟨.int _,H,I.tok _,⟨_,rfl⟩,q⟩
 |byt y=>
  obtain⟨t,rfl⟩:=d;obtain⟨l,c⟩:y.size<=sizeLine/\n=y.size:=e;subst c;exact W.len_bytes (by (exact Nat.le_trans (by assumption) (by decide))) ⟨.int _,H,I.tok _,⟨_,rfl⟩,q⟩
 |ref p=>
  cases d;have c:=e
  rcases c with⟨a,j,c⟩|⟨a,j,c⟩
  .subst c;obtain⟨i,f,g,k⟩:=I.list j;have b:=f.length
   exact Calls.call_len_list g.isList (by simp only[List.size_toArray];omega) ⟨.int a.length,H,I.tok _,⟨_,by simp only[List.size_toArray];rw[b]⟩,q⟩
  .subst c;obtain⟨i,f,g,k⟩:=I.tuple j;have b:=f.length
   exact len_tuple g (by simp only[List.size_toArray];omega) ⟨.int a.length,H,I.tok _,⟨_,by simp only[List.size_toArray];rw[b]⟩,q⟩
 |_=>exact(show False from e).elim
end
structure XU (h:Heap) (x dx C:Addr) (mA:Str->Option Value):Prop where
 obj:h.get? x=some (W.instObj C dx)
 ns:h.Ns1 dx mA
 ne:dx≠x
def zX{f:Q6}(n:h.Ns1 dx f):∃d,h.get? dx=some d/\∀b,W.lookIn b d=some (f b):=by
 obtain⟨o,g,r,j,m,l,_,k⟩:=n;refine⟨o,j,λb=>?_⟩;have e:=k b
 unfold nsFind findBy at e;rw[<-Array.find?_toList]at e;unfold W.lookIn;rw[m];dsimp only;split
 .rename_i y q
  rw[q]at e;exact Ds some e
 .rename_i q
  rw[q]at e;have a:g.toList.any (·.refKey)=false:=by
   rw[List.any_eq_false];intro y i;obtain⟨z,t,c⟩:=l y (Array.mem_toList_iff.mp i);simp[DictEntry.refKey,c]
  grind
def XU.look{x:Addr}{c:Q6}(I:XU h x dx C c):∃b,W.InstAt h x (W.instObj C dx) C (some b)/\∀a,W.lookIn a b=some (c a):=
 let ⟨b,d,e⟩:=zX I.ns
 ⟨b,⟨I.obj,rfl,rfl,d⟩,e⟩
section
variable {prog:Program} {x f:Addr} {mA:Q6} {name:Str} {v:Value}
def Kx{a:Bool}(X:K.In s.heap)(I:XU s.heap x dx C mA)(f:W.plainGet K C name=true)(e:W.hasDictIn K C=true)(g:W.findIn K (.ref C) name=some none)(c:mA name=some v)(b:W.handedIn v=true)(h:Q v {s with toks:=s.toks+1}):wpAny (model prog w) A (getAttr (.ref x) name a) Q E s:=by
 obtain⟨i,J,d⟩:=I.look;exact W.get_value X J (W.plainGet_of f).1 (W.findObj_own e g rfl (by rw[d,c])) b h
def Dl{Q:Value×List Value->Shared->Prop}(X:K.In s.heap)(I:XU s.heap x dx C mA)(a:W.plainGet K C name=true)(g:W.findIn K (.ref C) name=some (some (.ref f)))(d:W.isFn K (.ref f)=true)(c:mA name=none)(h:Q (.ref f,[.ref x]) s):wpAny (model prog w) A (getMethod (.ref x) name pl) Q E s:=by
 obtain⟨b,J,e⟩:=I.look;exact W.method_fn X J (W.plainGet_of a).1 (W.plainGet_of a).2 g (Fj.mp d) (by show (W.lookIn name b).map _=some false;rw[e,c];rfl) h
def BI{Q:Unit->Shared->Prop}(X:K.In s.heap)(I:XU s.heap x dx C mA)(hs:W.findIn K (.ref C) "__setattr__"=some (some (.builtin "object.__setattr__")))(n:W.plainOver K C=true)(m:W.takerIn K C name=some none)(o:W.hasDictIn K C=true)(l:PySem.Within mA ns)(hsz:ns.length<=sizeLine)(h:∀e,XU e x dx C (λy=>if y=name then some v else mA y)->Heap.SameBut dx s.heap e->Q () {s with heap:=e,toks:=s.toks+2}):wpAny (model prog w) A (setAttr (.ref x) name v) Q E s:=by
 obtain⟨u,J,B⟩:=I.look;refine W.set_plain X J hs (W.osa_open (s:={s with toks:=s.toks+1}) (r:=none) X J n m λb=>?_)
 obtain⟨D,p,i⟩:=W.any_some o;have k:=I.obj
 refine Ad (Ap (Ad (Ad (wpAny_loadPart k (Ad (W.Looks.here (s:={s with toks:=s.toks+1}) (W.looks_clsIn X p) ?_))))))
 rw[i];refine Ap (a:=some dx) (Ad (Ap (Ad ?_)));refine wpAny_nsSet1 (s:={s with toks:=s.toks+1}) I.ns λe d c=>?_
 obtain⟨z,q,t,f,g,j⟩:=d.count (PySem.Within.cons name v l);refine Ad (wpAny_lookBehind f (by rw[g];exact pastItsLine_dict (Cd j (by grind))) ?_)
 exact Ap (h _ ⟨(c.2 _ (Ne.symm I.ne)).trans I.obj,d,I.ne⟩ c)
def K5{vs:List Value}(X:K.In s.heap)(b:W.makesIn K C=true)(c:W.findIn K (.ref C) "__init__"=some (some (.ref f)))(e:W.typeIn K (.ref f)=some (.type "function"))(h:codeAny (model prog w) (A.under (.builtin "type.__call__" ⟨.ref C::vs,kw⟩)) (.call (.ref f) ⟨.ref (s.heap.objs.size+1)::vs,kw⟩) (W.InitBack (s.heap.objs.size+1) R)
 {s with heap:=(s.heap.push W.emptyDict).push (W.instObj C s.heap.objs.size)}):codeAny (model prog w) A (.call (.ref C) ⟨vs,kw⟩) R s:=by
 exact W.make_core (W.makes_of X b) (W.looks_findIn X c) (λa=>W.bind_fn X a e) (.inl rfl) h
end
noncomputable def fZ(f:Str)(v:V):List (Str×V)->List (Str×V)
 |[]=>[(f,v)]
 |(g,x)::r=>if g=f then (g,v)::r else (g,x)::fZ f v r
def tS(f g:Str)(v:V):∀c,(fZ f v c).lookup g=if g=f then some v else c.lookup g
 |[]=>by
  show List.lookup g [_]=_
  grind
 |(k,x)::r=>by
  have d:=tS f g v r
  rw[show fZ f v ((k,x)::r)=(if k=f then (k,v)::r else (k,x)::fZ f v r) from rfl]
  grind
def sT(f:Str)(v:V):∀b,f∈(fZ f v b).map (·.1)/\∀g,g∈b.map (·.1)->g∈(fZ f v b).map (·.1)
 |[]=>⟨by simp[fZ],λg h=>by simp at h⟩
 |(k,x)::r=>by
  obtain⟨d,c⟩:=sT f v r;rw[show fZ f v _=(if k=f then _::r else _::fZ f v r) from rfl]
  grind
def tO(f:Str)(v:V):∀b,(fZ f v b).length<=b.length+1
 |[]=>by simp[fZ]
 |(k,x)::r=>by
  have c:=tO f v r
  rw[show fZ f v _=(if k=f then _::r else _::fZ f v r) from rfl]
  grind
def Zj.some_of{o:Option Value}(r:Zj (some v) o):∃u,o=some u/\RelV v u:=by
 cases o with
 |none=>exact(show False from r).elim
 |some u=>exact⟨u,rfl,r⟩
def Zj.none_of{o:Option Value}(r:Zj none o):o=none:=by
 cases o with
 |none=>rfl
 |some u=>exact(show False from r).elim
def Mh(r:RelV v u):W.handedIn u=true:=by
 cases v with
 |non=>cases (show u=Value.none from r);rfl
 |bl b=>cases (show u=Value.bool b from r);rfl
 |int i=>obtain⟨t,e⟩:=(show ∃t,u=Value.int i t from r);cases e;rfl
 |str x=>obtain⟨t,e⟩:=(show ∃t,u=Value.str x t from r);cases e;rfl
 |byt b=>obtain⟨t,e⟩:=(show ∃t,u=Value.bytes b t from r);cases e;rfl
 |flt b=>obtain⟨t,e⟩:=(show ∃t,u=Value.float b t from r);cases e;rfl
 |ref a=>cases (show u=Value.ref a from r);rfl
 |ty n=>cases (show u=Value.type n from r);rfl
section
variable {fs:List (Str×V)}
def Td(c:Y_ P w H h)(e:H a=some (.ins C dx fs)):∃b,XU h a dx C b/\(∀f,Zj (fs.lookup f) (b f))/\PySem.Within b (fs.map (·.1))/\fs.length<=1000/\H dx=some (.own a):=by
 obtain⟨d,z,i,g,b,n,r,q⟩:=(show ZW P w H h a _ from c a _ e);exact⟨b,⟨g,n,i⟩,r,q,z,d⟩
end
structure Yc (K:W.Frag) (C:Addr):Prop where
 pg:W.plainGet K C Str.empty=true
 hd:W.hasDictIn K C=true
 po:W.plainOver K C=true
 sa:W.findIn K (.ref C) "__setattr__"=some (some (.builtin "object.__setattr__"))
def Yc.get(c:Yc K C)(f:Str):W.plainGet K C f=true:=c.pg
def Y8(K:W.Frag)(C:Addr)(f:Str):Prop:=W.findIn K (.ref C) f=some none
def Y8.US{f:Str}(n:Y8 K C f):W.takerIn K C f=some none:=by
 unfold W.takerIn;rw[show W.findIn K _ f=some none from n];rfl
structure Meth (K:W.Frag) (C:Addr) (m:Str) (f:Addr):Prop where
 at_:W.findIn K (.ref C) m=some (some (.ref f))
 fn:W.isFn K (.ref f)=true
 kp:W.keepIn K (.ref f)=true
section
variable {fs:List (Str×V)} {f:Str}
def II{b:Bool}(I:Inv X y0 U H s)(e:H a=some (.ins C dx fs))(c:Yc X.K C)(n:Y8 X.K C f)(l:fs.lookup f=some v)(h:∀u d,Inv X y0 U H d->RelV v u->Q u d):wpAny (model X.prog X.w) A (getAttr (.ref a) f b) Q E s:=by
 obtain⟨i,O,r,_,_,_⟩:=Td I.Z8 e;obtain⟨u,j,g⟩:=Zj.some_of   (by rw[<-l];exact r f)
 exact Kx I.Y2 O (c.get f) c.hd n j (Mh g) (h u _ (I.tok _) g)
def lL{g:Addr}{Q:Value×List Value->Shared->Prop}(I:Inv X y0 U H s)(e:H a=some (.ins C dx fs))(c:Yc X.K C)(k:Meth X.K C m g)(l:fs.lookup m=none)(h:Q (.ref g,[.ref a]) s):wpAny (model X.prog X.w) A (getMethod (.ref a) m pl) Q E s:=by
 obtain⟨b,O,r,_,_,_⟩:=Td I.Z8 e;have d:=Zj.none_of (by rw[<-l];exact r m)
 exact Dl I.Y2 O (c.get m) k.at_ k.fn d h
def BH{Q:Unit->Shared->Prop}(I:Inv X y0 U H s)(e:H a=some (.ins C dx fs))(c:Yc X.K C)(n:Y8 X.K C f)(J:fs.length<1000)(p:RelV y u)(h:∀j,Inv X y0 U (upd H a (.ins C dx (fZ f y fs))) j->Q () j):wpAny (model X.prog X.w) A (setAttr (.ref a) f u) Q E s:=by
 obtain⟨k,O,r,i,_,l⟩:=Td I.Z8 e;have t:(fs.map (·.1)).length<=sizeLine:=by rw[Ac,Hh];(exact Nat.le_trans (by assumption) (by decide))
 refine BI I.Y2 O c.sa c.po n.US c.hd i t λF d m=>h _ ?_;have B:∃o,F.get? dx=some o:=let ⟨o,_,_,G,_⟩:=d.ns;⟨o,G⟩
 refine I.write (x:=a) (e:=dx) (by rw[e];exact True.intro) (.inr l) (λb q D z=>(m.2 b D).trans z) B ?_
 refine⟨by rw[aK O.ne];exact l,?_,O.ne,d.obj,_,d.ns,λg=>?_,λg v=>?_⟩
 .have:=tO f y fs;((try clear t);omega)
 .show Zj ((fZ f y fs).lookup g) (if g=f then some u else k g)
  rw[tS];by_cases q:g=f
  .rw[if_pos q,if_pos q];exact p
  .rw[if_neg q,if_neg q];exact r g
 .by_cases q:g=f
  .rw[q];exact(sT f y fs).1
  .refine(sT f y fs).2 g (i g λz=>v ?_);show (if g=f then some u else k g)=none
   rw[if_neg q];exact z
def Inv.made(I:Inv X y0 U H s):Inv X y0 U (upd (upd H s.heap.objs.size (.own (s.heap.objs.size+1))) (s.heap.objs.size+1) (.ins C s.heap.objs.size []))
 {s with heap:=(s.heap.push W.emptyDict).push (W.instObj C s.heap.objs.size)}:=by
 have d:(s.heap.push W.emptyDict).get? s.heap.objs.size=some W.emptyDict:=Au s.heap rfl
 have j:((s.heap.push W.emptyDict).push (W.instObj C s.heap.objs.size)).get? (s.heap.objs.size+1)=some (W.instObj C s.heap.objs.size):=by
  have:=Au (s.heap.push W.emptyDict) (o:=W.instObj C s.heap.objs.size) rfl
  simp_all
 have i:(s.heap.push W.emptyDict).Ns s.heap.objs.size _:=⟨W.emptyDict,#[],_,d,rfl,(λe g=>absurd g (by simp)),λ_=>rfl⟩
 have k:=I.laid  (o:=.own (s.heap.objs.size+1)) (h':=s.heap.push W.emptyDict) (t':=s.toks) (λb u q=>Af _ q) (Ai _) ⟨_,d⟩
 refine k.laid (a:=s.heap.objs.size+1) (o:=.ins C s.heap.objs.size []) (t':=s.toks) (λb u q=>Af _ q) (Nat.le_of_eq (Fq _ _)) ?_;have c:s.heap.objs.size≠s.heap.objs.size+1:=Bb (Nat.lt_succ_self _)
 refine⟨by rw[aK c,aG],Do _,c,j,λ_=>none,(Heap.Ns1.of_empty i).at λo q=>Af _ q,λ_=>True.intro,λy f=>absurd rfl f⟩
def O6{a:Env}{f:Str}(c:attributeBase e f a (eval e a)=eval e a)(h:wpAny (model prog w) A (eval e a) (λo b=>wpAny (model prog w) A (getAttr o f true) Q E b) E s):wpAny (model prog w) A (eval (.Attribute e f pos) a) Q E s:=
 Attribute_any_ h (by rw[arm_eval_Attribute,c])
end
def Rx(K:W.Frag)(d:TE)(f:Str):TE:=λU H Q=>d U H λx c=>∃a C e b v,x=.ref a/\c a=some (.ins C e b)/\Yc K C/\Y8 K C f/\b.lookup f=some v/\Q v c
def RL(K:W.Frag)(g e:TE)(f:Str):TS:=λD U H=>e U H λy h=>g U h λx d=>∃a C c b,x=.ref a/\d a=some (.ins C c b)/\Yc K C/\Y8 K C f/\b.length<1000/\
 D.nx U (upd d a (.ins C c (fZ f y b)))
section
variable {o value:Expr} {f:Str} {pos':Pos} {tv:TE}
def fN(he:PE X e ta)(hb:attributeBase e f X.env (eval e X.env)=eval e X.env):PE X (.Attribute e f pos) (Rx X.K ta f):=by
 intro y0 s U H Q I h;refine O6 hb (ZY (he y0 s U H _ I h) λu s1 ⟨x,H1,I1,rx,a,C,dx,fs,v,ex,ea,c,n,l,q⟩=>?_);subst ex;obtain rfl:u=Value.ref a:=rx;exact II I1 ea c n l λu' s2 I2 ru=>⟨v,H1,I2,ru,q⟩
def jR(ha:PE X o ta)(hv:PE X value tv)(hs:swapsWith value (some (.Attribute o f pos')) pos.line X.env=pure false):PS X (.Assign [.Attribute o f pos'] value pos) (RL X.K ta tv f):=by
 intro y0 s U H D I h;refine plainObj_wpAny_Assign_Attribute (ZY (hv y0 s U H _ I h) λu s1 ⟨y,H1,I1,ry,q⟩=>ZY (ha y0 s1 U H1 _ I1 q) λov s2 ⟨x,H2,I2,rx,a,C,dx,fs,ex,ea,c,n,l,q2⟩=>?_) hs;subst ex;obtain rfl:ov=Value.ref a:=rx;exact BH I2 ea c n l ry λs3 I3=>⟨U,_,I3,q2⟩
def zu{args:List Expr}(he:PE X e te)(I:Inv X y0 U H s)(h:te U H λx H1=>∃a C dx fs g,x=.ref a/\H1 a=some (.ins C dx fs)/\Yc X.K C/\Meth X.K C m g/\fs.lookup m=none/\
 ∀s1,Inv X y0 U H1 s1->wpAny (model X.prog X.w) X.A (callWith pos (.ref g) [.ref a] (backTo pos (starEach args X.env)) (backToKw pos (keywordEach [] X.env))) Q X.xe s1)(ht:eval (.Call (.Attribute e m apos) args [] pos) X.env=(do
 let ov <-eval e X.env
 standAt apos.atName
 let (f,first) <-holding [ov] (getMethod ov m pl)
 callWith pos f first (backTo pos (starEach args X.env)) (backToKw pos (keywordEach [] X.env)))):wpAny (model X.prog X.w) X.A (eval (.Call (.Attribute e m apos) args [] pos) X.env) Q X.xe s:=by
 refine Fb (pl:=pl) (ZY (he y0 s U H _ I h) λu s1 ⟨x,H1,I1,rx,a,C,dx,fs,g,ex,ea,c,k,l,q⟩=>?_) ht;subst ex;obtain rfl:u=Value.ref a:=rx;exact lL I1 ea c k l (q s1 I1)
end
structure Z4 (k:Nat) (A:Around):Prop where
 hd:A.handled=none
 dp:A.depth+3*k+5<recursionLimit
 un:A.units+16*k+200<cLine
def Z4.mono(r:Z4 k A)(h:j<=k):Z4 j A:=⟨r.hd,by have:=r.dp;omega,by have:=r.un;omega⟩
def Z4.deeper(r:Z4 (k+1) A)(a:Env):Z4 k (A.deeper a):=
 ⟨r.hd,by have:=r.dp;show A.depth+1+3*k+5<_;omega,by have:=r.un;show A.units+3+16*k+200<_;omega⟩
def Lz:(A.under (.builtin "type.__call__" ⟨.ref C::us,kw⟩)).depth=A.depth+1:=by
 first|rfl|simp
def CS:(A.under (.builtin "type.__call__" ⟨.ref C::us,kw⟩)).units=A.units+1:=by
 first|rfl|simp
def Z4.make(r:Z4 (k+1) A)(C:Addr)(us:List Value)(a:List _):Z4 k (A.under (.builtin "type.__call__" ⟨.ref C::us,a⟩)):=
 ⟨r.hd,by have:=r.dp;rw[Lz];omega,by have:=r.un;rw[CS];omega⟩
def Z4.depth(r:Z4 k A):A.depth<recursionLimit:=by have:=r.dp;omega
def Z4.units(r:Z4 k A):A.units+64<cLine:=by have:=r.un;omega
def Z4.ZF(r:Z4 k A):A.units<cLine:=by have:=r.un;omega
def VS:TA:=λ_ H Q=>Q [] H
def xJ(c:TE)(b:TA):TA:=λU H Q=>c U H λx e=>b U e λa d=>Q (x::a) d
section
variable {X:Cx} {e:Expr} {es:List Expr} {te:TE} {t:TA} {pos:Pos}
def aD:PA X [] VS:=λ_ _ _ _ H Q I h=>Calls.spliced_nil ⟨[],H,I,.nil,h⟩
def aA(l:PE X e te)(k:PA X es t)(hs:starEach (e::es) X.env=(false,eval e X.env)::starEach es X.env:=by rfl):PA X (e::es) (xJ te t):=by
 intro a b s U H Q I h;rw[hs]
 refine Calls.spliced_cons (ZY (l b s U H _ I h) λu d ⟨x,p,n,g,j⟩=>?_);exact ZY (k a b d U p _ n j) λq r ⟨c,o,m,f,i⟩=>⟨x::c,o,m,.cons g f,i⟩
def RZ(t:TA):TE:=λU H Q=>t U H λa b=>a.length<=sizeLine/\∀p,b p=none->Q (.ref p) (upd b p (.tup a))
def SG(t:TA):TE:=λU H Q=>t U H λa b=>a.length<=sizeLine/\∀p,b p=none->Q (.ref p) (upd b p (.lst a))
def gA(h:PA X es t):PE X (.Tuple es x1 pos) (RZ t):=by
 intro f s U H Q I j;refine wpAny_Tuple_spliced (ZY (h pos f s U H _ I j) λi a ⟨g,d,c,r,z,q⟩=>⟨by rwa[<-r.length],?_⟩)
 have k:=c.Z8.fresh (Ai _)
 refine⟨.ref a.heap.objs.size,upd d a.heap.objs.size _,c.laid  (λb u e=>Af _ e) (Ai _) ?_,rfl,q _ k⟩;exact⟨z,i,r,⟨_,Au _ rfl,rfl,_,rfl⟩⟩
def bI(h:PA X es t):PE X (.List es pos) (SG t):=by
 intro f s U H Q I j;refine wpAny_List_spliced (ZY (h pos f s U H _ I j) λi a ⟨g,d,c,r,z,q⟩=>⟨by rwa[<-r.length],?_⟩)
 have k:=c.Z8.fresh (Ai _)
 refine⟨.ref a.heap.objs.size,upd d a.heap.objs.size _,c.laid  (λb u e=>Af _ e) (Ai _) ?_,rfl,q _ k⟩;exact⟨z,i,0,r,Au _ rfl⟩
end
abbrev Sp:=List V->Hp->VK->XK->Prop
abbrev XZ:=List Env->Hp->Shared->XK->Value->Shared->Prop
structure XT (P:Program) (w:World) (K:W.Frag) (mg:Str->Option Value) (base:Heap) (A:Around) (outer:List Env) (s:Shared) (H:Hp):Prop where
 frames:A.frames=some outer
 mod:Mod K mg base
 bs:∀b o,base.get? b=some o->s.heap.get? b=some o/\H b=none
 XF:base.objs.size<=s.heap.objs.size
 Zf:s.heap.FunFrames base outer
 Xc:∀b∈YV outer,H b=none
 Z8:Y_ P w H s.heap
 bare:AllBare s.gens
def CE(a:List Env)(P:Program)(w:World)(H:Hp)(s:Shared)(Q:VK)(u:Value)(s':Shared):Prop:=
 ∃v b,s'.os=s.os/\AllBare s'.gens/\Un (YV a) [] H b s.heap s'.heap/\Y_ P w b s'.heap/\RelV v u/\Q v b
def CR(CX:XZ)(a:List Env)(P:Program)(w:World)(H:Hp)(s:Shared)(Q:VK)(E:XK)(r:Result)(s':Shared):Prop:=
 match r with
 |.ok (.ret u)=>CE a P w H s Q u s'
 |.ok _=>False
 |.error e=>CX a H s E e s'
structure Z9 (P:Program) (w:World) (K:W.Frag) (mg:Str->Option Value) (base:Heap) (CX:XZ) (k:Nat) (f:Addr) (fd:FuncData) (ps:List Str) (sp:Sp):Prop where
 len:∀vs H Q E,sp vs H Q E->vs.length=ps.length
 run:∀(A:Around) (outer:List Env) (s:Shared) (H:Hp) (args:Args) (us:List Value) (vs:List V) (Q:VK) (E:XK),Z4 k A->XT P w K mg base A outer s H->BindsTo s fd args (ps.zip us)->Vals vs us->sp vs H Q E->
  codeAny (model P w) A (.call (.ref f) args) (CR CX outer P w H s Q E) s
def XT.make{c:Q6}{b:Heap}{a:List Env}(e:XT P w K c b A a s H)(C:Addr)(us:List Value)(d:List _):XT P w K c b (A.under (.builtin "type.__call__" ⟨.ref C::us,d⟩)) a s H:=⟨by first|exact e.frames|(simpa [Around.under,Code.envs,Code.isFrame,pushEnvs]using e.frames),e.mod,e.bs,e.XF,e.Zf,e.Xc,e.Z8,e.bare⟩
section
variable {s':Shared}
def Inv.W3(I:Inv X y0 U H s):XT X.prog X.w X.K X.mg X.base X.A X.stack s H:=
 ⟨I.ok.frames,I.ok.mod,I.bs,Cd I.ok.XF I.sz,I.stack,I.YY,I.Z8,I.bare⟩
def Inv.after{Q:VK}(I:Inv X y0 U H s)(h:CE X.stack X.prog X.w H s Q u s'):EP X y0 U Q u s':=by
 obtain⟨v,k,i,a,f,e,r,q⟩:=h;obtain⟨j,g,d,t,c⟩:=s';obtain rfl:c=s.os:=i;exact⟨v,k,I.call      f e a (λb z=>absurd z (by simp)),r,q⟩
end
def Up(sp:Sp)(a:List V)(E:XK)(t:TA):TE:=λU H Q=>t U H λb c=>sp (b++a) c Q E
def UX(C:Addr)(m:Str)(sp:Sp)(b:List V)(E:XK)(f:TE)(t:TA):TE:=λU H Q=>f U H λx d=>∃a g c,x=.ref a/\d a=some (.ins C g c)/\c.lookup m=none/\
 t U d λe h=>sp (x::(e++b)) h Q E
def SH(C:Addr)(sp:Sp)(b:List V)(E:XK)(t:TA):TE:=λU H Q=>t U H λd c=>∀x a,c x=none->c a=none->a≠x->
 sp (.ref x::(d++b)) (upd (upd c a (.own x)) x (.ins C a [])) (λv e=>v=.non/\Q (.ref x) e) E
def Binds(K:W.Frag)(b:FuncData)(ps:List Str)(ds:List Value):Prop:=
 ∀s a,K.In s.heap->(a++ds).length=ps.length->BindsTo s b ⟨a,[]⟩ (ps.zip (a++ds))
def Binds.all(h:∀a,a.length=ps.length->bindArgs c ⟨a,[]⟩=pure (ps.zip a)):Binds K c ps []:=λs a _ b=>by
 rw[Bt]at b ⊢;exact .of_eq (h a b)
def iJ(CX:XZ)(X:Cx)(E:XK):Prop:=∀b (U:St) H s e a,Inv X b U H s->CX X.stack H s E e a->X.xe e a
section
variable {CX:XZ} {f:Addr} {fd:FuncData} {sp:Sp} {dvs:List V} {ds:List Value} {E:XK} {m:Str} {p apos:Pos} {o:Expr}
def SE{Q:VK}{us:List Value}{vs:List V}(F:Z9 X.prog X.w X.K X.mg X.base CX k f fd ps sp)(g:Z4 k X.A)(l:Binds X.K fd ps ds)(j:Vals dvs ds)(d:iJ CX X E)(I:Inv X y0 U H s)(r:Vals vs us)(h:sp (vs++dvs) H Q E):wpAny (model X.prog X.w) X.A (call (.ref f) us) (EP X y0 U Q) X.xe s:=by
 have b:=r.append j
 have i:(us++ds).length=ps.length:=by rw[<-b.length];exact F.len _ _ _ _ h
 refine Fk (Ff (F.run X.A X.stack s H ⟨us,[]⟩ _ _ Q E g I.W3 (l s us I.Y2 i) b h) λr c a=>?_);cases r with
 |error e=>exact d y0 U H s e c I a
 |ok m=>
  cases m with
  |ret u=>exact I.after a
  |next=>exact False.elim a
  |brk=>exact False.elim a
  |cont=>exact False.elim a
def NX(F:Z9 X.prog X.w X.K X.mg X.base CX k f fd ps sp)(i:Z4 k X.A)(m:Gl X x)(j:X.mg x=some (.ref f))(l:W.keepIn X.K (.ref f)=true)(u:Binds X.K fd ps ds)(o:Vals dvs ds)(g:iJ CX X E)(v:PA X (e::es) t)(b:(x==("__debug__" : Str))=false:=by decide)(n:starEach (e::es) X.env=(false,eval e X.env)::starEach es X.env:=by rfl)(a:(backTo pos (starEach es X.env)).any (·.1)=false:=by rfl):PE X (.Call (.Name x p) (e::es) [] pos) (Up sp dvs E t):=by
 intro d s U H Q I h;refine Dv (lB I m j ?_ b);refine Fy  I.ok.mod.WE l (ZY (v pos d s U H _ I h) λz B ⟨y,C,c,r,q⟩=>⟨c.Y2,?_⟩) n a;exact SE F i u o g c r q
def IK{pl:Sem Bool}(he:PE X o ta)(c:Yc X.K C)(hm:Meth X.K C m f)(F:Z9 X.prog X.w X.K X.mg X.base CX k f fd ps sp)(hr:Z4 k X.A)(hb:Binds X.K fd ps ds)(hd:Vals dvs ds)(hx:iJ CX X E)(ha:PA X (e::es) t)(hst:starEach (e::es) X.env=(false,eval e X.env)::starEach es X.env:=by rfl)(hpl:(backTo pos (starEach es X.env)).any (·.1)=false:=by rfl)(ht:eval (.Call (.Attribute o m apos) (e::es) [] pos) X.env=(do
 let ov <-eval o X.env
 standAt apos.atName
 let (f,first) <-holding [ov] (getMethod ov m pl)
 callWith pos f first (backTo pos (starEach (e::es) X.env)) (backToKw pos (keywordEach [] X.env))):=by rfl):PE X (.Call (.Attribute o m apos) (e::es) [] pos) (UX C m sp dvs E ta t):=by
 intro y0 s U H Q I h;refine Fb  (ZY (he y0 s U H _ I h) λu s1 ⟨x,H1,I1,rx,a,dx,fs,ex,ea,l,q⟩=>?_) ht;subst ex;obtain rfl:u=Value.ref a:=rx;refine lL I1 ea c hm l ?_;refine Fy   I.ok.mod.WE hm.kp (ZY (ha pos y0 s1 U H1 _ I1 q) λus s2 ⟨vs,H2,I2,r,q2⟩=>⟨I2.Y2,?_⟩) hst hpl
 exact SE  (vs:=.ref a::vs) F hr hb hd hx I2 (.cons rfl r) q2
def BS{pl:Sem Bool}(he:PE X o ta)(c:Yc X.K C)(hm:Meth X.K C m f)(F:Z9 X.prog X.w X.K X.mg X.base CX k f fd ps sp)(hr:Z4 k X.A)(hb:Binds X.K fd ps ds)(hd:Vals dvs ds)(hx:iJ CX X E)(ht:eval (.Call (.Attribute o m apos) [] [] pos) X.env=(do
 let ov <-eval o X.env
 standAt apos.atName
 let (f,first) <-holding [ov] (getMethod ov m pl)
 callWith pos f first (backTo pos (starEach [] X.env)) (backToKw pos (keywordEach [] X.env))):=by rfl):PE X (.Call (.Attribute o m apos) [] [] pos) (UX C m sp dvs E ta VS):=by
 intro y0 s U H Q I h;refine Fb  (ZY (he y0 s U H _ I h) λu s1 ⟨x,H1,I1,rx,a,dx,fs,ex,ea,l,q⟩=>?_) ht;subst ex;obtain rfl:u=Value.ref a:=rx;refine lL I1 ea c hm l ?_;exact W.callWith_K0  I1.Y2 hm.kp (SE  (vs:=[.ref a]) F hr hb hd hx I1 (.cons rfl .nil) q)
structure Mk (K:W.Frag) (C f:Addr):Prop where
 makes:W.makesIn K C=true
 init:W.findIn K (.ref C) "__init__"=some (some (.ref f))
 fn:W.isFn K (.ref f)=true
 kp:W.keepIn K (.ref C)=true
def IS{Q:VK}{vs:List V}(M:Mk X.K C f)(F:Z9 X.prog X.w X.K X.mg X.base CX k f fd ps sp)(n:Z4 (k+1) X.A)(q:Binds X.K fd ps ds)(p:Vals dvs ds)(m:iJ CX X E)(I:Inv X y0 U H s)(r:Vals vs us)(h:∀x b,H x=none->H b=none->b≠x->sp (.ref x::(vs++dvs)) (upd (upd H b (.own x)) x (.ins C b [])) (λv B=>v=.non/\Q (.ref x) B) E):wpAny (model X.prog X.w) X.A (call (.ref C) us) (EP X y0 U Q) X.xe s:=by
 have g:=h (s.heap.objs.size+1) s.heap.objs.size (I.Z8.fresh (Hv _)) (I.Z8.fresh (Ai _)) (Bb (Nat.lt_succ_self _))
 have c:=Inv.made (C:=C) I
 have d:Vals (V.ref (s.heap.objs.size+1)::(vs++dvs)) (Value.ref (s.heap.objs.size+1)::(us++ds)):=.cons rfl (r.append p)
 have o:(Value.ref (s.heap.objs.size+1)::us++ds).length=ps.length:=by
  have e:=d.length
  rw[F.len _ _ _ _ g]at e;exact e.symm
 refine Fk (K5 (f:=f) I.Y2 M.makes M.init (Fj.mp M.fn) (Ff (F.run _ X.stack _ _ ⟨Value.ref (s.heap.objs.size+1)::us,[]⟩ (Value.ref (s.heap.objs.size+1)::(us++ds)) _ _ E (n.make C us [])
  (c.W3.make C us []) (q _ (Value.ref (s.heap.objs.size+1)::us) c.Y2 o) d g) λr i a=>?_))
 cases r with
 |error e=>exact m y0 U _ _ e i c a
 |ok t=>
  cases t with
  |ret u=>
   obtain⟨v,D,z,j,y,l⟩:=c.after a;subst y;exact⟨j,⟨V.ref (s.heap.objs.size+1),D,z,rfl,l⟩⟩
  |next=>exact False.elim a
  |brk=>exact False.elim a
  |cont=>exact False.elim a
def MQ(M:Mk X.K C f)(F:Z9 X.prog X.w X.K X.mg X.base CX k f fd ps sp)(i:Z4 (k+1) X.A)(l:Gl X x)(j:X.mg x=some (.ref C))(o:Binds X.K fd ps ds)(n:Vals dvs ds)(g:iJ CX X E)(u:PA X (e::es) t)(b:(x==("__debug__" : Str))=false:=by decide)(m:starEach (e::es) X.env=(false,eval e X.env)::starEach es X.env:=by rfl)(a:(backTo pos (starEach es X.env)).any (·.1)=false:=by rfl):PE X (.Call (.Name x p) (e::es) [] pos) (SH C sp dvs E t):=by
 intro d s U H Q I h;refine Dv (lB I l j ?_ b);refine Fy (h₀:=X.base) I.ok.mod.WE M.kp (ZY (u pos d s U H _ I h) λy z ⟨v,B,c,r,q⟩=>⟨c.Y2,?_⟩) m a;exact IS M F i o n g c r q
end
def PK(X:Cx)(b:List Keyword)(t:TA):Prop:=
 ∀a (c:Q4) s (U:St) H Q,Inv X c U H s->t U H Q->wpAny (model X.prog X.w) X.A (evalAll ((backToKw a (keywordEach b X.env)).map (·.2))) (AP X c U Q) X.xe s
section
variable {kpos:Pos} {kws:List Keyword} {nm:Option Str}
def UO:PK X [] VS:=λ_ _ _ _ H Q I h=>wpAny_evalAll_nil ⟨[],H,I,.nil,h⟩
def vD(l:PE X e te)(k:PK X kws t):PK X (⟨nm,e,kpos⟩::kws) (xJ te t):=by
 intro a b s U H Q I h
 refine wpAny_evalAll_cons (Ad (ZY (l b s U H _ I h) λu d ⟨x,p,n,g,j⟩=>Ad (Ew (Ap ?_))));exact ZY (k a b d U p _ n j) λq r ⟨c,o,m,f,i⟩=>⟨x::c,o,m,.cons g f,i⟩
end
structure Z_ (N P:List Str) (sc:Scope):Prop where
 kind:sc.kind=.function
 co:sc.isCoroutine=false
 gen:sc.isGenerator=false
 nd:N.Nodup
 pre:N.take P.length=P
 par:∀x∈P,sc.names.lookup x=some .local\/sc.names.lookup x=some .cell
 Wb:∀y∈sc.names,y.2≠.free
def P4:∀ {a:List _} {m:Q6},(∀v,(x,v)∉a)->bindL kindOf a m x=m x
 |[],_,_=>rfl
 |(n,v)::r,m,h=>by
  unfold bindL;rw[P4 λw b=>h w (Am _ b)];split
  .have:x≠n:=by rintro rfl;exact h v Al
   simp[this]
  .rfl
def Qy:∀ {a:List _} {m:Q6},(∀v,(x,v)∉a)->bindC kindOf a m x=m x
 |[],_,_=>rfl
 |(n,v)::r,m,h=>by
  unfold bindC;rw[Qy λw b=>h w (Am _ b)];split
  .rfl
  grind
def Rj{v:Value}:∀ {P:List Str} {a:List Value} {i:Nat} {m:Q6},P.Nodup->P[i]?=some x->a[i]?=some v->kindOf x=some .local->
 bindL kindOf (P.zip a) m x=some v
 |[],_,_,_,_,h,_,_=>by simp at h
 |_::_,[],_,_,_,_,h,_=>by simp at h
 |p::P,w::a,0,m,nd,h1,h2,hk=>by
  simp at h1 h2;subst h1;subst h2;show bindL kindOf ((p,w)::P.zip a) m p=_
  unfold bindL;rw[P4 λv b=>(Gc.mp nd).1 (List.of_mem_zip b).1,if_pos hk];simp
 |p::P,w::a,i+1,m,nd,h1,h2,hk=>by
  show bindL kindOf ((p,w)::P.zip a) m x=_
  unfold bindL;exact Rj (i:=i) (List.nodup_cons.mp nd).2 (by simpa using h1) (by simpa using h2) hk
def N4{v:Value}:∀ {P:List Str} {a:List Value} {i:Nat} {m:Q6},P.Nodup->P[i]?=some x->a[i]?=some v->kindOf x≠some .local->
 bindC kindOf (P.zip a) m x=some v
 |[],_,_,_,_,h,_,_=>by simp at h
 |_::_,[],_,_,_,_,h,_=>by simp at h
 |p::P,w::a,0,m,nd,h1,h2,hk=>by
  simp at h1 h2;subst h1;subst h2;show bindC kindOf ((p,w)::P.zip a) m p=_
  unfold bindC;rw[Qy λv b=>(Gc.mp nd).1 (List.of_mem_zip b).1,if_neg hk];simp
 |p::P,w::a,i+1,m,nd,h1,h2,hk=>by
  show bindC kindOf ((p,w)::P.zip a) m x=_
  unfold bindC;exact N4 (i:=i) (List.nodup_cons.mp nd).2 (by simpa using h1) (by simpa using h2) hk
noncomputable def oS(N:List Str)(vs:List V):St:=vs.map some++List.replicate (N.length-vs.length) none
noncomputable def iQ(CX:XZ)(P:Program)(w:World)(K:W.Frag)(mg:Str->Option Value)(base:Heap)(N:List Str)(qual:Str)(scope:Scope)(f:Addr)(cd:Value)(A:Around)(outer:List Env)(s:Shared)(H:Hp)(E:XK):Cx where
 prog:=P
 w:=w
 K:=K
 mg:=mg
 base:=base
 A:=A.deeper (envOfC qual scope s.heap.objs.size f cd)
 N:=N
 s₀:=s
 H₀:=H
 env:=envOfC qual scope s.heap.objs.size f cd
 outer:=outer
 stack:=envOfC qual scope s.heap.objs.size f cd::outer
 ex:=[]
 calm:=true
 fn:=λ_=>true
 pn:=[]
 xe:=λe s'=>wpAny (model P w) (A.deeper (envOfC qual scope s.heap.objs.size f cd)) (leaving (envOfC qual scope s.heap.objs.size f cd) e) (λ_ a=>CX outer H s E e a) (λb a=>CX outer H s E b a) s'
def cE{a:Scope}{n:Nat}(h:a.names.lookup x=some .cell):∃c,(cellsFrom n a.names []).lookup x=some c:=by
 have q:=W.cellsFrom_some a.names n [] (.inl h)
 exact Dt.mp q
def Kc{J:Q6}{m:Heap}{j:Str}{d:Scope}{f:Addr}{I:Value}{g:List Env}{L:Shared}{E:XK}{vs:List V}(S:Z_ N ps d)(T:A.handled=none)(o:XT P w K J m A g s H)(X:vs.length=ps.length)(r:Vals vs us)(x:InCallC s s.heap.objs.size (bindL (envOfC j d s.heap.objs.size f I).kindOf (ps.zip us) λ_=>none) (cellsFrom (s.heap.objs.size+1) d.names []) (bindC (envOfC j d s.heap.objs.size f I).kindOf (ps.zip us) λ_=>none) L):Inv (iQ CX P w K J m N j d f I A g s H E) [] (oS N vs) H L:=by
 have R:ps.length<=N.length:=by have:=Ds List.length S.pre;rw[Bi]at this;((try clear X);omega)
 obtain⟨G,W,rfl,O⟩:=x.done;have t:∀b,b∉(iQ CX P w K J m N j d f I A g s H E).ex:=λb z=>absurd (show b∈([]:List Addr) from z) (by simp)
 refine⟨⟨o.mod,S.kind,rfl,rfl,Ai _,λy z c G l=>?_,λy B=>?_,λy c _ h=>?_,λ_=>T,Around.frames_deeper o.frames,.inr ⟨rfl,rfl⟩,λb z=>absurd z (t b),o.bs,o.XF,λb _ _=>t b,λb z=>absurd z (t b),o.Zf,o.Xc⟩,
  rfl,o.bare,Un.kept O,⟨_,x.toInCall.ns,λi y v G l Y=>?_⟩,λy c h=>⟨_,x.cell y c h⟩,o.Z8.fresh (Nat.le_refl _),λy c h=>?_,λp D=>absurd (show p∈([]:Q4) from D) (by simp),o.Z8.kept O,?_⟩
 .exact name_of_addr x.apart (De G) (De l)
 .have B:=B
  rcases B with B|B
  .exact cE B
  .exact absurd rfl (S.Wb _ (De B))
 .exact Nat.le_of_lt (x.above y c (De h))
 .have F:i<vs.length:=by
   unfold oS at l;by_cases F:i<vs.length
   .exact F
   .rw[List.getElem?_append_right (by simpa using F)]at l
    rw[List.getElem?_replicate]at l;split at l<;>cases l
  have U:vs[i]?=some v:=by
   unfold oS at l;rw[List.getElem?_append_left (by simpa using F),List.getElem?_map]at l
   cases e:vs[i]? with
   |none=>rw[e]at l;cases l
   |some a=>rw[e]at l;cases l;rfl
  obtain⟨u,M,Q⟩:=r.get U;have D:ps[i]?=some y:=by
   rw[<-S.pre,List.getElem?_take_of_lt (by ((try clear R);omega))];exact G
  have C:ps.Nodup:=by rw[<-S.pre];exact S.nd.sublist (List.take_sublist _ _)
  refine⟨u,Q,?_⟩;rcases S.par y (As D) with k|k
  .exact .inl ⟨k,Rj C D M k⟩
  .obtain⟨c,e⟩:=cE (n:=s.heap.objs.size+1) k;refine .inr ⟨.inl k,c,e,?_⟩;have q:=x.cell y c e
   rw[N4 C D M (by show d.names.lookup y≠_;rw[k];decide)]at q
   exact q
 .exact o.Z8.fresh (Nat.le_of_lt (x.above y c (De h)))
 .unfold oS;show _=N.length
  rw[Aj,Ac,Ca];omega
def S4{L:Q6}{i:Heap}{f:Addr}{name d:Str}{h:Arguments}{a:Scope}{dV kV G pm g ct oc:Value}{an od:Option Addr}{T:Array (Option Value)}{sp:Sp}(lk:K.lookup f=some ⟨oc,od,.func (W.fnOf name d h body a dV kV G pm an g ct),T⟩)(Z:W.codeIn K g d=true)(S:Z_ N ps a)(B:∀j H Q E,sp j H Q E->j.length=ps.length)(p:∀(A:Around) (c:List Env) (s:Shared) (H:Hp) (j:List V) (Q:VK) (E:XK),Z4 k (A.deeper (envOfC d a s.heap.objs.size f g))->sp j H Q E->
 ∃t,Yg (iQ CX P w K L i N d a f g A c s H E) body t/\t {nx:=λ_ l=>Q .non l,rt:=Q} (oS N j) H):Z9 P w K L i CX (k+1) f (W.fnOf name d h body a dV kV G pm an g ct) ps sp:=by
 refine⟨B,λA c s H a1 us j Q E Y F hb r C=>?_⟩;have hl:=B _ _ _ _ C
 have KX:K.In s.heap:=F.mod.WE.keeps λb o e=>(F.bs b o e).1
 have X:s.heap.NoLimit:=F.mod.nolimit.keeps λb o e=>(F.bs b o e).1
 have m:∀y∈ps.zip us,a.names.lookup y.1=some .local\/(a.names.lookup y.1=some .cell/\((cellsFrom (s.heap.objs.size+1) a.names []).lookup y.1).isSome=true):=λ⟨n,v⟩ hy=>by
  rcases S.par n (List.of_mem_zip hy).1 with q|q
  .exact .inl q
  .exact .inr ⟨q,W.cellsFrom_some _ _ _ (.inl q)⟩
 refine codeAny_call_function Y.depth (KX _ _ lk) rfl S.co S.gen rfl (W.codeRec_of KX Z) (hb _ _ _ _ ?_);refine wpAny_newFunctionEnv_cells S.kind m λa2 he s1 x=>?_;subst he;refine⟨X.keeps x.toInCall.keep,codeAny_func ?_⟩;obtain⟨t,ht,hq⟩:=p A c s H j Q E (Y.deeper _) C;have I:Inv (iQ CX P w K L i N d a f g A c s H E) [] (oS N j) H s1:=Kc S Y.hd F hl r x
 refine Ck (ht [] s1 (oS N j) H _ I hq) (λfl O z=>?_) λe O z=>z;have D:∀ {M:St} {l:Hp} {v:V} {u:Value},Inv (iQ CX P w K L i N d a f g A c s H E) [] M l O->RelV v u->Q v l->CE c P w H s Q u O:=
  fun {M l v u} J R q=>⟨v,l,J.os,J.bare,J.base,J.Z8,R,q⟩
 cases fl with
 |ret u=>
  obtain⟨v,M,l,J,R,q⟩:=z;exact D J R q
 |next=>
  obtain⟨M,l,J,q⟩:=z;exact D (v:=V.non) (u:=Value.none) J rfl q
 |brk=>
  obtain⟨_,_,_,q⟩:=z;exact False.elim q
 |cont=>
  obtain⟨_,_,_,q⟩:=z;exact False.elim q
section
variable {p:Pos} {id T:String} {r:List V->Hp->VK->Prop}
def UG(r:List V->Hp->VK->Prop)(t:TA):TE:=λU H Q=>t U H λa b=>r a b Q
def aP(q:ZU X (.builtin id) r)(n:Gl X x)(m:X.mg x=none)(k:bootBuiltins x=some (.builtin id))(u:PA X (e::es) t)(l:x≠"__name__" := by decide)(b:(x==("__debug__" : Str))=false:=by decide)(o:starEach (e::es) X.env=(false,eval e X.env)::starEach es X.env:=by rfl)(a:(backTo pos (starEach es X.env)).any (·.1)=false:=by rfl):PE X (.Call (.Name x p) (e::es) [] pos) (UG r t):=by
 intro c s U H Q I h;refine Dv (iF I n m k ?_ l b);exact PyProof.Rows.callWith_builtin1 (ZY (u pos c s U H _ I h) λf g ⟨d,w,v,i,j⟩=>q c g U w d f Q v i j) o a
def cG(q:ZU X (.type T) r)(n:Gl X x)(m:X.mg x=none)(k:bootBuiltins x=some (.type T))(u:PA X (e::es) t)(l:x≠"__name__" := by decide)(b:(x==("__debug__" : Str))=false:=by decide)(o:starEach (e::es) X.env=(false,eval e X.env)::starEach es X.env:=by rfl)(a:(backTo pos (starEach es X.env)).any (·.1)=false:=by rfl):PE X (.Call (.Name x p) (e::es) [] pos) (UG r t):=by
 intro c s U H Q I h;refine Dv (iF I n m k ?_ l b);exact Dg (ZY (u pos c s U H _ I h) λf g ⟨d,w,v,i,j⟩=>q c g U w d f Q v i j) o a
end
end L2
namespace HT
open PySem PyProof.Rows
noncomputable def YM(n d:Nat):Option Int->Nat
 |none=>d
 |some v=>if v<0 then (v+(n:Int)).toNat else min v.toNat n
end HT
namespace L2
open PySem PySem.Spec PyProof.Rows
variable {H:Hp}{X:Cx}{its:List Value}{n:Nat}{y0:Q4}{s:Shared}{x:V}{xs:List V}{α:Type}{U:St}
abbrev TO:=St->Hp->(Option Int->Hp->Prop)->Prop
def PO(X:Cx)(e:Option Expr)(t:TO):Prop:=
 ∀(a:Q4) s (U:St) H Q,Inv X a U H s->t U H Q->
  wpAny (model X.prog X.w) X.A (evalPart e X.env) (λu c=>∃o b,Inv X a U b c/\IsPart u o/\Q o b) X.xe s
def OX:TO:=λ_ H Q=>Q none H
section
variable {e:Expr} {te:TE} {lo hi:Option Expr} {tl th:TO} {pos p2:Pos}
def nV:PO X none OX:=by
 intro a s U H Q I h;exact Ap ⟨none,H,I,.none,h⟩
def Xn(X:Cx)(r:V->Option Int->Option Int->Hp->VK->Prop):Prop:=
 ∀(a:Q4) s (U:St) H x v c b e f d Q,Inv X a U H s->RelV x v->s.heap.IsSliceOf d c b .none->IsPart c e->IsPart b f->r x e f H Q->
  ∃T id,typeLookup (.type T) "__getitem__"=pure (some (.builtin id))/\s.TypeIs v T/\wpAny (model X.prog X.w) X.A (getItem v (.ref d)) (EP X a U Q) X.xe s
def Xn.or(h:Xn X r)(h':Xn X i):Xn X (λx a b H Q=>r x a b H Q\/i x a b H Q):=by
 intro c s U H x v e d a b f Q I g l k j q;rcases q with q|q
 .exact h c s U H x v e d a b f Q I g l k j q
 .exact h' c s U H x v e d a b f Q I g l k j q
def NI(r:V->Option Int->Option Int->Hp->VK->Prop)(c:TE)(a b:TO):TE:=λU H Q=>c U H λx f=>a U f λl e=>b U e λu d=>r x l u d Q
def fR(C:Xn X r)(F:PE X e te)(D:PO X lo tl)(z:PO X hi th):PE X (.Subscript e (.Slice lo hi none p2) pos) (NI r te tl th):=by
 intro c s U H Q I h;refine Subscript_ (ZY (F c s U H _ I h) λv j ⟨x,O,M,k,o⟩=>?_);refine wpAny_Slice (ZY (D c j U O _ M o) λf i ⟨l,N,L,y,n⟩=>ZY (z c i U N _ L n) λd a ⟨u,g,K,p,m⟩=>?_);refine Ap ?_;have J:Inv X c U g {a with heap:=a.heap.push {cls:=.type "slice",data:=.fields #[f,d,.none]}}:=K.kept (t':=a.toks) λb P q=>Af _ q
 obtain⟨T,id,G,B,E⟩:=C c {a with heap:=a.heap.push {cls:=.type "slice",data:=.fields #[f,d,.none]}} U g x v f d l u a.heap.objs.size Q J k (Heap.IsSliceOf.new ..) y p m
 exact tail_any (ops:=[.ref a.heap.objs.size,v]) B G E (by with_unfolding_all rfl)
noncomputable def lU(xs:List V)(a b:Option Int):List V:=(xs.drop (HT.YM xs.length 0 a)).take (HT.YM xs.length xs.length b-HT.YM xs.length 0 a)
def FJ(xs:List V)(a b:Option Int):(lU xs a b).length<=xs.length:=by
 unfold lU;rw[Bi,Dx];omega
end
noncomputable def Xm(n:Nat)(i:Int):Option Nat:=if 0<=i then (if i<n then some i.toNat else none) else if -(n:Int)<=i then some (i+n).toNat else none
noncomputable def YJ(xs:List α)(i:Int):Option α:=(Xm xs.length i).bind λj=>xs[j]?
def QN(h:Xm n i=some j):seqIndex? i n=some j/\j<n/\-(n:Int)<=i/\i<n:=by
 unfold Xm at h;by_cases b:0<=i
 .rw[if_pos b]at h;by_cases a:i<n
  .rw[if_pos a]at h;have e:=Ay h
   exact⟨by rw[seqIndex_of b a,e],by omega,by ((try clear a e);omega),a⟩
  simp_all
 .rw[if_neg b]at h;by_cases a:-(n:Int)<=i
  .rw[if_pos a]at h;have e:=Ay h
   exact⟨by rw[seqIndex_neg (by ((try clear a e);omega)) a,e],by omega,a,by ((try clear e);omega)⟩
  .rw[if_neg a]at h;cases h
def Ss{xs:List α}{i:Int}{v:α}(h:YJ xs i=some v):∃j,seqIndex? i xs.length=some j/\xs[j]?=some v/\j<xs.length/\-(xs.length:Int)<=i/\i<xs.length:=by
 unfold YJ at h;cases e:Xm xs.length i with
 |none=>rw[e]at h;cases h
 |some j=>
  rw[e]at h;obtain⟨d,c,b,a⟩:=QN e;exact⟨j,d,h,c,b,a⟩
def aX{xs:List α}{j:Nat}{v:α}(h:xs[j]?=some v):YJ xs (j:Int)=some v:=by
 have a:=(Ag.mp h).1
 have e:Xm xs.length (j:Int)=some j:=by
  unfold Xm;simp_all
 unfold YJ;rwa[e]
def Jx(b:Expr):Prop:=∀o i,subscripted b false o i=operate [o,i] (getItem o i)
def Xz(X:Cx)(r:R2):Prop:=
 ∀b a (c:Q4) s (U:St) H x y v u Q,Inv X c U H s->RelV x v->RelV y u->r x y H Q->
  subscripted a false v u=operate [v,u] (getItem v u)->wpAny (model X.prog X.w) X.A (subscriptTail b a v u) (EP X c U Q) X.xe s
def Yu(X:Cx)(id:String)(r:V->List V->Hp->VK->Prop):Prop:=
 ∀(a:Q4) s (U:St) H x b v c Q,Inv X a U H s->RelV x v->Vals b c->r x b H Q->
  wpAny (model X.prog X.w) X.A (call (.builtin id) (v::c)) (EP X a U Q) X.xe s
section
variable {X:Cx} {a b:Expr} {ta tb:TE} {pos:Pos}
def Xz.or(h:Xz X r)(h':Xz X f):Xz X (λx y H Q=>r x y H Q\/f x y H Q):=by
 intro a b c s U H x y v u Q I e d q g;rcases q with q|q
 .exact h a b c s U H x y v u Q I e d q g
 .exact h' a b c s U H x y v u Q I e d q g
def bH(g:Xz X r)(j:PE X a ta)(i:PE X b tb)(hs:Jx b):PE X (.Subscript a b pos) (Wv r ta tb):=by
 intro c s U H Q I h;exact Subscript_ (SS j i I h λv u d x y l k f e q=>g a b c d U l x y v u Q k f e q (hs _ _))
def TU(K:W.Frag):R2:=λx y H Q=>∃p a i v,x=.ref p/\y=.int i/\Y6 K H p a/\YJ a i=some v/\Q v H
def O3(K:W.Frag):R2:=λx y H Q=>∃p a i v,x=.ref p/\y=.int i/\YQ K H p a/\YJ a i=some v/\Q v H
def RA:R2:=λx y H Q=>∃z i c,x=.str z/\y=.int i/\z.length<=sizeLine/\YJ z.cps.toList i=some c/\Q (.str ⟨#[c]⟩) H
def XM:Xz X (TU X.K):=by
 intro c d l s U H x y v u Q I C B h m;obtain⟨p,M,i,z,rfl,rfl,D,F,q⟩:=h;cases C;obtain⟨t,rfl⟩:=B;obtain⟨g,r,f,N⟩:=I.list D;obtain⟨j,b,L,P,J,G⟩:=Ss F;obtain⟨w,o,e⟩:=r.get L;have E:=r.length
 have O:=kW
 have a:EP X l U Q w s:=⟨z,H,I,e,q⟩
 by_cases n:0<=i
 .have k:i.toNat=j:=by
   rw[seqIndex_of n G]at b;exact Ay b
  exact item_listR f.isList n (by ((try clear J P k n);omega)) (by rw[k];simpa using o) a m
 .have k:(i+(g.toArray.size:Int)).toNat=j:=by
   rw[seqIndex_neg (by ((try clear E G J N O P);omega)) J]at b
   rw[Az,<-E];exact Ay b
  exact subscriptTail_builtinR (x:=w) f.isList.typeIs slot_list_getitem.lookup
   (wpAny_getItem_list_neg (Q:=λr A=>r=w/\EP X l U Q r A) f.isList (by ((try clear E G J N O P k);omega)) (by grind) (by ((try clear G P k n);omega)) (by rw[k];simpa using o) ⟨rfl,a⟩) m
def Wu:Xz X (O3 X.K):=by
 intro a b e s U H x y v u Q I l k h n;obtain⟨p,F,i,z,rfl,rfl,o,B,q⟩:=h;cases l;obtain⟨t,rfl⟩:=k;obtain⟨m,r,f,G⟩:=I.tuple o;obtain⟨j,D,C,N,M,L⟩:=Ss B;obtain⟨w,E,c⟩:=r.get C;have A:=r.length
 have J:=kW
 have d:EP X e U Q w s:=⟨z,H,I,c,q⟩
 exact subscriptTail_builtinR (x:=w) f.typeIs slot_tuple_getitem.lookup
  (getItem_tuple (j:=j) (Q:=λr g=>r=w/\EP X e U Q r g) f (by ((try clear L);omega)) (by ((try clear M);omega)) (by grind) (by simpa using E) ⟨rfl,d⟩) n
def MR:Xz X RA:=by
 intro a b w s U H x y v u Q I f e h g;obtain⟨z,i,c,rfl,rfl,B,l,q⟩:=h;obtain⟨t,rfl⟩:=f;obtain⟨A,rfl⟩:=e;obtain⟨j,d,o,D,n,m⟩:=Ss l;have k:z.cps.toList.length=z.length:=by simp[Str.length]
 rw[k]at d n m;have C:=kW
 exact tail_any (Hr s z t) slot_str_getitem.lookup (getItem_str  (by grind) (by rw[d];simpa using o) ⟨.str ⟨#[c]⟩,H,I.tok _,⟨_,rfl⟩,q⟩) g
def O9(K:W.Frag):R2:=λx y H Q=>TU K x y H Q\/O3 K x y H Q\/RA x y H Q
def Wh:Xz X (O9 X.K):=XM.or (Wu.or MR)
def KS(its:List Value)(n j:Nat)(u:Value):Obj.mapSeq (·.setIfInBounds j u) {cls:=.type "list",data:=.seq its.toArray n}={cls:=.type "list",data:=.seq (its.set j u).toArray n}:=by
 simp[Obj.mapSeq]
def Inv.lst(I:Inv X y0 U H s)(h:H p=some (.lst xs)):∃a n,Vals xs a/\s.heap.get? p=some {cls:=.type "list",data:=.seq a.toArray n}/\xs.length<=sizeLine:=by
 obtain⟨z,a,n,r,e⟩:=I.Z8 p _ h;exact⟨a,n,r,e,z⟩
def Inv.Ww{a:Nat}{f:Obj->Obj}(I:Inv X y0 U H s)(h:H p=some (.lst xs))(g:s.heap.get? p=some {cls:=.type "list",data:=.seq its.toArray n})(c:f {cls:=.type "list",data:=.seq its.toArray n}={cls:=.type "list",data:=.seq its'.toArray a})(r:Vals ys its')(d:ys.length<=sizeLine)(t:Nat):Inv X y0 U (upd H p (.lst ys)) {s with heap:=s.heap.update p f,toks:=t}:=by
 have e:(s.heap.update p f).get? p=some {cls:=.type "list",data:=.seq its'.toArray a}:=by
  rw[Ge f g (by rw[c]<;>rfl),c]
 refine I.write   (by rw[h];trivial) (.inl rfl) (λb u i q=>(Bz _ _ (Ne.symm i)).trans q) ⟨_,e⟩ ?_
 exact⟨d,its',a,r,e⟩
def P_:V->V->V->Hp->(Hp->Prop)->Prop:=λo i v H Q=>∃p a k j,o=.ref p/\i=.int k/\H p=some (.lst a)/\Xm a.length k=some j/\Q (upd H p (.lst (a.set j v)))
def mW:ON X P_:=by
 intro x s U H o i v E F u Q I A B z h;obtain⟨p,y,k,j,rfl,rfl,f,D,q⟩:=h;cases A;obtain⟨t,rfl⟩:=B;obtain⟨a,n,r,c,C⟩:=I.lst f;obtain⟨b,J,l,g⟩:=QN D;have d:=r.length
 have G:=kW
 have w:=
  I.Ww f c (KS a n j u) (r.set z j) (by rw[Dm];exact C) s.toks
 by_cases m:0<=k
 .have e:k.toNat=j:=by
   rw[seqIndex_of m g]at b;exact Ay b
  exact W.ki_setAt c m (by ((try clear J e l m);omega)) (by rw[Az,<-d];exact g) (by rw[e];exact⟨_,w,q⟩)
 .have e:(k+(a.toArray.size:Int)).toNat=j:=by
   rw[seqIndex_neg (by ((try clear C G J d g l);omega)) l]at b
   simp_all
  exact W.ki_setBack c (by ((try clear C G J d e g l);omega)) (by simp_all) (by ((try clear J e g m);omega)) (by rw[e];exact⟨_,w,q⟩)
def J4(a b:Option Int)(n:Nat):(sliceBounds a b none n).1=((HT.YM n 0 a:Nat):Int)/\(sliceBounds a b none n).2.1=((HT.YM n n b:Nat):Int)/\(sliceBounds a b none n).2.2=1:=by
 refine⟨?_,?_,rfl⟩
 .cases a with
  |none=>simp[sliceBounds,HT.YM]
  |some i=>
   simp only[sliceBounds,HT.YM,Option.getD_none,show (1:Int)>0 by decide,if_true]
   by_cases h:i<0
   .simp only[h,if_true]<;>omega
   .simp only[h,if_false]<;>omega
 .cases b with
  |none=>simp[sliceBounds,HT.YM]
  |some i=>
   simp only[sliceBounds,HT.YM,Option.getD_none,show (1:Int)>0 by decide,if_true]
   by_cases h:i<0
   .simp only[h,if_true]<;>omega
   .simp only[h,if_false]<;>omega
def zI(its:List Value)(a b:Option Int):slicePick its.toArray a b none=((its.drop (HT.YM its.length 0 a)).take (HT.YM its.length its.length b-HT.YM its.length 0 a)).toArray:=by
 obtain⟨e,d,c⟩:=J4 a b its.toArray.size;unfold slicePick;rw[e,d,c];simp only[sliceRange_one,pick_run,List.size_toArray]<;>rfl
def Pm(K:W.Frag):V->Option Int->Option Int->Hp->VK->Prop:=λx c d H Q=>∃a b,x=.ref a/\Y6 K H a b/\∀p,H p=none->Q (.ref p) (upd H p (.lst (lU b c d)))
def XI:Xn X (Pm X.K):=by
 intro u s U H x v y w e f z Q I i p k j h;obtain⟨a,c,rfl,n,q⟩:=h;cases i;obtain⟨l,r,g,m⟩:=I.list n;have d:=r.length
 refine⟨"list",_,slot_list_getitem.lookup,g.isList.typeIs,?_⟩;refine wpAny_getItem_list_slice g.isList p k j .none (by simp) ?_ (by grind)
 rw[zI,<-d];refine⟨.ref s.heap.objs.size,_,I.laid   (λb A q=>Af _ q) (Ai _) ?_,rfl,q _ (I.Z8.fresh (Ai _))⟩;exact⟨Cd (FJ c e f) m,_,0,(r.drop _).take _,Au _ rfl⟩
noncomputable def cQ:V->Bool
 |.non=>true
 |.bl _=>true
 |.int _=>true
 |.str _=>true
 |_=>false
noncomputable def X0:V->V->Bool
 |.non,.non=>true
 |.bl a,.bl b=>a==b
 |.bl a,.int b=>(if a then 1 else 0)==b
 |.int a,.bl b=>a==(if b then 1 else 0)
 |.int a,.int b=>a==b
 |.str a,.str b=>a==b
 |_,_=>false
def rY{s:Shared}{y:V}{u v:Value}(e:RelV y u)(c:RelV x v)(g:cQ y=true)(f:cQ x=true):SeqAt.EqAt A s u v (X0 y x):=by
 cases y with
 |non=>
  cases e;cases x with
  |non=>cases c;exact SeqAt.EqAt.same _
  |bl b=>cases c;exact SeqAt.EqAt.none_bool b
  |int b=>obtain⟨t,rfl⟩:=c;exact SeqAt.EqAt.none_int b t
  |str b=>obtain⟨t,rfl⟩:=c;exact SeqAt.EqAt.none_str b t
  |_=>exact absurd (show false=true from f) Aq
 |bl a=>
  cases e;cases x with
  |non=>cases c;exact SeqAt.EqAt.bool_none a
  |bl b=>cases c;exact SeqAt.EqAt.bool_bool a b
  |int b=>obtain⟨t,rfl⟩:=c;exact SeqAt.EqAt.bool_int a b t
  |str b=>obtain⟨t,rfl⟩:=c;exact SeqAt.EqAt.bool_str a b t
  |_=>exact absurd (show false=true from f) Aq
 |int a=>
  obtain⟨d,rfl⟩:=e;cases x with
  |non=>cases c;exact SeqAt.EqAt.int_none a d
  |bl b=>cases c;exact SeqAt.EqAt.int_bool a d b
  |int b=>obtain⟨t,rfl⟩:=c;exact SeqAt.EqAt.int_int a d b t
  |str b=>obtain⟨t,rfl⟩:=c;exact SeqAt.EqAt.int_str a d b t
  |_=>exact absurd (show false=true from f) Aq
 |str a=>
  obtain⟨d,rfl⟩:=e;cases x with
  |non=>cases c;exact SeqAt.EqAt.str_none a d
  |bl b=>cases c;exact SeqAt.EqAt.str_bool a d b
  |int b=>obtain⟨t,rfl⟩:=c;exact SeqAt.EqAt.str_int a d b t
  |str b=>obtain⟨t,rfl⟩:=c;exact SeqAt.EqAt.str_str a d b t
  |_=>exact absurd (show false=true from f) Aq
 |_=>exact absurd (show false=true from g) Aq
noncomputable def Vs(x:V)(u:Value):Bool:=match u with
 |.none=>X0 .non x
 |.bool b=>X0 (.bl b) x
 |.int i _=>X0 (.int i) x
 |.str z _=>X0 (.str z) x
 |_=>false
def Rg(r:RelV y u)(f:cQ y=true):Vs x u=X0 y x:=by
 cases y with
 |non=>cases r;rfl
 |bl b=>cases r;rfl
 |int i=>obtain⟨t,rfl⟩:=r;rfl
 |str z=>obtain⟨t,rfl⟩:=r;rfl
 |_=>exact absurd (show false=true from f) Aq
def SA:∀ {a:List V} {b:List Value},Vals a b->a.all cQ=true->b.any (Vs x)=a.any λy=>X0 y x
 |_,_,.nil,_=>rfl
 |y::a,u::b,.cons r t,f=>by
  rw[List.all_cons,Bj]at f;rw[Ht,Ht,Rg r f.1,SA t f.2]
def vL{v:Value}(d:RelV x v)(e:cQ x=true):∀ {b:List V} {c:List Value},Vals b c->b.all cQ=true->∀u∈c,SeqAt.EqAt A s u v (Vs x u)
 |_,_,.nil,_=>λu a=>by cases a
 |y::b,u::c,.cons r t,f=>λg a=>by
  rw[List.all_cons,Bj]at f;rcases Ba.mp a with rfl|a
  .rw[Rg r f.1];exact rY r d f.1 e
  .exact vL d e t f.2 g a
noncomputable def YK(x:V)(xs:List V):Bool:=xs.any λy=>X0 y x
def P9(K:W.Frag)(neg:Bool):R2:=λx y H Q=>∃p a,y=.ref p/\(Y6 K H p a\/YQ K H p a)/\cQ x=true/\a.all cQ=true/\Q (.bl (if neg then !YK x a else YK x a)) H
def Yq:ZH X (compareOp .In) (P9 X.K false):=by
 intro k s U H x y v u Q I f i h;obtain⟨p,l,rfl,b,g,c,q⟩:=h;cases i;rcases b with b|b
 .obtain⟨a,r,d,j⟩:=I.list b;refine SeqAt.in_listAt _ d.isList (λw e=>vL f g r c w (by simp_all)) ⟨.bl _,H,I,rfl,?_⟩
  rwa[show a.toArray.any _=a.any (Vs x) by simp,SA r c]
 .obtain⟨a,r,d,j⟩:=I.tuple b;refine SeqAt.in_tupleAt _ d (λw e=>vL f g r c w (by simpa using e)) ⟨.bl _,H,I,rfl,?_⟩
  rwa[show a.toArray.any _=a.any (Vs x) by simp,SA r c]
def IY:ZU X (.builtin "len") (λg H Q=>∃p b,g=[.ref p]/\(Y6 X.K H p b\/YQ X.K H p b)/\Q (.int b.length) H):=by
 intro k s U H g l Q I r h;obtain⟨p,b,rfl,c,q⟩:=h;obtain⟨u,rfl,i⟩:=dL r;cases i;have m:=kW
 rcases c with c|c
 .obtain⟨f,d,e,j⟩:=I.list c;have a:=d.length
  exact Calls.call_len_list e.isList (by simp only[List.size_toArray]<;>omega) ⟨.int b.length,H,I.tok _,⟨s.toks+1,by rw[List.size_toArray,a]⟩,q⟩
 .obtain⟨f,d,e,j⟩:=I.tuple c;have a:=d.length
  exact len_tuple e (by simp only[List.size_toArray]<;>omega) ⟨.int b.length,H,I.tok _,⟨s.toks+1,by rw[List.size_toArray,a]⟩,q⟩
def ZU.or(h:ZU X f r)(h':ZU X f e):ZU X f (λa H Q=>r a H Q\/e a H Q):=by
 intro b s U H a c Q I d q;rcases q with q|q
 .exact h b s U H a c Q I d q
 .exact h' b s U H a c Q I d q
def Yl:ZU X (.type "list") (λC H Q=>∃p f,C=[.ref p]/\(Y6 X.K H p f\/YQ X.K H p f)/\∀l,H l=none->Q (.ref l) (upd H l (.lst f))):=by
 intro E s U H C G Q I r h;obtain ⟨p,f,rfl,m,q⟩:=h;obtain ⟨u,rfl,F⟩:=dL r;cases F;have x:∀ a,Vals f a->f.length<=sizeLine->∀ d i,(∀ b D,s.heap.get? b=some D->d.get? b=some D)->
     d.get? s.heap.objs.size=some {cls:=.type "list",dict:=none,data:=.seq a.toArray i,slots:=#[]}->EP X E U Q (.ref s.heap.objs.size) {s with heap:=d}:=λa g k d i j e=>
  ⟨.ref s.heap.objs.size,_,I.laid (t':=s.toks) j (Ai _) (show ZW X.prog X.w _ d _ (.lst f) from⟨k,a,i,g,e⟩),rfl,q _ (I.Z8.fresh (Ai _))⟩
 rcases m with m|m
 .obtain⟨a,g,y,k⟩:=I.list m;have v:=g.length
  obtain⟨o,z,B,n,A⟩:=y.isList;exact call_list_seq p (.inl rfl) z B A (λd i j e=>x a g k d i j e) (by simp_all)
 .obtain⟨a,g,y,k⟩:=I.tuple m;have v:=g.length
  obtain⟨o,z,B,n,A⟩:=y;exact call_list_seq p (.inr rfl) z B A (λd i j e=>x a g k d i j e) (by simp only[List.size_toArray]<;>omega)
def Rm(K:W.Frag)(T:String)(x:V)(H:Hp):Prop:=match x with
 |.str _=>T="str"
 |.int _=>T="int"
 | .ref p=>(T="list"/\∃ b,Y6 K H p b)\/(T="tuple"/\∃ o,K.lookup p=some o/\o.cls=.type "tuple"/\o.dict=none)\/
     (T="dict"/\((∃a,H p=some (.dK a))\/∃a,H p=some (.dT a)))\/(T="set"/\∃S n,H p=some (.set S n))
 |_=>False
def Kl{v:Value}(I:Inv X y0 U H s)(r:RelV x v)(f:Rm X.K T x H):s.TypeIs v T/\∀a,v=.ref a->∃l,s.heap.get? a=some l/\l.dict=none:=by
 cases x with
 |str z=>
  obtain⟨t,rfl⟩:=r;cases (show T="str" from f);exact⟨Hr s z t,λ_ e=>nomatch e⟩
 |int i=>
  obtain⟨t,rfl⟩:=r;cases (show T="int" from f);exact⟨typeIs_int s i t,λ_ e=>nomatch e⟩
 |ref p=>
  cases r;rcases f with⟨rfl,w,q⟩|⟨rfl,o,b,u,h⟩|⟨rfl,b⟩|⟨rfl,S,n,b⟩
  .obtain⟨m,_,k,_⟩:=I.list q;refine⟨k.isList.typeIs,λa e=>?_⟩;cases e;obtain⟨o,n,e,c,h,_⟩:=k;exact⟨o,e,h⟩
  .refine⟨⟨o,I.Y2 p o b,u⟩,λa e=>?_⟩;cases e;exact⟨o,I.Y2 _ o b,h⟩
  .have z:∃ o,s.heap.get? p=some o/\o.ExactDict:=by
    rcases b with⟨g,b⟩|⟨g,b⟩
    .obtain⟨_,_,_,_,o,_,_,e,d,_⟩:=I.Z8 p _ b;exact⟨o,e,d⟩
    .obtain⟨_,_,_,_,o,_,_,e,d,_⟩:=I.Z8 p _ b;exact⟨o,e,d⟩
   obtain⟨o,e,d⟩:=z;refine⟨⟨o,e,d.1⟩,λa j=>?_⟩;cases j;exact⟨o,e,d.2.1⟩
  .obtain⟨o,_,_,_,e,d,_⟩:=I.Z8 p _ b;refine⟨⟨o,e,d.1⟩,λa j=>?_⟩;cases j;exact⟨o,e,d.2.1⟩
 |_=>exact False.elim f
variable {o e:Expr} {t:TA} {T:String} {r:V->List V->Hp->VK->Prop}
end
def QG(X:Cx)(id:String)(r:V->List V->Hp->VK->Prop):Prop:=
 ∀(a:Q4) s (U:St) H x b v c Q,Inv X a U H s->RelV x v->Vals b c->r x b H Q->
  wpAny (model X.prog X.w) X.A (call (.builtin id) (v::c)) (EP X a U Q) X.xe s
def Vals.one{x:V}{a:List Value}(h:Vals [x] a):∃u,a=[u]/\RelV x u:=by cases h with|cons r t=>cases t;exact⟨_,rfl,r⟩
def Vals.two{x y:V}{a:List Value}(h:Vals [x,y] a):∃u v,a=[u,v]/\RelV x u/\RelV y v:=by cases h with|cons r t=>obtain⟨v,rfl,q⟩:=Vals.one t;exact⟨_,_,rfl,r,q⟩
def Vals.rep(h:Vals xs us):∀k,Vals (List.replicate k xs).flatten (List.replicate k us).flatten
 |0=>.nil
 |k+1=>by
  exact Vals.append h (Vals.rep h k)
def R3(its:List Value):∀k a,
 List.foldl (λc b=>c++b) a.toArray (List.replicate k its.toArray)=(a++(List.replicate k its).flatten).toArray
 |0,a=>by simp
 |k+1,a=>by
  have e:a.toArray++its.toArray=(a++its).toArray:=by simp
  have d:(a++its)++(List.replicate k its).flatten=a++(List.replicate (k+1) its).flatten:=by
   rw[Df,Dh,Cw]
  rw[<-d,<-R3 its k _,<-e,Df,List.foldl_cons]
section
variable {l:Addr} {ys:List V}
def Inv.U4{f:Array Value->Array Value}{t':Nat}(I:Inv X y0 U H s)(h:H l=some (.lst xs))(e:s.heap.get? l=some {cls:=.type "list",data:=.seq its.toArray n})(d:f its.toArray=its'.toArray)(b:Vals ys its')(a:ys.length<=sizeLine):Inv X y0 U (upd H l (.lst ys)) {s with heap:=s.heap.update l (Obj.mapSeq f),toks:=t'}:=by
 have q:=PySem.IsL.update e f
 rw[d]at q;refine I.write   (by rw[h];exact trivial) (.inl rfl) (λi u g c=>(Bz s.heap _ (Ne.symm g)).trans c) ⟨_,q⟩ ?_
 exact⟨a,its',_,b,q⟩
def Inv.Xi{its:List Value}{t':Nat}(I:Inv X y0 U H s)(b:Vals ys its)(a:ys.length<=sizeLine):Inv X y0 U (upd H s.heap.objs.size (.lst ys)) {s with heap:=s.heap.push {cls:=.type "list",data:=.seq its.toArray},toks:=t'}:=
 I.laid (λ_ _ q=>Af _ q) (Ai _) ⟨a,its,0,b,Au _ rfl⟩
def Inv.fresh(I:Inv X y0 U H s):H s.heap.objs.size=none:=I.Z8.fresh (Ai _)
def Inv.Xx(I:Inv X y0 U H s)(b:H l=some (.lst xs)):xs.length<=sizeLine/\∃a n,Vals xs a/\xs.length=a.length/\s.heap.get? l=some {cls:=.type "list",data:=.seq a.toArray n}:=by
 obtain⟨z,a,n,r,e⟩:=I.Z8 l _ b;exact⟨z,a,n,r,r.length,e⟩
def Rt(h:n<=sizeLine):Builtin.List.listTooLong n=false:=by
 unfold Builtin.List.listTooLong;grind
end
def DS:V->List V->Hp->VK->Prop:=λx b H Q=>∃l a y,x=.ref l/\b=[y]/\H l=some (.lst a)/\a.length<sizeLine/\Q .non (upd H l (.lst (a++[y])))
def tF:QG X "list.append" DS:=by
 intro g s U H x j v k Q I c d h;obtain⟨l,i,y,rfl,rfl,b,m,q⟩:=h;cases c;obtain⟨u,rfl,f⟩:=d.one;obtain⟨z,a,n,r,o,e⟩:=I.Xx b;refine Fl F.slot_list_append ⟨_,e,rfl⟩ F.entry_list_append (F.args_list_append_2 _ _) (PySem.list_append l a.toArray n u (by grind)) ⟨e,?_⟩
 refine⟨.non,_,I.U4  b e (by simp) (r.append (.cons f .nil)) ?_,rfl,q⟩
 grind
def KG:V->List V->Hp->VK->Prop:=λx d H Q=>∃l b c a,x=.ref l/\d=[.ref b]/\H l=some (.lst c)/\H b=some (.lst a)/\c.length+a.length<=sizeLine/\Q .non (upd H l (.lst (c++a)))
def LK:QG X "list.extend" KG:=by
 intro B s U H x D v E Q I i j h;obtain⟨l,b,C,y,rfl,rfl,g,t,G,q⟩:=h;cases i;obtain⟨u,rfl,k⟩:=j.one;cases k;obtain⟨z,c,n,r,J,e⟩:=I.Xx g;obtain⟨A,a,o,m,p,w⟩:=I.Xx t;have f:c.toArray.size+a.toArray.size<=sizeLine:=by grind
 have d:¬(!c.toArray.isEmpty&&Builtin.List.listTooLong (c.toArray.size+a.toArray.size))=true:=by
  rw[Rt f,Bool.and_false];exact Aq
 refine Fl F.slot_list_extend ⟨_,e,rfl⟩ F.entry_list_extend (F.args_list_extend_2 _ _)
  (AutoSeq1.list_extend_list_list_0 l c.toArray n b a.toArray o d (by grind) (by (exact Nat.le_trans (by assumption) (by decide)))) ⟨e,w,?_⟩
 refine⟨.non,_,I.U4 (its':=c++a) g e (by simp) (r.append m) ?_,rfl,q⟩
 rw[Aj];(assumption)
def Mx:R2:=λx y H Q=>∃l b c a,x=.ref l/\y=.ref b/\H l=some (.lst c)/\H b=some (.lst a)/\c.length+a.length<=sizeLine/\∀p,H p=none->Q (.ref p) (upd H p (.lst (c++a)))
def BZ:ZH X (binaryOp .Add) Mx:=by
 intro A s U H x y v u Q I f d h;obtain⟨l,b,B,p,rfl,rfl,j,k,D,q⟩:=h;cases f;cases d;obtain⟨z,c,n,r,E,e⟩:=I.Xx j;obtain⟨w,a,C,g,i,o⟩:=I.Xx k;refine PySem.P.add_list e o ?_ (by simp_all)
 have m:c.toArray++a.toArray=(c++a).toArray:=by simp
 rw[m];exact⟨.ref _,_,I.Xi  (r.append g) (by rw[Aj];(assumption)),rfl,q _ I.fresh⟩
def G8:R2:=λx y H Q=>∃l k a,x=.ref l/\y=.int k/\H l=some (.lst a)/\-(2^63)<=k/\k<2^63/\a.length*k.toNat<=sizeLine/\
 ∀p,H p=none->Q (.ref p) (upd H p (.lst (List.replicate k.toNat a).flatten))
def CN(xs:List α)(k:Nat):(List.replicate k xs).flatten.length=k*xs.length:=by simp_all
def SX:ZH X (binaryOp .Mult) G8:=by
 intro K s U H x y v u Q I B A h;obtain⟨l,k,L,rfl,rfl,D,G,E,p,q⟩:=h;cases B;obtain⟨t,rfl⟩:=A;obtain⟨z,b,n,r,C,e⟩:=I.Xx D;have f:b.toArray.size*k.toNat<=sizeLine:=by rw[Az,<-C];exact p
 have i:¬b.toArray.size*k.toNat>(2^63-1) / 8:=by
  have:(sizeLine:Nat)<=(2^63-1) / 8:=by decide
  ((try clear C E G p z);omega)
 have g:¬(!Builtin.List.listFitsIndex k)=true:=by
  rw[fitsIndex_both G E];exact Aq
 have c:¬Builtin.List.listTooLong (b.toArray.size*k.toNat)=true:=by
  rw[Rt f];exact Aq
 have d:List.foldl (λo j=>o++j) #[] (List.replicate (if b.toArray.isEmpty=true then 0 else k.toNat) b.toArray)=(List.replicate k.toNat b).flatten.toArray:=by
  have J:=λm=>by
   have:=R3 b m []
   rw[List.nil_append]at this;exact this
  rw[J];cases b with
  |nil=>simp
  |cons a M=>rw[if_neg (by simp)]
 refine wpAny_binaryOp_repeat_ref (T := "list") (U := "int") (by decide) ⟨_,e,rfl⟩ (λw=>typeIs_int w k t) noFill_list_mul F.fills_int_mul F.slot_int_rmul repeat_list F.slot_int_index.lookup
  (Fl F.slot_int_rmul (typeIs_int s k t) F.entry_int_rmul (F.args_int_rmul_2 _ _) (int___rmul___int_list k t l b.toArray n)
   ⟨e,rfl,⟨_,e,rfl⟩,Fl F.slot_list_mul ⟨_,e,rfl⟩ F.entry_list_mul (F.args_list_mul_2 _ _) (AutoListH.list___mul___list_int_3 l b.toArray n k t g i c) ⟨e,?_⟩⟩)
 rw[d];exact⟨.ref _,_,I.Xi (t':=s.toks) (r.rep k.toNat) (by rw[CN,Nat.mul_comm];exact p),rfl,q _ I.fresh⟩
end L2
namespace Att
open PySem PySem.W PySem.Calls PyProof.Rows
def uL:∀c d,WellAll P h d (c.map WData.int)->IntsAre d c:=by
 intro c;induction c with
 |nil=>
  intro d w;cases w;exact .nil
 |cons n c e=>
  intro d w;cases w with
  |cons a b=>
   cases a;exact .cons _ _ (e _ b)
def ER{l:OpenLaw}{n:Nat}(w:l.most=some n){P:Params}{h:Heap}{args:List WData}{c:List Value}(e:l.row.toRowW.claim.pre args=true)(k:WellAll P h c args):∃a o b,c=[Value.ref a]/\args=[WData.list (b.map WData.int)]/\h.get? a=some {cls:=.type "list",data:=.seq o.toArray}/\IntsAre o b/\b.length<=n:=by
 have m:=(pre_splitW e).1
 have p:l.pre.holds [] {args:=args}=true:=(pre_splitW e).2
 obtain⟨d,r,rfl,z,y⟩:=hasAllW_cons m;obtain rfl:=hasAllW_nil y;obtain⟨A,rfl,x⟩:=hasW_list z;obtain⟨b,rfl⟩:=items_int x;have f:b.length<=n:=by
  unfold OpenLaw.pre at p;have j:(WTm.not (.lt (.lit (.int (n:Int))) (.len (.arg 0)))).holds [] {args:=[.list (b.map .int)]}=true:=by
   have j:=(holds_andW p).1
   rw[w]at j;exact j
  have i:=condW_of j (w_not (w_lt w_lit (w_len_list (w_arg rfl))))
  grind
 cases k with
 |cons t s=>
  cases s;cases t with
  |list v g=>exact⟨_,_,b,rfl,rfl,v,uL b _ g,f⟩
def EX(l:OpenLaw)(args:List WData):l.row.toRowW.claim.post args (.bool true) args=true:=
 postW_of  
  (show WShape.has [] _ .bool=true by first|rfl|decide|simp)
  (show (WTm.eq .res _).value [] {args:=args,res:=some _,after:=args}=some _ from w_eq_bool (w_res rfl) w_lit) rfl
def X4{l:OpenLaw}{n:Nat}{q:Program}{e:List Str}{L:(Q6)->Heap->Prop}{K:World->Heap->Prop}{d:DefRec}(Q:l.most=some n)(D:d.params.defaults=[])(t:∀w c b (x A:Q6) p o z y h a i v,
 Ground q e [] L w c x A b.heap->K w b.heap->
 b.heap.get? p=some o->o.data=.func (docDef d.name d.params d.body d.scope z y h)->b.heap.CodeRec y d.name->x d.name=some (.ref p)->
 b.heap.get? a=some {cls:=.type "list",data:=.seq i.toArray}->IntsAre i v->v.length<=n->b.gens=#[]->
 codeAny (model l.prog w) callerA (.call (.ref p) ⟨[.ref a],[]⟩) (λr u=>r=.ok (.ret (.bool true))/\OldK b.heap u.heap/\u.os=b.os/\AllBare u.gens) b):WalkO q e L K l.row.toRowW d [] (λf i=>PySem.call f i):=by
 intro w c b x A G Y p o z y h Z M P U E I C T J F as j H N B S;obtain rfl:Z=.none:=Dflts.none I D;obtain rfl:M=.none:=Dflts.noKw I;obtain⟨a,i,v,rfl,rfl,k,g,m⟩:=ER Q j B;refine enter_call (Ff (t w c b x A p o z y h a i v G Y P (fd_plain U) E C k g m T) λr u O=>?_);obtain⟨rfl,X,W,V⟩:=O;exact⟨.inl ⟨.bool true,.bool true,[],rfl,λ_=>rfl,.bool true,EX l _,λ_=>⟨List.Pairwise.nil,λ_ R=>(nomatch R)⟩⟩,X,W,V⟩
end Att
namespace L2
open PySem PySem.Spec PyProof.Rows
variable {x:Str}
def Ro:∀ {a:List Value} {b:List Int},IntsAre a b->Vals (b.map V.int) a
 |_,_,.nil=>.nil
 |_,_,.cons n t h=>.cons ⟨t,rfl⟩ (Ro h)
noncomputable def lA(s:Stmt):Arguments:=match s with
 |.FunctionDef _ a _ _ _ _ _ _ _ _=>a
 |_=>{posonlyargs:=[],args:=[],vararg:=none,kwonlyargs:=[],kw_defaults:=[],kwarg:=none,defaults:=[]}
noncomputable def gI(s:Stmt):List Stmt:=match s with
 |.FunctionDef _ _ b _ _ _ _ _ _ _=>b
 |_=>[]
noncomputable def aJ(s:Stmt):Scope:=match s with
 |.FunctionDef _ _ _ _ _ _ a _ _ _=>a
 |_=>{kind:=.function,names:=[],isGenerator:=false,isCoroutine:=false}
abbrev ZO:XZ:=λ_ _ _ _ _ _=>False
abbrev E0:XK:=λ_ _ _=>False
def Sv:iJ ZO X E0:=λ_ _ _ _ _ _ _ h=>h.elim
structure ZQ (K:W.Frag) (x qual:Str) (st:Stmt) (f:Addr) (fd:FuncData):Prop where
 ex:∃(oc:Value) (od:Option Addr) (kV doc pm:Value) (an:Option Addr) (cdv ct:Value) (osl:Array (Option Value)),
  fd=W.fnOf x qual (lA st) (gI st) (aJ st) .none kV doc pm an cdv ct/\K.lookup f=some ⟨oc,od,.func fd,osl⟩/\W.codeIn K cdv qual=true
 kp:W.keepIn K (.ref f)=true
section
variable {P:Program} {w:World} {K:W.Frag} {mg:Q6} {base:Heap}
def ZQ.ok{st:Stmt}{f:Addr}{l:FuncData}{N ps:List Str}{k:Nat}{sp:Sp}(F:ZQ K x b st f l)(S:Z_ N ps (aJ st))(g:∀d H Q E,sp d H Q E->d.length=ps.length)(e:∀c A a s H d Q E,Z4 k (A.deeper (envOfC b (aJ st) s.heap.objs.size f c))->sp d H Q E->
 ∃t,Yg (iQ ZO P w K mg base N b (aJ st) f c A a s H E).Xf (gI st) t/\t {nx:=λ_ r=>Q .non r,rt:=Q} (oS N d) H):Z9 P w K mg base ZO (k+1) f l ps sp:=by
 obtain⟨y,v,z,p,u,C,c,B,m,rfl,n,j⟩:=F.ex;refine S4 n j S g λA a s H d Q E o i=>?_;obtain⟨t,h,q⟩:=e c A a s H d Q E o i;exact⟨t,h.Xf,q⟩
def ZQ.binds{st:Stmt}{f:Addr}{k:FuncData}{ps:List Str}(F:ZQ K x a st f k)(h:∀g b e j c i d,d.length=ps.length->bindArgs (W.fnOf x a (lA st) (gI st) (aJ st) .none g b e j c i) ⟨d,[]⟩=pure (ps.zip d)):Binds K k ps []:=by
 obtain⟨o,n,g,b,e,j,c,i,l,rfl,p,m⟩:=F.ex;exact .all (h g b e j c i)
def Sm{st:Stmt}{f:Addr}{m:Value}{j i:Option Addr}{e:Array _}{g d pm b h:Value}(l:K.lookup f=some ⟨m,j,.func (W.fnOf x a (lA st) (gI st) (aJ st) .none g d pm i b h),e⟩)(c:W.codeIn K b a=true)(k:W.keepIn K (.ref f)=true):ZQ K x a st f (W.fnOf x a (lA st) (gI st) (aJ st) .none g d pm i b h):=⟨⟨m,j,g,d,pm,i,b,h,e,rfl,l,c⟩,k⟩
end
section
variable {X:Cx}
def pv(i:Nat){a:Pos}(e:X.N[i]?=some x:=by rfl)(c:T9 X.env.scope x:=by first|exact Or.inl rfl|exact Or.inr (Or.inl rfl)|exact Or.inr (Or.inr rfl))(d:(x==("__debug__" : Str))=false:=by decide)(b:(x==("__classdict__" : Str))=false:=by decide):PE X (.Name x a) (Oi i):=Iu e c d b
end
def Ly{A B:Prop}(h:B):if false=true then A else B:=by grind
def C2{A B:Prop}(h:A):if true=true then A else B:=by grind
def iA{c A B:Prop}[Decidable c](b:c->A)(a:¬c->B):if c then A else B:=by grind
def Same(H a:Hp):Prop:=∀b o,H b=some o->a b=some o
def Same.refl(H:Hp):Same H H:=λ_ _ h=>h
def Same.trans(a:Same H e)(b:Same e d):Same H d:=λc o h=>b c o (a c o h)
def Same.seq{K:W.Frag}{H b:Hp}{a:Addr}{xs:List V}(e:Same H b)(h:Y6 K H a xs):Y6 K b a xs:=by
 rcases h with(h|⟨o,h⟩)|h
 .exact .inl (.inl (e _ _ h))
 .exact .inl (.inr ⟨o,e _ _ h⟩)
 .exact .inr h
end L2
namespace FlT
open PySem PySem.Spec PyProof.Rows
noncomputable def YM(n d:Nat):Option Int->Nat
 |none=>d
 |some v=>if v<0 then (v+(n:Int)).toNat else min v.toNat n
def P8(n d:Nat)(b:d<=n)(o:Option Int):YM n d o<=n:=by
 cases o with
 |none=>exact b
 |some v=>
  show (if v<0 then (v+_).toNat else min v.toNat n)<=n
  grind
def OY(n d:Nat)(a:d<=n)(v:Option Int):(match v with
 |none=>(d:Int)
 |some i=>if (1:Int)>0 then max 0 (min (if i<0 then i+(n:Int) else i) (n:Int)) else max (-1) (min (if i<0 then i+(n:Int) else i) ((n:Int)-1)))=((YM n d v:Nat):Int):=by
 cases v with
 |none=>rfl
 |some i=>
  simp only[show (1:Int)>0 by decide,if_true,YM]
  grind
def R7(a b:Option Int)(n:Nat):Builtin.Str.strSliceIndices a b 1 n=(List.range (YM n n b-YM n 0 a)).map (YM n 0 a+·):=by
 have d:=OY n 0 (Do _) a
 have c:=OY n n (Ai _) b
 rw[<-sliceRange_one,<-d,<-c];rfl
def Yt(z:Str)(a b:Option Int):(Txt.slice z a b).cps.toList=(z.cps.toList.drop (YM z.length 0 a)).take (YM z.length z.length b-YM z.length 0 a):=by
 have e:((Builtin.Str.strSliceIndices a b 1 z.length).filterMap (z.cps[·]?))=(z.cps.toList.drop (YM z.length 0 a)).take (YM z.length z.length b-YM z.length 0 a):=by
  rw[R7,pick_run]
 unfold Txt.slice;split
 .rename_i h
  have c:(Builtin.Str.strSliceIndices a b 1 z.length).length=z.length:=by simpa using h
  rw[R7,Ac,Cj]at c;have f:z.cps.toList.length=z.length:=by simp[Str.length]
  have i:=P8 z.length z.length (Ai _) b
  have g:=P8 z.length 0 (Do _) a
  have d:YM z.length 0 a=0:=by omega
  grind
 grind
def zR:∀(b:List Str) a,(b.foldl (λa p=>a++(#[]:Array Nat)++p.cps) a).toList=a.toList++(b.map λy=>y.cps.toList).flatten
 |[],a=>by simp
 |y::r,a=>by
  rw[List.foldl_cons,zR r];simp
def Xo(ys:List Str):(Txt.join ⟨#[]⟩ ys).cps.toList=(ys.map λy=>y.cps.toList).flatten:=by
 cases ys with
 |nil=>rfl
 |cons y r=>
  have e:=zR r y.cps
  rw[Ax,Dh,<-e];rfl
def ZK(x y:Str):(x++y).cps.toList=x.cps.toList++y.cps.toList:=by
 show (x.cps++y.cps).toList=_
 simp
def Zm{x y:Str}(h:x.cps.toList=y.cps.toList):x=y:=by
 obtain⟨⟨x⟩⟩:=x;simp_all
end FlT
namespace L2
open PySem PySem.Spec PyProof.Rows
variable {A:Around}{C Pt a b c dx ea f it q:Addr}{D:Ends}{E:Q2}{H H' H1 H2 Hc Hs:Hp}{J:It}{K:W.Frag}{M:Model}{N ss:List Str}{P prog:Program}{Q:VK}{R:It->Hp->Prop}{S:Str->Hp->Prop}{T newId:String}{X:Cx}{apos cpos np pos tp:Pos}{base h h' h1:Heap}{bmB us:List Value}{body:List Stmt}{cl:List (Str×Addr)}{d:Option Addr}{e elt iter l tg:Expr}{elts es ifs:List Expr}{env:Env}{ep j k k' n t' x1:Nat}{fd:FuncData}{fp ps:List Addr}{fs:List (List V)}{g:TG}{hi i lo:Int}{kvs:List (Key×V)}{mg:Q6}{name qual x z:Str}{neg:Bool}{ns:List Int}{o oe:Obj}{outer:List Env}{params:Arguments}{y0:Q4}{pl:Sem Bool}{r:R2}{s s1:Shared}{scope:Scope}{sp:Sp}{st:Stmt}{t ta tk:TA}{te tl to tv:TE}{tests:TT}{u:Value}{v y:V}{vs:Array Value}{w:World}{wi:TI}{xs ys:List V}{α:Type}
def PE.imp{t t':TE}(h:PE X e t)(i:∀U H Q,t' U H Q->t U H Q):PE X e t':=λa s U H Q I q=>h a s U H Q I (i U H Q q)
def ZH.imp{f:Value->Value->Sem Value}{r a:R2}(h:ZH X f r)(i:∀x y H Q,a x y H Q->r x y H Q):ZH X f a:=λb s U H x y v u Q I d c q=>h b s U H x y v u Q I d c (i x y H Q q)
def ZU.imp{f:Value}{r b:List V->Hp->VK->Prop}(h:ZU X f r)(i:∀a H Q,b a H Q->r a H Q):ZU X f b:=λc s U H a d Q I e q=>h c s U H a d Q I e (i a H Q q)
def Yu.imp{id:String}{r b:V->List V->Hp->VK->Prop}(h:Yu X id r)(i:∀x a H Q,b x a H Q->r x a H Q):Yu X id b:=λc s U H x a v d Q I e f q=>h c s U H x a v d Q I e f (i x a H Q q)
def Xz.imp{r c:R2}(h:Xz X r)(i:∀x y H Q,c x y H Q->r x y H Q):Xz X c:=λa b d s U H x y v u Q I f e q g=>h a b d s U H x y v u Q I f e (i x y H Q q) g
def Xn.imp{r c:V->Option Int->Option Int->Hp->VK->Prop}(h:Xn X r)(i:∀x a b H Q,c x a b H Q->r x a b H Q):Xn X c:=λd s U H x v f e a b g Q I j m l k q=>h d s U H x v f e a b g Q I j m l k (i x a b H Q q)
noncomputable def Xh(z:Str):It:=⟨λi _=>i<z.cps.size,λi H x a=>a=H/\∃c,z.cps[i]?=some c/\x=.str ⟨#[c]⟩,λi _=>z.cps.size<=i⟩
def B0(z:Str)(t:Tok)(f:Addr):Turn P w K tg (Xh z) [f] f (λi h=>h.IsStrIter f "str_ascii_iterator" z t i) where
 mem:=by simp
 obj:=λi h a b g=>by
  have e:b=f:=by simpa using g
  subst e;obtain⟨o,e,c,d⟩:=a;exact⟨o,e,λv z=>by rw[d]at z;cases z⟩
 keep:=λi h n a k=>let ⟨o,L,r⟩:=a;⟨o,k f (by simp) o L,r⟩
 item:=by
  intro X u p x G i F s U H E I m a q;subst u p x;obtain⟨D,C,M,B,A,y⟩:=m f (by simp)
  have l:i<z.cps.size:=q
  refine wpAny_pyNext_ascii_item a (c:=z.cps[i]) (by simp[l]) λn j J=>?_
  have O:Inv X F U H {s with heap:=n,toks:=s.toks+1}:=I.turned (λb o g e=>(J.2 b g).trans e) D C B A y
  obtain⟨o,e,c,d⟩:=id j;exact⟨_,rfl,qI (s:={s with heap:=n,toks:=s.toks+1}) e c d (by decide) ⟨.str ⟨#[z.cps[i]]⟩,H,O,⟨_,rfl⟩,⟨rfl,_,by simp[l],rfl⟩,j,λb g=>(m b g).1⟩⟩
 done:=by
  intro X u p x G i F s U H E I m a q;subst u p x;obtain⟨D,C,M,B,A,y⟩:=m f (by simp)
  have l:z.cps.size<=i:=q
  exact wpAny_pyNext_ascii_end (I.ok.hd G) a (by simp[l]) λn N=>⟨rfl,I.turned (t':=s.toks) (λb o g e=>N b o g e) D C B A y⟩
 self:=λ_ _ _ _ _ a h=>wpAny_pyIter_striter_ascii a h
def AK(z:Str)(t:Tok)(f:Addr):Turn P w K tg (Xh z) [f] f (λi h=>h.IsStrIter f "str_iterator" z t i) where
 mem:=by simp
 obj:=λi h a b g=>by
  have e:b=f:=by simpa using g
  subst e;obtain⟨o,e,c,d⟩:=a;exact⟨o,e,λv z=>by rw[d]at z;cases z⟩
 keep:=λi h n a k=>let ⟨o,L,r⟩:=a;⟨o,k f (by simp) o L,r⟩
 item:=by
  intro X u p x G i F s U H E I m a q;subst u p x;obtain⟨D,C,M,B,A,y⟩:=m f (by simp)
  have l:i<z.cps.size:=q
  refine wpAny_pyNext_wide_item a (c:=z.cps[i]) (by simp[l]) λn j J=>?_
  have O:Inv X F U H {s with heap:=n,toks:=s.toks+1}:=I.turned (λb o g e=>(J.2 b g).trans e) D C B A y
  obtain⟨o,e,c,d⟩:=id j;exact⟨_,rfl,qI (s:={s with heap:=n,toks:=s.toks+1}) e c d (by decide) ⟨.str ⟨#[z.cps[i]]⟩,H,O,⟨_,rfl⟩,⟨rfl,_,by simp[l],rfl⟩,j,λb g=>(m b g).1⟩⟩
 done:=by
  intro X u p x G i F s U H E I m a q;subst u p x;obtain⟨D,C,M,B,A,y⟩:=m f (by simp)
  have l:z.cps.size<=i:=q
  exact wpAny_pyNext_wide_end (I.ok.hd G) a (by simp[l]) λn N=>⟨rfl,I.turned (t':=s.toks) (λb o g e=>N b o g e) D C B A y⟩
 self:=λ_ _ _ _ _ a h=>wpAny_pyIter_striter_wide a h
def C5{k:TS}{U:St}(a:Nat->St->Hp->Prop)(t:a 0 U H)(hs:∀i c U H,z.cps.toList[i]?=some c->a i U H->g (.str ⟨#[c]⟩) U H λf j=>k {D with nx:=a (i+1),ct:=a (i+1),bk:=D.nx} f j)(n:∀U H,a z.cps.toList.length U H->D.nx U H):∃W:Nat->Nat->St->Hp->Prop,(∃m,W 0 m U H)/\∀i m U H,W i m U H->
 ((Xh z).stop i H/\D.nx U H)\/((Xh z).go i H/\∃N,(∀h b,N h b->∃l,l < m/\W (i+1) l h b)/\∀x b,(Xh z).Xa i H x b->g x U b λf j=>k {D with nx:=N,ct:=N,bk:=D.nx} f j):=by
 have r:z.cps.toList.length=z.cps.size:=by simp
 rw[r]at n;refine⟨λi m U H=>m=z.cps.size-i/\i<=z.cps.size/\a i U H,⟨z.cps.size,by simp,Nat.zero_le _,t⟩,?_⟩
 rintro i m U H ⟨rfl,u,p⟩;by_cases d:i<z.cps.size
 .refine .inr ⟨d,a (i+1),λh b o=>⟨z.cps.size-(i+1),by ((try clear r u);omega),rfl,d,o⟩,λx b y=>?_⟩
  obtain⟨e,c,s,q⟩:=y;simp_all
 .have e:i=z.cps.size:=by ((try clear r);omega)
  subst e;exact .inl ⟨Ai _,n U H p⟩
section
variable {b:Expr}
def GW:V->Option Int->Option Int->Hp->VK->Prop:=λx a b H Q=>∃z,x=.str z/\z.length<=sizeLine/\Q (.str (Txt.slice z a b)) H
def GV:Xn X GW:=by
 intro n s U H x v p o w y r Q I g b m f h;obtain⟨z,rfl,a,q⟩:=h;obtain⟨t,rfl⟩:=g;refine⟨"str",_,PySem.F.slot_str_getitem.lookup,Hr _ _ _,?_⟩;cases m with
 |none=>
  cases f with
  |none=>exact Fs (l:=none) (u:=none) (st:=none) b rfl (post_val_or_str ⟨Cd (Txt.slice_le z _ _) a,λd k=>⟨.str _,H,I.tok _,⟨_,rfl⟩,q⟩⟩)
  |int j c=>exact Fs (l:=none) (u:=some (j,c)) (st:=none) b rfl (post_val_or_str ⟨Cd (Txt.slice_le z _ _) a,λd k=>⟨.str _,H,I.tok _,⟨_,rfl⟩,q⟩⟩)
 |int i e=>
  cases f with
  |none=>exact Fs (l:=some (i,e)) (u:=none) (st:=none) b rfl (post_val_or_str ⟨Cd (Txt.slice_le z _ _) a,λd k=>⟨.str (Txt.slice z (some i) none),H,I.tok _,⟨_,rfl⟩,q⟩⟩)
  |int j c=>exact Fs (l:=some (i,e)) (u:=some (j,c)) (st:=none) b rfl (post_val_or_str ⟨Cd (Txt.slice_le z _ _) a,λd k=>⟨.str (Txt.slice z (some i) (some j)),H,I.tok _,⟨_,rfl⟩,q⟩⟩)
def KD:V->List V->Hp->VK->Prop:=λx b H Q=>∃z y i a,x=.str z/\b=[.str y]/\Builtin.Str.occurrences z y 0 z.length 1=i::a/\Q (.int ((i:Nat):Int)) H
def Xl:Yu X "str.index" KD:=by
 intro f s U H x g v j Q I b c h;obtain⟨z,y,i,a,rfl,rfl,e,q⟩:=h;obtain⟨t,rfl⟩:=b;obtain⟨u,rfl,d⟩:=c.one;obtain⟨k,rfl⟩:=d;exact SC.index e ⟨.int i,H,I.tok _,⟨_,rfl⟩,q⟩
def xY{ys:List Str}:∀ {a:List Value},Vals (ys.map V.str) a->StrsAre a ys:=by
 induction ys with
 |nil=>intro a r;cases r;exact .nil
 |cons n f d=>
  intro a r;cases r with
  |cons c b=>
   obtain⟨t,e⟩:=c;subst e;exact .cons n t (d b)
def Iy(K:W.Frag):V->List V->Hp->VK->Prop:=λx b H Q=>∃z p a,x=.str z/\b=[.ref p]/\Y6 K H p (a.map V.str)/\(a.map (·.length)).sum+a.length*z.length<=16777216/\Q (.str (Txt.join z a)) H
def WT:Yu X "str.join" (Iy X.K):=by
 intro j s U H x l v m Q I b c h;obtain⟨z,p,a,rfl,rfl,i,g,q⟩:=h;obtain⟨t,rfl⟩:=b;obtain⟨u,rfl,d⟩:=c.one;cases d;obtain⟨f,r,e,_⟩:=I.list i;exact join_list e.isList (by simpa using xY r) g λn k=>⟨.str _,H,I.tok _,⟨_,rfl⟩,q⟩
def zF:ZU X (.type "int") (λa H Q=>∃x n,a=[.str x]/\PySem.intText? x=some n/\x.length<=640/\Q (.int n) H):=by
 intro d s U H a e Q I r h;obtain⟨x,n,rfl,b,c,q⟩:=h;obtain⟨u,rfl,t,rfl⟩:=dL r;exact W.KIN.call_text b c ⟨.int n,H,I.tok _,⟨_,rfl⟩,q⟩
def HX:∀ {a:List Value},Vals (bs.map V.bl) a->LSm.BoolsAre a bs:=by
 induction bs with
 |nil=>intro a r;cases r;exact .nil
 |cons n e d=>
  intro a r;cases r with
  |cons c b=>
   cases c;exact .cons n (d b)
def yN(w:X.calm=true):ZU X (.builtin "all") (λg H Q=>∃(p:Addr) (a:List Bool),g=[.ref p]/\Y6 X.K H p (a.map V.bl)/\Q (.bl (a.all id)) H):=by
 intro y s U H g z Q I r h;obtain⟨p,a,rfl,o,q⟩:=h;obtain⟨u,rfl,m⟩:=dL r;cases m;obtain⟨c,l,n,D⟩:=I.list o;have j:=HX l
 have f:=n.isList
 have d:p<s.heap.objs.size:=by obtain⟨_,e,_⟩:=f;exact Av e
 refine call_all_walk (Dp f ?_);refine⟨s.heap.objs.size,[s.heap.objs.size,p],[s.heap.objs.size],c.toArray.size,_,_,λi=>(a[i]?).getD true,rfl,Walks.list (A:=X.A.in1) (I.ok.hd w) _ p (Bb d) c.toArray,
  ⟨⟨_,Au _ rfl,rfl,rfl⟩,f.push _⟩,λi v C G J x k=>?_,λF B t=>?_⟩
 .obtain⟨b,e,rfl⟩:=j.get i v (by simpa using x)
  simp only[e,Option.getD_some]at k;exact Dz k
 .have e:((List.range c.toArray.size).all λi=>(a[i]?).getD true)=a.all id:=by
   rw[Az,j.length];exact LSm.range_all a
  rw[e];exact⟨.bl (a.all id),H,I.kept (LSm.kept_iter t),rfl,q⟩
noncomputable def kE(xs ys:List V):Bool:=xs.length==ys.length&&(List.range xs.length).all λj=>X0 (xs.getD j .non) (ys.getD j .non)
def Vals.YX(r:Vals xs us) _:RelV (xs.getD j .non) us[j]:=by
 have d:=r.length
 have a:j<xs.length:=by omega
 obtain⟨u,b,c⟩:=r.get (Aa a);simp_all
def iB(h:xs.all cQ=true)(j:Nat):cQ (xs.getD j .non)=true:=by
 rw[Ah];cases e:xs[j]? with
 |none=>rfl
 |some x=>exact Bv.mp h x (As e)
def TL(K:W.Frag)(neg:Bool):R2:=λx y H Q=>∃p q b a,x=.ref p/\y=.ref q/\Y6 K H p b/\Y6 K H q a/\b.all cQ=true/\a.all cQ=true/\Q (.bl (if neg then !kE b a else kE b a)) H
def xM(h:xs.length≠ys.length):kE xs ys=false:=by
 unfold kE;rw[Cr.mpr h,Ez]
def jX(h:xs.length=ys.length):kE xs ys=(List.range xs.length).all λj=>X0 (xs.getD j .non) (ys.getD j .non):=by
 unfold kE;rw[h,Ey,Ei]
def DU(o:X.A.units<cLine):ZH X (compareOp .Eq) (TL X.K false):=by
 intro J s U H x y v u Q I w t h;obtain⟨p,q,c,b,rfl,rfl,B,z,F,E,k⟩:=h;cases w;cases t;obtain⟨d,l,n,_⟩:=I.list B;obtain⟨a,i,m,_⟩:=I.list z;have G:=l.length
 have L:=i.length
 by_cases r:c.length=b.length
 .refine SeqAt.eq_listAt (e:=λj=>X0 (c.getD j .non) (b.getD j .non)) n.isList m.isList (by simp only[List.size_toArray];((try clear o);omega)) o (λj D C=>?_) ?_
  .have g:j<d.length:=by simpa using D
   have f:j<a.length:=by simpa using C
   simpa using rY (A:=X.A.in1) (s:=s) (l.YX g) (i.YX f) (iB F j) (iB E j)
  .refine⟨.bl (kE c b),H,I,?_,k⟩;rw[jX r];simp only[List.size_toArray,<-G];rfl
 .refine SeqAt.eq_list_lengthsAt n.isList m.isList (by grind) o ⟨.bl (kE c b),H,I,?_,k⟩
  rw[xM r];rfl
def KU(o:X.A.units<cLine):ZH X (compareOp .NotEq) (TL X.K true):=by
 intro L s U H x y v u Q I z t h;obtain⟨p,q,c,b,rfl,rfl,C,B,G,F,k⟩:=h;cases z;cases t;obtain⟨d,l,n,_⟩:=I.list C;obtain⟨a,i,m,_⟩:=I.list B;have J:=l.length
 have M:=i.length
 by_cases r:c.length=b.length
 .refine SeqAt.RcNeAt.lists (e:=λj=>X0 (c.getD j .non) (b.getD j .non)) n.isList m.isList (by simp only[List.size_toArray];((try clear o);omega)) o (λj E D=>?_) X.prog X.w _ _ ?_
  .have g:j<d.length:=by simpa using E
   have f:j<a.length:=by simpa using D
   simpa using rY (A:=X.A.in1) (s:=s) (l.YX g) (i.YX f) (iB G j) (iB F j)
  .refine⟨.bl (!kE c b),H,I,?_,k⟩;rw[jX r];simp only[List.size_toArray,<-J];rfl
 .refine SeqAt.RcNeAt.lists_lengths n.isList m.isList (by simp only[List.size_toArray,bne_iff_ne];((try clear o);omega)) o X.prog X.w _ _ ⟨.bl (!kE c b),H,I,?_,k⟩
  rw[xM r];rfl
end
noncomputable def Tz:Option HO->Option (List V)
 |some (.lst a)=>some a
 |some (.frz _ (.lst a))=>some a
 |_=>none
noncomputable def Z6(H:Hp)(a:Addr):Option (List V):=Tz (H a)
def bG(h:Z6 H a=some xs):Y6 K H a xs:=by
 unfold Z6 Tz at h;split at h
 .cases h;exact .inl (.inl (by (assumption)))
 .cases h;exact .inl (.inr ⟨_,by assumption⟩)
 .cases h
def aO(h:H a=some (.lst xs)):Z6 H a=some xs:=by unfold Z6;rw[h];rfl
def bX:Z6 (upd H a (.lst xs)) a=some xs:=aO aG
def aQ(e:Same H H')(h:Z6 H a=some xs):Z6 H' a=some xs:=by
 unfold Z6 at h ⊢;cases q:H a with
 |none=>rw[q]at h;cases h
 |some o=>rwa[e a o q,<-q]
def aE(h:H p=none)(o:HO):Same H (upd H p o):=λb u q=>by rwa[aK (bN q h)]
noncomputable def iW(H:Hp)(a:Addr):Option (List V):=match H a with|some (.lst xs)=>some xs|_=>none
def bO(h:H a=some (.lst xs)):iW H a=some xs:=by unfold iW;rw[h]
def nO(h:iW H a=some xs):H a=some (.lst xs):=by
 unfold iW at h;grind
def cX:iW (upd H a (.lst xs)) a=some xs:=bO aG
def vF{o:HO}(h:b≠a):iW (upd H a o) b=iW H b:=by unfold iW;rw[aK h]
noncomputable def qN(H:Hp)(a:Addr):Option (List V):=match H a with|some (.tup xs)=>some xs|_=>none
def dN(h:H a=some (.tup xs)):qN H a=some xs:=by unfold qN;rw[h]
def qW(h:qN H a=some xs):H a=some (.tup xs):=by
 unfold qN at h;grind
def zP:qN (upd H a (.tup xs)) a=some xs:=dN aG
section
variable {a b c:Expr} {ta tb:TE}
def VT(i:Nat):TE:=λU H Q=>match U[i]? with|some (some v)=>Q v H|_=>False
def mv(i:Nat)(d:X.N[i]?=some x:=by rfl)(b:T9 X.env.scope x:=by first|exact Or.inl rfl|exact Or.inr (Or.inl rfl)|exact Or.inr (Or.inr rfl))(c:(x==("__debug__" : Str))=false:=by decide)(a:(x==("__classdict__" : Str))=false:=by decide):PE X (.Name x pos) (VT i):=(pv i d b c a).imp λU H Q q=>by
 unfold VT at q;split at q
 .exact⟨_,by assumption,q⟩
 grind
def mI(g:Int->Int->V):R2:=λx y H Q=>match x,y with|.int i,.int j=>Q (g i j) H|_,_=>False
def wX{g:Int->Int->V}{x:V}(q:mI g x y H Q):W9 g x y H Q:=by
 unfold mI at q;split at q
 .exact⟨_,_,rfl,rfl,q⟩
 simp_all
def VZ(C:Int->Int->Prop)(g:Int->Int->V):R2:=λx y H Q=>match x,y with|.int i,.int j=>C i j/\Q (g i j) H|_,_=>False
def S_{C:Int->Int->Prop}{g:Int->Int->V}{x:V}(q:VZ C g x y H Q):rI C g x y H Q:=by
 unfold VZ at q;split at q
 .exact⟨_,_,rfl,rfl,q.1,q.2⟩
 simp_all
def VM:R2:=λx y H Q=>match x,y with
 |.int i,.int j=>Q (.int (i+j)) H
 |.str z,.str y=>z.length+y.length<=sizeLine/\Q (.str (z++y)) H
 |.ref p,.ref q=>(match iW H p,iW H q with
  |some b,some a=>b.length+a.length<=sizeLine/\∀r,H r=none->Q (.ref r) (upd H r (.lst (b++a)))
  |_,_=>False)
 |_,_=>False
def cL:ZH X (binaryOp .Add) VM:=by
 intro a s U H x y v u Q I c b q;unfold VM at q;split at q
 .exact Ma a s U H _ _ v u Q I c b ⟨_,_,rfl,rfl,q⟩
 .exact CM a s U H _ _ v u Q I c b ⟨_,_,rfl,rfl,q.1,q.2⟩
 .split at q
  .exact BZ a s U H _ _ v u Q I c b ⟨_,_,_,_,rfl,rfl,nO (by assumption),nO (by (assumption)),q.1,q.2⟩
  simp_all
 .exact q.elim
def tQ:ZH X (binaryOp .Sub) (mI λi j=>.int (i-j)):=Wg.imp λ_ _ _ _ q=>wX q
def Pw:ZH X (binaryOp .Mult) (VZ WX λi j=>.int (i*j)):=We.imp λ_ _ _ _ q=>S_ q
def Vv:ZH X (binaryOp .Mod) (VZ (λ_ j=>0<j) λi j=>.int (i%j)):=V9.imp λ_ _ _ _ q=>S_ q
def B6:ZH X (binaryOp .FloorDiv) (VZ NN λi j=>.int (i / j)):=W2.imp λ_ _ _ _ q=>S_ q
def wU:ZH X (compareOp .Lt) (mI λi j=>.bl (decide (i<j))):=Ve.imp λ_ _ _ _ q=>wX q
def GF:ZH X (compareOp .LtE) (mI λi j=>.bl (decide (i<=j))):=U9.imp λ_ _ _ _ q=>wX q
def uM:ZH X (compareOp .Gt) (mI λi j=>.bl (decide (j<i))):=Vf.imp λ_ _ _ _ q=>wX q
def SQ:ZH X (compareOp .GtE) (mI λi j=>.bl (decide (j<=i))):=UR.imp λ_ _ _ _ q=>wX q
def TZ:V->Hp->VK->Prop:=λx H Q=>match x with|.int i=>Q (.int (-i)) H|_=>False
def Pu:Uz X (unaryOp .USub) TZ:=λa s U H x v Q I b q=>by
 unfold TZ at q;split at q
 .exact JG a s U H _ v Q I b ⟨_,rfl,q⟩
 simp_all
def UC:R2:=λx y H Q=>UI x y=true/\Q (.bl (decide (x=y))) H
def fW:ZH X (compareOp .Eq) UC:=Nc
def SN:R2:=λx y H Q=>UI x y=true/\Q (.bl (!decide (x=y))) H
def UD:ZH X (compareOp .NotEq) SN:=AL
def V6(neg:Bool):R2:=λx y H Q=>match x,y with
 |.ref p,.ref q=>(match Z6 H p,Z6 H q with
  |some b,some a=>b.all cQ=true/\a.all cQ=true/\Q (.bl (if neg then !kE b a else kE b a)) H
  |_,_=>False)
 |_,_=>False
def OW{x:V}(q:V6 neg x y H Q):TL K neg x y H Q:=by
 unfold V6 at q;split at q
 .split at q
  .exact⟨_,_,_,_,rfl,rfl,bG (by assumption),bG (by (assumption)),q.1,q.2.1,q.2.2⟩
  simp_all
 .exact q.elim
def Tg(a:X.A.units<cLine):ZH X (compareOp .Eq) (V6 false):=(DU a).imp λ_ _ _ _ q=>OW q
def Ta(a:X.A.units<cLine):ZH X (compareOp .NotEq) (V6 true):=(KU a).imp λ_ _ _ _ q=>OW q
def Tn:R2:=λx y H Q=>match y with|.non=>Q (.bl (decide (x=.non))) H|_=>False
def Vx:ZH X (compareOp .Is) Tn:=Wo.imp λ_ y _ _ q=>by
 unfold Tn at q;grind
def TC:R2:=λx y H Q=>match y with|.non=>Q (.bl (!decide (x=.non))) H|_=>False
def T_:ZH X (compareOp .IsNot) TC:=WV.imp λ_ y _ _ q=>by
 unfold TC at q;grind
noncomputable def subIn(y x:Str):Bool:=!(Builtin.Str.occurrences x y 0 x.length 1).isEmpty
def kF(x:Str)(c:Nat):subIn ⟨#[c]⟩ x=decide (c∈x.cps.toList):=PySem.StrLaws.found_one x c
def Vb(neg:Bool):R2:=λx y H Q=>match x,y with|.str i,.str j=>Q (.bl (if neg then !subIn i j else subIn i j)) H|_,_=>False
def VV:ZH X (compareOp .In) (Vb false):=Xy.imp λ_ _ _ _ q=>by
 unfold Vb at q;split at q
 .exact⟨_,_,rfl,rfl,q⟩
 simp_all
def Ml:ZH X (compareOp .NotIn) (Vb true):=Yf.imp λ_ _ _ _ q=>by
 unfold Vb at q;split at q
 .exact⟨_,_,rfl,rfl,q⟩
 simp_all
def Vm(neg:Bool):R2:=λx y H Q=>match y with
 |.ref p=>(match Z6 H p with|some a=>cQ x=true/\a.all cQ=true/\Q (.bl (if neg then !YK x a else YK x a)) H|none=>False)
 |_=>False
def Kh{x:V}(q:Vm neg x y H Q):P9 K neg x y H Q:=by
 unfold Vm at q;split at q
 .split at q
  .exact⟨_,_,rfl,.inl (bG (by (assumption))),q.1,q.2.1,q.2.2⟩
  simp_all
 .exact q.elim
def U5:ZH X (compareOp .In) (Vm false):=Yq.imp λ_ _ _ _ q=>Kh q
def mB(Q:Bool->Hp->Prop):VK:=λx H=>match x with|.bl k=>Q k H|_=>False
def TN{Q:Bool->Hp->Prop}{x:V}(q:mB Q x H):∃k,x=.bl k/\Q k H:=by
 unfold mB at q;split at q
 .exact⟨_,rfl,q⟩
 simp_all
def OG(t:TE):TT:=λU H Q=>t U H (mB Q)
def bD(p:ZH X (compareOp op) r)(A:PE X a ta)(w:PE X b tb)(t:behindInMarks op b=false):PT X (.Compare a [op] [b] pos) (OG (Wv r ta tb)):=by
 intro d s U H Q I h;refine wpAny_isTrue_Compare1 (ZY (A d s U H _ I h) λv g ⟨x,G,D,l,o⟩=>ZY (w d g U G _ D o) λu f ⟨y,F,C,j,n⟩=>
  ZY (p d f U F x y v u _ C l j n) λc J ⟨z,E,B,i,q⟩=>?_) t
 obtain⟨k,e,m⟩:=TN q;subst e;cases i;exact Dz ⟨E,B,m⟩
def Vh(Q:Bool->Hp->Prop):VK:=λx H=>match x with
 |.non=>Q false H
 |.bl k=>Q k H
 |.int i=>Q (i != 0) H
 |.str y=>y.length<=sizeLine/\Q ((y.length:Int) != 0) H
 |.ref p=>(match Z6 H p with
  |some a=>Q (!a.isEmpty) H
  |none=>(match H p with|some (.dK kvs)=>Q (!kvs.isEmpty) H|_=>False))
 |_=>False
def DB{Q:Bool->Hp->Prop}{x:V}(q:Vh Q x H):∃k,Po K x H k/\Q k H:=by
 unfold Vh at q;split at q
 .exact⟨_,rfl,q⟩
 .exact⟨_,rfl,q⟩
 .exact⟨_,rfl,q⟩
 .exact⟨_,⟨q.1,rfl⟩,q.2⟩
 .split at q
  .exact⟨_,.inl ⟨_,bG (by (assumption)),rfl⟩,q⟩
  .split at q
   .exact⟨_,.inr (.inr ⟨_,by assumption,rfl⟩),q⟩
   simp_all
 .exact q.elim
def Q_(t:TE):TT:=λU H Q=>t U H (Vh Q)
def cN(i:PE X a ta)(g:∀b,isTrue a X.env b=(do let v <-b;standAt a.pos;holding [v] (truthy v)):=by intro _;rfl):PT X a (Q_ ta):=by
 intro c s U H Q I h;refine isTrue_plain (ZY (i c s U H _ I h) λv d ⟨x,k,j,e,f⟩=>GL c d U k x v Q j e (DB f)) (g _)
variable {rest:List Expr}
def NO(d b:TE):TE:=λU H Q=>d U H (mB λc a=>if c=true then b U a Q else Q (.bl false) a)
def Rf(d b:TE):TE:=λU H Q=>d U H (mB λc a=>if c=true then Q (.bl true) a else b U a Q)
def pO(l:PE X a ta)(k:PE X (.BoolOp .And (b::rest) pos) tb):PE X (.BoolOp .And (a::b::rest) pos) (NO ta tb):=by
 intro e s U H Q I h;refine BoolOp_and (ZY (l e s U H _ I h) λv i ⟨x,g,f,j,d⟩=>?_);obtain⟨c,rfl,d⟩:=TN d;cases j;refine Dz ?_;cases c with
 |true=>exact k e i U g Q f d
 |false=>exact⟨.bl false,g,f,rfl,d⟩
def Nn(l:PE X a ta)(k:PE X (.BoolOp .Or (b::rest) pos) tb):PE X (.BoolOp .Or (a::b::rest) pos) (Rf ta tb):=by
 intro e s U H Q I h;refine BoolOp_or (ZY (l e s U H _ I h) λv i ⟨x,g,f,j,d⟩=>?_);obtain⟨c,rfl,d⟩:=TN d;cases j;refine Dz ?_;cases c with
 |false=>exact k e i U g Q f d
 |true=>exact⟨.bl true,g,f,rfl,d⟩
def Xg:R2:=λx y H Q=>match x,y with
 |.str z,.int i=>z.length<=sizeLine/\(match YJ z.cps.toList i with|some c=>Q (.str ⟨#[c]⟩) H|none=>False)
 |.ref p,.int i=>(match Z6 H p with
  |some a=>(match YJ a i with|some v=>Q v H|none=>False)
  |none=>(match qN H p with
   |some a=>(match YJ a i with|some v=>Q v H|none=>False)
   |none=>False))
 |_,_=>False
def Hx{x:V}(q:Xg x y H Q):O9 K x y H Q:=by
 unfold Xg at q;split at q
 .obtain⟨a,q⟩:=q;split at q
  .exact .inr (.inr ⟨_,_,_,rfl,rfl,a,by assumption,q⟩)
  .exact q.elim
 .split at q
  .split at q
   .exact .inl ⟨_,_,_,_,rfl,rfl,bG (by (assumption)),by assumption,q⟩
   .exact q.elim
  .split at q
   .split at q
    .exact .inr (.inl ⟨_,_,_,_,rfl,rfl,YQ.of (qW (by assumption)),by assumption,q⟩)
    simp_all
   .exact q.elim
 .exact q.elim
def bZ:Xz X Xg:=Wh.imp λ_ _ _ _ q=>Hx q
def Vz:V->Option Int->Option Int->Hp->VK->Prop:=λx a b H Q=>match x with
 |.str z=>z.length<=sizeLine/\Q (.str (Txt.slice z a b)) H
 |.ref p=>(match Z6 H p with|some c=>∀r,H r=none->Q (.ref r) (upd H r (.lst (lU c a b)))|none=>False)
 |_=>False
def WG:Xn X Vz:=(XI.or GV).imp λ_ _ _ _ _ q=>by
 unfold Vz at q;split at q
 .exact .inr ⟨_,rfl,q.1,q.2⟩
 .split at q
  .exact .inl ⟨_,_,rfl,bG (by (assumption)),q⟩
  simp_all
 .exact q.elim
def T8(Q:Option Int->Hp->Prop):VK:=λx a=>match x with|.int i=>Q (some i) a|_=>False
def QW(t:TE):TO:=λU H Q=>t U H (T8 Q)
def eQ(h:PE X e te):PO X (some e) (QW te):=by
 intro b s U H Q I d;refine ZY (h b s U H _ I d) λu i ⟨x,g,f,c,a⟩=>?_;unfold T8 at a;split at a
 .obtain⟨t,rfl⟩:=c;exact⟨_,g,f,.int _ t,a⟩
 simp_all
def cU:List V->Hp->VK->Prop:=λa H Q=>match a with
 |[.str z]=>z.length<=sizeLine/\Q (.int z.length) H
 |[.ref p]=>(match Z6 H p with
  |some a=>Q (.int a.length) H
  |none=>(match qN H p with|some a=>Q (.int a.length) H|none=>False))
 |_=>False
def cK:ZU X (.builtin "len") cU:=Xt.imp λ_ _ _ q=>by
 unfold cU at q;split at q
 .exact⟨_,_,rfl,⟨q.1,rfl⟩,q.2⟩
 .split at q
  .exact⟨_,_,rfl,.inl ⟨_,bG (by assumption),rfl⟩,q⟩
  .split at q
   .exact⟨_,_,rfl,.inr ⟨_,YQ.of (qW (by (assumption))),rfl⟩,q⟩
   simp_all
 .exact q.elim
def zv:List V->Hp->VK->Prop:=λa H Q=>match a with|[.int i,.int j]=>Q (.int (if j<i then j else i)) H|_=>False
def Ua:List V->Hp->VK->Prop:=λa H Q=>match a with
 |[.int i]=>Q (.int i) H
 |[.str x]=>(match PySem.intText? x with|some n=>x.length<=640/\Q (.int n) H|none=>False)
 |_=>False
def VP:ZU X (.type "int") Ua:=(XC.or zF).imp λ_ _ _ q=>by
 unfold Ua at q;split at q
 .exact .inl (.inl ⟨_,rfl,q⟩)
 .split at q
  .exact .inr ⟨_,_,rfl,by assumption,q.1,q.2⟩
  simp_all
 .exact q.elim
def Ud:List V->Hp->VK->Prop:=λb H Q=>match b with
 |[.ref p]=>(match Z6 H p with
  |some a=>∀l,H l=none->Q (.ref l) (upd H l (.lst a))
  |none=>(match qN H p with|some a=>∀l,H l=none->Q (.ref l) (upd H l (.lst a))|none=>False))
 |_=>False
def wD:ZU X (.type "list") Ud:=Yl.imp λ_ _ _ q=>by
 unfold Ud at q;split at q
 .split at q
  .exact⟨_,_,rfl,.inl (bG (by (assumption))),q⟩
  .split at q
   .exact⟨_,_,rfl,.inr (YQ.of (qW (by assumption))),q⟩
   simp_all
 .exact q.elim
def Wi(T:String)(x:V)(H:Hp)(P:Prop):Prop:=match x with
 |.str _=>T="str"/\P
 |.ref p=>(match Z6 H p with|some _=>T="list"/\P|none=>False)
 |_=>False
def M1{K:W.Frag}{x:V}{P:Prop}(q:Wi T x H P):Rm K T x H/\P:=by
 unfold Wi at q;split at q
 .exact⟨q.1,q.2⟩
 .split at q
  .exact⟨.inl ⟨q.1,_,bG (by (assumption))⟩,q.2⟩
  simp_all
 .exact q.elim
def N3(T:String)(r:V->List V->Hp->VK->Prop)(c:TE)(t:TA):TE:=λU H Q=>c U H λx a=>Wi T x a (t U a λb d=>r x b d Q)
variable {o:Expr} {id:String} {r:V->List V->Hp->VK->Prop}
def cC(B:PlainAttrs T)(d:Slot T name id)(i:typeOf (.builtin id)=pure (.type "method_descriptor"))(D:Yu X id r)(C:PE X o to)(E:PA X (e::es) t)(c:attributeBase o name X.env (eval o X.env)=eval o X.env:=by rfl)(f:((backTo cpos (starEach (e::es) X.env)).all (λx=>!x.1)&&(backToKw cpos (keywordEach [] X.env)).all (λx=>x.1.isSome)
 && decide ((e::es).length+([]:List Keyword).length+(if ([]:List Keyword).isEmpty then 0 else 1)<30))=true:=by rfl)(b:(apos.endLine==cpos.line)=true:=by rfl)(hs:starEach (e::es) X.env=(false,eval e X.env)::starEach es X.env:=by rfl)(a:(backTo cpos (starEach es X.env)).any (·.1)=false:=by rfl):PE X (.Call (.Attribute o name apos) (e::es) [] cpos) (N3 T r to t):=by
 intro g s U H Q I h;refine Hk c f b rfl (ZY (C g s U H _ I h) λv w ⟨x,M,l,j,q⟩=>?_);obtain⟨p,A⟩:=M1 (K:=X.K) q;obtain⟨G,F⟩:=Kl l j p;refine⟨T,id,B,d,i,G,F,?_⟩;have k:=E cpos g w U M _ l A
 rw[hs]at k ⊢;refine Hl (by show (false || (backTo cpos (starEach es X.env)).any (·.1))=false;rw[a]<;>rfl) (Gi ?_)
 exact ZY k λn u ⟨m,L,J,y,z⟩=>D g u U L x m v n Q J j y z
def T4:V->List V->Hp->VK->Prop:=λx b H Q=>match x,b with
 |.ref l,[y]=>(match iW H l with|some a=>a.length<sizeLine/\Q .non (upd H l (.lst (a++[y])))|none=>False)
 |_,_=>False
def vU:Yu X "list.append" T4:=Yu.imp  tF λ_ _ _ _ q=>by
 unfold T4 at q;split at q
 .split at q
  .exact⟨_,_,_,rfl,rfl,nO (by (assumption)),q.1,q.2⟩
  simp_all
 .exact q.elim
def Ur:V->List V->Hp->VK->Prop:=λx a H Q=>match x,a with
 |.str z,[.str y]=>(match Builtin.Str.occurrences z y 0 z.length 1 with|i::_=>Q (.int ((i:Nat):Int)) H|[]=>False)
 |_,_=>False
def Jl:Yu X "str.index" Ur:=Xl.imp λ_ _ _ _ q=>by
 unfold Ur at q;split at q
 .split at q
  .exact⟨_,_,_,_,rfl,rfl,by assumption,q⟩
  simp_all
 .exact q.elim
noncomputable def pN:List V->Option (List Str)
 |[]=>some []
 |.str z::r=>(pN r).map (z::·)
 |_=>none
def Kg(ys:List Str):pN (ys.map V.str)=some ys:=by
 induction ys with
 |nil=>rfl
 |cons y r a=>rw[Ax,pN,a];rfl
def zT:∀ {b:List V} {a:List Str},pN b=some a->b=a.map V.str
 |[],_,h=>by cases h;rfl
 |.str z::r,_,h=>by
  rw[pN]at h;cases e:pN r with
  |none=>rw[e]at h;cases h
  |some l=>rw[e]at h;cases h;rw[zT e];rfl
def Uc:V->List V->Hp->VK->Prop:=λx c H Q=>match x,c with
 |.str z,[.ref p]=>(match Z6 H p with
  |some b=>(match pN b with|some a=>(a.map (·.length)).sum+a.length*z.length<=16777216/\Q (.str (Txt.join z a)) H|none=>False)
  |none=>False)
 |_,_=>False
def sI:Yu X "str.join" Uc:=WT.imp λ_ _ _ _ q=>by
 unfold Uc at q;split at q
 .split at q
  .split at q
   .have e:=zT (by assumption)
    subst e;exact⟨_,_,_,rfl,rfl,bG (by (assumption)),q.1,q.2⟩
   .exact q.elim
  simp_all
 .exact q.elim
noncomputable def pP:List V->Option (List Bool)
 |[]=>some []
 |.bl z::r=>(pP r).map (z::·)
 |_=>none
def HN(ys:List Bool):pP (ys.map V.bl)=some ys:=by
 induction ys with
 |nil=>rfl
 |cons y r a=>rw[Ax,pP,a];rfl
def Px:∀ {b:List V} {a:List Bool},pP b=some a->b=a.map V.bl
 |[],_,h=>by cases h;rfl
 |.bl z::r,_,h=>by
  rw[pP]at h;cases e:pP r with
  |none=>rw[e]at h;cases h
  |some l=>rw[e]at h;cases h;rw[Px e];rfl
def Uy:List V->Hp->VK->Prop:=λb H Q=>match b with
 |[.ref p]=>(match Z6 H p with
  |some a=>(match pP a with|some c=>Q (.bl (c.all _root_.id)) H|none=>False)
  |none=>False)
 |_=>False
def vT(a:X.calm=true):ZU X (.builtin "all") Uy:=(yN a).imp λ_ _ _ q=>by
 unfold Uy at q;split at q
 .split at q
  .split at q
   .have e:=Px (by assumption)
    subst e;exact⟨_,_,rfl,bG (by (assumption)),q⟩
   .exact q.elim
  simp_all
 .exact q.elim
end
def Vl(R:Str->Hp->Prop):VK:=λx H=>match x with|.str z=>R z H|_=>False
def MO{R:Str->Hp->Prop}{x:V}(q:Vl R x H):∃z,x=.str z/\R z H:=by
 unfold Vl at q;split at q
 .exact⟨_,rfl,q⟩
 simp_all
def Ye(o:Option (List V))(P:Prop):Prop:=match o with|some _=>P|none=>False
def gQ(R:Addr->Hp->Prop):VK:=λx H=>match x with|.ref a=>R a H|_=>False
def AR{R:Addr->Hp->Prop}{x:V}(q:gQ R x H):∃a,x=.ref a/\R a H:=by
 unfold gQ at q;split at q
 .exact⟨_,rfl,q⟩
 simp_all
section
variable {a b:Expr} {ta tb:TE} {p:Pos}
def Pn(a:TE):TI:=λU H R=>a U H (Vl λz b=>R (Xh z) b)
def lG(m:PE X l tl):PI X tg l (Pn tl):=by
 intro f s U H R I h;refine ZY (m f s U H _ I h) λv a ⟨x,d,c,j,k⟩=>?_;obtain⟨z,rfl,q⟩:=MO k;obtain⟨t,rfl⟩:=j;have i:∀b∈[a.heap.objs.size],gY X f d b:=λb n=>by
  have e:b=a.heap.objs.size:=by simp_all
  subst e;exact c.YO (Ai _) (c.Z8.fresh (Ai _))
 cases g:z.cps.all (· < 128)
 .refine wpAny_pyIter_wide g ?_;exact⟨a.heap.objs.size,[a.heap.objs.size],_,_,d,rfl,c.kept (t':=a.toks) λb o e=>Af _ e,AK z t _,⟨_,Au _ rfl,rfl,rfl⟩,i,q⟩
 .refine wpAny_pyIter_ascii g ?_;exact⟨a.heap.objs.size,[a.heap.objs.size],_,_,d,rfl,c.kept (t':=a.toks) λb o e=>Af _ e,B0 z t _,⟨_,Au _ rfl,rfl,rfl⟩,i,q⟩
def S2(K:W.Frag)(c:TE):TI:=λU H R=>c U H (gQ λa b=>Ye (Z6 b a) (R (Xr K a) b))
def bU(k:PE X l tl):PI X tg l (S2 X.K tl):=by
 intro f s U H R I h;refine ZY (k f s U H _ I h) λv c ⟨x,n,d,g,i⟩=>?_;obtain⟨a,rfl,q⟩:=AR i;cases g;unfold Ye at q;split at q
 .rename_i r e
  obtain⟨j,u,p,w⟩:=d.list (bG e);refine Dp p.isList ?_;refine⟨c.heap.objs.size,[c.heap.objs.size],_,_,n,rfl,d.kept (t':=c.toks) λb o e=>Af _ e,C3 a _,⟨_,Au _ rfl,rfl,rfl⟩,λb m=>?_,q⟩;have e:b=c.heap.objs.size:=by simp_all
  subst e;exact d.YO (Ai _) (d.Z8.fresh (Ai _))
 .exact q.elim
def vH(R:Int->Hp->Prop):List V->Hp->Prop:=λa H=>match a with|[.int j]=>R j H|_=>False
def qP{R:Int->Hp->Prop}{vs:List V}(q:vH R vs H):∃j,vs=[.int j]/\R j H:=by
 unfold vH at q;split at q
 .exact⟨_,rfl,q⟩
 simp_all
def Vr(R:Int->Int->Hp->Prop):List V->Hp->Prop:=λa H=>match a with|[.int i,.int j]=>R i j H|_=>False
def G4{R:Int->Int->Hp->Prop}{vs:List V}(q:Vr R vs H):∃i j,vs=[.int i,.int j]/\R i j H:=by
 unfold Vr at q;split at q
 .exact⟨_,_,rfl,q⟩
 simp_all
def SJ(a:TA):TI:=λU H R=>a U H (vH λj b=>(-(2^62)<=j/\j<2^62)/\R (XR 0 j.toNat) b)
def OU(a:TA):TI:=λU H R=>a U H (Vr λi j b=>(-(2^62)<=i/\i<2^62/\-(2^62)<=j/\j<2^62)/\R (XR i (j-i).toNat) b)
def zZ{b:TA}(k:Gl X "range")(i:X.mg "range"=none)(l:PA X [a] b)(hs:starEach [a] X.env=[(false,eval a X.env)]:=by rfl):PI X tg (.Call (.Name "range" p) [a] [] pos) (SJ b):=by
 intro c s U H R I h;refine Call_ (iF I k i boot_range (Dg (ZY (l pos c s U H _ I h) λv w ⟨u,x,o,f,g⟩=>?_) hs rfl));obtain⟨j,e,⟨n,m⟩,q⟩:=qP g;subst e;cases f with
 |cons r d=>
  cases d;obtain⟨t,rfl⟩:=r;exact call_range_1 (Q0 o (by (exact Int.natCast_nonneg _)) (by (exact Int.natCast_nonneg _)) n m (by simp_all))
def Oc{f:TA}(o:Gl X "range")(n:X.mg "range"=none)(u:PA X [a,b] f)(hs:starEach [a,b] X.env=[(false,eval a X.env),(false,eval b X.env)]:=by rfl)(c:starEach [b] X.env=[(false,eval b X.env)]:=by rfl):PI X tg (.Call (.Name "range" p) [a,b] [] pos) (OU f):=by
 intro g s U H R I h;refine Call_ (iF I o n boot_range (Dg (ZY (u pos g s U H _ I h) λB D ⟨A,E,z,k,m⟩=>?_) (by rw[hs,c]) (by rw[c];rfl)))
 obtain⟨i,j,e,⟨y,x,w,v⟩,q⟩:=G4 m;subst e;cases k with
 |cons r d=>
  cases d with
  |cons l d=>
   cases d;obtain⟨t,rfl⟩:=r;obtain⟨C,rfl⟩:=l;exact call_range_2 (Q0 z y x w v q)
def WA(J:It)(g:TG)(d:TS)(D:Ends)(U:St)(h:Hp):Prop:=∃W:Nat->Nat->St->Hp->Prop,(∃m,W 0 m U h)/\∀i m U H,W i m U H->
 (J.stop i H/\D.nx U H)\/(J.go i H/\∃N,(∀c a,N c a->∃b,b < m/\W (i+1) b c a)/\∀x a,J.Xa i H x a->g x U a λe f=>d {D with nx:=N,ct:=N,bk:=D.nx} e f)
def Tp(wi:TI)(g:TG)(a:TS):TS:=λD U H=>wi U H λJ b=>WA J g a D U b
def dY{a:TS}(b:PassesOwn (model X.prog X.w) X.A X.env X.xe)(e:X.calm=true)(c:PI X tg iter wi)(d:PG X tg g)(f:Yg X body a)(hs:∀x,foldedSetIterable iter X.env x=pure x:=by intro _;rfl):PS X (.For tg iter body [] pos) (Tp wi g a):=Ir  b e c d f hs
section
variable {tb:TS} {U:St}
def dU(a:Nat->St->Hp->Prop)(f:a 0 U H)(b:∀i U H,i<=xs.length->a i U H->Z6 H c=some xs)(hs:∀i x U H,xs[i]?=some x->a i U H->g x U H λh j=>tb {D with nx:=a (i+1),ct:=a (i+1),bk:=D.nx} h j)(e:∀U H,a xs.length U H->D.nx U H):WA (Xr K c) g tb D U H:=
 Ks a f (λi U H d p=>bG (b i U H d p)) hs e
def N1(a:Nat->St->Hp->Prop)(d:a 0 U H)(hs:∀i c U H,z.cps.toList[i]?=some c->a i U H->g (.str ⟨#[c]⟩) U H λe f=>tb {D with nx:=a (i+1),ct:=a (i+1),bk:=D.nx} e f)(b:∀U H,a z.cps.toList.length U H->D.nx U H):WA (Xh z) g tb D U H:=
 C5 a d hs b
def Ru(a:Nat->St->Hp->Prop)(c:a 0 U H)(hs:∀i U H,i<n->a i U H->g (.int (lo+i)) U H λd e=>tb {D with nx:=a (i+1),ct:=a (i+1),bk:=D.nx} d e)(b:∀U H,a n U H->D.nx U H):WA (XR lo n) g tb D U H:=
 JC a c hs b
end
def B7(d:Gl X x)(c:X.mg x=none)(a:bootBuiltins x=some (.type T))(b:x≠"__name__" := by decide)(e:(x==("__debug__" : Str))=false:=by decide):PE X (.Name x pos) (tC (.ty T)):=AX d c a rfl b e
end
section
variable {U:St} {QB:Bool->Hp->Prop} {QA:List V->Hp->Prop} {QO:Option Int->Hp->Prop} {t u:TS} {ta tb:TE} {tt tu:TT} {tA:TA} {x:V} {j:Int} {z':Str} {p:Addr} {vs:List V}
def DN(h:t {D with nx:=u D} U H):Qh t u D U H:=h
def E7(h:D.nx U H):Qf D U H:=h
def Jp{c:TT}(h:c U H λb a=>if b=true then t D U a else u D U a):Qr c t u D U H:=h
def IZ(h:te U H D.rt):Oe te D U H:=h
def EV(h:te U H λ_ a=>D.nx U a):N5 te D U H:=h
def Iv(h:te U H λx a=>g x U a D.nx):VO te g D U H:=h
def FD{a:TS}(h:wi U H λJ b=>WA J g a D U b):Tp wi g a D U H:=h
def PH{a:St->Hp->Prop}(h:a (U.set k (some v)) H):iT k v U H a:=h
def Jq{c:St->Hp->Prop}{b:TE}{a:T6}(h:to U H λo f=>b U f λi e=>a o i v e λd=>c U d):RI to b a v U H c:=h
def DO(e:U[k]?=some (some v))(h:Q v H):VT k U H Q:=by unfold VT;rwa[e]
def B2(h:Q v H):tC v U H Q:=h
def J2(h:ta U H λx b=>tb U b λy a=>r x y a Q):Wv r ta tb U H Q:=h
def EN{a:V->Hp->VK->Prop}(h:ta U H λx b=>a x b Q):RE a ta U H Q:=h
def G3(h:QA [] H):VS U H QA:=h
def IH{a:TA}(h:ta U H λx d=>a U d λb c=>QA (x::b) c):xJ ta a U H QA:=h
def DL(h:tA U H λa b=>a.length<=sizeLine/\∀p,b p=none->Q (.ref p) (upd b p (.lst a))):SG tA U H Q:=h
def Jb(h:tA U H λa b=>a.length<=sizeLine/\∀p,b p=none->Q (.ref p) (upd b p (.tup a))):RZ tA U H Q:=h
def L_{E:XK}(h:tA U H λa b=>sp (a++[]) b Q E):Up sp [] E tA U H Q:=h
def Ls{a:List V->Hp->VK->Prop}(h:tA U H λb c=>a b c Q):UG a tA U H Q:=h
def FX{c:V->Option Int->Option Int->Hp->VK->Prop}{a b:TO}(h:te U H λx f=>a U f λl e=>b U e λu d=>c x l u d Q):NI c te a b U H Q:=h
def JZ(h:QO none H):OX U H QO:=h
def KY(h:te U H (T8 QO)):QW te U H QO:=h
def MS(h:QO (some i) H):T8 QO (.int i) H:=h
def AV{a:V->List V->Hp->VK->Prop}(h:to U H λx b=>Wi T x b (tA U b λc d=>a x c d Q)):N3 T a to tA U H Q:=h
def B5{P:Prop}(h:P):Wi "str" (.str z) H P:=⟨rfl,h⟩
def MU{P:Prop}(e:Z6 H p=some xs)(h:P):Wi "list" (.ref p) H P:=by unfold Wi;simp only[e];exact⟨trivial,h⟩
def Mc(h:te U H (mB QB)):OG te U H QB:=h
def Nx(h:te U H (Vh QB)):Q_ te U H QB:=h
def KR{b:Bool}(h:QB b H):mB QB (.bl b) H:=h
def BG{b:Bool}(h:QB b H):Vh QB (.bl b) H:=h
def Ii(h:tt U H λc a=>if c=true then tu U a QB else QB false a):Rv tt tu U H QB:=h
def Mt(h:tt U H λc a=>if c=true then QB true a else tu U a QB):QY tt tu U H QB:=h
def HQ(h:tt U H λc a=>QB (!c) a):Pd tt U H QB:=h
def LY(h:ta U H (mB λc a=>if c=true then tb U a Q else Q (.bl false) a)):NO ta tb U H Q:=h
def A9(h:ta U H (mB λc a=>if c=true then Q (.bl true) a else tb U a Q)):Rf ta tb U H Q:=h
def E9(h:tt U H λc a=>if c=true then ta U a Q else tb U a Q):NZ tt ta tb U H Q:=h
def JY{g:Int->Int->V}(h:Q (g i j) H):mI g (.int i) (.int j) H Q:=h
def Mb{C:Int->Int->Prop}{g:Int->Int->V}(c:C i j)(h:Q (g i j) H):VZ C g (.int i) (.int j) H Q:=⟨c,h⟩
def D7(h:Q (.int (i+j)) H):VM (.int i) (.int j) H Q:=h
def mX(c:z.length+z'.length<=sizeLine)(h:Q (.str (z++z')) H):VM (.str z) (.str z') H Q:=⟨c,h⟩
def eV(e:iW H p=some xs)(a:iW H q=some ys)(c:xs.length+ys.length<=sizeLine)(h:∀r,H r=none->Q (.ref r) (upd H r (.lst (xs++ys)))):VM (.ref p) (.ref q) H Q:=by
 unfold VM;simp_all
def K9(h:Q (.bl (decide (i=j))) H):UC (.int i) (.int j) H Q:=⟨rfl,by
 rwa[show decide _=decide (i=j) by simp]⟩
def AJ(h:Q (.bl (decide (z=z'))) H):UC (.str z) (.str z') H Q:=⟨rfl,by
 rwa[show decide _=decide (z=z') by simp]⟩
def HM(h:Q (.bl (!decide (i=j))) H):SN (.int i) (.int j) H Q:=⟨rfl,by
 rwa[show decide _=decide (i=j) by simp]⟩
def IW(h:Q (.bl (!decide (z=z'))) H):SN (.str z) (.str z') H Q:=⟨rfl,by
 rwa[show decide _=decide (z=z') by simp]⟩
def V4{neg:Bool}(e:Z6 H p=some xs)(b:Z6 H q=some ys)(f:xs.all cQ=true)(a:ys.all cQ=true)(h:Q (.bl (if neg then !kE xs ys else kE xs ys)) H):V6 neg (.ref p) (.ref q) H Q:=by
 unfold V6;simp only[e,b];exact⟨f,a,h⟩
def F5(h:Q (.bl (decide (x=.non))) H):Tn x .non H Q:=h
def DI(h:Q (.bl (!decide (x=.non))) H):TC x .non H Q:=h
def Jk(h:Q (.bl (if neg then !subIn z z' else subIn z z')) H):Vb neg (.str z) (.str z') H Q:=h
def VX{neg:Bool}(e:Z6 H p=some xs)(f:cQ x=true)(a:xs.all cQ=true)(h:Q (.bl (if neg then !YK x xs else YK x xs)) H):Vm neg x (.ref p) H Q:=by
 unfold Vm;simp only[e];exact⟨f,a,h⟩
def Sf{c:Nat}(l:z.length<=sizeLine)(e:YJ z.cps.toList i=some c)(h:Q (.str ⟨#[c]⟩) H):Xg (.str z) (.int i) H Q:=by
 unfold Xg;simp_all
def cA(e:Z6 H p=some xs)(a:YJ xs i=some v)(h:Q v H):Xg (.ref p) (.int i) H Q:=by
 unfold Xg;simp_all
def Mn{a b:Option Int}(l:z.length<=sizeLine)(h:Q (.str (Txt.slice z a b)) H):Vz (.str z) a b H Q:=⟨l,h⟩
def E4{a b:Option Int}(e:Z6 H p=some xs)(h:∀r,H r=none->Q (.ref r) (upd H r (.lst (lU xs a b)))):Vz (.ref p) a b H Q:=by
 unfold Vz;simp_all
def CL(l:z.length<=sizeLine)(h:Q (.int z.length) H):cU [.str z] H Q:=⟨l,h⟩
def HJ(e:Z6 H p=some xs)(h:Q (.int xs.length) H):cU [.ref p] H Q:=by unfold cU;simp only[e];exact h
def sU(e:PySem.intText? z=some i)(l:z.length<=640)(h:Q (.int i) H):Ua [.str z] H Q:=by unfold Ua;simp only[e];exact⟨l,h⟩
def Ll(e:Z6 H p=some xs)(h:∀l,H l=none->Q (.ref l) (upd H l (.lst xs))):Ud [.ref p] H Q:=by unfold Ud;simp only[e];exact h
def BM(e:iW H p=some xs)(l:xs.length<sizeLine)(h:Q .non (upd H p (.lst (xs++[v])))):T4 (.ref p) [v] H Q:=by unfold T4;simp only[e];exact⟨l,h⟩
def JN{a:List Nat}(e:Builtin.Str.occurrences z z' 0 z.length 1=k::a)(h:Q (.int ((k:Nat):Int)) H):Ur (.str z) [.str z'] H Q:=by unfold Ur;simp only[e];exact h
def rR(e:Z6 H p=some (ss.map V.str))(l:(ss.map (·.length)).sum+ss.length*z.length<=16777216)(h:Q (.str (Txt.join z ss)) H):Uc (.str z) [.ref p] H Q:=by
 unfold Uc;simp only[e,Kg];exact⟨l,h⟩
def xP{bs:List Bool}(e:Z6 H p=some (bs.map V.bl))(h:Q (.bl (bs.all id)) H):Uy [.ref p] H Q:=by
 unfold Uy;simp only[e,HN];exact h
def LL(h:tl U H (gQ λa b=>Ye (Z6 b a) (R (Xr K a) b))):S2 K tl U H R:=h
def NA{R:Addr->Hp->Prop}(h:R p H):gQ R (.ref p) H:=h
def zz{P:Prop}(e:Z6 H p=some xs)(h:P):Ye (Z6 H p) P:=by unfold Ye;simp only[e];exact h
def La(h:tl U H (Vl λz a=>R (Xh z) a)):Pn tl U H R:=h
def Kp{R:Str->Hp->Prop}(h:R z H):Vl R (.str z) H:=h
def IP(h:tA U H (vH λj a=>(-(2^62)<=j/\j<2^62)/\R (XR 0 j.toNat) a)):SJ tA U H R:=h
def Kr(h:tA U H (Vr λi j a=>(-(2^62)<=i/\i<2^62/\-(2^62)<=j/\j<2^62)/\R (XR i (j-i).toNat) a)):OU tA U H R:=h
def FZ{R:Int->Hp->Prop}(h:R i H):vH R [.int i] H:=h
def JJ{R:Int->Int->Hp->Prop}(h:R i j H):Vr R [.int i,.int j] H:=h
def UY{o:V}{a:Hp->Prop}(e:iW H p=some xs)(b:Xm xs.length i=some k)(h:a (upd H p (.lst (xs.set k v)))):P_ (.ref p) (.int i) v H a:=⟨_,_,_,_,rfl,rfl,nO e,b,h⟩
end
def MY{xs:List α}{i:Int}(c:0<=i)(b:i<xs.length):∃v,YJ xs i=some v/\xs[i.toNat]?=some v:=by
 have a:i.toNat<xs.length:=by omega
 have e:i=((i.toNat:Nat):Int):=by ((try clear a b);omega)
 have q:=aX (Aa a)
 rw[<-e]at q;exact⟨xs[i.toNat],q,Aa a⟩
def Ob(a:0<=i)(h1:i<n):Xm n i=some i.toNat:=by
 unfold Xm;simp_all
def bJ(h:n<=100000):n<=sizeLine:=Cd h (by decide)
def bM(h:n<=100000):n<sizeLine:=Nat.lt_of_le_of_lt h (by decide)
def ZM(P:Program)(w:World)(K:W.Frag)(b:Str->Option Value)(a:Heap)(k:Nat)(x:Str)(ps:List Str)(sp:Sp):Prop:=
 ∃f c,Z9 P w K b a ZO k f c ps sp/\b x=some (.ref f)/\W.keepIn K (.ref f)=true/\Binds K c ps []
section
variable {ps:List Str} {p:Pos}
def bF(c:ZM X.prog X.w X.K X.mg X.base k x ps sp)(g:Z4 k' X.A)(i:k<=k')(j:Gl X x)(n:PA X (e::es) t)(d:(x==("__debug__" : Str))=false:=by decide)(l:starEach (e::es) X.env=(false,eval e X.env)::starEach es X.env:=by rfl)(a:(backTo pos (starEach es X.env)).any (·.1)=false:=by rfl):PE X (.Call (.Name x p) (e::es) [] pos) (Up sp [] E0 t):=by
 obtain⟨f,o,F,h,b,m⟩:=c;exact NX F (g.mono i) j h b m .nil Sv n d l a
def dA(a:Gl X x)(h:∃t,X.mg x=some (.str z t))(b:(x==("__debug__" : Str))=false:=by decide):PE X (.Name x pos) (tC (.str z)):=by
 obtain⟨t,h⟩:=h;exact rE a h ⟨t,rfl⟩ b
def eK{z:Int}(a:Gl X x)(h:∃t,X.mg x=some (.int z t))(b:(x==("__debug__" : Str))=false:=by decide):PE X (.Name x pos) (tC (.int z)):=by
 obtain⟨t,h⟩:=h;exact rE a h ⟨t,rfl⟩ b
def AI{b c:Option Int}(e:Y6 K H a xs)(h:∀r,H r=none->Q (.ref r) (upd H r (.lst (lU xs b c)))):Pm K (.ref a) b c H Q:=⟨a,xs,rfl,e,h⟩
def DV(e:Y6 K H a xs)(b:YJ xs i=some v)(h:Q v H):TU K (.ref a) (.int i) H Q:=⟨a,xs,i,v,rfl,rfl,e,b,h⟩
end
def bR:bootBuiltins "len"=some (.builtin "len"):=by decide +kernel
def bT:bootBuiltins "isinstance"=some (.builtin "isinstance"):=by decide +kernel
def z_:bootBuiltins "min"=some (.builtin "min"):=by decide +kernel
def AM:bootBuiltins "max"=some (.builtin "max"):=by decide +kernel
def pQ:bootBuiltins "all"=some (.builtin "all"):=by decide +kernel
def NR:bootBuiltins "sum"=some (.builtin "sum"):=by decide +kernel
def sK:bootBuiltins "int"=some (.type "int"):=by decide +kernel
def Uq:bootBuiltins "str"=some (.type "str"):=by decide +kernel
def lI:bootBuiltins "list"=some (.type "list"):=by decide +kernel
def KI:bootBuiltins "dict"=some (.type "dict"):=by decide +kernel
def C6:bootBuiltins "range"=some (.type "range"):=by decide +kernel
def CY{A B:Prop}(h:B):if (!true)=true then A else B:=h
def Nv{A B:Prop}(h:A):if (!false)=true then A else B:=h
def aL{j:Nat}{a:Pos}{b:List Expr}{t:TA}(h:PA X b t):PA X (.Constant (.str x) j a::b) (xJ (tC (.str x)) t):=aA cB h rfl
def xW{R:Result->Shared->Prop}{a:Expr}{B p:Value}(I:Nat->Shared->Prop)(q:∀n s,I n s->wpAny (model prog w) A (pyNext B) (λr e=>match r with
 |none=>R (.ok .next) e
 | some v=>wpAny (model prog w) A (letOwnedTupleGo a B v) (λ_ d=>wpAny (model prog w) A (assign a env v) (λ_ j=>
     wpAny (model prog w) A (forIn ifs true λc r=>if r=true then do let t <-isTrue c env (eval c env);pure (ForInStep.yield t) else pure (ForInStep.yield r)) (λt b=>
      if t=true then wpAny (model prog w) A (eval elt env) (λx i=>
       wpAny (model prog w) A (call (.builtin "list.append") [p,x]) (λ_ g=>∃m,m<n/\I m g) (λ_ _=>False) i) (λ_ _=>False) b
      else ∃m,m<n/\I m b) (λ_ _=>False) j) (λ_ _=>False) d) (λ_ _=>False) e) (λ_ _=>False) s)(n:Nat)(h:I n s):codeAny (model prog w) A (.compLoop (.ListComp elt [⟨a,iter,ifs,0⟩] scope pos) 0 B p env) R s:=by
 refine codeAny_loop rfl I (λn s C=>?_) n h;show wpAny _ A ((compTurn (.ListComp elt [⟨a,iter,ifs,0⟩] scope pos) 0 B p env).onRaise (λx=>do noteFrame x env;theTreesLotGoes x)) _ _ s
 refine wpAny_noted ?_;rw[compTurn_list];refine Ad (Ew (Ad (Ck (q n s C) (λr e l=>?_) λ_ _ f=>f.elim)));cases r with
 |none=>exact Ap l
 |some v=>
  refine Ad (Ck l (λ_ d o=>?_) λ_ _ f=>f.elim);refine Ad (Ck o (λ_ j z=>Ad (Ck z (λt b k=>?_) λ_ _ f=>f.elim)) λ_ _ f=>f.elim);cases t with
  |false=>exact Ap ⟨rfl,k⟩
  |true=>
   exact Ad (Ad (Ck k (λx i y=>Ad (Ck y (λ_ g u=>Ap (Ap ⟨rfl,u⟩)) λ_ _ f=>f.elim)) λ_ _ f=>f.elim))
noncomputable def Za(X:Cx)(N:List Str)(a:Scope)(b:List (Str×Addr))(C:Addr)(s₀:Shared)(H₀:Hp)(ex:List Addr):Cx:=
 {prog:=X.prog,w:=X.w,K:=X.K,mg:=X.mg,base:=X.base,A:=X.A,N:=N,s₀:=s₀,H₀:=H₀,env:=compEnvC a b C X.env,outer:=X.stack,stack:=X.stack,ex:=ex,fn:=λ_=>false,calm:=X.calm,pn:=[],xe:=λ_ _=>False}
structure X5 (X:Cx) (N:List Str) (scope:Scope) (cl:List (Str×Addr)) (vals:St->St):Prop where
 clos:closureFor scope X.env=pure cl
 sub:∀x c,cl.lookup x=some c->X.env.cells.lookup x=some c
 has:∀x,((relabel scope X.env).names.lookup x=some .cell\/(relabel scope X.env).names.lookup x=some .free)->∃c,cl.lookup x=some c
 len:∀U,(vals U).length=N.length
 val:∀U (i:Nat) x v,N[i]?=some x->(vals U)[i]?=some (some v)->∃(j:Nat),X.N[j]?=some x/\U[j]?=some (some v)/\X.env.scope.names.lookup x=some .cell/\(∃c,cl.lookup x=some c)/\(relabel scope X.env).names.lookup x=some .cell
def PF(X:Cx)(a:List Expr)(t:TT):Prop:=∀b s (U:St) H Q,Inv X b U H s->t U H Q->
 wpAny (model X.prog X.w) X.A (forIn a true λc r=>if r=true then do let d <-isTrue c X.env (eval c X.env);pure (ForInStep.yield d) else pure (ForInStep.yield r)) (TP X b U Q) X.xe s
def Oh:TT:=λ_ H Q=>Q true H
def cI:PF X [] Oh:=λa s U H Q I q=>wpAny_tests_nil ⟨H,I,q⟩
def jS{c:Expr}{t:TT}(h:PT X c t):PF X [c] t:=λa s U H Q I q=>wpAny_tests_one (h a s U H Q I q)
section
variable {U:St} {s2:Shared} {vals:St->St}
def vK(I:Inv X y0 U H2 s2)(d:X5 X N scope cl vals)(f:scope.kind=.function)(k:∀b∈fp,gY X y0 H2 b)(t:∀b∈fp,b<s2.heap.objs.size)(s:h1.Ns s2.heap.objs.size λ_=>none)(n:Heap.SameBut s2.heap.objs.size (s2.heap.push {cls:=.type "dict",data:=.dict #[]}) h1):Inv (Za X N scope cl s2.heap.objs.size s2 H2 fp) [] (vals U) H2 {s2 with heap:=h1,toks:=t1}:=by
 have a:∀b o,s2.heap.get? b=some o->h1.get? b=some o:=λb o e=>(n.2 b (Bb (Av e))).trans (Af _ e)
 have F:=I.Z8.fresh (Ai _)
 refine⟨⟨I.ok.mod,f,I.ok.glob,I.ok.blt,Ai _,λx y c h1 h2=>I.ok.inj x y c (d.sub x c h1) (d.sub y c h2),d.has,(λx c h=>nomatch h),I.ok.hd,I.ok.frames,.inl rfl,λb g=>⟨Bb (t b g),λx c e=>(k b g).2.2.2.2.1 x c (d.sub x c e)⟩,
  I.bs,Nat.le_trans I.ok.XF I.sz,λb o e g=>?_,λb g hs=>?_,I.stack,I.YY⟩,rfl,I.bare,Un.kept a,⟨_,s,λi x v J H _=>?_⟩,λx c e=>?_,F,λx c e=>I.ZI x c (d.sub x c e),λp D=>absurd (show p∈([]:Q4) from D) (by simp),I.Z8.kept a,d.len U⟩
 .rcases (k b g).2.2.2.1 with z|z
  .exact I.ok.X2 b o e z
  .exact absurd (Bc (Av e) (Cd I.ok.XF z)) (Dk _)
 .rcases Ba.mp (I.Yh b hs) with z|z
  .exact(k b g).2.1 z
  .exact(k b g).2.2.1 z
 .obtain⟨j,h1,h2,B,⟨c,A⟩,G⟩:=d.val U i x v J H;obtain⟨m,K,E⟩:=I.loc;obtain⟨u,r,l⟩:=E j x v h1 h2 (.inr (.inl B));refine⟨u,r,.inr ⟨.inl G,c,A,?_⟩⟩;rcases l with⟨z,_⟩|⟨_,c',C,z⟩
  .have z':X.env.scope.names.lookup x=some .local:=z
   rw[B]at z';cases z'
  .rw[d.sub x c A]at C;cases C;obtain⟨o,q,w⟩:=z;exact⟨o,a _ o q,w⟩
 .obtain⟨v,o,q,w⟩:=I.cell x c (d.sub x c e);exact⟨v,o,a _ o q,w⟩
def Qb{A:St}{s':Shared}{a:Heap}{d:Q4}(I:Inv X y0 U H2 s2)(t:∀b∈fp,gY X y0 H2 b)(g:Inv (Za X N scope cl s2.heap.objs.size s2 H2 fp) d A H' s')(i:Heap.SameBut s2.heap.objs.size s'.heap a):Inv X y0 U H' {s' with heap:=a}:=by
 have r:Un (YV X.stack) (s2.heap.objs.size::fp) H2 H' s2.heap s'.heap:=g.base.mono (λ_ z=>z) λb z=>Am _ z
 have y:H' s2.heap.objs.size=none:=g.free
 have k:∀b o,b≠s2.heap.objs.size->s'.heap.get? b=some o->a.get? b=some o:=λb o l e=>(i.2 b l).trans e
 have p:Un (YV X.stack) (s2.heap.objs.size::fp) H' H' s'.heap a:=⟨λb o e _ _ f=>k b o (λz=>f (by simp[z])) e,λb o e _ _ f=>⟨o.slots,k b o (λz=>f (by simp[z])) e⟩,λ_ _ _ n _=>n,
  λb o e f=>⟨o,k b o (λz=>f (by simp[z])) e⟩,λ_ _ e=>e,λ_ _ _ e=>e,λb B e=>⟨#[],by rw[e];simp⟩⟩
 have j:=λb u e=>by
  have m:∀c v,H' c=some v->c≠s2.heap.objs.size:=λc v e z=>by rw[z,y]at e;cases e
  refine(g.Z8 b u e).Zl (λc v x q=>k c v ?_ q) (λ_ q=>q) λ_ _ q=>q;grind
 refine I.WN (s':={s' with heap:=a}) (ch:=s2.heap.objs.size::fp) g.os (r.trans p) j g.bare λb l=>?_
 have q:gY X y0 H2 b:=by
  rcases Ba.mp l with z|z
  .subst z;exact I.YO (Ai _) (I.Z8.fresh (Ai _))
  .exact t b z
 exact⟨q.2.2.2.1,q.2.1,q.2.2.2.2.1,q.2.2.2.2.2⟩
end
def Wk(a U:St):Prop:=a.length=U.length/\∀(i:Nat) v,a[i]?=some (some v)->U[i]?=some (some v)
def Wk.refl(U:St):Wk U U:=⟨rfl,λ_ _ h=>h⟩
def Wk.set{a U:St}(h:a[k]?=some none)(w:Wk a U):Wk a (U.set k (some v)):=by
 refine⟨by rw[Dm];exact w.1,λi u e=>?_⟩
 have b:k≠i:=λz=>by grind
 rw[Ek b];exact w.2 i u e
def dJ(g:TG)(a:TT)(o:TE)(h:St)(Q:VK)(J:It)(l:Hp):Prop:=∀D,l D=none->∃W:Nat->Nat->Hp->Prop,(∃m,W 0 m (upd l D (.lst [])))/\∀i m d,W i m d->
 (J.stop i d/\Q (.ref D) d)\/(J.go i d/\∀x n,J.Xa i d x n->g x h n λf p=>Wk h f/\a f p λb k=>if b=true then
  o f k λy j=>∃e,j D=some (.lst e)/\e.length<sizeLine/\∃c,c < m/\W (i+1) c (upd j D (.lst (e++[y]))) else ∃c,c < m/\W (i+1) c k)
def Su(wi:TI)(g:TG)(a:TT)(c:TE)(b:St->St):TE:=λU H Q=>wi U H λJ d=>dJ g a c (b U) Q J d
def RN{U:St}{a:Shared}{f:St->St}{tn:Nat->Heap->Prop}{RR:Value->Addr->Result->Shared->Prop}(I2:Inv X y0 U H2 a)(T:Turn X.prog X.w X.K tg J fp it tn)(b2:tn 0 a.heap)(f2:∀b∈fp,gY X y0 H2 b)(hc:X.calm=true)(ck:X5 X N scope cl f)(a1:∀y∈scope.names,y.2≠.cell)(M:scope.kind=.function)(hg:∀C B F ex,PG (Za X N scope cl C B F ex) tg g)(ht:∀C B F ex,PF (Za X N scope cl C B F ex) ifs tests)(he:∀C B F ex,PE (Za X N scope cl C B F ex) elt te)(h:dJ g tests te (f U) Q J H2)(c5:∀D C L k m,L.heap.Ns C m->Q (.ref D) k->(∀a2,Heap.SameBut C L.heap a2->Inv X y0 U k {L with heap:=a2})->gY X y0 k C->RR (.ref D) C (.ok .next) L):wpAny (model X.prog X.w) X.A (newList []) (λb4 a6=>wpAny (model X.prog X.w) X.A (newFunctionEnv scope X.env.globals cl [] X.env.qual none .none (some X.env)) (λV z=>
 codeAny (model X.prog X.w) X.A (.compStart (.ListComp elt [⟨tg,iter,ifs,0⟩] scope pos) 0 (.ref it) b4 {V with scope:=relabel scope X.env}) (RR b4 V.locals) z) E a6) E a:=by
 have hD:=I2.Z8.fresh (Ai _)
 obtain⟨W,⟨m0,w0⟩,a5⟩:=h _ hD;have c4:∀b∈fp,b<a.heap.objs.size:=λb l=>by
  obtain⟨o,e,_⟩:=T.obj 0 _ b2 b l;exact Av e
 refine Gf ?_
 -- the list is laid
 have I3:=
  I2.Xi (ys:=[]) (its:=[]) (t':=a.toks) .nil (Do _)
 have f3:∀b∈fp,gY X y0 (upd H2 a.heap.objs.size (.lst [])) b:=λb l=>⟨by rw[aK (Bb (c4 b l))];exact(f2 b l).1,(f2 b l).2⟩
 have Z:tn 0 (a.heap.push {cls:=.type "list",dict:=none,data:=.seq ([]:List Value).toArray}):=T.keep _ _ _ b2 λb _ o e=>Af _ e
 generalize c2:({a with heap:=a.heap.push {cls:=.type "list",dict:=none,data:=.seq ([]:List Value).toArray}}:Shared)=j at I3 ⊢
 have e3:j.heap=a.heap.push {cls:=.type "list",dict:=none,data:=.seq ([]:List Value).toArray}:=by rw[<-c2]
 rw[<-e3]at Z;have S:∀b∈fp,b<j.heap.objs.size:=λb l=>by
  obtain⟨o,e,_⟩:=T.obj 0 _ Z b l;exact Av e
 refine wpAny_newFunctionEnv a1 (by intro y hy;simp at hy) (λG P I=>?_) M
 have c3:=P
 have I4:=vK (t1:=j.toks) I3 ck M f3 S c3 I
 have b9:∀b o,j.heap.get? b=some o->G.get? b=some o:=λb o e=>(I.2 b (Bb (Av e))).trans (Af _ e)
 have b1:=T.keep _ _ _ Z λb _ o e=>b9 b o e
 have R:∀ z,z={ j with heap:=G,toks:=j.toks }->
     codeAny (model X.prog X.w) X.A (.compLoop (.ListComp elt [⟨tg,iter,ifs,0⟩] scope pos) 0 (.ref it) (.ref a.heap.objs.size) (compEnvC scope cl j.heap.objs.size X.env))
      (RR (.ref a.heap.objs.size) j.heap.objs.size) z:=by
  rintro z rfl;have a3:∀ {k:Hp},(∀b∈fp,k b=none)->∀b∈fp,gY (Za X N scope cl j.heap.objs.size j (upd H2 a.heap.objs.size (.lst [])) fp) [] k b:=λhn b l=>
   ⟨hn b l,Nat.ne_of_lt (S b l),λhs=>I4.ok.Yk b l hs,.inl l,λx c e=>(I4.ok.Wq b l).2 x c e,λp hp=>absurd (show p∈([]:Q4) from hp) (by simp)⟩
  refine xW (λn L=>∃i k,Inv (Za X N scope cl j.heap.objs.size j (upd H2 a.heap.objs.size (.lst [])) fp) [] (f U) k L/\tn i L.heap/\(∀b∈fp,k b=none)/\W i n k) ?_ m0
   ⟨0,_,I4,b1,λb l=>(f3 b l).1,w0⟩
  rintro n s5 ⟨i,H5,I5,a9,b3,w5⟩;rcases a5 i n H5 w5 with⟨a7,q⟩|⟨go,a8⟩
  .refine ZY (T.done (Za X N scope cl j.heap.objs.size j (upd H2 a.heap.objs.size (.lst [])) fp) rfl rfl rfl hc i [] s5 (f U) H5 (λ_ _=>False) I5 (a3 b3) a9 a7) λr s6 ⟨hr,I6⟩=>?_;subst hr;obtain⟨m,hn,_⟩:=id I6.loc;exact c5 _ _ s6 H5 m hn q (λa2 c1=>Qb I3 f3 I6 c1) (I3.YO (Ai _) I6.free)
  .refine ZY (T.item (Za X N scope cl j.heap.objs.size j (upd H2 a.heap.objs.size (.lst [])) fp) rfl rfl rfl hc i [] s5 (f U) H5 (λ_ _=>False) I5 (a3 b3) a9 go) λr s6 ⟨u,hr,h6⟩=>?_;subst hr;refine ZY h6 λ_ s7 ⟨x,H7,I7,r7,y7,Y,c6⟩=>?_;have c8:=I7.pinned (a3 c6) (T.obj _ _ Y)
   refine ZY (hg _ _ _ _ _ s7 (f U) H7 x u _ c8 r7 (a8 x H7 y7)) λ_ s8 ⟨U8,H8,I8,a4,q8⟩=>?_;refine ZY (ht _ _ _ _ _ s8 U8 H8 _ I8 q8) λb s9 ⟨H9,I9,q9⟩=>?_;have O:∀ {m':Nat} {L:Shared} {k:Hp},Inv (Za X N scope cl j.heap.objs.size j (upd H2 a.heap.objs.size (.lst [])) fp) ([]++nN fp s7.heap) U8 k L->m' < n->W (i+1) m' k->
       ∃m,m<n/\∃i k,Inv (Za X N scope cl j.heap.objs.size j (upd H2 a.heap.objs.size (.lst [])) fp) [] (f U) k L/\tn i L.heap/\(∀b∈fp,k b=none)/\W i m k:=fun {m' L k} J7 hm w7=>by
    refine⟨m',hm,i+1,k,(J7.weak a4.1 a4.2).Y9,T.keep _ _ _ Y λb l o e=>(J7.pin (b,o) (Bg _ (Bg _ (gH l e)))).1,λb l=>?_,w7⟩;obtain⟨o,e,d⟩:=T.obj _ _ Y b l;exact(J7.pin (b,o) (Bg _ (Bg _ (gH l e)))).2.1
   cases b with
   |true=>
    rw[if_pos rfl]at q9 ⊢;refine ZY (he _ _ _ _ _ s9 U8 H9 _ I9 q9) λv b7 ⟨y,b5,d1,b8,zs,hz,hl,m',hm,b6⟩=>?_;have ap:=tF ([]++nN fp s7.heap) b7 U8 b5 (.ref a.heap.objs.size) [y] (.ref a.heap.objs.size) [v] (λ_ k=>k=upd b5 a.heap.objs.size (.lst (zs++[y]))) d1 rfl (.cons b8 .nil) ⟨_,_,_,rfl,rfl,hz,hl,rfl⟩
    refine ZY ap λ_ d2 ⟨_,d3,c9,_,c7⟩=>?_;subst c7;exact O c9 hm b6
   |false=>
    rw[if_neg Aq]at q9 ⊢;obtain⟨m',hm,w9⟩:=q9;exact O I9 hm w9
 exact codeAny_compStart_list (R _ rfl) (T.self _ 0 _ _ _ b1 (R _ rfl))
section
variable {vals:St->St} {spos py:Pos}
def cD(K:X.calm=true)(E:PI X tg iter wi)(r:X5 X N scope cl vals)(f:∀y∈scope.names,y.2≠.cell)(c:scope.kind=.function)(d:∀x∈scope.names,x.2=.local->scope.names.lookup x.1=some .local)(F:∀C a b i,PG (Za X N scope cl C a b i) tg g)(z:∀C a b i,PF (Za X N scope cl C a b i) ifs tests)(G:∀C a b i,PE (Za X N scope cl C a b i) elt te)(hs:∀x,foldedSetIterable iter X.env x=pure x:=by intro _;rfl):PE X (.ListComp elt [⟨tg,iter,ifs,0⟩] scope pos) (Su wi g tests te vals):=by
 intro p s U H Q I h;refine Gu  rfl hs r.clos c d (ZY (E p s U H _ I h) λv W M=>ZY M λu V L=>?_);obtain⟨Z,fp,S,J,H2,e,P,T,k,O,q⟩:=L;subst e;refine RN  P T k O K r f c F z G q λD C Y R m B t j _=>?_;exact⟨m,B,λn l=>⟨.ref D,R,j n l,rfl,t⟩⟩
def dW{i:Nat}(hN:X.N.Nodup)(L:X.N[i]?=some x)(Z:Loc X.env.scope x)(hc:X.calm=true)(hi:PI X tg iter wi)(S:X5 X N scope cl vals)(n:∀y∈scope.names,y.2≠.cell)(f:scope.kind=.function)(j:∀x∈scope.names,x.2=.local->scope.names.lookup x.1=some .local)(hg:∀C c d u,PG (Za X N scope cl C c d u) tg g)(ht:∀C c d u,PF (Za X N scope cl C c d u) ifs tests)(he:∀C c d u,PE (Za X N scope cl C c d u) elt te)(K:swapsWith (.ListComp elt [⟨tg,iter,ifs,0⟩] scope pos) (some (.Name x py)) spos.line X.env=pure true:=by rfl)(hf:X.fn x=true\/X.env.scope.names.lookup x=some .local:=by first|exact .inl rfl|exact .inr rfl|assumption)(hs:∀x,foldedSetIterable iter X.env x=pure x:=by intro _;rfl):PS X (.Assign [.Name x py] (.ListComp elt [⟨tg,iter,ifs,0⟩] scope pos) spos) (VO (Su wi g tests te vals) (iT i)):=by
 intro E s U H D I h;rw[exec_Assign_Name_used _ _ _ _ K];refine Ad (Ew (Ad ?_));show wpAny _ X.A (do let _ <-comprehension (.ListComp elt [⟨tg,iter,ifs,0⟩] scope pos) scope X.env _ (newList []) false (eval iter X.env) (some (assign (.Name x py) X.env))) _ _ s
 refine Ad (Ck (Gu (use:=some (assign (.Name x py) X.env)) (Q:=λ_ k=>SP X E D .next k) rfl hs S.clos f j
  (ZY (hi E s U H _ I h) λv s1 h1=>ZY h1 λY s2 h2=>?_)) (λ_ k hq=>Ap (Ap hq)) λ_ _ e=>e)
 obtain⟨it,fp,tn,J,H2,e,I2,T,F,f2,q⟩:=h2;subst e;refine RN (RR:=λO C=>compPost (model X.prog X.w) X.A X.xe (some (assign (.Name x py) X.env)) (λ_ k=>SP X E D .next k) O C) I2 T F f2 hc S n f hg ht he q λR C k V m hn W B p=>?_;show wpAny _ X.A (assign (.Name x py) X.env (.ref R)) _ _ k
 have I':=B k.heap (Heap.SameBut.refl ..)
 refine wpAny_assign_Name (sM I' hN L Z (v:=.ref R) rfl (λG P l=>?_) hf);obtain⟨a,l,ha⟩:=l;have M:C≠a:=by
  rcases ha with z|z
  .rw[z];exact p.2.1
  .exact λe=>p.2.2.2.2.1 x a z e.symm
 refine⟨m,hn.sameBut l M,λh3 r=>?_⟩;exact⟨U.set i (some (.ref R)),V,P.turned (t':=G.toks) (λb o hb e=>(r.2 b hb).trans e) p.1 p.2.1 p.2.2.2.1 p.2.2.2.2.1 p.2.2.2.2.2,W⟩
def dZ(a:∀x∈scope.names,x.2≠.free)(b:∀y∈scope.names,y.2≠.cell):X5 X N scope [] (λ_=>N.map λ_=>none) where
 clos:=closureFor_none a
 sub:=λx c h=>nomatch h
 has:=λx h=>by
  have e:(relabel scope X.env).names=scope.names:=by
   show List.map _ scope.names=scope.names
   refine map_eq_self λy f=>?_;grind
  rw[e]at h;rcases h with h|h
  .exact absurd rfl (b _ (De h))
  .exact absurd rfl (a _ (De h))
 len:=λU=>by simp
 val:=λU i x v g d=>by simp_all
end
section
variable {U0:St}
def KJ{xs:List V}{ok:Hp->Prop}(f:V->Option V)(l:∀i H,ok H->i<xs.length->J.go i H)(k:∀H,ok H->J.stop xs.length H)(u:∀i H x j,ok H->J.Xa i H x j->j=H/\xs[i]?=some x)(a:∀D t,H1 D=none->ok (upd H1 D (.lst t)))(r:xs.length<sizeLine)(hs:∀(i:Nat) x d A (B:Hp->Prop),xs[i]?=some x->ok d->(match f x with|some y=>A y d|none=>B d)->g x U0 d λo v=>Wk U0 o/\tests o v λb s=>if b=true then te o s A else B s)(n:∀D,H1 D=none->Q (.ref D) (upd H1 D (.lst (xs.filterMap f)))):dJ g tests te U0 Q J H1:=by
 intro D h;refine⟨λi m d=>m=xs.length-i/\i<=xs.length/\d=upd H1 D (.lst ((xs.take i).filterMap f)),⟨xs.length,by simp,Nat.zero_le _,by simp⟩,?_⟩
 rintro i m d ⟨rfl,w,rfl⟩;by_cases c:i<xs.length
 .refine .inr ⟨l i _ (a D _ h) c,λx j y=>?_⟩;obtain⟨e,q⟩:=u i _ x j (a D _ h) y;subst e;refine hs i x _ _ _ q (a D _ h) ?_;have p:xs.take (i+1)=xs.take i++[x]:=by rw[Bf,q];rfl
  cases e:f x with
  |some y=>
   refine⟨_,aG,?_,xs.length-(i+1),by ((try clear r w);omega),rfl,c,?_⟩
   .have:=Cz f (xs.take i)
    rw[Bi]at this;((try clear w);omega)
   .rw[OH,p,Bu];simp[e]
  |none=>
   refine⟨xs.length-(i+1),by ((try clear r w);omega),rfl,c,?_⟩
   rw[p,Bu];simp[e]
 .have e:i=xs.length:=by ((try clear r);omega)
  subst e;rw[Cm];exact .inl ⟨k _ (a D _ h),n D h⟩
def T7(f:Nat->Option V)(o:z.length<sizeLine)(hs:∀(i:Nat) c d A (B:Hp->Prop),z.cps.toList[i]?=some c->(match f c with|some y=>A y d|none=>B d)->g (.str ⟨#[c]⟩) U0 d λl s=>Wk U0 l/\tests l s λb m=>if b=true then te l m A else B m)(k:∀D,H1 D=none->Q (.ref D) (upd H1 D (.lst (z.cps.toList.filterMap f)))):dJ g tests te U0 Q (Xh z) H1:=by
 have j:z.cps.toList.length=z.length:=by simp[Str.length]
 have n:z.cps.size=z.length:=rfl
 refine KJ (xs:=z.cps.toList.map λc=>.str ⟨#[c]⟩) (ok:=λ_=>True) (λx=>match x with|.str y=>f (y.cps.toList.headD 0)|_=>none) (λi H _ h=>?_) (λH _=>?_) (λi H x t _ y=>?_) (λ_ _ _=>trivial) (by rw[Ac,j];exact o) (λi x d A B a _ h=>?_) (λD r=>?_)
 .rw[Ac,j]at h;exact h
 .show z.cps.size<=_
  rw[Ac,j];exact Ai _
 .obtain⟨e,c,p,a⟩:=y;refine⟨e,?_⟩;rw[Ae,Dq,p,a];rfl
 .rw[Ae]at a;cases e:z.cps.toList[i]? with
  |none=>rw[e]at a;cases a
  |some c=>rw[e]at a;cases a;exact hs i c d A B e h
 .have q:=k D r
  rw[Fz];exact q
end
def E5{a:St->St}{U:St}(h:wi U H λJ b=>dJ g tests te (a U) Q J b):Su wi g tests te a U H Q:=h
def GX{Q:Bool->Hp->Prop}(h:Q true H):Oh U H Q:=h
noncomputable def Xw(a:Env):List (Str×NameKind)->List (Str×Addr)->List (Str×Addr)
 |[],acc=>acc
 |(n,k)::r,acc=>if k == .free then Xw a r ((n,(a.cells.lookup n).getD 0)::acc) else Xw a r acc
noncomputable def TK(a:List (Option Nat)):St->St:=λU=>a.map λo=>match o with|none=>none|some j=>(U[j]?).join
noncomputable def Qo(N c:List Str)(sn b:List (Str×NameKind))(a:List (Option Nat)):Bool:=
 a.length==N.length&&(sn.all λy=>y.2 != .cell&&(y.2 != .free || b.lookup y.1==some .cell))&&decide ((sn.map (·.1)).Nodup) &&
 ((List.range N.length).all λi=>match a[i]? with|some (some j)=>N[i]? == c[j]? && (match N[i]? with|some x=>sn.lookup x==some .free|none=>false)|_=>true)
def uV:∀b d,(∀y∈b,y.2=.free->∃c,env.cells.lookup y.1=some c)->
 (forIn b d (λx l=>(match x with
  | (f,g)=>if (g == NameKind.free)=true then do
      let a <-cellOf env f
      pure (ForInStep.yield ((f,a)::l))
   else pure (ForInStep.yield l):Sem (ForInStep (List (Str×Addr))))))=(pure (Xw env b d):Sem (List (Str×Addr)))
 |[],d,_=>rfl
 |(n,k)::r,d,h=>by
  rw[List.forIn_cons];unfold Xw;cases e:k==NameKind.free with
  |false=>
   simp only[e,Bool.false_eq_true,if_false,pure_bind];exact uV r d λy i=>h y (Am _ i)
  |true=>
   obtain⟨c,m⟩:=h (n,k) List.mem_cons_self (by simp_all)
   have j:=m
   simp only[e,if_true,cellOf,j,Option.getD_some,pure_bind];exact uV r _ λy i=>h y (Am _ i)
def uY:∀a b {x:Str} {c:Addr},(Xw env a b).lookup x=some c->
 b.lookup x=some c\/((x,NameKind.free)∈a/\c=(env.cells.lookup x).getD 0)
 |[],b,x,c,h=>.inl h
 |(n,k)::r,b,x,c,h=>by
  unfold Xw at h;cases e:k==NameKind.free with
  |false=>
   rw[e]at h;rcases uY r b (by simpa using h) with z|⟨z,q⟩
   .exact .inl z
   .exact .inr ⟨Am _ z,q⟩
  |true=>
   rw[e]at h;have g:k=.free:=by simp_all
   rcases uY r _ (by simpa using h) with z|⟨z,q⟩
   .rw[Cs]at z;cases f:x==n with
    |true=>
     grind
    |false=>rw[f]at z;exact .inl z
   .exact .inr ⟨Am _ z,q⟩
def R8:∀b a {x:Str},(a.lookup x).isSome=true->((Xw env b a).lookup x).isSome=true
 |[],a,x,h=>h
 |(n,k)::r,a,x,h=>by
  unfold Xw;split
  .refine R8 r _ ?_;rw[Cs];cases c:x==n with
   |true=>rfl
   |false=>exact h
  .exact R8 r a h
def pV:∀a b {x:Str},(x,NameKind.free)∈a->((Xw env a b).lookup x).isSome=true
 |_::r,b,x,h=>by
  unfold Xw;rcases Ba.mp h with z|z
  .cases z;refine R8 r _ ?_;rw[Cs,Ey];rfl
  .split
   .exact pV r _ z
   .exact pV r b z
def kU:∀ {a:List (Str×NameKind)} {c:NameKind},(a.map λ(n,k)=>if (k==NameKind.free&&env.scope.kind == .function&&env.kindOf n==some .cell) then (n,NameKind.cell) else (n,k)).lookup x=some c->
 ∃k,(x,k)∈a/\(c=k\/(k=.free/\c=.cell))
 |[],_,h=>by simp at h
 |(n,k)::r,c,h=>by
  rw[Ax]at h;dsimp only at h;cases e:(k==NameKind.free&&env.scope.kind == .function&&env.kindOf n==some .cell) with
  |true=>
   rw[e,if_pos rfl,Cs]at h;cases b:x==n with
   |true=>
    grind
   |false=>
    rw[b]at h;obtain⟨d,g,f⟩:=kU h;exact⟨d,Am _ g,f⟩
  |false=>
   rw[e,if_neg Aq,Cs]at h;cases b:x==n with
   |true=>
    grind
   |false=>
    rw[b]at h;obtain⟨d,g,f⟩:=kU h;exact⟨d,Am _ g,f⟩
def tU(d:env.scope.kind=.function)(c:env.kindOf x=some .cell):∀ {a:List _},a.lookup x=some .free->
 (a.map λ(n,k)=>if (k==NameKind.free&&env.scope.kind == .function&&env.kindOf n==some .cell) then (n,NameKind.cell) else (n,k)).lookup x=some .cell
 |(n,k)::r,h=>by
  rw[Ax];dsimp only;rw[Cs]at h;cases b:x==n with
  |true=>
   grind
  |false=>
   rw[b]at h;have e:=tU d c h
   split<;>(rwa[Cs,b])
def fG{N:List Str}(B:List Str)(g:Scope)(p:List (Option Nat))(G:X.N=B)(f:X.env.scope=g)(D:g.kind=.function)(m:∀x,g.names.lookup x=some .cell->∃c,X.env.cells.lookup x=some c)(c:Qo N B scope.names g.names p=true):X5 X N scope (Xw X.env scope.names []) (TK p):=by
 unfold Qo at c;simp only[Bool.and_eq_true,decide_eq_true_eq,List.all_eq_true,beq_iff_eq]at c;obtain⟨⟨⟨I,A⟩,K⟩,H⟩:=c;have r:∀y,(y,NameKind.free)∈scope.names->g.names.lookup y=some .cell:=λy l=>by
  have z:=(A _ l).2
  simpa using z
 have d:∀y,(y,NameKind.cell)∉scope.names:=λy l=>by
  have z:=(A _ l).1
  simp at z
 refine⟨?_,λx c h=>?_,λx h=>?_,λU=>?_,λU i x v b a=>?_⟩
 .unfold closureFor;simp only[bind_pure];exact uV scope.names [] λy l F=>m y.1 (r y.1 (by rw[<-F];exact l))
 .rcases uY _ _ h with z|⟨z,q⟩
  .simp at z
  .obtain⟨L,e⟩:=m x (r x z);rw[q,e];rfl
 .have:∃ k,(x,k)∈scope.names/\k=.free:=by
   rcases h with h|h
   .obtain⟨k,b,a⟩:=kU h;rcases a with z|⟨z,_⟩
    .subst z;exact absurd b (d x)
    .exact⟨k,b,z⟩
   .obtain⟨k,b,a⟩:=kU h;rcases a with z|⟨z,J⟩
    .exact⟨k,b,z.symm⟩
    .exact⟨k,b,z⟩
  obtain⟨k,b,rfl⟩:=this;exact Dt.mp (pV scope.names [] b)
 .unfold TK;rw[Ac,I]
 .unfold TK at a;rw[Ae]at a;cases e:p[i]? with
  |none=>rw[e]at a;cases a
  |some o=>
   rw[e]at a;cases o with
   |none=>cases a
   |some j=>
    have E:=(Ag.mp b).1
    have z:=H i (Cu.mpr E)
    rw[e,b]at z;simp only[Bool.and_eq_true,beq_iff_eq]at z;have C:U[j]?=some (some v):=by
     have n:(U[j]?).join=some v:=by simpa using a
     cases w:U[j]? with
     |none=>rw[w]at n;cases n
     |some o=>rw[w]at n;cases o with
      |none=>cases n
      |some u=>cases n;rfl
    have t:=De z.2
    have s:=r x t
    refine⟨j,by rw[G];exact z.1.symm,C,by rw[f];exact s,Dt.mp (pV scope.names [] t),?_⟩
    exact tU (by rw[f];exact D) (by show X.env.scope.names.lookup x=_;rw[f];exact s) z.2
section
open PySem.AutoSeq1 (wpAny_loadPart')
def OV{c:Bool}{x y:Sem α}{Q:α->Shared->Prop}(b:wpAny M A x Q E s)(a:wpAny M A y Q E s):wpAny M A (if c=true then x else y) Q E s:=by
 cases c
 .exact a
 .exact b
def BJ(l:Addr)(its:Array Value)(n:Nat)(q:Option Addr)(i:Array (Option Value))(k:Int)(t:Tok)(o:Builtin.SmallTypes.fitsIndex k=true):Meets (Builtin.«enumerate.__new__» ⟨[.type "enumerate",.ref l],[("start",.int k t)]⟩) (λ_ R s=>s.heap.get? l=some ⟨.type "list",q,.seq its n,i⟩/\
 R (.ok (.ret (.ref (s.heap.push {cls:=.type "list_iterator",data:=.fields #[.ref l,.int 0 0]}).objs.size)))
  {s with heap:=(s.heap.push {cls:=.type "list_iterator",data:=.fields #[.ref l,.int 0 0]}).push ⟨.type "enumerate",none,.fields #[.none,.bool false,.ref s.heap.objs.size,rawInt k,.none,.none],#[]⟩}):=
 .of_wp λb w A R s h=>by
  obtain⟨e,g,d,f,j⟩:=s;obtain⟨a,h⟩:=h;have c:=sub_enumerate
  have p:Heap.IsList e l its:=⟨_,a,rfl,n,rfl⟩
  have m:(!Builtin.SmallTypes.fitsIndex k)=false:=by rw[o];rfl
  wp_walk using Cf a
  refine wpAny_stack_any λr=>Ap ?_;refine OV ?_ ?_ <;>
  .wp_walk using (Cf a),(Dp (s:=⟨e,g,d,f,j⟩) p)
   exact⟨_,rfl,h⟩
def qL{u:Builtin}{a:List Value}{d:List (Str×Value)}{S:PySem.Spec}{Q Q1:Q2}(b:TypeCalled T newId "object.__init__")(x:checkTypeCall T ⟨a,d⟩=pure ())(m:checkBuiltinCall newId ⟨.type T::a,d⟩=pure ())(C:entryFor table newId=some u)(g:Meets (u ⟨.type T::a,d⟩) S)(h:S A.in1 (wants Q1 E) s)(k:∀o f,Q1 o f->f.TypeIs o T/\argsOk "object.__init__" ⟨o::a,d⟩/\∃n,Meets (Builtin.«object.__init__» ⟨o::a,d⟩) n/\n A.in1 (wants (λr p=>r=.none/\Q o p) E) f):wpAny (model prog w) A (call (.type T) a d) Q E s:=by
 obtain⟨c,D,t⟩:=b.mro;have l:=b.made
 have q:=b.sub
 have I:=b.notType
 have H:=b.canCreate
 refine Fk (codeAny_of_tree (show wpAny _ _ (callAny (.type T) _) _ _ _ from Ap ⟨Code.quiet_builtin _ (by decide +kernel),Du F.entry_type_call ?_⟩))
 rw[Around.under_plain (weight_type_call_type T a d) (units_type_call_type T a d)];repeat (any_goals first|assumption|wp_step)
 refine Ff (El b.plain C (wpAny_of_eq m (g prog w A.in1 _ s h))) ?_;rintro(e|fl) f hr
 .exact hr
 .cases fl with
  |ret o=>
   obtain⟨z,j,n,B,i⟩:=k _ _ hr;have v:=b.init.lookup
   have y:=b.init.bind o
   repeat (any_goals first|assumption|wp_step)
   refine Ff (El b.init.plain F.entry_object_init (b.init.check _ _ _ _ _ _ _ _ z j (B prog w A.in1 _ f i))) ?_;rintro(e|fl2) p hr2
   .exact hr2
   .cases fl2 with
    |ret r=>
     obtain⟨rfl,G⟩:=hr2;repeat (any_goals first|assumption|wp_step)
    |_=>exact hr2.elim
  |_=>exact hr.elim
def Pa{b:Value}{c:List Value}{f:List _}(j:typeLookup (.type T) "__init__"=pure (some (.builtin "object.__init__")))(i:Bind.madeBy (.type T)=pure (some newId))(h:(some newId != some "object.__new__")=true):Meets (Builtin.«object.__init__» ⟨b::c,f⟩) (λ_ R s=>s.TypeIs b T/\R (.ok (.ret .none)) s):=by
 refine Meets.of_wp λe w A R s g=>?_;obtain⟨k,d⟩:=g;cases c with
 |nil=>
  cases f with
  |nil=>exact Ap ⟨_,rfl,d⟩
  |cons a r=>
   repeat (any_goals first|assumption|wp_step)
   exact⟨_,rfl,d⟩
 |cons a r=>
  repeat (any_goals first|assumption|wp_step)
  exact⟨_,rfl,d⟩
def qD{l:Addr}{its:Array Value}{k:Int}{t:Tok}{Q:Q2}(p:Builtin.SmallTypes.fitsIndex k=true)(v:s.heap.IsList l its)(h:∀a,IsEnum a (s.heap.objs.size+1) s.heap.objs.size k .none->a.IsListIter s.heap.objs.size l 0->a.objs.size=s.heap.objs.size+2->(∀b o,s.heap.get? b=some o->a.get? b=some o)->Q (.ref (s.heap.objs.size+1)) {s with heap:=a}):wpAny (model prog w) A (call (.type "enumerate") [.ref l] [("start",.int k t)]) Q E s:=by
 obtain⟨⟨c,z,y,j⟩,m,u,n,r⟩:=v;obtain rfl:c=.type "list" := u;obtain rfl:y=.seq its n:=r;have e:(s.heap.push {cls:=.type "list_iterator",data:=.fields #[.ref l,.int 0 0]}).objs.size=s.heap.objs.size+1:=Fq ..
 refine qL (Q1:=λo d=>d.TypeIs o "enumerate"/\Q o d) F.called_enumerate (by kernel_rfl) (by kernel_rfl) F.entry_enumerate_new (BJ l its n z j k t p) ⟨m,?_⟩ λo d f=>⟨f.1,?_,_,Pa F.called_enumerate.init.lookup F.called_enumerate.made (by decide),f.1,rfl,f.2⟩
 .show _/\_
  rw[e];have g:IsEnum ((s.heap.push {cls:=.type "list_iterator",data:=.fields #[.ref l,.int 0 0]}).push ⟨.type "enumerate",none,.fields #[.none,.bool false,.ref s.heap.objs.size,rawInt k,.none,.none],#[]⟩) (s.heap.objs.size+1) s.heap.objs.size k .none:=by
   have q:=Au (s.heap.push {cls:=.type "list_iterator",data:=.fields #[.ref l,.int 0 0]}) (o:=⟨.type "enumerate",none,.fields #[.none,.bool false,.ref s.heap.objs.size,rawInt k,.none,.none],#[]⟩) rfl
   rwa [e]at q
  exact⟨⟨_,g,rfl⟩,h _ g ⟨_,Af _ (Au _ rfl),rfl,rfl⟩ (by rw[Fq,e]) λb o x=>Af _ (Af _ x)⟩
 .unfold argsOk;rw[signature?_of (n:=['_','_','t','i','n','i','_','_']) (o := "tcejbo".toList) (by kernel_rfl) F.owner_object]
  kernel_rfl
def jA{P:Nat->Value->Prop}{S:Nat->Heap->Prop}(k:Nat)(D:Draws prog w A it fp n P S):Draws prog w A it fp (k+n) (λj v=>P (j-k) v) (λj h=>k<=j/\S (j-k) h) where
 live:=λi h a=>D.live _ h a.2
 frame:=λi h b a e=>⟨a.1,D.frame _ h b a.2 e⟩
 item:=λi s Q E o a g=>D.item _ s Q E (by omega) a.2 λx b c l f d=>g x b c l ⟨by have:=a.1;((try clear o this);omega),by rwa[show i+1-k=i-k+1 by grind]⟩ d
 done:=λs Q E a m=>D.done s Q E (by grind) m
section
variable {U:St}
def Inv.X9{ch:List Addr}{o:HO}(I:Inv X y0 U H s)(f:∀b∈ch,gY X y0 H b)(k:∀b u,b∉ch->s.heap.get? b=some u->h'.get? b=some u)(A:s.heap.objs.size<=a)(x:ZW X.prog X.w (upd H a o) h' a o):Inv X y0 U (upd H a o) {s with heap:=h',toks:=t'}:=by
 have l:=I.Z8.fresh A
 have j:∀b u,H b=some u->b∉ch:=λb u e z=>by rw[(f b z).1]at e;cases e
 refine I.step (g':=s.gens) (d':=s.drawn) (ch:=ch) (λb p=>?_) (λb o _ _ i e _=>k b o i e) (λb o _ _ i e _=>⟨o.slots,k b o i e⟩) (λb o _ e n=>?_) (λb o i e=>⟨o,k b o i e⟩)
  (λb B e=>by rw[aK (bN e l)];exact e) (λb o u e=>by rw[aK (bN e l)];exact e) (λb M e=>⟨#[],by rw[aK (bN e l),e];simp⟩) (λm J=>?_) (λb u e=>?_) I.bare
 .obtain⟨_,F,_,E,D,C⟩:=f b p;exact⟨E,F,D,C⟩
 .rw[aK (Bb (Bc (Av e) A))];exact n
 .obtain⟨y,K,L,G,r⟩:=J;exact⟨y,K,L,k _ y (λz=>(f _ z).2.1 rfl) G,r⟩
 .by_cases p:b=a
  .subst p;rw[aG]at e;cases e;exact x
  .rw[aK p]at e;refine(I.Z8 b u e).Zl (λc v i q=>k c v ?_ q) (λc q=>by rw[aK (bN q l)];exact q) λc B q=>by rw[aK (bN q l)];exact q
   rcases i with z|z
   .rw[z];exact j b u e
   .exact j c _ z
def Inv.XN{ch:List Addr}{t':Nat}(I:Inv X y0 U H s)(a:∀b∈ch,gY X y0 H b)(k:∀b u,b∉ch->s.heap.get? b=some u->h'.get? b=some u):Inv X y0 U H {s with heap:=h',toks:=t'}:=by
 have i:∀b u,H b=some u->b∉ch:=λb u e z=>by rw[(a b z).1]at e;cases e
 refine I.step (g':=s.gens) (d':=s.drawn) (ch:=ch) (λb C=>?_) (λb o _ _ f e _=>k b o f e) (λb o _ _ f e _=>⟨o.slots,k b o f e⟩) (λb o _ e n=>n) (λb o f e=>⟨o,k b o f e⟩)
  (λb l e=>e) (λb o u e=>e) (λb F e=>⟨#[],by rw[e];simp⟩) (λm B=>?_) (λb u e=>?_) I.bare
 .obtain⟨_,y,_,x,w,p⟩:=a b C;exact⟨x,y,w,p⟩
 .obtain⟨j,D,E,A,r⟩:=B;exact⟨j,D,E,k _ j (λz=>(a _ z).2.1 rfl) A,r⟩
 .refine(I.Z8 b u e).Zl (λc v f q=>k c v ?_ q) (λc q=>q) λc l q=>q;grind
end
noncomputable def Xd(K:W.Frag)(a:Addr)(k:Nat):It:=
 ⟨λi H=>∃b x,Y6 K H a b/\b[i]?=some x,λi H v c=>∃p x,H p=none/\v=.ref p/\c=upd H p (.tup [.int ((k+i:Nat):Int),x])/\∀b,Y6 K H a b->b[i]?=some x,λi H=>∃b,Y6 K H a b/\b.length=i⟩
def HA(a e g:Addr)(k:Nat)(J:e≠g):Turn P w K (.Tuple elts x1 tp) (Xd K a k) [e,g] e (λi h=>(∃j,IsEnum h e g ((k+i:Nat):Int) j)/\h.IsListIter g a i) where
 mem:=by simp
 obj:=λi h B b C=>by
  obtain⟨⟨j,r⟩,o,G,c,d⟩:=B;rcases Ba.mp C with z|z
  .subst z;exact⟨_,r,λv z=>by cases z⟩
  .rw[Ak.mp z];exact⟨o,G,λv z=>by rw[d]at z;cases z⟩
 keep:=λi h h' B T=>⟨let ⟨j,r⟩:=B.1;⟨j,T e (by simp) _ r⟩,B.2.at λo q=>T g (by simp) o q⟩
 item:=by
  intro X Q Y hK hc i y0 s U H E I M B Z;subst Q Y hK;obtain⟨xs,x,W,V⟩:=Z;obtain⟨l,S,p,hz⟩:=I.list W;obtain⟨u,hu,ru⟩:=S.get V;obtain⟨⟨j,r⟩,m⟩:=B;have L:a≠g:=by
   rintro rfl;obtain⟨o,G,c,_⟩:=m;obtain⟨o2,f,n,_⟩:=p.isList;rw[G]at f;cases f;rw[c]at n;injection n with n;exact absurd n (by decide)
  have a2:a≠e:=by
   rintro rfl;obtain⟨o2,f,n,_⟩:=p.isList;rw[r]at f;cases f;injection n with n;exact absurd n (by decide)
  have hl:=S.length
  have a7:=(Ag.mp hu).1
  have D:=jA k (Draws.list (prog:=X.prog) (w:=X.w) (A:=X.A.in1) (show X.A.in1.handled=none from I.ok.hd hc) g a L l.toArray)
  refine wpAny_pyNext_enum_itemD D (i:=k+i) r ⟨Gk _ _,by rw[Cv];exact⟨m,p.isList⟩⟩ (by rw[Az];((try clear J L a2 hl hz);omega)) J (λz=>by
   rcases Ba.mp z with z|z
   .exact J z
   .exact a2 (Ak.mp z).symm) λy h1 R Q G hS hT a6 T=>?_
  refine⟨_,rfl,wpAny_letOwnedTupleGo_enum G λh2 a1 F=>?_⟩;have ey:y=u:=by
   have O:=Q
   rw[Cv]at O;have:l[i]?=some y:=by simpa using O
   rw[hu]at this;cases this;rfl
  subst ey;have N:=Fe (Av r)
  have a3:s.heap.objs.size≠g:=by obtain⟨o,q,_⟩:=m;exact Fe (Av q)
  have a4:=(F.2 _ N).trans hT
  have a5:h1.IsListIter g a (i+1):=by
   have q:=hS.2.1
   rwa [show k+i+1-k=i+1 by ((try clear J L N a2 a3 a6 a7 hl hz);omega)]at q
  have I2:Inv X y0 U (upd H s.heap.objs.size (.tup [.int ((k+i:Nat):Int),x])) {s with heap:=h2,toks:=R+1}:=by
   refine I.X9 (ch:=[e,g]) M (λb u C q=>(F.2 b (λz=>C (by simp[z]))).trans (T b u (λz=>C (by simp[z])) (λz=>C (by simp[z])) q)) (Nat.le_refl _) ⟨bJ (by show 2<=_;((try clear J L N a2 a3 a6 a7 hS hl hz);omega)),[.int ((k+i:Nat):Int) R,y],.cons ⟨R,rfl⟩ (.cons ru .nil),_,a4,rfl,_,rfl⟩
  refine⟨.ref s.heap.objs.size,_,I2,rfl,⟨_,x,I.Z8.fresh (Ai _),rfl,rfl,λys hy=>by rw[I.X1 hy W];exact V⟩,⟨⟨y,a1⟩,a5.at λo q=>(F.2 g J.symm).trans q⟩,λb C=>?_⟩
  rcases Ba.mp C with z|z
  .rw[z,aK N.symm];exact(M e (by simp)).1
  .rw[List.mem_singleton.mp z,aK a3.symm];exact(M g (by simp)).1
 done:=by
  intro X Q Y hK hc i y0 s U H E I M B Z;subst Q Y hK;obtain⟨xs,W,V⟩:=Z;obtain⟨l,S,p,hz⟩:=I.list W;obtain⟨⟨j,r⟩,m⟩:=B;have hl:=S.length
  have L:a≠g:=by
   rintro rfl;obtain⟨o,G,c,_⟩:=m;obtain⟨o2,f,n,_⟩:=p.isList;rw[G]at f;cases f;rw[c]at n;injection n with n;exact absurd n (by decide)
  have D:=jA k (Draws.list (prog:=X.prog) (w:=X.w) (A:=X.A.in1) (show X.A.in1.handled=none from I.ok.hd hc) g a L l.toArray)
  refine wpAny_pyNext_enum_endD D r ⟨Gk _ _,by rw[Cv,Az,<-hl,V];exact⟨m,p.isList⟩⟩ λh' eb=>⟨rfl,?_⟩
  exact I.XN (t':=s.toks) (ch:=[e,g]) M λb u C q=>eb b u (λz=>C (by simp[z])) q
 self:=λ_ _ _ _ _ B h=>let ⟨⟨_,r⟩,_⟩:=B;Hm r h
section
variable {p kp:Pos}
def Wn(R:Addr->Hp->Prop):List V->Hp->Prop:=λa H=>match a with|[.ref j]=>R j H|_=>False
def Qn{R:Addr->Hp->Prop}{vs:List V}(q:Wn R vs H):∃j,vs=[.ref j]/\R j H:=by
 unfold Wn at q;split at q
 .exact⟨_,rfl,q⟩
 simp_all
def OR(K:W.Frag)(c:TA):TI:=λU H R=>c U H (Wn λa b=>Ye (Z6 b a) (R (Xd K a 0) b))
def PJ(K:W.Frag)(d c:TA):TI:=λU H R=>d U H (Wn λa e=>c U e (vH λk b=>(0<=k/\k<2^62)/\Ye (Z6 b a) (R (Xd K a k.toNat) b)))
def Sz{U:St}(c:Inv X y0 U H1 s1)(d:IsEnum h' (s1.heap.objs.size+1) s1.heap.objs.size ((k:Nat):Int) .none)(f:h'.IsListIter s1.heap.objs.size a 0)(i:h'.objs.size=s1.heap.objs.size+2)(e:∀b o,s1.heap.get? b=some o->h'.get? b=some o)(q:R (Xd X.K a k) H1):wpAny (model X.prog X.w) X.A (pyIter (.ref (s1.heap.objs.size+1))) (UQ X y0 U (.Tuple elts x1 tp) R) E {s1 with heap:=h'}:=by
 refine Hm (s:={s1 with heap:=h'}) d ⟨_,[s1.heap.objs.size+1,s1.heap.objs.size],_,_,H1,rfl,c.kept (t':=s1.toks) e,HA a _ _ k (Nat.succ_ne_self _),⟨⟨_,d⟩,f⟩,λb g=>?_,q⟩
 have z:s1.heap.objs.size<=b:=by
  rcases Ba.mp g with z|z
  .rw[z];exact Hv _
  simp_all
 exact c.YO z (c.Z8.fresh z)
def QV(o:Gl X "enumerate")(j:X.mg "enumerate"=none)(t:PA X [l] ta)(hs:starEach [l] X.env=[(false,eval l X.env)]:=by rfl):PI X (.Tuple elts x1 tp) (.Call (.Name "enumerate" p) [l] [] pos) (OR X.K ta):=by
 intro d s U H R I h;refine Call_ (iF I o j boot_enumerate (Dg (ZY (t pos d s U H _ I h) λy z ⟨x,C,c,f,g⟩=>?_) hs rfl));obtain⟨a,rfl,q⟩:=Qn g;obtain⟨u,rfl,e⟩:=dL f;cases e;unfold Ye at q;split at q
 .rename_i w v
  obtain⟨i,A,p,b⟩:=c.list (bG v);exact call_enumerate_list p.isList λB r n b m=>Sz c (k:=0) r n b m q
 simp_all
def qA{b:List _}{c:List _}{Q:Q2}(i:b.any (·.1)=false)(g:c.any (·.1.isNone)=false)(h:wpAny M A (evalArgs (.type T) true b c) (λa d=>wpAny M A (call (.type T) a.pos a.kw) Q E d) E s):wpAny M A (callWith pos (.type T) [] b c) Q E s:=by
 refine Ad (By (Ck h (λa d e=>Ad (Ew ?_)) λ_ _ x=>x));rw[i,g];exact Ad (Ap (Ad (Ck e (λr j f=>Ad (By (wpAny_point (Ap f)))) λ_ _ x=>x)))
def Kj{d:Expr}(A:Gl X "enumerate")(y:X.mg "enumerate"=none)(C:PA X [l] ta)(f:PK X [⟨some "start",d,kp⟩] tk)(hs:starEach [l] X.env=[(false,eval l X.env)]:=by rfl)(c:keywordEach [⟨some "start",d,kp⟩] X.env=[(some ("start" : Str),eval d X.env)]:=by rfl):PI X (.Tuple elts x1 tp) (.Call (.Name "enumerate" p) [l] [⟨some "start",d,kp⟩] pos) (PJ X.K ta tk):=by
 intro g s U H R I h;have b:backTo pos (starEach [l] X.env)=[(false,eval l X.env)]:=by rw[hs];rfl
 refine Dv (iF I A y boot_enumerate (qA (by rw[b];rfl) (by rw[c];rfl) ?_))
 rw[b];refine evalArgs_kwB (by rw[c];rfl) ?_
 rw[<-b];refine ZY (C pos g s U H _ I h) λN m ⟨M,F,E,r,w⟩=>?_;obtain⟨a,rfl,q⟩:=Qn w;refine ZY (f pos g m U F _ E q) λL O ⟨G,V,j,o,v⟩=>?_;obtain⟨k,rfl,⟨S,Q⟩,q⟩:=qP v;obtain⟨u,rfl,n⟩:=dL r;cases n;obtain⟨u,rfl,t,rfl⟩:=dL o;unfold Ye at q;split at q
 .rename_i J D
  obtain⟨x,P,p,i⟩:=j.list (bG D);have e:(backToKw pos (keywordEach [⟨some "start",d,kp⟩] X.env)).filterMap (·.1)=(["start"]:List Str):=by rw[c];rfl
  rw[e];refine qD (by unfold Builtin.SmallTypes.fitsIndex;rw[Ao (by ((try clear i);omega)),Ao (by ((try clear i);omega))];rfl) p.isList λT B z i f=>Sz j (k:=k.toNat) ?_ z i f q
  rw[show ((k.toNat:Nat):Int)=k by ((try clear i);omega)]
  exact B
 .exact q.elim
end
section
variable {tb:TS} {U U0:St}
def HF(b:Nat->St->Hp->Prop)(r:b 0 U H)(l:∀i U H,i<=xs.length->b i U H->Z6 H a=some xs)(hs:∀i x U H p,xs[i]?=some x->b i U H->H p=none->g (.ref p) U (upd H p (.tup [.int ((k+i:Nat):Int),x])) λs t=>tb {D with nx:=b (i+1),ct:=b (i+1),bk:=D.nx} s t)(o:∀U H,b xs.length U H->D.nx U H):WA (Xd K a k) g tb D U H:=by
 refine⟨λi m U H=>m=xs.length-i/\i<=xs.length/\b i U H,⟨xs.length,by simp,Nat.zero_le _,r⟩,?_⟩
 rintro i m U H ⟨rfl,n,p⟩;have d:=l i U H n p
 by_cases c:i<xs.length
 .refine .inr ⟨⟨xs,xs[i],bG d,by simp[c]⟩,b (i+1),λv u f=>⟨xs.length-(i+1),by ((try clear n);omega),rfl,c,f⟩,λx u y=>?_⟩
  obtain⟨q,z,j,rfl,rfl,h⟩:=y;exact hs i z U H q (h xs (bG d)) p j
 .have e:i=xs.length:=by omega
  subst e;exact .inl ⟨⟨xs,bG d,rfl⟩,o U H p⟩
def R_(f:Nat->V->Option V)(M:Z6 H1 a=some xs)(O:xs.length<sizeLine)(hs:∀i x d p A (B:Hp->Prop),xs[i]?=some x->Same H1 d->d p=none->(∀c,Same (upd d p (.tup [.int ((k+i:Nat):Int),x])) c->match f i x with|some y=>A y c|none=>B c)->
 g (.ref p) U0 (upd d p (.tup [.int ((k+i:Nat):Int),x])) λw N=>Wk U0 w/\tests w N λb J=>if b=true then te w J A else B J)(u:∀D c,H1 D=none->Same H1 c->Z6 c D=some ((List.range xs.length).filterMap λi=>f i (xs.getD i .non))->Q (.ref D) c):dJ g tests te U0 Q (Xd K a k) H1:=by
 intro D t;refine⟨λi m d=>m=xs.length-i/\i<=xs.length/\Same H1 d/\d D=some (.lst ((List.range i).filterMap λi=>f i (xs.getD i .non))),⟨xs.length,by simp,Nat.zero_le _,aE t _,by rw[aG];rfl⟩,?_⟩
 rintro i m d ⟨rfl,P,n,l⟩;have r:=aQ n M
 by_cases h:i<xs.length
 .refine .inr ⟨⟨xs,xs[i],bG r,by simp[h]⟩,λv R y=>?_⟩
  obtain⟨q,z,s,rfl,rfl,L⟩:=y;have F:=L xs (bG r)
  have G:xs.getD i .non=z:=by rw[Ah,F];rfl
  refine hs i z d q _ _ F n s λc C=>?_;have j:=C _ _ (aE s _ _ _ l)
  have E:=n.trans ((aE s _).trans C)
  cases e:f i z with
  |some y=>
   refine⟨_,j,?_,xs.length-(i+1),by ((try clear O P);omega),rfl,h,λb o I=>?_,?_⟩
   .have:=Cz (λi=>f i (xs.getD i .non)) (List.range i)
    rw[Cj]at this;((try clear P);omega)
   .rw[aK (bN I t)];exact E b o I
   .rw[aG,Cp,Bu,Cc (b:=y) (by rw[G,e]),Cq]
  |none=>
   refine⟨xs.length-(i+1),by ((try clear O P);omega),rfl,h,E,?_⟩
   rw[j,Cp,Bu,Cg (by rw[G,e]),Cq,Bt]
 .have e:i=xs.length:=by ((try clear O);omega)
  subst e;exact .inl ⟨⟨xs,bG r,rfl⟩,u D d t n (aO l)⟩
def Jm(h:ta U H (Wn λa b=>Ye (Z6 b a) (R (Xd K a 0) b))):OR K ta U H R:=h
def GC(h:ta U H (Wn λa c=>tk U c (vH λk b=>(0<=k/\k<2^62)/\Ye (Z6 b a) (R (Xd K a k.toNat) b)))):PJ K ta tk U H R:=h
def Np{R:Addr->Hp->Prop}(h:R a H):Wn R [.ref a] H:=h
end
section
variable {t:TG} {u:Xp} {r:List V} {U:St} {Q:St->Hp->Prop}
def LR(e:qN H a=some xs)(b:xs.length=n)(h:u xs U H Q):Tw K n u (.ref a) U H Q:=⟨a,xs,rfl,.of (qW e),b,h⟩
def AQ(h:t v U H λa b=>u r a b Q):Ug t u (v::r) U H Q:=⟨v,r,rfl,h⟩
def IB(h:Q U H):Se [] U H Q:=⟨rfl,h⟩
end
def jF{K:W.Frag}{i j:Nat}{y:Str}{e d:Pos}(n:X.K=K)(m:X.calm=true)(c:X.N.Nodup)(l:X.N[i]?=some x)(g:Loc X.env.scope x)(b:X.fn x=true\/X.env.scope.names.lookup x=some .local)(h:X.N[j]?=some y)(f:Loc X.env.scope y)(a:X.fn y=true\/X.env.scope.names.lookup y=some .local):PG X (.Tuple [.Name x e,.Name y d] k pos) (Tw K 2 (Ug (iT i) (Ug (iT j) Se))):=by
 subst n;exact LD m (mK (bB c l g b) (mK (bB c h f a) Ph))
end
structure XY (B:Heap) (l:List Env) (e:Addr) (cls:Value) (d:Option Addr) (fl:Value) (h:Heap):Prop where
 stays:B.StaysIn h
 new:B.get? e=none
 frames:h.FunFrames B l
 on:∃oe vs T oT ts,h.get? e=some oe/\(oe.cls=cls/\oe.dict=d)/\oe.data=.fields vs/\vs[1]?=some (.ref T)/\B.get? T=none/\T≠e/\h.get? T=some oT/\oT.data=.fields ts/\ts[3]?=some fl/\vs[2]?=some .none
def Rn(o:Obj)(f:Array Value->Array Value):(o.mapFields f).dict=o.dict:=by
 obtain⟨c,d,a,b⟩:=o;cases a<;>rfl
def V7{f:Obj->Obj}(g:h.get? a=some o)(d:o.data=.fields vs):∀b u,h.get? b=some u->(∀c,u.data≠.fields c)->(h.update a f).get? b=some u:=λb u e n=>by
 rwa[Bz _ _ (λz=>by grind)]
section
variable {B:Heap} {l:List Env} {L e:Addr} {cls:Value} {Q:Unit->Shared->Prop}
def zY{c:Value}{J:Bool}(u:A.frames=some (env::outer))(l:s.heap.FunFrames B (env::outer))(N:env.frame=some L)(P:B.StaysIn s.heap)(C:B.get? e=none)(D:s.heap.get? e=some oe)(g:oe.data=.fields vs)(h1:1<vs.size)(R:vs[2]?=some .none)(O:∀v,XY B (env::outer) e oe.cls oe.dict (rawInt L) v->s.heap.UpToSlots v->Q () {s with heap:=v}):wpAny M A (do let a <-frameOf env;let k <-entryPlaceOf L J;let b <-EntryCells.newEntry c a .none (rawInt L) .none k;setField (.ref e) 1 b) Q E s:=by
 have K:e∉(env::outer).filterMap (·.frame):=λt=>by
  obtain⟨_,o,y,f⟩:=l.mem t;rw[D]at y;cases y;exact f vs g
 refine Ad (wpAny_frameOf_fun u l N λd j=>Ad (wpAny_entryPlaceOf λk r=>?_));have F:=(j.2.1 e K).trans D
 have H:B.StaysIn d:=λb o q=>(j.2.1 b λt=>by rw[(l.mem t).1]at q;cases q).trans (P b o q)
 unfold EntryCells.newEntry newFields;refine Ad (Gf ?_ (r.sizeOk5 _ _ _ _ _));generalize p:(([c,.ref L,.none,rawInt L,.none]++(if k.isEmpty then List.replicate 6 Value.none else k):List Value)).toArray=i
 have I:i[3]?=some (rawInt L):=by rw[<-p];simp
 have m:=Af (h:=d) ⟨.type "traceback",none,.fields i,#[]⟩ F
 refine wpAny_setField m g h1 (O _ ?_ ?_)
 .have w:=Fe (Av F)
  have G:=Hg g (·.setIfInBounds 1 (Value.ref d.objs.size))
  refine⟨λb o q=>?_,C,l.of_keeps λb o q f=>?_,_,_,d.objs.size,⟨.type "traceback",none,.fields i,#[]⟩,i,Heap.get?_update_self _ m (Obj.isFreed_of_fields G),⟨Obj.cls_mapFields _ _,Rn _ _⟩,G,by simp[h1],H.fresh,w,?_,rfl,I,(Array.getElem?_setIfInBounds_ne (by decide)).trans R⟩
  .rw[Bz _ _ (λz=>by rw[<-z,C]at q;cases q)]
   exact Af _ (H b o q)
  .obtain⟨x,n⟩:=j.2.2 b o q;exact⟨_,V7 m g b _ (Af _ n) f,rfl⟩
  .rw[Bz _ _ w.symm];exact Au d rfl
 .intro b o q f;obtain⟨x,n⟩:=j.2.2 b o q;exact⟨x,V7 m g b _ (Af _ n) f⟩
def MN(a:A.frames=some (env::outer))(i:s.heap.FunFrames B (env::outer))(c:env.frame=some L)(k:B.StaysIn s.heap)(g:B.get? e=none)(d:s.heap.get? e=some oe)(f:oe.data=.fields vs)(h1:vs[1]?=some .none)(l:vs[2]?=some .none)(j:∀b,XY B (env::outer) e oe.cls oe.dict (rawInt L) b->s.heap.UpToSlots b->Q () {s with heap:=b}):wpAny M A (noteFrame (.ref e) env) Q E s:=by
 unfold noteFrame;simp only[c];refine Ad (Fw d f h1 ?_)
 exact zY a i c k g d f (Di.mp h1).1 l j
def PV(j:A.frames=some (env::outer))(m:env.frame=some L)(F:XY B (env::outer) e cls d .none s.heap)(y:∀c,XY B (env::outer) e cls d (rawInt L) c->s.heap.UpToSlots c->Q () {s with heap:=c}):wpAny M A (noteFrame (.ref e) env) Q E s:=by
 obtain⟨C,u,v,J,H,T,K,I,n,⟨rfl,rfl⟩,p,r,x,k,g,i,l,D⟩:=F;unfold noteFrame;simp only[m];refine Ad (Fw n p r ?_);rw[if_pos (show (Value.ref T != Value.none)=true by simp)]
 refine Ad (Fw g i l ?_);rw[if_neg (show ¬((Value.none==rawInt L)=true) by simp[rawInt])]
 refine Ad (wpAny_setField g i (Di.mp l).1 ?_);have a:∀b,b≠T->(s.heap.update T (Obj.mapFields (·.setIfInBounds 3 Value.none))).get? b=s.heap.get? b:=λb w=>Bz _ _ (Ne.symm w)
 refine zY (s:={s with heap:=s.heap.update T (Obj.mapFields (·.setIfInBounds 3 Value.none))}) j (v.of_keeps λb o q f=>⟨o,V7 g i b o q f,rfl⟩) m
  (λb o q=>(a b λz=>by grind).trans (C b o q)) u ((a e k.symm).trans n) p (Di.mp r).1 D λc G t=>y c G λb o q f=>t b o (V7 g i b o q f) f
def kY{H:Value}(F:XY B l e cls d H s.heap)(D:∀i,XY B l e cls d .none i->s.heap.UpToSlots i->Q () {s with heap:=i}):wpAny M A (setFlight (.ref e) none) Q E s:=by
 obtain⟨G,x,y,w,t,T,J,u,k,C,m,p,n,a,c,f,v,I⟩:=F;have j:=(Di.mp v).1
 unfold setFlight;refine Ad (Fw k m p ?_);rw[if_pos (show (Value.ref T != Value.none)=true by simp)]
 refine wpAny_setField c f j (D _ ?_ λb o q g=>⟨o.slots,V7 c f b o q g⟩);have r:=Hg f (·.setIfInBounds 3 Value.none)
 refine⟨λb o q=>?_,x,y.of_keeps λb o q g=>⟨o,V7 c f b o q g,rfl⟩,w,t,T,_,_,?_,C,m,p,n,a,Heap.get?_update_self _ c (Obj.isFreed_of_fields r),r,by simp[j],I⟩
 .rw[Bz _ _ (λz=>by grind)]
  exact G b o q
 .rw[Bz _ _ a];exact k
def XY.less(F:XY B (env::outer) e cls d fl h):XY B outer e cls d fl h:=⟨F.stays,F.new,F.frames.2.2,F.on⟩
def LA(a:A.frames=some (env::outer))(g:s.heap.FunFrames B (env::outer))(i:env.frame=some L)(m:B.StaysIn s.heap)(f:B.get? e=none)(j:s.heap.get? e=some oe)(k:oe.data=.fields vs)(h1:vs[1]?=some .none)(o:vs[2]?=some .none)(l:∀b,XY B outer e oe.cls oe.dict .none b->s.heap.UpToSlots b->Q () {s with heap:=b}):wpAny M A (leaving env (.ref e)) Q E s:=by
 exact Ad (MN a g i m f j k h1 o λh1 q d=>kY  q λn p c=>l n p.less (d.trans c))
def A2(a:A.frames=some (env::outer))(g:env.frame=some L)(F:XY B (env::outer) e cls d .none s.heap)(i:∀b,XY B outer e cls d .none b->s.heap.UpToSlots b->Q () {s with heap:=b}):wpAny M A (leaving env (.ref e)) Q E s:=by
 exact Ad (PV a g F λk m f=>kY  m λj l c=>i j l.less (f.trans c))
end
structure Mi (fs:List Addr) (H H':Hp) (h B h':Heap):Prop where
 keep:∀b o,h.get? b=some o->H b=none->b∉fs->B.get? b=some o
 slot:∀b o,h.get? b=some o->H b=none->b∈fs->∃sl,h'.get? b=some {o with slots:=sl}
 free:∀b o,h.get? b=some o->H b=none->H' b=none
 there:∀b o,h.get? b=some o->b∉fs->∃o',B.get? b=some o'
 tups:∀b xs,H b=some (.tup xs)->H' b=some (.tup xs)
 frzs:∀b o u,H b=some (.frz o u)->H' b=some (.frz o u)
 tbls:∀b ps,H b=some (.tbl ps)->∃more,H' b=some (.tbl (ps++more))
def Zb(P:Program)(w:World):XZ:=λa H s E e c=>
 ∃g b d B f,e=.ref g/\c.os=s.os/\AllBare c.gens/\XY B a g b d .none c.heap/\Y_ P w f B/\Mi (YV a) H f s.heap B c.heap/\E b d f
def Y_.down(x:Y_ P w H h)(k:∀b o u,H b=some u->h.get? b=some o->B.get? b=some o):Y_ P w H B:=λa u e=>
 (x a u e).Zl (λb o c q=>by grind) (λ_ q=>q) λ_ _ q=>q
def ZW.get{o:HO}(x:ZW P w H h a o):∃b,h.get? a=some b:=by
 cases o with
 |lst d=>obtain⟨_,_,_,_,e⟩:=x;exact⟨_,e⟩
 |tup d=>obtain⟨_,_,_,b,e,_⟩:=x;exact⟨_,e⟩
 |dK c=>obtain⟨_,_,_,_,b,_,_,e,_⟩:=x;exact⟨_,e⟩
 |dT c=>obtain⟨_,_,_,_,b,_,_,e,_⟩:=x;exact⟨_,e⟩
 |set S n=>obtain⟨b,_,_,_,e,_⟩:=x;exact⟨_,e⟩
 |ins C p g=>obtain⟨_,_,_,e,_⟩:=x;exact⟨_,e⟩
 |own y=>exact x
 |xd g=>obtain⟨_,⟨k,_,_,e,_⟩,_⟩:=x;exact⟨_,e⟩
 |rng l m=>obtain⟨_,_,_,e⟩:=x;exact⟨_,e⟩
 |frz b u=>exact⟨_,x.1⟩
 |tbl j=>exact⟨_,x⟩
 |met f y=>exact⟨_,x⟩
 |ext i=>exact x.2.1
def Y_.hole(x:Y_ P w H h)(e:h.get? a=none):H a=none:=by
 cases q:H a with
 |none=>rfl
 |some o=>
  obtain⟨b,z⟩:=(x a o q).get;grind
def jL(c:env.frame=some L)(g:b≠L)(f:b∉YV outer):b∉YV (env::outer):=λa=>by
 obtain⟨e,d,q⟩:=Eg.mp a;rcases Ba.mp d with z|z
 .subst z;rw[c]at q;exact g (Ay q).symm
 .exact f (Eg.mpr ⟨e,z,q⟩)
section
variable {cd:Value} {s₀:Shared} {H₀:Hp} {E:XK} {U:St}
def A1(I:Inv (iQ (Zb P w) P w K mg base N qual scope f cd A outer s₀ H₀ E) y0 U H s)(t:s.heap.get? ea=some oe)(O:oe.data=.fields vs)(h1:vs[1]?=some .none)(T:vs[2]?=some .none)(M:H ea=none)(Q:s₀.heap.get? ea=none)(q:E oe.cls oe.dict H):(iQ (Zb P w) P w K mg base N qual scope f cd A outer s₀ H₀ E).xe (.ref ea) s:=by
 have r:=I.ok.frames
 have l:=I.stack
 have m:=I.YY
 have a:=I.base
 have i:∀b o,s₀.heap.get? b=some o->b≠s₀.heap.objs.size:=λb o e=>Bb (Av e)
 have h:∀b o,s₀.heap.get? b=some o->b≠ea:=λb o e z=>by rw[z,Q]at e;cases e
 have d:∀b o,s.heap.get? b=some o->b≠ea->b∉YV (envOfC qual scope s₀.heap.objs.size f cd::outer)->(W.hideAll s.heap (ea::YV (envOfC qual scope s₀.heap.objs.size f cd::outer))).get? b=some o:=λb o e L J=>
  W.hideAll_get _ e λp=>(Ba.mp p).elim L J
 refine LA (B:=W.hideAll s.heap (ea::YV (envOfC qual scope s₀.heap.objs.size f cd::outer))) r (W.funFrames_hide l λv t b c=>Am _ (Eg.mpr ⟨v,t,c⟩)) rfl (λb o q=>W.of_hideAll _ q)
  (W.hideAll_none _ Al) t O h1 T λX S C=>?_
 refine⟨ea,_,_,_,H,rfl,I.os,I.bare,S,I.Z8.down λb o u e g=>d b o g (λz=>by rw[z,M]at e;cases e) λp=>?_,⟨λb o e n c=>?_,λb o e n c=>?_,λb o e n=>a.free b o e n (by simp[iQ]),λb o e c=>?_,a.tups,a.frzs,a.tbls⟩,q⟩
 .rw[m b p]at e;cases e
 .exact d b o (a.keep b o e n c (by simp[iQ])) (h b o e) (jL rfl (i b o e) c)
 .obtain⟨V,k⟩:=a.slot b o e n c (by simp[iQ])
  obtain⟨_,F,R,G⟩:=I.ok.Zf.mem c;have y:s₀.heap.get? b=some F:=R
  rw[e]at y;cases y;obtain⟨j,D⟩:=C b _ k G;exact⟨j,D⟩
 .obtain⟨x,k⟩:=a.there b o e (by simp[iQ])
  exact⟨x,d b x k (h b o e) (jL rfl (i b o e) c)⟩
def bV:iJ (Zb P w) (iQ (Zb P w) P w K mg base N qual scope f cd A outer s₀ H₀ E) E:=by
 intro Z U H s e s' I h;obtain⟨W,x,d,B,Y,rfl,L,j,V,r,g,q⟩:=h;have a:=I.base
 have t:∀b o,s₀.heap.get? b=some o->b≠s₀.heap.objs.size:=λb o e=>Bb (Av e)
 refine A2 I.ok.frames rfl V λh2 v C=>?_;have z:∀b o,s₀.heap.get? b=some o->b∉YV outer->b∉YV (envOfC qual scope s₀.heap.objs.size f cd::outer):=λb o e c=>jL rfl (t b o e) c
 have p:∀b,b∈YV outer->b∈YV (envOfC qual scope s₀.heap.objs.size f cd::outer):=λb c=>by
  obtain⟨e,S,q⟩:=Eg.mp c;exact Eg.mpr ⟨e,Am _ S,q⟩
 refine⟨W,x,d,B,Y,rfl,L.trans I.os,j,v,r,⟨λb o e n c=>?_,λb o e n c=>?_,λb o e n=>?_,λb o e c=>?_,λb y e=>g.tups b y (a.tups b y e),λb o u e=>g.frzs b o u (a.frzs b o u e),λb J e=>?_⟩,q⟩
 .exact g.keep b o (a.keep b o e n c (by simp[iQ])) (a.free b o e n (by simp[iQ])) (z b o e c)
 .obtain⟨sl,i⟩:=a.slot b o e n c (by simp[iQ])
  obtain⟨D,G⟩:=g.slot b _ i (a.free b o e n (by simp[iQ])) (p b c)
  obtain⟨_,M,T,O⟩:=I.ok.Zf.mem c;have k:s₀.heap.get? b=some M:=T
  rw[e]at k;cases k;obtain⟨l,F⟩:=C b _ G O;exact⟨l,F⟩
 .obtain⟨m,i⟩:=a.there b o e (by simp[iQ])
  exact g.free b m i (a.free b o e n (by simp[iQ]))
 .obtain⟨m,i⟩:=a.there b o e (by simp[iQ])
  exact g.there b m i (z b o e c)
 .obtain⟨R,X⟩:=a.tbls b J e;obtain⟨Q,k⟩:=g.tbls b _ X;exact⟨R++Q,by rw[k,Array.append_assoc]⟩
end
def M6(X:K.In h)(q:W.excIn K C bmB newId=true):∃d N p m u s k a v b t j i g f e z,h.get? C=some (excClassObj p m C N u d s k a v b t j i g f e newId)/\h.Ns N z/\z "__init__"=none/\OwnTail h bmB d:=by
 unfold W.excIn at q;split at q
 .rename_i t c w I
  split at q
  .rename_i L d j i g f n e A H
   obtain⟨⟨⟨⟨⟨E,D⟩,y⟩,B⟩,o⟩,x⟩:((((L=C/\n=newId)/\c.hasDel=false)/\W.tailIn K bmB d=true)/\W.nsOkIn K c.ns=true)/\W.nsIn K c.ns "__init__"=some none:=by simp_all
   subst E D;obtain⟨p,u,G,F,m,s,k,a,v,b,J⟩:=c;dsimp only at A y o x;subst A y;obtain rfl:w=#[j,i,g,f,some (.builtin n),e]:=by
    obtain⟨l⟩:=w;have r:l=_:=H
    rw[r]
   exact⟨d,F,p,m,u,s,k,a,v,b,t,j,i,g,f,e,_,X _ _ I,.of_isNs (W.isNs_of_in X o),W.nsMap_none_of_in X o x,W.tail_of_in X B⟩
  .cases q
 .cases q
def S3(X:Cx)(E:XK):Prop:=∀d (U:St) H s b a c,Inv X d U H s->s.heap.get? b=some a->a.data=.fields c->c[1]?=some .none->c[2]?=some .none->H b=none->X.s₀.heap.get? b=none->
 E a.cls a.dict H->X.xe (.ref b) s
def dP{i:Value}{a:Shared}{b:Hp}{E:XK}:S3 (iQ (Zb P w) P w K mg base N qual scope f i A outer a b E) E:=λ_ _ _ _ _ _ _ I d e g j c h q=>A1 I d e g j c h q
section
variable {E:XK} {B initId:String}
def RG(C:Addr)(E:XK)(b:TA):TS:=λ_ U H=>b U H λa c=>a.length<=sizeLine/\E (.ref C) none c
def eA(J:S3 X E)(f:X.ex=[])(F:X.calm=true)(y:Gl X x)(w:X.mg x=some (.ref C))(a:W.excIn X.K C bmB newId=true)(u:ExcBaseFacts B newId initId bmB)(G:PA X (e::es) ta)(A:(x==("__debug__" : Str))=false:=by decide)(n:starEach (e::es) X.env=(false,eval e X.env)::starEach es X.env:=by rfl)(c:(backTo cpos (starEach es X.env)).any (·.1)=false:=by rfl):PS X (.Raise (some (.Call (.Name x np) (e::es) [] cpos)) none pos) (RG C E ta):=by
 intro k s U H D I h;obtain⟨bm,N,nm,q,bs,hdct,sn,sub,ab,col,dd,k0,k1,k2,k3,k5,mN,M,L,d,T⟩:=M6 I.ok.mod.WE a;refine wpAny_Raise_call_subT (C:=C) (N:=N) (bm:=bm) (nm:=nm) (q:=q) (bs:=bs) (hdct:=hdct) (sn:=sn) (sub:=sub) (ab:=ab) (col:=col) (dd:=dd) (k0:=k0) (k1:=k1) (k2:=k2) (k3:=k3) (k5:=k5)
  u (mN:=mN) (T.hasType u.hasBase) (I.ok.hd F) (by rw[n];show (false || (backTo cpos (starEach es X.env)).any (·.1))=false;rw[c];rfl) d (lB I y w ⟨rfl,?_⟩ A)
 have p:=G cpos k s U H _ I h
 rw[n]at p ⊢;refine Gi (ZY p λv l ⟨Q,P,b,r,m⟩=>⟨rfl,?_,b.bk _ _ M,L.keeps b.bk,T.keeps b.bk,λO i a=>?_⟩)
 .show v.length<=sizeLine
  rw[<-r.length];exact m.1
 .obtain⟨t,g,_,_⟩:=a.there;refine J k U P {l with heap:=O} i _ _ (b.kept (t':=l.toks) a.keeps) g rfl rfl rfl (b.Z8.hole a.new) ?_ m.2
  cases z:X.s₀.heap.get? i with
  |none=>rfl
  |some o=>
   obtain⟨R,j⟩:=b.base.there i o z (by rw[f];simp)
   rw[a.new]at j;cases j
end
noncomputable abbrev Cx.tr(X:Cx)(y0:List (Addr×Obj))(xe:Value->Shared->Prop):Cx:={X with pn:=X.pn++y0,xe:=xe}
noncomputable abbrev Cx.hnd(X:Cx)(y0:List (Addr×Obj))(ea:Addr):Cx:={X with A:=X.A.mark (some (.ref ea)),calm:=false,pn:=X.pn++y0,xe:=λ_ _=>False}
section
variable {pins':Q4} {U:St} {xe:Q2}
def Inv.tr(I:Inv X y0 U H s)(a:Q2):Inv (X.tr y0 a) [] U H s:=
 ⟨⟨I.ok.mod,I.ok.kind,I.ok.glob,I.ok.blt,I.ok.above,I.ok.inj,I.ok.has,I.ok.WK,I.ok.hd,I.ok.frames,I.ok.Ws,I.ok.Wq,I.ok.bs,I.ok.XF,I.ok.X2,I.ok.Yk,I.ok.Zf,I.ok.Xc⟩,I.os,I.bare,I.base,I.loc,I.cell,I.free,I.ZI,
  λp b=>I.pin p (by rwa [Bt]at b),I.Z8,I.len⟩
def Inv.Yv(I:Inv (X.tr y0 xe) pins' U H s):Inv X y0 U H s:=
 ⟨⟨I.ok.mod,I.ok.kind,I.ok.glob,I.ok.blt,I.ok.above,I.ok.inj,I.ok.has,I.ok.WK,I.ok.hd,I.ok.frames,I.ok.Ws,I.ok.Wq,I.ok.bs,I.ok.XF,I.ok.X2,I.ok.Yk,I.ok.Zf,I.ok.Xc⟩,I.os,I.bare,I.base,I.loc,I.cell,I.free,I.ZI,
  λp a=>I.pin p (Dw _ a),I.Z8,I.len⟩
def Inv.hnd(I:Inv X y0 U H s)(b:Addr):Inv (X.hnd y0 b) [] U H s:=
 ⟨⟨I.ok.mod,I.ok.kind,I.ok.glob,I.ok.blt,I.ok.above,I.ok.inj,I.ok.has,I.ok.WK,(λz=>nomatch z),I.ok.frames,I.ok.Ws,I.ok.Wq,I.ok.bs,I.ok.XF,I.ok.X2,I.ok.Yk,I.ok.Zf,I.ok.Xc⟩,I.os,I.bare,I.base,I.loc,I.cell,I.free,I.ZI,
  λp a=>I.pin p (by rwa [Bt]at a),I.Z8,I.len⟩
def Inv.Vo(I:Inv (X.hnd y0 ea) pins' U H s)(ok:X.Ok):Inv X y0 U H s:=
 ⟨ok,I.os,I.bare,I.base,I.loc,I.cell,I.free,I.ZI,λp a=>I.pin p (Dw _ a),I.Z8,I.len⟩
structure V2 (X:Cx) (y0:List (Addr×Obj)) (a:Addr):Prop where
 s0:X.s₀.heap.get? a=none
 loc:a≠X.env.locals
 cell:∀x c,X.env.cells.lookup x=some c->c≠a
 pin:∀p∈X.pn++y0,p.1≠a
def Inv.adopt{a:Addr}{o:HO}(I:Inv X y0 U H s)(f:V2 X y0 a)(r:H a=none)(g:ZW X.prog X.w (upd H a o) s.heap a o):Inv X y0 U (upd H a o) s:=by
 have d:∀b u,H b=some u->b≠a:=λb u e=>bN e r
 refine⟨I.ok,I.os,I.bare,⟨I.base.keep,I.base.slot,λb u e n l=>?_,I.base.there,λb h e=>?_,λb u v e=>?_,λb k e=>?_⟩,I.loc,I.cell,by rw[aK f.loc.symm];exact I.free,λx c e=>by rw[aK (f.cell x c e)];exact I.ZI x c e,λp i=>?_,λb u e=>?_,I.len⟩
 .rw[aK (λz=>by rw[z,f.s0]at e;cases e)]
  exact I.base.free b u e n l
 .have q:=I.base.tups b h e
  rw[aK (d b _ q)];exact q
 .have q:=I.base.frzs b u v e
  rw[aK (d b _ q)];exact q
 .obtain⟨m,q⟩:=I.base.tbls b k e;exact⟨m,by rw[aK (d b _ q)];exact q⟩
 .obtain⟨A,y,t⟩:=I.pin p i;exact⟨A,by rw[aK (f.pin p i)];exact y,t⟩
 .by_cases j:b=a
  .subst j;rw[aG]at e;cases e;exact g
  .rw[aK j]at e;exact(I.Z8 b u e).Zl (λc v _ q=>q) (λc q=>by rw[aK (d c _ q)];exact q) λc h q=>by rw[aK (d c _ q)];exact q
def Inv.Wf{i:Nat}{n:Str}{m:Q6}{v:Option Value}{t:Nat}(I:Inv X y0 U H s)(hN:X.N.Nodup)(K:X.N[i]?=some n)(hm:s.heap.Ns X.env.locals m)(hl:X.env.scope.names.lookup n=some .local)(J:h'.Ns X.env.locals (λx=>if x=n then v else m x))(Y:Heap.SameBut X.env.locals s.heap h'):Inv X y0 (U.set i none) H {s with heap:=h',toks:=t}:=by
 have k:∀b o,b≠X.env.locals->s.heap.get? b=some o->h'.get? b=some o:=λb o d e=>(Y.2 b d).trans e
 have G:∀b o,X.s₀.heap.get? b=some o->b≠X.env.locals:=λb o e=>Bb (Bc (Av e) I.ok.above)
 have f:∀b o,s.heap.get? b=some o->∃l,h'.get? b=some l:=λb o e=>by
  by_cases d:b=X.env.locals
  .obtain⟨l,_,_,q,_⟩:=J;exact⟨l,by rw[d];exact q⟩
  .exact⟨o,k b o d e⟩
 obtain⟨Z,E,F⟩:=id I.loc;refine⟨I.ok,I.os,I.bare,⟨λb o e n d A=>k b o (G b o e) (I.base.keep b o e n d A),λb o e n d A=>?_,I.base.free,λb o e A=>?_,I.base.tups,I.base.frzs,I.base.tbls⟩,⟨_,J,λj y u P C e3=>?_⟩,λx c e=>?_,I.free,I.ZI,λp hp=>?_,λb u e=>?_,by rw[Dm];exact I.len⟩
 .obtain⟨W,q⟩:=I.base.slot b o e n d A;exact⟨W,k b _ (G b o e) q⟩
 .obtain⟨l,q⟩:=I.base.there b o e A;exact f b l q
 .have B:j≠i:=λz=>by
   subst z;rw[Fx (by rw[I.len];exact(Ag.mp K).1)]at C
   cases C
  rw[Ek (Ne.symm B)]at C;have D:y≠n:=λz=>B (xE hN P (by rw[z];exact K))
  obtain⟨V,r,w⟩:=F j y u P C e3;have em:Z=m:=by
   obtain⟨o1,a2,a4,g1,d1,_,f1⟩:=E;obtain⟨o2,a1,a3,M,Q,_,f2⟩:=hm;rw[g1]at M;cases M;rw[d1]at Q;cases Q;funext z
   rw[<-f1 z,f2 z]
  refine⟨V,r,?_⟩;rcases w with⟨a,g⟩|⟨a,c,g,o,S,R⟩
  .exact .inl ⟨a,by show (if y=n then v else m y)=_;rw[if_neg D,<-em];exact g⟩
  .exact .inr ⟨a,c,g,o,k c o (I.Va y c g) S,R⟩
 .obtain⟨T,o,a,g⟩:=I.cell x c e;exact⟨T,o,k c o (I.Va x c e) a,g⟩
 .obtain⟨h1,h2,L,h4⟩:=I.pin p hp;exact⟨k _ _ L h1,h2,L,h4⟩
 .refine(I.Z8 b u e).Zl (λc o hc q=>k c o (λz=>?_) q) (λ_ q=>q) λ_ _ q=>q;have O:=I.free
  rcases hc with a|a
  .rw[<-a,z,O]at e;cases e
  .rw[z,O]at a;cases a
end
noncomputable def pB(e:Addr)(b:Value)(d:Option Addr):HO:=.ext λh=>∃a c,h.get? e=some a/\a.cls=b/\a.dict=d/\a.data=.fields c
def XY.obj{l:List Env}{a fl:Value}(F:XY B l ea a d fl h):ZW P w H h ea (pB ea a d):=by
 obtain⟨b,i,T,n,m,c,e,j,_⟩:=F.on;exact⟨⟨b,i,c,e.1,e.2,j⟩,⟨b,c⟩,λr p ⟨o,f,g,q⟩ k=>⟨o,f,k o g,q⟩⟩
def XS(X:Cx)(h:List (Addr×Obj))(R:Value->Option Addr->St->Hp->Prop):Value->Shared->Prop:=λe c=>
 ∃b a d B i g,e=.ref b/\XY B X.stack b a d .none c.heap/\V2 X h b/\g b=none/\(∀f,B.StaysIn f->c.heap.UpToSlots f->Inv X h i g {c with heap:=f})/\R a d i g
def Uh(CX:XZ)(X:Cx)(c:St->XK):Prop:=∀b (U:St) H s e a,Inv X b U H s->CX X.stack H s (c U) e a->X.xe e a
def CK{R:Value->Option Addr->St->Hp->Prop}(M:X.ex=[]):Uh (Zb X.prog X.w) (X.tr y0 (XS X y0 R)) (λU i d A=>R i d U A):=by
 intro J U H s e G I' h;obtain⟨k,i,d,B,A,rfl,Y,u,F,r,f,q⟩:=h;have I:=I'.Yv
 have F:=F
 have f:=f
 have K:k∉YV X.stack:=λhm=>by
  obtain⟨_,o,g,L⟩:=F.frames.mem hm;obtain⟨oe,V,T,oT,ts,N,hc,hd,_⟩:=F.on;rw[g]at N;cases N;exact L V hd
 have y:∀b o,s.heap.get? b=some o->b≠k:=λb o g z=>by
  subst z;obtain⟨l,Q⟩:=f.there b o g K;rw[F.new]at Q;cases Q
 refine⟨k,i,d,B,U,A,rfl,F,⟨?_,?_,λx c z=>?_,λp Z=>?_⟩,r.hole F.new,λO C W=>?_,q⟩
 .cases z:X.s₀.heap.get? k with
  |none=>rfl
  |some o=>
   obtain⟨l,S⟩:=I.base.there k o z (by rw[M];simp)
   exact absurd rfl (y k l S)
 .obtain⟨m,⟨o,_,_,g,_⟩,_⟩:=I.loc;exact(y _ o g).symm
 .obtain⟨v,o,g,_⟩:=I.cell x c z;exact y c o g
 .exact y p.1 p.2 (I.pin p Z).1
 .have j:∀ b o,s.heap.get? b=some o->b∈YV X.stack->∃ E,O.get? b=some { o with slots:=E }:=λb o g a=>by
   obtain⟨E,t⟩:=f.slot b o g (I.YY b a) a;obtain⟨_,o2,P,L⟩:=I.stack.mem a;rw[g]at P;cases P;obtain⟨D,g3⟩:=W b _ t L;exact⟨D,g3⟩
  refine I.WN (s':={G with heap:=O}) (ch:=[]) Y ⟨λb o g n a _=>C b o (f.keep b o g n a),λb o g n a _=>j b o g a,λb o g n _=>f.free b o g n,λb o g _=>?_,f.tups,f.frzs,f.tbls⟩ (r.kept λb o g=>C b o g) u λb a=>absurd a (by simp)
  by_cases a:b∈YV X.stack
  .obtain⟨E,t⟩:=j b o g a;exact⟨_,t⟩
  .obtain⟨l,t⟩:=f.there b o g a;exact⟨l,C b l t⟩
def SP.Yv{c:Q2}{f:Flow}{s':Shared}(h:SP (X.tr y0 c) [] D f s'):SP X y0 D f s':=by
 cases f with
 |next=>obtain⟨a,b,I,q⟩:=h;exact⟨a,b,I.Yv,q⟩
 |brk=>obtain⟨a,b,I,q⟩:=h;exact⟨a,b,I.Yv,q⟩
 |cont=>obtain⟨a,b,I,q⟩:=h;exact⟨a,b,I.Yv,q⟩
 |ret u=>obtain⟨v,a,b,I,r,q⟩:=h;exact⟨v,a,b,I.Yv,r,q⟩
section
open PySem.W
structure Yy (K:Frag) (D:Addr):Prop where
 cls:hasDictIn K D=true
 ga:findIn K (.ref D) "__getattribute__"=some (some (.builtin "BaseException.__getattribute__"))
 gh:findIn K (.ref D) "__getattr__"=some none
 ca:findIn K (.ref D) "__class__"=some (some (.builtin "object.__class__"))
 cg:specialIn K (.builtin "object.__class__") "__get__"=some (some (.builtin "getset_descriptor.__get__"))
 ct:takesIn K (.builtin "object.__class__")=some true
 mo:mroIn K D (.type "object")=some true
 mb:W.subIn K (.ref D) (.type "BaseException")=some true
section
variable {K:Frag} {x D:Addr} {ox:Obj} {od:Option Obj}
def NK{Q:Unit->Shared->Prop}(Z:Yy K D)(X:K.In s.heap)(I:InstAt s.heap x ox D od)(b:Q () s):wpAny M A (checkBuiltinCall "BaseException.__getattribute__" ⟨[.ref x,nm],[]⟩) Q E s:=by
 have f:=I.type (M:=M)
 have e:=looks_subIn (M:=M) X Z.mb
 have d:=F.args_bexc_ga (.ref x) nm
 refine Ad ((f.andThen e).at ?_)
 exact wpAny_of_eq d b
def JE{M:Model}(Z:Yy K D)(X:K.In h)(I:InstAt h x ox D od):Looks M h (Builtin.ObjectAttr.find (.ref x) (.ref D) "__class__") (Builtin.ObjectAttr.Found.bind (.builtin "getset_descriptor.__get__") (.builtin "object.__class__")):=by
 refine looks_find X I ?_;obtain⟨b,a,_⟩:=any_some Z.cls;unfold findObj;rw[a,Option.bind_some,Z.ca,Option.bind_some];simp[Z.cg,Z.ct]
def EL{Q:Option Value->Shared->Prop}(Z:Yy K D)(X:K.In s.heap)(I:InstAt s.heap x ox D od)(h:Q (some (.ref D)) {s with toks:=s.toks+1}):wpAny (model prog w) A (getAttr? (.ref x) "__class__") Q E s:=by
 obtain⟨k,g,d,t,j⟩:=s;have a:=I.type (M:=model prog w)
 have i:=looks_findIn (M:=model prog w) X Z.ga
 have f:=looks_findIn (M:=model prog w) X Z.gh
 have e:=JE (M:=model prog w) Z X I
 unfold getAttr? getAttrBy? getAttrBy;refine Ad (wpAny_mkText (Ad (Gv (By (Ad (a.at (Ad (i.at ?_))))))));have b:(Value.builtin "BaseException.__getattribute__" == Value.builtin "object.__getattribute__")=false:=by decide +kernel
 have c:=F.excAttr_ValueError.ga.bind (.ref x)
 dsimp only;rw[b,Bool.and_false,if_neg Aq];unfold getAttrByItsOwn hookBefore;rw[if_pos (show onTheHeap (Value.ref D)=true from rfl)];refine Ad (f.at (Ad (Gv (By ?_))));unfold callGetattribute boundAndCalled;rw[if_neg (show ¬((false&&onTheHeap (Value.builtin "BaseException.__getattribute__"))=true) by decide)]
 refine Ad (wpAny_of_eq c ?_);refine Fk (El F.excAttr_ValueError.ga.plain F.entry_bexc_ga (NK Z X I ?_));unfold Builtin.«object.__getattribute__»;refine Ad (Ap (Ad (Ap (Ad (a.at (Ad (e.at ?_)))))));show wpAny _ _ (Builtin.ObjectAttr.bindTo _ _ _ _) _ _ _
 unfold Builtin.ObjectAttr.bindTo;refine Ad (By (Fk (class_get (ox:=ox) (od:=od) X I Z.mo ?_)));refine Ap ?_;exact handed_on rfl (Ap h)
def IC(Z:Yy K D):KitX K (.ref x) (.ref D) (λh=>∃f g,InstAt h x f D g) where
 ty:=λ_ _ _ ⟨_,_,I⟩=>I.type
 it:=λM h X _=>by
  have q:(clsIn K D).isSome=true:=by
   obtain⟨l,c,_⟩:=any_some Z.cls;rw[c];rfl
  unfold clsIn at q;split at q
  .rename_i b
   intro t r s o i e;unfold isType loadHead;exact Ad (wpAny_loadPart (i _ _ (X _ _ b)) (Ap e))
  .cases q
 ne:=λh d p j n m X a=>by
  have q:(clsIn K D).isSome=true:=by
   obtain⟨l,c,_⟩:=any_some Z.cls;rw[c];rfl
  unfold clsIn at q;split at q
  .rename_i b
   refine Bm.mpr λz=>?_;obtain rfl:D=d:=Value.ref.inj (Fj.mp z);have z:=(X _ _ b).symm.trans a
   cases z
  .cases q
 ca:=λX ⟨_,_,I⟩ k=>EL Z X I k
end
noncomputable def Sl:V->Option Value
 |.ref C=>some (.ref C)
 |.ty T=>some (.type T)
 |_=>none
def FF{c:Value}(h:Sl v=some c)(r:RelV v u):u=c:=by
 cases v with
 |ref C=>cases h;exact r
 |ty T=>cases h;exact r
 |_=>cases h
section
variable {D:Addr}
def FI{E:XK}{D:Ends}{U:St}(h:ta U H λa b=>a.length<=sizeLine/\E (.ref C) none b):RG C E ta D U H:=h
end
def iV(P:Program)(w:World)(K:W.Frag)(b:Str->Option Value)(a:Heap)(k:Nat)(x:Str)(ps:List Str)(sp:Sp):Prop:=
 ∃f c,Z9 P w K b a (Zb P w) k f c ps sp/\b x=some (.ref f)/\W.keepIn K (.ref f)=true/\Binds K c ps []
section
variable {ps:List Str} {p:Pos} {E:XK}
def cP(c:iV X.prog X.w X.K X.mg X.base k x ps sp)(g:iJ (Zb X.prog X.w) X E)(h:Z4 k' X.A)(j:k<=k')(l:Gl X x)(o:PA X (e::es) t)(d:(x==("__debug__" : Str))=false:=by decide)(m:starEach (e::es) X.env=(false,eval e X.env)::starEach es X.env:=by rfl)(a:(backTo pos (starEach es X.env)).any (·.1)=false:=by rfl):PE X (.Call (.Name x p) (e::es) [] pos) (Up sp [] E t):=by
 obtain⟨f,q,F,i,b,n⟩:=c;exact NX F (h.mono j) l i b n .nil g o d m a
def dC:iJ (Zb X.prog X.w) X E0:=λ_ _ _ _ _ _ _ h=>by
 obtain⟨_,_,_,_,_,_,_,_,_,_,_,z⟩:=h;exact z.elim
def PS.Xf{t:TS}(h:PS X.Xf st t):PS X st t:=λa s U H D I b=>
 Ck (h a s U H D (I.YA _) b) (λ_ _ q=>q.Zd) λ_ _ z=>False.elim z
end
def ZQ.Ys{ps:List Str}(F:ZQ K x qual st f fd)(S:Z_ N ps (aJ st))(e:∀c H Q E,sp c H Q E->c.length=ps.length)(d:∀b A a s H c Q E,Z4 k (A.deeper (envOfC qual (aJ st) s.heap.objs.size f b))->sp c H Q E->
 ∃t,Yg (iQ (Zb P w) P w K mg base N qual (aJ st) f b A a s H E) (gI st) t/\t {nx:=λ_ n=>Q .non n,rt:=Q} (oS N c) H):Z9 P w K mg base (Zb P w) (k+1) f fd ps sp:=by
 obtain⟨q,p,r,m,o,v,b,u,i,rfl,j,h⟩:=F.ex;exact S4 j h S e λA a s H c Q E l g=>d b A a s H c Q E l g
def dS(a:Gl X x)(h:X.mg x=some (.ref C))(b:(x==("__debug__" : Str))=false:=by decide):PE X (.Name x pos) (tC (.ref C)):=rE a h rfl b
def zJ:bootBuiltins "ValueError"=some (.type "ValueError"):=by decide +kernel
end
section
variable {r:V->List V->Hp->VK->Prop}
def UM:V->List V->Hp->VK->Prop:=λx a H Q=>match x,a with
 |.ref l,[.ref b]=>(match iW H l,iW H b with|some xs,some zs=>xs.length+zs.length<=sizeLine/\Q .non (upd H l (.lst (xs++zs)))|_,_=>False)
 |_,_=>False
def UJ:Yu X "list.extend" UM:=Yu.imp  LK λ_ _ _ _ q=>by
 unfold UM at q;split at q
 .split at q
  .exact⟨_,_,_,_,rfl,rfl,nO (by assumption),nO (by (assumption)),q.1,q.2⟩
  simp_all
 .exact q.elim
def zr:V->List V->Hp->VK->Prop:=λx b H Q=>match x,b with
 |.ref l,[]=>(match iW H l with|some a=>(match a[a.length-1]? with|some y=>Q y (upd H l (.lst a.dropLast))|none=>False)|none=>False)
 |.ref l,[.int i]=>(match iW H l with|some a=>(-(2^63)<=i/\i<2^63)/\(match seqIndex? i a.length with|some k=>(match a[k]? with|some y=>Q y (upd H l (.lst (a.eraseIdx k)))|none=>False)|none=>False)|none=>False)
 |_,_=>False
def Th:List V->Hp->VK->Prop:=λa H Q=>match a with
 |[.int i]=>i.natAbs.log2<1920/\Q (.str (toString i)) H
 |_=>False
def UK:ZU X (.type "str") Th:=Yd.imp λ_ _ _ q=>by
 unfold Th at q;split at q
 .exact⟨_,rfl,q.1,q.2⟩
 simp_all
end
section
variable {l:Addr} {zs:List V}
def FY(e:iW H l=some xs)(a:iW H b=some zs)(c:xs.length+zs.length<=sizeLine)(h:Q .non (upd H l (.lst (xs++zs)))):UM (.ref l) [.ref b] H Q:=by unfold UM;simp only[e,a];exact⟨c,h⟩
def s_str(c:i.natAbs.log2<1920)(h:Q (.str (toString i)) H):Th [.int i] H Q:=⟨c,h⟩
end
def none_of{r:Addr}(s:Same H H')(h:H' r=none):H r=none:=by
 cases e:H r with
 |none=>rfl
 |some o=>rw[s _ _ e]at h;cases h
def bQ{o:HO}(a:H p=none)(s:Same H H'):Same H (upd H' p o):=λb u q=>by rw[aK (bN q a)];exact s b u q
section
variable {U0:St}
def fO{n:Nat}(R:Addr->Nat->List V->Hp->Prop)(E:n<sizeLine)(w:∀D,H1 D=none->R D 0 [] (upd H1 D (.lst [])))(p:∀D i a c,H1 D=none->R D i a c->i<n->J.go i c)(o:∀D a c,H1 D=none->R D n a c->J.stop n c)(hs:∀D i a c x l A (B:Hp->Prop),H1 D=none->i<n->R D i a c->c D=some (.lst a)->J.Xa i c x l->
 (∀y k,k D=some (.lst a)->R D (i+1) (a++[y]) (upd k D (.lst (a++[y])))->A y k)->(∀f,f D=some (.lst a)->R D (i+1) a f->B f)->
 g x U0 l λs C=>Wk U0 s/\tests s C λb f=>if b=true then te s f A else B f)(q:∀D a c,H1 D=none->R D n a c->c D=some (.lst a)->a.length<=n->Q (.ref D) c):dJ g tests te U0 Q J H1:=by
 intro D j;refine⟨λi m c=>m=n-i/\i<=n/\∃a,a.length<=i/\c D=some (.lst a)/\R D i a c,⟨n,by simp,Nat.zero_le _,[],Nat.le_refl _,aG,w D j⟩,?_⟩
 rintro i m c ⟨rfl,F,a,v,h,r⟩;by_cases d:i<n
 .refine .inr ⟨p D i a c j r d,λx l y=>hs D i a c x l _ _ j d r h y (λz k e t=>?_) (λf e u=>?_)⟩
  .exact⟨a,e,by ((try clear F);omega),n-(i+1),by ((try clear E F v);omega),rfl,d,a++[z],by rw[Aj];show a.length+1<=_;((try clear E F d);omega),aG,t⟩
  .exact⟨n-(i+1),by ((try clear E F v);omega),rfl,d,a,by ((try clear E F d);omega),e,u⟩
 .have e:i=n:=by ((try clear E v);omega)
  subst e;exact .inl ⟨o D a c j r,q D a c j r h v⟩
def ZE(b a:Hp)(ps:List Addr)(fs:List (List V)):Prop:=ps.length=fs.length/\∀(j:Nat) p t,ps[j]?=some p->fs[j]?=some t->b p=none/\a p=some (.tup t)
def ZE.keep{c:Hp}(t:ZE H1 Hc ps fs)(s:Same Hc c):ZE H1 c ps fs:=⟨t.1,λj p u b a=>⟨(t.2 j p u b a).1,s _ _ (t.2 j p u b a).2⟩⟩
def ZE.Vd{c:Hp}(t:ZE H1 Hc ps fs)(s:Same c H1):ZE c Hc ps fs:=⟨t.1,λj p u b a=>⟨none_of s (t.2 j p u b a).1,(t.2 j p u b a).2⟩⟩
def ZE.put{D:Addr}{c:List V}(t:ZE H1 Hc ps fs)(h:Hc D=some (.lst ys)):ZE H1 (upd Hc D (.lst c)) ps fs:=⟨t.1,λj p u e d=>by
 obtain⟨a,b⟩:=t.2 j p u e d;refine⟨a,?_⟩;rw[aK λz=>by grind]
 exact b⟩
def ZE.app{c:List Addr}{d:List _}(t:ZE H1 Hc ps fs)(u:ZE H1 Hc c d):ZE H1 Hc (ps++c) (fs++d):=by
 refine⟨by rw[Aj,Aj,t.1,u.1],λj p v b a=>?_⟩
 by_cases h:j<ps.length
 .rw[Bx h]at b;rw[Bx (by rwa[<-t.1])]at a
  exact t.2 j p v b a
 .rw[Br (by omega)]at b
  rw[Br (by rw[<-t.1];omega),<-t.1]at a
  exact u.2 _ p v b a
def ZE.nil:ZE H1 Hc [] []:=⟨rfl,λj p u a=>by cases a⟩
def ZE.one{t:List V}(a:H1 p=none)(b:Hc p=some (.tup t)):ZE H1 Hc [p] [t]:=⟨rfl,λj q u c d=>by
 cases j with
 |zero=>cases c;cases d;exact⟨a,b⟩
 |succ j=>cases c⟩
def EU(f:Nat->List V)(w:n<sizeLine)(hs:∀i a A (B:Hp->Prop),i<n->Same H1 a->(∀p e,a p=none->Same a e->e p=some (.tup (f i))->A (.ref p) e)->
 g (.int (lo+i)) U0 a λt E=>Wk U0 t/\tests t E λb u=>if b=true then te t u A else B u)(s:∀D e c,H1 D=none->Same H1 e->e D=some (.lst (c.map V.ref))->c.length=n->ZE H1 e c ((List.range n).map f)->Q (.ref D) e):dJ g tests te U0 Q (XR lo n) H1:=by
 refine fO (n:=n) (λD i j a=>Same H1 a/\∃c,j=c.map V.ref/\c.length=i/\ZE H1 a c ((List.range i).map f)) w (λD l=>⟨aE l _,[],rfl,rfl,.nil⟩) (λD i j a _ r h=>h) (λD j a _ r=>Ai n) ?_ ?_
 .rintro D i j a x F A B l y ⟨k,c,rfl,q,o⟩ d ⟨rfl,rfl⟩ C G;refine hs i F A B y k (λp e v m z=>?_);refine C _ _ (m _ _ d) ⟨bQ l (k.trans m),c++[p],by rw[Ar];rfl,by rw[Aj,q];rfl,?_⟩
  rw[Cp,Ar];exact((o.keep m).app (.one (none_of k v) z)).put (m _ _ d)
 .rintro D j a l ⟨k,c,rfl,q,o⟩ d _;exact s D a c l k d q o
end
noncomputable def VG(a c:Int)(n:Nat):It:=⟨λi _=>i<n,λi H x b=>b=H/\x=.int (a+(i:Int)*c),λi _=>n<=i⟩
def GN{K:PySem.W.Frag}(d:Addr)(j c:Int)(n:Nat):Turn P w K tg (VG j c n) [d] d (λi h=>IsRangeIter h d (j+(i:Nat)*c) ((n:Int)-(i:Nat)) c) where
 mem:=by simp
 obj:=λi h a b f=>by
  have e:b=d:=by simpa using f
  subst e;exact⟨_,a,λv z=>by
   have J:=z
   cases J⟩
 keep:=λi h m a k=>k d (by simp) _ a
 item:=by
  intro X u p x r i F s U H E I l a q;subst u p x;obtain⟨D,C,N,B,A,y⟩:=l d (by simp)
  have W:=Walks.range (prog:=X.prog) (w:=X.w) (I.ok.hd r) d j c n
  refine W.item i s _ _ q a λv m G M g L=>?_;obtain⟨t,rfl⟩:=M;have Q:Inv X F U H {s with heap:=m,toks:=G}:=I.turned (λb o f e=>L b o (by simpa using f) e) D C B A y
  exact⟨_,rfl,qI (s:={s with heap:=m,toks:=G}) (n := "range_iterator") g rfl rfl (by decide) ⟨.int (j+i*c),H,Q,⟨t,rfl⟩,⟨rfl,rfl⟩,g,λb f=>(l b f).1⟩⟩
 done:=by
  intro X u p x r i F s U H E I l a q;subst u p x;obtain⟨D,C,N,B,A,y⟩:=l d (by simp)
  exact wpAny_pyNext_range_end (I.ok.hd r) a (by have:n<=i:=q;((try clear B C);omega)) λm O=>⟨rfl,I.turned (t':=s.toks) (λb o f e=>O b o f e) D C B A y⟩
 self:=λ_ _ _ _ _ a h=>Hj a h
section
variable {a b:Expr} {p:Pos}
def VD(R:Int->Int->Int->Hp->Prop):List V->Hp->Prop:=λa H=>match a with|[.int i,.int j,.int k]=>R i j k H|_=>False
def LQ{R:Int->Int->Int->Hp->Prop}{vs:List V}(q:VD R vs H):∃i j k,vs=[.int i,.int j,.int k]/\R i j k H:=by
 unfold VD at q;split at q
 .exact⟨_,_,_,rfl,q⟩
 .exact q.elim
def Rl(K:W.Frag)(c:TE):TI:=λU H R=>c U H (gQ λa b=>Ye (qN b a) (R (Uk K a) b))
def M5(k:PE X l tl):PI X tg l (Rl X.K tl):=by
 intro i s U H R I h;refine ZY (k i s U H _ I h) λv c ⟨x,q,d,j,a⟩=>?_;unfold gQ at a;split at a
 .unfold Ye at a;split at a
  .rename_i r n
   cases j;obtain⟨f,u,p,w⟩:=d.tuple (YQ.of (qW n));rename_i g _ _
   refine wpAny_pyIter_tuple (show c.heap.IsTuple g f.toArray from p) ?_;refine⟨c.heap.objs.size,[c.heap.objs.size],_,_,q,rfl,d.kept (t':=c.toks) λb o e=>Af _ e,D5 g _,⟨_,Au _ rfl,rfl,rfl⟩,λb m=>?_,a⟩;have e:b=c.heap.objs.size:=by simp_all
   subst e;exact d.YO (Ai _) (d.Z8.fresh (Ai _))
  .exact a.elim
 .exact a.elim
end
section
variable {st:Int} {tb:TS} {U:St} {j k:Int}
def MD(b:Nat->St->Hp->Prop)(f:b 0 U H)(hs:∀i U H,i<n->b i U H->g (.int (lo+(i:Int)*st)) U H λh j=>tb {D with nx:=b (i+1),ct:=b (i+1),bk:=D.nx} h j)(d:∀U H,b n U H->D.nx U H):WA (VG lo st n) g tb D U H:=by
 refine⟨λi m U H=>m=n-i/\i<=n/\b i U H,⟨n,by simp,Nat.zero_le _,f⟩,?_⟩
 rintro i m U H ⟨rfl,l,p⟩;by_cases a:i<n
 .refine .inr ⟨a,b (i+1),λo k c=>⟨n-(i+1),by ((try clear l);omega),rfl,a,c⟩,λx k y=>?_⟩
  obtain⟨e,y⟩:=y;simp_all
 .have e:i=n:=by omega
  subst e;exact .inl ⟨Ai _,d U H p⟩
def zy{R:Int->Int->Int->Hp->Prop}(h:R i j k H):VD R [.int i,.int j,.int k] H:=h
def EO(h:tl U H (gQ λa b=>Ye (qN b a) (R (Uk K a) b))):Rl K tl U H R:=h
def BC{P:Prop}(e:qN H c=some xs)(h:P):Ye (qN H c) P:=by unfold Ye;simp only[e];exact h
end
def Qu{x:V}(h:cQ x=true):X0 x x=true:=by
 cases x<;>first|rfl|(simp[X0];done)|(cases h;done)
def Y3(b a:Hp)(ps:List Addr)(fs:List (List V)):Prop:=ps.length=fs.length/\∀(j:Nat) p t,ps[j]?=some p->fs[j]?=some t->b p=none/\a p=some (.lst t)
def Y3.keep{c:Hp}(t:Y3 H1 Hc ps fs)(s:Same Hc c):Y3 H1 c ps fs:=⟨t.1,λj p u b a=>⟨(t.2 j p u b a).1,s _ _ (t.2 j p u b a).2⟩⟩
def Y3.put{D:Addr}{o:HO}(t:Y3 H1 Hc ps fs)(h:∀p∈ps,p≠D):Y3 H1 (upd Hc D o) ps fs:=⟨t.1,λj p u c d=>by
 obtain⟨a,b⟩:=t.2 j p u c d;refine⟨a,?_⟩;rwa[aK (h p (As c))]⟩
def Y3.snoc{g:List V}(t:Y3 H1 Hc ps fs)(a:H1 q=none)(b:Hc q=some (.lst g)):Y3 H1 Hc (ps++[q]) (fs++[g]):=by
 refine⟨by rw[Aj,Aj,t.1];rfl,λj p v c d=>?_⟩
 by_cases h:j<ps.length
 .rw[Bx h]at c;rw[Bx (by rw[<-t.1];exact h)]at d
  exact t.2 j p v c d
 .rw[Br (by omega)]at c
  rw[Br (by rw[<-t.1];omega),<-t.1]at d
  cases e:j-ps.length with
  |zero=>rw[e]at c d;cases c;cases d;exact⟨a,b⟩
  |succ n=>rw[e]at c;cases c
def Y3.nil:Y3 H1 Hc [] []:=⟨rfl,λj p u a=>by cases a⟩
def mJ(ns:List Int):∀n,n<=ns.length->preSum (λi=>ns.getD i 0) n=(ns.take n).sum
 |0,_=>by simp[preSum]
 |n+1,h=>by
  have a:=mJ ns n (by (exact Nat.le_of_lt (by assumption)))
  have e:ns.take (n+1)=ns.take n++[ns.getD n 0]:=by rw[Bf,Ah,Aa (by (assumption))];rfl
  rw[e,List.sum_append,<-a];simp[preSum]
def K8(h:∀n∈ns,0<=n/\n<=1000000):0<=ns.sum/\ns.sum<=1000000*(ns.length:Int):=by
 induction ns with
 |nil=>simp
 |cons n r e=>
  obtain⟨a,b⟩:=h n (Al ..);obtain⟨c,d⟩:=e λm f=>h m (Am _ f);grind
def Tq:List V->Hp->VK->Prop:=λb H Q=>∃(p:Addr) (a:List Int),b=[.ref p]/\Z6 H p=some (a.map V.int)/\(∀n∈a,0<=n/\n<=1000000)/\a.length<=100000/\Q (.int a.sum) H
def RY(hc:X.calm=true):ZU X (.builtin "sum") Tq:=by
 intro y0 s U H xs us Q I r h;obtain⟨p,ns,rfl,hp,hb,hn,q⟩:=h;obtain⟨u,rfl,ru⟩:=dL r;cases ru;obtain⟨its,rv,pl,hz⟩:=I.list (bG hp);have hl:=pl.isList
 have hlt:p<s.heap.objs.size:=by obtain⟨_,e,_⟩:=hl;exact Av e
 have hle:its.length=ns.length:=by have:=rv.length;rw[Ac]at this;((try clear hlt hn hz);omega)
 refine call_sum_walk (Dp hl ?_);refine⟨s.heap.objs.size,[s.heap.objs.size,p],[s.heap.objs.size],its.toArray.size,_,_,λi=>ns.getD i 0,rfl,Walks.list (A:=X.A.in1) (I.ok.hd hc) _ p (Bb hlt) its.toArray,
  ⟨⟨_,Au _ rfl,rfl,rfl⟩,hl.push _⟩,λb hb=>?_,λi v hv=>?_,λj hj=>?_,λh' tk t' hk=>?_⟩
 .rw[show ({s with heap:=_}:Shared).heap=_ from rfl]
  simp only[List.mem_cons,List.not_mem_nil,or_false]at hb;rcases hb with e|e
  .rw[e];simp[Heap.push]
  .rw[e];exact Nat.lt_of_lt_of_le hlt (by simp[Heap.push])
 .have hv':its[i]?=some v:=by simpa using hv
  have hi:i<ns.length:=by rw[<-hle];exact(Ag.mp hv').1
  obtain⟨u,hu,ru⟩:=rv.get (show (ns.map V.int)[i]?=some (.int ns[i]) by rw[Ae,Aa hi];rfl)
  rw[hv']at hu;cases hu;obtain⟨t,rfl⟩:=ru;exact⟨t,by show Value.int ns[i] t=Value.int (ns.getD i 0) t;rw[Ah,Aa hi];rfl⟩
 .have hj' : j < ns.length := by have : j < its.length := by simpa using hj
                                 ((try clear hj hlt hn hz);omega)
  have e:=mJ ns (j+1) (by (assumption))
  obtain⟨a1,a2⟩:=K8 (ns:=ns.take (j+1)) λm hm=>hb m (Fh hm);rw[Bi]at a2;have a3:ns.getD j 0∈ns:=by rw[Ah,Aa hj'];exact Co _
  obtain⟨b1,b2⟩:=hb _ a3;refine⟨?_,?_⟩
  .show InLong (ns.getD j 0)
   unfold InLong;((try clear a1 a2 e hj hj' hle hlt hn hz);omega)
  .rw[e];unfold InLong;((try clear b1 b2 e hj hlt hz);omega)
 .have e:preSum (λi=>ns.getD i 0) its.toArray.size=ns.sum:=by
   rw[Az,hle,mJ ns _ (Ai _),Cm]
  rw[e];exact⟨.int ns.sum,H,I.kept (LSm.kept_iter hk),⟨_,rfl⟩,q⟩
def C4(e:Z6 H p=some (ns.map V.int))(b:∀n∈ns,0<=n/\n<=1000000)(a:ns.length<=100000)(h:Q (.int ns.sum) H):Tq [.ref p] H Q:=⟨p,ns,rfl,e,b,a,h⟩
section
variable {κ:Type} [DecidableEq κ]
noncomputable def dE(a:List (κ×V))(k:κ):Option V:=(a.find? λb=>decide (b.1=k)).map (·.2)
noncomputable def eP(a:List (κ×V))(k:κ)(v:V):List (κ×V):=
 if (a.any λb=>decide (b.1=k))=true then a.map (λb=>if b.1=k then (b.1,v) else b) else a++[(k,v)]
def dF{r:List _}{k:κ}(e:p.1=k):dE (p::r) k=some p.2:=by simp[dE,List.find?_cons,e]
def dD{r:List _}{k:κ}(e:¬p.1=k):dE (p::r) k=dE r k:=by simp[dE,List.find?_cons,e]
def iE(k:κ):∀a,(a.any λb=>decide (b.1=k))=(dE a k).isSome
 |[]=>rfl
 |p::r=>by
  rw[Ht];by_cases e:p.1=k
  .simp only[dF e,decide_eq_true e,Bool.true_or,Option.isSome_some]
  .rw[dD e,An e,Gx];exact iE k r
def NF(k j:κ)(y:V):∀a,dE (a.map λb=>if b.1=k then (b.1,y) else b) j=(dE a j).map λx=>if j=k then y else x
 |[]=>rfl
 |p::r=>by
  have c:=NF k j y r
  rw[Ax];by_cases h:p.1=k
  .rw[if_pos h];by_cases e:p.1=j
   .rw[dF (p:=(p.1,y)) e,dF e,Option.map_some,if_pos (e.symm.trans h)]
   .rw[dD (p:=(p.1,y)) e,dD e,c]
  .rw[if_neg h];by_cases e:p.1=j
   .rw[dF  e,dF e,Option.map_some,if_neg (λz=>h (e.trans z))]
   .rw[dD  e,dD e,c]
def R5(k j:κ)(y:V):∀a,dE a k=none->dE (a++[(k,y)]) j=if j=k then some y else dE a j
 |[],_=>by
  by_cases e:k=j
  .rw[if_pos e.symm];exact dF  e
  .rw[if_neg (λz=>e z.symm)];exact dD (p:=(k,y)) e
 |p::r,hn=>by
  rw[List.cons_append];have b:¬p.1=k:=λz=>by rw[dF z]at hn;cases hn
  rw[dD b]at hn;have c:=R5 k j y r hn
  by_cases e:p.1=j
  .rw[dF e,dF e,if_neg (λz=>b (e.trans z))]
  .rw[dD e,dD e,c]
def Kv(kvs:List (κ×V))(k j:κ)(y:V):dE (eP kvs k y) j=if j=k then some y else dE kvs j:=by
 unfold eP;by_cases a:(kvs.any λb=>decide (b.1=k))=true
 .rw[if_pos a,NF];rw[iE]at a;by_cases e:j=k
  .obtain⟨x,c⟩:=Dt.mp a;rw[if_pos e,e,c,Option.map_some,if_pos rfl]
  simp_all
 .rw[if_neg a];refine R5 k j y kvs ?_;rw[iE]at a;simp_all
def fH(a:List _)(k:κ)(v:V):(eP a k v).length<=a.length+1:=by
 unfold eP;grind
def mY{a:List _}{k:κ}(v:V)(h:dE a k=none):eP a k v=a++[(k,v)]:=by
 unfold eP;rw[iE,h];simp_all
def Zj.Zg{o:Option V}{u:Option Value}(r:Zj o u):o.isSome=u.isSome:=by
 cases o with
 |none=>cases u with
  |none=>rfl
  |some _=>exact(show False from r).elim
 |some _=>cases u with
  |none=>exact(show False from r).elim
  |some _=>rfl
def Zj.getD{o:Option V}{u:Option Value}{d:V}{d':Value}(r:Zj o u)(a:RelV d d'):RelV (o.getD d) (u.getD d'):=by
 cases o with
 |none=>cases u with
  |none=>exact a
  |some _=>exact(show False from r).elim
 |some _=>cases u with
  |none=>exact(show False from r).elim
  |some _=>exact r
def KV.val{a:List _}{vs:List _}(r:KV a vs)(k:κ):Zj (dE a k) (valueAt vs k):=by
 induction r with
 |nil=>exact True.intro
 | @cons p q j c h t g=>
  obtain⟨f,i⟩:=h;by_cases e:p.1=k
  .have d:=f.symm.trans e
   have b:valueAt (q::c) k=some q.2:=by simp[valueAt,List.find?_cons,d]
   rwa[dF e,b]
  .have d:¬q.1=k:=λz=>e (f.trans z)
   have b:valueAt (q::c) k=valueAt c k:=by simp[valueAt,List.find?_cons,d]
   rwa[dD e,b]
def KV.any{a:List _}{vs:List _}(r:KV a vs)(k:κ):(a.any λb=>decide (b.1=k))=vs.any λb=>decide (b.1=k):=by
 induction r with
 |nil=>rfl
 |cons h t c=>rw[Ht,Ht,c,h.1]
def KV.Wd{b:List _}{vs:List _}(r:KV b vs)(k:κ)(d:RelV y u):KV (b.map λa=>if a.1=k then (a.1,y) else a) (vs.map λa=>if a.1=k then (a.1,u) else a):=by
 induction r with
 |nil=>exact .nil
 | @cons p q j i h t f=>
  refine .cons ?_ f;grind
def KV.put{a:List _}{vs:List _}(r:KV a vs)(k:κ)(b:RelV y u):KV (eP a k y) (stored vs k u):=by
 unfold eP stored;rw[r.any k];by_cases e:(vs.any λc=>decide (c.1=k))=true
 .rw[if_pos e,if_pos e];exact r.Wd k b
 .rw[if_neg e,if_neg e];exact Paired.snoc r ⟨rfl,b⟩
def KV.length{a:List _}{vs:List (κ×Value)}(r:KV a vs):a.length=vs.length:=Paired.length r
end
def tJ{k:Key}(r:RelV (kV k) u):(bL P w).is k u=true:=by
 cases k with
 |inl i=>obtain⟨t,e⟩:=(show ∃t,u=Value.int i t from r);subst e;exact Nl P w i t
 |inr x=>obtain⟨t,e⟩:=(show ∃t,u=Value.str x t from r);subst e;exact G7 P w x t
def zQ:∀ {a:List Key} {b:List Value},Vals (a.map kV) b->ItemsAre (bL P w) a b
 |[],_,r=>by rw[Fg]at r;cases r;exact .nil
 |k::a,_,r=>by
  cases r with
  |cons h t=>exact .cons (tJ h) (zQ t)
abbrev KT(H:Hp):List (List Key×V)->List (List Key×Addr×Value)->Prop:=Paired λp q=>p.1=q.1/\H q.2.1=some (.tup (p.1.map kV))/\RelV p.2 q.2.2
def KT.val{a:List _}{xs:List _}(r:KT H a xs)(k:List Key):Zj (dE a k) ((atKey xs k).map (·.2)):=by
 induction r with
 |nil=>exact True.intro
 | @cons p q j c h t g=>
  obtain⟨f,_,i⟩:=h;by_cases e:p.1=k
  .have d:=f.symm.trans e
   have b:atKey (q::c) k=some q.2:=by simp[atKey,List.find?_cons,d]
   rwa[dF e,b]
  .have d:¬q.1=k:=λz=>e (f.trans z)
   have b:atKey (q::c) k=atKey c k:=by simp[atKey,List.find?_cons,d]
   rwa[dD e,b]
def KT.Wd{a:List _}{xs:List _}(r:KT H a xs)(k:List Key)(f:RelV y u):KT H (a.map λc=>if c.1=k then (c.1,y) else c) (xs.map (putAt k u)):=by
 induction r with
 |nil=>exact .nil
 | @cons p q l j h t g=>
  rw[Ax,Ax];refine .cons ?_ g;obtain⟨b,d,i⟩:=h;unfold putAt;by_cases e:p.1=k
  .rw[if_pos e,if_pos (b.symm.trans e)];exact⟨b,d,f⟩
  simp_all
def KT.put{a:List _}{xs:List _}(r:KT H a xs)(k:List Key)(f:H b=some (.tup (k.map kV)))(c:RelV y u):KT H (eP a k y) (storedH xs k b u):=by
 have e:(a.any λd=>decide (d.1=k))=(atKey xs k).isSome:=by
  rw[iE,(r.val k).Zg,Option.isSome_map]
 unfold eP storedH;rw[e];by_cases q:(atKey xs k).isSome=true
 .rw[if_pos q,if_pos q];exact r.Wd k c
 .rw[if_neg q,if_neg q];exact Paired.snoc r ⟨rfl,f,c⟩
def KT.keeps{a:List _}{xs:List _}(r:KT H a xs)(d:∀b c,H b=some (.tup c)->H' b=some (.tup c)):KT H' a xs:=
 Paired.Wl r λ_ _ z=>⟨z.1,d _ _ z.2.1,z.2.2⟩
def Qa{u:HO}(ok:Y_ P w H h)(e:Rd H a u):ZW P w H h a u:=e.ok ok
def lX(ok:Y_ P w H h)(e:Rd H a (.dK kvs)):kvs.length<=sizeLine/\(a==sysModules)=false/\∃b,KV kvs b/\h.DictOf (bL P w) a b:=
 show ZW P w H h a _ from Qa ok e
def Ra(ok:Y_ P w H h)(e:H a=some (.dK kvs)):kvs.length<=sizeLine/\(a==sysModules)=false/\∃b,KV kvs b/\h.DictOf (bL P w) a b:=lX ok (.inl e)
def pU{b:List Key}(ok:Y_ P w H h)(e:H a=some (.tup (b.map kV))):(tupleKind (bL P w)).is h b a:=by
 obtain⟨_,c,r,o,g,f,n,d⟩:=(show ZW P w H h a _ from ok a _ e);exact⟨o,c.toArray,n,g,f,d,by simpa using zQ r⟩
def tL{b:List (List Key×V)}(ok:Y_ P w H h)(e:Rd H a (.dT b)):b.length<=sizeLine/\(a==sysModules)=false/\
 ∃d,KT H b d/\h.DictOfH (tupleKind (bL P w)) a d:=by
 obtain⟨z,y,d,r,o,v,A,u,s,n,k,j⟩:=(show ZW P w H h a (.dT b) from Qa ok e);refine⟨z,y,d,r,o,v,A,u,s,n,k,λx c=>?_,j⟩;have f:∀ {l:List (List Key×V)} {m:List (List Key×Addr×Value)},KT H l m->∀x∈m,(tupleKind (bL P w)).is h x.1 x.2.1:=by
  intro l m q;induction q with
  |nil=>intro x c;exact nomatch c
  | @cons p q C B g t i=>
   intro x c;rcases Ba.mp c with e|c
   .subst e;exact pU ok (by simp_all)
   .exact i x c
 exact f r x c
def Rq{b:List _}(ok:Y_ P w H h)(e:H a=some (.dT b)):b.length<=sizeLine/\(a==sysModules)=false/\
 ∃c,KT H b c/\h.DictOfH (tupleKind (bL P w)) a c:=tL ok (.inl e)
def uD(H:Hp)(a:Addr)(y:V)(r:Option V):Prop:=
 (∃c k,Rd H a (.dK c)/\y=kV k/\r=dE c k)\/∃c k b,Rd H a (.dT c)/\y=.ref b/\H b=some (.tup (k.map kV))/\r=dE c k
def SF(H:Hp)(a:Addr)(y v:V)(d:Hp):Prop:=
 (∃c k,H a=some (.dK c)/\y=kV k/\c.length<sizeLine/\d=upd H a (.dK (eP c k v)))\/
 ∃c k b,H a=some (.dT c)/\y=.ref b/\H b=some (.tup (k.map kV))/\c.length<sizeLine/\d=upd H a (.dT (eP c k v))
section
variable {U:St} {r:Value} {o:Option V}
def Inv.big(I:Inv X y0 U H s):sysModules<s.heap.objs.size:=by
 have h:=(I.mod.glob.keeps I.bk).lt
 exact Nat.lt_trans (by decide) h
def A5{Q:Q2}(C:A.units+1<cLine)(I:Inv X y0 U H s)(g:uD H a y (some v))(t:RelV y u)(h:∀f r,Inv X y0 U H r->RelV v f->Q f r):wpAny (model X.prog X.w) A (getItem (.ref a) u) Q E s:=by
 rcases g with⟨i,k,e,n,l⟩|⟨i,k,b,e,n,G,l⟩
 .subst n;obtain⟨z,F,B,d,q⟩:=lX I.Z8 e;obtain⟨f,j,c⟩:=Zj.some_of (v:=v) (o:=valueAt B k) (by rw[l];exact d.val k)
  exact wpAny_getItem_of (tJ t) q.mapOf j (h f _ (I.tok _) c)
 .subst n;cases (show u=Value.ref b from t);obtain⟨z,F,x,d,q⟩:=tL I.Z8 e;obtain⟨f,j,c⟩:=Zj.some_of (v:=v) (o:=(atKey x k).map (·.2)) (by rw[l];exact d.val k)
  obtain⟨p,D,m⟩:=Bk.mp j;refine wpAny_getItem_heap (Fa C) (pU I.Z8 G) q D ?_;rw[m];exact h f _ (I.tok _) c
def Ij{Q:Q2}(p:A.units+1<cLine)(I:Inv X y0 U H s)(g:uD H a y o)(n:RelV y u)(h:∀m,Inv X y0 U H m->Q (.bool o.isSome) m):wpAny (model X.prog X.w) A (compareOp .In u (.ref a)) Q E s:=by
 rcases g with⟨d,k,e,i,l⟩|⟨d,k,b,e,i,r,l⟩
 .subst i;obtain⟨z,f,v,c,j⟩:=lX I.Z8 e;refine wpAny_in_of (tJ n) f j.mapOf ?_;rw[<-(c.val k).Zg,<-l];exact h _ (I.tok _)
 .subst i;cases (show u=Value.ref b from n);obtain⟨z,f,t,c,j⟩:=tL I.Z8 e;refine wpAny_in_heap (Fa p) (pU I.Z8 r) f j ?_;have q:=(c.val k).Zg
  rw[Option.isSome_map]at q;rw[<-q,<-l];exact h _ (I.tok _)
def ML{Q:Q2}(p:A.units+1<cLine)(I:Inv X y0 U H s)(g:uD H a y o)(n:RelV y u)(h:∀m,Inv X y0 U H m->Q (.bool (!o.isSome)) m):wpAny (model X.prog X.w) A (compareOp .NotIn u (.ref a)) Q E s:=by
 rcases g with⟨d,k,e,i,l⟩|⟨d,k,b,e,i,r,l⟩
 .subst i;obtain⟨z,f,v,c,j⟩:=lX I.Z8 e;refine wpAny_notIn_of (tJ n) f j.mapOf ?_;rw[<-(c.val k).Zg,<-l];exact h _ (I.tok _)
 .subst i;cases (show u=Value.ref b from n);obtain⟨z,f,t,c,j⟩:=tL I.Z8 e;refine wpAny_notIn_heap (Fa p) (pU I.Z8 r) f j ?_;have q:=(c.val k).Zg
  rw[Option.isSome_map]at q;rw[<-q,<-l];exact h _ (I.tok _)
def Qz{c:HO}(I:Inv X y0 U H s)(f:Vc (H a))(hs:Heap.SameBut a s.heap h')(g:∃q,h'.get? a=some q)(d:ZW X.prog X.w (upd H a c) h' a c):Inv X y0 U (upd H a c) {s with heap:=h',toks:=t'}:=
 I.write   f (.inl rfl) (λb q i z=>(hs.2 b i).trans z) g d
def QS{vs:List _}(z:kvs.length<=sizeLine)(c:(a==sysModules)=false)(b:KV kvs vs)(dd:h'.DictOf (bL P w) a vs):ZW P w H' h' a (.dK kvs):=⟨z,c,vs,b,dd⟩
def HG{Q:Unit->Shared->Prop}(N:A.units+1<cLine)(I:Inv X y0 U H s)(g:SF H a y v H')(D:RelV y u)(F:RelV v r)(h:∀C,Inv X y0 U H' C->Q () C):wpAny (model X.prog X.w) A (setItem (.ref a) u r) Q E s:=by
 rcases g with⟨f,k,e,t,l,x⟩|⟨f,k,b,e,t,K,l,x⟩
 .subst t x;obtain⟨z,p,M,d,B⟩:=Ra I.Z8 e;have m:M.length<=sizeLine:=by rw[<-d.length];exact z
  have o:(eP f k v).length<=sizeLine:=by have:=fH f k v;((try clear N m z);omega)
  refine wpAny_setItem_pairs (hsz:=m) (tJ D) B λG i n=>h _ ?_;have O:∃q,G.get? a=some q:=let ⟨q,_,_,j,_⟩:=i;⟨q,j⟩
  exact Qz I (by rw[e];exact True.intro) n O (QS o p (d.put k F) i)
 .subst t x;cases (show u=Value.ref b from D);obtain⟨z,p,L,d,B⟩:=Rq I.Z8 e;have m:L.length<=sizeLine:=by rw[<-Paired.length d];exact z
  have o:(eP f k v).length<=sizeLine:=by have:=fH f k v;((try clear N m z);omega)
  refine wpAny_setItem_heap (hsz:=m) (Fa N) (pU I.Z8 K) B λG i n=>h _ ?_;obtain⟨q,V,W,j,T,S,R,_,P⟩:=i;refine Qz I (by rw[e];exact True.intro) n ⟨q,j⟩ ⟨o,p,_,(d.put k K F).keeps λc Y J=>?_,q,V,W,j,T,S,R,P⟩
  rw[aK (CJ J e (λz=>nomatch z))]
  exact J
end
def Rk(i:Expr):Prop:=∀a b,subscripted i false a b=operate [a,b] (getItem a b)
def KL{b a:Expr}{id:String}{Q:Q2}(m:typeLookup (.type T) "__getitem__"=pure (some (.builtin id)))(hs:Rk a)(h:wpAny (model prog w) A (eval b env) (λo f=>wpAny (model prog w) A (eval a env) (λi c=>c.TypeIs o T/\wpAny (model prog w) A (getItem o i) Q E c) E f) E s):wpAny (model prog w) A (eval (.Subscript b a pos) env) Q E s:=by
 refine Subscript_ (Ck h (λo f k=>Ck k (λi c d=>?_) λ_ _ x=>x) λ_ _ x=>x);obtain⟨l,d⟩:=d;refine Ad ?_;refine Ad (wpAny_specialOf l m ?_);have g:wpAny (model prog w) A (subscripted a false o i) (λr e=>wpAny (model prog w) A (letTemporaryGo b o r >>= λ_=>pure r) Q E e) E c:=by
  rw[hs o i];exact wpAny_operating (Ck d (λr e j=>Ad (wpAny_letTemporaryGo (Ap j))) λ_ _ x=>x)
 first
  |exact Ap (Ad g)
def B4{U:St}{o:Option V}(I:Inv X y0 U H s)(g:uD H a y o):s.TypeIs (.ref a) "dict" := by
 rcases g with⟨c,k,e,_,_⟩|⟨c,k,b,e,_,_,_⟩
 .obtain⟨_,_,h,_,d⟩:=lX I.Z8 e;exact d.typeIs
 .obtain⟨_,_,f,_,d⟩:=tL I.Z8 e;exact d.typeIs
def Rp(d c:TE):TE:=λU H Q=>d U H λx e=>c U e λy b=>∃a v,x=.ref a/\uD b a y (some v)/\Q v b
def Ox(e c d:TE):TS:=λD U H=>d U H λv h=>e U h λx g=>c U g λy f=>∃a b,x=.ref a/\SF f a y v b/\D.nx U b
section
variable {o i value:Expr} {pos':Pos} {td ty:TE}
def jE(hu:X.A.units+1<cLine)(ho:PE X o td)(hi:PE X i ty)(hs:Rk i):PE X (.Subscript o i pos) (Rp td ty):=by
 intro y0 s U H Q I h;refine KL PySem.F.slot_dict_getitem.lookup hs (ZY (ho y0 s U H _ I h) λu s1 ⟨x,H1,I1,rx,q1⟩=>ZY (hi y0 s1 U H1 _ I1 q1) λiv s2 ⟨y,H2,I2,ry,a,v,ex,g,q2⟩=>?_);subst ex;obtain rfl:u=Value.ref a:=rx;exact⟨B4 I2 g,A5 hu I2 g ry λw' s3 I3 rw'=>⟨v,H2,I3,rw',q2⟩⟩
def lD(hu:X.A.units+1<cLine)(ho:PE X o td)(hi:PE X i ty)(hv:PE X value tv)(hs:swapsWith value (some (.Subscript o i pos')) pos.line X.env=pure false):PS X (.Assign [.Subscript o i pos'] value pos) (Ox td ty tv):=by
 intro y0 s U H D I h;refine wpAny_Assign_Subscript (ZY (hv y0 s U H _ I h) λr s1 ⟨v,H1,I1,rv,q1⟩=>ZY (ho y0 s1 U H1 _ I1 q1) λu s2 ⟨x,H2,I2,rx,q2⟩=>ZY (hi y0 s2 U H2 _ I2 q2) λiv s3 ⟨y,H3,I3,ry,a,H4,ex,g,q3⟩=>?_) hs;subst ex;obtain rfl:u=Value.ref a:=rx;exact HG hu I3 g ry rv λs4 I4=>⟨U,H4,I4,q3⟩
end
def ED(h:Heap)(a:sysModules<h.objs.size):ZW P w H (h.push {cls:=.type "dict",data:=.dict #[]}) h.objs.size (.dK []):=
 ⟨Do _,Cr.mpr (Ne.symm (Bb a)),[],.nil,Heap.DictOf.new h⟩
def Kq(h:Heap)(a:sysModules<h.objs.size):ZW P w H (h.push {cls:=.type "dict",data:=.dict #[]}) h.objs.size (.dT []):=
 ⟨Do _,Cr.mpr (Ne.symm (Bb a)),[],.nil,_,#[],0,Au _ rfl,⟨rfl,rfl,rfl⟩,rfl,rfl,List.nodup_nil⟩
def NP:TE:=λ_ H Q=>∀p,H p=none->Q (.ref p) (upd H p (.dK []))
def RD:TE:=λ_ H Q=>∀p,H p=none->Q (.ref p) (upd H p (.dT []))
def xO:PE X (.Dict [] [] pos) NP:=λb s U H Q I h=>
 wpAny_Dict_empty ⟨.ref s.heap.objs.size,_,I.laid    (λ_ _ q=>Af _ q) (Ai _) (ED s.heap I.big),rfl,h _ (I.Z8.fresh (Ai _))⟩
def NY:PE X (.Dict [] [] pos) RD:=λb s U H Q I h=>
 wpAny_Dict_empty ⟨.ref s.heap.objs.size,_,I.laid    (λ_ _ q=>Af _ q) (Ai _) (Kq s.heap I.big),rfl,h _ (I.Z8.fresh (Ai _))⟩
noncomputable def jN(kvs a:List (Key×V)):List (Key×V):=a.foldl (λb c=>eP b c.1 c.2) kvs
def KV.merge:∀ {a:List (Key×V)} {d:List (Key×Value)} {b:List (Key×V)} {c:List (Key×Value)},KV a d->KV b c->KV (jN b a) (merged c d):=by
 intro a d b c r;induction r generalizing b c with
 |nil=>intro q;exact q
 | @cons p q j i h t g=>
  intro f;have e:KV (eP b p.1 p.2) (stored c q.1 q.2):=by
   have:=f.put p.1 h.2
   simp_all
  exact g e
def oM:∀b a,(jN a b).length<=a.length+b.length
 |[],a=>by show a.length<=a.length+0;omega
 |p::r,a=>by
  have d:=oM r (eP a p.1 p.2)
  have c:=fH a p.1 p.2
  show (jN _ r).length<=_
  grind
def RM(H:Hp)(a:Addr):Prop:=(∃b,Rd H a (.dK b))\/∃b,Rd H a (.dT b)
def J6{U:St}(I:Inv X y0 U H s)(d:RM H a):s.TypeIs (.ref a) "dict"/\(∀b,Value.ref a=.ref b->∃c,s.heap.get? b=some c/\c.dict=none)/\(a==sysModules)=false:=by
 rcases d with⟨g,e⟩|⟨g,e⟩
 .obtain⟨_,h,l,_,f⟩:=lX I.Z8 e;refine⟨f.typeIs,λb q=>?_,h⟩;cases q;obtain⟨c,_,_,j,i,_⟩:=f;exact⟨c,j,i.2.1⟩
 .obtain⟨_,h,k,_,f⟩:=tL I.Z8 e;refine⟨f.typeIs,λb q=>?_,h⟩;cases q;obtain⟨c,_,_,j,i,_⟩:=f;exact⟨c,j,i.2.1⟩
section
variable {U:St} {d:V} {r:Value} {o:Option V}
def LP{Q:Q2}(r:A.units+1<cLine)(I:Inv X y0 U H s)(g:uD H a y o)(p:RelV y u)(h:∀m n,Inv X y0 U H n->RelV (o.getD .non) m->Q m n):wpAny (model X.prog X.w) A (call (.builtin "dict.get") [.ref a,u]) Q E s:=by
 rcases g with⟨f,k,e,j,l⟩|⟨f,k,b,e,j,t,l⟩
 .subst j;obtain⟨z,i,v,c,d⟩:=lX I.Z8 e;refine Gm Cb d.typeIs Eu (Hi _ _) (meets_dict_get _ a (tJ p) i) ⟨_,d.mapOf,h _ _ (I.tok _) ?_⟩;rw[l];exact(c.val k).getD rfl
 .subst j;cases (show u=Value.ref b from p);obtain⟨z,i,q,c,d⟩:=tL I.Z8 e;refine Gm Cb d.typeIs Eu (Hi _ _) (meetsH_dict_get _ a b i) ⟨Fa r,k,q,pU I.Z8 t,d,h _ _ (I.tok _) ?_⟩;rw[l];exact(c.val k).getD rfl
def Jn{Q:Q2}(x:A.units+1<cLine)(I:Inv X y0 U H s)(g:uD H a y o)(q:RelV y u)(t:RelV d r)(h:∀n p,Inv X y0 U H p->RelV (o.getD d) n->Q n p):wpAny (model X.prog X.w) A (call (.builtin "dict.get") [.ref a,u,r]) Q E s:=by
 rcases g with⟨i,k,e,m,l⟩|⟨i,k,b,e,m,B,l⟩
 .subst m;obtain⟨z,j,C,c,f⟩:=lX I.Z8 e;refine Gm Cb f.typeIs Eu (PySem.F.args_dict_get_3 _ _ _) (meets_dict_get_default _ a (tJ q) j r) ⟨_,f.mapOf,h _ _ (I.tok _) ?_⟩;rw[l];exact(c.val k).getD t
 .subst m;cases (show u=Value.ref b from q);obtain⟨z,j,v,c,f⟩:=tL I.Z8 e;refine Gm Cb f.typeIs Eu (PySem.F.args_dict_get_3 _ _ _) (meetsH_dict_get_default (tupleKind (bL X.prog X.w)) a b j r) ⟨Fa x,k,v,pU I.Z8 B,f,h _ _ (I.tok _) ?_⟩;rw[l];exact(c.val k).getD t
end
section
variable {U:St}
def Inv.re(I:Inv X y0 U H s)(j:∀b,H b=none->H' b=none)(f:∀b l,X.H₀ b=some (.tup l)->H' b=some (.tup l))(i:∀b o u,X.H₀ b=some (.frz o u)->H' b=some (.frz o u))(g:∀b m,X.H₀ b=some (.tbl m)->∃h,H' b=some (.tbl (m++h)))(k:Y_ X.prog X.w H' s.heap):Inv X y0 U H' s:=
 ⟨I.ok,I.os,I.bare,⟨I.base.keep,I.base.slot,λb o e n q=>j b (I.base.free b o e n q),I.base.there,f,i,g⟩,I.loc,I.cell,j _ I.free,λx c e=>j c (I.ZI x c e),λp r=>by
  obtain⟨a,b,c,d,e⟩:=I.pin p r;exact⟨a,j _ b,c,d,e⟩,k,I.len⟩
noncomputable def P7:HO->Bool
 |.dK _=>true
 |.dT _=>true
 |_=>false
def Inv.freeze{u:HO}(I:Inv X y0 U H s)(i:H a=some u)(j:P7 u=true)(r:s.heap.get? a=some o):Inv X y0 U (upd H a (.frz o u)) s:=by
 have h:∀c v,H c=some v->P7 v=false->c≠a:=λc v q n z=>by grind
 have g:∀c y,H c=some (.own y)->upd H a (.frz o u) c=some (.own y):=λc y q=>by rw[aK (h c _ q rfl)];exact q
 have d:∀c f,H c=some (.tup f)->upd H a (.frz o u) c=some (.tup f):=λc f q=>by rw[aK (h c _ q rfl)];exact q
 refine I.re (λb q=>by rw[aK (λz=>by rw[z,i]at q;cases q)];exact q) (λb f q=>d b f (I.base.tups b f q)) (λb p v q=>?_) (λb l q=>?_) (λb v q=>?_)
 .have:=I.base.frzs b p v q
  rw[aK (h b _ this rfl)];exact this
 .obtain⟨m,e⟩:=I.base.tbls b l q;exact⟨m,by rw[aK (h b _ e rfl)];exact e⟩
 .by_cases k:b=a
  .subst k;rw[aG]at q;cases q;exact(show s.heap.get? b=some o/\ZW X.prog X.w (upd H b (.frz o u)) s.heap b u from⟨r,(I.Z8 b _ i).Zl (λ_ _ _ q=>q) (λc=>g c b) d⟩)
  .rw[aK k]at q;exact(I.Z8 b v q).Zl (λ_ _ _ q=>q) (λc=>g c b) d
noncomputable def Y0(Hs H:Hp):Hp:=λb=>match H b with
 |some (.frz o u)=>(match Hs b with|some (.frz _ _)=>some (.frz o u)|_=>some u)
 |x=>x
def gZ{u:HO}(h:H b=some u)(n:∀o v,u≠.frz o v):Y0 Hs H b=some u:=by
 unfold Y0;grind
def vO(h:H b=none):Y0 Hs H b=none:=by unfold Y0;rw[h]
def uT{Hs:Hp}{u:HO}(h:H b=some (.frz o u))(n:∀o v,Hs b≠some (.frz o v)):Y0 Hs H b=some u:=by
 unfold Y0;simp_all
def rQ{a:Obj}{u u':HO}(h:H b=some (.frz o u))(n:Hs b=some (.frz a u')):Y0 Hs H b=some (.frz o u):=by
 unfold Y0;simp_all
def Inv.Zi{Hs:Hp}(I:Inv X y0 U H s)(r:∀b o u,X.H₀ b=some (.frz o u)->Hs b=some (.frz o u)):Inv X y0 U (Y0 Hs H) s:=by
 have d:∀c y,H c=some (.own y)->Y0 Hs H c=some (.own y):=λc y q=>gZ q λ_ _ z=>by cases z
 have a:∀c f,H c=some (.tup f)->Y0 Hs H c=some (.tup f):=λc f q=>gZ q λ_ _ z=>by cases z
 refine I.re (λb q=>vO q) (λb f q=>a b f (I.base.tups b f q)) (λb o u q=>rQ (I.base.frzs b o u q) (r b o u q)) (λb p q=>?_) (λb u q=>?_)
 .obtain⟨m,e⟩:=I.base.tbls b p q;exact⟨m,gZ e λ_ _ z=>by cases z⟩
 .cases e:H b with
  |none=>rw[vO e]at q;cases q
  |some v=>
   have j:=I.Z8 b v e
   by_cases n:∃o g,v=.frz o g
   .obtain⟨o,g,rfl⟩:=n;have i:=j
    by_cases h:∃l k,Hs b=some (.frz l k)
    .obtain⟨l,k,h⟩:=h;rw[rQ e h]at q;cases q;exact j.Zl (λ_ _ _ q=>q) (λc=>d c b) a
    .rw[uT e λo v z=>h ⟨o,v,z⟩]at q;cases q;exact i.2.Zl (λ_ _ _ q=>q) (λc=>d c b) a
   .rw[gZ e λo g z=>n ⟨o,g,z⟩]at q;cases q;exact j.Zl (λ_ _ _ q=>q) (λc=>d c b) a
noncomputable def Ui(Hs:Hp)(D:Ends):Ends:=⟨λU H=>D.nx U (Y0 Hs H),λv H=>D.rt v (Y0 Hs H),λU H=>D.bk U (Y0 Hs H),λU H=>D.ct U (Y0 Hs H)⟩
end
def PL(t:TE):TE:=λU H Q=>t U H λv a=>Q v (Y0 H a)
def NS(t:TS):TS:=λD U H=>t (Ui H D) U H
def Si{t:TE}(h:PE X e t):PE X e (PL t):=λa s U H Q I q=>ZY (h a s U H _ I q) λv g ⟨x,f,d,r,c⟩=>⟨x,Y0 H f,d.Zi λb o u e=>I.base.frzs b o u e,r,c⟩
def Tv{t:TS}(h:PS X st t):PS X st (NS t):=λi s U H D I q=>ZY (h i s U H _ I q) λf k g=>by
 cases f with
 |next=>obtain⟨a,d,c,r⟩:=g;exact⟨a,Y0 H d,c.Zi λb o u e=>I.base.frzs b o u e,r⟩
 |brk=>obtain⟨a,d,c,r⟩:=g;exact⟨a,Y0 H d,c.Zi λb o u e=>I.base.frzs b o u e,r⟩
 |cont=>obtain⟨a,d,c,r⟩:=g;exact⟨a,Y0 H d,c.Zi λb o u e=>I.base.frzs b o u e,r⟩
 |ret u=>obtain⟨v,a,d,c,j,r⟩:=g;exact⟨v,a,Y0 H d,c.Zi λb o u e=>I.base.frzs b o u e,j,r⟩
def Hz{t:TE}{U:St}(h:t U H λv a=>Q v (Y0 H a)):PL t U H Q:=h
def LU{t:TS}{U:St}(h:t (Ui H D) U H):NS t D U H:=h
def pY{u:HO}(f:Hs a=some u)(g:∀o v,u≠.frz o v)(h:Same (upd Hs a (.frz o u)) H):Same Hs (Y0 Hs H):=λb v q=>by
 by_cases e:b=a
 .subst e;rw[f]at q;cases q;exact uT (h _ _ aG) λo v z=>by grind
 .have:=h b v (by rwa[aK e])
  by_cases d:∃o c,v=.frz o c
  .obtain⟨i,c,rfl⟩:=d;exact rQ this q
  .exact gZ this λo c z=>d ⟨o,c,z⟩
def wC{a:Type}{R:α->a->Prop}{xs:List α}{ys:List a}(r:Paired R xs ys):∀ {i:Nat} {x:α},xs[i]?=some x->∃y,ys[i]?=some y/\R x y:=by
 induction r with
 |nil=>intro i x h;cases h
 |cons h t c=>
  intro i x b;cases i with
  |zero=>cases b;exact⟨_,rfl,h⟩
  |succ i=>exact c  b
def BV{k:Key}(h:(bL P w).is k u=true):RelV (kV k) u:=by
 rcases cM h with⟨i,t,rfl,rfl⟩|⟨x,t,rfl,rfl⟩
 .exact⟨t,rfl⟩
 .exact⟨t,rfl⟩
noncomputable def S7(a:Addr)(o:Obj)(b:List (Key×V)):It:=⟨λi H=>H a=some (.frz o (.dK b))/\i<b.length,λi H x d=>d=H/\∃c,b[i]?=some c/\x=kV c.1,λi H=>H a=some (.frz o (.dK b))/\b.length=i⟩
def SY{U:St}(I:Inv X y0 U H s)(m:H a=some (.frz o (.dK kvs)))(h:∃i,o.data=.dict i ep):kvs.length<=sizeLine/\(a==sysModules)=false/\∃c,KV kvs c/\s.heap.DictAt (bL X.prog X.w) a c ep:=by
 have j:=I.Z8 a _ m
 obtain⟨e,z,l,c,f,t,n,p,d,k,b,r⟩:=j;rw[e]at d;cases d;obtain⟨i,g⟩:=h;have q:=b
 rw[g]at q;cases q;exact⟨z,l,c,f,o,_,e,k,b,r⟩
def EY(a l:Addr)(o:Obj)(kvs:List (Key×V))(T:Nat)(p:∃es,o.data=.dict es T):Turn P w K tg (S7 a o kvs) [l] l (λi h=>h.IsKeyIter l a i kvs.length T) where
 mem:=by simp
 obj:=λi h f b m=>by
  have e:b=l:=by simpa using m
  subst e;obtain⟨o,e,c,d⟩:=f;exact⟨o,e,λv z=>by rw[d]at z;cases z⟩
 keep:=λi h u f k=>let ⟨o,ho,r⟩:=f;⟨o,k l (by simp) o ho,r⟩
 item:=by
  intro X F y G S i R s U H E I q f C;subst F y G;obtain⟨D,B⟩:=C;obtain⟨z,hd,W,g,Q⟩:=SY I D p;have j:=g.length
  obtain⟨O,N,f2,M,L,J⟩:=q l (by simp)
  obtain⟨⟨k,v⟩,Z,A,_⟩:=wC g (Aa B);refine wpAny_pyNext_dict_item (knd:=bL X.prog X.w) (by rw[<-j];exact f) Q Z λx u hk n Y=>?_
  have I1:=I.turned (t':=s.toks) (λb o m e=>(Y.2 b m).trans e) O N M L J
  obtain⟨oi,e,c,d⟩:=id n;refine⟨x,rfl,qI (s:={s with heap:=u}) e c d (by decide) ⟨kV k,H,I1,BV hk,⟨rfl,kvs[i],Aa B,by rw[A]⟩,?_,λb m=>(q b m).1⟩⟩
  rw[j];exact n
 done:=by
  intro X F y G S i R s U H E I q f C;subst F y G;obtain⟨D,B⟩:=C;obtain⟨z,hd,W,g,Q⟩:=SY I D p;have j:=g.length
  obtain⟨O,N,f2,M,L,J⟩:=q l (by simp)
  exact wpAny_pyNext_dict_end (knd:=bL X.prog X.w) (I.ok.hd S) (by rw[<-j];exact f) Q (List.getElem?_eq_none (by ((try clear M N z);omega))) λu eb=>⟨rfl,I.turned (t':=s.toks) (λb o m e=>eb b o m e) O N M L J⟩
 self:=λ_ _ _ _ _ f h=>wpAny_pyIter_keyiter f h
def Jh{U:St}(I:Inv X y0 U H s)(f:H a=some (.dK kvs)):∃o b c,s.heap.get? a=some o/\o.data=.dict b c:=by
 obtain⟨_,_,g,_,o,b,c,d,_,e,_⟩:=Ra I.Z8 f;exact⟨o,b,c,d,e⟩
def DH{U:St}(I:Inv X y0 U H s)(i:H a=some (.frz o (.dK kvs))):∃d,∃c,o.data=.dict c d:=by
 have g:=I.Z8 a _ i
 obtain⟨e,_,_,b,_,j,c,d,f,_,h,_⟩:=g;grind
def Uj(H:Hp)(a:Addr)(R:Obj->List (Key×V)->Hp->Prop):Prop:=(∃b,H a=some (.dK b)/\∀o,R o b (upd H a (.frz o (.dK b))))\/∃o b,H a=some (.frz o (.dK b))/\R o b H
def walk_at{U:St}{R:Obj->List _->Hp->Prop}(I:Inv X y0 U H s)(h:Uj H a R):∃o b g e,Inv X y0 U g s/\g a=some (.frz o (.dK b))/\(∃d,o.data=.dict d e)/\R o b g:=by
 rcases h with⟨b,c,q⟩|⟨o,b,c,q⟩
 .obtain⟨o,d,e,i,f⟩:=Jh I c;exact⟨o,b,_,e,I.freeze c rfl i,aG,⟨d,f⟩,q o⟩
 .obtain⟨e,d,f⟩:=DH I c;exact⟨o,b,H,e,I,c,⟨d,f⟩,q⟩
def N7(c:TE):TI:=λU H R=>c U H (gQ λa e=>Uj e a λo b d=>R (S7 a o b) d)
def Q8(m:PE X l tl):PI X tg l (N7 tl):=by
 intro j s U H R I h;refine ZY (m j s U H _ I h) λv c ⟨x,E,B,k,d⟩=>?_;unfold gQ at d;split at d
 .cases k;rename_i A _
  obtain⟨o,i,C,u,f,r,a,q⟩:=walk_at B d;obtain⟨z,n,D,g,y⟩:=SY f r a;refine wpAny_pyIter_dict (knd:=bL X.prog X.w) n y ?_;refine⟨c.heap.objs.size,[c.heap.objs.size],_,_,C,rfl,f.kept (t':=c.toks) λb o e=>Af _ e,EY A _ o i u a,⟨_,Au _ rfl,rfl,by rw[g.length];rfl⟩,λb p=>?_,q⟩
  have e:b=c.heap.objs.size:=by simp_all
  subst e;exact f.YO (Ai _) (f.Z8.fresh (Ai _))
 .exact d.elim
noncomputable def Xv(H:Hp)(p:Addr):Bool:=match H p with
 |some (.dK _)=>true
 |some (.dT _)=>true
 |some (.frz _ (.dK _))=>true
 |some (.frz _ (.dT _))=>true
 |_=>false
def HI(h:Xv H p=true):RM H p:=by
 unfold Xv at h;split at h
 .exact .inl ⟨_,.inl (by assumption)⟩
 .exact .inr ⟨_,.inl (by (assumption))⟩
 .exact .inl ⟨_,.inr ⟨_,by assumption⟩⟩
 .exact .inr ⟨_,.inr ⟨_,by assumption⟩⟩
 .cases h
def pD(h:H p=some (.dK kvs)):Xv H p=true:=by unfold Xv;rw[h]
def Pr(h:H p=some (.frz o (.dK kvs))):Xv H p=true:=by unfold Xv;rw[h]
section
variable {U:St}
def Kw(h:tl U H (gQ λa d=>Uj d a λo b c=>R (S7 a o b) c)):N7 tl U H R:=h
def ND{b:Obj->List _->Hp->Prop}(e:H a=some (.dK kvs))(h:∀o,b o kvs (upd H a (.frz o (.dK kvs)))):Uj H a b:=.inl ⟨kvs,e,h⟩
end
section
variable {o:Expr} {id:String} {r:V->List V->Hp->VK->Prop}
def OI(r:V->List V->Hp->VK->Prop)(c:TE)(t:TA):TE:=λU H Q=>c U H (gQ λp a=>Xv a p=true/\t U a λb d=>r (.ref p) b d Q)
def iR(d:Slot "dict" name id)(i:typeOf (.builtin id)=pure (.type "method_descriptor"))(B:Yu X id r)(A:PE X o to)(D:PA X (e::es) t)(c:attributeBase o name X.env (eval o X.env)=eval o X.env:=by rfl)(f:((backTo cpos (starEach (e::es) X.env)).all (λx=>!x.1)&&(backToKw cpos (keywordEach [] X.env)).all (λx=>x.1.isSome)
 && decide ((e::es).length+([]:List Keyword).length+(if ([]:List Keyword).isEmpty then 0 else 1)<30))=true:=by rfl)(b:(apos.endLine==cpos.line)=true:=by rfl)(hs:starEach (e::es) X.env=(false,eval e X.env)::starEach es X.env:=by rfl)(a:(backTo cpos (starEach es X.env)).any (·.1)=false:=by rfl):PE X (.Call (.Attribute o name apos) (e::es) [] cpos) (OI r to t):=by
 intro g s U H Q I h;refine Hk c f b rfl (ZY (A g s U H _ I h) λv u ⟨x,L,l,j,q⟩=>?_);unfold gQ at q;split at q
 .obtain⟨C,z⟩:=q;obtain⟨G,E,_⟩:=J6 l (HI C);cases _root_.id j;refine⟨"dict",_,PySem.F.plainAttrs_dict,d,i,G,E,?_⟩;have k:=D cpos g u U L _ l z
  rw[hs]at k ⊢;refine Hl (by show (false || (backTo cpos (starEach es X.env)).any (·.1))=false;rw[a]<;>rfl) (Gi ?_)
  exact ZY k λn p ⟨m,K,J,w,y⟩=>B g p U K _ m _ n Q J j w y
 simp_all
def RU:V->List V->Hp->VK->Prop:=λx b H Q=>∃a y z o,x=.ref a/\b=[y,z]/\uD H a y o/\Q (o.getD z) H
def UW(i:X.A.units+1<cLine):Yu X "dict.get" RU:=by
 intro k s U H x n v o Q I c d h;obtain⟨a,y,z,r,rfl,rfl,g,q⟩:=h;cases c;obtain⟨u,m,rfl,e,b⟩:=Um d;exact Jn i I g e b λl p j f=>⟨_,H,j,f,q⟩
def Of:V->List V->Hp->VK->Prop:=λx b H Q=>∃(p:Addr) (a:List Str) (z:Str),x=.ref p/\b=[.str z]/\Z6 H p=some (a.map V.str)/\Q (.int ((a.countP (· == z):Nat):Int)) H
def tG(z:Str):∀a:List Str,countIn (.str z) (a.map PyData.str)=((a.countP (· == z):Nat):Int)
 |[]=>rfl
 |y::r=>by
  have b:=tG z r
  rw[Ax];unfold countIn;rw[b,List.countP_cons];by_cases e:y=z
  .subst e;simp[same];((try clear b);omega)
  .simp[same,e]
def Ln:Yu X "list.count" Of:=by
 intro i s U H x j v k Q I a b h;obtain⟨p,g,z,rfl,rfl,f,q⟩:=h;cases a;obtain⟨u,rfl,c⟩:=b.one;obtain⟨t,rfl⟩:=c;obtain⟨e,r,d,_⟩:=I.list (bG f);exact count_list_strs d.isList (xY r) (by rw[tG];exact⟨.int _,H,I.tok _,⟨_,rfl⟩,q⟩)
def Ts(x y:V)(H:Hp)(Q:VK):Prop:=∃a v,x=.ref a/\uD H a y (some v)/\Q v H
def S5(D:Ends)(U:St)(x y v:V)(H:Hp):Prop:=∃a b,x=.ref a/\SF H a y v b/\D.nx U b
end
section
variable {U:St} {w:V} {td ty:TE} {r:V->List V->Hp->VK->Prop}
def EC(h:to U H (gQ λp a=>Xv a p=true/\t U a λb c=>r (.ref p) b c Q)):OI r to t U H Q:=h
def HB{P:Prop}(e:Xv H a=true)(h:P):Xv H a=true/\P:=⟨e,h⟩
def VF(e:Rd H a (.dK kvs))(h:Q ((dE kvs (Sum.inr z)).getD w) H):RU (.ref a) [.str z,w] H Q:=⟨a,.str z,w,_,rfl,rfl,.inl ⟨kvs,.inr z,e,rfl,rfl⟩,h⟩
def BP{ys:List Str}(e:Z6 H p=some (ys.map V.str))(h:Q (.int ((ys.countP (· == z):Nat):Int)) H):Of (.ref p) [.str z] H Q:=⟨p,ys,z,rfl,rfl,e,h⟩
def FE(h:∀p,H p=none->Q (.ref p) (upd H p (.dK []))):NP U H Q:=h
def F9(h:td U H λx b=>ty U b λy a=>Ts x y a Q):Rp td ty U H Q:=h
def yD(e:Rd H a (.dK kvs))(l:dE kvs (Sum.inr z)=some v)(h:Q v H):Ts (.ref a) (.str z) H Q:=⟨a,v,rfl,.inl ⟨kvs,.inr z,e,rfl,l.symm⟩,h⟩
def KO(h:tv U H λv c=>td U c λx b=>ty U b λy a=>S5 D U x y v a):Ox td ty tv D U H:=h
def pW(e:H a=some (.dK kvs))(l:kvs.length<sizeLine)(h:D.nx U (upd H a (.dK (eP kvs (Sum.inr z) v)))):S5 D U (.ref a) (.str z) v H:=⟨a,_,rfl,.inl ⟨kvs,.inr z,e,rfl,l,rfl⟩,h⟩
end
section
open PySem.AutoSeq1 (wpAny_loadPart')
open PySem.MeetsSeq PySem.MeetsSeq2 PySem.MeetsSeq3
def XH(P:Program)(w:World)(A:Around)(s:Shared)(u v:Value):Prop:=∀E Q,Q true s->wpAny (model P w) A (eqBool u v) Q E s
def My(l b:Addr)(xs ys:Array Value)(n x:Nat)(dd p:Option Addr)(u f:Array (Option Value))(hsz:xs.size=ys.size)(k:Nat):∀i,xs.size-i=k->MeetsIn P w (Builtin.«list.__eq__.loop» ⟨[.ref l,.ref b,rawInt i,rawInt 2],[]⟩)
 (λA R s=>s.heap.get? l=some ⟨.type "list",dd,.seq xs n,u⟩/\s.heap.get? b=some ⟨.type "list",p,.seq ys x,f⟩/\(∀j E (D:j<ys.size),XH P w A.in1 s xs[j] ys[j])/\R (.ok (.ret (.bool true))) s):=by
 induction k with
 |zero=>
  intro i B A R s h;obtain⟨z,g,d,t,v⟩:=s;obtain⟨e,c,o,h⟩:=h
  wp_walk using (Cf e),(Cf c)
  have m:xs[((i:Nat):Int).toNat]?=none:=by simp;omega
  have a:ys[((i:Nat):Int).toNat]?=none:=by simp;omega
  rw[m,a]
  wp_walk using (Cf e),(Cf c)
  show R (.ok (.ret (.bool (xs.size==ys.size)))) _
  rwa[hsz,Ey]
 |succ k y=>
  intro i B A R s h;obtain⟨z,g,d,t,v⟩:=s;obtain⟨e,c,o,h⟩:=h
  wp_walk using (Cf e),(Cf c)
  have r:i<xs.size:=by omega
  have q:i<ys.size:=by ((try clear B);omega)
  have m:xs[((i:Nat):Int).toNat]?=some xs[i]:=by simp
  have a:ys[((i:Nat):Int).toNat]?=some ys[i]:=by simp
  have C:((i:Int)+1)=((i+1:Nat):Int):=by push_cast;rfl
  rw[m,a];refine Ad (o i r q _ _ ?_)
  wp_walk
  rw[C];refine⟨Ej plain_eq_loop _,Du entry_eq_loop ?_⟩;exact y (i+1) (by ((try clear C q);omega)) A R _ ⟨e,c,o,h⟩
def Jj(l b:Addr)(xs ys:Array Value)(n x:Nat)(dd p:Option Addr)(u f:Array (Option Value))(hsz:xs.size=ys.size)(k:Nat):∀i,xs.size-i=k->MeetsIn P w (Builtin.«list.__eq__.loop» ⟨[.ref l,.ref b,rawInt i,rawInt 3],[]⟩)
 (λA R s=>s.heap.get? l=some ⟨.type "list",dd,.seq xs n,u⟩/\s.heap.get? b=some ⟨.type "list",p,.seq ys x,f⟩/\(∀j E (D:j<ys.size),XH P w A.in1 s xs[j] ys[j])/\R (.ok (.ret (.bool false))) s):=by
 induction k with
 |zero=>
  intro i B A R s h;obtain⟨z,g,d,t,v⟩:=s;obtain⟨e,c,o,h⟩:=h
  wp_walk using (Cf e),(Cf c)
  have m:xs[((i:Nat):Int).toNat]?=none:=by simp;omega
  have a:ys[((i:Nat):Int).toNat]?=none:=by simp;omega
  rw[m,a]
  wp_walk using (Cf e),(Cf c)
  show R (.ok (.ret (.bool (xs.size != ys.size)))) _
  rwa[hsz,bne_self_eq_false]
 |succ k y=>
  intro i B A R s h;obtain⟨z,g,d,t,v⟩:=s;obtain⟨e,c,o,h⟩:=h
  wp_walk using (Cf e),(Cf c)
  have r:i<xs.size:=by omega
  have q:i<ys.size:=by ((try clear B);omega)
  have m:xs[((i:Nat):Int).toNat]?=some xs[i]:=by simp
  have a:ys[((i:Nat):Int).toNat]?=some ys[i]:=by simp
  have C:((i:Int)+1)=((i+1:Nat):Int):=by push_cast;rfl
  rw[m,a];refine Ad (o i r q _ _ ?_)
  wp_walk
  rw[C];refine⟨Ej plain_eq_loop _,Du entry_eq_loop ?_⟩;exact y (i+1) (by ((try clear C q);omega)) A R _ ⟨e,c,o,h⟩
section
variable {l:Addr} {xs ys:Array Value}
def MP{Q:Q2}(hl:s.heap.IsList l xs)(hb:s.heap.IsList b ys)(hsz:xs.size=ys.size)(hu:A.units<cLine)(he:∀j h1 (h2:j<ys.size),XH P w A.in1 s xs[j] ys[j])(h:Q (.bool true) s):wpAny (model P w) A (richCompare .Eq (.ref l) (.ref b)) Q E s:=by
 obtain⟨⟨cls,dd,data,sl⟩,ho,hc,n,hd⟩:=id hl;obtain⟨⟨cls2,dd2,data2,sl2⟩,ho2,hc2,n2,hd2⟩:=id hb;obtain rfl:cls=.type "list" := hc;obtain rfl:data=.seq xs n:=hd;obtain rfl:cls2=.type "list" := hc2;obtain rfl:data2=.seq ys n2:=hd2;have g:MeetsIn P w (Builtin.«list.__eq__» ⟨[.ref l,.ref b],[]⟩) (λA R s=>s.heap.get? l=some ⟨.type "list",dd,.seq xs n,sl⟩/\s.heap.get? b=some ⟨.type "list",dd2,.seq ys n2,sl2⟩/\(∀j h1 (h2:j<ys.size),XH P w A.in1 s xs[j] ys[j])/\R (.ok (.ret (.bool true))) s):=by
  intro A R s h;obtain⟨hp,g,d,tk,os⟩:=s;obtain⟨ha,hq,he,h⟩:=h;have f3:=AutoSeq1.sub_list_list
  have hne:¬(xs.size != ys.size)=true:=by simp[hsz]
  wp_walk using (Cf ha),(Cf hq)
  refine⟨Ej plain_eq_loop _,Du entry_eq_loop ?_⟩;exact My l b xs ys n n2 dd dd2 sl sl2 hsz _ 0 rfl A R _ ⟨ha,hq,he,h⟩
 exact wpAny_richCompare_same_room (op:=.Eq) ⟨_,ho,rfl⟩ ⟨_,ho2,rfl⟩ PySem.F.slot_list_eq (Gm PySem.F.slot_list_eq ⟨_,ho,rfl⟩ PySem.F.entry_list_eq (PySem.F.args_list_eq_2 _ _) g ⟨ho,ho2,he,show Value.bool true≠Value.notImplemented/\Q (.bool true) s from⟨(λx=>nomatch x),h⟩⟩) hu
def BK{Q:Q2}(hl:s.heap.IsList l xs)(hb:s.heap.IsList b ys)(hsz:xs.size=ys.size)(hu:A.units<cLine)(he:∀j h1 (h2:j<ys.size),XH P w A.in1 s xs[j] ys[j])(h:Q (.bool false) s):wpAny (model P w) A (richCompare .NotEq (.ref l) (.ref b)) Q E s:=by
 obtain⟨⟨cls,dd,data,sl⟩,ho,hc,n,hd⟩:=id hl;obtain⟨⟨cls2,dd2,data2,sl2⟩,ho2,hc2,n2,hd2⟩:=id hb;obtain rfl:cls=.type "list" := hc;obtain rfl:data=.seq xs n:=hd;obtain rfl:cls2=.type "list" := hc2;obtain rfl:data2=.seq ys n2:=hd2;have g:MeetsIn P w (Builtin.«list.__ne__» ⟨[.ref l,.ref b],[]⟩) (λA R s=>s.heap.get? l=some ⟨.type "list",dd,.seq xs n,sl⟩/\s.heap.get? b=some ⟨.type "list",dd2,.seq ys n2,sl2⟩/\(∀j h1 (h2:j<ys.size),XH P w A.in1 s xs[j] ys[j])/\R (.ok (.ret (.bool false))) s):=by
  intro A R s h;obtain⟨hp,g,d,tk,os⟩:=s;obtain⟨ha,hq,he,h⟩:=h;have f3:=AutoSeq1.sub_list_list
  have hne:¬(xs.size != ys.size)=true:=by simp[hsz]
  wp_walk using (Cf ha),(Cf hq)
  refine⟨Ej plain_eq_loop _,Du entry_eq_loop ?_⟩;exact Jj l b xs ys n n2 dd dd2 sl sl2 hsz _ 0 rfl A R _ ⟨ha,hq,he,h⟩
 exact wpAny_richCompare_same_room (op:=.NotEq) ⟨_,ho,rfl⟩ ⟨_,ho2,rfl⟩ PySem.F.slot_list_ne (Gm PySem.F.slot_list_ne ⟨_,ho,rfl⟩ PySem.F.entry_list_ne (PySem.F.args_list_ne_2 _ _) g ⟨ho,ho2,he,show Value.bool false≠Value.notImplemented/\Q (.bool false) s from⟨(λx=>nomatch x),h⟩⟩) hu
def XH.same(u:Value):XH P w A s u u:=λE Q a=>SeqAt.EqAt.same u P w E Q a
def XH.refs(a:l≠b)(h:∀(E:Q2) (Q:Q2),Q (.bool true) s->wpAny (model P w) A (richCompare .Eq (.ref l) (.ref b)) Q E s):XH P w A s (.ref l) (.ref b):=λE Q d=>by
 refine By (wpAny_ite_split (λc=>absurd (by grind) a) (λ_=>?_))
 exact Ad (h E _ (Dz d))
end
def O4(b a:List (Key×V)):Prop:=b.length=a.length/\∀c∈b,cQ c.2=true/\dE a c.1=some c.2
def OQ{d:List _}{g:List _}(i:KV d g){vs:List _}(r:KV kvs vs)(h:∀a∈kvs,cQ a.2=true/\dE d a.1=some a.2):W.KeqHits A s g vs true:=by
 induction r with
 |nil=>exact .nil
 | @cons a n _ _ w t p=>
  obtain⟨k,v⟩:=a;obtain⟨x,u⟩:=n;obtain⟨e,o⟩:=w;cases e;obtain⟨f,q⟩:=h _ (Al ..);have c:=i.val k
  rw[q]at c;cases l:valueAt g k with
  |none=>rw[l]at c;exact(show False from c).elim
  |some y=>
   rw[l]at c;have m:=rY (A:=A) (s:=s) o (show RelV v y from c) f f
   rw[Qu f]at m;exact .hit   l m (p λa j=>h a (Am _ j))
def JS{U:St}(I:Inv X y0 U H s){p:Addr}{a:List _}(o:Rd H p (.dK kvs))(n:Rd H q (.dK a))(d:O4 kvs a)(g:A.units<cLine)(E:Q2)(Q:Q2):(Q (.bool true) s->wpAny (model X.prog X.w) A (richCompare .Eq (.ref p) (.ref q)) Q E s)/\(Q (.bool false) s->wpAny (model X.prog X.w) A (richCompare .NotEq (.ref p) (.ref q)) Q E s):=by
 obtain⟨u,k,m,f,c⟩:=lX I.Z8 o;obtain⟨t,j,l,e,b⟩:=lX I.Z8 n;have i:(m.length==l.length)=true:=Fj.mpr (by rw[<-f.length,<-e.length];exact d.1)
 refine⟨λh=>W.keq_eq (r:=true) k j c b g (λ_=>OQ e f d.2) (by rwa[i]),λh=>W.keq_ne (r:=true) k j c b g (λ_=>OQ e f d.2) (by rwa[i])⟩
def Z4.u1(r:Z4 k A):A.units+1<cLine:=by have:=r.un;omega
end
section
open PySem.AutoSeq1 (wpAny_loadPart')
def BY:typeLookup (.type "list") "keys"=pure none:=by rw[typeLookup_type,builtinLookup_eq_fast];kernel_rfl
def Ka{xs:Array Value}{l:Array (Option Value)}{Q:Option Value->Shared->Prop}(m:s.heap.get? a=some ⟨.type "list",none,.seq xs k,l⟩)(r:A.handled=none)(h:∀i j,(∀b o,s.heap.get? b=some o->i.get? b=some o)->Q none {s with heap:=i,toks:=j}):wpAny (model prog w) A (getAttr? (.ref a) "keys") Q E s:=by
 obtain⟨q,g,d,j,p⟩:=s;have n:∀c,(⟨q,g,d,c,p⟩:Shared).TypeIs (.ref a) "list" := λ_=>⟨_,m,rfl⟩
 have D:=sub_AttributeError
 have C:=PySem.F.slot_list_getattribute.lookup
 have B:=PySem.F.slot_list_getattribute.bind (.ref a)
 have z:=am_list_getattr_none
 unfold getAttr? getAttrBy? getAttrBy;repeat (any_goals (first|assumption|exact n _|((with_reducible show wpAny _ _ (call (Value.builtin "list.__getattribute__") _ _) _ _ _);refine Fl PySem.F.slot_list_getattribute (n _) am_entry_list_getattribute (PySem.F.args_list_getattribute_2 _ _) (meets_getattribute_miss_list a xs k l "keys" _ BY (by decide +kernel) (by decide)) ⟨m,r,λi c e f=>?_⟩)|wp_step))
 obtain⟨x,v,y⟩:=f.there;show wpAny _ _ (getattributeRaised _ _ _ _ _ _ _) _ _ _
 unfold getattributeRaised;repeat (any_goals (first|assumption|wp_step))
 exact h _ _ f.keeps
def LW{t:Addr}{xs:Array Value}{Q:Option (Array Value)->Shared->Prop}(h:s.heap.IsTuple t xs)(q:Q (some xs) s):wpAny (model prog w) A (seqItems? (.ref t)) Q E s:=by
 obtain⟨o,a,c,n,b⟩:=h;refine Ad (wpAny_load a ?_);rw[b];exact Ap q
def fS:plainId "dict.update.loop"=true:=by decide +kernel
def lW:entryFor table "dict.update.loop"=some Builtin.«dict.update.loop» := entryFor_of_tree (by kernel_rfl)
def Lu{K:Type}[DecidableEq K]{knd:PySem.KeyKind P w K}(d I l:Addr)(its:Array Value)(ps:List (K×Value))(a7:ps.length=its.size)(u:d≠I)(X:l≠I)(W:l≠d)(k:Nat):∀i,its.size-i=k->i<=its.size->∀a,a.length+k<=sizeLine->MeetsIn P w (Builtin.«dict.update.loop» ⟨[.ref d,.ref I,rawInt i,.none],[]⟩)
 (λA R s=>A.handled=none/\s.heap.IsListIter I l i/\s.heap.IsList l its/\s.heap.DictOf knd d a/\
  (∀j (h:j<its.size),∃t m c y,its[j]=.ref t/\t≠I/\t≠d/\s.heap.IsTuple t #[m,c]/\ps[j]?=some (y,c)/\knd.is y m=true)/\
  ∀f J,(∀b o,b≠I->b≠d->s.heap.get? b=some o->f.get? b=some o)->f.DictOf knd d (merged a (ps.drop i))->R (.ok (.ret .none)) {s with heap:=f,toks:=J}):=by
 induction k with
 |zero=>
  intro i hk hi a hz A R s h;obtain⟨hA,q,H,hd,Q,h⟩:=h;unfold Builtin.«dict.update.loop»;dsimp only[rawInt];refine wpAny_bind (wpAny_pyNext_list_end (show A.in1.handled=none from hA) q H (by simp;((try clear W X a7 hi hz u);omega)) λf eb=>?_)
  dsimp only;unfold Builtin.Dict.addKeywords;refine Ad (Ap (Ap ?_));refine h f s.toks (λb o hb _ e=>eb b o hb e) ?_;obtain⟨o,es,ep,p,r⟩:=hd;rw[Hn (by ((try clear W X hi hz u);omega))]
  exact⟨o,es,ep,eb d o u p,r⟩
 |succ k ih=>
  intro i hk hi a hz A R s h;obtain⟨hA,q,H,hd,Q,h⟩:=h;unfold Builtin.«dict.update.loop»;dsimp only[rawInt];have D:i<its.size:=by ((try clear W X a7 hz u);omega)
  obtain⟨t,m,c,y,et,N,a5,hT,O,Z⟩:=Q i D;refine wpAny_bind (wpAny_pyNext_list_item q H (x:=its[i]) (by simp[D]) λf M B=>?_)
  dsimp only;rw[et];have v:f.IsTuple t #[m,c]:=by
   obtain⟨o,p,r⟩:=hT;exact⟨o,(B.2 t N).trans p,r⟩
  have a4:f.DictOf knd d a:=by
   obtain⟨o,es,ep,p,r⟩:=hd;exact⟨o,es,ep,(B.2 d u).trans p,r⟩
  refine Ad (By (Ad (Ft ?_)));unfold Builtin.Dict.pairItems;refine Ad (wpAny_typeOf (T := "tuple") (s:={s with heap:=f}) (by obtain⟨o,p,hc,_⟩:=id v;exact⟨o,p,hc⟩) ?_)
  rw[if_pos (by decide)]
  obtain⟨o,p,hc,n,a8⟩:=id v;refine Ad (LW (s:={s with heap:=f}) v ?_)
  refine Ap ?_;dsimp only[Option.getD];refine By (wpAny_dictSet_pairs (s:={s with heap:=f}) (knd:=knd) Z a4 (λh2 a3 g=>?_) (by ((try clear D N W X a5 a7 hi hk u);omega)))
  refine Ap ?_;rw[show ((i:Int)+1)=((i+1:Nat):Int) by push_cast;rfl]
  refine⟨Ej fS _,Du lW ?_⟩;rw[Cy fS _];have a6:(stored a y c).length<=a.length+1:=by
   unfold stored;split
   .rw[Ac];((try clear D N W X a5 a7 hi hk hz u);omega)
   .rw[Aj];exact Ai _
  refine ih (i+1) (by ((try clear N W X a5 a6 a7 hi hz u);omega)) (by (assumption)) (stored a y c) (by ((try clear D N W X a5 a7 hi hk u);omega)) A R _ ⟨hA,?_,?_,a3,λj hj=>?_,λh3 J Y a2=>?_⟩
  .obtain⟨oi,U,r⟩:=M;exact⟨oi,(g.2 I (Ne.symm u)).trans U,r⟩
  .obtain⟨ol,S,r⟩:=H;exact⟨ol,(g.2 l W).trans ((B.2 l X).trans S),r⟩
  .obtain⟨L,C,z,k2,e2,n2,n3,⟨o2,V,r2⟩,p2,q2⟩:=Q j hj;exact⟨L,C,z,k2,e2,n2,n3,⟨o2,(g.2 L n3).trans ((B.2 L n2).trans V),r2⟩,p2,q2⟩
  .refine h h3 J (λb o G F e=>Y b o G F ((g.2 b F).trans ((B.2 b G).trans e))) ?_;have a1:ps.drop i=(y,c)::ps.drop (i+1):=by
    have E:i<ps.length:=by ((try clear N W X a5 a6 hi hk hz u);omega)
    rw[List.drop_eq_getElem_cons E];have:=Aa E
    rw[O]at this;rw[<-Ay this]
   rw[a1];exact a2
def uG{K:Type}[DecidableEq K]{knd:PySem.KeyKind prog w K}{l:Addr}{its:Array Value}{ps:List (K×Value)}{Q:Q2}(N:s.heap.get? l=some ⟨.type "list",none,.seq its n,#[]⟩)(O:A.handled=none)(H:ps.length=its.size)(Y:its.size<=sizeLine)(S:∀j (h:j<its.size),∃t c a B,its[j]=.ref t/\s.heap.IsTuple t #[c,a]/\ps[j]?=some (B,a)/\knd.is B c=true)(h:∀z D,z.DictOf knd s.heap.objs.size (merged [] ps)->(∀b o,s.heap.get? b=some o->z.get? b=some o)->Q (.ref s.heap.objs.size) {s with heap:=z,toks:=D}):wpAny (model prog w) A (call (.type "dict") [.ref l]) Q E s:=by
 refine callType_codes (Q₁:=λL J=>L=.ref s.heap.objs.size/\J={s with heap:=s.heap.push {cls:=.type "dict",data:=.dict #[]}}) PySem.F.kt_called_dict (PySem.F.kt_typeCall_dict_1 _) PySem.F.entry_dict_init (kt_code_dict_new _ ⟨rfl,rfl⟩) ?_
 rintro L J ⟨rfl,rfl⟩;have f:(s.heap.push {cls:=.type "dict",data:=.dict #[]}).DictOf knd s.heap.objs.size []:=Heap.DictOf.new s.heap
 have g:(s.heap.push {cls:=.type "dict",data:=.dict #[]}).get? l=some ⟨.type "list",none,.seq its n,#[]⟩:=Af _ N
 have v:=Av N
 refine⟨f.typeIs,PySem.F.args_dict_init_2 _ _,?_⟩;unfold Builtin.«dict.__init__» Builtin.Dict.selfAndRest;refine Ad (Ad (wpAny_notOrdered_dict f.typeIs (show wpAny _ _ (pure (s.heap.objs.size,[Value.ref l])) _ _ _ from Ap ?_)));show wpAny _ _ (Builtin.Dict.updateFrom "dict.__init__" s.heap.objs.size (.ref l) [] .none) _ _ _
 unfold Builtin.Dict.updateFrom;refine Ad (wpAny_typeOf (T := "list") ⟨_,g,rfl⟩ ?_);rw[if_pos (by decide)]
 refine Ad (Ka (s:={s with heap:=s.heap.push {cls:=.type "dict",data:=.dict #[]}}) g (show A.in1.in1.handled=none from O) λi C G=>?_)
 rw[if_pos (show (none:Option Value).isNone=true from rfl)];refine Ad (wpAny_rule ?_);have x:i.IsList l its:=⟨_,G _ _ g,rfl,n,rfl⟩
 refine Ad (Dp (s:={s with heap:=i,toks:=C}) x ?_)
 refine Ap ⟨Ej fS _,Du lW ?_⟩;rw[Cy fS _];have y:i.DictOf knd s.heap.objs.size []:=by
  obtain⟨o,V,W,I,r⟩:=f;exact⟨o,V,W,G _ _ I,r⟩
 have d:s.heap.objs.size<i.objs.size:=by
  obtain⟨o,_,_,I,_⟩:=y;exact Av I
 have M:∀b o,s.heap.get? b=some o->(i.push {cls:=.type "list_iterator",data:=.fields #[.ref l,.int 0 0]}).get? b=some o:=λb o e=>Af _ (G _ _ (Af _ e))
 refine Lu (knd:=knd) s.heap.objs.size i.objs.size l its ps H (Bb d) (Bb (Nat.lt_trans v d)) (Bb v) _ 0 rfl (Do _) [] (by show 0+its.size<=_;((try clear H d v);omega)) A.in1 _ _ ⟨O,⟨_,Au _ rfl,rfl,rfl⟩,x.push _,y.push _,λj U=>?_,λz D R X=>⟨rfl,?_⟩⟩
 .obtain⟨t,c,a,B,e,⟨P,u,r⟩,p,q⟩:=S j U;have m:=Av u
  exact⟨t,c,a,B,e,Bb (Nat.lt_trans m d),Bb m,⟨P,M _ _ u,r⟩,p,q⟩
 .exact h z D X λb o e=>R b o (Bb (Nat.lt_trans (Av e) d)) (Bb (Av e)) (M b o e)
def vC(H:Hp)(b:List Addr)(kvs:List (Key×V)):Prop:=b.length=kvs.length/\∀(j:Nat) q a,b[j]?=some q->kvs[j]?=some a->H q=some (.tup [kV a.1,a.2])
def xA:List V->Hp->VK->Prop:=λc H Q=>∃p b a,c=[.ref p]/\H p=some (.lst (b.map V.ref))/\vC H b a/\∀r,H r=none->Q (.ref r) (upd H r (.dK (jN [] a)))
def Oz{U:St}(I:Inv X y0 U H s):∀e d,vC H d e->∃f,KV e f/\∀(j:Nat) q,d[j]?=some q->∃b a m,s.heap.IsTuple q #[b,a]/\f[j]?=some (m,a)/\(bL X.prog X.w).is m b=true
 | [],d,h=>⟨[],.nil,λj q c=>by
     have:=(Ag.mp c).1
     rw[h.1]at this;exact absurd this (Nat.not_lt_zero _)⟩
 |kv::r,d,h=>by
  cases d with
  |nil=>exact absurd h.1 (by simp)
  |cons q t=>
   obtain⟨f,g,y⟩:=Oz I r t ⟨by have:=h.1;simpa using this,λj i l c z=>h.2 (j+1) i l (by simpa using c) (by simpa using z)⟩
   have x:=h.2 0 q kv rfl rfl
   obtain⟨v,n,u,_⟩:=I.tuple (YQ.of (K:=X.K) x);obtain⟨b,a,rfl,p,o⟩:=Um n;refine⟨(kv.1,a)::f,.cons ⟨rfl,o⟩ g,λj i c=>?_⟩;cases j with
   |zero=>
    cases c;exact⟨b,a,kv.1,u,rfl,tJ p⟩
   |succ j=>exact y j i (by simpa using c)
def JA(N:X.calm=true):ZU X (.type "dict") xA:=by
 intro W s U H Y Z Q I r h;obtain⟨p,c,d,rfl,K,x,q⟩:=h;obtain⟨u,rfl,i⟩:=dL r;cases i;obtain⟨D,b,n,v,E⟩:(c.map V.ref).length<=sizeLine/\∃b n,Vals (c.map V.ref) b/\s.heap.get? p=some {cls:=.type "list",data:=.seq b.toArray n}:=I.Z8 p _ K;obtain⟨A,e,G⟩:=Oz I d c x;have L:=v.length
 have F:=e.length
 have J:=x.1
 rw[Ac]at L D;refine uG (knd:=bL X.prog X.w) (ps:=A) E (I.ok.hd N) (by rw[Az];((try clear D);omega)) (by rw[Az];omega) (λj M=>?_) (λh' z P B=>?_)
 .have m:j<b.length:=by simpa using M
  have f:j<c.length:=by ((try clear D M);omega)
  obtain⟨u,y,i⟩:=v.get (show (c.map V.ref)[j]?=some (.ref c[j]) by rw[Ae,Aa f];rfl)
  obtain⟨l,g,C,T,S,R⟩:=G j _ (Aa f);rw[Aa m]at y;have O:=Ay y
  exact⟨c[j],l,g,C,by simpa using O.trans i,T,S,R⟩
 .refine⟨.ref s.heap.objs.size,_,I.laid (a:=s.heap.objs.size) (o:=.dK (jN [] d)) (t':=z) B (Ai _) (QS (by have:=oM d [];rw[List.length_nil]at this;omega) (Cr.mpr (Ne.symm (Bb I.big))) (KV.merge e .nil) P),rfl,q _ (I.Z8.fresh (Ai _))⟩
def Lc{a:List Addr}{kvs:List (Key×V)}(c:H p=some (.lst (a.map V.ref)))(b:vC H a kvs)(h:∀r,H r=none->Q (.ref r) (upd H r (.dK (jN [] kvs)))):xA [.ref p] H Q:=⟨p,a,kvs,rfl,c,b,h⟩
def Sg:∀ {c:List V} {d:List Value},d.length=c.length->(∀(j:Nat) x u,c[j]?=some x->d[j]?=some u->RelV x u)->Vals c d
 |[],[],_,_=>.nil
 |x::r,u::t,hl,h=>.cons (h 0 x u rfl rfl) (Sg (by simp_all) λj e f a b=>h (j+1) e f (by simp_all) (by simp_all))
 |[],_::_,hl,_=>absurd hl (by simp)
end
section
open PySem.W
section
variable {K:Frag} {x D:Addr} {ox:Obj} {od:Option Obj}
def HH{v:Value}{a:Bool}{Q:Q2}(Z:Yy K D)(X:K.In s.heap)(I:InstAt s.heap x ox D od)(f:findObj K D od name=some (.value v))(e:handedIn v=true)(h:Q v {s with toks:=s.toks+1}):wpAny (model prog w) A (getAttr (.ref x) name a) Q E s:=by
 obtain⟨n,g,d,t,m⟩:=s;have b:=I.type (M:=model prog w)
 have l:=looks_findIn (M:=model prog w) X Z.ga
 have k:=looks_findIn (M:=model prog w) X Z.gh
 have j:=looks_find (M:=model prog w) X I f
 unfold getAttr getAttrBy;refine Ad (wpAny_mkText (By (Ad (b.at (Ad (l.at ?_))))));have c:(Value.builtin "BaseException.__getattribute__" == Value.builtin "object.__getattribute__")=false:=by grind
 have i:=F.excAttr_ValueError.ga.bind (.ref x)
 dsimp only;rw[c,Bool.and_false,if_neg Aq];unfold getAttrByItsOwn hookBefore;rw[if_pos (show onTheHeap (Value.ref D)=true from rfl)];refine Ad (k.at (Ad (Gv (By ?_))));unfold callGetattribute boundAndCalled;rw[if_neg (by rw[show onTheHeap (Value.builtin "BaseException.__getattribute__")=false from rfl,Bool.and_false];exact Aq)]
 refine Ad (wpAny_of_eq i ?_);refine Fk (El F.excAttr_ValueError.ga.plain F.entry_bexc_ga (NK Z X I ?_));unfold Builtin.«object.__getattribute__»;refine Ad (Ap (Ad (Ap (Ad (b.at (Ad (j.at ?_)))))));refine Ap ?_;exact handed_on e h
def Lw{e t0:Addr}{c:List Value}{Q:Q2}(Z:Yy K D)(X:K.In s.heap)(I:InstAt s.heap e oe D od)(r:W.subIn K (.ref D) (.type "ValueError")=some true)(i:oe.data=.fields vs)(j:vs[0]?=some (.ref t0))(m:c.length<=sizeLine)(h:Q .none {s with heap:=(s.heap.push {cls:=.type "tuple",data:=.seq c.toArray}).update e (Obj.mapFields (·.setIfInBounds 0 (.ref s.heap.objs.size)))}):wpAny (model prog w) A (call (.builtin "ValueError.__init__") (.ref e::c)) Q E s:=by
 have p:=I.at_
 obtain⟨y,q,_⟩:=any_some Z.cls;have d:=Bl
 have v:=I.type (M:=model prog w)
 have u:=looks_subIn (M:=model prog w) X r
 refine Fk (El d.init.plain d.initEntry ?_);have t:∀Q E B,Q () s->wpAny (model prog w) B (checkBuiltinCall "ValueError.__init__" ⟨.ref e::c,[]⟩) Q E s:=λQ E B o=>by
  simp only[checkBuiltinCall,d.initKind,d.initSplit,d.initRow];refine Ad ((v.andThen u).at ?_);have l:=d.noStar
  have k:∀a b n,Bind.check ⟨.positional, "*", "ValueError",.self,[⟨"args",.varPos,false⟩]⟩ a b n (List.map (λx=>x.fst) ({pos:=Value.ref e::c}:Args).kw)=pure ():=λa b n=>check_star_args _ _ _ _ _ _
  repeat (first|wp_step)
  rw[I.cls];refine Ad ((looks_clsIn X q).at (Ap ?_));repeat (first|wp_step)
  refine wpAny_onRaise ?_;rw[k];exact Ap o
 refine t _ _ _ ?_;have f:=(Di.mp j).1
 have g:=Af (h:=s.heap) {cls:=.type "tuple",data:=.seq c.toArray} p
 unfold Builtin.«BaseException.__init__» newTuple Builtin.BaseException.bexcPut;dsimp only;rw[if_neg (by simp)]
 refine Ad (Gf (Ad (Ad (Fw g i j (Ad (wpAny_setField g i f (wpAny_letGo (Ap h))))))) (by show c.toArray.size<=sizeLine;rwa[Az]))
noncomputable def Wr(K:Frag)(D:Addr):Option (List Value):=(clsIn K D).map (·.mro)
def Pq{T:Addr}{v:Value}{m:Q6}{ns:List Str}{Q:Unit->Shared->Prop}(Z:Yy K D)(X:K.In s.heap)(I:InstAt s.heap x ox D od)(hs:findIn K (.ref D) "__setattr__"=some (some (.builtin "object.__setattr__")))(k:Wr K D=some [.ref D,.ref T,.type "ValueError",.type "Exception",.type "BaseException",.type "object"])(g:findIn K (.ref D) name=some none)(z:∀B q (J:Q2),q (some dx) {s with heap:=h1,toks:=s.toks+1}->wpAny (model prog w) B (instanceDict x true) q J {s with toks:=s.toks+1})(u:h1.Ns1 dx m)(t:Within m ns)(M:ns.length<sizeLine)(h:∀c d,c.Ns1 dx (λy=>if y=name then some v else m y)->Heap.SameBut dx h1 c->Q () {s with heap:=c,toks:=d}):wpAny (model prog w) A (setAttr (.ref x) name v) Q E s:=by
 obtain⟨p,o,C⟩:=any_some Z.cls;have i:p.mro=[.ref D,.ref T,.type "ValueError",.type "Exception",.type "BaseException",.type "object"]:=by
  unfold Wr at k;rw[o]at k;exact Ay k
 have a:=PySem.F.store_ValueError
 have e:Looks (model prog w) s.heap (isInstance (.ref x) (.type "object")) true:=I.type.andThen (looks_mroIn X Z.mo)
 have j:Looks (model prog w) s.heap (mroOf (.ref D)) p.mro:=(looks_clsIn X o).andThen .now
 have N:=I.at_
 refine set_plain X I hs ?_;refine El a.slot.plain a.entry (@check_slot (model prog w) _ _ {s with toks:=s.toks+1} "object.__setattr__" "object" "__setattr__" (.ref x) [.str name s.toks,v] [] _ a.kind a.split e (a.args (.ref x) (.str name s.toks) v) ?_)
 rw[osa_eq,refuse_eq];refine Ad (Ad (I.type.here (s:={s with toks:=s.toks+1}) (Ad (j.here (s:={s with toks:=s.toks+1}) ?_))))
 rw[i,refuseLoop_ref,refuseLoop_ref,a.passes];refine Ap (Ad (I.type.here (s:={s with toks:=s.toks+1}) (Ad ((looks_findIn X g).here (s:={s with toks:=s.toks+1}) (Ad (Ap ?_))))))
 show wpAny (model prog w) A.in1 (Builtin.ObjectAttr.storeInOwnDict (Value.ref x) (Value.ref D) (Value.str name s.toks) name v false) _ _ _
 unfold Builtin.ObjectAttr.storeInOwnDict;refine Ad (Ap ?_);rw[if_neg (show ¬((Value.ref D==Value.type "module")=true) by simp)]
 unfold Builtin.ObjectAttr.ownDictForStores;refine Ad (z _ _ _ ?_);show wpAny (model prog w) A.in1 (Builtin.ObjectAttr.storeInDict dx (Value.str name s.toks) name v) _ _ _
 unfold Builtin.ObjectAttr.storeInDict Builtin.ObjectAttr.newKeyGuard;refine Ad (Ap (Ad (wpAny_nsSet1 u λc b r=>?_)));obtain⟨L,G,H,f,l,n⟩:=b.count (Within.cons name v t);refine Ad (wpAny_lookBehind f (by rw[l];exact pastItsLine_dict (Cd n (by rw[Be];(exact Nat.le_trans (by assumption) (by decide))))) ?_)
 exact Ap (h c _ b r)
def LC{T:Addr}{v:Value}{Q:Unit->Shared->Prop}(Z:Yy K D)(X:K.In s.heap)(I:InstAt s.heap x ox D none)(k:ox.data=.fields vs)(u:ox.dict=none)(hs:findIn K (.ref D) "__setattr__"=some (some (.builtin "object.__setattr__")))(F:Wr K D=some [.ref D,.ref T,.type "ValueError",.type "Exception",.type "BaseException",.type "object"])(r:findIn K (.ref D) name=some none)(h:∀g f,g.get? x=some {ox with dict:=some s.heap.objs.size}->g.Ns1 s.heap.objs.size (λy=>if y=name then some v else none)->(∀b o,b≠x->s.heap.get? b=some o->g.get? b=some o)->Q () {s with heap:=g,toks:=f}):wpAny (model prog w) A (setAttr (.ref x) name v) Q E s:=by
 obtain⟨L,H,z⟩:=any_some Z.cls;have m:=I.at_
 have j:(s.heap.push {cls:=.type "dict",data:=.dict #[]}).get? x=some ox:=Af _ m
 have i:=Bb (Av m)
 have t:((s.heap.push {cls:=.type "dict",data:=.dict #[]}).update x λo=>{o with dict:=some s.heap.objs.size}).get? s.heap.objs.size=some {cls:=.type "dict",data:=.dict #[]}:=
  (Heap.get?_update_ne _ _ _ _ i.symm).trans (Heap.get?_push_at rfl rfl)
 have p:((s.heap.push {cls:=.type "dict",data:=.dict #[]}).update x λo=>{o with dict:=some s.heap.objs.size}).Ns s.heap.objs.size (λ_=>none):=
  ⟨_,#[],_,t,rfl,λe G=>absurd G (by simp),λ_=>rfl⟩
 have l:((s.heap.push {cls:=.type "dict",data:=.dict #[]}).update x λo=>{o with dict:=some s.heap.objs.size}).get? x=some {ox with dict:=some s.heap.objs.size}:=by
  refine Ge _ j ?_;obtain⟨a,b,c,d⟩:=ox;cases k;rfl
 refine Pq Z X I hs F r (λB M N q=>?_) (Heap.Ns1.of_empty p) Within.nil (by rw[List.length_nil,Hh];((try clear i);omega)) λg f n C=>h g f ((C.2 x i).trans l) n λb o J e=>
  (C.2 b (Bb (Av e))).trans ((Heap.get?_update_ne _ _ _ _ J).trans (Af _ e))
 unfold instanceDict;refine Ad (wpAny_loadPart m ?_);rw[I.cls];refine Ad ((looks_clsIn X H).here (s:={s with toks:=s.toks+1}) ?_)
 rw[z,u,k,if_neg (show ¬((!true)=true) by decide)]
 dsimp only;rw[if_neg (show ¬((!true || !typeHasDict (Value.ref D))=true) by simp[typeHasDict])]
 exact Ad (wpAny_alloc' (Ad (wpAny_update' j (Ap q))))
def D8{T:Addr}{v:Value}{m:Q6}{ns:List Str}{b:Obj}{Q:Unit->Shared->Prop}(Z:Yy K D)(X:K.In s.heap)(I:InstAt s.heap x ox D (some b))(d:ox.dict=some dx)(hs:findIn K (.ref D) "__setattr__"=some (some (.builtin "object.__setattr__")))(k:Wr K D=some [.ref D,.ref T,.type "ValueError",.type "Exception",.type "BaseException",.type "object"])(c:findIn K (.ref D) name=some none)(j:s.heap.Ns1 dx m)(i:Within m ns)(g:ns.length<sizeLine)(h:∀f a,f.Ns1 dx (λy=>if y=name then some v else m y)->Heap.SameBut dx s.heap f->Q () {s with heap:=f,toks:=a}):wpAny (model prog w) A (setAttr (.ref x) name v) Q E s:=by
 obtain⟨n,l,e⟩:=any_some Z.cls;refine Pq Z X I hs k c (λB o p q=>?_) j i g h;unfold instanceDict;refine Ad (wpAny_loadPart I.at_ ?_);rw[I.cls];refine Ad ((looks_clsIn X l).here (s:={s with toks:=s.toks+1}) ?_)
 rw[e,d,if_neg (show ¬((!true)=true) by decide)]
 exact Ap q
end
end
section
open PySem.W
noncomputable def iY(e C:Addr)(d:Option Addr):HO:=.ext λh=>∃b a c,h.get? e=some b/\b.cls=.ref C/\b.dict=d/\b.data=.fields a/\a[1]?=some .none/\a[0]?=some (.ref c)/\a[2]?=some .none
noncomputable def YL(b:Addr)(fs:List (Str×V)):HO:=.ext λh=>∃a,h.Ns1 b a/\(∀f,Zj (fs.lookup f) (a f))/\Within a (fs.map (·.1))
def TV(g:h.get? ea=some oe)(c:oe.cls=.ref C)(e:oe.dict=d)(f:oe.data=.fields vs)(h1:vs[1]?=some .none)(b:vs[0]?=some (.ref t0))(i:vs[2]?=some .none):ZW P w H h ea (iY ea C d):=⟨⟨oe,vs,t0,g,c,e,f,h1,b,i⟩,⟨oe,g⟩,λ_ _ ⟨o,a,t,g,q⟩ k=>⟨o,a,t,k o g,q⟩⟩
def PB{fs:List _}{a:Q6}(n:h.Ns1 dx a)(r:∀f,Zj (fs.lookup f) (a f))(wi:Within a (fs.map (·.1))):ZW P w H h dx (YL dx fs):=by
 refine⟨⟨a,n,r,wi⟩,?_,λ_ _ ⟨m,⟨o,b,c,g,q⟩,r⟩ k=>⟨m,⟨o,b,c,k o g,q⟩,r⟩⟩;obtain⟨o,b,c,g,_⟩:=n;exact⟨o,g⟩
structure VQ (K:Frag) (C T:Addr):Prop where
 ex:Yy K C
 sa:findIn K (.ref C) "__setattr__"=some (some (.builtin "object.__setattr__"))
 mro:Wr K C=some [.ref C,.ref T,.type "ValueError",.type "Exception",.type "BaseException",.type "object"]
 vb:W.subIn K (.ref C) (.type "ValueError")=some true
noncomputable def Uw(K:Frag)(C T:Addr):Bool:=(clsIn K C).any λc=>c.mro==[.ref C,.ref T,.type "ValueError",.type "Exception",.type "BaseException",.type "object"]
def Sb{T:Addr}(h:Uw K C T=true):Wr K C=some [.ref C,.ref T,.type "ValueError",.type "Exception",.type "BaseException",.type "object"]:=by
 obtain⟨c,b,h⟩:=any_some h;unfold Wr;rw[b];exact congrArg some (eq_of_beq h)
def kD{D:Addr}(e:Y_ P w H h)(g:h.get? ea=some oe)(j:oe.cls=.ref D)(a:oe.dict=d)(f:oe.data=.fields vs)(m:∀b,d=some b->∃o,H b=some o):∃k,InstAt h ea oe D k:=by
 have i:notCls oe=true:=by
  obtain⟨c,q,r,p⟩:=oe;cases f;rfl
 cases d with
 |none=>exact⟨none,g,j,i,by rw[a];trivial⟩
 |some b=>
  obtain⟨o,z⟩:=m b rfl;obtain⟨l,n⟩:=(e b o z).get;exact⟨some l,g,j,i,by rwa[a]⟩
def DQ{o:HO}(e:H a=some o):upd H a o=H:=by
 funext b
 unfold upd;grind
def SU(K:Frag):List V->Hp->VK->Prop:=λe H Q=>∃b a C T d,e=.ref b::a/\a.length<=sizeLine/\H b=some (iY b C d)/\(∀c,d=some c->∃o,H c=some o)/\VQ K C T/\Q .non H
def PX(K:Frag)(t:TA):TE:=λU H Q=>t U H λa b=>SU K a b Q
def GQ:ZU X (.builtin "ValueError.__init__") (SU X.K):=by
 intro M s U H N O Q I r h;obtain⟨f,l,C,T,d,rfl,D,j,E,Z,q⟩:=h;cases r with
 | @cons _ _ _ B A y=>
  cases A;obtain⟨P,w,t0,g,m,c,a,J,n,L⟩:=(I.Z8 f _ j).1;obtain⟨R,G⟩:=kD I.Z8 g m c a E;refine Lw Z.ex I.Y2 G Z.vb a n (by rw[<-y.length];exact D) ?_
  have p:=Af (h:=s.heap) {cls:=.type "tuple",data:=.seq B.toArray} g
  have i:=(Di.mp n).1
  have k:=Hg a (·.setIfInBounds 0 (Value.ref s.heap.objs.size))
  refine⟨.non,H,?_,rfl,q⟩;have v:=I.write (x:=f) (e:=f) (o:=iY f C d) (t':=s.toks) (by rw[j];exact True.intro) (.inl rfl) (λb u F z=>(Bz _ (Obj.mapFields (·.setIfInBounds 0 (Value.ref s.heap.objs.size))) (Ne.symm F)).trans (Af _ z))
   ⟨_,Heap.get?_update_self _ p (Obj.isFreed_of_fields k)⟩ (TV (Heap.get?_update_self _ p (Obj.isFreed_of_fields k)) (by rw[Obj.cls_mapFields];exact m) (by rw[Rn];exact c) k (by grind) (t0:=s.heap.objs.size) (by simp[i]) ((Array.getElem?_setIfInBounds_ne (by decide)).trans L))
  rw[DQ j]at v;exact v
section
variable {T:Addr} {mc:Value}
def vN(p:Gl X x)(o:X.mg x=some (.ref T))(v:specialIn X.K (.ref T) "__getattribute__"=some (some (.builtin "type.__getattribute__")))(u:readsIn X.K T mc=true)(r:findCls X.K (.ref T) mc "__init__"=some (.val (.builtin "ValueError.__init__")))(q:PA X (e::es) t)(c:(x==("__debug__" : Str))=false:=by decide)(a:starEach (e::es) X.env=(false,eval e X.env)::starEach es X.env:=by rfl)(b:(backTo pos (starEach es X.env)).any (·.1)=false:=by rfl)(n:eval (.Call (.Attribute (.Name x np) "__init__" apos) (e::es) [] pos) X.env=(do
 let g <-eval (.Name x np) X.env
 standAt apos.atName
 let (f,first) <-holding [g] (getMethod g "__init__" pl)
 callWith pos f first (backTo pos (starEach (e::es) X.env)) (backToKw pos (keywordEach [] X.env))):=by rfl):PE X (.Call (.Attribute (.Name x np) "__init__" apos) (e::es) [] pos) (PX X.K t):=by
 intro d s U H Q I h;refine Fb (pl:=pl) (lB I p o ?_ c) n;refine method_cls I.Y2 v (cls_value I.Y2 u r rfl ?_);exact PyProof.Rows.callWith_builtin1 (ZY (q pos d _ U H _ (I.tok _) h) λj k ⟨i,y,w,l,m⟩=>GQ d k U y i j Q w l m) a b
end
def Inv.YD{U:St}(I:Inv X y0 U H s)(h:s.heap.objs.size<=a):V2 X y0 a where
 s0:=Gh (Cd I.sz h)
 loc:=λz=>absurd (Bc I.lt h) (by rw[z];exact Dk _)
 cell:=λx c e z=>by
  obtain⟨_,o,g,_⟩:=I.cell x c e;exact absurd (Bc (Av g) h) (by simp_all)
 pin:=λp b z=>absurd (Bc (Av (I.pin p b).1) h) (by rw[z];exact Dk _)
def Qi(K:Frag)(g e:TE)(f:Str):TS:=λD U H=>e U H λy h=>g U h λx c=>∃b C T,x=.ref b/\VQ K C T/\findIn K (.ref C) f=some none/\
 ((c b=some (iY b C none)/\∀a,c a=none->D.nx U (upd (upd c b (iY b C (some a))) a (YL a [(f,y)])))\/
  (∃a d,c b=some (iY b C (some a))/\c a=some (YL a d)/\d.length<100/\D.nx U (upd c a (YL a ((f,y)::d)))))
def P1{f g:Str}{fs:List _}:List.lookup g ((f,y)::fs)=if g=f then some y else fs.lookup g:=by grind
def SK{o value:Expr}{f:Str}{pos':Pos}{ta:TE}(ha:PE X o ta)(hv:PE X value tv)(hs:swapsWith value (some (.Attribute o f pos')) pos.line X.env=pure false):PS X (.Assign [.Attribute o f pos'] value pos) (Qi X.K ta tv f):=by
 intro y0 s U H D I h;refine plainObj_wpAny_Assign_Attribute (ZY (hv y0 s U H _ I h) λu s1 ⟨y,H1,I1,ry,q⟩=>ZY (ha y0 s1 U H1 _ I1 q) λov s2 ⟨x,H2,I2,rx,ea,C,T,ex,Z,hn,q2⟩=>?_) hs;subst ex;obtain rfl:ov=Value.ref ea:=rx;rcases q2 with⟨he,q3⟩|⟨dx,fs,he,hdx,hl,q3⟩
 .obtain⟨oe,vs,t0,g,hc,hdi,hda,h1,h0,c2⟩:=(I2.Z8 ea _ he).1;obtain⟨od,hI⟩:=kD I2.Z8 g hc hdi hda (λ_ z=>nomatch z)
  have hod:od=none:=by
   have z:=hI.dict
   rw[hdi]at z;cases od with
   |none=>rfl
   |some o=>exact z.elim
  subst hod;refine LC Z.ex I2.Y2 hI hda hdi Z.sa Z.mro hn λh' tk' gx ns kp=>?_;have fr:=I2.YD (Ai _)
  have hfree:=I2.Z8.fresh (Ai _)
  have ne:s2.heap.objs.size≠ea:=λz=>by rw[z,he]at hfree;cases hfree
  have I3:=I2.write (x:=ea) (e:=ea) (o:=iY ea C (some s2.heap.objs.size)) (h':=h') (t':=tk') (by rw[he];exact True.intro) (.inl rfl) kp ⟨_,gx⟩ (TV gx hc rfl hda h1 h0 c2)
  have I4:=I3.adopt (a:=s2.heap.objs.size) (o:=YL s2.heap.objs.size [(f,y)]) fr (by rw[aK ne];exact hfree) (PB ns (λg=>by
   rw[P1];split
   .exact ry
   .exact True.intro) (λg hg=>by
   by_cases z:g=f
   .rw[z];exact Ak.mpr rfl
   .exact absurd (show (if g=f then some u else none)=none by rw[if_neg z]) hg))
  exact⟨U,_,I4,q3 _ hfree⟩
 .obtain⟨oe,vs,t0,g,hc,hdi,hda,h1,h0,c2⟩:=(I2.Z8 ea _ he).1;obtain⟨mA,n,r,wi⟩:=(I2.Z8 dx _ hdx).1;obtain⟨od,hI⟩:=kD I2.Z8 g hc hdi hda (λz e=>by cases e;exact⟨_,hdx⟩)
  have hod:∃o,od=some o:=by
   have z:=hI.dict
   rw[hdi]at z;cases od with
   |none=>exact z.elim
   |some o=>exact⟨o,rfl⟩
  obtain⟨o,rfl⟩:=hod;refine D8 Z.ex I2.Y2 hI hdi Z.sa Z.mro hn n wi (by rw[Ac,Hh];(exact Nat.le_trans (by assumption) (by decide))) λh' tk' ns sb=>?_
  have hd':∃o,h'.get? dx=some o:=let ⟨o,_,_,e',_⟩:=ns;⟨o,e'⟩
  have I3:=I2.write (x:=dx) (e:=dx) (o:=YL dx ((f,y)::fs)) (h':=h') (t':=tk') (by rw[hdx];exact True.intro) (.inl rfl) (λb q hb z=>(sb.2 b hb).trans z) hd' (PB ns (λg=>by
   rw[P1];split
   .exact ry
   .exact r g) (λg hg=>by
   by_cases z:g=f
   .rw[z];exact Al
   .refine Am _ (wi g λz2=>hg ?_);show (if g=f then some u else mA g)=none
    rw[if_neg z];exact z2))
  exact⟨U,_,I3,q3⟩
def D4(r:RelV v u):handedIn u=true:=by
 cases v<;>first|(obtain⟨_,rfl⟩:=(show ∃t,u=_ from r);rfl)|(cases r;rfl)
end
section
open PySem.W
noncomputable def WB(K:Frag)(C:Addr)(b:List Value)(a:String):Bool:=
 match K.lookup C with
 |some ⟨.type t,_,.cls c,d⟩=>t == "type" && !c.hasDel&&nsOkIn K c.ns &&
  (match c.mro with|.ref C1::bm=>C1==C&&tailIn K b bm|_=>false)&&(match d.toList with|[_,_,_,_,some (.builtin n),_]=>n==a|_=>false)
 |_=>false
def Sn{K:Frag}(X:K.In h)(q:WB K C bmB newId=true):∃d N nm f bs r e a s b dd p o m k j,h.get? C=some (excClassObj nm f C N bs d r e a s b dd p o m k j newId)/\OwnTail h bmB d:=by
 unfold WB at q;split at q
 .rename_i t dd c w A
  simp only[Bool.and_eq_true,beq_iff_eq,Bool.not_eq_true']at q;obtain⟨⟨⟨⟨rfl,u⟩,y⟩,i⟩,g⟩:=q;split at i
  .rename_i D d v
   obtain⟨rfl,x⟩:D=C/\tailIn K bmB d=true:=by simpa only[Bool.and_eq_true,beq_iff_eq]using i
   split at g
   .rename_i p o m k n j hs
    obtain rfl:n=newId:=by simpa using g
    obtain⟨nm,bs,z,ns,f,r,e,a,s,b,B⟩:=c;dsimp only at v u y;subst v u;obtain⟨l⟩:=w;cases (show l=_ from hs);exact⟨d,ns,nm,f,bs,r,e,a,s,b,dd,p,o,m,k,j,X _ _ A,tail_of_in X x⟩
   .cases g
  .cases i
 .cases q
section
variable {K:Frag} {B initId:String}
def AS{a:List Value}{Q:Fin->Shared->Prop}(p:ExcBaseFacts B newId initId bmB)(X:K.In s.heap)(G:WB K C bmB newId=true)(I:findIn K (.ref C) "__init__"=some (some (.ref f)))(J:typeIn K (.ref f)=some (.type "function"))(l:a.length<=sizeLine)(H:∀v e,Heap.MadeExcOf s.heap v e (.ref C) a->wpAny (model prog w) A (call (.ref f) (.ref e::a)) (λr q=>r=.none/\Q (.done (.ret (.ref e))) q) E {s with heap:=v}):wpAny (model prog w) A (Builtin.«type.__call__» ⟨.ref C::a,[]⟩) Q E s:=by
 obtain⟨h,g,d,t,u⟩:=s;obtain⟨M,N,R,P,bs,Y,O,F,ab,L,Z,W,V,U,T,S,i,D⟩:=Sn X G;repeat (first|with_reducible refine wpAny_madeBy_exc i ?_|with_reducible refine Gg i ?_|wp_step)
 refine codeAny_call_builtin_code (Code.quiet_builtin _ p.quiet) (wpAny_check_new_subT p D i (codeAny_exc_new_subT p D i ?_ l));show wpAny _ _ _ _ _ _
 generalize c:(h.push {cls:=.type "tuple",data:=.seq a.toArray}).push {cls:=.ref C,data:=.fields #[.ref h.objs.size,.none,.none,.none,.bool false,.none]}=j;have k:∀b o,h.get? b=some o->j.get? b=some o:=λb o e=>by rw[<-c];exact Af _ (Af _ e)
 have x:j.get? (h.objs.size+1)=some {cls:=.ref C,data:=.fields #[.ref h.objs.size,.none,.none,.none,.bool false,.none]}:=by rw[<-c];heap_get
 have y:=X.keeps k
 have n:=k _ _ i
 have m:(Value.ref C::M).contains (.ref C)=true:=by simp
 unfold isInstance;repeat (first|(with_reducible refine wpAny_isSubtype_exc n ?_;rw[m])|with_reducible refine Gg x ?_|wp_step)
 show wpAny _ _ (typeLookup (.ref C) _) _ _ _
 refine(looks_findIn y I).here (s:=⟨j,g,d,t,u⟩) (By (Ad ?_));unfold bindSpecial;refine Ad ((looks_typeIn y J).here (s:=⟨j,g,d,t,u⟩) ?_);rw[if_pos (by decide)]
 refine Ap (Ad (Ck (H j (h.objs.size+1) ⟨k,Gh (Hv _),h.objs.size,x,Gh (Ai _),?_⟩) (λr q l=>?_) λ_ _ z=>z))
 .rw[<-c];exact Af _ (Heap.get?_push_at rfl rfl)
 .obtain⟨rfl,z⟩:=l
  wp_walk
  exact z
def AZ{a:List Value}{Q:Q2}(x:ExcBaseFacts B newId initId bmB)(X:K.In s.heap)(i:WB K C bmB newId=true)(p:findIn K (.ref C) "__init__"=some (some (.ref f)))(q:typeIn K (.ref f)=some (.type "function"))(m:a.length<=sizeLine)(n:∀b e,Heap.MadeExcOf s.heap b e (.ref C) a->wpAny (model prog w) (A.under (.builtin "type.__call__" ⟨.ref C::a,[]⟩)) (call (.ref f) (.ref e::a)) (λr k=>r=.none/\Q (.ref e) k) E {s with heap:=b}):wpAny (model prog w) A (call (.ref C) a) Q E s:=by
 have v:=X
 obtain⟨T,N,D,z,S,L,y,j,U,u,M,J,I,H,G,F,c,V⟩:=Sn X i;have R:=tc_lookup
 have P:=tc_bind (.ref C)
 refine Fk (codeAny_of_tree ?_)
 repeat (any_goals (first|with_reducible refine Gg c ?_|assumption|wp_step))
 exact⟨rfl,codeAny_call_builtin_at (Code.quiet_builtin _ (by decide +kernel)) entry_typeCall (wpAny_check_type_call_sub c (AS x v i p q m λb e o=>n b e o))⟩
def Kb{x:Sem Value}{Q:Flow->Shared->Prop}(M:A.handled=none)(h:wpAny (model prog w) A x (λv b=>∃e c k j N o n H B m a I i G y u t r p,v=.ref e/\b.heap.get? C=some (excClassObj o n C N H j B m a I i G y u t r p newId)/\j.contains (.type "BaseException")=true/\
 b.heap.get? e=some c/\c.cls=.ref C/\c.data=.fields k/\k[1]?=some .none/\E (.ref e) b) E s):wpAny (model prog w) A (raiseStmt env (some x) none) Q E s:=by
 unfold raiseStmt;refine Ad (Ck h (λv b q=>?_) λ_ _ z=>z);obtain⟨e,c,k,j,N,o,n,H,B,m,a,I,i,G,y,u,t,r,p,rfl,F,P,O,D,f,S,R⟩:=q;obtain⟨W,g,d,T,U⟩:=b;obtain⟨V,K,L,J⟩:=c;dsimp only at D f;subst D f;have l:(Value.ref C::j).contains (.type "BaseException")=true:=by rw[List.contains_cons,P,Bool.or_true]
 repeat (first|with_reducible refine Gg F ?_|with_reducible refine Gg O ?_|(with_reducible refine wpAny_isSubtype_exc F ?_;rw[l])|wp_step)
 rw[S];refine Ap ?_
 exact Ap (wpAny_raiseNew_none M R)
end
noncomputable def del(H:Hp)(a:Addr):Hp:=λb=>if b=a then none else H b
def lY(h:b≠a):del H a b=H b:=if_neg h
def OL:del H a a=none:=if_pos rfl
section
variable {U:St}
def Inv.drop{f:Heap->Prop}(I:Inv X y0 U H s)(e:H ea=some (.ext f)):Inv X y0 U (del H ea) s:=by
 have d:∀b u,H b=some u->(∀h,u≠.ext h)->b≠ea:=λb u q n z=>by grind
 refine I.re (λb n=>?_) (λb g q=>?_) (λb o u q=>?_) (λb i q=>?_) λb o q=>?_
 .unfold del;split
  .rfl
  .exact n
 .have a:=I.base.tups b g q
  rw[lY (d b _ a λ_ z=>nomatch z)]
  exact a
 .have a:=I.base.frzs b o u q
  rwa[lY (d b _ a λ_ z=>nomatch z)]
 .obtain⟨m,a⟩:=I.base.tbls b i q;exact⟨m,by rwa[lY (d b _ a λ_ z=>nomatch z)]⟩
 .have j:b≠ea:=λz=>by rw[z,OL]at q;cases q
  rw[lY j]at q;exact(I.Z8 b o q).Zl (λ_ _ _ z=>z) (λc z=>by rwa[lY (d c _ z λ_ z=>nomatch z)]) λc g z=>by rwa[lY (d c _ z λ_ z=>nomatch z)]
def Inv.Wz(I:Inv X y0 U H s)(b:X.ex=[])(h:s.heap.get? a=none):V2 X y0 a where
 s0:=by
  cases z:X.s₀.heap.get? a with
  |none=>rfl
  |some o=>
   obtain⟨i,d⟩:=I.base.there a o z (by rw[b];simp)
   grind
 loc:=λz=>by
  obtain⟨m,⟨o,_,_,g,_⟩,_⟩:=I.loc;grind
 cell:=λx c e z=>by
  obtain⟨_,o,g,_⟩:=I.cell x c e;grind
 pin:=λp f z=>by
  have g:=(I.pin p f).1
  simp_all
end
def Wa(P:Program)(w:World)(K:W.Frag)(c:Str->Option Value)(a:Heap)(k:Nat)(C:Addr)(ps:List Str)(sp:Sp):Prop:=
 ∃f b,Z9 P w K c a ZO k f b ps sp/\findIn K (.ref C) "__init__"=some (some (.ref f))/\typeIn K (.ref f)=some (.type "function")/\Binds K b ps []
structure Vn (K:Frag) (C:Addr):Prop where
 obj:WB K C [.type "ValueError",.type "Exception",.type "BaseException",.type "object"] "ValueError.__new__"=true
 kp:keepIn K (.ref C)=true
def QZ(C:Addr)(sp:Sp)(E:XK)(f:TA):TS:=λ_ U H=>f U H λb e=>b.length<=sizeLine/\∀a,e a=none->sp (.ref a::b) (upd e a (iY a C none)) (λv c=>v=.non/\∃d,c a=some (iY a C d)/\E (.ref C) d (del c a)) E0
section
variable {E:XK} {ps:List Str}
def ME{U:St}{vs:List V}{G:Addr->VK}{R:Q2}(p:X.ex=[])(M:Vn X.K C)(c:Wa X.prog X.w X.K X.mg X.base k C ps sp)(P:Z4 (k+1) X.A)(l:Inv X y0 U H1 s1)(r:Vals vs us)(Q:vs.length<=sizeLine)(q:∀a,H1 a=none->sp (.ref a::vs) (upd H1 a (iY a C none)) (G a) E0)(Y:∀a m y,X.s₀.heap.get? a=none->Inv X y0 U m y->(G a) .non m->R (.ref a) y)(Z:∀a v m,G a v m->v=.non):wpAny (model X.prog X.w) X.A (call (.ref C) us) R X.xe s1:=by
 obtain⟨f,fd,F,S,T,W⟩:=c;refine AZ Bl l.Y2 M.obj S T (by rw[<-r.length];exact Q) λE a j=>?_
 obtain⟨t,g,_,_⟩:=j.there;have d:=l.Z8.hole j.new
 have I:=l.Wz p j.new
 have x:=(l.kept (t':=s1.toks) j.keeps).adopt (o:=iY a C none) I d (TV g rfl rfl rfl rfl rfl rfl)
 have z:Vals (V.ref a::vs) (Value.ref a::us):=.cons rfl r
 have D:=q a d
 have n:((Value.ref a::us)++[]).length=ps.length:=by rw[Bt,<-z.length];exact F.len _ _ _ _ D
 have i:=W {s1 with heap:=E} (Value.ref a::us) x.Y2 n
 rw[Bt]at i;refine Fk (Ff (F.run _ X.stack {s1 with heap:=E} _ ⟨Value.ref a::us,[]⟩ (Value.ref a::us) (V.ref a::vs) _ E0 (P.make C us []) (x.W3.make C us []) i z D) λO L b=>?_)
 cases O with
 |error e=>exact False.elim b
 |ok fl=>
  cases fl with
  |ret u=>
   obtain⟨v,J,I3,N,B⟩:=x.after b;have ev:=Z a v J B
   subst ev;exact⟨N,Y a J L I.s0 I3 B⟩
  |next=>exact False.elim b
  |brk=>exact False.elim b
  |cont=>exact False.elim b
def nW(hR:S3 X E)(S:X.ex=[])(hc:X.calm=true)(hg:Gl X x)(hm:X.mg x=some (.ref C))(M:Vn X.K C)(c:Wa X.prog X.w X.K X.mg X.base k C ps sp)(hr:Z4 k' X.A)(R:k+1<=k')(ha:PA X (e::es) ta)(V:(x==("__debug__" : Str))=false:=by decide)(he:starEach (e::es) X.env=(false,eval e X.env)::starEach es X.env:=by rfl)(P:(backTo cpos (starEach es X.env)).any (·.1)=false:=by rfl):PS X (.Raise (some (.Call (.Name x np) (e::es) [] cpos)) none pos) (QZ C sp E ta):=by
 intro y0 s U H D I h;rw [arm_exec_Raise];simp only [evalOpt,Option.map];refine Ad (Ew (Kb (C:=C) (newId := "ValueError.__new__") (I.ok.hd hc) ?_));refine Ad (Ck (Q:=λv m=>∃ e f o n N y t Y V p a Z b W O L J G B,v=.ref e/\m.heap.get? C=some (excClassObj y t C N Y n V p a Z b W O L J G B "ValueError.__new__")/\n.contains (.type "BaseException")=true/\
     m.heap.get? e=some f/\f.cls=.ref C/\f.data=.fields o/\o[1]?=some .none/\X.xe (.ref e) m) ?_ (λv s3 h3=>Ad (Ew (Ap h3))) λ_ _ z=>z)
 refine Dv (lB I hg hm ?_ V);refine Fy (h₀:=X.base) I.ok.mod.WE M.kp (ZY (ha cpos y0 s U H _ I h) λus m ⟨o,H1,I1,r,hl,q⟩=>⟨I1.Y2,?_⟩) he P;refine ME S M c (hr.mono R) I1 r hl q (λl H' s' s0 I3 u=>?_) λl v H2 z=>z.1;obtain⟨_,d,e2,u⟩:=u;obtain⟨f,ws,t0,g2,j,T,i,h1,h0,c2⟩:=(I3.Z8 l _ e2).1;obtain⟨n,N,y,t,Y,g,p,a,Z,b,W,O,L,J,G,B,hC,Tl⟩:=Sn I3.Y2 M.obj;refine⟨l,f,ws,n,N,y,t,Y,g,p,a,Z,b,W,O,L,J,G,B,rfl,hC,Tl.hasType PySem.F.excBase_ValueError.hasBase,g2,j,i,h1,?_⟩;exact hR y0 U (del H' l) s' l f ws (I3.drop e2) g2 i h1 c2 OL s0 (by simp_all)
end
noncomputable def mV(st:Stmt)(j:Nat):Stmt:=
 match st with
 |.ClassDef _ _ _ a _ _ _ _ _ _ _=>a.getD j (.Pass ⟨0,0,0,0⟩)
 |s=>s
section
variable {T:Addr} {U:St} {D':Ends} {E:XK} {f:Str}
def JR(h:ta U H λa b=>SU K a b Q):PX K ta U H Q:=h
def FW(h:ta U H λb e=>b.length<=sizeLine/\∀a,e a=none->sp (.ref a::b) (upd e a (iY a C none)) (λv c=>v=.non/\∃d,c a=some (iY a C d)/\E (.ref C) d (del c a)) E0):QZ C sp E ta D' U H:=h
def BE(h:tv U H λy e=>te U e λx c=>∃b C T,x=.ref b/\VQ K C T/\W.findIn K (.ref C) f=some none/\
 ((c b=some (iY b C none)/\∀a,c a=none->D'.nx U (upd (upd c b (iY b C (some a))) a (YL a [(f,y)])))\/
  (∃a d,c b=some (iY b C (some a))/\c a=some (YL a d)/\d.length<100/\D'.nx U (upd c a (YL a ((f,y)::d)))))):Qi K te tv f D' U H:=h
end
end
def Rh{l:Addr}{a:Array Value}(c:l≠it):∀n i s Q,s.heap.IsListIter it l i->s.heap.IsList l a->i+n<=a.size->
 (∀j,j.IsListIter it l (i+n)->Heap.SameBut it s.heap j->Q ((a.toList.drop i).take n) {s with heap:=j})->wpAny (model prog w) A (draw (.ref it) n) Q E s
 |0,i,s,Q,hit,_,_,k=>by
  refine Ap (M:=model prog w) ?_
  simpa using k s.heap hit (Heap.SameBut.refl ..)
 |n+1,i,s,Q,hit,hl,hle,k=>by
  have m:i<a.size:=by ((try clear c);omega)
  show wpAny _ _ (pyNext (.ref it) >>= _) Q E s
  refine wpAny_bind (wpAny_pyNext_list_item hit hl (x:=a[i]) (by simp[m]) λp g b=>?_)
  refine Ad (By (Rh c n (i+1) _ _ g (hl.extBut b.extBut c) (by ((try clear c m);omega)) λo f d=>Ap ?_))
  have e:a.toList.drop i=a[i]::a.toList.drop (i+1):=by simp[List.drop_eq_getElem_cons,m]
  have z:=k o (by grind) (b.trans d)
  rw[e,List.take_succ_cons]at z;exact z
def Lg{l:Addr}{a:Array Value}{c:List (Bool×(Value->Sem Unit))}{Q:Unit->Shared->Prop}(q:A.handled=none)(g:s.heap.IsList l a)(p:c.length=a.size)(hs:c.findIdx? (·.1)=none)(k:∀m,Heap.ExtBut s.heap.objs.size s.heap m->wpAny (model prog w) A (assignInOrder (c.map (·.2)) a.toList) Q E {s with heap:=m}):wpAny (model prog w) A (unpack (.ref l) c) Q E s:=by
 have f:l≠s.heap.objs.size:=by obtain⟨o,n,_⟩:=g;exact Bb (Av n)
 unfold unpack;rw[p,hs];refine Ad (By ?_);unfold unpackItems notIterableAtAll;refine Ad (Ad (wpAny_specialOf g.typeIs slot_list_iter.lookup (Ap ?_)));rw[if_neg (by simp)]
 refine Ad (By (Dp g ?_));refine Ad (By (Rh f a.size 0 _ _ ⟨_,Au _ rfl,rfl,rfl⟩ (g.push _) (by ((try clear f p);omega)) λv i d=>?_))
 have u:List.take a.size (List.drop 0 a.toList)=a.toList:=by rw[List.drop_zero];exact List.take_of_length_le (by simp)
 rw[u,if_neg (by simp)]
 refine wpAny_bind (wpAny_holding (wpAny_pyNext_list_end q i ((g.push _).extBut d.extBut f) (by simp) λr t=>?_))
 simp only[Option.isSome_none,Bool.false_eq_true,if_false];exact Ap (k r λb o j e=>t b o j (d.extBut b o j (Af _ e)))
def PN(n:Nat)(t:Xp):TG:=λv U H Q=>∃a b,v=.ref a/\Z6 H a=some b/\b.length=n/\t b U H Q
def C_{t:Xp}(A:X.calm=true)(h:Vp X es t)(y:(assignEach es X.env).length=n:=by rfl)(d:(assignEach es X.env).findIdx? (·.1)=none:=by rfl):PG X (.Tuple es k pos) (PN n t):=by
 intro i s U H v u Q I r c;obtain⟨a,l,C,w,z,c⟩:=c;subst C;cases r;obtain⟨p,j,⟨o,m,x,g,_,f⟩,E⟩:=I.list (bG w);rw[assign_Tuple];refine wpAny_bind (wpAny_standAt (Lg (I.ok.hd A) ⟨o,x,g,m,f⟩ (by simp[y,<-z,j.length]) d λB q=>?_))
 have D:=I.kept (t':=s.toks) λb o e=>q b o (Bb (Av e)) e
 exact h i _ U H l _ Q D (by (assumption)) c
def Qv{t:Xp}{U:St}{Q:St->Hp->Prop}(e:Z6 H a=some xs)(b:xs.length=n)(h:t xs U H Q):PN n t (.ref a) U H Q:=⟨a,xs,rfl,e,b,h⟩
section
open PySem.AutoSeq1 (wpAny_loadPart')
def Ky(z:Str)(a:Tok)(k:Int)(t:Tok)(m:z.cps.all (· < 128)=true)(l:Builtin.SmallTypes.fitsIndex k=true):Meets (Builtin.«enumerate.__new__» ⟨[.type "enumerate",.str z a],[("start",.int k t)]⟩) (λ_ R s=>
 R (.ok (.ret (.ref (s.heap.push {cls:=.type "str_ascii_iterator",data:=.fields #[.str z a,.int 0 0]}).objs.size)))
  {s with heap:=(s.heap.push {cls:=.type "str_ascii_iterator",data:=.fields #[.str z a,.int 0 0]}).push ⟨.type "enumerate",none,.fields #[.none,.bool false,.ref s.heap.objs.size,rawInt k,.none,.none],#[]⟩}):=
 .of_wp λb w A R s h=>by
  obtain⟨i,g,d,e,f⟩:=s;have c:=sub_enumerate
  have j:(!Builtin.SmallTypes.fitsIndex k)=false:=by rw[l];rfl
  wp_walk
  refine wpAny_stack_any λn=>Ap ?_;refine OV ?_ ?_ <;>
  .wp_walk using (wpAny_pyIter_ascii (s:=⟨i,g,d,e,f⟩) m)
   exact⟨_,rfl,h⟩
def zM{a:Tok}{k:Int}{t:Tok}{Q:Q2}(l:z.cps.all (· < 128)=true)(j:Builtin.SmallTypes.fitsIndex k=true)(h:∀c,IsEnum c (s.heap.objs.size+1) s.heap.objs.size k .none->c.IsStrIter s.heap.objs.size "str_ascii_iterator" z a 0->c.objs.size=s.heap.objs.size+2->(∀b o,s.heap.get? b=some o->c.get? b=some o)->Q (.ref (s.heap.objs.size+1)) {s with heap:=c}):wpAny (model prog w) A (call (.type "enumerate") [.str z a] [("start",.int k t)]) Q E s:=by
 have e:(s.heap.push {cls:=.type "str_ascii_iterator",data:=.fields #[.str z a,.int 0 0]}).objs.size=s.heap.objs.size+1:=Fq ..
 refine qL (Q1:=λo d=>d.TypeIs o "enumerate"/\Q o d) F.called_enumerate (by kernel_rfl) (by kernel_rfl) F.entry_enumerate_new (Ky z a k t l j) ?_ λo d f=>⟨f.1,?_,_,Pa F.called_enumerate.init.lookup F.called_enumerate.made (by decide),f.1,rfl,f.2⟩
 .show _/\_
  rw[e];have g:IsEnum ((s.heap.push {cls:=.type "str_ascii_iterator",data:=.fields #[.str z a,.int 0 0]}).push ⟨.type "enumerate",none,.fields #[.none,.bool false,.ref s.heap.objs.size,rawInt k,.none,.none],#[]⟩) (s.heap.objs.size+1) s.heap.objs.size k .none:=by
   have q:=Au (s.heap.push {cls:=.type "str_ascii_iterator",data:=.fields #[.str z a,.int 0 0]}) (o:=⟨.type "enumerate",none,.fields #[.none,.bool false,.ref s.heap.objs.size,rawInt k,.none,.none],#[]⟩) rfl
   rwa [e]at q
  exact⟨⟨_,g,rfl⟩,h _ g ⟨_,Af _ (Au _ rfl),rfl,rfl⟩ (by rw[Fq,e]) λb o x=>Af _ (Af _ x)⟩
 .unfold argsOk;rw[signature?_of (n:=['_','_','t','i','n','i','_','_']) (o := "tcejbo".toList) (by kernel_rfl) F.owner_object]
  kernel_rfl
noncomputable def Vt(z:Str)(k:Nat):It:=
 ⟨λi _=>i<z.cps.size,λi H v a=>∃p c,H p=none/\v=.ref p/\a=upd H p (.tup [.int ((k+i:Nat):Int),.str ⟨#[c]⟩])/\z.cps[i]?=some c,λi _=>z.cps.size=i⟩
def Nr(z:Str)(J:Tok)(e f:Addr)(k:Nat)(x:e≠f):Turn P w K (.Tuple elts x1 tp) (Vt z k) [e,f] e (λi h=>(∃a,IsEnum h e f ((k+i:Nat):Int) a)/\h.IsStrIter f "str_ascii_iterator" z J i) where
 mem:=by simp
 obj:=λi h g b m=>by
  obtain⟨⟨a,j⟩,o,p,c,d⟩:=g;rcases Ba.mp m with z|z
  .subst z;exact⟨_,j,λv z=>by cases z⟩
  .rw[Ak.mp z];exact⟨o,p,λv z=>by rw[d]at z;cases z⟩
 keep:=λi h h' g M=>⟨let ⟨a,j⟩:=g.1;⟨a,M e (by simp) _ j⟩,let ⟨o,p,r⟩:=g.2;⟨o,M f (by simp) o p,r⟩⟩
 item:=by
  intro X G N W R i Y s U H E I B g O;subst G N W;obtain⟨⟨a,j⟩,l⟩:=g;have hi:i<z.cps.size:=O
  have D:=jA k (Draws.strAscii (prog:=X.prog) (w:=X.w) (A:=X.A.in1) (show X.A.in1.handled=none from I.ok.hd R) f z J)
  refine wpAny_pyNext_enum_itemD D (i:=k+i) j ⟨Gk _ _,by rw[Cv];exact l⟩ (by ((try clear x);omega)) x (λz=>x (Ak.mp z)) λy h1 L G p hS hT a1 M=>?_
  refine⟨_,rfl,wpAny_letOwnedTupleGo_enum p λZ Q n=>?_⟩;obtain⟨c,u,C,rfl⟩:=G;rw[Cv]at C;have F:=Fe (Av j)
  have S:s.heap.objs.size≠f:=by obtain⟨o,q,_⟩:=l;exact Fe (Av q)
  have T:=(n.2 _ F).trans hT
  have V:h1.IsStrIter f "str_ascii_iterator" z J (i+1):=by
   have q:=hS.2
   rwa [show k+i+1-k=i+1 by ((try clear F S a1 hi x);omega)]at q
  have I2:Inv X Y U (upd H s.heap.objs.size (.tup [.int ((k+i:Nat):Int),.str ⟨#[c]⟩])) {s with heap:=Z,toks:=L+1}:=by
   refine I.X9 (ch:=[e,f]) B (λb u m q=>(n.2 b (λz=>m (by simp[z]))).trans (M b u (λz=>m (by simp[z])) (λz=>m (by simp[z])) q)) (Nat.le_refl _) ⟨bJ (by show 2<=_;((try clear F S a1 hS hi x);omega)),[.int ((k+i:Nat):Int) L,.str ⟨#[c]⟩ u],.cons ⟨L,rfl⟩ (.cons ⟨u,rfl⟩ .nil),_,T,rfl,_,rfl⟩
  refine⟨.ref s.heap.objs.size,_,I2,rfl,⟨_,c,I.Z8.fresh (Ai _),rfl,rfl,C⟩,⟨⟨_,Q⟩,let ⟨o,p,r⟩:=V;⟨o,(n.2 f x.symm).trans p,r⟩⟩,λb m=>?_⟩
  rcases Ba.mp m with z|z
  .rw[z,aK F.symm];exact(B e (by simp)).1
  .rw[List.mem_singleton.mp z,aK S.symm];exact(B f (by simp)).1
 done:=by
  intro X G N W R i Y s U H E I B g O;subst G N W;have hx:=O
  obtain⟨⟨a,j⟩,l⟩:=g;have D:=jA k (Draws.strAscii (prog:=X.prog) (w:=X.w) (A:=X.A.in1) (show X.A.in1.handled=none from I.ok.hd R) f z J)
  refine wpAny_pyNext_enum_endD D j ⟨Gk _ _,by rw[Cv,hx];exact l⟩ λh' eb=>⟨rfl,?_⟩
  exact I.XN (t':=s.toks) (ch:=[e,f]) B λb u m q=>eb b u (λz=>m (by simp[z])) q
 self:=λ_ _ _ _ _ g h=>let ⟨⟨_,j⟩,_⟩:=g;Hm j h
section
variable {p kp:Pos}
def VW(R:Addr->Hp->Prop)(S:Str->Hp->Prop):List V->Hp->Prop:=λa H=>match a with|[.ref j]=>R j H|[.str z]=>S z H|_=>False
def DJ{R:Addr->Hp->Prop}{vs:List V}(q:VW R S vs H):(∃j,vs=[.ref j]/\R j H)\/(∃z,vs=[.str z]/\S z H):=by
 unfold VW at q;split at q
 .exact .inl ⟨_,rfl,q⟩
 .exact .inr ⟨_,rfl,q⟩
 simp_all
def Rr(K:W.Frag)(e d:TA):TI:=λU H R=>e U H (VW (λa c=>d U c (vH λk b=>(0<=k/\k<2^62)/\Ye (Z6 b a) (R (Xd K a k.toNat) b))) λz c=>d U c (vH λk b=>(0<=k/\k<2^62)/\z.cps.all (· < 128)=true/\R (Vt z k.toNat) b))
def BW{U:St}{c:Tok}(a:Inv X y0 U H1 s1)(d:IsEnum h' (s1.heap.objs.size+1) s1.heap.objs.size ((k:Nat):Int) .none)(f:h'.IsStrIter s1.heap.objs.size "str_ascii_iterator" z c 0)(i:h'.objs.size=s1.heap.objs.size+2)(e:∀b o,s1.heap.get? b=some o->h'.get? b=some o)(q:R (Vt z k) H1):wpAny (model X.prog X.w) X.A (pyIter (.ref (s1.heap.objs.size+1))) (UQ X y0 U (.Tuple elts x1 tp) R) E {s1 with heap:=h'}:=by
 refine Hm (s:={s1 with heap:=h'}) d ⟨_,[s1.heap.objs.size+1,s1.heap.objs.size],_,_,H1,rfl,a.kept (t':=s1.toks) e,Nr z c _ _ k (Nat.succ_ne_self _),⟨⟨_,d⟩,f⟩,λb g=>?_,q⟩
 have z:s1.heap.objs.size<=b:=by
  rcases Ba.mp g with z|z
  .rw[z];exact Hv _
  simp_all
 exact a.YO z (a.Z8.fresh z)
def RP{g:Expr}(M:Gl X "enumerate")(L:X.mg "enumerate"=none)(N:PA X [l] ta)(f:PK X [⟨some "start",g,kp⟩] tk)(hs:starEach [l] X.env=[(false,eval l X.env)]:=by rfl)(c:keywordEach [⟨some "start",g,kp⟩] X.env=[(some ("start" : Str),eval g X.env)]:=by rfl):PI X (.Tuple elts x1 tp) (.Call (.Name "enumerate" p) [l] [⟨some "start",g,kp⟩] pos) (Rr X.K ta tk):=by
 intro j s U H R I h;have b:backTo pos (starEach [l] X.env)=[(false,eval l X.env)]:=by rw[hs];rfl
 refine Dv (iF I M L boot_enumerate (qA (by rw[b];rfl) (by rw[c];rfl) ?_))
 rw[b];refine evalArgs_kwB (by rw[c];rfl) ?_
 rw[<-b];refine ZY (N pos j s U H _ I h) λV w ⟨T,A,y,x,E⟩=>?_;have e:(backToKw pos (keywordEach [⟨some "start",g,kp⟩] X.env)).filterMap (·.1)=(["start"]:List Str):=by rw[c];rfl
 rcases DJ E with⟨a,rfl,q⟩|⟨z,rfl,q⟩
 .refine ZY (f pos j w U A _ y q) λC D ⟨B,Q,i,n,o⟩=>?_;obtain⟨k,rfl,⟨G,F⟩,q⟩:=qP o;obtain⟨u,rfl,m⟩:=dL x;cases m;obtain⟨u,rfl,t,rfl⟩:=dL n;unfold Ye at q;split at q
  .rename_i S P
   obtain⟨J,Y,p,d⟩:=i.list (bG P);rw[e];refine qD (by unfold Builtin.SmallTypes.fitsIndex;rw[Ao (by ((try clear d);omega)),Ao (by ((try clear d);omega))];rfl) p.isList λO v r d f=>Sz i (k:=k.toNat) ?_ r d f q
   rw[show ((k.toNat:Nat):Int)=k by ((try clear d);omega)]
   exact v
  .exact q.elim
 .refine ZY (f pos j w U A _ y q) λC D ⟨B,Q,i,n,o⟩=>?_;obtain⟨k,rfl,⟨G,F⟩,d,q⟩:=qP o;obtain⟨u,rfl,m⟩:=dL x;obtain⟨W,rfl⟩:=m;obtain⟨u,rfl,t,rfl⟩:=dL n;rw[e];refine zM d (by unfold Builtin.SmallTypes.fitsIndex;rw[Ao (by omega),Ao (by omega)];rfl) λO v r d f=>BW i (k:=k.toNat) ?_ r d f q
  rw[show ((k.toNat:Nat):Int)=k by ((try clear d);omega)]
  exact v
end
section
variable {U U0:St}
def Jr(f:Nat->Nat->Option V)(L:z.length<sizeLine)(hs:∀i c d p A (B:Hp->Prop),z.cps.toList[i]?=some c->Same H1 d->d p=none->(∀a,Same (upd d p (.tup [.int ((k+i:Nat):Int),.str ⟨#[c]⟩])) a->match f i c with|some y=>A y a|none=>B a)->
 g (.ref p) U0 (upd d p (.tup [.int ((k+i:Nat):Int),.str ⟨#[c]⟩])) λw K=>Wk U0 w/\tests w K λb I=>if b=true then te w I A else B I)(u:∀D a,H1 D=none->Same H1 a->Z6 a D=some ((List.range z.length).filterMap λi=>f i (z.cps.toList.getD i 0))->Q (.ref D) a):dJ g tests te U0 Q (Vt z k) H1:=by
 intro D t;have r:z.cps.size=z.length:=rfl
 refine⟨λi m d=>m=z.length-i/\i<=z.length/\Same H1 d/\d D=some (.lst ((List.range i).filterMap λi=>f i (z.cps.toList.getD i 0))),⟨z.length,by simp,Nat.zero_le _,aE t _,by rw[aG];rfl⟩,?_⟩
 rintro i m d ⟨rfl,M,n,l⟩;by_cases h:i<z.length
 .refine .inr ⟨h,λv N y=>?_⟩;obtain⟨q,c,s,rfl,rfl,J⟩:=y;have E:z.cps.toList[i]?=some c:=by rw[Dq];exact J
  have F:z.cps.toList.getD i 0=c:=by rw[Ah,E];rfl
  refine hs i c d q _ _ E n s λa x=>?_;have j:=x _ _ (aE s _ _ _ l)
  have C:=n.trans ((aE s _).trans x)
  cases e:f i c with
  |some y=>
   refine⟨_,j,?_,z.length-(i+1),by ((try clear F L M);omega),rfl,h,λb o G=>?_,?_⟩
   .have:=Cz (λi=>f i (z.cps.toList.getD i 0)) (List.range i)
    rw[Cj]at this;((try clear F M);omega)
   .rw[aK (bN G t)];exact C b o G
   .rw[aG,Cp,Bu,Cc (b:=y) (by rw[F,e]),Cq]
  |none=>
   refine⟨z.length-(i+1),by ((try clear F L M);omega),rfl,h,C,?_⟩
   rw[j,Cp,Bu,Cg (by rw[F,e]),Cq,Bt]
 .have e:i=z.length:=by ((try clear L);omega)
  subst e;exact .inl ⟨r,u D d t n (aO l)⟩
def AF(h:ta U H (VW (λa c=>tk U c (vH λk b=>(0<=k/\k<2^62)/\Ye (Z6 b a) (R (Xd K a k.toNat) b))) λz c=>tk U c (vH λk b=>(0<=k/\k<2^62)/\z.cps.all (· < 128)=true/\R (Vt z k.toNat) b))):Rr K ta tk U H R:=h
def GI(h:Q (.int (-i)) H):TZ (.int i) H Q:=h
def Ig{R:Addr->Hp->Prop}(h:R a H):VW R S [.ref a] H:=h
def DY{R:Addr->Hp->Prop}(h:S z H):VW R S [.str z] H:=h
end
end
section
variable {a b:Expr} {ta tb:TE} {rest:List Expr}
noncomputable def S9:Value->Bool
 |.none=>true
 |_=>false
def Ow{x:V}(f:cQ x=true)(r:RelV x u):X0 x .non=S9 u:=by
 cases x with
 |non=>cases r;rfl
 |bl b=>cases r;rfl
 |int i=>obtain⟨t,rfl⟩:=r;rfl
 |str i=>obtain⟨t,rfl⟩:=r;rfl
 |byt i=>cases f
 |flt i=>cases f
 |ref i=>cases f
 |ty i=>cases f
def OZ:V->List V->Hp->VK->Prop:=λx b H Q=>∃(p:Addr) (a:List V) (j:Nat),x=.ref p/\b=[.non]/\Z6 H p=some a/\a.all cQ=true/\a[j]?=some .non/\(∀i y,i<j->a[i]?=some y->y≠.non)/\Q (.int (j:Int)) H
def GA:Yu X "list.index" OZ:=by
 intro y0 s U H x vs v us Q I K L h;obtain⟨p,g,j,rfl,rfl,P,S,C,W,q⟩:=h;cases K;obtain⟨u,rfl,i⟩:=L.one;cases i;obtain⟨a,r,M,N⟩:=I.list (bG P);obtain⟨⟨c,Z,Y,J⟩,A,V,n,T⟩:=M.isList;obtain rfl:c=.type "list" := V;obtain rfl:Y=.seq a.toArray n:=T;have B:=r.length
 have R:=(Ag.mp C).1
 have hn:=kW
 have e:∀m (d:m<a.length),∃x,g[m]?=some x/\cQ x=true/\RelV x a[m]:=λm d=>by
  have b:m<g.length:=by ((try clear N R hn);omega)
  obtain⟨u,w,i⟩:=r.get (Aa b);rw[Aa d]at w;cases w;exact⟨_,Aa b,Bv.mp S _ (Co _),i⟩
 have G:∀m (d:m<a.length) x,g[m]?=some x->S9 a[m]=X0 x .non:=λm d x O=>by
  obtain⟨y,f,E,t⟩:=e m d;rw[O]at f;cases f;exact(Ow E t).symm
 refine Fl Fu ⟨_,A,rfl⟩ PySem.F.entry_list_index (PySem.F.args_list_index_2 _ _) (SeqAt.list_indexAt p a.toArray n Z J .none S9 j (by rw[Az];((try clear N hn);omega)) (by omega) ?_ ?_) ⟨A,λy f=>?_,⟨.int j,H,I.tok _,⟨_,rfl⟩,q⟩⟩
 .rw[Gj,G j (by ((try clear N hn);omega)) _ C]
  rfl
 .intro m d l;have b:m<a.length:=by rw[Az]at d;exact d
  obtain⟨y,f,E,t⟩:=e m b;rw[Gj,G m b _ f];have:=W m y l f
  cases y with
  |non=>exact absurd rfl this
  |_=>rfl
 .have k:y∈a:=by simpa using f
  obtain⟨m,d,rfl⟩:=Dj.mp k;obtain⟨z,N,D,o⟩:=e m d;rw[<-Ow D o];exact rY o (show RelV .non .none from rfl) D rfl
def QP:List V->Hp->VK->Prop:=λa H Q=>∃z,a=[.str z]/\z.length<=sizeLine/\∀l,H l=none->Q (.ref l) (upd H l (.lst (z.cps.toList.map λc=>.str ⟨#[c]⟩)))
def J5(d:X.calm=true):ZU X (.type "list") QP:=by
 intro p s U H v y Q I r h;obtain⟨z,rfl,g,q⟩:=h;obtain⟨u,rfl,t,rfl⟩:=dL r;refine call_list_str (I.ok.hd d) z t (λn i e o l m a=>?_) g;have b:z.cps.toList.length=z.length:=by simp[Str.length]
 refine⟨.ref s.heap.objs.size,_,I.laid (t':=i) l (Ai _) (show ZW X.prog X.w _ n _ (.lst (z.cps.toList.map λc=>.str ⟨#[c]⟩)) from⟨by rw[Ac,b];exact g,e.toList,o,Sg ?_ λj x u f k=>?_,m⟩),rfl,q _ (I.Z8.fresh (Ai _))⟩
 .rw[Ac,b,Er,a.1];rfl
 .obtain⟨c,w,d,rfl⟩:=a.2 j u (by simp_all)
  rw[Ae,Dq,d]at f;cases f;exact⟨w,rfl⟩
section
variable {p:Addr}
def OJ{s:St}(f:Nat->Option V)(J:z.length<sizeLine)(hs:∀(i:Nat) c d A (B:Hp->Prop),z.cps.toList[i]?=some c->Same H1 d->(∀a,Same d a->match f c with|some y=>A y a|none=>B a)->
 g (.str ⟨#[c]⟩) s d λr G=>Wk s r/\tests r G λb x=>if b=true then te r x A else B x)(q:∀D a,H1 D=none->Same H1 a->a D=some (.lst (z.cps.toList.filterMap f))->Q (.ref D) a):dJ g tests te s Q (Xh z) H1:=by
 intro D p;have C:z.cps.size=z.length:=rfl
 have E:z.cps.toList.length=z.length:=by simp[Str.length]
 refine⟨λi m d=>m=z.length-i/\i<=z.length/\Same H1 d/\d D=some (.lst ((z.cps.toList.take i).filterMap f)),⟨z.length,by simp,Nat.zero_le _,aE p _,by rw[aG];rfl⟩,?_⟩
 rintro i m d ⟨rfl,K,l,k⟩;by_cases h:i<z.length
 .refine .inr ⟨h,λv I y=>?_⟩;obtain⟨rfl,c,F,rfl⟩:=y;have n:z.cps.toList[i]?=some c:=by rw[Dq];exact F
  refine hs i c I _ _ n l λa t=>?_;have j:=t _ _ k
  have u:=l.trans t
  cases e:f c with
  |some y=>
   refine⟨_,j,?_,z.length-(i+1),by ((try clear J K);omega),rfl,h,λb o w=>?_,?_⟩
   .have:=Cz f (z.cps.toList.take i)
    rw[Bi]at this;((try clear K);omega)
   .rw[aK (bN w p)];exact u b o w
   .rw[aG,Bf,n,Bu];show some (HO.lst (_++[y]))=some (HO.lst (_++[c].filterMap f))
    rw[Cc e,Cq]
  |none=>
   refine⟨z.length-(i+1),by ((try clear J K);omega),rfl,h,u,?_⟩
   rw[j,Bf,n,Bu];show some (HO.lst _)=some (HO.lst (_++[c].filterMap f))
   rw[Cg e,Cq,Bt]
 .have e:i=z.length:=by ((try clear J);omega)
  subst e;refine .inl ⟨Ai _,q D d p l ?_⟩;rw[k,Bd (by (assumption))]
def HP{r:St}(f:Nat->Option V)(C:n<sizeLine)(hs:∀i d A (B:Hp->Prop),i<n->Same H1 d->(∀a,Same d a->match f i with|some y=>A y a|none=>B a)->
 g (.int (lo+i)) r d λq x=>Wk r q/\tests q x λb w=>if b=true then te q w A else B w)(p:∀D a,H1 D=none->Same H1 a->a D=some (.lst ((List.range n).filterMap f))->Q (.ref D) a):dJ g tests te r Q (XR lo n) H1:=by
 intro D l;refine⟨λi m d=>m=n-i/\i<=n/\Same H1 d/\d D=some (.lst ((List.range i).filterMap f)),⟨n,by simp,Nat.zero_le _,aE l _,by rw[aG];rfl⟩,?_⟩
 rintro i m d ⟨rfl,E,k,j⟩;by_cases c:i<n
 .refine .inr ⟨c,λv z y=>?_⟩;obtain⟨rfl,rfl⟩:=y;refine hs i z _ _ c k λa s=>?_;have h:=s _ _ j
  have t:=k.trans s
  cases e:f i with
  |some y=>
   refine⟨_,h,?_,n-(i+1),by ((try clear C E);omega),rfl,c,λb o u=>?_,?_⟩
   .have:=Cz f (List.range i)
    rw[Cj]at this;((try clear E);omega)
   .rw[aK (bN u l)];exact t b o u
   .rw[aG,Cp,Bu,Cc e,Cq]
  |none=>
   refine⟨n-(i+1),by ((try clear C E);omega),rfl,c,t,?_⟩
   rw[h,Cp,Bu,Cg e,Cq,Bt]
 .have e:i=n:=by ((try clear C);omega)
  subst e;exact .inl ⟨Ai _,p D d l k j⟩
def G_(e:Z6 H p=some xs)(f:xs.all cQ=true)(a:xs[j]?=some .non)(b:∀i y,i<j->xs[i]?=some y->y≠.non)(h:Q (.int (j:Int)) H):OZ (.ref p) [.non] H Q:=⟨p,xs,j,rfl,rfl,e,f,a,b,h⟩
def IQ(a:z.length<=sizeLine)(h:∀l,H l=none->Q (.ref l) (upd H l (.lst (z.cps.toList.map λc=>.str ⟨#[c]⟩)))):QP [.str z] H Q:=⟨z,rfl,a,h⟩
end
end
def Oo(neg:Bool):R2:=λx y H Q=>∃a b,y=.ref a/\uD H a x b/\Q (.bl (if neg then !b.isSome else b.isSome)) H
def Mp(e:X.A.units+1<cLine):ZH X (compareOp .NotIn) (Oo true):=by
 intro i s U H x y v u Q I c b h;obtain⟨a,d,rfl,g,q⟩:=h;cases b;exact ML e I g c λj f=>⟨.bl _,H,f,rfl,q⟩
def O_:R2:=λx y H Q=>∃p q a,x=.ref p/\y=.ref q/\Z6 H p=some a/\Z6 H q=some []/\Q (.bl a.isEmpty) H
def SM(f:X.A.units<cLine):ZH X (compareOp .Eq) O_:=by
 intro E s U H x y v u Q I o n h;obtain⟨p,q,m,rfl,rfl,z,w,k⟩:=h;cases o;cases n;obtain⟨b,t,d,_⟩:=I.list (bG z);obtain⟨a,r,c,_⟩:=I.list (bG w);have i:=t.length
 have g:=r.length
 cases m with
 |nil=>
  have D:b.length=0:=i.symm
  have l:=g.symm
  refine SeqAt.eq_listAt (e:=λj=>true) d.isList c.isList (by simp only[List.size_toArray];((try clear D f l);omega)) f (λj C J=>?_) ?_
  .have B:j<b.length:=by simpa using C
   ((try clear f g i l);omega)
  .refine⟨.bl true,H,I,?_,k⟩;show Value.bool _=Value.bool true
   simp
 |cons G F=>
  rw[Be]at i;have l:a.length=0:=g.symm
  exact SeqAt.eq_list_lengthsAt d.isList c.isList (by simp only[List.size_toArray,bne_iff_ne];((try clear f g);omega)) f ⟨.bl false,H,I,rfl,k⟩
def kI{t:St}{xs:List V}(f:V->Option V)(F:Z6 H1 a=some xs)(J:xs.length<sizeLine)(hs:∀(i:Nat) x d A (B:Hp->Prop),xs[i]?=some x->Same H1 d->(∀c,Same d c->match f x with|some y=>A y c|none=>B c)->
 g x t d λs G=>Wk t s/\tests s G λb C=>if b=true then te s C A else B C)(r:∀D c,H1 D=none->Same H1 c->c D=some (.lst (xs.filterMap f))->Q (.ref D) c):dJ g tests te t Q (Xr K a) H1:=by
 intro D q;refine⟨λi m d=>m=xs.length-i/\i<=xs.length/\Same H1 d/\d D=some (.lst ((xs.take i).filterMap f)),⟨xs.length,by simp,Nat.zero_le _,aE q _,by rw[aG];rfl⟩,?_⟩
 rintro i m d ⟨rfl,L,l,k⟩;have p:=aQ l F
 by_cases h:i<xs.length
 .refine .inr ⟨⟨xs,xs[i],bG p,by simp[h]⟩,λv I y=>?_⟩
  obtain⟨rfl,E⟩:=y;have n:=E xs (bG p)
  refine hs i v I _ _ n l λc u=>?_;have j:=u _ _ k
  have w:=l.trans u
  cases e:f v with
  |some y=>
   refine⟨_,j,?_,xs.length-(i+1),by ((try clear J L);omega),rfl,h,λb o z=>?_,?_⟩
   .have:=Cz f (xs.take i)
    rw[Bi]at this;((try clear L);omega)
   .rw[aK (bN z q)];exact w b o z
   .rw[aG,Bf,n,Bu];show some (HO.lst (_++[y]))=some (HO.lst (_++[v].filterMap f))
    rw[Cc e,Cq]
  |none=>
   refine⟨xs.length-(i+1),by ((try clear J L);omega),rfl,h,w,?_⟩
   rw[j,Bf,n,Bu];show some (HO.lst _)=some (HO.lst (_++[v].filterMap f))
   rw[Cg e,Cq,Bt]
 .have e:i=xs.length:=by ((try clear J);omega)
  subst e;refine .inl ⟨⟨xs,bG p,Ai _⟩,r D d q l ?_⟩;rw[k,Bd (by (assumption))]
def Tb(e:Z6 H p=some xs)(a:Z6 H q=some [])(h:Q (.bl xs.isEmpty) H):O_ (.ref p) (.ref q) H Q:=⟨p,q,xs,rfl,rfl,e,a,h⟩
def Ja(e:Rd H a (.dK kvs))(h:Q (.bl (if neg then !(dE kvs (Sum.inr z)).isSome else (dE kvs (Sum.inr z)).isSome)) H):Oo neg (.str z) (.ref a) H Q:=⟨a,_,rfl,.inl ⟨kvs,.inr z,e,rfl,rfl⟩,h⟩
section
open PySem.Builtin PySem.Builtin.Str
def zU:∀l,Vals ((l.map (·.1)).map V.str) (strValues l)
 |[]=>.nil
 |p::r=>.cons ⟨p.2,rfl⟩ (zU r)
def Sd:V->List V->Hp->VK->Prop:=λx a H Q=>∃z y,x=.str z/\a=[.str y]/\(y.length==0)=false/\z.length+2<=sizeLine/\∀l,H l=none->Q (.ref l) (upd H l (.lst ((Txt.split z y).map V.str)))
def nX:Yu X "str.split" Sd:=by
 intro i s U H x r v w Q I j m h;obtain⟨z,y,rfl,rfl,f,o,q⟩:=h;obtain⟨t,rfl⟩:=j;obtain⟨u,rfl,n⟩:=m.one;obtain⟨u,rfl⟩:=n;have g:(partsBetween z (occurrences z y 0 z.length (z.length+1)) y.length).length<=sizeLine:=by
  have A:=StrLaws.occ_length_le z y 0 z.length (z.length+1)
  rw[length_partsBetween];omega
 have b:∀l k,l.map (·.1)=Txt.split z y->(Txt.split z y).length<=sizeLine->EP X i U Q (.ref s.heap.objs.size) {s with heap:=s.heap.push {cls:=.type "list",data:=.seq (strValues l).toArray},toks:=k}:=λl k e p=>
  ⟨.ref _,_,I.Xi (ys:=(Txt.split z y).map V.str) (t':=k) (by rw[<-e];exact zU l) (by rw[Ac];exact p),rfl,q _ I.fresh⟩
 cases c:(decide (z.length<y.length) || decide (strKind z<strKind y))
 .cases d:(occurrences z y 0 z.length (z.length+1)).isEmpty
  .have a:Txt.split z y=partsBetween z (occurrences z y 0 z.length (z.length+1)) y.length:=(if_neg (ne_true_of_eq_false c)).trans (if_neg (ne_true_of_eq_false d))
   refine Fl F.slot_str_split (Hr _ _ _) F.entry_str_split (F.args_str_split_2 _ _) (meets_str_split_sep z y t u c f d (by ((try clear g);omega)) g) ?_
   show wants _ _ _ {s with toks:=_,heap:=s.heap.push {cls:=.type "list",data:=.seq (strsFrom s.toks (partsBetween z (occurrences z y 0 z.length (z.length+1)) y.length)).toArray}}
   rw[strsFrom_eq];exact b (numbered s.toks _) _ ((numbered_texts _ _).trans a.symm) (by rw[a];exact g)
  .have a:Txt.split z y=[z]:=(if_neg (ne_true_of_eq_false c)).trans (if_pos d)
   exact Fl F.slot_str_split (Hr _ _ _) F.entry_str_split (F.args_str_split_2 _ _) (meets_str_split_not_found z y t u c f d)
    (b [(z,t)] s.toks a.symm (by rw[a];exact bJ (by show 1<=_;((try clear g o);omega))))
 .have a:Txt.split z y=[z]:=if_pos c
  exact Fl F.slot_str_split (Hr _ _ _) F.entry_str_split (F.args_str_split_2 _ _) (meets_str_split_cannot_occur z y t u c)
   (b [(z,t)] s.toks a.symm (by rw[a];exact bJ (by show 1<=_;((try clear g o);omega))))
def rK{y:Str}(a:(y.length==0)=false)(b:z.length<=10000)(h:∀l,H l=none->Q (.ref l) (upd H l (.lst ((Txt.split z y).map V.str)))):Sd (.str z) [.str y] H Q:=⟨z,y,rfl,rfl,a,bJ (by omega),h⟩
noncomputable def jc:List (List Nat)->List Nat
 |[]=>[]
 |[t]=>t
 |t::u::r=>t++32::jc (u::r)
def S6:∀L,(Str.join ⟨#[32]⟩ L).cps.toList=jc (L.map λz=>z.cps.toList)
 |[]=>rfl
 |[z]=>rfl
 |z::y::r=>by
  have e:Str.join ⟨#[32]⟩ (z::y::r)=z++⟨#[32]⟩++Str.join ⟨#[32]⟩ _:=rfl
  rw[e,FlT.ZK,FlT.ZK,S6 _]
  rw[Cw];rfl
def zS:∀t u a b,32∉t->32∉u->t++32::a=u++32::b->t=u/\a=b
 |[],[],a,b,_,_,h=>by injection h with _ h;exact⟨rfl,h⟩
 |[],c::u,a,b,_,h2,h=>by injection h with h _;exact absurd (by rw[h];exact Al) h2
 |c::t,[],a,b,h1,_,h=>by injection h with h _;exact absurd (by rw[<-h];exact Al) h1
 |c::t,d::u,a,b,h1,h2,h=>by
  injection h with e h
  obtain⟨g,f⟩:=zS t u a b (λm=>h1 (Am _ m)) (λm=>h2 (Am _ m)) h;grind
def N6:∀(L M:Q7),L≠[]->M≠[]->(∀t∈L,32∉t)->(∀t∈M,32∉t)->jc L=jc M->L=M
 |[],_,h,_,_,_,_=>absurd rfl h
 |_::_,[],_,h,_,_,_=>absurd rfl h
 |[t],[u],_,_,_,_,h=>by rw[show t=u from h]
 |[t],u::v::r,_,_,h1,_,h=>by
  have e:t=u++32::jc (v::r):=h
  exact absurd (by rw[e];exact Bg _ Al) (h1 t Al)
 |t::u::r,[v],_,_,_,h2,h=>by
  have e:t++32::jc (u::r)=v:=h
  exact absurd (by rw[<-e];exact Bg _ Al) (h2 v Al)
 |t::u::r,v::w::q,_,_,h1,h2,h=>by
  obtain⟨c,b⟩:=zS t v _ _ (h1 t Al) (h2 v Al) h;rw[c,N6 (u::r) (w::q) (λz=>nomatch z) (λz=>nomatch z) (λx a=>h1 x (Am _ a)) (λx a=>h2 x (Am _ a)) b]
def Pc(x y:Str):Txt.split x y≠[]:=by
 unfold Txt.split;split
 .exact λz=>nomatch z
 .split
  .exact λz=>nomatch z
  .intro z;have:=Ds List.length z
   rw[length_partsBetween]at this;cases this
def AB(j:L≠[])(k:∀z∈L,32∉z.cps.toList):Txt.split (Txt.join ⟨#[32]⟩ L) ⟨#[32]⟩=L:=by
 have e:=StrLaws.join_split (Txt.join ⟨#[32]⟩ L) ⟨#[32]⟩
 have g:=StrLaws.split_free (Txt.join ⟨#[32]⟩ L) 32
 have f:=Pc (Txt.join ⟨#[32]⟩ L) ⟨#[32]⟩
 have l:Txt.join ⟨#[32]⟩ L=Str.join ⟨#[32]⟩ L:=StrLaws.glued_eq_join _ _
 generalize Txt.split (Txt.join ⟨#[32]⟩ L) ⟨#[32]⟩=M at e g f ⊢;rw[l]at e;have i:=Ds (λz=>z.cps.toList) e
 rw[S6,S6]at i;have q:=N6 _ _ (by intro z;exact f (Et.mp z)) (by intro z;exact j (Et.mp z)) (λt d=>by grind) (λt d=>by obtain⟨z,c,rfl⟩:=Bw.mp d;exact k z c) i
 exact List.map_inj_right (λa b h=>FlT.Zm h) |>.mp q
end
def Oq:List V->Hp->VK->Prop:=λc H Q=>∃(p:Addr) (b:List Int),c=[.ref p]/\Z6 H p=some (b.map V.int)/\0<b.length/\∀m,m∈b->(∀a∈b,m<=a)->Q (.int m) H
def LX(G:X.calm=true):ZU X (.builtin "min") Oq:=by
 intro M s U H N O Q I r h;obtain⟨p,d,rfl,D,S,q⟩:=h;obtain⟨u,rfl,n⟩:=dL r;cases n;obtain⟨c,x,C,R⟩:=I.list (bG D);have w:=C.isList
 have k:p<s.heap.objs.size:=by obtain⟨_,e,_⟩:=w;exact Av e
 have f:c.length=d.length:=by have:=x.length;rw[Ac]at this;((try clear R S k);omega)
 have l:∀i v,c.toArray[i]?=some v->∃t,v=Value.int (d.getD i 0) t:=λi v o=>by
  have g:c[i]?=some v:=by simpa using o
  have z:i<d.length:=by rw[<-f];exact(Ag.mp g).1
  obtain⟨u,y,n⟩:=x.get (show (d.map V.int)[i]?=some (.int d[i]) by rw[Ae,Aa z];rfl)
  rw[g]at y;cases y;obtain⟨t,rfl⟩:=n;exact⟨t,by rw[Ah,Aa z];rfl⟩
 refine call_min_walk (Dp w ?_);refine⟨s.heap.objs.size,[s.heap.objs.size,p],[s.heap.objs.size],c.toArray.size,_,_,_,rfl,Walks.list (A:=X.A.in1) (I.ok.hd G) _ p (Bb k) c.toArray,
  ⟨⟨_,Au _ rfl,rfl,rfl⟩,w.push _⟩,λb m=>?_,by rw[Az];((try clear R k);omega),CmpOf.ints_lt (λi=>d.getD i 0) l,λv T P o E=>?_⟩
 .rw[show ({s with heap:=_}:Shared).heap=_ from rfl]
  simp only[List.mem_cons,List.not_mem_nil,or_false]at m;rcases m with e|e
  .rw[e];simp[Heap.push]
  .rw[e];exact Nat.lt_of_lt_of_le k (by simp[Heap.push])
 .obtain⟨t,rfl⟩:=l _ _ o;obtain⟨K,B⟩:=argBest_lt (λi=>d.getD i 0) (c.toArray.size-1);rw[Az,f]at K B;have m:argBest (λi j=>decide (d.getD i 0<d.getD j 0)) (c.toArray.size-1)<d.length:=by rw[Az,f];((try clear R k);omega)
  refine⟨.int _,H,I.kept (LSm.kept_iter E),⟨_,rfl⟩,q _ ?_ λa J=>?_⟩
  .rw[Ah,Aa m];exact Co _
  .obtain⟨j,F,e⟩:=Dj.mp J;have:=B j (by ((try clear K R e k m);omega))
   rw[Az,f];rw[<-e];have L:d.getD j 0=d[j]:=by rw[Ah,Aa F];rfl
   rw[<-L];exact this
def Lr{ns:List Int}(e:Z6 H p=some (ns.map V.int))(b:0<ns.length)(h:∀m,m∈ns->(∀a∈ns,m<=a)->Q (.int m) H):Oq [.ref p] H Q:=⟨p,ns,rfl,e,b,h⟩
def IM{id:String}{b:List _}{c:List _}{Q:Q2}(i:b.any (·.1)=false)(g:c.any (·.1.isNone)=false)(h:wpAny M A (evalArgs (.builtin id) true b c) (λa d=>wpAny M A (call (.builtin id) a.pos a.kw) Q E d) E s):wpAny M A (callWith pos (.builtin id) [] b c) Q E s:=by
 refine Ad (By (Ck h (λa d e=>Ad (Ew ?_)) λ_ _ x=>x));rw[i,g];exact Ad (Ap (Ad (Ck e (λr j f=>Ad (By (wpAny_point (Ap f)))) λ_ _ x=>x)))
section
variable {a b c:Expr} {p:Pos}
noncomputable def wO(a b:Int):Nat:=(a-b).toNat
def Oa(a b:Int):Builtin.Range.rangeSize a b (-1)=((wO a b:Nat):Int):=by
 unfold Builtin.Range.rangeSize wO;grind
def Mr(h1:-1000000<=lo)(e:lo<=1000000)(d:-1000000<=hi)(c:hi<=1000000):Builtin.Range.small lo hi (-1)=true:=by
 have a:=Oa lo hi
 unfold Builtin.Range.small;rw[a];unfold wO;simp only[Builtin.Range.rangeFitsLong,Bool.and_eq_true,Bool.or_eq_true,decide_eq_true_eq,beq_iff_eq];grind
def QT(a:TA):TI:=λU H R=>a U H (VD λi j k b=>(-1000000<=i/\i<=1000000/\-1000000<=j/\j<=1000000/\k=-1)/\R (VG i (-1) (wO i j)) b)
def C9{U:St}{t u v:Tok}{a:Nat}(I:Inv X y0 U H s)(h1:-1000000<=lo)(h:lo<=1000000)(g:-1000000<=hi)(f:hi<=1000000)(q:R (VG lo (-1) (wO lo hi)) H):wpAny (model X.prog X.w) X.A (pyIter (.ref s.heap.objs.size)) (UQ X y0 U tg R) E {s with heap:=s.heap.push {cls:=.type "range",data:=.fields #[.int lo t,.int hi u,.int (-1) v]},toks:=a}:=by
 refine wpAny_pyIter_range (IsRange.new ..) (Mr h1 h g f) ?_;have c:Inv X y0 U H {s with heap:=s.heap.push {cls:=.type "range",data:=.fields #[.int lo t,.int hi u,.int (-1) v]},toks:=a}:=I.kept λb o e=>Af _ e
 refine⟨(s.heap.push {cls:=.type "range",data:=.fields #[.int lo t,.int hi u,.int (-1) v]}).objs.size,[(s.heap.push {cls:=.type "range",data:=.fields #[.int lo t,.int hi u,.int (-1) v]}).objs.size],_,_,H,rfl,
  c.kept  λb o e=>Af _ e,GN _ lo (-1) _,?_,λb d=>?_,q⟩
 .have j:lo+((0:Nat):Int)*(-1)=lo:=by simp
  have i:((wO lo hi:Nat):Int)-((0:Nat):Int)=Builtin.Range.rangeSize lo hi (-1):=by rw[Oa];simp
  rw[j,i];exact Au _ rfl
 .have e:b=(s.heap.push {cls:=.type "range",data:=.fields #[.int lo t,.int hi u,.int (-1) v]}).objs.size:=by simpa using d
  subst e;exact c.YO (Ai _) (c.Z8.fresh (Ai _))
def DC(w:Gl X "range")(v:X.mg "range"=none)(x:PA X [a,b,c] ta)(hs:starEach [a,b,c] X.env=[(false,eval a X.env),(false,eval b X.env),(false,eval c X.env)]:=by rfl)(f:starEach [b,c] X.env=[(false,eval b X.env),(false,eval c X.env)]:=by rfl):PI X tg (.Call (.Name "range" p) [a,b,c] [] pos) (QT ta):=by
 intro l s U H R I h;refine Call_ (iF I w v boot_range (Dg (ZY (x pos l s U H _ I h) λE G ⟨D,J,C,n,u⟩=>?_) (by rw[hs,f]) (by rw[f];rfl)))
 obtain⟨i,j,k,e,⟨B,A,z,y,rfl⟩,q⟩:=LQ u;subst e;cases n with
 |cons r d=>
  cases d with
  |cons o d=>
   cases d with
   |cons g d=>
    cases d;obtain⟨t,rfl⟩:=r;obtain⟨F,rfl⟩:=o;obtain⟨m,rfl⟩:=g;exact call_range_3 (by ((try clear A B y z);omega)) (C9 C B A z y q) (Or.inl (PyProof.noPylong_small (by ((try clear A B y z);omega))))
def MZ(h:ta U H (VD λi j k a=>(-1000000<=i/\i<=1000000/\-1000000<=j/\j<=1000000/\k=-1)/\R (VG i (-1) (wO i j)) a)):QT ta U H R:=h
end
section
variable {U0:St}
def gK{f:Nat->Option V}{i:Nat}{y:V}(h:f i=some y):(List.range (i+1)).filterMap f=(List.range i).filterMap f++[y]:=by
 rw[Cp,Bu,Cc h,Cq]
def jK{f:Nat->Option V}{i:Nat}(h:f i=none):(List.range (i+1)).filterMap f=(List.range i).filterMap f:=by
 rw[Cp,Bu,Cg h,Cq,Bt]
def eO{xs:List V}(f:Nat->Option V)(p:Z6 H1 a=some xs)(z:xs.length<sizeLine)(hs:∀i x d A (B:Hp->Prop),xs[i]?=some x->Same H1 d->(∀y,f i=some y->∀c,Same d c->A y c)->(f i=none->∀c,Same d c->B c)->
 g x U0 d λs E=>Wk U0 s/\tests s E λb t=>if b=true then te s t A else B t)(q:∀D c,H1 D=none->Same H1 c->c D=some (.lst ((List.range xs.length).filterMap f))->Q (.ref D) c):dJ g tests te U0 Q (Xr K a) H1:=by
 refine fO (n:=xs.length) (λD i k d=>Same H1 d/\k=(List.range i).filterMap f) z (λD m=>⟨aE m _,rfl⟩)
  (λD i k d _ r h=>⟨xs,xs[i],bG (aQ r.1 p),by simp⟩) (λD k d _ r=>⟨xs,bG (aQ r.1 p),Nat.le_refl _⟩) ?_ ?_
 .rintro D i k d x F A B m G ⟨j,rfl⟩ e ⟨rfl,u⟩ o C;refine hs i x F A B (u xs (bG (aQ j p))) j (λy v c l=>?_) (λw c l=>?_)
  .exact o _ _ (l _ _ e) ⟨bQ m (j.trans l),(gK v).symm⟩
  .exact C _ (l _ _ e) ⟨j.trans l,(jK w).symm⟩
 simp_all
end
def QL:R2:=λx y H Q=>∃z n,x=.str z/\y=.int n/\0<=n/\n<=1000/\z.length<=1000/\Q (.str (Txt.mul z n)) H
def R9:ZH X (binaryOp .Mult) QL:=by
 intro e s U H x y v u Q I c b h;obtain⟨z,n,rfl,rfl,j,i,d,q⟩:=h;obtain⟨t,rfl⟩:=c;obtain⟨a,rfl⟩:=b;refine SB.mul ⟨?_,λ_ _=>?_,λ_ _=>?_⟩ λa k=>⟨.str _,H,I.tok _,⟨_,rfl⟩,q⟩
 .rw[An (by ((try clear d);omega)),An (by ((try clear d);omega))];rfl
 .rename_i g _
  have:(1000:Int)<=(2^63-1) / n:=(Int.le_ediv_iff_mul_le (by ((try clear d);omega))).mpr (by ((try clear d);omega))
  ((try clear g i j);omega)
 .have:z.length*n.toNat<=1000*1000:=Nat.mul_le_mul d (by ((try clear d);omega))
  unfold Builtin.Str.tooLong;have f:=Hh
  simp;(exact Nat.le_trans (by assumption) (by decide))
def TF{n:Int}(h1:0<=n)(b:n<=1000)(a:z.length<=1000)(h:Q (.str (Txt.mul z n)) H):QL (.str z) (.int n) H Q:=⟨z,n,rfl,rfl,h1,b,a,h⟩
section
open PySem.Builtin PySem.Builtin.Str
noncomputable def Vj(z y:Str):List V:=[.str (Txt.partition z y).1,.str (Txt.partition z y).2.1,.str (Txt.partition z y).2.2]
def xX:V->List V->Hp->VK->Prop:=λx a H Q=>∃z y,x=.str z/\a=[.str y]/\(y.length==0)=false/\z.length<=sizeLine/\∀p,H p=none->Q (.ref p) (upd H p (.tup (Vj z y)))
def MA:Yu X "str.partition" xX:=by
 intro l s U H x m v n Q I d f h;obtain⟨z,y,rfl,rfl,k,c,q⟩:=h;obtain⟨t,rfl⟩:=d;obtain⟨u,rfl,g⟩:=f.one;obtain⟨u,rfl⟩:=g;refine Fl F.slot_str_partition (Hr _ _ _) F.entry_str_partition (F.args_str_partition_2 _ _) (meets_str_partition z y t u k c) ?_;have a:Txt.partition z y=match occurrences z y 0 z.length 1 with|i::_=>(strSub z 0 i,y,strSub z (i+y.length) z.length)|[]=>(z,Str.empty,Str.empty):=rfl
 unfold Vj at q;cases e:occurrences z y 0 z.length 1 with
 |nil=>
  rw[e]at a;rw[a]at q;refine⟨.ref s.heap.objs.size,_,I.laid (t':=_) (o:=.tup [.str z,.str Str.empty,.str Str.empty]) (λb j q=>Af _ q) (Ai _) ?_,rfl,q _ I.fresh⟩;exact⟨bJ (by show 3<=_;((try clear c);omega)),[.str z t,.str Str.empty s.toks,.str Str.empty s.toks],.cons ⟨_,rfl⟩ (.cons ⟨_,rfl⟩ (.cons ⟨_,rfl⟩ .nil)),_,Au _ rfl,rfl,_,rfl⟩
 |cons i r=>
  rw[e]at a;rw[a]at q;refine⟨.ref s.heap.objs.size,_,I.laid (t':=_) (o:=.tup [.str (strSub z 0 i),.str y,.str (strSub z (i+y.length) z.length)]) (λb j q=>Af _ q) (Ai _) ?_,rfl,q _ I.fresh⟩;exact⟨bJ (by show 3<=_;((try clear c);omega)),[.str (strSub z 0 i) s.toks,.str y u,.str (strSub z (i+y.length) z.length) (s.toks+1)],.cons ⟨_,rfl⟩ (.cons ⟨_,rfl⟩ (.cons ⟨_,rfl⟩ .nil)),_,Au _ rfl,rfl,_,rfl⟩
def A0{y:Str}(a:(y.length==0)=false)(b:z.length<=10000)(h:∀p,H p=none->Q (.ref p) (upd H p (.tup (Vj z y)))):xX (.str z) [.str y] H Q:=⟨z,y,rfl,rfl,a,bJ (by (exact Nat.le_trans (by assumption) (by decide))),h⟩
def Og:V->List V->Hp->VK->Prop:=λx a H Q=>∃z y,x=.str z/\a=[.str y]/\Q (.bl (Txt.startswith z y)) H
def HV:Yu X "str.startswith" Og:=by
 intro d s U H x e v f Q I a b h;obtain⟨z,y,rfl,rfl,q⟩:=h;obtain⟨t,rfl⟩:=a;obtain⟨u,rfl,c⟩:=b.one;obtain⟨u,rfl⟩:=c;exact SC.startswith ⟨.bl _,H,I,rfl,q⟩
def Qt{y:Str}{b:Bool}(e:Txt.startswith z y=b)(h:Q (.bl b) H):Og (.str z) [.str y] H Q:=⟨z,y,rfl,rfl,by rwa[e]⟩
def YH{y:Str}:Txt.startswith z y=true ↔ y.cps.toList <+: z.cps.toList:=by
 have e:Txt.startswith z y=(decide (0+y.length<=z.length)&&subAt z y 0):=rfl
 rw[e,StrLaws.subAt_eq,Bj,Bh,List.drop_zero,Fj];have a:∀w:Str,w.length=w.cps.toList.length:=λw=>by simp[Str.length]
 rw[a,a];constructor
 .rintro⟨_,h⟩;have t:=List.take_append_drop y.cps.toList.length z.cps.toList
  grind
 .rintro⟨r,h⟩;rw[<-h];simp
noncomputable def V1(c:Nat):List (List Nat)->List Nat
 |[]=>[]
 |[t]=>t
 |t::u::r=>t++c::V1 c (u::r)
def vV(c:Nat):∀L,(Str.join ⟨#[c]⟩ L).cps.toList=V1 c (L.map λz=>z.cps.toList)
 |[]=>rfl
 |[z]=>rfl
 |z::y::r=>by
  have e:Str.join ⟨#[c]⟩ (z::y::r)=z++⟨#[c]⟩++Str.join ⟨#[c]⟩ (y::r):=rfl
  rw[e,FlT.ZK,FlT.ZK,vV c _]
  rw[Cw];rfl
def Oy:∀t u a b,k∉t->k∉u->t++k::a=u++k::b->t=u/\a=b
 |[],[],a,b,_,_,h=>by injection h with _ h;exact⟨rfl,h⟩
 |[],c::u,a,b,_,h2,h=>by injection h with h _;exact absurd (by rw[h];exact Al) h2
 |c::t,[],a,b,h1,_,h=>by injection h with h _;exact absurd (by rw[<-h];exact Al) h1
 |c::t,d::u,a,b,h1,h2,h=>by
  injection h with e h
  obtain⟨g,f⟩:=Oy t u a b (λm=>h1 (Am _ m)) (λm=>h2 (Am _ m)) h;grind
def N2{c:Nat}:∀(L M:Q7),L≠[]->M≠[]->(∀t∈L,c∉t)->(∀t∈M,c∉t)->V1 c L=V1 c M->L=M
 |[],_,h,_,_,_,_=>absurd rfl h
 |_::_,[],_,h,_,_,_=>absurd rfl h
 |[t],[u],_,_,_,_,h=>by rw[show t=u from h]
 |[t],u::v::r,_,_,h1,_,h=>by
  have e:t=u++c::V1 c (v::r):=h
  exact absurd (by rw[e];exact Bg _ Al) (h1 t Al)
 |t::u::r,[v],_,_,_,h2,h=>by
  have e:t++c::V1 c (u::r)=v:=h
  exact absurd (by rw[<-e];exact Bg _ Al) (h2 v Al)
 |t::u::r,v::w::q,_,_,h1,h2,h=>by
  obtain⟨d,b⟩:=Oy t v _ _ (h1 t Al) (h2 v Al) h;rw[d,N2 (u::r) (w::q) (λz=>nomatch z) (λz=>nomatch z) (λx a=>h1 x (Am _ a)) (λx a=>h2 x (Am _ a)) b]
def Lx{c:Nat}{L:List Str}(k:L≠[])(l:∀z∈L,c∉z.cps.toList):Txt.split (Txt.join ⟨#[c]⟩ L) ⟨#[c]⟩=L:=by
 have f:=StrLaws.join_split (Txt.join ⟨#[c]⟩ L) ⟨#[c]⟩
 have i:=StrLaws.split_free (Txt.join ⟨#[c]⟩ L) c
 have g:=Pc (Txt.join ⟨#[c]⟩ L) ⟨#[c]⟩
 have m:Txt.join ⟨#[c]⟩ L=Str.join ⟨#[c]⟩ L:=StrLaws.glued_eq_join _ _
 generalize Txt.split _ ⟨#[c]⟩=M at f i g ⊢;rw[m]at f;have j:=Ds (λz=>z.cps.toList) f
 rw[vV,vV]at j;have q:=N2 _ _ (by simp_all) (by simp_all) (λt e=>by grind) (λt e=>by obtain⟨z,d,rfl⟩:=Bw.mp e;exact l z d) j
 exact List.map_inj_right (λa b h=>FlT.Zm h) |>.mp q
end
section
variable {jt dq:Addr} {n0:Nat} {en:Array DictEntry} {od:Obj}
def D_{Q:Option Value->Shared->Prop}(d:s.heap.IsKeyIter jt dq n0 en.size ep)(c:s.heap.get? dq=some od)(e:od.data=.dict en ep)(l:n0<en.size)(k:∀g,g.IsKeyIter jt dq (n0+1) en.size ep->Heap.SameBut jt s.heap g->Q (some en[n0].key) {s with heap:=g}):wpAny (model prog w) A (pyNext (.ref jt)) Q E s:=by
 obtain⟨n,a,m,f⟩:=id d
 have b:=d.typeIs
 refine Ad (Gv (wpAny_callSpecial?_slot  b Eo (Gp Eo b F.entry_dict_keyiterator_next ?_ (F.args_dict_keyiterator_next_1 _))));refine Ad (Ap (Ad (Ad ?_)));refine Ad (Em b (Ap (Ad (wpAny_fieldsOf a f ?_))))
 refine Ad (Ap (Ad (wpAny_dictEntries c e ?_)));rw[if_neg (by simp)]
 refine Ad (Ap (Ad (wpAny_dictEpoch c e ?_)));rw[if_neg (by simp)]
 refine Ap ?_;simp only[show ¬(_<0) by ((try clear l);omega),if_false,Int.toNat_natCast,Array.getElem?_eq_getElem l]
 refine Ad (Ad (Em b (Ap ?_)));refine Ad (wpAny_isOneOf_keyiter b ?_);show wpAny _ _ (setField _ 1 _ >>= _) _ _ s
 have i:(s.heap.update jt (Obj.mapFields (·.setIfInBounds 1 (rawInt ((n0:Int)+1))))).IsKeyIter jt dq (n0+1) en.size ep:=
  ⟨_,Heap.get?_update_self _ a (Obj.isFreed_of_fields (Obj.data_mapFields f _)),(Obj.cls_mapFields ..).trans m,by rw[Obj.data_mapFields f];simp[rawInt]⟩
 refine wpAny_bind (wpAny_setField a f (by simp) (wpAny_bind (wpAny_holding (wpAny_bind (wpAny_isOneOf_keyiter (s:={s with heap:=s.heap.update jt (Obj.mapFields (·.setIfInBounds 1 (rawInt ((n0:Int)+1))))}) i.typeIs ?_)))))
 exact Ap (Ap ⟨_,rfl,Ap (k _ i (Heap.SameBut.update ..))⟩)
def AG{Q:Option Value->Shared->Prop}(n:A.handled=none)(e:s.heap.IsKeyIter jt dq en.size en.size ep)(d:s.heap.get? dq=some od)(f:od.data=.dict en ep)(l:∀i,Heap.ExtBut jt s.heap i->Q none {s with heap:=i}):wpAny (model prog w) A (pyNext (.ref jt)) Q E s:=by
 obtain⟨o,c,p,j⟩:=id e;have k:Builtin.Dict_items.ownsTuple "dict_keyiterator"=false:=by decide
 have g:=e.typeIs
 unfold pyNext;refine Ad (Gv (wpAny_callSpecial?_slot (name:=Str.ofString "__next__") g Eo (Gp Eo g F.entry_dict_keyiterator_next ?_ (F.args_dict_keyiterator_next_1 _))));refine Ad (Ap (Ad (Ad ?_)));refine Ad (Em g (Ap (Ad (wpAny_fieldsOf c j ?_))))
 refine Ad (Ap (Ad (wpAny_dictEntries d f ?_)));rw[if_neg (by simp)]
 refine Ad (Ap (Ad (wpAny_dictEpoch d f ?_)));rw[if_neg (by simp)]
 refine Ap ?_;simp
 refine Ad (Ad (Em g (Ap ?_)));show wpAny _ _ (setField (.ref jt) 0 .none >>= _) _ _ s
 refine wpAny_bind (wpAny_setField c j (by simp) ?_)
 refine Ad ?_;refine wpAny_bind (wpAny_newObj_type (wpAny_bind (m:=firstArgMember _ _) (wpAny_of_eq (a:=Value.none) (by first|rfl|(simp;rfl)) (wpAny_newObj_type ?_ (by size_fits)))) (by size_fits))
 refine Ad (wpAny_handled (?_:_));rw[show A.in1.handled=none by exact n]
 refine Ad (Ap (wpAny_throw ?thr));case thr=>
  refine Ad (wpAny_isInstance (b:=true) (T := "StopIteration") ⟨_,Au _ rfl,rfl⟩ isSubtype_stop ?_);exact Ap (l _ (((Heap.SameBut.update ..).extBut.push _).push _))
end
noncomputable def T1(a:Addr)(o:Obj)(c:List (List Key×V)):It:=⟨λi H=>H a=some (.frz o (.dT c))/\i<c.length,λi H x e=>e=H/\∃d b,c[i]?=some d/\x=.ref b/\H b=some (.tup (d.1.map kV)),λi H=>H a=some (.frz o (.dT c))/\c.length=i⟩
def TX{U:St}{b:List _}(I:Inv X y0 U H s)(p:H a=some (.frz o (.dT b)))(j:∃f,o.data=.dict f ep):b.length<=sizeLine/\(a==sysModules)=false/\∃g f,KT H b g/\s.heap.get? a=some o/\o.data=.dict f ep/\o.ExactDict/\f.toList=g.map (entryOfKey (tupleKind (bL X.prog X.w))):=by
 have k:=I.Z8 a _ p
 obtain⟨e,z,n,g,h,u,r,t,d,l,c,m,_⟩:=k;rw[e]at d;cases d;obtain⟨f,i⟩:=j;have q:=c
 rw[i]at q;cases q;exact⟨z,n,g,_,h,e,c,l,m⟩
def CC(a x:Addr)(o:Obj)(p:List (List Key×V))(ep:Nat)(D:∃j,o.data=.dict j ep):Turn P w K tg (T1 a o p) [x] x (λi h=>h.IsKeyIter x a i p.length ep) where
 mem:=by simp
 obj:=λi h g b u=>by
  obtain⟨o,e,c,d⟩:=g;rw[Ak.mp u];exact⟨o,e,λv z=>by rw[d]at z;cases z⟩
 keep:=λi h L g k=>let ⟨o,A,r⟩:=g;⟨o,k x (by simp) o A,r⟩
 item:=by
  intro X T O W hc i y0 s U H E I G g R;subst T O W;obtain⟨S,F⟩:=R;obtain⟨z,hd,M,j,l,A,f,hx,J⟩:=TX I S D;have n:=l.length
  have m:j.size=M.length:=by rw[<-Er,J,Ac]
  obtain⟨f0,f1,f2,f3,Z,Y⟩:=G x (by simp)
  obtain⟨⟨k,b,v⟩,N,a1,Q,_⟩:=wC l (Aa F);have C:i<j.size:=by ((try clear f1 f3 z);omega)
  have B:j[i].key=.ref b:=by
   have q:j[i]?=some (entryOfKey (tupleKind (bL X.prog X.w)) (k,b,v)):=by rw[<-Dq,J,Ae,N];rfl
   rw[Array.getElem?_eq_getElem C]at q;rw[Ay q];rfl
  refine D_ (en:=j) (by rw[m,<-n];exact g) A f C λL y sb=>?_
  rw[B];have I1:=I.turned (t':=s.toks) (λb o u e=>(sb.2 b u).trans e) f0 f1 f3 Z Y
  obtain⟨oi,e,c,d⟩:=id y;refine⟨.ref b,rfl,qI (s:={s with heap:=L}) e c d (by decide) ⟨.ref b,H,I1,rfl,⟨rfl,p[i],b,Aa F,rfl,Q⟩,?_,λb u=>(G b u).1⟩⟩
  rw[n,<-m];exact y
 done:=by
  intro X T O W hc i y0 s U H E I G g R;subst T O W;obtain⟨S,F⟩:=R;obtain⟨z,hd,M,j,l,A,f,hx,J⟩:=TX I S D;have n:=l.length
  have m:j.size=M.length:=by rw[<-Er,J,Ac]
  obtain⟨f0,f1,f2,f3,Z,Y⟩:=G x (by simp)
  exact AG (en:=j) (I.ok.hd hc) (by rw[m,<-n];rw[<-F]at g;exact g) A f λL eb=>⟨rfl,I.turned (t':=s.toks) (λb o u e=>eb b o u e) f0 f1 f3 Z Y⟩
 self:=λ_ _ _ _ _ g h=>wpAny_pyIter_keyiter g h
section
variable {dq:Addr} {en:Array DictEntry} {od:Obj}
def BR{Q:Q2}(hs:(dq==sysModules)=false)(a:s.heap.get? dq=some od)(d:od.ExactDict)(b:od.data=.dict en ep)(e:Q (.ref s.heap.objs.size) {s with heap:=s.heap.push {cls:=.type "dict_keyiterator",data:=.fields #[.ref dq,.int 0 0,.int en.size 0,.int ep 0]}}):wpAny (model prog w) A (pyIter (.ref dq)) Q E s:=by
 have c:s.TypeIs (.ref dq) "dict" := ⟨od,a,d.1⟩
 refine wpAny_pyIter_slot c F.slot_dict_iter (Gp F.slot_dict_iter c F.entry_dict_iter ?_ (F.args_dict_iter_1 _));refine Ad ?_;refine Ad (wpAny_notOrdered_dict c ?_)
 refine Ap ?_;show wpAny _ _ (Builtin.Dict.showsAll dq >>= _) _ _ s
 unfold Builtin.Dict.showsAll;rw[if_neg (by simp_all)]
 refine Ad (Ap (Ad (wpAny_dictEntries a b (Ad (wpAny_dictEpoch a b ?_)))));refine Ad (Gf (Ap ⟨_,rfl, "dict_keyiterator",_,⟨_,Au _ rfl,rfl⟩,F.slot_dict_keyiterator_next.lookup,(?_:_)⟩))
 simpa [rawInt]using e
end
section
variable {U:St}
def FC{b:List _}(I:Inv X y0 U H s)(g:H a=some (.dT b)):∃o c d,s.heap.get? a=some o/\o.data=.dict c d:=by
 obtain⟨_,_,h,_,o,c,d,e,_,f,_⟩:=Rq I.Z8 g;exact⟨o,c,d,e,f⟩
def M0{b:List _}(I:Inv X y0 U H s)(i:H a=some (.frz o (.dT b))):∃d,∃c,o.data=.dict c d:=by
 have g:=I.Z8 a _ i
 obtain⟨e,_,_,j,_,k,c,d,f,_,h,_⟩:=g;grind
def uW(H:Hp)(a:Addr)(R:Obj->List (List Key×V)->Hp->Prop):Prop:=(∃b,H a=some (.dT b)/\∀o,R o b (upd H a (.frz o (.dT b))))\/∃o b,H a=some (.frz o (.dT b))/\R o b H
def EI{R:Obj->List _->Hp->Prop}(I:Inv X y0 U H s)(h:uW H a R):∃o b g e,Inv X y0 U g s/\g a=some (.frz o (.dT b))/\(∃d,o.data=.dict d e)/\R o b g:=by
 rcases h with⟨b,c,q⟩|⟨o,b,c,q⟩
 .obtain⟨o,d,e,i,f⟩:=FC I c;exact⟨o,b,_,e,I.freeze c rfl i,aG,⟨d,f⟩,q o⟩
 .obtain⟨e,d,f⟩:=M0 I c;exact⟨o,b,H,e,I,c,⟨d,f⟩,q⟩
def Rb(c:TE):TI:=λU H R=>c U H (gQ λa e=>uW e a λo b d=>R (T1 a o b) d)
def rC(u:PE X l tl):PI X tg l (Rb tl):=by
 intro m s U H R I h;refine ZY (u m s U H _ I h) λv i ⟨x,K,F,n,f⟩=>?_;unfold gQ at f;split at f
 .cases n;rename_i E _
  obtain⟨o,a,G,D,g,B,c,q⟩:=EI F f;obtain⟨z,y,J,C,j,r,d,p,w⟩:=TX g B c;have k:C.size=a.length:=by rw[<-Er,w,Ac,j.length]
  refine BR y r p d ?_;refine⟨i.heap.objs.size,[i.heap.objs.size],_,_,G,rfl,g.kept (t':=i.toks) λb o e=>Af _ e,CC E _ o a D c,⟨_,Au _ rfl,rfl,by rw[k];rfl⟩,λb A=>?_,q⟩
  rw[Ak.mp A];exact g.YO (Ai _) (g.Z8.fresh (Ai _))
 simp_all
def OE:V->List V->Hp->VK->Prop:=λx c H Q=>∃a y b,x=.ref a/\c=[y]/\uD H a y b/\Q (b.getD .non) H
end
section
variable {U:St} {kvs:List (List Key×V)} {k:List Key} {tb:TS}
def A7(c:Nat->St->Hp->Prop)(s:c 0 U H)(l:∀i U H,i<=kvs.length->c i U H->H a=some (.frz o (.dT kvs)))(hs:∀i f b U H,kvs[i]?=some f->H b=some (.tup (f.1.map kV))->c i U H->g (.ref b) U H λt u=>tb {D with nx:=c (i+1),ct:=c (i+1),bk:=D.nx} t u)(q:∀U H,c kvs.length U H->D.nx U H):WA (T1 a o kvs) g tb D U H:=by
 refine⟨λi m U H=>m=kvs.length-i/\i<=kvs.length/\c i U H,⟨kvs.length,by simp,Nat.zero_le _,s⟩,?_⟩
 rintro i m U H ⟨rfl,n,p⟩;have h:=l i U H n p
 by_cases d:i<kvs.length
 .refine .inr ⟨⟨h,d⟩,c (i+1),λw v j=>⟨kvs.length-(i+1),by ((try clear n);omega),rfl,d,j⟩,λx v y=>?_⟩
  obtain⟨rfl,f,b,k,rfl,r⟩:=y;exact hs i f b U _ k r p
 .have e:i=kvs.length:=by omega
  subst e;exact .inl ⟨⟨h,rfl⟩,q U H p⟩
def Jv(h:tl U H (gQ λa d=>uW d a λo b c=>R (T1 a o b) c)):Rb tl U H R:=h
def SR{b:Obj->List _->Hp->Prop}(e:H a=some (.dT kvs))(h:∀o,b o kvs (upd H a (.frz o (.dT kvs)))):uW H a b:=.inl ⟨kvs,e,h⟩
def Ab(h:∀p,H p=none->Q (.ref p) (upd H p (.dT []))):RD U H Q:=h
def Tt(e:Rd H a (.dT kvs))(c:H b=some (.tup (k.map kV)))(l:dE kvs k=some v)(h:Q v H):Ts (.ref a) (.ref b) H Q:=⟨a,v,rfl,.inr ⟨kvs,k,b,e,rfl,c,l.symm⟩,h⟩
def QI(e:H a=some (.dT kvs))(c:H b=some (.tup (k.map kV)))(l:kvs.length<sizeLine)(h:D.nx U (upd H a (.dT (eP kvs k v)))):S5 D U (.ref a) (.ref b) v H:=⟨a,_,rfl,.inr ⟨kvs,k,b,e,rfl,c,l,rfl⟩,h⟩
def KW(e:Rd H a (.dT kvs))(c:H b=some (.tup (k.map kV)))(h:Q ((dE kvs k).getD .non) H):OE (.ref a) [.ref b] H Q:=⟨a,_,_,rfl,rfl,.inr ⟨kvs,k,b,e,rfl,c,rfl⟩,h⟩
end
def Ki{Q:Int->Shared->Prop}(h:Q 0xFCA86420 {s with toks:=s.toks+1}):wpAny (model prog w) A (pyHash .none) Q E s:=by
 have a:s.TypeIs .none "NoneType" := rfl
 unfold pyHash pyHashByItsType;refine Ad ?_;rw[cRoomFor,if_neg (by decide)]
 refine Ap (Ad (wpAny_specialOf a F.slot_NoneType_hash.lookup ?_));show wpAny _ _ (if (some (Value.builtin "NoneType.__hash__")==some Value.none)=true then _ else _) Q E s
 rw[if_neg (by grind)]
 refine Ad (wpAny_specialOf a F.slot_NoneType_hash.lookup ?_);show wpAny _ _ (callSpecialIfBoundUnlessNone? .none "__hash__" _ >>= _) Q E s
 refine Ad (wpAny_callSpecialIfBoundUnlessNone?_slot a F.slot_NoneType_hash (Gp F.slot_NoneType_hash a F.entry_NoneType_hash (show wpAny _ _ (do ret (<-mkInt 0xFCA86420)) _ _ s from wpAny_ret_mkInt ?_) (F.args_NoneType_hash_1 _)))
 show wpAny _ _ (if (decide (-(2:Int)^63<=0xFCA86420)&&decide ((0xFCA86420:Int)<2^63))=true then _ else _) Q E _
 rw[if_pos (by decide)]
 exact Ap h
noncomputable def SW:Option Key->Value->Bool
 |none,.none=>true
 |none,_=>false
 |some k,v=>oO k v
def dM{v:Value}(h:SW none v=true):v=.none:=by
 cases v<;>first|rfl|(exact absurd h (by decide))|cases h
def pH{k:Key}{v:Value}(h:oO k v=true):v≠.none:=λz=>by
 rcases cM h with⟨i,t,_,e⟩|⟨x,t,_,e⟩ <;> rw[z]at e<;>cases e
noncomputable def Ke(w:World):Option Key->Int
 |none=>0xFCA86420
 |some k=>RW w k
noncomputable def Nj(prog:Program)(w:World):PySem.KeyKind prog w (Option Key) where
 is:=SW
 hash:=Ke w
 inj:=λv a b i g=>by
  cases a with
  |none=>
   cases b with
   |none=>rfl
   |some b=>exact absurd (dM i) (pH g)
  |some a=>
   cases b with
   |none=>exact absurd (dM g) (pH i)
   |some b=>exact Ds some ((bL prog w).inj v a b i g)
 byValue:=λk v h=>by
  cases k with
  |none=>rw[dM h];rfl
  |some k=>exact(bL prog w).byValue k v h
 pyHash:=fun {A E s k v Q} c h=>by
  cases k with
  |none=>rw[dM c];exact Ki h
  |some k=>exact(bL prog w).pyHash c h
 eqBool:=fun {A E s a b u v Q} f c h=>by
  cases a with
  |none=>
   rw[dM f];cases b with
   |none=>rw[dM c];exact SeqAt.EqAt.same _ _ _ _ _ (by simpa using h)
   |some b=>
    have d:Q false s:=by simpa using h
    rcases cM (show oO b v=true from c) with⟨j,t,_,rfl⟩|⟨y,t,_,rfl⟩
    .exact SeqAt.EqAt.none_int _ _ _ _ _ _ d
    .exact SeqAt.EqAt.none_str _ _ _ _ _ _ d
  |some a=>
   cases b with
   |none=>
    rw[dM c];have d:Q false s:=by simpa using h
    rcases cM (show oO a u=true from f) with⟨j,t,_,rfl⟩|⟨y,t,_,rfl⟩
    .exact SeqAt.EqAt.int_none _ _ _ _ _ _ d
    .exact SeqAt.EqAt.str_none _ _ _ _ _ _ d
   |some b=>
    refine(bL prog w).eqBool f c ?_;have e:decide (some a=some b)=decide (a=b):=Dy.mpr ⟨Ay,λz=>by rw[z]⟩
    rw[e]at h;exact h
 «strs» := λk x t v h=>by
  cases k with
  |none=>exact absurd (dM h) (λz=>nomatch z)
  |some k=>exact(bL prog w).strs k x t v h
def NB{f:Key->Option Value}(l:h.MapOf (bL prog w) a f):h.MapOf (Nj prog w) a (λk=>k.bind f):=by
 obtain⟨o,g,q,j,i,n,d,m⟩:=l;refine⟨o,g,q,j,i,n,λe b=>?_,λk=>?_⟩
 .obtain⟨k,c,p⟩:=d e b;exact⟨some k,c,p⟩
 .cases k with
  |some k=>exact m k
  |none=>
   show findBy SW g none=none
   unfold findBy;rw[Option.map_eq_none_iff,Array.find?_eq_none];intro e b z;obtain⟨k,c,_⟩:=d e b;exact pH c (dM z)
def FR:R2:=λx y H Q=>∃a,y=.ref a/\((∃c,uD H a x c/\Q (.bl c.isSome) H)\/(x=.non/\∃b,Rd H a (.dK b)/\Q (.bl false) H))
def JI(j:X.A.units+1<cLine):ZH X (compareOp .In) FR:=by
 intro o s U H x y v u Q I b c h;obtain⟨a,rfl,h⟩:=h;cases c;rcases h with⟨f,g,q⟩|⟨rfl,i,e,q⟩
 .exact Ij j I g b λr n=>⟨.bl f.isSome,H,n,rfl,q⟩
 .cases b;obtain⟨z,l,p,d,m⟩:=lX I.Z8 e;exact wpAny_in_of  (k:=none)  rfl l (NB m.mapOf) ⟨.bl false,H,I.tok _,rfl,q⟩
def QM(f:X.A.units+1<cLine):Yu X "dict.get" OE:=by
 intro j s U H x l v m Q I b c h;obtain⟨a,y,o,rfl,rfl,g,q⟩:=h;cases b;obtain⟨u,rfl,d⟩:=c.one;exact LP f I g d λk n i e=>⟨_,H,i,e,q⟩
def Ju:R2:=λx y H Q=>∃p q a b c d,x=.ref p/\y=.ref q/\H p=some (.tup [.int a,.int b])/\H q=some (.tup [.int c,.int d])/\Q (.bl (decide (a=c/\b=d))) H
def Nb(F:X.A.units<cLine):ZH X (compareOp .Eq) Ju:=by
 intro M s U H x y v u Q I w t h;obtain⟨p,q,a,b,c,d,rfl,rfl,J,G,k⟩:=h;cases w;cases t;obtain⟨E,B,D,_⟩:=I.tuple (YQ.of (K:=X.K) J);obtain⟨i,z,C,_⟩:=I.tuple (YQ.of (K:=X.K) G);obtain⟨R,P,rfl,⟨r,rfl⟩,⟨o,rfl⟩⟩:=B.two;obtain⟨O,N,rfl,⟨n,rfl⟩,⟨m,rfl⟩⟩:=z.two;refine SeqAt.eq_tupleAt (e:=λj=>if j=0 then a==c else b==d) (show s.heap.IsTuple p _ from D) (show s.heap.IsTuple q _ from C) F (λj f L=>?_) ?_
 .match j,f,L with
  |0,_,_=>exact SeqAt.EqAt.int_int a r c n
  |1,_,_=>exact SeqAt.EqAt.int_int b o d m
  |j+2,f,_=>exact absurd f (by show ¬j+2<2;((try clear F L f);omega))
 .refine⟨.bl (decide (a=c/\b=d)),H,I,?_,k⟩;show Value.bool _=Value.bool _
  congr 1
  show (((if (0:Nat)=0 then a==c else b==d)&&((if (1:Nat)=0 then a==c else b==d)&&true))&&true)=_
  grind
def yO:entryFor table "proto.unchain"=some Builtin.«proto.unchain» := entryFor_of_tree (by kernel_rfl)
def ZG(h:Heap)(b:Addr):Prop:=∃o a,h.get? b=some o/\o.data=.fields a/\a[2]?=some .none
def MW{Q:α->Shared->Prop}{n:Addr}{d:Array Value}(e:A.handled=some (.ref ea))(a:ea≠n)(i:ZG s.heap ea)(c:s.heap.get? n=some o)(g:o.data=.fields d)(hs:2<d.size)(h:E (.ref n) {s with heap:=s.heap.update n (Obj.mapFields (·.setIfInBounds 2 (.ref ea)))}):wpAny (model prog w) A (raiseNew (.ref n):Sem α) Q E s:=by
 obtain⟨l,m,f,b,k⟩:=i;unfold raiseNew;refine Ad (wpAny_handled (?_:_));rw[e];show wpAny _ _ (if ((Value.ref ea) != (Value.ref n))=true then _ else _) _ _ _
 have j:((Value.ref ea) != (Value.ref n))=true:=by
  rw[bne_iff_ne];intro z;injection z with z
  exact a z
 rw[if_pos j];refine Ad (By (runValue_entry yO ?_));show wpAny _ _ (field (.ref ea) 2 >>= _) _ _ _
 refine Ad (Fw f b (x:=.none) k ?_);rw[if_pos (show (Value.none==Value.none)=true from rfl)];refine Ap ⟨_,rfl,Ad ?_⟩;unfold updateField;refine Ad (wpAny_load c ?_);simp only[g];rw[if_pos hs];exact wpAny_update c (wpAny_throw h)
def ZG.ext(c:ZG h ea)(k:∀o,h.get? ea=some o->h'.get? ea=some o):ZG h' ea:=by
 obtain⟨o,e,d,b,a⟩:=c;exact⟨o,e,k o d,b,a⟩
def IV{u:α->Shared->Prop}{B:Around}{h1:Heap}{t x:Obj}{m:Array Value}{Q:Option Value->Shared->Prop}(g:x.cls=.type "StopIteration")(j:x.data=.fields m)(hs:2<m.size)(a:x.isFreed=false)(c:Heap.ExtBut it s.heap ((h1.push t).push x))(i:s.heap.objs.size<=(h1.push t).objs.size)(p:B.handled=some (.ref ea))(d:ea≠it)(k:ZG s.heap ea)(r:∀l,Heap.ExtBut it s.heap l->Q none {s with heap:=l}):wpAny (model prog w) B (raiseNew (.ref (h1.push t).objs.size):Sem α) u (λe n=>wpAny (model prog w) A (do if (<-isInstance e (Value.type "StopIteration"))=true then pure none else throw e) Q E n) {s with heap:=(h1.push t).push x}:=by
 have f:ea<s.heap.objs.size:=by obtain⟨o,_,h,_⟩:=k;exact Av h
 refine MW (s:={s with heap:=(h1.push t).push x}) p (Bb (Bc f i)) (k.ext λo e=>c ea o d e) (Au _ a) j hs ?_
 refine Ad (wpAny_isInstance (b:=true) (T := "StopIteration") ⟨_,Ge _ (Au _ a) (Obj.isFreed_of_fields (Hg j _)),(Obj.cls_mapFields ..).trans g⟩ isSubtype_stop ?_);exact Ap (r _ λb o q e=>((Heap.SameBut.update ..).2 b (Bb (Bc (Av e) i))).trans (c b o q e))
def GR{x left d:Int}{Q:Option Value->Shared->Prop}(k:A.handled=some (.ref ea))(g:ea≠it)(l:ZG s.heap ea)(c:IsRangeIter s.heap it x left d)(f:left<=0)(n:∀j,Heap.ExtBut it s.heap j->Q none {s with heap:=j}):wpAny (model prog w) A (pyNext (.ref it)) Q E s:=by
 have i:s.TypeIs (.ref it) "range_iterator" := ⟨_,c,rfl⟩
 refine Ad (Gv (wpAny_callSpecial?_slot (name:=Str.ofString "__next__") i F.slot_range_iterator_next (Gp F.slot_range_iterator_next i F.entry_range_iterator_next ?_ (F.args_range_iterator_next_1 _))));show wpAny _ _ (field (.ref it) 0 >>= _) _ _ s
 refine Ad (Fw (x:=rawInt x) c rfl rfl ?_)
 refine Ad (Fw (x:=rawInt left) c rfl rfl ?_)
 refine Ad (Fw (x:=rawInt d) c rfl rfl ?_);show wpAny _ _ (if left<=0 then _ else _) _ _ s
 rw[if_pos f];refine Ad (wpAny_rule (Ad ?_))
 have p:Heap.ExtBut it s.heap ((s.heap.push {cls:=Value.type "tuple",data:=Data.seq #[]}).push (⟨.type "StopIteration",none,.fields (#[.ref s.heap.objs.size,.none,.none,.none,.bool false,.none]++ownMembersOf (Value.type "StopIteration") []),#[]⟩:Obj)):=λb o _ e=>Af _ (Af _ e)
 exact IV (s:=s) (h1:=s.heap) rfl rfl (by rw[Array.size_append];exact Nat.lt_of_lt_of_le (show 2<6 by decide) (Nat.le_add_right _ _)) rfl p (by simp) k g l n
def VR(o:Obj):Prop:=∃a,o.data=.fields a/\a[2]?=some .none
def YE(s:Shared)(H:Hp)(a:Addr):Prop:=∃o,s.heap.get? a=some o/\VR o/\(H a=none\/∃u,H a=some (.frz o u))
def uE(X:Cx):Prop:=∃a,X.A.handled=some (.ref a)/\YE X.s₀ X.H₀ a/\a∉X.ex
section
variable {U:St}
def Inv.Wj(I:Inv X y0 U H s)(h:YE X.s₀ X.H₀ ea)(f:ea∉X.ex):YE s H ea:=by
 obtain⟨o,g,⟨d,c,i⟩,a⟩:=h;have b:ea∉X.fs:=λk=>by
  obtain⟨_,l,j,b⟩:=I.ok.Zf.mem k;grind
 rcases a with a|⟨u,a⟩
 .exact⟨o,I.base.keep ea o g a b f,⟨d,c,i⟩,.inl (I.base.free ea o g a f)⟩
 .have e:=I.base.frzs ea o u a
  exact⟨o,(I.Z8 ea _ e).1,⟨d,c,i⟩,.inr ⟨u,e⟩⟩
def YE.ctx(h:YE s H ea):ZG s.heap ea:=by
 obtain⟨o,g,⟨c,a,b⟩,_⟩:=h;exact⟨o,c,g,a,b⟩
def Inv.soft(I:Inv X y0 U H s)(h:uE X):∃c,X.A.handled=some (.ref c)/\ZG s.heap c/\∀b,(b∈X.ex\/X.s₀.heap.objs.size<=b)->c≠b:=by
 obtain⟨c,f,d,e⟩:=h;refine⟨c,f,(I.Wj d e).ctx,λb a z=>?_⟩;subst z;rcases a with a|a
 .exact e a
 .obtain⟨o,g,_⟩:=d;exact absurd (Av g) (Nat.not_lt.mpr a)
end
def HZ{c:Int}(i:Nat)(s:Shared)(Q:Option Value->Shared->Prop)(E:Q2)(p:i<n)(st:IsRangeIter s.heap it (lo+(i:Nat)*c) ((n:Int)-(i:Nat)) c)(k:∀v d f,(∃t,v=Value.int (lo+i*c) t)->IsRangeIter d it (lo+(i+1:Nat)*c) ((n:Int)-(i+1:Nat)) c->(∀b o,b∉[it]->s.heap.get? b=some o->d.get? b=some o)->Q (some v) {s with heap:=d,toks:=f}):wpAny (model prog w) A (pyNext (.ref it)) Q E s:=by
 refine wpAny_pyNext_range_item st (by omega) λd a g=>?_
 have m:lo+(i:Int)*c+c=lo+((i+1:Nat):Int)*c:=by push_cast;rw[Int.add_mul,Int.one_mul,Int.add_assoc]
 have l:(n:Int)-(i:Int)-1=(n:Int)-((i+1:Nat):Int):=by push_cast;((try clear m p);omega)
 rw[m,l]at a;exact k _ d _ ⟨_,rfl⟩ a λb o j e=>g.extBut b o (λz=>j (by rw[z];exact Ak.mpr rfl)) e
def ZG.some(c:ZG h ea):∃o,h.get? ea=Option.some o:=by
 obtain⟨o,_,e,_⟩:=c;exact⟨o,e⟩
structure Xk (P:Program) (w:World) (K:W.Frag) (tg:Expr) (J:It) (fp:List Addr) (it:Addr) (tn:Nat->Heap->Prop):Prop where
 mem:it∈fp
 obj:∀i h,tn i h->∀b∈fp,∃o,h.get? b=some o/\∀v,o.data≠.cell v
 keep:∀i h h',tn i h->(∀b∈fp,∀o,h.get? b=some o->h'.get? b=some o)->tn i h'
 item:∀(X:Cx),X.prog=P->X.w=w->X.K=K->uE X->∀(i:Nat) (y0:Q4) (s:Shared) (U:St) (H:Hp) (E:Q2),Inv X y0 U H s->(∀b∈fp,gY X y0 H b)->tn i s.heap->J.go i H->
  wpAny (model P w) X.A (pyNext (.ref it)) (λr s1=>∃u,r=some u/\
   wpAny (model P w) X.A (letOwnedTupleGo tg (.ref it) u) (λ_ s2=>∃x H',Inv X y0 U H' s2/\RelV x u/\J.Xa i H x H'/\tn (i+1) s2.heap/\∀b∈fp,H' b=none) E s1) E s
 done:∀(X:Cx),X.prog=P->X.w=w->X.K=K->uE X->∀(i:Nat) (y0:Q4) (s:Shared) (U:St) (H:Hp) (E:Q2),Inv X y0 U H s->(∀b∈fp,gY X y0 H b)->tn i s.heap->J.stop i H->
  wpAny (model P w) X.A (pyNext (.ref it)) (λr s1=>r=none/\Inv X y0 U H s1) E s
 self:∀(A:Around) (i:Nat) (s:Shared) (Q:Q2) (E:Q2),tn i s.heap->Q (.ref it) s->wpAny (model P w) A (pyIter (.ref it)) Q E s
def OA(X:Cx)(d:List (Addr×Obj))(U:St)(i:Expr)(R:It->Hp->Prop)(a:Value)(f:Shared):Prop:=
 ∃g h e J c,a=.ref g/\Inv X d U c f/\Xk X.prog X.w X.K i J h g e/\e 0 f.heap/\(∀b∈h,gY X d c b)/\R J c
def Ry(X:Cx)(c a:Expr)(wi:TI):Prop:=
 ∀(b:Q4) s (U:St) H R,Inv X b U H s->wi U H R->
  wpAny (model X.prog X.w) X.A (eval a X.env) (λv d=>wpAny (model X.prog X.w) X.A (pyIter v) (OA X b U c R) X.xe d) X.xe s
def Mj(c:Addr)(m:Int)(n:Nat):Xk P w K tg (XR m n) [c] c (λi h=>IsRangeIter h c (m+(i:Nat)*1) ((n:Int)-(i:Nat)) 1) where
 mem:=by simp
 obj:=λi h a b d=>by
  have e:b=c:=by simpa using d
  subst e;exact⟨_,a,λv z=>by
   have L:=z
   cases L⟩
 keep:=λi h j a k=>k c (by simp) _ a
 item:=by
  intro X x p y J i F s U H E I g a r;subst x p y;obtain⟨D,C,Q,l,B,A⟩:=g c (by simp)
  refine HZ i s _ _ r a λv j G N f M=>?_;obtain⟨t,rfl⟩:=N;have S:Inv X F U H {s with heap:=j,toks:=G}:=I.turned (λb o d e=>M b o (by simpa using d) e) D C l B A
  refine⟨_,rfl,qI (s:={s with heap:=j,toks:=G}) (n := "range_iterator") f rfl rfl (by decide) ⟨.int (m+i),H,S,⟨t,?_⟩,⟨rfl,rfl⟩,f,λb d=>(g b d).1⟩⟩
  rw[Int.mul_one]
 done:=by
  intro X x p y J i F s U H E I g a r;subst x p y;obtain⟨D,C,Q,l,B,A⟩:=g c (by simp)
  obtain⟨T,O,u,q⟩:=I.soft J;exact GR O (q c l) u a (by have:n<=i:=r;((try clear C l);omega)) λj R=>⟨rfl,I.turned (t':=s.toks) (λb o d e=>R b o d e) D C l B A⟩
 self:=λ_ _ _ _ _ a h=>Hj a h
def GH{U:St}{t u v:Tok}{a:Nat}(I:Inv X y0 U H s)(h1:-(2^62)<=lo)(h:lo<2^62)(g:-(2^62)<=hi)(f:hi<2^62)(q:R (XR lo (hi-lo).toNat) H):wpAny (model X.prog X.w) X.A (pyIter (.ref s.heap.objs.size)) (OA X y0 U tg R) E {s with heap:=s.heap.push {cls:=.type "range",data:=.fields #[.int lo t,.int hi u,.int 1 v]},toks:=a}:=by
 refine wpAny_pyIter_range (IsRange.new ..) (small_one h1 h g f) ?_;have c:Inv X y0 U H {s with heap:=s.heap.push {cls:=.type "range",data:=.fields #[.int lo t,.int hi u,.int 1 v]},toks:=a}:=I.kept λb o e=>Af _ e
 refine⟨(s.heap.push {cls:=.type "range",data:=.fields #[.int lo t,.int hi u,.int 1 v]}).objs.size,[(s.heap.push {cls:=.type "range",data:=.fields #[.int lo t,.int hi u,.int 1 v]}).objs.size],_,_,H,rfl,
  c.kept (t':=a) λb o e=>Af _ e,Mj _ lo (hi-lo).toNat,?_,λb d=>?_,q⟩
 .have j:lo+((0:Nat):Int)*1=lo:=by simp
  have i:(((hi-lo).toNat:Nat):Int)-((0:Nat):Int)=Builtin.Range.rangeSize lo hi 1:=by rw[rangeSize_one];split<;>((try clear f g h h1 j);omega)
  show IsRangeIter _ _ (lo+((0:Nat):Int)*1) ((((hi-lo).toNat:Nat):Int)-((0:Nat):Int)) 1
  rw[j,i];exact Au _ rfl
 .have e:b=(s.heap.push {cls:=.type "range",data:=.fields #[.int lo t,.int hi u,.int 1 v]}).objs.size:=by simpa using d
  subst e;exact c.YO (Ai _) (c.Z8.fresh (Ai _))
section
variable {a:Expr} {ta:TE} {p:Pos}
def EM{b:TA}(k:Gl X "range")(i:X.mg "range"=none)(l:PA X [a] b)(hs:starEach [a] X.env=[(false,eval a X.env)]:=by rfl):Ry X tg (.Call (.Name "range" p) [a] [] pos) (SJ b):=by
 intro c s U H R I h;refine Call_ (iF I k i boot_range (Dg (ZY (l pos c s U H _ I h) λv w ⟨u,x,o,f,g⟩=>?_) hs rfl));obtain⟨j,e,⟨n,m⟩,q⟩:=qP g;subst e;cases f with
 |cons r d=>
  cases d;obtain⟨t,rfl⟩:=r;exact call_range_1 (GH o (by (exact Int.natCast_nonneg _)) (by (exact Int.natCast_nonneg _)) n m (by simp_all))
end
def R0:List V->Hp->VK->Prop:=λa H Q=>(∃j,a=[.int j]/\∀r,H r=none->Q (.ref r) (upd H r (.rng 0 j)))\/(∃i j,a=[.int i,.int j]/\∀r,H r=none->Q (.ref r) (upd H r (.rng i j)))
def Inv.Xq{U:St}{t u v:Tok}{a:Nat}(I:Inv X y0 U H s):Inv X y0 U (upd H s.heap.objs.size (.rng lo hi)) {s with heap:=s.heap.push {cls:=.type "range",data:=.fields #[.int lo t,.int hi u,.int 1 v]},toks:=a}:=
 (I.kept  λb o e=>Af _ e).adopt (I.YD (Ai _)) (I.Z8.fresh (Ai _)) ⟨t,u,v,Au _ rfl⟩
def JM:ZU X (.type "range") R0:=by
 intro a s U H b d Q I r h;rcases h with⟨j,rfl,q⟩|⟨i,j,rfl,q⟩
 .obtain⟨u,rfl,⟨t,rfl⟩⟩:=dL r;exact call_range_1 ⟨.ref _,_,I.Xq,rfl,q _ (I.Z8.fresh (Ai _))⟩
 .obtain⟨u,c,rfl,⟨t,rfl⟩,⟨e,rfl⟩⟩:=Um r;exact call_range_2 ⟨.ref _,_,I.Xq,rfl,q _ (I.Z8.fresh (Ai _))⟩
def AO{j:Int}(h:∀r,H r=none->Q (.ref r) (upd H r (.rng 0 j))):R0 [.int j] H Q:=.inl ⟨j,rfl,h⟩
def RS:List V->Hp->VK->Prop:=λb H Q=>∃(a:Addr) (n:Nat),b=[.ref a]/\H a=some (.rng 0 (n:Int))/\n<=100000/\∀r,H r=none->Q (.ref r) (upd H r (.lst ((List.range n).map λi=>V.int ((i:Nat):Int))))
def IL(y:X.calm=true):ZU X (.type "list") RS:=by
 intro B s U H C D Q I r h;obtain⟨a,n,rfl,z,p,q⟩:=h;obtain⟨u,rfl,l⟩:=dL r;cases l;obtain⟨G,F,E,m⟩:=I.Z8 a _ z;refine call_list_range (n:=n) (I.ok.hd y) m (small_one (by decide) (by decide) (by (exact Int.natCast_nonneg _)) (by omega)) (by rw[rangeSize_nat];omega) (by (exact Nat.le_trans (by assumption) (by decide))) λJ k e c v A b=>?_
 refine⟨.ref s.heap.objs.size,_,I.laid (a:=s.heap.objs.size) (o:=.lst ((List.range n).map λi=>V.int ((i:Nat):Int))) (t':=k) v (Ai _) ⟨by rw[Ac,Cj];exact bJ p,e.toList,c,?_,by rw[A]⟩,rfl,q _ (I.Z8.fresh (Ai _))⟩
 refine Sg (by rw[Ac,Cj,Er,b.1]) λj x u f g=>?_
 obtain⟨d,rfl⟩:=b.2 j u (by rw[<-Dq];exact g)
 have w:j<n:=by
  have:=(Ag.mp g).1
  rw[Er,b.1]at this;exact this
 rw[Ae,List.getElem?_range w]at f;cases f;exact⟨d,by rw[show (0:Int)+((j:Nat):Int)*1=((j:Nat):Int) by ((try clear p w);omega)]⟩
def GZ(c:H a=some (.rng 0 (n:Int)))(b:n<=100000)(h:∀r,H r=none->Q (.ref r) (upd H r (.lst ((List.range n).map λi=>V.int ((i:Nat):Int))))):RS [.ref a] H Q:=⟨a,n,rfl,c,b,h⟩
section
variable {U0:St}
def B_{xs:List V}(f:Nat->List V)(F:Z6 H1 a=some xs)(N:xs.length<sizeLine)(hs:∀i x d A (B:Hp->Prop),xs[i]?=some x->Same H1 d->(∀q k,d q=none->Same d k->k q=some (.lst (f i))->A (.ref q) k)->
 g x U0 d λI P=>Wk U0 I/\tests I P λb J=>if b=true then te I J A else B J)(G:∀D k c,H1 D=none->Same H1 k->k D=some (.lst (c.map V.ref))->c.length=xs.length->Y3 H1 k c ((List.range xs.length).map f)->(∀p∈c,p≠D)->Q (.ref D) k):dJ g tests te U0 Q (Xr K a) H1:=by
 refine fO (n:=xs.length) (λD i m d=>Same H1 d/\∃c,m=c.map V.ref/\c.length=i/\Y3 H1 d c ((List.range i).map f)/\∀p∈c,p≠D) N (λD s=>⟨aE s _,[],rfl,rfl,.nil,λp y=>nomatch y⟩)
  (λD i m d _ r h=>⟨xs,xs[i],bG (aQ r.1 F),by simp[h]⟩) (λD m d _ r=>⟨xs,bG (aQ r.1 F),Nat.le_refl _⟩) ?_ ?_
 .rintro D i m d x R A B s S ⟨l,c,rfl,C,v,u⟩ j ⟨rfl,M⟩ E T;refine hs i x R A B (M xs (bG (aQ l F))) l (λq k w t O=>?_);have L:q≠D:=λz=>by rw[z,j]at w;cases w
  have o:∀p∈c++[q],p≠D:=λp y=>by
   rcases Ce.mp y with e|e
   .exact u p e
   .rw[Ak.mp e];exact L
  refine E _ _ (t _ _ j) ⟨bQ s (l.trans t),c++[q],by rw[Ar];rfl,by rw[Aj,C];rfl,?_,o⟩
  rw[Cp,Ar];exact((v.keep t).snoc (none_of l w) O).put o
 .rintro D m d s ⟨l,c,rfl,C,v,u⟩ j _;exact G D d c s l j C v u
def ID{n:Nat}(f:Nat->Option V)(u:n<sizeLine)(hs:∀i c A (B:Hp->Prop),i<n->Same H1 c->(∀y,f i=some y->∀a,Same c a->A y a)->(f i=none->∀a,Same c a->B a)->
 g (.int (lo+i)) U0 c λp z=>Wk U0 p/\tests p z λb q=>if b=true then te p q A else B q)(o:∀D a,H1 D=none->Same H1 a->a D=some (.lst ((List.range n).filterMap f))->Q (.ref D) a):dJ g tests te U0 Q (XR lo n) H1:=by
 refine fO (n:=n) (λD i e c=>Same H1 c/\e=(List.range i).filterMap f) u (λD l=>⟨aE l _,rfl⟩) (λD i e c _ r h=>h) (λD e c _ r=>Ai n) ?_ ?_
 .rintro D i e c x C A B l v ⟨j,rfl⟩ d ⟨rfl,rfl⟩ m w;refine hs i C A B v j (λy s a k=>?_) (λt a k=>?_)
  .exact m _ _ (k _ _ d) ⟨bQ l (j.trans k),(gK s).symm⟩
  .exact w _ (k _ _ d) ⟨j.trans k,(jK t).symm⟩
 simp_all
end
section
open PySem
open PySem.Spec PyProof.Rows
def VB(H:Hp):Nat->V->V->Prop
 |0,x,y=>x=y/\(cQ x=true\/∃p,x=.ref p)
 |n+1,x,y=>(x=y/\(cQ x=true\/∃p,x=.ref p))\/∃p q,x=.ref p/\y=.ref q/\((∃d c,Z6 H p=some d/\Z6 H q=some c/\d.length=c.length/\∀(j:Nat) f e,d[j]?=some f->c[j]?=some e->VB H n f e)\/∃b a,Rd H p (.dK b)/\Rd H q (.dK a)/\O4 b a)
def Rz{x:V}{v:Value}(h:cQ x=true\/∃p,x=.ref p)(c:RelV x u)(b:RelV x v):XH X.prog X.w A s u v:=by
 rcases h with a|⟨p,rfl⟩
 .have:=rY (A:=A) (s:=s) c b a a
  rw[Qu a]at this;exact λE Q d=>this X.prog X.w E Q d
 .cases c;cases b;exact .same _
def Pj{U:St}(I:Inv X y0 U H s){p:Addr}(G:Z6 H p=some xs)(F:Z6 H q=some ys)(L:xs.length=ys.length)(h:∀(j:Nat) l k u v,xs[j]?=some l->ys[j]?=some k->RelV l u->RelV k v->XH X.prog X.w A.in1 s u v)(t:A.units<cLine)(E:Q2)(Q:Q2):(Q (.bool true) s->wpAny (model X.prog X.w) A (richCompare .Eq (.ref p) (.ref q)) Q E s)/\(Q (.bool false) s->wpAny (model X.prog X.w) A (richCompare .NotEq (.ref p) (.ref q)) Q E s):=by
 obtain⟨b,n,r,_⟩:=I.list (bG G);obtain⟨a,m,o,_⟩:=I.list (bG F);have N:=n.length
 have M:=m.length
 have B:∀j D (C:j<a.toArray.size),XH X.prog X.w A.in1 s b.toArray[j] a.toArray[j]:=λj D C=>by
  have i:j<b.length:=by simpa using D
  have g:j<a.length:=by simpa using C
  obtain⟨K,d,f⟩:=n.get (Aa (show j<xs.length by ((try clear C D g t);omega)))
  obtain⟨J,c,e⟩:=m.get (Aa (show j<ys.length by ((try clear C D g t);omega)))
  rw[Aa i]at d;rw[Aa g]at c;cases d;cases c
  simpa using h j _ _ _ _ (List.getElem?_eq_getElem _) (List.getElem?_eq_getElem _) f e
 have z:b.toArray.size=a.toArray.size:=by simp only[List.size_toArray];((try clear t);omega)
 exact⟨λq=>MP r.isList o.isList z t B q,λq=>BK r.isList o.isList z t B q⟩
def JD{U:St}(I:Inv X y0 U H s):∀n A x y u v,VB H n x y->RelV x u->RelV y v->A.units+n<cLine->XH X.prog X.w A s u v:=by
 intro n;induction n with
 |zero=>
  intro A x y u v h f c D;obtain⟨rfl,b⟩:=h;exact Rz b f c
 |succ n B=>
  intro A x y u v h f c D;rcases h with⟨rfl,b⟩|⟨p,q,rfl,rfl,l⟩
  .exact Rz b f c
  .cases f;cases c;by_cases e:p=q
   .subst e;exact .same _
   rcases l with⟨J,G,m,k,F,h⟩|⟨z,t,m,k,d⟩
   .exact .refs e λE Q a=>(Pj I m k F (λj r o u v b C i g=>B A.in1 r o u v (h j r o b C) i g (by grind)) (by ((try clear F e);omega)) E Q).1 a
   .exact .refs e λE Q a=>(JS I m k d (by ((try clear e);omega)) E Q).1 a
def Pf(neg:Bool):R2:=λx y H Q=>∃n p q b a,n<=50/\x=.ref p/\y=.ref q/\Z6 H p=some b/\Z6 H q=some a/\b.length=a.length/\(∀(j:Nat) d c,b[j]?=some d->a[j]?=some c->VB H n d c)/\Q (.bl (!neg)) H
def J3(B:X.A.units+64<cLine):ZH X (compareOp .NotEq) (Pf true):=by
 intro w s U H x y v u Q I f e h;obtain⟨n,p,q,z,t,C,rfl,rfl,m,l,o,r,k⟩:=h;cases f;cases e;exact(Pj I m l o (λj d c u v i g b a=>JD I n X.A.in1 d c u v (r j d c i g) b a (by grind)) (by ((try clear C o);omega)) _ _).2 ⟨.bl false,H,I,rfl,k⟩
def M8{neg:Bool}{p:Addr}(n:Nat)(d:Z6 H p=some xs)(c:Z6 H q=some ys)(f:xs.length=ys.length)(g:∀(j:Nat) b a,xs[j]?=some b->ys[j]?=some a->VB H n b a)(h:Q (.bl (!neg)) H)(e:n<=50:=by omega):Pf neg (.ref p) (.ref q) H Q:=⟨n,p,q,xs,ys,e,rfl,rfl,d,c,f,g,h⟩
end
def zp(i:Nat)(g:TS)(D:Ends)(e:Value)(d:Option Addr)(h:St)(f:Hp):Prop:=∀c,f c=none->
 g {nx:=λa b=>D.nx (a.set i none) b,rt:=D.rt,bk:=λa b=>D.bk (a.set i none) b,ct:=λa b=>D.ct (a.set i none) b} (h.set i (some (.ref c))) (upd f c (pB c e d))
def Pl:R2:=λx y H Q=>∃p q a,x=.ref p/\y=.ref q/\Z6 H p=some a/\Z6 H q=some []/\Q (.bl (!a.isEmpty)) H
def JV(f:X.A.units<cLine):ZH X (compareOp .NotEq) Pl:=by
 intro F s U H x y v u Q I m l h;obtain⟨p,q,i,rfl,rfl,t,r,k⟩:=h;cases m;cases l;obtain⟨b,o,d,_⟩:=I.list (bG t);obtain⟨a,n,c,_⟩:=I.list (bG r);have g:=o.length
 have C:=n.length
 have D:a.length=0:=C.symm
 cases i with
 |nil=>
  have E:=g.symm
  refine SeqAt.RcNeAt.lists (e:=λj=>true) d.isList c.isList (by simp only[List.size_toArray];((try clear E f);omega)) f (λj B K=>?_) X.prog X.w _ _ ?_
  .have z:j<b.length:=by simpa using B
   ((try clear E f);omega)
  .refine⟨.bl false,H,I,?_,k⟩;show Value.bool _=Value.bool false
   simp
 |cons J G=>
  rw[Be]at g;exact SeqAt.RcNeAt.lists_lengths d.isList c.isList (by grind) f X.prog X.w _ _ ⟨.bl true,H,I,rfl,k⟩
def KC(e:Z6 H p=some xs)(a:Z6 H q=some [])(h:Q (.bl (!xs.isEmpty)) H):Pl (.ref p) (.ref q) H Q:=⟨p,q,xs,rfl,rfl,e,a,h⟩
def Nz{y:Str}(a:(y.length==0)=false)(b:z.length<=90000)(h:∀l,H l=none->Q (.ref l) (upd H l (.lst ((Txt.split z y).map V.str)))):Sd (.str z) [.str y] H Q:=⟨z,y,rfl,rfl,a,bJ (by omega),h⟩
def IU{U:St}{f:Shared}{k:St->St}{tn:Nat->Heap->Prop}{RR:Value->Addr->Result->Shared->Prop}(I2:Inv X y0 U H2 f)(T:Xk X.prog X.w X.K tg J fp it tn)(b3:tn 0 f.heap)(f2:∀b∈fp,gY X y0 H2 b)(hc:∀C s H,Same H2 H->Inv X y0 U H s->(∀b∈fp,gY X y0 H b)->uE (Za X N scope cl C s H fp))(ck:X5 X N scope cl k)(a2:∀y∈scope.names,y.2≠.cell)(M:scope.kind=.function)(hg:∀C a j V,uE (Za X N scope cl C a j V)->PG (Za X N scope cl C a j V) tg g)(ht:∀C a j V,uE (Za X N scope cl C a j V)->PF (Za X N scope cl C a j V) ifs tests)(he:∀C a j V,uE (Za X N scope cl C a j V)->PE (Za X N scope cl C a j V) elt te)(h:dJ g tests te (k U) Q J H2)(c6:∀D C L z m,L.heap.Ns C m->Q (.ref D) z->(∀a3,Heap.SameBut C L.heap a3->Inv X y0 U z {L with heap:=a3})->gY X y0 z C->RR (.ref D) C (.ok .next) L):wpAny (model X.prog X.w) X.A (newList []) (λb5 a7=>wpAny (model X.prog X.w) X.A (newFunctionEnv scope X.env.globals cl [] X.env.qual none .none (some X.env)) (λY F=>
 codeAny (model X.prog X.w) X.A (.compStart (.ListComp elt [⟨tg,iter,ifs,0⟩] scope pos) 0 (.ref it) b5 {Y with scope:=relabel scope X.env}) (RR b5 Y.locals) F) E a7) E f:=by
 have hD:=I2.Z8.fresh (Ai _)
 obtain⟨W,⟨m0,w0⟩,a6⟩:=h _ hD;have c5:∀b∈fp,b<f.heap.objs.size:=λb B=>by
  obtain⟨o,e,_⟩:=T.obj 0 _ b3 b B;exact Av e
 refine Gf ?_
 -- the list is laid
 have I3:=
  I2.Xi (ys:=[]) (its:=[]) (t':=f.toks) .nil (Do _)
 have f3:∀b∈fp,gY X y0 (upd H2 f.heap.objs.size (.lst [])) b:=λb B=>⟨by rw[aK (Bb (c5 b B))];exact(f2 b B).1,(f2 b B).2⟩
 have a1:tn 0 (f.heap.push {cls:=.type "list",dict:=none,data:=.seq ([]:List Value).toArray}):=T.keep _ _ _ b3 λb _ o e=>Af _ e
 generalize c3:({f with heap:=f.heap.push {cls:=.type "list",dict:=none,data:=.seq ([]:List Value).toArray}}:Shared)=l at I3 ⊢
 have e3:l.heap=f.heap.push {cls:=.type "list",dict:=none,data:=.seq ([]:List Value).toArray}:=by rw[<-c3]
 rw[<-e3]at a1;have S:∀b∈fp,b<l.heap.objs.size:=λb B=>by
  obtain⟨o,e,_⟩:=T.obj 0 _ a1 b B;exact Av e
 refine wpAny_newFunctionEnv a2 (by intro y hy;simp at hy) (λG P I=>?_) M
 have c4:=P
 have sf:uE (Za X N scope cl l.heap.objs.size l (upd H2 f.heap.objs.size (.lst [])) fp):=hc _ _ _ (aE hD _) I3 f3
 have I4:=vK (t1:=l.toks) I3 ck M f3 S c4 I
 have c1:∀b o,l.heap.get? b=some o->G.get? b=some o:=λb o e=>(I.2 b (Bb (Av e))).trans (Af _ e)
 have b2:=T.keep _ _ _ a1 λb _ o e=>c1 b o e
 have R:∀ F,F={ l with heap:=G,toks:=l.toks }->
     codeAny (model X.prog X.w) X.A (.compLoop (.ListComp elt [⟨tg,iter,ifs,0⟩] scope pos) 0 (.ref it) (.ref f.heap.objs.size) (compEnvC scope cl l.heap.objs.size X.env))
      (RR (.ref f.heap.objs.size) l.heap.objs.size) F:=by
  rintro F rfl;have a4:∀ {z:Hp},(∀b∈fp,z b=none)->∀b∈fp,gY (Za X N scope cl l.heap.objs.size l (upd H2 f.heap.objs.size (.lst [])) fp) [] z b:=λhn b B=>
   ⟨hn b B,Nat.ne_of_lt (S b B),λhs=>I4.ok.Yk b B hs,.inl B,λx c e=>(I4.ok.Wq b B).2 x c e,λp hp=>absurd (show p∈([]:Q4) from hp) (by simp)⟩
  refine xW (λn L=>∃i z,Inv (Za X N scope cl l.heap.objs.size l (upd H2 f.heap.objs.size (.lst [])) fp) [] (k U) z L/\tn i L.heap/\(∀b∈fp,z b=none)/\W i n z) ?_ m0
   ⟨0,_,I4,b2,λb B=>(f3 b B).1,w0⟩
  rintro n s5 ⟨i,H5,I5,b1,b4,w5⟩;rcases a6 i n H5 w5 with⟨a8,q⟩|⟨go,a9⟩
  .refine ZY (T.done (Za X N scope cl l.heap.objs.size l (upd H2 f.heap.objs.size (.lst [])) fp) rfl rfl rfl sf i [] s5 (k U) H5 (λ_ _=>False) I5 (a4 b4) b1 a8) λr s6 ⟨hr,I6⟩=>?_;subst hr;obtain⟨m,hn,_⟩:=id I6.loc;exact c6 _ _ s6 H5 m hn q (λa3 c2=>Qb I3 f3 I6 c2) (I3.YO (Ai _) I6.free)
  .refine ZY (T.item (Za X N scope cl l.heap.objs.size l (upd H2 f.heap.objs.size (.lst [])) fp) rfl rfl rfl sf i [] s5 (k U) H5 (λ_ _=>False) I5 (a4 b4) b1 go) λr s6 ⟨u,hr,h6⟩=>?_;subst hr;refine ZY h6 λ_ s7 ⟨x,H7,I7,r7,y7,Z,c7⟩=>?_;have c9:=I7.pinned (a4 c7) (T.obj _ _ Z)
   refine ZY (hg _ _ _ _ sf _ s7 (k U) H7 x u _ c9 r7 (a9 x H7 y7)) λ_ s8 ⟨U8,H8,I8,a5,q8⟩=>?_;refine ZY (ht _ _ _ _ sf _ s8 U8 H8 _ I8 q8) λb s9 ⟨H9,I9,q9⟩=>?_;have O:∀ {m':Nat} {L:Shared} {z:Hp},Inv (Za X N scope cl l.heap.objs.size l (upd H2 f.heap.objs.size (.lst [])) fp) ([]++nN fp s7.heap) U8 z L->m' < n->W (i+1) m' z->
       ∃m,m<n/\∃i z,Inv (Za X N scope cl l.heap.objs.size l (upd H2 f.heap.objs.size (.lst [])) fp) [] (k U) z L/\tn i L.heap/\(∀b∈fp,z b=none)/\W i m z:=fun {m' L z} J7 hm w7=>by
    refine⟨m',hm,i+1,z,(J7.weak a5.1 a5.2).Y9,T.keep _ _ _ Z λb B o e=>(J7.pin (b,o) (Bg _ (Bg _ (gH B e)))).1,λb B=>?_,w7⟩;obtain⟨o,e,d⟩:=T.obj _ _ Z b B;exact(J7.pin (b,o) (Bg _ (Bg _ (gH B e)))).2.1
   cases b with
   |true=>
    rw[if_pos rfl]at q9 ⊢;refine ZY (he _ _ _ _ sf _ s9 U8 H9 _ I9 q9) λv b8 ⟨y,b6,d2,b9,zs,hz,hl,m',hm,b7⟩=>?_;have ap:=tF ([]++nN fp s7.heap) b8 U8 b6 (.ref f.heap.objs.size) [y] (.ref f.heap.objs.size) [v] (λ_ z=>z=upd b6 f.heap.objs.size (.lst (zs++[y]))) d2 rfl (.cons b9 .nil) ⟨_,_,_,rfl,rfl,hz,hl,rfl⟩
    refine ZY ap λ_ d3 ⟨_,d4,d1,_,c8⟩=>?_;subst c8;exact O d1 hm b7
   |false=>
    rw[if_neg Aq]at q9 ⊢;obtain⟨m',hm,w9⟩:=q9;exact O I9 hm w9
 exact codeAny_compStart_list (R _ rfl) (T.self _ 0 _ _ _ b2 (R _ rfl))
def RO(K:W.Frag)(C:Addr)(i:Nat)(mk:(Value->Option Addr->St->Hp->Prop)->TS)(h:Addr->TS):TS:=λD U H=>
 mk (λb d j g=>W.exmOne K b (.ref C)=some true/\∀a f,VR f->g a=none->
  h a {nx:=λc e=>D.nx (c.set i none) e,rt:=D.rt,bk:=λc e=>D.bk (c.set i none) e,ct:=λc e=>D.ct (c.set i none) e} (j.set i (some (.ref a))) (upd g a (.frz f (pB a b d)))) D U H
def E_{i:Nat}{mk:(Value->Option Addr->St->Hp->Prop)->TS}{f:Addr->TS}{U:St}(h:mk (λb d k j=>W.exmOne K b (.ref C)=some true/\∀a g,VR g->j a=none->
 f a {nx:=λc e=>D.nx (c.set i none) e,rt:=D.rt,bk:=λc e=>D.bk (c.set i none) e,ct:=λc e=>D.ct (c.set i none) e} (k.set i (some (.ref a))) (upd j a (.frz g (pB a b d)))) D U H):RO K C i mk f D U H:=h
def D1{a:List Stmt}{b0:Stmt}{n:Str}{hp:Pos}{i:Nat}{mk:(Value->Option Addr->St->Hp->Prop)->TS}{ts:Addr->TS}(l:X.stack=X.env::X.outer)(a2:X.env.frame=some X.env.locals)(a8:X.ex=[])(hN:X.N.Nodup)(hi:X.N[i]?=some n)(S:X.env.scope.names.lookup n=some .local)(hg:Gl X x)(hm:X.mg x=some (.ref C))(hb:∀g R,Yg (X.tr g (XS X g R)) body (mk R))(hs:∀g b,Yg (X.hnd g b) (b0::a) (ts b))(hd:(x==("__debug__" : Str))=false:=by decide):PS X (.Try body [.ExceptHandler (some (.Name x np)) (some n) (b0::a) hp] [] [] pos) (RO X.K C i mk ts):=by
 intro g s U H D I h;have a1:X.A.frames=some (X.env::X.outer):=by rw[<-l];exact I.ok.frames
 have M:(X.env.scope.kind == .class || (X.env.scope.kind == .module&&X.env.locals != X.env.globals))=false:=by rw[I.ok.kind];rfl
 refine wpAny_Try_except (Ck (hb g _ [] s U H D (I.tr _) h) (λf P q=>?_) λe P q=>?_)
 .cases f with
  |next=>
   obtain⟨U',H',I',q⟩:=q.Yv;exact bE g P U' H' D I' q
  |brk=>exact q.Yv
  |cont=>exact q.Yv
  |ret u=>exact q.Yv
 .obtain⟨b,a6,d,B,U1,H1,rfl,F,a5,hn,J,hx,r⟩:=q;rw[l]at F;refine PV a1 a2 F λh2 F2 u2=>kY (s:={P with heap:=h2}) F2 λh3 F3 u3=>?_
  have I3:=J h3 F3.stays (u2.trans u3)
  refine wpAny_handleBy_cons (codeAny_handlers_test (lB (I3.hnd b) hg hm ?_ hd)) (by intro q;cases q)
  obtain⟨oe,vs,T,oT,a7,he,hc,_⟩:=id F3.on;refine W.exm_one I3.Y2 (hc.1▸(W.Looks.ld he).andThen .now) hx _ _ _ _ (λ_ _ q=>q) ?_;refine codeAny_handlers_suite_as (kY (s:={P with heap:=h3}) F3 λh4 F4 u4=>?_)
  obtain⟨p,Y,_,_,_,a3,_,a4,_,_,_,_,_,_,c4⟩:=id F4.on;have I4:=(J h4 F4.stays ((u2.trans u3).trans u4)).adopt (o:=.frz p (pB b a6 d)) a5 hn (show h4.get? b=some p/\_ from⟨a3,F4.obj⟩)
  refine vW I4 hN hi (.inl S) (v:=.ref b) rfl (λs5 I5=>?_) (.inr S);refine Ck (hs g b [] s5 _ _ _ (I5.hnd b) (r b p ⟨Y,a4,c4⟩ hn)) (λf s6 q=>?_) λ_ _ z=>z.elim;have V:∀ {t:St} {c:Hp} {Q:Unit->Shared->Prop} {E:Q2},Inv (X.hnd g b) [] t c s6->(∀ G,Inv X g (t.set i none) c G->Q () G)->
      wpAny (model X.prog X.w) X.A (do bindName X.env n .none;unbindBehindTheSuite X.env n hp) Q E s6:=fun {t c Q E} j k=>by
   have O:=j.Vo I.ok
   obtain⟨m,L,_⟩:=id O.loc;exact wpAny_nameGoes_keeps S L M λh7 v Z sb=>k _ (O.Wf hN hi L S Z sb)
  cases f with
  |next=>
   obtain⟨t,c,j,q⟩:=q;exact V j λG y=>⟨_,c,y,q⟩
  |brk=>
   obtain⟨t,c,j,q⟩:=q;exact V j λG y=>⟨_,c,y,q⟩
  |cont=>
   obtain⟨t,c,j,q⟩:=q;exact V j λG y=>⟨_,c,y,q⟩
  |ret u=>
   obtain⟨v,t,c,j,rv,q⟩:=q;exact V j λG y=>⟨v,_,c,y,rv,q⟩
def RT(K:W.Frag)(e:TE)(f:Str):TE:=λU H Q=>e U H λx c=>∃a C b d v o,x=.ref a/\c a=some (.frz o (pB a (.ref C) (some b)))/\c b=some (YL b d)/\Yy K C/\W.findIn K (.ref C) f=some none/\d.lookup f=some v/\Q v c
def IX{d:TE}{f:Str}{U:St}(h:d U H λx c=>∃a C b e v o,x=.ref a/\c a=some (.frz o (pB a (.ref C) (some b)))/\c b=some (YL b e)/\Yy K C/\W.findIn K (.ref C) f=some none/\e.lookup f=some v/\Q v c):RT K d f U H Q:=h
def wB{f:Str}{ta:TE}(hK:X.K=K)(he:PE X e ta)(hb:attributeBase e f X.env (eval e X.env)=eval e X.env):PE X (.Attribute e f pos) (RT K ta f):=by
 subst hK;intro y0 s U H Q I h;refine O6 hb (ZY (he y0 s U H _ I h) λu s1 ⟨x,H1,I1,rx,ea,C,dx,fs,v,oz,ex,e1,e2,Z,n,l,q⟩=>?_);subst ex;obtain rfl:u=Value.ref ea:=rx;obtain⟨oe,vs,g,hc,hdi,hda⟩:=(I1.Z8 ea _ e1).2.1;obtain⟨⟨mA,ns,r,wi⟩,_⟩:=I1.Z8 dx _ e2;obtain⟨od,hI⟩:=kD I1.Z8 g hc hdi hda (λz e=>by cases e;exact⟨_,e2⟩)
 obtain⟨o,go,lo⟩:=zX ns;have hod:od=some o:=by
  have z:=hI.dict
  rw[hdi]at z;cases od with
  |none=>exact z.elim
  |some o'=>
   have z:s1.heap.get? dx=some o':=z
   rw[go]at z;exact z.symm
 subst hod;have rl:=r f
 rw[l]at rl;cases hu:mA f with
 |none=>rw[hu]at rl;exact rl.elim
 |some u=>
  rw[hu]at rl;exact HH Z I1.Y2 hI (W.findObj_own Z.cls n rfl (by rw[lo,hu])) (D4 rl) ⟨v,H1,I1.tok _,rl,q⟩
def O0:List V->Hp->VK->Prop:=λc H Q=>∃(p:Addr) (b:List Int),c=[.ref p]/\Z6 H p=some (b.map V.int)/\0<b.length/\∀m,m∈b->(∀a∈b,a<=m)->Q (.int m) H
def CV(G:X.calm=true):ZU X (.builtin "max") O0:=by
 intro M s U H N O Q I r h;obtain⟨p,d,rfl,D,S,q⟩:=h;obtain⟨u,rfl,n⟩:=dL r;cases n;obtain⟨c,x,C,R⟩:=I.list (bG D);have w:=C.isList
 have k:p<s.heap.objs.size:=by obtain⟨_,e,_⟩:=w;exact Av e
 have f:c.length=d.length:=by have:=x.length;rw[Ac]at this;((try clear R S k);omega)
 have l:∀i v,c.toArray[i]?=some v->∃t,v=Value.int (d.getD i 0) t:=λi v o=>by
  have g:c[i]?=some v:=by simpa using o
  have z:i<d.length:=by rw[<-f];exact(Ag.mp g).1
  obtain⟨u,y,n⟩:=x.get (show (d.map V.int)[i]?=some (.int d[i]) by rw[Ae,Aa z];rfl)
  rw[g]at y;cases y;obtain⟨t,rfl⟩:=n;exact⟨t,by rw[Ah,Aa z];rfl⟩
 refine call_max_walk (Dp w ?_);refine⟨s.heap.objs.size,[s.heap.objs.size,p],[s.heap.objs.size],c.toArray.size,_,_,_,rfl,Walks.list (A:=X.A.in1) (I.ok.hd G) _ p (Bb k) c.toArray,
  ⟨⟨_,Au _ rfl,rfl,rfl⟩,w.push _⟩,λb m=>?_,by rw[Az];((try clear R k);omega),CmpOf.ints_gt (λi=>d.getD i 0) l,λv T P o E=>?_⟩
 .rw[show ({s with heap:=_}:Shared).heap=_ from rfl]
  simp only[List.mem_cons,List.not_mem_nil,or_false]at m;rcases m with e|e
  .rw[e];simp[Heap.push]
  .rw[e];exact Nat.lt_of_lt_of_le k (by simp[Heap.push])
 .obtain⟨t,rfl⟩:=l _ _ o;obtain⟨K,B⟩:=argBest_gt (λi=>d.getD i 0) (c.toArray.size-1);rw[Az,f]at K B;have m:argBest (λi j=>decide (d.getD i 0>d.getD j 0)) (c.toArray.size-1)<d.length:=by rw[Az,f];((try clear R k);omega)
  refine⟨.int _,H,I.kept (LSm.kept_iter E),⟨_,rfl⟩,q _ ?_ λa J=>?_⟩
  .rw[Ah,Aa m];exact Co _
  .obtain⟨j,F,e⟩:=Dj.mp J;have:=B j (by ((try clear K R e k m);omega))
   rw[Az,f];rw[<-e];have L:d.getD j 0=d[j]:=by rw[Ah,Aa F];rfl
   rw[<-L];exact this
def J_(e:Z6 H p=some (ns.map V.int))(b:0<ns.length)(h:∀m,m∈ns->(∀a∈ns,a<=m)->Q (.int m) H):O0 [.ref p] H Q:=⟨p,ns,rfl,e,b,h⟩
noncomputable def btV(val:Nat->Int)(i j:Nat):Bool:=decide (val i>val j)
section
variable {R:Result->Shared->Prop} {J B:Addr} {us ws:List Addr} {P:Nat->Value->Prop} {St:Nat->Heap->Prop} {G:Shared->Prop} {val:Nat->Int}
def Le{j:Int}{t u:Tok}{Q:Q2}(h:Q (.bool (decide (i>j))) s):wpAny (model prog w) A (richCompare .Gt (.int i t) (.int j u)) Q E s:=
 CmpOf.ints_gt (P:=λk v=>(k=0->∃t,v=Value.int i t)/\(k=1->∃t,v=.int j t)/\k<=1) (λk=>if k=0 then i else j) (λk v a=>by grind) 0 1 _ _ s Q E ⟨λ_=>⟨t,rfl⟩,λe=>absurd e (by decide),by decide⟩ ⟨λe=>absurd e (by decide),λ_=>⟨u,rfl⟩,by decide⟩ h
def DE(W:Walks prog w A.in1 J us ws n P St)(L:B∉us)(I:∀s h' tk,G s->(∀b o,b∉ws->b≠B->s.heap.get? b=some o->h'.get? b=some o)->G {s with heap:=h',toks:=tk})(a:∀i v s (Q:Q2) (E:Q2),P i v->G s->(∀t s',G s'->(∀b o,b∈B::us->s.heap.get? b=some o->s'.heap.get? b=some o)->Q (.int (val i) t) s')->wpAny (model prog w) A.in1 (call (.ref f) [v]) Q E s)(S:∀z s',P (argBest (btV val) (n-1)) z->G s'->R (.ok (.ret z)) s'):∀r i s y t c,n-(i+1)=r->i+1<=n->St (i+1) s.heap->P (argBest (btV val) i) y->s.heap.get? B=some {cls:=.type "list",data:=.seq #[y,.int (val (argBest (btV val) i)) t] c}->G s->
 codeAny (model prog w) A (.builtin "max.loop" ⟨[.ref J,.ref f,.ref B],[]⟩) R s:=by
 have l:=λz=>L (W.sub _ z)
 have nm:(toString "max" ++ toString ".loop" : String)="max.loop" := by decide
 intro r;induction r with
 |zero=>
  intro i s y t c U hi st py m g;have en:i+1=n:=by omega
  refine Du Ho ?_;rw[Cy Dn _];show wpAny _ A.in1 (seqItems? (.ref B) >>= _) _ _ s
  refine Ad (wpAny_seqItems m rfl ?_);show wpAny _ A.in1 (tryCatch (pyNext (.ref J)) _ >>= _) _ _ s
  refine Ad (Ft (W.done s _ _ (en▸st) λh' tk kp=>?_));have j:=kp B _ l m
  show wpAny _ A.in1 (updateSeq B (λ_=>#[]) >>= _) _ _ _
  refine Ad (wpAny_updateSeq j rfl (Ad (wpAny_letGo (Ap ?_))));exact S y _ (by rw[<-en];exact py) (I s _ tk g λb o p D e=>(Bz _ _ (Ne.symm D)).trans (kp b o p e))
 |succ r N=>
  intro i s y t c U hi st py m g;have F:i+1<n:=by omega
  refine Du Ho ?_;rw[Cy Dn _];show wpAny _ A.in1 (seqItems? (.ref B) >>= _) _ _ s
  refine Ad (wpAny_seqItems m rfl ?_);show wpAny _ A.in1 (tryCatch (pyNext (.ref J)) _ >>= _) _ _ s
  refine Ad (Ft (W.item (i+1) s _ _ F st λz h' tk K x kp=>?_));have j:=kp B _ l m
  have T:G {s with heap:=h',toks:=tk}:=I _ _ tk g λb o p _ e=>kp b o p e
  show wpAny _ A.in1 (tryCatch (holding [z] (call (.ref f) [z])) _ >>= _) _ _ _
  refine Ad (Ft (By (a (i+1) z _ _ _ K T λu C O M=>?_)));have d:=M B _ Al j
  have k:=W.frame _ _ _ x λb H o e=>M b o (Am _ H) e
  show wpAny _ A.in1 (tryCatch (holding [z,.int (val (i+1)) u] (richCompare .Gt (.int (val (i+1)) u) (.int (val (argBest (btV val) i)) t) >>= _)) _ >>= _) _ _ _
  refine Ad (Ft (By (Ad (Le ?_))));refine Ad (By (Dz (Ad (wpAny_letGo (Ap ?_)))));have V:decide (val (i+1)>val (argBest (btV val) i))=btV val (i+1) (argBest (btV val) i):=rfl
  rw[V];cases e:btV val (i+1) (argBest (btV val) i) with
  |true=>
   simp only[if_true];refine Ad (wpAny_updateSeq d rfl (Ad (wpAny_letGo ?_)));rw[nm];have ea:argBest (btV val) (i+1)=i+1:=by unfold argBest;rw[e];rfl
   refine Ap ⟨Ej Dn _,N (i+1) _ z u _ (by ((try clear hi);omega)) F (W.frame _ _ _ k λb H o q=>(Bz _ _ (λy:B=b=>L (y▸H))).trans q) (by rw[ea];exact K) (by rw[ea];exact Ge _ d rfl) (I C _ C.toks O λb o p D q=>(Bz _ _ (Ne.symm D)).trans q)⟩
  |false=>
   simp only[Bool.false_eq_true,if_false];refine Ad (wpAny_letGo ?_);rw[nm]
   have ea : argBest (btV val) (i + 1) = argBest (btV val) i := by conv => lhs; unfold argBest; rw [e]
                                                                   rfl
   refine Ap ⟨Ej Dn _,N (i+1) C y t c (by ((try clear ea hi);omega)) F k (by rw[ea];exact py) (by rw[ea];exact d) O⟩
end
section
open PySem.W (KasT kas_sort kas_rev kas_asc kas_desc kas_tail3 kas_descPart kas_count kas_place kas_bin)
section
variable {r:Nat->Nat}
structure Ord (r:Nat->Nat) (n:Nat) (p:Array Nat):Prop where
 perm:p.toList.Perm (List.range n)
 inj:∀i j,i<n->j<n->r i=r j->i=j
def Ord.size(h:Ord r n p):p.size=n:=by
 have:=h.perm.length_eq
 simp_all
end
end
section
open PySem.W (CodeHd tabObj)
structure X3 (mg:Str->Option Value) (base:Heap) (c Pt:Addr):Prop where
 code:CodeHd base c Pt
 bm:∃bm ob,mg "__builtins__"=some (.ref bm)/\bm≠builtinsNs/\base.get? bm=some ob/\ob.cls=.type "module"/\ob.dict=some builtinsNs/\ob.data=.plain
def UB(h:Heap)(b:Str->Option Value)(x:Str)(c:Addr):Prop:=∃f o a,b x=some (.ref f)/\h.get? f=some o/\o.data=.func a/\a.code=.ref c
def F7{mb:Q6}{CX:XZ}{fa:Addr}{s₁:Shared}{vs:List Value}(KX:K.In s₁.heap)(hns:s₁.heap.Ns mainGlobals mg)(hb:s₁.heap.Ns builtinsNs mb)(hbb:∀x:Str,x≠"__name__"->mb x=bootBuiltins x)(hlim:s₁.heap.NoLimit)(hg:s₁.gens=#[])(ha:s₁.heap.get? a=some {cls:=.type "list",data:=.seq vs.toArray})(hi:IntsAre vs ns)(hl:ns.length<=sizeLine)(hr:Z4 k callerA)(hC:CodeHd s₁.heap c Pt)(hP:s₁.heap.get? Pt=some (tabObj #[]))(hbm:∃bm ob,mg "__builtins__"=some (.ref bm)/\bm≠builtinsNs/\s₁.heap.get? bm=some ob/\ob.cls=.type "module"/\ob.dict=some builtinsNs/\ob.data=.plain)(hKP:K.lookup Pt=none)(F:∀base,K.In base->base.Ns mainGlobals mg->X3 mg base c Pt->Z9 P w K mg base CX k fa fd [x] sp)(hbind:∀s u,BindsTo s fd ⟨[u],[]⟩ [(x,u)])(hsp:∀H,H Pt=some (.tbl #[])->Y6 K H a (ns.map V.int)->sp [.ref a] H (λv _=>v=.bl true) λ_ _ _=>False)(hCX:∀H e s',CX [] H s₁ (λ_ _ _=>False) e s'->False):codeAny (model P w) callerA (.call (.ref fa) ⟨[.ref a],[]⟩) (λr s'=>r=.ok (.ret (.bool true))/\OldK s₁.heap s'.heap/\s'.os=s₁.os/\AllBare s'.gens) s₁:=by
 have rv:=Ro hi
 have lenV:=hi.length
 have naP:a≠Pt:=λz=>by rw[z,hP]at ha;cases ha
 have core:∀ H,(∀ b,H b=none\/(∃ o xs,H b=some (.frz o (.lst xs)))\/b=Pt)->H Pt=some (.tbl #[])->Y6 K H a (ns.map V.int)->Y_ P w H s₁.heap->(∀ b,H b≠none->b=a\/b=Pt)->(H a≠none->K.lookup a=none)->
     codeAny (model P w) callerA (.call (.ref fa) ⟨[.ref a],[]⟩) (λr s'=>r=.ok (.ret (.bool true))/\OldK s₁.heap s'.heap/\s'.os=s₁.os/\AllBare s'.gens) s₁:=by
  intro H hO hHP hS Z8 hA hK;have base_of:∀ {b:Addr} {o:Obj},s₁.heap.get? b=some o->H b=none->(yZ s₁.heap H).get? b=some o:=λe n=>DK e n
  have noT:∀ {b:Addr} {o:Obj},s₁.heap.get? b=some o->(∀its n,o.data≠.seq its n)->(∀ps,o.cls=.none->o.data≠.fields ps)->H b=none:=fun {b o} e d d2=>by
   cases q:H b with
   |none=>rfl
   |some u=>
    rcases hA b (by rw[q];simp) with e'|e'
    .subst e';rw[ha]at e;cases e;exact absurd rfl (d _ _)
    .subst e';rw[hP]at e;cases e;exact absurd rfl (d2 _ rfl)
  have noA:∀ {b:Addr} {o:Obj} {es:Array DictEntry} {ep:Nat},s₁.heap.get? b=some o->o.data=.dict es ep->H b=none:=fun {b o es ep} e d=>noT e (λ_ _ z=>by rw[d]at z;cases z) λ_ _ z=>by rw[d]at z;cases z
  have nsK:∀ {b:Addr} {m:Q6},s₁.heap.Ns b m->(yZ s₁.heap H).Ns b m:=fun {b m} ⟨o,es,ep,e,d,r⟩=>⟨o,es,ep,base_of e (noA e d),d,r⟩
  have hKb:=λb o e=>base_of (KX b o e) (by
   cases q:H b with
   |none=>rfl
   |some u=>
    rcases hA b (by rw[q];simp) with e'|e'
    .subst e';rw[hK (by rw[q];simp)]at e;cases e
    .subst e';rw[hKP]at e;cases e)
  have hM:Mod K mg (yZ s₁.heap H):=⟨hKb,nsK hns,⟨mb,nsK hb,hbb⟩,let ⟨mc,h1,h2⟩:=hlim;⟨mc,nsK h1,h2⟩⟩
  have hLB:X3 mg (yZ s₁.heap H) c Pt:=by
   refine⟨?_,?_⟩
   .obtain⟨o,vs,file,tf,flags,tg,inF,text,tt,e,ecl,eda,r⟩:=hC;exact⟨o,vs,file,tf,flags,tg,inF,text,tt,base_of e (noT e (λ_ _ z=>by rw[eda]at z;cases z) λ_ z=>by rw[ecl]at z;cases z),ecl,eda,r⟩
   .obtain⟨bm,ob,b1,b2,b3,b4,b5,b6⟩:=hbm;exact⟨bm,ob,b1,b2,base_of b3 (noT b3 (λ_ _ z=>by rw[b6]at z;cases z) λ_ z=>by rw[b4]at z;cases z),b4,b5,b6⟩
  have e0:XT P w K mg (yZ s₁.heap H) callerA [] s₁ H:=⟨rfl,hM,λb o e=>FH e,Nat.le_of_eq (HK _ _),trivial,λb hb=>absurd (show b∈([]:List Addr) from hb) (by simp),Z8,.of_eq hg⟩
  refine Ff ((F _ hKb (nsK hns) hLB).run callerA [] s₁ H ⟨[.ref a],[]⟩ [.ref a] [.ref a] _ _ hr e0 (hbind s₁ (.ref a)) (.cons rfl .nil) (hsp H hHP hS)) λr s' h=>?_;cases r with
  |error e=>exact(hCX H e s' h).elim
  |ok fl=>
   cases fl with
   |next=>exact False.elim h
   |brk=>exact False.elim h
   |cont=>exact False.elim h
   |ret u=>
    obtain⟨v,H',os,bare,un,hok',r',q⟩:=h;have q':=q
    subst q';obtain rfl:u=Value.bool true:=r';refine⟨rfl,⟨λb o e=>?_,λb o e=>?_⟩,os,bare⟩
    .cases q:H b with
     |none=>exact .inl (un.keep b o e q (by intro z;exact absurd (show b∈([]:List Addr) from z) (by simp)) (by simp))
     |some u=>
      rcases hO b with z|⟨ob,xs,z⟩|z
      .rw[q]at z;cases z
      .have z2:=un.frzs b ob _ z
       obtain⟨e1,_⟩:=Z8 b _ z;obtain⟨e2,_⟩:=hok' b _ z2;rw[e]at e1;cases e1;exact .inl e2
      .subst z;rw[hP]at e;cases e;obtain⟨more,z2⟩:=un.tbls b _ hHP;exact .inr (.inl ⟨(hC.tab hP).isCodeTable,rfl,#[],more,rfl,hok' b _ z2⟩)
    .exact un.there b o e (by simp)
 have tblOk:∀H,H Pt=some (.tbl #[])->ZW P w H s₁.heap Pt (.tbl #[]):=λ_ _=>hP
 cases hk:K.lookup a with
 |some o=>
  have e:=KX a o hk
  rw[ha]at e;cases e;refine core (λb=>if b=Pt then some (.tbl #[]) else none) (λb=>?_) (if_pos rfl) (.inr ⟨_,vs.toArray,_,hk,rfl,rfl,rfl,by rw[List.size_toArray,lenV];exact hl,by simpa using rv⟩) (λb u z=>?_) (λb z=>?_) λz=>?_
  .by_cases hb:b=Pt
   .exact .inr (.inr hb)
   .exact .inl (if_neg hb)
  .by_cases hb:b=Pt
   .have z':=(if_pos hb).symm.trans z
    cases z';subst hb;exact hP
   .have z':=(if_neg hb).symm.trans z
    cases z'
  .by_cases hb:b=Pt
   .exact .inr hb
   .exact absurd (if_neg hb) z
  .exact absurd (if_neg naP) z
 |none=>
  refine core (λb=>if b=a then some (.frz {cls:=.type "list",data:=.seq vs.toArray} (.lst (ns.map V.int))) else if b=Pt then some (.tbl #[]) else none) (λb=>?_) ((if_neg naP.symm).trans (if_pos rfl)) (.inl (.inr ⟨{cls:=.type "list",data:=.seq vs.toArray},if_pos rfl⟩)) (λb u z=>?_) (λb z=>?_) λ_=>hk
  .by_cases hb:b=a
   .exact .inr (.inl ⟨_,_,if_pos hb⟩)
   .by_cases hb2:b=Pt
    .exact .inr (.inr hb2)
    .exact .inl ((if_neg hb).trans (if_neg hb2))
  .by_cases hb:b=a
   .have z':=(if_pos hb).symm.trans z
    cases z';subst hb;exact⟨ha,by rw[Ac];exact hl,vs,_,rv,ha⟩
   .by_cases hb2:b=Pt
    .have z':=((if_neg hb).trans (if_pos hb2)).symm.trans z
     cases z';subst hb2;exact hP
    .have z':=((if_neg hb).trans (if_neg hb2)).symm.trans z
     cases z'
  .by_cases hb:b=a
   .exact .inl hb
   .by_cases hb2:b=Pt
    .exact .inr hb2
    .exact absurd ((if_neg hb).trans (if_neg hb2)) z
def IJ{l:W.OpenLaw}{n k:Nat}{q:Program}{t:List Str}{XP:(Q6)->Heap->Prop}{YP:World->Heap->Prop}{d d2:DefRec}{K:Params->W.Frag}{CX:World->XZ}{sp:World->Addr->Sp}(hn:l.most=some n)(I:n<=sizeLine)(L:d.params.defaults=[])(hr:Z4 k callerA)(M:d2∈recsOf q)(E:∀w:World,W.noTabs (K w.params)=true)(hY:∀(w:World) (h:Heap),YP w h->(K w.params).In h)(F:∀(w:World) (p:Q6) (B:Addr) (h:Heap) (c j:Addr),(K w.params).In h->h.Ns mainGlobals p->p d.name=some (.ref B)->UB h p d2.name c->
 ∃Q:FuncData,(∀(s:Shared) (u:Value),BindsTo s Q ⟨[u],[]⟩ [(x,u)])/\
  ∀i:Heap,(K w.params).In i->i.Ns mainGlobals p->X3 p i c j->Z9 l.prog w (K w.params) p i (CX w) k B Q [x] (sp w j))(D:∀(w:World) (H:Hp) (a j:Addr) (A:List Int),A.length<=n->H j=some (.tbl #[])->Y6 (K w.params) H a (A.map V.int)->sp w j [.ref a] H (λv _=>v=.bl true) λ_ _ _=>False)(O:∀(w:World) (H:Hp) (s:Shared) (e:Value) (C:Shared),CX w [] H s (λ_ _ _=>False) e C->False):W.WalkO q t XP YP l.row.toRowW d [] (λf S=>PySem.call f S):=by
 refine Att.X4 hn L λw X m p mb B o pm cd a3 a S A G Y ho hd a1 J z y r hg=>?_;have R:=hY w _ Y
 obtain⟨a2,o2,P,c,j,t1,t2,t3,t4,t5,U⟩:=G.T.tab d2 M;have hC:=CodeHd.of t5 U
 have Z:m.heap.get? j=some (tabObj #[]):=U.2
 have N:(K w.params).lookup j=none:=by
  cases e:(K w.params).lookup j with
  |none=>rfl
  |some o=>
   have h1:=R _ _ e
   rw[Z]at h1;cases h1;have h2:=Bv.mp (E w) (j,tabObj #[]) (W.mem_of_lookupK e)
   exact absurd (show false=true from h2) Aq
 obtain⟨Q,hb,hF⟩:=F w p B _ c j R G.T.g J ⟨a2,o2,P,t1,t2,t3,t4⟩;exact F7 R G.T.g G.T.b G.T.builtins G.T.nolimit hg z y (Cd r I) hr hC Z G.T.bmain N hF hb (λH hO hS=>D w H a j A r hO hS) λH e C=>O w H m e C
def ZQ.IT{ps:List Str}(F:ZQ K x qual st f fd)(o:fd.code=.ref c)(S:Z_ N ps (aJ st))(g:∀d H Q E,sp d H Q E->d.length=ps.length)(e:∀b A a s H d Q E,b=.ref c->Z4 k (A.deeper (envOfC qual (aJ st) s.heap.objs.size f b))->sp d H Q E->
 ∃t,Yg (iQ ZO P w K mg base N qual (aJ st) f b A a s H E).Xf (gI st) t/\t {nx:=λ_ r=>Q .non r,rt:=Q} (oS N d) H):Z9 P w K mg base ZO (k+1) f fd ps sp:=by
 obtain⟨y,v,z,p,u,C,b,B,l,rfl,m,j⟩:=F.ex;refine S4 m j S g λA a s H d Q E n i=>?_;obtain⟨t,h,q⟩:=e b A a s H d Q E o n i;exact⟨t,h.Xf,q⟩
def Ny{e:Value}{d:Option Addr}{a:Array _}(T:UB h mg x c)(n:K.In h)(i:mg x=some (.ref f))(g:K.lookup f=some ⟨e,d,.func fd,a⟩):fd.code=.ref c:=by
 obtain⟨q,p,j,b,m,l,k⟩:=T;have:=n _ _ g
 grind
end
section
open PySem.W (CodeHd tabObj kla_obj kla_fn envX)
noncomputable def vR(c:Addr)(q:Str):HO:=.ext λh=>h.CodeRec (.ref c) q
def GD{q:Str}(r:h.CodeRec (.ref c) q):ZW P w H h c (vR c q):=by
 obtain⟨n,a,d,t,e,b,g,f⟩:=id r;cases e;refine⟨r,⟨a,b⟩,λl j i k=>?_⟩;obtain⟨m,a,d,t,e,b,g,f⟩:=i;cases e;exact⟨_,a,d,t,rfl,k _ b,g,f⟩
def YZ(b:Addr)(q:Str)(a:Pos)(H:Hp):Prop:=H b=some (.tbl #[])\/∃c,H b=some (.tbl (#[]++#[rawInt a.line,rawInt a.col,.ref c]))/\H c=some (vR c q)
def ZT(a:Addr)(H c:Hp):Prop:=∀b o,b≠a->H b=some o->c b=some o
def ZT.trans(a:ZT Pt H H1)(b:ZT Pt H1 H2):ZT Pt H H2:=λc o n e=>b c o n (a c o n e)
def Same.p(s:Same H H'):ZT Pt H H':=λb o _ e=>s b o e
def YZ.keep{q:Str}{H:Hp}(h:YZ Pt q pos H)(s:Same H H'):YZ Pt q pos H':=by
 rcases h with h|⟨c,b,a⟩
 .exact .inl (s _ _ h)
 .exact .inr ⟨c,s _ _ b,s _ _ a⟩
def YZ.tb{q:Str}(h:YZ Pt q pos H):∃a,H Pt=some (.tbl a):=by
 rcases h with h|⟨c,b,d⟩
 .exact⟨_,h⟩
 .exact⟨_,b⟩
structure X7 (X:Cx) (N:List Str) (scope:Scope) (cl:List (Str×Addr)) (vals:St->St) (x:Str):Prop where
 clos:closureFor scope X.env=pure cl
 sub:∀y c,cl.lookup y=some c->X.env.cells.lookup y=some c
 has:∀y,(scope.names.lookup y=some .cell\/scope.names.lookup y=some .free)->∃c,cl.lookup y=some c
 len:∀U,(vals U).length+1=N.length
 par:N[0]?=some x/\scope.names.lookup x=some .local
 val:∀U (i:Nat) y v,N[i+1]?=some y->(vals U)[i]?=some (some v)->∃(j:Nat),X.N[j]?=some y/\U[j]?=some (some v)/\X.env.scope.names.lookup y=some .cell/\(∃c,cl.lookup y=some c)/\scope.names.lookup y=some .free
noncomputable def Sr(a:List Nat):St->St:=λU=>a.map λj=>(U[j]?).join
noncomputable def N0(N c:List Str)(sn b:List (Str×NameKind))(a:List Nat)(x:Str):Bool:=
 (a.length+1==N.length)&&(N[0]? == some x)&&(sn.lookup x==some .local)&&(sn.all λy=>y.2 != .cell&&(y.2 != .free || b.lookup y.1==some .cell)) &&
 ((List.range a.length).all λi=>match a[i]? with|some j=>N[i+1]? == c[j]? && (match N[i+1]? with|some y=>sn.lookup y==some .free|none=>false)|_=>true)
def mO{k:α}:∀ {l:List (Str×α)},l.lookup x=some k->(x,k)∈l:=fun {l} h=>De h
def FT(C:List Str)(u:Scope)(s:List Nat)(G:X.N=C)(A:X.env.scope=u)(h:∀x,u.names.lookup x=some .cell->∃c,X.env.cells.lookup x=some c)(d:N0 N C scope.names u.names s x=true):X7 X N scope (Xw X.env scope.names []) (Sr s) x:=by
 unfold N0 at d;simp only[Bool.and_eq_true]at d;obtain⟨⟨⟨⟨L,K⟩,J⟩,I⟩,H⟩:=d;have l:=Bv.mp I
 have B:∀y,(y,NameKind.free)∈scope.names->∃c,X.env.cells.lookup y=some c:=λy a=>by
  have:=l _ a
  simp at this;exact h y this
 have b:∀y,scope.names.lookup y=some .free->∃c,(Xw X.env scope.names []).lookup y=some c:=λy a=>Dt.mp (pV scope.names [] (mO a))
 refine⟨?_,λy c e=>?_,λy a=>?_,λU=>?_,⟨by simpa using K,by simpa using J⟩,λU i y v M m=>?_⟩
 .unfold closureFor;exact(congrArg (· >>= λr=>pure r) (uV scope.names [] λy a D=>by obtain⟨n,k⟩:=y;cases (show k=.free from D);exact B n a)).trans (by simp)
 .rcases uY scope.names [] e with z|⟨z,rfl⟩
  .cases z
  .obtain⟨c,F⟩:=B y z;rw[F];rfl
 .rcases a with a|a
  .have:=l _ (mO a)
   simp at this
  .exact b y a
 .unfold Sr;rw[Ac]
  simpa using L
 .unfold Sr at m;rw[Ae]at m;cases t:s[i]? with
  |none=>rw[t]at m;cases m
  |some j=>
   rw[t]at m;have f:(U[j]?).join=some v:=Ay m
   have E:=(Ag.mp t).1
   have g:=Bv.mp H i (Cu.mpr E)
   rw[t]at g;dsimp only at g;rw[M]at g;simp at g;have w:U[j]?=some (some v):=by
    cases q:U[j]? with
    |none=>rw[q]at f;cases f
    |some o=>rw[q]at f;exact Ds some f
   have p:=l _ (mO g.2)
   simp at p;exact⟨j,by rw[G];exact g.1.symm,w,by rw[A];exact p,b y g.2,g.2⟩
noncomputable def Uv(X:Cx)(A:Around)(N:List Str)(q:Str)(scope:Scope)(cl:List (Str×Addr))(f c:Addr)(s₀:Shared)(H₀:Hp):Cx where
 prog:=X.prog
 w:=X.w
 K:=X.K
 mg:=X.mg
 base:=X.base
 A:=A.deeper (envX q scope s₀.heap.objs.size f (.ref c) cl)
 N:=N
 s₀:=s₀
 H₀:=H₀
 env:=envX q scope s₀.heap.objs.size f (.ref c) cl
 outer:=X.stack
 stack:=envX q scope s₀.heap.objs.size f (.ref c) cl::X.stack
 ex:=[]
 fn:=λ_=>false
 calm:=true
 pn:=[]
 xe:=λ_ _=>False
section
variable {U:St} {q:Str} {vals:St->St} {c':Addr}
def HL{v:Value}(I:Inv X y0 U H s)(a:X7 X N scope cl vals x)(S:A.frames=some X.stack)(Q:A.handled=none)(k:scope.kind=.function)(M:RelV y v)(B:h1.Ns s.heap.objs.size λz=>[(x,v)].reverse.lookup z)(t:Heap.SameBut s.heap.objs.size (s.heap.push {cls:=.type "frame",data:=.dict #[]}) h1):Inv (Uv X A N q scope cl f c' s H) [] (some y::vals U) H {s with heap:=h1,toks:=t1}:=by
 have d:∀b o,s.heap.get? b=some o->h1.get? b=some o:=λb o e=>(t.2 b (Bb (Av e))).trans (Af _ e)
 have R:=I.Z8.fresh (Ai _)
 have g:∀b,b∉(Uv X A N q scope cl f c' s H).ex:=λb z=>absurd (show b∈([]:List Addr) from z) (by simp)
 refine⟨⟨I.ok.mod,k,rfl,rfl,Ai _,λy z c h1 h2=>I.ok.inj y z c (a.sub y c h1) (a.sub z c h2),a.has,(λx c h=>nomatch h),λ_=>Q,Around.frames_deeper S,.inr ⟨rfl,rfl⟩,λb z=>absurd z (g b),
  I.bs,Nat.le_trans I.ok.XF I.sz,λb _ _=>g b,λb z=>absurd z (g b),I.stack,I.YY⟩,rfl,I.bare,Un.kept d,⟨_,B,λi z E K J _=>?_⟩,λy c e=>?_,R,λy c e=>I.ZI y c (a.sub y c e),λp O=>absurd (show p∈([]:Q4) from O) (by simp),I.Z8.kept d,?_⟩
 .cases i with
  |zero=>
   have n:N[0]?=some z:=K
   rw[a.par.1]at n;cases n;cases J;refine⟨v,M,.inl ⟨a.par.2,?_⟩⟩;show [(x,v)].lookup x=some v
   rw[Cs,Ey]
  |succ i=>
   obtain⟨j,h1,h2,G,⟨c,F⟩,T⟩:=a.val U i z E K J;obtain⟨m,V,P⟩:=I.loc;obtain⟨u,r,l⟩:=P j z E h1 h2 (.inr (.inl G));refine⟨u,r,.inr ⟨.inr T,c,F,?_⟩⟩;rcases l with⟨z',_⟩|⟨_,c',L,z'⟩
   .have D:X.env.scope.names.lookup z=some .local:=z'
    rw[G]at D;cases D
   .rw[a.sub z c F]at L;cases L;obtain⟨o,w,C⟩:=z';exact⟨o,d _ o w,C⟩
 .obtain⟨v,o,w,C⟩:=I.cell y c (a.sub y c e);exact⟨v,o,d _ o w,C⟩
 .show (some y::vals U).length=N.length
  rw[Be];exact a.len U
def KZ{a:Expr}{pm ctv v:Value}{y:V}{o:TE}{Q:VK}(I:Inv X y0 U H s)(t:X7 X N scope cl vals x)(K:A.frames=some X.stack)(E:A.handled=none)(b:A.depth<recursionLimit)(F:s.heap.get? f=some (kla_obj "<lambda>" q params a scope cl pm c' ctv))(n:s.heap.CodeRec (.ref c') q)(m:scope.isCoroutine=false)(j:scope.isGenerator=false)(p:scope.kind=.function)(d:∀z∈scope.names,z.2≠.cell)(g:bindArgs (kla_fn "<lambda>" q params a scope cl pm (.ref c') ctv) ⟨[v],[]⟩=pure [(x,v)])(C:RelV y v)(G:PE (Uv X A N q scope cl f c' s H) a o)(h:o (some y::vals U) H Q):codeAny (model X.prog X.w) A (.call (.ref f) ⟨[v],[]⟩) (λr k=>match r with|.ok (.ret u)=>CE X.stack X.prog X.w H s Q u k|_=>False) s:=by
 refine W.kla_callFunE b F rfl m j rfl n ?_;rw[g];refine Ap (wpAny_newFunctionEnv d (λz D=>by rw[Ak.mp D];exact t.par.2) (λO l i=>⟨(I.nolimit).fresh _ i,?_⟩) p)
 refine W.kla_codeExpr ?_;have L:=HL (A:=A) (q:=q) (f:=f) (c':=c') (t1:=s.toks+[(x,v)].length) I t K E p C l i
 exact Ck (G [] _ _ H _ L h) (λu k ⟨B,M,J,r,q⟩=>⟨B,M,J.os,J.bare,J.base,J.Z8,r,q⟩) λe k z=>z.elim
def Inv.table{ps d:Array Value}{t':Nat}(I:Inv X y0 U H s)(j:H Pt=some (.tbl ps))(g:Heap.ExtBut Pt s.heap h')(k:h'.get? Pt=some (tabObj (ps++d))):Inv X y0 U (upd H Pt (.tbl (ps++d))) {s with heap:=h',toks:=t'}:=by
 have a:∀b u,H b=some u->(∀z,u≠.tbl z)->b≠Pt:=λb u e n z=>by rw[z,j]at e;cases e;exact n _ rfl
 have i:∀b,H b=none->b≠Pt:=λb e z=>by rw[z,j]at e;cases e
 refine I.un ⟨λb o e n _ _=>g b o (i b n) e,λb o e n _ _=>⟨o.slots,g b o (i b n) e⟩,λb o e n _=>by rw[aK (i b n)];exact n,λb o e _=>?_,λb l e=>by rw[aK (a b _ e λ_=>nofun)];exact e,λb o u e=>by rw[aK (a b _ e λ_=>nofun)];exact e,λb p e=>?_⟩ λb u e=>?_
 .by_cases f:b=Pt
  .exact⟨_,f▸k⟩
  .exact⟨o,g b o f e⟩
 .by_cases f:b=Pt
  .subst f;rw[j]at e;cases e;exact⟨d,aG⟩
  .exact⟨#[],by rw[aK f,e];simp⟩
 .by_cases f:b=Pt
  .subst f;rw[aG]at e;cases e;exact k
  .rw[aK f]at e;refine(I.Z8 b u e).Zl (λc v m q=>g c v ?_ q) (λc q=>by rw[aK (a c _ q λ_=>nofun)];exact q) λc l q=>by rw[aK (a c _ q λ_=>nofun)];exact q
   rcases m with z|z
   .rw[z];exact f
   .exact a c _ z λ_=>nofun
def Inv.Tf(I:Inv X y0 U H s)(h:b∈X.fs):b<s.heap.objs.size:=by
 obtain⟨_,c,a,_⟩:=I.ok.Zf.mem h;exact Bc (Av a) I.sz
noncomputable def Wm(f:Addr)(o:Obj):HO:=.ext λh=>h.get? f=some o
def O7(e:h.get? f=some o):ZW P w H h f (Wm f o):=⟨e,⟨o,e⟩,λc b a k=>k o a⟩
def BX(j:Addr)(q:Str)(a:Arguments)(e:Expr)(b:Scope)(l:List (Str×Addr))(d:Pos):TE:=λU H Q=>YZ j q d H/\∀f i k h g,ZT j H g->YZ j q d g->g i=some (vR i q)->g f=some (Wm f (kla_obj "<lambda>" q a e b l k i h))->Q (.ref f) g
def HC{d:Expr}(ck:X7 X N scope cl vals x)(j:X.env.code=.ref c)(LB:X3 X.mg X.base c Pt)(E:defaultsOf params X.env=([],[])):PE X (.Lambda params d scope pos) (BX Pt (X.env.qual ++ "<lambda>") params d scope cl pos):=by
 intro y0 s U H Q I hT;obtain⟨T,h⟩:=hT;refine W.kla_eval E ?_;generalize X.env.qual ++ "<lambda>"=q at T h ⊢;have hg:=I.mod.glob.keeps I.bk
 obtain⟨L,y⟩:=T.tb;have V:=I.Z8 Pt _ y
 obtain⟨Y,ob,b1,b2,J,b4,b5,Z⟩:=LB.bm;have S:Y≠mainGlobals:=λz=>by
  obtain⟨o,es,ep,e,hd,_⟩:=I.mod.glob;rw[z,e]at J;cases J;rw[hd]at Z;cases Z
 have R:Y≠Pt:=λz=>by
  have:=(I.bs _ _ J).2
  rw[z,y]at this;cases this
 have O:mainGlobals≠Pt:=λz=>by
  obtain⟨o,es,ep,e,hd,_⟩:=I.mod.glob;have:=(I.bs _ _ e).2
  rw[z,y]at this;cases this
 have hB:s.heap.BuiltinsAt X.mg Pt:=⟨Y,ob,b1,b2,S,R,I.bk _ _ J,b4,b5,Z⟩
 have r:=Av V
 rcases T with T|⟨f,T,Tc⟩
 .have w:=I.Z8 Pt _ T
  refine W.kla_makeFunction ck.clos I.ok.glob hg j (LB.code.keeps I.bk) w trivial rfl O hB λf g h' F hx i D C M=>?_;have I1:=I.table (t':=F) T hx M
  have k:=Cd i (Nat.le_of_lt D)
  have nc:=Fe (Bc r i)
  have P:(upd H Pt (.tbl (#[]++#[rawInt pos.line,rawInt pos.col,.ref f]))) f=none:=by rw[aK nc];exact I.Z8.fresh i
  have G:=I.YD i
  have I2:=I1.adopt (a:=f) (o:=vR f q) ⟨G.s0,G.loc,G.cell,G.pin⟩ P (GD C)
  have I3:=I2.kept (t':=F) (h':=h'.push (kla_obj "<lambda>" q params d scope cl ((X.mg "__name__").getD .none) f g)) λb u e=>Af _ e
  have A:=Fe (Bc r k)
  have v:=Fe D
  have m:=I.YD k
  have l:(upd (upd H Pt (.tbl (#[]++#[rawInt pos.line,rawInt pos.col,.ref f]))) f (vR f q)) h'.objs.size=none:=by
   rw[aK v,aK A];exact I.Z8.fresh k
  have I4:=I3.adopt (a:=h'.objs.size) (o:=Wm h'.objs.size (kla_obj "<lambda>" q params d scope cl ((X.mg "__name__").getD .none) f g)) ⟨m.s0,m.loc,m.cell,m.pin⟩ l (O7 (Au _ rfl))
  refine⟨.ref h'.objs.size,_,I4,rfl,h h'.objs.size f ((X.mg "__name__").getD .none) g _ (λb o n e=>?_) (.inr ⟨f,?_,?_⟩) ?_ aG⟩
  .rw[aK (λz=>by rw[z,I.Z8.fresh k]at e;cases e),aK (λz=>by rw[z,I.Z8.fresh i]at e;cases e),aK n]
   exact e
  .rw[aK A.symm,aK nc.symm];exact aG
  .rw[aK v.symm];exact aG
  .rw[aK v.symm];exact aG
 .have w:=I.Z8 Pt _ T
  refine W.kla_makeFunctionHit (cv:=.ref f) ck.clos I.ok.glob hg j (LB.code.keeps I.bk) w trivial (codeAmong_snoc [] trivial rfl) hB λg h' F hk B=>?_;have I3:=I.kept (t':=F) (h':=h'.push (kla_obj "<lambda>" q params d scope cl ((X.mg "__name__").getD .none) f g)) λb u e=>Af _ (hk b u e)
  have m:=I.YD B
  have l:=I.Z8.fresh B
  have I4:=I3.adopt (a:=h'.objs.size) (o:=Wm h'.objs.size (kla_obj "<lambda>" q params d scope cl ((X.mg "__name__").getD .none) f g)) ⟨m.s0,m.loc,m.cell,m.pin⟩ l (O7 (Au _ rfl))
  have K:=aE l (Wm h'.objs.size (kla_obj "<lambda>" q params d scope cl ((X.mg "__name__").getD .none) f g))
  exact⟨.ref h'.objs.size,_,I4,rfl,h h'.objs.size f ((X.mg "__name__").getD .none) g _ (Same.p K) (YZ.keep (.inr ⟨f,T,Tc⟩) K) (K _ _ Tc) aG⟩
end
end
section
open PySem.W (CodeHd tabObj kla_obj kla_fn envX)
def EK(a v:Value):argsOk "max" ⟨[a],[(Str.ofString "key",v)]⟩:=by unfold argsOk;kernel_rfl
section
variable {l:Addr} {its:List Value} {G:Shared->Prop} {val:Nat->Int} {Q:Q2}
def L8(U:s.heap.IsList l its.toArray)(S:0<its.length)(hh:A.handled=none)(V:∀m y,(∀b o,s.heap.get? b=some o->m.get? b=some o)->G {s with heap:=m,toks:=y})(X:∀a m y,G a->(∀b o,b≠s.heap.objs.size->b≠s.heap.objs.size+1->a.heap.get? b=some o->m.get? b=some o)->G {a with heap:=m,toks:=y})(d:∀i v a (Q:Q2) (E:Q2),its[i]?=some v->G a->(∀t j,G j->(∀b o,(b=s.heap.objs.size\/b=s.heap.objs.size+1\/b=l)->a.heap.get? b=some o->j.heap.get? b=some o)->Q (.int (val i) t) j)->wpAny (model prog w) A.in1 (call (.ref f) [v]) Q E a)(hQ:∀z j,its[argBest (btV val) (its.length-1)]?=some z->G j->Q z j):wpAny (model prog w) A (call (.builtin "max") [.ref l] [(Str.ofString "key",.ref f)]) Q E s:=by
 have c:(toString "max" ++ toString ".loop" : String)="max.loop" := by decide
 obtain⟨ol,R,_⟩:=id U;have D:=Av R
 refine kmk_tree PySem.F.kind_max PySem.F.plain_max PySem.F.entry_max (EK _ _) ?_;show wpAny _ A.in1 (Builtin.Builtins.bindParams "max" ["key", "default"] 0 ⟨[],[(Str.ofString "key",.ref f)]⟩ >>= _) _ _ s
 refine Ad (wpAny_of_eq (show Builtin.Builtins.bindParams "max" ["key", "default"] 0 ⟨[],[(Str.ofString "key",.ref f)]⟩=pure [some (.ref f),none] from rfl) ?_);refine Ad (Ap ?_);refine Ad (Dp U ?_);refine Ad (wpAny_newList ?_ (Do _));rw[c];have hS:(s.heap.push {cls:=.type "list_iterator",data:=.fields #[.ref l,.int 0 0]}).objs.size=s.heap.objs.size+1:=by rw[Fq]
 have O:=Bb D
 have P:=Bb (Nat.lt_succ_of_lt D)
 have W:=Walks.list (prog:=prog) (w:=w) (A:=A.in1) hh s.heap.objs.size l O its.toArray
 have C:its.toArray.size=its.length:=Az ..
 have nB:s.heap.objs.size+1∉[s.heap.objs.size,l]:=λz=>by
  simp only[List.mem_cons,List.not_mem_nil,or_false]at z;rcases z with z|z
  .exact Nat.succ_ne_self _ z
  .exact P z.symm
 rw[hS];refine Ap ⟨Ej Dn _,?_⟩;generalize n:(s.heap.push {cls:=.type "list_iterator",data:=.fields #[.ref l,.int 0 0]}).push {cls:=.type "list",data:=.seq #[]}=q;have k0:∀b o,s.heap.get? b=some o->q.get? b=some o:=λb o e=>by rw[<-n];exact Af _ (Af _ e)
 have gJ:q.get? s.heap.objs.size=some {cls:=.type "list_iterator",data:=.fields #[.ref l,.int 0 0]}:=by rw[<-n];exact Af _ (Au _ rfl)
 have gB:q.get? (s.heap.objs.size+1)=some {cls:=.type "list",data:=.seq #[]}:=by rw[<-n,<-hS];exact Au _ rfl
 have T:q.IsList l its.toArray:=by obtain⟨o,e,r⟩:=U;exact⟨o,k0 _ _ e,r⟩
 refine Du Ho ?_;rw[Cy Dn _];show wpAny _ A.in1 (seqItems? (.ref (s.heap.objs.size+1)) >>= _) _ _ _
 refine Ad (wpAny_seqItems gB rfl ?_);show wpAny _ A.in1 (tryCatch (pyNext (.ref s.heap.objs.size)) _ >>= _) _ _ _
 refine Ad (Ft (W.item 0 _ _ _ (by rw[C];exact S) ⟨⟨_,gJ,rfl,rfl⟩,T⟩ λv m x hP N H=>?_))
 have hv:its[0]?=some v:=by simpa using hP
 have g1:G {s with heap:=m,toks:=x}:=by
  refine X {s with heap:=q,toks:=s.toks} m x (V q s.toks k0) λb o L K e=>H b o (λz=>L (by simpa using z)) e
 have Y:=H (s.heap.objs.size+1) _ (λz=>absurd (show s.heap.objs.size+1=s.heap.objs.size by simpa using z) (Nat.succ_ne_self _)) gB
 show wpAny _ A.in1 (tryCatch (holding [v] (call (.ref f) [v])) _ >>= _) _ _ _
 refine Ad (Ft (By (d 0 v _ _ _ hv g1 λZ s2 g2 k2=>?_)));have I:=k2 _ _ (.inr (.inl rfl)) Y
 have M:=W.frame _ _ _ N λb p o e=>k2 b o (by
  simp only[List.mem_cons,List.not_mem_nil,or_false]at p;rcases p with z|z
  .exact .inl z
  .exact .inr (.inr z)) e
 show wpAny _ A.in1 (updateSeq (s.heap.objs.size+1) (λ_=>#[v,.int (val 0) Z]) >>= _) _ _ _
 refine Ad (wpAny_updateSeq I rfl ?_);rw[c];refine Ap ⟨Ej Dn _,?_⟩;refine DE (J:=s.heap.objs.size) (B:=s.heap.objs.size+1) (f:=f) (G:=G) (val:=val) W nB (λa h1 y g k=>X a h1 y g λb o L K e=>k b o (λz=>L (by simpa using z)) K e)
  (λi u a Q1 E1 hu g k=>d i u a Q1 E1 (by simpa using hu) g λt s3 g3 k3=>k t s3 g3 λb o p e=>k3 b o (by
   simp only[List.mem_cons,List.not_mem_nil,or_false]at p;rcases p with z|z|z
   .exact .inr (.inl z)
   .exact .inl z
   .exact .inr (.inr z)) e)
  (λz j pz g=>hQ z j (by rw[C]at pz;simpa using pz) g) (its.toArray.size-1) 0 _ v Z _ (by ((try clear D O P hS);omega)) (by (assumption)) (W.frame _ _ _ M λb p o e=>(Heap.get?_update_other _ _ (λz:s.heap.objs.size+1=b=>nB (z▸p))).trans e) (show its.toArray[0]?=some v by simpa using hv) (Heap.get?_update_self _ I rfl)
  (X s2 _ s2.toks g2 λb o L K e=>(Bz _ _ (Ne.symm K)).trans e)
end
section
variable {U:St}
def Inv.W8(I:Inv X y0 U H s)(i:H a=some (.lst xs))(p:s.heap.get? a=some o):Inv X y0 U (upd H a (.frz o (.lst xs))) s:=by
 have h:∀c v,H c=some v->(∀z,v≠.lst z)->c≠a:=λc v q n z=>by rw[z,i]at q;cases q;exact n _ rfl
 have g:∀c y,H c=some (.own y)->upd H a (.frz o (.lst xs)) c=some (.own y):=λc y q=>by rw[aK (h c _ q λ_=>nofun)];exact q
 have d:∀c f,H c=some (.tup f)->upd H a (.frz o (.lst xs)) c=some (.tup f):=λc f q=>by rw[aK (h c _ q λ_=>nofun)];exact q
 refine I.re (λb q=>by rw[aK (λz=>by rw[z,i]at q;cases q)];exact q) (λb f q=>d b f (I.base.tups b f q)) (λb l v q=>?_) (λb k q=>?_) (λb v q=>?_)
 .have:=I.base.frzs b l v q
  rw[aK (h b _ this λ_=>nofun)];exact this
 .obtain⟨m,e⟩:=I.base.tbls b k q;exact⟨m,by rw[aK (h b _ e λ_=>nofun)];exact e⟩
 .by_cases j:b=a
  .subst j;rw[aG]at q;cases q;exact(show s.heap.get? b=some o/\ZW X.prog X.w (upd H b (.frz o (.lst xs))) s.heap b (.lst xs) from⟨p,(I.Z8 b _ i).Zl (λ_ _ _ q=>q) (λc=>g c b) d⟩)
  .rw[aK j]at q;exact(I.Z8 b v q).Zl (λ_ _ _ q=>q) (λc=>g c b) d
def Nt(f:H a=some (.lst xs)):Y0 H (upd H a (.frz o (.lst xs)))=H:=by
 funext b
 by_cases c:b=a
 .subst c;rw[uT aG (λo v z=>by grind),f]
 .cases e:H b with
  |none=>exact vO (by rwa[aK c])
  |some u=>
   by_cases d:∃o v,u=.frz o v
   .obtain⟨g,v,rfl⟩:=d;exact rQ (by rwa[aK c]) e
   .exact gZ (by rwa[aK c]) λo v z=>d ⟨o,v,z⟩
def Inv.WY(I:Inv X y0 U H s)(k:∀c o,c≠a->c≠b->s.heap.get? c=some o->h'.get? c=some o)(p:V2 X y0 a)(l:V2 X y0 b)(y:H a=none)(x:H b=none)(D:X.s₀.heap.objs.size<=a)(C:X.s₀.heap.objs.size<=b):Inv X y0 U H {s with heap:=h',toks:=t'}:=by
 have j:∀c u,H c=some u->c≠a/\c≠b:=λc u e=>⟨(λz=>by rw[z,y]at e;cases e),(λz=>by rw[z,x]at e;cases e)⟩
 have f:∀ {c},c∉[a,b]->c≠a/\c≠b:=fun {c} h=>⟨λz=>h (by simp[z]),λz=>h (by simp[z])⟩
 refine I.step (g':=s.gens) (d':=s.drawn) (ch:=[a,b]) (λc i=>?_) (λc o _ _ i e _=>k c o (f i).1 (f i).2 e) (λc o _ _ i e _=>⟨o.slots,k c o (f i).1 (f i).2 e⟩) (λ_ _ _ _ n=>n)
  (λc o i e=>⟨o,k c o (f i).1 (f i).2 e⟩) (λ_ _ e=>e) (λ_ _ _ e=>e) (λb G e=>⟨#[],by rw[e];simp⟩) (λm B=>?_) (λc u e=>?_) I.bare
 .simp only[List.mem_cons,List.not_mem_nil,or_false]at i;rcases i with rfl|rfl
  .exact⟨.inr D,p.loc,p.cell,p.pin⟩
  .exact⟨.inr C,l.loc,l.cell,l.pin⟩
 .obtain⟨o,E,F,A,r⟩:=B;exact⟨o,E,F,k _ o p.loc.symm l.loc.symm A,r⟩
 .refine(I.Z8 c u e).Zl (λd v w q=>k d v ?_ ?_ q) (λ_ q=>q) λ_ _ q=>q
  .rcases w with z|z
   .rw[z];exact(j c u e).1
   .exact(j d _ z).1
  .rcases w with z|z
   .rw[z];exact(j c u e).2
   .exact(j d _ z).2
end
def Q9(h:Addr)(q:Str)(b:Pos)(o:TE)(e:St->St)(r:TA):TE:=λU H Q=>r U H λl g=>∃(p:Addr) (f:List Int) (c:Nat->Int),l=[.ref p]/\Z6 g p=some (f.map V.int)/\0<f.length/\YZ h q b g/\
 (∀d,(∀a k,Z6 g a=some k->Z6 d a=some k)->∀i n,f[i]?=some n->o (some (.int n)::e U) d λv s=>v=.int (c i)/\s=d)/\
 ∀i m d,f[i]?=some m->(∀j,j<f.length->c j<=c i)->ZT h g d->YZ h q b d->Q (.int m) d
def M3(val:Nat->Int):∀n,argBest (btV val) n<=n/\∀j,j<=n->val j<=val (argBest (btV val) n):=λn=>argBest_gt val n
def Ut(s:ZT Pt H H')(h:Z6 H a=some xs)(d:∃b,H Pt=some (.tbl b)):Z6 H' a=some xs:=by
 have c:a≠Pt:=λz=>by
  obtain⟨b,e⟩:=d;unfold Z6 at h;rw[z,e]at h;cases h
 unfold Z6 at h ⊢;cases e:H a with
 |none=>rw[e]at h;cases h
 |some o=>rw[s a o c e];rwa[e]at h
def AW(h:Z6 H a=some xs):H a=some (.lst xs)\/∃o,H a=some (.frz o (.lst xs)):=by
 unfold Z6 at h;cases e:H a with
 |none=>rw[e]at h;cases h
 |some o=>
  rw[e]at h;cases o with
  |lst b=>cases h;exact .inl rfl
  |frz o u=>
   cases u with
   |lst b=>cases h;exact .inr ⟨o,rfl⟩
   |_=>cases h
  |_=>cases h
def Mg{K:St->St}{g:Expr}{p B kp:Pos}{tb:TE}(hc:X.calm=true)(c4:X.A.depth+3<recursionLimit)(hg:Gl X "max")(hm:X.mg "max"=none)(ha:PA X [l] ta)(Y:X.env.code=.ref c)(LB:X3 X.mg X.base c Pt)(ck:X7 X N scope cl K x)(hb:∀A f c' a4 b5,PE (Uv X A N (X.env.qual ++ "<lambda>") scope cl f c' a4 b5) g tb)(b3:defaultsOf params X.env=([],[]))(c1:scope.isCoroutine=false)(b2:scope.isGenerator=false)(hk:scope.kind=.function)(Z:∀z∈scope.names,z.2≠.cell)(a2:∀q pm ctv v c',bindArgs (kla_fn "<lambda>" q params g scope cl pm (.ref c') ctv) ⟨[v],[]⟩=pure [(x,v)])(hs:starEach [l] X.env=[(false,eval l X.env)]:=by rfl)(W:keywordEach [⟨some "key",.Lambda params g scope B,kp⟩] X.env=[(some ("key" : Str),eval (.Lambda params g scope B) X.env)]:=by rfl):PE X (.Call (.Name "max" p) [l] [⟨some "key",.Lambda params g scope B,kp⟩] pos) (Q9 Pt (X.env.qual ++ "<lambda>") B tb K ta):=by
 intro y0 s U H Q I h;have R:backTo pos (starEach [l] X.env)=[(false,eval l X.env)]:=by rw[hs];rfl
 refine Dv (iF I hg hm boot_max (IM (by rw[R];rfl) (by rw[W];rfl) ?_))
 rw[R];refine evalArgs_kwB (by rw[W];rfl) ?_
 rw[<-R];refine ZY (ha pos y0 s U H _ I h) λus s1 ⟨vs,H1,I1,r1,q1⟩=>?_;obtain⟨p,L,val,rfl,hp,hn,T,c3,qe⟩:=q1;refine ZY (vD (HC ck Y LB b3) UO pos y0 s1 U H1 (λM E=>∃f c' pm ctv,M=[.ref f]/\ZT Pt H1 E/\YZ Pt (X.env.qual ++ "<lambda>") B E/\E c'=some (vR c' (X.env.qual ++ "<lambda>"))/\E f=some (Wm f (kla_obj "<lambda>" (X.env.qual ++ "<lambda>") params g scope cl pm c' ctv))) I1 ⟨T,λf c' pm ctv H' a b c d=>⟨f,c',pm,ctv,rfl,a,b,c,d⟩⟩) λws O ⟨M,E,I2,r2,q2⟩=>?_;obtain⟨f,c',pm,ctv,rfl,sP,T2,a1,hf⟩:=q2;obtain⟨u,rfl,ru⟩:=dL r1;cases ru;obtain⟨u,rfl,ru⟩:=dL r2;cases ru;have e:(backToKw pos (keywordEach [⟨some "key",.Lambda params g scope B,kp⟩] X.env)).filterMap (·.1)=(["key"]:List Str):=by rw[W];rfl
 rw[e];show wpAny (model X.prog X.w) X.A (call (.builtin "max") [.ref p] [(Str.ofString "key",.ref f)]) _ _ _
 generalize X.env.qual ++ "<lambda>"=q at *;have S:=Ut sP hp T.tb
 -- the list is known from here on
 obtain⟨ol,b1⟩:∃o,O.heap.get? p=some o:=by
  obtain⟨F,rv,pl,hz⟩:=I2.list (bG S);obtain⟨o,e,_⟩:=pl.isList;exact⟨o,e⟩
 obtain⟨C,D,a9,a3,a8,c2,b9⟩:∃C,Inv X y0 U C O/\C p=some (.frz ol (.lst (L.map V.int)))/\(∀P,Inv X y0 U C P->Inv X y0 U E P)/\(∀a M,Z6 H1 a=some M->Z6 C a=some M)/\C c'=some (vR c' q)/\C f=some (Wm f (kla_obj "<lambda>" q params g scope cl pm c' ctv)):=by
  rcases AW S with z|⟨o,z⟩
  .have ne:∀b u,E b=some u->(∀y,u≠.lst y)->b≠p:=λb u e n y=>by rw[y,z]at e;cases e;exact n _ rfl
   refine⟨upd E p (.frz ol (.lst (L.map V.int))),I2.W8 z b1,aG,λP J=>?_,λa M h=>?_,?_,?_⟩
   .have:=J.Zi (Hs:=E) λb o u e=>I2.base.frzs b o u e
    rw[Nt z]at this;exact this
   .have h2:=Ut sP h T.tb
    by_cases ea:a=p
    .subst ea;rw[S]at h2;cases h2;show Tz (upd E a (.frz ol (.lst (L.map V.int))) a)=_
     rw[aG];rfl
    .unfold Z6 at h2 ⊢;rw[aK ea];exact h2
   .rw[aK (ne _ _ a1 λ_=>nofun)];exact a1
   .rw[aK (ne _ _ hf λ_=>nofun)];exact hf
  .obtain⟨eo,_⟩:=I2.Z8 p _ z;rw[b1]at eo;cases eo;exact⟨E,I2,z,λ_ J=>J,λa M h=>Ut sP h T.tb,a1,hf⟩
 obtain⟨F,rv,pl,hz⟩:=D.list (bG (a8 p _ hp));have hl:=pl.isList
 have b8:F.length=L.length:=by have:=rv.length;rw[Ac]at this;((try clear c4 hn hz);omega)
 have b4:∀i v,F[i]?=some v->∃n t,L[i]?=some n/\v=Value.int n t:=λi v a7=>by
  have hi:i<L.length:=by rw[<-b8];exact(Ag.mp a7).1
  obtain⟨u,hu,ru⟩:=rv.get (show (L.map V.int)[i]?=some (.int L[i]) by rw[Ae,Aa hi];rfl)
  rw[a7]at hu;cases hu;obtain⟨t,rfl⟩:=ru;exact⟨_,t,Aa hi,rfl⟩
 have fJ:=D.YD (Ai O.heap.objs.size)
 have fB:=D.YD (Hv O.heap.objs.size)
 have nJ:=D.Z8.fresh (Ai _)
 have nB:=D.Z8.fresh (Hv _)
 have a5:=D.sz
 have a6:∀b,O.heap.objs.size<=b->b∉YV X.stack:=λb hb z=>by
  rcases Ba.mp (D.Yh b z) with y|y
  .exact absurd (Bc D.lt hb) (by rw[y];exact Dk _)
  .exact absurd (Bc (D.Tf y) hb) (Dk _)
 refine L8 (val:=val) (G:=λP=>Inv X y0 U C P) hl (by ((try clear a5 c4 hz);omega)) (D.ok.hd hc) (λh' tk k=>D.kept k) (λs3 h' tk J k=>?_) (λi v s3 Q3 E3 hv J k=>?_) λz P b7 J=>?_
 .exact J.WY k fJ fB nJ nB a5 (Nat.le_succ_of_le a5)
 .obtain⟨n,t,en,rfl⟩:=b4 i v hv;refine Fk (Ff (KZ (A:=X.A.in1) (q:=q) (f:=f) (c':=c') (pm:=pm) (ctv:=ctv) (v:=.int n t) (y:=.int n) (Q:=λv H3=>v=.int (val i)/\H3=C) J ck D.ok.frames (D.ok.hd hc) (by show X.A.depth<_;((try clear a5 b8 hn hz);omega)) (J.Z8 f _ b9).1 (J.Z8 c' _ c2).1 c1 b2 hk Z (a2 q pm ctv _ c') ⟨t,rfl⟩ (hb _ _ _ _ _) (c3 C a8 i n en)) λr s4 hr=>?_)
  match r,hr with
  |.ok (.ret u),hr=>
   have un:Un (YV X.stack) [] C C s3.heap s4.heap:=by obtain⟨v',H',_,_,un,_,_,⟨_,rfl⟩⟩:=hr;exact un
   obtain⟨v',H',J',b6,⟨rfl,rfl⟩⟩:=J.after hr;obtain⟨t',rfl⟩:=b6;refine k t' s4 J' λb o hb e=>?_;rcases hb with z|z|z
   .subst z;exact un.keep _ o e nJ (a6 _ (Nat.le_refl _)) (by simp)
   .subst z;exact un.keep _ o e nB (a6 _ (Nat.le_succ _)) (by simp)
   .subst z;have e1:=(J.Z8 _ _ a9).1
    rw[e]at e1;cases e1;exact(J'.Z8 _ _ a9).1
 .obtain⟨h1,h2⟩:=M3 val (F.length-1);obtain⟨m,t,em,rfl⟩:=b4 _ _ b7;exact⟨.int m,E,a3 P J,⟨t,rfl⟩,qe _ m E em (λj hj=>h2 j (by ((try clear a5 c4 h1 hz);omega))) sP T2⟩
def BU{q:Str}{b:Pos}{l:TE}{c:St->St}{U:St}(h:ta U H λo g=>∃(p:Addr) (f:List Int) (d:Nat->Int),o=[.ref p]/\Z6 g p=some (f.map V.int)/\0<f.length/\YZ Pt q b g/\
 (∀e,(∀a k,Z6 g a=some k->Z6 e a=some k)->∀i n,f[i]?=some n->l (some (.int n)::c U) e λv r=>v=.int (d i)/\r=e)/\
 ∀i m e,f[i]?=some m->(∀j,j<f.length->d j<=d i)->ZT Pt g e->YZ Pt q b e->Q (.int m) e):Q9 Pt q b l c ta U H Q:=h
def JF(r:Z4 k A):A.depth+3<recursionLimit:=by have:=r.dp;omega
end
def yH(CX:XZ)(P:Program)(w:World)(K:W.Frag)(c:Str->Option Value)(a:Heap)(k:Nat)(C:Addr)(m:Str)(ps:List Str)(sp:Sp):Prop:=
 ∃f b,Z9 P w K c a CX k f b ps sp/\Meth K C m f/\Binds K b ps []
def Vw(CX:XZ)(P:Program)(w:World)(K:W.Frag)(c:Str->Option Value)(a:Heap)(k:Nat)(C:Addr)(ps:List Str)(sp:Sp):Prop:=
 ∃f b,Z9 P w K c a CX k f b ps sp/\Mk K C f/\Binds K b ps []
section
variable {CX:XZ} {ps:List Str} {Es:St->XK} {E:XK} {m:Str} {p:Pos} {o:Expr} {ta:TE} {U:St}
def Sw(C:Addr)(m:Str)(sp:Sp)(h:St->XK)(e:TE)(t:TA):TE:=λU H Q=>e U H λx c=>∃a f b,x=.ref a/\c a=some (.ins C f b)/\b.lookup m=none/\
 t U c λd g=>sp (x::d) g Q (h U)
def LZ{us:List Value}{vs:List V}(F:Z9 X.prog X.w X.K X.mg X.base CX k f fd ps sp)(i:Z4 k X.A)(l:Binds X.K fd ps [])(h:Uh CX X Es)(c:Inv X y0 U H s1)(r:Vals vs us)(q:sp vs H Q (Es U)):wpAny (model X.prog X.w) X.A (call (.ref f) us) (EP X y0 U Q) X.xe s1:=by
 have j:us.length=ps.length:=by rw[<-r.length];exact F.len _ _ _ _ q
 have b:=l s1 us c.Y2 (by simp_all)
 rw[Bt]at b;refine Fk (Ff (F.run X.A X.stack s1 H ⟨us,[]⟩ us vs Q (Es U) i c.W3 b r q) λg d a=>?_);cases g with
 |error e=>exact h y0 U H s1 e d c a
 |ok m=>
  cases m with
  |ret u=>exact c.after a
  |next=>exact False.elim a
  |brk=>exact False.elim a
  |cont=>exact False.elim a
def IE{pl:Sem Bool}(he:PE X o ta)(c:Yc X.K C)(hm:Meth X.K C m f)(F:Z9 X.prog X.w X.K X.mg X.base CX k f fd ps sp)(hr:Z4 k X.A)(hb:Binds X.K fd ps [])(hx:Uh CX X Es)(ha:PA X (e::es) t)(hst:starEach (e::es) X.env=(false,eval e X.env)::starEach es X.env:=by rfl)(hpl:(backTo pos (starEach es X.env)).any (·.1)=false:=by rfl)(ht:eval (.Call (.Attribute o m apos) (e::es) [] pos) X.env=(do
 let ov <-eval o X.env
 standAt apos.atName
 let (f,first) <-holding [ov] (getMethod ov m pl)
 callWith pos f first (backTo pos (starEach (e::es) X.env)) (backToKw pos (keywordEach [] X.env))):=by rfl):PE X (.Call (.Attribute o m apos) (e::es) [] pos) (Sw C m sp Es ta t):=by
 intro y0 s U H Q I h;refine Fb  (ZY (he y0 s U H _ I h) λu s1 ⟨x,H1,I1,rx,a,dx,fs,ex,ea,l,q⟩=>?_) ht;subst ex;obtain rfl:u=Value.ref a:=rx;refine lL I1 ea c hm l ?_;refine Fy   I.ok.mod.WE hm.kp (ZY (ha pos y0 s1 U H1 _ I1 q) λus s2 ⟨vs,H2,I2,r,q2⟩=>⟨I2.Y2,?_⟩) hst hpl
 exact LZ (us:=.ref a::us) (vs:=.ref a::vs) F hr hb hx I2 (.cons rfl r) q2
def uU(c:yH ZO X.prog X.w X.K X.mg X.base k C m ps sp)(j:Yc X.K C)(d:Z4 k' X.A)(g:k<=k')(h:PE X o ta)(b:eval (.Call (.Attribute o m apos) [] [] pos) X.env=(do
 let a <-eval o X.env
 standAt apos.atName
 let (f,first) <-holding [a] (getMethod a m pl)
 callWith pos f first (backTo pos (starEach [] X.env)) (backToKw pos (keywordEach [] X.env))):=by rfl):PE X (.Call (.Attribute o m apos) [] [] pos) (UX C m sp [] E0 ta VS):=by
 obtain⟨f,l,F,e,i⟩:=c;exact BS  h j e F (d.mono g) i .nil Sv b
def eF(c:yH (Zb X.prog X.w) X.prog X.w X.K X.mg X.base k C m ps sp)(r:Yc X.K C)(g:iJ (Zb X.prog X.w) X E)(i:Z4 k' X.A)(l:k<=k')(n:PE X o ta)(q:PA X (e::es) t)(a:starEach (e::es) X.env=(false,eval e X.env)::starEach es X.env:=by rfl)(b:(backTo pos (starEach es X.env)).any (·.1)=false:=by rfl)(h:eval (.Call (.Attribute o m apos) (e::es) [] pos) X.env=(do
 let d <-eval o X.env
 standAt apos.atName
 let (f,first) <-holding [d] (getMethod d m pl)
 callWith pos f first (backTo pos (starEach (e::es) X.env)) (backToKw pos (keywordEach [] X.env))):=by rfl):PE X (.Call (.Attribute o m apos) (e::es) [] pos) (UX C m sp [] E ta t):=by
 obtain⟨f,s,F,j,p⟩:=c;exact IK (pl:=pl) n r j F (i.mono l) p .nil g q a b h
def A8(c:yH (Zb X.prog X.w) X.prog X.w X.K X.mg X.base k C m ps sp)(r:Yc X.K C)(g:Uh (Zb X.prog X.w) X Es)(i:Z4 k' X.A)(l:k<=k')(n:PE X o ta)(q:PA X (e::es) t)(a:starEach (e::es) X.env=(false,eval e X.env)::starEach es X.env:=by rfl)(b:(backTo pos (starEach es X.env)).any (·.1)=false:=by rfl)(h:eval (.Call (.Attribute o m apos) (e::es) [] pos) X.env=(do
 let d <-eval o X.env
 standAt apos.atName
 let (f,first) <-holding [d] (getMethod d m pl)
 callWith pos f first (backTo pos (starEach (e::es) X.env)) (backToKw pos (keywordEach [] X.env))):=by rfl):PE X (.Call (.Attribute o m apos) (e::es) [] pos) (Sw C m sp Es ta t):=by
 obtain⟨f,s,F,j,p⟩:=c;exact IE  n r j F (i.mono l) p g q a b h
def OD(c:Vw ZO X.prog X.w X.K X.mg X.base k C ps sp)(d:Z4 k' X.A)(h:k+1<=k')(i:Gl X x)(g:X.mg x=some (.ref C))(m:PA X (e::es) t)(b:(x==("__debug__" : Str))=false:=by decide)(j:starEach (e::es) X.env=(false,eval e X.env)::starEach es X.env:=by rfl)(a:(backTo pos (starEach es X.env)).any (·.1)=false:=by rfl):PE X (.Call (.Name x p) (e::es) [] pos) (SH C sp [] E0 t):=by
 obtain⟨f,n,F,M,l⟩:=c;exact MQ M F (d.mono h) i g l .nil Sv m b j a
def CG{b:List V}(h:ta U H λx d=>∃a f c,x=.ref a/\d a=some (.ins C f c)/\c.lookup m=none/\t U d λe g=>sp (x::(e++b)) g Q E):UX C m sp b E ta t U H Q:=h
def G0(h:ta U H λx c=>∃a e b,x=.ref a/\c a=some (.ins C e b)/\b.lookup m=none/\t U c λd f=>sp (x::d) f Q (Es U)):Sw C m sp Es ta t U H Q:=h
def FL{a:List V}(h:t U H λd c=>∀x b,c x=none->c b=none->b≠x->sp (.ref x::(d++a)) (upd (upd c b (.own x)) x (.ins C b [])) (λv e=>v=.non/\Q (.ref x) e) E):SH C sp a E t U H Q:=h
def JK{f:Str}(h:ta U H λx c=>∃a C d b v,x=.ref a/\c a=some (.ins C d b)/\Yc K C/\Y8 K C f/\b.lookup f=some v/\Q v c):Rx K ta f U H Q:=h
def Kd{f:Str}(h:tv U H λy e=>ta U e λx d=>∃a C c b,x=.ref a/\d a=some (.ins C c b)/\Yc K C/\Y8 K C f/\b.length<1000/\D.nx U (upd d a (.ins C c (fZ f y b)))):RL K ta tv f D U H:=h
end
def yF(w:World):List DictEntry->List (Str×Int)->Prop
 |[],[]=>True
 |e::es,kn::r=>e.hash=PyData.keyHash w.params kn.1/\(∃t,e.key=.str kn.1 t)/\(∃t,e.val=.int kn.2 t)/\yF w es r
 |_,_=>False
def TQ(w:World)(K:W.Frag)(c:Str->Option Value)(x:Str)(a:List (Str×Int)):Prop:=
 ∃d b e,c x=some (.ref d)/\K.lookup d=some ⟨.type "dict",none,.dict b e,#[]⟩/\(d==sysModules)=false/\yF w b.toList a/\(a.map (·.1)).Nodup
def wW{P:Program}:∀ {d:List DictEntry} {a:List (Str×Int)},yF w d a->∃b,Pairs (bL P w) d b/\b.map (·.1)=a.map (λo=>(Sum.inr o.1:Key))/\(∀e∈d,∃k,(bL P w).is k e.key=true/\e.hash=(bL P w).hash k)/\
 ∀z,(match valueAt b (Sum.inr z:Key) with|some u=>∃n t,a.lookup z=some n/\u=.int n t|none=>a.lookup z=none)
 |[],[],_=>⟨[],.nil,rfl,(λe f=>nomatch f),λz=>rfl⟩
 |e::d,(k,n)::r,h=>by
  obtain⟨y,⟨t,j⟩,⟨i,x⟩,v⟩:=h;obtain⟨b,p,m,s,l⟩:=wW (P:=P) v;refine⟨((Sum.inr k:Key),.int n i)::b,.cons (by rw[j];exact nQ k t) x p,by rw[Ax,m];rfl,λA f=>?_,λz=>?_⟩
  .rcases Ba.mp f with rfl|q
   .exact⟨Sum.inr k,by rw[j];exact nQ k t,y⟩
   .exact s A q
  .have c:=l z
   unfold valueAt at c ⊢;rw[List.find?_cons];by_cases g:k=z
   .subst g;rw[Ao rfl];exact⟨n,i,by rw[Cs,Ey],rfl⟩
   .rw[An λq=>g (Sum.inr.inj q)];rw[Cs,show (z==k)=false from Cr.mpr λq=>g q.symm];exact c
 |[],_::_,h=>h.elim
 |_::_,[],h=>h.elim
def PY(a:List (Str×Int))(c:TA):TE:=λU H Q=>c U H λb d=>∃z,b=[.str z]/\Q (match a.lookup z with|some n=>.int n|none=>.non) d
def R6{a:List (Str×Int)}{p:Pos}(hg:Gl X x)(hk:TQ X.w X.K X.mg x a)(ha:PA X [e] ta)(A:(x==("__debug__" : Str))=false:=by decide)(i:attributeBase (.Name x p) "get" X.env (eval (.Name x p) X.env)=eval (.Name x p) X.env:=by rfl)(j:((backTo cpos (starEach [e] X.env)).all (λx=>!x.1)&&(backToKw cpos (keywordEach [] X.env)).all (λx=>x.1.isSome)
 && decide (([e]:List Expr).length+([]:List Keyword).length+(if ([]:List Keyword).isEmpty then 0 else 1)<30))=true:=by rfl)(g:(apos.endLine==cpos.line)=true:=by rfl)(hs:starEach [e] X.env=(false,eval e X.env)::starEach [] X.env:=by rfl)(f:(backTo cpos (starEach [] X.env)).any (·.1)=false:=by rfl):PE X (.Call (.Attribute (.Name x p) "get" apos) [e] [] cpos) (PY a ta):=by
 intro D s U H Q I h;obtain⟨d,es,ep,hm,hl,hd,ok,nd⟩:=hk;obtain⟨E,pr,m,ke,T⟩:=wW (P:=X.prog) ok;have L:∀r:Shared,X.K.In r.heap->r.heap.DictOf (bL X.prog X.w) d E:=λr k=>⟨_,es,ep,k _ _ hl,by first|exact⟨rfl,rfl,rfl⟩|exact⟨rfl,rfl⟩|(constructor<;>rfl),rfl,λe he=>ke e (by simpa using he),pr,by rw[m,show a.map (λkn=>(Sum.inr kn.1:Key))=(a.map (·.1)).map (λz=>(Sum.inr z:Key)) by rw[List.map_map];rfl];exact List.pairwise_map.mpr (nd.imp λn q=>n (Sum.inr.inj q))⟩
 have ho:PE X (.Name x p) (tC (.ref d)):=rE hg hm rfl A
 refine Hk i j g rfl (ZY (ho D s U H (λy C=>y=.ref d/\C=H) I ⟨rfl,rfl⟩) λv G ⟨x',C,O,Z,q⟩=>?_);obtain⟨rfl,rfl⟩:=q;cases Z;have N:=L G O.Y2
 refine⟨"dict",_,PySem.F.plainAttrs_dict,Cb,rfl,N.typeIs,λb q=>?_,?_⟩
 .cases q;obtain⟨ob,_,_,h1,h2,_⟩:=N;exact⟨ob,h1,h2.2.1⟩
 have J:=ha cpos D G U C _ O h
 rw[hs]at J ⊢;refine Hl (by show (false || (backTo cpos (starEach [] X.env)).any (·.1))=false;rw[f]<;>rfl) (Gi ?_)
 refine ZY J λus W ⟨S,R,B,Y,z,ez,l⟩=>?_;subst ez;obtain⟨u,rfl,t,rfl⟩:=dL Y;have M:=L W B.Y2
 refine Gm Cb M.typeIs Eu (Hi _ _) (meets_dict_get (bL X.prog X.w) d (show (bL X.prog X.w).is (Sum.inr z:Key) (Value.str z t)=true from nQ z t) hd) ⟨_,M.mapOf,?_⟩;have c:=T z
 cases e:valueAt E (Sum.inr z:Key) with
 |none=>
  rw[e]at c;have o:=c
  rw[o]at l;exact⟨.non,R,B.tok _,rfl,l⟩
 |some u=>
  rw[e]at c;obtain⟨n,V,e2,rfl⟩:=c;rw[e2]at l;exact⟨.int n,R,B.tok _,⟨V,rfl⟩,l⟩
def Jz{a:List _}{U:St}(h:ta U H λb c=>∃z,b=[.str z]/\Q (match a.lookup z with|some n=>.int n|none=>.non) c):PY a ta U H Q:=h
def Rc:R2:=λx y H Q=>∃p q a,x=.ref p/\y=.ref q/\H p=some (.tup a)/\H q=some (.tup [])/\Q (.bl a.isEmpty) H
def IA(z:X.A.units<cLine):ZH X (compareOp .Eq) Rc:=by
 intro E s U H x y v u Q I l i h;obtain⟨p,q,d,rfl,rfl,C,B,k⟩:=h;cases l;cases i;obtain⟨c,n,w,_⟩:=I.tuple (YQ.of (K:=X.K) C);obtain⟨f,m,o,_⟩:=I.tuple (YQ.of (K:=X.K) B);have g:=n.length
 cases m;refine SeqAt.eq_tupleAt (e:=λ_=>true) (show s.heap.IsTuple p _ from w) (show s.heap.IsTuple q _ from o) z (λj F D=>absurd D (by simp)) ?_
 refine⟨.bl d.isEmpty,H,I,?_,k⟩;show Value.bool _=Value.bool _
 congr 1
 grind
def A4(b:H p=some (.tup xs))(a:H q=some (.tup []))(h:Q (.bl xs.isEmpty) H):Rc (.ref p) (.ref q) H Q:=⟨p,q,xs,rfl,rfl,b,a,h⟩
noncomputable def W7(z:Str):Value->Bool
 |.str y _=>y==z
 |_=>false
def QD:V->List V->Hp->VK->Prop:=λx b H Q=>∃(p:Addr) (a:List Str) (z:Str) (j:Nat),x=.ref p/\b=[.str z]/\Z6 H p=some (a.map V.str)/\a[j]?=some z/\(∀i y,i<j->a[i]?=some y->y≠z)/\Q (.int (j:Int)) H
def KA:Yu X "list.index" QD:=by
 intro W s U H x Y v Z Q I E G h;obtain⟨p,g,z,j,rfl,rfl,M,C,R,q⟩:=h;cases E;obtain⟨u,rfl,w,rfl⟩:=G.one;obtain⟨a,r,K,L⟩:=I.list (bG M);obtain⟨⟨c,T,S,D⟩,B,P,n,O⟩:=K.isList;obtain rfl:c=.type "list" := P;obtain rfl:S=.seq a.toArray n:=O;have k:=r.length
 rw[Ac]at k L;have N:=(Ag.mp C).1
 have hn:=kW
 have d:∀m (f:m<a.length),∃y t,g[m]?=some y/\a[m]=.str y t:=λm f=>by
  have b:m<g.length:=by ((try clear L N hn);omega)
  obtain⟨u,A,t,J⟩:=r.get (show (g.map V.str)[m]?=some (.str g[m]) by rw[Ae,Aa b];rfl)
  rw[Aa f]at A;cases A;exact⟨g[m],t,Aa b,J⟩
 refine Fl Fu ⟨_,B,rfl⟩ PySem.F.entry_list_index (PySem.F.args_list_index_2 _ _) (SeqAt.list_indexAt p a.toArray n T D (.str z w) (W7 z) j (by rw[Az];((try clear L hn);omega)) (by omega) ?_ ?_) ⟨B,λy i=>?_,⟨.int j,H,I.tok _,⟨_,rfl⟩,q⟩⟩
 .obtain⟨y,t,i,e⟩:=d j (by ((try clear L hn);omega))
  rw[C]at i;cases i;rw[Gj,e];exact Ey _
 .intro m f o;have b:m<a.length:=by rw[Az]at f;exact f
  obtain⟨y,t,i,e⟩:=d m b;rw[Gj,e];exact Cr.mpr (R m y o i)
 .have l:y∈a:=by simpa using i
  obtain⟨m,f,rfl⟩:=Dj.mp l;obtain⟨y,t,_,e⟩:=d m f;rw[e];exact SeqAt.EqAt.str_str y t z w
def Ib(e:Z6 H p=some (ss.map V.str))(a:ss[j]?=some z)(b:∀i y,i<j->ss[i]?=some y->y≠z)(h:Q (.int (j:Int)) H):QD (.ref p) [.str z] H Q:=⟨p,ss,z,j,rfl,rfl,e,a,b,h⟩
section
variable {a:Expr} {ta:TE} {p:Pos}
def WQ(K:W.Frag)(mg:Str->Option Value)(x:Str)(ss:List Str):Prop:=
 ∃d o its n,mg x=some (.ref d)/\K.lookup d=some o/\o.cls=.type "tuple"/\o.data=.seq its n/\its.size<=sizeLine/\its.toList.map strOf=ss.map some
where strOf:Value->Option Str
 |.str z _=>some z
 |_=>none
def xS:∀ {a:List Value} {b:List Str},a.map WQ.strOf=b.map some->Vals (b.map V.str) a
 |[],[],_=>.nil
 |v::vs,z::zs,h=>by
  injection h with c d
  cases v with
  |str y t=>cases c;exact .cons ⟨t,rfl⟩ (xS d)
  |_=>cases c
def NT(ss:List Str)(a:TE):TT:=λU H Q=>a U H λv b=>∃z,v=.str z/\Q (YK (.str z) (ss.map V.str)) b
def Km(L:WQ X.K X.mg x ss)(M:Gl X x)(P:PE X a ta)(G:behindInMarks .In (.Name x p)=false:=by rfl)(N:(x==("__debug__" : Str))=false:=by decide):PT X (.Compare a [.In] [.Name x p] pos) (NT ss ta):=by
 obtain⟨d,o,f,n,m,J,O,g,E,F⟩:=L;intro b s U H Q I h;refine wpAny_isTrue_Compare1 (ZY (P b s U H _ I h) λv r ⟨y,l,Z,B,z,k,D⟩=>ZY (rE (v:=.ref d)  M m rfl N b r U l (λe j=>e=.ref d/\j=l) Z ⟨rfl,rfl⟩) λu q ⟨e,j,Y,A,R,T⟩=>
  ZY (Yq b q U j y e v u (λc i=>c=.bl (YK (.str z) (ss.map V.str))/\Q (YK (.str z) (ss.map V.str)) i) Y B A ⟨d,ss.map V.str,R,.inr (.inr ⟨o,f,n,J,O,g,E,xS F⟩),by rw[k];rfl,by rw[Ga];exact Bv.mpr λ_ _=>rfl,by subst k;exact⟨rfl,by rwa[T]⟩⟩) λc s3 ⟨w,i,W,t,S,C⟩=>?_) G
 subst S;cases t;exact Dz ⟨i,W,C⟩
def CA{Q:Bool->Hp->Prop}(h:ta U H λv a=>∃z,v=.str z/\Q (YK (.str z) (ss.map V.str)) a):NT ss ta U H Q:=h
def O2:List V->Hp->VK->Prop:=λa H Q=>∃z,a=[.str z]/\Q (.str z) H
def E8:ZU X (.type "str") O2:=by
 intro a s U H b c Q I r h;obtain⟨z,rfl,q⟩:=h;obtain⟨u,rfl,t,rfl⟩:=dL r;exact PySem.P.str_of_str ⟨.str _,H,I,⟨_,rfl⟩,q⟩
def Ol(h:Q (.str z) H):O2 [.str z] H Q:=⟨z,rfl,h⟩
end
section
variable {U0:St}
def LF{xs:List V}(f:Nat->Option V)(p:H1 a=some (.tup xs))(z:xs.length<sizeLine)(hs:∀i x d A (B:Hp->Prop),xs[i]?=some x->Same H1 d->(∀y,f i=some y->∀c,Same d c->A y c)->(f i=none->∀c,Same d c->B c)->
 g x U0 d λs E=>Wk U0 s/\tests s E λb t=>if b=true then te s t A else B t)(q:∀D c,H1 D=none->Same H1 c->c D=some (.lst ((List.range xs.length).filterMap f))->Q (.ref D) c):dJ g tests te U0 Q (Uk K a) H1:=by
 refine fO (n:=xs.length) (λD i k d=>Same H1 d/\k=(List.range i).filterMap f) z (λD m=>⟨aE m _,rfl⟩)
  (λD i k d _ r h=>⟨xs,xs[i],YQ.of (r.1 _ _ p),by simp[h]⟩) (λD k d _ r=>⟨xs,YQ.of (r.1 _ _ p),Nat.le_refl _⟩) ?_ ?_
 .rintro D i k d x F A B m G ⟨j,rfl⟩ e ⟨rfl,u⟩ o C;refine hs i x F A B (u xs (YQ.of (j _ _ p))) j (λy v c l=>?_) (λw c l=>?_)
  .exact o _ _ (l _ _ e) ⟨bQ m (j.trans l),(gK v).symm⟩
  .exact C _ (l _ _ e) ⟨j.trans l,(jK w).symm⟩
 simp_all
end
def aY(i:Nat){x:Str}{e:Expr}{b:TE}{a:Pos}(h:X.N.Nodup)(g:PE X e b)(d:X.N[i]?=some x:=by rfl)(c:Loc X.env.scope x:=by first|exact Or.inl rfl|exact Or.inr rfl)(hs:swapsWith e (some (.Name x a)) pos.line X.env=pure false:=by rfl)(f:X.fn x=true\/X.env.scope.names.lookup x=some .local:=by first|exact Or.inl rfl|exact Or.inr rfl):PS X (.Assign [.Name x a] e pos) (VO b (iT i)):=Sk h d c g hs f
section
variable {X:Cx}
def qY{n:Int}{j:Nat}{pos:Pos}{a:List Expr}{t:TA}(h:PA X a t):PA X (.Constant (.int n) j pos::a) (xJ (tC (.int n)) t):=aA aM h rfl
end
def CP{a:Q4}{U:St}{u:HO}(I:Inv (X.hnd a ea) y0 U H s)(e:H ea=some (.frz o u))(c:VR o)(f:∀b∈fp,gY (X.hnd a ea) y0 H b):uE (Za (X.hnd a ea) N scope cl C s H fp):=
 ⟨ea,rfl,⟨o,(I.Z8 ea _ e).1,c,.inr ⟨u,e⟩⟩,λd=>by rw[(f ea d).1]at e;cases e⟩
def Py(e:Addr)(wi:TI)(g:TG)(a:TT)(d:TE)(b:St->St):TE:=λU H Q=>wi U H λJ c=>(∃o u,c e=some (.frz o u)/\VR o)/\dJ g a d (b U) Q J c
def DZ{a:St->St}{U:St}(h:wi U H λJ b=>(∃o u,b ea=some (.frz o u)/\VR o)/\dJ g tests te (a U) Q J b):Py ea wi g tests te a U H Q:=h
section
variable {vals:St->St} {spos py:Pos}
def BO{c:Q4}{i:Nat}(hN:(X.hnd c ea).N.Nodup)(P:(X.hnd c ea).N[i]?=some x)(hx:Loc (X.hnd c ea).env.scope x)(hi:Ry (X.hnd c ea) tg iter wi)(Y:X5 (X.hnd c ea) N scope cl vals)(B:∀y∈scope.names,y.2≠.cell)(l:scope.kind=.function)(n:∀x∈scope.names,x.2=.local->scope.names.lookup x.1=some .local)(hg:∀C d j r,uE (Za (X.hnd c ea) N scope cl C d j r)->PG (Za (X.hnd c ea) N scope cl C d j r) tg g)(ht:∀C d j r,uE (Za (X.hnd c ea) N scope cl C d j r)->PF (Za (X.hnd c ea) N scope cl C d j r) ifs tests)(he:∀C d j r,uE (Za (X.hnd c ea) N scope cl C d j r)->PE (Za (X.hnd c ea) N scope cl C d j r) elt te)(O:swapsWith (.ListComp elt [⟨tg,iter,ifs,0⟩] scope pos) (some (.Name x py)) spos.line (X.hnd c ea).env=pure true:=by rfl)(hf:(X.hnd c ea).fn x=true\/(X.hnd c ea).env.scope.names.lookup x=some .local:=by first|exact .inl rfl|exact .inr rfl|assumption)(hs:∀x,foldedSetIterable iter (X.hnd c ea).env x=pure x:=by intro _;rfl):PS (X.hnd c ea) (.Assign [.Name x py] (.ListComp elt [⟨tg,iter,ifs,0⟩] scope pos) spos) (VO (Py ea wi g tests te vals) (iT i)):=by
 intro K s U H D I h;rw[exec_Assign_Name_used _ _ _ _ O];refine Ad (Ew (Ad ?_));show wpAny _ (X.hnd c ea).A (do let _ <-comprehension (.ListComp elt [⟨tg,iter,ifs,0⟩] scope pos) scope (X.hnd c ea).env _ (newList []) false (eval iter (X.hnd c ea).env) (some (assign (.Name x py) (X.hnd c ea).env))) _ _ s
 refine Ad (Ck (Gu (use:=some (assign (.Name x py) (X.hnd c ea).env)) (Q:=λ_ p=>SP (X.hnd c ea) K D .next p) rfl hs Y.clos l n
  (ZY (hi K s U H _ I h) λv s1 h1=>ZY h1 λa1 s2 h2=>?_)) (λ_ p hq=>Ap (Ap hq)) λ_ _ e=>e)
 obtain⟨it,fp,tn,J,H2,e,I2,T,L,f2,⟨oz,uz,ez,cz⟩,q⟩:=h2;subst e;refine IU (RR:=λS C=>compPost (model (X.hnd c ea).prog (X.hnd c ea).w) (X.hnd c ea).A (X.hnd c ea).xe (some (assign (.Name x py) (X.hnd c ea).env)) (λ_ p=>SP (X.hnd c ea) K D .next p) S C) I2 T L f2 (λ_ _ _ k I f=>CP I (k _ _ ez) cz f) Y B l hg ht he q λW C p Z m hn q' G E=>?_;show wpAny _ (X.hnd c ea).A (assign (.Name x py) (X.hnd c ea).env (.ref W)) _ _ p
 have I':=G p.heap (Heap.SameBut.refl ..)
 refine wpAny_assign_Name (sM I' hN P hx (v:=.ref W) rfl (λM V u=>?_) hf);obtain⟨a,u,ha⟩:=u;have R:C≠a:=by
  rcases ha with z|z
  .rw[z];exact E.2.1
  .exact λe=>E.2.2.2.2.1 x a z e.symm
 refine⟨m,hn.sameBut u R,λh3 F=>?_⟩;exact⟨U.set i (some (.ref W)),Z,V.turned (t':=M.toks) (λb o hb e=>(F.2 b hb).trans e) E.1 E.2.1 E.2.2.2.1 E.2.2.2.2.1 E.2.2.2.2.2,q'⟩
end
def RC(K:W.Frag):List V->Hp->VK->Prop:=λg H Q=>∃a D d c b o f,g=[.ref a,c]/\H a=some (.frz o (pB a (.ref D) d))/\(∀e,d=some e->∃o,H e=some o)/\Yy K D/\Sl c=some f/\W.kitOne K (.ref D) f=some b/\Q (.bl b) H
def eU(h:X.K=K):ZU X (.builtin "isinstance") (RC K):=by
 subst h;intro w s U H x A Q I r h;obtain⟨v,D,d,c,b,E,F,rfl,l,m,Z,t,p,q⟩:=h;obtain⟨u,B,rfl,f,i⟩:=Um r;cases f;obtain⟨j,y,g,n,a,e⟩:=(I.Z8 v _ l).2.1;obtain⟨k,o⟩:=kD I.Z8 g n a e m;rw[FF t i];exact W.kia_one (IC Z) I.Y2 ⟨j,k,o⟩ p (λz=>nomatch z) λC=>⟨.bl b,H,I.tok _,rfl,q⟩
def fA{D:Addr}{c:V}{cv:Value}{b:Bool}(e:H ea=some (.frz o (pB ea (.ref D) d)))(f:∀a,d=some a->∃o,H a=some o)(Z:Yy K D)(h1:Sl c=some cv)(g:W.kitOne K (.ref D) cv=some b)(h:Q (.bl b) H):RC K [.ref ea,c] H Q:=⟨ea,D,d,c,b,o,cv,rfl,e,f,Z,h1,g,h⟩
def eI{b a:List Expr}{pos:Pos}{t1 t:TA}(h:PA X b t1)(c:PA X a t):PA X (.List b pos::a) (xJ (SG t1) t):=aA (bI h) c rfl
def dH{a b:Expr}{d c:TE}{pos:Pos}{op:Operator}{r:R2}(e:ZH X (binaryOp op) r)(g:PE X a d)(f:PE X b c):PE X (.BinOp a op b pos) (Wv r d c):=cH e g f
def nE{b l:Expr}{a:TE}(c:PE X l a):PI X b l (S2 X.K a):=bU c
def qK{c a:Expr}{b:List Stmt}{wi:TI}{g:TG}{d:TS}{pos:Pos}(e:PassesOwn (model X.prog X.w) X.A X.env X.xe)(i:X.calm=true)(f:PI X c a wi)(h:PG X c g)(j:Yg X b d)(hs:∀x,foldedSetIterable a X.env x=pure x):PS X (.For c a b [] pos) (Tp wi g d):=dY e i f h j hs
def FK:List V->Hp->VK->Prop:=λa H Q=>(∃z,a=[.str z]/\Q (.str z) H)\/∃i,a=[.int i]/\i.natAbs.log2<1920/\Q (.str (toString i)) H
def Il:ZU X (.type "str") FK:=by
 intro a s U H d b Q I r h;rcases h with⟨z,rfl,q⟩|⟨i,rfl,c,q⟩
 .exact E8 a s U H _ b Q I r (Ol q)
 .exact UK a s U H _ b Q I r (s_str c q)
end L2
namespace Mine
open PySem L2
variable {C Pt Z0 Z1 Zo Zp Zq Zr Zs Zt Zu Zv Zw Zx Zy Zz a b dd dx f hg p r s0 st t x:Addr}{H H' H1:Hp}{K:W.Frag}{bk:List (Str×Str)}{cs cw:List Nat}{cws:Q7}{d i j k m:Nat}{ds l ps:List Addr}{fd:FuncData}{h:Option (List Nat)}{hs:Q5}{kvs:List (Key×V)}{mg:Q6}{mss:List (Q7)}{n:Nat->Int}{o:HO}{v:V}{w:World}{xs:List V}{z:Str}{zs:List Str}{α β:Type}
theorem x0:1<=sizeLine:=by decide
theorem r0:2<=sizeLine:=by decide
theorem za0:3<=sizeLine:=by decide
theorem za1:4<=sizeLine:=by decide
local macro_rules|`(tactic|fail $s:str)=>do let i x:=Lean.mkIdent (`_root_++String.toName x);match s.getString.splitOn " " with|"z"::r=>do let a<-r.toArray.mapM λx=>`(tacticSeq|refine $(i x) ?_);`(tactic|with_reducible first $[|$a]*)|["y",x,t]=>`(tactic|((with_reducible refine $(i x) ?sc ?_); (case sc => fail $(Lean.Syntax.mkStrLit t))))|["w",x,t]=>`(tactic|((with_reducible refine' $(i x) ?sc ?_); (case sc => fail $(Lean.Syntax.mkStrLit t))))|["v",x]=>`(tactic|((with_reducible refine' $(i x) ?se ?sn ?_); (case se => fail "rd"); (case sn => exact rfl)))|_=>Lean.Macro.throwUnsupported
local macro_rules | `(tactic| fail "rd") => `(tactic| first | assumption | exact bX | exact cX | exact zP | exact aO (by assumption) | exact bO (by assumption) | (apply aQ (aE (by assumption) _); fail "rd"))
local macro_rules | `(tactic| fail "dd") => `(tactic| first | exact pD (by assumption) | exact Pr (by assumption) | exact pD aG | assumption)
local macro_rules | `(tactic| fail "lo") => `(tactic| first | assumption | decide | omega | (simp only [List.length_map,List.length_append,List.length_cons,List.length_nil,Str.length_append]; omega))
local macro_rules | `(tactic| fail "ln") => `(tactic| first | assumption | decide | exact bJ (by fail "lo") | exact bM (by fail "lo"))
local macro_rules | `(tactic| fail "ar") => `(tactic| first | assumption | decide | omega | exact ⟨by omega,by omega⟩ | exact Or.inl ⟨by omega,by omega⟩ | exact Or.inr ⟨by omega,by omega⟩ | (dsimp only; done) | (dsimp only; omega))
local macro_rules|`(tactic|right)=>`(tactic|decide +kernel)
local macro_rules | `(tactic| fail "g") => `(tactic| repeat' (fail "s"))
local macro_rules|`(tactic|left)=>`(tactic|fail "g")
local macro_rules | `(tactic| fail "sc") => `(tactic| exact ⟨rfl,rfl,rfl,by decide +kernel,rfl,by decide +kernel,by decide +kernel⟩)
local macro_rules | `(tactic| fail "o") => `(tactic| first | exact Or.inl rfl | exact Or.inr rfl)
local macro_rules|`(tactic|fail "5")=>`(tactic|first|dsimp only)
local macro_rules|`(tactic|fail "4")=>`(tactic|first|fail "z L2.FE L2.F9 L2.KO L2.Kw L2.Jv L2.Ab L2.LU L2.Hz"|fail "v L2.Qv"|fail "z L2.JR L2.BE L2.FW L2.MZ"|fail "y L2.IQ ln"|fail "z L2.GI L2.AF L2.Ig L2.DY L2.E5 L2.GX L2.Kd L2.JK L2.CG L2.G0 L2.FL L2.Jz L2.CA L2.Ol L2.C2 L2.Ly L2.CY L2.Nv")
local macro_rules|`(tactic|fail "3")=>`(tactic|first|fail "y L2.s_str ar"|fail "z L2.Jm L2.GC L2.Np L2.AQ L2.IB"|fail "v L2.LR"|fail "z L2.DL L2.Jb L2.zy L2.EO"|fail "w L2.BC rd"|fail "z L2.FI L2.E_ L2.IX L2.EC"|fail "y L2.HB dd")
local macro_rules|`(tactic|fail "2")=>`(tactic|first|fail "w L2.Ll rd"|fail "z L2.La L2.IP L2.Kr L2.LL L2.Kp L2.NA L2.FZ L2.JJ L2.MS"|fail "w L2.zz rd"|((with_reducible refine' BM ?se ?sl ?_); (case se => fail "rd"); (case sl => fail "ln"))|((with_reducible refine' FY ?se ?sf ?sl ?_); (case se => fail "rd"); (case sf => fail "rd"); (case sl => fail "ln")))
local macro_rules|`(tactic|fail "1")=>`(tactic|first|fail "y L2.Mb ar"|with_reducible refine D7 ?_|fail "y L2.mX ln"|fail "z L2.K9 L2.AJ L2.HM L2.IW L2.F5 L2.DI L2.Jk"|fail "y L2.Mn ln"|fail "w L2.E4 rd"|fail "y L2.CL ln"|fail "w L2.HJ rd")
local macro_rules|`(tactic|fail "0")=>`(tactic|first|fail "z L2.DN L2.E7 L2.Jp L2.IZ L2.EV L2.Iv L2.FD L2.PH L2.Jq"|((with_reducible refine' DO ?sv ?_); (case sv => exact rfl))|fail "z L2.B2 L2.J2 L2.EN L2.G3 L2.IH L2.L_ L2.Ls L2.FX L2.JZ L2.KY L2.AV L2.B5"|fail "w L2.MU rd"|fail "z L2.Mc L2.Nx L2.KR L2.BG L2.Ii L2.Mt L2.HQ L2.LY L2.A9 L2.E9 L2.JY")
local macro_rules|`(tactic|fail "s")=>`(tactic|first|fail "0"|fail "1"|fail "2"|fail "3"|fail "4"|fail "5")
def W5(K:W.Frag)(l k j h g f e d c b a m D:Addr)(i:Nat):Prop:=W.kitOne K (.ref D) (.ref l)=some (decide (i=0))/\W.kitOne K (.ref D) (.ref k)=some (decide (i=1))/\W.kitOne K (.ref D) (.ref j)=some (decide (i=2))/\W.kitOne K (.ref D) (.ref h)=some (decide (i=3))/\W.kitOne K (.ref D) (.ref g)=some (decide (i=4))/\W.kitOne K (.ref D) (.ref f)=some (decide (i=5))/\W.kitOne K (.ref D) (.ref e)=some (decide (i=6))/\W.kitOne K (.ref D) (.ref d)=some false/\W.kitOne K (.ref D) (.ref c)=some false/\W.kitOne K (.ref D) (.ref b)=some false/\W.kitOne K (.ref D) (.ref a)=some false/\W.kitOne K (.ref D) (.type "ValueError")=some true/\W.exmOne K (.ref D) (.ref m)=some true
noncomputable def top(i:Nat):Stmt:=PySem.Challenge.pw_flaglocker_k61_rows_refused.main.body.getD i (.Pass ⟨0,0,0,0⟩)
noncomputable abbrev rX:Stmt:=top 28
noncomputable abbrev fP:Stmt:=top 29
noncomputable abbrev rW:Stmt:=top 21
noncomputable abbrev hW:Stmt:=top 30
noncomputable abbrev sC:Stmt:=top 31
noncomputable abbrev nH:Stmt:=top 87
noncomputable abbrev mZ:Stmt:=top 84
noncomputable abbrev sY:Stmt:=top 81
noncomputable abbrev mR:Stmt:=top 85
noncomputable abbrev gN:Stmt:=top 86
noncomputable abbrev iI:Stmt:=top 53
noncomputable abbrev lC:Stmt:=mV (top 99) 0
noncomputable abbrev mH:Stmt:=mV (top 115) 0
noncomputable abbrev yK:Stmt:=top 118
noncomputable abbrev vY:Stmt:=top 106
noncomputable abbrev iO:Stmt:=top 107
noncomputable abbrev gG:Stmt:=top 108
noncomputable abbrev sL:Stmt:=top 111
noncomputable abbrev rS:Stmt:=top 19
noncomputable abbrev kK:Stmt:=top 33
noncomputable abbrev eS:Stmt:=top 35
noncomputable abbrev pG:Stmt:=top 36
noncomputable abbrev kP:Stmt:=top 37
noncomputable abbrev jU:Stmt:=mV (top 9) 0
noncomputable abbrev iU:Stmt:=top 110
noncomputable abbrev Oj:Stmt:=top 78
noncomputable abbrev pE:Stmt:=top 40
noncomputable abbrev jP:Stmt:=top 41
noncomputable abbrev gO:Stmt:=top 42
noncomputable abbrev eT:Stmt:=top 43
noncomputable abbrev kQ:Stmt:=mV (top 7) 0
noncomputable abbrev eJ:Stmt:=top 45
noncomputable abbrev lE:Stmt:=top 44
noncomputable abbrev oW:Stmt:=top 46
noncomputable abbrev sQ:Stmt:=top 20
noncomputable abbrev oV:Stmt:=top 109
noncomputable abbrev eC:Stmt:=top 113
noncomputable abbrev xI:Stmt:=top 55
noncomputable abbrev kX:Stmt:=top 58
noncomputable abbrev hX:Stmt:=top 57
noncomputable abbrev kZ:Stmt:=top 61
noncomputable abbrev nK:Stmt:=top 59
noncomputable abbrev hU:Stmt:=top 62
noncomputable abbrev kR:Stmt:=top 63
noncomputable abbrev gC:Stmt:=top 64
noncomputable abbrev pJ:Stmt:=top 71
noncomputable abbrev iG:Stmt:=top 92
noncomputable abbrev kL:Stmt:=mV (top 4) 0
noncomputable abbrev TR:Stmt:=top 54
noncomputable abbrev hV:Stmt:=top 97
noncomputable abbrev eX:Stmt:=top 90
noncomputable abbrev NC:Stmt:=top 75
noncomputable abbrev lK:Stmt:=top 34
noncomputable abbrev jI:Stmt:=top 93
noncomputable abbrev iN:Stmt:=top 94
noncomputable abbrev gU:Stmt:=top 91
noncomputable abbrev jO:Stmt:=top 95
noncomputable abbrev jT:Stmt:=top 96
noncomputable abbrev jG:Stmt:=top 98
noncomputable abbrev pL:Stmt:=mV (top 99) 1
noncomputable abbrev vM:Stmt:=top 112
noncomputable abbrev fY:Stmt:=top 83
noncomputable abbrev fT:Stmt:=top 82
noncomputable abbrev mC:Stmt:=mV (top 99) 4
noncomputable abbrev gF:Stmt:=mV (top 99) 2
noncomputable abbrev iM:Stmt:=mV (top 99) 3
noncomputable abbrev mG:Stmt:=top 48
noncomputable abbrev pM:Stmt:=top 49
noncomputable abbrev sR:Stmt:=top 50
noncomputable abbrev hZ:Stmt:=mV (top 99) 5
noncomputable abbrev eR:Stmt:=top 114
noncomputable abbrev pF:Stmt:=mV (top 115) 1
noncomputable abbrev yA:Stmt:=top 117
noncomputable abbrev qX:Stmt:=top 119
noncomputable abbrev vS:Stmt:=top 120
structure OB (K:W.Frag) (Zo Zz Zr Zx Z0 Zt Zy Zu Zw Zv Zq Zs Zp Z1:Addr):Prop where
 XD:W.excIn K Zx [.type "ValueError",.type "Exception",.type "BaseException",.type "object"] "ValueError.__new__"=true
 x_NoDeed:W.excIn K Zt [.type "ValueError",.type "Exception",.type "BaseException",.type "object"] "ValueError.__new__"=true
 x_NoHalyard:W.excIn K Zy [.type "ValueError",.type "Exception",.type "BaseException",.type "object"] "ValueError.__new__"=true
 x_NoFlag:W.excIn K Zw [.type "ValueError",.type "Exception",.type "BaseException",.type "object"] "ValueError.__new__"=true
 x_NoText:W.excIn K Zv [.type "ValueError",.type "Exception",.type "BaseException",.type "object"] "ValueError.__new__"=true
 x_NoRow:W.excIn K Zp [.type "ValueError",.type "Exception",.type "BaseException",.type "object"] "ValueError.__new__"=true
 ek_NoRow:Yy K Zp
 ek_NoHalyard:Yy K Zy
 ek_NoFlag:Yy K Zw
 ek_NoText:Yy K Zv
 kn_NoRow:W5 K Zp Zy Zw Zv Zu Zq Zr Zo Zs Zt Zx Zz Zp 0
 kn_NoHalyard:W5 K Zp Zy Zw Zv Zu Zq Zr Zo Zs Zt Zx Zz Zy 1
 kn_NoFlag:W5 K Zp Zy Zw Zv Zu Zq Zr Zo Zs Zt Zx Zz Zw 2
 kn_NoText:W5 K Zp Zy Zw Zv Zu Zq Zr Zo Zs Zt Zx Zz Zv 3
 kn_NoWord:W5 K Zp Zy Zw Zv Zu Zq Zr Zo Zs Zt Zx Zz Zu 4
 kn_NoCut:W5 K Zp Zy Zw Zv Zu Zq Zr Zo Zs Zt Zx Zz Zq 5
 kn_Short:W5 K Zp Zy Zw Zv Zu Zq Zr Zo Zs Zt Zx Zz Zr 6
 t1_TowerError:W.specialIn K (.ref Zz) "__getattribute__"=some (some (.builtin "type.__getattribute__"))
 t2_TowerError:W.readsIn K Zz (.type "type")=true
 t3_TowerError:W.findCls K (.ref Zz) (.type "type") "__init__"=some (.val (.builtin "ValueError.__init__"))
 xo_Short:WB K Zr [.type "ValueError",.type "Exception",.type "BaseException",.type "object"] "ValueError.__new__"=true
 xk_Short:W.keepIn K (.ref Zr)=true
 xx_Short:Yy K Zr
 xs_Short:W.findIn K (.ref Zr) "__setattr__"=some (some (.builtin "object.__setattr__"))
 xr_Short:Uw K Zr Zz=true
 xv_Short:W.subIn K (.ref Zr) (.type "ValueError")=some true
 xn_Short_flag:W.findIn K (.ref Zr) "flag"=some none
 xo_NoWord:WB K Zu [.type "ValueError",.type "Exception",.type "BaseException",.type "object"] "ValueError.__new__"=true
 xk_NoWord:W.keepIn K (.ref Zu)=true
 xx_NoWord:Yy K Zu
 xs_NoWord:W.findIn K (.ref Zu) "__setattr__"=some (some (.builtin "object.__setattr__"))
 xr_NoWord:Uw K Zu Zz=true
 xv_NoWord:W.subIn K (.ref Zu) (.type "ValueError")=some true
 xn_NoWord_at:W.findIn K (.ref Zu) "at"=some none
 xo_NoCut:WB K Zq [.type "ValueError",.type "Exception",.type "BaseException",.type "object"] "ValueError.__new__"=true
 xk_NoCut:W.keepIn K (.ref Zq)=true
 xx_NoCut:Yy K Zq
 xs_NoCut:W.findIn K (.ref Zq) "__setattr__"=some (some (.builtin "object.__setattr__"))
 xr_NoCut:Uw K Zq Zz=true
 xv_NoCut:W.subIn K (.ref Zq) (.type "ValueError")=some true
 xn_NoCut_terms:W.findIn K (.ref Zq) "terms"=some none
 cl1_Tower:W.plainGet K Z0 Str.empty=true
 cl2_Tower:W.hasDictIn K Z0=true
 cl3_Tower:W.plainOver K Z0=true
 cl4_Tower:W.findIn K (.ref Z0) "__setattr__"=some (some (.builtin "object.__setattr__"))
 mk1_Tower:W.makesIn K Z0=true
 mk2_Tower:W.keepIn K (.ref Z0)=true
 na_Tower_book:W.findIn K (.ref Z0) "book"=some none
 na_Tower_many:W.findIn K (.ref Z0) "many"=some none
 na_Tower_stock_at_first:W.findIn K (.ref Z0) "stock_at_first"=some none
 na_Tower_stock:W.findIn K (.ref Z0) "stock"=some none
 na_Tower_hung:W.findIn K (.ref Z0) "hung"=some none
 na_Tower_deeds:W.findIn K (.ref Z0) "deeds"=some none
 cl1_Desk:W.plainGet K Z1 Str.empty=true
 cl2_Desk:W.hasDictIn K Z1=true
 cl3_Desk:W.plainOver K Z1=true
 cl4_Desk:W.findIn K (.ref Z1) "__setattr__"=some (some (.builtin "object.__setattr__"))
 mk1_Desk:W.makesIn K Z1=true
 mk2_Desk:W.keepIn K (.ref Z1)=true
 na_Desk_book:W.findIn K (.ref Z1) "book"=some none
 na_Desk_tower:W.findIn K (.ref Z1) "tower"=some none
structure Gs (K:W.Frag) (mg:Str->Option Value) (w:World) (Zo Zz Zr Zx Z0 Zt Zy Zu Zw Zv Zq Zs Zp Z1:Addr):Prop extends OB K Zo Zz Zr Zx Z0 Zt Zy Zu Zw Zv Zq Zs Zp Z1 where
 V8:mg "Lack"=some (.ref Zo)
 c_TowerError:mg "TowerError"=some (.ref Zz)
 c_Short:mg "Short"=some (.ref Zr)
 c_NoHoist:mg "NoHoist"=some (.ref Zx)
 c_Tower:mg "Tower"=some (.ref Z0)
 c_NoDeed:mg "NoDeed"=some (.ref Zt)
 c_NoHalyard:mg "NoHalyard"=some (.ref Zy)
 c_NoWord:mg "NoWord"=some (.ref Zu)
 c_NoFlag:mg "NoFlag"=some (.ref Zw)
 c_NoText:mg "NoText"=some (.ref Zv)
 c_NoCut:mg "NoCut"=some (.ref Zq)
 c_NoBook:mg "NoBook"=some (.ref Zs)
 c_NoRow:mg "NoRow"=some (.ref Zp)
 c_Desk:mg "Desk"=some (.ref Z1)
 d_WORDS_IN:TQ w K mg "WORDS_IN" [("haul",3),("lower",2),("lose",2),("find",2),("sight",2),("check",2),("halyards",1),("locker",1),("read",1),("log",1)]
 d_THINGS_IN:TQ w K mg "THINGS_IN" [("haul",3),("lower",2),("lose",2),("find",2),("say",2)]
 t_WITH_TERMS:WQ K mg "WITH_TERMS" ["say", "cut"]
 b_all:mg "all"=none
 b_len:mg "len"=none
 b_range:mg "range"=none
 b_str:mg "str"=none
 b_int:mg "int"=none
 b_dict:mg "dict"=none
 b_list:mg "list"=none
 b_enumerate:mg "enumerate"=none
 b_sum:mg "sum"=none
 b_min:mg "min"=none
 b_max:mg "max"=none
 b_isinstance:mg "isinstance"=none
 b_ValueError:mg "ValueError"=none
 s_LONGEST_TERM:∃t,mg "LONGEST_TERM"=some (.int 10 t)
 s_TERM_LETTERS:∃t,mg "TERM_LETTERS"=some (.str "abcdefghijklmnopqrstuvwxyz" t)
 s_MOST_PLACES:∃t,mg "MOST_PLACES"=some (.int 7 t)
 s_LETTERS:∃t,mg "LETTERS"=some (.str "abcdefghijklmnopqrstuvw" t)
 s_MOST_TUPLES:∃t,mg "MOST_TUPLES"=some (.int 60 t)
 s_LONGEST_WORD:∃t,mg "LONGEST_WORD"=some (.int 6 t)
 s_MOST_TERMS_MEANT:∃t,mg "MOST_TERMS_MEANT"=some (.int 5 t)
 s_MOST_OF_A_FLAG:∃t,mg "MOST_OF_A_FLAG"=some (.int 99 t)
 s_SUBSTITUTES:∃t,mg "SUBSTITUTES"=some (.str "1234" t)
 s_FLAGS:∃t,mg "FLAGS"=some (.str "abcdefghijklmnopqrstuvw1234" t)
 s_MOST_HALYARDS:∃t,mg "MOST_HALYARDS"=some (.int 6 t)
 s_HALYARD_FIGURES:∃t,mg "HALYARD_FIGURES"=some (.str "012345" t)
 s_MOST_TERMS:∃t,mg "MOST_TERMS"=some (.int 40 t)
 s_LEAST_SEEN:∃t,mg "LEAST_SEEN"=some (.int 2 t)
 s_HIDDEN:∃t,mg "HIDDEN"=some (.str "?" t)
 s_BARE:∃t,mg "BARE"=some (.str "-" t)
def Gs.X_(G:Gs K mg w Zo Zz Zr Zx Z0 Zt Zy Zu Zw Zv Zq Zs Zp Z1):VQ K Zr Zz:=⟨G.xx_Short,G.xs_Short,Sb G.xr_Short,G.xv_Short⟩
def Gs.Xs(G:Gs K mg w Zo Zz Zr Zx Z0 Zt Zy Zu Zw Zv Zq Zs Zp Z1):Vn K Zr:=⟨G.xo_Short,G.xk_Short⟩
def Gs.Ym(G:Gs K mg w Zo Zz Zr Zx Z0 Zt Zy Zu Zw Zv Zq Zs Zp Z1):VQ K Zu Zz:=⟨G.xx_NoWord,G.xs_NoWord,Sb G.xr_NoWord,G.xv_NoWord⟩
def Gs.Yp(G:Gs K mg w Zo Zz Zr Zx Z0 Zt Zy Zu Zw Zv Zq Zs Zp Z1):Vn K Zu:=⟨G.xo_NoWord,G.xk_NoWord⟩
def Gs.X8(G:Gs K mg w Zo Zz Zr Zx Z0 Zt Zy Zu Zw Zv Zq Zs Zp Z1):VQ K Zq Zz:=⟨G.xx_NoCut,G.xs_NoCut,Sb G.xr_NoCut,G.xv_NoCut⟩
def Gs.Xj(G:Gs K mg w Zo Zz Zr Zx Z0 Zt Zy Zu Zw Zv Zq Zs Zp Z1):Vn K Zq:=⟨G.xo_NoCut,G.xk_NoCut⟩
def Gs.Z5(G:Gs K mg w Zo Zz Zr Zx Z0 Zt Zy Zu Zw Zv Zq Zs Zp Z1):Yc K Z0:=⟨G.cl1_Tower,G.cl2_Tower,G.cl3_Tower,G.cl4_Tower⟩
def Gs.ZV(G:Gs K mg w Zo Zz Zr Zx Z0 Zt Zy Zu Zw Zv Zq Zs Zp Z1):Yc K Z1:=⟨G.cl1_Desk,G.cl2_Desk,G.cl3_Desk,G.cl4_Desk⟩
noncomputable abbrev Z7:Str := "abcdefghijklmnopqrstuvw"
noncomputable abbrev YF:Str := "1234"
noncomputable abbrev ZN:Str := "abcdefghijklmnopqrstuvw1234"
noncomputable abbrev one(c:Nat):Str:=⟨#[c]⟩
def BB:YF.cps.toList=[49,50,51,52]:=by decide
def EA:ZN.cps.toList=Z7.cps.toList++YF.cps.toList:=by decide
def bW(c:Nat):Prop:=97<=c/\c<=119
def dG(c:Nat):Prop:=49<=c/\c<=52
noncomputable instance (c:Nat):Decidable (bW c):=inferInstanceAs (Decidable (_/\_))
noncomputable instance (c:Nat):Decidable (dG c):=inferInstanceAs (Decidable (_/\_))
def ZJ:c∈Z7.cps.toList ↔ bW c:=by
 have b:∀c∈Z7.cps.toList,bW c:=by right
 have a:∀k:_root_.Fin 23,97+k.val∈Z7.cps.toList:=by right
 refine⟨b c,λh=>?_⟩;have e:=a ⟨c-97,by have:=h.1;have:=h.2;omega⟩
 rwa [show 97+(c-97)=c by have:=h.1;omega]at e
def YC:c∈YF.cps.toList ↔ dG c:=by
 have b:∀c∈YF.cps.toList,dG c:=by right
 have a:∀k:_root_.Fin 4,49+k.val∈YF.cps.toList:=by right
 refine⟨b c,λh=>?_⟩;have e:=a ⟨c-49,by have:=h.1;have:=h.2;omega⟩
 rwa [show 49+(c-49)=c by have:=h.1;omega]at e
def OT:c∈ZN.cps.toList ↔ bW c\/dG c:=by
 rw[EA,Ce,ZJ,YC]
def tK(h:bW c):¬dG c:=λz=>by unfold bW at h;unfold dG at z;omega
def pT(c:Nat):subIn (one c) YF=decide (dG c):=by
 rw[kF];exact Dy.mpr YC
def iH(z:Str):z.cps.toList.length=z.length:=by simp[Str.length]
def rM(h:z.length=1):∃c,z=one c:=by
 obtain⟨⟨l⟩⟩:=z
 match l,h with
 |[c],_=>exact⟨c,rfl⟩
noncomputable def cV(z:Str):Bool:=if z.length=1 then subIn z ZN else false
def tX(h:z.length≠1):cV z=false:=if_neg h
def pA:cV (one c)=decide (bW c\/dG c):=by
 unfold cV;rw[if_pos (by rfl),kF]
 exact Dy.mpr OT
def Jt(h:cV z=true):∃c,z=one c/\(bW c\/dG c):=by
 by_cases a:z.length=1
 .obtain⟨c,rfl⟩:=rM a;rw[pA]at h;exact⟨c,rfl,Aw h⟩
 .rw[tX a]at h;cases h
def sS(c:Nat)(p:Int):Prop:=bW c\/(dG c/\(c:Int)-48<p)
noncomputable instance (c:Nat) (p:Int):Decidable (sS c p):=inferInstanceAs (Decidable (_\/_))
noncomputable def dQ(z:Str)(p:Int):Bool:=if z.length=1 then decide (sS (z.cps.toList.headD 0) p) else false
def qB{p:Int}:dQ (one c) p=decide (sS c p):=rfl
def yP{p:Int}(h:dQ z p=true):∃c,z=one c/\sS c p:=by
 by_cases a:z.length=1
 .obtain⟨c,rfl⟩:=rM a;exact⟨c,rfl,Aw h⟩
 .unfold dQ at h;grind
noncomputable def eW(a:List Str):Bool:=if a.length<1\/7<a.length then false else (List.range a.length).all λi=>dQ (a.getD i ⟨#[]⟩) ((1+i:Nat):Int)
def iC(h:eW zs=true):1<=zs.length/\zs.length<=7:=by
 unfold eW at h;grind
def G9(h:eW zs=true)(a:i<zs.length):dQ (zs.getD i ⟨#[]⟩) ((1+i:Nat):Int)=true:=by
 unfold eW at h;simp_all
noncomputable def U2(w:List Nat)(c:Nat):Nat:=if dG c then w.getD (c-49) 0 else c
noncomputable def XQ(a:List Nat):List Nat:=a.foldl (λw c=>w++[U2 w c]) []
def EH(fs:List Nat)(c:Nat):XQ (fs++[c])=XQ fs++[U2 (XQ fs) c]:=by
 unfold XQ;simp_all
def Pz{a:List Nat}{c:Nat}(h:a[i]?=some c):XQ (a.take (i+1))=XQ (a.take i)++[U2 (XQ (a.take i)) c]:=by
 rw[Bf,h];exact EH _ _
def CF:∀a,(XQ a).length=a.length:=by
 intro a;have h:∀i,i<=a.length->(XQ (a.take i)).length=i:=by
  intro i;induction i with
  |zero=>intro _;rfl
  |succ i b=>
   intro c;rw[Pz (Aa (by (assumption))),Aj,b (by (exact Nat.le_of_lt (by assumption)))]
   rfl
 have q:=h a.length (Ai _)
 rwa [Cm]at q
def G1{a:List Nat}(h:i<=a.length):(XQ (a.take i)).length=i:=by
 rw[CF,Bi];omega
noncomputable def bS(cs:List Nat):Str:=⟨cs.toArray⟩
def dI(cs:List Nat):(bS cs).length=cs.length:=by show cs.toArray.size=_;simp
def cS(cs:List Nat):(bS cs).cps.toList=cs:=rfl
def sG(cs:List Nat)(c:Nat):bS cs++one c=bS (cs++[c]):=FlT.Zm (by rw[FlT.ZK];rfl)
def DG{a b:List Nat}(h:bS a=bS b):a=b:=Ds (λz=>z.cps.toList) h
noncomputable def mL(z:Str):Nat:=z.cps.toList.headD 0
def xZ(h:eW zs=true)(a:zs[i]?=some z):∃c,z=one c/\(zs.map mL)[i]?=some c/\(bW c\/(dG c/\c-49<i)):=by
 have f:=(Ag.mp a).1
 have q:=G9 h f
 rw[Ah,a]at q;obtain⟨c,e,d⟩:=yP q;have b:z=one c:=e
 refine⟨c,b,by rw[Ae,a,b];rfl,?_⟩
 rcases d with l|⟨s,l⟩
 .exact .inl l
 .refine .inr ⟨s,?_⟩;unfold dG at s;((try clear f);omega)
noncomputable def wG(a:List Str):Str:=bS (XQ (a.map mL))
noncomputable def Qp(z:Str):Bool:=z.cps.toList.all λc=>decide (c∈Z7.cps.toList)
noncomputable def fM(z:Str):Bool:=if z.length<1\/7<z.length then false else Qp z
def gL(f:α->β):∀l:List α,l.filterMap (λx=>some (f x))=l.map f
 |[]=>rfl
 |x::r=>by simp_all
def kG{f g:α->Option β}:∀ {l:List α},(∀x∈l,f x=g x)->l.filterMap f=l.filterMap g
 |[],_=>rfl
 |x::r,h=>by rw[Ed,Ed,h x Al,kG λy a=>h y (Am _ a)]
def one_inj{a b:Nat}:one a=one b ↔ a=b:=⟨λh=>by grind,λh=>by rw[h]⟩
def To(a b:Nat):decide (one a=one b)=decide (a=b):=Dy.mpr one_inj
def G6(h:k<cw.length):YJ (bS cw).cps.toList ((k:Nat):Int)=some (cw.getD k 0):=by
 refine aX ?_;rw[cS,Ah,Aa h];rfl
def P5{k:Int}(h:0<=k):lU xs none (some k)=xs.take k.toNat:=by
 show (xs.drop 0).take ((if k<0 then (k+_).toNat else min k.toNat xs.length)-0)=_
 grind
def zw{k:Int}(h:0<=k):Txt.slice (bS cw) none (some k)=bS (cw.take k.toNat):=by
 refine FlT.Zm ?_;rw[FlT.Yt,cS,cS,dI];show (cw.drop 0).take ((if k<0 then (k+_).toNat else min k.toNat cw.length)-0)=_
 grind
def J8(cs:List Nat):Txt.join "" (cs.map one)=bS cs:=by
 refine FlT.Zm ?_;rw[show Str.ofString ""=⟨#[]⟩ from rfl,FlT.Xo,cS];induction cs with
 |nil=>rfl
 |cons c r a=>rw[Ax,Ax,Dh,a];rfl
def EB(cs:List Nat):((cs.map one).map (·.length)).sum=cs.length:=by
 induction cs with
 |nil=>rfl
 |cons m r a=>rw[Ax,Ax,Gw,a,Be];show 1+r.length=_;((try clear a);omega)
def HS{ns:List Int}{i:Int}(c:0<=i)(h:i<ns.length):∃n,n∈ns/\YJ (ns.map V.int) i=some (.int n):=by
 obtain⟨v,b,a⟩:=MY (xs:=ns.map V.int) (i:=i) c (by rw[Ac];exact h)
 grind
def iD{ns:List Str}{x:V}(h:(ns.map V.str)[j]?=some x):∃n,ns[j]?=some n/\x=V.str n:=by
 rw[Ae]at h;cases e:ns[j]? with
 |none=>rw[e]at h;cases h
 |some n=>rw[e]at h;cases h;exact⟨n,rfl,rfl⟩
def vA(h:dG c):PySem.intText? (one c)=some ((c:Int)-48):=by
 unfold dG at h;have:c=49\/c=50\/c=51\/c=52:=by omega
 rcases this with rfl|rfl|rfl|rfl<;>right
def cJ(a:List Str):(a.map V.str).all cQ=true:=by
 rw[Bv];intro x b;obtain⟨z,_,rfl⟩:=Bw.mp b;rfl
noncomputable def U7(a:List Nat)(k n:Nat):Option Nat:=if a.getD n 0=a.getD k 0 then some (49+n) else none
noncomputable def Od(a:List Nat)(k:Nat):List Nat:=a.getD k 0::(List.range (min k 4)).filterMap (U7 a k)
def O8(b:∀d∈cw,bW d)(a:k<cw.length):bW (cw.getD k 0):=by simp_all
def ET:YK (.str (one c)) ((cs.map one).map V.str)=decide (c∈cs):=by
 induction cs with
 |nil=>rfl
 |cons d r a=>
  show ((one d==one c) || YK _ _)=_
  grind
def Jy(h:bW c):Builtin.Str.occurrences Z7 (one c) 0 Z7.length 1=[c-97]:=by
 have q:∀k:_root_.Fin 23,Builtin.Str.occurrences Z7 (one (97+k.val)) 0 Z7.length 1=[k.val]:=by right
 unfold bW at h;have e:=q ⟨c-97,by omega⟩
 grind
noncomputable def oC(cs:List Nat)(n:Nat):Int:=((List.range n).map λi=>((1+i:Nat):Int)*((cs.getD i 0-97:Nat):Int)).sum
def nU(cs:List Nat)(n:Nat):oC cs (n+1)=oC cs n+((1+n:Nat):Int)*((cs.getD n 0-97:Nat):Int):=by
 unfold oC;rw[Cp,Ar,List.sum_append];simp
def xT{cs ds:List Nat}:∀ {n:Nat},(∀i,i<n->cs.getD i 0=ds.getD i 0)->oC cs n=oC ds n
 |0,_=>rfl
 |n+1,h=>by rw[nU,nU,xT λi a=>h i (by omega),h n (by omega)]
def NU{cs ds:List Nat}{k:Nat}:∀ {n:Nat},k<n->(∀i,i<n->i≠k->cs.getD i 0=ds.getD i 0)->
 oC ds n=oC cs n+((1+k:Nat):Int)*(((ds.getD k 0-97:Nat):Int)-((cs.getD k 0-97:Nat):Int))
 |n+1,h,hh=>by
  rw[nU,nU];by_cases e:k=n
  .subst e;rw[xT   λi a=>(hh i (by ((try clear h);omega)) (by (exact Nat.ne_of_lt (by assumption)))).symm,Int.mul_sub]
   ((try clear h);omega)
  .rw[NU   (by omega) λi a=>hh i (by ((try clear e h);omega)),hh n (by ((try clear e h);omega)) (λz=>e z.symm)]
   ((try clear e h);omega)
def CQ{m x y:Int}(e:k<7)(d:0<=x/\x<23)(c:0<=y/\y<23)(h:m%23=0):(m+((1+k:Nat):Int)*(y-x))%23=0 ↔ y=x:=by
 have q:∀k:_root_.Fin 7,∀x y:_root_.Fin 23,(((1+k.val:Nat):Int)*((y.val:Int)-(x.val:Int)))%23=0 ↔ y.val=x.val:=by right
 obtain⟨a,rfl⟩:∃a:Nat,x=_:=⟨x.toNat,(Int.toNat_of_nonneg d.1).symm⟩;obtain⟨b,rfl⟩:∃b:Nat,y=_:=⟨y.toNat,(Int.toNat_of_nonneg c.1).symm⟩;rw[Int.add_emod,h,Int.zero_add,Int.emod_emod];exact(q ⟨k,e⟩ ⟨a,Int.ofNat_lt.mp d.2⟩ ⟨b,Int.ofNat_lt.mp c.2⟩).trans Int.ofNat_inj.symm
noncomputable def jQ(cs:List Nat):Bool:=decide (oC cs cs.length%23=0)
noncomputable def Om(cs:List Nat):Bool:=decide (1<cs.length)&&jQ cs
def xH(a:k<cs.length):(cs.set k d).getD i 0=if i=k then d else cs.getD i 0:=by grind
def Qm(e:∀d∈cs,bW d){c:Nat}(b:bW c):∀d∈cs.set k c,bW d:=λd a=>by grind
def wM{k d:Nat}(a:k<cs.length):oC (cs.set k d) cs.length=oC cs cs.length+((1+k:Nat):Int)*(((d-97:Nat):Int)-((cs.getD k 0-97:Nat):Int)):=by
 have e:(cs.set k d).getD k 0=d:=by rw[xH a,if_pos rfl]
 rw[NU (cs:=cs)   a (λi c b=>by rw[xH a,if_neg b]),e]
def Nk(g:cs.length<=7)(f:∀d∈cs,bW d){k d:Nat}(a:k<cs.length)(e:bW d)(h:jQ cs=true):jQ (cs.set k d)=decide (d=cs.getD k 0):=by
 unfold jQ at h ⊢;have b:=Aw h
 have c:=O8 f a
 unfold bW at e c;rw[Dm,wM a];refine Dy.mpr ((CQ (by ((try clear b c e);omega)) ⟨by (exact Int.natCast_nonneg _),by ((try clear a b e g);omega)⟩ ⟨by (exact Int.natCast_nonneg _),by ((try clear a b c g);omega)⟩ b).trans ?_)
 ((try clear a b g);omega)
def Ko(n:cs.length<=7)(h:k<cs.length):∃d,bW d/\jQ (cs.set k d)=true:=by
 have q:∀k:_root_.Fin 7,∀m:_root_.Fin 23,∃d:_root_.Fin 23,(m.val+(1+k.val)*d.val)%23=0:=by right
 have b:=wM (cs:=cs) (k:=k) (d:=97) h
 have g:=Int.emod_nonneg (oC (cs.set k 97) cs.length) (show (23:Int)≠0 by decide)
 have f:=Int.emod_lt_of_pos (oC (cs.set k 97) cs.length) (show (0:Int)<23 by decide)
 obtain⟨a,c⟩:∃a:Nat,oC (cs.set k 97) cs.length%23=(a:Int):=⟨_,(Int.toNat_of_nonneg g).symm⟩;obtain⟨d,j⟩:=q ⟨k,Bc h n⟩ ⟨a,Int.ofNat_lt.mp (c▸f)⟩;refine⟨97+d.val,⟨Gk ..,Nat.add_le_add_left (Nat.le_of_lt_succ d.isLt) 97⟩,?_⟩;unfold jQ;rw[Dm];have e:=wM (cs:=cs) (k:=k) (d:=97+d.val) h
 grind
def Lm{k:Int}(h:0<=k):Txt.slice (bS cw) (some k) none=bS (cw.drop k.toNat):=by
 refine FlT.Zm ?_;rw[FlT.Yt,cS,cS,dI];show (cw.drop (if k<0 then (k+_).toNat else min k.toNat cw.length)).take (cw.length-(if k<0 then (k+_).toNat else min k.toNat cw.length))=_
 rw[if_neg (by omega)]
 by_cases a:k.toNat<=cw.length
 .rw[Ep a,Bd (by simp_all)]
 .rw[Eh (by ((try clear h);omega)),Gb (by ((try clear a h);omega)),Gb (by ((try clear h);omega)),List.take_nil]
def Nw(b:∀d∈cs,bW d):(bS cs).cps.all (· < 128)=true:=by
 rw[Array.all_eq_true];intro i a;have c:(bS cs).cps[i]∈cs:=by
  have:=Array.getElem_mem a
  rwa[<-Array.mem_toList_iff]at this
 have:=b _ c
 unfold bW at this;grind
def vQ(c:Nat):Prop:=97<=c/\c<=122
def fX(t:List Nat):Prop:=1<=t.length/\t.length<=10/\∀c∈t,vQ c
noncomputable abbrev YB:Str := "abcdefghijklmnopqrstuvwxyz"
def ZA(H:Hp)(r:Addr)(c:List (Str×Str)):Prop:=∃a:List Addr,H r=some (.lst (a.map V.ref))/\a.length=c.length/\∀(j:Nat) p b,a[j]?=some p->c[j]?=some b->H p=some (.tup [.str b.1,.str b.2])
def ZA.keep{H:Hp}(h:ZA H r bk)(s:Same H H'):ZA H' r bk:=by
 obtain⟨a,g,f,e⟩:=h;exact⟨a,s _ _ g,f,λj p b c d=>s _ _ (e j p b c d)⟩
noncomputable def eL(a:List (List Nat)):Str:=Txt.join " " (a.map bS)
def Ot:∀a:List _,(∀t∈a,fX t)->((a.map bS).map (·.length)).sum<=10*a.length
 |[],_=>Ai _
 |t::r,h=>by
  rw[Ax,Ax,Gw,Be,dI];have c:=(h t Al).2.1
  have:=Ot r λx b=>h x (Am _ b)
  omega
def sN{k:Int}(h:0<=k):lU xs (some k) none=xs.drop k.toNat:=by
 show (xs.drop (if k<0 then (k+_).toNat else min k.toNat xs.length)).take (xs.length-(if k<0 then (k+_).toNat else min k.toNat xs.length))=_
 rw[if_neg (by omega)]
 by_cases a:k.toNat<=xs.length
 .rw[Ep a,Bd (by simp_all)]
 .rw[Eh (by ((try clear h);omega)),Gb (by ((try clear a h);omega)),Gb (by ((try clear h);omega)),List.take_nil]
def N9(sep:Array Nat):∀(b:List Str) (a:Array Nat),(b.foldl (λa p=>a++sep++p.cps) a).toList=a.toList++(b.map λy=>sep.toList++y.cps.toList).flatten
 |[],a=>by simp
 |y::r,a=>by
  rw[List.foldl_cons,N9 sep r];simp
def QX(sep y:Str)(r:List Str):(Txt.join sep (y::r)).cps.toList=y.cps.toList++(r.map λy=>sep.cps.toList++y.cps.toList).flatten:=by
 have e:=N9 sep.cps r y.cps
 rw[<-e];rfl
def UN(K:W.Frag)(d:Addr):Sp:=λc H Q _=>∃(a:Addr) (b:List Int),c=[.ref a]/\Y6 K H a (b.map V.int)/\b.length<=63/\H d=some (.tbl #[])/\∀e,Q (.bl true) e
def kT:Sp:=λa H Q _=>∃z,a=[.str z]/\z.length<=1000/\Q (.bl (cV z)) H
def qM:Sp:=λa H Q _=>∃z p,a=[.str z,.int p]/\z.length<=1000/\Q (.bl (dQ z p)) H
def tZ:Sp:=λd H Q _=>∃a b,d=[.ref a]/\Z6 H a=some (b.map V.str)/\b.length<=1000/\(∀z∈b,z.length<=1000)/\∀c,Same H c->Q (.bl (eW b)) c
def wR(e:Addr):Sp:=λd H Q E=>∃a b,d=[.ref a]/\Z6 H a=some (b.map V.str)/\b.length<=1000/\(∀z∈b,z.length<=1000)/\(eW b=true->∀c,Same H c->Q (.str (wG b)) c)/\(eW b=false->∀c,Same H c->E (.ref e) none c)
def OO{j:Int}(e:j=(k:Int))(h:k<cw.length):YJ (bS cw).cps.toList j=some (cw.getD k 0):=by
 rw[e];exact G6 h
def cW{i:Int}(e:H p=some (.tup xs))(b:YJ xs i=some v)(h:Q v H):Xg (.ref p) (.int i) H Q:=by
 have a:Z6 H p=none:=by unfold Z6;rw[e];rfl
 unfold Xg;simp only[a,dN e,b];exact h
section
variable {P:Program} {w:World} {K:W.Frag} {mg:Q6} {base:Heap}
def oK(c:Addr):Sp:=λd H Q _=>∃a v,d=[.ref a,v]/\H a=some (iY a c none)/\∀b,H b=none->Q .non (upd (upd H a (iY a c (some b))) b (YL b [("flag",v)]))
def yW:Z_ ["self", "flag"] ["self", "flag"] (aJ kL):=by fail "sc"
variable(G:Gs K mg w Zo Zz Zr Zx Z0 Zt Zy Zu Zw Zv Zq Zs Zp Z1)
def zB(F:ZQ K "__init__" "Short.__init__" kL f fd):Z9 P w K mg base ZO 1 f fd ["self", "flag"] (oK Zr):=by
 refine F.ok yW (λd H Q E h=>?_) (λe A a s H d Q E g h=>?_)
 .obtain⟨b,v,rfl,_⟩:=h;rfl
 obtain⟨b,v,rfl,c,q⟩:=h;refine⟨_,(@aH _ _ _ _ _ (cR (vN rfl G.c_TowerError G.t1_TowerError G.t2_TowerError G.t3_TowerError (aA (mv 0) (aA (mv 1) aD)))) (@aI _ _ _ (SK (mv 0) (mv 1) rfl))),?_⟩;refine⟨b,[v],Zr,Zz,none,rfl,x0,c,(λ_ z=>nomatch z),G.X_,?_⟩
 exact⟨b,Zr,Zz,rfl,G.X_,G.xn_Short_flag,.inl ⟨c,q⟩⟩
def mU{a:Addr}{h f:HO}(s:Same H H1)(h1:H1 a=none)(d:upd H1 a o dx=none):Same H (del (upd (upd (upd H1 a o) a h) dx f) a):=λb u e=>by
 have g:=s b u e
 have c:=bN g h1
 have i:b≠dx:=λz=>by rw[<-z,aK c,g]at d;cases d
 rwa[lY c,aK i,aK c,aK c]
def jM{a:Addr}{c b:HO}(e:upd H1 a o dx=none):upd (upd (upd H1 a o) a c) dx b a=some c/\del (upd (upd (upd H1 a o) a c) dx b) a dx=some b:=by
 have d:dx≠a:=λz=>by rw[z,aG]at e;cases e
 exact⟨by rw[aK d.symm,aG],by rw[lY d,aG]⟩
structure Lk (kvs:List (Key×V)) (f:Nat->Option Int):Prop where
 nd:(kvs.map (·.1)).Nodup
 ks:∀kv∈kvs,∃(c:Nat) (n:Int),kv=(Sum.inr (one c),V.int n)
 val:∀c,dE kvs (Sum.inr (one c))=(f c).map V.int
def Lk.nil:Lk [] (λ_=>none):=⟨List.nodup_nil,(λa h=>nomatch h),λc=>rfl⟩
def Yj{a b:Nat}:((Sum.inr (one a):Key)=Sum.inr (one b)) ↔ a=b:=⟨λh=>one_inj.mp (Sum.inr.inj h),λh=>by rw[h]⟩
def Mw:∀ {l:List α} {k:α},l.Nodup->¬k∈l->(l++[k]).Nodup
 |[],k,_,_=>by simp
 |a::r,k,h,hk=>by
  grind
def Lv{k:Key}(h:dE kvs k=none):¬k∈kvs.map (·.1):=λm=>by
 obtain⟨p,b,e⟩:=Bw.mp m;have q:(kvs.any λa=>decide (a.1=k))=true:=List.any_eq_true.mpr ⟨p,b,Ao e⟩
 rw[iE,h]at q;cases q
def Ql(kvs:List (Key×V))(k:Key)(v:V)(h:dE kvs k≠none):(eP kvs k v).map (·.1)=kvs.map (·.1):=by
 unfold eP;have e:(kvs.any λa=>decide (a.1=k))=true:=by
  rw[iE];cases q:dE kvs k with
  |none=>exact absurd q h
  |some _=>rfl
 rw[if_pos e,Ci];refine List.map_congr_left λa _=>?_;grind
def Lk.put{f:Nat->Option Int}(h:Lk kvs f)(c:Nat)(n:Int):Lk (eP kvs (Sum.inr (one c)) (.int n)) (λd=>if d=c then some n else f d) where
 nd:=by
  cases e:dE kvs (Sum.inr (one c)) with
  |none=>rw[mY _ e,Ar];exact Mw h.nd (Lv e)
  |some v=>rw[Ql _ _ _ (by rw[e];exact λz=>nomatch z)];exact h.nd
 ks:=λj a=>by
  unfold eP at a;split at a
  .obtain⟨b,k,e⟩:=Bw.mp a;obtain⟨g,i,l⟩:=h.ks b k;subst l;dsimp only at e;split at e
   .exact⟨g,n,e.symm⟩
   .exact⟨g,i,e.symm⟩
  .rcases Ce.mp a with q|q
   .exact h.ks j q
   .exact⟨c,n,Ak.mp q⟩
 val:=λd=>by
  rw[Kv];by_cases e:d=c
  .rw[if_pos (Yj.mpr e),if_pos e];rfl
  .rw[if_neg (λz=>e (Yj.mp z)),if_neg e];exact h.val d
noncomputable def cntF(f:Nat->Option Int)(c:Nat):Int:=(f c).getD 0
def fU(c:Nat):Prop:=bW c\/dG c
noncomputable instance (c:Nat):Decidable (fU c):=inferInstanceAs (Decidable (_\/_))
noncomputable def bK(n:Nat->Int)(c:Nat):Option Int:=if fU c/\0<n c then some (n c) else none
def qU{m:Nat->Int}(h:∀c,fU c->m c=n c):bK m=bK n:=by
 funext c
 unfold bK;by_cases q:fU c
 .rw[h c q]
 simp_all
def fD(a:fU c)(h:0<=n c):cntF (bK n) c=n c:=by
 unfold cntF bK;grind
def Lk.ext{f g:Nat->Option Int}(h:Lk kvs f)(e:f=g):Lk kvs g:=e▸h
def rL(f:Nat->Option Int)(c:Nat):((f c).map V.int).getD (.int 0)=.int (cntF f c):=by
 unfold cntF;simp_all
def ZC:c∈ZN.cps.toList ↔ fU c:=OT
noncomputable def RJ(n:Nat->Int)(i c:Nat):Option Int:=if c∈ZN.cps.toList.take i/\0<n c then some (n c) else none
def zo(n:Nat->Int):RJ n 0=λ_=>none:=by
 funext c
 unfold RJ;grind
def Lh(cs:List Nat)(c:Nat):(cs.map one).countP (· == one c)=cs.countP (· == c):=by
 rw[List.countP_map];refine List.countP_congr λd _=>?_;simp_all
noncomputable def Zn(g:Nat->Int)(L:List Nat):List (Key×V):=L.map λc=>(Sum.inr (one c),V.int (g c))
noncomputable def aU(n:Nat->Int)(i:Nat):List Nat:=(ZN.cps.toList.take i).filter λc=>decide (0<n c)
def NW{g:Nat->Int}{L:List Nat}{c:Nat}(h:c∉L):dE (Zn g L) (Sum.inr (one c))=none:=by
 induction L with
 |nil=>rfl
 |cons d r a=>
  show dE (_::Zn g r) _=none
  rw[dD (λz=>h (by rw[Yj.mp z];exact Al)),a λz=>h (Am _ z)]
def X6:ZN.cps.toList.Nodup:=by right
def ZP:c∈aU n i ↔ c∈ZN.cps.toList.take i/\0<n c:=by
 unfold aU;rw[Gy,Bh]
def LN(h:ZN.cps.toList[i]?=some c):c∉aU n i:=λz=>by
 have m:=(ZP.mp z).1
 obtain⟨j,a,e⟩:=Dj.mp m;rw[Bi]at a;rw[List.getElem_take]at e;obtain⟨d,b⟩:=Ag.mp h;have:=(List.getElem_inj X6).mp (e.trans b.symm)
 ((try clear b e);omega)
def CW(h:ZN.cps.toList[i]?=some c)(p:0<n c):aU n (i+1)=aU n i++[c]:=by
 unfold aU;rw[Bf,h,List.filter_append];simp_all
def MC(h:ZN.cps.toList[i]?=some c)(p:¬0<n c):aU n (i+1)=aU n i:=by
 unfold aU;rw[Bf,h,List.filter_append];grind
def dX(n:Nat->Int)(i:Nat):(aU n i).length<=27:=by
 exact Cd (Fc ..) (by rw[Bi];exact Cd (Nat.min_le_right ..) (by decide))
def AU(n:Nat->Int)(i:Nat):(aU n i).Nodup:=(X6.sublist (List.take_sublist ..)).filter _
noncomputable def VY(g:Nat->Int)(L:List Nat)(d:Nat):Option Int:=if d∈L then some (g d) else none
def zx(g:Nat->Int){r:List Nat}{c:Nat}(f:c∉r)(h:Lk (Zn g r) (VY g r)):Lk (Zn g (r++[c])) (VY g (r++[c])):=by
 have l:=h.put c (g c)
 rw[mY _ (NW f)]at l;have e:Zn g (r++[c])=Zn g r++[(Sum.inr (one c),V.int (g c))]:=by unfold Zn;rw[Ar];rfl
 rw[e];refine l.ext ?_;funext d
 unfold VY;grind
def Pk(g:Nat->Int):∀L r,(r++L).Nodup->Lk (Zn g r) (VY g r)->Lk (Zn g (r++L)) (VY g (r++L))
 |[],r,_,h=>by rw[Bt];exact h
 |c::L,r,nd,h=>by
  have e:r++c::L=(r++[c])++L:=by rw[Cw];rfl
  have a:=λz=>(List.nodup_append.mp nd).2.2 c z c Al rfl
  rw[e]at nd ⊢;exact Pk g L _ nd (zx g a h)
def M9(g:Nat->Int){L:List Nat}(a:L.Nodup):Lk (Zn g L) (λd=>if d∈L then some (g d) else none):=by
 have r:=Pk g L [] a (Lk.nil.ext (by funext d;unfold VY;rw[if_neg (λz=>nomatch z)]))
 exact r
def fF(n:Nat->Int):Lk (Zn n (aU n 27)) (bK n):=by
 refine(M9 n (AU n 27)).ext ?_;funext d
 unfold bK;have e:d∈aU n 27 ↔ fU d/\0<n d:=by
  rw[ZP,Bd (by decide),ZC]
 grind
def cY:Sp:=λd H Q _=>∃a b f,d=[.ref a]/\Rd H a (.dK b)/\Lk b f/\
 ∀r c,H r=none->Same H c->c r=some (.dK (Zn (cntF f) (aU (cntF f) 27)))->Q (.ref r) c
def o3:Z_ ["locker", "plain", "flag"] ["locker"] (aJ iI):=by fail "sc"
def uI(F:ZQ K "plain_locker" "plain_locker" iI f fd):Z9 P w K mg base ZO 1 f fd ["locker"] cY:=by
 refine F.ok o3 (λJ H Q E h=>?_) (λN A r s H J Q E t h=>?_)
 .obtain⟨a,g,f,rfl,_⟩:=h;rfl
 obtain⟨a,g,f,rfl,M,C,q⟩:=h;refine⟨_,(@aH _ _ _ _ _ (aY 1 o3.nd xO) (@aH _ _ _ _ _ (dY Bp rfl (lG (dA rfl G.s_FLAGS)) (bB (i:=2) o3.nd rfl (Or.inl rfl)) (@aI _ _ _ (bP (bD uM (iR Cb Dr (UW (Z4.u1 t)) (mv 0) (aA (mv 2) (aA aM aD))) aM (aZ _)) (@aI _ _ _ (lD (Z4.u1 t) (mv 1) (mv 2) (jE (Z4.u1 t) (mv 0) (mv 2) (λ_ _=>rfl)) rfl)) bE))) (@aI _ _ _ (aV (mv 1))))),?_⟩;left;intro p x;left;refine N1 (λi U I=>∃v,U=[some (.ref a),some (.ref p),v]/\Same H I/\I p=some (.dK (Zn (cntF f) (aU (cntF f) i))))
  ⟨none,rfl,aE x _,aG⟩ ?_ ?_
 .rintro i c U m k ⟨v,rfl,d,l⟩;have O:i<27:=(Ag.mp k).1
  have b:Rd m a (.dK g):=M.elim (λe=>.inl (d _ _ e)) λ⟨o,e⟩=>.inr ⟨o,d _ _ e⟩
  have L:=b.elim pD λ⟨o,e⟩=>Pr e
  have u:(Zn (cntF f) (aU (cntF f) i)).length<sizeLine:=bM (by unfold Zn;rw[Ac];have:=dX (cntF f) i;(exact Nat.le_trans (by assumption) (by decide)))
  left;refine VF (z:=one c) b ?_;rw[C.val c,rL];left;refine iA (λy=>?_) (λy=>?_)
  .have j:=Aw y
   obtain⟨n,D⟩:∃n,f c=some n:=by
    cases e:f c with
    |none=>rw[show cntF f c=0 by unfold cntF;rw[e];rfl]at j;((try clear O u);omega)
    |some n=>exact⟨n,rfl⟩
   have B:cntF f c=n:=by unfold cntF;rw[D];rfl
   left;refine yD (z:=one c) b (by rw[C.val c,D];rfl) ?_
   left;refine pW (z:=one c) l u ?_;refine⟨_,rfl,bQ x d,?_⟩;rw[aG,mY _ (NW (LN k)),CW k (by (assumption))]
   unfold Zn;rw[Ar,<-B];rfl
  .have j:=Bs (Bm.mpr y)
   exact⟨_,rfl,d,by rw[l,MC k (by (assumption))]⟩
 .rintro U m ⟨v,rfl,d,l⟩;exact q p m x d l
noncomputable def cnt(cs:List Nat)(c:Nat):Int:=((cs.countP (· == c):Nat):Int)
def xB(h:cs[i]?=some c)(d:Nat):cnt (cs.take (i+1)) d=cnt (cs.take i) d+if d=c then 1 else 0:=by
 unfold cnt;rw[Bf,h,List.countP_append];grind
def vP(f:Nat->Option Int)(cs:List Nat)(k:Nat):Prop:=∀j d,j<k->cs[j]?=some d->cnt (cs.take j) d<cntF f d
def zV{f:Nat->Option Int}(c:Nat)(a:0<=cntF f c):∀ {k:Nat},vP f cs k->cnt (cs.take k) c<=cntF f c
 |0,_=>by rw[En];exact a
 |k+1,h=>by
  have b:=zV c a (k:=k) λj d g=>h j d (by ((try clear a);omega))
  cases e:cs[k]? with
  |none=>rw[List.take_add_one,e];simpa using b
  |some d=>
   rw[xB e];have i:=h k d (by ((try clear a b);omega)) e
   grind
def yI(l:Addr):Sp:=λk H Q E=>∃a b h f d,k=[.ref a,.ref b]/\H a=some (.dK h)/\Lk h f/\(∀c,0<=cntF f c)/\Z6 H b=some ((d.map one).map V.str)/\d.length<=1000/\(∀c∈d,fU c)/\
 (vP f d d.length->∀r g e,H r=none->Same H e->e r=some (.dK g)->Lk g (bK λc=>cntF f c-cnt d c)->Q (.ref r) e)/\
 (∀i c,d[i]?=some c->vP f d i->cntF f c<=cnt (d.take i) c->∀j e,Same H e->e j=some (YL j [("flag",.str (one c))])->E (.ref l) (some j) e)
def o4:Z_ ["locker", "flags", "left", "flag"] ["locker", "flags"] (aJ TR):=by fail "sc"
def I0(F:ZQ K "taken" "taken" TR f fd)(y1:ZM P w K mg base 1 "plain_locker" ["locker"] cY)(o5:Wa P w K mg base 1 Zr ["self", "flag"] (oK Zr)):Z9 P w K mg base (Zb P w) 3 f fd ["locker", "flags"] (yI Zr):=by
 refine F.Ys o4 (λvs H Q E h=>?_) (λcdv A outer s H vs Q E hr h=>?_)
 .obtain⟨a,b,kvs,f,cs,rfl,_⟩:=h;rfl
 obtain⟨a,b,kvs,f,cs,rfl,ha,lk,hf0,hb,hcs,hfl,q,qe⟩:=h;refine⟨_,(@aH _ _ _ _ _ (aY 2 o4.nd (bF y1 hr (by decide) rfl (aA (mv 0) aD))) (@aH _ _ _ _ _ (dY PassesOwn.leaving rfl (bU (mv 1)) (bB (i:=3) o4.nd rfl (Or.inl rfl)) (@aH _ _ _ _ _ (bP (bD fW (iR Cb Dr (UW (Z4.u1 hr)) (mv 2) (aA (mv 3) (aA aM aD))) aM (aZ _)) (@aI _ _ _ (nW dP rfl rfl rfl G.c_Short G.Xs o5 hr (by decide) (aA (mv 3) aD))) bE) (@aI _ _ _ (lD (Z4.u1 hr) (mv 2) (mv 3) (cH tQ (jE (Z4.u1 hr) (mv 2) (mv 3) (λ_ _=>rfl)) aM) rfl)))) (@aI _ _ _ (aV (bF y1 hr (by decide) rfl (aA (mv 2) aD)))))),?_⟩
 left;refine⟨a,kvs,f,rfl,.inl ha,lk,λp H1 hp s1 hp1=>?_⟩;have lw:=fF (cntF f)
 have hwl:(Zn (cntF f) (aU (cntF f) 27)).length<=27:=by unfold Zn;rw[Ac];exact dX _ _
 generalize Zn (cntF f) (aU (cntF f) 27)=kws at hp1 lw hwl;have hb1:=aQ s1 hb
 left;refine dU (xs:=(cs.map one).map V.str) (λi U H'=>∃kvs' g v,U=[some (.ref a),some (.ref b),some (.ref p),v]/\Same H H'/\H' p=some (.dK kvs')/\Lk kvs' g/\(∀c,cntF g c=cntF (bK (cntF f)) c-cnt (cs.take i) c)/\kvs'.length<=27+i/\vP f cs i)
  ⟨kws,_,_,rfl,s1,hp1,lw,λc=>by rw[En];show _=_-((0:Nat):Int);((try clear hcs hwl);omega),by (assumption),λj d hj=>by ((try clear hcs hwl);omega)⟩ (λi U H' _ ⟨_,_,_,_,e,_⟩=>aQ e hb) ?_ ?_
 .rintro i x U H2 hx ⟨kvs',g,v,rfl,s2,hH,lg,hg,hl,hen⟩;have hi:i<cs.length:=by have:=(Ag.mp hx).1;rwa[Ac,Ac]at this
  obtain⟨c,hc⟩:∃c,cs[i]?=some c:=⟨_,Aa hi⟩;obtain rfl:x=V.str (one c):=by rw[Ae,Ae,hc]at hx;cases hx;rfl
  have hpl:kvs'.length<sizeLine:=bM (by ((try clear hwl);omega))
  have hfc:=hfl c (As hc)
  have hgc:=hg c
  rw[fD hfc (hf0 c)]at hgc;have hle:=zV c (hf0 c) hen
  left;refine VF (z:=one c) (.inl hH) ?_;rw[lg.val c,rL];left;refine iA (λhd=>?_) (λhd=>?_)
  .have hd':=Aw hd
   left;refine⟨x0,λea hea=>⟨ea,_,rfl,aG,λdx hdx=>⟨rfl,some dx,(jM hdx).1,?_⟩⟩⟩
   exact qe i c hc hen (by omega) dx _ (mU s2 hea hdx) (jM hdx).2
  .have hd':=Bs (Bm.mpr hd)
   obtain⟨n,hn⟩:∃n,g c=some n:=by
    cases e:g c with
    |none=>exact absurd (show cntF g c=0 by unfold cntF;rw[e];rfl) hd'
    |some n=>exact⟨n,rfl⟩
   have hcn:cntF g c=n:=by unfold cntF;rw[hn];rfl
   left;refine yD (z:=one c) (.inl hH) (by rw[lg.val c,hn];rfl) ?_
   left;refine pW (z:=one c) hH hpl ?_;refine⟨_,_,_,rfl,bQ hp s2,aG,lg.put c (n-1),λd=>?_,by have:=fH kvs' (Sum.inr (one c)) (.int (n-1));((try clear hcn hcs hd' hgc hi hle hpl hwl);omega),λj d hj hjd=>?_⟩
   .rw[xB hc];have:=hg d
    by_cases e:d=c
    .subst e;show ((if d=d then some (n-1) else g d):Option Int).getD 0=_
     rw[if_pos rfl,if_pos rfl];show n-1=_
     ((try clear hcs hd' hi hl hle hpl hwl);omega)
    .show ((if d=c then some (n-1) else g d):Option Int).getD 0=_
     rw[if_neg e,if_neg e];show cntF g d=_
     (assumption)
   .by_cases e:j=i
    .subst e;rw[hc]at hjd;cases hjd;((try clear hcs hi hj hl hpl hwl);omega)
    .exact hen j d (by ((try clear hcn hcs hd' hgc hi hl hle hpl hwl);omega)) hjd
 .rintro U H2 ⟨kvs',g,v,rfl,s2,hH,lg,hg,hl,hen⟩;have ecs:((cs.map one).map V.str).length=cs.length:=by rw[Ac,Ac]
  rw[ecs]at hg hl hen;left;refine⟨p,kvs',g,rfl,.inl hH,lg,λr H3 hr s3 hr3=>?_⟩;have l3:=fF (cntF g)
  generalize Zn (cntF g) (aU (cntF g) 27)=kws' at hr3 l3;refine q hen r kws' H3 (none_of s2 hr) (s2.trans s3) hr3 (l3.ext (qU λc hc=>?_));rw[hg c,fD hc (hf0 c),Bd (Ai _)]
def nY:Sp:=λi H Q _=>∃a b e f g,i=[.ref a,.ref b]/\H a=some (.dK e)/\Lk e f/\(∀c,0<=cntF f c)/\Z6 H b=some ((g.map one).map V.str)/\g.length<=1000/\
 ∀r d h,H r=none->Same H h->h r=some (.dK d)->Lk d (bK λc=>cntF f c+cnt g c)->Q (.ref r) h
def o6:Z_ ["locker", "flags", "more", "flag"] ["locker", "flags"] (aJ xI):=by fail "sc"
def Jd(F:ZQ K "put_in" "put_in" xI f fd)(G:Gs K mg w Zo Zz Zr Zx Z0 Zt Zy Zu Zw Zv Zq Zs Zp Z1)(y1:ZM P w K mg base 1 "plain_locker" ["locker"] cY):Z9 P w K mg base ZO 2 f fd ["locker", "flags"] nY:=by
 refine F.ok o6 (λvs H Q E h=>?_) (λcdv A outer s H vs Q E hr h=>?_)
 .obtain⟨a,b,kvs,f,cs,rfl,_⟩:=h;rfl
 obtain⟨a,b,kvs,f,cs,rfl,ha,lk,hf0,hb,hcs,q⟩:=h;refine⟨_,(@aH _ _ _ _ _ (aY 2 o6.nd (bF y1 hr (by decide) rfl (aA (mv 0) aD))) (@aH _ _ _ _ _ (dY Bp rfl (bU (mv 1)) (bB (i:=3) o6.nd rfl (Or.inl rfl)) (@aI _ _ _ (lD (Z4.u1 hr) (mv 2) (mv 3) (cH cL (iR Cb Dr (UW (Z4.u1 hr)) (mv 2) (aA (mv 3) (aA aM aD))) aM) rfl))) (@aI _ _ _ (aV (bF y1 hr (by decide) rfl (aA (mv 2) aD)))))),?_⟩
 left;refine⟨a,kvs,f,rfl,.inl ha,lk,λp H1 hp s1 hp1=>?_⟩;have lw:=fF (cntF f)
 have hwl:(Zn (cntF f) (aU (cntF f) 27)).length<=27:=by unfold Zn;rw[Ac];exact dX _ _
 generalize Zn (cntF f) (aU (cntF f) 27)=kws at hp1 lw hwl;have hb1:=aQ s1 hb
 left;refine dU (xs:=(cs.map one).map V.str) (λi U H'=>∃kvs' g v,U=[some (.ref a),some (.ref b),some (.ref p),v]/\Same H H'/\H' p=some (.dK kvs')/\Lk kvs' g/\(∀c,cntF g c=cntF (bK (cntF f)) c+cnt (cs.take i) c)/\kvs'.length<=27+i)
  ⟨kws,_,_,rfl,s1,hp1,lw,λc=>by rw[En];show _=_+((0:Nat):Int);((try clear hcs hwl);omega),by (assumption)⟩ (λi U H' _ ⟨_,_,_,_,e,_⟩=>aQ e hb) ?_ ?_
 .rintro i x U H2 hx ⟨kvs',g,v,rfl,s2,hH,lg,hg,hl⟩;have hi:i<cs.length:=by have:=(Ag.mp hx).1;rwa[Ac,Ac]at this
  obtain⟨c,hc⟩:∃c,cs[i]?=some c:=⟨_,Aa hi⟩;obtain rfl:x=V.str (one c):=by rw[Ae,Ae,hc]at hx;cases hx;rfl
  have hpl:kvs'.length<sizeLine:=bM (by ((try clear hwl);omega))
  left;refine VF (z:=one c) (.inl hH) ?_;rw[lg.val c,rL];left;refine pW (z:=one c) hH hpl ?_;refine⟨_,_,_,rfl,bQ hp s2,aG,lg.put c (cntF g c+1),λd=>?_,by have:=fH kvs' (Sum.inr (one c)) (.int (cntF g c+1));((try clear hcs hi hpl hwl);omega)⟩
  rw[xB hc];have:=hg d
  by_cases e:d=c
  .subst e;show ((if d=d then some (cntF g d+1) else g d):Option Int).getD 0=_
   rw[if_pos rfl,if_pos rfl];show cntF g d+1=_
   ((try clear hcs hi hl hpl hwl);omega)
  .show ((if d=c then some (cntF g c+1) else g d):Option Int).getD 0=_
   rw[if_neg e,if_neg e];show cntF g d=_
   (assumption)
 .rintro U H2 ⟨kvs',g,v,rfl,s2,hH,lg,hg,hl⟩;refine⟨p,kvs',g,rfl,.inl hH,lg,λr H3 hr s3 hr3=>?_⟩;refine q r _ H3 (none_of s2 hr) (s2.trans s3) hr3 ((fF (cntF g)).ext (qU λc hc=>?_));rw[hg c,fD hc (hf0 c),Bd (by rw[Ac,Ac];exact Ai _)]
def Lb:Z_ ["text"] ["text"] (aJ sQ):=by fail "sc"
def AN(F:ZQ K "is_flag" "is_flag" sQ f fd):Z9 P w K mg base ZO 1 f fd ["text"] kT:=by
 refine F.ok Lb (λc H Q E h=>?_) (λd A a s H c Q E g h=>?_)
 .obtain⟨z,rfl,_⟩:=h;rfl
 obtain⟨z,rfl,i,q⟩:=h;refine⟨_,(@aI _ _ _ (aV (pO (cZ fW (aP cK rfl G.b_len bR (aA (mv 0) aD)) aM (aZ _)) (sB (cZ VV (mv 0) (dA rfl G.s_FLAGS) (by rfl)))))),?_⟩
 left;refine iA (λb=>?_) (λb=>?_)
 .have e:cV z=subIn z ZN:=if_pos (by grind)
  rw[e]at q;left;exact q
 .have e:cV z=false:=tX (by grind)
  rw[e]at q;exact q
def K0:Z_ ["text", "place"] ["text", "place"] (aJ mG):=by fail "sc"
def B1(F:ZQ K "may_stand" "may_stand" mG f fd)(n:ZM P w K mg base 1 "is_flag" ["text"] kT):Z9 P w K mg base ZO 2 f fd ["text", "place"] qM:=by
 refine F.ok K0 (λo H Q E h=>?_) (λu A g s H o Q E r h=>?_)
 .obtain⟨z,p,rfl,_⟩:=h;rfl
 obtain⟨z,p,rfl,t,q⟩:=h;refine⟨_,(@aH _ _ _ _ _ (bP (hJ (cN (bF n r (by decide) rfl (aA (mv 0) aD)))) (@aI _ _ _ (aV lV)) bE) (@aH _ _ _ _ _ (bP (bD VV (mv 0) (dA rfl G.s_SUBSTITUTES) (by rfl)) (@aI _ _ _ (aV (cZ wU (cG VP rfl G.b_int sK (aA (mv 0) aD)) (mv 1) (aZ _)))) bE) (@aI _ _ _ (aV lV)))),?_⟩
 left;refine⟨z,rfl,t,?_⟩;left;refine iA (λk=>?_) (λk=>?_)
 .have a:cV z=false:=by simpa using k
  have e:dQ z p=false:=by
   by_cases m:z.length=1
   .obtain⟨c,rfl⟩:=rM m;rw[pA]at a;have a:=Bs a
    rw[qB];exact An λd=>a (d.elim .inl λz=>.inr z.1)
   .exact if_neg m
  rw[e]at q;left;exact q
 .have a:cV z=true:=by simpa using k
  obtain⟨c,rfl,j⟩:=Jt a;left;rw[if_neg Aq,show subIn (one c) "1234"=decide (dG c) from pT c];rw[qB]at q;refine iA (λi=>?_) (λi=>?_)
  .have b:=Aw i
   left;refine sU (vA b) (by show 1<=640;decide) ?_
   rw[show decide (sS c p)=decide ((c:Int)-48<p) from Dy.mpr ⟨λd=>d.elim (λl=>absurd b (tK l)) (·.2),λl=>.inr ⟨b,l⟩⟩]at q;exact q
  .have b:=Bs (Bm.mpr i)
   rwa[Ao (show sS c p from .inl (j.resolve_right b))]at q
def LO:Z_ ["flags"] ["flags"] (aJ pM):=by fail "sc"
def I_(F:ZQ K "is_hoist" "is_hoist" pM f fd)(v:ZM P w K mg base 2 "may_stand" ["text", "place"] qM):Z9 P w K mg base ZO 3 f fd ["flags"] tZ:=by
 refine F.ok LO (λt H Q E h=>?_) (λT A l s H t Q E k h=>?_)
 .obtain⟨a,b,rfl,_⟩:=h;rfl
 obtain⟨a,b,rfl,M,X,y,q⟩:=h;refine⟨_,(@aH _ _ _ _ _ (bP (PW.pt (jY (bD wU (aP cK rfl G.b_len bR (aA (mv 0) aD)) aM (aZ _)) (gR (bD uM (aP cK rfl G.b_len bR (aA (mv 0) aD)) (eK rfl G.s_MOST_PLACES) (aZ _))))) (@aI _ _ _ (aV lV)) bE) (@aI _ _ _ (aV (aP (vT rfl) rfl G.b_all pQ (aA (cD rfl (Kj rfl G.b_enumerate (aA (mv 0) aD) (vD aM UO)) (dZ (N:=["place", "text"]) (by right) (by right)) (by right) rfl (by right) (λ_ _ _ _=>(jF (K:=K) (i:=0) (j:=1) (by rfl) (by rfl) (show List.Nodup (["place", "text"]:List Str) by right) (by rfl) (by exact Or.inl rfl) (by exact Or.inr rfl) (by rfl) (by exact Or.inl rfl) (by exact Or.inr rfl))) (λ_ _ _ _=>cI) (λ_ _ _ _=>(bF v k (by decide) rfl (aA (mv 1) (aA (mv 0) aD))))) aD))))),?_⟩
 have c:(b.map V.str).length=b.length:=Ac ..
 left;rw[c];refine iA (λo=>?_) (λo=>?_)
 .left;have e:eW b=false:=if_pos (.inl (by have:=Aw o;omega))
  have r:=q H (Same.refl H)
  rw[e]at r;exact r
 .have L:=Bs (Bm.mpr o)
  left;rw[c];refine iA (λn=>?_) (λn=>?_)
  .left;have e:eW b=false:=if_pos (.inr (by have:=Aw n;omega))
   have r:=q H (Same.refl H)
   rwa[e]at r
  .have J:=Bs (Bm.mpr n)
   left;refine⟨⟨by (exact Int.natCast_nonneg _),by (exact Int.natCast_nonneg _)⟩,?_⟩
   left;refine R_ (λi x=>match x with|.str z=>some (.bl (dQ z ((1+i:Nat):Int)))|_=>none) M (by rw[c];exact bM (by (exact Nat.le_trans (by assumption) (by decide)))) (λi x Hc p A B C U W O=>?_) (λD Z Y u k=>?_)
   .obtain⟨z,m,rfl⟩:=iD C;left;refine⟨Wk.set rfl (Wk.set rfl (Wk.refl _)),?_⟩;left;refine⟨z,_,rfl,y z (As m),?_⟩;exact O _ (Same.refl _)
   .have S:((List.range (b.map V.str).length).filterMap λi=>(λi x=>match x with | .str z=>some (V.bl (dQ z ((1+i:Nat):Int))) | _=>none:Nat->V->Option V) i ((b.map V.str).getD i .non))=((List.range b.length).map λi=>dQ (b.getD i ⟨#[]⟩) ((1+i:Nat):Int)).map V.bl:=by
     rw[c,Ci];refine(kG (g:=λi=>some (V.bl (dQ (b.getD i ⟨#[]⟩) ((1+i:Nat):Int)))) λi I=>?_).trans (gL _ _);have d:=Cu.mp I
     rw[Ah,Ae,Aa d,Ah,Aa d];rfl
    rw[S]at k;left;refine xP k ?_;have R:eW b=((List.range b.length).map λi=>dQ (b.getD i ⟨#[]⟩) ((1+i:Nat):Int)).all id:=by
     unfold eW;rw[if_neg (by omega),Ga]
     rfl
    have r:=q _ u
    rwa[R]at r
def u6:Z_ ["flags", "word", "flag"] ["flags"] (aJ sR):=by fail "sc"
def Ik(F:ZQ K "read_of" "read_of" sR f fd)(M:ZM P w K mg base 3 "is_hoist" ["flags"] tZ):Z9 P w K mg base (Zb P w) 4 f fd ["flags"] (wR Zx):=by
 refine F.Ys u6 (λJ H Q E h=>?_) (λa1 A r s H J Q E R h=>?_)
 .obtain⟨a,b,rfl,_⟩:=h;rfl
 obtain⟨a,b,rfl,D,W,N,q,L⟩:=h;refine⟨_,(@aH _ _ _ _ _ (bP (hJ (cN (bF M R (by decide) rfl (aA (mv 0) aD)))) (@aI _ _ _ (eA dP rfl rfl rfl G.c_NoHoist G.XD Bl (@aL _ _ _ _ _ _ aD))) bE) (@aH _ _ _ _ _ (aY 1 u6.nd cB) (@aH _ _ _ _ _ (PS.Xf (dY Bp rfl (bU (mv 0)) (bB (i:=2) u6.nd rfl (Or.inl rfl)) (@aI _ _ _ (bP (bD VV (mv 2) (dA rfl G.s_SUBSTITUTES) (by rfl)) (@aI _ _ _ (aY 1 u6.nd (cH cL (mv 1) (bH bZ (mv 1) (cH tQ (cG VP rfl G.b_int sK (aA (mv 2) aD)) aM) (λ_ _=>rfl))))) (@aI _ _ _ (aY 1 u6.nd (cH cL (mv 1) (mv 2)))))))) (@aI _ _ _ (aV (mv 1)))))),?_⟩
 left;refine⟨a,b,rfl,D,W,N,λI p=>?_⟩;have C:=aQ p D
 left;cases n:eW b with
 |false=>
  left;exact⟨x0,L n I p⟩
 |true=>
  left;have h7:=iC n
  refine dU (xs:=b.map V.str) (λi U o=>∃v,U=[some (.ref a),some (.str (bS (XQ ((b.map mL).take i)))),v]/\o=I)
   ⟨none,rfl,rfl⟩ (λi U o _ ⟨_,_,e⟩=>by rw[e];exact C) ?_ ?_
  .rintro i x U o O ⟨v,rfl,rfl⟩;obtain⟨z,t,rfl⟩:=iD O;obtain⟨c,rfl,m,B⟩:=xZ n t;have hi:=(Ag.mp m).1
   have T:(b.map mL).length=b.length:=Ac ..
   have k:(XQ ((b.map mL).take i)).length=i:=G1 (by (exact Nat.le_of_lt (by assumption)))
   have g:=Pz m
   generalize XQ ((b.map mL).take i)=d at k g ⊢;have u:=(dI d).trans k
   left;rw[if_neg Aq,show subIn (one c) "1234"=decide (dG c) from pT c];refine iA (λy=>?_) (λy=>?_)
   .have j:=Aw y
    have S:=(B.resolve_left λl=>tK l j).2
    have X:=j.1
    left;refine sU (vA j) (by show 1<=640;decide) ?_
    left;have Z:YJ (bS d).cps.toList ((c:Int)-48-1)=some (d.getD (c-49) 0):=by
     rw[show ((c:Int)-48-1)=((c-49:Nat):Int) by ((try clear B S T W h7 hi k u);omega)]
     refine aX ?_;rw[cS,Ah,Aa (by ((try clear B T W X h7 hi);omega))]
     rfl
    have Y:(⟨#[d.getD (c-49) 0]⟩:Str).length=1:=rfl
    refine Sf (by rw[u];exact bJ (by ((try clear B S X Y);omega))) Z ?_
    left;refine⟨some (.str (one c)),?_,rfl⟩;rw[g,show U2 d c=d.getD (c-49) 0 from if_pos j,<-sG];rfl
   .have j:=Bs (Bm.mpr y)
    have Y:(one c).length=1:=rfl
    left;refine⟨some (.str (one c)),?_,rfl⟩;rw[g,show U2 d c=c from if_neg j,<-sG];rfl
  .rintro U o ⟨v,rfl,rfl⟩;left;have e:(b.map mL).take (b.map V.str).length=b.map mL:=Bd (by rw[Ac,Ac];exact Ai _)
   rw[e];exact q n _ p
def CT{n:Nat}:∀ {L:List Str},(∀z∈L,z.length<=n)->(Txt.join sep L).length<=(n+sep.length)*L.length
 |[],_=>Do _
 |y::r,h=>by
  have c:∀r:List Str,(∀z∈r,z.length<=n)->(r.map λy=>sep.cps.toList++y.cps.toList).flatten.length<=(n+sep.length)*r.length:=λr h=>by
   induction r with
   |nil=>exact Ai _
   |cons u v b=>
    rw[Ax,Dh,Aj,Aj,Be,iH,iH];grind
  rw[<-iH,QX,Aj,iH,Be,Nat.mul_succ];grind
def dO(F:α->V):∀a:List α,(List.range a.length).filterMap (λj=>(a[j]?).map F)=a.map F:=λa=>by
 have h:∀n,n<=a.length->(List.range n).filterMap (λj=>(a[j]?).map F)=(a.take n).map F:=λn=>by
  induction n with
  |zero=>intro _;rfl
  |succ n b=>
   intro c;have e:a[n]?=some a[n]:=Aa (by (assumption))
   rw[gK (y:=F a[n]) (by rw[e];rfl),b (by (exact Nat.le_of_lt (by assumption))),Bf,e,Ar]
   rfl
 have r:=h a.length (Ai _)
 rw[Cm]at r;exact r
noncomputable def zC:Option (List Nat)->Str
 |none=>⟨#[45]⟩
 |some a=>bS a
def Yx(H:Hp)(v:V):Option (List Nat)->Prop
 |none=>v=.non
 |some a=>∃p,v=.ref p/\H p=some (.lst ((a.map one).map V.str))
def lM(hs:List (Option (List Nat))):Prop:=∀a,some a∈hs->eW (a.map one)=true
structure Z2 (H:Hp) (vs:List V) (hs:List (Option (List Nat))):Prop where
 len:vs.length=hs.length
 val:∀(j:Nat) v h,vs[j]?=some v->hs[j]?=some h->Yx H v h
def Yx.keep{H:Hp}(a:Yx H v h)(s:∀p b,H p=some (.lst b)->v=.ref p->H' p=some (.lst b)):Yx H' v h:=by
 cases h with
 |none=>exact a
 |some d=>
  obtain⟨p,e,c⟩:=a;exact⟨p,e,s p _ c e⟩
def Z2.keep{H:Hp}{vs:List V}(a:Z2 H vs hs)(s:Same H H'):Z2 H' vs hs:=⟨a.len,λj v h b d=>(a.val j v h b d).keep λp e c _=>s _ _ c⟩
def Z2.nil:Z2 H [] []:=⟨rfl,λj v h a=>nomatch a⟩
def Z2.snoc(a:Z2 H vs hs)(b:Yx H v h):Z2 H (vs++[v]) (hs++[h]):=by
 refine⟨by rw[Aj,Aj,a.len];rfl,λj x g c d=>?_⟩
 by_cases f:j<vs.length
 .rw[Bx f]at c;rw[Bx (by rw[<-a.len];exact f)]at d
  exact a.val j x g c d
 .have e:j=vs.length:=by
   have:=(Ag.mp c).1
   rw[Aj]at this;have:j<vs.length+1:=this
   omega
  subst e;rw[Br (Ai _),Gq]at c;rw[a.len,Br (Ai _),Gq]at d;cases c;cases d;exact b
def Yx.ne(d:H r=some (.lst vs))(f:vs[j]?=some v)(a:Yx H v h):v≠.ref r:=λz=>by
 cases h with
 |none=>rw[show v=.non from a]at z;cases z
 |some g=>
  obtain⟨p,e,c⟩:=a;simp_all
def Z2.put(d:H r=some (.lst vs))(a:Z2 H vs hs):Z2 (upd H r (.lst us)) vs hs:=⟨a.len,λj v h b c=>(a.val j v h b c).keep λp g f e=>by
 rw[aK (λz=>(a.val j v h b c).ne d b (by simp_all))]
 exact f⟩
def Z2.at(a:Z2 H vs hs)(b:vs[j]?=some v):∃h,hs[j]?=some h/\Yx H v h:=by
 have c:j<hs.length:=by rw[<-a.len];exact(Ag.mp b).1
 exact⟨hs[j],Aa c,a.val j v _ b (Aa c)⟩
def CO(ok:lM hs):∀z∈hs.map zC,z.length<=7/\32∉z.cps.toList:=λz g=>by
 obtain⟨h,k,rfl⟩:=Bw.mp g;cases h with
 |none=>exact⟨by show 1<=7;decide,by show 32∉[45];decide⟩
 |some a=>
  have b:=ok a k
  have d:=iC b
  rw[Ac]at d;refine⟨by show (bS a).length<=7;rw[dI];exact d.2,?_⟩
  show 32∉(bS a).cps.toList
  rw[cS];intro l;obtain⟨i,j⟩:=List.mem_iff_getElem?.mp l;obtain⟨c,m,_,f⟩:=xZ b (i:=i) (z:=one 32) (by simp_all)
  rw[<-one_inj.mp m]at f;rcases f with e|e
  .unfold bW at e;((try clear d);omega)
  .have:=e.1;unfold dG at this;((try clear d e);omega)
def Io{d:TT}{J:TE}{I:St}{Q:VK}{hs:Q5}(C:Z6 H1 a=some xs)(S:xs.length<sizeLine)(P:xs.length=hs.length)(o:∀(i:Nat) x h c A (B:Hp->Prop),xs[i]?=some x->hs[i]?=some h->Same H1 c->(∀v k,Same c k->Yx k v h->(∀p,v=.ref p->c p=none)->A v k)->
 g x I c λG T=>Wk I G/\d G T λb N=>if b=true then J G N A else B N)(F:∀D k u,H1 D=none->Same H1 k->k D=some (.lst u)->Z2 k u hs->(∀p,V.ref p∈u->H1 p=none)->Q (.ref D) k):dJ g d J I Q (Xr K a) H1:=by
 refine fO (n:=xs.length) (λD i l c=>Same H1 c/\Z2 c l (hs.take i)/\∀p,V.ref p∈l->H1 p=none) S (λD s=>⟨aE s _,.nil,λp q=>nomatch q⟩)
  (λD i l c _ r h=>⟨xs,xs[i],bG (aQ r.1 C),by simp[h]⟩) (λD l c _ r=>⟨xs,bG (aQ r.1 C),Nat.le_refl _⟩) ?_ ?_
 .rintro D i l c x U A B s Y ⟨m,j,E⟩ f ⟨rfl,O⟩ y Z;have w:i<hs.length:=by ((try clear S);omega)
  have M:=Aa w
  refine o i x hs[i] U A B (O xs (bG (aQ m C))) M m (λv k t R L=>?_);refine y _ _ (t _ _ f) ⟨bQ s (m.trans t),?_,λp q=>?_⟩
  .rw[Bf,M];refine Z2.snoc ((j.keep t).put (t _ _ f)) (R.keep λp X q e=>?_);rw[aK (λz=>by have:=L p e;rw[z,f]at this;cases this)]
   exact q
  .rcases Ce.mp q with e|e
   .exact E p e
   .exact none_of m (L p (Ak.mp e).symm)
 .rintro D l c s ⟨m,j,E⟩ f _;rw[P,Cm]at j;exact F D c l s m f j E
def DD{a:List Nat}{x:V}(h:(a.map λk=>V.int ((k:Nat):Int))[j]?=some x):∃k,a[j]?=some k/\x=.int ((k:Nat):Int):=by
 rw[Ae]at h;cases e:a[j]? with
 |none=>rw[e]at h;cases h
 |some k=>rw[e]at h;cases h;exact⟨k,rfl,rfl⟩
def Z2.get(a:Z2 H vs hs)(c:k<hs.length):∃v,YJ vs (k:Int)=some v/\vs[k]?=some v/\Yx H v (hs.getD k none):=by
 have b:k<vs.length:=by rwa[a.len]
 refine⟨vs[k],aX (Aa b),Aa b,?_⟩;refine a.val k _ _ (Aa b) ?_;simp_all
noncomputable def bY(hs:List (Option (List Nat)))(a:List Nat):List Nat:=a.flatMap λk=>(hs.getD k none).getD []
def Iq(hs:Q5)(A B:List Nat):bY hs (A++B)=bY hs A++bY hs B:=List.flatMap_append ..
def Ri(ok:lM hs)(k:Nat):((hs.getD k none).getD []).length<=7:=by
 cases e:hs[k]? with
 |none=>rw[Ah,e];exact Do _
 |some h=>
  rw[Ah,e];cases h with
  |none=>exact Do _
  |some a=>
   have:=iC (ok a (As e))
   simp_all
def sW(ok:lM hs):∀a,(bY hs a).length<=7*a.length
 |[]=>Do _
 |k::r=>by
  show (((hs.getD k none).getD [])++bY hs r).length<=_
  rw[Aj,Be];have:=Ri ok k
  have:=sW ok r
  omega
def nL:Sp:=λg H Q _=>∃a b f d c,g=[.ref a,.ref b]/\Z6 H a=some f/\Z2 H f d/\lM d/\Z6 H b=some (c.map λk=>V.int ((k:Nat):Int))/\c.length<=7/\(∀k∈c,k<d.length)/\
 ∀r e,H r=none->Same H e->e r=some (.lst (((bY d c).map one).map V.str))->Q (.ref r) e
def o9:Z_ ["halyards", "numbers", "flags", "number"] ["halyards", "numbers"] (aJ pJ):=by fail "sc"
def KN(F:ZQ K "flags_on" "flags_on" pJ f fd)(G:Gs K mg w Zo Zz Zr Zx Z0 Zt Zy Zu Zw Zv Zq Zs Zp Z1):Z9 P w K mg base ZO 1 f fd ["halyards", "numbers"] nL:=by
 refine F.ok o9 (λT H Q E h=>?_) (λa3 A r s H T Q E hr h=>?_)
 .obtain⟨a,b,W,d,c,rfl,_⟩:=h;rfl
 obtain⟨a,b,W,d,c,rfl,ha,C,L,M,h7,hk,q⟩:=h;refine⟨_,(@aH _ _ _ _ _ (aY 2 o9.nd (bI aD)) (@aH _ _ _ _ _ (dY Bp rfl (bU (mv 1)) (bB (i:=3) o9.nd rfl (Or.inl rfl)) (@aI _ _ _ (bP (bD T_ (bH bZ (mv 0) (mv 3) (λ_ _=>rfl)) cO (aZ _)) (@aI _ _ _ (cR (cC Bq Fm Fn UJ (mv 2) (aA (bH bZ (mv 0) (mv 3) (λ_ _=>rfl)) aD)))) bE))) (@aI _ _ _ (aV (mv 2))))),?_⟩;left;refine⟨by decide,λp y=>?_⟩
 have I:=aE y (.lst [])
 have a2:=aQ I M
 left;refine dU (xs:=(c.map λk=>V.int ((k:Nat):Int))) (λi U D=>∃v,U=[some (.ref a),some (.ref b),some (.ref p),v]/\Same H D/\D p=some (.lst (((bY d (c.take i)).map one).map V.str)))
  ⟨_,rfl,I,aG⟩ (λi U D _ ⟨_,_,e,_⟩=>aQ e M) ?_ ?_
 .rintro i x U S Z ⟨v,rfl,g,m⟩;obtain⟨k,j,rfl⟩:=DD Z;have B:=hk k (As j)
  obtain⟨u,R,_,n⟩:=(C.keep g).get B;have J:=aQ g ha
  have o:bY d (c.take (i+1))=bY d (c.take i)++(d.getD k none).getD []:=by
   rw[Bf,j,Iq];show _++(_++[])=_
   rw[Bt]
  left;refine cA J R ?_;left;cases N:d.getD k none with
  |none=>
   rw[N]at n o;rw[show u=.non from n,show decide (V.non=V.non)=true from rfl];left;exact⟨_,rfl,g,by rw[o];show _=some (HO.lst (((_++[]).map one).map V.str));rwa[Bt]⟩
  |some O=>
   have l:=Ri L k
   rw[N]at n o l;obtain⟨X,rfl,t⟩:=n;rw[show decide (V.ref X=V.non)=false from An (λz=>nomatch z)]
   have m2:=bO m
   have rc:=aO t
   have Y:=sW L (c.take i)
   rw[Bi]at Y;have a1:(((bY d (c.take i)).map one).map V.str).length+((O.map one).map V.str).length<=sizeLine:=bJ (by rw[Ac,Ac,Ac,Ac];have:O.length<=7:=l;((try clear B l);omega))
   left;refine cA J R ?_;left;refine⟨_,rfl,bQ y g,?_⟩;rw[aG,o,Ar,Ar];rfl
 .rintro U S ⟨v,rfl,g,m⟩;rw[Bd (by rw[Ac];exact Ai _)]at m
  exact q p S y g m
def gW:Sp:=λe H Q _=>∃d c a,e=[.ref d]/\Z6 H d=some c/\Z2 H c a/\lM a/\a.length<=7/\∀r b,H r=none->Same H b->b r=some (.lst (((bY a (List.range a.length)).map one).map V.str))->Q (.ref r) b
def uC:Z_ ["halyards"] ["halyards"] (aJ iG):=by fail "sc"
def uN(F:ZQ K "all_flags_on" "all_flags_on" iG f fd)(x:ZM P w K mg base 1 "flags_on" ["halyards", "numbers"] nL):Z9 P w K mg base ZO 2 f fd ["halyards"] gW:=by
 refine F.ok uC (λy H Q E h=>?_) (λI A i s H y Q E m h=>?_)
 .obtain⟨p,n,a,rfl,_⟩:=h;rfl
 obtain⟨p,n,a,rfl,B,c,C,L,q⟩:=h;refine⟨_,(@aI _ _ _ (aV (bF x m (by decide) rfl (aA (mv 0) (aA (cG (IL rfl) rfl G.b_list lI (aA (cG JM rfl G.b_range C6 (aA (aP cK rfl G.b_len bR (aA (mv 0) aD)) aD)) aD)) aD))))),?_⟩
 left;rw[c.len];refine AO λg l=>?_;have o:=aE l (HO.rng 0 ((a.length:Nat):Int))
 have u:(upd H g (HO.rng 0 ((a.length:Nat):Int))) g=some (HO.rng 0 ((a.length:Nat):Int)):=aG
 generalize upd H g (HO.rng 0 ((a.length:Nat):Int))=v at o u ⊢;left;refine GZ u (by (exact Nat.le_trans (by assumption) (by decide))) λd j=>?_
 have b:=o.trans (aE j (.lst ((List.range a.length).map λk=>V.int ((k:Nat):Int))))
 have t:Z6 (upd v d (.lst ((List.range a.length).map λk=>V.int ((k:Nat):Int)))) d=some ((List.range a.length).map λk=>V.int ((k:Nat):Int)):=bX
 generalize upd v d (.lst ((List.range a.length).map λk=>V.int ((k:Nat):Int)))=M at b t ⊢;left;exact⟨p,d,n,a,List.range a.length,rfl,aQ b B,c.keep b,C,t,by rw[Cj];(assumption),(λk D=>Cu.mp D),λr J m z e=>q r J (none_of b m) (b.trans z) e⟩
def xV:Sp:=λ_ _ _ _=>False
def AH(F:ZQ K "read_in" "read_in" Oj f fd)(G:Gs K mg w Zo Zz Zr Zx Z0 Zt Zy Zu Zw Zv Zq Zs Zp Z1):Z9 P w K mg base ZO 1 f fd ["book", "sight"] xV:=⟨λ_ _ _ _ h=>h.elim,λ_ _ _ _ _ _ _ _ _ _ _ _ _ h=>h.elim⟩
def PC:Sp:=λ_ _ _ _=>False
def GO(F:ZQ K "hauled" "hauled" NC f fd)(G:Gs K mg w Zo Zz Zr Zx Z0 Zt Zy Zu Zw Zv Zq Zs Zp Z1):Z9 P w K mg base ZO 1 f fd ["locker", "halyards", "number", "word"] PC:=⟨λ_ _ _ _ h=>h.elim,λ_ _ _ _ _ _ _ _ _ _ _ _ _ h=>h.elim⟩
noncomputable def iP(z:Str):Bool:=if z.length<1\/10<z.length then false else z.cps.toList.all λc=>decide (c∈YB.cps.toList)
noncomputable abbrev eE(z:Str):List Str:=Txt.split z (Str.ofString " ")
noncomputable def oE(z:Str)(n:Int):Bool:=decide (((eE z).length:Int)<=n)&&(eE z).all iP
def Lq{y:Str}(h:y∈eE z):y.length<=z.length:=by
 have:=PySem.join_mem_le " " _ y h
 rw[StrLaws.join_split]at this;(assumption)
def Bn(z:Str):(eE z).length<=z.length+2:=by
 unfold eE Txt.split;split
 .show 1<=_;omega
 .split
  .show 1<=_;omega
  .rw[PySem.length_partsBetween];have a:=StrLaws.occ_length_le z " " 0 z.length (z.length+1)
   omega
def xN:Sp:=λb H Q _=>∃z,b=[.str z]/\z.length<=1000/\∀a,Same H a->Q (.bl (iP z)) a
def eY:Sp:=λb H Q _=>∃z n,b=[.str z,.int n]/\z.length<=1000/\∀a,Same H a->Q (.bl (oE z n)) a
def Ku:Z_ ["text"] ["text"] (aJ rX):=by fail "sc"
def LM(F:ZQ K "is_term" "is_term" rX f fd):Z9 P w K mg base ZO 1 f fd ["text"] xN:=by
 refine F.ok Ku (λj H Q E h=>?_) (λp A a s H j Q E u h=>?_)
 .obtain⟨z,rfl,_⟩:=h;rfl
 obtain⟨z,rfl,v,q⟩:=h;refine⟨_,(@aH _ _ _ _ _ (bP (PW.pt (jY (bD wU (aP cK rfl G.b_len bR (aA (mv 0) aD)) aM (aZ _)) (gR (bD uM (aP cK rfl G.b_len bR (aA (mv 0) aD)) (eK rfl G.s_LONGEST_TERM) (aZ _))))) (@aI _ _ _ (aV lV)) bE) (@aI _ _ _ (aV (aP (vT rfl) rfl G.b_all pQ (aA (cD rfl (lG (mv 0)) (dZ (N:=["sign"]) (by right) (by right)) (by right) rfl (by right) (λ_ _ _ _=>(bB (i:=0) (show List.Nodup (["sign"]:List Str) by right) rfl (Or.inl rfl))) (λ_ _ _ _=>cI) (λ_ _ _ _=>(cZ VV (mv 0) (dA rfl G.s_TERM_LETTERS) (by rfl)))) aD))))),?_⟩
 left;refine iA (λg=>?_) (λg=>?_)
 .left;have e:iP z=false:=if_pos (.inl (by have:=Aw g;omega))
  have r:=q H (Same.refl H)
  rwa[e]at r
 .have d:=Bs (Bm.mpr g)
  left;refine iA (λb=>?_) (λb=>?_)
  .left;have e:iP z=false:=if_pos (.inr (by have:=Aw b;omega))
   have r:=q H (Same.refl H)
   rwa[e]at r
  .have l:=Bs (Bm.mpr b)
   left;refine T7 (λc=>some (.bl (decide (c∈YB.cps.toList)))) (bM (by (exact Nat.le_trans (by assumption) (by decide)))) (λi c t A B d n=>?_) (λD m=>?_)
   .left;refine⟨Wk.set rfl (Wk.refl _),?_⟩;left;have e:subIn ⟨#[c]⟩ YB=decide (c∈YB.cps.toList):=kF _ _
    show A (.bl (subIn ⟨#[c]⟩ YB)) t
    rwa[e]
   .left;have e:z.cps.toList.filterMap (λc=>some (V.bl (decide (c∈YB.cps.toList))))=(z.cps.toList.map λc=>decide (c∈YB.cps.toList)).map V.bl:=by
     rw[Ci];exact gL _ _
    rw[e];have k:Same H (upd H D (.lst ((z.cps.toList.map λc=>decide (c∈YB.cps.toList)).map V.bl))):=aE m _
    refine xP (bs:=z.cps.toList.map λc=>decide (c∈YB.cps.toList)) bX ?_;have o:iP z=(z.cps.toList.map λc=>decide (c∈YB.cps.toList)).all id:=by
     unfold iP;rw[if_neg (by omega),Ga]
     rfl
    have r:=q _ k
    rwa[o]at r
def OK:Z_ ["text", "most", "terms"] ["text", "most"] (aJ fP):=by fail "sc"
def pK(F:ZQ K "is_row_of_terms" "is_row_of_terms" fP f fd)(t:ZM P w K mg base 1 "is_term" ["text"] xN):Z9 P w K mg base ZO 2 f fd ["text", "most"] eY:=by
 refine F.ok OK (λm H Q E h=>?_) (λJ A c s H m Q E d h=>?_)
 .obtain⟨z,n,rfl,_⟩:=h;rfl
 obtain⟨z,n,rfl,O,q⟩:=h;refine⟨_,(@aH _ _ _ _ _ (aY 2 OK.nd (cC Bo Ea Eb nX (mv 0) (@aL _ _ _ _ _ _ aD))) (@aI _ _ _ (aV (pO (cZ GF (aP cK rfl G.b_len bR (aA (mv 2) aD)) (mv 1) (aZ _)) (sB (aP (vT rfl) rfl G.b_all pQ (aA (cD rfl (bU (mv 2)) (dZ (N:=["term"]) (by right) (by right)) (by right) rfl (by right) (λ_ _ _ _=>(bB (i:=0) (show List.Nodup (["term"]:List Str) by right) rfl (Or.inl rfl))) (λ_ _ _ _=>cI) (λ_ _ _ _=>(bF t d (by decide) rfl (aA (mv 0) aD)))) aD))))))),?_⟩
 left;refine rK rfl (by (exact Nat.le_trans (by assumption) (by decide))) λr d=>?_
 have b:=aE d (.lst ((eE z).map V.str))
 have k:Z6 (upd H r (.lst ((eE z).map V.str))) r=some ((eE z).map V.str):=bX
 show iT _ _ _ (upd H r (.lst ((eE z).map V.str))) _
 generalize upd H r (.lst ((eE z).map V.str))=U at b k ⊢;have a:((eE z).map V.str).length=(eE z).length:=Ac ..
 have C:=Bn z
 left;rw[a];unfold oE at q;refine iA (λj=>?_) (λj=>?_)
 .rw[show decide (((eE z).length:Int)<=n)=true from j,Ei]at q;left;refine kI (xs:=(eE z).map V.str) (λx=>match x with|.str y=>some (.bl (iP y))|_=>none) k (by rw[a];exact bM (by ((try clear a);omega))) (λi x S A B v M I=>?_) (λD L R o l=>?_)
  .obtain⟨y,u,rfl⟩:=iD v;left;refine⟨Wk.set rfl (Wk.refl _),?_⟩;left;refine⟨y,rfl,by have:=Lq (As u);((try clear C a);omega),λT p=>?_⟩
   exact I _ p
  .have e:((eE z).map V.str).filterMap (λx=>match x with | .str y=>some (V.bl (iP y)) | _=>none)=((eE z).map iP).map V.bl:=by
    rw[Fz,Ci];exact gL (λy=>V.bl (iP y)) _
   rw[e]at l;refine xP (bs:=(eE z).map iP) (aO l) ?_;have r:=q L (b.trans o)
   rwa[show ((eE z).map iP).all id=(eE z).all iP by rw[Ga];rfl]
 .have g:=Bm.mpr j
  rw[g,Ez]at q;exact q _ b
def D6{t:List Nat}(h:fX t):iP (bS t)=true:=by
 unfold iP;rw[dI,if_neg (by have:=h.1;have:=h.2.1;omega),cS,Bv]
 intro c a;have:=h.2.2 c a
 refine Ao ?_;have q:∀k:_root_.Fin 26,(97+k.val)∈YB.cps.toList:=by right
 unfold vQ at this;have e:=q ⟨c-97,by omega⟩
 grind
def pR{a:Q7}(h1:1<=a.length)(h:∀t∈a,fX t):eE (eL a)=a.map bS:=by
 refine AB  (λz=>?_) (λz b=>?_)
 .rw[Et]at z;rw[z]at h1;exact absurd h1 (by decide)
 .obtain⟨t,c,rfl⟩:=Bw.mp b;intro m;have:=(h t c).2.2 32 m
  unfold vQ at this;((try clear h1);omega)
def M4(a:Q7)(h:∀t∈a,fX t):(eL a).length<=11*a.length:=by
 have e:=PySem.StrLaws.join_length_le " " (a.map bS)
 have b:eL a=Str.join " " _:=PySem.StrLaws.glued_eq_join _ _
 have c:=Ot a h
 rw[b];rw[Ac,show (Str.ofString " ").length=1 from rfl]at e;omega
def W_(H:Hp)(r:Addr)(a:List (List Nat)):Prop:=H r=some (.lst ((a.map bS).map V.str))
def tR(c:Addr):Sp:=λb H Q E=>∃z,b=[.str z]/\z.length<=1000/\(oE z 40=true->∀r a,H r=none->Same H a->a r=some (.lst ((eE z).map V.str))->Q (.ref r) a)/\(oE z 40=false->∀a,Same H a->E (.ref c) none a)
def KH{T:Q7}(h1:1<=T.length)(d:T.length<=40)(a:∀t∈T,fX t):oE (eL T) 40=true:=by
 unfold oE;rw[pR h1 a,Ac,Ao (by (exact Int.ofNat_le.mpr (by assumption))),Ei,Bv]
 intro z b;obtain⟨t,c,rfl⟩:=Bw.mp b;exact D6 (a t c)
def FO:Z_ ["text"] ["text"] (aJ pE):=by fail "sc"
def FG(F:ZQ K "terms_of" "terms_of" pE f fd)(e:ZM P w K mg base 2 "is_row_of_terms" ["text", "most"] eY):Z9 P w K mg base (Zb P w) 3 f fd ["text"] (tR Zv):=by
 refine F.Ys FO (λg H Q E h=>?_) (λk A d s H g Q E b h=>?_)
 .obtain⟨z,rfl,_⟩:=h;rfl
 obtain⟨z,rfl,j,q,i⟩:=h;refine⟨_,(@aH _ _ _ _ _ (bP (hJ (cN (bF e b (by decide) rfl (aA (mv 0) (aA (eK rfl G.s_MOST_TERMS) aD))))) (@aI _ _ _ (eA dP rfl rfl rfl G.c_NoText G.x_NoText Bl (@aL _ _ _ _ _ _ aD))) bE) (@aI _ _ _ (aV (cC Bo Ea Eb nX (mv 0) (@aL _ _ _ _ _ _ aD))))),?_⟩
 refine⟨z,40,rfl,j,λl c=>?_⟩;cases b:oE z 40 with
 |false=>
  exact⟨x0,i b _ c⟩
 |true=>
  left;refine rK rfl (by (exact Nat.le_trans (by assumption) (by decide))) λr a=>?_
  exact q b r _ (none_of c a) (c.trans (aE a _)) aG
def Yw(H:Hp)(r:Addr)(a:List (List (List Nat))):Prop:=∃b:List Addr,H r=some (.lst (b.map V.ref))/\b.length=a.length/\∀(j:Nat) p c,b[j]?=some p->a[j]?=some c->W_ H p c
def Yw.keep{H:Hp}(h:Yw H r mss)(s:Same H H'):Yw H' r mss:=by
 obtain⟨a,g,f,e⟩:=h;exact⟨a,s _ _ g,f,λj p b c d=>s _ _ (e j p b c d)⟩
def qH(d:List (Str×Str))(a:List (List (List Nat))):Prop:=a.length=d.length/\∀(j:Nat) b c,d[j]?=some b->a[j]?=some c->b.2=eL c/\1<=c.length/\c.length<=5/\∀t∈c,fX t
def mQ:Sp:=λe H Q _=>∃a c b,e=[.ref a]/\ZA H a c/\c.length<=60/\qH c b/\∀r d,H r=none->Same H d->Yw d r b->Q (.ref r) d
def wY:Z_ ["book"] ["book"] (aJ jP):=by fail "sc"
def xF(F:ZQ K "meanings_of" "meanings_of" jP f fd)(G:Gs K mg w Zo Zz Zr Zx Z0 Zt Zy Zu Zw Zv Zq Zs Zp Z1):Z9 P w K mg base ZO 1 f fd ["book"] mQ:=by
 refine F.ok wY (λvs H Q E h=>?_) (λa5 A W s H vs Q E hr h=>?_)
 .obtain⟨a,R,l,rfl,_⟩:=h;rfl
 obtain⟨a,R,l,rfl,Z,a4,t,q⟩:=h;refine⟨_,(@aI _ _ _ (aV (cD rfl (bU (mv 0)) (dZ (N:=["word", "meaning"]) (by right) (by right)) (by right) rfl (by right) (λ_ _ _ _=>(jF (K:=K) (i:=0) (j:=1) (by rfl) (by rfl) (show List.Nodup (["word", "meaning"]:List Str) by right) (by rfl) (by exact Or.inl rfl) (by exact Or.inr rfl) (by rfl) (by exact Or.inl rfl) (by exact Or.inr rfl))) (λ_ _ _ _=>cI) (λ_ _ _ _=>(cC Bo Ea Eb nX (mv 1) (@aL _ _ _ _ _ _ aD)))))),?_⟩
 obtain⟨S,b1,b2,b3⟩:=id Z;have T:=aO b1
 have a3:(S.map V.ref).length=R.length:=by rw[Ac,b2]
 left;refine fO (n:=R.length) (λD i I C=>Same H C/\∃d,I=d.map V.ref/\d.length=i/\∀(j:Nat) p b,d[j]?=some p->l[j]?=some b->p≠D/\W_ C p b) (bM (by (exact Nat.le_trans (by assumption) (by decide)))) (λD v=>⟨aE v _,[],rfl,rfl,λj p b L=>by cases L⟩) (λD i I C v r Y=>?_) (λD I C v r=>?_) ?_ (λD I C v r k a2=>?_)
 .exact⟨_,(S.map V.ref)[i]'(by ((try clear a4);omega)),bG (aQ r.1 T),Aa _⟩
 .exact⟨_,bG (aQ r.1 T),by (exact Nat.le_of_eq (by assumption))⟩
 .rintro D i I C x H' A B v Y ⟨J,d,rfl,e,o⟩ k y hA hB;obtain⟨rfl,hx⟩:=y;have m:=hx _ (bG (aQ J T))
  rw[Ae]at m;have hq:S[i]?=some (S[i]'(by ((try clear a4);omega))):=Aa _
  rw[hq]at m;cases m;have O:=Aa Y
  have tp:=J _ _ (b3 i _ _ hq O)
  obtain⟨b,M⟩:∃b,l[i]?=some b:=⟨_,Aa (by rw[t.1];exact Y)⟩
  obtain⟨e2,m1,m5,mT⟩:=t.2 i _ b O M;have hl:=M4 b mT
  have L:=pR m1 mT
  rw[e2]at tp;have a1:=dN tp
  left;refine⟨Wk.set rfl (Wk.set rfl (Wk.refl _)),?_⟩;left;refine rK rfl (by ((try clear Y a3 a4 b2 e);omega)) λU g=>?_
  rw[show Txt.split (eL b) " "=b.map bS from L];have X:U≠D:=λz=>by rw[z,k]at g;cases g
  refine hA (.ref U) _ (by rw[aK (Ne.symm X)];exact k) ⟨?_,d++[U],by rw[Ar];rfl,by rw[Aj,e];rfl,λj p us c u=>?_⟩
  .refine bQ v (J.trans (aE g _))
  .by_cases hj:j<d.length
   .rw[Bx hj]at c;obtain⟨n1,t1⟩:=o j p us c u;refine⟨n1,?_⟩;unfold W_ at t1 ⊢;rw[aK n1];exact aE g _ _ _ t1
   .have ej:j=d.length:=by
     have:=(Ag.mp c).1
     rw[Aj]at this;have:j<d.length+1:=this
     ((try clear X Y a3 a4 b2 e hl m1 m5);omega)
    subst ej;rw[Br (Ai _),Gq]at c;cases c;rw[e,M]at u;cases u;refine⟨X,?_⟩;unfold W_;rw[aK X,aG]
 .obtain⟨J,d,rfl,e,o⟩:=r;exact q D C v J ⟨d,k,by rw[e,t.1],λj p b L hm=>(o j p b L hm).2⟩
def pI:∀a,a.all cQ=true->kE a a=true:=λa h=>by
 rw[jX rfl,Bv];intro i c;have f:=iB h i
 generalize a.getD i .non=x at f ⊢;cases x with
 |non=>rfl
 |bl b=>show (b==b)=true;simp
 |int i=>show (i==i)=true;simp
 |str z=>show (z==z)=true;simp
 |_=>cases f
def DF(xs ys:List Str):kE (xs.map V.str) (ys.map V.str)=decide (xs=ys):=by
 by_cases e:xs=ys
 .subst e;rw[pI _ (cJ _),Ao rfl]
 .rw[An e];by_cases a:xs.length=ys.length
  .cases h:kE _ _ with
   |false=>rfl
   |true=>
    rw[jX (by rw[Ac,Ac,a]),Bv,Ac]at h
    refine absurd (List.ext_getElem a λj b d=>?_) e;have q:=h j (Cu.mpr b)
    rw[Ah,Ah,Ae,Ae,Aa b,Aa d]at q;have c:=q
    exact eq_of_beq c
  .exact xM (by simp_all)
def LH{s l:Nat}(h:s<=xs.length):lU xs (some (s:Int)) (some ((s:Int)+(l:Int)))=(xs.drop s).take l:=by
 show (xs.drop (if (s:Int)<0 then ((s:Int)+(xs.length:Int)).toNat else min (s:Int).toNat xs.length)).take ((if (s:Int)+(l:Int)<0 then ((s:Int)+(l:Int)+(xs.length:Int)).toNat else min (_+(l:Int)).toNat xs.length)-(if (s:Int)<0 then ((s:Int)+(xs.length:Int)).toNat else min (s:Int).toNat xs.length))=_
 rw[if_neg (by ((try clear h);omega)),if_neg (by ((try clear h);omega)),show (s:Int).toNat=s from rfl,show (_+(l:Int)).toNat=s+l by ((try clear h);omega),Ep h]
 by_cases a:s+l<=xs.length
 .rw[Ep a,Cv]
 .rw[Eh (by ((try clear h);omega)),Bd (by simp_all),Bd (by grind)]
def J9{a b:Q7}(h:a.map bS=b.map bS):a=b:=List.map_inj_right (λ_ _ e=>DG e) |>.mp h
noncomputable def cU(a:List (List (List Nat)))(j:Nat):Nat:=(a.getD j []).length
def fQ(a:List (List (List Nat)))(T:List (List Nat))(s j:Nat):Prop:=(T.drop s).take (cU a j)=a.getD j []
noncomputable instance (mss:List (Q7)) (T:Q7) (s j:Nat):Decidable (fQ mss T s j):=inferInstanceAs (Decidable (_=_))
noncomputable def dR(a:List (List (List Nat)))(T:List (List Nat))(s:Nat):List Nat:=(List.range a.length).filter λj=>decide (fQ a T s j)
noncomputable def Vu(mss:List (List (List Nat)))(T:List (List Nat))(s i:Nat):Option V:=if fQ mss T s i then some (V.int (i:Int)) else none
def PR(a:List (Q7))(T:Q7)(s:Nat):∀n,(List.range n).filterMap (Vu a T s)=((List.range n).filter λj=>decide (fQ a T s j)).map λj:Nat=>V.int (j:Int)
 |0=>rfl
 |n+1=>by
  rw[Cp,Bu,List.filter_append,Ar,PR a T s n]
  by_cases h:fQ a T s n
  .rw[Cc  (by unfold Vu;rw[if_pos h]),Fv,if_pos (Ao h)]
   rfl
  .rw[Cg (by unfold Vu;rw[if_neg h]),Fv,if_neg (by simp_all)]
   rfl
def mF{T:Q7}{s:Nat}(h:j∈dR mss T s):j<mss.length/\fQ mss T s j:=by
 obtain⟨b,a⟩:=Gy.mp h;simp_all
def wZ{T:Q7}{s:Nat}(h:fQ mss T s j)(hs:s<=T.length):s+cU mss j<=T.length:=by
 have:=Ds List.length h
 rw[Bi,Dx]at this;unfold cU at this ⊢;omega
def nS{a:Q7}(h:mss[j]?=some a):mss.getD j []=a:=by simp_all
def fK:Sp:=λe H Q _=>∃(a b:Addr) (c:List (List (List Nat))) (T:List (List Nat)) (s:Nat),e=[.ref a,.ref b,.int (s:Int)]/\Yw H a c/\c.length<=60/\W_ H b T/\T.length<=1000/\s<=T.length/\
 ∀r d,Same H d->Z6 d r=some ((dR c T s).map λj:Nat=>V.int (j:Int))->Q (.ref r) d
def vJ:Z_ ["meanings", "terms", "start"] ["meanings", "terms", "start"] (aJ gO):=by fail "sc"
def xL(F:ZQ K "standing_at" "standing_at" gO f fd):Z9 P w K mg base ZO 1 f fd ["meanings", "terms", "start"] fK:=by
 refine F.ok vJ (λvs H Q E h=>?_) (λa3 A I s H vs Q E M h=>?_)
 .obtain⟨a,b,c,T,s,rfl,_⟩:=h;rfl
 obtain⟨a,b,c,T,g,rfl,R,a2,hT,a1,L,q⟩:=h;refine⟨_,(@aI _ _ _ (aV (cD rfl (QV rfl G.b_enumerate (aA (mv 0) aD)) (fG (N:=["number", "meaning", "terms", "start"]) ["meanings", "terms", "start"] (aJ gO) [none,none,some 1,some 2] rfl rfl rfl (λx h=>cE h) (by right)) (by right) rfl (by right) (λ_ _ _ _=>(jF (K:=K) (i:=0) (j:=1) (by rfl) (by rfl) (show List.Nodup (["number", "meaning", "terms", "start"]:List Str) by right) (by rfl) (Or.inl rfl) (Or.inr rfl) (by rfl) (Or.inl rfl) (Or.inr rfl))) (λ_ _ _ _=>(jS (bD (Tg M.ZF) (fR WG (mv 2) (eQ (mv 3)) (eQ (cH cL (mv 3) (aP cK rfl G.b_len bR (aA (mv 1) aD))))) (mv 1) (aZ _)))) (λ_ _ _ _=>(mv 0))))),?_⟩
 obtain⟨C,p1,Z,p3⟩:=id R;have rp:=aO p1
 have o:(C.map V.ref).length=c.length:=by rw[Ac,Z]
 left;refine R_ (k:=0) (xs:=C.map V.ref) (λi _=>Vu c T g i) rp (by rw[o];exact bM (by (exact Nat.le_trans (by assumption) (by decide)))) (λi x Hc y A B n sm O hA=>?_) (λD Hd hD sD hd=>?_)
 .rw[Ae]at n;cases e:C[i]? with
  |none=>rw[e]at n;cases n
  |some m=>
   rw[e]at n;cases n;have hi:i<c.length:=by rw[<-Z];exact(Ag.mp e).1
   obtain⟨d,p⟩:∃d,c[i]?=some d:=⟨_,Aa hi⟩;have v:=sm.trans (aE O (.tup [V.int ((0+i:Nat):Int),V.ref m]))
   have W:=v _ _ (p3 i m d e p)
   have U:=v _ _ hT
   have Y:=aO W
   have rt:=aO U
   have u:qN (upd Hc y (.tup [V.int ((0+i:Nat):Int),V.ref m])) y=some [V.int ((0+i:Nat):Int),V.ref m]:=zP
   have S:((d.map bS).map V.str).length=d.length:=by rw[Ac,Ac]
   have J:((T.map bS).map V.str).length=T.length:=by rw[Ac,Ac]
   have eg:=nS p
   have t:fQ c T g i ↔ (T.drop g).take d.length=d:=by unfold fQ cU;rw[eg]
   generalize upd Hc y (.tup [V.int ((0+i:Nat):Int),V.ref m])=H2 at hA v W U Y rt u ⊢;left;refine⟨Wk.set rfl (Wk.set rfl (Wk.refl _)),?_⟩;left;rw[S];intro r M;rw[LH (by rwa[J]),<-Gd,<-Gd,<-Fo,<-Fo]
   have X:=aE M (.lst ((((T.drop g).take d.length).map bS).map V.str))
   refine V4 bX (aQ X Y) (cJ _) (cJ _) ?_;rw[if_neg Aq,DF];have l:=hA _ X
   generalize upd H2 r (.lst ((((T.drop g).take d.length).map bS).map V.str))=H3 at l ⊢;left;unfold Vu at l;by_cases z:fQ c T g i
   .rw[if_pos z]at l;rw[Ao (Ds (List.map bS) (t.mp z))];rwa[Nat.zero_add]
   .rw[if_neg z]at l;rwa[An (λk=>z (t.mpr (J9 k)))]
 .rw[o,PR]at hd;exact q D Hd sD hd
noncomputable def tV:Option Int->V
 |none=>.non
 |some n=>.int n
noncomputable def Wc(a:List (List (List Nat)))(T:List (List Nat))(b:List (Option Int))(i:Nat):List (Option Int):=(dR a T i).map λj=>b.getD (i+cU a j) none
noncomputable def UZ(a:List (List (List Nat)))(T:List (List Nat))(b:List (Option Int))(i:Nat):List Int:=(Wc a T b i).filterMap id
def Vg(a:List (List (List Nat))):Prop:=a.length<=60/\∀b∈a,1<=b.length/\b.length<=5
def Lp(h:Vg mss)(a:j<mss.length):1<=cU mss j/\cU mss j<=5:=by
 unfold cU;rw[Ah,Aa a];exact h.2 _ (Co a)
def SV(h:qH bk mss)(a:bk.length<=60):Vg mss:=by
 refine⟨by rwa[h.1],λc d=>?_⟩
 obtain⟨j,b,e⟩:=Dj.mp d;have f:j<bk.length:=by rwa[<-h.1]
 have:=h.2 j _ c (Aa f) (by rw[Aa b,e])
 simp_all
def Ux{a:List (Option Int)}(h:k<a.length):YJ (a.map tV) (k:Int)=some (tV (a.getD k none)):=by
 refine aX ?_;simp_all
def Ip(bs:List _):(bs.map tV).filterMap (λx=>match x with|.int n=>some (V.int n)|_=>none)=(bs.filterMap id).map V.int:=by
 induction bs with
 |nil=>rfl
 |cons b r c=>
  cases b with
  |none=>rw[Ax,Cg rfl,c,Cg rfl]
  |some n=>rw[Ax,Cc (f:=λx=>match x with|.int n=>some (V.int n)|_=>none) (a:=tV _)  rfl,c,Cc  (a:=some n) (b:=n) rfl];rfl
noncomputable def jW(a:List (List (List Nat)))(T:List (List Nat)):Nat->List (Option Int)
 |0=>List.replicate T.length none++[some 0]
 |t+1=>match UZ a T (jW a T t) (T.length-1-t) with
  |[]=>jW a T t
  |k::_=>(jW a T t).set (T.length-1-t) (some (1+k))
def WU(a:List (List (List Nat)))(T:List (List Nat)):Prop:=∀t,t<T.length->(UZ a T (jW a T t) (T.length-1-t)).length<=1
def rF(a:List (Q7))(T:Q7):∀t,(jW a T t).length=T.length+1
 |0=>by unfold jW;rw[Aj,Ca];rfl
 |t+1=>by
  unfold jW;split
  .exact rF a T t
  .rw[Dm];exact rF a T t
def kJ:Sp:=λe H Q _=>∃a b c T,e=[.ref a,.ref b]/\Yw H a c/\Vg c/\W_ H b T/\T.length<=40/\WU c T/\
 ∀r d,H r=none->Same H d->d r=some (.lst ((jW c T T.length).map tV))->Q (.ref r) d
def u7:Z_ ["meanings", "terms", "table", "start", "behind", "known"] ["meanings", "terms"] (aJ eT):=by fail "sc"
def sA(F:ZQ K "least_numbers" "least_numbers" eT f fd)(y8:ZM P w K mg base 1 "standing_at" ["meanings", "terms", "start"] fK):Z9 P w K mg base ZO 2 f fd ["meanings", "terms"] kJ:=by
 refine F.ok u7 (λvs H Q E h=>?_) (λcdv A outer s H vs Q E hr h=>?_)
 .obtain⟨a,b,mss,T,rfl,_⟩:=h;rfl
 obtain⟨a,b,mss,T,rfl,hms,hL,hT,h40,hone,q⟩:=h;refine⟨_,(@aH _ _ _ _ _ (aY 2 u7.nd (cH cL (cH SX (bI (aA cO aD)) (aP cK rfl G.b_len bR (aA (mv 1) aD))) (bI (aA aM aD)))) (@aH _ _ _ _ _ (dY Bp rfl (DC rfl G.b_range (aA (cH tQ (aP cK rfl G.b_len bR (aA (mv 1) aD)) aM) (aA (QR Pu aM) (aA (QR Pu aM) aD)))) (bB (i:=3) u7.nd rfl (Or.inr rfl)) (@aH _ _ _ _ _ (dW (i:=4) u7.nd rfl (Or.inl rfl) rfl (bU (bF y8 hr (by decide) rfl (aA (mv 0) (aA (mv 1) (aA (mv 3) aD))))) (fG (N:=["number", "table", "start", "meanings"]) ["meanings", "terms", "table", "start", "behind", "known"] (aJ eT) [none,some 2,some 3,some 0] rfl rfl rfl (λx h=>cE h) (by right)) (by right) rfl (by right) (λ_ _ _ _=>(bB (i:=0) (show List.Nodup (["number", "table", "start", "meanings"]:List Str) by right) rfl (Or.inl rfl))) (λ_ _ _ _=>cI) (λ_ _ _ _=>(bH bZ (mv 1) (cH cL (mv 2) (aP cK rfl G.b_len bR (aA (bH bZ (mv 3) (mv 0) (λ_ _=>rfl)) aD))) (λ_ _=>rfl)))) (@aH _ _ _ _ _ (dW (i:=5) u7.nd rfl (Or.inl rfl) rfl (bU (mv 4)) (dZ (N:=["many"]) (by right) (by right)) (by right) rfl (by right) (λ_ _ _ _=>(bB (i:=0) (show List.Nodup (["many"]:List Str) by right) rfl (Or.inl rfl))) (λ_ _ _ _=>(jS (bD T_ (mv 0) cO (aZ _)))) (λ_ _ _ _=>(mv 0))) (@aI _ _ _ (bP (bD (Ta hr.ZF) (mv 5) (bI aD) (aZ _)) (@aI _ _ _ (sJ (cH cL aM (aP (LX rfl) rfl G.b_min z_ (aA (mv 5) aD))) (yG (mv 2) (mv 3) mW))) bE))))) (@aI _ _ _ (aV (mv 2))))),?_⟩
 have htl:((T.map bS).map V.str).length=T.length:=by rw[Ac,Ac]
 have rT:=aO hT
 left;refine⟨x0,λp0 hp0=>?_⟩
 have s0:=aE hp0 (.lst [V.non])
 have e0:(upd H p0 (.lst [V.non])) p0=some (.lst [V.non]):=aG
 generalize upd H p0 (.lst [V.non])=H0 at s0 e0 ⊢;have rT0:=aQ s0 rT
 left;rw[htl];refine⟨p0,_,[V.non],rfl,rfl,e0,by (exact Int.natCast_nonneg _),by omega,by show 1*((T.length:Int)).toNat<=sizeLine;exact bJ (by omega),λp1 hp1=>?_⟩
 have er:(List.replicate ((T.length:Int)).toNat [V.non]).flatten=(List.replicate T.length (none:Option Int)).map tV:=by
  rw[show ((T.length:Int)).toNat=T.length from rfl];generalize T.length=n;induction n with
  |zero=>rfl
  |succ n ih=>rw[Df,Dh,ih,Df,Ax];rfl
 rw[er];have s1:=s0.trans (aE hp1 (.lst ((List.replicate T.length (none:Option Int)).map tV)))
 have e1:(upd H0 p1 (.lst ((List.replicate T.length (none:Option Int)).map tV))) p1=_:=aG
 generalize upd H0 p1 (.lst ((List.replicate T.length (none:Option Int)).map tV))=H1 at s1 e1 ⊢;left;refine⟨x0,λp2 hp2=>?_⟩
 have n2:p1≠p2:=bN e1 hp2
 refine eV (xs:=(List.replicate T.length (none:Option Int)).map tV) (ys:=[V.int 0]) (by rw[vF n2];exact bO e1) cX (bJ (by rw[Ac,Ca];show _+1<=_;(exact Nat.lt_of_le_of_lt (by assumption) (by decide)))) λtb htb=>?_
 rw[show (List.replicate T.length (none:Option Int)).map tV++[V.int 0]=(List.replicate T.length (none:Option Int)++[some 0]).map tV by rw[Ar];rfl]
 have htbH:H tb=none:=none_of (s1.trans (aE hp2 _)) htb
 have s3:=s1.trans ((aE hp2 (.lst [V.int 0])).trans (aE htb (.lst ((List.replicate T.length (none:Option Int)++[some 0]).map tV))))
 have e3:(upd (upd H1 p2 (.lst [V.int 0])) tb (.lst ((List.replicate T.length (none:Option Int)++[some 0]).map tV))) tb=_:=aG
 generalize upd (upd H1 p2 (.lst [V.int 0])) tb (.lst ((List.replicate T.length (none:Option Int)++[some 0]).map tV))=H3 at s3 e3 ⊢;have rT3:=aQ s3 rT
 left;rw[htl];refine⟨⟨by ((try clear n2);omega),by ((try clear n2);omega),by (exact Int.natCast_nonneg _),by (exact Int.natCast_nonneg _),rfl⟩,?_⟩
 have hcn:wO ((T.length:Int)-1) (-1)=T.length:=by unfold wO;((try clear n2);omega)
 rw[hcn];refine MD (λt U H'=>∃v3 v4 v5,U=[some (.ref a),some (.ref b),some (.ref tb),v3,v4,v5]/\Same H H'/\H' tb=some (.lst ((jW mss T t).map tV)))
  ⟨_,_,_,rfl,s3,e3⟩ ?_ ?_
 .rintro t U H4 ht ⟨v3,v4,v5,rfl,s4,e4⟩;have h1w:=hone t (by (assumption))
  have hlen:=rF mss T t
  have htF:jW mss T (t+1)=match UZ mss T (jW mss T t) (T.length-1-t) with|[]=>jW mss T t|k::_=>(jW mss T t).set (T.length-1-t) (some (1+k)):=rfl
  generalize jW mss T t=TB at e4 h1w hlen htF;obtain⟨st,hst⟩:∃st,st+t+1=T.length:=⟨T.length-1-t,by ((try clear h1w h40 n2);omega)⟩
  rw[show (T.length:Int)-1+(t:Int)*(-1)=(st:Int) by ((try clear h1w h40 ht n2);omega)]
  rw[show T.length-1-t=st by ((try clear h1w h40 n2);omega)]at h1w htF
  have hms4:=hms.keep s4
  have hT4:=s4 _ _ hT
  left;refine⟨a,b,mss,T,st,rfl,hms4,hL.1,hT4,by (exact Nat.le_trans (by assumption) (by decide)),by ((try clear h1w h40 ht n2);omega),λrs H5 s5 e5=>?_⟩
  have e45:=s5 _ _ e4
  obtain⟨ps,p1',p2',p3'⟩:=hms4.keep s5;left;refine kI (xs:=(dR mss T st).map λj:Nat=>V.int (j:Int)) (λx=>match x with|.int j=>some (tV (TB.getD (st+cU mss j.toNat) none))|_=>none) e5 (by
   rw[Ac];have:(dR mss T st).length<=mss.length:=by unfold dR;have:=Fc (λj=>decide (fQ mss T st j)) (List.range mss.length);rw[Cj]at this;exact this
   exact bM (by have:=hL.1;((try clear h1w h40 hcn hlen hst ht htl n2);omega))) (λi x Hc A B hx sm hA=>?_) (λD Hd hD sD hd=>?_)
  .rw[Ae]at hx;cases e:(dR mss T st)[i]? with
   |none=>rw[e]at hx;cases hx
   |some j=>
    rw[e]at hx;cases hx;obtain⟨hj,hS⟩:=mF (As e);have hle:=wZ hS (by ((try clear h1w h40 hj ht n2 p2');omega))
    have hpj:ps[j]?=some (ps[j]'(by ((try clear h1w h40 hcn hle hlen hst ht htl n2);omega))):=Aa _
    obtain⟨ms,hmj⟩:∃ms,mss[j]?=some ms:=⟨_,Aa hj⟩;have tm:=sm _ _ (p3' j _ ms hpj hmj)
    have rm:=aO tm
    have eg:=nS hmj
    have hml:((ms.map bS).map V.str).length=cU mss j:=by unfold cU;rw[eg,Ac,Ac]
    have rps:=aO (sm _ _ p1')
    have rtb:=aO (sm _ _ e45)
    left;refine⟨Wk.set rfl (Wk.refl _),?_⟩;left;refine cA rps (v:=.ref (ps[j]'(by ((try clear h1w h40 hcn hle hlen hml hst ht htl n2);omega)))) (aX (by rw[Ae,hpj];rfl)) ?_
    left;rw[hml];refine cA rtb (by rw[show (st:Int)+(cU mss j:Int)=((st+cU mss j:Nat):Int) by ((try clear h1w h40 hcn hj hle hlen hml hst ht htl n2 p2');omega)];exact Ux (by ((try clear h1w h40 hj hst ht n2 p2');omega))) ?_
    exact hA _ (Same.refl _)
  .have eb:((dR mss T st).map λj:Nat=>V.int (j:Int)).filterMap (λx=>match x with | .int j=>some (tV (TB.getD (st+cU mss j.toNat) none)) | _=>none)=(Wc mss T TB st).map tV:=by
    unfold Wc;rw[Fz,Ci];exact gL (λj:Nat=>tV (TB.getD (st+cU mss j) none)) _
   rw[eb]at hd;have e4d:=sD _ _ e45
   have rbD:=aO hd
   have hbl:((Wc mss T TB st).map tV).length<=60:=by
    rw[Ac];unfold Wc dR;rw[Ac];have:=Fc (λj=>decide (fQ mss T st j)) (List.range mss.length)
    rw[Cj]at this;have:=hL.1
    ((try clear h1w h40 hcn hlen hst ht htl n2);omega)
   left;refine kI (xs:=(Wc mss T TB st).map tV) (λx=>match x with|.int n=>some (V.int n)|_=>none) rbD (bM (by (exact Nat.le_trans (by assumption) (by decide)))) (λi x Hc A B hx sm hA=>?_) (λD2 Hd2 hD2 sD2 hd2=>?_)
   .rw[Ae]at hx;cases e:(Wc mss T TB st)[i]? with
    |none=>rw[e]at hx;cases hx
    |some o=>
     rw[e]at hx;cases hx;have r:=hA _ (Same.refl _)
     cases o with
     |none=>
      left;refine⟨Wk.set rfl (Wk.refl _),?_⟩;left;exact r
     |some n=>
      left;refine⟨Wk.set rfl (Wk.refl _),?_⟩;left;exact r
   .rw[Ip]at hd2;have hd2':Hd2 D2=some (.lst ((UZ mss T TB st).map V.int)):=hd2
    have e42:=sD2 _ _ e4d
    left;refine⟨by decide,λpe hpe=>?_⟩
    have s6:=aE hpe (.lst [])
    refine V4 (neg:=true) (aQ s6 (aO hd2')) bX (by rw[Bv];intro x hx;obtain⟨n,_,rfl⟩:=Bw.mp hx;rfl) rfl ?_
    have e6:=s6 _ _ e42
    have d6:=s6 _ _ hd2'
    have s06:=s4.trans (s5.trans (sD.trans (sD2.trans s6)))
    generalize upd Hd2 pe (.lst [])=H6 at s6 e6 d6 s06 ⊢;have en:∀xs:List V,kE xs []=xs.isEmpty:=λxs=>by cases xs<;>rfl
    rw[if_pos rfl,en];have hst1:st<TB.length:=by ((try clear h1w h40 hbl ht n2 p2');omega)
    left;cases hk:UZ mss T TB st with
    |nil=>
     rw[show (List.map V.int ([]:List Int)).isEmpty=true from rfl];rw[hk]at htF;left;exact⟨_,_,_,rfl,s06,by rw[htF];exact e6⟩
    |cons k0 kr=>
     rw[show (List.map V.int (k0::kr)).isEmpty=false from rfl];rw[hk]at d6 h1w htF;obtain rfl:kr=[]:=by cases kr with
      |nil=>rfl
      |cons _ _=>rw[Be,Be]at h1w;((try clear h40 hbl hcn hlen hst hst1 ht htl n2 p2');omega)
     left;refine Lr (ns:=[k0]) (aO d6) (Nat.succ_pos _) λm hm hmin=>?_;obtain rfl:=Ak.mp hm;left;refine UY (o:=.non) (bO e6) (Ob (by (exact Int.natCast_nonneg _)) (by rw[Ac];(exact Int.ofNat_le.mpr (by assumption)))) ?_
     rw[show ((st:Nat):Int).toNat=st from rfl,show V.int (1+m)=tV (some (1+m)) from rfl,<-List.map_set];left;exact⟨_,_,_,rfl,bQ htbH s06,by rw[aG,htF]⟩
 .rintro U H4 ⟨v3,v4,v5,rfl,s4,e4⟩;left;exact q tb H4 htbH s4 e4
noncomputable def D9:Str:=("longest_on" : Str) ++ ".<locals>." ++ "<lambda>"
noncomputable def Nq:Pos:=⟨128,29,128,65⟩
def eZ(a:Addr)(H:Hp):Prop:=YZ a D9 Nq H
noncomputable def V3(a:List (List (List Nat)))(T:List (List Nat))(b:List (Option Int))(i:Nat):List Nat:=match b.getD i none with
 |none=>[]
 |some n=>(dR a T i).filter λj=>decide (b.getD (i+cU a j) none=some (n-1))
def S8(p:Nat->Bool):∀L:List Nat,(L.map λj:Nat=>V.int (j:Int)).filterMap (λx=>match x with|.int j=>if p j.toNat=true then some (V.int j) else none|_=>none)=(L.filter p).map λj:Nat=>V.int (j:Int)
 |[]=>rfl
 |j::r=>by
  rw[Ax];cases h:p j with
  |true=>
   rw[Cc (b:=V.int (j:Int)) (by show (if p ((j:Int)).toNat=true then _ else _)=_;rw[Ec,if_pos h]),S8 p r,Fv,if_pos h]
   rfl
  |false=>
   rw[Cg (by simp_all),S8 p r,Fv,if_neg (by rw[h];decide)]
def jH(e:Addr):Sp:=λh H Q _=>∃(a b g:Addr) (c:List (List (List Nat))) (T:List (List Nat)) (d:List (Option Int)) (i:Nat) (n:Int),h=[.ref a,.ref b,.ref g,.int (i:Int)]/\Yw H a c/\Vg c/\W_ H b T/\T.length<=40/\H g=some (.lst (d.map tV))/\d.length=T.length+1/\i<T.length/\d.getD i none=some n/\eZ e H/\∃k,V3 c T d i=[k]/\
 ∀f,ZT e H f->eZ e f->Q (.int (k:Int)) f
def u9:Z_ ["meanings", "terms", "table", "start", "left", "standing", "shortest"] ["meanings", "terms", "table", "start"] (aJ eJ):=by fail "sc"
def yV(F:ZQ K "longest_on" "longest_on" eJ f fd)(a9:fd.code=.ref c)(LB:X3 mg base c Pt)(y8:ZM P w K mg base 1 "standing_at" ["meanings", "terms", "start"] fK):Z9 P w K mg base ZO 2 f fd ["meanings", "terms", "table", "start"] (jH Pt):=by
 refine F.IT a9 u9 (λvs H Q E h=>?_) (λc2 A a5 s H vs Q E a2 hr h=>?_)
 .obtain⟨a,b,tb,d,T,O,i,n,rfl,_⟩:=h;rfl
 obtain⟨a,b,tb,d,T,O,g,n,rfl,Z,hL,hT,c1,a3,b4,b7,hn,a1,k,l,q⟩:=h;unfold V3 at l;rw[hn]at l;replace l:(dR d T g).filter (λj=>decide (O.getD (g+cU d j) none=some (n-1)))=[k]:=l
 refine⟨_,(@aH _ _ _ _ _ (aY 4 u9.nd (cH tQ (bH bZ (mv 2) (mv 3) (λ_ _=>rfl)) aM)) (@aH _ _ _ _ _ (aY 5 u9.nd (bF y8 hr (by decide) rfl (aA (mv 0) (aA (mv 1) (aA (mv 3) aD))))) (@aH _ _ _ _ _ (dW (i:=6) u9.nd rfl (Or.inl rfl) rfl (bU (mv 5)) (fG (N:=["number", "left", "table", "start", "meanings"]) ["meanings", "terms", "table", "start", "left", "standing", "shortest"] (aJ eJ) [none,some 4,some 2,some 3,some 0] rfl rfl rfl (λx h=>cE h) (by right)) (by right) rfl (by right) (λ_ _ _ _=>(bB (i:=0) (show List.Nodup (["number", "left", "table", "start", "meanings"]:List Str) by right) rfl (Or.inl rfl))) (λ_ _ _ _=>(jS (bD fW (bH bZ (mv 2) (cH cL (mv 3) (aP cK rfl G.b_len bR (aA (bH bZ (mv 4) (mv 0) (λ_ _=>rfl)) aD))) (λ_ _=>rfl)) (mv 1) (aZ _)))) (λ_ _ _ _=>(mv 0))) (@aI _ _ _ (aV (Mg rfl (JF hr) rfl G.b_max (aA (mv 6) aD) a2 LB (FT (N:=["number", "meanings"]) (x := "number") ["meanings", "terms", "table", "start", "left", "standing", "shortest"] (aJ eJ) [0] rfl rfl (λx h=>cE h) (by right)) (λA f c' b3 b5=>(aP cK rfl G.b_len bR (aA (bH bZ (mv 1) (mv 0) (λ_ _=>rfl)) aD))) rfl rfl rfl rfl (by right) (λ_ _ _ _ _=>rfl))))))),?_⟩
 have R:=aO a3
 left;refine cA R (v:=.int n) (by rw[Ux (by ((try clear c1);omega)),hn];rfl) ?_
 left;refine⟨a,b,d,T,g,rfl,Z,hL.1,hT,by (exact Nat.le_trans (by assumption) (by decide)),by (exact Nat.le_of_lt (by assumption)),λrs H5 s5 e5=>?_⟩
 have b2:=s5 _ _ a3
 obtain⟨M,U,b6,S⟩:=Z.keep s5;have b8:(dR d T g).length<=60:=by
  have:=Fc (λj=>decide (fQ d T g j)) (List.range d.length)
  rw[Cj]at this;have:=hL.1
  unfold dR;((try clear b4 b7 c1);omega)
 left;refine kI (xs:=(dR d T g).map λj:Nat=>V.int (j:Int)) (λx=>match x with|.int j=>if decide (O.getD (g+cU d j.toNat) none=some (n-1))=true then some (V.int j) else none|_=>none) e5 (by rw[Ac];exact bM (by (exact Nat.le_trans (by assumption) (by decide)))) (λi x Hc A B W sm hA=>?_) (λD Hd hD sD hd=>?_)
 .rw[Ae]at W;cases e:(dR d T g)[i]? with
  |none=>rw[e]at W;cases W
  |some j=>
   rw[e]at W;cases W;obtain⟨hj,hS⟩:=mF (As e);have b9:=wZ hS (by (exact Nat.le_of_lt (by assumption)))
   have t:M[j]?=some (M[j]'(by ((try clear b4 b7 b8 b9 c1);omega))):=Aa _
   obtain⟨C,u⟩:∃C,d[j]?=some C:=⟨_,Aa hj⟩;have tm:=sm _ _ (S j _ C t u)
   have rm:=aO tm
   have eg:=nS u
   have L:((C.map bS).map V.str).length=cU d j:=by unfold cU;rw[eg,Ac,Ac]
   have I:=aO (sm _ _ U)
   have a4:=aO (sm _ _ b2)
   have r:(match (if decide (O.getD (g+cU d j) none=some (n-1))=true then some (V.int (j:Int)) else none) with|some y=>A y Hc|none=>B Hc):=hA _ (Same.refl _)
   left;refine⟨Wk.set rfl (Wk.refl _),?_⟩;left;refine cA I (v:=.ref (M[j]'(by ((try clear L b4 b7 b8 b9 c1);omega)))) (aX (by rw[Ae,t];rfl)) ?_
   left;rw[L];refine cA a4 (by rw[show (g:Int)+(cU d j:Int)=((g+cU d j:Nat):Int) by ((try clear L b4 b6 b7 b8 b9 c1 hj);omega)];exact Ux (by ((try clear b6 b7 b8 c1 hj);omega))) ?_
   generalize O.getD (g+cU d j) none=o at r ⊢;cases o with
   |none=>
    rw[if_neg (by simp)]at r
    refine⟨rfl,?_⟩;rw[show decide (tV none=V.int (n-1))=false from An λz=>nomatch z]
    exact r
   |some m=>
    show UC (V.int m) (V.int (n-1)) _ _
    left;by_cases z:m=n-1
    .rw[Ao (by rw[z]),if_pos rfl]at r
     rw[Ao z];left;exact r
    .rw[An (λy=>z (by injection y)),if_neg (by decide)]at r
     rw[An z];exact r
 .rw[S8 λj=>decide (O.getD (g+cU d j) none=some (n-1))]at hd;rw[l]at hd;have a8:=(Gy.mp (by rw[l];exact Ak.mpr rfl)).1
  have a6:=a1.keep (s5.trans sD)
  have Y:=sD _ _ U
  left;refine BU ?_;left;refine⟨D,[(k:Int)],λ_=>((cU d k:Nat):Int),rfl,aO hd,Nat.succ_pos _,a6,λH2 X i n0 J=>?_,λi m H2 hm b1 sP a7=>?_⟩
  .obtain rfl:(k:Int)=n0:=by
    match i,J with
    |0,J=>exact Ay J
   obtain⟨hj,hS⟩:=mF a8;have t:M[k]?=some (M[k]'(by ((try clear b4 b7 b8 c1);omega))):=Aa _
   obtain⟨C,u⟩:∃C,d[k]?=some C:=⟨_,Aa hj⟩;have I:=X _ _ (aO Y)
   have rm:=X _ _ (aO (sD _ _ (S k _ C t u)))
   have L:((C.map bS).map V.str).length=cU d k:=by unfold cU;rw[nS u,Ac,Ac]
   change UG L2.cU (xJ (Wv Xg (VT 1) (VT 0)) VS) [some (V.int (k:Int)),some (V.ref a)] H2 _
   left;refine cA I (v:=.ref (M[k]'(by ((try clear L b4 b7 b8 c1);omega)))) (aX (by rw[Ae,t];rfl)) ?_
   left;rw[L];exact⟨rfl,rfl⟩
  .obtain rfl:(k:Int)=m:=by
    match i,hm with
    |0,hm=>exact Ay hm
   exact q H2 ((Same.p (s5.trans sD)).trans sP) a7
def oN(c:Addr):Sp:=λd H Q _=>∃a v,d=[.ref a,v]/\H a=some (iY a c none)/\∀b,H b=none->Q .non (upd (upd H a (iY a c (some b))) b (YL b [("terms",v)]))
def zK:Z_ ["self", "terms"] ["self", "terms"] (aJ kQ):=by fail "sc"
def yM(F:ZQ K "__init__" "NoCut.__init__" kQ f fd):Z9 P w K mg base ZO 1 f fd ["self", "terms"] (oN Zq):=by
 refine F.ok zK (λd H Q E h=>?_) (λe A a s H d Q E g h=>?_)
 .obtain⟨b,v,rfl,_⟩:=h;rfl
 obtain⟨b,v,rfl,c,q⟩:=h;refine⟨_,(@aH _ _ _ _ _ (cR (vN rfl G.c_TowerError G.t1_TowerError G.t2_TowerError G.t3_TowerError (aA (mv 0) (aA (mv 1) aD)))) (@aI _ _ _ (SK (mv 0) (mv 1) rfl))),?_⟩;refine⟨b,[v],Zq,Zz,none,rfl,x0,c,(λ_ z=>nomatch z),G.X8,?_⟩
 exact⟨b,Zq,Zz,rfl,G.X8,G.xn_NoCut_terms,.inl ⟨c,q⟩⟩
def Pp(s:ZT Pt H H')(l:eZ Pt H)(h:Z6 H a=some xs):Z6 H' a=some xs:=Ut s h l.tb
def Yb(s:ZT Pt H H')(l:eZ Pt H)(h:H a=some o)(c:∀b,o≠.tbl b):H' a=some o:=s a o (λz=>by
 obtain⟨b,e⟩:=l.tb;rw[z,e]at h;cases h;exact c _ rfl) h
def Mv(h:Yw H r mss)(s:ZT Pt H H')(l:eZ Pt H):Yw H' r mss:=by
 obtain⟨a,g,f,e⟩:=h;exact⟨a,Yb s l g (λ_=>nofun),f,λj p b c d=>Yb s l (e j p b c d) λ_=>nofun⟩
def Vq(h:ZA H r bk)(s:ZT Pt H H')(l:eZ Pt H):ZA H' r bk:=by
 obtain⟨a,g,f,e⟩:=h;exact⟨a,Yb s l g (λ_=>nofun),f,λj p b c d=>Yb s l (e j p b c d) λ_=>nofun⟩
def NJ(h:eZ Pt H)(e:H p=some (.lst xs)):eZ Pt (upd H p o):=by
 have a:∀b u,H b=some u->(∀z,u≠.lst z)->b≠p:=λb u h n y=>by grind
 rcases h with h|⟨c,f,d⟩
 .exact .inl (by rwa[aK (a _ _ h λ_=>nofun)])
 .exact .inr ⟨c,by rwa[aK (a _ _ f λ_=>nofun)],by rwa[aK (a _ _ d λ_=>nofun)]⟩
def IG(a:H p=none)(s:ZT Pt H H'):ZT Pt H (upd H' p o):=λb u n e=>by rw[aK (λz=>by grind)];exact s b u n e
def F6(L:List Nat)(n:Nat):YK (V.int (n:Int)) (L.map λk=>V.int ((k:Nat):Int))=decide (n∈L):=by
 unfold YK;by_cases h:n∈L
 .rw[Ao h,List.any_eq_true];exact⟨_,List.mem_map.mpr ⟨n,h,rfl⟩,by show (_==_)=true;simp⟩
 .rw[An h,List.any_eq_false];intro x a;obtain⟨k,b,rfl⟩:=Bw.mp a;show ¬(_==_)=true
  grind
def Mo(L:List Nat):(L.map λk=>V.int ((k:Nat):Int)).all cQ=true:=by
 rw[Bv];intro x a;obtain⟨n,_,rfl⟩:=Bw.mp a;rfl
noncomputable def mS(a:List (List (List Nat)))(T:List (List Nat)):Nat->List Nat
 |0=>[0]
 |t+1=>if t∈mS a T t then mS a T t++(dR a T t).map λj=>t+cU a j else mS a T t
inductive Zh (mss:List (List (List Nat))) (T:List (List Nat)) (TB:List (Option Int)):Nat->List Nat->Prop
 |nil:Zh mss T TB T.length []
 |cons {i k:Nat} {ks:List Nat} {n:Int}:i<T.length->TB.getD i none=some n->V3 mss T TB i=[k]->Zh mss T TB (i+cU mss k) ks->Zh mss T TB i (k::ks)
def tP:Sp:=λe H Q _=>∃a b c T,e=[.ref a,.ref b]/\Yw H a c/\Vg c/\W_ H b T/\T.length<=40/\∃k,k∈mS c T T.length/\(∀x∈mS c T T.length,x<=k)/\∀d,Same H d->Q (.int (k:Int)) d
def n5:Z_ ["meanings", "terms", "ends", "start"] ["meanings", "terms"] (aJ lE):=by fail "sc"
def Nd(F:ZQ K "most_cut" "most_cut" lE f fd)(y8:ZM P w K mg base 1 "standing_at" ["meanings", "terms", "start"] fK):Z9 P w K mg base ZO 2 f fd ["meanings", "terms"] tP:=by
 refine F.ok n5 (λvs H Q E h=>?_) (λc1 A a2 s H vs Q E hr h=>?_)
 .obtain⟨a,b,c,T,rfl,_⟩:=h;rfl
 obtain⟨a,b,c,T,rfl,a4,hL,hT,b9,km,I,a6,q⟩:=h;refine⟨_,(@aH _ _ _ _ _ (aY 2 n5.nd (bI (aA aM aD))) (@aH _ _ _ _ _ (dY Bp rfl (zZ rfl G.b_range (aA (aP cK rfl G.b_len bR (aA (mv 1) aD)) aD)) (bB (i:=3) n5.nd rfl (Or.inr rfl)) (@aI _ _ _ (bP (bD U5 (mv 3) (mv 2) (by rfl)) (@aI _ _ _ (cR (cC Bq Fm Fn UJ (mv 2) (aA (cD rfl (bU (bF y8 hr (by decide) rfl (aA (mv 0) (aA (mv 1) (aA (mv 3) aD))))) (fG (N:=["number", "start", "meanings"]) ["meanings", "terms", "ends", "start"] (aJ lE) [none,some 3,some 0] rfl rfl rfl (λx h=>cE h) (by right)) (by right) rfl (by right) (λ_ _ _ _=>(bB (i:=0) (show List.Nodup (["number", "start", "meanings"]:List Str) by right) rfl (Or.inl rfl))) (λ_ _ _ _=>cI) (λ_ _ _ _=>(cH cL (mv 1) (aP cK rfl G.b_len bR (aA (bH bZ (mv 2) (mv 0) (λ_ _=>rfl)) aD))))) aD)))) bE))) (@aI _ _ _ (aV (aP (CV rfl) rfl G.b_max AM (aA (mv 2) aD)))))),?_⟩
 have a3:((T.map bS).map V.str).length=T.length:=by rw[Ac,Ac]
 have rT:=aO hT
 have b8:=hL.1
 left;refine⟨x0,λl t=>?_⟩
 have S:=aE t (.lst [V.int 0])
 have e1:(upd H l (.lst [V.int 0])) l=some (.lst ((([0]:List Nat)).map λk=>V.int ((k:Nat):Int))):=aG
 generalize upd H l (.lst [V.int 0])=H1 at S e1 ⊢;have b1:=aQ S rT
 left;rw[a3];refine⟨⟨by (exact Int.natCast_nonneg _),by omega⟩,?_⟩
 rw[show ((T.length:Nat):Int).toNat=T.length from Ec _];refine Ru (λi U H'=>∃O,U=[some (.ref a),some (.ref b),some (.ref l),O]/\Same H H'/\H' l=some (.lst ((mS c T i).map λk=>V.int ((k:Nat):Int)))/\(mS c T i).length<=1+60*i)
  ⟨_,rfl,S,e1,Ai _⟩ ?_ ?_
 .rintro i U H2 hi ⟨O,rfl,g,o,C⟩;have e:mS c T (i+1)=if i∈mS c T i then mS c T i++(dR c T i).map λj=>i+cU c j else mS c T i:=rfl
  generalize mS c T i=L at o C e;have b7:=hi
  have d:=a4.keep g
  have a7:=g _ _ hT
  have X:=aO o
  rw[show (0:Int)+(i:Int)=(i:Int) by ((try clear C a3 b7 b8 b9 hi);omega)]
  left;refine VX (neg:=false) X rfl (Mo L) ?_;rw[if_neg (by decide),F6]
  by_cases n:i∈L
  .rw[Ao n];left;refine⟨a,b,c,T,i,rfl,d,hL.1,a7,by (exact Nat.le_trans (by assumption) (by decide)),by (exact Nat.le_of_lt (by assumption)),λrs H3 R e3=>?_⟩
   have a8:=R _ _ o
   obtain⟨Y,a1,b2,Z⟩:=d.keep R;have b3:(dR c T i).length<=60:=by
    have:=Fc (λj=>decide (fQ c T i j)) (List.range c.length)
    rw[Cj]at this;unfold dR;((try clear C a3 b7 b9 hi);omega)
   left;refine kI (xs:=(dR c T i).map λj:Nat=>V.int (j:Int)) (λx=>match x with|.int j=>some (V.int (((i+cU c j.toNat):Nat):Int))|_=>none) e3 (by rw[Ac];exact bM (by (exact Nat.le_trans (by assumption) (by decide)))) (λu x Hc A B M sm hA=>?_) (λD Hd hD sD hd=>?_)
   .rw[Ae]at M;obtain⟨j,ej,rfl⟩:=Bk.mp M;obtain⟨hj,hS⟩:=mF (As ej);have p:Y[j]?=some (Y[j]'(by ((try clear C a3 b3 b7 b8 b9 hi);omega))):=Aa _
    obtain⟨J,y⟩:∃J,c[j]?=some J:=⟨_,Aa hj⟩;have rm:=aO (sm _ _ (Z j _ J p y))
    have a5:((J.map bS).map V.str).length=cU c j:=by unfold cU;rw[nS y,Ac,Ac]
    have W:=aO (sm _ _ a1)
    have r:A (V.int (((i+cU c j):Nat):Int)) Hc:=hA _ (Same.refl _)
    left;refine⟨Wk.set rfl (Wk.refl _),?_⟩;left;refine cA W (v:=.ref (Y[j]'(by ((try clear C a3 a5 b3 b7 b8 b9 hi);omega)))) (aX (by rw[Ae,p];rfl)) ?_
    left;rw[a5,show (i:Int)+(cU c j:Int)=(((i+cU c j):Nat):Int) by ((try clear C a3 a5 b2 b3 b7 b8 b9 hi hj);omega)]
    exact r
   .have eb:((dR c T i).map λj:Nat=>V.int (j:Int)).filterMap (λx=>match x with | .int j=>some (V.int (((i+cU c j.toNat):Nat):Int)) | _=>none)=(((dR c T i).map λj=>i+cU c j).map λk=>V.int ((k:Nat):Int)):=by
     rw[Fz,Ci];exact gL (λj=>V.int (((i+cU c j):Nat):Int)) _
    rw[eb]at hd;have eD:=sD _ _ a8
    have b5:=bO eD
    have b4:=bO hd
    have b6:(L.map λk=>V.int ((k:Nat):Int)).length+(((dR c T i).map λj=>i+cU c j).map λk=>V.int ((k:Nat):Int)).length<=10000:=by rw[Ac,Ac,Ac];((try clear b2 b7 b8);omega)
    left;rw[<-Ar];rw[if_pos n]at e;exact⟨_,rfl,bQ t (g.trans (R.trans sD)),by rw[e];exact aG,by rw[e,Aj,Ac];((try clear a3 b2 b6 b7 b8 b9 hi);omega)⟩
  .rw[An n];rw[if_neg n]at e;left;exact⟨_,rfl,g,by rw[e];exact o,by rw[e];((try clear a3 b7 b8 b9 hi);omega)⟩
 .rintro U H2 ⟨O,rfl,g,o,C⟩;have a9:Z6 H2 l=some (((mS c T T.length).map λk=>((k:Nat):Int)).map V.int):=by rw[Ci];exact aO o
  left;refine J_ a9 (by rw[Ac];exact List.length_pos_of_mem I) λm n z=>?_
  obtain rfl:m=(km:Int):=by
   obtain⟨x,M,rfl⟩:=Bw.mp n;have h1:=a6 x M
   have h2:=z _ (Bw.mpr ⟨km,I,rfl⟩)
   ((try clear C a3 b8 b9);omega)
  exact q H2 g
def nG(f j i:Addr):Sp:=λh H Q E=>∃a z e b,h=[.ref a,.str z]/\ZA H a e/\e.length<=60/\qH e b/\z.length<=1000/\eZ f H/\
 ((∃T,z=eL T/\1<=T.length/\T.length<=40/\(∀t∈T,fX t)/\WU b T/\
  ((∃k,(jW b T T.length).getD 0 none=none/\k∈mS b T T.length/\(∀x∈mS b T T.length,x<=k)/\∀d c,Same H c->c d=some (YL d [("terms",.int (k:Int))])->E (.ref j) (some d) c)\/
   (∃g,Zh b T (jW b T T.length) 0 g/\∀r c,H r=none->ZT f H c->eZ f c->c r=some (.lst (g.map λk=>V.int ((k:Nat):Int)))->Q (.ref r) c)))\/
  (oE z 40=false/\∀c,Same H c->E (.ref i) none c))
def z7:Z_ ["book", "text", "terms", "meanings", "table", "numbers", "start", "number"] ["book", "text"] (aJ oW):=by fail "sc"
def J1(F:ZQ K "cut_text" "cut_text" oW f fd)(n8:iV P w K mg base 3 "terms_of" ["text"] (tR Zv))(m3:ZM P w K mg base 1 "meanings_of" ["book"] mQ)(m4:ZM P w K mg base 2 "least_numbers" ["meanings", "terms"] kJ)(m6:Wa P w K mg base 1 Zq ["self", "terms"] (oN Zq))(m7:ZM P w K mg base 2 "longest_on" ["meanings", "terms", "table", "start"] (jH Pt))(m8:ZM P w K mg base 2 "most_cut" ["meanings", "terms"] tP):Z9 P w K mg base (Zb P w) 4 f fd ["book", "text"] (nG Pt Zq Zv):=by
 refine F.Ys z7 (λvs H Q E h=>?_) (λe2 A b8 s H vs Q E g h=>?_)
 .obtain⟨a,z,bk,b,rfl,_⟩:=h;rfl
 obtain⟨a,z,bk,b,rfl,b5,b6,b1,hz,b4,N⟩:=h;refine⟨_,(@aH _ _ _ _ _ (aY 2 z7.nd (cP n8 bV g (by decide) rfl (aA (mv 1) aD))) (@aH _ _ _ _ _ (aY 3 z7.nd (bF m3 g (by decide) rfl (aA (mv 0) aD))) (@aH _ _ _ _ _ (aY 4 z7.nd (bF m4 g (by decide) rfl (aA (mv 3) (aA (mv 2) aD)))) (@aH _ _ _ _ _ (bP (bD Vx (bH bZ (mv 4) aM (λ_ _=>rfl)) cO (aZ _)) (@aI _ _ _ (nW dP rfl rfl rfl G.c_NoCut G.Xj m6 g (by decide) (aA (bF m8 g (by decide) rfl (aA (mv 3) (aA (mv 2) aD))) aD))) bE) (@aH _ _ _ _ _ (aY 5 z7.nd (bI aD)) (@aH _ _ _ _ _ (aY 6 z7.nd aM) (@aH _ _ _ _ _ (PS.Xf (xQ Bp (bD wU (mv 6) (aP cK rfl G.b_len bR (aA (mv 2) aD)) (aZ _)) (@aH _ _ _ _ _ (aY 7 z7.nd (bF m7 g (by decide) rfl (aA (mv 3) (aA (mv 2) (aA (mv 4) (aA (mv 6) aD)))))) (@aH _ _ _ _ _ (cR (cC Bq Da Dc vU (mv 5) (aA (mv 7) aD))) (@aI _ _ _ (aY 6 z7.nd (cH cL (mv 6) (aP cK rfl G.b_len bR (aA (bH bZ (mv 3) (mv 7) (λ_ _=>rfl)) aD))))))))) (@aI _ _ _ (aV (mv 5)))))))))),?_⟩
 have hL:=SV b1 b6
 left;rcases N with⟨T,rfl,h1,t,hT,a9,hq⟩|⟨qT,qe⟩
 rotate_left
 .refine⟨z,rfl,hz,(λg=>by rw[qT]at g;cases g),λ_ H1 s1=>?_⟩
  exact qe H1 s1
 refine⟨eL T,rfl,hz,λ_ R H1 c4 s1 e=>?_,λg=>by rw[KH h1 t hT]at g;cases g⟩
 rw[pR h1 hT]at e;replace e:W_ H1 R T:=e
 left;refine⟨a,bk,b,rfl,b5.keep s1,b6,b1,λrm H2 c5 s2 J=>?_⟩;left;refine⟨rm,R,b,T,rfl,J,hL,s2 _ _ e,t,a9,λtb H3 c2 s3 e3=>?_⟩;have y:=rF b T T.length
 generalize jW b T T.length=u at e3 y hq;have o:=s1.trans (s2.trans s3)
 have a6:=s3 _ _ (s2 _ _ e)
 have I:=J.keep s3
 have S:=b4.keep o
 clear b5 s2 c5 J e c4 c2;left;refine cA (aO e3) (v:=tV (u.getD 0 none)) (by rw[show (0:Int)=((0:Nat):Int) from rfl];exact Ux (by ((try clear b6 hz);omega))) ?_
 rcases hq with⟨km,em,d2,d1,qe⟩|⟨ka,D,q⟩
 .rw[em];left;refine⟨rm,R,b,T,rfl,I,hL,a6,t,km,d2,d1,λH4 Z=>?_⟩;left;refine⟨x0,λea d3=>⟨ea,_,rfl,aG,λdx M=>⟨rfl,some dx,(jM M).1,?_⟩⟩⟩
  exact qe dx _ (mU (o.trans Z) d3 M) (jM M).2
 .obtain ⟨m,em⟩:∃ m,u.getD 0 none=some m:=by
   generalize b9:(0:Nat)=i0 at D;cases D with
   |nil=>((try clear b6 hz);omega)
   |cons _ h2 _ _=>exact⟨_,h2⟩
  rw[em];left;rw[show decide (tV (some m)=V.non)=false from An λz=>nomatch z]
  left;refine⟨by decide,λd C=>?_⟩
  have Z:=aE C (.lst [])
  have e4:(upd H3 d (.lst [])) d=some (.lst ((([]:List Nat)).map λk=>V.int ((k:Nat):Int))):=aG
  generalize upd H3 d (.lst [])=H4 at Z e4 ⊢;have c1:((T.map bS).map V.str).length=T.length:=by rw[Ac,Ac]
  have a7:=none_of o C
  left;refine⟨λm U B=>∃(i:Nat) (c j:List Nat) (O:Option V),U=[some (.ref a),some (.str (eL T)),some (.ref R),some (.ref rm),some (.ref tb),some (.ref d),some (.int (i:Int)),O]/\m+i=T.length/\ZT Pt H3 B/\eZ Pt B/\B d=some (.lst (c.map λk=>V.int ((k:Nat):Int)))/\c++j=ka/\Zh b T u i j/\c.length<=i,
   ⟨T.length,0,[],ka,_,rfl,rfl,Same.p Z,S.keep Z,e4,rfl,D,Ai _⟩,?_⟩
  rintro m0 U H5 ⟨i,c,j,O,rfl,hi,Y,l5,e5,L,hp,d7⟩;have a5:=Yb Y S a6 (λ_=>nofun)
  have c8:=Mv I Y S
  have d4:=Yb Y S e3 λ_=>nofun
  have d5:=aO a5
  left;rw[c1];refine iA (λhg=>?_) (λhg=>?_)
  .have b3:i<T.length:=by have:=Aw hg;((try clear b6 d7 h1 hz t);omega)
   refine⟨λU' B=>∃x c j O,i<x/\x<=T.length/\U'=[some (.ref a),some (.str (eL T)),some (.ref R),some (.ref rm),some (.ref tb),some (.ref d),some (.int (x:Int)),O]/\ZT Pt H3 B/\eZ Pt B/\B d=some (.lst (c.map λk=>V.int ((k:Nat):Int)))/\c++j=ka/\Zh b T u x j/\c.length<=x,λU' B ⟨x,c,j,O,a1,a2,a3,a4⟩=>⟨T.length-x,by ((try clear a4 b3 b6 d7 h1 hz t);omega),x,c,j,O,a3,by ((try clear a1 a4 b3 b6 d7 h1 hz t);omega),a4⟩,?_⟩
   obtain⟨k,n,r,rfl,ev,ho,c6⟩:∃k n r,j=k::r/\u.getD i none=some n/\V3 b T u i=[k]/\Zh b T u (i+cU b k) r:=by
    cases hp with
    |nil=>exact absurd b3 (Dk _)
    |cons h1 h2 h3 h4=>exact⟨_,_,_,rfl,h2,h3,h4⟩
   have c3:k∈dR b T i:=by
    have hm:k∈V3 b T u i:=by rw[ho];exact Ak.mpr rfl
    unfold V3 at hm;rw[ev]at hm;exact(Gy.mp hm).1
   left;refine⟨rm,R,tb,b,T,u,i,n,rfl,c8,hL,a5,t,d4,y,b3,ev,l5,k,ho,λH6 W l6=>?_⟩;have X:=Y.trans W
   have e6:=Yb W l5 e5 λ_=>nofun
   have d8:=bO e6
   obtain⟨ps,p1,p2,p3⟩:=id I;obtain⟨hk,hS⟩:=mF c3;have c9:=wZ hS (by (exact Nat.le_of_lt (by assumption)))
   have e1:=(Lp hL hk).1
   have d9:(c.map λk=>V.int ((k:Nat):Int)).length<=40:=by rw[Ac];((try clear b3 b6 hk hz p2);omega)
   have a8:ps[k]?=some (ps[k]'(by ((try clear b3 b6 c1 c9 d7 d9 e1 h1 hi hz t y);omega))):=Aa _
   obtain⟨ms,b2⟩:∃ms,b[k]?=some ms:=⟨_,Aa hk⟩;have c7:((ms.map bS).map V.str).length=cU b k:=by unfold cU;rw[nS b2,Ac,Ac]
   left;have l:ZT Pt H3 (upd H6 d (.lst ((c.map λk=>V.int ((k:Nat):Int))++[V.int (k:Int)]))):=IG C X
   have l7:eZ Pt (upd H6 d (.lst ((c.map λk=>V.int ((k:Nat):Int))++[V.int (k:Int)]))):=NJ l6 e6
   have e7:(upd H6 d (.lst ((c.map λk=>V.int ((k:Nat):Int))++[V.int (k:Int)]))) d=some (.lst ((c++[k]).map λk=>V.int ((k:Nat):Int))):=by rw[aG,Ar];rfl
   generalize upd H6 d (.lst ((c.map λk=>V.int ((k:Nat):Int))++[V.int (k:Int)]))=H7 at l l7 e7 ⊢;have b7:=Pp l S (aO p1)
   have d6:=Pp l S (aO (p3 k _ ms a8 b2))
   refine cA b7 (v:=.ref (ps[k]'(by ((try clear b3 b6 c1 c7 c9 d7 d9 e1 h1 hi hz t y);omega)))) (aX (by rw[Ae,a8];rfl)) ?_
   left;rw[c7];exact⟨i+cU b k,c++[k],r,_,by ((try clear b3 b6 c1 c9 d7 d9 h1 hi hk hz p2 t y);omega),c9,rfl,l,l7,e7,by rw[Cw];exact L,c6,by rw[Aj];show _+1<=_;((try clear b3 b6 c1 c9 d9 h1 hi hk hz p2 t y);omega)⟩
  .left;obtain rfl:i=T.length:=by rw[Bh]at hg;((try clear b6 d7 h1 hz t);omega)
   obtain rfl:j=[]:=by
    generalize b9:T.length=i0 at hp;cases hp with
    |nil=>rfl
    |cons h1 _ _ _=>((try clear b6 d7 hi hz t);omega)
   rw[Bt]at L;exact q d H5 a7 ((Same.p o).trans Y) l5 (by rw[<-L];exact e5)
def iS(c:Addr):Sp:=λd H Q _=>∃a v,d=[.ref a,v]/\H a=some (iY a c none)/\∀b,H b=none->Q .non (upd (upd H a (iY a c (some b))) b (YL b [("at",v)]))
def wA:Z_ ["self", "at"] ["self", "at"] (aJ jU):=by fail "sc"
def wK(F:ZQ K "__init__" "NoWord.__init__" jU f fd):Z9 P w K mg base ZO 1 f fd ["self", "at"] (iS Zu):=by
 refine F.ok wA (λd H Q E h=>?_) (λe A a s H d Q E g h=>?_)
 .obtain⟨b,v,rfl,_⟩:=h;rfl
 obtain⟨b,v,rfl,c,q⟩:=h;refine⟨_,(@aH _ _ _ _ _ (cR (vN rfl G.c_TowerError G.t1_TowerError G.t2_TowerError G.t3_TowerError (aA (mv 0) (aA (mv 1) aD)))) (@aI _ _ _ (SK (mv 0) (mv 1) rfl))),?_⟩;refine⟨b,[v],Zu,Zz,none,rfl,x0,c,(λ_ z=>nomatch z),G.Ym,?_⟩
 exact⟨b,Zu,Zz,rfl,G.Ym,G.xn_NoWord_at,.inl ⟨c,q⟩⟩
def xG:Sp:=λa H Q _=>∃c,a=[.str (one c)]/\bW c/\Q (.int ((c-97:Nat):Int)) H
def kO:Sp:=λb H Q _=>∃z,b=[.str z]/\z.length<=1000/\∀a,Same H a->Q (.bl (fM z)) a
def jV:Sp:=λc H Q _=>∃b,(c=[.str (bS b)]\/∃a,c=[.ref a]/\Z6 H a=some ((b.map one).map V.str))/\b.length<=1000/\(∀d∈b,bW d)/\∀e,Same H e->Q (.bl (jQ b)) e
noncomputable def V0(z:Str):Bool:=fM z&&Om z.cps.toList
def oU:Sp:=λb H Q _=>∃z,b=[.str z]/\z.length<=1000/\∀a,Same H a->Q (.bl (V0 z)) a
def Hy(h:fM z=true):z.length<=7/\∀d∈z.cps.toList,bW d:=by
 unfold fM at h;split at h
 .cases h
 .rename_i b
  exact⟨by omega,λd a=>ZJ.mp (Aw (Bv.mp h d a))⟩
def LI:Z_ ["letter"] ["letter"] (aJ rS):=by fail "sc"
def Ex(F:ZQ K "rank_of" "rank_of" rS f fd):Z9 P w K mg base ZO 1 f fd ["letter"] xG:=by
 refine F.ok LI (λb H Q E h=>?_) (λe A a s H b Q E g h=>?_)
 .obtain⟨c,rfl,_⟩:=h;rfl
 obtain⟨c,rfl,d,q⟩:=h;refine⟨_,(@aI _ _ _ (aV (cC Bo PySem.F.slot_str_index PySem.F.type_str_index Jl (dA rfl G.s_LETTERS) (aA (mv 0) aD)))),?_⟩;left;exact JN (Jy d) q
def GB:Z_ ["text"] ["text"] (aJ rW):=by fail "sc"
def K4(F:ZQ K "is_word" "is_word" rW f fd):Z9 P w K mg base ZO 1 f fd ["text"] kO:=by
 refine F.ok GB (λj H Q E h=>?_) (λp A a s H j Q E u h=>?_)
 .obtain⟨z,rfl,_⟩:=h;rfl
 obtain⟨z,rfl,v,q⟩:=h;refine⟨_,(@aH _ _ _ _ _ (bP (PW.pt (jY (bD wU (aP cK rfl G.b_len bR (aA (mv 0) aD)) aM (aZ _)) (gR (bD uM (aP cK rfl G.b_len bR (aA (mv 0) aD)) (eK rfl G.s_MOST_PLACES) (aZ _))))) (@aI _ _ _ (aV lV)) bE) (@aI _ _ _ (aV (aP (vT rfl) rfl G.b_all pQ (aA (cD rfl (lG (mv 0)) (dZ (N:=["sign"]) (by right) (by right)) (by right) rfl (by right) (λ_ _ _ _=>(bB (i:=0) (show List.Nodup (["sign"]:List Str) by right) rfl (Or.inl rfl))) (λ_ _ _ _=>cI) (λ_ _ _ _=>(cZ VV (mv 0) (dA rfl G.s_LETTERS) (by rfl)))) aD))))),?_⟩
 left;refine iA (λg=>?_) (λg=>?_)
 .left;have e:fM z=false:=if_pos (.inl (by have:=Aw g;omega))
  have r:=q H (Same.refl H)
  rwa[e]at r
 .have d:=Bs (Bm.mpr g)
  left;refine iA (λb=>?_) (λb=>?_)
  .left;have e:fM z=false:=if_pos (.inr (by have:=Aw b;omega))
   have r:=q H (Same.refl H)
   rwa[e]at r
  .have l:=Bs (Bm.mpr b)
   left;refine T7 (λc=>some (.bl (decide (c∈Z7.cps.toList)))) (bM (by (exact Nat.le_trans (by assumption) (by decide)))) (λi c t A B d n=>?_) (λD m=>?_)
   .left;refine⟨Wk.set rfl (Wk.refl _),?_⟩;left;have e:subIn ⟨#[c]⟩ Z7=decide (c∈Z7.cps.toList):=kF _ _
    show A (.bl (subIn ⟨#[c]⟩ Z7)) t
    rwa[e]
   .left;have e:z.cps.toList.filterMap (λc=>some (V.bl (decide (c∈Z7.cps.toList))))=(z.cps.toList.map λc=>decide (c∈Z7.cps.toList)).map V.bl:=by
     rw[Ci];exact gL _ _
    rw[e];have k:Same H (upd H D (.lst ((z.cps.toList.map λc=>decide (c∈Z7.cps.toList)).map V.bl))):=aE m _
    refine xP (bs:=z.cps.toList.map λc=>decide (c∈Z7.cps.toList)) bX ?_;have o:fM z=(z.cps.toList.map λc=>decide (c∈Z7.cps.toList)).all id:=by
     unfold fM Qp;rw[if_neg (by omega),Ga]
     rfl
    have r:=q _ k
    rwa[o]at r
noncomputable def VI(cs:List Nat)(i:Nat):Int:=((1+i:Nat):Int)*((cs.getD i 0-97:Nat):Int)
def JB(g:cs.length<=1000)(f:∀d∈cs,bW d):∀n∈(List.range cs.length).map (VI cs),0<=n/\n<=1000000:=λn b=>by
 obtain⟨i,c,rfl⟩:=Bw.mp b;have a:=Cu.mp c
 have e:=O8 f a
 unfold bW at e;unfold VI;have h:_*((cs.getD i 0-97:Nat):Int)<=((1+i:Nat):Int)*22:=Int.mul_le_mul_of_nonneg_left (by ((try clear a g);omega)) (by (exact Int.natCast_nonneg _))
 exact⟨Int.mul_nonneg (by (exact Int.natCast_nonneg _)) (by (exact Int.natCast_nonneg _)),by omega⟩
def m9:Z_ ["letters", "weighed"] ["letters"] (aJ kK):=by fail "sc"
def zE(F:ZQ K "is_divided" "is_divided" kK f fd)(J:ZM P w K mg base 1 "rank_of" ["letter"] xG):Z9 P w K mg base ZO 2 f fd ["letters"] jV:=by
 refine F.ok m9 (λO H Q E h=>?_) (λa1 A u s H O Q E L h=>?_)
 .obtain⟨b,rfl|⟨a,rfl,_⟩,_⟩:=h<;>rfl
 obtain⟨b,U,X,t,q⟩:=h;have o:∀D d,Same H d->Z6 d D=some (((List.range b.length).map (VI b)).map V.int)->∀I,(I (.int (oC b b.length)) d)->Tq [.ref D] d I:=λD d g y I S=>
  C4 y (JB X t) (by rw[Ac,Cj];(exact Nat.le_trans (by assumption) (by decide))) S
 have M:∀G,(∀i,i<b.length->G i=some (V.int (VI b i)))->(List.range b.length).filterMap G=((List.range b.length).map (VI b)).map V.int:=λG Z=>by
  rw[Ci,<-gL];exact kG λi l=>Z i (Cu.mp l)
 rcases U with rfl|⟨a,rfl,Y⟩
 .refine⟨_,(@aH _ _ _ _ _ (dW (i:=1) m9.nd rfl (Or.inl rfl) rfl (RP rfl G.b_enumerate (aA (mv 0) aD) (vD aM UO)) (dZ (N:=["place", "letter"]) (by right) (by right)) (by right) rfl (by right) (λ_ _ _ _=>(jF (K:=K) (i:=0) (j:=1) (by rfl) (by rfl) (show List.Nodup (["place", "letter"]:List Str) by right) (by rfl) (by exact Or.inl rfl) (by exact Or.inr rfl) (by rfl) (Or.inl rfl) (Or.inr rfl))) (λ_ _ _ _=>cI) (λ_ _ _ _=>(cH Pw (mv 0) (bF J L (by decide) rfl (aA (mv 1) aD))))) (@aI _ _ _ (aV (cZ fW (cH Vv (aP (RY rfl) rfl G.b_sum NR (aA (mv 1) aD)) (aP cK rfl G.b_len bR (aA (dA rfl G.s_LETTERS) aD))) aM (aZ _))))),?_⟩
  left;refine⟨⟨by (exact Int.natCast_nonneg _),by (exact Int.natCast_nonneg _)⟩,Nw t,?_⟩
  refine Jr (k:=1) (λi c=>some (V.int (((1+i:Nat):Int)*((c-97:Nat):Int)))) (by rw[dI];exact bM (by (exact Nat.le_trans (by assumption) (by decide)))) (λi c Hc p A B v R W C=>?_) (λD d y g m=>?_)
  .have l:=(Ag.mp v).1
   rw[cS]at l;left;refine⟨Wk.set rfl (Wk.set rfl (Wk.refl _)),?_⟩;left;refine⟨c,rfl,t c (by rw[cS]at v;exact As v),?_⟩
   left;exact C _ (Same.refl _)
  .rw[dI,cS]at m;rw[M (λi=>some (V.int (((1+i:Nat):Int)*((b.getD i 0-97:Nat):Int)))) (λi _=>rfl)]at m;left;refine o D d g m _ ?_;left;have r:=q d g
   exact r
 .refine⟨_,(@aH _ _ _ _ _ (dW (i:=1) m9.nd rfl (Or.inl rfl) rfl (RP rfl G.b_enumerate (aA (mv 0) aD) (vD aM UO)) (dZ (N:=["place", "letter"]) (by right) (by right)) (by right) rfl (by right) (λ_ _ _ _=>(jF (K:=K) (i:=0) (j:=1) (by rfl) (by rfl) (show List.Nodup (["place", "letter"]:List Str) by right) (by rfl) (Or.inl rfl) (Or.inr rfl) (by rfl) (Or.inl rfl) (Or.inr rfl))) (λ_ _ _ _=>cI) (λ_ _ _ _=>(cH Pw (mv 0) (bF J L (by decide) rfl (aA (mv 1) aD))))) (@aI _ _ _ (aV (cZ fW (cH Vv (aP (RY rfl) rfl G.b_sum NR (aA (mv 1) aD)) (aP cK rfl G.b_len bR (aA (dA rfl G.s_LETTERS) aD))) aM (aZ _))))),?_⟩
  left;refine⟨⟨by (exact Int.natCast_nonneg _),by (exact Int.natCast_nonneg _)⟩,?_⟩
  left;refine R_ (k:=1) (xs:=(b.map one).map V.str) (λi x=>match x with|.str z=>some (V.int (((1+i:Nat):Int)*((mL z-97:Nat):Int)))|_=>none) Y (by rw[Ac,Ac];exact bM (by (exact Nat.le_trans (by assumption) (by decide)))) (λi x Hc p A B T R W C=>?_) (λD d y g m=>?_)
  .obtain⟨z,n,rfl⟩:=iD T;rw[Ae]at n;cases e:b[i]? with
   |none=>rw[e]at n;cases n
   |some c=>
    have l:=(Ag.mp e).1
    rw[e]at n;cases n;left;refine⟨Wk.set rfl (Wk.set rfl (Wk.refl _)),?_⟩;left;refine⟨c,rfl,t c (As e),?_⟩;left;exact C _ (Same.refl _)
  .rw[Ac,Ac,M _ (λi l=>?_)]at m
   .left;refine o D d g m _ ?_;left;have r:=q d g
    exact r
   .have e:((b.map one).map V.str).getD i .non=.str (one (b.getD i 0)):=by
     rw[Ah,Ae,Ae,Ah,Aa l];rfl
    rw[e];rfl
def yR:Z_ ["word"] ["word"] (aJ lK):=by fail "sc"
def yT(F:ZQ K "is_checked" "is_checked" lK f fd)(l:ZM P w K mg base 1 "is_word" ["text"] kO)(m:ZM P w K mg base 2 "is_divided" ["letters"] jV):Z9 P w K mg base ZO 3 f fd ["word"] oU:=by
 refine F.ok yR (λn H Q E h=>?_) (λu A d s H n Q E k h=>?_)
 .obtain⟨z,rfl,_⟩:=h;rfl
 obtain⟨z,rfl,r,q⟩:=h;refine⟨_,(@aI _ _ _ (aV (pO (bF l k (by decide) rfl (aA (mv 0) aD)) (pO (cZ uM (aP cK rfl G.b_len bR (aA (mv 0) aD)) aM (aZ _)) (sB (bF m k (by decide) rfl (aA (mv 0) aD))))))),?_⟩
 left;refine⟨z,rfl,r,λj o=>?_⟩;have a:=λb c=>q b (o.trans c)
 unfold V0 at a;cases e:fM z with
 |false=>
  rw[e]at a;left;exact a j (Same.refl _)
 |true=>
  rw[e,Ei]at a;obtain⟨v,t⟩:=Hy e;have p:=iH z
  left;unfold Om at a;refine iA (λi=>?_) (λi=>?_)
  .have g:=Aw i
   rw[Ao (by omega),Ei]at a
   left;exact⟨z.cps.toList,.inl rfl,by (assumption),t,λb c=>a b c⟩
  .have g:=Bs (Bm.mpr i)
   rw[An (by omega),Ez]at a
   exact a j (Same.refl _)
noncomputable def nZ(cs:List Nat)(k:Nat):List V:=((cs.map one).map V.str).set k .non
def F_(a:k<cs.length):(nZ cs k).take k=((cs.take k).map one).map V.str:=by
 unfold nZ;rw[List.take_set_of_le (Ai _),<-Fo,<-Fo]
def Jf:(nZ cs k).drop (k+1)=((cs.drop (k+1)).map one).map V.str:=by
 unfold nZ;rw[List.drop_set_of_lt (by omega),<-Gd,<-Gd]
def Md:(nZ cs k).all cQ=true:=by
 rw[Bv];intro x a;rcases Gr a with h|h
 .obtain⟨z,_,rfl⟩:=Bw.mp h;rfl
 .rw[h];rfl
def Lo(a:k<cs.length):(nZ cs k)[k]?=some .non:=by
 unfold nZ;simp_all
def MI:∀i y,i<k->(nZ cs k)[i]?=some y->y≠.non:=λi y b a=>by
 unfold nZ at a;rw[Ek (by (exact Nat.ne_of_gt (by assumption))),Ae]at a
 grind
def Kk(a:k<cs.length):((cs.take k).map one).map V.str++[V.str (one d)]++((cs.drop (k+1)).map one).map V.str=((cs.set k d).map one).map V.str:=by
 rw[List.set_eq_take_append_cons_drop,if_pos a,Ar,Ar,Ax,Ax,Cw];rfl
def set_set:(cs.set k d).set k e=cs.set k e:=List.set_set ..
def NM(g:cs.length<=7)(f:∀d∈cs,bW d){k d c:Nat}(a:k<cs.length)(b:bW d)(h:jQ (cs.set k d)=true)(e:bW c):jQ (cs.set k c)=decide (c=d):=by
 have q:=Nk  (by simp_all) (Qm f b) (k:=k)  (by simp_all) e h
 simp_all
def Iz(g:Nat->β){F:Nat->Bool}(a:bW d)(h:∀c,bW c->F c=decide (c=d)):Z7.cps.toList.filterMap (λc=>if F c=true then some (g c) else none)=[g d]:=by
 have q:∀k:_root_.Fin 23,Z7.cps.toList.filterMap (λc=>if c=97+k.val then some c else none)=[97+k.val]:=by right
 unfold bW at a;have e:=q ⟨d-97,by omega⟩
 simp only[show 97+(d-97)=d by omega]at e
 have f:Z7.cps.toList.filterMap (λc=>if F c=true then some (g c) else none)=(Z7.cps.toList.filterMap (λc=>if c=d then some c else none)).map g:=by
  rw[List.map_filterMap];refine kG λc b=>?_;rw[h c (ZJ.mp b)];by_cases z:c=d
  .rw[if_pos (Ao z),if_pos z];rfl
  .rw[if_neg (by rw[An z];exact Aq),if_neg z];rfl
 rw[f,e];rfl
def jZ:Sp:=λe H Q _=>∃a b k,e=[.ref a]/\Z6 H a=some (nZ b k)/\k<b.length/\b.length<=7/\(∀d∈b,bW d)/\
 ∀d c,Same H c->bW d->jQ (b.set k d)=true->Q (.str (one d)) c
def t8:Z_ ["letters", "at", "ahead", "behind"] ["letters"] (aJ eS):=by fail "sc"
def rZ(F:ZQ K "hidden_letter" "hidden_letter" eS f fd)(wT:ZM P w K mg base 2 "is_divided" ["letters"] jV):Z9 P w K mg base ZO 3 f fd ["letters"] jZ:=by
 refine F.ok t8 (λvs H Q E h=>?_) (λcdv A outer s H vs Q E hr h=>?_)
 .obtain⟨a,cs,k,rfl,_⟩:=h;rfl
 obtain⟨a,cs,k,rfl,ha,hk,h7,hL,q⟩:=h;refine⟨_,(@aH _ _ _ _ _ (aY 1 t8.nd (cC Bq Fu PySem.F.type_list_index GA (mv 0) (aA cO aD))) (@aH _ _ _ _ _ (aY 2 t8.nd (fR WG (mv 0) nV (eQ (mv 1)))) (@aH _ _ _ _ _ (aY 3 t8.nd (fR WG (mv 0) (eQ (cH cL (mv 1) aM)) nV)) (@aI _ _ _ (aV (bH bZ (cD rfl (lG (dA rfl G.s_LETTERS)) (fG (N:=["letter", "behind", "ahead"]) ["letters", "at", "ahead", "behind"] (aJ eS) [none,some 3,some 2] rfl rfl rfl (λx h=>cE h) (by right)) (by right) rfl (by right) (λ_ _ _ _=>(bB (i:=0) (show List.Nodup (["letter", "behind", "ahead"]:List Str) by right) rfl (Or.inl rfl))) (λ_ _ _ _=>(jS (cN (bF wT hr (by decide) rfl (aA (cH cL (cH cL (mv 2) (bI (aA (mv 0) aD))) (mv 1)) aD))))) (λ_ _ _ _=>(mv 0))) aM (λ_ _=>rfl))))))),?_⟩
 left;refine G_ ha Md (Lo hk) MI ?_;left;intro r hr;rw[P5 (by (exact Int.natCast_nonneg _)),show ((k:Nat):Int).toNat=k from rfl,F_ hk]
 have s1:Same H (upd H r (.lst (((cs.take k).map one).map V.str))):=aE hr _
 have m1:iW (upd H r (.lst (((cs.take k).map one).map V.str))) r=some (((cs.take k).map one).map V.str):=cX
 have e1:(upd H r (.lst (((cs.take k).map one).map V.str))) r=some (.lst (((cs.take k).map one).map V.str)):=aG
 generalize upd H r (.lst (((cs.take k).map one).map V.str))=H1 at s1 m1 e1 ⊢;have ha1:=aQ s1 ha
 left;intro r2 hr2;rw[sN (by (exact Int.natCast_nonneg _)),show ((k:Nat)+1:Int).toNat=k+1 by ((try clear h7 hk);omega),Jf]
 have s2:Same H1 (upd H1 r2 (.lst (((cs.drop (k+1)).map one).map V.str))):=aE hr2 _
 have e2:(upd H1 r2 (.lst (((cs.drop (k+1)).map one).map V.str))) r2=some (.lst (((cs.drop (k+1)).map one).map V.str)):=aG
 generalize upd H1 r2 (.lst (((cs.drop (k+1)).map one).map V.str))=H2 at s2 e2 ⊢;have e1':=s2 _ _ e1
 left;obtain⟨d,hd,hdv⟩:=Ko h7 hk;have lt:(((cs.take k).map one).map V.str).length<=7:=by rw[Ac,Ac,Bi];omega
 have ld:(((cs.drop (k+1)).map one).map V.str).length<=7:=by rw[Ac,Ac,Dx];((try clear lt);omega)
 refine OJ (λc=>if jQ (cs.set k c)=true then some (V.str (one c)) else none) (bM (by decide)) (λi c Hc A B hc sm hA=>?_) (λD Hd hD sD hd'=>?_)
 .have hcl:=ZJ.mp (As hc)
  left;refine⟨Wk.set rfl (Wk.refl _),?_⟩;left;refine⟨x0,λp1 hp1=>?_⟩
  have c1:=sm _ _ e1'
  have c2:=sm _ _ e2
  have n1:=bN c1 hp1
  have n2:=bN c2 hp1
  left;refine eV (xs:=((cs.take k).map one).map V.str) (ys:=[V.str (one c)]) (by rw[vF n1];exact bO c1) cX (bJ (by show _+1<=_;(exact Nat.lt_of_le_of_lt (by assumption) (by decide)))) λl hl=>?_
  have c3:(upd (upd Hc p1 (.lst [V.str (one c)])) l (.lst (((cs.take k).map one).map V.str++[V.str (one c)]))) r2=some (.lst (((cs.drop (k+1)).map one).map V.str)):=aE hl _ _ _ (aE hp1 _ _ _ c2)
  left;refine eV (xs:=((cs.take k).map one).map V.str++[V.str (one c)]) (ys:=((cs.drop (k+1)).map one).map V.str) cX (bO c3) (bJ (by rw[Aj];show _+1+_<=_;((try clear h7 hk n1 n2);omega))) λl2 hl2=>?_
  rw[Kk hk];have s5:Same Hc (upd (upd (upd Hc p1 (.lst [V.str (one c)])) l (.lst (((cs.take k).map one).map V.str++[V.str (one c)]))) l2 (.lst (((cs.set k c).map one).map V.str))):=(aE hp1 _).trans ((aE hl _).trans (aE hl2 _))
  have c5:Z6 (upd (upd (upd Hc p1 (.lst [V.str (one c)])) l (.lst (((cs.take k).map one).map V.str++[V.str (one c)]))) l2 (.lst (((cs.set k c).map one).map V.str))) l2=some (((cs.set k c).map one).map V.str):=bX
  generalize upd (upd (upd Hc p1 (.lst [V.str (one c)])) l (.lst (((cs.take k).map one).map V.str++[V.str (one c)]))) l2 (.lst (((cs.set k c).map one).map V.str))=H5 at s5 c5 ⊢;left;refine⟨cs.set k c,.inr ⟨l2,rfl,c5⟩,by rw[Dm];(exact Nat.le_trans (by assumption) (by decide)),Qm hL hcl,λH6 s6=>?_⟩
  have r6:=hA H6 (s5.trans s6)
  left;by_cases hb:jQ (cs.set k c)=true
  .rw[if_pos hb]at r6;rw[if_pos hb];left;exact r6
  .rw[if_neg hb]at r6;rw[if_neg hb];exact r6
 .rw[show (Str.ofString "abcdefghijklmnopqrstuvw").cps.toList.filterMap (λc=>if jQ (cs.set k c)=true then some (V.str (one c)) else none)=[V.str (one d)] from Iz (λc=>V.str (one c)) hd λc hc=>NM h7 hL hk hd hdv hc]at hd'
  left;refine cA (aO hd') (v:=V.str (one d)) rfl ?_;exact q d Hd (s1.trans (s2.trans sD)) hd hdv
def wN{x:Nat}:(cs++[x]).set cs.length d=cs++[d]:=by grind
def MF:(cs.map one).map V.str++[V.non]=nZ (cs++[97]) cs.length:=by
 unfold nZ;simp_all
def OP(e:∀d∈cs,bW d){c:Nat}(b:bW c):∀d∈cs++[c],bW d:=λd a=>by grind
def tY:Sp:=λc H Q _=>∃a,c=[.str (bS a)]/\1<=a.length/\a.length<=6/\(∀d∈a,bW d)/\∀d b,Same H b->bW d->jQ (a++[d])=true->Q (.str (one d)) b
def Li:Z_ ["word"] ["word"] (aJ pG):=by fail "sc"
def FV(F:ZQ K "check_of" "check_of" pG f fd)(t:ZM P w K mg base 3 "hidden_letter" ["letters"] jZ):Z9 P w K mg base ZO 4 f fd ["word"] tY:=by
 refine F.ok Li (λm H Q E h=>?_) (λC A e s H m Q E g h=>?_)
 .obtain⟨a,rfl,_⟩:=h;rfl
 obtain⟨a,rfl,L,J,y,q⟩:=h;refine⟨_,(@aI _ _ _ (aV (bF t g (by decide) rfl (aA (cH cL (cG (J5 rfl) rfl G.b_list lI (aA (mv 0) aD)) (bI (aA cO aD))) aD)))),?_⟩
 have u:=dI a
 left;intro r g;have B:(bS a).cps.toList.map (λc=>V.str ⟨#[c]⟩)=(a.map one).map V.str:=by rw[cS,Ci];rfl
 rw[B];left;refine⟨x0,λp i=>?_⟩
 have o:r≠p:=λz=>by rw[<-z,aG]at i;cases i
 refine eV (xs:=(a.map one).map V.str) (ys:=[V.non]) (by rw[vF o];exact cX) cX (bJ (by rw[Ac,Ac];show _+1<=_;(exact Nat.lt_of_le_of_lt (by assumption) (by decide)))) λl v=>?_
 rw[MF];have j:Same H (upd (upd (upd H r (.lst ((a.map one).map V.str))) p (.lst [V.non])) l (.lst (nZ (a++[97]) a.length))):=(aE g _).trans ((aE i _).trans (aE v _))
 have k:Z6 (upd (upd (upd H r (.lst ((a.map one).map V.str))) p (.lst [V.non])) l (.lst (nZ (a++[97]) a.length))) l=some (nZ (a++[97]) a.length):=bX
 generalize upd (upd (upd H r (.lst ((a.map one).map V.str))) p (.lst [V.non])) l (.lst (nZ (a++[97]) a.length))=M at j k ⊢;left;have I:(a++[97]).length=a.length+1:=by rw[Aj];rfl
 refine⟨l,a++[97],a.length,rfl,k,by ((try clear J L o);omega),by ((try clear o);omega),OP y (by decide),λd D n x b=>?_⟩
 rw[wN]at b;exact q d D (j.trans n) x b
def Iw(g:cs.length<=6)(e:∀d∈cs,bW d){c:Nat}(a:bW d)(h:jQ (cs++[d])=true)(b:bW c):jQ (cs++[c])=decide (c=d):=by
 have f:(cs++[97]).length=cs.length+1:=by rw[Aj];rfl
 have q:=NM (cs:=cs++[97]) (by omega) (OP e (by decide)) (k:=cs.length)   (by ((try clear g);omega)) a (by rwa[wN]) b
 rwa[wN]at q
noncomputable def W4(cs:List Nat):Nat:=(Z7.cps.toList.find? λd=>jQ (cs++[d])).getD 0
def PU(j:cs.length<=6)(i:∀d∈cs,bW d){d:Nat}(b:bW d)(h:jQ (cs++[d])=true):W4 cs=d:=by
 unfold W4;cases e:Z7.cps.toList.find? λd=>jQ _ with
 |none=>exact absurd h (by have:=List.find?_eq_none.mp e d (ZJ.mpr b);exact this)
 |some c=>
  have f:=ZJ.mp (List.mem_of_find?_eq_some e)
  have r:=Iw j i b h f
  grind
def gM:Sp:=λc H Q _=>∃a,c=[.str (bS a)]/\1<=a.length/\a.length<=6/\(∀d∈a,bW d)/\∀b,Same H b->bW (W4 a)->jQ (a++[W4 a])=true->Q (.str (bS (a++[W4 a]))) b
def zD:Z_ ["word"] ["word"] (aJ kP):=by fail "sc"
def yS(F:ZQ K "with_check" "with_check" kP f fd)(G:Gs K mg w Zo Zz Zr Zx Z0 Zt Zy Zu Zw Zv Zq Zs Zp Z1)(m:ZM P w K mg base 4 "check_of" ["word"] tY):Z9 P w K mg base ZO 5 f fd ["word"] gM:=by
 refine F.ok zD (λk H Q E h=>?_) (λu A c s H k Q E o h=>?_)
 .obtain⟨b,rfl,_⟩:=h;rfl
 obtain⟨b,rfl,t,j,i,q⟩:=h;refine⟨_,(@aI _ _ _ (aV (cH cL (mv 0) (bF m o (by decide) rfl (aA (mv 0) aD))))),?_⟩
 have n:=dI b
 left;refine⟨b,rfl,t,j,i,λd v l g a=>?_⟩;have e:=PU j i g a
 left;have r:=q v l
 rw[e]at r;rw[sG];exact r g a
noncomputable def ZX:List Nat:=[97,98,104]
def oJ:Sp:=λc H Q _=>∃(a:List Nat) (k:Nat) (p:Int),c=[.str (bS a),.int p]/\p=(k:Int)+1/\k<a.length/\a.length<=7/\
 ∀r b,H r=none->Same H b->b r=some (.lst (((Od a k).map one).map V.str))->Q (.ref r) b
def KQ(G:Nat->Option β)(k:Nat):[0,1,2,3].filterMap (λn=>if n<k then G n else none)=(List.range (min k 4)).filterMap G:=by
 match k with
 |0=>rfl
 |1=>rfl
 |2=>rfl
 |3=>rfl
 |k+4=>
  rw[Eh (by omega)]
  exact kG λn a=>if_pos (by grind)
noncomputable def U3(a:List Nat)(k:Nat)(c:Nat):Option V:=if c-49<k then (if a.getD (c-49) 0=a.getD k 0 then some (.str (one c)) else none) else none
def Ic(cw:List Nat)(k:Nat):YF.cps.toList.filterMap (U3 cw k)=(((List.range (min k 4)).filterMap (U7 cw k)).map one).map V.str:=by
 rw[BB,show [49,50,51,52]=[0,1,2,3].map (49+·) from rfl,Fz,Ci,List.map_filterMap,<-KQ];refine kG λn _=>?_
 unfold U3 U7;grind
def j0:Z_ ["word", "place", "letter", "above"] ["word", "place"] (aJ hX):=by fail "sc"
def zH(F:ZQ K "choices_at" "choices_at" hX f fd):Z9 P w K mg base ZO 1 f fd ["word", "place"] oJ:=by
 refine F.ok j0 (λM H Q E h=>?_) (λT A n s H M Q E g h=>?_)
 .obtain⟨a,k,p,rfl,_⟩:=h;rfl
 obtain⟨a,k,U,rfl,O,R,W,q⟩:=h;refine⟨_,(@aH _ _ _ _ _ (aY 2 j0.nd (bH bZ (mv 0) (cH tQ (mv 1) aM) (λ_ _=>rfl))) (@aH _ _ _ _ _ (dW (i:=3) j0.nd rfl (Or.inl rfl) rfl (lG (dA rfl G.s_SUBSTITUTES)) (fG (N:=["sign", "place", "letter", "word"]) ["word", "place", "letter", "above"] (aJ hX) [none,some 1,some 2,some 0] rfl rfl rfl (λx h=>cE h) (by right)) (by right) rfl (by right) (λ_ _ _ _=>(bB (i:=0) (show List.Nodup (["sign", "place", "letter", "word"]:List Str) by right) rfl (Or.inl rfl))) (λ_ _ _ _=>(jS (PW.pt (Sa (bD wU (cG VP rfl G.b_int sK (aA (mv 0) aD)) (mv 1) (aZ _)) (Tr (bD fW (bH bZ (mv 3) (cH tQ (cG VP rfl G.b_int sK (aA (mv 0) aD)) aM) (λ_ _=>rfl)) (mv 2) (aZ _))))))) (λ_ _ _ _=>(mv 0))) (@aI _ _ _ (aV (cH cL (bI (aA (mv 2) aD)) (mv 3)))))),?_⟩
 have e:=dI a
 left;refine Sf (by rw[e];exact bJ (by (exact Nat.le_trans (by assumption) (by decide)))) (OO (k:=k) (by ((try clear R W e);omega)) R) ?_
 left;refine T7 (U3 a k) (bM (by decide)) (λi c X A B C b=>?_) (λD L=>?_)
 .have o:=YC.mp (As C)
  have S:=o.1
  left;refine⟨Wk.set rfl (Wk.refl _),?_⟩;left;refine sU (vA o) (by show 1<=640;decide) ?_
  left;unfold U3 at b;refine iA (λy=>?_) (λy=>?_)
  .have v:=Aw y
   have d:c-49<k:=by ((try clear R W e);omega)
   rw[if_pos d]at b;left;refine sU (vA o) (by show 1<=640;decide) ?_
   left;refine Sf (by rw[e];exact bJ (by (exact Nat.le_trans (by assumption) (by decide)))) (OO (k:=c-49) (by ((try clear O R W d e v);omega)) (by ((try clear O S W v);omega))) ?_
   left;rw[show decide (({cps:=#[a.getD (c-49) 0]}:Str)={cps:=#[a.getD k 0]})=decide (a.getD (c-49) 0=a.getD k 0) from To _ _];by_cases m:a.getD (c-49) 0=a.getD k 0
   .rw[Ao m];rw[if_pos m]at b;left;exact b
   .rw[An m];rw[if_neg m]at b;left;exact b
  .have v:=Bs (Bm.mpr y)
   have d:¬c-49<k:=by ((try clear R W e);omega)
   rw[if_neg d]at b;left;exact b
 .rw[show (Str.ofString "1234").cps.toList.filterMap (U3 a k)=_ from Ic a k];left;refine⟨x0,λp j=>?_⟩
  have l:D≠p:=λz=>by rw[z,aG]at j;cases j
  have u:H p=none:=by rw[aK (Ne.symm l)]at j;exact j
  have J:((((List.range (min k 4)).filterMap (U7 a k)).map one).map V.str).length<=4:=by grind
  left;refine eV (xs:=[V.str (one (a.getD k 0))]) (ys:=(((List.range (min k 4)).filterMap (U7 a k)).map one).map V.str) cX (by rw[vF l];exact cX) (bJ (by show 1+_<=_;((try clear O R W e l);omega))) λr g=>?_
  have t:H r=none:=by
   by_cases z:r=p
   .rw[z];exact u
   .rw[aK z]at g;by_cases I:r=D
    .rwa[I]
    .rwa[aK I]at g
  left;exact q r _ t ((aE L _).trans ((aE j _).trans (aE g _))) aG
noncomputable def Wy(a:List (List Nat))(k:Nat):List (List V):=(List.range (a.getD k []).length).map λj:Nat=>[V.int (k:Int),V.int (1+(j:Int))]
noncomputable def pC(a:List (List Nat))(i:Nat):List (List V):=((List.range i).map (Wy a)).flatten
def mM(a:Q7)(i:Nat):pC a (i+1)=pC a i++Wy a i:=by
 unfold pC;rw[Cp,Ar,List.flatten_append];simp
def B3(a:∀c∈cws,c.length<=7):(Wy cws k).length<=7:=by
 unfold Wy;rw[Ac,Cj,Ah];cases e:cws[k]? with
 |none=>exact Do _
 |some c=>exact a c (As e)
def oX(a:∀c∈cws,c.length<=7):∀i,(pC cws i).length<=7*i
 |0=>Ai _
 |i+1=>by
  rw[mM,Aj];have:=oX a i
  have:=B3 (k:=i) a
  omega
def RH{x:V}(h:((cws.map bS).map V.str)[i]?=some x):∃c,cws[i]?=some c/\c∈cws/\x=.str (bS c):=by
 rw[Ae,Ae]at h;cases e:cws[i]? with
 |none=>rw[e]at h;cases h
 |some c=>rw[e]at h;cases h;exact⟨c,rfl,As e,rfl⟩
def tH:Sp:=λf H Q _=>∃a b,f=[.ref a]/\Z6 H a=some ((b.map bS).map V.str)/\b.length<=8/\(∀c∈b,c.length<=7)/\
 ∀r e d,H r=none->Same H d->d r=some (.lst (e.map V.ref))->ZE H d e (pC b b.length)->Q (.ref r) d
def j1:Z_ ["words", "wants", "number", "word"] ["words"] (aJ kX):=by fail "sc"
def A3(F:ZQ K "wants_of" "wants_of" kX f fd):Z9 P w K mg base ZO 1 f fd ["words"] tH:=by
 refine F.ok j1 (λX H Q E h=>?_) (λa6 A C s H X Q E hr h=>?_)
 .obtain⟨a,b,rfl,_⟩:=h;rfl
 obtain⟨a,b,rfl,T,h8,W,q⟩:=h;refine⟨_,(@aH _ _ _ _ _ (aY 1 j1.nd (bI aD)) (@aH _ _ _ _ _ (dY Bp rfl (QV rfl G.b_enumerate (aA (mv 0) aD)) (jF (K:=K) (i:=2) (j:=3) (by rfl) (by rfl) j1.nd (by rfl) (by exact(Or.inr rfl)) (Or.inl rfl) (by rfl) (by exact(Or.inl rfl)) (Or.inl rfl)) (@aI _ _ _ (cR (cC Bq Fm Fn UJ (mv 1) (aA (cD rfl (Oc rfl G.b_range (aA aM (aA (cH cL (aP cK rfl G.b_len bR (aA (mv 3) aD)) aM) aD))) (fG (N:=["place", "number"]) ["words", "wants", "number", "word"] (aJ kX) [none,some 2] rfl rfl rfl (λx h=>cE h) (by right)) (by right) rfl (by right) (λ_ _ _ _=>(bB (i:=0) (show List.Nodup (["place", "number"]:List Str) by right) rfl (Or.inl rfl))) (λ_ _ _ _=>cI) (λ_ _ _ _=>(gA (aA (mv 1) (aA (mv 0) aD))))) aD))))) (@aI _ _ _ (aV (mv 1))))),?_⟩
 left;refine⟨by decide,λp o=>?_⟩
 have a4:=aQ (aE o (HO.lst [])) T
 left;refine HF (xs:=(b.map bS).map V.str) (λi U r=>∃(d:List Addr) (u t:Option V),U=[some (.ref a),some (.ref p),u,t]/\Same H r/\r p=some (.lst (d.map V.ref))/\ZE H r d (pC b i))
  ⟨[],_,_,rfl,aE o _,aG,.nil⟩ (λj U r _ ⟨_,_,_,_,e,_⟩=>aQ e T) ?_ ?_
 .rintro i x U O Z S ⟨d,u,t,rfl,z,M,l⟩ g;have hi:i<b.length:=by have:=(Ag.mp S).1;rwa[Ac,Ac]at this
  obtain⟨c,L,hm,rfl⟩:=RH S;have a3:=W c hm
  have I:=dI c
  left;rw[I];refine⟨⟨by omega,by omega,by omega,by omega⟩,?_⟩
  rw[show ((c.length:Int)+1-1).toNat=c.length by ((try clear h8 hi);omega)]
  have y:=z.trans (aE g (HO.tup [V.int ((0+i:Nat):Int),V.str (bS c)]))
  have n:=aE g (HO.tup [V.int ((0+i:Nat):Int),V.str (bS c)]) _ _ M
  have k:=l.keep (aE g (HO.tup [V.int ((0+i:Nat):Int),V.str (bS c)]))
  generalize upd O Z (HO.tup [V.int ((0+i:Nat):Int),V.str (bS c)])=H3 at y n k ⊢;refine EU (λj=>[V.int ((0+i:Nat):Int),V.int (1+(j:Int))]) (bM (by omega)) (λj Hc A B hj hs hA=>?_) (λD Hd Y hD v a5 a1 R=>?_)
  .left;refine⟨Wk.set rfl (Wk.refl _),?_⟩;left;exact⟨r0,λpp m=>hA pp _ m (aE m _) aG⟩
  .have J:=v _ _ n
   have a2:d.length<=7*i:=by rw[l.1];exact oX W i
   have e:(List.range c.length).map (λj:Nat=>[V.int ((0+i:Nat):Int),V.int (1+(j:Int))])=Wy b i:=by
    unfold Wy;rw[Ah,L,Nat.zero_add];rfl
   rw[e]at R;left;refine⟨d++Y,_,_,rfl,bQ o (y.trans v),by rw[aG,Ar],?_⟩
   rw[mM];exact((k.keep v).app (R.Vd y)).put J
 .rintro U O ⟨d,u,t,rfl,z,M,l⟩;rw[show ((b.map bS).map V.str).length=b.length by rw[Ac,Ac]]at l
  exact q p d O o z M l
noncomputable def xC(a:List (List Nat))(i:Nat):Nat:=((a.take i).map List.length).sum
noncomputable def qT(a:List (List Nat))(cs:List Nat)(i:Nat):List V:=(((cs.drop (xC a i)).take (a.getD i []).length).map one).map V.str
def Nh(h:cws[i]?=some cw):xC cws (i+1)=xC cws i+cw.length:=by
 unfold xC;rw[Bf,h,Ar,List.sum_append];simp
def HR(c:i<=j):lU xs (some (i:Int)) (some (j:Int))=(xs.drop i).take (j-i):=by
 show (xs.drop (if (i:Int)<0 then ((i:Int)+(xs.length:Int)).toNat else min (i:Int).toNat xs.length)).take ((if (j:Int)<0 then ((j:Int)+(xs.length:Int)).toNat else min (j:Int).toNat xs.length)-(if (i:Int)<0 then ((i:Int)+(xs.length:Int)).toNat else min (i:Int).toNat xs.length))=_
 rw[if_neg (by ((try clear c);omega)),if_neg (by ((try clear c);omega)),Ec,Ec]
 by_cases b:i<=xs.length
 .rw[Ep b];by_cases a:j<=xs.length
  .rw[Ep a]
  .rw[Eh (by ((try clear b c);omega)),Bd (by simp_all),Bd (by rw[Dx];omega)]
 .rw[Eh (show xs.length<=i by ((try clear c);omega)),Hn (Ai _),Hn (by ((try clear c);omega)),List.take_nil,List.take_nil]
def rO:Sp:=λh H Q _=>∃a b d g,h=[.ref a,.ref b]/\Z6 H a=some ((d.map bS).map V.str)/\Z6 H b=some ((g.map one).map V.str)/\d.length<=8/\(∀c∈d,c.length<=7)/\
 ∀r f e,H r=none->Same H e->e r=some (.lst (f.map V.ref))->(∀p∈f,p≠r)->Y3 H e f ((List.range d.length).map (qT d g))->Q (.ref r) e
def w6:Z_ ["words", "flags", "hoists", "start", "word", "end"] ["words", "flags"] (aJ nK):=by fail "sc"
def K2(F:ZQ K "hoists_of" "hoists_of" nK f fd):Z9 P w K mg base ZO 1 f fd ["words", "flags"] rO:=by
 refine F.ok w6 (λvs H Q E h=>?_) (λa6 A X s H vs Q E hr h=>?_)
 .obtain⟨a,b,c,d,rfl,_⟩:=h;rfl
 obtain⟨a,b,c,d,rfl,ha,hb,h8,h7,q⟩:=h;refine⟨_,(@aH _ _ _ _ _ (aY 2 w6.nd (bI aD)) (@aH _ _ _ _ _ (aY 3 w6.nd aM) (@aH _ _ _ _ _ (dY Bp rfl (bU (mv 0)) (bB (i:=4) w6.nd rfl (Or.inl rfl)) (@aH _ _ _ _ _ (aY 5 w6.nd (cH cL (mv 3) (aP cK rfl G.b_len bR (aA (mv 4) aD)))) (@aH _ _ _ _ _ (cR (cC Bq Da Dc vU (mv 2) (aA (cG wD rfl G.b_list lI (aA (fR WG (mv 1) (eQ (mv 3)) (eQ (mv 5))) aD)) aD))) (@aI _ _ _ (aY 3 w6.nd (mv 5)))))) (@aI _ _ _ (aV (mv 2)))))),?_⟩;have I:((c.map bS).map V.str).length=c.length:=by rw[Ac,Ac]
 left;refine⟨by decide,λp N=>?_⟩
 have a5:=aQ (aE N (HO.lst [])) ha
 left;refine dU (xs:=(c.map bS).map V.str) (λi U R=>∃k T S,U=[some (.ref a),some (.ref b),some (.ref p),some (.int ((xC c i:Nat):Int)),T,S]/\Same H R/\R p=some (.lst (k.map V.ref))/\(∀x∈k,x≠p)/\k.length=i/\Y3 H R k ((List.range i).map (qT c d)))
  ⟨[],_,_,rfl,aE N _,aG,(λx v=>nomatch v),rfl,.nil⟩ (λj U R _ ⟨_,_,_,_,e,_⟩=>aQ e ha) ?_ ?_
 .rintro i x U u v ⟨k,T,S,rfl,y,O,t,D,L⟩;have hi:i<c.length:=by have:=(Ag.mp v).1;rwa[I]at this
  obtain⟨g,J,hm,rfl⟩:=RH v;have a3:=h7 g hm
  have Y:=dI g
  have a4:=aQ y hb
  left;rw[Y];intro W r;rw[show ((xC c i:Nat):Int)+((g.length:Nat):Int)=((xC c i+g.length:Nat):Int) by push_cast;rfl,HR (by ((try clear D I h8 hi);omega)),show xC c i+g.length-xC c i=g.length by ((try clear D I h8 hi);omega)]
  have l:(((d.map one).map V.str).drop (xC c i)).take g.length=qT c d i:=by
   unfold qT;rw[Ah,J,Fo,Fo,Gd,Gd];rfl
  rw[l];left;intro m o;have Z:m≠p:=λz=>by
   have:=aE r (HO.lst (qT c d i)) _ _ O
   rw[<-z,o]at this;cases this
  have M:Same u (upd (upd u W (HO.lst (qT c d i))) m (HO.lst (qT c d i))):=(aE r _).trans (aE o _)
  have B:(upd (upd u W (HO.lst (qT c d i))) m (HO.lst (qT c d i))) m=some (.lst (qT c d i)):=aG
  have C:=none_of (aE r _) o
  generalize upd (upd u W (HO.lst (qT c d i))) m (HO.lst (qT c d i))=H3 at M B ⊢;have a1:=M _ _ O
  have a2:=bO a1
  left;have n:∀x∈k++[m],x≠p:=λx v=>by
   rcases Ce.mp v with e|e
   .exact t x e
   .rwa[Ak.mp e]
  refine⟨k++[m],some (.str (bS g)),some (.int ((xC c i+g.length:Nat):Int)),?_,bQ N (y.trans M),by rw[aG,Ar];rfl,n,by rw[Aj,D];rfl,?_⟩
  .rw[Nh J];rfl
  .rw[Cp,Ar];exact((L.keep M).snoc (none_of y C) B).put n
 .rintro U u ⟨k,T,S,rfl,y,O,t,D,L⟩;left;rw[I]at L;exact q p k u N y O t L
abbrev Wt:=Nat×Nat
noncomputable def gX(w:Wt):List Key:=[Sum.inl (w.1:Int),Sum.inl (w.2:Int)]
def wL{a b:Wt}(h:gX a=gX b):a=b:=by
 unfold gX at h;grind
noncomputable def xD(a:List (Wt×Nat))(w:Wt):Option Nat:=(a.find? λb=>decide (b.1=w)).map (·.2)
def tE{x:Wt×Nat}{m:List _}{w:Wt}:xD (x::m) w=if x.1=w then some x.2 else xD m w:=by
 unfold xD;grind
def GU{m:List (Wt×Nat)}(a:(m.map (·.1)).Nodup){w:Wt}{f:Nat}(h:(w,f)∈m):xD m w=some f:=by
 induction m with
 |nil=>cases h
 |cons x m b=>
  rw[tE];grind
def Yr{m:List (Wt×Nat)}{w:Wt}:xD m w=none ↔ w∉m.map (·.1):=by
 induction m with
 |nil=>exact⟨λ_ z=>(nomatch z),λ_=>rfl⟩
 |cons x m a=>
  rw[tE,Ax,Ba];grind
noncomputable def zq(m:List (Wt×Nat))(first:Wt)(A:List (Nat×Wt))(a:List Wt):List Wt:=a.filter λw=>decide (w=first) || (match xD m w with|some g=>decide (g∈A.map (·.1))|none=>false)
noncomputable def UL(a:List (List Nat))(k:Nat):List Wt:=(List.range (a.getD k []).length).map λj=>(k,1+j)
noncomputable def WW(a:List (List Nat))(i:Nat):List Wt:=(List.range i).flatMap (UL a)
noncomputable def wl(a:List (List Nat)):List Wt:=WW a a.length
noncomputable def wV(w:Wt):List V:=[.int (w.1:Int),.int (w.2:Int)]
def Qj(a:Q7)(i:Nat):WW a (i+1)=WW a i++UL a i:=by
 unfold WW;rw[Cp,List.flatMap_append];simp
def vX(a:Q7):∀i,pC a i=(WW a i).map wV
 |0=>rfl
 |i+1=>by
  rw[mM,Qj,Ar,vX a i];congr 1
  unfold Wy UL;rw[Ci];refine List.map_congr_left λj _=>?_;show [V.int _,V.int _]=[V.int _,V.int _]
  grind
def XG{w:Wt}:∀ {i:Nat},w∈WW cws i ↔ w.1<i/\1<=w.2/\w.2<=(cws.getD w.1 []).length:=fun {i}=>by
 unfold WW UL;rw[List.mem_flatMap];constructor
 .rintro⟨k,hk,h⟩;obtain⟨j,a,rfl⟩:=Bw.mp h;have:=Cu.mp hk
  grind
 .rintro⟨h1,h2,h3⟩;refine⟨w.1,Cu.mpr h1,Bw.mpr ⟨w.2-1,Cu.mpr (by ((try clear h1);omega)),?_⟩⟩
  grind
def T3(c:Q7):∀i,(WW c i).Nodup
 |0=>List.nodup_nil
 |i+1=>by
  rw[Qj];refine List.nodup_append.mpr ⟨T3 c i,?_,λa f b d e=>?_⟩
  exact List.Pairwise.map _ (λa b h=>λz=>h (by have:=Ds Prod.snd z;have e:=this;((try clear e h);omega))) List.nodup_range
  .subst e;have g:=(XG.mp f).1
   obtain⟨j,_,rfl⟩:=Bw.mp d;simp_all
def BA(a:∀c∈cws,c.length<=7)(i:Nat):(WW cws i).length<=7*i:=by
 have:=oX a i
 rw[vX,Ac]at this;(assumption)
noncomputable def Tx(a:List (List Nat))(w:Wt):List Nat:=Od (a.getD w.1 []) (w.2-1)
noncomputable def fE(a:List Wt)(ds:List Addr):List (List Key×V):=List.zipWith (λw d=>(gX w,V.ref d)) a ds
def PQ(H:Hp)(r:Addr)(cws:List (List Nat))(i:Nat):Prop:=∃a,a.length=i/\H r=some (.dT (fE ((wl cws).take i) a))/\∀j w d,j<i->(wl cws)[j]?=some w->a[j]?=some d->H d=some (.lst (((Tx cws w).map one).map V.str))
def Lj(b:ws.Nodup)(c:ds.length=ws.length){w:Wt}{d:Addr}(a:ws[j]?=some w)(f:ds[j]?=some d):dE (fE ws ds) (gX w)=some (.ref d):=by
 induction ws generalizing ds j with
 |nil=>cases a
 |cons x ws g=>
  cases ds with
  |nil=>cases c
  |cons e ds=>
   show dE ((gX x,V.ref e)::fE ws ds) _=_
   cases j with
   |zero=>cases a;cases f;exact dF rfl
   |succ j=>
    have h:=As (show ws[j]?=some w from a)
    rw[dD (λz=>(Gc.mp b).1 (by rw[wL z];exact h))]
    exact g (List.nodup_cons.mp b).2 (by simpa using c) a f
def C0{w:Wt}(h:w∉ws):dE (fE ws ds) (gX w)=none:=by
 induction ws generalizing ds with
 |nil=>rfl
 |cons x ws a=>
  cases ds with
  |nil=>rfl
  |cons e ds=>
   show dE (_::fE ws ds) _=_
   rw[dD (λz=>h (by rw[wL z];exact Al))]
   simp_all
def NG{a:List Wt}(b:ds.length=a.length):(fE a ds).length=a.length:=by
 unfold fE;grind
def J0{a:List Wt}{w:Wt}{d:Addr}(b:ds.length=a.length):fE (a++[w]) (ds++[d])=fE a ds++[(gX w,V.ref d)]:=by
 unfold fE;rw[List.zipWith_append (by omega)]
 rfl
def oH:Sp:=λe H Q _=>∃a b,e=[.ref a]/\Z6 H a=some ((b.map bS).map V.str)/\b.length<=8/\(∀c∈b,c.length<=7)/\
 ∀r d,H r=none->Same H d->PQ d r b (wl b).length->Q (.ref r) d
def j2:Z_ ["words", "choices", "want"] ["words"] (aJ kZ):=by fail "sc"
def zL(F:ZQ K "choices_of" "choices_of" kZ f fd)(G:Gs K mg w Zo Zz Zr Zx Z0 Zt Zy Zu Zw Zv Zq Zs Zp Z1)(j4:ZM P w K mg base 1 "wants_of" ["words"] tH)(j5:ZM P w K mg base 1 "choices_at" ["word", "place"] oJ):Z9 P w K mg base ZO 2 f fd ["words"] oH:=by
 refine F.ok j2 (λvs H Q E h=>?_) (λb4 A a3 s H vs Q E B h=>?_)
 .obtain⟨a,c,rfl,_⟩:=h;rfl
 obtain⟨a,c,rfl,ha,h8,h7,q⟩:=h;refine⟨_,(@aH _ _ _ _ _ (@Sk _ _ 1 _ _ _ _ j2.nd (by rfl) (by exact(Or.inl rfl)) NY (by rfl) (by fail "o")) (@aH _ _ _ _ _ (dY Bp rfl (bU (bF j4 B (by decide) rfl (aA (mv 0) aD))) (bB (i:=2) j2.nd rfl (Or.inl rfl)) (@aI _ _ _ (lD (Z4.u1 B) (mv 1) (mv 2) (bF j5 B (by decide) rfl (aA (bH bZ (mv 0) (bH bZ (mv 2) aM (λ_ _=>rfl)) (λ_ _=>rfl)) (aA (bH bZ (mv 2) aM (λ_ _=>rfl)) aD))) rfl))) (@aI _ _ _ (aV (mv 1))))),?_⟩
 left;intro t m;left;refine⟨a,c,rfl,aQ (aE m _) ha,h8,h7,λr D H1 B s1 e1 tp=>?_⟩;have a2:=(aE m (.dT [])).trans s1
 have R:=s1 _ _ (aG (H:=H) (a:=t) (o:=.dT []))
 have b3:(wl c).length<=56:=Cd (BA h7 _) (by omega)
 rw[vX]at tp;have M:D.length=(wl c).length:=by rw[tp.1,Ac];rfl
 have a4:(D.map V.ref).length=(wl c).length:=by rw[Ac,M]
 have a1:∀j p w,D[j]?=some p->(wl c)[j]?=some w->H1 p=some (.tup (wV w)):=λj p w hp hw=>(tp.2 j p _ hp (by rw[Ae];exact Ds (Option.map wV) hw)).2
 have r1:=aO e1
 have a9:t≠r:=λz=>by rw[<-z,aG]at B;cases B
 left;refine dU (xs:=D.map V.ref) (λi U Z=>∃v,U=[some (.ref a),some (.ref t),v]/\Same H Z/\(∀b u,b≠t->H1 b=some u->Z b=some u)/\PQ Z t c i)
  ⟨_,rfl,a2,λb u _ h=>h,[],rfl,R,λj w d X=>absurd X (Nat.not_lt_zero _)⟩ (λi U Z _ ⟨_,_,_,k,_⟩=>aO (k _ _ (Ne.symm a9) e1)) ?_ ?_
 .rintro i x U H2 I ⟨v,rfl,T,k2,ds,dl,ed,a7⟩;rw[Ae]at I;cases e:D[i]? with
  |none=>rw[e]at I;cases I
  |some p=>
   rw[e]at I;cases I;have hi:i<(wl c).length:=by rw[<-M];exact(Ag.mp e).1
   have Y:=Aa hi
   have hm:=XG.mp (Co hi)
   have g:=a1 i p _ e Y
   have L:p≠t:=λz=>by rw[z,R]at g;cases g
   have W:=k2 _ _ L g
   have y:(wl c)[i]∉(wl c).take i:=λz=>by
    obtain⟨j,X,ej⟩:=Dj.mp z;rw[Bi]at X;rw[List.getElem_take]at ej;have:=(List.getElem_inj (T3 c c.length)).mp ej
    ((try clear L a9 b3 dl h8 hm);omega)
   have J:(wl c).take (i+1)=(wl c).take i++[(wl c)[i]]:=by rw[Bf,Y];rfl
   generalize hw:(wl c)[i]=w at hm W y J Y;obtain⟨h1,h2,h3⟩:=hm;have O:c[w.1]?=some (c.getD w.1 []):=by rw[Ah,Aa h1];rfl
   have b2:=h7 _ (As O)
   have b1:=aQ T ha
   left;refine cW W (v:=.int (w.1:Int)) rfl ?_;left;refine cA b1 (v:=.str (bS (c.getD w.1 []))) (aX (by rw[Ae,Ae,O];rfl)) ?_
   left;refine cW W (v:=.int (w.2:Int)) rfl ?_;left;refine⟨c.getD w.1 [],w.2-1,_,rfl,by ((try clear L M a4 a9 b2 b3 dl h1 h3 h8 hi);omega),by ((try clear L M a4 a9 b2 b3 dl h1 h8 hi);omega),b2,λd H3 hd C e3=>?_⟩
   left;have S:ds.length=((wl c).take i).length:=by rw[dl,Bi];((try clear L a9 b2 b3 dl h1 h2 h3 h8);omega)
   refine QI (k:=gX w) (C _ _ ed) (C _ _ W) (bM (by rw[NG S,Bi];((try clear L a9 b2 h1 h2 h3 h8);omega))) ?_
   have a8:d≠t:=λz=>by rw[z,ed]at hd;cases hd
   refine⟨_,rfl,bQ m (T.trans C),λb u hb hu=>by rw[aK hb];exact C _ _ (k2 b u hb hu),ds++[d],by rw[Aj,dl];rfl,?_,λj v' d' X hv n=>?_⟩
   .rw[aG,mY _ (C0 y),J,J0 S]
   .by_cases a5:j<i
    .rw[Bx (by ((try clear L M X a4 a8 a9 b2 b3 h1 h2 h3 h8 hi);omega))]at n
     have l:=a7 j v' d' a5 hv n
     rw[aK (λz=>by rw[z,ed]at l;cases l)]
     exact C _ _ l
    .have a6:j=i:=by ((try clear L M a4 a8 a9 b2 b3 h1 h2 h3 h8 hi);omega)
     subst a6;rw[Y]at hv;cases hv;rw[Br (by (exact Nat.le_of_eq (by assumption))),dl,Gq]at n
     cases n;rwa[aK a8]
 .rintro U H2 ⟨v,rfl,T,k2,N⟩;rw[a4]at N;left;exact q t H2 m T N
noncomputable def kS(m:List (Wt×Nat)):List (List Key×V):=m.map λx=>(gX x.1,V.str (one x.2))
def qZ(m:List _)(w:Wt):dE (kS m) (gX w)=(xD m w).map λf=>V.str (one f):=by
 induction m with
 |nil=>rfl
 |cons x m a=>
  show dE (_::kS m) _=_
  rw[tE];by_cases e:x.1=w
  .rw[if_pos e,dF (by grind)]
   rfl
  .rw[if_neg e,dD (λz=>e (wL z)),a]
def Qk(H:Hp)(r:Addr)(a:List (List Nat)):Prop:=∃b,b.length=(wl a).length/\Rd H r (.dT (fE (wl a) b))/\∀(j:Nat) w d,(wl a)[j]?=some w->b[j]?=some d->H d=some (.lst (((Tx a w).map one).map V.str))
noncomputable def ZD(w:Wt):Nat:=ZX.getD (w.2-1) 0
def Ov:∀w∈wl [ZX],Tx [ZX] w=[ZD w]/\ZD w∈ZX:=by right
def E2:∀w∈wl [ZX],∀v∈wl [ZX],ZD w=ZD v->w=v:=by right
def LG:∀c∈ZX,fU c:=by unfold fU;decide
noncomputable def qG(w:Wt)(b:Addr):List (Key×V):=[(Sum.inr (one (ZD w)),V.ref b)]
def oP:Sp:=λe H Q _=>∃a d c m first,e=[.ref a,.ref d,.ref c]/\H a=some (.tup (wV first))/\first∈wl [ZX]/\Qk H d [ZX]/\H c=some (.dT (kS m))/\(m.map (·.1)).Nodup/\(∀x∈m,x.2≠ZD first)/\m.length<=56/\
 ∀r b,H r=none->Same H b->b r=some (.dK (qG first a))->Q (.ref r) b
def z9:Z_ ["first", "choices", "hung", "asked", "reached", "at", "asking", "flag"] ["first", "choices", "hung"] (aJ hU):=by fail "sc"
def yL(F:ZQ K "asked_from" "asked_from" hU f fd):Z9 P w K mg base ZO 1 f fd ["first", "choices", "hung"] oP:=by
 refine F.ok z9 (λvs H Q E h=>?_) (λe7 A b8 s H vs Q E hr h=>?_)
 .obtain⟨a,ac,I,m,first,rfl,_⟩:=h;rfl
 obtain⟨a,ac,I,m,first,rfl,c5,a3,c4,c7,b9,c1,e3,q⟩:=h
 refine⟨_,(@aH _ _ _ _ _ (aY 3 z9.nd xO) (@aH _ _ _ _ _ (aY 4 z9.nd (bI (aA (mv 0) aD))) (@aH _ _ _ _ _ (aY 5 z9.nd aM) (@aH _ _ _ _ _ (xQ Bp (bD wU (mv 5) (aP cK rfl G.b_len bR (aA (mv 4) aD)) (aZ _)) (@aH _ _ _ _ _ (aY 6 z9.nd (bH bZ (mv 4) (mv 5) (λ_ _=>rfl))) (@aH _ _ _ _ _ (dY Bp rfl (bU (jE (Z4.u1 hr) (mv 1) (mv 6) (λ_ _=>rfl))) (bB (i:=7) z9.nd rfl (Or.inr rfl)) (@aI _ _ _ (bP (bD (Mp (Z4.u1 hr)) (mv 7) (mv 3) (by rfl)) (@aH _ _ _ _ _ (lD (Z4.u1 hr) (mv 3) (mv 7) (mv 6) rfl) (@aI _ _ _ (cR (cC Bq Fm Fn UJ (mv 4) (aA (Si (cD rfl (rC (mv 2)) (fG (N:=["want", "flag", "hung"]) ["first", "choices", "hung", "asked", "reached", "at", "asking", "flag"] (aJ hU) [none,some 7,some 2] rfl rfl rfl (λx h=>cE h) (by right)) (by right) rfl (by right) (λ_ _ _ _=>(bB (i:=0) (show List.Nodup (["want", "flag", "hung"]:List Str) by right) rfl (Or.inl rfl))) (λ_ _ _ _=>(jS (bD fW (jE (Z4.u1 hr) (mv 2) (mv 0) (λ_ _=>rfl)) (mv 1) (aZ _)))) (λ_ _ _ _=>(mv 0)))) aD))))) bE))) (@aI _ _ _ (aY 5 z9.nd (cH cL (mv 5) aM)))))) (@aI _ _ _ (aV (mv 3))))))),?_⟩
 obtain⟨ds,d1,d2,d3⟩:=id c4;obtain⟨jw,c2,d5⟩:=Dj.mp a3;have C:(wl [ZX])[jw]?=some first:=by rw[Aa c2,d5]
 have a8:ds[jw]?=some (ds[jw]'(by ((try clear e3);omega))):=Aa (by ((try clear e3);omega))
 have g:=d3 jw first _ C a8
 rw[(Ov first a3).1]at g
 have a4:=Lj (T3 [ZX] 1) d1 C a8
 generalize (ds[jw]'(by ((try clear e3);omega)))=dl at g a4
 left;intro b p;left;refine⟨x0,λd l=>?_⟩
 have s1:=(aE p (.dK [])).trans (aE l (.lst [.ref a]))
 have J:b≠d:=λz=>by rw[<-z,aG]at l;cases l
 have b3:(upd (upd H b (.dK [])) d (.lst [.ref a])) b=some (.dK []):=by rw[aK J,aG]
 have a7:(upd (upd H b (.dK [])) d (.lst [.ref a])) d=some (.lst [.ref a]):=aG
 have a1:=none_of (aE p _) l
 generalize upd (upd H b (.dK [])) d (.lst [.ref a])=H1 at s1 b3 a7 ⊢;left;refine⟨λn U c=>∃(t:Nat) (v1 u:Option V),U=[some (.ref a),some (.ref ac),some (.ref I),some (.ref b),some (.ref d),some (.int (t:Int)),v1,u]/\t<=1/\n=1-t/\Same H c/\c b=some (.dK (if t=0 then [] else qG first a))/\c d=some (.lst [.ref a]),⟨_,0,_,_,rfl,by decide,rfl,s1,b3,a7⟩,?_⟩
 rintro n U H2 ⟨t,v1,u,rfl,e1,rfl,W,b1,a6⟩;have b7:=aO a6
 left;refine iA (λhd=>?_) (λhd=>?_)
 .obtain rfl:t=0:=by have:(t:Int)<1:=Aw hd;((try clear J c2 d1 e3);omega)
  have c3:=W _ _ g
  have d6:Rd H2 ac (.dT (fE (wl [ZX]) ds)):=d2.elim (λe=>.inl (W _ _ e)) λ⟨o,e⟩=>.inr ⟨o,W _ _ e⟩
  refine⟨λU' c=>∃v1 u,U'=[some (.ref a),some (.ref ac),some (.ref I),some (.ref b),some (.ref d),some (.int ((1:Nat):Int)),v1,u]/\Same H c/\c b=some (.dK (qG first a))/\c d=some (.lst [.ref a]),?_,?_⟩
  .rintro U' c ⟨b6,b5,rfl,g1,g2,g3⟩;exact⟨0,by decide,1,b6,b5,rfl,by decide,rfl,g1,g2,g3⟩
  left;refine cA b7 (v:=.ref a) (aX (j:=0) rfl) ?_;left;refine Tt (k:=gX first) d6 (W _ _ c5) a4 ?_
  have d8:=aO c3
  left;refine dU (xs:=(([ZD first]).map one).map V.str) (λi U c=>∃u,U=[some (.ref a),some (.ref ac),some (.ref I),some (.ref b),some (.ref d),some (.int ((0:Nat):Int)),some (.ref a),u]/\Same H c/\c b=some (.dK (if i=0 then [] else qG first a))/\c d=some (.lst [.ref a]))
   ⟨_,rfl,W,b1,a6⟩ (λi U c _ ⟨_,_,e,_⟩=>aO (e _ _ g)) ?_ ?_
  .rintro i x U Y hx ⟨u,rfl,s3,T,er⟩;obtain ⟨rfl,rfl⟩:i=0/\x=V.str (one (ZD first)):=by
    match i,hx with
    |0,hx=>exact⟨rfl,(Ay hx).symm⟩
   left;replace T:Y b=some (.dK []):=T
   refine Ja (neg:=true) (z:=one (ZD first)) (.inl T) ?_
   rw[if_pos rfl,show (dE ([]:List (Key×V)) (Sum.inr (one (ZD first)))).isSome=false from rfl,Bool.not_false]
   left;refine pW (z:=one (ZD first)) T (by decide) ?_
   rw[show eP ([]:List (Key×V)) (Sum.inr (one (ZD first))) (V.ref a)=qG first a from rfl]
   have s4:Same H (upd Y b (.dK (qG first a))):=bQ p s3
   have a9:(upd Y b (.dK (qG first a))) b=some (.dK (qG first a)):=aG
   have S:(upd Y b (.dK (qG first a))) d=some (.lst [.ref a]):=(aK (Ne.symm J)).trans er
   generalize upd Y b (.dK (qG first a))=H4 at s4 a9 S ⊢
   have b4:=s4 _ _ c7
   clear er T s3;left;refine SR b4 λo=>?_;have fz:(upd H4 I (.frz o (.dT (kS m)))) I=_:=aG
   have e5:(kS m).length=m.length:=by unfold kS;rw[Ac]
   refine fO (n:=m.length) (λD i Z X=>Same (upd H4 I (.frz o (.dT (kS m)))) X/\Z=[]) (bM (by (exact Nat.le_trans (by assumption) (by decide)))) (λD R=>⟨aE R _,rfl⟩) (λD i Z X _ r h=>⟨r.1 _ _ fz,by ((try clear J c2 d1 e1 e3);omega)⟩) (λD Z X _ r=>⟨r.1 _ _ fz,by (assumption)⟩) ?_ ?_
   .rintro D y Z X x c A' B' R M ⟨sm,rfl⟩ O ⟨rfl,kv,b2,L,rfl,c6⟩ e6 c9;have em:m[y]?=some m[y]:=Aa M
    unfold kS at L;rw[Ae,em]at L;cases L;have a5:c b2=some (.tup (wV m[y].1)):=c6
    have hv:dE (kS m) (gX m[y].1)=some (.str (one m[y].2)):=by
     rw[qZ,GU b9 (w:=m[y].1) (f:=m[y].2) (Co M)];rfl
    have a2:=c1 _ (Co M)
    generalize m[y]=x2 at a5 hv a2;left;refine⟨Wk.set rfl (Wk.refl _),?_⟩;left;refine Tt (k:=gX x2.1) (.inr ⟨o,sm _ _ fz⟩) a5 hv ?_;left;rw[show decide (one x2.2=one (ZD first))=false from(To _ _).trans (An a2)]
    left;exact c9 _ O ⟨sm,rfl⟩
   .rintro D Z X R ⟨sm,rfl⟩ O _;have c8:H4 D=none:=by
     by_cases z:D=I
     .rw[z,aG]at R;cases R
     .rw[aK z]at R;exact R
    have su:=pY b4 (λo v z=>nomatch z) sm
    have eu:=gZ (Hs:=H4) O (λo v z=>nomatch z)
    generalize Y0 H4 X=Hu at su eu;have d4:=su _ _ S
    have e2:=bO d4
    have e4:=bO eu
    have d9:d≠D:=bN S c8
    have d7:([V.ref a]:List V).length+([]:List V).length<=sizeLine:=x0
    left;exact⟨_,rfl,bQ a1 (s4.trans su),by rw[aK J];exact su _ _ a9,aG⟩
  .rintro U Y ⟨u,rfl,s3,T,er⟩;left;exact⟨_,_,rfl,s3,T,er⟩
 .left;obtain rfl:t=1:=by rw[Bh]at hd;have:¬(t:Int)<1:=hd;((try clear J c2 d1 e3 hd);omega)
  exact q b H2 p W b1
def JQ{m:List (Wt×Nat)}{w:Wt}{f:Nat}(h:w∉m.map (·.1)):eP (kS m) (gX w) (.str (one f))=kS (m++[(w,f)]):=by
 rw[mY _ (by rw[qZ,Yr.mpr h];rfl)]
 unfold kS;rw[Ar];rfl
def oR:Sp:=λe H Q _=>∃d a b m first,e=[.str (one (ZD first)),.ref d,.ref a]/\H d=some (.dK (qG first b))/\H b=some (.tup (wV first))/\H a=some (.dT (kS m))/\first∉m.map (·.1)/\m.length<=56/\
 ∀c,(∀b u,b≠a->H b=some u->c b=some u)->c a=some (.dT (kS (m++[(first,ZD first)])))->Q .non c
def t9:Z_ ["flag", "asked", "hung", "want", "given"] ["flag", "asked", "hung"] (aJ kR):=by fail "sc"
def yU(F:ZQ K "hang_along" "hang_along" kR f fd)(G:Gs K mg w Zo Zz Zr Zx Z0 Zt Zy Zu Zw Zv Zq Zs Zp Z1):Z9 P w K mg base ZO 1 f fd ["flag", "asked", "hung"] oR:=by
 refine F.ok t9 (λv H Q E h=>?_) (λI A l s H v Q E o h=>?_)
 .obtain⟨t,c,b,m,first,rfl,_⟩:=h;rfl
 obtain⟨t,c,b,m,first,rfl,r,i,a,g,y,q⟩:=h
 refine⟨_,(@aI _ _ _ (xQ Bp (bD T_ (mv 0) cO (aZ _)) (@aH _ _ _ _ _ (aY 3 t9.nd (jE (Z4.u1 o) (mv 1) (mv 0) (λ_ _=>rfl))) (@aH _ _ _ _ _ (aY 4 t9.nd (iR Cb Dr (QM (Z4.u1 o)) (mv 2) (aA (mv 3) aD))) (@aH _ _ _ _ _ (lD (Z4.u1 o) (mv 2) (mv 3) (mv 0) rfl) (@aI _ _ _ (aY 0 t9.nd (mv 4)))))))),?_⟩;have p:(kS m).length<sizeLine:=by unfold kS;rw[Ac];exact bM (by (exact Nat.le_trans (by assumption) (by decide)))
 have B:Xv H c=true:=by unfold Xv;rw[a]
 refine⟨λn U j=>(n=1/\(∃e d,U=[some (.str (one (ZD first))),some (.ref t),some (.ref c),e,d])/\j=H)\/(n=0/\(∃e d,U=[some .non,some (.ref t),some (.ref c),e,d])/\(∀b u,b≠c->H b=some u->j b=some u)/\j c=some (.dT (kS (m++[(first,ZD first)])))),⟨_,.inl ⟨rfl,⟨none,none,rfl⟩,rfl⟩⟩,?_⟩
 rintro n U J (⟨rfl,⟨e,d,rfl⟩,rfl⟩|⟨rfl,⟨e,d,rfl⟩,C,D⟩)
 .left;rw[show (!decide (V.str (one (ZD first))=V.non))=true from rfl]
  refine⟨_,λL j h=>h,?_⟩;refine yD (z:=one (ZD first)) (.inl r) (dF rfl) ?_
  left;refine KW (k:=gX first) (.inl a) i ?_
  rw[qZ,Yr.mpr g];refine QI (k:=gX first) a i p ?_
  rw[JQ g];exact⟨0,by decide,.inr ⟨rfl,⟨_,_,rfl⟩,λb u i x=>by rwa[aK i],aG⟩⟩
 exact q J C D
noncomputable def mI(i:Nat):List (Wt×Nat):=((wl [ZX]).take i).map λw=>(w,ZD w)
def P0(i:Nat):(mI i).map (·.1)=(wl [ZX]).take i:=by unfold mI;rw[Ci];exact List.map_id _
def Vi:(wl [ZX]).length=3:=by right
def Je:∀i,i<3->(wl [ZX]).getD i (0,0)∉(wl [ZX]).take i++(wl [ZX]).drop (i+1):=by right
def K_:∀i,i<3->xD (mI 3) ((wl [ZX]).getD i (0,0))=some (ZX.getD i 0)/\ZX.take (i+1)=ZX.take i++[ZX.getD i 0]:=by right
def tM:Sp:=λg H Q _=>∃a b d f,g=[.ref a,.ref b]/\H a=some (.dK d)/\Lk d f/\Z6 H b=some [V.str (bS ZX)]/\(∀c∈ZX,0<cntF f c)/\∀r p e,H r=none->H p=none->Same H e->e r=some (.lst [.ref p])->e p=some (.lst ((ZX.map one).map V.str))->Q (.ref r) e
def z8:Z_ ["locker", "words", "choices", "left", "hung", "first", "asked", "free", "wants"] ["locker", "words"] (aJ gC):=by fail "sc"
def BF(F:ZQ K "hang_all" "hang_all" gC f fd)(G:Gs K mg w Zo Zz Zr Zx Z0 Zt Zy Zu Zw Zv Zq Zs Zp Z1)(j6:ZM P w K mg base 2 "choices_of" ["words"] oH)(y1:ZM P w K mg base 1 "plain_locker" ["locker"] cY)(j7:ZM P w K mg base 1 "hoists_of" ["words", "flags"] rO)(j8:ZM P w K mg base 1 "asked_from" ["first", "choices", "hung"] oP)(j9:ZM P w K mg base 1 "hang_along" ["flag", "asked", "hung"] oR):Z9 P w K mg base ZO 3 f fd ["locker", "words"] tM:=by
 refine F.ok z8 (λvs H Q E h=>?_) (λcdv A outer s H vs Q E hr h=>?_)
 .obtain⟨a,b,kvs,f,rfl,_⟩:=h;rfl
 obtain⟨a,b,kvs,f,rfl,ha,lk,hb,hav,q⟩:=h;refine⟨_,(@aH _ _ _ _ _ (aY 2 z8.nd (bF j6 hr (by decide) rfl (aA (mv 1) aD))) (@aH _ _ _ _ _ (aY 3 z8.nd (bF y1 hr (by decide) rfl (aA (mv 0) aD))) (@aH _ _ _ _ _ (@Sk _ _ 4 _ _ _ _ z8.nd (by rfl) (by exact(Or.inr rfl)) NY (by rfl) (by fail "o")) (@aH _ _ _ _ _ (Tv (dY Bp rfl (rC (mv 2)) (bB (i:=5) z8.nd rfl (Or.inr rfl)) (@aH _ _ _ _ _ (aY 6 z8.nd (bF j8 hr (by decide) rfl (aA (mv 5) (aA (mv 2) (aA (mv 4) aD))))) (@aH _ _ _ _ _ (Tv (dW (i:=7) z8.nd rfl (Or.inl rfl) rfl (Q8 (mv 6)) (fG (N:=["flag", "left"]) ["locker", "words", "choices", "left", "hung", "first", "asked", "free", "wants"] (aJ gC) [none,some 3] rfl rfl rfl (λx h=>cE h) (by right)) (by right) rfl (by right) (λ_ _ _ _=>(bB (i:=0) (show List.Nodup (["flag", "left"]:List Str) by right) rfl (Or.inl rfl))) (λ_ _ _ _=>(jS (bD uM (iR Cb Dr (UW (Z4.u1 hr)) (mv 1) (aA (mv 0) (aA aM aD))) aM (aZ _)))) (λ_ _ _ _=>(mv 0)))) (@aH _ _ _ _ _ (bP (bD (Tg hr.ZF) (mv 7) (bI aD) (aZ _)) (@aH _ _ _ _ _ (Tv (dW (i:=8) z8.nd rfl (Or.inl rfl) rfl (rC (mv 2)) (fG (N:=["want", "first", "asked", "hung"]) ["locker", "words", "choices", "left", "hung", "first", "asked", "free", "wants"] (aJ gC) [none,some 5,some 6,some 4] rfl rfl rfl (λx h=>cE h) (by right)) (by right) rfl (by right) (λ_ _ _ _=>(bB (i:=0) (show List.Nodup (["want", "first", "asked", "hung"]:List Str) by right) rfl (Or.inl rfl))) (λ_ _ _ _=>(jS (PW.pt (jY (bD (Nb hr.ZF) (mv 0) (mv 1) (aZ _)) (gR (bD (JI (Z4.u1 hr)) (iR Cb Dr (QM (Z4.u1 hr)) (mv 3) (aA (mv 0) aD)) (mv 2) (by rfl))))))) (λ_ _ _ _=>(mv 0)))) (@aI _ _ _ iK)) bE) (@aH _ _ _ _ _ (lD (Z4.u1 hr) (mv 3) (bH bZ (mv 7) aM (λ_ _=>rfl)) (cH tQ (jE (Z4.u1 hr) (mv 3) (bH bZ (mv 7) aM (λ_ _=>rfl)) (λ_ _=>rfl)) aM) rfl) (@aI _ _ _ (cR (bF j9 hr (by decide) rfl (aA (bH bZ (mv 7) aM (λ_ _=>rfl)) (aA (mv 6) (aA (mv 4) aD)))))))))))) (@aI _ _ _ (aV (bF j7 hr (by decide) rfl (aA (mv 1) (aA (Si (cD rfl (rC (mv 2)) (fG (N:=["want", "hung"]) ["locker", "words", "choices", "left", "hung", "first", "asked", "free", "wants"] (aJ gC) [none,some 4] rfl rfl rfl (λx h=>cE h) (by right)) (by right) rfl (by right) (λ_ _ _ _=>(bB (i:=0) (show List.Nodup (["want", "hung"]:List Str) by right) rfl (Or.inl rfl))) (λ_ _ _ _=>cI) (λ_ _ _ _=>(jE (Z4.u1 hr) (mv 1) (mv 0) (λ_ _=>rfl))))) aD))))))))),?_⟩
 replace hb:Z6 H b=some (([ZX].map bS).map V.str):=hb
 have h7:∀c∈[ZX],c.length<=7:=by decide
 left;refine⟨b,[ZX],rfl,hb,by decide,h7,λac H1 hac s1 hch=>?_⟩
 left;refine⟨a,kvs,f,rfl,.inl (s1 _ _ ha),lk,λal H2 VE s2 el=>?_⟩;left;intro ah hah;have s3:=s2.trans (aE hah (.dT []))
 have eh3:(upd H2 ah (.dT [])) ah=some (.dT []):=aG
 have el3:=aE hah (.dT []) _ _ el
 generalize upd H2 ah (.dT [])=H3 at s3 eh3 el3 ⊢;obtain⟨ds,dl,ed,hds⟩:=hch;rw[Cm]at ed;have ed3:=s3 _ _ ed
 have hnd:=T3 [ZX] 1
 replace hnd:(wl [ZX]).Nodup:=hnd
 left;refine SR ed3 λo=>?_;have fz:(upd H3 ac (.frz o (.dT (fE (wl [ZX]) ds)))) ac=_:=aG
 have kl:(fE (wl [ZX]) ds).length=(wl [ZX]).length:=NG dl
 have nac:ah≠ac:=λz=>by have e:=s2 _ _ ed;rw[<-z,hah]at e;cases e
 have nla:al≠ac:=λz=>by rw[z,ed3]at el3;cases el3
 have nlh:al≠ah:=λz=>by rw[z,eh3]at el3;cases el3
 have hah1:H1 ah=none:=none_of s2 hah
 refine A7 (λi U H'=>∃kl2 fl v5 v6 v7 v8,U=[some (.ref a),some (.ref b),some (.ref ac),some (.ref al),some (.ref ah),v5,v6,v7,v8]/\(∀p u,p≠ac->p≠al->p≠ah->H1 p=some u->H' p=some u)/\H' ac=some (.frz o (.dT (fE (wl [ZX]) ds)))/\H' ah=some (.dT (kS (mI i)))/\H' al=some (.dK kl2)/\Lk kl2 fl/\kl2.length<=27/\∀w∈(wl [ZX]).drop i,0<cntF fl (ZD w))
  ⟨_,bK (cntF f),_,_,_,_,rfl,λp u h1 h2 h3 hu=>by rw[aK h1];exact s3 _ _ hu,fz,by rw[aK nac];exact eh3,by rw[aK nla];exact el3,fF _,by unfold Zn;rw[Ac];exact dX _ _,λw hw=>?_⟩ (λi U H' _ ⟨_,_,_,_,_,_,_,_,e,_⟩=>e) ?_ ?_
 .have h1:=(Ov w hw).2
  rw[fD (LG _ h1) (Int.le_of_lt (hav _ h1))];exact hav _ h1
 .rintro i kv bf U H4 hkv hbf ⟨kl2,fl,v5,v6,v7,v8,rfl,fr,ec,eh,el4,lkl,l27,hpos⟩;have hi:i<(wl [ZX]).length:=by rw[<-kl];exact(Ag.mp hkv).1
  have ew:(wl [ZX])[i]?=some (wl [ZX])[i]:=Aa hi
  have ekv:kv=(gX (wl [ZX])[i],V.ref (ds[i]'(by ((try clear l27 nac nla nlh);omega)))):=by
   unfold fE at hkv;rw[List.getElem?_zipWith,ew,Aa (show i<ds.length by ((try clear l27 nac nla nlh);omega))]at hkv
   exact(Ay hkv).symm
  rw[ekv]at hbf;have hfw:(wl [ZX])[i]∈wl [ZX]:=Co hi
  have htk:mI (i+1)=mI i++[((wl [ZX])[i],ZD (wl [ZX])[i])]:=by unfold mI;rw[Bf,ew,Ar];rfl
  have hfd:(wl [ZX]).drop i=(wl [ZX])[i]::(wl [ZX]).drop (i+1):=List.drop_eq_getElem_cons hi
  have hfn:(wl [ZX])[i]∉(wl [ZX]).take i++(wl [ZX]).drop (i+1):=by
   rw[show (wl [ZX])[i]=(wl [ZX]).getD i (0,0) by rw[Ah,ew];rfl]
   exact Je i (by rw[<-Vi];exact hi)
  have hsub:∀w∈(wl [ZX]).take i++(wl [ZX]).drop (i+1),ZD w≠ZD (wl [ZX])[i]:=λw hw e=>by
   have hww:w∈wl [ZX]:=(Ce.mp hw).elim Fh List.mem_of_mem_drop
   exact hfn (by rw[<-E2 w hww _ hfw e];exact hw)
  have hml:(mI i).length<=56:=by unfold mI;rw[Ac,Bi,Vi];((try clear dl hi kl l27 nac nla nlh);omega)
  have hcr:Qk H4 ac [ZX]:=⟨ds,dl,.inr ⟨o,ec⟩,λj w d hw hd=>by
   have h1:=hds j w d (Ag.mp hw).1 hw hd
   exact fr d _ (λz=>by rw[z,ed]at h1;cases h1) (λz=>by rw[z,VE]at h1;cases h1) (λz=>by rw[z,hah1]at h1;cases h1) h1⟩
  replace hbf:H4 bf=some (.tup (wV (wl [ZX])[i])):=hbf
  rw[hfd]at hpos;clear ekv hkv ew hfd;generalize (wl [ZX])[i]=first at hbf hfw htk hfn hsub hpos
  have hmn:∀x∈mI i,x.2≠ZD first:=λx hx=>by
   obtain⟨w,hw,rfl⟩:=Bw.mp hx;exact hsub w (Dw _ hw)
  have hfm:first∉(mI i).map (·.1):=by rw[P0];exact λz=>hfn (Dw _ z)
  have hp0:=hpos first Al
  left;refine⟨bf,ac,ah,mI i,first,rfl,hbf,hfw,hcr,eh,by rw[P0];exact hnd.sublist (List.take_sublist ..),hmn,hml,λpa H5 hpa s5 ea=>?_⟩
  have el5:=s5 _ _ el4
  have hdl5:=pD el5
  left;refine ND ea λoa=>?_;have fza:(upd H5 pa (.frz oa (.dK (qG first bf)))) pa=_:=aG
  have nlp:al≠pa:=λz=>by rw[z,hpa]at el4;cases el4
  have elf:(upd H5 pa (.frz oa (.dK (qG first bf)))) al=_:=(aK nlp).trans el5
  refine fO (n:=1) (λD i ys Hc=>Same (upd H5 pa (.frz oa (.dK (qG first bf)))) Hc/\ys=if i=0 then [] else [V.str (one (ZD first))]) (by decide) (λD hD=>⟨aE hD _,rfl⟩) (λD i ys Hc _ r h=>⟨r.1 _ _ fza,h⟩) (λD ys Hc _ r=>⟨r.1 _ _ fza,rfl⟩) ?_ ?_
  .rintro D i2 ys Hc x H' A' B' hD hi2 ⟨sm,rfl⟩ hDc ⟨rfl,kv,hkv,rfl⟩ hA' hB';obtain rfl:i2=0:=by ((try clear dl hi hml hp0 kl l27 nac nla nlh nlp);omega)
   cases hkv;have elc:=sm _ _ elf
   have hdc:=pD elc
   dsimp only[kV];left;refine⟨Wk.set rfl (Wk.refl _),?_⟩;left;refine VF (z:=one (ZD first)) (.inl elc) ?_
   rw[lkl.val (ZD first),rL]
   left;rw[Ao hp0];left;exact hA' _ _ hDc ⟨bQ hD sm,rfl⟩
  .rintro D ys Hc hD ⟨sm,rfl⟩ hDc _;replace hDc:Hc D=some (.lst [V.str (one (ZD first))]):=hDc
   have su:=pY ea (λo v z=>nomatch z) sm
   have eu:=gZ (Hs:=H5) hDc (λo v z=>nomatch z)
   refine PH ?_;unfold Ui;dsimp only;generalize Y0 H5 Hc=H6 at su eu ⊢;have s46:=s5.trans su
   have hD4:H4 D=none:=by
    have h5:H5 D=none:=by
     by_cases z:D=pa
     .rw[z,aG]at hD;cases hD
     .rw[aK z]at hD;exact hD
    exact none_of s5 h5
   clear sm hDc hD fza elf hdl5 el5;left;refine⟨by decide,λpe hpe=>?_⟩
   refine V4 (neg:=false) (aQ (aE hpe _) (aO eu)) bX rfl rfl ?_;have s67:=aE hpe (.lst [])
   have ea7:=s67 _ _ (su _ _ ea)
   have s47:=s46.trans s67
   have eD7:=s67 _ _ eu
   generalize upd H6 pe (.lst [])=H7 at s67 ea7 s47 eD7 ⊢;rw[if_neg (by decide),show kE [V.str (one (ZD first))] []=false from rfl]
   have el7:=s47 _ _ el4
   have hdl7:=pD el7
   obtain⟨n1,hn1⟩:∃n1,fl (ZD first)=some n1:=by
    cases e:fl (ZD first) with
    |none=>rw[show cntF fl (ZD first)=0 by unfold cntF;rw[e];rfl]at hp0;((try clear dl hi hml kl l27 nac nla nlh nlp);omega)
    |some n=>exact⟨n,rfl⟩
   left;refine cA (aO eD7) (v:=.str (one (ZD first))) (aX (j:=0) rfl) ?_
   left;refine yD (z:=one (ZD first)) (.inl el7) (by rw[lkl.val (ZD first),hn1];rfl) ?_
   left;refine cA (aO eD7) (v:=.str (one (ZD first))) (aX (j:=0) rfl) ?_
   left;refine pW (z:=one (ZD first)) el7 (bM (by (exact Nat.le_trans (by assumption) (by decide)))) ?_
   have nDl:D≠al:=λz=>by rw[z]at hD4;rw[hD4]at el4;cases el4
   have npl:pa≠al:=λz=>by rw[z]at hpa;rw[hpa]at el4;cases el4
   have nbl:bf≠al:=λz=>by rw[z,el4]at hbf;cases hbf
   have kA:∀p u,p≠al->H7 p=some u->(upd H7 al (.dK (eP kl2 (Sum.inr (one (ZD first))) (V.int (n1-1))))) p=some u:=λp u h e=>by rw[aK h];exact e
   have el8:(upd H7 al (.dK (eP kl2 (Sum.inr (one (ZD first))) (V.int (n1-1))))) al=_:=aG
   have ea8:=kA _ _ npl ea7
   have eh8:=kA _ _ (Ne.symm nlh) (s47 _ _ eh)
   have ec8:=kA _ _ (Ne.symm nla) (s47 _ _ ec)
   have eD8:=kA _ _ nDl eD7
   have hb8:=kA _ _ nbl (s47 _ _ hbf)
   have fr8:∀p u,p≠ac->p≠al->p≠ah->H1 p=some u->(upd H7 al (.dK (eP kl2 (Sum.inr (one (ZD first))) (V.int (n1-1))))) p=some u:=λp u h1 h2 h3 hu=>kA _ _ h2 (s47 _ _ (fr p u h1 h2 h3 hu))
   clear kA;generalize upd H7 al (.dK (eP kl2 (Sum.inr (one (ZD first))) (V.int (n1-1))))=H8 at el8 ea8 eh8 ec8 eD8 hb8 fr8 ⊢
   left;refine cA (aO eD8) (v:=.str (one (ZD first))) (aX (j:=0) rfl) ?_
   left;refine⟨pa,ah,bf,mI i,first,rfl,ea8,hb8,eh8,hfm,hml,λH9 fr9 eh9=>?_⟩
   left;refine⟨_,_,_,_,_,_,rfl,λp u h1 h2 h3 hu=>fr9 p u h3 (fr8 p u h1 h2 h3 hu),fr9 _ _ (Ne.symm nac) ec8,by rw[htk];exact eh9,fr9 _ _ nlh el8,lkl.put (ZD first) (n1-1),?_,λw hw=>?_⟩
   .have hv:dE kl2 (Sum.inr (one (ZD first)))≠none:=by rw[lkl.val (ZD first),hn1];exact λz=>nomatch z
    have e:=Ds List.length (Ql kl2 (Sum.inr (one (ZD first))) (.int (n1-1)) hv)
    rw[Ac,Ac]at e;((try clear dl hi hml hp0 kl nDl nac nbl nla nlh nlp npl);omega)
   .show 0<((if ZD w=ZD first then some (n1-1) else fl (ZD w)):Option Int).getD 0
    rw[if_neg (hsub w (Bg _ hw))];exact hpos w (Am _ hw)
 .rintro U H4 ⟨kl2,fl,v5,v6,v7,v8,rfl,fr,ec,eh,el4,lkl,l27,_⟩;rw[kl,Vi]at eh;have ec5:=uT (Hs:=H3) ec (λo v z=>by rw[ed3]at z;cases z)
  have eh5:=gZ (Hs:=H3) eh (λo v z=>nomatch z)
  have sh5:Same H (Y0 H3 H4):=λb u hu=>by
   have h1:=s1 _ _ hu
   have h4:=fr b u (λz=>by rw[z,hac]at hu;cases hu) (λz=>by rw[z,VE]at h1;cases h1) (λz=>by rw[z,hah1]at h1;cases h1) h1
   by_cases hf:∃o v,u=.frz o v
   .obtain⟨o',v',rfl⟩:=hf;exact rQ h4 (s3 _ _ h1)
   .exact gZ h4 λo v z=>hf ⟨o,v,z⟩
  unfold Ui;dsimp only;generalize Y0 H3 H4=H5 at ec5 eh5 sh5 ⊢;left;refine SR ec5 λo2=>?_;have fz2:(upd H5 ac (.frz o2 (.dT (fE (wl [ZX]) ds)))) ac=_:=aG
  have eh6:(upd H5 ac (.frz o2 (.dT (fE (wl [ZX]) ds)))) ah=_:=(aK nac).trans eh5
  refine fO (n:=(wl [ZX]).length) (λD i ys Hc=>Same (upd H5 ac (.frz o2 (.dT (fE (wl [ZX]) ds)))) Hc/\ys=((ZX.take i).map one).map V.str) (by right) (λD hD=>⟨aE hD _,rfl⟩) (λD i ys Hc _ r h=>⟨r.1 _ _ fz2,by rw[kl];exact h⟩) (λD ys Hc _ r=>⟨r.1 _ _ fz2,kl⟩) ?_ ?_
  .rintro D i2 ys Hc x H' A' B' hD hi2 ⟨sm,rfl⟩ hDc ⟨rfl,kv,bk,hkv,rfl,hbk⟩ hA' hB';have ew2:(wl [ZX])[i2]?=some (wl [ZX])[i2]:=Aa hi2
   have ekv:kv=(gX (wl [ZX])[i2],V.ref (ds[i2]'(by ((try clear l27 nac nla nlh);omega)))):=by
    unfold fE at hkv;rw[List.getElem?_zipWith,ew2,Aa (show i2<ds.length by ((try clear l27 nac nla nlh);omega))]at hkv
    exact(Ay hkv).symm
   rw[ekv]at hbk;have hi3:i2<3:=by rw[<-Vi];exact hi2
   obtain⟨h30,h31⟩:=K_ i2 hi3;have h3:dE (kS (mI 3)) (gX ((wl [ZX])[i2]'hi2))=some (.str (one (ZX.getD i2 0)))/\ZX.take (i2+1)=ZX.take i2++[ZX.getD i2 0]:=by
    rw[qZ,show (wl [ZX])[i2]'hi2=(wl [ZX]).getD i2 (0,0) by rw[Ah,ew2];rfl,h30]
    exact⟨rfl,h31⟩
   rw[h3.2]at hA';have ehc:=sm _ _ eh6
   left;refine⟨Wk.set rfl (Wk.refl _),?_⟩;left;refine Tt (k:=gX ((wl [ZX])[i2]'hi2)) (.inl ehc) hbk h3.1 ?_;refine hA' _ _ hDc ⟨bQ hD sm,?_⟩;rw[Ar,Ar];rfl
  .rintro D ys Hc hD ⟨sm,rfl⟩ hDc _;rw[Vi,show ZX.take 3=ZX from rfl]at hDc;have su:=pY ec5 (λo v z=>nomatch z) sm
   have eu:=gZ (Hs:=H5) hDc (λo v z=>nomatch z)
   generalize Y0 H5 Hc=H6 at su eu ⊢;have s06:=sh5.trans su
   refine⟨b,D,[ZX],ZX,rfl,aQ s06 hb,aO eu,by decide,h7,λr ps H7 hr s7 er hne hls=>?_⟩
   obtain⟨p,rfl⟩:∃p,ps=[p]:=by
    have hl:ps.length=1:=hls.1
    match ps,hl with
    |[p],_=>exact⟨p,rfl⟩
   have hp:=hls.2 0 p _ rfl rfl
   exact q r p H7 (none_of s06 hr) (none_of s06 hp.1) (s06.trans s7) er hp.2
def RK(c:List (Str×Str))(cws:List (List Nat)):Prop:=cws.length=c.length/\∀(j:Nat) b a,c[j]?=some b->cws[j]?=some a->b.1=bS a/\1<=a.length/\a.length<=6/\∀d∈a,bW d
def eM(e:Addr):Sp:=λd H Q E=>∃b a n,d=[.ref b,.int n]/\Z6 H b=some a/\a.length<=1000/\((0<=n/\n<(a.length:Int))->Q .non H)/\(¬(0<=n/\n<(a.length:Int))->∀c,Same H c->E (.ref e) none c)
def oA:Z_ ["halyards", "number"] ["halyards", "number"] (aJ eX):=by fail "sc"
def oB(F:ZQ K "look_for_halyard" "look_for_halyard" eX f fd):Z9 P w K mg base (Zb P w) 1 f fd ["halyards", "number"] (eM Zy):=by
 refine F.Ys oA (λi H Q E h=>?_) (λm A a s H i Q E o h=>?_)
 .obtain⟨b,e,n,rfl,_⟩:=h;rfl
 obtain⟨b,e,n,rfl,q,p,j,g⟩:=h;refine⟨_,(@aI _ _ _ (bP (PW.pt (jY (bD wU (mv 1) aM (aZ _)) (gR (bD SQ (mv 1) (aP cK rfl G.b_len bR (aA (mv 0) aD)) (aZ _))))) (@aI _ _ _ (eA dP rfl rfl rfl G.c_NoHalyard G.x_NoHalyard Bl (@aL _ _ _ _ _ _ aD))) bE)),?_⟩;left;refine iA (λd=>?_) (λd=>?_)
 .have k:=Aw d
  left;exact⟨x0,g (λz=>by ((try clear p);omega)) _ (Same.refl _)⟩
 .have k:¬n<0:=λz=>d (Ao z)
  left;refine iA (λc=>?_) (λc=>?_)
  .have l:=Aw c
   left;exact⟨x0,g (λz=>by ((try clear k p);omega)) _ (Same.refl _)⟩
  .have l:¬(e.length:Int)<=n:=λz=>c (Ao z)
   left;grind
def eG(m:Nat->Int)(c:Nat):0<=cntF (bK m) c:=by
 unfold cntF bK;split
 .rename_i h
  exact Int.le_of_lt (by simp_all)
 simp_all
structure Ze (H:Hp) (B R:Addr) (hs:List (Option (List Nat))) (f:Nat->Option Int):Prop where
 VE:∃us,H B=some (.lst us)/\Z2 H us hs
 ok:lM hs
 loc:∃kvs,H R=some (.dK kvs)/\Lk kvs f
 pos:∀c,0<=cntF f c
noncomputable def ZZ:List (Str×Str):=[("ab", "up"),("ba", "on it"),("d", "off")]
noncomputable def lQ:List (List (List Nat)):=[[[117,112]],[[111,110],[105,116]],[[111,102,102]]]
def uX:qH ZZ lQ:=by
 have f:"up"=eL [[117,112]]:=by right
 have e:"on it"=eL [[111,110],[105,116]]:=by right
 have d:"off"=eL [[111,102,102]]:=by right
 refine⟨rfl,λj b g c a=>?_⟩
 match j,c,a with
 |0,c,a=>cases c;cases a;exact⟨f,by decide,by decide,by unfold fX vQ;decide⟩
 |1,c,a=>cases c;cases a;exact⟨e,by decide,by decide,by unfold fX vQ;decide⟩
 |2,c,a=>cases c;cases a;exact⟨d,by decide,by decide,by unfold fX vQ;decide⟩
inductive Dd where
 |haul (n:Int) (z:Str)
 |lower (n:Int)
 |lose (z:Str)
 |find (z:Str)
 |say (z:Str)
noncomputable def Dd.vs:Dd->List V
 |.haul n z=>[.str "haul",.int n,.str z]
 |.lower n=>[.str "lower",.int n]
 |.lose z=>[.str "lose",.str z]
 |.find z=>[.str "find",.str z]
 |.say z=>[.str "say",.str z]
def Dd.zl:Dd->Prop
 |.haul _ z=>z.length<=1000
 |.lower _=>True
 |.lose z=>z.length<=1000
 |.find z=>z.length<=1000
 |.say z=>z.length<=1000
noncomputable def W6:Nat->Option Str
 |4=>some "at"
 |5=>some "terms"
 |6=>some "flag"
 |_=>none
def XO(v:V)(i:Nat)(o:Option Addr)(H:Hp):Prop:=match W6 i with
 |none=>o=none
 |some s=>∃a,o=some a/\H a=some (YL a [(s,v)])
noncomputable def wF(a g f e d c b:Addr)(i:Nat):Addr:=[a,g,f,e,d,c,b].getD i a
def VJ(T:List (List Nat))(k:Nat):Prop:=WU lQ T/\(jW lQ T T.length).getD 0 none=none/\k∈mS lQ T T.length/\∀x∈mS lQ T T.length,x<=k
def VH(z:Str)(i:Nat)(v:V):Prop:=(i=3/\oE z 40=false)\/(i=5/\∃(T:List (List Nat)) (k:Nat),v=.int (k:Int)/\z=eL T/\1<=T.length/\T.length<=40/\(∀t∈T,fX t)/\VJ T k)
def Dd.no(m:Nat)(f:Nat->Option Int):Dd->Nat->V->Prop
 |.haul n z,i,v=>(i=1/\¬(0<=n/\n<(m:Int)))\/(i=4/\v=.int 0/\(0<=n/\n<(m:Int))/\V0 z=false)
 |.lower n,i,_=>i=1/\¬(0<=n/\n<(m:Int))
 |.lose z,i,v=>(i=2/\cV z=false)\/(i=6/\v=.str z/\∃c,z=one c/\fU c/\cntF f c<=0)
 |.find z,i,_=>i=2/\cV z=false
 |.say z,i,v=>VH z i v
def Dd.XB(hs:List (Option (List Nat)))(f:Nat->Option Int)(a:List (Option (List Nat)))(b:Nat->Option Int):Dd->Prop
 |.haul _ _=>False
 |.lower n=>∃k:Nat,n=(k:Int)/\k<hs.length/\a=hs.set k none/\b=bK λd=>cntF f d+cnt (bY hs [k]) d
 |.lose z=>∃c,z=one c/\fU c/\0<cntF f c/\a=hs/\b=bK λd=>cntF f d-cnt [c] d
 |.find z=>∃c,z=one c/\fU c/\cntF f c+cnt (bY hs (List.range hs.length)) c<99/\a=hs/\b=bK λd=>cntF f d+cnt [c] d
 |.say z=>z=eL [[117,112]]/\bY hs (List.range hs.length)=[]/\1<=hs.length/\(∀c∈ZX,0<cntF f c)/\a=some ZX::List.replicate (hs.length-1) none/\b=bK λd=>cntF (bK λd=>cntF f d+cnt [] d) d-cnt ZX d
def gE(c:Addr):Sp:=λb H Q E=>∃z,b=[.str z]/\z.length<=1000/\(cV z=true->Q .non H)/\(cV z=false->∀a,Same H a->E (.ref c) none a)
def rV:Z_ ["flag"] ["flag"] (aJ gU):=by fail "sc"
def sV(F:ZQ K "look_for_flag" "look_for_flag" gU f fd)(b:ZM P w K mg base 1 "is_flag" ["text"] kT):Z9 P w K mg base (Zb P w) 2 f fd ["flag"] (gE Zw):=by
 refine F.Ys rV (λc H Q E h=>?_) (λk A a s H c Q E j h=>?_)
 .obtain⟨z,rfl,_⟩:=h;rfl
 obtain⟨z,rfl,i,g,d⟩:=h;refine⟨_,(@aI _ _ _ (bP (hJ (cN (bF b j (by decide) rfl (aA (mv 0) aD)))) (@aI _ _ _ (eA dP rfl rfl rfl G.c_NoFlag G.x_NoFlag Bl (@aL _ _ _ _ _ _ aD))) bE)),?_⟩
 refine⟨z,rfl,i,?_⟩;cases e:cV z with
 |true=>
  exact g e
 |false=>
  exact⟨x0,d e _ (Same.refl _)⟩
def N_(a:fU c):cV (one c)=true:=by rw[pA];exact Ao (show bW c\/dG c from a)
def mE(i j:Addr):Sp:=λh H Q E=>∃B R e f z,h=[.ref B,.ref R,.str z]/\Ze H B R e f/\z.length<=1000/\
 ((cV z=false/\∀a,Same H a->E (.ref j) none a)\/∃c,z=one c/\fU c/\(cntF f c<=0->∀b a,Same H a->a b=some (YL b [("flag",.str z)])->E (.ref i) (some b) a)/\
  (0<cntF f c->∀t g a,Same H a->a t=some (.tup [.ref B,.ref g])->Ze a B g e (bK λd=>cntF f d-cnt [c] d)->Q (.ref t) a))
def xU:Z_ ["halyards", "locker", "flag"] ["halyards", "locker", "flag"] (aJ jO):=by fail "sc"
def wJ(F:ZQ K "behind_lose" "behind_lose" jO f fd)(G:Gs K mg w Zo Zz Zr Zx Z0 Zt Zy Zu Zw Zv Zq Zs Zp Z1)(T:iV P w K mg base 2 "look_for_flag" ["flag"] (gE Zw))(W:iV P w K mg base 3 "taken" ["locker", "flags"] (yI Zr)):Z9 P w K mg base (Zb P w) 4 f fd ["halyards", "locker", "flag"] (mE Zr Zw):=by
 refine F.Ys xU (λU H Q E h=>?_) (λa2 A r s H U Q E L h=>?_)
 .obtain⟨B,R,hs,f,z,rfl,_⟩:=h;rfl
 obtain⟨B,R,hs,f,z,rfl,Y,J,hq⟩:=h;refine⟨_,(@aH _ _ _ _ _ (cR (cP T bV L (by decide) rfl (aA (mv 2) aD))) (@aI _ _ _ (aV (gA (aA (mv 0) (aA (cP W bV L (by decide) rfl (aA (mv 1) (aA (bI (aA (mv 2) aD)) aD))) aD)))))),?_⟩
 obtain⟨⟨X,hB,D⟩,ok,⟨x,hR,lk⟩,b⟩:=id Y;left;rcases hq with⟨l,p⟩|⟨c,rfl,M,p,q⟩
 .exact⟨z,rfl,J,(λk=>by rw[l]at k;cases k),λ_ H' Z=>p H' Z⟩
 refine⟨one c,rfl,J,λ_=>?_,λl=>by rw[N_ M]at l;cases l⟩
 left;refine⟨x0,λg y=>?_⟩
 have j:=aE y (.lst [V.str (one c)])
 have N:Z6 (upd H g (.lst [V.str (one c)])) g=some (([c].map one).map V.str):=bX
 generalize upd H g (.lst [V.str (one c)])=H1 at j N ⊢;left;refine⟨R,g,x,f,[c],rfl,j _ _ hR,lk,b,N,by show 1<=1000;decide,(λd m=>by rw[Ak.mp m];exact M),λe O v S a1 n e2 u=>?_,λi d m e C dx S n ex=>?_⟩
 .have o:=j.trans n
  left;refine⟨r0,λt k=>?_⟩
  have I:=aE k (.tup [.ref B,.ref O])
  have a:=o.trans I
  exact q (e 0 c (Nat.succ_pos _) rfl) t O _ a aG ⟨⟨X,a _ _ hB,D.keep a⟩,ok,⟨v,I _ _ e2,u⟩,eG _⟩
 .cases i with
  |succ i=>cases m
  |zero=>
   cases m;exact p C dx S (j.trans n) ex
def mD(h:Addr):Sp:=λg H Q E=>∃B R b f z,g=[.ref B,.ref R,.str z]/\Ze H B R b f/\b.length<=6/\z.length<=1000/\
 ((cV z=false/\∀a,Same H a->E (.ref h) none a)\/∃c,z=one c/\fU c/\cntF f c+cnt (bY b (List.range b.length)) c<99/\∀t e a,Same H a->a t=some (.tup [.ref B,.ref e])->Ze a B e b (bK λd=>cntF f d+cnt [c] d)->Q (.ref t) a)
def wH:Z_ ["halyards", "locker", "flag"] ["halyards", "locker", "flag"] (aJ jT):=by fail "sc"
def vZ(F:ZQ K "behind_find" "behind_find" jT f fd)(U:iV P w K mg base 2 "look_for_flag" ["flag"] (gE Zw))(S:ZM P w K mg base 2 "put_in" ["locker", "flags"] nY)(T:ZM P w K mg base 2 "all_flags_on" ["halyards"] gW):Z9 P w K mg base (Zb P w) 3 f fd ["halyards", "locker", "flag"] (mD Zw):=by
 refine F.Ys wH (λW H Q E h=>?_) (λa3 A n s H W Q E j h=>?_)
 .obtain⟨B,R,i,f,z,rfl,_⟩:=h;rfl
 obtain⟨B,R,i,f,z,rfl,X,h6,J,hq⟩:=h;refine⟨_,(@aH _ _ _ _ _ (cR (cP U bV j (by decide) rfl (aA (mv 2) aD))) (@aH _ _ _ _ _ (bP (bD SQ (cH cL (iR Cb Dr (UW (Z4.u1 j)) (mv 1) (aA (mv 2) (aA aM aD))) (cC Bq PySem.F.slot_list_count PySem.F.type_list_count Ln (bF T j (by decide) rfl (aA (mv 0) aD)) (aA (mv 2) aD))) (eK rfl G.s_MOST_OF_A_FLAG) (aZ _)) (@aI _ _ _ (eA dP rfl rfl rfl G.c_NoFlag G.x_NoFlag Bl (@aL _ _ _ _ _ _ aD))) bE) (@aI _ _ _ (aV (gA (aA (mv 0) (aA (bF S j (by decide) rfl (aA (mv 1) (aA (bI (aA (mv 2) aD)) aD))) aD))))))),?_⟩
 obtain⟨⟨y,L,d⟩,C,⟨r,x,D⟩,b⟩:=id X;have hD:=pD x
 left;rcases hq with⟨k,qe⟩|⟨c,rfl,hc,h9,q⟩
 .exact⟨z,rfl,J,(λg=>by rw[k]at g;cases g),λ_ H' s'=>qe H' s'⟩
 refine⟨one c,rfl,J,λ_=>?_,λk=>by rw[N_ hc]at k;cases k⟩
 left;refine VF (z:=one c) (.inl x) ?_;rw[D.val c,rL];left;refine⟨B,y,i,rfl,aO L,d,C,by (exact Nat.le_trans (by assumption) (by decide)),λr1 O a1 Z e1=>?_⟩
 have m:=aO e1
 left;refine BP (z:=one c) m ?_;rw[Lh];left;change if decide ((99:Int)<=cntF f c+cnt (bY i (List.range i.length)) c)=true then _ else _
 rw[An (Int.not_le.mpr h9)];refine⟨x0,λe v=>?_⟩
 have u:=Z.trans (aE v (.lst [V.str (one c)]))
 have M:Z6 (upd O e (.lst [V.str (one c)])) e=some (([c].map one).map V.str):=bX
 refine⟨R,e,r,f,[c],rfl,u _ _ x,D,b,M,by show 1<=1000;decide,λN p H3 a2 Y e3 o=>?_⟩
 have l:=u.trans Y
 refine⟨r0,λt g=>?_⟩
 have I:=aE g (.tup [.ref B,.ref N])
 have a:=l.trans I
 exact q t N _ a aG ⟨⟨y,a _ _ L,d.keep a⟩,C,⟨p,I _ _ e3,o⟩,eG _⟩
def EG{n:Nat}(h:k<n):Xm n (k:Int)=some k:=(Ob (by (exact Int.natCast_nonneg _)) (by (exact Int.ofNat_le.mpr (by assumption)))).trans (by rw[Ec])
def M_(h:Z2 H us hs)(k:Nat):Z2 H (us.set k V.non) (hs.set k none):=by
 refine⟨by rw[Dm,Dm,h.len],λj v o a b=>?_⟩
 by_cases e:k=j
 .subst e;rw[List.getElem?_set_self' ]at a b;obtain⟨_,_,rfl⟩:=Bk.mp a;obtain⟨_,_,rfl⟩:=Bk.mp b;rfl
 .rw[Ek e]at a b;exact h.val j v o a b
def lT(h:Addr):Sp:=λg H Q E=>∃(B R:Addr) (b:List (Option (List Nat))) (f:Nat->Option Int) (n:Int),g=[.ref B,.ref R,.int n]/\Ze H B R b f/\b.length<=6/\
 ((¬(0<=n/\n<(b.length:Int))/\∀a,Same H a->E (.ref h) none a)\/∃k:Nat,n=(k:Int)/\k<b.length/\∀t c e a,Same H a->a t=some (.tup [.ref c,.ref e])->H c=none->Ze a c e (b.set k none) (bK λd=>cntF f d+cnt (bY b [k]) d)->Q (.ref t) a)
def OF:Z_ ["halyards", "locker", "number", "behind"] ["halyards", "locker", "number"] (aJ iN):=by fail "sc"
def uF(F:ZQ K "behind_lower" "behind_lower" iN f fd)(v9:iV P w K mg base 1 "look_for_halyard" ["halyards", "number"] (eM Zy))(z0:ZM P w K mg base 2 "put_in" ["locker", "flags"] nY)(wP:ZM P w K mg base 1 "flags_on" ["halyards", "numbers"] nL):Z9 P w K mg base (Zb P w) 3 f fd ["halyards", "locker", "number"] (lT Zy):=by
 refine F.Ys OF (λvs H Q E h=>?_) (λcdv A outer s H vs Q E hr h=>?_)
 .obtain⟨B,R,hs,f,n,rfl,_⟩:=h;rfl
 obtain⟨B,R,hs,f,n,rfl,tw,h6,hq⟩:=h;refine⟨_,(@aH _ _ _ _ _ (cR (cP v9 bV hr (by decide) rfl (aA (mv 0) (aA (mv 2) aD)))) (@aH _ _ _ _ _ (aY 3 OF.nd (cG wD rfl G.b_list lI (aA (mv 0) aD))) (@aH _ _ _ _ _ (sJ cO (yG (mv 3) (mv 2) mW)) (@aI _ _ _ (aV (gA (aA (mv 3) (aA (bF z0 hr (by decide) rfl (aA (mv 1) (aA (bF wP hr (by decide) rfl (aA (mv 0) (aA (bI (aA (mv 2) aD)) aD))) aD))) aD)))))))),?_⟩
 obtain⟨⟨us,hB,hat⟩,ok,⟨kvs,hR,lk⟩,hpos⟩:=id tw;have hul:=hat.len
 have rB:=aO hB
 left;rcases hq with⟨hn,qe⟩|⟨k,rfl,hk,q⟩
 .exact⟨B,us,n,rfl,rB,by ((try clear hn);omega),(λz=>by rw[hul]at z;exact absurd z hn),λ_ H' s'=>qe H' s'⟩
 refine⟨B,us,_,rfl,rB,by ((try clear hk);omega),λ_=>?_,λz=>absurd (show (0:Int)<=(k:Int)/\(k:Int)<(us.length:Int) by ((try clear h6 z);omega)) z⟩
 left;intro l hl;have k1:=aE hl (.lst us)
 have e1:(upd H l (.lst us)) l=some (.lst us):=aG
 generalize upd H l (.lst us)=H1 at k1 e1 ⊢;left;refine UY (o:=V.non) (bO e1) (k:=k) (EG (by ((try clear h6);omega))) ?_
 have k2:Same H (upd H1 l (.lst (us.set k V.non))):=bQ hl k1
 have e2:(upd H1 l (.lst (us.set k V.non))) l=some (.lst (us.set k V.non)):=aG
 generalize upd H1 l (.lst (us.set k V.non))=H2 at k2 e2 ⊢;left;refine⟨x0,λp3 hp3=>?_⟩
 have k3:=aE hp3 (.lst [V.int (k:Int)])
 have e3:Z6 (upd H2 p3 (.lst [V.int (k:Int)])) p3=some (([k]).map λk=>V.int ((k:Nat):Int)):=bX
 have e23:=k3 _ _ e2
 have s03:=k2.trans k3
 generalize upd H2 p3 (.lst [V.int (k:Int)])=H3 at k3 e3 e23 s03 ⊢;left;refine⟨B,p3,us,hs,[k],rfl,aQ s03 rB,hat.keep s03,ok,e3,by show 1<=7;decide,(λj hj=>by rwa[Ak.mp hj]),λr4 H4 hr4 s4 e4=>?_⟩
 have s04:=s03.trans s4
 have hfl:(bY hs [k]).length<=7*1:=sW ok [k]
 left;refine⟨R,r4,kvs,f,_,rfl,s04 _ _ hR,lk,hpos,aO e4,by (exact Nat.le_trans (by assumption) (by decide)),λR' kws H5 hR' s5 e5 lk5=>?_⟩
 have s05:=s04.trans s5
 left;refine⟨r0,λt ht=>?_⟩
 have k6:=aE ht (.tup [.ref l,.ref R'])
 have s06:=s05.trans k6
 refine q t l R' _ s06 aG hl ⟨⟨us.set k V.non,(s4.trans (s5.trans k6)) _ _ e23,M_ (hat.keep s06) k⟩,(λcs hc=>?_),⟨kws,k6 _ _ e5,lk5⟩,eG _⟩;rcases Gr hc with z|z
 .exact ok cs z
 .cases z
def FQ:WU lQ [[117,112]]:=by unfold WU;right
def DX:Zh lQ [[117,112]] (jW lQ [[117,112]] ([[117,112]]:Q7).length) 0 [0]:=.cons (n:=1) (by decide) (by right) (by right) (show Zh _ _ _ ([[117,112]]:Q7).length [] from .nil)
def OM(m:Nat):(List.replicate ((m:Int)).toNat [V.non]).flatten=List.replicate m V.non:=by simp_all
def EJ:[97,98]++[W4 [97,98]]=ZX:=by rw[PU (d:=104) (by decide) (by decide) (by decide) (by right)];rfl
def QC:eW (ZX.map one)=true:=by right
def Qq{f:Nat->Option Int}(i:Ze H B R hs f)(s:ZT Pt H H')(l:eZ Pt H):Ze H' B R hs f:=by
 obtain⟨⟨e,g,b⟩,m,⟨a,d,c⟩,k⟩:=i;exact⟨⟨e,Yb s l g (λ_=>nofun),b.len,λj v h n q=>(b.val j v h n q).keep λp r o _=>Yb s l o λ_=>nofun⟩,m,⟨a,Yb s l d (λ_=>nofun),c⟩,k⟩
def Ze.WC{f:Nat->Option Int}(h:Ze H B R hs f)(k:Same H H'):Ze H' B R hs f:=by
 obtain⟨⟨d,g,e⟩,j,⟨a,c,b⟩,i⟩:=h;exact⟨⟨d,k _ _ g,e.keep k⟩,j,⟨a,k _ _ c,b⟩,i⟩
def oF(h m n:Addr):Sp:=λl H Q E=>∃(b B R:Addr) (e:List (Option (List Nat))) (f:Nat->Option Int) (z:Str),l=[.ref b,.ref B,.ref R,.str z]/\ZA H b ZZ/\Ze H B R e f/\e.length<=6/\eZ h H/\z.length<=1000/\
 ((oE z 40=false/\∀a,Same H a->E (.ref m) none a)\/
  (∃(T:Q7) (k:Nat),z=eL T/\1<=T.length/\T.length<=40/\(∀t∈T,fX t)/\VJ T k/\∀g a,Same H a->a g=some (YL g [("terms",.int (k:Int))])->E (.ref n) (some g) a)\/
  (z=eL [[117,112]]/\bY e (List.range e.length)=[]/\1<=e.length/\(∀c∈ZX,0<cntF f c)/\∀t i j a,ZT h H a->eZ h a->a t=some (.tup [.ref i,.ref j])->H i=none->Ze a i j (some ZX::List.replicate (e.length-1) none) (bK λd=>cntF (bK λd=>cntF f d+cnt [] d) d-cnt ZX d)->Q (.ref t) a))
def u8:Z_ ["book", "halyards", "locker", "text", "words", "more", "hoists", "bare"] ["book", "halyards", "locker", "text"] (aJ hV):=by fail "sc"
def zG(F:ZQ K "behind_say" "behind_say" hV f fd)(z0:ZM P w K mg base 2 "put_in" ["locker", "flags"] nY)(i3:ZM P w K mg base 3 "hang_all" ["locker", "words"] tM)(z5:ZM P w K mg base 5 "with_check" ["word"] gM)(x8:ZM P w K mg base 2 "all_flags_on" ["halyards"] gW)(v0:iV P w K mg base 3 "taken" ["locker", "flags"] (yI Zr))(u0:iV P w K mg base 4 "cut_text" ["book", "text"] (nG Pt Zq Zv)):Z9 P w K mg base (Zb P w) 6 f fd ["book", "halyards", "locker", "text"] (oF Pt Zv Zq):=by
 refine F.Ys u8 (λvs H Q E h=>?_) (λf8 A c5 s H vs Q E y h=>?_)
 .obtain⟨b,B,R,a,f,z,rfl,_⟩:=h;rfl
 obtain⟨b,B,R,a,f,z,rfl,a9,tw,h6,M,hz,hq⟩:=h;refine⟨_,(@aH _ _ _ _ _ (dW (i:=4) u8.nd rfl (Or.inl rfl) rfl (bU (cP u0 bV y (by decide) rfl (aA (mv 0) (aA (mv 3) aD)))) (fG (N:=["number", "book"]) ["book", "halyards", "locker", "text", "words", "more", "hoists", "bare"] (aJ hV) [none,some 0] rfl rfl rfl (λx h=>cE h) (by right)) (by right) rfl (by right) (λ_ _ _ _=>(bB (i:=0) (show List.Nodup (["number", "book"]:List Str) by right) rfl (Or.inl rfl))) (λ_ _ _ _=>cI) (λ_ _ _ _=>(bF z5 y (by decide) rfl (aA (bH bZ (bH bZ (mv 1) (mv 0) (λ_ _=>rfl)) aM (λ_ _=>rfl)) aD)))) (@aH _ _ _ _ _ (bP (bD uM (aP cK rfl G.b_len bR (aA (mv 4) aD)) (aP cK rfl G.b_len bR (aA (mv 1) aD)) (aZ _)) (@aI _ _ _ (eA dP rfl rfl rfl G.c_NoHalyard G.x_NoHalyard Bl (@aL _ _ _ _ _ _ aD))) bE) (@aH _ _ _ _ _ (aY 5 u8.nd (bF z0 y (by decide) rfl (aA (mv 2) (aA (bF x8 y (by decide) rfl (aA (mv 1) aD)) aD)))) (@aH _ _ _ _ _ (aY 6 u8.nd (bF i3 y (by decide) rfl (aA (mv 5) (aA (mv 4) aD)))) (@aH _ _ _ _ _ (aY 7 u8.nd (cH SX (bI (aA cO aD)) (cH tQ (aP cK rfl G.b_len bR (aA (mv 1) aD)) (aP cK rfl G.b_len bR (aA (mv 6) aD))))) (@aI _ _ _ (aV (gA (aA (cH cL (mv 6) (mv 7)) (aA (cP v0 bV y (by decide) rfl (aA (mv 5) (aA (bF x8 y (by decide) rfl (aA (mv 6) aD)) aD))) aD)))))))))),?_⟩
 have hL:=SV uX (by decide)
 left;refine⟨b,z,ZZ,lQ,rfl,a9,by decide,uX,hz,M,?_⟩
 rcases hq with⟨y,qe⟩|⟨T,k,rfl,t1,c1,tT,C,qe⟩|⟨rfl,d2,h1,d4,q⟩
 .exact .inr ⟨y,qe⟩
 .exact .inl ⟨T,rfl,t1,c1,tT,C.1,.inl ⟨k,C.2.1,C.2.2.1,C.2.2.2,qe⟩⟩
 refine .inl ⟨_,rfl,by decide,by decide,by unfold fX vQ;decide,FQ,.inr ⟨[0],DX,λr1 H1 f5 s1 l1 e1=>?_⟩⟩
 have d6:=Vq a9 s1 M
 have b8:=Qq tw s1 M
 obtain⟨qs,b1,b2,b3⟩:=id d6;have rq:=aO b1
 have a6:qs[0]?=some (qs[0]'(by rw[b2];decide)):=Aa _
 have b9:=b3 0 _ _ a6 rfl
 left;refine eO (xs:=(([0]).map λk=>V.int ((k:Nat):Int))) (λj=>([V.str (bS ZX)]:List V)[j]?) (aO e1) (by decide) (λj x Hc A B hx sm hA hB=>?_) (λD H2 hD sD m=>?_)
 .obtain ⟨rfl,rfl⟩:j=0/\x=V.int ((0:Nat):Int):=by
   match j,hx with
   |0,hx=>exact⟨rfl,(Ay hx).symm⟩
  have tp:=sm _ _ b9
  left;refine⟨Wk.set rfl (Wk.refl _),?_⟩;left;refine cA (aQ sm rq) (v:=.ref (qs[0]'(by rw[b2];decide))) (aX (by rw[Ae,a6];rfl)) ?_
  left;refine cW tp (v:=.str (bS [97,98])) (aX (j:=0) rfl) ?_;left;exact⟨_,rfl,by decide,by decide,by decide,λH' s' _ _=>hA _ (by rw[EJ];rfl) H' s'⟩
 replace m:H2 D=some (.lst [V.str (bS ZX)]):=m
 have s2:=s1.trans (Same.p sD)
 have l2:=l1.keep sD
 have b7:=b8.WC sD
 obtain⟨⟨us,hB,b5⟩,ok,⟨c7,hR,lk⟩,a7⟩:=id b7;have rB:=aO hB
 have c3:=aO m
 have a5:=b5.len
 left;rw[a5,An (show ¬((a.length:Nat):Int)<(([V.str (bS ZX)].length:Nat):Int) by show ¬((a.length:Nat):Int)<1;((try clear b2 hz);omega))]
 left;refine⟨B,us,a,rfl,rB,b5,ok,by (exact Nat.le_trans (by assumption) (by decide)),λr3 H3 f4 s3 e3=>?_⟩
 rw[d2]at e3;left;refine⟨R,r3,c7,f,[],rfl,s3 _ _ hR,lk,a7,aO e3,by decide,λr4 a4 H4 f3 s4 e4 a2=>?_⟩
 have l:=s3.trans s4
 have c2:=aQ l c3
 have I:∀c∈ZX,0<cntF (bK λd=>cntF f d+cnt [] d) c:=λc W=>by
  have h0:0<cntF f c+cnt [] c:=by have:=d4 c W;show 0<cntF f c+0;((try clear a5 b2 h1 h6 hz);omega)
  rw[fD ((by unfold fU;decide:∀c∈ZX,fU c) c W) (Int.le_of_lt h0)]
  exact h0
 left;refine⟨r4,D,a4,_,rfl,e4,a2,c2,I,λrh u H5 f1 f6 U er ep=>?_⟩;have a1:=aO er
 have c4:=aQ (l.trans U) rB
 have b4:Z2 H5 [V.ref u] [some ZX]:=⟨rfl,λj v h O S=>by
  match j,O,S with
  |0,O,S=>
   cases O;cases S;exact⟨u,rfl,ep⟩⟩
 have c6:lM [some ZX]:=λcs W=>by
  cases Ak.mp W;exact QC
 left;refine⟨x0,λp6 d1=>?_⟩
 have k6:=aE d1 (.lst [V.non])
 have e6:(upd H5 p6 (.lst [V.non])) p6=some (.lst [V.non]):=aG
 generalize upd H5 p6 (.lst [V.non])=H6 at k6 e6 ⊢;have e2:=aQ k6 c4
 have d8:=aQ k6 a1
 left;rw[a5,show ((a.length:Nat):Int)-(([V.ref u].length:Nat):Int)=((a.length-1:Nat):Int) by show ((a.length:Nat):Int)-1=_;((try clear b2 hz);omega)]
 refine⟨p6,_,[V.non],rfl,rfl,e6,by (exact Int.natCast_nonneg _),by omega,by show 1*(((a.length-1:Nat):Int)).toNat<=sizeLine;exact bJ (by ((try clear b2 hz);omega)),λp7 c9=>?_⟩
 rw[OM];have k7:=k6.trans (aE c9 (.lst (List.replicate (a.length-1) V.non)))
 have e7:(upd H6 p7 (.lst (List.replicate (a.length-1) V.non))) p7=some (.lst (List.replicate (a.length-1) V.non)):=aG
 generalize upd H6 p7 (.lst (List.replicate (a.length-1) V.non))=H7 at k7 e7 ⊢;left;refine eV (xs:=[V.ref u]) (ys:=List.replicate (a.length-1) V.non) (bO (k7 _ _ er)) (bO e7) (bJ (by rw[Ca];show 1+_<=_;((try clear b2 hz);omega))) λr a8=>?_
 have k8:=k7.trans (aE a8 (.lst ([V.ref u]++List.replicate (a.length-1) V.non)))
 have e8:(upd H7 r (.lst ([V.ref u]++List.replicate (a.length-1) V.non))) r=some (.lst (V.ref u::List.replicate (a.length-1) V.non)):=aG
 have g:H5 r=none:=none_of k7 a8
 generalize upd H7 r (.lst ([V.ref u]++List.replicate (a.length-1) V.non))=H8 at k8 e8 ⊢;left;refine⟨rh,_,[some ZX],rfl,aQ k8 a1,b4.keep k8,c6,by decide,λr9 H9 f2 s9 e9=>?_⟩
 replace e9:H9 r9=some (.lst ((ZX.map one).map V.str)):=e9
 have X:=k8.trans s9
 have d3:vP (bK λd=>cntF f d+cnt [] d) ZX ZX.length:=λj d hj m=>by
  have hp:=I d (As m)
  match j,m with
  |0,m=>cases m;exact hp
  |1,m=>cases m;exact hp
  |2,m=>cases m;exact hp
 left;refine⟨r4,r9,a4,_,ZX,rfl,(U.trans X) _ _ e4,a2,eG _,aO e9,by decide,(by unfold fU;decide),λ_ J e5 d7 d9 Z d5 a3=>?_,λi c hi _ f7=>absurd (d3 i c (Ag.mp hi).1 hi) (by ((try clear a5 b2 h1 h6 hz);omega))⟩
 have Y:=X.trans Z
 left;refine⟨r0,λt ht=>?_⟩
 have kt:=aE ht (.tup [.ref r,.ref J])
 have n:=Y.trans kt
 have sH:ZT Pt H (upd d7 t (.tup [.ref r,.ref J])):=s2.trans (Same.p (l.trans (U.trans n)))
 have lH:=l2.keep (l.trans (U.trans n))
 have b6:=(s9.trans (Z.trans kt)) _ _ e8
 have L:H r=none:=by
  by_cases e:r=Pt
  .obtain⟨tb,c8⟩:=(l2.keep (l.trans U)).tb;rw[e,c8]at g;cases g
  .cases eH:H r with
   |none=>rfl
   |some o=>rw[(s2.trans (Same.p (l.trans U))) r o e eH]at g;cases g
 refine q t r J _ sH lH aG L ⟨⟨_,b6,?_⟩,?_,⟨_,kt _ _ d5,a3⟩,eG _⟩
 .refine⟨by rw[Be,Be,Ca,Ca],λj v h O S=>?_⟩
  cases j with
  |zero=>cases O;cases S;exact⟨u,rfl,n _ _ ep⟩
  |succ j=>
   rw[List.getElem?_cons_succ]at O S;rw[Fp (As O),Fp (As S)];rfl
 .intro cs W;rcases Ba.mp W with z|z
  .cases z;exact QC
  .cases (List.mem_replicate.mp z).2
def nI(f e:Addr):Sp:=λd H _ E=>∃B R b n z,d=[.ref B,.ref R,.int n,.str z]/\Z6 H B=some b/\b.length<=1000/\z.length<=1000/\
 ((¬(0<=n/\n<(b.length:Int))/\∀a,Same H a->E (.ref f) none a)\/
  ((0<=n/\n<(b.length:Int))/\V0 z=false/\∀c a,Same H a->a c=some (YL c [("at",.int 0)])->E (.ref e) (some c) a))
def Qs:Z_ ["halyards", "locker", "number", "word", "told"] ["halyards", "locker", "number", "word"] (aJ jI):=by fail "sc"
def wQ(F:ZQ K "behind_haul" "behind_haul" jI f fd)(o:iV P w K mg base 1 "look_for_halyard" ["halyards", "number"] (eM Zy))(u:ZM P w K mg base 1 "hauled" ["locker", "halyards", "number", "word"] PC)(t:ZM P w K mg base 3 "is_checked" ["word"] oU)(p:Wa P w K mg base 1 Zu ["self", "at"] (iS Zu)):Z9 P w K mg base (Zb P w) 4 f fd ["halyards", "locker", "number", "word"] (nI Zy Zu):=by
 refine F.Ys Qs (λm H Q E h=>?_) (λD A g s H m Q E c h=>?_)
 .obtain⟨B,R,d,n,z,rfl,_⟩:=h;rfl
 obtain⟨B,R,d,n,z,rfl,k,b,v,x⟩:=h;refine⟨_,(@aH _ _ _ _ _ (cR (cP o bV c (by decide) rfl (aA (mv 0) (aA (mv 2) aD)))) (@aH _ _ _ _ _ (bP (hJ (cN (bF t c (by decide) rfl (aA (mv 3) aD)))) (@aI _ _ _ (nW dP rfl rfl rfl G.c_NoWord G.Yp p c (by decide) (aA aM aD))) bE) (@aH _ _ _ _ _ (aY 4 Qs.nd (bF u c (by decide) rfl (aA (mv 1) (aA (mv 0) (aA (mv 2) (aA (mv 3) aD)))))) (@aI _ _ _ (aV (gA (aA (bH bZ (mv 4) aM (λ_ _=>rfl)) (aA (bH bZ (mv 4) aM (λ_ _=>rfl)) aD)))))))),?_⟩
 rcases x with⟨i,e⟩|⟨i,y,e⟩
 .exact⟨B,d,n,rfl,k,b,(λh=>absurd h i),λ_ I r=>e I r⟩
 refine⟨B,d,n,rfl,k,b,λ_=>?_,λh=>absurd i h⟩;refine⟨z,rfl,v,λJ q=>?_⟩;rw[y];refine⟨x0,λC j=>⟨C,_,rfl,aG,λl a=>⟨rfl,some l,(jM a).1,?_⟩⟩⟩
 exact e l _ (mU q j a) (jM a).2
def nF(j y x w u s r q:Addr):Sp:=λp H Q E=>∃(b h k m:Addr) (e:List (Option (List Nat))) (f:Nat->Option Int) (d:Dd),p=[.ref b,.ref h,.ref k,.ref m]/\Ze H h k e f/\e.length<=6/\ZA H b ZZ/\eZ j H/\H m=some (.tup d.vs)/\d.zl/\
 ((∃i v,d.no e.length f i v/\∀o a,Same H a->XO v i o a->E (.ref (wF y x w u s r q i)) o a)\/
  (∃c l,d.XB e f c l/\∀t g n a,ZT j H a->eZ j a->a t=some (.tup [.ref g,.ref n])->(g=h\/H g=none)->Ze a g n c l->Q (.ref t) a))
def xR:Z_ ["book", "halyards", "locker", "deed"] ["book", "halyards", "locker", "deed"] (aJ jG):=by fail "sc"
def xK(F:ZQ K "behind_deed" "behind_deed" jG f fd)(G:Gs K mg w Zo Zz Zr Zx Z0 Zt Zy Zu Zw Zv Zq Zs Zp Z1)(i6:iV P w K mg base 6 "behind_say" ["book", "halyards", "locker", "text"] (oF Pt Zv Zq))(i7:iV P w K mg base 4 "behind_haul" ["halyards", "locker", "number", "word"] (nI Zy Zu))(i8:iV P w K mg base 3 "behind_lower" ["halyards", "locker", "number"] (lT Zy))(i9:iV P w K mg base 4 "behind_lose" ["halyards", "locker", "flag"] (mE Zr Zw))(gV:iV P w K mg base 3 "behind_find" ["halyards", "locker", "flag"] (mD Zw)):Z9 P w K mg base (Zb P w) 7 f fd ["book", "halyards", "locker", "deed"] (nF Pt Zp Zy Zw Zv Zu Zq Zr):=by
 refine F.Ys xR (λvs H Q E h=>?_) (λa8 A a1 s H vs Q E J h=>?_)
 .obtain⟨b,C,U,V,X,f,d,rfl,_⟩:=h;rfl
 obtain⟨b,C,U,V,X,f,d,rfl,W,h6,a5,x,a,y,Y⟩:=h;refine⟨_,(@aH _ _ _ _ _ (bP (bD fW (bH bZ (mv 3) aM (λ_ _=>rfl)) cB (aZ _)) (@aI _ _ _ (aV (cP i7 bV J (by decide) rfl (aA (mv 1) (aA (mv 2) (aA (bH bZ (mv 3) aM (λ_ _=>rfl)) (aA (bH bZ (mv 3) aM (λ_ _=>rfl)) aD))))))) bE) (@aH _ _ _ _ _ (bP (bD fW (bH bZ (mv 3) aM (λ_ _=>rfl)) cB (aZ _)) (@aI _ _ _ (aV (cP i8 bV J (by decide) rfl (aA (mv 1) (aA (mv 2) (aA (bH bZ (mv 3) aM (λ_ _=>rfl)) aD)))))) bE) (@aH _ _ _ _ _ (bP (bD fW (bH bZ (mv 3) aM (λ_ _=>rfl)) cB (aZ _)) (@aI _ _ _ (aV (cP i9 bV J (by decide) rfl (aA (mv 1) (aA (mv 2) (aA (bH bZ (mv 3) aM (λ_ _=>rfl)) aD)))))) bE) (@aH _ _ _ _ _ (bP (bD fW (bH bZ (mv 3) aM (λ_ _=>rfl)) cB (aZ _)) (@aI _ _ _ (aV (cP gV bV J (by decide) rfl (aA (mv 1) (aA (mv 2) (aA (bH bZ (mv 3) aM (λ_ _=>rfl)) aD)))))) bE) (@aI _ _ _ (aV (cP i6 bV J (by decide) rfl (aA (mv 0) (aA (mv 1) (aA (mv 2) (aA (bH bZ (mv 3) aM (λ_ _=>rfl)) aD))))))))))),?_⟩
 obtain⟨us,hB,a7⟩:=W.VE;have a3:=a7.len
 cases d with
 |haul n z=>
  replace a:H V=some (.tup [.str "haul",.int n,.str z]):=a
  have tt:=dN a
  left;refine cW a (v:=.str "haul") (aX (j:=0) rfl) ?_;left;rw[show decide ("haul"=(Str.ofString "haul"))=true from Ao rfl];left;refine cW a (v:=.int n) (aX (j:=1) rfl) ?_;left;refine cW a (v:=.str z) (aX (j:=2) rfl) ?_;left;refine⟨C,U,us,n,z,rfl,aO hB,by omega,y,?_⟩
  rw[a3];rcases Y with⟨i,v,⟨rfl,Z⟩|⟨rfl,rfl,Z,M⟩,r⟩|⟨_,_,h,_⟩
  .exact .inl ⟨Z,λm g=>r none m g rfl⟩
  .exact .inr ⟨Z,M,λD m g e=>r (some D) m g ⟨D,rfl,e⟩⟩
  .exact h.elim
 |lower n=>
  replace a:H V=some (.tup [.str (Str.ofString "lower"),.int n]):=a
  have tt:=dN a
  left;refine cW a (v:=.str (Str.ofString "lower")) (aX (j:=0) rfl) ?_;left;rw[show decide ((Str.ofString "lower")=(Str.ofString "haul"))=false from by right]
  left;refine cW a (v:=.str (Str.ofString "lower")) (aX (j:=0) rfl) ?_;left;rw[show decide ((Str.ofString "lower")=(Str.ofString "lower"))=true from Ao rfl];left;refine cW a (v:=.int n) (aX (j:=1) rfl) ?_;left;refine⟨C,U,X,f,n,rfl,W,h6,?_⟩;rcases Y with⟨i,v,⟨rfl,Z⟩,r⟩|⟨I,f',⟨k,rfl,hk,rfl,rfl⟩,q⟩
  .exact .inl ⟨Z,λm g=>r none m g rfl⟩
  .exact .inr ⟨k,rfl,hk,λt B' S m g O N o=>q t B' S m (Same.p g) (x.keep g) O (.inr N) o⟩
 |lose z=>
  replace a:H V=some (.tup [.str (Str.ofString "lose"),.str z]):=a
  have tt:=dN a
  left;refine cW a (v:=.str (Str.ofString "lose")) (aX (j:=0) rfl) ?_;left;rw[show decide ((Str.ofString "lose")=(Str.ofString "haul"))=false from by right]
  left;refine cW a (v:=.str (Str.ofString "lose")) (aX (j:=0) rfl) ?_;left;rw[show decide ((Str.ofString "lose")=(Str.ofString "lower"))=false from by right]
  left;refine cW a (v:=.str (Str.ofString "lose")) (aX (j:=0) rfl) ?_;left;rw[show decide ((Str.ofString "lose")=(Str.ofString "lose"))=true from Ao rfl];left;refine cW a (v:=.str z) (aX (j:=1) rfl) ?_;left;refine⟨C,U,X,f,z,rfl,W,y,?_⟩;rcases Y with⟨i,v,⟨rfl,hf⟩|⟨rfl,rfl,c,a2,M,L⟩,r⟩|⟨I,f',⟨c,rfl,M,u,rfl,rfl⟩,q⟩
  .exact .inl ⟨hf,λm g=>r none m g rfl⟩
  .exact .inr ⟨c,a2,M,(λ_ D m g e=>r (some D) m g ⟨D,rfl,e⟩),λu=>absurd u (Int.not_lt.mpr L)⟩
  .exact .inr ⟨c,rfl,M,(λL=>absurd u (Int.not_lt.mpr L)),λ_ t S m g O o=>q t C S m (Same.p g) (x.keep g) O (.inl rfl) o⟩
 |find z=>
  replace a:H V=some (.tup [.str (Str.ofString "find"),.str z]):=a
  have tt:=dN a
  left;refine cW a (v:=.str (Str.ofString "find")) (aX (j:=0) rfl) ?_;left;rw[show decide ((Str.ofString "find")=(Str.ofString "haul"))=false from by right]
  left;refine cW a (v:=.str (Str.ofString "find")) (aX (j:=0) rfl) ?_;left;rw[show decide ((Str.ofString "find")=(Str.ofString "lower"))=false from by right]
  left;refine cW a (v:=.str (Str.ofString "find")) (aX (j:=0) rfl) ?_;left;rw[show decide ((Str.ofString "find")=(Str.ofString "lose"))=false from by right]
  left;refine cW a (v:=.str (Str.ofString "find")) (aX (j:=0) rfl) ?_;left;rw[show decide ((Str.ofString "find")=(Str.ofString "find"))=true from Ao rfl];left;refine cW a (v:=.str z) (aX (j:=1) rfl) ?_;left;refine⟨C,U,X,f,z,rfl,W,h6,y,?_⟩;rcases Y with⟨i,v,⟨rfl,hf⟩,r⟩|⟨I,f',⟨c,rfl,M,u,rfl,rfl⟩,q⟩
  .exact .inl ⟨hf,λm g=>r none m g rfl⟩
  .exact .inr ⟨c,rfl,M,u,λt S m g O o=>q t C S m (Same.p g) (x.keep g) O (.inl rfl) o⟩
 |say z=>
  replace a:H V=some (.tup [.str (Str.ofString "say"),.str z]):=a
  have tt:=dN a
  left;refine cW a (v:=.str (Str.ofString "say")) (aX (j:=0) rfl) ?_;left;rw[show decide ((Str.ofString "say")=(Str.ofString "haul"))=false from by right]
  left;refine cW a (v:=.str (Str.ofString "say")) (aX (j:=0) rfl) ?_;left;rw[show decide ((Str.ofString "say")=(Str.ofString "lower"))=false from by right]
  left;refine cW a (v:=.str (Str.ofString "say")) (aX (j:=0) rfl) ?_;left;rw[show decide ((Str.ofString "say")=(Str.ofString "lose"))=false from by right]
  left;refine cW a (v:=.str (Str.ofString "say")) (aX (j:=0) rfl) ?_;left;rw[show decide ((Str.ofString "say")=(Str.ofString "find"))=false from by right]
  left;refine cW a (v:=.str z) (aX (j:=1) rfl) ?_;left;refine⟨b,C,U,X,f,z,rfl,a5,W,h6,x,y,?_⟩;rcases Y with⟨i,v,⟨rfl,J⟩|⟨rfl,T,k,rfl,t⟩,r⟩|⟨I,f',⟨rfl,a4,h1,a6,rfl,rfl⟩,q⟩
  .exact .inl ⟨J,λm g=>r none m g rfl⟩
  .exact .inr (.inl ⟨T,k,t.1,t.2.1,t.2.2.1,t.2.2.2.1,t.2.2.2.2,λD m g e=>r (some D) m g ⟨D,rfl,e⟩⟩)
  .exact .inr (.inr ⟨rfl,a4,h1,a6,λt B' S m g l' O N o=>q t B' S m g l' O (.inr N) o⟩)
noncomputable def Y1(b:Addr)(m:Int)(a st c dd:Addr):List (Str×V):=[("book",.ref b),("many",.int m),("stock_at_first",.ref a),("stock",.ref st),("hung",.ref c),("deeds",.ref dd)]
noncomputable def V_(b:Addr):List (Str×V):=[("book",.ref b)]
noncomputable def Wx(b:Addr)(m:Int):List (Str×V):=[("book",.ref b),("many",.int m)]
noncomputable def WD(b:Addr)(m:Int)(a:Addr):List (Str×V):=[("book",.ref b),("many",.int m),("stock_at_first",.ref a)]
noncomputable def WR(b:Addr)(m:Int)(a st:Addr):List (Str×V):=[("book",.ref b),("many",.int m),("stock_at_first",.ref a),("stock",.ref st)]
noncomputable def Xe(b:Addr)(m:Int)(a st c:Addr):List (Str×V):=[("book",.ref b),("many",.int m),("stock_at_first",.ref a),("stock",.ref st),("hung",.ref c)]
def Na:fZ "book" (.ref b) []=V_ b:=rfl
def K3{m:Int}:fZ "many" (.int m) (V_ b)=Wx b m:=rfl
def A6{m:Int}:fZ "stock_at_first" (.ref s0) (Wx b m)=WD b m s0:=rfl
def B9{m:Int}:fZ "stock" (.ref st) (WD b m s0)=WR b m s0 st:=rfl
def BN{m:Int}:fZ "hung" (.ref hg) (WR b m s0 st)=Xe b m s0 st hg:=rfl
def Ld{m:Int}:fZ "deeds" (.ref dd) (Xe b m s0 st hg)=Y1 b m s0 st hg dd:=rfl
def Qc{m:Int}:(Y1 b m s0 st hg dd).lookup ("book" : Str)=some (.ref b):=rfl
def RF{m:Int}:(Y1 b m s0 st hg dd).lookup ("stock" : Str)=some (.ref st):=rfl
def So{m:Int}:(Y1 b m s0 st hg dd).lookup ("hung" : Str)=some (.ref hg):=rfl
def P2{m:Int}:(Y1 b m s0 st hg dd).lookup ("deeds" : Str)=some (.ref dd):=rfl
def GK{m:Int}:(Y1 b m s0 st hg dd).lookup ("do" : Str)=none:=rfl
def FA{m:Int}:(Y1 b m s0 st hg dd).lookup ("read" : Str)=none:=rfl
def Nf{m:Int}:(Y1 b m s0 st hg dd).lookup ("log" : Str)=none:=rfl
def Im{m:Int}:(Y1 b m s0 st hg dd).lookup ("locker" : Str)=none:=rfl
def yC{m:Int}:(Y1 b m s0 st hg dd).lookup ("halyards" : Str)=none:=rfl
def Mm{m:Int}{h':Addr}:fZ "hung" (.ref h') (Y1 b m s0 st hg dd)=Y1 b m s0 st h' dd:=rfl
def Jg{m:Int}{s':Addr}:fZ "stock" (.ref s') (Y1 b m s0 st hg dd)=Y1 b m s0 s' hg dd:=rfl
def ZS(l:List Addr)(H a:Hp):Prop:=∀b o,b∉l->H b=some o->a b=some o
def ZS.of(s:Same H H'):ZS l H H':=λb o _ e=>s b o e
def ZS.trans{a:Hp}(s:ZS l H H')(t:ZS l H' a):ZS l H a:=λb o n e=>t b o n (s b o n e)
def ZS.put(a:x∈l)(s:ZS l H H'):ZS l H (upd H' x o):=λb u n e=>by rw[aK (λz=>n (by simp_all))];exact s b u n e
def S1(s:ZS l H H')(n:a∉l)(h:Rd H a u):Rd H' a u:=by
 rcases h with h|⟨o,h⟩
 .exact .inl (s _ _ n h)
 .exact .inr ⟨o,s _ _ n h⟩
def ZS.none(s:ZS l H H')(n:x∉l)(h:H' x=none):H x=none:=by
 cases e:H x with
 |none=>rfl
 |some o=>rw[s x o n e]at h;cases h
def jJ(C:Addr):Sp:=λn H Q _=>∃(x b l k:Addr) (i:List V) (c:List (Key×V)) (f:Nat->Option Int) (m:Nat),n=[.ref x,.ref b,.ref l,.int (m:Int)]/\H x=some (.ins C k [])/\Z6 H b=some i/\Rd H l (.dK c)/\Lk c f/\m<=6/\
 ∀g j h e d a,H g=none->H e=none->H d=none->H h=none->e≠d->g≠d->ZS [x] H a->a x=some (.ins C k (Y1 g m j h e d))->a g=some (.lst i)->a j=some (.dK (Zn (cntF f) (aU (cntF f) 27)))->a h=some (.dK (Zn (cntF f) (aU (cntF f) 27)))->
  a e=some (.lst (List.replicate m V.non))->a d=some (.lst [])->Q .non a
def yX:Z_ ["self", "book", "locker", "many"] ["self", "book", "locker", "many"] (aJ lC):=by fail "sc"
def yY(F:ZQ K "__init__" "Tower.__init__" lC f fd)(y1:ZM P w K mg base 1 "plain_locker" ["locker"] cY):Z9 P w K mg base ZO 2 f fd ["self", "book", "locker", "many"] (jJ Z0):=by
 refine F.ok yX (λvs H Q E h=>?_) (λcdv A outer s H vs Q E hr h=>?_)
 .obtain⟨x,b,l,dx,xs,kvs,f,m,rfl,_⟩:=h;rfl
 obtain⟨x,b,l,dx,xs,kvs,f,m,rfl,hx,hb,hl,hk,hm,q⟩:=h;refine⟨_,(@aH _ _ _ _ _ (jR (mv 0) (cG wD rfl G.b_list lI (aA (mv 1) aD)) rfl) (@aH _ _ _ _ _ (jR (mv 0) (mv 3) rfl) (@aH _ _ _ _ _ (jR (mv 0) (bF y1 hr (by decide) rfl (aA (mv 2) aD)) rfl) (@aH _ _ _ _ _ (jR (mv 0) (bF y1 hr (by decide) rfl (aA (mv 2) aD)) rfl) (@aH _ _ _ _ _ (jR (mv 0) (cH SX (bI (aA cO aD)) (mv 3)) rfl) (@aI _ _ _ (jR (mv 0) (bI aD) rfl))))))),?_⟩
 left;intro b' hb';have nx:b'≠x:=λz=>by rw[z,hx]at hb';cases hb'
 have nl:l∉[x]:=λz=>by
  rw[Ak.mp z]at hl;rcases hl with h|⟨_,h⟩ <;> (rw[hx]at h;cases h)
 have sE1:ZS [x] H (upd H b' (.lst xs)):=.of (aE hb' (.lst xs))
 have e1:(upd H b' (.lst xs)) b'=some (.lst xs):=aG
 have x1:=aE hb' (.lst xs) _ _ hx
 generalize upd H b' (.lst xs)=H1 at sE1 e1 x1 ⊢;have nin:∀ {y:Addr} {o:HO} {H':Hp} {fs:List (Str×V)},H' y=some o->H' x=some (.ins Z0 dx fs)->(∀fs',o≠.ins Z0 dx fs')->y≠x:=λe1 e2 n z=>by rw[z,e2]at e1;cases e1;exact n _ rfl
 left;refine⟨x,Z0,dx,[],rfl,x1,G.Z5,G.na_Tower_book,by decide,?_⟩
 rw[Na];have sE2:=sE1.put (o:=.ins Z0 dx (V_ b')) (Ak.mpr rfl)
 have x2:(upd H1 x (.ins Z0 dx (V_ b'))) x=some (.ins Z0 dx (V_ b')):=aG
 have e2:(upd H1 x (.ins Z0 dx (V_ b'))) b'=some (.lst xs):=by rw[aK nx];exact e1
 generalize upd H1 x (.ins Z0 dx (V_ b'))=H2 at sE2 x2 e2 ⊢;left;refine⟨x,Z0,dx,_,rfl,x2,G.Z5,G.na_Tower_many,by show 1<1000;decide,?_⟩
 rw[K3];have sE3:=sE2.put (o:=.ins Z0 dx (Wx b' (m:Int))) (Ak.mpr rfl)
 have x3:(upd H2 x (.ins Z0 dx (Wx b' (m:Int)))) x=some (.ins Z0 dx (Wx b' (m:Int))):=aG
 have e3:(upd H2 x (.ins Z0 dx (Wx b' (m:Int)))) b'=some (.lst xs):=by rw[aK nx];exact e2
 generalize upd H2 x (.ins Z0 dx (Wx b' (m:Int)))=H3 at sE3 x3 e3 ⊢;left;refine⟨l,kvs,f,rfl,S1 sE3 nl hl,hk,λs0 H4 hs0 s4 d4=>?_⟩;have sE4:=sE3.trans (.of s4)
 have x4:=s4 _ _ x3
 have e4:=s4 _ _ e3
 have n0:=nin d4 x4 λ_=>nofun
 left;refine⟨x,Z0,dx,_,rfl,x4,G.Z5,G.na_Tower_stock_at_first,by show 2<1000;decide,?_⟩
 rw[A6];have sE5:=sE4.put (o:=.ins Z0 dx (WD b' (m:Int) s0)) (Ak.mpr rfl)
 have x5:(upd H4 x (.ins Z0 dx (WD b' (m:Int) s0))) x=some (.ins Z0 dx (WD b' (m:Int) s0)):=aG
 have e5:(upd H4 x (.ins Z0 dx (WD b' (m:Int) s0))) b'=some (.lst xs):=by rw[aK nx];exact e4
 have d5:(upd H4 x (.ins Z0 dx (WD b' (m:Int) s0))) s0=some (.dK (Zn (cntF f) (aU (cntF f) 27))):=by rw[aK n0];exact d4
 generalize upd H4 x (.ins Z0 dx (WD b' (m:Int) s0))=H5 at sE5 x5 e5 d5 ⊢;left;refine⟨l,kvs,f,rfl,S1 sE5 nl hl,hk,λst H6 hst s6 d6=>?_⟩;have sE6:=sE5.trans (.of s6)
 have x6:=s6 _ _ x5
 have e6:=s6 _ _ e5
 have d06:=s6 _ _ d5
 have n1:=nin d6 x6 λ_=>nofun
 left;refine⟨x,Z0,dx,_,rfl,x6,G.Z5,G.na_Tower_stock,by show 3<1000;decide,?_⟩
 rw[B9];have sE7:=sE6.put (o:=.ins Z0 dx (WR b' (m:Int) s0 st)) (Ak.mpr rfl)
 have x7:(upd H6 x (.ins Z0 dx (WR b' (m:Int) s0 st))) x=some (.ins Z0 dx (WR b' (m:Int) s0 st)):=aG
 have e7:(upd H6 x (.ins Z0 dx (WR b' (m:Int) s0 st))) b'=some (.lst xs):=by rw[aK nx];exact e6
 have d07:(upd H6 x (.ins Z0 dx (WR b' (m:Int) s0 st))) s0=some (.dK (Zn (cntF f) (aU (cntF f) 27))):=by rw[aK n0];exact d06
 have d17:(upd H6 x (.ins Z0 dx (WR b' (m:Int) s0 st))) st=some (.dK (Zn (cntF f) (aU (cntF f) 27))):=by rw[aK n1];exact d6
 generalize upd H6 x (.ins Z0 dx (WR b' (m:Int) s0 st))=H7 at sE7 x7 e7 d07 d17 ⊢;left;refine⟨x0,λp0 hp0=>?_⟩
 have k8:=aE hp0 (.lst [V.non])
 have e8:(upd H7 p0 (.lst [V.non])) p0=some (.lst [V.non]):=aG
 generalize upd H7 p0 (.lst [V.non])=H8 at k8 e8 ⊢;left;refine⟨p0,_,[V.non],rfl,rfl,e8,by (exact Int.natCast_nonneg _),by omega,by show 1*((m:Int)).toNat<=sizeLine;exact bJ (by ((try clear n0 n1 nx);omega)),λhg hhg=>?_⟩
 rw[OM];have k9:=k8.trans (aE hhg (.lst (List.replicate m V.non)))
 have h9:(upd H8 hg (.lst (List.replicate m V.non))) hg=some (.lst (List.replicate m V.non)):=aG
 have hg7:H7 hg=none:=none_of k8 hhg
 generalize upd H8 hg (.lst (List.replicate m V.non))=H9 at k9 h9 ⊢;have x9:=k9 _ _ x7
 have n2:=nin h9 x9 λ_=>nofun
 have nin1:∀ {y:Addr},y≠x->y∉[x]:=λn z=>n (Ak.mp z)
 have hgH:=sE7.none (nin1 n2) hg7
 have stH:=sE5.none (nin1 n1) hst
 left;refine⟨x,Z0,dx,_,rfl,x9,G.Z5,G.na_Tower_hung,by show 4<1000;decide,?_⟩
 rw[BN];have sE10:=(sE7.trans (.of k9)).put (o:=.ins Z0 dx (Xe b' (m:Int) s0 st hg)) (Ak.mpr rfl)
 have x10:(upd H9 x (.ins Z0 dx (Xe b' (m:Int) s0 st hg))) x=some (.ins Z0 dx (Xe b' (m:Int) s0 st hg)):=aG
 have e10:(upd H9 x (.ins Z0 dx (Xe b' (m:Int) s0 st hg))) b'=some (.lst xs):=by rw[aK nx];exact k9 _ _ e7
 have d010:(upd H9 x (.ins Z0 dx (Xe b' (m:Int) s0 st hg))) s0=some (.dK (Zn (cntF f) (aU (cntF f) 27))):=by rw[aK n0];exact k9 _ _ d07
 have d110:(upd H9 x (.ins Z0 dx (Xe b' (m:Int) s0 st hg))) st=some (.dK (Zn (cntF f) (aU (cntF f) 27))):=by rw[aK n1];exact k9 _ _ d17
 have h10:(upd H9 x (.ins Z0 dx (Xe b' (m:Int) s0 st hg))) hg=some (.lst (List.replicate m V.non)):=by rw[aK n2];exact h9
 generalize upd H9 x (.ins Z0 dx (Xe b' (m:Int) s0 st hg))=H10 at sE10 x10 e10 d010 d110 h10 ⊢;left;refine⟨by decide,λdd hdd=>?_⟩
 have k11:=aE hdd (.lst [])
 have f11:(upd H10 dd (.lst [])) dd=some (.lst []):=aG
 have nhd:hg≠dd:=λz=>by rw[<-z,h10]at hdd;cases hdd
 have VN:b'≠dd:=λz=>by rw[<-z,e10]at hdd;cases hdd
 have x11:=k11 _ _ x10
 have ndx:dd≠x:=λz=>by rw[z,x10]at hdd;cases hdd
 have ddH:=sE10.none (nin1 ndx) hdd
 generalize upd H10 dd (.lst [])=H11 at k11 f11 x11 ⊢;left;refine⟨x,Z0,dx,_,rfl,x11,G.Z5,G.na_Tower_deeds,by show 5<1000;decide,?_⟩
 rw[Ld];refine q b' s0 st hg dd _ hb' hgH ddH stH nhd VN ((sE10.trans (.of k11)).put (Ak.mpr rfl)) aG ?_ ?_ ?_ ?_ ?_
 .rw[aK nx];exact k11 _ _ e10
 .rw[aK n0];exact k11 _ _ d010
 .rw[aK n1];exact k11 _ _ d110
 .rw[aK n2];exact k11 _ _ h10
 .rw[aK ndx];exact f11
def JP(e:H p=some (.tup xs))(h:Q (.int (xs.length:Int)) H):L2.cU [.ref p] H Q:=by
 have a:Z6 H p=none:=by unfold Z6;rw[e];rfl
 unfold L2.cU;simp only[a,dN e];exact h
noncomputable def things:List (Str×Int):=[("haul",3),("lower",2),("lose",2),("find",2),("say",2)]
def Mz(b:Z2 H us hs)(ok:lM hs)(f:us[j]?=some (V.ref p))(d:hs[j]?=some h):∃c a,h=some (c::a)/\H p=some (.lst (V.str (one c)::(a.map one).map V.str)):=by
 have r:=b.val j _ _ f d
 cases h with
 |none=>cases r
 |some a=>
  obtain⟨q,e,g⟩:=r;cases e;have:=(iC (ok a (As d))).1
  cases a with
  |nil=>exact absurd this (by decide)
  |cons c a=>exact⟨c,a,rfl,g⟩
def Ze.XE{f:Nat->Option Int}(t:Ze H B R hs f)(s:ZS l H H')(y:B∉l)(w:∀a,H R=some (.dK a)->R∉l)(x:∀p c m,H p=some (.lst (V.str (one c)::m))->p∉l):Ze H' B R hs f:=by
 obtain⟨⟨o,q,b⟩,g,⟨a,d,n⟩,u⟩:=t;refine⟨⟨o,s _ _ y q,b.len,λj v h i k=>?_⟩,g,⟨a,s _ _ (w _ d) d,n⟩,u⟩;have r:=b.val j v h i k
 cases h with
 |none=>exact r
 |some m=>
  obtain⟨p,rfl,A⟩:=r;obtain⟨c,C,e,z⟩:=Mz b g i k;exact⟨p,rfl,s _ _ (x p c _ z) A⟩
def ZA.XE(h:ZA H r bk)(s:ZS l H H')(i:r∉l)(g:∀p e,H p=some (.tup e)->p∉l):ZA H' r bk:=by
 obtain⟨f,m,k,d⟩:=h;exact⟨f,s _ _ i m,k,λj p b a c=>s _ _ (g p _ (d j p b a c)) (d j p b a c)⟩
def Vy(h1:p≠x)(a:p≠y):p∉[x,y]:=λe=>by grind
structure Y5 (C Pt:Addr) (H:Hp) (x b s0 st hg dd dx:Addr) (m:Nat) (hs:List (Option (List Nat))) (f:Nat->Option Int) (dps:List Addr) (ds:List Dd):Prop where
 ins:H x=some (.ins C dx (Y1 b m s0 st hg dd))
 tw:Ze H hg st hs f
 len:hs.length=m
 six:m<=6
 U_:ZA H b ZZ
 log:H dd=some (.lst (dps.map V.ref))
 WI:dps.length=ds.length
 Ul:∀(j:Nat) p d,dps[j]?=some p->ds[j]?=some d->H p=some (.tup d.vs)
 Te:hg≠dd
 VN:b≠dd
 lam:eZ Pt H
def Y5.keep{H:Hp}{f:Nat->Option Int}{a:List Addr}{ds:List Dd}(t:Y5 C Pt H x b s0 st hg dd dx m hs f a ds)(s:Same H H'):Y5 C Pt H' x b s0 st hg dd dx m hs f a ds:=⟨s _ _ t.ins,t.tw.WC s,t.len,t.six,t.U_.keep s,s _ _ t.log,t.WI,λj p d c e=>s _ _ (t.Ul j p d c e),t.Te,t.VN,t.lam.keep s⟩
def Dd.head(d:Dd):∃z a,d.vs=.str z::a/\things.lookup z=some (((V.str z::a).length:Nat):Int):=by
 cases d<;>exact⟨_,_,rfl,rfl⟩
def HU{j:List (Str×V)}{o:HO}(h:eZ Pt H)(e:H p=some (.ins C dx j)):eZ Pt (upd H p o):=by
 have a:∀b u,H b=some u->(∀c d f,u≠.ins c d f)->b≠p:=λb u h n y=>by grind
 rcases h with h|⟨c,i,g⟩
 .exact .inl (by rwa[aK (a _ _ h λ_ _ _=>nofun)])
 .exact .inr ⟨c,by rwa[aK (a _ _ i λ_ _ _=>nofun)],by rwa[aK (a _ _ g λ_ _ _=>nofun)]⟩
def tW(C l I G F D B A z:Addr):Sp:=λu H Q E=>∃x b q w y k s j m g f c t d,u=[.ref x,.ref j]/\Y5 C l H x b q w y k s m g f c t/\c.length<=900/\H j=some (.tup d.vs)/\d.zl/\
 ((∃i v,d.no m f i v/\∀o p,Same H p->XO v i o p->E (.ref (wF I G F D B A z i)) o p)\/
  ∃a r,d.XB g f a r/\a.length=g.length/\∀e h n,ZS [x,k,l] H n->Y5 C l n x b q e h k s m a r (c++[j]) (t++[d])->Q .non n)
def O5:Z_ ["self", "deed", "behind"] ["self", "deed"] (aJ pL):=by fail "sc"
def E6(F:ZQ K "do" "Tower.do" pL f fd)(g0:iV P w K mg base 7 "behind_deed" ["book", "halyards", "locker", "deed"] (nF Pt Zp Zy Zw Zv Zu Zq Zr)):Z9 P w K mg base (Zb P w) 8 f fd ["self", "deed"] (tW Z0 Pt Zp Zy Zw Zv Zu Zq Zr):=by
 refine F.Ys O5 (λvs H Q E h=>?_) (λc8 A b1 s H vs Q E hr h=>?_)
 .obtain⟨x,b,M,Y,hg,r,y,dp,m,I,f,n,ds,d,rfl,_⟩:=h;rfl
 obtain⟨a,b,M,Y,hg,r,y,dp,m,I,f,n,ds,d,rfl,D,c7,J,b2,hq⟩:=h;refine⟨_,(@aH _ _ _ _ _ (bP (PW.pt (jY (bD (IA hr.ZF) (mv 1) (gA aD) (aZ _)) (gR (bD UD (R6 rfl G.d_THINGS_IN (aA (bH bZ (mv 1) aM (λ_ _=>rfl)) aD)) (aP cK rfl G.b_len bR (aA (mv 1) aD)) (aZ _))))) (@aI _ _ _ (eA dP rfl rfl rfl G.c_NoDeed G.x_NoDeed Bl (@aL _ _ _ _ _ _ aD))) bE) (@aH _ _ _ _ _ (aY 2 O5.nd (cP g0 bV hr (by decide) rfl (aA (fN (mv 0) rfl) (aA (fN (mv 0) rfl) (aA (fN (mv 0) rfl) (aA (mv 1) aD)))))) (@aH _ _ _ _ _ (jR (mv 0) (bH bZ (mv 2) aM (λ_ _=>rfl)) rfl) (@aH _ _ _ _ _ (jR (mv 0) (bH bZ (mv 2) aM (λ_ _=>rfl)) rfl) (@aI _ _ _ (cR (cC Bq Da Dc vU (fN (mv 0) rfl) (aA (mv 1) aD)))))))),?_⟩
 obtain⟨z,zs,ed,hz⟩:=d.head;have a5:=J
 rw[ed]at J;have c4:=dN J
 left;refine⟨by decide,λp0 b4=>?_⟩
 have R:=aE b4 (.tup [])
 refine A4 (R _ _ J) aG ?_;have g:=D.keep R
 have O:=R _ _ J
 have L:=R _ _ a5
 generalize upd H p0 (.tup [])=H1 at R g O L ⊢;have a1:=g.ins
 have b9:=dN O
 left;rw[show (V.str z::zs).isEmpty=false from rfl];left;refine cW O (v:=.str z) (aX (j:=0) rfl) ?_;left;refine⟨z,rfl,?_⟩;rw[show List.lookup z [("haul",3),("lower",2),("lose",2),("find",2),("say",2)]=some (((V.str z::zs).length:Nat):Int) from hz];left;refine JP O ?_;left;rw[show (!decide ((((V.str z::zs).length:Nat):Int)=(((V.str z::zs).length:Nat):Int)))=false by rw[Ao rfl];rfl]
 left;refine⟨a,Z0,y,_,_,rfl,a1,G.Z5,G.na_Tower_book,Qc,?_⟩;left;refine⟨a,Z0,y,_,_,rfl,a1,G.Z5,G.na_Tower_hung,So,?_⟩;left;refine⟨a,Z0,y,_,_,rfl,a1,G.Z5,G.na_Tower_stock,RF,?_⟩;left;have b6:=D.len
 subst b6;refine⟨b,hg,Y,dp,I,f,d,rfl,g.tw,D.six,g.U_,g.lam,L,b2,?_⟩;rcases hq with⟨i,v,b5,qe⟩|⟨b3,f',b8,b7,q⟩
 .exact .inl ⟨i,v,b5,λo H' s' x'=>qe o H' (R.trans s') x'⟩
 refine .inr ⟨b3,f',b8,λt k l C S l2 ep hB X=>?_⟩;have N:=Yb S g.lam a1 (λ_=>nofun)
 have B:=Yb S g.lam g.log (λ_=>nofun)
 have a7:=Vq g.U_ S g.lam
 have Z:k≠r:=λz=>by
  rcases hB with h|h
  .exact D.Te (h▸z)
  .rw[z,g.log]at h;cases h
 have nd:r≠a:=λz=>by rw[z,N]at B;cases B
 have np:t≠a:=λz=>by rw[z,N]at ep;cases ep
 have up:∀o u,upd (upd C a o) a u=upd C a u:=λo u=>OH
 have c3:=dN ep
 left;refine cW ep (v:=.ref k) (aX (j:=0) rfl) ?_;left;refine⟨a,Z0,y,_,rfl,N,G.Z5,G.na_Tower_hung,by show 6<1000;decide,?_⟩
 rw[Mm];have a3:(upd C a (.ins Z0 y (Y1 b I.length M Y k r))) a=some (.ins Z0 y (Y1 b I.length M Y k r)):=aG
 have p3:(upd C a (.ins Z0 y (Y1 b I.length M Y k r))) t=some (.tup [.ref k,.ref l]):=by rw[aK np];exact ep
 left;refine cW p3 (v:=.ref l) (aX (j:=1) rfl) ?_;left;refine⟨a,Z0,y,_,rfl,a3,G.Z5,G.na_Tower_stock,by show 6<1000;decide,?_⟩
 rw[Jg,up];have a4:(upd C a (.ins Z0 y (Y1 b I.length M l k r))) a=some (.ins Z0 y (Y1 b I.length M l k r)):=aG
 have a6:(upd C a (.ins Z0 y (Y1 b I.length M l k r))) r=some (.lst (n.map V.ref)):=by rw[aK nd];exact B
 have l4:=HU (o:=.ins Z0 y (Y1 b I.length M l k r)) l2 N
 have c5:=bO a6
 have c2:(n.map V.ref).length<=1000:=by rw[Ac];(exact Nat.le_trans (by assumption) (by decide))
 left;refine⟨a,Z0,y,_,_,rfl,a4,G.Z5,G.na_Tower_deeds,P2,?_⟩;left;have sE:ZS [a,r] C (upd (upd C a (.ins Z0 y (Y1 b I.length M l k r))) r (.lst (n.map V.ref++[.ref dp]))):=λc o T e=>by
  rw[aK (λz=>T (by rw[z];exact Am _ (Al ..))),aK (λz=>T (by rw[z];exact Al ..))]
  exact e
 obtain⟨us,u1,u2⟩:=id X.VE;obtain⟨qs,c1,_,_⟩:=id a7;have nT:∀p xs,C p=some (.tup xs)->p∉[a,r]:=λp xs e=>Vy (λz=>by rw[z,N]at e;cases e) (λz=>by rw[z,B]at e;cases e)
 have a9:ZS [a,r,Pt] H C:=λc o T e=>S c o (λz=>T (by rw[z];exact Am _ (Am _ (Al ..)))) (R _ _ e)
 have a8:ZS [a,r,Pt] C (upd (upd C a (.ins Z0 y (Y1 b I.length M l k r))) r (.lst (n.map V.ref++[.ref dp]))):=λc o T e=>sE c o (λz=>T (by
  rcases Ba.mp z with z|z
  .rw[z];exact Al ..
  .rw[Ak.mp z];exact Am _ (Al ..))) e
 refine q l k _ (a9.trans a8) ⟨by rw[aK (Ne.symm nd)];exact aG,X.XE sE (Vy (λz=>by rw[z,N]at u1;cases u1) Z) (λc6 e=>Vy (λz=>by rw[z,N]at e;cases e) (λz=>by rw[z,B]at e;cases e)) (λp c cs e=>Vy (λz=>by rw[z,N]at e;cases e) (λz=>?_)),b7,D.six,a7.XE sE (Vy (λz=>by rw[z,N]at c1;cases c1) D.VN) nT,by rw[aG,Ar];rfl,by rw[Aj,Aj,D.WI];rfl,λj p e U W=>?_,Z,D.VN,NJ l4 a6⟩
 .rw[z,B]at e;have e':n.map V.ref=V.str (one c)::cs:=by injection Ay e
  cases n with
  |nil=>cases e'
  |cons d ds=>injection e' with e1 _;cases e1
 .have a2:C p=some (.tup e.vs):=by
   rcases Nat.lt_or_ge j n.length with hj|hj
   .rw[Bx hj]at U;rw[Bx (by rw[<-D.WI];exact hj)]at W
    exact Yb S g.lam (g.Ul j p e U W) (λ_=>nofun)
   .rw[Br hj]at U;rw[Br (by rw[<-D.WI];exact hj),<-D.WI]at W
    match j-n.length,U,W with
    |0,U,W=>cases U;cases W;exact Yb S g.lam L (λ_=>nofun)
  exact sE _ _ (nT _ _ a2) a2
noncomputable def jB(cws:List (List Nat)):List Str:=cws.map λa=>bS (a++[W4 a])
noncomputable def UT:Option (List Nat)->V
 |none=>.non
 |some a=>.str (wG (a.map one))
noncomputable def Xu(cws:List (List Nat)):Option (List Nat)->V
 |none=>.non
 |some a=>match (jB cws).findIdx? (λy=>y==wG (a.map one)) with|some j=>.int (j:Int)|none=>.non
def H_(y:Str)(a:List Str):YK (.str y) (a.map V.str)=decide (y∈a):=by
 unfold YK;rw[List.any_map,Gz,List.any_eq_true,Bh];constructor
 .rintro⟨z,hz,e⟩;have b:=e
  rwa[<-eq_of_beq b]
 .intro h;exact⟨y,h,show _=true from Ey _⟩
def Cn(a:List Str):YK .non (a.map V.str)=false:=by
 unfold YK;rw[List.any_map,List.any_eq_false];intro z _ h;cases h
def oI(C:Addr):Sp:=λi H Q _=>∃a b k j h n l m d e f c,i=[.ref a]/\H a=some (.ins C l (Y1 b m k j h n))/\Z6 H h=some d/\Z2 H d e/\d.length<=1000/\lM e/\ZA H b f/\f.length<=60/\RK f c/\
 ∀r g,H r=none->Same H g->g r=some (.lst (e.map (Xu c)))->Q (.ref r) g
def g4:Z_ ["self", "spoken", "words"] ["self"] (aJ hZ):=by fail "sc"
def zA(F:ZQ K "read" "Tower.read" hZ f fd)(z5:ZM P w K mg base 5 "with_check" ["word"] gM)(g8:iV P w K mg base 4 "read_of" ["flags"] (wR Zx)):Z9 P w K mg base ZO 6 f fd ["self"] (oI Z0):=by
 refine F.ok g4 (λvs H Q E h=>?_) (λc6 A a3 s H vs Q E hr h=>?_)
 .obtain⟨a,b,s0,st,hg,dd,dx,m,us,u,bk,d,rfl,_⟩:=h;rfl
 obtain⟨a,b,s0,st,hg,dd,dx,m,us,u,bk,d,rfl,ha,a8,g,a4,a6,b7,c5,C,q⟩:=h;refine⟨_,(@aH _ _ _ _ _ (aY 1 g4.nd (cD rfl (bU (fN (mv 0) rfl)) (dZ (N:=["word", "meaning"]) (by right) (by right)) (by right) rfl (by right) (λ_ _ _ _=>(jF (K:=K) (i:=0) (j:=1) (by rfl) (by rfl) (show List.Nodup (["word", "meaning"]:List Str) by right) (by rfl) (by exact Or.inl rfl) (by exact Or.inr rfl) (by rfl) (by exact Or.inl rfl) (by exact Or.inr rfl))) (λ_ _ _ _=>cI) (λ_ _ _ _=>(bF z5 hr (by decide) rfl (aA (mv 0) aD))))) (@aH _ _ _ _ _ (dW (i:=2) g4.nd rfl (Or.inl rfl) rfl (bU (fN (mv 0) rfl)) (dZ (N:=["hoist"]) (by right) (by right)) (by right) rfl (by right) (λ_ _ _ _=>(bB (i:=0) (show List.Nodup (["hoist"]:List Str) by right) rfl (Or.inl rfl))) (λ_ _ _ _=>cI) (λ_ _ _ _=>(kH (bD Vx (mv 0) cO (aZ _)) cO (cP g8 dC hr (by decide) rfl (aA (mv 0) aD))))) (@aI _ _ _ (aV (cD rfl (bU (mv 2)) (fG (N:=["word", "spoken"]) ["self", "spoken", "words"] (aJ hZ) [none,some 1] rfl rfl rfl (λx h=>cE h) (by right)) (by right) rfl (by right) (λ_ _ _ _=>(bB (i:=0) (show List.Nodup (["word", "spoken"]:List Str) by right) rfl (Or.inl rfl))) (λ_ _ _ _=>cI) (λ_ _ _ _=>(kH (bD U5 (mv 0) (mv 1) (by rfl)) (cC Bq Fu PySem.F.type_list_index KA (mv 1) (aA (mv 0) aD)) cO))))))),?_⟩
 obtain⟨qs,b1,b2,b3⟩:=id b7;have rq:=aO b1
 have S:(qs.map V.ref).length=bk.length:=by rw[Ac,b2]
 left;refine⟨a,Z0,dx,_,_,rfl,ha,G.Z5,G.na_Tower_book,Qc,?_⟩;left;refine eO (xs:=qs.map V.ref) (λj=>(d[j]?).map λY=>V.str (bS (Y++[W4 Y]))) rq (by rw[S];exact bM (by (exact Nat.le_trans (by assumption) (by decide)))) (λj x Hc A B l L I hB=>?_) (λD Hd hD M hd=>?_)
 .rw[Ae]at l;obtain⟨p,ep,rfl⟩:=Bk.mp l;have v:j<bk.length:=by rw[<-b2];exact(Ag.mp ep).1
  have ec:d[j]?=some (d[j]'(by rw[C.1];exact v)):=Aa _
  obtain⟨hw,b6,b5,b4⟩:=C.2 j _ _ (Aa v) ec;have tp:=L _ _ (b3 j p _ ep (Aa v))
  rw[hw]at tp;have c2:=dN tp
  left;refine⟨Wk.set rfl (Wk.set rfl (Wk.refl _)),?_⟩;left;exact⟨_,rfl,b6,b5,b4,λH' s' _ _=>I _ (by rw[ec];rfl) H' s'⟩
 .rw[S,<-C.1,dO (λY=>V.str (bS (Y++[W4 Y])))]at hd;have R:Hd D=some (.lst ((jB d).map V.str)):=by rw[hd];unfold jB;rw[Ci];rfl
  have b8:=M _ _ ha
  have a9:=aQ M a8
  have W:=g.keep M
  left;refine⟨a,Z0,dx,_,_,rfl,b8,G.Z5,G.na_Tower_hung,So,?_⟩;left;refine eO (xs:=us) (λj=>(u[j]?).map UT) a9 (bM (by (exact Nat.le_trans (by assumption) (by decide)))) (λj x Hc A B l L I hB=>?_) (λD2 c7 c4 n U=>?_)
  .have a7:j<u.length:=by rw[<-g.len];exact(Ag.mp l).1
   obtain⟨o,Z⟩:∃o,u[j]?=some o:=⟨_,Aa a7⟩;have hv:=(W.keep L).val j x _ l Z
   cases o with
   |none=>
    obtain rfl:x=V.non:=hv;left;refine⟨Wk.set rfl (Wk.refl _),?_⟩;left;rw[show decide (V.non=V.non)=true from rfl];left;exact I _ (by rw[Z];rfl) _ (Same.refl _)
   |some J=>
    obtain⟨pc,rfl,a5⟩:=hv;have X:=a6 J (As Z)
    have h7:=iC X
    left;refine⟨Wk.set rfl (Wk.refl _),?_⟩;left;rw[show decide (V.ref pc=V.non)=false from An (λz=>nomatch z)]
    left;exact⟨pc,J.map one,rfl,aO a5,by ((try clear S a4 a7 b2 c5);omega),λz hz=>by obtain⟨c,_,rfl⟩:=Bw.mp hz;show 1<=1000;decide,λ_ H' s'=>I _ (by rw[Z];rfl) H' s',λz=>by rw[X]at z;cases z⟩
  .rw[g.len,dO UT]at U;have r2:=aO U
   have a2:=aO (n _ _ R)
   have c3:(u.map UT).length<=1000:=by rw[Ac,<-g.len];exact a4
   left;refine eO (xs:=u.map UT) (λj=>(u[j]?).map (Xu d)) r2 (bM (by (exact Nat.le_trans (by assumption) (by decide)))) (λj x Hc A B l L I hB=>?_) (λD3 c1 b9 a1 T=>?_)
   .rw[Ae]at l;obtain⟨o,eo,rfl⟩:=Bk.mp l;have t:=aQ L a2
    have r:=I (Xu d o) (by rw[eo];rfl)
    cases o with
    |none=>
     left;refine⟨Wk.set rfl (Wk.refl _),?_⟩;left;refine VX (neg:=false) t rfl (cJ _) ?_;rw[if_neg Aq,show UT none=V.non from rfl,Cn];left;exact r _ (Same.refl _)
    |some J=>
     have O:∀Hd,Same Hc Hd->A (match (jB d).findIdx? (λy=>y==wG (J.map one)) with|some j=>V.int (j:Int)|none=>.non) Hd:=r
     change iT 0 (V.str (wG (J.map one))) _ _ _
     generalize wG (J.map one)=z at O ⊢;left;refine⟨Wk.set rfl (Wk.refl _),?_⟩;left;refine VX (neg:=false) t rfl (cJ _) ?_;rw[if_neg Aq,H_];cases e:(jB d).findIdx? (λy=>y==z) with
     |none=>
      rw[e]at O;rw[decide_eq_false λhm=>by grind]
      left;exact O _ (Same.refl _)
     |some k=>
      rw[e]at O;obtain⟨k1,k2,k3⟩:=List.findIdx?_eq_some_iff_getElem.mp e;have ez:=eq_of_beq k2
      rw[Ao (by rw[<-ez];exact Co _)]
      left;refine Ib t (by rw[Aa k1,ez]) (λi y hi hy e2=>?_) (O _ (Same.refl _))
      obtain⟨i1,i2⟩:=Ag.mp hy;have:=k3 i hi
      rw[i2,e2]at this;simp at this
   .rw[Ac,dO (Xu d)]at T;exact q D3 c1 (none_of (M.trans n) b9) (M.trans (n.trans a1)) T
def lP(C:Addr):Sp:=λg H Q _=>∃a b h e i k j m c f,g=[.ref a]/\H a=some (.ins C j (Y1 b m h e i k))/\Rd H e (.dK c)/\Lk c f/\∀r d,H r=none->Same H d->d r=some (.dK (Zn (cntF f) (aU (cntF f) 27)))->Q (.ref r) d
def uR:Z_ ["self"] ["self"] (aJ iM):=by fail "sc"
def uQ(F:ZQ K "locker" "Tower.locker" iM f fd)(l:ZM P w K mg base 1 "plain_locker" ["locker"] cY):Z9 P w K mg base ZO 2 f fd ["self"] (lP Z0):=by
 refine F.ok uR (λn H Q E h=>?_) (λy A d s H n Q E i h=>?_)
 .obtain⟨a,b,o,j,u,x,k,m,c,f,rfl,_⟩:=h;rfl
 obtain⟨a,b,o,j,u,x,k,m,c,f,rfl,v,g,t,q⟩:=h;refine⟨_,(@aI _ _ _ (aV (bF l i (by decide) rfl (aA (fN (mv 0) rfl) aD)))),?_⟩
 refine⟨a,Z0,k,_,_,rfl,v,G.Z5,G.na_Tower_stock,RF,?_⟩;exact⟨j,c,f,rfl,g,t,λr z i p e=>q r z i p e⟩
def jD(C:Addr):Sp:=λh H Q _=>∃a b j i g l k m e f,h=[.ref a]/\H a=some (.ins C k (Y1 b m j i g l))/\Z6 H g=some e/\Z2 H e f/\e.length<=1000/\
 ∀r c d,H r=none->Same H d->d r=some (.lst c)->Z2 d c f->(∀p,V.ref p∈c->H p=none)->Q (.ref r) d
def qJ:Z_ ["self"] ["self"] (aJ gF):=by fail "sc"
def qV(F:ZQ K "halyards" "Tower.halyards" gF f fd):Z9 P w K mg base ZO 1 f fd ["self"] (jD Z0):=by
 refine F.ok qJ (λg H Q E h=>?_) (λY A j s H g Q E hr h=>?_)
 .obtain⟨a,b,J,y,S,X,u,m,v,hs,rfl,_⟩:=h;rfl
 obtain⟨a,b,J,y,S,X,u,m,v,hs,rfl,U,l,e,O,q⟩:=h;refine⟨_,(@aI _ _ _ (aV (cD rfl (bU (fN (mv 0) rfl)) (dZ (N:=["hoist"]) (by right) (by right)) (by right) rfl (by right) (λ_ _ _ _=>(bB (i:=0) (show List.Nodup (["hoist"]:List Str) by right) rfl (Or.inl rfl))) (λ_ _ _ _=>cI) (λ_ _ _ _=>(kH (bD Vx (mv 0) cO (aZ _)) cO (cG wD rfl G.b_list lI (aA (mv 0) aD))))))),?_⟩
 refine⟨a,Z0,u,_,_,rfl,U,G.Z5,G.na_Tower_hung,So,?_⟩;left;refine Io (hs:=hs) l (bM (by (exact Nat.le_trans (by assumption) (by decide)))) e.len (λi x h Hc A B M R C t=>?_) (λD Z g W I T d n=>?_)
 .have r:=(e.keep C).val i x h M R
  cases h with
  |none=>
   obtain rfl:x=V.non:=r;refine⟨Wk.set rfl (Wk.refl _),?_⟩;exact t .non _ (Same.refl _) rfl λp z=>nomatch z
  |some cs=>
   obtain⟨L,rfl,k⟩:=r
   refine⟨Wk.set rfl (Wk.refl _),?_⟩;left;rw[show decide (V.ref L=V.non)=false from An (λz=>nomatch z)]
   left;intro o c;exact t (.ref o) _ (aE c _) ⟨o,rfl,aG⟩ λp z=>by cases z;exact c
 .exact q D g Z W I T d n
def qR(C:Addr):Sp:=λf H Q _=>∃a b h g i e j m d,f=[.ref a]/\H a=some (.ins C j (Y1 b m h g i e))/\H e=some (.lst d)/\∀r c,H r=none->Same H c->c r=some (.lst d)->Q (.ref r) c
def Mu:Z_ ["self"] ["self"] (aJ mC):=by fail "sc"
def Kz(F:ZQ K "log" "Tower.log" mC f fd):Z9 P w K mg base ZO 1 f fd ["self"] (qR Z0):=by
 refine F.ok Mu (λj H Q E h=>?_) (λt A c s H j Q E d h=>?_)
 .obtain⟨a,b,l,k,n,p,g,m,i,rfl,_⟩:=h;rfl
 obtain⟨a,b,l,k,n,p,g,m,i,rfl,o,e,q⟩:=h;refine⟨_,(@aI _ _ _ (aV (cG wD rfl G.b_list lI (aA (fN (mv 0) rfl) aD)))),?_⟩
 refine⟨a,Z0,g,_,_,rfl,o,G.Z5,G.na_Tower_deeds,P2,?_⟩;left;intro r d;exact q r _ d (aE d _) aG
structure Small (bk:List (Str×Str)) (n:Nat):Prop where
 len:bk.length<=n
 str:∀b∈bk,b.1.length<=n/\b.2.length<=n
noncomputable def WH(w m:Str)(b:Str×Str):Bool:=(!decide (b.1=w))&&(!decide (b.2=m))
noncomputable def uZ(a:List (Str×Str))(i:Nat):Bool:=match a[i]? with
 |some b=>decide (i<60)&&(fM b.1&&(decide (b.1.length<=6)&&(oE b.2 5&&(a.take i).all (WH b.1 b.2))))
 |none=>false
def GJ{b:Str×Str}(h:bk[i]?=some b):uZ bk i=(decide (i<60)&&(fM b.1&&(decide (b.1.length<=6)&&(oE b.2 5&&(bk.take i).all (WH b.1 b.2))))):=by
 unfold uZ;rw[h]
noncomputable def Sx(H:Hp)(w m:Str):V->Option V
 |.ref p=>(match H p with|some (.tup [.str u,.str v])=>some (.bl (WH w m (u,v)))|_=>none)
 |_=>none
def Pb{w m:Str}:∀ {a:List Addr} {d:List _},a.length=d.length->(∀(j:Nat) p b,a[j]?=some p->d[j]?=some b->H p=some (.tup [.str b.1,.str b.2]))->(a.map V.ref).filterMap (Sx H w m)=(d.map (WH w m)).map V.bl
 |[],[],_,_=>rfl
 |p::a,b::d,hl,h=>by
  rw[List.map_cons,List.filterMap_cons_some  (by show (match H p with|some (.tup [.str u,.str v])=>some _|_=>none)=_;rw[h 0 p b rfl rfl]),List.map_cons,List.map_cons,Pb (by simpa using hl) λj q c e f=>h (j+1) q c (by simp_all) (by simp_all)]
 |[],_::_,hl,_=>by cases hl
def oQ:Sp:=λd H Q _=>∃(a:Addr) (b:List (Str×Str)) (i:Nat),d=[.ref a,.int (i:Int)]/\ZA H a b/\Small b 1000/\i<b.length/\∀c,Same H c->Q (.bl (uZ b i)) c
def g9:Z_ ["book", "at", "word", "meaning"] ["book", "at"] (aJ hW):=by fail "sc"
def yQ(F:ZQ K "may_follow" "may_follow" hW f fd)(wS:ZM P w K mg base 2 "is_row_of_terms" ["text", "most"] eY)(y9:ZM P w K mg base 1 "is_word" ["text"] kO):Z9 P w K mg base ZO 3 f fd ["book", "at"] oQ:=by
 refine F.ok g9 (λvs H Q E h=>?_) (λa4 A O s H vs Q E y h=>?_)
 .obtain⟨a,g,i,rfl,_⟩:=h;rfl
 obtain⟨a,g,i,rfl,Y,u,hi,q⟩:=h;refine⟨_,(@aH _ _ _ _ _ (aY 2 g9.nd (bH bZ (bH bZ (mv 0) (mv 1) (λ_ _=>rfl)) aM (λ_ _=>rfl))) (@aH _ _ _ _ _ (aY 3 g9.nd (bH bZ (bH bZ (mv 0) (mv 1) (λ_ _=>rfl)) aM (λ_ _=>rfl))) (@aH _ _ _ _ _ (bP (PW.pt (jY (bD SQ (mv 1) (eK rfl G.s_MOST_TUPLES) (aZ _)) (jY (hJ (cN (bF y9 y (by decide) rfl (aA (mv 2) aD)))) (gR (bD uM (aP cK rfl G.b_len bR (aA (mv 2) aD)) (eK rfl G.s_LONGEST_WORD) (aZ _)))))) (@aI _ _ _ (aV lV)) bE) (@aH _ _ _ _ _ (bP (hJ (cN (bF wS y (by decide) rfl (aA (mv 3) (aA (eK rfl G.s_MOST_TERMS_MEANT) aD))))) (@aI _ _ _ (aV lV)) bE) (@aI _ _ _ (aV (aP (vT rfl) rfl G.b_all pQ (aA (cD rfl (bU (fR WG (mv 0) nV (eQ (mv 1)))) (fG (N:=["ahead", "word", "meaning"]) ["book", "at", "word", "meaning"] (aJ hW) [none,some 2,some 3] rfl rfl rfl (λx h=>cE h) (by right)) (by right) rfl (by right) (λ_ _ _ _=>(bB (i:=0) (show List.Nodup (["ahead", "word", "meaning"]:List Str) by right) rfl (Or.inl rfl))) (λ_ _ _ _=>cI) (λ_ _ _ _=>(pO (cZ UD (bH bZ (mv 0) aM (λ_ _=>rfl)) (mv 1) (aZ _)) (sB (cZ UD (bH bZ (mv 0) aM (λ_ _=>rfl)) (mv 2) (aZ _)))))) aD)))))))),?_⟩
 obtain⟨d,b1,b2,b3⟩:=id Y;have M:=aO b1
 have S:d[i]?=some d[i]:=Aa (by omega)
 have l:=Aa hi
 have C:=b3 i _ _ S l
 rw[GJ l]at q;have k:=u.str _ (As l)
 have a1:=u.len
 generalize g[i]=b at l C q k;generalize d[i]=pt at S C;have aq:YJ (d.map V.ref) (i:Int)=some (.ref pt):=aX (by rw[Ae,S];rfl)
 left;refine cA M aq ?_;left;refine cW C (v:=.str b.1) rfl ?_;left;refine cA M aq ?_;left;refine cW C (v:=.str b.2) rfl ?_;left;refine iA (λn=>?_) (λn=>?_)
 .have X:=Aw n
  rw[An (show ¬i<60 by ((try clear a1 b2 hi k);omega)),Ez]at q
  left;exact q _ (Same.refl _)
 .have X:=Bs (Bm.mpr n)
  rw[Ao (show i<60 by ((try clear a1 b2 hi k);omega)),Ei]at q
  left;refine⟨b.1,rfl,k.1,λH1 o=>?_⟩;left;cases hw:fM b.1 with
  |false=>
   rw[hw,Ez]at q;left;exact q _ o
  |true=>
   rw[hw,Ei]at q;have a3:=k.1
   left;refine iA (λm=>?_) (λm=>?_)
   .have W:=Aw m
    rw[An (show ¬b.1.length<=6 by ((try clear X a1 a3 b2 hi);omega)),Ez]at q
    left;exact q _ o
   .have W:=Bs (Bm.mpr m)
    rw[Ao (show b.1.length<=6 by ((try clear X a1 a3 b2 hi);omega)),Ei]at q
    left;refine⟨b.2,5,rfl,k.2,λH2 L=>?_⟩;left;cases y:oE b.2 5 with
    |false=>
     rw[y,Ez]at q;left;exact q _ (o.trans L)
    |true=>
     rw[y,Ei]at q;have a2:=aQ (o.trans L) M
     left;intro r R;rw[P5 (by (exact Int.natCast_nonneg _)),show ((i:Nat):Int).toNat=i from rfl,<-Fo]
     have J:=(o.trans L).trans (aE R (.lst ((d.take i).map V.ref)))
     have r3:Z6 (upd H2 r (.lst ((d.take i).map V.ref))) r=some ((d.take i).map V.ref):=bX
     generalize upd H2 r (.lst ((d.take i).map V.ref))=H3 at J r3 ⊢;have tl:(d.take i).length=(g.take i).length:=by rw[Bi,Bi,b2]
     have tt:∀(j:Nat) p c,(d.take i)[j]?=some p->(g.take i)[j]?=some c->H3 p=some (.tup [.str c.1,.str c.2]):=λj p c T n=>by
      have U:j<i:=by
       have:=(Ag.mp T).1
       rw[Bi]at this;((try clear W X a1 a3 k tl);omega)
      rw[List.getElem?_take_of_lt U]at T n;exact J _ _ (b3 j p c T n)
     left;refine kI (xs:=(d.take i).map V.ref) (Sx H3 b.1 b.2) r3 (by rw[Ac,Bi];exact bM (by ((try clear W a1 a3 k tl);omega))) (λj x Hc A B t sm hA=>?_) (λD Hd hD sD m=>?_)
     .rw[Ae]at t;cases e:(d.take i)[j]? with
      |none=>rw[e]at t;cases t
      |some p4=>
       rw[e]at t;cases t;have U:j<(g.take i).length:=by rw[<-tl];exact(Ag.mp e).1
       have I:=tt j p4 _ e (Aa U)
       generalize (g.take i)[j]=Z at I;have tc:=sm _ _ I
       have r:=hA _ (Same.refl _)
       simp only[Sx,I,WH]at r;left;refine⟨Wk.set rfl (Wk.refl _),?_⟩;left;refine cW tc (v:=.str Z.1) rfl ?_;left;by_cases z:Z.1=b.1
       .rw[Ao z]at r ⊢;exact r
       .rw[An z]at r ⊢;left;refine cW tc (v:=.str Z.2) rfl ?_;left;exact r
     .rw[Pb tl tt]at m;left;refine xP (bs:=(g.take i).map (WH b.1 b.2)) (aO m) ?_;have r:=q Hd (J.trans sD)
      rw[show ((g.take i).map (WH b.1 b.2)).all id=(g.take i).all (WH b.1 b.2) by rw[Ga];rfl]
      exact r
noncomputable def WO(b:Str×Str):Str:=b.1++Str.ofString " " ++ b.2
noncomputable def Sq:Str:=Str.ofString "ab up\nba on it\nd off"
def DA:Txt.split Sq "\n"=ZZ.map WO:=by right
def QH:∀b∈ZZ,Txt.partition (WO b) " "=(b.1,Str.ofString " ",b.2)/\(WO b).length<=60:=by right
def yE:Sp:=λc H Q _=>∃a,c=[.ref a]/\ZA H a ZZ/\∀b,Same H b->Q .non b
def Ni:Small ZZ 1000:=⟨by decide,by decide⟩
def BL:∀j,j<3->uZ ZZ j=true:=by right
def QF:Z_ ["book", "at"] ["book"] (aJ sC):=by fail "sc"
def CB(F:ZQ K "look_at" "look_at" sC f fd)(z:ZM P w K mg base 3 "may_follow" ["book", "at"] oQ):Z9 P w K mg base ZO 4 f fd ["book"] yE:=by
 refine F.ok QF (λt H Q E h=>?_) (λB A m s H t Q E r h=>?_)
 .obtain⟨a,rfl,_⟩:=h;rfl
 obtain⟨a,rfl,d,q⟩:=h;refine⟨_,(@aH _ _ _ _ _ (bP (bD (SM r.ZF) (mv 0) (bI aD) (aZ _)) (@aI _ _ _ iK) bE) (@aI _ _ _ (dY Bp rfl (zZ rfl G.b_range (aA (aP cK rfl G.b_len bR (aA (mv 0) aD)) aD)) (bB (i:=1) QF.nd rfl (Or.inl rfl)) (@aI _ _ _ (bP (hJ (cN (bF z r (by decide) rfl (aA (mv 0) (aA (mv 1) aD))))) (@aI _ _ _ iK) bE))))),?_⟩
 obtain⟨g,D,C,L⟩:=id d;have b:g.length=3:=C
 left;refine⟨by decide,λl o=>?_⟩
 have k:=aE o (.lst [])
 have p:Z6 (upd H l (.lst [])) l=some []:=bX
 generalize upd H l (.lst [])=N at k p ⊢;have v:=aQ k (aO D)
 refine Tb v p ?_;have y:(g.map V.ref).isEmpty=false:=by
  cases g with
  |nil=>cases b
  |cons _ _=>rfl
 have n:(g.map V.ref).length=3:=by rw[Ac,b]
 rw[y];left;rw[n];refine⟨⟨by (exact Int.natCast_nonneg _),by (exact Int.natCast_nonneg _)⟩,?_⟩
 refine Ru (λi U J=>∃j,U=[some (.ref a),j]/\Same H J) ⟨_,rfl,k⟩ ?_ ?_
 .rintro i U I x ⟨j,rfl,e⟩;have c:=x
  rw[Int.zero_add];refine⟨a,ZZ,i,rfl,d.keep e,Ni,c,λM u=>?_⟩;rw[BL i c];exact⟨_,rfl,e.trans u⟩
 .rintro U I ⟨j,rfl,e⟩;exact q _ e
def rG:Sp:=λb H Q _=>b=[.str Sq]/\∀r a,H r=none->Same H a->ZA a r ZZ->Q (.ref r) a
def d7:Z_ ["text", "rows", "book"] ["text"] (aJ nH):=by fail "sc"
def AE(F:ZQ K "read_book" "read_book" nH f fd)(d8:ZM P w K mg base 4 "look_at" ["book"] yE):Z9 P w K mg base ZO 5 f fd ["text"] rG:=by
 refine F.ok d7 (λvs H Q E h=>?_) (λa6 A a1 s H vs Q E hr h=>?_)
 .obtain⟨rfl,_⟩:=h;rfl
 obtain⟨rfl,q⟩:=h;refine⟨_,(@aH _ _ _ _ _ (dW (i:=1) d7.nd rfl (Or.inl rfl) rfl (bU (cC Bo Ea Eb nX (mv 0) (@aL _ _ _ _ _ _ aD))) (dZ (N:=["row"]) (by right) (by right)) (by right) rfl (by right) (λ_ _ _ _=>(bB (i:=0) (show List.Nodup (["row"]:List Str) by right) rfl (Or.inl rfl))) (λ_ _ _ _=>cI) (λ_ _ _ _=>(cC Bo PySem.F.slot_str_partition PySem.F.type_str_partition MA (mv 0) (@aL _ _ _ _ _ _ aD)))) (@aH _ _ _ _ _ (bP (hJ (cN (aP (vT rfl) rfl G.b_all pQ (aA (cD rfl (bU (mv 1)) (dZ (N:=["row"]) (by right) (by right)) (by right) rfl (by right) (λ_ _ _ _=>(bB (i:=0) (show List.Nodup (["row"]:List Str) by right) rfl (Or.inl rfl))) (λ_ _ _ _=>cI) (λ_ _ _ _=>(cZ fW (bH bZ (mv 0) aM (λ_ _=>rfl)) cB (aZ _)))) aD)))) (@aI _ _ _ iK) bE) (@aH _ _ _ _ _ (dW (i:=2) d7.nd rfl (Or.inl rfl) rfl (bU (mv 1)) (dZ (N:=["row"]) (by right) (by right)) (by right) rfl (by right) (λ_ _ _ _=>(bB (i:=0) (show List.Nodup (["row"]:List Str) by right) rfl (Or.inl rfl))) (λ_ _ _ _=>cI) (λ_ _ _ _=>(gA (aA (bH bZ (mv 0) aM (λ_ _=>rfl)) (aA (bH bZ (mv 0) aM (λ_ _=>rfl)) aD))))) (@aH _ _ _ _ _ (cR (bF d8 hr (by decide) rfl (aA (mv 2) aD))) (@aI _ _ _ (aV (mv 2))))))),?_⟩
 have a5:ZZ.length<=60:=by decide
 left;refine rK (by decide) (by right) λl hl=>?_
 rw[DA];have s1:=aE hl (.lst ((ZZ.map WO).map V.str))
 have e1:Z6 (upd H l (.lst ((ZZ.map WO).map V.str))) l=_:=bX
 generalize upd H l (.lst ((ZZ.map WO).map V.str))=H1 at s1 e1 ⊢;have a3:((ZZ.map WO).map V.str).length=ZZ.length:=by rw[Ac,Ac]
 left;refine fO (n:=ZZ.length) (λD i g d=>Same H1 d/\∃c,g=c.map V.ref/\ZE H1 d c ((ZZ.take i).map λb=>[.str b.1,.str " ",.str b.2])) (bM (by (exact Nat.le_trans (by assumption) (by decide)))) (λD hD=>⟨aE hD _,[],rfl,.nil⟩) (λD i g d _ r h=>?_) (λD g d _ r=>?_) ?_ ?_
 .exact⟨_,((ZZ.map WO).map V.str)[i]'(by (assumption)),bG (aQ r.1 e1),Aa _⟩
 .exact⟨_,bG (aQ r.1 e1),by (exact Nat.le_of_eq (by assumption))⟩
 .rintro D i g d x H' A B hD hi ⟨S,c,rfl,M⟩ m ⟨rfl,hz⟩ ha X;have k:=hz _ (bG (aQ S e1))
  have z:=Aa hi
  rw[Ae,Ae,z]at k;cases k;have hm:=As z
  have lr:=(QH _ hm).2
  left;refine⟨Wk.set rfl (Wk.refl _),?_⟩;left;refine A0 (by decide) (by (exact Nat.le_trans (by assumption) (by decide))) λp u=>?_
  rw[show Vj (WO ZZ[i]) " "=[.str ZZ[i].1,.str " ",.str ZZ[i].2] by unfold Vj;rw[(QH _ hm).1]]
  have t:=aE u (.tup [.str ZZ[i].1,.str " ",.str ZZ[i].2])
  refine ha _ _ (t _ _ m) ⟨bQ hD (S.trans t),c++[p],by rw[Ar];rfl,?_⟩
  rw[Bf,z,Ar];exact((M.keep t).app (.one (none_of S u) aG)).put (t _ _ m)
 .rintro D g d hD ⟨S,c,rfl,M⟩ m hy;rw[Cm]at M;have U:c.length=ZZ.length:=by rw[M.1,Ac]
  have T:(c.map V.ref).length=ZZ.length:=by rw[Ac,U]
  have O:∀(j:Nat) p b,c[j]?=some p->ZZ[j]?=some b->d p=some (.tup [.str b.1,.str " ",.str b.2]):=λj p b u X=>(M.2 j p _ u (by rw[Ae,X];rfl)).2
  have rD:=aO m
  left;refine eO (xs:=c.map V.ref) (λj=>(ZZ[j]?).map λb=>V.bl true) rD (by rw[T];exact bM (by (exact Nat.le_trans (by assumption) (by decide)))) (λj x Hd A B k sd hA hB=>?_) (λD2 Hd a4 sD hd=>?_)
  .rw[Ae]at k;cases e:c[j]? with
   |none=>rw[e]at k;cases k
   |some p=>
    rw[e]at k;cases k;have hj:j<ZZ.length:=by rw[<-U];exact(Ag.mp e).1
    have z:ZZ[j]?=some ZZ[j]:=Aa hj
    have Z:=sd _ _ (O j p _ e z)
    have a2:=hA (.bl true) (by rw[z];rfl)
    left;refine⟨Wk.set rfl (Wk.refl _),?_⟩;left;refine cW Z (v:=.str " ") rfl ?_;left;rw[Ao rfl];exact a2 _ (Same.refl _)
  .rw[T,dO,show ZZ.map (λb=>V.bl true)=(ZZ.map λ_=>true).map V.bl by rw[Ci];rfl]at hd
   have R:=S.trans sD
   have Y:=sD _ _ m
   have I:=aO Y
   left;refine xP (aO hd) ?_;rw[show ((ZZ.map λ_=>true).all id)=true by rw[Ga,Bv];intro x _;rfl]
   left;refine fO (n:=ZZ.length) (λC i g d=>Same Hd d/\∃J,g=J.map V.ref/\ZE Hd d J ((ZZ.take i).map λb=>[.str b.1,.str b.2])) (bM (by (exact Nat.le_trans (by assumption) (by decide)))) (λC o=>⟨aE o _,[],rfl,.nil⟩) (λC i g d _ r h=>?_) (λC g d _ r=>?_) ?_ ?_
   .exact⟨_,(c.map V.ref)[i]'(by ((try clear a5 hy);omega)),bG (aQ r.1 I),Aa _⟩
   .exact⟨_,bG (aQ r.1 I),by (assumption)⟩
   .rintro C i g He x H' A B o hi ⟨a,J,rfl,L⟩ y ⟨rfl,hz⟩ ha X;have k:=hz _ (bG (aQ a I))
    have z:ZZ[i]?=some ZZ[i]:=Aa hi
    have ep:c[i]?=some (c[i]'(by ((try clear T a5 hy);omega))):=Aa (by ((try clear T a5 hy);omega))
    rw[Ae,ep]at k;cases k;have Z:=(sD.trans a) _ _ (O i _ _ ep z)
    left;refine⟨Wk.set rfl (Wk.refl _),?_⟩;left;refine cW Z (v:=.str ZZ[i].1) rfl ?_;left;refine cW Z (v:=.str ZZ[i].2) rfl ?_;left;refine⟨r0,λp u=>?_⟩
    have t:=aE u (.tup [.str ZZ[i].1,.str ZZ[i].2])
    refine ha _ _ (t _ _ y) ⟨bQ o (a.trans t),J++[p],by rw[Ar];rfl,?_⟩
    rw[Bf,z,Ar];exact((L.keep t).app (.one (none_of a u) aG)).put (t _ _ y)
   .rintro C g He o ⟨a,J,rfl,L⟩ y hy;rw[Cm]at L;have W:ZA He C ZZ:=⟨J,y,by rw[L.1,Ac],λj p b u X=>(L.2 j p _ u (by rw[Ae,X];rfl)).2⟩
    have s3:=s1.trans (R.trans a)
    left;refine⟨C,rfl,W,λH4 s4=>?_⟩;left;exact q C H4 (none_of (s1.trans R) o) (s3.trans s4) (W.keep s4)
noncomputable def iL(c:Nat):Str:=if dG c then one c++Str.ofString "x" else one c
noncomputable instance (c:Nat):Decidable (dG c):=by unfold dG;exact inferInstance
noncomputable def oY(n:Int):Str:=Str.ofString (toString n)
noncomputable def fI(n:Nat->Int)(c:Nat):Str:=iL c++oY (n c)
noncomputable def lZ(n:Nat->Int):Str:=Txt.join " " ((aU n 27).map (fI n))
def qF(c:Nat):1<=(iL c).length/\(iL c).length<=2:=by
 unfold iL;by_cases h:dG c
 .rw[if_pos h,Hq];exact⟨by show 1<=1+1;decide,by show 1+1<=2;decide⟩
 .rw[if_neg h];exact⟨by show 1<=1;decide,by show 1<=2;decide⟩
def sO(c:Nat):∃r,(iL c).cps.toList=c::r:=by
 unfold iL;by_cases h:dG c
 .rw[if_pos h,FlT.ZK];exact⟨_,rfl⟩
 simp_all
def oZ:Sp:=λa H Q _=>∃c,a=[.str (one c)]/\Q (.str (iL c)) H
def MX:Z_ ["flag"] ["flag"] (aJ sY):=by fail "sc"
def JT(F:ZQ K "mark_of" "mark_of" sY f fd):Z9 P w K mg base ZO 1 f fd ["flag"] oZ:=by
 refine F.ok MX (λd H Q E h=>?_) (λg A a s H d Q E j h=>?_)
 .obtain⟨c,rfl,_⟩:=h;rfl
 obtain⟨c,rfl,q⟩:=h;refine⟨_,(@aH _ _ _ _ _ (bP (bD VV (mv 0) (dA rfl G.s_SUBSTITUTES) (by rfl)) (@aI _ _ _ (aV (cH cL (mv 0) cB))) bE) (@aI _ _ _ (aV (mv 0)))),?_⟩
 have e:(one c).length=1:=rfl
 left;rw[show subIn (one c) "1234"=decide (dG c) from pT c];unfold iL at q;refine iA (λb=>?_) (λb=>?_)
 .rw[if_pos (Aw b)]at q;left;exact q
 .rw[if_neg (Bs (Bm.mpr b))]at q;exact q
def Hw:∀k:_root_.Fin 99,(oY ((k.val:Int)+1)).length<=2/\PySem.intText? (oY ((k.val:Int)+1))=some ((k.val:Int)+1)/\32∉(oY ((k.val:Int)+1)).cps.toList:=by right
def Us{n:Int}(h1:1<=n)(a:n<=99):(oY n).length<=2/\PySem.intText? (oY n)=some n/\32∉(oY n).cps.toList:=by
 have r:=Hw ⟨(n-1).toNat,by omega⟩
 rwa[show (((n-1).toNat:Nat):Int)+1=n by ((try clear r);omega)]at r
def EW(a:List Str):kE (a.map V.str) (a.map V.str)=true:=by
 rw[jX rfl,Bv];intro i c;have f:=iB (cJ a) i
 generalize (a.map V.str).getD i .non=x at f ⊢;cases x with
 |non=>rfl
 |bl b=>show (b==b)=true;simp
 |int i=>show (i==i)=true;simp
 |str z=>show (z==z)=true;simp
 |_=>cases f
def lO:Sp:=λe H Q _=>∃a b f,e=[.ref a]/\Rd H a (.dK b)/\Lk b f/\(∀c,cntF f c<=99)/\∀d,Same H d->Q (.str (lZ (cntF f))) d
def QJ(b:∀c,n c<=99):∀z∈(aU n 27).map (fI n),z.length<=4:=λz a=>by
 obtain⟨c,d,rfl⟩:=Bw.mp a;have p:=(ZP.mp d).2
 have r:=Us  (by (assumption)) (b c)
 have m:=qF c
 unfold fI;rw[Hq];((try clear p);omega)
def RX{n:Nat}:∀ {L:List Nat},(∀x∈L,x<=n)->L.sum<=n*L.length
 |[],_=>Ai _
 |x::r,h=>by
  rw[Gw,Be,Nat.mul_succ];have c:=h x Al
  have b:=RX λy a=>h y (Am _ a)
  omega
def EF(e:∀c,n c<=99):(((aU n 27).map (fI n)).map (·.length)).sum+((aU n 27).map (fI n)).length*(Str.ofString " ").length<=16777216:=by
 have a:(((aU n 27).map (fI n)).map _).sum<=4*(((aU n 27).map (fI n)).map (·.length)).length:=RX λx d=>by
  obtain⟨z,b,rfl⟩:=Bw.mp d;exact QJ e z b
 rw[Ac,Ac]at a;rw[Ac,show (Str.ofString " ").length=1 from rfl];have:=dX n 27
 omega
def Pe:Z_ ["locker", "plain"] ["locker"] (aJ fT):=by fail "sc"
def uJ(F:ZQ K "shown_locker" "shown_locker" fT f fd)(U:ZM P w K mg base 1 "plain_locker" ["locker"] cY)(W:ZM P w K mg base 1 "mark_of" ["flag"] oZ):Z9 P w K mg base ZO 2 f fd ["locker"] lO:=by
 refine F.ok Pe (λX H Q E h=>?_) (λa1 A u s H X Q E m h=>?_)
 .obtain⟨a,j,f,rfl,_⟩:=h;rfl
 obtain⟨a,j,f,rfl,ha,lk,k,q⟩:=h;refine⟨_,(@aH _ _ _ _ _ (aY 1 Pe.nd (bF U m (by decide) rfl (aA (mv 0) aD))) (@aI _ _ _ (aV (cC Bo Ee Ef sI cB (aA (Si (cD rfl (Q8 (mv 1)) (fG (N:=["flag", "plain"]) ["locker", "plain"] (aJ fT) [none,some 1] rfl rfl rfl (λx h=>cE h) (by right)) (by right) rfl (by right) (λ_ _ _ _=>(bB (i:=0) (show List.Nodup (["flag", "plain"]:List Str) by right) rfl (Or.inl rfl))) (λ_ _ _ _=>cI) (λ_ _ _ _=>(cH cL (bF W m (by decide) rfl (aA (mv 0) aD)) (cG UK rfl G.b_str Uq (aA (jE (Z4.u1 m) (mv 1) (mv 0) (λ_ _=>rfl)) aD)))))) aD))))),?_⟩
 left;refine⟨a,j,f,rfl,ha,lk,λr t m Z T=>?_⟩;left;refine ND T λo=>?_;have C:(upd t r (.frz o (.dK (Zn (cntF f) (aU (cntF f) 27))))) r=_:=aG
 have kl:(Zn (cntF f) (aU (cntF f) 27)).length=(aU (cntF f) 27).length:=by unfold Zn;rw[Ac]
 have pl:=dX (cntF f) 27
 refine fO (n:=(aU (cntF f) 27).length) (λD i g e=>Same (upd t r (.frz o (.dK (Zn (cntF f) (aU (cntF f) 27))))) e/\g=(((aU (cntF f) 27).take i).map (fI (cntF f))).map V.str) (bM (by (exact Nat.le_trans (by assumption) (by decide)))) (λD p=>⟨aE p _,rfl⟩) (λD i g e _ r h=>⟨r.1 _ _ C,by ((try clear pl);omega)⟩) (λD g e _ r=>⟨r.1 _ _ C,kl⟩) ?_ ?_
 .rintro D i g e x H' A B p hi ⟨l,rfl⟩ b ⟨rfl,kv,d,rfl⟩ y hB;have I:(aU (cntF f) 27)[i]?=some (aU (cntF f) 27)[i]:=Aa hi
  have O:=As I
  unfold Zn at d;rw[Ae,I]at d;cases d;have hp:=(ZP.mp O).2
  have L:=k (aU (cntF f) 27)[i]
  have R:dE (Zn (cntF f) (aU (cntF f) 27)) (Sum.inr (one (aU (cntF f) 27)[i]))=some (.int (cntF f (aU (cntF f) 27)[i])):=by
   rw[(fF (cntF f)).val];unfold bK;have M:=ZP.mp O
   rw[if_pos ⟨ZC.mp (Fh M.1),M.2⟩];rfl
  have Y:((aU (cntF f) 27).take (i+1))=(aU (cntF f) 27).take i++[(aU (cntF f) 27)[i]]:=by rw[Bf,I];rfl
  rw[Y]at y;generalize (aU (cntF f) 27)[i]=c at hp L R y;have nk:=Us (n:=cntF f c) (by (assumption)) L
  have mk:=qF c
  dsimp only[kV];left;refine⟨Wk.set rfl (Wk.refl _),?_⟩;left;refine⟨c,rfl,?_⟩;left;refine yD (z:=one c) (.inr ⟨o,l _ _ C⟩) R ?_;left
  refine s_str (by have : (cntF f c).natAbs ≤ 99 := by ((try clear hi kl mk nk pl);omega)
                   exact Nat.lt_of_le_of_lt (Nat.log2_le_self _) (by (exact Nat.lt_of_le_of_lt (by assumption) (by decide)))) ?_
  refine mX (bJ (by show (iL c).length+(oY (cntF f c)).length<=_;((try clear L hi hp kl pl);omega))) ?_
  refine y _ _ b ⟨bQ p l,?_⟩;rw[Ar,Ar];rfl
 .rintro D g e p ⟨l,rfl⟩ b _;rw[Cm]at b;have J:=pY T (λo v z=>nomatch z) l
  have S:=gZ (Hs:=t) b (λo v z=>nomatch z)
  generalize Y0 t e=Hu at J S;left;refine rR (ss:=(aU (cntF f) 27).map (fI (cntF f))) (aO S) (EF k) ?_;exact q _ (Z.trans J)
def QK:∀ {a:List Str},z∈a->YK (.str z) (a.map V.str)=true
 |y::r,h=>by
  show ((y==z) || YK _ _)=true
  rcases Ba.mp h with e|e
  .rw[e];simp
  .rw[QK e,Bool.or_true]
def rH:Sp:=λb H Q _=>∃n,b=[.str (oY n)]/\1<=n/\n<=99/\∀a,Same H a->Q (.bl true) a
def Js:Z_ ["text"] ["text"] (aJ mZ):=by fail "sc"
def Jw(F:ZQ K "is_number" "is_number" mZ f fd):Z9 P w K mg base ZO 1 f fd ["text"] rH:=by
 refine F.ok Js (λc H Q E h=>?_) (λg A a s H c Q E k h=>?_)
 .obtain⟨n,rfl,_⟩:=h;rfl
 obtain⟨n,rfl,p,o,q⟩:=h;refine⟨_,(@aI _ _ _ (aV (cZ U5 (mv 0) (cD rfl (Oc rfl G.b_range (aA aM (aA (cH cL (eK rfl G.s_MOST_OF_A_FLAG) aM) aD))) (dZ (N:=["number"]) (by right) (by right)) (by right) rfl (by right) (λ_ _ _ _=>(bB (i:=0) (show List.Nodup (["number"]:List Str) by right) rfl (Or.inl rfl))) (λ_ _ _ _=>cI) (λ_ _ _ _=>(cG UK rfl G.b_str Uq (aA (mv 0) aD)))) (by rfl)))),?_⟩
 left;refine⟨⟨by (exact Int.natCast_nonneg _),by (exact Int.natCast_nonneg _),by (exact Int.natCast_nonneg _),by (exact Int.natCast_nonneg _)⟩,?_⟩
 rw[show ((99:Int)+1-1).toNat=99 from rfl];refine HP (λi=>some (.str (oY (1+(i:Int))))) (bM (by ((try clear o p);omega))) (λi u A B l j e=>?_) (λD t m d b=>?_)
 .have r:=e _ (Same.refl _)
  left;refine⟨Wk.set rfl (Wk.refl _),?_⟩;left
  refine s_str (by have : (1 + (i : Int)).natAbs ≤ 99 := by ((try clear o p);omega)
                   exact Nat.lt_of_le_of_lt (Nat.log2_le_self _) (by (exact Nat.lt_of_le_of_lt (by assumption) (by decide)))) ?_
  exact r
 .rw[gL,show (List.range 99).map (λi:Nat=>V.str (oY (1+(i:Int))))=((List.range 99).map λi:Nat=>oY (1+(i:Int))).map V.str by rw[Ci];rfl]at b
  left;refine VX (neg:=false) (aO b) rfl (cJ _) ?_;rw[QK (Bw.mpr ⟨(n-1).toNat,Cu.mpr (by omega),by rw[show 1+(((n-1).toNat:Nat):Int)=n by omega]⟩)]
  exact q _ d
def Ia(a b:Str):Txt.slice (a++b) (some (a.length:Int)) none=b:=by
 have e:a++b=bS _:=FlT.Zm (by rw[FlT.ZK];rfl)
 rw[e,Lm (by (exact Int.natCast_nonneg _))]
 refine FlT.Zm ?_;rw[cS,show ((a.length:Int)).toNat=a.cps.toList.length by simp[Str.length],List.drop_left]
def MH(a b:Str):Txt.startswith (a++b) a=true:=YH.mpr ⟨b.cps.toList,by rw[FlT.ZK]⟩
def ES(h:d≠c)(b:Str):Txt.startswith (iL c++b) (iL d)=false:=by
 rw[Bm];intro z;obtain⟨r,e⟩:=YH.mp z;obtain⟨i,f⟩:=sO c;obtain⟨g,a⟩:=sO d;rw[FlT.ZK,f,a]at e;simp_all
def qS:Sp:=λb H Q _=>∃c n,b=[.str (iL c++oY n)]/\fU c/\1<=n/\n<=99/\∀r a,H r=none->Same H a->a r=some (.tup [.str (one c),.int n])->Q (.ref r) a
def d9:Z_ ["text", "flag", "number"] ["text"] (aJ mR):=by fail "sc"
def CD(F:ZQ K "read_some" "read_some" mR f fd)(D:ZM P w K mg base 1 "is_number" ["text"] rH)(o:ZM P w K mg base 1 "mark_of" ["flag"] oZ):Z9 P w K mg base ZO 2 f fd ["text"] qS:=by
 refine F.ok d9 (λv H Q E h=>?_) (λC A l s H v Q E m h=>?_)
 .obtain⟨c,n,rfl,_⟩:=h;rfl
 obtain⟨c,n,rfl,B,u,b,q⟩:=h;refine⟨_,(@aH _ _ _ _ _ (dY Bp rfl (lG (dA rfl G.s_FLAGS)) (bB (i:=1) d9.nd rfl (Or.inl rfl)) (@aH _ _ _ _ _ (aY 2 d9.nd (fR WG (mv 0) (eQ (aP cK rfl G.b_len bR (aA (bF o m (by decide) rfl (aA (mv 1) aD)) aD))) nV)) (@aI _ _ _ (bP (PW.pt (Sa (cN (cC Bo PySem.F.slot_str_startswith PySem.F.type_str_startswith HV (mv 0) (aA (bF o m (by decide) rfl (aA (mv 1) aD)) aD))) (Tr (cN (bF D m (by decide) rfl (aA (mv 2) aD)))))) (@aI _ _ _ (aV (gA (aA (mv 1) (aA (cG VP rfl G.b_int sK (aA (mv 2) aD)) aD))))) bE)))) (@aI _ _ _ iK)),?_⟩
 obtain⟨M,x,N⟩:=Us u b;have mk:=qF c
 have L:(iL c++oY n).length<=4:=by rw[Hq];((try clear b u);omega)
 left;refine N1 (λi U J=>∃k j,U=[some (.str (iL c++oY n)),k,j]/\Same H J/\c∉ZN.cps.toList.take i) ⟨_,_,rfl,Same.refl _,λz=>nomatch z⟩ ?_ ?_
 .rintro i d U I y ⟨k,j,rfl,g,a⟩;have O:=qF d
  left;refine⟨d,rfl,?_⟩;left;refine⟨d,rfl,?_⟩;by_cases e:d=c
  .subst e;left;refine Qt (MH _ _) ?_;left;rw[Ia];refine⟨n,rfl,u,b,λR r=>?_⟩;left;refine sU x (by (exact Nat.le_trans (by assumption) (by decide))) ?_
   left;refine⟨r0,λp t=>?_⟩
   exact q p _ (none_of (g.trans r) t) (g.trans (r.trans (aE t _))) aG
  .left;refine Qt (ES e _) ?_;refine⟨_,_,rfl,g,λz=>?_⟩;rw[Bf,y]at z;rcases Ce.mp z with z|z
   .exact a z
   .exact e (Ak.mp z).symm
 .rintro U I ⟨k,j,rfl,g,a⟩;exact absurd (ZC.mpr B) (by rwa[Bd (Ai _)]at a)
def Lk.merge(g:Nat->Int):∀L a b,Lk a b->Lk (jN a (Zn g L)) (λd=>if d∈L then some (g d) else b d)
 |[],a,b,h=>h.ext (by grind)
 | c::r,a,b,h=>(Lk.merge g r _ _ (h.put c _)).ext (by grind)
def MT(t:ZE H1 H ps (L.map λc=>[V.str (one c),V.int (g c)])):vC H ps (Zn g L):=by
 refine⟨by rw[t.1,Ac];unfold Zn;rw[Ac],λj q d b a=>?_⟩
 unfold Zn at a;rw[Ae]at a;cases e:L[j]? with
 |none=>rw[e]at a;cases a
 |some c=>
  rw[e]at a;cases a;exact(t.2 j q [V.str _,V.int _] b (by simp_all)).2
def MK(n:Nat->Int):ZN.cps.toList.filterMap (λc=>if c∈aU n 27 then some (V.str (one c)) else none)=((aU n 27).map one).map V.str:=by
 have h:∀L:List Nat,(∀c∈L,c∈ZN.cps.toList)->L.filterMap (λc=>if c∈aU n 27 then some (V.str (one c)) else none)=((L.filter λc=>decide (0<n c)).map one).map V.str:=λL i=>by
  induction L with
  |nil=>rfl
  |cons d r j=>
   have a:=j λc f=>i c (Am _ f)
   have e:d∈aU n 27 ↔ 0<n d:=by
    rw[ZP,Bd (by decide)]
    exact⟨λz=>z.2,λz=>⟨i d Al,z⟩⟩
   grind
 have r:=h ZN.cps.toList λc f=>f
 rw[r];unfold aU;rw[Bd (by decide)]
def CU(f:∀c,n c<=99):∀z∈(aU n 27).map (fI n),32∉z.cps.toList:=λz e=>by
 obtain⟨c,g,rfl⟩:=Bw.mp e;have b:=ZP.mp g
 have i:=ZC.mp (Fh b.1)
 obtain⟨_,_,d⟩:=Us (n:=n c) (by have:=b.2;(assumption)) (f c)
 unfold fI iL;rw[FlT.ZK];intro m;rcases Ce.mp m with m|m
 .have a:(32:Nat)≠c:=λz=>by subst z;unfold fU bW dG at i;((try clear b);omega)
  by_cases h:dG c
  .rw[if_pos h,FlT.ZK]at m;rcases Ce.mp m with m|m
   .exact a (Ak.mp m)
   .exact absurd m (by decide)
  simp_all
 .exact d m
def G2(a:∀c,n c<=99):(lZ n).length<=200:=by
 have r:=CT (sep:=Str.ofString " ") (QJ a)
 rw[Ac,show (Str.ofString " ").length=1 from rfl]at r;have:=dX n 27
 exact Cd r (by ((try clear r);omega))
def Yz:lZ n=Str.ofString "" ↔ aU n 27=[]:=by
 constructor
 .intro h;cases e:aU n 27 with
  |nil=>rfl
  |cons c r=>
   unfold lZ at h;rw[e,Ax]at h;have b:=Ds (λz=>z.cps.toList) h
   have a:=b
   rw[QX]at a;obtain⟨f,d⟩:=sO c;unfold fI at a;rw[FlT.ZK,d]at a;cases a
 .intro h;unfold lZ;rw[h];rfl
def Kn(a:∀c,n c<=99)(h:aU n 27≠[]):Txt.split (lZ n) " "=(aU n 27).map (fI n):=
 Lx  (λz=>h (Et.mp z)) (CU a)
def nM:Sp:=λd H Q _=>∃n,d=[.str (lZ n)]/\(∀c,n c<=99)/\∀r a b,H r=none->Same H b->b r=some (.dK a)->Lk a (bK n)->a.length<=27->Q (.ref r) b
def zN(g:Nat->Int):∀L a,(jN a (Zn g L)).length<=a.length+L.length
 |[],a=>Ai _
 |c::r,a=>by
  have h:=zN g r (eP a (Sum.inr (one c)) (.int (g c)))
  have b:=fH a (Sum.inr (one c)) (.int (g c))
  have e:jN a (Zn g (c::r))=jN _ (Zn g r):=rfl
  grind
def OC(n:Nat->Int):(λd=>if d∈aU n 27 then some (n d) else (λ_=>none) d)=bK n:=by
 funext d
 unfold bK;have e:d∈aU n 27 ↔ fU d/\0<n d:=by
  rw[ZP,Bd (by decide),ZC]
 grind
def b8:Z_ ["text", "some", "flags"] ["text"] (aJ gN):=by fail "sc"
def yB(F:ZQ K "read_locker" "read_locker" gN f fd)(b9:ZM P w K mg base 2 "read_some" ["text"] qS):Z9 P w K mg base ZO 3 f fd ["text"] nM:=by
 refine F.ok b8 (λvs H Q E h=>?_) (λa5 A W s H vs Q E I h=>?_)
 .obtain⟨n,rfl,_⟩:=h;rfl
 obtain⟨n,rfl,m,q⟩:=h;refine⟨_,(@aH _ _ _ _ _ (bP (bD fW (mv 0) cB (aZ _)) (@aI _ _ _ (aV xO)) bE) (@aH _ _ _ _ _ (dW (i:=1) b8.nd rfl (Or.inl rfl) rfl (bU (cC Bo Ea Eb nX (mv 0) (@aL _ _ _ _ _ _ aD))) (dZ (N:=["part"]) (by right) (by right)) (by right) rfl (by right) (λ_ _ _ _=>(bB (i:=0) (show List.Nodup (["part"]:List Str) by right) rfl (Or.inl rfl))) (λ_ _ _ _=>cI) (λ_ _ _ _=>(bF b9 I (by decide) rfl (aA (mv 0) aD)))) (@aH _ _ _ _ _ (aY 2 b8.nd (cD rfl (bU (mv 1)) (dZ (N:=["flag", "number"]) (by right) (by right)) (by right) rfl (by right) (λ_ _ _ _=>(jF (K:=K) (i:=0) (j:=1) (by rfl) (by rfl) (show List.Nodup (["flag", "number"]:List Str) by right) (by rfl) (by exact Or.inl rfl) (by exact Or.inr rfl) (by rfl) (by exact Or.inl rfl) (by exact Or.inr rfl))) (λ_ _ _ _=>cI) (λ_ _ _ _=>(mv 0)))) (@aH _ _ _ _ _ (bP (bD (Ta I.ZF) (mv 2) (cD rfl (lG (dA rfl G.s_FLAGS)) (fG (N:=["flag", "flags"]) ["text", "some", "flags"] (aJ gN) [none,some 2] rfl rfl rfl (λx h=>cE h) (by right)) (by right) rfl (by right) (λ_ _ _ _=>(bB (i:=0) (show List.Nodup (["flag", "flags"]:List Str) by right) rfl (Or.inl rfl))) (λ_ _ _ _=>(jS (bD U5 (mv 0) (mv 1) (by rfl)))) (λ_ _ _ _=>(mv 0))) (aZ _)) (@aI _ _ _ iK) bE) (@aI _ _ _ (aV (cG (JA rfl) rfl G.b_dict KI (aA (mv 1) aD)))))))),?_⟩
 have ll:=G2 m
 have pl:=dX n 27
 left;by_cases O:aU n 27=[]
 .rw[show decide (lZ n=Str.ofString "")=true from Ao (Yz.mpr O)];left;intro p u;refine q p [] _ u (aE u _) aG (Lk.nil.ext ?_) (Do _);rw[<-OC,O];funext d
  rw[if_neg (λz=>nomatch z)]
 .rw[show decide (lZ n=Str.ofString "")=false from An (λz=>O (Yz.mp z))];left;refine rK (by decide) (by (exact Nat.le_trans (by assumption) (by decide))) λl hl=>?_
  rw[Kn m O];have s1:=aE hl (.lst (((aU n 27).map (fI n)).map V.str))
  have S:Z6 (upd H l (.lst (((aU n 27).map (fI n)).map V.str))) l=_:=bX
  generalize upd H l (.lst (((aU n 27).map (fI n)).map V.str))=H1 at s1 S ⊢;have a2:(((aU n 27).map (fI n)).map V.str).length=(aU n 27).length:=by rw[Ac,Ac]
  left;refine fO (n:=(aU n 27).length) (λD i y o=>Same H1 o/\∃a,y=a.map V.ref/\ZE H1 o a (((aU n 27).take i).map λc=>[.str (one c),.int (n c)])) (bM (by (exact Nat.le_trans (by assumption) (by decide)))) (λD R=>⟨aE R _,[],rfl,.nil⟩) (λD i y o _ r h=>?_) (λD y o _ r=>?_) ?_ ?_
  .exact⟨_,(((aU n 27).map (fI n)).map V.str)[i]'(by ((try clear ll pl);omega)),bG (aQ r.1 S),Aa _⟩
  .exact⟨_,bG (aQ r.1 S),by (exact Nat.le_of_eq (by assumption))⟩
  .rintro D i y o x H' A B R hi ⟨C,a,rfl,t⟩ g ⟨rfl,hz⟩ ha hb;have k:=hz _ (bG (aQ C S))
   have v:=Aa hi
   rw[Ae,Ae,v]at k;cases k;have mm:=ZP.mp (As v)
   have fl:=ZC.mp (Fh mm.1)
   have n9:=m (aU n 27)[i]
   left;refine⟨Wk.set rfl (Wk.refl _),?_⟩;left;refine⟨(aU n 27)[i],n (aU n 27)[i],rfl,fl,by have:=mm.2;(assumption),n9,λp Hp u U ep=>?_⟩
   have M:=U _ _ g
   refine ha _ _ M ⟨bQ R (C.trans U),a++[p],by rw[Ar];rfl,?_⟩
   rw[Bf,v,Ar];exact((t.keep U).app (.one (none_of C u) ep)).put M
  .rintro D y o R ⟨C,a,rfl,t⟩ g hy;rw[Cm]at t;have L:a.length=(aU n 27).length:=by rw[t.1,Ac]
   have J:(a.map V.ref).length=(aU n 27).length:=by rw[Ac,L]
   have T:∀j p c,a[j]?=some p->(aU n 27)[j]?=some c->o p=some (.tup [.str (one c),.int (n c)]):=λj p c u hc=>(t.2 j p _ u (by rw[Ae,hc];rfl)).2
   have rD:=aO g
   have s2:=s1.trans C
   left;refine eO (xs:=a.map V.ref) (λj=>((aU n 27)[j]?).map λc=>V.str (one c)) rD (by rw[J];exact bM (by (exact Nat.le_trans (by assumption) (by decide)))) (λj x Hd A B k sd hA hB=>?_) (λD2 Hd a4 sD Y=>?_)
   .rw[Ae]at k;cases e:a[j]? with
    |none=>rw[e]at k;cases k
    |some p=>
     rw[e]at k;cases k;have hj:j<(aU n 27).length:=by rw[<-L];exact(Ag.mp e).1
     have v:=Aa hj
     have ht:=dN (sd _ _ (T j p _ e v))
     have a1:=hA (.str (one (aU n 27)[j])) (by rw[v];rfl)
     left;refine⟨Wk.set rfl (Wk.set rfl (Wk.refl _)),?_⟩;left;exact a1 _ (Same.refl _)
   .rw[J,dO,show (aU n 27).map (λc=>V.str (one c))=((aU n 27).map one).map V.str by rw[Ci];rfl]at Y
    have rd:=aO Y
    left;refine OJ (λc=>if c∈aU n 27 then some (V.str (one c)) else none) (bM (by decide)) (λi c He A B hc se hA=>?_) (λD3 He a3 sE Z=>?_)
    .left;refine⟨Wk.set rfl (Wk.refl _),?_⟩;left;refine VX (neg:=false) (aQ se rd) rfl (cJ _) ?_;rw[if_neg (by decide),show V.str ⟨#[c]⟩=V.str (one c) from rfl,ET]
     have r:=hA _ (Same.refl _)
     refine iA (λX=>?_) (λX=>?_)
     .rw[if_pos (Aw X)]at r;left;exact r
     .rw[if_neg (Bs (Bm.mpr X))]at r;left;exact r
    .replace Z:He D3=some (.lst (((aU n 27).map one).map V.str)):=by rw[Z];exact Ds (λz=>some (HO.lst z)) (MK n)
     have b:=sD.trans sE
     left;refine V4 (neg:=true) (aO (sE _ _ Y)) (aO Z) (cJ _) (cJ _) ?_;rw[if_pos rfl,EW,Bool.not_true];left;refine Lc (kvs:=Zn n (aU n 27)) (b _ _ g) (MT (t.keep b)) λr I=>?_;refine q r _ _ (none_of (s2.trans b) I) (s2.trans (b.trans (aE I _))) aG ?_ ?_
     .exact(Lk.merge n (aU n 27) [] (λ_=>none) .nil).ext (OC n)
     .have:=zN n (aU n 27) []
      exact Cd this (by show 0+_<=_;((try clear J hy ll this);omega))
def iZ:Sp:=λe H Q _=>∃a c b,e=[.ref a]/\Z6 H a=some c/\Z2 H c b/\lM b/\b.length<=6/\∀d,Same H d->Q (.str (Txt.join ⟨#[32]⟩ (b.map zC))) d
def IF(ok:lM hs)(e:hs.length<=6):((hs.map zC).map (·.length)).sum+(hs.map zC).length*(Str.ofString " ").length<=16777216:=by
 have d:∀L:List Str,(∀z∈L,z.length<=7)->(L.map (·.length)).sum<=7*L.length:=λL h=>by
  induction L with
  |nil=>exact Ai _
  |cons u v a=>
   grind
 have r:=d (hs.map zC) λz b=>(CO ok z b).1
 rw[Ac]at r ⊢;rw[show (Str.ofString " ").length=1 from rfl];omega
def qE:Z_ ["halyards"] ["halyards"] (aJ fY):=by fail "sc"
def rJ(F:ZQ K "shown_halyards" "shown_halyards" fY f fd):Z9 P w K mg base ZO 1 f fd ["halyards"] iZ:=by
 refine F.ok qE (λo H Q E h=>?_) (λO A d s H o Q E g h=>?_)
 .obtain⟨a,k,c,rfl,_⟩:=h;rfl
 obtain⟨a,k,c,rfl,C,b,l,L,q⟩:=h;refine⟨_,(@aI _ _ _ (aV (cC Bo Ee Ef sI cB (aA (cD rfl (bU (mv 0)) (dZ (N:=["hoist"]) (by right) (by right)) (by right) rfl (by right) (λ_ _ _ _=>(bB (i:=0) (show List.Nodup (["hoist"]:List Str) by right) rfl (Or.inl rfl))) (λ_ _ _ _=>cI) (λ_ _ _ _=>(kH (bD Vx (mv 0) cO (aZ _)) (dA rfl G.s_BARE) (cC Bo Ee Ef sI cB (aA (mv 0) aD))))) aD)))),?_⟩
 left;refine eO (λi=>(c[i]?).map λh=>V.str (zC h)) C (bM (by rw[b.len];(exact Nat.le_trans (by assumption) (by decide)))) (λi x U A B v t I S=>?_) (λD T R u g=>?_)
 .obtain⟨h,n,m⟩:=b.at v;have r:=I (.str (zC h)) (by rw[n];rfl)
  left;refine⟨Wk.set rfl (Wk.refl _),?_⟩;cases h with
  |none=>
   rw[show x=.non from m];left;rw[show decide (V.non=V.non)=true from rfl];left;exact r _ (Same.refl _)
  |some M=>
   obtain⟨p,rfl,y⟩:=m;have j:=t _ _ y
   have J:=iC (l M (As n))
   rw[Ac]at J;left;rw[show decide (V.ref p=V.non)=false from An (λz=>nomatch z)]
   left;refine rR (aO j) (by rw[EB,Ac,show (Str.ofString "").length=0 from rfl];((try clear L);omega)) ?_
   rw[J8];exact r _ (Same.refl _)
 .have e:(List.range k.length).filterMap (λi=>(c[i]?).map λh=>V.str (zC h))=(c.map zC).map V.str:=by
   rw[b.len,Ci];exact dO _ c
  rw[e]at g;left;refine rR (aO g) (IF l L) ?_;exact q _ u
noncomputable def YI:List (Str×Int):=[("haul",3),("lower",2),("lose",2),("find",2),("sight",2),("check",2),("halyards",1),("locker",1),("read",1),("log",1)]
noncomputable def iX(w:Str)(r:List Str):Bool:=!YK (.str "") ((w::r).map V.str)&&(if YK (.str w) ((["say", "cut"]:List Str).map V.str)=true then decide (1<(w::r).length) else decide (YI.lookup w=some (((w::r).length:Nat):Int)))
def RV:Sp:=λb H Q _=>∃a w r,b=[.ref a]/\Z6 H a=some ((w::r).map V.str)/\Q (.bl (iX w r)) H
def Hf:Z_ ["words"] ["words"] (aJ vY):=by fail "sc"
def C7(F:ZQ K "is_row" "is_row" vY f fd):Z9 P w K mg base ZO 1 f fd ["words"] RV:=by
 refine F.ok Hf (λk H Q E h=>?_) (λm A d s H k Q E p h=>?_)
 .obtain⟨a,b,r,rfl,_⟩:=h;rfl
 obtain⟨a,b,r,rfl,c,q⟩:=h;refine⟨_,(@aH _ _ _ _ _ (bP (bD U5 cB (mv 0) (by rfl)) (@aI _ _ _ (aV lV)) bE) (@aH _ _ _ _ _ (bP (Km G.t_WITH_TERMS rfl (bH bZ (mv 0) aM (λ_ _=>rfl))) (@aI _ _ _ (aV (cZ uM (aP cK rfl G.b_len bR (aA (mv 0) aD)) aM (aZ _)))) bE) (@aI _ _ _ (aV (cZ fW (R6 rfl G.d_WORDS_IN (aA (bH bZ (mv 0) aM (λ_ _=>rfl)) aD)) (aP cK rfl G.b_len bR (aA (mv 0) aD)) (aZ _)))))),?_⟩
 unfold iX at q;left;refine VX (neg:=false) c rfl (cJ _) ?_;rw[if_neg Aq];cases i:YK (.str "") ((b::r).map V.str) with
 |true=>
  rw[i]at q;left;exact q
 |false=>
  rw[i,Bool.not_false,Ei]at q;left;refine cA c (v:=.str b) (aX (j:=0) rfl) ?_;refine⟨b,rfl,?_⟩;cases g:YK (.str b) ((["say", "cut"]:List Str).map V.str) with
  |true=>
   rw[g,if_pos rfl]at q;left;rwa[show decide ((1:Int)<((((b::r).map V.str).length:Nat):Int))=decide (1<(b::r).length) from Dy.mpr (by rw[Ac];omega)]
  |false=>
   rw[g,if_neg Aq]at q;left;refine cA c (v:=.str b) (aX (j:=0) rfl) ?_;left;refine⟨b,rfl,?_⟩;rw[show List.lookup b [("haul",3),("lower",2),("lose",2),("find",2),("sight",2),("check",2),("halyards",1),("locker",1),("read",1),("log",1)]=YI.lookup b from rfl];generalize YI.lookup b=o at q ⊢;have l:(((b::r).map V.str).length:Int)=(((b::r).length:Nat):Int):=by rw[Ac]
   cases o with
   |none=>
    left;refine⟨rfl,?_⟩
    rwa[An (λe=>nomatch e)]at q
   |some n=>
    left;rwa[l,show decide (n=(((b::r).length:Nat):Int))=decide (some n=some (((b::r).length:Nat):Int)) from Dy.mpr ⟨λe=>by rw[e],λe=>Ay e⟩]
def lN(d:Addr):Sp:=λc H Q E=>∃z w r,c=[.str z]/\z.length<=900/\Txt.split z " "=w::r/\(iX w r=true->∀a b,H a=none->Same H b->b a=some (.lst ((w::r).map V.str))->Q (.ref a) b)/\(iX w r=false->∀b,Same H b->E (.ref d) none b)
def N8:Z_ ["row", "words"] ["row"] (aJ iO):=by fail "sc"
def uH(F:ZQ K "words_of_row" "words_of_row" iO f fd)(o:ZM P w K mg base 1 "is_row" ["words"] RV):Z9 P w K mg base (Zb P w) 2 f fd ["row"] (lN Zp):=by
 refine F.Ys N8 (λj H Q E h=>?_) (λn A c s H j Q E m h=>?_)
 .obtain⟨z,a,r,rfl,_⟩:=h;rfl
 obtain⟨z,a,r,rfl,t,d,q,k⟩:=h;refine⟨_,(@aH _ _ _ _ _ (aY 1 N8.nd (cC Bo Ea Eb nX (mv 0) (@aL _ _ _ _ _ _ aD))) (@aH _ _ _ _ _ (bP (hJ (cN (bF o m (by decide) rfl (aA (mv 1) aD)))) (@aI _ _ _ (eA dP rfl rfl rfl G.c_NoRow G.x_NoRow Bl (@aL _ _ _ _ _ _ aD))) bE) (@aI _ _ _ (aV (mv 1))))),?_⟩
 left;refine Nz (by decide) (by (exact Nat.le_trans (by assumption) (by decide))) λl i=>?_
 rw[d];have b:=aE i (.lst ((a::r).map V.str))
 have g:(upd H l _) l=some (.lst ((a::r).map V.str)):=aG
 generalize upd H l (.lst ((a::r).map V.str))=p at b g ⊢;refine⟨l,a,r,rfl,aO g,?_⟩;cases e:iX a r with
 |true=>
  exact q e l p i b g
 |false=>
  exact⟨x0,k e _ b⟩
noncomputable def pS(z:Str):Option Nat:=if z.length=1/\subIn z "012345"=true then some (mL z-48) else none
def jC(c:Addr):Sp:=λb H Q E=>∃z,b=[.str z]/\z.length<=900/\(∀n,pS z=some n->Q (.int ((n:Nat):Int)) H)/\(pS z=none->∀a,Same H a->E (.ref c) none a)
def qO:Z_ ["text"] ["text"] (aJ gG):=by fail "sc"
def qC(F:ZQ K "halyard_number" "halyard_number" gG f fd):Z9 P w K mg base (Zb P w) 1 f fd ["text"] (jC Zy):=by
 refine F.Ys qO (λi H Q E h=>?_) (λm A a s H i Q E o h=>?_)
 .obtain⟨z,rfl,_⟩:=h;rfl
 obtain⟨z,rfl,n,q,j⟩:=h;refine⟨_,(@aH _ _ _ _ _ (bP (PW.pt (jY (bD UD (aP cK rfl G.b_len bR (aA (mv 0) aD)) aM (aZ _)) (gR (bD Ml (mv 0) (dA rfl G.s_HALYARD_FIGURES) (by rfl))))) (@aI _ _ _ (eA dP rfl rfl rfl G.c_NoHalyard G.x_NoHalyard Bl (@aL _ _ _ _ _ _ aD))) bE) (@aI _ _ _ (aV (cG VP rfl G.b_int sK (aA (mv 0) aD))))),?_⟩
 have d:=λh=>j (if_neg h)
 left;by_cases b:z.length=1
 .rw[Ao (show (z.length:Int)=1 by ((try clear n);omega))]
  obtain⟨c,rfl⟩:=rM b;left;cases e:subIn (one c) "012345" with
  |true=>
   have p:48<=c/\c<=53:=by
    rw[show subIn (one c) "012345"=decide (c∈(Str.ofString "012345").cps.toList) from kF _ _]at e;have:=Aw e
    have q:∀c∈(Str.ofString "012345").cps.toList,48<=c/\c<=53:=by right
    exact q c this
   have l:PySem.intText? (one c)=some (((c-48:Nat)):Int):=by
    have q:∀k,k<6->PySem.intText? (one (48+k))=some ((k:Nat):Int):=by right
    have:=q (c-48) (by ((try clear b n);omega))
    rwa [show 48+(c-48)=c by ((try clear b n);omega)]at this
   have r:=q (c-48) (if_pos ⟨b,e⟩)
   exact sU l (by show 1<=640;decide) r
  |false=>
   exact⟨x0,d (λh=>by rw[e]at h;exact nomatch h.2) _ (Same.refl _)⟩
 .rw[An (show ¬(z.length:Int)=1 by ((try clear n);omega))]
  exact⟨x0,d (λh=>b h.1) _ (Same.refl _)⟩
noncomputable def rP(z:Str):Bool:=decide (z.length<2) || decide (7<z.length) || !(z.cps.toList.all λc=>decide (c=63) || cV (one c))
def uA(c:Addr):Sp:=λb H _ E=>∃z,b=[.str z]/\z.length<=900/\rP z=true/\∀a,Same H a->E (.ref c) none a
def FU:Z_ ["text"] ["text"] (aJ oV):=by fail "sc"
def JU(F:ZQ K "sight_of" "sight_of" oV f fd)(j:ZM P w K mg base 1 "is_flag" ["text"] kT):Z9 P w K mg base (Zb P w) 2 f fd ["text"] (uA Zv):=by
 refine F.Ys FU (λk H Q E h=>?_) (λv A e s H k Q E o h=>?_)
 .obtain⟨z,rfl,_⟩:=h;rfl
 obtain⟨z,rfl,x,a,n⟩:=h;refine⟨_,(@aH _ _ _ _ _ (bP (PW.pt (jY (bD wU (aP cK rfl G.b_len bR (aA (mv 0) aD)) (eK rfl G.s_LEAST_SEEN) (aZ _)) (gR (bD uM (aP cK rfl G.b_len bR (aA (mv 0) aD)) (eK rfl G.s_MOST_PLACES) (aZ _))))) (@aI _ _ _ (eA dP rfl rfl rfl G.c_NoText G.x_NoText Bl (@aL _ _ _ _ _ _ aD))) bE) (@aH _ _ _ _ _ (bP (hJ (cN (aP (vT rfl) rfl G.b_all pQ (aA (cD rfl (lG (mv 0)) (dZ (N:=["sign"]) (by right) (by right)) (by right) rfl (by right) (λ_ _ _ _=>(bB (i:=0) (show List.Nodup (["sign"]:List Str) by right) rfl (Or.inl rfl))) (λ_ _ _ _=>cI) (λ_ _ _ _=>(Nn (cZ fW (mv 0) (dA rfl G.s_HIDDEN) (aZ _)) (sB (bF j o (by decide) rfl (aA (mv 0) aD)))))) aD)))) (@aI _ _ _ (eA dP rfl rfl rfl G.c_NoText G.x_NoText Bl (@aL _ _ _ _ _ _ aD))) bE) (@aI _ _ _ (aV (cD rfl (lG (mv 0)) (dZ (N:=["sign"]) (by right) (by right)) (by right) rfl (by right) (λ_ _ _ _=>(bB (i:=0) (show List.Nodup (["sign"]:List Str) by right) rfl (Or.inl rfl))) (λ_ _ _ _=>cI) (λ_ _ _ _=>(kH (bD fW (mv 0) (dA rfl G.s_HIDDEN) (aZ _)) cO (mv 0)))))))),?_⟩
 have g:∀d,Same H d->1<=sizeLine/\E (.ref Zv) none d:=λd m=>⟨x0,n d m⟩
 left;by_cases u:z.length<2
 .rw[Ao (show (z.length:Int)<2 by (exact Int.ofNat_le.mpr (by assumption)))]
  left;exact g _ (Same.refl _)
 rw[An (show ¬(z.length:Int)<2 by omega)]
 left;by_cases t:7<z.length
 .rw[Ao (show (7:Int)<(z.length:Int) by (exact Int.ofNat_le.mpr (by assumption)))]
  left;exact g _ (Same.refl _)
 rw[An (show ¬(7:Int)<(z.length:Int) by omega)]
 have q:(z.cps.toList.all λc=>decide (c=63) || cV (one c))=false:=by
  unfold rP at a;rwa[An u,An t,Gx,Gx,Fi]at a
 left;refine T7 (λc=>some (.bl (decide (c=63) || cV (one c)))) (bM (by (exact Nat.le_trans (by assumption) (by decide)))) (λi c y A B p b=>?_) (λD r=>?_)
 .left;refine⟨Wk.set rfl (Wk.refl _),?_⟩;left;rw[show decide ((⟨#[c]⟩:Str)=Str.ofString "?")=decide (c=63) from To c 63];by_cases h:c=63
  .rw[Ao h];rw[Ao h,Bool.true_or]at b;left;exact b
  .rw[An h];rw[An h,Gx]at b;left;exact⟨one c,rfl,by show 1<=1000;decide,b⟩
 .left;rw[show z.cps.toList.filterMap (λc=>some (V.bl (decide (c=63) || cV (one c))))=(z.cps.toList.map λc=>decide (c=63) || cV (one c)).map V.bl by rw[Ci];exact gL _ _]
  have l:=aE r (.lst ((z.cps.toList.map λc=>decide (c=63) || cV (one c)).map V.bl))
  refine xP (bs:=z.cps.toList.map λc=>decide (c=63) || cV (one c)) bX ?_;rw[show (z.cps.toList.map λc=>decide (c=63) || cV (one c)).all id=false by rwa[Ga]]
  exact g _ l
noncomputable def pX(z:Str):Bool:=!fM z || decide (6<z.length)
def lS(d:Addr):Sp:=λc H _ E=>∃z,c=[.str z]/\z.length<=900/\pX z=true/\∀a b,Same H b->b a=some (YL a [("at",.int 0)])->E (.ref d) (some a) b
def uS:Z_ ["word"] ["word"] (aJ iU):=by fail "sc"
def uK(F:ZQ K "checked_word" "checked_word" iU f fd)(m:ZM P w K mg base 5 "with_check" ["word"] gM)(p:Wa P w K mg base 1 Zu ["self", "at"] (iS Zu))(n:ZM P w K mg base 1 "is_word" ["text"] kO):Z9 P w K mg base (Zb P w) 6 f fd ["word"] (lS Zu):=by
 refine F.Ys uS (λo H Q E h=>?_) (λq A g s H o Q E i h=>?_)
 .obtain⟨z,rfl,_⟩:=h;rfl
 obtain⟨z,rfl,r,b,l⟩:=h;refine⟨_,(@aH _ _ _ _ _ (bP (PW.pt (jY (hJ (cN (bF n i (by decide) rfl (aA (mv 0) aD)))) (gR (bD uM (aP cK rfl G.b_len bR (aA (mv 0) aD)) (eK rfl G.s_LONGEST_WORD) (aZ _))))) (@aI _ _ _ (nW dP rfl rfl rfl G.c_NoWord G.Yp p i (by decide) (aA aM aD))) bE) (@aI _ _ _ (aV (bF m i (by decide) rfl (aA (mv 0) aD))))),?_⟩
 refine⟨z,rfl,by (exact Nat.le_trans (by assumption) (by decide)),λu k=>?_⟩
 unfold pX at b;cases e:fM z with
 |false=>
  refine⟨x0,λj c=>⟨j,_,rfl,aG,λd a=>⟨rfl,some d,(jM a).1,?_⟩⟩⟩
  exact l d _ (mU k c a) (jM a).2
 |true=>
  rw[e,Bool.not_true,Gx]at b;have t:=Aw b
  left;rw[Ao (show (6:Int)<(z.length:Int) by (exact Int.ofNat_le.mpr (by assumption)))]
  refine⟨x0,λj c=>⟨j,_,rfl,aG,λd a=>⟨rfl,some d,(jM a).1,?_⟩⟩⟩
  exact l d _ (mU k c a) (jM a).2
def pZ{w:Str}{r:List Str}{k:Nat}(h:iX w r=true)(h1:YK (.str w) ((["say", "cut"]:List Str).map V.str)=false)(a:YI.lookup w=some ((k+1:Nat):Int)):r.length=k:=by
 unfold iX at h;grind
def vE{n:Nat}:∀ {L:List Str},(∀z∈L,z.length<=n)->(L.map (·.length)).sum<=n*L.length
 |[],_=>Ai _
 |z::r,h=>by
  rw[Ax,Gw,Be,Nat.mul_succ];have:=h z Al
  have:=vE λx a=>h x (Am z a)
  omega
noncomputable def cT(w:Str)(r:List Str):Option (Option (List V)):=
 if w=Str.ofString "haul" then (pS (r.getD 0 "")).map λn=>some [.str w,.int ((n:Nat):Int),.str (r.getD 1 "")]
 else if w=Str.ofString "lower" then (pS (r.getD 0 "")).map λn=>some [.str w,.int ((n:Nat):Int)]
 else if w=Str.ofString "lose"\/w=Str.ofString "find" then some (some [.str w,.str (r.getD 0 "")])
 else if w=Str.ofString "say" then some (some [.str w,.str (Txt.join " " r)])
 else some none
def vG(e:Addr):Sp:=λd H Q E=>∃a w r,d=[.ref a]/\H a=some (.lst ((w::r).map V.str))/\iX w r=true/\(∀z∈r,z.length<=900)/\r.length<=100/\(∀c,cT w r=some (some c)->∀t b,H t=none->Same H b->b t=some (.tup c)->Q (.ref t) b)/\(cT w r=some none->Q .non H)/\(cT w r=none->∀b,Same H b->E (.ref e) none b)
def M7:Z_ ["words"] ["words"] (aJ sL):=by fail "sc"
def Ji(F:ZQ K "deed_of" "deed_of" sL f fd)(G:Gs K mg w Zo Zz Zr Zx Z0 Zt Zy Zu Zw Zv Zq Zs Zp Z1)(S:iV P w K mg base 1 "halyard_number" ["text"] (jC Zy)):Z9 P w K mg base (Zb P w) 2 f fd ["words"] (vG Zy):=by
 refine F.Ys M7 (λW H Q E h=>?_) (λZ A D s H W Q E U h=>?_)
 .obtain⟨a,b,r,rfl,_⟩:=h;rfl
 obtain⟨a,b,r,rfl,Y,l,m,X,d,i,e⟩:=h;refine⟨_,(@aH _ _ _ _ _ (bP (bD fW (bH bZ (mv 0) aM (λ_ _=>rfl)) cB (aZ _)) (@aI _ _ _ (aV (gA (@aL _ _ _ _ _ _ (aA (cP S bV U (by decide) rfl (aA (bH bZ (mv 0) aM (λ_ _=>rfl)) aD)) (aA (bH bZ (mv 0) aM (λ_ _=>rfl)) aD)))))) bE) (@aH _ _ _ _ _ (bP (bD fW (bH bZ (mv 0) aM (λ_ _=>rfl)) cB (aZ _)) (@aI _ _ _ (aV (gA (@aL _ _ _ _ _ _ (aA (cP S bV U (by decide) rfl (aA (bH bZ (mv 0) aM (λ_ _=>rfl)) aD)) aD))))) bE) (@aH _ _ _ _ _ (bP (PW.pt (jY (bD fW (bH bZ (mv 0) aM (λ_ _=>rfl)) cB (aZ _)) (gR (bD fW (bH bZ (mv 0) aM (λ_ _=>rfl)) cB (aZ _))))) (@aI _ _ _ (aV (gA (aA (bH bZ (mv 0) aM (λ_ _=>rfl)) (aA (bH bZ (mv 0) aM (λ_ _=>rfl)) aD))))) bE) (@aH _ _ _ _ _ (bP (bD fW (bH bZ (mv 0) aM (λ_ _=>rfl)) cB (aZ _)) (@aI _ _ _ (aV (gA (@aL _ _ _ _ _ _ (aA (cC Bo Ee Ef sI cB (aA (fR WG (mv 0) (eQ aM) nV) aD)) aD))))) bE) (@aI _ _ _ (aV cO)))))),?_⟩
 have c:=aO Y
 unfold cT at d i e;left;refine cA c (v:=.str b) (aX (j:=0) rfl) ?_;left;by_cases N:b=Str.ofString "haul"
 .subst N;rw [if_pos rfl] at d i e;obtain ⟨x,y,rfl⟩:∃ x y,r=[x,y]:=by
   have:=pZ (k:=2) l (by right) (by right)
   match r,this with
   |[x,y],_=>exact⟨x,y,rfl⟩
  rw[Ao rfl];left;refine cA c (v:=.str x) (aX (j:=1) rfl) ?_;left;refine⟨x,rfl,m x Al,λn o=>?_,λo O B=>e (by show (pS x).map _=none;rw[o];rfl) O B⟩
  left;refine cA c (v:=.str y) (aX (j:=2) rfl) ?_;left;refine⟨za0,λt g=>?_⟩
  exact d _ (by show (pS x).map _=_;rw[o];rfl) t _ g (aE g _) aG
 rw[if_neg N]at d i e;rw[An N];left;refine cA c (v:=.str b) (aX (j:=0) rfl) ?_;left;by_cases M:b=Str.ofString "lower"
 .subst M;rw [if_pos rfl] at d i e;obtain ⟨x,rfl⟩:∃ x,r=[x]:=by
   have:=pZ (k:=1) l (by right) (by right)
   match r,this with
   |[x],_=>exact⟨x,rfl⟩
  rw[Ao rfl];left;refine cA c (v:=.str x) (aX (j:=1) rfl) ?_;left;refine⟨x,rfl,m x Al,λn o=>?_,λo O B=>e (by show (pS x).map _=none;rw[o];rfl) O B⟩
  left;refine⟨r0,λt g=>?_⟩
  exact d _ (by show (pS x).map _=_;rw[o];rfl) t _ g (aE g _) aG
 rw[if_neg M]at d i e;rw[An M];left;refine cA c (v:=.str b) (aX (j:=0) rfl) ?_;left;by_cases p:b=Str.ofString "lose"\/b=Str.ofString "find"
 .rw [if_pos p] at d i e;obtain ⟨x,rfl⟩:∃ x,r=[x]:=by
   have:r.length=1:=by
    rcases p with rfl|rfl
    .exact pZ (k:=1) l (by right) (by right)
    .exact pZ (k:=1) l (by right) (by right)
   match r,this with
   |[x],_=>exact⟨x,rfl⟩
  have u:∀t,H t=none->Q (.ref t) (upd H t (.tup [.str b,.str x])):=λt g=>d _ rfl t _ g (aE g _) aG
  by_cases L:b=Str.ofString "lose"
  .rw[Ao L];left;refine cA c (v:=.str b) (aX (j:=0) rfl) ?_;left;refine cA c (v:=.str x) (aX (j:=1) rfl) ?_;left;exact⟨r0,u⟩
  .rw[An L];left;refine cA c (v:=.str b) (aX (j:=0) rfl) ?_;left;rw[Ao (p.resolve_left L)];left;refine cA c (v:=.str b) (aX (j:=0) rfl) ?_;left;refine cA c (v:=.str x) (aX (j:=1) rfl) ?_;left;exact⟨r0,u⟩
 rw[if_neg p]at d i e;rw[An (λz=>p (.inl z))];left;refine cA c (v:=.str b) (aX (j:=0) rfl) ?_;left;rw[An (λz=>p (.inr z))];left;refine cA c (v:=.str b) (aX (j:=0) rfl) ?_;left;by_cases q:b=Str.ofString "say"
 .rw[if_pos q]at d i e;rw[Ao q];left;intro C J;rw[sN (by decide),show ((b::r).map V.str).drop (1:Int).toNat=r.map V.str from rfl]
  have I:=aE J (.lst (r.map V.str))
  have R:Z6 (upd H C (.lst (r.map V.str))) C=some (r.map V.str):=bX
  generalize upd H C (.lst (r.map V.str))=H1 at I R ⊢;have T:=vE m
  left;refine rR R (by rw[show (Str.ofString " ").length=1 from rfl];omega) ?_
  left;refine⟨r0,λt g=>?_⟩
  subst q;exact d _ rfl t _ (none_of I g) (I.trans (aE g _)) aG
 .rw[if_neg q]at d i e;rw[An q];left;exact i rfl
noncomputable def W7:V->Str
 |.str z=>z
 |.int i=>toString i
 |_=>Str.ofString ""
def Dd.rl:Dd->Prop
 |.haul _ _=>False
 |.lower n=>n=0
 |.lose z=>z.length<=1000
 |.find z=>z.length<=1000
 |.say z=>z.length<=1000
noncomputable def UA(d:Dd):Str:=Txt.join " " (d.vs.map W7)
def GY{d:Dd}(h:d.rl):d.vs.length=2/\∀x∈d.vs,(∃z,x=.str z/\z.length<=1000)\/x=.int 0:=by
 cases d with
 |haul n z=>exact h.elim
 |lower n=>
  obtain rfl:n=0:=h;exact⟨rfl,λx a=>by
   rcases Ba.mp a with z|z
   .exact .inl ⟨_,z,by decide⟩
   .exact .inr (Ak.mp z)⟩
 |lose z=>
  exact⟨rfl,λx a=>by
   rcases Ba.mp a with z|z
   .exact .inl ⟨_,z,by decide⟩
   .exact .inl ⟨_,Ak.mp z,h⟩⟩
 |find z=>
  exact⟨rfl,λx a=>by
   rcases Ba.mp a with z|z
   .exact .inl ⟨_,z,by decide⟩
   .exact .inl ⟨_,Ak.mp z,h⟩⟩
 |say z=>
  exact⟨rfl,λx a=>by
   rcases Ba.mp a with z|z
   .exact .inl ⟨_,z,by decide⟩
   .exact .inl ⟨_,Ak.mp z,h⟩⟩
def zW:Sp:=λb H Q _=>∃p d,b=[.ref p]/\H p=some (.tup d.vs)/\d.rl/\∀a,Same H a->Q (.str (UA d)) a
def CZ:Z_ ["deed"] ["deed"] (aJ vM):=by fail "sc"
def JH(F:ZQ K "row_of" "row_of" vM f fd):Z9 P w K mg base ZO 1 f fd ["deed"] zW:=by
 refine F.ok CZ (λo H Q E h=>?_) (λv A e s H o Q E k h=>?_)
 .obtain⟨p,d,rfl,_⟩:=h;rfl
 obtain⟨p,d,rfl,j,k,q⟩:=h;refine⟨_,(@aI _ _ _ (aV (cC Bo Ee Ef sI cB (aA (cD rfl (M5 (mv 0)) (dZ (N:=["part"]) (by right) (by right)) (by right) rfl (by right) (λ_ _ _ _=>(bB (i:=0) (show List.Nodup (["part"]:List Str) by right) rfl (Or.inl rfl))) (λ_ _ _ _=>cI) (λ_ _ _ _=>(cG Il rfl G.b_str Uq (aA (mv 0) aD)))) aD)))),?_⟩
 obtain⟨g,a⟩:=GY k;have I:=dN j
 left;refine LF (xs:=d.vs) (λi=>(d.vs[i]?).map λx=>V.str (W7 x)) j (by rw[g];decide) (λi x n A B b J m M=>?_) (λD C L r l=>?_)
 .left;refine⟨Wk.set rfl (Wk.refl _),?_⟩;left;rcases a x (As b) with⟨z,rfl,_⟩|rfl
  .exact .inl ⟨z,rfl,m _ (by rw[b];rfl) n (Same.refl _)⟩
  .exact .inr ⟨0,rfl,by decide,m _ (by rw[b];rfl) n (Same.refl _)⟩
 .rw[dO (λx=>V.str (W7 x)),show d.vs.map (λx=>V.str (W7 x))=(d.vs.map W7).map V.str by rw[Ci];rfl]at l
  have c:((d.vs.map W7).map (·.length)).sum<=1000*(d.vs.map W7).length:=vE λz t=>by
   obtain⟨x,b,rfl⟩:=Bw.mp t;rcases a x b with⟨y,rfl,u⟩|rfl
   .exact u
   .decide
  rw[Ac,g]at c;left;refine rR (aO l) (by rw[Ac,g,show (Str.ofString " ").length=1 from rfl];((try clear g);omega)) ?_
  exact q C r
noncomputable def WL:List (List Nat):=[[117,112],[111,102,102],[111,110],[105,116]]
def AY:Zh lQ WL (jW lQ WL WL.length) 0 [0,2,1]:=.cons (n:=3) (by decide) (by right) (by right) (show Zh _ _ _ 1 [2,1] from .cons (n:=2) (by decide) (by right) (by right) (show Zh _ _ _ 2 [1] from .cons (n:=1) (by decide) (by right) (by right) (show Zh _ _ _ WL.length [] from .nil)))
def lR(g h j l:Addr):Sp:=λi H Q E=>∃b a w r,i=[.ref b,.ref a]/\ZA H b ZZ/\H a=some (.lst ((w::r).map V.str))/\(∀z∈r,z.length<=900)/\r.length<=100/\(Txt.join " " r).length<=1000/\eZ g H/\
 ((∃y,w=Str.ofString "sight"/\r=[y]/\rP y=true/\∀c,Same H c->E (.ref h) none c)\/
  (∃y,w=Str.ofString "check"/\r=[y]/\pX y=true/\∀e c,Same H c->c e=some (YL e [("at",.int 0)])->E (.ref j) (some e) c)\/
  (w=Str.ofString "cut"/\oE (Txt.join " " r) 40=false/\∀c,Same H c->E (.ref h) none c)\/
  (w=Str.ofString "cut"/\∃(T:Q7) (k:Nat),Txt.join " " r=eL T/\1<=T.length/\T.length<=40/\(∀t∈T,fX t)/\VJ T k/\∀e c,Same H c->c e=some (YL e [("terms",.int (k:Int))])->E (.ref l) (some e) c)\/
  (w=Str.ofString "cut"/\Txt.join " " r=eL WL/\∀f c,H f=none->ZT g H c->eZ g c->c f=some (.lst (([Str.ofString "ab",Str.ofString "d",Str.ofString "ba"]:List Str).map V.str))->Q (.ref f) c))
def uO:Z_ ["book", "words"] ["book", "words"] (aJ eC):=by fail "sc"
def uP(F:ZQ K "told_of_book" "told_of_book" eC f fd)(G:Gs K mg w Zo Zz Zr Zx Z0 Zt Zy Zu Zw Zv Zq Zs Zp Z1)(a1:iV P w K mg base 6 "checked_word" ["word"] (lS Zu))(Z:ZM P w K mg base 1 "read_in" ["book", "sight"] xV)(u0:iV P w K mg base 4 "cut_text" ["book", "text"] (nG Pt Zq Zv))(Y:iV P w K mg base 2 "sight_of" ["text"] (uA Zv)):Z9 P w K mg base (Zb P w) 7 f fd ["book", "words"] (lR Pt Zv Zu Zq):=by
 refine F.Ys uO (λvs H Q E h=>?_) (λb6 A a3 s H vs Q E J h=>?_)
 .obtain⟨b,a,w',r,rfl,_⟩:=h;rfl
 obtain⟨b,a,w',r,rfl,O,ea,u,b5,a6,t,U⟩:=h;refine⟨_,(@aH _ _ _ _ _ (bP (bD fW (bH bZ (mv 1) aM (λ_ _=>rfl)) cB (aZ _)) (@aI _ _ _ (aV (cD rfl (bU (bF Z J (by decide) rfl (aA (mv 0) (aA (cP Y bV J (by decide) rfl (aA (bH bZ (mv 1) aM (λ_ _=>rfl)) aD)) aD)))) (fG (N:=["number", "book"]) ["book", "words"] (aJ eC) [none,some 0] rfl rfl rfl (λx h=>cE h) (by right)) (by right) rfl (by right) (λ_ _ _ _=>(bB (i:=0) (show List.Nodup (["number", "book"]:List Str) by right) rfl (Or.inl rfl))) (λ_ _ _ _=>cI) (λ_ _ _ _=>(bH bZ (bH bZ (mv 1) (mv 0) (λ_ _=>rfl)) aM (λ_ _=>rfl)))))) bE) (@aH _ _ _ _ _ (bP (bD fW (bH bZ (mv 1) aM (λ_ _=>rfl)) cB (aZ _)) (@aI _ _ _ (aV (cD rfl (bU (cP u0 bV J (by decide) rfl (aA (mv 0) (aA (cC Bo Ee Ef sI cB (aA (fR WG (mv 1) (eQ aM) nV) aD)) aD)))) (fG (N:=["number", "book"]) ["book", "words"] (aJ eC) [none,some 0] rfl rfl rfl (λx h=>cE h) (by right)) (by right) rfl (by right) (λ_ _ _ _=>(bB (i:=0) (show List.Nodup (["number", "book"]:List Str) by right) rfl (Or.inl rfl))) (λ_ _ _ _=>cI) (λ_ _ _ _=>(bH bZ (bH bZ (mv 1) (mv 0) (λ_ _=>rfl)) aM (λ_ _=>rfl)))))) bE) (@aI _ _ _ (aV (bI (aA (cP a1 bV J (by decide) rfl (aA (bH bZ (mv 1) aM (λ_ _=>rfl)) aD)) aD)))))),?_⟩
 have m:=aO ea
 rcases U with⟨y,rfl,rfl,I,n⟩|⟨y,rfl,rfl,I,n⟩|U
 .left;refine cA m (v:=.str (Str.ofString "sight")) (aX (j:=0) rfl) ?_;left;rw[Ao rfl];left;refine cA m (v:=.str y) (aX (j:=1) rfl) ?_;left;exact⟨y,rfl,u y Al,I,n⟩
 .left;refine cA m (v:=.str (Str.ofString "check")) (aX (j:=0) rfl) ?_;left;rw[show decide ((Str.ofString "check")=(Str.ofString "sight"))=false from by right]
  left;refine cA m (v:=.str (Str.ofString "check")) (aX (j:=0) rfl) ?_;left;rw[show decide ((Str.ofString "check")=(Str.ofString "cut"))=false from by right]
  left;refine cA m (v:=.str y) (aX (j:=1) rfl) ?_;left;exact⟨y,rfl,u y Al,I,n⟩
 have hw:w'=Str.ofString "cut" := by rcases U with h|h|h<;>exact h.1
 subst hw;have hL:=SV uX (by decide)
 left;refine cA m (v:=.str (Str.ofString "cut")) (aX (j:=0) rfl) ?_;left;rw[show decide ((Str.ofString "cut")=(Str.ofString "sight"))=false from by right]
 left;refine cA m (v:=.str (Str.ofString "cut")) (aX (j:=0) rfl) ?_;left;rw[Ao rfl];left;intro p1 a4;rw[sN (by decide),show ((Str.ofString "cut" :: r).map V.str).drop (1:Int).toNat=r.map V.str from rfl]
 have g:=aE a4 (.lst (r.map V.str))
 have r1:Z6 (upd H p1 (.lst (r.map V.str))) p1=some (r.map V.str):=bX
 generalize upd H p1 (.lst (r.map V.str))=H1 at g r1 ⊢;have a9:=vE u
 left;refine rR r1 (by rw[show (Str.ofString " ").length=1 from rfl];((try clear a6);omega)) ?_
 left;refine⟨b,_,ZZ,lQ,rfl,O.keep g,by decide,uX,a6,t.keep g,?_⟩
 rcases U with⟨_,J,n⟩|⟨_,T,k,e,t1,a2,tT,l,n⟩|⟨_,e,q⟩
 .exact .inr ⟨J,λH' s'=>n H' (g.trans s')⟩
 .rw[e];exact .inl ⟨T,rfl,t1,a2,tT,l.1,.inl ⟨k,l.2.1,l.2.2.1,l.2.2.2,λdx H2 R ed=>n dx H2 (g.trans R) ed⟩⟩
 rw[e];refine .inl ⟨WL,rfl,by decide,by decide,by unfold fX vQ;decide,by unfold WU;right,.inr ⟨[0,2,1],AY,λr2 H2 M R l2 e2=>?_⟩⟩
 have L:ZT Pt H H2:=(Same.p g).trans R
 have a8:=Vq (O.keep g) R (t.keep g)
 obtain⟨qs,b1,b2,b3⟩:=id a8;have rq:=aO b1
 have b4:r2≠Pt:=λz=>by
  obtain⟨tb,ht⟩:=(t.keep g).tb;rw[z,ht]at M;cases M
 left;refine eO (xs:=(([0,2,1]).map λk=>V.int ((k:Nat):Int))) (λj=>(([Str.ofString "ab",Str.ofString "d",Str.ofString "ba"]:List Str).map V.str)[j]?) (aO e2) (by decide) (λj x Hc A B C sm hA hB=>?_) (λD Hd X sD hd=>?_)
 .have go:∀ (k:Nat) (c:Str×Str),ZZ[k]?=some c->x=V.int (k:Int)->(([Str.ofString "ab",Str.ofString "d",Str.ofString "ba"]:List Str).map V.str)[j]?=some (V.str c.1)->∃ (S:Addr),(qs.map V.ref)[k]?=some (.ref S)/\Hc S=some (.tup [.str c.1,.str c.2]):=λk c W _ _=>by
   have a5:k<qs.length:=by rw[b2];exact(Ag.mp W).1
   have e:=Aa a5
   exact⟨qs[k],by rw[Ae,e];rfl,sm _ _ (b3 k _ _ e W)⟩
  obtain⟨k,c,W,rfl,hc⟩:∃(k:Nat) (c:Str×Str),ZZ[k]?=some c/\x=V.int (k:Int)/\(([Str.ofString "ab",Str.ofString "d",Str.ofString "ba"]:List Str).map V.str)[j]?=some (V.str c.1):=by
   match j,C with
   |0,C=>exact⟨0,_,rfl,(Ay C).symm,rfl⟩
   |1,C=>exact⟨2,_,rfl,(Ay C).symm,rfl⟩
   |2,C=>exact⟨1,_,rfl,(Ay C).symm,rfl⟩
  obtain⟨S,h1,h2⟩:=go k c W rfl hc;left;refine⟨Wk.set rfl (Wk.refl _),?_⟩;left;refine cA (aQ sm rq) (v:=.ref S) (aX h1) ?_;left;refine cW h2 (v:=.str c.1) (aX (j:=0) rfl) ?_;exact hA _ hc Hc (Same.refl _)
 .have a7:H D=none:=by
   cases eH:H D with
   |none=>rfl
   |some o=>
    by_cases z:D=Pt
    .obtain⟨tb,ht⟩:=l2.tb;rw[z,ht]at X;cases X
    .rw[L D o z eH]at X;cases X
  exact q D Hd a7 (L.trans (Same.p sD)) (l2.keep sD) hd
noncomputable def oG:List (List Nat):=[[97,98],[98,97],[100]]
def HY:RK ZZ oG:=by
 have g:"ab"=bS [97,98]:=by right
 have f:"ba"=bS [98,97]:=by right
 have e:"d"=bS [100]:=by right
 refine⟨rfl,λj b h c a=>?_⟩
 match j,c,a with
 |0,c,a=>cases c;cases a;exact⟨g,by decide,by decide,by decide⟩
 |1,c,a=>cases c;cases a;exact⟨f,by decide,by decide,by decide⟩
 |2,c,a=>cases c;cases a;exact⟨e,by decide,by decide,by decide⟩
noncomputable def VC:V->Str
 |.int i=>(ZZ.getD i.toNat ("", "")).2
 |_=>Str.ofString "-"
noncomputable def tellS(hs:List (Option (List Nat)))(f:Nat->Option Int)(ds:List Dd)(z:Str):List Str:=
 if z=Str.ofString "halyards" then [Txt.join ⟨#[32]⟩ (hs.map zC)] else if z=Str.ofString "locker" then [lZ (cntF (bK (cntF f)))] else if z=Str.ofString "read" then hs.map λh=>VC (Xu oG h) else ds.map UA
def GG(h:Option (List Nat)):Xu oG h=.non\/∃j:Nat,j<3/\Xu oG h=.int (j:Int):=by
 cases h with
 |none=>exact .inl rfl
 |some b=>
  unfold Xu;cases e:(jB oG).findIdx? _ with
  |none=>exact .inl (by dsimp only;rw[e])
  |some j=>
   have a:=(List.findIdx?_eq_some_iff_getElem.mp e).1
   exact .inr ⟨j,by unfold jB at a;rwa[List.length_map]at a,by dsimp only;rw[e]⟩
def vI(h:∀c,0<=n c)(c:Nat):cntF (bK n) c<=n c:=by
 unfold cntF bK;split
 .exact Int.le_refl _
 .exact h c
def kC(C:Addr):Sp:=λi H Q _=>∃q t b p k j l o n m h f e a z,i=[.ref t,.ref b,.str z]/\Y5 C q H t p k j l o n m h f e a/\ZA H b ZZ/\(∀c,cntF f c<=99)/\(∀d∈a,d.rl)/\a.length<=900/\z∈([Str.ofString "halyards",Str.ofString "locker",Str.ofString "read",Str.ofString "log"]:List Str)/\∀r g,H r=none->Same H g->g r=some (.lst ((tellS h f a z).map V.str))->Q (.ref r) g
def sX:Z_ ["tower", "book", "asked"] ["tower", "book", "asked"] (aJ eR):=by fail "sc"
def tB(F:ZQ K "told_of_tower" "told_of_tower" eR f fd)(a9:ZM P w K mg base 1 "row_of" ["deed"] zW)(a8:ZM P w K mg base 1 "shown_halyards" ["halyards"] iZ)(a7:ZM P w K mg base 2 "shown_locker" ["locker"] lO)(a6:yH ZO P w K mg base 1 Z0 "log" ["self"] (qR Z0))(a5:yH ZO P w K mg base 1 Z0 "halyards" ["self"] (jD Z0))(a4:yH ZO P w K mg base 2 Z0 "locker" ["self"] (lP Z0))(a3:yH ZO P w K mg base 6 Z0 "read" ["self"] (oI Z0)):Z9 P w K mg base ZO 8 f fd ["tower", "book", "asked"] (kC Z0):=by
 refine F.ok sX (λvs H Q E h=>?_) (λc4 A b5 s H vs Q E a h=>?_)
 .obtain⟨Pt,t,b,b',T,S,hg,dd,dx,m,R,f,a2,ds,z,rfl,_⟩:=h;rfl
 obtain⟨Pt,t,b,b',T,S,hg,dd,C,m,R,f,a2,ds,z,rfl,u,b8,b9,b7,c3,J,q⟩:=h;refine⟨_,(@aH _ _ _ _ _ (bP (bD fW (mv 2) cB (aZ _)) (@aI _ _ _ (aV (bI (aA (bF a8 a (by decide) rfl (aA (uU a5 G.Z5 a (by decide) (mv 0)) aD)) aD)))) bE) (@aH _ _ _ _ _ (bP (bD fW (mv 2) cB (aZ _)) (@aI _ _ _ (aV (bI (aA (bF a7 a (by decide) rfl (aA (uU a4 G.Z5 a (by decide) (mv 0)) aD)) aD)))) bE) (@aH _ _ _ _ _ (bP (bD fW (mv 2) cB (aZ _)) (@aI _ _ _ (aV (cD rfl (bU (uU a3 G.Z5 a (by decide) (mv 0))) (fG (N:=["number", "book"]) ["tower", "book", "asked"] (aJ eR) [none,some 1] rfl rfl rfl (λx h=>cE h) (by right)) (by right) rfl (by right) (λ_ _ _ _=>(bB (i:=0) (show List.Nodup (["number", "book"]:List Str) by right) rfl (Or.inl rfl))) (λ_ _ _ _=>cI) (λ_ _ _ _=>(kH (bD Vx (mv 0) cO (aZ _)) (dA rfl G.s_BARE) (bH bZ (bH bZ (mv 1) (mv 0) (λ_ _=>rfl)) aM (λ_ _=>rfl))))))) bE) (@aI _ _ _ (aV (cD rfl (bU (uU a6 G.Z5 a (by decide) (mv 0))) (dZ (N:=["deed"]) (by right) (by right)) (by right) rfl (by right) (λ_ _ _ _=>(bB (i:=0) (show List.Nodup (["deed"]:List Str) by right) rfl (Or.inl rfl))) (λ_ _ _ _=>cI) (λ_ _ _ _=>(bF a9 a (by decide) rfl (aA (mv 0) aD))))))))),?_⟩
 have y:=u.ins
 obtain⟨⟨us,hB,M⟩,ok,⟨b6,hR,lk⟩,X⟩:=id u.tw;have c2:=M.len
 have hm:=u.len
 have h6:=u.six
 unfold tellS at q;rcases Ba.mp J with rfl|J
 .rw[if_pos rfl]at q;left;rw[show decide ("halyards"=(Str.ofString "halyards"))=true from Ao rfl];left;refine⟨t,C,_,rfl,y,yC,?_⟩;left;refine⟨t,b',T,S,hg,dd,C,m,us,R,rfl,y,aO hB,M,by ((try clear c3);omega),λU b4 H1 L l O a1 _=>?_⟩
  left;refine⟨U,b4,R,rfl,aO O,a1,ok,by ((try clear c3);omega),λH2 s2=>?_⟩
  left;refine⟨x0,λr a=>?_⟩
  have g:=l.trans s2
  exact q r _ (none_of g a) (g.trans (aE a _)) aG
 rcases Ba.mp J with rfl|J
 .rw[if_neg (by right),if_pos rfl]at q
  left;rw[show decide ((Str.ofString "locker")=(Str.ofString "halyards"))=false from by right]
  left;rw[show decide ((Str.ofString "locker")=(Str.ofString "locker"))=true from Ao rfl];left;refine⟨t,C,_,rfl,y,Im,?_⟩;left;refine⟨t,b',T,S,hg,dd,C,m,b6,f,rfl,y,.inl hR,lk,λU H1 L l O=>?_⟩;left;refine⟨U,_,bK (cntF f),rfl,.inl O,fF _,(λc=>Int.le_trans (vI X c) (b9 c)),λH2 s2=>?_⟩;left;refine⟨x0,λr a=>?_⟩
  have g:=l.trans s2
  exact q r _ (none_of g a) (g.trans (aE a _)) aG
 rcases Ba.mp J with rfl|J
 .rw[if_neg (by right),if_neg (by right),if_pos rfl]at q
  left;rw[show decide ((Str.ofString "read")=(Str.ofString "halyards"))=false from by right]
  left;rw[show decide ((Str.ofString "read")=(Str.ofString "locker"))=false from by right]
  left;rw[show decide ((Str.ofString "read")=(Str.ofString "read"))=true from Ao rfl];left;refine⟨t,C,_,rfl,y,FA,?_⟩;left;refine⟨t,b',T,S,hg,dd,C,m,us,R,ZZ,oG,rfl,y,aO hB,M,by ((try clear c3);omega),ok,u.U_,by decide,HY,λU H1 L l O=>?_⟩
  have I:=aO O
  obtain⟨qs,b1,b2,b3⟩:=b8.keep l;have rq:=aO b1
  left;refine eO (xs:=R.map (Xu oG)) (λj=>(R[j]?).map λh=>V.str (VC (Xu oG h))) I (by rw[Ac];exact bM (by ((try clear b2 c3);omega))) (λj x Hc A B W sm hA hB=>?_) (λD Hd hD sD hd=>?_)
  .rw[Ae]at W;obtain⟨o,eo,rfl⟩:=Bk.mp W;have n:=hA (V.str (VC (Xu oG o))) (by rw[eo];rfl)
   left;refine⟨Wk.set rfl (Wk.refl _),?_⟩;left;rcases GG o with e|⟨k,hk,e⟩
   .rw[e]at n ⊢;rw[show decide (V.non=V.non)=true from rfl];left;exact n _ (Same.refl _)
   .rw[e]at n ⊢;rw[show decide (V.int (k:Int)=V.non)=false from An λz=>nomatch z]
    have Z:k<ZZ.length:=hk
    have eq:qs[k]?=some (qs[k]'(by ((try clear c2 c3 h6 hk hm);omega))):=Aa _
    have tp:=sm _ _ (b3 k _ _ eq (Aa Z))
    have c1:VC (V.int (k:Int))=ZZ[k].2:=by
     show (ZZ.getD (k:Int).toNat ("", "")).2=_
     rw[Ec,Ah,Aa Z];rfl
    rw[c1]at n;left;refine cA (aQ sm rq) (v:=.ref (qs[k]'(by ((try clear c2 c3 h6 hk hm);omega)))) (aX (by rw[Ae,eq];rfl)) ?_
    left;refine cW tp (v:=.str ZZ[k].2) (aX (j:=1) rfl) ?_;exact n _ (Same.refl _)
  .rw[Ac,dO (λh=>V.str (VC (Xu oG h)))]at hd;refine q D Hd (none_of l hD) (l.trans sD) ?_;rw[hd,Ci];rfl
 obtain rfl:=Ak.mp J;rw[if_neg (by right),if_neg (by right),if_neg (by right)]at q
 left;rw[show decide ((Str.ofString "log")=(Str.ofString "halyards"))=false from by right]
 left;rw[show decide ((Str.ofString "log")=(Str.ofString "locker"))=false from by right]
 left;rw[show decide ((Str.ofString "log")=(Str.ofString "read"))=false from by right]
 left;refine⟨t,C,_,rfl,y,Nf,?_⟩;left;refine⟨t,b',T,S,hg,dd,C,m,_,rfl,y,u.log,λU H1 L l O=>?_⟩;have I:=aO O
 have Y:=u.WI
 left;refine eO (xs:=a2.map V.ref) (λj=>(ds[j]?).map λd=>V.str (UA d)) I (by rw[Ac];exact bM (by ((try clear c2 h6 hm);omega))) (λj x Hc A B W sm hA hB=>?_) (λD Hd hD sD hd=>?_)
 .rw[Ae]at W;obtain⟨p,ep,rfl⟩:=Bk.mp W;have hj:j<ds.length:=by rw[<-Y];exact(Ag.mp ep).1
  have ed:=Aa hj
  have tp:=sm _ _ (l _ _ (u.Ul j p _ ep ed))
  left;refine⟨Wk.set rfl (Wk.refl _),?_⟩;left;exact⟨p,ds[j],rfl,tp,b7 _ (Co hj),λH' s'=>hA _ (by rw[ed];rfl) H' s'⟩
 .rw[Ac,Y,dO (λd=>V.str (UA d))]at hd;refine q D Hd (none_of l hD) (l.trans sD) ?_;rw[hd,Ci];rfl
noncomputable def WM(b t:Addr):List (Str×V):=[("book",.ref b),("tower",.ref t)]
noncomputable def WJ(b:Addr):List (Str×V):=[("book",.ref b)]
def EE:fZ "book" (.ref b) []=WJ b:=rfl
def DT:fZ "tower" (.ref t) (WJ b)=WM b t:=rfl
def MM:(WJ b).lookup ("book" : Str)=some (.ref b):=rfl
def NH:(WM b t).lookup ("book" : Str)=some (.ref b):=rfl
def QE:(WM b t).lookup ("tower" : Str)=some (.ref t):=rfl
def dB:(WM b t).lookup ("say" : Str)=none:=rfl
structure Zc (C Ct Pt:Addr) (H:Hp) (x t dd:Addr) (m:Nat) (hs:List (Option (List Nat))) (f:Nat->Option Int) (ds:List Dd):Prop where
 dk:∃dx b,H x=some (.ins C dx (WM b t))/\ZA H b ZZ/\b≠dd
 tw:∃b' s0 st hg dt dps,Y5 Ct Pt H t b' s0 st hg dd dt m hs f dps ds
 le:∀c,cntF f c<=99
 rl:∀d∈ds,d.rl
 ln:ds.length<=900
def Zc.keep{H:Hp}{f:Nat->Option Int}{ds:List Dd}(h:Zc C c Pt H x t dd m hs f ds)(s:Same H H'):Zc C c Pt H' x t dd m hs f ds:=by
 obtain⟨⟨q,b,p,o,n⟩,⟨u,e,d,g,r,a,l⟩,k,j,i⟩:=h;exact⟨⟨q,b,s _ _ p,o.keep s,n⟩,⟨u,e,d,g,r,a,l.keep s⟩,k,j,i⟩
def DM(h:eZ Pt H)(s:ZS l H H')(n:∀b u,H b=some u->(∀g,u≠.lst g)->(∀c d f,u≠.ins c d f)->b∉l):eZ Pt H':=by
 rcases h with h|⟨c,e,a⟩
 .exact .inl (s _ _ (n _ _ h (λ_=>nofun) λ_ _ _=>nofun) h)
 .exact .inr ⟨c,s _ _ (n _ _ e (λ_=>nofun) λ_ _ _=>nofun) e,s _ _ (n _ _ a (λ_=>nofun) λ_ _ _=>nofun) a⟩
noncomputable def XW:Nat->Int:=λc=>(([(97,2),(98,2),(100,1),(104,1),(107,1),(112,1),(49,2)]:List (Nat×Int)).lookup c).getD 0
noncomputable def RQ:Str:=Str.ofString "a2 b2 d1 h1 k1 p1 1x2"
def BQ:RQ=lZ XW:=by right
def fL(c:Nat):0<=XW c/\XW c<=2:=by
 have q:∀(L:List (Nat×Int)),(∀x∈L,0<=x.2/\x.2<=2)->0<=(L.lookup c).getD 0/\(L.lookup c).getD 0<=2:=λL h=>by
  induction L with
  |nil=>exact⟨by show (0:Int)<=0;decide,by show (0:Int)<=2;decide⟩
  |cons x r a=>
   rw[Cs];split
   .exact h x Al
   .exact a λy b=>h y (Am _ b)
 exact q _ (by decide)
noncomputable def F0:Nat->Option Int:=bK (cntF (bK XW))
def QQ(c:Nat):0<=cntF F0 c/\cntF F0 c<=XW c:=⟨eG _ c,Int.le_trans (vI (eG _) c) (vI (λc=>(fL c).1) c)⟩
def kM(C f:Addr):Sp:=λd H Q _=>∃(c x e:Addr) (n:Nat),d=[.ref x,.str Sq,.str RQ,.int (n:Int)]/\H x=some (.ins C e [])/\1<=n/\n<=6/\eZ c H/\∀t b a,H t=none->H b=none->ZS [x] H a->Zc C f c a x t b n (List.replicate n none) F0 []->Q .non a
def HE:Z2 H (List.replicate m V.non) (List.replicate m none):=by
 refine⟨by rw[Ca,Ca],λj v h a b=>?_⟩
 rw[Fp (As a),Fp (As b)];rfl
def K6:lM (List.replicate m none):=λb a=>by grind
def Pg:Z_ ["self", "book_text", "locker_text", "many", "locker"] ["self", "book_text", "locker_text", "many"] (aJ mH):=by fail "sc"
def LV(F:ZQ K "__init__" "Desk.__init__" mH f fd)(a3:ZM P w K mg base 5 "read_book" ["text"] rG)(a2:ZM P w K mg base 3 "read_locker" ["text"] nM)(a1:Vw ZO P w K mg base 2 Z0 ["self", "book", "locker", "many"] (jJ Z0)):Z9 P w K mg base ZO 6 f fd ["self", "book_text", "locker_text", "many"] (kM Z1 Z0):=by
 refine F.ok Pg (λvs H Q E h=>?_) (λc1 A a4 s H vs Q E C h=>?_)
 .obtain⟨Pt,x,a,n,rfl,_⟩:=h;rfl
 obtain⟨Pt,x,a,n,rfl,hx,n1,n6,a8,q⟩:=h;refine⟨_,(@aH _ _ _ _ _ (jR (mv 0) (bF a3 C (by decide) rfl (aA (mv 1) aD)) rfl) (@aH _ _ _ _ _ (aY 4 Pg.nd (bF a2 C (by decide) rfl (aA (mv 2) aD))) (@aH _ _ _ _ _ (bP (PW.pt (jY (bD wU (mv 3) aM (aZ _)) (gR (bD uM (mv 3) (eK rfl G.s_MOST_HALYARDS) (aZ _))))) (@aI _ _ _ iK) bE) (@aI _ _ _ (jR (mv 0) (OD a1 C (by decide) rfl G.c_Tower (aA (fN (mv 0) rfl) (aA (mv 4) (aA (mv 3) aD)))) rfl))))),?_⟩
 left;refine⟨rfl,λb H1 hb s1 b4=>?_⟩;have x1:=s1 _ _ hx
 left;refine⟨x,Z1,a,_,rfl,x1,G.ZV,G.na_Desk_book,by show 0<1000;decide,?_⟩
 rw[EE];have I:ZS [x] H (upd H1 x (.ins Z1 a (WJ b))):=(ZS.of s1).put (Ak.mpr rfl)
 have x2:(upd H1 x (.ins Z1 a (WJ b))) x=some (.ins Z1 a (WJ b)):=aG
 have v:ZA (upd H1 x (.ins Z1 a (WJ b))) b ZZ:=by
  obtain⟨J,h1,h2,h3⟩:=b4;exact⟨J,by rw[aK (λe=>by rw[e,x1]at h1;cases h1)];exact h1,h2,λj p c D Z=>by rw[aK (λe=>by have:=h3 j p c D Z;rw[e,x1]at this;cases this)];exact h3 j p c D Z⟩
 generalize upd H1 x (.ins Z1 a (WJ b))=H2 at I x2 v ⊢;left;refine⟨XW,by rw[BQ];rfl,(λc=>by have:=(fL c).2;((try clear n1 n6);omega)),λl a9 H3 hl s3 e3 a7 _=>?_⟩
 have B:=I.trans (.of s3)
 have W:=s3 _ _ x2
 have R:=v.keep s3
 left;rw[An (show ¬(n:Int)<1 by omega)]
 left;rw[An (show ¬(6:Int)<(n:Int) by omega)]
 left;refine⟨x,Z1,a,_,_,rfl,W,G.ZV,G.na_Desk_book,MM,?_⟩;left;intro t dt O b2 b1;obtain⟨J,X,p2,p3⟩:=id R;have k:=(aE b2 (.own t)).trans (aE (show (upd H3 dt (.own t)) t=none by rw[aK (Ne.symm b1)];exact O) (.ins Z0 dt []))
 refine⟨t,b,l,dt,J.map V.ref,a9,bK XW,n,rfl,aG,aO (k _ _ X),.inl (k _ _ e3),a7,n6,λb' s0 st hg S H4 b8 b7 b3 b6 a5 a6 sE t4 e4 b9 T h4 f4=>⟨rfl,?_⟩⟩;have i:=λc o e=>sE c o (λz=>by rw[Ak.mp z,O]at e;cases e) (k _ _ e)
 have x4:=i _ _ W
 have L:t≠x:=λe=>by rw[e,W]at O;cases O
 left;refine⟨x,Z1,a,_,rfl,x4,G.ZV,G.na_Desk_tower,by show 1<1000;decide,?_⟩
 rw[DT];have g:∀ {y:Addr},y≠x->y∉[x]:=λe z=>e (Ak.mp z)
 have b5:S≠t:=λe=>by rw[e,t4]at f4;cases f4
 have m:=none_of k b3
 have M:S≠x:=λe=>by rw[e,W]at m;cases m
 have Y:∀ {y:Addr} {o:HO},H4 y=some o->(∀fs,o≠.ins Z1 a fs)->y≠x:=λe1 e2 e3=>by rw[e3,x4]at e1;exact e2 _ (Ay e1).symm
 have N:b≠S:=λe=>by rw[e,m]at X;cases X
 have sF:=(B.trans (.of i)).put (o:=.ins Z1 a (WM b t)) (Ak.mpr rfl)
 have lF:=DM a8 sF λy u hy _ hu=>g λz=>by rw[z,hx]at hy;exact hu _ _ _ (Ay hy).symm
 have U:∀r,H4 r=some (.lst (J.map V.ref))->ZA (upd H4 x (.ins Z1 a (WM b t))) r ZZ:=λr C=>⟨J,by rw[aK (Y C λ_=>nofun)];exact C,p2,λj p c D Z=>by
  have:=i _ _ (p3 j p c D Z)
  rw[aK (Y this λ_=>nofun)];exact this⟩
 refine q t S _ (B.none (g L) O) (B.none (g M) m) sF ⟨⟨a,b,aG,U b (i _ _ X),N⟩,⟨b',s0,st,hg,dt,[],?_,⟨⟨_,?_,HE⟩,K6,⟨_,?_,fF _⟩,eG _⟩,Ca,n6,U b' e4,?_,rfl,(λj p d D=>nomatch D),a5,a6,lF⟩,(λc=>by have:=(QQ c).2;have:=(fL c).2;((try clear L M N a5 a6 b1 b5 n1 n6 p2);omega)),(λd hd=>nomatch hd),by decide⟩
 .rw[aK L];exact t4
 .rw[aK (Y h4 λ_=>nofun)];exact h4
 .rw[aK (Y T λ_=>nofun)];exact T
 .rw[aK M];exact f4
def Tu(w:Str)(r:List Str)(i:Nat)(v:V):Prop:=(∃y,w=Str.ofString "sight"/\r=[y]/\rP y=true/\i=3)\/(∃y,w=Str.ofString "check"/\r=[y]/\pX y=true/\i=4/\v=.int 0)\/(w=Str.ofString "cut"/\1<=r.length/\VH (Txt.join " " r) i v)
structure Y4 (z w:Str) (r:List Str):Prop where
 sp:Txt.split z (Str.ofString " ")=w::r
 zl:z.length<=900
 rz:∀y∈r,y.length<=900
 rl:r.length<=100
 jl:(Txt.join (Str.ofString " ") r).length<=1000
def Vk(m:Nat)(f:Nat->Option Int)(z:Str)(i:Nat)(v:V):Prop:=∃w r,Y4 z w r/\
 ((iX w r=false/\i=0)\/(iX w r=true/\((cT w r=none/\i=1)\/(∃d:Dd,cT w r=some (some d.vs)/\d.zl/\d.no m f i v)\/(cT w r=some none/\Tu w r i v))))
noncomputable def askW:List Str:=[Str.ofString "halyards",Str.ofString "locker",Str.ofString "read",Str.ofString "log"]
def L9:∀z∈askW,Txt.split z " "=[z]/\z.length<=900/\iX z []=true:=by right
def AD:∀z∈askW,cT z []=some none:=λz a=>by
 have q:∀z∈askW,¬z=Str.ofString "haul"/\¬z=Str.ofString "lower"/\¬(z=Str.ofString "lose"\/z=Str.ofString "find")/\¬z=Str.ofString "say" := by right
 unfold cT;simp_all
def mP(C l e B A y u s q p:Addr):Sp:=λn H Q E=>∃x t k m g f h z,n=[.ref x,.str z]/\Zc C l e H x t k m g f h/\
 ((∃i v,Vk m f z i v/\∀o a,Same H a->XO v i o a->E (.ref (wF B A y u s q p i)) o a)\/
  (z∈askW/\∀r a,H r=none->Same H a->a r=some (.lst ((tellS g f h z).map V.str))->Q (.ref r) a)\/
  (z=Str.ofString "cut up off on it"/\∀r a,H r=none->ZT e H a->eZ e a->a r=some (.lst (([Str.ofString "ab",Str.ofString "d",Str.ofString "ba"]:List Str).map V.str))->Q (.ref r) a)\/
  (∃(d:Dd) (w:Str) (r:List Str) (b:Q5) (j:Nat->Option Int),Y4 z w r/\iX w r=true/\cT w r=some (some d.vs)/\d.zl/\d.rl/\h.length<=800/\d.XB g f b j/\b.length=g.length/\(∀c,cntF j c<=99)/\∀r a,H r=none->ZS [t,k,e] H a->Zc C l e a x t k m b j (h++[d])->a r=some (.lst [])->Q (.ref r) a))
def Sj:Z_ ["self", "row", "words", "deed"] ["self", "row"] (aJ pF):=by fail "sc"
def Kt(F:ZQ K "say" "Desk.say" pF f fd)(b9:iV P w K mg base 2 "words_of_row" ["row"] (lN Zp))(b8:iV P w K mg base 2 "deed_of" ["words"] (vG Zy))(b7:iV P w K mg base 7 "told_of_book" ["book", "words"] (lR Pt Zv Zu Zq))(b6:yH (Zb P w) P w K mg base 8 Z0 "do" ["self", "deed"] (tW Z0 Pt Zp Zy Zw Zv Zu Zq Zr))(b5:ZM P w K mg base 8 "told_of_tower" ["tower", "book", "asked"] (kC Z0)):Z9 P w K mg base (Zb P w) 10 f fd ["self", "row"] (mP Z1 Z0 Pt Zp Zy Zw Zv Zu Zq Zr):=by
 refine F.Ys Sj (λvs H Q E h=>?_) (λe5 A c4 s H vs Q E D h=>?_)
 .obtain⟨x,t,U,m,hs,f,ds,z,rfl,_⟩:=h;rfl
 obtain⟨x,t,U,m,hs,f,ds,z,rfl,d8,S⟩:=h;refine⟨_,(@aH _ _ _ _ _ (aY 2 Sj.nd (cP b9 bV D (by decide) rfl (aA (mv 1) aD))) (@aH _ _ _ _ _ (aY 3 Sj.nd (cP b8 bV D (by decide) rfl (aA (mv 2) aD))) (@aH _ _ _ _ _ (bP (bD T_ (mv 3) cO (aZ _)) (@aH _ _ _ _ _ (cR (eF b6 G.Z5 bV D (by decide) (fN (mv 0) rfl) (aA (mv 3) aD))) (@aI _ _ _ (aV (bI aD)))) bE) (@aH _ _ _ _ _ (bP (bD fW (aP cK rfl G.b_len bR (aA (mv 2) aD)) aM (aZ _)) (@aI _ _ _ (aV (bF b5 D (by decide) rfl (aA (fN (mv 0) rfl) (aA (fN (mv 0) rfl) (aA (bH bZ (mv 2) aM (λ_ _=>rfl)) aD)))))) bE) (@aI _ _ _ (aV (cP b7 bV D (by decide) rfl (aA (fN (mv 0) rfl) (aA (mv 2) aD))))))))),?_⟩
 obtain⟨⟨dx,b,hx,Y,a9⟩,⟨b',s0,st,hg,dt,b4,tw⟩,d3,b1,b2⟩:=id d8;have c5:x≠t:=λz=>by
  have e:=tw.ins
  rw[<-z,hx]at e;have e':WM b t=Y1 b' m s0 st hg U:=by injection Ay e
  have:=Ds List.length e'
  cases this
 have d2:∃ w r,Y4 z w r/\((iX w r=false/\∀ g,Same H g->E (.ref Zp) none g)\/(iX w r=true/\
     ((cT w r=none/\∀g,Same H g->E (.ref Zy) none g)\/
      (∃d,cT w r=some (some d.vs)/\d.zl/\((∃i v,d.no m f i v/\∀o g,Same H g->XO v i o g->E (.ref (wF Zp Zy Zw Zv Zu Zq Zr i)) o g)\/∃B Z,d.rl/\ds.length<=800/\d.XB hs f B Z/\B.length=hs.length/\(∀c,cntF Z c<=99)/\∀r g,H r=none->ZS [t,U,Pt] H g->Zc Z1 Z0 Pt g x t U m B Z (ds++[d])->g r=some (.lst [])->Q (.ref r) g))\/
      (cT w r=some none/\((r=[]/\w∈askW/\∀r g,H r=none->Same H g->g r=some (.lst ((tellS hs f ds w).map V.str))->Q (.ref r) g)\/
       (1<=r.length/\((∃i v,Tu w r i v/\∀o g,Same H g->XO v i o g->E (.ref (wF Zp Zy Zw Zv Zu Zq Zr i)) o g)\/(w=Str.ofString "cut"/\Txt.join " " r=eL WL/\∀r g,H r=none->ZT Pt H g->eZ Pt g->g r=some (.lst (([Str.ofString "ab",Str.ofString "d",Str.ofString "ba"]:List Str).map V.str))->Q (.ref r) g))))))) ):=by
  rcases S with⟨i,v,⟨N,r,C,X⟩,R⟩|⟨hz,q⟩|⟨rfl,q⟩|⟨d,N,r,B,Z,C,M,W,L,h4,h5,h6,h7,h8,q⟩
  .refine⟨N,r,C,?_⟩;rcases X with⟨M,rfl⟩|⟨M,⟨W,rfl⟩|⟨d,W,L,h4⟩|⟨W,L⟩⟩
   .exact .inl ⟨M,λg I=>R none g I rfl⟩
   .exact .inr ⟨M,.inl ⟨W,λg I=>R none g I rfl⟩⟩
   .exact .inr ⟨M,.inr (.inl ⟨d,W,L,.inl ⟨i,v,h4,R⟩⟩)⟩
   .refine .inr ⟨M,.inr (.inr ⟨W,.inr ⟨?_,.inl ⟨i,v,L,R⟩⟩⟩)⟩;rcases L with⟨_,_,rfl,_⟩|⟨_,_,rfl,_⟩|⟨_,h,_⟩
    .exact Ai _
    .exact Ai _
    .exact h
  .obtain⟨a1,a2,a3⟩:=L9 z hz;exact⟨z,[],⟨a1,a2,(λy hy=>nomatch hy),by decide,by decide⟩,.inr ⟨a3,.inr (.inr ⟨AD z hz,.inl ⟨rfl,hz,q⟩⟩)⟩⟩
  .refine⟨Str.ofString "cut",[Str.ofString "up",Str.ofString "off",Str.ofString "on",Str.ofString "it"],⟨by right,by right,by right,by decide,by right⟩,.inr ⟨by right,.inr (.inr ⟨?_,.inr ⟨by decide,.inr ⟨rfl,by right,q⟩⟩⟩)⟩⟩
   have q:¬Str.ofString "cut"=Str.ofString "haul"/\¬Str.ofString "cut"=Str.ofString "lower"/\¬(Str.ofString "cut"=Str.ofString "lose"\/Str.ofString "cut"=Str.ofString "find")/\¬Str.ofString "cut"=Str.ofString "say" := by right
   unfold cT;rw[if_neg q.1,if_neg q.2.1,if_neg q.2.2.1,if_neg q.2.2.2]
  .exact⟨N,r,C,.inr ⟨M,.inr (.inl ⟨d,W,L,.inr ⟨B,Z,h4,h5,h6,h7,h8,q⟩⟩)⟩⟩
 clear S;obtain⟨N,r,C,S⟩:=d2;left;refine⟨z,N,r,rfl,C.zl,C.sp,λD a H1 ha O e1=>?_,λD g I=>?_⟩
 rotate_left
 .rcases S with⟨_,R⟩|⟨h,_⟩
  .exact R g I
  .rw[D]at h;cases h
 rcases S with⟨h,_⟩|⟨_,S⟩
 .rw[D]at h;cases h
 have c3:=aO e1
 have a7:=tw.keep O
 left;refine⟨a,N,r,rfl,e1,D,C.rz,C.rl,λts J dp H2 e4 s2 e2=>?_,λJ=>?_,λJ g I=>?_⟩
 .obtain ⟨d,hd,c9,S⟩:∃ d,cT N r=some (some d.vs)/\d.zl/\((∃ i v,d.no m f i v/\∀ o g,Same H g->XO v i o g->E (.ref (wF Zp Zy Zw Zv Zu Zq Zr i)) o g)\/∃ B Z,d.rl/\ds.length<=800/\d.XB hs f B Z/\B.length=hs.length/\(∀ c,cntF Z c<=99)/\∀ r g,H r=none->ZS [t,U,Pt] H g->Zc Z1 Z0 Pt g x t U m B Z (ds++[d])->g r=some (.lst [])->Q (.ref r) g):=by
   rcases S with⟨h,_⟩|h|⟨h,_⟩
   .rw[J]at h;cases h
   .exact h
   .rw[J]at h;cases h
  rw[hd]at J;obtain rfl:d.vs=ts:=Ay (Ay J);have a5:=O.trans s2
  have a8:=tw.keep a5
  left;rw[show (!decide (V.ref dp=V.non))=true by rw[An λz=>nomatch z];rfl]
  left;refine⟨x,Z1,dx,_,_,rfl,a5 _ _ hx,G.ZV,G.na_Desk_tower,QE,?_⟩;left;refine⟨t,dt,_,rfl,a8.ins,GK,?_⟩;left;refine⟨t,b',s0,st,hg,U,dt,dp,m,hs,f,b4,ds,d,rfl,a8,by rw[tw.WI];exact b2,e2,c9,?_⟩
  rcases S with⟨i,v,X,R⟩|⟨B,Z,d6,e3,d7,d4,b3,q⟩
  .exact .inl ⟨i,v,X,λo g I x'=>R o g (a5.trans I) x'⟩
  refine .inr ⟨B,Z,d7,d4,λc2 d5 H3 sE a4=>?_⟩;left;refine⟨by decide,λr D=>?_⟩
  have kr:=aE D (.lst [])
  have nP:∀y u,H y=some u->(∀ps,u≠.tbl ps)->y≠Pt:=λy u hy n z=>by
   obtain⟨tb,ht⟩:=tw.lam.tb;rw[z,ht]at hy;exact n _ (Ay hy).symm
  have a6:∀y,y≠t->y≠U->y≠Pt->y∉[t,U,Pt]:=λy M W L z=>by
   rcases Ba.mp z with z|z
   .exact M z
   .rcases Ba.mp z with z|z
    .exact W z
    .exact L (Ak.mp z)
  have sF:ZS [t,U,Pt] H H3:=(ZS.of a5).trans sE
  have nr:r∉[t,U,Pt]:=a6 r (λz=>by rw[z,a4.ins]at D;cases D) (λz=>by rw[z,a4.log]at D;cases D) λz=>by
   obtain⟨tb,ht⟩:=a4.lam.tb;rw[z,ht]at D;cases D
  have c6:x≠U:=λz=>by
   have e:=tw.log
   rw[<-z,hx]at e;cases e
  have c7:b≠t:=λz=>by
   obtain⟨qs,c1,_⟩:=id Y;rw[z,tw.ins]at c1;cases c1
  have c8:∀y xs,H y=some (.tup xs)->y∉[t,U,Pt]:=λy xs hy=>a6 y (λz=>by rw[z,tw.ins]at hy;cases hy) (λz=>by rw[z,tw.log]at hy;cases hy) (nP y _ hy λ_=>nofun)
  have d9:b≠Pt:=by
   obtain⟨qs,c1,_⟩:=id Y;exact nP b _ c1 λ_=>nofun
  refine q r _ (sF.none nr D) (sF.trans (.of kr)) (Zc.keep (H:=H3) ⟨⟨dx,b,sF _ _ (a6 x c5 c6 (nP x _ hx λ_=>nofun)) hx,Y.XE sF (a6 b c7 a9 d9) c8,a9⟩,⟨b',s0,c2,d5,dt,_,a4⟩,b3,(λe he=>?_),by rw[Aj];show _+1<=900;(exact Nat.lt_of_le_of_lt (by assumption) (by decide))⟩ kr) aG
  rcases Ce.mp he with h|h
  .exact b1 e h
  .rw[Ak.mp h];exact d6
 .have d1 : (r = [] ∧ N ∈ askW ∧ ∀ r g, H r = none → Same H g → g r = some (.lst ((tellS hs f ds N).map V.str)) → Q (.ref r) g) ∨
       (1<=r.length/\((∃i v,Tu N r i v/\∀o g,Same H g->XO v i o g->E (.ref (wF Zp Zy Zw Zv Zu Zq Zr i)) o g)\/(N=Str.ofString "cut"/\Txt.join " " r=eL WL/\∀r g,H r=none->ZT Pt H g->eZ Pt g->g r=some (.lst (([Str.ofString "ab",Str.ofString "d",Str.ofString "ba"]:List Str).map V.str))->Q (.ref r) g))):=by
   rcases S with⟨h,_⟩|⟨d,h,_⟩|⟨_,h⟩
   .rw[J]at h;cases h
   .rw[J]at h;cases h
   .exact h
  clear S;left;rw[show (!decide (V.non=V.non))=false by rw[Ao rfl];rfl]
  left;rcases d1 with⟨rfl,hw,q⟩|⟨M,S⟩
  .rw[show decide ((((([N]:List Str).map V.str).length:Nat):Int)=1)=true from Ao rfl];left;refine⟨x,Z1,dx,_,_,rfl,O _ _ hx,G.ZV,G.na_Desk_tower,QE,?_⟩;left;refine⟨x,Z1,dx,_,_,rfl,O _ _ hx,G.ZV,G.na_Desk_book,NH,?_⟩;left;refine cA c3 (v:=.str N) (aX (j:=0) rfl) ?_;left;exact⟨Pt,t,b,b',s0,st,hg,U,dt,m,hs,f,b4,ds,N,rfl,a7,Y.keep O,d3,b1,b2,hw,λr g D I e=>q r g (none_of O D) (O.trans I) e⟩
  .rw[show decide (((((N::r).map V.str).length:Nat):Int)=1)=false from An (by rw[Ac,Be];((try clear a9 b2 c5);omega))]
   left;refine⟨x,Z1,dx,_,_,rfl,O _ _ hx,G.ZV,G.na_Desk_book,NH,?_⟩;left;refine⟨b,a,N,r,rfl,Y.keep O,e1,C.rz,C.rl,C.jl,a7.lam,?_⟩;rcases S with⟨i,v,X,R⟩|⟨rfl,e,q⟩
   .rcases X with⟨y,M,W,L,rfl⟩|⟨y,M,W,L,rfl,rfl⟩|⟨M,_,⟨rfl,L⟩|⟨rfl,T,k,rfl,L⟩⟩
    .exact .inl ⟨y,M,W,L,λg I=>R none g (O.trans I) rfl⟩
    .exact .inr (.inl ⟨y,M,W,L,λdx g I e=>R (some dx) g (O.trans I) ⟨dx,rfl,e⟩⟩)
    .exact .inr (.inr (.inl ⟨M,L,λg I=>R none g (O.trans I) rfl⟩))
    .exact .inr (.inr (.inr (.inl ⟨M,T,k,L.1,L.2.1,L.2.2.1,L.2.2.2.1,L.2.2.2.2,λdx g I e=>R (some dx) g (O.trans I) ⟨dx,rfl,e⟩⟩)))
   .exact .inr (.inr (.inr (.inr ⟨rfl,e,λr' g D I l' e'=>q r' g (none_of O D) ((Same.p O).trans I) l' e'⟩)))
 .rcases S with⟨_,R⟩|⟨d,h,_⟩|⟨h,_⟩
  .exact R g (O.trans I)
  .rw[J]at h;cases h
  .rw[J]at h;cases h
def O1(K:W.Frag):Sp:=λb H Q _=>∃(a:Addr) (c:List Int) (k:Int),b=[.ref a,.int k]/\Y6 K H a (c.map V.int)/\0<=k/\∀n,Q (.int n) H
def F8:Z_ ["_law_script", "_law_k"] ["_law_script", "_law_k"] (aJ yA):=by fail "sc"
def HD(F:ZQ K "_law_cell" "_law_cell" yA f fd):Z9 P w K mg base ZO 1 f fd ["_law_script", "_law_k"] (O1 K):=by
 refine F.ok F8 (λj H Q E h=>?_) (λm A b s H j Q E p h=>?_)
 .obtain⟨a,ns,k,rfl,_⟩:=h;rfl
 obtain⟨a,ns,k,rfl,g,l,q⟩:=h;refine⟨_,(@aH _ _ _ _ _ (bP (bD wU (mv 1) (aP IY rfl G.b_len bR (aA (mv 0) aD)) (aZ _)) (@aI _ _ _ (aV (bH XM (mv 0) (mv 1) (λ_ _=>rfl)))) bE) (@aI _ _ _ (aV aM))),?_⟩;left;refine⟨_,_,rfl,.inl g,?_⟩;have c:(ns.map V.int).length=ns.length:=Ac ..
 rw[c];refine iA (λe=>?_) (λe=>?_)
 .have d:=Aw e
  obtain⟨n,_,o⟩:=HS (ns:=ns) (i:=k) l d;exact DV g o (q n)
 exact q 0
noncomputable def kN(i:Nat):Str:=([Str.ofString "row",Str.ofString "halyard",Str.ofString "flag",Str.ofString "text",Str.ofString "word",Str.ofString "cut",Str.ofString "short"]:List Str).getD i ""
abbrev Rw:=Str×Nat×V
noncomputable def Rw.vs(x:Rw):List V:=[.str x.1,.str (kN x.2.1),x.2.2]
def ZR(H:Hp)(ps:List Addr)(L:List Rw):Prop:=ps.length=L.length/\∀(j:Nat) p x,ps[j]?=some p->L[j]?=some x->H p=some (.lst x.vs)
def Zk(H:Hp)(r:Addr)(L:List Rw):Prop:=∃a,H r=some (.lst (a.map V.ref))/\ZR H a L
def ZR.keep{H:Hp}{L:List Rw}(h:ZR H ps L)(s:Same H H'):ZR H' ps L:=⟨h.1,λj p x b a=>s _ _ (h.2 j p x b a)⟩
def Zk.keep{H:Hp}{L:List Rw}(h:Zk H r L)(s:Same H H'):Zk H' r L:=by
 obtain⟨a,c,b⟩:=h;exact⟨a,s _ _ c,b.keep s⟩
def ZR.nil:ZR H [] []:=⟨rfl,λj p x a=>nomatch a⟩
def ZR.cons{p:Addr}{ps:List Addr}{x:Rw}{L:List Rw}(h:H p=some (.lst x.vs))(a:ZR H ps L):ZR H (p::ps) (x::L):=⟨by rw[Be,Be,a.1],λj q y c b=>by
 cases j with
 |zero=>cases c;cases b;exact h
 |succ j=>exact a.2 j q y c b⟩
def ZR.app{f:List Addr}{L M:List Rw}(a:ZR H ps L)(b:ZR H f M):ZR H (ps++f) (L++M):=⟨by rw[Aj,Aj,a.1,b.1],λj q y e d=>by
 rcases Nat.lt_or_ge j ps.length with c|c
 .rw[Bx c]at e;rw[Bx (by rwa[<-a.1])]at d
  exact a.2 j q y e d
 .rw[Br c]at e;rw[Br (by rwa[<-a.1]),<-a.1]at d
  exact b.2 _ q y e d⟩
def ZR.put{b:List Addr}{L:List Rw}{o:HO}(a:ZR H ps L)(h:H r=some (.lst (b.map V.ref))):ZR (upd H r o) ps L:=⟨a.1,λj p x f d=>by
 have e:=a.2 j p x f d
 rw[aK (λz=>?_)]
 .exact e
 .rw[z,h]at e;have c:b.map V.ref=x.vs:=by injection Ay e
  cases b with
  |nil=>cases c
  |cons q r=>injection c with g _;cases g⟩
noncomputable def Z3:List Str:=["", " ", "haul", "haul 0", "haul 0 ab c", "haul  0 ab", "lower", "lower 0 0", "lower 0 ", "lose", "lose a b", "find", "find  a", "say", "say ", "say  up", "halyards 0", "locker ", "read read", "sight", "log 1", "sight a? b", "check", "check a b", "cut", "cut ", "hoist a", "Lower 0", "HAUL 0 ab", "halyard"]
noncomputable def lJ(m:Nat):List Str:=["6", "00", "-1", "x", "0x",toString (m:Int), "777777777777777777777777777777"]
noncomputable def VL(z:Str):List Rw:=[("lower " ++ z,1,.non),("haul " ++ z ++ " zz",1,.non)]
noncomputable def YU:List Str:=["lose x", "find 5", "lose ab", "find 0"]
noncomputable def YS:List Str:=["a", "abcdefgh", "a.", "?x", "a5", "A?", "????????"]
noncomputable def YR:List Str:=["a", "ab", "xa", "abcdefgh", "Ab", "aa1"]
noncomputable def YT:List Str:=["abcdefg", "x", "a1", "aX"]
noncomputable def VU:List Rw:=[("cut up upon",5,.int 1),("say up up nothing",5,.int 2),("cut zz",5,.int 0)]
noncomputable def UP:List Rw:=[("cut Up",3,.non),("say up.",3,.non),("lose w",6,.str "w")]
noncomputable def WS:Str := "cut up up up up up up up up up up up up up up up up up up up up up up up up up up up up up up up up up up up up up up up up up"
noncomputable def uB(m:Nat):List Rw:=(((((((Z3.map λz=>((z,0,V.non):Rw))++((lJ m).map VL).flatten++YU.map λz=>((z,2,V.non):Rw))++YS.map λz=>(("sight " ++ z,3,V.non):Rw))++YR.map λz=>(("haul 0 " ++ z,4,V.int 0):Rw))++YT.map λz=>(("check " ++ z,4,V.int 0):Rw))++VU)++UP)++[(WS,3,.non)]
def JO(a:m<=6):∀z∈lJ m,z.length<=100:=by
 have q:∀m,m<7->∀z∈lJ m,z.length<=100:=by right
 grind
def yJ:∀A:List Str,(A.map VL).flatten.length=2*A.length
 |[]=>rfl
 |z::A=>by rw[Ax,Dh,Aj,yJ A,Be];show 2+_=_;omega
def Qe:Sp:=λb H Q _=>∃m:Nat,b=[.int (m:Int)]/\m<=6/\∀r a,H r=none->Same H a->Zk a r (uB m)->Q (.ref r) a
def y3:Z_ ["_law_many", "_law_some", "_law_found", "_law_number", "_law_word", "_law_sight"] ["_law_many"] (aJ yK):=by fail "sc"
def Mq(F:ZQ K "_law_rows" "_law_rows" yK f fd):Z9 P w K mg base ZO 1 f fd ["_law_many"] Qe:=by
 refine F.ok y3 (λvs H Q E h=>?_) (λcdv A outer s H vs Q E hr h=>?_)
 .obtain⟨m,rfl,_⟩:=h;rfl
 obtain⟨m,rfl,h6,q⟩:=h;refine⟨_,(@aH _ _ _ _ _ (@aY _ _ 1 _ _ _ _ y3.nd (@bI _ _ _ _ (@aL _ _ _ _ _ _ (@aL _ _ _ _ _ _ (@aL _ _ _ _ _ _ (@aL _ _ _ _ _ _ (@aL _ _ _ _ _ _ (@aL _ _ _ _ _ _ (@aL _ _ _ _ _ _ (@aL _ _ _ _ _ _ (@aL _ _ _ _ _ _ (@aL _ _ _ _ _ _ aD))))))))))) rfl (Or.inl rfl) rfl (Or.inl rfl)) (@aH _ _ _ _ _ (@aY _ _ 1 _ _ _ _ y3.nd (@dH _ _ _ _ _ _ _ _ cL (mv 1) (@bI _ _ _ _ (@aL _ _ _ _ _ _ (@aL _ _ _ _ _ _ (@aL _ _ _ _ _ _ (@aL _ _ _ _ _ _ (@aL _ _ _ _ _ _ (@aL _ _ _ _ _ _ (@aL _ _ _ _ _ _ (@aL _ _ _ _ _ _ (@aL _ _ _ _ _ _ aD))))))))))) rfl (Or.inl rfl) rfl (Or.inl rfl)) (@aH _ _ _ _ _ (@aY _ _ 1 _ _ _ _ y3.nd (@dH _ _ _ _ _ _ _ _ cL (mv 1) (bI (@aL _ _ _ _ _ _ (@aL _ _ _ _ _ _ aD)))) rfl (Or.inl rfl) rfl (Or.inl rfl)) (@aH _ _ _ _ _ (@aY _ _ 1 _ _ _ _ y3.nd (@dH _ _ _ _ _ _ _ _ cL (mv 1) (@bI _ _ _ _ (@aL _ _ _ _ _ _ (@aL _ _ _ _ _ _ (@aL _ _ _ _ _ _ (@aL _ _ _ _ _ _ (@aL _ _ _ _ _ _ (@aL _ _ _ _ _ _ (@aL _ _ _ _ _ _ (@aL _ _ _ _ _ _ (@aL _ _ _ _ _ _ aD))))))))))) rfl (Or.inl rfl) rfl (Or.inl rfl)) (@aH _ _ _ _ _ (dW (i:=2) y3.nd rfl (Or.inl rfl) rfl (bU (mv 1)) (dZ (N:=["_law_row"]) (by right) (by right)) (by right) rfl (by right) (λ_ _ _ _=>(bB (i:=0) (show List.Nodup (["_law_row"]:List Str) by right) rfl (Or.inl rfl))) (λ_ _ _ _=>cI) (λ_ _ _ _=>(bI (aA (mv 0) (@aL _ _ _ _ _ _ (aA cO aD)))))) (@aH _ _ _ _ _ (@qK _ _ _ _ _ _ _ _ Bp rfl (@nE _ _ _ _ (@bI _ _ _ _ (@aL _ _ _ _ _ _ (@aL _ _ _ _ _ _ (@aL _ _ _ _ _ _ (@aL _ _ _ _ _ _ (@aL _ _ _ _ _ _ (aA (cG UK rfl G.b_str Uq (aA (mv 0) aD)) (aA (@dH _ _ _ _ _ _ _ _ R9 cB aM) aD))))))))) (bB (i:=3) y3.nd rfl (Or.inl rfl)) (@aI _ _ _ (@aY _ _ 2 _ _ _ _ y3.nd (@dH _ _ _ _ _ _ _ _ cL (mv 2) (bI (@eI _ _ _ _ _ _ (aA (@dH _ _ _ _ _ _ _ _ cL cB (mv 3)) (@aL _ _ _ _ _ _ (aA cO aD))) (@eI _ _ _ _ _ _ (aA (@dH _ _ _ _ _ _ _ _ cL (@dH _ _ _ _ _ _ _ _ cL cB (mv 3)) cB) (@aL _ _ _ _ _ _ (aA cO aD))) aD)))) rfl (Or.inl rfl) rfl (Or.inl rfl))) (λ_=>rfl)) (@aH _ _ _ _ _ (@qK _ _ _ _ _ _ _ _ Bp rfl (@nE _ _ _ _ (@bI _ _ _ _ (@aL _ _ _ _ _ _ (@aL _ _ _ _ _ _ (@aL _ _ _ _ _ _ (@aL _ _ _ _ _ _ aD)))))) (bB (i:=4) y3.nd rfl (Or.inl rfl)) (@aI _ _ _ (cR (cC Bq Da Dc vU (mv 2) (@eI _ _ _ _ _ _ (aA (mv 4) (@aL _ _ _ _ _ _ (aA cO aD))) aD)))) (λ_=>rfl)) (@aH _ _ _ _ _ (@qK _ _ _ _ _ _ _ _ Bp rfl (@nE _ _ _ _ (@bI _ _ _ _ (@aL _ _ _ _ _ _ (@aL _ _ _ _ _ _ (@aL _ _ _ _ _ _ (@aL _ _ _ _ _ _ (@aL _ _ _ _ _ _ (@aL _ _ _ _ _ _ (aA (@dH _ _ _ _ _ _ _ _ R9 cB aM) aD))))))))) (bB (i:=5) y3.nd rfl (Or.inl rfl)) (@aI _ _ _ (cR (cC Bq Da Dc vU (mv 2) (@eI _ _ _ _ _ _ (aA (@dH _ _ _ _ _ _ _ _ cL cB (mv 5)) (@aL _ _ _ _ _ _ (aA cO aD))) aD)))) (λ_=>rfl)) (@aH _ _ _ _ _ (@qK _ _ _ _ _ _ _ _ Bp rfl (@nE _ _ _ _ (@bI _ _ _ _ (@aL _ _ _ _ _ _ (@aL _ _ _ _ _ _ (@aL _ _ _ _ _ _ (@aL _ _ _ _ _ _ (@aL _ _ _ _ _ _ (@aL _ _ _ _ _ _ aD)))))))) (bB (i:=4) y3.nd rfl (Or.inl rfl)) (@aI _ _ _ (cR (cC Bq Da Dc vU (mv 2) (@eI _ _ _ _ _ _ (aA (@dH _ _ _ _ _ _ _ _ cL cB (mv 4)) (@aL _ _ _ _ _ _ (@qY _ _ _ _ _ _ aD))) aD)))) (λ_=>rfl)) (@aH _ _ _ _ _ (@qK _ _ _ _ _ _ _ _ Bp rfl (@nE _ _ _ _ (@bI _ _ _ _ (@aL _ _ _ _ _ _ (@aL _ _ _ _ _ _ (@aL _ _ _ _ _ _ (@aL _ _ _ _ _ _ aD)))))) (bB (i:=4) y3.nd rfl (Or.inl rfl)) (@aI _ _ _ (cR (cC Bq Da Dc vU (mv 2) (@eI _ _ _ _ _ _ (aA (@dH _ _ _ _ _ _ _ _ cL cB (mv 4)) (@aL _ _ _ _ _ _ (@qY _ _ _ _ _ _ aD))) aD)))) (λ_=>rfl)) (@aH _ _ _ _ _ (@aY _ _ 2 _ _ _ _ y3.nd (@dH _ _ _ _ _ _ _ _ cL (mv 2) (bI (@eI _ _ _ _ _ _ (@aL _ _ _ _ _ _ (@aL _ _ _ _ _ _ (@qY _ _ _ _ _ _ aD))) (@eI _ _ _ _ _ _ (@aL _ _ _ _ _ _ (@aL _ _ _ _ _ _ (@qY _ _ _ _ _ _ aD))) (@eI _ _ _ _ _ _ (@aL _ _ _ _ _ _ (@aL _ _ _ _ _ _ (@qY _ _ _ _ _ _ aD))) aD))))) rfl (Or.inl rfl) rfl (Or.inl rfl)) (@aH _ _ _ _ _ (@aY _ _ 2 _ _ _ _ y3.nd (@dH _ _ _ _ _ _ _ _ cL (mv 2) (bI (@eI _ _ _ _ _ _ (@aL _ _ _ _ _ _ (@aL _ _ _ _ _ _ (aA cO aD))) (@eI _ _ _ _ _ _ (@aL _ _ _ _ _ _ (@aL _ _ _ _ _ _ (aA cO aD))) (@eI _ _ _ _ _ _ (@aL _ _ _ _ _ _ (@aL _ _ _ _ _ _ (@aL _ _ _ _ _ _ aD))) aD))))) rfl (Or.inl rfl) rfl (Or.inl rfl)) (@aI _ _ _ (aV (@dH _ _ _ _ _ _ _ _ cL (mv 2) (bI (@eI _ _ _ _ _ _ (aA (@dH _ _ _ _ _ _ _ _ cL (@dH _ _ _ _ _ _ _ _ cL cB (@dH _ _ _ _ _ _ _ _ R9 cB aM)) cB) (@aL _ _ _ _ _ _ (aA cO aD))) aD))))))))))))))))),?_⟩
 left;refine⟨by show 10<=sizeLine;decide,λp1 hp1=>?_⟩
 change iT 1 (V.ref p1) _ (upd H p1 (.lst ((Z3.take 10).map V.str))) _
 have k1:=aE hp1 (.lst ((Z3.take 10).map V.str))
 have e1:(upd H p1 (.lst ((Z3.take 10).map V.str))) p1=some (.lst ((Z3.take 10).map V.str)):=aG
 generalize upd H p1 (.lst ((Z3.take 10).map V.str))=H1 at k1 e1 ⊢;left;refine⟨by show 9<=sizeLine;decide,λp2 hp2=>?_⟩
 refine eV (bO (aE hp2 _ _ _ e1)) cX (by show 19<=sizeLine;decide) λp3 hp3=>?_
 change iT 1 (V.ref p3) _ (upd (upd H1 p2 (.lst (((Z3.drop 10).take 9).map V.str))) p3 (.lst ((Z3.take 19).map V.str))) _
 replace hp3:(upd H1 p2 (.lst (((Z3.drop 10).take 9).map V.str))) p3=none:=hp3
 have k3:=k1.trans ((aE hp2 (.lst (((Z3.drop 10).take 9).map V.str))).trans (aE hp3 (.lst ((Z3.take 19).map V.str))))
 have e3:(upd (upd H1 p2 (.lst (((Z3.drop 10).take 9).map V.str))) p3 (.lst ((Z3.take 19).map V.str))) p3=some (.lst ((Z3.take 19).map V.str)):=aG
 generalize upd (upd H1 p2 (.lst (((Z3.drop 10).take 9).map V.str))) p3 (.lst ((Z3.take 19).map V.str))=H3 at k3 e3 ⊢;left;refine⟨r0,λp4 hp4=>?_⟩
 refine eV (bO (aE hp4 _ _ _ e3)) cX (by show 21<=sizeLine;decide) λp5 hp5=>?_
 change iT 1 (V.ref p5) _ (upd (upd H3 p4 (.lst (((Z3.drop 19).take 2).map V.str))) p5 (.lst ((Z3.take 21).map V.str))) _
 replace hp5:(upd H3 p4 (.lst (((Z3.drop 19).take 2).map V.str))) p5=none:=hp5
 have k5:=k3.trans ((aE hp4 (.lst (((Z3.drop 19).take 2).map V.str))).trans (aE hp5 (.lst ((Z3.take 21).map V.str))))
 have e5:(upd (upd H3 p4 (.lst (((Z3.drop 19).take 2).map V.str))) p5 (.lst ((Z3.take 21).map V.str))) p5=some (.lst ((Z3.take 21).map V.str)):=aG
 generalize upd (upd H3 p4 (.lst (((Z3.drop 19).take 2).map V.str))) p5 (.lst ((Z3.take 21).map V.str))=H5 at k5 e5 ⊢;left;refine⟨by show 9<=sizeLine;decide,λp6 hp6=>?_⟩
 refine eV (bO (aE hp6 _ _ _ e5)) cX (by show 30<=sizeLine;decide) λp7 hp7=>?_
 change iT 1 (V.ref p7) _ (upd (upd H5 p6 (.lst ((Z3.drop 21).map V.str))) p7 (.lst (Z3.map V.str))) _
 replace hp7:(upd H5 p6 (.lst ((Z3.drop 21).map V.str))) p7=none:=hp7
 have k7:=k5.trans ((aE hp6 (.lst ((Z3.drop 21).map V.str))).trans (aE hp7 (.lst (Z3.map V.str))))
 have e7:(upd (upd H5 p6 (.lst ((Z3.drop 21).map V.str))) p7 (.lst (Z3.map V.str))) p7=some (.lst (Z3.map V.str)):=aG
 generalize upd (upd H5 p6 (.lst ((Z3.drop 21).map V.str))) p7 (.lst (Z3.map V.str))=H7 at k7 e7 ⊢;left;refine B_ (xs:=Z3.map V.str) (λj=>[.str (Z3.getD j (Str.ofString "")),.str (Str.ofString "row"),.non]) (aO e7) (by decide) (λj x Hc A B hx sm hA=>?_) (λr8 H8 ps hr8 s8 e8 hpl hls hne=>?_)
 .rw[Ae]at hx;obtain⟨z,ez,rfl⟩:=Bk.mp hx;left;refine⟨Wk.set rfl (Wk.refl _),?_⟩;left;refine⟨za0,λq hq=>?_⟩
  refine hA q _ hq (aE hq _) ?_;rw[aG,Ah,ez];rfl
 have hr8H:H r8=none:=none_of k7 hr8
 have k8:=k7.trans s8
 have els8:ZR H8 ps (Z3.map λz=>((z,0,V.non):Rw)):=⟨by rw[hpl,Ac,Ac],λj p y hp hy=>by
  rw[Ae]at hy;obtain⟨z,ez,rfl⟩:=Bk.mp hy;have hj:=(Ag.mp ez).1
  have:=(hls.2 j p [.str (Z3.getD j (Str.ofString "")),.str (Str.ofString "row"),.non] hp (by rw[Ae,List.getElem?_range (by rw[Ac];exact hj)];rfl)).2
  rw[this,Ah,ez];rfl⟩
 unfold uB at q;generalize (Z3.map λz=>((z,0,V.non):Rw))=L0 at els8 q;have el0:L0.length<=30:=by rw[<-els8.1,hpl,Ac];decide
 clear hls hne hpl e1 e3 e5 hp1 hp2 hp3 hp4 hp5 hp6 hp7 k1 k3 k5;left;refine s_str ((by decide:∀m:Nat,m<7->(m:Int).natAbs.log2<1920) m (by (exact Nat.lt_of_le_of_lt (by assumption) (by decide)))) ?_
 left;refine TF (by decide) (by decide) (by decide) ?_
 rw[show Txt.mul (Str.ofString "7") 30=Str.ofString "777777777777777777777777777777" by right]
 left;refine⟨by show 7<=sizeLine;decide,λpn hpn=>?_⟩
 rw[show [V.str (Str.ofString "6"),V.str (Str.ofString "00"),V.str (Str.ofString "-1"),V.str (Str.ofString "x"),V.str (Str.ofString "0x"),V.str (Str.ofString (toString (m:Int))),V.str (Str.ofString "777777777777777777777777777777")]=(lJ m).map V.str from rfl];have kn:=aE hpn (.lst ((lJ m).map V.str))
 have en:(upd H8 pn (.lst ((lJ m).map V.str))) pn=some (.lst ((lJ m).map V.str)):=aG
 have els9:=els8.keep kn
 have e9:=kn _ _ e8
 have k9:=k8.trans kn
 generalize upd H8 pn (.lst ((lJ m).map V.str))=H9 at kn en els9 e9 k9 ⊢;have hnl:=JO h6
 have en7:(lJ m).length=7:=rfl
 left;refine dU (xs:=(lJ m).map V.str) (λj U H'=>∃(r:Addr) (v3:Option V),U=[some (.int (m:Int)),some (.ref p7),some (.ref r),v3,none,none]/\Same H H'/\Same H9 H'/\H r=none/\Zk H' r (L0++(((lJ m).take j).map VL).flatten))
  ⟨r8,_,rfl,k9,Same.refl _,hr8H,ps,e9,by rw[En,Fg,List.flatten_nil,Bt];exact els9⟩ (λj U H' _ ⟨_,_,_,_,e,_⟩=>aQ e (aO en)) ?_ ?_
 .rintro j x U H10 hx ⟨r,v3,rfl,k10,s10,hrH,qs,er,els⟩;rw[Ae]at hx;obtain⟨z,ez,rfl⟩:=Bk.mp hx;have hz:=hnl z (As ez)
  have hql:(qs.map V.ref).length<=60:=by
   have hj:j<7:=(Ag.mp ez).1
   rw[Ac,els.1,Aj,yJ,Bi];((try clear h6 hz);omega)
  left;refine mX (by rw[show (Str.ofString "lower ").length=6 from rfl];exact bJ (by ((try clear el0 en7 h6 hql);omega))) ?_
  left;refine⟨za0,λq1 hq1=>?_⟩
  have kq1:=aE hq1 (.lst [V.str ("lower " ++ z),V.str (Str.ofString "halyard"),V.non])
  have eq1:(upd H10 q1 (.lst [V.str ("lower " ++ z),V.str (Str.ofString "halyard"),V.non])) q1=some (.lst (Rw.vs ("lower " ++ z,1,.non))):=aG
  generalize upd H10 q1 (.lst [V.str ("lower " ++ z),V.str (Str.ofString "halyard"),V.non])=H11 at kq1 eq1 ⊢;left;refine mX (by rw[show (Str.ofString "haul ").length=5 from rfl];exact bJ (by ((try clear el0 en7 h6 hql);omega))) ?_
  left;refine mX (by rw[Hq,show (Str.ofString "haul ").length=5 from rfl,show (Str.ofString " zz").length=3 from rfl];exact bJ (by ((try clear el0 en7 h6 hql);omega))) ?_
  left;refine⟨za0,λq2 hq2=>?_⟩
  have kq2:=kq1.trans (aE hq2 (.lst [V.str ("haul " ++ z ++ " zz"),V.str (Str.ofString "halyard"),V.non]))
  have eq12:=aE hq2 (.lst [V.str ("haul " ++ z ++ " zz"),V.str (Str.ofString "halyard"),V.non]) _ _ eq1
  have eq2:(upd H11 q2 (.lst [V.str ("haul " ++ z ++ " zz"),V.str (Str.ofString "halyard"),V.non])) q2=some (.lst (Rw.vs ("haul " ++ z ++ " zz",1,.non))):=aG
  generalize upd H11 q2 (.lst [V.str ("haul " ++ z ++ " zz"),V.str (Str.ofString "halyard"),V.non])=H12 at kq2 eq12 eq2 ⊢;left;refine⟨r0,λq3 hq3=>?_⟩
  have kq3:=kq2.trans (aE hq3 (.lst [V.ref q1,V.ref q2]))
  have eq13:=aE hq3 (.lst [V.ref q1,V.ref q2]) _ _ eq12
  have eq23:=aE hq3 (.lst [V.ref q1,V.ref q2]) _ _ eq2
  have eq3:(upd H12 q3 (.lst [V.ref q1,V.ref q2])) q3=some (.lst [V.ref q1,V.ref q2]):=aG
  generalize upd H12 q3 (.lst [V.ref q1,V.ref q2])=H13 at kq3 eq13 eq23 eq3 ⊢;refine eV (bO (kq3 _ _ er)) (bO eq3) (bJ (by show _+2<=_;((try clear el0 en7 h6 hz);omega))) λq4 hq4=>?_
  have kq4:=kq3.trans (aE hq4 (.lst (qs.map V.ref++[V.ref q1,V.ref q2])))
  have nq4:H q4=none:=none_of (k10.trans kq3) hq4
  left;refine⟨q4,_,rfl,k10.trans kq4,s10.trans kq4,nq4,qs++[q1,q2],by rw[aG,Ar];rfl,?_⟩
  have tk:((lJ m).take (j+1))=(lJ m).take j++[z]:=by rw[Bf,ez];rfl
  rw[tk,Ar,List.flatten_append,<-Cw];exact(els.keep kq4).app (ZR.cons (aE hq4 _ _ _ eq13) (ZR.cons (aE hq4 _ _ _ eq23) .nil))
 .rintro U H10 ⟨r,v3,rfl,k10,s10,hrH,qs,er,els⟩;rw[Ac,show (lJ m).length=7 from rfl,show (lJ m).take 7=lJ m from rfl]at els;have hL1:(L0++((lJ m).map VL).flatten).length<=44:=by rw[Aj,yJ];show _+2*7<=44;((try clear en7 h6);omega)
  clear els8 els9 e9 e8 en kn s8 k9 k8 hpn hr8 s10;generalize L0++((lJ m).map VL).flatten=L1 at els hL1 q;have rws:Zk H10 r L1:=⟨qs,er,els⟩
  clear er els;obtain⟨v4,hv4⟩:∃v4:Option V,v4=none:=⟨_,rfl⟩;obtain⟨v5,hv5⟩:∃v5:Option V,v5=none:=⟨_,rfl⟩;rw[show ([some (V.int (m:Int)),some (V.ref p7),some (V.ref r),v3,none,none]:List (Option V))=[some (V.int (m:Int)),some (V.ref p7),some (V.ref r),v3,v4,v5] by rw[hv4,hv5]]
  clear hv4 hv5;left;refine⟨za1,λpl hpl=>?_⟩
  rw[show [V.str (Str.ofString "lose x"),V.str (Str.ofString "find 5"),V.str (Str.ofString "lose ab"),V.str (Str.ofString "find 0")]=YU.map V.str from rfl];have kl:=aE hpl (.lst (YU.map V.str))
  have el:(upd H10 pl (.lst (YU.map V.str))) pl=some (.lst (YU.map V.str)):=aG
  have k11:=k10.trans kl
  have rw1:=rws.keep kl
  have npr:pl≠r:=λz=>by
   obtain⟨qs,er,_⟩:=rws;rw[z,er]at hpl;cases hpl
  generalize upd H10 pl (.lst (YU.map V.str))=H11 at kl el k11 rw1 ⊢;left;refine dU (xs:=YU.map V.str) (λj U H'=>∃(v4 v5:Option V),U=[some (.int (m:Int)),some (.ref p7),some (.ref r),v3,v4,v5]/\Same H H'/\H' pl=some (.lst (YU.map V.str))/\Zk H' r (L1++(YU.take j).map λz=>((z,2,V.non):Rw)))
   ⟨_,_,rfl,k11,el,by rw[En,Fg,Bt];exact rw1⟩ (λj U H' _ ⟨_,_,_,_,e,_⟩=>aO e) ?_ ?_
  .rintro j x U H12 hx ⟨w4,w5,rfl,k12,el12,qs,er,els⟩;rw[Ae]at hx;obtain⟨z,ez,rfl⟩:=Bk.mp hx;have hz:z.length<=10:=(by right:∀z∈YU,z.length<=10) z (As ez)
   have hql:(qs.map V.ref).length<=500:=by
    have hj:j<4:=(Ag.mp ez).1
    rw[Ac,els.1,Aj,Ac,Bi];((try clear el0 en7 h6 hz npr);omega)
   left;refine⟨za0,λq1 hq1=>?_⟩
   have kq1:=aE hq1 (.lst [V.str (z),V.str (Str.ofString "flag"),V.non])
   have eq1:(upd H12 q1 (.lst [V.str (z),V.str (Str.ofString "flag"),V.non])) q1=some (.lst (Rw.vs (z,2,V.non))):=aG
   generalize upd H12 q1 (.lst [V.str (z),V.str (Str.ofString "flag"),V.non])=H13 at kq1 eq1 ⊢;have er13:=kq1 _ _ er
   have hm13:=bO er13
   left;refine⟨_,_,rfl,bQ hrH (k12.trans kq1),by rw[aK npr];exact kq1 _ _ el12,qs++[q1],by rw[aG,Ar];rfl,?_⟩
   rw[Bf,ez,Ar,<-Cw];exact((els.keep kq1).app (ZR.cons eq1 .nil)).put er13
  clear kl el k11 rw1 npr hpl rws k10;rintro U H20 ⟨v4,v5,rfl,k10,_,rws⟩;rw[Ac,Cm]at rws;have hL2:(L1++YU.map λz=>((z,2,V.non):Rw)).length<=48:=by rw[Aj,Ac];show _+4<=48;((try clear el0 en7 h6);omega)
  generalize L1++(YU.map λz=>((z,2,V.non):Rw))=L2 at rws hL2 q;left;refine TF (by decide) (by decide) (by decide) ?_
  rw[show Txt.mul (Str.ofString "?") 8=Str.ofString "????????" by right]
  left;refine⟨by show 7<=sizeLine;decide,λpl hpl=>?_⟩
  rw[show [V.str (Str.ofString "a"),V.str (Str.ofString "abcdefgh"),V.str (Str.ofString "a."),V.str (Str.ofString "?x"),V.str (Str.ofString "a5"),V.str (Str.ofString "A?"),V.str (Str.ofString "????????")]=YS.map V.str from rfl];have kl:=aE hpl (.lst (YS.map V.str))
  have el:(upd H20 pl (.lst (YS.map V.str))) pl=some (.lst (YS.map V.str)):=aG
  have k11:=k10.trans kl
  have rw1:=rws.keep kl
  have npr:pl≠r:=λz=>by
   obtain⟨qs,er,_⟩:=rws;rw[z,er]at hpl;cases hpl
  generalize upd H20 pl (.lst (YS.map V.str))=H11 at kl el k11 rw1 ⊢;left;refine dU (xs:=YS.map V.str) (λj U H'=>∃(v4 v5:Option V),U=[some (.int (m:Int)),some (.ref p7),some (.ref r),v3,v4,v5]/\Same H H'/\H' pl=some (.lst (YS.map V.str))/\Zk H' r (L2++(YS.take j).map λz=>(("sight " ++ z,3,V.non):Rw)))
   ⟨_,_,rfl,k11,el,by rw[En,Fg,Bt];exact rw1⟩ (λj U H' _ ⟨_,_,_,_,e,_⟩=>aO e) ?_ ?_
  .rintro j x U H12 hx ⟨w4,w5,rfl,k12,el12,qs,er,els⟩;rw[Ae]at hx;obtain⟨z,ez,rfl⟩:=Bk.mp hx;have hz:z.length<=10:=(by right:∀z∈YS,z.length<=10) z (As ez)
   have hql:(qs.map V.ref).length<=500:=by
    have hj:j<7:=(Ag.mp ez).1
    rw[Ac,els.1,Aj,Ac,Bi];((try clear el0 en7 h6 hL1 hz npr);omega)
   left;refine mX (by rw[show (Str.ofString "sight ").length=6 from rfl];exact bJ (by ((try clear el0 en7 h6 hL1 hL2 hql npr);omega))) ?_
   left;refine⟨za0,λq1 hq1=>?_⟩
   have kq1:=aE hq1 (.lst [V.str ("sight " ++ z),V.str (Str.ofString "text"),V.non])
   have eq1:(upd H12 q1 (.lst [V.str ("sight " ++ z),V.str (Str.ofString "text"),V.non])) q1=some (.lst (Rw.vs ("sight " ++ z,3,V.non))):=aG
   generalize upd H12 q1 (.lst [V.str ("sight " ++ z),V.str (Str.ofString "text"),V.non])=H13 at kq1 eq1 ⊢;have er13:=kq1 _ _ er
   have hm13:=bO er13
   left;refine⟨_,_,rfl,bQ hrH (k12.trans kq1),by rw[aK npr];exact kq1 _ _ el12,qs++[q1],by rw[aG,Ar];rfl,?_⟩
   rw[Bf,ez,Ar,<-Cw];exact((els.keep kq1).app (ZR.cons eq1 .nil)).put er13
  clear kl el k11 rw1 npr hpl rws k10;rintro U H30 ⟨v4,v5,rfl,k10,_,rws⟩;rw[Ac,Cm]at rws;have hL3:(L2++YS.map λz=>(("sight " ++ z,3,V.non):Rw)).length<=55:=by rw[Aj,Ac];show _+7<=55;((try clear el0 en7 h6 hL1);omega)
  generalize L2++(YS.map λz=>(("sight " ++ z,3,V.non):Rw))=L3 at rws hL3 q;left;refine⟨by show 6<=sizeLine;decide,λpl hpl=>?_⟩
  rw[show [V.str (Str.ofString "a"),V.str (Str.ofString "ab"),V.str (Str.ofString "xa"),V.str (Str.ofString "abcdefgh"),V.str (Str.ofString "Ab"),V.str (Str.ofString "aa1")]=YR.map V.str from rfl];have kl:=aE hpl (.lst (YR.map V.str))
  have el:(upd H30 pl (.lst (YR.map V.str))) pl=some (.lst (YR.map V.str)):=aG
  have k11:=k10.trans kl
  have rw1:=rws.keep kl
  have npr:pl≠r:=λz=>by
   obtain⟨qs,er,_⟩:=rws;rw[z,er]at hpl;cases hpl
  generalize upd H30 pl (.lst (YR.map V.str))=H11 at kl el k11 rw1 ⊢;left;refine dU (xs:=YR.map V.str) (λj U H'=>∃(v4 v5:Option V),U=[some (.int (m:Int)),some (.ref p7),some (.ref r),v3,v4,v5]/\Same H H'/\H' pl=some (.lst (YR.map V.str))/\Zk H' r (L3++(YR.take j).map λz=>(("haul 0 " ++ z,4,V.int 0):Rw)))
   ⟨_,_,rfl,k11,el,by rw[En,Fg,Bt];exact rw1⟩ (λj U H' _ ⟨_,_,_,_,e,_⟩=>aO e) ?_ ?_
  .rintro j x U H12 hx ⟨w4,w5,rfl,k12,el12,qs,er,els⟩;rw[Ae]at hx;obtain⟨z,ez,rfl⟩:=Bk.mp hx;have hz:z.length<=10:=(by right:∀z∈YR,z.length<=10) z (As ez)
   have hql:(qs.map V.ref).length<=500:=by
    have hj:j<6:=(Ag.mp ez).1
    rw[Ac,els.1,Aj,Ac,Bi];((try clear el0 en7 h6 hL1 hL2 hz npr);omega)
   left;refine mX (by rw[show (Str.ofString "haul 0 ").length=7 from rfl];exact bJ (by ((try clear el0 en7 h6 hL1 hL2 hL3 hql npr);omega))) ?_
   left;refine⟨za0,λq1 hq1=>?_⟩
   have kq1:=aE hq1 (.lst [V.str ("haul 0 " ++ z),V.str (Str.ofString "word"),V.int 0])
   have eq1:(upd H12 q1 (.lst [V.str ("haul 0 " ++ z),V.str (Str.ofString "word"),V.int 0])) q1=some (.lst (Rw.vs ("haul 0 " ++ z,4,V.int 0))):=aG
   generalize upd H12 q1 (.lst [V.str ("haul 0 " ++ z),V.str (Str.ofString "word"),V.int 0])=H13 at kq1 eq1 ⊢;have er13:=kq1 _ _ er
   have hm13:=bO er13
   left;refine⟨_,_,rfl,bQ hrH (k12.trans kq1),by rw[aK npr];exact kq1 _ _ el12,qs++[q1],by rw[aG,Ar];rfl,?_⟩
   rw[Bf,ez,Ar,<-Cw];exact((els.keep kq1).app (ZR.cons eq1 .nil)).put er13
  clear kl el k11 rw1 npr hpl rws k10;rintro U H40 ⟨v4,v5,rfl,k10,_,rws⟩;rw[Ac,Cm]at rws;have hL4:(L3++YR.map λz=>(("haul 0 " ++ z,4,V.int 0):Rw)).length<=61:=by rw[Aj,Ac];show _+6<=61;((try clear el0 en7 h6 hL1 hL2);omega)
  generalize L3++(YR.map λz=>(("haul 0 " ++ z,4,V.int 0):Rw))=L4 at rws hL4 q;left;refine⟨za1,λpl hpl=>?_⟩
  rw[show [V.str (Str.ofString "abcdefg"),V.str (Str.ofString "x"),V.str (Str.ofString "a1"),V.str (Str.ofString "aX")]=YT.map V.str from rfl];have kl:=aE hpl (.lst (YT.map V.str))
  have el:(upd H40 pl (.lst (YT.map V.str))) pl=some (.lst (YT.map V.str)):=aG
  have k11:=k10.trans kl
  have rw1:=rws.keep kl
  have npr:pl≠r:=λz=>by
   obtain⟨qs,er,_⟩:=rws;rw[z,er]at hpl;cases hpl
  generalize upd H40 pl (.lst (YT.map V.str))=H11 at kl el k11 rw1 ⊢;left;refine dU (xs:=YT.map V.str) (λj U H'=>∃(v4 v5:Option V),U=[some (.int (m:Int)),some (.ref p7),some (.ref r),v3,v4,v5]/\Same H H'/\H' pl=some (.lst (YT.map V.str))/\Zk H' r (L4++(YT.take j).map λz=>(("check " ++ z,4,V.int 0):Rw)))
   ⟨_,_,rfl,k11,el,by rw[En,Fg,Bt];exact rw1⟩ (λj U H' _ ⟨_,_,_,_,e,_⟩=>aO e) ?_ ?_
  .rintro j x U H12 hx ⟨w4,w5,rfl,k12,el12,qs,er,els⟩;rw[Ae]at hx;obtain⟨z,ez,rfl⟩:=Bk.mp hx;have hz:z.length<=10:=(by right:∀z∈YT,z.length<=10) z (As ez)
   have hql:(qs.map V.ref).length<=500:=by
    have hj:j<4:=(Ag.mp ez).1
    rw[Ac,els.1,Aj,Ac,Bi];((try clear el0 en7 h6 hL1 hL2 hL3 hz npr);omega)
   left;refine mX (by rw[show (Str.ofString "check ").length=6 from rfl];exact bJ (by ((try clear el0 en7 h6 hL1 hL2 hL3 hL4 hql npr);omega))) ?_
   left;refine⟨za0,λq1 hq1=>?_⟩
   have kq1:=aE hq1 (.lst [V.str ("check " ++ z),V.str (Str.ofString "word"),V.int 0])
   have eq1:(upd H12 q1 (.lst [V.str ("check " ++ z),V.str (Str.ofString "word"),V.int 0])) q1=some (.lst (Rw.vs ("check " ++ z,4,V.int 0))):=aG
   generalize upd H12 q1 (.lst [V.str ("check " ++ z),V.str (Str.ofString "word"),V.int 0])=H13 at kq1 eq1 ⊢;have er13:=kq1 _ _ er
   have hm13:=bO er13
   left;refine⟨_,_,rfl,bQ hrH (k12.trans kq1),by rw[aK npr];exact kq1 _ _ el12,qs++[q1],by rw[aG,Ar];rfl,?_⟩
   rw[Bf,ez,Ar,<-Cw];exact((els.keep kq1).app (ZR.cons eq1 .nil)).put er13
  clear kl el k11 rw1 npr hpl rws k10;rintro U H50 ⟨v4,v5,rfl,k10,_,rws⟩;rw[Ac,Cm]at rws;have hL5:(L4++YT.map λz=>(("check " ++ z,4,V.int 0):Rw)).length<=65:=by rw[Aj,Ac];show _+4<=65;((try clear el0 en7 h6 hL1 hL2 hL3);omega)
  generalize L4++(YT.map λz=>(("check " ++ z,4,V.int 0):Rw))=L5 at rws hL5 q;obtain⟨qs,er,els⟩:=rws;have hql:(qs.map V.ref).length<=65:=by rw[Ac,els.1];exact hL5
  left;refine⟨za0,λq1 hq1=>?_⟩
  have kq1:=aE hq1 (.lst [V.str (Str.ofString "cut up upon"),V.str (Str.ofString "cut"),V.int 1])
  have eq1:(upd H50 q1 (.lst [V.str (Str.ofString "cut up upon"),V.str (Str.ofString "cut"),V.int 1])) q1=some (.lst (Rw.vs ((Str.ofString "cut up upon"),5,V.int 1))):=aG
  generalize upd H50 q1 (.lst [V.str (Str.ofString "cut up upon"),V.str (Str.ofString "cut"),V.int 1])=H50_1 at kq1 eq1 ⊢;have kk1:=(Same.refl _).trans kq1
  left;refine⟨za0,λq2 hq2=>?_⟩
  have kq2:=aE hq2 (.lst [V.str (Str.ofString "say up up nothing"),V.str (Str.ofString "cut"),V.int 2])
  have eq2:(upd H50_1 q2 (.lst [V.str (Str.ofString "say up up nothing"),V.str (Str.ofString "cut"),V.int 2])) q2=some (.lst (Rw.vs ((Str.ofString "say up up nothing"),5,V.int 2))):=aG
  generalize upd H50_1 q2 (.lst [V.str (Str.ofString "say up up nothing"),V.str (Str.ofString "cut"),V.int 2])=H50_2 at kq2 eq2 ⊢;replace eq1:=kq2 _ _ eq1
  have kk2:=kk1.trans kq2
  left;refine⟨za0,λq3 hq3=>?_⟩
  have kq3:=aE hq3 (.lst [V.str (Str.ofString "cut zz"),V.str (Str.ofString "cut"),V.int 0])
  have eq3:(upd H50_2 q3 (.lst [V.str (Str.ofString "cut zz"),V.str (Str.ofString "cut"),V.int 0])) q3=some (.lst (Rw.vs ((Str.ofString "cut zz"),5,V.int 0))):=aG
  generalize upd H50_2 q3 (.lst [V.str (Str.ofString "cut zz"),V.str (Str.ofString "cut"),V.int 0])=H50_3 at kq3 eq3 ⊢;replace eq1:=kq3 _ _ eq1
  replace eq2:=kq3 _ _ eq2
  have kk3:=kk2.trans kq3
  left;refine⟨za0,λq9 hq9=>?_⟩
  have k9:=aE hq9 (.lst [V.ref q1,V.ref q2,V.ref q3])
  have e9:(upd H50_3 q9 (.lst [V.ref q1,V.ref q2,V.ref q3])) q9=some (.lst [V.ref q1,V.ref q2,V.ref q3]):=aG
  have kk9:=kk3.trans k9
  generalize upd H50_3 q9 (.lst [V.ref q1,V.ref q2,V.ref q3])=H9x at k9 e9 kk9 ⊢;replace eq1:=k9 _ _ eq1
  replace eq2:=k9 _ _ eq2
  replace eq3:=k9 _ _ eq3
  refine eV (bO (kk9 _ _ er)) (bO e9) (bJ (by show _+3<=_;((try clear el0 en7 h6 hL1 hL2 hL3 hL4 hL5);omega))) λr6 hr6=>?_
  have kA:=aE hr6 (.lst (qs.map V.ref++[V.ref q1,V.ref q2,V.ref q3]))
  have nA:H r6=none:=none_of (k10.trans kk9) hr6
  have rA:Zk (upd H9x r6 (.lst (qs.map V.ref++[V.ref q1,V.ref q2,V.ref q3]))) r6 (L5++VU):=⟨qs++[q1,q2,q3],by rw[aG,Ar];rfl,(els.keep (kk9.trans kA)).app (ZR.cons (kA _ _ eq1) (ZR.cons (kA _ _ eq2) (ZR.cons (kA _ _ eq3) .nil)))⟩
  have kB:=k10.trans (kk9.trans kA)
  generalize upd H9x r6 (.lst (qs.map V.ref++[V.ref q1,V.ref q2,V.ref q3]))=H60 at kA rA kB ⊢;clear er els hql k9 e9 kk9 kA eq1 kq1 kk1 eq2 kq2 kk2 eq3 kq3 kk3 k10;have hL6:(L5++VU).length<=68:=by rw[Aj];show _+3<=68;((try clear el0 en7 h6 hL1 hL2 hL3 hL4);omega)
  have k10:=kB
  clear kB;have rws:=rA
  clear rA;generalize L5++VU=L6 at rws hL6 q;obtain⟨qs,er,els⟩:=rws;have hql:(qs.map V.ref).length<=68:=by rw[Ac,els.1];exact hL6
  left;refine⟨za0,λq1 hq1=>?_⟩
  have kq1:=aE hq1 (.lst [V.str (Str.ofString "cut Up"),V.str (Str.ofString "text"),V.non])
  have eq1:(upd H60 q1 (.lst [V.str (Str.ofString "cut Up"),V.str (Str.ofString "text"),V.non])) q1=some (.lst (Rw.vs ((Str.ofString "cut Up"),3,V.non))):=aG
  generalize upd H60 q1 (.lst [V.str (Str.ofString "cut Up"),V.str (Str.ofString "text"),V.non])=H60_1 at kq1 eq1 ⊢;have kk1:=(Same.refl _).trans kq1
  left;refine⟨za0,λq2 hq2=>?_⟩
  have kq2:=aE hq2 (.lst [V.str (Str.ofString "say up."),V.str (Str.ofString "text"),V.non])
  have eq2:(upd H60_1 q2 (.lst [V.str (Str.ofString "say up."),V.str (Str.ofString "text"),V.non])) q2=some (.lst (Rw.vs ((Str.ofString "say up."),3,V.non))):=aG
  generalize upd H60_1 q2 (.lst [V.str (Str.ofString "say up."),V.str (Str.ofString "text"),V.non])=H60_2 at kq2 eq2 ⊢;replace eq1:=kq2 _ _ eq1
  have kk2:=kk1.trans kq2
  left;refine⟨za0,λq3 hq3=>?_⟩
  have kq3:=aE hq3 (.lst [V.str (Str.ofString "lose w"),V.str (Str.ofString "short"),V.str (Str.ofString "w")])
  have eq3:(upd H60_2 q3 (.lst [V.str (Str.ofString "lose w"),V.str (Str.ofString "short"),V.str (Str.ofString "w")])) q3=some (.lst (Rw.vs ((Str.ofString "lose w"),6,V.str (Str.ofString "w")))):=aG
  generalize upd H60_2 q3 (.lst [V.str (Str.ofString "lose w"),V.str (Str.ofString "short"),V.str (Str.ofString "w")])=H60_3 at kq3 eq3 ⊢;replace eq1:=kq3 _ _ eq1
  replace eq2:=kq3 _ _ eq2
  have kk3:=kk2.trans kq3
  left;refine⟨za0,λq9 hq9=>?_⟩
  have k9:=aE hq9 (.lst [V.ref q1,V.ref q2,V.ref q3])
  have e9:(upd H60_3 q9 (.lst [V.ref q1,V.ref q2,V.ref q3])) q9=some (.lst [V.ref q1,V.ref q2,V.ref q3]):=aG
  have kk9:=kk3.trans k9
  generalize upd H60_3 q9 (.lst [V.ref q1,V.ref q2,V.ref q3])=H9x at k9 e9 kk9 ⊢;replace eq1:=k9 _ _ eq1
  replace eq2:=k9 _ _ eq2
  replace eq3:=k9 _ _ eq3
  refine eV (bO (kk9 _ _ er)) (bO e9) (bJ (by show _+3<=_;((try clear el0 en7 h6 hL1 hL2 hL3 hL4 hL5 hL6);omega))) λr7 hr7=>?_
  have kA:=aE hr7 (.lst (qs.map V.ref++[V.ref q1,V.ref q2,V.ref q3]))
  have nA:H r7=none:=none_of (k10.trans kk9) hr7
  have rA:Zk (upd H9x r7 (.lst (qs.map V.ref++[V.ref q1,V.ref q2,V.ref q3]))) r7 (L6++UP):=⟨qs++[q1,q2,q3],by rw[aG,Ar];rfl,(els.keep (kk9.trans kA)).app (ZR.cons (kA _ _ eq1) (ZR.cons (kA _ _ eq2) (ZR.cons (kA _ _ eq3) .nil)))⟩
  have kB:=k10.trans (kk9.trans kA)
  generalize upd H9x r7 (.lst (qs.map V.ref++[V.ref q1,V.ref q2,V.ref q3]))=H70 at kA rA kB ⊢;clear er els hql k9 e9 kk9 kA eq1 kq1 kk1 eq2 kq2 kk2 eq3 kq3 kk3 k10;have hL7:(L6++UP).length<=71:=by rw[Aj];show _+3<=71;((try clear el0 en7 h6 hL1 hL2 hL3 hL4 hL5);omega)
  have k10:=kB
  clear kB;have rws:=rA
  clear rA;generalize L6++UP=L7 at rws hL7 q;obtain⟨qs,er,els⟩:=rws;have hql:(qs.map V.ref).length<=71:=by rw[Ac,els.1];exact hL7
  left;refine TF (by decide) (by decide) (by decide) ?_
  left;rw[show Str.ofString "cut " ++ Txt.mul (Str.ofString "up ") 40++Str.ofString "up"=WS by right]
  left;refine⟨za0,λq1 hq1=>?_⟩
  have kq1:=aE hq1 (.lst [V.str WS,V.str (Str.ofString "text"),V.non])
  have eq1:(upd H70 q1 (.lst [V.str WS,V.str (Str.ofString "text"),V.non])) q1=some (.lst (Rw.vs (WS,3,V.non))):=aG
  generalize upd H70 q1 (.lst [V.str WS,V.str (Str.ofString "text"),V.non])=H70_1 at kq1 eq1 ⊢;have kk1:=(Same.refl _).trans kq1
  left;refine⟨x0,λq9 hq9=>?_⟩
  have k9:=aE hq9 (.lst [V.ref q1])
  have e9:(upd H70_1 q9 (.lst [V.ref q1])) q9=some (.lst [V.ref q1]):=aG
  have kk9:=kk1.trans k9
  generalize upd H70_1 q9 (.lst [V.ref q1])=H9x at k9 e9 kk9 ⊢;replace eq1:=k9 _ _ eq1
  refine eV (bO (kk9 _ _ er)) (bO e9) (bJ (by show _+1<=_;(exact Nat.lt_of_le_of_lt (by assumption) (by decide)))) λr8 hr8=>?_
  have kA:=aE hr8 (.lst (qs.map V.ref++[V.ref q1]))
  have nA:H r8=none:=none_of (k10.trans kk9) hr8
  have rA:Zk (upd H9x r8 (.lst (qs.map V.ref++[V.ref q1]))) r8 (L7++[(WS,3,.non)]):=⟨qs++[q1],by rw[aG,Ar];rfl,(els.keep (kk9.trans kA)).app (ZR.cons (kA _ _ eq1) .nil)⟩
  have kB:=k10.trans (kk9.trans kA)
  exact q r8 _ nA kB rA
noncomputable def Xb(i:Nat):List Bool:=[decide (i=0),decide (i=1),decide (i=2),decide (i=3),decide (i=4),decide (i=5),decide (i=6),false,false,false,false]
noncomputable def WZ:List Str:=["row", "halyard", "flag", "text", "word", "cut", "short", "lack", "book", "deed", "hoist"]
noncomputable def SD(i k:Nat):Option V:=if (Xb i).getD k false=true then some (.str (WZ.getD k "")) else none
def Me:∀i,i<7->(List.range 11).filterMap (SD i)=[V.str (kN i)]:=λi a=>by
 match i,a with
 |0,_=>rfl
 |1,_=>rfl
 |2,_=>rfl
 |3,_=>rfl
 |4,_=>rfl
 |5,_=>rfl
 |6,_=>rfl
def zO(C h g:Addr):Sp:=λb H Q _=>∃x t e m c f d z i v,b=[.ref x,.str z]/\Zc C h g H x t e m c f d/\i<7/\Vk m f z i v/\(W6 i=none->v=.non)/\∀r a,H r=none->Same H a->a r=some (.lst [.str (kN i),v])->Q (.ref r) a
def z6:Z_ ["_law_desk", "_law_row", "_law_found", "e", "_law_some", "_law_names", "_law_told"] ["_law_desk", "_law_row"] (aJ qX):=by fail "sc"
def CH(F:ZQ K "_law_kind" "_law_kind" qX f fd)(y2:yH (Zb P w) P w K mg base 10 Z1 "say" ["self", "row"] (mP Z1 Z0 Pt Zp Zy Zw Zv Zu Zq Zr)):Z9 P w K mg base ZO 12 f fd ["_law_desk", "_law_row"] (zO Z1 Z0 Pt):=by
 refine F.ok z6 (λvs H Q E h=>?_) (λcdv A outer s H vs Q E hr h=>?_)
 .obtain⟨x,t,dd,m,hs,f,ds,z,i,v,rfl,_⟩:=h;rfl
 obtain⟨x,t,dd,m,hs,f,ds,z,i,v,rfl,hdk,hi,hno,hv,q⟩:=h;refine⟨_,(@aH _ _ _ _ _ (@aY _ _ 2 _ _ _ _ z6.nd cO rfl (Or.inl rfl) rfl (Or.inl rfl)) (@aH _ _ _ _ _ (D1 (i:=3) rfl rfl rfl z6.nd rfl rfl rfl G.c_TowerError (λy0 R=>(@aI _ _ _ (cR (A8 y2 G.ZV (CK rfl) hr (by decide) (mv 0) (aA (mv 1) aD))))) (λy0 ea=>(@aH _ _ _ _ _ (@aY _ _ 4 _ _ _ _ z6.nd (@bI _ _ _ _ (aA (aP (eU (K:=K) rfl) rfl G.b_isinstance bT (aA (mv 3) (aA (dS rfl G.c_NoRow) aD))) (aA (aP (eU (K:=K) rfl) rfl G.b_isinstance bT (aA (mv 3) (aA (dS rfl G.c_NoHalyard) aD))) (aA (aP (eU (K:=K) rfl) rfl G.b_isinstance bT (aA (mv 3) (aA (dS rfl G.c_NoFlag) aD))) (aA (aP (eU (K:=K) rfl) rfl G.b_isinstance bT (aA (mv 3) (aA (dS rfl G.c_NoText) aD))) aD))))) rfl (Or.inr rfl) rfl (Or.inl rfl)) (@aH _ _ _ _ _ (@aY _ _ 4 _ _ _ _ z6.nd (@dH _ _ _ _ _ _ _ _ cL (mv 4) (@bI _ _ _ _ (aA (aP (eU (K:=K) rfl) rfl G.b_isinstance bT (aA (mv 3) (aA (dS rfl G.c_NoWord) aD))) (aA (aP (eU (K:=K) rfl) rfl G.b_isinstance bT (aA (mv 3) (aA (dS rfl G.c_NoCut) aD))) (aA (aP (eU (K:=K) rfl) rfl G.b_isinstance bT (aA (mv 3) (aA (dS rfl G.c_Short) aD))) (aA (aP (eU (K:=K) rfl) rfl G.b_isinstance bT (aA (mv 3) (aA (dS rfl G.V8) aD))) aD)))))) rfl (Or.inr rfl) rfl (Or.inl rfl)) (@aH _ _ _ _ _ (@aY _ _ 4 _ _ _ _ z6.nd (@dH _ _ _ _ _ _ _ _ cL (mv 4) (bI (aA (aP (eU (K:=K) rfl) rfl G.b_isinstance bT (aA (mv 3) (aA (dS rfl G.c_NoBook) aD))) (aA (aP (eU (K:=K) rfl) rfl G.b_isinstance bT (aA (mv 3) (aA (dS rfl G.c_NoDeed) aD))) (aA (aP (eU (K:=K) rfl) rfl G.b_isinstance bT (aA (mv 3) (aA (dS rfl G.c_NoHoist) aD))) aD))))) rfl (Or.inr rfl) rfl (Or.inl rfl)) (@aH _ _ _ _ _ (@aY _ _ 5 _ _ _ _ z6.nd (@bI _ _ _ _ (@aL _ _ _ _ _ _ (@aL _ _ _ _ _ _ (@aL _ _ _ _ _ _ (@aL _ _ _ _ _ _ (@aL _ _ _ _ _ _ (@aL _ _ _ _ _ _ (@aL _ _ _ _ _ _ (@aL _ _ _ _ _ _ (@aL _ _ _ _ _ _ (@aL _ _ _ _ _ _ (@aL _ _ _ _ _ _ aD)))))))))))) rfl (Or.inr rfl) rfl (Or.inl rfl)) (@aH _ _ _ _ _ (BO (i:=6) z6.nd rfl (Or.inl rfl)  (EM rfl G.b_range (aA aM aD)) (fG (N:=["_law_k", "_law_names", "_law_some"]) ["_law_desk", "_law_row", "_law_found", "e", "_law_some", "_law_names", "_law_told"] (aJ qX) [none,some 5,some 4] rfl rfl rfl (λx h=>cE h) (by right)) (by right) rfl (by right) (λC s₀ H₀ ex sx=>(bB (i:=0) (show List.Nodup (["_law_k", "_law_names", "_law_some"]:List Str) by right) rfl (Or.inl rfl))) (λC s₀ H₀ ex sx=>(jS (cN (bH bZ (mv 2) (mv 0) (λ_ _=>rfl))))) (λC s₀ H₀ ex sx=>(bH bZ (mv 1) (mv 0) (λ_ _=>rfl)))) (@aI _ _ _ (bP (PW.pt (Sa (bD fW (aP cK rfl G.b_len bR (aA (mv 6) aD)) aM (aZ _)) (Tr (cN (aP (eU (K:=K) rfl) rfl G.b_isinstance bT (aA (mv 3) (aA (B7 rfl G.b_ValueError zJ) aD))))))) (@aH _ _ _ _ _ (@aY _ _ 2 _ _ _ _ z6.nd (bI (aA (bH bZ (mv 6) aM (λ_ _=>rfl)) (aA cO aD))) rfl (Or.inl rfl) rfl (Or.inl rfl)) (@aI _ _ _ (bP (cN (aP (eU (K:=K) rfl) rfl G.b_isinstance bT (aA (mv 3) (aA (dS rfl G.c_NoWord) aD)))) (@aI _ _ _ (sJ (wB (K:=K) rfl (mv 3) rfl) (yG (mv 2) aM mW))) (@aI _ _ _ (bP (cN (aP (eU (K:=K) rfl) rfl G.b_isinstance bT (aA (mv 3) (aA (dS rfl G.c_NoCut) aD)))) (@aI _ _ _ (sJ (wB (K:=K) rfl (mv 3) rfl) (yG (mv 2) aM mW))) (@aI _ _ _ (bP (cN (aP (eU (K:=K) rfl) rfl G.b_isinstance bT (aA (mv 3) (aA (dS rfl G.c_Short) aD)))) (@aI _ _ _ (sJ (wB (K:=K) rfl (mv 3) rfl) (yG (mv 2) aM mW))) bE))))))) bE))))))))) (@aI _ _ _ (aV (mv 2))))),?_⟩
 have kn:Yy K (wF Zp Zy Zw Zv Zu Zq Zr i)/\W5 K Zp Zy Zw Zv Zu Zq Zr Zo Zs Zt Zx Zz (wF Zp Zy Zw Zv Zu Zq Zr i) i:=by
  clear hno q hv
  match i,hi with
  |0,_=>exact⟨G.ek_NoRow,G.kn_NoRow⟩
  |1,_=>exact⟨G.ek_NoHalyard,G.kn_NoHalyard⟩
  |2,_=>exact⟨G.ek_NoFlag,G.kn_NoFlag⟩
  |3,_=>exact⟨G.ek_NoText,G.kn_NoText⟩
  |4,_=>exact⟨G.xx_NoWord,G.kn_NoWord⟩
  |5,_=>exact⟨G.xx_NoCut,G.kn_NoCut⟩
  |6,_=>exact⟨G.xx_Short,G.kn_Short⟩
 have xn:∀s,W6 i=some s->W.findIn K (.ref (wF Zp Zy Zw Zv Zu Zq Zr i)) s=some none:=λs hs=>by
  match i,hi,hs with
  |4,_,hs=>cases hs;exact G.xn_NoWord_at
  |5,_,hs=>cases hs;exact G.xn_NoCut_terms
  |6,_,hs=>cases hs;exact G.xn_Short_flag
 obtain⟨Z,f0,f1,f2,f3,f4,f5,f6,f7,f8,f9,f10,fV,fx⟩:=kn;obtain⟨dx,b,hx,_,_⟩:=id hdk.dk;left;refine⟨x,dx,_,rfl,hx,dB,?_⟩;left;refine⟨x,t,dd,m,hs,f,ds,z,rfl,hdk,.inl ⟨i,v,hno,λo H1 s1 hxo=>?_⟩⟩;generalize wF Zp Zy Zw Zv Zu Zq Zr i=D0 at Z f0 f1 f2 f3 f4 f5 f6 f7 f8 f9 f10 fV fx xn ⊢;refine⟨fx,λea oe hcx hea=>?_⟩;have k2:=s1.trans (aE hea (.frz oe (pB ea (.ref D0) o)))
 have e2:(upd H1 ea (.frz oe (pB ea (.ref D0) o))) ea=some (.frz oe (pB ea (.ref D0) o)):=aG
 have x2:∀s,W6 i=some s->∃dy,o=some dy/\(upd H1 ea (.frz oe (pB ea (.ref D0) o))) dy=some (YL dy [(s,v)]):=λs hs=>by
  unfold XO at hxo;rw[hs]at hxo;obtain⟨dy,h1,h2⟩:=hxo;exact⟨dy,h1,aE hea _ _ _ h2⟩
 have hd2:∀dy,o=some dy->∃u,(upd H1 ea (.frz oe (pB ea (.ref D0) o))) dy=some u:=λdy hdy=>by
  cases e:W6 i with
  |none=>
   unfold XO at hxo;rw[e]at hxo;rw[hdy]at hxo;cases hxo
  |some s=>
   obtain⟨dz,h1,h2⟩:=x2 s e;rw[hdy]at h1;cases h1;exact⟨_,h2⟩
 generalize upd H1 ea (.frz oe (pB ea (.ref D0) o))=H2 at k2 e2 x2 hd2 ⊢;left;refine fA e2 hd2 Z rfl f0 ?_;left;refine fA e2 hd2 Z rfl f1 ?_;left;refine fA e2 hd2 Z rfl f2 ?_;left;refine fA e2 hd2 Z rfl f3 ?_;left;refine⟨za1,λp1 h1=>?_⟩
 have k3:=aE h1 (HO.lst [.bl (decide (i=0)),.bl (decide (i=1)),.bl (decide (i=2)),.bl (decide (i=3))])
 have l3:(upd H2 p1 (HO.lst [.bl (decide (i=0)),.bl (decide (i=1)),.bl (decide (i=2)),.bl (decide (i=3))])) p1=some (HO.lst [.bl (decide (i=0)),.bl (decide (i=1)),.bl (decide (i=2)),.bl (decide (i=3))]):=aG
 have e3:=k3 _ _ e2
 have hd3:∀dy,o=some dy->∃u,(upd H2 p1 (HO.lst [.bl (decide (i=0)),.bl (decide (i=1)),.bl (decide (i=2)),.bl (decide (i=3))])) dy=some u:=λdy hdy=>by
  obtain⟨u,hu⟩:=hd2 dy hdy;exact⟨u,k3 _ _ hu⟩
 generalize upd H2 p1 (HO.lst [.bl (decide (i=0)),.bl (decide (i=1)),.bl (decide (i=2)),.bl (decide (i=3))])=H3 at k3 l3 e3 hd3 ⊢;left;refine fA e3 hd3 Z rfl f4 ?_;left;refine fA e3 hd3 Z rfl f5 ?_;left;refine fA e3 hd3 Z rfl f6 ?_;left;refine fA e3 hd3 Z rfl f7 ?_;left;refine⟨za1,λp2 h2=>?_⟩
 refine eV (bO (aE h2 _ _ _ l3)) cX (by show 8<=sizeLine;decide) λp3 h3=>?_
 generalize hB8:([V.bl (decide (i=0)),V.bl (decide (i=1)),V.bl (decide (i=2)),V.bl (decide (i=3))]++[V.bl (decide (i=4)),V.bl (decide (i=5)),V.bl (decide (i=6)),V.bl false]:List V)=B8;have k4:=(aE h2 (HO.lst [V.bl (decide (i=4)),V.bl (decide (i=5)),V.bl (decide (i=6)),V.bl false])).trans (aE h3 (HO.lst B8))
 have l4:(upd (upd H3 p2 (HO.lst [V.bl (decide (i=4)),V.bl (decide (i=5)),V.bl (decide (i=6)),V.bl false])) p3 (HO.lst B8)) p3=some (HO.lst B8):=aG
 have keep:∀ {Ha Hb:Hp},Same Ha Hb->(∀dy,o=some dy->∃u,Ha dy=some u)->∀dy,o=some dy->∃u,Hb dy=some u:=λk h dy hdy=>by
  obtain⟨u,hu⟩:=h dy hdy;exact⟨u,k _ _ hu⟩
 have e4:=k4 _ _ e3
 have hd4:=keep k4 hd3
 have k24:=k2.trans (k3.trans k4)
 have k04:=k3.trans k4
 generalize upd (upd H3 p2 (HO.lst [V.bl (decide (i=4)),V.bl (decide (i=5)),V.bl (decide (i=6)),V.bl false])) p3 (HO.lst B8)=H4 at k4 l4 e4 hd4 k24 k04 ⊢;left;refine fA e4 hd4 Z rfl f8 ?_;left;refine fA e4 hd4 Z rfl f9 ?_;left;refine fA e4 hd4 Z rfl f10 ?_;left;refine⟨za0,λp5 h5=>?_⟩
 refine eV (bO (aE h5 _ _ _ l4)) cX (by rw[<-hB8];show 11<=sizeLine;decide) λp6 h6=>?_
 rw[show B8++[V.bl false,V.bl false,V.bl false]=(Xb i).map V.bl by rw[<-hB8];rfl]
 have k6:=(aE h5 (HO.lst [V.bl false,V.bl false,V.bl false])).trans (aE h6 (HO.lst ((Xb i).map V.bl)))
 have l6:(upd (upd H4 p5 (HO.lst [V.bl false,V.bl false,V.bl false])) p6 (HO.lst ((Xb i).map V.bl))) p6=some (HO.lst ((Xb i).map V.bl)):=aG
 have e6:=k6 _ _ e4
 have k26:=k24.trans k6
 have k06:=k04.trans k6
 generalize upd (upd H4 p5 (HO.lst [V.bl false,V.bl false,V.bl false])) p6 (HO.lst ((Xb i).map V.bl))=H6 at k6 l6 e6 k26 k06 ⊢;left;refine⟨by show 11<=sizeLine;decide,λp7 h7=>?_⟩
 have k7:=aE h7 (HO.lst (WZ.map V.str))
 have l7:(upd H6 p7 (HO.lst (WZ.map V.str))) p7=some (HO.lst (WZ.map V.str)):=aG
 change iT 5 (V.ref p7) _ (upd H6 p7 (HO.lst (WZ.map V.str))) _
 have e7:=k7 _ _ e6
 have l67:=k7 _ _ l6
 have k27:=k26.trans k7
 have k07:=k06.trans k7
 generalize upd H6 p7 (HO.lst (WZ.map V.str))=H7 at k7 l7 e7 l67 k27 k07 ⊢;left;refine DZ ?_;left;refine⟨⟨by decide,by decide⟩,⟨_,_,e7,hcx⟩,?_⟩
 refine ID (n:=11) (SD i) (by decide) (λk Hc A B hk sm hA hB=>?_) (λD H8 hD sD hd=>?_)
 .have rB:=aO (sm _ _ l67)
  have rN:=aO (sm _ _ l7)
  have aB:YJ ((Xb i).map V.bl) (k:Int)=some (.bl ((Xb i).getD k false)):=aX (by rw[Ae,Ah,Aa (show k<(Xb i).length from hk)];rfl)
  have aN:YJ (WZ.map V.str) (k:Int)=some (.str (WZ.getD k (Str.ofString ""))):=aX (by rw[Ae,Ah,Aa (show k<WZ.length from hk)];rfl)
  rw[Int.zero_add];unfold SD at hA hB;left;refine⟨Wk.set rfl (Wk.refl _),?_⟩;left;refine cA rB aB ?_;cases e:(Xb i).getD k false with
  |true=>
   rw[e,if_pos rfl]at hA;left;refine cA rN aN ?_;exact hA _ rfl _ (Same.refl _)
  |false=>
   rw[e,if_neg Aq]at hB;left;exact hB rfl _ (Same.refl _)
 rw[Me i hi]at hd;have rd8:=aO hd
 have k28:=k27.trans sD
 have k08:=k07.trans sD
 have e8:=sD _ _ e7
 have hd8:=keep k08 hd2
 left;rw[Ao (show ((([V.str (kN i)]:List V).length:Nat):Int)=1 from rfl)];left;refine fA e8 hd8 Z rfl fV ?_;left;refine cA rd8 (v:=.str (kN i)) (aX (j:=0) rfl) ?_;left;refine⟨r0,λp9 h9=>?_⟩
 have k9:=aE h9 (HO.lst [V.str (kN i),V.non])
 have l9:(upd H8 p9 (HO.lst [V.str (kN i),V.non])) p9=some (HO.lst [V.str (kN i),V.non]):=aG
 have e9:=k9 _ _ e8
 have k29:=k28.trans k9
 have k09:=k08.trans k9
 have hd9:=keep k09 hd2
 have hp9:H p9=none:=none_of k28 h9
 generalize upd H8 p9 (HO.lst [V.str (kN i),V.non])=H9 at k9 l9 e9 k29 k09 hd9 ⊢;have x9:∀s,W6 i=some s->∃dy,o=some dy/\H9 dy=some (YL dy [(s,v)]):=λs hs=>by
  obtain⟨dy,h1,h2⟩:=x2 s hs;exact⟨dy,h1,k09 _ _ h2⟩
 have fin:∀s,W6 i=some s->Q (.ref p9) (upd H9 p9 (.lst [V.str (kN i),v])):=λs hs=>q p9 _ hp9 (bQ hp9 k29) aG
 left;refine fA e9 hd9 Z rfl f4 ?_;by_cases h4:i=4
 .subst h4;rw[Ao rfl];left;obtain⟨dy,h1,h2⟩:=x9 _ rfl;subst h1;refine⟨ea,D0,dy,_,v,oe,rfl,e9,h2,Z,xn _ rfl,rfl,?_⟩;left;refine UY (o:=V.non) (bO l9) (k:=1) rfl ?_;left;exact fin _ rfl
 rw[An h4];left;refine fA e9 hd9 Z rfl f5 ?_;by_cases h5:i=5
 .subst h5;rw[Ao rfl];left;obtain⟨dy,h1,h2⟩:=x9 _ rfl;subst h1;refine⟨ea,D0,dy,_,v,oe,rfl,e9,h2,Z,xn _ rfl,rfl,?_⟩;left;refine UY (o:=V.non) (bO l9) (k:=1) rfl ?_;left;exact fin _ rfl
 rw[An h5];left;refine fA e9 hd9 Z rfl f6 ?_;by_cases h6:i=6
 .subst h6;rw[Ao rfl];left;obtain⟨dy,h1,h2⟩:=x9 _ rfl;subst h1;refine⟨ea,D0,dy,_,v,oe,rfl,e9,h2,Z,xn _ rfl,rfl,?_⟩;left;refine UY (o:=V.non) (bO l9) (k:=1) rfl ?_;left;exact fin _ rfl
 rw[An h6];left;have hv':v=.non:=hv (by
  match i,hi,h4,h5,h6 with
  |0,_,_,_,_=>rfl
  |1,_,_,_,_=>rfl
  |2,_,_,_,_=>rfl
  |3,_,_,_,_=>rfl)
 rw[hv']at q;exact q p9 _ hp9 k29 l9
noncomputable def S0(z:Str)(r:List Str):Bool:=decide (z.length<=900)&&(r.all λy=>decide (y.length<=900))&&decide (r.length<=100)&&decide ((Txt.join " " r).length<=1000)
noncomputable def QU(m:Nat)(x y:Str)(i:Nat):Bool:=decide (y.length<=1000)&&match pS x with
 |none=>decide (i=1)
 |some n=>if n<m then decide (i=4) && !V0 y else decide (i=1)
noncomputable def RB(m:Nat)(x:Str)(i:Nat):Bool:=decide (i=1)&&match pS x with
 |none=>true
 |some n=>!decide (n<m)
noncomputable def Qg(w:Str)(r:List Str)(i:Nat):Bool:=
 if w=Str.ofString "sight" then decide (r=[r.getD 0 ""])&&rP (r.getD 0 "")&&decide (i=3)
 else if w=Str.ofString "check" then decide (r=[r.getD 0 ""])&&pX (r.getD 0 "")&&decide (i=4)
 else decide (w=Str.ofString "cut")&&decide (1<=r.length) && !oE (Txt.join " " r) 40&&decide (i=3)
noncomputable def Sh(m:Nat)(w:Str)(r:List Str)(i:Nat):Bool:=
 if iX w r=false then decide (i=0) else
 if w=Str.ofString "haul" then QU m (r.getD 0 "") (r.getD 1 "") i
 else if w=Str.ofString "lower" then RB m (r.getD 0 "") i
 else if w=Str.ofString "lose"\/w=Str.ofString "find" then !cV (r.getD 0 "")&&decide ((r.getD 0 "").length<=1000)&&decide (i=2)
 else if w=Str.ofString "say" then !oE (Txt.join " " r) 40&&decide (i=3)
 else Qg w r i
noncomputable def SO(m:Nat)(z:Str)(i:Nat):Bool:=match Txt.split z " " with
 |[]=>false
 |w::r=>S0 z r&&Sh m w r i
def PD{f:Nat->Option Int}(h:SO m z i=true)(t:i=4->v=.int 0):Vk m f z i v:=by
 unfold SO at h;cases o:Txt.split z " " with
 |nil=>rw[o]at h;cases h
 |cons w r=>
  rw[o]at h;replace h:(S0 z r&&Sh m w r i)=true:=h
  rw[Bj]at h;obtain⟨d,a⟩:=h;have s:Y4 z w r:=by
   unfold S0 at d;rw[Bj,Bj,Bj,Bh,Bh,Bh,Bv]at d;exact⟨o,d.1.1.1,(λy l=>Aw (d.1.1.2 y l)),d.1.2,d.2⟩
  refine⟨w,r,s,?_⟩;unfold Sh at a;cases u:iX w r with
  |false=>rw[if_pos u]at a;exact .inl ⟨rfl,Aw a⟩
  |true=>
   rw[if_neg (by rw[u];decide)]at a
   refine .inr ⟨rfl,?_⟩;by_cases g:w=Str.ofString "haul"
   .rw[if_pos g]at a;unfold QU at a;rw[Bj,Bh]at a;obtain⟨l,a⟩:=a;have b:cT w r=(pS (r.getD 0 "")).map λn=>some [.str w,.int ((n:Nat):Int),.str (r.getD 1 "")]:=by unfold cT;rw[if_pos g]
    cases e:pS (r.getD 0 "") with
    |none=>
     rw[e]at a b;exact .inl ⟨b,Aw a⟩
    |some n=>
     rw[e]at a b;replace a:(if n<m then decide (i=4) && !V0 (r.getD 1 "") else decide (i=1))=true:=a
     refine .inr (.inl ⟨.haul n (r.getD 1 ""),by rw[b,g];rfl,l,?_⟩)
     by_cases x:n<m
     .rw[if_pos x,Bj,Bh,Fi]at a;exact .inr ⟨a.1,t a.1,by ((try clear a l);omega),a.2⟩
     .rw[if_neg x]at a;exact .inl ⟨Aw a,by ((try clear l);omega)⟩
   rw[if_neg g]at a;by_cases j:w=Str.ofString "lower"
   .rw[if_pos j]at a;unfold RB at a;rw[Bj,Bh]at a;obtain⟨A,a⟩:=a;have b:cT w r=(pS (r.getD 0 "")).map λn=>some [.str w,.int ((n:Nat):Int)]:=by unfold cT;rw[if_neg g,if_pos j]
    cases e:pS (r.getD 0 "") with
    |none=>rw[e]at b;exact .inl ⟨b,A⟩
    |some n=>
     rw[e]at a b;replace a:(!decide (n<m))=true:=a
     rw[Fi,decide_eq_false_iff_not]at a;exact .inr (.inl ⟨.lower n,by rw[b,j];rfl,trivial,A,by ((try clear A);omega)⟩)
   rw[if_neg j]at a;by_cases c:w=Str.ofString "lose"\/w=Str.ofString "find"
   .rw[if_pos c,Bj,Bj,Bh,Bh,Fi]at a;obtain⟨⟨B,d⟩,rfl⟩:=a;have b:cT w r=some (some [.str w,.str (r.getD 0 "")]):=by unfold cT;rw[if_neg g,if_neg j,if_pos c]
    rcases c with c|c
    .exact .inr (.inl ⟨.lose (r.getD 0 ""),by rw[b,c];rfl,d,.inl ⟨rfl,B⟩⟩)
    .exact .inr (.inl ⟨.find (r.getD 0 ""),by rw[b,c];rfl,d,rfl,B⟩)
   rw[if_neg c]at a;by_cases k:w=Str.ofString "say"
   .rw[if_pos k,Bj,Bh,Fi]at a;have b:cT w r=some (some [.str w,.str (Txt.join " " r)]):=by unfold cT;rw[if_neg g,if_neg j,if_neg c,if_pos k]
    exact .inr (.inl ⟨.say (Txt.join " " r),by rw[b,k];rfl,s.jl,.inl ⟨a.2,a.1⟩⟩)
   rw[if_neg k]at a;have b:cT w r=some none:=by unfold cT;rw[if_neg g,if_neg j,if_neg c,if_neg k]
   refine .inr (.inr ⟨b,?_⟩);unfold Qg at a;by_cases q:w=Str.ofString "sight"
   .rw[if_pos q,Bj,Bj,Bh,Bh]at a;exact .inl ⟨_,q,a.1.1,a.1.2,a.2⟩
   rw[if_neg q]at a;by_cases p:w=Str.ofString "check"
   .rw[if_pos p,Bj,Bj,Bh,Bh]at a;exact .inr (.inl ⟨_,p,a.1.1,a.1.2,a.2,t a.2⟩)
   rw[if_neg p,Bj,Bj,Bj,Bh,Bh,Bh,Fi]at a;exact .inr (.inr ⟨a.1.1.1,a.1.1.2,.inl ⟨a.2,a.1.2⟩⟩)
noncomputable def vB(i:Nat):V->Bool
 |.non=>decide (i<4)
 |.int n=>decide (i=4)&&decide (n=0)
 |_=>false
noncomputable def V5(m:Nat)(x:Rw):Bool:=SO m x.1 x.2.1&&vB x.2.1 x.2.2
def Ub(m:Nat)(f:Nat->Option Int)(x:Rw):Prop:=x.2.1<7/\Vk m f x.1 x.2.1 x.2.2/\(W6 x.2.1=none->x.2.2=.non)/\cQ x.2.2=true
def UH{f:Nat->Option Int}{x:Rw}(h:V5 m x=true):Ub m f x:=by
 obtain⟨z,i,v⟩:=x;unfold V5 at h;rw[Bj]at h;obtain⟨b,a⟩:=h
 replace a:vB i v=true:=a
 cases v with
 |non=>
  have c:=Aw a
  exact⟨by show i<7;(exact Nat.le_trans (by assumption) (by decide)),PD b (λe=>absurd (show i=4 from e) (Bb c)),λ_=>rfl,rfl⟩
 |int n=>
  replace a:(decide _&&decide _)=true:=a
  rw[Bj,Bh,Bh]at a;obtain⟨rfl,rfl⟩:=a;exact⟨by show 4<7;decide,PD b (λ_=>rfl),(λe=>nomatch e),rfl⟩
 |_=>cases a
def Nm:VH (Txt.join " " [Str.ofString "up",Str.ofString "upon"]) 5 (.int 1):=.inr ⟨rfl,[[117,112],[117,112,111,110]],1,rfl,by right,by decide,by decide,by unfold fX vQ;decide,by unfold VJ WU;right⟩
def JX:VH (Txt.join " " [Str.ofString "up",Str.ofString "up",Str.ofString "nothing"]) 5 (.int 2):=.inr ⟨rfl,[[117,112],[117,112],[110,111,116,104,105,110,103]],2,rfl,by right,by decide,by decide,by unfold fX vQ;decide,by unfold VJ WU;right⟩
def AA:VH (Txt.join " " [Str.ofString "zz"]) 5 (.int 0):=.inr ⟨rfl,[[122,122]],0,rfl,by right,by decide,by decide,by unfold fX vQ;decide,by unfold VJ WU;right⟩
def YW:¬Str.ofString "cut"=Str.ofString "haul"/\¬Str.ofString "cut"=Str.ofString "lower"/\¬(Str.ofString "cut"=Str.ofString "lose"\/Str.ofString "cut"=Str.ofString "find")/\¬Str.ofString "cut"=Str.ofString "say" := by right
def NQ(r:List Str):cT "cut" r=some none:=by
 unfold cT;rw[if_neg YW.1,if_neg YW.2.1,if_neg YW.2.2.1,if_neg YW.2.2.2]
def NL(r:List Str):cT "say" r=some (some (Dd.vs (.say (Txt.join " " r)))):=by
 rfl
def Qd(y:Str):cT "lose" [y]=some (some (Dd.vs (.lose y))):=by
 rfl
def PZ(y:Str):cT "find" [y]=some (some (Dd.vs (.find y))):=by
 rfl
def LS:cT "lower" [Str.ofString "0"]=some (some (Dd.vs (.lower 0))):=by
 have q:¬Str.ofString "lower"=Str.ofString "haul" := by right
 have e:pS "0"=some 0:=by right
 unfold cT;rw[if_neg q,if_pos rfl,show ([Str.ofString "0"]:List Str).getD 0 ""=Str.ofString "0" from rfl,e];rfl
def JL{f:Nat->Option Int}:∀x∈VU,Ub m f x:=λx a=>by
 rcases Ba.mp a with rfl|a
 .exact⟨by decide,⟨Str.ofString "cut",_,⟨show Txt.split _ _=_::[Str.ofString "up",Str.ofString "upon"] by right,by right,by right,by decide,by right⟩,.inr ⟨by right,.inr (.inr ⟨NQ _,.inr (.inr ⟨rfl,by decide,Nm⟩)⟩)⟩⟩,(λe=>nomatch e),rfl⟩
 rcases Ba.mp a with rfl|a
 .exact⟨by decide,⟨Str.ofString "say",_,⟨show Txt.split _ _=_::[Str.ofString "up",Str.ofString "up",Str.ofString "nothing"] by right,by right,by right,by decide,by right⟩,.inr ⟨by right,.inr (.inl ⟨.say _,NL _,by show Str.length _<=1000;right,JX⟩)⟩⟩,(λe=>nomatch e),rfl⟩
 obtain rfl:=Ak.mp a;exact⟨by decide,⟨Str.ofString "cut",_,⟨show Txt.split _ _=_::[Str.ofString "zz"] by right,by right,by right,by decide,by right⟩,.inr ⟨by right,.inr (.inr ⟨NQ _,.inr (.inr ⟨rfl,by decide,AA⟩)⟩)⟩⟩,(λe=>nomatch e),rfl⟩
def DR{f:Nat->Option Int}(h:cntF f 119<=0):Ub m f ("lose w",6,.str "w"):=⟨by decide,⟨Str.ofString "lose",_,⟨show Txt.split _ _=_::[Str.ofString "w"] by right,by right,by right,by decide,by right⟩,.inr ⟨by right,.inr (.inl ⟨.lose "w",Qd _,by show Str.length _<=1000;right,.inr ⟨rfl,rfl,119,by right,by decide,h⟩⟩)⟩⟩,(λe=>nomatch e),rfl⟩
noncomputable def R1(m:Nat):List Rw:=(((((Z3.map λz=>((z,0,V.non):Rw))++((lJ m).map VL).flatten++YU.map λz=>((z,2,V.non):Rw))++YS.map λz=>(("sight " ++ z,3,V.non):Rw))++YR.map λz=>(("haul 0 " ++ z,4,V.int 0):Rw))++YT.map λz=>(("check " ++ z,4,V.int 0):Rw))
def Jc:∀m,m<7->1<=m->(R1 m).all (V5 m)=true:=by right
def GP{f:Nat->Option Int}(h1:1<=m)(c:m<=6)(b:cntF f 119<=0):∀x∈uB m,Ub m f x:=λx a=>by
 replace a:x∈((R1 m++VU)++UP)++[(WS,3,.non)]:=a
 rcases Ce.mp a with a|a
 .rcases Ce.mp a with a|a
  .rcases Ce.mp a with a|a
   .exact UH (Bv.mp (Jc m (by (exact Nat.lt_of_le_of_lt (by assumption) (by decide))) h1) x a)
   .exact JL x a
  .rcases Ba.mp a with rfl|a
   .exact UH ((by right:∀m,m<7->V5 m ("cut Up",3,.non)=true) m (by (exact Nat.lt_of_le_of_lt (by assumption) (by decide))))
   rcases Ba.mp a with rfl|a
   .exact UH ((by right:∀m,m<7->V5 m ("say up.",3,.non)=true) m (by (exact Nat.lt_of_le_of_lt (by assumption) (by decide))))
   obtain rfl:=Ak.mp a;exact DR b
 .obtain rfl:=Ak.mp a;exact UH ((by right:∀m,m<7->V5 m (WS,3,.non)=true) m (by (exact Nat.lt_of_le_of_lt (by assumption) (by decide))))
def sZ(m:Nat):(uB m).length=72:=rfl
def A_(ns:List Int)(c m:Int)(h:0<=c)(d:0<=m):∃e:List Int,lU (ns.map V.int) (some c) (some (c+m))=e.map V.int/\e.length<=m.toNat:=by
 refine⟨(ns.drop (min c.toNat ns.length)).take (min (c+m).toNat ns.length-min c.toNat ns.length),?_,?_⟩
 .unfold lU;rw[Fo,Gd];show ((ns.map V.int).drop (if c<0 then (c+((ns.map V.int).length:Int)).toNat else min c.toNat (ns.map V.int).length)).take ((if c+m<0 then (c+m+((ns.map V.int).length:Int)).toNat else min (c+m).toNat (ns.map V.int).length)-(if c<0 then (c+((ns.map V.int).length:Int)).toNat else min c.toNat (ns.map V.int).length))=_
  rw[if_neg (Int.not_lt.mpr h),if_neg (Int.not_lt.mpr (Int.add_nonneg h d)),Ac]
 .rw[Bi,Int.toNat_add h d];refine Cd (Nat.min_le_left ..) ?_;generalize c.toNat=a;generalize m.toNat=b;generalize ns.length=L;clear h d;omega
def gP{k:Int}(h:n c<=k)(a:0<=k):cntF (bK n) c<=k:=by
 unfold cntF bK;split
 .exact h
 .exact a
def gS(cs:List Nat)(c:Nat):0<=cnt cs c/\cnt cs c<=(cs.length:Int):=by
 unfold cnt;grind
noncomputable def XX(m:Nat):List (Option (List Nat)):=some ZX::List.replicate (m-1) none
noncomputable def F1:Nat->Option Int:=bK λd=>cntF (bK λd=>cntF F0 d+cnt [] d) d-cnt ZX d
noncomputable def F2:Nat->Option Int:=bK λd=>cntF F1 d+cnt [99] d
noncomputable def F3:Nat->Option Int:=bK λd=>cntF F2 d-cnt [99] d
noncomputable def F4:Nat->Option Int:=bK λd=>cntF F2 d+cnt ZX d
def SI(c:Nat):cntF F1 c<=XW c:=by
 have h:=fL c
 refine gP ?_ h.1;have a:cntF (bK λd=>cntF F0 d+cnt [] d) c<=XW c:=gP (by have:=(QQ c).2;show cntF F0 c+0<=_;((try clear h);omega)) h.1
 have:=(gS ZX c).1
 ((try clear h);omega)
def Uo(c:Nat):cntF F2 c<=XW c+cnt [99] c:=by
 have h:=fL c
 have a:=(gS [99] c).1
 exact gP (by have:=SI c;((try clear a h);omega)) (by omega)
def Ti(c:Nat):cntF F3 c<=XW c:=by
 have h:=fL c
 exact gP (by have:=Uo c;((try clear h);omega)) h.1
def Ou(c:Nat):cntF F4 c<=XW c+cnt [99] c+cnt ZX c:=by
 have h:=fL c
 have b:=(gS [99] c).1
 have a:=(gS ZX c).1
 exact gP (by have:=Uo c;((try clear a b h);omega)) (by omega)
def DP:∀c∈ZX,0<cntF F0 c:=λc e=>by
 have f:∀c∈ZX,fU c/\0<XW c:=by unfold fU;decide
 obtain⟨b,a⟩:=f c e;have d:=fD  b (Int.le_of_lt a)
 show 0<cntF (bK _) c
 rwa[fD b (by rw[d];exact Int.le_of_lt a),d]
def MJ:0<cntF F2 99:=by
 have a:0<=cntF F1 99:=eG _ _
 have e:cnt [99] 99=1:=by decide
 show 0<cntF (bK λd=>cntF F1 d+cnt [99] d) 99
 rw[fD (by unfold fU;decide) (by grind),e]
 (assumption)
def gD:∀m,m<7->1<=m->bY (List.replicate m none) (List.range (List.replicate m (none:Option (List Nat))).length)=[]/\bY (XX m) (List.range (XX m).length)=ZX/\bY (XX m) [0]=ZX/\bY (List.replicate m none) [0]=[]/\(XX m).set 0 none=List.replicate m none/\(List.replicate m none).set 0 none=List.replicate m (none:Option (List Nat))/\(XX m).length=m/\some ZX::List.replicate ((List.replicate m (none:Option (List Nat))).length-1) none=XX m:=λm a b=>by
 match m,a,b with
 |1,_,_=>exact⟨rfl,rfl,rfl,rfl,rfl,rfl,rfl,rfl⟩
 |2,_,_=>exact⟨rfl,rfl,rfl,rfl,rfl,rfl,rfl,rfl⟩
 |3,_,_=>exact⟨rfl,rfl,rfl,rfl,rfl,rfl,rfl,rfl⟩
 |4,_,_=>exact⟨rfl,rfl,rfl,rfl,rfl,rfl,rfl,rfl⟩
 |5,_,_=>exact⟨rfl,rfl,rfl,rfl,rfl,rfl,rfl,rfl⟩
 |6,_,_=>exact⟨rfl,rfl,rfl,rfl,rfl,rfl,rfl,rfl⟩
def TM{n:Nat}(h:0<n):∃j:Nat,c%(n:Int)=(j:Int)/\j<n:=by
 have b:=Int.emod_nonneg c (show (n:Int)≠0 by omega)
 have a:=Int.emod_lt_of_pos c (show _<(n:Int) by (exact Int.ofNat_le.mpr (by assumption)))
 exact⟨(c%(n:Int)).toNat,by ((try clear a h);omega),by ((try clear h);omega)⟩
def Yi:Y4 "say up" "say" [Str.ofString "up"]/\iX "say" [Str.ofString "up"]=true/\Txt.join " " [Str.ofString "up"]=eL [[117,112]]:=⟨⟨by right,by right,by right,by decide,by right⟩,by right,by right⟩
def Y7:Y4 "find c" "find" [Str.ofString "c"]/\iX "find" [Str.ofString "c"]=true/\Str.ofString "c"=one 99:=⟨⟨by right,by right,by right,by decide,by right⟩,by right,by right⟩
def Yo:Y4 "lose c" "lose" [Str.ofString "c"]/\iX "lose" [Str.ofString "c"]=true:=⟨⟨by right,by right,by right,by decide,by right⟩,by right⟩
def Ya:Y4 "lower 0" "lower" [Str.ofString "0"]/\iX "lower" [Str.ofString "0"]=true:=⟨⟨by right,by right,by right,by decide,by right⟩,by right⟩
def YN:Y4 "find a" "find" [Str.ofString "a"]/\iX "find" [Str.ofString "a"]=true/\Str.ofString "a"=one 97:=⟨⟨by right,by right,by right,by decide,by right⟩,by right,by right⟩
structure Yn (z:Str) (hs:List (Option (List Nat))) (f:Nat->Option Int) (hs':List (Option (List Nat))) (f':Nat->Option Int) (d:Dd):Prop where
 row:∃w r,Y4 z w r/\iX w r=true/\cT w r=some (some d.vs)
 zl:d.zl
 rl:d.rl
 zt:d.XB hs f hs' f'
 len:hs'.length=hs.length
 le:∀c,cntF f' c<=99
def Kf(h1:1<=m)(e:m<=6):Yn "say up" (List.replicate m none) F0 (XX m) F1 (.say (Txt.join " " [Str.ofString "up"])):=by
 obtain⟨d,j,i,h,g,f,b,a⟩:=gD m (by (exact Nat.lt_of_le_of_lt (by assumption) (by decide))) h1
 refine⟨⟨_,_,Yi.1,Yi.2.1,NL _⟩,by show Str.length _<=1000;right,by show Str.length _<=1000;right,⟨Yi.2.2,d,by rwa[Ca],DP,a.symm,rfl⟩,by rw[b,Ca],λc=>?_⟩
 have:=SI c
 have:=fL c
 ((try clear b e h1);omega)
def K1(h1:1<=m)(b:m<=6):Yn "find c" (XX m) F1 (XX m) F2 (.find "c"):=by
 obtain⟨j,a,i,h,g,f,e,d⟩:=gD m (by (exact Nat.lt_of_le_of_lt (by assumption) (by decide))) h1
 refine⟨⟨_,_,Y7.1,Y7.2.1,PZ _⟩,by show Str.length _<=1000;right,by show Str.length _<=1000;right,⟨99,Y7.2.2,by unfold fU;decide,?_,rfl,rfl⟩,rfl,λc=>?_⟩
 .rw[a];have:=SI 99
  have:=fL 99
  have:=(gS ZX 99).2
  have:(ZX.length:Int)=3:=rfl
  (exact Int.natCast_nonneg _)
 .have:=Uo c
  have:=fL c
  have:=(gS [99] c).2
  grind
def DW:Yn "lose c" (XX m) F2 (XX m) F3 (.lose "c"):=by
 refine⟨⟨_,_,Yo.1,Yo.2,Qd _⟩,by show Str.length _<=1000;right,by show Str.length _<=1000;right,⟨99,Y7.2.2,by unfold fU;decide,MJ,rfl,rfl⟩,rfl,λc=>?_⟩
 have:=Ti c
 have:=fL c
 omega
def T5(m:Nat)(hs:List (Option (List Nat)))(f:Nat->Option Int):Prop:=(hs=XX m\/hs=List.replicate m none)/\(∀c,cntF f c<=6)/\cntF f 119<=0
def P6(h1:1<=m)(p:m<=6){f:Nat->Option Int}(h:hs=XX m\/hs=List.replicate m none)(g:∀c,cntF f c<=6):Yn "lower 0" hs f (List.replicate m none) (bK λd=>cntF f d+cnt (bY hs [0]) d) (.lower 0):=by
 obtain⟨s,r,n,l,k,j,i,q⟩:=gD m (by (exact Nat.lt_of_le_of_lt (by assumption) (by decide))) h1
 have b:hs.length=m:=by grind
 have a:hs.set 0 none=List.replicate m none:=by grind
 have e:(bY hs [0]).length<=3:=by
  rcases h with rfl|rfl
  .rw[n];decide
  .rw[l];decide
 refine⟨⟨_,_,Ya.1,Ya.2,LS⟩,trivial,rfl,⟨0,rfl,by ((try clear e);omega),a.symm,rfl⟩,by rw[Ca,b],λc=>?_⟩
 have o:=(gS (bY hs [0]) c).2
 exact gP (by have:=g c;((try clear b h1 i p);omega)) (by decide)
def FN:T5 m (XX m) F3:=by
 refine⟨.inl rfl,λc=>?_,?_⟩
 .have:=Ti c
  have:=fL c
  omega
 .have:=Ti 119
  have:XW 119=0:=by decide
  (assumption)
def MB:T5 m (List.replicate m none) F4:=by
 refine⟨.inr rfl,λc=>?_,?_⟩
 .have:=Ou c
  have:=fL c
  have:=(gS [99] c).2
  have:=(gS ZX c).2
  have:(ZX.length:Int)=3:=rfl
  grind
 .have:=Ou 119
  have e:XW 119+cnt [99] 119+cnt ZX 119=0:=by decide
  (assumption)
def Ng(h1:1<=m)(h:m<=6){f:Nat->Option Int}(b:∀c,cntF f c<=60):Yn "find a" (List.replicate m none) f (List.replicate m none) (bK λd=>cntF f d+cnt [97] d) (.find "a"):=by
 obtain⟨e,p,o,n,l,k,j,i⟩:=gD m (by (exact Nat.lt_of_le_of_lt (by assumption) (by decide))) h1
 refine⟨⟨_,_,YN.1,YN.2.1,PZ _⟩,by show Str.length _<=1000;right,by show Str.length _<=1000;right,⟨97,YN.2.2,by unfold fU;decide,?_,rfl,rfl⟩,rfl,λc=>?_⟩
 .rw[e];have:=b 97
  show cntF f 97+0<99
  ((try clear h h1 j);omega)
 .have:=b c
  have g:=(gS [97] c).2
  exact gP (by grind) (by decide)
def qQ(d:H p=some (.lst (zs.map V.str)))(c:H q=some (.lst (zs.map V.str))):VB H 1 (.ref p) (.ref q):=.inr ⟨p,q,rfl,rfl,.inl ⟨_,_,aO d,aO c,rfl,λj x y a b=>by
 rw[a]at b;cases b;rw[Ae]at a;obtain⟨z,_,rfl⟩:=Bk.mp a;exact⟨rfl,.inl rfl⟩⟩⟩
def YG(H:Hp)(p:Addr)(hs:List (Option (List Nat)))(f:Nat->Option Int)(ds:List Dd):Prop:=∃d c b a,H p=some (.lst [.ref d,.ref c,.ref b,.ref a])/\H d=some (.lst ((tellS hs f ds "halyards").map V.str))/\H c=some (.lst ((tellS hs f ds "locker").map V.str))/\H b=some (.lst ((tellS hs f ds "log").map V.str))/\H a=some (.lst ((tellS hs f ds "read").map V.str))
def YG.keep{H:Hp}{f:Nat->Option Int}{ds:List Dd}(h:YG H p hs f ds)(s:Same H H'):YG H' p hs f ds:=by
 obtain⟨d,c,b,a,k,j,i,g,e⟩:=h;exact⟨d,c,b,a,s _ _ k,s _ _ j,s _ _ i,s _ _ g,s _ _ e⟩
def Y5.UU{f:Nat->Option Int}{a:List Addr}{ds:List Dd}(t:Y5 C Pt H x b s0 st hg dd dx m hs f a ds)(s:ZT Pt H H')(l:eZ Pt H'):Y5 C Pt H' x b s0 st hg dd dx m hs f a ds:=⟨Yb s t.lam t.ins (λ_=>nofun),Qq t.tw s t.lam,t.len,t.six,Vq t.U_ s t.lam,Yb s t.lam t.log (λ_=>nofun),t.WI,λj p d c e=>Yb s t.lam (t.Ul j p d c e) (λ_=>nofun),t.Te,t.VN,l⟩
def Sy(j m:Nat)(hs:List (Option (List Nat)))(f:Nat->Option Int):Prop:=(j=0/\hs=List.replicate m none/\f=F0)\/(j=1/\hs=XX m/\f=F1)\/(j=2/\hs=XX m/\f=F2)\/(j=3/\T5 m hs f)
def JW{f:Nat->Option Int}{e:Str}(h1:1<=m)(g:m<=6)(k:e=Str.ofString "lose c"\/e=Str.ofString "lower 0")(b:([Str.ofString "say up",Str.ofString "find c",e]:List Str)[j]?=some z)(h:Sy j m hs f):∃d a i,Yn z hs f a i d/\Sy (j+1) m a i:=by
 rcases h with⟨rfl,rfl,rfl⟩|⟨rfl,rfl,rfl⟩|⟨rfl,rfl,rfl⟩|⟨rfl,_⟩
 .cases b;exact⟨_,_,_,Kf h1 g,.inr (.inl ⟨rfl,rfl,rfl⟩)⟩
 .cases b;exact⟨_,_,_,K1 h1 g,.inr (.inr (.inl ⟨rfl,rfl,rfl⟩))⟩
 .cases b;rcases k with rfl|rfl
  .exact⟨_,_,_,DW,.inr (.inr (.inr ⟨rfl,FN⟩))⟩
  .refine⟨_,_,_,P6 h1 g (f:=F2) (.inl rfl) (λc=>?_),.inr (.inr (.inr ⟨rfl,?_⟩))⟩
   .have:=Uo c
    have:=fL c
    have:=(gS [99] c).2
    grind
   .rw[(gD m (by (exact Nat.lt_of_le_of_lt (by assumption) (by decide))) h1).2.2.1]
    exact MB
 .cases b
def y4:Z_ ["_law_script", "_law_many", "_law_desk", "_law_row", "_law_rows_here", "_law_before", "_law_cell_here", "_law_kind_here", "_law_field"] ["_law_script"] (aJ vS):=by fail "sc"
def HW(F:ZQ K "law" "law" vS f fd)(q8:Vw ZO P w K mg base 6 Z1 ["self", "book_text", "locker_text", "many"] (kM Z1 Z0))(q7:ZM P w K mg base 1 "_law_rows" ["_law_many"] Qe)(y2:yH (Zb P w) P w K mg base 10 Z1 "say" ["self", "row"] (mP Z1 Z0 Pt Zp Zy Zw Zv Zu Zq Zr))(o0:ZM P w K mg base 1 "_law_cell" ["_law_script", "_law_k"] (O1 K))(q6:ZM P w K mg base 12 "_law_kind" ["_law_desk", "_law_row"] (zO Z1 Z0 Pt)):Z9 P w K mg base ZO 13 f fd ["_law_script"] (UN K Pt):=by
 refine F.ok y4 (λvs H Q E h=>?_) (λcdv A r4 s H vs Q E p h=>?_)
 .obtain⟨a,ns,rfl,_⟩:=h;rfl
 obtain⟨a,ns,rfl,hS,hnl,p5,q⟩:=h;refine⟨_,(@aH _ _ _ _ _ (aY 1 y4.nd (cH cL aM (cH Vv (bF o0 p (by decide) rfl (aA (mv 0) (aA aM aD))) aM))) (@aH _ _ _ _ _ (aY 2 y4.nd (OD q8 p (by decide) rfl G.c_Desk (@aL _ _ _ _ _ _ (@aL _ _ _ _ _ _ (aA (mv 1) aD))))) (@aH _ _ _ _ _ (dY Bp rfl (bU (bI (@aL _ _ _ _ _ _ (@aL _ _ _ _ _ _ (aA (@bH _ _ _ _ _ _ _ bZ (bI (@aL _ _ _ _ _ _ (@aL _ _ _ _ _ _ aD))) (cH Vv (cH B6 (bF o0 p (by decide) rfl (aA (mv 0) (aA aM aD))) aM) aM) (λ_ _=>rfl)) aD))))) (bB (i:=3) y4.nd rfl (Or.inl rfl)) (@aI _ _ _ (bP (bD (JV p.ZF) (eF y2 G.ZV dC p (by decide) (mv 2) (aA (mv 3) aD)) (bI aD) (aZ _)) (@aI _ _ _ (aV lV)) bE))) (@aH _ _ _ _ _ (aY 4 y4.nd (bF q7 p (by decide) rfl (aA (mv 1) aD))) (@aH _ _ _ _ _ (aY 5 y4.nd (@bI _ _ _ _ (aA (eF y2 G.ZV dC p (by decide) (mv 2) (@aL _ _ _ _ _ _ aD)) (aA (eF y2 G.ZV dC p (by decide) (mv 2) (@aL _ _ _ _ _ _ aD)) (aA (eF y2 G.ZV dC p (by decide) (mv 2) (@aL _ _ _ _ _ _ aD)) (aA (eF y2 G.ZV dC p (by decide) (mv 2) (@aL _ _ _ _ _ _ aD)) aD)))))) (@aH _ _ _ _ _ (dY Bp rfl (bU (fR XI (mv 0) (eQ aM) (eQ aM))) (bB (i:=6) y4.nd rfl (Or.inl rfl)) (@aH _ _ _ _ _ (sJ (bH bZ (mv 4) (cH Vv (mv 6) (aP cK rfl G.b_len bR (aA (mv 4) aD))) (λ_ _=>rfl)) (C_ rfl (mK (bB (i:=3) y4.nd rfl (Or.inl rfl)) (mK (bB (i:=7) y4.nd rfl (Or.inl rfl)) (mK (bB (i:=8) y4.nd rfl (Or.inl rfl)) Ph))))) (@aH _ _ _ _ _ (bP (bD (Ta p.ZF) (bF q6 p (by decide) rfl (aA (mv 2) (aA (mv 3) aD))) (bI (aA (mv 7) (aA (mv 8) aD))) (aZ _)) (@aI _ _ _ (aV lV)) bE) (@aI _ _ _ (bP (bD (J3 p.units) (@bI _ _ _ _ (aA (eF y2 G.ZV dC p (by decide) (mv 2) (@aL _ _ _ _ _ _ aD)) (aA (eF y2 G.ZV dC p (by decide) (mv 2) (@aL _ _ _ _ _ _ aD)) (aA (eF y2 G.ZV dC p (by decide) (mv 2) (@aL _ _ _ _ _ _ aD)) (aA (eF y2 G.ZV dC p (by decide) (mv 2) (@aL _ _ _ _ _ _ aD)) aD))))) (mv 5) (aZ _)) (@aI _ _ _ (aV lV)) bE))))) (@aI _ _ _ (aV (pO (cZ (SM p.ZF) (eF y2 G.ZV dC p (by decide) (mv 2) (@aL _ _ _ _ _ _ aD)) (bI aD) (aZ _)) (pO (cZ (Tg p.ZF) (eF y2 G.ZV dC p (by decide) (mv 2) (@aL _ _ _ _ _ _ aD)) (bI (@aL _ _ _ _ _ _ (@aL _ _ _ _ _ _ (@aL _ _ _ _ _ _ aD)))) (aZ _)) (sB (cZ (SM p.ZF) (eF y2 G.ZV dC p (by decide) (mv 2) (@aL _ _ _ _ _ _ aD)) (bI aD) (aZ _))))))))))))),?_⟩
 have k3:eZ Pt H:=.inl p5
 left;refine⟨a,ns,0,rfl,hS,by decide,λn0=>?_⟩
 obtain⟨m0,em,hm0⟩:=TM (c:=n0) (n:=6) (by decide)
 obtain⟨m,T,a3,x9⟩:∃m:Nat,1<=m/\m<=6/\1+n0%6=(m:Int):=⟨m0+1,by ((try clear hm0 hnl);omega),by (assumption),by have:n0%6=(m0:Int):=em;((try clear hm0 hnl this);omega)⟩
 left;rw[x9];intro x dx hx n3 u9;have kx:=(aE n3 (.own x)).trans (aE (show (upd H dx (.own x)) x=none by rw[aK (Ne.symm u9)];exact hx) (.ins Z1 dx []))
 refine⟨Pt,x,dx,m,rfl,aG,T,a3,k3.keep kx,λt D H1 ht v5 j6 c3=>⟨rfl,?_⟩⟩;have s1:Same H H1:=λc o e=>j6 c o (λz=>by rw[Ak.mp z,hx]at e;cases e) (kx _ _ e)
 have x5:=s1.seq hS
 have u5:H t=none:=none_of kx ht
 have n8:H D=none:=none_of kx v5
 clear kx j6 hx n3;have k1:∀y,y≠t->y≠D->y≠Pt->y∉[t,D,Pt]:=λy h1 h2 h3 z=>by
  rcases Ba.mp z with z|z
  .exact h1 z
  .rcases Ba.mp z with z|z
   .exact h2 z
   .exact h3 (Ak.mp z)
 have n9:∀H',ZS [t,D,Pt] H1 H'->Y6 K H' a (ns.map V.int):=λH' sE=>by
  rcases hS with h|h
  .refine .inl (S1 sE (k1 a ?_ ?_ ?_) (h.elim (λe=>.inl (s1 _ _ e)) λ⟨o,e⟩=>.inr ⟨o,s1 _ _ e⟩))
   .rintro rfl;rcases h with h|⟨o,h⟩ <;> (rw[u5]at h;cases h)
   .rintro rfl;rcases h with h|⟨o,h⟩ <;> (rw[n8]at h;cases h)
   .rintro rfl;rcases h with h|⟨o,h⟩ <;> (rw[p5]at h;cases h)
  .exact .inr h
 left;refine⟨r0,λp2 m5=>?_⟩
 have k2:=aE m5 (.lst [V.str (Str.ofString "lose c"),V.str (Str.ofString "lower 0")])
 have e2:(upd H1 p2 (.lst [V.str (Str.ofString "lose c"),V.str (Str.ofString "lower 0")])) p2=some (.lst [V.str (Str.ofString "lose c"),V.str (Str.ofString "lower 0")]):=aG
 generalize upd H1 p2 (.lst [V.str (Str.ofString "lose c"),V.str (Str.ofString "lower 0")])=H2 at k2 e2 ⊢;left;refine⟨a,ns,0,rfl,k2.seq x5,by decide,λn1=>?_⟩
 left;obtain⟨j3,y3,v2⟩:=TM (c:=n1 / 6) (n:=2) (by decide)
 rw[show n1 / 6%2=(j3:Int) from y3];obtain⟨Y,r7,x6⟩:∃Y:Str,(Y=Str.ofString "lose c"\/Y=Str.ofString "lower 0")/\[V.str (Str.ofString "lose c"),V.str (Str.ofString "lower 0")][j3]?=some (V.str Y):=by
  match j3,v2 with
  |0,_=>exact⟨_,.inl rfl,rfl⟩
  |1,_=>exact⟨_,.inr rfl,rfl⟩
 refine cA (aO e2) (v:=.str Y) (aX x6) ?_;left;refine⟨za0,λpl h5=>?_⟩
 rw[show [V.str (Str.ofString "say up"),V.str (Str.ofString "find c"),V.str Y]=([Str.ofString "say up",Str.ofString "find c",Y]:List Str).map V.str from rfl];have kl:=k2.trans (aE h5 (.lst (([Str.ofString "say up",Str.ofString "find c",Y]:List Str).map V.str)))
 have el:(upd H2 pl (.lst (([Str.ofString "say up",Str.ofString "find c",Y]:List Str).map V.str))) pl=some (.lst (([Str.ofString "say up",Str.ofString "find c",Y]:List Str).map V.str)):=aG
 generalize upd H2 pl (.lst (([Str.ofString "say up",Str.ofString "find c",Y]:List Str).map V.str))=H3 at kl el ⊢;have c2:=c3.keep kl
 have j9:pl∉[t,D,Pt]:=by
  obtain⟨b',s0,st,hg,dt,p9,tw⟩:=c2.tw;refine k1 pl (λz=>?_) (λz=>?_) (λz=>?_)
  .have e:=tw.ins
   rw[<-z,el]at e;cases e
  .obtain⟨b2,z9,z7,hg2,dt2,z6,q9⟩:=c3.tw;have e:=k2 _ _ q9.log
   rw[<-z,h5]at e;cases e
  .obtain⟨tb,e⟩:=tw.lam.tb;rw[<-z,el]at e;cases e
 left;refine dU (xs:=([Str.ofString "say up",Str.ofString "find c",Y]:List Str).map V.str) (λj U H'=>∃(v3:Option V) (C:Q5) (f:Nat->Option Int) (I:List Dd),U=[some (.ref a),some (.int (m:Int)),some (.ref x),v3,none,none,none,none,none]/\ZS [t,D,Pt] H1 H'/\H' pl=some (.lst (([Str.ofString "say up",Str.ofString "find c",Y]:List Str).map V.str))/\Zc Z1 Z0 Pt H' x t D m C f I/\I.length=j/\Sy j m C f)
  ⟨_,_,_,[],rfl,.of kl,el,c2,rfl,.inl ⟨rfl,rfl,rfl⟩⟩ (λj U H' _ ⟨_,_,_,_,_,_,e,_⟩=>aO e) ?_ ?_
 .rintro j y U H4 S ⟨v3,C,f,I,rfl,c6,y1,M,c1,c8⟩;rw[Ae]at S;obtain⟨z,ez,rfl⟩:=Bk.mp S;have hj:j<3:=(Ag.mp ez).1
  obtain⟨d,k9,f',⟨⟨w',r',g9,g4,h8⟩,f8,g8,h9,b8,h7⟩,k8⟩:=JW T a3 r7 ez c8;obtain⟨B,b4,t1,_,_⟩:=id M.dk;left;refine⟨x,B,_,rfl,t1,dB,?_⟩;left;refine⟨x,t,D,m,C,f,I,z,rfl,M,.inr (.inr (.inr ⟨d,w',r',k9,f',g9,g4,h8,f8,g8,by ((try clear T a3 b8 em hm0 hnl u9 v2 x9 y3);omega),h9,b8,h7,λr5 H5 hr5 j5 l e5=>?_⟩))⟩
  left;refine⟨by decide,λp6 u8=>?_⟩
  have k6:=aE u8 (.lst [])
  refine KC (aQ k6 (aO e5)) bX ?_;left;exact⟨_,k9,f',I++[d],rfl,(c6.trans j5).trans (.of k6),k6 _ _ (j5 _ _ j9 y1),l.keep k6,by rw[Aj,c1];rfl,k8⟩
 .rintro U H4 ⟨v3,C,f,I,rfl,c6,_,M,c1,c8⟩;have L:T5 m C f:=by
   rcases c8 with⟨h,_⟩|⟨h,_⟩|⟨h,_⟩|⟨_,h⟩
   .cases h
   .cases h
   .cases h
   .exact h
  have p4:=n9 H4 c6
  replace c1:I.length=3:=c1
  clear c8 c6 j9 c2 el kl h5 n9 e2 k2 m5 c3;left;refine⟨m,rfl,a3,λrr H5 u6 s5 j7=>?_⟩;have l:=M.keep s5
  have p3:=s5.seq p4
  obtain⟨B,b4,a1,_,_⟩:=id l.dk;clear M p4 s5 u6;left;refine⟨x,B,_,rfl,a1,dB,?_⟩;left;refine⟨x,t,D,m,C,f,I,Str.ofString "halyards",rfl,l,.inr (.inl ⟨by right,λu1 Gu1 t9 j4 O=>?_⟩)⟩
  have e7:=j4
  left;refine⟨x,B,_,rfl,(e7 _ _ a1),dB,?_⟩;left;refine⟨x,t,D,m,C,f,I,Str.ofString "locker",rfl,(l.keep e7),.inr (.inl ⟨by right,λu2 Gu2 t8 f5 a5=>?_⟩)⟩
  replace O:=f5 _ _ O
  have e6:=e7.trans f5
  left;refine⟨x,B,_,rfl,(e6 _ _ a1),dB,?_⟩;left;refine⟨x,t,D,m,C,f,I,Str.ofString "log",rfl,(l.keep e6),.inr (.inl ⟨by right,λu3 Gu3 t7 c5 d6=>?_⟩)⟩
  replace O:=c5 _ _ O
  replace a5:=c5 _ _ a5
  have e4:=e6.trans c5
  left;refine⟨x,B,_,rfl,(e4 _ _ a1),dB,?_⟩;left;refine⟨x,t,D,m,C,f,I,Str.ofString "read",rfl,(l.keep e4),.inr (.inl ⟨by right,λu4 q5 t6 a7 p8=>?_⟩)⟩
  replace O:=a7 _ _ O
  replace a5:=a7 _ _ a5
  replace d6:=a7 _ _ d6
  have q2:=e4.trans a7
  left;refine⟨za1,λpu b5=>?_⟩
  have ku:=q2.trans (aE b5 (.lst [V.ref u1,V.ref u2,V.ref u3,V.ref u4]))
  have tu:YG (upd q5 pu (.lst [V.ref u1,V.ref u2,V.ref u3,V.ref u4])) pu C f I:=⟨u1,u2,u3,u4,aG,aE b5 _ _ _ O,aE b5 _ _ _ a5,aE b5 _ _ _ d6,aE b5 _ _ _ p8⟩
  generalize upd q5 pu (.lst [V.ref u1,V.ref u2,V.ref u3,V.ref u4])=q4 at ku tu ⊢;clear p8 a7 q2 t6 d6 c5 e4 t7 a5 f5 e6 t8 O j4 e7 t9;have f3:=l.keep ku
  have f1:=j7.keep ku
  have p1:=ku.seq p3
  have k7:=ku _ _ a1
  clear l p3 j7 a1 ku;left;refine AI p1 λrc m4=>?_;obtain⟨ms,x8,hml⟩:=A_ ns 1 10 (by decide) (by decide)
  rw[show lU (ns.map V.int) (some 1) (some 11)=ms.map V.int from x8];have kc:=aE m4 (.lst (ms.map V.int))
  have ec:(upd q4 rc (.lst (ms.map V.int))) rc=some (.lst (ms.map V.int)):=aG
  have X:=f3.keep kc
  have e8:=f1.keep kc
  have j1:=tu.keep kc
  have c7:=kc _ _ k7
  generalize upd q4 rc (.lst (ms.map V.int))=H7 at kc ec X e8 j1 c7 ⊢;clear f3 f1 tu k7 kc m4 p1;left;refine dU (xs:=ms.map V.int) (λj U H'=>∃(v3 v6 v7 v8:Option V),U=[some (.ref a),some (.int (m:Int)),some (.ref x),v3,some (.ref rr),some (.ref pu),v6,v7,v8]/\Same H7 H')
   ⟨_,_,_,_,rfl,Same.refl _⟩ (λj U H' _ ⟨_,_,_,_,_,e⟩=>aQ e (aO ec)) ?_ ?_
  .rintro j y U H8 S ⟨v3,v6,v7,v8,rfl,s8⟩;rw[Ae]at S;obtain⟨c,_,rfl⟩:=Bk.mp S;obtain⟨ps,er,d8⟩:=e8.keep s8;have j8:=aO er
   have h4:(ps.map V.ref).length=72:=by rw[Ac,d8.1];exact sZ m
   obtain⟨k,ek,hk⟩:=TM (c:=c) (n:=72) (by decide)
   have v1:k<ps.length:=by rw[d8.1,sZ];exact hk
   have m9:k<(uB m).length:=by rw[sZ];exact hk
   have d7:ps[k]?=some ps[k]:=Aa v1
   have x7:(uB m)[k]?=some (uB m)[k]:=Aa m9
   have a2:=d8.2 k _ _ d7 x7
   obtain⟨hi,b7,hv,b9⟩:=GP T a3 L.2.2 _ (Co m9);generalize (uB m)[k]=r3 at a2 hi b7 hv b9;obtain⟨z,i,v⟩:=r3;replace a2:H8 ps[k]=some (.lst [.str z,.str (kN i),v]):=a2
   replace hi:i<7:=hi
   replace b7:Vk m f z i v:=b7
   replace hv:W6 i=none->v=.non:=hv
   replace b9:cQ v=true:=b9
   generalize ps[k]=pk at d7 a2;have W:=X.keep s8
   have f9:=s8 _ _ c7
   left;rw[h4,show c%((72:Nat):Int)=(k:Int) from ek];refine cA j8 (v:=.ref pk) (aX (by rw[Ae,d7];rfl)) ?_
   refine Qv (aO a2) rfl ?_;left;refine⟨x,t,D,m,C,f,I,z,i,v,rfl,W,hi,b7,hv,λr9 H9 u7 s9 e9=>?_⟩;left;refine⟨r0,λf7 b6=>?_⟩
   have R:=aE b6 (.lst [.str (kN i),v])
   have c9:([V.str (kN i),v]:List V).all cQ=true:=by show (true&&(cQ v&&true))=true;rw[b9];rfl
   refine V4 (neg:=true) (aQ R (aO e9)) bX c9 c9 ?_;rw[if_pos rfl,pI _ c9,Bool.not_true];have a8:=s9.trans R
   have J:=s8.trans a8
   generalize upd H9 f7 (.lst [.str (kN i),v])=z1 at R a8 J ⊢;have g:=X.keep J
   have Z:=J _ _ c7
   have r1:=j1.keep J
   clear W f9 b7 hv b9 c9 a2 er d8 j8 d7 e9 R s9 s8 a8;left;refine⟨x,B,_,rfl,Z,dB,?_⟩;left;refine⟨x,t,D,m,C,f,I,Str.ofString "halyards",rfl,g,.inr (.inl ⟨by right,λw1 Gw1 t5 j2 N=>?_⟩)⟩
   have e3:=j2
   left;refine⟨x,B,_,rfl,(e3 _ _ Z),dB,?_⟩;left;refine⟨x,t,D,m,C,f,I,Str.ofString "locker",rfl,(g.keep e3),.inr (.inl ⟨by right,λw2 Gw2 t4 f4 a4=>?_⟩)⟩
   replace N:=f4 _ _ N
   have e1:=e3.trans f4
   left;refine⟨x,B,_,rfl,(e1 _ _ Z),dB,?_⟩;left;refine⟨x,t,D,m,C,f,I,Str.ofString "log",rfl,(g.keep e1),.inr (.inl ⟨by right,λw3 Gw3 t3 c4 d5=>?_⟩)⟩
   replace N:=c4 _ _ N
   replace a4:=c4 _ _ a4
   have d9:=e1.trans c4
   left;refine⟨x,B,_,rfl,(d9 _ _ Z),dB,?_⟩;left;refine⟨x,t,D,m,C,f,I,Str.ofString "read",rfl,(g.keep d9),.inr (.inl ⟨by right,λw4 q3 t2 a6 p7=>?_⟩)⟩
   replace N:=a6 _ _ N
   replace a4:=a6 _ _ a4
   replace d5:=a6 _ _ d5
   have q1:=d9.trans a6
   left;refine⟨za1,λpw a9=>?_⟩
   have kw:=q1.trans (aE a9 (.lst [V.ref w1,V.ref w2,V.ref w3,V.ref w4]))
   have tw:YG (upd q3 pw (.lst [V.ref w1,V.ref w2,V.ref w3,V.ref w4])) pw C f I:=⟨w1,w2,w3,w4,aG,aE a9 _ _ _ N,aE a9 _ _ _ a4,aE a9 _ _ _ d5,aE a9 _ _ _ p7⟩
   generalize upd q3 pw (.lst [V.ref w1,V.ref w2,V.ref w3,V.ref w4])=Gw5 at kw tw ⊢;clear p7 a6 q1 t2 d5 c4 d9 t3 a4 f4 e1 t4 N j2 e3 t5;obtain⟨b1,b2,b3,b4,x4,x3,x2,x1,w9⟩:=r1.keep kw;obtain⟨d1,d2,d3,d4,w8,w7,w6,w5,v9⟩:=tw;refine M8 (neg:=true) 1 (aO w8) (aO x4) rfl (λj u y hu S=>?_) ?_
   .match j,hu,S with
    |0,hu,S=>cases hu;cases S;exact qQ w7 x3
    |1,hu,S=>cases hu;cases S;exact qQ w6 x2
    |2,hu,S=>cases hu;cases S;exact qQ w5 x1
    |3,hu,S=>cases hu;cases S;exact qQ v9 w9
   left;exact⟨_,_,_,_,rfl,J.trans kw⟩
  .rintro U H8 ⟨v3,v6,v7,v8,rfl,s8⟩;have W:=X.keep s8
   have f9:=s8 _ _ c7
   obtain⟨⟨w',r',g9,g4,h8⟩,f8,g8,h9,b8,h7⟩:=P6 T a3 L.1 L.2.1;have n2:∀c,cntF (bK λd=>cntF f d+cnt (bY C [0]) d) c<=60:=λc=>by
    have hb:=(gS (bY C [0]) c).2
    have h3:(bY C [0]).length<=3:=by
     rcases L.1 with rfl|rfl
     .rw[(gD m (by (exact Nat.lt_of_le_of_lt (by assumption) (by decide))) T).2.2.1];decide
     .rw[(gD m (by (exact Nat.lt_of_le_of_lt (by assumption) (by decide))) T).2.2.2.1];decide
    exact gP (by have:=L.2.1 c;((try clear T a3 b8 c1 em hm0 hml hnl u9 v2 x9 y3);omega)) (by decide)
   left;refine⟨x,B,_,rfl,f9,dB,?_⟩;left;refine⟨x,t,D,m,C,f,I,_,rfl,W,.inr (.inr (.inr ⟨_,w',r',_,_,g9,g4,h8,f8,g8,by ((try clear T a3 b8 em hm0 hml hnl u9 v2 x9 y3);omega),h9,b8,h7,λr9 H9 u7 z8 n7 e9=>?_⟩))⟩
   left;refine⟨by decide,λf7 b6=>?_⟩
   have R:=aE b6 (.lst [])
   refine Tb (aQ R (aO e9)) bX ?_;have g:=n7.keep R
   generalize upd H9 f7 (.lst [])=z1 at g ⊢;rw[show ([]:List V).isEmpty=true from rfl];obtain⟨y8,bA,Z,_,_⟩:=id g.dk;left;refine⟨x,y8,_,rfl,Z,dB,?_⟩;left;refine⟨x,t,D,m,_,_,_,_,rfl,g,.inr (.inr (.inl ⟨rfl,λr11 y9 z5 f6 r6 y6=>?_⟩))⟩;have n6:Zc Z1 Z0 Pt y9 x t D m (List.replicate m none) (bK λd=>cntF f d+cnt (bY C [0]) d) (I++[Dd.lower 0]):=by
    obtain⟨⟨dy,b,g1,g2,g3⟩,⟨b',s0,st,hg,dt,p9,tw⟩,g5,g6,g7⟩:=g;exact⟨⟨dy,b,Yb f6 tw.lam g1 (λ_=>nofun),Vq g2 f6 tw.lam,g3⟩,⟨b',s0,st,hg,dt,p9,tw.UU f6 r6⟩,g5,g6,g7⟩
   left;refine⟨za0,λp12 m7=>?_⟩
   have k4:=aE m7 (.lst (([Str.ofString "ab",Str.ofString "d",Str.ofString "ba"]:List Str).map V.str))
   refine V4 (neg:=false) (xs:=([Str.ofString "ab",Str.ofString "d",Str.ofString "ba"]:List Str).map V.str) (ys:=([Str.ofString "ab",Str.ofString "d",Str.ofString "ba"]:List Str).map V.str) (aQ k4 (aO y6)) bX (cJ _) (cJ _) ?_;rw[if_neg Aq,pI _ (cJ _)];have f2:=n6.keep k4
   obtain⟨y7,bC,r8,_,_⟩:=id f2.dk;obtain⟨⟨w2,r2,m3,m1,n4⟩,k5,m2,n5,h6,m8⟩:=Ng T a3 n2;left;refine⟨x,y7,_,rfl,r8,dB,?_⟩;left;refine⟨x,t,D,m,_,_,_,_,rfl,f2,.inr (.inr (.inr ⟨_,w2,r2,_,_,m3,m1,n4,k5,m2,by rw[Aj,c1];show 3+1<=800;decide,n5,h6,m8,λr13 H13 z4 z2 v4 y5=>?_⟩))⟩
   left;refine⟨by decide,λp14 m6=>?_⟩
   refine Tb (aQ (aE m6 _) (aO y5)) bX ?_;exact q _
end
variable {L:List Rw}{ws:List Wt}
def VA(K:W.Frag)(x q:Str)(st:Stmt)(f:Addr):Prop:=∃e d b g h c j a i,K.lookup f=some ⟨e,d,.func (W.fnOf x q (lA st) (gI st) (aJ st) .none g h c j a i),b⟩/\W.codeIn K a q=true/\W.keepIn K (.ref f)=true
abbrev ZL(K:W.Frag)(x:Str)(st:Stmt)(f:Addr):Prop:=W.nsIn K mainGlobals x=some (some (.ref f))/\VA K x x st f
abbrev W0(K:W.Frag)(C:Addr)(x q:Str)(st:Stmt)(f:Addr):Prop:=W.findIn K (.ref C) x=some (some (.ref f))/\W.isFn K (.ref f)=true/\VA K x q st f
abbrev UE(K:W.Frag)(C:Addr)(q:Str)(st:Stmt)(f:Addr):Prop:=W.findIn K (.ref C) "__init__"=some (some (.ref f))/\W.typeIn K (.ref f)=some (.type "function")/\VA K "__init__" q st f
abbrev Uu(x q:Str)(st:Stmt)(ps:List Str):Prop:=∀(kV doc pm:Value) (an:Option Addr) (cdv ct:Value) (us:List Value),us.length=ps.length->bindArgs (W.fnOf x q (lA st) (gI st) (aJ st) .none kV doc pm an cdv ct) ⟨us,[]⟩=pure (ps.zip us)
def VA.c{a:Heap}{CX:XZ}{x q:Str}{st:Stmt}{ps:List Str}{sp:Sp}(p:VA K x q st f)(o:∀ {b:FuncData},ZQ K x q st f b->Z9 P w K mg a CX k f b ps sp)(d:Uu x q st ps):∃b,Z9 P w K mg a CX k f b ps sp/\W.keepIn K (.ref f)=true/\Binds K b ps []:=by
 obtain⟨_,_,_,_,_,_,_,_,_,l,c,k⟩:=p;have F:=Sm  l c k
 exact⟨_,o F,k,F.binds d⟩
local macro_rules | `(tactic| fail "bd") => `(tactic| (intro a1 a2 a3 a4 a5 a6 us hl; iterate 7 (all_goals try (rcases us with _ | ⟨u,us⟩; (· first | rfl | (simp at hl)))); all_goals (simp at hl)))
def all_mk{l:W.OpenLaw}{h:Heap}{fa:Addr}{f_0 f_1 f_2 f_3 f_4 f_5 f_6 f_7 f_8 f_9 f_10 f_11 f_12 f_13 f_14 f_15 f_16 f_17 f_18 f_19 f_20 f_21 f_22 z9 z8 z7 z6 z4 z3 z2 z1 y7 y5 y4 y3 x9 x7 x6 x5 x4 x3 x2 x1 w9 w7 w6 w5 w4 w3 w2 w1 v8 v7 v6 v5 v4 v3 v2 v1 u9 u8 u7 u6 u4 u3 u2 u1 t9 t8 t6 t5 t4 t3 t2 t1:Addr}{L I U c8 T J r A S e2 E y a6 a7 d2 f4:Tok}{j:Addr}{D:Array DictEntry}{c6:Nat}{i:Addr}{u:Array DictEntry}{b6:Nat}{m:Addr}{d:Array Value}{Z:Nat}{c:Addr}(X:K.In h)(Gn:h.Ns mainGlobals mg)(hfa:mg "law"=some (.ref fa))(TH:UB h mg "longest_on" c)(f5:W.nsIn K mainGlobals "Lack"=some (some (.ref Zo)))(b2:W.nsIn K mainGlobals "TowerError"=some (some (.ref Zz)))(e4:W.nsIn K mainGlobals "Short"=some (some (.ref Zr)))(c9:W.nsIn K mainGlobals "NoHoist"=some (some (.ref Zx)))(e3:W.nsIn K mainGlobals "Tower"=some (some (.ref Z0)))(d6:W.nsIn K mainGlobals "NoDeed"=some (some (.ref Zt)))(c4:W.nsIn K mainGlobals "NoHalyard"=some (some (.ref Zy)))(d3:W.nsIn K mainGlobals "NoWord"=some (some (.ref Zu)))(d5:W.nsIn K mainGlobals "NoFlag"=some (some (.ref Zw)))(d4:W.nsIn K mainGlobals "NoText"=some (some (.ref Zv)))(e6:W.nsIn K mainGlobals "NoCut"=some (some (.ref Zq)))(d7:W.nsIn K mainGlobals "NoBook"=some (some (.ref Zs)))(e5:W.nsIn K mainGlobals "NoRow"=some (some (.ref Zp)))(f6:W.nsIn K mainGlobals "Desk"=some (some (.ref Z1)))(p_0:ZL K "is_term" rX f_0)(p_1:ZL K "is_row_of_terms" fP f_1)(p_2:ZL K "is_word" rW f_2)(p_3:ZL K "may_follow" hW f_3)(p_4:ZL K "look_at" sC f_4)(p_5:ZL K "read_book" nH f_5)(p_6:ZL K "is_number" mZ f_6)(p_7:ZL K "mark_of" sY f_7)(p_8:ZL K "read_some" mR f_8)(p_9:ZL K "read_locker" gN f_9)(r9:ZL K "plain_locker" iI f_10)(e9:W0 K Z0 "__init__" "Tower.__init__" lC f_11)(e8:W0 K Z1 "__init__" "Desk.__init__" mH f_12)(r8:ZL K "_law_rows" yK f_13)(r7:ZL K "is_row" vY f_14)(r6:ZL K "words_of_row" iO f_15)(r5:ZL K "halyard_number" gG f_16)(r4:ZL K "deed_of" sL f_17)(r3:ZL K "rank_of" rS f_18)(r2:ZL K "is_divided" kK f_19)(r1:ZL K "hidden_letter" eS f_20)(q9:ZL K "check_of" pG f_21)(q8:ZL K "with_check" kP f_22)(q7:UE K Zu "NoWord.__init__" jU z9)(q6:ZL K "checked_word" iU z8)(q5:ZL K "read_in" Oj z7)(q4:ZL K "terms_of" pE z6)(q3:ZL K "meanings_of" jP z4)(q2:ZL K "standing_at" gO z3)(q1:ZL K "least_numbers" eT z2)(p9:UE K Zq "NoCut.__init__" kQ z1)(e7:ZL K "longest_on" eJ y7)(p8:ZL K "most_cut" lE y5)(p7:ZL K "cut_text" oW y4)(p6:ZL K "is_flag" sQ y3)(p5:ZL K "sight_of" oV x9)(p4:ZL K "told_of_book" eC x7)(p3:ZL K "put_in" xI x6)(p2:ZL K "wants_of" kX x5)(p1:ZL K "choices_at" hX x4)(n9:ZL K "choices_of" kZ x3)(n7:ZL K "hoists_of" nK x2)(n6:ZL K "asked_from" hU x1)(n5:ZL K "hang_along" kR w9)(n3:ZL K "hang_all" gC w7)(n2:ZL K "flags_on" pJ w6)(n1:ZL K "all_flags_on" iG w5)(m9:UE K Zr "Short.__init__" kL w4)(m5:ZL K "taken" TR w3)(m2:ZL K "behind_say" hV w2)(m1:ZL K "look_for_halyard" eX w1)(k9:ZL K "hauled" NC v8)(k8:ZL K "is_checked" lK v7)(k7:ZL K "behind_haul" jI v6)(k6:ZL K "behind_lower" iN v5)(k5:ZL K "look_for_flag" gU v4)(k4:ZL K "behind_lose" jO v3)(k3:ZL K "behind_find" jT v2)(k2:ZL K "behind_deed" jG v1)(k1:W0 K Z0 "do" "Tower.do" pL u9)(j3:ZL K "row_of" vM u8)(j2:ZL K "shown_halyards" fY u7)(j1:ZL K "shown_locker" fT u6)(h9:W0 K Z0 "log" "Tower.log" mC u4)(h8:W0 K Z0 "halyards" "Tower.halyards" gF u3)(h7:W0 K Z0 "locker" "Tower.locker" iM u2)(h6:ZL K "may_stand" mG u1)(h5:ZL K "is_hoist" pM t9)(h4:ZL K "read_of" sR t8)(h3:W0 K Z0 "read" "Tower.read" hZ t6)(h2:ZL K "told_of_tower" eR t5)(h1:W0 K Z1 "say" "Desk.say" pF t4)(g9:ZL K "_law_cell" yA t3)(g7:ZL K "_law_kind" qX t2)(f8:ZL K "law" vS t1)(g6:W.nsIn K mainGlobals "all"=some none)(g4:W.nsIn K mainGlobals "len"=some none)(e1:W.nsIn K mainGlobals "range"=some none)(g1:W.nsIn K mainGlobals "str"=some none)(g5:W.nsIn K mainGlobals "int"=some none)(f3:W.nsIn K mainGlobals "dict"=some none)(f2:W.nsIn K mainGlobals "list"=some none)(c1:W.nsIn K mainGlobals "enumerate"=some none)(f9:W.nsIn K mainGlobals "sum"=some none)(g2:W.nsIn K mainGlobals "min"=some none)(g3:W.nsIn K mainGlobals "max"=some none)(a4:W.nsIn K mainGlobals "isinstance"=some none)(a5:W.nsIn K mainGlobals "ValueError"=some none)(Q:W.nsIn K mainGlobals "LONGEST_TERM"=some (some (.int 10 L)))(O:W.nsIn K mainGlobals "TERM_LETTERS"=some (some (.str "abcdefghijklmnopqrstuvwxyz" I)))(a3:W.nsIn K mainGlobals "MOST_PLACES"=some (some (.int 7 U)))(d1:W.nsIn K mainGlobals "LETTERS"=some (some (.str "abcdefghijklmnopqrstuvw" c8)))(a2:W.nsIn K mainGlobals "MOST_TUPLES"=some (some (.int 60 T)))(P:W.nsIn K mainGlobals "LONGEST_WORD"=some (some (.int 6 J)))(t:W.nsIn K mainGlobals "MOST_TERMS_MEANT"=some (some (.int 5 r)))(B:W.nsIn K mainGlobals "MOST_OF_A_FLAG"=some (some (.int 99 A)))(a1:W.nsIn K mainGlobals "SUBSTITUTES"=some (some (.str "1234" S)))(f1:W.nsIn K mainGlobals "FLAGS"=some (some (.str "abcdefghijklmnopqrstuvw1234" e2)))(H:W.nsIn K mainGlobals "MOST_HALYARDS"=some (some (.int 6 E)))(z:W.nsIn K mainGlobals "HALYARD_FIGURES"=some (some (.str "012345" y)))(b4:W.nsIn K mainGlobals "MOST_TERMS"=some (some (.int 40 a6)))(b5:W.nsIn K mainGlobals "LEAST_SEEN"=some (some (.int 2 a7)))(d9:W.nsIn K mainGlobals "HIDDEN"=some (some (.str "?" d2)))(f7:W.nsIn K mainGlobals "BARE"=some (some (.str "-" f4)))(KF:OB K Zo Zz Zr Zx Z0 Zt Zy Zu Zw Zv Zq Zs Zp Z1)(c3:W.nsIn K mainGlobals "WORDS_IN"=some (some (.ref j)))(c5:K.lookup j=some ⟨.type "dict",none,.dict D c6,#[]⟩)(c2:(j==sysModules)=false)(c7:yF w D.toList [("haul",3),("lower",2),("lose",2),("find",2),("sight",2),("check",2),("halyards",1),("locker",1),("read",1),("log",1)])(b1:W.nsIn K mainGlobals "THINGS_IN"=some (some (.ref i)))(b3:K.lookup i=some ⟨.type "dict",none,.dict u b6,#[]⟩)(a8:(i==sysModules)=false)(b8:yF w u.toList [("haul",3),("lower",2),("lose",2),("find",2),("say",2)])(V:W.nsIn K mainGlobals "WITH_TERMS"=some (some (.ref m)))(Y:K.lookup m=some ⟨.type "tuple",none,.seq d Z,#[]⟩)(n:d.toList.map WQ.strOf=(["say", "cut"]:List Str).map some/\d.size<=sizeLine):∃R:FuncData,(∀(s:Shared) (v:Value),BindsTo s R ⟨[v],[]⟩ [("_law_script",v)])/\∀g:Heap,K.In g->g.Ns mainGlobals mg->X3 mg g c Pt->Z9 l.prog w K mg g ZO 13 fa R ["_law_script"] (UN K Pt):=by
 have M:∀ {x:Str} {v:Value},W.nsIn K mainGlobals x=some (some v)->mg x=some v:=λh=>W.mg_of X Gn h
 have N:∀ {x:Str},W.nsIn K mainGlobals x=some none->mg x=none:=λh=>W.mg_none_of X Gn h
 have e:=hfa.symm.trans (M f8.1)
 cases e;have G:Gs K mg w Zo Zz Zr Zx Z0 Zt Zy Zu Zw Zv Zq Zs Zp Z1:=⟨KF,M f5,M b2,M e4,M c9,M e3,M d6,M c4,M d3,M d5,M d4,M e6,M d7,M e5,M f6,⟨_,_,_,M c3,c5,c2,c7,by right⟩,⟨_,_,_,M b1,b3,a8,b8,by right⟩,⟨_,_,_,_,M V,Y,rfl,rfl,n.2,n.1⟩,N g6,N g4,N e1,N g1,N g5,N f3,N f2,N c1,N f9,N g2,N g3,N a4,N a5,⟨_,M Q⟩,⟨_,M O⟩,⟨_,M a3⟩,⟨_,M d1⟩,⟨_,M a2⟩,⟨_,M P⟩,⟨_,M t⟩,⟨_,M B⟩,⟨_,M a1⟩,⟨_,M f1⟩,⟨_,M H⟩,⟨_,M z⟩,⟨_,M b4⟩,⟨_,M b5⟩,⟨_,M d9⟩,⟨_,M f7⟩⟩
 obtain⟨_,_,_,kV,dc,pm,an,cd,ct,lk,hc,hk⟩:=f8.2;have F:=Sm (st:=vS) lk hc hk
 refine⟨W.fnOf "law" "law" (lA vS) (gI vS) (aJ vS) .none kV dc pm an cd ct,λs v=>.of_eq rfl,λg _ _ LB=>?_⟩;have mk:∀ {CX:XZ} {k:Nat} {x:Str} {st:Stmt} {f:Addr} {ps:List Str} {sp:Sp},ZL K x st f->(∀ {R:FuncData},ZQ K x x st f R->Z9 l.prog w K mg g CX k f R ps sp)->Uu x x st ps->∃(f:Addr) (R:FuncData),Z9 l.prog w K mg g CX k f R ps sp/\mg x=some (.ref f)/\W.keepIn K (.ref f)=true/\Binds K R ps []:=λp o hb=>by
  obtain⟨R,a,b,c⟩:=p.2.c o hb;exact⟨_,R,a,M p.1,b,c⟩
 have mt:∀ {CX:XZ} {k:Nat} {x:Str} {st:Stmt} {f:Addr} {ps:List Str} {sp:Sp} {C:Addr} {q:Str},W0 K C x q st f->(∀ {R:FuncData},ZQ K x q st f R->Z9 l.prog w K mg g CX k f R ps sp)->Uu x q st ps->yH CX l.prog w K mg g k C x ps sp:=λp o hb=>by
  obtain⟨R,a,b,c⟩:=p.2.2.c o hb;exact⟨_,R,a,⟨p.1,p.2.1,b⟩,c⟩
 have mi:∀ {k:Nat} {st:Stmt} {f:Addr} {ps:List Str} {sp:Sp} {C:Addr} {q:Str},UE K C q st f->(∀ {R:FuncData},ZQ K "__init__" q st f R->Z9 l.prog w K mg g ZO k f R ps sp)->Uu "__init__" q st ps->Wa l.prog w K mg g k C ps sp:=λp o hb=>by
  obtain⟨R,a,b,c⟩:=p.2.2.c o hb;exact⟨_,R,a,p.1,p.2.1,c⟩
 have n4:=mk p_0 (λF=>LM G F ) (by fail "bd")
 have wS:=mk p_1 (λF=>pK G F n4) (by fail "bd")
 have y9:=mk p_2 (λF=>K4 G F ) (by fail "bd")
 have d0:=mk p_3 (λF=>yQ G F wS y9) (by fail "bd")
 have d8:=mk p_4 (λF=>CB G F d0) (by fail "bd")
 have yAA:=mk p_5 (λF=>AE G F d8) (by fail "bd")
 have b7:=mk p_6 (λF=>Jw G F ) (by fail "bd")
 have wE:=mk p_7 (λF=>JT G F ) (by fail "bd")
 have b9:=mk p_8 (λF=>CD G F b7 wE) (by fail "bd")
 have yAB:=mk p_9 (λF=>yB G F b9) (by fail "bd")
 have y1:=mk r9 (λF=>uI G F ) (by fail "bd")
 have yAC:Vw ZO l.prog w K mg g 2 Z0 ["self", "book", "locker", "many"] (jJ Z0):=by
  obtain⟨R,a,b,c⟩:=e9.2.2.c (λF=>yY G F y1) (by fail "bd")
  exact⟨_,R,a,⟨G.mk1_Tower,e9.1,e9.2.1,G.mk2_Tower⟩,c⟩
 have yAJ:Vw ZO l.prog w K mg g 6 Z1 ["self", "book_text", "locker_text", "many"] (kM Z1 Z0):=by
  obtain⟨R,a,b,c⟩:=e8.2.2.c (λF=>LV G F yAA yAB yAC) (by fail "bd")
  exact⟨_,R,a,⟨G.mk1_Desk,e8.1,e8.2.1,G.mk2_Desk⟩,c⟩
 have yB0:=mk r8 (λF=>Mq G F ) (by fail "bd")
 have a9:=mk r7 (λF=>C7 G F ) (by fail "bd")
 have yAE:=mk r6 (λF=>uH G F a9) (by fail "bd")
 have q0:=mk r5 (λF=>qC G F ) (by fail "bd")
 have yAF:=mk r4 (λF=>Ji F G q0) (by fail "bd")
 have t7:=mk r3 (λF=>Ex G F ) (by fail "bd")
 have wT:=mk r2 (λF=>zE G F t7) (by fail "bd")
 have l0:=mk r1 (λF=>rZ G F wT) (by fail "bd")
 have l8:=mk q9 (λF=>FV G F l0) (by fail "bd")
 have z5:=mk q8 (λF=>yS F G l8) (by fail "bd")
 have u5:=mi q7 (λF=>wK G F ) (by fail "bd")
 have yA0:=mk q6 (λF=>uK G F z5 u5 y9) (by fail "bd")
 have yA1:=mk q5 (λF=>AH F G ) (by fail "bd")
 have n8:=mk q4 (λF=>FG G F wS) (by fail "bd")
 have m3:=mk q3 (λF=>xF F G ) (by fail "bd")
 have y8:=mk q2 (λF=>xL G F ) (by fail "bd")
 have m4:=mk q1 (λF=>sA G F y8) (by fail "bd")
 have m6:=mi p9 (λF=>yM G F ) (by fail "bd")
 have m7:ZM l.prog w K mg g 2 "longest_on" ["meanings", "terms", "table", "start"] (jH Pt):=by
  obtain⟨_,_,_,_,_,_,_,_,_,l,c,k⟩:=e7.2;have F:=Sm (st:=eJ) l c k
  have b:=F.binds (ps:=["meanings", "terms", "table", "start"]) (by fail "bd")
  exact⟨_,_,yV G F (Ny TH X (M e7.1) l) LB y8,M e7.1,k,b⟩
 have m8:=mk p8 (λF=>Nd G F y8) (by fail "bd")
 have u0:=mk p7 (λF=>J1 G F n8 m3 m4 m6 m7 m8) (by fail "bd")
 have y6:=mk p6 (λF=>AN G F ) (by fail "bd")
 have yA2:=mk p5 (λF=>JU G F y6) (by fail "bd")
 have yAG:=mk p4 (λF=>uP F G yA0 yA1 u0 yA2) (by fail "bd")
 have z0:=mk p3 (λF=>Jd F G y1) (by fail "bd")
 have j4:=mk p2 (λF=>A3 G F ) (by fail "bd")
 have j5:=mk p1 (λF=>zH G F ) (by fail "bd")
 have j6:=mk n9 (λF=>zL F G j4 j5) (by fail "bd")
 have j7:=mk n7 (λF=>K2 G F ) (by fail "bd")
 have j8:=mk n6 (λF=>yL G F ) (by fail "bd")
 have j9:=mk n5 (λF=>yU F G ) (by fail "bd")
 have i3:=mk n3 (λF=>BF F G j6 y1 j7 j8 j9) (by fail "bd")
 have wP:=mk n2 (λF=>KN F G ) (by fail "bd")
 have x8:=mk n1 (λF=>uN G F wP) (by fail "bd")
 have o5:=mi m9 (λF=>zB G F ) (by fail "bd")
 have v0:=mk m5 (λF=>I0 G F y1 o5) (by fail "bd")
 have i6:=mk m2 (λF=>zG G F z0 i3 z5 x8 v0 u0) (by fail "bd")
 have v9:=mk m1 (λF=>oB G F ) (by fail "bd")
 have i4:=mk k9 (λF=>GO F G ) (by fail "bd")
 have i5:=mk k8 (λF=>yT G F y9 wT) (by fail "bd")
 have i7:=mk k7 (λF=>wQ G F v9 i4 i5 u5) (by fail "bd")
 have i8:=mk k6 (λF=>uF G F v9 z0 wP) (by fail "bd")
 have w8:=mk k5 (λF=>sV G F y6) (by fail "bd")
 have i9:=mk k4 (λF=>wJ F G w8 v0) (by fail "bd")
 have gV:=mk k3 (λF=>vZ G F w8 z0 x8) (by fail "bd")
 have g0:=mk k2 (λF=>xK F G i6 i7 i8 i9 gV) (by fail "bd")
 have yAH:=mt k1 (λF=>E6 G F g0) (by fail "bd")
 have yA3:=mk j3 (λF=>JH G F ) (by fail "bd")
 have yA4:=mk j2 (λF=>rJ G F ) (by fail "bd")
 have yA5:=mk j1 (λF=>uJ G F y1 wE) (by fail "bd")
 have yA6:=mt h9 (λF=>Kz G F ) (by fail "bd")
 have yA7:=mt h8 (λF=>qV G F ) (by fail "bd")
 have yA8:=mt h7 (λF=>uQ G F y1) (by fail "bd")
 have o7:=mk h6 (λF=>B1 G F y6) (by fail "bd")
 have o8:=mk h5 (λF=>I_ G F o7) (by fail "bd")
 have g8:=mk h4 (λF=>Ik G F o8) (by fail "bd")
 have yA9:=mt h3 (λF=>zA G F z5 g8) (by fail "bd")
 have yAI:=mk h2 (λF=>tB G F yA3 yA4 yA5 yA6 yA7 yA8 yA9) (by fail "bd")
 have y2:=mt h1 (λF=>Kt G F yAE yAF yAG yAH yAI) (by fail "bd")
 have o0:=mk g9 (λF=>HD G F ) (by fail "bd")
 have yB1:=mk g7 (λF=>CH G F y2) (by fail "bd")
 exact HW G F yAJ yB0 y2 o0 yB1
def walk{l:W.OpenLaw}{q:Program}{i:List Str}{O:(Q6)->Heap->Prop}{v:World->Heap->Prop}{d:DefRec}{K:Params->W.Frag}(B:l.most=some 63)(p:d.params.defaults=[])(r:((PyProof.Rows.recsOf q).find? λe=>e.name==PySem.Str.ofString "longest_on").isSome=true)(o:∀w:World,W.noTabs (K w.params)=true)(D:∀(w:World) (h:Heap),v w h->(K w.params).In h)(F:∀(w:World) (g:Q6) (m:Addr) (h:Heap) (c j:Addr),(K w.params).In h->h.Ns mainGlobals g->g d.name=some (.ref m)->UB h g "longest_on" c->
 ∃t:FuncData,(∀(s:Shared) (u:Value),BindsTo s t ⟨[u],[]⟩ [("_law_script",u)])/\∀b:Heap,(K w.params).In b->b.Ns mainGlobals g->X3 g b c j->Z9 l.prog w (K w.params) g b ZO 13 m t ["_law_script"] (UN (K w.params) j)):W.WalkO q i O v l.row.toRowW d [] (λf y=>PySem.call f y):=by
 obtain⟨d2,e⟩:=Dt.mp r;have H:=List.find?_some e
 have I:d2.name=PySem.Str.ofString "longest_on" := eq_of_beq H
 exact L2.IJ (d2:=d2) (n:=63) (k:=13) (x := "_law_script") (CX:=λ_=>ZO) (sp:=λw=>UN (K w.params)) B (by decide) p ⟨rfl,by decide,by decide⟩ (List.mem_of_find?_eq_some e) o D (λw g m h c j N M L J=>F w g m h c j N M L (I▸J)) (λ_ _ a j A C G E=>⟨a,A,rfl,E,C,G,λ_=>rfl⟩) λ_ _ _ _ _ z=>z
end Mine
structure PySem.W.Fast:Prop where
(tw17476040415244126741 tw13246453652455612891 tw3232753947146758378 tw14341801713803391256 tw17558333757578592580 tw3955833793590706417 tw7482709104054012523 tw12575421624963018609 tw1803366728939325306 tw2060345927842081757 tw6512668459253425958 tw1653041600489819915 tw6657718448662909982 tw9856385304122974084 tw13483803331129949878 tw563027245335082950 tw7654468704787840560 tw1090715045434290996 tw17586067330693126821 tw16787913727340148836
tw14697004654493898208 tw1986046377301037368 tw10632625890444598824 tw4917177039825410396 tw16276817526277010919 tw14563177964694660403 tw12426063804232062702 tw10008103606620388002 tw17517383151231542729 tw10320754566658666657 tw10213667229570541287 tw411978175410599297 tw9303398286269615403 tw16853871276737529360 tw14326960706253445594 tw15437722852879723821 tw16789622395707509954 tw1361822167724574319 tw6765712609240587829 tw14866654650821049049
tw14477114927190444995 tw12545013705241462931 tw5975369146532940998 tw2167805053167325733 tw4323835172623556567 tw12983909649557146638 tw16609293469652366359 tw13493421979786938862 tw10335059026836193994 tw15779140441875006262 tw6477612633634476328 tw9005909783302948197 tw7165197620185622744 tw2191428742096937162 tw1059365769503463204 tw7729574157131270108 tw4334671589842187919 tw14746060130097096277 tw2061733366516810283 tw18367837519891370457
tw15845472485425601130 tw12999471451625709687 tw6226009544162075415 tw13234597220757557457 tw17183075383544605777 tw10110478509649183057 tw513251113341956261 tw11454303709145172839 tw3657661437921213612 tw2042333995952052833 tw3912166316359015429 tw3887904077586948147 tw12605511701414124946 tw2070141068917833996 tw8935241634172725907 tw6490179161837788927 tw9798094388194180123 tw12308361276987056082 tw15958536603275721447 tw2192149519164735719
tw6661756626107676233 tw874782466555059064 tw7857491126393229447 tw16281590184794203796 tw10364435102647744872 tw9101228634247869506 tw2934409628057728849 tw7905950056344461760 tw15440512126340208989 tw4796136371153034562 tw17151358773271613246 tw6792735115559968993 tw10520594343480955523 tw7536124539106252370 tw3553903324729279401 tw12166915633867314261 tw3369862551618051938 tw768936329631495649 tw5552300623891467411 tw470699780325715653
tw5797592078508002671 tw918503029528914195 tw7828824605756292234 tw16744068615504337070 tw6607246214840928375 tw11183828325495507079 tw3298574998228281251 tw2836386539097196543 tw10081938488093121141 tw6466277480176035904 tw12084451601403499962 tw3590136277243273875 tw7707344957526414795 tw137861372810479227 tw6819604223498592760 tw17706797118901430600 tw4396959612668289109 tw15433082359937482089 tw18191026664420803056 tw12289018996004634948
tw3246325313208728131 tw4704560405276057847 tw13839823023771614654 tw14449640096071973818 tw14362960191064686956 tw11975360003110357263 tw10269336419968264620 tw17204830646658198635 tw15625219474951070150 tw14642013446520475020 tw3275827274248865080 tw6550674214864226460 tw3953316420865505241 tw14663191134034287871 tw519712858705472269 tw10200728961657206687 tw4922019966641517415 tw6488714343126394471 tw13792275994759256147 tw15258849125333515651
tw1608356698716388942 tw4127039998645489920 tw15030832688994792067 tw3581342797688882822 tw5547917623940805285 tw12432006348848753031 tw7635908248830460028 tw9823176191774056124 tw17421047513152557168 tw17010613084895850259 tw6775952781469658417 tw17713439239205211167 tw9042253459345659640 tw3211654955886969772 tw13626448901832313597 tw6923406773270170119 tw17466012933676126668 tw4771411886241281568 tw3641667189371179476 tw7996644484221474098
tw2266590503855786865 tw16664109058252980574 tw11252186692906463618 tw12960170580454074861 tw6245569398695475423 tw9140520534095419508 tw16598765582988115064 tw13211775615510501762 tw15276535912265634981 tw4611241144480533077 tw3031424282062286319 tw8266050702620206909 tw4990626489995825629 tw5007279819504332841 tw13286875289597759753 tw17900185970248549516 tw1877941260813124389 tw2904655197412521036 tw2930214846310792963 tw11542957566506430359
tw16763321270462809401 tw6285041745637711733 tw17461287182663473346 tw14231053398092835451 tw16031955808147439075 tw5985415140504379201 tw9203118055454975900 tw14920505514498150160 tw3511628358970892023 tw4542357702985349201 tw18421751688519621348 tw14243911070669683379 tw14725550339855846566 tw6711975353098707210 tw12415863059429697221 tw13655153823257394112 tw13934813205052401826 tw13857118819830674041 tw739538105626851517 tw2852307578980624493
tw17812909643348496681 tw16792951467645354727 tw12357140830114882332 tw1672948592670782106 tw6472371684998259393 tw14302268954353514009 tw4708516479575236344 tw6710431427875450777 tw10924849649560718188 tw6765763788589830057 tw6864633306902042212 tw12223541804437984449 tw6606034981076370933 tw10867611956325692899 tw3236829163988354055 tw5114434102038219822 tw778311423016024434 tw3139679651582698496 tw5097895064448495944 tw992571742791736362
tw4386039235303049743 tw6592129434143190816 tw10058653704462820576 tw11272723728089705022 tw12398025315758180299 tw8544745516646406262 tw3712527316463256829 tw17399680223480728120 tw1341370307240780189 tw16528406037907246965 tw859732841848790464 tw3278902761531217648 tw15582149574585675125 tw903002256170678924 tw10988238353687608673 tw15132734557017900512 tw17779631232410230368 tw17078824637935222411 tw7408126422997994511 tw13335275217635139855
tw8276062971890984083 tw13233914992235150533 tw286818781488998330 tw10847884145149845834 tw3554963323410431124 tw5949120612892390161 tw16223016023454970817 tw15111357270459954593 tw6213681878895992971 tw11990362633239561204 tw5375659019984799517 tw8196894293970612747 tw3160100988788299947 tw12090961910996354775 tw7301375027839654516 tw5798091315443757289 tw15316082654312404157 tw602166767086921491 tw16551313052710228665 tw15453074450507261378
tw15651035593558995154 tw17195359196311550675 tw5587788613931590525 tw7139447638496056838 tw16605978832639080055 tw5379679421859671415 tw16963282019842250392 tw12320629054737811511 tw6745613949426707437 tw4774592432158128221 tw9717771610537101715 tw4096118359520563490 tw12715365823397145948 tw10395832007348154211 tw4447659492995955883 tw1255002998684205507 tw2638188548464824642 tw15370650575190039044 tw6320926629367467419 tw15683063059878226140
tw4483443760143038661 tw7322347609056251722 tw16394637612236856791 tw12871086200725298331 tw17338163545663643370 tw5346381923121568474 tw3932599324112083741 tw9868168530020780683 tw18286952552667194047 tw13246794865724916 tw16205782881089970517 tw8172165591079098442 tw15234157572624180610 tw14969031007712772718 tw9417535769581704980 tw14679205613496720634 tw11295695980152806215 tw6152798137324880448 tw9770352882992021883 tw4741261636868650535
tw2650017125758414660 tw13408175053591228957 tw10341961833103315111 tw15479738642112636030 tw10507143270863846379 tw16806758677372299663 tw14990274497660789471 tw4110498559341699259 tw7881216992522600682 tw1685831238958598784 tw12806171407633621479 tw5195415041558651090 tw1154705173627011307 tw16070327163911988636 tw1142134258803688712 tw14164200682326076559 tw9978179377809414813 tw11498028407937192525 tw1431621349097755783 tw3116964737787918300
tw3958669068078161723 tw632455961360088757 tw3025275178260813101 tw10534665282109503894 tw9777321739074384500 tw1780619520958724855 tw3582084932665702314 tw8432138936872873487 tw7802045530967574130 tw9363027421822098031 tw8398675333316390665 tw12791601338492461073 tw9506522912666974076 tw15284376957582410483 tw14177110295879066162 tw4128575653394421172 tw4827268160619502329 tw1746996322958514250 tw13019436298134403767 tw2688716686958921564
tw8445276565266096791 tw5766898096677805119 tw7127425603012201530 tw1929796923229856459 tw12771163689704069713 tw10061969262143012278 tw8571579829499577708 tw16789637387028286306 tw16934523920813662527 tw9984438418533762204 tw16862319535076645112 tw9369815445361082284 tw17567475025254064150 tw15563311898742096154 tw3467503662233586801 tw9209147637500667606 tw4070236694303279518 tw7035750940927331432 tw2107529057902109628 tw6814692853799118097
tw6416282437295871193 tw14195888695688839896 tw2037269353390295138 tw7018105942334030718 tw9183027361005420411 tw8332363546974087212 tw929077242974411202 tw18086344028726324694 tw14609821914343964554 tw9957169571102929154 tw5509595159632000141 tw1150975463647141701 tw4632921706350171630 tw8041258942085389333 tw16894090528753851292 tw12848689486040238811 tw15494190236588337313 tw1456020508251651411 tw6507277782731522369 tw7570182655759347650
tw3215158710951149908 tw9177979596933168360 tw12277420275072503839 tw16819320454048930453 tw18189813291993552430 tw10247498483334935069 tw13362816229494898751 tw7673745878901786723 tw7703651898943344623 tw15180737871909880278 tw1938579483983916767 tw10399397499317138768 tw4856046434555916250 tw13053307861490297910 tw12189065306356203193 tw2820388113225348204 tw9741404039250533275 tw10498513138602041203 tw6893349643712516276 tw346502523817538596
tw1268612798842677022 tw1162827594994721268 tw14378103478571430967 tw16972944500705013687 tw7241665391407479669 tw5672839748114520826 tw15759011872060844634 tw12176141281022673847 tw15673721030584311762 tw17156847504040525403 tw16827025153200894322 tw13114050426439064010 tw18418143859507894055 tw13993820676407812837 tw6386707101960845015 tw14488356449766165489 tw6045351826388024182 tw16719680370455974020 tw15479777293865566065 tw4763819450962366294
tw9541571053771600361 tw3177391476597076758 tw8884560860153494478 tw12518554926349673439 tw4936237610746066053 tw10451824827143148541 tw12558246139323781014 tw5565310254547502260 tw10333600961761814815 tw14127583626439783532 tw17342107211453154697 tw15912796033699092059 tw6738426484405760116 tw1636507281254740515 tw403187692185438529 tw1167146642258043403 tw10308480791979985679 tw6069371965356545883 tw10167856169610278284 tw6742633279476163188
tw14838932493983838429 tw15210902312193522118 tw7688335111614758434 tw15322429668707590799 tw456951412349486034 tw9413445475006664522 tw9128627481943640134 tw10651295212799704267 tw13749336210744648138 tw5440498710268571899 tw6443338928897677355 tw15156717302354094399 tw11308604400104592673 tw2862762340530075223 tw1951868162927948698 tw12665868481258285910 tw15876157466064651296 tw3708607597767236794 tw16743154807965464889 tw6343431415221158230
tw13862440995630296233 tw550920217750021175 tw1891434837075718636 tw12529515196709046148 tw12504476986799415053 tw13608758646539057442 tw1122488664896970515 tw17370684925513635231 tw6189726951762102705 tw13438469639868041353 tw4679390286936068263 tw8204355137360529832 tw9984855388929217602 tw16002277771531411165 tw7191863821114499861 tw12603807420331158933 tw11416699061181052982 tw4866807162399995825 tw14999132884533808832 tw14570211929981139712
tw7193882130444881832 tw6279813333712417004 tw11063422142842650708 tw1653929184404994851 tw8853055180696866396 tw1186009186062124292 tw3374720385060288128 tw4681394240818197961 tw14239469836216532890 tw5793460657119524381 tw14451301621658667322 tw4137672479493890847 tw12865721365862849891 tw9009014485843225139 tw11402528522404858275 tw3727096407941101952 tw1989581052098006153 tw6681336738675818437 tw13237106640998991042 tw16997998385090164356
tw3654130254219003137 tw3740467044835695556 tw16790800808562038565 tw171827197502522884 tw16085426139965653900 tw14784728585158890362 tw16032412424300367603 tw15945879409204655107 tw17544376610299364726 tw14798703588044706804 tw362668115961006741 tw9281371210310071144 tw5306872629385480015 tw6662907587331512464 tw7115723031724811216 tw17519701504307049233 tw7681175235838136353 tw11650621537929706599 tw14743619015011234114 tw7863594408127196009
tw14697476326680262971 tw7457944415566549846 tw13463691460405344050 tw1223721126532500165 tw14354180649448864663 tw12185938630646680106 tw11817340101335233912 tw438105439905240578 tw8950659789328366161 tw15939016427400646761 tw14159762718686962729 tw17885114567743909232 tw3101996361205594947 tw15929620198279084098 tw11561286624208291682 tw13195051670437066008 tw8352423346491848229 tw10941382807849592116 tw17670853545124210922 tw18209263047066927412
tw1495982993543079378 tw15045055379481584159 tw12248864331365168741 tw3152472662909700256 tw17650857642086056391 tw11057245936372711236 tw3054498033520999881 tw11567871217662751469 tw73811886558747422 tw18040285807374369182 tw10607303181982460246 tw1545220697422120125 tw17465374339570646475 tw3110901619083281301 tw10208940846578242755 tw10689864540170919539 tw4711063897611024094 tw16017325121649019498 tw1149376056881364794 tw5848808156931923025
tw16676657321562717262 tw2496191529464048384 tw9955827130790111254 tw11346467543982198915 tw7809595904332396728 tw12554839023736540188 tw11646777845792254735 tw17640393539530702406 tw18219300690386596927 tw6528651786624993225 tw310549787529415250 tw325915882748736240 tw16149726657656915919 tw17164514248424065580 tw9402075617985508977 tw7138077611244957473 tw11817404155563038673 tw11825246377583082609 tw10441233959125461098 tw2554917113175779721
tw8622465769969774251 tw6207663548118709218 tw5373036981053084210 tw9851937919837025664 tw10905004510342562871 tw2439181684111833164 tw13114447138399942510 tw7208678843108079861 tw7503833262409116545 tw10672740558726993371 tw11325137167733197798 tw8901735156149208408 tw14376083603070338317 tw3623918846019498902 tw6975253783230837438 tw1891867124463808152 tw17838839850498824491 tw9009918664697608367 tw15453749298013105039 tw11588267397496183470
tw13377223629122806597 tw15291218197021762142 tw9537263881687178786 tw16624446052148466378 tw2895280841445738136 tw14992691937936059536 tw10237283795844008686 tw12046875832102044928 tw8232561147102787867 tw5783054935563422441 tw1834432193279908552 tw4964921252550546071 tw2023772253681527975 tw15627978891895302012 tw2852393681751595758 tw5126248208714585625 tw2262200824707724352 tw1139070275527981918 tw5241825129419062855 tw15557725891989094983
tw15337983276839968612 tw12521865661495378713 tw11625332616510537105 tw5682824920732411099 tw18194913008769709099 tw14633352902918556501 tw463258078607494974 tw7918345374292113964 tw1458692406747379346 tw9542350025880485213 tw17757610736832043934 tw1005233844538442885 tw17582648090771974076 tw1890383452515035146 tw5460274303969483358 tw5204101901756174051 tw3071145572460030923 tw4636395671219688675 tw10970938040226287299 tw16352959756900634778
tw8407847027633191004 tw17084949144626587917 tw2977564219174733154 tw8574864428804904375 tw14671804236320779517 tw15198959339619226908 tw8942230402918539851 tw7777144898024856469 tw10278628943102489724 tw9503986461496474619 tw7337973544099931223 tw11408401786194268994 tw4663244149290804700 tw8595927697157735254 tw12531976060804132757 tw1532670936597860187 tw18442330254630999860 tw6044169109094324878 tw7823000145761715506 tw5938123688829270
tw8084847636931762330 tw2397446672004895977 tw17390946388834730606 tw7646068132455915024 tw16605754296290398165 tw4292389365468344339 tw575702617773965902 tw28506763645546966 tw12747187724190606560 tw11712813886384692990 tw15333190238181950551 tw18439992986191269180 tw13602131384625162470 tw2878889803840104705 tw10955309683974268736 tw9990325023908593800 tw17789342420532821124 tw14501760975012407867 tw14971383403074935894 tw11507862002315946708
tw16318107338661921113 tw6270707260102139202 tw13987959856724829533 tw17876127811304779118 tw7980415236693522739 tw15952974040649786978 tw13837129707255256412 tw3883270056351083115 tw617805636391271937 tw9663220997473638963 tw16618290641597991460:True)
open PySem PySem.W PyProof.Rows
set_option maxRecDepth 100000 in
set_option maxHeartbeats 0 in
theorem PySem.Challenge.cw_flaglocker_k61_rows_refused_holds : PySem.Challenge.rw_flaglocker_k61_rows_refused.Holds := by
  w_on; o_law; k_head; (case hw => w_witness2)
  k_fill
  refine Mine.walk (l:=PySem.Challenge.rw_flaglocker_k61_rows_refused) rfl rfl ?hd2 ?hno (fun w h Y => PySem.W.km_in_of Y) ?F
  case hd2 => kernel_rfl!
  case hno => intro w; kernel_rfl!
  case F =>
    intro w mg fa h c Pt KX G hmg TH
    apply Mine.all_mk KX G hmg TH
    all_goals first | exact ⟨by k_is,_,_,_,_,_,_,_,_,_,by k_is,by k_is,by k_is⟩ | exact ⟨by k_is,by k_is,_,_,_,_,_,_,_,_,_,by k_is,by k_is,by k_is⟩ | k_is | kernel_rfl! | (constructor <;> first | k_is | k_exc | kts_exm | kit_is | kernel_rfl! | (constructor <;> k_is) | (unfold Mine.W5; and_intros <;> first | kit_is | kts_exm)) | exact ⟨rfl,⟨_,rfl⟩,⟨_,rfl⟩,rfl,⟨_,rfl⟩,⟨_,rfl⟩,rfl,⟨_,rfl⟩,⟨_,rfl⟩,rfl,⟨_,rfl⟩,⟨_,rfl⟩,rfl,⟨_,rfl⟩,⟨_,rfl⟩,rfl,⟨_,rfl⟩,⟨_,rfl⟩,rfl,⟨_,rfl⟩,⟨_,rfl⟩,rfl,⟨_,rfl⟩,⟨_,rfl⟩,rfl,⟨_,rfl⟩,⟨_,rfl⟩,rfl,⟨_,rfl⟩,⟨_,rfl⟩,trivial⟩ | exact ⟨rfl,⟨_,rfl⟩,⟨_,rfl⟩,rfl,⟨_,rfl⟩,⟨_,rfl⟩,rfl,⟨_,rfl⟩,⟨_,rfl⟩,rfl,⟨_,rfl⟩,⟨_,rfl⟩,rfl,⟨_,rfl⟩,⟨_,rfl⟩,trivial⟩ | exact ⟨rfl,by decide⟩
