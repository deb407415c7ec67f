import PyProof.Rows.All
import Wide.All
import OpenK.AllK
import Wide.FinOn
import Lean
import PyProof.EqAt
import PyProof.EqKinds
import PyProof.TupleCall
import PySem.Challenge.RW_flaglocker_k57_log_and_again
set_option Elab.async false
set_option compiler.extract_closed false
set_option linter.all false
set_option maxHeartbeats 4000000
set_option maxRecDepth 100000
abbrev Q0:=PySem.Value->PySem.Shared->Prop
abbrev Q2:=List (PySem.Addr × PySem.Obj)
abbrev Q4:=List (Option (List Nat))
abbrev Q5:=PySem.Str->Option PySem.Value
abbrev Q6:=List (List Nat)
abbrev Aa:=@List.getElem?_eq_getElem
abbrev Ab:=@List.length_map
abbrev Ac:=@List.getD_eq_getElem?_getD
abbrev Ad:=@List.getElem?_eq_some_iff
abbrev Ae:=@PySem.wpAny_bind
abbrev Af:=@List.length_append
abbrev Ag:=@List.getElem?_map
abbrev Ah:=@Nat.le_refl
abbrev Ai:=@PySem.Heap.get?_push_of_some
abbrev Aj:=@List.mem_singleton
abbrev Ak:=@List.mem_cons_self
abbrev Al:=@List.mem_cons_of_mem
abbrev Am:=@List.getElem?_append_left
abbrev An:=@decide_eq_true
abbrev Ao:=@List.mem_of_getElem?
abbrev Ap:=@List.map_append
abbrev Aq:=@List.getElem?_append_right
abbrev Ar:=@Bool.false_ne_true
abbrev As:=@PySem.wpAny_pure
abbrev Au:=@List.map_cons
abbrev Av:=@List.length_cons
abbrev Aw:=@decide_eq_false
abbrev Ax:=@PySem.Heap.lt_size
abbrev Ay:=@PySem.Heap.get?_push_size
abbrev Az:=@of_decide_eq_true
abbrev Ba:=@List.mem_map
abbrev Bb:=@List.mem_cons
abbrev Bc:=@Nat.lt_of_lt_of_le
abbrev Bd:=@List.take_add_one
abbrev Be:=@List.size_toArray
abbrev Bf:=@List.length_range
abbrev Bg:=@List.take_of_length_le
abbrev Bh:=@Nat.le_trans
abbrev Bi:=@List.mem_append
abbrev Bj:=@PySem.F.plainAttrs_list
abbrev Bk:=@Option.some.inj
abbrev Bl:=@Nat.ne_of_lt
abbrev Bm:=@List.mem_append_right
abbrev Bo:=@decide_eq_true_iff
abbrev Bp:=@of_decide_eq_false
abbrev Bq:=@Bool.eq_false_iff
abbrev Br:=@List.append_nil
abbrev Bs:=@PySem.PassesOwn.never
abbrev Bt:=@List.length_take
abbrev Bu:=@List.mem_range
abbrev Bv:=@List.mem_iff_getElem
abbrev Bw:=@List.filterMap_append
abbrev Bx:=@List.getElem_mem
abbrev By:=@List.flatten_cons
abbrev Bz:=@List.length_replicate
abbrev Ca:=@List.all_eq_true
abbrev Cb:=@List.filterMap_cons_some
abbrev Cc:=@PySem.Heap.get?_update_other
abbrev Cd:=@Option.map_eq_some_iff
abbrev Ce:=@List.map_map
abbrev Cf:=@List.length_drop
abbrev Cg:=@List.take_length
abbrev Ci:=@PySem.F.slot_dict_get
abbrev Cj:=@List.filterMap_cons_none
abbrev Ck:=@PySem.wpAny_loadPart'
abbrev Cm:=@List.range_succ
abbrev Co:=@PySem.wpAny_holding
abbrev Cp:=@PySem.wpAny_mono
abbrev Cq:=@List.nodup_cons
abbrev Cr:=@List.mem_filterMap
abbrev Cs:=@List.filterMap_nil
abbrev Ct:=@PySem.F.excBase_ValueError
abbrev Cu:=@Nat.add_sub_cancel_left
abbrev Cv:=@List.sum_cons
abbrev Cw:=@List.length_set
abbrev Cy:=@Int.emod_nonneg
abbrev Cz:=@List.length_filterMap_le
abbrev Da:=@Nat.zero_le
abbrev Dc:=@Nat.lt_irrefl
abbrev De:=@List.mem_append_left
abbrev Df:=@Int.emod_lt_of_pos
abbrev Dg:=@List.mem_filter
abbrev Dh:=@List.lookup_cons
abbrev Di:=@PySem.F.slot_list_append
abbrev Dj:=@PySem.F.type_list_append
abbrev Dk:=@beq_eq_false_iff_ne
abbrev Dm:=@PySem.mem_of_lookup
abbrev Do:=@List.replicate_succ
abbrev Dp:=@congrArg
abbrev Dq:=@PyProof.Rows.callWith_type1
abbrev Dr:=@PySem.wpAny_Call_Name_kw
abbrev Ds:=@Array.getElem?_eq_some_iff
abbrev Dt:=@PySem.W.kia_one
abbrev Du:=@List.getElem?_set_self
abbrev Dv:=@List.countP_cons
abbrev Dw:=@PySem.F.plain_max_loop
abbrev Dx:=@PySem.F.plainAttrs_str
abbrev Dy:=@List.map_congr_left
abbrev Dz:=@Array.getElem?_toList
abbrev Ea:=@PySem.F.type_dict_get
abbrev Eb:=@Option.isSome_iff_exists
abbrev Ec:=@List.getElem?_set_ne
abbrev Ed:=@List.filter_cons
abbrev Ee:=@PySem.Around.under_plainId
abbrev Ef:=@decide_eq_decide
abbrev Eg:=@PySem.StrLaws.glued_eq_join
abbrev Eh:=@Nat.sub_self
abbrev Ei:=@List.nodup_append
abbrev Ej:=@List.mem_or_eq_of_mem_set
abbrev Ek:=@List.getElem?_eq_none
abbrev El:=@List.take_append_drop
abbrev Em:=@Bool.and_eq_true
abbrev En:=@List.getElem_map
abbrev Eo:=@PySem.F.slot_list_extend
abbrev Ep:=@PySem.F.type_list_extend
abbrev Er:=@PySem.wpAny_typeNameOfWhole_keyiter
abbrev Et:=@PySem.wpAny_pyIter_list
abbrev Eu:=@PySem.codeAny_builtin
abbrev Ew:=@PySem.F.slot_dict_keyiterator_next
abbrev Ey:=@List.filterMap_cons
abbrev Ez:=@Array.length_toList
abbrev Fa:=@Nat.ne_of_gt
abbrev Fb:=@PySem.codeAny_mono
abbrev Fc:=@PySem.F.entry_dict_get
abbrev Fd:=@beq_self_eq_true
abbrev Fe:=@Nat.min_eq_right
abbrev Ff:=@PySem.W.callWith_K
abbrev Fg:=@PySem.tupleKind_room_in1
abbrev Fh:=@List.filter_append
abbrev Fi:=@PySem.W.methodCall_KW
abbrev Fj:=@List.pairwise_iff_getElem
abbrev Fk:=@PySem.wpAny_passesOwn
abbrev Fl:=@Option.map_some
abbrev Fm:=@Nat.min_eq_left
abbrev Fn:=@PySem.wpAny_truthy_bool
abbrev Fo:=@List.append_assoc
abbrev Fp:=@PySem.codeAny_call_builtin
abbrev Fq:=@Int.toNat_natCast
abbrev Fs:=@PySem.wpAny_standAt
abbrev Ft:=@PySem.plainId_quiet
abbrev Fu:=@List.map_drop
abbrev Fv:=@List.getElem?_range
abbrev Fw:=@List.flatMap_append
abbrev Fx:=@List.filter_sublist
abbrev Fy:=@PySem.Heap.size_push
abbrev Fz:=@List.getElem?_replicate
abbrev Ga:=@PySem.wpAny_getItem_str_slice
abbrev Gb:=@Nat.le_add_right
abbrev Gc:=@PySem.F.slot_list_index
abbrev Gd:=@List.eq_nil_of_length_eq_zero
abbrev Ge:=@PySem.wpAny_call
abbrev Gf:=@Nat.not_lt_zero
abbrev Gg:=@List.countP_eq_length_filter
abbrev Gh:=@List.map_take
abbrev Gi:=@List.mem_iff_getElem?
abbrev Gj:=@List.length_filter_le
abbrev Gk:=@List.getElem?_zipWith
abbrev Gm:=@PySem.wpAny_loadPart_at
abbrev Gp:=@List.flatMap_cons
abbrev Gq:=@PySem.Str.length_append
abbrev Gr:=@PySem.Heap.get?_none_of_le
abbrev Gu:=@PySem.call_meets
abbrev Gv:=@PySem.Calls.evalArgs_plain
abbrev Gw:=@List.getElem_toArray
abbrev Gx:=@PySem.wpAny_tryCatch
abbrev Gy:=@List.getElem_inj
abbrev Gz:=@PySem.call_meetsIn
abbrev Ha:=@List.take_succ_cons
abbrev Hb:=@Int.toNat_of_nonneg
abbrev He:=@Bool.eq_iff_iff
abbrev Hh:=@List.of_mem_zip
abbrev Hi:=@beq_iff_eq
abbrev Hj:=@List.filterMap_map
abbrev Hk:=@PySem.F.args_dict_get_2
abbrev Hl:=@Bool.false_and
abbrev Hm:=@List.take_sublist
abbrev Hn:=@PySem.wpAny_Call_method_late
abbrev Ho:=@PySem.Calls.callWith_builtin
abbrev Hq:=@PySem.wpAny_newObj_type
abbrev Hr:=@PySem.wpAny_pyIter_enum
abbrev Ht:=@PySem.F.entry_max_loop
abbrev Hv:=@List.drop_eq_nil_of_le
abbrev Hw:=@List.take_zero
abbrev Hx:=@PySem.F.slot_str_split
abbrev Hy:=@PySem.F.type_str_split
abbrev Hz:=@PySem.wpAny_call_entry
abbrev Ia:=@List.mem_flatMap
abbrev Ib:=@List.ext_getElem
abbrev Ic:=@List.any_cons
abbrev Ie:=@PySem.sizeLine_eq
abbrev Ig:=@Nat.le_succ
abbrev Ih:=@Int.le_refl
abbrev Ii:=@List.map_nil
abbrev Ij:=@List.all_map
abbrev Ik:=@LawfulBEq.eq_of_beq
abbrev Il:=@PySem.typeIs_str
namespace L2
open PySem PySem.Spec PyProof.Rows
variable {A:Around}{C a b dx:Addr}{E Q:Q0}{K:W.Frag}{M:Model}{N ps:List Str}{P:Program}{body:List Stmt}{ch fp:List Addr}{e tg:Expr}{es:List Expr}{f:Value->Value->Sem Value}{h h':Heap}{i k t':Nat}{kindOf:Str->Option NameKind}{kw:List (Str×Value)}{y2:Q2}{pl:Sem Bool}{pos:Pos}{s:Shared}{u:Value}{us:List Value}{w:World}{x:Str}
abbrev Key:=Sum Int Str
noncomputable def oE:Key->Value->Bool
 |.inl k,v=>Value.isInt k v
 |.inr x,v=>Value.isStrOf x v
noncomputable def Om(w:World):Key->Int
 |.inl k=>hashInt k
 |.inr x=>hashStr w x
def bW:∀ {k:Key} {v:Value},oE k v=true->(∃i t,k=Sum.inl i/\v=Value.int i t)\/(∃x t,k=Sum.inr x/\v=Value.str x t)
 |.inl i,v,h=>by
  obtain⟨t,e⟩:=Value.isInt_shape   h;exact .inl ⟨i,t,rfl,e⟩
 |.inr x,v,h=>by
  obtain⟨t,e⟩:=Value.isStrOf_shape   h;exact .inr ⟨x,t,rfl,e⟩
def MY(i:Int)(t:Tok):oE (.inl i) (.int i t)=true:=by simp[oE,Value.isInt]
def nN(x:Str)(t:Tok):oE (.inr x) (.str x t)=true:=by simp[oE,Value.isStrOf]
def GN(a b:Int):decide ((Sum.inl a:Key)=Sum.inl b)=(a==b):=by grind
def JW(a b:Str):decide ((Sum.inr a:Key)=Sum.inr b)=decide (a=b):=by grind
def Kg(a:Int)(b:Str):decide ((Sum.inl a:Key)=Sum.inr b)=false:=Aw (λq=>nomatch q)
def CW(a:Str)(b:Int):decide ((Sum.inr a:Key)=Sum.inl b)=false:=Aw (λq=>nomatch q)
noncomputable def bG(prog:Program)(w:World):PySem.KeyKind prog w Key where
 is:=oE
 hash:=Om w
 inj:=λv a b l f=>by
  rcases bW l with⟨i,t,rfl,rfl⟩|⟨x,t,rfl,rfl⟩
  .rcases bW f with⟨j,u,rfl,e⟩|⟨y,u,rfl,e⟩
   .injection e with c _;rw[c]
   .exact nomatch e
  .rcases bW f with⟨j,u,rfl,e⟩|⟨y,u,rfl,e⟩
   .exact nomatch e
   .injection e with c _;rw[c]
 byValue:=λk v h=>by
  rcases bW h with⟨i,t,rfl,rfl⟩|⟨x,t,rfl,rfl⟩ <;> rfl
 pyHash:=λd h=>by
  rcases bW d with⟨i,t,rfl,rfl⟩|⟨x,t,rfl,rfl⟩
  .exact wpAny_pyHash_int h
  .exact wpAny_pyHash_str h
 eqBool:=λg d h=>by
  rcases bW g with⟨i,t,rfl,rfl⟩|⟨x,t,rfl,rfl⟩
  .rcases bW d with⟨j,u,rfl,rfl⟩|⟨y,u,rfl,rfl⟩
   .rw[GN]at h;exact wpAny_eqBool_int h
   .rw[Kg]at h;exact SeqAt.EqAt.int_str i t y u _ _ _ _ h
  .rcases bW d with⟨j,u,rfl,rfl⟩|⟨y,u,rfl,rfl⟩
   .rw[CW]at h;exact SeqAt.EqAt.str_int x t j u _ _ _ _ h
   .rw[JW]at h;exact wpAny_eqBool_str h
 «strs» := λk x t v h=>by
  rcases bW h with⟨i,u,rfl,e⟩|⟨y,u,rfl,e⟩
  .exact nomatch e
  .injection e with c _
   subst c;cases v<;>rfl
def Kl(prog:Program)(w:World)(i:Int)(t:Tok):(bG prog w).is (.inl i) (.int i t)=true:=MY i t
def LC(prog:Program)(w:World)(x:Str)(t:Tok):(bG prog w).is (.inr x) (.str x t)=true:=nN x t
inductive V where
 |non|bl (b:Bool)|int (i:Int)|str (x:Str)|byt (b:Array UInt8)|flt (b:UInt64)|ref (a:Addr)|ty (n:String)
 deriving DecidableEq
variable {v:V}{xs:List V}
def RelV:V->Value->Prop
 |.non,u=>u=Value.none
 |.bl b,u=>u=Value.bool b
 |.int i,u=>∃t,u=Value.int i t
 |.str x,u=>∃t,u=Value.str x t
 |.byt b,u=>∃t,u=Value.bytes b t
 |.flt b,u=>∃t,u=Value.float b t
 |.ref a,u=>u=Value.ref a
 |.ty n,u=>u=Value.type n
abbrev Vals:List V->List Value->Prop:=Paired RelV
def Vals.length(r:Vals xs us):xs.length=us.length:=Paired.length r
def Vals.get:∀ {a:List V} {b:List Value} {i:Nat} {x:V},Vals a b->a[i]?=some x->∃u,b[i]?=some u/\RelV x u
 |_,_,_,_,.nil,e=>by simp at e
 |_,_,0,_,.cons r _,e=>by simp at e;subst e;exact⟨_,rfl,r⟩
 |_,_,i+1,x,.cons _ t,e=>by
  obtain⟨u,d,c⟩:=Vals.get   t (by simpa using e)
  simp_all
def Vals.set{x:V}(r:RelV x u):∀ {a:List V} {b:List Value} (i:Nat),Vals a b->Vals (a.set i x) (b.set i u)
 |_,_,_,.nil=>.nil
 |_,_,0,.cons _ t=>.cons r t
 |_,_,i+1,.cons q t=>.cons q (Vals.set r i t)
def Vals.append:∀ {b a:List V} {d c:List Value},Vals b d->Vals a c->Vals (b++a) (d++c)
 |_,_,_,_,.nil,s=>s
 |_,_,_,_,.cons r t,s=>.cons r (Vals.append t s)
def Vals.take:∀ {a:List V} {b:List Value} (n:Nat),Vals a b->Vals (a.take n) (b.take n)
 |_,_,0,_=>.nil
 |_,_,_+1,.nil=>.nil
 |_,_,n+1,.cons r t=>.cons r (Vals.take n t)
def Vals.drop:∀ {a:List V} {b:List Value} (n:Nat),Vals a b->Vals (a.drop n) (b.drop n)
 |_,_,0,r=>r
 |_,_,_+1,.nil=>.nil
 |_,_,n+1,.cons _ t=>Vals.drop n t
def Zq:Option V->Option Value->Prop
 |some v,some u=>RelV v u
 |none,none=>True
 |_,_=>False
def KV{a:Type}:List (a×V)->List (a×Value)->Prop:=Paired λp q=>p.1=q.1/\RelV p.2 q.2
noncomputable def kV:Key->V
 |.inl i=>.int i
 |.inr x=>.str x
inductive HO where
 |lst (xs:List V)
 |tup (xs:List V)
 |dK (kvs:List (Key×V))|dT (kvs:List (List Key×V))
 |set (S:Int->Bool) (n:Nat)
 |ins (C dx:Addr) (fs:List (Str×V))
 |own (x:Addr)
 |xd (fs:List (Str×V))
 |met (f x:Addr)
 |rng (lo hi:Int)
 |frz (o:Obj) (u:HO)
 |tbl (ps:Array Value)
 |ext (φ:Heap->Prop)
variable {o:HO}
abbrev Hp:=Addr->Option HO
variable {H:Hp}
noncomputable def upd(H:Hp)(a:Addr)(o:HO):Hp:=λb=>if b=a then some o else H b
def aD:upd H a o a=some o:=by unfold upd;rw[if_pos rfl]
def aH(h:b≠a):upd H a o b=H b:=by unfold upd;rw[if_neg h]
def Ra{u:HO}:upd (upd H a o) a u=upd H a u:=by
 funext b;unfold upd;split<;>rfl
def KN{u:HO}(h:H a=some o)(h':H b=some u)(d:o≠u):a≠b:=by grind
def bH(h:H a=some o)(h':H b=none):a≠b:=by grind
section
variable (P:Program) (w:World)
def ZZ(H:Hp)(h:Heap)(a:Addr):HO->Prop
 |.lst d=>d.length<=sizeLine/\∃c n,Vals d c/\h.get? a=some {cls:=.type "list",data:=.seq c.toArray n}
 |.tup d=>d.length<=sizeLine/\∃c,Vals d c/\IsTup h a c.toArray
 |.dK b=>b.length<=sizeLine/\(a==sysModules)=false/\∃k,KV b k/\h.DictOf (bG P w) a k
 | .dT b=>b.length<=sizeLine/\(a == sysModules)=false/\∃ d,
     Paired (λp q=>p.1=q.1/\H q.2.1=some (.tup (p.1.map kV))/\RelV p.2 q.2.2) b d/\
     ∃o r A,h.get? a=some o/\o.ExactDict/\o.data=.dict r A/\r.toList=d.map (entryOfKey (tupleKind (bG P w)))/\(d.map (·.1)).Nodup
 |.set S n=>h.SetOf (intKind P w) a S n
 | .ins C i g=>H i=some (.own a)/\g.length<=1000/\i≠a/\h.get? a=some (W.instObj C i)/\
     ∃e,h.Ns1 i e/\(∀f,Zq (g.lookup f) (e f))/\PySem.Within e (g.map (·.1))
 |.own _=>∃o,h.get? a=some o
 |.xd g=>∃e,h.Ns1 a e/\∀f,Zq (g.lookup f) (e f)
 |.rng y z=>∃t u v,h.get? a=some {cls:=.type "range",data:=.fields #[.int y t,.int z u,.int 1 v]}
 |.frz o u=>h.get? a=some o/\ZZ H h a u
 |.tbl s=>h.get? a=some {cls:=.none,data:=.fields s}
 |.met f x=>h.get? a=some (W.methodObj (.ref f) (.ref x))
 |.ext j=>j h/\(∃o,h.get? a=some o)/\∀m l,j m->(∀o,m.get? a=some o->l.get? a=some o)->j l
def Zl(H:Hp)(h:Heap):Prop:=∀a o,H a=some o->ZZ P w H h a o
end
section
variable {H':Hp}
def ZZ.lt(x:ZZ P w H h a o):a<h.objs.size:=by
 cases o with
 |lst c=>obtain⟨_,_,_,_,e⟩:=x;exact Ax e
 |tup c=>obtain⟨_,_,_,p⟩:=x;exact p.lt
 |dK b=>obtain⟨_,_,_,_,o,_,_,e,_⟩:=x;exact Ax e
 |dT b=>obtain⟨_,_,_,_,o,_,_,e,_⟩:=x;exact Ax e
 |set S n=>obtain⟨o,_,_,_,e,_⟩:=x;exact Ax e
 |ins C m d=>obtain⟨_,_,_,e,_⟩:=x;exact Ax e
 |own y=>obtain⟨_,e⟩:=x;exact Ax e
 |xd d=>obtain⟨_,⟨_,_,_,e,_⟩,_⟩:=x;exact Ax e
 |rng k l=>obtain⟨_,_,_,e⟩:=x;exact Ax e
 |frz j u=>obtain⟨e,_⟩:=x;exact Ax e
 |tbl i=>exact Ax (show h.get? a=some _ from x)
 |met f y=>exact Ax (show h.get? a=some _ from x)
 |ext g=>obtain⟨_,⟨_,e⟩,_⟩:=x;exact Ax e
def Paired.Wh{g e:Type}{F G:g->e->Prop}:∀ {d:List g} {c:List e},Paired F d c->(∀a b,F a b->G a b)->Paired G d c
 |_,_,.nil,_=>.nil
 |_,_,.cons r t,f=>.cons (f _ _ r) (Paired.Wh t f)
def ZZ.ZD(x:ZZ P w H h a o)(k:∀b u,(b=a\/H b=some (.own a))->h.get? b=some u->h'.get? b=some u)(K:∀b,H b=some (.own a)->H' b=some (.own a))(J:∀b m,H b=some (.tup m)->H' b=some (.tup m)):ZZ P w H' h' a o:=by
 induction o with
 |lst m=>obtain⟨z,l,n,r,e⟩:=x;exact⟨z,l,n,r,k _ _ (.inl rfl) e⟩
 |tup m=>obtain⟨z,l,r,g,e,c⟩:=x;exact⟨z,l,r,g,k _ _ (.inl rfl) e,c⟩
 |dK B=>obtain⟨z,y,F,r,g,i,j,e,c⟩:=x;exact⟨z,y,F,r,g,i,j,k _ _ (.inl rfl) e,c⟩
 |dT B=>
  obtain⟨z,y,m,r,g,i,j,e,c⟩:=x;exact⟨z,y,m,Paired.Wh r λp q z=>⟨z.1,J _ _ z.2.1,z.2.2⟩,g,i,j,k _ _ (.inl rfl) e,c⟩
 |set S n=>obtain⟨g,i,j,t,e,c⟩:=x;exact⟨g,i,j,t,k _ _ (.inl rfl) e,c⟩
 |ins C R L=>
  obtain⟨d,z,G,e,A,⟨s,i,j,M,c⟩,r⟩:=x;exact⟨K _ d,z,G,k _ _ (.inl rfl) e,A,⟨s,i,j,k _ _ (.inr d) M,c⟩,r⟩
 |own y=>obtain⟨g,e⟩:=x;exact⟨g,k _ _ (.inl rfl) e⟩
 |xd L=>obtain⟨A,⟨s,i,j,e,c⟩,r⟩:=x;exact⟨A,⟨s,i,j,k _ _ (.inl rfl) e,c⟩,r⟩
 |rng O Q=>obtain⟨t,u,v,e⟩:=x;exact⟨t,u,v,k _ _ (.inl rfl) e⟩
 |frz g u I=>obtain⟨e,q⟩:=x;exact⟨k _ _ (.inl rfl) e,I q⟩
 |tbl E=>
  have e:=x
  show h'.get? a=some {cls:=.none,data:=.fields E}
  exact k a _ (.inl rfl) e
 |met f y=>
  have e:=x
  exact k a _ (.inl rfl) e
 |ext N=>obtain⟨p,⟨o,e⟩,D⟩:=x;exact⟨D _ _ p λo q=>k _ _ (.inl rfl) q,⟨o,k _ _ (.inl rfl) e⟩,D⟩
def Zl.lt(x:Zl P w H h)(e:H a=some o):a<h.objs.size:=(x a o e).lt
def Zl.fresh(x:Zl P w H h)(e:h.objs.size<=a):H a=none:=by
 cases q:H a with
 |none=>rfl
 |some u=>exact absurd (Bc (x.lt q) e) (Dc _)
def Zl.kept(x:Zl P w H h)(k:∀b u,h.get? b=some u->h'.get? b=some u):Zl P w H h':=λa o e=>
 (x a o e).ZD (λb u _ q=>k b u q) (λ_ q=>q) λ_ _ q=>q
def Zl.laid(x:Zl P w H h)(k:∀b u,h.get? b=some u->h'.get? b=some u)(i:h.objs.size<=a)(d:ZZ P w (upd H a o) h' a o):Zl P w (upd H a o) h':=λb u e=>by
 have f:=x.fresh i
 by_cases g:b=a
 .subst g;rw[aD]at e;cases e;exact d
 .rw[aH g]at e;exact(x b u e).ZD (λc v _ q=>k c v q) (λc q=>by rwa[aH (bH q f)]) λc j q=>by rwa[aH (bH q f)]
end
def Rd(H:Hp)(a:Addr)(u:HO):Prop:=H a=some u\/∃o,H a=some (.frz o u)
def Rd.ok{u:HO}(r:Rd H a u)(x:Zl P w H h):ZZ P w H h a u:=by
 rcases r with r|⟨o,r⟩
 .exact x a u r
 .obtain⟨_,q⟩:=x a _ r;exact q
def Vl:Option HO->Prop
 |some (.lst _)=>True
 |some (.dK _)=>True
 |some (.dT _)=>True
 |some (.set _ _)=>True
 |some (.ins _ _ _)=>True
 |some (.ext _)=>True
 |_=>False
section
variable {x e:Addr} {o':HO}
def Zl.write(ok:Zl P w H h)(i:Vl (H x))(s:e=x\/H e=some (.own x))(k:∀b u,b≠e->h.get? b=some u->h'.get? b=some u)(n:∃u,h'.get? e=some u)(m:ZZ P w (upd H x o') h' x o'):Zl P w (upd H x o') h':=λb u q=>by
 have d:∀c y,H c=some (.own y)->c≠x:=λc y r z=>by subst z;rw[r]at i;exact i
 have f:∀c g,H c=some (.tup g)->c≠x:=λc g r z=>by subst z;rw[r]at i;exact i
 by_cases l:b=x
 .subst l;rw[aD]at q;cases q;exact m
 .rw[aH l]at q;by_cases a:b=e
  .have p:H b=some (.own x):=by
    rcases s with z|z
    .exact absurd (a.trans z) l
    .rw[a];exact z
   rw[q]at p;cases p;obtain⟨v,t⟩:=n;exact⟨v,by rw[a];exact t⟩
  .refine(ok b u q).ZD (λc v j r=>k c v ?_ r) (λc r=>by rw[aH (d c b r)];exact r) λc g r=>by rw[aH (f c g r)];exact r
   grind
end
structure Un (fs ex:List Addr) (H H':Hp) (h h':Heap):Prop where
 keep:∀b o,h.get? b=some o->H b=none->b∉fs->b∉ex->h'.get? b=some o
 slot:∀b o,h.get? b=some o->H b=none->b∈fs->b∉ex->∃sl,h'.get? b=some {o with slots:=sl}
 free:∀b o,h.get? b=some o->H b=none->b∉ex->H' b=none
 there:∀b o,h.get? b=some o->b∉ex->∃o',h'.get? b=some o'
 tups:∀b xs,H b=some (.tup xs)->H' b=some (.tup xs)
 frzs:∀b o u,H b=some (.frz o u)->H' b=some (.frz o u)
 tbls:∀b ps,H b=some (.tbl ps)->∃more,H' b=some (.tbl (ps++more))
section
variable {fs fs' ex ex':List Addr} {H1 H2:Hp} {h1 h2:Heap} {x e:Addr}
def Un.any(u:Un fs ex H H1 h h1){a:Obj}(q:h.get? b=some a)(n:H b=none)(c:b∉ex):∃e,h1.get? b=some {a with slots:=e}:=by
 by_cases d:b∈fs
 .exact u.slot b a q n d c
 .exact⟨a.slots,u.keep b a q n d c⟩
def Un.trans(a:Un fs ex H H1 h h1)(b:Un fs ex H1 H2 h1 h2):Un fs ex H H2 h h2 where
 keep:=λc d q n i e=>b.keep c d (a.keep c d q n i e) (a.free c d q n e) i e
 slot:=λc d q n i e=>by
  obtain⟨s,f⟩:=a.slot c d q n i e;obtain⟨j,l⟩:=b.slot c _ f (a.free c d q n e) i e;exact⟨j,l⟩
 free:=λc d q n e=>by
  obtain⟨k,f⟩:=a.there c d q e;exact b.free c k f (a.free c d q n e) e
 there:=λc d q e=>by
  obtain⟨k,f⟩:=a.there c d q e;exact b.there c k f e
 tups:=λc g q=>b.tups c g (a.tups c g q)
 frzs:=λc d g q=>b.frzs c d g (a.frzs c d g q)
 tbls:=λc m q=>by
  obtain⟨r,f⟩:=a.tbls c m q;obtain⟨p,l⟩:=b.tbls c _ f;grind
def Un.kept(k:∀b u,h.get? b=some u->h'.get? b=some u):Un fs ex H H h h':=
 ⟨λb a q _ _ _=>k b a q,λb a q _ _ _=>⟨a.slots,k b a q⟩,λ_ _ _ n _=>n,λb a q _=>⟨a,k b a q⟩,λ_ _ q=>q,λ_ _ _ q=>q,λ_ c q=>⟨#[],by rw[q];simp⟩⟩
def Un.refl:Un fs ex H H h h:=Un.kept λ_ _ q=>q
def Un.laid(k:∀b u,h.get? b=some u->h'.get? b=some u)(e:h.objs.size<=a)(c:H a=none):Un fs ex H (upd H a o) h h' where
 keep:=λb u q _ _ _=>k b u q
 slot:=λb u q _ _ _=>⟨u.slots,k b u q⟩
 free:=λb u q n _=>by rwa[aH (Bl (Bc (Ax q) e))]
 there:=λb u q _=>⟨u,k b u q⟩
 tups:=λb d q=>by rwa[aH (bH q c)]
 frzs:=λb u d q=>by rwa[aH (bH q c)]
 tbls:=λb f q=>⟨#[],by rw[aH (bH q c),q];simp⟩
def Un.write(c:Vl (H x))(m:e=x\/H e=some (.own x))(k:∀b u,b≠e->h.get? b=some u->h'.get? b=some u)(f:∃u,h'.get? e=some u):Un fs ex H (upd H x o) h h':=by
 have g:∀b,H b=none->b≠x:=λb n z=>by subst z;rw[n]at c;exact c
 have i:∀b,H b=none->b≠e:=λb n z=>by grind
 have d:∀b u,H b=some u->¬Vl (some u)->b≠x:=λb u q l z=>by grind
 refine⟨λb u q n _ _=>k b u (i b n) q,λb u q n _ _=>⟨u.slots,k b u (i b n) q⟩,λb u q n _=>by rw[aH (g b n)];exact n,λb u q _=>?_,
  λb j q=>by rw[aH (d b _ q λz=>z)];exact q,λb u j q=>by rw[aH (d b _ q λz=>z)];exact q,λb p q=>⟨#[],by rw[aH (d b _ q λz=>z),q];simp⟩⟩
 grind
def Un.mono(u:Un fs ex H H1 h h1)(hs:∀b∈fs,b∈fs')(d:∀b∈ex,b∈ex'):Un fs' ex' H H1 h h1:=
 ⟨λb c q n e a=>u.keep b c q n (λz=>e (hs b z)) λz=>a (d b z),λ_ _ q n _ a=>u.any q n λz=>a (d _ z),λb c q n a=>u.free b c q n λz=>a (d b z),λb c q a=>u.there b c q λz=>a (d b z),u.tups,u.frzs,u.tbls⟩
end
noncomputable def Q9(h:Heap)(H:Hp):List Addr:=(List.range h.objs.size).filter λa=>(H a).isSome
noncomputable def yW(h:Heap)(H:Hp):Heap:=W.hideAll h (Q9 h H)
def A3(h:Heap)(H:Hp):(yW h H).objs.size=h.objs.size:=W.hideAll_size _ _
def BP{o:Obj}(e:h.get? b=some o)(n:H b=none):(yW h H).get? b=some o:=
 W.hideAll_get _ e λa=>by
  have q:=(Dg.mp a).2
  grind
def J1{o:Obj}(e:(yW h H).get? b=some o):h.get? b=some o/\H b=none:=by
 have a:=W.of_hideAll _ e
 refine⟨a,?_⟩;cases q:H b with
 |none=>rfl
 |some x=>
  have c:b∈Q9 h H:=List.mem_filter.mpr ⟨List.mem_range.mpr (Heap.lt_size a),by simp[q]⟩
  have z:(yW h H).get? b=none:=W.hideAll_none _ c
  grind
noncomputable def JG(g h:Heap)(L:Addr):List (Addr×Obj):=(List.range h.objs.size).filterMap λa=>if a=L\/(g.get? a).isSome=true then none else (h.get? a).map λo=>(a,o)
noncomputable def rest(g h:Heap)(L d:Addr):List (Addr×Obj):=(JG g h L).filter λp=>decide (p.1≠d)
structure Mod (K:W.Frag) (mg:Str->Option Value) (base:Heap):Prop where
 Wy:K.In base
 glob:base.Ns mainGlobals mg
 blt:∃mb,base.Ns builtinsNs mb/\∀x:Str,x≠"__name__"->mb x=bootBuiltins x
 nolimit:base.NoLimit
structure Cx where
 prog:Program
 w:World
 K:W.Frag
 mg:Str->Option Value
 base:Heap
 A:Around
 N:List Str
 s₀:Shared
 H₀:Hp
 env:Env
 outer:List Env
 stack:List Env
 ex:List Addr
 fn:Str->Bool
 calm:Bool
 pn:List (Addr×Obj)
 xe:Value->Shared->Prop
variable {X:Cx}
noncomputable def YW(l:List Env):List Addr:=l.filterMap (·.frame)
noncomputable abbrev Cx.fs(X:Cx):List Addr:=YW X.outer
def T8(a:Scope)(x:Str):Prop:=a.names.lookup x=some .local\/a.names.lookup x=some .cell\/a.names.lookup x=some .free
def Loc(a:Scope)(x:Str):Prop:=a.names.lookup x=some .local\/a.names.lookup x=some .cell
def JK(a:Env)(h:Heap)(m:Str->Option Value)(x:Str)(u:Value):Prop:=
 (a.kindOf x=some .local/\m x=some u)\/((a.kindOf x=some .cell\/a.kindOf x=some .free)/\∃c,a.cells.lookup x=some c/\h.IsCell c (some u))
structure Cx.Ok (X:Cx):Prop where
 mod:Mod X.K X.mg X.base
 kind:X.env.scope.kind=.function
 glob:X.env.globals=mainGlobals
 blt:X.env.builtins=builtinsNs
 above:X.s₀.heap.objs.size<=X.env.locals
 inj:∀x y c,X.env.cells.lookup x=some c->X.env.cells.lookup y=some c->x=y
 has:∀x,(X.env.kindOf x=some .cell\/X.env.kindOf x=some .free)->∃c,X.env.cells.lookup x=some c
 Wu:∀x c,X.fn x=true->X.env.cells.lookup x=some c->X.s₀.heap.objs.size<=c
 hd:X.calm=true->X.A.handled=none
 frames:X.A.frames=some X.stack
 Wd:X.stack=X.outer\/(X.stack=X.env::X.outer/\X.env.frame=some X.env.locals)
 VL:∀b∈X.ex,b≠X.env.locals/\∀x c,X.env.cells.lookup x=some c->c≠b
 bs:∀b o,X.base.get? b=some o->X.s₀.heap.get? b=some o/\X.H₀ b=none
 XN:X.base.objs.size<=X.s₀.heap.objs.size
 X1:∀b o,X.base.get? b=some o->b∉X.ex
 X5:∀b∈X.ex,b∉X.fs
 Zk:X.s₀.heap.FunFrames X.base X.outer
 WV:∀b∈X.fs,X.H₀ b=none
structure Inv (X:Cx) (y2:List (Addr×Obj)) (U:List (Option V)) (H:Hp) (s:Shared):Prop where
 ok:X.Ok
 os:s.os=X.s₀.os
 bare:AllBare s.gens
 base:Un X.fs X.ex X.H₀ H X.s₀.heap s.heap
 loc:∃m,s.heap.Ns X.env.locals m/\∀(i:Nat) (x:Str) (v:V),X.N[i]?=some x->U[i]?=some (some v)->T8 X.env.scope x->∃u,RelV v u/\JK X.env s.heap m x u
 cell:∀x c,X.env.cells.lookup x=some c->∃v,s.heap.IsCell c v
 free:H X.env.locals=none
 ZN:∀x c,X.env.cells.lookup x=some c->H c=none
 pin:∀p∈X.pn++y2,s.heap.get? p.1=some p.2/\H p.1=none/\p.1≠X.env.locals/\p.1∉X.fs/\∀v,p.2.data≠.cell v
 Z3:Zl X.prog X.w H s.heap
 len:U.length=X.N.length
section
variable {U:List (Option V)} {H':Hp}
def Cx.Ok.SF(ok:X.Ok){o:Obj}(e:X.base.get? b=some o):b∉X.fs:=λa=>by
 have:=(ok.Zk.mem a).1
 grind
def Inv.bs(I:Inv X y2 U H s):∀b o,X.base.get? b=some o->s.heap.get? b=some o/\H b=none:=λb o e=>
 ⟨I.base.keep b o (I.ok.bs b o e).1 (I.ok.bs b o e).2 (I.ok.SF e) (I.ok.X1 b o e),I.base.free b o (I.ok.bs b o e).1 (I.ok.bs b o e).2 (I.ok.X1 b o e)⟩
def Inv.bk(I:Inv X y2 U H s):∀b o,X.base.get? b=some o->s.heap.get? b=some o:=λb o e=>(I.bs b o e).1
def Inv.mod(I:Inv X y2 U H s):Mod X.K X.mg X.base:=I.ok.mod
def Inv.ZA(I:Inv X y2 U H s):X.K.In s.heap:=I.ok.mod.Wy.keeps I.bk
def Inv.nolimit(I:Inv X y2 U H s):s.heap.NoLimit:=I.ok.mod.nolimit.keeps I.bk
def Inv.fr(I:Inv X y2 U H s):∃m,Fr X.base X.env.locals s.heap m:=
 let ⟨m,a,_⟩:=I.loc
 ⟨m,a,I.bk,Bh I.ok.XN I.ok.above⟩
def Inv.lt(I:Inv X y2 U H s):X.env.locals<s.heap.objs.size:=let ⟨_,a,_⟩:=I.loc;a.lt
def Inv.sz(I:Inv X y2 U H s):X.s₀.heap.objs.size<=s.heap.objs.size:=Bh I.ok.above (Nat.le_of_lt I.lt)
def Inv.RW(I:Inv X y2 U H s)(h:s.heap.objs.size<=a):a∉X.fs:=λc=>by
 obtain⟨_,o,b,_⟩:=I.ok.Zk.mem c;exact absurd (Bc (Ax b) (Bh I.sz h)) (Dc _)
def Inv.VB(I:Inv X y2 U H s):∀x c,X.env.cells.lookup x=some c->c≠X.env.locals:=λx c e z=>by
 obtain⟨v,o,d,f⟩:=I.cell x c e;obtain⟨m,⟨g,h,i,a,b,_⟩,_⟩:=I.loc;grind
def Inv.Zk(I:Inv X y2 U H s):s.heap.FunFrames X.base X.outer:=by
 have f:∀l,(∀b∈YW l,b∈X.fs)->X.s₀.heap.FunFrames X.base l->s.heap.FunFrames X.base l:=by
  intro l;induction l with
  |nil=>intro _ _;trivial
  |cons q r h=>
   intro g m;obtain⟨n,⟨L,o,a,k,j,p⟩,i⟩:=m;have d:=g L (by unfold YW;rw[Ey,a];exact Ak)
   obtain⟨t,e⟩:=I.base.slot L o j (I.ok.WV L d) d λz=>I.ok.X5 L z d;exact⟨n,⟨L,_,a,k,e,p⟩,h (λb c=>g b (by unfold YW;rw[Ey,a];exact Al _ c)) i⟩
 exact f X.outer (λ_ c=>c) I.ok.Zk
def Inv.stack(I:Inv X y2 U H s):s.heap.FunFrames X.base X.stack:=by
 rcases I.ok.Wd with e|⟨e,b⟩
 .rw[e];exact I.Zk
 .rw[e];obtain⟨m,a,_⟩:=I.loc;refine .cons (by rw[I.ok.kind];decide) b a ?_ I.Zk
  exact Gr (Bh I.ok.XN I.ok.above)
def Inv.Yi(I:Inv X y2 U H s):∀b∈YW X.stack,b∈X.env.locals::X.fs:=λb a=>by
 rcases I.ok.Wd with e|⟨e,c⟩
 .rw[e]at a;exact Al _ a
 .rw[e]at a;unfold YW at a;rwa[Ey,c]at a
def Inv.Y4(I:Inv X y2 U H s):∀b∈YW X.stack,H b=none:=λb a=>by
 rcases Bb.mp (I.Yi b a) with e|a
 .rw[e];exact I.free
 .obtain⟨_,o,c,_⟩:=I.ok.Zk.mem a;exact I.base.free b o c (I.ok.WV b a) λz=>I.ok.X5 b z a
def Inv.step{ch:List Addr}(I:Inv X y2 U H s)(A:∀b∈ch,(b∈X.ex\/X.s₀.heap.objs.size<=b)/\b≠X.env.locals/\(∀x c,X.env.cells.lookup x=some c->c≠b)/\∀p∈X.pn++y2,p.1≠b)(y:∀b o,b≠X.env.locals->b∉X.fs->b∉ch->s.heap.get? b=some o->H b=none->h'.get? b=some o)(F:∀b o,b≠X.env.locals->b∈X.fs->b∉ch->s.heap.get? b=some o->H b=none->∃V,h'.get? b=some {o with slots:=V})(f:∀b o,b∉ch->s.heap.get? b=some o->H b=none->H' b=none)(G:∀b o,b∉ch->s.heap.get? b=some o->∃N,h'.get? b=some N)(L:∀b E,H b=some (.tup E)->H' b=some (.tup E))(Q:∀b o u,H b=some (.frz o u)->H' b=some (.frz o u))(M:∀b S,H b=some (.tbl S)->∃P,H' b=some (.tbl (S++P)))(ns:∀m,s.heap.Ns X.env.locals m->h'.Ns X.env.locals m)(W:Zl X.prog X.w H' h')(hg:AllBare g'):Inv X y2 U H' {s with heap:=h',gens:=g',drawn:=d',toks:=t'}:=by
 have O:∀b o,X.s₀.heap.get? b=some o->b≠X.env.locals:=λb o e=>Bl (Bc (Ax e) I.ok.above)
 have C:∀b o,X.s₀.heap.get? b=some o->b∉X.ex->b∉ch:=λb o e a J=>by
  rcases (A b J).1 with z|z
  .exact a z
  .exact absurd (Bc (Ax e) z) (Dc _)
 have B:∀x c,X.env.cells.lookup x=some c->∀v,s.heap.IsCell c v->h'.IsCell c v:=λx c e v ⟨o,K,Y⟩=>by
  have j:=λz=>(A c z).2.2.1 x c e rfl
  by_cases hc:c∈X.fs
  .obtain⟨V,q⟩:=F c o (I.VB x c e) hc j K (I.ZN x c e);exact⟨_,q,Y⟩
  .exact⟨o,y c o (I.VB x c e) hc j K (I.ZN x c e),Y⟩
 refine⟨I.ok,I.os,hg,⟨λb o e n J a=>?_,λb o e n J a=>?_,λb o e n a=>?_,λb o e a=>?_,λb E e=>L b E (I.base.tups b E e),λb o E e=>Q b o E (I.base.frzs b o E e),λb S e=>?_⟩,?_,λx c e=>?_,?_,λx c e=>?_,λp hp=>?_,W,I.len⟩
 .exact y b o (O b o e) J (C b o e a) (I.base.keep b o e n J a) (I.base.free b o e n a)
 .obtain⟨V,D⟩:=I.base.slot b o e n J a;obtain⟨T,R⟩:=F b _ (O b o e) J (C b o e a) D (I.base.free b o e n a);exact⟨T,R⟩
 .obtain⟨N,D⟩:=I.base.there b o e a;exact f b N (C b o e a) D (I.base.free b o e n a)
 .obtain⟨N,D⟩:=I.base.there b o e a;exact G b N (C b o e a) D
 .obtain⟨m1,D⟩:=I.base.tbls b S e;obtain⟨m2,R⟩:=M b _ D;exact⟨m1++m2,by rw[R,Array.append_assoc]⟩
 .obtain⟨m,hn,hl⟩:=I.loc;refine⟨m,ns m hn,λi x v D R e3=>?_⟩;obtain⟨u,r,l⟩:=hl i x v D R e3;refine⟨u,r,?_⟩;rcases l with l|⟨k,c,e,z⟩
  .exact .inl l
  .exact .inr ⟨k,c,e,B x c e _ z⟩
 .obtain⟨v,z⟩:=I.cell x c e;exact⟨v,B x c e v z⟩
 .obtain⟨m,⟨o,_,_,K,_⟩,_⟩:=I.loc;exact f _ o (λz=>(A _ z).2.1 rfl) K I.free
 .obtain⟨v,o,K,Y⟩:=I.cell x c e;exact f c o (λz=>(A c z).2.2.1 x c e rfl) K (I.ZN x c e)
 .obtain⟨e,n,ne,Z,d⟩:=I.pin p hp;have j:=λz=>(A p.1 z).2.2.2 p hp rfl
  exact⟨y p.1 p.2 ne Z j e n,f p.1 p.2 j e n,ne,Z,d⟩
def Inv.un{t':Nat}(I:Inv X y2 U H s)(u:Un X.fs [] H H' s.heap h')(c:Zl X.prog X.w H' h'):Inv X y2 U H' {s with heap:=h',toks:=t'}:=by
 obtain⟨m,⟨o,A,B,k,r⟩,_⟩:=id I.loc;obtain⟨v,q⟩:=u.any k I.free (by simp)
 exact I.step   (ch:=[]) (λ_ z=>nomatch z) (λb o _ f _ e n=>u.keep b o e n f (by simp)) (λb o _ f _ e n=>u.slot b o e n f (by simp)) (λb o _ e n=>u.free b o e n (by simp)) (λb o _ e=>u.there b o e (by simp)) u.tups u.frzs u.tbls (λy p=>by
  obtain⟨x,i,j,a,l⟩:=p;rw[k]at a;cases a;exact⟨_,i,j,q,l⟩) c I.bare
def Inv.call{t':Nat}{d':Drawn}{ch:List Addr}(I:Inv X y2 U H s)(u:Un (YW X.stack) ch H H' s.heap h')(j:Zl X.prog X.w H' h')(B:AllBare g')(i:∀b∈ch,(b∈X.ex\/X.s₀.heap.objs.size<=b)/\b≠X.env.locals/\(∀x c,X.env.cells.lookup x=some c->c≠b)/\∀p∈X.pn++y2,p.1≠b):Inv X y2 U H' {s with heap:=h',gens:=g',drawn:=d',toks:=t'}:=by
 obtain⟨m,⟨o,G,J,v,r⟩,_⟩:=id I.loc;obtain⟨D,k⟩:=u.any v I.free λz=>(i _ z).2.1 rfl;exact I.step  i (λb o k C a e n=>u.keep b o e n (λz=>(Bb.mp (I.Yi b z)).elim k C) a) (λb o _ _ a e n=>u.any e n a) (λb o a e n=>u.free b o e n a) (λb o a e=>u.there b o e a) u.tups u.frzs u.tbls (λF A=>by
  obtain⟨E,l,q,f,y⟩:=A;rw[v]at f;cases f;exact⟨_,l,q,k,y⟩) j B
def Inv.turned{t':Nat}{a:Addr}(I:Inv X y2 U H s)(k:∀b o,b≠a->s.heap.get? b=some o->h'.get? b=some o)(w:H a=none)(j:a≠X.env.locals)(D:a∈X.ex\/X.s₀.heap.objs.size<=a)(C:∀x c,X.env.cells.lookup x=some c->c≠a)(B:∀p∈X.pn++y2,p.1≠a):Inv X y2 U H {s with heap:=h',toks:=t'}:=by
 have i:∀b u,H b=some u->b≠a:=λb u e z=>by rw[z,w]at e;cases e
 refine I.step (g':=s.gens) (d':=s.drawn) (ch:=[a]) (λb A=>?_) (λb o _ _ f e _=>k b o (λz=>f (by simp[z])) e) (λb o _ _ f e _=>⟨o.slots,k b o (λz=>f (by simp[z])) e⟩) (λ_ _ _ _ n=>n)
  (λb o f e=>⟨o,k b o (λz=>f (by simp[z])) e⟩) (λ_ _ e=>e) (λ_ _ _ e=>e) (λb G e=>⟨#[],by rw[e];simp⟩) (λm y=>?_) (λb u e=>?_) I.bare
 .have e:b=a:=by simpa using A
  subst e;exact⟨D,j,C,B⟩
 .obtain⟨o,E,F,l,r⟩:=y;exact⟨o,E,F,k _ o (Ne.symm j) l,r⟩
 .refine(I.Z3 b u e).ZD (λc v f q=>k c v ?_ q) (λ_ q=>q) λ_ _ q=>q;grind
def Inv.tok(I:Inv X y2 U H s)(t:Nat):Inv X y2 U H {s with toks:=t}:=I.un   Un.refl I.Z3
def Inv.kept{t':Nat}(I:Inv X y2 U H s)(k:∀b u,s.heap.get? b=some u->h'.get? b=some u):Inv X y2 U H {s with heap:=h',toks:=t'}:=I.un (Un.kept k) (I.Z3.kept k)
def Inv.laid{a:Addr}{o:HO}{t':Nat}(I:Inv X y2 U H s)(k:∀b u,s.heap.get? b=some u->h'.get? b=some u)(d:s.heap.objs.size<=a)(c:ZZ X.prog X.w (upd H a o) h' a o):Inv X y2 U (upd H a o) {s with heap:=h',toks:=t'}:=I.un (Un.laid k d (I.Z3.fresh d)) (I.Z3.laid k d c)
def Inv.write{x e:Addr}{o:HO}{t':Nat}(I:Inv X y2 U H s)(d:Vl (H x))(f:e=x\/H e=some (.own x))(k:∀b u,b≠e->s.heap.get? b=some u->h'.get? b=some u)(a:∃u,h'.get? e=some u)(c:ZZ X.prog X.w (upd H x o) h' x o):Inv X y2 U (upd H x o) {s with heap:=h',toks:=t'}:=I.un (Un.write d f k a) (I.Z3.write d f k a c)
def Inv.weak{b:List _}(I:Inv X y2 U H s)(d:b.length=U.length)(w:∀(i:Nat) v,b[i]?=some (some v)->U[i]?=some (some v)):Inv X y2 b H s:=
 ⟨I.ok,I.os,I.bare,I.base,let ⟨m,c,a⟩:=I.loc;⟨m,c,λi x v g f e=>a i x v g (w i v f) e⟩,I.cell,I.free,I.ZN,I.pin,I.Z3,d.trans I.len⟩
def Inv.XH{a:Q2}(I:Inv X y2 U H s)(h:∀p∈a,s.heap.get? p.1=some p.2/\H p.1=none/\p.1≠X.env.locals/\p.1∉X.fs/\∀v,p.2.data≠.cell v):Inv X a U H s:=
 ⟨I.ok,I.os,I.bare,I.base,I.loc,I.cell,I.free,I.ZN,λp b=>(Bi.mp b).elim (λz=>I.pin p (De _ z)) (h p),I.Z3,I.len⟩
def wC(c:N.Nodup){j:Nat}(a:N[i]?=some x)(b:N[j]?=some x):i=j:=by
 obtain⟨g,e⟩:=Ad.mp a;obtain⟨f,d⟩:=Ad.mp b;exact(Gy c).mp (e.trans d.symm)
def yY{Q:Unit->Shared->Prop}(I:Inv X y2 U H s)(hN:X.N.Nodup)(T:X.N[i]?=some x)(B:Loc X.env.scope x)(r:RelV v u)(h:∀s',Inv X y2 (U.set i (some v)) H s'->(∃a,Heap.SameBut a s.heap s'.heap/\(a=X.env.locals\/X.env.cells.lookup x=some a))->Q () s')(hf:X.fn x=true\/X.env.scope.names.lookup x=some .local:=by first|exact .inl rfl|exact .inr rfl|assumption):wpAny M A (storeName X.env x u) Q E s:=by
 obtain⟨m,hn,hl⟩:=id I.loc;have V:(X.env.scope.kind == .class || (X.env.scope.kind == .module&&X.env.locals != X.env.globals))=false:=by rw[I.ok.kind];rfl
 have S:i<U.length:=by rw[I.len];exact(Ad.mp T).1
 have L:=I.VB
 have g:∀ {a:Addr} {O:Heap},(∃o,s.heap.get? a=some o/\H a=none)->Heap.SameBut a s.heap O->Zl X.prog X.w H O:=fun {a O} ha f b ob e=>by
  obtain⟨_,_,C⟩:=ha;refine(I.Z3 b ob e).ZD (λc Z t q=>(f.2 c ?_).trans q) (λ_ q=>q) λ_ _ q=>q;rintro rfl;rcases t with rfl|t
  .rw[C]at e;cases e
  .rw[C]at t;cases t
 rcases B with F|F
 .refine wpAny_storeName_local F hn (λO a2 f=>?_) V;obtain⟨oL,_,_,a1,_⟩:=id hn;refine h _ ⟨I.ok,I.os,I.bare,⟨λb o e n K B=>?_,λb o e n K B=>?_,I.base.free,λb o e B=>?_,I.base.tups,I.base.frzs,I.base.tbls⟩,⟨_,a2,λj y v' l D e3=>?_⟩,λy c e=>?_,I.free,I.ZN,λp hp=>?_,g ⟨oL,a1,I.free⟩ f,by simpa using I.len⟩ ⟨_,f,.inl rfl⟩
  .exact(f.2 b (Bl (Bc (Ax e) I.ok.above))).trans (I.base.keep b o e n K B)
  .obtain⟨sl,l⟩:=I.base.slot b o e n K B;exact⟨sl,(f.2 b (Bl (Bc (Ax e) I.ok.above))).trans l⟩
  .obtain⟨o',l⟩:=I.base.there b o e B;exact⟨o',(f.2 b (Bl (Bc (Ax e) I.ok.above))).trans l⟩
  .by_cases G:j=i
   .subst G;rw[T]at l;cases l;rw[Du S]at D;cases D;exact⟨u,r,.inl ⟨F,by simp⟩⟩
   .rw[Ec (Ne.symm G)]at D;obtain⟨u',r',q⟩:=hl j y v' l D e3;refine⟨u',r',?_⟩;rcases q with⟨k,e⟩|⟨k,c,e,z⟩
    .refine .inl ⟨k,?_⟩;have:y≠x:=λe=>G (wC hN l (e▸T))
     simp[this,e]
    .exact .inr ⟨k,c,e,z.sameBut f (L y c e)⟩
  .obtain⟨Z,z⟩:=I.cell y c e;exact⟨Z,z.sameBut f (L y c e)⟩
  .obtain⟨e,n,ne,nf,d⟩:=I.pin p hp;exact⟨(f.2 p.1 ne).trans e,n,ne,nf,d⟩
 .have J:X.fn x=true:=by
   rcases hf with z|z
   .exact z
   .rw[z]at F;cases F
  obtain⟨c,t⟩:=I.ok.has x (.inl F);obtain⟨Z,z⟩:=I.cell x c t;refine wpAny_storeName_cell I.ok.kind F t z (λO Y f=>?_);obtain⟨oc,R,P⟩:=id z;refine h {s with heap:=O} ⟨I.ok,I.os,I.bare,⟨λb o e n K B=>?_,λb o e n K B=>?_,I.base.free,λb o e B=>?_,I.base.tups,I.base.frzs,I.base.tbls⟩,⟨m,hn.sameBut f (Ne.symm (L x c t)),λj y v' l D e3=>?_⟩,λy c' e=>?_,I.free,I.ZN,λp hp=>?_,g ⟨oc,R,I.ZN x c t⟩ f,by simpa using I.len⟩ ⟨c,f,.inr t⟩
  .exact(f.2 b (Bl (Bc (Ax e) (I.ok.Wu x c J t)))).trans (I.base.keep b o e n K B)
  .obtain⟨sl,l⟩:=I.base.slot b o e n K B;exact⟨sl,(f.2 b (Bl (Bc (Ax e) (I.ok.Wu x c J t)))).trans l⟩
  .obtain⟨o',l⟩:=I.base.there b o e B;exact⟨o',(f.2 b (Bl (Bc (Ax e) (I.ok.Wu x c J t)))).trans l⟩
  .by_cases G:j=i
   .subst G;rw[T]at l;cases l;rw[Du S]at D;cases D;exact⟨u,r,.inr ⟨.inl F,c,t,Y⟩⟩
   .rw[Ec (Ne.symm G)]at D;obtain⟨u',r',q⟩:=hl j y v' l D e3;refine⟨u',r',?_⟩;rcases q with q|⟨k,c',e,z'⟩
    .exact .inl q
    .refine .inr ⟨k,c',e,z'.sameBut f ?_⟩;rintro rfl;exact G (wC hN l (I.ok.inj _ _ _ e t▸T))
  .by_cases W:c'=c
   .subst W;exact⟨_,Y⟩
   .obtain⟨w2,z2⟩:=I.cell y c' e;exact⟨w2,z2.sameBut f W⟩
  .obtain⟨e,n,ne,nf,d⟩:=I.pin p hp;refine⟨(f.2 p.1 ?_).trans e,n,ne,nf,d⟩;intro q;rw[q,R]at e;have q':=Bk e
   exact d Z (by rw[<-q'];exact P)
def vG{Q:Unit->Shared->Prop}(I:Inv X y2 U H s)(e:X.N.Nodup)(c:X.N[i]?=some x)(b:Loc X.env.scope x)(r:RelV v u)(h:∀a,Inv X y2 (U.set i (some v)) H a->Q () a)(d:X.fn x=true\/X.env.scope.names.lookup x=some .local:=by first|exact .inl rfl|exact .inr rfl|assumption):wpAny M A (storeName X.env x u) Q E s:=
 yY I e c b r (λa f _=>h a f) d
def Inv.Wr{ch:List Addr}(I:Inv X y2 U H s)(j:s'.os=s.os)(u:Un (YW X.stack) ch H H' s.heap s'.heap)(a:Zl X.prog X.w H' s'.heap)(k:AllBare s'.gens)(f:∀b∈ch,(b∈X.ex\/X.s₀.heap.objs.size<=b)/\b≠X.env.locals/\(∀x c,X.env.cells.lookup x=some c->c≠b)/\∀p∈X.pn++y2,p.1≠b):Inv X y2 U H' s':=by
 obtain⟨l,g',d',t',i⟩:=s';have e:=j
 subst e;exact I.call    u a k f
end
abbrev XK:=Value->Option Addr->Hp->Prop
abbrev St:=List (Option V)
variable {U:St}
abbrev VK:=V->Hp->Prop
abbrev TE:=St->Hp->VK->Prop
variable {ta tb te:TE}
abbrev TT:=St->Hp->(Bool->Hp->Prop)->Prop
abbrev TA:=St->Hp->(List V->Hp->Prop)->Prop
variable {t:TA}
structure Ends where
 nx:St->Hp->Prop
 rt:VK
 bk:St->Hp->Prop:=λ_ _=>False
 ct:St->Hp->Prop:=λ_ _=>False
abbrev TS:=Ends->St->Hp->Prop
def EP(X:Cx)(b:List (Addr×Obj))(U:St)(Q:VK)(u:Value)(s':Shared):Prop:=∃v a,Inv X b U a s'/\RelV v u/\Q v a
def TP(X:Cx)(c:List (Addr×Obj))(U:St)(Q:Bool->Hp->Prop)(b:Bool)(s':Shared):Prop:=∃a,Inv X c U a s'/\Q b a
def AP(X:Cx)(c:List (Addr×Obj))(U:St)(Q:List V->Hp->Prop)(us:List Value)(s':Shared):Prop:=∃a b,Inv X c U b s'/\Vals a us/\Q a b
def SP(X:Cx)(c:List (Addr×Obj))(D:Ends)(f:Flow)(s':Shared):Prop:=
 match f with
 |.next=>∃b a,Inv X c b a s'/\D.nx b a
 |.brk=>∃b a,Inv X c b a s'/\D.bk b a
 |.cont=>∃b a,Inv X c b a s'/\D.ct b a
 |.ret u=>∃v b a,Inv X c b a s'/\RelV v u/\D.rt v a
def PE(X:Cx)(e:Expr)(t:TE):Prop:=
 ∀(a:Q2) s (U:St) H Q,Inv X a U H s->t U H Q->wpAny (model X.prog X.w) X.A (eval e X.env) (EP X a U Q) X.xe s
def PT(X:Cx)(e:Expr)(t:TT):Prop:=
 ∀(a:Q2) s (U:St) H Q,Inv X a U H s->t U H Q->wpAny (model X.prog X.w) X.A (isTrue e X.env (eval e X.env)) (TP X a U Q) X.xe s
def PW(X:Cx)(e:Expr)(t:TT):Prop:=
 ∀a (b:Q2) s (U:St) H Q,Inv X b U H s->t U H Q->wpAny (model X.prog X.w) X.A (isTrue e X.env a) (TP X b U Q) X.xe s
def PW.pt{t:TT}(h:PW X e t):PT X e t:=h _
def PA(X:Cx)(c:List Expr)(t:TA):Prop:=
 ∀a (b:Q2) s (U:St) H Q,Inv X b U H s->t U H Q->wpAny (model X.prog X.w) X.A (spliced (backTo a (starEach c X.env))) (AP X b U Q) X.xe s
def PS(X:Cx)(st:Stmt)(t:TS):Prop:=
 ∀(a:Q2) s (U:St) H D,Inv X a U H s->t D U H->wpAny (model X.prog X.w) X.A (exec st X.env) (SP X a D) X.xe s
def Yt(X:Cx)(st:List Stmt)(t:TS):Prop:=
 ∀(a:Q2) s (U:St) H D,Inv X a U H s->t D U H->wpAny (model X.prog X.w) X.A (execs st X.env) (SP X a D) X.xe s
def ZX{b:Type}{t:Sem b}{Q c:b->Shared->Prop}(h:wpAny M A t Q E s)(d:∀a s,Q a s->c a s):wpAny M A t c E s:=Cp h d λ_ _ x=>x
section
def bin{a b:Expr}(r:PE X a ta)(q:PE X b tb){R:V->V->Hp->Prop}(I:Inv X y2 U H s)(h:ta U H λx i=>tb U i λy c=>R x y c){j:Type}{Q:j->Shared->Prop}{f:Value->Value->Sem j}(p:∀v u g x y c,Inv X y2 U c g->RelV x v->RelV y u->R x y c->wpAny (model X.prog X.w) X.A (f v u) Q X.xe g):wpAny (model X.prog X.w) X.A (eval a X.env) (λv e=>wpAny (model X.prog X.w) X.A (eval b X.env) (λu d=>wpAny (model X.prog X.w) X.A (f v u) Q X.xe d) X.xe e) X.xe s:=by
 refine ZX (r y2 s U H _ I h) λv k μ=>?_;obtain⟨x,i,z,m,o⟩:=μ;refine ZX (q y2 k U i _ z o) λu g μ=>?_;obtain⟨y,c,t,l,n⟩:=μ;exact p v u g x y c t m l n
def QP(i:Nat):TE:=λU H Q=>∃v,U[i]?=some (some v)/\Q v H
def tC(v:V):TE:=λ_ H Q=>Q v H
def Lx(t:X.N[i]?=some x)(n:T8 X.env.scope x)(f:(x==("__debug__" : Str))=false:=by decide)(g:(x==("__classdict__" : Str))=false:=by decide):PE X (.Name x pos) (QP i):=by
 intro k s U H Q I h;obtain⟨v,e,h⟩:=h;obtain⟨m,o,q⟩:=I.loc;obtain⟨u,r,l⟩:=q i x v t e n;have d:EP X k U Q u s:=⟨v,H,I,r,h⟩
 rcases l with⟨b,p⟩|⟨b,c,j,a⟩
 .exact wpAny_Name (wpAny_loadName_local I.ok.kind b o p d) f
 .rcases b with b|b
  .exact wpAny_Name (wpAny_loadName_cell I.ok.kind b j a d) f
  .exact wpAny_Name (wpAny_loadName_free I.ok.kind b j a d g) f
def aK{i j pos}:PE X (.Constant (.int i) j pos) (tC (.int i)):=λ_ _ _ H _ I h=>wpAny_Constant_int ⟨.int i,H,I.tok _,⟨_,rfl⟩,h⟩
def oJ{b j pos}:PE X (.Constant (.bool b) j pos) (tC (.bl b)):=λ_ _ _ H _ I h=>Constant_bool ⟨.bl b,H,I,rfl,h⟩
def dF{j pos}:PE X (.Constant .none j pos) (tC .non):=λ_ _ _ H _ I h=>Constant_none ⟨.non,H,I,rfl,h⟩
def fN{x j pos}:PE X (.Constant (.str x) j pos) (tC (.str x)):=λ_ _ _ H _ I h=>Calls.Constant_str ⟨.str x,H,I.tok _,⟨_,rfl⟩,h⟩
def Gl(X:Cx)(x:Str):Prop:=X.env.kindOf x=some .globalImplicit
def gZ(I:Inv X y2 U H s)(b:Gl X x)(a:X.mg x=some u)(h:Q u s)(c:(x==("__debug__" : Str))=false:=by decide):wpAny (model X.prog X.w) X.A (eval (.Name x pos) X.env) Q E s:=
 Calls.Name_function_global I.ok.kind b (Calls.loadGlobal_global (by rw[I.ok.glob];exact I.mod.glob.keeps I.bk) a h) c
def iJ(I:Inv X y2 U H s)(d:Gl X x)(c:X.mg x=none)(a:bootBuiltins x=some u)(h:Q u s)(b:x≠"__name__" := by decide)(e:(x==("__debug__" : Str))=false:=by decide):wpAny (model X.prog X.w) X.A (eval (.Name x pos) X.env) Q E s:=by
 obtain⟨i,g,f⟩:=I.mod.blt;exact Calls.Name_function_global I.ok.kind d (Calls.loadGlobal_builtin (by rw[I.ok.glob];exact I.mod.glob.keeps I.bk) c (by rw[I.ok.blt];exact g.keeps I.bk) ((f x b).trans a) h) e
def Te(b:Gl X x)(a:X.mg x=some u)(r:RelV v u)(c:(x==("__debug__" : Str))=false:=by decide):PE X (.Name x pos) (tC v):=
 λ_ _ _ H _ I h=>gZ I b a ⟨v,H,I,r,h⟩ c
def CG(d:Gl X x)(c:X.mg x=none)(a:bootBuiltins x=some u)(r:RelV v u)(b:x≠"__name__" := by decide)(e:(x==("__debug__" : Str))=false:=by decide):PE X (.Name x pos) (tC v):=
 λ_ _ _ H _ I h=>iJ I d c a ⟨v,H,I,r,h⟩ b e
variable {a b:Expr}
variable {tA tB':TT} {rest:List Expr}
def Ql(t u:TT):TT:=λU H Q=>t U H λc a=>if c=true then u U a Q else Q false a
def Qt(t u:TT):TT:=λU H Q=>t U H λc a=>if c=true then Q true a else u U a Q
def Ol(t:TT):TT:=λU H Q=>t U H λc a=>Q (!c) a
def uD(d:PT X a tA):PW X (.BoolOp .And [a] pos) tA:=by
 intro f b s U H Q I h;refine isTrue_and (ZX (d b s U H Q I h) λc g e=>?_);cases c with
 |true=>exact isTrue_and_nil e
 |false=>exact e
def mG(d:PT X a tA):PW X (.BoolOp .Or [a] pos) tA:=by
 intro f b s U H Q I h;refine isTrue_or (ZX (d b s U H Q I h) λc g e=>?_);cases c with
 |false=>exact isTrue_or_nil e
 |true=>exact e
def UQ(l:PT X a tA)(k:PW X (.BoolOp .And (b::rest) pos) tB'):PW X (.BoolOp .And (a::b::rest) pos) (Ql tA tB'):=by
 intro i d s U H Q I h;refine isTrue_and (ZX (l d s U H _ I h) λc j μ=>?_);obtain⟨g,f,e⟩:=μ;cases c with
 |true=>exact k i d j U g Q f e
 |false=>exact⟨g,f,e⟩
def sU(l:PT X a tA)(k:PW X (.BoolOp .Or (b::rest) pos) tB'):PW X (.BoolOp .Or (a::b::rest) pos) (Qt tA tB'):=by
 intro i d s U H Q I h;refine isTrue_or (ZX (l d s U H _ I h) λc j μ=>?_);obtain⟨g,f,e⟩:=μ;cases c with
 |true=>exact⟨g,f,e⟩
 |false=>exact k i d j U g Q f e
def pJ(d:PT X a tA):PT X (.UnaryOp .Not a pos) (Ol tA):=by
 intro b s U H Q I h;exact isTrue_not (d b s U H _ I h)
def UG{t:TE}(h:PE X a t):PE X (.BoolOp op [a] pos) t:=λb s U H Q I c=>BoolOp_one (h b s U H Q I c)
def PQ(t:TT)(d b:TE):TE:=λU H Q=>t U H λc a=>if c=true then d U a Q else b U a Q
def pR(k:PT X c tA)(m:PE X a ta)(l:PE X b tb):PE X (.IfExp c a b pos) (PQ tA ta tb):=by
 intro e s U H Q I h;refine wpAny_IfExp (ZX (k e s U H _ I h) λd f μ=>?_);obtain⟨j,i,g⟩:=μ;cases d with
 |true=>exact m e f U j Q i g
 |false=>exact l e f U j Q i g
end
def Zm(K:W.Frag)(H:Hp)(a:Addr)(xs:List V):Prop:=
 Rd H a (.lst xs)\/
  ∃o b n,K.lookup a=some o/\o.cls=.type "list"/\o.dict=none/\o.data=.seq b n/\b.size<=sizeLine/\Vals xs b.toList
def Ya(K:W.Frag)(H:Hp)(a:Addr)(xs:List V):Prop:=
 Rd H a (.tup xs)\/
  ∃o b n,K.lookup a=some o/\o.cls=.type "tuple"/\o.data=.seq b n/\b.size<=sizeLine/\Vals xs b.toList
noncomputable def FJ:Value->Option V
 |.none=>some .non
 |.bool b=>some (.bl b)
 |.int i _=>some (.int i)
 |.str x _=>some (.str x)
 |.bytes b _=>some (.byt b)
 |.float b _=>some (.flt b)
 |.ref a=>some (.ref a)
 |.type n=>some (.ty n)
 |_=>none
def RelV.abs{x:V}(r:RelV x u):FJ u=some x:=by
 cases x with
 |non=>cases r;rfl
 |bl _=>cases r;rfl
 |int _=>obtain⟨t,rfl⟩:=r;rfl
 |str _=>obtain⟨t,rfl⟩:=r;rfl
 |byt _=>obtain⟨t,rfl⟩:=r;rfl
 |flt _=>obtain⟨t,rfl⟩:=r;rfl
 |ref _=>cases r;rfl
 |ty _=>cases r;rfl
def RelV.inj{x y:V}(r:RelV x u)(q:RelV y u):x=y:=Bk (r.abs.symm.trans q.abs)
def Vals.inj{b a:List V}{c:List Value}(h:Vals b c)(g:Vals a c):b=a:=by
 induction h generalizing a with
 |nil=>cases g;rfl
 |cons r _ i=>cases g with|cons q t=>rw[r.inj q,i t]
section
variable {ys:List V}
def Ya.of(h:H a=some (.tup xs)):Ya K H a xs:=.inl (.inl h)
def Inv.list(I:Inv X y2 U H s)(h:Zm X.K H a xs):∃b,Vals xs b/\PlainL s.heap a b.toArray/\xs.length<=sizeLine:=by
 rcases h with h|⟨o,b,n,d,g,f,c,i,r⟩
 .obtain⟨z,b,n,r,e⟩:=h.ok I.Z3;exact⟨b,r,⟨_,n,e,rfl,rfl,rfl⟩,z⟩
 .refine⟨b.toList,r,⟨o,n,I.ZA a o d,g,f,by simpa using c⟩,?_⟩
  have e:=r.length
  grind
def Inv.tuple(I:Inv X y2 U H s)(h:Ya X.K H a xs):∃b,Vals xs b/\IsTup s.heap a b.toArray/\xs.length<=sizeLine:=by
 rcases h with h|⟨o,b,n,d,f,c,g,r⟩
 .obtain⟨z,b,r,p⟩:=h.ok I.Z3;exact⟨b,r,p,z⟩
 .refine⟨b.toList,r,⟨o,I.ZA a o d,f,n,by simpa using c⟩,?_⟩
  have e:=r.length
  simp_all
def Inv.YY(I:Inv X y2 U H s)(h:Zm X.K H a xs)(h':Zm X.K H a ys):xs=ys:=by
 obtain⟨c,r,⟨o,n,e,_,_,d⟩,_⟩:=I.list h;obtain⟨b,i,⟨k,l,f,_,_,g⟩,_⟩:=I.list h'
 have:c=b:=by grind
 subst this;exact r.inj i
end
noncomputable abbrev Cx.YK(X:Cx)(E:Value->Shared->Prop):Cx:={X with xe:=E}
noncomputable abbrev Cx.WT(X:Cx):Cx:=X.YK λ_ _=>False
def Cx.Ok.YK(ok:X.Ok)(E:Q0):(X.YK E).Ok:=
 ⟨ok.mod,ok.kind,ok.glob,ok.blt,ok.above,ok.inj,ok.has,ok.Wu,ok.hd,ok.frames,ok.Wd,ok.VL,ok.bs,ok.XN,ok.X1,ok.X5,ok.Zk,ok.WV⟩
def Cx.Ok.Zo(ok:(X.YK E).Ok):X.Ok:=
 ⟨ok.mod,ok.kind,ok.glob,ok.blt,ok.above,ok.inj,ok.has,ok.Wu,ok.hd,ok.frames,ok.Wd,ok.VL,ok.bs,ok.XN,ok.X1,ok.X5,ok.Zk,ok.WV⟩
def Inv.YK(I:Inv X y2 U H s)(E:Q0):Inv (X.YK E) y2 U H s:=⟨I.ok.YK E,I.os,I.bare,I.base,I.loc,I.cell,I.free,I.ZN,I.pin,I.Z3,I.len⟩
def Inv.Zo(I:Inv (X.YK E) y2 U H s):Inv X y2 U H s:=⟨I.ok.Zo,I.os,I.bare,I.base,I.loc,I.cell,I.free,I.ZN,I.pin,I.Z3,I.len⟩
def SP.Zo{f:Flow}{s':Shared}(h:SP (X.YK E) y2 D f s'):SP X y2 D f s':=by
 cases f with
 |next=>obtain⟨a,b,I,q⟩:=h;exact⟨a,b,I.Zo,q⟩
 |brk=>obtain⟨a,b,I,q⟩:=h;exact⟨a,b,I.Zo,q⟩
 |cont=>obtain⟨a,b,I,q⟩:=h;exact⟨a,b,I.Zo,q⟩
 |ret u=>obtain⟨v,a,b,I,r,q⟩:=h;exact⟨v,a,b,I.Zo,r,q⟩
def Yt.WT{st:List Stmt}{t:TS}(h:Yt X.WT st t):Yt X st t:=λa s U H D I b=>
 Cp (h a s U H D (I.YK _) b) (λ_ _ q=>q.Zo) λ_ _ z=>False.elim z
section
variable {X:Cx} {st:Stmt} {rest:List Stmt} {t u:TS} {e:Expr} {te:TE} {pos:Pos}
def NU:TS:=λD U H=>D.nx U H
def Sk(t u:TS):TS:=λD U H=>t {D with nx:=u D} U H
def bE:Yt X [] NU:=λ_ _ U H _ I h=>wpAny_execs_nil ⟨U,H,I,h⟩
def aE(d:PS X st t)(c:Yt X rest u):Yt X (st::rest) (Sk t u):=by
 intro a s U H D I h;refine wpAny_execs_cons (ZX (d a s U H {D with nx:=u D} I h) λf b q=>?_)
 cases f with
 |next=>
  obtain⟨e,i,g,q⟩:=q;exact c a b e i D g q
 |ret v=>exact q
 |brk=>exact q
 |cont=>exact q
def aI(b:PS X st t):Yt X [st] t:=by
 intro a s U H D I h;refine wpAny_execs_cons (ZX (b a s U H D I h) λf c q=>?_);cases f with
 |next=>exact wpAny_execs_nil q
 |ret v=>exact q
 |brk=>exact q
 |cont=>exact q
def Inv.quiet(I:Inv X y2 U H s):interactive X.env=false:=by simp[interactive,I.ok.kind]
def O3(a:TE):TS:=λD U H=>a U H λ_ b=>D.nx U b
def bU(c:PE X e te)(hs:swapsWith e none pos.line X.env=pure false:=by rfl):PS X (.Expr e pos) (O3 te):=by
 intro a s U H D I h;exact wpAny_Expr_any (ZX (c a s U H _ I h) λv g ⟨x,f,d,i,b⟩=>⟨U,f,d,b⟩) I.quiet hs
def NV(a:TE):TS:=λD U H=>a U H D.rt
def aU(d:PE X e te):PS X (.Return (some e) pos) (NV te):=by
 intro a s U H D I h;exact wpAny_Return_some (ZX (d a s U H _ I h) λv i ⟨x,g,f,b,c⟩=>⟨x,U,g,f,b,c⟩)
def Pw(c:TT)(t u:TS):TS:=λD U H=>c U H λb a=>if b=true then t D U a else u D U a
def cD{a b:List Stmt}{f:TT}(l:PT X c f)(n:Yt X a t)(m:Yt X b u):PS X (.If c a b pos) (Pw f t u):=by
 intro e s U H D I h;refine wpAny_If (ZX (l e s U H _ I h) λd g μ=>?_);obtain⟨k,j,i⟩:=μ;cases d with
 |true=>exact n e g U k D j i
 |false=>exact m e g U k D j i
def MN:TS:=λ_ _ _=>False
def PX:PS X st MN:=λ_ _ _ _ _ _ h=>h.elim
end
abbrev TG:=V->St->Hp->(St->Hp->Prop)->Prop
variable {g:TG}
abbrev WQ:=List V->St->Hp->(St->Hp->Prop)->Prop
def PG(X:Cx)(a:Expr)(t:TG):Prop:=
 ∀(b:Q2) s (U:St) H v u Q,Inv X b U H s->RelV v u->t v U H Q->
  wpAny (model X.prog X.w) X.A (assign a X.env u) (λ_ e=>∃c d,Inv X b c d e/\Q c d) X.xe s
def Vf(X:Cx)(f:List Expr)(t:WQ):Prop:=
 ∀(a:Q2) s (U:St) H b c Q,Inv X a U H s->Vals b c->t b U H Q->
  wpAny (model X.prog X.w) X.A (assignInOrder ((assignEach f X.env).map (·.2)) c) (λ_ g=>∃d e,Inv X a d e g/\Q d e) X.xe s
abbrev UI:=V->V->V->Hp->(Hp->Prop)->Prop
def O9(X:Cx)(t:UI):Prop:=
 ∀(a:Q2) s (U:St) H o i v b c u Q,Inv X a U H s->RelV o b->RelV i c->RelV v u->t o i v H Q->
  wpAny (model X.prog X.w) X.A (setItem b c u) (λ_ e=>∃d,Inv X a U d e/\Q d) X.xe s
section
variable {X:Cx} {pos:Pos}
def lG(i:Nat):TG:=λv U H Q=>Q (U.set i (some v)) H
def aZ{i:Nat}(d:X.N.Nodup)(b:X.N[i]?=some x)(a:Loc X.env.scope x)(c:X.fn x=true\/X.env.scope.names.lookup x=some .local:=by first|exact .inl rfl|exact .inr rfl|assumption):PG X (.Name x pos) (lG i):=by
 intro f s U H v u Q I r h;exact wpAny_assign_Name (vG I d b a r (λg e=>⟨_,H,e,h⟩) c)
def S_:WQ:=λa U H Q=>a=[]/\Q U H
def Uy(t:TG)(u:WQ):WQ:=λa U H Q=>∃v r,a=v::r/\t v U H λb c=>u r b c Q
def Rh:Vf X [] S_:=by
 intro a s U H b c Q I r h;obtain⟨e,h⟩:=h;exact assignInOrder_nil ⟨U,H,I,h⟩
def jQ{t:TG}{u:WQ}(g:PG X e t)(f:Vf X es u)(hs:(assignEach (e::es) X.env).map (·.2)=assign e X.env::(assignEach es X.env).map (·.2):=by rfl):Vf X (e::es) (Uy t u):=by
 intro a s U H m o Q I r h;obtain⟨v,n,i,h⟩:=h;subst i;cases r with
 |cons r c=>
  rw[hs];refine assignInOrder_cons (ZX (g a s U H _ _ _ I r h) λ_ b μ=>?_);obtain⟨j,l,k,d⟩:=μ;exact f a b j l _ _ Q k c d
def Su(K:W.Frag)(n:Nat)(t:WQ):TG:=λv U H Q=>∃a b,v=.ref a/\Ya K H a b/\b.length=n/\t b U H Q
def KG{t:WQ}{n:Nat}(x:X.calm=true)(h:Vf X es t)(q:(assignEach es X.env).length=n:=by rfl)(d:(assignEach es X.env).findIdx? (·.1)=none:=by rfl):PG X (.Tuple es k pos) (Su X.K n t):=by
 intro f s U H v u Q I r c;obtain⟨a,i,z,p,w,c⟩:=c;subst z;cases r;obtain⟨j,g,m,B⟩:=I.tuple p;refine assign_Tuple_tuple (I.ok.hd x) m (by simp[q,<-w,g.length]) d λy l=>?_
 have A:=I.kept (t':=s.toks) λb o e=>l b o (Bl (Ax e)) e
 exact h f _ U H i _ Q A (by (assumption)) c
def Pb(a b:TE)(t:UI):TG:=λv U H Q=>a U H λo e=>b U e λi d=>t o i v d λc=>Q U c
def SA{o i:Expr}{d e:TE}{t:UI}(p:PE X o d)(q:PE X i e)(hs:O9 X t)(w:∀v,assign (.Subscript o i pos) X.env v=(do
 let a <-holding [v] (eval o X.env)
 let b <-holding [v,a] (eval i X.env)
 standAt pos
 holding [v,a,b] (setItem a b v)
 release [v,a,b] []):=by intro _;rfl):PG X (.Subscript o i pos) (Pb d e t):=by
 intro c s U H v u Q I r h;rw[w];refine Ae (Co (ZX (p c s U H _ I h) λa g μ=>?_));obtain⟨x,E,B,k,n⟩:=μ;refine Ae (Co (ZX (q c g U E _ B n) λb f μ=>?_));obtain⟨y,D,A,j,m⟩:=μ;refine Ae (Fs (Ae (Co (ZX (hs c f U D x y v a b u _ A k j r m) λ_ F μ=>?_))));obtain⟨C,z,l⟩:=μ;exact wpAny_release ⟨U,C,z,l⟩
def Vg(a:TE)(g:TG):TS:=λD U H=>a U H λx b=>g x U b D.nx
def UX(j:PE X e te)(i:PG X tg g)(hs:swapsWithSole [tg] e pos.line X.env=pure false:=by rfl)(f:swappedStores [tg] e X.env=pure none:=by rfl)(k:(assignEach [tg] X.env).map (·.2)=[assign tg X.env]:=by rfl):PS X (.Assign [tg] e pos) (Vg te g):=by
 intro a s U H D I h;refine wpAny_Assign_stores (ZX (j a s U H _ I h) λv b μ=>?_) hs f;obtain⟨x,m,l,c,d⟩:=μ;rw[k];exact ZX (i a b U m x v _ l c d) λ_ n q=>q
def SD{i:Nat}{x:Str}{e:Expr}{b:TE}{a:Pos}(m:X.N.Nodup)(j:X.N[i]?=some x)(g:Loc X.env.scope x)(l:PE X e b)(hs:swapsWith e (some (.Name x a)) pos.line X.env=pure false:=by rfl)(k:X.fn x=true\/X.env.scope.names.lookup x=some .local:=by first|exact .inl rfl|exact .inr rfl|assumption):PS X (.Assign [.Name x a] e pos) (Vg b (lG i)):=by
 intro c s U H D I h;refine wpAny_Assign_Name (ZX (l c s U H _ I h) λv r μ=>?_) hs;obtain⟨y,p,o,d,f⟩:=μ;exact vG o m j g d (λq n=>⟨_,p,n,f⟩) k
end
def FT(c:TT)(g:TS):TS:=λD U H=>∃W:Nat->St->Hp->Prop,(∃m,W m U H)/\∀m U H,W m U H->
 c U H λb e=>if b=true then ∃N,(∀d f,N d f->∃a,a < m/\W a d f)/\g {D with nx:=N,ct:=N,bk:=D.nx} U e else D.nx U e
def xT{t:TT}{u:TS}(x:PassesOwn (model X.prog X.w) X.A X.env X.xe)(P:PT X c t)(Q:Yt X body u):PS X (.While c body [] pos) (FT t u):=by
 intro k s U H D I h;obtain⟨W,⟨O,J⟩,a⟩:=h;refine wpAny_While (codeAny_whileLoop (λn M=>∃z F,Inv X k z F M/\W n z F) ?_ O ⟨U,H,I,J⟩);rintro n L ⟨j,E,R,G⟩;refine Fk x (ZX (P k L j E _ R (a n j E G)) λb K μ=>?_);obtain⟨C,B,i⟩:=μ;cases b with
 |true=>
  obtain⟨N,y,i⟩:=i;rw[if_pos rfl];refine Fk x (ZX (Q k K j C _ B i) λf S g=>?_);cases f with
  |next=>
   obtain⟨d,e,r,o⟩:=g;obtain⟨p,q,l⟩:=y d e o;exact⟨p,q,d,e,r,l⟩
  |cont=>
   obtain⟨d,e,r,o⟩:=g;obtain⟨p,q,l⟩:=y d e o;exact⟨p,q,d,e,r,l⟩
  |brk=>exact g
  |ret v=>exact g
 |false=>
  rw[if_neg Ar];exact wpAny_execs_nil ⟨j,C,B,i⟩
structure It where
 go:Nat->Hp->Prop
 WJ:Nat->Hp->V->Hp->Prop
 stop:Nat->Hp->Prop
def nQ(X:Cx)(a:List (Addr×Obj))(H:Hp)(b:Addr):Prop:=
 H b=none/\b≠X.env.locals/\b∉X.fs/\(b∈X.ex\/X.s₀.heap.objs.size<=b)/\(∀x c,X.env.cells.lookup x=some c->c≠b)/\∀p∈X.pn++a,p.1≠b
def Inv.YC(I:Inv X y2 U H s)(a:s.heap.objs.size<=b)(g:d b=none):nQ X y2 d b:=by
 refine⟨g,Fa (Bc I.lt a),I.RW a,.inr (Bh I.sz a),λx c e z=>?_,λp f z=>?_⟩
 .obtain⟨v,q⟩:=I.cell x c e;exact absurd (Bc q.lt (by rwa[z])) (Dc _)
 .exact absurd (Bc (Ax (I.pin p f).1) (by simp_all)) (Dc _)
structure Turn (P:Program) (w:World) (K:W.Frag) (tg:Expr) (J:It) (fp:List Addr) (it:Addr) (tn:Nat->Heap->Prop):Prop where
 mem:it∈fp
 obj:∀i h,tn i h->∀b∈fp,∃o,h.get? b=some o/\∀v,o.data≠.cell v
 keep:∀i h h',tn i h->(∀b∈fp,∀o,h.get? b=some o->h'.get? b=some o)->tn i h'
 item:∀(X:Cx),X.prog=P->X.w=w->X.K=K->X.calm=true->∀(i:Nat) (y2:Q2) (s:Shared) (U:St) (H:Hp) (E:Q0),Inv X y2 U H s->(∀b∈fp,nQ X y2 H b)->tn i s.heap->J.go i H->
  wpAny (model P w) X.A (pyNext (.ref it)) (λr s1=>∃u,r=some u/\
   wpAny (model P w) X.A (letOwnedTupleGo tg (.ref it) u) (λ_ s2=>∃x H',Inv X y2 U H' s2/\RelV x u/\J.WJ i H x H'/\tn (i+1) s2.heap/\∀b∈fp,H' b=none) E s1) E s
 done:∀(X:Cx),X.prog=P->X.w=w->X.K=K->X.calm=true->∀(i:Nat) (y2:Q2) (s:Shared) (U:St) (H:Hp) (E:Q0),Inv X y2 U H s->(∀b∈fp,nQ X y2 H b)->tn i s.heap->J.stop i H->
  wpAny (model P w) X.A (pyNext (.ref it)) (λr s1=>r=none/\Inv X y2 U H s1) E s
 self:∀(A:Around) (i:Nat) (s:Shared) (Q:Q0) (E:Q0),tn i s.heap->Q (.ref it) s->wpAny (model P w) A (pyIter (.ref it)) Q E s
abbrev TI:=St->Hp->(It->Hp->Prop)->Prop
def Vm(X:Cx)(d:List (Addr×Obj))(U:St)(i:Expr)(R:It->Hp->Prop)(a:Value)(f:Shared):Prop:=
 ∃g h e J c,a=.ref g/\Inv X d U c f/\Turn X.prog X.w X.K i J h g e/\e 0 f.heap/\(∀b∈h,nQ X d c b)/\R J c
def PI(X:Cx)(c a:Expr)(wi:TI):Prop:=
 ∀(b:Q2) s (U:St) H R,Inv X b U H s->wi U H R->
  wpAny (model X.prog X.w) X.A (eval a X.env) (λv d=>wpAny (model X.prog X.w) X.A (pyIter v) (Vm X b U c R) X.xe d) X.xe s
def wN{s:Shared}{b:Addr}{o:Obj}{n:String}{vs:Array Value}{Q:Unit->Shared->Prop}(c:s.heap.get? b=some o)(f:o.cls=.type n)(e:o.data=.fields vs)(d:["enumerate", "zip", "dict_itemiterator", "dict_reverseitemiterator", "odict_iterator", "itertools.zip_longest", "itertools.pairwise"].contains n=false)(a:Q () s):wpAny M A (letOwnedTupleGo tg (.ref b) u) Q E s:=by
 unfold letOwnedTupleGo;cases tg<;>first
  |exact As a
  | (cases u <;> first
      |exact As a
      | (refine Ae (wpAny_load c ?_)
         rw[f,e];show wpAny M A (if (["enumerate", "zip", "dict_itemiterator", "dict_reverseitemiterator", "odict_iterator", "itertools.zip_longest", "itertools.pairwise"].contains n&&vs[0]? == some (rawInt _))=true then _ else _) Q E s
         rw[if_neg (by grind)]
         exact As a))
noncomputable def Xa(K:W.Frag)(a:Addr):It:=
 ⟨λi H=>∃b x,Zm K H a b/\b[i]?=some x,λi H x c=>c=H/\∀b,Zm K H a b->b[i]?=some x,λi H=>∃b,Zm K H a b/\b.length<=i⟩
noncomputable def Xk(a:Int)(n:Nat):It:=⟨λi _=>i<n,λi H x b=>b=H/\x=.int (a+i),λi _=>n<=i⟩
def Md(a g:Addr):Turn P w K tg (Xa K a) [g] g (λi h=>h.IsListIter g a i) where
 mem:=by simp
 obj:=λi h f b j=>by
  have e:b=g:=by simpa using j
  subst e;obtain⟨o,e,c,d⟩:=f;exact⟨o,e,λv z=>by rw[d]at z;cases z⟩
 keep:=λi h q f k=>f.at λo e=>k g (by simp) o e
 item:=by
  intro X D B F Q i O s U H E I n f C;subst D B F;obtain⟨R,x,m,A⟩:=C;obtain⟨y,r,p,V⟩:=I.list m;obtain⟨u,Y,T⟩:=r.get A;obtain⟨N,M,Z,L,J,G⟩:=n g (by simp)
  refine wpAny_pyNext_list_item f p.isList (x:=u) (by simpa using Y) λq l S=>?_
  have I1:=I.turned (t':=s.toks) (λb o j e=>(S.2 b j).trans e) N M L J G
  obtain⟨o,e,c,d⟩:=id l;exact⟨u,rfl,wN (s:={s with heap:=q}) e c d (by decide) ⟨x,H,I1,T,⟨rfl,λys W=>by rw[I.YY W m];exact A⟩,l,λb j=>(n b j).1⟩⟩
 done:=by
  intro X D B F Q i O s U H E I n f C;subst D B F;obtain⟨R,m,A⟩:=C;obtain⟨y,r,p,V⟩:=I.list m;obtain⟨N,M,Z,L,J,G⟩:=n g (by simp)
  have hl:=r.length
  exact wpAny_pyNext_list_end (I.ok.hd Q) f p.isList (by simp;((try clear L M V);omega)) λq eb=>⟨rfl,I.turned (t':=s.toks) (λb o j e=>eb b o j e) N M L J G⟩
 self:=λ_ _ _ _ _ f h=>wpAny_pyIter_listiter f h
def Mg{K:PySem.W.Frag}(c:Addr)(g:Int)(n:Nat):Turn P w K tg (Xk g n) [c] c (λi h=>IsRangeIter h c (g+(i:Nat)*1) ((n:Int)-(i:Nat)) 1) where
 mem:=by simp
 obj:=λi h a b d=>by
  have e:b=c:=by simpa using d
  subst e;exact⟨_,a,λv z=>by
   have G:=z
   cases G⟩
 keep:=λi h l a k=>k c (by simp) _ a
 item:=by
  intro X r m u q i D s U H E I j a p;subst r m u;obtain⟨C,B,M,A,y,x⟩:=j c (by simp)
  have W:=Walks.range (prog:=X.prog) (w:=X.w) (I.ok.hd q) c g 1 n
  refine W.item i s _ _ p a λv l F L f J=>?_;obtain⟨t,rfl⟩:=L;have O:Inv X D U H {s with heap:=l,toks:=F}:=I.turned (λb o d e=>J b o (by simpa using d) e) C B A y x
  refine⟨_,rfl,wN (s:={s with heap:=l,toks:=F}) (n := "range_iterator") f rfl rfl (by decide) ⟨.int (g+i),H,O,⟨t,?_⟩,⟨rfl,rfl⟩,f,λb d=>(j b d).1⟩⟩
  rw[Int.mul_one]
 done:=by
  intro X r m u q i D s U H E I j a p;subst r m u;obtain⟨C,B,M,A,y,x⟩:=j c (by simp)
  exact wpAny_pyNext_range_end (I.ok.hd q) a (by have:n<=i:=p;((try clear A B);omega)) λl N=>⟨rfl,I.turned (t':=s.toks) (λb o d e=>N b o d e) C B A y x⟩
 self:=λ_ _ _ _ _ a h=>wpAny_pyIter_rangeiter a h
def Of{a c:Int}{t u v:Tok}{d:Nat}(I:Inv X y2 U H s)(k:-(2^62)<=a)(j:a<2^62)(i:-(2^62)<=c)(h:c<2^62)(q:R (Xk a (c-a).toNat) H):wpAny (model X.prog X.w) X.A (pyIter (.ref s.heap.objs.size)) (Vm X y2 U tg R) E {s with heap:=s.heap.push {cls:=.type "range",data:=.fields #[.int a t,.int c u,.int 1 v]},toks:=d}:=by
 refine wpAny_pyIter_range (IsRange.new ..) (small_one k j i h) ?_;have f:Inv X y2 U H {s with heap:=s.heap.push {cls:=.type "range",data:=.fields #[.int a t,.int c u,.int 1 v]},toks:=d}:=I.kept λb o e=>Ai _ e
 refine⟨(s.heap.push {cls:=.type "range",data:=.fields #[.int a t,.int c u,.int 1 v]}).objs.size,[(s.heap.push {cls:=.type "range",data:=.fields #[.int a t,.int c u,.int 1 v]}).objs.size],_,_,H,rfl,
  f.kept (t':=d) λb o e=>Ai _ e,Mg _ a (c-a).toNat,?_,λb g=>?_,q⟩
 .have m:a+((0:Nat):Int)*1=a:=by simp
  have l:(((c-a).toNat:Nat):Int)-((0:Nat):Int)=Builtin.Range.rangeSize a c 1:=by rw[rangeSize_one];split<;>((try clear h i j k m);omega)
  show IsRangeIter _ _ (a+((0:Nat):Int)*1) ((((c-a).toNat:Nat):Int)-((0:Nat):Int)) 1
  rw[m,l];exact Ay _ rfl
 .have e:b=(s.heap.push {cls:=.type "range",data:=.fields #[.int a t,.int c u,.int 1 v]}).objs.size:=by simpa using g
  subst e;exact f.YC (Ah _) (f.Z3.fresh (Ah _))
def MT(wi:TI)(g:TG)(d:TS):TS:=λD U H=>wi U H λJ h=>∃W:Nat->Nat->St->Hp->Prop,(∃m,W 0 m U h)/\∀i m U H,W i m U H->
 (J.stop i H/\D.nx U H)\/(J.go i H/\∃N,(∀c a,N c a->∃b,b < m/\W (i+1) b c a)/\∀x a,J.WJ i H x a->g x U a λe f=>d {D with nx:=N,ct:=N,bk:=D.nx} e f)
noncomputable def rV(a:List Addr)(h:Heap):List (Addr×Obj):=a.filterMap λb=>(h.get? b).map λo=>(b,o)
def kI{o:Obj}(a:b∈fp)(e:h.get? b=some o):(b,o)∈rV fp h:=Cr.mpr ⟨b,a,by rw[e];rfl⟩
def E_(a:p∈rV fp h):p.1∈fp/\h.get? p.1=some p.2:=by
 obtain⟨b,c,e⟩:=Cr.mp a;cases q:h.get? b with
 |none=>rw[q]at e;cases e
 |some o=>
  rw[q]at e;have d:=Bk e
  subst d;exact⟨c,q⟩
def Inv.pinned(I:Inv X y2 U H s)(h:∀b∈fp,nQ X y2 H b)(g:∀b∈fp,∃o,s.heap.get? b=some o/\∀v,o.data≠.cell v):Inv X (y2++rV fp s.heap) U H s:=
 I.XH λp f=>(Bi.mp f).elim (λz=>I.pin p (Bm _ z)) λz=>by
  obtain⟨a,e⟩:=E_ z;obtain⟨k,j,i,_⟩:=h p.1 a;obtain⟨o,c,d⟩:=g p.1 a;simp_all
def Inv.YX{pl:Q2}(I:Inv X (y2++pl) U H s):Inv X y2 U H s:=I.XH λp a=>I.pin p (Bm _ (De _ a))
def Jr{tb:TS}(L:PassesOwn (model X.prog X.w) X.A X.env X.xe)(hc:X.calm=true)(hi:PI X tg c wi)(hg:PG X tg g)(j:Yt X body tb)(hs:∀x,foldedSetIterable c X.env x=pure x:=by intro _;rfl):PS X (.For tg c body [] pos) (MT wi g tb):=by
 intro z s U H D I h;refine wpAny_For (ZX (hi z s U H _ I h) λv s1 h1=>ZX h1 λa2 s2 h2=>?_) hs;obtain⟨it,O,tn,J,H2,e,I2,T,S,f2,W,⟨m0,w0⟩,C⟩:=h2;subst e
 -- what stays true of the iterator's objects through the loop
 have a:∀ {t:Hp},(∀b∈O,t b=none)->∀b∈O,nQ X z t b:=λhn b j=>⟨hn b j,(f2 b j).2⟩
 refine codeAny_forLoop_any (λn s'=>∃i Q t,Inv X z Q t s'/\tn i s'.heap/\(∀b∈O,t b=none)/\W i n Q t) ?_ m0 ⟨0,U,H2,I2,S,λb j=>(f2 b j).1,w0⟩;rintro n s3 ⟨i,P,R,I3,G,M,w3⟩;rcases C i n P R w3 with⟨E,qn⟩|⟨go,N,hN,F⟩
 .refine Fk L (ZX (T.done X rfl rfl rfl hc i z s3 P R X.xe I3 (a M) G E) λr s4 ⟨Y,I4⟩=>?_);subst Y;exact wpAny_execs_nil ⟨P,R,I4,qn⟩
 .refine Fk L (ZX (T.item X rfl rfl rfl hc i z s3 P R X.xe I3 (a M) G go) λr s4 ⟨u,Y,h4⟩=>?_);subst Y;refine Fk L (ZX h4 λ_ s5 μ=>?_);obtain⟨x,H5,I5,r5,y5,B,Z⟩:=μ;have a1:=I5.pinned (a Z) (T.obj _ _ B)
  refine Fk L (ZX (hg _ s5 P H5 x u _ a1 r5 (F x H5 y5)) λ_ s6 μ=>?_);obtain⟨U6,H6,I6,q6⟩:=μ;refine Fk L (ZX (j _ s6 U6 H6 _ I6 q6) λf V y=>?_);have k:∀ {l:St} {q:Hp},Inv X (z++rV O s5.heap) l q V->N l q->∃m,m<n/\∃i Q t,Inv X z Q t V/\tn i V.heap/\(∀b∈O,t b=none)/\W i m Q t:=fun {l q} p K=>by
   obtain⟨m',hm,w7⟩:=hN l q K;refine⟨m',hm,i+1,l,q,p.YX,T.keep _ _ _ B λb j o e=>(p.pin (b,o) (Bm _ (Bm _ (kI j e)))).1,λb j=>?_,w7⟩;obtain⟨o,e,d⟩:=T.obj _ _ B b j;exact(p.pin (b,o) (Bm _ (Bm _ (kI j e)))).2.1
  cases f with
  |next=>obtain⟨l,q,p,K⟩:=y;exact k p K
  |cont=>obtain⟨l,q,p,K⟩:=y;exact k p K
  |brk=>obtain⟨l,q,p,y⟩:=y;exact⟨l,q,p.YX,y⟩
  |ret v=>obtain⟨x7,l,q,p,r7,y⟩:=y;exact⟨x7,l,q,p.YX,r7,y⟩
def J0{K:PySem.W.Frag}{k:TS}{D:Ends}(b:Nat->St->Hp->Prop)(t:b 0 U H)(o:∀i U H,i<=xs.length->b i U H->Zm K H a xs)(hs:∀i x U H,xs[i]?=some x->b i U H->g x U H λf j=>k {D with nx:=b (i+1),ct:=b (i+1),bk:=D.nx} f j)(s:∀U H,b xs.length U H->D.nx U H):∃W:Nat->Nat->St->Hp->Prop,(∃m,W 0 m U H)/\∀i m U H,W i m U H->
 ((Xa K a).stop i H/\D.nx U H)\/((Xa K a).go i H/\∃N,(∀h c,N h c->∃l,l < m/\W (i+1) l h c)/\∀x c,(Xa K a).WJ i H x c->g x U c λf j=>k {D with nx:=N,ct:=N,bk:=D.nx} f j):=by
 refine⟨λi m U H=>m=xs.length-i/\i<=xs.length/\b i U H,⟨xs.length,by simp,Nat.zero_le _,t⟩,?_⟩
 rintro i m U H ⟨rfl,r,p⟩;have q:=o i U H r p
 by_cases d:i<xs.length
 .refine .inr ⟨⟨xs,xs[i],q,by simp[d]⟩,b (i+1),λh c n=>⟨xs.length-(i+1),by ((try clear r);omega),rfl,d,n⟩,λx c y=>?_⟩
  obtain⟨e,y⟩:=y;subst e;exact hs i x U _ (y xs q) p
 .have e:i=xs.length:=by omega
  subst e;exact .inl ⟨⟨xs,q,Ah _⟩,s U H p⟩
def Lv{n:Nat}{k:TS}{D:Ends}(b:Nat->St->Hp->Prop)(r:b 0 U H)(hs:∀i U H,i<n->b i U H->g (.int (d+i)) U H λf j=>k {D with nx:=b (i+1),ct:=b (i+1),bk:=D.nx} f j)(q:∀U H,b n U H->D.nx U H):∃W:Nat->Nat->St->Hp->Prop,(∃m,W 0 m U H)/\∀i m U H,W i m U H->
 ((Xk d n).stop i H/\D.nx U H)\/((Xk d n).go i H/\∃N,(∀h c,N h c->∃l,l < m/\W (i+1) l h c)/\∀x c,(Xk d n).WJ i H x c->g x U c λf j=>k {D with nx:=N,ct:=N,bk:=D.nx} f j):=by
 refine⟨λi m U H=>m=n-i/\i<=n/\b i U H,⟨n,by simp,Nat.zero_le _,r⟩,?_⟩
 rintro i m U H ⟨rfl,s,p⟩;by_cases a:i<n
 .refine .inr ⟨a,b (i+1),λh c o=>⟨n-(i+1),by ((try clear s);omega),rfl,a,o⟩,λx c y=>?_⟩
  obtain⟨e,y⟩:=y;subst e y;exact hs i U _ a p
 .have e:i=n:=by omega
  subst e;exact .inl ⟨Ah _,q U H p⟩
abbrev R2:=V->V->Hp->VK->Prop
def ZM(X:Cx)(f:Value->Value->Sem Value)(r:R2):Prop:=
 ∀(a:Q2) s (U:St) H x y v u Q,Inv X a U H s->RelV x v->RelV y u->r x y H Q->
  wpAny (model X.prog X.w) X.A (f v u) (EP X a U Q) X.xe s
def T6(X:Cx)(f:Value->Sem Value)(r:V->Hp->VK->Prop):Prop:=
 ∀(a:Q2) s (U:St) H x v Q,Inv X a U H s->RelV x v->r x H Q->
  wpAny (model X.prog X.w) X.A (f v) (EP X a U Q) X.xe s
def ZU(X:Cx)(f:Value)(r:List V->Hp->VK->Prop):Prop:=
 ∀(a:Q2) s (U:St) H b c Q,Inv X a U H s->Vals b c->r b H Q->
  wpAny (model X.prog X.w) X.A (call f c) (EP X a U Q) X.xe s
def IC(X:Cx)(r:V->Hp->(Bool->Hp->Prop)->Prop):Prop:=
 ∀(a:Q2) s (U:St) H x v Q,Inv X a U H s->RelV x v->r x H Q->
  wpAny (model X.prog X.w) X.A (truthy v) (TP X a U Q) X.xe s
def VQ(r:R2)(b a:TE):TE:=λU H Q=>b U H λx d=>a U d λy c=>r x y c Q
def RH(r:V->Hp->VK->Prop)(a:TE):TE:=λU H Q=>a U H λx b=>r x b Q
def rI(C:Int->Int->Prop)(g:Int->Int->V):R2:=λx y H Q=>∃i j,x=.int i/\y=.int j/\C i j/\Q (g i j) H
def WE(g:Int->Int->V):R2:=λx y H Q=>∃i j,x=.int i/\y=.int j/\Q (g i j) H
def rU(g:Int->V):V->Hp->VK->Prop:=λx H Q=>∃i,x=.int i/\Q (g i) H
section
variable {a b:Expr}
def Sf(q:PE X a ta)(p:PE X b tb){R:V->V->Hp->Prop}(I:Inv X y2 U H s)(h:ta U H λx i=>tb U i λy c=>R x y c)(o:∀v u g x y c,Inv X y2 U c g->RelV x v->RelV y u->R x y c->wpAny (model X.prog X.w) X.A (f v u) Q X.xe g):wpAny (model X.prog X.w) X.A (eval a X.env) (λv e=>wpAny (model X.prog X.w) X.A (eval b X.env) (λu d=>wpAny (model X.prog X.w) X.A (f v u) Q X.xe d) X.xe e) X.xe s:=by
 refine ZX (q y2 s U H _ I h) λv j μ=>?_;obtain⟨x,i,t,l,n⟩:=μ;refine ZX (p y2 j U i _ t n) λu g μ=>?_;obtain⟨y,c,r,k,m⟩:=μ;exact o v u g x y c r l k m
def aQ(g:ZM X (binaryOp op) r)(j:PE X a ta)(i:PE X b tb):PE X (.BinOp a op b pos) (VQ r ta tb):=by
 intro c s U H Q I h;exact wpAny_BinOp (Sf j i I h λv u d x y l k f e q=>g c d U l x y v u Q k f e q)
def TY(f:T6 X (unaryOp op) r)(g:PE X a ta):PE X (.UnaryOp op a pos) (RH r ta):=by
 intro b s U H Q I h;exact UnaryOp_ (ZX (g b s U H _ I h) λv c ⟨x,j,i,d,e⟩=>f b c U j x v Q i d e)
def Sn{C:Int->Int->Prop}{g:Int->Int->Int}(a:∀i j t u s (Q:Q0) (E:Q0),C i j->Q (.int (g i j) s.toks) {s with toks:=s.toks+1}->wpAny (model X.prog X.w) X.A (f (.int i t) (.int j u)) Q E s):ZM X f (rI C λi j=>.int (g i j)):=by
 intro k s U H x y v u Q I d c h;obtain⟨i,j,rfl,rfl,e,q⟩:=h;obtain⟨t,rfl⟩:=d;obtain⟨b,rfl⟩:=c;exact a i j t b s _ _ e ⟨.int _,H,I.tok _,⟨_,rfl⟩,q⟩
def P_{g:Int->Int->Int}(a:∀i j t u s (Q:Q0) (E:Q0),Q (.int (g i j) s.toks) {s with toks:=s.toks+1}->wpAny (model X.prog X.w) X.A (f (.int i t) (.int j u)) Q E s):ZM X f (WE λi j=>.int (g i j)):=by
 intro e s U H x y v u Q I d c h;obtain⟨i,j,rfl,rfl,q⟩:=h;obtain⟨t,rfl⟩:=d;obtain⟨b,rfl⟩:=c;exact a i j t b s _ _ ⟨.int _,H,I.tok _,⟨_,rfl⟩,q⟩
def T4{g:Int->Int->Bool}(a:∀i j t u s (Q:Q0) (E:Q0),Q (.bool (g i j)) s->wpAny (model X.prog X.w) X.A (f (.int i t) (.int j u)) Q E s):ZM X f (WE λi j=>.bl (g i j)):=by
 intro e s U H x y v u Q I d c h;obtain⟨i,j,rfl,rfl,q⟩:=h;obtain⟨t,rfl⟩:=d;obtain⟨b,rfl⟩:=c;exact a i j t b s _ _ ⟨.bl _,H,I,rfl,q⟩
def Q8(i j:Int):Prop:=0<j/\j<1073741824
def WM(i j:Int):Prop:=(-(2^64)<i/\i<2^64)\/(-(2^64)<j/\j<2^64)
def WM.ok{i j:Int}(h:WM i j):IntMulOk i j:=by
 rcases h with⟨b,a⟩|⟨b,a⟩
 .exact .of_left (intBits_le_64 b a)
 .exact .of_right (intBits_le_64 b a)
def GA:ZM X (binaryOp .Add) (WE λi j=>.int (i+j)):=P_ λ_ _ _ _ _ _ _ q=>add_int q
def V2:ZM X (binaryOp .Sub) (WE λi j=>.int (i-j)):=P_ λ_ _ _ _ _ _ _ q=>sub_int q
def VY:ZM X (binaryOp .Mult) (rI WM λi j=>.int (i*j)):=Sn λ_ _ _ _ _ _ _ a q=>mul_int q a.ok
def WO:ZM X (binaryOp .FloorDiv) (rI Q8 λi j=>.int (i / j)):=Sn λi j _ _ _ _ _ a q=>by
 have c:=a.1
 have b:=a.2
 exact floordiv_int (by omega) (by rwa[Int.fdiv_eq_ediv_of_nonneg i (by (exact Int.le_of_lt (by assumption)))]) (.inl (PyProof.noPylong_small (by omega)))
def Wb:ZM X (binaryOp .Mod) (rI (λ_ j=>0<j) λi j=>.int (i%j)):=Sn λi j _ _ _ _ _ a q=>by
 exact mod_int' (by omega) (by rwa[Int.fmod_eq_emod_of_nonneg i (by (exact Int.le_of_lt (by assumption)))])
def BN{f:Value->Sem Value}{g:Int->Int}(a:∀i t s (Q:Q0) (E:Q0),Q (.int (g i) s.toks) {s with toks:=s.toks+1}->wpAny (model X.prog X.w) X.A (f (.int i t)) Q E s):T6 X f (rU λi=>.int (g i)):=by
 intro c s U H x v Q I b h;obtain⟨i,rfl,q⟩:=h;obtain⟨t,rfl⟩:=b;exact a i t s _ _ ⟨.int _,H,I.tok _,⟨_,rfl⟩,q⟩
def JO:T6 X (unaryOp .USub) (rU λi=>.int (-i)):=BN λ_ _ _ _ _ q=>neg_int q
end
noncomputable def Ur:V->V->Bool
 |.non,.non=>true|.non,.int _=>true|.int _,.non=>true|.non,.bl _=>true|.bl _,.non=>true|.non,.str _=>true|.str _,.non=>true
 |.int _,.int _=>true|.bl _,.bl _=>true|.str _,.str _=>true|.byt _,.byt _=>true
 |.int _,.str _=>true|.str _,.int _=>true|.bl _,.str _=>true|.str _,.bl _=>true
 |_,_=>false
def GY:R2:=λx y H Q=>Ur x y=true/\Q (.bl (decide (x=y))) H
def IY:R2:=λx y H Q=>Ur x y=true/\Q (.bl (!decide (x=y))) H
def N5{i j:Int}:decide (V.int i=V.int j)=(i==j):=by
 rw[He];simp
def OW{i j:Bool}:decide (V.bl i=V.bl j)=(i==j):=by
 rw[He];simp
def NX{i j:Str}:decide (V.str i=V.str j)=(i==j):=by
 rw[He];simp
def NZ{i j:Array UInt8}:decide (V.byt i=V.byt j)=(i.toList==j.toList):=by
 rw[He];simp_all
section
variable {a b:Expr}
def bS{Q:VK}{k a:Bool}(I:Inv X y2 U H s)(q:Q (.bl k) H)(e:k=a):EP X y2 U Q (.bool a) s:=by
 subst e;exact⟨.bl k,H,I,rfl,q⟩
def Ip:ZM X (compareOp .Eq) GY:=by
 intro e s U H x y v u Q I d a h;obtain⟨c,q⟩:=h;cases x with
 |non=>
  cases d;cases y with
  |non=>cases a;exact PySem.EqNone.eq_none_none (bS I q (by simp))
  |bl j=>cases a;exact PySem.EqNone.eq_none_bool (bS I q (by simp))
  |int j=>obtain⟨b,rfl⟩:=a;exact PySem.EqNone.eq_none_int (bS I q (by simp))
  |str j=>obtain⟨b,rfl⟩:=a;exact PySem.EqNone.eq_none_str (bS I q (by simp))
  |_=>exact absurd (show false=true from c) Ar
 |bl i=>
  cases d;cases y with
  |non=>cases a;exact PySem.EqNone.eq_bool_none (bS I q (by simp))
  |bl j=>cases a;exact eq_bool (bS I q OW)
  |str j=>obtain⟨b,rfl⟩:=a;exact PySem.EqMixed.eq_bool_str (bS I q (by simp))
  |_=>exact absurd (show false=true from c) Ar
 |int i=>
  obtain⟨t,rfl⟩:=d;cases y with
  |non=>cases a;exact PySem.EqNone.eq_int_none (bS I q (by simp))
  |int j=>obtain⟨b,rfl⟩:=a;exact eq_int (bS I q N5)
  |str j=>obtain⟨b,rfl⟩:=a;exact PySem.EqMixed.eq_int_str (bS I q (by simp))
  |_=>exact absurd (show false=true from c) Ar
 |str i=>
  obtain⟨t,rfl⟩:=d;cases y with
  |non=>cases a;exact PySem.EqNone.eq_str_none (bS I q (by simp))
  |bl j=>cases a;exact PySem.EqMixed.eq_str_bool (bS I q (by simp))
  |int j=>obtain⟨b,rfl⟩:=a;exact PySem.EqMixed.eq_str_int (bS I q (by simp))
  |str j=>obtain⟨b,rfl⟩:=a;exact eq_str (bS I q NX)
  |_=>exact absurd (show false=true from c) Ar
 |byt i=>
  obtain⟨t,rfl⟩:=d;cases y with
  |byt j=>obtain⟨b,rfl⟩:=a;exact W.eq_bytes (bS I q NZ)
  |_=>exact absurd (show false=true from c) Ar
 |_=>cases y<;>exact absurd (show false=true from c) Ar
def LH:ZM X (compareOp .NotEq) IY:=by
 intro e s U H x y v u Q I d a h;obtain⟨c,q⟩:=h;cases x with
 |non=>
  cases d;cases y with
  |non=>cases a;exact PySem.EqNone.ne_none_none (bS I q (by simp))
  |bl j=>cases a;exact PySem.EqNone.ne_none_bool (bS I q (by simp))
  |int j=>obtain⟨b,rfl⟩:=a;exact PySem.EqNone.ne_none_int (bS I q (by simp))
  |str j=>obtain⟨b,rfl⟩:=a;exact PySem.EqNone.ne_none_str (bS I q (by simp))
  |_=>exact absurd (show false=true from c) Ar
 |bl i=>
  cases d;cases y with
  |non=>cases a;exact PySem.EqNone.ne_bool_none (bS I q (by simp))
  |bl j=>cases a;exact ne_bool (bS I q (Dp not OW))
  |str j=>obtain⟨b,rfl⟩:=a;exact PySem.EqMixed.ne_bool_str (bS I q (by simp))
  |_=>exact absurd (show false=true from c) Ar
 |int i=>
  obtain⟨t,rfl⟩:=d;cases y with
  |non=>cases a;exact PySem.EqNone.ne_int_none (bS I q (by simp))
  |int j=>obtain⟨b,rfl⟩:=a;exact ne_int (bS I q (Dp not N5))
  |str j=>obtain⟨b,rfl⟩:=a;exact PySem.EqMixed.ne_int_str (bS I q (by simp))
  |_=>exact absurd (show false=true from c) Ar
 |str i=>
  obtain⟨t,rfl⟩:=d;cases y with
  |non=>cases a;exact PySem.EqNone.ne_str_none (bS I q (by simp))
  |bl j=>cases a;exact PySem.EqMixed.ne_str_bool (bS I q (by simp))
  |int j=>obtain⟨b,rfl⟩:=a;exact PySem.EqMixed.ne_str_int (bS I q (by simp))
  |str j=>obtain⟨b,rfl⟩:=a;exact ne_str (bS I q (Dp not NX))
  |_=>exact absurd (show false=true from c) Ar
 |byt i=>
  obtain⟨t,rfl⟩:=d;cases y with
  |byt j=>obtain⟨b,rfl⟩:=a;exact W.ne_bytes (bS I q (Dp not NZ))
  |_=>exact absurd (show false=true from c) Ar
 |_=>cases y<;>exact absurd (show false=true from c) Ar
def Vt:ZM X (compareOp .Lt) (WE λi j=>.bl (decide (i<j))):=T4 λ_ _ _ _ _ _ _ q=>lt_int q
def Vi:ZM X (compareOp .LtE) (WE λi j=>.bl (decide (i<=j))):=T4 λ_ _ _ _ _ _ _ q=>le_int q
def Vk:ZM X (compareOp .Gt) (WE λi j=>.bl (decide (j<i))):=T4 λ_ _ _ _ _ _ _ q=>gt_int q
def Vy:ZM X (compareOp .GtE) (WE λi j=>.bl (decide (j<=i))):=T4 λ_ _ _ _ _ _ _ q=>ge_int q
def XB:ZM X (compareOp .In) (λx y H Q=>∃i j,x=.str i/\y=.str j/\Q (.bl (!(Builtin.Str.occurrences j i 0 j.length 1).isEmpty)) H):=by
 intro c s U H x y v u Q I b a h;obtain⟨i,j,rfl,rfl,q⟩:=h;obtain⟨t,rfl⟩:=b;obtain⟨d,rfl⟩:=a;exact in_str (bS I q rfl)
def VZ:ZM X (compareOp .Is) (λx y H Q=>y=.non/\Q (.bl (decide (x=.non))) H):=by
 intro c s U H x y v u Q I a b h;obtain⟨rfl,q⟩:=h;cases b;refine is_none_gen (bS I q ?_);cases x<;>first
  |(obtain⟨t,rfl⟩:=a;rfl)
def WL:ZM X (compareOp .IsNot) (λx y H Q=>y=.non/\Q (.bl (!decide (x=.non))) H):=by
 intro c s U H x y v u Q I a b h;obtain⟨rfl,q⟩:=h;cases b;refine isnot_none_gen (bS I q ?_);cases x<;>first
  |(obtain⟨t,rfl⟩:=a;rfl)
def bA(b:Expr){op:CmpOp}(h:op≠.In:=by decide)(a:op≠.NotIn:=by decide):behindInMarks op b=false:=by
 have d:(op==CmpOp.In)=false:=by grind
 have c:(op==CmpOp.NotIn)=false:=by grind
 cases b<;>simp[behindInMarks,d,c]
def eQ(g:ZM X (compareOp op) r)(k:PE X a ta)(j:PE X b tb)(i:behindInMarks op b=false):PE X (.Compare a [op] [b] pos) (VQ r ta tb):=by
 intro c s U H Q I h;exact wpAny_Compare1 (Sf k j I h λv u d x y m l f e q=>g c d U m x y v u Q l f e q) i
def PY(K:W.Frag)(x:V)(H:Hp)(k:Bool):Prop:=
 match x with
 |.non=>k=false
 |.bl b=>k=b
 |.int i=>k=(i != 0)
 |.str y=>y.length<=sizeLine/\k=((y.length:Int) != 0)
 |.byt y=>y.size<=sizeLine/\k=((y.size:Int) != 0)
 |.ref p=>(∃a,Zm K H p a/\k=!a.isEmpty)\/(∃a,Ya K H p a/\k=!a.isEmpty)\/∃c,H p=some (.dK c)/\k=!c.isEmpty
 |_=>False
def J2{b:Type}{a:List _}{vs:List (b×Value)}(r:KV a vs):(!vs.isEmpty)=!a.isEmpty:=by
 cases r<;>rfl
def uU(r:Vals xs its):(!its.toArray.isEmpty)=!xs.isEmpty:=by
 cases r<;>simp
def kO:(sizeLine:Nat)<2^63:=by rw[Ie];decide
def F8:IC X (λx H Q=>∃k,PY X.K x H k/\Q k H):=by
 intro B s U H x v Q I g h;obtain⟨k,e,q⟩:=h;have D:=kO
 have C:=Ie
 cases x with
 |non=>
  cases g;have a:=e
  subst a;exact truthy_none ⟨H,I,q⟩
 |bl b=>
  cases g;have a:=e
  subst a;exact Fn ⟨H,I,q⟩
 |int i=>
  obtain⟨t,rfl⟩:=g;have a:=e
  subst a;exact PySem.P.truthy_int ⟨H,I,q⟩
 |str y=>
  obtain⟨t,rfl⟩:=g;obtain⟨z,a⟩:y.length<=sizeLine/\k=((y.length:Int) != 0):=e;subst a;exact PySem.P.truthy_str (by ((try clear D);omega)) ⟨H,I.tok _,q⟩
 |byt y=>
  obtain⟨t,rfl⟩:=g;obtain⟨z,a⟩:y.size<=sizeLine/\k=((y.size:Int) != 0):=e;subst a;exact W.truthy_bytes (by (exact Nat.le_trans (by assumption) (by decide))) ⟨H,I.tok _,q⟩
 |ref p=>
  cases g;have a:=e
  rcases a with⟨f,j,a⟩|⟨f,j,a⟩|⟨c,j,a⟩
  .subst a;obtain⟨o,r,n,u⟩:=I.list j;have d:=r.length
   exact wpAny_truthy_list n.isList (by simp only[List.size_toArray];omega) ⟨H,I.tok _,by rwa[uU r]⟩
  .subst a;obtain⟨o,r,n,u⟩:=I.tuple j;have d:=r.length
   exact truthy_tuple n (by simp only[List.size_toArray];omega) ⟨H,I.tok _,by rwa[uU r]⟩
  .subst a;obtain⟨u,A,l,r,m⟩:c.length<=sizeLine/\(p==sysModules)=false/\∃l,KV c l/\s.heap.DictOf (bG X.prog X.w) p l:=I.Z3 p _ j;have d:=Paired.length r
   exact wpAny_truthy_dict A m (by omega) ⟨H,I.tok _,by rwa[J2 r]⟩
 |_=>exact(show False from e).elim
def JU:ZM X (binaryOp .Add) (λx y H Q=>∃i j,x=.str i/\y=.str j/\i.length+j.length<=sizeLine/\Q (.str (i++j)) H):=by
 intro e s U H x y v u Q I c b h;obtain⟨i,j,rfl,rfl,d,q⟩:=h;obtain⟨t,rfl⟩:=c;obtain⟨a,rfl⟩:=b;exact add_str (λa f=>⟨.str _,H,I.tok _,⟨_,rfl⟩,q⟩) d
def eC{x:V}(r:Vals [x] us):∃u,us=[u]/\RelV x u:=by
 cases r with
 |cons b a=>cases a;exact⟨_,rfl,b⟩
def T1{x y:V}(r:Vals [x,y] us):∃u a,us=[u,a]/\RelV x u/\RelV y a:=by
 cases r with
 |cons e d=>
  cases d with
  |cons c b=>cases b;exact⟨_,_,rfl,e,c⟩
def Xr:ZU X (.type "int") (λa H Q=>(∃i,a=[.int i]/\Q (.int i) H)\/∃k,a=[.bl k]/\Q (.int (if k then 1 else 0)) H):=by
 intro c s U H a d Q I r h;rcases h with⟨i,rfl,q⟩|⟨k,rfl,q⟩
 .obtain⟨u,rfl,t,rfl⟩:=eC r;exact call_int_int ⟨.int i,H,I,⟨_,rfl⟩,q⟩
 .obtain⟨u,rfl,b⟩:=eC r;cases b;exact call_int_bool ⟨.int _,H,I.tok _,⟨_,rfl⟩,q⟩
def C_(K:W.Frag)(x:V)(H:Hp)(n:Nat):Prop:=
 match x with
 |.str y=>y.length<=sizeLine/\n=y.length
 |.byt y=>y.size<=sizeLine/\n=y.size
 |.ref p=>(∃a,Zm K H p a/\n=a.length)\/∃a,Ya K H p a/\n=a.length
 |_=>False
def W8:ZU X (.builtin "len") (λa H Q=>∃x n,a=[x]/\C_ X.K x H n/\Q (.int n) H):=by
 intro m s U H a o Q I r h;obtain⟨x,n,rfl,e,q⟩:=h;obtain⟨u,rfl,d⟩:=eC r;have w:=kO
 have v:=Ie
 cases x with
 |str y=>
  obtain⟨t,rfl⟩:=d;obtain⟨l,c⟩:y.length<=sizeLine/\n=y.length:=e;subst c;exact len_str (by ((try clear w);omega)) ⟨.int _,H,I.tok _,⟨_,rfl⟩,q⟩
 |byt y=>
  obtain⟨t,rfl⟩:=d;obtain⟨l,c⟩:y.size<=sizeLine/\n=y.size:=e;subst c;exact W.len_bytes (by (exact Nat.le_trans (by assumption) (by decide))) ⟨.int _,H,I.tok _,⟨_,rfl⟩,q⟩
 |ref p=>
  cases d;have c:=e
  rcases c with⟨a,j,c⟩|⟨a,j,c⟩
  .subst c;obtain⟨i,f,g,k⟩:=I.list j;have b:=f.length
   exact Calls.call_len_list g.isList (by simp only[List.size_toArray];omega) ⟨.int a.length,H,I.tok _,⟨_,by simp only[List.size_toArray];rw[b]⟩,q⟩
  .subst c;obtain⟨i,f,g,k⟩:=I.tuple j;have b:=f.length
   exact len_tuple g (by simp only[List.size_toArray];omega) ⟨.int a.length,H,I.tok _,⟨_,by simp only[List.size_toArray];rw[b]⟩,q⟩
 |_=>exact(show False from e).elim
end
structure XX (h:Heap) (x dx C:Addr) (mA:Str->Option Value):Prop where
 obj:h.get? x=some (W.instObj C dx)
 ns:h.Ns1 dx mA
 ne:dx≠x
def zO{f:Q5}(n:h.Ns1 dx f):∃d,h.get? dx=some d/\∀b,W.lookIn b d=some (f b):=by
 obtain⟨o,g,r,j,m,l,_,k⟩:=n;refine⟨o,j,λb=>?_⟩;have e:=k b
 unfold nsFind findBy at e;rw[<-Array.find?_toList]at e;unfold W.lookIn;rw[m];dsimp only;split
 .rename_i y q
  rw[q]at e;exact Dp some e
 .rename_i q
  rw[q]at e;have a:g.toList.any (·.refKey)=false:=by
   rw[List.any_eq_false];intro y i;obtain⟨z,t,c⟩:=l y (Array.mem_toList_iff.mp i);simp[DictEntry.refKey,c]
  grind
def XX.look{x:Addr}{c:Q5}(I:XX h x dx C c):∃b,W.InstAt h x (W.instObj C dx) C (some b)/\∀a,W.lookIn a b=some (c a):=
 let ⟨b,d,e⟩:=zO I.ns
 ⟨b,⟨I.obj,rfl,rfl,d⟩,e⟩
section
variable {prog:Program} {x f:Addr} {mA:Q5} {name:Str} {v:Value}
def JE{a:Bool}(X:K.In s.heap)(I:XX s.heap x dx C mA)(f:W.plainGet K C name=true)(e:W.hasDictIn K C=true)(g:W.findIn K (.ref C) name=some none)(c:mA name=some v)(b:W.handedIn v=true)(h:Q v {s with toks:=s.toks+1}):wpAny (model prog w) A (getAttr (.ref x) name a) Q E s:=by
 obtain⟨i,J,d⟩:=I.look;exact W.get_value X J (W.plainGet_of f).1 (W.findObj_own e g rfl (by rw[d,c])) b h
def GK{Q:Value×List Value->Shared->Prop}(X:K.In s.heap)(I:XX s.heap x dx C mA)(a:W.plainGet K C name=true)(g:W.findIn K (.ref C) name=some (some (.ref f)))(d:W.isFn K (.ref f)=true)(c:mA name=none)(h:Q (.ref f,[.ref x]) s):wpAny (model prog w) A (getMethod (.ref x) name pl) Q E s:=by
 obtain⟨b,J,e⟩:=I.look;exact W.method_fn X J (W.plainGet_of a).1 (W.plainGet_of a).2 g (Hi.mp d) (by show (W.lookIn name b).map _=some false;rw[e,c];rfl) h
def Ld{Q:Unit->Shared->Prop}(X:K.In s.heap)(I:XX s.heap x dx C mA)(hs:W.findIn K (.ref C) "__setattr__"=some (some (.builtin "object.__setattr__")))(n:W.plainOver K C=true)(m:W.takerIn K C name=some none)(o:W.hasDictIn K C=true)(l:PySem.Within mA ns)(hsz:ns.length<=sizeLine)(h:∀e,XX e x dx C (λy=>if y=name then some v else mA y)->Heap.SameBut dx s.heap e->Q () {s with heap:=e,toks:=s.toks+2}):wpAny (model prog w) A (setAttr (.ref x) name v) Q E s:=by
 obtain⟨u,J,B⟩:=I.look;refine W.set_plain X J hs (W.osa_open (s:={s with toks:=s.toks+1}) (r:=none) X J n m λb=>?_)
 obtain⟨D,p,i⟩:=W.any_some o;have k:=I.obj
 refine Ae (As (Ae (Ae (wpAny_loadPart k (Ae (W.Looks.here (s:={s with toks:=s.toks+1}) (W.looks_clsIn X p) ?_))))))
 rw[i];refine As (a:=some dx) (Ae (As (Ae ?_)));refine wpAny_nsSet1 (s:={s with toks:=s.toks+1}) I.ns λe d c=>?_
 obtain⟨z,q,t,f,g,j⟩:=d.count (PySem.Within.cons name v l);refine Ae (wpAny_lookBehind f (by rw[g];exact pastItsLine_dict (Bh j (by grind))) ?_)
 exact As (h _ ⟨(c.2 _ (Ne.symm I.ne)).trans I.obj,d,I.ne⟩ c)
def D7{vs:List Value}(X:K.In s.heap)(b:W.makesIn K C=true)(c:W.findIn K (.ref C) "__init__"=some (some (.ref f)))(e:W.typeIn K (.ref f)=some (.type "function"))(h:codeAny (model prog w) (A.under (.builtin "type.__call__" ⟨.ref C::vs,kw⟩)) (.call (.ref f) ⟨.ref (s.heap.objs.size+1)::vs,kw⟩) (W.InitBack (s.heap.objs.size+1) R)
 {s with heap:=(s.heap.push W.emptyDict).push (W.instObj C s.heap.objs.size)}):codeAny (model prog w) A (.call (.ref C) ⟨vs,kw⟩) R s:=by
 exact W.make_core (W.makes_of X b) (W.looks_findIn X c) (λa=>W.bind_fn X a e) (.inl rfl) h
end
noncomputable def gM(f:Str)(v:V):List (Str×V)->List (Str×V)
 |[]=>[(f,v)]
 |(g,x)::r=>if g=f then (g,v)::r else (g,x)::gM f v r
def sV(f g:Str)(v:V):∀c,(gM f v c).lookup g=if g=f then some v else c.lookup g
 |[]=>by
  show List.lookup g [_]=_
  grind
 |(k,x)::r=>by
  have d:=sV f g v r
  rw[show gM f v ((k,x)::r)=(if k=f then (k,v)::r else (k,x)::gM f v r) from rfl]
  grind
def sJ(f:Str)(v:V):∀b,f∈(gM f v b).map (·.1)/\∀g,g∈b.map (·.1)->g∈(gM f v b).map (·.1)
 |[]=>⟨by simp[gM],λg h=>by simp at h⟩
 |(k,x)::r=>by
  obtain⟨d,c⟩:=sJ f v r;rw[show gM f v _=(if k=f then _::r else _::gM f v r) from rfl]
  grind
def sO(f:Str)(v:V):∀b,(gM f v b).length<=b.length+1
 |[]=>by simp[gM]
 |(k,x)::r=>by
  have c:=sO f v r
  rw[show gM f v _=(if k=f then _::r else _::gM f v r) from rfl]
  grind
def Zq.some_of{o:Option Value}(r:Zq (some v) o):∃u,o=some u/\RelV v u:=by
 cases o with
 |none=>exact(show False from r).elim
 |some u=>exact⟨u,rfl,r⟩
def Zq.none_of{o:Option Value}(r:Zq none o):o=none:=by
 cases o with
 |none=>rfl
 |some u=>exact(show False from r).elim
def K2(r:RelV v u):W.handedIn u=true:=by
 cases v with
 |non=>cases (show u=Value.none from r);rfl
 |bl b=>cases (show u=Value.bool b from r);rfl
 |int i=>obtain⟨t,e⟩:=(show ∃t,u=Value.int i t from r);cases e;rfl
 |str x=>obtain⟨t,e⟩:=(show ∃t,u=Value.str x t from r);cases e;rfl
 |byt b=>obtain⟨t,e⟩:=(show ∃t,u=Value.bytes b t from r);cases e;rfl
 |flt b=>obtain⟨t,e⟩:=(show ∃t,u=Value.float b t from r);cases e;rfl
 |ref a=>cases (show u=Value.ref a from r);rfl
 |ty n=>cases (show u=Value.type n from r);rfl
section
variable {fs:List (Str×V)}
def tU(c:Zl P w H h)(e:H a=some (.ins C dx fs)):∃b,XX h a dx C b/\(∀f,Zq (fs.lookup f) (b f))/\PySem.Within b (fs.map (·.1))/\fs.length<=1000/\H dx=some (.own a):=by
 obtain⟨d,z,i,g,b,n,r,q⟩:=(show ZZ P w H h a _ from c a _ e);exact⟨b,⟨g,n,i⟩,r,q,z,d⟩
end
structure Ye (K:W.Frag) (C:Addr):Prop where
 pg:W.plainGet K C Str.empty=true
 hd:W.hasDictIn K C=true
 po:W.plainOver K C=true
 sa:W.findIn K (.ref C) "__setattr__"=some (some (.builtin "object.__setattr__"))
def Ye.get(c:Ye K C)(f:Str):W.plainGet K C f=true:=c.pg
def Zg(K:W.Frag)(C:Addr)(f:Str):Prop:=W.findIn K (.ref C) f=some none
def Zg.U7{f:Str}(n:Zg K C f):W.takerIn K C f=some none:=by
 unfold W.takerIn;rw[show W.findIn K _ f=some none from n];rfl
structure Meth (K:W.Frag) (C:Addr) (m:Str) (f:Addr):Prop where
 at_:W.findIn K (.ref C) m=some (some (.ref f))
 fn:W.isFn K (.ref f)=true
 kp:W.keepIn K (.ref f)=true
section
variable {fs:List (Str×V)} {f:Str}
def Jn{b:Bool}(I:Inv X y2 U H s)(e:H a=some (.ins C dx fs))(c:Ye X.K C)(n:Zg X.K C f)(l:fs.lookup f=some v)(h:∀u d,Inv X y2 U H d->RelV v u->Q u d):wpAny (model X.prog X.w) A (getAttr (.ref a) f b) Q E s:=by
 obtain⟨i,O,r,_,_,_⟩:=tU I.Z3 e;obtain⟨u,j,g⟩:=Zq.some_of   (by rw[<-l];exact r f)
 exact JE I.ZA O (c.get f) c.hd n j (K2 g) (h u _ (I.tok _) g)
def kP{g:Addr}{Q:Value×List Value->Shared->Prop}(I:Inv X y2 U H s)(e:H a=some (.ins C dx fs))(c:Ye X.K C)(k:Meth X.K C m g)(l:fs.lookup m=none)(h:Q (.ref g,[.ref a]) s):wpAny (model X.prog X.w) A (getMethod (.ref a) m pl) Q E s:=by
 obtain⟨b,O,r,_,_,_⟩:=tU I.Z3 e;have d:=Zq.none_of (by rw[<-l];exact r m)
 exact GK I.ZA O (c.get m) k.at_ k.fn d h
def C8{Q:Unit->Shared->Prop}(I:Inv X y2 U H s)(e:H a=some (.ins C dx fs))(c:Ye X.K C)(n:Zg X.K C f)(J:fs.length<1000)(p:RelV y u)(h:∀j,Inv X y2 U (upd H a (.ins C dx (gM f y fs))) j->Q () j):wpAny (model X.prog X.w) A (setAttr (.ref a) f u) Q E s:=by
 obtain⟨k,O,r,i,_,l⟩:=tU I.Z3 e;have t:(fs.map (·.1)).length<=sizeLine:=by rw[Ab,Ie];(exact Nat.le_trans (by assumption) (by decide))
 refine Ld I.ZA O c.sa c.po n.U7 c.hd i t λF d m=>h _ ?_;have B:∃o,F.get? dx=some o:=let ⟨o,_,_,G,_⟩:=d.ns;⟨o,G⟩
 refine I.write (x:=a) (e:=dx) (by rw[e];exact True.intro) (.inr l) (λb q D z=>(m.2 b D).trans z) B ?_
 refine⟨by rw[aH O.ne];exact l,?_,O.ne,d.obj,_,d.ns,λg=>?_,λg v=>?_⟩
 .have:=sO f y fs;((try clear t);omega)
 .show Zq ((gM f y fs).lookup g) (if g=f then some u else k g)
  rw[sV];by_cases q:g=f
  .rw[if_pos q,if_pos q];exact p
  .rw[if_neg q,if_neg q];exact r g
 .by_cases q:g=f
  .rw[q];exact(sJ f y fs).1
  .refine(sJ f y fs).2 g (i g λz=>v ?_);show (if g=f then some u else k g)=none
   rw[if_neg q];exact z
def Inv.made(I:Inv X y2 U H s):Inv X y2 U (upd (upd H s.heap.objs.size (.own (s.heap.objs.size+1))) (s.heap.objs.size+1) (.ins C s.heap.objs.size []))
 {s with heap:=(s.heap.push W.emptyDict).push (W.instObj C s.heap.objs.size)}:=by
 have d:(s.heap.push W.emptyDict).get? s.heap.objs.size=some W.emptyDict:=Ay s.heap rfl
 have j:((s.heap.push W.emptyDict).push (W.instObj C s.heap.objs.size)).get? (s.heap.objs.size+1)=some (W.instObj C s.heap.objs.size):=by
  have:=Ay (s.heap.push W.emptyDict) (o:=W.instObj C s.heap.objs.size) rfl
  simp_all
 have i:(s.heap.push W.emptyDict).Ns s.heap.objs.size _:=⟨W.emptyDict,#[],_,d,rfl,(λe g=>absurd g (by simp)),λ_=>rfl⟩
 have k:=I.laid  (o:=.own (s.heap.objs.size+1)) (h':=s.heap.push W.emptyDict) (t':=s.toks) (λb u q=>Ai _ q) (Ah _) ⟨_,d⟩
 refine k.laid (a:=s.heap.objs.size+1) (o:=.ins C s.heap.objs.size []) (t':=s.toks) (λb u q=>Ai _ q) (Nat.le_of_eq (Fy _ _)) ?_;have c:s.heap.objs.size≠s.heap.objs.size+1:=Bl (Nat.lt_succ_self _)
 refine⟨by rw[aH c,aD],Da _,c,j,λ_=>none,(Heap.Ns1.of_empty i).at λo q=>Ai _ q,λ_=>True.intro,λy f=>absurd rfl f⟩
def Qd{a:Env}{f:Str}(c:attributeBase e f a (eval e a)=eval e a)(h:wpAny (model prog w) A (eval e a) (λo b=>wpAny (model prog w) A (getAttr o f true) Q E b) E s):wpAny (model prog w) A (eval (.Attribute e f pos) a) Q E s:=
 Attribute_any_ h (by rw[arm_eval_Attribute,c])
end
def Oa(K:W.Frag)(d:TE)(f:Str):TE:=λU H Q=>d U H λx c=>∃a C e b v,x=.ref a/\c a=some (.ins C e b)/\Ye K C/\Zg K C f/\b.lookup f=some v/\Q v c
def Pk(K:W.Frag)(g e:TE)(f:Str):TS:=λD U H=>e U H λy h=>g U h λx d=>∃a C c b,x=.ref a/\d a=some (.ins C c b)/\Ye K C/\Zg K C f/\b.length<1000/\
 D.nx U (upd d a (.ins C c (gM f y b)))
section
variable {o value:Expr} {f:Str} {pos':Pos} {tv:TE}
def gI(he:PE X e ta)(hb:attributeBase e f X.env (eval e X.env)=eval e X.env):PE X (.Attribute e f pos) (Oa X.K ta f):=by
 intro y2 s U H Q I h;refine Qd hb (ZX (he y2 s U H _ I h) λu s1 μ=>?_);obtain⟨x,H1,I1,rx,a,C,dx,fs,v,ex,ea,c,n,l,q⟩:=μ;subst ex;obtain rfl:u=Value.ref a:=rx;exact Jn I1 ea c n l λu' s2 I2 ru=>⟨v,H1,I2,ru,q⟩
def lX(ha:PE X o ta)(hv:PE X value tv)(hs:swapsWith value (some (.Attribute o f pos')) pos.line X.env=pure false):PS X (.Assign [.Attribute o f pos'] value pos) (Pk X.K ta tv f):=by
 intro y2 s U H D I h;refine plainObj_wpAny_Assign_Attribute (ZX (hv y2 s U H _ I h) λu s1 ⟨y,H1,I1,ry,q⟩=>ZX (ha y2 s1 U H1 _ I1 q) λov s2 μ=>?_) hs;obtain⟨x,H2,I2,rx,a,C,dx,fs,ex,ea,c,n,l,q2⟩:=μ;subst ex;obtain rfl:ov=Value.ref a:=rx;exact C8 I2 ea c n l ry λs3 I3=>⟨U,_,I3,q2⟩
def A1{args:List Expr}(he:PE X e te)(I:Inv X y2 U H s)(h:te U H λx H1=>∃a C dx fs g,x=.ref a/\H1 a=some (.ins C dx fs)/\Ye X.K C/\Meth X.K C m g/\fs.lookup m=none/\
 ∀s1,Inv X y2 U H1 s1->wpAny (model X.prog X.w) X.A (callWith pos (.ref g) [.ref a] (backTo pos (starEach args X.env)) (backToKw pos (keywordEach [] X.env))) Q X.xe s1)(ht:eval (.Call (.Attribute e m apos) args [] pos) X.env=(do
 let ov <-eval e X.env
 standAt apos.atName
 let (f,first) <-holding [ov] (getMethod ov m pl)
 callWith pos f first (backTo pos (starEach args X.env)) (backToKw pos (keywordEach [] X.env)))):wpAny (model X.prog X.w) X.A (eval (.Call (.Attribute e m apos) args [] pos) X.env) Q X.xe s:=by
 refine Fi (pl:=pl) (ZX (he y2 s U H _ I h) λu s1 μ=>?_) ht;obtain⟨x,H1,I1,rx,a,C,dx,fs,g,ex,ea,c,k,l,q⟩:=μ;subst ex;obtain rfl:u=Value.ref a:=rx;exact kP I1 ea c k l (q s1 I1)
end
section
variable {c:Value} {b:Bool}
inductive Y6 (K:W.Frag) (H:Hp):V->Value->Prop where
 |non:Y6 K H .non (.type "NoneType")
 |bl (x:Bool):Y6 K H (.bl x) (.type "bool")
 |int (i:Int):Y6 K H (.int i) (.type "int")
 |str (x:Str):Y6 K H (.str x) (.type "str")
 |flt (x:UInt64):Y6 K H (.flt x) (.type "float")
 |lst {a:Addr} {xs:List V} (e:H a=some (.lst xs)):Y6 K H (.ref a) (.type "list")
 |frz {a:Addr} {o:Obj} {xs:List V} (e:H a=some (.frz o (.lst xs))):Y6 K H (.ref a) (.type "list")
 |tup {a:Addr} {xs:List V} (e:H a=some (.tup xs)):Y6 K H (.ref a) (.type "tuple")
 |dK {a:Addr} {kvs:List (Key×V)} (e:H a=some (.dK kvs)):Y6 K H (.ref a) (.type "dict")
 |dT {a:Addr} {kvs:List (List Key×V)} (e:H a=some (.dT kvs)):Y6 K H (.ref a) (.type "dict")
 | ins {a C dx:Addr} {fs:List (Str×V)} (e:H a=some (.ins C dx fs)) (cl:Ye K C) (ha:W.findIn K (.ref C) "__class__"=some (some (.builtin "object.__class__")))
     (hn:W.specialIn K (.builtin "object.__class__") "__get__"=some (some (.builtin "getset_descriptor.__get__"))) (htk:W.takesIn K (.builtin "object.__class__")=some true)
     (hm:W.mroIn K C (.type "object")=some true):Y6 K H (.ref a) (.ref C)
def BS{x:V}{t:Value}(I:Inv X y2 U H s)(rx:RelV x u)(ty:Y6 X.K H x t)(e:W.kitOne X.K t c=some b)(h:∀tk,Q (.bool b) {s with toks:=tk}):wpAny (model X.prog X.w) A (call (.builtin "isinstance") [u,c]) Q E s:=by
 cases ty with
 |non=>cases (show u=Value.none from rx);exact Dt W.kitx_none I.ZA True.intro e (λz=>nomatch z) h
 |bl y=>cases (show u=Value.bool y from rx);exact Dt W.kitx_bool I.ZA True.intro e (λz=>nomatch z) h
 |int i=>obtain⟨t,q⟩:=(show ∃t,u=Value.int i t from rx);cases q;exact Dt W.kitx_int I.ZA True.intro e (λz=>nomatch z) h
 |str y=>obtain⟨t,q⟩:=(show ∃t,u=Value.str y t from rx);cases q;exact Dt W.kitx_str I.ZA True.intro e (λz=>nomatch z) h
 |flt y=>obtain⟨t,q⟩:=(show ∃t,u=Value.float y t from rx);cases q;exact Dt W.kitx_float I.ZA True.intro e (λz=>nomatch z) h
 | @lst a xs ea=>
  cases (show u=Value.ref a from rx);obtain⟨_,_,n,_,h1⟩:=(show ZZ X.prog X.w H s.heap a (.lst xs) from I.Z3 a _ ea);exact Dt W.kitx_list I.ZA ⟨_,h1,rfl⟩ e (λz=>nomatch z) h
 | @frz a ob xs ea=>
  cases (show u=Value.ref a from rx);obtain⟨_,_,_,n,_,h1⟩:=(show ZZ X.prog X.w H s.heap a (.frz ob (.lst xs)) from I.Z3 a _ ea);exact Dt W.kitx_list I.ZA ⟨_,h1,rfl⟩ e (λz=>nomatch z) h
 | @tup a xs ea=>
  cases (show u=Value.ref a from rx);obtain⟨_,_,_,p⟩:=(show ZZ X.prog X.w H s.heap a (.tup xs) from I.Z3 a _ ea);obtain⟨o,h1,h2,_⟩:=p;exact Dt W.kitx_tuple I.ZA ⟨o,h1,h2⟩ e (λz=>nomatch z) h
 | @dK a kvs ea=>
  cases (show u=Value.ref a from rx);obtain⟨_,_,vs,_,p⟩:=(show ZZ X.prog X.w H s.heap a (.dK kvs) from I.Z3 a _ ea);obtain⟨o,es,ep,h1,h2,_⟩:=p;exact Dt W.kitx_dict I.ZA ⟨o,h1,h2.1⟩ e (λz=>nomatch z) h
 | @dT a kvs ea=>
  cases (show u=Value.ref a from rx);obtain⟨_,_,xs,_,o,es,ep,h1,h2,_⟩:=(show ZZ X.prog X.w H s.heap a (.dT kvs) from I.Z3 a _ ea);exact Dt W.kitx_dict I.ZA ⟨o,h1,h2.1⟩ e (λz=>nomatch z) h
 | @ins a C dx fs ea cl ha hn htk hm=>
  cases (show u=Value.ref a from rx);obtain⟨mA,O,_⟩:=tU I.Z3 ea;obtain⟨od,J,_⟩:=O.look;exact Dt (W.kitx_own (cl.get _) cl.hd ha hn htk hm) I.ZA J e (λz=>nomatch z) h
end
structure Z2 (k:Nat) (A:Around):Prop where
 hd:A.handled=none
 dp:A.depth+3*k+5<recursionLimit
 un:A.units+16*k+200<cLine
def Z2.mono(r:Z2 k A)(h:j<=k):Z2 j A:=⟨r.hd,by have:=r.dp;omega,by have:=r.un;omega⟩
def Z2.deeper(r:Z2 (k+1) A)(a:Env):Z2 k (A.deeper a):=
 ⟨r.hd,by have:=r.dp;show A.depth+1+3*k+5<_;omega,by have:=r.un;show A.units+3+16*k+200<_;omega⟩
def Lh:(A.under (.builtin "type.__call__" ⟨.ref C::us,kw⟩)).depth=A.depth+1:=by
 first|rfl|simp
def Jp:(A.under (.builtin "type.__call__" ⟨.ref C::us,kw⟩)).units=A.units+1:=by
 first|rfl|simp
def Z2.make(r:Z2 (k+1) A)(C:Addr)(us:List Value)(a:List _):Z2 k (A.under (.builtin "type.__call__" ⟨.ref C::us,a⟩)):=
 ⟨r.hd,by have:=r.dp;rw[Lh];omega,by have:=r.un;rw[Jp];omega⟩
def Z2.depth(r:Z2 k A):A.depth<recursionLimit:=by have:=r.dp;omega
def Z2.units(r:Z2 k A):A.units+64<cLine:=by have:=r.un;omega
def Z2.YN(r:Z2 k A):A.units<cLine:=by have:=r.un;omega
def wF:TA:=λ_ H Q=>Q [] H
def VV(c:TE)(b:TA):TA:=λU H Q=>c U H λx e=>b U e λa d=>Q (x::a) d
section
variable {X:Cx} {e:Expr} {es:List Expr} {te:TE} {t:TA} {pos:Pos}
def aB:PA X [] wF:=λ_ _ _ _ H Q I h=>Calls.spliced_nil ⟨[],H,I,.nil,h⟩
def aA(l:PE X e te)(k:PA X es t)(hs:starEach (e::es) X.env=(false,eval e X.env)::starEach es X.env:=by rfl):PA X (e::es) (VV te t):=by
 intro a b s U H Q I h;rw[hs]
 refine Calls.spliced_cons (ZX (l b s U H _ I h) λu d μ=>?_);obtain⟨x,p,n,g,j⟩:=μ;exact ZX (k a b d U p _ n j) λq r ⟨c,o,m,f,i⟩=>⟨x::c,o,m,.cons g f,i⟩
def Rq(t:TA):TE:=λU H Q=>t U H λa b=>a.length<=sizeLine/\∀p,b p=none->Q (.ref p) (upd b p (.tup a))
def Qh(t:TA):TE:=λU H Q=>t U H λa b=>a.length<=sizeLine/\∀p,b p=none->Q (.ref p) (upd b p (.lst a))
def cU(h:PA X es t):PE X (.Tuple es x1 pos) (Rq t):=by
 intro f s U H Q I j;refine wpAny_Tuple_spliced (ZX (h pos f s U H _ I j) λi a ⟨g,d,c,r,z,q⟩=>⟨by rwa[<-r.length],?_⟩)
 have k:=c.Z3.fresh (Ah _)
 refine⟨.ref a.heap.objs.size,upd d a.heap.objs.size _,c.laid  (λb u e=>Ai _ e) (Ah _) ?_,rfl,q _ k⟩;exact⟨z,i,r,⟨_,Ay _ rfl,rfl,_,rfl⟩⟩
def bQ(h:PA X es t):PE X (.List es pos) (Qh t):=by
 intro f s U H Q I j;refine wpAny_List_spliced (ZX (h pos f s U H _ I j) λi a ⟨g,d,c,r,z,q⟩=>⟨by rwa[<-r.length],?_⟩)
 have k:=c.Z3.fresh (Ah _)
 refine⟨.ref a.heap.objs.size,upd d a.heap.objs.size _,c.laid  (λb u e=>Ai _ e) (Ah _) ?_,rfl,q _ k⟩;exact⟨z,i,0,r,Ay _ rfl⟩
end
abbrev Sp:=List V->Hp->VK->XK->Prop
abbrev Yb:=List Env->Hp->Shared->XK->Value->Shared->Prop
structure XT (P:Program) (w:World) (K:W.Frag) (mg:Str->Option Value) (base:Heap) (A:Around) (outer:List Env) (s:Shared) (H:Hp):Prop where
 frames:A.frames=some outer
 mod:Mod K mg base
 bs:∀b o,base.get? b=some o->s.heap.get? b=some o/\H b=none
 XN:base.objs.size<=s.heap.objs.size
 Zk:s.heap.FunFrames base outer
 WV:∀b∈YW outer,H b=none
 Z3:Zl P w H s.heap
 bare:AllBare s.gens
def CE(a:List Env)(P:Program)(w:World)(H:Hp)(s:Shared)(Q:VK)(u:Value)(s':Shared):Prop:=
 ∃v b,s'.os=s.os/\AllBare s'.gens/\Un (YW a) [] H b s.heap s'.heap/\Zl P w b s'.heap/\RelV v u/\Q v b
def CR(CX:Yb)(a:List Env)(P:Program)(w:World)(H:Hp)(s:Shared)(Q:VK)(E:XK)(r:Result)(s':Shared):Prop:=
 match r with
 |.ok (.ret u)=>CE a P w H s Q u s'
 |.ok _=>False
 |.error e=>CX a H s E e s'
structure Z8 (P:Program) (w:World) (K:W.Frag) (mg:Str->Option Value) (base:Heap) (CX:Yb) (k:Nat) (f:Addr) (fd:FuncData) (ps:List Str) (sp:Sp):Prop where
 len:∀vs H Q E,sp vs H Q E->vs.length=ps.length
 run:∀(A:Around) (outer:List Env) (s:Shared) (H:Hp) (args:Args) (us:List Value) (vs:List V) (Q:VK) (E:XK),Z2 k A->XT P w K mg base A outer s H->BindsTo s fd args (ps.zip us)->Vals vs us->sp vs H Q E->
  codeAny (model P w) A (.call (.ref f) args) (CR CX outer P w H s Q E) s
def XT.make{c:Q5}{b:Heap}{a:List Env}(e:XT P w K c b A a s H)(C:Addr)(us:List Value)(d:List _):XT P w K c b (A.under (.builtin "type.__call__" ⟨.ref C::us,d⟩)) a s H:=⟨by first|exact e.frames|(simpa [Around.under,Code.envs,Code.isFrame,pushEnvs]using e.frames),e.mod,e.bs,e.XN,e.Zk,e.WV,e.Z3,e.bare⟩
section
variable {s':Shared}
def Inv.Xc(I:Inv X y2 U H s):XT X.prog X.w X.K X.mg X.base X.A X.stack s H:=
 ⟨I.ok.frames,I.ok.mod,I.bs,Bh I.ok.XN I.sz,I.stack,I.Y4,I.Z3,I.bare⟩
def Inv.after{Q:VK}(I:Inv X y2 U H s)(h:CE X.stack X.prog X.w H s Q u s'):EP X y2 U Q u s':=by
 obtain⟨v,k,i,a,f,e,r,q⟩:=h;obtain⟨j,g,d,t,c⟩:=s';obtain rfl:c=s.os:=i;exact⟨v,k,I.call      f e a (λb z=>absurd z (by simp)),r,q⟩
end
def Ue(sp:Sp)(a:List V)(E:XK)(t:TA):TE:=λU H Q=>t U H λb c=>sp (b++a) c Q E
def UZ(C:Addr)(m:Str)(sp:Sp)(b:List V)(E:XK)(f:TE)(t:TA):TE:=λU H Q=>f U H λx d=>∃a g c,x=.ref a/\d a=some (.ins C g c)/\c.lookup m=none/\
 t U d λe h=>sp (x::(e++b)) h Q E
def RP(C:Addr)(sp:Sp)(b:List V)(E:XK)(t:TA):TE:=λU H Q=>t U H λd c=>∀x a,c x=none->c a=none->a≠x->
 sp (.ref x::(d++b)) (upd (upd c a (.own x)) x (.ins C a [])) (λv e=>v=.non/\Q (.ref x) e) E
def Binds(K:W.Frag)(b:FuncData)(ps:List Str)(ds:List Value):Prop:=
 ∀s a,K.In s.heap->(a++ds).length=ps.length->BindsTo s b ⟨a,[]⟩ (ps.zip (a++ds))
def Binds.all(h:∀a,a.length=ps.length->bindArgs c ⟨a,[]⟩=pure (ps.zip a)):Binds K c ps []:=λs a _ b=>by
 rw[Br]at b ⊢;exact .of_eq (h a b)
def iC(CX:Yb)(X:Cx)(E:XK):Prop:=∀b (U:St) H s e a,Inv X b U H s->CX X.stack H s E e a->X.xe e a
section
variable {CX:Yb} {f:Addr} {fd:FuncData} {sp:Sp} {dvs:List V} {ds:List Value} {E:XK} {m:Str} {p apos:Pos} {o:Expr}
def SE{Q:VK}{us:List Value}{vs:List V}(F:Z8 X.prog X.w X.K X.mg X.base CX k f fd ps sp)(g:Z2 k X.A)(l:Binds X.K fd ps ds)(j:Vals dvs ds)(d:iC CX X E)(I:Inv X y2 U H s)(r:Vals vs us)(h:sp (vs++dvs) H Q E):wpAny (model X.prog X.w) X.A (call (.ref f) us) (EP X y2 U Q) X.xe s:=by
 have b:=r.append j
 have i:(us++ds).length=ps.length:=by rw[<-b.length];exact F.len _ _ _ _ h
 refine Ge (Fb (F.run X.A X.stack s H ⟨us,[]⟩ _ _ Q E g I.Xc (l s us I.ZA i) b h) λr c a=>?_);cases r with
 |error e=>exact d y2 U H s e c I a
 |ok m=>
  cases m with
  |ret u=>exact I.after a
  |next=>exact False.elim a
  |brk=>exact False.elim a
  |cont=>exact False.elim a
def PC(F:Z8 X.prog X.w X.K X.mg X.base CX k f fd ps sp)(i:Z2 k X.A)(m:Gl X x)(j:X.mg x=some (.ref f))(l:W.keepIn X.K (.ref f)=true)(u:Binds X.K fd ps ds)(o:Vals dvs ds)(g:iC CX X E)(v:PA X (e::es) t)(b:(x==("__debug__" : Str))=false:=by decide)(n:starEach (e::es) X.env=(false,eval e X.env)::starEach es X.env:=by rfl)(a:(backTo pos (starEach es X.env)).any (·.1)=false:=by rfl):PE X (.Call (.Name x p) (e::es) [] pos) (Ue sp dvs E t):=by
 intro d s U H Q I h;refine Dr (gZ I m j ?_ b);refine Ff  I.ok.mod.Wy l (ZX (v pos d s U H _ I h) λz B ⟨y,C,c,r,q⟩=>⟨c.ZA,?_⟩) n a;exact SE F i u o g c r q
def G3{pl:Sem Bool}(he:PE X o ta)(c:Ye X.K C)(hm:Meth X.K C m f)(F:Z8 X.prog X.w X.K X.mg X.base CX k f fd ps sp)(hr:Z2 k X.A)(hb:Binds X.K fd ps ds)(hd:Vals dvs ds)(hx:iC CX X E)(ha:PA X (e::es) t)(hst:starEach (e::es) X.env=(false,eval e X.env)::starEach es X.env:=by rfl)(hpl:(backTo pos (starEach es X.env)).any (·.1)=false:=by rfl)(ht:eval (.Call (.Attribute o m apos) (e::es) [] pos) X.env=(do
 let ov <-eval o X.env
 standAt apos.atName
 let (f,first) <-holding [ov] (getMethod ov m pl)
 callWith pos f first (backTo pos (starEach (e::es) X.env)) (backToKw pos (keywordEach [] X.env))):=by rfl):PE X (.Call (.Attribute o m apos) (e::es) [] pos) (UZ C m sp dvs E ta t):=by
 intro y2 s U H Q I h;refine Fi (pl:=pl) (ZX (he y2 s U H _ I h) λu s1 μ=>?_) ht;obtain⟨x,H1,I1,rx,a,dx,fs,ex,ea,l,q⟩:=μ;subst ex;obtain rfl:u=Value.ref a:=rx;refine kP I1 ea c hm l ?_;refine Ff (first:=[.ref a]) (h₀:=X.base) I.ok.mod.Wy hm.kp (ZX (ha pos y2 s1 U H1 _ I1 q) λus s2 ⟨vs,H2,I2,r,q2⟩=>⟨I2.ZA,?_⟩) hst hpl
 exact SE (us:=.ref a::us) (vs:=.ref a::vs) F hr hb hd hx I2 (.cons rfl r) q2
def Kk{pl:Sem Bool}(he:PE X o ta)(c:Ye X.K C)(hm:Meth X.K C m f)(F:Z8 X.prog X.w X.K X.mg X.base CX k f fd ps sp)(hr:Z2 k X.A)(hb:Binds X.K fd ps ds)(hd:Vals dvs ds)(hx:iC CX X E)(ht:eval (.Call (.Attribute o m apos) [] [] pos) X.env=(do
 let ov <-eval o X.env
 standAt apos.atName
 let (f,first) <-holding [ov] (getMethod ov m pl)
 callWith pos f first (backTo pos (starEach [] X.env)) (backToKw pos (keywordEach [] X.env))):=by rfl):PE X (.Call (.Attribute o m apos) [] [] pos) (UZ C m sp dvs E ta wF):=by
 intro y2 s U H Q I h;refine Fi (pl:=pl) (ZX (he y2 s U H _ I h) λu s1 μ=>?_) ht;obtain⟨x,H1,I1,rx,a,dx,fs,ex,ea,l,q⟩:=μ;subst ex;obtain rfl:u=Value.ref a:=rx;refine kP I1 ea c hm l ?_;exact W.callWith_K0 (first:=[.ref a]) I1.ZA hm.kp (SE (us:=[.ref a]) (vs:=[.ref a]) F hr hb hd hx I1 (.cons rfl .nil) q)
structure Mk (K:W.Frag) (C f:Addr):Prop where
 makes:W.makesIn K C=true
 init:W.findIn K (.ref C) "__init__"=some (some (.ref f))
 fn:W.isFn K (.ref f)=true
 kp:W.keepIn K (.ref C)=true
def GJ{Q:VK}{vs:List V}(M:Mk X.K C f)(F:Z8 X.prog X.w X.K X.mg X.base CX k f fd ps sp)(n:Z2 (k+1) X.A)(q:Binds X.K fd ps ds)(p:Vals dvs ds)(m:iC CX X E)(I:Inv X y2 U H s)(r:Vals vs us)(h:∀x b,H x=none->H b=none->b≠x->sp (.ref x::(vs++dvs)) (upd (upd H b (.own x)) x (.ins C b [])) (λv B=>v=.non/\Q (.ref x) B) E):wpAny (model X.prog X.w) X.A (call (.ref C) us) (EP X y2 U Q) X.xe s:=by
 have g:=h (s.heap.objs.size+1) s.heap.objs.size (I.Z3.fresh (Ig _)) (I.Z3.fresh (Ah _)) (Bl (Nat.lt_succ_self _))
 have c:=Inv.made (C:=C) I
 have d:Vals (V.ref (s.heap.objs.size+1)::(vs++dvs)) (Value.ref (s.heap.objs.size+1)::(us++ds)):=.cons rfl (r.append p)
 have o:(Value.ref (s.heap.objs.size+1)::us++ds).length=ps.length:=by
  have e:=d.length
  rw[F.len _ _ _ _ g]at e;exact e.symm
 refine Ge (D7 (f:=f) I.ZA M.makes M.init (Hi.mp M.fn) (Fb (F.run _ X.stack _ _ ⟨Value.ref (s.heap.objs.size+1)::us,[]⟩ (Value.ref (s.heap.objs.size+1)::(us++ds)) _ _ E (n.make C us [])
  (c.Xc.make C us []) (q _ (Value.ref (s.heap.objs.size+1)::us) c.ZA o) d g) λr i a=>?_))
 cases r with
 |error e=>exact m y2 U _ _ e i c a
 |ok t=>
  cases t with
  |ret u=>
   obtain⟨v,D,z,j,y,l⟩:=c.after a;subst y;exact⟨j,⟨V.ref (s.heap.objs.size+1),D,z,rfl,l⟩⟩
  |next=>exact False.elim a
  |brk=>exact False.elim a
  |cont=>exact False.elim a
def MU(M:Mk X.K C f)(F:Z8 X.prog X.w X.K X.mg X.base CX k f fd ps sp)(i:Z2 (k+1) X.A)(l:Gl X x)(j:X.mg x=some (.ref C))(o:Binds X.K fd ps ds)(n:Vals dvs ds)(g:iC CX X E)(u:PA X (e::es) t)(b:(x==("__debug__" : Str))=false:=by decide)(m:starEach (e::es) X.env=(false,eval e X.env)::starEach es X.env:=by rfl)(a:(backTo pos (starEach es X.env)).any (·.1)=false:=by rfl):PE X (.Call (.Name x p) (e::es) [] pos) (RP C sp dvs E t):=by
 intro d s U H Q I h;refine Dr (gZ I l j ?_ b);refine Ff (h₀:=X.base) I.ok.mod.Wy M.kp (ZX (u pos d s U H _ I h) λy z ⟨v,B,c,r,q⟩=>⟨c.ZA,?_⟩) m a;exact GJ M F i o n g c r q
end
def PK(X:Cx)(b:List Keyword)(t:TA):Prop:=
 ∀a (c:Q2) s (U:St) H Q,Inv X c U H s->t U H Q->wpAny (model X.prog X.w) X.A (evalAll ((backToKw a (keywordEach b X.env)).map (·.2))) (AP X c U Q) X.xe s
section
variable {kpos:Pos} {kws:List Keyword} {nm:Option Str}
def UO:PK X [] wF:=λ_ _ _ _ H Q I h=>wpAny_evalAll_nil ⟨[],H,I,.nil,h⟩
def tW(l:PE X e te)(k:PK X kws t):PK X (⟨nm,e,kpos⟩::kws) (VV te t):=by
 intro a b s U H Q I h
 refine wpAny_evalAll_cons (Ae (ZX (l b s U H _ I h) λu d ⟨x,p,n,g,j⟩=>Ae (Fs (As ?_))));exact ZX (k a b d U p _ n j) λq r ⟨c,o,m,f,i⟩=>⟨x::c,o,m,.cons g f,i⟩
end
structure Z9 (N P:List Str) (sc:Scope):Prop where
 kind:sc.kind=.function
 co:sc.isCoroutine=false
 gen:sc.isGenerator=false
 nd:N.Nodup
 pre:N.take P.length=P
 par:∀x∈P,sc.names.lookup x=some .local\/sc.names.lookup x=some .cell
 Wm:∀y∈sc.names,y.2≠.free
def Pd:∀ {a:List _} {m:Q5},(∀v,(x,v)∉a)->bindL kindOf a m x=m x
 |[],_,_=>rfl
 |(n,v)::r,m,h=>by
  unfold bindL;rw[Pd λw b=>h w (Al _ b)];split
  .have:x≠n:=by rintro rfl;exact h v Ak
   simp[this]
  .rfl
def QL:∀ {a:List _} {m:Q5},(∀v,(x,v)∉a)->bindC kindOf a m x=m x
 |[],_,_=>rfl
 |(n,v)::r,m,h=>by
  unfold bindC;rw[QL λw b=>h w (Al _ b)];split
  .rfl
  grind
def zZ{v:Value}:∀ {P:List Str} {a:List Value} {i:Nat} {m:Q5},P.Nodup->P[i]?=some x->a[i]?=some v->kindOf x=some .local->
 bindL kindOf (P.zip a) m x=some v
 |[],_,_,_,_,h,_,_=>by simp at h
 |_::_,[],_,_,_,_,h,_=>by simp at h
 |p::P,w::a,0,m,nd,h1,h2,hk=>by
  simp at h1 h2;subst h1;subst h2;show bindL kindOf ((p,w)::P.zip a) m p=_
  unfold bindL;rw[Pd λv b=>(Cq.mp nd).1 (Hh b).1,if_pos hk];simp
 |p::P,w::a,i+1,m,nd,h1,h2,hk=>by
  show bindL kindOf ((p,w)::P.zip a) m x=_
  unfold bindL;exact zZ (i:=i) (List.nodup_cons.mp nd).2 (by simpa using h1) (by simpa using h2) hk
def Ou{v:Value}:∀ {P:List Str} {a:List Value} {i:Nat} {m:Q5},P.Nodup->P[i]?=some x->a[i]?=some v->kindOf x≠some .local->
 bindC kindOf (P.zip a) m x=some v
 |[],_,_,_,_,h,_,_=>by simp at h
 |_::_,[],_,_,_,_,h,_=>by simp at h
 |p::P,w::a,0,m,nd,h1,h2,hk=>by
  simp at h1 h2;subst h1;subst h2;show bindC kindOf ((p,w)::P.zip a) m p=_
  unfold bindC;rw[QL λv b=>(Cq.mp nd).1 (Hh b).1,if_neg hk];simp
 |p::P,w::a,i+1,m,nd,h1,h2,hk=>by
  show bindC kindOf ((p,w)::P.zip a) m x=_
  unfold bindC;exact Ou (i:=i) (List.nodup_cons.mp nd).2 (by simpa using h1) (by simpa using h2) hk
noncomputable def oH(N:List Str)(vs:List V):St:=vs.map some++List.replicate (N.length-vs.length) none
noncomputable def hZ(CX:Yb)(P:Program)(w:World)(K:W.Frag)(mg:Str->Option Value)(base:Heap)(N:List Str)(qual:Str)(scope:Scope)(f:Addr)(cd:Value)(A:Around)(outer:List Env)(s:Shared)(H:Hp)(E:XK):Cx where
 prog:=P
 w:=w
 K:=K
 mg:=mg
 base:=base
 A:=A.deeper (envOfC qual scope s.heap.objs.size f cd)
 N:=N
 s₀:=s
 H₀:=H
 env:=envOfC qual scope s.heap.objs.size f cd
 outer:=outer
 stack:=envOfC qual scope s.heap.objs.size f cd::outer
 ex:=[]
 calm:=true
 fn:=λ_=>true
 pn:=[]
 xe:=λe s'=>wpAny (model P w) (A.deeper (envOfC qual scope s.heap.objs.size f cd)) (leaving (envOfC qual scope s.heap.objs.size f cd) e) (λ_ a=>CX outer H s E e a) (λb a=>CX outer H s E b a) s'
def bX{a:Scope}{n:Nat}(h:a.names.lookup x=some .cell):∃c,(cellsFrom n a.names []).lookup x=some c:=by
 have q:=W.cellsFrom_some a.names n [] (.inl h)
 exact Eb.mp q
def BH{J:Q5}{m:Heap}{j:Str}{d:Scope}{f:Addr}{I:Value}{g:List Env}{L:Shared}{E:XK}{vs:List V}(S:Z9 N ps d)(T:A.handled=none)(o:XT P w K J m A g s H)(X:vs.length=ps.length)(r:Vals vs us)(x:InCallC s s.heap.objs.size (bindL (envOfC j d s.heap.objs.size f I).kindOf (ps.zip us) λ_=>none) (cellsFrom (s.heap.objs.size+1) d.names []) (bindC (envOfC j d s.heap.objs.size f I).kindOf (ps.zip us) λ_=>none) L):Inv (hZ CX P w K J m N j d f I A g s H E) [] (oH N vs) H L:=by
 have R:ps.length<=N.length:=by have:=Dp List.length S.pre;rw[Bt]at this;((try clear X);omega)
 obtain⟨G,W,rfl,O⟩:=x.done;have t:∀b,b∉(hZ CX P w K J m N j d f I A g s H E).ex:=λb z=>absurd (show b∈([]:List Addr) from z) (by simp)
 refine⟨⟨o.mod,S.kind,rfl,rfl,Ah _,λy z c G l=>?_,λy B=>?_,λy c _ h=>?_,λ_=>T,Around.frames_deeper o.frames,.inr ⟨rfl,rfl⟩,λb z=>absurd z (t b),o.bs,o.XN,λb _ _=>t b,λb z=>absurd z (t b),o.Zk,o.WV⟩,
  rfl,o.bare,Un.kept O,⟨_,x.toInCall.ns,λi y v G l Y=>?_⟩,λy c h=>⟨_,x.cell y c h⟩,o.Z3.fresh (Nat.le_refl _),λy c h=>?_,λp D=>absurd (show p∈([]:Q2) from D) (by simp),o.Z3.kept O,?_⟩
 .exact name_of_addr x.apart (Dm G) (Dm l)
 .have B:=B
  rcases B with B|B
  .exact bX B
  .exact absurd rfl (S.Wm _ (Dm B))
 .exact Nat.le_of_lt (x.above y c (Dm h))
 .have F:i<vs.length:=by
   unfold oH at l;by_cases F:i<vs.length
   .exact F
   .rw[List.getElem?_append_right (by simpa using F)]at l
    rw[Fz]at l;split at l<;>cases l
  have U:vs[i]?=some v:=by
   unfold oH at l;rw[List.getElem?_append_left (by simpa using F),List.getElem?_map]at l
   cases e:vs[i]? with
   |none=>rw[e]at l;cases l
   |some a=>rw[e]at l;cases l;rfl
  obtain⟨u,M,Q⟩:=r.get U;have D:ps[i]?=some y:=by
   rw[<-S.pre,List.getElem?_take_of_lt (by ((try clear R);omega))];exact G
  have C:ps.Nodup:=by rw[<-S.pre];exact S.nd.sublist (Hm _ _)
  refine⟨u,Q,?_⟩;rcases S.par y (Ao D) with k|k
  .exact .inl ⟨k,zZ C D M k⟩
  .obtain⟨c,e⟩:=bX (n:=s.heap.objs.size+1) k;refine .inr ⟨.inl k,c,e,?_⟩;have q:=x.cell y c e
   rw[Ou C D M (by show d.names.lookup y≠_;rw[k];decide)]at q
   exact q
 .exact o.Z3.fresh (Nat.le_of_lt (x.above y c (Dm h)))
 .unfold oH;show _=N.length
  rw[Af,Ab,Bz];omega
def RM{L:Q5}{i:Heap}{f:Addr}{name d:Str}{h:Arguments}{a:Scope}{dV kV G pm g ct oc:Value}{an od:Option Addr}{T:Array (Option Value)}{sp:Sp}(lk:K.lookup f=some ⟨oc,od,.func (W.fnOf name d h body a dV kV G pm an g ct),T⟩)(Z:W.codeIn K g d=true)(S:Z9 N ps a)(B:∀j H Q E,sp j H Q E->j.length=ps.length)(p:∀(A:Around) (c:List Env) (s:Shared) (H:Hp) (j:List V) (Q:VK) (E:XK),Z2 k (A.deeper (envOfC d a s.heap.objs.size f g))->sp j H Q E->
 ∃t,Yt (hZ CX P w K L i N d a f g A c s H E) body t/\t {nx:=λ_ l=>Q .non l,rt:=Q} (oH N j) H):Z8 P w K L i CX (k+1) f (W.fnOf name d h body a dV kV G pm an g ct) ps sp:=by
 refine⟨B,λA c s H a1 us j Q E Y F hb r C=>?_⟩;have hl:=B _ _ _ _ C
 have KX:K.In s.heap:=F.mod.Wy.keeps λb o e=>(F.bs b o e).1
 have X:s.heap.NoLimit:=F.mod.nolimit.keeps λb o e=>(F.bs b o e).1
 have m:∀y∈ps.zip us,a.names.lookup y.1=some .local\/(a.names.lookup y.1=some .cell/\((cellsFrom (s.heap.objs.size+1) a.names []).lookup y.1).isSome=true):=λ⟨n,v⟩ hy=>by
  rcases S.par n (Hh hy).1 with q|q
  .exact .inl q
  .exact .inr ⟨q,W.cellsFrom_some _ _ _ (.inl q)⟩
 refine codeAny_call_function Y.depth (KX _ _ lk) rfl S.co S.gen rfl (W.codeRec_of KX Z) (hb _ _ _ _ ?_);refine wpAny_newFunctionEnv_cells S.kind m λa2 he s1 x=>?_;subst he;refine⟨X.keeps x.toInCall.keep,codeAny_func ?_⟩;obtain⟨t,ht,hq⟩:=p A c s H j Q E (Y.deeper _) C;have I:Inv (hZ CX P w K L i N d a f g A c s H E) [] (oH N j) H s1:=BH S Y.hd F hl r x
 refine Cp (ht [] s1 (oH N j) H _ I hq) (λfl O z=>?_) λe O z=>z;have D:∀ {M:St} {l:Hp} {v:V} {u:Value},Inv (hZ CX P w K L i N d a f g A c s H E) [] M l O->RelV v u->Q v l->CE c P w H s Q u O:=
  fun {M l v u} J R q=>⟨v,l,J.os,J.bare,J.base,J.Z3,R,q⟩
 cases fl with
 |ret u=>
  obtain⟨v,M,l,J,R,q⟩:=z;exact D J R q
 |next=>
  obtain⟨M,l,J,q⟩:=z;exact D (v:=V.non) (u:=Value.none) J rfl q
 |brk=>
  obtain⟨_,_,_,q⟩:=z;exact False.elim q
 |cont=>
  obtain⟨_,_,_,q⟩:=z;exact False.elim q
section
variable {p:Pos} {id T:String} {r:List V->Hp->VK->Prop}
def UC(r:List V->Hp->VK->Prop)(t:TA):TE:=λU H Q=>t U H λa b=>r a b Q
def aW(q:ZU X (.builtin id) r)(n:Gl X x)(m:X.mg x=none)(k:bootBuiltins x=some (.builtin id))(u:PA X (e::es) t)(l:x≠"__name__" := by decide)(b:(x==("__debug__" : Str))=false:=by decide)(o:starEach (e::es) X.env=(false,eval e X.env)::starEach es X.env:=by rfl)(a:(backTo pos (starEach es X.env)).any (·.1)=false:=by rfl):PE X (.Call (.Name x p) (e::es) [] pos) (UC r t):=by
 intro c s U H Q I h;refine Dr (iJ I n m k ?_ l b);exact PyProof.Rows.callWith_builtin1 (ZX (u pos c s U H _ I h) λf g ⟨d,w,v,i,j⟩=>q c g U w d f Q v i j) o a
def cA(q:ZU X (.type T) r)(n:Gl X x)(m:X.mg x=none)(k:bootBuiltins x=some (.type T))(u:PA X (e::es) t)(l:x≠"__name__" := by decide)(b:(x==("__debug__" : Str))=false:=by decide)(o:starEach (e::es) X.env=(false,eval e X.env)::starEach es X.env:=by rfl)(a:(backTo pos (starEach es X.env)).any (·.1)=false:=by rfl):PE X (.Call (.Name x p) (e::es) [] pos) (UC r t):=by
 intro c s U H Q I h;refine Dr (iJ I n m k ?_ l b);exact Dq (ZX (u pos c s U H _ I h) λf g ⟨d,w,v,i,j⟩=>q c g U w d f Q v i j) o a
end
end L2
namespace HT
open PySem PyProof.Rows
noncomputable def Xm(n d:Nat):Option Int->Nat
 |none=>d
 |some v=>if v<0 then (v+(n:Int)).toNat else min v.toNat n
end HT
namespace L2
open PySem PySem.Spec PyProof.Rows
variable {H:Hp}{X:Cx}{its:List Value}{n:Nat}{y2:Q2}{s:Shared}{x:V}{xs:List V}{α:Type}{U:St}
abbrev TO:=St->Hp->(Option Int->Hp->Prop)->Prop
def PO(X:Cx)(e:Option Expr)(t:TO):Prop:=
 ∀(a:Q2) s (U:St) H Q,Inv X a U H s->t U H Q->
  wpAny (model X.prog X.w) X.A (evalPart e X.env) (λu c=>∃o b,Inv X a U b c/\IsPart u o/\Q o b) X.xe s
def RI:TO:=λ_ H Q=>Q none H
section
variable {e:Expr} {te:TE} {lo hi:Option Expr} {tl th:TO} {pos p2:Pos}
def Tj:PO X none RI:=by
 intro a s U H Q I h;exact As ⟨none,H,I,.none,h⟩
def WY(X:Cx)(r:V->Option Int->Option Int->Hp->VK->Prop):Prop:=
 ∀(a:Q2) s (U:St) H x v c b e f d Q,Inv X a U H s->RelV x v->s.heap.IsSliceOf d c b .none->IsPart c e->IsPart b f->r x e f H Q->
  ∃T id,typeLookup (.type T) "__getitem__"=pure (some (.builtin id))/\s.TypeIs v T/\wpAny (model X.prog X.w) X.A (getItem v (.ref d)) (EP X a U Q) X.xe s
def WY.or(h:WY X r)(h':WY X i):WY X (λx a b H Q=>r x a b H Q\/i x a b H Q):=by
 intro c s U H x v e d a b f Q I g l k j q;rcases q with q|q
 .exact h c s U H x v e d a b f Q I g l k j q
 .exact h' c s U H x v e d a b f Q I g l k j q
def P2(r:V->Option Int->Option Int->Hp->VK->Prop)(c:TE)(a b:TO):TE:=λU H Q=>c U H λx f=>a U f λl e=>b U e λu d=>r x l u d Q
def iB(C:WY X r)(F:PE X e te)(D:PO X lo tl)(z:PO X hi th):PE X (.Subscript e (.Slice lo hi none p2) pos) (P2 r te tl th):=by
 intro c s U H Q I h;refine Subscript_ (ZX (F c s U H _ I h) λv j μ=>?_);obtain⟨x,O,M,k,o⟩:=μ;refine wpAny_Slice (ZX (D c j U O _ M o) λf i ⟨l,N,L,y,n⟩=>ZX (z c i U N _ L n) λd a μ=>?_);obtain⟨u,g,K,p,m⟩:=μ;refine As ?_;have J:Inv X c U g {a with heap:=a.heap.push {cls:=.type "slice",data:=.fields #[f,d,.none]}}:=K.kept (t':=a.toks) λb P q=>Ai _ q
 obtain⟨T,id,G,B,E⟩:=C c {a with heap:=a.heap.push {cls:=.type "slice",data:=.fields #[f,d,.none]}} U g x v f d l u a.heap.objs.size Q J k (Heap.IsSliceOf.new ..) y p m
 exact tail_any (ops:=[.ref a.heap.objs.size,v]) B G E (by with_unfolding_all rfl)
noncomputable def kB(xs:List V)(a b:Option Int):List V:=(xs.drop (HT.Xm xs.length 0 a)).take (HT.Xm xs.length xs.length b-HT.Xm xs.length 0 a)
def LY(xs:List V)(a b:Option Int):(kB xs a b).length<=xs.length:=by
 unfold kB;rw[Bt,Cf];omega
end
noncomputable def Xj(n:Nat)(i:Int):Option Nat:=if 0<=i then (if i<n then some i.toNat else none) else if -(n:Int)<=i then some (i+n).toNat else none
noncomputable def YV(xs:List α)(i:Int):Option α:=(Xj xs.length i).bind λj=>xs[j]?
def Pn(h:Xj n i=some j):seqIndex? i n=some j/\j<n/\-(n:Int)<=i/\i<n:=by
 unfold Xj at h;by_cases b:0<=i
 .rw[if_pos b]at h;by_cases a:i<n
  .rw[if_pos a]at h;have e:=Bk h
   exact⟨by rw[seqIndex_of b a,e],by omega,by ((try clear a e);omega),a⟩
  simp_all
 .rw[if_neg b]at h;by_cases a:-(n:Int)<=i
  .rw[if_pos a]at h;have e:=Bk h
   exact⟨by rw[seqIndex_neg (by ((try clear a e);omega)) a,e],by omega,a,by ((try clear e);omega)⟩
  .rw[if_neg a]at h;cases h
def Tz{xs:List α}{i:Int}{v:α}(h:YV xs i=some v):∃j,seqIndex? i xs.length=some j/\xs[j]?=some v/\j<xs.length/\-(xs.length:Int)<=i/\i<xs.length:=by
 unfold YV at h;cases e:Xj xs.length i with
 |none=>rw[e]at h;cases h
 |some j=>
  rw[e]at h;obtain⟨d,c,b,a⟩:=Pn e;exact⟨j,d,h,c,b,a⟩
def aY{xs:List α}{j:Nat}{v:α}(h:xs[j]?=some v):YV xs (j:Int)=some v:=by
 have a:=(Ad.mp h).1
 have e:Xj xs.length (j:Int)=some j:=by
  unfold Xj;simp_all
 unfold YV;rwa[e]
def E6(b:Expr):Prop:=∀o i,subscripted b false o i=operate [o,i] (getItem o i)
def Xp(X:Cx)(r:R2):Prop:=
 ∀b a (c:Q2) s (U:St) H x y v u Q,Inv X c U H s->RelV x v->RelV y u->r x y H Q->
  subscripted a false v u=operate [v,u] (getItem v u)->wpAny (model X.prog X.w) X.A (subscriptTail b a v u) (EP X c U Q) X.xe s
def Yv(X:Cx)(id:String)(r:V->List V->Hp->VK->Prop):Prop:=
 ∀(a:Q2) s (U:St) H x b v c Q,Inv X a U H s->RelV x v->Vals b c->r x b H Q->
  wpAny (model X.prog X.w) X.A (call (.builtin id) (v::c)) (EP X a U Q) X.xe s
section
variable {X:Cx} {a b:Expr} {ta tb:TE} {pos:Pos}
def Xp.or(h:Xp X r)(h':Xp X f):Xp X (λx y H Q=>r x y H Q\/f x y H Q):=by
 intro a b c s U H x y v u Q I e d q g;rcases q with q|q
 .exact h a b c s U H x y v u Q I e d q g
 .exact h' a b c s U H x y v u Q I e d q g
def bI(g:Xp X r)(j:PE X a ta)(i:PE X b tb)(hs:E6 b):PE X (.Subscript a b pos) (VQ r ta tb):=by
 intro c s U H Q I h;exact Subscript_ (Sf j i I h λv u d x y l k f e q=>g a b c d U l x y v u Q k f e q (hs _ _))
def SY(K:W.Frag):R2:=λx y H Q=>∃p a i v,x=.ref p/\y=.int i/\Zm K H p a/\YV a i=some v/\Q v H
def Rl(K:W.Frag):R2:=λx y H Q=>∃p a i v,x=.ref p/\y=.int i/\Ya K H p a/\YV a i=some v/\Q v H
def QY:R2:=λx y H Q=>∃z i c,x=.str z/\y=.int i/\z.length<=sizeLine/\YV z.cps.toList i=some c/\Q (.str ⟨#[c]⟩) H
def XF:Xp X (SY X.K):=by
 intro c d l s U H x y v u Q I C B h m;obtain⟨p,M,i,z,rfl,rfl,D,F,q⟩:=h;cases C;obtain⟨t,rfl⟩:=B;obtain⟨g,r,f,N⟩:=I.list D;obtain⟨j,b,L,P,J,G⟩:=Tz F;obtain⟨w,o,e⟩:=r.get L;have E:=r.length
 have O:=kO
 have a:EP X l U Q w s:=⟨z,H,I,e,q⟩
 by_cases n:0<=i
 .have k:i.toNat=j:=by
   rw[seqIndex_of n G]at b;exact Bk b
  exact item_listR f.isList n (by ((try clear J P k n);omega)) (by rw[k];simpa using o) a m
 .have k:(i+(g.toArray.size:Int)).toNat=j:=by
   rw[seqIndex_neg (by ((try clear E G J N O P);omega)) J]at b
   rw[Be,<-E];exact Bk b
  exact subscriptTail_builtinR (x:=w) f.isList.typeIs slot_list_getitem.lookup
   (wpAny_getItem_list_neg (Q:=λr A=>r=w/\EP X l U Q r A) f.isList (by ((try clear E G J N O P k);omega)) (by grind) (by ((try clear G P k n);omega)) (by rw[k];simpa using o) ⟨rfl,a⟩) m
def Wa:Xp X (Rl X.K):=by
 intro a b e s U H x y v u Q I l k h n;obtain⟨p,F,i,z,rfl,rfl,o,B,q⟩:=h;cases l;obtain⟨t,rfl⟩:=k;obtain⟨m,r,f,G⟩:=I.tuple o;obtain⟨j,D,C,N,M,L⟩:=Tz B;obtain⟨w,E,c⟩:=r.get C;have A:=r.length
 have J:=kO
 have d:EP X e U Q w s:=⟨z,H,I,c,q⟩
 exact subscriptTail_builtinR (x:=w) f.typeIs slot_tuple_getitem.lookup
  (getItem_tuple (j:=j) (Q:=λr g=>r=w/\EP X e U Q r g) f (by ((try clear L);omega)) (by ((try clear M);omega)) (by grind) (by simpa using E) ⟨rfl,d⟩) n
def Kb:Xp X QY:=by
 intro a b w s U H x y v u Q I f e h g;obtain⟨z,i,c,rfl,rfl,B,l,q⟩:=h;obtain⟨t,rfl⟩:=f;obtain⟨A,rfl⟩:=e;obtain⟨j,d,o,D,n,m⟩:=Tz l;have k:z.cps.toList.length=z.length:=by simp[Str.length]
 rw[k]at d n m;have C:=kO
 exact tail_any (Il s z t) slot_str_getitem.lookup (getItem_str  (by grind) (by rw[d];simpa using o) ⟨.str ⟨#[c]⟩,H,I.tok _,⟨_,rfl⟩,q⟩) g
def Qj(K:W.Frag):R2:=λx y H Q=>SY K x y H Q\/Rl K x y H Q\/QY x y H Q
def Wn:Xp X (Qj X.K):=XF.or (Wa.or Kb)
def DJ(its:List Value)(n j:Nat)(u:Value):Obj.mapSeq (·.setIfInBounds j u) {cls:=.type "list",data:=.seq its.toArray n}={cls:=.type "list",data:=.seq (its.set j u).toArray n}:=by
 simp[Obj.mapSeq]
def Inv.lst{b:Q2}{U:St}{H:Hp}{s:Shared}{p:Addr}{xs:List V}(I:Inv X b U H s)(h:H p=some (.lst xs)):∃a n,Vals xs a/\s.heap.get? p=some {cls:=.type "list",data:=.seq a.toArray n}/\xs.length<=sizeLine:=by
 obtain⟨z,a,n,r,e⟩:=I.Z3 p _ h;exact⟨a,n,r,e,z⟩
def Inv.Wi{a:Nat}{f:Obj->Obj}(I:Inv X y2 U H s)(h:H p=some (.lst xs))(g:s.heap.get? p=some {cls:=.type "list",data:=.seq its.toArray n})(c:f {cls:=.type "list",data:=.seq its.toArray n}={cls:=.type "list",data:=.seq its'.toArray a})(r:Vals ys its')(d:ys.length<=sizeLine)(t:Nat):Inv X y2 U (upd H p (.lst ys)) {s with heap:=s.heap.update p f,toks:=t}:=by
 have e:(s.heap.update p f).get? p=some {cls:=.type "list",data:=.seq its'.toArray a}:=by
  rw[Heap.get?_update_self f g (by rw[c]<;>rfl),c]
 refine I.write   (by rw[h];trivial) (.inl rfl) (λb u i q=>(Cc _ _ (Ne.symm i)).trans q) ⟨_,e⟩ ?_
 exact⟨d,its',a,r,e⟩
def NN:V->V->V->Hp->(Hp->Prop)->Prop:=λo i v H Q=>∃p a k j,o=.ref p/\i=.int k/\H p=some (.lst a)/\Xj a.length k=some j/\Q (upd H p (.lst (a.set j v)))
def uX:O9 X NN:=by
 intro x s U H o i v E F u Q I A B z h;obtain⟨p,y,k,j,rfl,rfl,f,D,q⟩:=h;cases A;obtain⟨t,rfl⟩:=B;obtain⟨a,n,r,c,C⟩:=I.lst f;obtain⟨b,J,l,g⟩:=Pn D;have d:=r.length
 have G:=kO
 have w:=
  I.Wi f c (DJ a n j u) (r.set z j) (by rw[Cw];exact C) s.toks
 by_cases m:0<=k
 .have e:k.toNat=j:=by
   rw[seqIndex_of m g]at b;exact Bk b
  exact W.ki_setAt c m (by ((try clear J e l m);omega)) (by rw[Be,<-d];exact g) (by rw[e];exact⟨_,w,q⟩)
 .have e:(k+(a.toArray.size:Int)).toNat=j:=by
   rw[seqIndex_neg (by ((try clear C G J d g l);omega)) l]at b
   simp_all
  exact W.ki_setBack c (by ((try clear C G J d e g l);omega)) (by simp_all) (by ((try clear J e g m);omega)) (by rw[e];exact⟨_,w,q⟩)
def CM(a b:Option Int)(n:Nat):(sliceBounds a b none n).1=((HT.Xm n 0 a:Nat):Int)/\(sliceBounds a b none n).2.1=((HT.Xm n n b:Nat):Int)/\(sliceBounds a b none n).2.2=1:=by
 refine⟨?_,?_,rfl⟩
 .cases a with
  |none=>simp[sliceBounds,HT.Xm]
  |some i=>
   simp only[sliceBounds,HT.Xm,Option.getD_none,show (1:Int)>0 by decide,if_true]
   by_cases h:i<0
   .simp only[h,if_true]<;>omega
   .simp only[h,if_false]<;>omega
 .cases b with
  |none=>simp[sliceBounds,HT.Xm]
  |some i=>
   simp only[sliceBounds,HT.Xm,Option.getD_none,show (1:Int)>0 by decide,if_true]
   by_cases h:i<0
   .simp only[h,if_true]<;>omega
   .simp only[h,if_false]<;>omega
def xX(its:List Value)(a b:Option Int):slicePick its.toArray a b none=((its.drop (HT.Xm its.length 0 a)).take (HT.Xm its.length its.length b-HT.Xm its.length 0 a)).toArray:=by
 obtain⟨e,d,c⟩:=CM a b its.toArray.size;unfold slicePick;rw[e,d,c];simp only[sliceRange_one,pick_run,List.size_toArray]<;>rfl
def P7(K:W.Frag):V->Option Int->Option Int->Hp->VK->Prop:=λx c d H Q=>∃a b,x=.ref a/\Zm K H a b/\∀p,H p=none->Q (.ref p) (upd H p (.lst (kB b c d)))
def Yk:WY X (P7 X.K):=by
 intro u s U H x v y w e f z Q I i p k j h;obtain⟨a,c,rfl,n,q⟩:=h;cases i;obtain⟨l,r,g,m⟩:=I.list n;have d:=r.length
 refine⟨"list",_,slot_list_getitem.lookup,g.isList.typeIs,?_⟩;refine wpAny_getItem_list_slice g.isList p k j .none (by simp) ?_ (by grind)
 rw[xX,<-d];refine⟨.ref s.heap.objs.size,_,I.laid   (λb A q=>Ai _ q) (Ah _) ?_,rfl,q _ (I.Z3.fresh (Ah _))⟩;exact⟨Bh (LY c e f) m,_,0,(r.drop _).take _,Ay _ rfl⟩
noncomputable def bY:V->Bool
 |.non=>true
 |.bl _=>true
 |.int _=>true
 |.str _=>true
 |_=>false
noncomputable def X0:V->V->Bool
 |.non,.non=>true
 |.bl a,.bl b=>a==b
 |.bl a,.int b=>(if a then 1 else 0)==b
 |.int a,.bl b=>a==(if b then 1 else 0)
 |.int a,.int b=>a==b
 |.str a,.str b=>a==b
 |_,_=>false
def sI{s:Shared}{y:V}{u v:Value}(e:RelV y u)(c:RelV x v)(g:bY y=true)(f:bY x=true):SeqAt.EqAt A s u v (X0 y x):=by
 cases y with
 |non=>
  cases e;cases x with
  |non=>cases c;exact SeqAt.EqAt.same _
  |bl b=>cases c;exact SeqAt.EqAt.none_bool b
  |int b=>obtain⟨t,rfl⟩:=c;exact SeqAt.EqAt.none_int b t
  |str b=>obtain⟨t,rfl⟩:=c;exact SeqAt.EqAt.none_str b t
  |_=>exact absurd (show false=true from f) Ar
 |bl a=>
  cases e;cases x with
  |non=>cases c;exact SeqAt.EqAt.bool_none a
  |bl b=>cases c;exact SeqAt.EqAt.bool_bool a b
  |int b=>obtain⟨t,rfl⟩:=c;exact SeqAt.EqAt.bool_int a b t
  |str b=>obtain⟨t,rfl⟩:=c;exact SeqAt.EqAt.bool_str a b t
  |_=>exact absurd (show false=true from f) Ar
 |int a=>
  obtain⟨d,rfl⟩:=e;cases x with
  |non=>cases c;exact SeqAt.EqAt.int_none a d
  |bl b=>cases c;exact SeqAt.EqAt.int_bool a d b
  |int b=>obtain⟨t,rfl⟩:=c;exact SeqAt.EqAt.int_int a d b t
  |str b=>obtain⟨t,rfl⟩:=c;exact SeqAt.EqAt.int_str a d b t
  |_=>exact absurd (show false=true from f) Ar
 |str a=>
  obtain⟨d,rfl⟩:=e;cases x with
  |non=>cases c;exact SeqAt.EqAt.str_none a d
  |bl b=>cases c;exact SeqAt.EqAt.str_bool a d b
  |int b=>obtain⟨t,rfl⟩:=c;exact SeqAt.EqAt.str_int a d b t
  |str b=>obtain⟨t,rfl⟩:=c;exact SeqAt.EqAt.str_str a d b t
  |_=>exact absurd (show false=true from f) Ar
 |_=>exact absurd (show false=true from g) Ar
noncomputable def V6(x:V)(u:Value):Bool:=match u with
 |.none=>X0 .non x
 |.bool b=>X0 (.bl b) x
 |.int i _=>X0 (.int i) x
 |.str z _=>X0 (.str z) x
 |_=>false
def Rk(r:RelV y u)(f:bY y=true):V6 x u=X0 y x:=by
 cases y with
 |non=>cases r;rfl
 |bl b=>cases r;rfl
 |int i=>obtain⟨t,rfl⟩:=r;rfl
 |str z=>obtain⟨t,rfl⟩:=r;rfl
 |_=>exact absurd (show false=true from f) Ar
def pU:∀ {a:List V} {b:List Value},Vals a b->a.all bY=true->b.any (V6 x)=a.any λy=>X0 y x
 |_,_,.nil,_=>rfl
 |y::a,u::b,.cons r t,f=>by
  rw[List.all_cons,Em]at f;rw[Ic,Ic,Rk r f.1,pU t f.2]
def mK{v:Value}(d:RelV x v)(e:bY x=true):∀ {b:List V} {c:List Value},Vals b c->b.all bY=true->∀u∈c,SeqAt.EqAt A s u v (V6 x u)
 |_,_,.nil,_=>λu a=>by cases a
 |y::b,u::c,.cons r t,f=>λg a=>by
  rw[List.all_cons,Em]at f;rcases Bb.mp a with rfl|a
  .rw[Rk r f.1];exact sI r d f.1 e
  .exact mK d e t f.2 g a
noncomputable def WX(x:V)(xs:List V):Bool:=xs.any λy=>X0 y x
def Sy(K:W.Frag)(neg:Bool):R2:=λx y H Q=>∃p a,y=.ref p/\(Zm K H p a\/Ya K H p a)/\bY x=true/\a.all bY=true/\Q (.bl (if neg then !WX x a else WX x a)) H
def Xu:ZM X (compareOp .In) (Sy X.K false):=by
 intro k s U H x y v u Q I f i h;obtain⟨p,l,rfl,b,g,c,q⟩:=h;cases i;rcases b with b|b
 .obtain⟨a,r,d,j⟩:=I.list b;refine SeqAt.in_listAt _ d.isList (λw e=>mK f g r c w (by simp_all)) ⟨.bl _,H,I,rfl,?_⟩
  rwa[show a.toArray.any _=a.any (V6 x) by simp,pU r c]
 .obtain⟨a,r,d,j⟩:=I.tuple b;refine SeqAt.in_tupleAt _ d (λw e=>mK f g r c w (by simpa using e)) ⟨.bl _,H,I,rfl,?_⟩
  rwa[show a.toArray.any _=a.any (V6 x) by simp,pU r c]
def Yf:ZM X (compareOp .NotIn) (Sy X.K true):=by
 intro k s U H x y v u Q I f i h;obtain⟨p,l,rfl,b,g,c,q⟩:=h;cases i;rcases b with b|b
 .obtain⟨a,r,d,j⟩:=I.list b;refine SeqAt.notIn_listAt _ d.isList (λw e=>mK f g r c w (by simp_all)) ⟨.bl _,H,I,rfl,?_⟩
  rwa[show a.toArray.any _=a.any (V6 x) by simp,pU r c]
 .obtain⟨a,r,d,j⟩:=I.tuple b;refine SeqAt.notIn_tupleAt _ d (λw e=>mK f g r c w (by simpa using e)) ⟨.bl _,H,I,rfl,?_⟩
  rwa[show a.toArray.any _=a.any (V6 x) by simp,pU r c]
def G1:ZU X (.builtin "len") (λg H Q=>∃p b,g=[.ref p]/\(Zm X.K H p b\/Ya X.K H p b)/\Q (.int b.length) H):=by
 intro k s U H g l Q I r h;obtain⟨p,b,rfl,c,q⟩:=h;obtain⟨u,rfl,i⟩:=eC r;cases i;have m:=kO
 rcases c with c|c
 .obtain⟨f,d,e,j⟩:=I.list c;have a:=d.length
  exact Calls.call_len_list e.isList (by simp only[List.size_toArray]<;>omega) ⟨.int b.length,H,I.tok _,⟨s.toks+1,by rw[List.size_toArray,a]⟩,q⟩
 .obtain⟨f,d,e,j⟩:=I.tuple c;have a:=d.length
  exact len_tuple e (by simp only[List.size_toArray]<;>omega) ⟨.int b.length,H,I.tok _,⟨s.toks+1,by rw[List.size_toArray,a]⟩,q⟩
def ZU.or(h:ZU X f r)(h':ZU X f e):ZU X f (λa H Q=>r a H Q\/e a H Q):=by
 intro b s U H a c Q I d q;rcases q with q|q
 .exact h b s U H a c Q I d q
 .exact h' b s U H a c Q I d q
def Yq:ZU X (.type "list") (λC H Q=>∃p f,C=[.ref p]/\(Zm X.K H p f\/Ya X.K H p f)/\∀l,H l=none->Q (.ref l) (upd H l (.lst f))):=by
 intro E s U H C G Q I r h;obtain ⟨p,f,rfl,m,q⟩:=h;obtain ⟨u,rfl,F⟩:=eC r;cases F;have x:∀ a,Vals f a->f.length<=sizeLine->∀ d i,(∀ b D,s.heap.get? b=some D->d.get? b=some D)->
     d.get? s.heap.objs.size=some {cls:=.type "list",dict:=none,data:=.seq a.toArray i,slots:=#[]}->EP X E U Q (.ref s.heap.objs.size) {s with heap:=d}:=λa g k d i j e=>
  ⟨.ref s.heap.objs.size,_,I.laid (t':=s.toks) j (Ah _) (show ZZ X.prog X.w _ d _ (.lst f) from⟨k,a,i,g,e⟩),rfl,q _ (I.Z3.fresh (Ah _))⟩
 rcases m with m|m
 .obtain⟨a,g,y,k⟩:=I.list m;have v:=g.length
  obtain⟨o,z,B,n,A⟩:=y.isList;exact call_list_seq p (.inl rfl) z B A (λd i j e=>x a g k d i j e) (by simp_all)
 .obtain⟨a,g,y,k⟩:=I.tuple m;have v:=g.length
  obtain⟨o,z,B,n,A⟩:=y;exact call_list_seq p (.inr rfl) z B A (λd i j e=>x a g k d i j e) (by simp only[List.size_toArray]<;>omega)
def Pe(K:W.Frag)(T:String)(x:V)(H:Hp):Prop:=match x with
 |.str _=>T="str"
 |.int _=>T="int"
 | .ref p=>(T="list"/\∃ b,Zm K H p b)\/(T="tuple"/\∃ o,K.lookup p=some o/\o.cls=.type "tuple"/\o.dict=none)\/
     (T="dict"/\((∃a,H p=some (.dK a))\/∃a,H p=some (.dT a)))\/(T="set"/\∃S n,H p=some (.set S n))
 |_=>False
def HJ{v:Value}(I:Inv X y2 U H s)(r:RelV x v)(f:Pe X.K T x H):s.TypeIs v T/\∀a,v=.ref a->∃l,s.heap.get? a=some l/\l.dict=none:=by
 cases x with
 |str z=>
  obtain⟨t,rfl⟩:=r;cases (show T="str" from f);exact⟨Il s z t,λ_ e=>nomatch e⟩
 |int i=>
  obtain⟨t,rfl⟩:=r;cases (show T="int" from f);exact⟨typeIs_int s i t,λ_ e=>nomatch e⟩
 |ref p=>
  cases r;rcases f with⟨rfl,w,q⟩|⟨rfl,o,b,u,h⟩|⟨rfl,b⟩|⟨rfl,S,n,b⟩
  .obtain⟨m,_,k,_⟩:=I.list q;refine⟨k.isList.typeIs,λa e=>?_⟩;cases e;obtain⟨o,n,e,c,h,_⟩:=k;exact⟨o,e,h⟩
  .refine⟨⟨o,I.ZA p o b,u⟩,λa e=>?_⟩;cases e;exact⟨o,I.ZA _ o b,h⟩
  .have z:∃ o,s.heap.get? p=some o/\o.ExactDict:=by
    rcases b with⟨g,b⟩|⟨g,b⟩
    .obtain⟨_,_,_,_,o,_,_,e,d,_⟩:=I.Z3 p _ b;exact⟨o,e,d⟩
    .obtain⟨_,_,_,_,o,_,_,e,d,_⟩:=I.Z3 p _ b;exact⟨o,e,d⟩
   obtain⟨o,e,d⟩:=z;refine⟨⟨o,e,d.1⟩,λa j=>?_⟩;cases j;exact⟨o,e,d.2.1⟩
  .obtain⟨o,_,_,_,e,d,_⟩:=I.Z3 p _ b;refine⟨⟨o,e,d.1⟩,λa j=>?_⟩;cases j;exact⟨o,e,d.2.1⟩
 |_=>exact False.elim f
variable {o e:Expr} {t:TA} {T:String} {r:V->List V->Hp->VK->Prop}
end
def Oc(X:Cx)(id:String)(r:V->List V->Hp->VK->Prop):Prop:=
 ∀(a:Q2) s (U:St) H x b v c Q,Inv X a U H s->RelV x v->Vals b c->r x b H Q->
  wpAny (model X.prog X.w) X.A (call (.builtin id) (v::c)) (EP X a U Q) X.xe s
def Vals.one{x:V}{a:List Value}(h:Vals [x] a):∃u,a=[u]/\RelV x u:=by cases h with|cons r t=>cases t;exact⟨_,rfl,r⟩
def Vals.two{x y:V}{a:List Value}(h:Vals [x,y] a):∃u v,a=[u,v]/\RelV x u/\RelV y v:=by cases h with|cons r t=>obtain⟨v,rfl,q⟩:=Vals.one t;exact⟨_,_,rfl,r,q⟩
def Vals.zero:∀ {a:List Value},Vals [] a->a=[]
 |_,.nil=>rfl
def Vals.rep(h:Vals xs us):∀k,Vals (List.replicate k xs).flatten (List.replicate k us).flatten
 |0=>.nil
 |k+1=>by
  exact Vals.append h (Vals.rep h k)
def zI(its:List Value):∀k a,
 List.foldl (λc b=>c++b) a.toArray (List.replicate k its.toArray)=(a++(List.replicate k its).flatten).toArray
 |0,a=>by simp
 |k+1,a=>by
  have e:a.toArray++its.toArray=(a++its).toArray:=by simp
  have d:(a++its)++(List.replicate k its).flatten=a++(List.replicate (k+1) its).flatten:=by
   rw[Do,By,Fo]
  rw[<-d,<-zI its k _,<-e,Do,List.foldl_cons]
section
variable {l:Addr} {ys:List V}
def Inv.Va{f:Array Value->Array Value}{t':Nat}(I:Inv X y2 U H s)(h:H l=some (.lst xs))(e:s.heap.get? l=some {cls:=.type "list",data:=.seq its.toArray n})(d:f its.toArray=its'.toArray)(b:Vals ys its')(a:ys.length<=sizeLine):Inv X y2 U (upd H l (.lst ys)) {s with heap:=s.heap.update l (Obj.mapSeq f),toks:=t'}:=by
 have q:=PySem.IsL.update e f
 rw[d]at q;refine I.write   (by rw[h];exact trivial) (.inl rfl) (λi u g c=>(Cc s.heap _ (Ne.symm g)).trans c) ⟨_,q⟩ ?_
 exact⟨a,its',_,b,q⟩
def Inv.WC{its:List Value}{t':Nat}(I:Inv X y2 U H s)(b:Vals ys its)(a:ys.length<=sizeLine):Inv X y2 U (upd H s.heap.objs.size (.lst ys)) {s with heap:=s.heap.push {cls:=.type "list",data:=.seq its.toArray},toks:=t'}:=
 I.laid (λ_ _ q=>Ai _ q) (Ah _) ⟨a,its,0,b,Ay _ rfl⟩
def Inv.fresh(I:Inv X y2 U H s):H s.heap.objs.size=none:=I.Z3.fresh (Ah _)
def Inv.Xs(I:Inv X y2 U H s)(b:H l=some (.lst xs)):xs.length<=sizeLine/\∃a n,Vals xs a/\xs.length=a.length/\s.heap.get? l=some {cls:=.type "list",data:=.seq a.toArray n}:=by
 obtain⟨z,a,n,r,e⟩:=I.Z3 l _ b;exact⟨z,a,n,r,r.length,e⟩
def O_(h:n<=sizeLine):Builtin.List.listTooLong n=false:=by
 unfold Builtin.List.listTooLong;grind
end
def Jv:V->List V->Hp->VK->Prop:=λx b H Q=>∃l a y,x=.ref l/\b=[y]/\H l=some (.lst a)/\a.length<sizeLine/\Q .non (upd H l (.lst (a++[y])))
def zF:Oc X "list.append" Jv:=by
 intro g s U H x j v k Q I c d h;obtain⟨l,i,y,rfl,rfl,b,m,q⟩:=h;cases c;obtain⟨u,rfl,f⟩:=d.one;obtain⟨z,a,n,r,o,e⟩:=I.Xs b;refine Gu F.slot_list_append ⟨_,e,rfl⟩ F.entry_list_append (F.args_list_append_2 _ _) (PySem.list_append l a.toArray n u (by grind)) ⟨e,?_⟩
 refine⟨.non,_,I.Va  b e (by simp) (r.append (.cons f .nil)) ?_,rfl,q⟩
 grind
def CT:V->List V->Hp->VK->Prop:=λx d H Q=>∃l b c a,x=.ref l/\d=[.ref b]/\H l=some (.lst c)/\H b=some (.lst a)/\c.length+a.length<=sizeLine/\Q .non (upd H l (.lst (c++a)))
def MA:Oc X "list.extend" CT:=by
 intro B s U H x D v E Q I i j h;obtain⟨l,b,C,y,rfl,rfl,g,t,G,q⟩:=h;cases i;obtain⟨u,rfl,k⟩:=j.one;cases k;obtain⟨z,c,n,r,J,e⟩:=I.Xs g;obtain⟨A,a,o,m,p,w⟩:=I.Xs t;have f:c.toArray.size+a.toArray.size<=sizeLine:=by grind
 have d:¬(!c.toArray.isEmpty&&Builtin.List.listTooLong (c.toArray.size+a.toArray.size))=true:=by
  rw[O_ f,Bool.and_false];exact Ar
 refine Gu F.slot_list_extend ⟨_,e,rfl⟩ F.entry_list_extend (F.args_list_extend_2 _ _)
  (AutoSeq1.list_extend_list_list_0 l c.toArray n b a.toArray o d (by grind) (by (exact Nat.le_trans (by assumption) (by decide)))) ⟨e,w,?_⟩
 refine⟨.non,_,I.Va (its':=c++a) g e (by simp) (r.append m) ?_,rfl,q⟩
 rw[Af];(assumption)
def CK:R2:=λx y H Q=>∃l b c a,x=.ref l/\y=.ref b/\H l=some (.lst c)/\H b=some (.lst a)/\c.length+a.length<=sizeLine/\∀p,H p=none->Q (.ref p) (upd H p (.lst (c++a)))
def LF:ZM X (binaryOp .Add) CK:=by
 intro A s U H x y v u Q I f d h;obtain⟨l,b,B,p,rfl,rfl,j,k,D,q⟩:=h;cases f;cases d;obtain⟨z,c,n,r,E,e⟩:=I.Xs j;obtain⟨w,a,C,g,i,o⟩:=I.Xs k;refine PySem.P.add_list e o ?_ (by simp_all)
 have m:c.toArray++a.toArray=(c++a).toArray:=by simp
 rw[m];exact⟨.ref _,_,I.WC  (r.append g) (by rw[Af];(assumption)),rfl,q _ I.fresh⟩
def DV:R2:=λx y H Q=>∃l k a,x=.ref l/\y=.int k/\H l=some (.lst a)/\-(2^63)<=k/\k<2^63/\a.length*k.toNat<=sizeLine/\
 ∀p,H p=none->Q (.ref p) (upd H p (.lst (List.replicate k.toNat a).flatten))
def Nb(xs:List α)(k:Nat):(List.replicate k xs).flatten.length=k*xs.length:=by simp_all
def Uv:ZM X (binaryOp .Mult) DV:=by
 intro K s U H x y v u Q I B A h;obtain⟨l,k,L,rfl,rfl,D,G,E,p,q⟩:=h;cases B;obtain⟨t,rfl⟩:=A;obtain⟨z,b,n,r,C,e⟩:=I.Xs D;have f:b.toArray.size*k.toNat<=sizeLine:=by rw[Be,<-C];exact p
 have i:¬b.toArray.size*k.toNat>(2^63-1) / 8:=by
  have:(sizeLine:Nat)<=(2^63-1) / 8:=by decide
  ((try clear C E G p z);omega)
 have g:¬(!Builtin.List.listFitsIndex k)=true:=by
  rw[fitsIndex_both G E];exact Ar
 have c:¬Builtin.List.listTooLong (b.toArray.size*k.toNat)=true:=by
  rw[O_ f];exact Ar
 have d:List.foldl (λo j=>o++j) #[] (List.replicate (if b.toArray.isEmpty=true then 0 else k.toNat) b.toArray)=(List.replicate k.toNat b).flatten.toArray:=by
  have J:=λm=>by
   have:=zI b m []
   rw[List.nil_append]at this;exact this
  rw[J];cases b with
  |nil=>simp
  |cons a M=>rw[if_neg (by simp)]
 refine wpAny_binaryOp_repeat_ref (T := "list") (U := "int") (by decide) ⟨_,e,rfl⟩ (λw=>typeIs_int w k t) noFill_list_mul F.fills_int_mul F.slot_int_rmul repeat_list F.slot_int_index.lookup
  (Gu F.slot_int_rmul (typeIs_int s k t) F.entry_int_rmul (F.args_int_rmul_2 _ _) (int___rmul___int_list k t l b.toArray n)
   ⟨e,rfl,⟨_,e,rfl⟩,Gu F.slot_list_mul ⟨_,e,rfl⟩ F.entry_list_mul (F.args_list_mul_2 _ _) (AutoListH.list___mul___list_int_3 l b.toArray n k t g i c) ⟨e,?_⟩⟩)
 rw[d];exact⟨.ref _,_,I.WC (t':=s.toks) (r.rep k.toNat) (by rw[Nb,Nat.mul_comm];exact p),rfl,q _ I.fresh⟩
end L2
namespace Att
open PySem PySem.W PySem.Calls PyProof.Rows
def tS:∀c d,WellAll P h d (c.map WData.int)->IntsAre d c:=by
 intro c;induction c with
 |nil=>
  intro d w;cases w;exact .nil
 |cons n c e=>
  intro d w;cases w with
  |cons a b=>
   cases a;exact .cons _ _ (e _ b)
def Mh{l:OpenLaw}{n:Nat}(w:l.most=some n){P:Params}{h:Heap}{args:List WData}{c:List Value}(e:l.row.toRowW.claim.pre args=true)(k:WellAll P h c args):∃a o b,c=[Value.ref a]/\args=[WData.list (b.map WData.int)]/\h.get? a=some {cls:=.type "list",data:=.seq o.toArray}/\IntsAre o b/\b.length<=n:=by
 have m:=(pre_splitW e).1
 have p:l.pre.holds [] {args:=args}=true:=(pre_splitW e).2
 obtain⟨d,r,rfl,z,y⟩:=hasAllW_cons m;obtain rfl:=hasAllW_nil y;obtain⟨A,rfl,x⟩:=hasW_list z;obtain⟨b,rfl⟩:=items_int x;have f:b.length<=n:=by
  unfold OpenLaw.pre at p;have j:(WTm.not (.lt (.lit (.int (n:Int))) (.len (.arg 0)))).holds [] {args:=[.list (b.map .int)]}=true:=by
   have j:=(holds_andW p).1
   rw[w]at j;exact j
  have i:=condW_of j (w_not (w_lt w_lit (w_len_list (w_arg rfl))))
  grind
 cases k with
 |cons t s=>
  cases s;cases t with
  |list v g=>exact⟨_,_,b,rfl,rfl,v,tS b _ g,f⟩
def FF(l:OpenLaw)(args:List WData):l.row.toRowW.claim.post args (.bool true) args=true:=
 postW_of  
  (show WShape.has [] _ .bool=true by first|rfl|decide|simp)
  (show (WTm.eq .res _).value [] {args:=args,res:=some _,after:=args}=some _ from w_eq_bool (w_res rfl) w_lit) rfl
def X4{l:OpenLaw}{n:Nat}{q:Program}{e:List Str}{L:(Q5)->Heap->Prop}{K:World->Heap->Prop}{d:DefRec}(Q:l.most=some n)(D:d.params.defaults=[])(t:∀w c b (x A:Q5) p o z y h a i v,
 Ground q e [] L w c x A b.heap->K w b.heap->
 b.heap.get? p=some o->o.data=.func (docDef d.name d.params d.body d.scope z y h)->b.heap.CodeRec y d.name->x d.name=some (.ref p)->
 b.heap.get? a=some {cls:=.type "list",data:=.seq i.toArray}->IntsAre i v->v.length<=n->b.gens=#[]->
 codeAny (model l.prog w) callerA (.call (.ref p) ⟨[.ref a],[]⟩) (λr u=>r=.ok (.ret (.bool true))/\OldK b.heap u.heap/\u.os=b.os/\AllBare u.gens) b):WalkO q e L K l.row.toRowW d [] (λf i=>PySem.call f i):=by
 intro w c b x A G Y p o z y h Z M P U E I C T J F as j H N B S;obtain rfl:Z=.none:=Dflts.none I D;obtain rfl:M=.none:=Dflts.noKw I;obtain⟨a,i,v,rfl,rfl,k,g,m⟩:=Mh Q j B;refine enter_call (Fb (t w c b x A p o z y h a i v G Y P (fd_plain U) E C k g m T) λr u O=>?_);obtain⟨rfl,X,W,V⟩:=O;exact⟨.inl ⟨.bool true,.bool true,[],rfl,λ_=>rfl,.bool true,FF l _,λ_=>⟨List.Pairwise.nil,λ_ R=>(nomatch R)⟩⟩,X,W,V⟩
end Att
namespace L2
open PySem PySem.Spec PyProof.Rows
variable {x:Str}
def zR:∀ {a:List Value} {b:List Int},IntsAre a b->Vals (b.map V.int) a
 |_,_,.nil=>.nil
 |_,_,.cons n t h=>.cons ⟨t,rfl⟩ (zR h)
noncomputable def kT(s:Stmt):Arguments:=match s with
 |.FunctionDef _ a _ _ _ _ _ _ _ _=>a
 |_=>{posonlyargs:=[],args:=[],vararg:=none,kwonlyargs:=[],kw_defaults:=[],kwarg:=none,defaults:=[]}
noncomputable def fY(s:Stmt):List Stmt:=match s with
 |.FunctionDef _ _ b _ _ _ _ _ _ _=>b
 |_=>[]
noncomputable def aJ(s:Stmt):Scope:=match s with
 |.FunctionDef _ _ _ _ _ _ a _ _ _=>a
 |_=>{kind:=.function,names:=[],isGenerator:=false,isCoroutine:=false}
abbrev ZS:Yb:=λ_ _ _ _ _ _=>False
abbrev E0:XK:=λ_ _ _=>False
def Tt:iC ZS X E0:=λ_ _ _ _ _ _ _ h=>h.elim
structure ZT (K:W.Frag) (x qual:Str) (st:Stmt) (f:Addr) (fd:FuncData):Prop where
 ex:∃(oc:Value) (od:Option Addr) (kV doc pm:Value) (an:Option Addr) (cdv ct:Value) (osl:Array (Option Value)),
  fd=W.fnOf x qual (kT st) (fY st) (aJ st) .none kV doc pm an cdv ct/\K.lookup f=some ⟨oc,od,.func fd,osl⟩/\W.codeIn K cdv qual=true
 kp:W.keepIn K (.ref f)=true
section
variable {P:Program} {w:World} {K:W.Frag} {mg:Q5} {base:Heap}
def ZT.ok{st:Stmt}{f:Addr}{l:FuncData}{N ps:List Str}{k:Nat}{sp:Sp}(F:ZT K x b st f l)(S:Z9 N ps (aJ st))(g:∀d H Q E,sp d H Q E->d.length=ps.length)(e:∀c A a s H d Q E,Z2 k (A.deeper (envOfC b (aJ st) s.heap.objs.size f c))->sp d H Q E->
 ∃t,Yt (hZ ZS P w K mg base N b (aJ st) f c A a s H E).WT (fY st) t/\t {nx:=λ_ r=>Q .non r,rt:=Q} (oH N d) H):Z8 P w K mg base ZS (k+1) f l ps sp:=by
 obtain⟨y,v,z,p,u,C,c,B,m,rfl,n,j⟩:=F.ex;refine RM n j S g λA a s H d Q E o i=>?_;obtain⟨t,h,q⟩:=e c A a s H d Q E o i;exact⟨t,h.WT,q⟩
def ZT.binds{st:Stmt}{f:Addr}{k:FuncData}{ps:List Str}(F:ZT K x a st f k)(h:∀g b e j c i d,d.length=ps.length->bindArgs (W.fnOf x a (kT st) (fY st) (aJ st) .none g b e j c i) ⟨d,[]⟩=pure (ps.zip d)):Binds K k ps []:=by
 obtain⟨o,n,g,b,e,j,c,i,l,rfl,p,m⟩:=F.ex;exact .all (h g b e j c i)
def UP{st:Stmt}{f:Addr}{m:Value}{j i:Option Addr}{e:Array _}{g d pm b h:Value}(l:K.lookup f=some ⟨m,j,.func (W.fnOf x a (kT st) (fY st) (aJ st) .none g d pm i b h),e⟩)(c:W.codeIn K b a=true)(k:W.keepIn K (.ref f)=true):ZT K x a st f (W.fnOf x a (kT st) (fY st) (aJ st) .none g d pm i b h):=⟨⟨m,j,g,d,pm,i,b,h,e,rfl,l,c⟩,k⟩
end
section
variable {X:Cx}
def pv(i:Nat){a:Pos}(e:X.N[i]?=some x:=by rfl)(c:T8 X.env.scope x:=by first|exact Or.inl rfl|exact Or.inr (Or.inl rfl)|exact Or.inr (Or.inr rfl))(d:(x==("__debug__" : Str))=false:=by decide)(b:(x==("__classdict__" : Str))=false:=by decide):PE X (.Name x a) (QP i):=Lx e c d b
end
def KW{A B:Prop}(h:B):if false=true then A else B:=by grind
def Ls{A B:Prop}(h:A):if true=true then A else B:=by grind
def dW{c A B:Prop}[Decidable c](b:c->A)(a:¬c->B):if c then A else B:=by grind
def Z_(H a:Hp):Prop:=∀b o,H b=some o->a b=some o
def Z_.refl(H:Hp):Z_ H H:=λ_ _ h=>h
def Z_.trans(a:Z_ H e)(b:Z_ e d):Z_ H d:=λc o h=>b c o (a c o h)
def Z_.seq{K:W.Frag}{H b:Hp}{a:Addr}{xs:List V}(e:Z_ H b)(h:Zm K H a xs):Zm K b a xs:=by
 rcases h with(h|⟨o,h⟩)|h
 .exact .inl (.inl (e _ _ h))
 .exact .inl (.inr ⟨o,e _ _ h⟩)
 .exact .inr h
end L2
namespace FlT
open PySem PySem.Spec PyProof.Rows
def Yj(x y:Str):(x++y).cps.toList=x.cps.toList++y.cps.toList:=by
 show (x.cps++y.cps).toList=_
 simp
def YQ{x y:Str}(h:x.cps.toList=y.cps.toList):x=y:=by
 obtain⟨⟨x⟩⟩:=x;simp_all
end FlT
namespace L2
open PySem PySem.Spec PyProof.Rows
variable {A:Around}{C Pt a b c dx ea f it q:Addr}{D:Ends}{E:Q0}{H H' H1 Hc Hs:Hp}{K:W.Frag}{M:Model}{N:List Str}{P prog:Program}{Q:VK}{R:It->Hp->Prop}{S:Str->Hp->Prop}{T newId:String}{X:Cx}{apos cpos np pos tp:Pos}{base h h':Heap}{bmB us:List Value}{body:List Stmt}{cl:List (Str×Addr)}{d:Option Addr}{e iter l tg:Expr}{elts es ifs:List Expr}{env:Env}{ep i j k' n t' x1:Nat}{fd:FuncData}{fp ps:List Addr}{fs:List (List V)}{g:TG}{kvs:List (Key×V)}{lo:Int}{mg:Q5}{name qual x z:Str}{neg:Bool}{ns:List Int}{o oe:Obj}{outer:List Env}{params:Arguments}{y2:Q2}{pl:Sem Bool}{r:V->List V->Hp->VK->Prop}{s s1:Shared}{scope:Scope}{sp:Sp}{st:Stmt}{ta tk:TA}{te tl to tv:TE}{tests:TT}{ts:TS}{u:Value}{v y:V}{vs xs ys:List V}{w:World}{α:Type}
def PE.imp{t t':TE}(h:PE X e t)(i:∀U H Q,t' U H Q->t U H Q):PE X e t':=λa s U H Q I q=>h a s U H Q I (i U H Q q)
def ZM.imp{f:Value->Value->Sem Value}{r a:R2}(h:ZM X f r)(i:∀x y H Q,a x y H Q->r x y H Q):ZM X f a:=λb s U H x y v u Q I d c q=>h b s U H x y v u Q I d c (i x y H Q q)
def ZU.imp{f:Value}{r b:List V->Hp->VK->Prop}(h:ZU X f r)(i:∀a H Q,b a H Q->r a H Q):ZU X f b:=λc s U H a d Q I e q=>h c s U H a d Q I e (i a H Q q)
def Yv.imp{id:String}{r b:V->List V->Hp->VK->Prop}(h:Yv X id r)(i:∀x a H Q,b x a H Q->r x a H Q):Yv X id b:=λc s U H x a v d Q I e f q=>h c s U H x a v d Q I e f (i x a H Q q)
def Xp.imp{r c:R2}(h:Xp X r)(i:∀x y H Q,c x y H Q->r x y H Q):Xp X c:=λa b d s U H x y v u Q I f e q g=>h a b d s U H x y v u Q I f e (i x y H Q q) g
def WY.imp{r c:V->Option Int->Option Int->Hp->VK->Prop}(h:WY X r)(i:∀x a b H Q,c x a b H Q->r x a b H Q):WY X c:=λd s U H x v f e a b g Q I j m l k q=>h d s U H x v f e a b g Q I j m l k (i x a b H Q q)
noncomputable def WW(z:Str):It:=⟨λi _=>i<z.cps.size,λi H x a=>a=H/\∃c,z.cps[i]?=some c/\x=.str ⟨#[c]⟩,λi _=>z.cps.size<=i⟩
def LU(z:Str)(t:Tok)(f:Addr):Turn P w K tg (WW z) [f] f (λi h=>h.IsStrIter f "str_ascii_iterator" z t i) where
 mem:=by simp
 obj:=λi h a b g=>by
  have e:b=f:=by simpa using g
  subst e;obtain⟨o,e,c,d⟩:=a;exact⟨o,e,λv z=>by rw[d]at z;cases z⟩
 keep:=λi h n a k=>let ⟨o,L,r⟩:=a;⟨o,k f (by simp) o L,r⟩
 item:=by
  intro X u p x G i F s U H E I m a q;subst u p x;obtain⟨D,C,M,B,A,y⟩:=m f (by simp)
  have l:i<z.cps.size:=q
  refine wpAny_pyNext_ascii_item a (c:=z.cps[i]) (by simp[l]) λn j J=>?_
  have O:Inv X F U H {s with heap:=n,toks:=s.toks+1}:=I.turned (λb o g e=>(J.2 b g).trans e) D C B A y
  obtain⟨o,e,c,d⟩:=id j;exact⟨_,rfl,wN (s:={s with heap:=n,toks:=s.toks+1}) e c d (by decide) ⟨.str ⟨#[z.cps[i]]⟩,H,O,⟨_,rfl⟩,⟨rfl,_,by simp[l],rfl⟩,j,λb g=>(m b g).1⟩⟩
 done:=by
  intro X u p x G i F s U H E I m a q;subst u p x;obtain⟨D,C,M,B,A,y⟩:=m f (by simp)
  have l:z.cps.size<=i:=q
  exact wpAny_pyNext_ascii_end (I.ok.hd G) a (by simp[l]) λn N=>⟨rfl,I.turned (t':=s.toks) (λb o g e=>N b o g e) D C B A y⟩
 self:=λ_ _ _ _ _ a h=>wpAny_pyIter_striter_ascii a h
def MZ(z:Str)(t:Tok)(f:Addr):Turn P w K tg (WW z) [f] f (λi h=>h.IsStrIter f "str_iterator" z t i) where
 mem:=by simp
 obj:=λi h a b g=>by
  have e:b=f:=by simpa using g
  subst e;obtain⟨o,e,c,d⟩:=a;exact⟨o,e,λv z=>by rw[d]at z;cases z⟩
 keep:=λi h n a k=>let ⟨o,L,r⟩:=a;⟨o,k f (by simp) o L,r⟩
 item:=by
  intro X u p x G i F s U H E I m a q;subst u p x;obtain⟨D,C,M,B,A,y⟩:=m f (by simp)
  have l:i<z.cps.size:=q
  refine wpAny_pyNext_wide_item a (c:=z.cps[i]) (by simp[l]) λn j J=>?_
  have O:Inv X F U H {s with heap:=n,toks:=s.toks+1}:=I.turned (λb o g e=>(J.2 b g).trans e) D C B A y
  obtain⟨o,e,c,d⟩:=id j;exact⟨_,rfl,wN (s:={s with heap:=n,toks:=s.toks+1}) e c d (by decide) ⟨.str ⟨#[z.cps[i]]⟩,H,O,⟨_,rfl⟩,⟨rfl,_,by simp[l],rfl⟩,j,λb g=>(m b g).1⟩⟩
 done:=by
  intro X u p x G i F s U H E I m a q;subst u p x;obtain⟨D,C,M,B,A,y⟩:=m f (by simp)
  have l:z.cps.size<=i:=q
  exact wpAny_pyNext_wide_end (I.ok.hd G) a (by simp[l]) λn N=>⟨rfl,I.turned (t':=s.toks) (λb o g e=>N b o g e) D C B A y⟩
 self:=λ_ _ _ _ _ a h=>wpAny_pyIter_striter_wide a h
def Kc{k:TS}{U:St}(a:Nat->St->Hp->Prop)(t:a 0 U H)(hs:∀i c U H,z.cps.toList[i]?=some c->a i U H->g (.str ⟨#[c]⟩) U H λf j=>k {D with nx:=a (i+1),ct:=a (i+1),bk:=D.nx} f j)(n:∀U H,a z.cps.toList.length U H->D.nx U H):∃W:Nat->Nat->St->Hp->Prop,(∃m,W 0 m U H)/\∀i m U H,W i m U H->
 ((WW z).stop i H/\D.nx U H)\/((WW z).go i H/\∃N,(∀h b,N h b->∃l,l < m/\W (i+1) l h b)/\∀x b,(WW z).WJ i H x b->g x U b λf j=>k {D with nx:=N,ct:=N,bk:=D.nx} f j):=by
 have r:z.cps.toList.length=z.cps.size:=by simp
 rw[r]at n;refine⟨λi m U H=>m=z.cps.size-i/\i<=z.cps.size/\a i U H,⟨z.cps.size,by simp,Nat.zero_le _,t⟩,?_⟩
 rintro i m U H ⟨rfl,u,p⟩;by_cases d:i<z.cps.size
 .refine .inr ⟨d,a (i+1),λh b o=>⟨z.cps.size-(i+1),by ((try clear r u);omega),rfl,d,o⟩,λx b y=>?_⟩
  obtain⟨e,c,s,q⟩:=y;simp_all
 .have e:i=z.cps.size:=by ((try clear r);omega)
  subst e;exact .inl ⟨Ah _,n U H p⟩
section
variable {b:Expr}
def LO:V->Option Int->Option Int->Hp->VK->Prop:=λx a b H Q=>∃z,x=.str z/\z.length<=sizeLine/\Q (.str (Txt.slice z a b)) H
def E4:WY X LO:=by
 intro n s U H x v p o w y r Q I g b m f h;obtain⟨z,rfl,a,q⟩:=h;obtain⟨t,rfl⟩:=g;refine⟨"str",_,PySem.F.slot_str_getitem.lookup,Il _ _ _,?_⟩;cases m with
 |none=>
  cases f with
  |none=>exact Ga (l:=none) (u:=none) (st:=none) b rfl (post_val_or_str ⟨Bh (Txt.slice_le z _ _) a,λd k=>⟨.str _,H,I.tok _,⟨_,rfl⟩,q⟩⟩)
  |int j c=>exact Ga (l:=none) (u:=some (j,c)) (st:=none) b rfl (post_val_or_str ⟨Bh (Txt.slice_le z _ _) a,λd k=>⟨.str _,H,I.tok _,⟨_,rfl⟩,q⟩⟩)
 |int i e=>
  cases f with
  |none=>exact Ga (l:=some (i,e)) (u:=none) (st:=none) b rfl (post_val_or_str ⟨Bh (Txt.slice_le z _ _) a,λd k=>⟨.str (Txt.slice z (some i) none),H,I.tok _,⟨_,rfl⟩,q⟩⟩)
  |int j c=>exact Ga (l:=some (i,e)) (u:=some (j,c)) (st:=none) b rfl (post_val_or_str ⟨Bh (Txt.slice_le z _ _) a,λd k=>⟨.str (Txt.slice z (some i) (some j)),H,I.tok _,⟨_,rfl⟩,q⟩⟩)
def Iq:V->List V->Hp->VK->Prop:=λx b H Q=>∃z y i a,x=.str z/\b=[.str y]/\Builtin.Str.occurrences z y 0 z.length 1=i::a/\Q (.int ((i:Nat):Int)) H
def W5:Yv X "str.index" Iq:=by
 intro f s U H x g v j Q I b c h;obtain⟨z,y,i,a,rfl,rfl,e,q⟩:=h;obtain⟨t,rfl⟩:=b;obtain⟨u,rfl,d⟩:=c.one;obtain⟨k,rfl⟩:=d;exact SC.index e ⟨.int i,H,I.tok _,⟨_,rfl⟩,q⟩
def vM{ys:List Str}:∀ {a:List Value},Vals (ys.map V.str) a->StrsAre a ys:=by
 induction ys with
 |nil=>intro a r;cases r;exact .nil
 |cons n f d=>
  intro a r;cases r with
  |cons c b=>
   obtain⟨t,e⟩:=c;subst e;exact .cons n t (d b)
def JX(K:W.Frag):V->List V->Hp->VK->Prop:=λx b H Q=>∃z p a,x=.str z/\b=[.ref p]/\Zm K H p (a.map V.str)/\(a.map (·.length)).sum+a.length*z.length<=16777216/\Q (.str (Txt.join z a)) H
def WN:Yv X "str.join" (JX X.K):=by
 intro j s U H x l v m Q I b c h;obtain⟨z,p,a,rfl,rfl,i,g,q⟩:=h;obtain⟨t,rfl⟩:=b;obtain⟨u,rfl,d⟩:=c.one;cases d;obtain⟨f,r,e,_⟩:=I.list i;exact join_list e.isList (by simpa using vM r) g λn k=>⟨.str _,H,I.tok _,⟨_,rfl⟩,q⟩
def yQ:ZU X (.type "int") (λa H Q=>∃x n,a=[.str x]/\PySem.intText? x=some n/\x.length<=640/\Q (.int n) H):=by
 intro d s U H a e Q I r h;obtain⟨x,n,rfl,b,c,q⟩:=h;obtain⟨u,rfl,t,rfl⟩:=eC r;exact W.KIN.call_text b c ⟨.int n,H,I.tok _,⟨_,rfl⟩,q⟩
def Yd:ZU X (.builtin "isinstance") (λa H Q=>∃x T t b,a=[x,.ty T]/\Y6 X.K H x t/\W.kitOne X.K t (.type T)=some b/\Q (.bl b) H):=by
 intro i s U H a j Q I r h;obtain⟨x,T,t,b,rfl,d,e,q⟩:=h;obtain⟨u,c,rfl,g,f⟩:=T1 r;cases (show c=Value.type T from f);exact BS I g d e λk=>⟨.bl b,H,I.tok _,rfl,q⟩
def FO:∀ {a:List Value},Vals (bs.map V.bl) a->LSm.BoolsAre a bs:=by
 induction bs with
 |nil=>intro a r;cases r;exact .nil
 |cons n e d=>
  intro a r;cases r with
  |cons c b=>
   cases c;exact .cons n (d b)
def yF(w:X.calm=true):ZU X (.builtin "all") (λg H Q=>∃(p:Addr) (a:List Bool),g=[.ref p]/\Zm X.K H p (a.map V.bl)/\Q (.bl (a.all id)) H):=by
 intro y s U H g z Q I r h;obtain⟨p,a,rfl,o,q⟩:=h;obtain⟨u,rfl,m⟩:=eC r;cases m;obtain⟨c,l,n,D⟩:=I.list o;have j:=FO l
 have f:=n.isList
 have d:p<s.heap.objs.size:=by obtain⟨_,e,_⟩:=f;exact Ax e
 refine call_all_walk (Et f ?_);refine⟨s.heap.objs.size,[s.heap.objs.size,p],[s.heap.objs.size],c.toArray.size,_,_,λi=>(a[i]?).getD true,rfl,Walks.list (A:=X.A.in1) (I.ok.hd w) _ p (Bl d) c.toArray,
  ⟨⟨_,Ay _ rfl,rfl,rfl⟩,f.push _⟩,λi v C G J x k=>?_,λF B t=>?_⟩
 .obtain⟨b,e,rfl⟩:=j.get i v (by simpa using x)
  simp only[e,Option.getD_some]at k;exact Fn k
 .have e:((List.range c.toArray.size).all λi=>(a[i]?).getD true)=a.all id:=by
   rw[Be,j.length];exact LSm.range_all a
  rw[e];exact⟨.bl (a.all id),H,I.kept (LSm.kept_iter t),rfl,q⟩
noncomputable def kS(xs ys:List V):Bool:=xs.length==ys.length&&(List.range xs.length).all λj=>X0 (xs.getD j .non) (ys.getD j .non)
def Vals.YZ(r:Vals xs us) _:RelV (xs.getD j .non) us[j]:=by
 have d:=r.length
 have a:j<xs.length:=by omega
 obtain⟨u,b,c⟩:=r.get (Aa a);simp_all
def jO(h:xs.all bY=true)(j:Nat):bY (xs.getD j .non)=true:=by
 rw[Ac];cases e:xs[j]? with
 |none=>rfl
 |some x=>exact Ca.mp h x (Ao e)
def SX(K:W.Frag)(neg:Bool):R2:=λx y H Q=>∃p q b a,x=.ref p/\y=.ref q/\Zm K H p b/\Zm K H q a/\b.all bY=true/\a.all bY=true/\Q (.bl (if neg then !kS b a else kS b a)) H
def wK(h:xs.length≠ys.length):kS xs ys=false:=by
 unfold kS;rw[Dk.mpr h,Hl]
def nA(h:xs.length=ys.length):kS xs ys=(List.range xs.length).all λj=>X0 (xs.getD j .non) (ys.getD j .non):=by
 unfold kS;simp_all
def KD(o:X.A.units<cLine):ZM X (compareOp .Eq) (SX X.K false):=by
 intro J s U H x y v u Q I w t h;obtain⟨p,q,c,b,rfl,rfl,B,z,F,E,k⟩:=h;cases w;cases t;obtain⟨d,l,n,_⟩:=I.list B;obtain⟨a,i,m,_⟩:=I.list z;have G:=l.length
 have L:=i.length
 by_cases r:c.length=b.length
 .refine SeqAt.eq_listAt (e:=λj=>X0 (c.getD j .non) (b.getD j .non)) n.isList m.isList (by simp only[List.size_toArray];((try clear o);omega)) o (λj D C=>?_) ?_
  .have g:j<d.length:=by simpa using D
   have f:j<a.length:=by simpa using C
   simpa using sI (A:=X.A.in1) (s:=s) (l.YZ g) (i.YZ f) (jO F j) (jO E j)
  .refine⟨.bl (kS c b),H,I,?_,k⟩;rw[nA r];simp only[List.size_toArray,<-G];rfl
 .refine SeqAt.eq_list_lengthsAt n.isList m.isList (by grind) o ⟨.bl (kS c b),H,I,?_,k⟩
  rw[wK r];rfl
def Mr(o:X.A.units<cLine):ZM X (compareOp .NotEq) (SX X.K true):=by
 intro L s U H x y v u Q I z t h;obtain⟨p,q,c,b,rfl,rfl,C,B,G,F,k⟩:=h;cases z;cases t;obtain⟨d,l,n,_⟩:=I.list C;obtain⟨a,i,m,_⟩:=I.list B;have J:=l.length
 have M:=i.length
 by_cases r:c.length=b.length
 .refine SeqAt.RcNeAt.lists (e:=λj=>X0 (c.getD j .non) (b.getD j .non)) n.isList m.isList (by simp only[List.size_toArray];((try clear o);omega)) o (λj E D=>?_) X.prog X.w _ _ ?_
  .have g:j<d.length:=by simpa using E
   have f:j<a.length:=by simpa using D
   simpa using sI (A:=X.A.in1) (s:=s) (l.YZ g) (i.YZ f) (jO G j) (jO F j)
  .refine⟨.bl (!kS c b),H,I,?_,k⟩;rw[nA r];simp only[List.size_toArray,<-J];rfl
 .refine SeqAt.RcNeAt.lists_lengths n.isList m.isList (by simp only[List.size_toArray,bne_iff_ne];((try clear o);omega)) o X.prog X.w _ _ ⟨.bl (!kS c b),H,I,?_,k⟩
  rw[wK r];rfl
end
noncomputable def Tf:Option HO->Option (List V)
 |some (.lst a)=>some a
 |some (.frz _ (.lst a))=>some a
 |_=>none
noncomputable def Z4(H:Hp)(a:Addr):Option (List V):=Tf (H a)
def bC(h:Z4 H a=some xs):Zm K H a xs:=by
 unfold Z4 Tf at h;split at h
 .cases h;exact .inl (.inl (by (assumption)))
 .cases h;exact .inl (.inr ⟨_,by assumption⟩)
 .cases h
def aO(h:H a=some (.lst xs)):Z4 H a=some xs:=by unfold Z4;rw[h];rfl
def cE:Z4 (upd H a (.lst xs)) a=some xs:=aO aD
def Ta{o:HO}(h:b≠a):Z4 (upd H a o) b=Z4 H b:=by unfold Z4;rw[aH h]
def aM{H:Hp}(e:Z_ H H')(h:Z4 H a=some xs):Z4 H' a=some xs:=by
 unfold Z4 at h ⊢;cases q:H a with
 |none=>rw[q]at h;cases h
 |some o=>rwa[e a o q,<-q]
def aG(h:H p=none)(o:HO):Z_ H (upd H p o):=λb u q=>by rwa[aH (bH q h)]
noncomputable def jS(H:Hp)(a:Addr):Option (List V):=match H a with|some (.lst xs)=>some xs|_=>none
def bM(h:H a=some (.lst xs)):jS H a=some xs:=by unfold jS;rw[h]
def mX(h:jS H a=some xs):H a=some (.lst xs):=by
 unfold jS at h;grind
def dU:jS (upd H a (.lst xs)) a=some xs:=bM aD
def uB{o:HO}(h:b≠a):jS (upd H a o) b=jS H b:=by unfold jS;rw[aH h]
noncomputable def nT(H:Hp)(a:Addr):Option (List V):=match H a with|some (.tup xs)=>some xs|_=>none
def cX(h:H a=some (.tup xs)):nT H a=some xs:=by unfold nT;rw[h]
def uF(h:nT H a=some xs):H a=some (.tup xs):=by
 unfold nT at h;grind
def mY:nT (upd H a (.tup xs)) a=some xs:=cX aD
section
variable {a b c:Expr} {ta tb:TE}
def VG(i:Nat):TE:=λU H Q=>match U[i]? with|some (some v)=>Q v H|_=>False
def mv(i:Nat)(d:X.N[i]?=some x:=by rfl)(b:T8 X.env.scope x:=by first|exact Or.inl rfl|exact Or.inr (Or.inl rfl)|exact Or.inr (Or.inr rfl))(c:(x==("__debug__" : Str))=false:=by decide)(a:(x==("__classdict__" : Str))=false:=by decide):PE X (.Name x pos) (VG i):=(pv i d b c a).imp λU H Q q=>by
 unfold VG at q;split at q
 .exact⟨_,by assumption,q⟩
 grind
def mI(g:Int->Int->V):R2:=λx y H Q=>match x,y with|.int i,.int j=>Q (g i j) H|_,_=>False
def xP{g:Int->Int->V}{x:V}(q:mI g x y H Q):WE g x y H Q:=by
 unfold mI at q;split at q
 .exact⟨_,_,rfl,rfl,q⟩
 simp_all
def VT(C:Int->Int->Prop)(g:Int->Int->V):R2:=λx y H Q=>match x,y with|.int i,.int j=>C i j/\Q (g i j) H|_,_=>False
def RQ{C:Int->Int->Prop}{g:Int->Int->V}{x:V}(q:VT C g x y H Q):rI C g x y H Q:=by
 unfold VT at q;split at q
 .exact⟨_,_,rfl,rfl,q.1,q.2⟩
 simp_all
def VW:R2:=λx y H Q=>match x,y with
 |.int i,.int j=>Q (.int (i+j)) H
 |.str z,.str y=>z.length+y.length<=sizeLine/\Q (.str (z++y)) H
 |.ref p,.ref q=>(match jS H p,jS H q with
  |some b,some a=>b.length+a.length<=sizeLine/\∀r,H r=none->Q (.ref r) (upd H r (.lst (b++a)))
  |_,_=>False)
 |_,_=>False
def bO:ZM X (binaryOp .Add) VW:=by
 intro a s U H x y v u Q I c b q;unfold VW at q;split at q
 .exact GA a s U H _ _ v u Q I c b ⟨_,_,rfl,rfl,q⟩
 .exact JU a s U H _ _ v u Q I c b ⟨_,_,rfl,rfl,q.1,q.2⟩
 .split at q
  .exact LF a s U H _ _ v u Q I c b ⟨_,_,_,_,rfl,rfl,mX (by assumption),mX (by (assumption)),q.1,q.2⟩
  simp_all
 .exact q.elim
def qK:ZM X (binaryOp .Sub) (mI λi j=>.int (i-j)):=V2.imp λ_ _ _ _ q=>xP q
def lD:ZM X (binaryOp .Mult) (VT WM λi j=>.int (i*j)):=VY.imp λ_ _ _ _ q=>RQ q
def dD:ZM X (binaryOp .Mod) (VT (λ_ j=>0<j) λi j=>.int (i%j)):=Wb.imp λ_ _ _ _ q=>RQ q
def fS:ZM X (binaryOp .FloorDiv) (VT Q8 λi j=>.int (i / j)):=WO.imp λ_ _ _ _ q=>RQ q
def yI:ZM X (compareOp .Lt) (mI λi j=>.bl (decide (i<j))):=Vt.imp λ_ _ _ _ q=>xP q
def Jt:ZM X (compareOp .LtE) (mI λi j=>.bl (decide (i<=j))):=Vi.imp λ_ _ _ _ q=>xP q
def V7:ZM X (compareOp .Gt) (mI λi j=>.bl (decide (j<i))):=Vk.imp λ_ _ _ _ q=>xP q
def NI:ZM X (compareOp .GtE) (mI λi j=>.bl (decide (j<=i))):=Vy.imp λ_ _ _ _ q=>xP q
def Tw:V->Hp->VK->Prop:=λx H Q=>match x with|.int i=>Q (.int (-i)) H|_=>False
def Ua:T6 X (unaryOp .USub) Tw:=λa s U H x v Q I b q=>by
 unfold Tw at q;split at q
 .exact JO a s U H _ v Q I b ⟨_,rfl,q⟩
 simp_all
def TU:R2:=λx y H Q=>Ur x y=true/\Q (.bl (decide (x=y))) H
def lC:ZM X (compareOp .Eq) TU:=Ip
def Ox:R2:=λx y H Q=>Ur x y=true/\Q (.bl (!decide (x=y))) H
def P6:ZM X (compareOp .NotEq) Ox:=LH
def VD(neg:Bool):R2:=λx y H Q=>match x,y with
 |.ref p,.ref q=>(match Z4 H p,Z4 H q with
  |some b,some a=>b.all bY=true/\a.all bY=true/\Q (.bl (if neg then !kS b a else kS b a)) H
  |_,_=>False)
 |_,_=>False
def NS{x:V}(q:VD neg x y H Q):SX K neg x y H Q:=by
 unfold VD at q;split at q
 .split at q
  .exact⟨_,_,_,_,rfl,rfl,bC (by assumption),bC (by (assumption)),q.1,q.2.1,q.2.2⟩
  simp_all
 .exact q.elim
def P0(a:X.A.units<cLine):ZM X (compareOp .Eq) (VD false):=(KD a).imp λ_ _ _ _ q=>NS q
def Mx(a:X.A.units<cLine):ZM X (compareOp .NotEq) (VD true):=(Mr a).imp λ_ _ _ _ q=>NS q
def RZ:R2:=λx y H Q=>match y with|.non=>Q (.bl (decide (x=.non))) H|_=>False
def Vx:ZM X (compareOp .Is) RZ:=VZ.imp λ_ y _ _ q=>by
 unfold RZ at q;grind
def SQ:R2:=λx y H Q=>match y with|.non=>Q (.bl (!decide (x=.non))) H|_=>False
def TR:ZM X (compareOp .IsNot) SQ:=WL.imp λ_ y _ _ q=>by
 unfold SQ at q;grind
noncomputable def subIn(y x:Str):Bool:=!(Builtin.Str.occurrences x y 0 x.length 1).isEmpty
def nL(x:Str)(c:Nat):subIn ⟨#[c]⟩ x=decide (c∈x.cps.toList):=PySem.StrLaws.found_one x c
def SH(neg:Bool):R2:=λx y H Q=>match x,y with|.str i,.str j=>Q (.bl (if neg then !subIn i j else subIn i j)) H|_,_=>False
def Vs:ZM X (compareOp .In) (SH false):=XB.imp λ_ _ _ _ q=>by
 unfold SH at q;split at q
 .exact⟨_,_,rfl,rfl,q⟩
 simp_all
def VH(neg:Bool):R2:=λx y H Q=>match y with
 |.ref p=>(match Z4 H p with|some a=>bY x=true/\a.all bY=true/\Q (.bl (if neg then !WX x a else WX x a)) H|none=>False)
 |_=>False
def PB{x:V}(q:VH neg x y H Q):Sy K neg x y H Q:=by
 unfold VH at q;split at q
 .split at q
  .exact⟨_,_,rfl,.inl (bC (by (assumption))),q.1,q.2.1,q.2.2⟩
  simp_all
 .exact q.elim
def GW:ZM X (compareOp .In) (VH false):=Xu.imp λ_ _ _ _ q=>PB q
def Qr:ZM X (compareOp .NotIn) (VH true):=Yf.imp λ_ _ _ _ q=>PB q
def mB(Q:Bool->Hp->Prop):VK:=λx H=>match x with|.bl k=>Q k H|_=>False
def QF{Q:Bool->Hp->Prop}{x:V}(q:mB Q x H):∃k,x=.bl k/\Q k H:=by
 unfold mB at q;split at q
 .exact⟨_,rfl,q⟩
 simp_all
def PM(t:TE):TT:=λU H Q=>t U H (mB Q)
def bB{r:R2}(p:ZM X (compareOp op) r)(A:PE X a ta)(w:PE X b tb)(t:behindInMarks op b=false):PT X (.Compare a [op] [b] pos) (PM (VQ r ta tb)):=by
 intro d s U H Q I h;refine wpAny_isTrue_Compare1 (ZX (A d s U H _ I h) λv g ⟨x,G,D,l,o⟩=>ZX (w d g U G _ D o) λu f ⟨y,F,C,j,n⟩=>
  ZX (p d f U F x y v u _ C l j n) λc J ⟨z,E,B,i,q⟩=>?_) t
 obtain⟨k,e,m⟩:=QF q;subst e;cases i;exact Fn ⟨E,B,m⟩
def U3(Q:Bool->Hp->Prop):VK:=λx H=>match x with
 |.non=>Q false H
 |.bl k=>Q k H
 |.int i=>Q (i != 0) H
 |.str y=>y.length<=sizeLine/\Q ((y.length:Int) != 0) H
 |.ref p=>(match Z4 H p with
  |some a=>Q (!a.isEmpty) H
  |none=>(match H p with|some (.dK kvs)=>Q (!kvs.isEmpty) H|_=>False))
 |_=>False
def DA{Q:Bool->Hp->Prop}{x:V}(q:U3 Q x H):∃k,PY K x H k/\Q k H:=by
 unfold U3 at q;split at q
 .exact⟨_,rfl,q⟩
 .exact⟨_,rfl,q⟩
 .exact⟨_,rfl,q⟩
 .exact⟨_,⟨q.1,rfl⟩,q.2⟩
 .split at q
  .exact⟨_,.inl ⟨_,bC (by (assumption)),rfl⟩,q⟩
  .split at q
   .exact⟨_,.inr (.inr ⟨_,by assumption,rfl⟩),q⟩
   simp_all
 .exact q.elim
def P4(t:TE):TT:=λU H Q=>t U H (U3 Q)
def fK(i:PE X a ta)(g:∀b,isTrue a X.env b=(do let v <-b;standAt a.pos;holding [v] (truthy v)):=by intro _;rfl):PT X a (P4 ta):=by
 intro c s U H Q I h;refine isTrue_plain (ZX (i c s U H _ I h) λv d ⟨x,k,j,e,f⟩=>F8 c d U k x v Q j e (DA f)) (g _)
variable {rest:List Expr}
def O8(d b:TE):TE:=λU H Q=>d U H (mB λc a=>if c=true then b U a Q else Q (.bl false) a)
def qY(l:PE X a ta)(k:PE X (.BoolOp .And (b::rest) pos) tb):PE X (.BoolOp .And (a::b::rest) pos) (O8 ta tb):=by
 intro e s U H Q I h;refine BoolOp_and (ZX (l e s U H _ I h) λv i μ=>?_);obtain⟨x,g,f,j,d⟩:=μ;obtain⟨c,rfl,d⟩:=QF d;cases j;refine Fn ?_;cases c with
 |true=>exact k e i U g Q f d
 |false=>exact⟨.bl false,g,f,rfl,d⟩
def WS:R2:=λx y H Q=>match x,y with
 |.str z,.int i=>z.length<=sizeLine/\(match YV z.cps.toList i with|some c=>Q (.str ⟨#[c]⟩) H|none=>False)
 |.ref p,.int i=>(match Z4 H p with
  |some a=>(match YV a i with|some v=>Q v H|none=>False)
  |none=>(match nT H p with
   |some a=>(match YV a i with|some v=>Q v H|none=>False)
   |none=>False))
 |_,_=>False
def BO{x:V}(q:WS x y H Q):Qj K x y H Q:=by
 unfold WS at q;split at q
 .obtain⟨a,q⟩:=q;split at q
  .exact .inr (.inr ⟨_,_,_,rfl,rfl,a,by assumption,q⟩)
  .exact q.elim
 .split at q
  .split at q
   .exact .inl ⟨_,_,_,_,rfl,rfl,bC (by (assumption)),by assumption,q⟩
   .exact q.elim
  .split at q
   .split at q
    .exact .inr (.inl ⟨_,_,_,_,rfl,rfl,Ya.of (uF (by assumption)),by assumption,q⟩)
    simp_all
   .exact q.elim
 .exact q.elim
def bZ:Xp X WS:=Wn.imp λ_ _ _ _ q=>BO q
def T_:V->Option Int->Option Int->Hp->VK->Prop:=λx a b H Q=>match x with
 |.str z=>z.length<=sizeLine/\Q (.str (Txt.slice z a b)) H
 |.ref p=>(match Z4 H p with|some c=>∀r,H r=none->Q (.ref r) (upd H r (.lst (kB c a b)))|none=>False)
 |_=>False
def Vz:WY X T_:=(Yk.or E4).imp λ_ _ _ _ _ q=>by
 unfold T_ at q;split at q
 .exact .inr ⟨_,rfl,q.1,q.2⟩
 .split at q
  .exact .inl ⟨_,_,rfl,bC (by (assumption)),q⟩
  simp_all
 .exact q.elim
def Uq(Q:Option Int->Hp->Prop):VK:=λx a=>match x with|.int i=>Q (some i) a|_=>False
def N8(t:TE):TO:=λU H Q=>t U H (Uq Q)
def fH(h:PE X e te):PO X (some e) (N8 te):=by
 intro b s U H Q I d;refine ZX (h b s U H _ I d) λu i μ=>?_;obtain⟨x,g,f,c,a⟩:=μ;unfold Uq at a;split at a
 .obtain⟨t,rfl⟩:=c;exact⟨_,g,f,.int _ t,a⟩
 simp_all
def bR:List V->Hp->VK->Prop:=λa H Q=>match a with
 |[.str z]=>z.length<=sizeLine/\Q (.int z.length) H
 |[.ref p]=>(match Z4 H p with
  |some a=>Q (.int a.length) H
  |none=>(match nT H p with|some a=>Q (.int a.length) H|none=>False))
 |_=>False
def cN:ZU X (.builtin "len") bR:=W8.imp λ_ _ _ q=>by
 unfold bR at q;split at q
 .exact⟨_,_,rfl,⟨q.1,rfl⟩,q.2⟩
 .split at q
  .exact⟨_,_,rfl,.inl ⟨_,bC (by assumption),rfl⟩,q⟩
  .split at q
   .exact⟨_,_,rfl,.inr ⟨_,Ya.of (uF (by (assumption))),rfl⟩,q⟩
   simp_all
 .exact q.elim
def AY:List V->Hp->VK->Prop:=λa H Q=>match a with|[.int i,.int j]=>Q (.int (if j<i then j else i)) H|_=>False
def Uj:List V->Hp->VK->Prop:=λa H Q=>match a with
 |[.int i]=>Q (.int i) H
 |[.str x]=>(match PySem.intText? x with|some n=>x.length<=640/\Q (.int n) H|none=>False)
 |_=>False
def T3:ZU X (.type "int") Uj:=(Xr.or yQ).imp λ_ _ _ q=>by
 unfold Uj at q;split at q
 .exact .inl (.inl ⟨_,rfl,q⟩)
 .split at q
  .exact .inr ⟨_,_,rfl,by assumption,q.1,q.2⟩
  simp_all
 .exact q.elim
def Uo:List V->Hp->VK->Prop:=λb H Q=>match b with
 |[.ref p]=>(match Z4 H p with
  |some a=>∀l,H l=none->Q (.ref l) (upd H l (.lst a))
  |none=>(match nT H p with|some a=>∀l,H l=none->Q (.ref l) (upd H l (.lst a))|none=>False))
 |_=>False
def jB:ZU X (.type "list") Uo:=Yq.imp λ_ _ _ q=>by
 unfold Uo at q;split at q
 .split at q
  .exact⟨_,_,rfl,.inl (bC (by (assumption))),q⟩
  .split at q
   .exact⟨_,_,rfl,.inr (Ya.of (uF (by assumption))),q⟩
   simp_all
 .exact q.elim
def We(T:String)(x:V)(H:Hp)(P:Prop):Prop:=match x with
 |.str _=>T="str"/\P
 |.ref p=>(match Z4 H p with|some _=>T="list"/\P|none=>False)
 |_=>False
def E9{K:W.Frag}{x:V}{P:Prop}(q:We T x H P):Pe K T x H/\P:=by
 unfold We at q;split at q
 .exact⟨q.1,q.2⟩
 .split at q
  .exact⟨.inl ⟨q.1,_,bC (by (assumption))⟩,q.2⟩
  simp_all
 .exact q.elim
def QD(T:String)(r:V->List V->Hp->VK->Prop)(c:TE)(t:TA):TE:=λU H Q=>c U H λx a=>We T x a (t U a λb d=>r x b d Q)
variable {o:Expr} {t:TA} {id:String}
def cI(B:PlainAttrs T)(d:Slot T name id)(i:typeOf (.builtin id)=pure (.type "method_descriptor"))(D:Yv X id r)(C:PE X o to)(E:PA X (e::es) t)(c:attributeBase o name X.env (eval o X.env)=eval o X.env:=by rfl)(f:((backTo cpos (starEach (e::es) X.env)).all (λx=>!x.1)&&(backToKw cpos (keywordEach [] X.env)).all (λx=>x.1.isSome)
 && decide ((e::es).length+([]:List Keyword).length+(if ([]:List Keyword).isEmpty then 0 else 1)<30))=true:=by rfl)(b:(apos.endLine==cpos.line)=true:=by rfl)(hs:starEach (e::es) X.env=(false,eval e X.env)::starEach es X.env:=by rfl)(a:(backTo cpos (starEach es X.env)).any (·.1)=false:=by rfl):PE X (.Call (.Attribute o name apos) (e::es) [] cpos) (QD T r to t):=by
 intro g s U H Q I h;refine Hn c f b rfl (ZX (C g s U H _ I h) λv w μ=>?_);obtain⟨x,M,l,j,q⟩:=μ;obtain⟨p,A⟩:=E9 (K:=X.K) q;obtain⟨G,F⟩:=HJ l j p;refine⟨T,id,B,d,i,G,F,?_⟩;have k:=E cpos g w U M _ l A
 rw[hs]at k ⊢;refine Ho (by show (false || (backTo cpos (starEach es X.env)).any (·.1))=false;rw[a]<;>rfl) (Gv ?_)
 exact ZX k λn u ⟨m,L,J,y,z⟩=>D g u U L x m v n Q J j y z
def UR:V->List V->Hp->VK->Prop:=λx b H Q=>match x,b with
 |.ref l,[y]=>(match jS H l with|some a=>a.length<sizeLine/\Q .non (upd H l (.lst (a++[y])))|none=>False)
 |_,_=>False
def wR:Yv X "list.append" UR:=Yv.imp  zF λ_ _ _ _ q=>by
 unfold UR at q;split at q
 .split at q
  .exact⟨_,_,_,rfl,rfl,mX (by (assumption)),q.1,q.2⟩
  simp_all
 .exact q.elim
def T5:V->List V->Hp->VK->Prop:=λx a H Q=>match x,a with
 |.str z,[.str y]=>(match Builtin.Str.occurrences z y 0 z.length 1 with|i::_=>Q (.int ((i:Nat):Int)) H|[]=>False)
 |_,_=>False
def Kd:Yv X "str.index" T5:=W5.imp λ_ _ _ _ q=>by
 unfold T5 at q;split at q
 .split at q
  .exact⟨_,_,_,_,rfl,rfl,by assumption,q⟩
  simp_all
 .exact q.elim
noncomputable def pK:List V->Option (List Str)
 |[]=>some []
 |.str z::r=>(pK r).map (z::·)
 |_=>none
def IH(ys:List Str):pK (ys.map V.str)=some ys:=by
 induction ys with
 |nil=>rfl
 |cons y r a=>rw[Au,pK,a];rfl
def Qy:∀ {b:List V} {a:List Str},pK b=some a->b=a.map V.str
 |[],_,h=>by cases h;rfl
 |.str z::r,_,h=>by
  rw[pK]at h;cases e:pK r with
  |none=>rw[e]at h;cases h
  |some l=>rw[e]at h;cases h;rw[Qy e];rfl
def Ut:V->List V->Hp->VK->Prop:=λx c H Q=>match x,c with
 |.str z,[.ref p]=>(match Z4 H p with
  |some b=>(match pK b with|some a=>(a.map (·.length)).sum+a.length*z.length<=16777216/\Q (.str (Txt.join z a)) H|none=>False)
  |none=>False)
 |_,_=>False
def Ks:Yv X "str.join" Ut:=WN.imp λ_ _ _ _ q=>by
 unfold Ut at q;split at q
 .split at q
  .split at q
   .have e:=Qy (by assumption)
    subst e;exact⟨_,_,_,rfl,rfl,bC (by (assumption)),q.1,q.2⟩
   .exact q.elim
  simp_all
 .exact q.elim
noncomputable def oX:List V->Option (List Bool)
 |[]=>some []
 |.bl z::r=>(oX r).map (z::·)
 |_=>none
def G5(ys:List Bool):oX (ys.map V.bl)=some ys:=by
 induction ys with
 |nil=>rfl
 |cons y r a=>rw[Au,oX,a];rfl
def OL:∀ {b:List V} {a:List Bool},oX b=some a->b=a.map V.bl
 |[],_,h=>by cases h;rfl
 |.bl z::r,_,h=>by
  rw[oX]at h;cases e:oX r with
  |none=>rw[e]at h;cases h
  |some l=>rw[e]at h;cases h;rw[OL e];rfl
def Um:List V->Hp->VK->Prop:=λb H Q=>match b with
 |[.ref p]=>(match Z4 H p with
  |some a=>(match oX a with|some c=>Q (.bl (c.all _root_.id)) H|none=>False)
  |none=>False)
 |_=>False
def Uu(a:X.calm=true):ZU X (.builtin "all") Um:=(yF a).imp λ_ _ _ q=>by
 unfold Um at q;split at q
 .split at q
  .split at q
   .have e:=OL (by assumption)
    subst e;exact⟨_,_,rfl,bC (by (assumption)),q⟩
   .exact q.elim
  simp_all
 .exact q.elim
noncomputable def VE(x:V)(H:Hp):Option String:=match x with
 |.non=>some "NoneType"
 |.bl _=>some "bool"
 |.int _=>some "int"
 |.str _=>some "str"
 |.ref p=>(match H p with
  |some (.lst _)=>some "list"
  |some (.frz _ (.lst _))=>some "list"
  |some (.tup _)=>some "tuple"
  |some (.dK _)=>some "dict"
  |_=>none)
 |_=>none
def DC{x:V}{t:String}(h:VE x H=some t):Y6 K H x (.type t):=by
 unfold VE at h;split at h
 .cases h;exact .non
 .cases h;exact .bl _
 .cases h;exact .int _
 .cases h;exact .str _
 .split at h
  .cases h;exact .lst (by (assumption))
  .cases h;exact .frz (by assumption)
  .cases h;exact .tup (by assumption)
  .cases h;exact .dK (by assumption)
  .cases h
 .cases h
noncomputable def QU(t T:String):Bool:=decide (t=T) || (decide (t="bool")&&decide (T="int"))
noncomputable def R4(t T:String):Bool:=["NoneType", "bool", "int", "str", "list", "tuple", "dict"].contains t && ["bool", "int", "str", "list", "tuple", "dict"].contains T
noncomputable def VS(t T:String):Option Bool:=bif R4 t T then some (QU t T) else none
def Im:∀t∈["NoneType", "bool", "int", "str", "list", "tuple", "dict"],∀T∈["bool", "int", "str", "list", "tuple", "dict"],W.kitOne K (.type t) (.type T)=some (QU t T):=by
 simp;refine⟨⟨rfl,rfl,rfl,rfl,rfl,rfl⟩,⟨rfl,rfl,rfl,rfl,rfl,rfl⟩,⟨rfl,rfl,rfl,rfl,rfl,rfl⟩,⟨rfl,rfl,rfl,rfl,rfl,rfl⟩,⟨rfl,rfl,rfl,rfl,rfl,rfl⟩,⟨rfl,rfl,rfl,rfl,rfl,rfl⟩,⟨rfl,rfl,rfl,rfl,rfl,rfl⟩⟩
def IX{t:String}{b:Bool}(h:VS t T=some b):W.kitOne K (.type t) (.type T)=some b:=by
 unfold VS at h;cases a:R4 t T with
 |false=>rw[a]at h;cases h
 |true=>
  rw[a]at h;cases h;unfold R4 at a;rw[Em]at a;exact Im t (List.contains_iff_mem.mp a.1) T (List.contains_iff_mem.mp a.2)
def UH:List V->Hp->VK->Prop:=λa H Q=>match a with
 |[x,.ty T]=>(match VE x H with
  |some t=>(match VS t T with|some b=>Q (.bl b) H|none=>False)
  |none=>False)
 |_=>False
def Kv:ZU X (.builtin "isinstance") UH:=Yd.imp λ_ _ _ q=>by
 unfold UH at q;split at q
 .split at q
  .split at q
   .exact⟨_,_,_,_,rfl,DC (by (assumption)),IX (by assumption),q⟩
   .exact q.elim
  simp_all
 .exact q.elim
end
def UY(R:Str->Hp->Prop):VK:=λx H=>match x with|.str z=>R z H|_=>False
def Mi{R:Str->Hp->Prop}{x:V}(q:UY R x H):∃z,x=.str z/\R z H:=by
 unfold UY at q;split at q
 .exact⟨_,rfl,q⟩
 simp_all
def Yn(o:Option (List V))(P:Prop):Prop:=match o with|some _=>P|none=>False
def iQ(R:Addr->Hp->Prop):VK:=λx H=>match x with|.ref a=>R a H|_=>False
def C0{R:Addr->Hp->Prop}{x:V}(q:iQ R x H):∃a,x=.ref a/\R a H:=by
 unfold iQ at q;split at q
 .exact⟨_,rfl,q⟩
 simp_all
section
variable {a b:Expr} {ta tb:TE} {p:Pos}
def Oy(a:TE):TI:=λU H R=>a U H (UY λz b=>R (WW z) b)
def lV(m:PE X l tl):PI X tg l (Oy tl):=by
 intro f s U H R I h;refine ZX (m f s U H _ I h) λv a μ=>?_;obtain⟨x,d,c,j,k⟩:=μ;obtain⟨z,rfl,q⟩:=Mi k;obtain⟨t,rfl⟩:=j;have i:∀b∈[a.heap.objs.size],nQ X f d b:=λb n=>by
  have e:b=a.heap.objs.size:=by simp_all
  subst e;exact c.YC (Ah _) (c.Z3.fresh (Ah _))
 cases g:z.cps.all (· < 128)
 .refine wpAny_pyIter_wide g ?_;exact⟨a.heap.objs.size,[a.heap.objs.size],_,_,d,rfl,c.kept (t':=a.toks) λb o e=>Ai _ e,MZ z t _,⟨_,Ay _ rfl,rfl,rfl⟩,i,q⟩
 .refine wpAny_pyIter_ascii g ?_;exact⟨a.heap.objs.size,[a.heap.objs.size],_,_,d,rfl,c.kept (t':=a.toks) λb o e=>Ai _ e,LU z t _,⟨_,Ay _ rfl,rfl,rfl⟩,i,q⟩
def RD(K:W.Frag)(c:TE):TI:=λU H R=>c U H (iQ λa b=>Yn (Z4 b a) (R (Xa K a) b))
def bT(k:PE X l tl):PI X tg l (RD X.K tl):=by
 intro f s U H R I h;refine ZX (k f s U H _ I h) λv c μ=>?_;obtain⟨x,n,d,g,i⟩:=μ;obtain⟨a,rfl,q⟩:=C0 i;cases g;unfold Yn at q;split at q
 .rename_i r e
  obtain⟨j,u,p,w⟩:=d.list (bC e);refine Et p.isList ?_;refine⟨c.heap.objs.size,[c.heap.objs.size],_,_,n,rfl,d.kept (t':=c.toks) λb o e=>Ai _ e,Md a _,⟨_,Ay _ rfl,rfl,rfl⟩,λb m=>?_,q⟩;have e:b=c.heap.objs.size:=by simp_all
  subst e;exact d.YC (Ah _) (d.Z3.fresh (Ah _))
 .exact q.elim
def xL(R:Int->Hp->Prop):List V->Hp->Prop:=λa H=>match a with|[.int j]=>R j H|_=>False
def uG{R:Int->Hp->Prop}(q:xL R vs H):∃j,vs=[.int j]/\R j H:=by
 unfold xL at q;split at q
 .exact⟨_,rfl,q⟩
 simp_all
def Vv(R:Int->Int->Hp->Prop):List V->Hp->Prop:=λa H=>match a with|[.int i,.int j]=>R i j H|_=>False
def F0{R:Int->Int->Hp->Prop}(q:Vv R vs H):∃i j,vs=[.int i,.int j]/\R i j H:=by
 unfold Vv at q;split at q
 .exact⟨_,_,rfl,q⟩
 simp_all
def RB(a:TA):TI:=λU H R=>a U H (xL λj b=>(-(2^62)<=j/\j<2^62)/\R (Xk 0 j.toNat) b)
def Ot(a:TA):TI:=λU H R=>a U H (Vv λi j b=>(-(2^62)<=i/\i<2^62/\-(2^62)<=j/\j<2^62)/\R (Xk i (j-i).toNat) b)
def nF{b:TA}(k:Gl X "range")(i:X.mg "range"=none)(l:PA X [a] b)(hs:starEach [a] X.env=[(false,eval a X.env)]:=by rfl):PI X tg (.Call (.Name "range" p) [a] [] pos) (RB b):=by
 intro c s U H R I h;refine Call_ (iJ I k i boot_range (Dq (ZX (l pos c s U H _ I h) λv w μ=>?_) hs rfl));obtain⟨u,x,o,f,g⟩:=μ;obtain⟨j,e,⟨n,m⟩,q⟩:=uG g;subst e;cases f with
 |cons r d=>
  cases d;obtain⟨t,rfl⟩:=r;exact call_range_1 (Of o (by (exact Int.natCast_nonneg _)) (by (exact Int.natCast_nonneg _)) n m (by simp_all))
def Jc{f:TA}(o:Gl X "range")(n:X.mg "range"=none)(u:PA X [a,b] f)(hs:starEach [a,b] X.env=[(false,eval a X.env),(false,eval b X.env)]:=by rfl)(c:starEach [b] X.env=[(false,eval b X.env)]:=by rfl):PI X tg (.Call (.Name "range" p) [a,b] [] pos) (Ot f):=by
 intro g s U H R I h;refine Call_ (iJ I o n boot_range (Dq (ZX (u pos g s U H _ I h) λB D μ=>?_) (by rw[hs,c]) (by rw[c];rfl)));obtain⟨A,E,z,k,m⟩:=μ
 obtain⟨i,j,e,⟨y,x,w,v⟩,q⟩:=F0 m;subst e;cases k with
 |cons r d=>
  cases d with
  |cons l d=>
   cases d;obtain⟨t,rfl⟩:=r;obtain⟨C,rfl⟩:=l;exact call_range_2 (Of z y x w v q)
def Wz(J:It)(g:TG)(d:TS)(D:Ends)(U:St)(h:Hp):Prop:=∃W:Nat->Nat->St->Hp->Prop,(∃m,W 0 m U h)/\∀i m U H,W i m U H->
 (J.stop i H/\D.nx U H)\/(J.go i H/\∃N,(∀c a,N c a->∃b,b < m/\W (i+1) b c a)/\∀x a,J.WJ i H x a->g x U a λe f=>d {D with nx:=N,ct:=N,bk:=D.nx} e f)
def RC(wi:TI)(g:TG)(a:TS):TS:=λD U H=>wi U H λJ b=>Wz J g a D U b
def cV{a:TS}(b:PassesOwn (model X.prog X.w) X.A X.env X.xe)(e:X.calm=true)(c:PI X tg iter wi)(d:PG X tg g)(f:Yt X body a)(hs:∀x,foldedSetIterable iter X.env x=pure x:=by intro _;rfl):PS X (.For tg iter body [] pos) (RC wi g a):=Jr  b e c d f hs
section
variable {tb:TS} {U:St}
def fX(a:Nat->St->Hp->Prop)(f:a 0 U H)(b:∀i U H,i<=xs.length->a i U H->Z4 H c=some xs)(hs:∀i x U H,xs[i]?=some x->a i U H->g x U H λh j=>tb {D with nx:=a (i+1),ct:=a (i+1),bk:=D.nx} h j)(e:∀U H,a xs.length U H->D.nx U H):Wz (Xa K c) g tb D U H:=
 J0 a f (λi U H d p=>bC (b i U H d p)) hs e
def R6(a:Nat->St->Hp->Prop)(d:a 0 U H)(hs:∀i c U H,z.cps.toList[i]?=some c->a i U H->g (.str ⟨#[c]⟩) U H λe f=>tb {D with nx:=a (i+1),ct:=a (i+1),bk:=D.nx} e f)(b:∀U H,a z.cps.toList.length U H->D.nx U H):Wz (WW z) g tb D U H:=
 Kc a d hs b
def vQ(a:Nat->St->Hp->Prop)(c:a 0 U H)(hs:∀i U H,i<n->a i U H->g (.int (lo+i)) U H λd e=>tb {D with nx:=a (i+1),ct:=a (i+1),bk:=D.nx} d e)(b:∀U H,a n U H->D.nx U H):Wz (Xk lo n) g tb D U H:=
 Lv a c hs b
end
def Jb(d:Gl X x)(c:X.mg x=none)(a:bootBuiltins x=some (.type T))(b:x≠"__name__" := by decide)(e:(x==("__debug__" : Str))=false:=by decide):PE X (.Name x pos) (tC (.ty T)):=CG d c a rfl b e
end
section
variable {U:St} {QB:Bool->Hp->Prop} {QA:List V->Hp->Prop} {QO:Option Int->Hp->Prop} {t u:TS} {ta tb:TE} {tt tu:TT} {tA:TA} {r:R2} {x:V} {i j:Int} {z':Str} {p:Addr} {k:Nat}
def mF(h:t {D with nx:=u D} U H):Sk t u D U H:=h
def Ju(h:D.nx U H):NU D U H:=h
def NA{c:TT}(h:c U H λb a=>if b=true then t D U a else u D U a):Pw c t u D U H:=h
def Lw(h:te U H D.rt):NV te D U H:=h
def EI(h:te U H λ_ a=>D.nx U a):O3 te D U H:=h
def FL(h:te U H λx a=>g x U a D.nx):Vg te g D U H:=h
def Lu{a:TS}(h:wi U H λJ b=>Wz J g a D U b):RC wi g a D U H:=h
def SG{a:St->Hp->Prop}(h:a (U.set k (some v)) H):lG k v U H a:=h
def BE{c:St->Hp->Prop}{b:TE}{a:UI}(h:to U H λo f=>b U f λi e=>a o i v e λd=>c U d):Pb to b a v U H c:=h
def C4(e:U[k]?=some (some v))(h:Q v H):VG k U H Q:=by unfold VG;rwa[e]
def FH(h:Q v H):tC v U H Q:=h
def BI(h:ta U H λx b=>tb U b λy a=>r x y a Q):VQ r ta tb U H Q:=h
def LG{a:V->Hp->VK->Prop}(h:ta U H λx b=>a x b Q):RH a ta U H Q:=h
def HN(h:QA [] H):wF U H QA:=h
def Js{a:TA}(h:ta U H λx d=>a U d λb c=>QA (x::b) c):VV ta a U H QA:=h
def MP(h:tA U H λa b=>a.length<=sizeLine/\∀p,b p=none->Q (.ref p) (upd b p (.lst a))):Qh tA U H Q:=h
def M9(h:tA U H λa b=>a.length<=sizeLine/\∀p,b p=none->Q (.ref p) (upd b p (.tup a))):Rq tA U H Q:=h
def K5{E:XK}(h:tA U H λa b=>sp (a++[]) b Q E):Ue sp [] E tA U H Q:=h
def MD{a:List V->Hp->VK->Prop}(h:tA U H λb c=>a b c Q):UC a tA U H Q:=h
def MC{c:V->Option Int->Option Int->Hp->VK->Prop}{a b:TO}(h:te U H λx f=>a U f λl e=>b U e λu d=>c x l u d Q):P2 c te a b U H Q:=h
def Ka(h:QO none H):RI U H QO:=h
def L_(h:te U H (Uq QO)):N8 te U H QO:=h
def HD(h:QO (some i) H):Uq QO (.int i) H:=h
def EG{a:V->List V->Hp->VK->Prop}(h:to U H λx b=>We T x b (tA U b λc d=>a x c d Q)):QD T a to tA U H Q:=h
def Ji{P:Prop}(h:P):We "str" (.str z) H P:=⟨rfl,h⟩
def MF{P:Prop}(e:Z4 H p=some xs)(h:P):We "list" (.ref p) H P:=by unfold We;simp only[e];exact⟨trivial,h⟩
def LK(h:te U H (mB QB)):PM te U H QB:=h
def C5(h:te U H (U3 QB)):P4 te U H QB:=h
def BU{b:Bool}(h:QB b H):mB QB (.bl b) H:=h
def G2{b:Bool}(h:QB b H):U3 QB (.bl b) H:=h
def BL(h:tt U H λc a=>if c=true then tu U a QB else QB false a):Ql tt tu U H QB:=h
def KQ(h:tt U H λc a=>if c=true then QB true a else tu U a QB):Qt tt tu U H QB:=h
def HS(h:tt U H λc a=>QB (!c) a):Ol tt U H QB:=h
def ED(h:ta U H (mB λc a=>if c=true then tb U a Q else Q (.bl false) a)):O8 ta tb U H Q:=h
def JM(h:tt U H λc a=>if c=true then ta U a Q else tb U a Q):PQ tt ta tb U H Q:=h
def DQ{g:Int->Int->V}(h:Q (g i j) H):mI g (.int i) (.int j) H Q:=h
def FK{C:Int->Int->Prop}{g:Int->Int->V}(c:C i j)(h:Q (g i j) H):VT C g (.int i) (.int j) H Q:=⟨c,h⟩
def Ni(h:Q (.int (i+j)) H):VW (.int i) (.int j) H Q:=h
def MG(c:z.length+z'.length<=sizeLine)(h:Q (.str (z++z')) H):VW (.str z) (.str z') H Q:=⟨c,h⟩
def jJ(e:jS H p=some xs)(a:jS H q=some ys)(c:xs.length+ys.length<=sizeLine)(h:∀r,H r=none->Q (.ref r) (upd H r (.lst (xs++ys)))):VW (.ref p) (.ref q) H Q:=by
 unfold VW;simp_all
def Kr(h:Q (.bl (decide (i=j))) H):TU (.int i) (.int j) H Q:=⟨rfl,by
 rwa[show decide _=decide (i=j) by simp]⟩
def Jh(h:Q (.bl (decide (z=z'))) H):TU (.str z) (.str z') H Q:=⟨rfl,by
 rwa[show decide _=decide (z=z') by simp]⟩
def FE(h:Q (.bl (!decide (i=j))) H):Ox (.int i) (.int j) H Q:=⟨rfl,by
 rwa[show decide _=decide (i=j) by simp]⟩
def Ts{neg:Bool}(e:Z4 H p=some xs)(b:Z4 H q=some ys)(f:xs.all bY=true)(a:ys.all bY=true)(h:Q (.bl (if neg then !kS xs ys else kS xs ys)) H):VD neg (.ref p) (.ref q) H Q:=by
 unfold VD;simp only[e,b];exact⟨f,a,h⟩
def FZ(h:Q (.bl (decide (x=.non))) H):RZ x .non H Q:=h
def K9(h:Q (.bl (!decide (x=.non))) H):SQ x .non H Q:=h
def My(h:Q (.bl (if neg then !subIn z z' else subIn z z')) H):SH neg (.str z) (.str z') H Q:=h
def Us{neg:Bool}(e:Z4 H p=some xs)(f:bY x=true)(a:xs.all bY=true)(h:Q (.bl (if neg then !WX x xs else WX x xs)) H):VH neg x (.ref p) H Q:=by
 unfold VH;simp only[e];exact⟨f,a,h⟩
def wI{c:Nat}(l:z.length<=sizeLine)(e:YV z.cps.toList i=some c)(h:Q (.str ⟨#[c]⟩) H):WS (.str z) (.int i) H Q:=by
 unfold WS;simp_all
def dG(e:Z4 H p=some xs)(a:YV xs i=some v)(h:Q v H):WS (.ref p) (.int i) H Q:=by
 unfold WS;simp_all
def EA{a b:Option Int}(e:Z4 H p=some xs)(h:∀r,H r=none->Q (.ref r) (upd H r (.lst (kB xs a b)))):T_ (.ref p) a b H Q:=by
 unfold T_;simp_all
def J9(l:z.length<=sizeLine)(h:Q (.int z.length) H):bR [.str z] H Q:=⟨l,h⟩
def MS(e:Z4 H p=some xs)(h:Q (.int xs.length) H):bR [.ref p] H Q:=by unfold bR;simp only[e];exact h
def Ub(e:PySem.intText? z=some i)(l:z.length<=640)(h:Q (.int i) H):Uj [.str z] H Q:=by unfold Uj;simp only[e];exact⟨l,h⟩
def D8(e:Z4 H p=some xs)(h:∀l,H l=none->Q (.ref l) (upd H l (.lst xs))):Uo [.ref p] H Q:=by unfold Uo;simp only[e];exact h
def Lp(e:jS H p=some xs)(l:xs.length<sizeLine)(h:Q .non (upd H p (.lst (xs++[v])))):UR (.ref p) [v] H Q:=by unfold UR;simp only[e];exact⟨l,h⟩
def GZ{a:List Nat}(e:Builtin.Str.occurrences z z' 0 z.length 1=k::a)(h:Q (.int ((k:Nat):Int)) H):T5 (.str z) [.str z'] H Q:=by unfold T5;simp only[e];exact h
def MO(e:Z4 H p=some (ss.map V.str))(l:(ss.map (·.length)).sum+ss.length*z.length<=16777216)(h:Q (.str (Txt.join z ss)) H):Ut (.str z) [.ref p] H Q:=by
 unfold Ut;simp only[e,IH];exact⟨l,h⟩
def UJ{bs:List Bool}(e:Z4 H p=some (bs.map V.bl))(h:Q (.bl (bs.all id)) H):Um [.ref p] H Q:=by
 unfold Um;simp only[e,G5];exact h
def MR{t:String}{b:Bool}(e:VE x H=some t)(a:VS t T=some b)(h:Q (.bl b) H):UH [x,.ty T] H Q:=by
 unfold UH;simp_all
def B_(h:tl U H (iQ λa b=>Yn (Z4 b a) (R (Xa K a) b))):RD K tl U H R:=h
def NF{R:Addr->Hp->Prop}(h:R p H):iQ R (.ref p) H:=h
def IL{P:Prop}(e:Z4 H p=some xs)(h:P):Yn (Z4 H p) P:=by unfold Yn;simp only[e];exact h
def JS(h:tl U H (UY λz a=>R (WW z) a)):Oy tl U H R:=h
def D6{R:Str->Hp->Prop}(h:R z H):UY R (.str z) H:=h
def Jz(h:tA U H (xL λj a=>(-(2^62)<=j/\j<2^62)/\R (Xk 0 j.toNat) a)):RB tA U H R:=h
def Nk(h:tA U H (Vv λi j a=>(-(2^62)<=i/\i<2^62/\-(2^62)<=j/\j<2^62)/\R (Xk i (j-i).toNat) a)):Ot tA U H R:=h
def Ln{R:Int->Hp->Prop}(h:R i H):xL R [.int i] H:=h
def IB{R:Int->Int->Hp->Prop}(h:R i j H):Vv R [.int i,.int j] H:=h
def Tg{o:V}{a:Hp->Prop}(e:jS H p=some xs)(b:Xj xs.length i=some k)(h:a (upd H p (.lst (xs.set k v)))):NN (.ref p) (.int i) v H a:=⟨_,_,_,_,rfl,rfl,mX e,b,h⟩
end
def JD{xs:List α}{i:Int}(c:0<=i)(b:i<xs.length):∃v,YV xs i=some v/\xs[i.toNat]?=some v:=by
 have a:i.toNat<xs.length:=by omega
 have e:i=((i.toNat:Nat):Int):=by ((try clear a b);omega)
 have q:=aY (Aa a)
 rw[<-e]at q;exact⟨xs[i.toNat],q,Aa a⟩
def R8{i:Int}(b:0<=i)(a:i<n):Xj n i=some i.toNat:=by
 unfold Xj;simp_all
def bK(h:n<=100000):n<=sizeLine:=Bh h (by decide)
def bF(h:n<=100000):n<sizeLine:=Nat.lt_of_le_of_lt h (by decide)
def ZR(P:Program)(w:World)(K:W.Frag)(b:Str->Option Value)(a:Heap)(k:Nat)(x:Str)(ps:List Str)(sp:Sp):Prop:=
 ∃f c,Z8 P w K b a ZS k f c ps sp/\b x=some (.ref f)/\W.keepIn K (.ref f)=true/\Binds K c ps []
section
variable {k:Nat} {ps:List Str} {p:Pos} {t:TA} {i:Int}
def aT(c:ZR X.prog X.w X.K X.mg X.base k x ps sp)(g:Z2 k' X.A)(i:k<=k')(j:Gl X x)(n:PA X (e::es) t)(d:(x==("__debug__" : Str))=false:=by decide)(l:starEach (e::es) X.env=(false,eval e X.env)::starEach es X.env:=by rfl)(a:(backTo pos (starEach es X.env)).any (·.1)=false:=by rfl):PE X (.Call (.Name x p) (e::es) [] pos) (Ue sp [] E0 t):=by
 obtain⟨f,o,F,h,b,m⟩:=c;exact PC F (g.mono i) j h b m .nil Tt n d l a
def eO(a:Gl X x)(h:∃t,X.mg x=some (.str z t))(b:(x==("__debug__" : Str))=false:=by decide):PE X (.Name x pos) (tC (.str z)):=by
 obtain⟨t,h⟩:=h;exact Te a h ⟨t,rfl⟩ b
def pL{z:Int}(a:Gl X x)(h:∃t,X.mg x=some (.int z t))(b:(x==("__debug__" : Str))=false:=by decide):PE X (.Name x pos) (tC (.int z)):=by
 obtain⟨t,h⟩:=h;exact Te a h ⟨t,rfl⟩ b
def Oq{b c:Option Int}(e:Zm K H a xs)(h:∀r,H r=none->Q (.ref r) (upd H r (.lst (kB xs b c)))):P7 K (.ref a) b c H Q:=⟨a,xs,rfl,e,h⟩
def Lg(e:Zm K H a xs)(b:YV xs i=some v)(h:Q v H):SY K (.ref a) (.int i) H Q:=⟨a,xs,i,v,rfl,rfl,e,b,h⟩
end
def bP:bootBuiltins "len"=some (.builtin "len"):=by decide +kernel
def yE:bootBuiltins "isinstance"=some (.builtin "isinstance"):=by decide +kernel
def JJ:bootBuiltins "min"=some (.builtin "min"):=by decide +kernel
def TV:bootBuiltins "all"=some (.builtin "all"):=by decide +kernel
def Tx:bootBuiltins "sum"=some (.builtin "sum"):=by decide +kernel
def Ul:bootBuiltins "int"=some (.type "int"):=by decide +kernel
def dX:bootBuiltins "list"=some (.type "list"):=by decide +kernel
def FA:bootBuiltins "range"=some (.type "range"):=by decide +kernel
def Nm{A B:Prop}(h:B):if (!true)=true then A else B:=h
def IF{A B:Prop}(h:A):if (!false)=true then A else B:=h
def cG{j:Nat}{a:Pos}{b:List Expr}{t:TA}(h:PA X b t):PA X (.Constant (.str x) j a::b) (VV (tC (.str x)) t):=aA fN h rfl
def MB{R:Result->Shared->Prop}{p a:Expr}{C q:Value}(I:Nat->Shared->Prop)(t:∀n s,I n s->wpAny (model prog w) A (pyNext C) (λr e=>match r with
 |none=>R (.ok .next) e
 | some v=>wpAny (model prog w) A (letOwnedTupleGo a C v) (λ_ d=>wpAny (model prog w) A (assign a env v) (λ_ j=>
     wpAny (model prog w) A (forIn ifs true λc r=>if r=true then do let u <-isTrue c env (eval c env);pure (ForInStep.yield u) else pure (ForInStep.yield r)) (λu b=>
      if u=true then wpAny (model prog w) A (eval p env) (λx i=>
       wpAny (model prog w) A (call (.builtin "list.append") [q,x]) (λ_ g=>∃m,m<n/\I m g) (λ_ _=>False) i) (λ_ _=>False) b
      else ∃m,m<n/\I m b) (λ_ _=>False) j) (λ_ _=>False) d) (λ_ _=>False) e) (λ_ _=>False) s)(n:Nat)(h:I n s):codeAny (model prog w) A (.compLoop (.ListComp p [⟨a,iter,ifs,0⟩] scope pos) 0 C q env) R s:=by
 refine codeAny_loop rfl I (λn s D=>?_) n h;show wpAny _ A ((compTurn (.ListComp p [⟨a,iter,ifs,0⟩] scope pos) 0 C q env).onRaise (λx=>do noteFrame x env;theTreesLotGoes x)) _ _ s
 refine wpAny_noted ?_;rw[compTurn_list];refine Ae (Fs (Ae (Cp (t n s D) (λr e l=>?_) λ_ _ f=>f.elim)));cases r with
 |none=>exact As l
 |some v=>
  refine Ae (Cp l (λ_ d o=>?_) λ_ _ f=>f.elim);refine Ae (Cp o (λ_ j B=>Ae (Cp B (λu b k=>?_) λ_ _ f=>f.elim)) λ_ _ f=>f.elim);cases u with
  |false=>exact As ⟨rfl,k⟩
  |true=>
   exact Ae (Ae (Cp k (λx i z=>Ae (Cp z (λ_ g y=>As (As ⟨rfl,y⟩)) λ_ _ f=>f.elim)) λ_ _ f=>f.elim))
noncomputable def X2(X:Cx)(N:List Str)(a:Scope)(b:List (Str×Addr))(C:Addr)(s₀:Shared)(H₀:Hp)(ex:List Addr):Cx:=
 {prog:=X.prog,w:=X.w,K:=X.K,mg:=X.mg,base:=X.base,A:=X.A,N:=N,s₀:=s₀,H₀:=H₀,env:=compEnvC a b C X.env,outer:=X.stack,stack:=X.stack,ex:=ex,fn:=λ_=>false,calm:=X.calm,pn:=[],xe:=λ_ _=>False}
structure Xw (X:Cx) (N:List Str) (scope:Scope) (cl:List (Str×Addr)) (vals:St->St):Prop where
 clos:closureFor scope X.env=pure cl
 sub:∀x c,cl.lookup x=some c->X.env.cells.lookup x=some c
 has:∀x,((relabel scope X.env).names.lookup x=some .cell\/(relabel scope X.env).names.lookup x=some .free)->∃c,cl.lookup x=some c
 len:∀U,(vals U).length=N.length
 val:∀U (i:Nat) x v,N[i]?=some x->(vals U)[i]?=some (some v)->∃(j:Nat),X.N[j]?=some x/\U[j]?=some (some v)/\X.env.scope.names.lookup x=some .cell/\(∃c,cl.lookup x=some c)/\(relabel scope X.env).names.lookup x=some .cell
def PF(X:Cx)(a:List Expr)(t:TT):Prop:=∀b s (U:St) H Q,Inv X b U H s->t U H Q->
 wpAny (model X.prog X.w) X.A (forIn a true λc r=>if r=true then do let d <-isTrue c X.env (eval c X.env);pure (ForInStep.yield d) else pure (ForInStep.yield r)) (TP X b U Q) X.xe s
def Qu:TT:=λ_ H Q=>Q true H
def cY:PF X [] Qu:=λa s U H Q I q=>wpAny_tests_nil ⟨H,I,q⟩
def jN{c:Expr}{t:TT}(h:PT X c t):PF X [c] t:=λa s U H Q I q=>wpAny_tests_one (h a s U H Q I q)
section
variable {U:St} {H2:Hp} {s2:Shared} {vals:St->St}
def Mu{f:Heap}{t1:Nat}(I:Inv X y2 U H2 s2)(d:Xw X N scope cl vals)(g:scope.kind=.function)(n:∀b∈fp,nQ X y2 H2 b)(w:∀b∈fp,b<s2.heap.objs.size)(t:f.Ns s2.heap.objs.size λ_=>none)(q:Heap.SameBut s2.heap.objs.size (s2.heap.push {cls:=.type "dict",data:=.dict #[]}) f):Inv (X2 X N scope cl s2.heap.objs.size s2 H2 fp) [] (vals U) H2 {s2 with heap:=f,toks:=t1}:=by
 have a:∀b o,s2.heap.get? b=some o->f.get? b=some o:=λb o e=>(q.2 b (Bl (Ax e))).trans (Ai _ e)
 have K:=I.Z3.fresh (Ah _)
 refine⟨⟨I.ok.mod,g,I.ok.glob,I.ok.blt,Ah _,λx y c f B=>I.ok.inj x y c (d.sub x c f) (d.sub y c B),d.has,(λx c h=>nomatch h),I.ok.hd,I.ok.frames,.inl rfl,λb k=>⟨Bl (w b k),λx c e=>(n b k).2.2.2.2.1 x c (d.sub x c e)⟩,
  I.bs,Nat.le_trans I.ok.XN I.sz,λb o e k=>?_,λb k G=>?_,I.stack,I.Y4⟩,rfl,I.bare,Un.kept a,⟨_,t,λi x v O M _=>?_⟩,λx c e=>?_,K,λx c e=>I.ZN x c (d.sub x c e),λp H=>absurd (show p∈([]:Q2) from H) (by simp),I.Z3.kept a,d.len U⟩
 .rcases (n b k).2.2.2.1 with z|z
  .exact I.ok.X1 b o e z
  .exact absurd (Bc (Ax e) (Bh I.ok.XN z)) (Dc _)
 .rcases Bb.mp (I.Yi b G) with z|z
  .exact(n b k).2.1 z
  .exact(n b k).2.2.1 z
 .obtain⟨j,f,B,E,⟨c,D⟩,L⟩:=d.val U i x v O M;obtain⟨m,P,J⟩:=I.loc;obtain⟨u,r,l⟩:=J j x v f B (.inr (.inl E));refine⟨u,r,.inr ⟨.inl L,c,D,?_⟩⟩;rcases l with⟨z,_⟩|⟨_,Q,F,z⟩
  .have C:X.env.scope.names.lookup x=some .local:=z
   rw[E]at C;cases C
  .rw[d.sub x c D]at F;cases F;obtain⟨o,s,A⟩:=z;exact⟨o,a _ o s,A⟩
 .obtain⟨v,o,s,A⟩:=I.cell x c (d.sub x c e);exact⟨v,o,a _ o s,A⟩
def G0{A:St}{s':Shared}{a:Heap}{d:Q2}(I:Inv X y2 U H2 s2)(t:∀b∈fp,nQ X y2 H2 b)(g:Inv (X2 X N scope cl s2.heap.objs.size s2 H2 fp) d A H' s')(i:Heap.SameBut s2.heap.objs.size s'.heap a):Inv X y2 U H' {s' with heap:=a}:=by
 have r:Un (YW X.stack) (s2.heap.objs.size::fp) H2 H' s2.heap s'.heap:=g.base.mono (λ_ z=>z) λb z=>Al _ z
 have y:H' s2.heap.objs.size=none:=g.free
 have k:∀b o,b≠s2.heap.objs.size->s'.heap.get? b=some o->a.get? b=some o:=λb o l e=>(i.2 b l).trans e
 have p:Un (YW X.stack) (s2.heap.objs.size::fp) H' H' s'.heap a:=⟨λb o e _ _ f=>k b o (λz=>f (by simp[z])) e,λb o e _ _ f=>⟨o.slots,k b o (λz=>f (by simp[z])) e⟩,λ_ _ _ n _=>n,
  λb o e f=>⟨o,k b o (λz=>f (by simp[z])) e⟩,λ_ _ e=>e,λ_ _ _ e=>e,λb B e=>⟨#[],by rw[e];simp⟩⟩
 have j:=λb u e=>by
  have m:∀c v,H' c=some v->c≠s2.heap.objs.size:=λc v e z=>by rw[z,y]at e;cases e
  refine(g.Z3 b u e).ZD (λc v x q=>k c v ?_ q) (λ_ q=>q) λ_ _ q=>q;grind
 refine I.Wr (s':={s' with heap:=a}) (ch:=s2.heap.objs.size::fp) g.os (r.trans p) j g.bare λb l=>?_
 have q:nQ X y2 H2 b:=by
  rcases Bb.mp l with z|z
  .subst z;exact I.YC (Ah _) (I.Z3.fresh (Ah _))
  .exact t b z
 exact⟨q.2.2.2.1,q.2.1,q.2.2.2.2.1,q.2.2.2.2.2⟩
end
def Wk(a U:St):Prop:=a.length=U.length/\∀(i:Nat) v,a[i]?=some (some v)->U[i]?=some (some v)
def Wk.refl(U:St):Wk U U:=⟨rfl,λ_ _ h=>h⟩
def Wk.set{a U:St}{k:Nat}(h:a[k]?=some none)(w:Wk a U):Wk a (U.set k (some v)):=by
 refine⟨by rw[Cw];exact w.1,λi u e=>?_⟩
 have b:k≠i:=λz=>by grind
 rw[Ec b];exact w.2 i u e
def eF(g:TG)(a:TT)(o:TE)(h:St)(Q:VK)(J:It)(l:Hp):Prop:=∀D,l D=none->∃W:Nat->Nat->Hp->Prop,(∃m,W 0 m (upd l D (.lst [])))/\∀i m d,W i m d->
 (J.stop i d/\Q (.ref D) d)\/(J.go i d/\∀x n,J.WJ i d x n->g x h n λf p=>Wk h f/\a f p λb k=>if b=true then
  o f k λy j=>∃e,j D=some (.lst e)/\e.length<sizeLine/\∃c,c < m/\W (i+1) c (upd j D (.lst (e++[y]))) else ∃c,c < m/\W (i+1) c k)
def Sm(wi:TI)(g:TG)(a:TT)(c:TE)(b:St->St):TE:=λU H Q=>wi U H λJ d=>eF g a c (b U) Q J d
def Rf{U:St}{M:Hp}{a:Shared}{f:St->St}{tn:Nat->Heap->Prop}{J:It}{a5:Expr}{RR:Value->Addr->Result->Shared->Prop}(I2:Inv X y2 U M a)(T:Turn X.prog X.w X.K tg J fp it tn)(b4:tn 0 a.heap)(f2:∀b∈fp,nQ X y2 M b)(hc:X.calm=true)(ck:Xw X N scope cl f)(a2:∀y∈scope.names,y.2≠.cell)(O:scope.kind=.function)(hg:∀C B F ex,PG (X2 X N scope cl C B F ex) tg g)(ht:∀C B F ex,PF (X2 X N scope cl C B F ex) ifs tests)(he:∀C B F ex,PE (X2 X N scope cl C B F ex) a5 te)(h:eF g tests te (f U) Q J M)(c7:∀D C L k m,L.heap.Ns C m->Q (.ref D) k->(∀a3,Heap.SameBut C L.heap a3->Inv X y2 U k {L with heap:=a3})->nQ X y2 k C->RR (.ref D) C (.ok .next) L):wpAny (model X.prog X.w) X.A (newList []) (λb6 a8=>wpAny (model X.prog X.w) X.A (newFunctionEnv scope X.env.globals cl [] X.env.qual none .none (some X.env)) (λY z=>
 codeAny (model X.prog X.w) X.A (.compStart (.ListComp a5 [⟨tg,iter,ifs,0⟩] scope pos) 0 (.ref it) b6 {Y with scope:=relabel scope X.env}) (RR b6 Y.locals) z) E a8) E a:=by
 have hD:=I2.Z3.fresh (Ah _)
 obtain⟨W,⟨m0,w0⟩,a7⟩:=h _ hD;have c6:∀b∈fp,b<a.heap.objs.size:=λb l=>by
  obtain⟨o,e,_⟩:=T.obj 0 _ b4 b l;exact Ax e
 refine Hq ?_
 -- the list is laid
 have I3:=
  I2.WC (ys:=[]) (its:=[]) (t':=a.toks) .nil (Da _)
 have f3:∀b∈fp,nQ X y2 (upd M a.heap.objs.size (.lst [])) b:=λb l=>⟨by rw[aH (Bl (c6 b l))];exact(f2 b l).1,(f2 b l).2⟩
 have a1:tn 0 (a.heap.push {cls:=.type "list",dict:=none,data:=.seq ([]:List Value).toArray}):=T.keep _ _ _ b4 λb _ o e=>Ai _ e
 generalize c4:({a with heap:=a.heap.push {cls:=.type "list",dict:=none,data:=.seq ([]:List Value).toArray}}:Shared)=j at I3 ⊢
 have e3:j.heap=a.heap.push {cls:=.type "list",dict:=none,data:=.seq ([]:List Value).toArray}:=by rw[<-c4]
 rw[<-e3]at a1;have V:∀b∈fp,b<j.heap.objs.size:=λb l=>by
  obtain⟨o,e,_⟩:=T.obj 0 _ a1 b l;exact Ax e
 refine wpAny_newFunctionEnv a2 (by intro y hy;simp at hy) (λG R I=>?_) O
 have c5:=R
 have I4:=Mu (t1:=j.toks) I3 ck O f3 V c5 I
 have c2:∀b o,j.heap.get? b=some o->G.get? b=some o:=λb o e=>(I.2 b (Bl (Ax e))).trans (Ai _ e)
 have b3:=T.keep _ _ _ a1 λb _ o e=>c2 b o e
 have S:∀ z,z={ j with heap:=G,toks:=j.toks }->
     codeAny (model X.prog X.w) X.A (.compLoop (.ListComp a5 [⟨tg,iter,ifs,0⟩] scope pos) 0 (.ref it) (.ref a.heap.objs.size) (compEnvC scope cl j.heap.objs.size X.env))
      (RR (.ref a.heap.objs.size) j.heap.objs.size) z:=by
  rintro z rfl;have a4:∀ {k:Hp},(∀b∈fp,k b=none)->∀b∈fp,nQ (X2 X N scope cl j.heap.objs.size j (upd M a.heap.objs.size (.lst [])) fp) [] k b:=λhn b l=>
   ⟨hn b l,Nat.ne_of_lt (V b l),λhs=>I4.ok.X5 b l hs,.inl l,λx c e=>(I4.ok.VL b l).2 x c e,λp hp=>absurd (show p∈([]:Q2) from hp) (by simp)⟩
  refine MB (λn L=>∃i k,Inv (X2 X N scope cl j.heap.objs.size j (upd M a.heap.objs.size (.lst [])) fp) [] (f U) k L/\tn i L.heap/\(∀b∈fp,k b=none)/\W i n k) ?_ m0
   ⟨0,_,I4,b3,λb l=>(f3 b l).1,w0⟩
  rintro n s5 ⟨i,H5,I5,b2,b5,w5⟩;rcases a7 i n H5 w5 with⟨a9,q⟩|⟨go,b1⟩
  .refine ZX (T.done (X2 X N scope cl j.heap.objs.size j (upd M a.heap.objs.size (.lst [])) fp) rfl rfl rfl hc i [] s5 (f U) H5 (λ_ _=>False) I5 (a4 b5) b2 a9) λr s6 ⟨hr,I6⟩=>?_;subst hr;obtain⟨m,hn,_⟩:=id I6.loc;exact c7 _ _ s6 H5 m hn q (λa3 c3=>G0 I3 f3 I6 c3) (I3.YC (Ah _) I6.free)
  .refine ZX (T.item (X2 X N scope cl j.heap.objs.size j (upd M a.heap.objs.size (.lst [])) fp) rfl rfl rfl hc i [] s5 (f U) H5 (λ_ _=>False) I5 (a4 b5) b2 go) λr s6 ⟨u,hr,h6⟩=>?_;subst hr;refine ZX h6 λ_ s7 μ=>?_;obtain⟨x,H7,I7,r7,y7,Z,c8⟩:=μ;have d1:=I7.pinned (a4 c8) (T.obj _ _ Z)
   refine ZX (hg _ _ _ _ _ s7 (f U) H7 x u _ d1 r7 (b1 x H7 y7)) λ_ s8 μ=>?_;obtain⟨U8,H8,I8,a6,q8⟩:=μ;refine ZX (ht _ _ _ _ _ s8 U8 H8 _ I8 q8) λb s9 μ=>?_;obtain⟨H9,I9,q9⟩:=μ;have P:∀ {m':Nat} {L:Shared} {k:Hp},Inv (X2 X N scope cl j.heap.objs.size j (upd M a.heap.objs.size (.lst [])) fp) ([]++rV fp s7.heap) U8 k L->m' < n->W (i+1) m' k->
       ∃m,m<n/\∃i k,Inv (X2 X N scope cl j.heap.objs.size j (upd M a.heap.objs.size (.lst [])) fp) [] (f U) k L/\tn i L.heap/\(∀b∈fp,k b=none)/\W i m k:=fun {m' L k} J7 hm w7=>by
    refine⟨m',hm,i+1,k,(J7.weak a6.1 a6.2).YX,T.keep _ _ _ Z λb l o e=>(J7.pin (b,o) (Bm _ (Bm _ (kI l e)))).1,λb l=>?_,w7⟩;obtain⟨o,e,d⟩:=T.obj _ _ Z b l;exact(J7.pin (b,o) (Bm _ (Bm _ (kI l e)))).2.1
   cases b with
   |true=>
    rw[if_pos rfl]at q9 ⊢;refine ZX (he _ _ _ _ _ s9 U8 H9 _ I9 q9) λv b9 μ=>?_;obtain⟨y,b7,d3,c1,zs,hz,hl,m',hm,b8⟩:=μ;have ap:=zF ([]++rV fp s7.heap) b9 U8 b7 (.ref a.heap.objs.size) [y] (.ref a.heap.objs.size) [v] (λ_ k=>k=upd b7 a.heap.objs.size (.lst (zs++[y]))) d3 rfl (.cons c1 .nil) ⟨_,_,_,rfl,rfl,hz,hl,rfl⟩
    refine ZX ap λ_ d4 μ=>?_;obtain⟨_,d5,d2,_,c9⟩:=μ;subst c9;exact P d2 hm b8
   |false=>
    rw[if_neg Ar]at q9 ⊢;obtain⟨m',hm,w9⟩:=q9;exact P I9 hm w9
 exact codeAny_compStart_list (S _ rfl) (T.self _ 0 _ _ _ b3 (S _ rfl))
section
variable {vals:St->St} {elt:Expr} {spos py:Pos} {wi:TI}
def cL(K:X.calm=true)(E:PI X tg iter wi)(r:Xw X N scope cl vals)(f:∀y∈scope.names,y.2≠.cell)(c:scope.kind=.function)(d:∀x∈scope.names,x.2=.local->scope.names.lookup x.1=some .local)(F:∀C a b i,PG (X2 X N scope cl C a b i) tg g)(z:∀C a b i,PF (X2 X N scope cl C a b i) ifs tests)(G:∀C a b i,PE (X2 X N scope cl C a b i) elt te)(hs:∀x,foldedSetIterable iter X.env x=pure x:=by intro _;rfl):PE X (.ListComp elt [⟨tg,iter,ifs,0⟩] scope pos) (Sm wi g tests te vals):=by
 intro p s U H Q I h;refine wpAny_comprehension_free (use:=none) rfl hs r.clos c d (ZX (E p s U H _ I h) λv W M=>ZX M λu V L=>?_);obtain⟨Z,fp,S,J,H2,e,P,T,k,O,q⟩:=L;subst e;refine Rf (RR:=λo C=>compPost (model X.prog X.w) X.A X.xe none (EP X p U Q) o C) P T k O K r f c F z G q λD C Y R m B t j _=>?_;exact⟨m,B,λn l=>⟨.ref D,R,j n l,rfl,t⟩⟩
def fL{i:Nat}(hN:X.N.Nodup)(L:X.N[i]?=some x)(Z:Loc X.env.scope x)(hc:X.calm=true)(hi:PI X tg iter wi)(S:Xw X N scope cl vals)(n:∀y∈scope.names,y.2≠.cell)(f:scope.kind=.function)(j:∀x∈scope.names,x.2=.local->scope.names.lookup x.1=some .local)(hg:∀C c d u,PG (X2 X N scope cl C c d u) tg g)(ht:∀C c d u,PF (X2 X N scope cl C c d u) ifs tests)(he:∀C c d u,PE (X2 X N scope cl C c d u) elt te)(K:swapsWith (.ListComp elt [⟨tg,iter,ifs,0⟩] scope pos) (some (.Name x py)) spos.line X.env=pure true:=by rfl)(hf:X.fn x=true\/X.env.scope.names.lookup x=some .local:=by first|exact .inl rfl|exact .inr rfl|assumption)(hs:∀x,foldedSetIterable iter X.env x=pure x:=by intro _;rfl):PS X (.Assign [.Name x py] (.ListComp elt [⟨tg,iter,ifs,0⟩] scope pos) spos) (Vg (Sm wi g tests te vals) (lG i)):=by
 intro E s U H D I h;rw[exec_Assign_Name_used _ _ _ _ K];refine Ae (Fs (Ae ?_));show wpAny _ X.A (do let _ <-comprehension (.ListComp elt [⟨tg,iter,ifs,0⟩] scope pos) scope X.env _ (newList []) false (eval iter X.env) (some (assign (.Name x py) X.env))) _ _ s
 refine Ae (Cp (wpAny_comprehension_free (use:=some (assign (.Name x py) X.env)) (Q:=λ_ k=>SP X E D .next k) rfl hs S.clos f j
  (ZX (hi E s U H _ I h) λv s1 h1=>ZX h1 λY s2 h2=>?_)) (λ_ k hq=>As (As hq)) λ_ _ e=>e)
 obtain⟨it,fp,tn,J,H2,e,I2,T,F,f2,q⟩:=h2;subst e;refine Rf (RR:=λO C=>compPost (model X.prog X.w) X.A X.xe (some (assign (.Name x py) X.env)) (λ_ k=>SP X E D .next k) O C) I2 T F f2 hc S n f hg ht he q λR C k V m hn W B p=>?_;show wpAny _ X.A (assign (.Name x py) X.env (.ref R)) _ _ k
 have I':=B k.heap (Heap.SameBut.refl ..)
 refine wpAny_assign_Name (yY I' hN L Z (v:=.ref R) rfl (λG P l=>?_) hf);obtain⟨a,l,ha⟩:=l;have M:C≠a:=by
  rcases ha with z|z
  .rw[z];exact p.2.1
  .exact λe=>p.2.2.2.2.1 x a z e.symm
 refine⟨m,hn.sameBut l M,λh3 r=>?_⟩;exact⟨U.set i (some (.ref R)),V,P.turned (t':=G.toks) (λb o hb e=>(r.2 b hb).trans e) p.1 p.2.1 p.2.2.2.1 p.2.2.2.2.1 p.2.2.2.2.2,W⟩
def iL(a:∀x∈scope.names,x.2≠.free)(b:∀y∈scope.names,y.2≠.cell):Xw X N scope [] (λ_=>N.map λ_=>none) where
 clos:=closureFor_none a
 sub:=λx c h=>nomatch h
 has:=λx h=>by
  have e:(relabel scope X.env).names=scope.names:=by
   show List.map _ scope.names=scope.names
   refine map_eq_self λy f=>?_;grind
  rw[e]at h;rcases h with h|h
  .exact absurd rfl (b _ (Dm h))
  .exact absurd rfl (a _ (Dm h))
 len:=λU=>by simp
 val:=λU i x v g d=>by simp_all
end
section
variable {U0:St}
def BZ{xs:List V}{ok:Hp->Prop}(f:V->Option V)(l:∀i H,ok H->i<xs.length->J.go i H)(k:∀H,ok H->J.stop xs.length H)(u:∀i H x j,ok H->J.WJ i H x j->j=H/\xs[i]?=some x)(a:∀D t,H1 D=none->ok (upd H1 D (.lst t)))(r:xs.length<sizeLine)(hs:∀(i:Nat) x d A (B:Hp->Prop),xs[i]?=some x->ok d->(match f x with|some y=>A y d|none=>B d)->g x U0 d λo v=>Wk U0 o/\tests o v λb s=>if b=true then te o s A else B s)(n:∀D,H1 D=none->Q (.ref D) (upd H1 D (.lst (xs.filterMap f)))):eF g tests te U0 Q J H1:=by
 intro D h;refine⟨λi m d=>m=xs.length-i/\i<=xs.length/\d=upd H1 D (.lst ((xs.take i).filterMap f)),⟨xs.length,by simp,Nat.zero_le _,by simp⟩,?_⟩
 rintro i m d ⟨rfl,w,rfl⟩;by_cases c:i<xs.length
 .refine .inr ⟨l i _ (a D _ h) c,λx j y=>?_⟩;obtain⟨e,q⟩:=u i _ x j (a D _ h) y;subst e;refine hs i x _ _ _ q (a D _ h) ?_;have p:xs.take (i+1)=xs.take i++[x]:=by rw[Bd,q];rfl
  cases e:f x with
  |some y=>
   refine⟨_,aD,?_,xs.length-(i+1),by ((try clear r w);omega),rfl,c,?_⟩
   .have:=Cz f (xs.take i)
    rw[Bt]at this;((try clear w);omega)
   .rw[Ra,p,Bw];simp[e]
  |none=>
   refine⟨xs.length-(i+1),by ((try clear r w);omega),rfl,c,?_⟩
   rw[p,Bw];simp[e]
 .have e:i=xs.length:=by ((try clear r);omega)
  subst e;rw[Cg];exact .inl ⟨k _ (a D _ h),n D h⟩
def Se(f:Nat->Option V)(o:z.length<sizeLine)(hs:∀(i:Nat) c d A (B:Hp->Prop),z.cps.toList[i]?=some c->(match f c with|some y=>A y d|none=>B d)->g (.str ⟨#[c]⟩) U0 d λl s=>Wk U0 l/\tests l s λb m=>if b=true then te l m A else B m)(k:∀D,H1 D=none->Q (.ref D) (upd H1 D (.lst (z.cps.toList.filterMap f)))):eF g tests te U0 Q (WW z) H1:=by
 have j:z.cps.toList.length=z.length:=by simp[Str.length]
 have n:z.cps.size=z.length:=rfl
 refine BZ (xs:=z.cps.toList.map λc=>.str ⟨#[c]⟩) (ok:=λ_=>True) (λx=>match x with|.str y=>f (y.cps.toList.headD 0)|_=>none) (λi H _ h=>?_) (λH _=>?_) (λi H x t _ y=>?_) (λ_ _ _=>trivial) (by rw[Ab,j];exact o) (λi x d A B a _ h=>?_) (λD r=>?_)
 .rw[Ab,j]at h;exact h
 .show z.cps.size<=_
  rw[Ab,j];exact Ah _
 .obtain⟨e,c,p,a⟩:=y;refine⟨e,?_⟩;rw[Ag,Dz,p,a];rfl
 .rw[Ag]at a;cases e:z.cps.toList[i]? with
  |none=>rw[e]at a;cases a
  |some c=>rw[e]at a;cases a;exact hs i c d A B e h
 .have q:=k D r
  rw[Hj];exact q
end
def Lq{a:St->St}{U:St}(h:wi U H λJ b=>eF g tests te (a U) Q J b):Sm wi g tests te a U H Q:=h
def KS{Q:Bool->Hp->Prop}(h:Q true H):Qu U H Q:=h
noncomputable def Xo(a:Env):List (Str×NameKind)->List (Str×Addr)->List (Str×Addr)
 |[],acc=>acc
 |(n,k)::r,acc=>if k == .free then Xo a r ((n,(a.cells.lookup n).getD 0)::acc) else Xo a r acc
noncomputable def TN(a:List (Option Nat)):St->St:=λU=>a.map λo=>match o with|none=>none|some j=>(U[j]?).join
noncomputable def Pj(N c:List Str)(sn b:List (Str×NameKind))(a:List (Option Nat)):Bool:=
 a.length==N.length&&(sn.all λy=>y.2 != .cell&&(y.2 != .free || b.lookup y.1==some .cell))&&decide ((sn.map (·.1)).Nodup) &&
 ((List.range N.length).all λi=>match a[i]? with|some (some j)=>N[i]? == c[j]? && (match N[i]? with|some x=>sn.lookup x==some .free|none=>false)|_=>true)
def uE:∀b d,(∀y∈b,y.2=.free->∃c,env.cells.lookup y.1=some c)->
 (forIn b d (λx l=>(match x with
  | (f,g)=>if (g == NameKind.free)=true then do
      let a <-cellOf env f
      pure (ForInStep.yield ((f,a)::l))
   else pure (ForInStep.yield l):Sem (ForInStep (List (Str×Addr))))))=(pure (Xo env b d):Sem (List (Str×Addr)))
 |[],d,_=>rfl
 |(n,k)::r,d,h=>by
  rw[List.forIn_cons];unfold Xo;cases e:k==NameKind.free with
  |false=>
   simp only[e,Bool.false_eq_true,if_false,pure_bind];exact uE r d λy i=>h y (Al _ i)
  |true=>
   obtain⟨c,m⟩:=h (n,k) List.mem_cons_self (by simp_all)
   have j:=m
   simp only[e,if_true,cellOf,j,Option.getD_some,pure_bind];exact uE r _ λy i=>h y (Al _ i)
def tY:∀a b {x:Str} {c:Addr},(Xo env a b).lookup x=some c->
 b.lookup x=some c\/((x,NameKind.free)∈a/\c=(env.cells.lookup x).getD 0)
 |[],b,x,c,h=>.inl h
 |(n,k)::r,b,x,c,h=>by
  unfold Xo at h;cases e:k==NameKind.free with
  |false=>
   rw[e]at h;rcases tY r b (by simpa using h) with z|⟨z,q⟩
   .exact .inl z
   .exact .inr ⟨Al _ z,q⟩
  |true=>
   rw[e]at h;have g:k=.free:=by simp_all
   rcases tY r _ (by simpa using h) with z|⟨z,q⟩
   .rw[Dh]at z;cases f:x==n with
    |true=>
     grind
    |false=>rw[f]at z;exact .inl z
   .exact .inr ⟨Al _ z,q⟩
def S0:∀b a {x:Str},(a.lookup x).isSome=true->((Xo env b a).lookup x).isSome=true
 |[],a,x,h=>h
 |(n,k)::r,a,x,h=>by
  unfold Xo;split
  .refine S0 r _ ?_;rw[Dh];cases c:x==n with
   |true=>rfl
   |false=>exact h
  .exact S0 r a h
def pQ:∀a b {x:Str},(x,NameKind.free)∈a->((Xo env a b).lookup x).isSome=true
 |_::r,b,x,h=>by
  unfold Xo;rcases Bb.mp h with z|z
  .cases z;refine S0 r _ ?_;rw[Dh,Fd];rfl
  .split
   .exact pQ r _ z
   .exact pQ r b z
def kX:∀ {a:List (Str×NameKind)} {c:NameKind},(a.map λ(n,k)=>if (k==NameKind.free&&env.scope.kind == .function&&env.kindOf n==some .cell) then (n,NameKind.cell) else (n,k)).lookup x=some c->
 ∃k,(x,k)∈a/\(c=k\/(k=.free/\c=.cell))
 |[],_,h=>by simp at h
 |(n,k)::r,c,h=>by
  rw[Au]at h;dsimp only at h;cases e:(k==NameKind.free&&env.scope.kind == .function&&env.kindOf n==some .cell) with
  |true=>
   rw[e,if_pos rfl,Dh]at h;cases b:x==n with
   |true=>
    grind
   |false=>
    rw[b]at h;obtain⟨d,g,f⟩:=kX h;exact⟨d,Al _ g,f⟩
  |false=>
   rw[e,if_neg Ar,Dh]at h;cases b:x==n with
   |true=>
    grind
   |false=>
    rw[b]at h;obtain⟨d,g,f⟩:=kX h;exact⟨d,Al _ g,f⟩
def sT(d:env.scope.kind=.function)(c:env.kindOf x=some .cell):∀ {a:List _},a.lookup x=some .free->
 (a.map λ(n,k)=>if (k==NameKind.free&&env.scope.kind == .function&&env.kindOf n==some .cell) then (n,NameKind.cell) else (n,k)).lookup x=some .cell
 |(n,k)::r,h=>by
  rw[Au];dsimp only;rw[Dh]at h;cases b:x==n with
  |true=>
   grind
  |false=>
   rw[b]at h;have e:=sT d c h
   split<;>(rwa[Dh,b])
def gF{N:List Str}(B:List Str)(g:Scope)(p:List (Option Nat))(G:X.N=B)(f:X.env.scope=g)(D:g.kind=.function)(m:∀x,g.names.lookup x=some .cell->∃c,X.env.cells.lookup x=some c)(c:Pj N B scope.names g.names p=true):Xw X N scope (Xo X.env scope.names []) (TN p):=by
 unfold Pj at c;simp only[Bool.and_eq_true,decide_eq_true_eq,List.all_eq_true,beq_iff_eq]at c;obtain⟨⟨⟨I,A⟩,K⟩,H⟩:=c;have r:∀y,(y,NameKind.free)∈scope.names->g.names.lookup y=some .cell:=λy l=>by
  have z:=(A _ l).2
  simpa using z
 have d:∀y,(y,NameKind.cell)∉scope.names:=λy l=>by
  have z:=(A _ l).1
  simp at z
 refine⟨?_,λx c h=>?_,λx h=>?_,λU=>?_,λU i x v b a=>?_⟩
 .unfold closureFor;simp only[bind_pure];exact uE scope.names [] λy l F=>m y.1 (r y.1 (by rw[<-F];exact l))
 .rcases tY _ _ h with z|⟨z,q⟩
  .simp at z
  .obtain⟨L,e⟩:=m x (r x z);rw[q,e];rfl
 .have:∃ k,(x,k)∈scope.names/\k=.free:=by
   rcases h with h|h
   .obtain⟨k,b,a⟩:=kX h;rcases a with z|⟨z,_⟩
    .subst z;exact absurd b (d x)
    .exact⟨k,b,z⟩
   .obtain⟨k,b,a⟩:=kX h;rcases a with z|⟨z,J⟩
    .exact⟨k,b,z.symm⟩
    .exact⟨k,b,z⟩
  obtain⟨k,b,rfl⟩:=this;exact Eb.mp (pQ scope.names [] b)
 .unfold TN;rw[Ab,I]
 .unfold TN at a;rw[Ag]at a;cases e:p[i]? with
  |none=>rw[e]at a;cases a
  |some o=>
   rw[e]at a;cases o with
   |none=>cases a
   |some j=>
    have E:=(Ad.mp b).1
    have z:=H i (Bu.mpr E)
    rw[e,b]at z;simp only[Bool.and_eq_true,beq_iff_eq]at z;have C:U[j]?=some (some v):=by
     have n:(U[j]?).join=some v:=by simpa using a
     cases w:U[j]? with
     |none=>rw[w]at n;cases n
     |some o=>rw[w]at n;cases o with
      |none=>cases n
      |some u=>cases n;rfl
    have t:=Dm z.2
    have s:=r x t
    refine⟨j,by rw[G];exact z.1.symm,C,by rw[f];exact s,Eb.mp (pQ scope.names [] t),?_⟩
    exact sT (by rw[f];exact D) (by show X.env.scope.names.lookup x=_;rw[f];exact s) z.2
section
open PySem.AutoSeq1 (wpAny_loadPart')
def NL{c:Bool}{x y:Sem α}{Q:α->Shared->Prop}(b:wpAny M A x Q E s)(a:wpAny M A y Q E s):wpAny M A (if c=true then x else y) Q E s:=by
 cases c
 .exact a
 .exact b
def DB(l:Addr)(its:Array Value)(n:Nat)(q:Option Addr)(i:Array (Option Value))(k:Int)(t:Tok)(o:Builtin.SmallTypes.fitsIndex k=true):Meets (Builtin.«enumerate.__new__» ⟨[.type "enumerate",.ref l],[("start",.int k t)]⟩) (λ_ R s=>s.heap.get? l=some ⟨.type "list",q,.seq its n,i⟩/\
 R (.ok (.ret (.ref (s.heap.push {cls:=.type "list_iterator",data:=.fields #[.ref l,.int 0 0]}).objs.size)))
  {s with heap:=(s.heap.push {cls:=.type "list_iterator",data:=.fields #[.ref l,.int 0 0]}).push ⟨.type "enumerate",none,.fields #[.none,.bool false,.ref s.heap.objs.size,rawInt k,.none,.none],#[]⟩}):=
 .of_wp λb w A R s h=>by
  obtain⟨e,g,d,f,j⟩:=s;obtain⟨a,h⟩:=h;have c:=sub_enumerate
  have p:Heap.IsList e l its:=⟨_,a,rfl,n,rfl⟩
  have m:(!Builtin.SmallTypes.fitsIndex k)=false:=by rw[o];rfl
  wp_walk using Ck a
  refine wpAny_stack_any λr=>As ?_;refine NL ?_ ?_ <;>
  .wp_walk using (Ck a),(Et (s:=⟨e,g,d,f,j⟩) p)
   exact⟨_,rfl,h⟩
def qL{u:Builtin}{a:List Value}{d:List (Str×Value)}{S:PySem.Spec}{Q Q1:Q0}(b:TypeCalled T newId "object.__init__")(x:checkTypeCall T ⟨a,d⟩=pure ())(m:checkBuiltinCall newId ⟨.type T::a,d⟩=pure ())(C:entryFor table newId=some u)(g:Meets (u ⟨.type T::a,d⟩) S)(h:S A.in1 (wants Q1 E) s)(k:∀o f,Q1 o f->f.TypeIs o T/\argsOk "object.__init__" ⟨o::a,d⟩/\∃n,Meets (Builtin.«object.__init__» ⟨o::a,d⟩) n/\n A.in1 (wants (λr p=>r=.none/\Q o p) E) f):wpAny (model prog w) A (call (.type T) a d) Q E s:=by
 obtain⟨c,D,t⟩:=b.mro;have l:=b.made
 have q:=b.sub
 have I:=b.notType
 have H:=b.canCreate
 refine Ge (codeAny_of_tree (show wpAny _ _ (callAny (.type T) _) _ _ _ from As ⟨Code.quiet_builtin _ (by decide +kernel),Eu F.entry_type_call ?_⟩))
 rw[Around.under_plain (weight_type_call_type T a d) (units_type_call_type T a d)];repeat (any_goals first|assumption|wp_step)
 refine Fb (Fp b.plain C (wpAny_of_eq m (g prog w A.in1 _ s h))) ?_;rintro(e|fl) f hr
 .exact hr
 .cases fl with
  |ret o=>
   obtain⟨z,j,n,B,i⟩:=k _ _ hr;have v:=b.init.lookup
   have y:=b.init.bind o
   repeat (any_goals first|assumption|wp_step)
   refine Fb (Fp b.init.plain F.entry_object_init (b.init.check _ _ _ _ _ _ _ _ z j (B prog w A.in1 _ f i))) ?_;rintro(e|fl2) p hr2
   .exact hr2
   .cases fl2 with
    |ret r=>
     obtain⟨rfl,G⟩:=hr2;repeat (any_goals first|assumption|wp_step)
    |_=>exact hr2.elim
  |_=>exact hr.elim
def NP{b:Value}{c:List Value}{f:List _}(j:typeLookup (.type T) "__init__"=pure (some (.builtin "object.__init__")))(i:Bind.madeBy (.type T)=pure (some newId))(h:(some newId != some "object.__new__")=true):Meets (Builtin.«object.__init__» ⟨b::c,f⟩) (λ_ R s=>s.TypeIs b T/\R (.ok (.ret .none)) s):=by
 refine Meets.of_wp λe w A R s g=>?_;obtain⟨k,d⟩:=g;cases c with
 |nil=>
  cases f with
  |nil=>exact As ⟨_,rfl,d⟩
  |cons a r=>
   repeat (any_goals first|assumption|wp_step)
   exact⟨_,rfl,d⟩
 |cons a r=>
  repeat (any_goals first|assumption|wp_step)
  exact⟨_,rfl,d⟩
def pV{l:Addr}{its:Array Value}{k:Int}{t:Tok}{Q:Q0}(p:Builtin.SmallTypes.fitsIndex k=true)(v:s.heap.IsList l its)(h:∀a,IsEnum a (s.heap.objs.size+1) s.heap.objs.size k .none->a.IsListIter s.heap.objs.size l 0->a.objs.size=s.heap.objs.size+2->(∀b o,s.heap.get? b=some o->a.get? b=some o)->Q (.ref (s.heap.objs.size+1)) {s with heap:=a}):wpAny (model prog w) A (call (.type "enumerate") [.ref l] [("start",.int k t)]) Q E s:=by
 obtain⟨⟨c,z,y,j⟩,m,u,n,r⟩:=v;obtain rfl:c=.type "list" := u;obtain rfl:y=.seq its n:=r;have e:(s.heap.push {cls:=.type "list_iterator",data:=.fields #[.ref l,.int 0 0]}).objs.size=s.heap.objs.size+1:=Fy ..
 refine qL (Q1:=λo d=>d.TypeIs o "enumerate"/\Q o d) F.called_enumerate (by kernel_rfl) (by kernel_rfl) F.entry_enumerate_new (DB l its n z j k t p) ⟨m,?_⟩ λo d f=>⟨f.1,?_,_,NP F.called_enumerate.init.lookup F.called_enumerate.made (by decide),f.1,rfl,f.2⟩
 .show _/\_
  rw[e];have g:IsEnum ((s.heap.push {cls:=.type "list_iterator",data:=.fields #[.ref l,.int 0 0]}).push ⟨.type "enumerate",none,.fields #[.none,.bool false,.ref s.heap.objs.size,rawInt k,.none,.none],#[]⟩) (s.heap.objs.size+1) s.heap.objs.size k .none:=by
   have q:=Ay (s.heap.push {cls:=.type "list_iterator",data:=.fields #[.ref l,.int 0 0]}) (o:=⟨.type "enumerate",none,.fields #[.none,.bool false,.ref s.heap.objs.size,rawInt k,.none,.none],#[]⟩) rfl
   rwa [e]at q
  exact⟨⟨_,g,rfl⟩,h _ g ⟨_,Ai _ (Ay _ rfl),rfl,rfl⟩ (by rw[Fy,e]) λb o x=>Ai _ (Ai _ x)⟩
 .unfold argsOk;rw[signature?_of (n:=['_','_','t','i','n','i','_','_']) (o := "tcejbo".toList) (by kernel_rfl) F.owner_object]
  kernel_rfl
def iV{P:Nat->Value->Prop}{S:Nat->Heap->Prop}(k:Nat)(D:Draws prog w A it fp n P S):Draws prog w A it fp (k+n) (λj v=>P (j-k) v) (λj h=>k<=j/\S (j-k) h) where
 live:=λi h a=>D.live _ h a.2
 frame:=λi h b a e=>⟨a.1,D.frame _ h b a.2 e⟩
 item:=λi s Q E o a g=>D.item _ s Q E (by omega) a.2 λx b c l f d=>g x b c l ⟨by have:=a.1;((try clear o this);omega),by rwa[show i+1-k=i-k+1 by grind]⟩ d
 done:=λs Q E a m=>D.done s Q E (by grind) m
section
variable {U:St}
def Inv.YF{ch:List Addr}{o:HO}{t':Nat}(I:Inv X y2 U H s)(f:∀b∈ch,nQ X y2 H b)(k:∀b u,b∉ch->s.heap.get? b=some u->h'.get? b=some u)(A:s.heap.objs.size<=a)(x:ZZ X.prog X.w (upd H a o) h' a o):Inv X y2 U (upd H a o) {s with heap:=h',toks:=t'}:=by
 have l:=I.Z3.fresh A
 have j:∀b u,H b=some u->b∉ch:=λb u e z=>by rw[(f b z).1]at e;cases e
 refine I.step (g':=s.gens) (d':=s.drawn) (ch:=ch) (λb p=>?_) (λb o _ _ i e _=>k b o i e) (λb o _ _ i e _=>⟨o.slots,k b o i e⟩) (λb o _ e n=>?_) (λb o i e=>⟨o,k b o i e⟩)
  (λb B e=>by rw[aH (bH e l)];exact e) (λb o u e=>by rw[aH (bH e l)];exact e) (λb M e=>⟨#[],by rw[aH (bH e l),e];simp⟩) (λm J=>?_) (λb u e=>?_) I.bare
 .obtain⟨_,F,_,E,D,C⟩:=f b p;exact⟨E,F,D,C⟩
 .rw[aH (Bl (Bc (Ax e) A))];exact n
 .obtain⟨y,K,L,G,r⟩:=J;exact⟨y,K,L,k _ y (λz=>(f _ z).2.1 rfl) G,r⟩
 .by_cases p:b=a
  .subst p;rw[aD]at e;cases e;exact x
  .rw[aH p]at e;refine(I.Z3 b u e).ZD (λc v i q=>k c v ?_ q) (λc q=>by rw[aH (bH q l)];exact q) λc B q=>by rw[aH (bH q l)];exact q
   rcases i with z|z
   .rw[z];exact j b u e
   .exact j c _ z
def Inv.Yl{ch:List Addr}{t':Nat}(I:Inv X y2 U H s)(a:∀b∈ch,nQ X y2 H b)(k:∀b u,b∉ch->s.heap.get? b=some u->h'.get? b=some u):Inv X y2 U H {s with heap:=h',toks:=t'}:=by
 have i:∀b u,H b=some u->b∉ch:=λb u e z=>by rw[(a b z).1]at e;cases e
 refine I.step (g':=s.gens) (d':=s.drawn) (ch:=ch) (λb C=>?_) (λb o _ _ f e _=>k b o f e) (λb o _ _ f e _=>⟨o.slots,k b o f e⟩) (λb o _ e n=>n) (λb o f e=>⟨o,k b o f e⟩)
  (λb l e=>e) (λb o u e=>e) (λb F e=>⟨#[],by rw[e];simp⟩) (λm B=>?_) (λb u e=>?_) I.bare
 .obtain⟨_,y,_,x,w,p⟩:=a b C;exact⟨x,y,w,p⟩
 .obtain⟨j,D,E,A,r⟩:=B;exact⟨j,D,E,k _ j (λz=>(a _ z).2.1 rfl) A,r⟩
 .refine(I.Z3 b u e).ZD (λc v f q=>k c v ?_ q) (λc q=>q) λc l q=>q;grind
end
noncomputable def W_(K:W.Frag)(a:Addr)(k:Nat):It:=
 ⟨λi H=>∃b x,Zm K H a b/\b[i]?=some x,λi H v c=>∃p x,H p=none/\v=.ref p/\c=upd H p (.tup [.int ((k+i:Nat):Int),x])/\∀b,Zm K H a b->b[i]?=some x,λi H=>∃b,Zm K H a b/\b.length=i⟩
def F_(a e g:Addr)(k:Nat)(J:e≠g):Turn P w K (.Tuple elts x1 tp) (W_ K a k) [e,g] e (λi h=>(∃j,IsEnum h e g ((k+i:Nat):Int) j)/\h.IsListIter g a i) where
 mem:=by simp
 obj:=λi h B b C=>by
  obtain⟨⟨j,r⟩,o,G,c,d⟩:=B;rcases Bb.mp C with z|z
  .subst z;exact⟨_,r,λv z=>by cases z⟩
  .rw[Aj.mp z];exact⟨o,G,λv z=>by rw[d]at z;cases z⟩
 keep:=λi h h' B T=>⟨let ⟨j,r⟩:=B.1;⟨j,T e (by simp) _ r⟩,B.2.at λo q=>T g (by simp) o q⟩
 item:=by
  intro X Q Y hK hc i y2 s U H E I M B Z;subst Q Y hK;obtain⟨xs,x,W,V⟩:=Z;obtain⟨l,S,p,hz⟩:=I.list W;obtain⟨u,hu,ru⟩:=S.get V;obtain⟨⟨j,r⟩,m⟩:=B;have L:a≠g:=by
   rintro rfl;obtain⟨o,G,c,_⟩:=m;obtain⟨o2,f,n,_⟩:=p.isList;rw[G]at f;cases f;rw[c]at n;injection n with n;exact absurd n (by decide)
  have a2:a≠e:=by
   rintro rfl;obtain⟨o2,f,n,_⟩:=p.isList;rw[r]at f;cases f;injection n with n;exact absurd n (by decide)
  have hl:=S.length
  have a7:=(Ad.mp hu).1
  have D:=iV k (Draws.list (prog:=X.prog) (w:=X.w) (A:=X.A.in1) (show X.A.in1.handled=none from I.ok.hd hc) g a L l.toArray)
  refine wpAny_pyNext_enum_itemD D (i:=k+i) r ⟨Gb _ _,by rw[Cu];exact⟨m,p.isList⟩⟩ (by rw[Be];((try clear J L a2 hl hz);omega)) J (λz=>by
   rcases Bb.mp z with z|z
   .exact J z
   .exact a2 (Aj.mp z).symm) λy h1 R Q G hS hT a6 T=>?_
  refine⟨_,rfl,wpAny_letOwnedTupleGo_enum G λh2 a1 F=>?_⟩;have ey:y=u:=by
   have O:=Q
   rw[Cu]at O;have:l[i]?=some y:=by simpa using O
   rw[hu]at this;cases this;rfl
  subst ey;have N:=Fa (Ax r)
  have a3:s.heap.objs.size≠g:=by obtain⟨o,q,_⟩:=m;exact Fa (Ax q)
  have a4:=(F.2 _ N).trans hT
  have a5:h1.IsListIter g a (i+1):=by
   have q:=hS.2.1
   rwa [show k+i+1-k=i+1 by ((try clear J L N a2 a3 a6 a7 hl hz);omega)]at q
  have I2:Inv X y2 U (upd H s.heap.objs.size (.tup [.int ((k+i:Nat):Int),x])) {s with heap:=h2,toks:=R+1}:=by
   refine I.YF (ch:=[e,g]) M (λb u C q=>(F.2 b (λz=>C (by simp[z]))).trans (T b u (λz=>C (by simp[z])) (λz=>C (by simp[z])) q)) (Nat.le_refl _) ⟨bK (by show 2<=_;((try clear J L N a2 a3 a6 a7 hS hl hz);omega)),[.int ((k+i:Nat):Int) R,y],.cons ⟨R,rfl⟩ (.cons ru .nil),_,a4,rfl,_,rfl⟩
  refine⟨.ref s.heap.objs.size,_,I2,rfl,⟨_,x,I.Z3.fresh (Ah _),rfl,rfl,λys hy=>by rw[I.YY hy W];exact V⟩,⟨⟨y,a1⟩,a5.at λo q=>(F.2 g J.symm).trans q⟩,λb C=>?_⟩
  rcases Bb.mp C with z|z
  .rw[z,aH N.symm];exact(M e (by simp)).1
  .rw[List.mem_singleton.mp z,aH a3.symm];exact(M g (by simp)).1
 done:=by
  intro X Q Y hK hc i y2 s U H E I M B Z;subst Q Y hK;obtain⟨xs,W,V⟩:=Z;obtain⟨l,S,p,hz⟩:=I.list W;obtain⟨⟨j,r⟩,m⟩:=B;have hl:=S.length
  have L:a≠g:=by
   rintro rfl;obtain⟨o,G,c,_⟩:=m;obtain⟨o2,f,n,_⟩:=p.isList;rw[G]at f;cases f;rw[c]at n;injection n with n;exact absurd n (by decide)
  have D:=iV k (Draws.list (prog:=X.prog) (w:=X.w) (A:=X.A.in1) (show X.A.in1.handled=none from I.ok.hd hc) g a L l.toArray)
  refine wpAny_pyNext_enum_endD D r ⟨Gb _ _,by rw[Cu,Be,<-hl,V];exact⟨m,p.isList⟩⟩ λh' eb=>⟨rfl,?_⟩
  exact I.Yl (t':=s.toks) (ch:=[e,g]) M λb u C q=>eb b u (λz=>C (by simp[z])) q
 self:=λ_ _ _ _ _ B h=>let ⟨⟨_,r⟩,_⟩:=B;Hr r h
section
variable {p kp:Pos}
def V4(R:Addr->Hp->Prop):List V->Hp->Prop:=λa H=>match a with|[.ref j]=>R j H|_=>False
def QJ{R:Addr->Hp->Prop}(q:V4 R vs H):∃j,vs=[.ref j]/\R j H:=by
 unfold V4 at q;split at q
 .exact⟨_,rfl,q⟩
 simp_all
def Qk(K:W.Frag)(c:TA):TI:=λU H R=>c U H (V4 λa b=>Yn (Z4 b a) (R (W_ K a 0) b))
def Pl(K:W.Frag)(d c:TA):TI:=λU H R=>d U H (V4 λa e=>c U e (xL λk b=>(0<=k/\k<2^62)/\Yn (Z4 b a) (R (W_ K a k.toNat) b)))
def Si{U:St}{k:Nat}(c:Inv X y2 U H1 s1)(d:IsEnum h' (s1.heap.objs.size+1) s1.heap.objs.size ((k:Nat):Int) .none)(f:h'.IsListIter s1.heap.objs.size a 0)(i:h'.objs.size=s1.heap.objs.size+2)(e:∀b o,s1.heap.get? b=some o->h'.get? b=some o)(q:R (W_ X.K a k) H1):wpAny (model X.prog X.w) X.A (pyIter (.ref (s1.heap.objs.size+1))) (Vm X y2 U (.Tuple elts x1 tp) R) E {s1 with heap:=h'}:=by
 refine Hr (s:={s1 with heap:=h'}) d ⟨_,[s1.heap.objs.size+1,s1.heap.objs.size],_,_,H1,rfl,c.kept (t':=s1.toks) e,F_ a _ _ k (Nat.succ_ne_self _),⟨⟨_,d⟩,f⟩,λb g=>?_,q⟩
 have z:s1.heap.objs.size<=b:=by
  rcases Bb.mp g with z|z
  .rw[z];exact Ig _
  simp_all
 exact c.YC z (c.Z3.fresh z)
def mW(o:Gl X "enumerate")(j:X.mg "enumerate"=none)(t:PA X [l] ta)(hs:starEach [l] X.env=[(false,eval l X.env)]:=by rfl):PI X (.Tuple elts x1 tp) (.Call (.Name "enumerate" p) [l] [] pos) (Qk X.K ta):=by
 intro d s U H R I h;refine Call_ (iJ I o j boot_enumerate (Dq (ZX (t pos d s U H _ I h) λy z μ=>?_) hs rfl));obtain⟨x,C,c,f,g⟩:=μ;obtain⟨a,rfl,q⟩:=QJ g;obtain⟨u,rfl,e⟩:=eC f;cases e;unfold Yn at q;split at q
 .rename_i w v
  obtain⟨i,A,p,b⟩:=c.list (bC v);exact call_enumerate_list p.isList λB r n b m=>Si c (k:=0) r n b m q
 simp_all
def qC{b:List _}{c:List _}{Q:Q0}(i:b.any (·.1)=false)(g:c.any (·.1.isNone)=false)(h:wpAny M A (evalArgs (.type T) true b c) (λa d=>wpAny M A (call (.type T) a.pos a.kw) Q E d) E s):wpAny M A (callWith pos (.type T) [] b c) Q E s:=by
 refine Ae (Co (Cp h (λa d e=>Ae (Fs ?_)) λ_ _ x=>x));rw[i,g];exact Ae (As (Ae (Cp e (λr j f=>Ae (Co (wpAny_point (As f)))) λ_ _ x=>x)))
def DS{d:Expr}(A:Gl X "enumerate")(y:X.mg "enumerate"=none)(C:PA X [l] ta)(f:PK X [⟨some "start",d,kp⟩] tk)(hs:starEach [l] X.env=[(false,eval l X.env)]:=by rfl)(c:keywordEach [⟨some "start",d,kp⟩] X.env=[(some ("start" : Str),eval d X.env)]:=by rfl):PI X (.Tuple elts x1 tp) (.Call (.Name "enumerate" p) [l] [⟨some "start",d,kp⟩] pos) (Pl X.K ta tk):=by
 intro g s U H R I h;have b:backTo pos (starEach [l] X.env)=[(false,eval l X.env)]:=by rw[hs];rfl
 refine Dr (iJ I A y boot_enumerate (qC (by rw[b];rfl) (by rw[c];rfl) ?_))
 rw[b];refine evalArgs_kwB (by rw[c];rfl) ?_
 rw[<-b];refine ZX (C pos g s U H _ I h) λN m μ=>?_;obtain⟨M,F,E,r,w⟩:=μ;obtain⟨a,rfl,q⟩:=QJ w;refine ZX (f pos g m U F _ E q) λL O μ=>?_;obtain⟨G,V,j,o,v⟩:=μ;obtain⟨k,rfl,⟨S,Q⟩,q⟩:=uG v;obtain⟨u,rfl,n⟩:=eC r;cases n;obtain⟨u,rfl,t,rfl⟩:=eC o;unfold Yn at q;split at q
 .rename_i J D
  obtain⟨x,P,p,i⟩:=j.list (bC D);have e:(backToKw pos (keywordEach [⟨some "start",d,kp⟩] X.env)).filterMap (·.1)=(["start"]:List Str):=by rw[c];rfl
  rw[e];refine pV (by unfold Builtin.SmallTypes.fitsIndex;rw[An (by ((try clear i);omega)),An (by ((try clear i);omega))];rfl) p.isList λT B z i f=>Si j (k:=k.toNat) ?_ z i f q
  rw[show ((k.toNat:Nat):Int)=k by ((try clear i);omega)]
  exact B
 .exact q.elim
end
section
variable {k:Nat} {tb:TS} {U U0:St}
def tX(b:Nat->St->Hp->Prop)(r:b 0 U H)(l:∀i U H,i<=xs.length->b i U H->Z4 H a=some xs)(hs:∀i x U H p,xs[i]?=some x->b i U H->H p=none->g (.ref p) U (upd H p (.tup [.int ((k+i:Nat):Int),x])) λs t=>tb {D with nx:=b (i+1),ct:=b (i+1),bk:=D.nx} s t)(o:∀U H,b xs.length U H->D.nx U H):Wz (W_ K a k) g tb D U H:=by
 refine⟨λi m U H=>m=xs.length-i/\i<=xs.length/\b i U H,⟨xs.length,by simp,Nat.zero_le _,r⟩,?_⟩
 rintro i m U H ⟨rfl,n,p⟩;have d:=l i U H n p
 by_cases c:i<xs.length
 .refine .inr ⟨⟨xs,xs[i],bC d,by simp[c]⟩,b (i+1),λv u f=>⟨xs.length-(i+1),by ((try clear n);omega),rfl,c,f⟩,λx u y=>?_⟩
  obtain⟨q,z,j,rfl,rfl,h⟩:=y;exact hs i z U H q (h xs (bC d)) p j
 .have e:i=xs.length:=by omega
  subst e;exact .inl ⟨⟨xs,bC d,rfl⟩,o U H p⟩
def RU(f:Nat->V->Option V)(M:Z4 H1 a=some xs)(O:xs.length<sizeLine)(hs:∀i x d p A (B:Hp->Prop),xs[i]?=some x->Z_ H1 d->d p=none->(∀c,Z_ (upd d p (.tup [.int ((k+i:Nat):Int),x])) c->match f i x with|some y=>A y c|none=>B c)->
 g (.ref p) U0 (upd d p (.tup [.int ((k+i:Nat):Int),x])) λw N=>Wk U0 w/\tests w N λb J=>if b=true then te w J A else B J)(u:∀D c,H1 D=none->Z_ H1 c->Z4 c D=some ((List.range xs.length).filterMap λi=>f i (xs.getD i .non))->Q (.ref D) c):eF g tests te U0 Q (W_ K a k) H1:=by
 intro D t;refine⟨λi m d=>m=xs.length-i/\i<=xs.length/\Z_ H1 d/\d D=some (.lst ((List.range i).filterMap λi=>f i (xs.getD i .non))),⟨xs.length,by simp,Nat.zero_le _,aG t _,by rw[aD];rfl⟩,?_⟩
 rintro i m d ⟨rfl,P,n,l⟩;have r:=aM n M
 by_cases h:i<xs.length
 .refine .inr ⟨⟨xs,xs[i],bC r,by simp[h]⟩,λv R y=>?_⟩
  obtain⟨q,z,s,rfl,rfl,L⟩:=y;have F:=L xs (bC r)
  have G:xs.getD i .non=z:=by rw[Ac,F];rfl
  refine hs i z d q _ _ F n s λc C=>?_;have j:=C _ _ (aG s _ _ _ l)
  have E:=n.trans ((aG s _).trans C)
  cases e:f i z with
  |some y=>
   refine⟨_,j,?_,xs.length-(i+1),by ((try clear O P);omega),rfl,h,λb o I=>?_,?_⟩
   .have:=Cz (λi=>f i (xs.getD i .non)) (List.range i)
    rw[Bf]at this;((try clear P);omega)
   .rw[aH (bH I t)];exact E b o I
   .rw[aD,Cm,Bw,Cb (b:=y) (by rw[G,e]),Cs]
  |none=>
   refine⟨xs.length-(i+1),by ((try clear O P);omega),rfl,h,E,?_⟩
   rw[j,Cm,Bw,Cj (by rw[G,e]),Cs,Br]
 .have e:i=xs.length:=by ((try clear O);omega)
  subst e;exact .inl ⟨⟨xs,bC r,rfl⟩,u D d t n (aO l)⟩
def L7(h:ta U H (V4 λa b=>Yn (Z4 b a) (R (W_ K a 0) b))):Qk K ta U H R:=h
def Nu(h:ta U H (V4 λa c=>tk U c (xL λk b=>(0<=k/\k<2^62)/\Yn (Z4 b a) (R (W_ K a k.toNat) b)))):Pl K ta tk U H R:=h
def L5{R:Addr->Hp->Prop}(h:R a H):V4 R [.ref a] H:=h
end
section
variable {t:TG} {u:WQ} {r:List V} {U:St} {Q:St->Hp->Prop}
def EN(e:nT H a=some xs)(b:xs.length=n)(h:u xs U H Q):Su K n u (.ref a) U H Q:=⟨a,xs,rfl,.of (uF e),b,h⟩
def MH(h:t v U H λa b=>u r a b Q):Uy t u (v::r) U H Q:=⟨v,r,rfl,h⟩
def HK(h:Q U H):S_ [] U H Q:=⟨rfl,h⟩
end
def eT{K:W.Frag}{i j k:Nat}{y:Str}{e d:Pos}(n:X.K=K)(m:X.calm=true)(c:X.N.Nodup)(l:X.N[i]?=some x)(g:Loc X.env.scope x)(b:X.fn x=true\/X.env.scope.names.lookup x=some .local)(h:X.N[j]?=some y)(f:Loc X.env.scope y)(a:X.fn y=true\/X.env.scope.names.lookup y=some .local):PG X (.Tuple [.Name x e,.Name y d] k pos) (Su K 2 (Uy (lG i) (Uy (lG j) S_))):=by
 subst n;exact KG m (jQ (aZ c l g b) (jQ (aZ c h f a) Rh))
end
structure XZ (B:Heap) (l:List Env) (e:Addr) (cls:Value) (d:Option Addr) (fl:Value) (h:Heap):Prop where
 stays:B.StaysIn h
 new:B.get? e=none
 frames:h.FunFrames B l
 on:∃oe vs T oT ts,h.get? e=some oe/\(oe.cls=cls/\oe.dict=d)/\oe.data=.fields vs/\vs[1]?=some (.ref T)/\B.get? T=none/\T≠e/\h.get? T=some oT/\oT.data=.fields ts/\ts[3]?=some fl/\vs[2]?=some .none
def QK(o:Obj)(f:Array Value->Array Value):(o.mapFields f).dict=o.dict:=by
 obtain⟨c,d,a,b⟩:=o;cases a<;>rfl
def zU{vs:Array Value}{f:Obj->Obj}(g:h.get? a=some o)(d:o.data=.fields vs):∀b u,h.get? b=some u->(∀c,u.data≠.fields c)->(h.update a f).get? b=some u:=λb u e n=>by
 rwa[Cc _ _ (λz=>by grind)]
section
variable {B:Heap} {l:List Env} {L e:Addr} {cls:Value} {Q:Unit->Shared->Prop}
def zP{vs:Array Value}{c:Value}{K:Bool}(u:A.frames=some (env::outer))(l:s.heap.FunFrames B (env::outer))(O:env.frame=some L)(R:B.StaysIn s.heap)(C:B.get? e=none)(D:s.heap.get? e=some oe)(g:oe.data=.fields vs)(F:1<vs.size)(S:vs[2]?=some .none)(P:∀v,XZ B (env::outer) e oe.cls oe.dict (rawInt L) v->s.heap.UpToSlots v->Q () {s with heap:=v}):wpAny M A (do let a <-frameOf env;let k <-entryPlaceOf L K;let b <-EntryCells.newEntry c a .none (rawInt L) .none k;setField (.ref e) 1 b) Q E s:=by
 have N:e∉(env::outer).filterMap (·.frame):=λt=>by
  obtain⟨_,o,y,f⟩:=l.mem t;rw[D]at y;cases y;exact f vs g
 refine Ae (wpAny_frameOf_fun u l O λd j=>Ae (wpAny_entryPlaceOf λk r=>?_));have G:=(j.2.1 e N).trans D
 have I:B.StaysIn d:=λb o q=>(j.2.1 b λt=>by rw[(l.mem t).1]at q;cases q).trans (R b o q)
 unfold EntryCells.newEntry newFields;refine Ae (Hq ?_ (r.sizeOk5 _ _ _ _ _));generalize p:(([c,.ref L,.none,rawInt L,.none]++(if k.isEmpty then List.replicate 6 Value.none else k):List Value)).toArray=i
 have J:i[3]?=some (rawInt L):=by rw[<-p];simp
 have m:=Ai (h:=d) ⟨.type "traceback",none,.fields i,#[]⟩ G
 refine wpAny_setField m g F (P _ ?_ ?_)
 .have w:=Fa (Ax G)
  have H:=Obj.data_mapFields g (·.setIfInBounds 1 (Value.ref d.objs.size))
  refine⟨λb o q=>?_,C,l.of_keeps λb o q f=>?_,_,_,d.objs.size,⟨.type "traceback",none,.fields i,#[]⟩,i,Heap.get?_update_self _ m (Obj.isFreed_of_fields H),⟨Obj.cls_mapFields _ _,QK _ _⟩,H,by simp[F],I.fresh,w,?_,rfl,J,(Array.getElem?_setIfInBounds_ne (by decide)).trans S⟩
  .rw[Cc _ _ (λz=>by rw[<-z,C]at q;cases q)]
   exact Ai _ (I b o q)
  .obtain⟨x,n⟩:=j.2.2 b o q;exact⟨_,zU m g b _ (Ai _ n) f,rfl⟩
  .rw[Cc _ _ w.symm];exact Ay d rfl
 .intro b o q f;obtain⟨x,n⟩:=j.2.2 b o q;exact⟨x,zU m g b _ (Ai _ n) f⟩
def GH{vs:Array Value}(a:A.frames=some (env::outer))(j:s.heap.FunFrames B (env::outer))(c:env.frame=some L)(l:B.StaysIn s.heap)(i:B.get? e=none)(d:s.heap.get? e=some oe)(f:oe.data=.fields vs)(g:vs[1]?=some .none)(m:vs[2]?=some .none)(k:∀b,XZ B (env::outer) e oe.cls oe.dict (rawInt L) b->s.heap.UpToSlots b->Q () {s with heap:=b}):wpAny M A (noteFrame (.ref e) env) Q E s:=by
 unfold noteFrame;simp only[c];refine Ae (wpAny_field d f g ?_)
 exact zP a j c l i d f (Ds.mp g).1 m k
def vB(j:A.frames=some (env::outer))(m:env.frame=some L)(F:XZ B (env::outer) e cls d .none s.heap)(y:∀c,XZ B (env::outer) e cls d (rawInt L) c->s.heap.UpToSlots c->Q () {s with heap:=c}):wpAny M A (noteFrame (.ref e) env) Q E s:=by
 obtain⟨C,u,v,J,H,T,K,I,n,⟨rfl,rfl⟩,p,r,x,k,g,i,l,D⟩:=F;unfold noteFrame;simp only[m];refine Ae (wpAny_field n p r ?_);rw[if_pos (show (Value.ref T != Value.none)=true by simp)]
 refine Ae (wpAny_field g i l ?_);rw[if_neg (show ¬((Value.none==rawInt L)=true) by simp[rawInt])]
 refine Ae (wpAny_setField g i (Ds.mp l).1 ?_);have a:∀b,b≠T->(s.heap.update T (Obj.mapFields (·.setIfInBounds 3 Value.none))).get? b=s.heap.get? b:=λb w=>Cc _ _ (Ne.symm w)
 refine zP (s:={s with heap:=s.heap.update T (Obj.mapFields (·.setIfInBounds 3 Value.none))}) j (v.of_keeps λb o q f=>⟨o,zU g i b o q f,rfl⟩) m
  (λb o q=>(a b λz=>by grind).trans (C b o q)) u ((a e k.symm).trans n) p (Ds.mp r).1 D λc G t=>y c G λb o q f=>t b o (zU g i b o q f) f
def fO(F:XZ B l e cls d fl s.heap)(D:∀i,XZ B l e cls d .none i->s.heap.UpToSlots i->Q () {s with heap:=i}):wpAny M A (setFlight (.ref e) none) Q E s:=by
 obtain⟨G,x,y,w,t,T,I,u,k,C,m,p,n,a,c,f,v,H⟩:=F;have j:=(Ds.mp v).1
 unfold setFlight;refine Ae (wpAny_field k m p ?_);rw[if_pos (show (Value.ref T != Value.none)=true by simp)]
 refine wpAny_setField c f j (D _ ?_ λb o q g=>⟨o.slots,zU c f b o q g⟩);have r:=Obj.data_mapFields f (·.setIfInBounds 3 Value.none)
 refine⟨λb o q=>?_,x,y.of_keeps λb o q g=>⟨o,zU c f b o q g,rfl⟩,w,t,T,_,_,?_,C,m,p,n,a,Heap.get?_update_self _ c (Obj.isFreed_of_fields r),r,by simp[j],H⟩
 .rw[Cc _ _ (λz=>by grind)]
  exact G b o q
 .rw[Cc _ _ a];exact k
def XZ.less(F:XZ B (env::outer) e cls d fl h):XZ B outer e cls d fl h:=⟨F.stays,F.new,F.frames.2.2,F.on⟩
def Lf{vs:Array Value}(a:A.frames=some (env::outer))(i:s.heap.FunFrames B (env::outer))(j:env.frame=some L)(n:B.StaysIn s.heap)(g:B.get? e=none)(k:s.heap.get? e=some oe)(l:oe.data=.fields vs)(b:vs[1]?=some .none)(p:vs[2]?=some .none)(m:∀c,XZ B outer e oe.cls oe.dict .none c->s.heap.UpToSlots c->Q () {s with heap:=c}):wpAny M A (leaving env (.ref e)) Q E s:=by
 exact Ae (GH a i j n g k l b p λb r f=>fO  r λo q d=>m o q.less (f.trans d))
def Kq(a:A.frames=some (env::outer))(g:env.frame=some L)(F:XZ B (env::outer) e cls d .none s.heap)(i:∀b,XZ B outer e cls d .none b->s.heap.UpToSlots b->Q () {s with heap:=b}):wpAny M A (leaving env (.ref e)) Q E s:=by
 exact Ae (vB a g F λk m f=>fO  m λj l c=>i j l.less (f.trans c))
end
structure Jj (fs:List Addr) (H H':Hp) (h B h':Heap):Prop where
 keep:∀b o,h.get? b=some o->H b=none->b∉fs->B.get? b=some o
 slot:∀b o,h.get? b=some o->H b=none->b∈fs->∃sl,h'.get? b=some {o with slots:=sl}
 free:∀b o,h.get? b=some o->H b=none->H' b=none
 there:∀b o,h.get? b=some o->b∉fs->∃o',B.get? b=some o'
 tups:∀b xs,H b=some (.tup xs)->H' b=some (.tup xs)
 frzs:∀b o u,H b=some (.frz o u)->H' b=some (.frz o u)
 tbls:∀b ps,H b=some (.tbl ps)->∃more,H' b=some (.tbl (ps++more))
def Y_(P:Program)(w:World):Yb:=λa H s E e c=>
 ∃g b d B f,e=.ref g/\c.os=s.os/\AllBare c.gens/\XZ B a g b d .none c.heap/\Zl P w f B/\Jj (YW a) H f s.heap B c.heap/\E b d f
def Zl.down(x:Zl P w H h)(k:∀b o u,H b=some u->h.get? b=some o->B.get? b=some o):Zl P w H B:=λa u e=>
 (x a u e).ZD (λb o c q=>by grind) (λ_ q=>q) λ_ _ q=>q
def ZZ.get{o:HO}(x:ZZ P w H h a o):∃b,h.get? a=some b:=by
 cases o with
 |lst d=>obtain⟨_,_,_,_,e⟩:=x;exact⟨_,e⟩
 |tup d=>obtain⟨_,_,_,b,e,_⟩:=x;exact⟨_,e⟩
 |dK c=>obtain⟨_,_,_,_,b,_,_,e,_⟩:=x;exact⟨_,e⟩
 |dT c=>obtain⟨_,_,_,_,b,_,_,e,_⟩:=x;exact⟨_,e⟩
 |set S n=>obtain⟨b,_,_,_,e,_⟩:=x;exact⟨_,e⟩
 |ins C p g=>obtain⟨_,_,_,e,_⟩:=x;exact⟨_,e⟩
 |own y=>exact x
 |xd g=>obtain⟨_,⟨k,_,_,e,_⟩,_⟩:=x;exact⟨_,e⟩
 |rng l m=>obtain⟨_,_,_,e⟩:=x;exact⟨_,e⟩
 |frz b u=>exact⟨_,x.1⟩
 |tbl j=>exact⟨_,x⟩
 |met f y=>exact⟨_,x⟩
 |ext i=>exact x.2.1
def Zl.hole(x:Zl P w H h)(e:h.get? a=none):H a=none:=by
 cases q:H a with
 |none=>rfl
 |some o=>
  obtain⟨b,z⟩:=(x a o q).get;grind
def iY(c:env.frame=some L)(g:b≠L)(f:b∉YW outer):b∉YW (env::outer):=λa=>by
 obtain⟨e,d,q⟩:=Cr.mp a;rcases Bb.mp d with z|z
 .subst z;rw[c]at q;exact g (Bk q).symm
 .exact f (Cr.mpr ⟨e,z,q⟩)
section
variable {cd:Value} {s₀:Shared} {H₀:Hp} {E:XK} {U:St}
def Na{vs:Array Value}(I:Inv (hZ (Y_ P w) P w K mg base N qual scope f cd A outer s₀ H₀ E) y2 U H s)(t:s.heap.get? ea=some oe)(O:oe.data=.fields vs)(Q:vs[1]?=some .none)(V:vs[2]?=some .none)(M:H ea=none)(R:s₀.heap.get? ea=none)(q:E oe.cls oe.dict H):(hZ (Y_ P w) P w K mg base N qual scope f cd A outer s₀ H₀ E).xe (.ref ea) s:=by
 have r:=I.ok.frames
 have l:=I.stack
 have m:=I.Y4
 have a:=I.base
 have i:∀b o,s₀.heap.get? b=some o->b≠s₀.heap.objs.size:=λb o e=>Bl (Ax e)
 have h:∀b o,s₀.heap.get? b=some o->b≠ea:=λb o e z=>by rw[z,R]at e;cases e
 have d:∀b o,s.heap.get? b=some o->b≠ea->b∉YW (envOfC qual scope s₀.heap.objs.size f cd::outer)->(W.hideAll s.heap (ea::YW (envOfC qual scope s₀.heap.objs.size f cd::outer))).get? b=some o:=λb o e L J=>
  W.hideAll_get _ e λp=>(Bb.mp p).elim L J
 refine Lf (B:=W.hideAll s.heap (ea::YW (envOfC qual scope s₀.heap.objs.size f cd::outer))) r (W.funFrames_hide l λv t b c=>Al _ (Cr.mpr ⟨v,t,c⟩)) rfl (λb o q=>W.of_hideAll _ q)
  (W.hideAll_none _ Ak) t O Q V λY T C=>?_
 refine⟨ea,_,_,_,H,rfl,I.os,I.bare,T,I.Z3.down λb o u e g=>d b o g (λz=>by rw[z,M]at e;cases e) λp=>?_,⟨λb o e n c=>?_,λb o e n c=>?_,λb o e n=>a.free b o e n (by simp[hZ]),λb o e c=>?_,a.tups,a.frzs,a.tbls⟩,q⟩
 .rw[m b p]at e;cases e
 .exact d b o (a.keep b o e n c (by simp[hZ])) (h b o e) (iY rfl (i b o e) c)
 .obtain⟨X,k⟩:=a.slot b o e n c (by simp[hZ])
  obtain⟨_,F,S,G⟩:=I.ok.Zk.mem c;have y:s₀.heap.get? b=some F:=S
  rw[e]at y;cases y;obtain⟨j,D⟩:=C b _ k G;exact⟨j,D⟩
 .obtain⟨x,k⟩:=a.there b o e (by simp[hZ])
  exact⟨x,d b x k (h b o e) (iY rfl (i b o e) c)⟩
def cB:iC (Y_ P w) (hZ (Y_ P w) P w K mg base N qual scope f cd A outer s₀ H₀ E) E:=by
 intro Z U H s e s' I h;obtain⟨W,x,d,B,Y,rfl,L,j,V,r,g,q⟩:=h;have a:=I.base
 have t:∀b o,s₀.heap.get? b=some o->b≠s₀.heap.objs.size:=λb o e=>Bl (Ax e)
 refine Kq I.ok.frames rfl V λh2 v C=>?_;have z:∀b o,s₀.heap.get? b=some o->b∉YW outer->b∉YW (envOfC qual scope s₀.heap.objs.size f cd::outer):=λb o e c=>iY rfl (t b o e) c
 have p:∀b,b∈YW outer->b∈YW (envOfC qual scope s₀.heap.objs.size f cd::outer):=λb c=>by
  obtain⟨e,S,q⟩:=Cr.mp c;exact Cr.mpr ⟨e,Al _ S,q⟩
 refine⟨W,x,d,B,Y,rfl,L.trans I.os,j,v,r,⟨λb o e n c=>?_,λb o e n c=>?_,λb o e n=>?_,λb o e c=>?_,λb y e=>g.tups b y (a.tups b y e),λb o u e=>g.frzs b o u (a.frzs b o u e),λb J e=>?_⟩,q⟩
 .exact g.keep b o (a.keep b o e n c (by simp[hZ])) (a.free b o e n (by simp[hZ])) (z b o e c)
 .obtain⟨sl,i⟩:=a.slot b o e n c (by simp[hZ])
  obtain⟨D,G⟩:=g.slot b _ i (a.free b o e n (by simp[hZ])) (p b c)
  obtain⟨_,M,T,O⟩:=I.ok.Zk.mem c;have k:s₀.heap.get? b=some M:=T
  rw[e]at k;cases k;obtain⟨l,F⟩:=C b _ G O;exact⟨l,F⟩
 .obtain⟨m,i⟩:=a.there b o e (by simp[hZ])
  exact g.free b m i (a.free b o e n (by simp[hZ]))
 .obtain⟨m,i⟩:=a.there b o e (by simp[hZ])
  exact g.there b m i (z b o e c)
 .obtain⟨R,X⟩:=a.tbls b J e;obtain⟨Q,k⟩:=g.tbls b _ X;exact⟨R++Q,by rw[k,Array.append_assoc]⟩
end
def DU(X:K.In h)(q:W.excIn K C bmB newId=true):∃d N p m u s k a v b t j i g f e z,h.get? C=some (excClassObj p m C N u d s k a v b t j i g f e newId)/\h.Ns N z/\z "__init__"=none/\OwnTail h bmB d:=by
 unfold W.excIn at q;split at q
 .rename_i t c w I
  split at q
  .rename_i L d j i g f n e A H
   obtain⟨⟨⟨⟨⟨E,D⟩,y⟩,B⟩,o⟩,x⟩:((((L=C/\n=newId)/\c.hasDel=false)/\W.tailIn K bmB d=true)/\W.nsOkIn K c.ns=true)/\W.nsIn K c.ns "__init__"=some none:=by simp_all
   subst E D;obtain⟨p,u,G,F,m,s,k,a,v,b,J⟩:=c;dsimp only at A y o x;subst A y;obtain rfl:w=#[j,i,g,f,some (.builtin n),e]:=by
    obtain⟨l⟩:=w;have r:l=_:=H
    rw[r]
   exact⟨d,F,p,m,u,s,k,a,v,b,t,j,i,g,f,e,_,X _ _ I,.of_isNs (W.isNs_of_in X o),W.nsMap_none_of_in X o x,W.tail_of_in X B⟩
  .cases q
 .cases q
def R5(X:Cx)(E:XK):Prop:=∀d (U:St) H s b a c,Inv X d U H s->s.heap.get? b=some a->a.data=.fields c->c[1]?=some .none->c[2]?=some .none->H b=none->X.s₀.heap.get? b=none->
 E a.cls a.dict H->X.xe (.ref b) s
def fZ{i:Value}{a:Shared}{b:Hp}{E:XK}:R5 (hZ (Y_ P w) P w K mg base N qual scope f i A outer a b E) E:=λ_ _ _ _ _ _ _ I d e g j c h q=>Na I d e g j c h q
section
variable {E:XK} {B initId:String}
def OB(C:Addr)(E:XK)(b:TA):TS:=λ_ U H=>b U H λa c=>a.length<=sizeLine/\E (.ref C) none c
def jT(J:R5 X E)(f:X.ex=[])(F:X.calm=true)(y:Gl X x)(w:X.mg x=some (.ref C))(a:W.excIn X.K C bmB newId=true)(u:ExcBaseFacts B newId initId bmB)(G:PA X (e::es) ta)(A:(x==("__debug__" : Str))=false:=by decide)(n:starEach (e::es) X.env=(false,eval e X.env)::starEach es X.env:=by rfl)(c:(backTo cpos (starEach es X.env)).any (·.1)=false:=by rfl):PS X (.Raise (some (.Call (.Name x np) (e::es) [] cpos)) none pos) (OB C E ta):=by
 intro k s U H D I h;obtain⟨bm,N,nm,q,bs,hdct,sn,sub,ab,col,dd,k0,k1,k2,k3,k5,mN,M,L,d,T⟩:=DU I.ok.mod.Wy a;refine wpAny_Raise_call_subT (C:=C) (N:=N) (bm:=bm) (nm:=nm) (q:=q) (bs:=bs) (hdct:=hdct) (sn:=sn) (sub:=sub) (ab:=ab) (col:=col) (dd:=dd) (k0:=k0) (k1:=k1) (k2:=k2) (k3:=k3) (k5:=k5)
  u (mN:=mN) (T.hasType u.hasBase) (I.ok.hd F) (by rw[n];show (false || (backTo cpos (starEach es X.env)).any (·.1))=false;rw[c];rfl) d (gZ I y w ⟨rfl,?_⟩ A)
 have p:=G cpos k s U H _ I h
 rw[n]at p ⊢;refine Gv (ZX p λv l ⟨Q,P,b,r,m⟩=>⟨rfl,?_,b.bk _ _ M,L.keeps b.bk,T.keeps b.bk,λO i a=>?_⟩)
 .show v.length<=sizeLine
  rw[<-r.length];exact m.1
 .obtain⟨t,g,_,_⟩:=a.there;refine J k U P {l with heap:=O} i _ _ (b.kept (t':=l.toks) a.keeps) g rfl rfl rfl (b.Z3.hole a.new) ?_ m.2
  cases z:X.s₀.heap.get? i with
  |none=>rfl
  |some o=>
   obtain⟨R,j⟩:=b.base.there i o z (by rw[f];simp)
   rw[a.new]at j;cases j
end
noncomputable abbrev Cx.tr(X:Cx)(y2:List (Addr×Obj))(xe:Value->Shared->Prop):Cx:={X with pn:=X.pn++y2,xe:=xe}
noncomputable abbrev Cx.Yh(X:Cx)(y2:List (Addr×Obj))(ea:Addr):Cx:={X with A:=X.A.mark (some (.ref ea)),calm:=false,pn:=X.pn++y2,xe:=λ_ _=>False}
section
variable {pins':Q2} {U:St} {xe:Q0}
def Inv.tr(I:Inv X y2 U H s)(a:Q0):Inv (X.tr y2 a) [] U H s:=
 ⟨⟨I.ok.mod,I.ok.kind,I.ok.glob,I.ok.blt,I.ok.above,I.ok.inj,I.ok.has,I.ok.Wu,I.ok.hd,I.ok.frames,I.ok.Wd,I.ok.VL,I.ok.bs,I.ok.XN,I.ok.X1,I.ok.X5,I.ok.Zk,I.ok.WV⟩,I.os,I.bare,I.base,I.loc,I.cell,I.free,I.ZN,
  λp b=>I.pin p (by rwa [Br]at b),I.Z3,I.len⟩
def Inv.Y7(I:Inv (X.tr y2 xe) pins' U H s):Inv X y2 U H s:=
 ⟨⟨I.ok.mod,I.ok.kind,I.ok.glob,I.ok.blt,I.ok.above,I.ok.inj,I.ok.has,I.ok.Wu,I.ok.hd,I.ok.frames,I.ok.Wd,I.ok.VL,I.ok.bs,I.ok.XN,I.ok.X1,I.ok.X5,I.ok.Zk,I.ok.WV⟩,I.os,I.bare,I.base,I.loc,I.cell,I.free,I.ZN,
  λp a=>I.pin p (De _ a),I.Z3,I.len⟩
def Inv.Yh(I:Inv X y2 U H s)(b:Addr):Inv (X.Yh y2 b) [] U H s:=
 ⟨⟨I.ok.mod,I.ok.kind,I.ok.glob,I.ok.blt,I.ok.above,I.ok.inj,I.ok.has,I.ok.Wu,(λz=>nomatch z),I.ok.frames,I.ok.Wd,I.ok.VL,I.ok.bs,I.ok.XN,I.ok.X1,I.ok.X5,I.ok.Zk,I.ok.WV⟩,I.os,I.bare,I.base,I.loc,I.cell,I.free,I.ZN,
  λp a=>I.pin p (by rwa [Br]at a),I.Z3,I.len⟩
def Inv.YI(I:Inv (X.Yh y2 ea) pins' U H s)(ok:X.Ok):Inv X y2 U H s:=
 ⟨ok,I.os,I.bare,I.base,I.loc,I.cell,I.free,I.ZN,λp a=>I.pin p (De _ a),I.Z3,I.len⟩
structure VJ (X:Cx) (y2:List (Addr×Obj)) (a:Addr):Prop where
 s0:X.s₀.heap.get? a=none
 loc:a≠X.env.locals
 cell:∀x c,X.env.cells.lookup x=some c->c≠a
 pin:∀p∈X.pn++y2,p.1≠a
def Inv.adopt{a:Addr}{o:HO}(I:Inv X y2 U H s)(f:VJ X y2 a)(r:H a=none)(g:ZZ X.prog X.w (upd H a o) s.heap a o):Inv X y2 U (upd H a o) s:=by
 have d:∀b u,H b=some u->b≠a:=λb u e=>bH e r
 refine⟨I.ok,I.os,I.bare,⟨I.base.keep,I.base.slot,λb u e n l=>?_,I.base.there,λb h e=>?_,λb u v e=>?_,λb k e=>?_⟩,I.loc,I.cell,by rw[aH f.loc.symm];exact I.free,λx c e=>by rw[aH (f.cell x c e)];exact I.ZN x c e,λp i=>?_,λb u e=>?_,I.len⟩
 .rw[aH (λz=>by rw[z,f.s0]at e;cases e)]
  exact I.base.free b u e n l
 .have q:=I.base.tups b h e
  rw[aH (d b _ q)];exact q
 .have q:=I.base.frzs b u v e
  rw[aH (d b _ q)];exact q
 .obtain⟨m,q⟩:=I.base.tbls b k e;exact⟨m,by rw[aH (d b _ q)];exact q⟩
 .obtain⟨A,y,t⟩:=I.pin p i;exact⟨A,by rw[aH (f.pin p i)];exact y,t⟩
 .by_cases j:b=a
  .subst j;rw[aD]at e;cases e;exact g
  .rw[aH j]at e;exact(I.Z3 b u e).ZD (λc v _ q=>q) (λc q=>by rw[aH (d c _ q)];exact q) λc h q=>by rw[aH (d c _ q)];exact q
def Inv.Wg{n:Str}{m:Q5}{v:Option Value}{t:Nat}(I:Inv X y2 U H s)(hN:X.N.Nodup)(K:X.N[i]?=some n)(hm:s.heap.Ns X.env.locals m)(hl:X.env.scope.names.lookup n=some .local)(J:h'.Ns X.env.locals (λx=>if x=n then v else m x))(Y:Heap.SameBut X.env.locals s.heap h'):Inv X y2 (U.set i none) H {s with heap:=h',toks:=t}:=by
 have k:∀b o,b≠X.env.locals->s.heap.get? b=some o->h'.get? b=some o:=λb o d e=>(Y.2 b d).trans e
 have G:∀b o,X.s₀.heap.get? b=some o->b≠X.env.locals:=λb o e=>Bl (Bc (Ax e) I.ok.above)
 have f:∀b o,s.heap.get? b=some o->∃l,h'.get? b=some l:=λb o e=>by
  by_cases d:b=X.env.locals
  .obtain⟨l,_,_,q,_⟩:=J;exact⟨l,by rw[d];exact q⟩
  .exact⟨o,k b o d e⟩
 obtain⟨Z,E,F⟩:=id I.loc;refine⟨I.ok,I.os,I.bare,⟨λb o e n d A=>k b o (G b o e) (I.base.keep b o e n d A),λb o e n d A=>?_,I.base.free,λb o e A=>?_,I.base.tups,I.base.frzs,I.base.tbls⟩,⟨_,J,λj y u P C e3=>?_⟩,λx c e=>?_,I.free,I.ZN,λp hp=>?_,λb u e=>?_,by rw[Cw];exact I.len⟩
 .obtain⟨W,q⟩:=I.base.slot b o e n d A;exact⟨W,k b _ (G b o e) q⟩
 .obtain⟨l,q⟩:=I.base.there b o e A;exact f b l q
 .have B:j≠i:=λz=>by
   subst z;rw[Du (by rw[I.len];exact(Ad.mp K).1)]at C
   cases C
  rw[Ec (Ne.symm B)]at C;have D:y≠n:=λz=>B (wC hN P (by rw[z];exact K))
  obtain⟨V,r,w⟩:=F j y u P C e3;have em:Z=m:=by
   obtain⟨o1,a2,a4,g1,d1,_,f1⟩:=E;obtain⟨o2,a1,a3,M,Q,_,f2⟩:=hm;rw[g1]at M;cases M;rw[d1]at Q;cases Q;funext z
   rw[<-f1 z,f2 z]
  refine⟨V,r,?_⟩;rcases w with⟨a,g⟩|⟨a,c,g,o,S,R⟩
  .exact .inl ⟨a,by show (if y=n then v else m y)=_;rw[if_neg D,<-em];exact g⟩
  .exact .inr ⟨a,c,g,o,k c o (I.VB y c g) S,R⟩
 .obtain⟨T,o,a,g⟩:=I.cell x c e;exact⟨T,o,k c o (I.VB x c e) a,g⟩
 .obtain⟨h1,h2,L,h4⟩:=I.pin p hp;exact⟨k _ _ L h1,h2,L,h4⟩
 .refine(I.Z3 b u e).ZD (λc o hc q=>k c o (λz=>?_) q) (λ_ q=>q) λ_ _ q=>q;have O:=I.free
  rcases hc with a|a
  .rw[<-a,z,O]at e;cases e
  .rw[z,O]at a;cases a
end
noncomputable def xV(e:Addr)(b:Value)(d:Option Addr):HO:=.ext λh=>∃a c,h.get? e=some a/\a.cls=b/\a.dict=d/\a.data=.fields c
def XZ.obj{l:List Env}{a fl:Value}(F:XZ B l ea a d fl h):ZZ P w H h ea (xV ea a d):=by
 obtain⟨b,i,T,n,m,c,e,j,_⟩:=F.on;exact⟨⟨b,i,c,e.1,e.2,j⟩,⟨b,c⟩,λr p ⟨o,f,g,q⟩ k=>⟨o,f,k o g,q⟩⟩
def XS(X:Cx)(h:List (Addr×Obj))(R:Value->Option Addr->St->Hp->Prop):Value->Shared->Prop:=λe c=>
 ∃b a d B i g,e=.ref b/\XZ B X.stack b a d .none c.heap/\VJ X h b/\g b=none/\(∀f,B.StaysIn f->c.heap.UpToSlots f->Inv X h i g {c with heap:=f})/\R a d i g
def yZ(CX:Yb)(X:Cx)(c:St->XK):Prop:=∀b (U:St) H s e a,Inv X b U H s->CX X.stack H s (c U) e a->X.xe e a
def vF{R:Value->Option Addr->St->Hp->Prop}(M:X.ex=[]):yZ (Y_ X.prog X.w) (X.tr y2 (XS X y2 R)) (λU i d A=>R i d U A):=by
 intro J U H s e G I' h;obtain⟨k,i,d,B,A,rfl,Y,u,F,r,f,q⟩:=h;have I:=I'.Y7
 have F:=F
 have f:=f
 have K:k∉YW X.stack:=λhm=>by
  obtain⟨_,o,g,L⟩:=F.frames.mem hm;obtain⟨oe,V,T,oT,ts,N,hc,hd,_⟩:=F.on;rw[g]at N;cases N;exact L V hd
 have y:∀b o,s.heap.get? b=some o->b≠k:=λb o g z=>by
  subst z;obtain⟨l,Q⟩:=f.there b o g K;rw[F.new]at Q;cases Q
 refine⟨k,i,d,B,U,A,rfl,F,⟨?_,?_,λx c z=>?_,λp Z=>?_⟩,r.hole F.new,λO C W=>?_,q⟩
 .cases z:X.s₀.heap.get? k with
  |none=>rfl
  |some o=>
   obtain⟨l,S⟩:=I.base.there k o z (by rw[M];simp)
   exact absurd rfl (y k l S)
 .obtain⟨m,⟨o,_,_,g,_⟩,_⟩:=I.loc;exact(y _ o g).symm
 .obtain⟨v,o,g,_⟩:=I.cell x c z;exact y c o g
 .exact y p.1 p.2 (I.pin p Z).1
 .have j:∀ b o,s.heap.get? b=some o->b∈YW X.stack->∃ E,O.get? b=some { o with slots:=E }:=λb o g a=>by
   obtain⟨E,t⟩:=f.slot b o g (I.Y4 b a) a;obtain⟨_,o2,P,L⟩:=I.stack.mem a;rw[g]at P;cases P;obtain⟨D,g3⟩:=W b _ t L;exact⟨D,g3⟩
  refine I.Wr (s':={G with heap:=O}) (ch:=[]) Y ⟨λb o g n a _=>C b o (f.keep b o g n a),λb o g n a _=>j b o g a,λb o g n _=>f.free b o g n,λb o g _=>?_,f.tups,f.frzs,f.tbls⟩ (r.kept λb o g=>C b o g) u λb a=>absurd a (by simp)
  by_cases a:b∈YW X.stack
  .obtain⟨E,t⟩:=j b o g a;exact⟨_,t⟩
  .obtain⟨l,t⟩:=f.there b o g a;exact⟨l,C b l t⟩
section
variable {CX:Yb} {k:Nat} {ps:List Str} {Es:St->XK} {p:Pos} {t:TA}
def Tv(sp:Sp)(c:St->XK)(t:TA):TE:=λU H Q=>t U H λa b=>sp a b Q (c U)
def IS(F:Z8 X.prog X.w X.K X.mg X.base CX k f fd ps sp)(z:Z2 k X.A)(E:Gl X x)(B:X.mg x=some (.ref f))(D:W.keepIn X.K (.ref f)=true)(J:Binds X.K fd ps [])(y:yZ CX X Es)(L:PA X (e::es) t)(j:(x==("__debug__" : Str))=false:=by decide)(G:starEach (e::es) X.env=(false,eval e X.env)::starEach es X.env:=by rfl)(i:(backTo pos (starEach es X.env)).any (·.1)=false:=by rfl):PE X (.Call (.Name x p) (e::es) [] pos) (Tv sp Es t):=by
 intro l s U H Q I h;refine Dr (gZ I E B ?_ j);refine Ff (h₀:=X.base) I.ok.mod.Wy D (ZX (L pos l s U H _ I h) λd g ⟨n,m,c,r,q⟩=>⟨c.ZA,?_⟩) G i;have C:d.length=ps.length:=by rw[<-r.length];exact F.len _ _ _ _ q
 have b:=J g d c.ZA (by simp_all)
 rw[Br]at b;refine Ge (Fb (F.run X.A X.stack g m ⟨d,[]⟩ d n Q (Es U) z c.Xc b r q) λv o a=>?_);cases v with
 |error e=>exact y l U m g e o c a
 |ok M=>
  cases M with
  |ret u=>exact c.after a
  |next=>exact False.elim a
  |brk=>exact False.elim a
  |cont=>exact False.elim a
end
def NY(K:W.Frag)(C:Addr)(i:Nat)(mk:(Value->Option Addr->St->Hp->Prop)->TS)(g:TS):TS:=λD U H=>
 mk (λa d h f=>W.exmOne K a (.ref C)=some true/\∀e,f e=none->
  g {nx:=λb c=>D.nx (b.set i none) c,rt:=D.rt,bk:=λb c=>D.bk (b.set i none) c,ct:=λb c=>D.ct (b.set i none) c} (h.set i (some (.ref e))) (upd f e (xV e a d))) D U H
def SP.Y7{c:Q0}{f:Flow}{s':Shared}(h:SP (X.tr y2 c) [] D f s'):SP X y2 D f s':=by
 cases f with
 |next=>obtain⟨a,b,I,q⟩:=h;exact⟨a,b,I.Y7,q⟩
 |brk=>obtain⟨a,b,I,q⟩:=h;exact⟨a,b,I.Y7,q⟩
 |cont=>obtain⟨a,b,I,q⟩:=h;exact⟨a,b,I.Y7,q⟩
 |ret u=>obtain⟨v,a,b,I,r,q⟩:=h;exact⟨v,a,b,I.Y7,r,q⟩
def FQ{a:List Stmt}{b0:Stmt}{n:Str}{hp:Pos}{i:Nat}{mk:(Value->Option Addr->St->Hp->Prop)->TS}(l:X.stack=X.env::X.outer)(Z:X.env.frame=some X.env.locals)(a4:X.ex=[])(hN:X.N.Nodup)(hi:X.N[i]?=some n)(P:X.env.scope.names.lookup n=some .local)(hg:Gl X x)(hm:X.mg x=some (.ref C))(hb:∀c R,Yt (X.tr c (XS X c R)) body (mk R))(hs:∀c g,Yt (X.Yh c g) (b0::a) ts)(hd:(x==("__debug__" : Str))=false:=by decide):PS X (.Try body [.ExceptHandler (some (.Name x np)) (some n) (b0::a) hp] [] [] pos) (NY X.K C i mk ts):=by
 intro c s U H D I h;have Y:X.A.frames=some (X.env::X.outer):=by rw[<-l];exact I.ok.frames
 have L:(X.env.scope.kind == .class || (X.env.scope.kind == .module&&X.env.locals != X.env.globals))=false:=by rw[I.ok.kind];rfl
 refine wpAny_Try_except (Cp (hb c _ [] s U H D (I.tr _) h) (λf O q=>?_) λe O q=>?_)
 .cases f with
  |next=>
   obtain⟨U',H',I',q⟩:=q.Y7;exact bE c O U' H' D I' q
  |brk=>exact q.Y7
  |cont=>exact q.Y7
  |ret u=>exact q.Y7
 .obtain⟨g,a2,d,B,U1,H1,rfl,F,a1,hn,G,hx,r⟩:=q;rw[l]at F;refine vB Y Z F λh2 F2 u2=>fO (s:={O with heap:=h2}) F2 λh3 F3 u3=>?_
  have I3:=G h3 F3.stays (u2.trans u3)
  refine wpAny_handleBy_cons (codeAny_handlers_test (gZ (I3.Yh g) hg hm ?_ hd)) (by intro q;cases q)
  obtain⟨oe,vs,T,oT,a3,he,hc,_⟩:=id F3.on;refine W.exm_one I3.ZA (hc.1▸(W.Looks.ld he).andThen .now) hx _ _ _ _ (λ_ _ q=>q) ?_;refine codeAny_handlers_suite_as (fO (s:={O with heap:=h3}) F3 λh4 F4 u4=>?_)
  have I4:=(G h4 F4.stays ((u2.trans u3).trans u4)).adopt (o:=xV g a2 d) a1 hn F4.obj
  refine vG I4 hN hi (.inl P) (v:=.ref g) rfl (λs5 I5=>?_) (.inr P);refine Cp (hs c g [] s5 _ _ _ (I5.Yh g) (r g hn)) (λf s6 q=>?_) λ_ _ z=>z.elim;have S:∀ {p:St} {b:Hp} {Q:Unit->Shared->Prop} {E:Q0},Inv (X.Yh c g) [] p b s6->(∀ y,Inv X c (p.set i none) b y->Q () y)->
      wpAny (model X.prog X.w) X.A (do bindName X.env n .none;unbindBehindTheSuite X.env n hp) Q E s6:=fun {p b Q E} j k=>by
   have M:=j.YI I.ok
   obtain⟨m,J,_⟩:=id M.loc;exact wpAny_nameGoes_keeps P J L λh7 v V sb=>k _ (M.Wg hN hi J P V sb)
  cases f with
  |next=>
   obtain⟨p,b,j,q⟩:=q;exact S j λy t=>⟨_,b,t,q⟩
  |brk=>
   obtain⟨p,b,j,q⟩:=q;exact S j λy t=>⟨_,b,t,q⟩
  |cont=>
   obtain⟨p,b,j,q⟩:=q;exact S j λy t=>⟨_,b,t,q⟩
  |ret u=>
   obtain⟨v,p,b,j,rv,q⟩:=q;exact S j λy t=>⟨v,_,b,t,rv,q⟩
def SP.YI{f:Flow}{s':Shared}(ok:X.Ok)(h:SP (X.Yh y2 ea) [] D f s'):SP X y2 D f s':=by
 cases f with
 |next=>obtain⟨a,b,I,q⟩:=h;exact⟨a,b,I.YI ok,q⟩
 |brk=>obtain⟨a,b,I,q⟩:=h;exact⟨a,b,I.YI ok,q⟩
 |cont=>obtain⟨a,b,I,q⟩:=h;exact⟨a,b,I.YI ok,q⟩
 |ret u=>obtain⟨v,a,b,I,r,q⟩:=h;exact⟨v,a,b,I.YI ok,r,q⟩
def N6(K:W.Frag)(C:Addr)(mk:(Value->Option Addr->St->Hp->Prop)->TS)(b:TS):TS:=λD U H=>mk (λa d c e=>W.exmOne K a (.ref C)=some true/\b D c e) D U H
def M6{a:List Stmt}{t:Stmt}{G:Pos}{mk:(Value->Option Addr->St->Hp->Prop)->TS}(c:X.stack=X.env::X.outer)(l:X.env.frame=some X.env.locals)(M:X.ex=[])(L:Gl X x)(J:X.mg x=some (.ref C))(Q:∀b R,Yt (X.tr b (XS X b R)) body (mk R))(hs:∀b i,Yt (X.Yh b i) (t::a) ts)(O:(x==("__debug__" : Str))=false:=by decide):PS X (.Try body [.ExceptHandler (some (.Name x np)) none (t::a) G] [] [] pos) (N6 X.K C mk ts):=by
 intro b s U H D I h;have k:X.A.frames=some (X.env::X.outer):=by rw[<-c];exact I.ok.frames
 refine wpAny_Try_except (Cp (Q b _ [] s U H D (I.tr _) h) (λf j q=>?_) λe j q=>?_)
 .cases f with
  |next=>
   obtain⟨U',H',I',q⟩:=q.Y7;exact bE b j U' H' D I' q
  |brk=>exact q.Y7
  |cont=>exact q.Y7
  |ret u=>exact q.Y7
 .obtain⟨i,Z,d,B,U1,H1,rfl,F,Y,hn,g,E,r⟩:=q;rw[c]at F;refine vB k l F λV F2 o=>fO (s:={j with heap:=V}) F2 λp m n=>?_
  have v:=g p m.stays (o.trans n)
  refine wpAny_handleBy_cons (codeAny_handlers_test (gZ (v.Yh i) L J ?_ O)) (by intro q;cases q)
  obtain⟨oe,vs,T,oT,y,N,P,_⟩:=id m.on;refine W.exm_one v.ZA (P.1▸(W.Looks.ld N).andThen .now) E _ _ _ _ (λ_ _ q=>q) ?_;refine codeAny_handlers_suite (fO (s:={j with heap:=p}) m λS F4 w=>?_)
  have I4:=g S F4.stays ((o.trans n).trans w)
  exact Cp (hs b i [] _ _ _ _ (I4.Yh i) r) (λf s6 q=>q.YI I.ok) λ_ _ z=>z.elim
def DX(h:mk (λa d b c=>W.exmOne K a (.ref C)=some true/\ts D b c) D U H):N6 K C mk ts D U H:=h
section
open PySem.W
structure Xl (K:Frag) (D:Addr):Prop where
 cls:hasDictIn K D=true
 ga:findIn K (.ref D) "__getattribute__"=some (some (.builtin "BaseException.__getattribute__"))
 gh:findIn K (.ref D) "__getattr__"=some none
 ca:findIn K (.ref D) "__class__"=some (some (.builtin "object.__class__"))
 cg:specialIn K (.builtin "object.__class__") "__get__"=some (some (.builtin "getset_descriptor.__get__"))
 ct:takesIn K (.builtin "object.__class__")=some true
 mo:mroIn K D (.type "object")=some true
 mb:W.subIn K (.ref D) (.type "BaseException")=some true
section
variable {K:Frag} {x D:Addr} {ox:Obj} {od:Option Obj}
def HB{Q:Unit->Shared->Prop}(Z:Xl K D)(X:K.In s.heap)(I:InstAt s.heap x ox D od)(b:Q () s):wpAny M A (checkBuiltinCall "BaseException.__getattribute__" ⟨[.ref x,nm],[]⟩) Q E s:=by
 have f:=I.type (M:=M)
 have e:=looks_subIn (M:=M) X Z.mb
 have d:=F.args_bexc_ga (.ref x) nm
 refine Ae ((f.andThen e).at ?_)
 exact wpAny_of_eq d b
end
section
variable {D:Addr}
def Nq{E:XK}{D:Ends}{U:St}(h:ta U H λa b=>a.length<=sizeLine/\E (.ref C) none b):OB C E ta D U H:=h
def D_{a:St->XK}{t:TA}{U:St}(h:t U H λb c=>sp b c Q (a U)):Tv sp a t U H Q:=h
end
def iO(P:Program)(w:World)(K:W.Frag)(b:Str->Option Value)(a:Heap)(k:Nat)(x:Str)(ps:List Str)(sp:Sp):Prop:=
 ∃f c,Z8 P w K b a (Y_ P w) k f c ps sp/\b x=some (.ref f)/\W.keepIn K (.ref f)=true/\Binds K c ps []
section
variable {k:Nat} {ps:List Str} {p:Pos} {t:TA} {E:XK} {Es:St->XK}
def cP(c:iO X.prog X.w X.K X.mg X.base k x ps sp)(g:iC (Y_ X.prog X.w) X E)(h:Z2 k' X.A)(j:k<=k')(l:Gl X x)(o:PA X (e::es) t)(d:(x==("__debug__" : Str))=false:=by decide)(m:starEach (e::es) X.env=(false,eval e X.env)::starEach es X.env:=by rfl)(a:(backTo pos (starEach es X.env)).any (·.1)=false:=by rfl):PE X (.Call (.Name x p) (e::es) [] pos) (Ue sp [] E t):=by
 obtain⟨f,q,F,i,b,n⟩:=c;exact PC F (h.mono j) l i b n .nil g o d m a
def CF(c:iO X.prog X.w X.K X.mg X.base k x ps sp)(g:yZ (Y_ X.prog X.w) X Es)(h:Z2 k' X.A)(j:k<=k')(l:Gl X x)(o:PA X (e::es) t)(d:(x==("__debug__" : Str))=false:=by decide)(m:starEach (e::es) X.env=(false,eval e X.env)::starEach es X.env:=by rfl)(a:(backTo pos (starEach es X.env)).any (·.1)=false:=by rfl):PE X (.Call (.Name x p) (e::es) [] pos) (Tv sp Es t):=by
 obtain⟨f,q,F,i,b,n⟩:=c;exact IS F (h.mono j) l i b n g o d m a
def qW:iC (Y_ X.prog X.w) X E0:=λ_ _ _ _ _ _ _ h=>by
 obtain⟨_,_,_,_,_,_,_,_,_,_,_,z⟩:=h;exact z.elim
def PS.WT{t:TS}(h:PS X.WT st t):PS X st t:=λa s U H D I b=>
 Cp (h a s U H D (I.YK _) b) (λ_ _ q=>q.Zo) λ_ _ z=>False.elim z
end
def ZT.XJ{ps:List Str}{k:Nat}(F:ZT K x qual st f fd)(S:Z9 N ps (aJ st))(e:∀c H Q E,sp c H Q E->c.length=ps.length)(d:∀b A a s H c Q E,Z2 k (A.deeper (envOfC qual (aJ st) s.heap.objs.size f b))->sp c H Q E->
 ∃t,Yt (hZ (Y_ P w) P w K mg base N qual (aJ st) f b A a s H E) (fY st) t/\t {nx:=λ_ n=>Q .non n,rt:=Q} (oH N c) H):Z8 P w K mg base (Y_ P w) (k+1) f fd ps sp:=by
 obtain⟨q,p,r,m,o,v,b,u,i,rfl,j,h⟩:=F.ex;exact RM j h S e λA a s H c Q E l g=>d b A a s H c Q E l g
def Nh(h:mk (λa d g f=>W.exmOne K a (.ref C)=some true/\∀e,f e=none->ts {nx:=λb c=>D.nx (b.set i none) c,rt:=D.rt,bk:=λb c=>D.bk (b.set i none) c,ct:=λb c=>D.ct (b.set i none) c} (g.set i (some (.ref e))) (upd f e (xV e a d))) D U H):NY K C i mk ts D U H:=h
end
noncomputable def T7(K:W.Frag)(a b:Addr):It:=
 ⟨λi H=>∃d c x y,Zm K H a d/\Zm K H b c/\d[i]?=some x/\c[i]?=some y,λi H v e=>∃p x y,H p=none/\v=.ref p/\e=upd H p (.tup [x,y])/\(∀d,Zm K H a d->d[i]?=some x)/\(∀c,Zm K H b c->c[i]?=some y),
  λi H=>∃d c,Zm K H a d/\Zm K H b c/\(d.length<=i\/c.length<=i)⟩
structure Wv (z TI TO i1 i2:Addr):Prop where
 d1:TI≠z
 d2:TO≠z
 d3:i1≠z
 d4:i2≠z
 d5:TI≠TO
 d6:TI≠i1
 d7:TI≠i2
 d8:TO≠i1
 d9:TO≠i2
 d0:i1≠i2
def lP{u:Obj}(e:h.get? a=some o)(d:h.get? b=some u){S:String}(hs:o.cls=.type S)(c:u.cls=.type T)(n:S≠T):a≠b:=λz=>by grind
def zS{z k g j i:Addr}{x p q:Value}{k1 k2:Nat}{xs ys:Array Value}(D:Wv z k g j i)(l:IsZip h z k g x)(m:IsPair h g p q)(w:h.IsListIter j a k1)(v:h.IsListIter i b k2)(u:h.IsList a xs)(t:h.IsList b ys):ZipApart z k g j i a b:=by
 obtain⟨C,o,s,_⟩:=w;obtain⟨B,n,r,_⟩:=v;obtain⟨A,d,f,_⟩:=u;obtain⟨y,c,e,_⟩:=t;exact⟨D.d1,D.d2,D.d3,D.d4,D.d5,D.d6,D.d7,D.d8,D.d9,D.d0,lP d l f rfl (by decide),lP d m f rfl (by decide),lP d o f s (by decide),lP d n f r (by decide),lP c l e rfl (by decide),lP c m e rfl (by decide),lP c o e s (by decide),lP c n e r (by decide)⟩
def A6(a b z F C B A:Addr)(D:Wv z F C B A):Turn P w K (.Tuple elts x1 tp) (T7 K a b) [z,F,C,B,A] z (λi h=>IsZip h z F C .none/\IsPair h F (.ref B) (.ref A)/\(∃p q,IsPair h C p q)/\h.IsListIter B a i/\h.IsListIter A b i) where
 mem:=by simp
 obj:=λi h l c m=>by
  obtain⟨d,r,⟨p,q,g⟩,⟨o1,k,_,S⟩,o2,j,_,R⟩:=l;simp only[List.mem_cons,List.not_mem_nil,or_false]at m;rcases m with z|z|z|z|z<;>subst z
  .exact⟨_,d,λv z=>by cases z⟩
  .exact⟨_,r,λv z=>by cases z⟩
  .exact⟨_,g,λv z=>by cases z⟩
  .exact⟨o1,k,λv z=>by rw[S]at z;cases z⟩
  .exact⟨o2,j,λv z=>by rw[R]at z;cases z⟩
 keep:=λi h h' l f=>by
  obtain⟨d,r,⟨p,q,g⟩,k,j⟩:=l;exact⟨f z (by simp) _ d,f F (by simp) _ r,⟨p,q,f C (by simp) _ g⟩,k.at λo e=>f B (by simp) o e,j.at λo e=>f A (by simp) o e⟩
 item:=by
  intro X hP W hK m i y2 s U H E I Q l Z;subst hP W hK;obtain⟨xs,ys,x,y,O,N,hx,hy⟩:=Z;obtain⟨us,V,M,_⟩:=I.list O;obtain⟨vs,T,L,_⟩:=I.list N;obtain⟨u,hu,ru⟩:=V.get hx;obtain⟨v,hv,rv⟩:=T.get hy;obtain⟨d,r,⟨p,q,g⟩,k,j⟩:=l;have D2:=zS D d g k j M.isList L.isList
  have J:∀c o,s.heap.get? c=some o->s.heap.objs.size≠c:=λc o e=>Fa (Ax e)
  refine wpAny_pyNext_zip_item D2 d r g k j M.isList L.isList (x:=u) (y:=v) (by simpa using hu) (by simpa using hv) λh1 a1 a2 a3 a4 a5 a6 f=>?_
  refine⟨_,rfl,wpAny_letOwnedTupleGo_zip a1 λh2 z2 sb=>?_⟩;have G:∀c o,c≠z->h1.get? c=some o->h2.get? c=some o:=λc o n e=>(sb.2 c n).trans e
  have I2:Inv X y2 U (upd H s.heap.objs.size (.tup [x,y])) {s with heap:=h2}:=by
   refine I.YF (t':=s.toks) (ch:=[z,F,C,B,A]) Q (λc o n e=>?_) (Ah _) ⟨bK (by show 2<=_;((try clear a6);omega)),[u,v],.cons ru (.cons rv .nil),_,G _ _ (J z _ d) a5,rfl,_,rfl⟩
   simp only[List.mem_cons,List.not_mem_nil,or_false,not_or]at n;exact G c o n.1 (f c o n.1 n.2.2.1 n.2.2.2.1 n.2.2.2.2 e)
  refine⟨.ref s.heap.objs.size,_,I2,rfl,⟨_,x,y,I.Z3.fresh (Ah _),rfl,rfl,λzs Y=>by rw[I.YY Y O];exact hx,λzs Y=>by rw[I.YY Y N];exact hy⟩,
   ⟨z2,G _ _ D.d1 (f _ _ D.d1 D.d5 D.d6 D.d7 r),⟨_,_,G _ _ D.d2 a2⟩,a3.at λo e=>G _ o D.d3 e,a4.at λo e=>G _ o D.d4 e⟩,λc m=>?_⟩
  have hn:=(Q c m).1
  rw[aH]
  .exact hn
  .obtain⟨o1,S,_⟩:=k;obtain⟨o2,R,_⟩:=j;simp only[List.mem_cons,List.not_mem_nil,or_false]at m;rcases m with z|z|z|z|z<;>subst z
   .exact(J _ _ d).symm
   .exact(J _ _ r).symm
   .exact(J _ _ g).symm
   .exact(J _ _ S).symm
   .exact(J _ _ R).symm
 done:=by
  intro X hP W hK m i y2 s U H E I Q l Z;subst hP W hK;obtain⟨xs,ys,O,N,hl⟩:=Z;obtain⟨us,V,M,_⟩:=I.list O;obtain⟨vs,T,L,_⟩:=I.list N;have S:=V.length
  have R:=T.length
  obtain⟨d,r,⟨p,q,g⟩,k,j⟩:=l;refine wpAny_pyNext_zip_end (I.ok.hd m) (zS D d g k j M.isList L.isList) d r g k j M.isList L.isList ?_ λh' f=>⟨rfl,?_⟩
  .rcases hl with z|z
   .exact .inl (by simp;((try clear R);omega))
   .exact .inr (by simp;((try clear S);omega))
  .refine I.Yl (t':=s.toks) (ch:=[z,F,C,B,A]) Q λc o n e=>?_;simp only[List.mem_cons,List.not_mem_nil,or_false,not_or]at n;exact f c o n.1 n.2.2.1 n.2.2.2.1 n.2.2.2.2 e
 self:=λ_ _ _ _ _ l h=>wpAny_pyIter_zip l.1 h
def FW:bootBuiltins "zip"=some (.type "zip"):=by decide +kernel
section
variable {l1 l2:Expr} {p:Pos}
def U_(R:Addr->Addr->Hp->Prop):List V->Hp->Prop:=λa H=>match a with|[.ref i,.ref j]=>R i j H|_=>False
def DL{R:Addr->Addr->Hp->Prop}(q:U_ R vs H):∃i j,vs=[.ref i,.ref j]/\R i j H:=by
 unfold U_ at q;split at q
 .exact⟨_,_,rfl,q⟩
 simp_all
def RF(K:W.Frag)(d:TA):TI:=λU H R=>d U H (U_ λa b c=>Yn (Z4 c a) (Yn (Z4 c b) (R (T7 K a b) c)))
def B5(B:Gl X "zip")(y:X.mg "zip"=none)(C:PA X [l1,l2] ta)(hs:starEach [l1,l2] X.env=[(false,eval l1 X.env),(false,eval l2 X.env)]:=by rfl)(e:starEach [l2] X.env=[(false,eval l2 X.env)]:=by rfl):PI X (.Tuple elts x1 tp) (.Call (.Name "zip" p) [l1,l2] [] pos) (RF X.K ta):=by
 intro k s U H R I h;refine Call_ (iJ I B y FW (Dq (ZX (C pos k s U H _ I h) λm d μ=>?_) (by rw[hs,e]) (by rw[e];rfl)));obtain⟨l,N,f,o,r⟩:=μ
 obtain⟨a,b,rfl,q⟩:=DL r;obtain⟨u,Q,rfl,n,g⟩:=T1 o;cases n;cases g;unfold Yn at q;split at q
 .rename_i P M
  split at q
  .rename_i O L
   obtain⟨m,T,w,_⟩:=f.list (bC M);obtain⟨l,S,v,_⟩:=f.list (bC L);refine call_zip_2 w.isList v.isList λF i E D J G x A=>?_;refine wpAny_pyIter_zip (s:={d with heap:=F}) i ⟨_,[d.heap.objs.size+4,d.heap.objs.size+2,d.heap.objs.size+3,d.heap.objs.size,d.heap.objs.size+1],_,_,N,rfl,f.kept (t':=d.toks) A,
    A6 a b _ _ _ _ _ ⟨by simp,by simp,by simp,by simp,by simp,by simp,by simp,by simp,by simp,by simp⟩,⟨i,E,⟨_,_,D⟩,J,G⟩,λc j=>?_,q⟩
   have z:d.heap.objs.size<=c:=by
    simp only[List.mem_cons,List.not_mem_nil,or_false]at j;rcases j with z|z|z|z|z<;>(rw[z];first|exact Ah _|exact Gb _ _)
   exact f.YC z (f.Z3.fresh z)
  .exact q.elim
 .exact q.elim
end
section
variable {tb:TS} {U:St}
def J8(c:Nat->St->Hp->Prop)(u:c 0 U H)(s:∀i U H,i<=xs.length->i<=ys.length->c i U H->Z4 H a=some xs/\Z4 H b=some ys)(hs:∀i x y U H p,xs[i]?=some x->ys[i]?=some y->c i U H->H p=none->g (.ref p) U (upd H p (.tup [x,y])) λv w=>tb {D with nx:=c (i+1),ct:=c (i+1),bk:=D.nx} v w)(t:∀U H,c (min xs.length ys.length) U H->D.nx U H):Wz (T7 K a b) g tb D U H:=by
 refine⟨λi m U H=>m=min xs.length ys.length-i/\i<=min xs.length ys.length/\c i U H,⟨min xs.length ys.length,by simp,Nat.zero_le _,u⟩,?_⟩
 rintro i m U H ⟨rfl,A,p⟩;obtain⟨f,d⟩:=s i U H (by omega) (by omega) p
 by_cases h:i<min xs.length ys.length
 .refine .inr ⟨⟨xs,ys,xs[i]'(by ((try clear A);omega)),ys[i]'(by ((try clear A);omega)),bC f,bC d,Aa _,Aa _⟩,c (i+1),λB z l=>⟨min xs.length ys.length-(i+1),by ((try clear A);omega),rfl,h,l⟩,λx z y=>?_⟩
  obtain⟨q,k,j,r,rfl,rfl,o,n⟩:=y;exact hs i k j U H q (o xs (bC f)) (n ys (bC d)) p r
 .have e:i=min xs.length ys.length:=by omega
  subst e;exact .inl ⟨⟨xs,ys,bC f,bC d,by ((try clear A h);omega)⟩,t U H p⟩
def HL(h:ta U H (U_ λa b c=>Yn (Z4 c a) (Yn (Z4 c b) (R (T7 K a b) c)))):RF K ta U H R:=h
def EK{R:Addr->Addr->Hp->Prop}(h:R a b H):U_ R [.ref a,.ref b] H:=h
end
def TX:V->List V->Hp->VK->Prop:=λx a H Q=>match x,a with
 |.ref l,[.ref b]=>(match jS H l,jS H b with|some xs,some zs=>xs.length+zs.length<=sizeLine/\Q .non (upd H l (.lst (xs++zs)))|_,_=>False)
 |_,_=>False
def VC:Yv X "list.extend" TX:=Yv.imp  MA λ_ _ _ _ q=>by
 unfold TX at q;split at q
 .split at q
  .exact⟨_,_,_,_,rfl,rfl,mX (by assumption),mX (by (assumption)),q.1,q.2⟩
  simp_all
 .exact q.elim
section
variable {l:Addr} {zs:List V}
def OS(e:jS H l=some xs)(a:jS H b=some zs)(c:xs.length+zs.length<=sizeLine)(h:Q .non (upd H l (.lst (xs++zs)))):TX (.ref l) [.ref b] H Q:=by unfold TX;simp only[e,a];exact⟨c,h⟩
end
def Og(h:H p=some (.lst xs)):VE (.ref p) H=some "list" := by unfold VE;simp only[h]
def Ud{t u:TS}{U:St}(c:St->Hp->Prop)(d:∀a b,c a b->u D a b)(h:∀N,(∀a b,c a b->N a b)->t {D with nx:=N} U H):Sk t u D U H:=h _ d
def none_of{r:Addr}(s:Z_ H H')(h:H' r=none):H r=none:=by
 cases e:H r with
 |none=>rfl
 |some o=>rw[s _ _ e]at h;cases h
def bL{o:HO}(a:H p=none)(s:Z_ H H'):Z_ H (upd H' p o):=λb u q=>by rw[aH (bH q a)];exact s b u q
section
variable {U0:St}
def jM{n:Nat}(R:Addr->Nat->List V->Hp->Prop)(E:n<sizeLine)(w:∀D,H1 D=none->R D 0 [] (upd H1 D (.lst [])))(p:∀D i a c,H1 D=none->R D i a c->i<n->J.go i c)(o:∀D a c,H1 D=none->R D n a c->J.stop n c)(hs:∀D i a c x l A (B:Hp->Prop),H1 D=none->i<n->R D i a c->c D=some (.lst a)->J.WJ i c x l->
 (∀y k,k D=some (.lst a)->R D (i+1) (a++[y]) (upd k D (.lst (a++[y])))->A y k)->(∀f,f D=some (.lst a)->R D (i+1) a f->B f)->
 g x U0 l λs C=>Wk U0 s/\tests s C λb f=>if b=true then te s f A else B f)(q:∀D a c,H1 D=none->R D n a c->c D=some (.lst a)->a.length<=n->Q (.ref D) c):eF g tests te U0 Q J H1:=by
 intro D j;refine⟨λi m c=>m=n-i/\i<=n/\∃a,a.length<=i/\c D=some (.lst a)/\R D i a c,⟨n,by simp,Nat.zero_le _,[],Nat.le_refl _,aD,w D j⟩,?_⟩
 rintro i m c ⟨rfl,F,a,v,h,r⟩;by_cases d:i<n
 .refine .inr ⟨p D i a c j r d,λx l y=>hs D i a c x l _ _ j d r h y (λz k e t=>?_) (λf e u=>?_)⟩
  .exact⟨a,e,by ((try clear F);omega),n-(i+1),by ((try clear E F v);omega),rfl,d,a++[z],by rw[Af];show a.length+1<=_;((try clear E F d);omega),aD,t⟩
  .exact⟨n-(i+1),by ((try clear E F v);omega),rfl,d,a,by ((try clear E F d);omega),e,u⟩
 .have e:i=n:=by ((try clear E v);omega)
  subst e;exact .inl ⟨o D a c j r,q D a c j r h v⟩
def ZF(b a:Hp)(ps:List Addr)(fs:List (List V)):Prop:=ps.length=fs.length/\∀(j:Nat) p t,ps[j]?=some p->fs[j]?=some t->b p=none/\a p=some (.tup t)
def ZF.keep{c:Hp}(t:ZF H1 Hc ps fs)(s:Z_ Hc c):ZF H1 c ps fs:=⟨t.1,λj p u b a=>⟨(t.2 j p u b a).1,s _ _ (t.2 j p u b a).2⟩⟩
def ZF.X6{c:Hp}(t:ZF H1 Hc ps fs)(s:Z_ c H1):ZF c Hc ps fs:=⟨t.1,λj p u b a=>⟨none_of s (t.2 j p u b a).1,(t.2 j p u b a).2⟩⟩
def ZF.put{D:Addr}{c:List V}(t:ZF H1 Hc ps fs)(h:Hc D=some (.lst ys)):ZF H1 (upd Hc D (.lst c)) ps fs:=⟨t.1,λj p u e d=>by
 obtain⟨a,b⟩:=t.2 j p u e d;refine⟨a,?_⟩;rw[aH λz=>by grind]
 exact b⟩
def ZF.app{c:List Addr}{d:List _}(t:ZF H1 Hc ps fs)(u:ZF H1 Hc c d):ZF H1 Hc (ps++c) (fs++d):=by
 refine⟨by rw[Af,Af,t.1,u.1],λj p v b a=>?_⟩
 by_cases h:j<ps.length
 .rw[Am h]at b;rw[Am (by rwa[<-t.1])]at a
  exact t.2 j p v b a
 .rw[Aq (by omega)]at b
  rw[Aq (by rw[<-t.1];omega),<-t.1]at a
  exact u.2 _ p v b a
def ZF.nil:ZF H1 Hc [] []:=⟨rfl,λj p u a=>by cases a⟩
def ZF.one(a:H1 p=none)(b:Hc p=some (.tup t)):ZF H1 Hc [p] [t]:=⟨rfl,λj q u c d=>by
 cases j with
 |zero=>cases c;cases d;exact⟨a,b⟩
 |succ j=>cases c⟩
def IU(f:Nat->List V)(w:n<sizeLine)(hs:∀i a A (B:Hp->Prop),i<n->Z_ H1 a->(∀p e,a p=none->Z_ a e->e p=some (.tup (f i))->A (.ref p) e)->
 g (.int (lo+i)) U0 a λt E=>Wk U0 t/\tests t E λb u=>if b=true then te t u A else B u)(s:∀D e c,H1 D=none->Z_ H1 e->e D=some (.lst (c.map V.ref))->c.length=n->ZF H1 e c ((List.range n).map f)->Q (.ref D) e):eF g tests te U0 Q (Xk lo n) H1:=by
 refine jM (n:=n) (λD i j a=>Z_ H1 a/\∃c,j=c.map V.ref/\c.length=i/\ZF H1 a c ((List.range i).map f)) w (λD l=>⟨aG l _,[],rfl,rfl,.nil⟩) (λD i j a _ r h=>h) (λD j a _ r=>Ah n) ?_ ?_
 .rintro D i j a x F A B l y ⟨k,c,rfl,q,o⟩ d ⟨rfl,rfl⟩ C G;refine hs i F A B y k (λp e v m z=>?_);refine C _ _ (m _ _ d) ⟨bL l (k.trans m),c++[p],by rw[Ap];rfl,by rw[Af,q];rfl,?_⟩
  rw[Cm,Ap];exact((o.keep m).app (.one (none_of k v) z)).put (m _ _ d)
 .rintro D j a l ⟨k,c,rfl,q,o⟩ d _;exact s D a c l k d q o
end
noncomputable def Vh(a c:Int)(n:Nat):It:=⟨λi _=>i<n,λi H x b=>b=H/\x=.int (a+(i:Int)*c),λi _=>n<=i⟩
def Kn{K:PySem.W.Frag}(d:Addr)(j c:Int)(n:Nat):Turn P w K tg (Vh j c n) [d] d (λi h=>IsRangeIter h d (j+(i:Nat)*c) ((n:Int)-(i:Nat)) c) where
 mem:=by simp
 obj:=λi h a b f=>by
  have e:b=d:=by simpa using f
  subst e;exact⟨_,a,λv z=>by
   have J:=z
   cases J⟩
 keep:=λi h m a k=>k d (by simp) _ a
 item:=by
  intro X u p x r i F s U H E I l a q;subst u p x;obtain⟨D,C,N,B,A,y⟩:=l d (by simp)
  have W:=Walks.range (prog:=X.prog) (w:=X.w) (I.ok.hd r) d j c n
  refine W.item i s _ _ q a λv m G M g L=>?_;obtain⟨t,rfl⟩:=M;have Q:Inv X F U H {s with heap:=m,toks:=G}:=I.turned (λb o f e=>L b o (by simpa using f) e) D C B A y
  exact⟨_,rfl,wN (s:={s with heap:=m,toks:=G}) (n := "range_iterator") g rfl rfl (by decide) ⟨.int (j+i*c),H,Q,⟨t,rfl⟩,⟨rfl,rfl⟩,g,λb f=>(l b f).1⟩⟩
 done:=by
  intro X u p x r i F s U H E I l a q;subst u p x;obtain⟨D,C,N,B,A,y⟩:=l d (by simp)
  exact wpAny_pyNext_range_end (I.ok.hd r) a (by have:n<=i:=q;((try clear B C);omega)) λm O=>⟨rfl,I.turned (t':=s.toks) (λb o f e=>O b o f e) D C B A y⟩
 self:=λ_ _ _ _ _ a h=>wpAny_pyIter_rangeiter a h
def Vc(R:Int->Int->Int->Hp->Prop):List V->Hp->Prop:=λa H=>match a with|[.int i,.int j,.int k]=>R i j k H|_=>False
def EF{R:Int->Int->Int->Hp->Prop}(q:Vc R vs H):∃i j k,vs=[.int i,.int j,.int k]/\R i j k H:=by
 unfold Vc at q;split at q
 .exact⟨_,_,_,rfl,q⟩
 simp_all
section
variable {st:Int} {tb:TS} {U:St} {i j k:Int}
def LL(b:Nat->St->Hp->Prop)(f:b 0 U H)(hs:∀i U H,i<n->b i U H->g (.int (lo+(i:Int)*st)) U H λh j=>tb {D with nx:=b (i+1),ct:=b (i+1),bk:=D.nx} h j)(d:∀U H,b n U H->D.nx U H):Wz (Vh lo st n) g tb D U H:=by
 refine⟨λi m U H=>m=n-i/\i<=n/\b i U H,⟨n,by simp,Nat.zero_le _,f⟩,?_⟩
 rintro i m U H ⟨rfl,l,p⟩;by_cases a:i<n
 .refine .inr ⟨a,b (i+1),λo k c=>⟨n-(i+1),by ((try clear l);omega),rfl,a,c⟩,λx k y=>?_⟩
  obtain⟨e,y⟩:=y;simp_all
 .have e:i=n:=by omega
  subst e;exact .inl ⟨Ah _,d U H p⟩
def K_{R:Int->Int->Int->Hp->Prop}(h:R i j k H):Vc R [.int i,.int j,.int k] H:=h
end
def UU(H:Hp):Nat->V->V->Prop
 |0,x,y=>x=y/\bY x=true
 |n+1,x,y=>(x=y/\bY x=true)\/∃p q b a,x=.ref p/\y=.ref q/\((Z4 H p=some b/\Z4 H q=some a)\/(nT H p=some b/\nT H q=some a))/\b.length=a.length/\∀(j:Nat) d c,b[j]?=some d->a[j]?=some c->UU H n d c
def UU.tup{p q:Addr}{xs ys:List V}(b:nT H p=some xs)(a:nT H q=some ys)(c:xs.length=ys.length)(h:∀(j:Nat) x y,xs[j]?=some x->ys[j]?=some y->UU H n x y):UU H (n+1) (.ref p) (.ref q):=.inr ⟨p,q,xs,ys,rfl,rfl,.inr ⟨b,a⟩,c,h⟩
def Pa{x:V}(h:bY x=true):X0 x x=true:=by
 cases x<;>first|rfl|(simp[X0];done)|(cases h;done)
def ZQ(b a:Hp)(ps:List Addr)(fs:List (List V)):Prop:=ps.length=fs.length/\∀(j:Nat) p t,ps[j]?=some p->fs[j]?=some t->b p=none/\a p=some (.lst t)
def ZQ.keep{c:Hp}(t:ZQ H1 Hc ps fs)(s:Z_ Hc c):ZQ H1 c ps fs:=⟨t.1,λj p u b a=>⟨(t.2 j p u b a).1,s _ _ (t.2 j p u b a).2⟩⟩
def ZQ.X6{c:Hp}(t:ZQ H1 Hc ps fs)(s:Z_ c H1):ZQ c Hc ps fs:=⟨t.1,λj p u b a=>⟨none_of s (t.2 j p u b a).1,(t.2 j p u b a).2⟩⟩
def ZQ.put{D:Addr}{o:HO}(t:ZQ H1 Hc ps fs)(h:∀p∈ps,p≠D):ZQ H1 (upd Hc D o) ps fs:=⟨t.1,λj p u c d=>by
 obtain⟨a,b⟩:=t.2 j p u c d;refine⟨a,?_⟩;rwa[aH (h p (Ao c))]⟩
def ZQ.snoc{i f:Hp}{ps:List Addr}{fs:List (List V)}{q:Addr}{g:List V}(t:ZQ i f ps fs)(a:i q=none)(b:f q=some (.lst g)):ZQ i f (ps++[q]) (fs++[g]):=by
 refine⟨by rw[Af,Af,t.1];rfl,λj p v c d=>?_⟩
 by_cases h:j<ps.length
 .rw[Am h]at c;rw[Am (by rw[<-t.1];exact h)]at d
  exact t.2 j p v c d
 .rw[Aq (by omega)]at c
  rw[Aq (by rw[<-t.1];omega),<-t.1]at d
  cases e:j-ps.length with
  |zero=>rw[e]at c d;cases c;cases d;exact⟨a,b⟩
  |succ n=>rw[e]at c;cases c
def ZQ.nil:ZQ H1 Hc [] []:=⟨rfl,λj p u a=>by cases a⟩
def ZQ.mem(t:ZQ H1 Hc ps fs){p:Addr}(b:p∈ps):∃g∈fs,H1 p=none/\Hc p=some (.lst g):=by
 obtain⟨j,a⟩:=Gi.mp b;have c:j<fs.length:=by rw[<-t.1];exact(Ad.mp a).1
 exact⟨fs[j],Bx _,t.2 j p _ a (Aa c)⟩
def lI(ns:List Int):∀n,n<=ns.length->preSum (λi=>ns.getD i 0) n=(ns.take n).sum
 |0,_=>by simp[preSum]
 |n+1,h=>by
  have a:=lI ns n (by (exact Nat.le_of_lt (by assumption)))
  have e:ns.take (n+1)=ns.take n++[ns.getD n 0]:=by rw[Bd,Ac,Aa (by (assumption))];rfl
  rw[e,List.sum_append,<-a];simp[preSum]
def Bn(h:∀n∈ns,0<=n/\n<=1000000):0<=ns.sum/\ns.sum<=1000000*(ns.length:Int):=by
 induction ns with
 |nil=>simp
 |cons n r e=>
  obtain⟨a,b⟩:=h n (Ak ..);obtain⟨c,d⟩:=e λm f=>h m (Al _ f);grind
def Tq:List V->Hp->VK->Prop:=λb H Q=>∃(p:Addr) (a:List Int),b=[.ref p]/\Z4 H p=some (a.map V.int)/\(∀n∈a,0<=n/\n<=1000000)/\a.length<=100000/\Q (.int a.sum) H
def TQ(hc:X.calm=true):ZU X (.builtin "sum") Tq:=by
 intro y2 s U H xs us Q I r h;obtain⟨p,ns,rfl,hp,hb,hn,q⟩:=h;obtain⟨u,rfl,ru⟩:=eC r;cases ru;obtain⟨its,rv,pl,hz⟩:=I.list (bC hp);have hl:=pl.isList
 have hlt:p<s.heap.objs.size:=by obtain⟨_,e,_⟩:=hl;exact Ax e
 have hle:its.length=ns.length:=by have:=rv.length;rw[Ab]at this;((try clear hlt hn hz);omega)
 refine call_sum_walk (Et hl ?_);refine⟨s.heap.objs.size,[s.heap.objs.size,p],[s.heap.objs.size],its.toArray.size,_,_,λi=>ns.getD i 0,rfl,Walks.list (A:=X.A.in1) (I.ok.hd hc) _ p (Bl hlt) its.toArray,
  ⟨⟨_,Ay _ rfl,rfl,rfl⟩,hl.push _⟩,λb hb=>?_,λi v hv=>?_,λj hj=>?_,λh' tk t' hk=>?_⟩
 .rw[show ({s with heap:=_}:Shared).heap=_ from rfl]
  simp only[List.mem_cons,List.not_mem_nil,or_false]at hb;rcases hb with e|e
  .rw[e];simp[Heap.push]
  .rw[e];exact Nat.lt_of_lt_of_le hlt (by simp[Heap.push])
 .have hv':its[i]?=some v:=by simpa using hv
  have hi:i<ns.length:=by rw[<-hle];exact(Ad.mp hv').1
  obtain⟨u,hu,ru⟩:=rv.get (show (ns.map V.int)[i]?=some (.int ns[i]) by rw[Ag,Aa hi];rfl)
  rw[hv']at hu;cases hu;obtain⟨t,rfl⟩:=ru;exact⟨t,by show Value.int ns[i] t=Value.int (ns.getD i 0) t;rw[Ac,Aa hi];rfl⟩
 .have hj' : j < ns.length := by have : j < its.length := by simpa using hj
                                 ((try clear hj hlt hn hz);omega)
  have e:=lI ns (j+1) (by (assumption))
  obtain⟨a1,a2⟩:=Bn (ns:=ns.take (j+1)) λm hm=>hb m (List.mem_of_mem_take hm);rw[Bt]at a2;have a3:ns.getD j 0∈ns:=by rw[Ac,Aa hj'];exact Bx _
  obtain⟨b1,b2⟩:=hb _ a3;refine⟨?_,?_⟩
  .show InLong (ns.getD j 0)
   unfold InLong;((try clear a1 a2 e hj hj' hle hlt hn hz);omega)
  .rw[e];unfold InLong;((try clear b1 b2 e hj hlt hz);omega)
 .have e:preSum (λi=>ns.getD i 0) its.toArray.size=ns.sum:=by
   rw[Be,hle,lI ns _ (Ah _),Cg]
  rw[e];exact⟨.int ns.sum,H,I.kept (LSm.kept_iter hk),⟨_,rfl⟩,q⟩
def O4(e:Z4 H p=some (ns.map V.int))(b:∀n∈ns,0<=n/\n<=1000000)(a:ns.length<=100000)(h:Q (.int ns.sum) H):Tq [.ref p] H Q:=⟨p,ns,rfl,e,b,a,h⟩
section
variable {κ:Type} [DecidableEq κ]
noncomputable def cM(a:List (κ×V))(k:κ):Option V:=(a.find? λb=>decide (b.1=k)).map (·.2)
noncomputable def eM(a:List (κ×V))(k:κ)(v:V):List (κ×V):=
 if (a.any λb=>decide (b.1=k))=true then a.map (λb=>if b.1=k then (b.1,v) else b) else a++[(k,v)]
noncomputable def OP(a:List (κ×V))(k:κ):List (κ×V):=a.filter λb=>decide (b.1≠k)
def cO{r:List _}{k:κ}(e:p.1=k):cM (p::r) k=some p.2:=by simp[cM,List.find?_cons,e]
def cJ{r:List _}{k:κ}(e:¬p.1=k):cM (p::r) k=cM r k:=by simp[cM,List.find?_cons,e]
def fM(k:κ):∀a,(a.any λb=>decide (b.1=k))=(cM a k).isSome
 |[]=>rfl
 |p::r=>by
  rw[Ic];by_cases e:p.1=k
  .simp only[cO e,decide_eq_true e,Bool.true_or,Option.isSome_some]
  .rw[cJ e,Aw e,Bool.false_or];exact fM k r
def Ri(k j:κ)(y:V):∀a,cM (a.map λb=>if b.1=k then (b.1,y) else b) j=(cM a j).map λx=>if j=k then y else x
 |[]=>rfl
 |p::r=>by
  have c:=Ri k j y r
  rw[Au];by_cases h:p.1=k
  .rw[if_pos h];by_cases e:p.1=j
   .rw[cO (p:=(p.1,y)) e,cO e,Fl,if_pos (e.symm.trans h)]
   .rw[cJ (p:=(p.1,y)) e,cJ e,c]
  .rw[if_neg h];by_cases e:p.1=j
   .rw[cO  e,cO e,Fl,if_neg (λz=>h (e.trans z))]
   .rw[cJ  e,cJ e,c]
def zQ(k j:κ)(y:V):∀a,cM a k=none->cM (a++[(k,y)]) j=if j=k then some y else cM a j
 |[],_=>by
  by_cases e:k=j
  .rw[if_pos e.symm];exact cO  e
  .rw[if_neg (λz=>e z.symm)];exact cJ (p:=(k,y)) e
 |p::r,hn=>by
  rw[List.cons_append];have b:¬p.1=k:=λz=>by rw[cO z]at hn;cases hn
  rw[cJ b]at hn;have c:=zQ k j y r hn
  by_cases e:p.1=j
  .rw[cO e,cO e,if_neg (λz=>b (e.trans z))]
  .rw[cJ e,cJ e,c]
def BC(b:List _)(k j:κ)(y:V):cM (eM b k y) j=if j=k then some y else cM b j:=by
 unfold eM;by_cases a:(b.any λc=>decide (c.1=k))=true
 .rw[if_pos a,Ri];rw[fM]at a;by_cases e:j=k
  .obtain⟨x,d⟩:=Eb.mp a;rw[if_pos e,e,d,Fl,if_pos rfl]
  simp_all
 .rw[if_neg a];refine zQ k j y b ?_;rw[fM]at a;simp_all
def gH(a:List _)(k:κ)(v:V):(eM a k v).length<=a.length+1:=by
 unfold eM;grind
def lE{a:List _}{k:κ}(v:V)(h:cM a k=none):eM a k v=a++[(k,v)]:=by
 unfold eM;rw[fM,h];simp_all
def Zq.Zp{o:Option V}{u:Option Value}(r:Zq o u):o.isSome=u.isSome:=by
 cases o with
 |none=>cases u with
  |none=>rfl
  |some _=>exact(show False from r).elim
 |some _=>cases u with
  |none=>exact(show False from r).elim
  |some _=>rfl
def Zq.getD{o:Option V}{u:Option Value}{d:V}{d':Value}(r:Zq o u)(a:RelV d d'):RelV (o.getD d) (u.getD d'):=by
 cases o with
 |none=>cases u with
  |none=>exact a
  |some _=>exact(show False from r).elim
 |some _=>cases u with
  |none=>exact(show False from r).elim
  |some _=>exact r
def KV.val{a:List _}{vs:List _}(r:KV a vs)(k:κ):Zq (cM a k) (valueAt vs k):=by
 induction r with
 |nil=>exact True.intro
 | @cons p q j c h t g=>
  obtain⟨f,i⟩:=h;by_cases e:p.1=k
  .have d:=f.symm.trans e
   have b:valueAt (q::c) k=some q.2:=by simp[valueAt,List.find?_cons,d]
   rwa[cO e,b]
  .have d:¬q.1=k:=λz=>e (f.trans z)
   have b:valueAt (q::c) k=valueAt c k:=by simp[valueAt,List.find?_cons,d]
   rwa[cJ e,b]
def KV.any{a:List _}{vs:List _}(r:KV a vs)(k:κ):(a.any λb=>decide (b.1=k))=vs.any λb=>decide (b.1=k):=by
 induction r with
 |nil=>rfl
 |cons h t c=>rw[Ic,Ic,c,h.1]
def KV.V8{b:List _}{vs:List _}(r:KV b vs)(k:κ)(d:RelV y u):KV (b.map λa=>if a.1=k then (a.1,y) else a) (vs.map λa=>if a.1=k then (a.1,u) else a):=by
 induction r with
 |nil=>exact .nil
 | @cons p q j i h t f=>
  refine .cons ?_ f;grind
def KV.put{a:List _}{vs:List _}(r:KV a vs)(k:κ)(b:RelV y u):KV (eM a k y) (stored vs k u):=by
 unfold eM stored;rw[r.any k];by_cases e:(vs.any λc=>decide (c.1=k))=true
 .rw[if_pos e,if_pos e];exact r.V8 k b
 .rw[if_neg e,if_neg e];exact Paired.snoc r ⟨rfl,b⟩
def KV.drop{c:List (κ×V)}{vs:List (κ×Value)}(r:KV c vs)(k:κ):KV (OP c k) (without vs k):=by
 unfold KV at r ⊢;unfold OP without;induction r with
 |nil=>exact .nil
 | @cons p q l j h t f=>
  obtain⟨d,g⟩:=h;rw[Ed,Ed];by_cases e:p.1=k
  .have a:¬decide (p.1≠k)=true:=by simp[e]
   simp_all
  .have i:¬q.1=k:=λz=>e (d.trans z)
   have a:decide (p.1≠k)=true:=by simp[e]
   have b:decide (q.1≠k)=true:=by simp[i]
   rw[if_pos a,if_pos b];exact .cons ⟨d,g⟩ f
def KV.length{a:List _}{vs:List (κ×Value)}(r:KV a vs):a.length=vs.length:=Paired.length r
end
def xQ(r:RelV (kV k) u):(bG P w).is k u=true:=by
 cases k with
 |inl i=>obtain⟨t,e⟩:=(show ∃t,u=Value.int i t from r);subst e;exact Kl P w i t
 |inr x=>obtain⟨t,e⟩:=(show ∃t,u=Value.str x t from r);subst e;exact LC P w x t
def zN:∀ {a:List Key} {b:List Value},Vals (a.map kV) b->ItemsAre (bG P w) a b
 |[],_,r=>by rw[Ii]at r;cases r;exact .nil
 |k::a,_,r=>by
  cases r with
  |cons h t=>exact .cons (xQ h) (zN t)
abbrev KT(H:Hp):List (List Key×V)->List (List Key×Addr×Value)->Prop:=Paired λp q=>p.1=q.1/\H q.2.1=some (.tup (p.1.map kV))/\RelV p.2 q.2.2
def KT.val{a:List _}{xs:List _}(r:KT H a xs)(k:List Key):Zq (cM a k) ((atKey xs k).map (·.2)):=by
 induction r with
 |nil=>exact True.intro
 | @cons p q j c h t g=>
  obtain⟨f,_,i⟩:=h;by_cases e:p.1=k
  .have d:=f.symm.trans e
   have b:atKey (q::c) k=some q.2:=by simp[atKey,List.find?_cons,d]
   rwa[cO e,b]
  .have d:¬q.1=k:=λz=>e (f.trans z)
   have b:atKey (q::c) k=atKey c k:=by simp[atKey,List.find?_cons,d]
   rwa[cJ e,b]
def KT.V8{a:List _}{xs:List _}(r:KT H a xs)(k:List Key)(f:RelV y u):KT H (a.map λc=>if c.1=k then (c.1,y) else c) (xs.map (putAt k u)):=by
 induction r with
 |nil=>exact .nil
 | @cons p q l j h t g=>
  rw[Au,Au];refine .cons ?_ g;obtain⟨b,d,i⟩:=h;unfold putAt;by_cases e:p.1=k
  .rw[if_pos e,if_pos (b.symm.trans e)];exact⟨b,d,f⟩
  simp_all
def KT.put{a:List _}{xs:List _}(r:KT H a xs)(k:List Key)(f:H b=some (.tup (k.map kV)))(c:RelV y u):KT H (eM a k y) (storedH xs k b u):=by
 have e:(a.any λd=>decide (d.1=k))=(atKey xs k).isSome:=by
  rw[fM,(r.val k).Zp,Option.isSome_map]
 unfold eM storedH;rw[e];by_cases q:(atKey xs k).isSome=true
 .rw[if_pos q,if_pos q];exact r.V8 k c
 .rw[if_neg q,if_neg q];exact Paired.snoc r ⟨rfl,f,c⟩
def KT.keeps{a:List _}{xs:List _}(r:KT H a xs)(d:∀b c,H b=some (.tup c)->H' b=some (.tup c)):KT H' a xs:=
 Paired.Wh r λ_ _ z=>⟨z.1,d _ _ z.2.1,z.2.2⟩
def Oj{u:HO}(ok:Zl P w H h)(e:Rd H a u):ZZ P w H h a u:=e.ok ok
def mS(ok:Zl P w H h)(e:Rd H a (.dK kvs)):kvs.length<=sizeLine/\(a==sysModules)=false/\∃b,KV kvs b/\h.DictOf (bG P w) a b:=
 show ZZ P w H h a _ from Oj ok e
def Pf(ok:Zl P w H h)(e:H a=some (.dK kvs)):kvs.length<=sizeLine/\(a==sysModules)=false/\∃b,KV kvs b/\h.DictOf (bG P w) a b:=mS ok (.inl e)
def oQ{b:List Key}(ok:Zl P w H h)(e:H a=some (.tup (b.map kV))):(tupleKind (bG P w)).is h b a:=by
 obtain⟨_,c,r,o,g,f,n,d⟩:=(show ZZ P w H h a _ from ok a _ e);exact⟨o,c.toArray,n,g,f,d,by simpa using zN r⟩
def tH{b:List (List Key×V)}(ok:Zl P w H h)(e:Rd H a (.dT b)):b.length<=sizeLine/\(a==sysModules)=false/\
 ∃d,KT H b d/\h.DictOfH (tupleKind (bG P w)) a d:=by
 obtain⟨z,y,d,r,o,v,A,u,s,n,k,j⟩:=(show ZZ P w H h a (.dT b) from Oj ok e);refine⟨z,y,d,r,o,v,A,u,s,n,k,λx c=>?_,j⟩;have f:∀ {l:List (List Key×V)} {m:List (List Key×Addr×Value)},KT H l m->∀x∈m,(tupleKind (bG P w)).is h x.1 x.2.1:=by
  intro l m q;induction q with
  |nil=>intro x c;exact nomatch c
  | @cons p q C B g t i=>
   intro x c;rcases Bb.mp c with e|c
   .subst e;exact oQ ok (by simp_all)
   .exact i x c
 exact f r x c
def QC{b:List _}(ok:Zl P w H h)(e:H a=some (.dT b)):b.length<=sizeLine/\(a==sysModules)=false/\
 ∃c,KT H b c/\h.DictOfH (tupleKind (bG P w)) a c:=tH ok (.inl e)
def Zb(H:Hp)(a:Addr)(y:V)(r:Option V):Prop:=
 (∃c k,Rd H a (.dK c)/\y=kV k/\r=cM c k)\/∃c k b,Rd H a (.dT c)/\y=.ref b/\H b=some (.tup (k.map kV))/\r=cM c k
def XU(H:Hp)(a:Addr)(y v:V)(d:Hp):Prop:=
 (∃c k,H a=some (.dK c)/\y=kV k/\c.length<sizeLine/\d=upd H a (.dK (eM c k v)))\/
 ∃c k b,H a=some (.dT c)/\y=.ref b/\H b=some (.tup (k.map kV))/\c.length<sizeLine/\d=upd H a (.dT (eM c k v))
def Zb.k{k:Key}(e:H a=some (.dK kvs)):Zb H a (kV k) (cM kvs k):=.inl ⟨kvs,k,.inl e,rfl,rfl⟩
def Zb.t{c:List _}{k:List Key}(e:H a=some (.dT c))(d:H b=some (.tup (k.map kV))):Zb H a (.ref b) (cM c k):=.inr ⟨c,k,b,.inl e,rfl,d,rfl⟩
def XU.k{k:Key}(e:H a=some (.dK kvs))(b:kvs.length<sizeLine):XU H a (kV k) v (upd H a (.dK (eM kvs k v))):=.inl ⟨kvs,k,e,rfl,b,rfl⟩
def XU.t{c:List _}{k:List Key}(e:H a=some (.dT c))(f:H b=some (.tup (k.map kV)))(d:c.length<sizeLine):XU H a (.ref b) v (upd H a (.dT (eM c k v))):=.inr ⟨c,k,b,e,rfl,f,d,rfl⟩
section
variable {U:St} {r:Value} {o:Option V}
def Inv.big(I:Inv X y2 U H s):sysModules<s.heap.objs.size:=by
 have h:=(I.mod.glob.keeps I.bk).lt
 exact Nat.lt_trans (by decide) h
def C3{Q:Q0}(C:A.units+1<cLine)(I:Inv X y2 U H s)(g:Zb H a y (some v))(t:RelV y u)(h:∀f r,Inv X y2 U H r->RelV v f->Q f r):wpAny (model X.prog X.w) A (getItem (.ref a) u) Q E s:=by
 rcases g with⟨i,k,e,n,l⟩|⟨i,k,b,e,n,G,l⟩
 .subst n;obtain⟨z,F,B,d,q⟩:=mS I.Z3 e;obtain⟨f,j,c⟩:=Zq.some_of (v:=v) (o:=valueAt B k) (by rw[l];exact d.val k)
  exact wpAny_getItem_of (xQ t) q.mapOf j (h f _ (I.tok _) c)
 .subst n;cases (show u=Value.ref b from t);obtain⟨z,F,x,d,q⟩:=tH I.Z3 e;obtain⟨f,j,c⟩:=Zq.some_of (v:=v) (o:=(atKey x k).map (·.2)) (by rw[l];exact d.val k)
  obtain⟨p,D,m⟩:=Cd.mp j;refine wpAny_getItem_heap (Fg C) (oQ I.Z3 G) q D ?_;rw[m];exact h f _ (I.tok _) c
def OO{Q:Q0}(p:A.units+1<cLine)(I:Inv X y2 U H s)(g:Zb H a y o)(n:RelV y u)(h:∀m,Inv X y2 U H m->Q (.bool o.isSome) m):wpAny (model X.prog X.w) A (compareOp .In u (.ref a)) Q E s:=by
 rcases g with⟨d,k,e,i,l⟩|⟨d,k,b,e,i,r,l⟩
 .subst i;obtain⟨z,f,v,c,j⟩:=mS I.Z3 e;refine wpAny_in_of (xQ n) f j.mapOf ?_;rw[<-(c.val k).Zp,<-l];exact h _ (I.tok _)
 .subst i;cases (show u=Value.ref b from n);obtain⟨z,f,t,c,j⟩:=tH I.Z3 e;refine wpAny_in_heap (Fg p) (oQ I.Z3 r) f j ?_;have q:=(c.val k).Zp
  rw[Option.isSome_map]at q;rw[<-q,<-l];exact h _ (I.tok _)
def HR{Q:Q0}(p:A.units+1<cLine)(I:Inv X y2 U H s)(g:Zb H a y o)(n:RelV y u)(h:∀m,Inv X y2 U H m->Q (.bool (!o.isSome)) m):wpAny (model X.prog X.w) A (compareOp .NotIn u (.ref a)) Q E s:=by
 rcases g with⟨d,k,e,i,l⟩|⟨d,k,b,e,i,r,l⟩
 .subst i;obtain⟨z,f,v,c,j⟩:=mS I.Z3 e;refine wpAny_notIn_of (xQ n) f j.mapOf ?_;rw[<-(c.val k).Zp,<-l];exact h _ (I.tok _)
 .subst i;cases (show u=Value.ref b from n);obtain⟨z,f,t,c,j⟩:=tH I.Z3 e;refine wpAny_notIn_heap (Fg p) (oQ I.Z3 r) f j ?_;have q:=(c.val k).Zp
  rw[Option.isSome_map]at q;rw[<-q,<-l];exact h _ (I.tok _)
def Qq{c:HO}(I:Inv X y2 U H s)(f:Vl (H a))(hs:Heap.SameBut a s.heap h')(g:∃q,h'.get? a=some q)(d:ZZ X.prog X.w (upd H a c) h' a c):Inv X y2 U (upd H a c) {s with heap:=h',toks:=t'}:=
 I.write   f (.inl rfl) (λb q i z=>(hs.2 b i).trans z) g d
def D1{vs:List _}(z:kvs.length<=sizeLine)(c:(a==sysModules)=false)(b:KV kvs vs)(dd:h'.DictOf (bG P w) a vs):ZZ P w H' h' a (.dK kvs):=⟨z,c,vs,b,dd⟩
def D4{Q:Unit->Shared->Prop}(N:A.units+1<cLine)(I:Inv X y2 U H s)(g:XU H a y v H')(D:RelV y u)(F:RelV v r)(h:∀C,Inv X y2 U H' C->Q () C):wpAny (model X.prog X.w) A (setItem (.ref a) u r) Q E s:=by
 rcases g with⟨f,k,e,t,l,x⟩|⟨f,k,b,e,t,K,l,x⟩
 .subst t x;obtain⟨z,p,M,d,B⟩:=Pf I.Z3 e;have m:M.length<=sizeLine:=by rw[<-d.length];exact z
  have o:(eM f k v).length<=sizeLine:=by have:=gH f k v;((try clear N m z);omega)
  refine wpAny_setItem_pairs (hsz:=m) (xQ D) B λG i n=>h _ ?_;have O:∃q,G.get? a=some q:=let ⟨q,_,_,j,_⟩:=i;⟨q,j⟩
  exact Qq I (by rw[e];exact True.intro) n O (D1 o p (d.put k F) i)
 .subst t x;cases (show u=Value.ref b from D);obtain⟨z,p,L,d,B⟩:=QC I.Z3 e;have m:L.length<=sizeLine:=by rw[<-Paired.length d];exact z
  have o:(eM f k v).length<=sizeLine:=by have:=gH f k v;((try clear N m z);omega)
  refine wpAny_setItem_heap (hsz:=m) (Fg N) (oQ I.Z3 K) B λG i n=>h _ ?_;obtain⟨q,V,W,j,T,S,R,_,P⟩:=i;refine Qq I (by rw[e];exact True.intro) n ⟨q,j⟩ ⟨o,p,_,(d.put k K F).keeps λc Y J=>?_,q,V,W,j,T,S,R,P⟩
  rw[aH (KN J e (λz=>nomatch z))]
  exact J
end
def NO(i:Expr):Prop:=∀a b,subscripted i false a b=operate [a,b] (getItem a b)
def L3{b a:Expr}{id:String}{Q:Q0}(m:typeLookup (.type T) "__getitem__"=pure (some (.builtin id)))(hs:NO a)(h:wpAny (model prog w) A (eval b env) (λo f=>wpAny (model prog w) A (eval a env) (λi c=>c.TypeIs o T/\wpAny (model prog w) A (getItem o i) Q E c) E f) E s):wpAny (model prog w) A (eval (.Subscript b a pos) env) Q E s:=by
 refine Subscript_ (Cp h (λo f k=>Cp k (λi c d=>?_) λ_ _ x=>x) λ_ _ x=>x);obtain⟨l,d⟩:=d;refine Ae ?_;refine Ae (wpAny_specialOf l m ?_);have g:wpAny (model prog w) A (subscripted a false o i) (λr e=>wpAny (model prog w) A (letTemporaryGo b o r >>= λ_=>pure r) Q E e) E c:=by
  rw[hs o i];exact wpAny_operating (Cp d (λr e j=>Ae (wpAny_letTemporaryGo (As j))) λ_ _ x=>x)
 first
  |exact As (Ae g)
def EH{U:St}{o:Option V}(I:Inv X y2 U H s)(g:Zb H a y o):s.TypeIs (.ref a) "dict" := by
 rcases g with⟨c,k,e,_,_⟩|⟨c,k,b,e,_,_,_⟩
 .obtain⟨_,_,h,_,d⟩:=mS I.Z3 e;exact d.typeIs
 .obtain⟨_,_,f,_,d⟩:=tH I.Z3 e;exact d.typeIs
def RK(d c:TE):TE:=λU H Q=>d U H λx e=>c U e λy b=>∃a v,x=.ref a/\Zb b a y (some v)/\Q v b
def Oo(e c d:TE):TS:=λD U H=>d U H λv h=>e U h λx g=>c U g λy f=>∃a b,x=.ref a/\XU f a y v b/\D.nx U b
section
variable {o i value:Expr} {pos':Pos} {td ty:TE}
def kD(hu:X.A.units+1<cLine)(ho:PE X o td)(hi:PE X i ty)(hs:NO i):PE X (.Subscript o i pos) (RK td ty):=by
 intro y2 s U H Q I h;refine L3 PySem.F.slot_dict_getitem.lookup hs (ZX (ho y2 s U H _ I h) λu s1 ⟨x,H1,I1,rx,q1⟩=>ZX (hi y2 s1 U H1 _ I1 q1) λiv s2 μ=>?_);obtain⟨y,H2,I2,ry,a,v,ex,g,q2⟩:=μ;subst ex;obtain rfl:u=Value.ref a:=rx;exact⟨EH I2 g,C3 hu I2 g ry λw' s3 I3 rw'=>⟨v,H2,I3,rw',q2⟩⟩
def iU(hu:X.A.units+1<cLine)(ho:PE X o td)(hi:PE X i ty)(hv:PE X value tv)(hs:swapsWith value (some (.Subscript o i pos')) pos.line X.env=pure false):PS X (.Assign [.Subscript o i pos'] value pos) (Oo td ty tv):=by
 intro y2 s U H D I h;refine wpAny_Assign_Subscript (ZX (hv y2 s U H _ I h) λr s1 ⟨v,H1,I1,rv,q1⟩=>ZX (ho y2 s1 U H1 _ I1 q1) λu s2 ⟨x,H2,I2,rx,q2⟩=>ZX (hi y2 s2 U H2 _ I2 q2) λiv s3 μ=>?_) hs;obtain⟨y,H3,I3,ry,a,H4,ex,g,q3⟩:=μ;subst ex;obtain rfl:u=Value.ref a:=rx;exact D4 hu I3 g ry rv λs4 I4=>⟨U,H4,I4,q3⟩
end
def B7(h:Heap)(a:sysModules<h.objs.size):ZZ P w H (h.push {cls:=.type "dict",data:=.dict #[]}) h.objs.size (.dK []):=
 ⟨Da _,Dk.mpr (Ne.symm (Bl a)),[],.nil,Heap.DictOf.new h⟩
def BY(h:Heap)(a:sysModules<h.objs.size):ZZ P w H (h.push {cls:=.type "dict",data:=.dict #[]}) h.objs.size (.dT []):=
 ⟨Da _,Dk.mpr (Ne.symm (Bl a)),[],.nil,_,#[],0,Ay _ rfl,⟨rfl,rfl,rfl⟩,rfl,rfl,List.nodup_nil⟩
def Rj:TE:=λ_ H Q=>∀p,H p=none->Q (.ref p) (upd H p (.dK []))
def NM:TE:=λ_ H Q=>∀p,H p=none->Q (.ref p) (upd H p (.dT []))
def vS:PE X (.Dict [] [] pos) Rj:=λb s U H Q I h=>
 wpAny_Dict_empty ⟨.ref s.heap.objs.size,_,I.laid    (λ_ _ q=>Ai _ q) (Ah _) (B7 s.heap I.big),rfl,h _ (I.Z3.fresh (Ah _))⟩
def Rm:PE X (.Dict [] [] pos) NM:=λb s U H Q I h=>
 wpAny_Dict_empty ⟨.ref s.heap.objs.size,_,I.laid    (λ_ _ q=>Ai _ q) (Ah _) (BY s.heap I.big),rfl,h _ (I.Z3.fresh (Ah _))⟩
def Rb(H:Hp)(a:Addr):Prop:=(∃b,Rd H a (.dK b))\/∃b,Rd H a (.dT b)
def Mc{U:St}(I:Inv X y2 U H s)(d:Rb H a):s.TypeIs (.ref a) "dict"/\(∀b,Value.ref a=.ref b->∃c,s.heap.get? b=some c/\c.dict=none)/\(a==sysModules)=false:=by
 rcases d with⟨g,e⟩|⟨g,e⟩
 .obtain⟨_,h,l,_,f⟩:=mS I.Z3 e;refine⟨f.typeIs,λb q=>?_,h⟩;cases q;obtain⟨c,_,_,j,i,_⟩:=f;exact⟨c,j,i.2.1⟩
 .obtain⟨_,h,k,_,f⟩:=tH I.Z3 e;refine⟨f.typeIs,λb q=>?_,h⟩;cases q;obtain⟨c,_,_,j,i,_⟩:=f;exact⟨c,j,i.2.1⟩
section
variable {U:St} {d:V} {r:Value} {o:Option V}
def B9{Q:Q0}(r:A.units+1<cLine)(I:Inv X y2 U H s)(g:Zb H a y o)(p:RelV y u)(h:∀m n,Inv X y2 U H n->RelV (o.getD .non) m->Q m n):wpAny (model X.prog X.w) A (call (.builtin "dict.get") [.ref a,u]) Q E s:=by
 rcases g with⟨f,k,e,j,l⟩|⟨f,k,b,e,j,t,l⟩
 .subst j;obtain⟨z,i,v,c,d⟩:=mS I.Z3 e;refine Gz Ci d.typeIs Fc (Hk _ _) (meets_dict_get (bG X.prog X.w) a (xQ p) i) ⟨_,d.mapOf,h _ _ (I.tok _) ?_⟩;rw[l];exact(c.val k).getD rfl
 .subst j;cases (show u=Value.ref b from p);obtain⟨z,i,q,c,d⟩:=tH I.Z3 e;refine Gz Ci d.typeIs Fc (Hk _ _) (meetsH_dict_get (tupleKind (bG X.prog X.w)) a b i) ⟨Fg r,k,q,oQ I.Z3 t,d,h _ _ (I.tok _) ?_⟩;rw[l];exact(c.val k).getD rfl
def HU{Q:Q0}(x:A.units+1<cLine)(I:Inv X y2 U H s)(g:Zb H a y o)(q:RelV y u)(t:RelV d r)(h:∀n p,Inv X y2 U H p->RelV (o.getD d) n->Q n p):wpAny (model X.prog X.w) A (call (.builtin "dict.get") [.ref a,u,r]) Q E s:=by
 rcases g with⟨i,k,e,m,l⟩|⟨i,k,b,e,m,B,l⟩
 .subst m;obtain⟨z,j,C,c,f⟩:=mS I.Z3 e;refine Gz Ci f.typeIs Fc (PySem.F.args_dict_get_3 _ _ _) (meets_dict_get_default (bG X.prog X.w) a (xQ q) j r) ⟨_,f.mapOf,h _ _ (I.tok _) ?_⟩;rw[l];exact(c.val k).getD t
 .subst m;cases (show u=Value.ref b from q);obtain⟨z,j,v,c,f⟩:=tH I.Z3 e;refine Gz Ci f.typeIs Fc (PySem.F.args_dict_get_3 _ _ _) (meetsH_dict_get_default (tupleKind (bG X.prog X.w)) a b j r) ⟨Fg x,k,v,oQ I.Z3 B,f,h _ _ (I.tok _) ?_⟩;rw[l];exact(c.val k).getD t
end
section
variable {U:St}
def Inv.re(I:Inv X y2 U H s)(j:∀b,H b=none->H' b=none)(f:∀b l,X.H₀ b=some (.tup l)->H' b=some (.tup l))(i:∀b o u,X.H₀ b=some (.frz o u)->H' b=some (.frz o u))(g:∀b m,X.H₀ b=some (.tbl m)->∃h,H' b=some (.tbl (m++h)))(k:Zl X.prog X.w H' s.heap):Inv X y2 U H' s:=
 ⟨I.ok,I.os,I.bare,⟨I.base.keep,I.base.slot,λb o e n q=>j b (I.base.free b o e n q),I.base.there,f,i,g⟩,I.loc,I.cell,j _ I.free,λx c e=>j c (I.ZN x c e),λp r=>by
  obtain⟨a,b,c,d,e⟩:=I.pin p r;exact⟨a,j _ b,c,d,e⟩,k,I.len⟩
noncomputable def N4:HO->Bool
 |.dK _=>true
 |.dT _=>true
 |_=>false
def Inv.freeze{u:HO}(I:Inv X y2 U H s)(i:H a=some u)(j:N4 u=true)(r:s.heap.get? a=some o):Inv X y2 U (upd H a (.frz o u)) s:=by
 have h:∀c v,H c=some v->N4 v=false->c≠a:=λc v q n z=>by grind
 have g:∀c y,H c=some (.own y)->upd H a (.frz o u) c=some (.own y):=λc y q=>by rw[aH (h c _ q rfl)];exact q
 have d:∀c f,H c=some (.tup f)->upd H a (.frz o u) c=some (.tup f):=λc f q=>by rw[aH (h c _ q rfl)];exact q
 refine I.re (λb q=>by rw[aH (λz=>by rw[z,i]at q;cases q)];exact q) (λb f q=>d b f (I.base.tups b f q)) (λb p v q=>?_) (λb l q=>?_) (λb v q=>?_)
 .have:=I.base.frzs b p v q
  rw[aH (h b _ this rfl)];exact this
 .obtain⟨m,e⟩:=I.base.tbls b l q;exact⟨m,by rw[aH (h b _ e rfl)];exact e⟩
 .by_cases k:b=a
  .subst k;rw[aD]at q;cases q;exact(show s.heap.get? b=some o/\ZZ X.prog X.w (upd H b (.frz o u)) s.heap b u from⟨r,(I.Z3 b _ i).ZD (λ_ _ _ q=>q) (λc=>g c b) d⟩)
  .rw[aH k]at q;exact(I.Z3 b v q).ZD (λ_ _ _ q=>q) (λc=>g c b) d
noncomputable def Za(Hs H:Hp):Hp:=λb=>match H b with
 |some (.frz o u)=>(match Hs b with|some (.frz _ _)=>some (.frz o u)|_=>some u)
 |x=>x
def eY{u:HO}(h:H b=some u)(n:∀o v,u≠.frz o v):Za Hs H b=some u:=by
 unfold Za;grind
def uW(h:H b=none):Za Hs H b=none:=by unfold Za;rw[h]
def tZ{Hs:Hp}{u:HO}(h:H b=some (.frz o u))(n:∀o v,Hs b≠some (.frz o v)):Za Hs H b=some u:=by
 unfold Za;simp_all
def mV{a:Obj}{u u':HO}(h:H b=some (.frz o u))(n:Hs b=some (.frz a u')):Za Hs H b=some (.frz o u):=by
 unfold Za;simp_all
def Inv.Zr{Hs:Hp}(I:Inv X y2 U H s)(r:∀b o u,X.H₀ b=some (.frz o u)->Hs b=some (.frz o u)):Inv X y2 U (Za Hs H) s:=by
 have d:∀c y,H c=some (.own y)->Za Hs H c=some (.own y):=λc y q=>eY q λ_ _ z=>by cases z
 have a:∀c f,H c=some (.tup f)->Za Hs H c=some (.tup f):=λc f q=>eY q λ_ _ z=>by cases z
 refine I.re (λb q=>uW q) (λb f q=>a b f (I.base.tups b f q)) (λb o u q=>mV (I.base.frzs b o u q) (r b o u q)) (λb p q=>?_) (λb u q=>?_)
 .obtain⟨m,e⟩:=I.base.tbls b p q;exact⟨m,eY e λ_ _ z=>by cases z⟩
 .cases e:H b with
  |none=>rw[uW e]at q;cases q
  |some v=>
   have j:=I.Z3 b v e
   by_cases n:∃o g,v=.frz o g
   .obtain⟨o,g,rfl⟩:=n;have i:=j
    by_cases h:∃l k,Hs b=some (.frz l k)
    .obtain⟨l,k,h⟩:=h;rw[mV e h]at q;cases q;exact j.ZD (λ_ _ _ q=>q) (λc=>d c b) a
    .rw[tZ e λo v z=>h ⟨o,v,z⟩]at q;cases q;exact i.2.ZD (λ_ _ _ q=>q) (λc=>d c b) a
   .rw[eY e λo g z=>n ⟨o,g,z⟩]at q;cases q;exact j.ZD (λ_ _ _ q=>q) (λc=>d c b) a
noncomputable def Vn(Hs:Hp)(D:Ends):Ends:=⟨λU H=>D.nx U (Za Hs H),λv H=>D.rt v (Za Hs H),λU H=>D.bk U (Za Hs H),λU H=>D.ct U (Za Hs H)⟩
end
def Rx(t:TE):TE:=λU H Q=>t U H λv a=>Q v (Za H a)
def N_(t:TS):TS:=λD U H=>t (Vn H D) U H
def PR(h:PE X e t):PE X e (Rx t):=λa s U H Q I q=>ZX (h a s U H _ I q) λv g ⟨x,f,d,r,c⟩=>⟨x,Za H f,d.Zr λb o u e=>I.base.frzs b o u e,r,c⟩
def SM(h:PS X st t):PS X st (N_ t):=λi s U H D I q=>ZX (h i s U H _ I q) λf k g=>by
 cases f with
 |next=>obtain⟨a,d,c,r⟩:=g;exact⟨a,Za H d,c.Zr λb o u e=>I.base.frzs b o u e,r⟩
 |brk=>obtain⟨a,d,c,r⟩:=g;exact⟨a,Za H d,c.Zr λb o u e=>I.base.frzs b o u e,r⟩
 |cont=>obtain⟨a,d,c,r⟩:=g;exact⟨a,Za H d,c.Zr λb o u e=>I.base.frzs b o u e,r⟩
 |ret u=>obtain⟨v,a,d,c,j,r⟩:=g;exact⟨v,a,Za H d,c.Zr λb o u e=>I.base.frzs b o u e,j,r⟩
def Kw(h:t U H λv a=>Q v (Za H a)):Rx t U H Q:=h
def Nv(h:t (Vn H D) U H):N_ t D U H:=h
def xR{u:HO}(f:Hs a=some u)(g:∀o v,u≠.frz o v)(h:Z_ (upd Hs a (.frz o u)) H):Z_ Hs (Za Hs H):=λb v q=>by
 by_cases e:b=a
 .subst e;rw[f]at q;cases q;exact tZ (h _ _ aD) λo v z=>by grind
 .have:=h b v (by rwa[aH e])
  by_cases d:∃o c,v=.frz o c
  .obtain⟨i,c,rfl⟩:=d;exact mV this q
  .exact eY this λo c z=>d ⟨o,c,z⟩
def JQ(h:Z_ Hs H):Z_ Hs (Za Hs H):=λb v q=>by
 have:=h b v q
 by_cases c:∃o a,v=.frz o a
 .obtain⟨d,a,rfl⟩:=c;exact mV this q
 .exact eY this λo a z=>c ⟨o,a,z⟩
def xO{a:Type}{R:α->a->Prop}{xs:List α}{ys:List a}(r:Paired R xs ys):∀ {i:Nat} {x:α},xs[i]?=some x->∃y,ys[i]?=some y/\R x y:=by
 induction r with
 |nil=>intro i x h;cases h
 |cons h t c=>
  intro i x b;cases i with
  |zero=>cases b;exact⟨_,rfl,h⟩
  |succ i=>exact c  b
def K0(h:(bG P w).is k u=true):RelV (kV k) u:=by
 rcases bW h with⟨i,t,rfl,rfl⟩|⟨x,t,rfl,rfl⟩
 .exact⟨t,rfl⟩
 .exact⟨t,rfl⟩
noncomputable def SW(a:Addr)(o:Obj)(b:List (Key×V)):It:=⟨λi H=>H a=some (.frz o (.dK b))/\i<b.length,λi H x d=>d=H/\∃c,b[i]?=some c/\x=kV c.1,λi H=>H a=some (.frz o (.dK b))/\b.length=i⟩
def Sr{U:St}(I:Inv X y2 U H s)(m:H a=some (.frz o (.dK kvs)))(h:∃i,o.data=.dict i ep):kvs.length<=sizeLine/\(a==sysModules)=false/\∃c,KV kvs c/\s.heap.DictAt (bG X.prog X.w) a c ep:=by
 have j:=I.Z3 a _ m
 obtain⟨e,z,l,c,f,t,n,p,d,k,b,r⟩:=j;rw[e]at d;cases d;obtain⟨i,g⟩:=h;have q:=b
 rw[g]at q;cases q;exact⟨z,l,c,f,o,_,e,k,b,r⟩
def CL(a m:Addr)(o:Obj)(l:List (Key×V))(W:Nat)(q:∃es,o.data=.dict es W):Turn P w K tg (SW a o l) [m] m (λi h=>h.IsKeyIter m a i l.length W) where
 mem:=by simp
 obj:=λi h f b n=>by
  have e:b=m:=by simpa using n
  subst e;obtain⟨o,e,c,d⟩:=f;exact⟨o,e,λv z=>by rw[d]at z;cases z⟩
 keep:=λi h x f k=>let ⟨o,ho,r⟩:=f;⟨o,k m (by simp) o ho,r⟩
 item:=by
  intro X G A J T i S s U H E I u f D;subst G A J;obtain⟨F,C⟩:=D;obtain⟨z,hd,Y,g,R⟩:=Sr I F q;have j:=g.length
  obtain⟨Q,O,f2,N,M,L⟩:=u m (by simp)
  obtain⟨⟨k,v⟩,hx,B,_⟩:=xO g (Aa C);refine wpAny_pyNext_dict_item (knd:=bG X.prog X.w) (by rw[<-j];exact f) R hx λy x hk p Z=>?_
  have I1:=I.turned (t':=s.toks) (λb o n e=>(Z.2 b n).trans e) Q O N M L
  obtain⟨oi,e,c,d⟩:=id p;refine⟨y,rfl,wN (s:={s with heap:=x}) e c d (by decide) ⟨kV k,H,I1,K0 hk,⟨rfl,l[i],Aa C,by rw[B]⟩,?_,λb n=>(u b n).1⟩⟩
  rw[j];exact p
 done:=by
  intro X G A J T i S s U H E I u f D;subst G A J;obtain⟨F,C⟩:=D;obtain⟨z,hd,Y,g,R⟩:=Sr I F q;have j:=g.length
  obtain⟨Q,O,f2,N,M,L⟩:=u m (by simp)
  exact wpAny_pyNext_dict_end (knd:=bG X.prog X.w) (I.ok.hd T) (by rw[<-j];exact f) R (Ek (by ((try clear N O z);omega))) λx eb=>⟨rfl,I.turned (t':=s.toks) (λb o n e=>eb b o n e) Q O N M L⟩
 self:=λ_ _ _ _ _ f h=>wpAny_pyIter_keyiter f h
def IE{U:St}(I:Inv X y2 U H s)(f:H a=some (.dK kvs)):∃o b c,s.heap.get? a=some o/\o.data=.dict b c:=by
 obtain⟨_,_,g,_,o,b,c,d,_,e,_⟩:=Pf I.Z3 f;exact⟨o,b,c,d,e⟩
def EZ{U:St}(I:Inv X y2 U H s)(i:H a=some (.frz o (.dK kvs))):∃d,∃c,o.data=.dict c d:=by
 have g:=I.Z3 a _ i
 obtain⟨e,_,_,b,_,j,c,d,f,_,h,_⟩:=g;grind
def UT(H:Hp)(a:Addr)(R:Obj->List (Key×V)->Hp->Prop):Prop:=(∃b,H a=some (.dK b)/\∀o,R o b (upd H a (.frz o (.dK b))))\/∃o b,H a=some (.frz o (.dK b))/\R o b H
def walk_at{U:St}{R:Obj->List _->Hp->Prop}(I:Inv X y2 U H s)(h:UT H a R):∃o b g e,Inv X y2 U g s/\g a=some (.frz o (.dK b))/\(∃d,o.data=.dict d e)/\R o b g:=by
 rcases h with⟨b,c,q⟩|⟨o,b,c,q⟩
 .obtain⟨o,d,e,i,f⟩:=IE I c;exact⟨o,b,_,e,I.freeze c rfl i,aD,⟨d,f⟩,q o⟩
 .obtain⟨e,d,f⟩:=EZ I c;exact⟨o,b,H,e,I,c,⟨d,f⟩,q⟩
def O7(c:TE):TI:=λU H R=>c U H (iQ λa e=>UT e a λo b d=>R (SW a o b) d)
def Jd(m:PE X l tl):PI X tg l (O7 tl):=by
 intro j s U H R I h;refine ZX (m j s U H _ I h) λv c ⟨x,E,B,k,d⟩=>?_;unfold iQ at d;split at d
 .cases k;rename_i A _
  obtain⟨o,i,C,u,f,r,a,q⟩:=walk_at B d;obtain⟨z,n,D,g,y⟩:=Sr f r a;refine wpAny_pyIter_dict (knd:=bG X.prog X.w) n y ?_;refine⟨c.heap.objs.size,[c.heap.objs.size],_,_,C,rfl,f.kept (t':=c.toks) λb o e=>Ai _ e,CL A _ o i u a,⟨_,Ay _ rfl,rfl,by rw[g.length];rfl⟩,λb p=>?_,q⟩
  have e:b=c.heap.objs.size:=by simp_all
  subst e;exact f.YC (Ah _) (f.Z3.fresh (Ah _))
 .exact d.elim
noncomputable def XE(H:Hp)(p:Addr):Bool:=match H p with
 |some (.dK _)=>true
 |some (.dT _)=>true
 |some (.frz _ (.dK _))=>true
 |some (.frz _ (.dT _))=>true
 |_=>false
def EL(h:XE H p=true):Rb H p:=by
 unfold XE at h;split at h
 .exact .inl ⟨_,.inl (by assumption)⟩
 .exact .inr ⟨_,.inl (by (assumption))⟩
 .exact .inl ⟨_,.inr ⟨_,by assumption⟩⟩
 .exact .inr ⟨_,.inr ⟨_,by assumption⟩⟩
 .cases h
def oR(h:H p=some (.dK kvs)):XE H p=true:=by unfold XE;rw[h]
def ON(h:H p=some (.frz o (.dK kvs))):XE H p=true:=by unfold XE;rw[h]
section
variable {U:St}
def Mq(h:tl U H (iQ λa d=>UT d a λo b c=>R (SW a o b) c)):O7 tl U H R:=h
def CH{b:Obj->List _->Hp->Prop}(e:H a=some (.dK kvs))(h:∀o,b o kvs (upd H a (.frz o (.dK kvs)))):UT H a b:=.inl ⟨kvs,e,h⟩
end
section
variable {o:Expr} {t:TA} {id:String}
def Px(r:V->List V->Hp->VK->Prop)(c:TE)(t:TA):TE:=λU H Q=>c U H (iQ λp a=>XE a p=true/\t U a λb d=>r (.ref p) b d Q)
def hU(d:Slot "dict" name id)(i:typeOf (.builtin id)=pure (.type "method_descriptor"))(B:Yv X id r)(A:PE X o to)(D:PA X (e::es) t)(c:attributeBase o name X.env (eval o X.env)=eval o X.env:=by rfl)(f:((backTo cpos (starEach (e::es) X.env)).all (λx=>!x.1)&&(backToKw cpos (keywordEach [] X.env)).all (λx=>x.1.isSome)
 && decide ((e::es).length+([]:List Keyword).length+(if ([]:List Keyword).isEmpty then 0 else 1)<30))=true:=by rfl)(b:(apos.endLine==cpos.line)=true:=by rfl)(hs:starEach (e::es) X.env=(false,eval e X.env)::starEach es X.env:=by rfl)(a:(backTo cpos (starEach es X.env)).any (·.1)=false:=by rfl):PE X (.Call (.Attribute o name apos) (e::es) [] cpos) (Px r to t):=by
 intro g s U H Q I h;refine Hn c f b rfl (ZX (A g s U H _ I h) λv u μ=>?_);obtain⟨x,L,l,j,q⟩:=μ;unfold iQ at q;split at q
 .obtain⟨C,z⟩:=q;obtain⟨G,E,_⟩:=Mc l (EL C);cases _root_.id j;refine⟨"dict",_,PySem.F.plainAttrs_dict,d,i,G,E,?_⟩;have k:=D cpos g u U L _ l z
  rw[hs]at k ⊢;refine Ho (by show (false || (backTo cpos (starEach es X.env)).any (·.1))=false;rw[a]<;>rfl) (Gv ?_)
  exact ZX k λn p ⟨m,K,J,w,y⟩=>B g p U K _ m _ n Q J j w y
 simp_all
def Rp:V->List V->Hp->VK->Prop:=λx b H Q=>∃a y z o,x=.ref a/\b=[y,z]/\Zb H a y o/\Q (o.getD z) H
def U5(i:X.A.units+1<cLine):Yv X "dict.get" Rp:=by
 intro k s U H x n v o Q I c d h;obtain⟨a,y,z,r,rfl,rfl,g,q⟩:=h;cases c;obtain⟨u,m,rfl,e,b⟩:=T1 d;exact HU i I g e b λl p j f=>⟨_,H,j,f,q⟩
def Ru:V->List V->Hp->VK->Prop:=λx b H Q=>∃(p:Addr) (a:List Str) (z:Str),x=.ref p/\b=[.str z]/\Z4 H p=some (a.map V.str)/\Q (.int ((a.countP (· == z):Nat):Int)) H
def sQ(z:Str):∀a:List Str,countIn (.str z) (a.map PyData.str)=((a.countP (· == z):Nat):Int)
 |[]=>rfl
 |y::r=>by
  have b:=sQ z r
  rw[Au];unfold countIn;rw[b,Dv];by_cases e:y=z
  .subst e;simp[same];((try clear b);omega)
  .simp[same,e]
def Nw:Yv X "list.count" Ru:=by
 intro i s U H x j v k Q I a b h;obtain⟨p,g,z,rfl,rfl,f,q⟩:=h;cases a;obtain⟨u,rfl,c⟩:=b.one;obtain⟨t,rfl⟩:=c;obtain⟨e,r,d,_⟩:=I.list (bC f);exact count_list_strs d.isList (vM r) (by rw[sQ];exact⟨.int _,H,I.tok _,⟨_,rfl⟩,q⟩)
def S7(x y:V)(H:Hp)(Q:VK):Prop:=∃a v,x=.ref a/\Zb H a y (some v)/\Q v H
def R1(D:Ends)(U:St)(x y v:V)(H:Hp):Prop:=∃a b,x=.ref a/\XU H a y v b/\D.nx U b
end
section
variable {U:St} {w:V} {td ty:TE} {t:TA}
def F7(h:to U H (iQ λp a=>XE a p=true/\t U a λb c=>r (.ref p) b c Q)):Px r to t U H Q:=h
def DN{P:Prop}(e:XE H a=true)(h:P):XE H a=true/\P:=⟨e,h⟩
def Vq(e:Rd H a (.dK kvs))(h:Q ((cM kvs (Sum.inr z)).getD w) H):Rp (.ref a) [.str z,w] H Q:=⟨a,.str z,w,_,rfl,rfl,.inl ⟨kvs,.inr z,e,rfl,rfl⟩,h⟩
def A_{ys:List Str}(e:Z4 H p=some (ys.map V.str))(h:Q (.int ((ys.countP (· == z):Nat):Int)) H):Ru (.ref p) [.str z] H Q:=⟨p,ys,z,rfl,rfl,e,h⟩
def Dl(h:∀p,H p=none->Q (.ref p) (upd H p (.dK []))):Rj U H Q:=h
def G4(h:td U H λx b=>ty U b λy a=>S7 x y a Q):RK td ty U H Q:=h
def UD(e:Rd H a (.dK kvs))(l:cM kvs (Sum.inr z)=some v)(h:Q v H):S7 (.ref a) (.str z) H Q:=⟨a,v,rfl,.inl ⟨kvs,.inr z,e,rfl,l.symm⟩,h⟩
def GI(h:tv U H λv c=>td U c λx b=>ty U b λy a=>R1 D U x y v a):Oo td ty tv D U H:=h
def nP(e:H a=some (.dK kvs))(l:kvs.length<sizeLine)(h:D.nx U (upd H a (.dK (eM kvs (Sum.inr z) v)))):R1 D U (.ref a) (.str z) v H:=⟨a,_,rfl,.inl ⟨kvs,.inr z,e,rfl,l,rfl⟩,h⟩
end
section
open PySem.AutoSeq1 (wpAny_loadPart')
open PySem.MeetsSeq PySem.MeetsSeq2 PySem.MeetsSeq3
def XM(P:Program)(w:World)(A:Around)(s:Shared)(u v:Value):Prop:=∀E Q,Q true s->wpAny (model P w) A (eqBool u v) Q E s
def B0(l b:Addr)(xs ys:Array Value)(n x:Nat)(dd p:Option Addr)(u f:Array (Option Value))(hsz:xs.size=ys.size)(k:Nat):∀i,xs.size-i=k->MeetsIn P w (Builtin.«list.__eq__.loop» ⟨[.ref l,.ref b,rawInt i,rawInt 2],[]⟩)
 (λA R s=>s.heap.get? l=some ⟨.type "list",dd,.seq xs n,u⟩/\s.heap.get? b=some ⟨.type "list",p,.seq ys x,f⟩/\(∀j E (D:j<ys.size),XM P w A.in1 s xs[j] ys[j])/\R (.ok (.ret (.bool true))) s):=by
 induction k with
 |zero=>
  intro i B A R s h;obtain⟨z,g,d,t,v⟩:=s;obtain⟨e,c,o,h⟩:=h
  wp_walk using (Ck e),(Ck c)
  have m:xs[((i:Nat):Int).toNat]?=none:=by simp;omega
  have a:ys[((i:Nat):Int).toNat]?=none:=by simp;omega
  rw[m,a]
  wp_walk using (Ck e),(Ck c)
  show R (.ok (.ret (.bool (xs.size==ys.size)))) _
  rwa[hsz,Fd]
 |succ k y=>
  intro i B A R s h;obtain⟨z,g,d,t,v⟩:=s;obtain⟨e,c,o,h⟩:=h
  wp_walk using (Ck e),(Ck c)
  have r:i<xs.size:=by omega
  have q:i<ys.size:=by ((try clear B);omega)
  have m:xs[((i:Nat):Int).toNat]?=some xs[i]:=by simp
  have a:ys[((i:Nat):Int).toNat]?=some ys[i]:=by simp
  have C:((i:Int)+1)=((i+1:Nat):Int):=by push_cast;rfl
  rw[m,a];refine Ae (o i r q _ _ ?_)
  wp_walk
  rw[C];refine⟨Ft plain_eq_loop _,Eu entry_eq_loop ?_⟩;exact y (i+1) (by ((try clear C q);omega)) A R _ ⟨e,c,o,h⟩
def C7(l b:Addr)(xs ys:Array Value)(n x:Nat)(dd p:Option Addr)(u f:Array (Option Value))(hsz:xs.size=ys.size)(k:Nat):∀i,xs.size-i=k->MeetsIn P w (Builtin.«list.__eq__.loop» ⟨[.ref l,.ref b,rawInt i,rawInt 3],[]⟩)
 (λA R s=>s.heap.get? l=some ⟨.type "list",dd,.seq xs n,u⟩/\s.heap.get? b=some ⟨.type "list",p,.seq ys x,f⟩/\(∀j E (D:j<ys.size),XM P w A.in1 s xs[j] ys[j])/\R (.ok (.ret (.bool false))) s):=by
 induction k with
 |zero=>
  intro i B A R s h;obtain⟨z,g,d,t,v⟩:=s;obtain⟨e,c,o,h⟩:=h
  wp_walk using (Ck e),(Ck c)
  have m:xs[((i:Nat):Int).toNat]?=none:=by simp;omega
  have a:ys[((i:Nat):Int).toNat]?=none:=by simp;omega
  rw[m,a]
  wp_walk using (Ck e),(Ck c)
  show R (.ok (.ret (.bool (xs.size != ys.size)))) _
  rwa[hsz,bne_self_eq_false]
 |succ k y=>
  intro i B A R s h;obtain⟨z,g,d,t,v⟩:=s;obtain⟨e,c,o,h⟩:=h
  wp_walk using (Ck e),(Ck c)
  have r:i<xs.size:=by omega
  have q:i<ys.size:=by ((try clear B);omega)
  have m:xs[((i:Nat):Int).toNat]?=some xs[i]:=by simp
  have a:ys[((i:Nat):Int).toNat]?=some ys[i]:=by simp
  have C:((i:Int)+1)=((i+1:Nat):Int):=by push_cast;rfl
  rw[m,a];refine Ae (o i r q _ _ ?_)
  wp_walk
  rw[C];refine⟨Ft plain_eq_loop _,Eu entry_eq_loop ?_⟩;exact y (i+1) (by ((try clear C q);omega)) A R _ ⟨e,c,o,h⟩
section
variable {l:Addr} {xs ys:Array Value}
def Jk{Q:Q0}(hl:s.heap.IsList l xs)(hb:s.heap.IsList b ys)(hsz:xs.size=ys.size)(hu:A.units<cLine)(he:∀j h1 (h2:j<ys.size),XM P w A.in1 s xs[j] ys[j])(h:Q (.bool true) s):wpAny (model P w) A (richCompare .Eq (.ref l) (.ref b)) Q E s:=by
 obtain⟨⟨cls,dd,data,sl⟩,ho,hc,n,hd⟩:=id hl;obtain⟨⟨cls2,dd2,data2,sl2⟩,ho2,hc2,n2,hd2⟩:=id hb;obtain rfl:cls=.type "list" := hc;obtain rfl:data=.seq xs n:=hd;obtain rfl:cls2=.type "list" := hc2;obtain rfl:data2=.seq ys n2:=hd2;have g:MeetsIn P w (Builtin.«list.__eq__» ⟨[.ref l,.ref b],[]⟩) (λA R s=>s.heap.get? l=some ⟨.type "list",dd,.seq xs n,sl⟩/\s.heap.get? b=some ⟨.type "list",dd2,.seq ys n2,sl2⟩/\(∀j h1 (h2:j<ys.size),XM P w A.in1 s xs[j] ys[j])/\R (.ok (.ret (.bool true))) s):=by
  intro A R s h;obtain⟨hp,g,d,tk,os⟩:=s;obtain⟨ha,hq,he,h⟩:=h;have f3:=AutoSeq1.sub_list_list
  have hne:¬(xs.size != ys.size)=true:=by simp[hsz]
  wp_walk using (Ck ha),(Ck hq)
  refine⟨Ft plain_eq_loop _,Eu entry_eq_loop ?_⟩;exact B0 l b xs ys n n2 dd dd2 sl sl2 hsz _ 0 rfl A R _ ⟨ha,hq,he,h⟩
 exact wpAny_richCompare_same_room (op:=.Eq) ⟨_,ho,rfl⟩ ⟨_,ho2,rfl⟩ PySem.F.slot_list_eq (Gz PySem.F.slot_list_eq ⟨_,ho,rfl⟩ PySem.F.entry_list_eq (PySem.F.args_list_eq_2 _ _) g ⟨ho,ho2,he,show Value.bool true≠Value.notImplemented/\Q (.bool true) s from⟨(λx=>nomatch x),h⟩⟩) hu
def Le{Q:Q0}(hl:s.heap.IsList l xs)(hb:s.heap.IsList b ys)(hsz:xs.size=ys.size)(hu:A.units<cLine)(he:∀j h1 (h2:j<ys.size),XM P w A.in1 s xs[j] ys[j])(h:Q (.bool false) s):wpAny (model P w) A (richCompare .NotEq (.ref l) (.ref b)) Q E s:=by
 obtain⟨⟨cls,dd,data,sl⟩,ho,hc,n,hd⟩:=id hl;obtain⟨⟨cls2,dd2,data2,sl2⟩,ho2,hc2,n2,hd2⟩:=id hb;obtain rfl:cls=.type "list" := hc;obtain rfl:data=.seq xs n:=hd;obtain rfl:cls2=.type "list" := hc2;obtain rfl:data2=.seq ys n2:=hd2;have g:MeetsIn P w (Builtin.«list.__ne__» ⟨[.ref l,.ref b],[]⟩) (λA R s=>s.heap.get? l=some ⟨.type "list",dd,.seq xs n,sl⟩/\s.heap.get? b=some ⟨.type "list",dd2,.seq ys n2,sl2⟩/\(∀j h1 (h2:j<ys.size),XM P w A.in1 s xs[j] ys[j])/\R (.ok (.ret (.bool false))) s):=by
  intro A R s h;obtain⟨hp,g,d,tk,os⟩:=s;obtain⟨ha,hq,he,h⟩:=h;have f3:=AutoSeq1.sub_list_list
  have hne:¬(xs.size != ys.size)=true:=by simp[hsz]
  wp_walk using (Ck ha),(Ck hq)
  refine⟨Ft plain_eq_loop _,Eu entry_eq_loop ?_⟩;exact C7 l b xs ys n n2 dd dd2 sl sl2 hsz _ 0 rfl A R _ ⟨ha,hq,he,h⟩
 exact wpAny_richCompare_same_room (op:=.NotEq) ⟨_,ho,rfl⟩ ⟨_,ho2,rfl⟩ PySem.F.slot_list_ne (Gz PySem.F.slot_list_ne ⟨_,ho,rfl⟩ PySem.F.entry_list_ne (PySem.F.args_list_ne_2 _ _) g ⟨ho,ho2,he,show Value.bool false≠Value.notImplemented/\Q (.bool false) s from⟨(λx=>nomatch x),h⟩⟩) hu
def XM.same(u:Value):XM P w A s u u:=λE Q a=>SeqAt.EqAt.same u P w E Q a
def XM.refs(a:l≠b)(h:∀(E:Q0) (Q:Q0),Q (.bool true) s->wpAny (model P w) A (richCompare .Eq (.ref l) (.ref b)) Q E s):XM P w A s (.ref l) (.ref b):=λE Q d=>by
 refine Co (wpAny_ite_split (λc=>absurd (by grind) a) (λ_=>?_))
 exact Ae (h E _ (Fn d))
end
def RS(b a:List (Key×V)):Prop:=b.length=a.length/\∀c∈b,bY c.2=true/\cM a c.1=some c.2
def Rn{d:List _}{g:List _}(i:KV d g){vs:List _}(r:KV kvs vs)(h:∀a∈kvs,bY a.2=true/\cM d a.1=some a.2):W.KeqHits A s g vs true:=by
 induction r with
 |nil=>exact .nil
 | @cons a n _ _ w t p=>
  obtain⟨k,v⟩:=a;obtain⟨x,u⟩:=n;obtain⟨e,o⟩:=w;cases e;obtain⟨f,q⟩:=h _ (Ak ..);have c:=i.val k
  rw[q]at c;cases l:valueAt g k with
  |none=>rw[l]at c;exact(show False from c).elim
  |some y=>
   rw[l]at c;have m:=sI (A:=A) (s:=s) o (show RelV v y from c) f f
   rw[Pa f]at m;exact .hit   l m (p λa j=>h a (Al _ j))
def M7{U:St}(I:Inv X y2 U H s){p:Addr}{a:List _}(o:Rd H p (.dK kvs))(n:Rd H q (.dK a))(d:RS kvs a)(g:A.units<cLine)(E:Q0)(Q:Q0):(Q (.bool true) s->wpAny (model X.prog X.w) A (richCompare .Eq (.ref p) (.ref q)) Q E s)/\(Q (.bool false) s->wpAny (model X.prog X.w) A (richCompare .NotEq (.ref p) (.ref q)) Q E s):=by
 obtain⟨u,k,m,f,c⟩:=mS I.Z3 o;obtain⟨t,j,l,e,b⟩:=mS I.Z3 n;have i:(m.length==l.length)=true:=Hi.mpr (by rw[<-f.length,<-e.length];exact d.1)
 refine⟨λh=>W.keq_eq (r:=true) k j c b g (λ_=>Rn e f d.2) (by rwa[i]),λh=>W.keq_ne (r:=true) k j c b g (λ_=>Rn e f d.2) (by rwa[i])⟩
def Z2.u1(r:Z2 k A):A.units+1<cLine:=by have:=r.un;omega
end
section
open PySem.AutoSeq1 (wpAny_loadPart')
def Tp:∀ {c:List V} {d:List Value},d.length=c.length->(∀(j:Nat) x u,c[j]?=some x->d[j]?=some u->RelV x u)->Vals c d
 |[],[],_,_=>.nil
 |x::r,u::t,hl,h=>.cons (h 0 x u rfl rfl) (Tp (by simp_all) λj e f a b=>h (j+1) e f (by simp_all) (by simp_all))
 |[],_::_,hl,_=>absurd hl (by simp)
end
section
open PySem.W
section
variable {K:Frag} {x D:Addr} {ox:Obj} {od:Option Obj}
def Ly{v:Value}{a:Bool}{Q:Q0}(Z:Xl K D)(X:K.In s.heap)(I:InstAt s.heap x ox D od)(f:findObj K D od name=some (.value v))(e:handedIn v=true)(h:Q v {s with toks:=s.toks+1}):wpAny (model prog w) A (getAttr (.ref x) name a) Q E s:=by
 obtain⟨n,g,d,t,m⟩:=s;have b:=I.type (M:=model prog w)
 have l:=looks_findIn (M:=model prog w) X Z.ga
 have k:=looks_findIn (M:=model prog w) X Z.gh
 have j:=looks_find (M:=model prog w) X I f
 unfold getAttr getAttrBy;refine Ae (wpAny_mkText (Co (Ae (b.at (Ae (l.at ?_))))));have c:(Value.builtin "BaseException.__getattribute__" == Value.builtin "object.__getattribute__")=false:=by decide +kernel
 have i:=F.excAttr_ValueError.ga.bind (.ref x)
 dsimp only;rw[c,Bool.and_false,if_neg Ar];unfold getAttrByItsOwn hookBefore;rw[if_pos (show onTheHeap (Value.ref D)=true from rfl)];refine Ae (k.at (Ae (wpAny_attempt (Co ?_))));unfold callGetattribute boundAndCalled;rw[if_neg (by rw[show onTheHeap (Value.builtin "BaseException.__getattribute__")=false from rfl,Bool.and_false];exact Ar)]
 refine Ae (wpAny_of_eq i ?_);refine Ge (Fp F.excAttr_ValueError.ga.plain F.entry_bexc_ga (HB Z X I ?_));unfold Builtin.«object.__getattribute__»;refine Ae (As (Ae (As (Ae (b.at (Ae (j.at ?_)))))));refine As ?_;exact handed_on e h
def Kp{e t0:Addr}{vs:Array Value}{c:List Value}{Q:Q0}(Z:Xl K D)(X:K.In s.heap)(I:InstAt s.heap e oe D od)(r:W.subIn K (.ref D) (.type "ValueError")=some true)(i:oe.data=.fields vs)(j:vs[0]?=some (.ref t0))(m:c.length<=sizeLine)(h:Q .none {s with heap:=(s.heap.push {cls:=.type "tuple",data:=.seq c.toArray}).update e (Obj.mapFields (·.setIfInBounds 0 (.ref s.heap.objs.size)))}):wpAny (model prog w) A (call (.builtin "ValueError.__init__") (.ref e::c)) Q E s:=by
 have p:=I.at_
 obtain⟨y,q,_⟩:=any_some Z.cls;have d:=Ct
 have v:=I.type (M:=model prog w)
 have u:=looks_subIn (M:=model prog w) X r
 refine Ge (Fp d.init.plain d.initEntry ?_);have t:∀Q E B,Q () s->wpAny (model prog w) B (checkBuiltinCall "ValueError.__init__" ⟨.ref e::c,[]⟩) Q E s:=λQ E B o=>by
  simp only[checkBuiltinCall,d.initKind,d.initSplit,d.initRow];refine Ae ((v.andThen u).at ?_);have l:=d.noStar
  have k:∀a b n,Bind.check ⟨.positional, "*", "ValueError",.self,[⟨"args",.varPos,false⟩]⟩ a b n (List.map (λx=>x.fst) ({pos:=Value.ref e::c}:Args).kw)=pure ():=λa b n=>check_star_args _ _ _ _ _ _
  repeat (first|wp_step)
  rw[I.cls];refine Ae ((looks_clsIn X q).at (As ?_));repeat (first|wp_step)
  refine wpAny_onRaise ?_;rw[k];exact As o
 refine t _ _ _ ?_;have f:=(Ds.mp j).1
 have g:=Ai (h:=s.heap) {cls:=.type "tuple",data:=.seq c.toArray} p
 unfold Builtin.«BaseException.__init__» newTuple Builtin.BaseException.bexcPut;dsimp only
 refine Ae (Hq (Ae (Ae (wpAny_field g i j (Ae (wpAny_setField g i f (wpAny_letGo (As h))))))) (by show c.toArray.size<=sizeLine;rwa[Be]))
noncomputable def Wl(K:Frag)(D:Addr):Option (List Value):=(clsIn K D).map (·.mro)
def O6{T:Addr}{v:Value}{o:Heap}{m:Q5}{ns:List Str}{Q:Unit->Shared->Prop}(Z:Xl K D)(X:K.In s.heap)(I:InstAt s.heap x ox D od)(hs:findIn K (.ref D) "__setattr__"=some (some (.builtin "object.__setattr__")))(k:Wl K D=some [.ref D,.ref T,.type "ValueError",.type "Exception",.type "BaseException",.type "object"])(g:findIn K (.ref D) name=some none)(C:∀B r (L:Q0),r (some dx) {s with heap:=o,toks:=s.toks+1}->wpAny (model prog w) B (instanceDict x true) r L {s with toks:=s.toks+1})(z:o.Ns1 dx m)(u:Within m ns)(N:ns.length<sizeLine)(h:∀c d,c.Ns1 dx (λy=>if y=name then some v else m y)->Heap.SameBut dx o c->Q () {s with heap:=c,toks:=d}):wpAny (model prog w) A (setAttr (.ref x) name v) Q E s:=by
 obtain⟨q,p,G⟩:=any_some Z.cls;have i:q.mro=[.ref D,.ref T,.type "ValueError",.type "Exception",.type "BaseException",.type "object"]:=by
  unfold Wl at k;rw[p]at k;exact Bk k
 have a:=PySem.F.store_ValueError
 have e:Looks (model prog w) s.heap (isInstance (.ref x) (.type "object")) true:=I.type.andThen (looks_mroIn X Z.mo)
 have j:Looks (model prog w) s.heap (mroOf (.ref D)) q.mro:=(looks_clsIn X p).andThen .now
 have O:=I.at_
 refine set_plain X I hs ?_;refine Fp a.slot.plain a.entry (@check_slot (model prog w) _ _ {s with toks:=s.toks+1} "object.__setattr__" "object" "__setattr__" (.ref x) [.str name s.toks,v] [] _ a.kind a.split e (a.args (.ref x) (.str name s.toks) v) ?_)
 rw[osa_eq,refuse_eq];refine Ae (Ae (I.type.here (s:={s with toks:=s.toks+1}) (Ae (j.here (s:={s with toks:=s.toks+1}) ?_))))
 rw[i,refuseLoop_ref,refuseLoop_ref,a.passes];refine As (Ae (I.type.here (s:={s with toks:=s.toks+1}) (Ae ((looks_findIn X g).here (s:={s with toks:=s.toks+1}) (Ae (As ?_))))))
 show wpAny (model prog w) A.in1 (Builtin.ObjectAttr.storeInOwnDict (Value.ref x) (Value.ref D) (Value.str name s.toks) name v false) _ _ _
 unfold Builtin.ObjectAttr.storeInOwnDict;refine Ae (As ?_);rw[if_neg (show ¬((Value.ref D==Value.type "module")=true) by simp)]
 unfold Builtin.ObjectAttr.ownDictForStores;refine Ae (C _ _ _ ?_);show wpAny (model prog w) A.in1 (Builtin.ObjectAttr.storeInDict dx (Value.str name s.toks) name v) _ _ _
 unfold Builtin.ObjectAttr.storeInDict Builtin.ObjectAttr.newKeyGuard;refine Ae (As (Ae (wpAny_nsSet1 z λc b t=>?_)));obtain⟨M,H,J,f,l,n⟩:=b.count (Within.cons name v u);refine Ae (wpAny_lookBehind f (by rw[l];exact pastItsLine_dict (Bh n (by rw[Av];(exact Nat.le_trans (by assumption) (by decide))))) ?_)
 exact As (h c _ b t)
def Mp{T:Addr}{v:Value}{vs:Array Value}{Q:Unit->Shared->Prop}(Z:Xl K D)(X:K.In s.heap)(I:InstAt s.heap x ox D none)(k:ox.data=.fields vs)(u:ox.dict=none)(hs:findIn K (.ref D) "__setattr__"=some (some (.builtin "object.__setattr__")))(F:Wl K D=some [.ref D,.ref T,.type "ValueError",.type "Exception",.type "BaseException",.type "object"])(r:findIn K (.ref D) name=some none)(h:∀g f,g.get? x=some {ox with dict:=some s.heap.objs.size}->g.Ns1 s.heap.objs.size (λy=>if y=name then some v else none)->(∀b o,b≠x->s.heap.get? b=some o->g.get? b=some o)->Q () {s with heap:=g,toks:=f}):wpAny (model prog w) A (setAttr (.ref x) name v) Q E s:=by
 obtain⟨L,H,z⟩:=any_some Z.cls;have m:=I.at_
 have j:(s.heap.push {cls:=.type "dict",data:=.dict #[]}).get? x=some ox:=Ai _ m
 have i:=Bl (Ax m)
 have t:((s.heap.push {cls:=.type "dict",data:=.dict #[]}).update x λo=>{o with dict:=some s.heap.objs.size}).get? s.heap.objs.size=some {cls:=.type "dict",data:=.dict #[]}:=
  (Heap.get?_update_ne _ _ _ _ i.symm).trans (Heap.get?_push_at rfl rfl)
 have p:((s.heap.push {cls:=.type "dict",data:=.dict #[]}).update x λo=>{o with dict:=some s.heap.objs.size}).Ns s.heap.objs.size (λ_=>none):=
  ⟨_,#[],_,t,rfl,λe G=>absurd G (by simp),λ_=>rfl⟩
 have l:((s.heap.push {cls:=.type "dict",data:=.dict #[]}).update x λo=>{o with dict:=some s.heap.objs.size}).get? x=some {ox with dict:=some s.heap.objs.size}:=by
  refine Heap.get?_update_self _ j ?_;obtain⟨a,b,c,d⟩:=ox;cases k;rfl
 refine O6 Z X I hs F r (λB M N q=>?_) (Heap.Ns1.of_empty p) Within.nil (by rw[List.length_nil,Ie];((try clear i);omega)) λg f n C=>h g f ((C.2 x i).trans l) n λb o J e=>
  (C.2 b (Bl (Ax e))).trans ((Heap.get?_update_ne _ _ _ _ J).trans (Ai _ e))
 unfold instanceDict;refine Ae (wpAny_loadPart m ?_);rw[I.cls];refine Ae ((looks_clsIn X H).here (s:={s with toks:=s.toks+1}) ?_)
 rw[z,u,k,if_neg (show ¬((!true)=true) by decide)]
 dsimp only;rw[if_neg (show ¬((!true || !typeHasDict (Value.ref D))=true) by simp[typeHasDict])]
 exact Ae (wpAny_alloc' (Ae (wpAny_update' j (As q))))
def J5{T:Addr}{v:Value}{m:Q5}{ns:List Str}{b:Obj}{Q:Unit->Shared->Prop}(Z:Xl K D)(X:K.In s.heap)(I:InstAt s.heap x ox D (some b))(d:ox.dict=some dx)(hs:findIn K (.ref D) "__setattr__"=some (some (.builtin "object.__setattr__")))(k:Wl K D=some [.ref D,.ref T,.type "ValueError",.type "Exception",.type "BaseException",.type "object"])(c:findIn K (.ref D) name=some none)(j:s.heap.Ns1 dx m)(i:Within m ns)(g:ns.length<sizeLine)(h:∀f a,f.Ns1 dx (λy=>if y=name then some v else m y)->Heap.SameBut dx s.heap f->Q () {s with heap:=f,toks:=a}):wpAny (model prog w) A (setAttr (.ref x) name v) Q E s:=by
 obtain⟨n,l,e⟩:=any_some Z.cls;refine O6 Z X I hs k c (λB o p q=>?_) j i g h;unfold instanceDict;refine Ae (wpAny_loadPart I.at_ ?_);rw[I.cls];refine Ae ((looks_clsIn X l).here (s:={s with toks:=s.toks+1}) ?_)
 rw[e,d,if_neg (show ¬((!true)=true) by decide)]
 exact As q
end
end
section
open PySem.W
noncomputable def fA(e C:Addr)(d:Option Addr):HO:=.ext λh=>∃b a c,h.get? e=some b/\b.cls=.ref C/\b.dict=d/\b.data=.fields a/\a[1]?=some .none/\a[0]?=some (.ref c)/\a[2]?=some .none
noncomputable def YO(b:Addr)(fs:List (Str×V)):HO:=.ext λh=>∃a,h.Ns1 b a/\(∀f,Zq (fs.lookup f) (a f))/\Within a (fs.map (·.1))
def SU{vs:Array Value}{t0:Addr}(g:h.get? ea=some oe)(c:oe.cls=.ref C)(f:oe.dict=d)(i:oe.data=.fields vs)(b:vs[1]?=some .none)(e:vs[0]?=some (.ref t0))(j:vs[2]?=some .none):ZZ P w H h ea (fA ea C d):=⟨⟨oe,vs,t0,g,c,f,i,b,e,j⟩,⟨oe,g⟩,λ_ _ ⟨o,a,t,g,q⟩ k=>⟨o,a,t,k o g,q⟩⟩
def RA{fs:List _}{a:Q5}(n:h.Ns1 dx a)(r:∀f,Zq (fs.lookup f) (a f))(wi:Within a (fs.map (·.1))):ZZ P w H h dx (YO dx fs):=by
 refine⟨⟨a,n,r,wi⟩,?_,λ_ _ ⟨m,⟨o,b,c,g,q⟩,r⟩ k=>⟨m,⟨o,b,c,k o g,q⟩,r⟩⟩;obtain⟨o,b,c,g,_⟩:=n;exact⟨o,g⟩
structure VX (K:Frag) (C T:Addr):Prop where
 ex:Xl K C
 sa:findIn K (.ref C) "__setattr__"=some (some (.builtin "object.__setattr__"))
 mro:Wl K C=some [.ref C,.ref T,.type "ValueError",.type "Exception",.type "BaseException",.type "object"]
 vb:W.subIn K (.ref C) (.type "ValueError")=some true
noncomputable def Uw(K:Frag)(C T:Addr):Bool:=(clsIn K C).any λc=>c.mro==[.ref C,.ref T,.type "ValueError",.type "Exception",.type "BaseException",.type "object"]
def Sl{T:Addr}(h:Uw K C T=true):Wl K C=some [.ref C,.ref T,.type "ValueError",.type "Exception",.type "BaseException",.type "object"]:=by
 obtain⟨c,b,h⟩:=any_some h;unfold Wl;rw[b];exact congrArg some (eq_of_beq h)
def nI{D:Addr}{vs:Array Value}(e:Zl P w H h)(g:h.get? ea=some oe)(j:oe.cls=.ref D)(a:oe.dict=d)(f:oe.data=.fields vs)(m:∀b,d=some b->∃o,H b=some o):∃k,InstAt h ea oe D k:=by
 have i:notCls oe=true:=by
  obtain⟨c,q,r,p⟩:=oe;cases f;rfl
 cases d with
 |none=>exact⟨none,g,j,i,by rw[a];trivial⟩
 |some b=>
  obtain⟨o,z⟩:=m b rfl;obtain⟨l,n⟩:=(e b o z).get;exact⟨some l,g,j,i,by rwa[a]⟩
def HC{o:HO}(e:H a=some o):upd H a o=H:=by
 funext b
 unfold upd;grind
def SI(K:Frag):List V->Hp->VK->Prop:=λe H Q=>∃b a C T d,e=.ref b::a/\a.length<=sizeLine/\H b=some (fA b C d)/\(∀c,d=some c->∃o,H c=some o)/\VX K C T/\Q .non H
def Ro(K:Frag)(t:TA):TE:=λU H Q=>t U H λa b=>SI K a b Q
def BQ:ZU X (.builtin "ValueError.__init__") (SI X.K):=by
 intro M s U H N O Q I r h;obtain⟨f,l,C,T,d,rfl,D,j,E,Z,q⟩:=h;cases r with
 | @cons _ _ _ B A y=>
  cases A;obtain⟨P,w,t0,g,m,c,a,J,n,L⟩:=(I.Z3 f _ j).1;obtain⟨R,G⟩:=nI I.Z3 g m c a E;refine Kp Z.ex I.ZA G Z.vb a n (by rw[<-y.length];exact D) ?_
  have p:=Ai (h:=s.heap) {cls:=.type "tuple",data:=.seq B.toArray} g
  have i:=(Ds.mp n).1
  have k:=Obj.data_mapFields a (·.setIfInBounds 0 (Value.ref s.heap.objs.size))
  refine⟨.non,H,?_,rfl,q⟩;have v:=I.write (x:=f) (e:=f) (o:=fA f C d) (t':=s.toks) (by rw[j];exact True.intro) (.inl rfl) (λb u F z=>(Cc _ (Obj.mapFields (·.setIfInBounds 0 (Value.ref s.heap.objs.size))) (Ne.symm F)).trans (Ai _ z))
   ⟨_,Heap.get?_update_self _ p (Obj.isFreed_of_fields k)⟩ (SU (Heap.get?_update_self _ p (Obj.isFreed_of_fields k)) (by rw[Obj.cls_mapFields];exact m) (by rw[QK];exact c) k (by grind) (t0:=s.heap.objs.size) (by simp[i]) ((Array.getElem?_setIfInBounds_ne (by decide)).trans L))
  rw[HC j]at v;exact v
section
variable {T:Addr} {mc:Value} {t:TA}
def xJ(p:Gl X x)(o:X.mg x=some (.ref T))(v:specialIn X.K (.ref T) "__getattribute__"=some (some (.builtin "type.__getattribute__")))(u:readsIn X.K T mc=true)(r:findCls X.K (.ref T) mc "__init__"=some (.val (.builtin "ValueError.__init__")))(q:PA X (e::es) t)(c:(x==("__debug__" : Str))=false:=by decide)(a:starEach (e::es) X.env=(false,eval e X.env)::starEach es X.env:=by rfl)(b:(backTo pos (starEach es X.env)).any (·.1)=false:=by rfl)(n:eval (.Call (.Attribute (.Name x np) "__init__" apos) (e::es) [] pos) X.env=(do
 let g <-eval (.Name x np) X.env
 standAt apos.atName
 let (f,first) <-holding [g] (getMethod g "__init__" pl)
 callWith pos f first (backTo pos (starEach (e::es) X.env)) (backToKw pos (keywordEach [] X.env))):=by rfl):PE X (.Call (.Attribute (.Name x np) "__init__" apos) (e::es) [] pos) (Ro X.K t):=by
 intro d s U H Q I h;refine Fi (pl:=pl) (gZ I p o ?_ c) n;refine method_cls I.ZA v (cls_value I.ZA u r rfl ?_);exact PyProof.Rows.callWith_builtin1 (ZX (q pos d _ U H _ (I.tok _) h) λj k ⟨i,y,w,l,m⟩=>BQ d k U y i j Q w l m) a b
end
def Inv.YG{U:St}(I:Inv X y2 U H s)(h:s.heap.objs.size<=a):VJ X y2 a where
 s0:=Gr (Bh I.sz h)
 loc:=λz=>absurd (Bc I.lt h) (by rw[z];exact Dc _)
 cell:=λx c e z=>by
  obtain⟨_,o,g,_⟩:=I.cell x c e;exact absurd (Bc (Ax g) h) (by simp_all)
 pin:=λp b z=>absurd (Bc (Ax (I.pin p b).1) h) (by rw[z];exact Dc _)
def OK(K:Frag)(g e:TE)(f:Str):TS:=λD U H=>e U H λy h=>g U h λx c=>∃b C T,x=.ref b/\VX K C T/\findIn K (.ref C) f=some none/\
 ((c b=some (fA b C none)/\∀a,c a=none->D.nx U (upd (upd c b (fA b C (some a))) a (YO a [(f,y)])))\/
  (∃a d,c b=some (fA b C (some a))/\c a=some (YO a d)/\d.length<100/\D.nx U (upd c a (YO a ((f,y)::d)))))
def zK{f g:Str}{fs:List _}:List.lookup g ((f,y)::fs)=if g=f then some y else fs.lookup g:=by grind
def uC{o value:Expr}{f:Str}{pos':Pos}{ta:TE}(ha:PE X o ta)(hv:PE X value tv)(hs:swapsWith value (some (.Attribute o f pos')) pos.line X.env=pure false):PS X (.Assign [.Attribute o f pos'] value pos) (OK X.K ta tv f):=by
 intro y2 s U H D I h;refine plainObj_wpAny_Assign_Attribute (ZX (hv y2 s U H _ I h) λu s1 ⟨y,H1,I1,ry,q⟩=>ZX (ha y2 s1 U H1 _ I1 q) λov s2 μ=>?_) hs;obtain⟨x,H2,I2,rx,ea,C,T,ex,Z,hn,q2⟩:=μ;subst ex;obtain rfl:ov=Value.ref ea:=rx;rcases q2 with⟨he,q3⟩|⟨dx,fs,he,hdx,hl,q3⟩
 .obtain⟨oe,vs,t0,g,hc,hdi,hda,h1,h0,c2⟩:=(I2.Z3 ea _ he).1;obtain⟨od,hI⟩:=nI I2.Z3 g hc hdi hda (λ_ z=>nomatch z)
  have hod:od=none:=by
   have z:=hI.dict
   rw[hdi]at z;cases od with
   |none=>rfl
   |some o=>exact z.elim
  subst hod;refine Mp Z.ex I2.ZA hI hda hdi Z.sa Z.mro hn λh' tk' gx ns kp=>?_;have fr:=I2.YG (Ah _)
  have hfree:=I2.Z3.fresh (Ah _)
  have ne:s2.heap.objs.size≠ea:=λz=>by rw[z,he]at hfree;cases hfree
  have I3:=I2.write (x:=ea) (e:=ea) (o:=fA ea C (some s2.heap.objs.size)) (h':=h') (t':=tk') (by rw[he];exact True.intro) (.inl rfl) kp ⟨_,gx⟩ (SU gx hc rfl hda h1 h0 c2)
  have I4:=I3.adopt (a:=s2.heap.objs.size) (o:=YO s2.heap.objs.size [(f,y)]) fr (by rw[aH ne];exact hfree) (RA ns (λg=>by
   rw[zK];split
   .exact ry
   .exact True.intro) (λg hg=>by
   by_cases z:g=f
   .rw[z];exact Aj.mpr rfl
   .exact absurd (show (if g=f then some u else none)=none by rw[if_neg z]) hg))
  exact⟨U,_,I4,q3 _ hfree⟩
 .obtain⟨oe,vs,t0,g,hc,hdi,hda,h1,h0,c2⟩:=(I2.Z3 ea _ he).1;obtain⟨mA,n,r,wi⟩:=(I2.Z3 dx _ hdx).1;obtain⟨od,hI⟩:=nI I2.Z3 g hc hdi hda (λz e=>by cases e;exact⟨_,hdx⟩)
  have hod:∃o,od=some o:=by
   have z:=hI.dict
   rw[hdi]at z;cases od with
   |none=>exact z.elim
   |some o=>exact⟨o,rfl⟩
  obtain⟨o,rfl⟩:=hod;refine J5 Z.ex I2.ZA hI hdi Z.sa Z.mro hn n wi (by rw[Ab,Ie];(exact Nat.le_trans (by assumption) (by decide))) λh' tk' ns sb=>?_
  have hd':∃o,h'.get? dx=some o:=let ⟨o,_,_,e',_⟩:=ns;⟨o,e'⟩
  have I3:=I2.write (x:=dx) (e:=dx) (o:=YO dx ((f,y)::fs)) (h':=h') (t':=tk') (by rw[hdx];exact True.intro) (.inl rfl) (λb q hb z=>(sb.2 b hb).trans z) hd' (RA ns (λg=>by
   rw[zK];split
   .exact ry
   .exact r g) (λg hg=>by
   by_cases z:g=f
   .rw[z];exact Ak
   .refine Al _ (wi g λz2=>hg ?_);show (if g=f then some u else mA g)=none
    rw[if_neg z];exact z2))
  exact⟨U,_,I3,q3⟩
def R9(K:Frag)(e:TE)(f:Str):TE:=λU H Q=>e U H λx c=>∃a C b d v,x=.ref a/\(c a=some (xV a (.ref C) (some b))\/c a=some (fA a C (some b)))/\c b=some (YO b d)/\Xl K C/\findIn K (.ref C) f=some none/\d.lookup f=some v/\Q v c
def K8(r:RelV v u):handedIn u=true:=by
 cases v<;>first|(obtain⟨_,rfl⟩:=(show ∃t,u=_ from r);rfl)|(cases r;rfl)
def Io{f:Str}{ta:TE}(he:PE X e ta)(hb:attributeBase e f X.env (eval e X.env)=eval e X.env):PE X (.Attribute e f pos) (R9 X.K ta f):=by
 intro y2 s U H Q I h;refine Qd hb (ZX (he y2 s U H _ I h) λu s1 μ=>?_);obtain⟨x,H1,I1,rx,ea,C,dx,fs,v,ex,e1,e2,Z,n,l,q⟩:=μ;subst ex;obtain rfl:u=Value.ref ea:=rx;obtain⟨oe,vs,g,hc,hdi,hda⟩:∃oe vs,s1.heap.get? ea=some oe/\oe.cls=.ref C/\oe.dict=some dx/\oe.data=.fields vs:=by
  rcases e1 with e1|e1
  .exact(I1.Z3 ea _ e1).1
  .obtain⟨oe,vs,t0,g,hc,hdi,hda,_⟩:=(I1.Z3 ea _ e1).1;exact⟨oe,vs,g,hc,hdi,hda⟩
 obtain⟨⟨mA,ns,r,wi⟩,_⟩:=I1.Z3 dx _ e2;obtain⟨od,hI⟩:=nI I1.Z3 g hc hdi hda (λz e=>by cases e;exact⟨_,e2⟩)
 obtain⟨o,go,lo⟩:=zO ns;have hod:od=some o:=by
  have z:=hI.dict
  rw[hdi]at z;cases od with
  |none=>exact z.elim
  |some o'=>
   have z:s1.heap.get? dx=some o':=z
   rw[go]at z;exact z.symm
 subst hod;have rl:=r f
 rw[l]at rl;cases hu:mA f with
 |none=>rw[hu]at rl;exact rl.elim
 |some u=>
  rw[hu]at rl;exact Ly Z I1.ZA hI (findObj_own Z.cls n rfl (by rw[lo,hu])) (K8 rl) ⟨v,H1,I1.tok _,rl,q⟩
end
section
open PySem.W
noncomputable def Wq(K:Frag)(C:Addr)(b:List Value)(a:String):Bool:=
 match K.lookup C with
 |some ⟨.type t,_,.cls c,d⟩=>t == "type" && !c.hasDel&&nsOkIn K c.ns &&
  (match c.mro with|.ref C1::bm=>C1==C&&tailIn K b bm|_=>false)&&(match d.toList with|[_,_,_,_,some (.builtin n),_]=>n==a|_=>false)
 |_=>false
def SK{K:Frag}(X:K.In h)(q:Wq K C bmB newId=true):∃d N nm f bs r e a s b dd p o m k j,h.get? C=some (excClassObj nm f C N bs d r e a s b dd p o m k j newId)/\OwnTail h bmB d:=by
 unfold Wq at q;split at q
 .rename_i t dd c w A
  simp only[Bool.and_eq_true,beq_iff_eq,Bool.not_eq_true']at q;obtain⟨⟨⟨⟨rfl,u⟩,y⟩,i⟩,g⟩:=q;split at i
  .rename_i D d v
   obtain⟨rfl,x⟩:D=C/\tailIn K bmB d=true:=by simpa only[Bool.and_eq_true,beq_iff_eq]using i
   split at g
   .rename_i p o m k n j hs
    obtain rfl:n=newId:=by simpa using g
    obtain⟨nm,bs,z,ns,f,r,e,a,s,b,B⟩:=c;dsimp only at v u y;subst v u;obtain⟨l⟩:=w;cases (show l=_ from hs);exact⟨d,ns,nm,f,bs,r,e,a,s,b,dd,p,o,m,k,j,X _ _ A,tail_of_in X x⟩
   .cases g
  .cases i
 .cases q
section
variable {K:Frag} {B initId:String}
def BR{a:List Value}{Q:Fin->Shared->Prop}(p:ExcBaseFacts B newId initId bmB)(X:K.In s.heap)(G:Wq K C bmB newId=true)(I:findIn K (.ref C) "__init__"=some (some (.ref f)))(J:typeIn K (.ref f)=some (.type "function"))(l:a.length<=sizeLine)(H:∀v e,Heap.MadeExcOf s.heap v e (.ref C) a->wpAny (model prog w) A (call (.ref f) (.ref e::a)) (λr q=>r=.none/\Q (.done (.ret (.ref e))) q) E {s with heap:=v}):wpAny (model prog w) A (Builtin.«type.__call__» ⟨.ref C::a,[]⟩) Q E s:=by
 obtain⟨h,g,d,t,u⟩:=s;obtain⟨M,N,R,P,bs,Y,O,F,ab,L,Z,W,V,U,T,S,i,D⟩:=SK X G;repeat (first|with_reducible refine wpAny_madeBy_exc i ?_|with_reducible refine Gm i ?_|wp_step)
 refine codeAny_call_builtin_code (Code.quiet_builtin _ p.quiet) (wpAny_check_new_subT p D i (codeAny_exc_new_subT p D i ?_ l));show wpAny _ _ _ _ _ _
 generalize c:(h.push {cls:=.type "tuple",data:=.seq a.toArray}).push {cls:=.ref C,data:=.fields #[.ref h.objs.size,.none,.none,.none,.bool false,.none]}=j;have k:∀b o,h.get? b=some o->j.get? b=some o:=λb o e=>by rw[<-c];exact Ai _ (Ai _ e)
 have x:j.get? (h.objs.size+1)=some {cls:=.ref C,data:=.fields #[.ref h.objs.size,.none,.none,.none,.bool false,.none]}:=by rw[<-c];heap_get
 have y:=X.keeps k
 have n:=k _ _ i
 have m:(Value.ref C::M).contains (.ref C)=true:=by simp
 unfold isInstance;repeat (first|(with_reducible refine wpAny_isSubtype_exc n ?_;rw[m])|with_reducible refine Gm x ?_|wp_step)
 show wpAny _ _ (typeLookup (.ref C) _) _ _ _
 refine(looks_findIn y I).here (s:=⟨j,g,d,t,u⟩) (Co (Ae ?_));unfold bindSpecial;refine Ae ((looks_typeIn y J).here (s:=⟨j,g,d,t,u⟩) ?_);rw[if_pos (by decide)]
 refine As (Ae (Cp (H j (h.objs.size+1) ⟨k,Gr (Ig _),h.objs.size,x,Gr (Ah _),?_⟩) (λr q l=>?_) λ_ _ z=>z))
 .rw[<-c];exact Ai _ (Heap.get?_push_at rfl rfl)
 .obtain⟨rfl,z⟩:=l
  wp_walk
  exact z
def G9{a:List Value}{Q:Q0}(x:ExcBaseFacts B newId initId bmB)(X:K.In s.heap)(i:Wq K C bmB newId=true)(p:findIn K (.ref C) "__init__"=some (some (.ref f)))(q:typeIn K (.ref f)=some (.type "function"))(m:a.length<=sizeLine)(n:∀b e,Heap.MadeExcOf s.heap b e (.ref C) a->wpAny (model prog w) (A.under (.builtin "type.__call__" ⟨.ref C::a,[]⟩)) (call (.ref f) (.ref e::a)) (λr k=>r=.none/\Q (.ref e) k) E {s with heap:=b}):wpAny (model prog w) A (call (.ref C) a) Q E s:=by
 have v:=X
 obtain⟨T,N,D,z,S,L,y,j,U,u,M,J,I,H,G,F,c,V⟩:=SK X i;have R:=tc_lookup
 have P:=tc_bind (.ref C)
 refine Ge (codeAny_of_tree ?_)
 repeat (any_goals (first|with_reducible refine Gm c ?_|assumption|wp_step))
 exact⟨rfl,codeAny_call_builtin_at (Code.quiet_builtin _ (by decide +kernel)) entry_typeCall (wpAny_check_type_call_sub c (BR x v i p q m λb e o=>n b e o))⟩
def BJ{x:Sem Value}{Q:Flow->Shared->Prop}(M:A.handled=none)(h:wpAny (model prog w) A x (λv b=>∃e c k j N o n H B m a I i G y u t r p,v=.ref e/\b.heap.get? C=some (excClassObj o n C N H j B m a I i G y u t r p newId)/\j.contains (.type "BaseException")=true/\
 b.heap.get? e=some c/\c.cls=.ref C/\c.data=.fields k/\k[1]?=some .none/\E (.ref e) b) E s):wpAny (model prog w) A (raiseStmt env (some x) none) Q E s:=by
 unfold raiseStmt;refine Ae (Cp h (λv b q=>?_) λ_ _ z=>z);obtain⟨e,c,k,j,N,o,n,H,B,m,a,I,i,G,y,u,t,r,p,rfl,F,P,O,D,f,S,R⟩:=q;obtain⟨W,g,d,T,U⟩:=b;obtain⟨V,K,L,J⟩:=c;dsimp only at D f;subst D f;have l:(Value.ref C::j).contains (.type "BaseException")=true:=by rw[List.contains_cons,P,Bool.or_true]
 repeat (first|with_reducible refine Gm F ?_|with_reducible refine Gm O ?_|(with_reducible refine wpAny_isSubtype_exc F ?_;rw[l])|wp_step)
 rw[S];refine As ?_
 exact As (wpAny_raiseNew_none M R)
end
noncomputable def del(H:Hp)(a:Addr):Hp:=λb=>if b=a then none else H b
def eG(h:b≠a):del H a b=H b:=if_neg h
def Qa:del H a a=none:=if_pos rfl
section
variable {U:St}
def Inv.drop{f:Heap->Prop}(I:Inv X y2 U H s)(e:H ea=some (.ext f)):Inv X y2 U (del H ea) s:=by
 have d:∀b u,H b=some u->(∀h,u≠.ext h)->b≠ea:=λb u q n z=>by grind
 refine I.re (λb n=>?_) (λb g q=>?_) (λb o u q=>?_) (λb i q=>?_) λb o q=>?_
 .unfold del;split
  .rfl
  .exact n
 .have a:=I.base.tups b g q
  rw[eG (d b _ a λ_ z=>nomatch z)]
  exact a
 .have a:=I.base.frzs b o u q
  rwa[eG (d b _ a λ_ z=>nomatch z)]
 .obtain⟨m,a⟩:=I.base.tbls b i q;exact⟨m,by rwa[eG (d b _ a λ_ z=>nomatch z)]⟩
 .have j:b≠ea:=λz=>by rw[z,Qa]at q;cases q
  rw[eG j]at q;exact(I.Z3 b o q).ZD (λ_ _ _ z=>z) (λc z=>by rwa[eG (d c _ z λ_ z=>nomatch z)]) λc g z=>by rwa[eG (d c _ z λ_ z=>nomatch z)]
def Inv.V3(I:Inv X y2 U H s)(b:X.ex=[])(h:s.heap.get? a=none):VJ X y2 a where
 s0:=by
  cases z:X.s₀.heap.get? a with
  |none=>rfl
  |some o=>
   obtain⟨i,d⟩:=I.base.there a o z (by rw[b];simp)
   grind
 loc:=λz=>by
  obtain⟨m,⟨o,_,_,g,_⟩,_⟩:=I.loc;grind
 cell:=λx c e z=>by
  obtain⟨_,o,g,_⟩:=I.cell x c e;grind
 pin:=λp f z=>by
  have g:=(I.pin p f).1
  simp_all
end
def V_(P:Program)(w:World)(K:W.Frag)(c:Str->Option Value)(a:Heap)(k:Nat)(C:Addr)(ps:List Str)(sp:Sp):Prop:=
 ∃f b,Z8 P w K c a ZS k f b ps sp/\findIn K (.ref C) "__init__"=some (some (.ref f))/\typeIn K (.ref f)=some (.type "function")/\Binds K b ps []
structure Vu (K:Frag) (C:Addr):Prop where
 obj:Wq K C [.type "ValueError",.type "Exception",.type "BaseException",.type "object"] "ValueError.__new__"=true
 kp:keepIn K (.ref C)=true
def N0(C:Addr)(sp:Sp)(E:XK)(f:TA):TS:=λ_ U H=>f U H λb e=>b.length<=sizeLine/\∀a,e a=none->sp (.ref a::b) (upd e a (fA a C none)) (λv c=>v=.non/\∃d,c a=some (fA a C d)/\E (.ref C) d (del c a)) E0
section
variable {E:XK} {k:Nat} {ps:List Str}
def NG{U:St}{G:Addr->VK}{R:Q0}(p:X.ex=[])(M:Vu X.K C)(c:V_ X.prog X.w X.K X.mg X.base k C ps sp)(P:Z2 (k+1) X.A)(l:Inv X y2 U H1 s1)(r:Vals vs us)(Q:vs.length<=sizeLine)(q:∀a,H1 a=none->sp (.ref a::vs) (upd H1 a (fA a C none)) (G a) E0)(Y:∀a m y,X.s₀.heap.get? a=none->Inv X y2 U m y->(G a) .non m->R (.ref a) y)(Z:∀a v m,G a v m->v=.non):wpAny (model X.prog X.w) X.A (call (.ref C) us) R X.xe s1:=by
 obtain⟨f,fd,F,S,T,W⟩:=c;refine G9 Ct l.ZA M.obj S T (by rw[<-r.length];exact Q) λE a j=>?_
 obtain⟨t,g,_,_⟩:=j.there;have d:=l.Z3.hole j.new
 have I:=l.V3 p j.new
 have x:=(l.kept (t':=s1.toks) j.keeps).adopt (o:=fA a C none) I d (SU g rfl rfl rfl rfl rfl rfl)
 have z:Vals (V.ref a::vs) (Value.ref a::us):=.cons rfl r
 have D:=q a d
 have n:((Value.ref a::us)++[]).length=ps.length:=by rw[Br,<-z.length];exact F.len _ _ _ _ D
 have i:=W {s1 with heap:=E} (Value.ref a::us) x.ZA n
 rw[Br]at i;refine Ge (Fb (F.run _ X.stack {s1 with heap:=E} _ ⟨Value.ref a::us,[]⟩ (Value.ref a::us) (V.ref a::vs) _ E0 (P.make C us []) (x.Xc.make C us []) i z D) λO L b=>?_)
 cases O with
 |error e=>exact False.elim b
 |ok fl=>
  cases fl with
  |ret u=>
   obtain⟨v,J,I3,N,B⟩:=x.after b;have ev:=Z a v J B
   subst ev;exact⟨N,Y a J L I.s0 I3 B⟩
  |next=>exact False.elim b
  |brk=>exact False.elim b
  |cont=>exact False.elim b
def nK(hR:R5 X E)(S:X.ex=[])(hc:X.calm=true)(hg:Gl X x)(hm:X.mg x=some (.ref C))(M:Vu X.K C)(c:V_ X.prog X.w X.K X.mg X.base k C ps sp)(hr:Z2 k' X.A)(R:k+1<=k')(ha:PA X (e::es) ta)(V:(x==("__debug__" : Str))=false:=by decide)(he:starEach (e::es) X.env=(false,eval e X.env)::starEach es X.env:=by rfl)(P:(backTo cpos (starEach es X.env)).any (·.1)=false:=by rfl):PS X (.Raise (some (.Call (.Name x np) (e::es) [] cpos)) none pos) (N0 C sp E ta):=by
 intro y2 s U H D I h;rw [arm_exec_Raise];simp only [evalOpt,Option.map];refine Ae (Fs (BJ (C:=C) (newId := "ValueError.__new__") (I.ok.hd hc) ?_));refine Ae (Cp (Q:=λv m=>∃ e f o n N y t Y V p a Z b W O L J G B,v=.ref e/\m.heap.get? C=some (excClassObj y t C N Y n V p a Z b W O L J G B "ValueError.__new__")/\n.contains (.type "BaseException")=true/\
     m.heap.get? e=some f/\f.cls=.ref C/\f.data=.fields o/\o[1]?=some .none/\X.xe (.ref e) m) ?_ (λv s3 h3=>Ae (Fs (As h3))) λ_ _ z=>z)
 refine Dr (gZ I hg hm ?_ V);refine Ff (h₀:=X.base) I.ok.mod.Wy M.kp (ZX (ha cpos y2 s U H _ I h) λus m ⟨o,H1,I1,r,hl,q⟩=>⟨I1.ZA,?_⟩) he P;refine NG S M c (hr.mono R) I1 r hl q (λl H' s' s0 I3 u=>?_) λl v H2 z=>z.1;obtain⟨_,d,e2,u⟩:=u;obtain⟨f,ws,t0,g2,j,T,i,h1,h0,c2⟩:=(I3.Z3 l _ e2).1;obtain⟨n,N,y,t,Y,g,p,a,Z,b,W,O,L,J,G,B,hC,Tl⟩:=SK I3.ZA M.obj;refine⟨l,f,ws,n,N,y,t,Y,g,p,a,Z,b,W,O,L,J,G,B,rfl,hC,Tl.hasType PySem.F.excBase_ValueError.hasBase,g2,j,i,h1,?_⟩;exact hR y2 U (del H' l) s' l f ws (I3.drop e2) g2 i h1 c2 Qa s0 (by simp_all)
end
noncomputable def nZ(st:Stmt)(j:Nat):Stmt:=
 match st with
 |.ClassDef _ _ _ a _ _ _ _ _ _ _=>a.getD j (.Pass ⟨0,0,0,0⟩)
 |s=>s
section
variable {T:Addr} {U:St} {D':Ends} {E:XK} {f:Str}
def C6(h:ta U H λa b=>SI K a b Q):Ro K ta U H Q:=h
def MJ(h:ta U H λb e=>b.length<=sizeLine/\∀a,e a=none->sp (.ref a::b) (upd e a (fA a C none)) (λv c=>v=.non/\∃d,c a=some (fA a C d)/\E (.ref C) d (del c a)) E0):N0 C sp E ta D' U H:=h
def IP(h:te U H λx c=>∃a C b d v,x=.ref a/\(c a=some (xV a (.ref C) (some b))\/c a=some (fA a C (some b)))/\c b=some (YO b d)/\Xl K C/\W.findIn K (.ref C) f=some none/\d.lookup f=some v/\Q v c):R9 K te f U H Q:=h
def M5(h:tv U H λy e=>te U e λx c=>∃b C T,x=.ref b/\VX K C T/\W.findIn K (.ref C) f=some none/\
 ((c b=some (fA b C none)/\∀a,c a=none->D'.nx U (upd (upd c b (fA b C (some a))) a (YO a [(f,y)])))\/
  (∃a d,c b=some (fA b C (some a))/\c a=some (YO a d)/\d.length<100/\D'.nx U (upd c a (YO a ((f,y)::d)))))):OK K te tv f D' U H:=h
end
end
def Rt{f:Str}{a:TE}(h:X.K=K)(b:PE X e a)(c:attributeBase e f X.env (eval e X.env)=eval e X.env):PE X (.Attribute e f pos) (R9 K a f):=by
 subst h;exact Io b c
def PV{l:Addr}{a:Array Value}(c:l≠it):∀n i s Q,s.heap.IsListIter it l i->s.heap.IsList l a->i+n<=a.size->
 (∀j,j.IsListIter it l (i+n)->Heap.SameBut it s.heap j->Q ((a.toList.drop i).take n) {s with heap:=j})->wpAny (model prog w) A (draw (.ref it) n) Q E s
 |0,i,s,Q,hit,_,_,k=>by
  refine As (M:=model prog w) ?_
  simpa using k s.heap hit (Heap.SameBut.refl ..)
 |n+1,i,s,Q,hit,hl,hle,k=>by
  have m:i<a.size:=by ((try clear c);omega)
  show wpAny _ _ (pyNext (.ref it) >>= _) Q E s
  refine wpAny_bind (wpAny_pyNext_list_item hit hl (x:=a[i]) (by simp[m]) λp g b=>?_)
  refine Ae (Co (PV c n (i+1) _ _ g (hl.extBut b.extBut c) (by ((try clear c m);omega)) λo f d=>As ?_))
  have e:a.toList.drop i=a[i]::a.toList.drop (i+1):=by simp[List.drop_eq_getElem_cons,m]
  have z:=k o (by grind) (b.trans d)
  rw[e,Ha]at z;exact z
def KC{l:Addr}{a:Array Value}{c:List (Bool×(Value->Sem Unit))}{Q:Unit->Shared->Prop}(q:A.handled=none)(g:s.heap.IsList l a)(p:c.length=a.size)(hs:c.findIdx? (·.1)=none)(k:∀m,Heap.ExtBut s.heap.objs.size s.heap m->wpAny (model prog w) A (assignInOrder (c.map (·.2)) a.toList) Q E {s with heap:=m}):wpAny (model prog w) A (unpack (.ref l) c) Q E s:=by
 have f:l≠s.heap.objs.size:=by obtain⟨o,n,_⟩:=g;exact Bl (Ax n)
 unfold unpack;rw[p,hs];refine Ae (Co ?_);unfold unpackItems notIterableAtAll;refine Ae (Ae (wpAny_specialOf g.typeIs slot_list_iter.lookup (As ?_)));rw[if_neg (by simp)]
 refine Ae (Co (Et g ?_));refine Ae (Co (PV f a.size 0 _ _ ⟨_,Ay _ rfl,rfl,rfl⟩ (g.push _) (by ((try clear f p);omega)) λv i d=>?_))
 have u:List.take a.size (List.drop 0 a.toList)=a.toList:=by rw[List.drop_zero];exact List.take_of_length_le (by simp)
 rw[u,if_neg (by simp)]
 refine wpAny_bind (wpAny_holding (wpAny_pyNext_list_end q i ((g.push _).extBut d.extBut f) (by simp) λr t=>?_))
 simp only[Option.isSome_none,Bool.false_eq_true,if_false];exact As (k r λb o j e=>t b o j (d.extBut b o j (Ai _ e)))
def O5(n:Nat)(t:WQ):TG:=λv U H Q=>∃a b,v=.ref a/\Z4 H a=some b/\b.length=n/\t b U H Q
def KA{k:Nat}{t:WQ}(A:X.calm=true)(h:Vf X es t)(y:(assignEach es X.env).length=n:=by rfl)(d:(assignEach es X.env).findIdx? (·.1)=none:=by rfl):PG X (.Tuple es k pos) (O5 n t):=by
 intro i s U H v u Q I r c;obtain⟨a,l,C,w,z,c⟩:=c;subst C;cases r;obtain⟨p,j,⟨o,m,x,g,_,f⟩,E⟩:=I.list (bC w);refine wpAny_bind (wpAny_standAt (KC (I.ok.hd A) ⟨o,x,g,m,f⟩ (by simp[y,<-z,j.length]) d λB q=>?_))
 have D:=I.kept (t':=s.toks) λb o e=>q b o (Bl (Ax e)) e
 exact h i _ U H l _ Q D (by (assumption)) c
def CD{Q:St->Hp->Prop}(e:Z4 H a=some xs)(b:xs.length=n)(h:t xs U H Q):O5 n t (.ref a) U H Q:=⟨a,xs,rfl,e,b,h⟩
section
open PySem.AutoSeq1 (wpAny_loadPart')
def Kh(z:Str)(a:Tok)(k:Int)(t:Tok)(m:z.cps.all (· < 128)=true)(l:Builtin.SmallTypes.fitsIndex k=true):Meets (Builtin.«enumerate.__new__» ⟨[.type "enumerate",.str z a],[("start",.int k t)]⟩) (λ_ R s=>
 R (.ok (.ret (.ref (s.heap.push {cls:=.type "str_ascii_iterator",data:=.fields #[.str z a,.int 0 0]}).objs.size)))
  {s with heap:=(s.heap.push {cls:=.type "str_ascii_iterator",data:=.fields #[.str z a,.int 0 0]}).push ⟨.type "enumerate",none,.fields #[.none,.bool false,.ref s.heap.objs.size,rawInt k,.none,.none],#[]⟩}):=
 .of_wp λb w A R s h=>by
  obtain⟨i,g,d,e,f⟩:=s;have c:=sub_enumerate
  have j:(!Builtin.SmallTypes.fitsIndex k)=false:=by rw[l];rfl
  wp_walk
  refine wpAny_stack_any λn=>As ?_;refine NL ?_ ?_ <;>
  .wp_walk using (wpAny_pyIter_ascii (s:=⟨i,g,d,e,f⟩) m)
   exact⟨_,rfl,h⟩
def yN{a:Tok}{k:Int}{t:Tok}{Q:Q0}(l:z.cps.all (· < 128)=true)(j:Builtin.SmallTypes.fitsIndex k=true)(h:∀c,IsEnum c (s.heap.objs.size+1) s.heap.objs.size k .none->c.IsStrIter s.heap.objs.size "str_ascii_iterator" z a 0->c.objs.size=s.heap.objs.size+2->(∀b o,s.heap.get? b=some o->c.get? b=some o)->Q (.ref (s.heap.objs.size+1)) {s with heap:=c}):wpAny (model prog w) A (call (.type "enumerate") [.str z a] [("start",.int k t)]) Q E s:=by
 have e:(s.heap.push {cls:=.type "str_ascii_iterator",data:=.fields #[.str z a,.int 0 0]}).objs.size=s.heap.objs.size+1:=Fy ..
 refine qL (Q1:=λo d=>d.TypeIs o "enumerate"/\Q o d) F.called_enumerate (by kernel_rfl) (by kernel_rfl) F.entry_enumerate_new (Kh z a k t l j) ?_ λo d f=>⟨f.1,?_,_,NP F.called_enumerate.init.lookup F.called_enumerate.made (by decide),f.1,rfl,f.2⟩
 .show _/\_
  rw[e];have g:IsEnum ((s.heap.push {cls:=.type "str_ascii_iterator",data:=.fields #[.str z a,.int 0 0]}).push ⟨.type "enumerate",none,.fields #[.none,.bool false,.ref s.heap.objs.size,rawInt k,.none,.none],#[]⟩) (s.heap.objs.size+1) s.heap.objs.size k .none:=by
   have q:=Ay (s.heap.push {cls:=.type "str_ascii_iterator",data:=.fields #[.str z a,.int 0 0]}) (o:=⟨.type "enumerate",none,.fields #[.none,.bool false,.ref s.heap.objs.size,rawInt k,.none,.none],#[]⟩) rfl
   rwa [e]at q
  exact⟨⟨_,g,rfl⟩,h _ g ⟨_,Ai _ (Ay _ rfl),rfl,rfl⟩ (by rw[Fy,e]) λb o x=>Ai _ (Ai _ x)⟩
 .unfold argsOk;rw[signature?_of (n:=['_','_','t','i','n','i','_','_']) (o := "tcejbo".toList) (by kernel_rfl) F.owner_object]
  kernel_rfl
noncomputable def Vr(z:Str)(k:Nat):It:=
 ⟨λi _=>i<z.cps.size,λi H v a=>∃p c,H p=none/\v=.ref p/\a=upd H p (.tup [.int ((k+i:Nat):Int),.str ⟨#[c]⟩])/\z.cps[i]?=some c,λi _=>z.cps.size=i⟩
def FD(z:Str)(J:Tok)(e f:Addr)(k:Nat)(x:e≠f):Turn P w K (.Tuple elts x1 tp) (Vr z k) [e,f] e (λi h=>(∃a,IsEnum h e f ((k+i:Nat):Int) a)/\h.IsStrIter f "str_ascii_iterator" z J i) where
 mem:=by simp
 obj:=λi h g b m=>by
  obtain⟨⟨a,j⟩,o,p,c,d⟩:=g;rcases Bb.mp m with z|z
  .subst z;exact⟨_,j,λv z=>by cases z⟩
  .rw[Aj.mp z];exact⟨o,p,λv z=>by rw[d]at z;cases z⟩
 keep:=λi h h' g M=>⟨let ⟨a,j⟩:=g.1;⟨a,M e (by simp) _ j⟩,let ⟨o,p,r⟩:=g.2;⟨o,M f (by simp) o p,r⟩⟩
 item:=by
  intro X G N W R i Y s U H E I B g O;subst G N W;obtain⟨⟨a,j⟩,l⟩:=g;have hi:i<z.cps.size:=O
  have D:=iV k (Draws.strAscii (prog:=X.prog) (w:=X.w) (A:=X.A.in1) (show X.A.in1.handled=none from I.ok.hd R) f z J)
  refine wpAny_pyNext_enum_itemD D (i:=k+i) j ⟨Gb _ _,by rw[Cu];exact l⟩ (by ((try clear x);omega)) x (λz=>x (Aj.mp z)) λy h1 L G p hS hT a1 M=>?_
  refine⟨_,rfl,wpAny_letOwnedTupleGo_enum p λZ Q n=>?_⟩;obtain⟨c,u,C,rfl⟩:=G;rw[Cu]at C;have F:=Fa (Ax j)
  have S:s.heap.objs.size≠f:=by obtain⟨o,q,_⟩:=l;exact Fa (Ax q)
  have T:=(n.2 _ F).trans hT
  have V:h1.IsStrIter f "str_ascii_iterator" z J (i+1):=by
   have q:=hS.2
   rwa [show k+i+1-k=i+1 by ((try clear F S a1 hi x);omega)]at q
  have I2:Inv X Y U (upd H s.heap.objs.size (.tup [.int ((k+i:Nat):Int),.str ⟨#[c]⟩])) {s with heap:=Z,toks:=L+1}:=by
   refine I.YF (ch:=[e,f]) B (λb u m q=>(n.2 b (λz=>m (by simp[z]))).trans (M b u (λz=>m (by simp[z])) (λz=>m (by simp[z])) q)) (Nat.le_refl _) ⟨bK (by show 2<=_;((try clear F S a1 hS hi x);omega)),[.int ((k+i:Nat):Int) L,.str ⟨#[c]⟩ u],.cons ⟨L,rfl⟩ (.cons ⟨u,rfl⟩ .nil),_,T,rfl,_,rfl⟩
  refine⟨.ref s.heap.objs.size,_,I2,rfl,⟨_,c,I.Z3.fresh (Ah _),rfl,rfl,C⟩,⟨⟨_,Q⟩,let ⟨o,p,r⟩:=V;⟨o,(n.2 f x.symm).trans p,r⟩⟩,λb m=>?_⟩
  rcases Bb.mp m with z|z
  .rw[z,aH F.symm];exact(B e (by simp)).1
  .rw[List.mem_singleton.mp z,aH S.symm];exact(B f (by simp)).1
 done:=by
  intro X G N W R i Y s U H E I B g O;subst G N W;have hx:=O
  obtain⟨⟨a,j⟩,l⟩:=g;have D:=iV k (Draws.strAscii (prog:=X.prog) (w:=X.w) (A:=X.A.in1) (show X.A.in1.handled=none from I.ok.hd R) f z J)
  refine wpAny_pyNext_enum_endD D j ⟨Gb _ _,by rw[Cu,hx];exact l⟩ λh' eb=>⟨rfl,?_⟩
  exact I.Yl (t':=s.toks) (ch:=[e,f]) B λb u m q=>eb b u (λz=>m (by simp[z])) q
 self:=λ_ _ _ _ _ g h=>let ⟨⟨_,j⟩,_⟩:=g;Hr j h
section
variable {p kp:Pos}
def VI(R:Addr->Hp->Prop)(S:Str->Hp->Prop):List V->Hp->Prop:=λa H=>match a with|[.ref j]=>R j H|[.str z]=>S z H|_=>False
def DT{R:Addr->Hp->Prop}(q:VI R S vs H):(∃j,vs=[.ref j]/\R j H)\/(∃z,vs=[.str z]/\S z H):=by
 unfold VI at q;split at q
 .exact .inl ⟨_,rfl,q⟩
 .exact .inr ⟨_,rfl,q⟩
 simp_all
def Pm(K:W.Frag)(e d:TA):TI:=λU H R=>e U H (VI (λa c=>d U c (xL λk b=>(0<=k/\k<2^62)/\Yn (Z4 b a) (R (W_ K a k.toNat) b))) λz c=>d U c (xL λk b=>(0<=k/\k<2^62)/\z.cps.all (· < 128)=true/\R (Vr z k.toNat) b))
def Ml{U:St}{c:Tok}{k:Nat}(a:Inv X y2 U H1 s1)(d:IsEnum h' (s1.heap.objs.size+1) s1.heap.objs.size ((k:Nat):Int) .none)(f:h'.IsStrIter s1.heap.objs.size "str_ascii_iterator" z c 0)(i:h'.objs.size=s1.heap.objs.size+2)(e:∀b o,s1.heap.get? b=some o->h'.get? b=some o)(q:R (Vr z k) H1):wpAny (model X.prog X.w) X.A (pyIter (.ref (s1.heap.objs.size+1))) (Vm X y2 U (.Tuple elts x1 tp) R) E {s1 with heap:=h'}:=by
 refine Hr (s:={s1 with heap:=h'}) d ⟨_,[s1.heap.objs.size+1,s1.heap.objs.size],_,_,H1,rfl,a.kept (t':=s1.toks) e,FD z c _ _ k (Nat.succ_ne_self _),⟨⟨_,d⟩,f⟩,λb g=>?_,q⟩
 have z:s1.heap.objs.size<=b:=by
  rcases Bb.mp g with z|z
  .rw[z];exact Ig _
  simp_all
 exact a.YC z (a.Z3.fresh z)
def Rz{g:Expr}(M:Gl X "enumerate")(L:X.mg "enumerate"=none)(N:PA X [l] ta)(f:PK X [⟨some "start",g,kp⟩] tk)(hs:starEach [l] X.env=[(false,eval l X.env)]:=by rfl)(c:keywordEach [⟨some "start",g,kp⟩] X.env=[(some ("start" : Str),eval g X.env)]:=by rfl):PI X (.Tuple elts x1 tp) (.Call (.Name "enumerate" p) [l] [⟨some "start",g,kp⟩] pos) (Pm X.K ta tk):=by
 intro j s U H R I h;have b:backTo pos (starEach [l] X.env)=[(false,eval l X.env)]:=by rw[hs];rfl
 refine Dr (iJ I M L boot_enumerate (qC (by rw[b];rfl) (by rw[c];rfl) ?_))
 rw[b];refine evalArgs_kwB (by rw[c];rfl) ?_
 rw[<-b];refine ZX (N pos j s U H _ I h) λV w μ=>?_;obtain⟨T,A,y,x,E⟩:=μ;have e:(backToKw pos (keywordEach [⟨some "start",g,kp⟩] X.env)).filterMap (·.1)=(["start"]:List Str):=by rw[c];rfl
 rcases DT E with⟨a,rfl,q⟩|⟨z,rfl,q⟩
 .refine ZX (f pos j w U A _ y q) λC D ⟨B,Q,i,n,o⟩=>?_;obtain⟨k,rfl,⟨G,F⟩,q⟩:=uG o;obtain⟨u,rfl,m⟩:=eC x;cases m;obtain⟨u,rfl,t,rfl⟩:=eC n;unfold Yn at q;split at q
  .rename_i S P
   obtain⟨J,Y,p,d⟩:=i.list (bC P);rw[e];refine pV (by unfold Builtin.SmallTypes.fitsIndex;rw[An (by ((try clear d);omega)),An (by ((try clear d);omega))];rfl) p.isList λO v r d f=>Si i (k:=k.toNat) ?_ r d f q
   rw[show ((k.toNat:Nat):Int)=k by ((try clear d);omega)]
   exact v
  .exact q.elim
 .refine ZX (f pos j w U A _ y q) λC D ⟨B,Q,i,n,o⟩=>?_;obtain⟨k,rfl,⟨G,F⟩,d,q⟩:=uG o;obtain⟨u,rfl,m⟩:=eC x;obtain⟨W,rfl⟩:=m;obtain⟨u,rfl,t,rfl⟩:=eC n;rw[e];refine yN d (by unfold Builtin.SmallTypes.fitsIndex;rw[An (by omega),An (by omega)];rfl) λO v r d f=>Ml i (k:=k.toNat) ?_ r d f q
  rw[show ((k.toNat:Nat):Int)=k by ((try clear d);omega)]
  exact v
end
section
variable {k:Nat} {U U0:St}
def B4(f:Nat->Nat->Option V)(L:z.length<sizeLine)(hs:∀i c d p A (B:Hp->Prop),z.cps.toList[i]?=some c->Z_ H1 d->d p=none->(∀a,Z_ (upd d p (.tup [.int ((k+i:Nat):Int),.str ⟨#[c]⟩])) a->match f i c with|some y=>A y a|none=>B a)->
 g (.ref p) U0 (upd d p (.tup [.int ((k+i:Nat):Int),.str ⟨#[c]⟩])) λw K=>Wk U0 w/\tests w K λb I=>if b=true then te w I A else B I)(u:∀D a,H1 D=none->Z_ H1 a->Z4 a D=some ((List.range z.length).filterMap λi=>f i (z.cps.toList.getD i 0))->Q (.ref D) a):eF g tests te U0 Q (Vr z k) H1:=by
 intro D t;have r:z.cps.size=z.length:=rfl
 refine⟨λi m d=>m=z.length-i/\i<=z.length/\Z_ H1 d/\d D=some (.lst ((List.range i).filterMap λi=>f i (z.cps.toList.getD i 0))),⟨z.length,by simp,Nat.zero_le _,aG t _,by rw[aD];rfl⟩,?_⟩
 rintro i m d ⟨rfl,M,n,l⟩;by_cases h:i<z.length
 .refine .inr ⟨h,λv N y=>?_⟩;obtain⟨q,c,s,rfl,rfl,J⟩:=y;have E:z.cps.toList[i]?=some c:=by rw[Dz];exact J
  have F:z.cps.toList.getD i 0=c:=by rw[Ac,E];rfl
  refine hs i c d q _ _ E n s λa x=>?_;have j:=x _ _ (aG s _ _ _ l)
  have C:=n.trans ((aG s _).trans x)
  cases e:f i c with
  |some y=>
   refine⟨_,j,?_,z.length-(i+1),by ((try clear F L M);omega),rfl,h,λb o G=>?_,?_⟩
   .have:=Cz (λi=>f i (z.cps.toList.getD i 0)) (List.range i)
    rw[Bf]at this;((try clear F M);omega)
   .rw[aH (bH G t)];exact C b o G
   .rw[aD,Cm,Bw,Cb (b:=y) (by rw[F,e]),Cs]
  |none=>
   refine⟨z.length-(i+1),by ((try clear F L M);omega),rfl,h,C,?_⟩
   rw[j,Cm,Bw,Cj (by rw[F,e]),Cs,Br]
 .have e:i=z.length:=by ((try clear L);omega)
  subst e;exact .inl ⟨r,u D d t n (aO l)⟩
def ID(h:ta U H (VI (λa c=>tk U c (xL λk b=>(0<=k/\k<2^62)/\Yn (Z4 b a) (R (W_ K a k.toNat) b))) λz c=>tk U c (xL λk b=>(0<=k/\k<2^62)/\z.cps.all (· < 128)=true/\R (Vr z k.toNat) b))):Pm K ta tk U H R:=h
def MX{i:Int}(h:Q (.int (-i)) H):Tw (.int i) H Q:=h
def E2{R:Addr->Hp->Prop}(h:R a H):VI R S [.ref a] H:=h
def IV{R:Addr->Hp->Prop}(h:S z H):VI R S [.str z] H:=h
end
end
section
variable {a b:Expr} {ta tb:TE} {rest:List Expr}
noncomputable def TJ:Value->Bool
 |.none=>true
 |_=>false
def Pq{x:V}(f:bY x=true)(r:RelV x u):X0 x .non=TJ u:=by
 cases x with
 |non=>cases r;rfl
 |bl b=>cases r;rfl
 |int i=>obtain⟨t,rfl⟩:=r;rfl
 |str i=>obtain⟨t,rfl⟩:=r;rfl
 |byt i=>cases f
 |flt i=>cases f
 |ref i=>cases f
 |ty i=>cases f
def Q7:V->List V->Hp->VK->Prop:=λx b H Q=>∃(p:Addr) (a:List V) (j:Nat),x=.ref p/\b=[.non]/\Z4 H p=some a/\a.all bY=true/\a[j]?=some .non/\(∀i y,i<j->a[i]?=some y->y≠.non)/\Q (.int (j:Int)) H
def M1:Yv X "list.index" Q7:=by
 intro y2 s U H x vs v us Q I K L h;obtain⟨p,g,j,rfl,rfl,P,S,C,W,q⟩:=h;cases K;obtain⟨u,rfl,i⟩:=L.one;cases i;obtain⟨a,r,M,N⟩:=I.list (bC P);obtain⟨⟨c,Z,Y,J⟩,A,V,n,T⟩:=M.isList;obtain rfl:c=.type "list" := V;obtain rfl:Y=.seq a.toArray n:=T;have B:=r.length
 have R:=(Ad.mp C).1
 have hn:=kO
 have e:∀m (d:m<a.length),∃x,g[m]?=some x/\bY x=true/\RelV x a[m]:=λm d=>by
  have b:m<g.length:=by ((try clear N R hn);omega)
  obtain⟨u,w,i⟩:=r.get (Aa b);rw[Aa d]at w;cases w;exact⟨_,Aa b,Ca.mp S _ (Bx _),i⟩
 have G:∀m (d:m<a.length) x,g[m]?=some x->TJ a[m]=X0 x .non:=λm d x O=>by
  obtain⟨y,f,E,t⟩:=e m d;rw[O]at f;cases f;exact(Pq E t).symm
 refine Gu Gc ⟨_,A,rfl⟩ PySem.F.entry_list_index (PySem.F.args_list_index_2 _ _) (SeqAt.list_indexAt p a.toArray n Z J .none TJ j (by rw[Be];((try clear N hn);omega)) (by omega) ?_ ?_) ⟨A,λy f=>?_,⟨.int j,H,I.tok _,⟨_,rfl⟩,q⟩⟩
 .rw[Gw,G j (by ((try clear N hn);omega)) _ C]
  rfl
 .intro m d l;have b:m<a.length:=by rw[Be]at d;exact d
  obtain⟨y,f,E,t⟩:=e m b;rw[Gw,G m b _ f];have:=W m y l f
  cases y with
  |non=>exact absurd rfl this
  |_=>rfl
 .have k:y∈a:=by simpa using f
  obtain⟨m,d,rfl⟩:=Bv.mp k;obtain⟨z,N,D,o⟩:=e m d;rw[<-Pq D o];exact sI o (show RelV .non .none from rfl) D rfl
def Qb:List V->Hp->VK->Prop:=λa H Q=>∃z,a=[.str z]/\z.length<=sizeLine/\∀l,H l=none->Q (.ref l) (upd H l (.lst (z.cps.toList.map λc=>.str ⟨#[c]⟩)))
def LM(d:X.calm=true):ZU X (.type "list") Qb:=by
 intro p s U H v y Q I r h;obtain⟨z,rfl,g,q⟩:=h;obtain⟨u,rfl,t,rfl⟩:=eC r;refine call_list_str (I.ok.hd d) z t (λn i e o l m a=>?_) g;have b:z.cps.toList.length=z.length:=by simp[Str.length]
 refine⟨.ref s.heap.objs.size,_,I.laid (t':=i) l (Ah _) (show ZZ X.prog X.w _ n _ (.lst (z.cps.toList.map λc=>.str ⟨#[c]⟩)) from⟨by rw[Ab,b];exact g,e.toList,o,Tp ?_ λj x u f k=>?_,m⟩),rfl,q _ (I.Z3.fresh (Ah _))⟩
 .rw[Ab,b,Ez,a.1];rfl
 .obtain⟨c,w,d,rfl⟩:=a.2 j u (by simp_all)
  rw[Ag,Dz,d]at f;cases f;exact⟨w,rfl⟩
section
variable {p:Addr}
def QR{s:St}(f:Nat->Option V)(J:z.length<sizeLine)(hs:∀(i:Nat) c d A (B:Hp->Prop),z.cps.toList[i]?=some c->Z_ H1 d->(∀a,Z_ d a->match f c with|some y=>A y a|none=>B a)->
 g (.str ⟨#[c]⟩) s d λr G=>Wk s r/\tests r G λb x=>if b=true then te r x A else B x)(q:∀D a,H1 D=none->Z_ H1 a->a D=some (.lst (z.cps.toList.filterMap f))->Q (.ref D) a):eF g tests te s Q (WW z) H1:=by
 intro D p;have C:z.cps.size=z.length:=rfl
 have E:z.cps.toList.length=z.length:=by simp[Str.length]
 refine⟨λi m d=>m=z.length-i/\i<=z.length/\Z_ H1 d/\d D=some (.lst ((z.cps.toList.take i).filterMap f)),⟨z.length,by simp,Nat.zero_le _,aG p _,by rw[aD];rfl⟩,?_⟩
 rintro i m d ⟨rfl,K,l,k⟩;by_cases h:i<z.length
 .refine .inr ⟨h,λv I y=>?_⟩;obtain⟨rfl,c,F,rfl⟩:=y;have n:z.cps.toList[i]?=some c:=by rw[Dz];exact F
  refine hs i c I _ _ n l λa t=>?_;have j:=t _ _ k
  have u:=l.trans t
  cases e:f c with
  |some y=>
   refine⟨_,j,?_,z.length-(i+1),by ((try clear J K);omega),rfl,h,λb o w=>?_,?_⟩
   .have:=Cz f (z.cps.toList.take i)
    rw[Bt]at this;((try clear K);omega)
   .rw[aH (bH w p)];exact u b o w
   .rw[aD,Bd,n,Bw];show some (HO.lst (_++[y]))=some (HO.lst (_++[c].filterMap f))
    rw[Cb e,Cs]
  |none=>
   refine⟨z.length-(i+1),by ((try clear J K);omega),rfl,h,u,?_⟩
   rw[j,Bd,n,Bw];show some (HO.lst _)=some (HO.lst (_++[c].filterMap f))
   rw[Cj e,Cs,Br]
 .have e:i=z.length:=by ((try clear J);omega)
  subst e;refine .inl ⟨Ah _,q D d p l ?_⟩;rw[k,Bg (by (assumption))]
def Ms{r:St}(f:Nat->Option V)(C:n<sizeLine)(hs:∀i d A (B:Hp->Prop),i<n->Z_ H1 d->(∀a,Z_ d a->match f i with|some y=>A y a|none=>B a)->
 g (.int (lo+i)) r d λq x=>Wk r q/\tests q x λb w=>if b=true then te q w A else B w)(p:∀D a,H1 D=none->Z_ H1 a->a D=some (.lst ((List.range n).filterMap f))->Q (.ref D) a):eF g tests te r Q (Xk lo n) H1:=by
 intro D l;refine⟨λi m d=>m=n-i/\i<=n/\Z_ H1 d/\d D=some (.lst ((List.range i).filterMap f)),⟨n,by simp,Nat.zero_le _,aG l _,by rw[aD];rfl⟩,?_⟩
 rintro i m d ⟨rfl,E,k,j⟩;by_cases c:i<n
 .refine .inr ⟨c,λv z y=>?_⟩;obtain⟨rfl,rfl⟩:=y;refine hs i z _ _ c k λa s=>?_;have h:=s _ _ j
  have t:=k.trans s
  cases e:f i with
  |some y=>
   refine⟨_,h,?_,n-(i+1),by ((try clear C E);omega),rfl,c,λb o u=>?_,?_⟩
   .have:=Cz f (List.range i)
    rw[Bf]at this;((try clear E);omega)
   .rw[aH (bH u l)];exact t b o u
   .rw[aD,Cm,Bw,Cb e,Cs]
  |none=>
   refine⟨n-(i+1),by ((try clear C E);omega),rfl,c,t,?_⟩
   rw[h,Cm,Bw,Cj e,Cs,Br]
 .have e:i=n:=by ((try clear C);omega)
  subst e;exact .inl ⟨Ah _,p D d l k j⟩
def G7(e:Z4 H p=some xs)(f:xs.all bY=true)(a:xs[j]?=some .non)(b:∀i y,i<j->xs[i]?=some y->y≠.non)(h:Q (.int (j:Int)) H):Q7 (.ref p) [.non] H Q:=⟨p,xs,j,rfl,rfl,e,f,a,b,h⟩
def DZ(a:z.length<=sizeLine)(h:∀l,H l=none->Q (.ref l) (upd H l (.lst (z.cps.toList.map λc=>.str ⟨#[c]⟩)))):Qb [.str z] H Q:=⟨z,rfl,a,h⟩
end
end
def Tn(neg:Bool):R2:=λx y H Q=>∃a b,y=.ref a/\Zb H a x b/\Q (.bl (if neg then !b.isSome else b.isSome)) H
def LA(e:X.A.units+1<cLine):ZM X (compareOp .In) (Tn false):=by
 intro i s U H x y v u Q I c b h;obtain⟨a,d,rfl,g,q⟩:=h;cases b;exact OO e I g c λj f=>⟨.bl d.isSome,H,f,rfl,q⟩
def HH(e:X.A.units+1<cLine):ZM X (compareOp .NotIn) (Tn true):=by
 intro i s U H x y v u Q I c b h;obtain⟨a,d,rfl,g,q⟩:=h;cases b;exact HR e I g c λj f=>⟨.bl _,H,f,rfl,q⟩
def qE{xs:List V}(f:V->Option V)(F:Z4 H1 a=some xs)(J:xs.length<sizeLine)(hs:∀(i:Nat) x d A (B:Hp->Prop),xs[i]?=some x->Z_ H1 d->(∀c,Z_ d c->match f x with|some y=>A y c|none=>B c)->
 g x t d λs G=>Wk t s/\tests s G λb C=>if b=true then te s C A else B C)(r:∀D c,H1 D=none->Z_ H1 c->c D=some (.lst (xs.filterMap f))->Q (.ref D) c):eF g tests te t Q (Xa K a) H1:=by
 intro D q;refine⟨λi m d=>m=xs.length-i/\i<=xs.length/\Z_ H1 d/\d D=some (.lst ((xs.take i).filterMap f)),⟨xs.length,by simp,Nat.zero_le _,aG q _,by rw[aD];rfl⟩,?_⟩
 rintro i m d ⟨rfl,L,l,k⟩;have p:=aM l F
 by_cases h:i<xs.length
 .refine .inr ⟨⟨xs,xs[i],bC p,by simp[h]⟩,λv I y=>?_⟩
  obtain⟨rfl,E⟩:=y;have n:=E xs (bC p)
  refine hs i v I _ _ n l λc u=>?_;have j:=u _ _ k
  have w:=l.trans u
  cases e:f v with
  |some y=>
   refine⟨_,j,?_,xs.length-(i+1),by ((try clear J L);omega),rfl,h,λb o z=>?_,?_⟩
   .have:=Cz f (xs.take i)
    rw[Bt]at this;((try clear L);omega)
   .rw[aH (bH z q)];exact w b o z
   .rw[aD,Bd,n,Bw];show some (HO.lst (_++[y]))=some (HO.lst (_++[v].filterMap f))
    rw[Cb e,Cs]
  |none=>
   refine⟨xs.length-(i+1),by ((try clear J L);omega),rfl,h,w,?_⟩
   rw[j,Bd,n,Bw];show some (HO.lst _)=some (HO.lst (_++[v].filterMap f))
   rw[Cj e,Cs,Br]
 .have e:i=xs.length:=by ((try clear J);omega)
  subst e;refine .inl ⟨⟨xs,bC p,Ah _⟩,r D d q l ?_⟩;rw[k,Bg (by (assumption))]
def Qs(e:Rd H a (.dK kvs))(h:Q (.bl (if neg then !(cM kvs (Sum.inr z)).isSome else (cM kvs (Sum.inr z)).isSome)) H):Tn neg (.str z) (.ref a) H Q:=⟨a,_,rfl,.inl ⟨kvs,.inr z,e,rfl,rfl⟩,h⟩
section
open PySem.Builtin PySem.Builtin.Str
def zW:∀l,Vals ((l.map (·.1)).map V.str) (strValues l)
 |[]=>.nil
 |p::r=>.cons ⟨p.2,rfl⟩ (zW r)
def QN:V->List V->Hp->VK->Prop:=λx a H Q=>∃z y,x=.str z/\a=[.str y]/\(y.length==0)=false/\z.length+2<=sizeLine/\∀l,H l=none->Q (.ref l) (upd H l (.lst ((Txt.split z y).map V.str)))
def Ss:Yv X "str.split" QN:=by
 intro i s U H x r v w Q I j m h;obtain⟨z,y,rfl,rfl,f,o,q⟩:=h;obtain⟨t,rfl⟩:=j;obtain⟨u,rfl,n⟩:=m.one;obtain⟨u,rfl⟩:=n;have g:(partsBetween z (occurrences z y 0 z.length (z.length+1)) y.length).length<=sizeLine:=by
  have A:=StrLaws.occ_length_le z y 0 z.length (z.length+1)
  rw[length_partsBetween];omega
 have b:∀l k,l.map (·.1)=Txt.split z y->(Txt.split z y).length<=sizeLine->EP X i U Q (.ref s.heap.objs.size) {s with heap:=s.heap.push {cls:=.type "list",data:=.seq (strValues l).toArray},toks:=k}:=λl k e p=>
  ⟨.ref _,_,I.WC (ys:=(Txt.split z y).map V.str) (t':=k) (by rw[<-e];exact zW l) (by rw[Ab];exact p),rfl,q _ I.fresh⟩
 cases c:(decide (z.length<y.length) || decide (strKind z<strKind y))
 .cases d:(occurrences z y 0 z.length (z.length+1)).isEmpty
  .have a:Txt.split z y=partsBetween z (occurrences z y 0 z.length (z.length+1)) y.length:=(if_neg (ne_true_of_eq_false c)).trans (if_neg (ne_true_of_eq_false d))
   refine Gu F.slot_str_split (Il _ _ _) F.entry_str_split (F.args_str_split_2 _ _) (meets_str_split_sep z y t u c f d (by ((try clear g);omega)) g) ?_
   show wants _ _ _ {s with toks:=_,heap:=s.heap.push {cls:=.type "list",data:=.seq (strsFrom s.toks (partsBetween z (occurrences z y 0 z.length (z.length+1)) y.length)).toArray}}
   rw[strsFrom_eq];exact b (numbered s.toks _) _ ((numbered_texts _ _).trans a.symm) (by rw[a];exact g)
  .have a:Txt.split z y=[z]:=(if_neg (ne_true_of_eq_false c)).trans (if_pos d)
   exact Gu F.slot_str_split (Il _ _ _) F.entry_str_split (F.args_str_split_2 _ _) (meets_str_split_not_found z y t u c f d)
    (b [(z,t)] s.toks a.symm (by rw[a];exact bK (by show 1<=_;((try clear g o);omega))))
 .have a:Txt.split z y=[z]:=if_pos c
  exact Gu F.slot_str_split (Il _ _ _) F.entry_str_split (F.args_str_split_2 _ _) (meets_str_split_cannot_occur z y t u c)
   (b [(z,t)] s.toks a.symm (by rw[a];exact bK (by show 1<=_;((try clear g o);omega))))
def RN{y:Str}(a:(y.length==0)=false)(b:z.length<=10000)(h:∀l,H l=none->Q (.ref l) (upd H l (.lst ((Txt.split z y).map V.str)))):QN (.str z) [.str y] H Q:=⟨z,y,rfl,rfl,a,bK (by omega),h⟩
noncomputable def jc:List (List Nat)->List Nat
 |[]=>[]
 |[t]=>t
 |t::u::r=>t++32::jc (u::r)
def RO:∀L,(Str.join ⟨#[32]⟩ L).cps.toList=jc (L.map λz=>z.cps.toList)
 |[]=>rfl
 |[z]=>rfl
 |z::y::r=>by
  have e:Str.join ⟨#[32]⟩ (z::y::r)=z++⟨#[32]⟩++Str.join ⟨#[32]⟩ _:=rfl
  rw[e,FlT.Yj,FlT.Yj,RO _]
  rw[Fo];rfl
def zG:∀t u a b,32∉t->32∉u->t++32::a=u++32::b->t=u/\a=b
 |[],[],a,b,_,_,h=>by injection h with _ h;exact⟨rfl,h⟩
 |[],c::u,a,b,_,h2,h=>by injection h with h _;exact absurd (by rw[h];exact Ak) h2
 |c::t,[],a,b,h1,_,h=>by injection h with h _;exact absurd (by rw[<-h];exact Ak) h1
 |c::t,d::u,a,b,h1,h2,h=>by
  injection h with e h
  obtain⟨g,f⟩:=zG t u a b (λm=>h1 (Al _ m)) (λm=>h2 (Al _ m)) h;grind
def OY:∀(L M:Q6),L≠[]->M≠[]->(∀t∈L,32∉t)->(∀t∈M,32∉t)->jc L=jc M->L=M
 |[],_,h,_,_,_,_=>absurd rfl h
 |_::_,[],_,h,_,_,_=>absurd rfl h
 |[t],[u],_,_,_,_,h=>by rw[show t=u from h]
 |[t],u::v::r,_,_,h1,_,h=>by
  have e:t=u++32::jc (v::r):=h
  exact absurd (by rw[e];exact Bm _ Ak) (h1 t Ak)
 |t::u::r,[v],_,_,_,h2,h=>by
  have e:t++32::jc (u::r)=v:=h
  exact absurd (by rw[<-e];exact Bm _ Ak) (h2 v Ak)
 |t::u::r,v::w::q,_,_,h1,h2,h=>by
  obtain⟨c,b⟩:=zG t v _ _ (h1 t Ak) (h2 v Ak) h;rw[c,OY (u::r) (w::q) (λz=>nomatch z) (λz=>nomatch z) (λx a=>h1 x (Al _ a)) (λx a=>h2 x (Al _ a)) b]
def A7(x y:Str):Txt.split x y≠[]:=by
 unfold Txt.split;split
 .exact λz=>nomatch z
 .split
  .exact λz=>nomatch z
  .intro z;have:=Dp List.length z
   rw[length_partsBetween]at this;cases this
def BF(j:L≠[])(k:∀z∈L,32∉z.cps.toList):Txt.split (Txt.join ⟨#[32]⟩ L) ⟨#[32]⟩=L:=by
 have e:=StrLaws.join_split (Txt.join ⟨#[32]⟩ L) ⟨#[32]⟩
 have g:=StrLaws.split_free (Txt.join ⟨#[32]⟩ L) 32
 have f:=A7 (Txt.join ⟨#[32]⟩ L) ⟨#[32]⟩
 have l:Txt.join ⟨#[32]⟩ L=Str.join ⟨#[32]⟩ L:=StrLaws.glued_eq_join _ _
 generalize Txt.split (Txt.join ⟨#[32]⟩ L) ⟨#[32]⟩=M at e g f ⊢;rw[l]at e;have i:=Dp (λz=>z.cps.toList) e
 rw[RO,RO]at i;have q:=OY _ _ (by simp_all) (by simp_all) (λt d=>by obtain⟨z,c,rfl⟩:=Ba.mp d;exact g z c) (λt d=>by obtain⟨z,c,rfl⟩:=Ba.mp d;exact k z c) i
 exact List.map_inj_right (λa b h=>FlT.YQ h) |>.mp q
end
def PZ:List V->Hp->VK->Prop:=λc H Q=>∃(p:Addr) (b:List Int),c=[.ref p]/\Z4 H p=some (b.map V.int)/\0<b.length/\∀m,m∈b->(∀a∈b,m<=a)->Q (.int m) H
def Li(G:X.calm=true):ZU X (.builtin "min") PZ:=by
 intro M s U H N O Q I r h;obtain⟨p,d,rfl,D,S,q⟩:=h;obtain⟨u,rfl,n⟩:=eC r;cases n;obtain⟨c,x,C,R⟩:=I.list (bC D);have w:=C.isList
 have k:p<s.heap.objs.size:=by obtain⟨_,e,_⟩:=w;exact Ax e
 have f:c.length=d.length:=by have:=x.length;rw[Ab]at this;((try clear R S k);omega)
 have l:∀i v,c.toArray[i]?=some v->∃t,v=Value.int (d.getD i 0) t:=λi v o=>by
  have g:c[i]?=some v:=by simpa using o
  have z:i<d.length:=by rw[<-f];exact(Ad.mp g).1
  obtain⟨u,y,n⟩:=x.get (show (d.map V.int)[i]?=some (.int d[i]) by rw[Ag,Aa z];rfl)
  rw[g]at y;cases y;obtain⟨t,rfl⟩:=n;exact⟨t,by rw[Ac,Aa z];rfl⟩
 refine call_min_walk (Et w ?_);refine⟨s.heap.objs.size,[s.heap.objs.size,p],[s.heap.objs.size],c.toArray.size,_,_,_,rfl,Walks.list (A:=X.A.in1) (I.ok.hd G) _ p (Bl k) c.toArray,
  ⟨⟨_,Ay _ rfl,rfl,rfl⟩,w.push _⟩,λb m=>?_,by rw[Be];((try clear R k);omega),CmpOf.ints_lt (λi=>d.getD i 0) l,λv T P o E=>?_⟩
 .rw[show ({s with heap:=_}:Shared).heap=_ from rfl]
  simp only[List.mem_cons,List.not_mem_nil,or_false]at m;rcases m with e|e
  .rw[e];simp[Heap.push]
  .rw[e];exact Nat.lt_of_lt_of_le k (by simp[Heap.push])
 .obtain⟨t,rfl⟩:=l _ _ o;obtain⟨K,B⟩:=argBest_lt (λi=>d.getD i 0) (c.toArray.size-1);rw[Be,f]at K B;have m:argBest (λi j=>decide (d.getD i 0<d.getD j 0)) (c.toArray.size-1)<d.length:=by rw[Be,f];((try clear R k);omega)
  refine⟨.int _,H,I.kept (LSm.kept_iter E),⟨_,rfl⟩,q _ ?_ λa J=>?_⟩
  .rw[Ac,Aa m];exact Bx _
  .obtain⟨j,F,e⟩:=Bv.mp J;have:=B j (by ((try clear K R e k m);omega))
   rw[Be,f];rw[<-e];have L:d.getD j 0=d[j]:=by rw[Ac,Aa F];rfl
   rw[<-L];exact this
def BK{ns:List Int}(e:Z4 H p=some (ns.map V.int))(b:0<ns.length)(h:∀m,m∈ns->(∀a∈ns,m<=a)->Q (.int m) H):PZ [.ref p] H Q:=⟨p,ns,rfl,e,b,h⟩
def Jy{id:String}{b:List _}{c:List _}{Q:Q0}(i:b.any (·.1)=false)(g:c.any (·.1.isNone)=false)(h:wpAny M A (evalArgs (.builtin id) true b c) (λa d=>wpAny M A (call (.builtin id) a.pos a.kw) Q E d) E s):wpAny M A (callWith pos (.builtin id) [] b c) Q E s:=by
 refine Ae (Co (Cp h (λa d e=>Ae (Fs ?_)) λ_ _ x=>x));rw[i,g];exact Ae (As (Ae (Cp e (λr j f=>Ae (Co (wpAny_point (As f)))) λ_ _ x=>x)))
section
variable {a b c:Expr} {p:Pos}
noncomputable def uN(a b:Int):Nat:=(a-b).toNat
def OZ(a b:Int):Builtin.Range.rangeSize a b (-1)=((uN a b:Nat):Int):=by
 unfold Builtin.Range.rangeSize uN;grind
def MI{a:Int}(g:-1000000<=lo)(f:lo<=1000000)(e:-1000000<=a)(d:a<=1000000):Builtin.Range.small lo a (-1)=true:=by
 have b:=OZ lo a
 unfold Builtin.Range.small;rw[b];unfold uN;simp only[Builtin.Range.rangeFitsLong,Bool.and_eq_true,Bool.or_eq_true,decide_eq_true_eq,beq_iff_eq];grind
def NK(a:TA):TI:=λU H R=>a U H (Vc λi j k b=>(-1000000<=i/\i<=1000000/\-1000000<=j/\j<=1000000/\k=-1)/\R (Vh i (-1) (uN i j)) b)
def CP{U:St}{a:Int}{t u v:Tok}{c:Nat}(I:Inv X y2 U H s)(j:-1000000<=lo)(i:lo<=1000000)(h:-1000000<=a)(g:a<=1000000)(q:R (Vh lo (-1) (uN lo a)) H):wpAny (model X.prog X.w) X.A (pyIter (.ref s.heap.objs.size)) (Vm X y2 U tg R) E {s with heap:=s.heap.push {cls:=.type "range",data:=.fields #[.int lo t,.int a u,.int (-1) v]},toks:=c}:=by
 refine wpAny_pyIter_range (IsRange.new ..) (MI j i h g) ?_;have d:Inv X y2 U H {s with heap:=s.heap.push {cls:=.type "range",data:=.fields #[.int lo t,.int a u,.int (-1) v]},toks:=c}:=I.kept λb o e=>Ai _ e
 refine⟨(s.heap.push {cls:=.type "range",data:=.fields #[.int lo t,.int a u,.int (-1) v]}).objs.size,[(s.heap.push {cls:=.type "range",data:=.fields #[.int lo t,.int a u,.int (-1) v]}).objs.size],_,_,H,rfl,
  d.kept (t':=c) λb o e=>Ai _ e,Kn _ lo (-1) (uN lo a),?_,λb f=>?_,q⟩
 .have l:lo+((0:Nat):Int)*(-1)=lo:=by simp
  have k:((uN lo a:Nat):Int)-((0:Nat):Int)=Builtin.Range.rangeSize lo a (-1):=by rw[OZ];simp
  show IsRangeIter _ _ (lo+((0:Nat):Int)*(-1)) (((uN lo a:Nat):Int)-((0:Nat):Int)) (-1)
  rw[l,k];exact Ay _ rfl
 .have e:b=(s.heap.push {cls:=.type "range",data:=.fields #[.int lo t,.int a u,.int (-1) v]}).objs.size:=by simpa using f
  subst e;exact d.YC (Ah _) (d.Z3.fresh (Ah _))
def FC(w:Gl X "range")(v:X.mg "range"=none)(x:PA X [a,b,c] ta)(hs:starEach [a,b,c] X.env=[(false,eval a X.env),(false,eval b X.env),(false,eval c X.env)]:=by rfl)(f:starEach [b,c] X.env=[(false,eval b X.env),(false,eval c X.env)]:=by rfl):PI X tg (.Call (.Name "range" p) [a,b,c] [] pos) (NK ta):=by
 intro l s U H R I h;refine Call_ (iJ I w v boot_range (Dq (ZX (x pos l s U H _ I h) λE G μ=>?_) (by rw[hs,f]) (by rw[f];rfl)));obtain⟨D,J,C,n,u⟩:=μ
 obtain⟨i,j,k,e,⟨B,A,z,y,rfl⟩,q⟩:=EF u;subst e;cases n with
 |cons r d=>
  cases d with
  |cons o d=>
   cases d with
   |cons g d=>
    cases d;obtain⟨t,rfl⟩:=r;obtain⟨F,rfl⟩:=o;obtain⟨m,rfl⟩:=g;exact call_range_3 (by ((try clear A B y z);omega)) (CP C B A z y q) (Or.inl (PyProof.noPylong_small (by ((try clear A B y z);omega))))
def DR(h:ta U H (Vc λi j k a=>(-1000000<=i/\i<=1000000/\-1000000<=j/\j<=1000000/\k=-1)/\R (Vh i (-1) (uN i j)) a)):NK ta U H R:=h
end
section
variable {U0:St}
def jE{f:Nat->Option V}{y:V}(h:f i=some y):(List.range (i+1)).filterMap f=(List.range i).filterMap f++[y]:=by
 rw[Cm,Bw,Cb h,Cs]
def oC{f:Nat->Option V}(h:f i=none):(List.range (i+1)).filterMap f=(List.range i).filterMap f:=by
 rw[Cm,Bw,Cj h,Cs,Br]
def gG{xs:List V}(f:Nat->Option V)(p:Z4 H1 a=some xs)(z:xs.length<sizeLine)(hs:∀i x d A (B:Hp->Prop),xs[i]?=some x->Z_ H1 d->(∀y,f i=some y->∀c,Z_ d c->A y c)->(f i=none->∀c,Z_ d c->B c)->
 g x U0 d λs E=>Wk U0 s/\tests s E λb t=>if b=true then te s t A else B t)(q:∀D c,H1 D=none->Z_ H1 c->c D=some (.lst ((List.range xs.length).filterMap f))->Q (.ref D) c):eF g tests te U0 Q (Xa K a) H1:=by
 refine jM (n:=xs.length) (λD i k d=>Z_ H1 d/\k=(List.range i).filterMap f) z (λD m=>⟨aG m _,rfl⟩)
  (λD i k d _ r h=>⟨xs,xs[i],bC (aM r.1 p),by simp⟩) (λD k d _ r=>⟨xs,bC (aM r.1 p),Nat.le_refl _⟩) ?_ ?_
 .rintro D i k d x F A B m G ⟨j,rfl⟩ e ⟨rfl,u⟩ o C;refine hs i x F A B (u xs (bC (aM j p))) j (λy v c l=>?_) (λw c l=>?_)
  .exact o _ _ (l _ _ e) ⟨bL m (j.trans l),(jE v).symm⟩
  .exact C _ (l _ _ e) ⟨j.trans l,(oC w).symm⟩
 simp_all
def MK{xs:List V}(f:Nat->Option V)(u:Z4 H1 a=some xs)(I:xs.length<sizeLine)(hs:∀i x c p A (B:Hp->Prop),xs[i]?=some x->Z_ H1 c->c p=none->(∀y,f i=some y->∀d,Z_ (upd c p (.tup [.int ((k+i:Nat):Int),x])) d->A y d)->(f i=none->∀d,Z_ (upd c p (.tup [.int ((k+i:Nat):Int),x])) d->B d)->
 g (.ref p) U0 (upd c p (.tup [.int ((k+i:Nat):Int),x])) λw L=>Wk U0 w/\tests w L λb C=>if b=true then te w C A else B C)(v:∀D d,H1 D=none->Z_ H1 d->d D=some (.lst ((List.range xs.length).filterMap f))->Q (.ref D) d):eF g tests te U0 Q (W_ K a k) H1:=by
 refine jM (n:=xs.length) (λD i l c=>Z_ H1 c/\l=(List.range i).filterMap f) I (λD s=>⟨aG s _,rfl⟩)
  (λD i l c _ r h=>⟨xs,xs[i],bC (aM r.1 u),by simp[h]⟩) (λD l c _ r=>⟨xs,bC (aM r.1 u),rfl⟩) ?_ ?_
 .rintro D i l c x N A B s M ⟨j,rfl⟩ e ⟨q,z,o,rfl,rfl,E⟩ t J;refine hs i z c q A B (E xs (bC (aM j u))) j o (λy F d m=>?_) (λG d m=>?_)
  .exact t _ _ (m _ _ (aG o _ _ _ e)) ⟨bL s (j.trans ((aG o _).trans m)),(jE F).symm⟩
  .exact J _ (m _ _ (aG o _ _ _ e)) ⟨j.trans ((aG o _).trans m),(oC G).symm⟩
 .rintro D l c s ⟨j,rfl⟩ e _;exact v D c s j e
end
section
variable {jt dq:Addr} {n0:Nat} {en:Array DictEntry} {od:Obj}
def NC{Q:Option Value->Shared->Prop}(d:s.heap.IsKeyIter jt dq n0 en.size ep)(c:s.heap.get? dq=some od)(e:od.data=.dict en ep)(l:n0<en.size)(k:∀g,g.IsKeyIter jt dq (n0+1) en.size ep->Heap.SameBut jt s.heap g->Q (some en[n0].key) {s with heap:=g}):wpAny (model prog w) A (pyNext (.ref jt)) Q E s:=by
 obtain⟨n,a,m,f⟩:=id d;have j:Builtin.Dict_items.ownsTuple "dict_keyiterator"=false:=by decide
 have b:=d.typeIs
 unfold pyNext;refine Ae (wpAny_attempt (wpAny_callSpecial?_slot (name:=Str.ofString "__next__") b Ew (Hz Ew b F.entry_dict_keyiterator_next ?_ (F.args_dict_keyiterator_next_1 _))));refine Ae (As (Ae (Ae ?_)));refine Ae (Er b (As (Ae (wpAny_fieldsOf a f ?_))));simp only[j,Bool.false_eq_true,if_false];show wpAny _ _ (if (Value.ref dq==Value.none)=true then _ else _) _ _ s
 rw[if_neg (by exact Ar)]
 refine Ae (As (Ae (wpAny_dictEntries c e ?_)));rw[if_neg (by simp)]
 refine Ae (As (Ae (wpAny_dictEpoch c e ?_)));rw[if_neg (by simp)]
 refine As ?_;simp only[show ¬((n0:Int)<0) by ((try clear l);omega),if_false,Int.toNat_natCast,Array.getElem?_eq_getElem l]
 refine Ae (Ae (Er b (As ?_)));refine Ae (wpAny_isOneOf_keyiter b ?_);show wpAny _ _ (setField (.ref jt) 1 (rawInt ((n0:Int)+1)) >>= _) _ _ s
 have i:(s.heap.update jt (Obj.mapFields (·.setIfInBounds 1 (rawInt ((n0:Int)+1))))).IsKeyIter jt dq (n0+1) en.size ep:=
  ⟨_,Heap.get?_update_self _ a (Obj.isFreed_of_fields (Obj.data_mapFields f _)),(Obj.cls_mapFields ..).trans m,by rw[Obj.data_mapFields f];simp[rawInt]⟩
 refine wpAny_bind (wpAny_setField a f (by simp) (wpAny_bind (wpAny_holding (wpAny_bind (wpAny_isOneOf_keyiter (s:={s with heap:=s.heap.update jt (Obj.mapFields (·.setIfInBounds 1 (rawInt ((n0:Int)+1))))}) i.typeIs ?_)))))
 exact As (As ⟨_,rfl,As (k _ i (Heap.SameBut.update ..))⟩)
def HI{Q:Option Value->Shared->Prop}(n:A.handled=none)(e:s.heap.IsKeyIter jt dq en.size en.size ep)(d:s.heap.get? dq=some od)(f:od.data=.dict en ep)(l:∀i,Heap.ExtBut jt s.heap i->Q none {s with heap:=i}):wpAny (model prog w) A (pyNext (.ref jt)) Q E s:=by
 obtain⟨o,c,p,j⟩:=id e
 have g:=e.typeIs
 refine Ae (wpAny_attempt (wpAny_callSpecial?_slot (name:=Str.ofString "__next__") g Ew (Hz Ew g F.entry_dict_keyiterator_next ?_ (F.args_dict_keyiterator_next_1 _))));refine Ae (As (Ae (Ae ?_)));refine Ae (Er g (As (Ae (wpAny_fieldsOf c j ?_))))
 refine Ae (As (Ae (wpAny_dictEntries d f ?_)));rw[if_neg (by simp)]
 refine Ae (As (Ae (wpAny_dictEpoch d f ?_)));rw[if_neg (by simp)]
 refine As ?_;simp
 refine Ae (Ae (Er g (As ?_)));show wpAny _ _ (setField (.ref jt) 0 .none >>= _) _ _ s
 refine wpAny_bind (wpAny_setField c j (by simp) ?_)
 refine Ae ?_;refine wpAny_bind (wpAny_newObj_type (wpAny_bind (m:=firstArgMember _ _) (wpAny_of_eq (a:=Value.none) (by first|rfl|(simp;rfl)) (wpAny_newObj_type ?_ (by size_fits)))) (by size_fits))
 refine Ae (wpAny_handled (?_:_));rw[show A.in1.handled=none by exact n]
 refine Ae (As (wpAny_throw ?thr));case thr=>
  refine Ae (wpAny_isInstance (b:=true) (T := "StopIteration") ⟨_,Ay _ rfl,rfl⟩ isSubtype_stop ?_);exact As (l _ (((Heap.SameBut.update ..).extBut.push _).push _))
end
noncomputable def UL(a:Addr)(o:Obj)(c:List (List Key×V)):It:=⟨λi H=>H a=some (.frz o (.dT c))/\i<c.length,λi H x e=>e=H/\∃d b,c[i]?=some d/\x=.ref b/\H b=some (.tup (d.1.map kV)),λi H=>H a=some (.frz o (.dT c))/\c.length=i⟩
def R3{U:St}{b:List _}(I:Inv X y2 U H s)(p:H a=some (.frz o (.dT b)))(j:∃f,o.data=.dict f ep):b.length<=sizeLine/\(a==sysModules)=false/\∃g f,KT H b g/\s.heap.get? a=some o/\o.data=.dict f ep/\o.ExactDict/\f.toList=g.map (entryOfKey (tupleKind (bG X.prog X.w))):=by
 have k:=I.Z3 a _ p
 obtain⟨e,z,n,g,h,u,r,t,d,l,c,m,_⟩:=k;rw[e]at d;cases d;obtain⟨f,i⟩:=j;have q:=c
 rw[i]at q;cases q;exact⟨z,n,g,_,h,e,c,l,m⟩
def KJ(a x:Addr)(o:Obj)(p:List (List Key×V))(ep:Nat)(D:∃j,o.data=.dict j ep):Turn P w K tg (UL a o p) [x] x (λi h=>h.IsKeyIter x a i p.length ep) where
 mem:=by simp
 obj:=λi h g b u=>by
  obtain⟨o,e,c,d⟩:=g;rw[Aj.mp u];exact⟨o,e,λv z=>by rw[d]at z;cases z⟩
 keep:=λi h L g k=>let ⟨o,A,r⟩:=g;⟨o,k x (by simp) o A,r⟩
 item:=by
  intro X T O W hc i y2 s U H E I G g R;subst T O W;obtain⟨S,F⟩:=R;obtain⟨z,hd,M,j,l,A,f,hx,J⟩:=R3 I S D;have n:=l.length
  have m:j.size=M.length:=by rw[<-Ez,J,Ab]
  obtain⟨f0,f1,f2,f3,Z,Y⟩:=G x (by simp)
  obtain⟨⟨k,b,v⟩,N,a1,Q,_⟩:=xO l (Aa F);have C:i<j.size:=by ((try clear f1 f3 z);omega)
  have B:j[i].key=.ref b:=by
   have q:j[i]?=some (entryOfKey (tupleKind (bG X.prog X.w)) (k,b,v)):=by rw[<-Dz,J,Ag,N];rfl
   rw[Array.getElem?_eq_getElem C]at q;rw[Bk q];rfl
  refine NC (en:=j) (by rw[m,<-n];exact g) A f C λL y sb=>?_
  rw[B];have I1:=I.turned (t':=s.toks) (λb o u e=>(sb.2 b u).trans e) f0 f1 f3 Z Y
  obtain⟨oi,e,c,d⟩:=id y;refine⟨.ref b,rfl,wN (s:={s with heap:=L}) e c d (by decide) ⟨.ref b,H,I1,rfl,⟨rfl,p[i],b,Aa F,rfl,Q⟩,?_,λb u=>(G b u).1⟩⟩
  rw[n,<-m];exact y
 done:=by
  intro X T O W hc i y2 s U H E I G g R;subst T O W;obtain⟨S,F⟩:=R;obtain⟨z,hd,M,j,l,A,f,hx,J⟩:=R3 I S D;have n:=l.length
  have m:j.size=M.length:=by rw[<-Ez,J,Ab]
  obtain⟨f0,f1,f2,f3,Z,Y⟩:=G x (by simp)
  exact HI (en:=j) (I.ok.hd hc) (by rw[m,<-n];rw[<-F]at g;exact g) A f λL eb=>⟨rfl,I.turned (t':=s.toks) (λb o u e=>eb b o u e) f0 f1 f3 Z Y⟩
 self:=λ_ _ _ _ _ g h=>wpAny_pyIter_keyiter g h
section
variable {dq:Addr} {en:Array DictEntry} {od:Obj}
def CV{Q:Q0}(hs:(dq==sysModules)=false)(a:s.heap.get? dq=some od)(d:od.ExactDict)(b:od.data=.dict en ep)(e:Q (.ref s.heap.objs.size) {s with heap:=s.heap.push {cls:=.type "dict_keyiterator",data:=.fields #[.ref dq,.int 0 0,.int en.size 0,.int ep 0]}}):wpAny (model prog w) A (pyIter (.ref dq)) Q E s:=by
 have c:s.TypeIs (.ref dq) "dict" := ⟨od,a,d.1⟩
 refine wpAny_pyIter_slot c F.slot_dict_iter (Hz F.slot_dict_iter c F.entry_dict_iter ?_ (F.args_dict_iter_1 _));refine Ae ?_;refine Ae (wpAny_notOrdered_dict c ?_)
 refine As ?_;show wpAny _ _ (Builtin.Dict.showsAll dq >>= _) _ _ s
 unfold Builtin.Dict.showsAll;rw[if_neg (by simp_all)]
 refine Ae (As (Ae (wpAny_dictEntries a b (Ae (wpAny_dictEpoch a b ?_)))));refine Ae (Hq (As ⟨_,rfl, "dict_keyiterator",_,⟨_,Ay _ rfl,rfl⟩,F.slot_dict_keyiterator_next.lookup,(?_:_)⟩))
 simpa [rawInt]using e
end
section
variable {U:St}
def D0{b:List _}(I:Inv X y2 U H s)(g:H a=some (.dT b)):∃o c d,s.heap.get? a=some o/\o.data=.dict c d:=by
 obtain⟨_,_,h,_,o,c,d,e,_,f,_⟩:=QC I.Z3 g;exact⟨o,c,d,e,f⟩
def CO{b:List _}(I:Inv X y2 U H s)(i:H a=some (.frz o (.dT b))):∃d,∃c,o.data=.dict c d:=by
 have g:=I.Z3 a _ i
 obtain⟨e,_,_,j,_,k,c,d,f,_,h,_⟩:=g;grind
def pZ(H:Hp)(a:Addr)(R:Obj->List (List Key×V)->Hp->Prop):Prop:=(∃b,H a=some (.dT b)/\∀o,R o b (upd H a (.frz o (.dT b))))\/∃o b,H a=some (.frz o (.dT b))/\R o b H
def Iu{R:Obj->List _->Hp->Prop}(I:Inv X y2 U H s)(h:pZ H a R):∃o b g e,Inv X y2 U g s/\g a=some (.frz o (.dT b))/\(∃d,o.data=.dict d e)/\R o b g:=by
 rcases h with⟨b,c,q⟩|⟨o,b,c,q⟩
 .obtain⟨o,d,e,i,f⟩:=D0 I c;exact⟨o,b,_,e,I.freeze c rfl i,aD,⟨d,f⟩,q o⟩
 .obtain⟨e,d,f⟩:=CO I c;exact⟨o,b,H,e,I,c,⟨d,f⟩,q⟩
def Oh(c:TE):TI:=λU H R=>c U H (iQ λa e=>pZ e a λo b d=>R (UL a o b) d)
def qD(u:PE X l tl):PI X tg l (Oh tl):=by
 intro m s U H R I h;refine ZX (u m s U H _ I h) λv i ⟨x,K,F,n,f⟩=>?_;unfold iQ at f;split at f
 .cases n;rename_i E _
  obtain⟨o,a,G,D,g,B,c,q⟩:=Iu F f;obtain⟨z,y,J,C,j,r,d,p,w⟩:=R3 g B c;have k:C.size=a.length:=by rw[<-Ez,w,Ab,j.length]
  refine CV y r p d ?_;refine⟨i.heap.objs.size,[i.heap.objs.size],_,_,G,rfl,g.kept (t':=i.toks) λb o e=>Ai _ e,KJ E _ o a D c,⟨_,Ay _ rfl,rfl,by rw[k];rfl⟩,λb A=>?_,q⟩
  rw[Aj.mp A];exact g.YC (Ah _) (g.Z3.fresh (Ah _))
 simp_all
def QM:V->List V->Hp->VK->Prop:=λx c H Q=>∃a y b,x=.ref a/\c=[y]/\Zb H a y b/\Q (b.getD .non) H
end
section
variable {U:St} {kvs:List (List Key×V)} {k:List Key} {tb:TS}
def E8(c:Nat->St->Hp->Prop)(s:c 0 U H)(l:∀i U H,i<=kvs.length->c i U H->H a=some (.frz o (.dT kvs)))(hs:∀i f b U H,kvs[i]?=some f->H b=some (.tup (f.1.map kV))->c i U H->g (.ref b) U H λt u=>tb {D with nx:=c (i+1),ct:=c (i+1),bk:=D.nx} t u)(q:∀U H,c kvs.length U H->D.nx U H):Wz (UL a o kvs) g tb D U H:=by
 refine⟨λi m U H=>m=kvs.length-i/\i<=kvs.length/\c i U H,⟨kvs.length,by simp,Nat.zero_le _,s⟩,?_⟩
 rintro i m U H ⟨rfl,n,p⟩;have h:=l i U H n p
 by_cases d:i<kvs.length
 .refine .inr ⟨⟨h,d⟩,c (i+1),λw v j=>⟨kvs.length-(i+1),by ((try clear n);omega),rfl,d,j⟩,λx v y=>?_⟩
  obtain⟨rfl,f,b,k,rfl,r⟩:=y;exact hs i f b U _ k r p
 .have e:i=kvs.length:=by omega
  subst e;exact .inl ⟨⟨h,rfl⟩,q U H p⟩
def Lz(h:tl U H (iQ λa d=>pZ d a λo b c=>R (UL a o b) c)):Oh tl U H R:=h
def Tu{b:Obj->List _->Hp->Prop}(e:H a=some (.dT kvs))(h:∀o,b o kvs (upd H a (.frz o (.dT kvs)))):pZ H a b:=.inl ⟨kvs,e,h⟩
def CC{b:Obj->List _->Hp->Prop}(e:H a=some (.frz o (.dT kvs)))(h:b o kvs H):pZ H a b:=.inr ⟨o,kvs,e,h⟩
def L4(h:∀p,H p=none->Q (.ref p) (upd H p (.dT []))):NM U H Q:=h
def TF(e:Rd H a (.dT kvs))(c:H b=some (.tup (k.map kV)))(l:cM kvs k=some v)(h:Q v H):S7 (.ref a) (.ref b) H Q:=⟨a,v,rfl,.inr ⟨kvs,k,b,e,rfl,c,l.symm⟩,h⟩
def TM(e:H a=some (.dT kvs))(c:H b=some (.tup (k.map kV)))(l:kvs.length<sizeLine)(h:D.nx U (upd H a (.dT (eM kvs k v)))):R1 D U (.ref a) (.ref b) v H:=⟨a,_,rfl,.inr ⟨kvs,k,b,e,rfl,c,l,rfl⟩,h⟩
def Pc(e:Rd H a (.dT kvs))(c:H b=some (.tup (k.map kV)))(h:Q ((cM kvs k).getD .non) H):QM (.ref a) [.ref b] H Q:=⟨a,_,_,rfl,rfl,.inr ⟨kvs,k,b,e,rfl,c,rfl⟩,h⟩
end
def MV{Q:Int->Shared->Prop}(h:Q 0xFCA86420 {s with toks:=s.toks+1}):wpAny (model prog w) A (pyHash .none) Q E s:=by
 have a:s.TypeIs .none "NoneType" := rfl
 unfold pyHash pyHashByItsType;refine Ae ?_;rw[cRoomFor,if_neg (by decide)]
 refine As (Ae (wpAny_specialOf a F.slot_NoneType_hash.lookup ?_));show wpAny _ _ (if (some (Value.builtin "NoneType.__hash__")==some Value.none)=true then _ else _) Q E s
 rw[if_neg (by grind)]
 refine Ae (wpAny_specialOf a F.slot_NoneType_hash.lookup ?_);show wpAny _ _ (callSpecialIfBoundUnlessNone? .none "__hash__" _ >>= _) Q E s
 refine Ae (wpAny_callSpecialIfBoundUnlessNone?_slot a F.slot_NoneType_hash (Hz F.slot_NoneType_hash a F.entry_NoneType_hash (show wpAny _ _ (do ret (<-mkInt 0xFCA86420)) _ _ s from wpAny_ret_mkInt ?_) (F.args_NoneType_hash_1 _)))
 show wpAny _ _ (if (decide (-(2:Int)^63<=0xFCA86420)&&decide ((0xFCA86420:Int)<2^63))=true then _ else _) Q E _
 rw[if_pos (by decide)]
 exact As h
noncomputable def Sv:Option Key->Value->Bool
 |none,.none=>true
 |none,_=>false
 |some k,v=>oE k v
def dH{v:Value}(h:Sv none v=true):v=.none:=by
 cases v<;>first|rfl|(exact absurd h (by decide))|cases h
def oP{v:Value}(h:oE k v=true):v≠.none:=λz=>by
 rcases bW h with⟨i,t,_,e⟩|⟨x,t,_,e⟩ <;> rw[z]at e<;>cases e
noncomputable def Nx(w:World):Option Key->Int
 |none=>0xFCA86420
 |some k=>Om w k
noncomputable def GG(prog:Program)(w:World):PySem.KeyKind prog w (Option Key) where
 is:=Sv
 hash:=Nx w
 inj:=λv a b i g=>by
  cases a with
  |none=>
   cases b with
   |none=>rfl
   |some b=>exact absurd (dH i) (oP g)
  |some a=>
   cases b with
   |none=>exact absurd (dH g) (oP i)
   |some b=>exact Dp some ((bG prog w).inj v a b i g)
 byValue:=λk v h=>by
  cases k with
  |none=>rw[dH h];rfl
  |some k=>exact(bG prog w).byValue k v h
 pyHash:=fun {A E s k v Q} c h=>by
  cases k with
  |none=>rw[dH c];exact MV h
  |some k=>exact(bG prog w).pyHash c h
 eqBool:=fun {A E s a b u v Q} f c h=>by
  cases a with
  |none=>
   rw[dH f];cases b with
   |none=>rw[dH c];exact SeqAt.EqAt.same _ _ _ _ _ (by simpa using h)
   |some b=>
    have d:Q false s:=by simpa using h
    rcases bW (show oE b v=true from c) with⟨j,t,_,rfl⟩|⟨y,t,_,rfl⟩
    .exact SeqAt.EqAt.none_int _ _ _ _ _ _ d
    .exact SeqAt.EqAt.none_str _ _ _ _ _ _ d
  |some a=>
   cases b with
   |none=>
    rw[dH c];have d:Q false s:=by simpa using h
    rcases bW (show oE a u=true from f) with⟨j,t,_,rfl⟩|⟨y,t,_,rfl⟩
    .exact SeqAt.EqAt.int_none _ _ _ _ _ _ d
    .exact SeqAt.EqAt.str_none _ _ _ _ _ _ d
   |some b=>
    refine(bG prog w).eqBool f c ?_;have e:decide (some a=some b)=decide (a=b):=Ef.mpr ⟨Bk,λz=>by rw[z]⟩
    rw[e]at h;exact h
 «strs» := λk x t v h=>by
  cases k with
  |none=>exact absurd (dH h) (λz=>nomatch z)
  |some k=>exact(bG prog w).strs k x t v h
def Iv{f:Key->Option Value}(l:h.MapOf (bG prog w) a f):h.MapOf (GG prog w) a (λk=>k.bind f):=by
 obtain⟨o,g,q,j,i,n,d,m⟩:=l;refine⟨o,g,q,j,i,n,λe b=>?_,λk=>?_⟩
 .obtain⟨k,c,p⟩:=d e b;exact⟨some k,c,p⟩
 .cases k with
  |some k=>exact m k
  |none=>
   show findBy Sv g none=none
   unfold findBy;rw[Option.map_eq_none_iff,Array.find?_eq_none];intro e b z;obtain⟨k,c,_⟩:=d e b;exact oP c (dH z)
def SJ:R2:=λx y H Q=>∃a,y=.ref a/\((∃c,Zb H a x c/\Q (.bl c.isSome) H)\/(x=.non/\∃b,Rd H a (.dK b)/\Q (.bl false) H))
def GU(j:X.A.units+1<cLine):ZM X (compareOp .In) SJ:=by
 intro o s U H x y v u Q I b c h;obtain⟨a,rfl,h⟩:=h;cases c;rcases h with⟨f,g,q⟩|⟨rfl,i,e,q⟩
 .exact OO j I g b λr n=>⟨.bl f.isSome,H,n,rfl,q⟩
 .cases b;obtain⟨z,l,p,d,m⟩:=mS I.Z3 e;exact wpAny_in_of  (k:=none)  rfl l (Iv m.mapOf) ⟨.bl false,H,I.tok _,rfl,q⟩
def Qf(f:X.A.units+1<cLine):Yv X "dict.get" QM:=by
 intro j s U H x l v m Q I b c h;obtain⟨a,y,o,rfl,rfl,g,q⟩:=h;cases b;obtain⟨u,rfl,d⟩:=c.one;exact B9 f I g d λk n i e=>⟨_,H,i,e,q⟩
def KR(e:Rd H a (.dK kvs))(h:Q (.bl false) H):SJ .non (.ref a) H Q:=⟨a,rfl,.inr ⟨rfl,kvs,e,h⟩⟩
def LP(e:Rd H a (.dK kvs))(h:Q (.bl (cM kvs (Sum.inr z)).isSome) H):SJ (.str z) (.ref a) H Q:=⟨a,rfl,.inl ⟨_,.inl ⟨kvs,.inr z,e,rfl,rfl⟩,h⟩⟩
def Qn:R2:=λx y H Q=>∃p q a b c d,x=.ref p/\y=.ref q/\H p=some (.tup [.int a,.int b])/\H q=some (.tup [.int c,.int d])/\Q (.bl (decide (a=c/\b=d))) H
def JH(F:X.A.units<cLine):ZM X (compareOp .Eq) Qn:=by
 intro M s U H x y v u Q I w t h;obtain⟨p,q,a,b,c,d,rfl,rfl,J,G,k⟩:=h;cases w;cases t;obtain⟨E,B,D,_⟩:=I.tuple (Ya.of (K:=X.K) J);obtain⟨i,z,C,_⟩:=I.tuple (Ya.of (K:=X.K) G);obtain⟨R,P,rfl,⟨r,rfl⟩,⟨o,rfl⟩⟩:=B.two;obtain⟨O,N,rfl,⟨n,rfl⟩,⟨m,rfl⟩⟩:=z.two;refine SeqAt.eq_tupleAt (e:=λj=>if j=0 then a==c else b==d) (show s.heap.IsTuple p _ from D) (show s.heap.IsTuple q _ from C) F (λj f L=>?_) ?_
 .match j,f,L with
  |0,_,_=>exact SeqAt.EqAt.int_int a r c n
  |1,_,_=>exact SeqAt.EqAt.int_int b o d m
  |j+2,f,_=>exact absurd f (by show ¬j+2<2;((try clear F L f);omega))
 .refine⟨.bl (decide (a=c/\b=d)),H,I,?_,k⟩;show Value.bool _=Value.bool _
  congr 1
  show (((if (0:Nat)=0 then a==c else b==d)&&((if (1:Nat)=0 then a==c else b==d)&&true))&&true)=_
  grind
def Lo{a b c d:Int}(f:H p=some (.tup [.int a,.int b]))(e:H q=some (.tup [.int c,.int d]))(h:Q (.bl (decide (a=c/\b=d))) H):Qn (.ref p) (.ref q) H Q:=⟨p,q,a,b,c,d,rfl,rfl,f,e,h⟩
def Y5(h:Heap)(b:Addr):Prop:=∃o a,h.get? b=some o/\o.data=.fields a/\a[2]?=some .none
def Y5.ext(c:Y5 h ea)(k:∀o,h.get? ea=some o->h'.get? ea=some o):Y5 h' ea:=by
 obtain⟨o,e,d,b,a⟩:=c;exact⟨o,e,k o d,b,a⟩
def Y5.some(c:Y5 h ea):∃o,h.get? ea=Option.some o:=by
 obtain⟨o,_,e,_⟩:=c;exact⟨o,e⟩
def RE:V->List V->Hp->VK->Prop:=λx a H Q=>∃z y,x=.str z/\a=[.str y]/\Q (.int (Txt.find z y)) H
def NW:Yv X "str.find" RE:=by
 intro d s U H x e v f Q I a b h;obtain⟨z,y,rfl,rfl,q⟩:=h;obtain⟨t,rfl⟩:=a;obtain⟨u,rfl,c⟩:=b.one;obtain⟨g,rfl⟩:=c;exact SC.find ⟨.int _,H,I.tok _,⟨_,rfl⟩,q⟩
def QX{y:Str}(h:Q (.int (Txt.find z y)) H):RE (.str z) [.str y] H Q:=⟨z,y,rfl,rfl,h⟩
def Qx:List V->Hp->VK->Prop:=λa H Q=>(∃j,a=[.int j]/\∀r,H r=none->Q (.ref r) (upd H r (.rng 0 j)))\/(∃i j,a=[.int i,.int j]/\∀r,H r=none->Q (.ref r) (upd H r (.rng i j)))
def Inv.W6{U:St}{c:Int}{t u v:Tok}{a:Nat}(I:Inv X y2 U H s):Inv X y2 U (upd H s.heap.objs.size (.rng lo c)) {s with heap:=s.heap.push {cls:=.type "range",data:=.fields #[.int lo t,.int c u,.int 1 v]},toks:=a}:=
 (I.kept  λb o e=>Ai _ e).adopt (I.YG (Ah _)) (I.Z3.fresh (Ah _)) ⟨t,u,v,Ay _ rfl⟩
def Np:ZU X (.type "range") Qx:=by
 intro a s U H b d Q I r h;rcases h with⟨j,rfl,q⟩|⟨i,j,rfl,q⟩
 .obtain⟨u,rfl,⟨t,rfl⟩⟩:=eC r;exact call_range_1 ⟨.ref _,_,I.W6,rfl,q _ (I.Z3.fresh (Ah _))⟩
 .obtain⟨u,c,rfl,⟨t,rfl⟩,⟨e,rfl⟩⟩:=T1 r;exact call_range_2 ⟨.ref _,_,I.W6,rfl,q _ (I.Z3.fresh (Ah _))⟩
def Ng{j:Int}(h:∀r,H r=none->Q (.ref r) (upd H r (.rng 0 j))):Qx [.int j] H Q:=.inl ⟨j,rfl,h⟩
def Pr:List V->Hp->VK->Prop:=λb H Q=>∃(a:Addr) (n:Nat),b=[.ref a]/\H a=some (.rng 0 (n:Int))/\n<=100000/\∀r,H r=none->Q (.ref r) (upd H r (.lst ((List.range n).map λi=>V.int ((i:Nat):Int))))
def H_(y:X.calm=true):ZU X (.type "list") Pr:=by
 intro B s U H C D Q I r h;obtain⟨a,n,rfl,z,p,q⟩:=h;obtain⟨u,rfl,l⟩:=eC r;cases l;obtain⟨G,F,E,m⟩:=I.Z3 a _ z;refine call_list_range (n:=n) (I.ok.hd y) m (small_one (by decide) (by decide) (by (exact Int.natCast_nonneg _)) (by omega)) (by rw[rangeSize_nat];omega) (by (exact Nat.le_trans (by assumption) (by decide))) λJ k e c v A b=>?_
 refine⟨.ref s.heap.objs.size,_,I.laid (a:=s.heap.objs.size) (o:=.lst ((List.range n).map λi=>V.int ((i:Nat):Int))) (t':=k) v (Ah _) ⟨by rw[Ab,Bf];exact bK p,e.toList,c,?_,by rw[A]⟩,rfl,q _ (I.Z3.fresh (Ah _))⟩
 refine Tp (by rw[Ab,Bf,Ez,b.1]) λj x u f g=>?_
 obtain⟨d,rfl⟩:=b.2 j u (by rw[<-Dz];exact g)
 have w:j<n:=by
  have:=(Ad.mp g).1
  rw[Ez,b.1]at this;exact this
 rw[Ag,Fv w]at f;cases f;exact⟨d,by rw[show (0:Int)+((j:Nat):Int)*1=((j:Nat):Int) by ((try clear p w);omega)]⟩
def IM(c:H a=some (.rng 0 (n:Int)))(b:n<=100000)(h:∀r,H r=none->Q (.ref r) (upd H r (.lst ((List.range n).map λi=>V.int ((i:Nat):Int))))):Pr [.ref a] H Q:=⟨a,n,rfl,c,b,h⟩
def OX{ps:List Str}(sp:Nat->Sp)(c:∀a H Q E,¬sp 0 a H Q E)(e:mg x=some (.ref f))(g:W.keepIn K (.ref f)=true)(i:Binds K fd ps [])(st:∀d n,ZR P w K mg base (d+1) x ps (sp n)->Z8 P w K mg base ZS (d+2) f fd ps (sp (n+1))):∀n,Z8 P w K mg base ZS (n+1) f fd ps (sp n)
 |0=>⟨λa H Q E h=>(c _ _ _ _ h).elim,λA b s H j k a Q E _ _ _ _ h=>(c _ _ _ _ h).elim⟩
 |n+1=>st n n ⟨f,fd,OX sp c e g i st n,e,g,i⟩
def ZQ.app{c:List Addr}{d:List _}(t:ZQ H1 Hc ps fs)(u:ZQ H1 Hc c d):ZQ H1 Hc (ps++c) (fs++d):=by
 refine⟨by rw[Af,Af,t.1,u.1],λj p v b a=>?_⟩
 by_cases h:j<ps.length
 .rw[Am h]at b;rw[Am (by rwa[<-t.1])]at a
  exact t.2 j p v b a
 .rw[Aq (by omega)]at b
  rw[Aq (by rw[<-t.1];omega),<-t.1]at a
  exact u.2 _ p v b a
section
variable {U0:St}
def La(f:Nat->List V)(F:Z4 H1 a=some xs)(N:xs.length<sizeLine)(hs:∀i x d A (B:Hp->Prop),xs[i]?=some x->Z_ H1 d->(∀q k,d q=none->Z_ d k->k q=some (.lst (f i))->A (.ref q) k)->
 g x U0 d λI P=>Wk U0 I/\tests I P λb J=>if b=true then te I J A else B J)(G:∀D k c,H1 D=none->Z_ H1 k->k D=some (.lst (c.map V.ref))->c.length=xs.length->ZQ H1 k c ((List.range xs.length).map f)->(∀p∈c,p≠D)->Q (.ref D) k):eF g tests te U0 Q (Xa K a) H1:=by
 refine jM (n:=xs.length) (λD i m d=>Z_ H1 d/\∃c,m=c.map V.ref/\c.length=i/\ZQ H1 d c ((List.range i).map f)/\∀p∈c,p≠D) N (λD s=>⟨aG s _,[],rfl,rfl,.nil,λp y=>nomatch y⟩)
  (λD i m d _ r h=>⟨xs,xs[i],bC (aM r.1 F),by simp[h]⟩) (λD m d _ r=>⟨xs,bC (aM r.1 F),Nat.le_refl _⟩) ?_ ?_
 .rintro D i m d x R A B s S ⟨l,c,rfl,C,v,u⟩ j ⟨rfl,M⟩ E T;refine hs i x R A B (M xs (bC (aM l F))) l (λq k w t O=>?_);have L:q≠D:=λz=>by rw[z,j]at w;cases w
  have o:∀p∈c++[q],p≠D:=λp y=>by
   rcases Bi.mp y with e|e
   .exact u p e
   .rw[Aj.mp e];exact L
  refine E _ _ (t _ _ j) ⟨bL s (l.trans t),c++[q],by rw[Ap];rfl,by rw[Af,C];rfl,?_,o⟩
  rw[Cm,Ap];exact((v.keep t).snoc (none_of l w) O).put o
 .rintro D m d s ⟨l,c,rfl,C,v,u⟩ j _;exact G D d c s l j C v u
end
section
open PySem
open PySem.Spec PyProof.Rows
def IW(xs:Array Nat):Prop:=∀(i k a b:Nat),i<k->xs[i]?=some a->xs[k]?=some b->a<b
def XR(H:Hp):Nat->V->V->Prop
 |0,x,y=>x=y/\(bY x=true\/∃p,x=.ref p)
 |n+1,x,y=>(x=y/\(bY x=true\/∃p,x=.ref p))\/∃p q,x=.ref p/\y=.ref q/\((∃d c,Z4 H p=some d/\Z4 H q=some c/\d.length=c.length/\∀(j:Nat) f e,d[j]?=some f->c[j]?=some e->XR H n f e)\/∃b a,Rd H p (.dK b)/\Rd H q (.dK a)/\RS b a)
def XR.same{x:V}(h:bY x=true\/∃p,x=.ref p):XR H n x x:=by
 cases n with
 |zero=>exact⟨rfl,h⟩
 |succ n=>exact .inl ⟨rfl,h⟩
def N3{x:V}{v:Value}(h:bY x=true\/∃p,x=.ref p)(c:RelV x u)(b:RelV x v):XM X.prog X.w A s u v:=by
 rcases h with a|⟨p,rfl⟩
 .have:=sI (A:=A) (s:=s) c b a a
  rw[Pa a]at this;exact λE Q d=>this X.prog X.w E Q d
 .cases c;cases b;exact .same _
def Sz{U:St}(I:Inv X y2 U H s){p:Addr}(G:Z4 H p=some xs)(F:Z4 H q=some ys)(L:xs.length=ys.length)(h:∀(j:Nat) l k u v,xs[j]?=some l->ys[j]?=some k->RelV l u->RelV k v->XM X.prog X.w A.in1 s u v)(t:A.units<cLine)(E:Q0)(Q:Q0):(Q (.bool true) s->wpAny (model X.prog X.w) A (richCompare .Eq (.ref p) (.ref q)) Q E s)/\(Q (.bool false) s->wpAny (model X.prog X.w) A (richCompare .NotEq (.ref p) (.ref q)) Q E s):=by
 obtain⟨b,n,r,_⟩:=I.list (bC G);obtain⟨a,m,o,_⟩:=I.list (bC F);have N:=n.length
 have M:=m.length
 have B:∀j D (C:j<a.toArray.size),XM X.prog X.w A.in1 s b.toArray[j] a.toArray[j]:=λj D C=>by
  have i:j<b.length:=by simpa using D
  have g:j<a.length:=by simpa using C
  obtain⟨K,d,f⟩:=n.get (Aa (show j<xs.length by ((try clear C D g t);omega)))
  obtain⟨J,c,e⟩:=m.get (Aa (show j<ys.length by ((try clear C D g t);omega)))
  rw[Aa i]at d;rw[Aa g]at c;cases d;cases c
  simpa using h j _ _ _ _ (List.getElem?_eq_getElem _) (List.getElem?_eq_getElem _) f e
 have z:b.toArray.size=a.toArray.size:=by simp only[List.size_toArray];((try clear t);omega)
 exact⟨λq=>Jk r.isList o.isList z t B q,λq=>Le r.isList o.isList z t B q⟩
def P8{U:St}(I:Inv X y2 U H s):∀n A x y u v,XR H n x y->RelV x u->RelV y v->A.units+n<cLine->XM X.prog X.w A s u v:=by
 intro n;induction n with
 |zero=>
  intro A x y u v h f c D;obtain⟨rfl,b⟩:=h;exact N3 b f c
 |succ n B=>
  intro A x y u v h f c D;rcases h with⟨rfl,b⟩|⟨p,q,rfl,rfl,l⟩
  .exact N3 b f c
  .cases f;cases c;by_cases e:p=q
   .subst e;exact .same _
   rcases l with⟨J,G,m,k,F,h⟩|⟨z,t,m,k,d⟩
   .exact .refs e λE Q a=>(Sz I m k F (λj r o u v b C i g=>B A.in1 r o u v (h j r o b C) i g (by grind)) (by ((try clear F e);omega)) E Q).1 a
   .exact .refs e λE Q a=>(M7 I m k d (by ((try clear e);omega)) E Q).1 a
def Sb(neg:Bool):R2:=λx y H Q=>∃n p q b a,n<=50/\x=.ref p/\y=.ref q/\Z4 H p=some b/\Z4 H q=some a/\b.length=a.length/\(∀(j:Nat) d c,b[j]?=some d->a[j]?=some c->XR H n d c)/\Q (.bl (!neg)) H
def Sg(B:X.A.units+64<cLine):ZM X (compareOp .NotEq) (Sb true):=by
 intro w s U H x y v u Q I f e h;obtain⟨n,p,q,z,t,C,rfl,rfl,m,l,o,r,k⟩:=h;cases f;cases e;exact(Sz I m l o (λj d c u v i g b a=>P8 I n X.A.in1 d c u v (r j d c i g) b a (by grind)) (by ((try clear C o);omega)) _ _).2 ⟨.bl false,H,I,rfl,k⟩
def VF{neg:Bool}{p:Addr}(n:Nat)(d:Z4 H p=some xs)(c:Z4 H q=some ys)(f:xs.length=ys.length)(g:∀(j:Nat) b a,xs[j]?=some b->ys[j]?=some a->XR H n b a)(h:Q (.bl (!neg)) H)(e:n<=50:=by omega):Sb neg (.ref p) (.ref q) H Q:=⟨n,p,q,xs,ys,e,rfl,rfl,d,c,f,g,h⟩
end
def SO(i:Nat)(g:TS)(D:Ends)(e:Value)(d:Option Addr)(h:St)(f:Hp):Prop:=∀c,f c=none->
 g {nx:=λa b=>D.nx (a.set i none) b,rt:=D.rt,bk:=λa b=>D.bk (a.set i none) b,ct:=λa b=>D.ct (a.set i none) b} (h.set i (some (.ref c))) (upd f c (xV c e d))
section
open PySem.AutoSeq1 (wpAny_loadPart')
def KV.at{vs:List _}(r:KV kvs vs):∀ {i:Nat} {k:Key} {u:Value},vs[i]?=some (k,u)->∃v,kvs[i]?=some (k,v)/\RelV v u:=by
 induction r with
 |nil=>intro i k u h;cases h
 | @cons b f _ _ d t c=>
  intro i k u h;obtain⟨e,a⟩:=d;cases i with
  |zero=>cases h;exact⟨b.2,by rw[List.getElem?_cons_zero];exact Dp some (Prod.ext e rfl),a⟩
  |succ i=>exact c h
end
def Alt(H:Hp):Nat->V->V->Prop
 |0,x,y=>x=y/\bY x=true
 |n+1,x,y=>(x=y/\bY x=true)\/∃p q b a,x=.ref p/\y=.ref q/\((Z4 H p=some b/\Z4 H q=some a)\/(H p=some (.tup b)/\H q=some (.tup a)))/\b.length=a.length/\∀(j:Nat) d c,b[j]?=some d->a[j]?=some c->Alt H n d c
def Alt.tup{p q:Addr}{xs ys:List V}(b:H p=some (.tup xs))(a:H q=some (.tup ys))(c:xs.length=ys.length)(h:∀(j:Nat) x y,xs[j]?=some x->ys[j]?=some y->Alt H n x y):Alt H (n+1) (.ref p) (.ref q):=.inr ⟨p,q,xs,ys,rfl,rfl,.inr ⟨b,a⟩,c,h⟩
noncomputable def btV(val:Nat->Int)(i j:Nat):Bool:=decide (val i>val j)
section
variable {R:Result->Shared->Prop} {J B:Addr} {us ws:List Addr} {P:Nat->Value->Prop} {St:Nat->Heap->Prop} {G:Shared->Prop} {val:Nat->Int}
def Nt{i j:Int}{t u:Tok}{Q:Q0}(h:Q (.bool (decide (i>j))) s):wpAny (model prog w) A (richCompare .Gt (.int i t) (.int j u)) Q E s:=
 CmpOf.ints_gt (P:=λk v=>(k=0->∃t,v=Value.int i t)/\(k=1->∃t,v=.int j t)/\k<=1) (λk=>if k=0 then i else j) (λk v a=>by grind) 0 1 _ _ s Q E ⟨λ_=>⟨t,rfl⟩,λe=>absurd e (by decide),by decide⟩ ⟨λe=>absurd e (by decide),λ_=>⟨u,rfl⟩,by decide⟩ h
def MQ(W:Walks prog w A.in1 J us ws n P St)(L:B∉us)(I:∀s h' tk,G s->(∀b o,b∉ws->b≠B->s.heap.get? b=some o->h'.get? b=some o)->G {s with heap:=h',toks:=tk})(a:∀i v s (Q:Q0) (E:Q0),P i v->G s->(∀t s',G s'->(∀b o,b∈B::us->s.heap.get? b=some o->s'.heap.get? b=some o)->Q (.int (val i) t) s')->wpAny (model prog w) A.in1 (call (.ref f) [v]) Q E s)(S:∀z s',P (argBest (btV val) (n-1)) z->G s'->R (.ok (.ret z)) s'):∀r i s y t c,n-(i+1)=r->i+1<=n->St (i+1) s.heap->P (argBest (btV val) i) y->s.heap.get? B=some {cls:=.type "list",data:=.seq #[y,.int (val (argBest (btV val) i)) t] c}->G s->
 codeAny (model prog w) A (.builtin "max.loop" ⟨[.ref J,.ref f,.ref B],[]⟩) R s:=by
 have l:=λz=>L (W.sub _ z)
 have nm:(toString "max" ++ toString ".loop" : String)="max.loop" := by decide
 intro r;induction r with
 |zero=>
  intro i s y t c U hi st py m g;have en:i+1=n:=by omega
  refine Eu Ht ?_;rw[Ee Dw _];show wpAny _ A.in1 (seqItems? (.ref B) >>= _) _ _ s
  refine Ae (wpAny_seqItems m rfl ?_);show wpAny _ A.in1 (tryCatch (pyNext (.ref J)) _ >>= _) _ _ s
  refine Ae (Gx (W.done s _ _ (en▸st) λh' tk kp=>?_));have j:=kp B _ l m
  show wpAny _ A.in1 (updateSeq B (λ_=>#[]) >>= _) _ _ _
  refine Ae (wpAny_updateSeq j rfl (Ae (wpAny_letGo (As ?_))));exact S y _ (by rw[<-en];exact py) (I s _ tk g λb o p D e=>(Cc _ _ (Ne.symm D)).trans (kp b o p e))
 |succ r N=>
  intro i s y t c U hi st py m g;have F:i+1<n:=by omega
  refine Eu Ht ?_;rw[Ee Dw _];show wpAny _ A.in1 (seqItems? (.ref B) >>= _) _ _ s
  refine Ae (wpAny_seqItems m rfl ?_);show wpAny _ A.in1 (tryCatch (pyNext (.ref J)) _ >>= _) _ _ s
  refine Ae (Gx (W.item (i+1) s _ _ F st λz h' tk K x kp=>?_));have j:=kp B _ l m
  have T:=I _ _ tk g λb o p _ e=>kp b o p e
  show wpAny _ A.in1 (tryCatch (holding [z] (call (.ref f) [z])) _ >>= _) _ _ _
  refine Ae (Gx (Co (a (i+1) z _ _ _ K T λu C O M=>?_)));have d:=M B _ Ak j
  have k:=W.frame _ _ _ x λb H o e=>M b o (Al _ H) e
  show wpAny _ A.in1 (tryCatch (holding [z,.int (val (i+1)) u] (richCompare .Gt (.int (val (i+1)) u) (.int (val (argBest (btV val) i)) t) >>= _)) _ >>= _) _ _ _
  refine Ae (Gx (Co (Ae (Nt ?_))));refine Ae (Co (Fn (Ae (wpAny_letGo (As ?_)))));have V:decide (val (i+1)>val (argBest (btV val) i))=btV val (i+1) (argBest (btV val) i):=rfl
  rw[V];cases e:btV val (i+1) (argBest (btV val) i) with
  |true=>
   simp only[if_true];refine Ae (wpAny_updateSeq d rfl (Ae (wpAny_letGo ?_)));rw[nm];have ea:argBest (btV val) (i+1)=i+1:=by unfold argBest;rw[e];rfl
   refine As ⟨Ft Dw _,N (i+1) _ z u _ (by ((try clear hi);omega)) F (W.frame _ _ _ k λb H o q=>(Cc _ _ (λy:B=b=>L (y▸H))).trans q) (by rw[ea];exact K) (by rw[ea];exact Heap.get?_update_self _ d rfl) (I C _ C.toks O λb o p D q=>(Cc _ _ (Ne.symm D)).trans q)⟩
  |false=>
   simp only[Bool.false_eq_true,if_false];refine Ae (wpAny_letGo ?_);rw[nm]
   have ea : argBest (btV val) (i + 1) = argBest (btV val) i := by conv => lhs; unfold argBest; rw [e]
                                                                   rfl
   refine As ⟨Ft Dw _,N (i+1) C y t c (by ((try clear ea hi);omega)) F k (by rw[ea];exact py) (by rw[ea];exact d) O⟩
end
def W3(h:Heap)(c a:Addr)(b i n d:Nat):Prop:=∃o,h.get? c=some o/\o.cls=.type "set_iterator"/\o.data=.fields #[.int b 0,.int i 0,.ref a,.int n 0,.int d 0]
structure Xd (h:Heap) (a:Addr) (es:Array (Int×Value)) (ep:Nat) (t:SetTable):Prop where
 ob:∃o,h.get? a=some o/\o.cls=.type "set"/\o.data=.set es ep t
 fits:t.fits es.size=true
 plain:t.plain=true
 ris:IW t.place
 sz:t.place.size=es.size
def W3.at{b:Nat}(x:W3 h it a b i n ep)(k:∀o,h.get? it=some o->h'.get? it=some o):W3 h' it a b i n ep:=by
 obtain⟨o,e,q⟩:=x;exact⟨o,k o e,q⟩
def Xd.at{b:Array _}{t:SetTable}(x:Xd h a b ep t)(k:∀o,h.get? a=some o->h'.get? a=some o):Xd h' a b ep t:=by
 obtain⟨⟨o,e,q⟩,g,f,d,c⟩:=x;exact⟨⟨o,k o e,q⟩,g,f,d,c⟩
section
open PySem.W (KasT kas_sort kas_rev kas_asc kas_desc kas_tail3 kas_descPart kas_count kas_place kas_bin)
section
variable {r:Nat->Nat} {n:Nat}
structure Ord (r:Nat->Nat) (n:Nat) (p:Array Nat):Prop where
 perm:p.toList.Perm (List.range n)
 inj:∀i j,i<n->j<n->r i=r j->i=j
def Ord.size(h:Ord r n p):p.size=n:=by
 have:=h.perm.length_eq
 simp_all
def Up(r:Nat->Nat)(p:Array Nat)(k:Nat):Prop:=∀i j,i<j->j<k->r (p.getD i 0)<r (p.getD j 0)
def Dn(r:Nat->Nat)(p:Array Nat)(k:Nat):Prop:=∀i j,i<j->j<k->r (p.getD j 0)<r (p.getD i 0)
def Up.succ(h:Up r p k)(b:1<=k)(e:r (p.getD (k-1) 0)<r (p.getD k 0)):Up r p (k+1):=λi j a c=>by
 by_cases z:j=k
 .subst z;by_cases y:i=j-1
  .subst y;exact e
  .exact Nat.lt_trans (h i _ (by ((try clear c e);omega)) (by ((try clear a c e y);omega))) e
 .exact h i j a (by ((try clear a b e);omega))
def Dn.succ(h:Dn r p k)(b:1<=k)(e:r (p.getD k 0)<r (p.getD (k-1) 0)):Dn r p (k+1):=λi j a c=>by
 by_cases z:j=k
 .subst z;by_cases y:i=j-1
  .subst y;exact e
  .exact Nat.lt_trans e (h i _ (by ((try clear c e);omega)) (by ((try clear a c e y);omega)))
 .exact h i j a (by ((try clear a b e);omega))
end
end
section
open PySem.W (CodeHd tabObj)
structure Yc (mg:Str->Option Value) (base:Heap) (c Pt:Addr):Prop where
 code:CodeHd base c Pt
 bm:∃bm ob,mg "__builtins__"=some (.ref bm)/\bm≠builtinsNs/\base.get? bm=some ob/\ob.cls=.type "module"/\ob.dict=some builtinsNs/\ob.data=.plain
def UA(h:Heap)(b:Str->Option Value)(x:Str)(c:Addr):Prop:=∃f o a,b x=some (.ref f)/\h.get? f=some o/\o.data=.func a/\a.code=.ref c
def Km{mb:Q5}{CX:Yb}{k:Nat}{fa:Addr}{s₁:Shared}{vs:List Value}(KX:K.In s₁.heap)(hns:s₁.heap.Ns mainGlobals mg)(hb:s₁.heap.Ns builtinsNs mb)(hbb:∀x:Str,x≠"__name__"->mb x=bootBuiltins x)(hlim:s₁.heap.NoLimit)(hg:s₁.gens=#[])(ha:s₁.heap.get? a=some {cls:=.type "list",data:=.seq vs.toArray})(hi:IntsAre vs ns)(hl:ns.length<=sizeLine)(hr:Z2 k callerA)(hC:CodeHd s₁.heap c Pt)(hP:s₁.heap.get? Pt=some (tabObj #[]))(hbm:∃bm ob,mg "__builtins__"=some (.ref bm)/\bm≠builtinsNs/\s₁.heap.get? bm=some ob/\ob.cls=.type "module"/\ob.dict=some builtinsNs/\ob.data=.plain)(hKP:K.lookup Pt=none)(F:∀base,K.In base->base.Ns mainGlobals mg->Yc mg base c Pt->Z8 P w K mg base CX k fa fd [x] sp)(hbind:∀s u,BindsTo s fd ⟨[u],[]⟩ [(x,u)])(hsp:∀H,H Pt=some (.tbl #[])->Zm K H a (ns.map V.int)->sp [.ref a] H (λv _=>v=.bl true) λ_ _ _=>False)(hCX:∀H e s',CX [] H s₁ (λ_ _ _=>False) e s'->False):codeAny (model P w) callerA (.call (.ref fa) ⟨[.ref a],[]⟩) (λr s'=>r=.ok (.ret (.bool true))/\OldK s₁.heap s'.heap/\s'.os=s₁.os/\AllBare s'.gens) s₁:=by
 have rv:=zR hi
 have lenV:=hi.length
 have naP:a≠Pt:=λz=>by rw[z,hP]at ha;cases ha
 have core:∀ H,(∀ b,H b=none\/(∃ o xs,H b=some (.frz o (.lst xs)))\/b=Pt)->H Pt=some (.tbl #[])->Zm K H a (ns.map V.int)->Zl P w H s₁.heap->(∀ b,H b≠none->b=a\/b=Pt)->(H a≠none->K.lookup a=none)->
     codeAny (model P w) callerA (.call (.ref fa) ⟨[.ref a],[]⟩) (λr s'=>r=.ok (.ret (.bool true))/\OldK s₁.heap s'.heap/\s'.os=s₁.os/\AllBare s'.gens) s₁:=by
  intro H hO hHP hS Z3 hA hK;have base_of:∀ {b:Addr} {o:Obj},s₁.heap.get? b=some o->H b=none->(yW s₁.heap H).get? b=some o:=λe n=>BP e n
  have noT:∀ {b:Addr} {o:Obj},s₁.heap.get? b=some o->(∀its n,o.data≠.seq its n)->(∀ps,o.cls=.none->o.data≠.fields ps)->H b=none:=fun {b o} e d d2=>by
   cases q:H b with
   |none=>rfl
   |some u=>
    rcases hA b (by rw[q];simp) with e'|e'
    .subst e';rw[ha]at e;cases e;exact absurd rfl (d _ _)
    .subst e';rw[hP]at e;cases e;exact absurd rfl (d2 _ rfl)
  have noA:∀ {b:Addr} {o:Obj} {es:Array DictEntry} {ep:Nat},s₁.heap.get? b=some o->o.data=.dict es ep->H b=none:=fun {b o es ep} e d=>noT e (λ_ _ z=>by rw[d]at z;cases z) λ_ _ z=>by rw[d]at z;cases z
  have nsK:∀ {b:Addr} {m:Q5},s₁.heap.Ns b m->(yW s₁.heap H).Ns b m:=fun {b m} ⟨o,es,ep,e,d,r⟩=>⟨o,es,ep,base_of e (noA e d),d,r⟩
  have hKb:=λb o e=>base_of (KX b o e) (by
   cases q:H b with
   |none=>rfl
   |some u=>
    rcases hA b (by rw[q];simp) with e'|e'
    .subst e';rw[hK (by rw[q];simp)]at e;cases e
    .subst e';rw[hKP]at e;cases e)
  have hM:Mod K mg (yW s₁.heap H):=⟨hKb,nsK hns,⟨mb,nsK hb,hbb⟩,let ⟨mc,h1,h2⟩:=hlim;⟨mc,nsK h1,h2⟩⟩
  have hLB:Yc mg (yW s₁.heap H) c Pt:=by
   refine⟨?_,?_⟩
   .obtain⟨o,vs,file,tf,flags,tg,inF,text,tt,e,ecl,eda,r⟩:=hC;exact⟨o,vs,file,tf,flags,tg,inF,text,tt,base_of e (noT e (λ_ _ z=>by rw[eda]at z;cases z) λ_ z=>by rw[ecl]at z;cases z),ecl,eda,r⟩
   .obtain⟨bm,ob,b1,b2,b3,b4,b5,b6⟩:=hbm;exact⟨bm,ob,b1,b2,base_of b3 (noT b3 (λ_ _ z=>by rw[b6]at z;cases z) λ_ z=>by rw[b4]at z;cases z),b4,b5,b6⟩
  have e0:XT P w K mg (yW s₁.heap H) callerA [] s₁ H:=⟨rfl,hM,λb o e=>J1 e,Nat.le_of_eq (A3 _ _),trivial,λb hb=>absurd (show b∈([]:List Addr) from hb) (by simp),Z3,.of_eq hg⟩
  refine Fb ((F _ hKb (nsK hns) hLB).run callerA [] s₁ H ⟨[.ref a],[]⟩ [.ref a] [.ref a] _ _ hr e0 (hbind s₁ (.ref a)) (.cons rfl .nil) (hsp H hHP hS)) λr s' h=>?_;cases r with
  |error e=>exact(hCX H e s' h).elim
  |ok fl=>
   cases fl with
   |next=>exact False.elim h
   |brk=>exact False.elim h
   |cont=>exact False.elim h
   |ret u=>
    obtain⟨v,H',os,bare,un,hok',r',q⟩:=h;have q':=q
    subst q';obtain rfl:u=Value.bool true:=r';refine⟨rfl,⟨λb o e=>?_,λb o e=>?_⟩,os,bare⟩
    .cases q:H b with
     |none=>exact .inl (un.keep b o e q (by intro z;exact absurd (show b∈([]:List Addr) from z) (by simp)) (by simp))
     |some u=>
      rcases hO b with z|⟨ob,xs,z⟩|z
      .rw[q]at z;cases z
      .have z2:=un.frzs b ob _ z
       obtain⟨e1,_⟩:=Z3 b _ z;obtain⟨e2,_⟩:=hok' b _ z2;rw[e]at e1;cases e1;exact .inl e2
      .subst z;rw[hP]at e;cases e;obtain⟨more,z2⟩:=un.tbls b _ hHP;exact .inr (.inl ⟨(hC.tab hP).isCodeTable,rfl,#[],more,rfl,hok' b _ z2⟩)
    .exact un.there b o e (by simp)
 have tblOk:∀H,H Pt=some (.tbl #[])->ZZ P w H s₁.heap Pt (.tbl #[]):=λ_ _=>hP
 cases hk:K.lookup a with
 |some o=>
  have e:=KX a o hk
  rw[ha]at e;cases e;refine core (λb=>if b=Pt then some (.tbl #[]) else none) (λb=>?_) (if_pos rfl) (.inr ⟨_,vs.toArray,_,hk,rfl,rfl,rfl,by rw[List.size_toArray,lenV];exact hl,by simpa using rv⟩) (λb u z=>?_) (λb z=>?_) λz=>?_
  .by_cases hb:b=Pt
   .exact .inr (.inr hb)
   .exact .inl (if_neg hb)
  .by_cases hb:b=Pt
   .have z':=(if_pos hb).symm.trans z
    cases z';subst hb;exact hP
   .have z':=(if_neg hb).symm.trans z
    cases z'
  .by_cases hb:b=Pt
   .exact .inr hb
   .exact absurd (if_neg hb) z
  .exact absurd (if_neg naP) z
 |none=>
  refine core (λb=>if b=a then some (.frz {cls:=.type "list",data:=.seq vs.toArray} (.lst (ns.map V.int))) else if b=Pt then some (.tbl #[]) else none) (λb=>?_) ((if_neg naP.symm).trans (if_pos rfl)) (.inl (.inr ⟨{cls:=.type "list",data:=.seq vs.toArray},if_pos rfl⟩)) (λb u z=>?_) (λb z=>?_) λ_=>hk
  .by_cases hb:b=a
   .exact .inr (.inl ⟨_,_,if_pos hb⟩)
   .by_cases hb2:b=Pt
    .exact .inr (.inr hb2)
    .exact .inl ((if_neg hb).trans (if_neg hb2))
  .by_cases hb:b=a
   .have z':=(if_pos hb).symm.trans z
    cases z';subst hb;exact⟨ha,by rw[Ab];exact hl,vs,_,rv,ha⟩
   .by_cases hb2:b=Pt
    .have z':=((if_neg hb).trans (if_pos hb2)).symm.trans z
     cases z';subst hb2;exact hP
    .have z':=((if_neg hb).trans (if_neg hb2)).symm.trans z
     cases z'
  .by_cases hb:b=a
   .exact .inl hb
   .by_cases hb2:b=Pt
    .exact .inr hb2
    .exact absurd ((if_neg hb).trans (if_neg hb2)) z
def GL{l:W.OpenLaw}{n k:Nat}{q:Program}{t:List Str}{XP:(Q5)->Heap->Prop}{YP:World->Heap->Prop}{d d2:DefRec}{K:Params->W.Frag}{CX:World->Yb}{sp:World->Addr->Sp}(hn:l.most=some n)(I:n<=sizeLine)(L:d.params.defaults=[])(hr:Z2 k callerA)(M:d2∈recsOf q)(E:∀w:World,W.noTabs (K w.params)=true)(hY:∀(w:World) (h:Heap),YP w h->(K w.params).In h)(F:∀(w:World) (p:Q5) (B:Addr) (h:Heap) (c j:Addr),(K w.params).In h->h.Ns mainGlobals p->p d.name=some (.ref B)->UA h p d2.name c->
 ∃Q:FuncData,(∀(s:Shared) (u:Value),BindsTo s Q ⟨[u],[]⟩ [(x,u)])/\
  ∀i:Heap,(K w.params).In i->i.Ns mainGlobals p->Yc p i c j->Z8 l.prog w (K w.params) p i (CX w) k B Q [x] (sp w j))(D:∀(w:World) (H:Hp) (a j:Addr) (A:List Int),A.length<=n->H j=some (.tbl #[])->Zm (K w.params) H a (A.map V.int)->sp w j [.ref a] H (λv _=>v=.bl true) λ_ _ _=>False)(O:∀(w:World) (H:Hp) (s:Shared) (e:Value) (C:Shared),CX w [] H s (λ_ _ _=>False) e C->False):W.WalkO q t XP YP l.row.toRowW d [] (λf S=>PySem.call f S):=by
 refine Att.X4 hn L λw X m p mb B o pm cd a3 a S A G Y ho hd a1 J z y r hg=>?_;have R:=hY w _ Y
 obtain⟨a2,o2,P,c,j,t1,t2,t3,t4,t5,U⟩:=G.T.tab d2 M;have hC:=CodeHd.of t5 U
 have Z:m.heap.get? j=some (tabObj #[]):=U.2
 have N:(K w.params).lookup j=none:=by
  cases e:(K w.params).lookup j with
  |none=>rfl
  |some o=>
   have h1:=R _ _ e
   rw[Z]at h1;cases h1;have h2:=Ca.mp (E w) (j,tabObj #[]) (W.mem_of_lookupK e)
   exact absurd (show false=true from h2) Ar
 obtain⟨Q,hb,hF⟩:=F w p B _ c j R G.T.g J ⟨a2,o2,P,t1,t2,t3,t4⟩;exact Km R G.T.g G.T.b G.T.builtins G.T.nolimit hg z y (Bh r I) hr hC Z G.T.bmain N hF hb (λH hO hS=>D w H a j A r hO hS) λH e C=>O w H m e C
def ZT.Nd{ps:List Str}{k:Nat}(F:ZT K x qual st f fd)(o:fd.code=.ref c)(S:Z9 N ps (aJ st))(g:∀d H Q E,sp d H Q E->d.length=ps.length)(e:∀b A a s H d Q E,b=.ref c->Z2 k (A.deeper (envOfC qual (aJ st) s.heap.objs.size f b))->sp d H Q E->
 ∃t,Yt (hZ ZS P w K mg base N qual (aJ st) f b A a s H E).WT (fY st) t/\t {nx:=λ_ r=>Q .non r,rt:=Q} (oH N d) H):Z8 P w K mg base ZS (k+1) f fd ps sp:=by
 obtain⟨y,v,z,p,u,C,b,B,l,rfl,m,j⟩:=F.ex;refine RM m j S g λA a s H d Q E n i=>?_;obtain⟨t,h,q⟩:=e b A a s H d Q E o n i;exact⟨t,h.WT,q⟩
def Mt{e:Value}{d:Option Addr}{a:Array _}(T:UA h mg x c)(n:K.In h)(i:mg x=some (.ref f))(g:K.lookup f=some ⟨e,d,.func fd,a⟩):fd.code=.ref c:=by
 obtain⟨q,p,j,b,m,l,k⟩:=T;have:=n _ _ g
 grind
end
section
open PySem.W (CodeHd tabObj kla_obj kla_fn envX)
noncomputable def tG(c:Addr)(q:Str):HO:=.ext λh=>h.CodeRec (.ref c) q
def I_{q:Str}(r:h.CodeRec (.ref c) q):ZZ P w H h c (tG c q):=by
 obtain⟨n,a,d,t,e,b,g,f⟩:=id r;cases e;refine⟨r,⟨a,b⟩,λl j i k=>?_⟩;obtain⟨m,a,d,t,e,b,g,f⟩:=i;cases e;exact⟨_,a,d,t,rfl,k _ b,g,f⟩
def Y2(b:Addr)(q:Str)(a:Pos)(H:Hp):Prop:=H b=some (.tbl #[])\/∃c,H b=some (.tbl (#[]++#[rawInt a.line,rawInt a.col,.ref c]))/\H c=some (tG c q)
def ZY(a:Addr)(H c:Hp):Prop:=∀b o,b≠a->H b=some o->c b=some o
def ZY.trans{d:Hp}(a:ZY Pt H H1)(b:ZY Pt H1 d):ZY Pt H d:=λc o n e=>b c o n (a c o n e)
def Z_.p(s:Z_ H H'):ZY Pt H H':=λb o _ e=>s b o e
def Y2.keep{q:Str}(h:Y2 Pt q pos H)(s:Z_ H H'):Y2 Pt q pos H':=by
 rcases h with h|⟨c,b,a⟩
 .exact .inl (s _ _ h)
 .exact .inr ⟨c,s _ _ b,s _ _ a⟩
def Y2.tb{q:Str}(h:Y2 Pt q pos H):∃a,H Pt=some (.tbl a):=by
 rcases h with h|⟨c,b,d⟩
 .exact⟨_,h⟩
 .exact⟨_,b⟩
structure X8 (X:Cx) (N:List Str) (scope:Scope) (cl:List (Str×Addr)) (vals:St->St) (x:Str):Prop where
 clos:closureFor scope X.env=pure cl
 sub:∀y c,cl.lookup y=some c->X.env.cells.lookup y=some c
 has:∀y,(scope.names.lookup y=some .cell\/scope.names.lookup y=some .free)->∃c,cl.lookup y=some c
 len:∀U,(vals U).length+1=N.length
 par:N[0]?=some x/\scope.names.lookup x=some .local
 val:∀U (i:Nat) y v,N[i+1]?=some y->(vals U)[i]?=some (some v)->∃(j:Nat),X.N[j]?=some y/\U[j]?=some (some v)/\X.env.scope.names.lookup y=some .cell/\(∃c,cl.lookup y=some c)/\scope.names.lookup y=some .free
noncomputable def Th(a:List Nat):St->St:=λU=>a.map λj=>(U[j]?).join
noncomputable def PU(N c:List Str)(sn b:List (Str×NameKind))(a:List Nat)(x:Str):Bool:=
 (a.length+1==N.length)&&(N[0]? == some x)&&(sn.lookup x==some .local)&&(sn.all λy=>y.2 != .cell&&(y.2 != .free || b.lookup y.1==some .cell)) &&
 ((List.range a.length).all λi=>match a[i]? with|some j=>N[i+1]? == c[j]? && (match N[i+1]? with|some y=>sn.lookup y==some .free|none=>false)|_=>true)
def lM:∀ {l:List (Str×α)},l.lookup x=some k->(x,k)∈l:=fun {l} h=>Dm h
def IQ(C:List Str)(u:Scope)(s:List Nat)(G:X.N=C)(A:X.env.scope=u)(h:∀x,u.names.lookup x=some .cell->∃c,X.env.cells.lookup x=some c)(d:PU N C scope.names u.names s x=true):X8 X N scope (Xo X.env scope.names []) (Th s) x:=by
 unfold PU at d;simp only[Bool.and_eq_true]at d;obtain⟨⟨⟨⟨L,K⟩,J⟩,I⟩,H⟩:=d;have l:=Ca.mp I
 have B:∀y,(y,NameKind.free)∈scope.names->∃c,X.env.cells.lookup y=some c:=λy a=>by
  have:=l _ a
  simp at this;exact h y this
 have b:∀y,scope.names.lookup y=some .free->∃c,(Xo X.env scope.names []).lookup y=some c:=λy a=>Eb.mp (pQ scope.names [] (lM a))
 refine⟨?_,λy c e=>?_,λy a=>?_,λU=>?_,⟨by simpa using K,by simpa using J⟩,λU i y v M m=>?_⟩
 .unfold closureFor;exact(congrArg (· >>= λr=>pure r) (uE scope.names [] λy a D=>by obtain⟨n,k⟩:=y;cases (show k=.free from D);exact B n a)).trans (by simp)
 .rcases tY scope.names [] e with z|⟨z,rfl⟩
  .cases z
  .obtain⟨c,F⟩:=B y z;rw[F];rfl
 .rcases a with a|a
  .have:=l _ (lM a)
   simp at this
  .exact b y a
 .unfold Th;rw[Ab]
  simpa using L
 .unfold Th at m;rw[Ag]at m;cases t:s[i]? with
  |none=>rw[t]at m;cases m
  |some j=>
   rw[t]at m;have f:(U[j]?).join=some v:=Bk m
   have E:=(Ad.mp t).1
   have g:=Ca.mp H i (Bu.mpr E)
   rw[t]at g;dsimp only at g;rw[M]at g;simp at g;have w:U[j]?=some (some v):=by
    cases q:U[j]? with
    |none=>rw[q]at f;cases f
    |some o=>rw[q]at f;exact Dp some f
   have p:=l _ (lM g.2)
   simp at p;exact⟨j,by rw[G];exact g.1.symm,w,by rw[A];exact p,b y g.2,g.2⟩
noncomputable def Ug(X:Cx)(A:Around)(N:List Str)(q:Str)(scope:Scope)(cl:List (Str×Addr))(f c:Addr)(s₀:Shared)(H₀:Hp):Cx where
 prog:=X.prog
 w:=X.w
 K:=X.K
 mg:=X.mg
 base:=X.base
 A:=A.deeper (envX q scope s₀.heap.objs.size f (.ref c) cl)
 N:=N
 s₀:=s₀
 H₀:=H₀
 env:=envX q scope s₀.heap.objs.size f (.ref c) cl
 outer:=X.stack
 stack:=envX q scope s₀.heap.objs.size f (.ref c) cl::X.stack
 ex:=[]
 fn:=λ_=>false
 calm:=true
 pn:=[]
 xe:=λ_ _=>False
section
variable {U:St} {q:Str} {vals:St->St} {c':Addr}
def J_{v:Value}(I:Inv X y2 U H s)(a:X8 X N scope cl vals x)(S:A.frames=some X.stack)(Q:A.handled=none)(k:scope.kind=.function)(M:RelV y v)(B:h1.Ns s.heap.objs.size λz=>[(x,v)].reverse.lookup z)(t:Heap.SameBut s.heap.objs.size (s.heap.push {cls:=.type "frame",data:=.dict #[]}) h1):Inv (Ug X A N q scope cl f c' s H) [] (some y::vals U) H {s with heap:=h1,toks:=t1}:=by
 have d:∀b o,s.heap.get? b=some o->h1.get? b=some o:=λb o e=>(t.2 b (Bl (Ax e))).trans (Ai _ e)
 have R:=I.Z3.fresh (Ah _)
 have g:∀b,b∉(Ug X A N q scope cl f c' s H).ex:=λb z=>absurd (show b∈([]:List Addr) from z) (by simp)
 refine⟨⟨I.ok.mod,k,rfl,rfl,Ah _,λy z c h1 h2=>I.ok.inj y z c (a.sub y c h1) (a.sub z c h2),a.has,(λx c h=>nomatch h),λ_=>Q,Around.frames_deeper S,.inr ⟨rfl,rfl⟩,λb z=>absurd z (g b),
  I.bs,Nat.le_trans I.ok.XN I.sz,λb _ _=>g b,λb z=>absurd z (g b),I.stack,I.Y4⟩,rfl,I.bare,Un.kept d,⟨_,B,λi z E K J _=>?_⟩,λy c e=>?_,R,λy c e=>I.ZN y c (a.sub y c e),λp O=>absurd (show p∈([]:Q2) from O) (by simp),I.Z3.kept d,?_⟩
 .cases i with
  |zero=>
   have n:N[0]?=some z:=K
   rw[a.par.1]at n;cases n;cases J;refine⟨v,M,.inl ⟨a.par.2,?_⟩⟩;show [(x,v)].lookup x=some v
   rw[Dh,Fd]
  |succ i=>
   obtain⟨j,h1,h2,G,⟨c,F⟩,T⟩:=a.val U i z E K J;obtain⟨m,V,P⟩:=I.loc;obtain⟨u,r,l⟩:=P j z E h1 h2 (.inr (.inl G));refine⟨u,r,.inr ⟨.inr T,c,F,?_⟩⟩;rcases l with⟨z',_⟩|⟨_,c',L,z'⟩
   .have D:X.env.scope.names.lookup z=some .local:=z'
    rw[G]at D;cases D
   .rw[a.sub z c F]at L;cases L;obtain⟨o,w,C⟩:=z';exact⟨o,d _ o w,C⟩
 .obtain⟨v,o,w,C⟩:=I.cell y c (a.sub y c e);exact⟨v,o,d _ o w,C⟩
 .show (some y::vals U).length=N.length
  rw[Av];exact a.len U
def A4{a:Expr}{pm ctv v:Value}{y:V}{o:TE}{Q:VK}(I:Inv X y2 U H s)(t:X8 X N scope cl vals x)(K:A.frames=some X.stack)(E:A.handled=none)(b:A.depth<recursionLimit)(F:s.heap.get? f=some (kla_obj "<lambda>" q params a scope cl pm c' ctv))(n:s.heap.CodeRec (.ref c') q)(m:scope.isCoroutine=false)(j:scope.isGenerator=false)(p:scope.kind=.function)(d:∀z∈scope.names,z.2≠.cell)(g:bindArgs (kla_fn "<lambda>" q params a scope cl pm (.ref c') ctv) ⟨[v],[]⟩=pure [(x,v)])(C:RelV y v)(G:PE (Ug X A N q scope cl f c' s H) a o)(h:o (some y::vals U) H Q):codeAny (model X.prog X.w) A (.call (.ref f) ⟨[v],[]⟩) (λr k=>match r with|.ok (.ret u)=>CE X.stack X.prog X.w H s Q u k|_=>False) s:=by
 refine W.kla_callFunE b F rfl m j rfl n ?_;rw[g];refine As (wpAny_newFunctionEnv d (λz D=>by rw[Aj.mp D];exact t.par.2) (λO l i=>⟨(I.nolimit).fresh _ i,?_⟩) p)
 refine W.kla_codeExpr ?_;have L:=J_ (A:=A) (q:=q) (f:=f) (c':=c') (t1:=s.toks+[(x,v)].length) I t K E p C l i
 exact Cp (G [] _ _ H _ L h) (λu k ⟨B,M,J,r,q⟩=>⟨B,M,J.os,J.bare,J.base,J.Z3,r,q⟩) λe k z=>z.elim
def Inv.table{ps d:Array Value}{t':Nat}(I:Inv X y2 U H s)(j:H Pt=some (.tbl ps))(g:Heap.ExtBut Pt s.heap h')(k:h'.get? Pt=some (tabObj (ps++d))):Inv X y2 U (upd H Pt (.tbl (ps++d))) {s with heap:=h',toks:=t'}:=by
 have a:∀b u,H b=some u->(∀z,u≠.tbl z)->b≠Pt:=λb u e n z=>by rw[z,j]at e;cases e;exact n _ rfl
 have i:∀b,H b=none->b≠Pt:=λb e z=>by rw[z,j]at e;cases e
 refine I.un ⟨λb o e n _ _=>g b o (i b n) e,λb o e n _ _=>⟨o.slots,g b o (i b n) e⟩,λb o e n _=>by rw[aH (i b n)];exact n,λb o e _=>?_,λb l e=>by rw[aH (a b _ e λ_=>nofun)];exact e,λb o u e=>by rw[aH (a b _ e λ_=>nofun)];exact e,λb p e=>?_⟩ λb u e=>?_
 .by_cases f:b=Pt
  .exact⟨_,f▸k⟩
  .exact⟨o,g b o f e⟩
 .by_cases f:b=Pt
  .subst f;rw[j]at e;cases e;exact⟨d,aD⟩
  .exact⟨#[],by rw[aH f,e];simp⟩
 .by_cases f:b=Pt
  .subst f;rw[aD]at e;cases e;exact k
  .rw[aH f]at e;refine(I.Z3 b u e).ZD (λc v m q=>g c v ?_ q) (λc q=>by rw[aH (a c _ q λ_=>nofun)];exact q) λc l q=>by rw[aH (a c _ q λ_=>nofun)];exact q
   rcases m with z|z
   .rw[z];exact f
   .exact a c _ z λ_=>nofun
def Inv.SV(I:Inv X y2 U H s)(h:b∈X.fs):b<s.heap.objs.size:=by
 obtain⟨_,c,a,_⟩:=I.ok.Zk.mem h;exact Bc (Ax a) I.sz
noncomputable def V9(f:Addr)(o:Obj):HO:=.ext λh=>h.get? f=some o
def QW(e:h.get? f=some o):ZZ P w H h f (V9 f o):=⟨e,⟨o,e⟩,λc b a k=>k o a⟩
def FR(j:Addr)(q:Str)(a:Arguments)(e:Expr)(b:Scope)(l:List (Str×Addr))(d:Pos):TE:=λU H Q=>Y2 j q d H/\∀f i k h g,ZY j H g->Y2 j q d g->g i=some (tG i q)->g f=some (V9 f (kla_obj "<lambda>" q a e b l k i h))->Q (.ref f) g
def CI{d:Expr}(ck:X8 X N scope cl vals x)(j:X.env.code=.ref c)(LB:Yc X.mg X.base c Pt)(E:defaultsOf params X.env=([],[])):PE X (.Lambda params d scope pos) (FR Pt (X.env.qual ++ "<lambda>") params d scope cl pos):=by
 intro y2 s U H Q I hT;obtain⟨T,h⟩:=hT;refine W.kla_eval E ?_;generalize X.env.qual ++ "<lambda>"=q at T h ⊢;have hg:=I.mod.glob.keeps I.bk
 obtain⟨L,y⟩:=T.tb;have V:=I.Z3 Pt _ y
 obtain⟨Y,ob,b1,b2,J,b4,b5,Z⟩:=LB.bm;have S:Y≠mainGlobals:=λz=>by
  obtain⟨o,es,ep,e,hd,_⟩:=I.mod.glob;rw[z,e]at J;cases J;rw[hd]at Z;cases Z
 have R:Y≠Pt:=λz=>by
  have:=(I.bs _ _ J).2
  rw[z,y]at this;cases this
 have O:mainGlobals≠Pt:=λz=>by
  obtain⟨o,es,ep,e,hd,_⟩:=I.mod.glob;have:=(I.bs _ _ e).2
  rw[z,y]at this;cases this
 have hB:s.heap.BuiltinsAt X.mg Pt:=⟨Y,ob,b1,b2,S,R,I.bk _ _ J,b4,b5,Z⟩
 have r:=Ax V
 rcases T with T|⟨f,T,Tc⟩
 .have w:=I.Z3 Pt _ T
  refine W.kla_makeFunction ck.clos I.ok.glob hg j (LB.code.keeps I.bk) w trivial rfl O hB λf g h' F hx i D C M=>?_;have I1:=I.table (t':=F) T hx M
  have k:=Bh i (Nat.le_of_lt D)
  have nc:=Fa (Bc r i)
  have P:(upd H Pt (.tbl (#[]++#[rawInt pos.line,rawInt pos.col,.ref f]))) f=none:=by rw[aH nc];exact I.Z3.fresh i
  have G:=I.YG i
  have I2:=I1.adopt (a:=f) (o:=tG f q) ⟨G.s0,G.loc,G.cell,G.pin⟩ P (I_ C)
  have I3:=I2.kept (t':=F) (h':=h'.push (kla_obj "<lambda>" q params d scope cl ((X.mg "__name__").getD .none) f g)) λb u e=>Ai _ e
  have A:=Fa (Bc r k)
  have v:=Fa D
  have m:=I.YG k
  have l:(upd (upd H Pt (.tbl (#[]++#[rawInt pos.line,rawInt pos.col,.ref f]))) f (tG f q)) h'.objs.size=none:=by
   rw[aH v,aH A];exact I.Z3.fresh k
  have I4:=I3.adopt (a:=h'.objs.size) (o:=V9 h'.objs.size (kla_obj "<lambda>" q params d scope cl ((X.mg "__name__").getD .none) f g)) ⟨m.s0,m.loc,m.cell,m.pin⟩ l (QW (Ay _ rfl))
  refine⟨.ref h'.objs.size,_,I4,rfl,h h'.objs.size f ((X.mg "__name__").getD .none) g _ (λb o n e=>?_) (.inr ⟨f,?_,?_⟩) ?_ aD⟩
  .rw[aH (λz=>by rw[z,I.Z3.fresh k]at e;cases e),aH (λz=>by rw[z,I.Z3.fresh i]at e;cases e),aH n]
   exact e
  .rw[aH A.symm,aH nc.symm];exact aD
  .rw[aH v.symm];exact aD
  .rw[aH v.symm];exact aD
 .have w:=I.Z3 Pt _ T
  refine W.kla_makeFunctionHit (cv:=.ref f) ck.clos I.ok.glob hg j (LB.code.keeps I.bk) w trivial (codeAmong_snoc [] trivial rfl) hB λg h' F hk B=>?_;have I3:=I.kept (t':=F) (h':=h'.push (kla_obj "<lambda>" q params d scope cl ((X.mg "__name__").getD .none) f g)) λb u e=>Ai _ (hk b u e)
  have m:=I.YG B
  have l:=I.Z3.fresh B
  have I4:=I3.adopt (a:=h'.objs.size) (o:=V9 h'.objs.size (kla_obj "<lambda>" q params d scope cl ((X.mg "__name__").getD .none) f g)) ⟨m.s0,m.loc,m.cell,m.pin⟩ l (QW (Ay _ rfl))
  have K:=aG l (V9 h'.objs.size (kla_obj "<lambda>" q params d scope cl ((X.mg "__name__").getD .none) f g))
  exact⟨.ref h'.objs.size,_,I4,rfl,h h'.objs.size f ((X.mg "__name__").getD .none) g _ (Z_.p K) (Y2.keep (.inr ⟨f,T,Tc⟩) K) (K _ _ Tc) aD⟩
end
end
section
open PySem.W (CodeHd tabObj kla_obj kla_fn envX)
def K4(a v:Value):argsOk "max" ⟨[a],[(Str.ofString "key",v)]⟩:=by unfold argsOk;kernel_rfl
section
variable {l:Addr} {its:List Value} {G:Shared->Prop} {val:Nat->Int} {Q:Q0}
def IG(U:s.heap.IsList l its.toArray)(S:0<its.length)(hh:A.handled=none)(V:∀m y,(∀b o,s.heap.get? b=some o->m.get? b=some o)->G {s with heap:=m,toks:=y})(X:∀a m y,G a->(∀b o,b≠s.heap.objs.size->b≠s.heap.objs.size+1->a.heap.get? b=some o->m.get? b=some o)->G {a with heap:=m,toks:=y})(d:∀i v a (Q:Q0) (E:Q0),its[i]?=some v->G a->(∀t j,G j->(∀b o,(b=s.heap.objs.size\/b=s.heap.objs.size+1\/b=l)->a.heap.get? b=some o->j.heap.get? b=some o)->Q (.int (val i) t) j)->wpAny (model prog w) A.in1 (call (.ref f) [v]) Q E a)(hQ:∀z j,its[argBest (btV val) (its.length-1)]?=some z->G j->Q z j):wpAny (model prog w) A (call (.builtin "max") [.ref l] [(Str.ofString "key",.ref f)]) Q E s:=by
 have c:(toString "max" ++ toString ".loop" : String)="max.loop" := by decide
 obtain⟨ol,R,_⟩:=id U;have D:=Ax R
 refine kmk_tree PySem.F.kind_max PySem.F.plain_max PySem.F.entry_max (K4 _ _) ?_;show wpAny _ A.in1 (Builtin.Builtins.bindParams "max" ["key", "default"] 0 ⟨[],[(Str.ofString "key",.ref f)]⟩ >>= _) _ _ s
 refine Ae (wpAny_of_eq (show Builtin.Builtins.bindParams "max" ["key", "default"] 0 ⟨[],[(Str.ofString "key",.ref f)]⟩=pure [some (.ref f),none] from rfl) ?_);refine Ae (As ?_);refine Ae (Et U ?_);refine Ae (wpAny_newList ?_ (Da _));rw[c];have hS:(s.heap.push {cls:=.type "list_iterator",data:=.fields #[.ref l,.int 0 0]}).objs.size=s.heap.objs.size+1:=by rw[Fy]
 have O:=Bl D
 have P:=Bl (Nat.lt_succ_of_lt D)
 have W:=Walks.list (prog:=prog) (w:=w) (A:=A.in1) hh s.heap.objs.size l O its.toArray
 have C:its.toArray.size=its.length:=Be ..
 have nB:s.heap.objs.size+1∉[s.heap.objs.size,l]:=λz=>by
  simp only[List.mem_cons,List.not_mem_nil,or_false]at z;rcases z with z|z
  .exact Nat.succ_ne_self _ z
  .exact P z.symm
 rw[hS];refine As ⟨Ft Dw _,?_⟩;generalize n:(s.heap.push {cls:=.type "list_iterator",data:=.fields #[.ref l,.int 0 0]}).push {cls:=.type "list",data:=.seq #[]}=q;have k0:∀b o,s.heap.get? b=some o->q.get? b=some o:=λb o e=>by rw[<-n];exact Ai _ (Ai _ e)
 have gJ:q.get? s.heap.objs.size=some {cls:=.type "list_iterator",data:=.fields #[.ref l,.int 0 0]}:=by rw[<-n];exact Ai _ (Ay _ rfl)
 have gB:q.get? (s.heap.objs.size+1)=some {cls:=.type "list",data:=.seq #[]}:=by rw[<-n,<-hS];exact Ay _ rfl
 have T:q.IsList l its.toArray:=by obtain⟨o,e,r⟩:=U;exact⟨o,k0 _ _ e,r⟩
 refine Eu Ht ?_;rw[Ee Dw _];show wpAny _ A.in1 (seqItems? (.ref (s.heap.objs.size+1)) >>= _) _ _ _
 refine Ae (wpAny_seqItems gB rfl ?_);show wpAny _ A.in1 (tryCatch (pyNext (.ref s.heap.objs.size)) _ >>= _) _ _ _
 refine Ae (Gx (W.item 0 _ _ _ (by rw[C];exact S) ⟨⟨_,gJ,rfl,rfl⟩,T⟩ λv m x hP N H=>?_))
 have hv:its[0]?=some v:=by simpa using hP
 have g1:G {s with heap:=m,toks:=x}:=by
  refine X {s with heap:=q,toks:=s.toks} m x (V q s.toks k0) λb o L K e=>H b o (λz=>L (by simpa using z)) e
 have Y:=H (s.heap.objs.size+1) _ (λz=>absurd (show s.heap.objs.size+1=s.heap.objs.size by simpa using z) (Nat.succ_ne_self _)) gB
 show wpAny _ A.in1 (tryCatch (holding [v] (call (.ref f) [v])) _ >>= _) _ _ _
 refine Ae (Gx (Co (d 0 v _ _ _ hv g1 λZ s2 g2 k2=>?_)));have I:=k2 _ _ (.inr (.inl rfl)) Y
 have M:=W.frame _ _ _ N λb p o e=>k2 b o (by
  simp only[List.mem_cons,List.not_mem_nil,or_false]at p;rcases p with z|z
  .exact .inl z
  .exact .inr (.inr z)) e
 show wpAny _ A.in1 (updateSeq (s.heap.objs.size+1) (λ_=>#[v,.int (val 0) Z]) >>= _) _ _ _
 refine Ae (wpAny_updateSeq I rfl ?_);rw[c];refine As ⟨Ft Dw _,?_⟩;refine MQ (J:=s.heap.objs.size) (B:=s.heap.objs.size+1) (f:=f) (G:=G) (val:=val) W nB (λa h1 y g k=>X a h1 y g λb o L K e=>k b o (λz=>L (by simpa using z)) K e)
  (λi u a Q1 E1 hu g k=>d i u a Q1 E1 (by simpa using hu) g λt s3 g3 k3=>k t s3 g3 λb o p e=>k3 b o (by
   simp only[List.mem_cons,List.not_mem_nil,or_false]at p;rcases p with z|z|z
   .exact .inr (.inl z)
   .exact .inl z
   .exact .inr (.inr z)) e)
  (λz j pz g=>hQ z j (by rw[C]at pz;simpa using pz) g) (its.toArray.size-1) 0 _ v Z _ (by ((try clear D O P hS);omega)) (by (assumption)) (W.frame _ _ _ M λb p o e=>(Heap.get?_update_other _ _ (λz:s.heap.objs.size+1=b=>nB (z▸p))).trans e) (show its.toArray[0]?=some v by simpa using hv) (Heap.get?_update_self _ I rfl)
  (X s2 _ s2.toks g2 λb o L K e=>(Cc _ _ (Ne.symm K)).trans e)
end
section
variable {U:St}
def Inv.WD(I:Inv X y2 U H s)(i:H a=some (.lst xs))(p:s.heap.get? a=some o):Inv X y2 U (upd H a (.frz o (.lst xs))) s:=by
 have h:∀c v,H c=some v->(∀z,v≠.lst z)->c≠a:=λc v q n z=>by rw[z,i]at q;cases q;exact n _ rfl
 have g:∀c y,H c=some (.own y)->upd H a (.frz o (.lst xs)) c=some (.own y):=λc y q=>by rw[aH (h c _ q λ_=>nofun)];exact q
 have d:∀c f,H c=some (.tup f)->upd H a (.frz o (.lst xs)) c=some (.tup f):=λc f q=>by rw[aH (h c _ q λ_=>nofun)];exact q
 refine I.re (λb q=>by rw[aH (λz=>by rw[z,i]at q;cases q)];exact q) (λb f q=>d b f (I.base.tups b f q)) (λb l v q=>?_) (λb k q=>?_) (λb v q=>?_)
 .have:=I.base.frzs b l v q
  rw[aH (h b _ this λ_=>nofun)];exact this
 .obtain⟨m,e⟩:=I.base.tbls b k q;exact⟨m,by rw[aH (h b _ e λ_=>nofun)];exact e⟩
 .by_cases j:b=a
  .subst j;rw[aD]at q;cases q;exact(show s.heap.get? b=some o/\ZZ X.prog X.w (upd H b (.frz o (.lst xs))) s.heap b (.lst xs) from⟨p,(I.Z3 b _ i).ZD (λ_ _ _ q=>q) (λc=>g c b) d⟩)
  .rw[aH j]at q;exact(I.Z3 b v q).ZD (λ_ _ _ q=>q) (λc=>g c b) d
def KZ(f:H a=some (.lst xs)):Za H (upd H a (.frz o (.lst xs)))=H:=by
 funext b
 by_cases c:b=a
 .subst c;rw[tZ aD (λo v z=>by grind),f]
 .cases e:H b with
  |none=>exact uW (by rwa[aH c])
  |some u=>
   by_cases d:∃o v,u=.frz o v
   .obtain⟨g,v,rfl⟩:=d;exact mV (by rwa[aH c]) e
   .exact eY (by rwa[aH c]) λo v z=>d ⟨o,v,z⟩
def Inv.WI(I:Inv X y2 U H s)(k:∀c o,c≠a->c≠b->s.heap.get? c=some o->h'.get? c=some o)(p:VJ X y2 a)(l:VJ X y2 b)(y:H a=none)(x:H b=none)(D:X.s₀.heap.objs.size<=a)(C:X.s₀.heap.objs.size<=b):Inv X y2 U H {s with heap:=h',toks:=t'}:=by
 have j:∀c u,H c=some u->c≠a/\c≠b:=λc u e=>⟨(λz=>by rw[z,y]at e;cases e),(λz=>by rw[z,x]at e;cases e)⟩
 have f:∀ {c},c∉[a,b]->c≠a/\c≠b:=fun {c} h=>⟨λz=>h (by simp[z]),λz=>h (by simp[z])⟩
 refine I.step (g':=s.gens) (d':=s.drawn) (ch:=[a,b]) (λc i=>?_) (λc o _ _ i e _=>k c o (f i).1 (f i).2 e) (λc o _ _ i e _=>⟨o.slots,k c o (f i).1 (f i).2 e⟩) (λ_ _ _ _ n=>n)
  (λc o i e=>⟨o,k c o (f i).1 (f i).2 e⟩) (λ_ _ e=>e) (λ_ _ _ e=>e) (λb G e=>⟨#[],by rw[e];simp⟩) (λm B=>?_) (λc u e=>?_) I.bare
 .simp only[List.mem_cons,List.not_mem_nil,or_false]at i;rcases i with rfl|rfl
  .exact⟨.inr D,p.loc,p.cell,p.pin⟩
  .exact⟨.inr C,l.loc,l.cell,l.pin⟩
 .obtain⟨o,E,F,A,r⟩:=B;exact⟨o,E,F,k _ o p.loc.symm l.loc.symm A,r⟩
 .refine(I.Z3 c u e).ZD (λd v w q=>k d v ?_ ?_ q) (λ_ q=>q) λ_ _ q=>q
  .rcases w with z|z
   .rw[z];exact(j c u e).1
   .exact(j d _ z).1
  .rcases w with z|z
   .rw[z];exact(j c u e).2
   .exact(j d _ z).2
end
def OD(h:Addr)(q:Str)(b:Pos)(o:TE)(e:St->St)(r:TA):TE:=λU H Q=>r U H λl g=>∃(p:Addr) (f:List Int) (c:Nat->Int),l=[.ref p]/\Z4 g p=some (f.map V.int)/\0<f.length/\Y2 h q b g/\
 (∀d,(∀a k,Z4 g a=some k->Z4 d a=some k)->∀i n,f[i]?=some n->o (some (.int n)::e U) d λv s=>v=.int (c i)/\s=d)/\
 ∀i m d,f[i]?=some m->(∀j,j<f.length->c j<=c i)->ZY h g d->Y2 h q b d->Q (.int m) d
def MW(val:Nat->Int):∀n,argBest (btV val) n<=n/\∀j,j<=n->val j<=val (argBest (btV val) n):=λn=>argBest_gt val n
def UW(s:ZY Pt H H')(h:Z4 H a=some xs)(d:∃b,H Pt=some (.tbl b)):Z4 H' a=some xs:=by
 have c:a≠Pt:=λz=>by
  obtain⟨b,e⟩:=d;unfold Z4 at h;rw[z,e]at h;cases h
 unfold Z4 at h ⊢;cases e:H a with
 |none=>rw[e]at h;cases h
 |some o=>rw[s a o c e];rwa[e]at h
def CY(h:Z4 H a=some xs):H a=some (.lst xs)\/∃o,H a=some (.frz o (.lst xs)):=by
 unfold Z4 at h;cases e:H a with
 |none=>rw[e]at h;cases h
 |some o=>
  rw[e]at h;cases o with
  |lst b=>cases h;exact .inl rfl
  |frz o u=>
   cases u with
   |lst b=>cases h;exact .inr ⟨o,rfl⟩
   |_=>cases h
  |_=>cases h
def A8{K:St->St}{g:Expr}{p B kp:Pos}{tb:TE}(hc:X.calm=true)(c4:X.A.depth+3<recursionLimit)(hg:Gl X "max")(hm:X.mg "max"=none)(ha:PA X [l] ta)(Y:X.env.code=.ref c)(LB:Yc X.mg X.base c Pt)(ck:X8 X N scope cl K x)(hb:∀A f c' a4 b5,PE (Ug X A N (X.env.qual ++ "<lambda>") scope cl f c' a4 b5) g tb)(b3:defaultsOf params X.env=([],[]))(c1:scope.isCoroutine=false)(b2:scope.isGenerator=false)(hk:scope.kind=.function)(Z:∀z∈scope.names,z.2≠.cell)(a2:∀q pm ctv v c',bindArgs (kla_fn "<lambda>" q params g scope cl pm (.ref c') ctv) ⟨[v],[]⟩=pure [(x,v)])(hs:starEach [l] X.env=[(false,eval l X.env)]:=by rfl)(W:keywordEach [⟨some "key",.Lambda params g scope B,kp⟩] X.env=[(some ("key" : Str),eval (.Lambda params g scope B) X.env)]:=by rfl):PE X (.Call (.Name "max" p) [l] [⟨some "key",.Lambda params g scope B,kp⟩] pos) (OD Pt (X.env.qual ++ "<lambda>") B tb K ta):=by
 intro y2 s U H Q I h;have R:backTo pos (starEach [l] X.env)=[(false,eval l X.env)]:=by rw[hs];rfl
 refine Dr (iJ I hg hm boot_max (Jy (by rw[R];rfl) (by rw[W];rfl) ?_))
 rw[R];refine evalArgs_kwB (by rw[W];rfl) ?_
 rw[<-R];refine ZX (ha pos y2 s U H _ I h) λus s1 μ=>?_;obtain⟨vs,H1,I1,r1,q1⟩:=μ;obtain⟨p,L,val,rfl,hp,hn,T,c3,qe⟩:=q1;refine ZX (tW (CI ck Y LB b3) UO pos y2 s1 U H1 (λM E=>∃f c' pm ctv,M=[.ref f]/\ZY Pt H1 E/\Y2 Pt (X.env.qual ++ "<lambda>") B E/\E c'=some (tG c' (X.env.qual ++ "<lambda>"))/\E f=some (V9 f (kla_obj "<lambda>" (X.env.qual ++ "<lambda>") params g scope cl pm c' ctv))) I1 ⟨T,λf c' pm ctv H' a b c d=>⟨f,c',pm,ctv,rfl,a,b,c,d⟩⟩) λws O μ=>?_;obtain⟨M,E,I2,r2,q2⟩:=μ;obtain⟨f,c',pm,ctv,rfl,sP,T2,a1,hf⟩:=q2;obtain⟨u,rfl,ru⟩:=eC r1;cases ru;obtain⟨u,rfl,ru⟩:=eC r2;cases ru;have e:(backToKw pos (keywordEach [⟨some "key",.Lambda params g scope B,kp⟩] X.env)).filterMap (·.1)=(["key"]:List Str):=by rw[W];rfl
 rw[e];show wpAny (model X.prog X.w) X.A (call (.builtin "max") [.ref p] [(Str.ofString "key",.ref f)]) _ _ _
 generalize X.env.qual ++ "<lambda>"=q at *;have S:=UW sP hp T.tb
 -- the list is known from here on
 obtain⟨ol,b1⟩:∃o,O.heap.get? p=some o:=by
  obtain⟨F,rv,pl,hz⟩:=I2.list (bC S);obtain⟨o,e,_⟩:=pl.isList;exact⟨o,e⟩
 obtain⟨C,D,a9,a3,a8,c2,b9⟩:∃C,Inv X y2 U C O/\C p=some (.frz ol (.lst (L.map V.int)))/\(∀P,Inv X y2 U C P->Inv X y2 U E P)/\(∀a M,Z4 H1 a=some M->Z4 C a=some M)/\C c'=some (tG c' q)/\C f=some (V9 f (kla_obj "<lambda>" q params g scope cl pm c' ctv)):=by
  rcases CY S with z|⟨o,z⟩
  .have ne:∀b u,E b=some u->(∀y,u≠.lst y)->b≠p:=λb u e n y=>by rw[y,z]at e;cases e;exact n _ rfl
   refine⟨upd E p (.frz ol (.lst (L.map V.int))),I2.WD z b1,aD,λP J=>?_,λa M h=>?_,?_,?_⟩
   .have:=J.Zr (Hs:=E) λb o u e=>I2.base.frzs b o u e
    rw[KZ z]at this;exact this
   .have h2:=UW sP h T.tb
    by_cases ea:a=p
    .subst ea;rw[S]at h2;cases h2;show Tf (upd E a (.frz ol (.lst (L.map V.int))) a)=_
     rw[aD];rfl
    .unfold Z4 at h2 ⊢;rw[aH ea];exact h2
   .rw[aH (ne _ _ a1 λ_=>nofun)];exact a1
   .rw[aH (ne _ _ hf λ_=>nofun)];exact hf
  .obtain⟨eo,_⟩:=I2.Z3 p _ z;rw[b1]at eo;cases eo;exact⟨E,I2,z,λ_ J=>J,λa M h=>UW sP h T.tb,a1,hf⟩
 obtain⟨F,rv,pl,hz⟩:=D.list (bC (a8 p _ hp));have hl:=pl.isList
 have b8:F.length=L.length:=by have:=rv.length;rw[Ab]at this;((try clear c4 hn hz);omega)
 have b4:∀i v,F[i]?=some v->∃n t,L[i]?=some n/\v=Value.int n t:=λi v a7=>by
  have hi:i<L.length:=by rw[<-b8];exact(Ad.mp a7).1
  obtain⟨u,hu,ru⟩:=rv.get (show (L.map V.int)[i]?=some (.int L[i]) by rw[Ag,Aa hi];rfl)
  rw[a7]at hu;cases hu;obtain⟨t,rfl⟩:=ru;exact⟨_,t,Aa hi,rfl⟩
 have fJ:=D.YG (Ah O.heap.objs.size)
 have fB:=D.YG (Ig O.heap.objs.size)
 have nJ:=D.Z3.fresh (Ah _)
 have nB:=D.Z3.fresh (Ig _)
 have a5:=D.sz
 have a6:∀b,O.heap.objs.size<=b->b∉YW X.stack:=λb hb z=>by
  rcases Bb.mp (D.Yi b z) with y|y
  .exact absurd (Bc D.lt hb) (by rw[y];exact Dc _)
  .exact absurd (Bc (D.SV y) hb) (Dc _)
 refine IG (val:=val) (G:=λP=>Inv X y2 U C P) hl (by ((try clear a5 c4 hz);omega)) (D.ok.hd hc) (λh' tk k=>D.kept k) (λs3 h' tk J k=>?_) (λi v s3 Q3 E3 hv J k=>?_) λz P b7 J=>?_
 .exact J.WI k fJ fB nJ nB a5 (Nat.le_succ_of_le a5)
 .obtain⟨n,t,en,rfl⟩:=b4 i v hv;refine Ge (Fb (A4 (A:=X.A.in1) (q:=q) (f:=f) (c':=c') (pm:=pm) (ctv:=ctv) (v:=.int n t) (y:=.int n) (Q:=λv H3=>v=.int (val i)/\H3=C) J ck D.ok.frames (D.ok.hd hc) (by show X.A.depth<_;((try clear a5 b8 hn hz);omega)) (J.Z3 f _ b9).1 (J.Z3 c' _ c2).1 c1 b2 hk Z (a2 q pm ctv _ c') ⟨t,rfl⟩ (hb _ _ _ _ _) (c3 C a8 i n en)) λr s4 hr=>?_)
  match r,hr with
  |.ok (.ret u),hr=>
   have un:Un (YW X.stack) [] C C s3.heap s4.heap:=by obtain⟨v',H',_,_,un,_,_,⟨_,rfl⟩⟩:=hr;exact un
   obtain⟨v',H',J',b6,⟨rfl,rfl⟩⟩:=J.after hr;obtain⟨t',rfl⟩:=b6;refine k t' s4 J' λb o hb e=>?_;rcases hb with z|z|z
   .subst z;exact un.keep _ o e nJ (a6 _ (Nat.le_refl _)) (by simp)
   .subst z;exact un.keep _ o e nB (a6 _ (Nat.le_succ _)) (by simp)
   .subst z;have e1:=(J.Z3 _ _ a9).1
    rw[e]at e1;cases e1;exact(J'.Z3 _ _ a9).1
 .obtain⟨h1,h2⟩:=MW val (F.length-1);obtain⟨m,t,em,rfl⟩:=b4 _ _ b7;exact⟨.int m,E,a3 P J,⟨t,rfl⟩,qe _ m E em (λj hj=>h2 j (by ((try clear a5 c4 h1 hz);omega))) sP T2⟩
def BD{q:Str}{b:Pos}{l:TE}{c:St->St}{U:St}(h:ta U H λo g=>∃(p:Addr) (f:List Int) (d:Nat->Int),o=[.ref p]/\Z4 g p=some (f.map V.int)/\0<f.length/\Y2 Pt q b g/\
 (∀e,(∀a k,Z4 g a=some k->Z4 e a=some k)->∀i n,f[i]?=some n->l (some (.int n)::c U) e λv r=>v=.int (d i)/\r=e)/\
 ∀i m e,f[i]?=some m->(∀j,j<f.length->d j<=d i)->ZY Pt g e->Y2 Pt q b e->Q (.int m) e):OD Pt q b l c ta U H Q:=h
def EU(r:Z2 k A):A.depth+3<recursionLimit:=by have:=r.dp;omega
end
def qP(CX:Yb)(P:Program)(w:World)(K:W.Frag)(c:Str->Option Value)(a:Heap)(k:Nat)(C:Addr)(m:Str)(ps:List Str)(sp:Sp):Prop:=
 ∃f b,Z8 P w K c a CX k f b ps sp/\Meth K C m f/\Binds K b ps []
def Uh(CX:Yb)(P:Program)(w:World)(K:W.Frag)(c:Str->Option Value)(a:Heap)(k:Nat)(C:Addr)(ps:List Str)(sp:Sp):Prop:=
 ∃f b,Z8 P w K c a CX k f b ps sp/\Mk K C f/\Binds K b ps []
section
variable {CX:Yb} {k:Nat} {ps:List Str} {Es:St->XK} {E:XK} {m:Str} {p:Pos} {o:Expr} {ta:TE} {t:TA} {U:St}
def R0(C:Addr)(m:Str)(sp:Sp)(h:St->XK)(e:TE)(t:TA):TE:=λU H Q=>e U H λx c=>∃a f b,x=.ref a/\c a=some (.ins C f b)/\b.lookup m=none/\
 t U c λd g=>sp (x::d) g Q (h U)
def NB{us:List Value}{vs:List V}(F:Z8 X.prog X.w X.K X.mg X.base CX k f fd ps sp)(i:Z2 k X.A)(l:Binds X.K fd ps [])(h:yZ CX X Es)(c:Inv X y2 U H s1)(r:Vals vs us)(q:sp vs H Q (Es U)):wpAny (model X.prog X.w) X.A (call (.ref f) us) (EP X y2 U Q) X.xe s1:=by
 have j:us.length=ps.length:=by rw[<-r.length];exact F.len _ _ _ _ q
 have b:=l s1 us c.ZA (by simp_all)
 rw[Br]at b;refine Ge (Fb (F.run X.A X.stack s1 H ⟨us,[]⟩ us vs Q (Es U) i c.Xc b r q) λg d a=>?_);cases g with
 |error e=>exact h y2 U H s1 e d c a
 |ok m=>
  cases m with
  |ret u=>exact c.after a
  |next=>exact False.elim a
  |brk=>exact False.elim a
  |cont=>exact False.elim a
def J6{pl:Sem Bool}(he:PE X o ta)(c:Ye X.K C)(hm:Meth X.K C m f)(F:Z8 X.prog X.w X.K X.mg X.base CX k f fd ps sp)(hr:Z2 k X.A)(hb:Binds X.K fd ps [])(hx:yZ CX X Es)(ha:PA X (e::es) t)(hst:starEach (e::es) X.env=(false,eval e X.env)::starEach es X.env:=by rfl)(hpl:(backTo pos (starEach es X.env)).any (·.1)=false:=by rfl)(ht:eval (.Call (.Attribute o m apos) (e::es) [] pos) X.env=(do
 let ov <-eval o X.env
 standAt apos.atName
 let (f,first) <-holding [ov] (getMethod ov m pl)
 callWith pos f first (backTo pos (starEach (e::es) X.env)) (backToKw pos (keywordEach [] X.env))):=by rfl):PE X (.Call (.Attribute o m apos) (e::es) [] pos) (R0 C m sp Es ta t):=by
 intro y2 s U H Q I h;refine Fi (pl:=pl) (ZX (he y2 s U H _ I h) λu s1 μ=>?_) ht;obtain⟨x,H1,I1,rx,a,dx,fs,ex,ea,l,q⟩:=μ;subst ex;obtain rfl:u=Value.ref a:=rx;refine kP I1 ea c hm l ?_;refine Ff (first:=[.ref a]) (h₀:=X.base) I.ok.mod.Wy hm.kp (ZX (ha pos y2 s1 U H1 _ I1 q) λus s2 ⟨vs,H2,I2,r,q2⟩=>⟨I2.ZA,?_⟩) hst hpl
 exact NB (us:=.ref a::us) (vs:=.ref a::vs) F hr hb hx I2 (.cons rfl r) q2
def iS(c:qP ZS X.prog X.w X.K X.mg X.base k C m ps sp)(j:Ye X.K C)(d:Z2 k' X.A)(g:k<=k')(h:PE X o ta)(b:eval (.Call (.Attribute o m apos) [] [] pos) X.env=(do
 let a <-eval o X.env
 standAt apos.atName
 let (f,first) <-holding [a] (getMethod a m pl)
 callWith pos f first (backTo pos (starEach [] X.env)) (backToKw pos (keywordEach [] X.env))):=by rfl):PE X (.Call (.Attribute o m apos) [] [] pos) (UZ C m sp [] E0 ta wF):=by
 obtain⟨f,l,F,e,i⟩:=c;exact Kk  h j e F (d.mono g) i .nil Tt b
def IJ(c:qP (Y_ X.prog X.w) X.prog X.w X.K X.mg X.base k C m ps sp)(r:Ye X.K C)(g:iC (Y_ X.prog X.w) X E)(i:Z2 k' X.A)(l:k<=k')(n:PE X o ta)(q:PA X (e::es) t)(a:starEach (e::es) X.env=(false,eval e X.env)::starEach es X.env:=by rfl)(b:(backTo pos (starEach es X.env)).any (·.1)=false:=by rfl)(h:eval (.Call (.Attribute o m apos) (e::es) [] pos) X.env=(do
 let d <-eval o X.env
 standAt apos.atName
 let (f,first) <-holding [d] (getMethod d m pl)
 callWith pos f first (backTo pos (starEach (e::es) X.env)) (backToKw pos (keywordEach [] X.env))):=by rfl):PE X (.Call (.Attribute o m apos) (e::es) [] pos) (UZ C m sp [] E ta t):=by
 obtain⟨f,s,F,j,p⟩:=c;exact G3 (pl:=pl) n r j F (i.mono l) p .nil g q a b h
def K6(c:qP (Y_ X.prog X.w) X.prog X.w X.K X.mg X.base k C m ps sp)(r:Ye X.K C)(g:yZ (Y_ X.prog X.w) X Es)(i:Z2 k' X.A)(l:k<=k')(n:PE X o ta)(q:PA X (e::es) t)(a:starEach (e::es) X.env=(false,eval e X.env)::starEach es X.env:=by rfl)(b:(backTo pos (starEach es X.env)).any (·.1)=false:=by rfl)(h:eval (.Call (.Attribute o m apos) (e::es) [] pos) X.env=(do
 let d <-eval o X.env
 standAt apos.atName
 let (f,first) <-holding [d] (getMethod d m pl)
 callWith pos f first (backTo pos (starEach (e::es) X.env)) (backToKw pos (keywordEach [] X.env))):=by rfl):PE X (.Call (.Attribute o m apos) (e::es) [] pos) (R0 C m sp Es ta t):=by
 obtain⟨f,s,F,j,p⟩:=c;exact J6  n r j F (i.mono l) p g q a b h
def OI(c:Uh ZS X.prog X.w X.K X.mg X.base k C ps sp)(d:Z2 k' X.A)(h:k+1<=k')(i:Gl X x)(g:X.mg x=some (.ref C))(m:PA X (e::es) t)(b:(x==("__debug__" : Str))=false:=by decide)(j:starEach (e::es) X.env=(false,eval e X.env)::starEach es X.env:=by rfl)(a:(backTo pos (starEach es X.env)).any (·.1)=false:=by rfl):PE X (.Call (.Name x p) (e::es) [] pos) (RP C sp [] E0 t):=by
 obtain⟨f,n,F,M,l⟩:=c;exact MU M F (d.mono h) i g l .nil Tt m b j a
def Mv{b:List V}(h:ta U H λx d=>∃a f c,x=.ref a/\d a=some (.ins C f c)/\c.lookup m=none/\t U d λe g=>sp (x::(e++b)) g Q E):UZ C m sp b E ta t U H Q:=h
def HG(h:ta U H λx c=>∃a e b,x=.ref a/\c a=some (.ins C e b)/\b.lookup m=none/\t U c λd f=>sp (x::d) f Q (Es U)):R0 C m sp Es ta t U H Q:=h
def Iy{a:List V}(h:t U H λd c=>∀x b,c x=none->c b=none->b≠x->sp (.ref x::(d++a)) (upd (upd c b (.own x)) x (.ins C b [])) (λv e=>v=.non/\Q (.ref x) e) E):RP C sp a E t U H Q:=h
def Jx{f:Str}(h:ta U H λx c=>∃a C d b v,x=.ref a/\c a=some (.ins C d b)/\Ye K C/\Zg K C f/\b.lookup f=some v/\Q v c):Oa K ta f U H Q:=h
def M8{f:Str}(h:tv U H λy e=>ta U e λx d=>∃a C c b,x=.ref a/\d a=some (.ins C c b)/\Ye K C/\Zg K C f/\b.length<1000/\D.nx U (upd d a (.ins C c (gM f y b)))):Pk K ta tv f D U H:=h
end
def T9(w:World):List DictEntry->List (Str×Int)->Prop
 |[],[]=>True
 |e::es,kn::r=>e.hash=PyData.keyHash w.params kn.1/\(∃t,e.key=.str kn.1 t)/\(∃t,e.val=.int kn.2 t)/\T9 w es r
 |_,_=>False
def Pu(w:World)(K:W.Frag)(c:Str->Option Value)(x:Str)(a:List (Str×Int)):Prop:=
 ∃d b e,c x=some (.ref d)/\K.lookup d=some ⟨.type "dict",none,.dict b e,#[]⟩/\(d==sysModules)=false/\T9 w b.toList a/\(a.map (·.1)).Nodup
def vW{P:Program}:∀ {d:List DictEntry} {a:List (Str×Int)},T9 w d a->∃b,Pairs (bG P w) d b/\b.map (·.1)=a.map (λo=>(Sum.inr o.1:Key))/\(∀e∈d,∃k,(bG P w).is k e.key=true/\e.hash=(bG P w).hash k)/\
 ∀z,(match valueAt b (Sum.inr z:Key) with|some u=>∃n t,a.lookup z=some n/\u=.int n t|none=>a.lookup z=none)
 |[],[],_=>⟨[],.nil,rfl,(λe f=>nomatch f),λz=>rfl⟩
 |e::d,(k,n)::r,h=>by
  obtain⟨y,⟨t,j⟩,⟨i,x⟩,v⟩:=h;obtain⟨b,p,m,s,l⟩:=vW (P:=P) v;refine⟨((Sum.inr k:Key),.int n i)::b,.cons (by rw[j];exact nN k t) x p,by rw[Au,m];rfl,λA f=>?_,λz=>?_⟩
  .rcases Bb.mp f with rfl|q
   .exact⟨Sum.inr k,by rw[j];exact nN k t,y⟩
   .exact s A q
  .have c:=l z
   unfold valueAt at c ⊢;rw[List.find?_cons];by_cases g:k=z
   .subst g;rw[An rfl];exact⟨n,i,by rw[Dh,Fd],rfl⟩
   .rw[Aw λq=>g (Sum.inr.inj q)];rw[Dh,show (z==k)=false from Dk.mpr λq=>g q.symm];exact c
 |[],_::_,h=>h.elim
 |_::_,[],h=>h.elim
def NR(a:List (Str×Int))(c:TA):TE:=λU H Q=>c U H λb d=>∃z,b=[.str z]/\Q (match a.lookup z with|some n=>.int n|none=>.non) d
def Nf{a:List (Str×Int)}{p:Pos}(hg:Gl X x)(hk:Pu X.w X.K X.mg x a)(ha:PA X [e] ta)(A:(x==("__debug__" : Str))=false:=by decide)(i:attributeBase (.Name x p) "get" X.env (eval (.Name x p) X.env)=eval (.Name x p) X.env:=by rfl)(j:((backTo cpos (starEach [e] X.env)).all (λx=>!x.1)&&(backToKw cpos (keywordEach [] X.env)).all (λx=>x.1.isSome)
 && decide (([e]:List Expr).length+([]:List Keyword).length+(if ([]:List Keyword).isEmpty then 0 else 1)<30))=true:=by rfl)(g:(apos.endLine==cpos.line)=true:=by rfl)(hs:starEach [e] X.env=(false,eval e X.env)::starEach [] X.env:=by rfl)(f:(backTo cpos (starEach [] X.env)).any (·.1)=false:=by rfl):PE X (.Call (.Attribute (.Name x p) "get" apos) [e] [] cpos) (NR a ta):=by
 intro D s U H Q I h;obtain⟨d,es,ep,hm,hl,hd,ok,nd⟩:=hk;obtain⟨E,pr,m,ke,T⟩:=vW (P:=X.prog) ok;have L:∀r:Shared,X.K.In r.heap->r.heap.DictOf (bG X.prog X.w) d E:=λr k=>⟨_,es,ep,k _ _ hl,by first|exact⟨rfl,rfl,rfl⟩|exact⟨rfl,rfl⟩|(constructor<;>rfl),rfl,λe he=>ke e (by simpa using he),pr,by rw[m,show a.map (λkn=>(Sum.inr kn.1:Key))=(a.map (·.1)).map (λz=>(Sum.inr z:Key)) by rw[List.map_map];rfl];exact List.pairwise_map.mpr (nd.imp λn q=>n (Sum.inr.inj q))⟩
 have ho:PE X (.Name x p) (tC (.ref d)):=Te hg hm rfl A
 refine Hn i j g rfl (ZX (ho D s U H (λy C=>y=.ref d/\C=H) I ⟨rfl,rfl⟩) λv G μ=>?_);obtain⟨x',C,O,Z,q⟩:=μ;obtain⟨rfl,rfl⟩:=q;cases Z;have N:=L G O.ZA
 refine⟨"dict",_,PySem.F.plainAttrs_dict,Ci,rfl,N.typeIs,λb q=>?_,?_⟩
 .cases q;obtain⟨ob,_,_,h1,h2,_⟩:=N;exact⟨ob,h1,h2.2.1⟩
 have J:=ha cpos D G U C _ O h
 rw[hs]at J ⊢;refine Ho (by show (false || (backTo cpos (starEach [] X.env)).any (·.1))=false;rw[f]<;>rfl) (Gv ?_)
 refine ZX J λus W μ=>?_;obtain⟨S,R,B,Y,z,ez,l⟩:=μ;subst ez;obtain⟨u,rfl,t,rfl⟩:=eC Y;have M:=L W B.ZA
 refine Gz Ci M.typeIs Fc (Hk _ _) (meets_dict_get (bG X.prog X.w) d (show (bG X.prog X.w).is (Sum.inr z:Key) (Value.str z t)=true from nN z t) hd) ⟨_,M.mapOf,?_⟩;have c:=T z
 cases e:valueAt E (Sum.inr z:Key) with
 |none=>
  rw[e]at c;have o:=c
  rw[o]at l;exact⟨.non,R,B.tok _,rfl,l⟩
 |some u=>
  rw[e]at c;obtain⟨n,V,e2,rfl⟩:=c;rw[e2]at l;exact⟨.int n,R,B.tok _,⟨V,rfl⟩,l⟩
def CA{a:List _}{U:St}(h:ta U H λb c=>∃z,b=[.str z]/\Q (match a.lookup z with|some n=>.int n|none=>.non) c):NR a ta U H Q:=h
def QI:R2:=λx y H Q=>∃p q a,x=.ref p/\y=.ref q/\H p=some (.tup a)/\H q=some (.tup [])/\Q (.bl a.isEmpty) H
def EM(z:X.A.units<cLine):ZM X (compareOp .Eq) QI:=by
 intro E s U H x y v u Q I l i h;obtain⟨p,q,d,rfl,rfl,C,B,k⟩:=h;cases l;cases i;obtain⟨c,n,w,_⟩:=I.tuple (Ya.of (K:=X.K) C);obtain⟨f,m,o,_⟩:=I.tuple (Ya.of (K:=X.K) B);have g:=n.length
 cases m;refine SeqAt.eq_tupleAt (e:=λ_=>true) (show s.heap.IsTuple p _ from w) (show s.heap.IsTuple q _ from o) z (λj F D=>absurd D (by simp)) ?_
 refine⟨.bl d.isEmpty,H,I,?_,k⟩;show Value.bool _=Value.bool _
 congr 1
 grind
def Kt(b:H p=some (.tup xs))(a:H q=some (.tup []))(h:Q (.bl xs.isEmpty) H):QI (.ref p) (.ref q) H Q:=⟨p,q,xs,rfl,rfl,b,a,h⟩
noncomputable def JV(z:Str):Value->Bool
 |.str y _=>y==z
 |_=>false
def QV:V->List V->Hp->VK->Prop:=λx b H Q=>∃(p:Addr) (a:List Str) (z:Str) (j:Nat),x=.ref p/\b=[.str z]/\Z4 H p=some (a.map V.str)/\a[j]?=some z/\(∀i y,i<j->a[i]?=some y->y≠z)/\Q (.int (j:Int)) H
def EX:Yv X "list.index" QV:=by
 intro W s U H x Y v Z Q I E G h;obtain⟨p,g,z,j,rfl,rfl,M,C,R,q⟩:=h;cases E;obtain⟨u,rfl,w,rfl⟩:=G.one;obtain⟨a,r,K,L⟩:=I.list (bC M);obtain⟨⟨c,T,S,D⟩,B,P,n,O⟩:=K.isList;obtain rfl:c=.type "list" := P;obtain rfl:S=.seq a.toArray n:=O;have k:=r.length
 rw[Ab]at k L;have N:=(Ad.mp C).1
 have hn:=kO
 have d:∀m (f:m<a.length),∃y t,g[m]?=some y/\a[m]=.str y t:=λm f=>by
  have b:m<g.length:=by ((try clear L N hn);omega)
  obtain⟨u,A,t,J⟩:=r.get (show (g.map V.str)[m]?=some (.str g[m]) by rw[Ag,Aa b];rfl)
  rw[Aa f]at A;cases A;exact⟨g[m],t,Aa b,J⟩
 refine Gu Gc ⟨_,B,rfl⟩ PySem.F.entry_list_index (PySem.F.args_list_index_2 _ _) (SeqAt.list_indexAt p a.toArray n T D (.str z w) (JV z) j (by rw[Be];((try clear L hn);omega)) (by omega) ?_ ?_) ⟨B,λy i=>?_,⟨.int j,H,I.tok _,⟨_,rfl⟩,q⟩⟩
 .obtain⟨y,t,i,e⟩:=d j (by ((try clear L hn);omega))
  rw[C]at i;cases i;rw[Gw,e];exact Fd _
 .intro m f o;have b:m<a.length:=by rw[Be]at f;exact f
  obtain⟨y,t,i,e⟩:=d m b;rw[Gw,e];exact Dk.mpr (R m y o i)
 .have l:y∈a:=by simpa using i
  obtain⟨m,f,rfl⟩:=Bv.mp l;obtain⟨y,t,_,e⟩:=d m f;rw[e];exact SeqAt.EqAt.str_str y t z w
def KO{ss:List Str}(e:Z4 H p=some (ss.map V.str))(a:ss[j]?=some z)(b:∀i y,i<j->ss[i]?=some y->y≠z)(h:Q (.int (j:Int)) H):QV (.ref p) [.str z] H Q:=⟨p,ss,z,j,rfl,rfl,e,a,b,h⟩
def aP(i:Nat){a:Pos}(g:X.N.Nodup)(f:PE X e te)(c:X.N[i]?=some x:=by rfl)(b:Loc X.env.scope x:=by first|exact Or.inl rfl|exact Or.inr rfl)(hs:swapsWith e (some (.Name x a)) pos.line X.env=pure false:=by rfl)(d:X.fn x=true\/X.env.scope.names.lookup x=some .local:=by first|exact Or.inl rfl|exact Or.inr rfl):PS X (.Assign [.Name x a] e pos) (Vg te (lG i)):=SD g c b f hs d
def RV(B:X.A.units+64<cLine):ZM X (compareOp .Eq) (Sb false):=by
 intro w s U H x y v u Q I f e h;obtain⟨n,p,q,z,t,C,rfl,rfl,m,l,o,r,k⟩:=h;cases f;cases e;exact(Sz I m l o (λj d c u v i g b a=>P8 I n X.A.in1 d c u v (r j d c i g) b a (by show X.A.units+1+n<cLine;((try clear o);omega))) (by ((try clear C o);omega)) _ _).1 ⟨.bl true,H,I,rfl,k⟩
end L2
namespace Mine
open PySem L2
variable {F cs cw fs js ks os:List Nat}{H H':Hp}{Pt Z0 Zs Zt Zu Zv Zw Zx Zy Zz a b dd dx f hg p r r1 r2 r3 r4 s0 st u x y:Addr}{T cws cws':Q6}{TB TC:List (Option Int)}{bk:List (Str×Str)}{bs dps ds l ps:List Addr}{d g i j k:Nat}{f0:Nat->Option Int}{fd:FuncData}{h:Option (List Nat)}{hs:Q4}{kvs:List (Key×V)}{mg:Q5}{mss:List (Q6)}{n:Nat->Int}{o:HO}{us xs:List V}{v:V}{z:Str}{zs:List Str}{α β:Type}
theorem z0:1<=sizeLine:=by decide
theorem r0:2<=sizeLine:=by decide
theorem za0:3<=sizeLine:=by decide
local macro_rules|`(tactic|fail $s:str)=>do let i x:=Lean.mkIdent (`_root_++String.toName x);match s.getString.splitOn " " with|"z"::r=>do let a<-r.toArray.mapM λx=>`(tacticSeq|refine $(i x) ?_);`(tactic|with_reducible first $[|$a]*)|["y",x,t]=>`(tactic|((with_reducible refine $(i x) ?sc ?_); (case sc => fail $(Lean.Syntax.mkStrLit t))))|["w",x,t]=>`(tactic|((with_reducible refine' $(i x) ?sc ?_); (case sc => fail $(Lean.Syntax.mkStrLit t))))|["v",x]=>`(tactic|((with_reducible refine' $(i x) ?se ?sn ?_); (case se => fail "rd"); (case sn => exact rfl)))|_=>Lean.Macro.throwUnsupported
local macro_rules | `(tactic| fail "rd") => `(tactic| first | assumption | exact cE | exact dU | exact mY | exact aO (by assumption) | exact bM (by assumption) | (apply aM (aG (by assumption) _); fail "rd"))
local macro_rules | `(tactic| fail "dd") => `(tactic| first | exact oR (by assumption) | exact ON (by assumption) | exact oR aD | assumption)
local macro_rules | `(tactic| fail "lo") => `(tactic| first | assumption | decide | omega | (simp only [List.length_map,List.length_append,List.length_cons,List.length_nil,Str.length_append]; omega))
local macro_rules | `(tactic| fail "ln") => `(tactic| first | assumption | decide | exact bK (by fail "lo") | exact bF (by fail "lo"))
local macro_rules | `(tactic| fail "ar") => `(tactic| first | assumption | decide | omega | exact ⟨by omega,by omega⟩ | exact Or.inl ⟨by omega,by omega⟩ | exact Or.inr ⟨by omega,by omega⟩ | (dsimp only; done) | (dsimp only; omega))
local macro_rules | `(tactic| fail "g") => `(tactic| repeat' (fail "s"))
local macro_rules | `(tactic| fail "sc") => `(tactic| exact ⟨rfl,rfl,rfl,by decide +kernel,rfl,by decide +kernel,by decide +kernel⟩)
local macro_rules | `(tactic| fail "o") => `(tactic| first | exact Or.inl rfl | exact Or.inr rfl)
local macro_rules | `(tactic| fail "u") => `(tactic| repeat' ((fail_if_success (with_reducible refine mF ?_)); (fail "s")))
local macro_rules|`(tactic|fail "5")=>`(tactic|first|dsimp only)
local macro_rules|`(tactic|fail "4")=>`(tactic|first|fail "y L2.DN dd"|fail "z L2.Dl L2.G4 L2.GI L2.Mq L2.Lz L2.L4 L2.Nv L2.Kw"|fail "v L2.CD"|fail "z L2.C6 L2.M5 L2.IP L2.MJ L2.DR"|fail "y L2.DZ ln"|fail "z L2.MX L2.ID L2.E2 L2.IV L2.Lq L2.KS L2.M8 L2.Jx L2.Mv L2.HG L2.Iy L2.CA L2.Ls L2.KW L2.Nm L2.IF")
local macro_rules|`(tactic|fail "3")=>`(tactic|first|((with_reducible refine' Lp ?se ?sl ?_); (case se => fail "rd"); (case sl => fail "ln"))|((with_reducible refine' OS ?se ?sf ?sl ?_); (case se => fail "rd"); (case sf => fail "rd"); (case sl => fail "ln"))|fail "z L2.L7 L2.Nu L2.L5 L2.HL L2.EK L2.MH L2.HK"|fail "v L2.EN"|fail "z L2.MP L2.M9 L2.K_ L2.Nq L2.D_ L2.Nh L2.DX L2.F7")
local macro_rules|`(tactic|fail "2")=>`(tactic|first|((with_reducible refine' MR ?se ?se2 ?_); (case se => first | exact rfl | exact Og (by assumption) | exact tyN_dK (by assumption) | exact tyN_tup (by assumption) | exact Og aD | exact tyN_dK aD); (case se2 => first | exact (show VS _ _ = some true from rfl) | exact (show VS _ _ = some false from rfl) | exact rfl))|fail "z L2.JS L2.Jz L2.Nk L2.B_ L2.D6 L2.NF L2.Ln L2.IB L2.HD"|fail "w L2.IL rd")
local macro_rules|`(tactic|fail "1")=>`(tactic|first|fail "y L2.FK ar"|with_reducible refine Ni ?_|fail "y L2.MG ln"|fail "z L2.Kr L2.Jh L2.FE L2.FZ L2.K9 L2.My"|fail "w L2.EA rd"|fail "y L2.J9 ln"|fail "w L2.MS rd"|fail "w L2.D8 rd")
local macro_rules|`(tactic|fail "0")=>`(tactic|first|fail "z L2.mF L2.Ju L2.NA L2.Lw L2.EI L2.FL L2.Lu L2.SG L2.BE"|((with_reducible refine' C4 ?sv ?_); (case sv => exact rfl))|fail "z L2.FH L2.BI L2.LG L2.HN L2.Js L2.K5 L2.MD L2.MC L2.Ka L2.L_ L2.EG L2.Ji"|fail "w L2.MF rd"|fail "z L2.LK L2.C5 L2.BU L2.G2 L2.BL L2.KQ L2.HS L2.ED L2.JM L2.DQ")
local macro_rules|`(tactic|fail "s")=>`(tactic|first|fail "0"|fail "1"|fail "2"|fail "3"|fail "4"|fail "5")
noncomputable def top(i:Nat):Stmt:=PySem.Challenge.pw_flaglocker_k57_log_and_again.main.body.getD i (.Pass ⟨0,0,0,0⟩)
noncomputable abbrev rP:Stmt:=top 81
noncomputable abbrev xF:Stmt:=top 82
noncomputable abbrev vA:Stmt:=top 84
noncomputable abbrev iR:Stmt:=top 83
noncomputable abbrev rF:Stmt:=top 85
noncomputable abbrev lZ:Stmt:=top 80
noncomputable abbrev hV:Stmt:=top 45
noncomputable abbrev kJ:Stmt:=nZ (top 78) 0
noncomputable abbrev rK:Stmt:=top 86
noncomputable abbrev mU:Stmt:=nZ (top 78) 4
noncomputable abbrev xC:Stmt:=top 47
noncomputable abbrev kR:Stmt:=top 50
noncomputable abbrev gR:Stmt:=top 49
noncomputable abbrev kL:Stmt:=top 53
noncomputable abbrev lQ:Stmt:=top 51
noncomputable abbrev gW:Stmt:=top 54
noncomputable abbrev kA:Stmt:=top 55
noncomputable abbrev mL:Stmt:=nZ (top 18) 0
noncomputable abbrev eZ:Stmt:=top 56
noncomputable abbrev rN:Stmt:=top 5
noncomputable abbrev kF:Stmt:=top 9
noncomputable abbrev eP:Stmt:=top 11
noncomputable abbrev pB:Stmt:=top 12
noncomputable abbrev kM:Stmt:=top 13
noncomputable abbrev oM:Stmt:=top 62
noncomputable abbrev iF:Stmt:=top 71
noncomputable abbrev kC:Stmt:=nZ (top 17) 0
noncomputable abbrev Sw:Stmt:=top 46
noncomputable abbrev rZ:Stmt:=top 28
noncomputable abbrev fI:Stmt:=top 29
noncomputable abbrev oS:Stmt:=top 32
noncomputable abbrev jI:Stmt:=top 33
noncomputable abbrev gC:Stmt:=top 34
noncomputable abbrev eU:Stmt:=top 35
noncomputable abbrev dS:Stmt:=top 37
noncomputable abbrev pH:Stmt:=top 38
noncomputable abbrev gQ:Stmt:=top 76
noncomputable abbrev eV:Stmt:=top 69
noncomputable abbrev dO:Stmt:=top 59
noncomputable abbrev rO:Stmt:=top 63
noncomputable abbrev gD:Stmt:=top 61
noncomputable abbrev rW:Stmt:=top 57
noncomputable abbrev rX:Stmt:=top 6
noncomputable abbrev lR:Stmt:=top 40
noncomputable abbrev oW:Stmt:=top 41
noncomputable abbrev rJ:Stmt:=top 42
noncomputable abbrev gP:Stmt:=top 64
noncomputable abbrev mP:Stmt:=top 65
noncomputable abbrev vC:Stmt:=top 66
noncomputable abbrev sC:Stmt:=top 7
noncomputable abbrev kK:Stmt:=top 10
noncomputable abbrev jG:Stmt:=nZ (top 21) 0
noncomputable abbrev jK:Stmt:=top 72
noncomputable abbrev iH:Stmt:=top 73
noncomputable abbrev gK:Stmt:=top 70
noncomputable abbrev jC:Stmt:=top 74
noncomputable abbrev jA:Stmt:=top 75
noncomputable abbrev jH:Stmt:=top 77
noncomputable abbrev oZ:Stmt:=nZ (top 78) 1
noncomputable abbrev iZ:Stmt:=nZ (top 78) 6
noncomputable abbrev fU:Stmt:=nZ (top 78) 2
noncomputable abbrev iE:Stmt:=nZ (top 78) 3
noncomputable abbrev gY:Stmt:=nZ (top 78) 5
noncomputable abbrev rY:Stmt:=top 89
noncomputable abbrev xK:Stmt:=top 88
noncomputable abbrev vE:Stmt:=top 87
noncomputable abbrev rD:Stmt:=top 90
noncomputable abbrev wU:Stmt:=top 91
structure N1 (K:W.Frag) (Zs Zz Zt Zx Z0 Zu Zy Zv Zw:Addr):Prop where
 V0:W.exmOne K (.ref Zs) (.ref Zs)=some true
 WB:W.exmOne K (.ref Zs) (.ref Zz)=some true
 W0:W.exmOne K (.ref Zt) (.ref Zz)=some true
 Xv:W.exmOne K (.ref Zw) (.ref Zz)=some true
 Yg:W.exmOne K (.ref Zy) (.ref Zz)=some true
 Xy:W.excIn K Zx [.type "ValueError",.type "Exception",.type "BaseException",.type "object"] "ValueError.__new__"=true
 x_NoDeed:W.excIn K Zu [.type "ValueError",.type "Exception",.type "BaseException",.type "object"] "ValueError.__new__"=true
 x_NoHalyard:W.excIn K Zy [.type "ValueError",.type "Exception",.type "BaseException",.type "object"] "ValueError.__new__"=true
 x_NoFlag:W.excIn K Zw [.type "ValueError",.type "Exception",.type "BaseException",.type "object"] "ValueError.__new__"=true
 t1_TowerError:W.specialIn K (.ref Zz) "__getattribute__"=some (some (.builtin "type.__getattribute__"))
 t2_TowerError:W.readsIn K Zz (.type "type")=true
 t3_TowerError:W.findCls K (.ref Zz) (.type "type") "__init__"=some (.val (.builtin "ValueError.__init__"))
 xo_Lack:Wq K Zs [.type "ValueError",.type "Exception",.type "BaseException",.type "object"] "ValueError.__new__"=true
 xk_Lack:W.keepIn K (.ref Zs)=true
 xe1_Lack:W.hasDictIn K Zs=true
 xe2_Lack:W.findIn K (.ref Zs) "__getattribute__"=some (some (.builtin "BaseException.__getattribute__"))
 xe3_Lack:W.findIn K (.ref Zs) "__getattr__"=some none
 xe4_Lack:W.findIn K (.ref Zs) "__class__"=some (some (.builtin "object.__class__"))
 xe5_Lack:W.specialIn K (.builtin "object.__class__") "__get__"=some (some (.builtin "getset_descriptor.__get__"))
 xe6_Lack:W.takesIn K (.builtin "object.__class__")=some true
 xe7_Lack:W.mroIn K Zs (.type "object")=some true
 xe8_Lack:W.subIn K (.ref Zs) (.type "BaseException")=some true
 xs_Lack:W.findIn K (.ref Zs) "__setattr__"=some (some (.builtin "object.__setattr__"))
 xr_Lack:Uw K Zs Zz=true
 xv_Lack:W.subIn K (.ref Zs) (.type "ValueError")=some true
 xn_Lack_wants:W.findIn K (.ref Zs) "wants"=some none
 xn_Lack_flags:W.findIn K (.ref Zs) "flags"=some none
 xo_Short:Wq K Zt [.type "ValueError",.type "Exception",.type "BaseException",.type "object"] "ValueError.__new__"=true
 xk_Short:W.keepIn K (.ref Zt)=true
 xe1_Short:W.hasDictIn K Zt=true
 xe2_Short:W.findIn K (.ref Zt) "__getattribute__"=some (some (.builtin "BaseException.__getattribute__"))
 xe3_Short:W.findIn K (.ref Zt) "__getattr__"=some none
 xe4_Short:W.findIn K (.ref Zt) "__class__"=some (some (.builtin "object.__class__"))
 xe5_Short:W.specialIn K (.builtin "object.__class__") "__get__"=some (some (.builtin "getset_descriptor.__get__"))
 xe6_Short:W.takesIn K (.builtin "object.__class__")=some true
 xe7_Short:W.mroIn K Zt (.type "object")=some true
 xe8_Short:W.subIn K (.ref Zt) (.type "BaseException")=some true
 xs_Short:W.findIn K (.ref Zt) "__setattr__"=some (some (.builtin "object.__setattr__"))
 xr_Short:Uw K Zt Zz=true
 xv_Short:W.subIn K (.ref Zt) (.type "ValueError")=some true
 xn_Short_flag:W.findIn K (.ref Zt) "flag"=some none
 xo_NoWord:Wq K Zv [.type "ValueError",.type "Exception",.type "BaseException",.type "object"] "ValueError.__new__"=true
 xk_NoWord:W.keepIn K (.ref Zv)=true
 xe1_NoWord:W.hasDictIn K Zv=true
 xe2_NoWord:W.findIn K (.ref Zv) "__getattribute__"=some (some (.builtin "BaseException.__getattribute__"))
 xe3_NoWord:W.findIn K (.ref Zv) "__getattr__"=some none
 xe4_NoWord:W.findIn K (.ref Zv) "__class__"=some (some (.builtin "object.__class__"))
 xe5_NoWord:W.specialIn K (.builtin "object.__class__") "__get__"=some (some (.builtin "getset_descriptor.__get__"))
 xe6_NoWord:W.takesIn K (.builtin "object.__class__")=some true
 xe7_NoWord:W.mroIn K Zv (.type "object")=some true
 xe8_NoWord:W.subIn K (.ref Zv) (.type "BaseException")=some true
 xs_NoWord:W.findIn K (.ref Zv) "__setattr__"=some (some (.builtin "object.__setattr__"))
 xr_NoWord:Uw K Zv Zz=true
 xv_NoWord:W.subIn K (.ref Zv) (.type "ValueError")=some true
 xn_NoWord_at:W.findIn K (.ref Zv) "at"=some none
 cl1_Tower:W.plainGet K Z0 Str.empty=true
 cl2_Tower:W.hasDictIn K Z0=true
 cl3_Tower:W.plainOver K Z0=true
 cl4_Tower:W.findIn K (.ref Z0) "__setattr__"=some (some (.builtin "object.__setattr__"))
 mk1_Tower:W.makesIn K Z0=true
 mk2_Tower:W.keepIn K (.ref Z0)=true
 na_Tower_book:W.findIn K (.ref Z0) "book"=some none
 na_Tower_many:W.findIn K (.ref Z0) "many"=some none
 na_Tower_stock_at_first:W.findIn K (.ref Z0) "stock_at_first"=some none
 na_Tower_stock:W.findIn K (.ref Z0) "stock"=some none
 na_Tower_hung:W.findIn K (.ref Z0) "hung"=some none
 na_Tower_deeds:W.findIn K (.ref Z0) "deeds"=some none
structure Gs (K:W.Frag) (mg:Str->Option Value) (w:World) (Zs Zz Zt Zx Z0 Zu Zy Zv Zw:Addr):Prop extends N1 K Zs Zz Zt Zx Z0 Zu Zy Zv Zw where
 XO:mg "Lack"=some (.ref Zs)
 c_TowerError:mg "TowerError"=some (.ref Zz)
 c_Short:mg "Short"=some (.ref Zt)
 c_NoHoist:mg "NoHoist"=some (.ref Zx)
 c_Tower:mg "Tower"=some (.ref Z0)
 c_NoDeed:mg "NoDeed"=some (.ref Zu)
 c_NoHalyard:mg "NoHalyard"=some (.ref Zy)
 c_NoWord:mg "NoWord"=some (.ref Zv)
 c_NoFlag:mg "NoFlag"=some (.ref Zw)
 d_THINGS_IN:Pu w K mg "THINGS_IN" [("haul",3),("lower",2),("lose",2),("find",2),("say",2)]
 b_range:mg "range"=none
 b_enumerate:mg "enumerate"=none
 b_sum:mg "sum"=none
 b_len:mg "len"=none
 b_list:mg "list"=none
 b_int:mg "int"=none
 b_all:mg "all"=none
 b_min:mg "min"=none
 b_max:mg "max"=none
 b_zip:mg "zip"=none
 b_isinstance:mg "isinstance"=none
 s_FLAGS:∃t,mg "FLAGS"=some (.str "abcdefghijklmnopqrstuvw1234" t)
 s_SUBSTITUTES:∃t,mg "SUBSTITUTES"=some (.str "1234" t)
 s_LETTERS:∃t,mg "LETTERS"=some (.str "abcdefghijklmnopqrstuvw" t)
 s_LONGEST_TERM:∃t,mg "LONGEST_TERM"=some (.int 10 t)
 s_TERM_LETTERS:∃t,mg "TERM_LETTERS"=some (.str "abcdefghijklmnopqrstuvwxyz" t)
 s_MOST_TERMS:∃t,mg "MOST_TERMS"=some (.int 40 t)
 s_MOST_PLACES:∃t,mg "MOST_PLACES"=some (.int 7 t)
 s_MOST_OF_A_FLAG:∃t,mg "MOST_OF_A_FLAG"=some (.int 99 t)
def Gs.Ys(G:Gs K mg w Zs Zz Zt Zx Z0 Zu Zy Zv Zw):Xl K Zs:=⟨G.xe1_Lack,G.xe2_Lack,G.xe3_Lack,G.xe4_Lack,G.xe5_Lack,G.xe6_Lack,G.xe7_Lack,G.xe8_Lack⟩
def Gs.Ym(G:Gs K mg w Zs Zz Zt Zx Z0 Zu Zy Zv Zw):VX K Zs Zz:=⟨G.Ys,G.xs_Lack,Sl G.xr_Lack,G.xv_Lack⟩
def Gs.XG(G:Gs K mg w Zs Zz Zt Zx Z0 Zu Zy Zv Zw):Vu K Zs:=⟨G.xo_Lack,G.xk_Lack⟩
def Gs.Xb(G:Gs K mg w Zs Zz Zt Zx Z0 Zu Zy Zv Zw):Xl K Zt:=⟨G.xe1_Short,G.xe2_Short,G.xe3_Short,G.xe4_Short,G.xe5_Short,G.xe6_Short,G.xe7_Short,G.xe8_Short⟩
def Gs.X3(G:Gs K mg w Zs Zz Zt Zx Z0 Zu Zy Zv Zw):VX K Zt Zz:=⟨G.Xb,G.xs_Short,Sl G.xr_Short,G.xv_Short⟩
def Gs.W2(G:Gs K mg w Zs Zz Zt Zx Z0 Zu Zy Zv Zw):Vu K Zt:=⟨G.xo_Short,G.xk_Short⟩
def Gs.Xt(G:Gs K mg w Zs Zz Zt Zx Z0 Zu Zy Zv Zw):Xl K Zv:=⟨G.xe1_NoWord,G.xe2_NoWord,G.xe3_NoWord,G.xe4_NoWord,G.xe5_NoWord,G.xe6_NoWord,G.xe7_NoWord,G.xe8_NoWord⟩
def Gs.Yw(G:Gs K mg w Zs Zz Zt Zx Z0 Zu Zy Zv Zw):VX K Zv Zz:=⟨G.Xt,G.xs_NoWord,Sl G.xr_NoWord,G.xv_NoWord⟩
def Gs.Xx(G:Gs K mg w Zs Zz Zt Zx Z0 Zu Zy Zv Zw):Vu K Zv:=⟨G.xo_NoWord,G.xk_NoWord⟩
def Gs.Z7(G:Gs K mg w Zs Zz Zt Zx Z0 Zu Zy Zv Zw):Ye K Z0:=⟨G.cl1_Tower,G.cl2_Tower,G.cl3_Tower,G.cl4_Tower⟩
noncomputable abbrev Z5:Str := "abcdefghijklmnopqrstuvw"
noncomputable abbrev YH:Str := "1234"
noncomputable abbrev ZW:Str := "abcdefghijklmnopqrstuvw1234"
noncomputable abbrev one(c:Nat):Str:=⟨#[c]⟩
def Me:YH.cps.toList=[49,50,51,52]:=by decide
def Nl:ZW.cps.toList=Z5.cps.toList++YH.cps.toList:=by decide
def aX(c:Nat):Prop:=97<=c/\c<=119
def eE(c:Nat):Prop:=49<=c/\c<=52
noncomputable instance (c:Nat):Decidable (aX c):=inferInstanceAs (Decidable (_/\_))
noncomputable instance (c:Nat):Decidable (eE c):=inferInstanceAs (Decidable (_/\_))
def ZP:c∈Z5.cps.toList ↔ aX c:=by
 have b:∀c∈Z5.cps.toList,aX c:=by decide +kernel
 have a:∀k:_root_.Fin 23,97+k.val∈Z5.cps.toList:=by decide +kernel
 refine⟨b c,λh=>?_⟩;have e:=a ⟨c-97,by have:=h.1;have:=h.2;omega⟩
 rwa [show 97+(c-97)=c by have:=h.1;omega]at e
def YE:c∈YH.cps.toList ↔ eE c:=by
 have b:∀c∈YH.cps.toList,eE c:=by decide +kernel
 have a:∀k:_root_.Fin 4,49+k.val∈YH.cps.toList:=by decide +kernel
 refine⟨b c,λh=>?_⟩;have e:=a ⟨c-49,by have:=h.1;have:=h.2;omega⟩
 rwa [show 49+(c-49)=c by have:=h.1;omega]at e
def zX:c∈ZW.cps.toList ↔ aX c\/eE c:=by
 rw[Nl,Bi,ZP,YE]
def lW(h:aX c):¬eE c:=λz=>by unfold aX at h;unfold eE at z;omega
def xS(c:Nat):subIn (one c) YH=decide (eE c):=by
 rw[nL];exact Ef.mpr YE
def eX(z:Str):z.cps.toList.length=z.length:=by simp[Str.length]
def uL(h:z.length=1):∃c,z=one c:=by
 obtain⟨⟨l⟩⟩:=z
 match l,h with
 |[c],_=>exact⟨c,rfl⟩
noncomputable def fV(z:Str):Bool:=if z.length=1 then subIn z ZW else false
def sN(h:z.length≠1):fV z=false:=if_neg h
def oV:fV (one c)=decide (aX c\/eE c):=by
 unfold fV;rw[if_pos (by rfl),nL]
 exact Ef.mpr zX
def F1(h:fV z=true):∃c,z=one c/\(aX c\/eE c):=by
 by_cases a:z.length=1
 .obtain⟨c,rfl⟩:=uL a;rw[oV]at h;exact⟨c,rfl,Az h⟩
 .rw[sN a]at h;cases h
def mQ(c:Nat)(p:Int):Prop:=aX c\/(eE c/\(c:Int)-48<p)
noncomputable instance (c:Nat) (p:Int):Decidable (mQ c p):=inferInstanceAs (Decidable (_\/_))
noncomputable def dI(z:Str)(p:Int):Bool:=if z.length=1 then decide (mQ (z.cps.toList.headD 0) p) else false
def pX{p:Int}:dI (one c) p=decide (mQ c p):=rfl
def yB{p:Int}(h:dI z p=true):∃c,z=one c/\mQ c p:=by
 by_cases a:z.length=1
 .obtain⟨c,rfl⟩:=uL a;exact⟨c,rfl,Az h⟩
 .unfold dI at h;grind
noncomputable def dE(a:List Str):Bool:=if a.length<1\/7<a.length then false else (List.range a.length).all λi=>dI (a.getD i ⟨#[]⟩) ((1+i:Nat):Int)
def fG(h:dE zs=true):1<=zs.length/\zs.length<=7:=by
 unfold dE at h;grind
def Nn(h:dE zs=true)(a:i<zs.length):dI (zs.getD i ⟨#[]⟩) ((1+i:Nat):Int)=true:=by
 unfold dE at h;simp_all
noncomputable def VN(w:List Nat)(c:Nat):Nat:=if eE c then w.getD (c-49) 0 else c
noncomputable def YR(fs:List Nat):List Nat:=fs.foldl (λw c=>w++[VN w c]) []
def HP(fs:List Nat)(c:Nat):YR (fs++[c])=YR fs++[VN (YR fs) c]:=by
 unfold YR;simp_all
def wG(h:fs[i]?=some c):YR (fs.take (i+1))=YR (fs.take i)++[VN (YR (fs.take i)) c]:=by
 rw[Bd,h];exact HP _ _
def TL:∀a,(YR a).length=a.length:=by
 intro a;have h:∀i,i<=a.length->(YR (a.take i)).length=i:=by
  intro i;induction i with
  |zero=>intro _;rfl
  |succ i b=>
   intro c;rw[wG (Aa (by (assumption))),Af,b (by (exact Nat.le_of_lt (by assumption)))]
   rfl
 have q:=h a.length (Ah _)
 rwa [Cg]at q
def pS(h:i<=fs.length):(YR (fs.take i)).length=i:=by
 rw[TL,Bt];omega
noncomputable def aV(cs:List Nat):Str:=⟨cs.toArray⟩
def cT(cs:List Nat):(aV cs).length=cs.length:=by show cs.toArray.size=_;simp
def cQ(cs:List Nat):(aV cs).cps.toList=cs:=rfl
def jY(cs:List Nat)(c:Nat):aV cs++one c=aV (cs++[c]):=FlT.YQ (by rw[FlT.Yj];rfl)
def Ry{a b:List Nat}(h:aV a=aV b):a=b:=Dp (λz=>z.cps.toList) h
noncomputable def mH(z:Str):Nat:=z.cps.toList.headD 0
def DD(cs:List Nat):(cs.map one).map mH=cs:=by
 rw[Ce];exact List.map_id cs
def uT(h:dE zs=true)(a:zs[i]?=some z):∃c,z=one c/\(zs.map mH)[i]?=some c/\(aX c\/(eE c/\c-49<i)):=by
 have f:=(Ad.mp a).1
 have q:=Nn h f
 rw[Ac,a]at q;obtain⟨c,e,d⟩:=yB q;have b:z=one c:=e
 refine⟨c,b,by rw[Ag,a,b];rfl,?_⟩
 rcases d with l|⟨s,l⟩
 .exact .inl l
 .refine .inr ⟨s,?_⟩;unfold eE at s;((try clear f);omega)
noncomputable def oK(a:List Str):Str:=aV (YR (a.map mH))
noncomputable def Td(z:Str):Bool:=z.cps.toList.all λc=>decide (c∈Z5.cps.toList)
noncomputable def pD(z:Str):Bool:=if z.length<1\/7<z.length then false else Td z
def kH(f:α->β):∀l:List α,l.filterMap (λx=>some (f x))=l.map f
 |[]=>rfl
 |x::r=>by simp_all
def jP{f g:α->Option β}:∀ {l:List α},(∀x∈l,f x=g x)->l.filterMap f=l.filterMap g
 |[],_=>rfl
 |x::r,h=>by rw[Ey,Ey,h x Ak,jP λy a=>h y (Al _ a)]
def one_inj{a b:Nat}:one a=one b ↔ a=b:=⟨λh=>by grind,λh=>by rw[h]⟩
def PH(a b:Nat):decide (one a=one b)=decide (a=b):=Ef.mpr one_inj
def GV(h:k<cw.length):YV (aV cw).cps.toList ((k:Nat):Int)=some (cw.getD k 0):=by
 refine aY ?_;rw[cQ,Ac,Aa h];rfl
def Iw(h:k<23):YV Z5.cps.toList ((k:Nat):Int)=some (97+k):=by
 refine aY ?_;have q:∀k:_root_.Fin 23,Z5.cps.toList[k.val]?=some (97+k.val):=by decide +kernel
 exact q ⟨k,h⟩
def GC{k:Int}(h:0<=k):kB xs none (some k)=xs.take k.toNat:=by
 show (xs.drop 0).take ((if k<0 then (k+_).toNat else min k.toNat xs.length)-0)=_
 grind
def Jo(cs:List Nat):∀z∈cs.map one,z.length<=1000:=λz a=>by
 obtain⟨c,_,rfl⟩:=Ba.mp a;show 1<=1000
 decide
def OU{ns:List Int}{i:Int}(c:0<=i)(h:i<ns.length):∃n,n∈ns/\YV (ns.map V.int) i=some (.int n):=by
 obtain⟨v,b,a⟩:=JD (xs:=ns.map V.int) (i:=i) c (by rw[Ab];exact h)
 grind
def CZ{ns:List Int}{x:V}(h:(ns.map V.int)[j]?=some x):∃n,n∈ns/\x=V.int n:=by
 obtain⟨n,a,e⟩:=Ba.mp (Ao h);exact⟨n,a,e.symm⟩
def iK{ns:List Str}{x:V}(h:(ns.map V.str)[j]?=some x):∃n,ns[j]?=some n/\x=V.str n:=by
 rw[Ag]at h;cases e:ns[j]? with
 |none=>rw[e]at h;cases h
 |some n=>rw[e]at h;cases h;exact⟨n,rfl,rfl⟩
def uH(h:eE c):PySem.intText? (one c)=some ((c:Int)-48):=by
 unfold eE at h;have:c=49\/c=50\/c=51\/c=52:=by omega
 rcases this with rfl|rfl|rfl|rfl<;>decide +kernel
def dB(a:List Str):(a.map V.str).all bY=true:=by
 rw[Ca];intro x b;obtain⟨z,_,rfl⟩:=Ba.mp b;rfl
def JT(d:1<=fs.length)(c:fs.length<=7)(h:∀k,k<fs.length->mQ (fs.getD k 0) ((1+k:Nat):Int)):dE (fs.map one)=true:=by
 unfold dE;rw[Ab,if_neg (by omega),Ca]
 intro i b;have a:=Bu.mp b
 rw[Ac,Ag,Aa a];have q:=h i a
 rw[Ac,Aa a]at q;exact An q
noncomputable def VM(cw:List Nat)(k n:Nat):Option Nat:=if cw.getD n 0=cw.getD k 0 then some (49+n) else none
noncomputable def Xn(cw:List Nat)(k:Nat):List Nat:=cw.getD k 0::(List.range (min k 4)).filterMap (VM cw k)
def XQ:c∈Xn cw k ↔ c=cw.getD k 0\/∃n,n<k/\n<4/\cw.getD n 0=cw.getD k 0/\c=49+n:=by
 unfold Xn;rw[Bb,Cr];constructor
 .rintro(h|⟨n,hn,h⟩)
  .exact .inl h
  .have:=Bu.mp hn
   unfold VM at h;grind
 .rintro(h|⟨n,h1,h2,h3,rfl⟩)
  .exact .inl h
  .exact .inr ⟨n,Bu.mpr (by ((try clear h3);omega)),if_pos h3⟩
def LX(cw:List Nat)(k:Nat):1<=(Xn cw k).length/\(Xn cw k).length<=5:=by
 unfold Xn;grind
def F6(a:aX (cw.getD k 0))(h:c∈Xn cw k):mQ c ((1+k:Nat):Int):=by
 rcases XQ.mp h with rfl|⟨n,d,b,_,rfl⟩
 .exact .inl a
 .exact .inr ⟨⟨by ((try clear d);omega),by ((try clear d);omega)⟩,by ((try clear b);omega)⟩
def lO(b:∀d∈cw,aX d)(a:k<cw.length):aX (cw.getD k 0):=by simp_all
def DF(b:∀d∈cw,aX d)(e:1<=fs.length)(c:fs.length<=7)(f:fs.length<=cw.length)(h:∀k,k<fs.length->fs.getD k 0∈Xn cw k):dE (fs.map one)=true:=
 JT e c λk a=>F6 (lO b (by ((try clear c e);omega))) (h k a)
def Nz(h:aX c):Builtin.Str.occurrences Z5 (one c) 0 Z5.length 1=[c-97]:=by
 have q:∀k:_root_.Fin 23,Builtin.Str.occurrences Z5 (one (97+k.val)) 0 Z5.length 1=[k.val]:=by decide +kernel
 unfold aX at h;have e:=q ⟨c-97,by omega⟩
 grind
noncomputable def jW(cs:List Nat)(n:Nat):Int:=((List.range n).map λi=>((1+i:Nat):Int)*((cs.getD i 0-97:Nat):Int)).sum
def jU(cs:List Nat)(n:Nat):jW cs (n+1)=jW cs n+((1+n:Nat):Int)*((cs.getD n 0-97:Nat):Int):=by
 unfold jW;rw[Cm,Ap,List.sum_append];simp
def oO{cs ds:List Nat}:∀ {n:Nat},(∀i,i<n->cs.getD i 0=ds.getD i 0)->jW cs n=jW ds n
 |0,_=>rfl
 |n+1,h=>by rw[jU,jU,oO λi a=>h i (by omega),h n (by omega)]
def Qo{cs ds:List Nat}{k:Nat}:∀ {n:Nat},k<n->(∀i,i<n->i≠k->cs.getD i 0=ds.getD i 0)->
 jW ds n=jW cs n+((1+k:Nat):Int)*(((ds.getD k 0-97:Nat):Int)-((cs.getD k 0-97:Nat):Int))
 |n+1,h,hh=>by
  rw[jU,jU];by_cases e:k=n
  .subst e;rw[oO   λi a=>(hh i (by ((try clear h);omega)) (by (exact Nat.ne_of_lt (by assumption)))).symm,Int.mul_sub]
   ((try clear h);omega)
  .rw[Qo   (by omega) λi a=>hh i (by ((try clear e h);omega)),hh n (by ((try clear e h);omega)) (λz=>e z.symm)]
   ((try clear e h);omega)
def L6{m x y:Int}(e:k<7)(d:0<=x/\x<23)(c:0<=y/\y<23)(h:m%23=0):(m+((1+k:Nat):Int)*(y-x))%23=0 ↔ y=x:=by
 have q:∀k:_root_.Fin 7,∀x y:_root_.Fin 23,(((1+k.val:Nat):Int)*((y.val:Int)-(x.val:Int)))%23=0 ↔ y.val=x.val:=by decide +kernel
 obtain⟨a,rfl⟩:∃a:Nat,x=(a:Int):=⟨x.toNat,(Hb d.1).symm⟩;obtain⟨b,rfl⟩:∃b:Nat,y=(b:Int):=⟨y.toNat,(Hb c.1).symm⟩;rw[Int.add_emod,h,Int.zero_add,Int.emod_emod];exact(q ⟨k,e⟩ ⟨a,Int.ofNat_lt.mp d.2⟩ ⟨b,Int.ofNat_lt.mp c.2⟩).trans Int.ofNat_inj.symm
noncomputable def gS(cs:List Nat):Bool:=decide (jW cs cs.length%23=0)
noncomputable def Wj(cs:List Nat):Bool:=decide (1<cs.length)&&gS cs
def vH(a:k<cs.length):(cs.set k d).getD i 0=if i=k then d else cs.getD i 0:=by grind
def O2(e:∀d∈cs,aX d){c:Nat}(b:aX c):∀d∈cs.set k c,aX d:=λd a=>by grind
def xG{k d:Nat}(a:k<cs.length):jW (cs.set k d) cs.length=jW cs cs.length+((1+k:Nat):Int)*(((d-97:Nat):Int)-((cs.getD k 0-97:Nat):Int)):=by
 have e:(cs.set k d).getD k 0=d:=by rw[vH a,if_pos rfl]
 rw[Qo (cs:=cs)   a (λi c b=>by rw[vH a,if_neg b]),e]
def FX(g:cs.length<=7)(f:∀d∈cs,aX d){k d:Nat}(a:k<cs.length)(e:aX d)(h:gS cs=true):gS (cs.set k d)=decide (d=cs.getD k 0):=by
 unfold gS at h ⊢;have b:=Az h
 have c:=lO f a
 unfold aX at e c;rw[Cw,xG a];refine Ef.mpr ((L6 (by ((try clear b c e);omega)) ⟨by (exact Int.natCast_nonneg _),by ((try clear a b e g);omega)⟩ ⟨by (exact Int.natCast_nonneg _),by ((try clear a b c g);omega)⟩ b).trans ?_)
 ((try clear a b g);omega)
def wQ(n:cs.length<=7){k:Nat}(h:k<cs.length):∃d,aX d/\gS (cs.set k d)=true:=by
 have q:∀k:_root_.Fin 7,∀m:_root_.Fin 23,∃d:_root_.Fin 23,(m.val+(1+k.val)*d.val)%23=0:=by decide +kernel
 have b:=xG (cs:=cs) (k:=k) (d:=97) h
 have g:=Cy (jW (cs.set k 97) cs.length) (show (23:Int)≠0 by decide)
 have f:=Df (jW (cs.set k 97) cs.length) (show (0:Int)<23 by decide)
 obtain⟨a,c⟩:∃a:Nat,jW (cs.set k 97) cs.length%23=(a:Int):=⟨_,(Hb g).symm⟩;obtain⟨d,j⟩:=q ⟨k,Bc h n⟩ ⟨a,Int.ofNat_lt.mp (c▸f)⟩;refine⟨97+d.val,⟨Gb ..,Nat.add_le_add_left (Nat.le_of_lt_succ d.isLt) 97⟩,?_⟩;unfold gS;rw[Cw];have e:=xG (cs:=cs) (k:=k) (d:=97+d.val) h
 grind
def ES(b:∀d∈cs,aX d):(aV cs).cps.all (· < 128)=true:=by
 rw[Array.all_eq_true];intro i a;have c:(aV cs).cps[i]∈cs:=by
  have:=Array.getElem_mem a
  rwa[<-Array.mem_toList_iff]at this
 have:=b _ c
 unfold aX at this;grind
def FY(b:∀d∈cs,aX d)(c:cs.length<=7):pD (aV cs)=decide (1<=cs.length):=by
 unfold pD;rw[cT];by_cases h:1<=cs.length
 .rw[if_neg (by omega),An h]
  unfold Td;rw[cQ,Ca];intro d a;exact An (ZP.mpr (b d a))
 grind
def Uk(c:Nat):Prop:=97<=c/\c<=122
def fF(t:List Nat):Prop:=1<=t.length/\t.length<=10/\∀c∈t,Uk c
noncomputable abbrev YM:Str := "abcdefghijklmnopqrstuvwxyz"
def ZE(H:Hp)(r:Addr)(c:List (Str×Str)):Prop:=∃a:List Addr,H r=some (.lst (a.map V.ref))/\a.length=c.length/\∀(j:Nat) p b,a[j]?=some p->c[j]?=some b->H p=some (.tup [.str b.1,.str b.2])
def ZE.keep(h:ZE H r bk)(s:Z_ H H'):ZE H' r bk:=by
 obtain⟨a,g,f,e⟩:=h;exact⟨a,s _ _ g,f,λj p b c d=>s _ _ (e j p b c d)⟩
noncomputable def cF(a:List (List Nat)):Str:=Txt.join " " (a.map aV)
structure XW (bk:List (Str×Str)):Prop where
 le:bk.length<=60
 words:(bk.map (·.1)).Nodup
 means:(bk.map (·.2)).Nodup
 word:∀b∈bk,∃cw:List Nat,b.1=aV cw/\1<=cw.length/\cw.length<=6/\∀d∈cw,aX d
 R_:∀b∈bk,∃ts:List (List Nat),b.2=cF ts/\1<=ts.length/\ts.length<=5/\∀t∈ts,fF t
def zE:∀a:List _,(∀t∈a,fF t)->((a.map aV).map (·.length)).sum<=10*a.length
 |[],_=>Ah _
 |t::r,h=>by
  rw[Au,Au,Cv,Av,cT];have c:=(h t Ak).2.1
  have:=zE r λx b=>h x (Al _ b)
  omega
def K3{k:Int}(h:0<=k):kB xs (some k) none=xs.drop k.toNat:=by
 show (xs.drop (if k<0 then (k+_).toNat else min k.toNat xs.length)).take (xs.length-(if k<0 then (k+_).toNat else min k.toNat xs.length))=_
 rw[if_neg (by omega)]
 by_cases a:k.toNat<=xs.length
 .rw[Fm a,Bg (by simp_all)]
 .rw[Fe (by ((try clear h);omega)),Hv (by ((try clear a h);omega)),Hv (by ((try clear h);omega)),List.take_nil]
def Qe(sep:Array Nat):∀(b:List Str) (a:Array Nat),(b.foldl (λa p=>a++sep++p.cps) a).toList=a.toList++(b.map λy=>sep.toList++y.cps.toList).flatten
 |[],a=>by simp
 |y::r,a=>by
  rw[List.foldl_cons,Qe sep r];simp
def OM(sep y:Str)(r:List Str):(Txt.join sep (y::r)).cps.toList=y.cps.toList++(r.map λy=>sep.cps.toList++y.cps.toList).flatten:=by
 have e:=Qe sep.cps r y.cps
 rw[<-e];rfl
def JA{a:Q6}(f:a.length<=5)(h:∀t∈a,fF t):(cF a).length<=60:=by
 unfold cF;cases a with
 |nil=>exact Da _
 |cons t r=>
  have d:∀r:List (List Nat),(∀t∈r,fF t)->((r.map aV).map λy=>(Str.ofString " ").cps.toList++y.cps.toList).flatten.length<=11*r.length:=λr h=>by
   induction r with
   |nil=>exact Ah _
   |cons u v c=>
    rw[Au,Au,By,Af,Af,Av];have i:=(h u Ak).2.1
    have g:=c λx b=>h x (Al _ b)
    rw[cQ];have j:(Str.ofString " ").cps.toList.length=1:=rfl
    ((try clear f);omega)
  have e:=OM " " (aV t) (r.map aV)
  have i:=(h t Ak).2.1
  have g:=d r λx b=>h x (Al _ b)
  rw[<-eX,Au,show Txt.join " " (aV t::r.map aV)=Txt.join " " (aV t::r.map aV) from rfl,e,Af,cQ];rw[Av]at f;omega
def Uz(K:W.Frag)(d:Addr):Sp:=λc H Q _=>∃(a:Addr) (b:List Int),c=[.ref a]/\Zm K H a (b.map V.int)/\b.length<=63/\H d=some (.tbl #[])/\∀e,Q (.bl true) e
def pI:Sp:=λa H Q _=>∃z,a=[.str z]/\z.length<=1000/\Q (.bl (fV z)) H
def qS:Sp:=λa H Q _=>∃z p,a=[.str z,.int p]/\z.length<=1000/\Q (.bl (dI z p)) H
def sS:Sp:=λd H Q _=>∃a b,d=[.ref a]/\Z4 H a=some (b.map V.str)/\b.length<=1000/\(∀z∈b,z.length<=1000)/\∀c,Z_ H c->Q (.bl (dE b)) c
def oN(e:Addr):Sp:=λd H Q E=>∃a b,d=[.ref a]/\Z4 H a=some (b.map V.str)/\b.length<=1000/\(∀z∈b,z.length<=1000)/\(dE b=true->∀c,Z_ H c->Q (.str (oK b)) c)/\(dE b=false->∀c,Z_ H c->E (.ref e) none c)
def SN{j:Int}(e:j=(k:Int))(h:k<cw.length):YV (aV cw).cps.toList j=some (cw.getD k 0):=by
 rw[e];exact GV h
def cH{i:Int}(e:H p=some (.tup xs))(b:YV xs i=some v)(h:Q v H):WS (.ref p) (.int i) H Q:=by
 have a:Z4 H p=none:=by unfold Z4;rw[e];rfl
 unfold WS;simp only[a,cX e,b];exact h
section
variable {P:Program} {w:World} {K:W.Frag} {mg:Q5} {base:Heap}
def oF(c:Addr):Sp:=λd H Q _=>∃a v,d=[.ref a,v]/\H a=some (fA a c none)/\∀b,H b=none->Q .non (upd (upd H a (fA a c (some b))) b (YO b [("flag",v)]))
def xZ:Z9 ["self", "flag"] ["self", "flag"] (aJ kC):=by fail "sc"
variable(G:Gs K mg w Zs Zz Zt Zx Z0 Zu Zy Zv Zw)
def yD(F:ZT K "__init__" "Short.__init__" kC f fd):Z8 P w K mg base ZS 1 f fd ["self", "flag"] (oF Zt):=by
 refine F.ok xZ (λd H Q E h=>?_) (λe A a s H d Q E i h=>?_)
 .obtain⟨b,v,rfl,_⟩:=h;rfl
 obtain⟨b,v,rfl,c,q⟩:=h;refine⟨_,(@aE _ _ _ _ _ (bU (xJ rfl G.c_TowerError G.t1_TowerError G.t2_TowerError G.t3_TowerError (aA (mv 0) (aA (mv 1) aB)))) (@aI _ _ _ (uC (mv 0) (mv 1) rfl))),?_⟩;refine⟨b,[v],Zt,Zz,none,rfl,z0,c,(λ_ z=>nomatch z),G.X3,?_⟩
 exact⟨b,Zt,Zz,rfl,G.X3,G.xn_Short_flag,.inl ⟨c,q⟩⟩
def EC{f:Hp}{a:Addr}{i g:HO}(s:Z_ H f)(k:f a=none)(d:upd f a o dx=none):Z_ H (del (upd (upd (upd f a o) a i) dx g) a):=λb u e=>by
 have h:=s b u e
 have c:=bH h k
 have j:b≠dx:=λz=>by rw[<-z,aH c,h]at d;cases d
 rwa[eG c,aH j,aH c,aH c]
def OT{d:Hp}{a:Addr}{c b:HO}(f:upd d a o dx=none):upd (upd (upd d a o) a c) dx b a=some c/\del (upd (upd (upd d a o) a c) dx b) a dx=some b:=by
 have e:dx≠a:=λz=>by rw[z,aD]at f;cases f
 exact⟨by rw[aH e.symm,aD],by rw[eG e,aD]⟩
structure Lk (kvs:List (Key×V)) (f:Nat->Option Int):Prop where
 nd:(kvs.map (·.1)).Nodup
 ks:∀kv∈kvs,∃(c:Nat) (n:Int),kv=(Sum.inr (one c),V.int n)
 val:∀c,cM kvs (Sum.inr (one c))=(f c).map V.int
def Lk.nil:Lk [] (λ_=>none):=⟨List.nodup_nil,(λa h=>nomatch h),λc=>rfl⟩
def Y0{a b:Nat}:((Sum.inr (one a):Key)=Sum.inr (one b)) ↔ a=b:=⟨λh=>one_inj.mp (Sum.inr.inj h),λh=>by rw[h]⟩
def F9:∀ {l:List α} {k:α},l.Nodup->¬k∈l->(l++[k]).Nodup
 |[],k,_,_=>by simp
 |a::r,k,h,hk=>by
  grind
def Ir{k:Key}(h:cM kvs k=none):¬k∈kvs.map (·.1):=λm=>by
 obtain⟨p,b,e⟩:=Ba.mp m;have q:(kvs.any λa=>decide (a.1=k))=true:=List.any_eq_true.mpr ⟨p,b,An e⟩
 rw[fM,h]at q;cases q
def Rg(a:List _)(k:Key)(v:V)(h:cM a k≠none):(eM a k v).map (·.1)=a.map (·.1):=by
 unfold eM;have e:(a.any λb=>decide (b.1=k))=true:=by
  rw[fM];cases q:cM a k with
  |none=>exact absurd q h
  |some _=>rfl
 rw[if_pos e,Ce];refine Dy λb _=>?_;grind
def Lk.put{f:Nat->Option Int}(h:Lk kvs f)(c:Nat)(n:Int):Lk (eM kvs (Sum.inr (one c)) (.int n)) (λd=>if d=c then some n else f d) where
 nd:=by
  cases e:cM kvs (Sum.inr (one c)) with
  |none=>rw[lE _ e,Ap];exact F9 h.nd (Ir e)
  |some v=>rw[Rg _ _ _ (by rw[e];exact λz=>nomatch z)];exact h.nd
 ks:=λj a=>by
  unfold eM at a;split at a
  .obtain⟨b,k,e⟩:=Ba.mp a;obtain⟨g,i,l⟩:=h.ks b k;subst l;dsimp only at e;split at e
   .exact⟨g,n,e.symm⟩
   .exact⟨g,i,e.symm⟩
  .rcases Bi.mp a with q|q
   .exact h.ks j q
   .exact⟨c,n,Aj.mp q⟩
 val:=λd=>by
  rw[BC];by_cases e:d=c
  .rw[if_pos (Y0.mpr e),if_pos e];rfl
  .rw[if_neg (λz=>e (Y0.mp z)),if_neg e];exact h.val d
def G8(b:(kvs.map (·.1)).Nodup){a:Key×V}(h:a∈kvs):cM kvs a.1=some a.2:=by
 induction kvs with
 |nil=>cases h
 |cons p r f=>
  obtain⟨d,c⟩:=Cq.mp b;rcases Bb.mp h with e|e
  .subst e;exact cO rfl
  .rw[cJ λz=>d (by grind)]
   exact f c e
def US[DecidableEq α]:∀ {l m:List α},l.Nodup->(∀x∈l,x∈m)->l.length<=m.length
 |[],m,_,_=>Da _
 |a::r,m,h,s=>by
  obtain⟨e,d⟩:=Cq.mp h;have q:=US  (m:=m.erase a) d λx b=>(List.mem_erase_of_ne λz=>e (by simp_all)).mpr (s x (Al _ b))
  grind
def Lk.W7{f:Nat->Option Int}(h:Lk kvs f){b:Key×V}(a:b∈kvs):∃c n,b=(Sum.inr (one c),V.int n)/\f c=some n:=by
 obtain⟨c,n,e⟩:=h.ks b a;have v:=G8 h.nd a
 rw[e]at v;have d:=h.val c
 rw[d]at v;cases q:f c with
 |none=>rw[q]at v;cases v
 |some m=>rw[q]at v;cases v;exact⟨c,_,e,q⟩
def Lk.keys{a:List _}{f:Nat->Option Int}(h:Lk kvs f)(h':Lk a f):∀x∈kvs.map (·.1),x∈a.map (·.1):=λx g=>by
 obtain⟨d,b,rfl⟩:=Ba.mp g;obtain⟨c,n,rfl,j⟩:=h.W7 b;have v:=h'.val c
 rw[j]at v;have q:(a.any λd=>decide (d.1=Sum.inr (one c)))=true:=by rw[fM,v];rfl
 grind
def Lk.JP{d:List _}{f:Nat->Option Int}(h:Lk kvs f)(h':Lk d f):RS kvs d:=by
 refine⟨?_,λi e=>?_⟩
 .have a:=US h.nd (h.keys h')
  have b:=US h'.nd (h'.keys h)
  grind
 .obtain⟨c,n,rfl,g⟩:=h.W7 e;exact⟨rfl,by rw[h'.val c,g];rfl⟩
noncomputable def aR(f:Nat->Option Int)(c:Nat):Int:=(f c).getD 0
def gX(c:Nat):Prop:=aX c\/eE c
noncomputable instance (c:Nat):Decidable (gX c):=inferInstanceAs (Decidable (_\/_))
noncomputable def bD(n:Nat->Int)(c:Nat):Option Int:=if gX c/\0<n c then some (n c) else none
def qA(h:∀c,gX c->m c=n c):bD m=bD n:=by
 funext c
 unfold bD;by_cases q:gX c
 .rw[h c q]
 simp_all
def nH(a:gX c)(h:0<=n c):aR (bD n) c=n c:=by
 unfold aR bD;grind
def Lk.ext{f g:Nat->Option Int}(h:Lk kvs f)(e:f=g):Lk kvs g:=e▸h
def qG(f:Nat->Option Int)(c:Nat):((f c).map V.int).getD (.int 0)=.int (aR f c):=by
 unfold aR;simp_all
def Zd:c∈ZW.cps.toList ↔ gX c:=zX
noncomputable def Rr(n:Nat->Int)(i c:Nat):Option Int:=if c∈ZW.cps.toList.take i/\0<n c then some (n c) else none
def AX(n:Nat->Int):Rr n 0=λ_=>none:=by
 funext c
 unfold Rr;grind
def L0(cs:List Nat)(c:Nat):(cs.map one).countP (· == one c)=cs.countP (· == c):=by
 rw[List.countP_map];refine List.countP_congr λd _=>?_;simp_all
noncomputable def Zi(g:Nat->Int)(L:List Nat):List (Key×V):=L.map λc=>(Sum.inr (one c),V.int (g c))
noncomputable def bN(n:Nat->Int)(i:Nat):List Nat:=(ZW.cps.toList.take i).filter λc=>decide (0<n c)
def P9{g:Nat->Int}{L:List Nat}{c:Nat}(h:c∉L):cM (Zi g L) (Sum.inr (one c))=none:=by
 induction L with
 |nil=>rfl
 |cons d r a=>
  show cM (_::Zi g r) _=none
  rw[cJ (λz=>h (by rw[Y0.mp z];exact Ak)),a λz=>h (Al _ z)]
def X9:ZW.cps.toList.Nodup:=by decide +kernel
def YD:c∈bN n i ↔ c∈ZW.cps.toList.take i/\0<n c:=by
 unfold bN;rw[Dg,Bo]
def Ex(h:ZW.cps.toList[i]?=some c):c∉bN n i:=λz=>by
 have m:=(YD.mp z).1
 obtain⟨j,a,e⟩:=Bv.mp m;rw[Bt]at a;rw[List.getElem_take]at e;obtain⟨d,b⟩:=Ad.mp h;have:=(Gy X9).mp (e.trans b.symm)
 ((try clear b e);omega)
def DP(h:ZW.cps.toList[i]?=some c)(p:0<n c):bN n (i+1)=bN n i++[c]:=by
 unfold bN;rw[Bd,h,Fh];simp_all
def KP(h:ZW.cps.toList[i]?=some c)(p:¬0<n c):bN n (i+1)=bN n i:=by
 unfold bN;rw[Bd,h,Fh];grind
def kE(n:Nat->Int)(i:Nat):(bN n i).length<=27:=by
 exact Bh (Gj ..) (by rw[Bt];exact Bh (Nat.min_le_right ..) (by decide))
def Ll(n:Nat->Int)(i:Nat):(bN n i).Nodup:=(X9.sublist (Hm ..)).filter _
noncomputable def VO(g:Nat->Int)(L:List Nat)(d:Nat):Option Int:=if d∈L then some (g d) else none
def Ny(g:Nat->Int){r:List Nat}{c:Nat}(f:c∉r)(h:Lk (Zi g r) (VO g r)):Lk (Zi g (r++[c])) (VO g (r++[c])):=by
 have l:=h.put c (g c)
 rw[lE _ (P9 f)]at l;have e:Zi g (r++[c])=Zi g r++[(Sum.inr (one c),V.int (g c))]:=by unfold Zi;rw[Ap];rfl
 rw[e];refine l.ext ?_;funext d
 unfold VO;grind
def PL(g:Nat->Int):∀L r,(r++L).Nodup->Lk (Zi g r) (VO g r)->Lk (Zi g (r++L)) (VO g (r++L))
 |[],r,_,h=>by rwa[Br]
 |c::L,r,nd,h=>by
  have e:r++c::L=(r++[c])++L:=by rw[Fo];rfl
  have a:=λz=>(Ei.mp nd).2.2 c z c Ak rfl
  rw[e]at nd ⊢;exact PL g L _ nd (Ny g a h)
def C9(g:Nat->Int){L:List Nat}(a:L.Nodup):Lk (Zi g L) (λd=>if d∈L then some (g d) else none):=by
 have r:=PL g L [] a (Lk.nil.ext (by funext d;unfold VO;rw[if_neg (λz=>nomatch z)]))
 exact r
def dQ(n:Nat->Int):Lk (Zi n (bN n 27)) (bD n):=by
 refine(C9 n (Ll n 27)).ext ?_;funext d
 unfold bD;have e:d∈bN n 27 ↔ gX d/\0<n d:=by
  rw[YD,Bg (by decide),Zd]
 grind
def dA:Sp:=λd H Q _=>∃a b f,d=[.ref a]/\Rd H a (.dK b)/\Lk b f/\
 ∀r c,H r=none->Z_ H c->c r=some (.dK (Zi (aR f) (bN (aR f) 27)))->Q (.ref r) c
def i5:Z9 ["locker", "plain", "flag"] ["locker"] (aJ hV):=by fail "sc"
def tK(F:ZT K "plain_locker" "plain_locker" hV f fd):Z8 P w K mg base ZS 1 f fd ["locker"] dA:=by
 refine F.ok i5 (λL H Q E h=>?_) (λO A t s H L Q E u h=>?_)
 .obtain⟨a,j,f,rfl,_⟩:=h;rfl
 obtain⟨a,j,f,rfl,N,D,q⟩:=h;refine⟨_,(@aE _ _ _ _ _ (aP 1 i5.nd vS) (@aE _ _ _ _ _ (cV Bs rfl (lV (eO rfl G.s_FLAGS)) (aZ (i:=2) i5.nd rfl (Or.inl rfl)) (@aI _ _ _ (cD (bB V7 (hU Ci Ea (U5 (Z2.u1 u)) (mv 0) (aA (mv 2) (aA aK aB))) aK (bA _)) (@aI _ _ _ (iU (Z2.u1 u) (mv 1) (mv 2) (kD (Z2.u1 u) (mv 0) (mv 2) (λ_ _=>rfl)) rfl)) bE))) (@aI _ _ _ (aU (mv 1))))),?_⟩;fail "g";intro p y;fail "g";refine R6 (λi U J=>∃v,U=[some (.ref a),some (.ref p),v]/\Z_ H J/\J p=some (.dK (Zi (aR f) (bN (aR f) i))))
  ⟨none,rfl,aG y _,aD⟩ ?_ ?_
 .rintro i c U r l ⟨v,rfl,d,m⟩;have R:i<27:=(Ad.mp l).1
  have b:Rd r a (.dK j):=N.elim (λe=>.inl (d _ _ e)) λ⟨o,e⟩=>.inr ⟨o,d _ _ e⟩
  have M:=b.elim oR λ⟨o,e⟩=>ON e
  have x:(Zi (aR f) (bN (aR f) i)).length<sizeLine:=bF (by unfold Zi;rw[Ab];have:=kE (aR f) i;(exact Nat.le_trans (by assumption) (by decide)))
  fail "g";refine Vq (z:=one c) b ?_;rw[D.val c,qG];fail "g";refine dW (λB=>?_) (λB=>?_)
  .have k:=Az B
   obtain⟨n,I⟩:∃n,f c=some n:=by
    cases e:f c with
    |none=>rw[show aR f c=0 by unfold aR;rw[e];rfl]at k;((try clear R x);omega)
    |some n=>exact⟨n,rfl⟩
   have C:aR f c=n:=by unfold aR;rw[I];rfl
   fail "g";refine UD (z:=one c) b (by rw[D.val c,I];rfl) ?_
   fail "g";refine nP (z:=one c) m x ?_;refine⟨_,rfl,bL y d,?_⟩;rw[aD,lE _ (P9 (Ex l)),DP l (by (assumption))]
   unfold Zi;rw[Ap,<-C];rfl
  .have k:=Bp (Bq.mpr B)
   exact⟨_,rfl,d,by rw[m,KP l (by (assumption))]⟩
 .rintro U r ⟨v,rfl,d,m⟩;exact q p r y d m
noncomputable def cnt(cs:List Nat)(c:Nat):Int:=((cs.countP (· == c):Nat):Int)
def pT(h:cs[i]?=some c)(d:Nat):cnt (cs.take (i+1)) d=cnt (cs.take i) d+if d=c then 1 else 0:=by
 unfold cnt;rw[Bd,h,List.countP_append];grind
def QE(h:cs[i]?=some c):cnt (cs.take i) c+1<=cnt cs c:=by
 have e:=pT h c
 rw[if_pos rfl]at e;rw[<-e];unfold cnt;have:(cs.take (i+1)).countP _<=cs.countP (· == c):=List.Sublist.countP_le (Hm _ _)
 (exact Int.ofNat_le.mpr (by assumption))
def wX(f:Nat->Option Int)(cs:List Nat)(k:Nat):Prop:=∀j d,j<k->cs[j]?=some d->cnt (cs.take j) d<aR f d
def zL{f:Nat->Option Int}(c:Nat)(a:0<=aR f c):∀ {k:Nat},wX f cs k->cnt (cs.take k) c<=aR f c
 |0,_=>by rwa[Hw]
 |k+1,h=>by
  have b:=zL c a (k:=k) λj d g=>h j d (by ((try clear a);omega))
  cases e:cs[k]? with
  |none=>rw[List.take_add_one,e];simpa using b
  |some d=>
   rw[pT e];have i:=h k d (by ((try clear a b);omega)) e
   grind
def qF(l:Addr):Sp:=λk H Q E=>∃a b h f d,k=[.ref a,.ref b]/\H a=some (.dK h)/\Lk h f/\(∀c,0<=aR f c)/\Z4 H b=some ((d.map one).map V.str)/\d.length<=1000/\(∀c∈d,gX c)/\
 (wX f d d.length->∀r g e,H r=none->Z_ H e->e r=some (.dK g)->Lk g (bD λc=>aR f c-cnt d c)->Q (.ref r) e)/\
 (∀i c,d[i]?=some c->wX f d i->aR f c<=cnt (d.take i) c->∀j e,Z_ H e->e j=some (YO j [("flag",.str (one c))])->E (.ref l) (some j) e)
def i6:Z9 ["locker", "flags", "left", "flag"] ["locker", "flags"] (aJ Sw):=by fail "sc"
def FN(F:ZT K "taken" "taken" Sw f fd)(y3:ZR P w K mg base 1 "plain_locker" ["locker"] dA)(i7:V_ P w K mg base 1 Zt ["self", "flag"] (oF Zt)):Z8 P w K mg base (Y_ P w) 3 f fd ["locker", "flags"] (qF Zt):=by
 refine F.XJ i6 (λvs H Q E h=>?_) (λcdv A outer s H vs Q E hr h=>?_)
 .obtain⟨a,b,kvs,f,cs,rfl,_⟩:=h;rfl
 obtain⟨a,b,kvs,f,cs,rfl,ha,lk,hf0,hb,hcs,hfl,q,qe⟩:=h;refine⟨_,(@aE _ _ _ _ _ (aP 2 i6.nd (aT y3 hr (by decide) rfl (aA (mv 0) aB))) (@aE _ _ _ _ _ (cV PassesOwn.leaving rfl (bT (mv 1)) (aZ (i:=3) i6.nd rfl (Or.inl rfl)) (@aE _ _ _ _ _ (cD (bB lC (hU Ci Ea (U5 (Z2.u1 hr)) (mv 2) (aA (mv 3) (aA aK aB))) aK (bA _)) (@aI _ _ _ (nK fZ rfl rfl rfl G.c_Short G.W2 i7 hr (by decide) (aA (mv 3) aB))) bE) (@aI _ _ _ (iU (Z2.u1 hr) (mv 2) (mv 3) (aQ qK (kD (Z2.u1 hr) (mv 2) (mv 3) (λ_ _=>rfl)) aK) rfl)))) (@aI _ _ _ (aU (aT y3 hr (by decide) rfl (aA (mv 2) aB)))))),?_⟩
 fail "g";refine⟨a,kvs,f,rfl,.inl ha,lk,λp H1 hp s1 hp1=>?_⟩;have lw:=dQ (aR f)
 have hwl:(Zi (aR f) (bN (aR f) 27)).length<=27:=by unfold Zi;rw[Ab];exact kE _ _
 generalize Zi (aR f) (bN (aR f) 27)=kws at hp1 lw hwl;have hb1:=aM s1 hb
 fail "g";refine fX (xs:=(cs.map one).map V.str) (λi U H'=>∃kvs' g v,U=[some (.ref a),some (.ref b),some (.ref p),v]/\Z_ H H'/\H' p=some (.dK kvs')/\Lk kvs' g/\(∀c,aR g c=aR (bD (aR f)) c-cnt (cs.take i) c)/\kvs'.length<=27+i/\wX f cs i)
  ⟨kws,_,_,rfl,s1,hp1,lw,λc=>by rw[Hw];show _=_-((0:Nat):Int);((try clear hcs hwl);omega),by (assumption),λj d hj=>by ((try clear hcs hwl);omega)⟩ (λi U H' _ ⟨_,_,_,_,e,_⟩=>aM e hb) ?_ ?_
 .rintro i x U H2 hx ⟨kvs',g,v,rfl,s2,hH,lg,hg,hl,hen⟩;have hi:i<cs.length:=by have:=(Ad.mp hx).1;rwa[Ab,Ab]at this
  obtain⟨c,hc⟩:∃c,cs[i]?=some c:=⟨_,Aa hi⟩;obtain rfl:x=V.str (one c):=by rw[Ag,Ag,hc]at hx;cases hx;rfl
  have hpl:kvs'.length<sizeLine:=bF (by ((try clear hwl);omega))
  have hfc:=hfl c (Ao hc)
  have hgc:=hg c
  rw[nH hfc (hf0 c)]at hgc;have hle:=zL c (hf0 c) hen
  fail "g";refine Vq (z:=one c) (.inl hH) ?_;rw[lg.val c,qG];fail "g";refine dW (λhd=>?_) (λhd=>?_)
  .have hd':=Az hd
   fail "g";refine⟨z0,λea hea=>⟨ea,_,rfl,aD,λdx hdx=>⟨rfl,some dx,(OT hdx).1,?_⟩⟩⟩
   exact qe i c hc hen (by omega) dx _ (EC s2 hea hdx) (OT hdx).2
  .have hd':=Bp (Bq.mpr hd)
   obtain⟨n,hn⟩:∃n,g c=some n:=by
    cases e:g c with
    |none=>exact absurd (show aR g c=0 by unfold aR;rw[e];rfl) hd'
    |some n=>exact⟨n,rfl⟩
   have hcn:aR g c=n:=by unfold aR;rw[hn];rfl
   fail "g";refine UD (z:=one c) (.inl hH) (by rw[lg.val c,hn];rfl) ?_
   fail "g";refine nP (z:=one c) hH hpl ?_;refine⟨_,_,_,rfl,bL hp s2,aD,lg.put c (n-1),λd=>?_,by have:=gH kvs' (Sum.inr (one c)) (.int (n-1));((try clear hcn hcs hd' hgc hi hle hpl hwl);omega),λj d hj hjd=>?_⟩
   .rw[pT hc];have:=hg d
    by_cases e:d=c
    .subst e;show ((if d=d then some (n-1) else g d):Option Int).getD 0=_
     rw[if_pos rfl,if_pos rfl];show n-1=_
     ((try clear hcs hd' hi hl hle hpl hwl);omega)
    .show ((if d=c then some (n-1) else g d):Option Int).getD 0=_
     rw[if_neg e,if_neg e];show aR g d=_
     (assumption)
   .by_cases e:j=i
    .subst e;rw[hc]at hjd;cases hjd;((try clear hcs hi hj hl hpl hwl);omega)
    .exact hen j d (by ((try clear hcn hcs hd' hgc hi hl hle hpl hwl);omega)) hjd
 .rintro U H2 ⟨kvs',g,v,rfl,s2,hH,lg,hg,hl,hen⟩;have ecs:((cs.map one).map V.str).length=cs.length:=by rw[Ab,Ab]
  rw[ecs]at hg hl hen;fail "g";refine⟨p,kvs',g,rfl,.inl hH,lg,λr H3 hr s3 hr3=>?_⟩;have l3:=dQ (aR g)
  generalize Zi (aR g) (bN (aR g) 27)=kws' at hr3 l3;refine q hen r kws' H3 (none_of s2 hr) (s2.trans s3) hr3 (l3.ext (qA λc hc=>?_));rw[hg c,nH hc (hf0 c),Bg (Ah _)]
def hJ:Sp:=λi H Q _=>∃a b e f g,i=[.ref a,.ref b]/\H a=some (.dK e)/\Lk e f/\(∀c,0<=aR f c)/\Z4 H b=some ((g.map one).map V.str)/\g.length<=1000/\
 ∀r d h,H r=none->Z_ H h->h r=some (.dK d)->Lk d (bD λc=>aR f c+cnt g c)->Q (.ref r) h
def i8:Z9 ["locker", "flags", "more", "flag"] ["locker", "flags"] (aJ xC):=by fail "sc"
def JZ(F:ZT K "put_in" "put_in" xC f fd)(G:Gs K mg w Zs Zz Zt Zx Z0 Zu Zy Zv Zw)(y3:ZR P w K mg base 1 "plain_locker" ["locker"] dA):Z8 P w K mg base ZS 2 f fd ["locker", "flags"] hJ:=by
 refine F.ok i8 (λvs H Q E h=>?_) (λcdv A outer s H vs Q E hr h=>?_)
 .obtain⟨a,b,kvs,f,cs,rfl,_⟩:=h;rfl
 obtain⟨a,b,kvs,f,cs,rfl,ha,lk,hf0,hb,hcs,q⟩:=h;refine⟨_,(@aE _ _ _ _ _ (aP 2 i8.nd (aT y3 hr (by decide) rfl (aA (mv 0) aB))) (@aE _ _ _ _ _ (cV Bs rfl (bT (mv 1)) (aZ (i:=3) i8.nd rfl (Or.inl rfl)) (@aI _ _ _ (iU (Z2.u1 hr) (mv 2) (mv 3) (aQ bO (hU Ci Ea (U5 (Z2.u1 hr)) (mv 2) (aA (mv 3) (aA aK aB))) aK) rfl))) (@aI _ _ _ (aU (aT y3 hr (by decide) rfl (aA (mv 2) aB)))))),?_⟩
 fail "g";refine⟨a,kvs,f,rfl,.inl ha,lk,λp H1 hp s1 hp1=>?_⟩;have lw:=dQ (aR f)
 have hwl:(Zi (aR f) (bN (aR f) 27)).length<=27:=by unfold Zi;rw[Ab];exact kE _ _
 generalize Zi (aR f) (bN (aR f) 27)=kws at hp1 lw hwl;have hb1:=aM s1 hb
 fail "g";refine fX (xs:=(cs.map one).map V.str) (λi U H'=>∃kvs' g v,U=[some (.ref a),some (.ref b),some (.ref p),v]/\Z_ H H'/\H' p=some (.dK kvs')/\Lk kvs' g/\(∀c,aR g c=aR (bD (aR f)) c+cnt (cs.take i) c)/\kvs'.length<=27+i)
  ⟨kws,_,_,rfl,s1,hp1,lw,λc=>by rw[Hw];show _=_+((0:Nat):Int);((try clear hcs hwl);omega),by (assumption)⟩ (λi U H' _ ⟨_,_,_,_,e,_⟩=>aM e hb) ?_ ?_
 .rintro i x U H2 hx ⟨kvs',g,v,rfl,s2,hH,lg,hg,hl⟩;have hi:i<cs.length:=by have:=(Ad.mp hx).1;rwa[Ab,Ab]at this
  obtain⟨c,hc⟩:∃c,cs[i]?=some c:=⟨_,Aa hi⟩;obtain rfl:x=V.str (one c):=by rw[Ag,Ag,hc]at hx;cases hx;rfl
  have hpl:kvs'.length<sizeLine:=bF (by ((try clear hwl);omega))
  fail "g";refine Vq (z:=one c) (.inl hH) ?_;rw[lg.val c,qG];fail "g";refine nP (z:=one c) hH hpl ?_;refine⟨_,_,_,rfl,bL hp s2,aD,lg.put c (aR g c+1),λd=>?_,by have:=gH kvs' (Sum.inr (one c)) (.int (aR g c+1));((try clear hcs hi hpl hwl);omega)⟩
  rw[pT hc];have:=hg d
  by_cases e:d=c
  .subst e;show ((if d=d then some (aR g d+1) else g d):Option Int).getD 0=_
   rw[if_pos rfl,if_pos rfl];show aR g d+1=_
   ((try clear hcs hi hl hpl hwl);omega)
  .show ((if d=c then some (aR g c+1) else g d):Option Int).getD 0=_
   rw[if_neg e,if_neg e];show aR g d=_
   (assumption)
 .rintro U H2 ⟨kvs',g,v,rfl,s2,hH,lg,hg,hl⟩;refine⟨p,kvs',g,rfl,.inl hH,lg,λr H3 hr s3 hr3=>?_⟩;refine q r _ H3 (none_of s2 hr) (s2.trans s3) hr3 ((dQ (aR g)).ext (qA λc hc=>?_));rw[hg c,nH hc (hf0 c),Bg (by rw[Ab,Ab];exact Ah _)]
def oI:Sp:=λc H Q _=>∃(a:List Nat) (k:Nat) (p:Int),c=[.str (aV a),.int p]/\p=(k:Int)+1/\k<a.length/\a.length<=7/\
 ∀r b,H r=none->Z_ H b->b r=some (.lst (((Xn a k).map one).map V.str))->Q (.ref r) b
def Jm(G:Nat->Option β)(k:Nat):[0,1,2,3].filterMap (λn=>if n<k then G n else none)=(List.range (min k 4)).filterMap G:=by
 match k with
 |0=>rfl
 |1=>rfl
 |2=>rfl
 |3=>rfl
 |k+4=>
  rw[Fe (by omega)]
  exact jP λn a=>if_pos (by grind)
noncomputable def Vp(cw:List Nat)(k:Nat)(c:Nat):Option V:=if c-49<k then (if cw.getD (c-49) 0=cw.getD k 0 then some (.str (one c)) else none) else none
def LV(cw:List Nat)(k:Nat):YH.cps.toList.filterMap (Vp cw k)=(((List.range (min k 4)).filterMap (VM cw k)).map one).map V.str:=by
 rw[Me,show [49,50,51,52]=[0,1,2,3].map (49+·) from rfl,Hj,Ce,List.map_filterMap,<-Jm];refine jP λn _=>?_
 unfold Vp VM;grind
def i9:Z9 ["word", "place", "letter", "above"] ["word", "place"] (aJ gR):=by fail "sc"
def yT(F:ZT K "choices_at" "choices_at" gR f fd):Z8 P w K mg base ZS 1 f fd ["word", "place"] oI:=by
 refine F.ok i9 (λO H Q E h=>?_) (λU A o s H O Q E j h=>?_)
 .obtain⟨a,k,p,rfl,_⟩:=h;rfl
 obtain⟨a,k,W,rfl,R,S,X,q⟩:=h;refine⟨_,(@aE _ _ _ _ _ (aP 2 i9.nd (bI bZ (mv 0) (aQ qK (mv 1) aK) (λ_ _=>rfl))) (@aE _ _ _ _ _ (fL (i:=3) i9.nd rfl (Or.inl rfl) rfl (lV (eO rfl G.s_SUBSTITUTES)) (gF (N:=["sign", "place", "letter", "word"]) ["word", "place", "letter", "above"] (aJ gR) [none,some 1,some 2,some 0] rfl rfl rfl (λx h=>bX h) (by decide +kernel)) (by decide +kernel) rfl (by decide +kernel) (λ_ _ _ _=>(aZ (i:=0) (show List.Nodup (["sign", "place", "letter", "word"]:List Str) by decide +kernel) rfl (Or.inl rfl))) (λ_ _ _ _=>(jN (PW.pt (UQ (bB yI (cA T3 rfl G.b_int Ul (aA (mv 0) aB)) (mv 1) (bA _)) (uD (bB lC (bI bZ (mv 3) (aQ qK (cA T3 rfl G.b_int Ul (aA (mv 0) aB)) aK) (λ_ _=>rfl)) (mv 2) (bA _))))))) (λ_ _ _ _=>(mv 0))) (@aI _ _ _ (aU (aQ bO (bQ (aA (mv 2) aB)) (mv 3)))))),?_⟩
 have e:=cT a
 fail "g";refine wI (by rw[e];exact bK (by (exact Nat.le_trans (by assumption) (by decide)))) (SN (k:=k) (by ((try clear S X e);omega)) S) ?_
 fail "g";refine Se (Vp a k) (bF (by decide)) (λi c Y A B I b=>?_) (λD M=>?_)
 .have t:=YE.mp (Ao I)
  have T:=t.1
  fail "g";refine⟨Wk.set rfl (Wk.refl _),?_⟩;fail "g";refine Ub (uH t) (by show 1<=640;decide) ?_
  fail "g";unfold Vp at b;refine dW (λC=>?_) (λC=>?_)
  .have y:=Az C
   have d:c-49<k:=by ((try clear S X e);omega)
   rw[if_pos d]at b;fail "g";refine Ub (uH t) (by show 1<=640;decide) ?_
   fail "g";refine wI (by rw[e];exact bK (by (exact Nat.le_trans (by assumption) (by decide)))) (SN (k:=c-49) (by ((try clear R S X d e y);omega)) (by ((try clear R T X y);omega))) ?_
   fail "g";rw[show decide (({cps:=#[a.getD (c-49) 0]}:Str)={cps:=#[a.getD k 0]})=decide (a.getD (c-49) 0=a.getD k 0) from PH _ _];by_cases n:a.getD (c-49) 0=a.getD k 0
   .rw[An n];rw[if_pos n]at b;fail "g";exact b
   .rw[Aw n];rw[if_neg n]at b;fail "g";exact b
  .have y:=Bp (Bq.mpr C)
   have d:¬c-49<k:=by ((try clear S X e);omega)
   rw[if_neg d]at b;fail "g";exact b
 .rw[show (Str.ofString "1234").cps.toList.filterMap (Vp a k)=_ from LV a k];fail "g";refine⟨z0,λp l=>?_⟩
  have m:D≠p:=λz=>by rw[z,aD]at l;cases l
  have v:H p=none:=by rw[aH (Ne.symm m)]at l;exact l
  have L:((((List.range (min k 4)).filterMap (VM a k)).map one).map V.str).length<=4:=by grind
  fail "g";refine jJ (xs:=[V.str (one (a.getD k 0))]) (ys:=(((List.range (min k 4)).filterMap (VM a k)).map one).map V.str) dU (by rw[uB m];exact dU) (bK (by show 1+_<=_;((try clear R S X e m);omega))) λr j=>?_
  have u:H r=none:=by
   by_cases z:r=p
   .rw[z];exact v
   .rw[aH z]at j;by_cases J:r=D
    .rw[J];exact M
    .rw[aH J]at j;exact j
  fail "g";exact q r _ u ((aG M _).trans ((aG l _).trans (aG j _))) aD
noncomputable def V5(cws:List (List Nat))(k:Nat):List (List V):=(List.range (cws.getD k []).length).map λj:Nat=>[V.int (k:Int),V.int (1+(j:Int))]
noncomputable def pF(cws:List (List Nat))(i:Nat):List (List V):=((List.range i).map (V5 cws)).flatten
def lF(cws:Q6)(i:Nat):pF cws (i+1)=pF cws i++V5 cws i:=by
 unfold pF;rw[Cm,Ap,List.flatten_append];simp
def IZ(a:∀c∈cws,c.length<=7):(V5 cws k).length<=7:=by
 unfold V5;rw[Ab,Bf,Ac];cases e:cws[k]? with
 |none=>exact Da _
 |some c=>exact a c (Ao e)
def pC(a:∀c∈cws,c.length<=7):∀i,(pF cws i).length<=7*i
 |0=>Ah _
 |i+1=>by
  rw[lF,Af];have:=pC a i
  have:=IZ (k:=i) a
  omega
def PN{x:V}(h:((cws.map aV).map V.str)[i]?=some x):∃c,cws[i]?=some c/\c∈cws/\x=.str (aV c):=by
 rw[Ag,Ag]at h;cases e:cws[i]? with
 |none=>rw[e]at h;cases h
 |some c=>rw[e]at h;cases h;exact⟨c,rfl,Ao e,rfl⟩
def tJ:Sp:=λf H Q _=>∃a b,f=[.ref a]/\Z4 H a=some ((b.map aV).map V.str)/\b.length<=8/\(∀c∈b,c.length<=7)/\
 ∀r e d,H r=none->Z_ H d->d r=some (.lst (e.map V.ref))->ZF H d e (pF b b.length)->Q (.ref r) d
def gV:Z9 ["words", "wants", "number", "word"] ["words"] (aJ kR):=by fail "sc"
def ER(F:ZT K "wants_of" "wants_of" kR f fd):Z8 P w K mg base ZS 1 f fd ["words"] tJ:=by
 refine F.ok gV (λY H Q E h=>?_) (λa6 A I s H Y Q E hr h=>?_)
 .obtain⟨a,b,rfl,_⟩:=h;rfl
 obtain⟨a,b,rfl,W,h8,X,q⟩:=h;refine⟨_,(@aE _ _ _ _ _ (aP 1 gV.nd (bQ aB)) (@aE _ _ _ _ _ (cV Bs rfl (mW rfl G.b_enumerate (aA (mv 0) aB)) (eT (K:=K) (i:=2) (j:=3) (by rfl) (by rfl) gV.nd (by rfl) (by exact(Or.inr rfl)) (Or.inl rfl) (by rfl) (by exact(Or.inl rfl)) (Or.inl rfl)) (@aI _ _ _ (bU (cI Bj Eo Ep VC (mv 1) (aA (cL rfl (Jc rfl G.b_range (aA aK (aA (aQ bO (aW cN rfl G.b_len bP (aA (mv 3) aB)) aK) aB))) (gF (N:=["place", "number"]) ["words", "wants", "number", "word"] (aJ kR) [none,some 2] rfl rfl rfl (λx h=>bX h) (by decide +kernel)) (by decide +kernel) rfl (by decide +kernel) (λ_ _ _ _=>(aZ (i:=0) (show List.Nodup (["place", "number"]:List Str) by decide +kernel) rfl (Or.inl rfl))) (λ_ _ _ _=>cY) (λ_ _ _ _=>(cU (aA (mv 1) (aA (mv 0) aB))))) aB))))) (@aI _ _ _ (aU (mv 1))))),?_⟩
 fail "g";refine⟨by decide,λp r=>?_⟩
 have a4:=aM (aG r (HO.lst [])) W
 fail "g";refine tX (xs:=(b.map aV).map V.str) (λi U t=>∃(d:List Addr) (v u:Option V),U=[some (.ref a),some (.ref p),v,u]/\Z_ H t/\t p=some (.lst (d.map V.ref))/\ZF H t d (pF b i))
  ⟨[],_,_,rfl,aG r _,aD,.nil⟩ (λj U t _ ⟨_,_,_,_,e,_⟩=>aM e W) ?_ ?_
 .rintro i x U R pt T ⟨d,v,u,rfl,C,O,m⟩ k;have hi:i<b.length:=by have:=(Ad.mp T).1;rwa[Ab,Ab]at this
  obtain⟨c,M,hm,rfl⟩:=PN T;have a3:=X c hm
  have J:=cT c
  fail "g";rw[J];refine⟨⟨by omega,by omega,by omega,by omega⟩,?_⟩
  rw[show ((c.length:Int)+1-1).toNat=c.length by ((try clear h8 hi);omega)]
  have z:=C.trans (aG k (HO.tup [V.int ((0+i:Nat):Int),V.str (aV c)]))
  have o:=aG k (HO.tup [V.int ((0+i:Nat):Int),V.str (aV c)]) _ _ O
  have l:=m.keep (aG k (HO.tup [V.int ((0+i:Nat):Int),V.str (aV c)]))
  generalize upd R pt (HO.tup [V.int ((0+i:Nat):Int),V.str (aV c)])=H3 at z o l ⊢;refine IU (λj=>[V.int ((0+i:Nat):Int),V.int (1+(j:Int))]) (bF (by omega)) (λj Hc A B hj hs hA=>?_) (λD Hd Z hD y a5 a1 S=>?_)
  .fail "g";refine⟨Wk.set rfl (Wk.refl _),?_⟩;fail "g";exact⟨r0,λpp n=>hA pp _ n (aG n _) aD⟩
  .have L:=y _ _ o
   have a2:d.length<=7*i:=by rw[m.1];exact pC X i
   have e:(List.range c.length).map (λj:Nat=>[V.int ((0+i:Nat):Int),V.int (1+(j:Int))])=V5 b i:=by
    unfold V5;rw[Ac,M,Nat.zero_add];rfl
   rw[e]at S;fail "g";refine⟨d++Z,_,_,rfl,bL r (z.trans y),by rw[aD,Ap],?_⟩
   rw[lF];exact((l.keep y).app (S.X6 z)).put L
 .rintro U R ⟨d,v,u,rfl,C,O,m⟩;rw[show ((b.map aV).map V.str).length=b.length by rw[Ab,Ab]]at m
  exact q p d R r C O m
noncomputable def gN(cws:List (List Nat))(i:Nat):Nat:=((cws.take i).map List.length).sum
noncomputable def iM(cws:List (List Nat))(cs:List Nat)(i:Nat):List V:=(((cs.drop (gN cws i)).take (cws.getD i []).length).map one).map V.str
def Qg(h:cws[i]?=some cw):gN cws (i+1)=gN cws i+cw.length:=by
 unfold gN;rw[Bd,h,Ap,List.sum_append];simp
def L8(c:i<=j):kB xs (some (i:Int)) (some (j:Int))=(xs.drop i).take (j-i):=by
 show (xs.drop (if (i:Int)<0 then ((i:Int)+(xs.length:Int)).toNat else min (i:Int).toNat xs.length)).take ((if (j:Int)<0 then ((j:Int)+(xs.length:Int)).toNat else min (j:Int).toNat xs.length)-(if (i:Int)<0 then ((i:Int)+(xs.length:Int)).toNat else min (i:Int).toNat xs.length))=_
 rw[if_neg (by ((try clear c);omega)),if_neg (by ((try clear c);omega)),Fq,Fq]
 by_cases b:i<=xs.length
 .rw[Fm b];by_cases a:j<=xs.length
  .rw[Fm a]
  .rw[Fe (by ((try clear b c);omega)),Bg (by simp_all),Bg (by rw[Cf];omega)]
 .rw[Fe (show xs.length<=i by ((try clear c);omega)),List.drop_of_length_le (Ah _),List.drop_of_length_le (by ((try clear c);omega)),List.take_nil,List.take_nil]
def qM:Sp:=λh H Q _=>∃a b d g,h=[.ref a,.ref b]/\Z4 H a=some ((d.map aV).map V.str)/\Z4 H b=some ((g.map one).map V.str)/\d.length<=8/\(∀c∈d,c.length<=7)/\
 ∀r f e,H r=none->Z_ H e->e r=some (.lst (f.map V.ref))->(∀p∈f,p≠r)->ZQ H e f ((List.range d.length).map (iM d g))->Q (.ref r) e
def v0:Z9 ["words", "flags", "hoists", "start", "word", "end"] ["words", "flags"] (aJ lQ):=by fail "sc"
def ET(F:ZT K "hoists_of" "hoists_of" lQ f fd):Z8 P w K mg base ZS 1 f fd ["words", "flags"] qM:=by
 refine F.ok v0 (λvs H Q E h=>?_) (λa7 A Y s H vs Q E hr h=>?_)
 .obtain⟨a,b,c,d,rfl,_⟩:=h;rfl
 obtain⟨a,b,c,d,rfl,ha,hb,h8,h7,q⟩:=h;refine⟨_,(@aE _ _ _ _ _ (aP 2 v0.nd (bQ aB)) (@aE _ _ _ _ _ (aP 3 v0.nd aK) (@aE _ _ _ _ _ (cV Bs rfl (bT (mv 0)) (aZ (i:=4) v0.nd rfl (Or.inl rfl)) (@aE _ _ _ _ _ (aP 5 v0.nd (aQ bO (mv 3) (aW cN rfl G.b_len bP (aA (mv 4) aB)))) (@aE _ _ _ _ _ (bU (cI Bj Di Dj wR (mv 2) (aA (cA jB rfl G.b_list dX (aA (iB Vz (mv 1) (fH (mv 3)) (fH (mv 5))) aB)) aB))) (@aI _ _ _ (aP 3 v0.nd (mv 5)))))) (@aI _ _ _ (aU (mv 2)))))),?_⟩;have J:((c.map aV).map V.str).length=c.length:=by rw[Ab,Ab]
 fail "g";refine⟨by decide,λp O=>?_⟩
 have a6:=aM (aG O (HO.lst [])) ha
 fail "g";refine fX (xs:=(c.map aV).map V.str) (λi U S=>∃l W T,U=[some (.ref a),some (.ref b),some (.ref p),some (.int ((gN c i:Nat):Int)),W,T]/\Z_ H S/\S p=some (.lst (l.map V.ref))/\(∀x∈l,x≠p)/\l.length=i/\ZQ H S l ((List.range i).map (iM c d)))
  ⟨[],_,_,rfl,aG O _,aD,(λx y=>nomatch y),rfl,.nil⟩ (λj U S _ ⟨_,_,_,_,e,_⟩=>aM e ha) ?_ ?_
 .rintro i x U v y ⟨l,W,T,rfl,B,R,u,I,M⟩;have hi:i<c.length:=by have:=(Ad.mp y).1;rw[J]at this;exact this
  obtain⟨k,L,hm,rfl⟩:=PN y;have a4:=h7 k hm
  have Z:=cT k
  have a5:=aM B hb
  fail "g";rw[Z];intro X t;rw[show ((gN c i:Nat):Int)+((k.length:Nat):Int)=((gN c i+k.length:Nat):Int) by push_cast;rfl,L8 (by ((try clear I J h8 hi);omega)),show gN c i+k.length-gN c i=k.length by ((try clear I J h8 hi);omega)]
  have m:(((d.map one).map V.str).drop (gN c i)).take k.length=iM c d i:=by
   unfold iM;rw[Ac,L,Gh,Gh,Fu,Fu];rfl
  rw[m];fail "g";intro n r;have a1:n≠p:=λz=>by
   have:=aG t (HO.lst (iM c d i)) _ _ R
   rw[<-z,r]at this;cases this
  have N:Z_ v (upd (upd v X (HO.lst (iM c d i))) n (HO.lst (iM c d i))):=(aG t _).trans (aG r _)
  have C:(upd (upd v X (HO.lst (iM c d i))) n (HO.lst (iM c d i))) n=some (.lst (iM c d i)):=aD
  have D:=none_of (aG t _) r
  generalize upd (upd v X (HO.lst (iM c d i))) n (HO.lst (iM c d i))=H3 at N C ⊢;have a2:=N _ _ R
  have a3:=bM a2
  fail "g";have o:∀x∈l++[n],x≠p:=λx y=>by
   rcases Bi.mp y with e|e
   .exact u x e
   .rwa[Aj.mp e]
  refine⟨l++[n],some (.str (aV k)),some (.int ((gN c i+k.length:Nat):Int)),?_,bL O (B.trans N),by rw[aD,Ap];rfl,o,by rw[Af,I];rfl,?_⟩
  .rw[Qg L];rfl
  .rw[Cm,Ap];exact((M.keep N).snoc (none_of B D) C).put o
 .rintro U v ⟨l,W,T,rfl,B,R,u,I,M⟩;fail "g";rw[J]at M;exact q p l v O B R u M
def JR:Z9 ["text"] ["text"] (aJ rX):=by fail "sc"
def LJ(F:ZT K "is_flag" "is_flag" rX f fd):Z8 P w K mg base ZS 1 f fd ["text"] pI:=by
 refine F.ok JR (λc H Q E h=>?_) (λd A a s H c Q E i h=>?_)
 .obtain⟨z,rfl,_⟩:=h;rfl
 obtain⟨z,rfl,j,q⟩:=h;refine⟨_,(@aI _ _ _ (aU (qY (eQ lC (aW cN rfl G.b_len bP (aA (mv 0) aB)) aK (bA _)) (UG (eQ Vs (mv 0) (eO rfl G.s_FLAGS) (by rfl)))))),?_⟩
 fail "g";refine dW (λb=>?_) (λb=>?_)
 .have e:fV z=subIn z ZW:=if_pos (by grind)
  rw[e]at q;fail "g";exact q
 .have e:fV z=false:=sN (by grind)
  simp_all
def J3:Z9 ["text", "place"] ["text", "place"] (aJ lR):=by fail "sc"
def D5(F:ZT K "may_stand" "may_stand" lR f fd)(r:ZR P w K mg base 1 "is_flag" ["text"] pI):Z8 P w K mg base ZS 2 f fd ["text", "place"] qS:=by
 refine F.ok J3 (λo H Q E h=>?_) (λv A i s H o Q E t h=>?_)
 .obtain⟨z,p,rfl,_⟩:=h;rfl
 obtain⟨z,p,rfl,u,q⟩:=h;refine⟨_,(@aE _ _ _ _ _ (cD (pJ (fK (aT r t (by decide) rfl (aA (mv 0) aB)))) (@aI _ _ _ (aU oJ)) bE) (@aE _ _ _ _ _ (cD (bB Vs (mv 0) (eO rfl G.s_SUBSTITUTES) (by rfl)) (@aI _ _ _ (aU (eQ yI (cA T3 rfl G.b_int Ul (aA (mv 0) aB)) (mv 1) (bA _)))) bE) (@aI _ _ _ (aU oJ)))),?_⟩
 fail "g";refine⟨z,rfl,u,?_⟩;fail "g";refine dW (λm=>?_) (λm=>?_)
 .have a:fV z=false:=by simpa using m
  have e:dI z p=false:=by
   by_cases n:z.length=1
   .obtain⟨c,rfl⟩:=uL n;rw[oV]at a;have a:=Bp a
    rw[pX];exact Aw λd=>a (d.elim .inl λz=>.inr z.1)
   .exact if_neg n
  rw[e]at q;fail "g";exact q
 .have a:fV z=true:=by simpa using m
  obtain⟨c,rfl,k⟩:=F1 a;fail "g";rw[if_neg Ar,show subIn (one c) "1234"=decide (eE c) from xS c];rw[pX]at q;refine dW (λj=>?_) (λj=>?_)
  .have b:=Az j
   fail "g";refine Ub (uH b) (by show 1<=640;decide) ?_
   rw[show decide (mQ c p)=decide ((c:Int)-48<p) from Ef.mpr ⟨λd=>d.elim (λl=>absurd b (lW l)) (·.2),λl=>.inr ⟨b,l⟩⟩]at q;exact q
  .have b:=Bp (Bq.mpr j)
   rwa[An (show mQ c p from .inl (k.resolve_right b))]at q
def JY:Z9 ["flags"] ["flags"] (aJ oW):=by fail "sc"
def Lr(F:ZT K "is_hoist" "is_hoist" oW f fd)(O:ZR P w K mg base 2 "may_stand" ["text", "place"] qS):Z8 P w K mg base ZS 3 f fd ["flags"] sS:=by
 refine F.ok JY (λt H Q E h=>?_) (λT A l s H t Q E k h=>?_)
 .obtain⟨a,b,rfl,_⟩:=h;rfl
 obtain⟨a,b,rfl,L,X,v,q⟩:=h;refine⟨_,(@aE _ _ _ _ _ (cD (PW.pt (sU (bB yI (aW cN rfl G.b_len bP (aA (mv 0) aB)) aK (bA _)) (mG (bB V7 (aW cN rfl G.b_len bP (aA (mv 0) aB)) (pL rfl G.s_MOST_PLACES) (bA _))))) (@aI _ _ _ (aU oJ)) bE) (@aI _ _ _ (aU (aW (Uu rfl) rfl G.b_all TV (aA (cL rfl (DS rfl G.b_enumerate (aA (mv 0) aB) (tW aK UO)) (iL (N:=["place", "text"]) (by decide +kernel) (by decide +kernel)) (by decide +kernel) rfl (by decide +kernel) (λ_ _ _ _=>(eT (K:=K) (i:=0) (j:=1) (by rfl) (by rfl) (show List.Nodup (["place", "text"]:List Str) by decide +kernel) (by rfl) (by exact Or.inl rfl) (by exact Or.inr rfl) (by rfl) (Or.inl rfl) (Or.inr rfl))) (λ_ _ _ _=>cY) (λ_ _ _ _=>(aT O k (by decide) rfl (aA (mv 1) (aA (mv 0) aB))))) aB))))),?_⟩
 have c:(b.map V.str).length=b.length:=Ab ..
 fail "g";rw[c];refine dW (λo=>?_) (λo=>?_)
 .fail "g";have e:dE b=false:=if_pos (.inl (by have:=Az o;omega))
  have r:=q H (Z_.refl H)
  rwa[e]at r
 .have J:=Bp (Bq.mpr o)
  fail "g";rw[c];refine dW (λn=>?_) (λn=>?_)
  .fail "g";have e:dE b=false:=if_pos (.inr (by have:=Az n;omega))
   have r:=q H (Z_.refl H)
   rwa[e]at r
  .have I:=Bp (Bq.mpr n)
   fail "g";refine⟨⟨by (exact Int.natCast_nonneg _),by (exact Int.natCast_nonneg _)⟩,?_⟩
   fail "g";refine RU (λi x=>match x with|.str z=>some (.bl (dI z ((1+i:Nat):Int)))|_=>none) L (by rw[c];exact bF (by (exact Nat.le_trans (by assumption) (by decide)))) (λi x Hc p A B y U W M=>?_) (λD Z Y u k=>?_)
   .obtain⟨z,m,rfl⟩:=iK y;fail "g";refine⟨Wk.set rfl (Wk.set rfl (Wk.refl _)),?_⟩;fail "g";refine⟨z,_,rfl,v z (Ao m),?_⟩;exact M _ (Z_.refl _)
   .have S:((List.range (b.map V.str).length).filterMap λi=>(λi x=>match x with | .str z=>some (V.bl (dI z ((1+i:Nat):Int))) | _=>none:Nat->V->Option V) i ((b.map V.str).getD i .non))=((List.range b.length).map λi=>dI (b.getD i ⟨#[]⟩) ((1+i:Nat):Int)).map V.bl:=by
     rw[c,Ce];refine(jP (g:=λi=>some (V.bl (dI (b.getD i ⟨#[]⟩) ((1+i:Nat):Int)))) λi C=>?_).trans (kH _ _);have d:=Bu.mp C
     rw[Ac,Ag,Aa d,Ac,Aa d];rfl
    rw[S]at k;fail "g";refine UJ k ?_;have R:dE b=((List.range b.length).map λi=>dI (b.getD i ⟨#[]⟩) ((1+i:Nat):Int)).all id:=by
     unfold dE;rw[if_neg (by omega),Ij]
     rfl
    have r:=q _ u
    rwa[R]at r
def n6:Z9 ["flags", "word", "flag"] ["flags"] (aJ rJ):=by fail "sc"
def Hf(F:ZT K "read_of" "read_of" rJ f fd)(Z:ZR P w K mg base 3 "is_hoist" ["flags"] sS):Z8 P w K mg base (Y_ P w) 4 f fd ["flags"] (oN Zx):=by
 refine F.XJ n6 (λL H Q E h=>?_) (λa1 A t s H L Q E R h=>?_)
 .obtain⟨a,b,rfl,_⟩:=h;rfl
 obtain⟨a,b,rfl,I,W,N,q,M⟩:=h;refine⟨_,(@aE _ _ _ _ _ (cD (pJ (fK (aT Z R (by decide) rfl (aA (mv 0) aB)))) (@aI _ _ _ (jT fZ rfl rfl rfl G.c_NoHoist G.Xy Ct (@cG _ _ _ _ _ _ aB))) bE) (@aE _ _ _ _ _ (aP 1 n6.nd fN) (@aE _ _ _ _ _ (PS.WT (cV Bs rfl (bT (mv 0)) (aZ (i:=2) n6.nd rfl (Or.inl rfl)) (@aI _ _ _ (cD (bB Vs (mv 2) (eO rfl G.s_SUBSTITUTES) (by rfl)) (@aI _ _ _ (aP 1 n6.nd (aQ bO (mv 1) (bI bZ (mv 1) (aQ qK (cA T3 rfl G.b_int Ul (aA (mv 2) aB)) aK) (λ_ _=>rfl))))) (@aI _ _ _ (aP 1 n6.nd (aQ bO (mv 1) (mv 2)))))))) (@aI _ _ _ (aU (mv 1)))))),?_⟩
 fail "g";refine⟨a,b,rfl,I,W,N,λJ r=>?_⟩;have D:=aM r I
 fail "g";cases o:dE b with
 |false=>
  fail "g";exact⟨z0,M o J r⟩
 |true=>
  fail "g";have h7:=fG o
  refine fX (xs:=b.map V.str) (λi U p=>∃v,U=[some (.ref a),some (.str (aV (YR ((b.map mH).take i)))),v]/\p=J)
   ⟨none,rfl,rfl⟩ (λi U p _ ⟨_,_,e⟩=>by rw[e];exact D) ?_ ?_
  .rintro i x U p O ⟨v,rfl,rfl⟩;obtain⟨z,u,rfl⟩:=iK O;obtain⟨c,rfl,n,C⟩:=uT o u;have hi:=(Ad.mp n).1
   have T:(b.map mH).length=b.length:=Ab ..
   have m:(YR ((b.map mH).take i)).length=i:=pS (by (exact Nat.le_of_lt (by assumption)))
   have j:=wG n
   generalize YR ((b.map mH).take i)=d at m j ⊢;have y:=(cT d).trans m
   fail "g";rw[if_neg Ar,show subIn (one c) "1234"=decide (eE c) from xS c];refine dW (λB=>?_) (λB=>?_)
   .have k:=Az B
    have S:=(C.resolve_left λl=>lW l k).2
    have X:=k.1
    fail "g";refine Ub (uH k) (by show 1<=640;decide) ?_
    fail "g";have e1:YV (aV d).cps.toList ((c:Int)-48-1)=some (d.getD (c-49) 0):=by
     rw[show ((c:Int)-48-1)=((c-49:Nat):Int) by ((try clear C S T W h7 hi m y);omega)]
     refine aY ?_;rw[cQ,Ac,Aa (by ((try clear C T W X h7 hi);omega))]
     rfl
    have Y:(⟨#[d.getD (c-49) 0]⟩:Str).length=1:=rfl
    refine wI (by rw[y];exact bK (by ((try clear C S X Y);omega))) e1 ?_
    fail "g";refine⟨some (.str (one c)),?_,rfl⟩;rw[j,show VN d c=d.getD (c-49) 0 from if_pos k,<-jY];rfl
   .have k:=Bp (Bq.mpr B)
    have Y:(one c).length=1:=rfl
    fail "g";refine⟨some (.str (one c)),?_,rfl⟩;rw[j,show VN d c=c from if_neg k,<-jY];rfl
  .rintro U p ⟨v,rfl,rfl⟩;fail "g";have e:(b.map mH).take (b.map V.str).length=b.map mH:=Bg (by rw[Ab,Ab];exact Ah _)
   rw[e];exact q o _ r
abbrev Wt:=Nat×Nat
noncomputable def dN(w:Wt):List Key:=[Sum.inl (w.1:Int),Sum.inl (w.2:Int)]
def pO{a b:Wt}(h:dN a=dN b):a=b:=by
 unfold dN at h;grind
noncomputable def dP(m:List (Wt×Nat))(w:Wt):Option Nat:=(m.find? λx=>decide (x.1=w)).map (·.2)
noncomputable def eW(m:List (Wt×Nat))(f:Nat):List Wt:=(m.filter λx=>decide (x.2=f)).map (·.1)
noncomputable def YJ(m:List (Wt×Nat))(f:Nat):Nat:=m.countP λx=>decide (x.2=f)
def fP{x:Wt×Nat}{m:List _}{w:Wt}:dP (x::m) w=if x.1=w then some x.2 else dP m w:=by
 unfold dP;grind
def OA{w:Wt}{f:Nat}(h:dP m w=some f):(w,f)∈m:=by
 induction m with
 |nil=>cases h
 |cons x m a=>
  rw[fP]at h;grind
def pN(a:(m.map (·.1)).Nodup){w:Wt}{f:Nat}(h:(w,f)∈m):dP m w=some f:=by
 induction m with
 |nil=>cases h
 |cons x m b=>
  rw[fP];grind
def Yu{w:Wt}:dP m w=none ↔ w∉m.map (·.1):=by
 induction m with
 |nil=>exact⟨λ_ z=>(nomatch z),λ_=>rfl⟩
 |cons x m a=>
  rw[fP,Au,Bb];grind
def W4{f:Nat}{w:Wt}:w∈eW m f ↔ (w,f)∈m:=by
 unfold eW;simp_all
def RY(m:List _)(f:Nat):(eW m f).length=YJ m f:=by
 unfold eW YJ;rw[Ab,Gg]
structure Asking (ch:Wt->List Nat) (m:List (Wt×Nat)) (first:Wt) (A:List (Nat×Wt)):Prop where
 nd:(A.map (·.1)).Nodup
 ok:∀(j:Nat) f w,A[j]?=some (f,w)->f∈ch w/\(w=first\/∃(g:Nat) (i:Nat) (v:Wt),i<j/\A[i]?=some (g,v)/\dP m w=some g)
noncomputable def cC(m:List (Wt×Nat))(first:Wt)(A:List (Nat×Wt)):List Wt:=first::(A.map (·.1)).flatMap (eW m)
def oY(m:List _)(first:Wt)(A:List _)(f:Nat)(w:Wt):cC m first (A++[(f,w)])=cC m first A++eW m f:=by
 unfold cC;simp_all
def Zc{w:Wt}:w∈cC m first A ↔ w=first\/∃f∈A.map (·.1),(w,f)∈m:=by
 unfold cC;rw[Bb,Ia];constructor
 .rintro(h|⟨f,hf,h⟩)
  .exact .inl h
  .exact .inr ⟨f,hf,W4.mp h⟩
 .rintro(h|⟨f,hf,h⟩)
  .exact .inl h
  .exact .inr ⟨f,hf,W4.mpr h⟩
def vN(m:List (Wt×Nat)):∀ {b:List Nat},b.Nodup->(b.flatMap (eW m)).length=m.countP (λx=>decide (x.2∈b))
 |[],_=>by simp
 |f::b,nd=>by
  rw[Gp,Af,RY,vN m (Cq.mp nd).2]
  unfold YJ;induction m with
  |nil=>rfl
  |cons x m d=>
   rw[Dv,Dv,Dv,<-d];grind
def qZ(a:(A.map (·.1)).Nodup):(cC m first A).length<=1+m.length:=by
 unfold cC;rw[Av,vN m a];grind
def Asking.snoc{first w:Wt}{A:List (Nat×Wt)}{f:Nat}(d:(m.map (·.1)).Nodup)(h:Asking ch m first A)(t:f∉A.map (·.1))(u:f∈ch w)(r:w∈cC m first A):Asking ch m first (A++[(f,w)]):=by
 refine⟨?_,λj g v a=>?_⟩
 .rw[Ap];exact List.nodup_append.mpr ⟨h.nd,by simp,λx c y q=>by rw[List.mem_singleton.mp q];intro z;have p:=z;rw[p]at c;exact t c⟩
 .by_cases k:j<A.length
  .rw[Am k]at a;obtain⟨C,B⟩:=h.ok j g v a;refine⟨C,B.imp id ?_⟩;rintro⟨o,i,v',b,hA,hg⟩;exact⟨o,i,v',b,by rw[Am (by omega)];exact hA,hg⟩
  .have l:j=A.length:=by
    have:=(Ad.mp a).1
    rw[Af]at this;have:j<A.length+1:=this
    omega
   subst l;rw[Aq (Ah _),Eh]at a;cases a;refine⟨u,?_⟩;rcases Zc.mp r with e|⟨o,n,s⟩
   .exact .inl e
   .obtain⟨x,c,rfl⟩:=Ba.mp n;obtain⟨i,b,D⟩:=Bv.mp c;exact .inr ⟨x.1,i,x.2,b,by rw[Am b,Aa b,D],pN d s⟩
structure Xe (ch:Wt->List Nat) (m:List (Wt×Nat)) (first:Wt) (A:List (Nat×Wt)):Prop extends Asking ch m first A where
 all1:∀f∈ch first,f∈A.map (·.1)
 all:∀w g,(w,g)∈m->g∈A.map (·.1)->∀f∈ch w,f∈A.map (·.1)
def Asking.done(h:Asking ch m first A)(a:∀w∈cC m first A,∀f∈ch w,f∈A.map (·.1)):Xe ch m first A:=
 ⟨h,a first (Zc.mpr (.inl rfl)),λw g b c=>a w (Zc.mpr (.inr ⟨g,c,b⟩))⟩
noncomputable def WA(m:List (Wt×Nat))(w:Wt)(f:Nat):List (Wt×Nat):=if (dP m w).isSome=true then m.map λx=>if x.1=w then (x.1,f) else x else m++[(w,f)]
def LD{w v:Wt}{f:Nat}:dP (m.map λx=>if x.1=w then (x.1,f) else x) v=(dP m v).map λg=>if v=w then f else g:=by
 induction m with
 |nil=>rfl
 |cons x m b=>
  rw[Au,fP,fP,b];grind
def keys_map{m:List _}{w:Wt}{f:Nat}:(m.map λx=>if x.1=w then (x.1,f) else x).map (·.1)=m.map (·.1):=by
 rw[Ce];refine Dy λx _=>?_;grind
def B1{w:Wt}{f:Nat}(a:(m.map (·.1)).Nodup)(h:dP m w=some g)(c:Nat):YJ (m.map λx=>if x.1=w then (x.1,f) else x) c+(if c=g then 1 else 0)=YJ m c+(if c=f then 1 else 0):=by
 induction m with
 |nil=>cases h
 |cons x m b=>
  rw[Au,Cq]at a;rw[fP]at h;unfold YJ at b ⊢;rw[Au,Dv,Dv];by_cases e:x.1=w
  .rw [if_pos e] at h;cases h;have i:(m.map λx=>if x.1=w then (x.1,f) else x)=m:=by
    refine(Dy λy d=>?_).trans (List.map_id _);grind
   rw[if_pos e,i];have k:(decide ((x.1,f).2=c)=true)=(c=f):=by rw[Bo];exact propext ⟨λz=>z.symm,λz=>z.symm⟩
   have j:(decide (x.2=c)=true)=(c=x.2):=by rw[Bo];exact propext ⟨λz=>z.symm,λz=>z.symm⟩
   simp only[k,j];omega
  .rw[if_neg e]at h;rw[if_neg e];have r:=b a.2 h
   omega
structure Yx (ch:Wt->List Nat) (m0:List (Wt×Nat)) (A:List (Nat×Wt)) (f0:Nat) (m:List (Wt×Nat)) (c j:Nat) (w:Wt):Prop where
 keys:m.map (·.1)=m0.map (·.1)
 ok:∀v f,(v,f)∈m->f∈ch v
 ct:∀f,YJ m f+(if f=c then 1 else 0)=YJ m0 f+(if f=f0 then 1 else 0)
 at_:A[j]?=some (c,w)
 same:∀v g i u,dP m0 v=some g->A[i]?=some (g,u)->i<j->dP m v=some g
def N7{A:List (Nat×Wt)}(a:(A.map (·.1)).Nodup){u v:Wt}(c:A[i]?=some (g,u))(b:A[j]?=some (g,v)):i=j:=by
 obtain⟨e,h⟩:=Ad.mp c;obtain⟨d,f⟩:=Ad.mp b;refine(Gy (h₀:=by simp_all) (h₁:=by simp_all) a).mp ?_
 rw[En,En,h,f]
def Yx.step{a m:List (Wt×Nat)}{A:List (Nat×Wt)}{s c:Nat}{first w v:Wt}(q:Asking ch a first A)(b:(a.map (·.1)).Nodup)(h:Yx ch a A s m c j w)(p:dP a w=some g)(k:A[i]?=some (g,v))(d:i<j):dP m w=some g/\Yx ch a A s (m.map λx=>if x.1=w then (x.1,c) else x) g i v:=by
 have y:(m.map (·.1)).Nodup:=by rw[h.keys];exact b
 have o:=h.same w g i v p k d
 refine⟨o,keys_map.trans h.keys,λu f C=>?_,λf=>?_,k,λu D z t l r G=>?_⟩
 .obtain⟨x,B,e⟩:=Ba.mp C;by_cases n:x.1=w
  .rw[if_pos n]at e;cases e;rw[n];exact(q.ok j c w h.at_).1
  .rw[if_neg n]at e;exact h.ok u f (e▸B)
 .have F:=B1 (f:=c) y o f
  have E:=h.ct f
  ((try clear d);omega)
 .rw[LD,h.same u D z t l r (by omega),Fl]
  by_cases e:u=w
  .subst e;rw[p]at l;cases l;exact absurd (N7 q.nd k r) (by (exact Nat.ne_of_gt (by assumption)))
  .rw[if_neg e]
def Yx.last{a m:List (Wt×Nat)}{A:List (Nat×Wt)}{b c:Nat}{first:Wt}(i:Asking ch a first A)(g:first∉a.map (·.1))(h:Yx ch a A b m c j first):dP m first=none/\(m++[(first,c)]).map (·.1)=a.map (·.1)++[first]/\(∀v f,(v,f)∈m++[(first,c)]->f∈ch v)/\∀f,YJ (m++[(first,c)]) f=YJ a f+(if f=b then 1 else 0):=by
 refine⟨Yu.mpr (by rw[h.keys];exact g),by rw[Ap,h.keys];rfl,λv f d=>?_,λf=>?_⟩
 .rcases Bi.mp d with e|e
  .exact h.ok v f e
  .cases Aj.mp e;exact(i.ok j c first h.at_).1
 .have r:=h.ct f
  unfold YJ at r ⊢;grind
noncomputable def lB(m:List (Wt×Nat))(first:Wt)(A:List (Nat×Wt))(a:List Wt):List Wt:=a.filter λw=>decide (w=first) || (match dP m w with|some g=>decide (g∈A.map (·.1))|none=>false)
noncomputable def kY(m:List (Wt×Nat))(first:Wt)(A:List (Nat×Wt))(w:Wt):Bool:=decide (w=first) || (match dP m w with|some g=>decide (g∈A.map (·.1))|none=>false)
def GF{first w:Wt}{A:List _}(h:w=first):kY m first A w=true:=by
 unfold kY;simp_all
def uJ{first w:Wt}{A:List _}(h:w≠first)(e:dP m w=none):kY m first A w=false:=by
 unfold kY;simp_all
def xU{first w:Wt}{A:List _}(h:w≠first)(e:dP m w=some g):kY m first A w=decide (g∈A.map (·.1)):=by
 unfold kY;simp_all
def wJ{w:Wt}:lB m first A (ws++[w])=lB m first A ws++if kY m first A w=true then [w] else []:=by
 have e:∀l,lB m first A l=l.filter (kY m first A):=λl=>rfl
 rw[e,e,Fh,Ed];rfl
def Xq{first w:Wt}{A:List _}{a:List Wt}:w∈lB m first A a ↔ w∈a/\kY m first A w=true:=by
 have e:∀l,lB m first A l=l.filter (kY m first A):=λl=>rfl
 rw[e,Dg]
def M4{first:Wt}{A:List (Nat×Wt)}{l r:List Wt}(c:m.map (·.1)=l)(b:(l++first::r).Nodup):(lB m first A (l++first::r)).length=1+m.countP (λx=>decide (x.2∈A.map (·.1))):=by
 have k:(m.map (·.1)).Nodup:=by rw[c];exact(Ei.mp b).1
 have i:=λz=>(Ei.mp b).2.2 first z first Ak rfl
 have h:=(Cq.mp (Ei.mp b).2.1).1
 have d:=λw a z=>(Ei.mp b).2.2 w z w (Al _ a) rfl
 unfold lB;rw[Fh,Af,Ed,if_pos (by rw[An rfl];rfl),Av]
 have n:r.filter (λw=>decide (w=first) || (match dP m w with|some g=>decide (g∈A.map (·.1))|none=>false))=[]:=by
  refine List.filter_eq_nil_iff.mpr λw a=>?_;have e:=Yu.mpr (by rw[c];exact d w a)
  rw[Aw (show ¬w=first from λz=>by rw[z]at a;exact h a),e,Bool.false_or]
  exact Ar
 have o:(l.filter (λw=>decide (w=first) || (match dP m w with|some g=>decide (g∈A.map (·.1))|none=>false))).length=m.countP (λx=>decide (x.2∈A.map (·.1))):=by
  rw[<-c,List.filter_map,Ab,<-Gg];refine List.countP_congr λx j=>?_;show (decide (x.1=first) || (match dP m x.1 with|some g=>decide (g∈A.map (·.1))|none=>false))=true ↔ _
  rw[pN k (w:=x.1) (f:=x.2) j,Aw (λz=>i (by rw[<-z,<-c];exact Ba.mpr ⟨x,j,rfl⟩)),Bool.false_or]
 rw[n,o,List.length_nil];((try clear o);omega)
def Mj(m:List _):∀ {a:List Nat},a.Nodup->m.countP (λx=>decide (x.2∈a))=(a.map (YJ m)).sum:=fun {a} b=>by
 rw[<-vN m b];induction a with
 |nil=>rfl
 |cons f a c=>rw[Gp,Af,RY,Au,Cv,c (Cq.mp b).2]
noncomputable def qI(cws:List (List Nat))(k:Nat):List Wt:=(List.range (cws.getD k []).length).map λj=>(k,1+j)
noncomputable def XI(cws:List (List Nat))(i:Nat):List Wt:=(List.range i).flatMap (qI cws)
noncomputable def wl(cws:List (List Nat)):List Wt:=XI cws cws.length
noncomputable def wV(w:Wt):List V:=[.int (w.1:Int),.int (w.2:Int)]
def mR(cws:Q6)(i:Nat):XI cws (i+1)=XI cws i++qI cws i:=by
 unfold XI;rw[Cm,Fw];simp
def xD(cws:Q6):∀i,pF cws i=(XI cws i).map wV
 |0=>rfl
 |i+1=>by
  rw[lF,mR,Ap,xD cws i];congr 1
  unfold V5 qI;rw[Ce];refine Dy λj _=>?_;show [V.int _,V.int _]=[V.int _,V.int _]
  grind
def Yo{w:Wt}:∀ {i:Nat},w∈XI cws i ↔ w.1<i/\1<=w.2/\w.2<=(cws.getD w.1 []).length:=fun {i}=>by
 unfold XI qI;rw[Ia];constructor
 .rintro⟨k,hk,h⟩;obtain⟨j,a,rfl⟩:=Ba.mp h;have:=Bu.mp hk
  grind
 .rintro⟨h1,h2,h3⟩;refine⟨w.1,Bu.mpr h1,Ba.mpr ⟨w.2-1,Bu.mpr (by ((try clear h1);omega)),?_⟩⟩
  grind
def sF(cws:Q6):∀i,(XI cws i).Nodup
 |0=>List.nodup_nil
 |i+1=>by
  rw[mR];refine Ei.mpr ⟨sF cws i,?_,λa d b c e=>?_⟩
  exact List.Pairwise.map _ (λa b h=>λz=>h (by have:=Dp Prod.snd z;have e:=this;((try clear e h);omega))) List.nodup_range
  .subst e;have f:=(Yo.mp d).1
   obtain⟨j,_,rfl⟩:=Ba.mp c;simp_all
def OH(a:∀c∈cws,c.length<=7)(i:Nat):(XI cws i).length<=7*i:=by
 have:=pC a i
 rw[xD,Ab]at this;(assumption)
noncomputable def ZK(cws:List (List Nat))(w:Wt):List Nat:=Xn (cws.getD w.1 []) (w.2-1)
noncomputable def eJ(a:List Wt)(ds:List Addr):List (List Key×V):=List.zipWith (λw d=>(dN w,V.ref d)) a ds
def Qz(H:Hp)(r:Addr)(cws:List (List Nat))(i:Nat):Prop:=∃a,a.length=i/\H r=some (.dT (eJ ((wl cws).take i) a))/\∀j w d,j<i->(wl cws)[j]?=some w->a[j]?=some d->H d=some (.lst (((ZK cws w).map one).map V.str))
def Ku(b:ws.Nodup)(c:ds.length=ws.length){w:Wt}{d:Addr}(a:ws[j]?=some w)(f:ds[j]?=some d):cM (eJ ws ds) (dN w)=some (.ref d):=by
 induction ws generalizing ds j with
 |nil=>cases a
 |cons x ws g=>
  cases ds with
  |nil=>cases c
  |cons e ds=>
   show cM ((dN x,V.ref e)::eJ ws ds) _=_
   cases j with
   |zero=>cases a;cases f;exact cO rfl
   |succ j=>
    have h:=Ao (show ws[j]?=some w from a)
    rw[cJ (λz=>(Cq.mp b).1 (by rw[pO z];exact h))]
    exact g (List.nodup_cons.mp b).2 (by simpa using c) a f
def Ke{w:Wt}(h:w∉ws):cM (eJ ws ds) (dN w)=none:=by
 induction ws generalizing ds with
 |nil=>rfl
 |cons x ws a=>
  cases ds with
  |nil=>rfl
  |cons e ds=>
   show cM (_::eJ ws ds) _=_
   rw[cJ (λz=>h (by rw[pO z];exact Ak))]
   simp_all
def N9{a:List Wt}(b:ds.length=a.length):(eJ a ds).length=a.length:=by
 unfold eJ;grind
def LN{a:List Wt}{w:Wt}{d:Addr}(b:ds.length=a.length):eJ (a++[w]) (ds++[d])=eJ a ds++[(dN w,V.ref d)]:=by
 unfold eJ;rw[List.zipWith_append (by omega)]
 rfl
def oB:Sp:=λe H Q _=>∃a b,e=[.ref a]/\Z4 H a=some ((b.map aV).map V.str)/\b.length<=8/\(∀c∈b,c.length<=7)/\
 ∀r d,H r=none->Z_ H d->Qz d r b (wl b).length->Q (.ref r) d
def f9:Z9 ["words", "choices", "want"] ["words"] (aJ kL):=by fail "sc"
def yP(F:ZT K "choices_of" "choices_of" kL f fd)(G:Gs K mg w Zs Zz Zt Zx Z0 Zu Zy Zv Zw)(c4:ZR P w K mg base 1 "wants_of" ["words"] tJ)(c6:ZR P w K mg base 1 "choices_at" ["word", "place"] oI):Z8 P w K mg base ZS 2 f fd ["words"] oB:=by
 refine F.ok f9 (λvs H Q E h=>?_) (λb4 A a3 s H vs Q E C h=>?_)
 .obtain⟨a,c,rfl,_⟩:=h;rfl
 obtain⟨a,c,rfl,ha,h8,h7,q⟩:=h;refine⟨_,(@aE _ _ _ _ _ (@SD _ _ 1 _ _ _ _ f9.nd (by rfl) (by exact(Or.inl rfl)) Rm (by rfl) (by fail "o")) (@aE _ _ _ _ _ (cV Bs rfl (bT (aT c4 C (by decide) rfl (aA (mv 0) aB))) (aZ (i:=2) f9.nd rfl (Or.inl rfl)) (@aI _ _ _ (iU (Z2.u1 C) (mv 1) (mv 2) (aT c6 C (by decide) rfl (aA (bI bZ (mv 0) (bI bZ (mv 2) aK (λ_ _=>rfl)) (λ_ _=>rfl)) (aA (bI bZ (mv 2) aK (λ_ _=>rfl)) aB))) rfl))) (@aI _ _ _ (aU (mv 1))))),?_⟩
 fail "g";intro y n;fail "g";refine⟨a,c,rfl,aM (aG n _) ha,h8,h7,λr I H1 C s1 e1 tp=>?_⟩;have a2:=(aG n (.dT [])).trans s1
 have S:=s1 _ _ (aD (H:=H) (a:=y) (o:=.dT []))
 have b3:(wl c).length<=56:=Bh (OH h7 _) (by omega)
 rw[xD]at tp;have N:I.length=(wl c).length:=by rw[tp.1,Ab];rfl
 have a4:(I.map V.ref).length=(wl c).length:=by rw[Ab,N]
 have a1:∀j p w,I[j]?=some p->(wl c)[j]?=some w->H1 p=some (.tup (wV w)):=λj p w hp hw=>(tp.2 j p _ hp (by rw[Ag];exact Dp (Option.map wV) hw)).2
 have r1:=aO e1
 have a9:y≠r:=λz=>by rw[<-z,aD]at C;cases C
 fail "g";refine fX (xs:=I.map V.ref) (λi U H'=>∃v,U=[some (.ref a),some (.ref y),v]/\Z_ H H'/\(∀b u,b≠y->H1 b=some u->H' b=some u)/\Qz H' y c i)
  ⟨_,rfl,a2,λb u _ h=>h,[],rfl,S,λj w d Y=>absurd Y (Gf _)⟩ (λi U H' _ ⟨_,_,_,k,_⟩=>aO (k _ _ (Ne.symm a9) e1)) ?_ ?_
 .rintro i x U H2 J ⟨v,rfl,W,k2,ds,dl,ed,a7⟩;rw[Ag]at J;cases e:I[i]? with
  |none=>rw[e]at J;cases J
  |some p=>
   rw[e]at J;cases J;have hi:i<(wl c).length:=by rw[<-N];exact(Ad.mp e).1
   have Z:=Aa hi
   have hm:=Yo.mp (Bx hi)
   have l:=a1 i p _ e Z
   have M:p≠y:=λz=>by rw[z,S]at l;cases l
   have X:=k2 _ _ M l
   have B:(wl c)[i]∉(wl c).take i:=λz=>by
    obtain⟨j,Y,ej⟩:=Bv.mp z;rw[Bt]at Y;rw[List.getElem_take]at ej;have:=(Gy (sF c c.length)).mp ej
    ((try clear M a9 b3 dl h8 hm);omega)
   have L:(wl c).take (i+1)=(wl c).take i++[(wl c)[i]]:=by rw[Bd,Z];rfl
   generalize hw:(wl c)[i]=w at hm X B L Z;obtain⟨h1,h2,h3⟩:=hm;have R:c[w.1]?=some (c.getD w.1 []):=by rw[Ac,Aa h1];rfl
   have b2:=h7 _ (Ao R)
   have b1:=aM W ha
   fail "g";refine cH X (v:=.int (w.1:Int)) rfl ?_;fail "g";refine dG b1 (v:=.str (aV (c.getD w.1 []))) (aY (by rw[Ag,Ag,R];rfl)) ?_
   fail "g";refine cH X (v:=.int (w.2:Int)) rfl ?_;fail "g";refine⟨c.getD w.1 [],w.2-1,_,rfl,by ((try clear M N a4 a9 b2 b3 dl h1 h3 h8 hi);omega),by ((try clear M N a4 a9 b2 b3 dl h1 h8 hi);omega),b2,λd H3 hd D e3=>?_⟩
   fail "g";have T:ds.length=((wl c).take i).length:=by rw[dl,Bt];((try clear M a9 b2 b3 dl h1 h2 h3 h8);omega)
   refine TM (k:=dN w) (D _ _ ed) (D _ _ X) (bF (by rw[N9 T,Bt];((try clear M a9 b2 h1 h2 h3 h8);omega))) ?_
   have a8:d≠y:=λz=>by rw[z,ed]at hd;cases hd
   refine⟨_,rfl,bL n (W.trans D),λb u hb hu=>by rw[aH hb];exact D _ _ (k2 b u hb hu),ds++[d],by rw[Af,dl];rfl,?_,λj v' d' Y hv t=>?_⟩
   .rw[aD,lE _ (Ke B),L,LN T]
   .by_cases a5:j<i
    .rw[Am (by ((try clear M N Y a4 a8 a9 b2 b3 h1 h2 h3 h8 hi);omega))]at t
     have m:=a7 j v' d' a5 hv t
     rw[aH (λz=>by rw[z,ed]at m;cases m)]
     exact D _ _ m
    .have a6:j=i:=by ((try clear M N a4 a8 a9 b2 b3 h1 h2 h3 h8 hi);omega)
     subst a6;rw[Z]at hv;cases hv;rw[Aq (by (exact Nat.le_of_eq (by assumption))),dl,Eh]at t
     cases t;rwa[aH a8]
 .rintro U H2 ⟨v,rfl,W,k2,O⟩;rw[a4]at O;exact q y H2 n W O
noncomputable def VR(w:Wt)(A:List (Nat×Wt))(f:Nat):List (Nat×Wt):=if f∈A.map (·.1) then A else A++[(f,w)]
noncomputable def eK(ch:Wt->List Nat)(m:List (Wt×Nat))(first:Wt):Nat->List (Nat×Wt)
 |0=>[]
 |t+1=>match (cC m first (eK ch m first t))[t]? with
  |some w=>(ch w).foldl (VR w) (eK ch m first t)
  |none=>eK ch m first t
def uQ{m:List _}{first:Wt}{t:Nat}(h:(cC m first (eK ch m first t)).length<=t):∀k,eK ch m first (t+k)=eK ch m first t
 |0=>rfl
 |k+1=>by
  have a:=uQ h k
  show (match _[t+k]? with
   |some w=>(ch w).foldl _ _
   |none=>eK ch m first _)=_
  grind
noncomputable def xH(ch:Wt->List Nat)(m:List (Wt×Nat))(first:Wt):List (Nat×Wt):=eK ch m first 57
def II{m:List _}{first:Wt}{t:Nat}(h:(cC m first (eK ch m first t)).length<=t)(a:t<=57):eK ch m first t=xH ch m first:=by
 unfold xH;have e:57=t+(57-t):=by ((try clear h);omega)
 rw[e,uQ h _]
inductive ZL (A:List (Nat×Wt)):Nat->List (Wt×Nat)->List (Wt×Nat)->Prop
 |stop {c j:Nat} {w:Wt} {m:List (Wt×Nat)}:A[j]?=some (c,w)->dP m w=none->ZL A c m (WA m w c)
 |step {c j g:Nat} {w:Wt} {m m':List (Wt×Nat)}:A[j]?=some (c,w)->dP m w=some g->ZL A g (WA m w c) m'->ZL A c m m'
def TZ{A:List _}(d:(A.map (·.1)).Nodup){c:Nat}{u v:Wt}(b:A[i]?=some (c,u))(a:A[j]?=some (c,v)):u=v:=by
 have e:=N7 d b a
 grind
def ZL.one(e:(A.map (·.1)).Nodup){c:Nat}{m j:List _}(h:ZL A c m j):∀ {f},ZL A c m f->j=f:=by
 induction h with
 |stop d g=>
  intro f i;cases i with
  |stop b a=>rw[TZ e d b]
  |step b a _=>rw[TZ e b d,g]at a;cases a
 |step d g _ k=>
  intro f i;cases i with
  |stop b a=>rw[TZ e b d,g]at a;cases a
  |step b a r=>
   obtain rfl:=TZ e d b;grind
noncomputable def Vw(n:Nat->Int)(m:List (Wt×Nat))(A:List (Nat×Wt)):List Nat:=(A.map (·.1)).filter λc=>decide (0<n c-(YJ m c:Int))
inductive ZI (cws:List (List Nat)) (n:Nat->Int):Nat->List (Wt×Nat)->Prop
 |zero:ZI cws n 0 []
 |succ {i c:Nat} {m m':List (Wt×Nat)} {w:Wt}:ZI cws n i m->(wl cws)[i]?=some w->((xH (ZK cws) m w).map (·.1)).Nodup->(Vw n m (xH (ZK cws) m w)).head?=some c->ZL (xH (ZK cws) m w) c m m'->ZI cws n (i+1) m'
def ZI.one(h:ZI cws n i m):∀ {c},ZI cws n i c->m=c:=by
 induction h with
 |zero=>intro c e;cases e;rfl
 |succ _ k g l o j=>
  intro p e;cases e with
  |succ f a _ b d=>
   obtain rfl:=j f;rw[k]at a;cases a;rw[l]at b;cases b;exact o.one g d
def ZI.down(h:ZI cws n j m):i<j->∃a w c,ZI cws n i a/\(wl cws)[i]?=some w/\(Vw n a (xH (ZK cws) a w)).head?=some c:=by
 induction h with
 |zero=>exact λz=>absurd z (Gf _)
 | @succ k c m l w s d g f p b=>
  intro o;by_cases e:i=k
  .subst e;exact⟨m,w,c,s,d,f⟩
  .exact b (by omega)
def SS(cws:List (List Nat))(n:Nat->Int)(W:List Wt)(F:List Nat):Prop:=∃i m w,ZI cws n i m/\(wl cws)[i]?=some w/\Vw n m (xH (ZK cws) m w)=[]/\W=lB m w (xH (ZK cws) m w) (wl cws)/\F=ZW.cps.toList.filter λc=>decide (c∈(xH (ZK cws) m w).map (·.1))
def AW{l:List Nat}{c:Nat}(h:l=[])(h':l.head?=some c):False:=by grind
def Zf(cws:List (List Nat))(n:Nat->Int)(fs:List Nat):Prop:=∃m,ZI cws n (wl cws).length m/\fs=m.map (·.2)
def Zf.one{a:List Nat}(h:Zf cws n fs)(h':Zf cws n a):fs=a:=by
 obtain⟨m,s,rfl⟩:=h;obtain⟨c,b,rfl⟩:=h';rw[s.one b]
noncomputable def iN(m:List (Wt×Nat)):List (List Key×V):=m.map λx=>(dN x.1,V.str (one x.2))
def mE(m:List _)(w:Wt):cM (iN m) (dN w)=(dP m w).map λf=>V.str (one f):=by
 induction m with
 |nil=>rfl
 |cons x m a=>
  show cM (_::iN m) _=_
  rw[fP];by_cases e:x.1=w
  .rw[if_pos e,cO (by grind)]
   rfl
  .rw[if_neg e,cJ (λz=>e (pO z)),a]
noncomputable def gO(A:List (Nat×Wt))(bs:List Addr):List (Key×V):=List.zipWith (λx b=>(Sum.inr (one x.1),V.ref b)) A bs
def mZ(a:bs.length=A.length)(f:Nat):(cM (gO A bs) (Sum.inr (one f))).isSome=decide (f∈A.map (·.1)):=by
 induction A generalizing bs with
 |nil=>rfl
 |cons x A c=>
  cases bs with
  |nil=>cases a
  |cons b bs=>
   show (cM ((Sum.inr (one x.1),V.ref b)::gO A bs) _).isSome=_
   by_cases e:x.1=f
   .rw[cO (by show (Sum.inr (one x.1):Key)=Sum.inr (one f);rw[e]),An (by rw[<-e];exact Ak)]
    rfl
   .rw[cJ (λz=>e (Y0.mp z)),c (by simpa using a)]
    grind
def Jq(a:bs.length=A.length){f:Nat}(h:f∉A.map (·.1)):cM (gO A bs) (Sum.inr (one f))=none:=by
 have r:=mZ a f
 simp_all
def CQ{x:Nat×Wt}(a:bs.length=A.length):gO (A++[x]) (bs++[b])=gO A bs++[(Sum.inr (one x.1),V.ref b)]:=by
 unfold gO;rw[List.zipWith_append (by omega)]
 rfl
def vP(a:bs.length=A.length):(gO A bs).length=A.length:=by
 unfold gO;grind
def BB(c:(A.map (·.1)).Nodup)(d:bs.length=A.length){f:Nat}{w:Wt}(a:A[j]?=some (f,w))(g:bs[j]?=some b):cM (gO A bs) (Sum.inr (one f))=some (.ref b):=by
 induction A generalizing bs j with
 |nil=>cases a
 |cons x A h=>
  cases bs with
  |nil=>cases d
  |cons e bs=>
   show cM ((Sum.inr (one x.1),V.ref e)::gO A bs) _=_
   rw[Au,Cq]at c;cases j with
   |zero=>cases a;cases g;exact cO rfl
   |succ j=>
    have i:f∈A.map (·.1):=Ba.mpr ⟨(f,w),Ao (show A[j]?=some (f,w) from a),rfl⟩
    rw[cJ (λz=>c.1 (by rw[Y0.mp z];exact i))]
    exact h c.2 (by simpa using d) a g
def ZV(H:Hp)(b:List Addr)(a:List Wt):Prop:=b.length=a.length/\∀(j:Nat) r w,b[j]?=some r->a[j]?=some w->H r=some (.tup (wV w))
def ZV.keep{b:List Addr}{a:List Wt}(h:ZV H b a)(k:∀r w,H r=some (.tup (wV w))->H' r=some (.tup (wV w))):ZV H' b a:=⟨h.1,λj r w d c=>k _ _ (h.2 j r w d c)⟩
def ZV.app{d vs:List Wt}(h:ZV H c d)(g:ZV H e vs):ZV H (c++e) (d++vs):=by
 refine⟨by rw[Af,Af,h.1,g.1],λj r w b a=>?_⟩
 by_cases f:j<c.length
 .rw[Am f]at b;rw[Am (by rwa[<-h.1])]at a
  exact h.2 j r w b a
 .rw[Aq (by omega)]at b
  rw[Aq (by rw[<-h.1];omega),<-h.1]at a
  exact g.2 _ r w b a
def ZV.one{w:Wt}(h:H r=some (.tup (wV w))):ZV H [r] [w]:=⟨rfl,λj q v a b=>by
 cases j with
 |zero=>cases a;cases b;exact h
 |succ j=>cases a⟩
def Xf(H:Hp)(r:Addr)(cws:List (List Nat)):Prop:=∃a,a.length=(wl cws).length/\Rd H r (.dT (eJ (wl cws) a))/\∀(j:Nat) w d,(wl cws)[j]?=some w->a[j]?=some d->H d=some (.lst (((ZK cws w).map one).map V.str))
def Xf.keep(h:Xf H r cws)(s:Z_ H H'):Xf H' r cws:=by
 obtain⟨i,g,f,c⟩:=h;exact⟨i,g,f.elim (λe=>.inl (s _ _ e)) λ⟨o,e⟩=>.inr ⟨o,s _ _ e⟩,λj w d a b=>s _ _ (c j w d a b)⟩
structure YB (cws:List (List Nat)) (m:List (Wt×Nat)):Prop where
 nd:(m.map (·.1)).Nodup
 sub:∀x∈m,x.1∈wl cws
def NJ(h:∀c∈cws,c.length<=7/\∀d∈c,aX d){w:Wt}(b:w∈wl cws){f:Nat}(g:f∈ZK cws w):gX f:=by
 obtain⟨i,l,k⟩:=Yo.mp b;have a:cws[w.1]?=some (cws.getD w.1 []):=by simp_all
 rcases XQ.mp g with e|⟨n,_,j,_,e⟩
 .rw[e];exact .inl (lO (h _ (Ao a)).2 (by ((try clear e i);omega)))
 exact .inr ⟨by ((try clear i k l);omega),by ((try clear i k l);omega)⟩
def NT(b:YB cws m)(a:first∈wl cws)(h:Asking (ZK cws) m first A){f:Nat}{w:Wt}(c:A[j]?=some (f,w)):w∈wl cws:=by
 rcases (h.ok j f w c).2 with e|⟨g,i,v,_,_,d⟩
 .rwa[e]
 .exact b.sub _ (OA d)
def OV(i:YB cws m)(b:first∈wl cws)(n:∀c∈cws,c.length<=7/\∀d∈c,aX d)(h:Asking (ZK cws) m first A):A.length<=27:=by
 have r:=US  h.nd λf l=>by
  obtain⟨x,g,rfl⟩:=Ba.mp l;obtain⟨j,k,e⟩:=Bv.mp g;have a:A[j]?=some (x.1,x.2):=by rw[Aa k,e]
  exact Zd.mpr (NJ n (NT i b h a) (h.ok j _ _ a).1)
 rwa[Ab]at r
def nW:Sp:=λi H Q _=>∃f h g a m first,i=[.ref f,.ref h,.ref g]/\H f=some (.tup (wV first))/\first∈wl a/\Xf H h a/\H g=some (.dT (iN m))/\YB a m/\m.length<=56/\a.length<=8/\(∀c∈a,c.length<=7/\∀d∈c,aX d)/\
 ∀r A e b,H r=none->Z_ H b->b r=some (.dK (gO A e))->ZV b e (A.map (·.2))->Xe (ZK a) m first A->A=xH (ZK a) m first->Q (.ref r) b
def w4:Z9 ["first", "choices", "hung", "asked", "reached", "at", "asking", "flag"] ["first", "choices", "hung"] (aJ gW):=by fail "sc"
def yU(F:ZT K "asked_from" "asked_from" gW f fd):Z8 P w K mg base ZS 1 f fd ["first", "choices", "hung"] nW:=by
 refine F.ok w4 (λvs H Q E h=>?_) (λk9 A f5 s H vs Q E hr h=>?_)
 .obtain⟨bf,ac,ah,a,m,first,rfl,_⟩:=h;rfl
 obtain⟨bf,ac,ah,a,m,first,rfl,h9,e1,h6,j2,hm,f8,h8,hL,q⟩:=h
 refine⟨_,(@aE _ _ _ _ _ (aP 3 w4.nd vS) (@aE _ _ _ _ _ (aP 4 w4.nd (bQ (aA (mv 0) aB))) (@aE _ _ _ _ _ (aP 5 w4.nd aK) (@aE _ _ _ _ _ (xT Bs (bB yI (mv 5) (aW cN rfl G.b_len bP (aA (mv 4) aB)) (bA _)) (@aE _ _ _ _ _ (aP 6 w4.nd (bI bZ (mv 4) (mv 5) (λ_ _=>rfl))) (@aE _ _ _ _ _ (cV Bs rfl (bT (kD (Z2.u1 hr) (mv 1) (mv 6) (λ_ _=>rfl))) (aZ (i:=7) w4.nd rfl (Or.inr rfl)) (@aI _ _ _ (cD (bB (HH (Z2.u1 hr)) (mv 7) (mv 3) (by rfl)) (@aE _ _ _ _ _ (iU (Z2.u1 hr) (mv 3) (mv 7) (mv 6) rfl) (@aI _ _ _ (bU (cI Bj Eo Ep VC (mv 4) (aA (PR (cL rfl (qD (mv 2)) (gF (N:=["want", "flag", "hung"]) ["first", "choices", "hung", "asked", "reached", "at", "asking", "flag"] (aJ gW) [none,some 7,some 2] rfl rfl rfl (λx h=>bX h) (by decide +kernel)) (by decide +kernel) rfl (by decide +kernel) (λ_ _ _ _=>(aZ (i:=0) (show List.Nodup (["want", "flag", "hung"]:List Str) by decide +kernel) rfl (Or.inl rfl))) (λ_ _ _ _=>(jN (bB lC (kD (Z2.u1 hr) (mv 2) (mv 0) (λ_ _=>rfl)) (mv 1) (bA _)))) (λ_ _ _ _=>(mv 0)))) aB))))) bE))) (@aI _ _ _ (aP 5 w4.nd (aQ bO (mv 5) aK)))))) (@aI _ _ _ (aU (mv 3))))))),?_⟩
 fail "g";intro I a4;fail "g";refine⟨z0,λM a3=>?_⟩
 have s1:=(aG a4 (.dK [])).trans (aG a3 (.lst [.ref bf]))
 have b6:I≠M:=λz=>by rw[<-z,aD]at a3;cases a3
 have e9:(upd (upd H I (.dK [])) M (.lst [.ref bf])) I=some (.dK []):=by rw[aH b6,aD]
 have e6:(upd (upd H I (.dK [])) M (.lst [.ref bf])) M=_:=aD
 have d6:=none_of (aG a4 _) a3
 generalize upd (upd H I (.dK [])) M (.lst [.ref bf])=H1 at s1 e9 e6 ⊢;fail "g";refine ⟨λn U d=>∃ (A:List (Nat×Wt)) (y l:List Addr) (t:Nat) (v1 v2:Option V),U=[some (.ref bf),some (.ref ac),some (.ref ah),some (.ref I),some (.ref M),some (.int (t:Int)),v1,v2]/\Z_ H d/\d I=some (.dK (gO A y))/\ZV d y (A.map (·.2))/\d M=some (.lst (l.map V.ref))/\ZV d l (cC m first A)/\
     Asking (ZK a) m first A/\t<=(cC m first A).length/\(∀j w,j<t->(cC m first A)[j]?=some w->∀f∈ZK a w,f∈A.map (·.1))/\A=eK (ZK a) m first t/\n=1+m.length-t,⟨_,[],[],[bf],0,_,_,rfl,s1,e9,⟨rfl,λj r w hr=>(nomatch hr)⟩,e6,.one (s1 _ _ h9),⟨List.nodup_nil,λj f w hj=>(nomatch hj)⟩,Da _,λj w hj=>absurd hj (Gf _),rfl,rfl⟩,?_⟩
 rintro n U H2 ⟨A,y,l,t,v1,v2,rfl,s2,a8,a1,a7,R,c,d4,C,S,rfl⟩;have b8:(l.map V.ref).length=(cC m first A).length:=by rw[Ab,R.1]
 have b5:=aO a7
 fail "g";rw[b8];refine dW (λZ=>?_) (λZ=>?_)
 .have e3:=Az Z
  have ht:t<(cC m first A).length:=by ((try clear b6 d4 f8 h8);omega)
  have d5:=qZ (m:=m) (first:=first) c.nd
  have f7:t<l.length:=by rw[R.1];exact ht
  have O:=Aa ht
  have Y:l[t]?=some l[t]:=Aa f7
  have a2:=R.2 t _ _ Y O
  have c9:(cC m first A)[t]∈wl a:=by
   rcases Zc.mp (Bx ht) with e|⟨f,_,f9⟩
   .rw[e];exact e1
   .exact hm.sub _ f9
  generalize h7:l[t]=b at a2 Y;generalize f6:(cC m first A)[t]=w at a2 c9 O
  clear h7 f6 Z e3;obtain⟨ds,d1,d2,d3⟩:=id h6;obtain⟨jw,h2,j5⟩:=Bv.mp c9;have b1:(wl a)[jw]?=some w:=by rw[Aa h2,j5]
  have e7:ds[jw]?=some (ds[jw]'(by ((try clear b6 b8 d4 d5 f7 f8 h8 ht);omega))):=Aa (by ((try clear b6 b8 d4 d5 f7 f8 h8 ht);omega))
  have W:=d3 jw w _ b1 e7
  have e2:=Ku (sF a a.length) d1 b1 e7
  generalize (ds[jw]'(by ((try clear b6 b8 d4 d5 f7 f8 h8 ht);omega)))=dl at W e2
  have h5:=s2 _ _ W
  have j6:Rd H2 ac (.dT (eJ (wl a) ds)):=d2.elim (λe=>.inl (s2 _ _ e)) λ⟨o,e⟩=>.inr ⟨o,s2 _ _ e⟩
  refine⟨λU' d=>∃(A:List (Nat×Wt)) (y l:List Addr) (v1 v2:Option V),U'=[some (.ref bf),some (.ref ac),some (.ref ah),some (.ref I),some (.ref M),some (.int ((t+1:Nat):Int)),v1,v2]/\Z_ H d/\d I=some (.dK (gO A y))/\ZV d y (A.map (·.2))/\d M=some (.lst (l.map V.ref))/\ZV d l (cC m first A)/\
   Asking (ZK a) m first A/\t+1<=(cC m first A).length/\(∀j w,j<t+1->(cC m first A)[j]?=some w->∀f∈ZK a w,f∈A.map (·.1))/\A=eK (ZK a) m first (t+1),?_,?_⟩
  .rintro U' d ⟨A',j7,f4,f3,f2,rfl,g1,g2,g3,g4,g5,g6,g7,g8,g9⟩;exact⟨1+m.length-(t+1),by ((try clear b6 d1 d4 f7 f8 g7 h2 h8);omega),A',j7,f4,t+1,f3,f2,rfl,g1,g2,g3,g4,g5,g6,g7,g8,g9,rfl⟩
  have d7:eK (ZK a) m first (t+1)=(ZK a w).foldl (VR w) (eK (ZK a) m first t):=by
   show (match (cC m first (eK (ZK a) m first t))[t]? with|some w=>(ZK a w).foldl (VR w) (eK (ZK a) m first t)|none=>eK (ZK a) m first t)=_
   rw[<-S,O]
  fail "g";refine dG b5 (v:=.ref b) (aY (by rw[Ag,Y];rfl)) ?_
  fail "g";refine TF (k:=dN w) j6 a2 e2 ?_;have k1:=aO h5
  have j9:=(LX (a.getD w.1 []) (w.2-1)).2
  have e4:(((ZK a w).map one).map V.str).length=(ZK a w).length:=by rw[Ab,Ab]
  fail "g";have kt:∀ {d:Hp} {p:Addr} {u u':HO},d p=some u->(∀ws,u≠.tup ws)->∀r w,d r=some (.tup (wV w))->(upd d p u') r=some (.tup (wV w)):=fun {d p u u'} e ne r w h=>by
   rw[aH (λz=>by rw[z,e]at h;cases h;exact ne _ rfl)]
   exact h
  refine fX (xs:=((ZK a w).map one).map V.str) (λi U d=>∃ A y l v2,U=[some (.ref bf),some (.ref ac),some (.ref ah),some (.ref I),some (.ref M),some (.int (t:Int)),some (.ref b),v2]/\Z_ H d/\d I=some (.dK (gO A y))/\ZV d y (A.map (·.2))/\d M=some (.lst (l.map V.ref))/\ZV d l (cC m first A)/\
      d b=some (.tup (wV w))/\Asking (ZK a) m first A/\(cC m first A)[t]?=some w/\(∀j v,j<t->(cC m first A)[j]?=some v->∀f∈ZK a v,f∈A.map (·.1))/\(∀f∈(ZK a w).take i,f∈A.map (·.1))/\A=((ZK a w).take i).foldl (VR w) (eK (ZK a) m first t))
   ⟨A,y,l,_,rfl,s2,a8,a1,a7,R,a2,c,O,C,(λf hf=>(nomatch hf)),S⟩ (λi U d _ ⟨_,_,_,_,_,e,_⟩=>aO (e _ _ W)) ?_ ?_
  .clear c O C d5 d4 b8 b5 R a7 a1 a8 Y S;rintro i x U H3 hx ⟨A,y,l,v2,rfl,s3,ea,wb,Y,wr,hb,c,O,C,J,a5⟩;rw[Ag,Ag]at hx;cases ef:(ZK a w)[i]? with
   |none=>rw[ef]at hx;cases hx
   |some f=>
    rw[ef]at hx;cases hx;have h4:=Ao ef
    have b7:(ZK a w).take (i+1)=(ZK a w).take i++[f]:=by rw[Bd,ef];rfl
    have a6:y.length=A.length:=by rw[wb.1,Ab]
    have k8:=OV hm e1 hL c
    have a9:((ZK a w).take (i+1)).foldl (VR w) (eK (ZK a) m first t)=VR w A f:=by rw[b7,List.foldl_append,<-a5];rfl
    fail "g";refine Qs (neg:=true) (z:=one f) (.inl ea) ?_;rw[if_pos rfl,mZ a6];refine dW (λZ=>?_) (λZ=>?_)
    .have b9:f∉A.map (·.1):=λz=>by rw[An z]at Z;cases Z
     fail "g";refine nP (z:=one f) ea (bF (by rw[vP a6];(exact Nat.le_trans (by assumption) (by decide)))) ?_
     rw[lE _ (Jq a6 b9),<-CQ (x:=(f,w)) a6];have s4:Z_ H (upd H3 I (.dK (gO (A++[(f,w)]) (y++[b])))):=bL a4 s3
     have e8:(upd H3 I (.dK (gO (A++[(f,w)]) (y++[b])))) I=_:=aD
     have c7:(upd H3 I (.dK (gO (A++[(f,w)]) (y++[b])))) M=_:=(aH (Ne.symm b6)).trans Y
     have k4:=kt (u':=.dK (gO (A++[(f,w)]) (y++[b]))) ea (λws z=>nomatch z)
     have c8:=wb.keep k4
     have b3:=wr.keep k4
     have c4:=k4 _ _ hb
     generalize upd H3 I (.dK (gO (A++[(f,w)]) (y++[b])))=H4 at s4 e8 c7 c8 b3 c4 ⊢;have f1:=s4 _ _ j2
     clear k4 wb wr Y ea s3 hb;fail "g";refine Tu f1 λo=>?_;have fz:(upd H4 ah (.frz o (.dT (iN m)))) ah=_:=aD
     have h1:(iN m).length=m.length:=by unfold iN;rw[Ab]
     refine jM (n:=m.length) (λD i ys Hc=>Z_ (upd H4 ah (.frz o (.dT (iN m)))) Hc/\∃T,ys=T.map V.ref/\ZV Hc T (eW (m.take i) f)) (bF (by (exact Nat.le_trans (by assumption) (by decide)))) (λD hD=>⟨aG hD _,[],rfl,rfl,λj r w hr=>(nomatch hr)⟩) (λD i ys Hc _ r h=>⟨r.1 _ _ fz,by ((try clear a6 b6 d1 e4 f7 f8 h2 h8 ht j9 k8);omega)⟩) (λD ys Hc _ r=>⟨r.1 _ _ fz,h1⟩) ?_ ?_
     .rintro D L ys Hc x d A' B' hD d9 ⟨sm,T,rfl,wq⟩ X ⟨rfl,kv,b2,c1,rfl,j1⟩ c6 c5;have em:m[L]?=some m[L]:=Aa d9
      unfold iN at c1;rw[Ag,em]at c1;cases c1;have c3:d b2=some (.tup (wV m[L].1)):=j1
      have hv:cM (iN m) (dN m[L].1)=some (.str (one m[L].2)):=by
       rw[mE,pN hm.nd (w:=m[L].1) (f:=m[L].2) (Bx d9)];rfl
      have tk:m.take (L+1)=m.take L++[m[L]]:=by rw[Bd,em];rfl
      rw[tk]at c6 c5;generalize m[L]=x2 at c3 hv c6 c5;fail "g";refine⟨Wk.set rfl (Wk.refl _),?_⟩;fail "g";refine TF (k:=dN x2.1) (.inr ⟨o,sm _ _ fz⟩) c3 hv ?_;fail "g";rw[show decide (one x2.2=one f)=decide (x2.2=f) from PH _ _];refine dW (λhe=>?_) (λhe=>?_)
      .have c2:=Az he
       fail "g";refine c6 _ _ X ⟨bL hD sm,T++[b2],by rw[Ap];rfl,?_⟩
       rw[show eW (m.take L++[x2]) f=eW (m.take L) f++[x2.1] by unfold eW;rw[List.filter_append,List.map_append];simp[c2]]
       exact(wq.app (.one c3)).keep (kt X (λws z=>nomatch z))
      .have c2:=Bp (Bq.mpr he)
       fail "g";refine c5 _ X ⟨sm,T,rfl,?_⟩;rw[show eW (m.take L++[x2]) f=eW (m.take L) f by unfold eW;rw[List.filter_append,List.map_append];simp[c2]]
       exact wq
     .rintro D ys Hc hD ⟨sm,T,rfl,wq⟩ X _;rw [Cg] at wq;have j4:H4 D=none:=by
       by_cases z:D=ah
       .rw[z,aD]at hD;cases hD
       .rw[aH z]at hD;exact hD
      have su:=xR f1 (λo v z=>nomatch z) sm
      have eu:=eY (Hs:=H4) X (λo v z=>nomatch z)
      have b4:ZV (Za H4 Hc) T (eW m f):=wq.keep λr w h=>eY h (λo v z=>nomatch z)
      generalize Za H4 Hc=Hu at su eu b4;have e5:=su _ _ c7
      have k6:=bM e5
      have k7:=bM eu
      have k2:M≠D:=bH c7 j4
      have k5:T.length<=56:=by rw[b4.1,RY];unfold YJ;exact Bh List.countP_le_length f8
      have k3:l.length<=57:=by rw[b3.1];exact Bh (qZ c.nd) (by ((try clear a6 b6 d1 e4 f7 h2 h8 ht j9 k2 k5 k8);omega))
      have j8:(l.map V.ref).length+(T.map V.ref).length<=sizeLine:=bK (by rw[Ab,Ab];((try clear a6 b6 d1 e4 f7 f8 h1 h2 h8 ht j9 k2 k8);omega))
      fail "g";have kr:=kt (u':=.lst (l.map V.ref++T.map V.ref)) e5 (λws z=>nomatch z)
      have j3:=(Ad.mp O).1
      refine⟨A++[(f,w)],y++[b],l++T,_,rfl,bL d6 (s4.trans su),?_,?_,?_,?_,?_,c.snoc hm.nd b9 h4 (Ao O),?_,λj v hj hv=>?_,λg hg=>?_,by rw[a9];exact(if_neg b9).symm⟩
      .rw[aH b6];exact su _ _ e8
      .rw[Ap];exact((c8.keep λr w h=>su _ _ h).app (.one (su _ _ c4))).keep kr
      .rw[aD,Ap]
      .rw[oY];exact((b3.keep λr w h=>su _ _ h).app b4).keep kr
      .exact kr _ _ (su _ _ c4)
      .rw[oY,Am j3];exact O
      .rw[oY,Am (by ((try clear a6 b6 d1 e4 f7 f8 h1 h2 h8 ht j8 j9 k2 k3 k5 k8);omega))]at hv
       intro g hg;rw[Ap];exact De _ (C j v hj hv g hg)
      .rw[b7]at hg;rw[Ap];rcases Bi.mp hg with z|z
       .exact De _ (J g z)
       .rw[Aj.mp z];exact Bm _ (Aj.mpr rfl)
    .have d8:f∈A.map (·.1):=by
      rw[Bool.not_eq_true,Bool.not_eq_false']at Z;exact Az Z
     fail "g";refine⟨A,y,l,_,rfl,s3,ea,wb,Y,wr,hb,c,O,C,λg hg=>?_,by rw[a9];exact(if_pos d8).symm⟩
     rw[b7]at hg;rcases Bi.mp hg with z|z
     .exact J g z
     .rw[Aj.mp z];exact d8
  .clear c O C d5 d4 b8 b5 R a7 a1 a8 Y S;rintro U H3 ⟨A,y,l,v2,rfl,s3,ea,wb,Y,wr,hb,c,O,C,J,a5⟩;rw[e4,Cg]at J;rw[e4,Cg]at a5;fail "g";refine⟨A,y,l,_,_,rfl,s3,ea,wb,Y,wr,c,(Ad.mp O).1,λj v hj hv=>?_,by rw[d7];exact a5⟩
   by_cases h3:j<t
   .exact C j v h3 hv
   .have:j=t:=by ((try clear b6 d1 e4 f7 f8 h2 h8 ht j9);omega)
    subst this;rw[O]at hv;cases hv;exact J
 .have e3:=Bp (Bq.mpr Z)
  fail "g";refine q I A y H2 a4 s2 a8 a1 (c.done λw hw f hf=>?_) (by rw[S];exact II (by rw[<-S];((try clear b6 f8 h8);omega)) (by have:=qZ (m:=m) (first:=first) c.nd;((try clear b6 h8);omega)))
  obtain⟨j,hj,ej⟩:=Bv.mp hw;exact C j w (by ((try clear b6 f8 h8);omega)) (by rw[Aa hj,ej]) f hf
def Oz{w:Wt}{f:Nat}:eM (iN m) (dN w) (.str (one f))=iN (WA m w f):=by
 have e:((iN m).any λkv=>decide (kv.1=dN w))=(dP m w).isSome:=by
  rw[fM,mE];grind
 unfold eM WA;rw[e];by_cases h:(dP m w).isSome=true
 .rw[if_pos h,if_pos h];unfold iN;rw[Ce,Ce];refine Dy λx _=>?_;show (if dN x.1=dN w then (dN x.1,V.str (one f)) else (dN x.1,V.str (one x.2)))=(λx=>(dN x.1,V.str (one x.2))) (if x.1=w then (x.1,f) else x)
  by_cases ex:x.1=w
  .rw[if_pos ex,if_pos (by rw[ex])]
  .rw[if_neg ex,if_neg (λz=>ex (pO z))]
 .rw[if_neg h,if_neg h];unfold iN;rw[Ap];rfl
inductive nY(j:List V)(H:Hp)(Q:VK)(zz3:XK):Prop|mk(i e a m first A h d)(_:j=[.str (one d),.ref i,.ref e])(_:H i=some (.dK (gO A h)))(_:ZV H h (A.map (·.2)))(_:Asking (ZK a) m first A)(_:H e=some (.dT (iN m)))(_:(m.map (·.1)).Nodup)(_:first∉m.map (·.1))(_:(∀v f,(v,f)∈m->f∈ZK a v))(_:d∈A.map (·.1))(_:m.length<=56)(_:∀c g,(∀b u,b≠e->H b=some u->g b=some u)->g e=some (.dT (iN c))->c.map (·.1)=m.map (·.1)++[first]->(∀v f,(v,f)∈c->f∈ZK a v)->(∀f,YJ c f=YJ m f+(if f=d then 1 else 0))->ZL A d m c->Q .non g):nY j H Q zz3
def m9:Z9 ["flag", "asked", "hung", "want", "given"] ["flag", "asked", "hung"] (aJ kA):=by fail "sc"
def yS(F:ZT K "hang_along" "hang_along" kA f fd)(G:Gs K mg w Zs Zz Zt Zx Z0 Zu Zy Zv Zw):Z8 P w K mg base ZS 1 f fd ["flag", "asked", "hung"] nY:=by
 refine F.ok m9 (λvs H Q E h=>?_) (λb6 A a1 s H vs Q E hr h=>?_)
 .obtain⟨aa,l,L,m,first,A,bs,B,rfl,_⟩:=h;rfl
 obtain⟨aa,l,L,m,first,A,bs,B,rfl,J,R,d,I,nd,a4,a5,a8,b3,q⟩:=h
 refine⟨_,(@aI _ _ _ (xT Bs (bB TR (mv 0) dF (bA _)) (@aE _ _ _ _ _ (aP 3 m9.nd (kD (Z2.u1 hr) (mv 1) (mv 0) (λ_ _=>rfl))) (@aE _ _ _ _ _ (aP 4 m9.nd (hU Ci Ea (Qf (Z2.u1 hr)) (mv 2) (aA (mv 3) aB))) (@aE _ _ _ _ _ (iU (Z2.u1 hr) (mv 2) (mv 3) (mv 0) rfl) (@aI _ _ _ (aP 0 m9.nd (mv 4)))))))),?_⟩;have b1:bs.length=A.length:=by rw[R.1,Ab]
 have a2:aa≠l:=λz=>by rw[z,I]at J;cases J
 obtain⟨x0,a3,e0⟩:=Ba.mp a8;obtain⟨j0,a6,b2⟩:=Bv.mp a3;have ej:A[j0]?=some (B,x0.2):=by rw[Aa a6,b2,<-e0]
 fail "g";refine ⟨λn U H'=>(∃ e c j w O N,U=[some (.str (one c)),some (.ref aa),some (.ref l),O,N]/\(∀ b u,b≠l->H b=some u->H' b=some u)/\H' l=some (.dT (iN e))/\Yx (ZK L) m A B e c j w/\(∀ a,ZL A c e a->ZL A B m a)/\n=j+1)\/
     (∃a O N,U=[some .non,some (.ref aa),some (.ref l),O,N]/\(∀b u,b≠l->H b=some u->H' b=some u)/\H' l=some (.dT (iN a))/\a.map (·.1)=m.map (·.1)++[first]/\(∀v f,(v,f)∈a->f∈ZK L v)/\(∀f,YJ a f=YJ m f+(if f=B then 1 else 0))/\ZL A B m a/\n=0),
  ⟨_,.inl ⟨m,B,j0,x0.2,none,none,rfl,λb u _ h=>h,I,⟨rfl,a5,λf=>rfl,ej,λv g i u hg _ _=>hg⟩,λ_ h=>h,rfl⟩⟩,?_⟩
 rintro n U H2 (⟨e,c,j,w,O,N,rfl,Y,M,y,hR,rfl⟩|⟨a,O,N,rfl,Y,M,hk,hc,a9,hR,rfl⟩)
 .fail "g";rw[show (!decide (V.str (one c)=V.non))=true from rfl];fail "g";have b4:=(Ad.mp y.at_).1
  have Z:bs[j]?=some (bs[j]'(by ((try clear a2 a6 b3 e0);omega))):=Aa (by ((try clear a2 a6 b3 e0);omega))
  have t:=R.2 j _ w Z (by rw[Ag,y.at_];rfl)
  have T:=BB d.nd b1 y.at_ Z
  generalize (bs[j]'(by ((try clear a2 a6 b3 e0);omega)))=b at t T
  have nb:b≠l:=λz=>by rw[z,I]at t;cases t
  have W:=Y _ _ a2 J
  have D:=Y _ _ nb t
  have S:(iN e).length<sizeLine:=by
   have:e.length=m.length:=by rw[<-Ab (f:=(·.1)) (as:=e),y.keys,Ab]
   unfold iN;rw[Ab];exact bF (by ((try clear a2 a6 b1 b4 e0 nb);omega))
  have b5:XE H2 l=true:=by unfold XE;rw[M]
  refine⟨_,λU' H' h=>h,?_⟩;fail "g";refine UD (z:=one c) (.inl W) T ?_;fail "g";refine Pc (k:=dN w) (.inl M) D ?_;rw[mE];have X:∀o,∀b u,b≠l->H b=some u->(upd H2 l o) b=some u:=λo b u hb hu=>by rw[aH hb];exact Y b u hb hu
  rcases (d.ok j c w y.at_).2 with rfl|⟨g,i,v,a7,hi,hg⟩
  .obtain⟨C,l2,l3,l4⟩:=y.last d a4;rw[C];fail "g";refine TM (k:=dN w) M D S ?_;have r:=hR _ (.stop y.at_ C)
   have p:WA e w c=e++[(w,c)]:=by unfold WA;rw[C];rfl
   rw[Oz,p];rw[p]at r;fail "g";exact⟨0,by ((try clear S a2 a6 b1 b3 b4 e0 nb);omega),.inr ⟨e++[(w,c)],_,_,rfl,X _,aD,l2,l3,l4,r,rfl⟩⟩
  .obtain⟨C,l2⟩:=y.step d nd hg hi a7;rw[C];refine TM (k:=dN w) M D S ?_;have r:∀a,ZL A g (WA e w c) a->ZL A B m a:=λa h=>hR _ (.step y.at_ C h)
   have p:WA e w c=e.map λx=>if x.1=w then (x.1,c) else x:=by unfold WA;rw[C];rfl
   rw[Oz,p];rw[p]at r;exact⟨i+1,by ((try clear S a2 a6 b1 b3 b4 e0 nb);omega),.inl ⟨_,g,i,v,_,_,rfl,X _,aD,l2,r,rfl⟩⟩
 exact q a H2 Y M hk hc a9 hR
def kQ(i:Addr):Sp:=λj H Q _=>∃a p q h g,j=[.ref a,.ref p,.ref q]/\H a=some (fA a i none)/\Z4 H p=some h/\Z4 H q=some g/\
 ∀d f e c,(∀b u,b≠a->H b=some u->c b=some u)->H d=none->d≠a->c a=some (fA a i (some d))->c d=some (YO d [("flags",.ref e),("wants",.ref f)])->c f=some (.lst h)->c e=some (.lst g)->H f=none->H e=none->Q .non c
def KH:Z9 ["self", "wants", "flags"] ["self", "wants", "flags"] (aJ mL):=by fail "sc"
def GO(F:ZT K "__init__" "Lack.__init__" mL f fd):Z8 P w K mg base ZS 1 f fd ["self", "wants", "flags"] (kQ Zs):=by
 refine F.ok KH (λvs H Q E h=>?_) (λa8 A V s H vs Q E hr h=>?_)
 .obtain⟨c,p,q,n,m,rfl,_⟩:=h;rfl
 obtain⟨c,p,q,n,m,rfl,he,hp,C,qq⟩:=h;refine⟨_,(@aE _ _ _ _ _ (bU (xJ rfl G.c_TowerError G.t1_TowerError G.t2_TowerError G.t3_TowerError (aA (mv 0) (aA (cA jB rfl G.b_list dX (aA (mv 1) aB)) (aA (cA jB rfl G.b_list dX (aA (mv 2) aB)) aB))))) (@aE _ _ _ _ _ (uC (mv 0) (cA jB rfl G.b_list dX (aA (mv 1) aB)) rfl) (@aI _ _ _ (uC (mv 0) (cA jB rfl G.b_list dX (aA (mv 2) aB)) rfl)))),?_⟩;fail "g";intro l1 a3;have U:=aG a3 (.lst n)
 generalize upd H l1 (.lst n)=H1 at U ⊢;have a6:=aM U C
 fail "g";intro l2 a2;have L:=U.trans (aG a2 (.lst m))
 generalize upd H1 l2 (.lst m)=H2 at L ⊢;have a4:=L _ _ he
 fail "g";refine⟨c,[.ref l1,.ref l2],Zs,Zz,none,rfl,r0,a4,(λ_ z=>nomatch z),G.Ym,?_⟩
 have a7:=aM L hp
 fail "g";intro j N;have B:=L.trans (aG N (.lst n))
 have D:(upd H2 j (.lst n)) j=_:=aD
 generalize upd H2 j (.lst n)=I at B D ⊢;have r:=B _ _ he
 fail "g";refine⟨c,Zs,Zz,rfl,G.Ym,G.xn_Lack_wants,.inl ⟨r,λa i=>?_⟩⟩;have o:a≠c:=λz=>by rw[z,r]at i;cases i
 have t:∀b u,b≠c->H b=some u->(upd (upd I c (fA c Zs (some a))) a (YO a [("wants",.ref j)])) b=some u:=λb u hb T=>by
  have e:=B _ _ T
  rwa[aH (λz=>by rw[z,i]at e;cases e),aH hb]
 have x:(upd (upd I c (fA c Zs (some a))) a (YO a [("wants",.ref j)])) c=some (fA c Zs (some a)):=by rw[aH o.symm,aD]
 have y:(upd (upd I c (fA c Zs (some a))) a (YO a [("wants",.ref j)])) a=_:=aD
 have Y:j≠c:=λz=>by rw[z,r]at D;cases D
 have M:j≠a:=λz=>by rw[z,i]at D;cases D
 have R:(upd (upd I c (fA c Zs (some a))) a (YO a [("wants",.ref j)])) j=some (.lst n):=by rwa[aH M,aH Y]
 have Z:q≠c:=λz=>by rw[z]at C;unfold Z4 at C;rw[he]at C;cases C
 have a1:Z4 (upd (upd I c (fA c Zs (some a))) a (YO a [("wants",.ref j)])) q=some m:=by
  have k:=aM B C
  rwa[Ta (λz=>by rw[z]at k;unfold Z4 at k;rw[i]at k;cases k),Ta Z]
 generalize upd (upd I c (fA c Zs (some a))) a (YO a [("wants",.ref j)])=H4 at t x y R a1 ⊢;fail "g";intro l d;have J:=aG d (.lst m)
 have e5:(upd H4 l (.lst m)) l=_:=aD
 have v:=J _ _ x
 have S:=J _ _ y
 have O:=J _ _ R
 have X:l≠a:=λz=>by rw[z,y]at d;cases d
 have W:l≠c:=λz=>by rw[z,x]at d;cases d
 have a5:H l=none:=by
  cases e:H l with
  |none=>rfl
  |some u=>rw[t _ _ W e]at d;cases d
 generalize upd H4 l (.lst m)=H5 at J e5 v S O ⊢;fail "g";refine⟨c,Zs,Zz,rfl,G.Ym,G.xn_Lack_flags,.inr ⟨a,_,v,S,(by show 1<100;decide),?_⟩⟩
 refine qq a j l _ (λb u hb T=>?_) (none_of B i) o (by rwa[aH o.symm]) aD (by rwa[aH M]) (by rwa[aH X]) (none_of L N) a5
 have e:=J _ _ (t b u hb T)
 rwa[aH (λz=>by have q9:=B _ _ T;rw[z,i]at q9;cases q9)]
structure ZG (cws:List (List Nat)) (n:Nat->Int) (W:List Wt) (F:List Nat):Prop where
 sub:W.Sublist (wl cws)
 flags:∃p:Nat->Bool,F=ZW.cps.toList.filter p
 all:∀w∈W,∀f∈ZK cws w,f∈F
 QH:(F.map n).sum<(W.length:Int)
noncomputable def Yr(fs:List Nat)(c:Nat):Nat:=fs.countP λx=>decide (x=c)
def rM(g:Nat->Nat):∀L:List Nat,(L.map λc=>((g c:Nat):Int)).sum=(((L.map g).sum:Nat):Int)
 |[]=>rfl
 |c::r=>by
  rw[Au,Cv,Au,Cv,rM g r];omega
def FP{o:Nat->Int}{m:List (Wt×Nat)}{first:Wt}{A:List (Nat×Wt)}{fl:Nat->Option Int}{l r:List Wt}(D:wl cws=l++first::r)(E:m.map (·.1)=l)(G:∀c∈cws,c.length<=7/\∀d∈c,aX d)(q:YB cws m)(s:first∈wl cws)(k:Xe (ZK cws) m first A)(t:∀c,aR fl c=o c-(YJ m c:Int)/\0<=aR fl c)(H:∀c∈A.map (·.1),¬0<aR fl c):ZG cws o (lB m first A (wl cws)) (ZW.cps.toList.filter λc=>decide (c∈A.map (·.1))):=by
 have y:∀c∈A.map (·.1),gX c:=λc u=>by
  obtain⟨x,C,rfl⟩:=Ba.mp u;obtain⟨j,F,e⟩:=Bv.mp C;have a:A[j]?=some (x.1,x.2):=by rw[Aa F,e]
  exact NJ G (NT q s k.toAsking a) (k.ok j _ _ a).1
 have v:∀c,c∈ZW.cps.toList.filter (λc=>decide (c∈A.map (·.1))) ↔ c∈A.map (·.1):=λc=>by
  rw[Dg,Bo];exact⟨λh=>h.2,λh=>⟨Zd.mpr (y c h),h⟩⟩
 have n:(ZW.cps.toList.filter λc=>decide (c∈A.map (·.1))).Nodup:=List.Nodup.sublist Fx (by decide)
 have i:=sF cws cws.length
 replace i:(wl cws).Nodup:=i
 refine⟨Fx,⟨_,rfl⟩,λw p f B=>?_,?_⟩
 .refine(v f).mpr ?_;have b:=(Xq.mp p).2
  by_cases e:w=first
  .subst e;exact k.all1 f B
  .cases z:dP m w with
   |none=>rw[uJ e z]at b;cases b
   |some g=>
    rw[xU e z]at b;exact k.all w g (OA z) (Az b) f B
 .have L:(lB m first A (wl cws)).length=1+m.countP (λx=>decide (x.2∈A.map (·.1))):=by
   rw[D]at i ⊢;exact M4 E i
  have K:m.countP (λx=>decide (x.2∈A.map (·.1)))=m.countP (λx=>decide (x.2∈ZW.cps.toList.filter λc=>decide (c∈A.map (·.1)))):=by
   congr 1
   funext x
   exact Ef.mpr (v x.2).symm
  have J:=Mj m n
  have I:(ZW.cps.toList.filter λc=>decide (c∈A.map (·.1))).map o=(ZW.cps.toList.filter λc=>decide (c∈A.map (·.1))).map λc=>((YJ m c:Nat):Int):=Dy λc u=>by
   have M:=t c
   have b:=H c ((v c).mp u)
   ((try clear J K L);omega)
  rw[I,rM,L,K,J];((try clear J K L);omega)
def iT(t:Addr):Sp:=λs H Q E=>∃a b i f e,s=[.ref a,.ref b]/\Rd H a (.dK i)/\Lk i f/\Z4 H b=some ((e.map aV).map V.str)/\e.length<=8/\(∀c∈e,c.length<=7/\∀d∈c,aX d)/\
 (∀r l k h,H r=none->Z_ H h->h r=some (.lst (l.map V.ref))->(∀p∈l,p≠r)->ZQ H h l ((List.range e.length).map (iM e k))->k.length=(wl e).length->(∀(j:Nat) w g,(wl e)[j]?=some w->k[j]?=some g->g∈ZK e w)->(∀c,(Yr k c:Int)<=aR (bD (aR f)) c)->Zf e (aR (bD (aR f))) k->Q (.ref r) h)/\
 (∀o n m q W F h,Z_ H h->h o=some (YO o [("flags",.ref m),("wants",.ref n)])->h n=some (.lst (q.map V.ref))->ZV h q W->h m=some (.lst ((F.map one).map V.str))->ZG e (aR (bD (aR f))) W F->SS e (aR (bD (aR f))) W F->H n=none->H m=none->E (.ref t) (some o) h)
def z9:Z9 ["locker", "words", "choices", "left", "hung", "first", "asked", "free", "wants"] ["locker", "words"] (aJ eZ):=by fail "sc"
def KI(F:ZT K "hang_all" "hang_all" eZ f fd)(c7:ZR P w K mg base 2 "choices_of" ["words"] oB)(y3:ZR P w K mg base 1 "plain_locker" ["locker"] dA)(c8:ZR P w K mg base 1 "hoists_of" ["words", "flags"] qM)(c9:ZR P w K mg base 1 "asked_from" ["first", "choices", "hung"] nW)(b7:ZR P w K mg base 1 "hang_along" ["flag", "asked", "hung"] nY)(u6:V_ P w K mg base 1 Zs ["self", "wants", "flags"] (kQ Zs)):Z8 P w K mg base (Y_ P w) 3 f fd ["locker", "words"] (iT Zs):=by
 refine F.XJ z9 (λvs H Q E h=>?_) (λt5 A p2 s H vs Q E hr h=>?_)
 .obtain⟨a,b,j8,f,t,rfl,_⟩:=h;rfl
 obtain⟨a,b,j8,f,t,rfl,ha,lk,hb,h8,hL,q,qe⟩:=h;refine⟨_,(@aE _ _ _ _ _ (aP 2 z9.nd (aT c7 hr (by decide) rfl (aA (mv 1) aB))) (@aE _ _ _ _ _ (aP 3 z9.nd (aT y3 hr (by decide) rfl (aA (mv 0) aB))) (@aE _ _ _ _ _ (@SD _ _ 4 _ _ _ _ z9.nd (by rfl) (by exact(Or.inr rfl)) Rm (by rfl) (by fail "o")) (@aE _ _ _ _ _ (SM (cV PassesOwn.leaving rfl (qD (mv 2)) (aZ (i:=5) z9.nd rfl (Or.inr rfl)) (@aE _ _ _ _ _ (aP 6 z9.nd (aT c9 hr (by decide) rfl (aA (mv 5) (aA (mv 2) (aA (mv 4) aB))))) (@aE _ _ _ _ _ (SM (fL (i:=7) z9.nd rfl (Or.inl rfl) rfl (Jd (mv 6)) (gF (N:=["flag", "left"]) ["locker", "words", "choices", "left", "hung", "first", "asked", "free", "wants"] (aJ eZ) [none,some 3] rfl rfl rfl (λx h=>bX h) (by decide +kernel)) (by decide +kernel) rfl (by decide +kernel) (λ_ _ _ _=>(aZ (i:=0) (show List.Nodup (["flag", "left"]:List Str) by decide +kernel) rfl (Or.inl rfl))) (λ_ _ _ _=>(jN (bB V7 (hU Ci Ea (U5 (Z2.u1 hr)) (mv 1) (aA (mv 0) (aA aK aB))) aK (bA _)))) (λ_ _ _ _=>(mv 0)))) (@aE _ _ _ _ _ (cD (bB (P0 hr.YN) (mv 7) (bQ aB) (bA _)) (@aE _ _ _ _ _ (SM (fL (i:=8) z9.nd rfl (Or.inl rfl) rfl (qD (mv 2)) (gF (N:=["want", "first", "asked", "hung"]) ["locker", "words", "choices", "left", "hung", "first", "asked", "free", "wants"] (aJ eZ) [none,some 5,some 6,some 4] rfl rfl rfl (λx h=>bX h) (by decide +kernel)) (by decide +kernel) rfl (by decide +kernel) (λ_ _ _ _=>(aZ (i:=0) (show List.Nodup (["want", "first", "asked", "hung"]:List Str) by decide +kernel) rfl (Or.inl rfl))) (λ_ _ _ _=>(jN (PW.pt (sU (bB (JH hr.YN) (mv 0) (mv 1) (bA _)) (mG (bB (GU (Z2.u1 hr)) (hU Ci Ea (Qf (Z2.u1 hr)) (mv 3) (aA (mv 0) aB)) (mv 2) (by rfl))))))) (λ_ _ _ _=>(mv 0)))) (@aI _ _ _ (nK fZ rfl rfl rfl G.XO G.XG u6 hr (by decide) (aA (mv 8) (aA (cL rfl (lV (eO rfl G.s_FLAGS)) (gF (N:=["flag", "asked"]) ["locker", "words", "choices", "left", "hung", "first", "asked", "free", "wants"] (aJ eZ) [none,some 6] rfl rfl rfl (λx h=>bX h) (by decide +kernel)) (by decide +kernel) rfl (by decide +kernel) (λ_ _ _ _=>(aZ (i:=0) (show List.Nodup (["flag", "asked"]:List Str) by decide +kernel) rfl (Or.inl rfl))) (λ_ _ _ _=>(jN (bB (LA (Z2.u1 hr)) (mv 0) (mv 1) (by rfl)))) (λ_ _ _ _=>(mv 0))) aB))))) bE) (@aE _ _ _ _ _ (iU (Z2.u1 hr) (mv 3) (bI bZ (mv 7) aK (λ_ _=>rfl)) (aQ qK (kD (Z2.u1 hr) (mv 3) (bI bZ (mv 7) aK (λ_ _=>rfl)) (λ_ _=>rfl)) aK) rfl) (@aI _ _ _ (bU (aT b7 hr (by decide) rfl (aA (bI bZ (mv 7) aK (λ_ _=>rfl)) (aA (mv 6) (aA (mv 4) aB)))))))))))) (@aI _ _ _ (aU (aT c8 hr (by decide) rfl (aA (mv 1) (aA (PR (cL rfl (qD (mv 2)) (gF (N:=["want", "hung"]) ["locker", "words", "choices", "left", "hung", "first", "asked", "free", "wants"] (aJ eZ) [none,some 4] rfl rfl rfl (λx h=>bX h) (by decide +kernel)) (by decide +kernel) rfl (by decide +kernel) (λ_ _ _ _=>(aZ (i:=0) (show List.Nodup (["want", "hung"]:List Str) by decide +kernel) rfl (Or.inl rfl))) (λ_ _ _ _=>cY) (λ_ _ _ _=>(kD (Z2.u1 hr) (mv 1) (mv 0) (λ_ _=>rfl))))) aB))))))))),?_⟩
 have h7:∀c∈t,c.length<=7:=λc hc=>(hL c hc).1
 have r9:(wl t).length<=56:=Bh (OH h7 _) (by omega)
 fail "g";refine⟨b,t,rfl,hb,h8,h7,λac H1 m3 s1 q8=>?_⟩;fail "g";refine⟨a,j8,f,rfl,ha.elim (λe=>.inl (s1 _ _ e)) (λ⟨o,e⟩=>.inr ⟨o,s1 _ _ e⟩),lk,λX H2 f5 s2 el=>?_⟩;fail "g";intro ah d3;have s3:=s2.trans (aG d3 (.dT []))
 have g4:(upd H2 ah (.dT [])) ah=_:=aD
 have a9:=aG d3 (.dT []) _ _ el
 generalize upd H2 ah (.dT [])=H3 at s3 g4 a9 ⊢;obtain⟨ds,dl,ed,q5⟩:=q8;rw[Cg]at ed;have g5:=s3 _ _ ed
 fail "g";refine Tu g5 λo=>?_;have fz:(upd H3 ac (.frz o (.dT (eJ (wl t) ds)))) ac=_:=aD
 have kl:(eJ (wl t) ds).length=(wl t).length:=N9 dl
 have e7:ah≠ac:=λz=>by have e:=s2 _ _ ed;rw[<-z,d3]at e;cases e
 have j7:X≠ac:=λz=>by rw[z,g5]at a9;cases a9
 have j6:X≠ah:=λz=>by rw[z,g4]at a9;cases a9
 have j4:Z_ H1 H3:=s3
 have b6:H1 ah=none:=none_of s2 d3
 generalize a6:aR (bD (aR f))=n0;refine E8 (λi U H'=>∃m M fl v5 v6 v7 v8,U=[some (.ref a),some (.ref b),some (.ref ac),some (.ref X),some (.ref ah),v5,v6,v7,v8]/\(∀p u,p≠ac->p≠X->p≠ah->H1 p=some u->H' p=some u)/\H' ac=some (.frz o (.dT (eJ (wl t) ds)))/\H' ah=some (.dT (iN m))/\H' X=some (.dK M)/\Lk M fl/\M.length<=27/\m.map (·.1)=(wl t).take i/\(∀v g,(v,g)∈m->g∈ZK t v)/\(∀c,aR fl c=n0 c-(YJ m c:Int)/\0<=aR fl c)/\ZI t n0 i m)
  ⟨[],_,bD (aR f),_,_,_,_,rfl,λp u T h2 h3 W=>by rw[aH T];exact j4 _ _ W,fz,by rw[aH e7];exact g4,by rw[aH j7];exact a9,dQ _,by unfold Zi;rw[Ab];exact kE _ _,rfl,(λv g hv=>nomatch hv),λc=>?_,.zero⟩ (λi U H' _ ⟨_,_,_,_,_,_,_,_,_,e,_⟩=>e) ?_ ?_
 .rw[a6];refine⟨by show n0 c=n0 c-((0:Nat):Int);((try clear dl e7 h8 j6 j7 kl r9);omega),?_⟩
  rw[<-a6];show 0<=(bD (aR f) c).getD 0
  unfold bD;split
  .rename_i h;exact Int.le_of_lt h.2
  .exact Ih 0
 .rintro i kv bf U H4 C a8 ⟨m,M,fl,v5,v6,v7,v8,rfl,fr,ec,eh,Z,b1,p8,hk,f3,b5,b8⟩;have hi:i<(wl t).length:=by rw[<-kl];exact(Ad.mp C).1
  have ew:(wl t)[i]?=some (wl t)[i]:=Aa hi
  have a2:kv=(dN (wl t)[i],V.ref (ds[i]'(by ((try clear e7 h8 j6 j7 p8 r9);omega)))):=by
   unfold eJ at C;rw[Gk,ew,Aa (show i<ds.length by ((try clear e7 h8 j6 j7 p8 r9);omega))]at C
   exact(Bk C).symm
  rw[a2]at a8;have c5:=sF t t.length
  have d1:(wl t)[i]∈wl t:=Bx hi
  have e9:(wl t).take (i+1)=(wl t).take i++[(wl t)[i]]:=by rw[Bd,ew];rfl
  have k5:(wl t)[i]∉m.map (·.1):=by
   rw[hk];intro z;obtain⟨j,hj,ej⟩:=Bv.mp z;rw[Bt]at hj;rw[List.getElem_take]at ej;have:=(Gy c5).mp ej
   ((try clear e7 h8 j6 j7 p8 r9);omega)
  have b3:m.length<=56:=by
   have e:m.length=(m.map (·.1)).length:=(Ab _).symm
   rw[e,hk,Bt];((try clear e e7 h8 j6 j7 p8);omega)
  have c6:YB t m:=⟨by rw[hk];exact c5.sublist (Hm ..),λx hx=>List.mem_of_mem_take (by rw[<-hk];exact Ba.mpr ⟨x,hx,rfl⟩)⟩
  have q7:Xf H4 ac t:=⟨ds,dl,.inr ⟨o,ec⟩,λj w d hw hd=>by
   have T:=q5 j w d (Ad.mp hw).1 hw hd
   exact fr d _ (λz=>by rw[z,ed]at T;cases T) (λz=>by rw[z,f5]at T;cases T) (λz=>by rw[z,b6]at T;cases T) T⟩
  replace a8:H4 bf=some (.tup (wV (wl t)[i])):=a8
  clear a2 C;generalize (wl t)[i]=first at a8 ew d1 e9 k5
  fail "g";refine⟨bf,ac,ah,t,m,first,rfl,a8,d1,q7,eh,c6,b3,h8,hL,λpa A bs H5 c4 s5 ea wb a4 b9=>?_⟩
  have g2:=s5 _ _ Z
  have d2:bs.length=A.length:=by rw[wb.1,Ab]
  have r8:=OV c6 d1 hL a4.toAsking
  have k9:=oR g2
  fail "g";refine CH ea λoa=>?_;have f7:(upd H5 pa (.frz oa (.dK (gO A bs)))) pa=_:=aD
  have j5:X≠pa:=λz=>by rw[z,c4]at Z;cases Z
  have m7:(upd H5 pa (.frz oa (.dK (gO A bs)))) X=_:=(aH j5).trans g2
  refine jM (n:=A.length) (λD i ys Y=>Z_ (upd H5 pa (.frz oa (.dK (gO A bs)))) Y/\ys=((((A.take i).map (·.1)).filter λc=>decide (0<aR fl c)).map one).map V.str) (bF (by (exact Nat.le_trans (by assumption) (by decide)))) (λD hD=>⟨aG hD _,rfl⟩) (λD i ys Y _ r h=>⟨r.1 _ _ f7,by rw[vP d2];exact h⟩) (λD ys Y _ r=>⟨r.1 _ _ f7,vP d2⟩) ?_ ?_
  .rintro D y ys Y x H' A' B' hD b4 ⟨sm,rfl⟩ I ⟨rfl,kv,C,rfl⟩ R a1;have eA:A[y]?=some A[y]:=Aa b4
   unfold gO at C;rw[Gk,eA,Aa (show y<bs.length by ((try clear b3 dl e7 h8 hi j5 j6 j7 kl p8 r8 r9);omega))]at C
   cases C;have tk:A.take (y+1)=A.take y++[A[y]]:=by rw[Bd,eA];rfl
   rw[tk,Ap,Fh]at R a1;generalize A[y]=xa at R a1;have m8:=sm _ _ m7
   have t3:=oR m8
   dsimp only[kV];fail "g";refine⟨Wk.set rfl (Wk.refl _),?_⟩;fail "g";refine Vq (z:=one xa.1) (.inl m8) ?_;rw[b1.val xa.1,qG];fail "g";refine dW (λhe=>?_) (λhe=>?_)
   .have k8:=Az he
    fail "g";refine R _ _ I ⟨bL hD sm,?_⟩;rw[show ([xa].map (·.1)).filter (λc=>decide (0<aR fl c))=[xa.1] by simp[k8],List.map_append,List.map_append]
    rfl
   .have k8:=Bp (Bq.mpr he)
    fail "g";refine a1 _ I ⟨sm,?_⟩;rw[show ([xa].map (·.1)).filter (λc=>decide (0<aR fl c))=[] by simp;((try clear b3 b4 d2 dl e7 h8 hi j5 j6 j7 kl p8 r8 r9);omega),List.append_nil]
  .rintro D ys Y hD ⟨sm,rfl⟩ I _;rw[Cg]at I;have su:=xR ea (λo v z=>nomatch z) sm
   have eu:=eY (Hs:=H5) I (λo v z=>nomatch z)
   refine SG ?_;unfold Vn;dsimp only;generalize Za H5 Y=H6 at su eu ⊢;have a5:=s5.trans su
   have g8:=su _ _ ea
   have j2:ZV H6 bs (A.map (·.2)):=wb.keep λr w h=>su _ _ h
   have g6:=a5 _ _ ec
   have c1:=a5 _ _ eh
   have n3:=a5 _ _ Z
   have e6:=a5 _ _ a8
   have f9:∀p u,p≠ac->p≠X->p≠ah->H1 p=some u->H6 p=some u:=λp u T h2 h3 W=>a5 _ _ (fr p u T h2 h3 W)
   have f6:H4 D=none:=by
    have h5:H5 D=none:=by
     by_cases z:D=pa
     .rw[z,aD]at hD;cases hD
     .rw[aH z]at hD;exact hD
    exact none_of s5 h5
   clear sm I hD f7 m7 k9 g2;fail "g";refine⟨by decide,λpe f1=>?_⟩
   refine Ts (neg:=false) (aM (aG f1 _) (aO eu)) cE (dB _) rfl ?_;have O:=aG f1 (.lst [])
   generalize upd H6 pe (.lst [])=H7 at O ⊢;have en:∀xs,kS xs []=xs.isEmpty:=λxs=>by cases xs<;>rfl
   rw[if_neg (by decide),en]
   have d9:(A.map (·.1)).filter (λc=>decide (0<aR fl c))=Vw n0 m (xH (ZK t) m first):=by
    unfold Vw;rw[<-b9];exact List.filter_congr λc _=>by rw[(b5 c).1]
   cases a7:(A.map (·.1)).filter (λc=>decide (0<aR fl c)) with
   |nil=>
    rw[a7]at eu;rw[show (List.map V.str (List.map one [])).isEmpty=true from rfl];have c2:=O _ _ g6
    have g3:=O _ _ c1
    have d7:=O _ _ g8
    have m2:=O _ _ e6
    have r3:∀p u,p≠ac->p≠X->p≠ah->H1 p=some u->H7 p=some u:=λp u T h2 h3 W=>O _ _ (f9 p u T h2 h3 W)
    clear eu j2 f1 O f9 fr g6 c1 g8 e6 n3 su f6 a5 c4 s5 ea wb Z j5;fail "g";refine CC c2 ?_;refine jM (n:=(wl t).length) (λD i ys Y=>Z_ H7 Y/\∃rs,ys=rs.map V.ref/\ZV Y rs (lB m first A ((wl t).take i))) (bF (by (exact Nat.le_trans (by assumption) (by decide)))) (λD hD=>⟨aG hD _,[],rfl,rfl,λj r w hr=>nomatch hr⟩) (λD i ys Y _ r h=>⟨r.1 _ _ c2,by rw[kl];exact h⟩) (λD ys Y _ r=>⟨r.1 _ _ c2,kl⟩) ?_ ?_
    .rintro D y ys Y x H' A' B' hD b4 ⟨sm,rs,rfl,b2⟩ I ⟨rfl,kv,bk,C,rfl,S⟩ R a1;have a3:(wl t)[y]?=some (wl t)[y]:=Aa b4
     have a2:kv=(dN (wl t)[y],V.ref (ds[y]'(by ((try clear b3 d2 e7 h8 hi j6 j7 p8 r8 r9);omega)))):=by
      unfold eJ at C;rw[Gk,a3,Aa (show y<ds.length by ((try clear b3 d2 e7 h8 hi j6 j7 p8 r8 r9);omega))]at C
      exact(Bk C).symm
     rw[a2]at S;replace S:H' bk=some (.tup (wV (wl t)[y])):=S
     have tk:(wl t).take (y+1)=(wl t).take y++[(wl t)[y]]:=by rw[Bd,a3];rfl
     rw[tk]at R a1;clear a2 C a3 tk;generalize (wl t)[y]=wx at S R a1;have d5:=sm _ _ g3
     have n7:=sm _ _ d7
     have q4:=sm _ _ m2
     have h9:kY m first A wx=true->A' (.ref bk) H':=λhb=>by
      refine R _ _ I ⟨bL hD sm,rs++[bk],by rw[Ap];rfl,?_⟩
      rw[wJ,hb,if_pos rfl];refine ZV.keep (b2.app (.one S)) λr w h=>?_;rw[aH (λz=>by rw[z,I]at h;cases h)]
      exact h
     have no:kY m first A wx=false->B' H':=λhb=>by
      refine a1 _ I ⟨sm,rs,rfl,?_⟩;rw[wJ,hb,if_neg (by decide),Br]
      exact b2
     clear R a1;fail "g";refine⟨Wk.set rfl (Wk.refl _),?_⟩;fail "g";refine Lo S q4 ?_;have q6:decide ((wx.1:Int)=(first.1:Int)/\(wx.2:Int)=(first.2:Int))=decide (wx=first):=Ef.mpr ⟨λh=>Prod.ext (by ((try clear b3 b4 d2 dl e7 h8 hi j6 j7 kl p8 r8 r9);omega)) (by ((try clear b3 b4 d2 dl e7 h8 hi j6 j7 kl p8 r8 r9);omega)),λh=>by rw[h];exact⟨rfl,rfl⟩⟩
     rw[q6];by_cases e:wx=first
     .rw[An e];fail "g";exact h9 (GF e)
     .rw[Aw e];have t2:XE H' ah=true:=by unfold XE;rw[d5]
      fail "g";refine Pc (k:=dN wx) (.inl d5) S ?_;rw[mE];cases eg:dP m wx with
      |none=>
       refine KR (.inl n7) ?_;fail "g";exact no (uJ e eg)
      |some g=>
       have k2:=xU (A:=A) e eg
       refine LP (z:=one g) (.inl n7) ?_;rw[mZ d2];refine dW (λhg=>?_) (λhg=>?_)
       .fail "g";exact h9 (k2.trans hg)
       .fail "g";exact no (k2.trans (Bq.mpr hg))
    .rintro D ys Y hD ⟨sm,rs,rfl,b2⟩ I _;rw[Cg]at b2;have su:=JQ sm
     have eu:=eY (Hs:=H7) I (λo v z=>nomatch z)
     have j9:ZV (Za H7 Y) rs (lB m first A (wl t)):=b2.keep λr w h=>eY h λo v z=>nomatch z
     refine SG ?_;unfold Vn;dsimp only;generalize Za H7 Y=H8 at su eu j9 ⊢;have d6:=su _ _ d7
     fail "g";refine QR (λc=>if decide (c∈A.map (·.1))=true then some (.str (one c)) else none) (by decide) (λi3 c t6 A' B' hc p1 R=>?_) (λD2 H9 t4 s9 k1=>?_)
     .have r:=R _ (Z_.refl _)
      fail "g";refine⟨Wk.set rfl (Wk.refl _),?_⟩;fail "g";refine Qs (z:=one c) (neg:=false) (.inl (p1 _ _ d6)) ?_;rw[if_neg (by decide),mZ d2]
      refine dW (λhg=>?_) (λhg=>?_)
      .rw[if_pos hg]at r;fail "g";exact r
      .rw[if_neg hg]at r;exact r
     .have ef:(Str.ofString "abcdefghijklmnopqrstuvw1234").cps.toList.filterMap (λc=>if decide (c∈A.map (·.1))=true then some (V.str (one c)) else none)=((ZW.cps.toList.filter λc=>decide (c∈A.map (·.1))).map one).map V.str:=by
       rw[show "abcdefghijklmnopqrstuvw1234"=ZW from rfl];generalize ZW.cps.toList=L;induction L with
       |nil=>rfl
       |cons c r ih=>
        rw[Ey,Ed];by_cases hg:decide (c∈A.map (·.1))=true
        .rw[if_pos hg,if_pos hg,Au,Au,<-ih]
        .rw[if_neg hg,if_neg hg,<-ih]
      rw[ef]at k1;have r5:=s9 _ _ eu
      fail "g";refine⟨r0,λea f4=>⟨ea,D,D2,_,_,rfl,aD,aM (aG f4 _) (aO r5),aM (aG f4 _) (aO k1),λdx l1 l2 H' r2 t1 p5 e1 e2 e3 e4 k4 k3=>⟨rfl,some dx,e1,?_⟩⟩⟩
      have n1:l1≠ea:=λz=>by rw[z,e1]at e3;cases e3
      have n2:l2≠ea:=λz=>by rw[z,e1]at e4;cases e4
      have m4:∀b u,H9 b=some u->(del H' ea) b=some u:=λb u W=>by
       have nb:b≠ea:=λz=>by rw[z,f4]at W;cases W
       rw[eG nb];exact r2 b u nb (by rw[aH nb];exact W)
      have e8:∀b u,H b=some u->H9 b=some u:=λb u W=>by
       refine s9 _ _ (su _ _ (r3 b u (λz=>by rw[z,m3]at W;cases W) (λz=>?_) (λz=>?_) (s1 _ _ W)))
       .have:=s1 _ _ W
        rw[z,f5]at this;cases this
       .have:=s1 _ _ W
        rw[z,b6]at this;cases this
      refine qe dx l1 l2 rs _ _ (del H' ea) (λb u W=>m4 _ _ (e8 b u W)) ((eG p5).trans e2) ((eG n1).trans e3) (j9.keep λr w h=>m4 _ _ (s9 _ _ h)) ((eG n2).trans e4) ?_ ?_ (none_of e8 (by rw[aH n1]at k4;exact k4)) (none_of e8 (by rw[aH n2]at k3;exact k3))
      .rw[a6];refine FP (l:=(wl t).take i) (r:=(wl t).drop (i+1)) (fl:=fl) ?_ hk hL c6 d1 a4 b5 (λc hc=>?_)
       .have e:=El (i+1) (wl t)
        rw[e9,Fo]at e;exact e.symm
       .have:=List.filter_eq_nil_iff.mp a7 c hc
        rw[Bo]at this;exact this
      .rw[a6];refine⟨i,m,first,b8,ew,by rw[<-d9,a7],?_,?_⟩
       .rw[<-b9]
       .rw[<-b9]
   |cons J g1=>
    rw[a7]at eu;rw[show (List.map V.str (List.map one (J::g1))).isEmpty=false from rfl];have e5:J∈(A.map (·.1)).filter (λc=>decide (0<aR fl c)):=by rw[a7];exact Ak
    rw[Dg,Bo]at e5;obtain⟨k7,k6⟩:=e5;obtain⟨n1,f2⟩:∃n1,fl J=some n1:=by
     cases e:fl J with
     |none=>rw[show aR fl J=0 by unfold aR;rw[e];rfl]at k6;((try clear b3 d2 dl e7 h8 hi j5 j6 j7 kl p8 r8 r9);omega)
     |some n=>exact⟨n,rfl⟩
    have r7:aR fl J=n1:=by unfold aR;rw[f2];rfl
    have d4:=O _ _ n3
    have d7:=O _ _ g8
    have g3:=O _ _ c1
    have c2:=O _ _ g6
    have g9:=O _ _ eu
    have n9:ZV H7 bs (A.map (·.2)):=j2.keep λr w h=>O _ _ h
    have r6:=oR d4
    have h6:YV (List.map V.str (List.map one (J::g1))) 0=some (V.str (one J)):=aY (show (List.map V.str (List.map one (J::g1)))[0]?=some (V.str (one J)) from rfl)
    fail "g";refine dG (aO g9) (v:=.str (one J)) h6 ?_;fail "g";refine UD (z:=one J) (.inl d4) (by rw[b1.val J,f2];rfl) ?_
    fail "g";refine dG (aO g9) (v:=.str (one J)) h6 ?_;fail "g";refine nP (z:=one J) d4 (bF (by (exact Nat.le_trans (by assumption) (by decide)))) ?_
    have p7:D≠X:=λz=>by rw[z]at f6;rw[f6]at Z;cases Z
    have p3:pa≠X:=λz=>by rw[z]at c4;rw[c4]at Z;cases Z
    have p4:ah≠X:=Ne.symm j6
    have p6:ac≠X:=Ne.symm j7
    have m9:(upd H7 X (.dK (eM M (Sum.inr (one J)) (V.int (n1-1))))) X=_:=aD
    have d6:(upd H7 X (.dK (eM M (Sum.inr (one J)) (V.int (n1-1))))) pa=_:=(aH p3).trans d7
    have n4:(upd H7 X (.dK (eM M (Sum.inr (one J)) (V.int (n1-1))))) ah=_:=(aH p4).trans g3
    have n6:(upd H7 X (.dK (eM M (Sum.inr (one J)) (V.int (n1-1))))) ac=_:=(aH p6).trans c2
    have n8:(upd H7 X (.dK (eM M (Sum.inr (one J)) (V.int (n1-1))))) D=_:=(aH p7).trans g9
    have j1:ZV (upd H7 X (.dK (eM M (Sum.inr (one J)) (V.int (n1-1))))) bs (A.map (·.2)):=n9.keep λr w h=>by
     rw[aH (λz=>by rw[z,d4]at h;cases h)]
     exact h
    have m6:∀p u,p≠ac->p≠X->p≠ah->H1 p=some u->(upd H7 X (.dK (eM M (Sum.inr (one J)) (V.int (n1-1))))) p=some u:=λp u T h2 h3 W=>by
     rw[aH h2];exact O _ _ (f9 p u T h2 h3 W)
    generalize upd H7 X (.dK (eM M (Sum.inr (one J)) (V.int (n1-1))))=H8 at m9 d6 n4 n6 n8 j1 m6 ⊢;fail "g";refine dG (aO n8) (v:=.str (one J)) h6 ?_;fail "g";refine⟨pa,ah,t,m,first,A,bs,J,rfl,d6,j1,a4.toAsking,n4,c6.nd,k5,f3,k7,b3,λm' H9 f8 r4 q3 q9 m1 r1=>?_⟩
    fail "g";refine⟨m',_,_,_,_,_,_,rfl,λp u T h2 h3 W=>f8 p u h3 (m6 p u T h2 h3 W),f8 _ _ (Ne.symm e7) n6,r4,f8 _ _ j6 m9,b1.put J (n1-1),?_,?_,q9,λc=>?_,.succ (c:=J) b8 ew (by rw[<-b9];exact a4.nd) (by rw[<-d9,a7];rfl) (by rw[<-b9];exact r1)⟩
    .have hv:cM M (Sum.inr (one J))≠none:=by rw[b1.val J,f2];exact λz=>nomatch z
     have e:=Dp List.length (Rg M (Sum.inr (one J)) (.int (n1-1)) hv)
     rw[Ab,Ab]at e;((try clear b3 d2 dl e7 h8 hi j5 j6 j7 k6 kl p3 p4 p6 p7 r7 r8 r9);omega)
    .rw[q3,hk,e9]
    .have T:=b5 c
     have h2:=m1 c
     have h3:aR (λd=>if d=J then some (n1-1) else fl d) c=if c=J then n1-1 else aR fl c:=by
      show ((if c=J then some (n1-1) else fl c):Option Int).getD 0=_
      by_cases z:c=J
      .rw[if_pos z,if_pos z];rfl
      .rw[if_neg z,if_neg z];rfl
     rw[h3];by_cases z:c=J
     .subst z;rw[if_pos rfl]at h2 ⊢;((try clear b3 d2 dl e7 h3 h8 hi j5 j6 j7 kl p3 p4 p6 p7 p8 r8 r9);omega)
     .rw[if_neg z]at h2 ⊢;((try clear b3 d2 dl e7 h3 h8 hi j5 j6 j7 k6 kl p3 p4 p6 p7 p8 r7 r8 r9 z);omega)
 .rintro U H4 ⟨m,M,fl,v5,v6,v7,v8,rfl,fr,ec,eh,Z,b1,p8,hk,f3,b5,b8⟩;rw[kl,Cg]at hk;rw[kl]at b8;have g7:=tZ (Hs:=H3) ec (λo v z=>by rw[g5]at z;cases z)
  have n5:=eY (Hs:=H3) eh (λo v z=>nomatch z)
  have j3:Z_ H (Za H3 H4):=λb u W=>by
   have T:=s1 _ _ W
   have h4:=fr b u (λz=>by rw[z,m3]at W;cases W) (λz=>by rw[z,f5]at T;cases T) (λz=>by rw[z,b6]at T;cases T) T
   by_cases hf:∃o v,u=.frz o v
   .obtain⟨o',v',rfl⟩:=hf;exact mV h4 (j4 _ _ T)
   .exact eY h4 λo v z=>hf ⟨o,v,z⟩
  unfold Vn;dsimp only;generalize Za H3 H4=H5 at g7 n5 j3 ⊢;have b3:m.length=(wl t).length:=by rw[<-hk,Ab]
  have c5:(m.map (·.1)).Nodup:=by rw[hk];exact sF t t.length
  fail "g";refine Tu g7 λo2=>?_;have m5:(upd H5 ac (.frz o2 (.dT (eJ (wl t) ds)))) ac=_:=aD
  have c1:(upd H5 ac (.frz o2 (.dT (eJ (wl t) ds)))) ah=_:=(aH e7).trans n5
  refine jM (n:=(wl t).length) (λD i ys Y=>Z_ (upd H5 ac (.frz o2 (.dT (eJ (wl t) ds)))) Y/\ys=(((m.take i).map (·.2)).map one).map V.str) (bF (by (exact Nat.le_trans (by assumption) (by decide)))) (λD hD=>⟨aG hD _,rfl⟩) (λD i ys Y _ r h=>⟨r.1 _ _ m5,by rw[kl];exact h⟩) (λD ys Y _ r=>⟨r.1 _ _ m5,kl⟩) ?_ ?_
  .rintro D y ys Y x H' A' B' hD b4 ⟨sm,rfl⟩ I ⟨rfl,kv,bk,C,rfl,S⟩ R a1;have a3:(wl t)[y]?=some (wl t)[y]:=Aa b4
   have a2:kv=(dN (wl t)[y],V.ref (ds[y]'(by ((try clear e7 h8 j6 j7 p8 r9);omega)))):=by
    unfold eJ at C;rw[Gk,a3,Aa (show y<ds.length by ((try clear e7 h8 j6 j7 p8 r9);omega))]at C
    exact(Bk C).symm
   rw[a2]at S;have em:m[y]?=some m[y]:=Aa (by ((try clear e7 h8 j6 j7 p8 r9);omega))
   have e1:m[y].1=(wl t)[y]:=by
    have e0:(m.map (·.1))[y]?=some (wl t)[y]:=by rw[hk];exact a3
    rw[Ag,em]at e0;exact Bk e0
   have tk:m.take (y+1)=m.take y++[m[y]]:=by rw[Bd,em];rfl
   rw[tk]at R;replace S:H' bk=some (.tup ((dN m[y].1).map kV)):=by rw[e1];exact S
   have d8:cM (iN m) (dN m[y].1)=some (.str (one m[y].2)):=by
    have q1:(m[y].1,m[y].2)∈m:=Ao em
    rw[mE,pN c5 q1];rfl
   clear a2 C a3 tk e1 em;generalize m[y]=mx at S R d8;have d5:=sm _ _ c1
   fail "g";refine⟨Wk.set rfl (Wk.refl _),?_⟩;fail "g";refine TF (k:=dN mx.1) (.inl d5) S d8 ?_;refine R _ _ I ⟨bL hD sm,?_⟩;rw[Ap,Ap,Ap];rfl
  .rintro D ys Y hD ⟨sm,rfl⟩ I _;rw[<-b3,Cg]at I;have su:=xR g7 (λo v z=>nomatch z) sm
   have eu:=eY (Hs:=H5) I (λo v z=>nomatch z)
   generalize Za H5 Y=H6 at su eu ⊢;have c3:=j3.trans su
   refine⟨b,D,t,m.map (·.2),rfl,aM c3 hb,aO eu,h8,h7,λr ps H7 hr s7 er p9 q2=>?_⟩;refine q r ps (m.map (·.2)) H7 (none_of c3 hr) (c3.trans s7) er p9 (q2.X6 c3) (by rw[Ab,b3]) (λj w g hw hg=>?_) (λc=>?_) (by rw[a6];exact⟨m,b8,rfl⟩)
   .rw[<-hk,Ag]at hw;rw[Ag]at hg;cases em:m[j]? with
    |none=>rw[em]at hw;cases hw
    |some x=>
     rw[em]at hw hg;cases hw;cases hg;exact f3 x.1 x.2 (Ao em)
   .rw[a6];have T:=b5 c
    have h2:Yr (m.map (·.2)) c=YJ m c:=by
     unfold Yr YJ;rw[List.countP_map];rfl
    rw[h2];((try clear b3 dl e7 h8 j6 j7 kl p8 r9);omega)
def Y3(n:Nat->Int)(cws:List (List Nat)):Prop:=∃a,a.length=(wl cws).length/\(∀(j:Nat) w g,(wl cws)[j]?=some w->a[j]?=some g->g∈ZK cws w)/\∀c,(Yr a c:Int)<=n c
def Qi(x:Nat):∀ {F:List Nat},F.Nodup->(F.map λc=>if x=c then 1 else 0).sum=if x∈F then 1 else 0
 |[],_=>rfl
 |c::r,h=>by
  have a:=Cq.mp h
  rw[Au,Cv,Qi x a.2];grind
def Oe(g h:Nat->Nat):∀F:List Nat,(F.map λc=>g c+h c).sum=(F.map g).sum+(F.map h).sum
 |[]=>rfl
 |c::r=>by
  rw[Au,Cv,Oe g h r,Au,Cv,Au,Cv];omega
def QG(a:F.Nodup):∀b,(F.map (Yr b)).sum=b.countP λx=>decide (x∈F)
 |[]=>by
  have:∀F:List Nat,(F.map (Yr [])).sum=0:=λF=>by
   induction F with
   |nil=>rfl
   |cons c r d=>rw[Au,Cv,d];rfl
  rw[this];rfl
 |x::r=>by
  have e:Yr (x::r)=λc=>Yr r c+if x=c then 1 else 0:=by
   funext c
   unfold Yr;grind
  rw[e,Oe,QG a r,Qi x a,Dv];grind
def uM{p:α->Bool}{q:β->Bool}:∀(L:List α) (M:List β),L.length=M.length->(∀(j:Nat) a b,L[j]?=some a->M[j]?=some b->p a=true->q b=true)->L.countP p<=M.countP q
 |[],_,_,_=>Da _
 |a::L,b::M,h,hpq=>by
  rw[Dv,Dv];have g:=uM L M (by simp_all) λj x y e d=>hpq (j+1) x y e d
  have f:=hpq 0 a b rfl rfl
  grind
def N2{g h:Nat->Int}(e:∀c,g c<=h c):∀F:List Nat,(F.map g).sum<=(F.map h).sum
 |[]=>Ih _
 |c::r=>by
  rw[Au,Cv,Au,Cv];have:=N2 e r
  grind
def Cn{W L:List Wt}(s:W.Sublist L):W.length<=L.countP λw=>decide (w∈W):=by
 have h:=s.countP_le (p:=λw=>decide (w∈W))
 have e:W.countP _=W.length:=List.countP_eq_length.mpr λw a=>An a
 omega
def LS(h:ZG cws n W F):F.Nodup:=by
 obtain⟨p,rfl⟩:=h.flags;exact List.Nodup.sublist Fx (by decide)
def OG(h:ZG cws n W F):¬Y3 n cws:=by
 rintro⟨fs,hl,hch,hct⟩;have k:=Cn h.sub
 have i:=uM _ _ hl.symm λj w g a c b=>An (h.all w (Az b) g (hch j w g a c))
 have f:=QG (LS h) fs
 have d:=N2 hct F
 rw[rM _ F]at d;have e:=h.QH
 ((try clear hl);omega)
def vV:Sp:=λl H Q _=>∃a b h f e,l=[.ref a,.ref b]/\Rd H a (.dK h)/\Lk h f/\Z4 H b=some ((e.map aV).map V.str)/\e.length<=8/\(∀c∈e,c.length<=7/\∀d∈c,aX d)/\
 (Y3 (aR (bD (aR f))) e->∀g,Z_ H g->Q .non g)/\(∀t j i k W F g,Z_ H g->H t=none->g t=some (.tup [.ref j,.ref i])->g j=some (.lst (k.map V.ref))->ZV g k W->g i=some (.lst ((F.map one).map V.str))->ZG e (aR (bD (aR f))) W F->H j=none->H i=none->Q (.ref t) g)
def Qw:Z9 ["locker", "words", "lack"] ["locker", "words"] (aJ rW):=by fail "sc"
def IK(F:ZT K "lack_of" "lack_of" rW f fd)(z5:iO P w K mg base 3 "hang_all" ["locker", "words"] (iT Zs)):Z8 P w K mg base ZS 4 f fd ["locker", "words"] vV:=by
 refine F.ok Qw (λvs H Q E h=>?_) (λcdv A outer s H vs Q E hr h=>?_)
 .obtain⟨a,b,kvs,f,cws,rfl,_⟩:=h;rfl
 obtain⟨a,b,kvs,f,cws,rfl,ha,lk,hb,h8,hL,q1,q2⟩:=h;refine⟨_,(@aE _ _ _ _ _ (FQ (i:=2) rfl rfl rfl Qw.nd rfl rfl rfl G.XO (λy2 R=>(@aI _ _ _ (bU (CF z5 (vF rfl) hr (by decide) rfl (aA (mv 0) (aA (mv 1) aB)))))) (λy2 ea=>(@aI _ _ _ (aU (cU (aA (Rt (K:=K) rfl (mv 2) rfl) (aA (Rt (K:=K) rfl (mv 2) rfl) aB))))))) (@aI _ _ _ (aU dF))),?_⟩
 refine⟨a,b,kvs,f,cws,rfl,ha,lk,hb,h8,hL,λrh ps fs H1 hrh s1 er hne hls hfl hch hct _=>?_,λdx l1 l2 rs W F H1 s1 ed el1 hwt el2 hlo _ hn1 hn2=>⟨G.V0,λea hea=>?_⟩⟩
 exact q1 ⟨fs,hfl,hch,hct⟩ _ s1
 .have k2:=aG hea (xV ea (.ref Zs) (some dx))
  have e2:(upd H1 ea (xV ea (.ref Zs) (some dx))) ea=_:=aD
  have ed2:=k2 _ _ ed
  refine⟨ea,Zs,dx,_,_,rfl,.inl e2,ed2,G.Ys,G.xn_Lack_wants,rfl,?_⟩;refine⟨ea,Zs,dx,_,_,rfl,.inl e2,ed2,G.Ys,G.xn_Lack_flags,rfl,?_⟩;refine⟨r0,λt ht=>?_⟩
  have s3:=k2.trans (aG ht (.tup [.ref l1,.ref l2]))
  exact q2 t l1 l2 rs W F _ (s1.trans s3) (none_of (s1.trans k2) ht) aD (s3 _ _ el1) ⟨hwt.1,λj p w hp hw=>s3 _ _ (hwt.2 j p w hp hw)⟩ (s3 _ _ el2) hlo hn1 hn2
def qO{x:V}(h:(ks.map λk=>V.int ((k:Nat):Int))[j]?=some x):∃k,ks[j]?=some k/\x=.int ((k:Nat):Int):=by
 rw[Ag]at h;cases e:ks[j]? with
 |none=>rw[e]at h;cases h
 |some k=>rw[e]at h;cases h;exact⟨k,rfl,rfl⟩
noncomputable def cW:List Nat->Nat->List (List Nat)
 |_,0=>[[]]
 |ks,m+1=>(List.range ks.length).flatMap λj=>(cW (ks.drop (j+1)) m).map λl=>ks.getD j 0::l
def kU(a:List Nat):cW a 0=[[]]:=by cases a<;>rfl
def kW(a:List Nat)(m:Nat):cW a (m+1)=(List.range a.length).flatMap λj=>(cW (a.drop (j+1)) m).map λl=>a.getD j 0::l:=by rw[cW]
def OR{x:Nat}{l:List Nat}:∀ {a:List Nat},(x::l).Sublist a->∃j,j<a.length/\a.getD j 0=x/\l.Sublist (a.drop (j+1))
 |k::a,h=>by
  rcases List.sublist_cons_iff.mp h with e|⟨r,e,b⟩
  .obtain⟨j,f,d,c⟩:=OR e;exact⟨j+1,Nat.succ_lt_succ f,d,c⟩
  .cases e;exact⟨0,Nat.succ_pos _,rfl,b⟩
def ZH:∀ {m:Nat} {a l:List Nat},l∈cW a m ↔ l.Sublist a/\l.length=m
 |0,a,l=>by
  rw[kU,Aj];constructor
  .rintro rfl;exact⟨List.nil_sublist _,rfl⟩
  .exact λh=>Gd h.2
 |m+1,a,l=>by
  rw[kW,Ia];constructor
  .rintro⟨j,hj,hl⟩;rw[Bu]at hj;obtain⟨g,f,rfl⟩:=Ba.mp hl;obtain⟨c,d⟩:=ZH.mp f;refine⟨?_,by rw[Av,d]⟩
   have e:a.getD j 0::a.drop (j+1)=a.drop j:=by
    rw[Ac,Aa hj];exact(List.drop_eq_getElem_cons hj).symm
   have b:(a.getD j 0::g).Sublist (a.getD j 0::a.drop (j+1)):=c.cons_cons _
   rw[e]at b;exact b.trans (List.drop_sublist _ _)
  .rintro⟨f,c⟩;cases l with
   |nil=>cases c
   |cons x l=>
    obtain⟨j,d,b,i⟩:=OR f;exact⟨j,List.mem_range.mpr d,List.mem_map.mpr ⟨l,ZH.mpr ⟨i,by simpa using c⟩,by rw[b]⟩⟩
def sK(f:α->List β)(b:Nat):∀(L:List α),(∀x∈L,(f x).length<=b)->(L.flatMap f).length<=L.length*b
 |[],_=>Da _
 |x::r,h=>by
  rw[Gp,Af,Av,Nat.succ_mul];have d:=sK f b r λy a=>h y (Al _ a)
  grind
def jR:∀ {m:Nat} {a:List Nat},a.length<=6->(cW a m).length<=6^m
 |0,a,_=>by rw[kU];decide
 |m+1,a,h=>by
  refine Bh (sK _ (6^m) _ λj _=>?_) ?_
  .rw[Ab];exact jR (by grind)
  .rw[Bf,Nat.pow_succ,Nat.mul_comm];exact Nat.mul_le_mul_left _ h
def J4(a:List Nat)(j:Nat):(a.map λk=>V.int ((k:Nat):Int)).drop j=((a.drop j).map λk=>V.int ((k:Nat):Int)):=(Fu ..).symm
def Lm:kB xs (some ((k:Nat):Int)) none=xs.drop k:=by
 show (xs.drop (if ((k:Nat):Int)<0 then (((k:Nat):Int)+(xs.length:Int)).toNat else min (_:Int).toNat xs.length)).take (xs.length-(if ((k:Nat):Int)<0 then (((k:Nat):Int)+(xs.length:Int)).toNat else min (_:Int).toNat xs.length))=_
 rw[if_neg (by omega),Fq]
 by_cases h:k<=xs.length
 .rw[Fm h,Bg (by simp_all)]
 .rw[Fe (by omega),List.drop_length,List.take_nil,Hv (by omega)]
noncomputable def qU(a:List Nat)(m i:Nat):List (List Nat):=(List.range i).flatMap λj=>(cW (a.drop (j+1)) m).map λl=>a.getD j 0::l
def GS(a:List Nat)(m i:Nat):qU a m (i+1)=qU a m i++(cW (a.drop (i+1)) m).map λl=>a.getD i 0::l:=by
 unfold qU;rw[Cm,Fw,Gp,List.flatMap_nil,Br]
def CU(h:m<=7):6^m<=279936:=Bh (Nat.pow_le_pow_right (by decide) h) (by decide)
def FU{m i:Nat}(h:ks.length<=6):(qU ks m i).length<=i*6^m:=by
 have:=sK (λj=>(cW (ks.drop (j+1)) m).map λl=>ks.getD j 0::l) _ (List.range i) λj _=>by
  rw[Ab];exact jR (by rw[Cf];omega)
 rwa [Bf]at this
def UN{x:V}(h:(ps.map V.ref)[j]?=some x):∃p,ps[j]?=some p/\x=.ref p:=by
 rw[Ag]at h;cases e:ps[j]? with
 |none=>rw[e]at h;cases h
 |some p=>rw[e]at h;cases h;exact⟨p,rfl,rfl⟩
def Mn(k:Nat)(L:Q6):(List.range L.length).map (λj=>V.int ((k:Nat):Int)::((L.getD j []).map λk=>V.int ((k:Nat):Int)))=(L.map λl=>k::l).map λl=>(l.map λk=>V.int ((k:Nat):Int)):=by
 rw[Ce];have h:∀n,n<=L.length->(List.range n).map (λj=>V.int ((k:Nat):Int)::((L.getD j []).map λk=>V.int ((k:Nat):Int)))=(L.take n).map ((λl=>(l.map λk=>V.int ((k:Nat):Int))) ∘ λl=>k::l):=λn=>by
  induction n with
  |zero=>intro _;rfl
  |succ n a=>
   intro b;have e:L[n]?=some L[n]:=Aa (by (assumption))
   rw[Cm,Ap,a (by (exact Nat.le_of_lt (by assumption))),Bd,e,Ap]
   grind
 have r:=h L.length (Ah _)
 rwa [Cg]at r
def cZ(n:Nat):Sp:=λe H Q _=>∃b d m,e=[.ref b,.int ((m:Nat):Int)]/\Z4 H b=some (d.map λk=>V.int ((k:Nat):Int))/\d.length<=6/\m<n/\m<=7/\
 ∀r c a,H r=none->Z_ H a->a r=some (.lst (c.map V.ref))->ZQ H a c ((cW d m).map λl=>(l.map λk=>V.int ((k:Nat):Int)))->(∀p∈c,p≠r)->Q (.ref r) a
def rQ:∀a H Q E,¬cZ 0 a H Q E:=λa H Q E ⟨_,_,_,_,_,_,h,_⟩=>Gf _ h
def l0:Z9 ["numbers", "many", "lists", "at", "number", "behind"] ["numbers", "many"] (aJ dO):=by fail "sc"
def tO{n:Nat}(F:ZT K "rising_lists" "rising_lists" dO f fd)(n8:ZR P w K mg base (d+1) "rising_lists" ["numbers", "many"] (cZ n)):Z8 P w K mg base ZS (d+2) f fd ["numbers", "many"] (cZ (n+1)):=by
 refine F.ok l0 (λvs H Q E h=>?_) (λcdv A outer s H vs Q E hr h=>?_)
 .obtain⟨b,ks,m,rfl,_⟩:=h;rfl
 obtain⟨b,ks,m,rfl,hb,h6,hmn,h7,q⟩:=h;refine⟨_,(@aE _ _ _ _ _ (cD (bB lC (mv 1) aK (bA _)) (@aI _ _ _ (aU (bQ (aA (bQ aB) aB)))) bE) (@aE _ _ _ _ _ (aP 2 l0.nd (bQ aB)) (@aE _ _ _ _ _ (cV Bs rfl (mW rfl G.b_enumerate (aA (mv 0) aB)) (eT (K:=K) (i:=3) (j:=4) (by rfl) (by rfl) l0.nd (by rfl) (by exact(Or.inl rfl)) (by exact Or.inl rfl) (by rfl) (by exact(Or.inr rfl)) (by exact Or.inl rfl)) (@aE _ _ _ _ _ (aP 5 l0.nd (aT n8 hr (Ah _) rfl (aA (iB Vz (mv 0) (fH (aQ bO (mv 3) aK)) Tj) (aA (aQ qK (mv 1) aK) aB)))) (@aI _ _ _ (bU (cI Bj Eo Ep VC (mv 2) (aA (cL rfl (bT (mv 5)) (gF (N:=["rest", "number"]) ["numbers", "many", "lists", "at", "number", "behind"] (aJ dO) [none,some 4] rfl rfl rfl (λx h=>bX h) (by decide +kernel)) (by decide +kernel) rfl (by decide +kernel) (λ_ _ _ _=>(aZ (i:=0) (show List.Nodup (["rest", "number"]:List Str) by decide +kernel) rfl (Or.inl rfl))) (λ_ _ _ _=>cY) (λ_ _ _ _=>(aQ bO (bQ (aA (mv 1) aB)) (mv 0)))) aB)))))) (@aI _ _ _ (aU (mv 2)))))),?_⟩
 cases m with
 |zero=>
  fail "g";rw[show decide (((0:Nat):Int)=0)=true from rfl];fail "g";refine⟨by decide,λp hp=>?_⟩
  have s1:=aG hp (.lst [])
  have e1:(upd H p (.lst [])) p=some (.lst ((([]:List Nat)).map λk=>V.int ((k:Nat):Int))):=aD
  generalize upd H p (.lst [])=H1 at s1 e1 ⊢;fail "g";refine⟨z0,λr hr=>?_⟩
  have s2:=aG hr (.lst [.ref p])
  have npr:p≠r:=λz=>by rw[z,hr]at e1;cases e1
  refine q r [p] _ (none_of s1 hr) (s1.trans s2) aD ?_ (λz hz=>by rw[Aj.mp hz];exact npr)
  rw[kU];exact ZQ.snoc (ps:=[]) (fs:=[]) .nil hp (s2 _ _ e1)
 |succ m=>
  have h6m:=CU (m:=m+1) h7
  rw[Nat.pow_succ]at h6m;fail "g";rw[show decide (((m+1:Nat):Int)=0)=false from Aw (by ((try clear h6 h6m hmn);omega))]
  fail "g";refine⟨by decide,λp hp=>?_⟩
  have s1:=aG hp (.lst [])
  have e1:(upd H p (.lst [])) p=some (.lst (([]:List Addr).map V.ref)):=aD
  generalize upd H p (.lst [])=H1 at s1 e1 ⊢;have hb1:=aM s1 hb
  fail "g";refine tX (xs:=(ks.map λk=>V.int ((k:Nat):Int))) (λi U H'=>∃ps v3 v4 v5,U=[some (.ref b),some (.int ((m+1:Nat):Int)),some (.ref p),v3,v4,v5]/\Z_ H H'/\H' p=some (.lst (ps.map V.ref))/\ZQ H H' ps ((qU ks m i).map λl=>(l.map λk=>V.int ((k:Nat):Int)))/\∀z∈ps,z≠p)
   ⟨[],_,_,_,rfl,s1,e1,.nil,λz hz=>nomatch hz⟩ (λi U H' _ ⟨_,_,_,_,_,e,_⟩=>aM e hb) ?_ ?_
  .rintro i x U H2 pt hx ⟨ps,v3,v4,v5,rfl,s2,e2,ls,nd⟩ hpt;obtain⟨k,ek,rfl⟩:=qO hx;have hi:=(Ad.mp ek).1
   have hps:ps.length=(qU ks m i).length:=by rw[ls.1,Ab]
   have hpl:=FU (m:=m) (i:=i) h6
   have hpl2:i*6^m<=5*6^m:=Nat.mul_le_mul_right _ (by ((try clear h6m h7 hmn hpl hps);omega))
   have s3:=s2.trans (aG hpt (.tup [.int ((0+i:Nat):Int),.int ((k:Nat):Int)]))
   have s23:=aG hpt (.tup [.int ((0+i:Nat):Int),.int ((k:Nat):Int)])
   have et3:(upd H2 pt (.tup [.int ((0+i:Nat):Int),.int ((k:Nat):Int)])) pt=some (.tup [.int ((0+i:Nat):Int),.int ((k:Nat):Int)]):=aD
   generalize upd H2 pt (.tup [.int ((0+i:Nat):Int),.int ((k:Nat):Int)])=H3 at s3 s23 et3 ⊢;have hb3:=aM s3 hb
   have tt3:=cX et3
   fail "g";rw[show ((0+i:Nat):Int)+1=((i+1:Nat):Int) by ((try clear h6 h6m h7 hi hmn hpl hpl2 hps);omega)]
   intro ra hra;rw[Lm,J4];have s4:=aG hra (.lst ((ks.drop (i+1)).map λk=>V.int ((k:Nat):Int)))
   have e4:Z4 (upd H3 ra (.lst ((ks.drop (i+1)).map λk=>V.int ((k:Nat):Int)))) ra=some ((ks.drop (i+1)).map λk=>V.int ((k:Nat):Int)):=cE
   generalize upd H3 ra (.lst ((ks.drop (i+1)).map λk=>V.int ((k:Nat):Int)))=H4 at s4 e4 ⊢;have s24:=s23.trans s4
   fail "g";rw[show ((m+1:Nat):Int)-1=((m:Nat):Int) by ((try clear h6 h6m h7 hi hmn hpl hpl2 hps);omega)]
   refine⟨ra,ks.drop (i+1),m,rfl,e4,by rw[Cf];((try clear h6m h7 hmn hpl hpl2 hps);omega),by ((try clear h6 h6m h7 hi hpl hpl2 hps);omega),by (exact Nat.le_of_lt (by assumption)),λrb qs H5 hrb s5 e5 lq nq=>?_⟩
   have s25:=s24.trans s5
   have rb5:=aO e5
   have rp5:=aO (s25 _ _ e2)
   have hqs:qs.length=(cW (ks.drop (i+1)) m).length:=by rw[lq.1,Ab]
   have hql:(cW (ks.drop (i+1)) m).length<=6^m:=jR (by rw[Cf];((try clear h6m h7 hmn hpl hpl2 hps hqs);omega))
   fail "g";refine La (λj=>V.int ((k:Nat):Int)::(((cW (ks.drop (i+1)) m).getD j []).map λk=>V.int ((k:Nat):Int))) rb5 (by rw[Ab,hqs];exact Nat.lt_of_le_of_lt (Bh hql (Bh (Nat.le_mul_of_pos_right _ (by decide:0<6)) h6m)) (by decide)) (λj x Hc A B hx sm hA=>?_) (λD Hd us hD sd eD hul lu nu=>?_)
   .obtain⟨u,eu,rfl⟩:=UN hx;have hj:j<(cW (ks.drop (i+1)) m).length:=by rw[<-hqs];exact(Ad.mp eu).1
    obtain⟨l,el⟩:∃l,(cW (ks.drop (i+1)) m)[j]?=some l:=⟨_,Aa hj⟩;have hu:=sm _ _ (lq.2 j u (l.map λk=>V.int ((k:Nat):Int)) eu (by rw[Ag,el];rfl)).2
    have hll:l.length=m:=(ZH.mp (Ao el)).2
    have hgl:(cW (ks.drop (i+1)) m).getD j []=l:=by rw[Ac,el];rfl
    rw[hgl]at hA;fail "g";refine⟨Wk.set rfl (Wk.refl _),?_⟩;fail "g";refine⟨z0,λp6 hp6=>?_⟩
    have s6:=aG hp6 (.lst [V.int ((k:Nat):Int)])
    have e6:(upd Hc p6 (.lst [V.int ((k:Nat):Int)])) p6=some (.lst [V.int ((k:Nat):Int)]):=aD
    have hu6:=s6 _ _ hu
    generalize upd Hc p6 (.lst [V.int ((k:Nat):Int)])=H6 at s6 e6 hu6 ⊢;refine jJ (bM e6) (bM hu6) (bK (by rw[Ab];show 1+_<=_;((try clear h6 h6m hi hj hmn hpl hpl2 hps hql hqs);omega))) λp7 hp7=>?_
    exact hA p7 _ (none_of s6 hp7) (s6.trans (aG hp7 _)) aD
   .rw[Ab,hqs,Mn]at lu;rw[Ab]at hul;have s2d:=s25.trans sd
    have e2d:=s2d _ _ e2
    have npD:∀z∈us,z≠p:=λz hz zp=>by
     obtain⟨g,_,h1,_⟩:=lu.mem hz;rw[zp,s25 _ _ e2]at h1;cases h1
    have hek:ks.getD i 0=k:=by rw[Ac,ek];rfl
    fail "g";refine OS (bM e2d) (bM eD) (Bh (by rw[Ab,Ab,hps,hul,hqs];((try clear h6 h7 hek hi hmn hps);omega):_<=279936) (by decide)) ?_
    fail "g";refine⟨ps++us,_,_,_,rfl,bL hp (s2.trans s2d),by rw[Ap];exact aD,?_,λz hz=>?_⟩
    .rw[GS,Ap,hek];refine ZQ.put ?_ λz hz=>?_
     .exact(ls.keep s2d).app (lu.X6 (s2.trans s25))
     .rcases Bi.mp hz with e|e
      .exact nd z e
      .exact npD z e
    .rcases Bi.mp hz with e|e
     .exact nd z e
     .exact npD z e
  .rintro U H2 ⟨ps,v3,v4,v5,rfl,s2,e2,ls,nd⟩;fail "g";refine q p ps H2 hp s2 e2 ?_ nd;rw[kW];rw[Ab]at ls;exact ls
def HA{n:Nat}:∀ {L:List Str},(∀z∈L,z.length<=n)->(Txt.join sep L).length<=(n+sep.length)*L.length
 |[],_=>Da _
 |y::r,h=>by
  have c:∀r:List Str,(∀z∈r,z.length<=n)->(r.map λy=>sep.cps.toList++y.cps.toList).flatten.length<=(n+sep.length)*r.length:=λr h=>by
   induction r with
   |nil=>exact Ah _
   |cons u v b=>
    rw[Au,By,Af,Af,Av,eX,eX];grind
  rw[<-eX,OM,Af,eX,Av,Nat.mul_succ];grind
def dM(F:α->V):∀a:List α,(List.range a.length).filterMap (λj=>(a[j]?).map F)=a.map F:=λa=>by
 have h:∀n,n<=a.length->(List.range n).filterMap (λj=>(a[j]?).map F)=(a.take n).map F:=λn=>by
  induction n with
  |zero=>intro _;rfl
  |succ n b=>
   intro c;have e:a[n]?=some a[n]:=Aa (by (assumption))
   rw[jE (y:=F a[n]) (by rw[e];rfl),b (by (exact Nat.le_of_lt (by assumption))),Bd,e,Ap]
   rfl
 have r:=h a.length (Ah _)
 rw[Cg]at r;exact r
noncomputable def A2:Option (List Nat)->Str
 |none=>⟨#[45]⟩
 |some a=>aV a
def YL(H:Hp)(v:V):Option (List Nat)->Prop
 |none=>v=.non
 |some a=>∃p,v=.ref p/\H p=some (.lst ((a.map one).map V.str))
def fE(hs:List (Option (List Nat))):Prop:=∀a,some a∈hs->dE (a.map one)=true
structure Z6 (H:Hp) (vs:List V) (hs:List (Option (List Nat))):Prop where
 len:vs.length=hs.length
 val:∀(j:Nat) v h,vs[j]?=some v->hs[j]?=some h->YL H v h
def YL.keep(a:YL H v h)(s:∀p b,H p=some (.lst b)->v=.ref p->H' p=some (.lst b)):YL H' v h:=by
 cases h with
 |none=>exact a
 |some d=>
  obtain⟨p,e,c⟩:=a;exact⟨p,e,s p _ c e⟩
def Z6.keep(a:Z6 H vs hs)(s:Z_ H H'):Z6 H' vs hs:=⟨a.len,λj v h b d=>(a.val j v h b d).keep λp e c _=>s _ _ c⟩
def Z6.nil:Z6 H [] []:=⟨rfl,λj v h a=>nomatch a⟩
def Z6.snoc{hs:Q4}{v:V}{h:Option (List Nat)}(a:Z6 H vs hs)(b:YL H v h):Z6 H (vs++[v]) (hs++[h]):=by
 refine⟨by rw[Af,Af,a.len];rfl,λj x g c d=>?_⟩
 by_cases f:j<vs.length
 .rw[Am f]at c;rw[Am (by rw[<-a.len];exact f)]at d
  exact a.val j x g c d
 .have e:j=vs.length:=by
   grind
  subst e;rw[Aq (Ah _),Eh]at c;rw[a.len,Aq (Ah _),Eh]at d;cases c;cases d;exact b
def YL.ne(d:H r=some (.lst vs))(f:vs[j]?=some v)(a:YL H v h):v≠.ref r:=λz=>by
 cases h with
 |none=>rw[show v=.non from a]at z;cases z
 |some g=>
  obtain⟨p,e,c⟩:=a;simp_all
def Z6.put(d:H r=some (.lst vs))(a:Z6 H vs hs):Z6 (upd H r (.lst us)) vs hs:=⟨a.len,λj v h b c=>(a.val j v h b c).keep λp g f e=>by
 rw[aH (λz=>(a.val j v h b c).ne d b (by simp_all))]
 exact f⟩
def Z6.at(a:Z6 H vs hs)(b:vs[j]?=some v):∃h,hs[j]?=some h/\YL H v h:=by
 have c:j<hs.length:=by rw[<-a.len];exact(Ad.mp b).1
 exact⟨hs[j],Aa c,a.val j v _ b (Aa c)⟩
def Pp{g:TG}{d:TT}{L:TE}{J:St}{l:Hp}{Q:VK}{hs:Q4}(E:Z4 l a=some xs)(T:xs.length<sizeLine)(R:xs.length=hs.length)(q:∀(i:Nat) x h c A (B:Hp->Prop),xs[i]?=some x->hs[i]?=some h->Z_ l c->(∀v k,Z_ c k->YL k v h->(∀p,v=.ref p->c p=none)->A v k)->
 g x J c λI U=>Wk J I/\d I U λb O=>if b=true then L I O A else B O)(G:∀D k w,l D=none->Z_ l k->k D=some (.lst w)->Z6 k w hs->(∀p,V.ref p∈w->l p=none)->Q (.ref D) k):eF g d L J Q (Xa K a) l:=by
 refine jM (n:=xs.length) (λD i m c=>Z_ l c/\Z6 c m (hs.take i)/\∀p,V.ref p∈m->l p=none) T (λD t=>⟨aG t _,.nil,λp s=>nomatch s⟩)
  (λD i m c _ r h=>⟨xs,xs[i],bC (aM r.1 E),by simp[h]⟩) (λD m c _ r=>⟨xs,bC (aM r.1 E),Nat.le_refl _⟩) ?_ ?_
 .rintro D i m c x X A B t Z ⟨o,j,F⟩ f ⟨rfl,P⟩ C hb;have y:i<hs.length:=by ((try clear T);omega)
  have N:=Aa y
  refine q i x hs[i] X A B (P xs (bC (aM o E))) N o (λv k u S M=>?_);refine C _ _ (u _ _ f) ⟨bL t (o.trans u),?_,λp s=>?_⟩
  .rw[Bd,N];refine Z6.snoc ((j.keep u).put (u _ _ f)) (S.keep λp Y s e=>?_);rw[aH (λz=>by have:=M p e;rw[z,f]at this;cases this)]
   exact s
  .rcases Bi.mp s with e|e
   .exact F p e
   .exact none_of o (M p (Aj.mp e).symm)
 .rintro D m c t ⟨o,j,F⟩ f _;rw[R,Cg]at j;exact G D c m t o f j F
def Ph{f:Nat->Option Int}(a:∀c,0<=aR f c)(c:Nat):aR (bD (aR f)) c<=aR f c:=by
 show (bD _ c).getD 0<=_
 unfold bD;split
 .exact Ih _
 .exact a c
def ZG.plain{f:Nat->Option Int}{W:List Wt}(a:∀c,0<=aR f c)(h:ZG cws (aR (bD (aR f))) W F):ZG cws (aR f) W F:=by
 refine⟨h.sub,h.flags,h.all,?_⟩;have e:F.map (aR f)=F.map (aR (bD _)):=Dy λc b=>by
  obtain⟨p,d⟩:=h.flags;rw[d]at b;exact(nH (Zd.mp (Dg.mp b).1) (a c)).symm
 rw[e];exact h.QH
def lK:∀i,i<=cws.length->(XI cws i).length=gN cws i
 |0,_=>rfl
 |i+1,h=>by
  have e:cws[i]?=some cws[i]:=Aa (by (assumption))
  rw[mR,Af,lK i (by (exact Nat.le_of_lt (by assumption))),Qg e]
  unfold qI;rw[Ab,Bf,Ac,e];rfl
def BW(b:cws[i]?=some cw)(f:k<cw.length):(wl cws)[gN cws i+k]?=some (i,1+k):=by
 have a:=(Ad.mp b).1
 have h:∀n,i<n->n<=cws.length->(XI cws n)[gN cws i+k]?=some (i,1+k):=λn=>by
  induction n with
  |zero=>intro h;((try clear a f);omega)
  |succ n c=>
   intro j g;rw[mR];by_cases d:i=n
   .subst d;have e:=lK (cws:=cws) i (by (exact Nat.le_of_lt (by assumption)))
    rw[Aq (by ((try clear a f g j);omega)),show gN cws i+k-(XI cws i).length=k by ((try clear a f g j);omega)]
    unfold qI;simp_all
   grind
 exact h cws.length a (Ah _)
def Hg(cw h:List Nat):Prop:=h.length=cw.length/\∀k g,h[k]?=some g->g∈Xn cw k
inductive YA:List (List Nat)->List (List Nat)->Prop
 |nil:YA [] []
 |cons {cw h:List Nat} {cws hs:Q6}:Hg cw h->YA cws hs->YA (cw::cws) (h::hs)
def nG(xs ys:List Nat)(c:Nat):Yr (xs++ys) c=Yr xs c+Yr ys c:=List.countP_append
def YA.sub(s:cws'.Sublist cws):∀ {d:Q6},YA cws d->∃b,YA cws' b/\∀c,Yr b.flatten c<=Yr d.flatten c:=by
 induction s with
 |slnil=>intro d h;exact⟨d,h,λc=>Ah _⟩
 |cons a s e=>
  rintro _ (_|⟨g,f⟩);obtain⟨b,p,q⟩:=e f;exact⟨b,p,λc=>by rw[By,nG];have:=q c;omega⟩
 |cons_cons a s e=>
  rintro _ (_|⟨g,f⟩);obtain⟨b,p,q⟩:=e f;exact⟨_::b,.cons g p,λc=>by rw[By,nG,By,nG];have:=q c;omega⟩
def YA.perm(s:cws.Perm cws'):∀ {f:Q6},YA cws f->∃d,YA cws' d/\∀c,Yr d.flatten c=Yr f.flatten c:=by
 induction s with
 |nil=>intro f h;exact⟨f,h,λc=>rfl⟩
 |cons a s r=>
  rintro _ (_|⟨g,e⟩);obtain⟨d,p,q⟩:=r e;exact⟨_::d,.cons g p,λc=>by rw[By,nG,By,nG,q c]⟩
 |swap a b l=>
  rintro _ (_|⟨g,e⟩);rcases e with _|⟨e,t⟩
  exact⟨_,.cons e (.cons g t),λc=>by simp only[List.flatten_cons,nG];omega⟩
 |trans _ _ j i=>
  grind
def XA(n:Nat->Int)(cws:List (List Nat)):Prop:=∃a,YA cws a/\∀c,(Yr a.flatten c:Int)<=n c
def YA.len{hs:Q6}(h:YA cws hs):hs.length=cws.length:=by
 induction h with
 |nil=>rfl
 |cons _ _ a=>rw[Av,Av,a]
def P1{w:Wt}:∀i,i<=cws.length->(XI cws i)[j]?=some w->∃a k c,a<i/\cws[a]?=some c/\k<c.length/\w=(a,1+k)/\j=gN cws a+k
 |0,_,h=>by cases h
 |i+1,hi,h=>by
  rw[mR]at h;have g:=lK (cws:=cws) i (by (exact Nat.le_of_lt (by assumption)))
  by_cases d:j<(XI cws i).length
  .rw[Am d]at h;obtain⟨a,k,c,p,q⟩:=P1 i (by (exact Nat.le_of_lt (by assumption))) h
   exact⟨a,k,c,by ((try clear d g hi q);omega),q⟩
  .rw[Aq (by ((try clear hi);omega))]at h
   unfold qI at h;grind
def YA.at{hs:Q6}(h:YA cws hs):∀ {i:Nat} {c:List Nat},cws[i]?=some c->∃g,hs[i]?=some g/\Hg c g:=by
 induction h with
 |nil=>intro i c e;cases e
 |cons a b d=>
  intro i c e;cases i with
  |zero=>cases e;exact⟨_,rfl,a⟩
  |succ i=>exact d e
def YA.Ww{hs:Q6}(h:YA cws hs):∀i,(hs.take i).flatten.length=gN cws i:=by
 induction h with
 |nil=>intro i;cases i<;>rfl
 |cons a b c=>
  intro i;cases i with
  |zero=>rfl
  |succ i=>
   have:=c i
   unfold gN at this ⊢;rw[Ha,By,Af,this,Ha,Au,Cv,a.1]
def I0{hs:Q6}{g:List Nat}(h:hs[i]?=some g)(a:k<g.length):hs.flatten[(hs.take i).flatten.length+k]?=g[k]? := by
 have e:hs=hs.take i++(g::hs.drop (i+1)):=by
  obtain⟨c,b⟩:=Ad.mp h;rw[<-b,<-List.drop_eq_getElem_cons c,El]
 have d:hs.flatten=(hs.take i).flatten++(g++(hs.drop (i+1)).flatten):=by grind
 rw[d,Aq (by ((try clear a);omega)),Cu,Am a]
def XA.Wf(h:XA n cws):Y3 n cws:=by
 obtain⟨e,d,p⟩:=h;refine⟨e.flatten,?_,λj w g l f=>?_,p⟩
 .have i:=d.Ww cws.length
  rw[show e.take cws.length=e from Bg (Nat.le_of_eq d.len)]at i;rw[i];exact(lK _ (Ah _)).symm
 .obtain⟨a,k,r,q,c,m,rfl,rfl⟩:=P1 cws.length (Ah _) l;obtain⟨h,o,b⟩:=d.at c;rw[<-d.Ww a,I0 o (by rw[b.1];exact m)]at f
  unfold ZK;rw[Ac,c,show (a,1+k).2-1=k by grind]
  exact b.2 k g f
noncomputable def jX:List (List Nat)->List Nat->List (List Nat)
 |[],_=>[]
 |cw::r,fs=>fs.take cw.length::jX r (fs.drop cw.length)
def nO:∀ {b:Q6} {a:List Nat},a.length=(b.map List.length).sum->(jX b a).flatten=a
 |[],a,h=>by rw[Gd h];rfl
 |cw::r,a,h=>by
  rw[Au,Cv]at h;rw[jX,By,nO (by grind),El]
def OQ:∀ {a:Q6} {e:List Nat},e.length=(a.map List.length).sum->(∀i k g b,a[i]?=some b->k<b.length->e[gN a i+k]?=some g->g∈Xn b k)->YA a (jX a e)
 |[],e,h,_=>.nil
 |b::r,e,h,hc=>by
  rw[Au,Cv]at h;refine .cons ⟨by rw[Bt];omega,λk g d=>?_⟩ (OQ (by rw[Cf];omega) λi k g f l d j=>?_)
  .have c:k<b.length:=by
    grind
   rw[List.getElem?_take,if_pos c]at d;exact hc 0 k g b rfl c (by rw[show gN (b::r) 0=0 from rfl,Nat.zero_add];exact d)
  .refine hc (i+1) k g f l d ?_;rw[List.getElem?_drop]at j;rw[show gN (b::r) (i+1)=b.length+gN r i by unfold gN;rw[Ha,Au,Cv],Nat.add_assoc]
   exact j
def Ux(cws:Q6):(wl cws).length=(cws.map List.length).sum:=by
 have h:=lK  cws.length (Ah _)
 unfold gN at h;rwa[Cg]at h
def Sj(c:fs.length=(wl cws).length)(a:∀(j:Nat) w g,(wl cws)[j]?=some w->fs[j]?=some g->g∈ZK cws w):YA cws (jX cws fs):=by
 refine OQ (c.trans (Ux cws)) λi k g f b d e=>?_;have h:=a _ _ g (BW b d) e
 unfold ZK at h;grind
def Y3.U9(h:Y3 n cws):XA n cws:=by
 obtain⟨d,b,a,c⟩:=h;exact⟨jX cws d,Sj b a,by rwa[nO (b.trans (Ux cws))]⟩
def Y3.sub(h:Y3 n cws)(s:cws'.Sublist cws):Y3 n cws':=by
 obtain⟨e,b,d⟩:=h.U9;obtain⟨a,p,q⟩:=b.sub s;exact XA.Wf ⟨a,p,λc=>by grind⟩
def Y3.perm(h:Y3 n cws)(s:cws.Perm cws'):Y3 n cws':=by
 obtain⟨e,b,d⟩:=h.U9;obtain⟨a,p,q⟩:=b.perm s;exact XA.Wf ⟨a,p,λc=>by simp_all⟩
def Y3.nil(h:∀c,0<=n c):Y3 n []:=XA.Wf ⟨[],.nil,h⟩
def Z6.get(a:Z6 H vs hs)(c:k<hs.length):∃v,YV vs (k:Int)=some v/\vs[k]?=some v/\YL H v (hs.getD k none):=by
 have b:k<vs.length:=by rwa[a.len]
 refine⟨vs[k],aY (Aa b),Aa b,?_⟩;refine a.val k _ _ (Aa b) ?_;simp_all
noncomputable def bJ(hs:List (Option (List Nat)))(n:Nat):List Nat:=(List.range hs.length).filter λk=>(hs.getD k none).isSome && !decide (k=n)
def nE{n:Nat}(h:k∈bJ hs n):k<hs.length/\(hs.getD k none).isSome=true/\k≠n:=by
 obtain⟨b,a⟩:=Dg.mp h;simp_all
def wH{n:Nat}(b:n<hs.length):(bJ hs n).length+1<=hs.length:=by
 have d:(bJ hs n).Sublist ((List.range hs.length).filter λk=>!decide (k=n)):=by
  have e:bJ hs n=((List.range hs.length).filter λk=>!decide (k=n)).filter λk=>(hs.getD k none).isSome:=by
   unfold bJ;rw[List.filter_filter]
  rw[e];exact Fx
 have i:=d.length_le
 have c:=List.length_eq_countP_add_countP (p:=λk=>decide (k=n)) (l:=List.range hs.length)
 rw[Bf]at c;have h:1<=(List.range hs.length).countP λk=>decide (k=n):=by
  refine List.countP_pos_iff.mpr ⟨n,Bu.mpr b,An rfl⟩
 have g:((List.range hs.length).filter λk=>!decide (k=n)).length=(List.range hs.length).countP λk=>!decide (k=n):=Gg.symm
 have f:((List.range hs.length).countP λa=>¬(decide (a=n))=true)=(List.range hs.length).countP λk=>!decide (k=n):=by
  congr 1
  funext k
  cases decide (k=n)<;>rfl
 ((try clear b);omega)
noncomputable def Wo(hs:List (Option (List Nat)))(n:Nat)(i:Nat):Option V:=if ((hs.getD i none).isSome && !decide (i=n))=true then some (V.int ((i:Nat):Int)) else none
def KY(hs:Q4)(n m:Nat):(List.range m).filterMap (Wo hs n)=((List.range m).filter λk=>(hs.getD k none).isSome && !decide (k=n)).map λk=>V.int ((k:Nat):Int):=by
 induction List.range m with
 |nil=>rfl
 |cons a r c=>
  by_cases h:((hs.getD a none).isSome && !decide (a=n))=true
  .rw[Cb  (by unfold Wo;rw[if_pos h]),List.filter_cons_of_pos (p:=λk=>(hs.getD k none).isSome && !decide (k=n)) h,Au,c]
  .rw[Cj (by unfold Wo;rw[if_neg h]),List.filter_cons_of_neg (p:=λk=>(hs.getD k none).isSome && !decide (k=n)) h,c]
def lJ:Sp:=λe H Q _=>∃a d b n,e=[.ref a,.int ((n:Nat):Int)]/\Z4 H a=some d/\Z6 H d b/\b.length<=7/\
 ∀r c,H r=none->Z_ H c->c r=some (.lst ((bJ b n).map λk=>V.int ((k:Nat):Int)))->Q (.ref r) c
def vU:Z9 ["halyards", "number"] ["halyards", "number"] (aJ gD):=by fail "sc"
def uV(F:ZT K "others_hung" "others_hung" gD f fd):Z8 P w K mg base ZS 1 f fd ["halyards", "number"] lJ:=by
 refine F.ok vU (λy H Q E h=>?_) (λR A l s H y Q E W h=>?_)
 .obtain⟨a,o,c,n,rfl,_⟩:=h;rfl
 obtain⟨a,o,c,n,rfl,M,d,Y,q⟩:=h;refine⟨_,(@aI _ _ _ (aU (cL rfl (mW rfl G.b_enumerate (aA (mv 0) aB)) (gF (N:=["other", "hoist", "number"]) ["halyards", "number"] (aJ gD) [none,none,some 1] rfl rfl rfl (λx h=>bX h) (by decide +kernel)) (by decide +kernel) rfl (by decide +kernel) (λ_ _ _ _=>(eT (K:=K) (i:=0) (j:=1) (by rfl) (by rfl) (show List.Nodup (["other", "hoist", "number"]:List Str) by decide +kernel) (by rfl) (Or.inl rfl) (Or.inr rfl) (by rfl) (Or.inl rfl) (Or.inr rfl))) (λ_ _ _ _=>(jN (PW.pt (UQ (bB TR (mv 1) dF (bA _)) (uD (bB P6 (mv 0) (mv 2) (bA _))))))) (λ_ _ _ _=>(mv 0))))),?_⟩
 have b:=d.len
 fail "g";refine MK (xs:=o) (Wo c n) M (bF (by omega)) (λi x T p A B r U X v m=>?_) (λD S O I u=>?_)
 .have L:i<c.length:=by rw[<-b];exact(Ad.mp r).1
  have k:=d.val i x (c.getD i none) r (by rw[Ac,Aa L];rfl)
  have C:nT (upd T p (.tup [.int ((0+i:Nat):Int),x])) p=some [.int ((0+i:Nat):Int),x]:=mY
  rw[Nat.zero_add]at C v m ⊢;fail "g";refine⟨Wk.set rfl (Wk.set rfl (Wk.refl _)),?_⟩;fail "g";cases e:c.getD i none with
  |none=>
   rw[e]at k;obtain rfl:x=V.non:=k;exact m (by unfold Wo;rw[e];rfl) _ (Z_.refl _)
  |some Z=>
   rw[e]at k;obtain⟨J,rfl,_⟩:=k;rw[show decide (V.ref J=V.non)=false from Aw (λz=>nomatch z)]
   fail "g";by_cases t:i=n
   .rw[An (show ((i:Nat):Int)=((n:Nat):Int) by ((try clear L Y b);omega))]
    exact m (by unfold Wo;rw[e,An t];rfl) _ (Z_.refl _)
   .rw[Aw (show ¬((i:Nat):Int)=((n:Nat):Int) by ((try clear L Y b);omega))]
    exact v _ (by unfold Wo;rw[e,Aw t];rfl) _ (Z_.refl _)
 .rw[b,KY]at u;exact q D S O I u
noncomputable def bV(hs:List (Option (List Nat)))(a:List Nat):List Nat:=a.flatMap λk=>(hs.getD k none).getD []
def EB(hs:Q4)(A B:List Nat):bV hs (A++B)=bV hs A++bV hs B:=Fw ..
def zT(ok:fE hs)(k:Nat):((hs.getD k none).getD []).length<=7:=by
 cases e:hs[k]? with
 |none=>rw[Ac,e];exact Da _
 |some h=>
  rw[Ac,e];cases h with
  |none=>exact Da _
  |some a=>
   have:=fG (ok a (Ao e))
   simp_all
def fR(ok:fE hs):∀a,(bV hs a).length<=7*a.length
 |[]=>Da _
 |k::r=>by
  show (((hs.getD k none).getD [])++bV hs r).length<=_
  rw[Af,Av];have:=zT ok k
  have:=fR ok r
  omega
def gE:Sp:=λg H Q _=>∃a b f d c,g=[.ref a,.ref b]/\Z4 H a=some f/\Z6 H f d/\fE d/\Z4 H b=some (c.map λk=>V.int ((k:Nat):Int))/\c.length<=7/\(∀k∈c,k<d.length)/\
 ∀r e,H r=none->Z_ H e->e r=some (.lst (((bV d c).map one).map V.str))->Q (.ref r) e
def b8:Z9 ["halyards", "numbers", "flags", "number"] ["halyards", "numbers"] (aJ oM):=by fail "sc"
def EO(F:ZT K "flags_on" "flags_on" oM f fd)(G:Gs K mg w Zs Zz Zt Zx Z0 Zu Zy Zv Zw):Z8 P w K mg base ZS 1 f fd ["halyards", "numbers"] gE:=by
 refine F.ok b8 (λW H Q E h=>?_) (λa3 A t s H W Q E hr h=>?_)
 .obtain⟨a,b,X,d,c,rfl,_⟩:=h;rfl
 obtain⟨a,b,X,d,c,rfl,ha,D,M,N,h7,hk,q⟩:=h;refine⟨_,(@aE _ _ _ _ _ (aP 2 b8.nd (bQ aB)) (@aE _ _ _ _ _ (cV Bs rfl (bT (mv 1)) (aZ (i:=3) b8.nd rfl (Or.inl rfl)) (@aI _ _ _ (cD (bB TR (bI bZ (mv 0) (mv 3) (λ_ _=>rfl)) dF (bA _)) (@aI _ _ _ (bU (cI Bj Eo Ep VC (mv 2) (aA (bI bZ (mv 0) (mv 3) (λ_ _=>rfl)) aB)))) bE))) (@aI _ _ _ (aU (mv 2))))),?_⟩;fail "g";refine⟨by decide,λp B=>?_⟩
 have J:=aG B (.lst [])
 have a2:=aM J N
 fail "g";refine fX (xs:=(c.map λk=>V.int ((k:Nat):Int))) (λi U I=>∃v,U=[some (.ref a),some (.ref b),some (.ref p),v]/\Z_ H I/\I p=some (.lst (((bV d (c.take i)).map one).map V.str)))
  ⟨_,rfl,J,aD⟩ (λi U I _ ⟨_,_,e,_⟩=>aM e N) ?_ ?_
 .rintro i x U T hx ⟨v,rfl,j,n⟩;obtain⟨k,l,rfl⟩:=qO hx;have C:=hk k (Ao l)
  obtain⟨u,S,_,o⟩:=(D.keep j).get C;have L:=aM j ha
  have r:bV d (c.take (i+1))=bV d (c.take i)++(d.getD k none).getD []:=by
   rw[Bd,l,EB];show _++(_++[])=_
   rw[Br]
  fail "g";refine dG L S ?_;fail "g";cases O:d.getD k none with
  |none=>
   rw[O]at o r;rw[show u=.non from o,show decide (V.non=V.non)=true from rfl];fail "g";exact⟨_,rfl,j,by rw[r];show _=some (HO.lst (((_++[]).map one).map V.str));rwa[Br]⟩
  |some R=>
   have m:=zT M k
   rw[O]at o r m;obtain⟨Y,rfl,y⟩:=o;rw[show decide (V.ref Y=V.non)=false from Aw (λz=>nomatch z)]
   have Z:=fR M (c.take i)
   rw[Bt]at Z;have a1:(((bV d (c.take i)).map one).map V.str).length+((R.map one).map V.str).length<=sizeLine:=bK (by rw[Ab,Ab,Ab,Ab];have:R.length<=7:=m;((try clear C m);omega))
   fail "g";refine dG L S ?_;fail "g";refine⟨_,rfl,bL B j,?_⟩;rw[aD,r,Ap,Ap];rfl
 .rintro U T ⟨v,rfl,j,n⟩;rw[Bg (by rw[Ab];exact Ah _)]at n
  exact q p T B j n
def JL(h:os.length<m):cW os m=[]:=by
 cases e:cW os m with
 |nil=>rfl
 |cons l r=>
  have:=ZH.mp (show l∈cW os m by simp_all)
  grind
def vY:∀a,cW a a.length=[a]
 |[]=>kU []
 |k::r=>by
  rw[Av,kW,Av,List.range_succ_eq_map,Gp];have d:((cW ((k::r).drop (0+1)) r.length).map λl=>(k::r).getD 0 0::l)=[k::r]:=by
   show ((cW r r.length).map λl=>k::l)=_
   rw[vY r];rfl
  rw[d,List.flatMap_map];have c:((List.range r.length).flatMap λj=>(cW ((k::r).drop (j.succ+1)) r.length).map λl=>(k::r).getD j.succ 0::l)=[]:=by
   rw[List.flatMap_eq_nil_iff];intro j b;rw[JL (by rw[Cf,Av];have:=Bu.mp b;omega)]
   rfl
  rw[c];rfl
noncomputable def dL(os:List Nat):List (List Nat):=(List.range (os.length+1)).flatMap λm=>cW os m
noncomputable def sX(os:List Nat)(i:Nat):List (List Nat):=(List.range i).flatMap λm=>cW os m
def pG(os:List Nat)(i:Nat):sX os (i+1)=sX os i++cW os i:=by
 unfold sX;rw[Cm,Fw];simp_all
def Zj{l:List Nat}:l∈dL os ↔ l.Sublist os:=by
 unfold dL;rw[Ia];constructor
 .rintro⟨m,_,h⟩;exact(ZH.mp h).1
 .intro h;exact⟨l.length,Bu.mpr (Nat.lt_succ_of_le h.length_le),ZH.mpr ⟨h,rfl⟩⟩
def rC:∀ {i:Nat},os.length<=6->i<=6->(sX os i).length<=i*6^5
 |0,_,_=>Da _
 |i+1,h,hi=>by
  rw[pG,Af,Nat.succ_mul];have b:=rC (i:=i) h (by (exact Nat.le_of_lt (by assumption)))
  have a:(cW os i).length<=6^5:=Bh (jR h) (Nat.pow_le_pow_right (by decide) (by ((try clear b h);omega)))
  ((try clear h hi);omega)
def uK:Sp:=λe H Q _=>∃b d,e=[.ref b]/\Z4 H b=some (d.map λk=>V.int ((k:Nat):Int))/\d.length<=5/\
 ∀r c a,H r=none->Z_ H a->a r=some (.lst (c.map V.ref))->ZQ H a c ((dL d).map λl=>(l.map λk=>V.int ((k:Nat):Int)))->(∀p∈c,p≠r)->Q (.ref r) a
def b9:Z9 ["others", "sets", "many"] ["others"] (aJ rO):=by fail "sc"
def EE(F:ZT K "sets_of" "sets_of" rO f fd)(X:ZR P w K mg base 9 "rising_lists" ["numbers", "many"] (cZ 8)):Z8 P w K mg base ZS 10 f fd ["others"] uK:=by
 refine F.ok b9 (λW H Q E h=>?_) (λa6 A t s H W Q E Z h=>?_)
 .obtain⟨b,os,rfl,_⟩:=h;rfl
 obtain⟨b,os,rfl,N,h5,q⟩:=h;refine⟨_,(@aE _ _ _ _ _ (aP 1 b9.nd (bQ aB)) (@aE _ _ _ _ _ (cV Bs rfl (nF rfl G.b_range (aA (aQ bO (aW cN rfl G.b_len bP (aA (mv 0) aB)) aK) aB)) (aZ (i:=2) b9.nd rfl (Or.inl rfl)) (@aI _ _ _ (bU (cI Bj Eo Ep VC (mv 1) (aA (aT X Z (by decide) rfl (aA (mv 0) (aA (mv 2) aB))) aB))))) (@aI _ _ _ (aU (mv 1))))),?_⟩
 have I:((os.map λk=>V.int ((k:Nat):Int))).length=os.length:=Ab ..
 fail "g";refine⟨by decide,λp D=>?_⟩
 have r:=aG D (.lst [])
 have R:(upd H p (.lst [])) p=some (.lst (([]:List Addr).map V.ref)):=aD
 generalize upd H p (.lst [])=H1 at r R ⊢;have a5:=aM r N
 fail "g";rw[I];refine⟨⟨by omega,by omega⟩,?_⟩
 refine vQ (λi U M=>∃a v,U=[some (.ref b),some (.ref p),v]/\Z_ H M/\M p=some (.lst (a.map V.ref))/\ZQ H M a ((sX os i).map λl=>(l.map λk=>V.int ((k:Nat):Int)))/\∀z∈a,z≠p)
  ⟨[],_,rfl,r,R,.nil,λz m=>nomatch m⟩ ?_ ?_
 .rintro i U S hi ⟨a,v,rfl,c,n,j,x⟩;have a4:i<=os.length:=by omega
  have J:=aM c N
  have C:a.length=(sX os i).length:=by rw[j.1,Ab]
  have a2:=rC (os:=os) (i:=i) (by omega) (by ((try clear C hi);omega))
  fail "g";rw[show (0:Int)+(i:Int)=((i:Nat):Int) by ((try clear C I a2 a4 h5 hi);omega)]
  refine⟨b,os,i,rfl,J,by omega,by ((try clear C a2 hi);omega),by ((try clear C a2 hi);omega),λrb d H5 Y o e5 y nq=>?_⟩
  have B:d.length=(cW os i).length:=by rw[y.1,Ab]
  have a1:(cW os i).length<=6^5:=Bh (jR (by omega)) (Nat.pow_le_pow_right (by decide) (by ((try clear B C a2 hi);omega)))
  have L:=o _ _ n
  have m5:=bM L
  have r5:=aO e5
  have a3:(a.map V.ref).length+(d.map V.ref).length<=sizeLine:=bK (by rw[Ab,Ab,C,B];((try clear hi);omega))
  fail "g";have u:∀z∈d,z≠p:=λz m T=>by
   obtain⟨g,_,O,_⟩:=y.mem m;rw[T,n]at O;cases O
  have e:=λz m=>(Bi.mp m).elim (x z) (u z)
  refine⟨a++d,_,rfl,bL D (c.trans o),?_,?_,e⟩
  .rw[aD,Ap]
  .rw[pG,Ap];exact((j.keep o).app (y.X6 c)).put e
 .rintro U S ⟨a,v,rfl,c,n,j,x⟩;rw[show ((os.length:Int)+1).toNat=os.length+1 by omega]at j
  exact q p a S D c n j x
noncomputable def cK(hs:List (Option (List Nat)))(cw a:List Nat):List (List Nat):=cw::a.map λk=>YR ((hs.getD k none).getD [])
def qQ(a:List Nat):((a.map λk=>V.int ((k:Nat):Int))).length=a.length:=Ab ..
def jF:Sp:=λh H Q _=>∃a b f c g d,h=[.ref a,.str (aV g),.ref b]/\Z4 H a=some f/\Z6 H f c/\fE c/\Z4 H b=some (d.map λk=>V.int ((k:Nat):Int))/\d.length<=7/\(∀k∈d,k<c.length/\(c.getD k none).isSome=true)/\
 ∀r e,H r=none->Z_ H e->e r=some (.lst (((cK c g d).map aV).map V.str))->Q (.ref r) e
def xY:Z9 ["halyards", "word", "lowered"] ["halyards", "word", "lowered"] (aJ gP):=by fail "sc"
def yM(F:ZT K "words_with" "words_with" gP f fd)(G:Gs K mg w Zs Zz Zt Zx Z0 Zu Zy Zv Zw)(u7:iO P w K mg base 4 "read_of" ["flags"] (oN Zx)):Z8 P w K mg base ZS 5 f fd ["halyards", "word", "lowered"] jF:=by
 refine F.ok xY (λZ H Q E h=>?_) (λa2 A L s H Z Q E z h=>?_)
 .obtain⟨a,b,us,c,y,n,rfl,_⟩:=h;rfl
 obtain⟨a,b,us,c,y,n,rfl,ha,R,ok,C,h7,hk,q⟩:=h;refine⟨_,(@aI _ _ _ (aU (aQ bO (bQ (aA (mv 1) aB)) (cL rfl (bT (mv 2)) (gF (N:=["other", "halyards"]) ["halyards", "word", "lowered"] (aJ gP) [none,some 0] rfl rfl rfl (λx h=>bX h) (by decide +kernel)) (by decide +kernel) rfl (by decide +kernel) (λ_ _ _ _=>(aZ (i:=0) (show List.Nodup (["other", "halyards"]:List Str) by decide +kernel) rfl (Or.inl rfl))) (λ_ _ _ _=>cY) (λ_ _ _ _=>(cP u7 qW z (by decide) rfl (aA (bI bZ (mv 1) (mv 0) (λ_ _=>rfl)) aB))))))),?_⟩
 fail "g";refine⟨z0,λp hp=>?_⟩
 have l:=aG hp (.lst [V.str (aV y)])
 have Y:(upd H p (.lst [V.str (aV y)])) p=some (.lst [V.str (aV y)]):=aD
 generalize upd H p (.lst [V.str (aV y)])=H1 at l Y ⊢;have O:=aM l C
 have S:=aM l ha
 fail "g";refine gG (xs:=(n.map λk=>V.int ((k:Nat):Int))) (λj=>(n[j]?).map λk=>V.str (aV (YR ((c.getD k none).getD [])))) O (bF (by rw[qQ];(exact Nat.le_trans (by assumption) (by decide)))) (λj x Hc A B hx T hA hB=>?_) (λD Hd hD J X=>?_)
 .obtain⟨k,t,rfl⟩:=qO hx;obtain⟨d,o⟩:=hk k (Ao t);obtain⟨u,au,_,U⟩:=(R.keep (l.trans T)).get d;have v:=hA (V.str (aV (YR ((c.getD k none).getD [])))) (by rw[t];rfl)
  have r2:=aM T S
  cases I:c.getD k none with
  |none=>rw[I]at o;cases o
  |some m=>
   rw[I]at U v;obtain⟨pc,rfl,M⟩:=U;have C:=ok m (by
    rw[Ac,Aa d]at I;rw[<-show c[k]=some m from I];exact Bx d)
   have a1:=fG C
   fail "g";refine⟨Wk.set rfl (Wk.refl _),?_⟩;fail "g";refine dG r2 au ?_;fail "g";refine⟨pc,m.map one,rfl,aO M,by ((try clear d h7);omega),Jo m,λ_ H3 s3=>?_,λW=>?_⟩
   .have e:oK (m.map one)=aV (YR m):=by unfold oK;rw[DD]
    rw[e];exact v _ s3
   .rw[C]at W;cases W
 .rw[qQ,dM,show n.map (λk=>V.str (aV (YR ((c.getD k none).getD []))))=((n.map λk=>YR ((c.getD k none).getD [])).map aV).map V.str by rw[Ce,Ce];rfl]at X
  refine jJ (bM (J _ _ Y)) (bM X) (bK (by rw[Ab,Ab,Ab];show 1+_<=_;omega)) λr z=>?_
  exact q r _ (none_of (l.trans J) z) (l.trans (J.trans (aG z _))) aD
noncomputable def oA(f:Nat->Option Int)(hs:List (Option (List Nat)))(L:List Nat):Nat->Option Int:=bD λc=>aR f c+cnt (bV hs L) c
noncomputable def sM(f:Nat->Option Int)(hs:List (Option (List Nat)))(L:List Nat)(c:Nat):Int:=aR (bD (aR (oA f hs L))) c
def V1(f:Nat->Option Int)(hs:List (Option (List Nat)))(n:Nat)(cw a:List Nat):Prop:=Y3 (sM f hs (n::a)) (cK hs cw a)
def Ze(H:Hp)(f:Nat->Option Int)(hs:List (Option (List Nat)))(n:Nat)(cw a:List Nat)(t:Addr):Prop:=∃c e d b W F,H t=some (.tup [.ref c,.ref e,.ref d])/\H c=some (.lst (a.map λk=>V.int ((k:Nat):Int)))/\H e=some (.lst (b.map V.ref))/\ZV H b W/\H d=some (.lst ((F.map one).map V.str))/\ZG (cK hs cw a) (sM f hs (n::a)) W F
def Ze.keep{f:Nat->Option Int}{n:Nat}{t:Addr}(h:Ze H f hs n cw ks t)(s:Z_ H H'):Ze H' f hs n cw ks t:=by
 obtain⟨c,e,d,b,W,F,q,o,m,a,l,k⟩:=h;exact⟨c,e,d,b,W,F,s _ _ q,s _ _ o,s _ _ m,⟨a.1,λj p w i g=>s _ _ (a.2 j p w i g)⟩,s _ _ l,k⟩
def Ze.put{f:Nat->Option Int}{n:Nat}{t:Addr}{o:HO}(h:Ze H f hs n cw ks t)(C:∀c b a,H t=some (.tup [.ref c,.ref b,.ref a])->c≠p/\b≠p/\a≠p)(g:∀k,H p≠some (.tup k)):Ze (upd H p o) f hs n cw ks t:=by
 obtain⟨c,b,a,l,W,F,d,B,A,i,y,x⟩:=h;obtain⟨s,r,m⟩:=C _ _ _ d;refine⟨c,b,a,l,W,F,?_,?_,?_,⟨i.1,λj q w v u=>?_⟩,?_,x⟩
 .rw[aH λz=>g _ (by rw[<-z];exact d)];exact d
 .rw[aH s];exact B
 .rw[aH r];exact A
 .have e:=i.2 j q w v u
  rw[aH λz=>g _ (by rw[<-z];exact e)];exact e
 .rw[aH m];exact y
def vZ(f:Nat->Option Int)(hs:List (Option (List Nat)))(n:Nat)(cw a:List Nat)(j:Nat):Prop:=(dL (bJ hs n))[j]?=some a/\V1 f hs n cw a/\∀i l,i<j->(dL (bJ hs n))[i]?=some l->¬V1 f hs n cw l
def NH(k:dE (cs.map one)=true):∀d∈YR cs,aX d:=by
 have h:∀i,i<=cs.length->∀d∈YR (cs.take i),aX d:=λi=>by
  induction i with
  |zero=>intro _ d a;rw[Hw]at a;cases a
  |succ i f=>
   intro q d a;have b:cs[i]?=some cs[i]:=Aa (by (assumption))
   have j:(YR (cs.take i)).length=i:=pS (by (exact Nat.le_of_lt (by assumption)))
   rw[wG b]at a;obtain⟨c,o,s,n⟩:=uT k (i:=i) (z:=one cs[i]) (by rw[Ag,b];rfl)
   have m:=one_inj.mp o
   rcases Bi.mp a with e|e
   .exact f (by (exact Nat.le_of_lt (by assumption))) d e
   .rw[Aj.mp e,m];unfold VN;rcases n with l|⟨g,p⟩
    .rw[if_neg (lW l)];exact l
    .rw[if_pos g,Ac,Aa (by ((try clear m);omega))]
     exact f (by (exact Nat.le_of_lt (by assumption))) _ (Bx _)
 have r:=h cs.length (Ah _)
 rwa [Cg]at r
def FI{xs:List Addr}(h:xs[xs.length-1]?=some u):YV (xs.map V.ref) (-1)=some (.ref u):=by
 have a:0<xs.length:=by grind
 unfold YV;rw[show Xj (xs.map V.ref).length (-1)=some (xs.length-1) by
  rw[Ab];unfold Xj;rw[if_neg (by ((try clear a);omega)),if_pos (by omega)]
  exact Dp some (by omega)]
 simp_all
def B3(os:List Nat):∃A,dL os=A++[os]:=by
 refine⟨sX os os.length,?_⟩;show sX os _=_
 rw[pG];congr 1
 exact vY os
def YT(H:Hp)(f:Nat->Option Int)(hs:List (Option (List Nat)))(n:Nat)(cw:List Nat)(p:Addr)(l:List Nat)(u:Addr):Prop:=Ze H f hs n cw l u/\∀c b a,H u=some (.tup [.ref c,.ref b,.ref a])->c≠p/\b≠p/\a≠p
def YT.keep{f:Nat->Option Int}{n:Nat}{l:List Nat}(h:YT H f hs n cw p l u)(s:Z_ H H'):YT H' f hs n cw p l u:=by
 refine⟨h.1.keep s,λc d b e=>?_⟩;obtain⟨j,i,g,_,_,_,a,_⟩:=h.1;have:=s _ _ a
 rw[this]at e;cases e;exact h.2 _ _ _ a
def YT.put{f:Nat->Option Int}{n:Nat}{l:List Nat}{ys:List V}(h:YT H f hs n cw p l u)(d:H p=some (.lst xs)):YT (upd H p (.lst ys)) f hs n cw p l u:=by
 have b:∀a,H p≠some (.tup a):=λa z=>by grind
 refine⟨h.1.put h.2 b,λc j i e=>?_⟩;obtain⟨o,m,k,_,_,_,g,_⟩:=h.1;rw[aH λz=>b _ (by rwa[<-z])]at e
 exact h.2 _ _ _ e
def sA(ok:fE hs)(n:cw.length<=7/\∀d∈cw,aX d)(m:∀k∈ks,k<hs.length/\(hs.getD k none).isSome=true):∀c∈cK hs cw ks,c.length<=7/\∀d∈c,aX d:=λc h=>by
 rcases Bb.mp h with e|e
 .rwa[e]
 .obtain⟨k,g,rfl⟩:=Ba.mp e;obtain⟨b,a⟩:=m k g;cases i:hs.getD k none with
  |none=>rw[i]at a;cases a
  |some j=>
   have l:=ok j (by grind)
   have f:=fG l
   rw[Ab]at f;refine⟨by show (YR j).length<=7;rw[TL];exact f.2,?_⟩
   exact NH l
inductive qJ(z:Addr)(y:List V)(H:Hp)(Q:VK)(E:XK):Prop|mk(a b:Addr)(m:List (Key×V))(f:Nat->Option Int)(v:List V)(e:List (Option (List Nat)))(n:Nat)(h:List Nat)(_:y=[.ref a,.ref b,.int ((n:Nat):Int),.str (aV h)])(_:H a=some (.dK m))(_:Lk m f)(_:(∀c,0<=aR f c))(_:Z4 H b=some v)(_:Z6 H v e)(_:fE e)(_:e.length<=6)(_:n<e.length)(_:h.length<=7)(_:(∀d∈h,aX d))(_:(∀t L p (o:List Addr) x j (g:Hp),Z_ H g->H t=none->g t=some (.tup [.ref L,.ref p])->H L=none->g L=some (.lst (x.map λk=>V.int ((k:Nat):Int)))->vZ f e n h x j->H p=none->g p=some (.lst (o.map V.ref))->o.length=j->(∀(i:Nat) u l,o[i]?=some u->(dL (bJ e n))[i]?=some l->Ze g f e n h l u)->Q (.ref t) g))(_:((∀l,l.Sublist (bJ e n)->¬V1 f e n h l)->∀(s r q:Addr) (w:List Addr) (W:List Wt) (F:List Nat) (g:Hp),Z_ H g->g s=some (YO s [("flags",.ref q),("wants",.ref r)])->g r=some (.lst (w.map V.ref))->ZV g w W->g q=some (.lst ((F.map one).map V.str))->ZG (cK e h (bJ e n)) (sM f e (n::bJ e n)) W F->H r=none->H q=none->E (.ref z) (some s) g)):qJ z y H Q E
def m3:Z9 ["locker", "halyards", "number", "word", "papers", "lowered", "more", "lack"] ["locker", "halyards", "number", "word"] (aJ mP):=by fail "sc"
def LW(F:ZT K "least_set" "least_set" mP f fd)(a7:ZR P w K mg base 10 "sets_of" ["others"] uK)(u6:V_ P w K mg base 1 Zs ["self", "wants", "flags"] (kQ Zs))(a8:ZR P w K mg base 1 "others_hung" ["halyards", "number"] lJ)(y4:ZR P w K mg base 2 "put_in" ["locker", "flags"] hJ)(a9:ZR P w K mg base 4 "lack_of" ["locker", "words"] vV)(y6:ZR P w K mg base 1 "flags_on" ["halyards", "numbers"] gE)(u8:ZR P w K mg base 5 "words_with" ["halyards", "word", "lowered"] jF):Z8 P w K mg base (Y_ P w) 11 f fd ["locker", "halyards", "number", "word"] (qJ Zs):=by
 refine F.XJ m3 (λvs H Q E h=>?_) (λk7 A d7 s H vs Q E hr h=>?_)
 .obtain⟨a,b,b7,f,us,d,n,cw,rfl,_⟩:=h;rfl
 obtain⟨a,b,b7,f,us,d,n,cw,rfl,ha,lk,f8,hb,d2,ok,h6,hn,g6,g5,q,qe⟩:=h;refine⟨_,(@aE _ _ _ _ _ (aP 4 m3.nd (bQ aB)) (@aE _ _ _ _ _ (PS.WT (cV Bs rfl (bT (aT a7 hr (by decide) rfl (aA (aT a8 hr (by decide) rfl (aA (mv 1) (aA (mv 2) aB))) aB))) (aZ (i:=5) m3.nd rfl (Or.inl rfl)) (@aE _ _ _ _ _ (aP 6 m3.nd (aT y4 hr (by decide) rfl (aA (mv 0) (aA (aT y6 hr (by decide) rfl (aA (mv 1) (aA (aQ bO (bQ (aA (mv 2) aB)) (mv 5)) aB))) aB)))) (@aE _ _ _ _ _ (aP 7 m3.nd (aT a9 hr (by decide) rfl (aA (mv 6) (aA (aT u8 hr (by decide) rfl (aA (mv 1) (aA (mv 3) (aA (mv 5) aB)))) aB)))) (@aE _ _ _ _ _ (cD (bB Vx (mv 7) dF (bA _)) (@aI _ _ _ (aU (cU (aA (mv 5) (aA (mv 4) aB))))) bE) (@aI _ _ _ (bU (cI Bj Di Dj wR (mv 4) (aA (cU (aA (mv 5) (aA (bI bZ (mv 7) aK (λ_ _=>rfl)) (aA (bI bZ (mv 7) aK (λ_ _=>rfl)) aB)))) aB))))))))) (@aI _ _ _ (nK fZ rfl rfl rfl G.XO G.XG u6 hr (by decide) (aA (bI bZ (bI bZ (mv 4) (TY Ua aK) (λ_ _=>rfl)) aK (λ_ _=>rfl)) (aA (bI bZ (bI bZ (mv 4) (TY Ua aK) (λ_ _=>rfl)) aK (λ_ _=>rfl)) aB)))))),?_⟩
 have k3:=wH hn
 fail "g";refine⟨by decide,λp hp=>?_⟩
 have s1:=aG hp (.lst [])
 have e1:(upd H p (.lst [])) p=some (.lst (([]:List Addr).map V.ref)):=aD
 generalize upd H p (.lst [])=H1 at s1 e1 ⊢;fail "g";refine⟨b,us,d,n,rfl,aM s1 hb,d2.keep s1,by (exact Nat.le_trans (by assumption) (by decide)),λro H2 j6 s2 eo=>?_⟩
 fail "g";refine⟨ro,bJ d n,rfl,aO eo,by ((try clear g6 hn);omega),λrS ps H3 b9 s3 eS ls nd=>?_⟩
 have b4:=s2.trans s3
 fail "g";have f4:ps.length=(dL (bJ d n)).length:=by rw[ls.1,Ab]
 have c2:(ps.map V.ref).length=(dL (bJ d n)).length:=by rw[Ab,f4]
 have j5:(dL (bJ d n)).length<=6*6^5:=Bh (rC (i:=(bJ d n).length+1) (by ((try clear c2 f4 g6 hn);omega)) (by ((try clear c2 f4 g6 hn);omega))) (Nat.mul_le_mul_right _ (by ((try clear c2 f4 g6 hn);omega)))
 have h8:=b4 _ _ e1
 have d6:=s1.trans b4
 have f1:∀(j:Nat) c l,ps[j]?=some c->(dL (bJ d n))[j]?=some l->H3 c=some (.lst (l.map λk=>V.int ((k:Nat):Int)))/\c≠p/\H c=none:=λj c l hc O=>by
  obtain⟨h1,h2⟩:=ls.2 j c (l.map λk=>V.int ((k:Nat):Int)) hc (by rw[Ag,O];rfl)
  exact⟨h2,(λz=>by rw[z,s2 _ _ e1]at h1;cases h1),none_of (s1.trans s2) h1⟩
 have d8:rS≠p:=λz=>by rw[z,s2 _ _ e1]at b9;cases b9
 have T:∀(j:Nat) l,(dL (bJ d n))[j]?=some l->l.Sublist (bJ d n):=λj l h=>Zj.mp (Ao h)
 refine fX (xs:=ps.map V.ref) (λi U Z=>∃ (y:List Addr) (v5 v6 v7:Option V),U=[some (.ref a),some (.ref b),some (.int ((n:Nat):Int)),some (.str (aV cw)),some (.ref p),v5,v6,v7]/\Z_ H Z/\(∀ z u,z≠p->H3 z=some u->Z z=some u)/\Z p=some (.lst (y.map V.ref))/\y.length=i/\
     (∀(j:Nat) u l,y[j]?=some u->(dL (bJ d n))[j]?=some l->YT Z f d n cw p l u)/\∀j l,j<i->(dL (bJ d n))[j]?=some l->¬V1 f d n cw l)
  ⟨[],_,_,_,rfl,d6,λz u _ h=>h,h8,rfl,λj u l B=>(nomatch B),λj l hj=>absurd hj (Gf _)⟩ (λi U Z _ ⟨_,_,_,_,_,_,fr,_⟩=>aO (fr _ _ d8 eS)) ?_ ?_
 .rintro i x U H4 hx ⟨y,v5,v6,v7,rfl,L,a6,Y,D,I,J⟩;have hi:i<(dL (bJ d n)).length:=by rw[<-c2];exact(Ad.mp hx).1
  obtain⟨l,O⟩:∃l,(dL (bJ d n))[i]?=some l:=⟨_,Aa hi⟩;obtain⟨c,hc,rfl⟩:=UN hx;obtain⟨e3,b6,f9⟩:=f1 i c l hc O;have lc:=a6 _ _ b6 e3
  have a3:∀k∈l,k<d.length/\(d.getD k none).isSome=true:=λk hk=>by
   have:=nE ((T i l O).subset hk)
   exact⟨this.1,this.2.1⟩
  have k5:l.length<=5:=by have:=(T i l O).length_le;((try clear D b6 c2 d8 f4 g6 hi hn j5);omega)
  have d1:=aM L hb
  have X:=d2.keep L
  fail "g";refine⟨z0,λp5 f6=>?_⟩
  have s5:=aG f6 (.lst [V.int ((n:Nat):Int)])
  have e5:(upd H4 p5 (.lst [V.int ((n:Nat):Int)])) p5=some (.lst [V.int ((n:Nat):Int)]):=aD
  generalize upd H4 p5 (.lst [V.int ((n:Nat):Int)])=H5 at s5 e5 ⊢;fail "g";refine jJ (bM e5) (bM (s5 _ _ lc)) (bK (by rw[qQ];show 1+_<=_;((try clear D b6 c2 d8 f4 g6 h6 hi hn j5 k3);omega))) λp6 f5=>?_
  have s6:=aG f5 (.lst ((n::l).map λk=>V.int ((k:Nat):Int)))
  have e6:Z4 (upd H5 p6 (.lst ((n::l).map λk=>V.int ((k:Nat):Int)))) p6=some ((n::l).map λk=>V.int ((k:Nat):Int)):=cE
  change wF _ (upd H5 p6 (.lst ((n::l).map λk=>V.int ((k:Nat):Int)))) _
  generalize upd H5 p6 (.lst ((n::l).map λk=>V.int ((k:Nat):Int)))=H6 at s6 e6 ⊢;have a1:=s5.trans s6
  fail "g";refine⟨b,p6,us,d,n::l,rfl,aM a1 d1,X.keep a1,ok,e6,by show l.length+1<=7;(exact Nat.lt_of_le_of_lt (by assumption) (by decide)),λk hk=>by rcases Bb.mp hk with e|e;(· rw[e];exact hn);(· exact(a3 k e).1),λr7 H7 j9 s7 e7=>?_⟩
  have b3:=a1.trans s7
  have g8:=fR ok (n::l)
  fail "g";refine⟨a,r7,b7,f,bV d (n::l),rfl,b3 _ _ (L _ _ ha),lk,f8,aO e7,by rw[Av]at g8;((try clear D b6 c2 d8 f4 g6 h6 hi hn j5 k3);omega),λr8 f2 H8 j8 s8 e8 e2=>?_⟩
  have S:=b3.trans s8
  fail "g";refine⟨b,c,us,d,cw,l,rfl,aM S d1,X.keep S,ok,aO (S _ _ lc),by (exact Nat.le_trans (by assumption) (by decide)),a3,λr9 H9 j7 s9 e9=>?_⟩
  have R:=S.trans s9
  fail "g";refine⟨r8,r9,f2,oA f d (n::l),cK d cw l,rfl,.inl (s9 _ _ e8),e2,aO e9,by unfold cK;rw[Av,Ab];(exact Nat.lt_of_le_of_lt (by assumption) (by decide)),sA ok ⟨g6,g5⟩ a3,λc9 b2 a2=>?_,λt0 N M rs W F b2 a2 j4 d5 h7 b8 g9 c5 c4 c3=>?_⟩
  .have o:=R.trans a2
   fail "g";rw[show decide (V.non=V.non)=true from rfl];fail "g";refine⟨r0,λt ht=>?_⟩
   have m:=o.trans (aG ht (.tup [.ref c,.ref p]))
   exact q t c p y l i _ (L.trans m) (none_of (L.trans o) ht) aD f9 (m _ _ lc) ⟨O,c9,J⟩ hp (m _ _ Y) D λj u l' B r=>((I j u l' B r).1.keep m)
  .have o:=R.trans a2
   have n1:N≠p:=λz=>by rw[z,R _ _ Y]at c4;cases c4
   have n2:M≠p:=λz=>by rw[z,R _ _ Y]at c3;cases c3
   have j3:=bM (o _ _ Y)
   have j1:=aO (o _ _ Y)
   have k4:(y.map V.ref).length<sizeLine:=bF (by rw[Ab,D];((try clear D b6 d8 g6 g8 h6 hn k3 k5 n1 n2);omega))
   fail "g";rw[show decide (V.ref t0=V.non)=false from Aw (λz=>nomatch z)]
   fail "g";refine cH d5 (v:=.ref N) rfl ?_;fail "g";refine cH d5 (v:=.ref M) rfl ?_;fail "g";refine⟨za0,λtp f3=>?_⟩
   have m:=aG f3 (.tup [.ref c,.ref N,.ref M])
   have b1:(upd b2 tp (.tup [.ref c,.ref N,.ref M])) tp=some (.tup [.ref c,.ref N,.ref M]):=aD
   generalize upd b2 tp (.tup [.ref c,.ref N,.ref M])=h9 at m b1 ⊢;have C:=o.trans m
   have ep:=C _ _ Y
   have j2:=bM ep
   fail "g";have b5:YT h9 f d n cw p l tp:=⟨⟨c,N,M,rs,W,F,b1,C _ _ lc,m _ _ h7,⟨b8.1,λj q w hq hw=>m _ _ (b8.2 j q w hq hw)⟩,m _ _ g9,c5⟩,λc' k1 k2 e=>by rw[b1]at e;cases e;exact⟨b6,n1,n2⟩⟩
   refine⟨y++[tp],_,_,_,rfl,bL hp (L.trans C),λz u hz h=>by rw[aH hz];exact C _ _ (a6 z u hz h),by rw[aD,Ap];rfl,by rw[Af,D];rfl,λj u l' B r=>?_,λj l' hj r=>?_⟩
   .by_cases f7:j<y.length
    .rw[Am f7]at B;exact((I j u l' B r).keep C).put ep
    .have ej:j=y.length:=by
      have:=(Ad.mp B).1
      rw[Af]at this;have:j<y.length+1:=this
      ((try clear b6 c2 d8 f4 g6 g8 h6 hi hn j5 k3 k4 k5 n1 n2);omega)
     rw[ej,Aq (Ah _),Eh]at B;cases B;rw[ej,D,O]at r;cases r;exact b5.put ep
   .by_cases ej:j=i
    .rw[ej,O]at r;cases r;exact OG c5
    .exact J j l' (by ((try clear D b6 c2 d8 f4 g6 g8 h6 hi hn j5 k3 k4 k5 n1 n2);omega)) r
 .rintro U H4 ⟨y,v5,v6,v7,rfl,L,a6,Y,D,I,J⟩;rw[c2]at D J;obtain⟨A0,d3⟩:=B3 (bJ d n);have c6:(dL (bJ d n)).length=A0.length+1:=by rw[d3,Af];rfl
  have a4:(dL (bJ d n))[y.length-1]?=some (bJ d n):=by
   rw[D,c6,d3,Nat.add_sub_cancel,Aq (Ah _),Eh];rfl
  have B:y[y.length-1]?=some (y[y.length-1]'(by ((try clear d8 g6 h6 hn k3);omega))):=Aa (by ((try clear d8 g6 h6 hn k3);omega))
  have c1:=I _ _ _ B a4
  have au:=FI B
  generalize y[y.length-1]'(by ((try clear d8 g6 h6 hn k3);omega))=u at c1 au
  obtain⟨⟨c,N,M,rs,W,F,h1,h2,h3,h4,h5,h6⟩,_⟩:=c1;have r4:=aO Y
  fail "g";refine dG r4 au ?_;fail "g";refine cH h1 (v:=.ref N) rfl ?_;fail "g";refine dG r4 au ?_;fail "g";refine cH h1 (v:=.ref M) rfl ?_;fail "g";refine⟨r0,λea a5=>⟨ea,N,M,_,_,rfl,aD,aM (aG a5 _) (aO h3),aM (aG a5 _) (aO h5),λdx k1 k2 Z g7 k6 d9 g1 g2 g3 g4 c8 c7=>⟨rfl,some dx,g1,?_⟩⟩⟩
  have n1:k1≠ea:=λz=>by rw[z,g1]at g3;cases g3
  have n2:k2≠ea:=λz=>by rw[z,g1]at g4;cases g4
  have d4:∀b u,H4 b=some u->(del Z ea) b=some u:=λb u B=>by
   have nb:b≠ea:=λz=>by rw[z,a5]at B;cases B
   rw[eG nb];exact g7 b u nb (by rw[aH nb];exact B)
  refine qe (λl O=>?_) dx k1 k2 rs W F (del Z ea) (λb u B=>d4 _ _ (L _ _ B)) ((eG d9).trans g2) ((eG n1).trans g3) ⟨h4.1,λj q w hq hw=>d4 _ _ (h4.2 j q w hq hw)⟩ ((eG n2).trans g4) h6 (none_of L (by rw[aH n1]at c8;exact c8)) (none_of L (by rw[aH n2]at c7;exact c7))
  obtain⟨j,hj,ej⟩:=Bv.mp (Zj.mpr O);exact J j l hj (by rw[Aa hj,ej])
def xN:∀ {a:Q6} {b:List Nat} {i:Nat} {d:List Nat},a[i]?=some d->(jX a b)[i]?=some ((b.drop (gN a i)).take d.length)
 |c::r,b,0,d,h=>by cases h;rfl
 |c::r,b,i+1,d,h=>by
  show (jX r _)[i]?=_
  rw[xN (show r[i]?=some d from h),List.drop_drop];rfl
def Oi(cs:List Nat)(c:Nat):cnt cs c=(Yr cs c:Int):=by
 unfold cnt Yr;grind
def wM{p:List α->Prop}(d:p [])(c:∀l a,p l->p (l++[a])):∀l,p l:=λl=>by
 have h:∀r:List α,p r.reverse:=λr=>by
  induction r with
  |nil=>exact d
  |cons a r b=>rw[List.reverse_cons];exact c _ _ b
 have:=h l.reverse
 grind
noncomputable def qH(hs:List (Option (List Nat)))(a:List (Nat×List Nat)):List (Option (List Nat)):=a.foldl (λh z=>h.set z.1 (some z.2)) hs
def nM(hs:Q4)(a:List _)(z:Nat×List Nat):qH hs (a++[z])=(qH hs a).set z.1 (some z.2):=by
 unfold qH;simp_all
def pY(hs:Q4):∀a,(qH hs a).length=hs.length:=λa=>by
 refine wM (p:=λa=>(qH hs a).length=hs.length) rfl (λa z b=>?_) a;rw[nM,Cw,b]
def M3(hs:Q4):∀a,(a.map (·.1)).Nodup->(∀z∈a,z.1<hs.length)->∀z∈a,(qH hs a).getD z.1 none=some z.2:=λa=>by
 refine wM (p:=λa=>(a.map (·.1)).Nodup->(∀z∈a,z.1<hs.length)->∀z∈a,(qH hs a).getD z.1 none=some z.2) (λ_ _ z c=>nomatch c) (λa y g=>?_) a
 .intro b d z c;rw[Ap,Au,Ii]at b;rw[nM];rcases Bi.mp c with e|e
  .have f:y.1≠z.1:=λq=>(Ei.mp b).2.2 z.1 (List.mem_map_of_mem e) y.1 Ak q.symm
   rw[Ac,Ec f,<-Ac];exact g (Ei.mp b).1 (λw h=>d w (De _ h)) z e
  .rw[Aj.mp e,Ac,Du (by rw[pY];exact d y (Bm _ Ak))]
   rfl
def OF(ok:fE hs):∀a,(∀z∈a,dE (z.2.map one)=true)->fE (qH hs a):=λa=>by
 refine wM (p:=λa=>(∀z∈a,dE (z.2.map one)=true)->fE (qH hs a)) (λ_=>ok) (λa z c=>?_) a;intro h f b;rw[nM]at b;rcases Ej b with e|e
 .exact c (λy d=>h y (De _ d)) f e
 .cases e;exact h z (Bm _ Ak)
def uS:∀ {L:List Nat} {a:Q6},L.length=a.length->(∀z∈L.zip a,hs.getD z.1 none=some z.2)->bV hs L=a.flatten
 |[],[],_,_=>rfl
 |k::L,g::a,hl,h=>by
  show ((hs.getD k none).getD [])++bV hs L=g++a.flatten
  rw[show hs.getD k none=some g from h _ List.mem_cons_self,uS (by simp_all) λz b=>h z (List.mem_cons_of_mem _ b)]
  rfl
def Z6.set(a:Z6 H vs hs)(b:YL H v h):Z6 H (vs.set k v) (hs.set k h):=by
 refine⟨by rw[Cw,Cw,a.len],λj u g c d=>?_⟩
 by_cases e:k=j
 .subst e;have i:=(Ad.mp c).1
  have f:=(Ad.mp d).1
  simp_all
 .rw[Ec e]at c d;exact a.val j u g c d
def RL(h:Z4 H p=some xs)(n:p≠D)(b:∀z u,z≠D->H z=some u->H' z=some u):Z4 H' p=some xs:=by
 refine aM (H:=λz=>if z=p then H z else none) (λz u e=>?_) ?_
 .dsimp only at e;by_cases a:z=p
  .rw[if_pos a]at e;rw[a]at e ⊢;exact b p u n e
  grind
 .unfold Z4 at h ⊢;grind
def JF{L:List α}{M:List β}{a:α}{b:β}(d:L[i]?=some a)(c:M[i]?=some b):(L.zip M).take (i+1)=(L.zip M).take i++[(a,b)]:=by
 rw[Bd];congr 1
 have:(L.zip M)[i]?=some (a,b):=by rw[List.getElem?_zip_eq_some];exact⟨d,c⟩
 rw[this];rfl
def ND(b:∀d∈cw,aX d)(a:k<cw.length)(h:c∈Xn cw k):gX c:=by
 rcases XQ.mp h with e|⟨m,_,f,_,e⟩
 .left
  simp_all
 .right
  unfold eE;((try clear a);omega)
def Ui:∀ {f m:Q6},YA f m->(∀c∈f,1<=c.length/\c.length<=7/\∀d∈c,aX d)->(∀g∈m,dE (g.map one)=true/\∀c∈g,gX c)
 |_,_,.nil,_,g,hg=>nomatch hg
 |_,_,.cons (cw:=cw) (h:=h) a b,hW,g,hg=>by
  rcases Bb.mp hg with e|e
  .rw[e];obtain⟨o,n,l⟩:=hW cw Ak;refine⟨DF l (by rw[a.1];exact o) (by rw[a.1];exact n) (by rw[a.1];exact Ah _) λk i=>?_,λc j=>?_⟩
   .exact a.2 k _ (by simp_all)
   .obtain⟨k,i,p⟩:=Bv.mp j;exact ND l (by rw[<-a.1];exact i) (a.2 k c (by rw[Aa i,p]))
  .exact Ui b (λc j=>hW c (Al _ j)) g e
def YA.Wc:∀ {a c:Q6},YA a c->c.length=a.length
 |_,_,.nil=>rfl
 |_,_,.cons _ b=>by rw[Av,Av,b.Wc]
def K7{f:Nat->Option Int}(h:∀c,cnt cs c<=aR f c):wX f cs cs.length:=λj d b a=>by
 have:=QE a
 grind
def tB(f:Nat->Option Int)(hs:Q4)(L:List Nat)(c:Nat):0<=aR (oA f hs L) c:=by
 show 0<=(bD _ c).getD 0
 unfold bD;split
 .rename_i h;exact Int.le_of_lt h.2
 .exact Ih _
def KU(hs:Q4)(n:Nat):(bJ hs n).Nodup:=List.Nodup.sublist Fx List.nodup_range
def G_{n:Nat}(h:ks.Sublist (bJ hs n)):(n::ks).Nodup:=Cq.mpr ⟨λz=>(nE (h.subset z)).2.2 rfl,(KU hs n).sublist h⟩
def vR(ok:fE hs)(o:1<=cw.length)(m:cw.length<=7/\∀d∈cw,aX d)(l:∀k∈ks,k<hs.length/\(hs.getD k none).isSome=true):∀c∈cK hs cw ks,1<=c.length/\c.length<=7/\∀d∈c,aX d:=λc f=>by
 refine⟨?_,sA ok m l c f⟩;rcases Bb.mp f with e|e
 .rw[e];exact o
 .obtain⟨k,h,rfl⟩:=Ba.mp e;obtain⟨b,a⟩:=l k h;cases i:hs.getD k none with
  |none=>rw[i]at a;cases a
  |some j=>
   have n:=ok j (by grind)
   have g:=fG n
   rw[Ab]at g;show 1<=(YR j).length
   rw[TL];exact g.1
def HX(H:Hp)(a b:Addr)(e:List (Key×V))(f:Nat->Option Int)(us:List V)(hs:List (Option (List Nat)))(n:Nat)(cw:List Nat):Prop:=H a=some (.dK e)/\Lk e f/\(∀c,0<=aR f c)/\Z4 H b=some us/\Z6 H us hs/\fE hs/\hs.length<=6/\n<hs.length/\1<=cw.length/\cw.length<=7/\(∀d∈cw,aX d)
inductive zV(z:Addr)(x:List V)(H:Hp)(Q:VK)(E:XK):Prop|mk(a b s f y d n h)(_:x=[.ref a,.ref b,.int ((n:Nat):Int),.str (aV h)])(_:HX H a b s f y d n h)(_:(∀t L B R g (o:Q6) j i m e,Z_ H e->H t=none->e t=some (.tup [.ref L,.ref B,.ref R])->H L=none->e L=some (.lst (g.map λk=>V.int ((k:Nat):Int)))->vZ f d n h g j->YA (cK d h g) o->(∀c,cnt o.flatten c<=aR (oA f d (n::g)) c)->H B=none->e B=some (.lst i)->Z6 e i (qH d ((n::g).zip o))->H R=none->e R=some (.dK m)->Lk m (bD λc=>aR (oA f d (n::g)) c-cnt o.flatten c)->(∀p,V.ref p∈i->H p=none)->(∃w,Zf (cK d h g) (sM f d (n::g)) w/\o=jX (cK d h g) w)->Q (.ref t) e))(_:((∀l,l.Sublist (bJ d n)->¬V1 f d n h l)->∀u r q v W F e,Z_ H e->e u=some (YO u [("flags",.ref q),("wants",.ref r)])->e r=some (.lst (v.map V.ref))->ZV e v W->e q=some (.lst ((F.map one).map V.str))->ZG (cK d h (bJ d n)) (sM f d (n::bJ d n)) W F->H r=none->H q=none->E (.ref z) (some u) e)):zV z x H Q E
def u9:Z9 ["locker", "halyards", "number", "word", "lowered", "rehung", "more", "behind", "at", "hoist"] ["locker", "halyards", "number", "word"] (aJ vC):=by fail "sc"
def Ki(F:ZT K "hauled" "hauled" vC f fd)(y4:ZR P w K mg base 2 "put_in" ["locker", "flags"] hJ)(g3:iO P w K mg base 11 "least_set" ["locker", "halyards", "number", "word"] (qJ Zs))(y6:ZR P w K mg base 1 "flags_on" ["halyards", "numbers"] gE)(z5:iO P w K mg base 3 "hang_all" ["locker", "words"] (iT Zs))(z6:iO P w K mg base 3 "taken" ["locker", "flags"] (qF Zt))(u8:ZR P w K mg base 5 "words_with" ["halyards", "word", "lowered"] jF):Z8 P w K mg base (Y_ P w) 12 f fd ["locker", "halyards", "number", "word"] (zV Zs):=by
 refine F.XJ u9 (λvs H Q E h=>?_) (λn5 A g6 s H vs Q E hr h=>?_)
 .obtain⟨a,b,c2,f,us,hs,n,M,rfl,_⟩:=h;rfl
 obtain⟨a,b,c2,f,us,hs,n,M,rfl,⟨ha,lk,f7,hb,d1,ok,h6,hn,k3,c7,c6⟩,q,qe⟩:=h;refine⟨_,(@aE _ _ _ _ _ (aP 4 u9.nd (bI bZ (cP g3 cB hr (by decide) rfl (aA (mv 0) (aA (mv 1) (aA (mv 2) (aA (mv 3) aB))))) aK (λ_ _=>rfl))) (@aE _ _ _ _ _ (aP 5 u9.nd (aQ bO (bQ (aA (mv 2) aB)) (mv 4))) (@aE _ _ _ _ _ (aP 6 u9.nd (aT y4 hr (by decide) rfl (aA (mv 0) (aA (aT y6 hr (by decide) rfl (aA (mv 1) (aA (mv 5) aB))) aB)))) (@aE _ _ _ _ _ (fL (i:=7) u9.nd rfl (Or.inl rfl) rfl (bT (mv 1)) (iL (N:=["hoist"]) (by decide +kernel) (by decide +kernel)) (by decide +kernel) rfl (by decide +kernel) (λ_ _ _ _=>(aZ (i:=0) (show List.Nodup (["hoist"]:List Str) by decide +kernel) rfl (Or.inl rfl))) (λ_ _ _ _=>cY) (λ_ _ _ _=>(pR (bB Vx (mv 0) dF (bA _)) dF (cA jB rfl G.b_list dX (aA (mv 0) aB))))) (@aE _ _ _ _ _ (cV PassesOwn.leaving rfl (B5 rfl G.b_zip (aA (mv 5) (aA (cP z5 cB hr (by decide) rfl (aA (mv 6) (aA (aT u8 hr (by decide) rfl (aA (mv 1) (aA (mv 3) (aA (mv 4) aB)))) aB))) aB))) (eT (K:=K) (i:=8) (j:=9) (by rfl) (by rfl) u9.nd (by rfl) (by exact(Or.inl rfl)) (by exact Or.inl rfl) (by rfl) (by exact(Or.inl rfl)) (by exact Or.inl rfl)) (@aI _ _ _ (UX (mv 9) (SA (mv 7) (mv 8) uX)))) (@aI _ _ _ (aU (cU (aA (mv 4) (aA (mv 7) (aA (cP z6 cB hr (by decide) rfl (aA (mv 6) (aA (aT y6 hr (by decide) rfl (aA (mv 7) (aA (mv 5) aB))) aB))) aB))))))))))),?_⟩
 have n1:=wH hn
 fail "g";refine⟨a,b,c2,f,us,hs,n,M,rfl,ha,lk,f7,hb,d1,ok,h6,hn,c7,c6,λt0 L p0 ts d j H1 s1 m6 et hL eL a2 _ _ _ _=>?_,qe⟩;have c4:=Zj.mp (Ao a2.1)
 have T:∀k∈d,k<hs.length/\(hs.getD k none).isSome=true:=λk hk=>by
  have:=nE (c4.subset hk)
  exact⟨this.1,this.2.1⟩
 have n4:d.length<=5:=by have:=c4.length_le;((try clear c7 hn k3);omega)
 have c8:=aM s1 hb
 have a6:=d1.keep s1
 refine cH et (v:=.ref L) rfl ?_;fail "g";refine⟨z0,λp5 j4=>?_⟩
 have s5:=aG j4 (.lst [V.int ((n:Nat):Int)])
 have e5:(upd H1 p5 (.lst [V.int ((n:Nat):Int)])) p5=some (.lst [V.int ((n:Nat):Int)]):=aD
 generalize upd H1 p5 (.lst [V.int ((n:Nat):Int)])=H5 at s5 e5 ⊢;fail "g";refine jJ (bM e5) (bM (s5 _ _ eL)) (bK (by rw[qQ];show 1+_<=_;((try clear c7 h6 hn k3 n1);omega))) λp6 j3=>?_
 have s6:=aG j3 (.lst ((n::d).map λk=>V.int ((k:Nat):Int)))
 have e6:Z4 (upd H5 p6 (.lst ((n::d).map λk=>V.int ((k:Nat):Int)))) p6=some ((n::d).map λk=>V.int ((k:Nat):Int)):=cE
 change lG _ _ _ (upd H5 p6 (.lst ((n::d).map λk=>V.int ((k:Nat):Int)))) _
 generalize upd H5 p6 (.lst ((n::d).map λk=>V.int ((k:Nat):Int)))=H6 at s6 e6 ⊢;have b9:=s5.trans s6
 fail "g";refine⟨b,p6,us,hs,n::d,rfl,aM b9 c8,a6.keep b9,ok,e6,by show d.length+1<=7;(exact Nat.lt_of_le_of_lt (by assumption) (by decide)),λk hk=>by rcases Bb.mp hk with e|e;(· rw[e];exact hn);(· exact(T k e).1),λr7 H7 m9 s7 e7=>?_⟩
 have d4:=b9.trans s7
 have k6:=fR ok (n::d)
 fail "g";refine⟨a,r7,c2,f,bV hs (n::d),rfl,d4 _ _ (s1 _ _ ha),lk,f7,aO e7,by rw[Av]at k6;((try clear c7 h6 hn k3 n1);omega),λr8 c1 H8 m8 s8 e8 e1=>?_⟩
 have I:=d4.trans s8
 have a7:=aM (s7.trans s8) e6
 have k4:=aM I c8
 have f9:=a6.keep I
 have h7:=d1.len
 fail "g";refine Pp (hs:=hs) k4 (bF (by ((try clear c7 hn k3 k6 n1 n4);omega))) h7 (λi x h Hc A B hx hh sm hA=>?_) (λD Hd vs hD sD hd f8 j8=>?_)
 .have hv:=(f9.keep sm).val i x h hx hh
  cases h with
  |none=>
   obtain rfl:x=V.non:=hv;fail "g";refine⟨Wk.set rfl (Wk.refl _),?_⟩;fail "g";rw[show decide (V.non=V.non)=true from rfl];fail "g";exact hA .non _ (Z_.refl _) rfl λp z=>nomatch z
  |some cs=>
   obtain⟨pc,rfl,j2⟩:=hv;have rc:=aO j2
   fail "g";refine⟨Wk.set rfl (Wk.refl _),?_⟩;fail "g";rw[show decide (V.ref pc=V.non)=false from Aw (λz=>nomatch z)]
   fail "g";intro l2 f3;exact hA (.ref l2) _ (aG f3 _) ⟨l2,rfl,aD⟩ λp z=>by cases z;exact f3
 .have b8:=I.trans sD
  have m1:=aM sD a7
  have k7:=b8 _ _ eL
  fail "g";refine⟨b,L,us,hs,M,d,rfl,aM b8 c8,a6.keep b8,ok,aO k7,by (exact Nat.le_trans (by assumption) (by decide)),T,λr9 H9 m7 s9 e9=>?_⟩
  fail "g";refine⟨r8,r9,c1,oA f hs (n::d),cK hs M d,rfl,.inl (s9 _ _ (sD _ _ e8)),e1,aO e9,by unfold cK;rw[Av,Ab];(exact Nat.lt_of_le_of_lt (by assumption) (by decide)),sA ok ⟨c7,c6⟩ T,λrh ps fs d2 e4 d6 er n2 f2 f6 k1 j9 k5=>?_,λdx l1 l2 rs W F d2 d6 _ _ _ _ j5 _ _ _=>absurd a2.2.1 (OG j5)⟩
  have O:=s9.trans d6
  have a9:=Sj f6 k1
  have a3:=nO (f6.trans (Ux (cK hs M d)))
  have b1:=a9.Wc
  have f1:∀(i:Nat) p g,ps[i]?=some p->(jX (cK hs M d) fs)[i]?=some g->d2 p=some (.lst ((g.map one).map V.str))/\p≠D/\H8 p=none:=λi p g hp hg=>by
   have hi:i<(cK hs M d).length:=by rw[<-b1];exact(Ad.mp hg).1
   have ec:(cK hs M d)[i]?=some (cK hs M d)[i]:=Aa hi
   rw[xN ec]at hg;obtain⟨h1,h2⟩:=f2.2 i p (iM (cK hs M d) fs i) hp (by rw[Ag,Fv hi];rfl)
   refine⟨?_,(λz=>by rw[z,s9 _ _ hd]at h1;cases h1),none_of (sD.trans s9) h1⟩
   unfold iM at h2;rw[Ac,ec]at h2;cases hg;exact h2
  have a4:∀c,cnt (jX (cK hs M d) fs).flatten c<=aR (oA f hs (n::d)) c:=λc=>by
   rw[a3,Oi];exact Int.le_trans (j9 c) (Ph (tB f hs (n::d)) c)
  have c3:=vR ok k3 ⟨c7,c6⟩ T
  have c5:=Ui a9 c3
  have a1:ps.length=(jX (cK hs M d) fs).length:=by rw[f2.1,Ab,Bf,b1]
  have r:(jX (cK hs M d) fs).length=(n::d).length:=by rw[b1];show ((d.map _).length+1)=d.length+1;rw[Ab]
  generalize j7:jX (cK hs M d) fs=C at a9 a3 b1 f1 a4 c5 a1 r;have b7:=aM O m1
  have g1:=aO er
  have g2:=O _ _ hd
  have c9:=f8.keep O
  have d9:p6≠D:=λz=>by rw[z]at a7;unfold Z4 at a7;rw[hD]at a7;cases a7
  have g8:rh≠D:=λz=>by rw[z,s9 _ _ hd]at e4;cases e4
  have d3:=sD.trans O
  fail "g";refine J8 (xs:=((n::d).map λk=>V.int ((k:Nat):Int))) (ys:=ps.map V.ref) (λi U H'=>∃v8 v9 ws,U=[some (.ref a),some (.ref b),some (.int ((n:Nat):Int)),some (.str (aV M)),some (.ref L),some (.ref p6),some (.ref r8),some (.ref D),v8,v9]/\Z_ H8 H'/\(∀z u,z≠D->d2 z=some u->H' z=some u)/\H' D=some (.lst ws)/\Z6 H' ws (qH hs (((n::d).zip C).take i))/\∀p,V.ref p∈ws->H8 p=none)
   ⟨_,_,vs,rfl,d3,(λz u _ h=>h),g2,c9,j8⟩ (λi U H' _ _ ⟨_,_,_,_,_,fr,_⟩=>⟨RL b7 d9 fr,RL g1 g8 fr⟩) ?_ ?_
  .rintro i x y U a8 pt hx hy ⟨v8,v9,ws,rfl,Z,S,b2,l,J⟩ h9;obtain⟨k,hk,rfl⟩:=qO hx;obtain⟨pg,b3,rfl⟩:=UN hy;have j6:i<C.length:=by rw[<-a1];exact(Ad.mp b3).1
   have eg:C[i]?=some C[i]:=Aa j6
   obtain⟨b6,d8,j1⟩:=f1 i pg _ b3 eg;have b5:=S _ _ d8 b6
   have m4:k<hs.length:=by rcases Bb.mp (Ao hk) with e|e;(· rw[e];exact hn);(· exact(T k e).1)
   have h5:ws.length=hs.length:=by rw[l.len,pY]
   have tk:=JF hk eg
   generalize C[i]=g at eg b6 b5 tk;have m:=aG h9 (.tup [.int ((k:Nat):Int),.ref pg])
   have g4:nT (upd a8 pt (.tup [.int ((k:Nat):Int),.ref pg])) pt=some [.int ((k:Nat):Int),.ref pg]:=mY
   have X:=m _ _ b2
   have a5:=l.keep m
   have b4:=m _ _ b5
   generalize upd a8 pt (.tup [.int ((k:Nat):Int),.ref pg])=m2 at m g4 X a5 b4 ⊢;fail "g";refine Tg (o:=.non) (bM X) (R8 (by (exact Int.natCast_nonneg _)) (by rw[h5];(exact Int.ofNat_le.mpr (by assumption)))) ?_
   rw[show ((k:Nat):Int).toNat=k from rfl];refine⟨_,_,ws.set k (.ref pg),rfl,bL hD (Z.trans m),λz u hz h=>by rw[aH hz];exact m _ _ (S z u hz h),aD,?_,λp hp=>?_⟩
   rotate_left
   .rcases Ej hp with e|e
    .exact J p e
    .cases e;exact j1
   rw[tk,nM];exact(a5.put X).set ⟨pg,rfl,by rw[aH d8];exact b4⟩
  .rintro U a8 ⟨v8,v9,ws,rfl,Z,S,b2,l,J⟩;have h4:((n::d).zip C).length=(n::d).length:=by rw[List.length_zip,r,Nat.min_self]
   rw[qQ,Ab,a1,r,Nat.min_self,<-h4,Cg]at l;have e3:∀z∈(n::d).zip C,z.1∈n::d/\z.2∈C:=λz hz=>Hh hz
   have d7:fE (qH hs ((n::d).zip C)):=OF ok _ λz hz=>(c5 z.2 (e3 z hz).2).1
   have f4:∀k∈n::d,k<hs.length:=λk hk=>by rcases Bb.mp hk with e|e;(· rw[e];exact hn);(· exact(T k e).1)
   have g7:(((n::d).zip C).map (·.1)).Nodup:=by
    rw[show ((n::d).zip C).map (·.1)=n::d from List.map_fst_zip (by rw[r];exact Ah _)]
    exact G_ c4
   have f5:bV (qH hs ((n::d).zip C)) (n::d)=C.flatten:=uS r.symm (M3 hs _ g7 λz hz=>f4 z.1 (e3 z hz).1)
   have k9:=RL b7 d9 S
   have k8:a8 r8=some (.dK c1):=Z _ _ e8
   fail "g";refine⟨D,p6,ws,_,n::d,rfl,aO b2,l,d7,k9,by show d.length+1<=7;(exact Nat.lt_of_le_of_lt (by assumption) (by decide)),λk hk=>by rw[pY];exact f4 k hk,λg5 m2 m3 m X=>?_⟩
   rw[f5]at X;have m5:C.flatten.length<=42:=by
    have:=fR d7 (n::d)
    rw[f5,Av]at this;((try clear a1 b1 c7 d9 f6 g8 h4 h6 h7 hn k3 k6 n1 r);omega)
   fail "g";refine⟨r8,g5,c1,oA f hs (n::d),C.flatten,rfl,m _ _ k8,e1,tB f hs (n::d),aO X,by (exact Nat.le_trans (by assumption) (by decide)),λc hc=>by obtain⟨g,hg,k2⟩:=List.mem_flatten.mp hc;exact(c5 g hg).2 c k2,λ_ rR h3 n6 h8 d5 eR g9=>?_,λi c hi _ n3=>?_⟩
   .fail "g";refine⟨za0,λt ht=>?_⟩
    have e2:=aG ht (.tup [.ref L,.ref D,.ref rR])
    have R:=m.trans (d5.trans e2)
    have Y:Z_ H a8:=s1.trans (I.trans Z)
    refine q t L D rR d C j ws h3 _ (Y.trans R) (none_of (Y.trans (m.trans d5)) ht) aD hL (R _ _ (Z _ _ (I _ _ eL))) a2 a9 a4 (none_of (s1.trans I) hD) (R _ _ b2) (l.keep R) (none_of (Y.trans m) h8) (e2 _ _ eR) g9 (λp hp=>none_of (s1.trans I) (J p hp)) ⟨fs,k5,j7.symm⟩
   .have h1:=QE hi
    have h2:=a4 c
    ((try clear a1 b1 c7 d9 f6 g8 h4 h6 h7 hn k3 k6 m5 n1 n4 r);omega)
noncomputable def iI(z:Str):Bool:=if z.length<1\/10<z.length then false else z.cps.toList.all λc=>decide (c∈YM.cps.toList)
noncomputable abbrev dZ(z:Str):List Str:=Txt.split z (Str.ofString " ")
noncomputable def UM(z:Str)(n:Int):Bool:=decide (((dZ z).length:Int)<=n)&&(dZ z).all iI
def Mm{y:Str}(h:y∈dZ z):y.length<=z.length:=by
 have:=PySem.join_mem_le " " _ y h
 rw[StrLaws.join_split]at this;(assumption)
def Lj(z:Str):(dZ z).length<=z.length+2:=by
 unfold dZ Txt.split;split
 .show 1<=_;omega
 .split
  .show 1<=_;omega
  .rw[PySem.length_partsBetween];have a:=StrLaws.occ_length_le z " " 0 z.length (z.length+1)
   omega
def wL:Sp:=λb H Q _=>∃z,b=[.str z]/\z.length<=1000/\∀a,Z_ H a->Q (.bl (iI z)) a
def iD:Sp:=λb H Q _=>∃z n,b=[.str z,.int n]/\z.length<=1000/\∀a,Z_ H a->Q (.bl (UM z n)) a
def Nr:Z9 ["text"] ["text"] (aJ rZ):=by fail "sc"
def JC(F:ZT K "is_term" "is_term" rZ f fd):Z8 P w K mg base ZS 1 f fd ["text"] wL:=by
 refine F.ok Nr (λk H Q E h=>?_) (λt A a s H k Q E v h=>?_)
 .obtain⟨z,rfl,_⟩:=h;rfl
 obtain⟨z,rfl,x,q⟩:=h;refine⟨_,(@aE _ _ _ _ _ (cD (PW.pt (sU (bB yI (aW cN rfl G.b_len bP (aA (mv 0) aB)) aK (bA _)) (mG (bB V7 (aW cN rfl G.b_len bP (aA (mv 0) aB)) (pL rfl G.s_LONGEST_TERM) (bA _))))) (@aI _ _ _ (aU oJ)) bE) (@aI _ _ _ (aU (aW (Uu rfl) rfl G.b_all TV (aA (cL rfl (lV (mv 0)) (iL (N:=["sign"]) (by decide +kernel) (by decide +kernel)) (by decide +kernel) rfl (by decide +kernel) (λ_ _ _ _=>(aZ (i:=0) (show List.Nodup (["sign"]:List Str) by decide +kernel) rfl (Or.inl rfl))) (λ_ _ _ _=>cY) (λ_ _ _ _=>(eQ Vs (mv 0) (eO rfl G.s_TERM_LETTERS) (by rfl)))) aB))))),?_⟩
 fail "g";refine dW (λj=>?_) (λj=>?_)
 .fail "g";have e:iI z=false:=if_pos (.inl (by have:=Az j;omega))
  have r:=q H (Z_.refl H)
  rwa[e]at r
 .have d:=Bp (Bq.mpr j)
  fail "g";refine dW (λb=>?_) (λb=>?_)
  .fail "g";have e:iI z=false:=if_pos (.inr (by have:=Az b;omega))
   have r:=q H (Z_.refl H)
   rwa[e]at r
  .have m:=Bp (Bq.mpr b)
   fail "g";refine Se (λc=>some (.bl (decide (c∈YM.cps.toList)))) (bF (by (exact Nat.le_trans (by assumption) (by decide)))) (λi c u A B d o=>?_) (λD n=>?_)
   .fail "g";refine⟨Wk.set rfl (Wk.refl _),?_⟩;fail "g";have e:subIn ⟨#[c]⟩ YM=decide (c∈YM.cps.toList):=nL _ _
    show A (.bl (subIn ⟨#[c]⟩ YM)) u
    rwa[e]
   .fail "g";have e:z.cps.toList.filterMap (λc=>some (V.bl (decide (c∈YM.cps.toList))))=(z.cps.toList.map λc=>decide (c∈YM.cps.toList)).map V.bl:=by
     rw[Ce];exact kH _ _
    rw[e];have l:Z_ H (upd H D (.lst ((z.cps.toList.map λc=>decide (c∈YM.cps.toList)).map V.bl))):=aG n _
    refine UJ (bs:=z.cps.toList.map λc=>decide (c∈YM.cps.toList)) cE ?_;have p:iI z=(z.cps.toList.map λc=>decide (c∈YM.cps.toList)).all id:=by
     unfold iI;rw[if_neg (by omega),Ij]
     rfl
    have r:=q _ l
    rwa[p]at r
def Ov:Z9 ["text", "most", "terms"] ["text", "most"] (aJ fI):=by fail "sc"
def pE(F:ZT K "is_row_of_terms" "is_row_of_terms" fI f fd)(b:ZR P w K mg base 1 "is_term" ["text"] wL):Z8 P w K mg base ZS 2 f fd ["text", "most"] iD:=by
 refine F.ok Ov (λp H Q E h=>?_) (λL A d s H p Q E j h=>?_)
 .obtain⟨z,n,rfl,_⟩:=h;rfl
 obtain⟨z,n,rfl,R,q⟩:=h;refine⟨_,(@aE _ _ _ _ _ (aP 2 Ov.nd (cI Dx Hx Hy Ss (mv 0) (@cG _ _ _ _ _ _ aB))) (@aI _ _ _ (aU (qY (eQ Jt (aW cN rfl G.b_len bP (aA (mv 2) aB)) (mv 1) (bA _)) (UG (aW (Uu rfl) rfl G.b_all TV (aA (cL rfl (bT (mv 2)) (iL (N:=["term"]) (by decide +kernel) (by decide +kernel)) (by decide +kernel) rfl (by decide +kernel) (λ_ _ _ _=>(aZ (i:=0) (show List.Nodup (["term"]:List Str) by decide +kernel) rfl (Or.inl rfl))) (λ_ _ _ _=>cY) (λ_ _ _ _=>(aT b j (by decide) rfl (aA (mv 0) aB)))) aB))))))),?_⟩
 fail "g";refine RN rfl (by (exact Nat.le_trans (by assumption) (by decide))) λr j=>?_
 have c:=aG j (.lst ((dZ z).map V.str))
 have m:Z4 (upd H r (.lst ((dZ z).map V.str))) r=some ((dZ z).map V.str):=cE
 show lG _ _ _ (upd H r (.lst ((dZ z).map V.str))) _
 generalize upd H r (.lst ((dZ z).map V.str))=W at c m ⊢;have a:((dZ z).map V.str).length=(dZ z).length:=Ab ..
 have I:=Lj z
 fail "g";rw[a];unfold UM at q;refine dW (λl=>?_) (λl=>?_)
 .rw[show decide (((dZ z).length:Int)<=n)=true from l,Bool.true_and]at q;fail "g";refine qE (xs:=(dZ z).map V.str) (λx=>match x with|.str y=>some (.bl (iI y))|_=>none) m (by rw[a];exact bF (by ((try clear a);omega))) (λi x T A B C O J=>?_) (λD M S t o=>?_)
  .obtain⟨y,v,rfl⟩:=iK C;fail "g";refine⟨Wk.set rfl (Wk.refl _),?_⟩;refine⟨y,rfl,by have:=Mm (Ao v);((try clear I a);omega),λU u=>?_⟩
   exact J _ u
  .have e:((dZ z).map V.str).filterMap (λx=>match x with | .str y=>some (V.bl (iI y)) | _=>none)=((dZ z).map iI).map V.bl:=by
    rw[Hj,Ce];exact kH (λy=>V.bl (iI y)) _
   rw[e]at o;refine UJ (bs:=(dZ z).map iI) (aO o) ?_;have r:=q M (c.trans t)
   rwa[show ((dZ z).map iI).all id=(dZ z).all iI by rw[Ij];rfl]
 .have k:=Bq.mpr l
  rw[k,Hl]at q;exact q _ c
def Jf(h:fF t):iI (aV t)=true:=by
 unfold iI;rw[cT,if_neg (by have:=h.1;have:=h.2.1;omega),cQ,Ca]
 intro c a;have:=h.2.2 c a
 have q:∀k:_root_.Fin 26,(97+k.val)∈YM.cps.toList:=by decide +kernel
 unfold Uk at this;have e:=q ⟨c-97,by omega⟩
 grind
def wZ{a:Q6}(b:1<=a.length)(h:∀t∈a,fF t):dZ (cF a)=a.map aV:=by
 refine BF  (λz=>?_) (λz c=>?_)
 .rw[List.map_eq_nil_iff]at z;rw[z]at b;exact absurd b (by decide)
 .obtain⟨t,d,rfl⟩:=Ba.mp c;intro m;have:=(h t d).2.2 32 m
  unfold Uk at this;((try clear b);omega)
def zD(a:Q6)(h:∀t∈a,fF t):(cF a).length<=11*a.length:=by
 have e:=PySem.StrLaws.join_length_le " " (a.map aV)
 have b:cF a=Str.join " " _:=Eg _ _
 have c:=zE a h
 rw[b];rw[Ab,show (Str.ofString " ").length=1 from rfl]at e;omega
def Wx(H:Hp)(r:Addr)(a:List (List Nat)):Prop:=H r=some (.lst ((a.map aV).map V.str))
def sY:Sp:=λc H Q _=>∃a,c=[.str (cF a)]/\1<=a.length/\a.length<=40/\(∀t∈a,fF t)/\∀r b,H r=none->Z_ H b->Wx b r a->Q (.ref r) b
def GQ:Z9 ["text"] ["text"] (aJ oS):=by fail "sc"
def CJ(F:ZT K "terms_of" "terms_of" oS f fd)(c:ZR P w K mg base 2 "is_row_of_terms" ["text", "most"] iD):Z8 P w K mg base ZS 3 f fd ["text"] sY:=by
 refine F.ok GQ (λl H Q E h=>?_) (λu A d s H l Q E e h=>?_)
 .obtain⟨a,rfl,_⟩:=h;rfl
 obtain⟨a,rfl,p,o,i,q⟩:=h;refine⟨_,(@aE _ _ _ _ _ (cD (pJ (fK (aT c e (by decide) rfl (aA (mv 0) (aA (pL rfl G.s_MOST_TERMS) aB))))) (@aI _ _ _ PX) bE) (@aI _ _ _ (aU (cI Dx Hx Hy Ss (mv 0) (@cG _ _ _ _ _ _ aB))))),?_⟩
 have v:=zD a i
 have k:=wZ p i
 have e:UM (cF a) 40=true:=by
  unfold UM;rw[k,Ab,An (by (exact Int.ofNat_le.mpr (by assumption))),Bool.true_and,Ca]
  intro z m;obtain⟨t,n,rfl⟩:=Ba.mp m;exact Jf (i t n)
 fail "g";refine⟨cF a,40,rfl,by omega,λx j=>?_⟩
 rw[e];fail "g";refine RN rfl (by omega) λr b=>?_
 rw[show Txt.split (cF a) " "=a.map aV from k];exact q r _ (none_of j b) (j.trans (aG b _)) aD
def Yp(H:Hp)(r:Addr)(a:List (List (List Nat))):Prop:=∃b:List Addr,H r=some (.lst (b.map V.ref))/\b.length=a.length/\∀(j:Nat) p c,b[j]?=some p->a[j]?=some c->Wx H p c
def Yp.keep(h:Yp H r mss)(s:Z_ H H'):Yp H' r mss:=by
 obtain⟨a,g,f,e⟩:=h;exact⟨a,s _ _ g,f,λj p b c d=>s _ _ (e j p b c d)⟩
def cS(d:List (Str×Str))(a:List (List (List Nat))):Prop:=a.length=d.length/\∀(j:Nat) b c,d[j]?=some b->a[j]?=some c->b.2=cF c/\1<=c.length/\c.length<=5/\∀t∈c,fF t
def DI(h:XW bk):∃a,cS bk a:=by
 have i:=h.R_
 clear h;induction bk with
 |nil=>exact⟨[],rfl,λj b f o=>by cases o⟩
 |cons b r l=>
  obtain⟨f,e,s,q,p⟩:=i b Ak;obtain⟨a,m,n⟩:=l λc d=>i c (Al _ d);refine⟨f::a,by rw[Av,Av,m],λj c k d g=>?_⟩
  cases j with
  |zero=>cases d;cases g;exact⟨e,s,q,p⟩
  |succ j=>exact n j c k (by simpa using d) (by simpa using g)
def mM:Sp:=λe H Q _=>∃a c b,e=[.ref a]/\ZE H a c/\c.length<=60/\cS c b/\∀r d,H r=none->Z_ H d->Yp d r b->Q (.ref r) d
def vX:Z9 ["book"] ["book"] (aJ jI):=by fail "sc"
def vO(F:ZT K "meanings_of" "meanings_of" jI f fd)(G:Gs K mg w Zs Zz Zt Zx Z0 Zu Zy Zv Zw):Z8 P w K mg base ZS 1 f fd ["book"] mM:=by
 refine F.ok vX (λvs H Q E h=>?_) (λa6 A X s H vs Q E hr h=>?_)
 .obtain⟨a,S,m,rfl,_⟩:=h;rfl
 obtain⟨a,S,m,rfl,a1,a5,u,q⟩:=h;refine⟨_,(@aI _ _ _ (aU (cL rfl (bT (mv 0)) (iL (N:=["word", "meaning"]) (by decide +kernel) (by decide +kernel)) (by decide +kernel) rfl (by decide +kernel) (λ_ _ _ _=>(eT (K:=K) (i:=0) (j:=1) (by rfl) (by rfl) (show List.Nodup (["word", "meaning"]:List Str) by decide +kernel) (by rfl) (by exact Or.inl rfl) (by exact Or.inr rfl) (by rfl) (by exact Or.inl rfl) (by exact Or.inr rfl))) (λ_ _ _ _=>cY) (λ_ _ _ _=>(cI Dx Hx Hy Ss (mv 1) (@cG _ _ _ _ _ _ aB)))))),?_⟩
 obtain⟨T,b1,b2,b3⟩:=id a1;have U:=aO b1
 have a4:(T.map V.ref).length=S.length:=by rw[Ab,b2]
 fail "g";refine jM (n:=S.length) (λD i J I=>Z_ H I/\∃d,J=d.map V.ref/\d.length=i/\∀(j:Nat) p b,d[j]?=some p->m[j]?=some b->p≠D/\Wx I p b) (bF (by (exact Nat.le_trans (by assumption) (by decide)))) (λD C=>⟨aG C _,[],rfl,rfl,λj p b M=>by cases M⟩) (λD i J I C r Z=>?_) (λD J I C r=>?_) ?_ (λD J I C r l a3=>?_)
 .exact⟨_,(T.map V.ref)[i]'(by ((try clear a5);omega)),bC (aM r.1 U),Aa _⟩
 .exact⟨_,bC (aM r.1 U),by (exact Nat.le_of_eq (by assumption))⟩
 .rintro D i J I x H' A B C Z ⟨L,d,rfl,e,t⟩ l y hA hB;obtain⟨rfl,hx⟩:=y;have o:=hx _ (bC (aM L U))
  rw[Ag]at o;have hq:T[i]?=some (T[i]'(by ((try clear a5);omega))):=Aa _
  rw[hq]at o;cases o;have R:=Aa Z
  have tp:=L _ _ (b3 i _ _ hq R)
  obtain⟨b,O⟩:∃b,m[i]?=some b:=⟨_,Aa (by rw[u.1];exact Z)⟩
  obtain⟨e2,m1,m5,mT⟩:=u.2 i _ b R O;have hl:=zD b mT
  have M:=wZ m1 mT
  rw[e2]at tp;have a2:=cX tp
  fail "g";refine⟨Wk.set rfl (Wk.set rfl (Wk.refl _)),?_⟩;fail "g";refine RN rfl (by ((try clear Z a4 a5 b2 e);omega)) λW k=>?_
  rw[show Txt.split (cF b) " "=b.map aV from M];have Y:W≠D:=λz=>by rw[z,l]at k;cases k
  refine hA (.ref W) _ (by rw[aH (Ne.symm Y)];exact l) ⟨?_,d++[W],by rw[Ap];rfl,by rw[Af,e];rfl,λj p us c v=>?_⟩
  .refine bL C (L.trans (aG k _))
  .by_cases hj:j<d.length
   .rw[Am hj]at c;obtain⟨n1,t1⟩:=t j p us c v;refine⟨n1,?_⟩;unfold Wx at t1 ⊢;rw[aH n1];exact aG k _ _ _ t1
   .have ej:j=d.length:=by
     have:=(Ad.mp c).1
     rw[Af]at this;have:j<d.length+1:=this
     ((try clear Y Z a4 a5 b2 e hl m1 m5);omega)
    subst ej;rw[Aq (Ah _),Eh]at c;cases c;rw[e,O]at v;cases v;refine⟨Y,?_⟩;unfold Wx;rw[aH Y,aD]
 .obtain⟨L,d,rfl,e,t⟩:=r;exact q D I C L ⟨d,l,by rw[e,u.1],λj p b M hm=>(t j p b M hm).2⟩
def Ja:∀a,a.all bY=true->kS a a=true:=λa h=>by
 rw[nA rfl,Ca];intro i c;have f:=jO h i
 generalize a.getD i .non=x at f ⊢;cases x with
 |non=>rfl
 |bl b=>show (b==b)=true;simp
 |int i=>show (i==i)=true;simp
 |str z=>show (z==z)=true;simp
 |_=>cases f
def BV(xs ys:List Str):kS (xs.map V.str) (ys.map V.str)=decide (xs=ys):=by
 by_cases e:xs=ys
 .subst e;rw[Ja _ (dB _),An rfl]
 .rw[Aw e];by_cases a:xs.length=ys.length
  .cases h:kS (xs.map V.str) (ys.map V.str) with
   |false=>rfl
   |true=>
    rw[nA (by rw[Ab,Ab,a]),Ca,Ab]at h
    refine absurd (Ib a λj b d=>?_) e;have q:=h j (Bu.mpr b)
    rw[Ac,Ac,Ag,Ag,Aa b,Aa d]at q;have c:=q
    exact Ik c
  .exact wK (by simp_all)
def K1{s l:Nat}(h:s<=xs.length):kB xs (some (s:Int)) (some ((s:Int)+(l:Int)))=(xs.drop s).take l:=by
 show (xs.drop (if (s:Int)<0 then ((s:Int)+(xs.length:Int)).toNat else min (s:Int).toNat xs.length)).take ((if (s:Int)+(l:Int)<0 then ((s:Int)+(l:Int)+(xs.length:Int)).toNat else min (_+(l:Int)).toNat xs.length)-(if (s:Int)<0 then ((s:Int)+(xs.length:Int)).toNat else min (s:Int).toNat xs.length))=_
 rw[if_neg (by ((try clear h);omega)),if_neg (by ((try clear h);omega)),show (s:Int).toNat=s from rfl,show (_+(l:Int)).toNat=s+l by ((try clear h);omega),Fm h]
 by_cases a:s+l<=xs.length
 .rw[Fm a,Cu]
 .rw[Fe (by ((try clear h);omega)),Bg (by simp_all),Bg (by grind)]
def EV{a b:Q6}(h:a.map aV=b.map aV):a=b:=List.map_inj_right (λ_ _ e=>Ry e) |>.mp h
noncomputable def bR(a:List (List (List Nat)))(j:Nat):Nat:=(a.getD j []).length
def fW(a:List (List (List Nat)))(T:List (List Nat))(s j:Nat):Prop:=(T.drop s).take (bR a j)=a.getD j []
noncomputable instance (mss:List (Q6)) (T:Q6) (s j:Nat):Decidable (fW mss T s j):=inferInstanceAs (Decidable (_=_))
noncomputable def dY(a:List (List (List Nat)))(T:List (List Nat))(s:Nat):List Nat:=(List.range a.length).filter λj=>decide (fW a T s j)
noncomputable def Vo(mss:List (List (List Nat)))(T:List (List Nat))(s i:Nat):Option V:=if fW mss T s i then some (V.int (i:Int)) else none
def O0(a:List (Q6))(T:Q6)(s:Nat):∀n,(List.range n).filterMap (Vo a T s)=((List.range n).filter λj=>decide (fW a T s j)).map λj:Nat=>V.int (j:Int)
 |0=>rfl
 |n+1=>by
  rw[Cm,Bw,Fh,Ap,O0 a T s n]
  by_cases h:fW a T s n
  .rw[Cb (b:=V.int (n:Int)) (by unfold Vo;rw[if_pos h]),Ed,if_pos (An h)]
   rfl
  .rw[Cj (by unfold Vo;rw[if_neg h]),Ed,if_neg (by simp_all)]
   rfl
def dJ(h:j∈dY mss T s):j<mss.length/\fW mss T s j:=by
 obtain⟨b,a⟩:=Dg.mp h;simp_all
def pW(h:fW mss T s j)(hs:s<=T.length):s+bR mss j<=T.length:=by
 have:=Dp List.length h
 rw[Bt,Cf]at this;unfold bR at this ⊢;omega
def pM{a:Q6}(h:mss[j]?=some a):mss.getD j []=a:=by simp_all
def iG:Sp:=λe H Q _=>∃(a b:Addr) (c:List (List (List Nat))) (T:List (List Nat)) (s:Nat),e=[.ref a,.ref b,.int (s:Int)]/\Yp H a c/\c.length<=60/\Wx H b T/\T.length<=1000/\s<=T.length/\
 ∀r d,Z_ H d->Z4 d r=some ((dY c T s).map λj:Nat=>V.int (j:Int))->Q (.ref r) d
def uP:Z9 ["meanings", "terms", "start"] ["meanings", "terms", "start"] (aJ gC):=by fail "sc"
def uZ(F:ZT K "standing_at" "standing_at" gC f fd):Z8 P w K mg base ZS 1 f fd ["meanings", "terms", "start"] iG:=by
 refine F.ok uP (λvs H Q E h=>?_) (λa3 A J s H vs Q E O h=>?_)
 .obtain⟨a,b,c,T,s,rfl,_⟩:=h;rfl
 obtain⟨a,b,c,T,l,rfl,S,a2,hT,a1,M,q⟩:=h;refine⟨_,(@aI _ _ _ (aU (cL rfl (mW rfl G.b_enumerate (aA (mv 0) aB)) (gF (N:=["number", "meaning", "terms", "start"]) ["meanings", "terms", "start"] (aJ gC) [none,none,some 1,some 2] rfl rfl rfl (λx h=>bX h) (by decide +kernel)) (by decide +kernel) rfl (by decide +kernel) (λ_ _ _ _=>(eT (K:=K) (i:=0) (j:=1) (by rfl) (by rfl) (show List.Nodup (["number", "meaning", "terms", "start"]:List Str) by decide +kernel) (by rfl) (Or.inl rfl) (Or.inr rfl) (by rfl) (Or.inl rfl) (Or.inr rfl))) (λ_ _ _ _=>(jN (bB (P0 O.YN) (iB Vz (mv 2) (fH (mv 3)) (fH (aQ bO (mv 3) (aW cN rfl G.b_len bP (aA (mv 1) aB))))) (mv 1) (bA _)))) (λ_ _ _ _=>(mv 0))))),?_⟩
 obtain⟨I,p1,p2,p3⟩:=id S;have rp:=aO p1
 have p:(I.map V.ref).length=c.length:=by rw[Ab,p2]
 fail "g";refine RU (k:=0) (xs:=I.map V.ref) (λi _=>Vo c T l i) rp (by rw[p];exact bF (by (exact Nat.le_trans (by assumption) (by decide)))) (λi x Hc C A B o sm R hA=>?_) (λD Hd hD sD hd=>?_)
 .rw[Ag]at o;cases e:I[i]? with
  |none=>rw[e]at o;cases o
  |some n=>
   rw[e]at o;cases o;have hi:i<c.length:=by rw[<-p2];exact(Ad.mp e).1
   obtain⟨d,t⟩:∃d,c[i]?=some d:=⟨_,Aa hi⟩;have y:=sm.trans (aG R (.tup [V.int ((0+i:Nat):Int),V.ref n]))
   have X:=y _ _ (p3 i n d e t)
   have W:=y _ _ hT
   have Z:=aO X
   have rt:=aO W
   have v:nT (upd Hc C (.tup [V.int ((0+i:Nat):Int),V.ref n])) C=some [V.int ((0+i:Nat):Int),V.ref n]:=mY
   have U:((d.map aV).map V.str).length=d.length:=by rw[Ab,Ab]
   have L:((T.map aV).map V.str).length=T.length:=by rw[Ab,Ab]
   have eg:=pM t
   have u:fW c T l i ↔ (T.drop l).take d.length=d:=by unfold fW bR;rw[eg]
   generalize upd Hc C (.tup [V.int ((0+i:Nat):Int),V.ref n])=H2 at hA y X W Z rt v ⊢;fail "g";refine⟨Wk.set rfl (Wk.set rfl (Wk.refl _)),?_⟩;fail "g";rw[U];intro r O;rw[K1 (by rwa[L]),<-Fu,<-Fu,<-Gh,<-Gh]
   have Y:=aG O (.lst ((((T.drop l).take d.length).map aV).map V.str))
   refine Ts cE (aM Y Z) (dB _) (dB _) ?_;rw[if_neg Ar,BV];have m:=hA _ Y
   generalize upd H2 r (.lst ((((T.drop l).take d.length).map aV).map V.str))=H3 at m ⊢;fail "g";unfold Vo at m;by_cases z:fW c T l i
   .rw[if_pos z]at m;rw[An (Dp (List.map aV) (u.mp z))];rwa[Nat.zero_add]
   .rw[if_neg z]at m;rwa[Aw (λk=>z (u.mpr (EV k)))]
 .rw[p,O0]at hd;exact q D Hd sD hd
noncomputable def tV:Option Int->V
 |none=>.non
 |some n=>.int n
noncomputable def rE(a:List (List (List Nat)))(T:List (List Nat))(b:List (Option Int))(i:Nat):List (Option Int):=(dY a T i).map λj=>b.getD (i+bR a j) none
noncomputable def Xi(a:List (List (List Nat)))(T:List (List Nat))(b:List (Option Int))(i:Nat):List Int:=(rE a T b i).filterMap id
def sR(b:List (List (List Nat)))(T:List (List Nat))(c:List (Option Int))(i:Nat):Prop:=(Xi b T c i=[]/\c.getD i none=none)\/∃m,m∈Xi b T c i/\(∀a∈Xi b T c i,m<=a)/\c.getD i none=some (1+m)
def qB(a:List (List (List Nat))):Prop:=a.length<=60/\∀b∈a,1<=b.length/\b.length<=5
def lN(h:qB mss)(a:j<mss.length):1<=bR mss j/\bR mss j<=5:=by
 unfold bR;rw[Ac,Aa a];exact h.2 _ (Bx a)
def rL(b:qB mss)(h:∀k,i<k->TB.getD k none=TC.getD k none):rE mss T TB i=rE mss T TC i:=by
 refine Dy λj a=>?_;have:=lN b (dJ a).1
 grind
def Kx(a:qB mss)(h:∀k,i<=k->TB.getD k none=TC.getD k none)(r:sR mss T TB i):sR mss T TC i:=by
 unfold sR Xi at r ⊢;rwa[rL a (λk b=>h k (by (exact Nat.le_of_lt (by assumption)))),h i (Ah _)]at r
structure YS (mss:List (List (List Nat))) (T:List (List Nat)) (TB:List (Option Int)):Prop where
 len:TB.length=T.length+1
 last:TB.getD T.length none=some 0
 small:∀k n,TB.getD k none=some n->0<=n/\n<=1000
 row:∀i,i<T.length->sR mss T TB i
def Uc(h:k<TB.length):YV (TB.map tV) (k:Int)=some (tV (TB.getD k none)):=by
 refine aY ?_;simp_all
def rG{v:Option Int}(a:k<TB.length):(TB.set k v).getD i none=if i=k then v else TB.getD i none:=by grind
def Mz(bs:List _):(bs.map tV).filterMap (λx=>match x with|.int n=>some (V.int n)|_=>none)=(bs.filterMap id).map V.int:=by
 induction bs with
 |nil=>rfl
 |cons b r c=>
  cases b with
  |none=>rw[Au,Cj rfl,c,Cj rfl]
  |some n=>rw[Au,Cb (f:=λx=>match x with|.int n=>some (V.int n)|_=>none) (a:=tV _)  rfl,c,Cb  (a:=some n) (b:=n) rfl];rfl
def jV:Sp:=λf H Q _=>∃a b c T,f=[.ref a,.ref b]/\Yp H a c/\qB c/\Wx H b T/\T.length<=40/\
 ∀r e d,H r=none->Z_ H d->d r=some (.lst (e.map tV))->YS c T e->Q (.ref r) d
def m4:Z9 ["meanings", "terms", "table", "start", "behind", "known"] ["meanings", "terms"] (aJ eU):=by fail "sc"
def rA(F:ZT K "least_numbers" "least_numbers" eU f fd)(p9:ZR P w K mg base 1 "standing_at" ["meanings", "terms", "start"] iG):Z8 P w K mg base ZS 2 f fd ["meanings", "terms"] jV:=by
 refine F.ok m4 (λvs H Q E h=>?_) (λcdv A outer s H vs Q E hr h=>?_)
 .obtain⟨a,b,mss,T,rfl,_⟩:=h;rfl
 obtain⟨a,b,mss,T,rfl,hms,hL,hT,h40,q⟩:=h;refine⟨_,(@aE _ _ _ _ _ (aP 2 m4.nd (aQ bO (aQ Uv (bQ (aA dF aB)) (aW cN rfl G.b_len bP (aA (mv 1) aB))) (bQ (aA aK aB)))) (@aE _ _ _ _ _ (cV Bs rfl (FC rfl G.b_range (aA (aQ qK (aW cN rfl G.b_len bP (aA (mv 1) aB)) aK) (aA (TY Ua aK) (aA (TY Ua aK) aB)))) (aZ (i:=3) m4.nd rfl (Or.inr rfl)) (@aE _ _ _ _ _ (fL (i:=4) m4.nd rfl (Or.inl rfl) rfl (bT (aT p9 hr (by decide) rfl (aA (mv 0) (aA (mv 1) (aA (mv 3) aB))))) (gF (N:=["number", "table", "start", "meanings"]) ["meanings", "terms", "table", "start", "behind", "known"] (aJ eU) [none,some 2,some 3,some 0] rfl rfl rfl (λx h=>bX h) (by decide +kernel)) (by decide +kernel) rfl (by decide +kernel) (λ_ _ _ _=>(aZ (i:=0) (show List.Nodup (["number", "table", "start", "meanings"]:List Str) by decide +kernel) rfl (Or.inl rfl))) (λ_ _ _ _=>cY) (λ_ _ _ _=>(bI bZ (mv 1) (aQ bO (mv 2) (aW cN rfl G.b_len bP (aA (bI bZ (mv 3) (mv 0) (λ_ _=>rfl)) aB))) (λ_ _=>rfl)))) (@aE _ _ _ _ _ (fL (i:=5) m4.nd rfl (Or.inl rfl) rfl (bT (mv 4)) (iL (N:=["many"]) (by decide +kernel) (by decide +kernel)) (by decide +kernel) rfl (by decide +kernel) (λ_ _ _ _=>(aZ (i:=0) (show List.Nodup (["many"]:List Str) by decide +kernel) rfl (Or.inl rfl))) (λ_ _ _ _=>(jN (bB TR (mv 0) dF (bA _)))) (λ_ _ _ _=>(mv 0))) (@aI _ _ _ (cD (bB (Mx hr.YN) (mv 5) (bQ aB) (bA _)) (@aI _ _ _ (UX (aQ bO aK (aW (Li rfl) rfl G.b_min JJ (aA (mv 5) aB))) (SA (mv 2) (mv 3) uX))) bE))))) (@aI _ _ _ (aU (mv 2))))),?_⟩
 have htl:((T.map aV).map V.str).length=T.length:=by rw[Ab,Ab]
 have rT:=aO hT
 fail "g";refine⟨z0,λp0 hp0=>?_⟩
 have s0:=aG hp0 (.lst [V.non])
 have e0:(upd H p0 (.lst [V.non])) p0=some (.lst [V.non]):=aD
 generalize upd H p0 (.lst [V.non])=H0 at s0 e0 ⊢;have rT0:=aM s0 rT
 fail "g";rw[htl];refine⟨p0,_,[V.non],rfl,rfl,e0,by (exact Int.natCast_nonneg _),by omega,by show 1*((T.length:Int)).toNat<=sizeLine;exact bK (by omega),λp1 hp1=>?_⟩
 have er:(List.replicate ((T.length:Int)).toNat [V.non]).flatten=(List.replicate T.length (none:Option Int)).map tV:=by
  rw[show ((T.length:Int)).toNat=T.length from rfl];generalize T.length=n;induction n with
  |zero=>rfl
  |succ n ih=>rw[Do,By,ih,Do,Au];rfl
 rw[er];have s1:=s0.trans (aG hp1 (.lst ((List.replicate T.length (none:Option Int)).map tV)))
 have e1:(upd H0 p1 (.lst ((List.replicate T.length (none:Option Int)).map tV))) p1=_:=aD
 generalize upd H0 p1 (.lst ((List.replicate T.length (none:Option Int)).map tV))=H1 at s1 e1 ⊢;fail "g";refine⟨z0,λp2 hp2=>?_⟩
 have n2:p1≠p2:=bH e1 hp2
 refine jJ (xs:=(List.replicate T.length (none:Option Int)).map tV) (ys:=[V.int 0]) (by rw[uB n2];exact bM e1) dU (bK (by rw[Ab,Bz];show _+1<=_;(exact Nat.lt_of_le_of_lt (by assumption) (by decide)))) λtb htb=>?_
 rw[show (List.replicate T.length (none:Option Int)).map tV++[V.int 0]=(List.replicate T.length (none:Option Int)++[some 0]).map tV by rw[Ap];rfl]
 have htbH:H tb=none:=none_of (s1.trans (aG hp2 _)) htb
 have s3:=s1.trans ((aG hp2 (.lst [V.int 0])).trans (aG htb (.lst ((List.replicate T.length (none:Option Int)++[some 0]).map tV))))
 have e3:(upd (upd H1 p2 (.lst [V.int 0])) tb (.lst ((List.replicate T.length (none:Option Int)++[some 0]).map tV))) tb=_:=aD
 generalize upd (upd H1 p2 (.lst [V.int 0])) tb (.lst ((List.replicate T.length (none:Option Int)++[some 0]).map tV))=H3 at s3 e3 ⊢;have rT3:=aM s3 rT
 fail "g";rw[htl];refine⟨⟨by ((try clear n2);omega),by ((try clear n2);omega),by (exact Int.natCast_nonneg _),by (exact Int.natCast_nonneg _),rfl⟩,?_⟩
 have hcn:uN ((T.length:Int)-1) (-1)=T.length:=by unfold uN;((try clear n2);omega)
 rw[hcn];have ini:∀k,(List.replicate T.length (none:Option Int)++[some 0]).getD k none=if k=T.length then some 0 else none:=λk=>by
  rw[Ac];by_cases h1:k<T.length
  .rw[Am (by rw[Bz];exact h1),Fz,if_pos h1,if_neg (by (exact Nat.ne_of_lt (by assumption)))]
   rfl
  .rw[Aq (by rw[Bz];((try clear h40 n2);omega)),Bz]
   by_cases h2:k=T.length
   .subst h2;rw[if_pos rfl,Eh];rfl
   .rw[if_neg h2,Ek (by show 1<=_;((try clear h40 n2);omega))];rfl
 refine LL (λt U H'=>∃TB v3 v4 v5,U=[some (.ref a),some (.ref b),some (.ref tb),v3,v4,v5]/\Z_ H H'/\H' tb=some (.lst (TB.map tV))/\TB.length=T.length+1/\TB.getD T.length none=some 0/\(∀k v,TB.getD k none=some v->0<=v/\v<=(t:Int))/\(∀i,T.length<=i+t->i<T.length->sR mss T TB i)/\∀i,i+t<T.length->TB.getD i none=none)
  ⟨List.replicate T.length none++[some 0],_,_,_,rfl,s3,e3,by rw[Af,Bz];rfl,by rw[ini,if_pos rfl],λk v hv=>?_,λi h1 h2=>absurd h1 (by ((try clear h40 n2);omega)),λi hi=>by rw[ini,if_neg (by (exact Nat.ne_of_lt (by assumption)))]⟩ ?_ ?_
 .rw[ini]at hv;split at hv
  .cases hv;((try clear h40 hcn htl n2);omega)
  .cases hv
 .rintro t U H4 ht ⟨TB,v3,v4,v5,rfl,s4,e4,hlen,hlast,hsm,iM,hnone⟩;obtain⟨st,hst⟩:∃st,st+t+1=T.length:=⟨T.length-1-t,by ((try clear h40 n2);omega)⟩
  rw[show (T.length:Int)-1+(t:Int)*(-1)=(st:Int) by ((try clear h40 ht n2);omega)]
  have hms4:=hms.keep s4
  have hT4:=s4 _ _ hT
  fail "g";refine⟨a,b,mss,T,st,rfl,hms4,hL.1,hT4,by (exact Nat.le_trans (by assumption) (by decide)),by ((try clear h40 ht n2);omega),λrs H5 s5 e5=>?_⟩
  have e45:=s5 _ _ e4
  obtain⟨ps,p1',p2',p3'⟩:=hms4.keep s5;fail "g";refine qE (xs:=(dY mss T st).map λj:Nat=>V.int (j:Int)) (λx=>match x with|.int j=>some (tV (TB.getD (st+bR mss j.toNat) none))|_=>none) e5 (by
   rw[Ab];have:(dY mss T st).length<=mss.length:=by unfold dY;have:=Gj (λj=>decide (fW mss T st j)) (List.range mss.length);rw[Bf]at this;exact this
   exact bF (by have:=hL.1;((try clear h40 hcn hlen hst ht htl n2);omega))) (λi x Hc A B hx sm hA=>?_) (λD Hd hD sD hd=>?_)
  .rw[Ag]at hx;cases e:(dY mss T st)[i]? with
   |none=>rw[e]at hx;cases hx
   |some j=>
    rw[e]at hx;cases hx;obtain⟨hj,hS⟩:=dJ (Ao e);have hle:=pW hS (by ((try clear h40 hj ht n2 p2');omega))
    have hpj:ps[j]?=some (ps[j]'(by ((try clear h40 hcn hle hlen hst ht htl n2);omega))):=Aa _
    obtain⟨ms,hmj⟩:∃ms,mss[j]?=some ms:=⟨_,Aa hj⟩;have tm:=sm _ _ (p3' j _ ms hpj hmj)
    have rm:=aO tm
    have eg:=pM hmj
    have hml:((ms.map aV).map V.str).length=bR mss j:=by unfold bR;rw[eg,Ab,Ab]
    have rps:=aO (sm _ _ p1')
    have rtb:=aO (sm _ _ e45)
    fail "g";refine⟨Wk.set rfl (Wk.refl _),?_⟩;fail "g";refine dG rps (v:=.ref (ps[j]'(by ((try clear h40 hcn hle hlen hml hst ht htl n2);omega)))) (aY (by rw[Ag,hpj];rfl)) ?_
    fail "g";rw[hml];refine dG rtb (by rw[show (st:Int)+(bR mss j:Int)=((st+bR mss j:Nat):Int) by ((try clear h40 hcn hj hle hlen hml hst ht htl n2 p2');omega)];exact Uc (by ((try clear h40 hj hst ht n2 p2');omega))) ?_
    exact hA _ (Z_.refl _)
  .have eb:((dY mss T st).map λj:Nat=>V.int (j:Int)).filterMap (λx=>match x with | .int j=>some (tV (TB.getD (st+bR mss j.toNat) none)) | _=>none)=(rE mss T TB st).map tV:=by
    unfold rE;rw[Hj,Ce];exact kH (λj:Nat=>tV (TB.getD (st+bR mss j) none)) _
   rw[eb]at hd;have e4d:=sD _ _ e45
   have rbD:=aO hd
   have hbl:((rE mss T TB st).map tV).length<=60:=by
    rw[Ab];unfold rE dY;rw[Ab];have:=Gj (λj=>decide (fW mss T st j)) (List.range mss.length)
    rw[Bf]at this;have:=hL.1
    ((try clear h40 hcn hlen hst ht htl n2);omega)
   fail "g";refine qE (xs:=(rE mss T TB st).map tV) (λx=>match x with|.int n=>some (V.int n)|_=>none) rbD (bF (by (exact Nat.le_trans (by assumption) (by decide)))) (λi x Hc A B hx sm hA=>?_) (λD2 Hd2 hD2 sD2 hd2=>?_)
   .rw[Ag]at hx;cases e:(rE mss T TB st)[i]? with
    |none=>rw[e]at hx;cases hx
    |some o=>
     rw[e]at hx;cases hx;have r:=hA _ (Z_.refl _)
     cases o with
     |none=>
      fail "g";refine⟨Wk.set rfl (Wk.refl _),?_⟩;fail "g";exact r
     |some n=>
      fail "g";refine⟨Wk.set rfl (Wk.refl _),?_⟩;fail "g";exact r
   .rw[Mz]at hd2;have hd2':Hd2 D2=some (.lst ((Xi mss T TB st).map V.int)):=hd2
    have e42:=sD2 _ _ e4d
    fail "g";refine⟨by decide,λpe hpe=>?_⟩
    have s6:=aG hpe (.lst [])
    refine Ts (neg:=true) (aM s6 (aO hd2')) cE (by rw[Ca];intro x hx;obtain⟨n,_,rfl⟩:=Ba.mp hx;rfl) rfl ?_
    have e6:=s6 _ _ e42
    have d6:=s6 _ _ hd2'
    have s06:=s4.trans (s5.trans (sD.trans (sD2.trans s6)))
    generalize upd Hd2 pe (.lst [])=H6 at s6 e6 d6 s06 ⊢;have en:∀xs:List V,kS xs []=xs.isEmpty:=λxs=>by cases xs<;>rfl
    rw[if_pos rfl,en];have hst1:st<TB.length:=by ((try clear h40 hbl ht n2 p2');omega)
    have hstn:TB.getD st none=none:=hnone st (by (exact Nat.le_of_eq (by assumption)))
    fail "g";cases hk:Xi mss T TB st with
    |nil=>
     rw[show (List.map V.int ([]:List Int)).isEmpty=true from rfl];fail "g";refine⟨TB,_,_,_,rfl,s06,e6,hlen,hlast,λk v hv=>by have:=hsm k v hv;((try clear h40 hbl hst1 ht n2 p2');omega),λi h1 h2=>?_,λi hi=>hnone i (by (exact Nat.le_of_lt (by assumption)))⟩
     by_cases ei:i=st
     .subst ei;exact .inl ⟨hk,hstn⟩
     .exact iM i (by ((try clear h2 h40 hbl hst1 ht n2 p2');omega)) h2
    |cons k0 kr=>
     rw[show (List.map V.int (k0::kr)).isEmpty=false from rfl];rw[hk]at d6;have nD:D2≠tb:=λz=>by rw[z,sD2 _ _ e4d]at hd2';rw[z]at hD2;rw[e4d]at hD2;cases hD2
     fail "g";refine BK (ns:=k0::kr) (aO d6) (by rw[Av];((try clear h40 hbl hcn hlen hst hst1 ht htl n2 nD p2');omega)) λm hm hmin=>?_
     fail "g";refine Tg (o:=.non) (bM e6) (R8 (by (exact Int.natCast_nonneg _)) (by rw[Ab];(exact Int.ofNat_le.mpr (by assumption)))) ?_
     rw[show ((st:Nat):Int).toNat=st from rfl,show V.int (1+m)=tV (some (1+m)) from rfl,<-List.map_set];have hmk:m∈Xi mss T TB st:=by rw[hk];exact hm
     have hmo:some m∈rE mss T TB st:=by
      obtain⟨o,ho,e⟩:=Cr.mp hmk;have e2:o=some m:=e
      rw[<-e2];exact ho
     obtain⟨jj,hjj,ejj⟩:=Ba.mp hmo;have hmb:=hsm _ _ ejj
     have gd:∀k,k≠st->TB.getD k none=(TB.set st (some (1+m))).getD k none:=λk hk=>by rw[rG hst1,if_neg hk]
     fail "g";refine⟨TB.set st (some (1+m)),_,_,_,rfl,bL htbH s06,aD,by rw[Cw];exact hlen,by rw[<-gd _ (by ((try clear h40 hbl hmb hst1 ht n2 nD p2');omega))];exact hlast,λk v hv=>?_,λi h1 h2=>?_,λi hi=>by rw[<-gd _ (by ((try clear h40 hbl hmb hst1 ht n2 nD p2');omega))];exact hnone i (by (exact Nat.le_of_lt (by assumption)))⟩
     .by_cases ek:k=st
      .subst ek;rw[rG hst1,if_pos rfl]at hv;cases hv;((try clear h40 hbl hst1 ht n2 nD p2');omega)
      .rw[<-gd k ek]at hv;have:=hsm k v hv
       ((try clear ek h40 hbl hmb hst1 ht n2 nD p2');omega)
     .by_cases ei:i=st
      .subst ei;have ebe:rE mss T (TB.set i (some (1+m))) i=rE mss T TB i:=rL hL λk hk=>(gd k (by (exact Nat.ne_of_gt (by assumption)))).symm
       refine .inr ⟨m,?_,?_,by rw[rG hst1,if_pos rfl]⟩
       .unfold Xi;rw[ebe];exact hmk
       .unfold Xi;rw[ebe];intro x hx;have hx2:x∈Xi mss T TB i:=hx
        rw[hk]at hx2;exact hmin x hx2
      .exact Kx hL (λk hk=>gd k (by ((try clear h2 h40 hbl hmb hst1 ht n2 nD p2');omega))) (iM i (by ((try clear h2 h40 hbl hmb hst1 ht n2 nD p2');omega)) h2)
 .rintro U H4 ⟨TB,v3,v4,v5,rfl,s4,e4,hlen,hlast,hsm,iM,hnone⟩;fail "g";exact q tb TB H4 htbH s4 e4 ⟨hlen,hlast,λk n hn=>by have:=hsm k n hn;((try clear n2);omega),λi hi=>iM i (by ((try clear h40 hcn hi hlen htl n2);omega)) hi⟩
def S5(h:cS bk mss)(a:bk.length<=60):qB mss:=by
 refine⟨by rwa[h.1],λc d=>?_⟩
 obtain⟨j,b,e⟩:=Bv.mp d;have f:j<bk.length:=by rwa[<-h.1]
 have:=h.2 j _ c (Aa f) (by rw[Aa b,e])
 simp_all
noncomputable def QQ:Str:=("longest_on" : Str) ++ ".<locals>." ++ "<lambda>"
noncomputable def HV:Pos:=⟨101,29,101,65⟩
def cR(a:Addr)(H:Hp):Prop:=Y2 a QQ HV H
structure WZ (mss:List (List (List Nat))) (T:List (List Nat)) (TB:List (Option Int)) (i k:Nat):Prop where
 st:k∈dY mss T i
 one:∃n,TB.getD i none=some n/\TB.getD (i+bR mss k) none=some (n-1)
 most:∀j∈dY mss T i,TB.getD (i+bR mss j) none=TB.getD (i+bR mss k) none->bR mss j<=bR mss k
inductive Path (mss:List (List (List Nat))) (T:List (List Nat)) (TB:List (Option Int)):Nat->List Nat->Prop
 |nil:Path mss T TB T.length []
 |cons {i k:Nat} {ks:List Nat}:i<T.length->WZ mss T TB i k->Path mss T TB (i+bR mss k) ks->Path mss T TB i (k::ks)
def Ti(p:Nat->Bool):∀L:List Nat,(L.map λj:Nat=>V.int (j:Int)).filterMap (λx=>match x with|.int j=>if p j.toNat=true then some (V.int j) else none|_=>none)=(L.filter p).map λj:Nat=>V.int (j:Int)
 |[]=>rfl
 |j::r=>by
  rw[Au];cases h:p j with
  |true=>
   rw[Cb (b:=V.int (j:Int)) (by show (if p ((j:Int)).toNat=true then _ else _)=_;rw[Fq,if_pos h]),Ti p r,Ed,if_pos h]
   rfl
  |false=>
   rw[Cj (by simp_all),Ti p r,Ed,if_neg (by rw[h];decide)]
inductive jD(e:Addr)(h:List V)(H:Hp)(Q:VK)(zz3:XK):Prop|mk(a b g:Addr)(c:List (List (List Nat)))(T:List (List Nat))(d:List (Option Int))(i:Nat)(n:Int)(_:h=[.ref a,.ref b,.ref g,.int (i:Int)])(_:Yp H a c)(_:qB c)(_:Wx H b T)(_:T.length<=40)(_:H g=some (.lst (d.map tV)))(_:YS c T d)(_:i<T.length)(_:d.getD i none=some n)(_:cR e H)(_:∀k f,WZ c T d i k->ZY e H f->cR e f->Q (.int (k:Int)) f):jD e h H Q zz3
def j3:Z9 ["meanings", "terms", "table", "start", "left", "standing", "shortest"] ["meanings", "terms", "table", "start"] (aJ dS):=by fail "sc"
def xW(F:ZT K "longest_on" "longest_on" dS f fd)(c1:fd.code=.ref c)(LB:Yc mg base c Pt)(p9:ZR P w K mg base 1 "standing_at" ["meanings", "terms", "start"] iG):Z8 P w K mg base ZS 2 f fd ["meanings", "terms", "table", "start"] (jD Pt):=by
 refine F.Nd c1 j3 (λvs H Q E h=>?_) (λd1 A b4 s H vs Q E b1 hr h=>?_)
 .obtain⟨a,b,tb,d,T,Z,i,n,rfl,_⟩:=h;rfl
 obtain⟨a,b,tb,d,T,Z,l,n,rfl,a8,hL,hT,c9,b2,ok,b6,hn,a9,q⟩:=h;refine⟨_,(@aE _ _ _ _ _ (aP 4 j3.nd (aQ qK (bI bZ (mv 2) (mv 3) (λ_ _=>rfl)) aK)) (@aE _ _ _ _ _ (aP 5 j3.nd (aT p9 hr (by decide) rfl (aA (mv 0) (aA (mv 1) (aA (mv 3) aB))))) (@aE _ _ _ _ _ (fL (i:=6) j3.nd rfl (Or.inl rfl) rfl (bT (mv 5)) (gF (N:=["number", "left", "table", "start", "meanings"]) ["meanings", "terms", "table", "start", "left", "standing", "shortest"] (aJ dS) [none,some 4,some 2,some 3,some 0] rfl rfl rfl (λx h=>bX h) (by decide +kernel)) (by decide +kernel) rfl (by decide +kernel) (λ_ _ _ _=>(aZ (i:=0) (show List.Nodup (["number", "left", "table", "start", "meanings"]:List Str) by decide +kernel) rfl (Or.inl rfl))) (λ_ _ _ _=>(jN (bB lC (bI bZ (mv 2) (aQ bO (mv 3) (aW cN rfl G.b_len bP (aA (bI bZ (mv 4) (mv 0) (λ_ _=>rfl)) aB))) (λ_ _=>rfl)) (mv 1) (bA _)))) (λ_ _ _ _=>(mv 0))) (@aI _ _ _ (aU (A8 rfl (EU hr) rfl G.b_max (aA (mv 6) aB) b1 LB (IQ (N:=["number", "meanings"]) (x := "number") ["meanings", "terms", "table", "start", "left", "standing", "shortest"] (aJ dS) [0] rfl rfl (λx h=>bX h) (by decide +kernel)) (λA f c' c3 c5=>(aW cN rfl G.b_len bP (aA (bI bZ (mv 1) (mv 0) (λ_ _=>rfl)) aB))) rfl rfl rfl rfl (by decide +kernel) (λ_ _ _ _ _=>rfl))))))),?_⟩
 have a1:=aO b2
 have c4:=ok.len
 fail "g";refine dG a1 (v:=.int n) (by rw[Uc (by ((try clear c9);omega)),hn];rfl) ?_
 fail "g";refine⟨a,b,d,T,l,rfl,a8,hL.1,hT,by (exact Nat.le_trans (by assumption) (by decide)),by (exact Nat.le_of_lt (by assumption)),λrs H5 s5 e5=>?_⟩
 have c2:=s5 _ _ b2
 obtain⟨ps,a3,c6,a2⟩:=a8.keep s5;have c7:(dY d T l).length<=60:=by
  have:=Gj (λj=>decide (fW d T l j)) (List.range d.length)
  rw[Bf]at this;have:=hL.1
  unfold dY;((try clear b6 c4 c9);omega)
 fail "g";refine qE (xs:=(dY d T l).map λj:Nat=>V.int (j:Int)) (λx=>match x with|.int j=>if decide (Z.getD (l+bR d j.toNat) none=some (n-1))=true then some (V.int j) else none|_=>none) e5 (by rw[Ab];exact bF (by (exact Nat.le_trans (by assumption) (by decide)))) (λi x Hc A B hx sm hA=>?_) (λD Hd hD sD hd=>?_)
 .rw[Ag]at hx;cases e:(dY d T l)[i]? with
  |none=>rw[e]at hx;cases hx
  |some j=>
   rw[e]at hx;cases hx;obtain⟨W,hS⟩:=dJ (Ao e);have c8:=pW hS (by (exact Nat.le_of_lt (by assumption)))
   have C:ps[j]?=some (ps[j]'(by ((try clear b6 c4 c7 c8 c9);omega))):=Aa _
   obtain⟨L,I⟩:∃L,d[j]?=some L:=⟨_,Aa W⟩;have tm:=sm _ _ (a2 j _ L C I)
   have rm:=aO tm
   have eg:=pM I
   have R:((L.map aV).map V.str).length=bR d j:=by unfold bR;rw[eg,Ab,Ab]
   have O:=aO (sm _ _ a3)
   have b3:=aO (sm _ _ c2)
   have r:(match (if decide (Z.getD (l+bR d j) none=some (n-1))=true then some (V.int (j:Int)) else none) with|some y=>A y Hc|none=>B Hc):=hA _ (Z_.refl _)
   fail "g";refine⟨Wk.set rfl (Wk.refl _),?_⟩;fail "g";refine dG O (v:=.ref (ps[j]'(by ((try clear R b6 c4 c7 c8 c9);omega)))) (aY (by rw[Ag,C];rfl)) ?_
   fail "g";rw[R];refine dG b3 (by rw[show (l:Int)+(bR d j:Int)=((l+bR d j:Nat):Int) by ((try clear R W b6 c4 c6 c7 c8 c9);omega)];exact Uc (by ((try clear W b6 c6 c7 c9);omega))) ?_
   generalize Z.getD (l+bR d j) none=o at r ⊢;cases o with
   |none=>
    rw[if_neg (by simp)]at r
    refine⟨rfl,?_⟩;rw[show decide (tV none=V.int (n-1))=false from Aw λz=>nomatch z]
    exact r
   |some m=>
    show TU (V.int m) (V.int (n-1)) _ _
    fail "g";by_cases z:m=n-1
    .rw[An (by rw[z]),if_pos rfl]at r
     rw[An z];fail "g";exact r
    .rw[Aw (λy=>z (by injection y)),if_neg (by decide)]at r
     rw[Aw z];exact r
 .rw[Ti λj=>decide (Z.getD (l+bR d j) none=some (n-1))]at hd;generalize b9:(dY d T l).filter (λj=>decide (Z.getD (l+bR d j) none=some (n-1)))=J at hd;have t:∀j,j∈J ↔ j∈dY d T l/\Z.getD (l+bR d j) none=some (n-1):=λj=>by rw[<-b9,Dg,Bo]
  have a6:0<J.length:=by
   rcases ok.row l b6 with⟨_,z⟩|⟨m,hm,_,M⟩
   .rw[hn]at z;cases z
   .rw[hn]at M;obtain⟨o,ho,e⟩:=Cr.mp hm;have e2:o=some m:=e
    obtain⟨j,W,ej⟩:=Ba.mp ho;have:j∈J:=(t j).mpr ⟨W,by rw[ej,e2];injection M with M;rw[M];congr 1;((try clear M b6 c4 c6 c7 c9);omega)⟩
    exact List.length_pos_of_mem this
  have b7:=a9.keep (s5.trans sD)
  have a5:=sD _ _ a3
  fail "g";refine BD ?_;fail "g";refine⟨D,J.map λj:Nat=>(j:Int),λi=>((bR d (J.getD i 0):Nat):Int),rfl,by rw[Ce];exact aO hd,by rw[Ab];exact a6,b7,λH2 a4 i n0 a7=>?_,λi m H2 hm X sP b8=>?_⟩
  .rw[Ag]at a7;obtain⟨k,ek,rfl⟩:=Cd.mp a7;obtain⟨U,S⟩:=(t k).mp (Ao ek);obtain⟨W,hS⟩:=dJ U;have C:ps[k]?=some (ps[k]'(by ((try clear a6 b6 c4 c7 c9);omega))):=Aa _
   obtain⟨L,I⟩:∃L,d[k]?=some L:=⟨_,Aa W⟩;have O:=a4 _ _ (aO a5)
   have rm:=a4 _ _ (aO (sD _ _ (a2 k _ L C I)))
   have R:((L.map aV).map V.str).length=bR d k:=by unfold bR;rw[pM I,Ab,Ab]
   have Y:J.getD i 0=k:=by rw[Ac,ek];rfl
   change UC L2.bR (VV (VQ WS (VG 1) (VG 0)) wF) [some (V.int (k:Int)),some (V.ref a)] H2 _
   fail "g";refine dG O (v:=.ref (ps[k]'(by ((try clear R a6 b6 c4 c7 c9);omega)))) (aY (by rw[Ag,C];rfl)) ?_
   fail "g";rw[R,Y];exact⟨rfl,rfl⟩
  .rw[Ag]at hm;obtain⟨k,ek,rfl⟩:=Cd.mp hm;obtain⟨U,S⟩:=(t k).mp (Ao ek);have Y:J.getD i 0=k:=by rw[Ac,ek];rfl
   refine q k H2 ⟨U,⟨n,hn,S⟩,λj W ej=>?_⟩ ((Z_.p (s5.trans sD)).trans sP) b8;obtain⟨u,hu⟩:=Gi.mp ((t j).mpr ⟨W,ej.trans S⟩);have b5:=(Ad.mp hu).1
   have h2:((bR d (J.getD u 0):Nat):Int)<=((bR d (J.getD i 0):Nat):Int):=X u (by rw[Ab];exact b5)
   rw[Y,show J.getD u 0=j by rw[Ac,hu];rfl]at h2
   ((try clear Y a6 b5 b6 c4 c6 c7 c9);omega)
def PD(s:ZY Pt H H')(l:cR Pt H)(h:Z4 H a=some xs):Z4 H' a=some xs:=UW s h l.tb
def X7(s:ZY Pt H H')(l:cR Pt H)(h:H a=some o)(c:∀b,o≠.tbl b):H' a=some o:=s a o (λz=>by
 obtain⟨b,e⟩:=l.tb;rw[z,e]at h;cases h;exact c _ rfl) h
def Lc(h:Yp H r mss)(s:ZY Pt H H')(l:cR Pt H):Yp H' r mss:=by
 obtain⟨a,g,f,e⟩:=h;exact⟨a,X7 s l g (λ_=>nofun),f,λj p b c d=>X7 s l (e j p b c d) λ_=>nofun⟩
def GP(h:ZE H r bk)(s:ZY Pt H H')(l:cR Pt H):ZE H' r bk:=by
 obtain⟨a,g,f,e⟩:=h;exact⟨a,X7 s l g (λ_=>nofun),f,λj p b c d=>X7 s l (e j p b c d) λ_=>nofun⟩
def Ky(h:cR Pt H)(e:H p=some (.lst xs)):cR Pt (upd H p o):=by
 have a:∀b u,H b=some u->(∀z,u≠.lst z)->b≠p:=λb u h n y=>by grind
 rcases h with h|⟨c,f,d⟩
 .exact .inl (by rwa[aH (a _ _ h λ_=>nofun)])
 .exact .inr ⟨c,by rwa[aH (a _ _ f λ_=>nofun)],by rwa[aH (a _ _ d λ_=>nofun)]⟩
def L1(a:H p=none)(s:ZY Pt H H'):ZY Pt H (upd H' p o):=λb u n e=>by rw[aH (λz=>by grind)];exact s b u n e
inductive WH (mss:List (List (List Nat))) (T:List (List Nat)):Nat->Nat->Prop
 |nil:WH mss T T.length 0
 |cons {i k n:Nat}:i<T.length->k∈dY mss T i->WH mss T (i+bR mss k) n->WH mss T i (n+1)
def HW(y:qB mss)(ok:YS mss T TB):∀d i,i+d=T.length->(∀n,WH mss T i n->∃m,m<=n/\TB.getD i none=some (m:Int))/\∀v,TB.getD i none=some v->∃n:Nat,v=(n:Int)/\WH mss T i n:=λd=>by
 induction d using Nat.strongRecOn with
 |ind d r=>
  intro i D;by_cases E:d=0
  .obtain rfl:i=T.length:=by omega
   refine⟨λn _=>⟨0,Da _,ok.last⟩,λv g=>?_⟩;rw[ok.last]at g;cases g;exact⟨0,rfl,.nil⟩
  .have b:i<T.length:=by omega
   have c:∀k∈dY mss T i,i+bR mss k<=T.length/\1<=bR mss k:=λk a=>by
    obtain⟨t,s⟩:=dJ a;exact⟨pW s (by (exact Nat.le_of_lt (by assumption))),(lN y t).1⟩
   have q:∀k∈dY mss T i,∀m,TB.getD (i+bR mss k) none=some m->m∈Xi mss T TB i:=λk a m e=>Cr.mpr ⟨some m,Ba.mpr ⟨k,a,e⟩,rfl⟩
   refine⟨λn j=>?_,λv g=>?_⟩
   .cases j with
    |nil=>exact absurd b (Dc _)
    | @cons _ k n _ a j=>
     obtain⟨w,u⟩:=c k a;obtain⟨m,C,e⟩:=(r (T.length-(i+bR mss k)) (by ((try clear E b);omega)) (i+bR mss k) (by ((try clear E b u);omega))).1 n j
     rcases ok.row i b with⟨z,_⟩|⟨p,h,f,l⟩
     .have:=q k a _ e
      rw[z]at this;cases this
     .have t:=f _ (q k a _ e)
      have s:=ok.small i _ l
      refine⟨(1+p).toNat,by ((try clear D E b s u w);omega),?_⟩
      rw[l,Hb (by ((try clear C D E b t u w);omega))]
   .rcases ok.row i b with⟨_,z⟩|⟨p,h,f,l⟩
    .rw[g]at z;cases z
    .rw[g]at l;cases l;obtain⟨o,x,e⟩:=Cr.mp h;have B:=e
     obtain⟨k,a,A⟩:=Ba.mp x;obtain⟨w,u⟩:=c k a;obtain⟨n,F,j⟩:=(r (T.length-(i+bR mss k)) (by ((try clear E b);omega)) (i+bR mss k) (by ((try clear E b u);omega))).2 p (A.trans B)
     exact⟨n+1,by ((try clear D E b u w);omega),.cons b a j⟩
def tF(e:Addr):Sp:=λh H Q _=>∃a d b T n,h=[.ref a,.str (cF T)]/\ZE H a d/\d.length<=60/\cS d b/\1<=T.length/\T.length<=40/\(∀t∈T,fF t)/\WH b T 0 n/\cR e H/\
 ∀r g f c,H r=none->ZY e H c->cR e c->c r=some (.lst (f.map λk=>V.int ((k:Nat):Int)))->YS b T g->Path b T g 0 f->Q (.ref r) c
inductive Zn (mss:List (List (List Nat))) (T:List (List Nat)) (TB:List (Option Int)):Nat->List Nat->Prop
 |nil:Zn mss T TB 0 []
 |snoc {i k:Nat} {ks:List Nat}:i<T.length->WZ mss T TB i k->Zn mss T TB i ks->Zn mss T TB (i+bR mss k) (ks++[k])
def Zn.path(h:Zn mss T TB i ks):∀ {a:List Nat},Path mss T TB i a->Path mss T TB 0 (ks++a):=by
 induction h with
 |nil=>exact λh=>h
 |snoc e d _ b=>
  intro a c;rw[Fo];exact b (.cons e d c)
def Zn.len(hL:qB mss)(h:Zn mss T TB i ks):ks.length<=i:=by
 induction h with
 |nil=>exact Ah _
 | @snoc i k ks h1 h2 _ ih=>
  have:=(lN hL (dJ h2.st).1).1
  grind
def x8:Z9 ["book", "text", "terms", "meanings", "table", "numbers", "start", "number"] ["book", "text"] (aJ pH):=by fail "sc"
def Iz(F:ZT K "cut_text" "cut_text" pH f fd)(a9:ZR P w K mg base 3 "terms_of" ["text"] sY)(a8:ZR P w K mg base 1 "meanings_of" ["book"] mM)(a7:ZR P w K mg base 2 "least_numbers" ["meanings", "terms"] jV)(a6:ZR P w K mg base 2 "longest_on" ["meanings", "terms", "table", "start"] (jD Pt)):Z8 P w K mg base ZS 4 f fd ["book", "text"] (tF Pt):=by
 refine F.ok x8 (λvs H Q E h=>?_) (λd2 A b2 s H vs Q E hr h=>?_)
 .obtain⟨a,bk,b,T,n,rfl,_⟩:=h;rfl
 obtain⟨a,bk,b,T,n,rfl,Y,a5,O,h1,y,hT,l,X,q⟩:=h;refine⟨_,(@aE _ _ _ _ _ (aP 2 x8.nd (aT a9 hr (by decide) rfl (aA (mv 1) aB))) (@aE _ _ _ _ _ (aP 3 x8.nd (aT a8 hr (by decide) rfl (aA (mv 0) aB))) (@aE _ _ _ _ _ (aP 4 x8.nd (aT a7 hr (by decide) rfl (aA (mv 3) (aA (mv 2) aB)))) (@aE _ _ _ _ _ (cD (bB Vx (bI bZ (mv 4) aK (λ_ _=>rfl)) dF (bA _)) (@aI _ _ _ PX) bE) (@aE _ _ _ _ _ (aP 5 x8.nd (bQ aB)) (@aE _ _ _ _ _ (aP 6 x8.nd aK) (@aE _ _ _ _ _ (xT Bs (bB yI (mv 6) (aW cN rfl G.b_len bP (aA (mv 2) aB)) (bA _)) (@aE _ _ _ _ _ (aP 7 x8.nd (aT a6 hr (by decide) rfl (aA (mv 3) (aA (mv 2) (aA (mv 4) (aA (mv 6) aB)))))) (@aE _ _ _ _ _ (bU (cI Bj Di Dj wR (mv 5) (aA (mv 7) aB))) (@aI _ _ _ (aP 6 x8.nd (aQ bO (mv 6) (aW cN rfl G.b_len bP (aA (bI bZ (mv 3) (mv 7) (λ_ _=>rfl)) aB)))))))) (@aI _ _ _ (aU (mv 5)))))))))),?_⟩
 have Z:=S5 O a5
 fail "g";refine⟨T,rfl,h1,y,hT,λrt H1 b6 s1 t=>?_⟩;fail "g";refine⟨a,bk,b,rfl,Y.keep s1,a5,O,λrm H2 b7 s2 x=>?_⟩;fail "g";refine⟨rm,rt,b,T,rfl,x,Z,s2 _ _ t,y,λtb C H3 b4 s3 e3 ok=>?_⟩;obtain⟨m,b8,em⟩:=(HW Z ok T.length 0 (by ((try clear a5 h1 y);omega))).1 n l
 have r:=s1.trans (s2.trans s3)
 have b5:=s3 _ _ (s2 _ _ t)
 have S:=x.keep s3
 have B:=X.keep r
 clear l b8 Y s2 b7 x t b6 b4;fail "g";refine dG (aO e3) (v:=.int (m:Int)) (by rw[show (0:Int)=((0:Nat):Int) from rfl,Uc (by rw[ok.len];((try clear a5);omega)),em];rfl) ?_
 fail "g";refine⟨by decide,λd u=>?_⟩
 have s4:=aG u (.lst [])
 have e4:(upd H3 d (.lst [])) d=some (.lst ((([]:List Nat)).map λk=>V.int ((k:Nat):Int))):=aD
 generalize upd H3 d (.lst [])=H4 at s4 e4 ⊢;have b3:((T.map aV).map V.str).length=T.length:=by rw[Ab,Ab]
 have M:=none_of r u
 fail "g";refine⟨λm U o=>∃(i:Nat) (c:List Nat) (z:Option V),U=[some (.ref a),some (.str (cF T)),some (.ref rt),some (.ref rm),some (.ref tb),some (.ref d),some (.int (i:Int)),z]/\m+i=T.length/\ZY Pt H3 o/\cR Pt o/\o d=some (.lst (c.map λk=>V.int ((k:Nat):Int)))/\Zn b T C i c/\∃v,C.getD i none=some v,
  ⟨T.length,0,[],_,rfl,rfl,Z_.p s4,B.keep s4,e4,.nil,_,em⟩,?_⟩
 rintro m0 U H5 ⟨i,c,z,rfl,hi,J,l5,e5,hp,v,ev⟩;have L:=X7 J B b5 (λ_=>nofun)
 have c1:=Lc S J B
 have c4:=X7 J B e3 λ_=>nofun
 have c5:=aO L
 have c7:=hp.len Z
 fail "g";rw[b3];refine dW (λhg=>?_) (λhg=>?_)
 .have W:i<T.length:=by have:=Az hg;((try clear a5 c7 h1 y);omega)
  refine⟨λU' o=>∃j c z,i<j/\j<=T.length/\U'=[some (.ref a),some (.str (cF T)),some (.ref rt),some (.ref rm),some (.ref tb),some (.ref d),some (.int (j:Int)),z]/\ZY Pt H3 o/\cR Pt o/\o d=some (.lst (c.map λk=>V.int ((k:Nat):Int)))/\Zn b T C j c/\∃v,C.getD j none=some v,λU' o ⟨j,c,z,a1,a2,a3,a4⟩=>⟨T.length-j,by ((try clear W a5 c7 h1 y);omega),j,c,z,a3,by ((try clear W a1 a5 c7 h1 y);omega),a4⟩,?_⟩
  fail "g";refine⟨rm,rt,tb,b,T,C,i,v,rfl,c1,Z,L,y,c4,ok,W,ev,l5,λk H6 hb D l6=>?_⟩;have I:=J.trans D
  have e6:=X7 D l5 e5 λ_=>nofun
  have c8:=bM e6
  obtain⟨ps,p1,p2,p3⟩:=id S;obtain⟨hk,hS⟩:=dJ hb.st;have c2:=pW hS (by (exact Nat.le_of_lt (by assumption)))
  have d1:=(lN Z hk).1
  have c9:(c.map λk=>V.int ((k:Nat):Int)).length<=40:=by rw[Ab];((try clear a5 c2 d1 hk p2);omega)
  obtain⟨n',en,c3⟩:=hb.one;have N:ps[k]?=some (ps[k]'(by ((try clear W a5 b3 c2 c7 c9 d1 h1 hi y);omega))):=Aa _
  obtain⟨ms,R⟩:∃ms,b[k]?=some ms:=⟨_,Aa hk⟩;have b9:((ms.map aV).map V.str).length=bR b k:=by unfold bR;rw[pM R,Ab,Ab]
  fail "g";have e:ZY Pt H3 (upd H6 d (.lst ((c.map λk=>V.int ((k:Nat):Int))++[V.int (k:Int)]))):=L1 u I
  have l7:cR Pt (upd H6 d (.lst ((c.map λk=>V.int ((k:Nat):Int))++[V.int (k:Int)]))):=Ky l6 e6
  have e7:(upd H6 d (.lst ((c.map λk=>V.int ((k:Nat):Int))++[V.int (k:Int)]))) d=some (.lst ((c++[k]).map λk=>V.int ((k:Nat):Int))):=by rw[aD,Ap];rfl
  generalize upd H6 d (.lst ((c.map λk=>V.int ((k:Nat):Int))++[V.int (k:Int)]))=H7 at e l7 e7 ⊢;have b1:=PD e B (aO p1)
  have c6:=PD e B (aO (p3 k _ ms N R))
  refine dG b1 (v:=.ref (ps[k]'(by ((try clear W a5 b3 b9 c2 c7 c9 d1 h1 hi y);omega)))) (aY (by rw[Ag,N];rfl)) ?_
  fail "g";rw[b9];exact⟨i+bR b k,c++[k],_,by ((try clear W a5 b3 c2 c7 c9 h1 hi hk p2 y);omega),c2,rfl,e,l7,e7,.snoc W hb hp,_,c3⟩
 .fail "g";obtain rfl:i=T.length:=by rw[Bo]at hg;((try clear a5 c7 h1 y);omega)
  exact q d C c H5 M ((Z_.p r).trans J) l5 e5 ok (by have:=hp.path .nil;rw[Br]at this;exact this)
def lH(c:Addr):Sp:=λd H Q _=>∃a v,d=[.ref a,v]/\H a=some (fA a c none)/\∀b,H b=none->Q .non (upd (upd H a (fA a c (some b))) b (YO b [("at",v)]))
def wB:Z9 ["self", "at"] ["self", "at"] (aJ jG):=by fail "sc"
def wY(F:ZT K "__init__" "NoWord.__init__" jG f fd):Z8 P w K mg base ZS 1 f fd ["self", "at"] (lH Zv):=by
 refine F.ok wB (λd H Q E h=>?_) (λe A a s H d Q E i h=>?_)
 .obtain⟨b,v,rfl,_⟩:=h;rfl
 obtain⟨b,v,rfl,c,q⟩:=h;refine⟨_,(@aE _ _ _ _ _ (bU (xJ rfl G.c_TowerError G.t1_TowerError G.t2_TowerError G.t3_TowerError (aA (mv 0) (aA (mv 1) aB)))) (@aI _ _ _ (uC (mv 0) (mv 1) rfl))),?_⟩;refine⟨b,[v],Zv,Zz,none,rfl,z0,c,(λ_ z=>nomatch z),G.Yw,?_⟩
 exact⟨b,Zv,Zz,rfl,G.Yw,G.xn_NoWord_at,.inl ⟨c,q⟩⟩
def uO:Sp:=λa H Q _=>∃c,a=[.str (one c)]/\aX c/\Q (.int ((c-97:Nat):Int)) H
def wD:Sp:=λb H Q _=>∃z,b=[.str z]/\z.length<=1000/\∀a,Z_ H a->Q (.bl (pD z)) a
def iX:Sp:=λc H Q _=>∃b,(c=[.str (aV b)]\/∃a,c=[.ref a]/\Z4 H a=some ((b.map one).map V.str))/\b.length<=1000/\(∀d∈b,aX d)/\∀e,Z_ H e->Q (.bl (gS b)) e
def nV:Sp:=λc H Q _=>∃a,c=[.str (aV a)]/\a.length<=7/\(∀d∈a,aX d)/\∀b,Z_ H b->Q (.bl (Wj a)) b
def GX:Z9 ["letter"] ["letter"] (aJ rN):=by fail "sc"
def A5(F:ZT K "rank_of" "rank_of" rN f fd):Z8 P w K mg base ZS 1 f fd ["letter"] uO:=by
 refine F.ok GX (λb H Q E h=>?_) (λe A a s H b Q E i h=>?_)
 .obtain⟨c,rfl,_⟩:=h;rfl
 obtain⟨c,rfl,d,q⟩:=h;refine⟨_,(@aI _ _ _ (aU (cI Dx PySem.F.slot_str_index PySem.F.type_str_index Kd (eO rfl G.s_LETTERS) (aA (mv 0) aB)))),?_⟩;fail "g";exact GZ (Nz d) q
def JB:Z9 ["text"] ["text"] (aJ sC):=by fail "sc"
def GD(F:ZT K "is_word" "is_word" sC f fd):Z8 P w K mg base ZS 1 f fd ["text"] wD:=by
 refine F.ok JB (λk H Q E h=>?_) (λt A a s H k Q E v h=>?_)
 .obtain⟨z,rfl,_⟩:=h;rfl
 obtain⟨z,rfl,x,q⟩:=h;refine⟨_,(@aE _ _ _ _ _ (cD (PW.pt (sU (bB yI (aW cN rfl G.b_len bP (aA (mv 0) aB)) aK (bA _)) (mG (bB V7 (aW cN rfl G.b_len bP (aA (mv 0) aB)) (pL rfl G.s_MOST_PLACES) (bA _))))) (@aI _ _ _ (aU oJ)) bE) (@aI _ _ _ (aU (aW (Uu rfl) rfl G.b_all TV (aA (cL rfl (lV (mv 0)) (iL (N:=["sign"]) (by decide +kernel) (by decide +kernel)) (by decide +kernel) rfl (by decide +kernel) (λ_ _ _ _=>(aZ (i:=0) (show List.Nodup (["sign"]:List Str) by decide +kernel) rfl (Or.inl rfl))) (λ_ _ _ _=>cY) (λ_ _ _ _=>(eQ Vs (mv 0) (eO rfl G.s_LETTERS) (by rfl)))) aB))))),?_⟩
 fail "g";refine dW (λj=>?_) (λj=>?_)
 .fail "g";have e:pD z=false:=if_pos (.inl (by have:=Az j;omega))
  have r:=q H (Z_.refl H)
  rwa[e]at r
 .have d:=Bp (Bq.mpr j)
  fail "g";refine dW (λb=>?_) (λb=>?_)
  .fail "g";have e:pD z=false:=if_pos (.inr (by have:=Az b;omega))
   have r:=q H (Z_.refl H)
   rwa[e]at r
  .have m:=Bp (Bq.mpr b)
   fail "g";refine Se (λc=>some (.bl (decide (c∈Z5.cps.toList)))) (bF (by (exact Nat.le_trans (by assumption) (by decide)))) (λi c u A B d o=>?_) (λD n=>?_)
   .fail "g";refine⟨Wk.set rfl (Wk.refl _),?_⟩;fail "g";have e:subIn ⟨#[c]⟩ Z5=decide (c∈Z5.cps.toList):=nL _ _
    show A (.bl (subIn ⟨#[c]⟩ Z5)) u
    rwa[e]
   .fail "g";have e:z.cps.toList.filterMap (λc=>some (V.bl (decide (c∈Z5.cps.toList))))=(z.cps.toList.map λc=>decide (c∈Z5.cps.toList)).map V.bl:=by
     rw[Ce];exact kH _ _
    rw[e];have l:Z_ H (upd H D (.lst ((z.cps.toList.map λc=>decide (c∈Z5.cps.toList)).map V.bl))):=aG n _
    refine UJ (bs:=z.cps.toList.map λc=>decide (c∈Z5.cps.toList)) cE ?_;have p:pD z=(z.cps.toList.map λc=>decide (c∈Z5.cps.toList)).all id:=by
     unfold pD Td;rw[if_neg (by omega),Ij]
     rfl
    have r:=q _ l
    rwa[p]at r
noncomputable def Xg(cs:List Nat)(i:Nat):Int:=((1+i:Nat):Int)*((cs.getD i 0-97:Nat):Int)
def QS(g:cs.length<=1000)(f:∀d∈cs,aX d):∀n∈(List.range cs.length).map (Xg cs),0<=n/\n<=1000000:=λn b=>by
 obtain⟨i,c,rfl⟩:=Ba.mp b;have a:=Bu.mp c
 have e:=lO f a
 unfold aX at e;unfold Xg;have h:_*((cs.getD i 0-97:Nat):Int)<=((1+i:Nat):Int)*22:=Int.mul_le_mul_of_nonneg_left (by ((try clear a g);omega)) (by (exact Int.natCast_nonneg _))
 exact⟨Int.mul_nonneg (by (exact Int.natCast_nonneg _)) (by (exact Int.natCast_nonneg _)),by omega⟩
def Sd:Z9 ["letters", "weighed"] ["letters"] (aJ kF):=by fail "sc"
def yA(F:ZT K "is_divided" "is_divided" kF f fd)(L:ZR P w K mg base 1 "rank_of" ["letter"] uO):Z8 P w K mg base ZS 2 f fd ["letters"] iX:=by
 refine F.ok Sd (λR H Q E h=>?_) (λa1 A v s H R Q E M h=>?_)
 .obtain⟨b,rfl|⟨a,rfl,_⟩,_⟩:=h<;>rfl
 obtain⟨b,W,Y,u,q⟩:=h;have t:∀D d,Z_ H d->Z4 d D=some (((List.range b.length).map (Xg b)).map V.int)->∀J,(J (.int (jW b b.length)) d)->Tq [.ref D] d J:=λD d l C J T=>
  O4 C (QS Y u) (by rw[Ab,Bf];(exact Nat.le_trans (by assumption) (by decide))) T
 have O:∀G,(∀i,i<b.length->G i=some (V.int (Xg b i)))->(List.range b.length).filterMap G=((List.range b.length).map (Xg b)).map V.int:=λG hG=>by
  rw[Ce,<-kH];exact jP λi m=>hG i (Bu.mp m)
 rcases W with rfl|⟨a,rfl,Z⟩
 .refine⟨_,(@aE _ _ _ _ _ (fL (i:=1) Sd.nd rfl (Or.inl rfl) rfl (Rz rfl G.b_enumerate (aA (mv 0) aB) (tW aK UO)) (iL (N:=["place", "letter"]) (by decide +kernel) (by decide +kernel)) (by decide +kernel) rfl (by decide +kernel) (λ_ _ _ _=>(eT (K:=K) (i:=0) (j:=1) (by rfl) (by rfl) (show List.Nodup (["place", "letter"]:List Str) by decide +kernel) (by rfl) (by exact Or.inl rfl) (by exact Or.inr rfl) (by rfl) (by exact Or.inl rfl) (Or.inr rfl))) (λ_ _ _ _=>cY) (λ_ _ _ _=>(aQ lD (mv 0) (aT L M (by decide) rfl (aA (mv 1) aB))))) (@aI _ _ _ (aU (eQ lC (aQ dD (aW (TQ rfl) rfl G.b_sum Tx (aA (mv 1) aB)) (aW cN rfl G.b_len bP (aA (eO rfl G.s_LETTERS) aB))) aK (bA _))))),?_⟩
  fail "g";refine⟨⟨by (exact Int.natCast_nonneg _),by (exact Int.natCast_nonneg _)⟩,ES u,?_⟩
  refine B4 (k:=1) (λi c=>some (V.int (((1+i:Nat):Int)*((c-97:Nat):Int)))) (by rw[cT];exact bF (by (exact Nat.le_trans (by assumption) (by decide)))) (λi c Hc p A B y S X I=>?_) (λD d C l n=>?_)
  .have m:=(Ad.mp y).1
   rw[cQ]at m;fail "g";refine⟨Wk.set rfl (Wk.set rfl (Wk.refl _)),?_⟩;fail "g";refine⟨c,rfl,u c (by rw[cQ]at y;exact Ao y),?_⟩
   fail "g";exact I _ (Z_.refl _)
  .rw[cT,cQ]at n;rw[O (λi=>some (V.int (((1+i:Nat):Int)*((b.getD i 0-97:Nat):Int)))) (λi _=>rfl)]at n;fail "g";refine t D d l n _ ?_;fail "g";have r:=q d l
   exact r
 .refine⟨_,(@aE _ _ _ _ _ (fL (i:=1) Sd.nd rfl (Or.inl rfl) rfl (Rz rfl G.b_enumerate (aA (mv 0) aB) (tW aK UO)) (iL (N:=["place", "letter"]) (by decide +kernel) (by decide +kernel)) (by decide +kernel) rfl (by decide +kernel) (λ_ _ _ _=>(eT (K:=K) (i:=0) (j:=1) (by rfl) (by rfl) (show List.Nodup (["place", "letter"]:List Str) by decide +kernel) (by rfl) (Or.inl rfl) (Or.inr rfl) (by rfl) (Or.inl rfl) (Or.inr rfl))) (λ_ _ _ _=>cY) (λ_ _ _ _=>(aQ lD (mv 0) (aT L M (by decide) rfl (aA (mv 1) aB))))) (@aI _ _ _ (aU (eQ lC (aQ dD (aW (TQ rfl) rfl G.b_sum Tx (aA (mv 1) aB)) (aW cN rfl G.b_len bP (aA (eO rfl G.s_LETTERS) aB))) aK (bA _))))),?_⟩
  fail "g";refine⟨⟨by (exact Int.natCast_nonneg _),by (exact Int.natCast_nonneg _)⟩,?_⟩
  fail "g";refine RU (k:=1) (xs:=(b.map one).map V.str) (λi x=>match x with|.str z=>some (V.int (((1+i:Nat):Int)*((mH z-97:Nat):Int)))|_=>none) Z (by rw[Ab,Ab];exact bF (by (exact Nat.le_trans (by assumption) (by decide)))) (λi x Hc p A B U S X I=>?_) (λD d C l n=>?_)
  .obtain⟨z,o,rfl⟩:=iK U;rw[Ag]at o;cases e:b[i]? with
   |none=>rw[e]at o;cases o
   |some c=>
    have m:=(Ad.mp e).1
    rw[e]at o;cases o;fail "g";refine⟨Wk.set rfl (Wk.set rfl (Wk.refl _)),?_⟩;fail "g";refine⟨c,rfl,u c (Ao e),?_⟩;fail "g";exact I _ (Z_.refl _)
  .rw[Ab,Ab,O _ (λi m=>?_)]at n
   .fail "g";refine t D d l n _ ?_;fail "g";have r:=q d l
    exact r
   .have e:((b.map one).map V.str).getD i .non=.str (one (b.getD i 0)):=by
     rw[Ac,Ag,Ag,Ac,Aa m];rfl
    rw[e];rfl
def yR:Z9 ["word"] ["word"] (aJ kK):=by fail "sc"
def yJ(F:ZT K "is_checked" "is_checked" kK f fd)(b:ZR P w K mg base 1 "is_word" ["text"] wD)(t:ZR P w K mg base 2 "is_divided" ["letters"] iX):Z8 P w K mg base ZS 3 f fd ["word"] nV:=by
 refine F.ok yR (λo H Q E h=>?_) (λx A d s H o Q E k h=>?_)
 .obtain⟨a,rfl,_⟩:=h;rfl
 obtain⟨a,rfl,v,m,q⟩:=h;refine⟨_,(@aI _ _ _ (aU (qY (aT b k (by decide) rfl (aA (mv 0) aB)) (qY (eQ V7 (aW cN rfl G.b_len bP (aA (mv 0) aB)) aK (bA _)) (UG (aT t k (by decide) rfl (aA (mv 0) aB))))))),?_⟩
 have e:=cT a
 fail "g";refine⟨_,rfl,by (exact Nat.le_trans (by assumption) (by decide)),λn c=>?_⟩
 rw[FY m v];fail "g";refine dW (λl=>?_) (λl=>?_)
 .fail "g";rw[e];refine dW (λj=>?_) (λj=>?_)
  .have i:=Az j
   fail "g";refine⟨a,.inl rfl,by (exact Nat.le_trans (by assumption) (by decide)),m,λy p=>?_⟩
   have r:=q y (c.trans p)
   unfold Wj at r;rw[An (by omega),Bool.true_and]at r
   exact r
  .have i:=Bp (Bq.mpr j)
   have r:=q n c
   unfold Wj at r;rw[Aw (by omega),Hl]at r
   exact r
 .have u:=Bp (Bq.mpr l)
  have r:=q n c
  unfold Wj at r;rw[Aw (by omega),Hl]at r
  exact r
noncomputable def nR(cs:List Nat)(k:Nat):List V:=((cs.map one).map V.str).set k .non
def GR(a:k<cs.length):(nR cs k).take k=((cs.take k).map one).map V.str:=by
 unfold nR;rw[List.take_set_of_le (Ah _),<-Gh,<-Gh]
def Jg:(nR cs k).drop (k+1)=((cs.drop (k+1)).map one).map V.str:=by
 unfold nR;rw[List.drop_set_of_lt (by omega),<-Fu,<-Fu]
def MM:(nR cs k).all bY=true:=by
 rw[Ca];intro x a;rcases Ej a with h|h
 .obtain⟨z,_,rfl⟩:=Ba.mp h;rfl
 .rw[h];rfl
def L9(a:k<cs.length):(nR cs k)[k]?=some .non:=by
 unfold nR;simp_all
def Nc:∀i y,i<k->(nR cs k)[i]?=some y->y≠.non:=λi y b a=>by
 unfold nR at a;rw[Ec (by (exact Nat.ne_of_gt (by assumption))),Ag]at a
 grind
def Mw(a:k<cs.length):((cs.take k).map one).map V.str++[V.str (one d)]++((cs.drop (k+1)).map one).map V.str=((cs.set k d).map one).map V.str:=by
 rw[List.set_eq_take_append_cons_drop,if_pos a,Ap,Ap,Au,Au,Fo];rfl
def set_set:(cs.set k d).set k e=cs.set k e:=List.set_set ..
def P5(g:cs.length<=7)(f:∀d∈cs,aX d){k d c:Nat}(a:k<cs.length)(b:aX d)(h:gS (cs.set k d)=true)(e:aX c):gS (cs.set k c)=decide (c=d):=by
 have q:=FX  (by simp_all) (O2 f b) (k:=k)  (by simp_all) e h
 simp_all
def M0(g:Nat->β){F:Nat->Bool}(a:aX d)(h:∀c,aX c->F c=decide (c=d)):Z5.cps.toList.filterMap (λc=>if F c=true then some (g c) else none)=[g d]:=by
 have q:∀k:_root_.Fin 23,Z5.cps.toList.filterMap (λc=>if c=97+k.val then some c else none)=[97+k.val]:=by decide +kernel
 unfold aX at a;have e:=q ⟨d-97,by omega⟩
 simp only[show 97+(d-97)=d by omega]at e
 have f:Z5.cps.toList.filterMap (λc=>if F c=true then some (g c) else none)=(Z5.cps.toList.filterMap (λc=>if c=d then some c else none)).map g:=by
  rw[List.map_filterMap];refine jP λc b=>?_;rw[h c (ZP.mp b)];by_cases z:c=d
  .rw[if_pos (An z),if_pos z];rfl
  .rw[if_neg (by rw[Aw z];exact Ar),if_neg z];rfl
 rw[f,e];rfl
def lL{x:Nat}:(cs++[x]).set cs.length d=cs++[d]:=by grind
def DY:(cs.map one).map V.str++[V.non]=nR (cs++[97]) cs.length:=by
 unfold nR;simp_all
def uY(e:∀d∈cs,aX d){c:Nat}(b:aX c):∀d∈cs++[c],aX d:=λd a=>by grind
def zB(g:cs.length<=6)(e:∀d∈cs,aX d){c:Nat}(a:aX d)(h:gS (cs++[d])=true)(b:aX c):gS (cs++[c])=decide (c=d):=by
 have f:(cs++[97]).length=cs.length+1:=by rw[Af];rfl
 have q:=P5 (cs:=cs++[97]) (by omega) (uY e (by decide)) (k:=cs.length)   (by ((try clear g);omega)) a (by rwa[lL]) b
 rwa[lL]at q
noncomputable def YU(cs:List Nat):Nat:=(Z5.cps.toList.find? λd=>gS (cs++[d])).getD 0
def Tb(j:cs.length<=6)(i:∀d∈cs,aX d)(b:aX d)(h:gS (cs++[d])=true):YU cs=d:=by
 unfold YU;cases e:Z5.cps.toList.find? λd=>gS _ with
 |none=>exact absurd h (by have:=List.find?_eq_none.mp e d (ZP.mpr b);exact this)
 |some c=>
  have f:=ZP.mp (List.mem_of_find?_eq_some e)
  have r:=zB j i b h f
  grind
def Qp(e:cs.length<=6)(c:∀d∈cs,aX d):aX (YU cs)/\gS (cs++[YU cs])=true:=by
 obtain⟨d,b,a⟩:=wQ (cs:=cs++[97]) (by simp_all) (k:=cs.length) (by simp_all)
 rw[lL]at a;rw[Tb e c b a];exact⟨b,a⟩
def jZ:Sp:=λe H Q _=>∃a b k,e=[.ref a]/\Z4 H a=some (nR b k)/\k<b.length/\b.length<=7/\(∀d∈b,aX d)/\
 ∀d c,Z_ H c->aX d->gS (b.set k d)=true->Q (.str (one d)) c
def j5:Z9 ["letters", "at", "ahead", "behind"] ["letters"] (aJ eP):=by fail "sc"
def qX(F:ZT K "hidden_letter" "hidden_letter" eP f fd)(o0:ZR P w K mg base 2 "is_divided" ["letters"] iX):Z8 P w K mg base ZS 3 f fd ["letters"] jZ:=by
 refine F.ok j5 (λvs H Q E h=>?_) (λa2 A L s H vs Q E O h=>?_)
 .obtain⟨a,b,k,rfl,_⟩:=h;rfl
 obtain⟨a,b,k,rfl,ha,o,h7,hL,q⟩:=h;refine⟨_,(@aE _ _ _ _ _ (aP 1 j5.nd (cI Bj Gc PySem.F.type_list_index M1 (mv 0) (aA dF aB))) (@aE _ _ _ _ _ (aP 2 j5.nd (iB Vz (mv 0) Tj (fH (mv 1)))) (@aE _ _ _ _ _ (aP 3 j5.nd (iB Vz (mv 0) (fH (aQ bO (mv 1) aK)) Tj)) (@aI _ _ _ (aU (bI bZ (cL rfl (lV (eO rfl G.s_LETTERS)) (gF (N:=["letter", "behind", "ahead"]) ["letters", "at", "ahead", "behind"] (aJ eP) [none,some 3,some 2] rfl rfl rfl (λx h=>bX h) (by decide +kernel)) (by decide +kernel) rfl (by decide +kernel) (λ_ _ _ _=>(aZ (i:=0) (show List.Nodup (["letter", "behind", "ahead"]:List Str) by decide +kernel) rfl (Or.inl rfl))) (λ_ _ _ _=>(jN (fK (aT o0 O (by decide) rfl (aA (aQ bO (aQ bO (mv 2) (bQ (aA (mv 0) aB))) (mv 1)) aB))))) (λ_ _ _ _=>(mv 0))) aK (λ_ _=>rfl))))))),?_⟩
 fail "g";refine G7 ha MM (L9 o) Nc ?_;fail "g";intro r O;rw[GC (by (exact Int.natCast_nonneg _)),show ((k:Nat):Int).toNat=k from rfl,GR o]
 have J:Z_ H (upd H r (.lst (((b.take k).map one).map V.str))):=aG O _
 have m1:jS (upd H r (.lst (((b.take k).map one).map V.str))) r=some (((b.take k).map one).map V.str):=dU
 have e1:(upd H r (.lst (((b.take k).map one).map V.str))) r=some (.lst (((b.take k).map one).map V.str)):=aD
 generalize upd H r (.lst (((b.take k).map one).map V.str))=C at J m1 e1 ⊢;have a1:=aM J ha
 fail "g";intro j M;rw[K3 (by (exact Int.natCast_nonneg _)),show ((k:Nat)+1:Int).toNat=k+1 by ((try clear h7 o);omega),Jg]
 have I:Z_ C (upd C j (.lst (((b.drop (k+1)).map one).map V.str))):=aG M _
 have e2:(upd C j (.lst (((b.drop (k+1)).map one).map V.str))) j=some (.lst (((b.drop (k+1)).map one).map V.str)):=aD
 generalize upd C j (.lst (((b.drop (k+1)).map one).map V.str))=H2 at I e2 ⊢;have W:=I _ _ e1
 fail "g";obtain⟨d,S,p⟩:=wQ h7 o;have lt:(((b.take k).map one).map V.str).length<=7:=by rw[Ab,Ab,Bt];omega
 have ld:(((b.drop (k+1)).map one).map V.str).length<=7:=by rw[Ab,Ab,Cf];((try clear lt);omega)
 refine QR (λc=>if gS (b.set k c)=true then some (V.str (one c)) else none) (bF (by decide)) (λi c u A B U X hA=>?_) (λD Hd hD sD t=>?_)
 .have T:=ZP.mp (Ao U)
  fail "g";refine⟨Wk.set rfl (Wk.refl _),?_⟩;fail "g";refine⟨z0,λm e=>?_⟩
  have c1:=X _ _ W
  have c2:=X _ _ e2
  have n1:=bH c1 e
  have n2:=bH c2 e
  fail "g";refine jJ (xs:=((b.take k).map one).map V.str) (ys:=[V.str (one c)]) (by rw[uB n1];exact bM c1) dU (bK (by show _+1<=_;(exact Nat.lt_of_le_of_lt (by assumption) (by decide)))) λl Z=>?_
  have c3:(upd (upd u m (.lst [V.str (one c)])) l (.lst (((b.take k).map one).map V.str++[V.str (one c)]))) j=some (.lst (((b.drop (k+1)).map one).map V.str)):=aG Z _ _ _ (aG e _ _ _ c2)
  fail "g";refine jJ (xs:=((b.take k).map one).map V.str++[V.str (one c)]) (ys:=((b.drop (k+1)).map one).map V.str) dU (bM c3) (bK (by rw[Af];show _+1+_<=_;((try clear h7 n1 n2 o);omega))) λn R=>?_
  rw[Mw o];have Y:Z_ u (upd (upd (upd u m (.lst [V.str (one c)])) l (.lst (((b.take k).map one).map V.str++[V.str (one c)]))) n (.lst (((b.set k c).map one).map V.str))):=(aG e _).trans ((aG Z _).trans (aG R _))
  have c5:Z4 (upd (upd (upd u m (.lst [V.str (one c)])) l (.lst (((b.take k).map one).map V.str++[V.str (one c)]))) n (.lst (((b.set k c).map one).map V.str))) n=some (((b.set k c).map one).map V.str):=cE
  generalize upd (upd (upd u m (.lst [V.str (one c)])) l (.lst (((b.take k).map one).map V.str++[V.str (one c)]))) n (.lst (((b.set k c).map one).map V.str))=H5 at Y c5 ⊢;fail "g";refine⟨b.set k c,.inr ⟨n,rfl,c5⟩,by rw[Cw];(exact Nat.le_trans (by assumption) (by decide)),O2 hL T,λH6 s6=>?_⟩
  have y:=hA H6 (Y.trans s6)
  fail "g";by_cases z:gS (b.set k c)=true
  .rw[if_pos z]at y;rw[if_pos z];fail "g";exact y
  .rw[if_neg z]at y;rwa[if_neg z]
 .rw[show (Str.ofString "abcdefghijklmnopqrstuvw").cps.toList.filterMap (λc=>if gS (b.set k c)=true then some (V.str (one c)) else none)=[V.str (one d)] from M0 (λc=>V.str (one c)) S λc U=>P5 h7 hL o S p U]at t
  fail "g";refine dG (aO t) (v:=V.str (one d)) rfl ?_;exact q d Hd (J.trans (I.trans sD)) S p
def sZ:Sp:=λc H Q _=>∃a,c=[.str (aV a)]/\1<=a.length/\a.length<=6/\(∀d∈a,aX d)/\∀d b,Z_ H b->aX d->gS (a++[d])=true->Q (.str (one d)) b
def Je:Z9 ["word"] ["word"] (aJ pB):=by fail "sc"
def DW(F:ZT K "check_of" "check_of" pB f fd)(e:ZR P w K mg base 3 "hidden_letter" ["letters"] jZ):Z8 P w K mg base ZS 4 f fd ["word"] sZ:=by
 refine F.ok Je (λo H Q E h=>?_) (λD A i s H o Q E j h=>?_)
 .obtain⟨a,rfl,_⟩:=h;rfl
 obtain⟨a,rfl,M,L,B,q⟩:=h;refine⟨_,(@aI _ _ _ (aU (aT e j (by decide) rfl (aA (aQ bO (cA (LM rfl) rfl G.b_list dX (aA (mv 0) aB)) (bQ (aA dF aB))) aB)))),?_⟩
 have v:=cT a
 fail "g";intro r j;have C:(aV a).cps.toList.map (λc=>V.str ⟨#[c]⟩)=(a.map one).map V.str:=by rw[cQ,Ce];rfl
 rw[C];fail "g";refine⟨z0,λp k=>?_⟩
 have u:r≠p:=λz=>by rw[<-z,aD]at k;cases k
 refine jJ (xs:=(a.map one).map V.str) (ys:=[V.non]) (by rw[uB u];exact dU) dU (bK (by rw[Ab,Ab];show _+1<=_;(exact Nat.lt_of_le_of_lt (by assumption) (by decide)))) λl x=>?_
 rw[DY];have m:Z_ H (upd (upd (upd H r (.lst ((a.map one).map V.str))) p (.lst [V.non])) l (.lst (nR (a++[97]) a.length))):=(aG j _).trans ((aG k _).trans (aG x _))
 have n:Z4 (upd (upd (upd H r (.lst ((a.map one).map V.str))) p (.lst [V.non])) l (.lst (nR (a++[97]) a.length))) l=some (nR (a++[97]) a.length):=cE
 generalize upd (upd (upd H r (.lst ((a.map one).map V.str))) p (.lst [V.non])) l (.lst (nR (a++[97]) a.length))=N at m n ⊢;fail "g";have J:(a++[97]).length=a.length+1:=by rw[Af];rfl
 refine⟨l,a++[97],a.length,rfl,n,by ((try clear L M u);omega),by ((try clear u);omega),uY B (by decide),λd I t y b=>?_⟩
 rw[lL]at b;exact q d I (m.trans t) y b
def jL:Sp:=λc H Q _=>∃a,c=[.str (aV a)]/\1<=a.length/\a.length<=6/\(∀d∈a,aX d)/\∀b,Z_ H b->aX (YU a)->gS (a++[YU a])=true->Q (.str (aV (a++[YU a]))) b
def yH:Z9 ["word"] ["word"] (aJ kM):=by fail "sc"
def yG(F:ZT K "with_check" "with_check" kM f fd)(G:Gs K mg w Zs Zz Zt Zx Z0 Zu Zy Zv Zw)(c:ZR P w K mg base 4 "check_of" ["word"] sZ):Z8 P w K mg base ZS 5 f fd ["word"] jL:=by
 refine F.ok yH (λm H Q E h=>?_) (λv A i s H m Q E p h=>?_)
 .obtain⟨b,rfl,_⟩:=h;rfl
 obtain⟨b,rfl,u,l,k,q⟩:=h;refine⟨_,(@aI _ _ _ (aU (aQ bO (mv 0) (aT c p (by decide) rfl (aA (mv 0) aB))))),?_⟩
 have o:=cT b
 refine⟨b,rfl,u,l,k,λd x n j a=>?_⟩;have e:=Tb l k j a
 fail "g";have r:=q x n
 rw[e]at r;rw[jY];exact r j a
def LQ(j:qB mss)(h:∀k,i<k->TB.getD k none=TC.getD k none)(c:sR mss T TB i)(f:sR mss T TC i):TB.getD i none=TC.getD i none:=by
 unfold sR Xi at c f;rw[rL j h]at c;grind
def Q_(h:qB mss)(b:YS mss T TB)(a:YS mss T TC):TB=TC:=by
 have c:∀n i,T.length<=i+n->TB.getD i none=TC.getD i none:=λn=>by
  induction n with
  |zero=>
   intro i c;by_cases e:i=T.length
   .rw[e,b.last,a.last]
   .rw[Ac,Ac,Ek (by rw[b.len];omega),Ek (by rw[a.len];omega)]
  |succ n d=>
   intro i c;by_cases e:T.length<=i+n
   .exact d i e
   .exact LQ h (λk l=>d k (by omega)) (b.row i (by omega)) (a.row i (by omega))
 refine Ib (by rw[b.len,a.len]) λj g f=>?_
 have:=c T.length j (by ((try clear f g);omega))
 simp_all
noncomputable def dC(a:List (List (List Nat)))(js:List Nat):List (List Nat):=(js.map λj=>a.getD j []).flatten
def A9(c:List (Q6))(a b:List Nat):dC c (a++b)=dC c a++dC c b:=by
 unfold dC;grind
def fQ(a:List (Q6))(j:Nat)(b:List Nat):dC a (j::b)=a.getD j []++dC a b:=by
 unfold dC;rw[Au,By]
def Pz(sep:Str):∀a b,a≠[]->b≠[]->Str.join sep (a++b)=Str.join sep a++sep++Str.join sep b
 |[x],y::r,_,_=>rfl
 |x::z::a,b,_,h=>by
  have c:=Pz sep (z::a) b (by simp) h
  show x++sep++Str.join sep (_++b)=(x++sep++Str.join sep _)++sep++Str.join sep b
  rw[c];simp only[Str.append_assoc]
def zA{a b:Q6}(f:a≠[])(d:b≠[]):cF (a++b)=cF a++Str.ofString " " ++ cF b:=by
 have e:∀c,cF c=Str.join " " _:=λc=>Eg _ _
 rw[e,e,e,Ap];exact Pz _ _ _ (by simp_all) (by simp_all)
def NQ(g:qB mss):∀ {d:List Nat} {i:Nat},i<=T.length->(∀j∈d,j<mss.length)->T.drop i=dC mss d->WH mss T i d.length
 |[],i,hi,_,h=>by
  have:i=T.length:=by
   have:=Dp List.length h
   rw[Cf]at this;have e:(dC mss []).length=0:=rfl
   omega
  subst this;exact .nil
 |j::r,i,hi,hj,h=>by
  rw[fQ]at h;have c:=hj j Ak
  have m:=(lN g c).1
  have b:=Dp List.length h
  rw[Cf,Af]at b;have a:(mss.getD j []).length=bR mss j:=rfl
  have f:j∈dY mss T i:=by
   refine Dg.mpr ⟨Bu.mpr c,An ?_⟩;show (T.drop i).take (bR mss j)=_
   rw[h,<-a,List.take_left'];rfl
  refine .cons (by ((try clear c);omega)) f (NQ g (by ((try clear c m);omega)) (λk l=>hj k (Al _ l)) ?_)
  rw[<-List.drop_drop,h,<-a,List.drop_left'];rfl
def AZ{n:Nat}(h:WH mss T i n):∃a,(∀j∈a,j<mss.length)/\T.drop i=dC mss a/\a.length=n:=by
 induction h with
 |nil=>exact⟨[],(λj c=>nomatch c),List.drop_length,rfl⟩
 | @cons i k n o e _ d=>
  obtain⟨a,m,l,g⟩:=d;obtain⟨b,f⟩:=dJ e;refine⟨k::a,λj c=>?_,?_,by rw[Av,g]⟩
  .rcases Bb.mp c with rfl|z
   .exact b
   simp_all
  .rw[fQ,<-l,<-List.drop_drop,<-show (T.drop i).take _=mss.getD k [] from f];exact(El _ _).symm
def DM(b:k∈dY mss T i):T.drop i=mss.getD k []++T.drop (i+bR mss k):=by
 obtain⟨a,c⟩:=dJ b;rw[<-List.drop_drop,<-show (T.drop i).take _=mss.getD k [] from c];exact(El _ _).symm
def zH(h:Path mss T TB i ks):T.drop i=dC mss ks/\∀k∈ks,k<mss.length:=by
 induction h with
 |nil=>exact⟨List.drop_length,λk c=>nomatch c⟩
 | @cons i k ks hi b _ a=>
  refine⟨by rw[fQ,<-a.1];exact DM b.st,λj d=>?_⟩
  rcases Bb.mp d with rfl|z
  .exact(dJ b.st).1
  simp_all
def F5(d:mss.Nodup)(h:WZ mss T TB i k)(g:WZ mss T TB i j):k=j:=by
 obtain⟨n,s,o⟩:=h.one;obtain⟨m,l,f⟩:=g.one;rw[s]at l;cases l;have u:=h.most j g.st (by rw[o,f])
 have t:=g.most k h.st (by rw[o,f])
 obtain⟨a,q⟩:=dJ h.st;obtain⟨b,c⟩:=dJ g.st;have r:bR mss k=bR mss j:=by ((try clear a b);omega)
 have e:mss.getD k []=mss.getD j []:=by
  rw[<-show (T.drop i).take (bR mss k)=mss.getD k [] from q,<-show (T.drop i).take (bR mss j)=mss.getD j [] from c,r]
 rw[Ac,Aa a,Ac,Aa b]at e;have p:=e
 rcases Nat.lt_trichotomy k j with z|z|z
 .exact absurd p (Fj.mp d k j a b z)
 .exact z
 .exact absurd p.symm (Fj.mp d j k b a z)
def yX(b:mss.Nodup)(h:Path mss T TB i ks)(g:Path mss T TB i js):ks=js:=by
 induction h generalizing js with
 |nil=>
  cases g with
  |nil=>rfl
  |cons hi _ _=>exact absurd hi (Dc _)
 | @cons i k ks hi d _ c=>
  cases g with
  |nil=>exact absurd hi (Dc _)
  |cons _ a e=>
   obtain rfl:=F5 b d a;rw[c e]
def Kj(g:(bk.map (·.2)).Nodup)(h:cS bk mss):mss.Nodup:=by
 refine Fj.mpr λi j f d c e=>?_;have b:i<bk.length:=by rwa[<-h.1]
 have a:j<bk.length:=by rwa[<-h.1]
 have l:=(h.2 i _ _ (Aa b) (Aa f)).1
 have k:=(h.2 j _ _ (Aa a) (Aa d)).1
 have:=Fj.mp g i j (by simp_all) (by simp_all) c
 simp_all
def tE(c:List (Str×Str))(cws:List (List Nat)):Prop:=cws.length=c.length/\∀(j:Nat) b a,c[j]?=some b->cws[j]?=some a->b.1=aV a/\1<=a.length/\a.length<=6/\∀d∈a,aX d
def eI(e:Addr):Sp:=λd H Q E=>∃b a n,d=[.ref b,.int n]/\Z4 H b=some a/\a.length<=1000/\((0<=n/\n<(a.length:Int))->Q .non H)/\(¬(0<=n/\n<(a.length:Int))->∀c,Z_ H c->E (.ref e) none c)
def nU:Z9 ["halyards", "number"] ["halyards", "number"] (aJ eV):=by fail "sc"
def nS(F:ZT K "look_for_halyard" "look_for_halyard" eV f fd):Z8 P w K mg base (Y_ P w) 1 f fd ["halyards", "number"] (eI Zy):=by
 refine F.XJ nU (λj H Q E h=>?_) (λo A a s H j Q E p h=>?_)
 .obtain⟨b,e,n,rfl,_⟩:=h;rfl
 obtain⟨b,e,n,rfl,r,q,k,i⟩:=h;refine⟨_,(@aI _ _ _ (cD (PW.pt (sU (bB yI (mv 1) aK (bA _)) (mG (bB NI (mv 1) (aW cN rfl G.b_len bP (aA (mv 0) aB)) (bA _))))) (@aI _ _ _ (jT fZ rfl rfl rfl G.c_NoHalyard G.x_NoHalyard Ct (@cG _ _ _ _ _ _ aB))) bE)),?_⟩;fail "g";refine dW (λd=>?_) (λd=>?_)
 .have l:=Az d
  fail "g";exact⟨z0,i (λz=>by ((try clear q);omega)) _ (Z_.refl _)⟩
 .have l:¬n<0:=λz=>d (An z)
  fail "g";refine dW (λc=>?_) (λc=>?_)
  .have m:=Az c
   fail "g";exact⟨z0,i (λz=>by ((try clear l q);omega)) _ (Z_.refl _)⟩
  .have m:¬(e.length:Int)<=n:=λz=>c (An z)
   fail "g";grind
def fD(m:Nat->Int)(c:Nat):0<=aR (bD m) c:=by
 unfold aR bD;split
 .rename_i h
  exact Int.le_of_lt (by simp_all)
 .exact Ih _
structure ZC (H:Hp) (B R:Addr) (hs:List (Option (List Nat))) (f:Nat->Option Int):Prop where
 WR:∃us,H B=some (.lst us)/\Z6 H us hs
 ok:fE hs
 loc:∃kvs,H R=some (.dK kvs)/\Lk kvs f
 pos:∀c,0<=aR f c
def OJ(a:gX c):fV (one c)=true:=by rw[oV];exact An (show aX c\/eE c from a)
noncomputable def VU(f:Nat->Option Int)(hs:List (Option (List Nat)))(c:Nat):Int:=aR f c+cnt (bV hs (List.range hs.length)) c
noncomputable def Yz(cws:List (List Nat))(k:Nat):List Nat:=cws.getD k []++[YU (cws.getD k [])]
inductive Dd where
 |haul (n:Nat) (cw:List Nat)
 |lower (n:Nat)
 |lose (c:Nat)
 |find (c:Nat)
 |say (T:Q6)
noncomputable def Dd.vs:Dd->List V
 |.haul n a=>[.str "haul",.int ((n:Nat):Int),.str (aV a)]
 |.lower n=>[.str "lower",.int ((n:Nat):Int)]
 |.lose c=>[.str "lose",.str (one c)]
 |.find c=>[.str "find",.str (one c)]
 |.say T=>[.str "say",.str (cF T)]
def Dd.ok(a:List (List (List Nat)))(m:Nat):Dd->Prop
 |.haul n b=>n<m/\b.length<=7/\(∀d∈b,aX d)/\Wj b=true
 |.lower n=>n<m
 |.lose c=>gX c
 |.find c=>gX c
 |.say T=>1<=T.length/\T.length<=40/\(∀t∈T,fF t)/\∃e,WH a T 0 e
def Dd.done(cws:List (List Nat))(g:List (List (List Nat)))(hs:List (Option (List Nat)))(f:Nat->Option Int)(b:List (Option (List Nat)))(h:Nat->Option Int):Dd->Prop
 |.haul n i=>∃a j d,vZ f hs n i a j/\Zf (cK hs i a) (sM f hs (n::a)) d/\b=qH hs ((n::a).zip (jX (cK hs i a) d))/\h=bD λc=>aR (oA f hs (n::a)) c-cnt (jX (cK hs i a) d).flatten c
 |.lower n=>b=hs.set n none/\h=bD λc=>aR f c+cnt (bV hs [n]) c
 |.lose c=>0<aR f c/\b=hs/\h=bD λe=>aR f e-cnt [c] e
 |.find c=>VU f hs c<99/\b=hs/\h=bD λe=>aR f e+cnt [c] e
 |.say T=>∃k a d,YS g T k/\Path g T k 0 a/\a.length<=hs.length/\Zf (a.map (Yz cws)) (sM f hs (List.range hs.length)) d/\b=(jX (a.map (Yz cws)) d).map some++List.replicate (hs.length-a.length) none/\h=bD λc=>aR (oA f hs (List.range hs.length)) c-cnt d c
def Dd.no(cws:List (List Nat))(a:List (List (List Nat)))(hs:List (Option (List Nat)))(f:Nat->Option Int):Dd->Prop
 |.haul n e=>∀l,l.Sublist (bJ hs n)->¬V1 f hs n e l
 |.lower _=>False
 |.lose c=>aR f c<=0
 |.find c=>99<=VU f hs c
 |.say T=>∃d b,YS a T d/\Path a T d 0 b/\(hs.length<b.length\/∃W F,SS (b.map (Yz cws)) (sM f hs (List.range hs.length)) W F)
def CN{f:Nat->Option Int}{n:Nat}{a:List Nat}{b:Nat}(h:vZ f hs n cw ks j)(h':vZ f hs n cw a b):ks=a:=by
 rcases Nat.lt_trichotomy j b with l|rfl|l
 .exact absurd h.2.1 (h'.2.2 j ks l h.1)
 .have e:=h.1
  rw[h'.1]at e;simp_all
 .exact absurd h'.2.1 (h.2.2 b a l h'.1)
def LR(h:Zf cws n fs)(l:SS cws n W F):False:=by
 obtain⟨m,s,_⟩:=h;obtain⟨i,k,w,g,d,o,_,_⟩:=l;obtain⟨j,e,c,f,b,a⟩:=s.down (Ad.mp d).1;have q:=g.one f
 grind
def Dd.one(t:qB mss)(r:mss.Nodup){o m:Q4}{f q p:Nat->Option Int}{d:Dd}(a:d.done cws mss hs f o q)(b:d.done cws mss hs f m p):o=m/\q=p:=by
 cases d with
 |haul n y=>
  obtain⟨s,j,u,l,k,rfl,rfl⟩:=a;obtain⟨e,x,g,i,h,rfl,rfl⟩:=b;obtain rfl:=CN l i;obtain rfl:=k.one h;exact⟨rfl,rfl⟩
 |lower n=>
  obtain⟨rfl,rfl⟩:=a;obtain⟨rfl,rfl⟩:=b;exact⟨rfl,rfl⟩
 |lose c=>
  obtain⟨_,rfl,rfl⟩:=a;obtain⟨_,rfl,rfl⟩:=b;exact⟨rfl,rfl⟩
 |find c=>
  obtain⟨_,rfl,rfl⟩:=a;obtain⟨_,rfl,rfl⟩:=b;simp_all
 |say T=>
  obtain⟨A,s,u,l,k,_,w,rfl,rfl⟩:=a;obtain⟨z,e,g,i,h,_,v,rfl,rfl⟩:=b;obtain rfl:=Q_ t l i;obtain rfl:=yX r k h;obtain rfl:=w.one v;exact⟨rfl,rfl⟩
def Dd.not(l:qB mss)(i:mss.Nodup){g:Q4}{f p:Nat->Option Int}{d:Dd}(a:d.done cws mss hs f g p)(b:d.no cws mss hs f):False:=by
 cases d with
 |haul n v=>
  obtain⟨h,j,o,e,_⟩:=a;exact b h (Zj.mp (Ao e.1)) e.2.1
 |lower n=>exact b
 |lose c=>have g:=a.1;have m:aR f c<=0:=b;omega
 |find c=>have g:=a.1;have m:99<=VU f hs c:=b;omega
 |say T=>
  obtain⟨y,h,o,e,u,w,t,_⟩:=a;obtain⟨x,k,s,r,q⟩:=b;obtain rfl:=Q_ l e s;obtain rfl:=yX i u r;rcases q with z|⟨W,F,z⟩
  .omega
  .exact LR t z
def fT(c:Addr):Sp:=λb H Q E=>∃z,b=[.str z]/\z.length<=1000/\(fV z=true->Q .non H)/\(fV z=false->∀a,Z_ H a->E (.ref c) none a)
def qV:Z9 ["flag"] ["flag"] (aJ gK):=by fail "sc"
def sB(F:ZT K "look_for_flag" "look_for_flag" gK f fd)(c:ZR P w K mg base 1 "is_flag" ["text"] pI):Z8 P w K mg base (Y_ P w) 2 f fd ["flag"] (fT Zw):=by
 refine F.XJ qV (λb H Q E h=>?_) (λl A a s H b Q E k h=>?_)
 .obtain⟨z,rfl,_⟩:=h;rfl
 obtain⟨z,rfl,j,i,d⟩:=h;refine⟨_,(@aI _ _ _ (cD (pJ (fK (aT c k (by decide) rfl (aA (mv 0) aB)))) (@aI _ _ _ (jT fZ rfl rfl rfl G.c_NoFlag G.x_NoFlag Ct (@cG _ _ _ _ _ _ aB))) bE)),?_⟩
 refine⟨z,rfl,j,?_⟩;cases e:fV z with
 |true=>
  exact i e
 |false=>
  exact⟨z0,d e _ (Z_.refl _)⟩
def lA:Sp:=λg H Q _=>∃B R a f n,g=[.ref B,.ref R,.int ((n:Nat):Int)]/\ZC H B R a f/\a.length<=6/\n<a.length/\
 ∀t d e b,Z_ H b->H t=none->b t=some (.tup [.ref d,.ref e])->H d=none->ZC b d e (a.set n none) (bD λc=>aR f c+cnt (bV a [n]) c)->Q (.ref t) b
def Rw:Z9 ["halyards", "locker", "number", "behind"] ["halyards", "locker", "number"] (aJ iH):=by fail "sc"
def tP(F:ZT K "behind_lower" "behind_lower" iH f fd)(o3:iO P w K mg base 1 "look_for_halyard" ["halyards", "number"] (eI Zy))(y4:ZR P w K mg base 2 "put_in" ["locker", "flags"] hJ)(y6:ZR P w K mg base 1 "flags_on" ["halyards", "numbers"] gE):Z8 P w K mg base (Y_ P w) 3 f fd ["halyards", "locker", "number"] lA:=by
 refine F.XJ Rw (λvs H Q E h=>?_) (λcdv A outer s H vs Q E hr h=>?_)
 .obtain⟨B,R,hs,f,n,rfl,_⟩:=h;rfl
 obtain⟨B,R,hs,f,n,rfl,tw,h6,hn,q⟩:=h;refine⟨_,(@aE _ _ _ _ _ (bU (cP o3 cB hr (by decide) rfl (aA (mv 0) (aA (mv 2) aB)))) (@aE _ _ _ _ _ (aP 3 Rw.nd (cA jB rfl G.b_list dX (aA (mv 0) aB))) (@aE _ _ _ _ _ (UX dF (SA (mv 3) (mv 2) uX)) (@aI _ _ _ (aU (cU (aA (mv 3) (aA (aT y4 hr (by decide) rfl (aA (mv 1) (aA (aT y6 hr (by decide) rfl (aA (mv 0) (aA (bQ (aA (mv 2) aB)) aB))) aB))) aB)))))))),?_⟩
 obtain⟨⟨us,hB,hat⟩,ok,⟨kvs,hR,lk⟩,hpos⟩:=tw;have rB:=aO hB
 have hul:=hat.len
 fail "g";refine⟨B,us,_,rfl,rB,by ((try clear hn);omega),λ_=>?_,λz=>absurd ⟨by (exact Int.natCast_nonneg _),by ((try clear h6 z);omega)⟩ z⟩
 fail "g";intro B' hB';have k1:=aG hB' (.lst us)
 have e1:(upd H B' (.lst us)) B'=some (.lst us):=aD
 generalize upd H B' (.lst us)=H1 at k1 e1 ⊢;have m1:=bM e1
 fail "g";have hnu:n<us.length:=by ((try clear h6);omega)
 refine Tg (o:=us[n]) m1 (R8 (by (exact Int.natCast_nonneg _)) (by (exact Int.ofNat_le.mpr (by assumption)))) ?_
 rw[show ((n:Nat):Int).toNat=n from rfl];have s2:Z_ H (upd H1 B' (.lst (us.set n .non))):=bL hB' k1
 have e2:(upd H1 B' (.lst (us.set n .non))) B'=some (.lst (us.set n .non)):=aD
 generalize upd H1 B' (.lst (us.set n .non))=H2 at s2 e2 ⊢;fail "g";refine⟨z0,λp3 hp3=>?_⟩
 have k3:=aG hp3 (.lst [V.int ((n:Nat):Int)])
 have e3:(upd H2 p3 (.lst [V.int ((n:Nat):Int)])) p3=some (.lst (([n]).map λk=>V.int ((k:Nat):Int))):=aD
 generalize upd H2 p3 (.lst [V.int ((n:Nat):Int)])=H3 at k3 e3 ⊢;have s3:=s2.trans k3
 fail "g";refine⟨B,p3,us,hs,[n],rfl,aM s3 rB,hat.keep s3,ok,aO e3,by show 1<=7;decide,(λk hk=>by rwa[Aj.mp hk]),λr4 H4 hr4 s4 e4=>?_⟩
 have s04:=s3.trans s4
 have fl:(bV hs [n]).length<=7*1:=fR ok [n]
 fail "g";refine⟨R,r4,kvs,f,bV hs [n],rfl,s04 _ _ hR,lk,hpos,aO e4,by (exact Nat.le_trans (by assumption) (by decide)),λR' kws H5 hR' s5 e5 lk5=>?_⟩
 have s05:=s04.trans s5
 have e25:=(k3.trans (s4.trans s5)) _ _ e2
 refine⟨r0,λt ht=>?_⟩
 have k6:=aG ht (.tup [.ref B',.ref R'])
 have s06:=s05.trans k6
 refine q t B' R' _ s06 (none_of s05 ht) aD hB' ⟨⟨us.set n .non,k6 _ _ e25,(hat.keep s06).set (k:=n) (v:=.non) (h:=none) rfl⟩,λcs hc=>?_,⟨kws,k6 _ _ e5,lk5⟩,fD _⟩;rcases Ej hc with z|z
 .exact ok cs z
 .cases z
def gL:Sp:=λe H Q _=>∃d c a,e=[.ref d]/\Z4 H d=some c/\Z6 H c a/\fE a/\a.length<=7/\∀r b,H r=none->Z_ H b->b r=some (.lst (((bV a (List.range a.length)).map one).map V.str))->Q (.ref r) b
def tL:Z9 ["halyards"] ["halyards"] (aJ iF):=by fail "sc"
def tQ(F:ZT K "all_flags_on" "all_flags_on" iF f fd)(y:ZR P w K mg base 1 "flags_on" ["halyards", "numbers"] gE):Z8 P w K mg base ZS 2 f fd ["halyards"] gL:=by
 refine F.ok tL (λz H Q E h=>?_) (λJ A j s H z Q E n h=>?_)
 .obtain⟨t,o,a,rfl,_⟩:=h;rfl
 obtain⟨t,o,a,rfl,C,c,D,M,q⟩:=h;refine⟨_,(@aI _ _ _ (aU (aT y n (by decide) rfl (aA (mv 0) (aA (cA (H_ rfl) rfl G.b_list dX (aA (cA Np rfl G.b_range FA (aA (aW cN rfl G.b_len bP (aA (mv 0) aB)) aB)) aB)) aB))))),?_⟩
 fail "g";rw[c.len];refine Ng λi m=>?_;have p:=aG m (HO.rng 0 ((a.length:Nat):Int))
 have v:(upd H i (HO.rng 0 ((a.length:Nat):Int))) i=some (HO.rng 0 ((a.length:Nat):Int)):=aD
 generalize upd H i (HO.rng 0 ((a.length:Nat):Int))=x at p v ⊢;fail "g";refine IM v (by (exact Nat.le_trans (by assumption) (by decide))) λd l=>?_
 have b:=p.trans (aG l (.lst ((List.range a.length).map λk=>V.int ((k:Nat):Int))))
 have u:Z4 (upd x d (.lst ((List.range a.length).map λk=>V.int ((k:Nat):Int)))) d=some ((List.range a.length).map λk=>V.int ((k:Nat):Int)):=cE
 generalize upd x d (.lst ((List.range a.length).map λk=>V.int ((k:Nat):Int)))=N at b u ⊢;exact⟨t,d,o,a,List.range a.length,rfl,aM b C,c.keep b,D,u,by rw[Bf];(assumption),(λk I=>Bu.mp I),λr L n B e=>q r L (none_of b n) (b.trans B) e⟩
def mO(i:Addr):Sp:=λg H Q E=>∃B R b f c,g=[.ref B,.ref R,.str (one c)]/\ZC H B R b f/\gX c/\
 (0<aR f c->∀t d a,Z_ H a->H t=none->a t=some (.tup [.ref B,.ref d])->ZC a B d b (bD λe=>aR f e-cnt [c] e)->Q (.ref t) a)/\(aR f c<=0->∀h a,Z_ H a->E (.ref i) (some h) a)
def vD:Z9 ["halyards", "locker", "flag"] ["halyards", "locker", "flag"] (aJ jC):=by fail "sc"
def uR(F:ZT K "behind_lose" "behind_lose" jC f fd)(G:Gs K mg w Zs Zz Zt Zx Z0 Zu Zy Zv Zw)(Y:iO P w K mg base 2 "look_for_flag" ["flag"] (fT Zw))(O:iO P w K mg base 3 "taken" ["locker", "flags"] (qF Zt)):Z8 P w K mg base (Y_ P w) 4 f fd ["halyards", "locker", "flag"] (mO Zt):=by
 refine F.XJ vD (λS H Q E h=>?_) (λa2 A p s H S Q E D h=>?_)
 .obtain⟨B,R,hs,f,c,rfl,_⟩:=h;rfl
 obtain⟨B,R,hs,f,c,rfl,U,J,q,W⟩:=h;refine⟨_,(@aE _ _ _ _ _ (bU (cP Y cB D (by decide) rfl (aA (mv 2) aB))) (@aI _ _ _ (aU (cU (aA (mv 0) (aA (cP O cB D (by decide) rfl (aA (mv 1) (aA (bQ (aA (mv 2) aB)) aB))) aB)))))),?_⟩
 obtain⟨⟨T,hB,z⟩,X,⟨v,hR,Z⟩,e⟩:=id U;have m:=OJ J
 fail "g";refine⟨_,rfl,by show 1<=1000;decide,λ_=>?_,λI=>by rw[m]at I;cases I⟩
 fail "g";refine⟨z0,λk x=>?_⟩
 have l:=aG x (.lst [V.str (one c)])
 have L:Z4 (upd H k (.lst [V.str (one c)])) k=some (([c].map one).map V.str):=cE
 generalize upd H k (.lst [V.str (one c)])=H1 at l L ⊢;fail "g";refine⟨R,k,v,f,[c],rfl,l _ _ hR,Z,e,L,by show 1<=1000;decide,(λd n=>by rw[Aj.mp n];exact J),λj M u N a1 o e2 r=>?_,λi d n j y dx N o ex=>?_⟩
 .have b:=l.trans o
  have hp:=j 0 c (Nat.succ_pos _) rfl
  fail "g";refine⟨r0,λt m=>?_⟩
  have C:=aG m (.tup [.ref B,.ref M])
  have a:=b.trans C
  exact q hp t M _ a (none_of b m) aD ⟨⟨T,a _ _ hB,z.keep a⟩,X,⟨u,C _ _ e2,r⟩,fD _⟩
 .cases i with
  |succ i=>cases n
  |zero=>
   cases n;exact W y dx N (l.trans o)
def lU(h:Addr):Sp:=λg H Q E=>∃B R b f c,g=[.ref B,.ref R,.str (one c)]/\ZC H B R b f/\b.length<=6/\gX c/\
 (VU f b c<99->∀t d a,Z_ H a->H t=none->a t=some (.tup [.ref B,.ref d])->ZC a B d b (bD λe=>aR f e+cnt [c] e)->Q (.ref t) a)/\(99<=VU f b c->∀a,Z_ H a->E (.ref h) none a)
def vL:Z9 ["halyards", "locker", "flag"] ["halyards", "locker", "flag"] (aJ jA):=by fail "sc"
def vJ(F:ZT K "behind_find" "behind_find" jA f fd)(o4:iO P w K mg base 2 "look_for_flag" ["flag"] (fT Zw))(W:ZR P w K mg base 2 "put_in" ["locker", "flags"] hJ)(X:ZR P w K mg base 2 "all_flags_on" ["halyards"] gL):Z8 P w K mg base (Y_ P w) 3 f fd ["halyards", "locker", "flag"] (lU Zw):=by
 refine F.XJ vL (λY H Q E h=>?_) (λa3 A n s H Y Q E l h=>?_)
 .obtain⟨B,R,k,f,c,rfl,_⟩:=h;rfl
 obtain⟨B,R,k,f,c,rfl,Z,h6,hc,q,qe⟩:=h;refine⟨_,(@aE _ _ _ _ _ (bU (cP o4 cB l (by decide) rfl (aA (mv 2) aB))) (@aE _ _ _ _ _ (cD (bB NI (aQ bO (hU Ci Ea (U5 (Z2.u1 l)) (mv 1) (aA (mv 2) (aA aK aB))) (cI Bj PySem.F.slot_list_count PySem.F.type_list_count Nw (aT X l (by decide) rfl (aA (mv 0) aB)) (aA (mv 2) aB))) (pL rfl G.s_MOST_OF_A_FLAG) (bA _)) (@aI _ _ _ (jT fZ rfl rfl rfl G.c_NoFlag G.x_NoFlag Ct (@cG _ _ _ _ _ _ aB))) bE) (@aI _ _ _ (aU (cU (aA (mv 0) (aA (aT W l (by decide) rfl (aA (mv 1) (aA (bQ (aA (mv 2) aB)) aB))) aB))))))),?_⟩
 obtain⟨⟨D,O,e⟩,J,⟨r,x,L⟩,d⟩:=id Z;have hD:=oR x
 have j:=OJ hc
 fail "g";refine⟨_,rfl,by show 1<=1000;decide,λ_=>?_,λN=>by rw[j]at N;cases N⟩
 fail "g";refine Vq (z:=one c) (.inl x) ?_;rw[L.val c,qG];fail "g";refine⟨B,D,k,rfl,aO O,e,J,by (exact Nat.le_trans (by assumption) (by decide)),λr1 U a1 I e1=>?_⟩
 have m:=aO e1
 fail "g";refine A_ (z:=one c) m ?_;rw[L0];fail "g";change if decide ((99:Int)<=VU f k c)=true then _ else _
 refine dW (λC=>?_) (λC=>?_)
 .have y:=Az C
  fail "g";exact⟨z0,qe y _ I⟩
 .have y:=Int.not_le.mp λz=>C (An z)
  fail "g";refine⟨z0,λi v=>?_⟩
  have u:=I.trans (aG v (.lst [V.str (one c)]))
  have S:Z4 (upd U i (.lst [V.str (one c)])) i=some (([c].map one).map V.str):=cE
  refine⟨R,i,r,f,[c],rfl,u _ _ x,L,d,S,by show 1<=1000;decide,λT p H3 a2 s3 e3 o=>?_⟩
  have b:=u.trans s3
  refine⟨r0,λt j=>?_⟩
  have M:=aG j (.tup [.ref B,.ref T])
  have a:=b.trans M
  exact q y t T _ a (none_of b j) aD ⟨⟨D,a _ _ O,e.keep a⟩,J,⟨p,M _ _ e3,o⟩,fD _⟩
def mC(o:Addr):Sp:=λk H Q E=>∃B R b f n d,k=[.ref B,.ref R,.int ((n:Nat):Int),.str (aV d)]/\ZC H B R b f/\b.length<=6/\(Dd.haul n d).ok [] b.length/\
 (∀t h j (a:Q4) i c,Z_ H c->H t=none->c t=some (.tup [.ref h,.ref j])->H h=none->a.length=b.length->(∀g e,(Dd.haul n d).done g e b f a i)->ZC c h j a i->Q (.ref t) c)/\
 ((∀l,l.Sublist (bJ b n)->¬V1 f b n d l)->∀m c,Z_ H c->E (.ref o) (some m) c)
def Rc:Z9 ["halyards", "locker", "number", "word", "told"] ["halyards", "locker", "number", "word"] (aJ jK):=by fail "sc"
def wA(F:ZT K "behind_haul" "behind_haul" jK f fd)(o3:iO P w K mg base 1 "look_for_halyard" ["halyards", "number"] (eI Zy))(J:iO P w K mg base 12 "hauled" ["locker", "halyards", "number", "word"] (zV Zs))(I:ZR P w K mg base 3 "is_checked" ["word"] nV)(D:V_ P w K mg base 1 Zv ["self", "at"] (lH Zv)):Z8 P w K mg base (Y_ P w) 13 f fd ["halyards", "locker", "number", "word"] (mC Zs):=by
 refine F.XJ Rc (λvs H Q E h=>?_) (λb1 A O s H vs Q E y h=>?_)
 .obtain⟨B,R,i,f,n,C,rfl,_⟩:=h;rfl
 obtain⟨B,R,i,f,n,C,rfl,tw,h6,⟨hn,e,d,c⟩,q,qe⟩:=h;refine⟨_,(@aE _ _ _ _ _ (bU (cP o3 cB y (by decide) rfl (aA (mv 0) (aA (mv 2) aB)))) (@aE _ _ _ _ _ (cD (pJ (fK (aT I y (by decide) rfl (aA (mv 3) aB)))) (@aI _ _ _ (nK fZ rfl rfl rfl G.c_NoWord G.Xx D y (by decide) (aA aK aB))) bE) (@aE _ _ _ _ _ (aP 4 Rc.nd (cP J cB y (by decide) rfl (aA (mv 1) (aA (mv 0) (aA (mv 2) (aA (mv 3) aB)))))) (@aI _ _ _ (aU (cU (aA (bI bZ (mv 4) aK (λ_ _=>rfl)) (aA (bI bZ (mv 4) aK (λ_ _=>rfl)) aB)))))))),?_⟩
 obtain⟨⟨us,hB,r⟩,S,⟨V,hR,lk⟩,m⟩:=tw;have rB:=aO hB
 have a8:=r.len
 have o:1<=C.length:=by
  unfold Wj at c;rw[Em,Bo]at c;((try clear a8 h6 hn);omega)
 fail "g";refine⟨B,us,_,rfl,rB,by ((try clear e hn o);omega),λ_=>?_,λz=>absurd ⟨by (exact Int.natCast_nonneg _),by ((try clear e h6 o z);omega)⟩ z⟩
 fail "g";refine⟨C,rfl,e,d,λH1 b=>?_⟩;rw[c];fail "g";refine⟨R,B,V,f,us,i,n,C,rfl,⟨b _ _ hR,lk,m,aM b rB,r.keep b,S,h6,hn,o,e,d⟩,λt L B2 R2 X gs j M U H2 u ht et hL eL a a2 a7 a6 eB p a9 eR T _ a4=>?_,λY dx l1 l2 rs W F H2 u _ _ _ _ _ _ _=>qe Y dx H2 (b.trans u)⟩;obtain⟨fs,a5,rfl⟩:=a4;have tt:=cX et
 fail "g";refine cH et (v:=.ref B2) (aY (j:=1) rfl) ?_;fail "g";refine cH et (v:=.ref R2) (aY (j:=2) rfl) ?_;refine⟨r0,λt3 l=>?_⟩
 have x:=aG l (.tup [.ref B2,.ref R2])
 have N:=b.trans (u.trans x)
 have a1:=Zj.mp (Ao a.1)
 have Z:∀k∈X,k<i.length/\(i.getD k none).isSome=true:=λk hk=>by
  have:=nE (a1.subset hk)
  exact⟨this.1,this.2.1⟩
 have a3:=Ui a2 (vR S o ⟨e,d⟩ Z)
 exact q t3 B2 R2 _ _ _ N (none_of (b.trans u) l) aD (none_of b a6) (pY i _) (λ_ _=>⟨X,j,fs,a,a5,rfl,rfl⟩) ⟨⟨M,x _ _ eB,p.keep x⟩,OF S _ λz hz=>(a3 z.2 (Hh hz).2).1,⟨U,x _ _ eR,T⟩,fD _⟩
def ZC.U4{f:Nat->Option Int}(h:ZC H B R hs f)(k:Z_ H H'):ZC H' B R hs f:=by
 obtain⟨⟨d,g,e⟩,j,⟨a,c,b⟩,i⟩:=h;exact⟨⟨d,k _ _ g,e.keep k⟩,j,⟨a,k _ _ c,b⟩,i⟩
def xB(m:Nat):(List.replicate ((m:Int)).toNat [V.non]).flatten=List.replicate m V.non:=by simp_all
def CS(a:Q6):bV (a.map some) (List.range a.length)=a.flatten:=uS (by rw[Bf]) λz c=>by
 obtain⟨i,b,e⟩:=Bv.mp c;rw[List.length_zip,Bf,Nat.min_self]at b;rw[List.getElem_zip]at e;rw[<-e,List.getElem_range,Ac,Ag,Aa b];rfl
def E5{f:Nat->Option Int}(i:ZC H B R hs f)(s:ZY Pt H H')(l:cR Pt H):ZC H' B R hs f:=by
 obtain⟨⟨e,g,b⟩,m,⟨a,d,c⟩,k⟩:=i;exact⟨⟨e,X7 s l g (λ_=>nofun),b.len,λj v h n q=>(b.val j v h n q).keep λp r o _=>X7 s l o λ_=>nofun⟩,m,⟨a,X7 s l d (λ_=>nofun),c⟩,k⟩
structure W9 (H:Hp) (b:Addr) (bk:List (Str×Str)) (cws:List (List Nat)) (mss:List (List (List Nat))):Prop where
 Vb:ZE H b bk
 cw:tE bk cws
 le:bk.length<=60
 ms:cS bk mss
def wO:∀ {a:Q6},(∀g∈a,g.length<=7)->a.flatten.length<=7*a.length
 |[],_=>Ah _
 |g::r,h=>by
  rw[By,Af,Av];have:=h g Ak
  have:=wO λx b=>h x (Al g b)
  omega
def Z6.app{e:Q4}(a:Z6 H us hs)(b:Z6 H vs e):Z6 H (us++vs) (hs++e):=by
 refine⟨by rw[Af,Af,a.len,b.len],λj v h c d=>?_⟩
 have f:=a.len
 rcases Nat.lt_or_ge j us.length with z|z
 .rw[Am z]at c;rw[Am (by omega)]at d
  exact a.val j v h c d
 .rw[Aq z]at c;rw[Aq (by omega),<-f]at d
  exact b.val _ v h c d
def HQ:Z6 H (List.replicate m V.non) (List.replicate m none):=by
 refine⟨by rw[Bz,Bz],λj v h a b=>?_⟩
 rw[Fz]at a b;split at a
 .rename_i c
  rw[if_pos c]at b;cases a;cases b;rfl
 .cases a
def ME(a:cS bk mss)(h:Path mss T TB i ks):i+ks.length<=T.length:=by
 induction h with
 |nil=>exact Ah _
 | @cons i k ks hi c _ d=>
  have b:=(zH (.cons hi c ‹_›)).2 k (Ak ..)
  have h1:1<=bR mss k:=by
   unfold bR;rw[Ac,Aa b];exact(a.2 k _ _ (Aa (by rwa[<-a.1])) (Aa b)).2.1
  grind
inductive nX(p n h:Addr)(l:List V)(H:Hp)(Q:VK)(E:XK):Prop|mk(b B R g f m e a T)(_:l=[.ref b,.ref B,.ref R,.str (cF T)])(_:ZC H B R g f)(_:g.length<=6)(_:W9 H b m e a)(_:(Dd.say T).ok a g.length)(_:cR h H)(_:(∀t i k (d:Q4) j c,ZY h H c->cR h c->H t=none->c t=some (.tup [.ref i,.ref k])->H i=none->d.length=g.length->(Dd.say T).done e a g f d j->ZC c i k d j->Q (.ref t) c))(_:((Dd.say T).no e a g f->∀D o c,(D=p\/D=n)->ZY h H c->cR h c->E (.ref D) o c)):nX p n h l H Q E
def m7:Z9 ["book", "halyards", "locker", "text", "words", "more", "hoists", "bare"] ["book", "halyards", "locker", "text"] (aJ gQ):=by fail "sc"
def yO(F:ZT K "behind_say" "behind_say" gQ f fd)(y4:ZR P w K mg base 2 "put_in" ["locker", "flags"] hJ)(z5:iO P w K mg base 3 "hang_all" ["locker", "words"] (iT Zs))(o5:ZR P w K mg base 5 "with_check" ["word"] jL)(w6:ZR P w K mg base 2 "all_flags_on" ["halyards"] gL)(z6:iO P w K mg base 3 "taken" ["locker", "flags"] (qF Zt))(f3:ZR P w K mg base 4 "cut_text" ["book", "text"] (tF Pt)):Z8 P w K mg base (Y_ P w) 6 f fd ["book", "halyards", "locker", "text"] (nX Zs Zy Pt):=by
 refine F.XJ m7 (λvs H Q E h=>?_) (λm3 A g1 s H vs Q E hr h=>?_)
 .obtain⟨b,B,R,I,f,bk,a,c1,T,rfl,_⟩:=h;rfl
 obtain⟨b,B,R,I,f,bk,a,c1,T,rfl,tw,h6,⟨e5,u,h9,a8⟩,⟨t1,f6,tT,n0,d8⟩,a6,q,qe⟩:=h;refine⟨_,(@aE _ _ _ _ _ (fL (i:=4) m7.nd rfl (Or.inl rfl) rfl (bT (aT f3 hr (by decide) rfl (aA (mv 0) (aA (mv 3) aB)))) (gF (N:=["number", "book"]) ["book", "halyards", "locker", "text", "words", "more", "hoists", "bare"] (aJ gQ) [none,some 0] rfl rfl rfl (λx h=>bX h) (by decide +kernel)) (by decide +kernel) rfl (by decide +kernel) (λ_ _ _ _=>(aZ (i:=0) (show List.Nodup (["number", "book"]:List Str) by decide +kernel) rfl (Or.inl rfl))) (λ_ _ _ _=>cY) (λ_ _ _ _=>(aT o5 hr (by decide) rfl (aA (bI bZ (bI bZ (mv 1) (mv 0) (λ_ _=>rfl)) aK (λ_ _=>rfl)) aB)))) (@aE _ _ _ _ _ (cD (bB V7 (aW cN rfl G.b_len bP (aA (mv 4) aB)) (aW cN rfl G.b_len bP (aA (mv 1) aB)) (bA _)) (@aI _ _ _ (jT fZ rfl rfl rfl G.c_NoHalyard G.x_NoHalyard Ct (@cG _ _ _ _ _ _ aB))) bE) (@aE _ _ _ _ _ (aP 5 m7.nd (aT y4 hr (by decide) rfl (aA (mv 2) (aA (aT w6 hr (by decide) rfl (aA (mv 1) aB)) aB)))) (@aE _ _ _ _ _ (aP 6 m7.nd (cP z5 cB hr (by decide) rfl (aA (mv 5) (aA (mv 4) aB)))) (@aE _ _ _ _ _ (aP 7 m7.nd (aQ Uv (bQ (aA dF aB)) (aQ qK (aW cN rfl G.b_len bP (aA (mv 1) aB)) (aW cN rfl G.b_len bP (aA (mv 6) aB))))) (@aI _ _ _ (aU (cU (aA (aQ bO (mv 6) (mv 7)) (aA (cP z6 cB hr (by decide) rfl (aA (mv 5) (aA (aT w6 hr (by decide) rfl (aA (mv 6) aB)) aB))) aB)))))))))),?_⟩
 fail "g";refine⟨b,bk,c1,T,n0,rfl,e5,h9,a8,t1,f6,tT,d8,a6,λr1 TB m H1 k3 s1 l1 e1 M n=>?_⟩;obtain⟨_,d3⟩:=zH n;have d4:∀k∈m,k<bk.length:=λk hk=>by have:=d3 k hk;rw[a8.1]at this;exact this
 have j3:=GP e5 s1 a6
 have f5:=E5 tw s1 a6
 obtain⟨qs,b1,b2,b3⟩:=id j3;have rq:=aO b1
 have k9:m.length<=40:=by
  have:=ME a8 n
  ((try clear b2 h6 h9);omega)
 have c5:((m.map λk=>V.int ((k:Nat):Int))).length=m.length:=Ab ..
 fail "g";refine gG (xs:=(m.map λk=>V.int ((k:Nat):Int))) (λj=>(m[j]?).map λk=>V.str (aV (Yz a k))) (aO e1) (by rw[c5];exact bF (by (exact Nat.le_trans (by assumption) (by decide)))) (λj x Hc A B hx sm hA hB=>?_) (λD H2 hD sD hd=>?_)
 .obtain⟨k,hk,rfl⟩:=qO hx;have l:=d4 k (Ao hk)
  have ec:a[k]?=some (a[k]'(by rw[u.1];exact l)):=Aa _
  obtain⟨hw,e2,b4,a1⟩:=u.2 k _ _ (Aa l) ec;have ep:qs[k]?=some (qs[k]'(by ((try clear b4 c5 e2 f6 h6 h9 k9 t1);omega))):=Aa _
  have tp:=sm _ _ (b3 k _ _ ep (Aa l))
  rw[hw]at tp;have ef:Yz a k=a[k]'(by rw[u.1];exact l)++[YU (a[k]'(by rw[u.1];exact l))]:=by unfold Yz;rw[Ac,ec];rfl
  fail "g";refine⟨Wk.set rfl (Wk.refl _),?_⟩;fail "g";refine dG (aM sm rq) (v:=.ref (qs[k]'(by ((try clear b4 c5 e2 f6 h6 h9 k9 t1);omega)))) (aY (by rw[Ag,ep];rfl)) ?_
  fail "g";refine cH tp (v:=.str (aV (a[k]'(by rw[u.1];exact l)))) (aY (j:=0) rfl) ?_
  fail "g";exact⟨_,rfl,e2,b4,a1,λH' s' _ _=>hA _ (by rw[hk,<-ef];rfl) H' s'⟩
 rw[c5,dM (λk=>V.str (aV (Yz a k)))]at hd;have h3:H2 D=some (.lst (((m.map (Yz a)).map aV).map V.str)):=by rw[hd,Ce,Ce];rfl
 have s2:=s1.trans (Z_.p sD)
 have l2:=l1.keep sD
 have f4:=f5.U4 sD
 have a7:∀c∈m.map (Yz a),1<=c.length/\c.length<=7/\∀d∈c,aX d:=λc O=>by
  obtain⟨k,hk,rfl⟩:=Ba.mp O;have l:=d4 k hk
  have ec:a[k]?=some (a[k]'(by rw[u.1];exact l)):=Aa _
  obtain⟨_,e2,b4,a1⟩:=u.2 k _ _ (Aa l) ec;have ef:Yz a k=a[k]'(by rw[u.1];exact l)++[YU (a[k]'(by rw[u.1];exact l))]:=by unfold Yz;rw[Ac,ec];rfl
  rw[ef,Af];refine⟨by show 1<=_+1;((try clear b2 c5 f6 h6 h9 k9 t1);omega),by show _+1<=7;(exact Nat.lt_of_le_of_lt (by assumption) (by decide)),λd hd=>?_⟩
  rcases Bi.mp hd with z|z
  .exact a1 d z
  .rw[Aj.mp z];exact(Qp b4 a1).1
 obtain⟨⟨us,hB,f1⟩,ok,⟨g2,hR,lk⟩,c7⟩:=id f4;have rB:=aO hB
 have f8:=aO h3
 have c6:=f1.len
 have g3:(((m.map (Yz a)).map aV).map V.str).length=m.length:=by rw[Ab,Ab,Ab]
 fail "g";rw[g3,c6];by_cases g9:I.length<m.length
 .rw[An (show ((I.length:Nat):Int)<((m.length:Nat):Int) by (exact Int.ofNat_le.mpr (by assumption)))]
  fail "g";exact⟨z0,qe ⟨TB,m,M,n,.inl g9⟩ _ _ _ (.inr rfl) s2 l2⟩
 rw[Aw (show ¬((I.length:Nat):Int)<((m.length:Nat):Int) by ((try clear b2 f6 h6 h9 k9 t1);omega))]
 fail "g";refine⟨B,us,I,rfl,rB,f1,ok,by (exact Nat.le_trans (by assumption) (by decide)),λr3 H3 k2 s3 e3=>?_⟩
 have j1:(bV I (List.range I.length)).length<=7*(List.range I.length).length:=fR ok _
 rw[Bf]at j1;fail "g";refine⟨R,r3,g2,f,_,rfl,s3 _ _ hR,lk,c7,aO e3,by ((try clear b2 c5 f6 g3 g9 h9 k9 t1);omega),λr4 c4 H4 k1 s4 e4 c2=>?_⟩
 have U:=s3.trans s4
 have f7:=aM U f8
 fail "g";have J:∀ {S:Hp},Z_ H4 S->ZY Pt H S/\cR Pt S:=λk=>⟨s2.trans (Z_.p (U.trans k)),l2.keep (U.trans k)⟩
 refine⟨r4,D,c4,_,m.map (Yz a),rfl,.inl e4,c2,f7,by rw[Ab];((try clear b2 f6 h9 j1 t1);omega),(λc O=>⟨(a7 c O).2.1,(a7 c O).2.2⟩),λrh X fs S j8 s5 er k4 d2 d7 h5 h4 h8=>?_,λdx l1 l2 rs W F S s5 _ _ _ _ _ g8 _ _=>qe ⟨TB,m,M,n,.inr ⟨W,F,g8⟩⟩ _ _ _ (.inl rfl) (J s5).1 (J s5).2⟩
 have a9:=Sj d7 h5
 have r:=nO (d7.trans (Ux (m.map (Yz a))))
 have Y:=a9.Wc
 have c8:∀(i:Nat) p g,X[i]?=some p->(jX (m.map (Yz a)) fs)[i]?=some g->S p=some (.lst ((g.map one).map V.str)):=λi p g hp hg=>by
  have hi:i<(m.map (Yz a)).length:=by rw[<-Y];exact(Ad.mp hg).1
  have ec:(m.map (Yz a))[i]?=some (m.map (Yz a))[i]:=Aa hi
  rw[xN ec]at hg;obtain⟨_,h2⟩:=d2.2 i p (iM (m.map (Yz a)) fs i) hp (by rw[Ag,Fv hi];rfl)
  unfold iM at h2;rw[Ac,ec]at h2;cases hg;exact h2
 have Z:=Ui a9 a7
 have a4:X.length=(jX (m.map (Yz a)) fs).length:=by rw[d2.1,Ab,Bf,Y]
 rw[Ab]at Y;generalize h1:jX (m.map (Yz a)) fs=gs at a9 r Y c8 Z a4;have a5:Z6 S (X.map V.ref) (gs.map some):=⟨by rw[Ab,Ab,a4],λj v h hv hh=>by
  rw[Ag]at hv hh;obtain⟨pj,ep,rfl⟩:=Cd.mp hv;obtain⟨g,eg,rfl⟩:=Cd.mp hh;exact⟨pj,rfl,c8 j pj g ep eg⟩⟩
 have b9:fE (gs.map some):=λcs O=>by
  obtain⟨g,hg,e⟩:=Ba.mp O;cases e;exact(Z cs hg).1
 obtain⟨C,m1⟩:∃C,I.length=gs.length+C:=⟨I.length-gs.length,by ((try clear b2 d7 f6 h6 h9 j1 k9 t1);omega)⟩
 have b7:=aO er
 have f9:=aM (U.trans s5) rB
 fail "g";refine⟨z0,λp6 g7=>?_⟩
 have k6:=aG g7 (.lst [V.non])
 have e6:(upd S p6 (.lst [V.non])) p6=some (.lst [V.non]):=aD
 generalize upd S p6 (.lst [V.non])=H6 at k6 e6 ⊢;have j6:=aM k6 f9
 have j4:=aM k6 b7
 fail "g";rw[c6,Ab,show ((I.length:Nat):Int)-((X.length:Nat):Int)=((C:Nat):Int) by ((try clear Y b2 c5 d7 f6 g3 g9 h6 h9 j1 k9 t1);omega)]
 refine⟨p6,_,[V.non],rfl,rfl,e6,by (exact Int.natCast_nonneg _),by omega,by show 1*((C:Int)).toNat<=sizeLine;exact bK (by ((try clear b2 d7 f6 g9 h9 j1 t1);omega)),λp7 g6=>?_⟩
 rw[xB];have k7:=k6.trans (aG g6 (.lst (List.replicate C V.non)))
 have e7:(upd H6 p7 (.lst (List.replicate C V.non))) p7=some (.lst (List.replicate C V.non)):=aD
 generalize upd H6 p7 (.lst (List.replicate C V.non))=H7 at k7 e7 ⊢;fail "g";refine jJ (xs:=X.map V.ref) (ys:=List.replicate C V.non) (bM (k7 _ _ er)) (bM e7) (bK (by rw[Ab,Bz];((try clear Y b2 c5 d7 f6 g3 g9 h9 j1 k9 t1);omega))) λp8 d1=>?_
 have k8:=k7.trans (aG d1 (.lst (X.map V.ref++List.replicate C V.non)))
 have e8:(upd H7 p8 (.lst (X.map V.ref++List.replicate C V.non))) p8=some (.lst (X.map V.ref++List.replicate C V.non)):=aD
 have c9:S p8=none:=none_of k7 d1
 generalize upd H7 p8 (.lst (X.map V.ref++List.replicate C V.non))=H8 at k8 e8 ⊢;fail "g";refine⟨rh,_,gs.map some,rfl,aM k8 b7,a5.keep k8,b9,by rw[Ab];((try clear b2 d7 f6 h9 j1 t1);omega),λr9 H9 j9 s9 e9=>?_⟩
 rw[Ab,CS,r]at e9;have b5:=k8.trans s9
 have d9:∀c,cnt fs c<=aR (bD λc=>aR f c+cnt (bV I (List.range I.length)) c) c:=λc=>by
  rw[Oi];exact Int.le_trans (h4 c) (Ph (fD _) c)
 have d5:fs.length<=1000:=by
  rw[<-r];have:gs.flatten.length<=7*gs.length:=wO λg hg=>by
   have:=(fG (Z g hg).1).2
   rw[Ab]at this;exact this
  ((try clear b2 c6 d7 f6 g9 h6 h9 j1 m1 t1);omega)
 have d6:∀c∈fs,gX c:=λc O=>by
  rw[<-r]at O;obtain⟨g,hg,h7⟩:=List.mem_flatten.mp O;exact(Z g hg).2 c h7
 fail "g";refine⟨r4,r9,c4,_,fs,rfl,(s5.trans b5) _ _ e4,c2,fD _,aO e9,d5,d6,λ_ b8 j7 m4 j5 b6 j2 c3=>?_,λi c hi _ k5=>absurd (K7 d9 i c (Ad.mp hi).1 hi) (by ((try clear Y a4 b2 c5 c6 d5 d7 f6 g3 g9 h6 h9 j1 k9 m1 t1);omega))⟩
 have a3:=b5.trans b6
 fail "g";refine⟨r0,λt ht=>?_⟩
 have kt:=aG ht (.tup [.ref p8,.ref b8])
 have a2:=a3.trans kt
 have sH:=J (s5.trans a2)
 have f2:=(s9.trans (b6.trans kt)) _ _ e8
 have L:∀ {y:Addr},S y=none->H y=none:=fun {y} hy=>by
  by_cases e:y=Pt
  .obtain⟨tb,g4⟩:=(J s5).2.tb;rw[e,g4]at hy;cases hy
  .cases eH:H y with
   |none=>rfl
   |some o=>rw[(J s5).1 y o e eH]at hy;cases hy
 have g5:(gs.map some++List.replicate C none).length=I.length:=by rw[Af,Ab,Bz];((try clear Y b2 c5 d5 d7 f6 g3 g9 h6 h9 j1 k9 t1);omega)
 refine q t p8 b8 (gs.map some++List.replicate C none) _ _ sH.1 sH.2 (L (none_of a3 ht)) aD (L c9) g5 ⟨TB,m,fs,M,n,by ((try clear b2 d5 d7 f6 g5 h6 h9 j1 k9 t1);omega),h8,by rw[h1,show I.length-m.length=C by ((try clear b2 d5 d7 f6 g5 h6 h9 j1 k9 t1);omega)],rfl⟩ ⟨⟨_,f2,?_⟩,?_,⟨_,kt _ _ j2,c3⟩,fD _⟩
 .exact(a5.keep a2).app HQ
 .intro cs O;rcases Bi.mp O with z|z
  .exact b9 cs z
  .cases (List.mem_replicate.mp z).2
def XC(c a d b D:Addr):Prop:=D=c\/D=a\/D=d\/D=b
inductive lS(v s w u i:Addr)(q:List V)(H:Hp)(Q:VK)(E:XK):Prop|mk(b k l n:Addr)(h:List (Option (List Nat)))(f:Nat->Option Int)(r:List (Str×Str))(g:List (List Nat))(a:List (List (List Nat)))(d:Dd)(_:q=[.ref b,.ref k,.ref l,.ref n])(_:ZC H k l h f)(_:h.length<=6)(_:W9 H b r g a)(_:cR i H)(_:H n=some (.tup d.vs))(_:d.ok a h.length)(_:(∀t j p (e:Q4) m c,ZY i H c->cR i c->c t=some (.tup [.ref j,.ref p])->(j=k\/H j=none)->e.length=h.length->d.done g a h f e m->ZC c j p e m->Q (.ref t) c))(_:(d.no g a h f->∀D o c,XC v s w u D->ZY i H c->cR i c->E (.ref D) o c)):lS v s w u i q H Q E
def vK:Z9 ["book", "halyards", "locker", "deed"] ["book", "halyards", "locker", "deed"] (aJ jH):=by fail "sc"
def xA(F:ZT K "behind_deed" "behind_deed" jH f fd)(G:Gs K mg w Zs Zz Zt Zx Z0 Zu Zy Zv Zw)(a5:iO P w K mg base 6 "behind_say" ["book", "halyards", "locker", "text"] (nX Zs Zy Pt))(a4:iO P w K mg base 13 "behind_haul" ["halyards", "locker", "number", "word"] (mC Zs))(a3:iO P w K mg base 3 "behind_lower" ["halyards", "locker", "number"] lA)(a2:iO P w K mg base 4 "behind_lose" ["halyards", "locker", "flag"] (mO Zt))(a1:iO P w K mg base 3 "behind_find" ["halyards", "locker", "flag"] (lU Zw)):Z8 P w K mg base (Y_ P w) 14 f fd ["book", "halyards", "locker", "deed"] (lS Zs Zt Zw Zy Pt):=by
 refine F.XJ vK (λvs H Q E h=>?_) (λa8 A a6 s H vs Q E S h=>?_)
 .obtain⟨b,y,I,L,J,f,bk,V,N,d,rfl,_⟩:=h;rfl
 obtain⟨b,y,I,L,J,f,bk,V,N,d,rfl,M,Z,a7,O,a,m,q,Y⟩:=h;refine⟨_,(@aE _ _ _ _ _ (cD (bB lC (bI bZ (mv 3) aK (λ_ _=>rfl)) fN (bA _)) (@aI _ _ _ (aU (cP a4 cB S (by decide) rfl (aA (mv 1) (aA (mv 2) (aA (bI bZ (mv 3) aK (λ_ _=>rfl)) (aA (bI bZ (mv 3) aK (λ_ _=>rfl)) aB))))))) bE) (@aE _ _ _ _ _ (cD (bB lC (bI bZ (mv 3) aK (λ_ _=>rfl)) fN (bA _)) (@aI _ _ _ (aU (cP a3 cB S (by decide) rfl (aA (mv 1) (aA (mv 2) (aA (bI bZ (mv 3) aK (λ_ _=>rfl)) aB)))))) bE) (@aE _ _ _ _ _ (cD (bB lC (bI bZ (mv 3) aK (λ_ _=>rfl)) fN (bA _)) (@aI _ _ _ (aU (cP a2 cB S (by decide) rfl (aA (mv 1) (aA (mv 2) (aA (bI bZ (mv 3) aK (λ_ _=>rfl)) aB)))))) bE) (@aE _ _ _ _ _ (cD (bB lC (bI bZ (mv 3) aK (λ_ _=>rfl)) fN (bA _)) (@aI _ _ _ (aU (cP a1 cB S (by decide) rfl (aA (mv 1) (aA (mv 2) (aA (bI bZ (mv 3) aK (λ_ _=>rfl)) aB)))))) bE) (@aI _ _ _ (aU (cP a5 cB S (by decide) rfl (aA (mv 0) (aA (mv 1) (aA (mv 2) (aA (bI bZ (mv 3) aK (λ_ _=>rfl)) aB))))))))))),?_⟩
 have k:∀ {e},Z_ H e->ZY Pt H e/\cR Pt e:=λs=>⟨Z_.p s,O.keep s⟩
 cases d with
 |haul n cw=>
  replace a:H L=some (.tup [.str "haul",.int ((n:Nat):Int),.str (aV cw)]):=a
  have X:=cX a
  fail "g";refine cH a (v:=.str "haul") (aY (j:=0) rfl) ?_;fail "g";rw[show decide ((Str.ofString "haul")=(Str.ofString "haul"))=true from An rfl];fail "g";refine cH a (v:=.int ((n:Nat):Int)) (aY (j:=1) rfl) ?_;fail "g";refine cH a (v:=.str (aV cw)) (aY (j:=2) rfl) ?_;fail "g";exact⟨y,I,J,f,n,cw,rfl,M,Z,m,λt W x C f' e s _ u U hl hd r=>q t W x C f' e (k s).1 (k s).2 u (.inr U) hl (hd _ _) r,λi dx e s=>Y i _ _ e (.inl rfl) (k s).1 (k s).2⟩
 |lower n=>
  replace a:H L=some (.tup [.str (Str.ofString "lower"),.int ((n:Nat):Int)]):=a
  have X:=cX a
  fail "g";refine cH a (v:=.str (Str.ofString "lower")) (aY (j:=0) rfl) ?_;fail "g";rw[show decide ((Str.ofString "lower")=(Str.ofString "haul"))=false from by decide +kernel]
  fail "g";refine cH a (v:=.str (Str.ofString "lower")) (aY (j:=0) rfl) ?_;fail "g";rw[show decide ((Str.ofString "lower")=(Str.ofString "lower"))=true from An rfl];fail "g";refine cH a (v:=.int ((n:Nat):Int)) (aY (j:=1) rfl) ?_;fail "g";exact⟨y,I,J,f,n,rfl,M,Z,m,λt W x e s _ u U r=>q t W x _ _ e (k s).1 (k s).2 u (.inr U) (Cw ..) ⟨rfl,rfl⟩ r⟩
 |lose c=>
  replace a:H L=some (.tup [.str (Str.ofString "lose"),.str (one c)]):=a
  have X:=cX a
  fail "g";refine cH a (v:=.str (Str.ofString "lose")) (aY (j:=0) rfl) ?_;fail "g";rw[show decide ((Str.ofString "lose")=(Str.ofString "haul"))=false from by decide +kernel]
  fail "g";refine cH a (v:=.str (Str.ofString "lose")) (aY (j:=0) rfl) ?_;fail "g";rw[show decide ((Str.ofString "lose")=(Str.ofString "lower"))=false from by decide +kernel]
  fail "g";refine cH a (v:=.str (Str.ofString "lose")) (aY (j:=0) rfl) ?_;fail "g";rw[show decide ((Str.ofString "lose")=(Str.ofString "lose"))=true from An rfl];fail "g";refine cH a (v:=.str (one c)) (aY (j:=1) rfl) ?_;fail "g";exact⟨y,I,J,f,c,rfl,M,m,λhp t x e s _ u r=>q t y x _ _ e (k s).1 (k s).2 u (.inl rfl) rfl ⟨hp,rfl,rfl⟩ r,λi dx e s=>Y i _ _ e (.inr (.inl rfl)) (k s).1 (k s).2⟩
 |find c=>
  replace a:H L=some (.tup [.str (Str.ofString "find"),.str (one c)]):=a
  have X:=cX a
  fail "g";refine cH a (v:=.str (Str.ofString "find")) (aY (j:=0) rfl) ?_;fail "g";rw[show decide ((Str.ofString "find")=(Str.ofString "haul"))=false from by decide +kernel]
  fail "g";refine cH a (v:=.str (Str.ofString "find")) (aY (j:=0) rfl) ?_;fail "g";rw[show decide ((Str.ofString "find")=(Str.ofString "lower"))=false from by decide +kernel]
  fail "g";refine cH a (v:=.str (Str.ofString "find")) (aY (j:=0) rfl) ?_;fail "g";rw[show decide ((Str.ofString "find")=(Str.ofString "lose"))=false from by decide +kernel]
  fail "g";refine cH a (v:=.str (Str.ofString "find")) (aY (j:=0) rfl) ?_;fail "g";rw[show decide ((Str.ofString "find")=(Str.ofString "find"))=true from An rfl];fail "g";refine cH a (v:=.str (one c)) (aY (j:=1) rfl) ?_;fail "g";exact⟨y,I,J,f,c,rfl,M,Z,m,λhp t x e s _ u r=>q t y x _ _ e (k s).1 (k s).2 u (.inl rfl) rfl ⟨hp,rfl,rfl⟩ r,λi e s=>Y i _ _ e (.inr (.inr (.inl rfl))) (k s).1 (k s).2⟩
 |say T=>
  replace a:H L=some (.tup [.str (Str.ofString "say"),.str (cF T)]):=a
  have X:=cX a
  fail "g";refine cH a (v:=.str (Str.ofString "say")) (aY (j:=0) rfl) ?_;fail "g";rw[show decide ((Str.ofString "say")=(Str.ofString "haul"))=false from by decide +kernel]
  fail "g";refine cH a (v:=.str (Str.ofString "say")) (aY (j:=0) rfl) ?_;fail "g";rw[show decide ((Str.ofString "say")=(Str.ofString "lower"))=false from by decide +kernel]
  fail "g";refine cH a (v:=.str (Str.ofString "say")) (aY (j:=0) rfl) ?_;fail "g";rw[show decide ((Str.ofString "say")=(Str.ofString "lose"))=false from by decide +kernel]
  fail "g";refine cH a (v:=.str (Str.ofString "say")) (aY (j:=0) rfl) ?_;fail "g";rw[show decide ((Str.ofString "say")=(Str.ofString "find"))=false from by decide +kernel]
  fail "g";refine cH a (v:=.str (cF T)) (aY (j:=1) rfl) ?_;fail "g";exact⟨b,y,I,J,f,bk,V,N,T,rfl,M,Z,a7,m,O,λt W x C f' e s l _ u U hl hd r=>q t W x C f' e s l u (.inr U) hl hd r,λi D o e hD s l=>Y i D o e (hD.elim .inl λz=>.inr (.inr (.inr z))) s l⟩
noncomputable def Y9(b:Addr)(m:Int)(a st c dd:Addr):List (Str×V):=[("book",.ref b),("many",.int m),("stock_at_first",.ref a),("stock",.ref st),("hung",.ref c),("deeds",.ref dd)]
noncomputable def Xh(b:Addr):List (Str×V):=[("book",.ref b)]
noncomputable def Xz(b:Addr)(m:Int):List (Str×V):=[("book",.ref b),("many",.int m)]
noncomputable def XY(b:Addr)(m:Int)(a:Addr):List (Str×V):=[("book",.ref b),("many",.int m),("stock_at_first",.ref a)]
noncomputable def WG(b:Addr)(m:Int)(a st:Addr):List (Str×V):=[("book",.ref b),("many",.int m),("stock_at_first",.ref a),("stock",.ref st)]
noncomputable def WU(b:Addr)(m:Int)(a st c:Addr):List (Str×V):=[("book",.ref b),("many",.int m),("stock_at_first",.ref a),("stock",.ref st),("hung",.ref c)]
def DK:gM "book" (.ref b) []=Xh b:=rfl
def IT:gM "many" (.int m) (Xh b)=Xz b m:=rfl
def HM:gM "stock_at_first" (.ref s0) (Xz b m)=XY b m s0:=rfl
def G6:gM "stock" (.ref st) (XY b m s0)=WG b m s0 st:=rfl
def C2:gM "hung" (.ref hg) (WG b m s0 st)=WU b m s0 st hg:=rfl
def KL:gM "deeds" (.ref dd) (WU b m s0 st hg)=Y9 b m s0 st hg dd:=rfl
def RX:(Y9 b m s0 st hg dd).lookup ("book" : Str)=some (.ref b):=rfl
def FG:(Y9 b m s0 st hg dd).lookup ("many" : Str)=some (.int m):=rfl
def PJ:(Y9 b m s0 st hg dd).lookup ("stock" : Str)=some (.ref st):=rfl
def Sa:(Y9 b m s0 st hg dd).lookup ("hung" : Str)=some (.ref hg):=rfl
def Ow:(Y9 b m s0 st hg dd).lookup ("deeds" : Str)=some (.ref dd):=rfl
def Mo:(Y9 b m s0 st hg dd).lookup ("stock_at_first" : Str)=some (.ref s0):=rfl
def Ob:(Y9 b m s0 st hg dd).lookup ("do" : Str)=none:=rfl
def B8:(Y9 b m s0 st hg dd).lookup ("read" : Str)=none:=rfl
def sG:(Y9 b m s0 st hg dd).lookup ("log" : Str)=none:=rfl
def LI:(Y9 b m s0 st hg dd).lookup ("locker" : Str)=none:=rfl
def xM:(Y9 b m s0 st hg dd).lookup ("halyards" : Str)=none:=rfl
def sW:(Y9 b m s0 st hg dd).lookup ("again" : Str)=none:=rfl
def Nj{h':Addr}:gM "hung" (.ref h') (Y9 b m s0 st hg dd)=Y9 b m s0 st h' dd:=rfl
def FV{s':Addr}:gM "stock" (.ref s') (Y9 b m s0 st hg dd)=Y9 b m s0 s' hg dd:=rfl
def Z1(l:List Addr)(H a:Hp):Prop:=∀b o,b∉l->H b=some o->a b=some o
def Z1.of(s:Z_ H H'):Z1 l H H':=λb o _ e=>s b o e
def Z1.trans{a:Hp}(s:Z1 l H H')(t:Z1 l H' a):Z1 l H a:=λb o n e=>t b o n (s b o n e)
def Z1.put(a:x∈l)(s:Z1 l H H'):Z1 l H (upd H' x o):=λb u n e=>by rw[aH (λz=>n (by simp_all))];exact s b u n e
def Rv{u:HO}(s:Z1 l H H')(n:a∉l)(h:Rd H a u):Rd H' a u:=by
 rcases h with h|⟨o,h⟩
 .exact .inl (s _ _ n h)
 .exact .inr ⟨o,s _ _ n h⟩
def Z1.none(s:Z1 l H H')(n:x∉l)(h:H' x=none):H x=none:=by
 cases e:H x with
 |none=>rfl
 |some o=>rw[s x o n e]at h;cases h
inductive gA(C:Addr)(n:List V)(H:Hp)(Q:VK)(zz3:XK):Prop|mk(x b l k:Addr)(i:List V)(c:List (Key×V))(f:Nat->Option Int)(m:Nat)(_:n=[.ref x,.ref b,.ref l,.int (m:Int)])(_:H x=some (.ins C k []))(_:Z4 H b=some i)(_:Rd H l (.dK c))(_:Lk c f)(_:m<=6)(_:∀g j h e d a,H g=none->H e=none->H d=none->H h=none->e≠d->g≠d->Z1 [x] H a->a x=some (.ins C k (Y9 g m j h e d))->a g=some (.lst i)->a j=some (.dK (Zi (aR f) (bN (aR f) 27)))->a h=some (.dK (Zi (aR f) (bN (aR f) 27)))->a e=some (.lst (List.replicate m V.non))->a d=some (.lst [])->Q .non a):gA C n H Q zz3
def yK:Z9 ["self", "book", "locker", "many"] ["self", "book", "locker", "many"] (aJ kJ):=by fail "sc"
def yV(F:ZT K "__init__" "Tower.__init__" kJ f fd)(y3:ZR P w K mg base 1 "plain_locker" ["locker"] dA):Z8 P w K mg base ZS 2 f fd ["self", "book", "locker", "many"] (gA Z0):=by
 refine F.ok yK (λvs H Q E h=>?_) (λcdv A outer s H vs Q E hr h=>?_)
 .obtain⟨x,b,l,dx,xs,kvs,f,m,rfl,_⟩:=h;rfl
 obtain⟨x,b,l,dx,xs,kvs,f,m,rfl,hx,hb,hl,hk,hm,q⟩:=h;refine⟨_,(@aE _ _ _ _ _ (lX (mv 0) (cA jB rfl G.b_list dX (aA (mv 1) aB)) rfl) (@aE _ _ _ _ _ (lX (mv 0) (mv 3) rfl) (@aE _ _ _ _ _ (lX (mv 0) (aT y3 hr (by decide) rfl (aA (mv 2) aB)) rfl) (@aE _ _ _ _ _ (lX (mv 0) (aT y3 hr (by decide) rfl (aA (mv 2) aB)) rfl) (@aE _ _ _ _ _ (lX (mv 0) (aQ Uv (bQ (aA dF aB)) (mv 3)) rfl) (@aI _ _ _ (lX (mv 0) (bQ aB) rfl))))))),?_⟩
 fail "g";intro b' hb';have nx:b'≠x:=λz=>by rw[z,hx]at hb';cases hb'
 have nl:l∉[x]:=λz=>by
  rw[Aj.mp z]at hl;rcases hl with h|⟨_,h⟩ <;> (rw[hx]at h;cases h)
 have sE1:Z1 [x] H (upd H b' (.lst xs)):=.of (aG hb' (.lst xs))
 have e1:(upd H b' (.lst xs)) b'=some (.lst xs):=aD
 have x1:=aG hb' (.lst xs) _ _ hx
 generalize upd H b' (.lst xs)=H1 at sE1 e1 x1 ⊢;have nin:∀ {y:Addr} {o:HO} {H':Hp} {fs:List (Str×V)},H' y=some o->H' x=some (.ins Z0 dx fs)->(∀fs',o≠.ins Z0 dx fs')->y≠x:=λe1 e2 n z=>by rw[z,e2]at e1;cases e1;exact n _ rfl
 fail "g";refine⟨x,Z0,dx,[],rfl,x1,G.Z7,G.na_Tower_book,by decide,?_⟩
 rw[DK];have sE2:=sE1.put (o:=.ins Z0 dx (Xh b')) (Aj.mpr rfl)
 have x2:(upd H1 x (.ins Z0 dx (Xh b'))) x=some (.ins Z0 dx (Xh b')):=aD
 have e2:(upd H1 x (.ins Z0 dx (Xh b'))) b'=some (.lst xs):=by rw[aH nx];exact e1
 generalize upd H1 x (.ins Z0 dx (Xh b'))=H2 at sE2 x2 e2 ⊢;fail "g";refine⟨x,Z0,dx,_,rfl,x2,G.Z7,G.na_Tower_many,by show 1<1000;decide,?_⟩
 rw[IT];have sE3:=sE2.put (o:=.ins Z0 dx (Xz b' (m:Int))) (Aj.mpr rfl)
 have x3:(upd H2 x (.ins Z0 dx (Xz b' (m:Int)))) x=some (.ins Z0 dx (Xz b' (m:Int))):=aD
 have e3:(upd H2 x (.ins Z0 dx (Xz b' (m:Int)))) b'=some (.lst xs):=by rw[aH nx];exact e2
 generalize upd H2 x (.ins Z0 dx (Xz b' (m:Int)))=H3 at sE3 x3 e3 ⊢;fail "g";refine⟨l,kvs,f,rfl,Rv sE3 nl hl,hk,λs0 H4 hs0 s4 d4=>?_⟩;have sE4:=sE3.trans (.of s4)
 have x4:=s4 _ _ x3
 have e4:=s4 _ _ e3
 have n0:=nin d4 x4 λ_=>nofun
 fail "g";refine⟨x,Z0,dx,_,rfl,x4,G.Z7,G.na_Tower_stock_at_first,by show 2<1000;decide,?_⟩
 rw[HM];have sE5:=sE4.put (o:=.ins Z0 dx (XY b' (m:Int) s0)) (Aj.mpr rfl)
 have x5:(upd H4 x (.ins Z0 dx (XY b' (m:Int) s0))) x=some (.ins Z0 dx (XY b' (m:Int) s0)):=aD
 have e5:(upd H4 x (.ins Z0 dx (XY b' (m:Int) s0))) b'=some (.lst xs):=by rw[aH nx];exact e4
 have d5:(upd H4 x (.ins Z0 dx (XY b' (m:Int) s0))) s0=some (.dK (Zi (aR f) (bN (aR f) 27))):=by rw[aH n0];exact d4
 generalize upd H4 x (.ins Z0 dx (XY b' (m:Int) s0))=H5 at sE5 x5 e5 d5 ⊢;fail "g";refine⟨l,kvs,f,rfl,Rv sE5 nl hl,hk,λst H6 hst s6 d6=>?_⟩;have sE6:=sE5.trans (.of s6)
 have x6:=s6 _ _ x5
 have e6:=s6 _ _ e5
 have d06:=s6 _ _ d5
 have n1:=nin d6 x6 λ_=>nofun
 fail "g";refine⟨x,Z0,dx,_,rfl,x6,G.Z7,G.na_Tower_stock,by show 3<1000;decide,?_⟩
 rw[G6];have sE7:=sE6.put (o:=.ins Z0 dx (WG b' (m:Int) s0 st)) (Aj.mpr rfl)
 have x7:(upd H6 x (.ins Z0 dx (WG b' (m:Int) s0 st))) x=some (.ins Z0 dx (WG b' (m:Int) s0 st)):=aD
 have e7:(upd H6 x (.ins Z0 dx (WG b' (m:Int) s0 st))) b'=some (.lst xs):=by rw[aH nx];exact e6
 have d07:(upd H6 x (.ins Z0 dx (WG b' (m:Int) s0 st))) s0=some (.dK (Zi (aR f) (bN (aR f) 27))):=by rw[aH n0];exact d06
 have d17:(upd H6 x (.ins Z0 dx (WG b' (m:Int) s0 st))) st=some (.dK (Zi (aR f) (bN (aR f) 27))):=by rw[aH n1];exact d6
 generalize upd H6 x (.ins Z0 dx (WG b' (m:Int) s0 st))=H7 at sE7 x7 e7 d07 d17 ⊢;fail "g";refine⟨z0,λp0 hp0=>?_⟩
 have k8:=aG hp0 (.lst [V.non])
 have e8:(upd H7 p0 (.lst [V.non])) p0=some (.lst [V.non]):=aD
 generalize upd H7 p0 (.lst [V.non])=H8 at k8 e8 ⊢;fail "g";refine⟨p0,_,[V.non],rfl,rfl,e8,by (exact Int.natCast_nonneg _),by omega,by show 1*((m:Int)).toNat<=sizeLine;exact bK (by ((try clear n0 n1 nx);omega)),λhg hhg=>?_⟩
 rw[xB];have k9:=k8.trans (aG hhg (.lst (List.replicate m V.non)))
 have h9:(upd H8 hg (.lst (List.replicate m V.non))) hg=some (.lst (List.replicate m V.non)):=aD
 have hg7:H7 hg=none:=none_of k8 hhg
 generalize upd H8 hg (.lst (List.replicate m V.non))=H9 at k9 h9 ⊢;have x9:=k9 _ _ x7
 have n2:=nin h9 x9 λ_=>nofun
 have nin1:∀ {y:Addr},y≠x->y∉[x]:=λn z=>n (Aj.mp z)
 have hgH:=sE7.none (nin1 n2) hg7
 have stH:=sE5.none (nin1 n1) hst
 fail "g";refine⟨x,Z0,dx,_,rfl,x9,G.Z7,G.na_Tower_hung,by show 4<1000;decide,?_⟩
 rw[C2];have sE10:=(sE7.trans (.of k9)).put (o:=.ins Z0 dx (WU b' (m:Int) s0 st hg)) (Aj.mpr rfl)
 have x10:(upd H9 x (.ins Z0 dx (WU b' (m:Int) s0 st hg))) x=some (.ins Z0 dx (WU b' (m:Int) s0 st hg)):=aD
 have e10:(upd H9 x (.ins Z0 dx (WU b' (m:Int) s0 st hg))) b'=some (.lst xs):=by rw[aH nx];exact k9 _ _ e7
 have d010:(upd H9 x (.ins Z0 dx (WU b' (m:Int) s0 st hg))) s0=some (.dK (Zi (aR f) (bN (aR f) 27))):=by rw[aH n0];exact k9 _ _ d07
 have d110:(upd H9 x (.ins Z0 dx (WU b' (m:Int) s0 st hg))) st=some (.dK (Zi (aR f) (bN (aR f) 27))):=by rw[aH n1];exact k9 _ _ d17
 have h10:(upd H9 x (.ins Z0 dx (WU b' (m:Int) s0 st hg))) hg=some (.lst (List.replicate m V.non)):=by rw[aH n2];exact h9
 generalize upd H9 x (.ins Z0 dx (WU b' (m:Int) s0 st hg))=H10 at sE10 x10 e10 d010 d110 h10 ⊢;fail "g";refine⟨by decide,λdd hdd=>?_⟩
 have k11:=aG hdd (.lst [])
 have f11:(upd H10 dd (.lst [])) dd=some (.lst []):=aD
 have nhd:hg≠dd:=λz=>by rw[<-z,h10]at hdd;cases hdd
 have WK:b'≠dd:=λz=>by rw[<-z,e10]at hdd;cases hdd
 have x11:=k11 _ _ x10
 have ndx:dd≠x:=λz=>by rw[z,x10]at hdd;cases hdd
 have ddH:=sE10.none (nin1 ndx) hdd
 generalize upd H10 dd (.lst [])=H11 at k11 f11 x11 ⊢;fail "g";refine⟨x,Z0,dx,_,rfl,x11,G.Z7,G.na_Tower_deeds,by show 5<1000;decide,?_⟩
 rw[KL];refine q b' s0 st hg dd _ hb' hgH ddH stH nhd WK ((sE10.trans (.of k11)).put (Aj.mpr rfl)) aD ?_ ?_ ?_ ?_ ?_
 .rw[aH nx];exact k11 _ _ e10
 .rw[aH n0];exact k11 _ _ d010
 .rw[aH n1];exact k11 _ _ d110
 .rw[aH n2];exact k11 _ _ h10
 .rw[aH ndx];exact f11
def HF(e:H p=some (.tup xs))(h:Q (.int (xs.length:Int)) H):L2.bR [.ref p] H Q:=by
 have a:Z4 H p=none:=by unfold Z4;rw[e];rfl
 unfold L2.bR;simp only[a,cX e];exact h
noncomputable def things:List (Str×Int):=[("haul",3),("lower",2),("lose",2),("find",2),("say",2)]
def DG(b:Z6 H us hs)(ok:fE hs)(f:us[j]?=some (V.ref p))(d:hs[j]?=some h):∃c a,h=some (c::a)/\H p=some (.lst (V.str (one c)::(a.map one).map V.str)):=by
 have r:=b.val j _ _ f d
 cases h with
 |none=>cases r
 |some a=>
  obtain⟨q,e,g⟩:=r;cases e;have:=(fG (ok a (Ao d))).1
  cases a with
  |nil=>exact absurd this (by decide)
  |cons c a=>exact⟨c,a,rfl,g⟩
def yL(H:Hp)(l:List Addr):Prop:=∀p∈l,(∀a,H p≠some (.tup a))/\(∀k,H p≠some (.dK k))/\∀z b,H p≠some (.lst (.str z::b))
def Z6.ZJ{l:List Addr}(h:Z6 H us hs)(ok:fE hs)(s:Z1 l H H')(n:yL H l):Z6 H' us hs:=by
 refine⟨h.len,λj v o a b=>?_⟩;have r:=h.val j v o a b
 cases o with
 |none=>exact r
 |some i=>
  obtain⟨p,rfl,f⟩:=r;obtain⟨c,g,e,d⟩:=DG h ok a b;exact⟨p,rfl,s _ _ (λz=>(n p z).2.2 _ _ d) f⟩
def ZC.ZJ{l:List Addr}{B R:Addr}{f:Nat->Option Int}(i:ZC H B R hs f)(s:Z1 l H H')(k:B∉l)(n:yL H l):ZC H' B R hs f:=by
 obtain⟨⟨e,h,g⟩,c,⟨a,b,d⟩,j⟩:=i;exact⟨⟨e,s _ _ k h,g.ZJ c s n⟩,c,⟨a,s _ _ (λz=>(n R z).2.1 _ b) b,d⟩,j⟩
def ZE.ZJ(h:ZE H r bk)(s:Z1 l H H')(f:r∉l)(n:yL H l):ZE H' r bk:=by
 obtain⟨e,i,g,d⟩:=h;exact⟨e,s _ _ f i,g,λj p b a c=>s _ _ (λz=>(n p z).1 _ (d j p b a c)) (d j p b a c)⟩
def Chain(cws:List (List Nat))(a:List (List (List Nat)))(m:Nat)(c:Nat->Option Int):List Dd->List (Option (List Nat))->(Nat->Option Int)->Prop
 |[],b,f=>b=List.replicate m none/\f=c
 |d::r,hs',f'=>∃b f,Chain cws a m c r b f/\d.ok a m/\d.done cws a b f hs' f'
def Chain.one(e:qB mss)(c:mss.Nodup){m:Nat}:∀ {r:List Dd} {h g:Q4} {j i:Nat->Option Int},Chain cws mss m f0 r h j->Chain cws mss m f0 r g i->h=g/\j=i
 |[],_,_,_,_,a,b=>⟨a.1.trans b.1.symm,a.2.trans b.2.symm⟩
 |d::r,_,_,_,_,⟨hs,f,a1,_,a2⟩,⟨hs',f',b1,_,b2⟩=>by
  obtain⟨rfl,rfl⟩:=Chain.one e c a1 b1;exact Dd.one e c a2 b2
def Chain.down:∀ {A:List Dd} {a:Q4} {f:Nat->Option Int},Chain cws mss m f0 (A++B) a f->∃b c,Chain cws mss m f0 B b c
 |[],a,f,h=>⟨a,f,h⟩
 |_::A,_,_,⟨_,_,h,_⟩=>Chain.down  h
def Chain.at{ds:List Dd}{f:Nat->Option Int}(h:Chain cws mss m f0 ds.reverse hs f){d:Dd}(a:ds[i]?=some d):∃b c,Chain cws mss m f0 (d::(ds.take i).reverse) b c:=by
 have e:ds.reverse=(ds.drop (i+1)).reverse++(d::(ds.take i).reverse):=by
  rw[show d::(ds.take i).reverse=(ds.take _).reverse by rw[Bd,a,List.reverse_append];rfl,<-List.reverse_append,El]
 rw[e]at h;exact h.down
structure Zh (C:Addr) (H:Hp) (x b s0 st hg dd dx:Addr) (m:Nat) (bk:List (Str×Str)) (cws:List (List Nat)) (mss:List (List (List Nat))) (f0:Nat->Option Int) (ds:List Dd) (dps:List Addr) (hs:List (Option (List Nat))) (f:Nat->Option Int):Prop where
 ins:H x=some (.ins C dx (Y9 b m s0 st hg dd))
 tw:ZC H hg st hs f
 len:hs.length=m
 six:m<=6
 Yy:W9 H b bk cws mss
 Sh:∃kvs,H s0=some (.dK kvs)/\Lk kvs f0
 Sx:bD (aR f0)=f0
 log:H dd=some (.lst (dps.map V.ref))
 Ve:dps.length=ds.length
 dat:∀(j:Nat) p d,dps[j]?=some p->ds[j]?=some d->H p=some (.tup d.vs)
 RT:∀d∈ds,d.ok mss m
 ch:Chain cws mss m f0 ds.reverse hs f
 OE:hg≠dd
 WK:b≠dd
section
variable {C:Addr} {m:Nat} {ds:List Dd} {f:Nat->Option Int}
def Zh.ZJ{l:List Addr}(t:Zh C H x b s0 st hg dd dx m bk cws mss f0 ds dps hs f)(s:Z1 l H H')(h:x∉l)(i:hg∉l)(o:b∉l)(k:dd∉l)(n:yL H l):Zh C H' x b s0 st hg dd dx m bk cws mss f0 ds dps hs f:=by
 obtain⟨a,c,q⟩:=t.Sh;exact⟨s _ _ h t.ins,t.tw.ZJ s i n,t.len,t.six,⟨t.Yy.Vb.ZJ s o n,t.Yy.cw,t.Yy.le,t.Yy.ms⟩,⟨a,s _ _ (λz=>(n _ z).2.1 _ c) c,q⟩,t.Sx,s _ _ k t.log,t.Ve,λj p d e g=>s _ _ (λz=>(n p z).1 _ (t.dat j p d e g)) (t.dat j p d e g),t.RT,t.ch,t.OE,t.WK⟩
def Zh.keep(t:Zh C H x b s0 st hg dd dx m bk cws mss f0 ds dps hs f)(s:Z_ H H'):Zh C H' x b s0 st hg dd dx m bk cws mss f0 ds dps hs f:=t.ZJ (l:=[]) (.of s) (λz=>nomatch z) (λz=>nomatch z) (λz=>nomatch z) (λz=>nomatch z) (λp z=>nomatch z)
def Zh.out(t:Zh C H x b s0 st hg dd dx m bk cws mss f0 ds dps hs f):∃(a:List V) (c:List Addr),H hg=some (.lst a)/\H b=some (.lst (c.map V.ref)):=by
 obtain⟨a,d,_⟩:=t.tw.WR;obtain⟨c,e,_⟩:=t.Yy.Vb;exact⟨a,c,d,e⟩
def wW(l:cR Pt H):yL H [Pt]:=λp a=>by
 obtain⟨b,e⟩:=l.tb;grind
def lY(l:cR Pt H)(h:H p=some o)(n:∀a,o≠.tbl a):p∉[Pt]:=λz=>by
 obtain⟨b,e⟩:=l.tb;grind
def OC(s:ZY Pt H H'):Z1 [Pt] H H':=λp o n h=>s p o (λz=>n (Aj.mpr z)) h
def Zh.Y1(t:Zh C H x b s0 st hg dd dx m bk cws mss f0 ds dps hs f)(s:ZY Pt H H')(l:cR Pt H):Zh C H' x b s0 st hg dd dx m bk cws mss f0 ds dps hs f:=by
 obtain⟨d,e,a,c⟩:=t.out;exact t.ZJ (OC s) (lY l t.ins λ_=>nofun) (lY l a λ_=>nofun) (lY l c λ_=>nofun) (lY l t.log λ_=>nofun) (wW l)
def XD{z:Addr}(c:p≠x)(b:p≠y)(a:p≠z):p∉[x,y,z]:=λe=>by grind
def Zh.X_(t:Zh C H x b s0 st hg dd dx m bk cws mss f0 ds dps hs f)(l:cR Pt H):yL H [x,dd,Pt]:=λp a=>by
 simp at a;rcases a with z|z|z
 .rw[z,t.ins];exact⟨λ_=>nofun,λ_=>nofun,λ_ _=>nofun⟩
 .rw[z,t.log];refine⟨λ_=>nofun,λ_=>nofun,λz h e=>?_⟩;have c:dps.map V.ref=V.str z::h:=by injection Bk e
  cases dps with
  |nil=>cases c
  |cons d r=>injection c with g _;cases g
 .exact wW l p (Aj.mpr z)
def uI(h:H D=some (.lst (ps.map V.ref))):yL H [D]:=λp b=>by
 rw[Aj.mp b,h];refine⟨λ_=>nofun,λ_=>nofun,λz f e=>?_⟩;have a:ps.map V.ref=V.str z::f:=by simp_all
 cases ps with
 |nil=>cases a
 |cons d r=>injection a with c _;cases c
def dR(l:cR Pt H)(h:H p=some o)(n:∀a,o≠.tbl a):p≠Pt:=λz=>lY l h n (Aj.mpr z)
end
inductive mJ(C F A G B j:Addr)(y:List V)(H:Hp)(Q:VK)(E:XK):Prop|mk(x b q z r p u n:Addr)(m:Nat)(w:List (Str×Str))(c:List (List Nat))(a:List (List (List Nat)))(s:Nat->Option Int)(v:List Dd)(h:List Addr)(l:List (Option (List Nat)))(f:Nat->Option Int)(d:Dd)(_:y=[.ref x,.ref n])(_:Zh C H x b q z r p u m w c a s v h l f)(_:H n=some (.tup d.vs))(_:d.ok a m)(_:h.length<=900)(_:cR j H)(_:(∀k g (i:Q4) t e,Z1 [x,p,j] H e->cR j e->(g=r\/H g=none)->d.done c a l f i t->Zh C e x b q k g p u m w c a s (v++[d]) (h++[n]) i t->Q .non e))(_:(d.no c a l f->∀D o e,XC F A G B D->ZY j H e->cR j e->E (.ref D) o e)):mJ C F A G B j y H Q E
def Dd.head(d:Dd):∃z a,d.vs=.str z::a/\things.lookup z=some (((V.str z::a).length:Nat):Int):=by
 cases d<;>exact⟨_,_,rfl,rfl⟩
def RJ(h:cR Pt H)(s:Z1 l H H')(n:Pt∉l)(d:∀c,H c=some (tG c QQ)->c∉l):cR Pt H':=h.elim (λe=>.inl (s _ _ n e)) λ⟨c,a,b⟩=>.inr ⟨c,s _ _ n a,s _ _ (d c b) b⟩
def Od:Z9 ["self", "deed", "behind"] ["self", "deed"] (aJ oZ):=by fail "sc"
def B6(F:ZT K "do" "Tower.do" oZ f fd)(b5:iO P w K mg base 14 "behind_deed" ["book", "halyards", "locker", "deed"] (lS Zs Zt Zw Zy Pt)):Z8 P w K mg base (Y_ P w) 15 f fd ["self", "deed"] (mJ Z0 Zs Zt Zw Zy Pt):=by
 refine F.XJ Od (λvs H Q E h=>?_) (λd4 A b6 s H vs Q E hr h=>?_)
 .obtain⟨x,b,T,st,hg,k,C,dp,m,bk,b4,a7,f0,ds,B,hs,f,d,rfl,_⟩:=h;rfl
 obtain⟨a,b,T,st,hg,k,C,dp,m,bk,b4,a7,f0,ds,B,hs,f,d,rfl,L,N,Z,d3,b8,q,qe⟩:=h;refine⟨_,(@aE _ _ _ _ _ (cD (PW.pt (sU (bB (EM hr.YN) (mv 1) (cU aB) (bA _)) (mG (bB P6 (Nf rfl G.d_THINGS_IN (aA (bI bZ (mv 1) aK (λ_ _=>rfl)) aB)) (aW cN rfl G.b_len bP (aA (mv 1) aB)) (bA _))))) (@aI _ _ _ (jT fZ rfl rfl rfl G.c_NoDeed G.x_NoDeed Ct (@cG _ _ _ _ _ _ aB))) bE) (@aE _ _ _ _ _ (aP 2 Od.nd (cP b5 cB hr (by decide) rfl (aA (gI (mv 0) rfl) (aA (gI (mv 0) rfl) (aA (gI (mv 0) rfl) (aA (mv 1) aB)))))) (@aE _ _ _ _ _ (lX (mv 0) (bI bZ (mv 2) aK (λ_ _=>rfl)) rfl) (@aE _ _ _ _ _ (lX (mv 0) (bI bZ (mv 2) aK (λ_ _=>rfl)) rfl) (@aI _ _ _ (bU (cI Bj Di Dj wR (gI (mv 0) rfl) (aA (mv 1) aB)))))))),?_⟩
 obtain⟨z,zs,ed,hz⟩:=d.head;have b1:=N
 rw[ed]at N;have d1:=cX N
 fail "g";refine⟨by decide,λp0 c4=>?_⟩
 have W:=aG c4 (.tup [])
 refine Kt (W _ _ N) aD ?_;have J:=L.keep W
 have Y:=W _ _ N
 have I:=W _ _ b1
 generalize upd H p0 (.tup [])=H1 at W J Y I ⊢;have a1:=J.ins
 have c7:=cX Y
 fail "g";rw[show (V.str z::zs).isEmpty=false from rfl];fail "g";refine cH Y (v:=.str z) (aY (j:=0) rfl) ?_;fail "g";refine⟨z,rfl,?_⟩;rw[show List.lookup z [("haul",3),("lower",2),("lose",2),("find",2),("say",2)]=some (((V.str z::zs).length:Nat):Int) from hz];fail "g";refine HF Y ?_;fail "g";rw[show (!decide ((((V.str z::zs).length:Nat):Int)=(((V.str z::zs).length:Nat):Int)))=false by rw[An rfl];rfl]
 fail "g";refine⟨a,Z0,C,_,_,rfl,a1,G.Z7,G.na_Tower_book,RX,?_⟩;fail "g";refine⟨a,Z0,C,_,_,rfl,a1,G.Z7,G.na_Tower_hung,Sa,?_⟩;fail "g";refine⟨a,Z0,C,_,_,rfl,a1,G.Z7,G.na_Tower_stock,PJ,?_⟩;fail "g";have a2:=L.len
 have M:=b8.keep W
 refine⟨b,hg,st,dp,hs,f,bk,b4,a7,d,rfl,J.tw,by rw[a2];exact L.six,J.Yy,M,I,by rw[a2];exact Z,λt i r c3 f' R s2 l2 ep hB hl b2 a5=>?_,λc5 D o H' hD s' l'=>qe c5 D o H' hD ((Z_.p W).trans s') l'⟩
 have S:=J.Y1 s2 M
 have ea:=S.ins
 have O:=S.log
 obtain⟨us,u1,u2⟩:=id a5.WR;obtain⟨_,qs,_,c1⟩:=S.out;have a6:i≠k:=λz=>by
  rcases hB with e|e
  .exact L.OE (e.symm.trans z)
  .rw[z,J.log]at e;cases e
 have nd:k≠a:=λz=>by rw[z,ea]at O;cases O
 have np:t≠a:=λz=>by rw[z,ea]at ep;cases ep
 have up:∀o u,upd (upd R a o) a u=upd R a u:=λo u=>Ra
 have c9:=cX ep
 fail "g";refine cH ep (v:=.ref i) (aY (j:=0) rfl) ?_;fail "g";refine⟨a,Z0,C,_,rfl,ea,G.Z7,G.na_Tower_hung,by show 6<1000;decide,?_⟩
 rw[Nj];have a3:(upd R a (.ins Z0 C (Y9 b m T st i k))) a=some (.ins Z0 C (Y9 b m T st i k)):=aD
 have p3:(upd R a (.ins Z0 C (Y9 b m T st i k))) t=some (.tup [.ref i,.ref r]):=by rw[aH np];exact ep
 fail "g";refine cH p3 (v:=.ref r) (aY (j:=1) rfl) ?_;fail "g";refine⟨a,Z0,C,_,rfl,a3,G.Z7,G.na_Tower_stock,by show 6<1000;decide,?_⟩
 rw[FV,up];have a4:(upd R a (.ins Z0 C (Y9 b m T r i k))) a=some (.ins Z0 C (Y9 b m T r i k)):=aD
 have c6:(upd R a (.ins Z0 C (Y9 b m T r i k))) k=some (.lst (B.map V.ref)):=by rw[aH nd];exact O
 have d2:=bM c6
 have c8:(B.map V.ref).length<=1000:=by rw[Ab];(exact Nat.le_trans (by assumption) (by decide))
 fail "g";refine⟨a,Z0,C,_,_,rfl,a4,G.Z7,G.na_Tower_deeds,Ow,?_⟩;fail "g";have na:a≠Pt:=dR l2 ea λ_=>nofun
 have b7:k≠Pt:=dR l2 O λ_=>nofun
 have sE:Z1 [a,k] R (upd (upd R a (.ins Z0 C (Y9 b m T r i k))) k (.lst (B.map V.ref++[.ref dp]))):=λc o nb e=>by
  rw[aH (λz=>nb (by rw[z];exact Al _ (Ak ..))),aH (λz=>nb (by rw[z];exact Ak ..))]
  exact e
 have U:∀ {p:Addr},p≠a->p≠k->p∉[a,k]:=λh1 h2 e=>by
  simp only[List.mem_cons,List.not_mem_nil,or_false]at e;exact e.elim h1 h2
 have dl:yL R [a,k]:=λp X=>S.X_ l2 p (by simp only[List.mem_cons,List.not_mem_nil,or_false]at X ⊢;exact X.elim .inl λz=>.inr (.inl z))
 have l3:cR Pt (upd (upd R a (.ins Z0 C (Y9 b m T r i k))) k (.lst (B.map V.ref++[.ref dp]))):=RJ l2 sE (U na.symm b7.symm) (λc hc=>U (λz=>by rw[z,ea]at hc;cases hc) (λz=>by rw[z,O]at hc;cases hc))
 obtain⟨b9,a9,c2⟩:=S.Sh;refine q r i c3 f' _ (λp o n e=>sE p o (λz=>n (by simp only[List.mem_cons,List.not_mem_nil,or_false]at z ⊢;exact z.elim .inl λy=>.inr (.inl y))) (s2 p o (λz=>n (by simp only[List.mem_cons,List.not_mem_nil,or_false];exact .inr (.inr z))) (W _ _ e))) l3 (hB.elim .inl λz=>.inr (none_of W z)) b2 ⟨by rw[aH (Ne.symm nd)];exact aD,a5.ZJ sE (U (λz=>by rw[z,ea]at u1;cases u1) a6) dl,by rw[hl,a2],L.six,⟨S.Yy.Vb.ZJ sE (U (λz=>by rw[z,ea]at c1;cases c1) L.WK) dl,S.Yy.cw,S.Yy.le,S.Yy.ms⟩,⟨b9,sE _ _ (λz=>(dl _ z).2.1 _ a9) a9,c2⟩,L.Sx,by rw[aD,List.map_append];rfl,by rw[List.length_append,List.length_append,L.Ve];rfl,λj p d' X hd=>?_,λd' hd=>?_,?_,a6,L.WK⟩
 .have a8:R p=some (.tup d'.vs):=by
   have b3:=L.Ve
   rcases Nat.lt_or_ge j B.length with z|z
   .rw[Am z]at X;rw[Am (by ((try clear a2 a6 b7 c8 d3 hB hl na nd np);omega))]at hd
    exact S.dat j p d' X hd
   .rw[Aq z]at X;rw[Aq (by ((try clear a2 a6 b7 c8 d3 hB hl na nd np);omega)),<-b3]at hd
    have w1:=(Ad.mp X).1
    have eu:j-B.length=0:=by have:j-B.length<1:=w1;((try clear a2 a6 b3 b7 c8 d3 hB hl na nd np w1 z);omega)
    rw[eu]at X hd;cases X;cases hd;exact s2 _ _ (dR M I λ_=>nofun) I
  exact sE _ _ (λz=>(dl _ z).1 _ a8) a8
 .rcases Bi.mp hd with z|z
  .exact L.RT d' z
  .rw[Aj.mp z];exact Z
 .rw[List.reverse_append];exact⟨hs,f,L.ch,Z,b2⟩
noncomputable def iW(cws:List (List Nat)):List Str:=cws.map λa=>aV (a++[YU a])
noncomputable def Vd:Option (List Nat)->V
 |none=>.non
 |some a=>.str (oK (a.map one))
noncomputable def VP(cws:List (List Nat)):Option (List Nat)->V
 |none=>.non
 |some a=>match (iW cws).findIdx? (λy=>y==oK (a.map one)) with|some j=>.int (j:Int)|none=>.non
def So(y:Str)(a:List Str):WX (.str y) (a.map V.str)=decide (y∈a):=by
 unfold WX;rw[List.any_map,He,List.any_eq_true,Bo];constructor
 .rintro⟨z,hz,e⟩;have b:=e
  rwa[<-Ik b]
 .intro h;exact⟨y,h,show _=true from Fd _⟩
def BX(a:List Str):WX .non (a.map V.str)=false:=by
 unfold WX;rw[List.any_map,List.any_eq_false];intro z _ h;cases h
inductive oG(C:Addr)(i:List V)(H:Hp)(Q:VK)(zz3:XK):Prop|mk(a b k j h n l m d e f c)(_:i=[.ref a])(_:H a=some (.ins C l (Y9 b m k j h n)))(_:Z4 H h=some d)(_:Z6 H d e)(_:d.length<=1000)(_:fE e)(_:ZE H b f)(_:f.length<=60)(_:tE f c)(_:∀r g,H r=none->Z_ H g->g r=some (.lst (e.map (VP c)))->Q (.ref r) g):oG C i H Q zz3
def To:Z9 ["self", "spoken", "words"] ["self"] (aJ gY):=by fail "sc"
def yC(F:ZT K "read" "Tower.read" gY f fd)(o5:ZR P w K mg base 5 "with_check" ["word"] jL)(u7:iO P w K mg base 4 "read_of" ["flags"] (oN Zx)):Z8 P w K mg base ZS 6 f fd ["self"] (oG Z0):=by
 refine F.ok To (λvs H Q E h=>?_) (λc6 A a3 s H vs Q E hr h=>?_)
 .obtain⟨a,b,s0,st,hg,dd,dx,m,us,v,bk,d,rfl,_⟩:=h;rfl
 obtain⟨a,b,s0,st,hg,dd,dx,m,us,v,bk,d,rfl,ha,a8,l,a4,a6,b7,c5,I,q⟩:=h;refine⟨_,(@aE _ _ _ _ _ (aP 1 To.nd (cL rfl (bT (gI (mv 0) rfl)) (iL (N:=["word", "meaning"]) (by decide +kernel) (by decide +kernel)) (by decide +kernel) rfl (by decide +kernel) (λ_ _ _ _=>(eT (K:=K) (i:=0) (j:=1) (by rfl) (by rfl) (show List.Nodup (["word", "meaning"]:List Str) by decide +kernel) (by rfl) (by exact Or.inl rfl) (by exact Or.inr rfl) (by rfl) (by exact Or.inl rfl) (by exact Or.inr rfl))) (λ_ _ _ _=>cY) (λ_ _ _ _=>(aT o5 hr (by decide) rfl (aA (mv 0) aB))))) (@aE _ _ _ _ _ (fL (i:=2) To.nd rfl (Or.inl rfl) rfl (bT (gI (mv 0) rfl)) (iL (N:=["hoist"]) (by decide +kernel) (by decide +kernel)) (by decide +kernel) rfl (by decide +kernel) (λ_ _ _ _=>(aZ (i:=0) (show List.Nodup (["hoist"]:List Str) by decide +kernel) rfl (Or.inl rfl))) (λ_ _ _ _=>cY) (λ_ _ _ _=>(pR (bB Vx (mv 0) dF (bA _)) dF (cP u7 qW hr (by decide) rfl (aA (mv 0) aB))))) (@aI _ _ _ (aU (cL rfl (bT (mv 2)) (gF (N:=["word", "spoken"]) ["self", "spoken", "words"] (aJ gY) [none,some 1] rfl rfl rfl (λx h=>bX h) (by decide +kernel)) (by decide +kernel) rfl (by decide +kernel) (λ_ _ _ _=>(aZ (i:=0) (show List.Nodup (["word", "spoken"]:List Str) by decide +kernel) rfl (Or.inl rfl))) (λ_ _ _ _=>cY) (λ_ _ _ _=>(pR (bB GW (mv 0) (mv 1) (by rfl)) (cI Bj Gc PySem.F.type_list_index EX (mv 1) (aA (mv 0) aB)) dF))))))),?_⟩
 obtain⟨qs,b1,b2,b3⟩:=id b7;have rq:=aO b1
 have T:(qs.map V.ref).length=bk.length:=by rw[Ab,b2]
 fail "g";refine⟨a,Z0,dx,_,_,rfl,ha,G.Z7,G.na_Tower_book,RX,?_⟩;fail "g";refine gG (xs:=qs.map V.ref) (λj=>(d[j]?).map λZ=>V.str (aV (Z++[YU Z]))) rq (by rw[T];exact bF (by (exact Nat.le_trans (by assumption) (by decide)))) (λj x Hc A B n M J hB=>?_) (λD Hd hD O hd=>?_)
 .rw[Ag]at n;obtain⟨p,ep,rfl⟩:=Cd.mp n;have C:j<bk.length:=by rw[<-b2];exact(Ad.mp ep).1
  have ec:d[j]?=some (d[j]'(by rw[I.1];exact C)):=Aa _
  obtain⟨hw,b6,b5,b4⟩:=I.2 j _ _ (Aa C) ec;have tp:=M _ _ (b3 j p _ ep (Aa C))
  rw[hw]at tp;have c2:=cX tp
  fail "g";refine⟨Wk.set rfl (Wk.set rfl (Wk.refl _)),?_⟩;fail "g";exact⟨_,rfl,b6,b5,b4,λH' s' _ _=>J _ (by rw[ec];rfl) H' s'⟩
 .rw[T,<-I.1,dM (λZ=>V.str (aV (Z++[YU Z])))]at hd;have S:Hd D=some (.lst ((iW d).map V.str)):=by rw[hd];unfold iW;rw[Ce];rfl
  have b8:=O _ _ ha
  have a9:=aM O a8
  have X:=l.keep O
  fail "g";refine⟨a,Z0,dx,_,_,rfl,b8,G.Z7,G.na_Tower_hung,Sa,?_⟩;fail "g";refine gG (xs:=us) (λj=>(v[j]?).map Vd) a9 (bF (by (exact Nat.le_trans (by assumption) (by decide)))) (λj x Hc A B n M J hB=>?_) (λD2 c7 c4 t W=>?_)
  .have a7:j<v.length:=by rw[<-l.len];exact(Ad.mp n).1
   obtain⟨o,eh⟩:∃o,v[j]?=some o:=⟨_,Aa a7⟩;have hv:=(X.keep M).val j x _ n eh
   cases o with
   |none=>
    obtain rfl:x=V.non:=hv;fail "g";refine⟨Wk.set rfl (Wk.refl _),?_⟩;fail "g";rw[show decide (V.non=V.non)=true from rfl];fail "g";exact J _ (by rw[eh];rfl) _ (Z_.refl _)
   |some L=>
    obtain⟨pc,rfl,a5⟩:=hv;have Y:=a6 L (Ao eh)
    have h7:=fG Y
    fail "g";refine⟨Wk.set rfl (Wk.refl _),?_⟩;fail "g";rw[show decide (V.ref pc=V.non)=false from Aw (λz=>nomatch z)]
    fail "g";exact⟨pc,L.map one,rfl,aO a5,by ((try clear T a4 a7 b2 c5);omega),λz hz=>by obtain⟨c,_,rfl⟩:=Ba.mp hz;show 1<=1000;decide,λ_ H' s'=>J _ (by rw[eh];rfl) H' s',λz=>by rw[Y]at z;cases z⟩
  .rw[l.len,dM Vd]at W;have r2:=aO W
   have a2:=aO (t _ _ S)
   have c3:(v.map Vd).length<=1000:=by rw[Ab,<-l.len];exact a4
   fail "g";refine gG (xs:=v.map Vd) (λj=>(v[j]?).map (VP d)) r2 (bF (by (exact Nat.le_trans (by assumption) (by decide)))) (λj x Hc A B n M J hB=>?_) (λD3 c1 b9 a1 U=>?_)
   .rw[Ag]at n;obtain⟨o,eo,rfl⟩:=Cd.mp n;have u:=aM M a2
    have r:=J (VP d o) (by rw[eo];rfl)
    cases o with
    |none=>
     fail "g";refine⟨Wk.set rfl (Wk.refl _),?_⟩;fail "g";refine Us (neg:=false) u rfl (dB _) ?_;rw[if_neg Ar,show Vd none=V.non from rfl,BX];fail "g";exact r _ (Z_.refl _)
    |some L=>
     have R:∀Hd,Z_ Hc Hd->A (match (iW d).findIdx? (λy=>y==oK (L.map one)) with|some j=>V.int (j:Int)|none=>.non) Hd:=r
     change lG 0 (V.str (oK (L.map one))) _ _ _
     generalize oK (L.map one)=z at R ⊢;fail "g";refine⟨Wk.set rfl (Wk.refl _),?_⟩;fail "g";refine Us (neg:=false) u rfl (dB _) ?_;rw[if_neg Ar,So];cases e:(iW d).findIdx? (λy=>y==z) with
     |none=>
      rw[e]at R;rw[decide_eq_false λhm=>by grind]
      fail "g";exact R _ (Z_.refl _)
     |some k=>
      rw[e]at R;obtain⟨k1,k2,k3⟩:=List.findIdx?_eq_some_iff_getElem.mp e;have ez:=Ik k2
      rw[An (by rw[<-ez];exact Bx _)]
      fail "g";refine KO u (by rw[Aa k1,ez]) (λi y hi hy e2=>?_) (R _ (Z_.refl _))
      obtain⟨i1,i2⟩:=Ad.mp hy;have:=k3 i hi
      rw[i2,e2]at this;simp at this
   .rw[Ab,dM (VP d)]at U;exact q D3 c1 (none_of (O.trans t) b9) (O.trans (t.trans a1)) U
inductive kZ(C:Addr)(g:List V)(H:Hp)(Q:VK)(zz3:XK):Prop|mk(a b h e i k j m c f)(_:g=[.ref a])(_:H a=some (.ins C j (Y9 b m h e i k)))(_:Rd H e (.dK c))(_:Lk c f)(_:∀r d,H r=none->Z_ H d->d r=some (.dK (Zi (aR f) (bN (aR f) 27)))->Q (.ref r) d):kZ C g H Q zz3
def tR:Z9 ["self"] ["self"] (aJ iE):=by fail "sc"
def tM(F:ZT K "locker" "Tower.locker" iE f fd)(n:ZR P w K mg base 1 "plain_locker" ["locker"] dA):Z8 P w K mg base ZS 2 f fd ["self"] (kZ Z0):=by
 refine F.ok tR (λo H Q E h=>?_) (λz A d s H o Q E j h=>?_)
 .obtain⟨a,b,p,k,v,y,l,m,c,f,rfl,_⟩:=h;rfl
 obtain⟨a,b,p,k,v,y,l,m,c,f,rfl,x,i,u,q⟩:=h;refine⟨_,(@aI _ _ _ (aU (aT n j (by decide) rfl (aA (gI (mv 0) rfl) aB)))),?_⟩
 refine⟨a,Z0,l,_,_,rfl,x,G.Z7,G.na_Tower_stock,PJ,?_⟩;exact⟨k,c,f,rfl,i,u,λr B j t e=>q r B j t e⟩
inductive iP(C:Addr)(h:List V)(H:Hp)(Q:VK)(zz3:XK):Prop|mk(a b j i g l k m e f)(_:h=[.ref a])(_:H a=some (.ins C k (Y9 b m j i g l)))(_:Z4 H g=some e)(_:Z6 H e f)(_:e.length<=1000)(_:∀r c d,H r=none->Z_ H d->d r=some (.lst c)->Z6 d c f->(∀p,V.ref p∈c->H p=none)->Q (.ref r) d):iP C h H Q zz3
def pP:Z9 ["self"] ["self"] (aJ fU):=by fail "sc"
def qN(F:ZT K "halyards" "Tower.halyards" fU f fd):Z8 P w K mg base ZS 1 f fd ["self"] (iP Z0):=by
 refine F.ok pP (λj H Q E h=>?_) (λZ A k s H j Q E hr h=>?_)
 .obtain⟨a,b,L,C,T,Y,v,m,y,hs,rfl,_⟩:=h;rfl
 obtain⟨a,b,L,C,T,Y,v,m,y,hs,rfl,W,n,e,R,q⟩:=h;refine⟨_,(@aI _ _ _ (aU (cL rfl (bT (gI (mv 0) rfl)) (iL (N:=["hoist"]) (by decide +kernel) (by decide +kernel)) (by decide +kernel) rfl (by decide +kernel) (λ_ _ _ _=>(aZ (i:=0) (show List.Nodup (["hoist"]:List Str) by decide +kernel) rfl (Or.inl rfl))) (λ_ _ _ _=>cY) (λ_ _ _ _=>(pR (bB Vx (mv 0) dF (bA _)) dF (cA jB rfl G.b_list dX (aA (mv 0) aB))))))),?_⟩
 fail "g";refine⟨a,Z0,v,_,_,rfl,W,G.Z7,G.na_Tower_hung,Sa,?_⟩;fail "g";refine Pp (hs:=hs) n (bF (by (exact Nat.le_trans (by assumption) (by decide)))) e.len (λi x h Hc A B O S I u=>?_) (λD Hd j X J U d o=>?_)
 .have t:=(e.keep I).val i x h O S
  cases h with
  |none=>
   obtain rfl:x=V.non:=t;fail "g";refine⟨Wk.set rfl (Wk.refl _),?_⟩;fail "g";rw[show decide (V.non=V.non)=true from rfl];fail "g";exact u .non _ (Z_.refl _) rfl λp z=>nomatch z
  |some cs=>
   obtain⟨M,rfl,l⟩:=t;have rc:=aO l
   fail "g";refine⟨Wk.set rfl (Wk.refl _),?_⟩;fail "g";rw[show decide (V.ref M=V.non)=false from Aw (λz=>nomatch z)]
   fail "g";intro r c;exact u (.ref r) _ (aG c _) ⟨r,rfl,aD⟩ λp z=>by cases z;exact c
 .exact q D j Hd X J U d o
inductive gU(C:Addr)(f:List V)(H:Hp)(Q:VK)(zz3:XK):Prop|mk(a b h g i e j m d)(_:f=[.ref a])(_:H a=some (.ins C j (Y9 b m h g i e)))(_:H e=some (.lst d))(_:∀r c,H r=none->Z_ H c->c r=some (.lst d)->Q (.ref r) c):gU C f H Q zz3
def M_:Z9 ["self"] ["self"] (aJ mU):=by fail "sc"
def CB(F:ZT K "log" "Tower.log" mU f fd):Z8 P w K mg base ZS 1 f fd ["self"] (gU Z0):=by
 refine F.ok M_ (λk H Q E h=>?_) (λu A c s H k Q E d h=>?_)
 .obtain⟨a,b,n,l,o,t,i,m,j,rfl,_⟩:=h;rfl
 obtain⟨a,b,n,l,o,t,i,m,j,rfl,p,e,q⟩:=h;refine⟨_,(@aI _ _ _ (aU (cA jB rfl G.b_list dX (aA (gI (mv 0) rfl) aB)))),?_⟩
 refine⟨a,Z0,i,_,_,rfl,p,G.Z7,G.na_Tower_deeds,Ow,?_⟩;fail "g";intro r d;exact q r _ d (aG d _) aD
def IA(g:Nat->Int):bD (aR (bD g))=bD g:=funext λc=>by
 by_cases h:gX c/\0<g c
 .have e:aR (bD g) c=g c:=by unfold aR bD;rw[if_pos h];rfl
  show (if gX c/\0<aR _ c then some _ else none)=_
  rw[e];rfl
 .have e:aR (bD g) c=0:=by unfold aR bD;rw[if_neg h];rfl
  show (if gX c/\0<aR _ c then some _ else none)=(if gX c/\0<g c then some _ else none)
  simp_all
def TK(s:Z1 l H H')(n:y∉l)(h:Z4 H y=some ys):Z4 H' y=some ys:=by
 unfold Z4 at h ⊢;cases e:H y with
 |none=>rw[e]at h;cases h
 |some o=>rw[s _ _ n e];rwa[e]at h
def Zh.begun{m:Nat}{g:Nat->Int}(i:H x=some (.ins C dx (Y9 b m s0 st hg dd)))(c:m<=6)(n:W9 H b bk cws mss)(w:H s0=some (.dK (Zi g (bN g 27))))(u:H st=some (.dK (Zi g (bN g 27))))(h:H hg=some (.lst (List.replicate m V.non)))(l:H dd=some (.lst []))(e:hg≠dd)(f:b≠dd):Zh C H x b s0 st hg dd dx m bk cws mss (bD g) [] [] (List.replicate m none) (bD g):=
 ⟨i,⟨⟨_,h,by rw [Bz,Bz],λj v o a k=>by
     rw[Fz]at a k;split at a
     .rename_i r
      rw[if_pos r]at k;cases a;cases k;rfl
     .cases a⟩,(λy t=>by grind),⟨_,u,dQ _⟩,fD _⟩,Bz ..,c,n,⟨_,w,dQ _⟩,IA _,l,rfl,(λj p d q=>nomatch q),(λd s=>nomatch s),⟨rfl,rfl⟩,e,f⟩
inductive iA(C l:Addr)(s:List V)(H:Hp)(Q:VK)(zz3:XK):Prop|mk(x b u t v z w m q g a o p c n f)(_:s=[.ref x])(_:Zh C H x b u t v z w m q g a o p c n f)(_:a.Nodup)(_:c.length<=900)(_:cR l H)(_:∀y r j i d e k h,ZY l H h->cR l h->H y=none->H r=none->H d=none->H e=none->Zh C h y r j i d e k m q g a o p c n f->Q (.ref y) h):iA C l s H Q zz3
def Sq:Z9 ["self", "tower", "deed"] ["self"] (aJ iZ):=by fail "sc"
def vI(F:ZT K "again" "Tower.again" iZ f fd)(o6:Uh ZS P w K mg base 2 Z0 ["self", "book", "locker", "many"] (gA Z0))(z7:qP ZS P w K mg base 1 Z0 "log" ["self"] (gU Z0))(o7:qP (Y_ P w) P w K mg base 15 Z0 "do" ["self", "deed"] (mJ Z0 Zs Zt Zw Zy Pt)):Z8 P w K mg base ZS 17 f fd ["self"] (iA Z0 Pt):=by
 refine F.ok Sq (λvs H Q E h=>?_) (λd8 A a8 s H vs Q E R h=>?_)
 .obtain⟨x,b,s0,st,hg,dd,dx,m,bk,I,D,Z,ds,Y,hs,f,rfl,_⟩:=h;rfl
 obtain⟨x,b,s0,st,hg,dd,dx,m,bk,I,D,Z,ds,Y,hs,f,rfl,a,nd,d7,a2,q⟩:=h;refine⟨_,(@aE _ _ _ _ _ (aP 1 Sq.nd (OI o6 R (by decide) rfl G.c_Tower (aA (gI (mv 0) rfl) (aA (gI (mv 0) rfl) (aA (gI (mv 0) rfl) aB))))) (@aE _ _ _ _ _ (cV Bs rfl (bT (iS z7 G.Z7 R (by decide) (mv 0))) (aZ (i:=2) Sq.nd rfl (Or.inl rfl)) (@aI _ _ _ (bU (IJ o7 G.Z7 qW R (by decide) (mv 1) (aA (mv 2) aB))))) (@aI _ _ _ (aU (mv 1))))),?_⟩
 obtain⟨b5,k1,k2⟩:=a.Sh;obtain⟨qs,b1,b2,b3⟩:=a.Yy.Vb;have hL:=S5 a.Yy.ms a.Yy.le
 fail "g";refine⟨x,Z0,dx,_,_,rfl,a.ins,G.Z7,G.na_Tower_book,RX,?_⟩;fail "g";refine⟨x,Z0,dx,_,_,rfl,a.ins,G.Z7,G.na_Tower_stock_at_first,Mo,?_⟩;fail "g";refine⟨x,Z0,dx,_,_,rfl,a.ins,G.Z7,G.na_Tower_many,FG,?_⟩;fail "g";intro y S hy c7 b8;have l:=(aG c7 (.own y)).trans (aG (show (upd H S (.own y)) y=none by rwa[aH (Ne.symm b8)]) (.ins Z0 S []))
 refine⟨y,b,s0,S,qs.map V.ref,b5,Z,m,rfl,aD,aO (l _ _ b1),.inl (l _ _ k1),k2,a.six,λb' M a1 O k H4 d1 b9 c8 d4 a9 b4 sE x4 e4 d3 d2 h4 f4=>⟨rfl,?_⟩⟩;have C:Z_ H H4:=λp o e=>sE p o (λz=>by rw[Aj.mp z,hy]at e;cases e) (l _ _ e)
 have c9:=none_of l d1
 have c6:=none_of l b9
 have X:=none_of l c8
 have ty:Zh Z0 H4 y b' M a1 O k S m bk I D Z [] [] (List.replicate m none) Z:=by
  have:=Zh.begun x4 a.six (show W9 H4 b' bk I D from⟨⟨qs,e4,b2,λj p c hp hc=>C _ _ (b3 j p c hp hc)⟩,a.Yy.cw,a.Yy.le,a.Yy.ms⟩) d3 d2 h4 f4 a9 b4
  rwa[a.Sx]at this
 fail "g";refine⟨x,dx,_,rfl,C _ _ a.ins,sG,?_⟩;fail "g";refine⟨x,b,s0,st,hg,dd,dx,m,_,rfl,C _ _ a.ins,C _ _ a.log,λr H5 R s5 e5=>?_⟩;have L:=C.trans s5
 have a5:=ty.keep s5
 have l5:=a2.keep L
 have rr:=aO e5
 have nr:=XD (λz=>by rw[z,x4]at R;cases R) (λz=>by rw[z,f4]at R;cases R) (dR l5 e5 λ_=>nofun)
 fail "g";refine fX (xs:=Y.map V.ref) (λi U H'=>∃u d N f1 v2,U=[some (.ref x),some (.ref y),v2]/\Z1 [y,k,Pt] H5 H'/\cR Pt H'/\(d=O\/H5 d=none)/\Zh Z0 H' y b' M u d k S m bk I D Z (ds.take i) (Y.take i) N f1)
  ⟨a1,O,_,_,_,rfl,λ_ _ _ e=>e,l5,.inl rfl,a5⟩ (λi U H' _ ⟨_,_,_,_,_,_,sE,_⟩=>TK sE nr rr) ?_ ?_
 .rintro i v U H6 hv ⟨u,d,N,f1,v2,rfl,B,l6,T,J⟩;obtain⟨dp,W,rfl⟩:=UN hv;have a3:i<ds.length:=by rw[<-a.Ve];exact(Ad.mp W).1
  have hd:=Aa a3
  have t:=a.dat i dp _ W hd
  have a4:=B _ _ (XD (λz=>by rw[z,hy]at t;cases t) (λz=>by rw[z,X]at t;cases t) (dR a2 t λ_=>nofun)) (L _ _ t)
  obtain⟨h2,f2,d5,f',c1,c2,c3⟩:=a.ch.at hd;obtain⟨rfl,rfl⟩:=Chain.one hL nd J.ch c1;fail "g";refine⟨y,S,_,rfl,J.ins,Ob,?_⟩;fail "g";refine⟨y,b',M,u,d,k,S,dp,m,bk,I,D,Z,_,_,N,f1,ds[i],rfl,J,a4,a.RT _ (Bx a3),by rw[Bt];((try clear T a3 a9 b2 b4 b8);omega),l6,λa6 c5 b6 f2 H7 a7 l7 c4 d6 t7=>?_,λb7=>(Dd.not hL nd c3 b7).elim⟩
  fail "g";refine⟨a6,c5,b6,f2,_,rfl,B.trans a7,l7,?_,?_⟩
  .rcases c4 with e|e
   .rwa[e]
   .exact .inr (B.none (XD (λz=>by rw[z,J.ins]at e;cases e) (λz=>by rw[z,J.log]at e;cases e) (λz=>by obtain⟨tb,et⟩:=l6.tb;rw[z,et]at e;cases e)) e)
  .rwa[Bd,hd,Bd,W]
 .rintro U H6 ⟨u,d,N,f1,v2,rfl,B,l6,T,J⟩;rw[Ab,Cg,Bg (by rw[a.Ve];exact Ah _)]at J
  obtain⟨rfl,rfl⟩:=Chain.one hL nd J.ch a.ch;fail "g";exact q y b' M u d k S H6 (λp o n e=>B p o (XD (λz=>by rw[z,hy]at e;cases e) (λz=>by rw[z,X]at e;cases e) n) (L _ _ e)) l6 hy c9 (T.elim (λe=>by rwa[e]) λe=>none_of L e) X J
def kG:Sp:=λa H Q _=>∃c k,a=[.int c,.int k]/\0<=k/\k<=1000/\∀n,0<=n->Q (.int n) H
def sL:Sp:=λc H Q _=>∃n m,c=[.int n,.int m]/\0<=n/\1<=m/\m<=7/\∀a b,Z_ H b->1<=a.length->(a.length:Int)<=m->(∀d∈a,aX d)->Q (.str (aV a)) b
def Jl:Z9 ["_law_cell", "_law_k"] ["_law_cell", "_law_k"] (aJ rP):=by fail "sc"
def Mb(F:ZT K "_law_mixed" "_law_mixed" rP f fd)(G:Gs K mg w Zs Zz Zt Zx Z0 Zu Zy Zv Zw):Z8 P w K mg base ZS 1 f fd ["_law_cell", "_law_k"] kG:=by
 refine F.ok Jl (λb H Q E h=>?_) (λd A a s H b Q E e h=>?_)
 .obtain⟨c,k,rfl,_⟩:=h;rfl
 obtain⟨c,k,rfl,j,i,q⟩:=h;refine⟨_,(@aI _ _ _ (aU (aQ dD (aQ lD (aQ bO (aQ bO (aQ bO (aQ dD (mv 0) aK) (aQ lD (aQ lD aK (mv 1)) (mv 1))) (mv 1)) aK) aK) aK))),?_⟩;fail "g";exact q _ (Cy _ (by decide))
def wE:Z9 ["_law_number", "_law_most", "_law_letters", "_law_kinds", "_law_base", "_law_word_here", "_law_k"] ["_law_number", "_law_most"] (aJ xF):=by fail "sc"
def HE(F:ZT K "_law_word" "_law_word" xF f fd):Z8 P w K mg base ZS 1 f fd ["_law_number", "_law_most"] sL:=by
 refine F.ok wE (λL H Q E h=>?_) (λX A e s H L Q E hr h=>?_)
 .obtain⟨n,m,rfl,_⟩:=h;rfl
 obtain⟨n,m,rfl,W,R,O,q⟩:=h;refine⟨_,(@aE _ _ _ _ _ (aP 2 wE.nd fN) (@aE _ _ _ _ _ (aP 3 wE.nd (@bI _ _ _ _ _ _ _ bZ (@bQ _ _ _ _ (aA aK (aA aK (aA aK (aA aK aB))))) (aQ dD (mv 0) aK) (λ_ _=>rfl))) (@aE _ _ _ _ _ (aP 4 wE.nd (aQ dD (aQ fS (mv 0) aK) aK)) (@aE _ _ _ _ _ (aP 5 wE.nd fN) (@aE _ _ _ _ _ (cV Bs rfl (nF rfl G.b_range (aA (aQ bO aK (aQ dD (aQ fS (mv 0) aK) (mv 1))) aB)) (aZ (i:=6) wE.nd rfl (Or.inl rfl)) (@aE _ _ _ _ _ (aP 0 wE.nd (aQ dD (aQ lD (aQ bO (aQ bO (mv 0) (mv 6)) aK) aK) aK)) (@aI _ _ _ (aP 5 wE.nd (aQ bO (mv 5) (bI bZ (mv 2) (aQ dD (aQ bO (mv 4) (aQ lD (aQ dD (aQ fS (mv 0) aK) (mv 3)) aK)) aK) (λ_ _=>rfl))))))) (@aI _ _ _ (aU (mv 5)))))))),?_⟩;fail "g";refine⟨by decide,λp N=>?_⟩
 fail "g";obtain⟨b,c,t⟩:=OU (ns:=[1,2,3,23]) (i:=n%4) (by (exact Int.emod_nonneg _ (by decide))) (by show n%4<4;(exact Int.emod_lt_of_pos _ (by decide)))
 have hk:=(by decide:∀x∈([1,2,3,23]:List Int),1<=x) b c
 have S:=(by decide:∀x∈([1,2,3,23]:List Int),x<=23) b c
 refine dG (xs:=([1,2,3,23]:List Int).map V.int) cE t ?_;have J:=Cy (n / 92) (show m≠0 by ((try clear S W hk);omega))
 have I:=Df (n / 92) (show 0<m by (assumption))
 fail "g";generalize n / 92%m=l at J I ⊢;refine⟨⟨by ((try clear I O R S W hk);omega),by ((try clear J S W hk);omega)⟩,?_⟩
 have B:Z_ H (upd H p (.lst [V.int 1,V.int 2,V.int 3,V.int 23])):=aG N _
 generalize upd H p (.lst [V.int 1,V.int 2,V.int 3,V.int 23])=Y at B ⊢;refine vQ (λi U u=>∃x a v,U=[some (.int x),some (.int m),some (.str "abcdefghijklmnopqrstuvw"),some (.int b),some (.int (n / 4%23)),some (.str (aV a)),v]/\0<=x/\a.length=i/\(∀d∈a,aX d)/\u=Y)
  ⟨n,[],none,rfl,W,rfl,(λd o=>nomatch o),rfl⟩ ?_ ?_
 .rintro i U u hi ⟨x,a,v,rfl,j,C,r,rfl⟩;have M:(aV a).length=a.length:=cT a
  fail "g";generalize (x+(0+(i:Int))+1)*69621%2147483647 / 7%b*5=y;have y0:=Cy (n / 4%23+y) (show (23:Int)≠0 by decide)
  have Z:=Df (n / 4%23+y) (show (0:Int)<23 by decide)
  have D:=Iw (k:=((n / 4%23+y)%23).toNat) (by ((try clear C I J M O R S W Z hi hk j);omega))
  rw[show ((((n / 4%23+y)%23).toNat:Nat):Int)=(n / 4%23+y)%23 by ((try clear C I J M O R S W Z hi hk j);omega)]at D
  refine wI (by decide) D ?_
  have T:(⟨#[97+((n / 4%23+y)%23).toNat]⟩:Str).length=1:=rfl
  fail "g";refine⟨(x+(0+(i:Int))+1)*69621%2147483647,a++[97+((n / 4%23+y)%23).toNat],some (.int (0+(i:Int))),?_,Cy _ (show (2147483647:Int)≠0 by decide),by rw[Af,C];rfl,λd o=>?_,rfl⟩
  .rw[<-jY];rfl
  .rcases Bi.mp o with z|z
   .exact r d z
   .rw[Aj.mp z];exact⟨by ((try clear C I J M O R S T W Z hi hk j);omega),by ((try clear C I J M O R S T W Z hi hk j);omega)⟩
 .rintro U u ⟨x,a,v,rfl,j,C,r,rfl⟩;fail "g";exact q a _ B (by ((try clear I O R S W hk j);omega)) (by ((try clear O R S W hk j);omega)) r
def qT(K:W.Frag):Sp:=λb H Q _=>∃(a:Addr) (c:List Int) (k:Int),b=[.ref a,.int k]/\Zm K H a (c.map V.int)/\0<=k/\∀n,Q (.int n) H
def Ma:Z9 ["_law_script", "_law_k"] ["_law_script", "_law_k"] (aJ lZ):=by fail "sc"
def JN(F:ZT K "_law_cell_at" "_law_cell_at" lZ f fd):Z8 P w K mg base ZS 1 f fd ["_law_script", "_law_k"] (qT K):=by
 refine F.ok Ma (λl H Q E h=>?_) (λo A b s H l Q E r h=>?_)
 .obtain⟨a,ns,k,rfl,_⟩:=h;rfl
 obtain⟨a,ns,k,rfl,j,m,q⟩:=h;refine⟨_,(@aE _ _ _ _ _ (cD (bB yI (mv 1) (aW G1 rfl G.b_len bP (aA (mv 0) aB)) (bA _)) (@aI _ _ _ (aU (bI XF (mv 0) (mv 1) (λ_ _=>rfl)))) bE) (@aI _ _ _ (aU aK))),?_⟩;refine⟨_,_,rfl,.inl j,?_⟩;have c:(ns.map V.int).length=ns.length:=Ab ..
 rw[c];refine dW (λe=>?_) (λe=>?_)
 .have d:=Az e
  obtain⟨n,_,p⟩:=OU (ns:=ns) (i:=k) m d;exact Lg j p (q n)
 exact q 0
def kN:Sp:=λc H Q _=>∃a,c=[.str (aV a)]/\1<=a.length/\a.length<=6/\(∀d∈a,aX d)/\∀b,Z_ H b->aX (YU a)->gS (a++[YU a])=true->Q (.str (aV (a++[YU a]))) b
def LZ:jW (cs++[d]) (cs++[d]).length=jW cs cs.length+((1+cs.length:Nat):Int)*((d-97:Nat):Int):=by
 rw[Af,show [d].length=1 from rfl,jU,oO (ds:=cs) (λi a=>by rw[Ac,Am a,<-Ac])]
 simp_all
noncomputable def Kz:Bool:=(List.range 23).all λi=>Txt.find Z5 ⟨#[97+i]⟩ == (i:Int)
def JI:Kz=true:=by decide +kernel
def Qv(h:aX d):Txt.find Z5 (one d)=((d-97:Nat):Int):=by
 unfold aX at h;have a:=Ca.mp JI (d-97) (Bu.mpr (by omega))
 simp_all
noncomputable def E7:Bool:=(List.range 23).all λi=>(Str.ofString "abcdefghijklmnopqrstuvw").cps.toList[i]? == some (97+i)
def BM:E7=true:=by decide +kernel
def BA(h:i<23)(e:(Str.ofString "abcdefghijklmnopqrstuvw").cps.toList[i]?=some c):c=97+i:=by
 have a:=Ik (Ca.mp BM i (Bu.mpr h))
 simp_all
def j6:Z9 ["_law_word_here", "_law_letters", "_law_total", "_law_letter"] ["_law_word_here"] (aJ iR):=by fail "sc"
def HY(F:ZT K "_law_checked" "_law_checked" iR f fd):Z8 P w K mg base ZS 1 f fd ["_law_word_here"] kN:=by
 refine F.ok j6 (λM H Q E h=>?_) (λZ A u s H M Q E hr h=>?_)
 .obtain⟨cs,rfl,_⟩:=h;rfl
 obtain⟨cs,rfl,h1,L,p,q⟩:=h;refine⟨_,(@aE _ _ _ _ _ (aP 1 j6.nd fN) (@aE _ _ _ _ _ (aP 2 j6.nd (aW (TQ rfl) rfl G.b_sum Tx (aA (cL rfl (nF rfl G.b_range (aA (aW cN rfl G.b_len bP (aA (mv 0) aB)) aB)) (gF (N:=["_law_k", "_law_letters", "_law_word_here"]) ["_law_word_here", "_law_letters", "_law_total", "_law_letter"] (aJ iR) [none,some 1,some 0] rfl rfl rfl (λx h=>bX h) (by decide +kernel)) (by decide +kernel) rfl (by decide +kernel) (λ_ _ _ _=>(aZ (i:=0) (show List.Nodup (["_law_k", "_law_letters", "_law_word_here"]:List Str) by decide +kernel) rfl (Or.inl rfl))) (λ_ _ _ _=>cY) (λ_ _ _ _=>(aQ lD (aQ bO (mv 0) aK) (cI Dx PySem.F.slot_str_find PySem.F.type_str_find NW (mv 1) (aA (bI bZ (mv 2) (mv 0) (λ_ _=>rfl)) aB))))) aB))) (@aE _ _ _ _ _ (cV Bs rfl (lV (mv 1)) (aZ (i:=3) j6.nd rfl (Or.inl rfl)) (@aI _ _ _ (cD (bB lC (aQ dD (aQ bO (mv 2) (aQ lD (aQ bO (aW cN rfl G.b_len bP (aA (mv 0) aB)) aK) (cI Dx PySem.F.slot_str_find PySem.F.type_str_find NW (mv 1) (aA (mv 3) aB)))) aK) aK (bA _)) (@aI _ _ _ (aU (aQ bO (mv 0) (mv 3)))) bE))) (@aI _ _ _ (aU (mv 0)))))),?_⟩
 have e:=cT cs
 fail "g";rw[e];refine⟨⟨by (exact Int.natCast_nonneg _),by omega⟩,?_⟩
 rw[show ((cs.length:Int)).toNat=cs.length from rfl];refine Ms (λi=>some (V.int (Xg cs i))) (bF (by (exact Nat.le_trans (by assumption) (by decide)))) (λi Hc A B J sm W=>?_) (λD C hD O T=>?_)
 .have S:=lO p J
  have r:=W _ (Z_.refl _)
  fail "g";refine⟨Wk.set rfl (Wk.refl _),?_⟩;fail "g";refine wI (by rw[e];exact bK (by (exact Nat.le_trans (by assumption) (by decide)))) (SN (k:=i) (by ((try clear J L e h1);omega)) J) ?_
  fail "g";refine QX ?_;rw[show (⟨#[cs.getD i 0]⟩:Str)=one (cs.getD i 0) from rfl];rw[show Txt.find "abcdefghijklmnopqrstuvw" (one (cs.getD i 0))=((cs.getD i 0-97:Nat):Int) from Qv S];fail "g";rw[show (0+(i:Int)+1)*((cs.getD i 0-97:Nat):Int)=Xg cs i by unfold Xg;rw[show ((1+i:Nat):Int)=0+(i:Int)+1 by ((try clear J L e h1);omega)]]
  exact r
 .have y:C D=some (.lst (((List.range cs.length).map (Xg cs)).map V.int)):=by
   rw[T,Ce];congr 2
   exact List.filterMap_eq_map (f:=λi=>V.int (Xg cs i))▸rfl
  fail "g";refine O4 (aO y) (QS (by (exact Nat.le_trans (by assumption) (by decide))) p) (by rw[Ab,Bf];(exact Nat.le_trans (by assumption) (by decide))) ?_
  rw[show ((List.range cs.length).map (Xg cs)).sum=jW cs cs.length from rfl];obtain⟨d,b,a⟩:=wQ (cs:=cs++[97]) (by rw[Af];show _+1<=_;(exact Nat.lt_of_le_of_lt (by assumption) (by decide))) (k:=cs.length) (by rw[Af];show _<_+1;((try clear L e h1);omega))
  rw[lL]at a;have Y:=Tb L p b a
  rw[Y]at q;have R:=q C O b a
  have v:=b
  unfold aX at v;fail "g";refine R6 (λi U I=>∃t,U=[some (.str (aV cs)),some (.str "abcdefghijklmnopqrstuvw"),some (.int (jW cs cs.length)),t]/\I=C/\i<=d-97) ⟨_,rfl,rfl,Da _⟩ ?_ ?_
  .rintro i c U I j ⟨t,rfl,rfl,l⟩;have n:i<23:=by have:=(Ad.mp j).1;exact this
   have z:=BA n j
   subst z;have m:aX (97+i):=⟨by ((try clear L Y e h1 l v);omega),by ((try clear L Y e h1 l v);omega)⟩
   have r:=zB L p b a m
   unfold gS at r;rw[LZ,show 97+i-97=i by ((try clear L Y e h1 l v);omega)]at r
   fail "g";rw[e];refine QX ?_;rw[show Txt.find "abcdefghijklmnopqrstuvw" ⟨#[97+i]⟩=((97+i-97:Nat):Int) from Qv m,show 97+i-97=i by ((try clear L Y e h1 l v);omega)]
   fail "g";rw[show ((1+cs.length:Nat):Int)=(cs.length:Int)+1 by ((try clear L Y e h1 l n v);omega)]at r
   rw[r];refine dW (λj=>?_) (λj=>?_)
   .have o:=Az j
    have X:(⟨#[97+i]⟩:Str).length=1:=rfl
    fail "g";rw[show aV cs++⟨#[97+i]⟩=aV (cs++[97+i]) from jY cs (97+i),o];exact R
   .have o:=Bp (Bq.mpr j)
    fail "g";exact⟨_,rfl,rfl,by ((try clear L Y e h1 n);omega)⟩
  .rintro U I ⟨t,rfl,rfl,l⟩;exact absurd (show 23<=d-97 from l) (by ((try clear L Y e h1 l);omega))
def UB(z:Str):Prop:=∃a,z=cF a/\1<=a.length/\a.length<=5/\∀t∈a,fF t
def SR(a:List (Str×Str)):Prop:=∀b∈a,UB b.2
def Pg:∀z∈(["sail", "fog", "wind", "calm", "x"]:List Str),fF z.cps.toList:=by
 unfold fF Uk;decide +kernel
def O1(h:∃t,z=aV t/\fF t):UB z:=by
 obtain⟨t,rfl,b⟩:=h;refine⟨[t],?_,by show 1<=1;decide,by show 1<=5;decide,λu a=>by simp_all⟩
 rfl
def ML{y:Str}(h:∃t,y=aV t/\fF t)(g:∃t,z=aV t/\fF t):UB (y++Str.ofString " " ++ z):=by
 obtain⟨t,rfl,c⟩:=h;obtain⟨u,rfl,b⟩:=g;refine⟨[t,u],?_,by show 1<=2;decide,by show 2<=5;decide,λv a=>?_⟩
 .rw[show [t,u]=[t]++[u] from rfl,zA (by simp) (by simp)]
  rw[show cF [t]=aV t from by unfold cF;rw[show Txt.join _ _=Str.join _ _ from Eg _ _];rfl,show cF [u]=aV u from by unfold cF;rw[show Txt.join _ _=Str.join _ _ from Eg _ _];rfl]
 grind
def EY:SR [(Str.ofString "ab",Str.ofString "sail")]:=λb a=>by
 rw[Aj.mp a];exact O1 ⟨(Str.ofString "sail").cps.toList,FlT.YQ (by rw[cQ]),Pg _ (Ak ..)⟩
def Mf(a:tE bk cws)(f:cws.Nodup)(h:bk.length<=60)(m:(bk.map (·.2)).Nodup)(l:SR bk):XW bk:=by
 have c:bk.map (·.1)=cws.map aV:=by
  refine Ib (by rw[Ab,Ab,a.1]) λj i g=>?_
  rw[Ab]at i g;rw[En,En];exact(a.2 j _ _ (Aa i) (Aa g)).1
 refine⟨h,?_,m,λb o=>?_,l⟩
 .rw[c];exact List.pairwise_map.mpr (f.imp λd e=>d (Ry e))
 .obtain⟨j,k⟩:=Gi.mp o;have n:=(Ad.mp k).1
  exact⟨_,a.2 j b _ k (Aa (by rwa[a.1]))⟩
def QT{ss:List Str}{i:Int}(c:0<=i)(b:i<(ss.length:Int)):∃z,z∈ss/\YV (ss.map V.str) i=some (.str z):=by
 obtain⟨k,rfl⟩:∃k:Nat,i=(k:Int):=⟨i.toNat,by ((try clear b);omega)⟩
 have a:k<ss.length:=by ((try clear c);omega)
 exact⟨ss[k],Bx _,aY (by simp_all)⟩
def Py:Sp:=λf H Q _=>∃(a:Addr) (e:List Int),f=[.ref a]/\Z4 H a=some (e.map V.int)/\e.length<=7/\
 ∀r c (b:Q6) d,H r=none->Z_ H d->ZE d r c->tE c b->b.Nodup->1<=c.length->c.length<=8->XW c->Q (.ref r) d
def wP:Z9 ["_law_cells", "_law_terms", "_law_book_here", "_law_k", "_law_cell", "_law_number", "_law_word_here", "_law_meaning"] ["_law_cells"] (aJ vA):=by fail "sc"
def DO(F:ZT K "_law_book" "_law_book" vA f fd)(z8:ZR P w K mg base 1 "_law_mixed" ["_law_cell", "_law_k"] kG)(o8:ZR P w K mg base 1 "_law_word" ["_law_number", "_law_most"] sL):Z8 P w K mg base ZS 2 f fd ["_law_cells"] Py:=by
 refine F.ok wP (λvs H Q E h=>?_) (λcdv A outer s H vs Q E hr h=>?_)
 .obtain⟨a,ns,rfl,_⟩:=h;rfl
 obtain⟨a,ns,rfl,hns,h7,q⟩:=h;refine⟨_,(@aE _ _ _ _ _ (aP 1 wP.nd (@bQ _ _ _ _ (@cG _ _ _ _ _ _ (@cG _ _ _ _ _ _ (@cG _ _ _ _ _ _ (@cG _ _ _ _ _ _ (@cG _ _ _ _ _ _ aB))))))) (@aE _ _ _ _ _ (aP 2 wP.nd (bQ (aA (cU (@cG _ _ _ _ _ _ (@cG _ _ _ _ _ _ aB))) aB))) (@aE _ _ _ _ _ (cV Bs rfl (mW rfl G.b_enumerate (aA (mv 0) aB)) (eT (K:=K) (i:=3) (j:=4) (by rfl) (by rfl) wP.nd (by rfl) (by exact(Or.inl rfl)) (by exact Or.inl rfl) (by rfl) (by exact(Or.inl rfl)) (by exact Or.inl rfl)) (@aE _ _ _ _ _ (aP 5 wP.nd (aT z8 hr (by decide) rfl (aA (mv 4) (aA (mv 3) aB)))) (@aE _ _ _ _ _ (aP 6 wP.nd (aT o8 hr (by decide) rfl (aA (mv 5) (aA aK aB)))) (@aE _ _ _ _ _ (aP 7 wP.nd (bI bZ (mv 1) (aQ dD (aQ fS (mv 5) aK) aK) (λ_ _=>rfl))) (@aE _ _ _ _ _ (cD (bB lC (aQ dD (aQ fS (mv 5) aK) aK) aK (bA _)) (@aI _ _ _ (aP 7 wP.nd (aQ bO (aQ bO (mv 7) fN) (bI bZ (mv 1) (aQ dD (aQ fS (mv 5) aK) aK) (λ_ _=>rfl))))) bE) (@aI _ _ _ (cD (PW.pt (UQ (bB Qr (mv 6) (cL rfl (bT (mv 2)) (iL (N:=["_law_page"]) (by decide +kernel) (by decide +kernel)) (by decide +kernel) rfl (by decide +kernel) (λ_ _ _ _=>(aZ (i:=0) (show List.Nodup (["_law_page"]:List Str) by decide +kernel) rfl (Or.inl rfl))) (λ_ _ _ _=>cY) (λ_ _ _ _=>(bI bZ (mv 0) aK (λ_ _=>rfl)))) (by rfl)) (uD (bB Qr (mv 7) (cL rfl (bT (mv 2)) (iL (N:=["_law_page"]) (by decide +kernel) (by decide +kernel)) (by decide +kernel) rfl (by decide +kernel) (λ_ _ _ _=>(aZ (i:=0) (show List.Nodup (["_law_page"]:List Str) by decide +kernel) rfl (Or.inl rfl))) (λ_ _ _ _=>cY) (λ_ _ _ _=>(bI bZ (mv 0) aK (λ_ _=>rfl)))) (by rfl))))) (@aI _ _ _ (bU (cI Bj Di Dj wR (mv 2) (aA (cU (aA (mv 6) (aA (mv 7) aB))) aB)))) bE))))))) (@aI _ _ _ (aU (mv 2)))))),?_⟩
 fail "g";refine⟨by show 5<=sizeLine;decide,λrt hrt=>?_⟩
 have k1:=aG hrt (.lst ((["sail", "fog", "wind", "calm", "x"]:List Str).map V.str))
 have e1:Z4 (upd H rt (.lst ((["sail", "fog", "wind", "calm", "x"]:List Str).map V.str))) rt=some ((["sail", "fog", "wind", "calm", "x"]:List Str).map V.str):=cE
 change lG 1 (V.ref rt) _ (upd H rt (.lst ((["sail", "fog", "wind", "calm", "x"]:List Str).map V.str))) _
 have htl:(["sail", "fog", "wind", "calm", "x"]:List Str).length=5:=rfl
 have hts:∀z∈(["sail", "fog", "wind", "calm", "x"]:List Str),z.length<=10:=by decide +kernel
 have htT:∀z∈(["sail", "fog", "wind", "calm", "x"]:List Str),∃t,z=aV t/\fF t:=λz hz=>⟨z.cps.toList,FlT.YQ (by rw[cQ]),Pg z hz⟩
 generalize (["sail", "fog", "wind", "calm", "x"]:List Str)=ts at k1 e1 htl hts htT ⊢;generalize upd H rt (.lst (ts.map V.str))=H1 at k1 e1 ⊢;fail "g";refine⟨r0,λp2 hp2=>?_⟩
 have k2:=aG hp2 (.tup [V.str (Str.ofString "ab"),V.str (Str.ofString "sail")])
 have t2:(upd H1 p2 (.tup [V.str (Str.ofString "ab"),V.str (Str.ofString "sail")])) p2=some (.tup [V.str (Str.ofString "ab"),V.str (Str.ofString "sail")]):=aD
 generalize upd H1 p2 (.tup [V.str (Str.ofString "ab"),V.str (Str.ofString "sail")])=H2 at k2 t2 ⊢;fail "g";refine⟨z0,λrb hrb=>?_⟩
 have nrt:rt≠rb:=λz=>by
  have:=aM k2 e1
  rw[z]at this;unfold Z4 at this;rw[hrb]at this;cases this
 have k3:=aG hrb (.lst [V.ref p2])
 have e3:ZE (upd H2 rb (.lst [V.ref p2])) rb [(Str.ofString "ab",Str.ofString "sail")]:=⟨[p2],aD,rfl,λj p b hp hb=>by
  match j,hp,hb with
  |0,hp,hb=>cases hp;cases hb;exact k3 _ _ t2
  |j+1,hp,_=>cases hp⟩
 have s03:=k1.trans (k2.trans k3)
 have hrbH:H rb=none:=none_of (k1.trans k2) hrb
 have et3:=aM (k2.trans k3) e1
 generalize upd H2 rb (.lst [V.ref p2])=H3 at k3 e3 s03 et3 ⊢;have hns3:=aM s03 hns
 fail "g";refine tX (xs:=ns.map V.int) (λi U H'=>∃bk cws v3 v4 v5 v6 v7,U=[some (.ref a),some (.ref rt),some (.ref rb),v3,v4,v5,v6,v7]/\Z_ H H'/\Z4 H' rt=some (ts.map V.str)/\ZE H' rb bk/\tE bk cws/\cws.Nodup/\1<=bk.length/\bk.length<=1+i/\(bk.map (·.2)).Nodup/\SR bk)
  ⟨_,[[97,98]],_,_,_,_,_,rfl,s03,et3,e3,⟨rfl,λj b cw hb hc=>by
   match j,hb,hc with
   |0,hb,hc=>cases hb;cases hc;exact⟨rfl,by decide,by decide,by unfold aX;decide⟩
   |j+1,hb,_=>cases hb⟩,by simp,Nat.le_refl _,Nat.le_refl _,by simp,EY⟩ (λi U H' _ ⟨_,_,_,_,_,_,_,_,e,_⟩=>aM e hns) ?_ ?_
 .rintro i x U H4 pe hx ⟨bk,cws,v3,v4,v5,v6,v7,rfl,s4,et4,hbk,hcw,Yh,hb1,hbl,hmn,hmo⟩ hpe;have hi:i<7:=by have:=(Ad.mp hx).1;rw[Ab]at this;((try clear hb1 hbl htl nrt);omega)
  obtain⟨c,_,rfl⟩:=CZ hx;have k5:=aG hpe (.tup [V.int ((0+i:Nat):Int),V.int c])
  have te5:(upd H4 pe (.tup [V.int ((0+i:Nat):Int),V.int c])) pe=some (.tup [V.int ((0+i:Nat):Int),V.int c]):=aD
  have s5:=s4.trans k5
  have et5:=aM k5 et4
  obtain⟨qs,b1,b2,b3⟩:=id hbk;generalize upd H4 pe (.tup [V.int ((0+i:Nat):Int),V.int c])=H5 at k5 te5 s5 et5 ⊢;have tt5:=cX te5
  fail "g";refine⟨c,_,rfl,by (exact Int.natCast_nonneg _),by ((try clear b2 h7 hb1 hbl htl nrt);omega),λN hN=>?_⟩
  fail "g";refine⟨N,6,rfl,hN,by decide,by decide,λcw H6 s6 hc1 hc6 hcL=>?_⟩
  have y0:=Cy (N / 5) (show (5:Int)≠0 by decide)
  have y1:=Df (N / 5) (show (0:Int)<5 by decide)
  have et6:=aM s6 et5
  fail "g";obtain⟨z1,hz1,az1⟩:=QT (ss:=ts) y0 (by rw[htl];exact y1)
  have hzl:=hts z1 hz1
  refine dG et6 az1 ?_;have s06:=s5.trans s6
  have hbk6:ZE H6 rb bk:=⟨qs,(k5.trans s6) _ _ b1,b2,λj p b hp hb=>(k5.trans s6) _ _ (b3 j p b hp hb)⟩
  fail "u"
  with_reducible refine Ud (λU' H'=>∃z:Str,U'=[some (.ref a),some (.ref rt),some (.ref rb),some (.int ((0+i:Nat):Int)),some (.int c),some (.int N),some (.str (aV cw)),some (.str z)]/\z.length<=30/\H'=H6/\UB z) (λU' H' j7=>?_) (λM hM=>?_)
  .obtain⟨z,rfl,hz,rfl,hmz⟩:=j7;obtain⟨qs',c1,c2,c3⟩:=id hbk6;have rq:=aO c1
   have hql:(qs'.map V.ref).length=bk.length:=by rw[Ab,c2]
   have words:bk.map (·.1)=cws.map aV:=by
    refine Ib (by rw[Ab,Ab,hcw.1]) λj j1 j2=>?_
    rw[Ab]at j1 j2;rw[En,En];exact(hcw.2 j _ _ (Aa j1) (Aa j2)).1
   fail "g";refine gG (xs:=qs'.map V.ref) (λj=>(bk[j]?).map λb=>V.str b.1) rq (by rw[hql];exact bF (by ((try clear h7 hN hb1 hc1 hc6 htl hz hzl nrt y0 y1);omega))) (λj x Hc A B hx sm hA hB=>?_) (λD Hd hD sD hd=>?_)
   .rw[Ag]at hx;obtain⟨p,ep,rfl⟩:=Cd.mp hx;have hjb:j<bk.length:=by rw[<-c2];exact(Ad.mp ep).1
    have eb:=Aa hjb
    have tp:=sm _ _ (c3 j p _ ep eb)
    fail "g";refine⟨Wk.set rfl (Wk.refl _),?_⟩;fail "g";exact cH tp (v:=.str bk[j].1) (aY (j:=0) rfl) (hA _ (by rw[eb];rfl) _ (Z_.refl _))
   rw[hql,dM (λb:Str×Str=>V.str b.1),show bk.map (λb=>V.str b.1)=(bk.map (·.1)).map V.str by rw[Ce];rfl]at hd
   refine Us (neg:=true) (aO hd) rfl (dB _) ?_;rw[if_pos rfl,So];have keep:∀H9,Z_ H' H9->Z4 H9 rt=some (ts.map V.str)/\ZE H9 rb bk:=λH9 k=>⟨aM k et6,⟨qs',k _ _ c1,c2,λj p b hp hb=>k _ _ (c3 j p b hp hb)⟩⟩
   by_cases hw:aV cw∈bk.map (·.1)
   .rw[An hw];fail "g";exact⟨bk,cws,_,_,_,_,_,rfl,s06.trans sD,(keep _ sD).1,(keep _ sD).2,hcw,Yh,hb1,by ((try clear h7 hN hb1 hc1 hc6 hi htl hz hzl nrt y0 y1);omega),hmn,hmo⟩
   .rw[Aw hw];have rqD:=aM sD rq
    fail "g";refine gG (xs:=qs'.map V.ref) (λj=>(bk[j]?).map λb=>V.str b.2) rqD (by rw[hql];exact bF (by ((try clear h7 hN hb1 hc1 hc6 htl hz hzl nrt y0 y1);omega))) (λj x Hc A B hx sm hA hB=>?_) (λD2 Hd2 hD2 sD2 hd2=>?_)
    .rw[Ag]at hx;obtain⟨p,ep,rfl⟩:=Cd.mp hx;have hjb:j<bk.length:=by rw[<-c2];exact(Ad.mp ep).1
     have eb:=Aa hjb
     have tp:=sm _ _ (sD _ _ (c3 j p _ ep eb))
     fail "g";refine⟨Wk.set rfl (Wk.refl _),?_⟩;fail "g";exact cH tp (v:=.str bk[j].2) (aY (j:=1) rfl) (hA _ (by rw[eb];rfl) _ (Z_.refl _))
    rw[hql,dM (λb:Str×Str=>V.str b.2),show bk.map (λb=>V.str b.2)=(bk.map (·.2)).map V.str by rw[Ce];rfl]at hd2
    refine Us (neg:=true) (aO hd2) rfl (dB _) ?_;rw[if_pos rfl,So];have s62:=sD.trans sD2
    by_cases hm:z∈bk.map (·.2)
    .rw[An hm];fail "g";exact⟨bk,cws,_,_,_,_,_,rfl,s06.trans s62,(keep _ s62).1,(keep _ s62).2,hcw,Yh,hb1,by ((try clear h7 hN hb1 hc1 hc6 hi htl hz hzl nrt y0 y1);omega),hmn,hmo⟩
    .rw[Aw hm];have c1':=s62 _ _ c1
     fail "g";refine⟨r0,λpt hpt=>?_⟩
     have k8:=aG hpt (.tup [.str (aV cw),.str z])
     have t8:(upd Hd2 pt (.tup [.str (aV cw),.str z])) pt=some (.tup [.str (aV cw),.str z]):=aD
     have s68:=s62.trans k8
     have c18:=k8 _ _ c1'
     have et8:=(keep _ s68).1
     have c38:∀(j:Nat) p b,qs'[j]?=some p->bk[j]?=some b->(upd Hd2 pt (.tup [.str (aV cw),.str z])) p=some (.tup [.str b.1,.str b.2]):=λj p b hp hb=>s68 _ _ (c3 j p b hp hb)
     generalize upd Hd2 pt (.tup [.str (aV cw),.str z])=H8 at k8 t8 s68 c18 et8 c38 ⊢;have m8:=bM c18
     fail "g";have ne:∀p xs,H8 p=some (.tup xs)->p≠rb:=λp xs e z=>by rw[z,c18]at e;cases e
     refine⟨bk++[(aV cw,z)],cws++[cw],_,_,_,_,_,rfl,bL hrbH (s06.trans s68),?_,?_,?_,?_,by rw[Af];((try clear h7 hN hc1 hc6 htl hz hzl nrt y0 y1);omega),by rw[Af];show _+1<=_;((try clear h7 hN hb1 hc1 hc6 hi htl hz hzl nrt y0 y1);omega),?_,?_⟩
     .rw[Ta nrt];exact et8
     .refine⟨qs'++[pt],by rw[aD,Ap];rfl,by rw[Af,Af,c2];rfl,λj p b hp hb=>?_⟩
      rcases Nat.lt_or_ge j qs'.length with zz|zz
      .rw[Am zz]at hp;rw[Am (by ((try clear h7 hN hb1 hbl hc1 hc6 hi htl hz hzl nrt y0 y1);omega))]at hb
       have:=c38 j p b hp hb
       rw[aH (ne _ _ this)];exact this
      .rw[Aq zz]at hp;rw[Aq (by ((try clear h7 hN hb1 hbl hc1 hc6 hi htl hz hzl nrt y0 y1);omega))]at hb
       have w1:=(Ad.mp hp).1
       have eu:j-qs'.length=0:=by have:j-qs'.length<1:=w1;((try clear b2 c2 h7 hN hb1 hbl hc1 hc6 hi hql htl hz hzl nrt w1 y0 y1 zz);omega)
       have ev:j-bk.length=0:=by ((try clear h7 hN hb1 hbl hc1 hc6 hi htl hz hzl nrt w1 y0 y1);omega)
       rw[eu]at hp;rw[ev]at hb;cases hp;cases hb;rw[aH (ne _ _ t8)];exact t8
     .refine⟨by rw[Af,Af,hcw.1];rfl,λj b cw' hb hc=>?_⟩
      have hcl:=hcw.1
      rcases Nat.lt_or_ge j bk.length with zz|zz
      .rw[Am zz]at hb;rw[Am (by ((try clear h7 hN hb1 hbl hc1 hc6 hi htl hz hzl nrt y0 y1);omega))]at hc
       exact hcw.2 j b cw' hb hc
      .rw[Aq zz]at hb;rw[Aq (by ((try clear h7 hN hb1 hbl hc1 hc6 hi htl hz hzl nrt y0 y1);omega))]at hc
       have w1:=(Ad.mp hb).1
       have eu:j-bk.length=0:=by have:j-bk.length<1:=w1;((try clear b2 c2 h7 hN hb1 hbl hc1 hc6 hcl hi hql htl hz hzl nrt w1 y0 y1 zz);omega)
       have ev:j-cws.length=0:=by ((try clear h7 hN hb1 hbl hc1 hc6 hi htl hz hzl nrt w1 y0 y1);omega)
       rw[eu]at hb;rw[ev]at hc;cases hb;cases hc;exact⟨rfl,hc1,by ((try clear b2 c2 eu ev h7 hN hb1 hbl hcl hi hql htl hz hzl nrt w1 y0 y1 zz);omega),hcL⟩
     .rw[words]at hw;refine List.nodup_append.mpr ⟨Yh,by simp,λu hu v hv e=>?_⟩
      rw[Aj.mp hv]at e;exact hw (Ba.mpr ⟨u,hu,by rw[e]⟩)
     .rw[Ap];refine List.nodup_append.mpr ⟨hmn,by simp,λu hu v hv e=>?_⟩
      rw[Aj.mp hv]at e;rw[e]at hu;exact hm hu
     .intro b hb;rcases Bi.mp hb with zz|zz
      .exact hmo b zz
      .rw[Aj.mp zz];exact hmz
  .fail "g";refine dW (λhg=>?_) (λhg=>?_)
   .have w0:=Cy (N / 50) (show (5:Int)≠0 by decide)
    have w1:=Df (N / 50) (show (0:Int)<5 by decide)
    obtain⟨z2,hz2,az2⟩:=QT (ss:=ts) w0 (by rw[htl];exact w1)
    have hzl2:=hts z2 hz2
    have hsp:(Str.ofString " ").length=1:=rfl
    have hl1:(z1++Str.ofString " ").length=z1.length+1:=by rw[Gq];rfl
    fail "g";refine dG et6 az2 ?_;fail "g";exact hM _ _ ⟨_,rfl,by rw[Gq,hl1];((try clear b2 h7 hN hb1 hbl hc1 hc6 hi hsp htl nrt w0 w1 y0 y1);omega),rfl,ML (htT z1 hz1) (htT z2 hz2)⟩
   .fail "g";exact hM _ _ ⟨z1,rfl,by (exact Nat.le_trans (by assumption) (by decide)),rfl,O1 (htT z1 hz1)⟩
 .rintro U H4 ⟨bk,cws,v3,v4,v5,v6,v7,rfl,s4,et4,hbk,hcw,Yh,hb1,hbl,hmn,hmo⟩;rw[Ab]at hbl;fail "g";exact q rb bk cws H4 hrbH s4 hbk hcw Yh hb1 (by ((try clear hb1 htl nrt);omega)) (Mf hcw Yh (by ((try clear hb1 htl nrt);omega)) hmn hmo)
def xI:Sp:=λh H Q _=>∃c b e d,h=[.int c,.ref b]/\ZE H b e/\tE e d/\e.length<=8/\
 ∀p a f g,H p=none->Z_ H g->g p=some (.dK a)->Lk a f->(∀c,0<=aR f c/\aR f c<=9)->Q (.ref p) g
def o9:Z9 ["_law_cell", "_law_book_here", "_law_number", "_law_most", "_law_locker", "_law_flag"] ["_law_cell", "_law_book_here"] (aJ rF):=by fail "sc"
def GB(F:ZT K "_law_flags" "_law_flags" rF f fd)(G:Gs K mg w Zs Zz Zt Zx Z0 Zu Zy Zv Zw)(z8:ZR P w K mg base 1 "_law_mixed" ["_law_cell", "_law_k"] kG)(w8:ZR P w K mg base 1 "_law_checked" ["_law_word_here"] kN):Z8 P w K mg base ZS 2 f fd ["_law_cell", "_law_book_here"] xI:=by
 refine F.ok o9 (λvs H Q E h=>?_) (λb5 A a1 s H vs Q E hr h=>?_)
 .obtain⟨c,b,bk,a,rfl,_⟩:=h;rfl
 obtain⟨c,b,bk,a,rfl,a7,m,h8,q⟩:=h;refine⟨_,(@aE _ _ _ _ _ (aP 2 o9.nd (aT z8 hr (by decide) rfl (aA (mv 0) (aA aK aB)))) (@aE _ _ _ _ _ (aP 3 o9.nd (aQ bO aK (aQ dD (mv 2) aK))) (@aE _ _ _ _ _ (aP 4 o9.nd vS) (@aE _ _ _ _ _ (cV Bs rfl (lV (aQ bO (cI Dx PySem.F.slot_str_join PySem.F.type_str_join Ks fN (aA (cL rfl (bT (mv 1)) (iL (N:=["_law_page"]) (by decide +kernel) (by decide +kernel)) (by decide +kernel) rfl (by decide +kernel) (λ_ _ _ _=>(aZ (i:=0) (show List.Nodup (["_law_page"]:List Str) by decide +kernel) rfl (Or.inl rfl))) (λ_ _ _ _=>cY) (λ_ _ _ _=>(aT w8 hr (by decide) rfl (aA (bI bZ (mv 0) aK (λ_ _=>rfl)) aB)))) aB)) fN)) (aZ (i:=5) o9.nd rfl (Or.inl rfl)) (@aE _ _ _ _ _ (aP 2 o9.nd (aQ dD (aQ lD (aQ bO (mv 2) aK) aK) aK)) (@aI _ _ _ (iU (Z2.u1 hr) (mv 4) (mv 5) (aQ dD (aQ fS (mv 2) aK) (aQ bO (mv 3) aK)) rfl)))) (@aI _ _ _ (aU (mv 4))))))),?_⟩
 obtain⟨qs,b1,b2,b3⟩:=id a7;have O:(qs.map V.ref).length=bk.length:=by rw[Ab,b2]
 fail "g";refine⟨c,90,rfl,by (exact Int.natCast_nonneg _),by (exact Int.natCast_nonneg _),λn hn=>?_⟩
 have y0:=Cy n (show (8:Int)≠0 by decide)
 have y1:=Df n (show (0:Int)<8 by decide)
 fail "g";generalize n%8=t at y0 y1 ⊢;intro I y;have C:=aG y (HO.dK [])
 have X:(upd H I (HO.dK [])) I=some (.dK []):=aD
 generalize upd H I (HO.dK [])=H1 at C X ⊢;have rq:=aO (C _ _ b1)
 fail "g";refine gG (xs:=qs.map V.ref) (λj=>(a[j]?).map λe=>V.str (aV (e++[YU e]))) rq (by rw[O];exact bF (by (exact Nat.le_trans (by assumption) (by decide)))) (λj x Hc A B W sm hA hB=>?_) (λD Hd hD sD T=>?_)
 .rw[Ag]at W;obtain⟨p,ep,rfl⟩:=Cd.mp W;have r:j<bk.length:=by rw[<-b2];exact(Ad.mp ep).1
  have ec:a[j]?=some (a[j]'(by rw[m.1];exact r)):=Aa _
  obtain⟨hw,a6,a5,a4⟩:=m.2 j _ _ (Aa r) ec;have tp:=sm _ _ (C _ _ (b3 j p _ ep (Aa r)))
  rw[hw]at tp;fail "g";refine⟨Wk.set rfl (Wk.refl _),?_⟩;fail "g";refine cH tp (v:=.str (aV (a[j]'(by rw[m.1];exact r)))) (aY (j:=0) rfl) ?_
  fail "g";exact⟨_,rfl,a6,a5,a4,λY s' _ _=>hA _ (by rw[ec];rfl) Y s'⟩
 rw[O,<-m.1,dM (λe=>V.str (aV (e++[YU e]))),show a.map (λe=>V.str (aV (e++[YU e])))=((a.map λe=>e++[YU e]).map aV).map V.str by rw[Ce,Ce];rfl]at T
 have h7:∀c∈a.map (λe=>e++[YU e]),c.length<=7:=λc hc=>by
  obtain⟨e,hm,rfl⟩:=Ba.mp hc;obtain⟨j,hj⟩:=Gi.mp hm;have S:=(Ad.mp hj).1
  have:=(m.2 j _ _ (Aa (by rw[<-m.1];exact S)) hj).2.2.1
  rw[Af];show _+1<=7
  (exact Nat.lt_of_le_of_lt (by assumption) (by decide))
 have h8:(a.map (λe=>e++[YU e])).length<=8:=by rw[Ab,m.1];exact h8
 generalize a.map (λe=>e++[YU e])=a at T h7 h8;have a8:=aO T
 have X:=sD _ _ X
 have C:=C.trans sD
 have o:∀z∈a.map aV,z.length<=7:=λz hz=>by
  obtain⟨c,hc,rfl⟩:=Ba.mp hz;rw[cT];exact h7 c hc
 have S:(Txt.join "" (a.map aV)).length<=56:=by
  have:=HA (sep:=Str.ofString "") (n:=7) (L:=a.map aV) o
  rw[Ab,show (Str.ofString "").length=0 from rfl]at this;((try clear O b2 hn y0 y1);omega)
 have M:((a.map aV).map (·.length)).sum<=7*(a.map aV).length:=by
  generalize a.map aV=L at o;induction L with
  |nil=>exact Ah _
  |cons u v ih=>
   have h1:=o u Ak
   have h2:=ih λx W=>o x (Al _ W)
   rw[Au,Cv,Av];((try clear O S b2 h8 hn y0 y1);omega)
 rw[Ab]at M;fail "g";refine MO (ss:=a.map aV) a8 (by rw[show (Str.ofString "").length=0 from rfl];((try clear O S b2 hn y0 y1);omega)) ?_
 have b4:(Str.ofString "1234aw").length=6:=rfl
 fail "g";have a2:(Txt.join "" (a.map aV)++Str.ofString "1234aw").length<=62:=by rw[Gq];((try clear M O b2 h8 hn y0 y1);omega)
 generalize Txt.join "" (a.map aV)++Str.ofString "1234aw"=zz at a2 ⊢;refine R6 (λi U Y=>∃J l f Z,U=[some (.int c),some (.ref b),some (.int J),some (.int (1+t)),some (.ref I),Z]/\0<=J/\Z_ H Y/\Y I=some (.dK l)/\Lk l f/\l.length<=i/\∀c,0<=aR f c/\aR f c<=9)
  ⟨n,[],_,_,rfl,hn,C,X,.nil,Ah _,λc=>⟨Ih _,(by decide:(0:Int)<=9)⟩⟩ ?_ ?_
 .rintro i d U H2 T ⟨J,l,f,Z,rfl,a3,s2,e2,lk,R,hf⟩;have a9:i<62:=by have:=(Ad.mp T).1;rw[eX]at this;((try clear M O R S a3 b2 b4 h8 hn y0 y1);omega)
  have x0:=Cy ((J+11)*69621) (show (2147483647:Int)≠0 by decide)
  fail "g";generalize (J+11)*69621%2147483647=k at x0 ⊢;have x1:=Cy (k / 7) (show 1+t+1≠0 by ((try clear M O R S a2 a3 a9 b2 b4 h8 hn x0);omega))
  have x2:=Df (k / 7) (show 0<1+t+1 by ((try clear M O R S a2 a3 a9 b2 b4 h8 hn x0 x1);omega))
  fail "g";refine nP (z:=one d) e2 (bF (by ((try clear M O S a2 a3 b2 b4 h8 hn x0 x1 x2 y0 y1);omega))) ?_
  refine⟨k,_,_,_,rfl,x0,bL y s2,aD,lk.put d _,?_,λc=>?_⟩
  .have:=gH l (Sum.inr (one d)) (.int (k / 7%(1+t+1)))
   ((try clear M O S a2 a3 a9 b2 b4 h8 hn x0 x1 x2 y0 y1);omega)
  .show 0<=((if c=d then some (k / 7%(1+t+1)) else f c):Option Int).getD 0/\((if c=d then some (k / 7%(1+t+1)) else f c):Option Int).getD 0<=9
   by_cases z:c=d
   .rw[if_pos z];exact⟨x1,by show k / 7%(1+t+1)<=9;((try clear M O R S a2 a3 a9 b2 b4 h8 hn x0 x1 z);omega)⟩
   .rw[if_neg z];exact hf c
 .rintro U H2 ⟨J,l,f,Z,rfl,a3,s2,e2,lk,R,hf⟩;rw[eX]at R;fail "g";exact q I l f H2 y s2 e2 lk hf
def zJ(ns:List Int)(c m:Int)(h:0<=c)(d:0<=m):∃e:List Int,kB (ns.map V.int) (some c) (some (c+m))=e.map V.int/\e.length<=m.toNat:=by
 refine⟨(ns.drop (min c.toNat ns.length)).take (min (c+m).toNat ns.length-min c.toNat ns.length),?_,?_⟩
 .unfold kB;rw[Gh,Fu];show ((ns.map V.int).drop (if c<0 then (c+((ns.map V.int).length:Int)).toNat else min c.toNat (ns.map V.int).length)).take ((if c+m<0 then (c+m+((ns.map V.int).length:Int)).toNat else min (c+m).toNat (ns.map V.int).length)-(if c<0 then (c+((ns.map V.int).length:Int)).toNat else min c.toNat (ns.map V.int).length))=_
  rw[if_neg (Int.not_lt.mpr h),if_neg (Int.not_lt.mpr (Int.add_nonneg h d)),Ab]
 .rw[Bt,Int.toNat_add h d];refine Bh (Nat.min_le_left ..) ?_;generalize c.toNat=a;generalize m.toNat=b;generalize ns.length=L;clear h d;omega
def vT(K:W.Frag)(C:Addr):Sp:=λk H Q _=>∃(a:Addr) (j:List Int),k=[.ref a]/\Zm K H a (j.map V.int)/\j.length<=63/\
 ∀(r x q h o rw s n l p e:Addr) (g:List (Str×Str)) (i:Q6) (d:List (Q6)) (f:Nat->Option Int) (m:Nat) (c:Hp),Z_ H c->c r=some (.lst [.ref x,.ref h,.ref o,.ref rw])->ZE c h g->1<=g.length->g.length<=8->d.Nodup->1<=m->Zh C c x s n l p e q m g i d f [] [] (List.replicate m none) f->c rw=some (.lst (List.replicate m V.non))->rw≠e->h≠e->H x=none->H e=none->Q (.ref r) c
def j8:Z9 ["_law_script", "_law_book_here", "_law_totals", "_law_many"] ["_law_script"] (aJ rK):=by fail "sc"
def DE(F:ZT K "_law_begun" "_law_begun" rK f fd)(yB3:ZR P w K mg base 2 "_law_book" ["_law_cells"] Py)(yB4:ZR P w K mg base 2 "_law_flags" ["_law_cell", "_law_book_here"] xI)(j9:ZR P w K mg base 1 "_law_cell_at" ["_law_script", "_law_k"] (qT K))(o6:Uh ZS P w K mg base 2 Z0 ["self", "book", "locker", "many"] (gA Z0)):Z8 P w K mg base ZS 4 f fd ["_law_script"] (vT K Z0):=by
 refine F.ok j8 (λvs H Q E h=>?_) (λcdv A outer s H vs Q E hr h=>?_)
 .obtain⟨a,ns,rfl,_⟩:=h;rfl
 obtain⟨a,ns,rfl,hS,h63,q⟩:=h;refine⟨_,(@aE _ _ _ _ _ (aP 1 j8.nd (aT yB3 hr (by decide) rfl (aA (iB Yk (mv 0) (fH aK) (fH aK)) aB))) (@aE _ _ _ _ _ (aP 2 j8.nd (aT yB4 hr (by decide) rfl (aA (aT j9 hr (by decide) rfl (aA (mv 0) (aA aK aB))) (aA (mv 1) aB)))) (@aE _ _ _ _ _ (aP 3 j8.nd (aQ bO aK (aQ dD (aT j9 hr (by decide) rfl (aA (mv 0) (aA aK aB))) aK))) (@aI _ _ _ (aU (@bQ _ _ _ _ (aA (OI o6 hr (by decide) rfl G.c_Tower (aA (mv 1) (aA (mv 2) (aA (mv 3) aB)))) (aA (mv 1) (aA (mv 2) (aA (aQ Uv (bQ (aA dF aB)) (mv 3)) aB)))))))))),?_⟩
 fail "g";refine Oq hS λrc hrc=>?_;obtain⟨ms,em,hml⟩:=zJ ns 2 7 (by decide) (by decide)
 rw[show (2:Int)+7=9 from rfl]at em;rw[em];have k1:=aG hrc (.lst (ms.map V.int))
 have e1:Z4 (upd H rc (.lst (ms.map V.int))) rc=some (ms.map V.int):=cE
 generalize upd H rc (.lst (ms.map V.int))=H1 at k1 e1 ⊢;fail "g";refine⟨rc,ms,rfl,e1,hml,λrb bk cws H2 hrb s2 hbk hcw Yh hb1 hb8 hgb=>?_⟩;have s02:=k1.trans s2
 fail "g";refine⟨a,ns,1,rfl,s02.seq hS,by (exact Int.natCast_nonneg _),λn1=>?_⟩
 fail "g";refine⟨n1,rb,bk,cws,rfl,hbk,hcw,hb8,λrl kvs f H3 hrl s3 el lk hf=>?_⟩;have s03:=s02.trans s3
 fail "g";refine⟨a,ns,0,rfl,s03.seq hS,by (exact Int.natCast_nonneg _),λn0=>?_⟩
 have y0:=Cy n0 (show (6:Int)≠0 by decide)
 have y1:=Df n0 (show (0:Int)<6 by decide)
 obtain⟨m,em,m1,m6⟩:∃m:Nat,1+n0%6=(m:Int)/\1<=m/\m<=6:=⟨(1+n0%6).toNat,by ((try clear h63 hb1 hb8 hml y1);omega),by ((try clear h63 hb1 hb8 hml y1);omega),by ((try clear h63 hb1 hb8 hml y1);omega)⟩
 fail "g";rw[em];fail "g";intro x dx hx hdx hne;obtain⟨qs,b1,b2,b3⟩:=id hbk;have hkk:=(aG hdx (.own x)).trans (aG (show (upd H3 dx (.own x)) x=none by rw[aH (Ne.symm hne)];exact hx) (.ins Z0 dx []))
 refine⟨x,rb,rl,dx,qs.map V.ref,kvs,f,m,rfl,aD,aO (hkk _ _ (s3 _ _ b1)),.inl (hkk _ _ el),lk,m6,λb' s0 st hg dd H4 hb' hhg hdd hst nhd WK sE x4 e4 d04 d14 h4 f4=>⟨rfl,?_⟩⟩;have s34:Z_ H3 H4:=λb o e=>sE b o (λz=>by rw[Aj.mp z,hx]at e;cases e) (hkk _ _ e)
 have s04:=s03.trans s34
 fail "g";refine⟨z0,λp0 hp0=>?_⟩
 have k5:=aG hp0 (.lst [V.non])
 have e5:(upd H4 p0 (.lst [V.non])) p0=some (.lst [V.non]):=aD
 generalize upd H4 p0 (.lst [V.non])=H5 at k5 e5 ⊢;fail "g";refine⟨p0,_,[V.non],rfl,rfl,e5,by (exact Int.natCast_nonneg _),by omega,by show 1*((m:Int)).toNat<=sizeLine;exact bK (by ((try clear WK b2 h63 hb1 hb8 hml hne m1 m6 nhd y1);omega)),λrw' hrw=>?_⟩
 rw[xB];have k6:=k5.trans (aG hrw (.lst (List.replicate m V.non)))
 have e6:(upd H5 rw' (.lst (List.replicate m V.non))) rw'=some (.lst (List.replicate m V.non)):=aD
 have nrw:rw'≠dd:=λz=>by rw[z,k5 _ _ f4]at hrw;cases hrw
 generalize upd H5 rw' (.lst (List.replicate m V.non))=H6 at k6 e6 ⊢;fail "g";refine⟨by show 4<=sizeLine;decide,λr hr=>?_⟩
 have k7:=aG hr (.lst [.ref x,.ref rb,.ref rl,.ref rw'])
 have k47:=k6.trans k7
 have s07:=s04.trans k47
 obtain⟨mss,hms⟩:=DI hgb;have hT:=Zh.begun x4 m6 ⟨⟨qs,e4,b2,λj p b hp hb=>s34 _ _ (s3 _ _ (b3 j p b hp hb))⟩,hcw,by (exact Nat.le_trans (by assumption) (by decide)),hms⟩ d04 d14 h4 f4 nhd WK
 exact q r x dx rb rl rw' b' s0 st hg dd bk cws mss _ m _ s07 aD ((hbk.keep s3).keep (s34.trans k47)) hb1 hb8 (Kj hgb.means hms) m1 (hT.keep k47) (k7 _ _ e6) nrw (λz=>by rw[<-z,hkk _ _ (s3 _ _ b1)]at hdd;cases hdd) (none_of s03 hx) (none_of (s03.trans hkk) hdd)
def QZ(h:cS bk mss):∀j,j<mss.length->mss.getD j []≠[]/\(mss.getD j []).length<=5/\∀t∈mss.getD j [],fF t:=λj a=>by
 obtain⟨_,b,d,c⟩:=h.2 j _ _ (Aa (by rwa[<-h.1])) (Aa a)
 rw[Ac,Aa a];exact⟨λz=>by grind,d,c⟩
def pA(h:cS bk mss):∀ {js:List Nat},(∀j∈js,j<mss.length)->(dC mss js).length<=5*js.length/\∀t∈dC mss js,fF t
 |[],_=>⟨Ah _,λt a=>nomatch a⟩
 |j::r,hj=>by
  obtain⟨f,c⟩:=pA h  λx d=>hj x (Al _ d);obtain⟨_,e,b⟩:=QZ h j (hj j Ak);rw[fQ,Af,Av];grind
def qR(a:Int){n:Nat}(h:1<=n):∃y:Nat,a%(n:Int)=(y:Int)/\y<n:=by
 have c:=Cy a (show (n:Int)≠0 by omega)
 have b:=Df a (show _<(n:Int) by (exact Int.ofNat_le.mpr (by assumption)))
 exact⟨(a%(n:Int)).toNat,by ((try clear b h);omega),by ((try clear h);omega)⟩
def RG{k:Addr}(h:ZE H k bk)(f:tE bk cws)(c:cS bk mss)(e:j<bk.length):∃(a:List Addr) (p:Addr) (g:List Nat),H k=some (.lst (a.map V.ref))/\a.length=bk.length/\YV (a.map V.ref) (j:Int)=some (.ref p)/\H p=some (.tup [.str (aV g),.str (cF (dC mss [j]))])/\j<mss.length/\1<=g.length/\g.length<=6/\∀d∈g,aX d:=by
 obtain⟨a,t,s,r⟩:=h;have q:cws[j]?=some (cws[j]'(by rw[f.1];exact e)):=Aa _
 obtain⟨m,n⟩:=f.2 j _ _ (Aa e) q;have l:a[j]?=some (a[j]'(by ((try clear n);omega))):=Aa _
 have b:j<mss.length:=by rw[c.1];exact e
 have o:=(c.2 j _ _ (Aa e) (Aa b)).1
 have i:=r j _ _ l (Aa e)
 rw[m,o,show mss[j]=dC mss [j] by rw[fQ,Ac,Aa b];exact(Br _).symm]at i
 exact⟨a,_,_,t,s,aY (by rw[Ag,l];rfl),i,b,n⟩
def Tr(h:cS bk mss)(a:∀j∈js,j<mss.length)(b:1<=js.length):dC mss js≠[]:=by
 cases js with
 |nil=>exact absurd b (by decide)
 |cons j r=>
  exact λz=>(QZ h j (a j Ak)).1 (List.append_eq_nil_iff.mp z).1
def zC(h:cS bk mss)(b:∀j∈js,j<mss.length)(d:1<=js.length)(a:j<mss.length):cF (dC mss js)++Str.ofString " " ++ cF (dC mss [j])=cF (dC mss (js++[j])):=by
 rw[A9,zA (Tr h b d) (Tr h  (λi c=>by simp_all) (Ah _))]
def EW(h:cS bk mss)(b:bk.length<=60){m:Nat}(a:∀j∈js,j<mss.length)(d:1<=js.length)(g:js.length<=3):(Dd.say (dC mss js)).ok mss m:=by
 obtain⟨f,c⟩:=pA h a;refine⟨?_,by ((try clear b);omega),c,js.length,NQ (S5 h b) (Da _) a (List.drop_zero ..)⟩
 have:=Tr h a d
 grind
def zY(h:cS bk mss)(a:j<mss.length):(cF (dC mss [j])).length<=60:=by
 obtain⟨d,c⟩:=pA h (js:=[j]) (λi b=>by simp_all)
 exact JA (by (assumption)) c
def Qm(h:1<=cs.length)(g:cs.length<=6)(b:∀d∈cs,aX d)(m:Nat)(a:List (Q6)){n:Nat}(f:n<m):(Dd.haul n (cs++[YU cs])).ok a m:=by
 obtain⟨e,c⟩:=Qp g b;refine⟨f,by rw[Af];show _+1<=7;(exact Nat.lt_of_le_of_lt (by assumption) (by decide)),uY b e,?_⟩
 unfold Wj;grind
def Jw:∀c∈(Str.ofString "abcdefghijklmnopqrstuvw12341234").cps.toList,gX c:=by
 decide +kernel
def Qc:Sp:=λh H Q _=>∃(N:Int) (m:Nat) (g:Addr) (b:List (Str×Str)) (e:List (List Nat)) (a:List (List (List Nat))),h=[.int N,.int (m:Int),.ref g]/\0<=N/\1<=m/\ZE H g b/\tE b e/\cS b a/\1<=b.length/\b.length<=8/\
 ∀c (d:Dd) f,Z_ H f->H c=none->f c=some (.tup d.vs)->d.ok a m->Q (.ref c) f
def wS:Z9 ["_law_number", "_law_many", "_law_book_here", "_law_way", "_law_page", "_law_text", "_law_k"] ["_law_number", "_law_many", "_law_book_here"] (aJ vE):=by fail "sc"
def DH(F:ZT K "_law_deed" "_law_deed" vE f fd)(w8:ZR P w K mg base 1 "_law_checked" ["_law_word_here"] kN)(o8:ZR P w K mg base 1 "_law_word" ["_law_number", "_law_most"] sL):Z8 P w K mg base ZS 2 f fd ["_law_number", "_law_many", "_law_book_here"] Qc:=by
 refine F.ok wS (λvs H Q E h=>?_) (λc7 A a3 s H vs Q E hr h=>?_)
 .obtain⟨N,m,rb,bk,b5,b,rfl,_⟩:=h;rfl
 obtain⟨N,m,rb,bk,b5,b,rfl,hN,m1,R,J,d,S,c4,q⟩:=h;refine⟨_,(@aE _ _ _ _ _ (aP 3 wS.nd (aQ dD (mv 0) aK)) (@aE _ _ _ _ _ (aP 0 wS.nd (aQ fS (mv 0) aK)) (@aE _ _ _ _ _ (aP 4 wS.nd (bI bZ (mv 2) (aQ dD (aQ fS (mv 0) aK) (aW cN rfl G.b_len bP (aA (mv 2) aB))) (λ_ _=>rfl))) (@aE _ _ _ _ _ (cD (bB yI (mv 3) aK (bA _)) (@aI _ _ _ (aU (cU (@cG _ _ _ _ _ _ (aA (aQ dD (mv 0) (mv 1)) (aA (aT w8 hr (by decide) rfl (aA (bI bZ (mv 4) aK (λ_ _=>rfl)) aB)) aB)))))) bE) (@aE _ _ _ _ _ (cD (bB lC (mv 3) aK (bA _)) (@aI _ _ _ (aU (cU (@cG _ _ _ _ _ _ (aA (aQ dD (mv 0) (mv 1)) (aA (aT w8 hr (by decide) rfl (aA (aT o8 hr (by decide) rfl (aA (aQ fS (mv 0) aK) (aA aK aB))) aB)) aB)))))) bE) (@aE _ _ _ _ _ (cD (bB lC (mv 3) aK (bA _)) (@aI _ _ _ (aU (cU (@cG _ _ _ _ _ _ (aA (aQ dD (mv 0) (mv 1)) aB))))) bE) (@aE _ _ _ _ _ (cD (bB lC (mv 3) aK (bA _)) (@aI _ _ _ (aU (cU (aA (@bI _ _ _ _ _ _ _ bZ (bQ (@cG _ _ _ _ _ _ (@cG _ _ _ _ _ _ aB))) (aQ dD (mv 0) aK) (λ_ _=>rfl)) (aA (bI bZ fN (aQ dD (aQ fS (mv 0) aK) aK) (λ_ _=>rfl)) aB))))) bE) (@aE _ _ _ _ _ (aP 5 wS.nd (bI bZ (mv 4) aK (λ_ _=>rfl))) (@aE _ _ _ _ _ (cV Bs rfl (nF rfl G.b_range (aA (aQ dD (aQ fS (mv 0) aK) aK) aB)) (aZ (i:=6) wS.nd rfl (Or.inl rfl)) (@aE _ _ _ _ _ (aP 0 wS.nd (aQ dD (aQ lD (aQ bO (aQ bO (mv 0) (mv 6)) aK) aK) aK)) (@aI _ _ _ (aP 5 wS.nd (aQ bO (aQ bO (mv 5) fN) (bI bZ (bI bZ (mv 2) (aQ dD (aQ fS (mv 0) aK) (aW cN rfl G.b_len bP (aA (mv 2) aB))) (λ_ _=>rfl)) aK (λ_ _=>rfl))))))) (@aI _ _ _ (aU (cU (@cG _ _ _ _ _ _ (aA (mv 5) aB)))))))))))))),?_⟩
 have c5:(0:Int)<((bk.length:Nat):Int):=by (exact Int.ofNat_le.mpr (by assumption))
 have b9:(0:Int)<(m:Int):=by (exact Int.ofNat_le.mpr (by assumption))
 obtain⟨j,ej,hj⟩:=qR (N / 8 / 6) S;obtain⟨n,en,hn⟩:=qR (N / 8) m1;obtain⟨qs,pj,W,b1,b2,aj,o,C,O,M,L⟩:=RG R J d hj;have B:(qs.map V.ref).length=bk.length:=by rw[Ab,b2]
 have rq:=aO b1
 have T:0<=N / 8:=Int.ediv_nonneg hN (by decide)
 have b3:0<=N / 8 / 6:=Int.ediv_nonneg T (by decide)
 fail "g";rw[B];fail "g";rw[ej];refine dG rq aj ?_;have tt:=cX o
 fail "g";refine dW (λ_=>?_) (λ_=>?_)
 .fail "g";rw[en];refine cH o (v:=.str (aV W)) (aY (j:=0) rfl) ?_;fail "g";refine⟨W,rfl,O,M,L,λY r _ _=>?_⟩;fail "g";refine⟨za0,λk a=>?_⟩
  exact q k (.haul n (W++[YU W])) _ (r.trans (aG a _)) (none_of r a) aD (Qm O M L m b hn)
 fail "g";refine dW (λ_=>?_) (λ_=>?_)
 .fail "g";rw[en];fail "g";refine⟨N / 8 / 6,6,rfl,b3,by decide,by decide,λcu Y r y b7 x=>?_⟩
  fail "g";refine⟨cu,rfl,y,by ((try clear B C M O S T b2 b3 b9 c4 c5 ej en hN hj hn m1);omega),x,λH2 s2 _ _=>?_⟩
  fail "g";refine⟨za0,λk a=>?_⟩
  exact q k (.haul n (cu++[YU cu])) _ ((r.trans s2).trans (aG a _)) (none_of (r.trans s2) a) aD (Qm y (by ((try clear B C M O S T b2 b3 b9 c4 c5 ej en hN hj hn m1);omega)) x m b hn)
 fail "g";refine dW (λ_=>?_) (λ_=>?_)
 .fail "g";rw[en];refine⟨r0,λk a=>?_⟩
  exact q k (.lower n) _ (aG a _) a aD hn
 fail "g";refine dW (λ_=>?_) (λ_=>?_)
 .fail "g";refine⟨r0,λp1 a4=>?_⟩
  have t:=aG a4 (.lst [V.str "lose",V.str "find"])
  have e1:Z4 (upd H p1 (.lst [V.str "lose",V.str "find"])) p1=some [V.str "lose",V.str "find"]:=cE
  generalize upd H p1 (.lst [V.str "lose",V.str "find"])=Y at t e1 ⊢;obtain⟨u,eu,hu⟩:=qR (N / 8) (n:=2) (by decide)
  obtain⟨v,ev,hv⟩:=qR (N / 8 / 2) (n:=31) (by decide)
  rw[show ((2:Nat):Int)=2 from rfl]at eu;rw[show ((31:Nat):Int)=31 from rfl]at ev;have p:v<(Str.ofString "abcdefghijklmnopqrstuvw12341234").cps.toList.length:=hv
  have I:=Jw _ (Bx p)
  fail "g";rw[eu];rcases (show u=0\/u=1 by ((try clear B C M O S T b2 b3 b9 c4 c5 ej en ev hN hj hn hu hv m1 p);omega)) with rfl|rfl
  .refine dG e1 (v:=.str "lose") (aY (j:=0) rfl) ?_;fail "g";rw[ev];refine wI (by decide) (aY (Aa p)) ?_
   fail "g";refine⟨r0,λk a=>?_⟩
   exact q k (.lose _) _ (t.trans (aG a _)) (none_of t a) aD I
  .refine dG e1 (v:=.str "find") (aY (j:=1) rfl) ?_;fail "g";rw[ev];refine wI (by decide) (aY (Aa p)) ?_
   fail "g";refine⟨r0,λk a=>?_⟩
   exact q k (.find _) _ (t.trans (aG a _)) (none_of t a) aD I
 fail "g";refine cH o (v:=.str (cF (dC b [j]))) (aY (j:=1) rfl) ?_;have y0:=Cy (N / 8 / 50) (show (3:Int)≠0 by decide)
 have y1:=Df (N / 8 / 50) (show (0:Int)<3 by decide)
 fail "g";refine⟨⟨by ((try clear B C M O S T b2 b3 b9 c4 c5 ej en hN hj hn m1 y1);omega),by ((try clear B C M O S T b2 b3 b9 c4 c5 ej en hN hj hn m1 y1);omega)⟩,?_⟩
 have a7:∀i∈[j],i<b.length:=λi hi=>by rw[Aj.mp hi];exact C
 refine vQ (λi U H'=>∃X l Z,U=[some (.int X),some (.int (m:Int)),some (.ref rb),some (.int (N%8)),some (.ref pj),some (.str (cF (dC b l))),Z]/\0<=X/\H'=H/\l.length=1+i/\(∀j∈l,j<b.length)/\(cF (dC b l)).length<=60+61*i) ⟨_,[j],_,rfl,T,rfl,rfl,a7,zY d C⟩ ?_ ?_
 .rintro i U Y hi ⟨X,l,Z,rfl,hX,rfl,D,c,a5⟩;fail "g";rw[B];have x0:=Cy ((X+(0+(i:Int))+1)*69621) (show (2147483647:Int)≠0 by decide)
  generalize (X+(0+(i:Int))+1)*69621%2147483647=X' at x0 ⊢;obtain⟨j2,b4,a8⟩:=qR (X' / 7) S;obtain⟨b6,p2,c6,c1,c2,a2,a1,e,_⟩:=RG R J d a8;fail "g";rw[b4];refine dG (aO c1) a2 ?_;fail "g";have b8:=zY d e
  have a6:(cF (dC b l)++Str.ofString " ").length=(cF (dC b l)).length+1:=by rw[Gq];rfl
  have c3:i<3:=by ((try clear B C M O S T a5 a6 a8 b2 b3 b4 b8 b9 c2 c4 c5 e ej en hN hX hj hn m1 x0 y1);omega)
  refine cH a1 (v:=.str (cF (dC b [j2]))) (aY (j:=1) rfl) ?_;fail "g";refine⟨_,l++[j2],_,by rw[zC d c (by ((try clear B C M O S T a5 a6 a8 b2 b3 b4 b8 b9 c2 c4 c5 e ej en hN hX hi hj hn m1 x0 y0 y1);omega)) e];rfl,x0,rfl,by rw[Af,D];rfl,λi' a9=>?_,?_⟩
  .rcases Bi.mp a9 with z|z
   .exact c i' z
   .rw[Aj.mp z];exact e
  .rw[<-zC d c (by ((try clear B C M O S T a5 a6 a8 b2 b3 b4 b8 b9 c2 c4 c5 e ej en hN hX hi hj hn m1 x0 y0 y1);omega)) e,Gq,a6]
   ((try clear B C M O S T a8 b2 b3 b4 b9 c2 c3 c4 c5 e ej en hN hX hi hj hn m1 x0 y0 y1);omega)
 .rintro U Y ⟨X,l,Z,rfl,hX,rfl,D,c,a5⟩;fail "g";refine⟨r0,λk a=>?_⟩
  exact q k (.say (dC b l)) _ (aG a _) a aD (EW d (by (exact Nat.le_trans (by assumption) (by decide))) c (by ((try clear B C M O S T a5 b2 b3 b9 c4 c5 ej en hN hX hj hn m1 y0 y1);omega)) (by ((try clear B C M O S T a5 b2 b3 b9 c4 c5 ej en hN hX hj hn m1 y1);omega)))
structure Y8 (H:Hp) (hs:List (Option (List Nat))) (f:Nat->Option Int) (dps:List Addr) (cws:List (List Nat)) (us:List V) (r1 r2 r3 r4:Addr):Prop where
 h1:H r1=some (.lst us)
 WR:Z6 H us hs
 h2:H r2=some (.dK (Zi (aR f) (bN (aR f) 27)))
 h3:H r3=some (.lst (dps.map V.ref))
 h4:H r4=some (.lst (hs.map (VP cws)))
def Y8.keep{f:Nat->Option Int}(h:Y8 H hs f dps cws us r1 r2 r3 r4)(s:Z_ H H'):Y8 H' hs f dps cws us r1 r2 r3 r4:=⟨s _ _ h.h1,h.WR.keep s,s _ _ h.h2,s _ _ h.h3,s _ _ h.h4⟩
def Kf(cws:Q6)(o:Option _):bY (VP cws o)=true:=by
 cases o with
 |none=>rfl
 |some a=>
  show bY (match (iW cws).findIdx? _ with|some j=>V.int _|none=>.non)=true
  cases (iW cws).findIdx? _<;>rfl
def zM{n:Nat}(f:xs.all bY=true):∀(j:Nat) x y,xs[j]?=some x->xs[j]?=some y->XR H n x y:=λj x y b a=>by
 rw[b]at a;cases a;exact XR.same (.inl (Ca.mp f x (Ao b)))
def uA{n:Nat}{q:Addr}{ys:List V}(b:Z4 H p=some xs)(a:Z4 H q=some ys)(c:xs.length=ys.length)(h:∀(j:Nat) x y,xs[j]?=some x->ys[j]?=some y->XR H n x y):XR H (n+1) (.ref p) (.ref q):=.inr ⟨p,q,rfl,rfl,.inl ⟨xs,ys,b,a,c,h⟩⟩
def Y8.alike{f:Nat->Option Int}{m:List V}{t s r q:Addr}(a:Y8 H hs f dps cws us r1 r2 r3 r4)(b:Y8 H hs f dps cws m t s r q):∀(j:Nat) x y,[V.ref r1,V.ref r2,V.ref r3,V.ref r4][j]?=some x->[V.ref t,V.ref s,V.ref r,V.ref q][j]?=some y->XR H 2 x y:=λj x y c d=>by
 match j,c,d with
 |0,c,d=>
  cases c;cases d;refine uA (aO a.h1) (aO b.h1) (by rw[a.WR.len,b.WR.len]) λk u v g h=>?_
  have A:k<hs.length:=by rw[<-a.WR.len];exact(Ad.mp g).1
  have w:=Aa A
  have l:=a.WR.val k u _ g w
  have i:=b.WR.val k v _ h w
  cases e:hs[k] with
  |none=>
   rw[e]at l i;rw[show u=.non from l,show v=.non from i];exact XR.same (.inl rfl)
  |some C=>
   rw[e]at l i;obtain⟨p,rfl,z⟩:=l;obtain⟨B,rfl,n⟩:=i;exact uA (aO z) (aO n) rfl (zM (dB _))
 |1,c,d=>
  cases c;cases d;exact .inr ⟨_,_,rfl,rfl,.inr ⟨_,_,.inl a.h2,.inl b.h2,(dQ (aR f)).JP (dQ (aR f))⟩⟩
 |2,c,d=>
  cases c;cases d;refine uA (aO a.h3) (aO b.h3) rfl λk u v g h=>?_;rw[g]at h;cases h;rw[Ag]at g;obtain⟨p,_,rfl⟩:=Cd.mp g;exact XR.same (.inr ⟨p,rfl⟩)
 |3,c,d=>
  cases c;cases d;exact uA (aO a.h4) (aO b.h4) rfl (zM (by rw[Ij];exact Ca.mpr λo _=>Kf cws o))
 |j+4,c,_=>cases c
def Y8.ZJ{l:List Addr}{f:Nat->Option Int}(h:Y8 H hs f dps cws us r1 r2 r3 r4)(ok:fE hs)(s:Z1 l H H')(n:yL H l)(c:r1∉l)(b:r3∉l)(a:r4∉l):Y8 H' hs f dps cws us r1 r2 r3 r4:=⟨s _ _ c h.h1,h.WR.ZJ ok s n,s _ _ (λz=>(n r2 z).2.1 _ h.h2) h.h2,s _ _ b h.h3,s _ _ a h.h4⟩
def Y8.Y1{f:Nat->Option Int}(h:Y8 H hs f dps cws us r1 r2 r3 r4)(ok:fE hs)(s:ZY Pt H H')(l:cR Pt H):Y8 H' hs f dps cws us r1 r2 r3 r4:=h.ZJ ok (OC s) (wW l) (lY l h.h1 λ_=>nofun) (lY l h.h3 λ_=>nofun) (lY l h.h4 λ_=>nofun)
def VA(s:ZY Pt H H'):Z1 [x,y,Pt] H H':=λp o n e=>s p o (λz=>n (by rw[z];simp)) e
inductive rH(C i:Addr)(w:List V)(H:Hp)(Q:VK)(zz3:XK):Prop|mk(x b l u o j q:Addr)(m:Nat)(t:List (Str×Str))(h:List (List Nat))(a:List (List (List Nat)))(p:Nat->Option Int)(r:List Dd)(c:List Addr)(v:List (Option (List Nat)))(f:Nat->Option Int)(s:Addr)(d:Dd)(_:w=[.ref x,.ref s])(_:Zh C H x b l u o j q m t h a p r c v f)(_:H s=some (.tup d.vs))(_:d.ok a m)(_:c.length<=900)(_:cR i H)(_:(∀k g (n:Q4) y e,Z1 [x,j,i] H e->cR i e->(g=o\/H g=none)->Zh C e x b l k g j q m t h a p (r++[d]) (c++[s]) n y->Q (.bl true) e))(_:(∀e,ZY i H e->cR i e->Zh C e x b l u o j q m t h a p r c v f->Q (.bl false) e)):rH C i w H Q zz3
def EJ:Z9 ["_law_tower", "_law_deed_here"] ["_law_tower", "_law_deed_here"] (aJ xK):=by fail "sc"
def HZ(F:ZT K "_law_done" "_law_done" xK f fd)(o7:qP (Y_ P w) P w K mg base 15 Z0 "do" ["self", "deed"] (mJ Z0 Zs Zt Zw Zy Pt)):Z8 P w K mg base ZS 17 f fd ["_law_tower", "_law_deed_here"] (rH Z0 Pt):=by
 refine F.ok EJ (λW H Q E h=>?_) (λa1 A n s H W Q E hr h=>?_)
 .obtain⟨x,b,I,C,M,T,z,m,U,i,a,N,O,e,L,f,S,d,rfl,_⟩:=h;rfl
 obtain⟨x,b,I,C,M,T,z,m,U,i,a,N,O,e,L,f,S,d,rfl,j,v,r,y,c,q1,Z⟩:=h;refine⟨_,(@aE _ _ _ _ _ (M6 rfl rfl rfl rfl G.c_TowerError (λV R=>(@aI _ _ _ (bU (K6 o7 G.Z7 (vF rfl) hr (by decide) (mv 0) (aA (mv 1) aB))))) (λV ea=>(@aI _ _ _ (aU oJ)))) (@aI _ _ _ (aU oJ))),?_⟩
 fail "g";refine⟨x,z,_,rfl,j.ins,Ob,?_⟩;refine⟨x,b,I,C,M,T,z,S,m,U,i,a,N,O,e,L,f,d,rfl,j,v,r,y,c,λk u q f' B Y p hh _ X=>?_,λ_ D o B hD J p=>⟨?_,?_⟩⟩
 exact q1 k u q f' B Y p hh X
 .rcases hD with rfl|rfl|rfl|rfl
  .exact G.WB
  .exact G.W0
  .exact G.Xv
  .exact G.Yg
 exact Z B J p (j.Y1 J c)
inductive oU(C:Addr)(l:List V)(H:Hp)(Q:VK)(zz3:XK):Prop|mk(x b p o q v t m w c i s u a k f)(_:l=[.ref x])(_:Zh C H x b p o q v t m w c i s u a k f)(_:a.length<=990)(_:∀r h j g e n d,Z_ H d->d r=some (.lst [.ref h,.ref j,.ref g,.ref e])->Y8 d k f a c n h j g e->H r=none->H h=none->H g=none->H e=none->Q (.ref r) d):oU C l H Q zz3
def Lb:Z9 ["_law_tower"] ["_law_tower"] (aJ rY):=by fail "sc"
def Ko(F:ZT K "_law_state" "_law_state" rY f fd)(D:qP ZS P w K mg base 1 Z0 "halyards" ["self"] (iP Z0))(C:qP ZS P w K mg base 2 Z0 "locker" ["self"] (kZ Z0))(z7:qP ZS P w K mg base 1 Z0 "log" ["self"] (gU Z0))(B:qP ZS P w K mg base 6 Z0 "read" ["self"] (oG Z0)):Z8 P w K mg base ZS 8 f fd ["_law_tower"] (oU Z0):=by
 refine F.ok Lb (λvs H Q E h=>?_) (λa6 A L s H vs Q E z h=>?_)
 .obtain⟨x,b,n,j,p,t,e,m,bk,u,M,f0,ds,U,O,f,rfl,_⟩:=h;rfl
 obtain⟨x,b,n,j,p,t,e,m,bk,u,M,f0,ds,U,O,f,rfl,a,a5,q⟩:=h;refine⟨_,(@aI _ _ _ (aU (@bQ _ _ _ _ (aA (iS D G.Z7 z (by decide) (mv 0)) (aA (iS C G.Z7 z (by decide) (mv 0)) (aA (iS z7 G.Z7 z (by decide) (mv 0)) (aA (iS B G.Z7 z (by decide) (mv 0)) aB))))))),?_⟩
 obtain⟨⟨V,hB,i⟩,ok,⟨N,hR,lk⟩,a1⟩:=id a.tw;have W:=aO hB
 have a2:=i.len
 have a3:=a.len
 have h6:=a.six
 refine⟨x,e,_,rfl,a.ins,xM,?_⟩;refine⟨x,b,n,j,p,t,e,m,V,O,rfl,a.ins,W,i,by ((try clear a5);omega),λr1 I H4 T y e4 r _=>?_⟩
 refine⟨x,e,_,rfl,y _ _ a.ins,LI,?_⟩;refine⟨x,b,n,j,p,t,e,m,N,f,rfl,y _ _ a.ins,.inl (y _ _ hR),lk,λZ H5 a4 J e5=>?_⟩;have d:=y.trans J
 refine⟨x,e,_,rfl,d _ _ a.ins,sG,?_⟩;refine⟨x,b,n,j,p,t,e,m,_,rfl,d _ _ a.ins,d _ _ a.log,λY H6 S v e6=>?_⟩;have c:=d.trans v
 refine⟨x,e,_,rfl,c _ _ a.ins,B8,?_⟩;refine⟨x,b,n,j,p,t,e,m,V,O,bk,u,rfl,c _ _ a.ins,aM c W,i.keep c,by ((try clear a5);omega),ok,a.Yy.Vb.keep c,a.Yy.le,a.Yy.cw,λX H7 R k e7=>?_⟩
 have l:=c.trans k
 refine⟨by show 4<=sizeLine;decide,λrs o=>?_⟩
 have k8:=aG o (.lst [.ref r1,.ref Z,.ref Y,.ref X])
 exact q rs r1 Z Y X I _ (l.trans k8) aD (Y8.keep ⟨(J.trans (v.trans k)) _ _ e4,r.keep (J.trans (v.trans k)),(v.trans k) _ _ e5,k _ _ e6,e7⟩ k8) (none_of l o) T (none_of d S) (none_of c R)
inductive xE(C g:Addr)(j:List V)(H:Hp)(Q:VK)(zz3:XK):Prop|mk(x b l k o s q:Addr)(m:Nat)(t:List (Str×Str))(e:List (List Nat))(a:List (List (List Nat)))(p:Nat->Option Int)(r:List Dd)(c:List Addr)(n:List (Option (List Nat)))(f:Nat->Option Int)(i:Addr)(d:Dd)(_:j=[.ref x,.ref i])(_:Zh C H x b l k o s q m t e a p r c n f)(_:a.Nodup)(_:1<=m)(_:H i=some (.tup d.vs))(_:d.ok a m)(_:c.length<=500)(_:cR g H)(_:∀h,ZY g H h->cR g h->Q (.bl true) h):xE C g j H Q zz3
def i0:Z9 ["_law_tower", "_law_deed_here", "_law_state_here", "_law_other", "_law_one"] ["_law_tower", "_law_deed_here"] (aJ rD):=by fail "sc"
def D9(F:ZT K "_law_again" "_law_again" rD f fd)(y9:ZR P w K mg base 8 "_law_state" ["_law_tower"] (oU Z0))(n5:qP ZS P w K mg base 17 Z0 "again" ["self"] (iA Z0 Pt))(wT:ZR P w K mg base 17 "_law_done" ["_law_tower", "_law_deed_here"] (rH Z0 Pt)):Z8 P w K mg base ZS 19 f fd ["_law_tower", "_law_deed_here"] (xE Z0 Pt):=by
 refine F.ok i0 (λvs H Q E h=>?_) (λcdv A outer s H vs Q E hr h=>?_)
 .obtain⟨x,b,s0,st,hg,dd,dx,m,bk,cws,mss,f0,ds,dps,hs,f,dp,d,rfl,_⟩:=h;rfl
 obtain⟨x,b,s0,st,hg,dd,dx,m,bk,cws,mss,f0,ds,dps,hs,f,dp,d,rfl,tw,nd,m1,hdp,Z3,SO,lam,q⟩:=h;refine⟨_,(@aE _ _ _ _ _ (aP 2 i0.nd (aT y9 hr (by decide) rfl (aA (mv 0) aB))) (@aE _ _ _ _ _ (aP 3 i0.nd (iS n5 G.Z7 hr (by decide) (mv 0))) (@aE _ _ _ _ _ (cD (PW.pt (sU (bB (Sg hr.units) (aT y9 hr (by decide) rfl (aA (mv 3) aB)) (mv 2) (bA _)) (mG (bB (Sg hr.units) (aT y9 hr (by decide) rfl (aA (mv 0) aB)) (mv 2) (bA _))))) (@aI _ _ _ (aU oJ)) bE) (@aE _ _ _ _ _ (cV Bs rfl (bT (bQ (aA (mv 1) (aA (cU (@cG _ _ _ _ _ _ (aA aK aB))) (aA (cU (@cG _ _ _ _ _ _ (@cG _ _ _ _ _ _ aB))) aB))))) (aZ (i:=4) i0.nd rfl (Or.inl rfl)) (@aI _ _ _ (bU (aT wT hr (by decide) rfl (aA (mv 3) (aA (mv 4) aB)))))) (@aI _ _ _ (aU (eQ (RV hr.units) (aT y9 hr (by decide) rfl (aA (mv 0) aB)) (mv 2) (bA _)))))))),?_⟩
 have ok:=tw.tw.ok
 fail "g";refine⟨x,b,s0,st,hg,dd,dx,m,bk,cws,mss,f0,ds,dps,hs,f,rfl,tw,by (exact Nat.le_trans (by assumption) (by decide)),λr r1 r2 r3 r4 us H1 s1 er S1 _ _ _ _=>?_⟩
 have Xh:=tw.keep s1
 have l1:=lam.keep s1
 fail "g";refine⟨x,dx,_,rfl,Xh.ins,sW,?_⟩;fail "g";refine⟨x,b,s0,st,hg,dd,dx,m,bk,cws,mss,f0,ds,dps,hs,f,rfl,Xh,nd,by (exact Nat.le_trans (by assumption) (by decide)),l1,λy b' s0' st' hg' dd' dy H2 s2 l2 hy hb' hh' hd' ty=>?_⟩
 have S2:=S1.Y1 ok s2 l1
 have er2:=X7 s2 l1 er λ_=>nofun
 have Xz:=Xh.Y1 s2 l1
 fail "g";refine⟨y,b',s0',st',hg',dd',dy,m,bk,cws,mss,f0,ds,dps,hs,f,rfl,ty,by (exact Nat.le_trans (by assumption) (by decide)),λq0 q1 q2 q3 q4 us3 H3 s3 eq3 S3 _ _ _ _=>?_⟩
 refine VF (neg:=true) 2 (aO eq3) (aO (s3 _ _ er2)) rfl (S3.alike (S2.keep s3)) ?_;fail "g";refine⟨x,b,s0,st,hg,dd,dx,m,bk,cws,mss,f0,ds,dps,hs,f,rfl,Xz.keep s3,by (exact Nat.le_trans (by assumption) (by decide)),λp0 p1 p2 p3 p4 us4 H4 s4 eq4 S4 _ _ _ _=>?_⟩
 have s24:=s3.trans s4
 refine VF (neg:=true) 2 (aO eq4) (aO (s24 _ _ er2)) rfl (S4.alike (S2.keep s24)) ?_;fail "g";refine⟨r0,λp5 hp5=>?_⟩
 have k5:=s24.trans (aG hp5 (.tup (Dd.lower 0).vs))
 have e5:(upd H4 p5 (.tup (Dd.lower 0).vs)) p5=some (.tup (Dd.lower 0).vs):=aD
 change VV _ _ _ (upd H4 p5 (.tup (Dd.lower 0).vs)) _
 generalize upd H4 p5 (.tup (Dd.lower 0).vs)=H5 at k5 e5 ⊢;fail "g";refine⟨r0,λp6 hp6=>?_⟩
 have k56:=aG hp6 (.tup (Dd.find 97).vs)
 have k6:=k5.trans k56
 have e6:(upd H5 p6 (.tup (Dd.find 97).vs)) p6=some (.tup (Dd.find 97).vs):=aD
 have e56:=k56 _ _ e5
 change wF _ (upd H5 p6 (.tup (Dd.find 97).vs)) _
 generalize upd H5 p6 (.tup (Dd.find 97).vs)=H6 at k6 e6 e56 ⊢;fail "g";refine⟨za0,λp7 hp7=>?_⟩
 have k67:=aG hp7 (.lst [V.ref dp,V.ref p5,V.ref p6])
 have k7:=k6.trans k67
 have f7:(upd H6 p7 (.lst [V.ref dp,V.ref p5,V.ref p6])) p7=some (.lst [V.ref dp,V.ref p5,V.ref p6]):=aD
 have e7:=aO f7
 have e57:=k67 _ _ e56
 have e67:=k67 _ _ e6
 generalize upd H6 p7 (.lst [V.ref dp,V.ref p5,V.ref p6])=H7 at k7 f7 e7 e57 e67 ⊢;have ty7:=ty.keep k7
 have l7:=l2.keep k7
 have hdp7:=k7 _ _ (X7 s2 l1 (s1 _ _ hdp) λ_=>nofun)
 have np7:p7∉[y,dd',Pt]:=XD (λz=>by rw[z,k6 _ _ ty.ins]at hp7;cases hp7) (λz=>by rw[z,k6 _ _ ty.log]at hp7;cases hp7) (dR l7 f7 λ_=>nofun)
 fail "g";refine fX (xs:=[V.ref dp,V.ref p5,V.ref p6]) (λi U H'=>∃(st1 hg1:Addr) (ds1:List Dd) (dps1:List Addr) (hs1:Q4) (f1:Nat->Option Int) (v4:Option V),U=[some (.ref x),some (.ref dp),some (.ref r),some (.ref y),v4]/\Z1 [y,dd',Pt] H7 H'/\cR Pt H'/\dps1.length<=500+i/\Zh Z0 H' y b' s0' st1 hg1 dd' dy m bk cws mss f0 ds1 dps1 hs1 f1)
  ⟨st',hg',ds,dps,_,_,_,rfl,λ_ _ _ e=>e,l7,SO,ty7⟩ (λi U H' _ ⟨_,_,_,_,_,_,_,_,sE,_⟩=>TK sE np7 e7) ?_ ?_
 .rintro i v U H8 hv ⟨st1,hg1,ds1,dps1,hs1,f1,v4,rfl,sE8,l8,hd8,t8⟩;have hi:i<3:=(Ad.mp hv).1
  obtain⟨p,d',rfl,ep,hok'⟩:∃(p:Addr) (d':Dd),v=.ref p/\H7 p=some (.tup d'.vs)/\d'.ok mss m:=by
   match i,hv with
   |0,hv=>cases hv;exact⟨_,d,rfl,hdp7,Z3⟩
   |1,hv=>cases hv;exact⟨_,.lower 0,rfl,e57,m1⟩
   |2,hv=>cases hv;exact⟨_,.find 97,rfl,e67,.inl (by unfold aX;decide)⟩
   |i+3,hv=>cases hv
  have ep8:=sE8 _ _ (λz=>(ty7.X_ l7 _ z).1 _ ep) ep
  fail "g";refine⟨y,b',s0',st1,hg1,dd',dy,m,bk,cws,mss,f0,ds1,dps1,hs1,f1,p,d',rfl,t8,ep8,hok',by ((try clear SO m1);omega),l8,λst2 hg2 hs2 f2 H9 sE9 l9 _ t9=>?_,λH9 s9 l9 t9=>?_⟩
  .fail "g";exact⟨st2,hg2,_,_,hs2,f2,_,rfl,sE8.trans sE9,l9,by rw[Af];show _+1<=_;((try clear SO hi m1);omega),t9⟩
  .fail "g";exact⟨st1,hg1,ds1,dps1,hs1,f1,_,rfl,sE8.trans (VA s9),l9,by ((try clear SO hi m1);omega),t9⟩
 .rintro U H8 ⟨st1,hg1,ds1,dps1,hs1,f1,v4,rfl,sE8,l8,hd8,t8⟩;have s18:ZY Pt H1 H8:=λp o n e=>sE8 p o (XD (λz=>by rw[z,hy]at e;cases e) (λz=>by rw[z,hd']at e;cases e) n) (k7 _ _ (s2 p o n e))
  fail "g";refine⟨x,b,s0,st,hg,dd,dx,m,bk,cws,mss,f0,ds,dps,hs,f,rfl,Xh.Y1 s18 l1,by (exact Nat.le_trans (by assumption) (by decide)),λp0 p1 p2 p3 p4 us9 H9 s9 eq9 S9 _ _ _ _=>?_⟩
  refine VF (neg:=false) 2 (aO eq9) (aO (s9 _ _ (X7 s18 l1 er λ_=>nofun))) rfl (S9.alike ((S1.Y1 ok s18 l1).keep s9)) ?_;exact q H9 ((Z_.p s1).trans (s18.trans (Z_.p s9))) (l8.keep s9)
def Po{u:V}(a:(ps.map V.ref)[j]?=some u)(b:(ps.map V.ref)[j]?=some v):XR H 0 u v:=by
 rw[a]at b;cases b;rw[Ag]at a;obtain⟨p,_,rfl⟩:=Cd.mp a;exact XR.same (.inr ⟨p,rfl⟩)
def R7{z:Addr}(d:p≠x)(c:p≠y)(b:p≠z)(a:p≠u):p∉[x,y,z,u]:=λe=>by grind
def e4{z:Addr}(s:Z1 [x,y,z] H H'):Z1 [x,y,z,u] H H':=λp o n e=>s p o (λh=>n (by grind)) e
def d4{z:Addr}(s:Z1 [u] H H'):Z1 [x,y,z,u] H H':=λp o n e=>s p o (λh=>n (by grind)) e
def y8:Z9 ["_law_script", "_law_tower", "_law_book_here", "_law_totals", "_law_words", "_law_done_here", "_law_k", "_law_cell", "_law_deed_here", "_law_log", "_law_other", "_law_state_here"] ["_law_script"] (aJ wU):=by fail "sc"
def BG(F:ZT K "law" "law" wU f fd)(yB8:ZR P w K mg base 4 "_law_begun" ["_law_script"] (vT K Z0))(n5:qP ZS P w K mg base 17 Z0 "again" ["self"] (iA Z0 Pt))(y9:ZR P w K mg base 8 "_law_state" ["_law_tower"] (oU Z0))(wT:ZR P w K mg base 17 "_law_done" ["_law_tower", "_law_deed_here"] (rH Z0 Pt))(yB9:ZR P w K mg base 2 "_law_deed" ["_law_number", "_law_many", "_law_book_here"] Qc)(z7:qP ZS P w K mg base 1 Z0 "log" ["self"] (gU Z0))(i4:ZR P w K mg base 19 "_law_again" ["_law_tower", "_law_deed_here"] (xE Z0 Pt))(z8:ZR P w K mg base 1 "_law_mixed" ["_law_cell", "_law_k"] kG):Z8 P w K mg base ZS 20 f fd ["_law_script"] (Uz K Pt):=by
 refine F.ok y8 (λvs H Q E h=>?_) (λcdv A outer s H vs Q E hr h=>?_)
 .obtain⟨a,ns,rfl,_⟩:=h;rfl
 obtain⟨a,ns,rfl,hS,h63,hP,q⟩:=h;refine⟨_,(@aE _ _ _ _ _ (UX (aT yB8 hr (by decide) rfl (aA (mv 0) aB)) (KA rfl (jQ (aZ (i:=1) y8.nd rfl (Or.inl rfl)) (jQ (aZ (i:=2) y8.nd rfl (Or.inl rfl)) (jQ (aZ (i:=3) y8.nd rfl (Or.inl rfl)) (jQ (aZ (i:=4) y8.nd rfl (Or.inl rfl)) Rh)))))) (@aE _ _ _ _ _ (aP 5 y8.nd (bQ aB)) (@aE _ _ _ _ _ (cV Bs rfl (mW rfl G.b_enumerate (aA (iB Yk (mv 0) (fH aK) (fH aK)) aB)) (eT (K:=K) (i:=6) (j:=7) (by rfl) (by rfl) y8.nd (by rfl) (by exact(Or.inl rfl)) (by exact Or.inl rfl) (by rfl) (by exact(Or.inl rfl)) (by exact Or.inl rfl)) (@aE _ _ _ _ _ (aP 8 y8.nd (aT yB9 hr (by decide) rfl (aA (aT z8 hr (by decide) rfl (aA (mv 7) (aA (mv 6) aB))) (aA (aW cN rfl G.b_len bP (aA (mv 4) aB)) (aA (mv 2) aB))))) (@aE _ _ _ _ _ (cD (fK (aT wT hr (by decide) rfl (aA (mv 1) (aA (mv 8) aB)))) (@aI _ _ _ (bU (cI Bj Di Dj wR (mv 5) (aA (mv 8) aB)))) bE) (@aE _ _ _ _ _ (aP 9 y8.nd (iS z7 G.Z7 hr (by decide) (mv 1))) (@aE _ _ _ _ _ (cD (PW.pt (sU (pJ (fK (aW Kv rfl G.b_isinstance yE (aA (mv 9) (aA (Jb rfl G.b_list dX) aB))))) (mG (bB (Sg hr.units) (mv 9) (mv 5) (bA _))))) (@aI _ _ _ (aU oJ)) bE) (@aE _ _ _ _ _ (bU (cI Bj Di Dj wR (mv 9) (aA (mv 8) aB))) (@aI _ _ _ (cD (PW.pt (UQ (bB lC (aQ dD (mv 6) aK) aK (bA _)) (uD (pJ (fK (aT i4 hr (by decide) rfl (aA (mv 1) (aA (mv 8) aB)))))))) (@aI _ _ _ (aU oJ)) bE)))))))) (@aE _ _ _ _ _ (aP 10 y8.nd (iS n5 G.Z7 hr (by decide) (mv 1))) (@aE _ _ _ _ _ (aP 11 y8.nd (aT y9 hr (by decide) rfl (aA (mv 10) aB))) (@aE _ _ _ _ _ (bU (aT wT hr (by decide) rfl (aA (mv 1) (aA (cU (@cG _ _ _ _ _ _ (@cG _ _ _ _ _ _ aB))) aB)))) (@aE _ _ _ _ _ (bU (aT wT hr (by decide) rfl (aA (mv 1) (aA (cU (@cG _ _ _ _ _ _ (aA aK aB))) aB)))) (@aI _ _ _ (aU (qY (eQ (RV hr.units) (bI bZ (mv 11) aK (λ_ _=>rfl)) (mv 5) (bA _)) (qY (eQ (RV hr.units) (aT y9 hr (by decide) rfl (aA (mv 10) aB)) (mv 11) (bA _)) (UG (aT i4 hr (by decide) rfl (aA (mv 1) (aA (cU (@cG _ _ _ _ _ _ (aA aK aB))) aB))))))))))))))),?_⟩
 fail "u"
 with_reducible refine mF ?_
 fail "u";refine⟨a,ns,rfl,hS,h63,λr x dx rb rl rw' b s0 st hg dd bk cws mss f0 m H1 s1 er hbk hb1 hb8 nd m1 tw erw nrw nrb hxn hdn=>?_⟩;have lam1:cR Pt H1:=.inl (s1 _ _ hP)
 have rr:=aO er
 have hS1:=s1.seq hS
 fail "u"
 with_reducible refine mF ?_
 fail "u";refine⟨by decide,λD hD=>?_⟩
 have k2:=aG hD (.lst [])
 have e2:(upd H1 D (.lst [])) D=some (.lst (([]:List Addr).map V.ref)):=aD
 have nDd:D≠dd:=λz=>by rw[z,tw.log]at hD;cases hD
 have nDx:D≠x:=λz=>by rw[z,tw.ins]at hD;cases hD
 generalize upd H1 D (.lst [])=H2 at k2 e2 ⊢;have Xz:=tw.keep k2
 fail "u"
 with_reducible refine mF ?_
 fail "u";refine Oq (k2.seq hS1) λrc hrc=>?_;obtain⟨ms,em,hml⟩:=zJ ns 9 40 (by decide) (by decide)
 rw[show (9:Int)+40=49 from rfl]at em;rw[em];have k23:=aG hrc (.lst (ms.map V.int))
 have k3:=k2.trans k23
 have f3:(upd H2 rc (.lst (ms.map V.int))) rc=some (.lst (ms.map V.int)):=aD
 have e3:=k23 _ _ e2
 have nDc:rc≠D:=λz=>by rw[z,e2]at hrc;cases hrc
 have nxc:rc≠x:=λz=>by rw[z,Xz.ins]at hrc;cases hrc
 have ndc:rc≠dd:=λz=>by rw[z,Xz.log]at hrc;cases hrc
 generalize upd H2 rc (.lst (ms.map V.int))=H3 at k3 f3 e3 ⊢;have XY:=tw.keep k3
 have l3:=lam1.keep k3
 have rc3:=aO f3
 have hbk3:=hbk.keep k3
 have erw3:=k3 _ _ erw
 have nc:rc∉[x,dd,Pt,D]:=R7 nxc ndc (dR l3 f3 λ_=>nofun) nDc
 have nw:rw'∉[x,dd,Pt,D]:=R7 (λz=>by rw[z,XY.ins]at erw3;cases erw3) nrw (dR l3 erw3 λ_=>nofun) (λz=>by rw[<-z,erw]at hD;cases hD)
 obtain⟨qs,b1,_⟩:=id hbk3;have nb:rb∉[x,dd,Pt,D]:=R7 (λz=>by rw[z,XY.ins]at b1;cases b1) nrb (dR l3 b1 λ_=>nofun) (λz=>by obtain⟨q1,c1,_⟩:=hbk;rw[<-z,c1]at hD;cases hD)
 obtain⟨us0,qs0,u0,c0⟩:=tw.out;have nhD:hg≠D:=λz=>by rw[<-z,u0]at hD;cases hD
 have nbD:b≠D:=λz=>by rw[<-z,c0]at hD;cases hD
 have hcw:=tw.Yy.cw
 have hms:=tw.Yy.ms
 have dl3:yL H3 [x,dd,Pt,D]:=λp hp=>by
  simp only[List.mem_cons,List.not_mem_nil,or_false]at hp;rcases hp with z|z|z|z
  .exact XY.X_ l3 p (by rw[z];simp)
  .exact XY.X_ l3 p (by rw[z];simp)
  .exact XY.X_ l3 p (by rw[z];simp)
  .exact uI e3 p (by rw[z];simp)
 have hwl:(List.replicate m V.non).length=m:=Bz ..
 clear k2 k23 e2 Xz hS1 em f3 hrc hD rr er hS hP s1 erw hbk c0 u0;fail "u";refine tX (xs:=ms.map V.int) (λi U H'=>∃st1 hg1 ds1 dps1 hs1 f1 v6 v7 v8 v9 v10 v11,U=[some (.ref a),some (.ref x),some (.ref rb),some (.ref rl),some (.ref rw'),some (.ref D),v6,v7,v8,v9,v10,v11]/\Z1 [x,dd,Pt,D] H3 H'/\cR Pt H'/\dps1.length<=i/\H' D=some (.lst (dps1.map V.ref))/\hg1≠D/\Zh Z0 H' x b s0 st1 hg1 dd dx m bk cws mss f0 ds1 dps1 hs1 f1)
  ⟨st,hg,[],[],_,_,_,_,_,_,_,_,rfl,λ_ _ _ e=>e,l3,Ah _,e3,nhD,XY⟩ (λi U H' _ ⟨_,_,_,_,_,_,_,_,_,_,_,_,_,sE,_⟩=>TK sE nc rc3) ?_ ?_
 .rintro i v U H4 pt hv ⟨st1,hg1,ds1,dps1,hs1,f1,v6,v7,v8,v9,v10,v11,rfl,sE4,l4,hd4,eD4,nh4,t4⟩ hpt;rw[Ag]at hv;obtain⟨cell,hcell,rfl⟩:=Cd.mp hv;have hi:i<40:=by have:=(Ad.mp hcell).1;((try clear h63 hb1 hb8 hd4 hwl m1 nDc nDd nDx nbD ndc nh4 nhD nrb nrw nxc);omega)
  have k5:=aG hpt (.tup [.int ((0+i:Nat):Int),.int cell])
  have t5:=cX (show (upd H4 pt (.tup [.int ((0+i:Nat):Int),.int cell])) pt=_ from aD)
  generalize upd H4 pt (.tup [.int ((0+i:Nat):Int),.int cell])=H5 at k5 t5 ⊢;have bk5:=(hbk3.ZJ sE4 nb dl3).keep k5
  have rw5:=aO (k5 _ _ (sE4 _ _ nw erw3))
  clear hpt hv hcell;fail "u"
  with_reducible refine mF ?_
  fail "u";refine⟨cell,_,rfl,by (exact Int.natCast_nonneg _),by ((try clear h63 hb1 hb8 hd4 hml hwl m1 nDc nDd nDx nbD ndc nh4 nhD nrb nrw nxc);omega),λN hN=>?_⟩
  fail "u";rw[hwl];refine⟨N,m,rb,bk,cws,mss,rfl,hN,m1,bk5,hcw,hms,hb1,hb8,λdp d H6 s6 hdp edp Z3=>?_⟩;have k6:=k5.trans s6
  have t6:=t4.keep k6
  have l6:=l4.keep k6
  have eD6:=k6 _ _ eD4
  have sE6:=sE4.trans (.of k6)
  clear t5 bk5 rw5 k5 s6 eD4 l4 hdp sE4;fail "u"
  with_reducible refine Ud (λU' H'=>∃st2 hg2 ds2 dps2 hs2 f2,U'=[some (.ref a),some (.ref x),some (.ref rb),some (.ref rl),some (.ref rw'),some (.ref D),some (.int ((0+i:Nat):Int)),some (.int cell),some (.ref dp),v9,v10,v11]/\Z1 [x,dd,Pt,D] H3 H'/\cR Pt H'/\dps2.length<=i+1/\H' D=some (.lst (dps2.map V.ref))/\hg2≠D/\H' dp=some (.tup d.vs)/\Zh Z0 H' x b s0 st2 hg2 dd dx m bk cws mss f0 ds2 dps2 hs2 f2) (λU2 H7 j1=>?_) (λM hM=>?_)
  case refine_2=>
   fail "u";refine⟨x,b,s0,st1,hg1,dd,dx,m,bk,cws,mss,f0,ds1,dps1,hs1,f1,dp,d,rfl,t6,edp,Z3,by ((try clear h63 hN hb1 hb8 hml hwl m1 nDc nDd nDx nbD ndc nh4 nhD nrb nrw nxc);omega),l6,λst2 hg2 hs2 f2 H7 sE7 l7 hh7 t7=>?_,λH7 s7 l7 t7=>?_⟩
   .have eD7:=sE7 _ _ (XD nDx nDd (dR l6 eD6 λ_=>nofun)) eD6
    have mD:=bM eD7
    have edp7:=sE7 _ _ (λz=>(t6.X_ l6 _ z).1 _ edp) edp
    have nh7:hg2≠D:=λz=>by
     rcases hh7 with e|e
     .exact nh4 (e.symm.trans z)
     .rw[z,eD6]at e;cases e
    have SO:(dps1.map V.ref).length<=1000:=by rw[Ab];((try clear h63 hN hb1 hb8 hh7 hml hwl m1 nDc nDd nDx nbD ndc nh4 nh7 nhD nrb nrw nxc);omega)
    fail "u";have sE8:Z1 [D] H7 (upd H7 D (.lst (dps1.map V.ref++[.ref dp]))):=λp o n e=>by rw[aH (λz=>n (Aj.mpr z))];exact e
    have nd1:∀ {p:Addr},p≠D->p∉[D]:=λn z=>n (Aj.mp z)
    have t8:=t7.ZJ sE8 (nd1 nDx.symm) (nd1 nh7) (nd1 nbD) (nd1 nDd.symm) (uI eD7)
    refine hM _ _ ⟨st2,hg2,_,_,hs2,f2,rfl,(sE6.trans (e4 sE7)).trans (d4 sE8),RJ l7 sE8 (nd1 λz=>dR l7 eD7 (λ_=>nofun) z.symm) (λc hc=>nd1 λz=>by rw[z,eD7]at hc;cases hc),by rw[Af];show _+1<=_;((try clear SO h63 hN hb1 hb8 hh7 hi hml hwl m1 nDc nDd nDx nbD ndc nh4 nh7 nhD nrb nrw nxc);omega),by rw[aD,Ap];rfl,nh7,sE8 _ _ (λz=>(uI eD7 _ z).1 _ edp7) edp7,t8⟩
   .fail "u";exact hM _ _ ⟨st1,hg1,ds1,dps1,hs1,f1,rfl,sE6.trans (e4 (VA s7)),l7,by ((try clear h63 hN hb1 hb8 hi hml hwl m1 nDc nDd nDx nbD ndc nh4 nhD nrb nrw nxc);omega),X7 s7 l6 eD6 λ_=>nofun,nh4,X7 s7 l6 edp λ_=>nofun,t7⟩
  obtain⟨st2,hg2,ds2,dps2,hs2,f2,rfl,sE7,l7,hd7,eD7,nh7,edp7,t7⟩:=j1;clear sE6 l6 edp t6 eD6 k6 hd4 t4 nh4;fail "u"
  with_reducible refine mF ?_
  fail "u";refine⟨x,dx,_,rfl,t7.ins,sG,?_⟩;fail "u";refine⟨x,b,s0,st2,hg2,dd,dx,m,_,rfl,t7.ins,t7.log,λrg H8 hrg s8 e8=>?_⟩;have eD8:=s8 _ _ eD7
  have rg8:=aO e8
  have rD8:=aO eD8
  fail "u"
  with_reducible refine mF ?_
  fail "u";refine VF (neg:=true) 0 rg8 rD8 rfl (λj u v hu hv=>Po hu hv) ?_;have mg8:=bM e8
  have hdl8:(dps2.map V.ref).length<=1000:=by rw[Ab];((try clear h63 hN hb1 hb8 hml hwl m1 nDc nDd nDx nbD ndc nh7 nhD nrb nrw nxc);omega)
  fail "u"
  with_reducible refine mF ?_
  fail "u";have s9:Z_ H7 (upd H8 rg (.lst (dps2.map V.ref++[.ref dp]))):=bL hrg s8
  generalize upd H8 rg (.lst (dps2.map V.ref++[.ref dp]))=H9 at s9 ⊢;have t9:=t7.keep s9
  have eD9:=s9 _ _ eD7
  have edp9:=s9 _ _ edp7
  have l9:=l7.keep s9
  have sE9:=sE7.trans (.of s9)
  clear mg8 rg8 rD8 e8 eD8 s8 hrg t7 eD7 edp7 l7 sE7;fail "u";refine dW (λ_=>?_) (λ_=>?_)
  .fail "u";refine⟨x,b,s0,st2,hg2,dd,dx,m,bk,cws,mss,f0,ds2,dps2,hs2,f2,dp,d,rfl,t9,nd,m1,edp9,Z3,by ((try clear h63 hN hb1 hb8 hdl8 hml hwl m1 nDc nDd nDx nbD ndc nh7 nhD nrb nrw nxc);omega),l9,λH10 s10 l10=>?_⟩
   fail "u";exact⟨st2,hg2,ds2,dps2,hs2,f2,_,_,_,_,_,_,rfl,sE9.trans (e4 (VA s10)),l10,hd7,X7 s10 l9 eD9 λ_=>nofun,nh7,t9.Y1 s10 l9⟩
  .fail "u";exact⟨st2,hg2,ds2,dps2,hs2,f2,_,_,_,_,_,_,rfl,sE9,l9,hd7,eD9,nh7,t9⟩
 .rintro U H4 ⟨st1,hg1,ds1,dps1,hs1,f1,v6,v7,v8,v9,v10,v11,rfl,sE4,l4,hd4,eD4,nh4,t4⟩;rw[Ab]at hd4;clear sE4 rc3 hbk3 erw3 nc nw b1 nb dl3 XY l3 k3 tw lam1 e3;fail "u"
  with_reducible refine mF ?_
  fail "u";refine⟨x,dx,_,rfl,t4.ins,sW,?_⟩;fail "u";refine⟨x,b,s0,st1,hg1,dd,dx,m,bk,cws,mss,f0,ds1,dps1,hs1,f1,rfl,t4,nd,by ((try clear h63 hb1 hb8 hwl m1 nDc nDd nDx nbD ndc nh4 nhD nrb nrw nxc);omega),l4,λy b' s0' st' hg' dd' dy H5 s5 l5 hy hb' hh' hd' ty=>?_⟩
  have t5:=t4.Y1 s5 l4
  have eD5:=X7 s5 l4 eD4 λ_=>nofun
  have nyx:y≠x:=λz=>by rw[z,t4.ins]at hy;cases hy
  have nyd:y≠dd:=λz=>by rw[z,t4.log]at hy;cases hy
  have WK:b'≠dd:=λz=>by rw[z,t4.log]at hb';cases hb'
  have nhd:hg'≠dd:=λz=>by rw[z,t4.log]at hh';cases hh'
  have ndd:dd'≠dd:=λz=>by rw[z,t4.log]at hd';cases hd'
  clear s5 t4 l4 eD4;fail "u"
  with_reducible refine mF ?_
  fail "u";refine⟨y,b',s0',st',hg',dd',dy,m,bk,cws,mss,f0,ds1,dps1,hs1,f1,rfl,ty,by ((try clear WK h63 hb1 hb8 hwl m1 nDc nDd nDx nbD ndc ndd nh4 nhD nhd nrb nrw nxc nyd nyx);omega),λr r1 r2 r3 r4 us6 H6 s6 er6 S6 hr0 hr1 hr3 hr4=>?_⟩
  have t6:=t5.keep s6
  have ty6:=ty.keep s6
  have eD6:=s6 _ _ eD5
  have l6:=l5.keep s6
  have ok1:=t5.tw.ok
  have ne:∀ {p:Addr},H5 p=none->p≠x/\p≠dd/\p≠Pt:=fun {p} e=>⟨(λz=>by rw[z,t5.ins]at e;cases e),(λz=>by rw[z,t5.log]at e;cases e),λz=>by obtain⟨tb,et⟩:=l5.tb;rw[z,et]at e;cases e⟩
  obtain⟨uy,qy,uy1,qy1⟩:=ty6.out;have ny:∀ {p:Addr} {o:HO},H6 p=some o->(∀ps,o≠.tbl ps)->p≠x->p≠dd->p∉[x,dd,Pt]:=λh n n1 n2=>XD n1 n2 (dR l6 h n)
  have keepY:∀ {H7 H8:Hp},Z1 [x,dd,Pt] H6 H7->Z_ H7 H8->Zh Z0 H8 y b' s0' st' hg' dd' dy m bk cws mss f0 ds1 dps1 hs1 f1/\Y8 H8 hs1 f1 dps1 cws us6 r1 r2 r3 r4/\H8 r=some (.lst [.ref r1,.ref r2,.ref r3,.ref r4])/\H8 D=some (.lst (dps1.map V.ref)):=λs s'=>⟨(ty6.ZJ s (ny ty6.ins (λ_=>nofun) nyx nyd) (ny uy1 (λ_=>nofun) (λz=>by rw[z,t6.ins]at uy1;cases uy1) nhd) (ny qy1 (λ_=>nofun) (λz=>by rw[z,t6.ins]at qy1;cases qy1) WK) (ny ty6.log (λ_=>nofun) (λz=>by have:=ty6.log;rw[z,t6.ins]at this;cases this) ndd) (t6.X_ l6)).keep s',(S6.ZJ ok1 s (t6.X_ l6) (XD (ne hr1).1 (ne hr1).2.1 (ne hr1).2.2) (XD (ne hr3).1 (ne hr3).2.1 (ne hr3).2.2) (XD (ne hr4).1 (ne hr4).2.1 (ne hr4).2.2)).keep s',s' _ _ (s _ _ (XD (ne hr0).1 (ne hr0).2.1 (ne hr0).2.2) er6),s' _ _ (s _ _ (XD nDx nDd (dR l6 eD6 λ_=>nofun)) eD6)⟩
  fail "u"
  with_reducible refine Ud (λU' H'=>∃st7 hg7 ds7 dps7 hs7 f7,U'=[some (.ref a),some (.ref x),some (.ref rb),some (.ref rl),some (.ref rw'),some (.ref D),v6,v7,v8,v9,some (.ref y),some (.ref r)]/\Z1 [x,dd,Pt] H6 H'/\cR Pt H'/\dps7.length<=41/\Zh Z0 H' x b s0 st7 hg7 dd dx m bk cws mss f0 ds7 dps7 hs7 f7) (λU2 H7 j1=>?_) (λM hM=>?_)
  case refine_2=>
   fail "u";refine⟨r0,λp7 hp7=>?_⟩
   have k7:=aG hp7 (.tup (Dd.find 98).vs)
   have e7:(upd H6 p7 (.tup (Dd.find 98).vs)) p7=some (.tup (Dd.find 98).vs):=aD
   change wF _ (upd H6 p7 (.tup (Dd.find 98).vs)) _
   generalize upd H6 p7 (.tup (Dd.find 98).vs)=H7 at k7 e7 ⊢;fail "u";refine⟨x,b,s0,st1,hg1,dd,dx,m,bk,cws,mss,f0,ds1,dps1,hs1,f1,p7,.find 98,rfl,t6.keep k7,e7,.inl (by unfold aX;decide),by ((try clear WK h63 hb1 hb8 hwl m1 nDc nDd nDx nbD ndc ndd nh4 nhD nhd nrb nrw nxc nyd nyx);omega),l6.keep k7,λst2 hg2 hs2 f2 H8 sE8 l8 _ t8=>?_,λH8 s8 l8 t8=>?_⟩
   .fail "u";exact hM _ _ ⟨st2,hg2,_,_,hs2,f2,rfl,(Z1.of k7).trans sE8,l8,by rw[Af];show _+1<=41;((try clear WK h63 hb1 hb8 hwl m1 nDc nDd nDx nbD ndc ndd nh4 nhD nhd nrb nrw nxc nyd nyx);omega),t8⟩
   .fail "u";exact hM _ _ ⟨st1,hg1,ds1,dps1,hs1,f1,rfl,(Z1.of k7).trans (VA s8),l8,by ((try clear WK h63 hb1 hb8 hwl m1 nDc nDd nDx nbD ndc ndd nh4 nhD nhd nrb nrw nxc nyd nyx);omega),t8⟩
  obtain⟨st7,hg7,ds7,dps7,hs7,f7,rfl,sE7,l7,hd7,t7⟩:=j1;fail "u"
  with_reducible refine Ud (λU' H'=>∃st7 hg7 ds7 dps7 hs7 f7,U'=[some (.ref a),some (.ref x),some (.ref rb),some (.ref rl),some (.ref rw'),some (.ref D),v6,v7,v8,v9,some (.ref y),some (.ref r)]/\Z1 [x,dd,Pt] H6 H'/\cR Pt H'/\dps7.length<=42/\Zh Z0 H' x b s0 st7 hg7 dd dx m bk cws mss f0 ds7 dps7 hs7 f7) (λU2 H8 j1=>?_) (λM hM=>?_)
  case refine_2=>
   fail "u";refine⟨r0,λp8 hp8=>?_⟩
   have k8:=aG hp8 (.tup (Dd.lower 0).vs)
   have e8:(upd H7 p8 (.tup (Dd.lower 0).vs)) p8=some (.tup (Dd.lower 0).vs):=aD
   change wF _ (upd H7 p8 (.tup (Dd.lower 0).vs)) _
   generalize upd H7 p8 (.tup (Dd.lower 0).vs)=H8 at k8 e8 ⊢;fail "u";refine⟨x,b,s0,st7,hg7,dd,dx,m,bk,cws,mss,f0,ds7,dps7,hs7,f7,p8,.lower 0,rfl,t7.keep k8,e8,m1,by (exact Nat.le_trans (by assumption) (by decide)),l7.keep k8,λst2 hg2 hs2 f2 H9 sE9 l9 _ t9=>?_,λH9 s9 l9 t9=>?_⟩
   .fail "u";exact hM _ _ ⟨st2,hg2,_,_,hs2,f2,rfl,(sE7.trans (.of k8)).trans sE9,l9,by rw[Af];show _+1<=42;(exact Nat.lt_of_le_of_lt (by assumption) (by decide)),t9⟩
   .fail "u";exact hM _ _ ⟨st7,hg7,ds7,dps7,hs7,f7,rfl,(sE7.trans (.of k8)).trans (VA s9),l9,by (exact Nat.le_trans (by assumption) (by decide)),t9⟩
  obtain⟨st8,hg8,ds8,dps8,hs8,f8,rfl,sE8,l8,hd8,t8⟩:=j1;obtain⟨ty8,S8,er8,eD8⟩:=keepY sE8 (Z_.refl _);fail "u";refine dG (aO er8) (v:=.ref r3) (aY (j:=2) rfl) ?_;fail "u";refine VF (neg:=false) 0 (aO S8.h3) (aO eD8) rfl (λj u v hu hv=>Po hu hv) ?_;fail "u";refine⟨y,b',s0',st',hg',dd',dy,m,bk,cws,mss,f0,ds1,dps1,hs1,f1,rfl,ty8,by ((try clear WK h63 hb1 hb8 hd7 hd8 hwl m1 nDc nDd nDx nbD ndc ndd nh4 nhD nhd nrb nrw nxc nyd nyx);omega),λp0 p1 p2 p3 p4 us9 H9 s9 er9 S9 _ _ _ _=>?_⟩
  refine VF (neg:=false) 2 (aO er9) (aO (s9 _ _ er8)) rfl (S9.alike (S8.keep s9)) ?_;fail "u";refine⟨r0,λpz hpz=>?_⟩
  have kz:=aG hpz (.tup (Dd.lower 0).vs)
  have ez:(upd H9 pz (.tup (Dd.lower 0).vs)) pz=some (.tup (Dd.lower 0).vs):=aD
  change wF _ (upd H9 pz (.tup (Dd.lower 0).vs)) _
  generalize upd H9 pz (.tup (Dd.lower 0).vs)=H10 at kz ez ⊢;fail "u";exact⟨x,b,s0,st8,hg8,dd,dx,m,bk,cws,mss,f0,ds8,dps8,hs8,f8,pz,.lower 0,rfl,t8.keep (s9.trans kz),nd,m1,ez,m1,by (exact Nat.le_trans (by assumption) (by decide)),l8.keep (s9.trans kz),λH' _ _=>q H'⟩
end
variable {A:List (Nat×Wt)}{ch:Wt->List Nat}{first w:Wt}{m:List (Wt×Nat)}{ws:List Wt}
def Vj(K:W.Frag)(x q:Str)(st:Stmt)(f:Addr):Prop:=∃e d b g h c j a i,K.lookup f=some ⟨e,d,.func (W.fnOf x q (kT st) (fY st) (aJ st) .none g h c j a i),b⟩/\W.codeIn K a q=true/\W.keepIn K (.ref f)=true
abbrev ZO(K:W.Frag)(x:Str)(st:Stmt)(f:Addr):Prop:=W.nsIn K mainGlobals x=some (some (.ref f))/\Vj K x x st f
abbrev Ws(K:W.Frag)(C:Addr)(x q:Str)(st:Stmt)(f:Addr):Prop:=W.findIn K (.ref C) x=some (some (.ref f))/\W.isFn K (.ref f)=true/\Vj K x q st f
abbrev UE(K:W.Frag)(C:Addr)(q:Str)(st:Stmt)(f:Addr):Prop:=W.findIn K (.ref C) "__init__"=some (some (.ref f))/\W.typeIn K (.ref f)=some (.type "function")/\Vj K "__init__" q st f
abbrev UK(x q:Str)(st:Stmt)(ps:List Str):Prop:=∀(kV doc pm:Value) (an:Option Addr) (cdv ct:Value) (us:List Value),us.length=ps.length->bindArgs (W.fnOf x q (kT st) (fY st) (aJ st) .none kV doc pm an cdv ct) ⟨us,[]⟩=pure (ps.zip us)
def Vj.c{w:World}{K:W.Frag}{a:Heap}{CX:Yb}{x q:Str}{st:Stmt}{ps:List Str}{sp:Sp}(p:Vj K x q st f)(o:∀ {b:FuncData},ZT K x q st f b->Z8 P w K mg a CX k f b ps sp)(d:UK x q st ps):∃b,Z8 P w K mg a CX k f b ps sp/\W.keepIn K (.ref f)=true/\Binds K b ps []:=by
 obtain⟨_,_,_,_,_,_,_,_,_,l,c,k⟩:=p;have F:=UP  l c k
 exact⟨_,o F,k,F.binds d⟩
local macro_rules | `(tactic| fail "bd") => `(tactic| (intro a1 a2 a3 a4 a5 a6 us hl; iterate 7 (all_goals try (rcases us with _ | ⟨u,us⟩; (· first | rfl | (simp at hl)))); all_goals (simp at hl)))
def all_mk{l:W.OpenLaw}{w:World}{K:W.Frag}{h:Heap}{fa:Addr}{f_0 f_1 f_2 f_3 f_4 f_5 f_6 f_7 f_8 f_9 v1 u9 u4 u3 u2 u1 t9 t8 t7 t6 t5 t4 t3 t2 t1 r9 r8 r7 r6 r5 r4 r3 r2 r1 q9 q8 q7 q6 q5 q4 q3 q2 q1 p8 p7 p6 p5 p4 p3 p2 p1 n9 n7 n6 n4 n3 n2 n1 m9 m8 m7 m6 m5 m4 m3 m2 m1 k9:Addr}{a6 A Y u t J B m:Tok}{i:Addr}{j:Array DictEntry}{S:Nat}{c:Addr}(X:K.In h)(Gn:h.Ns mainGlobals mg)(hfa:mg "law"=some (.ref fa))(TH:UA h mg "longest_on" c)(b8:W.nsIn K mainGlobals "Lack"=some (some (.ref Zs)))(P:W.nsIn K mainGlobals "TowerError"=some (some (.ref Zz)))(b2:W.nsIn K mainGlobals "Short"=some (some (.ref Zt)))(Z:W.nsIn K mainGlobals "NoHoist"=some (some (.ref Zx)))(b1:W.nsIn K mainGlobals "Tower"=some (some (.ref Z0)))(a4:W.nsIn K mainGlobals "NoDeed"=some (some (.ref Zu)))(V:W.nsIn K mainGlobals "NoHalyard"=some (some (.ref Zy)))(a2:W.nsIn K mainGlobals "NoWord"=some (some (.ref Zv)))(a3:W.nsIn K mainGlobals "NoFlag"=some (some (.ref Zw)))(p_0:ZO K "_law_mixed" rP f_0)(p_1:ZO K "_law_word" xF f_1)(z9:ZO K "_law_book" vA f_2)(z4:ZO K "_law_checked" iR f_3)(z3:ZO K "_law_flags" rF f_4)(z2:ZO K "_law_cell_at" lZ f_5)(z1:ZO K "plain_locker" hV f_6)(d4:Ws K Z0 "__init__" "Tower.__init__" kJ f_7)(y8:ZO K "_law_begun" rK f_8)(y7:Ws K Z0 "log" "Tower.log" mU f_9)(k8:ZO K "put_in" xC v1)(k7:ZO K "wants_of" kR u9)(k6:ZO K "choices_at" gR u4)(k5:ZO K "choices_of" kL u3)(k4:ZO K "hoists_of" lQ u2)(k3:ZO K "asked_from" gW u1)(k2:ZO K "hang_along" kA t9)(k1:UE K Zs "Lack.__init__" mL t8)(j8:ZO K "hang_all" eZ t7)(j7:ZO K "rank_of" rN t6)(j6:ZO K "is_divided" kF t5)(j5:ZO K "hidden_letter" eP t4)(j3:ZO K "check_of" pB t3)(j2:ZO K "with_check" kM t2)(j1:ZO K "flags_on" oM t1)(h9:ZO K "all_flags_on" iF r9)(h8:UE K Zt "Short.__init__" kC r8)(h7:ZO K "taken" Sw r7)(h6:ZO K "is_term" rZ r6)(h5:ZO K "is_row_of_terms" fI r5)(h4:ZO K "terms_of" oS r4)(h3:ZO K "meanings_of" jI r3)(h2:ZO K "standing_at" gC r2)(h1:ZO K "least_numbers" eU r1)(b4:ZO K "longest_on" dS q9)(g9:ZO K "cut_text" pH q8)(g8:ZO K "behind_say" gQ q7)(g7:ZO K "look_for_halyard" eV q6)(b3:ZO K "rising_lists" dO q5)(g6:ZO K "sets_of" rO q4)(g5:ZO K "others_hung" gD q3)(g4:ZO K "lack_of" rW q2)(g3:ZO K "is_flag" rX q1)(g2:ZO K "may_stand" lR p8)(g1:ZO K "is_hoist" oW p7)(f9:ZO K "read_of" rJ p6)(f8:ZO K "words_with" gP p5)(f7:ZO K "least_set" mP p4)(f5:ZO K "hauled" vC p3)(f4:ZO K "is_word" sC p2)(f3:ZO K "is_checked" kK p1)(f2:UE K Zv "NoWord.__init__" jG n9)(f1:ZO K "behind_haul" jK n7)(e9:ZO K "behind_lower" iH n6)(e8:ZO K "look_for_flag" gK n4)(e7:ZO K "behind_lose" jC n3)(e6:ZO K "behind_find" jA n2)(e5:ZO K "behind_deed" jH n1)(e4:Ws K Z0 "do" "Tower.do" oZ m9)(e3:Ws K Z0 "again" "Tower.again" iZ m8)(e2:Ws K Z0 "halyards" "Tower.halyards" fU m7)(e1:Ws K Z0 "locker" "Tower.locker" iE m6)(d9:Ws K Z0 "read" "Tower.read" gY m5)(d8:ZO K "_law_state" rY m4)(d7:ZO K "_law_done" xK m3)(d6:ZO K "_law_deed" vE m2)(d5:ZO K "_law_again" rD m1)(b9:ZO K "law" wU k9)(a5:W.nsIn K mainGlobals "range"=some none)(U:W.nsIn K mainGlobals "enumerate"=some none)(c2:W.nsIn K mainGlobals "sum"=some none)(d1:W.nsIn K mainGlobals "len"=some none)(b6:W.nsIn K mainGlobals "list"=some none)(d2:W.nsIn K mainGlobals "int"=some none)(d3:W.nsIn K mainGlobals "all"=some none)(c3:W.nsIn K mainGlobals "min"=some none)(c5:W.nsIn K mainGlobals "max"=some none)(c1:W.nsIn K mainGlobals "zip"=some none)(I:W.nsIn K mainGlobals "isinstance"=some none)(b5:W.nsIn K mainGlobals "FLAGS"=some (some (.str "abcdefghijklmnopqrstuvw1234" a6)))(D:W.nsIn K mainGlobals "SUBSTITUTES"=some (some (.str "1234" A)))(a1:W.nsIn K mainGlobals "LETTERS"=some (some (.str "abcdefghijklmnopqrstuvw" Y)))(z:W.nsIn K mainGlobals "LONGEST_TERM"=some (some (.int 10 u)))(y:W.nsIn K mainGlobals "TERM_LETTERS"=some (some (.str "abcdefghijklmnopqrstuvwxyz" t)))(R:W.nsIn K mainGlobals "MOST_TERMS"=some (some (.int 40 J)))(E:W.nsIn K mainGlobals "MOST_PLACES"=some (some (.int 7 B)))(r:W.nsIn K mainGlobals "MOST_OF_A_FLAG"=some (some (.int 99 m)))(KF:N1 K Zs Zz Zt Zx Z0 Zu Zy Zv Zw)(O:W.nsIn K mainGlobals "THINGS_IN"=some (some (.ref i)))(Q:K.lookup i=some ⟨.type "dict",none,.dict j S,#[]⟩)(L:(i==sysModules)=false)(T:T9 w j.toList [("haul",3),("lower",2),("lose",2),("find",2),("say",2)]):∃H:FuncData,(∀(s:Shared) (v:Value),BindsTo s H ⟨[v],[]⟩ [("_law_script",v)])/\∀g:Heap,K.In g->g.Ns mainGlobals mg->Yc mg g c Pt->Z8 l.prog w K mg g ZS 20 fa H ["_law_script"] (Uz K Pt):=by
 have M:∀ {x:Str} {v:Value},W.nsIn K mainGlobals x=some (some v)->mg x=some v:=λh=>W.mg_of X Gn h
 have N:∀ {x:Str},W.nsIn K mainGlobals x=some none->mg x=none:=λh=>W.mg_none_of X Gn h
 have e:=hfa.symm.trans (M b9.1)
 cases e;have G:Gs K mg w Zs Zz Zt Zx Z0 Zu Zy Zv Zw:=⟨KF,M b8,M P,M b2,M Z,M b1,M a4,M V,M a2,M a3,⟨_,_,_,M O,Q,L,T,by decide +kernel⟩,N a5,N U,N c2,N d1,N b6,N d2,N d3,N c3,N c5,N c1,N I,⟨_,M b5⟩,⟨_,M D⟩,⟨_,M a1⟩,⟨_,M z⟩,⟨_,M y⟩,⟨_,M R⟩,⟨_,M E⟩,⟨_,M r⟩⟩
 obtain⟨_,_,_,kV,dc,pm,an,cd,ct,lk,hc,hk⟩:=b9.2;have F:=UP (st:=wU) lk hc hk
 refine⟨W.fnOf "law" "law" (kT wU) (fY wU) (aJ wU) .none kV dc pm an cd ct,λs v=>.of_eq rfl,λg _ _ LB=>?_⟩;have mk:∀ {CX:Yb} {k:Nat} {x:Str} {st:Stmt} {f:Addr} {ps:List Str} {sp:Sp},ZO K x st f->(∀ {H:FuncData},ZT K x x st f H->Z8 l.prog w K mg g CX k f H ps sp)->UK x x st ps->∃(f:Addr) (H:FuncData),Z8 l.prog w K mg g CX k f H ps sp/\mg x=some (.ref f)/\W.keepIn K (.ref f)=true/\Binds K H ps []:=λp o hb=>by
  obtain⟨H,a,b,c⟩:=p.2.c o hb;exact⟨_,H,a,M p.1,b,c⟩
 have mt:∀ {CX:Yb} {k:Nat} {x:Str} {st:Stmt} {f:Addr} {ps:List Str} {sp:Sp} {C:Addr} {q:Str},Ws K C x q st f->(∀ {H:FuncData},ZT K x q st f H->Z8 l.prog w K mg g CX k f H ps sp)->UK x q st ps->qP CX l.prog w K mg g k C x ps sp:=λp o hb=>by
  obtain⟨H,a,b,c⟩:=p.2.2.c o hb;exact⟨_,H,a,⟨p.1,p.2.1,b⟩,c⟩
 have mi:∀ {k:Nat} {st:Stmt} {f:Addr} {ps:List Str} {sp:Sp} {C:Addr} {q:Str},UE K C q st f->(∀ {H:FuncData},ZT K "__init__" q st f H->Z8 l.prog w K mg g ZS k f H ps sp)->UK "__init__" q st ps->V_ l.prog w K mg g k C ps sp:=λp o hb=>by
  obtain⟨H,a,b,c⟩:=p.2.2.c o hb;exact⟨_,H,a,p.1,p.2.1,c⟩
 have z8:=mk p_0 (λF=>Mb F G ) (by fail "bd")
 have o8:=mk p_1 (λF=>HE G F ) (by fail "bd")
 have v8:=mk z9 (λF=>DO G F z8 o8) (by fail "bd")
 have w8:=mk z4 (λF=>HY G F ) (by fail "bd")
 have v7:=mk z3 (λF=>GB F G z8 w8) (by fail "bd")
 have j9:=mk z2 (λF=>JN G F ) (by fail "bd")
 have y3:=mk z1 (λF=>tK G F ) (by fail "bd")
 have o6:Uh ZS l.prog w K mg g 2 Z0 ["self", "book", "locker", "many"] (gA Z0):=by
  obtain⟨H,a,b,c⟩:=d4.2.2.c (λF=>yV G F y3) (by fail "bd")
  exact⟨_,H,a,⟨G.mk1_Tower,d4.1,d4.2.1,G.mk2_Tower⟩,c⟩
 have v3:=mk y8 (λF=>DE G F v8 v7 j9 o6) (by fail "bd")
 have z7:=mt y7 (λF=>CB G F ) (by fail "bd")
 have y4:=mk k8 (λF=>JZ F G y3) (by fail "bd")
 have c4:=mk k7 (λF=>ER G F ) (by fail "bd")
 have c6:=mk k6 (λF=>yT G F ) (by fail "bd")
 have c7:=mk k5 (λF=>yP F G c4 c6) (by fail "bd")
 have c8:=mk k4 (λF=>ET G F ) (by fail "bd")
 have c9:=mk k3 (λF=>yU G F ) (by fail "bd")
 have b7:=mk k2 (λF=>yS F G ) (by fail "bd")
 have u6:=mi k1 (λF=>GO G F ) (by fail "bd")
 have z5:=mk j8 (λF=>KI G F c7 y3 c8 c9 b7 u6) (by fail "bd")
 have j4:=mk j7 (λF=>A5 G F ) (by fail "bd")
 have o0:=mk j6 (λF=>yA G F j4) (by fail "bd")
 have x4:=mk j5 (λF=>qX G F o0) (by fail "bd")
 have x3:=mk j3 (λF=>DW G F x4) (by fail "bd")
 have o5:=mk j2 (λF=>yG F G x3) (by fail "bd")
 have y6:=mk j1 (λF=>EO F G ) (by fail "bd")
 have w6:=mk h9 (λF=>tQ G F y6) (by fail "bd")
 have i7:=mi h8 (λF=>yD G F ) (by fail "bd")
 have z6:=mk h7 (λF=>FN G F y3 i7) (by fail "bd")
 have y2:=mk h6 (λF=>JC G F ) (by fail "bd")
 have y1:=mk h5 (λF=>pE G F y2) (by fail "bd")
 have x9:=mk h4 (λF=>CJ G F y1) (by fail "bd")
 have x8:=mk h3 (λF=>vO F G ) (by fail "bd")
 have p9:=mk h2 (λF=>uZ G F ) (by fail "bd")
 have x7:=mk h1 (λF=>rA G F p9) (by fail "bd")
 have x6:ZR l.prog w K mg g 2 "longest_on" ["meanings", "terms", "table", "start"] (jD Pt):=by
  obtain⟨_,_,_,_,_,_,_,_,_,l,c,k⟩:=b4.2;have F:=UP (st:=dS) l c k
  have b:=F.binds (ps:=["meanings", "terms", "table", "start"]) (by fail "bd")
  exact⟨_,_,xW G F (Mt TH X (M b4.1) l) LB p9,M b4.1,k,b⟩
 have w7:=mk g9 (λF=>Iz G F x9 x8 x7 x6) (by fail "bd")
 have w5:=mk g8 (λF=>yO G F y4 z5 o5 w6 z6 w7) (by fail "bd")
 have o3:=mk g7 (λF=>nS G F ) (by fail "bd")
 have n8:ZR l.prog w K mg g 9 "rising_lists" ["numbers", "many"] (cZ 8):=by
  obtain⟨_,_,_,_,_,_,_,_,_,l,c,k⟩:=b3.2;have F:=UP (st:=dO) l c k
  have b:=F.binds (ps:=["numbers", "many"]) (by fail "bd")
  exact⟨_,_,OX cZ rQ (M b3.1) k b (λd n c=>tO G F c) 8,M b3.1,k,b⟩
 have a7:=mk g6 (λF=>EE G F n8) (by fail "bd")
 have a8:=mk g5 (λF=>uV G F ) (by fail "bd")
 have a9:=mk g4 (λF=>IK G F z5) (by fail "bd")
 have u5:=mk g3 (λF=>LJ G F ) (by fail "bd")
 have g0:=mk g2 (λF=>D5 G F u5) (by fail "bd")
 have f6:=mk g1 (λF=>Lr G F g0) (by fail "bd")
 have u7:=mk f9 (λF=>Hf G F f6) (by fail "bd")
 have u8:=mk f8 (λF=>yM F G u7) (by fail "bd")
 have y5:=mk f7 (λF=>LW G F a7 u6 a8 y4 a9 y6 u8) (by fail "bd")
 have x2:=mk f5 (λF=>Ki G F y4 y5 y6 z5 z6 u8) (by fail "bd")
 have x5:=mk f4 (λF=>GD G F ) (by fail "bd")
 have x1:=mk f3 (λF=>yJ G F x5 o0) (by fail "bd")
 have w9:=mi f2 (λF=>wY G F ) (by fail "bd")
 have w4:=mk f1 (λF=>wA G F o3 x2 x1 w9) (by fail "bd")
 have w3:=mk e9 (λF=>tP G F o3 y4 y6) (by fail "bd")
 have o4:=mk e8 (λF=>sB G F u5) (by fail "bd")
 have w2:=mk e7 (λF=>uR F G o4 z6) (by fail "bd")
 have w1:=mk e6 (λF=>vJ G F o4 y4 w6) (by fail "bd")
 have v9:=mk e5 (λF=>xA F G w5 w4 w3 w2 w1) (by fail "bd")
 have o7:=mt e4 (λF=>B6 G F v9) (by fail "bd")
 have n5:=mt e3 (λF=>vI G F o6 z7 o7) (by fail "bd")
 have v6:=mt e2 (λF=>qN G F ) (by fail "bd")
 have v5:=mt e1 (λF=>tM G F y3) (by fail "bd")
 have v4:=mt d9 (λF=>yC G F o5 u7) (by fail "bd")
 have y9:=mk d8 (λF=>Ko G F v6 v5 z7 v4) (by fail "bd")
 have wT:=mk d7 (λF=>HZ G F o7) (by fail "bd")
 have v2:=mk d6 (λF=>DH G F w8 o8) (by fail "bd")
 have i4:=mk d5 (λF=>D9 G F y9 n5 wT) (by fail "bd")
 exact BG G F v3 n5 y9 wT v2 z7 i4 z8
def walk{l:W.OpenLaw}{q:Program}{i:List Str}{O:(Q5)->Heap->Prop}{v:World->Heap->Prop}{d:DefRec}{K:Params->W.Frag}(B:l.most=some 63)(p:d.params.defaults=[])(r:((PyProof.Rows.recsOf q).find? λe=>e.name==PySem.Str.ofString "longest_on").isSome=true)(o:∀w:World,W.noTabs (K w.params)=true)(D:∀(w:World) (h:Heap),v w h->(K w.params).In h)(F:∀(w:World) (g:Q5) (m:Addr) (h:Heap) (c j:Addr),(K w.params).In h->h.Ns mainGlobals g->g d.name=some (.ref m)->UA h g "longest_on" c->
 ∃t:FuncData,(∀(s:Shared) (u:Value),BindsTo s t ⟨[u],[]⟩ [("_law_script",u)])/\∀b:Heap,(K w.params).In b->b.Ns mainGlobals g->Yc g b c j->Z8 l.prog w (K w.params) g b ZS 20 m t ["_law_script"] (Uz (K w.params) j)):W.WalkO q i O v l.row.toRowW d [] (λf y=>PySem.call f y):=by
 obtain⟨d2,e⟩:=Eb.mp r;have H:=List.find?_some e
 have I:d2.name=PySem.Str.ofString "longest_on" := Ik H
 exact L2.GL (d2:=d2) (n:=63) (k:=20) (x := "_law_script") (CX:=λ_=>ZS) (sp:=λw=>Uz (K w.params)) B (by decide) p ⟨rfl,by decide,by decide⟩ (List.mem_of_find?_eq_some e) o D (λw g m h c j N M L J=>F w g m h c j N M L (I▸J)) (λ_ _ a j A C G E=>⟨a,A,rfl,E,C,G,λ_=>rfl⟩) λ_ _ _ _ _ z=>z
end Mine
structure PySem.W.Fast:Prop where
(tw11285334568910849969 tw1710483538040853239 tw2760810966460382750 tw9463990210693676885 tw12645777222991398594 tw8121199981151410616 tw647548477305007639 tw17899679655849482316 tw2728650051024520122 tw4453100686219277202 tw9671185521741774055 tw4005432475671139657 tw138596300218331227 tw9413762862462325814 tw4034238742780157032 tw2347513362730079216 tw3609016000719026668 tw284171563209494902 tw1777660589395355452 tw2476556806724264418
tw9952601519653469471 tw773982386861475279 tw4384821507353683074 tw17587365871420891433 tw9534128050028848762 tw9767187536722167760 tw10583854305798271694 tw9392059088477459702 tw11750394015338187670 tw6696963113290500535 tw7880433928174187957 tw6056651583607253974 tw7042807178132807282 tw5291787507456561994 tw14268093293028321842 tw2968432036014522289 tw16742653219550158398 tw15468884122951021110 tw2660350328868947757 tw8206449240351099572
tw6460088262694424614 tw4627817480513704463 tw4169407351406113294 tw10415008791533492920 tw3357418690102146862 tw5150428390684186944 tw3254597841572856254 tw6049749487539391125 tw7240192502894563334 tw16259055450349534816 tw18117262610321559661 tw9136229100150749823 tw200802730171280807 tw8336126357501308912 tw12531226644653190781 tw14939611253232432788 tw10549453289887340994 tw7690094378307191233 tw7799723678011896281 tw12933297502261429127
tw14050694277409384268 tw8943152491794924498 tw11016116137477516823 tw229203887374703991 tw10857344181852855467 tw13687956221565001730 tw7974509394412563166 tw16425353881815690426 tw3780424202502622800 tw15140423406913974153 tw6150063742332678128 tw13791863549355040363 tw16712526124777817201 tw11785614867711530095 tw1925762607463065476 tw10814842655277854844 tw11400778477454420575 tw16174601354622943312 tw1405397996989929637 tw3479720098190185009
tw9595368759723318980 tw1583398273563827871 tw13148809537289987761 tw9656734092406780930 tw6776331678090399944 tw16925278607499580322 tw13966518279727632429 tw10942539752103751696 tw12796831178257327187 tw1264614816090260636 tw8749076373471914957 tw18376188420116082536 tw10497756227057349121 tw16368339068095812287 tw17395359865418845970 tw8163434553654717514 tw14409302663681976747 tw5139112391003063029 tw15598161944210582904 tw15243230498161704992
tw17295147400011169672 tw13168255175250587137 tw18419032842361764494 tw17385690839466120092 tw549714438506610071 tw104600916381633212 tw1858639368462355671 tw4875284717617112899 tw17082037418027237024 tw9370088962581263193 tw12592956219266320825 tw6507804106071184089 tw9244755583727811363 tw10481059457609202361 tw12714525115633321082 tw13818682296767213320 tw16648376217716112537 tw12217252124957467012 tw9327016626703896743 tw5418489220114547776
tw2867000334049418949 tw6546405029464728176 tw14097571148548226774 tw6888645084183119926 tw11755672640395709896 tw10600312681610651759 tw15569482803510891010 tw8470128761898988572 tw10047798837771536745 tw16299998731076056644 tw16853704613659249398 tw5893021063637390865 tw13987965088657067687 tw4894585832365870860 tw7582341517766101929 tw11176490192166275688 tw1325853230080711253 tw12289173395890560094 tw15285034216297962481 tw2918846908304657506
tw5843264507151348471 tw3455455276654321806 tw12286011889901589579 tw10183326755179099004 tw1338286625855916439 tw10351490464766904108 tw17515455113528194703 tw5789884713419779142 tw17587562023958240061 tw12833073368865827721 tw14714227374834079612 tw2815145803692561954 tw4842597152738545458 tw8820966507639250615 tw1255993878934918646 tw9919633534924927189 tw5561146125165825603 tw3824048595028333335 tw17224592284813548065 tw11101688350601845396
tw7757999477051555306 tw17947851876607320734 tw9039170682044229443 tw9177096073393725807 tw12214297303242888167 tw15245593729775202025 tw15829167024830760066 tw1770185941867190846 tw9436433387311930553 tw13929937362916024816 tw323024013817348525 tw3161658215511378052 tw6161003232812258553 tw10351314672516151924 tw18083970334985272658 tw4478717237119550175 tw3589595380646238613 tw10841203829729303595 tw7730217985531306521 tw3985862758171076161
tw5824714598983901594 tw2735847173663925085 tw7705338355821365569 tw524740707075072100 tw2982645329436303780 tw9489772746467187290 tw10897679336849247278 tw17170911442472531611 tw3949953866322437077 tw3258862237160226370 tw10440670344404406507 tw14795104635898378670 tw14314573684866290231 tw6975271226131730927 tw12907249070323178642 tw15727727260067981278 tw9146598705806734425 tw13714831681850422545 tw4700682539334394682 tw918064565268992336
tw15008894770478710467 tw2272596812508229663 tw14004215353957146508 tw3302162982401699243 tw3941527573713574480 tw1875476935274316162 tw88849490056995207 tw5509879545789123143 tw17697102429843826709 tw16059352646348122739 tw15377761111619106595 tw4477854740161306994 tw14745139671524290342 tw14899673221222651569 tw18121927088293035338 tw7828505083875765988 tw6799483209241723953 tw10109793740785561582 tw4938966710510244655 tw17288863364917786242
tw10291366899504117642 tw16558779958644306293 tw12814451949620677495 tw8799765989443526592 tw11056883113801209584 tw3300646596298428593 tw133853987635667855 tw8314468908165436202 tw9669051997211237697 tw12196067751892876622 tw3819844828253926627 tw2533960722800145797 tw9378659146373907145 tw2022682533569161896 tw4905863277048689728 tw8208373924144449495 tw3426887454057037083 tw102117815155385898 tw2387663861750870996 tw1621256807031703659
tw8446759402364150390 tw6821897143503655058 tw7146411219056940216 tw12218805682492664449 tw11412283839920297777 tw1018999488856396780 tw12121652170904093279 tw6841937143481637153 tw17736304158136689177 tw1451779784550768814 tw2670722596981225149 tw16502671671315320756 tw7314753682697036943 tw14786959824894590084 tw11095581155787865849 tw11547916625808639346 tw7375059402432566221 tw15888016948016306366 tw15313258975600110582 tw16824205376549968497
tw6872303582529834139 tw619617508185145573 tw1208429577159918912 tw2728702835915522608 tw10466675088175242633 tw13671599377551684988 tw7672935452494344567 tw5117328841359794093 tw6407758000682895902 tw5420858523562081870 tw1813969686759907889 tw5185841382949637306 tw6443053261657860768 tw5852941680789253866 tw4536442067482006707 tw10266991883956209133 tw15665043284975917823 tw17894276206938290142 tw16473171850253914293 tw4899337114487348289
tw3547655216696235928 tw6624463614713086746 tw16291557525801139309 tw15281059234840758886 tw4450097038773595803 tw7071941661980911499 tw12446495784632681705 tw8040687580409186720 tw4251904025354442035 tw1314813334927415180 tw15264780780944178082 tw11316492092873095637 tw5069137106448311157 tw14801570396659112134 tw10472174918622142928 tw8193959534604794284 tw1336104416285772423 tw15662984759948089147 tw2230494157496510506 tw7480818921061337552
tw13432142274814741937 tw1649649398429271822 tw4805260435888199702 tw6422380943339651970 tw2044291517185109525 tw17745388890934376351 tw7172597853476143832 tw1281453184637980058 tw15741276487496152218 tw1232838081060848264 tw2188552344151968826 tw1913869674009380206 tw14051449015967365783 tw7042398233888725119 tw6190616994843385420 tw17356299539489384832 tw17197496117600621073 tw291576319176167743 tw8397163441794007009 tw17116265186264765776
tw10175338736345181353 tw14359448516202227724 tw17668573433885955348 tw17952424083662768258 tw15701824592347217097 tw2178580610549768528 tw6310070288530324631 tw13412962687759727564 tw14661590478938106561 tw7280213840876764940 tw7183906515977609203 tw16152424808364785342 tw13992663179505013927 tw7323760775276398767 tw8747454766535277217 tw14594945492125018241 tw15777517645543542662 tw2906589691740970332 tw5439630493562571797 tw17827741519471306703
tw1170965092616040122 tw12863851323172232615 tw7156841496245573144 tw7804611063153612210 tw3275253128824648414 tw12001735709182987468 tw17659786013255229013 tw8523745979048054174 tw5776710113211208723 tw15034077809355414831 tw16558743532696025111 tw472472880145440198 tw5301965620619025557 tw2955228214223664417 tw6341651383695997945 tw11669040780108901129 tw10793065789881170509 tw1007300011422729691 tw2212429439159368929 tw9374537645227474668
tw8128267344867197172 tw18254996603320512296 tw2504195925256553867 tw7029703014271127209 tw946395426271644599 tw16619623732763715392 tw11936787639376818310 tw7563023086163467185 tw1777498661646877803 tw16254584515640973404 tw6132428179075406216 tw1636143109994860951 tw5021174148360665163 tw5292723370589545032 tw599159030333866947 tw14642121827179511316 tw3298506576380627075 tw14157287829973100100 tw9307590427308293706 tw1665450284343281411
tw17460024617090168504 tw7426969110751356633 tw11988597407178041697 tw10228067235482049446 tw17345330394462725718 tw15624261521066237471 tw9228595381862104199 tw7096360272900721487 tw1886987830926007013 tw14870641800478381838 tw10725001286235785341 tw846822798158347880 tw9887311377795640054 tw12362920018186341328 tw5761840035099009441 tw17457501927198607250 tw10379782911533469001 tw1987576980423864914 tw7995189682929413166 tw7505526427376265885
tw6637601270120544402 tw9293742961642193378 tw6555605539089890611 tw5193920260985125286 tw1299817344012479640 tw12848248202723667298 tw13518397460226302053 tw5993917939040652168 tw10658813421426926671 tw809058944216449856 tw17372249690552842050 tw14540780876119182884 tw15556608191430034386 tw3689715395795128416 tw1237717126221410614 tw10513772686570204340 tw15289920751039574919 tw3084362211649970234 tw7859751535372283672 tw9990386536720360200
tw13566122745088211099 tw18088762154634818050 tw17182389760503359135 tw11873757788207538750 tw10882804605923449572 tw12421567350196040029 tw2706561272285177578 tw2294031412834553843 tw4937600324622490509 tw9661503694299784469 tw15578191709283245821 tw10226704845460157541 tw14431995833167439342 tw6250641050568296887 tw5062305677294821567 tw7590385989464255411 tw8259109637247537186 tw16111536779037326178 tw1465458424125770355 tw3905263284546402955
tw16714255904111624279 tw3886731995471190149 tw3635225937466503905 tw2672639568778768709 tw11592995151493055646 tw14394311647835011234 tw5290189757251149696 tw4531596536783897086 tw10782522406668369759 tw16147926028283588415 tw15005769330065235123 tw3558313786899624418 tw3159523324194724549 tw8875405421569813340 tw6548050573006979106 tw14318548426558127925 tw231209218860090512 tw1824133484573250585 tw15427942039044420670 tw3591109421246891698
tw17386774571853908465 tw518614667885214258 tw654404953669123740 tw14414462079173151890 tw5267365071758765504 tw17316221224815334126 tw1926760829534851730 tw737572238381554934 tw1819624352631029064 tw4344618950270094660 tw16072674088788926605 tw2608496007627529756 tw10167999930713095230 tw5284389621773289190 tw3579876017840447528 tw2309332957362369061 tw16565060093360860663 tw17626096274339993724 tw10041148337213986564 tw17329530461162876820
tw13907844102515086044 tw9225929761810521047 tw15021121531835236535 tw3336666276684675517 tw857604891448783242 tw11274082638909222797 tw11316908101105202760 tw13832480511175323541 tw278358179642806516 tw6546351110725571670 tw1485268165788337030 tw17105404749578809536 tw13974712192572312014 tw5997114178279838024 tw727054750514655263 tw495118080773566443 tw12079542334253226454 tw11661497013600056904 tw15074790789237543773 tw11415724567076190097
tw12947313329250419971 tw13491676643788673256 tw12273852906093155385 tw12769490717274441972 tw5516605835241598358 tw8782481495581056291 tw10691916215562053740 tw5088404757919253445 tw11047103491256027912 tw2308849196220103418 tw10365760957675864093 tw9970198403304367147 tw12561529048743802513 tw1273610466190811326 tw2279440985180783669 tw7580680740950051104 tw10457683222566959217 tw16128407555973660624 tw3727208313668536483 tw18394613908838601290
tw1671498088869000619 tw6301382983257866554 tw5118120190051779401 tw3862400287414170430 tw15682936500715275189 tw1842434556111789833 tw13286921888570782420 tw11470377274120340380 tw825409032242035975 tw14367642800433249239 tw10400330381996849485 tw1325414833522018111 tw5592902009918991201 tw15847910874027344556 tw4571295057675409323 tw14739695188345183988 tw16930437275310546108 tw8898165835129435383 tw743925868413911051 tw17828948535079698092
tw14628735174509889576 tw17911839874348250387 tw1477107718630012106 tw10334466165593622191 tw2429329681439106487 tw9287768202004295055 tw3656527014609405210 tw7832554834631617920 tw2947790738453841727 tw7459879764874452464 tw17316053003289676017 tw2888835764304949759 tw562963432989214813 tw15691137562421072451 tw5269219332419916076 tw17159610385997276980 tw13763216474008243811 tw9956678055106688698 tw9783830735091951094:True)
open PySem PySem.W PyProof.Rows
set_option maxRecDepth 100000 in
set_option maxHeartbeats 0 in
theorem PySem.Challenge.cw_flaglocker_k57_log_and_again_holds : PySem.Challenge.rw_flaglocker_k57_log_and_again.Holds := by
  w_on; o_law; k_head; (case hw => w_witness2)
  k_fill
  refine Mine.walk (l:=PySem.Challenge.rw_flaglocker_k57_log_and_again) rfl rfl ?hd2 ?hno (fun w h Y => PySem.W.km_in_of Y) ?F
  case hd2 => kernel_rfl!
  case hno => intro w; kernel_rfl!
  case F =>
    intro w mg fa h c Pt KX G hmg TH
    apply Mine.all_mk KX G hmg TH
    all_goals first | exact ⟨by k_is,_,_,_,_,_,_,_,_,_,by k_is,by k_is,by k_is⟩ | exact ⟨by k_is,by k_is,_,_,_,_,_,_,_,_,_,by k_is,by k_is,by k_is⟩ | k_is | kernel_rfl! | (constructor <;> first | k_is | k_exc | kts_exm | kit_is | kernel_rfl!) | exact ⟨rfl,⟨_,rfl⟩,⟨_,rfl⟩,rfl,⟨_,rfl⟩,⟨_,rfl⟩,rfl,⟨_,rfl⟩,⟨_,rfl⟩,rfl,⟨_,rfl⟩,⟨_,rfl⟩,rfl,⟨_,rfl⟩,⟨_,rfl⟩,trivial⟩
