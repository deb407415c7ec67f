import PyProof.Rows.All
import Wide.All
import OpenK.AllK
import Wide.FinOn
import Lean
import PyProof.EqAt
import PyProof.EqKinds
import PyProof.TupleCall
import PySem.Challenge.RW_flaglocker_k59_towers_apart
set_option Elab.async false
set_option compiler.extract_closed false
set_option linter.all false
set_option maxHeartbeats 4000000
set_option maxRecDepth 100000
abbrev Q0:=PySem.Value->PySem.Shared->Prop
abbrev Q2:=List (PySem.Addr × PySem.Obj)
abbrev Q4:=List (Option (List Nat))
abbrev Q5:=PySem.Str->Option PySem.Value
abbrev Q6:=List (List Nat)
abbrev Aa:=@List.getElem?_eq_getElem
abbrev Ab:=@List.length_map
abbrev Ac:=@List.getD_eq_getElem?_getD
abbrev Ad:=@List.getElem?_eq_some_iff
abbrev Ae:=@PySem.wpAny_bind
abbrev Af:=@List.length_append
abbrev Ag:=@List.getElem?_map
abbrev Ah:=@List.mem_singleton
abbrev Ai:=@Nat.le_refl
abbrev Aj:=@PySem.Heap.get?_push_of_some
abbrev Ak:=@List.mem_cons_of_mem
abbrev Al:=@List.mem_cons_self
abbrev Am:=@List.mem_of_getElem?
abbrev An:=@List.getElem?_append_left
abbrev Ao:=@decide_eq_true
abbrev Ap:=@List.map_append
abbrev Aq:=@List.getElem?_append_right
abbrev Ar:=@Bool.false_ne_true
abbrev As:=@List.map_cons
abbrev Au:=@PySem.wpAny_pure
abbrev Av:=@List.length_cons
abbrev Aw:=@decide_eq_false
abbrev Ax:=@PySem.Heap.lt_size
abbrev Ay:=@PySem.Heap.get?_push_size
abbrev Az:=@of_decide_eq_true
abbrev Ba:=@List.size_toArray
abbrev Bb:=@List.mem_map
abbrev Bc:=@List.mem_cons
abbrev Bd:=@Nat.lt_of_lt_of_le
abbrev Be:=@List.take_add_one
abbrev Bf:=@List.length_range
abbrev Bg:=@PySem.F.plainAttrs_list
abbrev Bh:=@Nat.le_trans
abbrev Bi:=@List.take_of_length_le
abbrev Bj:=@Option.some.inj
abbrev Bk:=@List.mem_append
abbrev Bl:=@PySem.PassesOwn.never
abbrev Bm:=@Nat.ne_of_lt
abbrev Bo:=@List.mem_append_right
abbrev Bp:=@decide_eq_true_iff
abbrev Bq:=@of_decide_eq_false
abbrev Br:=@Bool.eq_false_iff
abbrev Bs:=@List.append_nil
abbrev Bt:=@List.length_take
abbrev Bu:=@List.mem_range
abbrev Bv:=@List.mem_iff_getElem
abbrev Bw:=@List.filterMap_append
abbrev Bx:=@List.getElem_mem
abbrev By:=@List.flatten_cons
abbrev Bz:=@List.all_eq_true
abbrev Ca:=@List.filterMap_cons_some
abbrev Cb:=@PySem.Heap.get?_update_other
abbrev Cc:=@Option.map_eq_some_iff
abbrev Cd:=@List.map_map
abbrev Ce:=@List.length_drop
abbrev Cf:=@List.take_length
abbrev Cg:=@List.length_replicate
abbrev Ci:=@PySem.F.slot_dict_get
abbrev Cj:=@List.filterMap_cons_none
abbrev Ck:=@PySem.wpAny_loadPart'
abbrev Cm:=@List.range_succ
abbrev Co:=@PySem.wpAny_mono
abbrev Cp:=@List.nodup_cons
abbrev Cq:=@List.mem_filterMap
abbrev Cr:=@List.filterMap_nil
abbrev Cs:=@PySem.F.excBase_ValueError
abbrev Ct:=@Nat.zero_le
abbrev Cu:=@Nat.add_sub_cancel_left
abbrev Cv:=@List.sum_cons
abbrev Cy:=@List.length_set
abbrev Cz:=@Int.emod_nonneg
abbrev Da:=@List.length_filterMap_le
abbrev Dc:=@beq_eq_false_iff_ne
abbrev De:=@Nat.lt_irrefl
abbrev Df:=@PySem.wpAny_holding
abbrev Dg:=@List.mem_append_left
abbrev Dh:=@Int.emod_lt_of_pos
abbrev Di:=@List.mem_filter
abbrev Dj:=@List.lookup_cons
abbrev Dk:=@PySem.mem_of_lookup
abbrev Dm:=@List.replicate_succ
abbrev Do:=@Array.getElem?_toList
abbrev Dp:=@congrArg
abbrev Dq:=@PyProof.Rows.callWith_type1
abbrev Dr:=@PySem.wpAny_Call_Name_kw
abbrev Ds:=@Array.getElem?_eq_some_iff
abbrev Dt:=@List.getElem?_set_self
abbrev Du:=@PySem.Calls.callWith_builtin
abbrev Dv:=@List.countP_cons
abbrev Dx:=@PySem.F.plain_max_loop
abbrev Dy:=@PySem.F.plainAttrs_str
abbrev Dz:=@List.map_congr_left
abbrev Ea:=@PySem.F.type_dict_get
abbrev Eb:=@Option.isSome_iff_exists
abbrev Ec:=@PySem.F.slot_list_append
abbrev Ed:=@PySem.F.type_list_append
abbrev Ee:=@List.getElem?_set_ne
abbrev Ef:=@List.filter_cons
abbrev Eg:=@PySem.Around.under_plainId
abbrev Eh:=@decide_eq_decide
abbrev Ei:=@PySem.StrLaws.glued_eq_join
abbrev Ej:=@Nat.sub_self
abbrev Ek:=@List.nodup_append
abbrev El:=@List.mem_or_eq_of_mem_set
abbrev Em:=@List.getElem?_eq_none
abbrev En:=@List.take_append_drop
abbrev Eo:=@List.getElem_map
abbrev Ep:=@PySem.F.slot_list_extend
abbrev Er:=@PySem.F.type_list_extend
abbrev Et:=@PySem.wpAny_typeNameOfWhole_keyiter
abbrev Eu:=@PySem.codeAny_builtin
abbrev Ew:=@PySem.F.slot_dict_keyiterator_next
abbrev Ey:=@List.filterMap_cons
abbrev Ez:=@Array.length_toList
abbrev Fa:=@Nat.ne_of_gt
abbrev Fb:=@PySem.codeAny_mono
abbrev Fc:=@PySem.F.entry_dict_get
abbrev Fd:=@Bool.and_eq_true
abbrev Fe:=@beq_self_eq_true
abbrev Ff:=@Nat.min_eq_right
abbrev Fg:=@PySem.W.callWith_K
abbrev Fh:=@PySem.tupleKind_room_in1
abbrev Fi:=@List.filter_append
abbrev Fj:=@PySem.W.methodCall_KW
abbrev Fk:=@List.mem_iff_getElem?
abbrev Fl:=@List.pairwise_iff_getElem
abbrev Fm:=@PySem.wpAny_passesOwn
abbrev Fn:=@Option.map_some
abbrev Fo:=@Nat.min_eq_left
abbrev Fp:=@PySem.wpAny_truthy_bool
abbrev Fq:=@List.append_assoc
abbrev Fs:=@PySem.wpAny_pyIter_list
abbrev Ft:=@PySem.codeAny_call_builtin
abbrev Fu:=@Int.toNat_natCast
abbrev Fv:=@PySem.wpAny_standAt
abbrev Fw:=@PySem.call_meets
abbrev Fx:=@PySem.plainId_quiet
abbrev Fy:=@List.map_drop
abbrev Fz:=@List.getElem?_range
abbrev Ga:=@List.flatMap_append
abbrev Gb:=@List.filter_sublist
abbrev Gc:=@PySem.Heap.size_push
abbrev Gd:=@List.getElem?_replicate
abbrev Ge:=@PySem.wpAny_getItem_str_slice
abbrev Gf:=@Nat.le_add_right
abbrev Gg:=@PySem.F.plainAttrs_dict
abbrev Gh:=@PySem.F.slot_list_index
abbrev Gi:=@List.eq_nil_of_length_eq_zero
abbrev Gj:=@PySem.wpAny_call
abbrev Gk:=@PySem.call_meetsIn
abbrev Gm:=@Nat.not_lt_zero
abbrev Gp:=@List.countP_eq_length_filter
abbrev Gq:=@List.map_take
abbrev Gr:=@List.length_filter_le
abbrev Gu:=@List.getElem?_zipWith
abbrev Gv:=@PySem.wpAny_loadPart_at
abbrev Gw:=@List.flatMap_cons
abbrev Gx:=@PySem.Str.length_append
abbrev Gy:=@PySem.Heap.get?_none_of_le
abbrev Gz:=@PySem.Calls.evalArgs_plain
abbrev Ha:=@List.getElem_toArray
abbrev Hb:=@PySem.wpAny_tryCatch
abbrev He:=@List.getElem_inj
abbrev Hh:=@Nat.lt_or_ge
abbrev Hi:=@PySem.evalArgs_none
abbrev Hj:=@Int.toNat_of_nonneg
abbrev Hk:=@Bool.eq_iff_iff
abbrev Hl:=@List.of_mem_zip
abbrev Hm:=@beq_iff_eq
abbrev Hn:=@List.filterMap_map
abbrev Ho:=@PySem.wpAny_Call_method0_late
abbrev Hq:=@PySem.F.slot_dict_clear
abbrev Hr:=@PySem.F.args_dict_get_2
abbrev Ht:=@PySem.F.slot_list_clear
abbrev Hv:=@PySem.F.type_list_clear
abbrev Hw:=@Bool.false_and
abbrev Hx:=@List.take_sublist
abbrev Hy:=@PySem.wpAny_Call_method_late
abbrev Hz:=@PySem.wpAny_newObj_type
abbrev Ia:=@PySem.wpAny_pyIter_enum
abbrev Ib:=@PySem.F.entry_max_loop
abbrev Ic:=@List.drop_eq_nil_of_le
abbrev Ie:=@List.take_zero
abbrev Ig:=@PySem.F.slot_str_split
abbrev Ih:=@PySem.F.type_str_split
abbrev Ii:=@PySem.wpAny_call_entry
abbrev Ij:=@List.mem_flatMap
abbrev Ik:=@List.ext_getElem
abbrev Il:=@List.any_cons
abbrev Im:=@PySem.sizeLine_eq
abbrev Io:=@Nat.le_succ
abbrev Ip:=@Int.le_refl
abbrev Iq:=@List.map_nil
abbrev Ir:=@List.all_map
abbrev Iu:=@LawfulBEq.eq_of_beq
abbrev Iv:=@PySem.typeIs_str
namespace L2
open PySem PySem.Spec PyProof.Rows
variable {A:Around}{C a b dx:Addr}{E Q:Q0}{K:W.Frag}{M:Model}{N ps:List Str}{P:Program}{body:List Stmt}{ch fp:List Addr}{e tg:Expr}{es:List Expr}{f:Value->Value->Sem Value}{h h':Heap}{i k t':Nat}{kindOf:Str->Option NameKind}{kw:List (Str×Value)}{y6:Q2}{pl:Sem Bool}{pos:Pos}{s:Shared}{u:Value}{us:List Value}{w:World}{x:Str}
abbrev Key:=Sum Int Str
noncomputable def oH:Key->Value->Bool
 |.inl k,v=>Value.isInt k v
 |.inr x,v=>Value.isStrOf x v
noncomputable def QZ(w:World):Key->Int
 |.inl k=>hashInt k
 |.inr x=>hashStr w x
def bZ:∀ {k:Key} {v:Value},oH k v=true->(∃i t,k=Sum.inl i/\v=Value.int i t)\/(∃x t,k=Sum.inr x/\v=Value.str x t)
 |.inl i,v,h=>by
  obtain⟨t,e⟩:=Value.isInt_shape   h;exact .inl ⟨i,t,rfl,e⟩
 |.inr x,v,h=>by
  obtain⟨t,e⟩:=Value.isStrOf_shape   h;exact .inr ⟨x,t,rfl,e⟩
def B9(i:Int)(t:Tok):oH (.inl i) (.int i t)=true:=by simp[oH,Value.isInt]
def nK(x:Str)(t:Tok):oH (.inr x) (.str x t)=true:=by simp[oH,Value.isStrOf]
def EK(a b:Int):decide ((Sum.inl a:Key)=Sum.inl b)=(a==b):=by grind
def CT(a b:Str):decide ((Sum.inr a:Key)=Sum.inr b)=decide (a=b):=by grind
def BA(a:Int)(b:Str):decide ((Sum.inl a:Key)=Sum.inr b)=false:=Aw (λq=>nomatch q)
def EX(a:Str)(b:Int):decide ((Sum.inr a:Key)=Sum.inl b)=false:=Aw (λq=>nomatch q)
noncomputable def bH(prog:Program)(w:World):PySem.KeyKind prog w Key where
 is:=oH
 hash:=QZ w
 inj:=λv a b l f=>by
  rcases bZ l with⟨i,t,rfl,rfl⟩|⟨x,t,rfl,rfl⟩
  .rcases bZ f with⟨j,u,rfl,e⟩|⟨y,u,rfl,e⟩
   .injection e with c _;rw[c]
   .exact nomatch e
  .rcases bZ f with⟨j,u,rfl,e⟩|⟨y,u,rfl,e⟩
   .exact nomatch e
   .injection e with c _;rw[c]
 byValue:=λk v h=>by
  rcases bZ h with⟨i,t,rfl,rfl⟩|⟨x,t,rfl,rfl⟩ <;> rfl
 pyHash:=λd h=>by
  rcases bZ d with⟨i,t,rfl,rfl⟩|⟨x,t,rfl,rfl⟩
  .exact wpAny_pyHash_int h
  .exact wpAny_pyHash_str h
 eqBool:=λg d h=>by
  rcases bZ g with⟨i,t,rfl,rfl⟩|⟨x,t,rfl,rfl⟩
  .rcases bZ d with⟨j,u,rfl,rfl⟩|⟨y,u,rfl,rfl⟩
   .rw[EK]at h;exact wpAny_eqBool_int h
   .rw[BA]at h;exact SeqAt.EqAt.int_str i t y u _ _ _ _ h
  .rcases bZ d with⟨j,u,rfl,rfl⟩|⟨y,u,rfl,rfl⟩
   .rw[EX]at h;exact SeqAt.EqAt.str_int x t j u _ _ _ _ h
   .rw[CT]at h;exact wpAny_eqBool_str h
 «strs» := λk x t v h=>by
  rcases bZ h with⟨i,u,rfl,e⟩|⟨y,u,rfl,e⟩
  .exact nomatch e
  .injection e with c _
   subst c;cases v<;>rfl
def BU(prog:Program)(w:World)(i:Int)(t:Tok):(bH prog w).is (.inl i) (.int i t)=true:=B9 i t
def MJ(prog:Program)(w:World)(x:Str)(t:Tok):(bH prog w).is (.inr x) (.str x t)=true:=nK x t
inductive V where
 |non|bl (b:Bool)|int (i:Int)|str (x:Str)|byt (b:Array UInt8)|flt (b:UInt64)|ref (a:Addr)|ty (n:String)
 deriving DecidableEq
variable {v:V}{xs:List V}
def RelV:V->Value->Prop
 |.non,u=>u=Value.none
 |.bl b,u=>u=Value.bool b
 |.int i,u=>∃t,u=Value.int i t
 |.str x,u=>∃t,u=Value.str x t
 |.byt b,u=>∃t,u=Value.bytes b t
 |.flt b,u=>∃t,u=Value.float b t
 |.ref a,u=>u=Value.ref a
 |.ty n,u=>u=Value.type n
abbrev Vals:List V->List Value->Prop:=Paired RelV
def Vals.length(r:Vals xs us):xs.length=us.length:=Paired.length r
def Vals.get:∀ {a:List V} {b:List Value} {i:Nat} {x:V},Vals a b->a[i]?=some x->∃u,b[i]?=some u/\RelV x u
 |_,_,_,_,.nil,e=>by simp at e
 |_,_,0,_,.cons r _,e=>by simp at e;subst e;exact⟨_,rfl,r⟩
 |_,_,i+1,x,.cons _ t,e=>by
  obtain⟨u,d,c⟩:=Vals.get   t (by simpa using e)
  simp_all
def Vals.set{x:V}(r:RelV x u):∀ {a:List V} {b:List Value} (i:Nat),Vals a b->Vals (a.set i x) (b.set i u)
 |_,_,_,.nil=>.nil
 |_,_,0,.cons _ t=>.cons r t
 |_,_,i+1,.cons q t=>.cons q (Vals.set r i t)
def Vals.append:∀ {b a:List V} {d c:List Value},Vals b d->Vals a c->Vals (b++a) (d++c)
 |_,_,_,_,.nil,s=>s
 |_,_,_,_,.cons r t,s=>.cons r (Vals.append t s)
def Vals.take:∀ {a:List V} {b:List Value} (n:Nat),Vals a b->Vals (a.take n) (b.take n)
 |_,_,0,_=>.nil
 |_,_,_+1,.nil=>.nil
 |_,_,n+1,.cons r t=>.cons r (Vals.take n t)
def Vals.drop:∀ {a:List V} {b:List Value} (n:Nat),Vals a b->Vals (a.drop n) (b.drop n)
 |_,_,0,r=>r
 |_,_,_+1,.nil=>.nil
 |_,_,n+1,.cons _ t=>Vals.drop n t
def Zq:Option V->Option Value->Prop
 |some v,some u=>RelV v u
 |none,none=>True
 |_,_=>False
def KV{a:Type}:List (a×V)->List (a×Value)->Prop:=Paired λp q=>p.1=q.1/\RelV p.2 q.2
noncomputable def kV:Key->V
 |.inl i=>.int i
 |.inr x=>.str x
inductive HO where
 |lst (xs:List V)
 |tup (xs:List V)
 |dK (kvs:List (Key×V))|dT (kvs:List (List Key×V))
 |set (S:Int->Bool) (n:Nat)
 |ins (C dx:Addr) (fs:List (Str×V))
 |own (x:Addr)
 |xd (fs:List (Str×V))
 |met (f x:Addr)
 |rng (lo hi:Int)
 |frz (o:Obj) (u:HO)
 |tbl (ps:Array Value)
 |ext (φ:Heap->Prop)
variable {o:HO}
abbrev Hp:=Addr->Option HO
variable {H:Hp}
noncomputable def upd(H:Hp)(a:Addr)(o:HO):Hp:=λb=>if b=a then some o else H b
def aE:upd H a o a=some o:=by unfold upd;rw[if_pos rfl]
def aH(h:b≠a):upd H a o b=H b:=by unfold upd;rw[if_neg h]
def Ol{u:HO}:upd (upd H a o) a u=upd H a u:=by
 funext b;unfold upd;split<;>rfl
def Mb{u:HO}(h:H a=some o)(h':H b=some u)(d:o≠u):a≠b:=by grind
def bI(h:H a=some o)(h':H b=none):a≠b:=by grind
section
variable (P:Program) (w:World)
def ZX(H:Hp)(h:Heap)(a:Addr):HO->Prop
 |.lst d=>d.length<=sizeLine/\∃c n,Vals d c/\h.get? a=some {cls:=.type "list",data:=.seq c.toArray n}
 |.tup d=>d.length<=sizeLine/\∃c,Vals d c/\IsTup h a c.toArray
 |.dK b=>b.length<=sizeLine/\(a==sysModules)=false/\∃k,KV b k/\h.DictOf (bH P w) a k
 | .dT b=>b.length<=sizeLine/\(a == sysModules)=false/\∃ d,
     Paired (λp q=>p.1=q.1/\H q.2.1=some (.tup (p.1.map kV))/\RelV p.2 q.2.2) b d/\
     ∃o r A,h.get? a=some o/\o.ExactDict/\o.data=.dict r A/\r.toList=d.map (entryOfKey (tupleKind (bH P w)))/\(d.map (·.1)).Nodup
 |.set S n=>h.SetOf (intKind P w) a S n
 | .ins C i g=>H i=some (.own a)/\g.length<=1000/\i≠a/\h.get? a=some (W.instObj C i)/\
     ∃e,h.Ns1 i e/\(∀f,Zq (g.lookup f) (e f))/\PySem.Within e (g.map (·.1))
 |.own _=>∃o,h.get? a=some o
 |.xd g=>∃e,h.Ns1 a e/\∀f,Zq (g.lookup f) (e f)
 |.rng y z=>∃t u v,h.get? a=some {cls:=.type "range",data:=.fields #[.int y t,.int z u,.int 1 v]}
 |.frz o u=>h.get? a=some o/\ZX H h a u
 |.tbl s=>h.get? a=some {cls:=.none,data:=.fields s}
 |.met f x=>h.get? a=some (W.methodObj (.ref f) (.ref x))
 |.ext j=>j h/\(∃o,h.get? a=some o)/\∀m l,j m->(∀o,m.get? a=some o->l.get? a=some o)->j l
def Zl(H:Hp)(h:Heap):Prop:=∀a o,H a=some o->ZX P w H h a o
end
section
variable {H':Hp}
def ZX.lt(x:ZX P w H h a o):a<h.objs.size:=by
 cases o with
 |lst c=>obtain⟨_,_,_,_,e⟩:=x;exact Ax e
 |tup c=>obtain⟨_,_,_,p⟩:=x;exact p.lt
 |dK b=>obtain⟨_,_,_,_,o,_,_,e,_⟩:=x;exact Ax e
 |dT b=>obtain⟨_,_,_,_,o,_,_,e,_⟩:=x;exact Ax e
 |set S n=>obtain⟨o,_,_,_,e,_⟩:=x;exact Ax e
 |ins C m d=>obtain⟨_,_,_,e,_⟩:=x;exact Ax e
 |own y=>obtain⟨_,e⟩:=x;exact Ax e
 |xd d=>obtain⟨_,⟨_,_,_,e,_⟩,_⟩:=x;exact Ax e
 |rng k l=>obtain⟨_,_,_,e⟩:=x;exact Ax e
 |frz j u=>obtain⟨e,_⟩:=x;exact Ax e
 |tbl i=>exact Ax (show h.get? a=some _ from x)
 |met f y=>exact Ax (show h.get? a=some _ from x)
 |ext g=>obtain⟨_,⟨_,e⟩,_⟩:=x;exact Ax e
def Paired.Wg{g e:Type}{F G:g->e->Prop}:∀ {d:List g} {c:List e},Paired F d c->(∀a b,F a b->G a b)->Paired G d c
 |_,_,.nil,_=>.nil
 |_,_,.cons r t,f=>.cons (f _ _ r) (Paired.Wg t f)
def ZX.ZC(x:ZX P w H h a o)(k:∀b u,(b=a\/H b=some (.own a))->h.get? b=some u->h'.get? b=some u)(K:∀b,H b=some (.own a)->H' b=some (.own a))(J:∀b m,H b=some (.tup m)->H' b=some (.tup m)):ZX P w H' h' a o:=by
 induction o with
 |lst m=>obtain⟨z,l,n,r,e⟩:=x;exact⟨z,l,n,r,k _ _ (.inl rfl) e⟩
 |tup m=>obtain⟨z,l,r,g,e,c⟩:=x;exact⟨z,l,r,g,k _ _ (.inl rfl) e,c⟩
 |dK B=>obtain⟨z,y,F,r,g,i,j,e,c⟩:=x;exact⟨z,y,F,r,g,i,j,k _ _ (.inl rfl) e,c⟩
 |dT B=>
  obtain⟨z,y,m,r,g,i,j,e,c⟩:=x;exact⟨z,y,m,Paired.Wg r λp q z=>⟨z.1,J _ _ z.2.1,z.2.2⟩,g,i,j,k _ _ (.inl rfl) e,c⟩
 |set S n=>obtain⟨g,i,j,t,e,c⟩:=x;exact⟨g,i,j,t,k _ _ (.inl rfl) e,c⟩
 |ins C R L=>
  obtain⟨d,z,G,e,A,⟨s,i,j,M,c⟩,r⟩:=x;exact⟨K _ d,z,G,k _ _ (.inl rfl) e,A,⟨s,i,j,k _ _ (.inr d) M,c⟩,r⟩
 |own y=>obtain⟨g,e⟩:=x;exact⟨g,k _ _ (.inl rfl) e⟩
 |xd L=>obtain⟨A,⟨s,i,j,e,c⟩,r⟩:=x;exact⟨A,⟨s,i,j,k _ _ (.inl rfl) e,c⟩,r⟩
 |rng O Q=>obtain⟨t,u,v,e⟩:=x;exact⟨t,u,v,k _ _ (.inl rfl) e⟩
 |frz g u I=>obtain⟨e,q⟩:=x;exact⟨k _ _ (.inl rfl) e,I q⟩
 |tbl E=>
  have e:=x
  show h'.get? a=some {cls:=.none,data:=.fields E}
  exact k a _ (.inl rfl) e
 |met f y=>
  have e:=x
  exact k a _ (.inl rfl) e
 |ext N=>obtain⟨p,⟨o,e⟩,D⟩:=x;exact⟨D _ _ p λo q=>k _ _ (.inl rfl) q,⟨o,k _ _ (.inl rfl) e⟩,D⟩
def Zl.lt(x:Zl P w H h)(e:H a=some o):a<h.objs.size:=(x a o e).lt
def Zl.fresh(x:Zl P w H h)(e:h.objs.size<=a):H a=none:=by
 cases q:H a with
 |none=>rfl
 |some u=>exact absurd (Bd (x.lt q) e) (De _)
def Zl.kept(x:Zl P w H h)(k:∀b u,h.get? b=some u->h'.get? b=some u):Zl P w H h':=λa o e=>
 (x a o e).ZC (λb u _ q=>k b u q) (λ_ q=>q) λ_ _ q=>q
def Zl.laid(x:Zl P w H h)(k:∀b u,h.get? b=some u->h'.get? b=some u)(i:h.objs.size<=a)(d:ZX P w (upd H a o) h' a o):Zl P w (upd H a o) h':=λb u e=>by
 have f:=x.fresh i
 by_cases g:b=a
 .subst g;rw[aE]at e;cases e;exact d
 .rw[aH g]at e;exact(x b u e).ZC (λc v _ q=>k c v q) (λc q=>by rwa[aH (bI q f)]) λc j q=>by rwa[aH (bI q f)]
end
def Rd(H:Hp)(a:Addr)(u:HO):Prop:=H a=some u\/∃o,H a=some (.frz o u)
def Rd.ok{u:HO}(r:Rd H a u)(x:Zl P w H h):ZX P w H h a u:=by
 rcases r with r|⟨o,r⟩
 .exact x a u r
 .obtain⟨_,q⟩:=x a _ r;exact q
def U5:Option HO->Prop
 |some (.lst _)=>True
 |some (.dK _)=>True
 |some (.dT _)=>True
 |some (.set _ _)=>True
 |some (.ins _ _ _)=>True
 |some (.ext _)=>True
 |_=>False
section
variable {x e:Addr} {o':HO}
def Zl.write(ok:Zl P w H h)(i:U5 (H x))(s:e=x\/H e=some (.own x))(k:∀b u,b≠e->h.get? b=some u->h'.get? b=some u)(n:∃u,h'.get? e=some u)(m:ZX P w (upd H x o') h' x o'):Zl P w (upd H x o') h':=λb u q=>by
 have d:∀c y,H c=some (.own y)->c≠x:=λc y r z=>by subst z;rw[r]at i;exact i
 have f:∀c g,H c=some (.tup g)->c≠x:=λc g r z=>by subst z;rw[r]at i;exact i
 by_cases l:b=x
 .subst l;rw[aE]at q;cases q;exact m
 .rw[aH l]at q;by_cases a:b=e
  .have p:H b=some (.own x):=by
    rcases s with z|z
    .exact absurd (a.trans z) l
    .rw[a];exact z
   rw[q]at p;cases p;obtain⟨v,t⟩:=n;exact⟨v,by rw[a];exact t⟩
  .refine(ok b u q).ZC (λc v j r=>k c v ?_ r) (λc r=>by rw[aH (d c b r)];exact r) λc g r=>by rw[aH (f c g r)];exact r
   grind
end
structure Un (fs ex:List Addr) (H H':Hp) (h h':Heap):Prop where
 keep:∀b o,h.get? b=some o->H b=none->b∉fs->b∉ex->h'.get? b=some o
 slot:∀b o,h.get? b=some o->H b=none->b∈fs->b∉ex->∃sl,h'.get? b=some {o with slots:=sl}
 free:∀b o,h.get? b=some o->H b=none->b∉ex->H' b=none
 there:∀b o,h.get? b=some o->b∉ex->∃o',h'.get? b=some o'
 tups:∀b xs,H b=some (.tup xs)->H' b=some (.tup xs)
 frzs:∀b o u,H b=some (.frz o u)->H' b=some (.frz o u)
 tbls:∀b ps,H b=some (.tbl ps)->∃more,H' b=some (.tbl (ps++more))
section
variable {fs fs' ex ex':List Addr} {H1 H2:Hp} {h1 h2:Heap} {x e:Addr}
def Un.any(u:Un fs ex H H1 h h1){a:Obj}(q:h.get? b=some a)(n:H b=none)(c:b∉ex):∃e,h1.get? b=some {a with slots:=e}:=by
 by_cases d:b∈fs
 .exact u.slot b a q n d c
 .exact⟨a.slots,u.keep b a q n d c⟩
def Un.trans(a:Un fs ex H H1 h h1)(b:Un fs ex H1 H2 h1 h2):Un fs ex H H2 h h2 where
 keep:=λc d q n i e=>b.keep c d (a.keep c d q n i e) (a.free c d q n e) i e
 slot:=λc d q n i e=>by
  obtain⟨s,f⟩:=a.slot c d q n i e;obtain⟨j,l⟩:=b.slot c _ f (a.free c d q n e) i e;exact⟨j,l⟩
 free:=λc d q n e=>by
  obtain⟨k,f⟩:=a.there c d q e;exact b.free c k f (a.free c d q n e) e
 there:=λc d q e=>by
  obtain⟨k,f⟩:=a.there c d q e;exact b.there c k f e
 tups:=λc g q=>b.tups c g (a.tups c g q)
 frzs:=λc d g q=>b.frzs c d g (a.frzs c d g q)
 tbls:=λc m q=>by
  obtain⟨r,f⟩:=a.tbls c m q;obtain⟨p,l⟩:=b.tbls c _ f;grind
def Un.kept(k:∀b u,h.get? b=some u->h'.get? b=some u):Un fs ex H H h h':=
 ⟨λb a q _ _ _=>k b a q,λb a q _ _ _=>⟨a.slots,k b a q⟩,λ_ _ _ n _=>n,λb a q _=>⟨a,k b a q⟩,λ_ _ q=>q,λ_ _ _ q=>q,λ_ c q=>⟨#[],by rw[q];simp⟩⟩
def Un.refl:Un fs ex H H h h:=Un.kept λ_ _ q=>q
def Un.laid(k:∀b u,h.get? b=some u->h'.get? b=some u)(e:h.objs.size<=a)(c:H a=none):Un fs ex H (upd H a o) h h' where
 keep:=λb u q _ _ _=>k b u q
 slot:=λb u q _ _ _=>⟨u.slots,k b u q⟩
 free:=λb u q n _=>by rwa[aH (Bm (Bd (Ax q) e))]
 there:=λb u q _=>⟨u,k b u q⟩
 tups:=λb d q=>by rwa[aH (bI q c)]
 frzs:=λb u d q=>by rwa[aH (bI q c)]
 tbls:=λb f q=>⟨#[],by rw[aH (bI q c),q];simp⟩
def Un.write(c:U5 (H x))(m:e=x\/H e=some (.own x))(k:∀b u,b≠e->h.get? b=some u->h'.get? b=some u)(f:∃u,h'.get? e=some u):Un fs ex H (upd H x o) h h':=by
 have g:∀b,H b=none->b≠x:=λb n z=>by subst z;rw[n]at c;exact c
 have i:∀b,H b=none->b≠e:=λb n z=>by grind
 have d:∀b u,H b=some u->¬U5 (some u)->b≠x:=λb u q l z=>by grind
 refine⟨λb u q n _ _=>k b u (i b n) q,λb u q n _ _=>⟨u.slots,k b u (i b n) q⟩,λb u q n _=>by rw[aH (g b n)];exact n,λb u q _=>?_,
  λb j q=>by rw[aH (d b _ q λz=>z)];exact q,λb u j q=>by rw[aH (d b _ q λz=>z)];exact q,λb p q=>⟨#[],by rw[aH (d b _ q λz=>z),q];simp⟩⟩
 grind
def Un.mono(u:Un fs ex H H1 h h1)(hs:∀b∈fs,b∈fs')(d:∀b∈ex,b∈ex'):Un fs' ex' H H1 h h1:=
 ⟨λb c q n e a=>u.keep b c q n (λz=>e (hs b z)) λz=>a (d b z),λ_ _ q n _ a=>u.any q n λz=>a (d _ z),λb c q n a=>u.free b c q n λz=>a (d b z),λb c q a=>u.there b c q λz=>a (d b z),u.tups,u.frzs,u.tbls⟩
end
noncomputable def Rf(h:Heap)(H:Hp):List Addr:=(List.range h.objs.size).filter λa=>(H a).isSome
noncomputable def xU(h:Heap)(H:Hp):Heap:=W.hideAll h (Rf h H)
def K5(h:Heap)(H:Hp):(xU h H).objs.size=h.objs.size:=W.hideAll_size _ _
def JA{o:Obj}(e:h.get? b=some o)(n:H b=none):(xU h H).get? b=some o:=
 W.hideAll_get _ e λa=>by
  have q:=(Di.mp a).2
  grind
def K8{o:Obj}(e:(xU h H).get? b=some o):h.get? b=some o/\H b=none:=by
 have a:=W.of_hideAll _ e
 refine⟨a,?_⟩;cases q:H b with
 |none=>rfl
 |some x=>
  have c:b∈Rf h H:=List.mem_filter.mpr ⟨List.mem_range.mpr (Heap.lt_size a),by simp[q]⟩
  have z:(xU h H).get? b=none:=W.hideAll_none _ c
  grind
structure Mod (K:W.Frag) (mg:Str->Option Value) (base:Heap):Prop where
 WO:K.In base
 glob:base.Ns mainGlobals mg
 blt:∃mb,base.Ns builtinsNs mb/\∀x:Str,x≠"__name__"->mb x=bootBuiltins x
 nolimit:base.NoLimit
structure Cx where
 prog:Program
 w:World
 K:W.Frag
 mg:Str->Option Value
 base:Heap
 A:Around
 N:List Str
 s₀:Shared
 H₀:Hp
 env:Env
 outer:List Env
 stack:List Env
 ex:List Addr
 fn:Str->Bool
 calm:Bool
 pn:List (Addr×Obj)
 xe:Value->Shared->Prop
variable {X:Cx}
noncomputable def YZ(l:List Env):List Addr:=l.filterMap (·.frame)
noncomputable abbrev Cx.fs(X:Cx):List Addr:=YZ X.outer
def T6(a:Scope)(x:Str):Prop:=a.names.lookup x=some .local\/a.names.lookup x=some .cell\/a.names.lookup x=some .free
def Loc(a:Scope)(x:Str):Prop:=a.names.lookup x=some .local\/a.names.lookup x=some .cell
def BZ(a:Env)(h:Heap)(m:Str->Option Value)(x:Str)(u:Value):Prop:=
 (a.kindOf x=some .local/\m x=some u)\/((a.kindOf x=some .cell\/a.kindOf x=some .free)/\∃c,a.cells.lookup x=some c/\h.IsCell c (some u))
structure Cx.Ok (X:Cx):Prop where
 mod:Mod X.K X.mg X.base
 kind:X.env.scope.kind=.function
 glob:X.env.globals=mainGlobals
 blt:X.env.builtins=builtinsNs
 above:X.s₀.heap.objs.size<=X.env.locals
 inj:∀x y c,X.env.cells.lookup x=some c->X.env.cells.lookup y=some c->x=y
 has:∀x,(X.env.kindOf x=some .cell\/X.env.kindOf x=some .free)->∃c,X.env.cells.lookup x=some c
 Wx:∀x c,X.fn x=true->X.env.cells.lookup x=some c->X.s₀.heap.objs.size<=c
 hd:X.calm=true->X.A.handled=none
 frames:X.A.frames=some X.stack
 Wl:X.stack=X.outer\/(X.stack=X.env::X.outer/\X.env.frame=some X.env.locals)
 VI:∀b∈X.ex,b≠X.env.locals/\∀x c,X.env.cells.lookup x=some c->c≠b
 bs:∀b o,X.base.get? b=some o->X.s₀.heap.get? b=some o/\X.H₀ b=none
 XI:X.base.objs.size<=X.s₀.heap.objs.size
 X_:∀b o,X.base.get? b=some o->b∉X.ex
 X6:∀b∈X.ex,b∉X.fs
 Zk:X.s₀.heap.FunFrames X.base X.outer
 WZ:∀b∈X.fs,X.H₀ b=none
structure Inv (X:Cx) (y6:List (Addr×Obj)) (U:List (Option V)) (H:Hp) (s:Shared):Prop where
 ok:X.Ok
 os:s.os=X.s₀.os
 bare:AllBare s.gens
 base:Un X.fs X.ex X.H₀ H X.s₀.heap s.heap
 loc:∃m,s.heap.Ns X.env.locals m/\∀(i:Nat) (x:Str) (v:V),X.N[i]?=some x->U[i]?=some (some v)->T6 X.env.scope x->∃u,RelV v u/\BZ X.env s.heap m x u
 cell:∀x c,X.env.cells.lookup x=some c->∃v,s.heap.IsCell c v
 free:H X.env.locals=none
 ZO:∀x c,X.env.cells.lookup x=some c->H c=none
 pin:∀p∈X.pn++y6,s.heap.get? p.1=some p.2/\H p.1=none/\p.1≠X.env.locals/\p.1∉X.fs/\∀v,p.2.data≠.cell v
 Z3:Zl X.prog X.w H s.heap
 len:U.length=X.N.length
section
variable {U:List (Option V)} {H':Hp}
def Cx.Ok.RI(ok:X.Ok){o:Obj}(e:X.base.get? b=some o):b∉X.fs:=λa=>by
 have:=(ok.Zk.mem a).1
 grind
def Inv.bs(I:Inv X y6 U H s):∀b o,X.base.get? b=some o->s.heap.get? b=some o/\H b=none:=λb o e=>
 ⟨I.base.keep b o (I.ok.bs b o e).1 (I.ok.bs b o e).2 (I.ok.RI e) (I.ok.X_ b o e),I.base.free b o (I.ok.bs b o e).1 (I.ok.bs b o e).2 (I.ok.X_ b o e)⟩
def Inv.bk(I:Inv X y6 U H s):∀b o,X.base.get? b=some o->s.heap.get? b=some o:=λb o e=>(I.bs b o e).1
def Inv.mod(I:Inv X y6 U H s):Mod X.K X.mg X.base:=I.ok.mod
def Inv.Y_(I:Inv X y6 U H s):X.K.In s.heap:=I.ok.mod.WO.keeps I.bk
def Inv.nolimit(I:Inv X y6 U H s):s.heap.NoLimit:=I.ok.mod.nolimit.keeps I.bk
def Inv.lt(I:Inv X y6 U H s):X.env.locals<s.heap.objs.size:=let ⟨_,a,_⟩:=I.loc;a.lt
def Inv.sz(I:Inv X y6 U H s):X.s₀.heap.objs.size<=s.heap.objs.size:=Bh I.ok.above (Nat.le_of_lt I.lt)
def Inv.RL(I:Inv X y6 U H s)(h:s.heap.objs.size<=a):a∉X.fs:=λc=>by
 obtain⟨_,o,b,_⟩:=I.ok.Zk.mem c;exact absurd (Bd (Ax b) (Bh I.sz h)) (De _)
def Inv.Vk(I:Inv X y6 U H s):∀x c,X.env.cells.lookup x=some c->c≠X.env.locals:=λx c e z=>by
 obtain⟨v,o,d,f⟩:=I.cell x c e;obtain⟨m,⟨g,h,i,a,b,_⟩,_⟩:=I.loc;grind
def Inv.Zk(I:Inv X y6 U H s):s.heap.FunFrames X.base X.outer:=by
 have f:∀l,(∀b∈YZ l,b∈X.fs)->X.s₀.heap.FunFrames X.base l->s.heap.FunFrames X.base l:=by
  intro l;induction l with
  |nil=>intro _ _;trivial
  |cons q r h=>
   intro g m;obtain⟨n,⟨L,o,a,k,j,p⟩,i⟩:=m;have d:=g L (by unfold YZ;rw[Ey,a];exact Al)
   obtain⟨t,e⟩:=I.base.slot L o j (I.ok.WZ L d) d λz=>I.ok.X6 L z d;exact⟨n,⟨L,_,a,k,e,p⟩,h (λb c=>g b (by unfold YZ;rw[Ey,a];exact Ak _ c)) i⟩
 exact f X.outer (λ_ c=>c) I.ok.Zk
def Inv.stack(I:Inv X y6 U H s):s.heap.FunFrames X.base X.stack:=by
 rcases I.ok.Wl with e|⟨e,b⟩
 .rw[e];exact I.Zk
 .rw[e];obtain⟨m,a,_⟩:=I.loc;refine .cons (by rw[I.ok.kind];decide) b a ?_ I.Zk
  exact Gy (Bh I.ok.XI I.ok.above)
def Inv.Yn(I:Inv X y6 U H s):∀b∈YZ X.stack,b∈X.env.locals::X.fs:=λb a=>by
 rcases I.ok.Wl with e|⟨e,c⟩
 .rw[e]at a;exact Ak _ a
 .rw[e]at a;unfold YZ at a;rwa[Ey,c]at a
def Inv.Y7(I:Inv X y6 U H s):∀b∈YZ X.stack,H b=none:=λb a=>by
 rcases Bc.mp (I.Yn b a) with e|a
 .rw[e];exact I.free
 .obtain⟨_,o,c,_⟩:=I.ok.Zk.mem a;exact I.base.free b o c (I.ok.WZ b a) λz=>I.ok.X6 b z a
def Inv.step{ch:List Addr}(I:Inv X y6 U H s)(A:∀b∈ch,(b∈X.ex\/X.s₀.heap.objs.size<=b)/\b≠X.env.locals/\(∀x c,X.env.cells.lookup x=some c->c≠b)/\∀p∈X.pn++y6,p.1≠b)(y:∀b o,b≠X.env.locals->b∉X.fs->b∉ch->s.heap.get? b=some o->H b=none->h'.get? b=some o)(F:∀b o,b≠X.env.locals->b∈X.fs->b∉ch->s.heap.get? b=some o->H b=none->∃V,h'.get? b=some {o with slots:=V})(f:∀b o,b∉ch->s.heap.get? b=some o->H b=none->H' b=none)(G:∀b o,b∉ch->s.heap.get? b=some o->∃N,h'.get? b=some N)(L:∀b E,H b=some (.tup E)->H' b=some (.tup E))(Q:∀b o u,H b=some (.frz o u)->H' b=some (.frz o u))(M:∀b S,H b=some (.tbl S)->∃P,H' b=some (.tbl (S++P)))(ns:∀m,s.heap.Ns X.env.locals m->h'.Ns X.env.locals m)(W:Zl X.prog X.w H' h')(hg:AllBare g'):Inv X y6 U H' {s with heap:=h',gens:=g',drawn:=d',toks:=t'}:=by
 have O:∀b o,X.s₀.heap.get? b=some o->b≠X.env.locals:=λb o e=>Bm (Bd (Ax e) I.ok.above)
 have C:∀b o,X.s₀.heap.get? b=some o->b∉X.ex->b∉ch:=λb o e a J=>by
  rcases (A b J).1 with z|z
  .exact a z
  .exact absurd (Bd (Ax e) z) (De _)
 have B:∀x c,X.env.cells.lookup x=some c->∀v,s.heap.IsCell c v->h'.IsCell c v:=λx c e v ⟨o,K,Y⟩=>by
  have j:=λz=>(A c z).2.2.1 x c e rfl
  by_cases hc:c∈X.fs
  .obtain⟨V,q⟩:=F c o (I.Vk x c e) hc j K (I.ZO x c e);exact⟨_,q,Y⟩
  .exact⟨o,y c o (I.Vk x c e) hc j K (I.ZO x c e),Y⟩
 refine⟨I.ok,I.os,hg,⟨λb o e n J a=>?_,λb o e n J a=>?_,λb o e n a=>?_,λb o e a=>?_,λb E e=>L b E (I.base.tups b E e),λb o E e=>Q b o E (I.base.frzs b o E e),λb S e=>?_⟩,?_,λx c e=>?_,?_,λx c e=>?_,λp hp=>?_,W,I.len⟩
 .exact y b o (O b o e) J (C b o e a) (I.base.keep b o e n J a) (I.base.free b o e n a)
 .obtain⟨V,D⟩:=I.base.slot b o e n J a;obtain⟨T,R⟩:=F b _ (O b o e) J (C b o e a) D (I.base.free b o e n a);exact⟨T,R⟩
 .obtain⟨N,D⟩:=I.base.there b o e a;exact f b N (C b o e a) D (I.base.free b o e n a)
 .obtain⟨N,D⟩:=I.base.there b o e a;exact G b N (C b o e a) D
 .obtain⟨m1,D⟩:=I.base.tbls b S e;obtain⟨m2,R⟩:=M b _ D;exact⟨m1++m2,by rw[R,Array.append_assoc]⟩
 .obtain⟨m,hn,hl⟩:=I.loc;refine⟨m,ns m hn,λi x v D R e3=>?_⟩;obtain⟨u,r,l⟩:=hl i x v D R e3;refine⟨u,r,?_⟩;rcases l with l|⟨k,c,e,z⟩
  .exact .inl l
  .exact .inr ⟨k,c,e,B x c e _ z⟩
 .obtain⟨v,z⟩:=I.cell x c e;exact⟨v,B x c e v z⟩
 .obtain⟨m,⟨o,_,_,K,_⟩,_⟩:=I.loc;exact f _ o (λz=>(A _ z).2.1 rfl) K I.free
 .obtain⟨v,o,K,Y⟩:=I.cell x c e;exact f c o (λz=>(A c z).2.2.1 x c e rfl) K (I.ZO x c e)
 .obtain⟨e,n,ne,Z,d⟩:=I.pin p hp;have j:=λz=>(A p.1 z).2.2.2 p hp rfl
  exact⟨y p.1 p.2 ne Z j e n,f p.1 p.2 j e n,ne,Z,d⟩
def Inv.un{t':Nat}(I:Inv X y6 U H s)(u:Un X.fs [] H H' s.heap h')(c:Zl X.prog X.w H' h'):Inv X y6 U H' {s with heap:=h',toks:=t'}:=by
 obtain⟨m,⟨o,A,B,k,r⟩,_⟩:=id I.loc;obtain⟨v,q⟩:=u.any k I.free (by simp)
 exact I.step   (ch:=[]) (λ_ z=>nomatch z) (λb o _ f _ e n=>u.keep b o e n f (by simp)) (λb o _ f _ e n=>u.slot b o e n f (by simp)) (λb o _ e n=>u.free b o e n (by simp)) (λb o _ e=>u.there b o e (by simp)) u.tups u.frzs u.tbls (λy p=>by
  obtain⟨x,i,j,a,l⟩:=p;rw[k]at a;cases a;exact⟨_,i,j,q,l⟩) c I.bare
def Inv.call{t':Nat}{d':Drawn}{ch:List Addr}(I:Inv X y6 U H s)(u:Un (YZ X.stack) ch H H' s.heap h')(j:Zl X.prog X.w H' h')(B:AllBare g')(i:∀b∈ch,(b∈X.ex\/X.s₀.heap.objs.size<=b)/\b≠X.env.locals/\(∀x c,X.env.cells.lookup x=some c->c≠b)/\∀p∈X.pn++y6,p.1≠b):Inv X y6 U H' {s with heap:=h',gens:=g',drawn:=d',toks:=t'}:=by
 obtain⟨m,⟨o,G,J,v,r⟩,_⟩:=id I.loc;obtain⟨D,k⟩:=u.any v I.free λz=>(i _ z).2.1 rfl;exact I.step  i (λb o k C a e n=>u.keep b o e n (λz=>(Bc.mp (I.Yn b z)).elim k C) a) (λb o _ _ a e n=>u.any e n a) (λb o a e n=>u.free b o e n a) (λb o a e=>u.there b o e a) u.tups u.frzs u.tbls (λF A=>by
  obtain⟨E,l,q,f,y⟩:=A;rw[v]at f;cases f;exact⟨_,l,q,k,y⟩) j B
def Inv.turned{t':Nat}{a:Addr}(I:Inv X y6 U H s)(k:∀b o,b≠a->s.heap.get? b=some o->h'.get? b=some o)(w:H a=none)(j:a≠X.env.locals)(D:a∈X.ex\/X.s₀.heap.objs.size<=a)(C:∀x c,X.env.cells.lookup x=some c->c≠a)(B:∀p∈X.pn++y6,p.1≠a):Inv X y6 U H {s with heap:=h',toks:=t'}:=by
 have i:∀b u,H b=some u->b≠a:=λb u e z=>by rw[z,w]at e;cases e
 refine I.step (g':=s.gens) (d':=s.drawn) (ch:=[a]) (λb A=>?_) (λb o _ _ f e _=>k b o (λz=>f (by simp[z])) e) (λb o _ _ f e _=>⟨o.slots,k b o (λz=>f (by simp[z])) e⟩) (λ_ _ _ _ n=>n)
  (λb o f e=>⟨o,k b o (λz=>f (by simp[z])) e⟩) (λ_ _ e=>e) (λ_ _ _ e=>e) (λb G e=>⟨#[],by rw[e];simp⟩) (λm y=>?_) (λb u e=>?_) I.bare
 .have e:b=a:=by simpa using A
  subst e;exact⟨D,j,C,B⟩
 .obtain⟨o,E,F,l,r⟩:=y;exact⟨o,E,F,k _ o (Ne.symm j) l,r⟩
 .refine(I.Z3 b u e).ZC (λc v f q=>k c v ?_ q) (λ_ q=>q) λ_ _ q=>q;grind
def Inv.tok(I:Inv X y6 U H s)(t:Nat):Inv X y6 U H {s with toks:=t}:=I.un   Un.refl I.Z3
def Inv.kept{t':Nat}(I:Inv X y6 U H s)(k:∀b u,s.heap.get? b=some u->h'.get? b=some u):Inv X y6 U H {s with heap:=h',toks:=t'}:=I.un (Un.kept k) (I.Z3.kept k)
def Inv.laid{a:Addr}{o:HO}{t':Nat}(I:Inv X y6 U H s)(k:∀b u,s.heap.get? b=some u->h'.get? b=some u)(d:s.heap.objs.size<=a)(c:ZX X.prog X.w (upd H a o) h' a o):Inv X y6 U (upd H a o) {s with heap:=h',toks:=t'}:=I.un (Un.laid k d (I.Z3.fresh d)) (I.Z3.laid k d c)
def Inv.write{x e:Addr}{o:HO}{t':Nat}(I:Inv X y6 U H s)(d:U5 (H x))(f:e=x\/H e=some (.own x))(k:∀b u,b≠e->s.heap.get? b=some u->h'.get? b=some u)(a:∃u,h'.get? e=some u)(c:ZX X.prog X.w (upd H x o) h' x o):Inv X y6 U (upd H x o) {s with heap:=h',toks:=t'}:=I.un (Un.write d f k a) (I.Z3.write d f k a c)
def Inv.weak{b:List _}(I:Inv X y6 U H s)(d:b.length=U.length)(w:∀(i:Nat) v,b[i]?=some (some v)->U[i]?=some (some v)):Inv X y6 b H s:=
 ⟨I.ok,I.os,I.bare,I.base,let ⟨m,c,a⟩:=I.loc;⟨m,c,λi x v g f e=>a i x v g (w i v f) e⟩,I.cell,I.free,I.ZO,I.pin,I.Z3,d.trans I.len⟩
def Inv.XF{a:Q2}(I:Inv X y6 U H s)(h:∀p∈a,s.heap.get? p.1=some p.2/\H p.1=none/\p.1≠X.env.locals/\p.1∉X.fs/\∀v,p.2.data≠.cell v):Inv X a U H s:=
 ⟨I.ok,I.os,I.bare,I.base,I.loc,I.cell,I.free,I.ZO,λp b=>(Bk.mp b).elim (λz=>I.pin p (Dg _ z)) (h p),I.Z3,I.len⟩
def wU(c:N.Nodup){j:Nat}(a:N[i]?=some x)(b:N[j]?=some x):i=j:=by
 obtain⟨g,e⟩:=Ad.mp a;obtain⟨f,d⟩:=Ad.mp b;exact(He c).mp (e.trans d.symm)
def Qd{Q:Unit->Shared->Prop}(I:Inv X y6 U H s)(hN:X.N.Nodup)(T:X.N[i]?=some x)(B:Loc X.env.scope x)(r:RelV v u)(h:∀s',Inv X y6 (U.set i (some v)) H s'->(∃a,Heap.SameBut a s.heap s'.heap/\(a=X.env.locals\/X.env.cells.lookup x=some a))->Q () s')(hf:X.fn x=true\/X.env.scope.names.lookup x=some .local:=by first|exact .inl rfl|exact .inr rfl|assumption):wpAny M A (storeName X.env x u) Q E s:=by
 obtain⟨m,hn,hl⟩:=id I.loc;have V:(X.env.scope.kind == .class || (X.env.scope.kind == .module&&X.env.locals != X.env.globals))=false:=by rw[I.ok.kind];rfl
 have S:i<U.length:=by rw[I.len];exact(Ad.mp T).1
 have L:=I.Vk
 have g:∀ {a:Addr} {O:Heap},(∃o,s.heap.get? a=some o/\H a=none)->Heap.SameBut a s.heap O->Zl X.prog X.w H O:=fun {a O} ha f b ob e=>by
  obtain⟨_,_,C⟩:=ha;refine(I.Z3 b ob e).ZC (λc Z t q=>(f.2 c ?_).trans q) (λ_ q=>q) λ_ _ q=>q;rintro rfl;rcases t with rfl|t
  .rw[C]at e;cases e
  .rw[C]at t;cases t
 rcases B with F|F
 .refine wpAny_storeName_local F hn (λO a2 f=>?_) V;obtain⟨oL,_,_,a1,_⟩:=id hn;refine h _ ⟨I.ok,I.os,I.bare,⟨λb o e n K B=>?_,λb o e n K B=>?_,I.base.free,λb o e B=>?_,I.base.tups,I.base.frzs,I.base.tbls⟩,⟨_,a2,λj y v' l D e3=>?_⟩,λy c e=>?_,I.free,I.ZO,λp hp=>?_,g ⟨oL,a1,I.free⟩ f,by simpa using I.len⟩ ⟨_,f,.inl rfl⟩
  .exact(f.2 b (Bm (Bd (Ax e) I.ok.above))).trans (I.base.keep b o e n K B)
  .obtain⟨sl,l⟩:=I.base.slot b o e n K B;exact⟨sl,(f.2 b (Bm (Bd (Ax e) I.ok.above))).trans l⟩
  .obtain⟨o',l⟩:=I.base.there b o e B;exact⟨o',(f.2 b (Bm (Bd (Ax e) I.ok.above))).trans l⟩
  .by_cases G:j=i
   .subst G;rw[T]at l;cases l;rw[Dt S]at D;cases D;exact⟨u,r,.inl ⟨F,by simp⟩⟩
   .rw[Ee (Ne.symm G)]at D;obtain⟨u',r',q⟩:=hl j y v' l D e3;refine⟨u',r',?_⟩;rcases q with⟨k,e⟩|⟨k,c,e,z⟩
    .refine .inl ⟨k,?_⟩;have:y≠x:=λe=>G (wU hN l (e▸T))
     simp[this,e]
    .exact .inr ⟨k,c,e,z.sameBut f (L y c e)⟩
  .obtain⟨Z,z⟩:=I.cell y c e;exact⟨Z,z.sameBut f (L y c e)⟩
  .obtain⟨e,n,ne,nf,d⟩:=I.pin p hp;exact⟨(f.2 p.1 ne).trans e,n,ne,nf,d⟩
 .have J:X.fn x=true:=by
   rcases hf with z|z
   .exact z
   .rw[z]at F;cases F
  obtain⟨c,t⟩:=I.ok.has x (.inl F);obtain⟨Z,z⟩:=I.cell x c t;refine wpAny_storeName_cell I.ok.kind F t z (λO Y f=>?_);obtain⟨oc,R,P⟩:=id z;refine h {s with heap:=O} ⟨I.ok,I.os,I.bare,⟨λb o e n K B=>?_,λb o e n K B=>?_,I.base.free,λb o e B=>?_,I.base.tups,I.base.frzs,I.base.tbls⟩,⟨m,hn.sameBut f (Ne.symm (L x c t)),λj y v' l D e3=>?_⟩,λy c' e=>?_,I.free,I.ZO,λp hp=>?_,g ⟨oc,R,I.ZO x c t⟩ f,by simpa using I.len⟩ ⟨c,f,.inr t⟩
  .exact(f.2 b (Bm (Bd (Ax e) (I.ok.Wx x c J t)))).trans (I.base.keep b o e n K B)
  .obtain⟨sl,l⟩:=I.base.slot b o e n K B;exact⟨sl,(f.2 b (Bm (Bd (Ax e) (I.ok.Wx x c J t)))).trans l⟩
  .obtain⟨o',l⟩:=I.base.there b o e B;exact⟨o',(f.2 b (Bm (Bd (Ax e) (I.ok.Wx x c J t)))).trans l⟩
  .by_cases G:j=i
   .subst G;rw[T]at l;cases l;rw[Dt S]at D;cases D;exact⟨u,r,.inr ⟨.inl F,c,t,Y⟩⟩
   .rw[Ee (Ne.symm G)]at D;obtain⟨u',r',q⟩:=hl j y v' l D e3;refine⟨u',r',?_⟩;rcases q with q|⟨k,c',e,z'⟩
    .exact .inl q
    .refine .inr ⟨k,c',e,z'.sameBut f ?_⟩;rintro rfl;exact G (wU hN l (I.ok.inj _ _ _ e t▸T))
  .by_cases W:c'=c
   .subst W;exact⟨_,Y⟩
   .obtain⟨w2,z2⟩:=I.cell y c' e;exact⟨w2,z2.sameBut f W⟩
  .obtain⟨e,n,ne,nf,d⟩:=I.pin p hp;refine⟨(f.2 p.1 ?_).trans e,n,ne,nf,d⟩;intro q;rw[q,R]at e;have q':=Bj e
   exact d Z (by rw[<-q'];exact P)
def vB{Q:Unit->Shared->Prop}(I:Inv X y6 U H s)(e:X.N.Nodup)(c:X.N[i]?=some x)(b:Loc X.env.scope x)(r:RelV v u)(h:∀a,Inv X y6 (U.set i (some v)) H a->Q () a)(d:X.fn x=true\/X.env.scope.names.lookup x=some .local:=by first|exact .inl rfl|exact .inr rfl|assumption):wpAny M A (storeName X.env x u) Q E s:=
 Qd I e c b r (λa f _=>h a f) d
def Inv.Wu{ch:List Addr}(I:Inv X y6 U H s)(j:s'.os=s.os)(u:Un (YZ X.stack) ch H H' s.heap s'.heap)(a:Zl X.prog X.w H' s'.heap)(k:AllBare s'.gens)(f:∀b∈ch,(b∈X.ex\/X.s₀.heap.objs.size<=b)/\b≠X.env.locals/\(∀x c,X.env.cells.lookup x=some c->c≠b)/\∀p∈X.pn++y6,p.1≠b):Inv X y6 U H' s':=by
 obtain⟨l,g',d',t',i⟩:=s';have e:=j
 subst e;exact I.call    u a k f
end
abbrev XK:=Value->Option Addr->Hp->Prop
abbrev St:=List (Option V)
variable {U:St}
abbrev VK:=V->Hp->Prop
abbrev TE:=St->Hp->VK->Prop
variable {ta tb te:TE}
abbrev TT:=St->Hp->(Bool->Hp->Prop)->Prop
abbrev TA:=St->Hp->(List V->Hp->Prop)->Prop
variable {t:TA}
structure Ends where
 nx:St->Hp->Prop
 rt:VK
 bk:St->Hp->Prop:=λ_ _=>False
 ct:St->Hp->Prop:=λ_ _=>False
abbrev TS:=Ends->St->Hp->Prop
def EP(X:Cx)(b:List (Addr×Obj))(U:St)(Q:VK)(u:Value)(s':Shared):Prop:=∃v a,Inv X b U a s'/\RelV v u/\Q v a
def TP(X:Cx)(c:List (Addr×Obj))(U:St)(Q:Bool->Hp->Prop)(b:Bool)(s':Shared):Prop:=∃a,Inv X c U a s'/\Q b a
def AP(X:Cx)(c:List (Addr×Obj))(U:St)(Q:List V->Hp->Prop)(us:List Value)(s':Shared):Prop:=∃a b,Inv X c U b s'/\Vals a us/\Q a b
def SP(X:Cx)(c:List (Addr×Obj))(D:Ends)(f:Flow)(s':Shared):Prop:=
 match f with
 |.next=>∃b a,Inv X c b a s'/\D.nx b a
 |.brk=>∃b a,Inv X c b a s'/\D.bk b a
 |.cont=>∃b a,Inv X c b a s'/\D.ct b a
 |.ret u=>∃v b a,Inv X c b a s'/\RelV v u/\D.rt v a
def PE(X:Cx)(e:Expr)(t:TE):Prop:=
 ∀(a:Q2) s (U:St) H Q,Inv X a U H s->t U H Q->wpAny (model X.prog X.w) X.A (eval e X.env) (EP X a U Q) X.xe s
def PT(X:Cx)(e:Expr)(t:TT):Prop:=
 ∀(a:Q2) s (U:St) H Q,Inv X a U H s->t U H Q->wpAny (model X.prog X.w) X.A (isTrue e X.env (eval e X.env)) (TP X a U Q) X.xe s
def PW(X:Cx)(e:Expr)(t:TT):Prop:=
 ∀a (b:Q2) s (U:St) H Q,Inv X b U H s->t U H Q->wpAny (model X.prog X.w) X.A (isTrue e X.env a) (TP X b U Q) X.xe s
def PW.pt{t:TT}(h:PW X e t):PT X e t:=h _
def PA(X:Cx)(c:List Expr)(t:TA):Prop:=
 ∀a (b:Q2) s (U:St) H Q,Inv X b U H s->t U H Q->wpAny (model X.prog X.w) X.A (spliced (backTo a (starEach c X.env))) (AP X b U Q) X.xe s
def PS(X:Cx)(st:Stmt)(t:TS):Prop:=
 ∀(a:Q2) s (U:St) H D,Inv X a U H s->t D U H->wpAny (model X.prog X.w) X.A (exec st X.env) (SP X a D) X.xe s
def Yw(X:Cx)(st:List Stmt)(t:TS):Prop:=
 ∀(a:Q2) s (U:St) H D,Inv X a U H s->t D U H->wpAny (model X.prog X.w) X.A (execs st X.env) (SP X a D) X.xe s
def ZY{b:Type}{t:Sem b}{Q c:b->Shared->Prop}(h:wpAny M A t Q E s)(d:∀a s,Q a s->c a s):wpAny M A t c E s:=Co h d λ_ _ x=>x
section
def QF(i:Nat):TE:=λU H Q=>∃v,U[i]?=some (some v)/\Q v H
def tC(v:V):TE:=λ_ H Q=>Q v H
def CL(t:X.N[i]?=some x)(n:T6 X.env.scope x)(f:(x==("__debug__" : Str))=false:=by decide)(g:(x==("__classdict__" : Str))=false:=by decide):PE X (.Name x pos) (QF i):=by
 intro k s U H Q I h;obtain⟨v,e,h⟩:=h;obtain⟨m,o,q⟩:=I.loc;obtain⟨u,r,l⟩:=q i x v t e n;have d:EP X k U Q u s:=⟨v,H,I,r,h⟩
 rcases l with⟨b,p⟩|⟨b,c,j,a⟩
 .exact wpAny_Name (wpAny_loadName_local I.ok.kind b o p d) f
 .rcases b with b|b
  .exact wpAny_Name (wpAny_loadName_cell I.ok.kind b j a d) f
  .exact wpAny_Name (wpAny_loadName_free I.ok.kind b j a d g) f
def aJ{i j pos}:PE X (.Constant (.int i) j pos) (tC (.int i)):=λ_ _ _ H _ I h=>wpAny_Constant_int ⟨.int i,H,I.tok _,⟨_,rfl⟩,h⟩
def lK{b j pos}:PE X (.Constant (.bool b) j pos) (tC (.bl b)):=λ_ _ _ H _ I h=>Constant_bool ⟨.bl b,H,I,rfl,h⟩
def dG{j pos}:PE X (.Constant .none j pos) (tC .non):=λ_ _ _ H _ I h=>Constant_none ⟨.non,H,I,rfl,h⟩
def fO{x j pos}:PE X (.Constant (.str x) j pos) (tC (.str x)):=λ_ _ _ H _ I h=>Calls.Constant_str ⟨.str x,H,I.tok _,⟨_,rfl⟩,h⟩
def Gl(X:Cx)(x:Str):Prop:=X.env.kindOf x=some .globalImplicit
def hZ(I:Inv X y6 U H s)(b:Gl X x)(a:X.mg x=some u)(h:Q u s)(c:(x==("__debug__" : Str))=false:=by decide):wpAny (model X.prog X.w) X.A (eval (.Name x pos) X.env) Q E s:=
 Calls.Name_function_global I.ok.kind b (Calls.loadGlobal_global (by rw[I.ok.glob];exact I.mod.glob.keeps I.bk) a h) c
def jA(I:Inv X y6 U H s)(d:Gl X x)(c:X.mg x=none)(a:bootBuiltins x=some u)(h:Q u s)(b:x≠"__name__" := by decide)(e:(x==("__debug__" : Str))=false:=by decide):wpAny (model X.prog X.w) X.A (eval (.Name x pos) X.env) Q E s:=by
 obtain⟨i,g,f⟩:=I.mod.blt;exact Calls.Name_function_global I.ok.kind d (Calls.loadGlobal_builtin (by rw[I.ok.glob];exact I.mod.glob.keeps I.bk) c (by rw[I.ok.blt];exact g.keeps I.bk) ((f x b).trans a) h) e
def Tx(b:Gl X x)(a:X.mg x=some u)(r:RelV v u)(c:(x==("__debug__" : Str))=false:=by decide):PE X (.Name x pos) (tC v):=
 λ_ _ _ H _ I h=>hZ I b a ⟨v,H,I,r,h⟩ c
variable {a b:Expr}
variable {tA tB':TT} {rest:List Expr}
def Ph(t u:TT):TT:=λU H Q=>t U H λc a=>if c=true then u U a Q else Q false a
def Qy(t u:TT):TT:=λU H Q=>t U H λc a=>if c=true then Q true a else u U a Q
def Q9(t:TT):TT:=λU H Q=>t U H λc a=>Q (!c) a
def Sj(d:PT X a tA):PW X (.BoolOp .And [a] pos) tA:=by
 intro f b s U H Q I h;refine isTrue_and (ZY (d b s U H Q I h) λc g e=>?_);cases c with
 |true=>exact isTrue_and_nil e
 |false=>exact e
def lZ(d:PT X a tA):PW X (.BoolOp .Or [a] pos) tA:=by
 intro f b s U H Q I h;refine isTrue_or (ZY (d b s U H Q I h) λc g e=>?_);cases c with
 |false=>exact isTrue_or_nil e
 |true=>exact e
def S2(l:PT X a tA)(k:PW X (.BoolOp .And (b::rest) pos) tB'):PW X (.BoolOp .And (a::b::rest) pos) (Ph tA tB'):=by
 intro i d s U H Q I h;refine isTrue_and (ZY (l d s U H _ I h) λc j μ=>?_);obtain⟨g,f,e⟩:=μ;cases c with
 |true=>exact k i d j U g Q f e
 |false=>exact⟨g,f,e⟩
def sQ(l:PT X a tA)(k:PW X (.BoolOp .Or (b::rest) pos) tB'):PW X (.BoolOp .Or (a::b::rest) pos) (Qy tA tB'):=by
 intro i d s U H Q I h;refine isTrue_or (ZY (l d s U H _ I h) λc j μ=>?_);obtain⟨g,f,e⟩:=μ;cases c with
 |true=>exact⟨g,f,e⟩
 |false=>exact k i d j U g Q f e
def sM(d:PT X a tA):PT X (.UnaryOp .Not a pos) (Q9 tA):=by
 intro b s U H Q I h;exact isTrue_not (d b s U H _ I h)
def Tn{t:TE}(h:PE X a t):PE X (.BoolOp op [a] pos) t:=λb s U H Q I c=>BoolOp_one (h b s U H Q I c)
def QC(t:TT)(d b:TE):TE:=λU H Q=>t U H λc a=>if c=true then d U a Q else b U a Q
def qU(k:PT X c tA)(m:PE X a ta)(l:PE X b tb):PE X (.IfExp c a b pos) (QC tA ta tb):=by
 intro e s U H Q I h;refine wpAny_IfExp (ZY (k e s U H _ I h) λd f μ=>?_);obtain⟨j,i,g⟩:=μ;cases d with
 |true=>exact m e f U j Q i g
 |false=>exact l e f U j Q i g
end
def ZA(K:W.Frag)(H:Hp)(a:Addr)(xs:List V):Prop:=
 Rd H a (.lst xs)\/
  ∃o b n,K.lookup a=some o/\o.cls=.type "list"/\o.dict=none/\o.data=.seq b n/\b.size<=sizeLine/\Vals xs b.toList
def Yb(K:W.Frag)(H:Hp)(a:Addr)(xs:List V):Prop:=
 Rd H a (.tup xs)\/
  ∃o b n,K.lookup a=some o/\o.cls=.type "tuple"/\o.data=.seq b n/\b.size<=sizeLine/\Vals xs b.toList
noncomputable def FG:Value->Option V
 |.none=>some .non
 |.bool b=>some (.bl b)
 |.int i _=>some (.int i)
 |.str x _=>some (.str x)
 |.bytes b _=>some (.byt b)
 |.float b _=>some (.flt b)
 |.ref a=>some (.ref a)
 |.type n=>some (.ty n)
 |_=>none
def RelV.abs{x:V}(r:RelV x u):FG u=some x:=by
 cases x with
 |non=>cases r;rfl
 |bl _=>cases r;rfl
 |int _=>obtain⟨t,rfl⟩:=r;rfl
 |str _=>obtain⟨t,rfl⟩:=r;rfl
 |byt _=>obtain⟨t,rfl⟩:=r;rfl
 |flt _=>obtain⟨t,rfl⟩:=r;rfl
 |ref _=>cases r;rfl
 |ty _=>cases r;rfl
def RelV.inj{x y:V}(r:RelV x u)(q:RelV y u):x=y:=Bj (r.abs.symm.trans q.abs)
def Vals.inj{b a:List V}{c:List Value}(h:Vals b c)(g:Vals a c):b=a:=by
 induction h generalizing a with
 |nil=>cases g;rfl
 |cons r _ i=>cases g with|cons q t=>rw[r.inj q,i t]
section
variable {ys:List V}
def Yb.of(h:H a=some (.tup xs)):Yb K H a xs:=.inl (.inl h)
def Inv.list(I:Inv X y6 U H s)(h:ZA X.K H a xs):∃b,Vals xs b/\PlainL s.heap a b.toArray/\xs.length<=sizeLine:=by
 rcases h with h|⟨o,b,n,d,g,f,c,i,r⟩
 .obtain⟨z,b,n,r,e⟩:=h.ok I.Z3;exact⟨b,r,⟨_,n,e,rfl,rfl,rfl⟩,z⟩
 .refine⟨b.toList,r,⟨o,n,I.Y_ a o d,g,f,by simpa using c⟩,?_⟩
  have e:=r.length
  grind
def Inv.tuple(I:Inv X y6 U H s)(h:Yb X.K H a xs):∃b,Vals xs b/\IsTup s.heap a b.toArray/\xs.length<=sizeLine:=by
 rcases h with h|⟨o,b,n,d,f,c,g,r⟩
 .obtain⟨z,b,r,p⟩:=h.ok I.Z3;exact⟨b,r,p,z⟩
 .refine⟨b.toList,r,⟨o,I.Y_ a o d,f,n,by simpa using c⟩,?_⟩
  have e:=r.length
  simp_all
def Inv.Y2(I:Inv X y6 U H s)(h:ZA X.K H a xs)(h':ZA X.K H a ys):xs=ys:=by
 obtain⟨c,r,⟨o,n,e,_,_,d⟩,_⟩:=I.list h;obtain⟨b,i,⟨k,l,f,_,_,g⟩,_⟩:=I.list h'
 have:c=b:=by grind
 subst this;exact r.inj i
end
noncomputable abbrev Cx.YO(X:Cx)(E:Value->Shared->Prop):Cx:={X with xe:=E}
noncomputable abbrev Cx.W2(X:Cx):Cx:=X.YO λ_ _=>False
def Cx.Ok.YO(ok:X.Ok)(E:Q0):(X.YO E).Ok:=
 ⟨ok.mod,ok.kind,ok.glob,ok.blt,ok.above,ok.inj,ok.has,ok.Wx,ok.hd,ok.frames,ok.Wl,ok.VI,ok.bs,ok.XI,ok.X_,ok.X6,ok.Zk,ok.WZ⟩
def Cx.Ok.Zo(ok:(X.YO E).Ok):X.Ok:=
 ⟨ok.mod,ok.kind,ok.glob,ok.blt,ok.above,ok.inj,ok.has,ok.Wx,ok.hd,ok.frames,ok.Wl,ok.VI,ok.bs,ok.XI,ok.X_,ok.X6,ok.Zk,ok.WZ⟩
def Inv.YO(I:Inv X y6 U H s)(E:Q0):Inv (X.YO E) y6 U H s:=⟨I.ok.YO E,I.os,I.bare,I.base,I.loc,I.cell,I.free,I.ZO,I.pin,I.Z3,I.len⟩
def Inv.Zo(I:Inv (X.YO E) y6 U H s):Inv X y6 U H s:=⟨I.ok.Zo,I.os,I.bare,I.base,I.loc,I.cell,I.free,I.ZO,I.pin,I.Z3,I.len⟩
def SP.Zo{f:Flow}{s':Shared}(h:SP (X.YO E) y6 D f s'):SP X y6 D f s':=by
 cases f with
 |next=>obtain⟨a,b,I,q⟩:=h;exact⟨a,b,I.Zo,q⟩
 |brk=>obtain⟨a,b,I,q⟩:=h;exact⟨a,b,I.Zo,q⟩
 |cont=>obtain⟨a,b,I,q⟩:=h;exact⟨a,b,I.Zo,q⟩
 |ret u=>obtain⟨v,a,b,I,r,q⟩:=h;exact⟨v,a,b,I.Zo,r,q⟩
def Yw.W2{st:List Stmt}{t:TS}(h:Yw X.W2 st t):Yw X st t:=λa s U H D I b=>
 Co (h a s U H D (I.YO _) b) (λ_ _ q=>q.Zo) λ_ _ z=>False.elim z
section
variable {X:Cx} {st:Stmt} {rest:List Stmt} {t u:TS} {e:Expr} {te:TE} {pos:Pos}
def P2:TS:=λD U H=>D.nx U H
def TN(t u:TS):TS:=λD U H=>t {D with nx:=u D} U H
def bF:Yw X [] P2:=λ_ _ U H _ I h=>wpAny_execs_nil ⟨U,H,I,h⟩
def aD(d:PS X st t)(c:Yw X rest u):Yw X (st::rest) (TN t u):=by
 intro a s U H D I h;refine wpAny_execs_cons (ZY (d a s U H {D with nx:=u D} I h) λf b q=>?_)
 cases f with
 |next=>
  obtain⟨e,i,g,q⟩:=q;exact c a b e i D g q
 |ret v=>exact q
 |brk=>exact q
 |cont=>exact q
def aI(b:PS X st t):Yw X [st] t:=by
 intro a s U H D I h;refine wpAny_execs_cons (ZY (b a s U H D I h) λf c q=>?_);cases f with
 |next=>exact wpAny_execs_nil q
 |ret v=>exact q
 |brk=>exact q
 |cont=>exact q
def Inv.quiet(I:Inv X y6 U H s):interactive X.env=false:=by simp[interactive,I.ok.kind]
def N0(a:TE):TS:=λD U H=>a U H λ_ b=>D.nx U b
def bW(c:PE X e te)(hs:swapsWith e none pos.line X.env=pure false:=by rfl):PS X (.Expr e pos) (N0 te):=by
 intro a s U H D I h;exact wpAny_Expr_any (ZY (c a s U H _ I h) λv g ⟨x,f,d,i,b⟩=>⟨U,f,d,b⟩) I.quiet hs
def Pd(a:TE):TS:=λD U H=>a U H D.rt
def aT(d:PE X e te):PS X (.Return (some e) pos) (Pd te):=by
 intro a s U H D I h;exact wpAny_Return_some (ZY (d a s U H _ I h) λv i ⟨x,g,f,b,c⟩=>⟨x,U,g,f,b,c⟩)
def O2(c:TT)(t u:TS):TS:=λD U H=>c U H λb a=>if b=true then t D U a else u D U a
def cD{a b:List Stmt}{f:TT}(l:PT X c f)(n:Yw X a t)(m:Yw X b u):PS X (.If c a b pos) (O2 f t u):=by
 intro e s U H D I h;refine wpAny_If (ZY (l e s U H _ I h) λd g μ=>?_);obtain⟨k,j,i⟩:=μ;cases d with
 |true=>exact n e g U k D j i
 |false=>exact m e g U k D j i
def E8:TS:=λ_ _ _=>False
def OK:PS X st E8:=λ_ _ _ _ _ _ h=>h.elim
end
abbrev TG:=V->St->Hp->(St->Hp->Prop)->Prop
variable {g:TG}
abbrev WA:=List V->St->Hp->(St->Hp->Prop)->Prop
def PG(X:Cx)(a:Expr)(t:TG):Prop:=
 ∀(b:Q2) s (U:St) H v u Q,Inv X b U H s->RelV v u->t v U H Q->
  wpAny (model X.prog X.w) X.A (assign a X.env u) (λ_ e=>∃c d,Inv X b c d e/\Q c d) X.xe s
def Ue(X:Cx)(f:List Expr)(t:WA):Prop:=
 ∀(a:Q2) s (U:St) H b c Q,Inv X a U H s->Vals b c->t b U H Q->
  wpAny (model X.prog X.w) X.A (assignInOrder ((assignEach f X.env).map (·.2)) c) (λ_ g=>∃d e,Inv X a d e g/\Q d e) X.xe s
abbrev TY:=V->V->V->Hp->(Hp->Prop)->Prop
def Qk(X:Cx)(t:TY):Prop:=
 ∀(a:Q2) s (U:St) H o i v b c u Q,Inv X a U H s->RelV o b->RelV i c->RelV v u->t o i v H Q->
  wpAny (model X.prog X.w) X.A (setItem b c u) (λ_ e=>∃d,Inv X a U d e/\Q d) X.xe s
section
variable {X:Cx} {pos:Pos}
def mX(i:Nat):TG:=λv U H Q=>Q (U.set i (some v)) H
def bC{i:Nat}(d:X.N.Nodup)(b:X.N[i]?=some x)(a:Loc X.env.scope x)(c:X.fn x=true\/X.env.scope.names.lookup x=some .local:=by first|exact .inl rfl|exact .inr rfl|assumption):PG X (.Name x pos) (mX i):=by
 intro f s U H v u Q I r h;exact wpAny_assign_Name (vB I d b a r (λg e=>⟨_,H,e,h⟩) c)
def Sz:WA:=λa U H Q=>a=[]/\Q U H
def UL(t:TG)(u:WA):WA:=λa U H Q=>∃v r,a=v::r/\t v U H λb c=>u r b c Q
def Ks:Ue X [] Sz:=by
 intro a s U H b c Q I r h;obtain⟨e,h⟩:=h;exact assignInOrder_nil ⟨U,H,I,h⟩
def PC{t:TG}{u:WA}(g:PG X e t)(f:Ue X es u)(hs:(assignEach (e::es) X.env).map (·.2)=assign e X.env::(assignEach es X.env).map (·.2):=by rfl):Ue X (e::es) (UL t u):=by
 intro a s U H m o Q I r h;obtain⟨v,n,i,h⟩:=h;subst i;cases r with
 |cons r c=>
  rw[hs];refine assignInOrder_cons (ZY (g a s U H _ _ _ I r h) λ_ b μ=>?_);obtain⟨j,l,k,d⟩:=μ;exact f a b j l _ _ Q k c d
def R8(K:W.Frag)(n:Nat)(t:WA):TG:=λv U H Q=>∃a b,v=.ref a/\Yb K H a b/\b.length=n/\t b U H Q
def Ky{t:WA}{n:Nat}(x:X.calm=true)(h:Ue X es t)(q:(assignEach es X.env).length=n:=by rfl)(d:(assignEach es X.env).findIdx? (·.1)=none:=by rfl):PG X (.Tuple es k pos) (R8 X.K n t):=by
 intro f s U H v u Q I r c;obtain⟨a,i,z,p,w,c⟩:=c;subst z;cases r;obtain⟨j,g,m,B⟩:=I.tuple p;refine assign_Tuple_tuple (I.ok.hd x) m (by simp[q,<-w,g.length]) d λy l=>?_
 have A:=I.kept (t':=s.toks) λb o e=>l b o (Bm (Ax e)) e
 exact h f _ U H i _ Q A (by (assumption)) c
def QN(a b:TE)(t:TY):TG:=λv U H Q=>a U H λo e=>b U e λi d=>t o i v d λc=>Q U c
def Tg{o i:Expr}{d e:TE}{t:TY}(p:PE X o d)(q:PE X i e)(hs:Qk X t)(w:∀v,assign (.Subscript o i pos) X.env v=(do
 let a <-holding [v] (eval o X.env)
 let b <-holding [v,a] (eval i X.env)
 standAt pos
 holding [v,a,b] (setItem a b v)
 release [v,a,b] []):=by intro _;rfl):PG X (.Subscript o i pos) (QN d e t):=by
 intro c s U H v u Q I r h;rw[w];refine Ae (Df (ZY (p c s U H _ I h) λa g μ=>?_));obtain⟨x,E,B,k,n⟩:=μ;refine Ae (Df (ZY (q c g U E _ B n) λb f μ=>?_));obtain⟨y,D,A,j,m⟩:=μ;refine Ae (Fv (Ae (Df (ZY (hs c f U D x y v a b u _ A k j r m) λ_ F μ=>?_))));obtain⟨C,z,l⟩:=μ;exact wpAny_release ⟨U,C,z,l⟩
def Vp(a:TE)(g:TG):TS:=λD U H=>a U H λx b=>g x U b D.nx
def Sw(j:PE X e te)(i:PG X tg g)(hs:swapsWithSole [tg] e pos.line X.env=pure false:=by rfl)(f:swappedStores [tg] e X.env=pure none:=by rfl)(k:(assignEach [tg] X.env).map (·.2)=[assign tg X.env]:=by rfl):PS X (.Assign [tg] e pos) (Vp te g):=by
 intro a s U H D I h;refine wpAny_Assign_stores (ZY (j a s U H _ I h) λv b μ=>?_) hs f;obtain⟨x,m,l,c,d⟩:=μ;rw[k];exact ZY (i a b U m x v _ l c d) λ_ n q=>q
def SE{i:Nat}{x:Str}{e:Expr}{b:TE}{a:Pos}(m:X.N.Nodup)(j:X.N[i]?=some x)(g:Loc X.env.scope x)(l:PE X e b)(hs:swapsWith e (some (.Name x a)) pos.line X.env=pure false:=by rfl)(k:X.fn x=true\/X.env.scope.names.lookup x=some .local:=by first|exact .inl rfl|exact .inr rfl|assumption):PS X (.Assign [.Name x a] e pos) (Vp b (mX i)):=by
 intro c s U H D I h;refine wpAny_Assign_Name (ZY (l c s U H _ I h) λv r μ=>?_) hs;obtain⟨y,p,o,d,f⟩:=μ;exact vB o m j g d (λq n=>⟨_,p,n,f⟩) k
end
def F_(c:TT)(g:TS):TS:=λD U H=>∃W:Nat->St->Hp->Prop,(∃m,W m U H)/\∀m U H,W m U H->
 c U H λb e=>if b=true then ∃N,(∀d f,N d f->∃a,a < m/\W a d f)/\g {D with nx:=N,ct:=N,bk:=D.nx} U e else D.nx U e
def wZ{t:TT}{u:TS}(x:PassesOwn (model X.prog X.w) X.A X.env X.xe)(P:PT X c t)(Q:Yw X body u):PS X (.While c body [] pos) (F_ t u):=by
 intro k s U H D I h;obtain⟨W,⟨O,J⟩,a⟩:=h;refine wpAny_While (codeAny_whileLoop (λn M=>∃z F,Inv X k z F M/\W n z F) ?_ O ⟨U,H,I,J⟩);rintro n L ⟨j,E,R,G⟩;refine Fm x (ZY (P k L j E _ R (a n j E G)) λb K μ=>?_);obtain⟨C,B,i⟩:=μ;cases b with
 |true=>
  obtain⟨N,y,i⟩:=i;rw[if_pos rfl];refine Fm x (ZY (Q k K j C _ B i) λf S g=>?_);cases f with
  |next=>
   obtain⟨d,e,r,o⟩:=g;obtain⟨p,q,l⟩:=y d e o;exact⟨p,q,d,e,r,l⟩
  |cont=>
   obtain⟨d,e,r,o⟩:=g;obtain⟨p,q,l⟩:=y d e o;exact⟨p,q,d,e,r,l⟩
  |brk=>exact g
  |ret v=>exact g
 |false=>
  rw[if_neg Ar];exact wpAny_execs_nil ⟨j,C,B,i⟩
structure It where
 go:Nat->Hp->Prop
 WS:Nat->Hp->V->Hp->Prop
 stop:Nat->Hp->Prop
def nX(X:Cx)(a:List (Addr×Obj))(H:Hp)(b:Addr):Prop:=
 H b=none/\b≠X.env.locals/\b∉X.fs/\(b∈X.ex\/X.s₀.heap.objs.size<=b)/\(∀x c,X.env.cells.lookup x=some c->c≠b)/\∀p∈X.pn++a,p.1≠b
def Inv.YE(I:Inv X y6 U H s)(a:s.heap.objs.size<=b)(g:d b=none):nX X y6 d b:=by
 refine⟨g,Fa (Bd I.lt a),I.RL a,.inr (Bh I.sz a),λx c e z=>?_,λp f z=>?_⟩
 .obtain⟨v,q⟩:=I.cell x c e;exact absurd (Bd q.lt (by rwa[z])) (De _)
 .exact absurd (Bd (Ax (I.pin p f).1) (by simp_all)) (De _)
structure Turn (P:Program) (w:World) (K:W.Frag) (tg:Expr) (J:It) (fp:List Addr) (it:Addr) (tn:Nat->Heap->Prop):Prop where
 mem:it∈fp
 obj:∀i h,tn i h->∀b∈fp,∃o,h.get? b=some o/\∀v,o.data≠.cell v
 keep:∀i h h',tn i h->(∀b∈fp,∀o,h.get? b=some o->h'.get? b=some o)->tn i h'
 item:∀(X:Cx),X.prog=P->X.w=w->X.K=K->X.calm=true->∀(i:Nat) (y6:Q2) (s:Shared) (U:St) (H:Hp) (E:Q0),Inv X y6 U H s->(∀b∈fp,nX X y6 H b)->tn i s.heap->J.go i H->
  wpAny (model P w) X.A (pyNext (.ref it)) (λr s1=>∃u,r=some u/\
   wpAny (model P w) X.A (letOwnedTupleGo tg (.ref it) u) (λ_ s2=>∃x H',Inv X y6 U H' s2/\RelV x u/\J.WS i H x H'/\tn (i+1) s2.heap/\∀b∈fp,H' b=none) E s1) E s
 done:∀(X:Cx),X.prog=P->X.w=w->X.K=K->X.calm=true->∀(i:Nat) (y6:Q2) (s:Shared) (U:St) (H:Hp) (E:Q0),Inv X y6 U H s->(∀b∈fp,nX X y6 H b)->tn i s.heap->J.stop i H->
  wpAny (model P w) X.A (pyNext (.ref it)) (λr s1=>r=none/\Inv X y6 U H s1) E s
 self:∀(A:Around) (i:Nat) (s:Shared) (Q:Q0) (E:Q0),tn i s.heap->Q (.ref it) s->wpAny (model P w) A (pyIter (.ref it)) Q E s
abbrev TI:=St->Hp->(It->Hp->Prop)->Prop
def Vg(X:Cx)(d:List (Addr×Obj))(U:St)(i:Expr)(R:It->Hp->Prop)(a:Value)(f:Shared):Prop:=
 ∃g h e J c,a=.ref g/\Inv X d U c f/\Turn X.prog X.w X.K i J h g e/\e 0 f.heap/\(∀b∈h,nX X d c b)/\R J c
def PI(X:Cx)(c a:Expr)(wi:TI):Prop:=
 ∀(b:Q2) s (U:St) H R,Inv X b U H s->wi U H R->
  wpAny (model X.prog X.w) X.A (eval a X.env) (λv d=>wpAny (model X.prog X.w) X.A (pyIter v) (Vg X b U c R) X.xe d) X.xe s
def wD{s:Shared}{b:Addr}{o:Obj}{n:String}{vs:Array Value}{Q:Unit->Shared->Prop}(c:s.heap.get? b=some o)(f:o.cls=.type n)(e:o.data=.fields vs)(d:["enumerate", "zip", "dict_itemiterator", "dict_reverseitemiterator", "odict_iterator", "itertools.zip_longest", "itertools.pairwise"].contains n=false)(a:Q () s):wpAny M A (letOwnedTupleGo tg (.ref b) u) Q E s:=by
 unfold letOwnedTupleGo;cases tg<;>first
  |exact Au a
  | (cases u <;> first
      |exact Au a
      | (refine Ae (wpAny_load c ?_)
         rw[f,e];show wpAny M A (if (["enumerate", "zip", "dict_itemiterator", "dict_reverseitemiterator", "odict_iterator", "itertools.zip_longest", "itertools.pairwise"].contains n&&vs[0]? == some (rawInt _))=true then _ else _) Q E s
         rw[if_neg (by grind)]
         exact Au a))
noncomputable def Xl(K:W.Frag)(a:Addr):It:=
 ⟨λi H=>∃b x,ZA K H a b/\b[i]?=some x,λi H x c=>c=H/\∀b,ZA K H a b->b[i]?=some x,λi H=>∃b,ZA K H a b/\b.length<=i⟩
noncomputable def Xq(a:Int)(n:Nat):It:=⟨λi _=>i<n,λi H x b=>b=H/\x=.int (a+i),λi _=>n<=i⟩
def LO(a g:Addr):Turn P w K tg (Xl K a) [g] g (λi h=>h.IsListIter g a i) where
 mem:=by simp
 obj:=λi h f b j=>by
  have e:b=g:=by simpa using j
  subst e;obtain⟨o,e,c,d⟩:=f;exact⟨o,e,λv z=>by rw[d]at z;cases z⟩
 keep:=λi h q f k=>f.at λo e=>k g (by simp) o e
 item:=by
  intro X D B F Q i O s U H E I n f C;subst D B F;obtain⟨R,x,m,A⟩:=C;obtain⟨y,r,p,V⟩:=I.list m;obtain⟨u,Y,T⟩:=r.get A;obtain⟨N,M,Z,L,J,G⟩:=n g (by simp)
  refine wpAny_pyNext_list_item f p.isList (x:=u) (by simpa using Y) λq l S=>?_
  have I1:=I.turned (t':=s.toks) (λb o j e=>(S.2 b j).trans e) N M L J G
  obtain⟨o,e,c,d⟩:=id l;exact⟨u,rfl,wD (s:={s with heap:=q}) e c d (by decide) ⟨x,H,I1,T,⟨rfl,λys W=>by rw[I.Y2 W m];exact A⟩,l,λb j=>(n b j).1⟩⟩
 done:=by
  intro X D B F Q i O s U H E I n f C;subst D B F;obtain⟨R,m,A⟩:=C;obtain⟨y,r,p,V⟩:=I.list m;obtain⟨N,M,Z,L,J,G⟩:=n g (by simp)
  have hl:=r.length
  exact wpAny_pyNext_list_end (I.ok.hd Q) f p.isList (by simp;((try clear L M V);omega)) λq eb=>⟨rfl,I.turned (t':=s.toks) (λb o j e=>eb b o j e) N M L J G⟩
 self:=λ_ _ _ _ _ f h=>wpAny_pyIter_listiter f h
def FQ{K:PySem.W.Frag}(c:Addr)(g:Int)(n:Nat):Turn P w K tg (Xq g n) [c] c (λi h=>IsRangeIter h c (g+(i:Nat)*1) ((n:Int)-(i:Nat)) 1) where
 mem:=by simp
 obj:=λi h a b d=>by
  have e:b=c:=by simpa using d
  subst e;exact⟨_,a,λv z=>by
   have G:=z
   cases G⟩
 keep:=λi h l a k=>k c (by simp) _ a
 item:=by
  intro X r m u q i D s U H E I j a p;subst r m u;obtain⟨C,B,M,A,y,x⟩:=j c (by simp)
  have W:=Walks.range (prog:=X.prog) (w:=X.w) (I.ok.hd q) c g 1 n
  refine W.item i s _ _ p a λv l F L f J=>?_;obtain⟨t,rfl⟩:=L;have O:Inv X D U H {s with heap:=l,toks:=F}:=I.turned (λb o d e=>J b o (by simpa using d) e) C B A y x
  refine⟨_,rfl,wD (s:={s with heap:=l,toks:=F}) (n := "range_iterator") f rfl rfl (by decide) ⟨.int (g+i),H,O,⟨t,?_⟩,⟨rfl,rfl⟩,f,λb d=>(j b d).1⟩⟩
  rw[Int.mul_one]
 done:=by
  intro X r m u q i D s U H E I j a p;subst r m u;obtain⟨C,B,M,A,y,x⟩:=j c (by simp)
  exact wpAny_pyNext_range_end (I.ok.hd q) a (by have:n<=i:=p;((try clear A B);omega)) λl N=>⟨rfl,I.turned (t':=s.toks) (λb o d e=>N b o d e) C B A y x⟩
 self:=λ_ _ _ _ _ a h=>wpAny_pyIter_rangeiter a h
def N6{a c:Int}{t u v:Tok}{d:Nat}(I:Inv X y6 U H s)(k:-(2^62)<=a)(j:a<2^62)(i:-(2^62)<=c)(h:c<2^62)(q:R (Xq a (c-a).toNat) H):wpAny (model X.prog X.w) X.A (pyIter (.ref s.heap.objs.size)) (Vg X y6 U tg R) E {s with heap:=s.heap.push {cls:=.type "range",data:=.fields #[.int a t,.int c u,.int 1 v]},toks:=d}:=by
 refine wpAny_pyIter_range (IsRange.new ..) (small_one k j i h) ?_;have f:Inv X y6 U H {s with heap:=s.heap.push {cls:=.type "range",data:=.fields #[.int a t,.int c u,.int 1 v]},toks:=d}:=I.kept λb o e=>Aj _ e
 refine⟨(s.heap.push {cls:=.type "range",data:=.fields #[.int a t,.int c u,.int 1 v]}).objs.size,[(s.heap.push {cls:=.type "range",data:=.fields #[.int a t,.int c u,.int 1 v]}).objs.size],_,_,H,rfl,
  f.kept (t':=d) λb o e=>Aj _ e,FQ _ a (c-a).toNat,?_,λb g=>?_,q⟩
 .have m:a+((0:Nat):Int)*1=a:=by simp
  have l:(((c-a).toNat:Nat):Int)-((0:Nat):Int)=Builtin.Range.rangeSize a c 1:=by rw[rangeSize_one];split<;>((try clear h i j k m);omega)
  show IsRangeIter _ _ (a+((0:Nat):Int)*1) ((((c-a).toNat:Nat):Int)-((0:Nat):Int)) 1
  rw[m,l];exact Ay _ rfl
 .have e:b=(s.heap.push {cls:=.type "range",data:=.fields #[.int a t,.int c u,.int 1 v]}).objs.size:=by simpa using g
  subst e;exact f.YE (Ai _) (f.Z3.fresh (Ai _))
def MZ(wi:TI)(g:TG)(d:TS):TS:=λD U H=>wi U H λJ h=>∃W:Nat->Nat->St->Hp->Prop,(∃m,W 0 m U h)/\∀i m U H,W i m U H->
 (J.stop i H/\D.nx U H)\/(J.go i H/\∃N,(∀c a,N c a->∃b,b < m/\W (i+1) b c a)/\∀x a,J.WS i H x a->g x U a λe f=>d {D with nx:=N,ct:=N,bk:=D.nx} e f)
noncomputable def rA(a:List Addr)(h:Heap):List (Addr×Obj):=a.filterMap λb=>(h.get? b).map λo=>(b,o)
def kM{o:Obj}(a:b∈fp)(e:h.get? b=some o):(b,o)∈rA fp h:=Cq.mpr ⟨b,a,by rw[e];rfl⟩
def AN(a:p∈rA fp h):p.1∈fp/\h.get? p.1=some p.2:=by
 obtain⟨b,c,e⟩:=Cq.mp a;cases q:h.get? b with
 |none=>rw[q]at e;cases e
 |some o=>
  rw[q]at e;have d:=Bj e
  subst d;exact⟨c,q⟩
def Inv.pinned(I:Inv X y6 U H s)(h:∀b∈fp,nX X y6 H b)(g:∀b∈fp,∃o,s.heap.get? b=some o/\∀v,o.data≠.cell v):Inv X (y6++rA fp s.heap) U H s:=
 I.XF λp f=>(Bk.mp f).elim (λz=>I.pin p (Bo _ z)) λz=>by
  obtain⟨a,e⟩:=AN z;obtain⟨k,j,i,_⟩:=h p.1 a;obtain⟨o,c,d⟩:=g p.1 a;simp_all
def Inv.Y5{pl:Q2}(I:Inv X (y6++pl) U H s):Inv X y6 U H s:=I.XF λp a=>I.pin p (Bo _ (Dg _ a))
def Kv{tb:TS}(L:PassesOwn (model X.prog X.w) X.A X.env X.xe)(hc:X.calm=true)(hi:PI X tg c wi)(hg:PG X tg g)(j:Yw X body tb)(hs:∀x,foldedSetIterable c X.env x=pure x:=by intro _;rfl):PS X (.For tg c body [] pos) (MZ wi g tb):=by
 intro z s U H D I h;refine wpAny_For (ZY (hi z s U H _ I h) λv s1 h1=>ZY h1 λa2 s2 h2=>?_) hs;obtain⟨it,O,tn,J,H2,e,I2,T,S,f2,W,⟨m0,w0⟩,C⟩:=h2;subst e
 -- what stays true of the iterator's objects through the loop
 have a:∀ {t:Hp},(∀b∈O,t b=none)->∀b∈O,nX X z t b:=λhn b j=>⟨hn b j,(f2 b j).2⟩
 refine codeAny_forLoop_any (λn s'=>∃i Q t,Inv X z Q t s'/\tn i s'.heap/\(∀b∈O,t b=none)/\W i n Q t) ?_ m0 ⟨0,U,H2,I2,S,λb j=>(f2 b j).1,w0⟩;rintro n s3 ⟨i,P,R,I3,G,M,w3⟩;rcases C i n P R w3 with⟨E,qn⟩|⟨go,N,hN,F⟩
 .refine Fm L (ZY (T.done X rfl rfl rfl hc i z s3 P R X.xe I3 (a M) G E) λr s4 ⟨Y,I4⟩=>?_);subst Y;exact wpAny_execs_nil ⟨P,R,I4,qn⟩
 .refine Fm L (ZY (T.item X rfl rfl rfl hc i z s3 P R X.xe I3 (a M) G go) λr s4 ⟨u,Y,h4⟩=>?_);subst Y;refine Fm L (ZY h4 λ_ s5 μ=>?_);obtain⟨x,H5,I5,r5,y5,B,Z⟩:=μ;have a1:=I5.pinned (a Z) (T.obj _ _ B)
  refine Fm L (ZY (hg _ s5 P H5 x u _ a1 r5 (F x H5 y5)) λ_ s6 μ=>?_);obtain⟨U6,H6,I6,q6⟩:=μ;refine Fm L (ZY (j _ s6 U6 H6 _ I6 q6) λf V y=>?_);have k:∀ {l:St} {q:Hp},Inv X (z++rA O s5.heap) l q V->N l q->∃m,m<n/\∃i Q t,Inv X z Q t V/\tn i V.heap/\(∀b∈O,t b=none)/\W i m Q t:=fun {l q} p K=>by
   obtain⟨m',hm,w7⟩:=hN l q K;refine⟨m',hm,i+1,l,q,p.Y5,T.keep _ _ _ B λb j o e=>(p.pin (b,o) (Bo _ (Bo _ (kM j e)))).1,λb j=>?_,w7⟩;obtain⟨o,e,d⟩:=T.obj _ _ B b j;exact(p.pin (b,o) (Bo _ (Bo _ (kM j e)))).2.1
  cases f with
  |next=>obtain⟨l,q,p,K⟩:=y;exact k p K
  |cont=>obtain⟨l,q,p,K⟩:=y;exact k p K
  |brk=>obtain⟨l,q,p,y⟩:=y;exact⟨l,q,p.Y5,y⟩
  |ret v=>obtain⟨x7,l,q,p,r7,y⟩:=y;exact⟨x7,l,q,p.Y5,r7,y⟩
def KJ{K:PySem.W.Frag}{k:TS}{D:Ends}(b:Nat->St->Hp->Prop)(t:b 0 U H)(o:∀i U H,i<=xs.length->b i U H->ZA K H a xs)(hs:∀i x U H,xs[i]?=some x->b i U H->g x U H λf j=>k {D with nx:=b (i+1),ct:=b (i+1),bk:=D.nx} f j)(s:∀U H,b xs.length U H->D.nx U H):∃W:Nat->Nat->St->Hp->Prop,(∃m,W 0 m U H)/\∀i m U H,W i m U H->
 ((Xl K a).stop i H/\D.nx U H)\/((Xl K a).go i H/\∃N,(∀h c,N h c->∃l,l < m/\W (i+1) l h c)/\∀x c,(Xl K a).WS i H x c->g x U c λf j=>k {D with nx:=N,ct:=N,bk:=D.nx} f j):=by
 refine⟨λi m U H=>m=xs.length-i/\i<=xs.length/\b i U H,⟨xs.length,by simp,Nat.zero_le _,t⟩,?_⟩
 rintro i m U H ⟨rfl,r,p⟩;have q:=o i U H r p
 by_cases d:i<xs.length
 .refine .inr ⟨⟨xs,xs[i],q,by simp[d]⟩,b (i+1),λh c n=>⟨xs.length-(i+1),by ((try clear r);omega),rfl,d,n⟩,λx c y=>?_⟩
  obtain⟨e,y⟩:=y;subst e;exact hs i x U _ (y xs q) p
 .have e:i=xs.length:=by omega
  subst e;exact .inl ⟨⟨xs,q,Ai _⟩,s U H p⟩
def HK{n:Nat}{k:TS}{D:Ends}(b:Nat->St->Hp->Prop)(r:b 0 U H)(hs:∀i U H,i<n->b i U H->g (.int (d+i)) U H λf j=>k {D with nx:=b (i+1),ct:=b (i+1),bk:=D.nx} f j)(q:∀U H,b n U H->D.nx U H):∃W:Nat->Nat->St->Hp->Prop,(∃m,W 0 m U H)/\∀i m U H,W i m U H->
 ((Xq d n).stop i H/\D.nx U H)\/((Xq d n).go i H/\∃N,(∀h c,N h c->∃l,l < m/\W (i+1) l h c)/\∀x c,(Xq d n).WS i H x c->g x U c λf j=>k {D with nx:=N,ct:=N,bk:=D.nx} f j):=by
 refine⟨λi m U H=>m=n-i/\i<=n/\b i U H,⟨n,by simp,Nat.zero_le _,r⟩,?_⟩
 rintro i m U H ⟨rfl,s,p⟩;by_cases a:i<n
 .refine .inr ⟨a,b (i+1),λh c o=>⟨n-(i+1),by ((try clear s);omega),rfl,a,o⟩,λx c y=>?_⟩
  obtain⟨e,y⟩:=y;subst e y;exact hs i U _ a p
 .have e:i=n:=by omega
  subst e;exact .inl ⟨Ai _,q U H p⟩
abbrev R2:=V->V->Hp->VK->Prop
def ZK(X:Cx)(f:Value->Value->Sem Value)(r:R2):Prop:=
 ∀(a:Q2) s (U:St) H x y v u Q,Inv X a U H s->RelV x v->RelV y u->r x y H Q->
  wpAny (model X.prog X.w) X.A (f v u) (EP X a U Q) X.xe s
def UK(X:Cx)(f:Value->Sem Value)(r:V->Hp->VK->Prop):Prop:=
 ∀(a:Q2) s (U:St) H x v Q,Inv X a U H s->RelV x v->r x H Q->
  wpAny (model X.prog X.w) X.A (f v) (EP X a U Q) X.xe s
def ZU(X:Cx)(f:Value)(r:List V->Hp->VK->Prop):Prop:=
 ∀(a:Q2) s (U:St) H b c Q,Inv X a U H s->Vals b c->r b H Q->
  wpAny (model X.prog X.w) X.A (call f c) (EP X a U Q) X.xe s
def FP(X:Cx)(r:V->Hp->(Bool->Hp->Prop)->Prop):Prop:=
 ∀(a:Q2) s (U:St) H x v Q,Inv X a U H s->RelV x v->r x H Q->
  wpAny (model X.prog X.w) X.A (truthy v) (TP X a U Q) X.xe s
def VQ(r:R2)(b a:TE):TE:=λU H Q=>b U H λx d=>a U d λy c=>r x y c Q
def QR(r:V->Hp->VK->Prop)(a:TE):TE:=λU H Q=>a U H λx b=>r x b Q
def rI(C:Int->Int->Prop)(g:Int->Int->V):R2:=λx y H Q=>∃i j,x=.int i/\y=.int j/\C i j/\Q (g i j) H
def WE(g:Int->Int->V):R2:=λx y H Q=>∃i j,x=.int i/\y=.int j/\Q (g i j) H
def rU(g:Int->V):V->Hp->VK->Prop:=λx H Q=>∃i,x=.int i/\Q (g i) H
section
variable {a b:Expr}
def SI(q:PE X a ta)(p:PE X b tb){R:V->V->Hp->Prop}(I:Inv X y6 U H s)(h:ta U H λx i=>tb U i λy c=>R x y c)(o:∀v u g x y c,Inv X y6 U c g->RelV x v->RelV y u->R x y c->wpAny (model X.prog X.w) X.A (f v u) Q X.xe g):wpAny (model X.prog X.w) X.A (eval a X.env) (λv e=>wpAny (model X.prog X.w) X.A (eval b X.env) (λu d=>wpAny (model X.prog X.w) X.A (f v u) Q X.xe d) X.xe e) X.xe s:=by
 refine ZY (q y6 s U H _ I h) λv j μ=>?_;obtain⟨x,i,t,l,n⟩:=μ;refine ZY (p y6 j U i _ t n) λu g μ=>?_;obtain⟨y,c,r,k,m⟩:=μ;exact o v u g x y c r l k m
def aR(g:ZK X (binaryOp op) r)(j:PE X a ta)(i:PE X b tb):PE X (.BinOp a op b pos) (VQ r ta tb):=by
 intro c s U H Q I h;exact wpAny_BinOp (SI j i I h λv u d x y l k f e q=>g c d U l x y v u Q k f e q)
def UC(f:UK X (unaryOp op) r)(g:PE X a ta):PE X (.UnaryOp op a pos) (QR r ta):=by
 intro b s U H Q I h;exact UnaryOp_ (ZY (g b s U H _ I h) λv c ⟨x,j,i,d,e⟩=>f b c U j x v Q i d e)
def Sq{C:Int->Int->Prop}{g:Int->Int->Int}(a:∀i j t u s (Q:Q0) (E:Q0),C i j->Q (.int (g i j) s.toks) {s with toks:=s.toks+1}->wpAny (model X.prog X.w) X.A (f (.int i t) (.int j u)) Q E s):ZK X f (rI C λi j=>.int (g i j)):=by
 intro k s U H x y v u Q I d c h;obtain⟨i,j,rfl,rfl,e,q⟩:=h;obtain⟨t,rfl⟩:=d;obtain⟨b,rfl⟩:=c;exact a i j t b s _ _ e ⟨.int _,H,I.tok _,⟨_,rfl⟩,q⟩
def O5{g:Int->Int->Int}(a:∀i j t u s (Q:Q0) (E:Q0),Q (.int (g i j) s.toks) {s with toks:=s.toks+1}->wpAny (model X.prog X.w) X.A (f (.int i t) (.int j u)) Q E s):ZK X f (WE λi j=>.int (g i j)):=by
 intro e s U H x y v u Q I d c h;obtain⟨i,j,rfl,rfl,q⟩:=h;obtain⟨t,rfl⟩:=d;obtain⟨b,rfl⟩:=c;exact a i j t b s _ _ ⟨.int _,H,I.tok _,⟨_,rfl⟩,q⟩
def Uc{g:Int->Int->Bool}(a:∀i j t u s (Q:Q0) (E:Q0),Q (.bool (g i j)) s->wpAny (model X.prog X.w) X.A (f (.int i t) (.int j u)) Q E s):ZK X f (WE λi j=>.bl (g i j)):=by
 intro e s U H x y v u Q I d c h;obtain⟨i,j,rfl,rfl,q⟩:=h;obtain⟨t,rfl⟩:=d;obtain⟨b,rfl⟩:=c;exact a i j t b s _ _ ⟨.bl _,H,I,rfl,q⟩
def Pw(i j:Int):Prop:=0<j/\j<1073741824
def WR(i j:Int):Prop:=(-(2^64)<i/\i<2^64)\/(-(2^64)<j/\j<2^64)
def WR.ok{i j:Int}(h:WR i j):IntMulOk i j:=by
 rcases h with⟨b,a⟩|⟨b,a⟩
 .exact .of_left (intBits_le_64 b a)
 .exact .of_right (intBits_le_64 b a)
def EG:ZK X (binaryOp .Add) (WE λi j=>.int (i+j)):=O5 λ_ _ _ _ _ _ _ q=>add_int q
def V3:ZK X (binaryOp .Sub) (WE λi j=>.int (i-j)):=O5 λ_ _ _ _ _ _ _ q=>sub_int q
def V5:ZK X (binaryOp .Mult) (rI WR λi j=>.int (i*j)):=Sq λ_ _ _ _ _ _ _ a q=>mul_int q a.ok
def WQ:ZK X (binaryOp .FloorDiv) (rI Pw λi j=>.int (i / j)):=Sq λi j _ _ _ _ _ a q=>by
 have c:=a.1
 have b:=a.2
 exact floordiv_int (by omega) (by rwa[Int.fdiv_eq_ediv_of_nonneg i (by (exact Int.le_of_lt (by assumption)))]) (.inl (PyProof.noPylong_small (by omega)))
def Wf:ZK X (binaryOp .Mod) (rI (λ_ j=>0<j) λi j=>.int (i%j)):=Sq λi j _ _ _ _ _ a q=>by
 exact mod_int' (by omega) (by rwa[Int.fmod_eq_emod_of_nonneg i (by (exact Int.le_of_lt (by assumption)))])
def C7{f:Value->Sem Value}{g:Int->Int}(a:∀i t s (Q:Q0) (E:Q0),Q (.int (g i) s.toks) {s with toks:=s.toks+1}->wpAny (model X.prog X.w) X.A (f (.int i t)) Q E s):UK X f (rU λi=>.int (g i)):=by
 intro c s U H x v Q I b h;obtain⟨i,rfl,q⟩:=h;obtain⟨t,rfl⟩:=b;exact a i t s _ _ ⟨.int _,H,I.tok _,⟨_,rfl⟩,q⟩
def Kq:UK X (unaryOp .USub) (rU λi=>.int (-i)):=C7 λ_ _ _ _ _ q=>neg_int q
end
noncomputable def T3:V->V->Bool
 |.non,.non=>true|.non,.int _=>true|.int _,.non=>true|.non,.bl _=>true|.bl _,.non=>true|.non,.str _=>true|.str _,.non=>true
 |.int _,.int _=>true|.bl _,.bl _=>true|.str _,.str _=>true|.byt _,.byt _=>true
 |.int _,.str _=>true|.str _,.int _=>true|.bl _,.str _=>true|.str _,.bl _=>true
 |_,_=>false
def Jw:R2:=λx y H Q=>T3 x y=true/\Q (.bl (decide (x=y))) H
def G7:R2:=λx y H Q=>T3 x y=true/\Q (.bl (!decide (x=y))) H
def PY{i j:Int}:decide (V.int i=V.int j)=(i==j):=by
 rw[Hk];simp
def O8{i j:Bool}:decide (V.bl i=V.bl j)=(i==j):=by
 rw[Hk];simp
def Oi{i j:Str}:decide (V.str i=V.str j)=(i==j):=by
 rw[Hk];simp
def NT{i j:Array UInt8}:decide (V.byt i=V.byt j)=(i.toList==j.toList):=by
 rw[Hk];simp_all
section
variable {a b:Expr}
def bV{Q:VK}{k a:Bool}(I:Inv X y6 U H s)(q:Q (.bl k) H)(e:k=a):EP X y6 U Q (.bool a) s:=by
 subst e;exact⟨.bl k,H,I,rfl,q⟩
def Ly:ZK X (compareOp .Eq) Jw:=by
 intro e s U H x y v u Q I d a h;obtain⟨c,q⟩:=h;cases x with
 |non=>
  cases d;cases y with
  |non=>cases a;exact PySem.EqNone.eq_none_none (bV I q (by simp))
  |bl j=>cases a;exact PySem.EqNone.eq_none_bool (bV I q (by simp))
  |int j=>obtain⟨b,rfl⟩:=a;exact PySem.EqNone.eq_none_int (bV I q (by simp))
  |str j=>obtain⟨b,rfl⟩:=a;exact PySem.EqNone.eq_none_str (bV I q (by simp))
  |_=>exact absurd (show false=true from c) Ar
 |bl i=>
  cases d;cases y with
  |non=>cases a;exact PySem.EqNone.eq_bool_none (bV I q (by simp))
  |bl j=>cases a;exact eq_bool (bV I q O8)
  |str j=>obtain⟨b,rfl⟩:=a;exact PySem.EqMixed.eq_bool_str (bV I q (by simp))
  |_=>exact absurd (show false=true from c) Ar
 |int i=>
  obtain⟨t,rfl⟩:=d;cases y with
  |non=>cases a;exact PySem.EqNone.eq_int_none (bV I q (by simp))
  |int j=>obtain⟨b,rfl⟩:=a;exact eq_int (bV I q PY)
  |str j=>obtain⟨b,rfl⟩:=a;exact PySem.EqMixed.eq_int_str (bV I q (by simp))
  |_=>exact absurd (show false=true from c) Ar
 |str i=>
  obtain⟨t,rfl⟩:=d;cases y with
  |non=>cases a;exact PySem.EqNone.eq_str_none (bV I q (by simp))
  |bl j=>cases a;exact PySem.EqMixed.eq_str_bool (bV I q (by simp))
  |int j=>obtain⟨b,rfl⟩:=a;exact PySem.EqMixed.eq_str_int (bV I q (by simp))
  |str j=>obtain⟨b,rfl⟩:=a;exact eq_str (bV I q Oi)
  |_=>exact absurd (show false=true from c) Ar
 |byt i=>
  obtain⟨t,rfl⟩:=d;cases y with
  |byt j=>obtain⟨b,rfl⟩:=a;exact W.eq_bytes (bV I q NT)
  |_=>exact absurd (show false=true from c) Ar
 |_=>cases y<;>exact absurd (show false=true from c) Ar
def Kp:ZK X (compareOp .NotEq) G7:=by
 intro e s U H x y v u Q I d a h;obtain⟨c,q⟩:=h;cases x with
 |non=>
  cases d;cases y with
  |non=>cases a;exact PySem.EqNone.ne_none_none (bV I q (by simp))
  |bl j=>cases a;exact PySem.EqNone.ne_none_bool (bV I q (by simp))
  |int j=>obtain⟨b,rfl⟩:=a;exact PySem.EqNone.ne_none_int (bV I q (by simp))
  |str j=>obtain⟨b,rfl⟩:=a;exact PySem.EqNone.ne_none_str (bV I q (by simp))
  |_=>exact absurd (show false=true from c) Ar
 |bl i=>
  cases d;cases y with
  |non=>cases a;exact PySem.EqNone.ne_bool_none (bV I q (by simp))
  |bl j=>cases a;exact ne_bool (bV I q (Dp not O8))
  |str j=>obtain⟨b,rfl⟩:=a;exact PySem.EqMixed.ne_bool_str (bV I q (by simp))
  |_=>exact absurd (show false=true from c) Ar
 |int i=>
  obtain⟨t,rfl⟩:=d;cases y with
  |non=>cases a;exact PySem.EqNone.ne_int_none (bV I q (by simp))
  |int j=>obtain⟨b,rfl⟩:=a;exact ne_int (bV I q (Dp not PY))
  |str j=>obtain⟨b,rfl⟩:=a;exact PySem.EqMixed.ne_int_str (bV I q (by simp))
  |_=>exact absurd (show false=true from c) Ar
 |str i=>
  obtain⟨t,rfl⟩:=d;cases y with
  |non=>cases a;exact PySem.EqNone.ne_str_none (bV I q (by simp))
  |bl j=>cases a;exact PySem.EqMixed.ne_str_bool (bV I q (by simp))
  |int j=>obtain⟨b,rfl⟩:=a;exact PySem.EqMixed.ne_str_int (bV I q (by simp))
  |str j=>obtain⟨b,rfl⟩:=a;exact ne_str (bV I q (Dp not Oi))
  |_=>exact absurd (show false=true from c) Ar
 |byt i=>
  obtain⟨t,rfl⟩:=d;cases y with
  |byt j=>obtain⟨b,rfl⟩:=a;exact W.ne_bytes (bV I q (Dp not NT))
  |_=>exact absurd (show false=true from c) Ar
 |_=>cases y<;>exact absurd (show false=true from c) Ar
def U9:ZK X (compareOp .Lt) (WE λi j=>.bl (decide (i<j))):=Uc λ_ _ _ _ _ _ _ q=>lt_int q
def Vr:ZK X (compareOp .LtE) (WE λi j=>.bl (decide (i<=j))):=Uc λ_ _ _ _ _ _ _ q=>le_int q
def Vo:ZK X (compareOp .Gt) (WE λi j=>.bl (decide (j<i))):=Uc λ_ _ _ _ _ _ _ q=>gt_int q
def U3:ZK X (compareOp .GtE) (WE λi j=>.bl (decide (j<=i))):=Uc λ_ _ _ _ _ _ _ q=>ge_int q
def Xu:ZK X (compareOp .In) (λx y H Q=>∃i j,x=.str i/\y=.str j/\Q (.bl (!(Builtin.Str.occurrences j i 0 j.length 1).isEmpty)) H):=by
 intro c s U H x y v u Q I b a h;obtain⟨i,j,rfl,rfl,q⟩:=h;obtain⟨t,rfl⟩:=b;obtain⟨d,rfl⟩:=a;exact in_str (bV I q rfl)
def V_:ZK X (compareOp .Is) (λx y H Q=>y=.non/\Q (.bl (decide (x=.non))) H):=by
 intro c s U H x y v u Q I a b h;obtain⟨rfl,q⟩:=h;cases b;refine is_none_gen (bV I q ?_);cases x<;>first
  |(obtain⟨t,rfl⟩:=a;rfl)
def WH:ZK X (compareOp .IsNot) (λx y H Q=>y=.non/\Q (.bl (!decide (x=.non))) H):=by
 intro c s U H x y v u Q I a b h;obtain⟨rfl,q⟩:=h;cases b;refine isnot_none_gen (bV I q ?_);cases x<;>first
  |(obtain⟨t,rfl⟩:=a;rfl)
def bB(b:Expr){op:CmpOp}(h:op≠.In:=by decide)(a:op≠.NotIn:=by decide):behindInMarks op b=false:=by
 have d:(op==CmpOp.In)=false:=by grind
 have c:(op==CmpOp.NotIn)=false:=by grind
 cases b<;>simp[behindInMarks,d,c]
def gC(g:ZK X (compareOp op) r)(k:PE X a ta)(j:PE X b tb)(i:behindInMarks op b=false):PE X (.Compare a [op] [b] pos) (VQ r ta tb):=by
 intro c s U H Q I h;exact wpAny_Compare1 (SI k j I h λv u d x y m l f e q=>g c d U m x y v u Q l f e q) i
def N9(K:W.Frag)(x:V)(H:Hp)(k:Bool):Prop:=
 match x with
 |.non=>k=false
 |.bl b=>k=b
 |.int i=>k=(i != 0)
 |.str y=>y.length<=sizeLine/\k=((y.length:Int) != 0)
 |.byt y=>y.size<=sizeLine/\k=((y.size:Int) != 0)
 |.ref p=>(∃a,ZA K H p a/\k=!a.isEmpty)\/(∃a,Yb K H p a/\k=!a.isEmpty)\/∃c,H p=some (.dK c)/\k=!c.isEmpty
 |_=>False
def BV{b:Type}{a:List _}{vs:List (b×Value)}(r:KV a vs):(!vs.isEmpty)=!a.isEmpty:=by
 cases r<;>rfl
def vZ(r:Vals xs its):(!its.toArray.isEmpty)=!xs.isEmpty:=by
 cases r<;>simp
def kK:(sizeLine:Nat)<2^63:=by rw[Im];decide
def J6:FP X (λx H Q=>∃k,N9 X.K x H k/\Q k H):=by
 intro B s U H x v Q I g h;obtain⟨k,e,q⟩:=h;have D:=kK
 have C:=Im
 cases x with
 |non=>
  cases g;have a:=e
  subst a;exact truthy_none ⟨H,I,q⟩
 |bl b=>
  cases g;have a:=e
  subst a;exact Fp ⟨H,I,q⟩
 |int i=>
  obtain⟨t,rfl⟩:=g;have a:=e
  subst a;exact PySem.P.truthy_int ⟨H,I,q⟩
 |str y=>
  obtain⟨t,rfl⟩:=g;obtain⟨z,a⟩:y.length<=sizeLine/\k=((y.length:Int) != 0):=e;subst a;exact PySem.P.truthy_str (by ((try clear D);omega)) ⟨H,I.tok _,q⟩
 |byt y=>
  obtain⟨t,rfl⟩:=g;obtain⟨z,a⟩:y.size<=sizeLine/\k=((y.size:Int) != 0):=e;subst a;exact W.truthy_bytes (by (exact Nat.le_trans (by assumption) (by decide))) ⟨H,I.tok _,q⟩
 |ref p=>
  cases g;have a:=e
  rcases a with⟨f,j,a⟩|⟨f,j,a⟩|⟨c,j,a⟩
  .subst a;obtain⟨o,r,n,u⟩:=I.list j;have d:=r.length
   exact wpAny_truthy_list n.isList (by simp only[List.size_toArray];omega) ⟨H,I.tok _,by rwa[vZ r]⟩
  .subst a;obtain⟨o,r,n,u⟩:=I.tuple j;have d:=r.length
   exact truthy_tuple n (by simp only[List.size_toArray];omega) ⟨H,I.tok _,by rwa[vZ r]⟩
  .subst a;obtain⟨u,A,l,r,m⟩:c.length<=sizeLine/\(p==sysModules)=false/\∃l,KV c l/\s.heap.DictOf (bH X.prog X.w) p l:=I.Z3 p _ j;have d:=Paired.length r
   exact wpAny_truthy_dict A m (by omega) ⟨H,I.tok _,by rwa[BV r]⟩
 |_=>exact(show False from e).elim
def My:ZK X (binaryOp .Add) (λx y H Q=>∃i j,x=.str i/\y=.str j/\i.length+j.length<=sizeLine/\Q (.str (i++j)) H):=by
 intro e s U H x y v u Q I c b h;obtain⟨i,j,rfl,rfl,d,q⟩:=h;obtain⟨t,rfl⟩:=c;obtain⟨a,rfl⟩:=b;exact add_str (λa f=>⟨.str _,H,I.tok _,⟨_,rfl⟩,q⟩) d
def dP{x:V}(r:Vals [x] us):∃u,us=[u]/\RelV x u:=by
 cases r with
 |cons b a=>cases a;exact⟨_,rfl,b⟩
def R4{x y:V}(r:Vals [x,y] us):∃u a,us=[u,a]/\RelV x u/\RelV y a:=by
 cases r with
 |cons e d=>
  cases d with
  |cons c b=>cases b;exact⟨_,_,rfl,e,c⟩
def Xw:ZU X (.type "int") (λa H Q=>(∃i,a=[.int i]/\Q (.int i) H)\/∃k,a=[.bl k]/\Q (.int (if k then 1 else 0)) H):=by
 intro c s U H a d Q I r h;rcases h with⟨i,rfl,q⟩|⟨k,rfl,q⟩
 .obtain⟨u,rfl,t,rfl⟩:=dP r;exact call_int_int ⟨.int i,H,I,⟨_,rfl⟩,q⟩
 .obtain⟨u,rfl,b⟩:=dP r;cases b;exact call_int_bool ⟨.int _,H,I.tok _,⟨_,rfl⟩,q⟩
def CY(K:W.Frag)(x:V)(H:Hp)(n:Nat):Prop:=
 match x with
 |.str y=>y.length<=sizeLine/\n=y.length
 |.byt y=>y.size<=sizeLine/\n=y.size
 |.ref p=>(∃a,ZA K H p a/\n=a.length)\/∃a,Yb K H p a/\n=a.length
 |_=>False
def W4:ZU X (.builtin "len") (λa H Q=>∃x n,a=[x]/\CY X.K x H n/\Q (.int n) H):=by
 intro m s U H a o Q I r h;obtain⟨x,n,rfl,e,q⟩:=h;obtain⟨u,rfl,d⟩:=dP r;have w:=kK
 have v:=Im
 cases x with
 |str y=>
  obtain⟨t,rfl⟩:=d;obtain⟨l,c⟩:y.length<=sizeLine/\n=y.length:=e;subst c;exact len_str (by ((try clear w);omega)) ⟨.int _,H,I.tok _,⟨_,rfl⟩,q⟩
 |byt y=>
  obtain⟨t,rfl⟩:=d;obtain⟨l,c⟩:y.size<=sizeLine/\n=y.size:=e;subst c;exact W.len_bytes (by (exact Nat.le_trans (by assumption) (by decide))) ⟨.int _,H,I.tok _,⟨_,rfl⟩,q⟩
 |ref p=>
  cases d;have c:=e
  rcases c with⟨a,j,c⟩|⟨a,j,c⟩
  .subst c;obtain⟨i,f,g,k⟩:=I.list j;have b:=f.length
   exact Calls.call_len_list g.isList (by simp only[List.size_toArray];omega) ⟨.int a.length,H,I.tok _,⟨_,by simp only[List.size_toArray];rw[b]⟩,q⟩
  .subst c;obtain⟨i,f,g,k⟩:=I.tuple j;have b:=f.length
   exact len_tuple g (by simp only[List.size_toArray];omega) ⟨.int a.length,H,I.tok _,⟨_,by simp only[List.size_toArray];rw[b]⟩,q⟩
 |_=>exact(show False from e).elim
end
structure XY (h:Heap) (x dx C:Addr) (mA:Str->Option Value):Prop where
 obj:h.get? x=some (W.instObj C dx)
 ns:h.Ns1 dx mA
 ne:dx≠x
def zX{f:Q5}(n:h.Ns1 dx f):∃d,h.get? dx=some d/\∀b,W.lookIn b d=some (f b):=by
 obtain⟨o,g,r,j,m,l,_,k⟩:=n;refine⟨o,j,λb=>?_⟩;have e:=k b
 unfold nsFind findBy at e;rw[<-Array.find?_toList]at e;unfold W.lookIn;rw[m];dsimp only;split
 .rename_i y q
  rw[q]at e;exact Dp some e
 .rename_i q
  rw[q]at e;have a:g.toList.any (·.refKey)=false:=by
   rw[List.any_eq_false];intro y i;obtain⟨z,t,c⟩:=l y (Array.mem_toList_iff.mp i);simp[DictEntry.refKey,c]
  grind
def XY.look{x:Addr}{c:Q5}(I:XY h x dx C c):∃b,W.InstAt h x (W.instObj C dx) C (some b)/\∀a,W.lookIn a b=some (c a):=
 let ⟨b,d,e⟩:=zX I.ns
 ⟨b,⟨I.obj,rfl,rfl,d⟩,e⟩
section
variable {prog:Program} {x f:Addr} {mA:Q5} {name:Str} {v:Value}
def CB{a:Bool}(X:K.In s.heap)(I:XY s.heap x dx C mA)(f:W.plainGet K C name=true)(e:W.hasDictIn K C=true)(g:W.findIn K (.ref C) name=some none)(c:mA name=some v)(b:W.handedIn v=true)(h:Q v {s with toks:=s.toks+1}):wpAny (model prog w) A (getAttr (.ref x) name a) Q E s:=by
 obtain⟨i,J,d⟩:=I.look;exact W.get_value X J (W.plainGet_of f).1 (W.findObj_own e g rfl (by rw[d,c])) b h
def JN{Q:Value×List Value->Shared->Prop}(X:K.In s.heap)(I:XY s.heap x dx C mA)(a:W.plainGet K C name=true)(g:W.findIn K (.ref C) name=some (some (.ref f)))(d:W.isFn K (.ref f)=true)(c:mA name=none)(h:Q (.ref f,[.ref x]) s):wpAny (model prog w) A (getMethod (.ref x) name pl) Q E s:=by
 obtain⟨b,J,e⟩:=I.look;exact W.method_fn X J (W.plainGet_of a).1 (W.plainGet_of a).2 g (Hm.mp d) (by show (W.lookIn name b).map _=some false;rw[e,c];rfl) h
def C3{Q:Unit->Shared->Prop}(X:K.In s.heap)(I:XY s.heap x dx C mA)(hs:W.findIn K (.ref C) "__setattr__"=some (some (.builtin "object.__setattr__")))(n:W.plainOver K C=true)(m:W.takerIn K C name=some none)(o:W.hasDictIn K C=true)(l:PySem.Within mA ns)(hsz:ns.length<=sizeLine)(h:∀e,XY e x dx C (λy=>if y=name then some v else mA y)->Heap.SameBut dx s.heap e->Q () {s with heap:=e,toks:=s.toks+2}):wpAny (model prog w) A (setAttr (.ref x) name v) Q E s:=by
 obtain⟨u,J,B⟩:=I.look;refine W.set_plain X J hs (W.osa_open (s:={s with toks:=s.toks+1}) (r:=none) X J n m λb=>?_)
 obtain⟨D,p,i⟩:=W.any_some o;have k:=I.obj
 refine Ae (Au (Ae (Ae (wpAny_loadPart k (Ae (W.Looks.here (s:={s with toks:=s.toks+1}) (W.looks_clsIn X p) ?_))))))
 rw[i];refine Au (a:=some dx) (Ae (Au (Ae ?_)));refine wpAny_nsSet1 (s:={s with toks:=s.toks+1}) I.ns λe d c=>?_
 obtain⟨z,q,t,f,g,j⟩:=d.count (PySem.Within.cons name v l);refine Ae (wpAny_lookBehind f (by rw[g];exact pastItsLine_dict (Bh j (by grind))) ?_)
 exact Au (h _ ⟨(c.2 _ (Ne.symm I.ne)).trans I.obj,d,I.ne⟩ c)
def GL{vs:List Value}(X:K.In s.heap)(b:W.makesIn K C=true)(c:W.findIn K (.ref C) "__init__"=some (some (.ref f)))(e:W.typeIn K (.ref f)=some (.type "function"))(h:codeAny (model prog w) (A.under (.builtin "type.__call__" ⟨.ref C::vs,kw⟩)) (.call (.ref f) ⟨.ref (s.heap.objs.size+1)::vs,kw⟩) (W.InitBack (s.heap.objs.size+1) R)
 {s with heap:=(s.heap.push W.emptyDict).push (W.instObj C s.heap.objs.size)}):codeAny (model prog w) A (.call (.ref C) ⟨vs,kw⟩) R s:=by
 exact W.make_core (W.makes_of X b) (W.looks_findIn X c) (λa=>W.bind_fn X a e) (.inl rfl) h
end
noncomputable def gR(f:Str)(v:V):List (Str×V)->List (Str×V)
 |[]=>[(f,v)]
 |(g,x)::r=>if g=f then (g,v)::r else (g,x)::gR f v r
def sY(f g:Str)(v:V):∀c,(gR f v c).lookup g=if g=f then some v else c.lookup g
 |[]=>by
  show List.lookup g [_]=_
  grind
 |(k,x)::r=>by
  have d:=sY f g v r
  rw[show gR f v ((k,x)::r)=(if k=f then (k,v)::r else (k,x)::gR f v r) from rfl]
  grind
def rH(f:Str)(v:V):∀b,f∈(gR f v b).map (·.1)/\∀g,g∈b.map (·.1)->g∈(gR f v b).map (·.1)
 |[]=>⟨by simp[gR],λg h=>by simp at h⟩
 |(k,x)::r=>by
  obtain⟨d,c⟩:=rH f v r;rw[show gR f v _=(if k=f then _::r else _::gR f v r) from rfl]
  grind
def sW(f:Str)(v:V):∀b,(gR f v b).length<=b.length+1
 |[]=>by simp[gR]
 |(k,x)::r=>by
  have c:=sW f v r
  rw[show gR f v _=(if k=f then _::r else _::gR f v r) from rfl]
  grind
def Zq.some_of{o:Option Value}(r:Zq (some v) o):∃u,o=some u/\RelV v u:=by
 cases o with
 |none=>exact(show False from r).elim
 |some u=>exact⟨u,rfl,r⟩
def Zq.none_of{o:Option Value}(r:Zq none o):o=none:=by
 cases o with
 |none=>rfl
 |some u=>exact(show False from r).elim
def ER(r:RelV v u):W.handedIn u=true:=by
 cases v with
 |non=>cases (show u=Value.none from r);rfl
 |bl b=>cases (show u=Value.bool b from r);rfl
 |int i=>obtain⟨t,e⟩:=(show ∃t,u=Value.int i t from r);cases e;rfl
 |str x=>obtain⟨t,e⟩:=(show ∃t,u=Value.str x t from r);cases e;rfl
 |byt b=>obtain⟨t,e⟩:=(show ∃t,u=Value.bytes b t from r);cases e;rfl
 |flt b=>obtain⟨t,e⟩:=(show ∃t,u=Value.float b t from r);cases e;rfl
 |ref a=>cases (show u=Value.ref a from r);rfl
 |ty n=>cases (show u=Value.type n from r);rfl
section
variable {fs:List (Str×V)}
def RJ(c:Zl P w H h)(e:H a=some (.ins C dx fs)):∃b,XY h a dx C b/\(∀f,Zq (fs.lookup f) (b f))/\PySem.Within b (fs.map (·.1))/\fs.length<=1000/\H dx=some (.own a):=by
 obtain⟨d,z,i,g,b,n,r,q⟩:=(show ZX P w H h a _ from c a _ e);exact⟨b,⟨g,n,i⟩,r,q,z,d⟩
end
structure Yd (K:W.Frag) (C:Addr):Prop where
 pg:W.plainGet K C Str.empty=true
 hd:W.hasDictIn K C=true
 po:W.plainOver K C=true
 sa:W.findIn K (.ref C) "__setattr__"=some (some (.builtin "object.__setattr__"))
def Yd.get(c:Yd K C)(f:Str):W.plainGet K C f=true:=c.pg
def Zj(K:W.Frag)(C:Addr)(f:Str):Prop:=W.findIn K (.ref C) f=some none
def Zj.Vx{f:Str}(n:Zj K C f):W.takerIn K C f=some none:=by
 unfold W.takerIn;rw[show W.findIn K _ f=some none from n];rfl
structure Meth (K:W.Frag) (C:Addr) (m:Str) (f:Addr):Prop where
 at_:W.findIn K (.ref C) m=some (some (.ref f))
 fn:W.isFn K (.ref f)=true
 kp:W.keepIn K (.ref f)=true
section
variable {fs:List (Str×V)} {f:Str}
def M5{b:Bool}(I:Inv X y6 U H s)(e:H a=some (.ins C dx fs))(c:Yd X.K C)(n:Zj X.K C f)(l:fs.lookup f=some v)(h:∀u d,Inv X y6 U H d->RelV v u->Q u d):wpAny (model X.prog X.w) A (getAttr (.ref a) f b) Q E s:=by
 obtain⟨i,O,r,_,_,_⟩:=RJ I.Z3 e;obtain⟨u,j,g⟩:=Zq.some_of   (by rw[<-l];exact r f)
 exact CB I.Y_ O (c.get f) c.hd n j (ER g) (h u _ (I.tok _) g)
def kB{g:Addr}{Q:Value×List Value->Shared->Prop}(I:Inv X y6 U H s)(e:H a=some (.ins C dx fs))(c:Yd X.K C)(k:Meth X.K C m g)(l:fs.lookup m=none)(h:Q (.ref g,[.ref a]) s):wpAny (model X.prog X.w) A (getMethod (.ref a) m pl) Q E s:=by
 obtain⟨b,O,r,_,_,_⟩:=RJ I.Z3 e;have d:=Zq.none_of (by rw[<-l];exact r m)
 exact JN I.Y_ O (c.get m) k.at_ k.fn d h
def Nx{Q:Unit->Shared->Prop}(I:Inv X y6 U H s)(e:H a=some (.ins C dx fs))(c:Yd X.K C)(n:Zj X.K C f)(J:fs.length<1000)(p:RelV y u)(h:∀j,Inv X y6 U (upd H a (.ins C dx (gR f y fs))) j->Q () j):wpAny (model X.prog X.w) A (setAttr (.ref a) f u) Q E s:=by
 obtain⟨k,O,r,i,_,l⟩:=RJ I.Z3 e;have t:(fs.map (·.1)).length<=sizeLine:=by rw[Ab,Im];(exact Nat.le_trans (by assumption) (by decide))
 refine C3 I.Y_ O c.sa c.po n.Vx c.hd i t λF d m=>h _ ?_;have B:∃o,F.get? dx=some o:=let ⟨o,_,_,G,_⟩:=d.ns;⟨o,G⟩
 refine I.write (x:=a) (e:=dx) (by rw[e];exact True.intro) (.inr l) (λb q D z=>(m.2 b D).trans z) B ?_
 refine⟨by rw[aH O.ne];exact l,?_,O.ne,d.obj,_,d.ns,λg=>?_,λg v=>?_⟩
 .have:=sW f y fs;((try clear t);omega)
 .show Zq ((gR f y fs).lookup g) (if g=f then some u else k g)
  rw[sY];by_cases q:g=f
  .rw[if_pos q,if_pos q];exact p
  .rw[if_neg q,if_neg q];exact r g
 .by_cases q:g=f
  .rw[q];exact(rH f y fs).1
  .refine(rH f y fs).2 g (i g λz=>v ?_);show (if g=f then some u else k g)=none
   rw[if_neg q];exact z
def Inv.made(I:Inv X y6 U H s):Inv X y6 U (upd (upd H s.heap.objs.size (.own (s.heap.objs.size+1))) (s.heap.objs.size+1) (.ins C s.heap.objs.size []))
 {s with heap:=(s.heap.push W.emptyDict).push (W.instObj C s.heap.objs.size)}:=by
 have d:(s.heap.push W.emptyDict).get? s.heap.objs.size=some W.emptyDict:=Ay s.heap rfl
 have j:((s.heap.push W.emptyDict).push (W.instObj C s.heap.objs.size)).get? (s.heap.objs.size+1)=some (W.instObj C s.heap.objs.size):=by
  have:=Ay (s.heap.push W.emptyDict) (o:=W.instObj C s.heap.objs.size) rfl
  simp_all
 have i:(s.heap.push W.emptyDict).Ns s.heap.objs.size _:=⟨W.emptyDict,#[],_,d,rfl,(λe g=>absurd g (by simp)),λ_=>rfl⟩
 have k:=I.laid  (o:=.own (s.heap.objs.size+1)) (h':=s.heap.push W.emptyDict) (t':=s.toks) (λb u q=>Aj _ q) (Ai _) ⟨_,d⟩
 refine k.laid (a:=s.heap.objs.size+1) (o:=.ins C s.heap.objs.size []) (t':=s.toks) (λb u q=>Aj _ q) (Nat.le_of_eq (Gc _ _)) ?_;have c:s.heap.objs.size≠s.heap.objs.size+1:=Bm (Nat.lt_succ_self _)
 refine⟨by rw[aH c,aE],Ct _,c,j,λ_=>none,(Heap.Ns1.of_empty i).at λo q=>Aj _ q,λ_=>True.intro,λy f=>absurd rfl f⟩
def QJ{a:Env}{f:Str}(c:attributeBase e f a (eval e a)=eval e a)(h:wpAny (model prog w) A (eval e a) (λo b=>wpAny (model prog w) A (getAttr o f true) Q E b) E s):wpAny (model prog w) A (eval (.Attribute e f pos) a) Q E s:=
 Attribute_any_ h (by rw[arm_eval_Attribute,c])
end
def Pj(K:W.Frag)(d:TE)(f:Str):TE:=λU H Q=>d U H λx c=>∃a C e b v,x=.ref a/\c a=some (.ins C e b)/\Yd K C/\Zj K C f/\b.lookup f=some v/\Q v c
def NF(K:W.Frag)(g e:TE)(f:Str):TS:=λD U H=>e U H λy h=>g U h λx d=>∃a C c b,x=.ref a/\d a=some (.ins C c b)/\Yd K C/\Zj K C f/\b.length<1000/\
 D.nx U (upd d a (.ins C c (gR f y b)))
section
variable {o value:Expr} {f:Str} {pos':Pos} {tv:TE}
def gP(he:PE X e ta)(hb:attributeBase e f X.env (eval e X.env)=eval e X.env):PE X (.Attribute e f pos) (Pj X.K ta f):=by
 intro y6 s U H Q I h;refine QJ hb (ZY (he y6 s U H _ I h) λu s1 μ=>?_);obtain⟨x,H1,I1,rx,a,C,dx,fs,v,ex,ea,c,n,l,q⟩:=μ;subst ex;obtain rfl:u=Value.ref a:=rx;exact M5 I1 ea c n l λu' s2 I2 ru=>⟨v,H1,I2,ru,q⟩
def mR(ha:PE X o ta)(hv:PE X value tv)(hs:swapsWith value (some (.Attribute o f pos')) pos.line X.env=pure false):PS X (.Assign [.Attribute o f pos'] value pos) (NF X.K ta tv f):=by
 intro y6 s U H D I h;refine plainObj_wpAny_Assign_Attribute (ZY (hv y6 s U H _ I h) λu s1 ⟨y,H1,I1,ry,q⟩=>ZY (ha y6 s1 U H1 _ I1 q) λov s2 μ=>?_) hs;obtain⟨x,H2,I2,rx,a,C,dx,fs,ex,ea,c,n,l,q2⟩:=μ;subst ex;obtain rfl:ov=Value.ref a:=rx;exact Nx I2 ea c n l ry λs3 I3=>⟨U,_,I3,q2⟩
end
structure Z2 (k:Nat) (A:Around):Prop where
 hd:A.handled=none
 dp:A.depth+3*k+5<recursionLimit
 un:A.units+16*k+200<cLine
def Z2.mono(r:Z2 k A)(h:j<=k):Z2 j A:=⟨r.hd,by have:=r.dp;omega,by have:=r.un;omega⟩
def Z2.deeper(r:Z2 (k+1) A)(a:Env):Z2 k (A.deeper a):=
 ⟨r.hd,by have:=r.dp;show A.depth+1+3*k+5<_;omega,by have:=r.un;show A.units+3+16*k+200<_;omega⟩
def FK:(A.under (.builtin "type.__call__" ⟨.ref C::us,kw⟩)).depth=A.depth+1:=by
 first|rfl|simp
def DR:(A.under (.builtin "type.__call__" ⟨.ref C::us,kw⟩)).units=A.units+1:=by
 first|rfl|simp
def Z2.make(r:Z2 (k+1) A)(C:Addr)(us:List Value)(a:List _):Z2 k (A.under (.builtin "type.__call__" ⟨.ref C::us,a⟩)):=
 ⟨r.hd,by have:=r.dp;rw[FK];omega,by have:=r.un;rw[DR];omega⟩
def Z2.depth(r:Z2 k A):A.depth<recursionLimit:=by have:=r.dp;omega
def Z2.units(r:Z2 k A):A.units+64<cLine:=by have:=r.un;omega
def Z2.YQ(r:Z2 k A):A.units<cLine:=by have:=r.un;omega
def V7:TA:=λ_ H Q=>Q [] H
def VC(c:TE)(b:TA):TA:=λU H Q=>c U H λx e=>b U e λa d=>Q (x::a) d
section
variable {X:Cx} {e:Expr} {es:List Expr} {te:TE} {t:TA} {pos:Pos}
def aB:PA X [] V7:=λ_ _ _ _ H Q I h=>Calls.spliced_nil ⟨[],H,I,.nil,h⟩
def aA(l:PE X e te)(k:PA X es t)(hs:starEach (e::es) X.env=(false,eval e X.env)::starEach es X.env:=by rfl):PA X (e::es) (VC te t):=by
 intro a b s U H Q I h;rw[hs]
 refine Calls.spliced_cons (ZY (l b s U H _ I h) λu d μ=>?_);obtain⟨x,p,n,g,j⟩:=μ;exact ZY (k a b d U p _ n j) λq r ⟨c,o,m,f,i⟩=>⟨x::c,o,m,.cons g f,i⟩
def Rl(t:TA):TE:=λU H Q=>t U H λa b=>a.length<=sizeLine/\∀p,b p=none->Q (.ref p) (upd b p (.tup a))
def QL(t:TA):TE:=λU H Q=>t U H λa b=>a.length<=sizeLine/\∀p,b p=none->Q (.ref p) (upd b p (.lst a))
def dM(h:PA X es t):PE X (.Tuple es x1 pos) (Rl t):=by
 intro f s U H Q I j;refine wpAny_Tuple_spliced (ZY (h pos f s U H _ I j) λi a ⟨g,d,c,r,z,q⟩=>⟨by rwa[<-r.length],?_⟩)
 have k:=c.Z3.fresh (Ai _)
 refine⟨.ref a.heap.objs.size,upd d a.heap.objs.size _,c.laid  (λb u e=>Aj _ e) (Ai _) ?_,rfl,q _ k⟩;exact⟨z,i,r,⟨_,Ay _ rfl,rfl,_,rfl⟩⟩
def bO(h:PA X es t):PE X (.List es pos) (QL t):=by
 intro f s U H Q I j;refine wpAny_List_spliced (ZY (h pos f s U H _ I j) λi a ⟨g,d,c,r,z,q⟩=>⟨by rwa[<-r.length],?_⟩)
 have k:=c.Z3.fresh (Ai _)
 refine⟨.ref a.heap.objs.size,upd d a.heap.objs.size _,c.laid  (λb u e=>Aj _ e) (Ai _) ?_,rfl,q _ k⟩;exact⟨z,i,0,r,Ay _ rfl⟩
end
abbrev Sp:=List V->Hp->VK->XK->Prop
abbrev Yg:=List Env->Hp->Shared->XK->Value->Shared->Prop
structure XT (P:Program) (w:World) (K:W.Frag) (mg:Str->Option Value) (base:Heap) (A:Around) (outer:List Env) (s:Shared) (H:Hp):Prop where
 frames:A.frames=some outer
 mod:Mod K mg base
 bs:∀b o,base.get? b=some o->s.heap.get? b=some o/\H b=none
 XI:base.objs.size<=s.heap.objs.size
 Zk:s.heap.FunFrames base outer
 WZ:∀b∈YZ outer,H b=none
 Z3:Zl P w H s.heap
 bare:AllBare s.gens
def CE(a:List Env)(P:Program)(w:World)(H:Hp)(s:Shared)(Q:VK)(u:Value)(s':Shared):Prop:=
 ∃v b,s'.os=s.os/\AllBare s'.gens/\Un (YZ a) [] H b s.heap s'.heap/\Zl P w b s'.heap/\RelV v u/\Q v b
def CR(CX:Yg)(a:List Env)(P:Program)(w:World)(H:Hp)(s:Shared)(Q:VK)(E:XK)(r:Result)(s':Shared):Prop:=
 match r with
 |.ok (.ret u)=>CE a P w H s Q u s'
 |.ok _=>False
 |.error e=>CX a H s E e s'
structure Z8 (P:Program) (w:World) (K:W.Frag) (mg:Str->Option Value) (base:Heap) (CX:Yg) (k:Nat) (f:Addr) (fd:FuncData) (ps:List Str) (sp:Sp):Prop where
 len:∀vs H Q E,sp vs H Q E->vs.length=ps.length
 run:∀(A:Around) (outer:List Env) (s:Shared) (H:Hp) (args:Args) (us:List Value) (vs:List V) (Q:VK) (E:XK),Z2 k A->XT P w K mg base A outer s H->BindsTo s fd args (ps.zip us)->Vals vs us->sp vs H Q E->
  codeAny (model P w) A (.call (.ref f) args) (CR CX outer P w H s Q E) s
def XT.make{c:Q5}{b:Heap}{a:List Env}(e:XT P w K c b A a s H)(C:Addr)(us:List Value)(d:List _):XT P w K c b (A.under (.builtin "type.__call__" ⟨.ref C::us,d⟩)) a s H:=⟨by first|exact e.frames|(simpa [Around.under,Code.envs,Code.isFrame,pushEnvs]using e.frames),e.mod,e.bs,e.XI,e.Zk,e.WZ,e.Z3,e.bare⟩
section
variable {s':Shared}
def Inv.Xh(I:Inv X y6 U H s):XT X.prog X.w X.K X.mg X.base X.A X.stack s H:=
 ⟨I.ok.frames,I.ok.mod,I.bs,Bh I.ok.XI I.sz,I.stack,I.Y7,I.Z3,I.bare⟩
def Inv.after{Q:VK}(I:Inv X y6 U H s)(h:CE X.stack X.prog X.w H s Q u s'):EP X y6 U Q u s':=by
 obtain⟨v,k,i,a,f,e,r,q⟩:=h;obtain⟨j,g,d,t,c⟩:=s';obtain rfl:c=s.os:=i;exact⟨v,k,I.call      f e a (λb z=>absurd z (by simp)),r,q⟩
end
def TX(sp:Sp)(a:List V)(E:XK)(t:TA):TE:=λU H Q=>t U H λb c=>sp (b++a) c Q E
def Vl(C:Addr)(m:Str)(sp:Sp)(b:List V)(E:XK)(f:TE)(t:TA):TE:=λU H Q=>f U H λx d=>∃a g c,x=.ref a/\d a=some (.ins C g c)/\c.lookup m=none/\
 t U d λe h=>sp (x::(e++b)) h Q E
def Ss(C:Addr)(sp:Sp)(b:List V)(E:XK)(t:TA):TE:=λU H Q=>t U H λd c=>∀x a,c x=none->c a=none->a≠x->
 sp (.ref x::(d++b)) (upd (upd c a (.own x)) x (.ins C a [])) (λv e=>v=.non/\Q (.ref x) e) E
def Binds(K:W.Frag)(b:FuncData)(ps:List Str)(ds:List Value):Prop:=
 ∀s a,K.In s.heap->(a++ds).length=ps.length->BindsTo s b ⟨a,[]⟩ (ps.zip (a++ds))
def Binds.all(h:∀a,a.length=ps.length->bindArgs c ⟨a,[]⟩=pure (ps.zip a)):Binds K c ps []:=λs a _ b=>by
 rw[Bs]at b ⊢;exact .of_eq (h a b)
def iE(CX:Yg)(X:Cx)(E:XK):Prop:=∀b (U:St) H s e a,Inv X b U H s->CX X.stack H s E e a->X.xe e a
section
variable {CX:Yg} {f:Addr} {fd:FuncData} {sp:Sp} {dvs:List V} {ds:List Value} {E:XK} {m:Str} {p apos:Pos} {o:Expr}
def SF{Q:VK}{us:List Value}{vs:List V}(F:Z8 X.prog X.w X.K X.mg X.base CX k f fd ps sp)(g:Z2 k X.A)(l:Binds X.K fd ps ds)(j:Vals dvs ds)(d:iE CX X E)(I:Inv X y6 U H s)(r:Vals vs us)(h:sp (vs++dvs) H Q E):wpAny (model X.prog X.w) X.A (call (.ref f) us) (EP X y6 U Q) X.xe s:=by
 have b:=r.append j
 have i:(us++ds).length=ps.length:=by rw[<-b.length];exact F.len _ _ _ _ h
 refine Gj (Fb (F.run X.A X.stack s H ⟨us,[]⟩ _ _ Q E g I.Xh (l s us I.Y_ i) b h) λr c a=>?_);cases r with
 |error e=>exact d y6 U H s e c I a
 |ok m=>
  cases m with
  |ret u=>exact I.after a
  |next=>exact False.elim a
  |brk=>exact False.elim a
  |cont=>exact False.elim a
def QD(F:Z8 X.prog X.w X.K X.mg X.base CX k f fd ps sp)(i:Z2 k X.A)(m:Gl X x)(j:X.mg x=some (.ref f))(l:W.keepIn X.K (.ref f)=true)(u:Binds X.K fd ps ds)(o:Vals dvs ds)(g:iE CX X E)(v:PA X (e::es) t)(b:(x==("__debug__" : Str))=false:=by decide)(n:starEach (e::es) X.env=(false,eval e X.env)::starEach es X.env:=by rfl)(a:(backTo pos (starEach es X.env)).any (·.1)=false:=by rfl):PE X (.Call (.Name x p) (e::es) [] pos) (TX sp dvs E t):=by
 intro d s U H Q I h;refine Dr (hZ I m j ?_ b);refine Fg  I.ok.mod.WO l (ZY (v pos d s U H _ I h) λz B ⟨y,C,c,r,q⟩=>⟨c.Y_,?_⟩) n a;exact SF F i u o g c r q
def Nf{pl:Sem Bool}(he:PE X o ta)(c:Yd X.K C)(hm:Meth X.K C m f)(F:Z8 X.prog X.w X.K X.mg X.base CX k f fd ps sp)(hr:Z2 k X.A)(hb:Binds X.K fd ps ds)(hd:Vals dvs ds)(hx:iE CX X E)(ha:PA X (e::es) t)(hst:starEach (e::es) X.env=(false,eval e X.env)::starEach es X.env:=by rfl)(hpl:(backTo pos (starEach es X.env)).any (·.1)=false:=by rfl)(ht:eval (.Call (.Attribute o m apos) (e::es) [] pos) X.env=(do
 let ov <-eval o X.env
 standAt apos.atName
 let (f,first) <-holding [ov] (getMethod ov m pl)
 callWith pos f first (backTo pos (starEach (e::es) X.env)) (backToKw pos (keywordEach [] X.env))):=by rfl):PE X (.Call (.Attribute o m apos) (e::es) [] pos) (Vl C m sp dvs E ta t):=by
 intro y6 s U H Q I h;refine Fj (pl:=pl) (ZY (he y6 s U H _ I h) λu s1 μ=>?_) ht;obtain⟨x,H1,I1,rx,a,dx,fs,ex,ea,l,q⟩:=μ;subst ex;obtain rfl:u=Value.ref a:=rx;refine kB I1 ea c hm l ?_;refine Fg (first:=[.ref a]) (h₀:=X.base) I.ok.mod.WO hm.kp (ZY (ha pos y6 s1 U H1 _ I1 q) λus s2 ⟨vs,H2,I2,r,q2⟩=>⟨I2.Y_,?_⟩) hst hpl
 exact SF (us:=.ref a::us) (vs:=.ref a::vs) F hr hb hd hx I2 (.cons rfl r) q2
def CZ{pl:Sem Bool}(he:PE X o ta)(c:Yd X.K C)(hm:Meth X.K C m f)(F:Z8 X.prog X.w X.K X.mg X.base CX k f fd ps sp)(hr:Z2 k X.A)(hb:Binds X.K fd ps ds)(hd:Vals dvs ds)(hx:iE CX X E)(ht:eval (.Call (.Attribute o m apos) [] [] pos) X.env=(do
 let ov <-eval o X.env
 standAt apos.atName
 let (f,first) <-holding [ov] (getMethod ov m pl)
 callWith pos f first (backTo pos (starEach [] X.env)) (backToKw pos (keywordEach [] X.env))):=by rfl):PE X (.Call (.Attribute o m apos) [] [] pos) (Vl C m sp dvs E ta V7):=by
 intro y6 s U H Q I h;refine Fj (pl:=pl) (ZY (he y6 s U H _ I h) λu s1 μ=>?_) ht;obtain⟨x,H1,I1,rx,a,dx,fs,ex,ea,l,q⟩:=μ;subst ex;obtain rfl:u=Value.ref a:=rx;refine kB I1 ea c hm l ?_;exact W.callWith_K0 (first:=[.ref a]) I1.Y_ hm.kp (SF (us:=[.ref a]) (vs:=[.ref a]) F hr hb hd hx I1 (.cons rfl .nil) q)
structure Mk (K:W.Frag) (C f:Addr):Prop where
 makes:W.makesIn K C=true
 init:W.findIn K (.ref C) "__init__"=some (some (.ref f))
 fn:W.isFn K (.ref f)=true
 kp:W.keepIn K (.ref C)=true
def G8{Q:VK}{vs:List V}(M:Mk X.K C f)(F:Z8 X.prog X.w X.K X.mg X.base CX k f fd ps sp)(n:Z2 (k+1) X.A)(q:Binds X.K fd ps ds)(p:Vals dvs ds)(m:iE CX X E)(I:Inv X y6 U H s)(r:Vals vs us)(h:∀x b,H x=none->H b=none->b≠x->sp (.ref x::(vs++dvs)) (upd (upd H b (.own x)) x (.ins C b [])) (λv B=>v=.non/\Q (.ref x) B) E):wpAny (model X.prog X.w) X.A (call (.ref C) us) (EP X y6 U Q) X.xe s:=by
 have g:=h (s.heap.objs.size+1) s.heap.objs.size (I.Z3.fresh (Io _)) (I.Z3.fresh (Ai _)) (Bm (Nat.lt_succ_self _))
 have c:=Inv.made (C:=C) I
 have d:Vals (V.ref (s.heap.objs.size+1)::(vs++dvs)) (Value.ref (s.heap.objs.size+1)::(us++ds)):=.cons rfl (r.append p)
 have o:(Value.ref (s.heap.objs.size+1)::us++ds).length=ps.length:=by
  have e:=d.length
  rw[F.len _ _ _ _ g]at e;exact e.symm
 refine Gj (GL (f:=f) I.Y_ M.makes M.init (Hm.mp M.fn) (Fb (F.run _ X.stack _ _ ⟨Value.ref (s.heap.objs.size+1)::us,[]⟩ (Value.ref (s.heap.objs.size+1)::(us++ds)) _ _ E (n.make C us [])
  (c.Xh.make C us []) (q _ (Value.ref (s.heap.objs.size+1)::us) c.Y_ o) d g) λr i a=>?_))
 cases r with
 |error e=>exact m y6 U _ _ e i c a
 |ok t=>
  cases t with
  |ret u=>
   obtain⟨v,D,z,j,y,l⟩:=c.after a;subst y;exact⟨j,⟨V.ref (s.heap.objs.size+1),D,z,rfl,l⟩⟩
  |next=>exact False.elim a
  |brk=>exact False.elim a
  |cont=>exact False.elim a
def KO(M:Mk X.K C f)(F:Z8 X.prog X.w X.K X.mg X.base CX k f fd ps sp)(i:Z2 (k+1) X.A)(l:Gl X x)(j:X.mg x=some (.ref C))(o:Binds X.K fd ps ds)(n:Vals dvs ds)(g:iE CX X E)(u:PA X (e::es) t)(b:(x==("__debug__" : Str))=false:=by decide)(m:starEach (e::es) X.env=(false,eval e X.env)::starEach es X.env:=by rfl)(a:(backTo pos (starEach es X.env)).any (·.1)=false:=by rfl):PE X (.Call (.Name x p) (e::es) [] pos) (Ss C sp dvs E t):=by
 intro d s U H Q I h;refine Dr (hZ I l j ?_ b);refine Fg (h₀:=X.base) I.ok.mod.WO M.kp (ZY (u pos d s U H _ I h) λy z ⟨v,B,c,r,q⟩=>⟨c.Y_,?_⟩) m a;exact G8 M F i o n g c r q
end
def PK(X:Cx)(b:List Keyword)(t:TA):Prop:=
 ∀a (c:Q2) s (U:St) H Q,Inv X c U H s->t U H Q->wpAny (model X.prog X.w) X.A (evalAll ((backToKw a (keywordEach b X.env)).map (·.2))) (AP X c U Q) X.xe s
section
variable {kpos:Pos} {kws:List Keyword} {nm:Option Str}
def TV:PK X [] V7:=λ_ _ _ _ H Q I h=>wpAny_evalAll_nil ⟨[],H,I,.nil,h⟩
def uG(l:PE X e te)(k:PK X kws t):PK X (⟨nm,e,kpos⟩::kws) (VC te t):=by
 intro a b s U H Q I h
 refine wpAny_evalAll_cons (Ae (ZY (l b s U H _ I h) λu d ⟨x,p,n,g,j⟩=>Ae (Fv (Au ?_))));exact ZY (k a b d U p _ n j) λq r ⟨c,o,m,f,i⟩=>⟨x::c,o,m,.cons g f,i⟩
end
structure Z9 (N P:List Str) (sc:Scope):Prop where
 kind:sc.kind=.function
 co:sc.isCoroutine=false
 gen:sc.isGenerator=false
 nd:N.Nodup
 pre:N.take P.length=P
 par:∀x∈P,sc.names.lookup x=some .local\/sc.names.lookup x=some .cell
 Wo:∀y∈sc.names,y.2≠.free
def zW:∀ {a:List _} {m:Q5},(∀v,(x,v)∉a)->bindL kindOf a m x=m x
 |[],_,_=>rfl
 |(n,v)::r,m,h=>by
  unfold bindL;rw[zW λw b=>h w (Ak _ b)];split
  .have:x≠n:=by rintro rfl;exact h v Al
   simp[this]
  .rfl
def yT:∀ {a:List _} {m:Q5},(∀v,(x,v)∉a)->bindC kindOf a m x=m x
 |[],_,_=>rfl
 |(n,v)::r,m,h=>by
  unfold bindC;rw[yT λw b=>h w (Ak _ b)];split
  .rfl
  grind
def zD{v:Value}:∀ {P:List Str} {a:List Value} {i:Nat} {m:Q5},P.Nodup->P[i]?=some x->a[i]?=some v->kindOf x=some .local->
 bindL kindOf (P.zip a) m x=some v
 |[],_,_,_,_,h,_,_=>by simp at h
 |_::_,[],_,_,_,_,h,_=>by simp at h
 |p::P,w::a,0,m,nd,h1,h2,hk=>by
  simp at h1 h2;subst h1;subst h2;show bindL kindOf ((p,w)::P.zip a) m p=_
  unfold bindL;rw[zW λv b=>(Cp.mp nd).1 (Hl b).1,if_pos hk];simp
 |p::P,w::a,i+1,m,nd,h1,h2,hk=>by
  show bindL kindOf ((p,w)::P.zip a) m x=_
  unfold bindL;exact zD (i:=i) (List.nodup_cons.mp nd).2 (by simpa using h1) (by simpa using h2) hk
def zN{v:Value}:∀ {P:List Str} {a:List Value} {i:Nat} {m:Q5},P.Nodup->P[i]?=some x->a[i]?=some v->kindOf x≠some .local->
 bindC kindOf (P.zip a) m x=some v
 |[],_,_,_,_,h,_,_=>by simp at h
 |_::_,[],_,_,_,_,h,_=>by simp at h
 |p::P,w::a,0,m,nd,h1,h2,hk=>by
  simp at h1 h2;subst h1;subst h2;show bindC kindOf ((p,w)::P.zip a) m p=_
  unfold bindC;rw[yT λv b=>(Cp.mp nd).1 (Hl b).1,if_neg hk];simp
 |p::P,w::a,i+1,m,nd,h1,h2,hk=>by
  show bindC kindOf ((p,w)::P.zip a) m x=_
  unfold bindC;exact zN (i:=i) (List.nodup_cons.mp nd).2 (by simpa using h1) (by simpa using h2) hk
noncomputable def oC(N:List Str)(vs:List V):St:=vs.map some++List.replicate (N.length-vs.length) none
noncomputable def iL(CX:Yg)(P:Program)(w:World)(K:W.Frag)(mg:Str->Option Value)(base:Heap)(N:List Str)(qual:Str)(scope:Scope)(f:Addr)(cd:Value)(A:Around)(outer:List Env)(s:Shared)(H:Hp)(E:XK):Cx where
 prog:=P
 w:=w
 K:=K
 mg:=mg
 base:=base
 A:=A.deeper (envOfC qual scope s.heap.objs.size f cd)
 N:=N
 s₀:=s
 H₀:=H
 env:=envOfC qual scope s.heap.objs.size f cd
 outer:=outer
 stack:=envOfC qual scope s.heap.objs.size f cd::outer
 ex:=[]
 calm:=true
 fn:=λ_=>true
 pn:=[]
 xe:=λe s'=>wpAny (model P w) (A.deeper (envOfC qual scope s.heap.objs.size f cd)) (leaving (envOfC qual scope s.heap.objs.size f cd) e) (λ_ a=>CX outer H s E e a) (λb a=>CX outer H s E b a) s'
def cC{a:Scope}{n:Nat}(h:a.names.lookup x=some .cell):∃c,(cellsFrom n a.names []).lookup x=some c:=by
 have q:=W.cellsFrom_some a.names n [] (.inl h)
 exact Eb.mp q
def JM{J:Q5}{m:Heap}{j:Str}{d:Scope}{f:Addr}{I:Value}{g:List Env}{L:Shared}{E:XK}{vs:List V}(S:Z9 N ps d)(T:A.handled=none)(o:XT P w K J m A g s H)(X:vs.length=ps.length)(r:Vals vs us)(x:InCallC s s.heap.objs.size (bindL (envOfC j d s.heap.objs.size f I).kindOf (ps.zip us) λ_=>none) (cellsFrom (s.heap.objs.size+1) d.names []) (bindC (envOfC j d s.heap.objs.size f I).kindOf (ps.zip us) λ_=>none) L):Inv (iL CX P w K J m N j d f I A g s H E) [] (oC N vs) H L:=by
 have R:ps.length<=N.length:=by have:=Dp List.length S.pre;rw[Bt]at this;((try clear X);omega)
 obtain⟨G,W,rfl,O⟩:=x.done;have t:∀b,b∉(iL CX P w K J m N j d f I A g s H E).ex:=λb z=>absurd (show b∈([]:List Addr) from z) (by simp)
 refine⟨⟨o.mod,S.kind,rfl,rfl,Ai _,λy z c G l=>?_,λy B=>?_,λy c _ h=>?_,λ_=>T,Around.frames_deeper o.frames,.inr ⟨rfl,rfl⟩,λb z=>absurd z (t b),o.bs,o.XI,λb _ _=>t b,λb z=>absurd z (t b),o.Zk,o.WZ⟩,
  rfl,o.bare,Un.kept O,⟨_,x.toInCall.ns,λi y v G l Y=>?_⟩,λy c h=>⟨_,x.cell y c h⟩,o.Z3.fresh (Nat.le_refl _),λy c h=>?_,λp D=>absurd (show p∈([]:Q2) from D) (by simp),o.Z3.kept O,?_⟩
 .exact name_of_addr x.apart (Dk G) (Dk l)
 .have B:=B
  rcases B with B|B
  .exact cC B
  .exact absurd rfl (S.Wo _ (Dk B))
 .exact Nat.le_of_lt (x.above y c (Dk h))
 .have F:i<vs.length:=by
   unfold oC at l;by_cases F:i<vs.length
   .exact F
   .rw[List.getElem?_append_right (by simpa using F)]at l
    rw[Gd]at l;split at l<;>cases l
  have U:vs[i]?=some v:=by
   unfold oC at l;rw[List.getElem?_append_left (by simpa using F),List.getElem?_map]at l
   cases e:vs[i]? with
   |none=>rw[e]at l;cases l
   |some a=>rw[e]at l;cases l;rfl
  obtain⟨u,M,Q⟩:=r.get U;have D:ps[i]?=some y:=by
   rw[<-S.pre,List.getElem?_take_of_lt (by ((try clear R);omega))];exact G
  have C:ps.Nodup:=by rw[<-S.pre];exact S.nd.sublist (Hx _ _)
  refine⟨u,Q,?_⟩;rcases S.par y (Am D) with k|k
  .exact .inl ⟨k,zD C D M k⟩
  .obtain⟨c,e⟩:=cC (n:=s.heap.objs.size+1) k;refine .inr ⟨.inl k,c,e,?_⟩;have q:=x.cell y c e
   rw[zN C D M (by show d.names.lookup y≠_;rw[k];decide)]at q
   exact q
 .exact o.Z3.fresh (Nat.le_of_lt (x.above y c (Dk h)))
 .unfold oC;show _=N.length
  rw[Af,Ab,Cg];omega
def SR{L:Q5}{i:Heap}{f:Addr}{name d:Str}{h:Arguments}{a:Scope}{dV kV G pm g ct oc:Value}{an od:Option Addr}{T:Array (Option Value)}{sp:Sp}(lk:K.lookup f=some ⟨oc,od,.func (W.fnOf name d h body a dV kV G pm an g ct),T⟩)(Z:W.codeIn K g d=true)(S:Z9 N ps a)(B:∀j H Q E,sp j H Q E->j.length=ps.length)(p:∀(A:Around) (c:List Env) (s:Shared) (H:Hp) (j:List V) (Q:VK) (E:XK),Z2 k (A.deeper (envOfC d a s.heap.objs.size f g))->sp j H Q E->
 ∃t,Yw (iL CX P w K L i N d a f g A c s H E) body t/\t {nx:=λ_ l=>Q .non l,rt:=Q} (oC N j) H):Z8 P w K L i CX (k+1) f (W.fnOf name d h body a dV kV G pm an g ct) ps sp:=by
 refine⟨B,λA c s H a1 us j Q E Y F hb r C=>?_⟩;have hl:=B _ _ _ _ C
 have KX:K.In s.heap:=F.mod.WO.keeps λb o e=>(F.bs b o e).1
 have X:s.heap.NoLimit:=F.mod.nolimit.keeps λb o e=>(F.bs b o e).1
 have m:∀y∈ps.zip us,a.names.lookup y.1=some .local\/(a.names.lookup y.1=some .cell/\((cellsFrom (s.heap.objs.size+1) a.names []).lookup y.1).isSome=true):=λ⟨n,v⟩ hy=>by
  rcases S.par n (Hl hy).1 with q|q
  .exact .inl q
  .exact .inr ⟨q,W.cellsFrom_some _ _ _ (.inl q)⟩
 refine codeAny_call_function Y.depth (KX _ _ lk) rfl S.co S.gen rfl (W.codeRec_of KX Z) (hb _ _ _ _ ?_);refine wpAny_newFunctionEnv_cells S.kind m λa2 he s1 x=>?_;subst he;refine⟨X.keeps x.toInCall.keep,codeAny_func ?_⟩;obtain⟨t,ht,hq⟩:=p A c s H j Q E (Y.deeper _) C;have I:Inv (iL CX P w K L i N d a f g A c s H E) [] (oC N j) H s1:=JM S Y.hd F hl r x
 refine Co (ht [] s1 (oC N j) H _ I hq) (λfl O z=>?_) λe O z=>z;have D:∀ {M:St} {l:Hp} {v:V} {u:Value},Inv (iL CX P w K L i N d a f g A c s H E) [] M l O->RelV v u->Q v l->CE c P w H s Q u O:=
  fun {M l v u} J R q=>⟨v,l,J.os,J.bare,J.base,J.Z3,R,q⟩
 cases fl with
 |ret u=>
  obtain⟨v,M,l,J,R,q⟩:=z;exact D J R q
 |next=>
  obtain⟨M,l,J,q⟩:=z;exact D (v:=V.non) (u:=Value.none) J rfl q
 |brk=>
  obtain⟨_,_,_,q⟩:=z;exact False.elim q
 |cont=>
  obtain⟨_,_,_,q⟩:=z;exact False.elim q
section
variable {p:Pos} {id T:String} {r:List V->Hp->VK->Prop}
def UX(r:List V->Hp->VK->Prop)(t:TA):TE:=λU H Q=>t U H λa b=>r a b Q
def aY(q:ZU X (.builtin id) r)(n:Gl X x)(m:X.mg x=none)(k:bootBuiltins x=some (.builtin id))(u:PA X (e::es) t)(l:x≠"__name__" := by decide)(b:(x==("__debug__" : Str))=false:=by decide)(o:starEach (e::es) X.env=(false,eval e X.env)::starEach es X.env:=by rfl)(a:(backTo pos (starEach es X.env)).any (·.1)=false:=by rfl):PE X (.Call (.Name x p) (e::es) [] pos) (UX r t):=by
 intro c s U H Q I h;refine Dr (jA I n m k ?_ l b);exact PyProof.Rows.callWith_builtin1 (ZY (u pos c s U H _ I h) λf g ⟨d,w,v,i,j⟩=>q c g U w d f Q v i j) o a
def bS(q:ZU X (.type T) r)(n:Gl X x)(m:X.mg x=none)(k:bootBuiltins x=some (.type T))(u:PA X (e::es) t)(l:x≠"__name__" := by decide)(b:(x==("__debug__" : Str))=false:=by decide)(o:starEach (e::es) X.env=(false,eval e X.env)::starEach es X.env:=by rfl)(a:(backTo pos (starEach es X.env)).any (·.1)=false:=by rfl):PE X (.Call (.Name x p) (e::es) [] pos) (UX r t):=by
 intro c s U H Q I h;refine Dr (jA I n m k ?_ l b);exact Dq (ZY (u pos c s U H _ I h) λf g ⟨d,w,v,i,j⟩=>q c g U w d f Q v i j) o a
end
end L2
namespace HT
open PySem PyProof.Rows
noncomputable def Xn(n d:Nat):Option Int->Nat
 |none=>d
 |some v=>if v<0 then (v+(n:Int)).toNat else min v.toNat n
end HT
namespace L2
open PySem PySem.Spec PyProof.Rows
variable {H:Hp}{X:Cx}{its:List Value}{n:Nat}{y6:Q2}{s:Shared}{x:V}{xs:List V}{α:Type}{U:St}
abbrev TO:=St->Hp->(Option Int->Hp->Prop)->Prop
def PO(X:Cx)(e:Option Expr)(t:TO):Prop:=
 ∀(a:Q2) s (U:St) H Q,Inv X a U H s->t U H Q->
  wpAny (model X.prog X.w) X.A (evalPart e X.env) (λu c=>∃o b,Inv X a U b c/\IsPart u o/\Q o b) X.xe s
def Qs:TO:=λ_ H Q=>Q none H
section
variable {e:Expr} {te:TE} {lo hi:Option Expr} {tl th:TO} {pos p2:Pos}
def RV:PO X none Qs:=by
 intro a s U H Q I h;exact Au ⟨none,H,I,.none,h⟩
def W9(X:Cx)(r:V->Option Int->Option Int->Hp->VK->Prop):Prop:=
 ∀(a:Q2) s (U:St) H x v c b e f d Q,Inv X a U H s->RelV x v->s.heap.IsSliceOf d c b .none->IsPart c e->IsPart b f->r x e f H Q->
  ∃T id,typeLookup (.type T) "__getitem__"=pure (some (.builtin id))/\s.TypeIs v T/\wpAny (model X.prog X.w) X.A (getItem v (.ref d)) (EP X a U Q) X.xe s
def W9.or(h:W9 X r)(h':W9 X i):W9 X (λx a b H Q=>r x a b H Q\/i x a b H Q):=by
 intro c s U H x v e d a b f Q I g l k j q;rcases q with q|q
 .exact h c s U H x v e d a b f Q I g l k j q
 .exact h' c s U H x v e d a b f Q I g l k j q
def Qc(r:V->Option Int->Option Int->Hp->VK->Prop)(c:TE)(a b:TO):TE:=λU H Q=>c U H λx f=>a U f λl e=>b U e λu d=>r x l u d Q
def iJ(C:W9 X r)(F:PE X e te)(D:PO X lo tl)(z:PO X hi th):PE X (.Subscript e (.Slice lo hi none p2) pos) (Qc r te tl th):=by
 intro c s U H Q I h;refine Subscript_ (ZY (F c s U H _ I h) λv j μ=>?_);obtain⟨x,O,M,k,o⟩:=μ;refine wpAny_Slice (ZY (D c j U O _ M o) λf i ⟨l,N,L,y,n⟩=>ZY (z c i U N _ L n) λd a μ=>?_);obtain⟨u,g,K,p,m⟩:=μ;refine Au ?_;have J:Inv X c U g {a with heap:=a.heap.push {cls:=.type "slice",data:=.fields #[f,d,.none]}}:=K.kept (t':=a.toks) λb P q=>Aj _ q
 obtain⟨T,id,G,B,E⟩:=C c {a with heap:=a.heap.push {cls:=.type "slice",data:=.fields #[f,d,.none]}} U g x v f d l u a.heap.objs.size Q J k (Heap.IsSliceOf.new ..) y p m
 exact tail_any (ops:=[.ref a.heap.objs.size,v]) B G E (by with_unfolding_all rfl)
noncomputable def kS(xs:List V)(a b:Option Int):List V:=(xs.drop (HT.Xn xs.length 0 a)).take (HT.Xn xs.length xs.length b-HT.Xn xs.length 0 a)
def MN(xs:List V)(a b:Option Int):(kS xs a b).length<=xs.length:=by
 unfold kS;rw[Bt,Ce];omega
end
noncomputable def Xo(n:Nat)(i:Int):Option Nat:=if 0<=i then (if i<n then some i.toNat else none) else if -(n:Int)<=i then some (i+n).toNat else none
noncomputable def YY(xs:List α)(i:Int):Option α:=(Xo xs.length i).bind λj=>xs[j]?
def N4(h:Xo n i=some j):seqIndex? i n=some j/\j<n/\-(n:Int)<=i/\i<n:=by
 unfold Xo at h;by_cases b:0<=i
 .rw[if_pos b]at h;by_cases a:i<n
  .rw[if_pos a]at h;have e:=Bj h
   exact⟨by rw[seqIndex_of b a,e],by omega,by ((try clear a e);omega),a⟩
  simp_all
 .rw[if_neg b]at h;by_cases a:-(n:Int)<=i
  .rw[if_pos a]at h;have e:=Bj h
   exact⟨by rw[seqIndex_neg (by ((try clear a e);omega)) a,e],by omega,a,by ((try clear e);omega)⟩
  .rw[if_neg a]at h;cases h
def R0{xs:List α}{i:Int}{v:α}(h:YY xs i=some v):∃j,seqIndex? i xs.length=some j/\xs[j]?=some v/\j<xs.length/\-(xs.length:Int)<=i/\i<xs.length:=by
 unfold YY at h;cases e:Xo xs.length i with
 |none=>rw[e]at h;cases h
 |some j=>
  rw[e]at h;obtain⟨d,c,b,a⟩:=N4 e;exact⟨j,d,h,c,b,a⟩
def aW{xs:List α}{j:Nat}{v:α}(h:xs[j]?=some v):YY xs (j:Int)=some v:=by
 have a:=(Ad.mp h).1
 have e:Xo xs.length (j:Int)=some j:=by
  unfold Xo;simp_all
 unfold YY;rwa[e]
def ED(b:Expr):Prop:=∀o i,subscripted b false o i=operate [o,i] (getItem o i)
def Xx(X:Cx)(r:R2):Prop:=
 ∀b a (c:Q2) s (U:St) H x y v u Q,Inv X c U H s->RelV x v->RelV y u->r x y H Q->
  subscripted a false v u=operate [v,u] (getItem v u)->wpAny (model X.prog X.w) X.A (subscriptTail b a v u) (EP X c U Q) X.xe s
def YT(X:Cx)(id:String)(r:V->List V->Hp->VK->Prop):Prop:=
 ∀(a:Q2) s (U:St) H x b v c Q,Inv X a U H s->RelV x v->Vals b c->r x b H Q->
  wpAny (model X.prog X.w) X.A (call (.builtin id) (v::c)) (EP X a U Q) X.xe s
section
variable {X:Cx} {a b:Expr} {ta tb:TE} {pos:Pos}
def Xx.or(h:Xx X r)(h':Xx X f):Xx X (λx y H Q=>r x y H Q\/f x y H Q):=by
 intro a b c s U H x y v u Q I e d q g;rcases q with q|q
 .exact h a b c s U H x y v u Q I e d q g
 .exact h' a b c s U H x y v u Q I e d q g
def bD(g:Xx X r)(j:PE X a ta)(i:PE X b tb)(hs:ED b):PE X (.Subscript a b pos) (VQ r ta tb):=by
 intro c s U H Q I h;exact Subscript_ (SI j i I h λv u d x y l k f e q=>g a b c d U l x y v u Q k f e q (hs _ _))
def TQ(K:W.Frag):R2:=λx y H Q=>∃p a i v,x=.ref p/\y=.int i/\ZA K H p a/\YY a i=some v/\Q v H
def OM(K:W.Frag):R2:=λx y H Q=>∃p a i v,x=.ref p/\y=.int i/\Yb K H p a/\YY a i=some v/\Q v H
def OT:R2:=λx y H Q=>∃z i c,x=.str z/\y=.int i/\z.length<=sizeLine/\YY z.cps.toList i=some c/\Q (.str ⟨#[c]⟩) H
def XJ:Xx X (TQ X.K):=by
 intro c d l s U H x y v u Q I C B h m;obtain⟨p,M,i,z,rfl,rfl,D,F,q⟩:=h;cases C;obtain⟨t,rfl⟩:=B;obtain⟨g,r,f,N⟩:=I.list D;obtain⟨j,b,L,P,J,G⟩:=R0 F;obtain⟨w,o,e⟩:=r.get L;have E:=r.length
 have O:=kK
 have a:EP X l U Q w s:=⟨z,H,I,e,q⟩
 by_cases n:0<=i
 .have k:i.toNat=j:=by
   rw[seqIndex_of n G]at b;exact Bj b
  exact item_listR f.isList n (by ((try clear J P k n);omega)) (by rw[k];simpa using o) a m
 .have k:(i+(g.toArray.size:Int)).toNat=j:=by
   rw[seqIndex_neg (by ((try clear E G J N O P);omega)) J]at b
   rw[Ba,<-E];exact Bj b
  exact subscriptTail_builtinR (x:=w) f.isList.typeIs slot_list_getitem.lookup
   (wpAny_getItem_list_neg (Q:=λr A=>r=w/\EP X l U Q r A) f.isList (by ((try clear E G J N O P k);omega)) (by grind) (by ((try clear G P k n);omega)) (by rw[k];simpa using o) ⟨rfl,a⟩) m
def Wi:Xx X (OM X.K):=by
 intro a b e s U H x y v u Q I l k h n;obtain⟨p,F,i,z,rfl,rfl,o,B,q⟩:=h;cases l;obtain⟨t,rfl⟩:=k;obtain⟨m,r,f,G⟩:=I.tuple o;obtain⟨j,D,C,N,M,L⟩:=R0 B;obtain⟨w,E,c⟩:=r.get C;have A:=r.length
 have J:=kK
 have d:EP X e U Q w s:=⟨z,H,I,c,q⟩
 exact subscriptTail_builtinR (x:=w) f.typeIs slot_tuple_getitem.lookup
  (getItem_tuple (j:=j) (Q:=λr g=>r=w/\EP X e U Q r g) f (by ((try clear L);omega)) (by ((try clear M);omega)) (by grind) (by simpa using E) ⟨rfl,d⟩) n
def LR:Xx X OT:=by
 intro a b w s U H x y v u Q I f e h g;obtain⟨z,i,c,rfl,rfl,B,l,q⟩:=h;obtain⟨t,rfl⟩:=f;obtain⟨A,rfl⟩:=e;obtain⟨j,d,o,D,n,m⟩:=R0 l;have k:z.cps.toList.length=z.length:=by simp[Str.length]
 rw[k]at d n m;have C:=kK
 exact tail_any (Iv s z t) slot_str_getitem.lookup (getItem_str  (by grind) (by rw[d];simpa using o) ⟨.str ⟨#[c]⟩,H,I.tok _,⟨_,rfl⟩,q⟩) g
def Pn(K:W.Frag):R2:=λx y H Q=>TQ K x y H Q\/OM K x y H Q\/OT x y H Q
def V8:Xx X (Pn X.K):=XJ.or (Wi.or LR)
def MA(its:List Value)(n j:Nat)(u:Value):Obj.mapSeq (·.setIfInBounds j u) {cls:=.type "list",data:=.seq its.toArray n}={cls:=.type "list",data:=.seq (its.set j u).toArray n}:=by
 simp[Obj.mapSeq]
def Inv.lst(I:Inv X y6 U H s)(h:H p=some (.lst xs)):∃a n,Vals xs a/\s.heap.get? p=some {cls:=.type "list",data:=.seq a.toArray n}/\xs.length<=sizeLine:=by
 obtain⟨z,a,n,r,e⟩:=I.Z3 p _ h;exact⟨a,n,r,e,z⟩
def Inv.V4{a:Nat}{f:Obj->Obj}(I:Inv X y6 U H s)(h:H p=some (.lst xs))(g:s.heap.get? p=some {cls:=.type "list",data:=.seq its.toArray n})(c:f {cls:=.type "list",data:=.seq its.toArray n}={cls:=.type "list",data:=.seq its'.toArray a})(r:Vals ys its')(d:ys.length<=sizeLine)(t:Nat):Inv X y6 U (upd H p (.lst ys)) {s with heap:=s.heap.update p f,toks:=t}:=by
 have e:(s.heap.update p f).get? p=some {cls:=.type "list",data:=.seq its'.toArray a}:=by
  rw[Heap.get?_update_self f g (by rw[c]<;>rfl),c]
 refine I.write   (by rw[h];trivial) (.inl rfl) (λb u i q=>(Cb _ _ (Ne.symm i)).trans q) ⟨_,e⟩ ?_
 exact⟨d,its',a,r,e⟩
def N_:V->V->V->Hp->(Hp->Prop)->Prop:=λo i v H Q=>∃p a k j,o=.ref p/\i=.int k/\H p=some (.lst a)/\Xo a.length k=some j/\Q (upd H p (.lst (a.set j v)))
def vG:Qk X N_:=by
 intro x s U H o i v E F u Q I A B z h;obtain⟨p,y,k,j,rfl,rfl,f,D,q⟩:=h;cases A;obtain⟨t,rfl⟩:=B;obtain⟨a,n,r,c,C⟩:=I.lst f;obtain⟨b,J,l,g⟩:=N4 D;have d:=r.length
 have G:=kK
 have w:=
  I.V4 f c (MA a n j u) (r.set z j) (by rw[Cy];exact C) s.toks
 by_cases m:0<=k
 .have e:k.toNat=j:=by
   rw[seqIndex_of m g]at b;exact Bj b
  exact W.ki_setAt c m (by ((try clear J e l m);omega)) (by rw[Ba,<-d];exact g) (by rw[e];exact⟨_,w,q⟩)
 .have e:(k+(a.toArray.size:Int)).toNat=j:=by
   rw[seqIndex_neg (by ((try clear C G J d g l);omega)) l]at b
   simp_all
  exact W.ki_setBack c (by ((try clear C G J d e g l);omega)) (by simp_all) (by ((try clear J e g m);omega)) (by rw[e];exact⟨_,w,q⟩)
def J2(a b:Option Int)(n:Nat):(sliceBounds a b none n).1=((HT.Xn n 0 a:Nat):Int)/\(sliceBounds a b none n).2.1=((HT.Xn n n b:Nat):Int)/\(sliceBounds a b none n).2.2=1:=by
 refine⟨?_,?_,rfl⟩
 .cases a with
  |none=>simp[sliceBounds,HT.Xn]
  |some i=>
   simp only[sliceBounds,HT.Xn,Option.getD_none,show (1:Int)>0 by decide,if_true]
   by_cases h:i<0
   .simp only[h,if_true]<;>omega
   .simp only[h,if_false]<;>omega
 .cases b with
  |none=>simp[sliceBounds,HT.Xn]
  |some i=>
   simp only[sliceBounds,HT.Xn,Option.getD_none,show (1:Int)>0 by decide,if_true]
   by_cases h:i<0
   .simp only[h,if_true]<;>omega
   .simp only[h,if_false]<;>omega
def xZ(its:List Value)(a b:Option Int):slicePick its.toArray a b none=((its.drop (HT.Xn its.length 0 a)).take (HT.Xn its.length its.length b-HT.Xn its.length 0 a)).toArray:=by
 obtain⟨e,d,c⟩:=J2 a b its.toArray.size;unfold slicePick;rw[e,d,c];simp only[sliceRange_one,pick_run,List.size_toArray]<;>rfl
def OP(K:W.Frag):V->Option Int->Option Int->Hp->VK->Prop:=λx c d H Q=>∃a b,x=.ref a/\ZA K H a b/\∀p,H p=none->Q (.ref p) (upd H p (.lst (kS b c d)))
def Yq:W9 X (OP X.K):=by
 intro u s U H x v y w e f z Q I i p k j h;obtain⟨a,c,rfl,n,q⟩:=h;cases i;obtain⟨l,r,g,m⟩:=I.list n;have d:=r.length
 refine⟨"list",_,slot_list_getitem.lookup,g.isList.typeIs,?_⟩;refine wpAny_getItem_list_slice g.isList p k j .none (by simp) ?_ (by grind)
 rw[xZ,<-d];refine⟨.ref s.heap.objs.size,_,I.laid   (λb A q=>Aj _ q) (Ai _) ?_,rfl,q _ (I.Z3.fresh (Ai _))⟩;exact⟨Bh (MN c e f) m,_,0,(r.drop _).take _,Ay _ rfl⟩
noncomputable def cA:V->Bool
 |.non=>true
 |.bl _=>true
 |.int _=>true
 |.str _=>true
 |_=>false
noncomputable def X3:V->V->Bool
 |.non,.non=>true
 |.bl a,.bl b=>a==b
 |.bl a,.int b=>(if a then 1 else 0)==b
 |.int a,.bl b=>a==(if b then 1 else 0)
 |.int a,.int b=>a==b
 |.str a,.str b=>a==b
 |_,_=>false
def rW{s:Shared}{y:V}{u v:Value}(e:RelV y u)(c:RelV x v)(g:cA y=true)(f:cA x=true):SeqAt.EqAt A s u v (X3 y x):=by
 cases y with
 |non=>
  cases e;cases x with
  |non=>cases c;exact SeqAt.EqAt.same _
  |bl b=>cases c;exact SeqAt.EqAt.none_bool b
  |int b=>obtain⟨t,rfl⟩:=c;exact SeqAt.EqAt.none_int b t
  |str b=>obtain⟨t,rfl⟩:=c;exact SeqAt.EqAt.none_str b t
  |_=>exact absurd (show false=true from f) Ar
 |bl a=>
  cases e;cases x with
  |non=>cases c;exact SeqAt.EqAt.bool_none a
  |bl b=>cases c;exact SeqAt.EqAt.bool_bool a b
  |int b=>obtain⟨t,rfl⟩:=c;exact SeqAt.EqAt.bool_int a b t
  |str b=>obtain⟨t,rfl⟩:=c;exact SeqAt.EqAt.bool_str a b t
  |_=>exact absurd (show false=true from f) Ar
 |int a=>
  obtain⟨d,rfl⟩:=e;cases x with
  |non=>cases c;exact SeqAt.EqAt.int_none a d
  |bl b=>cases c;exact SeqAt.EqAt.int_bool a d b
  |int b=>obtain⟨t,rfl⟩:=c;exact SeqAt.EqAt.int_int a d b t
  |str b=>obtain⟨t,rfl⟩:=c;exact SeqAt.EqAt.int_str a d b t
  |_=>exact absurd (show false=true from f) Ar
 |str a=>
  obtain⟨d,rfl⟩:=e;cases x with
  |non=>cases c;exact SeqAt.EqAt.str_none a d
  |bl b=>cases c;exact SeqAt.EqAt.str_bool a d b
  |int b=>obtain⟨t,rfl⟩:=c;exact SeqAt.EqAt.str_int a d b t
  |str b=>obtain⟨t,rfl⟩:=c;exact SeqAt.EqAt.str_str a d b t
  |_=>exact absurd (show false=true from f) Ar
 |_=>exact absurd (show false=true from g) Ar
noncomputable def Wb(x:V)(u:Value):Bool:=match u with
 |.none=>X3 .non x
 |.bool b=>X3 (.bl b) x
 |.int i _=>X3 (.int i) x
 |.str z _=>X3 (.str z) x
 |_=>false
def Ra(r:RelV y u)(f:cA y=true):Wb x u=X3 y x:=by
 cases y with
 |non=>cases r;rfl
 |bl b=>cases r;rfl
 |int i=>obtain⟨t,rfl⟩:=r;rfl
 |str z=>obtain⟨t,rfl⟩:=r;rfl
 |_=>exact absurd (show false=true from f) Ar
def qC:∀ {a:List V} {b:List Value},Vals a b->a.all cA=true->b.any (Wb x)=a.any λy=>X3 y x
 |_,_,.nil,_=>rfl
 |y::a,u::b,.cons r t,f=>by
  rw[List.all_cons,Fd]at f;rw[Il,Il,Ra r f.1,qC t f.2]
def mH{v:Value}(d:RelV x v)(e:cA x=true):∀ {b:List V} {c:List Value},Vals b c->b.all cA=true->∀u∈c,SeqAt.EqAt A s u v (Wb x u)
 |_,_,.nil,_=>λu a=>by cases a
 |y::b,u::c,.cons r t,f=>λg a=>by
  rw[List.all_cons,Fd]at f;rcases Bc.mp a with rfl|a
  .rw[Ra r f.1];exact rW r d f.1 e
  .exact mH d e t f.2 g a
noncomputable def W3(x:V)(xs:List V):Bool:=xs.any λy=>X3 y x
def Sf(K:W.Frag)(neg:Bool):R2:=λx y H Q=>∃p a,y=.ref p/\(ZA K H p a\/Yb K H p a)/\cA x=true/\a.all cA=true/\Q (.bl (if neg then !W3 x a else W3 x a)) H
def Xt:ZK X (compareOp .In) (Sf X.K false):=by
 intro k s U H x y v u Q I f i h;obtain⟨p,l,rfl,b,g,c,q⟩:=h;cases i;rcases b with b|b
 .obtain⟨a,r,d,j⟩:=I.list b;refine SeqAt.in_listAt _ d.isList (λw e=>mH f g r c w (by simp_all)) ⟨.bl _,H,I,rfl,?_⟩
  rwa[show a.toArray.any _=a.any (Wb x) by simp,qC r c]
 .obtain⟨a,r,d,j⟩:=I.tuple b;refine SeqAt.in_tupleAt _ d (λw e=>mH f g r c w (by simpa using e)) ⟨.bl _,H,I,rfl,?_⟩
  rwa[show a.toArray.any _=a.any (Wb x) by simp,qC r c]
def Ys:ZK X (compareOp .NotIn) (Sf X.K true):=by
 intro k s U H x y v u Q I f i h;obtain⟨p,l,rfl,b,g,c,q⟩:=h;cases i;rcases b with b|b
 .obtain⟨a,r,d,j⟩:=I.list b;refine SeqAt.notIn_listAt _ d.isList (λw e=>mH f g r c w (by simp_all)) ⟨.bl _,H,I,rfl,?_⟩
  rwa[show a.toArray.any _=a.any (Wb x) by simp,qC r c]
 .obtain⟨a,r,d,j⟩:=I.tuple b;refine SeqAt.notIn_tupleAt _ d (λw e=>mH f g r c w (by simpa using e)) ⟨.bl _,H,I,rfl,?_⟩
  rwa[show a.toArray.any _=a.any (Wb x) by simp,qC r c]
def C8:ZU X (.builtin "len") (λg H Q=>∃p b,g=[.ref p]/\(ZA X.K H p b\/Yb X.K H p b)/\Q (.int b.length) H):=by
 intro k s U H g l Q I r h;obtain⟨p,b,rfl,c,q⟩:=h;obtain⟨u,rfl,i⟩:=dP r;cases i;have m:=kK
 rcases c with c|c
 .obtain⟨f,d,e,j⟩:=I.list c;have a:=d.length
  exact Calls.call_len_list e.isList (by simp only[List.size_toArray]<;>omega) ⟨.int b.length,H,I.tok _,⟨s.toks+1,by rw[List.size_toArray,a]⟩,q⟩
 .obtain⟨f,d,e,j⟩:=I.tuple c;have a:=d.length
  exact len_tuple e (by simp only[List.size_toArray]<;>omega) ⟨.int b.length,H,I.tok _,⟨s.toks+1,by rw[List.size_toArray,a]⟩,q⟩
def ZU.or(h:ZU X f r)(h':ZU X f e):ZU X f (λa H Q=>r a H Q\/e a H Q):=by
 intro b s U H a c Q I d q;rcases q with q|q
 .exact h b s U H a c Q I d q
 .exact h' b s U H a c Q I d q
def Yl:ZU X (.type "list") (λC H Q=>∃p f,C=[.ref p]/\(ZA X.K H p f\/Yb X.K H p f)/\∀l,H l=none->Q (.ref l) (upd H l (.lst f))):=by
 intro E s U H C G Q I r h;obtain ⟨p,f,rfl,m,q⟩:=h;obtain ⟨u,rfl,F⟩:=dP r;cases F;have x:∀ a,Vals f a->f.length<=sizeLine->∀ d i,(∀ b D,s.heap.get? b=some D->d.get? b=some D)->
     d.get? s.heap.objs.size=some {cls:=.type "list",dict:=none,data:=.seq a.toArray i,slots:=#[]}->EP X E U Q (.ref s.heap.objs.size) {s with heap:=d}:=λa g k d i j e=>
  ⟨.ref s.heap.objs.size,_,I.laid (t':=s.toks) j (Ai _) (show ZX X.prog X.w _ d _ (.lst f) from⟨k,a,i,g,e⟩),rfl,q _ (I.Z3.fresh (Ai _))⟩
 rcases m with m|m
 .obtain⟨a,g,y,k⟩:=I.list m;have v:=g.length
  obtain⟨o,z,B,n,A⟩:=y.isList;exact call_list_seq p (.inl rfl) z B A (λd i j e=>x a g k d i j e) (by simp_all)
 .obtain⟨a,g,y,k⟩:=I.tuple m;have v:=g.length
  obtain⟨o,z,B,n,A⟩:=y;exact call_list_seq p (.inr rfl) z B A (λd i j e=>x a g k d i j e) (by simp only[List.size_toArray]<;>omega)
def P9(K:W.Frag)(T:String)(x:V)(H:Hp):Prop:=match x with
 |.str _=>T="str"
 |.int _=>T="int"
 | .ref p=>(T="list"/\∃ b,ZA K H p b)\/(T="tuple"/\∃ o,K.lookup p=some o/\o.cls=.type "tuple"/\o.dict=none)\/
     (T="dict"/\((∃a,H p=some (.dK a))\/∃a,H p=some (.dT a)))\/(T="set"/\∃S n,H p=some (.set S n))
 |_=>False
def Sb{v:Value}(I:Inv X y6 U H s)(r:RelV x v)(f:P9 X.K T x H):s.TypeIs v T/\∀a,v=.ref a->∃l,s.heap.get? a=some l/\l.dict=none:=by
 cases x with
 |str z=>
  obtain⟨t,rfl⟩:=r;cases (show T="str" from f);exact⟨Iv s z t,λ_ e=>nomatch e⟩
 |int i=>
  obtain⟨t,rfl⟩:=r;cases (show T="int" from f);exact⟨typeIs_int s i t,λ_ e=>nomatch e⟩
 |ref p=>
  cases r;rcases f with⟨rfl,w,q⟩|⟨rfl,o,b,u,h⟩|⟨rfl,b⟩|⟨rfl,S,n,b⟩
  .obtain⟨m,_,k,_⟩:=I.list q;refine⟨k.isList.typeIs,λa e=>?_⟩;cases e;obtain⟨o,n,e,c,h,_⟩:=k;exact⟨o,e,h⟩
  .refine⟨⟨o,I.Y_ p o b,u⟩,λa e=>?_⟩;cases e;exact⟨o,I.Y_ _ o b,h⟩
  .have z:∃ o,s.heap.get? p=some o/\o.ExactDict:=by
    rcases b with⟨g,b⟩|⟨g,b⟩
    .obtain⟨_,_,_,_,o,_,_,e,d,_⟩:=I.Z3 p _ b;exact⟨o,e,d⟩
    .obtain⟨_,_,_,_,o,_,_,e,d,_⟩:=I.Z3 p _ b;exact⟨o,e,d⟩
   obtain⟨o,e,d⟩:=z;refine⟨⟨o,e,d.1⟩,λa j=>?_⟩;cases j;exact⟨o,e,d.2.1⟩
  .obtain⟨o,_,_,_,e,d,_⟩:=I.Z3 p _ b;refine⟨⟨o,e,d.1⟩,λa j=>?_⟩;cases j;exact⟨o,e,d.2.1⟩
 |_=>exact False.elim f
variable {o e:Expr} {t:TA} {T:String} {r:V->List V->Hp->VK->Prop}
end
def Ua(X:Cx)(id:String)(r:V->List V->Hp->VK->Prop):Prop:=
 ∀(a:Q2) s (U:St) H x b v c Q,Inv X a U H s->RelV x v->Vals b c->r x b H Q->
  wpAny (model X.prog X.w) X.A (call (.builtin id) (v::c)) (EP X a U Q) X.xe s
def Vals.one{x:V}{a:List Value}(h:Vals [x] a):∃u,a=[u]/\RelV x u:=by cases h with|cons r t=>cases t;exact⟨_,rfl,r⟩
def Vals.two{x y:V}{a:List Value}(h:Vals [x,y] a):∃u v,a=[u,v]/\RelV x u/\RelV y v:=by cases h with|cons r t=>obtain⟨v,rfl,q⟩:=Vals.one t;exact⟨_,_,rfl,r,q⟩
def Vals.zero:∀ {a:List Value},Vals [] a->a=[]
 |_,.nil=>rfl
def Vals.rep(h:Vals xs us):∀k,Vals (List.replicate k xs).flatten (List.replicate k us).flatten
 |0=>.nil
 |k+1=>by
  exact Vals.append h (Vals.rep h k)
def Oj(its:List Value):∀k a,
 List.foldl (λc b=>c++b) a.toArray (List.replicate k its.toArray)=(a++(List.replicate k its).flatten).toArray
 |0,a=>by simp
 |k+1,a=>by
  have e:a.toArray++its.toArray=(a++its).toArray:=by simp
  have d:(a++its)++(List.replicate k its).flatten=a++(List.replicate (k+1) its).flatten:=by
   rw[Dm,By,Fq]
  rw[<-d,<-Oj its k _,<-e,Dm,List.foldl_cons]
section
variable {l:Addr} {ys:List V}
def Inv.WL{f:Array Value->Array Value}{t':Nat}(I:Inv X y6 U H s)(h:H l=some (.lst xs))(e:s.heap.get? l=some {cls:=.type "list",data:=.seq its.toArray n})(d:f its.toArray=its'.toArray)(b:Vals ys its')(a:ys.length<=sizeLine):Inv X y6 U (upd H l (.lst ys)) {s with heap:=s.heap.update l (Obj.mapSeq f),toks:=t'}:=by
 have q:=PySem.IsL.update e f
 rw[d]at q;refine I.write   (by rw[h];exact trivial) (.inl rfl) (λi u g c=>(Cb s.heap _ (Ne.symm g)).trans c) ⟨_,q⟩ ?_
 exact⟨a,its',_,b,q⟩
def Inv.WK{its:List Value}{t':Nat}(I:Inv X y6 U H s)(b:Vals ys its)(a:ys.length<=sizeLine):Inv X y6 U (upd H s.heap.objs.size (.lst ys)) {s with heap:=s.heap.push {cls:=.type "list",data:=.seq its.toArray},toks:=t'}:=
 I.laid (λ_ _ q=>Aj _ q) (Ai _) ⟨a,its,0,b,Ay _ rfl⟩
def Inv.fresh(I:Inv X y6 U H s):H s.heap.objs.size=none:=I.Z3.fresh (Ai _)
def Inv.X9(I:Inv X y6 U H s)(b:H l=some (.lst xs)):xs.length<=sizeLine/\∃a n,Vals xs a/\xs.length=a.length/\s.heap.get? l=some {cls:=.type "list",data:=.seq a.toArray n}:=by
 obtain⟨z,a,n,r,e⟩:=I.Z3 l _ b;exact⟨z,a,n,r,r.length,e⟩
def P4(h:n<=sizeLine):Builtin.List.listTooLong n=false:=by
 unfold Builtin.List.listTooLong;grind
end
def Nt:V->List V->Hp->VK->Prop:=λx b H Q=>∃l a y,x=.ref l/\b=[y]/\H l=some (.lst a)/\a.length<sizeLine/\Q .non (upd H l (.lst (a++[y])))
def zF:Ua X "list.append" Nt:=by
 intro g s U H x j v k Q I c d h;obtain⟨l,i,y,rfl,rfl,b,m,q⟩:=h;cases c;obtain⟨u,rfl,f⟩:=d.one;obtain⟨z,a,n,r,o,e⟩:=I.X9 b;refine Fw F.slot_list_append ⟨_,e,rfl⟩ F.entry_list_append (F.args_list_append_2 _ _) (PySem.list_append l a.toArray n u (by grind)) ⟨e,?_⟩
 refine⟨.non,_,I.WL  b e (by simp) (r.append (.cons f .nil)) ?_,rfl,q⟩
 grind
def IY:V->List V->Hp->VK->Prop:=λx d H Q=>∃l b c a,x=.ref l/\d=[.ref b]/\H l=some (.lst c)/\H b=some (.lst a)/\c.length+a.length<=sizeLine/\Q .non (upd H l (.lst (c++a)))
def Kf:Ua X "list.extend" IY:=by
 intro B s U H x D v E Q I i j h;obtain⟨l,b,C,y,rfl,rfl,g,t,G,q⟩:=h;cases i;obtain⟨u,rfl,k⟩:=j.one;cases k;obtain⟨z,c,n,r,J,e⟩:=I.X9 g;obtain⟨A,a,o,m,p,w⟩:=I.X9 t;have f:c.toArray.size+a.toArray.size<=sizeLine:=by grind
 have d:¬(!c.toArray.isEmpty&&Builtin.List.listTooLong (c.toArray.size+a.toArray.size))=true:=by
  rw[P4 f,Bool.and_false];exact Ar
 refine Fw F.slot_list_extend ⟨_,e,rfl⟩ F.entry_list_extend (F.args_list_extend_2 _ _)
  (AutoSeq1.list_extend_list_list_0 l c.toArray n b a.toArray o d (by grind) (by (exact Nat.le_trans (by assumption) (by decide)))) ⟨e,w,?_⟩
 refine⟨.non,_,I.WL (its':=c++a) g e (by simp) (r.append m) ?_,rfl,q⟩
 rw[Af];(assumption)
def ET:V->List V->Hp->VK->Prop:=λx b H Q=>∃l a,x=.ref l/\b=[]/\H l=some (.lst a)/\Q .non (upd H l (.lst []))
def Lf:Ua X "list.clear" ET:=by
 intro g s U H x j v k Q I d f h;obtain⟨l,i,rfl,rfl,c,q⟩:=h;cases d;have b:=f.zero
 subst b;obtain⟨z,a,n,r,m,e⟩:=I.X9 c;refine Fw F.slot_list_clear ⟨_,e,rfl⟩ F.entry_list_clear (F.args_list_clear_1 _) (AutoSeq1.list_clear_list_0 l a.toArray n (by grind)) ⟨e,?_⟩
 exact⟨.non,_,I.WL   c e rfl .nil (Ct _),rfl,q⟩
def KD:R2:=λx y H Q=>∃l b c a,x=.ref l/\y=.ref b/\H l=some (.lst c)/\H b=some (.lst a)/\c.length+a.length<=sizeLine/\∀p,H p=none->Q (.ref p) (upd H p (.lst (c++a)))
def CD:ZK X (binaryOp .Add) KD:=by
 intro A s U H x y v u Q I f d h;obtain⟨l,b,B,p,rfl,rfl,j,k,D,q⟩:=h;cases f;cases d;obtain⟨z,c,n,r,E,e⟩:=I.X9 j;obtain⟨w,a,C,g,i,o⟩:=I.X9 k;refine PySem.P.add_list e o ?_ (by simp_all)
 have m:c.toArray++a.toArray=(c++a).toArray:=by simp
 rw[m];exact⟨.ref _,_,I.WK  (r.append g) (by rw[Af];(assumption)),rfl,q _ I.fresh⟩
def MO:R2:=λx y H Q=>∃l k a,x=.ref l/\y=.int k/\H l=some (.lst a)/\-(2^63)<=k/\k<2^63/\a.length*k.toNat<=sizeLine/\
 ∀p,H p=none->Q (.ref p) (upd H p (.lst (List.replicate k.toNat a).flatten))
def GN(xs:List α)(k:Nat):(List.replicate k xs).flatten.length=k*xs.length:=by simp_all
def TK:ZK X (binaryOp .Mult) MO:=by
 intro K s U H x y v u Q I B A h;obtain⟨l,k,L,rfl,rfl,D,G,E,p,q⟩:=h;cases B;obtain⟨t,rfl⟩:=A;obtain⟨z,b,n,r,C,e⟩:=I.X9 D;have f:b.toArray.size*k.toNat<=sizeLine:=by rw[Ba,<-C];exact p
 have i:¬b.toArray.size*k.toNat>(2^63-1) / 8:=by
  have:(sizeLine:Nat)<=(2^63-1) / 8:=by decide
  ((try clear C E G p z);omega)
 have g:¬(!Builtin.List.listFitsIndex k)=true:=by
  rw[fitsIndex_both G E];exact Ar
 have c:¬Builtin.List.listTooLong (b.toArray.size*k.toNat)=true:=by
  rw[P4 f];exact Ar
 have d:List.foldl (λo j=>o++j) #[] (List.replicate (if b.toArray.isEmpty=true then 0 else k.toNat) b.toArray)=(List.replicate k.toNat b).flatten.toArray:=by
  have J:=λm=>by
   have:=Oj b m []
   rw[List.nil_append]at this;exact this
  rw[J];cases b with
  |nil=>simp
  |cons a M=>rw[if_neg (by simp)]
 refine wpAny_binaryOp_repeat_ref (T := "list") (U := "int") (by decide) ⟨_,e,rfl⟩ (λw=>typeIs_int w k t) noFill_list_mul F.fills_int_mul F.slot_int_rmul repeat_list F.slot_int_index.lookup
  (Fw F.slot_int_rmul (typeIs_int s k t) F.entry_int_rmul (F.args_int_rmul_2 _ _) (int___rmul___int_list k t l b.toArray n)
   ⟨e,rfl,⟨_,e,rfl⟩,Fw F.slot_list_mul ⟨_,e,rfl⟩ F.entry_list_mul (F.args_list_mul_2 _ _) (AutoListH.list___mul___list_int_3 l b.toArray n k t g i c) ⟨e,?_⟩⟩)
 rw[d];exact⟨.ref _,_,I.WK (t':=s.toks) (r.rep k.toNat) (by rw[GN,Nat.mul_comm];exact p),rfl,q _ I.fresh⟩
end L2
namespace Att
open PySem PySem.W PySem.Calls PyProof.Rows
def tO:∀c d,WellAll P h d (c.map WData.int)->IntsAre d c:=by
 intro c;induction c with
 |nil=>
  intro d w;cases w;exact .nil
 |cons n c e=>
  intro d w;cases w with
  |cons a b=>
   cases a;exact .cons _ _ (e _ b)
def II{l:OpenLaw}{n:Nat}(w:l.most=some n){P:Params}{h:Heap}{args:List WData}{c:List Value}(e:l.row.toRowW.claim.pre args=true)(k:WellAll P h c args):∃a o b,c=[Value.ref a]/\args=[WData.list (b.map WData.int)]/\h.get? a=some {cls:=.type "list",data:=.seq o.toArray}/\IntsAre o b/\b.length<=n:=by
 have m:=(pre_splitW e).1
 have p:l.pre.holds [] {args:=args}=true:=(pre_splitW e).2
 obtain⟨d,r,rfl,z,y⟩:=hasAllW_cons m;obtain rfl:=hasAllW_nil y;obtain⟨A,rfl,x⟩:=hasW_list z;obtain⟨b,rfl⟩:=items_int x;have f:b.length<=n:=by
  unfold OpenLaw.pre at p;have j:(WTm.not (.lt (.lit (.int (n:Int))) (.len (.arg 0)))).holds [] {args:=[.list (b.map .int)]}=true:=by
   have j:=(holds_andW p).1
   rw[w]at j;exact j
  have i:=condW_of j (w_not (w_lt w_lit (w_len_list (w_arg rfl))))
  grind
 cases k with
 |cons t s=>
  cases s;cases t with
  |list v g=>exact⟨_,_,b,rfl,rfl,v,tO b _ g,f⟩
def Kc(l:OpenLaw)(args:List WData):l.row.toRowW.claim.post args (.bool true) args=true:=
 postW_of  
  (show WShape.has [] _ .bool=true by first|rfl|decide|simp)
  (show (WTm.eq .res _).value [] {args:=args,res:=some _,after:=args}=some _ from w_eq_bool (w_res rfl) w_lit) rfl
def X7{l:OpenLaw}{n:Nat}{q:Program}{e:List Str}{L:(Q5)->Heap->Prop}{K:World->Heap->Prop}{d:DefRec}(Q:l.most=some n)(D:d.params.defaults=[])(t:∀w c b (x A:Q5) p o z y h a i v,
 Ground q e [] L w c x A b.heap->K w b.heap->
 b.heap.get? p=some o->o.data=.func (docDef d.name d.params d.body d.scope z y h)->b.heap.CodeRec y d.name->x d.name=some (.ref p)->
 b.heap.get? a=some {cls:=.type "list",data:=.seq i.toArray}->IntsAre i v->v.length<=n->b.gens=#[]->
 codeAny (model l.prog w) callerA (.call (.ref p) ⟨[.ref a],[]⟩) (λr u=>r=.ok (.ret (.bool true))/\OldK b.heap u.heap/\u.os=b.os/\AllBare u.gens) b):WalkO q e L K l.row.toRowW d [] (λf i=>PySem.call f i):=by
 intro w c b x A G Y p o z y h Z M P U E I C T J F as j H N B S;obtain rfl:Z=.none:=Dflts.none I D;obtain rfl:M=.none:=Dflts.noKw I;obtain⟨a,i,v,rfl,rfl,k,g,m⟩:=II Q j B;refine enter_call (Fb (t w c b x A p o z y h a i v G Y P (fd_plain U) E C k g m T) λr u O=>?_);obtain⟨rfl,X,W,V⟩:=O;exact⟨.inl ⟨.bool true,.bool true,[],rfl,λ_=>rfl,.bool true,Kc l _,λ_=>⟨List.Pairwise.nil,λ_ R=>(nomatch R)⟩⟩,X,W,V⟩
end Att
namespace L2
open PySem PySem.Spec PyProof.Rows
variable {x:Str}
def zI:∀ {a:List Value} {b:List Int},IntsAre a b->Vals (b.map V.int) a
 |_,_,.nil=>.nil
 |_,_,.cons n t h=>.cons ⟨t,rfl⟩ (zI h)
noncomputable def kD(s:Stmt):Arguments:=match s with
 |.FunctionDef _ a _ _ _ _ _ _ _ _=>a
 |_=>{posonlyargs:=[],args:=[],vararg:=none,kwonlyargs:=[],kw_defaults:=[],kwarg:=none,defaults:=[]}
noncomputable def fZ(s:Stmt):List Stmt:=match s with
 |.FunctionDef _ _ b _ _ _ _ _ _ _=>b
 |_=>[]
noncomputable def aK(s:Stmt):Scope:=match s with
 |.FunctionDef _ _ _ _ _ _ a _ _ _=>a
 |_=>{kind:=.function,names:=[],isGenerator:=false,isCoroutine:=false}
abbrev ZS:Yg:=λ_ _ _ _ _ _=>False
abbrev E0:XK:=λ_ _ _=>False
def Se:iE ZS X E0:=λ_ _ _ _ _ _ _ h=>h.elim
structure ZT (K:W.Frag) (x qual:Str) (st:Stmt) (f:Addr) (fd:FuncData):Prop where
 ex:∃(oc:Value) (od:Option Addr) (kV doc pm:Value) (an:Option Addr) (cdv ct:Value) (osl:Array (Option Value)),
  fd=W.fnOf x qual (kD st) (fZ st) (aK st) .none kV doc pm an cdv ct/\K.lookup f=some ⟨oc,od,.func fd,osl⟩/\W.codeIn K cdv qual=true
 kp:W.keepIn K (.ref f)=true
section
variable {P:Program} {w:World} {K:W.Frag} {mg:Q5} {base:Heap}
def ZT.ok{st:Stmt}{f:Addr}{l:FuncData}{N ps:List Str}{k:Nat}{sp:Sp}(F:ZT K x b st f l)(S:Z9 N ps (aK st))(g:∀d H Q E,sp d H Q E->d.length=ps.length)(e:∀c A a s H d Q E,Z2 k (A.deeper (envOfC b (aK st) s.heap.objs.size f c))->sp d H Q E->
 ∃t,Yw (iL ZS P w K mg base N b (aK st) f c A a s H E).W2 (fZ st) t/\t {nx:=λ_ r=>Q .non r,rt:=Q} (oC N d) H):Z8 P w K mg base ZS (k+1) f l ps sp:=by
 obtain⟨y,v,z,p,u,C,c,B,m,rfl,n,j⟩:=F.ex;refine SR n j S g λA a s H d Q E o i=>?_;obtain⟨t,h,q⟩:=e c A a s H d Q E o i;exact⟨t,h.W2,q⟩
def ZT.binds{st:Stmt}{f:Addr}{k:FuncData}{ps:List Str}(F:ZT K x a st f k)(h:∀g b e j c i d,d.length=ps.length->bindArgs (W.fnOf x a (kD st) (fZ st) (aK st) .none g b e j c i) ⟨d,[]⟩=pure (ps.zip d)):Binds K k ps []:=by
 obtain⟨o,n,g,b,e,j,c,i,l,rfl,p,m⟩:=F.ex;exact .all (h g b e j c i)
def Ub{st:Stmt}{f:Addr}{m:Value}{j i:Option Addr}{e:Array _}{g d pm b h:Value}(l:K.lookup f=some ⟨m,j,.func (W.fnOf x a (kD st) (fZ st) (aK st) .none g d pm i b h),e⟩)(c:W.codeIn K b a=true)(k:W.keepIn K (.ref f)=true):ZT K x a st f (W.fnOf x a (kD st) (fZ st) (aK st) .none g d pm i b h):=⟨⟨m,j,g,d,pm,i,b,h,e,rfl,l,c⟩,k⟩
end
section
variable {X:Cx}
def pv(i:Nat){a:Pos}(e:X.N[i]?=some x:=by rfl)(c:T6 X.env.scope x:=by first|exact Or.inl rfl|exact Or.inr (Or.inl rfl)|exact Or.inr (Or.inr rfl))(d:(x==("__debug__" : Str))=false:=by decide)(b:(x==("__classdict__" : Str))=false:=by decide):PE X (.Name x a) (QF i):=CL e c d b
end
def Lj{A B:Prop}(h:B):if false=true then A else B:=by grind
def LS{A B:Prop}(h:A):if true=true then A else B:=by grind
def eJ{c A B:Prop}[Decidable c](b:c->A)(a:¬c->B):if c then A else B:=by grind
def Z_(H a:Hp):Prop:=∀b o,H b=some o->a b=some o
def Z_.refl(H:Hp):Z_ H H:=λ_ _ h=>h
def Z_.trans(a:Z_ H e)(b:Z_ e d):Z_ H d:=λc o h=>b c o (a c o h)
def Z_.seq{K:W.Frag}{H b:Hp}{a:Addr}{xs:List V}(e:Z_ H b)(h:ZA K H a xs):ZA K b a xs:=by
 rcases h with(h|⟨o,h⟩)|h
 .exact .inl (.inl (e _ _ h))
 .exact .inl (.inr ⟨o,e _ _ h⟩)
 .exact .inr h
end L2
namespace FlT
open PySem PySem.Spec PyProof.Rows
def Yk(x y:Str):(x++y).cps.toList=x.cps.toList++y.cps.toList:=by
 show (x.cps++y.cps).toList=_
 simp
def YR{x y:Str}(h:x.cps.toList=y.cps.toList):x=y:=by
 obtain⟨⟨x⟩⟩:=x;simp_all
end FlT
namespace L2
open PySem PySem.Spec PyProof.Rows
variable {A:Around}{C Pt a b c dx ea f q:Addr}{D:Ends}{E:Q0}{H H' H1 Hc Hs:Hp}{K:W.Frag}{M:Model}{N:List Str}{P prog:Program}{Q:VK}{R:It->Hp->Prop}{S:Str->Hp->Prop}{T newId:String}{X:Cx}{apos cpos np pos tp:Pos}{base h h':Heap}{bmB us:List Value}{body:List Stmt}{cl:List (Str×Addr)}{d:Option Addr}{e iter l tg:Expr}{elts es ifs:List Expr}{env:Env}{ep i j k' n t' x1:Nat}{fd:FuncData}{fp ps:List Addr}{fs:List (List V)}{g:TG}{kvs:List (Key×V)}{lo:Int}{mg:Q5}{name qual x z:Str}{neg:Bool}{ns:List Int}{o oe:Obj}{outer:List Env}{params:Arguments}{y6:Q2}{pl:Sem Bool}{r:V->List V->Hp->VK->Prop}{s s1:Shared}{scope:Scope}{sp:Sp}{st:Stmt}{ta tk:TA}{te tl to tv:TE}{tests:TT}{ts:TS}{u:Value}{v y:V}{vs xs ys:List V}{w:World}{α:Type}
def PE.imp{t t':TE}(h:PE X e t)(i:∀U H Q,t' U H Q->t U H Q):PE X e t':=λa s U H Q I q=>h a s U H Q I (i U H Q q)
def ZK.imp{f:Value->Value->Sem Value}{r a:R2}(h:ZK X f r)(i:∀x y H Q,a x y H Q->r x y H Q):ZK X f a:=λb s U H x y v u Q I d c q=>h b s U H x y v u Q I d c (i x y H Q q)
def ZU.imp{f:Value}{r b:List V->Hp->VK->Prop}(h:ZU X f r)(i:∀a H Q,b a H Q->r a H Q):ZU X f b:=λc s U H a d Q I e q=>h c s U H a d Q I e (i a H Q q)
def YT.imp{id:String}{r b:V->List V->Hp->VK->Prop}(h:YT X id r)(i:∀x a H Q,b x a H Q->r x a H Q):YT X id b:=λc s U H x a v d Q I e f q=>h c s U H x a v d Q I e f (i x a H Q q)
def Xx.imp{r c:R2}(h:Xx X r)(i:∀x y H Q,c x y H Q->r x y H Q):Xx X c:=λa b d s U H x y v u Q I f e q g=>h a b d s U H x y v u Q I f e (i x y H Q q) g
def W9.imp{r c:V->Option Int->Option Int->Hp->VK->Prop}(h:W9 X r)(i:∀x a b H Q,c x a b H Q->r x a b H Q):W9 X c:=λd s U H x v f e a b g Q I j m l k q=>h d s U H x v f e a b g Q I j m l k (i x a b H Q q)
noncomputable def W0(z:Str):It:=⟨λi _=>i<z.cps.size,λi H x a=>a=H/\∃c,z.cps[i]?=some c/\x=.str ⟨#[c]⟩,λi _=>z.cps.size<=i⟩
def IM(z:Str)(t:Tok)(f:Addr):Turn P w K tg (W0 z) [f] f (λi h=>h.IsStrIter f "str_ascii_iterator" z t i) where
 mem:=by simp
 obj:=λi h a b g=>by
  have e:b=f:=by simpa using g
  subst e;obtain⟨o,e,c,d⟩:=a;exact⟨o,e,λv z=>by rw[d]at z;cases z⟩
 keep:=λi h n a k=>let ⟨o,L,r⟩:=a;⟨o,k f (by simp) o L,r⟩
 item:=by
  intro X u p x G i F s U H E I m a q;subst u p x;obtain⟨D,C,M,B,A,y⟩:=m f (by simp)
  have l:i<z.cps.size:=q
  refine wpAny_pyNext_ascii_item a (c:=z.cps[i]) (by simp[l]) λn j J=>?_
  have O:Inv X F U H {s with heap:=n,toks:=s.toks+1}:=I.turned (λb o g e=>(J.2 b g).trans e) D C B A y
  obtain⟨o,e,c,d⟩:=id j;exact⟨_,rfl,wD (s:={s with heap:=n,toks:=s.toks+1}) e c d (by decide) ⟨.str ⟨#[z.cps[i]]⟩,H,O,⟨_,rfl⟩,⟨rfl,_,by simp[l],rfl⟩,j,λb g=>(m b g).1⟩⟩
 done:=by
  intro X u p x G i F s U H E I m a q;subst u p x;obtain⟨D,C,M,B,A,y⟩:=m f (by simp)
  have l:z.cps.size<=i:=q
  exact wpAny_pyNext_ascii_end (I.ok.hd G) a (by simp[l]) λn N=>⟨rfl,I.turned (t':=s.toks) (λb o g e=>N b o g e) D C B A y⟩
 self:=λ_ _ _ _ _ a h=>wpAny_pyIter_striter_ascii a h
def LZ(z:Str)(t:Tok)(f:Addr):Turn P w K tg (W0 z) [f] f (λi h=>h.IsStrIter f "str_iterator" z t i) where
 mem:=by simp
 obj:=λi h a b g=>by
  have e:b=f:=by simpa using g
  subst e;obtain⟨o,e,c,d⟩:=a;exact⟨o,e,λv z=>by rw[d]at z;cases z⟩
 keep:=λi h n a k=>let ⟨o,L,r⟩:=a;⟨o,k f (by simp) o L,r⟩
 item:=by
  intro X u p x G i F s U H E I m a q;subst u p x;obtain⟨D,C,M,B,A,y⟩:=m f (by simp)
  have l:i<z.cps.size:=q
  refine wpAny_pyNext_wide_item a (c:=z.cps[i]) (by simp[l]) λn j J=>?_
  have O:Inv X F U H {s with heap:=n,toks:=s.toks+1}:=I.turned (λb o g e=>(J.2 b g).trans e) D C B A y
  obtain⟨o,e,c,d⟩:=id j;exact⟨_,rfl,wD (s:={s with heap:=n,toks:=s.toks+1}) e c d (by decide) ⟨.str ⟨#[z.cps[i]]⟩,H,O,⟨_,rfl⟩,⟨rfl,_,by simp[l],rfl⟩,j,λb g=>(m b g).1⟩⟩
 done:=by
  intro X u p x G i F s U H E I m a q;subst u p x;obtain⟨D,C,M,B,A,y⟩:=m f (by simp)
  have l:z.cps.size<=i:=q
  exact wpAny_pyNext_wide_end (I.ok.hd G) a (by simp[l]) λn N=>⟨rfl,I.turned (t':=s.toks) (λb o g e=>N b o g e) D C B A y⟩
 self:=λ_ _ _ _ _ a h=>wpAny_pyIter_striter_wide a h
def GD{k:TS}{U:St}(a:Nat->St->Hp->Prop)(t:a 0 U H)(hs:∀i c U H,z.cps.toList[i]?=some c->a i U H->g (.str ⟨#[c]⟩) U H λf j=>k {D with nx:=a (i+1),ct:=a (i+1),bk:=D.nx} f j)(n:∀U H,a z.cps.toList.length U H->D.nx U H):∃W:Nat->Nat->St->Hp->Prop,(∃m,W 0 m U H)/\∀i m U H,W i m U H->
 ((W0 z).stop i H/\D.nx U H)\/((W0 z).go i H/\∃N,(∀h b,N h b->∃l,l < m/\W (i+1) l h b)/\∀x b,(W0 z).WS i H x b->g x U b λf j=>k {D with nx:=N,ct:=N,bk:=D.nx} f j):=by
 have r:z.cps.toList.length=z.cps.size:=by simp
 rw[r]at n;refine⟨λi m U H=>m=z.cps.size-i/\i<=z.cps.size/\a i U H,⟨z.cps.size,by simp,Nat.zero_le _,t⟩,?_⟩
 rintro i m U H ⟨rfl,u,p⟩;by_cases d:i<z.cps.size
 .refine .inr ⟨d,a (i+1),λh b o=>⟨z.cps.size-(i+1),by ((try clear r u);omega),rfl,d,o⟩,λx b y=>?_⟩
  obtain⟨e,c,s,q⟩:=y;simp_all
 .have e:i=z.cps.size:=by ((try clear r);omega)
  subst e;exact .inl ⟨Ai _,n U H p⟩
section
variable {b:Expr}
def GR:V->Option Int->Option Int->Hp->VK->Prop:=λx a b H Q=>∃z,x=.str z/\z.length<=sizeLine/\Q (.str (Txt.slice z a b)) H
def MI:W9 X GR:=by
 intro n s U H x v p o w y r Q I g b m f h;obtain⟨z,rfl,a,q⟩:=h;obtain⟨t,rfl⟩:=g;refine⟨"str",_,PySem.F.slot_str_getitem.lookup,Iv _ _ _,?_⟩;cases m with
 |none=>
  cases f with
  |none=>exact Ge (l:=none) (u:=none) (st:=none) b rfl (post_val_or_str ⟨Bh (Txt.slice_le z _ _) a,λd k=>⟨.str _,H,I.tok _,⟨_,rfl⟩,q⟩⟩)
  |int j c=>exact Ge (l:=none) (u:=some (j,c)) (st:=none) b rfl (post_val_or_str ⟨Bh (Txt.slice_le z _ _) a,λd k=>⟨.str _,H,I.tok _,⟨_,rfl⟩,q⟩⟩)
 |int i e=>
  cases f with
  |none=>exact Ge (l:=some (i,e)) (u:=none) (st:=none) b rfl (post_val_or_str ⟨Bh (Txt.slice_le z _ _) a,λd k=>⟨.str (Txt.slice z (some i) none),H,I.tok _,⟨_,rfl⟩,q⟩⟩)
  |int j c=>exact Ge (l:=some (i,e)) (u:=some (j,c)) (st:=none) b rfl (post_val_or_str ⟨Bh (Txt.slice_le z _ _) a,λd k=>⟨.str (Txt.slice z (some i) (some j)),H,I.tok _,⟨_,rfl⟩,q⟩⟩)
def G6:V->List V->Hp->VK->Prop:=λx b H Q=>∃z y i a,x=.str z/\b=[.str y]/\Builtin.Str.occurrences z y 0 z.length 1=i::a/\Q (.int ((i:Nat):Int)) H
def Xg:YT X "str.index" G6:=by
 intro f s U H x g v j Q I b c h;obtain⟨z,y,i,a,rfl,rfl,e,q⟩:=h;obtain⟨t,rfl⟩:=b;obtain⟨u,rfl,d⟩:=c.one;obtain⟨k,rfl⟩:=d;exact SC.index e ⟨.int i,H,I.tok _,⟨_,rfl⟩,q⟩
def wO{ys:List Str}:∀ {a:List Value},Vals (ys.map V.str) a->StrsAre a ys:=by
 induction ys with
 |nil=>intro a r;cases r;exact .nil
 |cons n f d=>
  intro a r;cases r with
  |cons c b=>
   obtain⟨t,e⟩:=c;subst e;exact .cons n t (d b)
def ME(K:W.Frag):V->List V->Hp->VK->Prop:=λx b H Q=>∃z p a,x=.str z/\b=[.ref p]/\ZA K H p (a.map V.str)/\(a.map (·.length)).sum+a.length*z.length<=16777216/\Q (.str (Txt.join z a)) H
def WT:YT X "str.join" (ME X.K):=by
 intro j s U H x l v m Q I b c h;obtain⟨z,p,a,rfl,rfl,i,g,q⟩:=h;obtain⟨t,rfl⟩:=b;obtain⟨u,rfl,d⟩:=c.one;cases d;obtain⟨f,r,e,_⟩:=I.list i;exact join_list e.isList (by simpa using wO r) g λn k=>⟨.str _,H,I.tok _,⟨_,rfl⟩,q⟩
def yN:ZU X (.type "int") (λa H Q=>∃x n,a=[.str x]/\PySem.intText? x=some n/\x.length<=640/\Q (.int n) H):=by
 intro d s U H a e Q I r h;obtain⟨x,n,rfl,b,c,q⟩:=h;obtain⟨u,rfl,t,rfl⟩:=dP r;exact W.KIN.call_text b c ⟨.int n,H,I.tok _,⟨_,rfl⟩,q⟩
def Kr:∀ {a:List Value},Vals (bs.map V.bl) a->LSm.BoolsAre a bs:=by
 induction bs with
 |nil=>intro a r;cases r;exact .nil
 |cons n e d=>
  intro a r;cases r with
  |cons c b=>
   cases c;exact .cons n (d b)
def yD(w:X.calm=true):ZU X (.builtin "all") (λg H Q=>∃(p:Addr) (a:List Bool),g=[.ref p]/\ZA X.K H p (a.map V.bl)/\Q (.bl (a.all id)) H):=by
 intro y s U H g z Q I r h;obtain⟨p,a,rfl,o,q⟩:=h;obtain⟨u,rfl,m⟩:=dP r;cases m;obtain⟨c,l,n,D⟩:=I.list o;have j:=Kr l
 have f:=n.isList
 have d:p<s.heap.objs.size:=by obtain⟨_,e,_⟩:=f;exact Ax e
 refine call_all_walk (Fs f ?_);refine⟨s.heap.objs.size,[s.heap.objs.size,p],[s.heap.objs.size],c.toArray.size,_,_,λi=>(a[i]?).getD true,rfl,Walks.list (A:=X.A.in1) (I.ok.hd w) _ p (Bm d) c.toArray,
  ⟨⟨_,Ay _ rfl,rfl,rfl⟩,f.push _⟩,λi v C G J x k=>?_,λF B t=>?_⟩
 .obtain⟨b,e,rfl⟩:=j.get i v (by simpa using x)
  simp only[e,Option.getD_some]at k;exact Fp k
 .have e:((List.range c.toArray.size).all λi=>(a[i]?).getD true)=a.all id:=by
   rw[Ba,j.length];exact LSm.range_all a
  rw[e];exact⟨.bl (a.all id),H,I.kept (LSm.kept_iter t),rfl,q⟩
noncomputable def kA(xs ys:List V):Bool:=xs.length==ys.length&&(List.range xs.length).all λj=>X3 (xs.getD j .non) (ys.getD j .non)
def Vals.Y4(r:Vals xs us) _:RelV (xs.getD j .non) us[j]:=by
 have d:=r.length
 have a:j<xs.length:=by omega
 obtain⟨u,b,c⟩:=r.get (Aa a);simp_all
def jR(h:xs.all cA=true)(j:Nat):cA (xs.getD j .non)=true:=by
 rw[Ac];cases e:xs[j]? with
 |none=>rfl
 |some x=>exact Bz.mp h x (Am e)
def RP(K:W.Frag)(neg:Bool):R2:=λx y H Q=>∃p q b a,x=.ref p/\y=.ref q/\ZA K H p b/\ZA K H q a/\b.all cA=true/\a.all cA=true/\Q (.bl (if neg then !kA b a else kA b a)) H
def xB(h:xs.length≠ys.length):kA xs ys=false:=by
 unfold kA;rw[Dc.mpr h,Hw]
def nP(h:xs.length=ys.length):kA xs ys=(List.range xs.length).all λj=>X3 (xs.getD j .non) (ys.getD j .non):=by
 unfold kA;simp_all
def Kn(o:X.A.units<cLine):ZK X (compareOp .Eq) (RP X.K false):=by
 intro J s U H x y v u Q I w t h;obtain⟨p,q,c,b,rfl,rfl,B,z,F,E,k⟩:=h;cases w;cases t;obtain⟨d,l,n,_⟩:=I.list B;obtain⟨a,i,m,_⟩:=I.list z;have G:=l.length
 have L:=i.length
 by_cases r:c.length=b.length
 .refine SeqAt.eq_listAt (e:=λj=>X3 (c.getD j .non) (b.getD j .non)) n.isList m.isList (by simp only[List.size_toArray];((try clear o);omega)) o (λj D C=>?_) ?_
  .have g:j<d.length:=by simpa using D
   have f:j<a.length:=by simpa using C
   simpa using rW (A:=X.A.in1) (s:=s) (l.Y4 g) (i.Y4 f) (jR F j) (jR E j)
  .refine⟨.bl (kA c b),H,I,?_,k⟩;rw[nP r];simp only[List.size_toArray,<-G];rfl
 .refine SeqAt.eq_list_lengthsAt n.isList m.isList (by grind) o ⟨.bl (kA c b),H,I,?_,k⟩
  rw[xB r];rfl
def DS(o:X.A.units<cLine):ZK X (compareOp .NotEq) (RP X.K true):=by
 intro L s U H x y v u Q I z t h;obtain⟨p,q,c,b,rfl,rfl,C,B,G,F,k⟩:=h;cases z;cases t;obtain⟨d,l,n,_⟩:=I.list C;obtain⟨a,i,m,_⟩:=I.list B;have J:=l.length
 have M:=i.length
 by_cases r:c.length=b.length
 .refine SeqAt.RcNeAt.lists (e:=λj=>X3 (c.getD j .non) (b.getD j .non)) n.isList m.isList (by simp only[List.size_toArray];((try clear o);omega)) o (λj E D=>?_) X.prog X.w _ _ ?_
  .have g:j<d.length:=by simpa using E
   have f:j<a.length:=by simpa using D
   simpa using rW (A:=X.A.in1) (s:=s) (l.Y4 g) (i.Y4 f) (jR G j) (jR F j)
  .refine⟨.bl (!kA c b),H,I,?_,k⟩;rw[nP r];simp only[List.size_toArray,<-J];rfl
 .refine SeqAt.RcNeAt.lists_lengths n.isList m.isList (by simp only[List.size_toArray,bne_iff_ne];((try clear o);omega)) o X.prog X.w _ _ ⟨.bl (!kA c b),H,I,?_,k⟩
  rw[xB r];rfl
end
noncomputable def RH:Option HO->Option (List V)
 |some (.lst a)=>some a
 |some (.frz _ (.lst a))=>some a
 |_=>none
noncomputable def Z4(H:Hp)(a:Addr):Option (List V):=RH (H a)
def bE(h:Z4 H a=some xs):ZA K H a xs:=by
 unfold Z4 RH at h;split at h
 .cases h;exact .inl (.inl (by (assumption)))
 .cases h;exact .inl (.inr ⟨_,by assumption⟩)
 .cases h
def aM(h:H a=some (.lst xs)):Z4 H a=some xs:=by unfold Z4;rw[h];rfl
def cG:Z4 (upd H a (.lst xs)) a=some xs:=aM aE
def Sm{o:HO}(h:b≠a):Z4 (upd H a o) b=Z4 H b:=by unfold Z4;rw[aH h]
def aO{H:Hp}(e:Z_ H H')(h:Z4 H a=some xs):Z4 H' a=some xs:=by
 unfold Z4 at h ⊢;cases q:H a with
 |none=>rw[q]at h;cases h
 |some o=>rwa[e a o q,<-q]
def aG(h:H p=none)(o:HO):Z_ H (upd H p o):=λb u q=>by rwa[aH (bI q h)]
noncomputable def gO(H:Hp)(a:Addr):Option (List V):=match H a with|some (.lst xs)=>some xs|_=>none
def bL(h:H a=some (.lst xs)):gO H a=some xs:=by unfold gO;rw[h]
def kX(h:gO H a=some xs):H a=some (.lst xs):=by
 unfold gO at h;grind
def dY:gO (upd H a (.lst xs)) a=some xs:=bL aE
def uC{o:HO}(h:b≠a):gO (upd H a o) b=gO H b:=by unfold gO;rw[aH h]
noncomputable def nV(H:Hp)(a:Addr):Option (List V):=match H a with|some (.tup xs)=>some xs|_=>none
def cW(h:H a=some (.tup xs)):nV H a=some xs:=by unfold nV;rw[h]
def uA(h:nV H a=some xs):H a=some (.tup xs):=by
 unfold nV at h;grind
def nH:nV (upd H a (.tup xs)) a=some xs:=cW aE
section
variable {a b c:Expr} {ta tb:TE}
def VD(i:Nat):TE:=λU H Q=>match U[i]? with|some (some v)=>Q v H|_=>False
def mv(i:Nat)(d:X.N[i]?=some x:=by rfl)(b:T6 X.env.scope x:=by first|exact Or.inl rfl|exact Or.inr (Or.inl rfl)|exact Or.inr (Or.inr rfl))(c:(x==("__debug__" : Str))=false:=by decide)(a:(x==("__classdict__" : Str))=false:=by decide):PE X (.Name x pos) (VD i):=(pv i d b c a).imp λU H Q q=>by
 unfold VD at q;split at q
 .exact⟨_,by assumption,q⟩
 grind
def mI(g:Int->Int->V):R2:=λx y H Q=>match x,y with|.int i,.int j=>Q (g i j) H|_,_=>False
def uR{g:Int->Int->V}{x:V}(q:mI g x y H Q):WE g x y H Q:=by
 unfold mI at q;split at q
 .exact⟨_,_,rfl,rfl,q⟩
 simp_all
def VN(C:Int->Int->Prop)(g:Int->Int->V):R2:=λx y H Q=>match x,y with|.int i,.int j=>C i j/\Q (g i j) H|_,_=>False
def R7{C:Int->Int->Prop}{g:Int->Int->V}{x:V}(q:VN C g x y H Q):rI C g x y H Q:=by
 unfold VN at q;split at q
 .exact⟨_,_,rfl,rfl,q.1,q.2⟩
 simp_all
def VL:R2:=λx y H Q=>match x,y with
 |.int i,.int j=>Q (.int (i+j)) H
 |.str z,.str y=>z.length+y.length<=sizeLine/\Q (.str (z++y)) H
 |.ref p,.ref q=>(match gO H p,gO H q with
  |some b,some a=>b.length+a.length<=sizeLine/\∀r,H r=none->Q (.ref r) (upd H r (.lst (b++a)))
  |_,_=>False)
 |_,_=>False
def bQ:ZK X (binaryOp .Add) VL:=by
 intro a s U H x y v u Q I c b q;unfold VL at q;split at q
 .exact EG a s U H _ _ v u Q I c b ⟨_,_,rfl,rfl,q⟩
 .exact My a s U H _ _ v u Q I c b ⟨_,_,rfl,rfl,q.1,q.2⟩
 .split at q
  .exact CD a s U H _ _ v u Q I c b ⟨_,_,_,_,rfl,rfl,kX (by assumption),kX (by (assumption)),q.1,q.2⟩
  simp_all
 .exact q.elim
def lL:ZK X (binaryOp .Sub) (mI λi j=>.int (i-j)):=V3.imp λ_ _ _ _ q=>uR q
def lM:ZK X (binaryOp .Mult) (VN WR λi j=>.int (i*j)):=V5.imp λ_ _ _ _ q=>R7 q
def dC:ZK X (binaryOp .Mod) (VN (λ_ j=>0<j) λi j=>.int (i%j)):=Wf.imp λ_ _ _ _ q=>R7 q
def fM:ZK X (binaryOp .FloorDiv) (VN Pw λi j=>.int (i / j)):=WQ.imp λ_ _ _ _ q=>R7 q
def xS:ZK X (compareOp .Lt) (mI λi j=>.bl (decide (i<j))):=U9.imp λ_ _ _ _ q=>uR q
def Nr:ZK X (compareOp .LtE) (mI λi j=>.bl (decide (i<=j))):=Vr.imp λ_ _ _ _ q=>uR q
def We:ZK X (compareOp .Gt) (mI λi j=>.bl (decide (j<i))):=Vo.imp λ_ _ _ _ q=>uR q
def Qt:ZK X (compareOp .GtE) (mI λi j=>.bl (decide (j<=i))):=U3.imp λ_ _ _ _ q=>uR q
def Sa:V->Hp->VK->Prop:=λx H Q=>match x with|.int i=>Q (.int (-i)) H|_=>False
def Um:UK X (unaryOp .USub) Sa:=λa s U H x v Q I b q=>by
 unfold Sa at q;split at q
 .exact Kq a s U H _ v Q I b ⟨_,rfl,q⟩
 simp_all
def UA:R2:=λx y H Q=>T3 x y=true/\Q (.bl (decide (x=y))) H
def mV:ZK X (compareOp .Eq) UA:=Ly
def PJ:R2:=λx y H Q=>T3 x y=true/\Q (.bl (!decide (x=y))) H
def Of:ZK X (compareOp .NotEq) PJ:=Kp
def VO(neg:Bool):R2:=λx y H Q=>match x,y with
 |.ref p,.ref q=>(match Z4 H p,Z4 H q with
  |some b,some a=>b.all cA=true/\a.all cA=true/\Q (.bl (if neg then !kA b a else kA b a)) H
  |_,_=>False)
 |_,_=>False
def Rn{x:V}(q:VO neg x y H Q):RP K neg x y H Q:=by
 unfold VO at q;split at q
 .split at q
  .exact⟨_,_,_,_,rfl,rfl,bE (by assumption),bE (by (assumption)),q.1,q.2.1,q.2.2⟩
  simp_all
 .exact q.elim
def Ob(a:X.A.units<cLine):ZK X (compareOp .Eq) (VO false):=(Kn a).imp λ_ _ _ _ q=>Rn q
def G1(a:X.A.units<cLine):ZK X (compareOp .NotEq) (VO true):=(DS a).imp λ_ _ _ _ q=>Rn q
def SU:R2:=λx y H Q=>match y with|.non=>Q (.bl (decide (x=.non))) H|_=>False
def U_:ZK X (compareOp .Is) SU:=V_.imp λ_ y _ _ q=>by
 unfold SU at q;grind
def RK:R2:=λx y H Q=>match y with|.non=>Q (.bl (!decide (x=.non))) H|_=>False
def uU:ZK X (compareOp .IsNot) RK:=WH.imp λ_ y _ _ q=>by
 unfold RK at q;grind
noncomputable def subIn(y x:Str):Bool:=!(Builtin.Str.occurrences x y 0 x.length 1).isEmpty
def nI(x:Str)(c:Nat):subIn ⟨#[c]⟩ x=decide (c∈x.cps.toList):=PySem.StrLaws.found_one x c
def TM(neg:Bool):R2:=λx y H Q=>match x,y with|.str i,.str j=>Q (.bl (if neg then !subIn i j else subIn i j)) H|_,_=>False
def Vf:ZK X (compareOp .In) (TM false):=Xu.imp λ_ _ _ _ q=>by
 unfold TM at q;split at q
 .exact⟨_,_,rfl,rfl,q⟩
 simp_all
def VX(neg:Bool):R2:=λx y H Q=>match y with
 |.ref p=>(match Z4 H p with|some a=>cA x=true/\a.all cA=true/\Q (.bl (if neg then !W3 x a else W3 x a)) H|none=>False)
 |_=>False
def O4{x:V}(q:VX neg x y H Q):Sf K neg x y H Q:=by
 unfold VX at q;split at q
 .split at q
  .exact⟨_,_,rfl,.inl (bE (by (assumption))),q.1,q.2.1,q.2.2⟩
  simp_all
 .exact q.elim
def HE:ZK X (compareOp .In) (VX false):=Xt.imp λ_ _ _ _ q=>O4 q
def OI:ZK X (compareOp .NotIn) (VX true):=Ys.imp λ_ _ _ _ q=>O4 q
def mB(Q:Bool->Hp->Prop):VK:=λx H=>match x with|.bl k=>Q k H|_=>False
def OZ{Q:Bool->Hp->Prop}{x:V}(q:mB Q x H):∃k,x=.bl k/\Q k H:=by
 unfold mB at q;split at q
 .exact⟨_,rfl,q⟩
 simp_all
def Qj(t:TE):TT:=λU H Q=>t U H (mB Q)
def bA{r:R2}(p:ZK X (compareOp op) r)(A:PE X a ta)(w:PE X b tb)(t:behindInMarks op b=false):PT X (.Compare a [op] [b] pos) (Qj (VQ r ta tb)):=by
 intro d s U H Q I h;refine wpAny_isTrue_Compare1 (ZY (A d s U H _ I h) λv g ⟨x,G,D,l,o⟩=>ZY (w d g U G _ D o) λu f ⟨y,F,C,j,n⟩=>
  ZY (p d f U F x y v u _ C l j n) λc J ⟨z,E,B,i,q⟩=>?_) t
 obtain⟨k,e,m⟩:=OZ q;subst e;cases i;exact Fp ⟨E,B,m⟩
def Vc(Q:Bool->Hp->Prop):VK:=λx H=>match x with
 |.non=>Q false H
 |.bl k=>Q k H
 |.int i=>Q (i != 0) H
 |.str y=>y.length<=sizeLine/\Q ((y.length:Int) != 0) H
 |.ref p=>(match Z4 H p with
  |some a=>Q (!a.isEmpty) H
  |none=>(match H p with|some (.dK kvs)=>Q (!kvs.isEmpty) H|_=>False))
 |_=>False
def IC{Q:Bool->Hp->Prop}{x:V}(q:Vc Q x H):∃k,N9 K x H k/\Q k H:=by
 unfold Vc at q;split at q
 .exact⟨_,rfl,q⟩
 .exact⟨_,rfl,q⟩
 .exact⟨_,rfl,q⟩
 .exact⟨_,⟨q.1,rfl⟩,q.2⟩
 .split at q
  .exact⟨_,.inl ⟨_,bE (by (assumption)),rfl⟩,q⟩
  .split at q
   .exact⟨_,.inr (.inr ⟨_,by assumption,rfl⟩),q⟩
   simp_all
 .exact q.elim
def PM(t:TE):TT:=λU H Q=>t U H (Vc Q)
def gH(i:PE X a ta)(g:∀b,isTrue a X.env b=(do let v <-b;standAt a.pos;holding [v] (truthy v)):=by intro _;rfl):PT X a (PM ta):=by
 intro c s U H Q I h;refine isTrue_plain (ZY (i c s U H _ I h) λv d ⟨x,k,j,e,f⟩=>J6 c d U k x v Q j e (IC f)) (g _)
variable {rest:List Expr}
def Px(d b:TE):TE:=λU H Q=>d U H (mB λc a=>if c=true then b U a Q else Q (.bl false) a)
def UM(l:PE X a ta)(k:PE X (.BoolOp .And (b::rest) pos) tb):PE X (.BoolOp .And (a::b::rest) pos) (Px ta tb):=by
 intro e s U H Q I h;refine BoolOp_and (ZY (l e s U H _ I h) λv i μ=>?_);obtain⟨x,g,f,j,d⟩:=μ;obtain⟨c,rfl,d⟩:=OZ d;cases j;refine Fp ?_;cases c with
 |true=>exact k e i U g Q f d
 |false=>exact⟨.bl false,g,f,rfl,d⟩
def WW:R2:=λx y H Q=>match x,y with
 |.str z,.int i=>z.length<=sizeLine/\(match YY z.cps.toList i with|some c=>Q (.str ⟨#[c]⟩) H|none=>False)
 |.ref p,.int i=>(match Z4 H p with
  |some a=>(match YY a i with|some v=>Q v H|none=>False)
  |none=>(match nV H p with
   |some a=>(match YY a i with|some v=>Q v H|none=>False)
   |none=>False))
 |_,_=>False
def K_{x:V}(q:WW x y H Q):Pn K x y H Q:=by
 unfold WW at q;split at q
 .obtain⟨a,q⟩:=q;split at q
  .exact .inr (.inr ⟨_,_,_,rfl,rfl,a,by assumption,q⟩)
  .exact q.elim
 .split at q
  .split at q
   .exact .inl ⟨_,_,_,_,rfl,rfl,bE (by (assumption)),by assumption,q⟩
   .exact q.elim
  .split at q
   .split at q
    .exact .inr (.inl ⟨_,_,_,_,rfl,rfl,Yb.of (uA (by assumption)),by assumption,q⟩)
    simp_all
   .exact q.elim
 .exact q.elim
def bN:Xx X WW:=V8.imp λ_ _ _ _ q=>K_ q
def Ud:V->Option Int->Option Int->Hp->VK->Prop:=λx a b H Q=>match x with
 |.str z=>z.length<=sizeLine/\Q (.str (Txt.slice z a b)) H
 |.ref p=>(match Z4 H p with|some c=>∀r,H r=none->Q (.ref r) (upd H r (.lst (kS c a b)))|none=>False)
 |_=>False
def Vt:W9 X Ud:=(Yq.or MI).imp λ_ _ _ _ _ q=>by
 unfold Ud at q;split at q
 .exact .inr ⟨_,rfl,q.1,q.2⟩
 .split at q
  .exact .inl ⟨_,_,rfl,bE (by (assumption)),q⟩
  simp_all
 .exact q.elim
def Ur(Q:Option Int->Hp->Prop):VK:=λx a=>match x with|.int i=>Q (some i) a|_=>False
def Om(t:TE):TO:=λU H Q=>t U H (Ur Q)
def fI(h:PE X e te):PO X (some e) (Om te):=by
 intro b s U H Q I d;refine ZY (h b s U H _ I d) λu i μ=>?_;obtain⟨x,g,f,c,a⟩:=μ;unfold Ur at a;split at a
 .obtain⟨t,rfl⟩:=c;exact⟨_,g,f,.int _ t,a⟩
 simp_all
def bU:List V->Hp->VK->Prop:=λa H Q=>match a with
 |[.str z]=>z.length<=sizeLine/\Q (.int z.length) H
 |[.ref p]=>(match Z4 H p with
  |some a=>Q (.int a.length) H
  |none=>(match nV H p with|some a=>Q (.int a.length) H|none=>False))
 |_=>False
def cO:ZU X (.builtin "len") bU:=W4.imp λ_ _ _ q=>by
 unfold bU at q;split at q
 .exact⟨_,_,rfl,⟨q.1,rfl⟩,q.2⟩
 .split at q
  .exact⟨_,_,rfl,.inl ⟨_,bE (by assumption),rfl⟩,q⟩
  .split at q
   .exact⟨_,_,rfl,.inr ⟨_,Yb.of (uA (by (assumption))),rfl⟩,q⟩
   simp_all
 .exact q.elim
def UR:List V->Hp->VK->Prop:=λa H Q=>match a with
 |[.int i]=>Q (.int i) H
 |[.str x]=>(match PySem.intText? x with|some n=>x.length<=640/\Q (.int n) H|none=>False)
 |_=>False
def TZ:ZU X (.type "int") UR:=(Xw.or yN).imp λ_ _ _ q=>by
 unfold UR at q;split at q
 .exact .inl (.inl ⟨_,rfl,q⟩)
 .split at q
  .exact .inr ⟨_,_,rfl,by assumption,q.1,q.2⟩
  simp_all
 .exact q.elim
def UQ:List V->Hp->VK->Prop:=λb H Q=>match b with
 |[.ref p]=>(match Z4 H p with
  |some a=>∀l,H l=none->Q (.ref l) (upd H l (.lst a))
  |none=>(match nV H p with|some a=>∀l,H l=none->Q (.ref l) (upd H l (.lst a))|none=>False))
 |_=>False
def iC:ZU X (.type "list") UQ:=Yl.imp λ_ _ _ q=>by
 unfold UQ at q;split at q
 .split at q
  .exact⟨_,_,rfl,.inl (bE (by (assumption))),q⟩
  .split at q
   .exact⟨_,_,rfl,.inr (Yb.of (uA (by assumption))),q⟩
   simp_all
 .exact q.elim
def yL(T:String)(x:V)(H:Hp)(P:Prop):Prop:=match x with
 |.str _=>T="str"/\P
 |.ref p=>(match Z4 H p with|some _=>T="list"/\P|none=>False)
 |_=>False
def xO{K:W.Frag}{x:V}{P:Prop}(q:yL T x H P):P9 K T x H/\P:=by
 unfold yL at q;split at q
 .exact⟨q.1,q.2⟩
 .split at q
  .exact⟨.inl ⟨q.1,_,bE (by (assumption))⟩,q.2⟩
  simp_all
 .exact q.elim
def OJ(T:String)(r:V->List V->Hp->VK->Prop)(c:TE)(t:TA):TE:=λU H Q=>c U H λx a=>yL T x a (t U a λb d=>r x b d Q)
variable {o:Expr} {t:TA} {id:String}
def cM(B:PlainAttrs T)(d:Slot T name id)(i:typeOf (.builtin id)=pure (.type "method_descriptor"))(D:YT X id r)(C:PE X o to)(E:PA X (e::es) t)(c:attributeBase o name X.env (eval o X.env)=eval o X.env:=by rfl)(f:((backTo cpos (starEach (e::es) X.env)).all (λx=>!x.1)&&(backToKw cpos (keywordEach [] X.env)).all (λx=>x.1.isSome)
 && decide ((e::es).length+([]:List Keyword).length+(if ([]:List Keyword).isEmpty then 0 else 1)<30))=true:=by rfl)(b:(apos.endLine==cpos.line)=true:=by rfl)(hs:starEach (e::es) X.env=(false,eval e X.env)::starEach es X.env:=by rfl)(a:(backTo cpos (starEach es X.env)).any (·.1)=false:=by rfl):PE X (.Call (.Attribute o name apos) (e::es) [] cpos) (OJ T r to t):=by
 intro g s U H Q I h;refine Hy c f b rfl (ZY (C g s U H _ I h) λv w μ=>?_);obtain⟨x,M,l,j,q⟩:=μ;obtain⟨p,A⟩:=xO (K:=X.K) q;obtain⟨G,F⟩:=Sb l j p;refine⟨T,id,B,d,i,G,F,?_⟩;have k:=E cpos g w U M _ l A
 rw[hs]at k ⊢;refine Du (by show (false || (backTo cpos (starEach es X.env)).any (·.1))=false;rw[a]<;>rfl) (Gz ?_)
 exact ZY k λn u ⟨m,L,J,y,z⟩=>D g u U L x m v n Q J j y z
def Uo:V->List V->Hp->VK->Prop:=λx b H Q=>match x,b with
 |.ref l,[y]=>(match gO H l with|some a=>a.length<sizeLine/\Q .non (upd H l (.lst (a++[y])))|none=>False)
 |_,_=>False
def yS:YT X "list.append" Uo:=YT.imp  zF λ_ _ _ _ q=>by
 unfold Uo at q;split at q
 .split at q
  .exact⟨_,_,_,rfl,rfl,kX (by (assumption)),q.1,q.2⟩
  simp_all
 .exact q.elim
def Ux:V->List V->Hp->VK->Prop:=λx a H Q=>match x,a with
 |.str z,[.str y]=>(match Builtin.Str.occurrences z y 0 z.length 1 with|i::_=>Q (.int ((i:Nat):Int)) H|[]=>False)
 |_,_=>False
def Kl:YT X "str.index" Ux:=Xg.imp λ_ _ _ _ q=>by
 unfold Ux at q;split at q
 .split at q
  .exact⟨_,_,_,_,rfl,rfl,by assumption,q⟩
  simp_all
 .exact q.elim
noncomputable def oZ:List V->Option (List Str)
 |[]=>some []
 |.str z::r=>(oZ r).map (z::·)
 |_=>none
def DN(ys:List Str):oZ (ys.map V.str)=some ys:=by
 induction ys with
 |nil=>rfl
 |cons y r a=>rw[As,oZ,a];rfl
def zE:∀ {b:List V} {a:List Str},oZ b=some a->b=a.map V.str
 |[],_,h=>by cases h;rfl
 |.str z::r,_,h=>by
  rw[oZ]at h;cases e:oZ r with
  |none=>rw[e]at h;cases h
  |some l=>rw[e]at h;cases h;rw[zE e];rfl
def Ut:V->List V->Hp->VK->Prop:=λx c H Q=>match x,c with
 |.str z,[.ref p]=>(match Z4 H p with
  |some b=>(match oZ b with|some a=>(a.map (·.length)).sum+a.length*z.length<=16777216/\Q (.str (Txt.join z a)) H|none=>False)
  |none=>False)
 |_,_=>False
def K4:YT X "str.join" Ut:=WT.imp λ_ _ _ _ q=>by
 unfold Ut at q;split at q
 .split at q
  .split at q
   .have e:=zE (by assumption)
    subst e;exact⟨_,_,_,rfl,rfl,bE (by (assumption)),q.1,q.2⟩
   .exact q.elim
  simp_all
 .exact q.elim
noncomputable def oV:List V->Option (List Bool)
 |[]=>some []
 |.bl z::r=>(oV r).map (z::·)
 |_=>none
def BP(ys:List Bool):oV (ys.map V.bl)=some ys:=by
 induction ys with
 |nil=>rfl
 |cons y r a=>rw[As,oV,a];rfl
def zK:∀ {b:List V} {a:List Bool},oV b=some a->b=a.map V.bl
 |[],_,h=>by cases h;rfl
 |.bl z::r,_,h=>by
  rw[oV]at h;cases e:oV r with
  |none=>rw[e]at h;cases h
  |some l=>rw[e]at h;cases h;rw[zK e];rfl
def Uz:List V->Hp->VK->Prop:=λb H Q=>match b with
 |[.ref p]=>(match Z4 H p with
  |some a=>(match oV a with|some c=>Q (.bl (c.all _root_.id)) H|none=>False)
  |none=>False)
 |_=>False
def Ul(a:X.calm=true):ZU X (.builtin "all") Uz:=(yD a).imp λ_ _ _ q=>by
 unfold Uz at q;split at q
 .split at q
  .split at q
   .have e:=zK (by assumption)
    subst e;exact⟨_,_,rfl,bE (by (assumption)),q⟩
   .exact q.elim
  simp_all
 .exact q.elim
end
def Vi(R:Str->Hp->Prop):VK:=λx H=>match x with|.str z=>R z H|_=>False
def FA{R:Str->Hp->Prop}{x:V}(q:Vi R x H):∃z,x=.str z/\R z H:=by
 unfold Vi at q;split at q
 .exact⟨_,rfl,q⟩
 simp_all
def Ym(o:Option (List V))(P:Prop):Prop:=match o with|some _=>P|none=>False
def fE(R:Addr->Hp->Prop):VK:=λx H=>match x with|.ref a=>R a H|_=>False
def Kx{R:Addr->Hp->Prop}{x:V}(q:fE R x H):∃a,x=.ref a/\R a H:=by
 unfold fE at q;split at q
 .exact⟨_,rfl,q⟩
 simp_all
section
variable {a b:Expr} {ta tb:TE} {p:Pos}
def QW(a:TE):TI:=λU H R=>a U H (Vi λz b=>R (W0 z) b)
def mF(m:PE X l tl):PI X tg l (QW tl):=by
 intro f s U H R I h;refine ZY (m f s U H _ I h) λv a μ=>?_;obtain⟨x,d,c,j,k⟩:=μ;obtain⟨z,rfl,q⟩:=FA k;obtain⟨t,rfl⟩:=j;have i:∀b∈[a.heap.objs.size],nX X f d b:=λb n=>by
  have e:b=a.heap.objs.size:=by simp_all
  subst e;exact c.YE (Ai _) (c.Z3.fresh (Ai _))
 cases g:z.cps.all (· < 128)
 .refine wpAny_pyIter_wide g ?_;exact⟨a.heap.objs.size,[a.heap.objs.size],_,_,d,rfl,c.kept (t':=a.toks) λb o e=>Aj _ e,LZ z t _,⟨_,Ay _ rfl,rfl,rfl⟩,i,q⟩
 .refine wpAny_pyIter_ascii g ?_;exact⟨a.heap.objs.size,[a.heap.objs.size],_,_,d,rfl,c.kept (t':=a.toks) λb o e=>Aj _ e,IM z t _,⟨_,Ay _ rfl,rfl,rfl⟩,i,q⟩
def QX(K:W.Frag)(c:TE):TI:=λU H R=>c U H (fE λa b=>Ym (Z4 b a) (R (Xl K a) b))
def bT(k:PE X l tl):PI X tg l (QX X.K tl):=by
 intro f s U H R I h;refine ZY (k f s U H _ I h) λv c ⟨x,n,d,g,i⟩=>?_;obtain⟨a,rfl,q⟩:=Kx i;cases g;unfold Ym at q;split at q
 .rename_i r e
  obtain⟨j,u,p,w⟩:=d.list (bE e);refine Fs p.isList ?_;refine⟨c.heap.objs.size,[c.heap.objs.size],_,_,n,rfl,d.kept (t':=c.toks) λb o e=>Aj _ e,LO a _,⟨_,Ay _ rfl,rfl,rfl⟩,λb m=>?_,q⟩;have e:b=c.heap.objs.size:=by simp_all
  subst e;exact d.YE (Ai _) (d.Z3.fresh (Ai _))
 .exact q.elim
def xN(R:Int->Hp->Prop):List V->Hp->Prop:=λa H=>match a with|[.int j]=>R j H|_=>False
def uB{R:Int->Hp->Prop}(q:xN R vs H):∃j,vs=[.int j]/\R j H:=by
 unfold xN at q;split at q
 .exact⟨_,rfl,q⟩
 simp_all
def Vm(R:Int->Int->Hp->Prop):List V->Hp->Prop:=λa H=>match a with|[.int i,.int j]=>R i j H|_=>False
def HQ{R:Int->Int->Hp->Prop}(q:Vm R vs H):∃i j,vs=[.int i,.int j]/\R i j H:=by
 unfold Vm at q;split at q
 .exact⟨_,_,rfl,q⟩
 simp_all
def N7(a:TA):TI:=λU H R=>a U H (xN λj b=>(-(2^62)<=j/\j<2^62)/\R (Xq 0 j.toNat) b)
def OL(a:TA):TI:=λU H R=>a U H (Vm λi j b=>(-(2^62)<=i/\i<2^62/\-(2^62)<=j/\j<2^62)/\R (Xq i (j-i).toNat) b)
def jV{b:TA}(k:Gl X "range")(i:X.mg "range"=none)(l:PA X [a] b)(hs:starEach [a] X.env=[(false,eval a X.env)]:=by rfl):PI X tg (.Call (.Name "range" p) [a] [] pos) (N7 b):=by
 intro c s U H R I h;refine Call_ (jA I k i boot_range (Dq (ZY (l pos c s U H _ I h) λv w μ=>?_) hs rfl));obtain⟨u,x,o,f,g⟩:=μ;obtain⟨j,e,⟨n,m⟩,q⟩:=uB g;subst e;cases f with
 |cons r d=>
  cases d;obtain⟨t,rfl⟩:=r;exact call_range_1 (N6 o (by (exact Int.natCast_nonneg _)) (by (exact Int.natCast_nonneg _)) n m (by simp_all))
def Lh{f:TA}(o:Gl X "range")(n:X.mg "range"=none)(u:PA X [a,b] f)(hs:starEach [a,b] X.env=[(false,eval a X.env),(false,eval b X.env)]:=by rfl)(c:starEach [b] X.env=[(false,eval b X.env)]:=by rfl):PI X tg (.Call (.Name "range" p) [a,b] [] pos) (OL f):=by
 intro g s U H R I h;refine Call_ (jA I o n boot_range (Dq (ZY (u pos g s U H _ I h) λB D μ=>?_) (by rw[hs,c]) (by rw[c];rfl)));obtain⟨A,E,z,k,m⟩:=μ
 obtain⟨i,j,e,⟨y,x,w,v⟩,q⟩:=HQ m;subst e;cases k with
 |cons r d=>
  cases d with
  |cons l d=>
   cases d;obtain⟨t,rfl⟩:=r;obtain⟨C,rfl⟩:=l;exact call_range_2 (N6 z y x w v q)
def WI(J:It)(g:TG)(d:TS)(D:Ends)(U:St)(h:Hp):Prop:=∃W:Nat->Nat->St->Hp->Prop,(∃m,W 0 m U h)/\∀i m U H,W i m U H->
 (J.stop i H/\D.nx U H)\/(J.go i H/\∃N,(∀c a,N c a->∃b,b < m/\W (i+1) b c a)/\∀x a,J.WS i H x a->g x U a λe f=>d {D with nx:=N,ct:=N,bk:=D.nx} e f)
def QK(wi:TI)(g:TG)(a:TS):TS:=λD U H=>wi U H λJ b=>WI J g a D U b
def cP{a:TS}(b:PassesOwn (model X.prog X.w) X.A X.env X.xe)(e:X.calm=true)(c:PI X tg iter wi)(d:PG X tg g)(f:Yw X body a)(hs:∀x,foldedSetIterable iter X.env x=pure x:=by intro _;rfl):PS X (.For tg iter body [] pos) (QK wi g a):=Kv  b e c d f hs
section
variable {tb:TS} {U:St}
def fP(a:Nat->St->Hp->Prop)(f:a 0 U H)(b:∀i U H,i<=xs.length->a i U H->Z4 H c=some xs)(hs:∀i x U H,xs[i]?=some x->a i U H->g x U H λh j=>tb {D with nx:=a (i+1),ct:=a (i+1),bk:=D.nx} h j)(e:∀U H,a xs.length U H->D.nx U H):WI (Xl K c) g tb D U H:=
 KJ a f (λi U H d p=>bE (b i U H d p)) hs e
def RU(a:Nat->St->Hp->Prop)(d:a 0 U H)(hs:∀i c U H,z.cps.toList[i]?=some c->a i U H->g (.str ⟨#[c]⟩) U H λe f=>tb {D with nx:=a (i+1),ct:=a (i+1),bk:=D.nx} e f)(b:∀U H,a z.cps.toList.length U H->D.nx U H):WI (W0 z) g tb D U H:=
 GD a d hs b
def qE(a:Nat->St->Hp->Prop)(c:a 0 U H)(hs:∀i U H,i<n->a i U H->g (.int (lo+i)) U H λd e=>tb {D with nx:=a (i+1),ct:=a (i+1),bk:=D.nx} d e)(b:∀U H,a n U H->D.nx U H):WI (Xq lo n) g tb D U H:=
 HK a c hs b
end
end
section
variable {U:St} {QB:Bool->Hp->Prop} {QA:List V->Hp->Prop} {QO:Option Int->Hp->Prop} {t u:TS} {ta tb:TE} {tt tu:TT} {tA:TA} {r:R2} {x:V} {i j:Int} {z':Str} {p:Addr} {k:Nat}
def gG(h:t {D with nx:=u D} U H):TN t u D U H:=h
def C6(h:D.nx U H):P2 D U H:=h
def LQ{c:TT}(h:c U H λb a=>if b=true then t D U a else u D U a):O2 c t u D U H:=h
def E6(h:te U H D.rt):Pd te D U H:=h
def CN(h:te U H λ_ a=>D.nx U a):N0 te D U H:=h
def Kt(h:te U H λx a=>g x U a D.nx):Vp te g D U H:=h
def M7{a:TS}(h:wi U H λJ b=>WI J g a D U b):QK wi g a D U H:=h
def RN{a:St->Hp->Prop}(h:a (U.set k (some v)) H):mX k v U H a:=h
def DO{c:St->Hp->Prop}{b:TE}{a:TY}(h:to U H λo f=>b U f λi e=>a o i v e λd=>c U d):QN to b a v U H c:=h
def JE(e:U[k]?=some (some v))(h:Q v H):VD k U H Q:=by unfold VD;rwa[e]
def CQ(h:Q v H):tC v U H Q:=h
def GS(h:ta U H λx b=>tb U b λy a=>r x y a Q):VQ r ta tb U H Q:=h
def Lq{a:V->Hp->VK->Prop}(h:ta U H λx b=>a x b Q):QR a ta U H Q:=h
def Ex(h:QA [] H):V7 U H QA:=h
def L0{a:TA}(h:ta U H λx d=>a U d λb c=>QA (x::b) c):VC ta a U H QA:=h
def Na(h:tA U H λa b=>a.length<=sizeLine/\∀p,b p=none->Q (.ref p) (upd b p (.lst a))):QL tA U H Q:=h
def Jp(h:tA U H λa b=>a.length<=sizeLine/\∀p,b p=none->Q (.ref p) (upd b p (.tup a))):Rl tA U H Q:=h
def AQ{E:XK}(h:tA U H λa b=>sp (a++[]) b Q E):TX sp [] E tA U H Q:=h
def CI{a:List V->Hp->VK->Prop}(h:tA U H λb c=>a b c Q):UX a tA U H Q:=h
def HW{c:V->Option Int->Option Int->Hp->VK->Prop}{a b:TO}(h:te U H λx f=>a U f λl e=>b U e λu d=>c x l u d Q):Qc c te a b U H Q:=h
def CU(h:QO none H):Qs U H QO:=h
def JS(h:te U H (Ur QO)):Om te U H QO:=h
def Jt(h:QO (some i) H):Ur QO (.int i) H:=h
def CJ{a:V->List V->Hp->VK->Prop}(h:to U H λx b=>yL T x b (tA U b λc d=>a x c d Q)):OJ T a to tA U H Q:=h
def HL{P:Prop}(h:P):yL "str" (.str z) H P:=⟨rfl,h⟩
def Ny{P:Prop}(e:Z4 H p=some xs)(h:P):yL "list" (.ref p) H P:=by unfold yL;simp only[e];exact⟨trivial,h⟩
def GI(h:te U H (mB QB)):Qj te U H QB:=h
def GY(h:te U H (Vc QB)):PM te U H QB:=h
def M_{b:Bool}(h:QB b H):mB QB (.bl b) H:=h
def BJ{b:Bool}(h:QB b H):Vc QB (.bl b) H:=h
def L3(h:tt U H λc a=>if c=true then tu U a QB else QB false a):Ph tt tu U H QB:=h
def Kg(h:tt U H λc a=>if c=true then QB true a else tu U a QB):Qy tt tu U H QB:=h
def JH(h:tt U H λc a=>QB (!c) a):Q9 tt U H QB:=h
def Iy(h:ta U H (mB λc a=>if c=true then tb U a Q else Q (.bl false) a)):Px ta tb U H Q:=h
def LP(h:tt U H λc a=>if c=true then ta U a Q else tb U a Q):QC tt ta tb U H Q:=h
def A7{g:Int->Int->V}(h:Q (g i j) H):mI g (.int i) (.int j) H Q:=h
def Mi{C:Int->Int->Prop}{g:Int->Int->V}(c:C i j)(h:Q (g i j) H):VN C g (.int i) (.int j) H Q:=⟨c,h⟩
def B8(h:Q (.int (i+j)) H):VL (.int i) (.int j) H Q:=h
def A3(c:z.length+z'.length<=sizeLine)(h:Q (.str (z++z')) H):VL (.str z) (.str z') H Q:=⟨c,h⟩
def jK(e:gO H p=some xs)(a:gO H q=some ys)(c:xs.length+ys.length<=sizeLine)(h:∀r,H r=none->Q (.ref r) (upd H r (.lst (xs++ys)))):VL (.ref p) (.ref q) H Q:=by
 unfold VL;simp_all
def Me(h:Q (.bl (decide (i=j))) H):UA (.int i) (.int j) H Q:=⟨rfl,by
 rwa[show decide _=decide (i=j) by simp]⟩
def B4(h:Q (.bl (decide (z=z'))) H):UA (.str z) (.str z') H Q:=⟨rfl,by
 rwa[show decide _=decide (z=z') by simp]⟩
def Kw(h:Q (.bl (!decide (i=j))) H):PJ (.int i) (.int j) H Q:=⟨rfl,by
 rwa[show decide _=decide (i=j) by simp]⟩
def Tr{neg:Bool}(e:Z4 H p=some xs)(b:Z4 H q=some ys)(f:xs.all cA=true)(a:ys.all cA=true)(h:Q (.bl (if neg then !kA xs ys else kA xs ys)) H):VO neg (.ref p) (.ref q) H Q:=by
 unfold VO;simp only[e,b];exact⟨f,a,h⟩
def Js(h:Q (.bl (decide (x=.non))) H):SU x .non H Q:=h
def Nj(h:Q (.bl (!decide (x=.non))) H):RK x .non H Q:=h
def DM(h:Q (.bl (if neg then !subIn z z' else subIn z z')) H):TM neg (.str z) (.str z') H Q:=h
def TR{neg:Bool}(e:Z4 H p=some xs)(f:cA x=true)(a:xs.all cA=true)(h:Q (.bl (if neg then !W3 x xs else W3 x xs)) H):VX neg x (.ref p) H Q:=by
 unfold VX;simp only[e];exact⟨f,a,h⟩
def vD{c:Nat}(l:z.length<=sizeLine)(e:YY z.cps.toList i=some c)(h:Q (.str ⟨#[c]⟩) H):WW (.str z) (.int i) H Q:=by
 unfold WW;simp_all
def bX(e:Z4 H p=some xs)(a:YY xs i=some v)(h:Q v H):WW (.ref p) (.int i) H Q:=by
 unfold WW;simp_all
def HP{a b:Option Int}(e:Z4 H p=some xs)(h:∀r,H r=none->Q (.ref r) (upd H r (.lst (kS xs a b)))):Ud (.ref p) a b H Q:=by
 unfold Ud;simp_all
def Ls(l:z.length<=sizeLine)(h:Q (.int z.length) H):bU [.str z] H Q:=⟨l,h⟩
def JQ(e:Z4 H p=some xs)(h:Q (.int xs.length) H):bU [.ref p] H Q:=by unfold bU;simp only[e];exact h
def T7(e:PySem.intText? z=some i)(l:z.length<=640)(h:Q (.int i) H):UR [.str z] H Q:=by unfold UR;simp only[e];exact⟨l,h⟩
def J5(e:Z4 H p=some xs)(h:∀l,H l=none->Q (.ref l) (upd H l (.lst xs))):UQ [.ref p] H Q:=by unfold UQ;simp only[e];exact h
def IZ(e:gO H p=some xs)(l:xs.length<sizeLine)(h:Q .non (upd H p (.lst (xs++[v])))):Uo (.ref p) [v] H Q:=by unfold Uo;simp only[e];exact⟨l,h⟩
def AX{a:List Nat}(e:Builtin.Str.occurrences z z' 0 z.length 1=k::a)(h:Q (.int ((k:Nat):Int)) H):Ux (.str z) [.str z'] H Q:=by unfold Ux;simp only[e];exact h
def AK(e:Z4 H p=some (ss.map V.str))(l:(ss.map (·.length)).sum+ss.length*z.length<=16777216)(h:Q (.str (Txt.join z ss)) H):Ut (.str z) [.ref p] H Q:=by
 unfold Ut;simp only[e,DN];exact⟨l,h⟩
def Uk{bs:List Bool}(e:Z4 H p=some (bs.map V.bl))(h:Q (.bl (bs.all id)) H):Uz [.ref p] H Q:=by
 unfold Uz;simp only[e,BP];exact h
def FD(h:tl U H (fE λa b=>Ym (Z4 b a) (R (Xl K a) b))):QX K tl U H R:=h
def KA{R:Addr->Hp->Prop}(h:R p H):fE R (.ref p) H:=h
def Dl{P:Prop}(e:Z4 H p=some xs)(h:P):Ym (Z4 H p) P:=by unfold Ym;simp only[e];exact h
def AV(h:tl U H (Vi λz a=>R (W0 z) a)):QW tl U H R:=h
def D7{R:Str->Hp->Prop}(h:R z H):Vi R (.str z) H:=h
def DL(h:tA U H (xN λj a=>(-(2^62)<=j/\j<2^62)/\R (Xq 0 j.toNat) a)):N7 tA U H R:=h
def D5(h:tA U H (Vm λi j a=>(-(2^62)<=i/\i<2^62/\-(2^62)<=j/\j<2^62)/\R (Xq i (j-i).toNat) a)):OL tA U H R:=h
def IW{R:Int->Hp->Prop}(h:R i H):xN R [.int i] H:=h
def GU{R:Int->Int->Hp->Prop}(h:R i j H):Vm R [.int i,.int j] H:=h
def SS{o:V}{a:Hp->Prop}(e:gO H p=some xs)(b:Xo xs.length i=some k)(h:a (upd H p (.lst (xs.set k v)))):N_ (.ref p) (.int i) v H a:=⟨_,_,_,_,rfl,rfl,kX e,b,h⟩
end
def B6{xs:List α}{i:Int}(c:0<=i)(b:i<xs.length):∃v,YY xs i=some v/\xs[i.toNat]?=some v:=by
 have a:i.toNat<xs.length:=by omega
 have e:i=((i.toNat:Nat):Int):=by ((try clear a b);omega)
 have q:=aW (Aa a)
 rw[<-e]at q;exact⟨xs[i.toNat],q,Aa a⟩
def RQ{i:Int}(b:0<=i)(a:i<n):Xo n i=some i.toNat:=by
 unfold Xo;simp_all
def bM(h:n<=100000):n<=sizeLine:=Bh h (by decide)
def bG(h:n<=100000):n<sizeLine:=Nat.lt_of_le_of_lt h (by decide)
def ZR(P:Program)(w:World)(K:W.Frag)(b:Str->Option Value)(a:Heap)(k:Nat)(x:Str)(ps:List Str)(sp:Sp):Prop:=
 ∃f c,Z8 P w K b a ZS k f c ps sp/\b x=some (.ref f)/\W.keepIn K (.ref f)=true/\Binds K c ps []
section
variable {k:Nat} {ps:List Str} {p:Pos} {t:TA} {i:Int}
def aU(c:ZR X.prog X.w X.K X.mg X.base k x ps sp)(g:Z2 k' X.A)(i:k<=k')(j:Gl X x)(n:PA X (e::es) t)(d:(x==("__debug__" : Str))=false:=by decide)(l:starEach (e::es) X.env=(false,eval e X.env)::starEach es X.env:=by rfl)(a:(backTo pos (starEach es X.env)).any (·.1)=false:=by rfl):PE X (.Call (.Name x p) (e::es) [] pos) (TX sp [] E0 t):=by
 obtain⟨f,o,F,h,b,m⟩:=c;exact QD F (g.mono i) j h b m .nil Se n d l a
def eQ(a:Gl X x)(h:∃t,X.mg x=some (.str z t))(b:(x==("__debug__" : Str))=false:=by decide):PE X (.Name x pos) (tC (.str z)):=by
 obtain⟨t,h⟩:=h;exact Tx a h ⟨t,rfl⟩ b
def qR{z:Int}(a:Gl X x)(h:∃t,X.mg x=some (.int z t))(b:(x==("__debug__" : Str))=false:=by decide):PE X (.Name x pos) (tC (.int z)):=by
 obtain⟨t,h⟩:=h;exact Tx a h ⟨t,rfl⟩ b
def QT{b c:Option Int}(e:ZA K H a xs)(h:∀r,H r=none->Q (.ref r) (upd H r (.lst (kS xs b c)))):OP K (.ref a) b c H Q:=⟨a,xs,rfl,e,h⟩
def Nh(e:ZA K H a xs)(b:YY xs i=some v)(h:Q v H):TQ K (.ref a) (.int i) H Q:=⟨a,xs,i,v,rfl,rfl,e,b,h⟩
end
def bR:bootBuiltins "len"=some (.builtin "len"):=by decide +kernel
def F9:bootBuiltins "min"=some (.builtin "min"):=by decide +kernel
def Ug:bootBuiltins "all"=some (.builtin "all"):=by decide +kernel
def Tj:bootBuiltins "sum"=some (.builtin "sum"):=by decide +kernel
def TU:bootBuiltins "int"=some (.type "int"):=by decide +kernel
def dW:bootBuiltins "list"=some (.type "list"):=by decide +kernel
def FF:bootBuiltins "dict"=some (.type "dict"):=by decide +kernel
def MC:bootBuiltins "range"=some (.type "range"):=by decide +kernel
def J8{A B:Prop}(h:B):if (!true)=true then A else B:=h
def IE{A B:Prop}(h:A):if (!false)=true then A else B:=h
def cY{j:Nat}{a:Pos}{b:List Expr}{t:TA}(h:PA X b t):PA X (.Constant (.str x) j a::b) (VC (tC (.str x)) t):=aA fO h rfl
def Jo{R:Result->Shared->Prop}{p a:Expr}{C q:Value}(I:Nat->Shared->Prop)(t:∀n s,I n s->wpAny (model prog w) A (pyNext C) (λr e=>match r with
 |none=>R (.ok .next) e
 | some v=>wpAny (model prog w) A (letOwnedTupleGo a C v) (λ_ d=>wpAny (model prog w) A (assign a env v) (λ_ j=>
     wpAny (model prog w) A (forIn ifs true λc r=>if r=true then do let u <-isTrue c env (eval c env);pure (ForInStep.yield u) else pure (ForInStep.yield r)) (λu b=>
      if u=true then wpAny (model prog w) A (eval p env) (λx i=>
       wpAny (model prog w) A (call (.builtin "list.append") [q,x]) (λ_ g=>∃m,m<n/\I m g) (λ_ _=>False) i) (λ_ _=>False) b
      else ∃m,m<n/\I m b) (λ_ _=>False) j) (λ_ _=>False) d) (λ_ _=>False) e) (λ_ _=>False) s)(n:Nat)(h:I n s):codeAny (model prog w) A (.compLoop (.ListComp p [⟨a,iter,ifs,0⟩] scope pos) 0 C q env) R s:=by
 refine codeAny_loop rfl I (λn s D=>?_) n h;show wpAny _ A ((compTurn (.ListComp p [⟨a,iter,ifs,0⟩] scope pos) 0 C q env).onRaise (λx=>do noteFrame x env;theTreesLotGoes x)) _ _ s
 refine wpAny_noted ?_;rw[compTurn_list];refine Ae (Fv (Ae (Co (t n s D) (λr e l=>?_) λ_ _ f=>f.elim)));cases r with
 |none=>exact Au l
 |some v=>
  refine Ae (Co l (λ_ d o=>?_) λ_ _ f=>f.elim);refine Ae (Co o (λ_ j B=>Ae (Co B (λu b k=>?_) λ_ _ f=>f.elim)) λ_ _ f=>f.elim);cases u with
  |false=>exact Au ⟨rfl,k⟩
  |true=>
   exact Ae (Ae (Co k (λx i z=>Ae (Co z (λ_ g y=>Au (Au ⟨rfl,y⟩)) λ_ _ f=>f.elim)) λ_ _ f=>f.elim))
noncomputable def Ye(X:Cx)(N:List Str)(a:Scope)(b:List (Str×Addr))(C:Addr)(s₀:Shared)(H₀:Hp)(ex:List Addr):Cx:=
 {prog:=X.prog,w:=X.w,K:=X.K,mg:=X.mg,base:=X.base,A:=X.A,N:=N,s₀:=s₀,H₀:=H₀,env:=compEnvC a b C X.env,outer:=X.stack,stack:=X.stack,ex:=ex,fn:=λ_=>false,calm:=X.calm,pn:=[],xe:=λ_ _=>False}
structure Xs (X:Cx) (N:List Str) (scope:Scope) (cl:List (Str×Addr)) (vals:St->St):Prop where
 clos:closureFor scope X.env=pure cl
 sub:∀x c,cl.lookup x=some c->X.env.cells.lookup x=some c
 has:∀x,((relabel scope X.env).names.lookup x=some .cell\/(relabel scope X.env).names.lookup x=some .free)->∃c,cl.lookup x=some c
 len:∀U,(vals U).length=N.length
 val:∀U (i:Nat) x v,N[i]?=some x->(vals U)[i]?=some (some v)->∃(j:Nat),X.N[j]?=some x/\U[j]?=some (some v)/\X.env.scope.names.lookup x=some .cell/\(∃c,cl.lookup x=some c)/\(relabel scope X.env).names.lookup x=some .cell
def PF(X:Cx)(a:List Expr)(t:TT):Prop:=∀b s (U:St) H Q,Inv X b U H s->t U H Q->
 wpAny (model X.prog X.w) X.A (forIn a true λc r=>if r=true then do let d <-isTrue c X.env (eval c X.env);pure (ForInStep.yield d) else pure (ForInStep.yield r)) (TP X b U Q) X.xe s
def Pm:TT:=λ_ H Q=>Q true H
def cX:PF X [] Pm:=λa s U H Q I q=>wpAny_tests_nil ⟨H,I,q⟩
def iZ{c:Expr}{t:TT}(h:PT X c t):PF X [c] t:=λa s U H Q I q=>wpAny_tests_one (h a s U H Q I q)
section
variable {U:St} {H2:Hp} {s2:Shared} {vals:St->St}
def HD{f:Heap}{t1:Nat}(I:Inv X y6 U H2 s2)(d:Xs X N scope cl vals)(g:scope.kind=.function)(n:∀b∈fp,nX X y6 H2 b)(w:∀b∈fp,b<s2.heap.objs.size)(t:f.Ns s2.heap.objs.size λ_=>none)(q:Heap.SameBut s2.heap.objs.size (s2.heap.push {cls:=.type "dict",data:=.dict #[]}) f):Inv (Ye X N scope cl s2.heap.objs.size s2 H2 fp) [] (vals U) H2 {s2 with heap:=f,toks:=t1}:=by
 have a:∀b o,s2.heap.get? b=some o->f.get? b=some o:=λb o e=>(q.2 b (Bm (Ax e))).trans (Aj _ e)
 have K:=I.Z3.fresh (Ai _)
 refine⟨⟨I.ok.mod,g,I.ok.glob,I.ok.blt,Ai _,λx y c f B=>I.ok.inj x y c (d.sub x c f) (d.sub y c B),d.has,(λx c h=>nomatch h),I.ok.hd,I.ok.frames,.inl rfl,λb k=>⟨Bm (w b k),λx c e=>(n b k).2.2.2.2.1 x c (d.sub x c e)⟩,
  I.bs,Nat.le_trans I.ok.XI I.sz,λb o e k=>?_,λb k G=>?_,I.stack,I.Y7⟩,rfl,I.bare,Un.kept a,⟨_,t,λi x v O M _=>?_⟩,λx c e=>?_,K,λx c e=>I.ZO x c (d.sub x c e),λp H=>absurd (show p∈([]:Q2) from H) (by simp),I.Z3.kept a,d.len U⟩
 .rcases (n b k).2.2.2.1 with z|z
  .exact I.ok.X_ b o e z
  .exact absurd (Bd (Ax e) (Bh I.ok.XI z)) (De _)
 .rcases Bc.mp (I.Yn b G) with z|z
  .exact(n b k).2.1 z
  .exact(n b k).2.2.1 z
 .obtain⟨j,f,B,E,⟨c,D⟩,L⟩:=d.val U i x v O M;obtain⟨m,P,J⟩:=I.loc;obtain⟨u,r,l⟩:=J j x v f B (.inr (.inl E));refine⟨u,r,.inr ⟨.inl L,c,D,?_⟩⟩;rcases l with⟨z,_⟩|⟨_,Q,F,z⟩
  .have C:X.env.scope.names.lookup x=some .local:=z
   rw[E]at C;cases C
  .rw[d.sub x c D]at F;cases F;obtain⟨o,s,A⟩:=z;exact⟨o,a _ o s,A⟩
 .obtain⟨v,o,s,A⟩:=I.cell x c (d.sub x c e);exact⟨v,o,a _ o s,A⟩
def F0{A:St}{s':Shared}{a:Heap}{d:Q2}(I:Inv X y6 U H2 s2)(t:∀b∈fp,nX X y6 H2 b)(g:Inv (Ye X N scope cl s2.heap.objs.size s2 H2 fp) d A H' s')(i:Heap.SameBut s2.heap.objs.size s'.heap a):Inv X y6 U H' {s' with heap:=a}:=by
 have r:Un (YZ X.stack) (s2.heap.objs.size::fp) H2 H' s2.heap s'.heap:=g.base.mono (λ_ z=>z) λb z=>Ak _ z
 have y:H' s2.heap.objs.size=none:=g.free
 have k:∀b o,b≠s2.heap.objs.size->s'.heap.get? b=some o->a.get? b=some o:=λb o l e=>(i.2 b l).trans e
 have p:Un (YZ X.stack) (s2.heap.objs.size::fp) H' H' s'.heap a:=⟨λb o e _ _ f=>k b o (λz=>f (by simp[z])) e,λb o e _ _ f=>⟨o.slots,k b o (λz=>f (by simp[z])) e⟩,λ_ _ _ n _=>n,
  λb o e f=>⟨o,k b o (λz=>f (by simp[z])) e⟩,λ_ _ e=>e,λ_ _ _ e=>e,λb B e=>⟨#[],by rw[e];simp⟩⟩
 have j:=λb u e=>by
  have m:∀c v,H' c=some v->c≠s2.heap.objs.size:=λc v e z=>by rw[z,y]at e;cases e
  refine(g.Z3 b u e).ZC (λc v x q=>k c v ?_ q) (λ_ q=>q) λ_ _ q=>q;grind
 refine I.Wu (s':={s' with heap:=a}) (ch:=s2.heap.objs.size::fp) g.os (r.trans p) j g.bare λb l=>?_
 have q:nX X y6 H2 b:=by
  rcases Bc.mp l with z|z
  .subst z;exact I.YE (Ai _) (I.Z3.fresh (Ai _))
  .exact t b z
 exact⟨q.2.2.2.1,q.2.1,q.2.2.2.2.1,q.2.2.2.2.2⟩
end
def Wk(a U:St):Prop:=a.length=U.length/\∀(i:Nat) v,a[i]?=some (some v)->U[i]?=some (some v)
def Wk.refl(U:St):Wk U U:=⟨rfl,λ_ _ h=>h⟩
def Wk.set{a U:St}{k:Nat}(h:a[k]?=some none)(w:Wk a U):Wk a (U.set k (some v)):=by
 refine⟨by rw[Cy];exact w.1,λi u e=>?_⟩
 have b:k≠i:=λz=>by grind
 rw[Ee b];exact w.2 i u e
def eF(g:TG)(a:TT)(o:TE)(h:St)(Q:VK)(J:It)(l:Hp):Prop:=∀D,l D=none->∃W:Nat->Nat->Hp->Prop,(∃m,W 0 m (upd l D (.lst [])))/\∀i m d,W i m d->
 (J.stop i d/\Q (.ref D) d)\/(J.go i d/\∀x n,J.WS i d x n->g x h n λf p=>Wk h f/\a f p λb k=>if b=true then
  o f k λy j=>∃e,j D=some (.lst e)/\e.length<sizeLine/\∃c,c < m/\W (i+1) c (upd j D (.lst (e++[y]))) else ∃c,c < m/\W (i+1) c k)
def SW(wi:TI)(g:TG)(a:TT)(c:TE)(b:St->St):TE:=λU H Q=>wi U H λJ d=>eF g a c (b U) Q J d
def N5{U:St}{M:Hp}{a:Shared}{f:St->St}{it:Addr}{tn:Nat->Heap->Prop}{J:It}{a5:Expr}{RR:Value->Addr->Result->Shared->Prop}(I2:Inv X y6 U M a)(T:Turn X.prog X.w X.K tg J fp it tn)(b4:tn 0 a.heap)(f2:∀b∈fp,nX X y6 M b)(hc:X.calm=true)(ck:Xs X N scope cl f)(a2:∀y∈scope.names,y.2≠.cell)(O:scope.kind=.function)(hg:∀C B F ex,PG (Ye X N scope cl C B F ex) tg g)(ht:∀C B F ex,PF (Ye X N scope cl C B F ex) ifs tests)(he:∀C B F ex,PE (Ye X N scope cl C B F ex) a5 te)(h:eF g tests te (f U) Q J M)(c7:∀D C L k m,L.heap.Ns C m->Q (.ref D) k->(∀a3,Heap.SameBut C L.heap a3->Inv X y6 U k {L with heap:=a3})->nX X y6 k C->RR (.ref D) C (.ok .next) L):wpAny (model X.prog X.w) X.A (newList []) (λb6 a8=>wpAny (model X.prog X.w) X.A (newFunctionEnv scope X.env.globals cl [] X.env.qual none .none (some X.env)) (λY z=>
 codeAny (model X.prog X.w) X.A (.compStart (.ListComp a5 [⟨tg,iter,ifs,0⟩] scope pos) 0 (.ref it) b6 {Y with scope:=relabel scope X.env}) (RR b6 Y.locals) z) E a8) E a:=by
 have hD:=I2.Z3.fresh (Ai _)
 obtain⟨W,⟨m0,w0⟩,a7⟩:=h _ hD;have c6:∀b∈fp,b<a.heap.objs.size:=λb l=>by
  obtain⟨o,e,_⟩:=T.obj 0 _ b4 b l;exact Ax e
 refine Hz ?_
 -- the list is laid
 have I3:=
  I2.WK (ys:=[]) (its:=[]) (t':=a.toks) .nil (Ct _)
 have f3:∀b∈fp,nX X y6 (upd M a.heap.objs.size (.lst [])) b:=λb l=>⟨by rw[aH (Bm (c6 b l))];exact(f2 b l).1,(f2 b l).2⟩
 have a1:tn 0 (a.heap.push {cls:=.type "list",dict:=none,data:=.seq ([]:List Value).toArray}):=T.keep _ _ _ b4 λb _ o e=>Aj _ e
 generalize c4:({a with heap:=a.heap.push {cls:=.type "list",dict:=none,data:=.seq ([]:List Value).toArray}}:Shared)=j at I3 ⊢
 have e3:j.heap=a.heap.push {cls:=.type "list",dict:=none,data:=.seq ([]:List Value).toArray}:=by rw[<-c4]
 rw[<-e3]at a1;have V:∀b∈fp,b<j.heap.objs.size:=λb l=>by
  obtain⟨o,e,_⟩:=T.obj 0 _ a1 b l;exact Ax e
 refine wpAny_newFunctionEnv a2 (by intro y hy;simp at hy) (λG R I=>?_) O
 have c5:=R
 have I4:=HD (t1:=j.toks) I3 ck O f3 V c5 I
 have c2:∀b o,j.heap.get? b=some o->G.get? b=some o:=λb o e=>(I.2 b (Bm (Ax e))).trans (Aj _ e)
 have b3:=T.keep _ _ _ a1 λb _ o e=>c2 b o e
 have S:∀ z,z={ j with heap:=G,toks:=j.toks }->
     codeAny (model X.prog X.w) X.A (.compLoop (.ListComp a5 [⟨tg,iter,ifs,0⟩] scope pos) 0 (.ref it) (.ref a.heap.objs.size) (compEnvC scope cl j.heap.objs.size X.env))
      (RR (.ref a.heap.objs.size) j.heap.objs.size) z:=by
  rintro z rfl;have a4:∀ {k:Hp},(∀b∈fp,k b=none)->∀b∈fp,nX (Ye X N scope cl j.heap.objs.size j (upd M a.heap.objs.size (.lst [])) fp) [] k b:=λhn b l=>
   ⟨hn b l,Nat.ne_of_lt (V b l),λhs=>I4.ok.X6 b l hs,.inl l,λx c e=>(I4.ok.VI b l).2 x c e,λp hp=>absurd (show p∈([]:Q2) from hp) (by simp)⟩
  refine Jo (λn L=>∃i k,Inv (Ye X N scope cl j.heap.objs.size j (upd M a.heap.objs.size (.lst [])) fp) [] (f U) k L/\tn i L.heap/\(∀b∈fp,k b=none)/\W i n k) ?_ m0
   ⟨0,_,I4,b3,λb l=>(f3 b l).1,w0⟩
  rintro n s5 ⟨i,H5,I5,b2,b5,w5⟩;rcases a7 i n H5 w5 with⟨a9,q⟩|⟨go,b1⟩
  .refine ZY (T.done (Ye X N scope cl j.heap.objs.size j (upd M a.heap.objs.size (.lst [])) fp) rfl rfl rfl hc i [] s5 (f U) H5 (λ_ _=>False) I5 (a4 b5) b2 a9) λr s6 ⟨hr,I6⟩=>?_;subst hr;obtain⟨m,hn,_⟩:=id I6.loc;exact c7 _ _ s6 H5 m hn q (λa3 c3=>F0 I3 f3 I6 c3) (I3.YE (Ai _) I6.free)
  .refine ZY (T.item (Ye X N scope cl j.heap.objs.size j (upd M a.heap.objs.size (.lst [])) fp) rfl rfl rfl hc i [] s5 (f U) H5 (λ_ _=>False) I5 (a4 b5) b2 go) λr s6 ⟨u,hr,h6⟩=>?_;subst hr;refine ZY h6 λ_ s7 μ=>?_;obtain⟨x,H7,I7,r7,y7,Z,c8⟩:=μ;have d1:=I7.pinned (a4 c8) (T.obj _ _ Z)
   refine ZY (hg _ _ _ _ _ s7 (f U) H7 x u _ d1 r7 (b1 x H7 y7)) λ_ s8 μ=>?_;obtain⟨U8,H8,I8,a6,q8⟩:=μ;refine ZY (ht _ _ _ _ _ s8 U8 H8 _ I8 q8) λb s9 μ=>?_;obtain⟨H9,I9,q9⟩:=μ;have P:∀ {m':Nat} {L:Shared} {k:Hp},Inv (Ye X N scope cl j.heap.objs.size j (upd M a.heap.objs.size (.lst [])) fp) ([]++rA fp s7.heap) U8 k L->m' < n->W (i+1) m' k->
       ∃m,m<n/\∃i k,Inv (Ye X N scope cl j.heap.objs.size j (upd M a.heap.objs.size (.lst [])) fp) [] (f U) k L/\tn i L.heap/\(∀b∈fp,k b=none)/\W i m k:=fun {m' L k} J7 hm w7=>by
    refine⟨m',hm,i+1,k,(J7.weak a6.1 a6.2).Y5,T.keep _ _ _ Z λb l o e=>(J7.pin (b,o) (Bo _ (Bo _ (kM l e)))).1,λb l=>?_,w7⟩;obtain⟨o,e,d⟩:=T.obj _ _ Z b l;exact(J7.pin (b,o) (Bo _ (Bo _ (kM l e)))).2.1
   cases b with
   |true=>
    rw[if_pos rfl]at q9 ⊢;refine ZY (he _ _ _ _ _ s9 U8 H9 _ I9 q9) λv b9 μ=>?_;obtain⟨y,b7,d3,c1,zs,hz,hl,m',hm,b8⟩:=μ;have ap:=zF ([]++rA fp s7.heap) b9 U8 b7 (.ref a.heap.objs.size) [y] (.ref a.heap.objs.size) [v] (λ_ k=>k=upd b7 a.heap.objs.size (.lst (zs++[y]))) d3 rfl (.cons c1 .nil) ⟨_,_,_,rfl,rfl,hz,hl,rfl⟩
    refine ZY ap λ_ d4 μ=>?_;obtain⟨_,d5,d2,_,c9⟩:=μ;subst c9;exact P d2 hm b8
   |false=>
    rw[if_neg Ar]at q9 ⊢;obtain⟨m',hm,w9⟩:=q9;exact P I9 hm w9
 exact codeAny_compStart_list (S _ rfl) (T.self _ 0 _ _ _ b3 (S _ rfl))
section
variable {vals:St->St} {elt:Expr} {spos py:Pos} {wi:TI}
def cL(K:X.calm=true)(E:PI X tg iter wi)(r:Xs X N scope cl vals)(f:∀y∈scope.names,y.2≠.cell)(c:scope.kind=.function)(d:∀x∈scope.names,x.2=.local->scope.names.lookup x.1=some .local)(F:∀C a b i,PG (Ye X N scope cl C a b i) tg g)(z:∀C a b i,PF (Ye X N scope cl C a b i) ifs tests)(G:∀C a b i,PE (Ye X N scope cl C a b i) elt te)(hs:∀x,foldedSetIterable iter X.env x=pure x:=by intro _;rfl):PE X (.ListComp elt [⟨tg,iter,ifs,0⟩] scope pos) (SW wi g tests te vals):=by
 intro p s U H Q I h;refine wpAny_comprehension_free (use:=none) rfl hs r.clos c d (ZY (E p s U H _ I h) λv W M=>ZY M λu V L=>?_);obtain⟨Z,fp,S,J,H2,e,P,T,k,O,q⟩:=L;subst e;refine N5 (RR:=λo C=>compPost (model X.prog X.w) X.A X.xe none (EP X p U Q) o C) P T k O K r f c F z G q λD C Y R m B t j _=>?_;exact⟨m,B,λn l=>⟨.ref D,R,j n l,rfl,t⟩⟩
def fK{i:Nat}(hN:X.N.Nodup)(L:X.N[i]?=some x)(Z:Loc X.env.scope x)(hc:X.calm=true)(hi:PI X tg iter wi)(S:Xs X N scope cl vals)(n:∀y∈scope.names,y.2≠.cell)(f:scope.kind=.function)(j:∀x∈scope.names,x.2=.local->scope.names.lookup x.1=some .local)(hg:∀C c d u,PG (Ye X N scope cl C c d u) tg g)(ht:∀C c d u,PF (Ye X N scope cl C c d u) ifs tests)(he:∀C c d u,PE (Ye X N scope cl C c d u) elt te)(K:swapsWith (.ListComp elt [⟨tg,iter,ifs,0⟩] scope pos) (some (.Name x py)) spos.line X.env=pure true:=by rfl)(hf:X.fn x=true\/X.env.scope.names.lookup x=some .local:=by first|exact .inl rfl|exact .inr rfl|assumption)(hs:∀x,foldedSetIterable iter X.env x=pure x:=by intro _;rfl):PS X (.Assign [.Name x py] (.ListComp elt [⟨tg,iter,ifs,0⟩] scope pos) spos) (Vp (SW wi g tests te vals) (mX i)):=by
 intro E s U H D I h;rw[exec_Assign_Name_used _ _ _ _ K];refine Ae (Fv (Ae ?_));show wpAny _ X.A (do let _ <-comprehension (.ListComp elt [⟨tg,iter,ifs,0⟩] scope pos) scope X.env _ (newList []) false (eval iter X.env) (some (assign (.Name x py) X.env))) _ _ s
 refine Ae (Co (wpAny_comprehension_free (use:=some (assign (.Name x py) X.env)) (Q:=λ_ k=>SP X E D .next k) rfl hs S.clos f j
  (ZY (hi E s U H _ I h) λv s1 h1=>ZY h1 λY s2 h2=>?_)) (λ_ k hq=>Au (Au hq)) λ_ _ e=>e)
 obtain⟨it,fp,tn,J,H2,e,I2,T,F,f2,q⟩:=h2;subst e;refine N5 (RR:=λO C=>compPost (model X.prog X.w) X.A X.xe (some (assign (.Name x py) X.env)) (λ_ k=>SP X E D .next k) O C) I2 T F f2 hc S n f hg ht he q λR C k V m hn W B p=>?_;show wpAny _ X.A (assign (.Name x py) X.env (.ref R)) _ _ k
 have I':=B k.heap (Heap.SameBut.refl ..)
 refine wpAny_assign_Name (Qd I' hN L Z (v:=.ref R) rfl (λG P l=>?_) hf);obtain⟨a,l,ha⟩:=l;have M:C≠a:=by
  rcases ha with z|z
  .rw[z];exact p.2.1
  .exact λe=>p.2.2.2.2.1 x a z e.symm
 refine⟨m,hn.sameBut l M,λh3 r=>?_⟩;exact⟨U.set i (some (.ref R)),V,P.turned (t':=G.toks) (λb o hb e=>(r.2 b hb).trans e) p.1 p.2.1 p.2.2.2.1 p.2.2.2.2.1 p.2.2.2.2.2,W⟩
def iI(a:∀x∈scope.names,x.2≠.free)(b:∀y∈scope.names,y.2≠.cell):Xs X N scope [] (λ_=>N.map λ_=>none) where
 clos:=closureFor_none a
 sub:=λx c h=>nomatch h
 has:=λx h=>by
  have e:(relabel scope X.env).names=scope.names:=by
   show List.map _ scope.names=scope.names
   refine map_eq_self λy f=>?_;grind
  rw[e]at h;rcases h with h|h
  .exact absurd rfl (b _ (Dk h))
  .exact absurd rfl (a _ (Dk h))
 len:=λU=>by simp
 val:=λU i x v g d=>by simp_all
end
section
variable {U0:St}
def Ku{xs:List V}{ok:Hp->Prop}(f:V->Option V)(l:∀i H,ok H->i<xs.length->J.go i H)(k:∀H,ok H->J.stop xs.length H)(u:∀i H x j,ok H->J.WS i H x j->j=H/\xs[i]?=some x)(a:∀D t,H1 D=none->ok (upd H1 D (.lst t)))(r:xs.length<sizeLine)(hs:∀(i:Nat) x d A (B:Hp->Prop),xs[i]?=some x->ok d->(match f x with|some y=>A y d|none=>B d)->g x U0 d λo v=>Wk U0 o/\tests o v λb s=>if b=true then te o s A else B s)(n:∀D,H1 D=none->Q (.ref D) (upd H1 D (.lst (xs.filterMap f)))):eF g tests te U0 Q J H1:=by
 intro D h;refine⟨λi m d=>m=xs.length-i/\i<=xs.length/\d=upd H1 D (.lst ((xs.take i).filterMap f)),⟨xs.length,by simp,Nat.zero_le _,by simp⟩,?_⟩
 rintro i m d ⟨rfl,w,rfl⟩;by_cases c:i<xs.length
 .refine .inr ⟨l i _ (a D _ h) c,λx j y=>?_⟩;obtain⟨e,q⟩:=u i _ x j (a D _ h) y;subst e;refine hs i x _ _ _ q (a D _ h) ?_;have p:xs.take (i+1)=xs.take i++[x]:=by rw[Be,q];rfl
  cases e:f x with
  |some y=>
   refine⟨_,aE,?_,xs.length-(i+1),by ((try clear r w);omega),rfl,c,?_⟩
   .have:=Da f (xs.take i)
    rw[Bt]at this;((try clear w);omega)
   .rw[Ol,p,Bw];simp[e]
  |none=>
   refine⟨xs.length-(i+1),by ((try clear r w);omega),rfl,c,?_⟩
   rw[p,Bw];simp[e]
 .have e:i=xs.length:=by ((try clear r);omega)
  subst e;rw[Cf];exact .inl ⟨k _ (a D _ h),n D h⟩
def Ti(f:Nat->Option V)(o:z.length<sizeLine)(hs:∀(i:Nat) c d A (B:Hp->Prop),z.cps.toList[i]?=some c->(match f c with|some y=>A y d|none=>B d)->g (.str ⟨#[c]⟩) U0 d λl s=>Wk U0 l/\tests l s λb m=>if b=true then te l m A else B m)(k:∀D,H1 D=none->Q (.ref D) (upd H1 D (.lst (z.cps.toList.filterMap f)))):eF g tests te U0 Q (W0 z) H1:=by
 have j:z.cps.toList.length=z.length:=by simp[Str.length]
 have n:z.cps.size=z.length:=rfl
 refine Ku (xs:=z.cps.toList.map λc=>.str ⟨#[c]⟩) (ok:=λ_=>True) (λx=>match x with|.str y=>f (y.cps.toList.headD 0)|_=>none) (λi H _ h=>?_) (λH _=>?_) (λi H x t _ y=>?_) (λ_ _ _=>trivial) (by rw[Ab,j];exact o) (λi x d A B a _ h=>?_) (λD r=>?_)
 .rw[Ab,j]at h;exact h
 .show z.cps.size<=_
  rw[Ab,j];exact Ai _
 .obtain⟨e,c,p,a⟩:=y;refine⟨e,?_⟩;rw[Ag,Do,p,a];rfl
 .rw[Ag]at a;cases e:z.cps.toList[i]? with
  |none=>rw[e]at a;cases a
  |some c=>rw[e]at a;cases a;exact hs i c d A B e h
 .have q:=k D r
  rw[Hn];exact q
end
def MS{a:St->St}{U:St}(h:wi U H λJ b=>eF g tests te (a U) Q J b):SW wi g tests te a U H Q:=h
def B3{Q:Bool->Hp->Prop}(h:Q true H):Pm U H Q:=h
noncomputable def Xv(a:Env):List (Str×NameKind)->List (Str×Addr)->List (Str×Addr)
 |[],acc=>acc
 |(n,k)::r,acc=>if k == .free then Xv a r ((n,(a.cells.lookup n).getD 0)::acc) else Xv a r acc
noncomputable def Sd(a:List (Option Nat)):St->St:=λU=>a.map λo=>match o with|none=>none|some j=>(U[j]?).join
noncomputable def PQ(N c:List Str)(sn b:List (Str×NameKind))(a:List (Option Nat)):Bool:=
 a.length==N.length&&(sn.all λy=>y.2 != .cell&&(y.2 != .free || b.lookup y.1==some .cell))&&decide ((sn.map (·.1)).Nodup) &&
 ((List.range N.length).all λi=>match a[i]? with|some (some j)=>N[i]? == c[j]? && (match N[i]? with|some x=>sn.lookup x==some .free|none=>false)|_=>true)
def tZ:∀b d,(∀y∈b,y.2=.free->∃c,env.cells.lookup y.1=some c)->
 (forIn b d (λx l=>(match x with
  | (f,g)=>if (g == NameKind.free)=true then do
      let a <-cellOf env f
      pure (ForInStep.yield ((f,a)::l))
   else pure (ForInStep.yield l):Sem (ForInStep (List (Str×Addr))))))=(pure (Xv env b d):Sem (List (Str×Addr)))
 |[],d,_=>rfl
 |(n,k)::r,d,h=>by
  rw[List.forIn_cons];unfold Xv;cases e:k==NameKind.free with
  |false=>
   simp only[e,Bool.false_eq_true,if_false,pure_bind];exact tZ r d λy i=>h y (Ak _ i)
  |true=>
   obtain⟨c,m⟩:=h (n,k) List.mem_cons_self (by simp_all)
   have j:=m
   simp only[e,if_true,cellOf,j,Option.getD_some,pure_bind];exact tZ r _ λy i=>h y (Ak _ i)
def tY:∀a b {x:Str} {c:Addr},(Xv env a b).lookup x=some c->
 b.lookup x=some c\/((x,NameKind.free)∈a/\c=(env.cells.lookup x).getD 0)
 |[],b,x,c,h=>.inl h
 |(n,k)::r,b,x,c,h=>by
  unfold Xv at h;cases e:k==NameKind.free with
  |false=>
   rw[e]at h;rcases tY r b (by simpa using h) with z|⟨z,q⟩
   .exact .inl z
   .exact .inr ⟨Ak _ z,q⟩
  |true=>
   rw[e]at h;have g:k=.free:=by simp_all
   rcases tY r _ (by simpa using h) with z|⟨z,q⟩
   .rw[Dj]at z;cases f:x==n with
    |true=>
     grind
    |false=>rw[f]at z;exact .inl z
   .exact .inr ⟨Ak _ z,q⟩
def Tw:∀b a {x:Str},(a.lookup x).isSome=true->((Xv env b a).lookup x).isSome=true
 |[],a,x,h=>h
 |(n,k)::r,a,x,h=>by
  unfold Xv;split
  .refine Tw r _ ?_;rw[Dj];cases c:x==n with
   |true=>rfl
   |false=>exact h
  .exact Tw r a h
def pN:∀a b {x:Str},(x,NameKind.free)∈a->((Xv env a b).lookup x).isSome=true
 |_::r,b,x,h=>by
  unfold Xv;rcases Bc.mp h with z|z
  .cases z;refine Tw r _ ?_;rw[Dj,Fe];rfl
  .split
   .exact pN r _ z
   .exact pN r b z
def kR:∀ {a:List (Str×NameKind)} {c:NameKind},(a.map λ(n,k)=>if (k==NameKind.free&&env.scope.kind == .function&&env.kindOf n==some .cell) then (n,NameKind.cell) else (n,k)).lookup x=some c->
 ∃k,(x,k)∈a/\(c=k\/(k=.free/\c=.cell))
 |[],_,h=>by simp at h
 |(n,k)::r,c,h=>by
  rw[As]at h;dsimp only at h;cases e:(k==NameKind.free&&env.scope.kind == .function&&env.kindOf n==some .cell) with
  |true=>
   rw[e,if_pos rfl,Dj]at h;cases b:x==n with
   |true=>
    grind
   |false=>
    rw[b]at h;obtain⟨d,g,f⟩:=kR h;exact⟨d,Ak _ g,f⟩
  |false=>
   rw[e,if_neg Ar,Dj]at h;cases b:x==n with
   |true=>
    grind
   |false=>
    rw[b]at h;obtain⟨d,g,f⟩:=kR h;exact⟨d,Ak _ g,f⟩
def tF(d:env.scope.kind=.function)(c:env.kindOf x=some .cell):∀ {a:List _},a.lookup x=some .free->
 (a.map λ(n,k)=>if (k==NameKind.free&&env.scope.kind == .function&&env.kindOf n==some .cell) then (n,NameKind.cell) else (n,k)).lookup x=some .cell
 |(n,k)::r,h=>by
  rw[As];dsimp only;rw[Dj]at h;cases b:x==n with
  |true=>
   grind
  |false=>
   rw[b]at h;have e:=tF d c h
   split<;>(rwa[Dj,b])
def gF{N:List Str}(B:List Str)(g:Scope)(p:List (Option Nat))(G:X.N=B)(f:X.env.scope=g)(D:g.kind=.function)(m:∀x,g.names.lookup x=some .cell->∃c,X.env.cells.lookup x=some c)(c:PQ N B scope.names g.names p=true):Xs X N scope (Xv X.env scope.names []) (Sd p):=by
 unfold PQ at c;simp only[Bool.and_eq_true,decide_eq_true_eq,List.all_eq_true,beq_iff_eq]at c;obtain⟨⟨⟨I,A⟩,K⟩,H⟩:=c;have r:∀y,(y,NameKind.free)∈scope.names->g.names.lookup y=some .cell:=λy l=>by
  have z:=(A _ l).2
  simpa using z
 have d:∀y,(y,NameKind.cell)∉scope.names:=λy l=>by
  have z:=(A _ l).1
  simp at z
 refine⟨?_,λx c h=>?_,λx h=>?_,λU=>?_,λU i x v b a=>?_⟩
 .unfold closureFor;simp only[bind_pure];exact tZ scope.names [] λy l F=>m y.1 (r y.1 (by rw[<-F];exact l))
 .rcases tY _ _ h with z|⟨z,q⟩
  .simp at z
  .obtain⟨L,e⟩:=m x (r x z);rw[q,e];rfl
 .have:∃ k,(x,k)∈scope.names/\k=.free:=by
   rcases h with h|h
   .obtain⟨k,b,a⟩:=kR h;rcases a with z|⟨z,_⟩
    .subst z;exact absurd b (d x)
    .exact⟨k,b,z⟩
   .obtain⟨k,b,a⟩:=kR h;rcases a with z|⟨z,J⟩
    .exact⟨k,b,z.symm⟩
    .exact⟨k,b,z⟩
  obtain⟨k,b,rfl⟩:=this;exact Eb.mp (pN scope.names [] b)
 .unfold Sd;rw[Ab,I]
 .unfold Sd at a;rw[Ag]at a;cases e:p[i]? with
  |none=>rw[e]at a;cases a
  |some o=>
   rw[e]at a;cases o with
   |none=>cases a
   |some j=>
    have E:=(Ad.mp b).1
    have z:=H i (Bu.mpr E)
    rw[e,b]at z;simp only[Bool.and_eq_true,beq_iff_eq]at z;have C:U[j]?=some (some v):=by
     have n:(U[j]?).join=some v:=by simpa using a
     cases w:U[j]? with
     |none=>rw[w]at n;cases n
     |some o=>rw[w]at n;cases o with
      |none=>cases n
      |some u=>cases n;rfl
    have t:=Dk z.2
    have s:=r x t
    refine⟨j,by rw[G];exact z.1.symm,C,by rw[f];exact s,Eb.mp (pN scope.names [] t),?_⟩
    exact tF (by rw[f];exact D) (by show X.env.scope.names.lookup x=_;rw[f];exact s) z.2
section
open PySem.AutoSeq1 (wpAny_loadPart')
def Py{c:Bool}{x y:Sem α}{Q:α->Shared->Prop}(b:wpAny M A x Q E s)(a:wpAny M A y Q E s):wpAny M A (if c=true then x else y) Q E s:=by
 cases c
 .exact a
 .exact b
def HF(l:Addr)(its:Array Value)(n:Nat)(q:Option Addr)(i:Array (Option Value))(k:Int)(t:Tok)(o:Builtin.SmallTypes.fitsIndex k=true):Meets (Builtin.«enumerate.__new__» ⟨[.type "enumerate",.ref l],[("start",.int k t)]⟩) (λ_ R s=>s.heap.get? l=some ⟨.type "list",q,.seq its n,i⟩/\
 R (.ok (.ret (.ref (s.heap.push {cls:=.type "list_iterator",data:=.fields #[.ref l,.int 0 0]}).objs.size)))
  {s with heap:=(s.heap.push {cls:=.type "list_iterator",data:=.fields #[.ref l,.int 0 0]}).push ⟨.type "enumerate",none,.fields #[.none,.bool false,.ref s.heap.objs.size,rawInt k,.none,.none],#[]⟩}):=
 .of_wp λb w A R s h=>by
  obtain⟨e,g,d,f,j⟩:=s;obtain⟨a,h⟩:=h;have c:=sub_enumerate
  have p:Heap.IsList e l its:=⟨_,a,rfl,n,rfl⟩
  have m:(!Builtin.SmallTypes.fitsIndex k)=false:=by rw[o];rfl
  wp_walk using Ck a
  refine wpAny_stack_any λr=>Au ?_;refine Py ?_ ?_ <;>
  .wp_walk using (Ck a),(Fs (s:=⟨e,g,d,f,j⟩) p)
   exact⟨_,rfl,h⟩
def qD{u:Builtin}{a:List Value}{d:List (Str×Value)}{S:PySem.Spec}{Q Q1:Q0}(b:TypeCalled T newId "object.__init__")(x:checkTypeCall T ⟨a,d⟩=pure ())(m:checkBuiltinCall newId ⟨.type T::a,d⟩=pure ())(C:entryFor table newId=some u)(g:Meets (u ⟨.type T::a,d⟩) S)(h:S A.in1 (wants Q1 E) s)(k:∀o f,Q1 o f->f.TypeIs o T/\argsOk "object.__init__" ⟨o::a,d⟩/\∃n,Meets (Builtin.«object.__init__» ⟨o::a,d⟩) n/\n A.in1 (wants (λr p=>r=.none/\Q o p) E) f):wpAny (model prog w) A (call (.type T) a d) Q E s:=by
 obtain⟨c,D,t⟩:=b.mro;have l:=b.made
 have q:=b.sub
 have I:=b.notType
 have H:=b.canCreate
 refine Gj (codeAny_of_tree (show wpAny _ _ (callAny (.type T) _) _ _ _ from Au ⟨Code.quiet_builtin _ (by decide +kernel),Eu F.entry_type_call ?_⟩))
 rw[Around.under_plain (weight_type_call_type T a d) (units_type_call_type T a d)];repeat (any_goals first|assumption|wp_step)
 refine Fb (Ft b.plain C (wpAny_of_eq m (g prog w A.in1 _ s h))) ?_;rintro(e|fl) f hr
 .exact hr
 .cases fl with
  |ret o=>
   obtain⟨z,j,n,B,i⟩:=k _ _ hr;have v:=b.init.lookup
   have y:=b.init.bind o
   repeat (any_goals first|assumption|wp_step)
   refine Fb (Ft b.init.plain F.entry_object_init (b.init.check _ _ _ _ _ _ _ _ z j (B prog w A.in1 _ f i))) ?_;rintro(e|fl2) p hr2
   .exact hr2
   .cases fl2 with
    |ret r=>
     obtain⟨rfl,G⟩:=hr2;repeat (any_goals first|assumption|wp_step)
    |_=>exact hr2.elim
  |_=>exact hr.elim
def OF{b:Value}{c:List Value}{f:List _}(j:typeLookup (.type T) "__init__"=pure (some (.builtin "object.__init__")))(i:Bind.madeBy (.type T)=pure (some newId))(h:(some newId != some "object.__new__")=true):Meets (Builtin.«object.__init__» ⟨b::c,f⟩) (λ_ R s=>s.TypeIs b T/\R (.ok (.ret .none)) s):=by
 refine Meets.of_wp λe w A R s g=>?_;obtain⟨k,d⟩:=g;cases c with
 |nil=>
  cases f with
  |nil=>exact Au ⟨_,rfl,d⟩
  |cons a r=>
   repeat (any_goals first|assumption|wp_step)
   exact⟨_,rfl,d⟩
 |cons a r=>
  repeat (any_goals first|assumption|wp_step)
  exact⟨_,rfl,d⟩
def pZ{l:Addr}{its:Array Value}{k:Int}{t:Tok}{Q:Q0}(p:Builtin.SmallTypes.fitsIndex k=true)(v:s.heap.IsList l its)(h:∀a,IsEnum a (s.heap.objs.size+1) s.heap.objs.size k .none->a.IsListIter s.heap.objs.size l 0->a.objs.size=s.heap.objs.size+2->(∀b o,s.heap.get? b=some o->a.get? b=some o)->Q (.ref (s.heap.objs.size+1)) {s with heap:=a}):wpAny (model prog w) A (call (.type "enumerate") [.ref l] [("start",.int k t)]) Q E s:=by
 obtain⟨⟨c,z,y,j⟩,m,u,n,r⟩:=v;obtain rfl:c=.type "list" := u;obtain rfl:y=.seq its n:=r;have e:(s.heap.push {cls:=.type "list_iterator",data:=.fields #[.ref l,.int 0 0]}).objs.size=s.heap.objs.size+1:=Gc ..
 refine qD (Q1:=λo d=>d.TypeIs o "enumerate"/\Q o d) F.called_enumerate (by kernel_rfl) (by kernel_rfl) F.entry_enumerate_new (HF l its n z j k t p) ⟨m,?_⟩ λo d f=>⟨f.1,?_,_,OF F.called_enumerate.init.lookup F.called_enumerate.made (by decide),f.1,rfl,f.2⟩
 .show _/\_
  rw[e];have g:IsEnum ((s.heap.push {cls:=.type "list_iterator",data:=.fields #[.ref l,.int 0 0]}).push ⟨.type "enumerate",none,.fields #[.none,.bool false,.ref s.heap.objs.size,rawInt k,.none,.none],#[]⟩) (s.heap.objs.size+1) s.heap.objs.size k .none:=by
   have q:=Ay (s.heap.push {cls:=.type "list_iterator",data:=.fields #[.ref l,.int 0 0]}) (o:=⟨.type "enumerate",none,.fields #[.none,.bool false,.ref s.heap.objs.size,rawInt k,.none,.none],#[]⟩) rfl
   rwa [e]at q
  exact⟨⟨_,g,rfl⟩,h _ g ⟨_,Aj _ (Ay _ rfl),rfl,rfl⟩ (by rw[Gc,e]) λb o x=>Aj _ (Aj _ x)⟩
 .unfold argsOk;rw[signature?_of (n:=['_','_','t','i','n','i','_','_']) (o := "tcejbo".toList) (by kernel_rfl) F.owner_object]
  kernel_rfl
def iW{c:Addr}{P:Nat->Value->Prop}{S:Nat->Heap->Prop}(k:Nat)(D:Draws prog w A c fp n P S):Draws prog w A c fp (k+n) (λj v=>P (j-k) v) (λj h=>k<=j/\S (j-k) h) where
 live:=λi h a=>D.live _ h a.2
 frame:=λi h b a f=>⟨a.1,D.frame _ h b a.2 f⟩
 item:=λi s Q E p a l=>D.item _ s Q E (by omega) a.2 λx b d m g e=>l x b d m ⟨by have:=a.1;((try clear p this);omega),by rwa[show i+1-k=i-k+1 by grind]⟩ e
 done:=λs Q E a o=>D.done s Q E (by grind) o
section
variable {U:St}
def Inv.YM{ch:List Addr}{o:HO}{t':Nat}(I:Inv X y6 U H s)(f:∀b∈ch,nX X y6 H b)(k:∀b u,b∉ch->s.heap.get? b=some u->h'.get? b=some u)(A:s.heap.objs.size<=a)(x:ZX X.prog X.w (upd H a o) h' a o):Inv X y6 U (upd H a o) {s with heap:=h',toks:=t'}:=by
 have l:=I.Z3.fresh A
 have j:∀b u,H b=some u->b∉ch:=λb u e z=>by rw[(f b z).1]at e;cases e
 refine I.step (g':=s.gens) (d':=s.drawn) (ch:=ch) (λb p=>?_) (λb o _ _ i e _=>k b o i e) (λb o _ _ i e _=>⟨o.slots,k b o i e⟩) (λb o _ e n=>?_) (λb o i e=>⟨o,k b o i e⟩)
  (λb B e=>by rw[aH (bI e l)];exact e) (λb o u e=>by rw[aH (bI e l)];exact e) (λb M e=>⟨#[],by rw[aH (bI e l),e];simp⟩) (λm J=>?_) (λb u e=>?_) I.bare
 .obtain⟨_,F,_,E,D,C⟩:=f b p;exact⟨E,F,D,C⟩
 .rw[aH (Bm (Bd (Ax e) A))];exact n
 .obtain⟨y,K,L,G,r⟩:=J;exact⟨y,K,L,k _ y (λz=>(f _ z).2.1 rfl) G,r⟩
 .by_cases p:b=a
  .subst p;rw[aE]at e;cases e;exact x
  .rw[aH p]at e;refine(I.Z3 b u e).ZC (λc v i q=>k c v ?_ q) (λc q=>by rw[aH (bI q l)];exact q) λc B q=>by rw[aH (bI q l)];exact q
   rcases i with z|z
   .rw[z];exact j b u e
   .exact j c _ z
def Inv.Yu{ch:List Addr}{t':Nat}(I:Inv X y6 U H s)(a:∀b∈ch,nX X y6 H b)(k:∀b u,b∉ch->s.heap.get? b=some u->h'.get? b=some u):Inv X y6 U H {s with heap:=h',toks:=t'}:=by
 have i:∀b u,H b=some u->b∉ch:=λb u e z=>by rw[(a b z).1]at e;cases e
 refine I.step (g':=s.gens) (d':=s.drawn) (ch:=ch) (λb C=>?_) (λb o _ _ f e _=>k b o f e) (λb o _ _ f e _=>⟨o.slots,k b o f e⟩) (λb o _ e n=>n) (λb o f e=>⟨o,k b o f e⟩)
  (λb l e=>e) (λb o u e=>e) (λb F e=>⟨#[],by rw[e];simp⟩) (λm B=>?_) (λb u e=>?_) I.bare
 .obtain⟨_,y,_,x,w,p⟩:=a b C;exact⟨x,y,w,p⟩
 .obtain⟨j,D,E,A,r⟩:=B;exact⟨j,D,E,k _ j (λz=>(a _ z).2.1 rfl) A,r⟩
 .refine(I.Z3 b u e).ZC (λc v f q=>k c v ?_ q) (λc q=>q) λc l q=>q;grind
end
noncomputable def Xe(K:W.Frag)(a:Addr)(k:Nat):It:=
 ⟨λi H=>∃b x,ZA K H a b/\b[i]?=some x,λi H v c=>∃p x,H p=none/\v=.ref p/\c=upd H p (.tup [.int ((k+i:Nat):Int),x])/\∀b,ZA K H a b->b[i]?=some x,λi H=>∃b,ZA K H a b/\b.length=i⟩
def DQ(a e g:Addr)(k:Nat)(J:e≠g):Turn P w K (.Tuple elts x1 tp) (Xe K a k) [e,g] e (λi h=>(∃j,IsEnum h e g ((k+i:Nat):Int) j)/\h.IsListIter g a i) where
 mem:=by simp
 obj:=λi h B b C=>by
  obtain⟨⟨j,r⟩,o,G,c,d⟩:=B;rcases Bc.mp C with z|z
  .subst z;exact⟨_,r,λv z=>by cases z⟩
  .rw[Ah.mp z];exact⟨o,G,λv z=>by rw[d]at z;cases z⟩
 keep:=λi h h' B T=>⟨let ⟨j,r⟩:=B.1;⟨j,T e (by simp) _ r⟩,B.2.at λo q=>T g (by simp) o q⟩
 item:=by
  intro X Q Y hK hc i y6 s U H E I M B Z;subst Q Y hK;obtain⟨xs,x,W,V⟩:=Z;obtain⟨l,S,p,hz⟩:=I.list W;obtain⟨u,hu,ru⟩:=S.get V;obtain⟨⟨j,r⟩,m⟩:=B;have L:a≠g:=by
   rintro rfl;obtain⟨o,G,c,_⟩:=m;obtain⟨o2,f,n,_⟩:=p.isList;rw[G]at f;cases f;rw[c]at n;injection n with n;exact absurd n (by decide)
  have a2:a≠e:=by
   rintro rfl;obtain⟨o2,f,n,_⟩:=p.isList;rw[r]at f;cases f;injection n with n;exact absurd n (by decide)
  have hl:=S.length
  have a7:=(Ad.mp hu).1
  have D:=iW k (Draws.list (prog:=X.prog) (w:=X.w) (A:=X.A.in1) (show X.A.in1.handled=none from I.ok.hd hc) g a L l.toArray)
  refine wpAny_pyNext_enum_itemD D (i:=k+i) r ⟨Gf _ _,by rw[Cu];exact⟨m,p.isList⟩⟩ (by rw[Ba];((try clear J L a2 hl hz);omega)) J (λz=>by
   rcases Bc.mp z with z|z
   .exact J z
   .exact a2 (Ah.mp z).symm) λy h1 R Q G hS hT a6 T=>?_
  refine⟨_,rfl,wpAny_letOwnedTupleGo_enum G λh2 a1 F=>?_⟩;have ey:y=u:=by
   have O:=Q
   rw[Cu]at O;have:l[i]?=some y:=by simpa using O
   rw[hu]at this;cases this;rfl
  subst ey;have N:=Fa (Ax r)
  have a3:s.heap.objs.size≠g:=by obtain⟨o,q,_⟩:=m;exact Fa (Ax q)
  have a4:=(F.2 _ N).trans hT
  have a5:h1.IsListIter g a (i+1):=by
   have q:=hS.2.1
   rwa [show k+i+1-k=i+1 by ((try clear J L N a2 a3 a6 a7 hl hz);omega)]at q
  have I2:Inv X y6 U (upd H s.heap.objs.size (.tup [.int ((k+i:Nat):Int),x])) {s with heap:=h2,toks:=R+1}:=by
   refine I.YM (ch:=[e,g]) M (λb u C q=>(F.2 b (λz=>C (by simp[z]))).trans (T b u (λz=>C (by simp[z])) (λz=>C (by simp[z])) q)) (Nat.le_refl _) ⟨bM (by show 2<=_;((try clear J L N a2 a3 a6 a7 hS hl hz);omega)),[.int ((k+i:Nat):Int) R,y],.cons ⟨R,rfl⟩ (.cons ru .nil),_,a4,rfl,_,rfl⟩
  refine⟨.ref s.heap.objs.size,_,I2,rfl,⟨_,x,I.Z3.fresh (Ai _),rfl,rfl,λys hy=>by rw[I.Y2 hy W];exact V⟩,⟨⟨y,a1⟩,a5.at λo q=>(F.2 g J.symm).trans q⟩,λb C=>?_⟩
  rcases Bc.mp C with z|z
  .rw[z,aH N.symm];exact(M e (by simp)).1
  .rw[List.mem_singleton.mp z,aH a3.symm];exact(M g (by simp)).1
 done:=by
  intro X Q Y hK hc i y6 s U H E I M B Z;subst Q Y hK;obtain⟨xs,W,V⟩:=Z;obtain⟨l,S,p,hz⟩:=I.list W;obtain⟨⟨j,r⟩,m⟩:=B;have hl:=S.length
  have L:a≠g:=by
   rintro rfl;obtain⟨o,G,c,_⟩:=m;obtain⟨o2,f,n,_⟩:=p.isList;rw[G]at f;cases f;rw[c]at n;injection n with n;exact absurd n (by decide)
  have D:=iW k (Draws.list (prog:=X.prog) (w:=X.w) (A:=X.A.in1) (show X.A.in1.handled=none from I.ok.hd hc) g a L l.toArray)
  refine wpAny_pyNext_enum_endD D r ⟨Gf _ _,by rw[Cu,Ba,<-hl,V];exact⟨m,p.isList⟩⟩ λh' eb=>⟨rfl,?_⟩
  exact I.Yu (t':=s.toks) (ch:=[e,g]) M λb u C q=>eb b u (λz=>C (by simp[z])) q
 self:=λ_ _ _ _ _ B h=>let ⟨⟨_,r⟩,_⟩:=B;Ia r h
section
variable {p kp:Pos}
def V6(R:Addr->Hp->Prop):List V->Hp->Prop:=λa H=>match a with|[.ref j]=>R j H|_=>False
def OH{R:Addr->Hp->Prop}(q:V6 R vs H):∃j,vs=[.ref j]/\R j H:=by
 unfold V6 at q;split at q
 .exact⟨_,rfl,q⟩
 simp_all
def O6(K:W.Frag)(c:TA):TI:=λU H R=>c U H (V6 λa b=>Ym (Z4 b a) (R (Xe K a 0) b))
def PN(K:W.Frag)(d c:TA):TI:=λU H R=>d U H (V6 λa e=>c U e (xN λk b=>(0<=k/\k<2^62)/\Ym (Z4 b a) (R (Xe K a k.toNat) b)))
def Tz{U:St}{k:Nat}(c:Inv X y6 U H1 s1)(d:IsEnum h' (s1.heap.objs.size+1) s1.heap.objs.size ((k:Nat):Int) .none)(f:h'.IsListIter s1.heap.objs.size a 0)(i:h'.objs.size=s1.heap.objs.size+2)(e:∀b o,s1.heap.get? b=some o->h'.get? b=some o)(q:R (Xe X.K a k) H1):wpAny (model X.prog X.w) X.A (pyIter (.ref (s1.heap.objs.size+1))) (Vg X y6 U (.Tuple elts x1 tp) R) E {s1 with heap:=h'}:=by
 refine Ia (s:={s1 with heap:=h'}) d ⟨_,[s1.heap.objs.size+1,s1.heap.objs.size],_,_,H1,rfl,c.kept (t':=s1.toks) e,DQ a _ _ k (Nat.succ_ne_self _),⟨⟨_,d⟩,f⟩,λb g=>?_,q⟩
 have z:s1.heap.objs.size<=b:=by
  rcases Bc.mp g with z|z
  .rw[z];exact Io _
  simp_all
 exact c.YE z (c.Z3.fresh z)
def nL(o:Gl X "enumerate")(j:X.mg "enumerate"=none)(t:PA X [l] ta)(hs:starEach [l] X.env=[(false,eval l X.env)]:=by rfl):PI X (.Tuple elts x1 tp) (.Call (.Name "enumerate" p) [l] [] pos) (O6 X.K ta):=by
 intro d s U H R I h;refine Call_ (jA I o j boot_enumerate (Dq (ZY (t pos d s U H _ I h) λy z μ=>?_) hs rfl));obtain⟨x,C,c,f,g⟩:=μ;obtain⟨a,rfl,q⟩:=OH g;obtain⟨u,rfl,e⟩:=dP f;cases e;unfold Ym at q;split at q
 .rename_i w v
  obtain⟨i,A,p,b⟩:=c.list (bE v);exact call_enumerate_list p.isList λB r n b m=>Tz c (k:=0) r n b m q
 simp_all
def pY{b:List _}{c:List _}{Q:Q0}(i:b.any (·.1)=false)(g:c.any (·.1.isNone)=false)(h:wpAny M A (evalArgs (.type T) true b c) (λa d=>wpAny M A (call (.type T) a.pos a.kw) Q E d) E s):wpAny M A (callWith pos (.type T) [] b c) Q E s:=by
 refine Ae (Df (Co h (λa d e=>Ae (Fv ?_)) λ_ _ x=>x));rw[i,g];exact Ae (Au (Ae (Co e (λr j f=>Ae (Df (wpAny_point (Au f)))) λ_ _ x=>x)))
def LJ{d:Expr}(A:Gl X "enumerate")(y:X.mg "enumerate"=none)(C:PA X [l] ta)(f:PK X [⟨some "start",d,kp⟩] tk)(hs:starEach [l] X.env=[(false,eval l X.env)]:=by rfl)(c:keywordEach [⟨some "start",d,kp⟩] X.env=[(some ("start" : Str),eval d X.env)]:=by rfl):PI X (.Tuple elts x1 tp) (.Call (.Name "enumerate" p) [l] [⟨some "start",d,kp⟩] pos) (PN X.K ta tk):=by
 intro g s U H R I h;have b:backTo pos (starEach [l] X.env)=[(false,eval l X.env)]:=by rw[hs];rfl
 refine Dr (jA I A y boot_enumerate (pY (by rw[b];rfl) (by rw[c];rfl) ?_))
 rw[b];refine evalArgs_kwB (by rw[c];rfl) ?_
 rw[<-b];refine ZY (C pos g s U H _ I h) λN m μ=>?_;obtain⟨M,F,E,r,w⟩:=μ;obtain⟨a,rfl,q⟩:=OH w;refine ZY (f pos g m U F _ E q) λL O μ=>?_;obtain⟨G,V,j,o,v⟩:=μ;obtain⟨k,rfl,⟨S,Q⟩,q⟩:=uB v;obtain⟨u,rfl,n⟩:=dP r;cases n;obtain⟨u,rfl,t,rfl⟩:=dP o;unfold Ym at q;split at q
 .rename_i J D
  obtain⟨x,P,p,i⟩:=j.list (bE D);have e:(backToKw pos (keywordEach [⟨some "start",d,kp⟩] X.env)).filterMap (·.1)=(["start"]:List Str):=by rw[c];rfl
  rw[e];refine pZ (by unfold Builtin.SmallTypes.fitsIndex;rw[Ao (by ((try clear i);omega)),Ao (by ((try clear i);omega))];rfl) p.isList λT B z i f=>Tz j (k:=k.toNat) ?_ z i f q
  rw[show ((k.toNat:Nat):Int)=k by ((try clear i);omega)]
  exact B
 .exact q.elim
end
section
variable {k:Nat} {tb:TS} {U U0:St}
def uE(b:Nat->St->Hp->Prop)(r:b 0 U H)(l:∀i U H,i<=xs.length->b i U H->Z4 H a=some xs)(hs:∀i x U H p,xs[i]?=some x->b i U H->H p=none->g (.ref p) U (upd H p (.tup [.int ((k+i:Nat):Int),x])) λs t=>tb {D with nx:=b (i+1),ct:=b (i+1),bk:=D.nx} s t)(o:∀U H,b xs.length U H->D.nx U H):WI (Xe K a k) g tb D U H:=by
 refine⟨λi m U H=>m=xs.length-i/\i<=xs.length/\b i U H,⟨xs.length,by simp,Nat.zero_le _,r⟩,?_⟩
 rintro i m U H ⟨rfl,n,p⟩;have d:=l i U H n p
 by_cases c:i<xs.length
 .refine .inr ⟨⟨xs,xs[i],bE d,by simp[c]⟩,b (i+1),λv u f=>⟨xs.length-(i+1),by ((try clear n);omega),rfl,c,f⟩,λx u y=>?_⟩
  obtain⟨q,z,j,rfl,rfl,h⟩:=y;exact hs i z U H q (h xs (bE d)) p j
 .have e:i=xs.length:=by omega
  subst e;exact .inl ⟨⟨xs,bE d,rfl⟩,o U H p⟩
def SH(f:Nat->V->Option V)(M:Z4 H1 a=some xs)(O:xs.length<sizeLine)(hs:∀i x d p A (B:Hp->Prop),xs[i]?=some x->Z_ H1 d->d p=none->(∀c,Z_ (upd d p (.tup [.int ((k+i:Nat):Int),x])) c->match f i x with|some y=>A y c|none=>B c)->
 g (.ref p) U0 (upd d p (.tup [.int ((k+i:Nat):Int),x])) λw N=>Wk U0 w/\tests w N λb J=>if b=true then te w J A else B J)(u:∀D c,H1 D=none->Z_ H1 c->Z4 c D=some ((List.range xs.length).filterMap λi=>f i (xs.getD i .non))->Q (.ref D) c):eF g tests te U0 Q (Xe K a k) H1:=by
 intro D t;refine⟨λi m d=>m=xs.length-i/\i<=xs.length/\Z_ H1 d/\d D=some (.lst ((List.range i).filterMap λi=>f i (xs.getD i .non))),⟨xs.length,by simp,Nat.zero_le _,aG t _,by rw[aE];rfl⟩,?_⟩
 rintro i m d ⟨rfl,P,n,l⟩;have r:=aO n M
 by_cases h:i<xs.length
 .refine .inr ⟨⟨xs,xs[i],bE r,by simp[h]⟩,λv R y=>?_⟩
  obtain⟨q,z,s,rfl,rfl,L⟩:=y;have F:=L xs (bE r)
  have G:xs.getD i .non=z:=by rw[Ac,F];rfl
  refine hs i z d q _ _ F n s λc C=>?_;have j:=C _ _ (aG s _ _ _ l)
  have E:=n.trans ((aG s _).trans C)
  cases e:f i z with
  |some y=>
   refine⟨_,j,?_,xs.length-(i+1),by ((try clear O P);omega),rfl,h,λb o I=>?_,?_⟩
   .have:=Da (λi=>f i (xs.getD i .non)) (List.range i)
    rw[Bf]at this;((try clear P);omega)
   .rw[aH (bI I t)];exact E b o I
   .rw[aE,Cm,Bw,Ca (b:=y) (by rw[G,e]),Cr]
  |none=>
   refine⟨xs.length-(i+1),by ((try clear O P);omega),rfl,h,E,?_⟩
   rw[j,Cm,Bw,Cj (by rw[G,e]),Cr,Bs]
 .have e:i=xs.length:=by ((try clear O);omega)
  subst e;exact .inl ⟨⟨xs,bE r,rfl⟩,u D d t n (aM l)⟩
def D_(h:ta U H (V6 λa b=>Ym (Z4 b a) (R (Xe K a 0) b))):O6 K ta U H R:=h
def Nk(h:ta U H (V6 λa c=>tk U c (xN λk b=>(0<=k/\k<2^62)/\Ym (Z4 b a) (R (Xe K a k.toNat) b)))):PN K ta tk U H R:=h
def BS{R:Addr->Hp->Prop}(h:R a H):V6 R [.ref a] H:=h
end
section
variable {t:TG} {u:WA} {r:List V} {U:St} {Q:St->Hp->Prop}
def Jk(e:nV H a=some xs)(b:xs.length=n)(h:u xs U H Q):R8 K n u (.ref a) U H Q:=⟨a,xs,rfl,.of (uA e),b,h⟩
def E_(h:t v U H λa b=>u r a b Q):UL t u (v::r) U H Q:=⟨v,r,rfl,h⟩
def K9(h:Q U H):Sz [] U H Q:=⟨rfl,h⟩
end
def eP{K:W.Frag}{i j k:Nat}{y:Str}{e d:Pos}(n:X.K=K)(m:X.calm=true)(c:X.N.Nodup)(l:X.N[i]?=some x)(g:Loc X.env.scope x)(b:X.fn x=true\/X.env.scope.names.lookup x=some .local)(h:X.N[j]?=some y)(f:Loc X.env.scope y)(a:X.fn y=true\/X.env.scope.names.lookup y=some .local):PG X (.Tuple [.Name x e,.Name y d] k pos) (R8 K 2 (UL (mX i) (UL (mX j) Sz))):=by
 subst n;exact Ky m (PC (bC c l g b) (PC (bC c h f a) Ks))
end
structure X2 (B:Heap) (l:List Env) (e:Addr) (cls:Value) (d:Option Addr) (fl:Value) (h:Heap):Prop where
 stays:B.StaysIn h
 new:B.get? e=none
 frames:h.FunFrames B l
 on:∃oe vs T oT ts,h.get? e=some oe/\(oe.cls=cls/\oe.dict=d)/\oe.data=.fields vs/\vs[1]?=some (.ref T)/\B.get? T=none/\T≠e/\h.get? T=some oT/\oT.data=.fields ts/\ts[3]?=some fl/\vs[2]?=some .none
def Po(o:Obj)(f:Array Value->Array Value):(o.mapFields f).dict=o.dict:=by
 obtain⟨c,d,a,b⟩:=o;cases a<;>rfl
def VG{vs:Array Value}{f:Obj->Obj}(g:h.get? a=some o)(d:o.data=.fields vs):∀b u,h.get? b=some u->(∀c,u.data≠.fields c)->(h.update a f).get? b=some u:=λb u e n=>by
 rwa[Cb _ _ (λz=>by grind)]
section
variable {B:Heap} {l:List Env} {L e:Addr} {cls:Value} {Q:Unit->Shared->Prop}
def zL{vs:Array Value}{c:Value}{K:Bool}(u:A.frames=some (env::outer))(l:s.heap.FunFrames B (env::outer))(O:env.frame=some L)(R:B.StaysIn s.heap)(C:B.get? e=none)(D:s.heap.get? e=some oe)(g:oe.data=.fields vs)(F:1<vs.size)(S:vs[2]?=some .none)(P:∀v,X2 B (env::outer) e oe.cls oe.dict (rawInt L) v->s.heap.UpToSlots v->Q () {s with heap:=v}):wpAny M A (do let a <-frameOf env;let k <-entryPlaceOf L K;let b <-EntryCells.newEntry c a .none (rawInt L) .none k;setField (.ref e) 1 b) Q E s:=by
 have N:e∉(env::outer).filterMap (·.frame):=λt=>by
  obtain⟨_,o,y,f⟩:=l.mem t;rw[D]at y;cases y;exact f vs g
 refine Ae (wpAny_frameOf_fun u l O λd j=>Ae (wpAny_entryPlaceOf λk r=>?_));have G:=(j.2.1 e N).trans D
 have I:B.StaysIn d:=λb o q=>(j.2.1 b λt=>by rw[(l.mem t).1]at q;cases q).trans (R b o q)
 unfold EntryCells.newEntry newFields;refine Ae (Hz ?_ (r.sizeOk5 _ _ _ _ _));generalize p:(([c,.ref L,.none,rawInt L,.none]++(if k.isEmpty then List.replicate 6 Value.none else k):List Value)).toArray=i
 have J:i[3]?=some (rawInt L):=by rw[<-p];simp
 have m:=Aj (h:=d) ⟨.type "traceback",none,.fields i,#[]⟩ G
 refine wpAny_setField m g F (P _ ?_ ?_)
 .have w:=Fa (Ax G)
  have H:=Obj.data_mapFields g (·.setIfInBounds 1 (Value.ref d.objs.size))
  refine⟨λb o q=>?_,C,l.of_keeps λb o q f=>?_,_,_,d.objs.size,⟨.type "traceback",none,.fields i,#[]⟩,i,Heap.get?_update_self _ m (Obj.isFreed_of_fields H),⟨Obj.cls_mapFields _ _,Po _ _⟩,H,by simp[F],I.fresh,w,?_,rfl,J,(Array.getElem?_setIfInBounds_ne (by decide)).trans S⟩
  .rw[Cb _ _ (λz=>by rw[<-z,C]at q;cases q)]
   exact Aj _ (I b o q)
  .obtain⟨x,n⟩:=j.2.2 b o q;exact⟨_,VG m g b _ (Aj _ n) f,rfl⟩
  .rw[Cb _ _ w.symm];exact Ay d rfl
 .intro b o q f;obtain⟨x,n⟩:=j.2.2 b o q;exact⟨x,VG m g b _ (Aj _ n) f⟩
def D4{vs:Array Value}(a:A.frames=some (env::outer))(j:s.heap.FunFrames B (env::outer))(c:env.frame=some L)(l:B.StaysIn s.heap)(i:B.get? e=none)(d:s.heap.get? e=some oe)(f:oe.data=.fields vs)(g:vs[1]?=some .none)(m:vs[2]?=some .none)(k:∀b,X2 B (env::outer) e oe.cls oe.dict (rawInt L) b->s.heap.UpToSlots b->Q () {s with heap:=b}):wpAny M A (noteFrame (.ref e) env) Q E s:=by
 unfold noteFrame;simp only[c];refine Ae (wpAny_field d f g ?_)
 exact zL a j c l i d f (Ds.mp g).1 m k
def vV(j:A.frames=some (env::outer))(m:env.frame=some L)(F:X2 B (env::outer) e cls d .none s.heap)(y:∀c,X2 B (env::outer) e cls d (rawInt L) c->s.heap.UpToSlots c->Q () {s with heap:=c}):wpAny M A (noteFrame (.ref e) env) Q E s:=by
 obtain⟨C,u,v,J,H,T,K,I,n,⟨rfl,rfl⟩,p,r,x,k,g,i,l,D⟩:=F;unfold noteFrame;simp only[m];refine Ae (wpAny_field n p r ?_);rw[if_pos (show (Value.ref T != Value.none)=true by simp)]
 refine Ae (wpAny_field g i l ?_);rw[if_neg (show ¬((Value.none==rawInt L)=true) by simp[rawInt])]
 refine Ae (wpAny_setField g i (Ds.mp l).1 ?_);have a:∀b,b≠T->(s.heap.update T (Obj.mapFields (·.setIfInBounds 3 Value.none))).get? b=s.heap.get? b:=λb w=>Cb _ _ (Ne.symm w)
 refine zL (s:={s with heap:=s.heap.update T (Obj.mapFields (·.setIfInBounds 3 Value.none))}) j (v.of_keeps λb o q f=>⟨o,VG g i b o q f,rfl⟩) m
  (λb o q=>(a b λz=>by grind).trans (C b o q)) u ((a e k.symm).trans n) p (Ds.mp r).1 D λc G t=>y c G λb o q f=>t b o (VG g i b o q f) f
def fR(F:X2 B l e cls d fl s.heap)(D:∀i,X2 B l e cls d .none i->s.heap.UpToSlots i->Q () {s with heap:=i}):wpAny M A (setFlight (.ref e) none) Q E s:=by
 obtain⟨G,x,y,w,t,T,I,u,k,C,m,p,n,a,c,f,v,H⟩:=F;have j:=(Ds.mp v).1
 unfold setFlight;refine Ae (wpAny_field k m p ?_);rw[if_pos (show (Value.ref T != Value.none)=true by simp)]
 refine wpAny_setField c f j (D _ ?_ λb o q g=>⟨o.slots,VG c f b o q g⟩);have r:=Obj.data_mapFields f (·.setIfInBounds 3 Value.none)
 refine⟨λb o q=>?_,x,y.of_keeps λb o q g=>⟨o,VG c f b o q g,rfl⟩,w,t,T,_,_,?_,C,m,p,n,a,Heap.get?_update_self _ c (Obj.isFreed_of_fields r),r,by simp[j],H⟩
 .rw[Cb _ _ (λz=>by grind)]
  exact G b o q
 .rw[Cb _ _ a];exact k
def X2.less(F:X2 B (env::outer) e cls d fl h):X2 B outer e cls d fl h:=⟨F.stays,F.new,F.frames.2.2,F.on⟩
def AW{vs:Array Value}(a:A.frames=some (env::outer))(i:s.heap.FunFrames B (env::outer))(j:env.frame=some L)(n:B.StaysIn s.heap)(g:B.get? e=none)(k:s.heap.get? e=some oe)(l:oe.data=.fields vs)(b:vs[1]?=some .none)(p:vs[2]?=some .none)(m:∀c,X2 B outer e oe.cls oe.dict .none c->s.heap.UpToSlots c->Q () {s with heap:=c}):wpAny M A (leaving env (.ref e)) Q E s:=by
 exact Ae (D4 a i j n g k l b p λb r f=>fR  r λo q d=>m o q.less (f.trans d))
def DY(a:A.frames=some (env::outer))(g:env.frame=some L)(F:X2 B (env::outer) e cls d .none s.heap)(i:∀b,X2 B outer e cls d .none b->s.heap.UpToSlots b->Q () {s with heap:=b}):wpAny M A (leaving env (.ref e)) Q E s:=by
 exact Ae (vV a g F λk m f=>fR  m λj l c=>i j l.less (f.trans c))
end
structure Mh (fs:List Addr) (H H':Hp) (h B h':Heap):Prop where
 keep:∀b o,h.get? b=some o->H b=none->b∉fs->B.get? b=some o
 slot:∀b o,h.get? b=some o->H b=none->b∈fs->∃sl,h'.get? b=some {o with slots:=sl}
 free:∀b o,h.get? b=some o->H b=none->H' b=none
 there:∀b o,h.get? b=some o->b∉fs->∃o',B.get? b=some o'
 tups:∀b xs,H b=some (.tup xs)->H' b=some (.tup xs)
 frzs:∀b o u,H b=some (.frz o u)->H' b=some (.frz o u)
 tbls:∀b ps,H b=some (.tbl ps)->∃more,H' b=some (.tbl (ps++more))
def Za(P:Program)(w:World):Yg:=λa H s E e c=>
 ∃g b d B f,e=.ref g/\c.os=s.os/\AllBare c.gens/\X2 B a g b d .none c.heap/\Zl P w f B/\Mh (YZ a) H f s.heap B c.heap/\E b d f
def Zl.down(x:Zl P w H h)(k:∀b o u,H b=some u->h.get? b=some o->B.get? b=some o):Zl P w H B:=λa u e=>
 (x a u e).ZC (λb o c q=>by grind) (λ_ q=>q) λ_ _ q=>q
def ZX.get{o:HO}(x:ZX P w H h a o):∃b,h.get? a=some b:=by
 cases o with
 |lst d=>obtain⟨_,_,_,_,e⟩:=x;exact⟨_,e⟩
 |tup d=>obtain⟨_,_,_,b,e,_⟩:=x;exact⟨_,e⟩
 |dK c=>obtain⟨_,_,_,_,b,_,_,e,_⟩:=x;exact⟨_,e⟩
 |dT c=>obtain⟨_,_,_,_,b,_,_,e,_⟩:=x;exact⟨_,e⟩
 |set S n=>obtain⟨b,_,_,_,e,_⟩:=x;exact⟨_,e⟩
 |ins C p g=>obtain⟨_,_,_,e,_⟩:=x;exact⟨_,e⟩
 |own y=>exact x
 |xd g=>obtain⟨_,⟨k,_,_,e,_⟩,_⟩:=x;exact⟨_,e⟩
 |rng l m=>obtain⟨_,_,_,e⟩:=x;exact⟨_,e⟩
 |frz b u=>exact⟨_,x.1⟩
 |tbl j=>exact⟨_,x⟩
 |met f y=>exact⟨_,x⟩
 |ext i=>exact x.2.1
def Zl.hole(x:Zl P w H h)(e:h.get? a=none):H a=none:=by
 cases q:H a with
 |none=>rfl
 |some o=>
  obtain⟨b,z⟩:=(x a o q).get;grind
def jM(c:env.frame=some L)(g:b≠L)(f:b∉YZ outer):b∉YZ (env::outer):=λa=>by
 obtain⟨e,d,q⟩:=Cq.mp a;rcases Bc.mp d with z|z
 .subst z;rw[c]at q;exact g (Bj q).symm
 .exact f (Cq.mpr ⟨e,z,q⟩)
section
variable {cd:Value} {s₀:Shared} {H₀:Hp} {E:XK} {U:St}
def GZ{vs:Array Value}(I:Inv (iL (Za P w) P w K mg base N qual scope f cd A outer s₀ H₀ E) y6 U H s)(t:s.heap.get? ea=some oe)(O:oe.data=.fields vs)(Q:vs[1]?=some .none)(V:vs[2]?=some .none)(M:H ea=none)(R:s₀.heap.get? ea=none)(q:E oe.cls oe.dict H):(iL (Za P w) P w K mg base N qual scope f cd A outer s₀ H₀ E).xe (.ref ea) s:=by
 have r:=I.ok.frames
 have l:=I.stack
 have m:=I.Y7
 have a:=I.base
 have i:∀b o,s₀.heap.get? b=some o->b≠s₀.heap.objs.size:=λb o e=>Bm (Ax e)
 have h:∀b o,s₀.heap.get? b=some o->b≠ea:=λb o e z=>by rw[z,R]at e;cases e
 have d:∀b o,s.heap.get? b=some o->b≠ea->b∉YZ (envOfC qual scope s₀.heap.objs.size f cd::outer)->(W.hideAll s.heap (ea::YZ (envOfC qual scope s₀.heap.objs.size f cd::outer))).get? b=some o:=λb o e L J=>
  W.hideAll_get _ e λp=>(Bc.mp p).elim L J
 refine AW (B:=W.hideAll s.heap (ea::YZ (envOfC qual scope s₀.heap.objs.size f cd::outer))) r (W.funFrames_hide l λv t b c=>Ak _ (Cq.mpr ⟨v,t,c⟩)) rfl (λb o q=>W.of_hideAll _ q)
  (W.hideAll_none _ Al) t O Q V λY T C=>?_
 refine⟨ea,_,_,_,H,rfl,I.os,I.bare,T,I.Z3.down λb o u e g=>d b o g (λz=>by rw[z,M]at e;cases e) λp=>?_,⟨λb o e n c=>?_,λb o e n c=>?_,λb o e n=>a.free b o e n (by simp[iL]),λb o e c=>?_,a.tups,a.frzs,a.tbls⟩,q⟩
 .rw[m b p]at e;cases e
 .exact d b o (a.keep b o e n c (by simp[iL])) (h b o e) (jM rfl (i b o e) c)
 .obtain⟨X,k⟩:=a.slot b o e n c (by simp[iL])
  obtain⟨_,F,S,G⟩:=I.ok.Zk.mem c;have y:s₀.heap.get? b=some F:=S
  rw[e]at y;cases y;obtain⟨j,D⟩:=C b _ k G;exact⟨j,D⟩
 .obtain⟨x,k⟩:=a.there b o e (by simp[iL])
  exact⟨x,d b x k (h b o e) (jM rfl (i b o e) c)⟩
def cB:iE (Za P w) (iL (Za P w) P w K mg base N qual scope f cd A outer s₀ H₀ E) E:=by
 intro Z U H s e s' I h;obtain⟨W,x,d,B,Y,rfl,L,j,V,r,g,q⟩:=h;have a:=I.base
 have t:∀b o,s₀.heap.get? b=some o->b≠s₀.heap.objs.size:=λb o e=>Bm (Ax e)
 refine DY I.ok.frames rfl V λh2 v C=>?_;have z:∀b o,s₀.heap.get? b=some o->b∉YZ outer->b∉YZ (envOfC qual scope s₀.heap.objs.size f cd::outer):=λb o e c=>jM rfl (t b o e) c
 have p:∀b,b∈YZ outer->b∈YZ (envOfC qual scope s₀.heap.objs.size f cd::outer):=λb c=>by
  obtain⟨e,S,q⟩:=Cq.mp c;exact Cq.mpr ⟨e,Ak _ S,q⟩
 refine⟨W,x,d,B,Y,rfl,L.trans I.os,j,v,r,⟨λb o e n c=>?_,λb o e n c=>?_,λb o e n=>?_,λb o e c=>?_,λb y e=>g.tups b y (a.tups b y e),λb o u e=>g.frzs b o u (a.frzs b o u e),λb J e=>?_⟩,q⟩
 .exact g.keep b o (a.keep b o e n c (by simp[iL])) (a.free b o e n (by simp[iL])) (z b o e c)
 .obtain⟨sl,i⟩:=a.slot b o e n c (by simp[iL])
  obtain⟨D,G⟩:=g.slot b _ i (a.free b o e n (by simp[iL])) (p b c)
  obtain⟨_,M,T,O⟩:=I.ok.Zk.mem c;have k:s₀.heap.get? b=some M:=T
  rw[e]at k;cases k;obtain⟨l,F⟩:=C b _ G O;exact⟨l,F⟩
 .obtain⟨m,i⟩:=a.there b o e (by simp[iL])
  exact g.free b m i (a.free b o e n (by simp[iL]))
 .obtain⟨m,i⟩:=a.there b o e (by simp[iL])
  exact g.there b m i (z b o e c)
 .obtain⟨R,X⟩:=a.tbls b J e;obtain⟨Q,k⟩:=g.tbls b _ X;exact⟨R++Q,by rw[k,Array.append_assoc]⟩
end
def AJ(X:K.In h)(q:W.excIn K C bmB newId=true):∃d N p m u s k a v b t j i g f e z,h.get? C=some (excClassObj p m C N u d s k a v b t j i g f e newId)/\h.Ns N z/\z "__init__"=none/\OwnTail h bmB d:=by
 unfold W.excIn at q;split at q
 .rename_i t c w I
  split at q
  .rename_i L d j i g f n e A H
   obtain⟨⟨⟨⟨⟨E,D⟩,y⟩,B⟩,o⟩,x⟩:((((L=C/\n=newId)/\c.hasDel=false)/\W.tailIn K bmB d=true)/\W.nsOkIn K c.ns=true)/\W.nsIn K c.ns "__init__"=some none:=by simp_all
   subst E D;obtain⟨p,u,G,F,m,s,k,a,v,b,J⟩:=c;dsimp only at A y o x;subst A y;obtain rfl:w=#[j,i,g,f,some (.builtin n),e]:=by
    obtain⟨l⟩:=w;have r:l=_:=H
    rw[r]
   exact⟨d,F,p,m,u,s,k,a,v,b,t,j,i,g,f,e,_,X _ _ I,.of_isNs (W.isNs_of_in X o),W.nsMap_none_of_in X o x,W.tail_of_in X B⟩
  .cases q
 .cases q
def R3(X:Cx)(E:XK):Prop:=∀d (U:St) H s b a c,Inv X d U H s->s.heap.get? b=some a->a.data=.fields c->c[1]?=some .none->c[2]?=some .none->H b=none->X.s₀.heap.get? b=none->
 E a.cls a.dict H->X.xe (.ref b) s
def fY{i:Value}{a:Shared}{b:Hp}{E:XK}:R3 (iL (Za P w) P w K mg base N qual scope f i A outer a b E) E:=λ_ _ _ _ _ _ _ I d e g j c h q=>GZ I d e g j c h q
section
variable {E:XK} {B initId:String}
def Pk(C:Addr)(E:XK)(b:TA):TS:=λ_ U H=>b U H λa c=>a.length<=sizeLine/\E (.ref C) none c
def jY(J:R3 X E)(f:X.ex=[])(F:X.calm=true)(y:Gl X x)(w:X.mg x=some (.ref C))(a:W.excIn X.K C bmB newId=true)(u:ExcBaseFacts B newId initId bmB)(G:PA X (e::es) ta)(A:(x==("__debug__" : Str))=false:=by decide)(n:starEach (e::es) X.env=(false,eval e X.env)::starEach es X.env:=by rfl)(c:(backTo cpos (starEach es X.env)).any (·.1)=false:=by rfl):PS X (.Raise (some (.Call (.Name x np) (e::es) [] cpos)) none pos) (Pk C E ta):=by
 intro k s U H D I h;obtain⟨bm,N,nm,q,bs,hdct,sn,sub,ab,col,dd,k0,k1,k2,k3,k5,mN,M,L,d,T⟩:=AJ I.ok.mod.WO a;refine wpAny_Raise_call_subT (C:=C) (N:=N) (bm:=bm) (nm:=nm) (q:=q) (bs:=bs) (hdct:=hdct) (sn:=sn) (sub:=sub) (ab:=ab) (col:=col) (dd:=dd) (k0:=k0) (k1:=k1) (k2:=k2) (k3:=k3) (k5:=k5)
  u (mN:=mN) (T.hasType u.hasBase) (I.ok.hd F) (by rw[n];show (false || (backTo cpos (starEach es X.env)).any (·.1))=false;rw[c];rfl) d (hZ I y w ⟨rfl,?_⟩ A)
 have p:=G cpos k s U H _ I h
 rw[n]at p ⊢;refine Gz (ZY p λv l ⟨Q,P,b,r,m⟩=>⟨rfl,?_,b.bk _ _ M,L.keeps b.bk,T.keeps b.bk,λO i a=>?_⟩)
 .show v.length<=sizeLine
  rw[<-r.length];exact m.1
 .obtain⟨t,g,_,_⟩:=a.there;refine J k U P {l with heap:=O} i _ _ (b.kept (t':=l.toks) a.keeps) g rfl rfl rfl (b.Z3.hole a.new) ?_ m.2
  cases z:X.s₀.heap.get? i with
  |none=>rfl
  |some o=>
   obtain⟨R,j⟩:=b.base.there i o z (by rw[f];simp)
   rw[a.new]at j;cases j
end
noncomputable abbrev Cx.tr(X:Cx)(y6:List (Addr×Obj))(xe:Value->Shared->Prop):Cx:={X with pn:=X.pn++y6,xe:=xe}
noncomputable abbrev Cx.Yj(X:Cx)(y6:List (Addr×Obj))(ea:Addr):Cx:={X with A:=X.A.mark (some (.ref ea)),calm:=false,pn:=X.pn++y6,xe:=λ_ _=>False}
section
variable {pins':Q2} {U:St} {xe:Q0}
def Inv.tr(I:Inv X y6 U H s)(a:Q0):Inv (X.tr y6 a) [] U H s:=
 ⟨⟨I.ok.mod,I.ok.kind,I.ok.glob,I.ok.blt,I.ok.above,I.ok.inj,I.ok.has,I.ok.Wx,I.ok.hd,I.ok.frames,I.ok.Wl,I.ok.VI,I.ok.bs,I.ok.XI,I.ok.X_,I.ok.X6,I.ok.Zk,I.ok.WZ⟩,I.os,I.bare,I.base,I.loc,I.cell,I.free,I.ZO,
  λp b=>I.pin p (by rwa [Bs]at b),I.Z3,I.len⟩
def Inv.Y1(I:Inv (X.tr y6 xe) pins' U H s):Inv X y6 U H s:=
 ⟨⟨I.ok.mod,I.ok.kind,I.ok.glob,I.ok.blt,I.ok.above,I.ok.inj,I.ok.has,I.ok.Wx,I.ok.hd,I.ok.frames,I.ok.Wl,I.ok.VI,I.ok.bs,I.ok.XI,I.ok.X_,I.ok.X6,I.ok.Zk,I.ok.WZ⟩,I.os,I.bare,I.base,I.loc,I.cell,I.free,I.ZO,
  λp a=>I.pin p (Dg _ a),I.Z3,I.len⟩
def Inv.Yj(I:Inv X y6 U H s)(b:Addr):Inv (X.Yj y6 b) [] U H s:=
 ⟨⟨I.ok.mod,I.ok.kind,I.ok.glob,I.ok.blt,I.ok.above,I.ok.inj,I.ok.has,I.ok.Wx,(λz=>nomatch z),I.ok.frames,I.ok.Wl,I.ok.VI,I.ok.bs,I.ok.XI,I.ok.X_,I.ok.X6,I.ok.Zk,I.ok.WZ⟩,I.os,I.bare,I.base,I.loc,I.cell,I.free,I.ZO,
  λp a=>I.pin p (by rwa [Bs]at a),I.Z3,I.len⟩
def Inv.YF(I:Inv (X.Yj y6 ea) pins' U H s)(ok:X.Ok):Inv X y6 U H s:=
 ⟨ok,I.os,I.bare,I.base,I.loc,I.cell,I.free,I.ZO,λp a=>I.pin p (Dg _ a),I.Z3,I.len⟩
structure VH (X:Cx) (y6:List (Addr×Obj)) (a:Addr):Prop where
 s0:X.s₀.heap.get? a=none
 loc:a≠X.env.locals
 cell:∀x c,X.env.cells.lookup x=some c->c≠a
 pin:∀p∈X.pn++y6,p.1≠a
def Inv.adopt{a:Addr}{o:HO}(I:Inv X y6 U H s)(f:VH X y6 a)(r:H a=none)(g:ZX X.prog X.w (upd H a o) s.heap a o):Inv X y6 U (upd H a o) s:=by
 have d:∀b u,H b=some u->b≠a:=λb u e=>bI e r
 refine⟨I.ok,I.os,I.bare,⟨I.base.keep,I.base.slot,λb u e n l=>?_,I.base.there,λb h e=>?_,λb u v e=>?_,λb k e=>?_⟩,I.loc,I.cell,by rw[aH f.loc.symm];exact I.free,λx c e=>by rw[aH (f.cell x c e)];exact I.ZO x c e,λp i=>?_,λb u e=>?_,I.len⟩
 .rw[aH (λz=>by rw[z,f.s0]at e;cases e)]
  exact I.base.free b u e n l
 .have q:=I.base.tups b h e
  rw[aH (d b _ q)];exact q
 .have q:=I.base.frzs b u v e
  rw[aH (d b _ q)];exact q
 .obtain⟨m,q⟩:=I.base.tbls b k e;exact⟨m,by rw[aH (d b _ q)];exact q⟩
 .obtain⟨A,y,t⟩:=I.pin p i;exact⟨A,by rw[aH (f.pin p i)];exact y,t⟩
 .by_cases j:b=a
  .subst j;rw[aE]at e;cases e;exact g
  .rw[aH j]at e;exact(I.Z3 b u e).ZC (λc v _ q=>q) (λc q=>by rw[aH (d c _ q)];exact q) λc h q=>by rw[aH (d c _ q)];exact q
def Inv.V9{n:Str}{m:Q5}{v:Option Value}{t:Nat}(I:Inv X y6 U H s)(hN:X.N.Nodup)(K:X.N[i]?=some n)(hm:s.heap.Ns X.env.locals m)(hl:X.env.scope.names.lookup n=some .local)(J:h'.Ns X.env.locals (λx=>if x=n then v else m x))(Y:Heap.SameBut X.env.locals s.heap h'):Inv X y6 (U.set i none) H {s with heap:=h',toks:=t}:=by
 have k:∀b o,b≠X.env.locals->s.heap.get? b=some o->h'.get? b=some o:=λb o d e=>(Y.2 b d).trans e
 have G:∀b o,X.s₀.heap.get? b=some o->b≠X.env.locals:=λb o e=>Bm (Bd (Ax e) I.ok.above)
 have f:∀b o,s.heap.get? b=some o->∃l,h'.get? b=some l:=λb o e=>by
  by_cases d:b=X.env.locals
  .obtain⟨l,_,_,q,_⟩:=J;exact⟨l,by rw[d];exact q⟩
  .exact⟨o,k b o d e⟩
 obtain⟨Z,E,F⟩:=id I.loc;refine⟨I.ok,I.os,I.bare,⟨λb o e n d A=>k b o (G b o e) (I.base.keep b o e n d A),λb o e n d A=>?_,I.base.free,λb o e A=>?_,I.base.tups,I.base.frzs,I.base.tbls⟩,⟨_,J,λj y u P C e3=>?_⟩,λx c e=>?_,I.free,I.ZO,λp hp=>?_,λb u e=>?_,by rw[Cy];exact I.len⟩
 .obtain⟨W,q⟩:=I.base.slot b o e n d A;exact⟨W,k b _ (G b o e) q⟩
 .obtain⟨l,q⟩:=I.base.there b o e A;exact f b l q
 .have B:j≠i:=λz=>by
   subst z;rw[Dt (by rw[I.len];exact(Ad.mp K).1)]at C
   cases C
  rw[Ee (Ne.symm B)]at C;have D:y≠n:=λz=>B (wU hN P (by rw[z];exact K))
  obtain⟨V,r,w⟩:=F j y u P C e3;have em:Z=m:=by
   obtain⟨o1,a2,a4,g1,d1,_,f1⟩:=E;obtain⟨o2,a1,a3,M,Q,_,f2⟩:=hm;rw[g1]at M;cases M;rw[d1]at Q;cases Q;funext z
   rw[<-f1 z,f2 z]
  refine⟨V,r,?_⟩;rcases w with⟨a,g⟩|⟨a,c,g,o,S,R⟩
  .exact .inl ⟨a,by show (if y=n then v else m y)=_;rw[if_neg D,<-em];exact g⟩
  .exact .inr ⟨a,c,g,o,k c o (I.Vk y c g) S,R⟩
 .obtain⟨T,o,a,g⟩:=I.cell x c e;exact⟨T,o,k c o (I.Vk x c e) a,g⟩
 .obtain⟨h1,h2,L,h4⟩:=I.pin p hp;exact⟨k _ _ L h1,h2,L,h4⟩
 .refine(I.Z3 b u e).ZC (λc o hc q=>k c o (λz=>?_) q) (λ_ q=>q) λ_ _ q=>q;have O:=I.free
  rcases hc with a|a
  .rw[<-a,z,O]at e;cases e
  .rw[z,O]at a;cases a
end
noncomputable def yH(e:Addr)(b:Value)(d:Option Addr):HO:=.ext λh=>∃a c,h.get? e=some a/\a.cls=b/\a.dict=d/\a.data=.fields c
def X2.obj{l:List Env}{a fl:Value}(F:X2 B l ea a d fl h):ZX P w H h ea (yH ea a d):=by
 obtain⟨b,i,T,n,m,c,e,j,_⟩:=F.on;exact⟨⟨b,i,c,e.1,e.2,j⟩,⟨b,c⟩,λr p ⟨o,f,g,q⟩ k=>⟨o,f,k o g,q⟩⟩
def XS(X:Cx)(h:List (Addr×Obj))(R:Value->Option Addr->St->Hp->Prop):Value->Shared->Prop:=λe c=>
 ∃b a d B i g,e=.ref b/\X2 B X.stack b a d .none c.heap/\VH X h b/\g b=none/\(∀f,B.StaysIn f->c.heap.UpToSlots f->Inv X h i g {c with heap:=f})/\R a d i g
def zM(CX:Yg)(X:Cx)(c:St->XK):Prop:=∀b (U:St) H s e a,Inv X b U H s->CX X.stack H s (c U) e a->X.xe e a
def xI{R:Value->Option Addr->St->Hp->Prop}(M:X.ex=[]):zM (Za X.prog X.w) (X.tr y6 (XS X y6 R)) (λU i d A=>R i d U A):=by
 intro J U H s e G I' h;obtain⟨k,i,d,B,A,rfl,Y,u,F,r,f,q⟩:=h;have I:=I'.Y1
 have F:=F
 have f:=f
 have K:k∉YZ X.stack:=λhm=>by
  obtain⟨_,o,g,L⟩:=F.frames.mem hm;obtain⟨oe,V,T,oT,ts,N,hc,hd,_⟩:=F.on;rw[g]at N;cases N;exact L V hd
 have y:∀b o,s.heap.get? b=some o->b≠k:=λb o g z=>by
  subst z;obtain⟨l,Q⟩:=f.there b o g K;rw[F.new]at Q;cases Q
 refine⟨k,i,d,B,U,A,rfl,F,⟨?_,?_,λx c z=>?_,λp Z=>?_⟩,r.hole F.new,λO C W=>?_,q⟩
 .cases z:X.s₀.heap.get? k with
  |none=>rfl
  |some o=>
   obtain⟨l,S⟩:=I.base.there k o z (by rw[M];simp)
   exact absurd rfl (y k l S)
 .obtain⟨m,⟨o,_,_,g,_⟩,_⟩:=I.loc;exact(y _ o g).symm
 .obtain⟨v,o,g,_⟩:=I.cell x c z;exact y c o g
 .exact y p.1 p.2 (I.pin p Z).1
 .have j:∀ b o,s.heap.get? b=some o->b∈YZ X.stack->∃ E,O.get? b=some { o with slots:=E }:=λb o g a=>by
   obtain⟨E,t⟩:=f.slot b o g (I.Y7 b a) a;obtain⟨_,o2,P,L⟩:=I.stack.mem a;rw[g]at P;cases P;obtain⟨D,g3⟩:=W b _ t L;exact⟨D,g3⟩
  refine I.Wu (s':={G with heap:=O}) (ch:=[]) Y ⟨λb o g n a _=>C b o (f.keep b o g n a),λb o g n a _=>j b o g a,λb o g n _=>f.free b o g n,λb o g _=>?_,f.tups,f.frzs,f.tbls⟩ (r.kept λb o g=>C b o g) u λb a=>absurd a (by simp)
  by_cases a:b∈YZ X.stack
  .obtain⟨E,t⟩:=j b o g a;exact⟨_,t⟩
  .obtain⟨l,t⟩:=f.there b o g a;exact⟨l,C b l t⟩
section
variable {CX:Yg} {k:Nat} {ps:List Str} {Es:St->XK} {p:Pos} {t:TA}
def SO(sp:Sp)(c:St->XK)(t:TA):TE:=λU H Q=>t U H λa b=>sp a b Q (c U)
def MY(F:Z8 X.prog X.w X.K X.mg X.base CX k f fd ps sp)(z:Z2 k X.A)(E:Gl X x)(B:X.mg x=some (.ref f))(D:W.keepIn X.K (.ref f)=true)(J:Binds X.K fd ps [])(y:zM CX X Es)(L:PA X (e::es) t)(j:(x==("__debug__" : Str))=false:=by decide)(G:starEach (e::es) X.env=(false,eval e X.env)::starEach es X.env:=by rfl)(i:(backTo pos (starEach es X.env)).any (·.1)=false:=by rfl):PE X (.Call (.Name x p) (e::es) [] pos) (SO sp Es t):=by
 intro l s U H Q I h;refine Dr (hZ I E B ?_ j);refine Fg (h₀:=X.base) I.ok.mod.WO D (ZY (L pos l s U H _ I h) λd g ⟨n,m,c,r,q⟩=>⟨c.Y_,?_⟩) G i;have C:d.length=ps.length:=by rw[<-r.length];exact F.len _ _ _ _ q
 have b:=J g d c.Y_ (by simp_all)
 rw[Bs]at b;refine Gj (Fb (F.run X.A X.stack g m ⟨d,[]⟩ d n Q (Es U) z c.Xh b r q) λv o a=>?_);cases v with
 |error e=>exact y l U m g e o c a
 |ok M=>
  cases M with
  |ret u=>exact c.after a
  |next=>exact False.elim a
  |brk=>exact False.elim a
  |cont=>exact False.elim a
end
def PR(K:W.Frag)(C:Addr)(i:Nat)(mk:(Value->Option Addr->St->Hp->Prop)->TS)(g:TS):TS:=λD U H=>
 mk (λa d h f=>W.exmOne K a (.ref C)=some true/\∀e,f e=none->
  g {nx:=λb c=>D.nx (b.set i none) c,rt:=D.rt,bk:=λb c=>D.bk (b.set i none) c,ct:=λb c=>D.ct (b.set i none) c} (h.set i (some (.ref e))) (upd f e (yH e a d))) D U H
def SP.Y1{c:Q0}{f:Flow}{s':Shared}(h:SP (X.tr y6 c) [] D f s'):SP X y6 D f s':=by
 cases f with
 |next=>obtain⟨a,b,I,q⟩:=h;exact⟨a,b,I.Y1,q⟩
 |brk=>obtain⟨a,b,I,q⟩:=h;exact⟨a,b,I.Y1,q⟩
 |cont=>obtain⟨a,b,I,q⟩:=h;exact⟨a,b,I.Y1,q⟩
 |ret u=>obtain⟨v,a,b,I,r,q⟩:=h;exact⟨v,a,b,I.Y1,r,q⟩
def G3{a:List Stmt}{b0:Stmt}{n:Str}{hp:Pos}{i:Nat}{mk:(Value->Option Addr->St->Hp->Prop)->TS}(l:X.stack=X.env::X.outer)(Z:X.env.frame=some X.env.locals)(a4:X.ex=[])(hN:X.N.Nodup)(hi:X.N[i]?=some n)(P:X.env.scope.names.lookup n=some .local)(hg:Gl X x)(hm:X.mg x=some (.ref C))(hb:∀c R,Yw (X.tr c (XS X c R)) body (mk R))(hs:∀c g,Yw (X.Yj c g) (b0::a) ts)(hd:(x==("__debug__" : Str))=false:=by decide):PS X (.Try body [.ExceptHandler (some (.Name x np)) (some n) (b0::a) hp] [] [] pos) (PR X.K C i mk ts):=by
 intro c s U H D I h;have Y:X.A.frames=some (X.env::X.outer):=by rw[<-l];exact I.ok.frames
 have L:(X.env.scope.kind == .class || (X.env.scope.kind == .module&&X.env.locals != X.env.globals))=false:=by rw[I.ok.kind];rfl
 refine wpAny_Try_except (Co (hb c _ [] s U H D (I.tr _) h) (λf O q=>?_) λe O q=>?_)
 .cases f with
  |next=>
   obtain⟨U',H',I',q⟩:=q.Y1;exact bF c O U' H' D I' q
  |brk=>exact q.Y1
  |cont=>exact q.Y1
  |ret u=>exact q.Y1
 .obtain⟨g,a2,d,B,U1,H1,rfl,F,a1,hn,G,hx,r⟩:=q;rw[l]at F;refine vV Y Z F λh2 F2 u2=>fR (s:={O with heap:=h2}) F2 λh3 F3 u3=>?_
  have I3:=G h3 F3.stays (u2.trans u3)
  refine wpAny_handleBy_cons (codeAny_handlers_test (hZ (I3.Yj g) hg hm ?_ hd)) (by intro q;cases q)
  obtain⟨oe,vs,T,oT,a3,he,hc,_⟩:=id F3.on;refine W.exm_one I3.Y_ (hc.1▸(W.Looks.ld he).andThen .now) hx _ _ _ _ (λ_ _ q=>q) ?_;refine codeAny_handlers_suite_as (fR (s:={O with heap:=h3}) F3 λh4 F4 u4=>?_)
  have I4:=(G h4 F4.stays ((u2.trans u3).trans u4)).adopt (o:=yH g a2 d) a1 hn F4.obj
  refine vB I4 hN hi (.inl P) (v:=.ref g) rfl (λs5 I5=>?_) (.inr P);refine Co (hs c g [] s5 _ _ _ (I5.Yj g) (r g hn)) (λf s6 q=>?_) λ_ _ z=>z.elim;have S:∀ {p:St} {b:Hp} {Q:Unit->Shared->Prop} {E:Q0},Inv (X.Yj c g) [] p b s6->(∀ y,Inv X c (p.set i none) b y->Q () y)->
      wpAny (model X.prog X.w) X.A (do bindName X.env n .none;unbindBehindTheSuite X.env n hp) Q E s6:=fun {p b Q E} j k=>by
   have M:=j.YF I.ok
   obtain⟨m,J,_⟩:=id M.loc;exact wpAny_nameGoes_keeps P J L λh7 v V sb=>k _ (M.V9 hN hi J P V sb)
  cases f with
  |next=>
   obtain⟨p,b,j,q⟩:=q;exact S j λy t=>⟨_,b,t,q⟩
  |brk=>
   obtain⟨p,b,j,q⟩:=q;exact S j λy t=>⟨_,b,t,q⟩
  |cont=>
   obtain⟨p,b,j,q⟩:=q;exact S j λy t=>⟨_,b,t,q⟩
  |ret u=>
   obtain⟨v,p,b,j,rv,q⟩:=q;exact S j λy t=>⟨v,_,b,t,rv,q⟩
def SP.YF{f:Flow}{s':Shared}(ok:X.Ok)(h:SP (X.Yj y6 ea) [] D f s'):SP X y6 D f s':=by
 cases f with
 |next=>obtain⟨a,b,I,q⟩:=h;exact⟨a,b,I.YF ok,q⟩
 |brk=>obtain⟨a,b,I,q⟩:=h;exact⟨a,b,I.YF ok,q⟩
 |cont=>obtain⟨a,b,I,q⟩:=h;exact⟨a,b,I.YF ok,q⟩
 |ret u=>obtain⟨v,a,b,I,r,q⟩:=h;exact⟨v,a,b,I.YF ok,r,q⟩
def OS(K:W.Frag)(C:Addr)(mk:(Value->Option Addr->St->Hp->Prop)->TS)(b:TS):TS:=λD U H=>mk (λa d c e=>W.exmOne K a (.ref C)=some true/\b D c e) D U H
def IJ{a:List Stmt}{t:Stmt}{G:Pos}{mk:(Value->Option Addr->St->Hp->Prop)->TS}(c:X.stack=X.env::X.outer)(l:X.env.frame=some X.env.locals)(M:X.ex=[])(L:Gl X x)(J:X.mg x=some (.ref C))(Q:∀b R,Yw (X.tr b (XS X b R)) body (mk R))(hs:∀b i,Yw (X.Yj b i) (t::a) ts)(O:(x==("__debug__" : Str))=false:=by decide):PS X (.Try body [.ExceptHandler (some (.Name x np)) none (t::a) G] [] [] pos) (OS X.K C mk ts):=by
 intro b s U H D I h;have k:X.A.frames=some (X.env::X.outer):=by rw[<-c];exact I.ok.frames
 refine wpAny_Try_except (Co (Q b _ [] s U H D (I.tr _) h) (λf j q=>?_) λe j q=>?_)
 .cases f with
  |next=>
   obtain⟨U',H',I',q⟩:=q.Y1;exact bF b j U' H' D I' q
  |brk=>exact q.Y1
  |cont=>exact q.Y1
  |ret u=>exact q.Y1
 .obtain⟨i,Z,d,B,U1,H1,rfl,F,Y,hn,g,E,r⟩:=q;rw[c]at F;refine vV k l F λV F2 o=>fR (s:={j with heap:=V}) F2 λp m n=>?_
  have v:=g p m.stays (o.trans n)
  refine wpAny_handleBy_cons (codeAny_handlers_test (hZ (v.Yj i) L J ?_ O)) (by intro q;cases q)
  obtain⟨oe,vs,T,oT,y,N,P,_⟩:=id m.on;refine W.exm_one v.Y_ (P.1▸(W.Looks.ld N).andThen .now) E _ _ _ _ (λ_ _ q=>q) ?_;refine codeAny_handlers_suite (fR (s:={j with heap:=p}) m λS F4 w=>?_)
  have I4:=g S F4.stays ((o.trans n).trans w)
  exact Co (hs b i [] _ _ _ _ (I4.Yj i) r) (λf s6 q=>q.YF I.ok) λ_ _ z=>z.elim
def EF(h:mk (λa d b c=>W.exmOne K a (.ref C)=some true/\ts D b c) D U H):OS K C mk ts D U H:=h
section
open PySem.W
structure Xr (K:Frag) (D:Addr):Prop where
 cls:hasDictIn K D=true
 ga:findIn K (.ref D) "__getattribute__"=some (some (.builtin "BaseException.__getattribute__"))
 gh:findIn K (.ref D) "__getattr__"=some none
 ca:findIn K (.ref D) "__class__"=some (some (.builtin "object.__class__"))
 cg:specialIn K (.builtin "object.__class__") "__get__"=some (some (.builtin "getset_descriptor.__get__"))
 ct:takesIn K (.builtin "object.__class__")=some true
 mo:mroIn K D (.type "object")=some true
 mb:W.subIn K (.ref D) (.type "BaseException")=some true
section
variable {K:Frag} {x D:Addr} {ox:Obj} {od:Option Obj}
def GG{Q:Unit->Shared->Prop}(Z:Xr K D)(X:K.In s.heap)(I:InstAt s.heap x ox D od)(b:Q () s):wpAny M A (checkBuiltinCall "BaseException.__getattribute__" ⟨[.ref x,nm],[]⟩) Q E s:=by
 have f:=I.type (M:=M)
 have e:=looks_subIn (M:=M) X Z.mb
 have d:=F.args_bexc_ga (.ref x) nm
 refine Ae ((f.andThen e).at ?_)
 exact wpAny_of_eq d b
end
section
variable {D:Addr}
def J4{E:XK}{D:Ends}{U:St}(h:ta U H λa b=>a.length<=sizeLine/\E (.ref C) none b):Pk C E ta D U H:=h
end
def iP(P:Program)(w:World)(K:W.Frag)(b:Str->Option Value)(a:Heap)(k:Nat)(x:Str)(ps:List Str)(sp:Sp):Prop:=
 ∃f c,Z8 P w K b a (Za P w) k f c ps sp/\b x=some (.ref f)/\W.keepIn K (.ref f)=true/\Binds K c ps []
section
variable {k:Nat} {ps:List Str} {p:Pos} {t:TA} {E:XK} {Es:St->XK}
def cR(c:iP X.prog X.w X.K X.mg X.base k x ps sp)(g:iE (Za X.prog X.w) X E)(h:Z2 k' X.A)(j:k<=k')(l:Gl X x)(o:PA X (e::es) t)(d:(x==("__debug__" : Str))=false:=by decide)(m:starEach (e::es) X.env=(false,eval e X.env)::starEach es X.env:=by rfl)(a:(backTo pos (starEach es X.env)).any (·.1)=false:=by rfl):PE X (.Call (.Name x p) (e::es) [] pos) (TX sp [] E t):=by
 obtain⟨f,q,F,i,b,n⟩:=c;exact QD F (h.mono j) l i b n .nil g o d m a
def HH(c:iP X.prog X.w X.K X.mg X.base k x ps sp)(g:zM (Za X.prog X.w) X Es)(h:Z2 k' X.A)(j:k<=k')(l:Gl X x)(o:PA X (e::es) t)(d:(x==("__debug__" : Str))=false:=by decide)(m:starEach (e::es) X.env=(false,eval e X.env)::starEach es X.env:=by rfl)(a:(backTo pos (starEach es X.env)).any (·.1)=false:=by rfl):PE X (.Call (.Name x p) (e::es) [] pos) (SO sp Es t):=by
 obtain⟨f,q,F,i,b,n⟩:=c;exact MY F (h.mono j) l i b n g o d m a
def rY:iE (Za X.prog X.w) X E0:=λ_ _ _ _ _ _ _ h=>by
 obtain⟨_,_,_,_,_,_,_,_,_,_,_,z⟩:=h;exact z.elim
def PS.W2{t:TS}(h:PS X.W2 st t):PS X st t:=λa s U H D I b=>
 Co (h a s U H D (I.YO _) b) (λ_ _ q=>q.Zo) λ_ _ z=>False.elim z
end
def ZT.XM{ps:List Str}{k:Nat}(F:ZT K x qual st f fd)(S:Z9 N ps (aK st))(e:∀c H Q E,sp c H Q E->c.length=ps.length)(d:∀b A a s H c Q E,Z2 k (A.deeper (envOfC qual (aK st) s.heap.objs.size f b))->sp c H Q E->
 ∃t,Yw (iL (Za P w) P w K mg base N qual (aK st) f b A a s H E) (fZ st) t/\t {nx:=λ_ n=>Q .non n,rt:=Q} (oC N c) H):Z8 P w K mg base (Za P w) (k+1) f fd ps sp:=by
 obtain⟨q,p,r,m,o,v,b,u,i,rfl,j,h⟩:=F.ex;exact SR j h S e λA a s H c Q E l g=>d b A a s H c Q E l g
end
noncomputable def UB(K:W.Frag)(a b:Addr):It:=
 ⟨λi H=>∃d c x y,ZA K H a d/\ZA K H b c/\d[i]?=some x/\c[i]?=some y,λi H v e=>∃p x y,H p=none/\v=.ref p/\e=upd H p (.tup [x,y])/\(∀d,ZA K H a d->d[i]?=some x)/\(∀c,ZA K H b c->c[i]?=some y),
  λi H=>∃d c,ZA K H a d/\ZA K H b c/\(d.length<=i\/c.length<=i)⟩
structure WD (z TI TO i1 i2:Addr):Prop where
 d1:TI≠z
 d2:TO≠z
 d3:i1≠z
 d4:i2≠z
 d5:TI≠TO
 d6:TI≠i1
 d7:TI≠i2
 d8:TO≠i1
 d9:TO≠i2
 d0:i1≠i2
def mW{u:Obj}(e:h.get? a=some o)(d:h.get? b=some u){S:String}(hs:o.cls=.type S)(c:u.cls=.type T)(n:S≠T):a≠b:=λz=>by grind
def P6{z k g j i:Addr}{x p q:Value}{k1 k2:Nat}{xs ys:Array Value}(D:WD z k g j i)(l:IsZip h z k g x)(m:IsPair h g p q)(w:h.IsListIter j a k1)(v:h.IsListIter i b k2)(u:h.IsList a xs)(t:h.IsList b ys):ZipApart z k g j i a b:=by
 obtain⟨C,o,s,_⟩:=w;obtain⟨B,n,r,_⟩:=v;obtain⟨A,d,f,_⟩:=u;obtain⟨y,c,e,_⟩:=t;exact⟨D.d1,D.d2,D.d3,D.d4,D.d5,D.d6,D.d7,D.d8,D.d9,D.d0,mW d l f rfl (by decide),mW d m f rfl (by decide),mW d o f s (by decide),mW d n f r (by decide),mW c l e rfl (by decide),mW c m e rfl (by decide),mW c o e s (by decide),mW c n e r (by decide)⟩
def L1(a b z F C B A:Addr)(D:WD z F C B A):Turn P w K (.Tuple elts x1 tp) (UB K a b) [z,F,C,B,A] z (λi h=>IsZip h z F C .none/\IsPair h F (.ref B) (.ref A)/\(∃p q,IsPair h C p q)/\h.IsListIter B a i/\h.IsListIter A b i) where
 mem:=by simp
 obj:=λi h l c m=>by
  obtain⟨d,r,⟨p,q,g⟩,⟨o1,k,_,S⟩,o2,j,_,R⟩:=l;simp only[List.mem_cons,List.not_mem_nil,or_false]at m;rcases m with z|z|z|z|z<;>subst z
  .exact⟨_,d,λv z=>by cases z⟩
  .exact⟨_,r,λv z=>by cases z⟩
  .exact⟨_,g,λv z=>by cases z⟩
  .exact⟨o1,k,λv z=>by rw[S]at z;cases z⟩
  .exact⟨o2,j,λv z=>by rw[R]at z;cases z⟩
 keep:=λi h h' l f=>by
  obtain⟨d,r,⟨p,q,g⟩,k,j⟩:=l;exact⟨f z (by simp) _ d,f F (by simp) _ r,⟨p,q,f C (by simp) _ g⟩,k.at λo e=>f B (by simp) o e,j.at λo e=>f A (by simp) o e⟩
 item:=by
  intro X hP W hK m i y6 s U H E I Q l Z;subst hP W hK;obtain⟨xs,ys,x,y,O,N,hx,hy⟩:=Z;obtain⟨us,V,M,_⟩:=I.list O;obtain⟨vs,T,L,_⟩:=I.list N;obtain⟨u,hu,ru⟩:=V.get hx;obtain⟨v,hv,rv⟩:=T.get hy;obtain⟨d,r,⟨p,q,g⟩,k,j⟩:=l;have D2:=P6 D d g k j M.isList L.isList
  have J:∀c o,s.heap.get? c=some o->s.heap.objs.size≠c:=λc o e=>Fa (Ax e)
  refine wpAny_pyNext_zip_item D2 d r g k j M.isList L.isList (x:=u) (y:=v) (by simpa using hu) (by simpa using hv) λh1 a1 a2 a3 a4 a5 a6 f=>?_
  refine⟨_,rfl,wpAny_letOwnedTupleGo_zip a1 λh2 z2 sb=>?_⟩;have G:∀c o,c≠z->h1.get? c=some o->h2.get? c=some o:=λc o n e=>(sb.2 c n).trans e
  have I2:Inv X y6 U (upd H s.heap.objs.size (.tup [x,y])) {s with heap:=h2}:=by
   refine I.YM (t':=s.toks) (ch:=[z,F,C,B,A]) Q (λc o n e=>?_) (Ai _) ⟨bM (by show 2<=_;((try clear a6);omega)),[u,v],.cons ru (.cons rv .nil),_,G _ _ (J z _ d) a5,rfl,_,rfl⟩
   simp only[List.mem_cons,List.not_mem_nil,or_false,not_or]at n;exact G c o n.1 (f c o n.1 n.2.2.1 n.2.2.2.1 n.2.2.2.2 e)
  refine⟨.ref s.heap.objs.size,_,I2,rfl,⟨_,x,y,I.Z3.fresh (Ai _),rfl,rfl,λzs Y=>by rw[I.Y2 Y O];exact hx,λzs Y=>by rw[I.Y2 Y N];exact hy⟩,
   ⟨z2,G _ _ D.d1 (f _ _ D.d1 D.d5 D.d6 D.d7 r),⟨_,_,G _ _ D.d2 a2⟩,a3.at λo e=>G _ o D.d3 e,a4.at λo e=>G _ o D.d4 e⟩,λc m=>?_⟩
  have hn:=(Q c m).1
  rw[aH]
  .exact hn
  .obtain⟨o1,S,_⟩:=k;obtain⟨o2,R,_⟩:=j;simp only[List.mem_cons,List.not_mem_nil,or_false]at m;rcases m with z|z|z|z|z<;>subst z
   .exact(J _ _ d).symm
   .exact(J _ _ r).symm
   .exact(J _ _ g).symm
   .exact(J _ _ S).symm
   .exact(J _ _ R).symm
 done:=by
  intro X hP W hK m i y6 s U H E I Q l Z;subst hP W hK;obtain⟨xs,ys,O,N,hl⟩:=Z;obtain⟨us,V,M,_⟩:=I.list O;obtain⟨vs,T,L,_⟩:=I.list N;have S:=V.length
  have R:=T.length
  obtain⟨d,r,⟨p,q,g⟩,k,j⟩:=l;refine wpAny_pyNext_zip_end (I.ok.hd m) (P6 D d g k j M.isList L.isList) d r g k j M.isList L.isList ?_ λh' f=>⟨rfl,?_⟩
  .rcases hl with z|z
   .exact .inl (by simp;((try clear R);omega))
   .exact .inr (by simp;((try clear S);omega))
  .refine I.Yu (t':=s.toks) (ch:=[z,F,C,B,A]) Q λc o n e=>?_;simp only[List.mem_cons,List.not_mem_nil,or_false,not_or]at n;exact f c o n.1 n.2.2.1 n.2.2.2.1 n.2.2.2.2 e
 self:=λ_ _ _ _ _ l h=>wpAny_pyIter_zip l.1 h
def MX:bootBuiltins "zip"=some (.type "zip"):=by decide +kernel
section
variable {l1 l2:Expr} {p:Pos}
def Vn(R:Addr->Addr->Hp->Prop):List V->Hp->Prop:=λa H=>match a with|[.ref i,.ref j]=>R i j H|_=>False
def Kj{R:Addr->Addr->Hp->Prop}(q:Vn R vs H):∃i j,vs=[.ref i,.ref j]/\R i j H:=by
 unfold Vn at q;split at q
 .exact⟨_,_,rfl,q⟩
 simp_all
def Qo(K:W.Frag)(d:TA):TI:=λU H R=>d U H (Vn λa b c=>Ym (Z4 c a) (Ym (Z4 c b) (R (UB K a b) c)))
def IA(B:Gl X "zip")(y:X.mg "zip"=none)(C:PA X [l1,l2] ta)(hs:starEach [l1,l2] X.env=[(false,eval l1 X.env),(false,eval l2 X.env)]:=by rfl)(e:starEach [l2] X.env=[(false,eval l2 X.env)]:=by rfl):PI X (.Tuple elts x1 tp) (.Call (.Name "zip" p) [l1,l2] [] pos) (Qo X.K ta):=by
 intro k s U H R I h;refine Call_ (jA I B y MX (Dq (ZY (C pos k s U H _ I h) λm d μ=>?_) (by rw[hs,e]) (by rw[e];rfl)));obtain⟨l,N,f,o,r⟩:=μ
 obtain⟨a,b,rfl,q⟩:=Kj r;obtain⟨u,Q,rfl,n,g⟩:=R4 o;cases n;cases g;unfold Ym at q;split at q
 .rename_i P M
  split at q
  .rename_i O L
   obtain⟨m,T,w,_⟩:=f.list (bE M);obtain⟨l,S,v,_⟩:=f.list (bE L);refine call_zip_2 w.isList v.isList λF i E D J G x A=>?_;refine wpAny_pyIter_zip (s:={d with heap:=F}) i ⟨_,[d.heap.objs.size+4,d.heap.objs.size+2,d.heap.objs.size+3,d.heap.objs.size,d.heap.objs.size+1],_,_,N,rfl,f.kept (t':=d.toks) A,
    L1 a b _ _ _ _ _ ⟨by simp,by simp,by simp,by simp,by simp,by simp,by simp,by simp,by simp,by simp⟩,⟨i,E,⟨_,_,D⟩,J,G⟩,λc j=>?_,q⟩
   have z:d.heap.objs.size<=c:=by
    simp only[List.mem_cons,List.not_mem_nil,or_false]at j;rcases j with z|z|z|z|z<;>(rw[z];first|exact Ai _|exact Gf _ _)
   exact f.YE z (f.Z3.fresh z)
  .exact q.elim
 .exact q.elim
end
section
variable {tb:TS} {U:St}
def DV(c:Nat->St->Hp->Prop)(u:c 0 U H)(s:∀i U H,i<=xs.length->i<=ys.length->c i U H->Z4 H a=some xs/\Z4 H b=some ys)(hs:∀i x y U H p,xs[i]?=some x->ys[i]?=some y->c i U H->H p=none->g (.ref p) U (upd H p (.tup [x,y])) λv w=>tb {D with nx:=c (i+1),ct:=c (i+1),bk:=D.nx} v w)(t:∀U H,c (min xs.length ys.length) U H->D.nx U H):WI (UB K a b) g tb D U H:=by
 refine⟨λi m U H=>m=min xs.length ys.length-i/\i<=min xs.length ys.length/\c i U H,⟨min xs.length ys.length,by simp,Nat.zero_le _,u⟩,?_⟩
 rintro i m U H ⟨rfl,A,p⟩;obtain⟨f,d⟩:=s i U H (by omega) (by omega) p
 by_cases h:i<min xs.length ys.length
 .refine .inr ⟨⟨xs,ys,xs[i]'(by ((try clear A);omega)),ys[i]'(by ((try clear A);omega)),bE f,bE d,Aa _,Aa _⟩,c (i+1),λB z l=>⟨min xs.length ys.length-(i+1),by ((try clear A);omega),rfl,h,l⟩,λx z y=>?_⟩
  obtain⟨q,k,j,r,rfl,rfl,o,n⟩:=y;exact hs i k j U H q (o xs (bE f)) (n ys (bE d)) p r
 .have e:i=min xs.length ys.length:=by omega
  subst e;exact .inl ⟨⟨xs,ys,bE f,bE d,by ((try clear A h);omega)⟩,t U H p⟩
def Nu(h:ta U H (Vn λa b c=>Ym (Z4 c a) (Ym (Z4 c b) (R (UB K a b) c)))):Qo K ta U H R:=h
def Mp{R:Addr->Addr->Hp->Prop}(h:R a b H):Vn R [.ref a,.ref b] H:=h
end
section
variable {o:Expr} {id:String}
def QS(T:String)(r:V->List V->Hp->VK->Prop)(b:TE):TE:=λU H Q=>b U H λx a=>yL T x a (r x [] a Q)
def PX(l:PlainAttrs T)(c:Slot T name id)(d:typeOf (.builtin id)=pure (.type "method_descriptor"))(n:YT X id r)(m:PE X o to)(b:attributeBase o name X.env (eval o X.env)=eval o X.env:=by rfl)(a:(apos.endLine==cpos.line)=true:=by rfl):PE X (.Call (.Attribute o name apos) [] [] cpos) (QS T r to):=by
 intro e s U H Q I h;refine Ho b a (ZY (m e s U H _ I h) λv j μ=>?_);obtain⟨x,u,g,f,q⟩:=μ;obtain⟨i,k⟩:=xO  q;obtain⟨t,p⟩:=Sb g f i;exact⟨T,id,l,c,d,t,p,Du rfl (Hi (n e j U u x [] v [] Q g f .nil k))⟩
def UO:V->List V->Hp->VK->Prop:=λx a H Q=>match x,a with
 |.ref l,[.ref b]=>(match gO H l,gO H b with|some xs,some zs=>xs.length+zs.length<=sizeLine/\Q .non (upd H l (.lst (xs++zs)))|_,_=>False)
 |_,_=>False
def Vv:YT X "list.extend" UO:=YT.imp  Kf λ_ _ _ _ q=>by
 unfold UO at q;split at q
 .split at q
  .exact⟨_,_,_,_,rfl,rfl,kX (by assumption),kX (by (assumption)),q.1,q.2⟩
  simp_all
 .exact q.elim
def UT:V->List V->Hp->VK->Prop:=λx a H Q=>match x,a with
 |.ref l,[]=>(match gO H l with|some _=>Q .non (upd H l (.lst []))|none=>False)
 |_,_=>False
def RS:YT X "list.clear" UT:=YT.imp  Lf λ_ _ _ _ q=>by
 unfold UT at q;split at q
 .split at q
  .exact⟨_,_,rfl,rfl,kX (by (assumption)),q⟩
  grind
 simp_all
end
section
variable {U:St} {l:Addr} {zs:List V}
def A6(h:to U H λx a=>yL T x a (r x [] a Q)):QS T r to U H Q:=h
def Pz(e:gO H l=some xs)(a:gO H b=some zs)(c:xs.length+zs.length<=sizeLine)(h:Q .non (upd H l (.lst (xs++zs)))):UO (.ref l) [.ref b] H Q:=by unfold UO;simp only[e,a];exact⟨c,h⟩
def Rr(e:gO H l=some xs)(h:Q .non (upd H l (.lst []))):UT (.ref l) [] H Q:=by unfold UT;simp only[e];exact h
end
def NY{t u:TS}{U:St}(c:St->Hp->Prop)(d:∀a b,c a b->u D a b)(h:∀N,(∀a b,c a b->N a b)->t {D with nx:=N} U H):TN t u D U H:=h _ d
def none_of{r:Addr}(s:Z_ H H')(h:H' r=none):H r=none:=by
 cases e:H r with
 |none=>rfl
 |some o=>rw[s _ _ e]at h;cases h
def bJ{o:HO}(a:H p=none)(s:Z_ H H'):Z_ H (upd H' p o):=λb u q=>by rw[aH (bI q a)];exact s b u q
section
variable {U0:St}
def jH{n:Nat}(R:Addr->Nat->List V->Hp->Prop)(E:n<sizeLine)(w:∀D,H1 D=none->R D 0 [] (upd H1 D (.lst [])))(p:∀D i a c,H1 D=none->R D i a c->i<n->J.go i c)(o:∀D a c,H1 D=none->R D n a c->J.stop n c)(hs:∀D i a c x l A (B:Hp->Prop),H1 D=none->i<n->R D i a c->c D=some (.lst a)->J.WS i c x l->
 (∀y k,k D=some (.lst a)->R D (i+1) (a++[y]) (upd k D (.lst (a++[y])))->A y k)->(∀f,f D=some (.lst a)->R D (i+1) a f->B f)->
 g x U0 l λs C=>Wk U0 s/\tests s C λb f=>if b=true then te s f A else B f)(q:∀D a c,H1 D=none->R D n a c->c D=some (.lst a)->a.length<=n->Q (.ref D) c):eF g tests te U0 Q J H1:=by
 intro D j;refine⟨λi m c=>m=n-i/\i<=n/\∃a,a.length<=i/\c D=some (.lst a)/\R D i a c,⟨n,by simp,Nat.zero_le _,[],Nat.le_refl _,aE,w D j⟩,?_⟩
 rintro i m c ⟨rfl,F,a,v,h,r⟩;by_cases d:i<n
 .refine .inr ⟨p D i a c j r d,λx l y=>hs D i a c x l _ _ j d r h y (λz k e t=>?_) (λf e u=>?_)⟩
  .exact⟨a,e,by ((try clear F);omega),n-(i+1),by ((try clear E F v);omega),rfl,d,a++[z],by rw[Af];show a.length+1<=_;((try clear E F d);omega),aE,t⟩
  .exact⟨n-(i+1),by ((try clear E F v);omega),rfl,d,a,by ((try clear E F d);omega),e,u⟩
 .have e:i=n:=by ((try clear E v);omega)
  subst e;exact .inl ⟨o D a c j r,q D a c j r h v⟩
def ZD(b a:Hp)(ps:List Addr)(fs:List (List V)):Prop:=ps.length=fs.length/\∀(j:Nat) p t,ps[j]?=some p->fs[j]?=some t->b p=none/\a p=some (.tup t)
def ZD.keep{c:Hp}(t:ZD H1 Hc ps fs)(s:Z_ Hc c):ZD H1 c ps fs:=⟨t.1,λj p u b a=>⟨(t.2 j p u b a).1,s _ _ (t.2 j p u b a).2⟩⟩
def ZD.Yf{c:Hp}(t:ZD H1 Hc ps fs)(s:Z_ c H1):ZD c Hc ps fs:=⟨t.1,λj p u b a=>⟨none_of s (t.2 j p u b a).1,(t.2 j p u b a).2⟩⟩
def ZD.put{D:Addr}{c:List V}(t:ZD H1 Hc ps fs)(h:Hc D=some (.lst ys)):ZD H1 (upd Hc D (.lst c)) ps fs:=⟨t.1,λj p u e d=>by
 obtain⟨a,b⟩:=t.2 j p u e d;refine⟨a,?_⟩;rw[aH λz=>by grind]
 exact b⟩
def ZD.app{c:List Addr}{d:List _}(t:ZD H1 Hc ps fs)(u:ZD H1 Hc c d):ZD H1 Hc (ps++c) (fs++d):=by
 refine⟨by rw[Af,Af,t.1,u.1],λj p v b a=>?_⟩
 by_cases h:j<ps.length
 .rw[An h]at b;rw[An (by rwa[<-t.1])]at a
  exact t.2 j p v b a
 .rw[Aq (by omega)]at b
  rw[Aq (by rw[<-t.1];omega),<-t.1]at a
  exact u.2 _ p v b a
def ZD.nil:ZD H1 Hc [] []:=⟨rfl,λj p u a=>by cases a⟩
def ZD.one(a:H1 p=none)(b:Hc p=some (.tup t)):ZD H1 Hc [p] [t]:=⟨rfl,λj q u c d=>by
 cases j with
 |zero=>cases c;cases d;exact⟨a,b⟩
 |succ j=>cases c⟩
def FJ(f:Nat->List V)(w:n<sizeLine)(hs:∀i a A (B:Hp->Prop),i<n->Z_ H1 a->(∀p e,a p=none->Z_ a e->e p=some (.tup (f i))->A (.ref p) e)->
 g (.int (lo+i)) U0 a λt E=>Wk U0 t/\tests t E λb u=>if b=true then te t u A else B u)(s:∀D e c,H1 D=none->Z_ H1 e->e D=some (.lst (c.map V.ref))->c.length=n->ZD H1 e c ((List.range n).map f)->Q (.ref D) e):eF g tests te U0 Q (Xq lo n) H1:=by
 refine jH (n:=n) (λD i j a=>Z_ H1 a/\∃c,j=c.map V.ref/\c.length=i/\ZD H1 a c ((List.range i).map f)) w (λD l=>⟨aG l _,[],rfl,rfl,.nil⟩) (λD i j a _ r h=>h) (λD j a _ r=>Ai n) ?_ ?_
 .rintro D i j a x F A B l y ⟨k,c,rfl,q,o⟩ d ⟨rfl,rfl⟩ C G;refine hs i F A B y k (λp e v m z=>?_);refine C _ _ (m _ _ d) ⟨bJ l (k.trans m),c++[p],by rw[Ap];rfl,by rw[Af,q];rfl,?_⟩
  rw[Cm,Ap];exact((o.keep m).app (.one (none_of k v) z)).put (m _ _ d)
 .rintro D j a l ⟨k,c,rfl,q,o⟩ d _;exact s D a c l k d q o
end
noncomputable def Vb(a c:Int)(n:Nat):It:=⟨λi _=>i<n,λi H x b=>b=H/\x=.int (a+(i:Int)*c),λi _=>n<=i⟩
def GV{K:PySem.W.Frag}(d:Addr)(j c:Int)(n:Nat):Turn P w K tg (Vb j c n) [d] d (λi h=>IsRangeIter h d (j+(i:Nat)*c) ((n:Int)-(i:Nat)) c) where
 mem:=by simp
 obj:=λi h a b f=>by
  have e:b=d:=by simpa using f
  subst e;exact⟨_,a,λv z=>by
   have J:=z
   cases J⟩
 keep:=λi h m a k=>k d (by simp) _ a
 item:=by
  intro X u p x r i F s U H E I l a q;subst u p x;obtain⟨D,C,N,B,A,y⟩:=l d (by simp)
  have W:=Walks.range (prog:=X.prog) (w:=X.w) (I.ok.hd r) d j c n
  refine W.item i s _ _ q a λv m G M g L=>?_;obtain⟨t,rfl⟩:=M;have Q:Inv X F U H {s with heap:=m,toks:=G}:=I.turned (λb o f e=>L b o (by simpa using f) e) D C B A y
  exact⟨_,rfl,wD (s:={s with heap:=m,toks:=G}) (n := "range_iterator") g rfl rfl (by decide) ⟨.int (j+i*c),H,Q,⟨t,rfl⟩,⟨rfl,rfl⟩,g,λb f=>(l b f).1⟩⟩
 done:=by
  intro X u p x r i F s U H E I l a q;subst u p x;obtain⟨D,C,N,B,A,y⟩:=l d (by simp)
  exact wpAny_pyNext_range_end (I.ok.hd r) a (by have:n<=i:=q;((try clear B C);omega)) λm O=>⟨rfl,I.turned (t':=s.toks) (λb o f e=>O b o f e) D C B A y⟩
 self:=λ_ _ _ _ _ a h=>wpAny_pyIter_rangeiter a h
def UY(R:Int->Int->Int->Hp->Prop):List V->Hp->Prop:=λa H=>match a with|[.int i,.int j,.int k]=>R i j k H|_=>False
def F1{R:Int->Int->Int->Hp->Prop}(q:UY R vs H):∃i j k,vs=[.int i,.int j,.int k]/\R i j k H:=by
 unfold UY at q;split at q
 .exact⟨_,_,_,rfl,q⟩
 simp_all
section
variable {st:Int} {tb:TS} {U:St} {i j k:Int}
def Mw(b:Nat->St->Hp->Prop)(f:b 0 U H)(hs:∀i U H,i<n->b i U H->g (.int (lo+(i:Int)*st)) U H λh j=>tb {D with nx:=b (i+1),ct:=b (i+1),bk:=D.nx} h j)(d:∀U H,b n U H->D.nx U H):WI (Vb lo st n) g tb D U H:=by
 refine⟨λi m U H=>m=n-i/\i<=n/\b i U H,⟨n,by simp,Nat.zero_le _,f⟩,?_⟩
 rintro i m U H ⟨rfl,l,p⟩;by_cases a:i<n
 .refine .inr ⟨a,b (i+1),λo k c=>⟨n-(i+1),by ((try clear l);omega),rfl,a,c⟩,λx k y=>?_⟩
  obtain⟨e,y⟩:=y;simp_all
 .have e:i=n:=by omega
  subst e;exact .inl ⟨Ai _,d U H p⟩
def Nm{R:Int->Int->Int->Hp->Prop}(h:R i j k H):UY R [.int i,.int j,.int k] H:=h
end
def Pu{x:V}(h:cA x=true):X3 x x=true:=by
 cases x<;>first|rfl|(simp[X3];done)|(cases h;done)
def ZQ(b a:Hp)(ps:List Addr)(fs:List (List V)):Prop:=ps.length=fs.length/\∀(j:Nat) p t,ps[j]?=some p->fs[j]?=some t->b p=none/\a p=some (.lst t)
def ZQ.keep{c:Hp}(t:ZQ H1 Hc ps fs)(s:Z_ Hc c):ZQ H1 c ps fs:=⟨t.1,λj p u b a=>⟨(t.2 j p u b a).1,s _ _ (t.2 j p u b a).2⟩⟩
def ZQ.Yf{c:Hp}(t:ZQ H1 Hc ps fs)(s:Z_ c H1):ZQ c Hc ps fs:=⟨t.1,λj p u b a=>⟨none_of s (t.2 j p u b a).1,(t.2 j p u b a).2⟩⟩
def ZQ.put{D:Addr}{o:HO}(t:ZQ H1 Hc ps fs)(h:∀p∈ps,p≠D):ZQ H1 (upd Hc D o) ps fs:=⟨t.1,λj p u c d=>by
 obtain⟨a,b⟩:=t.2 j p u c d;refine⟨a,?_⟩;rwa[aH (h p (Am c))]⟩
def ZQ.snoc{i f:Hp}{ps:List Addr}{fs:List (List V)}{q:Addr}{g:List V}(t:ZQ i f ps fs)(a:i q=none)(b:f q=some (.lst g)):ZQ i f (ps++[q]) (fs++[g]):=by
 refine⟨by rw[Af,Af,t.1];rfl,λj p v c d=>?_⟩
 by_cases h:j<ps.length
 .rw[An h]at c;rw[An (by rw[<-t.1];exact h)]at d
  exact t.2 j p v c d
 .rw[Aq (by omega)]at c
  rw[Aq (by rw[<-t.1];omega),<-t.1]at d
  cases e:j-ps.length with
  |zero=>rw[e]at c d;cases c;cases d;exact⟨a,b⟩
  |succ n=>rw[e]at c;cases c
def ZQ.nil:ZQ H1 Hc [] []:=⟨rfl,λj p u a=>by cases a⟩
def ZQ.mem(t:ZQ H1 Hc ps fs){p:Addr}(b:p∈ps):∃g∈fs,H1 p=none/\Hc p=some (.lst g):=by
 obtain⟨j,a⟩:=Fk.mp b;have c:j<fs.length:=by rw[<-t.1];exact(Ad.mp a).1
 exact⟨fs[j],Bx _,t.2 j p _ a (Aa c)⟩
def lV(ns:List Int):∀n,n<=ns.length->preSum (λi=>ns.getD i 0) n=(ns.take n).sum
 |0,_=>by simp[preSum]
 |n+1,h=>by
  have a:=lV ns n (by (exact Nat.le_of_lt (by assumption)))
  have e:ns.take (n+1)=ns.take n++[ns.getD n 0]:=by rw[Be,Ac,Aa (by (assumption))];rfl
  rw[e,List.sum_append,<-a];simp[preSum]
def KL(h:∀n∈ns,0<=n/\n<=1000000):0<=ns.sum/\ns.sum<=1000000*(ns.length:Int):=by
 induction ns with
 |nil=>simp
 |cons n r e=>
  obtain⟨a,b⟩:=h n (Al ..);obtain⟨c,d⟩:=e λm f=>h m (Ak _ f);grind
def SD:List V->Hp->VK->Prop:=λb H Q=>∃(p:Addr) (a:List Int),b=[.ref p]/\Z4 H p=some (a.map V.int)/\(∀n∈a,0<=n/\n<=1000000)/\a.length<=100000/\Q (.int a.sum) H
def SX(hc:X.calm=true):ZU X (.builtin "sum") SD:=by
 intro y6 s U H xs us Q I r h;obtain⟨p,ns,rfl,hp,hb,hn,q⟩:=h;obtain⟨u,rfl,ru⟩:=dP r;cases ru;obtain⟨its,rv,pl,hz⟩:=I.list (bE hp);have hl:=pl.isList
 have hlt:p<s.heap.objs.size:=by obtain⟨_,e,_⟩:=hl;exact Ax e
 have hle:its.length=ns.length:=by have:=rv.length;rw[Ab]at this;((try clear hlt hn hz);omega)
 refine call_sum_walk (Fs hl ?_);refine⟨s.heap.objs.size,[s.heap.objs.size,p],[s.heap.objs.size],its.toArray.size,_,_,λi=>ns.getD i 0,rfl,Walks.list (A:=X.A.in1) (I.ok.hd hc) _ p (Bm hlt) its.toArray,
  ⟨⟨_,Ay _ rfl,rfl,rfl⟩,hl.push _⟩,λb hb=>?_,λi v hv=>?_,λj hj=>?_,λh' tk t' hk=>?_⟩
 .rw[show ({s with heap:=_}:Shared).heap=_ from rfl]
  simp only[List.mem_cons,List.not_mem_nil,or_false]at hb;rcases hb with e|e
  .rw[e];simp[Heap.push]
  .rw[e];exact Nat.lt_of_lt_of_le hlt (by simp[Heap.push])
 .have hv':its[i]?=some v:=by simpa using hv
  have hi:i<ns.length:=by rw[<-hle];exact(Ad.mp hv').1
  obtain⟨u,hu,ru⟩:=rv.get (show (ns.map V.int)[i]?=some (.int ns[i]) by rw[Ag,Aa hi];rfl)
  rw[hv']at hu;cases hu;obtain⟨t,rfl⟩:=ru;exact⟨t,by show Value.int ns[i] t=Value.int (ns.getD i 0) t;rw[Ac,Aa hi];rfl⟩
 .have hj' : j < ns.length := by have : j < its.length := by simpa using hj
                                 ((try clear hj hlt hn hz);omega)
  have e:=lV ns (j+1) (by (assumption))
  obtain⟨a1,a2⟩:=KL (ns:=ns.take (j+1)) λm hm=>hb m (List.mem_of_mem_take hm);rw[Bt]at a2;have a3:ns.getD j 0∈ns:=by rw[Ac,Aa hj'];exact Bx _
  obtain⟨b1,b2⟩:=hb _ a3;refine⟨?_,?_⟩
  .show InLong (ns.getD j 0)
   unfold InLong;((try clear a1 a2 e hj hj' hle hlt hn hz);omega)
  .rw[e];unfold InLong;((try clear b1 b2 e hj hlt hz);omega)
 .have e:preSum (λi=>ns.getD i 0) its.toArray.size=ns.sum:=by
   rw[Ba,hle,lV ns _ (Ai _),Cf]
  rw[e];exact⟨.int ns.sum,H,I.kept (LSm.kept_iter hk),⟨_,rfl⟩,q⟩
def PL(e:Z4 H p=some (ns.map V.int))(b:∀n∈ns,0<=n/\n<=1000000)(a:ns.length<=100000)(h:Q (.int ns.sum) H):SD [.ref p] H Q:=⟨p,ns,rfl,e,b,a,h⟩
section
variable {κ:Type} [DecidableEq κ]
noncomputable def cN(a:List (κ×V))(k:κ):Option V:=(a.find? λb=>decide (b.1=k)).map (·.2)
noncomputable def eK(a:List (κ×V))(k:κ)(v:V):List (κ×V):=
 if (a.any λb=>decide (b.1=k))=true then a.map (λb=>if b.1=k then (b.1,v) else b) else a++[(k,v)]
def cQ{r:List _}{k:κ}(e:p.1=k):cN (p::r) k=some p.2:=by simp[cN,List.find?_cons,e]
def cJ{r:List _}{k:κ}(e:¬p.1=k):cN (p::r) k=cN r k:=by simp[cN,List.find?_cons,e]
def fL(k:κ):∀a,(a.any λb=>decide (b.1=k))=(cN a k).isSome
 |[]=>rfl
 |p::r=>by
  rw[Il];by_cases e:p.1=k
  .simp only[cQ e,decide_eq_true e,Bool.true_or,Option.isSome_some]
  .rw[cJ e,Aw e,Bool.false_or];exact fL k r
def Qu(k j:κ)(y:V):∀a,cN (a.map λb=>if b.1=k then (b.1,y) else b) j=(cN a j).map λx=>if j=k then y else x
 |[]=>rfl
 |p::r=>by
  have c:=Qu k j y r
  rw[As];by_cases h:p.1=k
  .rw[if_pos h];by_cases e:p.1=j
   .rw[cQ (p:=(p.1,y)) e,cQ e,Fn,if_pos (e.symm.trans h)]
   .rw[cJ (p:=(p.1,y)) e,cJ e,c]
  .rw[if_neg h];by_cases e:p.1=j
   .rw[cQ  e,cQ e,Fn,if_neg (λz=>h (e.trans z))]
   .rw[cJ  e,cJ e,c]
def zO(k j:κ)(y:V):∀a,cN a k=none->cN (a++[(k,y)]) j=if j=k then some y else cN a j
 |[],_=>by
  by_cases e:k=j
  .rw[if_pos e.symm];exact cQ  e
  .rw[if_neg (λz=>e z.symm)];exact cJ (p:=(k,y)) e
 |p::r,hn=>by
  rw[List.cons_append];have b:¬p.1=k:=λz=>by rw[cQ z]at hn;cases hn
  rw[cJ b]at hn;have c:=zO k j y r hn
  by_cases e:p.1=j
  .rw[cQ e,cQ e,if_neg (λz=>b (e.trans z))]
  .rw[cJ e,cJ e,c]
def IU(b:List _)(k j:κ)(y:V):cN (eK b k y) j=if j=k then some y else cN b j:=by
 unfold eK;by_cases a:(b.any λc=>decide (c.1=k))=true
 .rw[if_pos a,Qu];rw[fL]at a;by_cases e:j=k
  .obtain⟨x,d⟩:=Eb.mp a;rw[if_pos e,e,d,Fn,if_pos rfl]
  simp_all
 .rw[if_neg a];refine zO k j y b ?_;rw[fL]at a;simp_all
def gI(a:List _)(k:κ)(v:V):(eK a k v).length<=a.length+1:=by
 unfold eK;grind
def mO{a:List _}{k:κ}(v:V)(h:cN a k=none):eK a k v=a++[(k,v)]:=by
 unfold eK;rw[fL,h];simp_all
def Zq.Zp{o:Option V}{u:Option Value}(r:Zq o u):o.isSome=u.isSome:=by
 cases o with
 |none=>cases u with
  |none=>rfl
  |some _=>exact(show False from r).elim
 |some _=>cases u with
  |none=>exact(show False from r).elim
  |some _=>rfl
def Zq.getD{o:Option V}{u:Option Value}{d:V}{d':Value}(r:Zq o u)(a:RelV d d'):RelV (o.getD d) (u.getD d'):=by
 cases o with
 |none=>cases u with
  |none=>exact a
  |some _=>exact(show False from r).elim
 |some _=>cases u with
  |none=>exact(show False from r).elim
  |some _=>exact r
def KV.val{a:List _}{vs:List _}(r:KV a vs)(k:κ):Zq (cN a k) (valueAt vs k):=by
 induction r with
 |nil=>exact True.intro
 | @cons p q j c h t g=>
  obtain⟨f,i⟩:=h;by_cases e:p.1=k
  .have d:=f.symm.trans e
   have b:valueAt (q::c) k=some q.2:=by simp[valueAt,List.find?_cons,d]
   rwa[cQ e,b]
  .have d:¬q.1=k:=λz=>e (f.trans z)
   have b:valueAt (q::c) k=valueAt c k:=by simp[valueAt,List.find?_cons,d]
   rwa[cJ e,b]
def KV.any{a:List _}{vs:List _}(r:KV a vs)(k:κ):(a.any λb=>decide (b.1=k))=vs.any λb=>decide (b.1=k):=by
 induction r with
 |nil=>rfl
 |cons h t c=>rw[Il,Il,c,h.1]
def KV.V1{b:List _}{vs:List _}(r:KV b vs)(k:κ)(d:RelV y u):KV (b.map λa=>if a.1=k then (a.1,y) else a) (vs.map λa=>if a.1=k then (a.1,u) else a):=by
 induction r with
 |nil=>exact .nil
 | @cons p q j i h t f=>
  refine .cons ?_ f;grind
def KV.put{a:List _}{vs:List _}(r:KV a vs)(k:κ)(b:RelV y u):KV (eK a k y) (stored vs k u):=by
 unfold eK stored;rw[r.any k];by_cases e:(vs.any λc=>decide (c.1=k))=true
 .rw[if_pos e,if_pos e];exact r.V1 k b
 .rw[if_neg e,if_neg e];exact Paired.snoc r ⟨rfl,b⟩
def KV.length{a:List _}{vs:List (κ×Value)}(r:KV a vs):a.length=vs.length:=Paired.length r
end
def xC(r:RelV (kV k) u):(bH P w).is k u=true:=by
 cases k with
 |inl i=>obtain⟨t,e⟩:=(show ∃t,u=Value.int i t from r);subst e;exact BU P w i t
 |inr x=>obtain⟨t,e⟩:=(show ∃t,u=Value.str x t from r);subst e;exact MJ P w x t
def zV:∀ {a:List Key} {b:List Value},Vals (a.map kV) b->ItemsAre (bH P w) a b
 |[],_,r=>by rw[Iq]at r;cases r;exact .nil
 |k::a,_,r=>by
  cases r with
  |cons h t=>exact .cons (xC h) (zV t)
abbrev KT(H:Hp):List (List Key×V)->List (List Key×Addr×Value)->Prop:=Paired λp q=>p.1=q.1/\H q.2.1=some (.tup (p.1.map kV))/\RelV p.2 q.2.2
def KT.val{a:List _}{xs:List _}(r:KT H a xs)(k:List Key):Zq (cN a k) ((atKey xs k).map (·.2)):=by
 induction r with
 |nil=>exact True.intro
 | @cons p q j c h t g=>
  obtain⟨f,_,i⟩:=h;by_cases e:p.1=k
  .have d:=f.symm.trans e
   have b:atKey (q::c) k=some q.2:=by simp[atKey,List.find?_cons,d]
   rwa[cQ e,b]
  .have d:¬q.1=k:=λz=>e (f.trans z)
   have b:atKey (q::c) k=atKey c k:=by simp[atKey,List.find?_cons,d]
   rwa[cJ e,b]
def KT.V1{a:List _}{xs:List _}(r:KT H a xs)(k:List Key)(f:RelV y u):KT H (a.map λc=>if c.1=k then (c.1,y) else c) (xs.map (putAt k u)):=by
 induction r with
 |nil=>exact .nil
 | @cons p q l j h t g=>
  rw[As,As];refine .cons ?_ g;obtain⟨b,d,i⟩:=h;unfold putAt;by_cases e:p.1=k
  .rw[if_pos e,if_pos (b.symm.trans e)];exact⟨b,d,f⟩
  simp_all
def KT.put{a:List _}{xs:List _}(r:KT H a xs)(k:List Key)(f:H b=some (.tup (k.map kV)))(c:RelV y u):KT H (eK a k y) (storedH xs k b u):=by
 have e:(a.any λd=>decide (d.1=k))=(atKey xs k).isSome:=by
  rw[fL,(r.val k).Zp,Option.isSome_map]
 unfold eK storedH;rw[e];by_cases q:(atKey xs k).isSome=true
 .rw[if_pos q,if_pos q];exact r.V1 k c
 .rw[if_neg q,if_neg q];exact Paired.snoc r ⟨rfl,f,c⟩
def KT.keeps{a:List _}{xs:List _}(r:KT H a xs)(d:∀b c,H b=some (.tup c)->H' b=some (.tup c)):KT H' a xs:=
 Paired.Wg r λ_ _ z=>⟨z.1,d _ _ z.2.1,z.2.2⟩
def Qh{u:HO}(ok:Zl P w H h)(e:Rd H a u):ZX P w H h a u:=e.ok ok
def lD(ok:Zl P w H h)(e:Rd H a (.dK kvs)):kvs.length<=sizeLine/\(a==sysModules)=false/\∃b,KV kvs b/\h.DictOf (bH P w) a b:=
 show ZX P w H h a _ from Qh ok e
def Tb(ok:Zl P w H h)(e:H a=some (.dK kvs)):kvs.length<=sizeLine/\(a==sysModules)=false/\∃b,KV kvs b/\h.DictOf (bH P w) a b:=lD ok (.inl e)
def pA{b:List Key}(ok:Zl P w H h)(e:H a=some (.tup (b.map kV))):(tupleKind (bH P w)).is h b a:=by
 obtain⟨_,c,r,o,g,f,n,d⟩:=(show ZX P w H h a _ from ok a _ e);exact⟨o,c.toArray,n,g,f,d,by simpa using zV r⟩
def tE{b:List (List Key×V)}(ok:Zl P w H h)(e:Rd H a (.dT b)):b.length<=sizeLine/\(a==sysModules)=false/\
 ∃d,KT H b d/\h.DictOfH (tupleKind (bH P w)) a d:=by
 obtain⟨z,y,d,r,o,v,A,u,s,n,k,j⟩:=(show ZX P w H h a (.dT b) from Qh ok e);refine⟨z,y,d,r,o,v,A,u,s,n,k,λx c=>?_,j⟩;have f:∀ {l:List (List Key×V)} {m:List (List Key×Addr×Value)},KT H l m->∀x∈m,(tupleKind (bH P w)).is h x.1 x.2.1:=by
  intro l m q;induction q with
  |nil=>intro x c;exact nomatch c
  | @cons p q C B g t i=>
   intro x c;rcases Bc.mp c with e|c
   .subst e;exact pA ok (by simp_all)
   .exact i x c
 exact f r x c
def Oz{b:List _}(ok:Zl P w H h)(e:H a=some (.dT b)):b.length<=sizeLine/\(a==sysModules)=false/\
 ∃c,KT H b c/\h.DictOfH (tupleKind (bH P w)) a c:=tE ok (.inl e)
def Zc(H:Hp)(a:Addr)(y:V)(r:Option V):Prop:=
 (∃c k,Rd H a (.dK c)/\y=kV k/\r=cN c k)\/∃c k b,Rd H a (.dT c)/\y=.ref b/\H b=some (.tup (k.map kV))/\r=cN c k
def XZ(H:Hp)(a:Addr)(y v:V)(d:Hp):Prop:=
 (∃c k,H a=some (.dK c)/\y=kV k/\c.length<sizeLine/\d=upd H a (.dK (eK c k v)))\/
 ∃c k b,H a=some (.dT c)/\y=.ref b/\H b=some (.tup (k.map kV))/\c.length<sizeLine/\d=upd H a (.dT (eK c k v))
section
variable {U:St} {r:Value} {o:Option V}
def Inv.big(I:Inv X y6 U H s):sysModules<s.heap.objs.size:=by
 have h:=(I.mod.glob.keeps I.bk).lt
 exact Nat.lt_trans (by decide) h
def Je{Q:Q0}(C:A.units+1<cLine)(I:Inv X y6 U H s)(g:Zc H a y (some v))(t:RelV y u)(h:∀f r,Inv X y6 U H r->RelV v f->Q f r):wpAny (model X.prog X.w) A (getItem (.ref a) u) Q E s:=by
 rcases g with⟨i,k,e,n,l⟩|⟨i,k,b,e,n,G,l⟩
 .subst n;obtain⟨z,F,B,d,q⟩:=lD I.Z3 e;obtain⟨f,j,c⟩:=Zq.some_of (v:=v) (o:=valueAt B k) (by rw[l];exact d.val k)
  exact wpAny_getItem_of (xC t) q.mapOf j (h f _ (I.tok _) c)
 .subst n;cases (show u=Value.ref b from t);obtain⟨z,F,x,d,q⟩:=tE I.Z3 e;obtain⟨f,j,c⟩:=Zq.some_of (v:=v) (o:=(atKey x k).map (·.2)) (by rw[l];exact d.val k)
  obtain⟨p,D,m⟩:=Cc.mp j;refine wpAny_getItem_heap (Fh C) (pA I.Z3 G) q D ?_;rw[m];exact h f _ (I.tok _) c
def OV{Q:Q0}(p:A.units+1<cLine)(I:Inv X y6 U H s)(g:Zc H a y o)(n:RelV y u)(h:∀m,Inv X y6 U H m->Q (.bool o.isSome) m):wpAny (model X.prog X.w) A (compareOp .In u (.ref a)) Q E s:=by
 rcases g with⟨d,k,e,i,l⟩|⟨d,k,b,e,i,r,l⟩
 .subst i;obtain⟨z,f,v,c,j⟩:=lD I.Z3 e;refine wpAny_in_of (xC n) f j.mapOf ?_;rw[<-(c.val k).Zp,<-l];exact h _ (I.tok _)
 .subst i;cases (show u=Value.ref b from n);obtain⟨z,f,t,c,j⟩:=tE I.Z3 e;refine wpAny_in_heap (Fh p) (pA I.Z3 r) f j ?_;have q:=(c.val k).Zp
  rw[Option.isSome_map]at q;rw[<-q,<-l];exact h _ (I.tok _)
def JP{Q:Q0}(p:A.units+1<cLine)(I:Inv X y6 U H s)(g:Zc H a y o)(n:RelV y u)(h:∀m,Inv X y6 U H m->Q (.bool (!o.isSome)) m):wpAny (model X.prog X.w) A (compareOp .NotIn u (.ref a)) Q E s:=by
 rcases g with⟨d,k,e,i,l⟩|⟨d,k,b,e,i,r,l⟩
 .subst i;obtain⟨z,f,v,c,j⟩:=lD I.Z3 e;refine wpAny_notIn_of (xC n) f j.mapOf ?_;rw[<-(c.val k).Zp,<-l];exact h _ (I.tok _)
 .subst i;cases (show u=Value.ref b from n);obtain⟨z,f,t,c,j⟩:=tE I.Z3 e;refine wpAny_notIn_heap (Fh p) (pA I.Z3 r) f j ?_;have q:=(c.val k).Zp
  rw[Option.isSome_map]at q;rw[<-q,<-l];exact h _ (I.tok _)
def Su{t':Nat}{c:HO}(I:Inv X y6 U H s)(f:U5 (H a))(hs:Heap.SameBut a s.heap h')(g:∃q,h'.get? a=some q)(d:ZX X.prog X.w (upd H a c) h' a c):Inv X y6 U (upd H a c) {s with heap:=h',toks:=t'}:=
 I.write   f (.inl rfl) (λb q i z=>(hs.2 b i).trans z) g d
def Tt{vs:List _}(z:kvs.length<=sizeLine)(c:(a==sysModules)=false)(b:KV kvs vs)(dd:h'.DictOf (bH P w) a vs):ZX P w H' h' a (.dK kvs):=⟨z,c,vs,b,dd⟩
def Ll{Q:Unit->Shared->Prop}(N:A.units+1<cLine)(I:Inv X y6 U H s)(g:XZ H a y v H')(D:RelV y u)(F:RelV v r)(h:∀C,Inv X y6 U H' C->Q () C):wpAny (model X.prog X.w) A (setItem (.ref a) u r) Q E s:=by
 rcases g with⟨f,k,e,t,l,x⟩|⟨f,k,b,e,t,K,l,x⟩
 .subst t x;obtain⟨z,p,M,d,B⟩:=Tb I.Z3 e;have m:M.length<=sizeLine:=by rw[<-d.length];exact z
  have o:(eK f k v).length<=sizeLine:=by have:=gI f k v;((try clear N m z);omega)
  refine wpAny_setItem_pairs (hsz:=m) (xC D) B λG i n=>h _ ?_;have O:∃q,G.get? a=some q:=let ⟨q,_,_,j,_⟩:=i;⟨q,j⟩
  exact Su I (by rw[e];exact True.intro) n O (Tt o p (d.put k F) i)
 .subst t x;cases (show u=Value.ref b from D);obtain⟨z,p,L,d,B⟩:=Oz I.Z3 e;have m:L.length<=sizeLine:=by rw[<-Paired.length d];exact z
  have o:(eK f k v).length<=sizeLine:=by have:=gI f k v;((try clear N m z);omega)
  refine wpAny_setItem_heap (hsz:=m) (Fh N) (pA I.Z3 K) B λG i n=>h _ ?_;obtain⟨q,V,W,j,T,S,R,_,P⟩:=i;refine Su I (by rw[e];exact True.intro) n ⟨q,j⟩ ⟨o,p,_,(d.put k K F).keeps λc Y J=>?_,q,V,W,j,T,S,R,P⟩
  rw[aH (Mb J e (λz=>nomatch z))]
  exact J
end
section
variable {U:St}
def M1{Q:Q0}(I:Inv X y6 U H s)(e:H a=some (.dK kvs))(h:∀d,Inv X y6 U (upd H a (.dK [])) d->Q .none d):wpAny (model X.prog X.w) A (call (.builtin "dict.clear") [.ref a]) Q E s:=by
 obtain⟨z,l,g,c,f⟩:=Tb I.Z3 e;refine Gk Hq f.typeIs PySem.F.entry_dict_clear (PySem.F.args_dict_clear_1 _) (meets_dict_clear _ a) ⟨g,f,by rwa[<-c.length],λm b i=>h _ ?_⟩
 have k:∃q,m.get? a=some q:=let ⟨q,_,_,j,_⟩:=b;⟨q,j⟩
 exact Su  I (by rw[e];exact True.intro) i k (Tt (Ct _) l .nil b)
end
def QE(i:Expr):Prop:=∀a b,subscripted i false a b=operate [a,b] (getItem a b)
def LX{b a:Expr}{id:String}{Q:Q0}(m:typeLookup (.type T) "__getitem__"=pure (some (.builtin id)))(hs:QE a)(h:wpAny (model prog w) A (eval b env) (λo f=>wpAny (model prog w) A (eval a env) (λi c=>c.TypeIs o T/\wpAny (model prog w) A (getItem o i) Q E c) E f) E s):wpAny (model prog w) A (eval (.Subscript b a pos) env) Q E s:=by
 refine Subscript_ (Co h (λo f k=>Co k (λi c d=>?_) λ_ _ x=>x) λ_ _ x=>x);obtain⟨l,d⟩:=d;refine Ae ?_;refine Ae (wpAny_specialOf l m ?_);have g:wpAny (model prog w) A (subscripted a false o i) (λr e=>wpAny (model prog w) A (letTemporaryGo b o r >>= λ_=>pure r) Q E e) E c:=by
  rw[hs o i];exact wpAny_operating (Co d (λr e j=>Ae (wpAny_letTemporaryGo (Au j))) λ_ _ x=>x)
 first
  |exact Au (Ae g)
def E2{U:St}{o:Option V}(I:Inv X y6 U H s)(g:Zc H a y o):s.TypeIs (.ref a) "dict" := by
 rcases g with⟨c,k,e,_,_⟩|⟨c,k,b,e,_,_,_⟩
 .obtain⟨_,_,h,_,d⟩:=lD I.Z3 e;exact d.typeIs
 .obtain⟨_,_,f,_,d⟩:=tE I.Z3 e;exact d.typeIs
def Qn(d c:TE):TE:=λU H Q=>d U H λx e=>c U e λy b=>∃a v,x=.ref a/\Zc b a y (some v)/\Q v b
def Qe(e c d:TE):TS:=λD U H=>d U H λv h=>e U h λx g=>c U g λy f=>∃a b,x=.ref a/\XZ f a y v b/\D.nx U b
section
variable {o i value:Expr} {pos':Pos} {td ty:TE}
def kO(hu:X.A.units+1<cLine)(ho:PE X o td)(hi:PE X i ty)(hs:QE i):PE X (.Subscript o i pos) (Qn td ty):=by
 intro y6 s U H Q I h;refine LX PySem.F.slot_dict_getitem.lookup hs (ZY (ho y6 s U H _ I h) λu s1 ⟨x,H1,I1,rx,q1⟩=>ZY (hi y6 s1 U H1 _ I1 q1) λiv s2 μ=>?_);obtain⟨y,H2,I2,ry,a,v,ex,g,q2⟩:=μ;subst ex;obtain rfl:u=Value.ref a:=rx;exact⟨E2 I2 g,Je hu I2 g ry λw' s3 I3 rw'=>⟨v,H2,I3,rw',q2⟩⟩
def iV(hu:X.A.units+1<cLine)(ho:PE X o td)(hi:PE X i ty)(hv:PE X value tv)(hs:swapsWith value (some (.Subscript o i pos')) pos.line X.env=pure false):PS X (.Assign [.Subscript o i pos'] value pos) (Qe td ty tv):=by
 intro y6 s U H D I h;refine wpAny_Assign_Subscript (ZY (hv y6 s U H _ I h) λr s1 ⟨v,H1,I1,rv,q1⟩=>ZY (ho y6 s1 U H1 _ I1 q1) λu s2 ⟨x,H2,I2,rx,q2⟩=>ZY (hi y6 s2 U H2 _ I2 q2) λiv s3 μ=>?_) hs;obtain⟨y,H3,I3,ry,a,H4,ex,g,q3⟩:=μ;subst ex;obtain rfl:u=Value.ref a:=rx;exact Ll hu I3 g ry rv λs4 I4=>⟨U,H4,I4,q3⟩
end
def G0(h:Heap)(a:sysModules<h.objs.size):ZX P w H (h.push {cls:=.type "dict",data:=.dict #[]}) h.objs.size (.dK []):=
 ⟨Ct _,Dc.mpr (Ne.symm (Bm a)),[],.nil,Heap.DictOf.new h⟩
def JJ(h:Heap)(a:sysModules<h.objs.size):ZX P w H (h.push {cls:=.type "dict",data:=.dict #[]}) h.objs.size (.dT []):=
 ⟨Ct _,Dc.mpr (Ne.symm (Bm a)),[],.nil,_,#[],0,Ay _ rfl,⟨rfl,rfl,rfl⟩,rfl,rfl,List.nodup_nil⟩
def PZ:TE:=λ_ H Q=>∀p,H p=none->Q (.ref p) (upd H p (.dK []))
def OB:TE:=λ_ H Q=>∀p,H p=none->Q (.ref p) (upd H p (.dT []))
def wY:PE X (.Dict [] [] pos) PZ:=λb s U H Q I h=>
 wpAny_Dict_empty ⟨.ref s.heap.objs.size,_,I.laid    (λ_ _ q=>Aj _ q) (Ai _) (G0 s.heap I.big),rfl,h _ (I.Z3.fresh (Ai _))⟩
def NO:PE X (.Dict [] [] pos) OB:=λb s U H Q I h=>
 wpAny_Dict_empty ⟨.ref s.heap.objs.size,_,I.laid    (λ_ _ q=>Aj _ q) (Ai _) (JJ s.heap I.big),rfl,h _ (I.Z3.fresh (Ai _))⟩
def NI(H:Hp)(a:Addr):Prop:=(∃b,Rd H a (.dK b))\/∃b,Rd H a (.dT b)
def R1{U:St}(I:Inv X y6 U H s)(d:NI H a):s.TypeIs (.ref a) "dict"/\(∀b,Value.ref a=.ref b->∃c,s.heap.get? b=some c/\c.dict=none)/\(a==sysModules)=false:=by
 rcases d with⟨g,e⟩|⟨g,e⟩
 .obtain⟨_,h,l,_,f⟩:=lD I.Z3 e;refine⟨f.typeIs,λb q=>?_,h⟩;cases q;obtain⟨c,_,_,j,i,_⟩:=f;exact⟨c,j,i.2.1⟩
 .obtain⟨_,h,k,_,f⟩:=tE I.Z3 e;refine⟨f.typeIs,λb q=>?_,h⟩;cases q;obtain⟨c,_,_,j,i,_⟩:=f;exact⟨c,j,i.2.1⟩
section
variable {U:St} {d:V} {r:Value} {o:Option V}
def DP{Q:Q0}(r:A.units+1<cLine)(I:Inv X y6 U H s)(g:Zc H a y o)(p:RelV y u)(h:∀m n,Inv X y6 U H n->RelV (o.getD .non) m->Q m n):wpAny (model X.prog X.w) A (call (.builtin "dict.get") [.ref a,u]) Q E s:=by
 rcases g with⟨f,k,e,j,l⟩|⟨f,k,b,e,j,t,l⟩
 .subst j;obtain⟨z,i,v,c,d⟩:=lD I.Z3 e;refine Gk Ci d.typeIs Fc (Hr _ _) (meets_dict_get (bH X.prog X.w) a (xC p) i) ⟨_,d.mapOf,h _ _ (I.tok _) ?_⟩;rw[l];exact(c.val k).getD rfl
 .subst j;cases (show u=Value.ref b from p);obtain⟨z,i,q,c,d⟩:=tE I.Z3 e;refine Gk Ci d.typeIs Fc (Hr _ _) (meetsH_dict_get (tupleKind (bH X.prog X.w)) a b i) ⟨Fh r,k,q,pA I.Z3 t,d,h _ _ (I.tok _) ?_⟩;rw[l];exact(c.val k).getD rfl
def BR{Q:Q0}(x:A.units+1<cLine)(I:Inv X y6 U H s)(g:Zc H a y o)(q:RelV y u)(t:RelV d r)(h:∀n p,Inv X y6 U H p->RelV (o.getD d) n->Q n p):wpAny (model X.prog X.w) A (call (.builtin "dict.get") [.ref a,u,r]) Q E s:=by
 rcases g with⟨i,k,e,m,l⟩|⟨i,k,b,e,m,B,l⟩
 .subst m;obtain⟨z,j,C,c,f⟩:=lD I.Z3 e;refine Gk Ci f.typeIs Fc (PySem.F.args_dict_get_3 _ _ _) (meets_dict_get_default (bH X.prog X.w) a (xC q) j r) ⟨_,f.mapOf,h _ _ (I.tok _) ?_⟩;rw[l];exact(c.val k).getD t
 .subst m;cases (show u=Value.ref b from q);obtain⟨z,j,v,c,f⟩:=tE I.Z3 e;refine Gk Ci f.typeIs Fc (PySem.F.args_dict_get_3 _ _ _) (meetsH_dict_get_default (tupleKind (bH X.prog X.w)) a b j r) ⟨Fh x,k,v,pA I.Z3 B,f,h _ _ (I.tok _) ?_⟩;rw[l];exact(c.val k).getD t
end
section
variable {U:St}
def IK{Q:Q0}(I:Inv X y6 U H s)(e:Rd H a (.dK kvs))(h:∀p f,H p=none->Inv X y6 U (upd H p (.dK kvs)) f->Q (.ref p) f):wpAny (model X.prog X.w) A (call (.type "dict") [.ref a]) Q E s:=by
 obtain⟨z,j,l,c,k⟩:=lD I.Z3 e;refine kt_call_dict j k (by rwa[<-c.length]) λm d i=>?_
 refine h _ _ (I.Z3.fresh (Ai _)) (I.laid    (λb q g=>?_) (Ai _) (Tt z (Dc.mpr (Ne.symm (Bm I.big))) c d));exact(i.2 b (Bm (Ax g))).trans (Aj _ g)
end
section
variable {U:St}
def Inv.re(I:Inv X y6 U H s)(j:∀b,H b=none->H' b=none)(f:∀b l,X.H₀ b=some (.tup l)->H' b=some (.tup l))(i:∀b o u,X.H₀ b=some (.frz o u)->H' b=some (.frz o u))(g:∀b m,X.H₀ b=some (.tbl m)->∃h,H' b=some (.tbl (m++h)))(k:Zl X.prog X.w H' s.heap):Inv X y6 U H' s:=
 ⟨I.ok,I.os,I.bare,⟨I.base.keep,I.base.slot,λb o e n q=>j b (I.base.free b o e n q),I.base.there,f,i,g⟩,I.loc,I.cell,j _ I.free,λx c e=>j c (I.ZO x c e),λp r=>by
  obtain⟨a,b,c,d,e⟩:=I.pin p r;exact⟨a,j _ b,c,d,e⟩,k,I.len⟩
noncomputable def Ov:HO->Bool
 |.dK _=>true
 |.dT _=>true
 |_=>false
def Inv.freeze{u:HO}(I:Inv X y6 U H s)(i:H a=some u)(j:Ov u=true)(r:s.heap.get? a=some o):Inv X y6 U (upd H a (.frz o u)) s:=by
 have h:∀c v,H c=some v->Ov v=false->c≠a:=λc v q n z=>by grind
 have g:∀c y,H c=some (.own y)->upd H a (.frz o u) c=some (.own y):=λc y q=>by rw[aH (h c _ q rfl)];exact q
 have d:∀c f,H c=some (.tup f)->upd H a (.frz o u) c=some (.tup f):=λc f q=>by rw[aH (h c _ q rfl)];exact q
 refine I.re (λb q=>by rw[aH (λz=>by rw[z,i]at q;cases q)];exact q) (λb f q=>d b f (I.base.tups b f q)) (λb p v q=>?_) (λb l q=>?_) (λb v q=>?_)
 .have:=I.base.frzs b p v q
  rw[aH (h b _ this rfl)];exact this
 .obtain⟨m,e⟩:=I.base.tbls b l q;exact⟨m,by rw[aH (h b _ e rfl)];exact e⟩
 .by_cases k:b=a
  .subst k;rw[aE]at q;cases q;exact(show s.heap.get? b=some o/\ZX X.prog X.w (upd H b (.frz o u)) s.heap b u from⟨r,(I.Z3 b _ i).ZC (λ_ _ _ q=>q) (λc=>g c b) d⟩)
  .rw[aH k]at q;exact(I.Z3 b v q).ZC (λ_ _ _ q=>q) (λc=>g c b) d
noncomputable def Zb(Hs H:Hp):Hp:=λb=>match H b with
 |some (.frz o u)=>(match Hs b with|some (.frz _ _)=>some (.frz o u)|_=>some u)
 |x=>x
def fA{u:HO}(h:H b=some u)(n:∀o v,u≠.frz o v):Zb Hs H b=some u:=by
 unfold Zb;grind
def uT(h:H b=none):Zb Hs H b=none:=by unfold Zb;rw[h]
def uF{Hs:Hp}{u:HO}(h:H b=some (.frz o u))(n:∀o v,Hs b≠some (.frz o v)):Zb Hs H b=some u:=by
 unfold Zb;simp_all
def nS{a:Obj}{u u':HO}(h:H b=some (.frz o u))(n:Hs b=some (.frz a u')):Zb Hs H b=some (.frz o u):=by
 unfold Zb;simp_all
def Inv.Zr{Hs:Hp}(I:Inv X y6 U H s)(r:∀b o u,X.H₀ b=some (.frz o u)->Hs b=some (.frz o u)):Inv X y6 U (Zb Hs H) s:=by
 have d:∀c y,H c=some (.own y)->Zb Hs H c=some (.own y):=λc y q=>fA q λ_ _ z=>by cases z
 have a:∀c f,H c=some (.tup f)->Zb Hs H c=some (.tup f):=λc f q=>fA q λ_ _ z=>by cases z
 refine I.re (λb q=>uT q) (λb f q=>a b f (I.base.tups b f q)) (λb o u q=>nS (I.base.frzs b o u q) (r b o u q)) (λb p q=>?_) (λb u q=>?_)
 .obtain⟨m,e⟩:=I.base.tbls b p q;exact⟨m,fA e λ_ _ z=>by cases z⟩
 .cases e:H b with
  |none=>rw[uT e]at q;cases q
  |some v=>
   have j:=I.Z3 b v e
   by_cases n:∃o g,v=.frz o g
   .obtain⟨o,g,rfl⟩:=n;have i:=j
    by_cases h:∃l k,Hs b=some (.frz l k)
    .obtain⟨l,k,h⟩:=h;rw[nS e h]at q;cases q;exact j.ZC (λ_ _ _ q=>q) (λc=>d c b) a
    .rw[uF e λo v z=>h ⟨o,v,z⟩]at q;cases q;exact i.2.ZC (λ_ _ _ q=>q) (λc=>d c b) a
   .rw[fA e λo g z=>n ⟨o,g,z⟩]at q;cases q;exact j.ZC (λ_ _ _ q=>q) (λc=>d c b) a
noncomputable def U7(Hs:Hp)(D:Ends):Ends:=⟨λU H=>D.nx U (Zb Hs H),λv H=>D.rt v (Zb Hs H),λU H=>D.bk U (Zb Hs H),λU H=>D.ct U (Zb Hs H)⟩
end
def OQ(t:TE):TE:=λU H Q=>t U H λv a=>Q v (Zb H a)
def RC(t:TS):TS:=λD U H=>t (U7 H D) U H
def Rm(h:PE X e t):PE X e (OQ t):=λa s U H Q I q=>ZY (h a s U H _ I q) λv g ⟨x,f,d,r,c⟩=>⟨x,Zb H f,d.Zr λb o u e=>I.base.frzs b o u e,r,c⟩
def To(h:PS X st t):PS X st (RC t):=λi s U H D I q=>ZY (h i s U H _ I q) λf k g=>by
 cases f with
 |next=>obtain⟨a,d,c,r⟩:=g;exact⟨a,Zb H d,c.Zr λb o u e=>I.base.frzs b o u e,r⟩
 |brk=>obtain⟨a,d,c,r⟩:=g;exact⟨a,Zb H d,c.Zr λb o u e=>I.base.frzs b o u e,r⟩
 |cont=>obtain⟨a,d,c,r⟩:=g;exact⟨a,Zb H d,c.Zr λb o u e=>I.base.frzs b o u e,r⟩
 |ret u=>obtain⟨v,a,d,c,j,r⟩:=g;exact⟨v,a,Zb H d,c.Zr λb o u e=>I.base.frzs b o u e,j,r⟩
def BH(h:t U H λv a=>Q v (Zb H a)):OQ t U H Q:=h
def DK(h:t (U7 H D) U H):RC t D U H:=h
def wQ{u:HO}(f:Hs a=some u)(g:∀o v,u≠.frz o v)(h:Z_ (upd Hs a (.frz o u)) H):Z_ Hs (Zb Hs H):=λb v q=>by
 by_cases e:b=a
 .subst e;rw[f]at q;cases q;exact uF (h _ _ aE) λo v z=>by grind
 .have:=h b v (by rwa[aH e])
  by_cases d:∃o c,v=.frz o c
  .obtain⟨i,c,rfl⟩:=d;exact nS this q
  .exact fA this λo c z=>d ⟨o,c,z⟩
def G2(h:Z_ Hs H):Z_ Hs (Zb Hs H):=λb v q=>by
 have:=h b v q
 by_cases c:∃o a,v=.frz o a
 .obtain⟨d,a,rfl⟩:=c;exact nS this q
 .exact fA this λo a z=>c ⟨o,a,z⟩
def xF{a:Type}{R:α->a->Prop}{xs:List α}{ys:List a}(r:Paired R xs ys):∀ {i:Nat} {x:α},xs[i]?=some x->∃y,ys[i]?=some y/\R x y:=by
 induction r with
 |nil=>intro i x h;cases h
 |cons h t c=>
  intro i x b;cases i with
  |zero=>cases b;exact⟨_,rfl,h⟩
  |succ i=>exact c  b
def Jr(h:(bH P w).is k u=true):RelV (kV k) u:=by
 rcases bZ h with⟨i,t,rfl,rfl⟩|⟨x,t,rfl,rfl⟩
 .exact⟨t,rfl⟩
 .exact⟨t,rfl⟩
noncomputable def TF(a:Addr)(o:Obj)(b:List (Key×V)):It:=⟨λi H=>H a=some (.frz o (.dK b))/\i<b.length,λi H x d=>d=H/\∃c,b[i]?=some c/\x=kV c.1,λi H=>H a=some (.frz o (.dK b))/\b.length=i⟩
def RM{U:St}(I:Inv X y6 U H s)(m:H a=some (.frz o (.dK kvs)))(h:∃i,o.data=.dict i ep):kvs.length<=sizeLine/\(a==sysModules)=false/\∃c,KV kvs c/\s.heap.DictAt (bH X.prog X.w) a c ep:=by
 have j:=I.Z3 a _ m
 obtain⟨e,z,l,c,f,t,n,p,d,k,b,r⟩:=j;rw[e]at d;cases d;obtain⟨i,g⟩:=h;have q:=b
 rw[g]at q;cases q;exact⟨z,l,c,f,o,_,e,k,b,r⟩
def HS(a m:Addr)(o:Obj)(l:List (Key×V))(W:Nat)(q:∃es,o.data=.dict es W):Turn P w K tg (TF a o l) [m] m (λi h=>h.IsKeyIter m a i l.length W) where
 mem:=by simp
 obj:=λi h f b n=>by
  have e:b=m:=by simpa using n
  subst e;obtain⟨o,e,c,d⟩:=f;exact⟨o,e,λv z=>by rw[d]at z;cases z⟩
 keep:=λi h x f k=>let ⟨o,ho,r⟩:=f;⟨o,k m (by simp) o ho,r⟩
 item:=by
  intro X G A J T i S s U H E I u f D;subst G A J;obtain⟨F,C⟩:=D;obtain⟨z,hd,Y,g,R⟩:=RM I F q;have j:=g.length
  obtain⟨Q,O,f2,N,M,L⟩:=u m (by simp)
  obtain⟨⟨k,v⟩,hx,B,_⟩:=xF g (Aa C);refine wpAny_pyNext_dict_item (knd:=bH X.prog X.w) (by rw[<-j];exact f) R hx λy x hk p Z=>?_
  have I1:=I.turned (t':=s.toks) (λb o n e=>(Z.2 b n).trans e) Q O N M L
  obtain⟨oi,e,c,d⟩:=id p;refine⟨y,rfl,wD (s:={s with heap:=x}) e c d (by decide) ⟨kV k,H,I1,Jr hk,⟨rfl,l[i],Aa C,by rw[B]⟩,?_,λb n=>(u b n).1⟩⟩
  rw[j];exact p
 done:=by
  intro X G A J T i S s U H E I u f D;subst G A J;obtain⟨F,C⟩:=D;obtain⟨z,hd,Y,g,R⟩:=RM I F q;have j:=g.length
  obtain⟨Q,O,f2,N,M,L⟩:=u m (by simp)
  exact wpAny_pyNext_dict_end (knd:=bH X.prog X.w) (I.ok.hd T) (by rw[<-j];exact f) R (Em (by ((try clear N O z);omega))) λx eb=>⟨rfl,I.turned (t':=s.toks) (λb o n e=>eb b o n e) Q O N M L⟩
 self:=λ_ _ _ _ _ f h=>wpAny_pyIter_keyiter f h
def Jq{U:St}(I:Inv X y6 U H s)(f:H a=some (.dK kvs)):∃o b c,s.heap.get? a=some o/\o.data=.dict b c:=by
 obtain⟨_,_,g,_,o,b,c,d,_,e,_⟩:=Tb I.Z3 f;exact⟨o,b,c,d,e⟩
def FR{U:St}(I:Inv X y6 U H s)(i:H a=some (.frz o (.dK kvs))):∃d,∃c,o.data=.dict c d:=by
 have g:=I.Z3 a _ i
 obtain⟨e,_,_,b,_,j,c,d,f,_,h,_⟩:=g;grind
def UU(H:Hp)(a:Addr)(R:Obj->List (Key×V)->Hp->Prop):Prop:=(∃b,H a=some (.dK b)/\∀o,R o b (upd H a (.frz o (.dK b))))\/∃o b,H a=some (.frz o (.dK b))/\R o b H
def walk_at{U:St}{R:Obj->List _->Hp->Prop}(I:Inv X y6 U H s)(h:UU H a R):∃o b g e,Inv X y6 U g s/\g a=some (.frz o (.dK b))/\(∃d,o.data=.dict d e)/\R o b g:=by
 rcases h with⟨b,c,q⟩|⟨o,b,c,q⟩
 .obtain⟨o,d,e,i,f⟩:=Jq I c;exact⟨o,b,_,e,I.freeze c rfl i,aE,⟨d,f⟩,q o⟩
 .obtain⟨e,d,f⟩:=FR I c;exact⟨o,b,H,e,I,c,⟨d,f⟩,q⟩
def Qf(c:TE):TI:=λU H R=>c U H (fE λa e=>UU e a λo b d=>R (TF a o b) d)
def BL(m:PE X l tl):PI X tg l (Qf tl):=by
 intro j s U H R I h;refine ZY (m j s U H _ I h) λv c ⟨x,E,B,k,d⟩=>?_;unfold fE at d;split at d
 .cases k;rename_i A _
  obtain⟨o,i,C,u,f,r,a,q⟩:=walk_at B d;obtain⟨z,n,D,g,y⟩:=RM f r a;refine wpAny_pyIter_dict (knd:=bH X.prog X.w) n y ?_;refine⟨c.heap.objs.size,[c.heap.objs.size],_,_,C,rfl,f.kept (t':=c.toks) λb o e=>Aj _ e,HS A _ o i u a,⟨_,Ay _ rfl,rfl,by rw[g.length];rfl⟩,λb p=>?_,q⟩
  have e:b=c.heap.objs.size:=by simp_all
  subst e;exact f.YE (Ai _) (f.Z3.fresh (Ai _))
 .exact d.elim
noncomputable def X1(H:Hp)(p:Addr):Bool:=match H p with
 |some (.dK _)=>true
 |some (.dT _)=>true
 |some (.frz _ (.dK _))=>true
 |some (.frz _ (.dT _))=>true
 |_=>false
def RZ(h:X1 H p=true):NI H p:=by
 unfold X1 at h;split at h
 .exact .inl ⟨_,.inl (by assumption)⟩
 .exact .inr ⟨_,.inl (by (assumption))⟩
 .exact .inl ⟨_,.inr ⟨_,by assumption⟩⟩
 .exact .inr ⟨_,.inr ⟨_,by assumption⟩⟩
 .cases h
def kC(h:H p=some (.dK kvs)):X1 H p=true:=by unfold X1;rw[h]
def NQ(h:H p=some (.frz o (.dK kvs))):X1 H p=true:=by unfold X1;rw[h]
section
variable {U:St}
def G4(h:tl U H (fE λa d=>UU d a λo b c=>R (TF a o b) c)):Qf tl U H R:=h
def Mo{b:Obj->List _->Hp->Prop}(e:H a=some (.dK kvs))(h:∀o,b o kvs (upd H a (.frz o (.dK kvs)))):UU H a b:=.inl ⟨kvs,e,h⟩
end
section
variable {o:Expr} {t:TA} {id:String}
def OD(r:V->List V->Hp->VK->Prop)(c:TE)(t:TA):TE:=λU H Q=>c U H (fE λp a=>X1 a p=true/\t U a λb d=>r (.ref p) b d Q)
def Rp(r:V->List V->Hp->VK->Prop)(b:TE):TE:=λU H Q=>b U H (fE λp a=>X1 a p=true/\r (.ref p) [] a Q)
def iH(d:Slot "dict" name id)(i:typeOf (.builtin id)=pure (.type "method_descriptor"))(B:YT X id r)(A:PE X o to)(D:PA X (e::es) t)(c:attributeBase o name X.env (eval o X.env)=eval o X.env:=by rfl)(f:((backTo cpos (starEach (e::es) X.env)).all (λx=>!x.1)&&(backToKw cpos (keywordEach [] X.env)).all (λx=>x.1.isSome)
 && decide ((e::es).length+([]:List Keyword).length+(if ([]:List Keyword).isEmpty then 0 else 1)<30))=true:=by rfl)(b:(apos.endLine==cpos.line)=true:=by rfl)(hs:starEach (e::es) X.env=(false,eval e X.env)::starEach es X.env:=by rfl)(a:(backTo cpos (starEach es X.env)).any (·.1)=false:=by rfl):PE X (.Call (.Attribute o name apos) (e::es) [] cpos) (OD r to t):=by
 intro g s U H Q I h;refine Hy c f b rfl (ZY (A g s U H _ I h) λv u μ=>?_);obtain⟨x,K,l,j,q⟩:=μ;unfold fE at q;split at q
 .obtain⟨C,z⟩:=q;obtain⟨F,E,_⟩:=R1 l (RZ C);cases _root_.id j;refine⟨"dict",_,Gg,d,i,F,E,?_⟩;have k:=D cpos g u U K _ l z
  rw[hs]at k ⊢;refine Du (by show (false || (backTo cpos (starEach es X.env)).any (·.1))=false;rw[a]<;>rfl) (Gz ?_)
  exact ZY k λn p ⟨m,J,G,w,y⟩=>B g p U J _ m _ n Q G j w y
 .exact q.elim
def AU(c:Slot "dict" name id)(d:typeOf (.builtin id)=pure (.type "method_descriptor"))(l:YT X id r)(k:PE X o to)(b:attributeBase o name X.env (eval o X.env)=eval o X.env:=by rfl)(a:(apos.endLine==cpos.line)=true:=by rfl):PE X (.Call (.Attribute o name apos) [] [] cpos) (Rp r to):=by
 intro e s U H Q I h;refine Ho b a (ZY (k e s U H _ I h) λv i μ=>?_);obtain⟨x,t,g,f,q⟩:=μ;unfold fE at q;split at q
 .obtain⟨m,j⟩:=q;obtain⟨p,n,_⟩:=R1 g (RZ m);cases _root_.id f;exact⟨"dict",_,Gg,c,d,p,n,Du rfl (Hi (l e i U t _ [] _ [] Q g f .nil j))⟩
 simp_all
def Pf:V->List V->Hp->VK->Prop:=λx b H Q=>∃a y z o,x=.ref a/\b=[y,z]/\Zc H a y o/\Q (o.getD z) H
def Vs(i:X.A.units+1<cLine):YT X "dict.get" Pf:=by
 intro k s U H x n v o Q I c d h;obtain⟨a,y,z,r,rfl,rfl,g,q⟩:=h;cases c;obtain⟨u,m,rfl,e,b⟩:=R4 d;exact BR i I g e b λl p j f=>⟨_,H,j,f,q⟩
def Oq:V->List V->Hp->VK->Prop:=λx c H Q=>∃a b,x=.ref a/\c=[]/\H a=some (.dK b)/\Q .non (upd H a (.dK []))
def Ro:YT X "dict.clear" Oq:=by
 intro g s U H x i v j Q I b c h;obtain⟨a,d,rfl,rfl,e,q⟩:=h;cases b;cases c;exact M1 I e λk f=>⟨.non,_,f,rfl,q⟩
def QI:V->List V->Hp->VK->Prop:=λx b H Q=>∃(p:Addr) (a:List Str) (z:Str),x=.ref p/\b=[.str z]/\Z4 H p=some (a.map V.str)/\Q (.int ((a.countP (· == z):Nat):Int)) H
def tB(z:Str):∀a:List Str,countIn (.str z) (a.map PyData.str)=((a.countP (· == z):Nat):Int)
 |[]=>rfl
 |y::r=>by
  have b:=tB z r
  rw[As];unfold countIn;rw[b,Dv];by_cases e:y=z
  .subst e;simp[same];((try clear b);omega)
  .simp[same,e]
def HV:YT X "list.count" QI:=by
 intro i s U H x j v k Q I a b h;obtain⟨p,g,z,rfl,rfl,f,q⟩:=h;cases a;obtain⟨u,rfl,c⟩:=b.one;obtain⟨t,rfl⟩:=c;obtain⟨e,r,d,_⟩:=I.list (bE f);exact count_list_strs d.isList (wO r) (by rw[tB];exact⟨.int _,H,I.tok _,⟨_,rfl⟩,q⟩)
def ON:List V->Hp->VK->Prop:=λc H Q=>∃a b,c=[.ref a]/\Rd H a (.dK b)/\∀p,H p=none->Q (.ref p) (upd H p (.dK b))
def J_:ZU X (.type "dict") ON:=by
 intro g s U H i j Q I r h;obtain⟨a,c,rfl,e,q⟩:=h;obtain⟨u,rfl,b⟩:=dP r;cases b;exact IK I e λp k d f=>⟨.ref p,_,f,rfl,q p d⟩
def R_(x y:V)(H:Hp)(Q:VK):Prop:=∃a v,x=.ref a/\Zc H a y (some v)/\Q v H
def R5(D:Ends)(U:St)(x y v:V)(H:Hp):Prop:=∃a b,x=.ref a/\XZ H a y v b/\D.nx U b
end
section
variable {U:St} {w:V} {td ty:TE} {t:TA}
def Jm(h:to U H (fE λp a=>X1 a p=true/\t U a λb c=>r (.ref p) b c Q)):OD r to t U H Q:=h
def FT(h:to U H (fE λp a=>X1 a p=true/\r (.ref p) [] a Q)):Rp r to U H Q:=h
def KG{P:Prop}(e:X1 H a=true)(h:P):X1 H a=true/\P:=⟨e,h⟩
def Vq(e:Rd H a (.dK kvs))(h:Q ((cN kvs (Sum.inr z)).getD w) H):Pf (.ref a) [.str z,w] H Q:=⟨a,.str z,w,_,rfl,rfl,.inl ⟨kvs,.inr z,e,rfl,rfl⟩,h⟩
def QP(e:H a=some (.dK kvs))(h:Q .non (upd H a (.dK []))):Oq (.ref a) [] H Q:=⟨a,kvs,rfl,rfl,e,h⟩
def K3{ys:List Str}(e:Z4 H p=some (ys.map V.str))(h:Q (.int ((ys.countP (· == z):Nat):Int)) H):QI (.ref p) [.str z] H Q:=⟨p,ys,z,rfl,rfl,e,h⟩
def A1(e:Rd H a (.dK kvs))(h:∀p,H p=none->Q (.ref p) (upd H p (.dK kvs))):ON [.ref a] H Q:=⟨a,kvs,rfl,e,h⟩
def EI(h:∀p,H p=none->Q (.ref p) (upd H p (.dK []))):PZ U H Q:=h
def Lx(h:td U H λx b=>ty U b λy a=>R_ x y a Q):Qn td ty U H Q:=h
def Uw(e:Rd H a (.dK kvs))(l:cN kvs (Sum.inr z)=some v)(h:Q v H):R_ (.ref a) (.str z) H Q:=⟨a,v,rfl,.inl ⟨kvs,.inr z,e,rfl,l.symm⟩,h⟩
def Lp(h:tv U H λv c=>td U c λx b=>ty U b λy a=>R5 D U x y v a):Qe td ty tv D U H:=h
def nN(e:H a=some (.dK kvs))(l:kvs.length<sizeLine)(h:D.nx U (upd H a (.dK (eK kvs (Sum.inr z) v)))):R5 D U (.ref a) (.str z) v H:=⟨a,_,rfl,.inl ⟨kvs,.inr z,e,rfl,l,rfl⟩,h⟩
end
section
open PySem.AutoSeq1 (wpAny_loadPart')
open PySem.MeetsSeq PySem.MeetsSeq2 PySem.MeetsSeq3
def XN(P:Program)(w:World)(A:Around)(s:Shared)(u v:Value):Prop:=∀E Q,Q true s->wpAny (model P w) A (eqBool u v) Q E s
def HZ(l b:Addr)(xs ys:Array Value)(n x:Nat)(dd p:Option Addr)(u f:Array (Option Value))(hsz:xs.size=ys.size)(k:Nat):∀i,xs.size-i=k->MeetsIn P w (Builtin.«list.__eq__.loop» ⟨[.ref l,.ref b,rawInt i,rawInt 2],[]⟩)
 (λA R s=>s.heap.get? l=some ⟨.type "list",dd,.seq xs n,u⟩/\s.heap.get? b=some ⟨.type "list",p,.seq ys x,f⟩/\(∀j E (D:j<ys.size),XN P w A.in1 s xs[j] ys[j])/\R (.ok (.ret (.bool true))) s):=by
 induction k with
 |zero=>
  intro i B A R s h;obtain⟨z,g,d,t,v⟩:=s;obtain⟨e,c,o,h⟩:=h
  wp_walk using (Ck e),(Ck c)
  have m:xs[((i:Nat):Int).toNat]?=none:=by simp;omega
  have a:ys[((i:Nat):Int).toNat]?=none:=by simp;omega
  rw[m,a]
  wp_walk using (Ck e),(Ck c)
  show R (.ok (.ret (.bool (xs.size==ys.size)))) _
  rwa[hsz,Fe]
 |succ k y=>
  intro i B A R s h;obtain⟨z,g,d,t,v⟩:=s;obtain⟨e,c,o,h⟩:=h
  wp_walk using (Ck e),(Ck c)
  have r:i<xs.size:=by omega
  have q:i<ys.size:=by ((try clear B);omega)
  have m:xs[((i:Nat):Int).toNat]?=some xs[i]:=by simp
  have a:ys[((i:Nat):Int).toNat]?=some ys[i]:=by simp
  have C:((i:Int)+1)=((i+1:Nat):Int):=by push_cast;rfl
  rw[m,a];refine Ae (o i r q _ _ ?_)
  wp_walk
  rw[C];refine⟨Fx plain_eq_loop _,Eu entry_eq_loop ?_⟩;exact y (i+1) (by ((try clear C q);omega)) A R _ ⟨e,c,o,h⟩
def C0(l b:Addr)(xs ys:Array Value)(n x:Nat)(dd p:Option Addr)(u f:Array (Option Value))(hsz:xs.size=ys.size)(k:Nat):∀i,xs.size-i=k->MeetsIn P w (Builtin.«list.__eq__.loop» ⟨[.ref l,.ref b,rawInt i,rawInt 3],[]⟩)
 (λA R s=>s.heap.get? l=some ⟨.type "list",dd,.seq xs n,u⟩/\s.heap.get? b=some ⟨.type "list",p,.seq ys x,f⟩/\(∀j E (D:j<ys.size),XN P w A.in1 s xs[j] ys[j])/\R (.ok (.ret (.bool false))) s):=by
 induction k with
 |zero=>
  intro i B A R s h;obtain⟨z,g,d,t,v⟩:=s;obtain⟨e,c,o,h⟩:=h
  wp_walk using (Ck e),(Ck c)
  have m:xs[((i:Nat):Int).toNat]?=none:=by simp;omega
  have a:ys[((i:Nat):Int).toNat]?=none:=by simp;omega
  rw[m,a]
  wp_walk using (Ck e),(Ck c)
  show R (.ok (.ret (.bool (xs.size != ys.size)))) _
  rwa[hsz,bne_self_eq_false]
 |succ k y=>
  intro i B A R s h;obtain⟨z,g,d,t,v⟩:=s;obtain⟨e,c,o,h⟩:=h
  wp_walk using (Ck e),(Ck c)
  have r:i<xs.size:=by omega
  have q:i<ys.size:=by ((try clear B);omega)
  have m:xs[((i:Nat):Int).toNat]?=some xs[i]:=by simp
  have a:ys[((i:Nat):Int).toNat]?=some ys[i]:=by simp
  have C:((i:Int)+1)=((i+1:Nat):Int):=by push_cast;rfl
  rw[m,a];refine Ae (o i r q _ _ ?_)
  wp_walk
  rw[C];refine⟨Fx plain_eq_loop _,Eu entry_eq_loop ?_⟩;exact y (i+1) (by ((try clear C q);omega)) A R _ ⟨e,c,o,h⟩
section
variable {l:Addr} {xs ys:Array Value}
def MP{Q:Q0}(hl:s.heap.IsList l xs)(hb:s.heap.IsList b ys)(hsz:xs.size=ys.size)(hu:A.units<cLine)(he:∀j h1 (h2:j<ys.size),XN P w A.in1 s xs[j] ys[j])(h:Q (.bool true) s):wpAny (model P w) A (richCompare .Eq (.ref l) (.ref b)) Q E s:=by
 obtain⟨⟨cls,dd,data,sl⟩,ho,hc,n,hd⟩:=id hl;obtain⟨⟨cls2,dd2,data2,sl2⟩,ho2,hc2,n2,hd2⟩:=id hb;obtain rfl:cls=.type "list" := hc;obtain rfl:data=.seq xs n:=hd;obtain rfl:cls2=.type "list" := hc2;obtain rfl:data2=.seq ys n2:=hd2;have g:MeetsIn P w (Builtin.«list.__eq__» ⟨[.ref l,.ref b],[]⟩) (λA R s=>s.heap.get? l=some ⟨.type "list",dd,.seq xs n,sl⟩/\s.heap.get? b=some ⟨.type "list",dd2,.seq ys n2,sl2⟩/\(∀j h1 (h2:j<ys.size),XN P w A.in1 s xs[j] ys[j])/\R (.ok (.ret (.bool true))) s):=by
  intro A R s h;obtain⟨hp,g,d,tk,os⟩:=s;obtain⟨ha,hq,he,h⟩:=h;have f3:=AutoSeq1.sub_list_list
  have hne:¬(xs.size != ys.size)=true:=by simp[hsz]
  wp_walk using (Ck ha),(Ck hq)
  refine⟨Fx plain_eq_loop _,Eu entry_eq_loop ?_⟩;exact HZ l b xs ys n n2 dd dd2 sl sl2 hsz _ 0 rfl A R _ ⟨ha,hq,he,h⟩
 exact wpAny_richCompare_same_room (op:=.Eq) ⟨_,ho,rfl⟩ ⟨_,ho2,rfl⟩ PySem.F.slot_list_eq (Gk PySem.F.slot_list_eq ⟨_,ho,rfl⟩ PySem.F.entry_list_eq (PySem.F.args_list_eq_2 _ _) g ⟨ho,ho2,he,show Value.bool true≠Value.notImplemented/\Q (.bool true) s from⟨(λx=>nomatch x),h⟩⟩) hu
def FN{Q:Q0}(hl:s.heap.IsList l xs)(hb:s.heap.IsList b ys)(hsz:xs.size=ys.size)(hu:A.units<cLine)(he:∀j h1 (h2:j<ys.size),XN P w A.in1 s xs[j] ys[j])(h:Q (.bool false) s):wpAny (model P w) A (richCompare .NotEq (.ref l) (.ref b)) Q E s:=by
 obtain⟨⟨cls,dd,data,sl⟩,ho,hc,n,hd⟩:=id hl;obtain⟨⟨cls2,dd2,data2,sl2⟩,ho2,hc2,n2,hd2⟩:=id hb;obtain rfl:cls=.type "list" := hc;obtain rfl:data=.seq xs n:=hd;obtain rfl:cls2=.type "list" := hc2;obtain rfl:data2=.seq ys n2:=hd2;have g:MeetsIn P w (Builtin.«list.__ne__» ⟨[.ref l,.ref b],[]⟩) (λA R s=>s.heap.get? l=some ⟨.type "list",dd,.seq xs n,sl⟩/\s.heap.get? b=some ⟨.type "list",dd2,.seq ys n2,sl2⟩/\(∀j h1 (h2:j<ys.size),XN P w A.in1 s xs[j] ys[j])/\R (.ok (.ret (.bool false))) s):=by
  intro A R s h;obtain⟨hp,g,d,tk,os⟩:=s;obtain⟨ha,hq,he,h⟩:=h;have f3:=AutoSeq1.sub_list_list
  have hne:¬(xs.size != ys.size)=true:=by simp[hsz]
  wp_walk using (Ck ha),(Ck hq)
  refine⟨Fx plain_eq_loop _,Eu entry_eq_loop ?_⟩;exact C0 l b xs ys n n2 dd dd2 sl sl2 hsz _ 0 rfl A R _ ⟨ha,hq,he,h⟩
 exact wpAny_richCompare_same_room (op:=.NotEq) ⟨_,ho,rfl⟩ ⟨_,ho2,rfl⟩ PySem.F.slot_list_ne (Gk PySem.F.slot_list_ne ⟨_,ho,rfl⟩ PySem.F.entry_list_ne (PySem.F.args_list_ne_2 _ _) g ⟨ho,ho2,he,show Value.bool false≠Value.notImplemented/\Q (.bool false) s from⟨(λx=>nomatch x),h⟩⟩) hu
def XN.same(u:Value):XN P w A s u u:=λE Q a=>SeqAt.EqAt.same u P w E Q a
def XN.refs(a:l≠b)(h:∀(E:Q0) (Q:Q0),Q (.bool true) s->wpAny (model P w) A (richCompare .Eq (.ref l) (.ref b)) Q E s):XN P w A s (.ref l) (.ref b):=λE Q d=>by
 refine Df (wpAny_ite_split (λc=>absurd (by grind) a) (λ_=>?_))
 exact Ae (h E _ (Fp d))
end
def SJ(b a:List (Key×V)):Prop:=b.length=a.length/\∀c∈b,cA c.2=true/\cN a c.1=some c.2
def Oa{d:List _}{g:List _}(i:KV d g){vs:List _}(r:KV kvs vs)(h:∀a∈kvs,cA a.2=true/\cN d a.1=some a.2):W.KeqHits A s g vs true:=by
 induction r with
 |nil=>exact .nil
 | @cons a n _ _ w t p=>
  obtain⟨k,v⟩:=a;obtain⟨x,u⟩:=n;obtain⟨e,o⟩:=w;cases e;obtain⟨f,q⟩:=h _ (Al ..);have c:=i.val k
  rw[q]at c;cases l:valueAt g k with
  |none=>rw[l]at c;exact(show False from c).elim
  |some y=>
   rw[l]at c;have m:=rW (A:=A) (s:=s) o (show RelV v y from c) f f
   rw[Pu f]at m;exact .hit   l m (p λa j=>h a (Ak _ j))
def A4{U:St}(I:Inv X y6 U H s){p:Addr}{a:List _}(o:Rd H p (.dK kvs))(n:Rd H q (.dK a))(d:SJ kvs a)(g:A.units<cLine)(E:Q0)(Q:Q0):(Q (.bool true) s->wpAny (model X.prog X.w) A (richCompare .Eq (.ref p) (.ref q)) Q E s)/\(Q (.bool false) s->wpAny (model X.prog X.w) A (richCompare .NotEq (.ref p) (.ref q)) Q E s):=by
 obtain⟨u,k,m,f,c⟩:=lD I.Z3 o;obtain⟨t,j,l,e,b⟩:=lD I.Z3 n;have i:(m.length==l.length)=true:=Hm.mpr (by rw[<-f.length,<-e.length];exact d.1)
 refine⟨λh=>W.keq_eq (r:=true) k j c b g (λ_=>Oa e f d.2) (by rwa[i]),λh=>W.keq_ne (r:=true) k j c b g (λ_=>Oa e f d.2) (by rwa[i])⟩
def Z2.u1(r:Z2 k A):A.units+1<cLine:=by have:=r.un;omega
end
section
open PySem.AutoSeq1 (wpAny_loadPart')
def SG:∀ {c:List V} {d:List Value},d.length=c.length->(∀(j:Nat) x u,c[j]?=some x->d[j]?=some u->RelV x u)->Vals c d
 |[],[],_,_=>.nil
 |x::r,u::t,hl,h=>.cons (h 0 x u rfl rfl) (SG (by simp_all) λj e f a b=>h (j+1) e f (by simp_all) (by simp_all))
 |[],_::_,hl,_=>absurd hl (by simp)
end
section
open PySem.W
section
variable {K:Frag} {x D:Addr} {ox:Obj} {od:Option Obj}
def MR{v:Value}{a:Bool}{Q:Q0}(Z:Xr K D)(X:K.In s.heap)(I:InstAt s.heap x ox D od)(f:findObj K D od name=some (.value v))(e:handedIn v=true)(h:Q v {s with toks:=s.toks+1}):wpAny (model prog w) A (getAttr (.ref x) name a) Q E s:=by
 obtain⟨n,g,d,t,m⟩:=s;have b:=I.type (M:=model prog w)
 have l:=looks_findIn (M:=model prog w) X Z.ga
 have k:=looks_findIn (M:=model prog w) X Z.gh
 have j:=looks_find (M:=model prog w) X I f
 unfold getAttr getAttrBy;refine Ae (wpAny_mkText (Df (Ae (b.at (Ae (l.at ?_))))));have c:(Value.builtin "BaseException.__getattribute__" == Value.builtin "object.__getattribute__")=false:=by decide +kernel
 have i:=F.excAttr_ValueError.ga.bind (.ref x)
 dsimp only;rw[c,Bool.and_false,if_neg Ar];unfold getAttrByItsOwn hookBefore;rw[if_pos (show onTheHeap (Value.ref D)=true from rfl)];refine Ae (k.at (Ae (wpAny_attempt (Df ?_))));unfold callGetattribute boundAndCalled;rw[if_neg (by rw[show onTheHeap (Value.builtin "BaseException.__getattribute__")=false from rfl,Bool.and_false];exact Ar)]
 refine Ae (wpAny_of_eq i ?_);refine Gj (Ft F.excAttr_ValueError.ga.plain F.entry_bexc_ga (GG Z X I ?_));unfold Builtin.«object.__getattribute__»;refine Ae (Au (Ae (Au (Ae (b.at (Ae (j.at ?_)))))));refine Au ?_;exact handed_on e h
def F6{e t0:Addr}{vs:Array Value}{c:List Value}{Q:Q0}(Z:Xr K D)(X:K.In s.heap)(I:InstAt s.heap e oe D od)(r:W.subIn K (.ref D) (.type "ValueError")=some true)(i:oe.data=.fields vs)(j:vs[0]?=some (.ref t0))(m:c.length<=sizeLine)(h:Q .none {s with heap:=(s.heap.push {cls:=.type "tuple",data:=.seq c.toArray}).update e (Obj.mapFields (·.setIfInBounds 0 (.ref s.heap.objs.size)))}):wpAny (model prog w) A (call (.builtin "ValueError.__init__") (.ref e::c)) Q E s:=by
 have p:=I.at_
 obtain⟨y,q,_⟩:=any_some Z.cls;have d:=Cs
 have v:=I.type (M:=model prog w)
 have u:=looks_subIn (M:=model prog w) X r
 refine Gj (Ft d.init.plain d.initEntry ?_);have t:∀Q E B,Q () s->wpAny (model prog w) B (checkBuiltinCall "ValueError.__init__" ⟨.ref e::c,[]⟩) Q E s:=λQ E B o=>by
  simp only[checkBuiltinCall,d.initKind,d.initSplit,d.initRow];refine Ae ((v.andThen u).at ?_);have l:=d.noStar
  have k:∀a b n,Bind.check ⟨.positional, "*", "ValueError",.self,[⟨"args",.varPos,false⟩]⟩ a b n (List.map (λx=>x.fst) ({pos:=Value.ref e::c}:Args).kw)=pure ():=λa b n=>check_star_args _ _ _ _ _ _
  repeat (first|wp_step)
  rw[I.cls];refine Ae ((looks_clsIn X q).at (Au ?_));repeat (first|wp_step)
  refine wpAny_onRaise ?_;rw[k];exact Au o
 refine t _ _ _ ?_;have f:=(Ds.mp j).1
 have g:=Aj (h:=s.heap) {cls:=.type "tuple",data:=.seq c.toArray} p
 unfold Builtin.«BaseException.__init__» newTuple Builtin.BaseException.bexcPut;dsimp only
 refine Ae (Hz (Ae (Ae (wpAny_field g i j (Ae (wpAny_setField g i f (wpAny_letGo (Au h))))))) (by show c.toArray.size<=sizeLine;rwa[Ba]))
noncomputable def Wc(K:Frag)(D:Addr):Option (List Value):=(clsIn K D).map (·.mro)
def OX{T:Addr}{v:Value}{o:Heap}{m:Q5}{ns:List Str}{Q:Unit->Shared->Prop}(Z:Xr K D)(X:K.In s.heap)(I:InstAt s.heap x ox D od)(hs:findIn K (.ref D) "__setattr__"=some (some (.builtin "object.__setattr__")))(k:Wc K D=some [.ref D,.ref T,.type "ValueError",.type "Exception",.type "BaseException",.type "object"])(g:findIn K (.ref D) name=some none)(C:∀B r (L:Q0),r (some dx) {s with heap:=o,toks:=s.toks+1}->wpAny (model prog w) B (instanceDict x true) r L {s with toks:=s.toks+1})(z:o.Ns1 dx m)(u:Within m ns)(N:ns.length<sizeLine)(h:∀c d,c.Ns1 dx (λy=>if y=name then some v else m y)->Heap.SameBut dx o c->Q () {s with heap:=c,toks:=d}):wpAny (model prog w) A (setAttr (.ref x) name v) Q E s:=by
 obtain⟨q,p,G⟩:=any_some Z.cls;have i:q.mro=[.ref D,.ref T,.type "ValueError",.type "Exception",.type "BaseException",.type "object"]:=by
  unfold Wc at k;rw[p]at k;exact Bj k
 have a:=PySem.F.store_ValueError
 have e:Looks (model prog w) s.heap (isInstance (.ref x) (.type "object")) true:=I.type.andThen (looks_mroIn X Z.mo)
 have j:Looks (model prog w) s.heap (mroOf (.ref D)) q.mro:=(looks_clsIn X p).andThen .now
 have O:=I.at_
 refine set_plain X I hs ?_;refine Ft a.slot.plain a.entry (@check_slot (model prog w) _ _ {s with toks:=s.toks+1} "object.__setattr__" "object" "__setattr__" (.ref x) [.str name s.toks,v] [] _ a.kind a.split e (a.args (.ref x) (.str name s.toks) v) ?_)
 rw[osa_eq,refuse_eq];refine Ae (Ae (I.type.here (s:={s with toks:=s.toks+1}) (Ae (j.here (s:={s with toks:=s.toks+1}) ?_))))
 rw[i,refuseLoop_ref,refuseLoop_ref,a.passes];refine Au (Ae (I.type.here (s:={s with toks:=s.toks+1}) (Ae ((looks_findIn X g).here (s:={s with toks:=s.toks+1}) (Ae (Au ?_))))))
 show wpAny (model prog w) A.in1 (Builtin.ObjectAttr.storeInOwnDict (Value.ref x) (Value.ref D) (Value.str name s.toks) name v false) _ _ _
 unfold Builtin.ObjectAttr.storeInOwnDict;refine Ae (Au ?_);rw[if_neg (show ¬((Value.ref D==Value.type "module")=true) by simp)]
 unfold Builtin.ObjectAttr.ownDictForStores;refine Ae (C _ _ _ ?_);show wpAny (model prog w) A.in1 (Builtin.ObjectAttr.storeInDict dx (Value.str name s.toks) name v) _ _ _
 unfold Builtin.ObjectAttr.storeInDict Builtin.ObjectAttr.newKeyGuard;refine Ae (Au (Ae (wpAny_nsSet1 z λc b t=>?_)));obtain⟨M,H,J,f,l,n⟩:=b.count (Within.cons name v u);refine Ae (wpAny_lookBehind f (by rw[l];exact pastItsLine_dict (Bh n (by rw[Av];(exact Nat.le_trans (by assumption) (by decide))))) ?_)
 exact Au (h c _ b t)
def HX{T:Addr}{v:Value}{vs:Array Value}{Q:Unit->Shared->Prop}(Z:Xr K D)(X:K.In s.heap)(I:InstAt s.heap x ox D none)(k:ox.data=.fields vs)(u:ox.dict=none)(hs:findIn K (.ref D) "__setattr__"=some (some (.builtin "object.__setattr__")))(F:Wc K D=some [.ref D,.ref T,.type "ValueError",.type "Exception",.type "BaseException",.type "object"])(r:findIn K (.ref D) name=some none)(h:∀g f,g.get? x=some {ox with dict:=some s.heap.objs.size}->g.Ns1 s.heap.objs.size (λy=>if y=name then some v else none)->(∀b o,b≠x->s.heap.get? b=some o->g.get? b=some o)->Q () {s with heap:=g,toks:=f}):wpAny (model prog w) A (setAttr (.ref x) name v) Q E s:=by
 obtain⟨L,H,z⟩:=any_some Z.cls;have m:=I.at_
 have j:(s.heap.push {cls:=.type "dict",data:=.dict #[]}).get? x=some ox:=Aj _ m
 have i:=Bm (Ax m)
 have t:((s.heap.push {cls:=.type "dict",data:=.dict #[]}).update x λo=>{o with dict:=some s.heap.objs.size}).get? s.heap.objs.size=some {cls:=.type "dict",data:=.dict #[]}:=
  (Heap.get?_update_ne _ _ _ _ i.symm).trans (Heap.get?_push_at rfl rfl)
 have p:((s.heap.push {cls:=.type "dict",data:=.dict #[]}).update x λo=>{o with dict:=some s.heap.objs.size}).Ns s.heap.objs.size (λ_=>none):=
  ⟨_,#[],_,t,rfl,λe G=>absurd G (by simp),λ_=>rfl⟩
 have l:((s.heap.push {cls:=.type "dict",data:=.dict #[]}).update x λo=>{o with dict:=some s.heap.objs.size}).get? x=some {ox with dict:=some s.heap.objs.size}:=by
  refine Heap.get?_update_self _ j ?_;obtain⟨a,b,c,d⟩:=ox;cases k;rfl
 refine OX Z X I hs F r (λB M N q=>?_) (Heap.Ns1.of_empty p) Within.nil (by rw[List.length_nil,Im];((try clear i);omega)) λg f n C=>h g f ((C.2 x i).trans l) n λb o J e=>
  (C.2 b (Bm (Ax e))).trans ((Heap.get?_update_ne _ _ _ _ J).trans (Aj _ e))
 unfold instanceDict;refine Ae (wpAny_loadPart m ?_);rw[I.cls];refine Ae ((looks_clsIn X H).here (s:={s with toks:=s.toks+1}) ?_)
 rw[z,u,k,if_neg (show ¬((!true)=true) by decide)]
 dsimp only;rw[if_neg (show ¬((!true || !typeHasDict (Value.ref D))=true) by simp[typeHasDict])]
 exact Ae (wpAny_alloc' (Ae (wpAny_update' j (Au q))))
def FW{T:Addr}{v:Value}{m:Q5}{ns:List Str}{b:Obj}{Q:Unit->Shared->Prop}(Z:Xr K D)(X:K.In s.heap)(I:InstAt s.heap x ox D (some b))(d:ox.dict=some dx)(hs:findIn K (.ref D) "__setattr__"=some (some (.builtin "object.__setattr__")))(k:Wc K D=some [.ref D,.ref T,.type "ValueError",.type "Exception",.type "BaseException",.type "object"])(c:findIn K (.ref D) name=some none)(j:s.heap.Ns1 dx m)(i:Within m ns)(g:ns.length<sizeLine)(h:∀f a,f.Ns1 dx (λy=>if y=name then some v else m y)->Heap.SameBut dx s.heap f->Q () {s with heap:=f,toks:=a}):wpAny (model prog w) A (setAttr (.ref x) name v) Q E s:=by
 obtain⟨n,l,e⟩:=any_some Z.cls;refine OX Z X I hs k c (λB o p q=>?_) j i g h;unfold instanceDict;refine Ae (wpAny_loadPart I.at_ ?_);rw[I.cls];refine Ae ((looks_clsIn X l).here (s:={s with toks:=s.toks+1}) ?_)
 rw[e,d,if_neg (show ¬((!true)=true) by decide)]
 exact Au q
end
end
section
open PySem.W
noncomputable def eV(e C:Addr)(d:Option Addr):HO:=.ext λh=>∃b a c,h.get? e=some b/\b.cls=.ref C/\b.dict=d/\b.data=.fields a/\a[1]?=some .none/\a[0]?=some (.ref c)/\a[2]?=some .none
noncomputable def YS(b:Addr)(fs:List (Str×V)):HO:=.ext λh=>∃a,h.Ns1 b a/\(∀f,Zq (fs.lookup f) (a f))/\Within a (fs.map (·.1))
def RF{vs:Array Value}{t0:Addr}(g:h.get? ea=some oe)(c:oe.cls=.ref C)(f:oe.dict=d)(i:oe.data=.fields vs)(b:vs[1]?=some .none)(e:vs[0]?=some (.ref t0))(j:vs[2]?=some .none):ZX P w H h ea (eV ea C d):=⟨⟨oe,vs,t0,g,c,f,i,b,e,j⟩,⟨oe,g⟩,λ_ _ ⟨o,a,t,g,q⟩ k=>⟨o,a,t,k o g,q⟩⟩
def Ou{fs:List _}{a:Q5}(n:h.Ns1 dx a)(r:∀f,Zq (fs.lookup f) (a f))(wi:Within a (fs.map (·.1))):ZX P w H h dx (YS dx fs):=by
 refine⟨⟨a,n,r,wi⟩,?_,λ_ _ ⟨m,⟨o,b,c,g,q⟩,r⟩ k=>⟨m,⟨o,b,c,k o g,q⟩,r⟩⟩;obtain⟨o,b,c,g,_⟩:=n;exact⟨o,g⟩
structure VW (K:Frag) (C T:Addr):Prop where
 ex:Xr K C
 sa:findIn K (.ref C) "__setattr__"=some (some (.builtin "object.__setattr__"))
 mro:Wc K C=some [.ref C,.ref T,.type "ValueError",.type "Exception",.type "BaseException",.type "object"]
 vb:W.subIn K (.ref C) (.type "ValueError")=some true
noncomputable def T5(K:Frag)(C T:Addr):Bool:=(clsIn K C).any λc=>c.mro==[.ref C,.ref T,.type "ValueError",.type "Exception",.type "BaseException",.type "object"]
def SK{T:Addr}(h:T5 K C T=true):Wc K C=some [.ref C,.ref T,.type "ValueError",.type "Exception",.type "BaseException",.type "object"]:=by
 obtain⟨c,b,h⟩:=any_some h;unfold Wc;rw[b];exact congrArg some (eq_of_beq h)
def nF{D:Addr}{vs:Array Value}(e:Zl P w H h)(g:h.get? ea=some oe)(j:oe.cls=.ref D)(a:oe.dict=d)(f:oe.data=.fields vs)(m:∀b,d=some b->∃o,H b=some o):∃k,InstAt h ea oe D k:=by
 have i:notCls oe=true:=by
  obtain⟨c,q,r,p⟩:=oe;cases f;rfl
 cases d with
 |none=>exact⟨none,g,j,i,by rw[a];trivial⟩
 |some b=>
  obtain⟨o,z⟩:=m b rfl;obtain⟨l,n⟩:=(e b o z).get;exact⟨some l,g,j,i,by rwa[a]⟩
def CO{o:HO}(e:H a=some o):upd H a o=H:=by
 funext b
 unfold upd;grind
def Th(K:Frag):List V->Hp->VK->Prop:=λe H Q=>∃b a C T d,e=.ref b::a/\a.length<=sizeLine/\H b=some (eV b C d)/\(∀c,d=some c->∃o,H c=some o)/\VW K C T/\Q .non H
def Oo(K:Frag)(t:TA):TE:=λU H Q=>t U H λa b=>Th K a b Q
def Ni:ZU X (.builtin "ValueError.__init__") (Th X.K):=by
 intro M s U H N O Q I r h;obtain⟨f,l,C,T,d,rfl,D,j,E,Z,q⟩:=h;cases r with
 | @cons _ _ _ B A y=>
  cases A;obtain⟨P,w,t0,g,m,c,a,J,n,L⟩:=(I.Z3 f _ j).1;obtain⟨R,G⟩:=nF I.Z3 g m c a E;refine F6 Z.ex I.Y_ G Z.vb a n (by rw[<-y.length];exact D) ?_
  have p:=Aj (h:=s.heap) {cls:=.type "tuple",data:=.seq B.toArray} g
  have i:=(Ds.mp n).1
  have k:=Obj.data_mapFields a (·.setIfInBounds 0 (Value.ref s.heap.objs.size))
  refine⟨.non,H,?_,rfl,q⟩;have v:=I.write (x:=f) (e:=f) (o:=eV f C d) (t':=s.toks) (by rw[j];exact True.intro) (.inl rfl) (λb u F z=>(Cb _ (Obj.mapFields (·.setIfInBounds 0 (Value.ref s.heap.objs.size))) (Ne.symm F)).trans (Aj _ z))
   ⟨_,Heap.get?_update_self _ p (Obj.isFreed_of_fields k)⟩ (RF (Heap.get?_update_self _ p (Obj.isFreed_of_fields k)) (by rw[Obj.cls_mapFields];exact m) (by rw[Po];exact c) k (by grind) (t0:=s.heap.objs.size) (by simp[i]) ((Array.getElem?_setIfInBounds_ne (by decide)).trans L))
  rw[CO j]at v;exact v
section
variable {T:Addr} {mc:Value} {t:TA}
def vQ(p:Gl X x)(o:X.mg x=some (.ref T))(v:specialIn X.K (.ref T) "__getattribute__"=some (some (.builtin "type.__getattribute__")))(u:readsIn X.K T mc=true)(r:findCls X.K (.ref T) mc "__init__"=some (.val (.builtin "ValueError.__init__")))(q:PA X (e::es) t)(c:(x==("__debug__" : Str))=false:=by decide)(a:starEach (e::es) X.env=(false,eval e X.env)::starEach es X.env:=by rfl)(b:(backTo pos (starEach es X.env)).any (·.1)=false:=by rfl)(n:eval (.Call (.Attribute (.Name x np) "__init__" apos) (e::es) [] pos) X.env=(do
 let g <-eval (.Name x np) X.env
 standAt apos.atName
 let (f,first) <-holding [g] (getMethod g "__init__" pl)
 callWith pos f first (backTo pos (starEach (e::es) X.env)) (backToKw pos (keywordEach [] X.env))):=by rfl):PE X (.Call (.Attribute (.Name x np) "__init__" apos) (e::es) [] pos) (Oo X.K t):=by
 intro d s U H Q I h;refine Fj (pl:=pl) (hZ I p o ?_ c) n;refine method_cls I.Y_ v (cls_value I.Y_ u r rfl ?_);exact PyProof.Rows.callWith_builtin1 (ZY (q pos d _ U H _ (I.tok _) h) λj k ⟨i,y,w,l,m⟩=>Ni d k U y i j Q w l m) a b
end
def Inv.YN{U:St}(I:Inv X y6 U H s)(h:s.heap.objs.size<=a):VH X y6 a where
 s0:=Gy (Bh I.sz h)
 loc:=λz=>absurd (Bd I.lt h) (by rw[z];exact De _)
 cell:=λx c e z=>by
  obtain⟨_,o,g,_⟩:=I.cell x c e;exact absurd (Bd (Ax g) h) (by simp_all)
 pin:=λp b z=>absurd (Bd (Ax (I.pin p b).1) h) (by rw[z];exact De _)
def PV(K:Frag)(g e:TE)(f:Str):TS:=λD U H=>e U H λy h=>g U h λx c=>∃b C T,x=.ref b/\VW K C T/\findIn K (.ref C) f=some none/\
 ((c b=some (eV b C none)/\∀a,c a=none->D.nx U (upd (upd c b (eV b C (some a))) a (YS a [(f,y)])))\/
  (∃a d,c b=some (eV b C (some a))/\c a=some (YS a d)/\d.length<100/\D.nx U (upd c a (YS a ((f,y)::d)))))
def yZ{f g:Str}{fs:List _}:List.lookup g ((f,y)::fs)=if g=f then some y else fs.lookup g:=by grind
def tX{o value:Expr}{f:Str}{pos':Pos}{ta:TE}(ha:PE X o ta)(hv:PE X value tv)(hs:swapsWith value (some (.Attribute o f pos')) pos.line X.env=pure false):PS X (.Assign [.Attribute o f pos'] value pos) (PV X.K ta tv f):=by
 intro y6 s U H D I h;refine plainObj_wpAny_Assign_Attribute (ZY (hv y6 s U H _ I h) λu s1 ⟨y,H1,I1,ry,q⟩=>ZY (ha y6 s1 U H1 _ I1 q) λov s2 μ=>?_) hs;obtain⟨x,H2,I2,rx,ea,C,T,ex,Z,hn,q2⟩:=μ;subst ex;obtain rfl:ov=Value.ref ea:=rx;rcases q2 with⟨he,q3⟩|⟨dx,fs,he,hdx,hl,q3⟩
 .obtain⟨oe,vs,t0,g,hc,hdi,hda,h1,h0,c2⟩:=(I2.Z3 ea _ he).1;obtain⟨od,hI⟩:=nF I2.Z3 g hc hdi hda (λ_ z=>nomatch z)
  have hod:od=none:=by
   have z:=hI.dict
   rw[hdi]at z;cases od with
   |none=>rfl
   |some o=>exact z.elim
  subst hod;refine HX Z.ex I2.Y_ hI hda hdi Z.sa Z.mro hn λh' tk' gx ns kp=>?_;have fr:=I2.YN (Ai _)
  have hfree:=I2.Z3.fresh (Ai _)
  have ne:s2.heap.objs.size≠ea:=λz=>by rw[z,he]at hfree;cases hfree
  have I3:=I2.write (x:=ea) (e:=ea) (o:=eV ea C (some s2.heap.objs.size)) (h':=h') (t':=tk') (by rw[he];exact True.intro) (.inl rfl) kp ⟨_,gx⟩ (RF gx hc rfl hda h1 h0 c2)
  have I4:=I3.adopt (a:=s2.heap.objs.size) (o:=YS s2.heap.objs.size [(f,y)]) fr (by rw[aH ne];exact hfree) (Ou ns (λg=>by
   rw[yZ];split
   .exact ry
   .exact True.intro) (λg hg=>by
   by_cases z:g=f
   .rw[z];exact Ah.mpr rfl
   .exact absurd (show (if g=f then some u else none)=none by rw[if_neg z]) hg))
  exact⟨U,_,I4,q3 _ hfree⟩
 .obtain⟨oe,vs,t0,g,hc,hdi,hda,h1,h0,c2⟩:=(I2.Z3 ea _ he).1;obtain⟨mA,n,r,wi⟩:=(I2.Z3 dx _ hdx).1;obtain⟨od,hI⟩:=nF I2.Z3 g hc hdi hda (λz e=>by cases e;exact⟨_,hdx⟩)
  have hod:∃o,od=some o:=by
   have z:=hI.dict
   rw[hdi]at z;cases od with
   |none=>exact z.elim
   |some o=>exact⟨o,rfl⟩
  obtain⟨o,rfl⟩:=hod;refine FW Z.ex I2.Y_ hI hdi Z.sa Z.mro hn n wi (by rw[Ab,Im];(exact Nat.le_trans (by assumption) (by decide))) λh' tk' ns sb=>?_
  have hd':∃o,h'.get? dx=some o:=let ⟨o,_,_,e',_⟩:=ns;⟨o,e'⟩
  have I3:=I2.write (x:=dx) (e:=dx) (o:=YS dx ((f,y)::fs)) (h':=h') (t':=tk') (by rw[hdx];exact True.intro) (.inl rfl) (λb q hb z=>(sb.2 b hb).trans z) hd' (Ou ns (λg=>by
   rw[yZ];split
   .exact ry
   .exact r g) (λg hg=>by
   by_cases z:g=f
   .rw[z];exact Al
   .refine Ak _ (wi g λz2=>hg ?_);show (if g=f then some u else mA g)=none
    rw[if_neg z];exact z2))
  exact⟨U,_,I3,q3⟩
def Tp(K:Frag)(e:TE)(f:Str):TE:=λU H Q=>e U H λx c=>∃a C b d v,x=.ref a/\(c a=some (yH a (.ref C) (some b))\/c a=some (eV a C (some b)))/\c b=some (YS b d)/\Xr K C/\findIn K (.ref C) f=some none/\d.lookup f=some v/\Q v c
def E4(r:RelV v u):handedIn u=true:=by
 cases v<;>first|(obtain⟨_,rfl⟩:=(show ∃t,u=_ from r);rfl)|(cases r;rfl)
def Nv{f:Str}{ta:TE}(he:PE X e ta)(hb:attributeBase e f X.env (eval e X.env)=eval e X.env):PE X (.Attribute e f pos) (Tp X.K ta f):=by
 intro y6 s U H Q I h;refine QJ hb (ZY (he y6 s U H _ I h) λu s1 μ=>?_);obtain⟨x,H1,I1,rx,ea,C,dx,fs,v,ex,e1,e2,Z,n,l,q⟩:=μ;subst ex;obtain rfl:u=Value.ref ea:=rx;obtain⟨oe,vs,g,hc,hdi,hda⟩:∃oe vs,s1.heap.get? ea=some oe/\oe.cls=.ref C/\oe.dict=some dx/\oe.data=.fields vs:=by
  rcases e1 with e1|e1
  .exact(I1.Z3 ea _ e1).1
  .obtain⟨oe,vs,t0,g,hc,hdi,hda,_⟩:=(I1.Z3 ea _ e1).1;exact⟨oe,vs,g,hc,hdi,hda⟩
 obtain⟨⟨mA,ns,r,wi⟩,_⟩:=I1.Z3 dx _ e2;obtain⟨od,hI⟩:=nF I1.Z3 g hc hdi hda (λz e=>by cases e;exact⟨_,e2⟩)
 obtain⟨o,go,lo⟩:=zX ns;have hod:od=some o:=by
  have z:=hI.dict
  rw[hdi]at z;cases od with
  |none=>exact z.elim
  |some o'=>
   have z:s1.heap.get? dx=some o':=z
   rw[go]at z;exact z.symm
 subst hod;have rl:=r f
 rw[l]at rl;cases hu:mA f with
 |none=>rw[hu]at rl;exact rl.elim
 |some u=>
  rw[hu]at rl;exact MR Z I1.Y_ hI (findObj_own Z.cls n rfl (by rw[lo,hu])) (E4 rl) ⟨v,H1,I1.tok _,rl,q⟩
end
section
open PySem.W
noncomputable def Ww(K:Frag)(C:Addr)(b:List Value)(a:String):Bool:=
 match K.lookup C with
 |some ⟨.type t,_,.cls c,d⟩=>t == "type" && !c.hasDel&&nsOkIn K c.ns &&
  (match c.mro with|.ref C1::bm=>C1==C&&tailIn K b bm|_=>false)&&(match d.toList with|[_,_,_,_,some (.builtin n),_]=>n==a|_=>false)
 |_=>false
def SY{K:Frag}(X:K.In h)(q:Ww K C bmB newId=true):∃d N nm f bs r e a s b dd p o m k j,h.get? C=some (excClassObj nm f C N bs d r e a s b dd p o m k j newId)/\OwnTail h bmB d:=by
 unfold Ww at q;split at q
 .rename_i t dd c w A
  simp only[Bool.and_eq_true,beq_iff_eq,Bool.not_eq_true']at q;obtain⟨⟨⟨⟨rfl,u⟩,y⟩,i⟩,g⟩:=q;split at i
  .rename_i D d v
   obtain⟨rfl,x⟩:D=C/\tailIn K bmB d=true:=by simpa only[Bool.and_eq_true,beq_iff_eq]using i
   split at g
   .rename_i p o m k n j hs
    obtain rfl:n=newId:=by simpa using g
    obtain⟨nm,bs,z,ns,f,r,e,a,s,b,B⟩:=c;dsimp only at v u y;subst v u;obtain⟨l⟩:=w;cases (show l=_ from hs);exact⟨d,ns,nm,f,bs,r,e,a,s,b,dd,p,o,m,k,j,X _ _ A,tail_of_in X x⟩
   .cases g
  .cases i
 .cases q
section
variable {K:Frag} {B initId:String}
def GF{a:List Value}{Q:Fin->Shared->Prop}(p:ExcBaseFacts B newId initId bmB)(X:K.In s.heap)(G:Ww K C bmB newId=true)(I:findIn K (.ref C) "__init__"=some (some (.ref f)))(J:typeIn K (.ref f)=some (.type "function"))(l:a.length<=sizeLine)(H:∀v e,Heap.MadeExcOf s.heap v e (.ref C) a->wpAny (model prog w) A (call (.ref f) (.ref e::a)) (λr q=>r=.none/\Q (.done (.ret (.ref e))) q) E {s with heap:=v}):wpAny (model prog w) A (Builtin.«type.__call__» ⟨.ref C::a,[]⟩) Q E s:=by
 obtain⟨h,g,d,t,u⟩:=s;obtain⟨M,N,R,P,bs,Y,O,F,ab,L,Z,W,V,U,T,S,i,D⟩:=SY X G;repeat (first|with_reducible refine wpAny_madeBy_exc i ?_|with_reducible refine Gv i ?_|wp_step)
 refine codeAny_call_builtin_code (Code.quiet_builtin _ p.quiet) (wpAny_check_new_subT p D i (codeAny_exc_new_subT p D i ?_ l));show wpAny _ _ _ _ _ _
 generalize c:(h.push {cls:=.type "tuple",data:=.seq a.toArray}).push {cls:=.ref C,data:=.fields #[.ref h.objs.size,.none,.none,.none,.bool false,.none]}=j;have k:∀b o,h.get? b=some o->j.get? b=some o:=λb o e=>by rw[<-c];exact Aj _ (Aj _ e)
 have x:j.get? (h.objs.size+1)=some {cls:=.ref C,data:=.fields #[.ref h.objs.size,.none,.none,.none,.bool false,.none]}:=by rw[<-c];heap_get
 have y:=X.keeps k
 have n:=k _ _ i
 have m:(Value.ref C::M).contains (.ref C)=true:=by simp
 unfold isInstance;repeat (first|(with_reducible refine wpAny_isSubtype_exc n ?_;rw[m])|with_reducible refine Gv x ?_|wp_step)
 show wpAny _ _ (typeLookup (.ref C) _) _ _ _
 refine(looks_findIn y I).here (s:=⟨j,g,d,t,u⟩) (Df (Ae ?_));unfold bindSpecial;refine Ae ((looks_typeIn y J).here (s:=⟨j,g,d,t,u⟩) ?_);rw[if_pos (by decide)]
 refine Au (Ae (Co (H j (h.objs.size+1) ⟨k,Gy (Io _),h.objs.size,x,Gy (Ai _),?_⟩) (λr q l=>?_) λ_ _ z=>z))
 .rw[<-c];exact Aj _ (Heap.get?_push_at rfl rfl)
 .obtain⟨rfl,z⟩:=l
  wp_walk
  exact z
def BO{a:List Value}{Q:Q0}(x:ExcBaseFacts B newId initId bmB)(X:K.In s.heap)(i:Ww K C bmB newId=true)(p:findIn K (.ref C) "__init__"=some (some (.ref f)))(q:typeIn K (.ref f)=some (.type "function"))(m:a.length<=sizeLine)(n:∀b e,Heap.MadeExcOf s.heap b e (.ref C) a->wpAny (model prog w) (A.under (.builtin "type.__call__" ⟨.ref C::a,[]⟩)) (call (.ref f) (.ref e::a)) (λr k=>r=.none/\Q (.ref e) k) E {s with heap:=b}):wpAny (model prog w) A (call (.ref C) a) Q E s:=by
 have v:=X
 obtain⟨T,N,D,z,S,L,y,j,U,u,M,J,I,H,G,F,c,V⟩:=SY X i;have R:=tc_lookup
 have P:=tc_bind (.ref C)
 refine Gj (codeAny_of_tree ?_)
 repeat (any_goals (first|with_reducible refine Gv c ?_|assumption|wp_step))
 exact⟨rfl,codeAny_call_builtin_at (Code.quiet_builtin _ (by decide +kernel)) entry_typeCall (wpAny_check_type_call_sub c (GF x v i p q m λb e o=>n b e o))⟩
def DE{x:Sem Value}{Q:Flow->Shared->Prop}(M:A.handled=none)(h:wpAny (model prog w) A x (λv b=>∃e c k j N o n H B m a I i G y u t r p,v=.ref e/\b.heap.get? C=some (excClassObj o n C N H j B m a I i G y u t r p newId)/\j.contains (.type "BaseException")=true/\
 b.heap.get? e=some c/\c.cls=.ref C/\c.data=.fields k/\k[1]?=some .none/\E (.ref e) b) E s):wpAny (model prog w) A (raiseStmt env (some x) none) Q E s:=by
 unfold raiseStmt;refine Ae (Co h (λv b q=>?_) λ_ _ z=>z);obtain⟨e,c,k,j,N,o,n,H,B,m,a,I,i,G,y,u,t,r,p,rfl,F,P,O,D,f,S,R⟩:=q;obtain⟨W,g,d,T,U⟩:=b;obtain⟨V,K,L,J⟩:=c;dsimp only at D f;subst D f;have l:(Value.ref C::j).contains (.type "BaseException")=true:=by rw[List.contains_cons,P,Bool.or_true]
 repeat (first|with_reducible refine Gv F ?_|with_reducible refine Gv O ?_|(with_reducible refine wpAny_isSubtype_exc F ?_;rw[l])|wp_step)
 rw[S];refine Au ?_
 exact Au (wpAny_raiseNew_none M R)
end
noncomputable def del(H:Hp)(a:Addr):Hp:=λb=>if b=a then none else H b
def eI(h:b≠a):del H a b=H b:=if_neg h
def RE:del H a a=none:=if_pos rfl
section
variable {U:St}
def Inv.drop{f:Heap->Prop}(I:Inv X y6 U H s)(e:H ea=some (.ext f)):Inv X y6 U (del H ea) s:=by
 have d:∀b u,H b=some u->(∀h,u≠.ext h)->b≠ea:=λb u q n z=>by grind
 refine I.re (λb n=>?_) (λb g q=>?_) (λb o u q=>?_) (λb i q=>?_) λb o q=>?_
 .unfold del;split
  .rfl
  .exact n
 .have a:=I.base.tups b g q
  rw[eI (d b _ a λ_ z=>nomatch z)]
  exact a
 .have a:=I.base.frzs b o u q
  rwa[eI (d b _ a λ_ z=>nomatch z)]
 .obtain⟨m,a⟩:=I.base.tbls b i q;exact⟨m,by rwa[eI (d b _ a λ_ z=>nomatch z)]⟩
 .have j:b≠ea:=λz=>by rw[z,RE]at q;cases q
  rw[eI j]at q;exact(I.Z3 b o q).ZC (λ_ _ _ z=>z) (λc z=>by rwa[eI (d c _ z λ_ z=>nomatch z)]) λc g z=>by rwa[eI (d c _ z λ_ z=>nomatch z)]
def Inv.Wd(I:Inv X y6 U H s)(b:X.ex=[])(h:s.heap.get? a=none):VH X y6 a where
 s0:=by
  cases z:X.s₀.heap.get? a with
  |none=>rfl
  |some o=>
   obtain⟨i,d⟩:=I.base.there a o z (by rw[b];simp)
   grind
 loc:=λz=>by
  obtain⟨m,⟨o,_,_,g,_⟩,_⟩:=I.loc;grind
 cell:=λx c e z=>by
  obtain⟨_,o,g,_⟩:=I.cell x c e;grind
 pin:=λp f z=>by
  have g:=(I.pin p f).1
  simp_all
end
def V0(P:Program)(w:World)(K:W.Frag)(c:Str->Option Value)(a:Heap)(k:Nat)(C:Addr)(ps:List Str)(sp:Sp):Prop:=
 ∃f b,Z8 P w K c a ZS k f b ps sp/\findIn K (.ref C) "__init__"=some (some (.ref f))/\typeIn K (.ref f)=some (.type "function")/\Binds K b ps []
structure Vw (K:Frag) (C:Addr):Prop where
 obj:Ww K C [.type "ValueError",.type "Exception",.type "BaseException",.type "object"] "ValueError.__new__"=true
 kp:keepIn K (.ref C)=true
def P5(C:Addr)(sp:Sp)(E:XK)(f:TA):TS:=λ_ U H=>f U H λb e=>b.length<=sizeLine/\∀a,e a=none->sp (.ref a::b) (upd e a (eV a C none)) (λv c=>v=.non/\∃d,c a=some (eV a C d)/\E (.ref C) d (del c a)) E0
section
variable {E:XK} {k:Nat} {ps:List Str}
def HY{U:St}{G:Addr->VK}{R:Q0}(p:X.ex=[])(M:Vw X.K C)(c:V0 X.prog X.w X.K X.mg X.base k C ps sp)(P:Z2 (k+1) X.A)(l:Inv X y6 U H1 s1)(r:Vals vs us)(Q:vs.length<=sizeLine)(q:∀a,H1 a=none->sp (.ref a::vs) (upd H1 a (eV a C none)) (G a) E0)(Y:∀a m y,X.s₀.heap.get? a=none->Inv X y6 U m y->(G a) .non m->R (.ref a) y)(Z:∀a v m,G a v m->v=.non):wpAny (model X.prog X.w) X.A (call (.ref C) us) R X.xe s1:=by
 obtain⟨f,fd,F,S,T,W⟩:=c;refine BO Cs l.Y_ M.obj S T (by rw[<-r.length];exact Q) λE a j=>?_
 obtain⟨t,g,_,_⟩:=j.there;have d:=l.Z3.hole j.new
 have I:=l.Wd p j.new
 have x:=(l.kept (t':=s1.toks) j.keeps).adopt (o:=eV a C none) I d (RF g rfl rfl rfl rfl rfl rfl)
 have z:Vals (V.ref a::vs) (Value.ref a::us):=.cons rfl r
 have D:=q a d
 have n:((Value.ref a::us)++[]).length=ps.length:=by rw[Bs,<-z.length];exact F.len _ _ _ _ D
 have i:=W {s1 with heap:=E} (Value.ref a::us) x.Y_ n
 rw[Bs]at i;refine Gj (Fb (F.run _ X.stack {s1 with heap:=E} _ ⟨Value.ref a::us,[]⟩ (Value.ref a::us) (V.ref a::vs) _ E0 (P.make C us []) (x.Xh.make C us []) i z D) λO L b=>?_)
 cases O with
 |error e=>exact False.elim b
 |ok fl=>
  cases fl with
  |ret u=>
   obtain⟨v,J,I3,N,B⟩:=x.after b;have ev:=Z a v J B
   subst ev;exact⟨N,Y a J L I.s0 I3 B⟩
  |next=>exact False.elim b
  |brk=>exact False.elim b
  |cont=>exact False.elim b
def nT(hR:R3 X E)(S:X.ex=[])(hc:X.calm=true)(hg:Gl X x)(hm:X.mg x=some (.ref C))(M:Vw X.K C)(c:V0 X.prog X.w X.K X.mg X.base k C ps sp)(hr:Z2 k' X.A)(R:k+1<=k')(ha:PA X (e::es) ta)(V:(x==("__debug__" : Str))=false:=by decide)(he:starEach (e::es) X.env=(false,eval e X.env)::starEach es X.env:=by rfl)(P:(backTo cpos (starEach es X.env)).any (·.1)=false:=by rfl):PS X (.Raise (some (.Call (.Name x np) (e::es) [] cpos)) none pos) (P5 C sp E ta):=by
 intro y6 s U H D I h;rw [arm_exec_Raise];simp only [evalOpt,Option.map];refine Ae (Fv (DE (C:=C) (newId := "ValueError.__new__") (I.ok.hd hc) ?_));refine Ae (Co (Q:=λv m=>∃ e f o n N y t Y V p a Z b W O L J G B,v=.ref e/\m.heap.get? C=some (excClassObj y t C N Y n V p a Z b W O L J G B "ValueError.__new__")/\n.contains (.type "BaseException")=true/\
     m.heap.get? e=some f/\f.cls=.ref C/\f.data=.fields o/\o[1]?=some .none/\X.xe (.ref e) m) ?_ (λv s3 h3=>Ae (Fv (Au h3))) λ_ _ z=>z)
 refine Dr (hZ I hg hm ?_ V);refine Fg (h₀:=X.base) I.ok.mod.WO M.kp (ZY (ha cpos y6 s U H _ I h) λus m ⟨o,H1,I1,r,hl,q⟩=>⟨I1.Y_,?_⟩) he P;refine HY S M c (hr.mono R) I1 r hl q (λl H' s' s0 I3 u=>?_) λl v H2 z=>z.1;obtain⟨_,d,e2,u⟩:=u;obtain⟨f,ws,t0,g2,j,T,i,h1,h0,c2⟩:=(I3.Z3 l _ e2).1;obtain⟨n,N,y,t,Y,g,p,a,Z,b,W,O,L,J,G,B,hC,Tl⟩:=SY I3.Y_ M.obj;refine⟨l,f,ws,n,N,y,t,Y,g,p,a,Z,b,W,O,L,J,G,B,rfl,hC,Tl.hasType PySem.F.excBase_ValueError.hasBase,g2,j,i,h1,?_⟩;exact hR y6 U (del H' l) s' l f ws (I3.drop e2) g2 i h1 c2 RE s0 (by simp_all)
end
noncomputable def oP(st:Stmt)(j:Nat):Stmt:=
 match st with
 |.ClassDef _ _ _ a _ _ _ _ _ _ _=>a.getD j (.Pass ⟨0,0,0,0⟩)
 |s=>s
section
variable {T:Addr} {U:St} {D':Ends} {E:XK} {f:Str}
def BB(h:ta U H λa b=>Th K a b Q):Oo K ta U H Q:=h
def Lg(h:ta U H λb e=>b.length<=sizeLine/\∀a,e a=none->sp (.ref a::b) (upd e a (eV a C none)) (λv c=>v=.non/\∃d,c a=some (eV a C d)/\E (.ref C) d (del c a)) E0):P5 C sp E ta D' U H:=h
def DD(h:tv U H λy e=>te U e λx c=>∃b C T,x=.ref b/\VW K C T/\W.findIn K (.ref C) f=some none/\
 ((c b=some (eV b C none)/\∀a,c a=none->D'.nx U (upd (upd c b (eV b C (some a))) a (YS a [(f,y)])))\/
  (∃a d,c b=some (eV b C (some a))/\c a=some (YS a d)/\d.length<100/\D'.nx U (upd c a (YS a ((f,y)::d)))))):PV K te tv f D' U H:=h
end
end
def RD{f:Str}{a:TE}(h:X.K=K)(b:PE X e a)(c:attributeBase e f X.env (eval e X.env)=eval e X.env):PE X (.Attribute e f pos) (Tp K a f):=by
 subst h;exact Nv b c
section
open PySem.AutoSeq1 (wpAny_loadPart')
def ID(z:Str)(a:Tok)(k:Int)(t:Tok)(m:z.cps.all (· < 128)=true)(l:Builtin.SmallTypes.fitsIndex k=true):Meets (Builtin.«enumerate.__new__» ⟨[.type "enumerate",.str z a],[("start",.int k t)]⟩) (λ_ R s=>
 R (.ok (.ret (.ref (s.heap.push {cls:=.type "str_ascii_iterator",data:=.fields #[.str z a,.int 0 0]}).objs.size)))
  {s with heap:=(s.heap.push {cls:=.type "str_ascii_iterator",data:=.fields #[.str z a,.int 0 0]}).push ⟨.type "enumerate",none,.fields #[.none,.bool false,.ref s.heap.objs.size,rawInt k,.none,.none],#[]⟩}):=
 .of_wp λb w A R s h=>by
  obtain⟨i,g,d,e,f⟩:=s;have c:=sub_enumerate
  have j:(!Builtin.SmallTypes.fitsIndex k)=false:=by rw[l];rfl
  wp_walk
  refine wpAny_stack_any λn=>Au ?_;refine Py ?_ ?_ <;>
  .wp_walk using (wpAny_pyIter_ascii (s:=⟨i,g,d,e,f⟩) m)
   exact⟨_,rfl,h⟩
def xT{a:Tok}{k:Int}{t:Tok}{Q:Q0}(l:z.cps.all (· < 128)=true)(j:Builtin.SmallTypes.fitsIndex k=true)(h:∀c,IsEnum c (s.heap.objs.size+1) s.heap.objs.size k .none->c.IsStrIter s.heap.objs.size "str_ascii_iterator" z a 0->c.objs.size=s.heap.objs.size+2->(∀b o,s.heap.get? b=some o->c.get? b=some o)->Q (.ref (s.heap.objs.size+1)) {s with heap:=c}):wpAny (model prog w) A (call (.type "enumerate") [.str z a] [("start",.int k t)]) Q E s:=by
 have e:(s.heap.push {cls:=.type "str_ascii_iterator",data:=.fields #[.str z a,.int 0 0]}).objs.size=s.heap.objs.size+1:=Gc ..
 refine qD (Q1:=λo d=>d.TypeIs o "enumerate"/\Q o d) F.called_enumerate (by kernel_rfl) (by kernel_rfl) F.entry_enumerate_new (ID z a k t l j) ?_ λo d f=>⟨f.1,?_,_,OF F.called_enumerate.init.lookup F.called_enumerate.made (by decide),f.1,rfl,f.2⟩
 .show _/\_
  rw[e];have g:IsEnum ((s.heap.push {cls:=.type "str_ascii_iterator",data:=.fields #[.str z a,.int 0 0]}).push ⟨.type "enumerate",none,.fields #[.none,.bool false,.ref s.heap.objs.size,rawInt k,.none,.none],#[]⟩) (s.heap.objs.size+1) s.heap.objs.size k .none:=by
   have q:=Ay (s.heap.push {cls:=.type "str_ascii_iterator",data:=.fields #[.str z a,.int 0 0]}) (o:=⟨.type "enumerate",none,.fields #[.none,.bool false,.ref s.heap.objs.size,rawInt k,.none,.none],#[]⟩) rfl
   rwa [e]at q
  exact⟨⟨_,g,rfl⟩,h _ g ⟨_,Aj _ (Ay _ rfl),rfl,rfl⟩ (by rw[Gc,e]) λb o x=>Aj _ (Aj _ x)⟩
 .unfold argsOk;rw[signature?_of (n:=['_','_','t','i','n','i','_','_']) (o := "tcejbo".toList) (by kernel_rfl) F.owner_object]
  kernel_rfl
noncomputable def Vh(z:Str)(k:Nat):It:=
 ⟨λi _=>i<z.cps.size,λi H v a=>∃p c,H p=none/\v=.ref p/\a=upd H p (.tup [.int ((k+i:Nat):Int),.str ⟨#[c]⟩])/\z.cps[i]?=some c,λi _=>z.cps.size=i⟩
def Lw(z:Str)(J:Tok)(e f:Addr)(k:Nat)(x:e≠f):Turn P w K (.Tuple elts x1 tp) (Vh z k) [e,f] e (λi h=>(∃a,IsEnum h e f ((k+i:Nat):Int) a)/\h.IsStrIter f "str_ascii_iterator" z J i) where
 mem:=by simp
 obj:=λi h g b m=>by
  obtain⟨⟨a,j⟩,o,p,c,d⟩:=g;rcases Bc.mp m with z|z
  .subst z;exact⟨_,j,λv z=>by cases z⟩
  .rw[Ah.mp z];exact⟨o,p,λv z=>by rw[d]at z;cases z⟩
 keep:=λi h h' g M=>⟨let ⟨a,j⟩:=g.1;⟨a,M e (by simp) _ j⟩,let ⟨o,p,r⟩:=g.2;⟨o,M f (by simp) o p,r⟩⟩
 item:=by
  intro X G N W R i Y s U H E I B g O;subst G N W;obtain⟨⟨a,j⟩,l⟩:=g;have hi:i<z.cps.size:=O
  have D:=iW k (Draws.strAscii (prog:=X.prog) (w:=X.w) (A:=X.A.in1) (show X.A.in1.handled=none from I.ok.hd R) f z J)
  refine wpAny_pyNext_enum_itemD D (i:=k+i) j ⟨Gf _ _,by rw[Cu];exact l⟩ (by ((try clear x);omega)) x (λz=>x (Ah.mp z)) λy h1 L G p hS hT a1 M=>?_
  refine⟨_,rfl,wpAny_letOwnedTupleGo_enum p λZ Q n=>?_⟩;obtain⟨c,u,C,rfl⟩:=G;rw[Cu]at C;have F:=Fa (Ax j)
  have S:s.heap.objs.size≠f:=by obtain⟨o,q,_⟩:=l;exact Fa (Ax q)
  have T:=(n.2 _ F).trans hT
  have V:h1.IsStrIter f "str_ascii_iterator" z J (i+1):=by
   have q:=hS.2
   rwa [show k+i+1-k=i+1 by ((try clear F S a1 hi x);omega)]at q
  have I2:Inv X Y U (upd H s.heap.objs.size (.tup [.int ((k+i:Nat):Int),.str ⟨#[c]⟩])) {s with heap:=Z,toks:=L+1}:=by
   refine I.YM (ch:=[e,f]) B (λb u m q=>(n.2 b (λz=>m (by simp[z]))).trans (M b u (λz=>m (by simp[z])) (λz=>m (by simp[z])) q)) (Nat.le_refl _) ⟨bM (by show 2<=_;((try clear F S a1 hS hi x);omega)),[.int ((k+i:Nat):Int) L,.str ⟨#[c]⟩ u],.cons ⟨L,rfl⟩ (.cons ⟨u,rfl⟩ .nil),_,T,rfl,_,rfl⟩
  refine⟨.ref s.heap.objs.size,_,I2,rfl,⟨_,c,I.Z3.fresh (Ai _),rfl,rfl,C⟩,⟨⟨_,Q⟩,let ⟨o,p,r⟩:=V;⟨o,(n.2 f x.symm).trans p,r⟩⟩,λb m=>?_⟩
  rcases Bc.mp m with z|z
  .rw[z,aH F.symm];exact(B e (by simp)).1
  .rw[List.mem_singleton.mp z,aH S.symm];exact(B f (by simp)).1
 done:=by
  intro X G N W R i Y s U H E I B g O;subst G N W;have hx:=O
  obtain⟨⟨a,j⟩,l⟩:=g;have D:=iW k (Draws.strAscii (prog:=X.prog) (w:=X.w) (A:=X.A.in1) (show X.A.in1.handled=none from I.ok.hd R) f z J)
  refine wpAny_pyNext_enum_endD D j ⟨Gf _ _,by rw[Cu,hx];exact l⟩ λh' eb=>⟨rfl,?_⟩
  exact I.Yu (t':=s.toks) (ch:=[e,f]) B λb u m q=>eb b u (λz=>m (by simp[z])) q
 self:=λ_ _ _ _ _ g h=>let ⟨⟨_,j⟩,_⟩:=g;Ia j h
section
variable {p kp:Pos}
def VV(R:Addr->Hp->Prop)(S:Str->Hp->Prop):List V->Hp->Prop:=λa H=>match a with|[.ref j]=>R j H|[.str z]=>S z H|_=>False
def L_{R:Addr->Hp->Prop}(q:VV R S vs H):(∃j,vs=[.ref j]/\R j H)\/(∃z,vs=[.str z]/\S z H):=by
 unfold VV at q;split at q
 .exact .inl ⟨_,rfl,q⟩
 .exact .inr ⟨_,rfl,q⟩
 simp_all
def Rt(K:W.Frag)(e d:TA):TI:=λU H R=>e U H (VV (λa c=>d U c (xN λk b=>(0<=k/\k<2^62)/\Ym (Z4 b a) (R (Xe K a k.toNat) b))) λz c=>d U c (xN λk b=>(0<=k/\k<2^62)/\z.cps.all (· < 128)=true/\R (Vh z k.toNat) b))
def B7{U:St}{c:Tok}{k:Nat}(a:Inv X y6 U H1 s1)(d:IsEnum h' (s1.heap.objs.size+1) s1.heap.objs.size ((k:Nat):Int) .none)(f:h'.IsStrIter s1.heap.objs.size "str_ascii_iterator" z c 0)(i:h'.objs.size=s1.heap.objs.size+2)(e:∀b o,s1.heap.get? b=some o->h'.get? b=some o)(q:R (Vh z k) H1):wpAny (model X.prog X.w) X.A (pyIter (.ref (s1.heap.objs.size+1))) (Vg X y6 U (.Tuple elts x1 tp) R) E {s1 with heap:=h'}:=by
 refine Ia (s:={s1 with heap:=h'}) d ⟨_,[s1.heap.objs.size+1,s1.heap.objs.size],_,_,H1,rfl,a.kept (t':=s1.toks) e,Lw z c _ _ k (Nat.succ_ne_self _),⟨⟨_,d⟩,f⟩,λb g=>?_,q⟩
 have z:s1.heap.objs.size<=b:=by
  rcases Bc.mp g with z|z
  .rw[z];exact Io _
  simp_all
 exact a.YE z (a.Z3.fresh z)
def NM{g:Expr}(M:Gl X "enumerate")(L:X.mg "enumerate"=none)(N:PA X [l] ta)(f:PK X [⟨some "start",g,kp⟩] tk)(hs:starEach [l] X.env=[(false,eval l X.env)]:=by rfl)(c:keywordEach [⟨some "start",g,kp⟩] X.env=[(some ("start" : Str),eval g X.env)]:=by rfl):PI X (.Tuple elts x1 tp) (.Call (.Name "enumerate" p) [l] [⟨some "start",g,kp⟩] pos) (Rt X.K ta tk):=by
 intro j s U H R I h;have b:backTo pos (starEach [l] X.env)=[(false,eval l X.env)]:=by rw[hs];rfl
 refine Dr (jA I M L boot_enumerate (pY (by rw[b];rfl) (by rw[c];rfl) ?_))
 rw[b];refine evalArgs_kwB (by rw[c];rfl) ?_
 rw[<-b];refine ZY (N pos j s U H _ I h) λV w μ=>?_;obtain⟨T,A,y,x,E⟩:=μ;have e:(backToKw pos (keywordEach [⟨some "start",g,kp⟩] X.env)).filterMap (·.1)=(["start"]:List Str):=by rw[c];rfl
 rcases L_ E with⟨a,rfl,q⟩|⟨z,rfl,q⟩
 .refine ZY (f pos j w U A _ y q) λC D ⟨B,Q,i,n,o⟩=>?_;obtain⟨k,rfl,⟨G,F⟩,q⟩:=uB o;obtain⟨u,rfl,m⟩:=dP x;cases m;obtain⟨u,rfl,t,rfl⟩:=dP n;unfold Ym at q;split at q
  .rename_i S P
   obtain⟨J,Y,p,d⟩:=i.list (bE P);rw[e];refine pZ (by unfold Builtin.SmallTypes.fitsIndex;rw[Ao (by ((try clear d);omega)),Ao (by ((try clear d);omega))];rfl) p.isList λO v r d f=>Tz i (k:=k.toNat) ?_ r d f q
   rw[show ((k.toNat:Nat):Int)=k by ((try clear d);omega)]
   exact v
  .exact q.elim
 .refine ZY (f pos j w U A _ y q) λC D ⟨B,Q,i,n,o⟩=>?_;obtain⟨k,rfl,⟨G,F⟩,d,q⟩:=uB o;obtain⟨u,rfl,m⟩:=dP x;obtain⟨W,rfl⟩:=m;obtain⟨u,rfl,t,rfl⟩:=dP n;rw[e];refine xT d (by unfold Builtin.SmallTypes.fitsIndex;rw[Ao (by omega),Ao (by omega)];rfl) λO v r d f=>B7 i (k:=k.toNat) ?_ r d f q
  rw[show ((k.toNat:Nat):Int)=k by ((try clear d);omega)]
  exact v
end
section
variable {k:Nat} {U U0:St}
def Nd(f:Nat->Nat->Option V)(L:z.length<sizeLine)(hs:∀i c d p A (B:Hp->Prop),z.cps.toList[i]?=some c->Z_ H1 d->d p=none->(∀a,Z_ (upd d p (.tup [.int ((k+i:Nat):Int),.str ⟨#[c]⟩])) a->match f i c with|some y=>A y a|none=>B a)->
 g (.ref p) U0 (upd d p (.tup [.int ((k+i:Nat):Int),.str ⟨#[c]⟩])) λw K=>Wk U0 w/\tests w K λb I=>if b=true then te w I A else B I)(u:∀D a,H1 D=none->Z_ H1 a->Z4 a D=some ((List.range z.length).filterMap λi=>f i (z.cps.toList.getD i 0))->Q (.ref D) a):eF g tests te U0 Q (Vh z k) H1:=by
 intro D t;have r:z.cps.size=z.length:=rfl
 refine⟨λi m d=>m=z.length-i/\i<=z.length/\Z_ H1 d/\d D=some (.lst ((List.range i).filterMap λi=>f i (z.cps.toList.getD i 0))),⟨z.length,by simp,Nat.zero_le _,aG t _,by rw[aE];rfl⟩,?_⟩
 rintro i m d ⟨rfl,M,n,l⟩;by_cases h:i<z.length
 .refine .inr ⟨h,λv N y=>?_⟩;obtain⟨q,c,s,rfl,rfl,J⟩:=y;have E:z.cps.toList[i]?=some c:=by rw[Do];exact J
  have F:z.cps.toList.getD i 0=c:=by rw[Ac,E];rfl
  refine hs i c d q _ _ E n s λa x=>?_;have j:=x _ _ (aG s _ _ _ l)
  have C:=n.trans ((aG s _).trans x)
  cases e:f i c with
  |some y=>
   refine⟨_,j,?_,z.length-(i+1),by ((try clear F L M);omega),rfl,h,λb o G=>?_,?_⟩
   .have:=Da (λi=>f i (z.cps.toList.getD i 0)) (List.range i)
    rw[Bf]at this;((try clear F M);omega)
   .rw[aH (bI G t)];exact C b o G
   .rw[aE,Cm,Bw,Ca (b:=y) (by rw[F,e]),Cr]
  |none=>
   refine⟨z.length-(i+1),by ((try clear F L M);omega),rfl,h,C,?_⟩
   rw[j,Cm,Bw,Cj (by rw[F,e]),Cr,Bs]
 .have e:i=z.length:=by ((try clear L);omega)
  subst e;exact .inl ⟨r,u D d t n (aM l)⟩
def GX(h:ta U H (VV (λa c=>tk U c (xN λk b=>(0<=k/\k<2^62)/\Ym (Z4 b a) (R (Xe K a k.toNat) b))) λz c=>tk U c (xN λk b=>(0<=k/\k<2^62)/\z.cps.all (· < 128)=true/\R (Vh z k.toNat) b))):Rt K ta tk U H R:=h
def Md{i:Int}(h:Q (.int (-i)) H):Sa (.int i) H Q:=h
def MH{R:Addr->Hp->Prop}(h:R a H):VV R S [.ref a] H:=h
def EA{R:Addr->Hp->Prop}(h:S z H):VV R S [.str z] H:=h
end
end
section
variable {a b:Expr} {ta tb:TE} {rest:List Expr}
noncomputable def S8:Value->Bool
 |.none=>true
 |_=>false
def QH{x:V}(f:cA x=true)(r:RelV x u):X3 x .non=S8 u:=by
 cases x with
 |non=>cases r;rfl
 |bl b=>cases r;rfl
 |int i=>obtain⟨t,rfl⟩:=r;rfl
 |str i=>obtain⟨t,rfl⟩:=r;rfl
 |byt i=>cases f
 |flt i=>cases f
 |ref i=>cases f
 |ty i=>cases f
def Ru:V->List V->Hp->VK->Prop:=λx b H Q=>∃(p:Addr) (a:List V) (j:Nat),x=.ref p/\b=[.non]/\Z4 H p=some a/\a.all cA=true/\a[j]?=some .non/\(∀i y,i<j->a[i]?=some y->y≠.non)/\Q (.int (j:Int)) H
def Ml:YT X "list.index" Ru:=by
 intro y6 s U H x vs v us Q I K L h;obtain⟨p,g,j,rfl,rfl,P,S,C,W,q⟩:=h;cases K;obtain⟨u,rfl,i⟩:=L.one;cases i;obtain⟨a,r,M,N⟩:=I.list (bE P);obtain⟨⟨c,Z,Y,J⟩,A,V,n,T⟩:=M.isList;obtain rfl:c=.type "list" := V;obtain rfl:Y=.seq a.toArray n:=T;have B:=r.length
 have R:=(Ad.mp C).1
 have hn:=kK
 have e:∀m (d:m<a.length),∃x,g[m]?=some x/\cA x=true/\RelV x a[m]:=λm d=>by
  have b:m<g.length:=by ((try clear N R hn);omega)
  obtain⟨u,w,i⟩:=r.get (Aa b);rw[Aa d]at w;cases w;exact⟨_,Aa b,Bz.mp S _ (Bx _),i⟩
 have G:∀m (d:m<a.length) x,g[m]?=some x->S8 a[m]=X3 x .non:=λm d x O=>by
  obtain⟨y,f,E,t⟩:=e m d;rw[O]at f;cases f;exact(QH E t).symm
 refine Fw Gh ⟨_,A,rfl⟩ PySem.F.entry_list_index (PySem.F.args_list_index_2 _ _) (SeqAt.list_indexAt p a.toArray n Z J .none S8 j (by rw[Ba];((try clear N hn);omega)) (by omega) ?_ ?_) ⟨A,λy f=>?_,⟨.int j,H,I.tok _,⟨_,rfl⟩,q⟩⟩
 .rw[Ha,G j (by ((try clear N hn);omega)) _ C]
  rfl
 .intro m d l;have b:m<a.length:=by rw[Ba]at d;exact d
  obtain⟨y,f,E,t⟩:=e m b;rw[Ha,G m b _ f];have:=W m y l f
  cases y with
  |non=>exact absurd rfl this
  |_=>rfl
 .have k:y∈a:=by simpa using f
  obtain⟨m,d,rfl⟩:=Bv.mp k;obtain⟨z,N,D,o⟩:=e m d;rw[<-QH D o];exact rW o (show RelV .non .none from rfl) D rfl
def Pe:List V->Hp->VK->Prop:=λa H Q=>∃z,a=[.str z]/\z.length<=sizeLine/\∀l,H l=none->Q (.ref l) (upd H l (.lst (z.cps.toList.map λc=>.str ⟨#[c]⟩)))
def HJ(d:X.calm=true):ZU X (.type "list") Pe:=by
 intro p s U H v y Q I r h;obtain⟨z,rfl,g,q⟩:=h;obtain⟨u,rfl,t,rfl⟩:=dP r;refine call_list_str (I.ok.hd d) z t (λn i e o l m a=>?_) g;have b:z.cps.toList.length=z.length:=by simp[Str.length]
 refine⟨.ref s.heap.objs.size,_,I.laid (t':=i) l (Ai _) (show ZX X.prog X.w _ n _ (.lst (z.cps.toList.map λc=>.str ⟨#[c]⟩)) from⟨by rw[Ab,b];exact g,e.toList,o,SG ?_ λj x u f k=>?_,m⟩),rfl,q _ (I.Z3.fresh (Ai _))⟩
 .rw[Ab,b,Ez,a.1];rfl
 .obtain⟨c,w,d,rfl⟩:=a.2 j u (by simp_all)
  rw[Ag,Do,d]at f;cases f;exact⟨w,rfl⟩
section
variable {p:Addr}
def Rv{s:St}(f:Nat->Option V)(J:z.length<sizeLine)(hs:∀(i:Nat) c d A (B:Hp->Prop),z.cps.toList[i]?=some c->Z_ H1 d->(∀a,Z_ d a->match f c with|some y=>A y a|none=>B a)->
 g (.str ⟨#[c]⟩) s d λr G=>Wk s r/\tests r G λb x=>if b=true then te r x A else B x)(q:∀D a,H1 D=none->Z_ H1 a->a D=some (.lst (z.cps.toList.filterMap f))->Q (.ref D) a):eF g tests te s Q (W0 z) H1:=by
 intro D p;have C:z.cps.size=z.length:=rfl
 have E:z.cps.toList.length=z.length:=by simp[Str.length]
 refine⟨λi m d=>m=z.length-i/\i<=z.length/\Z_ H1 d/\d D=some (.lst ((z.cps.toList.take i).filterMap f)),⟨z.length,by simp,Nat.zero_le _,aG p _,by rw[aE];rfl⟩,?_⟩
 rintro i m d ⟨rfl,K,l,k⟩;by_cases h:i<z.length
 .refine .inr ⟨h,λv I y=>?_⟩;obtain⟨rfl,c,F,rfl⟩:=y;have n:z.cps.toList[i]?=some c:=by rw[Do];exact F
  refine hs i c I _ _ n l λa t=>?_;have j:=t _ _ k
  have u:=l.trans t
  cases e:f c with
  |some y=>
   refine⟨_,j,?_,z.length-(i+1),by ((try clear J K);omega),rfl,h,λb o w=>?_,?_⟩
   .have:=Da f (z.cps.toList.take i)
    rw[Bt]at this;((try clear K);omega)
   .rw[aH (bI w p)];exact u b o w
   .rw[aE,Be,n,Bw];show some (HO.lst (_++[y]))=some (HO.lst (_++[c].filterMap f))
    rw[Ca e,Cr]
  |none=>
   refine⟨z.length-(i+1),by ((try clear J K);omega),rfl,h,u,?_⟩
   rw[j,Be,n,Bw];show some (HO.lst _)=some (HO.lst (_++[c].filterMap f))
   rw[Cj e,Cr,Bs]
 .have e:i=z.length:=by ((try clear J);omega)
  subst e;refine .inl ⟨Ai _,q D d p l ?_⟩;rw[k,Bi (by (assumption))]
def BW{r:St}(f:Nat->Option V)(C:n<sizeLine)(hs:∀i d A (B:Hp->Prop),i<n->Z_ H1 d->(∀a,Z_ d a->match f i with|some y=>A y a|none=>B a)->
 g (.int (lo+i)) r d λq x=>Wk r q/\tests q x λb w=>if b=true then te q w A else B w)(p:∀D a,H1 D=none->Z_ H1 a->a D=some (.lst ((List.range n).filterMap f))->Q (.ref D) a):eF g tests te r Q (Xq lo n) H1:=by
 intro D l;refine⟨λi m d=>m=n-i/\i<=n/\Z_ H1 d/\d D=some (.lst ((List.range i).filterMap f)),⟨n,by simp,Nat.zero_le _,aG l _,by rw[aE];rfl⟩,?_⟩
 rintro i m d ⟨rfl,E,k,j⟩;by_cases c:i<n
 .refine .inr ⟨c,λv z y=>?_⟩;obtain⟨rfl,rfl⟩:=y;refine hs i z _ _ c k λa s=>?_;have h:=s _ _ j
  have t:=k.trans s
  cases e:f i with
  |some y=>
   refine⟨_,h,?_,n-(i+1),by ((try clear C E);omega),rfl,c,λb o u=>?_,?_⟩
   .have:=Da f (List.range i)
    rw[Bf]at this;((try clear E);omega)
   .rw[aH (bI u l)];exact t b o u
   .rw[aE,Cm,Bw,Ca e,Cr]
  |none=>
   refine⟨n-(i+1),by ((try clear C E);omega),rfl,c,t,?_⟩
   rw[h,Cm,Bw,Cj e,Cr,Bs]
 .have e:i=n:=by ((try clear C);omega)
  subst e;exact .inl ⟨Ai _,p D d l k j⟩
def IF(e:Z4 H p=some xs)(f:xs.all cA=true)(a:xs[j]?=some .non)(b:∀i y,i<j->xs[i]?=some y->y≠.non)(h:Q (.int (j:Int)) H):Ru (.ref p) [.non] H Q:=⟨p,xs,j,rfl,rfl,e,f,a,b,h⟩
def C9(a:z.length<=sizeLine)(h:∀l,H l=none->Q (.ref l) (upd H l (.lst (z.cps.toList.map λc=>.str ⟨#[c]⟩)))):Pe [.str z] H Q:=⟨z,rfl,a,h⟩
end
end
def Ta(neg:Bool):R2:=λx y H Q=>∃a b,y=.ref a/\Zc H a x b/\Q (.bl (if neg then !b.isSome else b.isSome)) H
def F8(e:X.A.units+1<cLine):ZK X (compareOp .In) (Ta false):=by
 intro i s U H x y v u Q I c b h;obtain⟨a,d,rfl,g,q⟩:=h;cases b;exact OV e I g c λj f=>⟨.bl d.isSome,H,f,rfl,q⟩
def Dw(e:X.A.units+1<cLine):ZK X (compareOp .NotIn) (Ta true):=by
 intro i s U H x y v u Q I c b h;obtain⟨a,d,rfl,g,q⟩:=h;cases b;exact JP e I g c λj f=>⟨.bl _,H,f,rfl,q⟩
def qS{xs:List V}(f:V->Option V)(F:Z4 H1 a=some xs)(J:xs.length<sizeLine)(hs:∀(i:Nat) x d A (B:Hp->Prop),xs[i]?=some x->Z_ H1 d->(∀c,Z_ d c->match f x with|some y=>A y c|none=>B c)->
 g x t d λs G=>Wk t s/\tests s G λb C=>if b=true then te s C A else B C)(r:∀D c,H1 D=none->Z_ H1 c->c D=some (.lst (xs.filterMap f))->Q (.ref D) c):eF g tests te t Q (Xl K a) H1:=by
 intro D q;refine⟨λi m d=>m=xs.length-i/\i<=xs.length/\Z_ H1 d/\d D=some (.lst ((xs.take i).filterMap f)),⟨xs.length,by simp,Nat.zero_le _,aG q _,by rw[aE];rfl⟩,?_⟩
 rintro i m d ⟨rfl,L,l,k⟩;have p:=aO l F
 by_cases h:i<xs.length
 .refine .inr ⟨⟨xs,xs[i],bE p,by simp[h]⟩,λv I y=>?_⟩
  obtain⟨rfl,E⟩:=y;have n:=E xs (bE p)
  refine hs i v I _ _ n l λc u=>?_;have j:=u _ _ k
  have w:=l.trans u
  cases e:f v with
  |some y=>
   refine⟨_,j,?_,xs.length-(i+1),by ((try clear J L);omega),rfl,h,λb o z=>?_,?_⟩
   .have:=Da f (xs.take i)
    rw[Bt]at this;((try clear L);omega)
   .rw[aH (bI z q)];exact w b o z
   .rw[aE,Be,n,Bw];show some (HO.lst (_++[y]))=some (HO.lst (_++[v].filterMap f))
    rw[Ca e,Cr]
  |none=>
   refine⟨xs.length-(i+1),by ((try clear J L);omega),rfl,h,w,?_⟩
   rw[j,Be,n,Bw];show some (HO.lst _)=some (HO.lst (_++[v].filterMap f))
   rw[Cj e,Cr,Bs]
 .have e:i=xs.length:=by ((try clear J);omega)
  subst e;refine .inl ⟨⟨xs,bE p,Ai _⟩,r D d q l ?_⟩;rw[k,Bi (by (assumption))]
def Pl(e:Rd H a (.dK kvs))(h:Q (.bl (if neg then !(cN kvs (Sum.inr z)).isSome else (cN kvs (Sum.inr z)).isSome)) H):Ta neg (.str z) (.ref a) H Q:=⟨a,_,rfl,.inl ⟨kvs,.inr z,e,rfl,rfl⟩,h⟩
section
open PySem.Builtin PySem.Builtin.Str
def zH:∀l,Vals ((l.map (·.1)).map V.str) (strValues l)
 |[]=>.nil
 |p::r=>.cons ⟨p.2,rfl⟩ (zH r)
def Pq:V->List V->Hp->VK->Prop:=λx a H Q=>∃z y,x=.str z/\a=[.str y]/\(y.length==0)=false/\z.length+2<=sizeLine/\∀l,H l=none->Q (.ref l) (upd H l (.lst ((Txt.split z y).map V.str)))
def Tu:YT X "str.split" Pq:=by
 intro i s U H x r v w Q I j m h;obtain⟨z,y,rfl,rfl,f,o,q⟩:=h;obtain⟨t,rfl⟩:=j;obtain⟨u,rfl,n⟩:=m.one;obtain⟨u,rfl⟩:=n;have g:(partsBetween z (occurrences z y 0 z.length (z.length+1)) y.length).length<=sizeLine:=by
  have A:=StrLaws.occ_length_le z y 0 z.length (z.length+1)
  rw[length_partsBetween];omega
 have b:∀l k,l.map (·.1)=Txt.split z y->(Txt.split z y).length<=sizeLine->EP X i U Q (.ref s.heap.objs.size) {s with heap:=s.heap.push {cls:=.type "list",data:=.seq (strValues l).toArray},toks:=k}:=λl k e p=>
  ⟨.ref _,_,I.WK (ys:=(Txt.split z y).map V.str) (t':=k) (by rw[<-e];exact zH l) (by rw[Ab];exact p),rfl,q _ I.fresh⟩
 cases c:(decide (z.length<y.length) || decide (strKind z<strKind y))
 .cases d:(occurrences z y 0 z.length (z.length+1)).isEmpty
  .have a:Txt.split z y=partsBetween z (occurrences z y 0 z.length (z.length+1)) y.length:=(if_neg (ne_true_of_eq_false c)).trans (if_neg (ne_true_of_eq_false d))
   refine Fw F.slot_str_split (Iv _ _ _) F.entry_str_split (F.args_str_split_2 _ _) (meets_str_split_sep z y t u c f d (by ((try clear g);omega)) g) ?_
   show wants _ _ _ {s with toks:=_,heap:=s.heap.push {cls:=.type "list",data:=.seq (strsFrom s.toks (partsBetween z (occurrences z y 0 z.length (z.length+1)) y.length)).toArray}}
   rw[strsFrom_eq];exact b (numbered s.toks _) _ ((numbered_texts _ _).trans a.symm) (by rw[a];exact g)
  .have a:Txt.split z y=[z]:=(if_neg (ne_true_of_eq_false c)).trans (if_pos d)
   exact Fw F.slot_str_split (Iv _ _ _) F.entry_str_split (F.args_str_split_2 _ _) (meets_str_split_not_found z y t u c f d)
    (b [(z,t)] s.toks a.symm (by rw[a];exact bM (by show 1<=_;((try clear g o);omega))))
 .have a:Txt.split z y=[z]:=if_pos c
  exact Fw F.slot_str_split (Iv _ _ _) F.entry_str_split (F.args_str_split_2 _ _) (meets_str_split_cannot_occur z y t u c)
   (b [(z,t)] s.toks a.symm (by rw[a];exact bM (by show 1<=_;((try clear g o);omega))))
def Ts{y:Str}(a:(y.length==0)=false)(b:z.length<=10000)(h:∀l,H l=none->Q (.ref l) (upd H l (.lst ((Txt.split z y).map V.str)))):Pq (.str z) [.str y] H Q:=⟨z,y,rfl,rfl,a,bM (by omega),h⟩
noncomputable def jc:List (List Nat)->List Nat
 |[]=>[]
 |[t]=>t
 |t::u::r=>t++32::jc (u::r)
def RW:∀L,(Str.join ⟨#[32]⟩ L).cps.toList=jc (L.map λz=>z.cps.toList)
 |[]=>rfl
 |[z]=>rfl
 |z::y::r=>by
  have e:Str.join ⟨#[32]⟩ (z::y::r)=z++⟨#[32]⟩++Str.join ⟨#[32]⟩ _:=rfl
  rw[e,FlT.Yk,FlT.Yk,RW _]
  rw[Fq];rfl
def zZ:∀t u a b,32∉t->32∉u->t++32::a=u++32::b->t=u/\a=b
 |[],[],a,b,_,_,h=>by injection h with _ h;exact⟨rfl,h⟩
 |[],c::u,a,b,_,h2,h=>by injection h with h _;exact absurd (by rw[h];exact Al) h2
 |c::t,[],a,b,h1,_,h=>by injection h with h _;exact absurd (by rw[<-h];exact Al) h1
 |c::t,d::u,a,b,h1,h2,h=>by
  injection h with e h
  obtain⟨g,f⟩:=zZ t u a b (λm=>h1 (Ak _ m)) (λm=>h2 (Ak _ m)) h;grind
def Q7:∀(L M:Q6),L≠[]->M≠[]->(∀t∈L,32∉t)->(∀t∈M,32∉t)->jc L=jc M->L=M
 |[],_,h,_,_,_,_=>absurd rfl h
 |_::_,[],_,h,_,_,_=>absurd rfl h
 |[t],[u],_,_,_,_,h=>by rw[show t=u from h]
 |[t],u::v::r,_,_,h1,_,h=>by
  have e:t=u++32::jc (v::r):=h
  exact absurd (by rw[e];exact Bo _ Al) (h1 t Al)
 |t::u::r,[v],_,_,_,h2,h=>by
  have e:t++32::jc (u::r)=v:=h
  exact absurd (by rw[<-e];exact Bo _ Al) (h2 v Al)
 |t::u::r,v::w::q,_,_,h1,h2,h=>by
  obtain⟨c,b⟩:=zZ t v _ _ (h1 t Al) (h2 v Al) h;rw[c,Q7 (u::r) (w::q) (λz=>nomatch z) (λz=>nomatch z) (λx a=>h1 x (Ak _ a)) (λx a=>h2 x (Ak _ a)) b]
def CV(x y:Str):Txt.split x y≠[]:=by
 unfold Txt.split;split
 .exact λz=>nomatch z
 .split
  .exact λz=>nomatch z
  .intro z;have:=Dp List.length z
   rw[length_partsBetween]at this;cases this
def CM(j:L≠[])(k:∀z∈L,32∉z.cps.toList):Txt.split (Txt.join ⟨#[32]⟩ L) ⟨#[32]⟩=L:=by
 have e:=StrLaws.join_split (Txt.join ⟨#[32]⟩ L) ⟨#[32]⟩
 have g:=StrLaws.split_free (Txt.join ⟨#[32]⟩ L) 32
 have f:=CV (Txt.join ⟨#[32]⟩ L) ⟨#[32]⟩
 have l:Txt.join ⟨#[32]⟩ L=Str.join ⟨#[32]⟩ L:=StrLaws.glued_eq_join _ _
 generalize Txt.split (Txt.join ⟨#[32]⟩ L) ⟨#[32]⟩=M at e g f ⊢;rw[l]at e;have i:=Dp (λz=>z.cps.toList) e
 rw[RW,RW]at i;have q:=Q7 _ _ (by simp_all) (by simp_all) (λt d=>by obtain⟨z,c,rfl⟩:=Bb.mp d;exact g z c) (λt d=>by obtain⟨z,c,rfl⟩:=Bb.mp d;exact k z c) i
 exact List.map_inj_right (λa b h=>FlT.YR h) |>.mp q
end
def Pc:List V->Hp->VK->Prop:=λc H Q=>∃(p:Addr) (b:List Int),c=[.ref p]/\Z4 H p=some (b.map V.int)/\0<b.length/\∀m,m∈b->(∀a∈b,m<=a)->Q (.int m) H
def I_(G:X.calm=true):ZU X (.builtin "min") Pc:=by
 intro M s U H N O Q I r h;obtain⟨p,d,rfl,D,S,q⟩:=h;obtain⟨u,rfl,n⟩:=dP r;cases n;obtain⟨c,x,C,R⟩:=I.list (bE D);have w:=C.isList
 have k:p<s.heap.objs.size:=by obtain⟨_,e,_⟩:=w;exact Ax e
 have f:c.length=d.length:=by have:=x.length;rw[Ab]at this;((try clear R S k);omega)
 have l:∀i v,c.toArray[i]?=some v->∃t,v=Value.int (d.getD i 0) t:=λi v o=>by
  have g:c[i]?=some v:=by simpa using o
  have z:i<d.length:=by rw[<-f];exact(Ad.mp g).1
  obtain⟨u,y,n⟩:=x.get (show (d.map V.int)[i]?=some (.int d[i]) by rw[Ag,Aa z];rfl)
  rw[g]at y;cases y;obtain⟨t,rfl⟩:=n;exact⟨t,by rw[Ac,Aa z];rfl⟩
 refine call_min_walk (Fs w ?_);refine⟨s.heap.objs.size,[s.heap.objs.size,p],[s.heap.objs.size],c.toArray.size,_,_,_,rfl,Walks.list (A:=X.A.in1) (I.ok.hd G) _ p (Bm k) c.toArray,
  ⟨⟨_,Ay _ rfl,rfl,rfl⟩,w.push _⟩,λb m=>?_,by rw[Ba];((try clear R k);omega),CmpOf.ints_lt (λi=>d.getD i 0) l,λv T P o E=>?_⟩
 .rw[show ({s with heap:=_}:Shared).heap=_ from rfl]
  simp only[List.mem_cons,List.not_mem_nil,or_false]at m;rcases m with e|e
  .rw[e];simp[Heap.push]
  .rw[e];exact Nat.lt_of_lt_of_le k (by simp[Heap.push])
 .obtain⟨t,rfl⟩:=l _ _ o;obtain⟨K,B⟩:=argBest_lt (λi=>d.getD i 0) (c.toArray.size-1);rw[Ba,f]at K B;have m:argBest (λi j=>decide (d.getD i 0<d.getD j 0)) (c.toArray.size-1)<d.length:=by rw[Ba,f];((try clear R k);omega)
  refine⟨.int _,H,I.kept (LSm.kept_iter E),⟨_,rfl⟩,q _ ?_ λa J=>?_⟩
  .rw[Ac,Aa m];exact Bx _
  .obtain⟨j,F,e⟩:=Bv.mp J;have:=B j (by ((try clear K R e k m);omega))
   rw[Ba,f];rw[<-e];have L:d.getD j 0=d[j]:=by rw[Ac,Aa F];rfl
   rw[<-L];exact this
def Nq{ns:List Int}(e:Z4 H p=some (ns.map V.int))(b:0<ns.length)(h:∀m,m∈ns->(∀a∈ns,m<=a)->Q (.int m) H):Pc [.ref p] H Q:=⟨p,ns,rfl,e,b,h⟩
def E9{id:String}{b:List _}{c:List _}{Q:Q0}(i:b.any (·.1)=false)(g:c.any (·.1.isNone)=false)(h:wpAny M A (evalArgs (.builtin id) true b c) (λa d=>wpAny M A (call (.builtin id) a.pos a.kw) Q E d) E s):wpAny M A (callWith pos (.builtin id) [] b c) Q E s:=by
 refine Ae (Df (Co h (λa d e=>Ae (Fv ?_)) λ_ _ x=>x));rw[i,g];exact Ae (Au (Ae (Co e (λr j f=>Ae (Df (wpAny_point (Au f)))) λ_ _ x=>x)))
section
variable {a b c:Expr} {p:Pos}
noncomputable def vT(a b:Int):Nat:=(a-b).toNat
def QM(a b:Int):Builtin.Range.rangeSize a b (-1)=((vT a b:Nat):Int):=by
 unfold Builtin.Range.rangeSize vT;grind
def DT{a:Int}(g:-1000000<=lo)(f:lo<=1000000)(e:-1000000<=a)(d:a<=1000000):Builtin.Range.small lo a (-1)=true:=by
 have b:=QM lo a
 unfold Builtin.Range.small;rw[b];unfold vT;simp only[Builtin.Range.rangeFitsLong,Bool.and_eq_true,Bool.or_eq_true,decide_eq_true_eq,beq_iff_eq];grind
def OO(a:TA):TI:=λU H R=>a U H (UY λi j k b=>(-1000000<=i/\i<=1000000/\-1000000<=j/\j<=1000000/\k=-1)/\R (Vb i (-1) (vT i j)) b)
def B_{U:St}{a:Int}{t u v:Tok}{c:Nat}(I:Inv X y6 U H s)(j:-1000000<=lo)(i:lo<=1000000)(h:-1000000<=a)(g:a<=1000000)(q:R (Vb lo (-1) (vT lo a)) H):wpAny (model X.prog X.w) X.A (pyIter (.ref s.heap.objs.size)) (Vg X y6 U tg R) E {s with heap:=s.heap.push {cls:=.type "range",data:=.fields #[.int lo t,.int a u,.int (-1) v]},toks:=c}:=by
 refine wpAny_pyIter_range (IsRange.new ..) (DT j i h g) ?_;have d:Inv X y6 U H {s with heap:=s.heap.push {cls:=.type "range",data:=.fields #[.int lo t,.int a u,.int (-1) v]},toks:=c}:=I.kept λb o e=>Aj _ e
 refine⟨(s.heap.push {cls:=.type "range",data:=.fields #[.int lo t,.int a u,.int (-1) v]}).objs.size,[(s.heap.push {cls:=.type "range",data:=.fields #[.int lo t,.int a u,.int (-1) v]}).objs.size],_,_,H,rfl,
  d.kept (t':=c) λb o e=>Aj _ e,GV _ lo (-1) (vT lo a),?_,λb f=>?_,q⟩
 .have l:lo+((0:Nat):Int)*(-1)=lo:=by simp
  have k:((vT lo a:Nat):Int)-((0:Nat):Int)=Builtin.Range.rangeSize lo a (-1):=by rw[QM];simp
  show IsRangeIter _ _ (lo+((0:Nat):Int)*(-1)) (((vT lo a:Nat):Int)-((0:Nat):Int)) (-1)
  rw[l,k];exact Ay _ rfl
 .have e:b=(s.heap.push {cls:=.type "range",data:=.fields #[.int lo t,.int a u,.int (-1) v]}).objs.size:=by simpa using f
  subst e;exact d.YE (Ai _) (d.Z3.fresh (Ai _))
def JC(w:Gl X "range")(v:X.mg "range"=none)(x:PA X [a,b,c] ta)(hs:starEach [a,b,c] X.env=[(false,eval a X.env),(false,eval b X.env),(false,eval c X.env)]:=by rfl)(f:starEach [b,c] X.env=[(false,eval b X.env),(false,eval c X.env)]:=by rfl):PI X tg (.Call (.Name "range" p) [a,b,c] [] pos) (OO ta):=by
 intro l s U H R I h;refine Call_ (jA I w v boot_range (Dq (ZY (x pos l s U H _ I h) λE G μ=>?_) (by rw[hs,f]) (by rw[f];rfl)));obtain⟨D,J,C,n,u⟩:=μ
 obtain⟨i,j,k,e,⟨B,A,z,y,rfl⟩,q⟩:=F1 u;subst e;cases n with
 |cons r d=>
  cases d with
  |cons o d=>
   cases d with
   |cons g d=>
    cases d;obtain⟨t,rfl⟩:=r;obtain⟨F,rfl⟩:=o;obtain⟨m,rfl⟩:=g;exact call_range_3 (by ((try clear A B y z);omega)) (B_ C B A z y q) (Or.inl (PyProof.noPylong_small (by ((try clear A B y z);omega))))
def DC(h:ta U H (UY λi j k a=>(-1000000<=i/\i<=1000000/\-1000000<=j/\j<=1000000/\k=-1)/\R (Vb i (-1) (vT i j)) a)):OO ta U H R:=h
end
section
variable {U0:St}
def jF{f:Nat->Option V}{y:V}(h:f i=some y):(List.range (i+1)).filterMap f=(List.range i).filterMap f++[y]:=by
 rw[Cm,Bw,Ca h,Cr]
def oJ{f:Nat->Option V}(h:f i=none):(List.range (i+1)).filterMap f=(List.range i).filterMap f:=by
 rw[Cm,Bw,Cj h,Cr,Bs]
def gL{xs:List V}(f:Nat->Option V)(p:Z4 H1 a=some xs)(z:xs.length<sizeLine)(hs:∀i x d A (B:Hp->Prop),xs[i]?=some x->Z_ H1 d->(∀y,f i=some y->∀c,Z_ d c->A y c)->(f i=none->∀c,Z_ d c->B c)->
 g x U0 d λs E=>Wk U0 s/\tests s E λb t=>if b=true then te s t A else B t)(q:∀D c,H1 D=none->Z_ H1 c->c D=some (.lst ((List.range xs.length).filterMap f))->Q (.ref D) c):eF g tests te U0 Q (Xl K a) H1:=by
 refine jH (n:=xs.length) (λD i k d=>Z_ H1 d/\k=(List.range i).filterMap f) z (λD m=>⟨aG m _,rfl⟩)
  (λD i k d _ r h=>⟨xs,xs[i],bE (aO r.1 p),by simp⟩) (λD k d _ r=>⟨xs,bE (aO r.1 p),Nat.le_refl _⟩) ?_ ?_
 .rintro D i k d x F A B m G ⟨j,rfl⟩ e ⟨rfl,u⟩ o C;refine hs i x F A B (u xs (bE (aO j p))) j (λy v c l=>?_) (λw c l=>?_)
  .exact o _ _ (l _ _ e) ⟨bJ m (j.trans l),(jF v).symm⟩
  .exact C _ (l _ _ e) ⟨j.trans l,(oJ w).symm⟩
 simp_all
def EE{xs:List V}(f:Nat->Option V)(u:Z4 H1 a=some xs)(I:xs.length<sizeLine)(hs:∀i x c p A (B:Hp->Prop),xs[i]?=some x->Z_ H1 c->c p=none->(∀y,f i=some y->∀d,Z_ (upd c p (.tup [.int ((k+i:Nat):Int),x])) d->A y d)->(f i=none->∀d,Z_ (upd c p (.tup [.int ((k+i:Nat):Int),x])) d->B d)->
 g (.ref p) U0 (upd c p (.tup [.int ((k+i:Nat):Int),x])) λw L=>Wk U0 w/\tests w L λb C=>if b=true then te w C A else B C)(v:∀D d,H1 D=none->Z_ H1 d->d D=some (.lst ((List.range xs.length).filterMap f))->Q (.ref D) d):eF g tests te U0 Q (Xe K a k) H1:=by
 refine jH (n:=xs.length) (λD i l c=>Z_ H1 c/\l=(List.range i).filterMap f) I (λD s=>⟨aG s _,rfl⟩)
  (λD i l c _ r h=>⟨xs,xs[i],bE (aO r.1 u),by simp[h]⟩) (λD l c _ r=>⟨xs,bE (aO r.1 u),rfl⟩) ?_ ?_
 .rintro D i l c x N A B s M ⟨j,rfl⟩ e ⟨q,z,o,rfl,rfl,E⟩ t J;refine hs i z c q A B (E xs (bE (aO j u))) j o (λy F d m=>?_) (λG d m=>?_)
  .exact t _ _ (m _ _ (aG o _ _ _ e)) ⟨bJ s (j.trans ((aG o _).trans m)),(jF F).symm⟩
  .exact J _ (m _ _ (aG o _ _ _ e)) ⟨j.trans ((aG o _).trans m),(oJ G).symm⟩
 .rintro D l c s ⟨j,rfl⟩ e _;exact v D c s j e
end
section
variable {jt dq:Addr} {n0:Nat} {en:Array DictEntry} {od:Obj}
def CH{Q:Option Value->Shared->Prop}(d:s.heap.IsKeyIter jt dq n0 en.size ep)(c:s.heap.get? dq=some od)(e:od.data=.dict en ep)(l:n0<en.size)(k:∀g,g.IsKeyIter jt dq (n0+1) en.size ep->Heap.SameBut jt s.heap g->Q (some en[n0].key) {s with heap:=g}):wpAny (model prog w) A (pyNext (.ref jt)) Q E s:=by
 obtain⟨n,a,m,f⟩:=id d;have j:Builtin.Dict_items.ownsTuple "dict_keyiterator"=false:=by decide
 have b:=d.typeIs
 unfold pyNext;refine Ae (wpAny_attempt (wpAny_callSpecial?_slot (name:=Str.ofString "__next__") b Ew (Ii Ew b F.entry_dict_keyiterator_next ?_ (F.args_dict_keyiterator_next_1 _))));refine Ae (Au (Ae (Ae ?_)));refine Ae (Et b (Au (Ae (wpAny_fieldsOf a f ?_))));simp only[j,Bool.false_eq_true,if_false];show wpAny _ _ (if (Value.ref dq==Value.none)=true then _ else _) _ _ s
 rw[if_neg (by exact Ar)]
 refine Ae (Au (Ae (wpAny_dictEntries c e ?_)));rw[if_neg (by simp)]
 refine Ae (Au (Ae (wpAny_dictEpoch c e ?_)));rw[if_neg (by simp)]
 refine Au ?_;simp only[show ¬((n0:Int)<0) by ((try clear l);omega),if_false,Int.toNat_natCast,Array.getElem?_eq_getElem l]
 refine Ae (Ae (Et b (Au ?_)));refine Ae (wpAny_isOneOf_keyiter b ?_);show wpAny _ _ (setField (.ref jt) 1 (rawInt ((n0:Int)+1)) >>= _) _ _ s
 have i:(s.heap.update jt (Obj.mapFields (·.setIfInBounds 1 (rawInt ((n0:Int)+1))))).IsKeyIter jt dq (n0+1) en.size ep:=
  ⟨_,Heap.get?_update_self _ a (Obj.isFreed_of_fields (Obj.data_mapFields f _)),(Obj.cls_mapFields ..).trans m,by rw[Obj.data_mapFields f];simp[rawInt]⟩
 refine wpAny_bind (wpAny_setField a f (by simp) (wpAny_bind (wpAny_holding (wpAny_bind (wpAny_isOneOf_keyiter (s:={s with heap:=s.heap.update jt (Obj.mapFields (·.setIfInBounds 1 (rawInt ((n0:Int)+1))))}) i.typeIs ?_)))))
 exact Au (Au ⟨_,rfl,Au (k _ i (Heap.SameBut.update ..))⟩)
def GJ{Q:Option Value->Shared->Prop}(n:A.handled=none)(e:s.heap.IsKeyIter jt dq en.size en.size ep)(d:s.heap.get? dq=some od)(f:od.data=.dict en ep)(l:∀i,Heap.ExtBut jt s.heap i->Q none {s with heap:=i}):wpAny (model prog w) A (pyNext (.ref jt)) Q E s:=by
 obtain⟨o,c,p,j⟩:=id e
 have g:=e.typeIs
 refine Ae (wpAny_attempt (wpAny_callSpecial?_slot (name:=Str.ofString "__next__") g Ew (Ii Ew g F.entry_dict_keyiterator_next ?_ (F.args_dict_keyiterator_next_1 _))));refine Ae (Au (Ae (Ae ?_)));refine Ae (Et g (Au (Ae (wpAny_fieldsOf c j ?_))))
 refine Ae (Au (Ae (wpAny_dictEntries d f ?_)));rw[if_neg (by simp)]
 refine Ae (Au (Ae (wpAny_dictEpoch d f ?_)));rw[if_neg (by simp)]
 refine Au ?_;simp
 refine Ae (Ae (Et g (Au ?_)));show wpAny _ _ (setField (.ref jt) 0 .none >>= _) _ _ s
 refine wpAny_bind (wpAny_setField c j (by simp) ?_)
 refine Ae ?_;refine wpAny_bind (wpAny_newObj_type (wpAny_bind (m:=firstArgMember _ _) (wpAny_of_eq (a:=Value.none) (by first|rfl|(simp;rfl)) (wpAny_newObj_type ?_ (by size_fits)))) (by size_fits))
 refine Ae (wpAny_handled (?_:_));rw[show A.in1.handled=none by exact n]
 refine Ae (Au (wpAny_throw ?thr));case thr=>
  refine Ae (wpAny_isInstance (b:=true) (T := "StopIteration") ⟨_,Ay _ rfl,rfl⟩ isSubtype_stop ?_);exact Au (l _ (((Heap.SameBut.update ..).extBut.push _).push _))
end
noncomputable def UJ(a:Addr)(o:Obj)(c:List (List Key×V)):It:=⟨λi H=>H a=some (.frz o (.dT c))/\i<c.length,λi H x e=>e=H/\∃d b,c[i]?=some d/\x=.ref b/\H b=some (.tup (d.1.map kV)),λi H=>H a=some (.frz o (.dT c))/\c.length=i⟩
def SQ{U:St}{b:List _}(I:Inv X y6 U H s)(p:H a=some (.frz o (.dT b)))(j:∃f,o.data=.dict f ep):b.length<=sizeLine/\(a==sysModules)=false/\∃g f,KT H b g/\s.heap.get? a=some o/\o.data=.dict f ep/\o.ExactDict/\f.toList=g.map (entryOfKey (tupleKind (bH X.prog X.w))):=by
 have k:=I.Z3 a _ p
 obtain⟨e,z,n,g,h,u,r,t,d,l,c,m,_⟩:=k;rw[e]at d;cases d;obtain⟨f,i⟩:=j;have q:=c
 rw[i]at q;cases q;exact⟨z,n,g,_,h,e,c,l,m⟩
def Np(a x:Addr)(o:Obj)(p:List (List Key×V))(ep:Nat)(D:∃j,o.data=.dict j ep):Turn P w K tg (UJ a o p) [x] x (λi h=>h.IsKeyIter x a i p.length ep) where
 mem:=by simp
 obj:=λi h g b u=>by
  obtain⟨o,e,c,d⟩:=g;rw[Ah.mp u];exact⟨o,e,λv z=>by rw[d]at z;cases z⟩
 keep:=λi h L g k=>let ⟨o,A,r⟩:=g;⟨o,k x (by simp) o A,r⟩
 item:=by
  intro X T O W hc i y6 s U H E I G g R;subst T O W;obtain⟨S,F⟩:=R;obtain⟨z,hd,M,j,l,A,f,hx,J⟩:=SQ I S D;have n:=l.length
  have m:j.size=M.length:=by rw[<-Ez,J,Ab]
  obtain⟨f0,f1,f2,f3,Z,Y⟩:=G x (by simp)
  obtain⟨⟨k,b,v⟩,N,a1,Q,_⟩:=xF l (Aa F);have C:i<j.size:=by ((try clear f1 f3 z);omega)
  have B:j[i].key=.ref b:=by
   have q:j[i]?=some (entryOfKey (tupleKind (bH X.prog X.w)) (k,b,v)):=by rw[<-Do,J,Ag,N];rfl
   rw[Array.getElem?_eq_getElem C]at q;rw[Bj q];rfl
  refine CH (en:=j) (by rw[m,<-n];exact g) A f C λL y sb=>?_
  rw[B];have I1:=I.turned (t':=s.toks) (λb o u e=>(sb.2 b u).trans e) f0 f1 f3 Z Y
  obtain⟨oi,e,c,d⟩:=id y;refine⟨.ref b,rfl,wD (s:={s with heap:=L}) e c d (by decide) ⟨.ref b,H,I1,rfl,⟨rfl,p[i],b,Aa F,rfl,Q⟩,?_,λb u=>(G b u).1⟩⟩
  rw[n,<-m];exact y
 done:=by
  intro X T O W hc i y6 s U H E I G g R;subst T O W;obtain⟨S,F⟩:=R;obtain⟨z,hd,M,j,l,A,f,hx,J⟩:=SQ I S D;have n:=l.length
  have m:j.size=M.length:=by rw[<-Ez,J,Ab]
  obtain⟨f0,f1,f2,f3,Z,Y⟩:=G x (by simp)
  exact GJ (en:=j) (I.ok.hd hc) (by rw[m,<-n];rw[<-F]at g;exact g) A f λL eb=>⟨rfl,I.turned (t':=s.toks) (λb o u e=>eb b o u e) f0 f1 f3 Z Y⟩
 self:=λ_ _ _ _ _ g h=>wpAny_pyIter_keyiter g h
section
variable {dq:Addr} {en:Array DictEntry} {od:Obj}
def BC{Q:Q0}(hs:(dq==sysModules)=false)(a:s.heap.get? dq=some od)(d:od.ExactDict)(b:od.data=.dict en ep)(e:Q (.ref s.heap.objs.size) {s with heap:=s.heap.push {cls:=.type "dict_keyiterator",data:=.fields #[.ref dq,.int 0 0,.int en.size 0,.int ep 0]}}):wpAny (model prog w) A (pyIter (.ref dq)) Q E s:=by
 have c:s.TypeIs (.ref dq) "dict" := ⟨od,a,d.1⟩
 refine wpAny_pyIter_slot c F.slot_dict_iter (Ii F.slot_dict_iter c F.entry_dict_iter ?_ (F.args_dict_iter_1 _));refine Ae ?_;refine Ae (wpAny_notOrdered_dict c ?_)
 refine Au ?_;show wpAny _ _ (Builtin.Dict.showsAll dq >>= _) _ _ s
 unfold Builtin.Dict.showsAll;rw[if_neg (by simp_all)]
 refine Ae (Au (Ae (wpAny_dictEntries a b (Ae (wpAny_dictEpoch a b ?_)))));refine Ae (Hz (Au ⟨_,rfl, "dict_keyiterator",_,⟨_,Ay _ rfl,rfl⟩,F.slot_dict_keyiterator_next.lookup,(?_:_)⟩))
 simpa [rawInt]using e
end
section
variable {U:St}
def Mu{b:List _}(I:Inv X y6 U H s)(g:H a=some (.dT b)):∃o c d,s.heap.get? a=some o/\o.data=.dict c d:=by
 obtain⟨_,_,h,_,o,c,d,e,_,f,_⟩:=Oz I.Z3 g;exact⟨o,c,d,e,f⟩
def A9{b:List _}(I:Inv X y6 U H s)(i:H a=some (.frz o (.dT b))):∃d,∃c,o.data=.dict c d:=by
 have g:=I.Z3 a _ i
 obtain⟨e,_,_,j,_,k,c,d,f,_,h,_⟩:=g;grind
def qN(H:Hp)(a:Addr)(R:Obj->List (List Key×V)->Hp->Prop):Prop:=(∃b,H a=some (.dT b)/\∀o,R o b (upd H a (.frz o (.dT b))))\/∃o b,H a=some (.frz o (.dT b))/\R o b H
def F5{R:Obj->List _->Hp->Prop}(I:Inv X y6 U H s)(h:qN H a R):∃o b g e,Inv X y6 U g s/\g a=some (.frz o (.dT b))/\(∃d,o.data=.dict d e)/\R o b g:=by
 rcases h with⟨b,c,q⟩|⟨o,b,c,q⟩
 .obtain⟨o,d,e,i,f⟩:=Mu I c;exact⟨o,b,_,e,I.freeze c rfl i,aE,⟨d,f⟩,q o⟩
 .obtain⟨e,d,f⟩:=A9 I c;exact⟨o,b,H,e,I,c,⟨d,f⟩,q⟩
def Qb(c:TE):TI:=λU H R=>c U H (fE λa e=>qN e a λo b d=>R (UJ a o b) d)
def pQ(u:PE X l tl):PI X tg l (Qb tl):=by
 intro m s U H R I h;refine ZY (u m s U H _ I h) λv i ⟨x,K,F,n,f⟩=>?_;unfold fE at f;split at f
 .cases n;rename_i E _
  obtain⟨o,a,G,D,g,B,c,q⟩:=F5 F f;obtain⟨z,y,J,C,j,r,d,p,w⟩:=SQ g B c;have k:C.size=a.length:=by rw[<-Ez,w,Ab,j.length]
  refine BC y r p d ?_;refine⟨i.heap.objs.size,[i.heap.objs.size],_,_,G,rfl,g.kept (t':=i.toks) λb o e=>Aj _ e,Np E _ o a D c,⟨_,Ay _ rfl,rfl,by rw[k];rfl⟩,λb A=>?_,q⟩
  rw[Ah.mp A];exact g.YE (Ai _) (g.Z3.fresh (Ai _))
 simp_all
def Qz:V->List V->Hp->VK->Prop:=λx c H Q=>∃a y b,x=.ref a/\c=[y]/\Zc H a y b/\Q (b.getD .non) H
end
section
variable {U:St} {kvs:List (List Key×V)} {k:List Key} {tb:TS}
def Jl(c:Nat->St->Hp->Prop)(s:c 0 U H)(l:∀i U H,i<=kvs.length->c i U H->H a=some (.frz o (.dT kvs)))(hs:∀i f b U H,kvs[i]?=some f->H b=some (.tup (f.1.map kV))->c i U H->g (.ref b) U H λt u=>tb {D with nx:=c (i+1),ct:=c (i+1),bk:=D.nx} t u)(q:∀U H,c kvs.length U H->D.nx U H):WI (UJ a o kvs) g tb D U H:=by
 refine⟨λi m U H=>m=kvs.length-i/\i<=kvs.length/\c i U H,⟨kvs.length,by simp,Nat.zero_le _,s⟩,?_⟩
 rintro i m U H ⟨rfl,n,p⟩;have h:=l i U H n p
 by_cases d:i<kvs.length
 .refine .inr ⟨⟨h,d⟩,c (i+1),λw v j=>⟨kvs.length-(i+1),by ((try clear n);omega),rfl,d,j⟩,λx v y=>?_⟩
  obtain⟨rfl,f,b,k,rfl,r⟩:=y;exact hs i f b U _ k r p
 .have e:i=kvs.length:=by omega
  subst e;exact .inl ⟨⟨h,rfl⟩,q U H p⟩
def Cn(h:tl U H (fE λa d=>qN d a λo b c=>R (UJ a o b) c)):Qb tl U H R:=h
def Sx{b:Obj->List _->Hp->Prop}(e:H a=some (.dT kvs))(h:∀o,b o kvs (upd H a (.frz o (.dT kvs)))):qN H a b:=.inl ⟨kvs,e,h⟩
def Nl{b:Obj->List _->Hp->Prop}(e:H a=some (.frz o (.dT kvs)))(h:b o kvs H):qN H a b:=.inr ⟨o,kvs,e,h⟩
def G_(h:∀p,H p=none->Q (.ref p) (upd H p (.dT []))):OB U H Q:=h
def R9(e:Rd H a (.dT kvs))(c:H b=some (.tup (k.map kV)))(l:cN kvs k=some v)(h:Q v H):R_ (.ref a) (.ref b) H Q:=⟨a,v,rfl,.inr ⟨kvs,k,b,e,rfl,c,l.symm⟩,h⟩
def Tv(e:H a=some (.dT kvs))(c:H b=some (.tup (k.map kV)))(l:kvs.length<sizeLine)(h:D.nx U (upd H a (.dT (eK kvs k v)))):R5 D U (.ref a) (.ref b) v H:=⟨a,_,rfl,.inr ⟨kvs,k,b,e,rfl,c,l,rfl⟩,h⟩
def NX(e:Rd H a (.dT kvs))(c:H b=some (.tup (k.map kV)))(h:Q ((cN kvs k).getD .non) H):Qz (.ref a) [.ref b] H Q:=⟨a,_,_,rfl,rfl,.inr ⟨kvs,k,b,e,rfl,c,rfl⟩,h⟩
end
def MT{Q:Int->Shared->Prop}(h:Q 0xFCA86420 {s with toks:=s.toks+1}):wpAny (model prog w) A (pyHash .none) Q E s:=by
 have a:s.TypeIs .none "NoneType" := rfl
 unfold pyHash pyHashByItsType;refine Ae ?_;rw[cRoomFor,if_neg (by decide)]
 refine Au (Ae (wpAny_specialOf a F.slot_NoneType_hash.lookup ?_));show wpAny _ _ (if (some (Value.builtin "NoneType.__hash__")==some Value.none)=true then _ else _) Q E s
 rw[if_neg (by grind)]
 refine Ae (wpAny_specialOf a F.slot_NoneType_hash.lookup ?_);show wpAny _ _ (callSpecialIfBoundUnlessNone? .none "__hash__" _ >>= _) Q E s
 refine Ae (wpAny_callSpecialIfBoundUnlessNone?_slot a F.slot_NoneType_hash (Ii F.slot_NoneType_hash a F.entry_NoneType_hash (show wpAny _ _ (do ret (<-mkInt 0xFCA86420)) _ _ s from wpAny_ret_mkInt ?_) (F.args_NoneType_hash_1 _)))
 show wpAny _ _ (if (decide (-(2:Int)^63<=0xFCA86420)&&decide ((0xFCA86420:Int)<2^63))=true then _ else _) Q E _
 rw[if_pos (by decide)]
 exact Au h
noncomputable def RT:Option Key->Value->Bool
 |none,.none=>true
 |none,_=>false
 |some k,v=>oH k v
def dH{v:Value}(h:RT none v=true):v=.none:=by
 cases v<;>first|rfl|(exact absurd h (by decide))|cases h
def oS{v:Value}(h:oH k v=true):v≠.none:=λz=>by
 rcases bZ h with⟨i,t,_,e⟩|⟨x,t,_,e⟩ <;> rw[z]at e<;>cases e
noncomputable def KY(w:World):Option Key->Int
 |none=>0xFCA86420
 |some k=>QZ w k
noncomputable def Lm(prog:Program)(w:World):PySem.KeyKind prog w (Option Key) where
 is:=RT
 hash:=KY w
 inj:=λv a b i g=>by
  cases a with
  |none=>
   cases b with
   |none=>rfl
   |some b=>exact absurd (dH i) (oS g)
  |some a=>
   cases b with
   |none=>exact absurd (dH g) (oS i)
   |some b=>exact Dp some ((bH prog w).inj v a b i g)
 byValue:=λk v h=>by
  cases k with
  |none=>rw[dH h];rfl
  |some k=>exact(bH prog w).byValue k v h
 pyHash:=fun {A E s k v Q} c h=>by
  cases k with
  |none=>rw[dH c];exact MT h
  |some k=>exact(bH prog w).pyHash c h
 eqBool:=fun {A E s a b u v Q} f c h=>by
  cases a with
  |none=>
   rw[dH f];cases b with
   |none=>rw[dH c];exact SeqAt.EqAt.same _ _ _ _ _ (by simpa using h)
   |some b=>
    have d:Q false s:=by simpa using h
    rcases bZ (show oH b v=true from c) with⟨j,t,_,rfl⟩|⟨y,t,_,rfl⟩
    .exact SeqAt.EqAt.none_int _ _ _ _ _ _ d
    .exact SeqAt.EqAt.none_str _ _ _ _ _ _ d
  |some a=>
   cases b with
   |none=>
    rw[dH c];have d:Q false s:=by simpa using h
    rcases bZ (show oH a u=true from f) with⟨j,t,_,rfl⟩|⟨y,t,_,rfl⟩
    .exact SeqAt.EqAt.int_none _ _ _ _ _ _ d
    .exact SeqAt.EqAt.str_none _ _ _ _ _ _ d
   |some b=>
    refine(bH prog w).eqBool f c ?_;have e:decide (some a=some b)=decide (a=b):=Eh.mpr ⟨Bj,λz=>by rw[z]⟩
    rw[e]at h;exact h
 «strs» := λk x t v h=>by
  cases k with
  |none=>exact absurd (dH h) (λz=>nomatch z)
  |some k=>exact(bH prog w).strs k x t v h
def BM{f:Key->Option Value}(l:h.MapOf (bH prog w) a f):h.MapOf (Lm prog w) a (λk=>k.bind f):=by
 obtain⟨o,g,q,j,i,n,d,m⟩:=l;refine⟨o,g,q,j,i,n,λe b=>?_,λk=>?_⟩
 .obtain⟨k,c,p⟩:=d e b;exact⟨some k,c,p⟩
 .cases k with
  |some k=>exact m k
  |none=>
   show findBy RT g none=none
   unfold findBy;rw[Option.map_eq_none_iff,Array.find?_eq_none];intro e b z;obtain⟨k,c,_⟩:=d e b;exact oS c (dH z)
def Sv:R2:=λx y H Q=>∃a,y=.ref a/\((∃c,Zc H a x c/\Q (.bl c.isSome) H)\/(x=.non/\∃b,Rd H a (.dK b)/\Q (.bl false) H))
def GP(j:X.A.units+1<cLine):ZK X (compareOp .In) Sv:=by
 intro o s U H x y v u Q I b c h;obtain⟨a,rfl,h⟩:=h;cases c;rcases h with⟨f,g,q⟩|⟨rfl,i,e,q⟩
 .exact OV j I g b λr n=>⟨.bl f.isSome,H,n,rfl,q⟩
 .cases b;obtain⟨z,l,p,d,m⟩:=lD I.Z3 e;exact wpAny_in_of  (k:=none)  rfl l (BM m.mapOf) ⟨.bl false,H,I.tok _,rfl,q⟩
def N2(f:X.A.units+1<cLine):YT X "dict.get" Qz:=by
 intro j s U H x l v m Q I b c h;obtain⟨a,y,o,rfl,rfl,g,q⟩:=h;cases b;obtain⟨u,rfl,d⟩:=c.one;exact DP f I g d λk n i e=>⟨_,H,i,e,q⟩
def E7(e:Rd H a (.dK kvs))(h:Q (.bl false) H):Sv .non (.ref a) H Q:=⟨a,rfl,.inr ⟨rfl,kvs,e,h⟩⟩
def CF(e:Rd H a (.dK kvs))(h:Q (.bl (cN kvs (Sum.inr z)).isSome) H):Sv (.str z) (.ref a) H Q:=⟨a,rfl,.inl ⟨_,.inl ⟨kvs,.inr z,e,rfl,rfl⟩,h⟩⟩
def ND:R2:=λx y H Q=>∃p q a b c d,x=.ref p/\y=.ref q/\H p=some (.tup [.int a,.int b])/\H q=some (.tup [.int c,.int d])/\Q (.bl (decide (a=c/\b=d))) H
def Mx(F:X.A.units<cLine):ZK X (compareOp .Eq) ND:=by
 intro M s U H x y v u Q I w t h;obtain⟨p,q,a,b,c,d,rfl,rfl,J,G,k⟩:=h;cases w;cases t;obtain⟨E,B,D,_⟩:=I.tuple (Yb.of (K:=X.K) J);obtain⟨i,z,C,_⟩:=I.tuple (Yb.of (K:=X.K) G);obtain⟨R,P,rfl,⟨r,rfl⟩,⟨o,rfl⟩⟩:=B.two;obtain⟨O,N,rfl,⟨n,rfl⟩,⟨m,rfl⟩⟩:=z.two;refine SeqAt.eq_tupleAt (e:=λj=>if j=0 then a==c else b==d) (show s.heap.IsTuple p _ from D) (show s.heap.IsTuple q _ from C) F (λj f L=>?_) ?_
 .match j,f,L with
  |0,_,_=>exact SeqAt.EqAt.int_int a r c n
  |1,_,_=>exact SeqAt.EqAt.int_int b o d m
  |j+2,f,_=>exact absurd f (by show ¬j+2<2;((try clear F L f);omega))
 .refine⟨.bl (decide (a=c/\b=d)),H,I,?_,k⟩;show Value.bool _=Value.bool _
  congr 1
  show (((if (0:Nat)=0 then a==c else b==d)&&((if (1:Nat)=0 then a==c else b==d)&&true))&&true)=_
  grind
def K2{a b c d:Int}(f:H p=some (.tup [.int a,.int b]))(e:H q=some (.tup [.int c,.int d]))(h:Q (.bl (decide (a=c/\b=d))) H):ND (.ref p) (.ref q) H Q:=⟨p,q,a,b,c,d,rfl,rfl,f,e,h⟩
def Rk:V->List V->Hp->VK->Prop:=λx a H Q=>∃z y,x=.str z/\a=[.str y]/\Q (.int (Txt.find z y)) H
def Qp:YT X "str.find" Rk:=by
 intro d s U H x e v f Q I a b h;obtain⟨z,y,rfl,rfl,q⟩:=h;obtain⟨t,rfl⟩:=a;obtain⟨u,rfl,c⟩:=b.one;obtain⟨g,rfl⟩:=c;exact SC.find ⟨.int _,H,I.tok _,⟨_,rfl⟩,q⟩
def QQ{y:Str}(h:Q (.int (Txt.find z y)) H):Rk (.str z) [.str y] H Q:=⟨z,y,rfl,rfl,h⟩
def Pp:List V->Hp->VK->Prop:=λa H Q=>(∃j,a=[.int j]/\∀r,H r=none->Q (.ref r) (upd H r (.rng 0 j)))\/(∃i j,a=[.int i,.int j]/\∀r,H r=none->Q (.ref r) (upd H r (.rng i j)))
def Inv.Xd{U:St}{c:Int}{t u v:Tok}{a:Nat}(I:Inv X y6 U H s):Inv X y6 U (upd H s.heap.objs.size (.rng lo c)) {s with heap:=s.heap.push {cls:=.type "range",data:=.fields #[.int lo t,.int c u,.int 1 v]},toks:=a}:=
 (I.kept  λb o e=>Aj _ e).adopt (I.YN (Ai _)) (I.Z3.fresh (Ai _)) ⟨t,u,v,Ay _ rfl⟩
def Jf:ZU X (.type "range") Pp:=by
 intro a s U H b d Q I r h;rcases h with⟨j,rfl,q⟩|⟨i,j,rfl,q⟩
 .obtain⟨u,rfl,⟨t,rfl⟩⟩:=dP r;exact call_range_1 ⟨.ref _,_,I.Xd,rfl,q _ (I.Z3.fresh (Ai _))⟩
 .obtain⟨u,c,rfl,⟨t,rfl⟩,⟨e,rfl⟩⟩:=R4 r;exact call_range_2 ⟨.ref _,_,I.Xd,rfl,q _ (I.Z3.fresh (Ai _))⟩
def IB{j:Int}(h:∀r,H r=none->Q (.ref r) (upd H r (.rng 0 j))):Pp [.int j] H Q:=.inl ⟨j,rfl,h⟩
def QU:List V->Hp->VK->Prop:=λb H Q=>∃(a:Addr) (n:Nat),b=[.ref a]/\H a=some (.rng 0 (n:Int))/\n<=100000/\∀r,H r=none->Q (.ref r) (upd H r (.lst ((List.range n).map λi=>V.int ((i:Nat):Int))))
def Jg(y:X.calm=true):ZU X (.type "list") QU:=by
 intro B s U H C D Q I r h;obtain⟨a,n,rfl,z,p,q⟩:=h;obtain⟨u,rfl,l⟩:=dP r;cases l;obtain⟨G,F,E,m⟩:=I.Z3 a _ z;refine call_list_range (n:=n) (I.ok.hd y) m (small_one (by decide) (by decide) (by (exact Int.natCast_nonneg _)) (by omega)) (by rw[rangeSize_nat];omega) (by (exact Nat.le_trans (by assumption) (by decide))) λJ k e c v A b=>?_
 refine⟨.ref s.heap.objs.size,_,I.laid (a:=s.heap.objs.size) (o:=.lst ((List.range n).map λi=>V.int ((i:Nat):Int))) (t':=k) v (Ai _) ⟨by rw[Ab,Bf];exact bM p,e.toList,c,?_,by rw[A]⟩,rfl,q _ (I.Z3.fresh (Ai _))⟩
 refine SG (by rw[Ab,Bf,Ez,b.1]) λj x u f g=>?_
 obtain⟨d,rfl⟩:=b.2 j u (by rw[<-Do];exact g)
 have w:j<n:=by
  have:=(Ad.mp g).1
  rw[Ez,b.1]at this;exact this
 rw[Ag,Fz w]at f;cases f;exact⟨d,by rw[show (0:Int)+((j:Nat):Int)*1=((j:Nat):Int) by ((try clear p w);omega)]⟩
def D9(c:H a=some (.rng 0 (n:Int)))(b:n<=100000)(h:∀r,H r=none->Q (.ref r) (upd H r (.lst ((List.range n).map λi=>V.int ((i:Nat):Int))))):QU [.ref a] H Q:=⟨a,n,rfl,c,b,h⟩
def Q8{ps:List Str}(sp:Nat->Sp)(c:∀a H Q E,¬sp 0 a H Q E)(e:mg x=some (.ref f))(g:W.keepIn K (.ref f)=true)(i:Binds K fd ps [])(st:∀d n,ZR P w K mg base (d+1) x ps (sp n)->Z8 P w K mg base ZS (d+2) f fd ps (sp (n+1))):∀n,Z8 P w K mg base ZS (n+1) f fd ps (sp n)
 |0=>⟨λa H Q E h=>(c _ _ _ _ h).elim,λA b s H j k a Q E _ _ _ _ h=>(c _ _ _ _ h).elim⟩
 |n+1=>st n n ⟨f,fd,Q8 sp c e g i st n,e,g,i⟩
def ZQ.app{c:List Addr}{d:List _}(t:ZQ H1 Hc ps fs)(u:ZQ H1 Hc c d):ZQ H1 Hc (ps++c) (fs++d):=by
 refine⟨by rw[Af,Af,t.1,u.1],λj p v b a=>?_⟩
 by_cases h:j<ps.length
 .rw[An h]at b;rw[An (by rwa[<-t.1])]at a
  exact t.2 j p v b a
 .rw[Aq (by omega)]at b
  rw[Aq (by rw[<-t.1];omega),<-t.1]at a
  exact u.2 _ p v b a
section
variable {U0:St}
def K7(f:Nat->List V)(F:Z4 H1 a=some xs)(N:xs.length<sizeLine)(hs:∀i x d A (B:Hp->Prop),xs[i]?=some x->Z_ H1 d->(∀q k,d q=none->Z_ d k->k q=some (.lst (f i))->A (.ref q) k)->
 g x U0 d λI P=>Wk U0 I/\tests I P λb J=>if b=true then te I J A else B J)(G:∀D k c,H1 D=none->Z_ H1 k->k D=some (.lst (c.map V.ref))->c.length=xs.length->ZQ H1 k c ((List.range xs.length).map f)->(∀p∈c,p≠D)->Q (.ref D) k):eF g tests te U0 Q (Xl K a) H1:=by
 refine jH (n:=xs.length) (λD i m d=>Z_ H1 d/\∃c,m=c.map V.ref/\c.length=i/\ZQ H1 d c ((List.range i).map f)/\∀p∈c,p≠D) N (λD s=>⟨aG s _,[],rfl,rfl,.nil,λp y=>nomatch y⟩)
  (λD i m d _ r h=>⟨xs,xs[i],bE (aO r.1 F),by simp[h]⟩) (λD m d _ r=>⟨xs,bE (aO r.1 F),Nat.le_refl _⟩) ?_ ?_
 .rintro D i m d x R A B s S ⟨l,c,rfl,C,v,u⟩ j ⟨rfl,M⟩ E T;refine hs i x R A B (M xs (bE (aO l F))) l (λq k w t O=>?_);have L:q≠D:=λz=>by rw[z,j]at w;cases w
  have o:∀p∈c++[q],p≠D:=λp y=>by
   rcases Bk.mp y with e|e
   .exact u p e
   .rw[Ah.mp e];exact L
  refine E _ _ (t _ _ j) ⟨bJ s (l.trans t),c++[q],by rw[Ap];rfl,by rw[Af,C];rfl,?_,o⟩
  rw[Cm,Ap];exact((v.keep t).snoc (none_of l w) O).put o
 .rintro D m d s ⟨l,c,rfl,C,v,u⟩ j _;exact G D d c s l j C v u
end
section
open PySem
open PySem.Spec PyProof.Rows
def X4(H:Hp):Nat->V->V->Prop
 |0,x,y=>x=y/\(cA x=true\/∃p,x=.ref p)
 |n+1,x,y=>(x=y/\(cA x=true\/∃p,x=.ref p))\/∃p q,x=.ref p/\y=.ref q/\((∃d c,Z4 H p=some d/\Z4 H q=some c/\d.length=c.length/\∀(j:Nat) f e,d[j]?=some f->c[j]?=some e->X4 H n f e)\/∃b a,Rd H p (.dK b)/\Rd H q (.dK a)/\SJ b a)
def X4.same{x:V}(h:cA x=true\/∃p,x=.ref p):X4 H n x x:=by
 cases n with
 |zero=>exact⟨rfl,h⟩
 |succ n=>exact .inl ⟨rfl,h⟩
def Qw{x:V}{v:Value}(h:cA x=true\/∃p,x=.ref p)(c:RelV x u)(b:RelV x v):XN X.prog X.w A s u v:=by
 rcases h with a|⟨p,rfl⟩
 .have:=rW (A:=A) (s:=s) c b a a
  rw[Pu a]at this;exact λE Q d=>this X.prog X.w E Q d
 .cases c;cases b;exact .same _
def S7{U:St}(I:Inv X y6 U H s){p:Addr}(G:Z4 H p=some xs)(F:Z4 H q=some ys)(L:xs.length=ys.length)(h:∀(j:Nat) l k u v,xs[j]?=some l->ys[j]?=some k->RelV l u->RelV k v->XN X.prog X.w A.in1 s u v)(t:A.units<cLine)(E:Q0)(Q:Q0):(Q (.bool true) s->wpAny (model X.prog X.w) A (richCompare .Eq (.ref p) (.ref q)) Q E s)/\(Q (.bool false) s->wpAny (model X.prog X.w) A (richCompare .NotEq (.ref p) (.ref q)) Q E s):=by
 obtain⟨b,n,r,_⟩:=I.list (bE G);obtain⟨a,m,o,_⟩:=I.list (bE F);have N:=n.length
 have M:=m.length
 have B:∀j D (C:j<a.toArray.size),XN X.prog X.w A.in1 s b.toArray[j] a.toArray[j]:=λj D C=>by
  have i:j<b.length:=by simpa using D
  have g:j<a.length:=by simpa using C
  obtain⟨K,d,f⟩:=n.get (Aa (show j<xs.length by ((try clear C D g t);omega)))
  obtain⟨J,c,e⟩:=m.get (Aa (show j<ys.length by ((try clear C D g t);omega)))
  rw[Aa i]at d;rw[Aa g]at c;cases d;cases c
  simpa using h j _ _ _ _ (List.getElem?_eq_getElem _) (List.getElem?_eq_getElem _) f e
 have z:b.toArray.size=a.toArray.size:=by simp only[List.size_toArray];((try clear t);omega)
 exact⟨λq=>MP r.isList o.isList z t B q,λq=>FN r.isList o.isList z t B q⟩
def OR{U:St}(I:Inv X y6 U H s):∀n A x y u v,X4 H n x y->RelV x u->RelV y v->A.units+n<cLine->XN X.prog X.w A s u v:=by
 intro n;induction n with
 |zero=>
  intro A x y u v h f c D;obtain⟨rfl,b⟩:=h;exact Qw b f c
 |succ n B=>
  intro A x y u v h f c D;rcases h with⟨rfl,b⟩|⟨p,q,rfl,rfl,l⟩
  .exact Qw b f c
  .cases f;cases c;by_cases e:p=q
   .subst e;exact .same _
   rcases l with⟨J,G,m,k,F,h⟩|⟨z,t,m,k,d⟩
   .exact .refs e λE Q a=>(S7 I m k F (λj r o u v b C i g=>B A.in1 r o u v (h j r o b C) i g (by grind)) (by ((try clear F e);omega)) E Q).1 a
   .exact .refs e λE Q a=>(A4 I m k d (by ((try clear e);omega)) E Q).1 a
def S0(neg:Bool):R2:=λx y H Q=>∃n p q b a,n<=50/\x=.ref p/\y=.ref q/\Z4 H p=some b/\Z4 H q=some a/\b.length=a.length/\(∀(j:Nat) d c,b[j]?=some d->a[j]?=some c->X4 H n d c)/\Q (.bl (!neg)) H
def Us(B:X.A.units+64<cLine):ZK X (compareOp .NotEq) (S0 true):=by
 intro w s U H x y v u Q I f e h;obtain⟨n,p,q,z,t,C,rfl,rfl,m,l,o,r,k⟩:=h;cases f;cases e;exact(S7 I m l o (λj d c u v i g b a=>OR I n X.A.in1 d c u v (r j d c i g) b a (by grind)) (by ((try clear C o);omega)) _ _).2 ⟨.bl false,H,I,rfl,k⟩
def Vj{neg:Bool}{p:Addr}(n:Nat)(d:Z4 H p=some xs)(c:Z4 H q=some ys)(f:xs.length=ys.length)(g:∀(j:Nat) b a,xs[j]?=some b->ys[j]?=some a->X4 H n b a)(h:Q (.bl (!neg)) H)(e:n<=50:=by omega):S0 neg (.ref p) (.ref q) H Q:=⟨n,p,q,xs,ys,e,rfl,rfl,d,c,f,g,h⟩
end
section
open PySem.AutoSeq1 (wpAny_loadPart')
end
noncomputable def btV(val:Nat->Int)(i j:Nat):Bool:=decide (val i>val j)
section
variable {R:Result->Shared->Prop} {J B:Addr} {us ws:List Addr} {P:Nat->Value->Prop} {St:Nat->Heap->Prop} {G:Shared->Prop} {val:Nat->Int}
def A2{i j:Int}{t u:Tok}{Q:Q0}(h:Q (.bool (decide (i>j))) s):wpAny (model prog w) A (richCompare .Gt (.int i t) (.int j u)) Q E s:=
 CmpOf.ints_gt (P:=λk v=>(k=0->∃t,v=Value.int i t)/\(k=1->∃t,v=.int j t)/\k<=1) (λk=>if k=0 then i else j) (λk v a=>by grind) 0 1 _ _ s Q E ⟨λ_=>⟨t,rfl⟩,λe=>absurd e (by decide),by decide⟩ ⟨λe=>absurd e (by decide),λ_=>⟨u,rfl⟩,by decide⟩ h
def DX(W:Walks prog w A.in1 J us ws n P St)(L:B∉us)(I:∀s h' tk,G s->(∀b o,b∉ws->b≠B->s.heap.get? b=some o->h'.get? b=some o)->G {s with heap:=h',toks:=tk})(a:∀i v s (Q:Q0) (E:Q0),P i v->G s->(∀t s',G s'->(∀b o,b∈B::us->s.heap.get? b=some o->s'.heap.get? b=some o)->Q (.int (val i) t) s')->wpAny (model prog w) A.in1 (call (.ref f) [v]) Q E s)(S:∀z s',P (argBest (btV val) (n-1)) z->G s'->R (.ok (.ret z)) s'):∀r i s y t c,n-(i+1)=r->i+1<=n->St (i+1) s.heap->P (argBest (btV val) i) y->s.heap.get? B=some {cls:=.type "list",data:=.seq #[y,.int (val (argBest (btV val) i)) t] c}->G s->
 codeAny (model prog w) A (.builtin "max.loop" ⟨[.ref J,.ref f,.ref B],[]⟩) R s:=by
 have l:=λz=>L (W.sub _ z)
 have nm:(toString "max" ++ toString ".loop" : String)="max.loop" := by decide
 intro r;induction r with
 |zero=>
  intro i s y t c U hi st py m g;have en:i+1=n:=by omega
  refine Eu Ib ?_;rw[Eg Dx _];show wpAny _ A.in1 (seqItems? (.ref B) >>= _) _ _ s
  refine Ae (wpAny_seqItems m rfl ?_);show wpAny _ A.in1 (tryCatch (pyNext (.ref J)) _ >>= _) _ _ s
  refine Ae (Hb (W.done s _ _ (en▸st) λh' tk kp=>?_));have j:=kp B _ l m
  show wpAny _ A.in1 (updateSeq B (λ_=>#[]) >>= _) _ _ _
  refine Ae (wpAny_updateSeq j rfl (Ae (wpAny_letGo (Au ?_))));exact S y _ (by rw[<-en];exact py) (I s _ tk g λb o p D e=>(Cb _ _ (Ne.symm D)).trans (kp b o p e))
 |succ r N=>
  intro i s y t c U hi st py m g;have F:i+1<n:=by omega
  refine Eu Ib ?_;rw[Eg Dx _];show wpAny _ A.in1 (seqItems? (.ref B) >>= _) _ _ s
  refine Ae (wpAny_seqItems m rfl ?_);show wpAny _ A.in1 (tryCatch (pyNext (.ref J)) _ >>= _) _ _ s
  refine Ae (Hb (W.item (i+1) s _ _ F st λz h' tk K x kp=>?_));have j:=kp B _ l m
  have T:=I _ _ tk g λb o p _ e=>kp b o p e
  show wpAny _ A.in1 (tryCatch (holding [z] (call (.ref f) [z])) _ >>= _) _ _ _
  refine Ae (Hb (Df (a (i+1) z _ _ _ K T λu C O M=>?_)));have d:=M B _ Al j
  have k:=W.frame _ _ _ x λb H o e=>M b o (Ak _ H) e
  show wpAny _ A.in1 (tryCatch (holding [z,.int (val (i+1)) u] (richCompare .Gt (.int (val (i+1)) u) (.int (val (argBest (btV val) i)) t) >>= _)) _ >>= _) _ _ _
  refine Ae (Hb (Df (Ae (A2 ?_))));refine Ae (Df (Fp (Ae (wpAny_letGo (Au ?_)))));have V:decide (val (i+1)>val (argBest (btV val) i))=btV val (i+1) (argBest (btV val) i):=rfl
  rw[V];cases e:btV val (i+1) (argBest (btV val) i) with
  |true=>
   simp only[if_true];refine Ae (wpAny_updateSeq d rfl (Ae (wpAny_letGo ?_)));rw[nm];have ea:argBest (btV val) (i+1)=i+1:=by unfold argBest;rw[e];rfl
   refine Au ⟨Fx Dx _,N (i+1) _ z u _ (by ((try clear hi);omega)) F (W.frame _ _ _ k λb H o q=>(Cb _ _ (λy:B=b=>L (y▸H))).trans q) (by rw[ea];exact K) (by rw[ea];exact Heap.get?_update_self _ d rfl) (I C _ C.toks O λb o p D q=>(Cb _ _ (Ne.symm D)).trans q)⟩
  |false=>
   simp only[Bool.false_eq_true,if_false];refine Ae (wpAny_letGo ?_);rw[nm]
   have ea : argBest (btV val) (i + 1) = argBest (btV val) i := by conv => lhs; unfold argBest; rw [e]
                                                                   rfl
   refine Au ⟨Fx Dx _,N (i+1) C y t c (by ((try clear ea hi);omega)) F k (by rw[ea];exact py) (by rw[ea];exact d) O⟩
end
section
open PySem.W (KasT kas_sort kas_rev kas_asc kas_desc kas_tail3 kas_descPart kas_count kas_place kas_bin)
section
variable {r:Nat->Nat} {n:Nat}
end
end
section
open PySem.W (CodeHd tabObj)
structure X8 (mg:Str->Option Value) (base:Heap) (c Pt:Addr):Prop where
 code:CodeHd base c Pt
 bm:∃bm ob,mg "__builtins__"=some (.ref bm)/\bm≠builtinsNs/\base.get? bm=some ob/\ob.cls=.type "module"/\ob.dict=some builtinsNs/\ob.data=.plain
def T_(h:Heap)(b:Str->Option Value)(x:Str)(c:Addr):Prop:=∃f o a,b x=some (.ref f)/\h.get? f=some o/\o.data=.func a/\a.code=.ref c
def LI{mb:Q5}{CX:Yg}{k:Nat}{fa:Addr}{s₁:Shared}{vs:List Value}(KX:K.In s₁.heap)(hns:s₁.heap.Ns mainGlobals mg)(hb:s₁.heap.Ns builtinsNs mb)(hbb:∀x:Str,x≠"__name__"->mb x=bootBuiltins x)(hlim:s₁.heap.NoLimit)(hg:s₁.gens=#[])(ha:s₁.heap.get? a=some {cls:=.type "list",data:=.seq vs.toArray})(hi:IntsAre vs ns)(hl:ns.length<=sizeLine)(hr:Z2 k callerA)(hC:CodeHd s₁.heap c Pt)(hP:s₁.heap.get? Pt=some (tabObj #[]))(hbm:∃bm ob,mg "__builtins__"=some (.ref bm)/\bm≠builtinsNs/\s₁.heap.get? bm=some ob/\ob.cls=.type "module"/\ob.dict=some builtinsNs/\ob.data=.plain)(hKP:K.lookup Pt=none)(F:∀base,K.In base->base.Ns mainGlobals mg->X8 mg base c Pt->Z8 P w K mg base CX k fa fd [x] sp)(hbind:∀s u,BindsTo s fd ⟨[u],[]⟩ [(x,u)])(hsp:∀H,H Pt=some (.tbl #[])->ZA K H a (ns.map V.int)->sp [.ref a] H (λv _=>v=.bl true) λ_ _ _=>False)(hCX:∀H e s',CX [] H s₁ (λ_ _ _=>False) e s'->False):codeAny (model P w) callerA (.call (.ref fa) ⟨[.ref a],[]⟩) (λr s'=>r=.ok (.ret (.bool true))/\OldK s₁.heap s'.heap/\s'.os=s₁.os/\AllBare s'.gens) s₁:=by
 have rv:=zI hi
 have lenV:=hi.length
 have naP:a≠Pt:=λz=>by rw[z,hP]at ha;cases ha
 have core:∀ H,(∀ b,H b=none\/(∃ o xs,H b=some (.frz o (.lst xs)))\/b=Pt)->H Pt=some (.tbl #[])->ZA K H a (ns.map V.int)->Zl P w H s₁.heap->(∀ b,H b≠none->b=a\/b=Pt)->(H a≠none->K.lookup a=none)->
     codeAny (model P w) callerA (.call (.ref fa) ⟨[.ref a],[]⟩) (λr s'=>r=.ok (.ret (.bool true))/\OldK s₁.heap s'.heap/\s'.os=s₁.os/\AllBare s'.gens) s₁:=by
  intro H hO hHP hS Z3 hA hK;have base_of:∀ {b:Addr} {o:Obj},s₁.heap.get? b=some o->H b=none->(xU s₁.heap H).get? b=some o:=λe n=>JA e n
  have noT:∀ {b:Addr} {o:Obj},s₁.heap.get? b=some o->(∀its n,o.data≠.seq its n)->(∀ps,o.cls=.none->o.data≠.fields ps)->H b=none:=fun {b o} e d d2=>by
   cases q:H b with
   |none=>rfl
   |some u=>
    rcases hA b (by rw[q];simp) with e'|e'
    .subst e';rw[ha]at e;cases e;exact absurd rfl (d _ _)
    .subst e';rw[hP]at e;cases e;exact absurd rfl (d2 _ rfl)
  have noA:∀ {b:Addr} {o:Obj} {es:Array DictEntry} {ep:Nat},s₁.heap.get? b=some o->o.data=.dict es ep->H b=none:=fun {b o es ep} e d=>noT e (λ_ _ z=>by rw[d]at z;cases z) λ_ _ z=>by rw[d]at z;cases z
  have nsK:∀ {b:Addr} {m:Q5},s₁.heap.Ns b m->(xU s₁.heap H).Ns b m:=fun {b m} ⟨o,es,ep,e,d,r⟩=>⟨o,es,ep,base_of e (noA e d),d,r⟩
  have hKb:=λb o e=>base_of (KX b o e) (by
   cases q:H b with
   |none=>rfl
   |some u=>
    rcases hA b (by rw[q];simp) with e'|e'
    .subst e';rw[hK (by rw[q];simp)]at e;cases e
    .subst e';rw[hKP]at e;cases e)
  have hM:Mod K mg (xU s₁.heap H):=⟨hKb,nsK hns,⟨mb,nsK hb,hbb⟩,let ⟨mc,h1,h2⟩:=hlim;⟨mc,nsK h1,h2⟩⟩
  have hLB:X8 mg (xU s₁.heap H) c Pt:=by
   refine⟨?_,?_⟩
   .obtain⟨o,vs,file,tf,flags,tg,inF,text,tt,e,ecl,eda,r⟩:=hC;exact⟨o,vs,file,tf,flags,tg,inF,text,tt,base_of e (noT e (λ_ _ z=>by rw[eda]at z;cases z) λ_ z=>by rw[ecl]at z;cases z),ecl,eda,r⟩
   .obtain⟨bm,ob,b1,b2,b3,b4,b5,b6⟩:=hbm;exact⟨bm,ob,b1,b2,base_of b3 (noT b3 (λ_ _ z=>by rw[b6]at z;cases z) λ_ z=>by rw[b4]at z;cases z),b4,b5,b6⟩
  have e0:XT P w K mg (xU s₁.heap H) callerA [] s₁ H:=⟨rfl,hM,λb o e=>K8 e,Nat.le_of_eq (K5 _ _),trivial,λb hb=>absurd (show b∈([]:List Addr) from hb) (by simp),Z3,.of_eq hg⟩
  refine Fb ((F _ hKb (nsK hns) hLB).run callerA [] s₁ H ⟨[.ref a],[]⟩ [.ref a] [.ref a] _ _ hr e0 (hbind s₁ (.ref a)) (.cons rfl .nil) (hsp H hHP hS)) λr s' h=>?_;cases r with
  |error e=>exact(hCX H e s' h).elim
  |ok fl=>
   cases fl with
   |next=>exact False.elim h
   |brk=>exact False.elim h
   |cont=>exact False.elim h
   |ret u=>
    obtain⟨v,H',os,bare,un,hok',r',q⟩:=h;have q':=q
    subst q';obtain rfl:u=Value.bool true:=r';refine⟨rfl,⟨λb o e=>?_,λb o e=>?_⟩,os,bare⟩
    .cases q:H b with
     |none=>exact .inl (un.keep b o e q (by intro z;exact absurd (show b∈([]:List Addr) from z) (by simp)) (by simp))
     |some u=>
      rcases hO b with z|⟨ob,xs,z⟩|z
      .rw[q]at z;cases z
      .have z2:=un.frzs b ob _ z
       obtain⟨e1,_⟩:=Z3 b _ z;obtain⟨e2,_⟩:=hok' b _ z2;rw[e]at e1;cases e1;exact .inl e2
      .subst z;rw[hP]at e;cases e;obtain⟨more,z2⟩:=un.tbls b _ hHP;exact .inr (.inl ⟨(hC.tab hP).isCodeTable,rfl,#[],more,rfl,hok' b _ z2⟩)
    .exact un.there b o e (by simp)
 have tblOk:∀H,H Pt=some (.tbl #[])->ZX P w H s₁.heap Pt (.tbl #[]):=λ_ _=>hP
 cases hk:K.lookup a with
 |some o=>
  have e:=KX a o hk
  rw[ha]at e;cases e;refine core (λb=>if b=Pt then some (.tbl #[]) else none) (λb=>?_) (if_pos rfl) (.inr ⟨_,vs.toArray,_,hk,rfl,rfl,rfl,by rw[List.size_toArray,lenV];exact hl,by simpa using rv⟩) (λb u z=>?_) (λb z=>?_) λz=>?_
  .by_cases hb:b=Pt
   .exact .inr (.inr hb)
   .exact .inl (if_neg hb)
  .by_cases hb:b=Pt
   .have z':=(if_pos hb).symm.trans z
    cases z';subst hb;exact hP
   .have z':=(if_neg hb).symm.trans z
    cases z'
  .by_cases hb:b=Pt
   .exact .inr hb
   .exact absurd (if_neg hb) z
  .exact absurd (if_neg naP) z
 |none=>
  refine core (λb=>if b=a then some (.frz {cls:=.type "list",data:=.seq vs.toArray} (.lst (ns.map V.int))) else if b=Pt then some (.tbl #[]) else none) (λb=>?_) ((if_neg naP.symm).trans (if_pos rfl)) (.inl (.inr ⟨{cls:=.type "list",data:=.seq vs.toArray},if_pos rfl⟩)) (λb u z=>?_) (λb z=>?_) λ_=>hk
  .by_cases hb:b=a
   .exact .inr (.inl ⟨_,_,if_pos hb⟩)
   .by_cases hb2:b=Pt
    .exact .inr (.inr hb2)
    .exact .inl ((if_neg hb).trans (if_neg hb2))
  .by_cases hb:b=a
   .have z':=(if_pos hb).symm.trans z
    cases z';subst hb;exact⟨ha,by rw[Ab];exact hl,vs,_,rv,ha⟩
   .by_cases hb2:b=Pt
    .have z':=((if_neg hb).trans (if_pos hb2)).symm.trans z
     cases z';subst hb2;exact hP
    .have z':=((if_neg hb).trans (if_neg hb2)).symm.trans z
     cases z'
  .by_cases hb:b=a
   .exact .inl hb
   .by_cases hb2:b=Pt
    .exact .inr hb2
    .exact absurd ((if_neg hb).trans (if_neg hb2)) z
def M6{l:W.OpenLaw}{n k:Nat}{q:Program}{t:List Str}{XP:(Q5)->Heap->Prop}{YP:World->Heap->Prop}{d d2:DefRec}{K:Params->W.Frag}{CX:World->Yg}{sp:World->Addr->Sp}(hn:l.most=some n)(I:n<=sizeLine)(L:d.params.defaults=[])(hr:Z2 k callerA)(M:d2∈recsOf q)(E:∀w:World,W.noTabs (K w.params)=true)(hY:∀(w:World) (h:Heap),YP w h->(K w.params).In h)(F:∀(w:World) (p:Q5) (B:Addr) (h:Heap) (c j:Addr),(K w.params).In h->h.Ns mainGlobals p->p d.name=some (.ref B)->T_ h p d2.name c->
 ∃Q:FuncData,(∀(s:Shared) (u:Value),BindsTo s Q ⟨[u],[]⟩ [(x,u)])/\
  ∀i:Heap,(K w.params).In i->i.Ns mainGlobals p->X8 p i c j->Z8 l.prog w (K w.params) p i (CX w) k B Q [x] (sp w j))(D:∀(w:World) (H:Hp) (a j:Addr) (A:List Int),A.length<=n->H j=some (.tbl #[])->ZA (K w.params) H a (A.map V.int)->sp w j [.ref a] H (λv _=>v=.bl true) λ_ _ _=>False)(O:∀(w:World) (H:Hp) (s:Shared) (e:Value) (C:Shared),CX w [] H s (λ_ _ _=>False) e C->False):W.WalkO q t XP YP l.row.toRowW d [] (λf S=>PySem.call f S):=by
 refine Att.X7 hn L λw X m p mb B o pm cd a3 a S A G Y ho hd a1 J z y r hg=>?_;have R:=hY w _ Y
 obtain⟨a2,o2,P,c,j,t1,t2,t3,t4,t5,U⟩:=G.T.tab d2 M;have hC:=CodeHd.of t5 U
 have Z:m.heap.get? j=some (tabObj #[]):=U.2
 have N:(K w.params).lookup j=none:=by
  cases e:(K w.params).lookup j with
  |none=>rfl
  |some o=>
   have h1:=R _ _ e
   rw[Z]at h1;cases h1;have h2:=Bz.mp (E w) (j,tabObj #[]) (W.mem_of_lookupK e)
   exact absurd (show false=true from h2) Ar
 obtain⟨Q,hb,hF⟩:=F w p B _ c j R G.T.g J ⟨a2,o2,P,t1,t2,t3,t4⟩;exact LI R G.T.g G.T.b G.T.builtins G.T.nolimit hg z y (Bh r I) hr hC Z G.T.bmain N hF hb (λH hO hS=>D w H a j A r hO hS) λH e C=>O w H m e C
def ZT.Nc{ps:List Str}{k:Nat}(F:ZT K x qual st f fd)(o:fd.code=.ref c)(S:Z9 N ps (aK st))(g:∀d H Q E,sp d H Q E->d.length=ps.length)(e:∀b A a s H d Q E,b=.ref c->Z2 k (A.deeper (envOfC qual (aK st) s.heap.objs.size f b))->sp d H Q E->
 ∃t,Yw (iL ZS P w K mg base N qual (aK st) f b A a s H E).W2 (fZ st) t/\t {nx:=λ_ r=>Q .non r,rt:=Q} (oC N d) H):Z8 P w K mg base ZS (k+1) f fd ps sp:=by
 obtain⟨y,v,z,p,u,C,b,B,l,rfl,m,j⟩:=F.ex;refine SR m j S g λA a s H d Q E n i=>?_;obtain⟨t,h,q⟩:=e b A a s H d Q E o n i;exact⟨t,h.W2,q⟩
def Mv{e:Value}{d:Option Addr}{a:Array _}(T:T_ h mg x c)(n:K.In h)(i:mg x=some (.ref f))(g:K.lookup f=some ⟨e,d,.func fd,a⟩):fd.code=.ref c:=by
 obtain⟨q,p,j,b,m,l,k⟩:=T;have:=n _ _ g
 grind
end
section
open PySem.W (CodeHd tabObj kla_obj kla_fn envX)
noncomputable def sV(c:Addr)(q:Str):HO:=.ext λh=>h.CodeRec (.ref c) q
def AS{q:Str}(r:h.CodeRec (.ref c) q):ZX P w H h c (sV c q):=by
 obtain⟨n,a,d,t,e,b,g,f⟩:=id r;cases e;refine⟨r,⟨a,b⟩,λl j i k=>?_⟩;obtain⟨m,a,d,t,e,b,g,f⟩:=i;cases e;exact⟨_,a,d,t,rfl,k _ b,g,f⟩
def Y0(b:Addr)(q:Str)(a:Pos)(H:Hp):Prop:=H b=some (.tbl #[])\/∃c,H b=some (.tbl (#[]++#[rawInt a.line,rawInt a.col,.ref c]))/\H c=some (sV c q)
def ZZ(a:Addr)(H c:Hp):Prop:=∀b o,b≠a->H b=some o->c b=some o
def ZZ.refl:ZZ Pt H H:=λ_ _ _ e=>e
def ZZ.trans{d:Hp}(a:ZZ Pt H H1)(b:ZZ Pt H1 d):ZZ Pt H d:=λc o n e=>b c o n (a c o n e)
def Z_.p(s:Z_ H H'):ZZ Pt H H':=λb o _ e=>s b o e
def Y0.keep{q:Str}(h:Y0 Pt q pos H)(s:Z_ H H'):Y0 Pt q pos H':=by
 rcases h with h|⟨c,b,a⟩
 .exact .inl (s _ _ h)
 .exact .inr ⟨c,s _ _ b,s _ _ a⟩
def Y0.tb{q:Str}(h:Y0 Pt q pos H):∃a,H Pt=some (.tbl a):=by
 rcases h with h|⟨c,b,d⟩
 .exact⟨_,h⟩
 .exact⟨_,b⟩
structure Yc (X:Cx) (N:List Str) (scope:Scope) (cl:List (Str×Addr)) (vals:St->St) (x:Str):Prop where
 clos:closureFor scope X.env=pure cl
 sub:∀y c,cl.lookup y=some c->X.env.cells.lookup y=some c
 has:∀y,(scope.names.lookup y=some .cell\/scope.names.lookup y=some .free)->∃c,cl.lookup y=some c
 len:∀U,(vals U).length+1=N.length
 par:N[0]?=some x/\scope.names.lookup x=some .local
 val:∀U (i:Nat) y v,N[i+1]?=some y->(vals U)[i]?=some (some v)->∃(j:Nat),X.N[j]?=some y/\U[j]?=some (some v)/\X.env.scope.names.lookup y=some .cell/\(∃c,cl.lookup y=some c)/\scope.names.lookup y=some .free
noncomputable def SN(a:List Nat):St->St:=λU=>a.map λj=>(U[j]?).join
noncomputable def PU(N c:List Str)(sn b:List (Str×NameKind))(a:List Nat)(x:Str):Bool:=
 (a.length+1==N.length)&&(N[0]? == some x)&&(sn.lookup x==some .local)&&(sn.all λy=>y.2 != .cell&&(y.2 != .free || b.lookup y.1==some .cell)) &&
 ((List.range a.length).all λi=>match a[i]? with|some j=>N[i+1]? == c[j]? && (match N[i+1]? with|some y=>sn.lookup y==some .free|none=>false)|_=>true)
def lS:∀ {l:List (Str×α)},l.lookup x=some k->(x,k)∈l:=fun {l} h=>Dk h
def Jy(C:List Str)(u:Scope)(s:List Nat)(G:X.N=C)(A:X.env.scope=u)(h:∀x,u.names.lookup x=some .cell->∃c,X.env.cells.lookup x=some c)(d:PU N C scope.names u.names s x=true):Yc X N scope (Xv X.env scope.names []) (SN s) x:=by
 unfold PU at d;simp only[Bool.and_eq_true]at d;obtain⟨⟨⟨⟨L,K⟩,J⟩,I⟩,H⟩:=d;have l:=Bz.mp I
 have B:∀y,(y,NameKind.free)∈scope.names->∃c,X.env.cells.lookup y=some c:=λy a=>by
  have:=l _ a
  simp at this;exact h y this
 have b:∀y,scope.names.lookup y=some .free->∃c,(Xv X.env scope.names []).lookup y=some c:=λy a=>Eb.mp (pN scope.names [] (lS a))
 refine⟨?_,λy c e=>?_,λy a=>?_,λU=>?_,⟨by simpa using K,by simpa using J⟩,λU i y v M m=>?_⟩
 .unfold closureFor;exact(congrArg (· >>= λr=>pure r) (tZ scope.names [] λy a D=>by obtain⟨n,k⟩:=y;cases (show k=.free from D);exact B n a)).trans (by simp)
 .rcases tY scope.names [] e with z|⟨z,rfl⟩
  .cases z
  .obtain⟨c,F⟩:=B y z;rw[F];rfl
 .rcases a with a|a
  .have:=l _ (lS a)
   simp at this
  .exact b y a
 .unfold SN;rw[Ab]
  simpa using L
 .unfold SN at m;rw[Ag]at m;cases t:s[i]? with
  |none=>rw[t]at m;cases m
  |some j=>
   rw[t]at m;have f:(U[j]?).join=some v:=Bj m
   have E:=(Ad.mp t).1
   have g:=Bz.mp H i (Bu.mpr E)
   rw[t]at g;dsimp only at g;rw[M]at g;simp at g;have w:U[j]?=some (some v):=by
    cases q:U[j]? with
    |none=>rw[q]at f;cases f
    |some o=>rw[q]at f;exact Dp some f
   have p:=l _ (lS g.2)
   simp at p;exact⟨j,by rw[G];exact g.1.symm,w,by rw[A];exact p,b y g.2,g.2⟩
noncomputable def T9(X:Cx)(A:Around)(N:List Str)(q:Str)(scope:Scope)(cl:List (Str×Addr))(f c:Addr)(s₀:Shared)(H₀:Hp):Cx where
 prog:=X.prog
 w:=X.w
 K:=X.K
 mg:=X.mg
 base:=X.base
 A:=A.deeper (envX q scope s₀.heap.objs.size f (.ref c) cl)
 N:=N
 s₀:=s₀
 H₀:=H₀
 env:=envX q scope s₀.heap.objs.size f (.ref c) cl
 outer:=X.stack
 stack:=envX q scope s₀.heap.objs.size f (.ref c) cl::X.stack
 ex:=[]
 fn:=λ_=>false
 calm:=true
 pn:=[]
 xe:=λ_ _=>False
section
variable {U:St} {q:Str} {vals:St->St} {c':Addr}
def LU{v:Value}(I:Inv X y6 U H s)(a:Yc X N scope cl vals x)(S:A.frames=some X.stack)(Q:A.handled=none)(k:scope.kind=.function)(M:RelV y v)(B:h1.Ns s.heap.objs.size λz=>[(x,v)].reverse.lookup z)(t:Heap.SameBut s.heap.objs.size (s.heap.push {cls:=.type "frame",data:=.dict #[]}) h1):Inv (T9 X A N q scope cl f c' s H) [] (some y::vals U) H {s with heap:=h1,toks:=t1}:=by
 have d:∀b o,s.heap.get? b=some o->h1.get? b=some o:=λb o e=>(t.2 b (Bm (Ax e))).trans (Aj _ e)
 have R:=I.Z3.fresh (Ai _)
 have g:∀b,b∉(T9 X A N q scope cl f c' s H).ex:=λb z=>absurd (show b∈([]:List Addr) from z) (by simp)
 refine⟨⟨I.ok.mod,k,rfl,rfl,Ai _,λy z c h1 h2=>I.ok.inj y z c (a.sub y c h1) (a.sub z c h2),a.has,(λx c h=>nomatch h),λ_=>Q,Around.frames_deeper S,.inr ⟨rfl,rfl⟩,λb z=>absurd z (g b),
  I.bs,Nat.le_trans I.ok.XI I.sz,λb _ _=>g b,λb z=>absurd z (g b),I.stack,I.Y7⟩,rfl,I.bare,Un.kept d,⟨_,B,λi z E K J _=>?_⟩,λy c e=>?_,R,λy c e=>I.ZO y c (a.sub y c e),λp O=>absurd (show p∈([]:Q2) from O) (by simp),I.Z3.kept d,?_⟩
 .cases i with
  |zero=>
   have n:N[0]?=some z:=K
   rw[a.par.1]at n;cases n;cases J;refine⟨v,M,.inl ⟨a.par.2,?_⟩⟩;show [(x,v)].lookup x=some v
   rw[Dj,Fe]
  |succ i=>
   obtain⟨j,h1,h2,G,⟨c,F⟩,T⟩:=a.val U i z E K J;obtain⟨m,V,P⟩:=I.loc;obtain⟨u,r,l⟩:=P j z E h1 h2 (.inr (.inl G));refine⟨u,r,.inr ⟨.inr T,c,F,?_⟩⟩;rcases l with⟨z',_⟩|⟨_,c',L,z'⟩
   .have D:X.env.scope.names.lookup z=some .local:=z'
    rw[G]at D;cases D
   .rw[a.sub z c F]at L;cases L;obtain⟨o,w,C⟩:=z';exact⟨o,d _ o w,C⟩
 .obtain⟨v,o,w,C⟩:=I.cell y c (a.sub y c e);exact⟨v,o,d _ o w,C⟩
 .show (some y::vals U).length=N.length
  rw[Av];exact a.len U
def J0{a:Expr}{pm ctv v:Value}{y:V}{o:TE}{Q:VK}(I:Inv X y6 U H s)(t:Yc X N scope cl vals x)(K:A.frames=some X.stack)(E:A.handled=none)(b:A.depth<recursionLimit)(F:s.heap.get? f=some (kla_obj "<lambda>" q params a scope cl pm c' ctv))(n:s.heap.CodeRec (.ref c') q)(m:scope.isCoroutine=false)(j:scope.isGenerator=false)(p:scope.kind=.function)(d:∀z∈scope.names,z.2≠.cell)(g:bindArgs (kla_fn "<lambda>" q params a scope cl pm (.ref c') ctv) ⟨[v],[]⟩=pure [(x,v)])(C:RelV y v)(G:PE (T9 X A N q scope cl f c' s H) a o)(h:o (some y::vals U) H Q):codeAny (model X.prog X.w) A (.call (.ref f) ⟨[v],[]⟩) (λr k=>match r with|.ok (.ret u)=>CE X.stack X.prog X.w H s Q u k|_=>False) s:=by
 refine W.kla_callFunE b F rfl m j rfl n ?_;rw[g];refine Au (wpAny_newFunctionEnv d (λz D=>by rw[Ah.mp D];exact t.par.2) (λO l i=>⟨(I.nolimit).fresh _ i,?_⟩) p)
 refine W.kla_codeExpr ?_;have L:=LU (A:=A) (q:=q) (f:=f) (c':=c') (t1:=s.toks+[(x,v)].length) I t K E p C l i
 exact Co (G [] _ _ H _ L h) (λu k ⟨B,M,J,r,q⟩=>⟨B,M,J.os,J.bare,J.base,J.Z3,r,q⟩) λe k z=>z.elim
def Inv.table{ps d:Array Value}{t':Nat}(I:Inv X y6 U H s)(j:H Pt=some (.tbl ps))(g:Heap.ExtBut Pt s.heap h')(k:h'.get? Pt=some (tabObj (ps++d))):Inv X y6 U (upd H Pt (.tbl (ps++d))) {s with heap:=h',toks:=t'}:=by
 have a:∀b u,H b=some u->(∀z,u≠.tbl z)->b≠Pt:=λb u e n z=>by rw[z,j]at e;cases e;exact n _ rfl
 have i:∀b,H b=none->b≠Pt:=λb e z=>by rw[z,j]at e;cases e
 refine I.un ⟨λb o e n _ _=>g b o (i b n) e,λb o e n _ _=>⟨o.slots,g b o (i b n) e⟩,λb o e n _=>by rw[aH (i b n)];exact n,λb o e _=>?_,λb l e=>by rw[aH (a b _ e λ_=>nofun)];exact e,λb o u e=>by rw[aH (a b _ e λ_=>nofun)];exact e,λb p e=>?_⟩ λb u e=>?_
 .by_cases f:b=Pt
  .exact⟨_,f▸k⟩
  .exact⟨o,g b o f e⟩
 .by_cases f:b=Pt
  .subst f;rw[j]at e;cases e;exact⟨d,aE⟩
  .exact⟨#[],by rw[aH f,e];simp⟩
 .by_cases f:b=Pt
  .subst f;rw[aE]at e;cases e;exact k
  .rw[aH f]at e;refine(I.Z3 b u e).ZC (λc v m q=>g c v ?_ q) (λc q=>by rw[aH (a c _ q λ_=>nofun)];exact q) λc l q=>by rw[aH (a c _ q λ_=>nofun)];exact q
   rcases m with z|z
   .rw[z];exact f
   .exact a c _ z λ_=>nofun
def Inv.RG(I:Inv X y6 U H s)(h:b∈X.fs):b<s.heap.objs.size:=by
 obtain⟨_,c,a,_⟩:=I.ok.Zk.mem h;exact Bd (Ax a) I.sz
noncomputable def Wq(f:Addr)(o:Obj):HO:=.ext λh=>h.get? f=some o
def QV(e:h.get? f=some o):ZX P w H h f (Wq f o):=⟨e,⟨o,e⟩,λc b a k=>k o a⟩
def I0(j:Addr)(q:Str)(a:Arguments)(e:Expr)(b:Scope)(l:List (Str×Addr))(d:Pos):TE:=λU H Q=>Y0 j q d H/\∀f i k h g,ZZ j H g->Y0 j q d g->g i=some (sV i q)->g f=some (Wq f (kla_obj "<lambda>" q a e b l k i h))->Q (.ref f) g
def Kk{d:Expr}(ck:Yc X N scope cl vals x)(j:X.env.code=.ref c)(LB:X8 X.mg X.base c Pt)(E:defaultsOf params X.env=([],[])):PE X (.Lambda params d scope pos) (I0 Pt (X.env.qual ++ "<lambda>") params d scope cl pos):=by
 intro y6 s U H Q I hT;obtain⟨T,h⟩:=hT;refine W.kla_eval E ?_;generalize X.env.qual ++ "<lambda>"=q at T h ⊢;have hg:=I.mod.glob.keeps I.bk
 obtain⟨L,y⟩:=T.tb;have V:=I.Z3 Pt _ y
 obtain⟨Y,ob,b1,b2,J,b4,b5,Z⟩:=LB.bm;have S:Y≠mainGlobals:=λz=>by
  obtain⟨o,es,ep,e,hd,_⟩:=I.mod.glob;rw[z,e]at J;cases J;rw[hd]at Z;cases Z
 have R:Y≠Pt:=λz=>by
  have:=(I.bs _ _ J).2
  rw[z,y]at this;cases this
 have O:mainGlobals≠Pt:=λz=>by
  obtain⟨o,es,ep,e,hd,_⟩:=I.mod.glob;have:=(I.bs _ _ e).2
  rw[z,y]at this;cases this
 have hB:s.heap.BuiltinsAt X.mg Pt:=⟨Y,ob,b1,b2,S,R,I.bk _ _ J,b4,b5,Z⟩
 have r:=Ax V
 rcases T with T|⟨f,T,Tc⟩
 .have w:=I.Z3 Pt _ T
  refine W.kla_makeFunction ck.clos I.ok.glob hg j (LB.code.keeps I.bk) w trivial rfl O hB λf g h' F hx i D C M=>?_;have I1:=I.table (t':=F) T hx M
  have k:=Bh i (Nat.le_of_lt D)
  have nc:=Fa (Bd r i)
  have P:(upd H Pt (.tbl (#[]++#[rawInt pos.line,rawInt pos.col,.ref f]))) f=none:=by rw[aH nc];exact I.Z3.fresh i
  have G:=I.YN i
  have I2:=I1.adopt (a:=f) (o:=sV f q) ⟨G.s0,G.loc,G.cell,G.pin⟩ P (AS C)
  have I3:=I2.kept (t':=F) (h':=h'.push (kla_obj "<lambda>" q params d scope cl ((X.mg "__name__").getD .none) f g)) λb u e=>Aj _ e
  have A:=Fa (Bd r k)
  have v:=Fa D
  have m:=I.YN k
  have l:(upd (upd H Pt (.tbl (#[]++#[rawInt pos.line,rawInt pos.col,.ref f]))) f (sV f q)) h'.objs.size=none:=by
   rw[aH v,aH A];exact I.Z3.fresh k
  have I4:=I3.adopt (a:=h'.objs.size) (o:=Wq h'.objs.size (kla_obj "<lambda>" q params d scope cl ((X.mg "__name__").getD .none) f g)) ⟨m.s0,m.loc,m.cell,m.pin⟩ l (QV (Ay _ rfl))
  refine⟨.ref h'.objs.size,_,I4,rfl,h h'.objs.size f ((X.mg "__name__").getD .none) g _ (λb o n e=>?_) (.inr ⟨f,?_,?_⟩) ?_ aE⟩
  .rw[aH (λz=>by rw[z,I.Z3.fresh k]at e;cases e),aH (λz=>by rw[z,I.Z3.fresh i]at e;cases e),aH n]
   exact e
  .rw[aH A.symm,aH nc.symm];exact aE
  .rw[aH v.symm];exact aE
  .rw[aH v.symm];exact aE
 .have w:=I.Z3 Pt _ T
  refine W.kla_makeFunctionHit (cv:=.ref f) ck.clos I.ok.glob hg j (LB.code.keeps I.bk) w trivial (codeAmong_snoc [] trivial rfl) hB λg h' F hk B=>?_;have I3:=I.kept (t':=F) (h':=h'.push (kla_obj "<lambda>" q params d scope cl ((X.mg "__name__").getD .none) f g)) λb u e=>Aj _ (hk b u e)
  have m:=I.YN B
  have l:=I.Z3.fresh B
  have I4:=I3.adopt (a:=h'.objs.size) (o:=Wq h'.objs.size (kla_obj "<lambda>" q params d scope cl ((X.mg "__name__").getD .none) f g)) ⟨m.s0,m.loc,m.cell,m.pin⟩ l (QV (Ay _ rfl))
  have K:=aG l (Wq h'.objs.size (kla_obj "<lambda>" q params d scope cl ((X.mg "__name__").getD .none) f g))
  exact⟨.ref h'.objs.size,_,I4,rfl,h h'.objs.size f ((X.mg "__name__").getD .none) g _ (Z_.p K) (Y0.keep (.inr ⟨f,T,Tc⟩) K) (K _ _ Tc) aE⟩
end
end
section
open PySem.W (CodeHd tabObj kla_obj kla_fn envX)
def JG(a v:Value):argsOk "max" ⟨[a],[(Str.ofString "key",v)]⟩:=by unfold argsOk;kernel_rfl
section
variable {l:Addr} {its:List Value} {G:Shared->Prop} {val:Nat->Int} {Q:Q0}
def L7(U:s.heap.IsList l its.toArray)(S:0<its.length)(hh:A.handled=none)(V:∀m y,(∀b o,s.heap.get? b=some o->m.get? b=some o)->G {s with heap:=m,toks:=y})(X:∀a m y,G a->(∀b o,b≠s.heap.objs.size->b≠s.heap.objs.size+1->a.heap.get? b=some o->m.get? b=some o)->G {a with heap:=m,toks:=y})(d:∀i v a (Q:Q0) (E:Q0),its[i]?=some v->G a->(∀t j,G j->(∀b o,(b=s.heap.objs.size\/b=s.heap.objs.size+1\/b=l)->a.heap.get? b=some o->j.heap.get? b=some o)->Q (.int (val i) t) j)->wpAny (model prog w) A.in1 (call (.ref f) [v]) Q E a)(hQ:∀z j,its[argBest (btV val) (its.length-1)]?=some z->G j->Q z j):wpAny (model prog w) A (call (.builtin "max") [.ref l] [(Str.ofString "key",.ref f)]) Q E s:=by
 have c:(toString "max" ++ toString ".loop" : String)="max.loop" := by decide
 obtain⟨ol,R,_⟩:=id U;have D:=Ax R
 refine kmk_tree PySem.F.kind_max PySem.F.plain_max PySem.F.entry_max (JG _ _) ?_;show wpAny _ A.in1 (Builtin.Builtins.bindParams "max" ["key", "default"] 0 ⟨[],[(Str.ofString "key",.ref f)]⟩ >>= _) _ _ s
 refine Ae (wpAny_of_eq (show Builtin.Builtins.bindParams "max" ["key", "default"] 0 ⟨[],[(Str.ofString "key",.ref f)]⟩=pure [some (.ref f),none] from rfl) ?_);refine Ae (Au ?_);refine Ae (Fs U ?_);refine Ae (wpAny_newList ?_ (Ct _));rw[c];have hS:(s.heap.push {cls:=.type "list_iterator",data:=.fields #[.ref l,.int 0 0]}).objs.size=s.heap.objs.size+1:=by rw[Gc]
 have O:=Bm D
 have P:=Bm (Nat.lt_succ_of_lt D)
 have W:=Walks.list (prog:=prog) (w:=w) (A:=A.in1) hh s.heap.objs.size l O its.toArray
 have C:its.toArray.size=its.length:=Ba ..
 have nB:s.heap.objs.size+1∉[s.heap.objs.size,l]:=λz=>by
  simp only[List.mem_cons,List.not_mem_nil,or_false]at z;rcases z with z|z
  .exact Nat.succ_ne_self _ z
  .exact P z.symm
 rw[hS];refine Au ⟨Fx Dx _,?_⟩;generalize n:(s.heap.push {cls:=.type "list_iterator",data:=.fields #[.ref l,.int 0 0]}).push {cls:=.type "list",data:=.seq #[]}=q;have k0:∀b o,s.heap.get? b=some o->q.get? b=some o:=λb o e=>by rw[<-n];exact Aj _ (Aj _ e)
 have gJ:q.get? s.heap.objs.size=some {cls:=.type "list_iterator",data:=.fields #[.ref l,.int 0 0]}:=by rw[<-n];exact Aj _ (Ay _ rfl)
 have gB:q.get? (s.heap.objs.size+1)=some {cls:=.type "list",data:=.seq #[]}:=by rw[<-n,<-hS];exact Ay _ rfl
 have T:q.IsList l its.toArray:=by obtain⟨o,e,r⟩:=U;exact⟨o,k0 _ _ e,r⟩
 refine Eu Ib ?_;rw[Eg Dx _];show wpAny _ A.in1 (seqItems? (.ref (s.heap.objs.size+1)) >>= _) _ _ _
 refine Ae (wpAny_seqItems gB rfl ?_);show wpAny _ A.in1 (tryCatch (pyNext (.ref s.heap.objs.size)) _ >>= _) _ _ _
 refine Ae (Hb (W.item 0 _ _ _ (by rw[C];exact S) ⟨⟨_,gJ,rfl,rfl⟩,T⟩ λv m x hP N H=>?_))
 have hv:its[0]?=some v:=by simpa using hP
 have g1:G {s with heap:=m,toks:=x}:=by
  refine X {s with heap:=q,toks:=s.toks} m x (V q s.toks k0) λb o L K e=>H b o (λz=>L (by simpa using z)) e
 have Y:=H (s.heap.objs.size+1) _ (λz=>absurd (show s.heap.objs.size+1=s.heap.objs.size by simpa using z) (Nat.succ_ne_self _)) gB
 show wpAny _ A.in1 (tryCatch (holding [v] (call (.ref f) [v])) _ >>= _) _ _ _
 refine Ae (Hb (Df (d 0 v _ _ _ hv g1 λZ s2 g2 k2=>?_)));have I:=k2 _ _ (.inr (.inl rfl)) Y
 have M:=W.frame _ _ _ N λb p o e=>k2 b o (by
  simp only[List.mem_cons,List.not_mem_nil,or_false]at p;rcases p with z|z
  .exact .inl z
  .exact .inr (.inr z)) e
 show wpAny _ A.in1 (updateSeq (s.heap.objs.size+1) (λ_=>#[v,.int (val 0) Z]) >>= _) _ _ _
 refine Ae (wpAny_updateSeq I rfl ?_);rw[c];refine Au ⟨Fx Dx _,?_⟩;refine DX (J:=s.heap.objs.size) (B:=s.heap.objs.size+1) (f:=f) (G:=G) (val:=val) W nB (λa h1 y g k=>X a h1 y g λb o L K e=>k b o (λz=>L (by simpa using z)) K e)
  (λi u a Q1 E1 hu g k=>d i u a Q1 E1 (by simpa using hu) g λt s3 g3 k3=>k t s3 g3 λb o p e=>k3 b o (by
   simp only[List.mem_cons,List.not_mem_nil,or_false]at p;rcases p with z|z|z
   .exact .inr (.inl z)
   .exact .inl z
   .exact .inr (.inr z)) e)
  (λz j pz g=>hQ z j (by rw[C]at pz;simpa using pz) g) (its.toArray.size-1) 0 _ v Z _ (by ((try clear D O P hS);omega)) (by (assumption)) (W.frame _ _ _ M λb p o e=>(Heap.get?_update_other _ _ (λz:s.heap.objs.size+1=b=>nB (z▸p))).trans e) (show its.toArray[0]?=some v by simpa using hv) (Heap.get?_update_self _ I rfl)
  (X s2 _ s2.toks g2 λb o L K e=>(Cb _ _ (Ne.symm K)).trans e)
end
section
variable {U:St}
def Inv.WU(I:Inv X y6 U H s)(i:H a=some (.lst xs))(p:s.heap.get? a=some o):Inv X y6 U (upd H a (.frz o (.lst xs))) s:=by
 have h:∀c v,H c=some v->(∀z,v≠.lst z)->c≠a:=λc v q n z=>by rw[z,i]at q;cases q;exact n _ rfl
 have g:∀c y,H c=some (.own y)->upd H a (.frz o (.lst xs)) c=some (.own y):=λc y q=>by rw[aH (h c _ q λ_=>nofun)];exact q
 have d:∀c f,H c=some (.tup f)->upd H a (.frz o (.lst xs)) c=some (.tup f):=λc f q=>by rw[aH (h c _ q λ_=>nofun)];exact q
 refine I.re (λb q=>by rw[aH (λz=>by rw[z,i]at q;cases q)];exact q) (λb f q=>d b f (I.base.tups b f q)) (λb l v q=>?_) (λb k q=>?_) (λb v q=>?_)
 .have:=I.base.frzs b l v q
  rw[aH (h b _ this λ_=>nofun)];exact this
 .obtain⟨m,e⟩:=I.base.tbls b k q;exact⟨m,by rw[aH (h b _ e λ_=>nofun)];exact e⟩
 .by_cases j:b=a
  .subst j;rw[aE]at q;cases q;exact(show s.heap.get? b=some o/\ZX X.prog X.w (upd H b (.frz o (.lst xs))) s.heap b (.lst xs) from⟨p,(I.Z3 b _ i).ZC (λ_ _ _ q=>q) (λc=>g c b) d⟩)
  .rw[aH j]at q;exact(I.Z3 b v q).ZC (λ_ _ _ q=>q) (λc=>g c b) d
def LM(f:H a=some (.lst xs)):Zb H (upd H a (.frz o (.lst xs)))=H:=by
 funext b
 by_cases c:b=a
 .subst c;rw[uF aE (λo v z=>by grind),f]
 .cases e:H b with
  |none=>exact uT (by rwa[aH c])
  |some u=>
   by_cases d:∃o v,u=.frz o v
   .obtain⟨g,v,rfl⟩:=d;exact nS (by rwa[aH c]) e
   .exact fA (by rwa[aH c]) λo v z=>d ⟨o,v,z⟩
def Inv.WN(I:Inv X y6 U H s)(k:∀c o,c≠a->c≠b->s.heap.get? c=some o->h'.get? c=some o)(p:VH X y6 a)(l:VH X y6 b)(y:H a=none)(x:H b=none)(D:X.s₀.heap.objs.size<=a)(C:X.s₀.heap.objs.size<=b):Inv X y6 U H {s with heap:=h',toks:=t'}:=by
 have j:∀c u,H c=some u->c≠a/\c≠b:=λc u e=>⟨(λz=>by rw[z,y]at e;cases e),(λz=>by rw[z,x]at e;cases e)⟩
 have f:∀ {c},c∉[a,b]->c≠a/\c≠b:=fun {c} h=>⟨λz=>h (by simp[z]),λz=>h (by simp[z])⟩
 refine I.step (g':=s.gens) (d':=s.drawn) (ch:=[a,b]) (λc i=>?_) (λc o _ _ i e _=>k c o (f i).1 (f i).2 e) (λc o _ _ i e _=>⟨o.slots,k c o (f i).1 (f i).2 e⟩) (λ_ _ _ _ n=>n)
  (λc o i e=>⟨o,k c o (f i).1 (f i).2 e⟩) (λ_ _ e=>e) (λ_ _ _ e=>e) (λb G e=>⟨#[],by rw[e];simp⟩) (λm B=>?_) (λc u e=>?_) I.bare
 .simp only[List.mem_cons,List.not_mem_nil,or_false]at i;rcases i with rfl|rfl
  .exact⟨.inr D,p.loc,p.cell,p.pin⟩
  .exact⟨.inr C,l.loc,l.cell,l.pin⟩
 .obtain⟨o,E,F,A,r⟩:=B;exact⟨o,E,F,k _ o p.loc.symm l.loc.symm A,r⟩
 .refine(I.Z3 c u e).ZC (λd v w q=>k d v ?_ ?_ q) (λ_ q=>q) λ_ _ q=>q
  .rcases w with z|z
   .rw[z];exact(j c u e).1
   .exact(j d _ z).1
  .rcases w with z|z
   .rw[z];exact(j c u e).2
   .exact(j d _ z).2
end
def Q_(h:Addr)(q:Str)(b:Pos)(o:TE)(e:St->St)(r:TA):TE:=λU H Q=>r U H λl g=>∃(p:Addr) (f:List Int) (c:Nat->Int),l=[.ref p]/\Z4 g p=some (f.map V.int)/\0<f.length/\Y0 h q b g/\
 (∀d,(∀a k,Z4 g a=some k->Z4 d a=some k)->∀i n,f[i]?=some n->o (some (.int n)::e U) d λv s=>v=.int (c i)/\s=d)/\
 ∀i m d,f[i]?=some m->(∀j,j<f.length->c j<=c i)->ZZ h g d->Y0 h q b d->Q (.int m) d
def Li(val:Nat->Int):∀n,argBest (btV val) n<=n/\∀j,j<=n->val j<=val (argBest (btV val) n):=λn=>argBest_gt val n
def Ui(s:ZZ Pt H H')(h:Z4 H a=some xs)(d:∃b,H Pt=some (.tbl b)):Z4 H' a=some xs:=by
 have c:a≠Pt:=λz=>by
  obtain⟨b,e⟩:=d;unfold Z4 at h;rw[z,e]at h;cases h
 unfold Z4 at h ⊢;cases e:H a with
 |none=>rw[e]at h;cases h
 |some o=>rw[s a o c e];rwa[e]at h
def BI(h:Z4 H a=some xs):H a=some (.lst xs)\/∃o,H a=some (.frz o (.lst xs)):=by
 unfold Z4 at h;cases e:H a with
 |none=>rw[e]at h;cases h
 |some o=>
  rw[e]at h;cases o with
  |lst b=>cases h;exact .inl rfl
  |frz o u=>
   cases u with
   |lst b=>cases h;exact .inr ⟨o,rfl⟩
   |_=>cases h
  |_=>cases h
def HA{K:St->St}{g:Expr}{p B kp:Pos}{tb:TE}(hc:X.calm=true)(c4:X.A.depth+3<recursionLimit)(hg:Gl X "max")(hm:X.mg "max"=none)(ha:PA X [l] ta)(Y:X.env.code=.ref c)(LB:X8 X.mg X.base c Pt)(ck:Yc X N scope cl K x)(hb:∀A f c' a4 b5,PE (T9 X A N (X.env.qual ++ "<lambda>") scope cl f c' a4 b5) g tb)(b3:defaultsOf params X.env=([],[]))(c1:scope.isCoroutine=false)(b2:scope.isGenerator=false)(hk:scope.kind=.function)(Z:∀z∈scope.names,z.2≠.cell)(a2:∀q pm ctv v c',bindArgs (kla_fn "<lambda>" q params g scope cl pm (.ref c') ctv) ⟨[v],[]⟩=pure [(x,v)])(hs:starEach [l] X.env=[(false,eval l X.env)]:=by rfl)(W:keywordEach [⟨some "key",.Lambda params g scope B,kp⟩] X.env=[(some ("key" : Str),eval (.Lambda params g scope B) X.env)]:=by rfl):PE X (.Call (.Name "max" p) [l] [⟨some "key",.Lambda params g scope B,kp⟩] pos) (Q_ Pt (X.env.qual ++ "<lambda>") B tb K ta):=by
 intro y6 s U H Q I h;have R:backTo pos (starEach [l] X.env)=[(false,eval l X.env)]:=by rw[hs];rfl
 refine Dr (jA I hg hm boot_max (E9 (by rw[R];rfl) (by rw[W];rfl) ?_))
 rw[R];refine evalArgs_kwB (by rw[W];rfl) ?_
 rw[<-R];refine ZY (ha pos y6 s U H _ I h) λus s1 μ=>?_;obtain⟨vs,H1,I1,r1,q1⟩:=μ;obtain⟨p,L,val,rfl,hp,hn,T,c3,qe⟩:=q1;refine ZY (uG (Kk ck Y LB b3) TV pos y6 s1 U H1 (λM E=>∃f c' pm ctv,M=[.ref f]/\ZZ Pt H1 E/\Y0 Pt (X.env.qual ++ "<lambda>") B E/\E c'=some (sV c' (X.env.qual ++ "<lambda>"))/\E f=some (Wq f (kla_obj "<lambda>" (X.env.qual ++ "<lambda>") params g scope cl pm c' ctv))) I1 ⟨T,λf c' pm ctv H' a b c d=>⟨f,c',pm,ctv,rfl,a,b,c,d⟩⟩) λws O μ=>?_;obtain⟨M,E,I2,r2,q2⟩:=μ;obtain⟨f,c',pm,ctv,rfl,sP,T2,a1,hf⟩:=q2;obtain⟨u,rfl,ru⟩:=dP r1;cases ru;obtain⟨u,rfl,ru⟩:=dP r2;cases ru;have e:(backToKw pos (keywordEach [⟨some "key",.Lambda params g scope B,kp⟩] X.env)).filterMap (·.1)=(["key"]:List Str):=by rw[W];rfl
 rw[e];show wpAny (model X.prog X.w) X.A (call (.builtin "max") [.ref p] [(Str.ofString "key",.ref f)]) _ _ _
 generalize X.env.qual ++ "<lambda>"=q at *;have S:=Ui sP hp T.tb
 -- the list is known from here on
 obtain⟨ol,b1⟩:∃o,O.heap.get? p=some o:=by
  obtain⟨F,rv,pl,hz⟩:=I2.list (bE S);obtain⟨o,e,_⟩:=pl.isList;exact⟨o,e⟩
 obtain⟨C,D,a9,a3,a8,c2,b9⟩:∃C,Inv X y6 U C O/\C p=some (.frz ol (.lst (L.map V.int)))/\(∀P,Inv X y6 U C P->Inv X y6 U E P)/\(∀a M,Z4 H1 a=some M->Z4 C a=some M)/\C c'=some (sV c' q)/\C f=some (Wq f (kla_obj "<lambda>" q params g scope cl pm c' ctv)):=by
  rcases BI S with z|⟨o,z⟩
  .have ne:∀b u,E b=some u->(∀y,u≠.lst y)->b≠p:=λb u e n y=>by rw[y,z]at e;cases e;exact n _ rfl
   refine⟨upd E p (.frz ol (.lst (L.map V.int))),I2.WU z b1,aE,λP J=>?_,λa M h=>?_,?_,?_⟩
   .have:=J.Zr (Hs:=E) λb o u e=>I2.base.frzs b o u e
    rw[LM z]at this;exact this
   .have h2:=Ui sP h T.tb
    by_cases ea:a=p
    .subst ea;rw[S]at h2;cases h2;show RH (upd E a (.frz ol (.lst (L.map V.int))) a)=_
     rw[aE];rfl
    .unfold Z4 at h2 ⊢;rw[aH ea];exact h2
   .rw[aH (ne _ _ a1 λ_=>nofun)];exact a1
   .rw[aH (ne _ _ hf λ_=>nofun)];exact hf
  .obtain⟨eo,_⟩:=I2.Z3 p _ z;rw[b1]at eo;cases eo;exact⟨E,I2,z,λ_ J=>J,λa M h=>Ui sP h T.tb,a1,hf⟩
 obtain⟨F,rv,pl,hz⟩:=D.list (bE (a8 p _ hp));have hl:=pl.isList
 have b8:F.length=L.length:=by have:=rv.length;rw[Ab]at this;((try clear c4 hn hz);omega)
 have b4:∀i v,F[i]?=some v->∃n t,L[i]?=some n/\v=Value.int n t:=λi v a7=>by
  have hi:i<L.length:=by rw[<-b8];exact(Ad.mp a7).1
  obtain⟨u,hu,ru⟩:=rv.get (show (L.map V.int)[i]?=some (.int L[i]) by rw[Ag,Aa hi];rfl)
  rw[a7]at hu;cases hu;obtain⟨t,rfl⟩:=ru;exact⟨_,t,Aa hi,rfl⟩
 have fJ:=D.YN (Ai O.heap.objs.size)
 have fB:=D.YN (Io O.heap.objs.size)
 have nJ:=D.Z3.fresh (Ai _)
 have nB:=D.Z3.fresh (Io _)
 have a5:=D.sz
 have a6:∀b,O.heap.objs.size<=b->b∉YZ X.stack:=λb hb z=>by
  rcases Bc.mp (D.Yn b z) with y|y
  .exact absurd (Bd D.lt hb) (by rw[y];exact De _)
  .exact absurd (Bd (D.RG y) hb) (De _)
 refine L7 (val:=val) (G:=λP=>Inv X y6 U C P) hl (by ((try clear a5 c4 hz);omega)) (D.ok.hd hc) (λh' tk k=>D.kept k) (λs3 h' tk J k=>?_) (λi v s3 Q3 E3 hv J k=>?_) λz P b7 J=>?_
 .exact J.WN k fJ fB nJ nB a5 (Nat.le_succ_of_le a5)
 .obtain⟨n,t,en,rfl⟩:=b4 i v hv;refine Gj (Fb (J0 (A:=X.A.in1) (q:=q) (f:=f) (c':=c') (pm:=pm) (ctv:=ctv) (v:=.int n t) (y:=.int n) (Q:=λv H3=>v=.int (val i)/\H3=C) J ck D.ok.frames (D.ok.hd hc) (by show X.A.depth<_;((try clear a5 b8 hn hz);omega)) (J.Z3 f _ b9).1 (J.Z3 c' _ c2).1 c1 b2 hk Z (a2 q pm ctv _ c') ⟨t,rfl⟩ (hb _ _ _ _ _) (c3 C a8 i n en)) λr s4 hr=>?_)
  match r,hr with
  |.ok (.ret u),hr=>
   have un:Un (YZ X.stack) [] C C s3.heap s4.heap:=by obtain⟨v',H',_,_,un,_,_,⟨_,rfl⟩⟩:=hr;exact un
   obtain⟨v',H',J',b6,⟨rfl,rfl⟩⟩:=J.after hr;obtain⟨t',rfl⟩:=b6;refine k t' s4 J' λb o hb e=>?_;rcases hb with z|z|z
   .subst z;exact un.keep _ o e nJ (a6 _ (Nat.le_refl _)) (by simp)
   .subst z;exact un.keep _ o e nB (a6 _ (Nat.le_succ _)) (by simp)
   .subst z;have e1:=(J.Z3 _ _ a9).1
    rw[e]at e1;cases e1;exact(J'.Z3 _ _ a9).1
 .obtain⟨h1,h2⟩:=Li val (F.length-1);obtain⟨m,t,em,rfl⟩:=b4 _ _ b7;exact⟨.int m,E,a3 P J,⟨t,rfl⟩,qe _ m E em (λj hj=>h2 j (by ((try clear a5 c4 h1 hz);omega))) sP T2⟩
def CW{q:Str}{b:Pos}{l:TE}{c:St->St}{U:St}(h:ta U H λo g=>∃(p:Addr) (f:List Int) (d:Nat->Int),o=[.ref p]/\Z4 g p=some (f.map V.int)/\0<f.length/\Y0 Pt q b g/\
 (∀e,(∀a k,Z4 g a=some k->Z4 e a=some k)->∀i n,f[i]?=some n->l (some (.int n)::c U) e λv r=>v=.int (d i)/\r=e)/\
 ∀i m e,f[i]?=some m->(∀j,j<f.length->d j<=d i)->ZZ Pt g e->Y0 Pt q b e->Q (.int m) e):Q_ Pt q b l c ta U H Q:=h
def JZ(r:Z2 k A):A.depth+3<recursionLimit:=by have:=r.dp;omega
end
def qY(CX:Yg)(P:Program)(w:World)(K:W.Frag)(c:Str->Option Value)(a:Heap)(k:Nat)(C:Addr)(m:Str)(ps:List Str)(sp:Sp):Prop:=
 ∃f b,Z8 P w K c a CX k f b ps sp/\Meth K C m f/\Binds K b ps []
def T8(CX:Yg)(P:Program)(w:World)(K:W.Frag)(c:Str->Option Value)(a:Heap)(k:Nat)(C:Addr)(ps:List Str)(sp:Sp):Prop:=
 ∃f b,Z8 P w K c a CX k f b ps sp/\Mk K C f/\Binds K b ps []
section
variable {CX:Yg} {k:Nat} {ps:List Str} {Es:St->XK} {E:XK} {m:Str} {p:Pos} {o:Expr} {ta:TE} {t:TA} {U:St}
def SV(C:Addr)(m:Str)(sp:Sp)(h:St->XK)(e:TE)(t:TA):TE:=λU H Q=>e U H λx c=>∃a f b,x=.ref a/\c a=some (.ins C f b)/\b.lookup m=none/\
 t U c λd g=>sp (x::d) g Q (h U)
def Ng{us:List Value}{vs:List V}(F:Z8 X.prog X.w X.K X.mg X.base CX k f fd ps sp)(i:Z2 k X.A)(l:Binds X.K fd ps [])(h:zM CX X Es)(c:Inv X y6 U H s1)(r:Vals vs us)(q:sp vs H Q (Es U)):wpAny (model X.prog X.w) X.A (call (.ref f) us) (EP X y6 U Q) X.xe s1:=by
 have j:us.length=ps.length:=by rw[<-r.length];exact F.len _ _ _ _ q
 have b:=l s1 us c.Y_ (by simp_all)
 rw[Bs]at b;refine Gj (Fb (F.run X.A X.stack s1 H ⟨us,[]⟩ us vs Q (Es U) i c.Xh b r q) λg d a=>?_);cases g with
 |error e=>exact h y6 U H s1 e d c a
 |ok m=>
  cases m with
  |ret u=>exact c.after a
  |next=>exact False.elim a
  |brk=>exact False.elim a
  |cont=>exact False.elim a
def M4{pl:Sem Bool}(he:PE X o ta)(c:Yd X.K C)(hm:Meth X.K C m f)(F:Z8 X.prog X.w X.K X.mg X.base CX k f fd ps sp)(hr:Z2 k X.A)(hb:Binds X.K fd ps [])(hx:zM CX X Es)(ha:PA X (e::es) t)(hst:starEach (e::es) X.env=(false,eval e X.env)::starEach es X.env:=by rfl)(hpl:(backTo pos (starEach es X.env)).any (·.1)=false:=by rfl)(ht:eval (.Call (.Attribute o m apos) (e::es) [] pos) X.env=(do
 let ov <-eval o X.env
 standAt apos.atName
 let (f,first) <-holding [ov] (getMethod ov m pl)
 callWith pos f first (backTo pos (starEach (e::es) X.env)) (backToKw pos (keywordEach [] X.env))):=by rfl):PE X (.Call (.Attribute o m apos) (e::es) [] pos) (SV C m sp Es ta t):=by
 intro y6 s U H Q I h;refine Fj (pl:=pl) (ZY (he y6 s U H _ I h) λu s1 μ=>?_) ht;obtain⟨x,H1,I1,rx,a,dx,fs,ex,ea,l,q⟩:=μ;subst ex;obtain rfl:u=Value.ref a:=rx;refine kB I1 ea c hm l ?_;refine Fg (first:=[.ref a]) (h₀:=X.base) I.ok.mod.WO hm.kp (ZY (ha pos y6 s1 U H1 _ I1 q) λus s2 ⟨vs,H2,I2,r,q2⟩=>⟨I2.Y_,?_⟩) hst hpl
 exact Ng (us:=.ref a::us) (vs:=.ref a::vs) F hr hb hx I2 (.cons rfl r) q2
def kG(c:qY ZS X.prog X.w X.K X.mg X.base k C m ps sp)(j:Yd X.K C)(d:Z2 k' X.A)(g:k<=k')(h:PE X o ta)(b:eval (.Call (.Attribute o m apos) [] [] pos) X.env=(do
 let a <-eval o X.env
 standAt apos.atName
 let (f,first) <-holding [a] (getMethod a m pl)
 callWith pos f first (backTo pos (starEach [] X.env)) (backToKw pos (keywordEach [] X.env))):=by rfl):PE X (.Call (.Attribute o m apos) [] [] pos) (Vl C m sp [] E0 ta V7):=by
 obtain⟨f,l,F,e,i⟩:=c;exact CZ  h j e F (d.mono g) i .nil Se b
def Jj(c:qY (Za X.prog X.w) X.prog X.w X.K X.mg X.base k C m ps sp)(r:Yd X.K C)(g:iE (Za X.prog X.w) X E)(i:Z2 k' X.A)(l:k<=k')(n:PE X o ta)(q:PA X (e::es) t)(a:starEach (e::es) X.env=(false,eval e X.env)::starEach es X.env:=by rfl)(b:(backTo pos (starEach es X.env)).any (·.1)=false:=by rfl)(h:eval (.Call (.Attribute o m apos) (e::es) [] pos) X.env=(do
 let d <-eval o X.env
 standAt apos.atName
 let (f,first) <-holding [d] (getMethod d m pl)
 callWith pos f first (backTo pos (starEach (e::es) X.env)) (backToKw pos (keywordEach [] X.env))):=by rfl):PE X (.Call (.Attribute o m apos) (e::es) [] pos) (Vl C m sp [] E ta t):=by
 obtain⟨f,s,F,j,p⟩:=c;exact Nf (pl:=pl) n r j F (i.mono l) p .nil g q a b h
def EU(c:qY (Za X.prog X.w) X.prog X.w X.K X.mg X.base k C m ps sp)(r:Yd X.K C)(g:zM (Za X.prog X.w) X Es)(i:Z2 k' X.A)(l:k<=k')(n:PE X o ta)(q:PA X (e::es) t)(a:starEach (e::es) X.env=(false,eval e X.env)::starEach es X.env:=by rfl)(b:(backTo pos (starEach es X.env)).any (·.1)=false:=by rfl)(h:eval (.Call (.Attribute o m apos) (e::es) [] pos) X.env=(do
 let d <-eval o X.env
 standAt apos.atName
 let (f,first) <-holding [d] (getMethod d m pl)
 callWith pos f first (backTo pos (starEach (e::es) X.env)) (backToKw pos (keywordEach [] X.env))):=by rfl):PE X (.Call (.Attribute o m apos) (e::es) [] pos) (SV C m sp Es ta t):=by
 obtain⟨f,s,F,j,p⟩:=c;exact M4  n r j F (i.mono l) p g q a b h
def TJ(c:T8 ZS X.prog X.w X.K X.mg X.base k C ps sp)(d:Z2 k' X.A)(h:k+1<=k')(i:Gl X x)(g:X.mg x=some (.ref C))(m:PA X (e::es) t)(b:(x==("__debug__" : Str))=false:=by decide)(j:starEach (e::es) X.env=(false,eval e X.env)::starEach es X.env:=by rfl)(a:(backTo pos (starEach es X.env)).any (·.1)=false:=by rfl):PE X (.Call (.Name x p) (e::es) [] pos) (Ss C sp [] E0 t):=by
 obtain⟨f,n,F,M,l⟩:=c;exact KO M F (d.mono h) i g l .nil Se m b j a
def AZ{b:List V}(h:ta U H λx d=>∃a f c,x=.ref a/\d a=some (.ins C f c)/\c.lookup m=none/\t U d λe g=>sp (x::(e++b)) g Q E):Vl C m sp b E ta t U H Q:=h
def MW(h:ta U H λx c=>∃a e b,x=.ref a/\c a=some (.ins C e b)/\b.lookup m=none/\t U c λd f=>sp (x::d) f Q (Es U)):SV C m sp Es ta t U H Q:=h
def MM{a:List V}(h:t U H λd c=>∀x b,c x=none->c b=none->b≠x->sp (.ref x::(d++a)) (upd (upd c b (.own x)) x (.ins C b [])) (λv e=>v=.non/\Q (.ref x) e) E):Ss C sp a E t U H Q:=h
def JI{f:Str}(h:ta U H λx c=>∃a C d b v,x=.ref a/\c a=some (.ins C d b)/\Yd K C/\Zj K C f/\b.lookup f=some v/\Q v c):Pj K ta f U H Q:=h
def IP{f:Str}(h:tv U H λy e=>ta U e λx d=>∃a C c b,x=.ref a/\d a=some (.ins C c b)/\Yd K C/\Zj K C f/\b.length<1000/\D.nx U (upd d a (.ins C c (gR f y b)))):NF K ta tv f D U H:=h
end
def US(w:World):List DictEntry->List (Str×Int)->Prop
 |[],[]=>True
 |e::es,kn::r=>e.hash=PyData.keyHash w.params kn.1/\(∃t,e.key=.str kn.1 t)/\(∃t,e.val=.int kn.2 t)/\US w es r
 |_,_=>False
def P_(w:World)(K:W.Frag)(c:Str->Option Value)(x:Str)(a:List (Str×Int)):Prop:=
 ∃d b e,c x=some (.ref d)/\K.lookup d=some ⟨.type "dict",none,.dict b e,#[]⟩/\(d==sysModules)=false/\US w b.toList a/\(a.map (·.1)).Nodup
def wR{P:Program}:∀ {d:List DictEntry} {a:List (Str×Int)},US w d a->∃b,Pairs (bH P w) d b/\b.map (·.1)=a.map (λo=>(Sum.inr o.1:Key))/\(∀e∈d,∃k,(bH P w).is k e.key=true/\e.hash=(bH P w).hash k)/\
 ∀z,(match valueAt b (Sum.inr z:Key) with|some u=>∃n t,a.lookup z=some n/\u=.int n t|none=>a.lookup z=none)
 |[],[],_=>⟨[],.nil,rfl,(λe f=>nomatch f),λz=>rfl⟩
 |e::d,(k,n)::r,h=>by
  obtain⟨y,⟨t,j⟩,⟨i,x⟩,v⟩:=h;obtain⟨b,p,m,s,l⟩:=wR (P:=P) v;refine⟨((Sum.inr k:Key),.int n i)::b,.cons (by rw[j];exact nK k t) x p,by rw[As,m];rfl,λA f=>?_,λz=>?_⟩
  .rcases Bc.mp f with rfl|q
   .exact⟨Sum.inr k,by rw[j];exact nK k t,y⟩
   .exact s A q
  .have c:=l z
   unfold valueAt at c ⊢;rw[List.find?_cons];by_cases g:k=z
   .subst g;rw[Ao rfl];exact⟨n,i,by rw[Dj,Fe],rfl⟩
   .rw[Aw λq=>g (Sum.inr.inj q)];rw[Dj,show (z==k)=false from Dc.mpr λq=>g q.symm];exact c
 |[],_::_,h=>h.elim
 |_::_,[],h=>h.elim
def Rc(a:List (Str×Int))(c:TA):TE:=λU H Q=>c U H λb d=>∃z,b=[.str z]/\Q (match a.lookup z with|some n=>.int n|none=>.non) d
def GA{a:List (Str×Int)}{p:Pos}(hg:Gl X x)(hk:P_ X.w X.K X.mg x a)(ha:PA X [e] ta)(A:(x==("__debug__" : Str))=false:=by decide)(i:attributeBase (.Name x p) "get" X.env (eval (.Name x p) X.env)=eval (.Name x p) X.env:=by rfl)(j:((backTo cpos (starEach [e] X.env)).all (λx=>!x.1)&&(backToKw cpos (keywordEach [] X.env)).all (λx=>x.1.isSome)
 && decide (([e]:List Expr).length+([]:List Keyword).length+(if ([]:List Keyword).isEmpty then 0 else 1)<30))=true:=by rfl)(g:(apos.endLine==cpos.line)=true:=by rfl)(hs:starEach [e] X.env=(false,eval e X.env)::starEach [] X.env:=by rfl)(f:(backTo cpos (starEach [] X.env)).any (·.1)=false:=by rfl):PE X (.Call (.Attribute (.Name x p) "get" apos) [e] [] cpos) (Rc a ta):=by
 intro D s U H Q I h;obtain⟨d,es,ep,hm,hl,hd,ok,nd⟩:=hk;obtain⟨E,Z,m,ke,S⟩:=wR (P:=X.prog) ok;have J:∀r:Shared,X.K.In r.heap->r.heap.DictOf (bH X.prog X.w) d E:=λr k=>⟨_,es,ep,k _ _ hl,by first|exact⟨rfl,rfl,rfl⟩|exact⟨rfl,rfl⟩|(constructor<;>rfl),rfl,λe he=>ke e (by simpa using he),Z,by rw[m,show a.map (λkn=>(Sum.inr kn.1:Key))=(a.map (·.1)).map (λz=>(Sum.inr z:Key)) by rw[List.map_map];rfl];exact List.pairwise_map.mpr (nd.imp λn q=>n (Sum.inr.inj q))⟩
 have ho:PE X (.Name x p) (tC (.ref d)):=Tx hg hm rfl A
 refine Hy i j g rfl (ZY (ho D s U H (λy C=>y=.ref d/\C=H) I ⟨rfl,rfl⟩) λv F μ=>?_);obtain⟨x',C,N,Y,q⟩:=μ;obtain⟨rfl,rfl⟩:=q;cases Y;have M:=J F N.Y_
 refine⟨"dict",_,Gg,Ci,rfl,M.typeIs,λb q=>?_,?_⟩
 .cases q;obtain⟨ob,_,_,h1,h2,_⟩:=M;exact⟨ob,h1,h2.2.1⟩
 have G:=ha cpos D F U C _ N h
 rw[hs]at G ⊢;refine Du (by show (false || (backTo cpos (starEach [] X.env)).any (·.1))=false;rw[f]<;>rfl) (Gz ?_)
 refine ZY G λus V μ=>?_;obtain⟨R,O,B,W,z,ez,l⟩:=μ;subst ez;obtain⟨u,rfl,t,rfl⟩:=dP W;have L:=J V B.Y_
 refine Gk Ci L.typeIs Fc (Hr _ _) (meets_dict_get (bH X.prog X.w) d (show (bH X.prog X.w).is (Sum.inr z:Key) (Value.str z t)=true from nK z t) hd) ⟨_,L.mapOf,?_⟩;have c:=S z
 cases e:valueAt E (Sum.inr z:Key) with
 |none=>
  rw[e]at c;have o:=c
  rw[o]at l;exact⟨.non,O,B.tok _,rfl,l⟩
 |some u=>
  rw[e]at c;obtain⟨n,T,e2,rfl⟩:=c;rw[e2]at l;exact⟨.int n,O,B.tok _,⟨T,rfl⟩,l⟩
def Kz{a:List _}{U:St}(h:ta U H λb c=>∃z,b=[.str z]/\Q (match a.lookup z with|some n=>.int n|none=>.non) c):Rc a ta U H Q:=h
def Og:R2:=λx y H Q=>∃p q a,x=.ref p/\y=.ref q/\H p=some (.tup a)/\H q=some (.tup [])/\Q (.bl a.isEmpty) H
def HI(z:X.A.units<cLine):ZK X (compareOp .Eq) Og:=by
 intro E s U H x y v u Q I l i h;obtain⟨p,q,d,rfl,rfl,C,B,k⟩:=h;cases l;cases i;obtain⟨c,n,w,_⟩:=I.tuple (Yb.of (K:=X.K) C);obtain⟨f,m,o,_⟩:=I.tuple (Yb.of (K:=X.K) B);have g:=n.length
 cases m;refine SeqAt.eq_tupleAt (e:=λ_=>true) (show s.heap.IsTuple p _ from w) (show s.heap.IsTuple q _ from o) z (λj F D=>absurd D (by simp)) ?_
 refine⟨.bl d.isEmpty,H,I,?_,k⟩;show Value.bool _=Value.bool _
 congr 1
 grind
def Ki(b:H p=some (.tup xs))(a:H q=some (.tup []))(h:Q (.bl xs.isEmpty) H):Og (.ref p) (.ref q) H Q:=⟨p,q,xs,rfl,rfl,b,a,h⟩
noncomputable def IL(z:Str):Value->Bool
 |.str y _=>y==z
 |_=>false
def OY:V->List V->Hp->VK->Prop:=λx b H Q=>∃(p:Addr) (a:List Str) (z:Str) (j:Nat),x=.ref p/\b=[.str z]/\Z4 H p=some (a.map V.str)/\a[j]?=some z/\(∀i y,i<j->a[i]?=some y->y≠z)/\Q (.int (j:Int)) H
def LW:YT X "list.index" OY:=by
 intro W s U H x Y v Z Q I E G h;obtain⟨p,g,z,j,rfl,rfl,M,C,R,q⟩:=h;cases E;obtain⟨u,rfl,w,rfl⟩:=G.one;obtain⟨a,r,K,L⟩:=I.list (bE M);obtain⟨⟨c,T,S,D⟩,B,P,n,O⟩:=K.isList;obtain rfl:c=.type "list" := P;obtain rfl:S=.seq a.toArray n:=O;have k:=r.length
 rw[Ab]at k L;have N:=(Ad.mp C).1
 have hn:=kK
 have d:∀m (f:m<a.length),∃y t,g[m]?=some y/\a[m]=.str y t:=λm f=>by
  have b:m<g.length:=by ((try clear L N hn);omega)
  obtain⟨u,A,t,J⟩:=r.get (show (g.map V.str)[m]?=some (.str g[m]) by rw[Ag,Aa b];rfl)
  rw[Aa f]at A;cases A;exact⟨g[m],t,Aa b,J⟩
 refine Fw Gh ⟨_,B,rfl⟩ PySem.F.entry_list_index (PySem.F.args_list_index_2 _ _) (SeqAt.list_indexAt p a.toArray n T D (.str z w) (IL z) j (by rw[Ba];((try clear L hn);omega)) (by omega) ?_ ?_) ⟨B,λy i=>?_,⟨.int j,H,I.tok _,⟨_,rfl⟩,q⟩⟩
 .obtain⟨y,t,i,e⟩:=d j (by ((try clear L hn);omega))
  rw[C]at i;cases i;rw[Ha,e];exact Fe _
 .intro m f o;have b:m<a.length:=by rw[Ba]at f;exact f
  obtain⟨y,t,i,e⟩:=d m b;rw[Ha,e];exact Dc.mpr (R m y o i)
 .have l:y∈a:=by simpa using i
  obtain⟨m,f,rfl⟩:=Bv.mp l;obtain⟨y,t,_,e⟩:=d m f;rw[e];exact SeqAt.EqAt.str_str y t z w
def Iw{ss:List Str}(e:Z4 H p=some (ss.map V.str))(a:ss[j]?=some z)(b:∀i y,i<j->ss[i]?=some y->y≠z)(h:Q (.int (j:Int)) H):OY (.ref p) [.str z] H Q:=⟨p,ss,z,j,rfl,rfl,e,a,b,h⟩
def aP(i:Nat){a:Pos}(g:X.N.Nodup)(f:PE X e te)(c:X.N[i]?=some x:=by rfl)(b:Loc X.env.scope x:=by first|exact Or.inl rfl|exact Or.inr rfl)(hs:swapsWith e (some (.Name x a)) pos.line X.env=pure false:=by rfl)(d:X.fn x=true\/X.env.scope.names.lookup x=some .local:=by first|exact Or.inl rfl|exact Or.inr rfl):PS X (.Assign [.Name x a] e pos) (Vp te (mX i)):=SE g c b f hs d
def FH(B:X.A.units+64<cLine):ZK X (compareOp .Eq) (S0 false):=by
 intro w s U H x y v u Q I f e h;obtain⟨n,p,q,z,t,C,rfl,rfl,m,l,o,r,k⟩:=h;cases f;cases e;exact(S7 I m l o (λj d c u v i g b a=>OR I n X.A.in1 d c u v (r j d c i g) b a (by show X.A.units+1+n<cLine;((try clear o);omega))) (by ((try clear C o);omega)) _ _).1 ⟨.bl true,H,I,rfl,k⟩
def OA(d:TE):TE:=λU H Q=>d U H (fE λp a=>(∃c,a p=some (.lst c)/\Q .non (upd a p (.lst [])))\/∃b,a p=some (.dK b)/\Q .non (upd a p (.dK [])))
def E5(h:to U H (fE λp a=>(∃c,a p=some (.lst c)/\Q .non (upd a p (.lst [])))\/∃b,a p=some (.dK b)/\Q .non (upd a p (.dK [])))):OA to U H Q:=h
def KC{o:Expr}(n:PE X o to)(b:attributeBase o "clear" X.env (eval o X.env)=eval o X.env:=by rfl)(a:(apos.endLine==cpos.line)=true:=by rfl):PE X (.Call (.Attribute o "clear" apos) [] [] cpos) (OA to):=by
 intro e s U H Q I h;refine Ho b a (ZY (n e s U H _ I h) λv i μ=>?_);obtain⟨x,l,d,c,q⟩:=μ;unfold fE at q;split at q
 .rcases q with⟨p,j,q⟩|⟨m,k,q⟩
  .obtain⟨g,f⟩:=Sb (T := "list") d c (xO (K:=X.K) (P:=True) (by unfold yL;simp only[aM j];exact⟨trivial,trivial⟩)).1
   exact⟨"list",_,Bg,Ht,Hv,g,f,Du rfl (Hi (RS e i U l _ [] _ [] Q d c .nil (Rr (bL j) q)))⟩
  .obtain⟨g,f,_⟩:=R1 d (RZ (kC k));cases _root_.id c;exact⟨"dict",_,Gg,Hq,PySem.F.type_dict_clear,g,f,Du rfl (Hi (Ro e i U l _ [] _ [] Q d c .nil (QP k q)))⟩
 simp_all
end L2
namespace Mine
open PySem L2
variable {C Pt Z0 Zs Zt Zu Zv Zw Zx Zy Zz a b dd dx f hg p r s0 st u x y:Addr}{F cs cw fs js ks os:List Nat}{H H':Hp}{T cws cws':Q6}{TB TC:List (Option Int)}{bk:List (Str×Str)}{bs dps ds l ps:List Addr}{d g i j k:Nat}{f0:Nat->Option Int}{fd:FuncData}{h:Option (List Nat)}{hs:Q4}{kvs:List (Key×V)}{mg:Q5}{mss:List (Q6)}{n:Nat->Int}{o:HO}{us xs:List V}{v:V}{z:Str}{zs:List Str}{α β:Type}
theorem r0:1<=sizeLine:=by decide
theorem za0:2<=sizeLine:=by decide
theorem za1:3<=sizeLine:=by decide
local macro_rules|`(tactic|fail $s:str)=>do let i x:=Lean.mkIdent (`_root_++String.toName x);match s.getString.splitOn " " with|"z"::r=>do let a<-r.toArray.mapM λx=>`(tacticSeq|refine $(i x) ?_);`(tactic|with_reducible first $[|$a]*)|["y",x,t]=>`(tactic|((with_reducible refine $(i x) ?sc ?_); (case sc => fail $(Lean.Syntax.mkStrLit t))))|["w",x,t]=>`(tactic|((with_reducible refine' $(i x) ?sc ?_); (case sc => fail $(Lean.Syntax.mkStrLit t))))|["v",x]=>`(tactic|((with_reducible refine' $(i x) ?se ?sn ?_); (case se => fail "rd"); (case sn => exact rfl)))|_=>Lean.Macro.throwUnsupported
local macro_rules | `(tactic| fail "rd") => `(tactic| first | assumption | exact cG | exact dY | exact nH | exact aM (by assumption) | exact bL (by assumption) | (apply aO (aG (by assumption) _); fail "rd"))
local macro_rules | `(tactic| fail "dd") => `(tactic| first | exact kC (by assumption) | exact NQ (by assumption) | exact kC aE | assumption)
local macro_rules | `(tactic| fail "lo") => `(tactic| first | assumption | decide | omega | (simp only [List.length_map,List.length_append,List.length_cons,List.length_nil,Str.length_append]; omega))
local macro_rules | `(tactic| fail "ln") => `(tactic| first | assumption | decide | exact bM (by fail "lo") | exact bG (by fail "lo"))
local macro_rules | `(tactic| fail "ar") => `(tactic| first | assumption | decide | omega | exact ⟨by omega,by omega⟩ | exact Or.inl ⟨by omega,by omega⟩ | exact Or.inr ⟨by omega,by omega⟩ | (dsimp only; done) | (dsimp only; omega))
local macro_rules | `(tactic| fail "g") => `(tactic| repeat' (fail "s"))
local macro_rules | `(tactic| fail "sc") => `(tactic| exact ⟨rfl,rfl,rfl,by decide +kernel,rfl,by decide +kernel,by decide +kernel⟩)
local macro_rules | `(tactic| fail "o") => `(tactic| first | exact Or.inl rfl | exact Or.inr rfl)
local macro_rules | `(tactic| fail "u") => `(tactic| repeat' ((fail_if_success (with_reducible refine gG ?_)); (fail "s")))
local macro_rules|`(tactic|fail "5")=>`(tactic|first|dsimp only)
local macro_rules|`(tactic|fail "4")=>`(tactic|first|fail "y L2.KG dd"|fail "z L2.EI L2.Lx L2.Lp L2.G4 L2.Cn L2.G_ L2.DK L2.BH L2.BB L2.DD L2.FZ L2.Lg L2.DC"|fail "y L2.C9 ln"|fail "z L2.Md L2.GX L2.MH L2.EA L2.MS L2.B3 L2.IP L2.JI L2.AZ L2.MW L2.MM L2.Kz L2.LS L2.Lj L2.J8 L2.IE")
local macro_rules|`(tactic|fail "3")=>`(tactic|first|with_reducible refine A6 ?_|((with_reducible refine' Pz ?se ?sf ?sl ?_); (case se => fail "rd"); (case sf => fail "rd"); (case sl => fail "ln"))|fail "w L2.Rr rd"|fail "z L2.D_ L2.Nk L2.BS L2.Nu L2.Mp L2.E_ L2.K9"|fail "v L2.Jk"|fail "z L2.Na L2.Jp L2.Nm L2.J4 L2.Jn L2.La L2.EF L2.Jm L2.FT")
local macro_rules|`(tactic|fail "2")=>`(tactic|first|fail "y L2.Ls ln"|fail "w L2.JQ rd"|fail "w L2.J5 rd"|fail "z L2.AV L2.DL L2.D5 L2.FD L2.D7 L2.KA L2.IW L2.GU L2.Jt"|fail "w L2.Dl rd"|((with_reducible refine' IZ ?se ?sl ?_); (case se => fail "rd"); (case sl => fail "ln")))
local macro_rules|`(tactic|fail "1")=>`(tactic|first|fail "z L2.GI L2.GY L2.M_ L2.BJ L2.L3 L2.Kg L2.JH L2.Iy L2.LP L2.A7"|fail "y L2.Mi ar"|with_reducible refine B8 ?_|fail "y L2.A3 ln"|fail "z L2.Me L2.B4 L2.Kw L2.Js L2.Nj L2.DM"|fail "w L2.HP rd")
local macro_rules|`(tactic|fail "0")=>`(tactic|first|fail "z L2.gG L2.C6 L2.LQ L2.E6 L2.CN L2.Kt L2.M7 L2.RN L2.DO"|((with_reducible refine' JE ?sv ?_); (case sv => exact rfl))|fail "z L2.CQ L2.GS L2.Lq L2.Ex L2.L0 L2.AQ L2.CI L2.HW L2.CU L2.JS L2.CJ L2.HL"|fail "w L2.Ny rd")
local macro_rules|`(tactic|fail "s")=>`(tactic|first|fail "0"|fail "1"|fail "2"|fail "3"|fail "4"|fail "5")
noncomputable def top(i:Nat):Stmt:=PySem.Challenge.pw_flaglocker_k59_towers_apart.main.body.getD i (.Pass ⟨0,0,0,0⟩)
noncomputable abbrev sF:Stmt:=top 81
noncomputable abbrev vR:Stmt:=top 82
noncomputable abbrev uV:Stmt:=top 84
noncomputable abbrev iU:Stmt:=top 83
noncomputable abbrev rP:Stmt:=top 85
noncomputable abbrev lH:Stmt:=top 80
noncomputable abbrev iM:Stmt:=top 45
noncomputable abbrev kL:Stmt:=oP (top 78) 0
noncomputable abbrev fQ:Stmt:=oP (top 78) 2
noncomputable abbrev iD:Stmt:=oP (top 78) 3
noncomputable abbrev mZ:Stmt:=oP (top 78) 4
noncomputable abbrev rL:Stmt:=top 5
noncomputable abbrev kP:Stmt:=top 9
noncomputable abbrev eT:Stmt:=top 11
noncomputable abbrev oY:Stmt:=top 12
noncomputable abbrev kZ:Stmt:=top 13
noncomputable abbrev sJ:Stmt:=top 6
noncomputable abbrev nA:Stmt:=top 40
noncomputable abbrev pD:Stmt:=top 41
noncomputable abbrev qZ:Stmt:=top 42
noncomputable abbrev hU:Stmt:=oP (top 78) 5
noncomputable abbrev sK:Stmt:=top 88
noncomputable abbrev wL:Stmt:=top 86
noncomputable abbrev xQ:Stmt:=top 47
noncomputable abbrev kF:Stmt:=top 50
noncomputable abbrev gZ:Stmt:=top 49
noncomputable abbrev lA:Stmt:=top 53
noncomputable abbrev mC:Stmt:=top 51
noncomputable abbrev gU:Stmt:=top 54
noncomputable abbrev kQ:Stmt:=top 55
noncomputable abbrev lP:Stmt:=oP (top 18) 0
noncomputable abbrev eW:Stmt:=top 56
noncomputable abbrev pL:Stmt:=top 62
noncomputable abbrev iB:Stmt:=top 71
noncomputable abbrev kW:Stmt:=oP (top 17) 0
noncomputable abbrev Td:Stmt:=top 46
noncomputable abbrev rX:Stmt:=top 28
noncomputable abbrev fN:Stmt:=top 29
noncomputable abbrev oQ:Stmt:=top 32
noncomputable abbrev jJ:Stmt:=top 33
noncomputable abbrev gE:Stmt:=top 34
noncomputable abbrev eU:Stmt:=top 35
noncomputable abbrev dS:Stmt:=top 37
noncomputable abbrev pJ:Stmt:=top 38
noncomputable abbrev gW:Stmt:=top 76
noncomputable abbrev eY:Stmt:=top 69
noncomputable abbrev dR:Stmt:=top 59
noncomputable abbrev rN:Stmt:=top 63
noncomputable abbrev gD:Stmt:=top 61
noncomputable abbrev qX:Stmt:=top 57
noncomputable abbrev gX:Stmt:=top 64
noncomputable abbrev lJ:Stmt:=top 65
noncomputable abbrev uW:Stmt:=top 66
noncomputable abbrev rZ:Stmt:=top 7
noncomputable abbrev kJ:Stmt:=top 10
noncomputable abbrev jE:Stmt:=oP (top 21) 0
noncomputable abbrev iY:Stmt:=top 72
noncomputable abbrev iG:Stmt:=top 73
noncomputable abbrev gS:Stmt:=top 70
noncomputable abbrev jO:Stmt:=top 74
noncomputable abbrev jC:Stmt:=top 75
noncomputable abbrev jG:Stmt:=top 77
noncomputable abbrev pK:Stmt:=oP (top 78) 1
noncomputable abbrev uJ:Stmt:=top 87
noncomputable abbrev mL:Stmt:=top 89
noncomputable abbrev jL:Stmt:=oP (top 78) 6
noncomputable abbrev uY:Stmt:=top 90
structure P7 (K:W.Frag) (Zs Zz Zt Zx Z0 Zw Zy Zu Zv:Addr):Prop where
 Wj:W.exmOne K (.ref Zs) (.ref Zs)=some true
 WJ:W.exmOne K (.ref Zs) (.ref Zz)=some true
 Xk:W.exmOne K (.ref Zt) (.ref Zz)=some true
 XA:W.exmOne K (.ref Zv) (.ref Zz)=some true
 Yp:W.exmOne K (.ref Zy) (.ref Zz)=some true
 Xz:W.excIn K Zx [.type "ValueError",.type "Exception",.type "BaseException",.type "object"] "ValueError.__new__"=true
 x_NoDeed:W.excIn K Zw [.type "ValueError",.type "Exception",.type "BaseException",.type "object"] "ValueError.__new__"=true
 x_NoHalyard:W.excIn K Zy [.type "ValueError",.type "Exception",.type "BaseException",.type "object"] "ValueError.__new__"=true
 x_NoFlag:W.excIn K Zv [.type "ValueError",.type "Exception",.type "BaseException",.type "object"] "ValueError.__new__"=true
 t1_TowerError:W.specialIn K (.ref Zz) "__getattribute__"=some (some (.builtin "type.__getattribute__"))
 t2_TowerError:W.readsIn K Zz (.type "type")=true
 t3_TowerError:W.findCls K (.ref Zz) (.type "type") "__init__"=some (.val (.builtin "ValueError.__init__"))
 xo_Lack:Ww K Zs [.type "ValueError",.type "Exception",.type "BaseException",.type "object"] "ValueError.__new__"=true
 xk_Lack:W.keepIn K (.ref Zs)=true
 xe1_Lack:W.hasDictIn K Zs=true
 xe2_Lack:W.findIn K (.ref Zs) "__getattribute__"=some (some (.builtin "BaseException.__getattribute__"))
 xe3_Lack:W.findIn K (.ref Zs) "__getattr__"=some none
 xe4_Lack:W.findIn K (.ref Zs) "__class__"=some (some (.builtin "object.__class__"))
 xe5_Lack:W.specialIn K (.builtin "object.__class__") "__get__"=some (some (.builtin "getset_descriptor.__get__"))
 xe6_Lack:W.takesIn K (.builtin "object.__class__")=some true
 xe7_Lack:W.mroIn K Zs (.type "object")=some true
 xe8_Lack:W.subIn K (.ref Zs) (.type "BaseException")=some true
 xs_Lack:W.findIn K (.ref Zs) "__setattr__"=some (some (.builtin "object.__setattr__"))
 xr_Lack:T5 K Zs Zz=true
 xv_Lack:W.subIn K (.ref Zs) (.type "ValueError")=some true
 xn_Lack_wants:W.findIn K (.ref Zs) "wants"=some none
 xn_Lack_flags:W.findIn K (.ref Zs) "flags"=some none
 xo_Short:Ww K Zt [.type "ValueError",.type "Exception",.type "BaseException",.type "object"] "ValueError.__new__"=true
 xk_Short:W.keepIn K (.ref Zt)=true
 xe1_Short:W.hasDictIn K Zt=true
 xe2_Short:W.findIn K (.ref Zt) "__getattribute__"=some (some (.builtin "BaseException.__getattribute__"))
 xe3_Short:W.findIn K (.ref Zt) "__getattr__"=some none
 xe4_Short:W.findIn K (.ref Zt) "__class__"=some (some (.builtin "object.__class__"))
 xe5_Short:W.specialIn K (.builtin "object.__class__") "__get__"=some (some (.builtin "getset_descriptor.__get__"))
 xe6_Short:W.takesIn K (.builtin "object.__class__")=some true
 xe7_Short:W.mroIn K Zt (.type "object")=some true
 xe8_Short:W.subIn K (.ref Zt) (.type "BaseException")=some true
 xs_Short:W.findIn K (.ref Zt) "__setattr__"=some (some (.builtin "object.__setattr__"))
 xr_Short:T5 K Zt Zz=true
 xv_Short:W.subIn K (.ref Zt) (.type "ValueError")=some true
 xn_Short_flag:W.findIn K (.ref Zt) "flag"=some none
 xo_NoWord:Ww K Zu [.type "ValueError",.type "Exception",.type "BaseException",.type "object"] "ValueError.__new__"=true
 xk_NoWord:W.keepIn K (.ref Zu)=true
 xe1_NoWord:W.hasDictIn K Zu=true
 xe2_NoWord:W.findIn K (.ref Zu) "__getattribute__"=some (some (.builtin "BaseException.__getattribute__"))
 xe3_NoWord:W.findIn K (.ref Zu) "__getattr__"=some none
 xe4_NoWord:W.findIn K (.ref Zu) "__class__"=some (some (.builtin "object.__class__"))
 xe5_NoWord:W.specialIn K (.builtin "object.__class__") "__get__"=some (some (.builtin "getset_descriptor.__get__"))
 xe6_NoWord:W.takesIn K (.builtin "object.__class__")=some true
 xe7_NoWord:W.mroIn K Zu (.type "object")=some true
 xe8_NoWord:W.subIn K (.ref Zu) (.type "BaseException")=some true
 xs_NoWord:W.findIn K (.ref Zu) "__setattr__"=some (some (.builtin "object.__setattr__"))
 xr_NoWord:T5 K Zu Zz=true
 xv_NoWord:W.subIn K (.ref Zu) (.type "ValueError")=some true
 xn_NoWord_at:W.findIn K (.ref Zu) "at"=some none
 cl1_Tower:W.plainGet K Z0 Str.empty=true
 cl2_Tower:W.hasDictIn K Z0=true
 cl3_Tower:W.plainOver K Z0=true
 cl4_Tower:W.findIn K (.ref Z0) "__setattr__"=some (some (.builtin "object.__setattr__"))
 mk1_Tower:W.makesIn K Z0=true
 mk2_Tower:W.keepIn K (.ref Z0)=true
 na_Tower_book:W.findIn K (.ref Z0) "book"=some none
 na_Tower_many:W.findIn K (.ref Z0) "many"=some none
 na_Tower_stock_at_first:W.findIn K (.ref Z0) "stock_at_first"=some none
 na_Tower_stock:W.findIn K (.ref Z0) "stock"=some none
 na_Tower_hung:W.findIn K (.ref Z0) "hung"=some none
 na_Tower_deeds:W.findIn K (.ref Z0) "deeds"=some none
structure Gs (K:W.Frag) (mg:Str->Option Value) (w:World) (Zs Zz Zt Zx Z0 Zw Zy Zu Zv:Addr):Prop extends P7 K Zs Zz Zt Zx Z0 Zw Zy Zu Zv where
 XR:mg "Lack"=some (.ref Zs)
 c_TowerError:mg "TowerError"=some (.ref Zz)
 c_Short:mg "Short"=some (.ref Zt)
 c_NoHoist:mg "NoHoist"=some (.ref Zx)
 c_Tower:mg "Tower"=some (.ref Z0)
 c_NoDeed:mg "NoDeed"=some (.ref Zw)
 c_NoHalyard:mg "NoHalyard"=some (.ref Zy)
 c_NoWord:mg "NoWord"=some (.ref Zu)
 c_NoFlag:mg "NoFlag"=some (.ref Zv)
 d_THINGS_IN:P_ w K mg "THINGS_IN" [("haul",3),("lower",2),("lose",2),("find",2),("say",2)]
 b_range:mg "range"=none
 b_enumerate:mg "enumerate"=none
 b_sum:mg "sum"=none
 b_len:mg "len"=none
 b_list:mg "list"=none
 b_int:mg "int"=none
 b_all:mg "all"=none
 b_min:mg "min"=none
 b_max:mg "max"=none
 b_zip:mg "zip"=none
 b_dict:mg "dict"=none
 s_FLAGS:∃t,mg "FLAGS"=some (.str "abcdefghijklmnopqrstuvw1234" t)
 s_LETTERS:∃t,mg "LETTERS"=some (.str "abcdefghijklmnopqrstuvw" t)
 s_SUBSTITUTES:∃t,mg "SUBSTITUTES"=some (.str "1234" t)
 s_MOST_PLACES:∃t,mg "MOST_PLACES"=some (.int 7 t)
 s_LONGEST_TERM:∃t,mg "LONGEST_TERM"=some (.int 10 t)
 s_TERM_LETTERS:∃t,mg "TERM_LETTERS"=some (.str "abcdefghijklmnopqrstuvwxyz" t)
 s_MOST_TERMS:∃t,mg "MOST_TERMS"=some (.int 40 t)
 s_MOST_OF_A_FLAG:∃t,mg "MOST_OF_A_FLAG"=some (.int 99 t)
def Gs.Yi(G:Gs K mg w Zs Zz Zt Zx Z0 Zw Zy Zu Zv):Xr K Zs:=⟨G.xe1_Lack,G.xe2_Lack,G.xe3_Lack,G.xe4_Lack,G.xe5_Lack,G.xe6_Lack,G.xe7_Lack,G.xe8_Lack⟩
def Gs.Yr(G:Gs K mg w Zs Zz Zt Zx Z0 Zw Zy Zu Zv):VW K Zs Zz:=⟨G.Yi,G.xs_Lack,SK G.xr_Lack,G.xv_Lack⟩
def Gs.XO(G:Gs K mg w Zs Zz Zt Zx Z0 Zw Zy Zu Zv):Vw K Zs:=⟨G.xo_Lack,G.xk_Lack⟩
def Gs.Xj(G:Gs K mg w Zs Zz Zt Zx Z0 Zw Zy Zu Zv):Xr K Zt:=⟨G.xe1_Short,G.xe2_Short,G.xe3_Short,G.xe4_Short,G.xe5_Short,G.xe6_Short,G.xe7_Short,G.xe8_Short⟩
def Gs.X5(G:Gs K mg w Zs Zz Zt Zx Z0 Zw Zy Zu Zv):VW K Zt Zz:=⟨G.Xj,G.xs_Short,SK G.xr_Short,G.xv_Short⟩
def Gs.W_(G:Gs K mg w Zs Zz Zt Zx Z0 Zw Zy Zu Zv):Vw K Zt:=⟨G.xo_Short,G.xk_Short⟩
def Gs.XE(G:Gs K mg w Zs Zz Zt Zx Z0 Zw Zy Zu Zv):Xr K Zu:=⟨G.xe1_NoWord,G.xe2_NoWord,G.xe3_NoWord,G.xe4_NoWord,G.xe5_NoWord,G.xe6_NoWord,G.xe7_NoWord,G.xe8_NoWord⟩
def Gs.Yv(G:Gs K mg w Zs Zz Zt Zx Z0 Zw Zy Zu Zv):VW K Zu Zz:=⟨G.XE,G.xs_NoWord,SK G.xr_NoWord,G.xv_NoWord⟩
def Gs.Xy(G:Gs K mg w Zs Zz Zt Zx Z0 Zw Zy Zu Zv):Vw K Zu:=⟨G.xo_NoWord,G.xk_NoWord⟩
def Gs.Z6(G:Gs K mg w Zs Zz Zt Zx Z0 Zw Zy Zu Zv):Yd K Z0:=⟨G.cl1_Tower,G.cl2_Tower,G.cl3_Tower,G.cl4_Tower⟩
noncomputable abbrev Z5:Str := "abcdefghijklmnopqrstuvw"
noncomputable abbrev YD:Str := "1234"
noncomputable abbrev ZW:Str := "abcdefghijklmnopqrstuvw1234"
noncomputable abbrev one(c:Nat):Str:=⟨#[c]⟩
def FU:YD.cps.toList=[49,50,51,52]:=by decide
def BG:ZW.cps.toList=Z5.cps.toList++YD.cps.toList:=by decide
def aX(c:Nat):Prop:=97<=c/\c<=119
def eC(c:Nat):Prop:=49<=c/\c<=52
noncomputable instance (c:Nat):Decidable (aX c):=inferInstanceAs (Decidable (_/\_))
noncomputable instance (c:Nat):Decidable (eC c):=inferInstanceAs (Decidable (_/\_))
def ZP:c∈Z5.cps.toList ↔ aX c:=by
 have b:∀c∈Z5.cps.toList,aX c:=by decide +kernel
 have a:∀k:_root_.Fin 23,97+k.val∈Z5.cps.toList:=by decide +kernel
 refine⟨b c,λh=>?_⟩;have e:=a ⟨c-97,by have:=h.1;have:=h.2;omega⟩
 rwa [show 97+(c-97)=c by have:=h.1;omega]at e
def YH:c∈YD.cps.toList ↔ eC c:=by
 have b:∀c∈YD.cps.toList,eC c:=by decide +kernel
 have a:∀k:_root_.Fin 4,49+k.val∈YD.cps.toList:=by decide +kernel
 refine⟨b c,λh=>?_⟩;have e:=a ⟨c-49,by have:=h.1;have:=h.2;omega⟩
 rwa [show 49+(c-49)=c by have:=h.1;omega]at e
def zA:c∈ZW.cps.toList ↔ aX c\/eC c:=by
 rw[BG,Bk,ZP,YH]
def mS(h:aX c):¬eC c:=λz=>by unfold aX at h;unfold eC at z;omega
def xL(c:Nat):subIn (one c) YD=decide (eC c):=by
 rw[nI];exact Eh.mpr YH
def eZ(z:Str):z.cps.toList.length=z.length:=by simp[Str.length]
def vK(h:z.length=1):∃c,z=one c:=by
 obtain⟨⟨l⟩⟩:=z
 match l,h with
 |[c],_=>exact⟨c,rfl⟩
noncomputable def fX(z:Str):Bool:=if z.length=1 then subIn z ZW else false
def sR(h:z.length≠1):fX z=false:=if_neg h
def oR:fX (one c)=decide (aX c\/eC c):=by
 unfold fX;rw[if_pos (by rfl),nI]
 exact Eh.mpr zA
def LH(h:fX z=true):∃c,z=one c/\(aX c\/eC c):=by
 by_cases a:z.length=1
 .obtain⟨c,rfl⟩:=vK a;rw[oR]at h;exact⟨c,rfl,Az h⟩
 .rw[sR a]at h;cases h
def mG(c:Nat)(p:Int):Prop:=aX c\/(eC c/\(c:Int)-48<p)
noncomputable instance (c:Nat) (p:Int):Decidable (mG c p):=inferInstanceAs (Decidable (_\/_))
noncomputable def dI(z:Str)(p:Int):Bool:=if z.length=1 then decide (mG (z.cps.toList.headD 0) p) else false
def qA{p:Int}:dI (one c) p=decide (mG c p):=rfl
def yP{p:Int}(h:dI z p=true):∃c,z=one c/\mG c p:=by
 by_cases a:z.length=1
 .obtain⟨c,rfl⟩:=vK a;exact⟨c,rfl,Az h⟩
 .unfold dI at h;grind
noncomputable def dF(a:List Str):Bool:=if a.length<1\/7<a.length then false else (List.range a.length).all λi=>dI (a.getD i ⟨#[]⟩) ((1+i:Nat):Int)
def fG(h:dF zs=true):1<=zs.length/\zs.length<=7:=by
 unfold dF at h;grind
def EV(h:dF zs=true)(a:i<zs.length):dI (zs.getD i ⟨#[]⟩) ((1+i:Nat):Int)=true:=by
 unfold dF at h;simp_all
noncomputable def VJ(w:List Nat)(c:Nat):Nat:=if eC c then w.getD (c-49) 0 else c
noncomputable def YU(fs:List Nat):List Nat:=fs.foldl (λw c=>w++[VJ w c]) []
def Mj(fs:List Nat)(c:Nat):YU (fs++[c])=YU fs++[VJ (YU fs) c]:=by
 unfold YU;simp_all
def uM(h:fs[i]?=some c):YU (fs.take (i+1))=YU (fs.take i)++[VJ (YU (fs.take i)) c]:=by
 rw[Be,h];exact Mj _ _
def Tq:∀a,(YU a).length=a.length:=by
 intro a;have h:∀i,i<=a.length->(YU (a.take i)).length=i:=by
  intro i;induction i with
  |zero=>intro _;rfl
  |succ i b=>
   intro c;rw[uM (Aa (by (assumption))),Af,b (by (exact Nat.le_of_lt (by assumption)))]
   rfl
 have q:=h a.length (Ai _)
 rwa [Cf]at q
def qH(h:i<=fs.length):(YU (fs.take i)).length=i:=by
 rw[Tq,Bt];omega
noncomputable def aV(cs:List Nat):Str:=⟨cs.toArray⟩
def cU(cs:List Nat):(aV cs).length=cs.length:=by show cs.toArray.size=_;simp
def cS(cs:List Nat):(aV cs).cps.toList=cs:=rfl
def jQ(cs:List Nat)(c:Nat):aV cs++one c=aV (cs++[c]):=FlT.YR (by rw[FlT.Yk];rfl)
def P0{a b:List Nat}(h:aV a=aV b):a=b:=Dp (λz=>z.cps.toList) h
noncomputable def mP(z:Str):Nat:=z.cps.toList.headD 0
def KZ(cs:List Nat):(cs.map one).map mP=cs:=by
 rw[Cd];exact List.map_id cs
def xH(h:dF zs=true)(a:zs[i]?=some z):∃c,z=one c/\(zs.map mP)[i]?=some c/\(aX c\/(eC c/\c-49<i)):=by
 have f:=(Ad.mp a).1
 have q:=EV h f
 rw[Ac,a]at q;obtain⟨c,e,d⟩:=yP q;have b:z=one c:=e
 refine⟨c,b,by rw[Ag,a,b];rfl,?_⟩
 rcases d with l|⟨s,l⟩
 .exact .inl l
 .refine .inr ⟨s,?_⟩;unfold eC at s;((try clear f);omega)
noncomputable def oF(a:List Str):Str:=aV (YU (a.map mP))
noncomputable def Te(z:Str):Bool:=z.cps.toList.all λc=>decide (c∈Z5.cps.toList)
noncomputable def pI(z:Str):Bool:=if z.length<1\/7<z.length then false else Te z
def kU(f:α->β):∀l:List α,l.filterMap (λx=>some (f x))=l.map f
 |[]=>rfl
 |x::r=>by simp_all
def jT{f g:α->Option β}:∀ {l:List α},(∀x∈l,f x=g x)->l.filterMap f=l.filterMap g
 |[],_=>rfl
 |x::r,h=>by rw[Ey,Ey,h x Al,jT λy a=>h y (Ak _ a)]
def one_inj{a b:Nat}:one a=one b ↔ a=b:=⟨λh=>by grind,λh=>by rw[h]⟩
def Rb(a b:Nat):decide (one a=one b)=decide (a=b):=Eh.mpr one_inj
def HC(h:k<cw.length):YY (aV cw).cps.toList ((k:Nat):Int)=some (cw.getD k 0):=by
 refine aW ?_;rw[cS,Ac,Aa h];rfl
def Ko(h:k<23):YY Z5.cps.toList ((k:Nat):Int)=some (97+k):=by
 refine aW ?_;have q:∀k:_root_.Fin 23,Z5.cps.toList[k.val]?=some (97+k.val):=by decide +kernel
 exact q ⟨k,h⟩
def GW{k:Int}(h:0<=k):kS xs none (some k)=xs.take k.toNat:=by
 show (xs.drop 0).take ((if k<0 then (k+_).toNat else min k.toNat xs.length)-0)=_
 grind
def DA(cs:List Nat):∀z∈cs.map one,z.length<=1000:=λz a=>by
 obtain⟨c,_,rfl⟩:=Bb.mp a;show 1<=1000
 decide
def NG{ns:List Int}{i:Int}(c:0<=i)(h:i<ns.length):∃n,n∈ns/\YY (ns.map V.int) i=some (.int n):=by
 obtain⟨v,b,a⟩:=B6 (xs:=ns.map V.int) (i:=i) c (by rw[Ab];exact h)
 grind
def AY{ns:List Int}{x:V}(h:(ns.map V.int)[j]?=some x):∃n,n∈ns/\x=V.int n:=by
 obtain⟨n,a,e⟩:=Bb.mp (Am h);exact⟨n,a,e.symm⟩
def iK{ns:List Str}{x:V}(h:(ns.map V.str)[j]?=some x):∃n,ns[j]?=some n/\x=V.str n:=by
 rw[Ag]at h;cases e:ns[j]? with
 |none=>rw[e]at h;cases h
 |some n=>rw[e]at h;cases h;exact⟨n,rfl,rfl⟩
def uD(h:eC c):PySem.intText? (one c)=some ((c:Int)-48):=by
 unfold eC at h;have:c=49\/c=50\/c=51\/c=52:=by omega
 rcases this with rfl|rfl|rfl|rfl<;>decide +kernel
def dD(a:List Str):(a.map V.str).all cA=true:=by
 rw[Bz];intro x b;obtain⟨z,_,rfl⟩:=Bb.mp b;rfl
def CA(d:1<=fs.length)(c:fs.length<=7)(h:∀k,k<fs.length->mG (fs.getD k 0) ((1+k:Nat):Int)):dF (fs.map one)=true:=by
 unfold dF;rw[Ab,if_neg (by omega),Bz]
 intro i b;have a:=Bu.mp b
 rw[Ac,Ag,Aa a];have q:=h i a
 rw[Ac,Aa a]at q;exact Ao q
noncomputable def VT(cw:List Nat)(k n:Nat):Option Nat:=if cw.getD n 0=cw.getD k 0 then some (49+n) else none
noncomputable def Xm(cw:List Nat)(k:Nat):List Nat:=cw.getD k 0::(List.range (min k 4)).filterMap (VT cw k)
def XU:c∈Xm cw k ↔ c=cw.getD k 0\/∃n,n<k/\n<4/\cw.getD n 0=cw.getD k 0/\c=49+n:=by
 unfold Xm;rw[Bc,Cq];constructor
 .rintro(h|⟨n,hn,h⟩)
  .exact .inl h
  .have:=Bu.mp hn
   unfold VT at h;grind
 .rintro(h|⟨n,h1,h2,h3,rfl⟩)
  .exact .inl h
  .exact .inr ⟨n,Bu.mpr (by ((try clear h3);omega)),if_pos h3⟩
def DW(cw:List Nat)(k:Nat):1<=(Xm cw k).length/\(Xm cw k).length<=5:=by
 unfold Xm;grind
def B0(a:aX (cw.getD k 0))(h:c∈Xm cw k):mG c ((1+k:Nat):Int):=by
 rcases XU.mp h with rfl|⟨n,d,b,_,rfl⟩
 .exact .inl a
 .exact .inr ⟨⟨by ((try clear d);omega),by ((try clear d);omega)⟩,by ((try clear b);omega)⟩
def mK(b:∀d∈cw,aX d)(a:k<cw.length):aX (cw.getD k 0):=by simp_all
def EM(b:∀d∈cw,aX d)(e:1<=fs.length)(c:fs.length<=7)(f:fs.length<=cw.length)(h:∀k,k<fs.length->fs.getD k 0∈Xm cw k):dF (fs.map one)=true:=
 CA e c λk a=>B0 (mK b (by ((try clear c e);omega))) (h k a)
def Cw(h:aX c):Builtin.Str.occurrences Z5 (one c) 0 Z5.length 1=[c-97]:=by
 have q:∀k:_root_.Fin 23,Builtin.Str.occurrences Z5 (one (97+k.val)) 0 Z5.length 1=[k.val]:=by decide +kernel
 unfold aX at h;have e:=q ⟨c-97,by omega⟩
 grind
noncomputable def jU(cs:List Nat)(n:Nat):Int:=((List.range n).map λi=>((1+i:Nat):Int)*((cs.getD i 0-97:Nat):Int)).sum
def jP(cs:List Nat)(n:Nat):jU cs (n+1)=jU cs n+((1+n:Nat):Int)*((cs.getD n 0-97:Nat):Int):=by
 unfold jU;rw[Cm,Ap,List.sum_append];simp
def pM{cs ds:List Nat}:∀ {n:Nat},(∀i,i<n->cs.getD i 0=ds.getD i 0)->jU cs n=jU ds n
 |0,_=>rfl
 |n+1,h=>by rw[jP,jP,pM λi a=>h i (by omega),h n (by omega)]
def N1{cs ds:List Nat}{k:Nat}:∀ {n:Nat},k<n->(∀i,i<n->i≠k->cs.getD i 0=ds.getD i 0)->
 jU ds n=jU cs n+((1+k:Nat):Int)*(((ds.getD k 0-97:Nat):Int)-((cs.getD k 0-97:Nat):Int))
 |n+1,h,hh=>by
  rw[jP,jP];by_cases e:k=n
  .subst e;rw[pM   λi a=>(hh i (by ((try clear h);omega)) (by (exact Nat.ne_of_lt (by assumption)))).symm,Int.mul_sub]
   ((try clear h);omega)
  .rw[N1   (by omega) λi a=>hh i (by ((try clear e h);omega)),hh n (by ((try clear e h);omega)) (λz=>e z.symm)]
   ((try clear e h);omega)
def KR{m x y:Int}(e:k<7)(d:0<=x/\x<23)(c:0<=y/\y<23)(h:m%23=0):(m+((1+k:Nat):Int)*(y-x))%23=0 ↔ y=x:=by
 have q:∀k:_root_.Fin 7,∀x y:_root_.Fin 23,(((1+k.val:Nat):Int)*((y.val:Int)-(x.val:Int)))%23=0 ↔ y.val=x.val:=by decide +kernel
 obtain⟨a,rfl⟩:∃a:Nat,x=(a:Int):=⟨x.toNat,(Hj d.1).symm⟩;obtain⟨b,rfl⟩:∃b:Nat,y=(b:Int):=⟨y.toNat,(Hj c.1).symm⟩;rw[Int.add_emod,h,Int.zero_add,Int.emod_emod];exact(q ⟨k,e⟩ ⟨a,Int.ofNat_lt.mp d.2⟩ ⟨b,Int.ofNat_lt.mp c.2⟩).trans Int.ofNat_inj.symm
noncomputable def hV(cs:List Nat):Bool:=decide (jU cs cs.length%23=0)
noncomputable def Ws(cs:List Nat):Bool:=decide (1<cs.length)&&hV cs
def wX(a:k<cs.length):(cs.set k d).getD i 0=if i=k then d else cs.getD i 0:=by grind
def Rh(e:∀d∈cs,aX d){c:Nat}(b:aX c):∀d∈cs.set k c,aX d:=λd a=>by grind
def xA{k d:Nat}(a:k<cs.length):jU (cs.set k d) cs.length=jU cs cs.length+((1+k:Nat):Int)*(((d-97:Nat):Int)-((cs.getD k 0-97:Nat):Int)):=by
 have e:(cs.set k d).getD k 0=d:=by rw[wX a,if_pos rfl]
 rw[N1 (cs:=cs)   a (λi c b=>by rw[wX a,if_neg b]),e]
def JK(g:cs.length<=7)(f:∀d∈cs,aX d){k d:Nat}(a:k<cs.length)(e:aX d)(h:hV cs=true):hV (cs.set k d)=decide (d=cs.getD k 0):=by
 unfold hV at h ⊢;have b:=Az h
 have c:=mK f a
 unfold aX at e c;rw[Cy,xA a];refine Eh.mpr ((KR (by ((try clear b c e);omega)) ⟨by (exact Int.natCast_nonneg _),by ((try clear a b e g);omega)⟩ ⟨by (exact Int.natCast_nonneg _),by ((try clear a b c g);omega)⟩ b).trans ?_)
 ((try clear a b g);omega)
def vA(n:cs.length<=7){k:Nat}(h:k<cs.length):∃d,aX d/\hV (cs.set k d)=true:=by
 have q:∀k:_root_.Fin 7,∀m:_root_.Fin 23,∃d:_root_.Fin 23,(m.val+(1+k.val)*d.val)%23=0:=by decide +kernel
 have b:=xA (cs:=cs) (k:=k) (d:=97) h
 have g:=Cz (jU (cs.set k 97) cs.length) (show (23:Int)≠0 by decide)
 have f:=Dh (jU (cs.set k 97) cs.length) (show (0:Int)<23 by decide)
 obtain⟨a,c⟩:∃a:Nat,jU (cs.set k 97) cs.length%23=(a:Int):=⟨_,(Hj g).symm⟩;obtain⟨d,j⟩:=q ⟨k,Bd h n⟩ ⟨a,Int.ofNat_lt.mp (c▸f)⟩;refine⟨97+d.val,⟨Gf ..,Nat.add_le_add_left (Nat.le_of_lt_succ d.isLt) 97⟩,?_⟩;unfold hV;rw[Cy];have e:=xA (cs:=cs) (k:=k) (d:=97+d.val) h
 grind
def Hf(b:∀d∈cs,aX d):(aV cs).cps.all (· < 128)=true:=by
 rw[Array.all_eq_true];intro i a;have c:(aV cs).cps[i]∈cs:=by
  have:=Array.getElem_mem a
  rwa[<-Array.mem_toList_iff]at this
 have:=b _ c
 unfold aX at this;grind
def KH(b:∀d∈cs,aX d)(c:cs.length<=7):pI (aV cs)=decide (1<=cs.length):=by
 unfold pI;rw[cU];by_cases h:1<=cs.length
 .rw[if_neg (by omega),Ao h]
  unfold Te;rw[cS,Bz];intro d a;exact Ao (ZP.mpr (b d a))
 grind
def UW(c:Nat):Prop:=97<=c/\c<=122
def fH(t:List Nat):Prop:=1<=t.length/\t.length<=10/\∀c∈t,UW c
noncomputable abbrev YG:Str := "abcdefghijklmnopqrstuvwxyz"
def ZF(H:Hp)(r:Addr)(c:List (Str×Str)):Prop:=∃a:List Addr,H r=some (.lst (a.map V.ref))/\a.length=c.length/\∀(j:Nat) p b,a[j]?=some p->c[j]?=some b->H p=some (.tup [.str b.1,.str b.2])
def ZF.keep(h:ZF H r bk)(s:Z_ H H'):ZF H' r bk:=by
 obtain⟨a,g,f,e⟩:=h;exact⟨a,s _ _ g,f,λj p b c d=>s _ _ (e j p b c d)⟩
noncomputable def cH(a:List (List Nat)):Str:=Txt.join " " (a.map aV)
structure XW (bk:List (Str×Str)):Prop where
 le:bk.length<=60
 words:(bk.map (·.1)).Nodup
 means:(bk.map (·.2)).Nodup
 word:∀b∈bk,∃cw:List Nat,b.1=aV cw/\1<=cw.length/\cw.length<=6/\∀d∈cw,aX d
 Sk:∀b∈bk,∃ts:List (List Nat),b.2=cH ts/\1<=ts.length/\ts.length<=5/\∀t∈ts,fH t
def zJ:∀a:List _,(∀t∈a,fH t)->((a.map aV).map (·.length)).sum<=10*a.length
 |[],_=>Ai _
 |t::r,h=>by
  rw[As,As,Cv,Av,cU];have c:=(h t Al).2.1
  have:=zJ r λx b=>h x (Ak _ b)
  omega
def Kd{k:Int}(h:0<=k):kS xs (some k) none=xs.drop k.toNat:=by
 show (xs.drop (if k<0 then (k+_).toNat else min k.toNat xs.length)).take (xs.length-(if k<0 then (k+_).toNat else min k.toNat xs.length))=_
 rw[if_neg (by omega)]
 by_cases a:k.toNat<=xs.length
 .rw[Fo a,Bi (by simp_all)]
 .rw[Ff (by ((try clear h);omega)),Ic (by ((try clear a h);omega)),Ic (by ((try clear h);omega)),List.take_nil]
def zU(sep:Array Nat):∀(b:List Str) (a:Array Nat),(b.foldl (λa p=>a++sep++p.cps) a).toList=a.toList++(b.map λy=>sep.toList++y.cps.toList).flatten
 |[],a=>by simp
 |y::r,a=>by
  rw[List.foldl_cons,zU sep r];simp
def QG(sep y:Str)(r:List Str):(Txt.join sep (y::r)).cps.toList=y.cps.toList++(r.map λy=>sep.cps.toList++y.cps.toList).flatten:=by
 have e:=zU sep.cps r y.cps
 rw[<-e];rfl
def BF{a:Q6}(f:a.length<=5)(h:∀t∈a,fH t):(cH a).length<=60:=by
 unfold cH;cases a with
 |nil=>exact Ct _
 |cons t r=>
  have d:∀r:List (List Nat),(∀t∈r,fH t)->((r.map aV).map λy=>(Str.ofString " ").cps.toList++y.cps.toList).flatten.length<=11*r.length:=λr h=>by
   induction r with
   |nil=>exact Ai _
   |cons u v c=>
    rw[As,As,By,Af,Af,Av];have i:=(h u Al).2.1
    have g:=c λx b=>h x (Ak _ b)
    rw[cS];have j:(Str.ofString " ").cps.toList.length=1:=rfl
    ((try clear f);omega)
  have e:=QG " " (aV t) (r.map aV)
  have i:=(h t Al).2.1
  have g:=d r λx b=>h x (Ak _ b)
  rw[<-eZ,As,show Txt.join " " (aV t::r.map aV)=Txt.join " " (aV t::r.map aV) from rfl,e,Af,cS];rw[Av]at f;omega
def UI(K:W.Frag)(d:Addr):Sp:=λc H Q _=>∃(a:Addr) (b:List Int),c=[.ref a]/\ZA K H a (b.map V.int)/\b.length<=63/\H d=some (.tbl #[])/\∀e,Q (.bl true) e
def oX:Sp:=λa H Q _=>∃z,a=[.str z]/\z.length<=1000/\Q (.bl (fX z)) H
def pP:Sp:=λa H Q _=>∃z p,a=[.str z,.int p]/\z.length<=1000/\Q (.bl (dI z p)) H
def sN:Sp:=λd H Q _=>∃a b,d=[.ref a]/\Z4 H a=some (b.map V.str)/\b.length<=1000/\(∀z∈b,z.length<=1000)/\∀c,Z_ H c->Q (.bl (dF b)) c
def pC(e:Addr):Sp:=λd H Q E=>∃a b,d=[.ref a]/\Z4 H a=some (b.map V.str)/\b.length<=1000/\(∀z∈b,z.length<=1000)/\(dF b=true->∀c,Z_ H c->Q (.str (oF b)) c)/\(dF b=false->∀c,Z_ H c->E (.ref e) none c)
def Sr{j:Int}(e:j=(k:Int))(h:k<cw.length):YY (aV cw).cps.toList j=some (cw.getD k 0):=by
 rw[e];exact HC h
def cF{i:Int}(e:H p=some (.tup xs))(b:YY xs i=some v)(h:Q v H):WW (.ref p) (.int i) H Q:=by
 have a:Z4 H p=none:=by unfold Z4;rw[e];rfl
 unfold WW;simp only[a,cW e,b];exact h
section
variable {P:Program} {w:World} {K:W.Frag} {mg:Q5} {base:Heap}
def oI(c:Addr):Sp:=λd H Q _=>∃a v,d=[.ref a,v]/\H a=some (eV a c none)/\∀b,H b=none->Q .non (upd (upd H a (eV a c (some b))) b (YS b [("flag",v)]))
def yF:Z9 ["self", "flag"] ["self", "flag"] (aK kW):=by fail "sc"
variable(G:Gs K mg w Zs Zz Zt Zx Z0 Zw Zy Zu Zv)
def xY(F:ZT K "__init__" "Short.__init__" kW f fd):Z8 P w K mg base ZS 1 f fd ["self", "flag"] (oI Zt):=by
 refine F.ok yF (λd H Q E h=>?_) (λe A a s H d Q E i h=>?_)
 .obtain⟨b,v,rfl,_⟩:=h;rfl
 obtain⟨b,v,rfl,c,q⟩:=h;refine⟨_,(@aD _ _ _ _ _ (bW (vQ rfl G.c_TowerError G.t1_TowerError G.t2_TowerError G.t3_TowerError (aA (mv 0) (aA (mv 1) aB)))) (@aI _ _ _ (tX (mv 0) (mv 1) rfl))),?_⟩;refine⟨b,[v],Zt,Zz,none,rfl,r0,c,(λ_ z=>nomatch z),G.X5,?_⟩
 exact⟨b,Zt,Zz,rfl,G.X5,G.xn_Short_flag,.inl ⟨c,q⟩⟩
def LA{f:Hp}{a:Addr}{i g:HO}(s:Z_ H f)(k:f a=none)(d:upd f a o dx=none):Z_ H (del (upd (upd (upd f a o) a i) dx g) a):=λb u e=>by
 have h:=s b u e
 have c:=bI h k
 have j:b≠dx:=λz=>by rw[<-z,aH c,h]at d;cases d
 rwa[eI c,aH j,aH c,aH c]
def Pa{d:Hp}{a:Addr}{c b:HO}(f:upd d a o dx=none):upd (upd (upd d a o) a c) dx b a=some c/\del (upd (upd (upd d a o) a c) dx b) a dx=some b:=by
 have e:dx≠a:=λz=>by rw[z,aE]at f;cases f
 exact⟨by rw[aH e.symm,aE],by rw[eI e,aE]⟩
structure Lk (kvs:List (Key×V)) (f:Nat->Option Int):Prop where
 nd:(kvs.map (·.1)).Nodup
 ks:∀kv∈kvs,∃(c:Nat) (n:Int),kv=(Sum.inr (one c),V.int n)
 val:∀c,cN kvs (Sum.inr (one c))=(f c).map V.int
def Lk.nil:Lk [] (λ_=>none):=⟨List.nodup_nil,(λa h=>nomatch h),λc=>rfl⟩
def Y8{a b:Nat}:((Sum.inr (one a):Key)=Sum.inr (one b)) ↔ a=b:=⟨λh=>one_inj.mp (Sum.inr.inj h),λh=>by rw[h]⟩
def G9:∀ {l:List α} {k:α},l.Nodup->¬k∈l->(l++[k]).Nodup
 |[],k,_,_=>by simp
 |a::r,k,h,hk=>by
  grind
def Jh{k:Key}(h:cN kvs k=none):¬k∈kvs.map (·.1):=λm=>by
 obtain⟨p,b,e⟩:=Bb.mp m;have q:(kvs.any λa=>decide (a.1=k))=true:=List.any_eq_true.mpr ⟨p,b,Ao e⟩
 rw[fL,h]at q;cases q
def NU(a:List _)(k:Key)(v:V)(h:cN a k≠none):(eK a k v).map (·.1)=a.map (·.1):=by
 unfold eK;have e:(a.any λb=>decide (b.1=k))=true:=by
  rw[fL];cases q:cN a k with
  |none=>exact absurd q h
  |some _=>rfl
 rw[if_pos e,Cd];refine Dz λb _=>?_;grind
def Lk.put{f:Nat->Option Int}(h:Lk kvs f)(c:Nat)(n:Int):Lk (eK kvs (Sum.inr (one c)) (.int n)) (λd=>if d=c then some n else f d) where
 nd:=by
  cases e:cN kvs (Sum.inr (one c)) with
  |none=>rw[mO _ e,Ap];exact G9 h.nd (Jh e)
  |some v=>rw[NU _ _ _ (by rw[e];exact λz=>nomatch z)];exact h.nd
 ks:=λj a=>by
  unfold eK at a;split at a
  .obtain⟨b,k,e⟩:=Bb.mp a;obtain⟨g,i,l⟩:=h.ks b k;subst l;dsimp only at e;split at e
   .exact⟨g,n,e.symm⟩
   .exact⟨g,i,e.symm⟩
  .rcases Bk.mp a with q|q
   .exact h.ks j q
   .exact⟨c,n,Ah.mp q⟩
 val:=λd=>by
  rw[IU];by_cases e:d=c
  .rw[if_pos (Y8.mpr e),if_pos e];rfl
  .rw[if_neg (λz=>e (Y8.mp z)),if_neg e];exact h.val d
def DU(b:(kvs.map (·.1)).Nodup){a:Key×V}(h:a∈kvs):cN kvs a.1=some a.2:=by
 induction kvs with
 |nil=>cases h
 |cons p r f=>
  obtain⟨d,c⟩:=Cp.mp b;rcases Bc.mp h with e|e
  .subst e;exact cQ rfl
  .rw[cJ λz=>d (by grind)]
   exact f c e
def Uu[DecidableEq α]:∀ {l m:List α},l.Nodup->(∀x∈l,x∈m)->l.length<=m.length
 |[],m,_,_=>Ct _
 |a::r,m,h,s=>by
  obtain⟨e,d⟩:=Cp.mp h;have q:=Uu  (m:=m.erase a) d λx b=>(List.mem_erase_of_ne λz=>e (by simp_all)).mpr (s x (Ak _ b))
  grind
def Lk.Xb{f:Nat->Option Int}(h:Lk kvs f){b:Key×V}(a:b∈kvs):∃c n,b=(Sum.inr (one c),V.int n)/\f c=some n:=by
 obtain⟨c,n,e⟩:=h.ks b a;have v:=DU h.nd a
 rw[e]at v;have d:=h.val c
 rw[d]at v;cases q:f c with
 |none=>rw[q]at v;cases v
 |some m=>rw[q]at v;cases v;exact⟨c,_,e,q⟩
def Lk.keys{a:List _}{f:Nat->Option Int}(h:Lk kvs f)(h':Lk a f):∀x∈kvs.map (·.1),x∈a.map (·.1):=λx g=>by
 obtain⟨d,b,rfl⟩:=Bb.mp g;obtain⟨c,n,rfl,j⟩:=h.Xb b;have v:=h'.val c
 rw[j]at v;have q:(a.any λd=>decide (d.1=Sum.inr (one c)))=true:=by rw[fL,v];rfl
 grind
def Lk.Qg{d:List _}{f:Nat->Option Int}(h:Lk kvs f)(h':Lk d f):SJ kvs d:=by
 refine⟨?_,λi e=>?_⟩
 .have a:=Uu h.nd (h.keys h')
  have b:=Uu h'.nd (h'.keys h)
  grind
 .obtain⟨c,n,rfl,g⟩:=h.Xb e;exact⟨rfl,by rw[h'.val c,g];rfl⟩
noncomputable def aQ(f:Nat->Option Int)(c:Nat):Int:=(f c).getD 0
def hJ(c:Nat):Prop:=aX c\/eC c
noncomputable instance (c:Nat):Decidable (hJ c):=inferInstanceAs (Decidable (_\/_))
noncomputable def aZ(n:Nat->Int)(c:Nat):Option Int:=if hJ c/\0<n c then some (n c) else none
def qQ(h:∀c,hJ c->m c=n c):aZ m=aZ n:=by
 funext c
 unfold aZ;by_cases q:hJ c
 .rw[h c q]
 simp_all
def nR(a:hJ c)(h:0<=n c):aQ (aZ n) c=n c:=by
 unfold aQ aZ;grind
def Lk.ext{f g:Nat->Option Int}(h:Lk kvs f)(e:f=g):Lk kvs g:=e▸h
def qB(f:Nat->Option Int)(c:Nat):((f c).map V.int).getD (.int 0)=.int (aQ f c):=by
 unfold aQ;simp_all
def Zd:c∈ZW.cps.toList ↔ hJ c:=zA
def AO(cs:List Nat)(c:Nat):(cs.map one).countP (· == one c)=cs.countP (· == c):=by
 rw[List.countP_map];refine List.countP_congr λd _=>?_;simp_all
noncomputable def Zf(g:Nat->Int)(L:List Nat):List (Key×V):=L.map λc=>(Sum.inr (one c),V.int (g c))
noncomputable def bP(n:Nat->Int)(i:Nat):List Nat:=(ZW.cps.toList.take i).filter λc=>decide (0<n c)
def Pb{g:Nat->Int}{L:List Nat}{c:Nat}(h:c∉L):cN (Zf g L) (Sum.inr (one c))=none:=by
 induction L with
 |nil=>rfl
 |cons d r a=>
  show cN (_::Zf g r) _=none
  rw[cJ (λz=>h (by rw[Y8.mp z];exact Al)),a λz=>h (Ak _ z)]
def Ya:ZW.cps.toList.Nodup:=by decide +kernel
def YK:c∈bP n i ↔ c∈ZW.cps.toList.take i/\0<n c:=by
 unfold bP;rw[Di,Bp]
def J3(h:ZW.cps.toList[i]?=some c):c∉bP n i:=λz=>by
 have m:=(YK.mp z).1
 obtain⟨j,a,e⟩:=Bv.mp m;rw[Bt]at a;rw[List.getElem_take]at e;obtain⟨d,b⟩:=Ad.mp h;have:=(He Ya).mp (e.trans b.symm)
 ((try clear b e);omega)
def BK(h:ZW.cps.toList[i]?=some c)(p:0<n c):bP n (i+1)=bP n i++[c]:=by
 unfold bP;rw[Be,h,Fi];simp_all
def GH(h:ZW.cps.toList[i]?=some c)(p:¬0<n c):bP n (i+1)=bP n i:=by
 unfold bP;rw[Be,h,Fi];grind
def kT(n:Nat->Int)(i:Nat):(bP n i).length<=27:=by
 exact Bh (Gr ..) (by rw[Bt];exact Bh (Nat.min_le_right ..) (by decide))
def EO(n:Nat->Int)(i:Nat):(bP n i).Nodup:=(Ya.sublist (Hx ..)).filter _
noncomputable def VR(g:Nat->Int)(L:List Nat)(d:Nat):Option Int:=if d∈L then some (g d) else none
def Mg(g:Nat->Int){r:List Nat}{c:Nat}(f:c∉r)(h:Lk (Zf g r) (VR g r)):Lk (Zf g (r++[c])) (VR g (r++[c])):=by
 have l:=h.put c (g c)
 rw[mO _ (Pb f)]at l;have e:Zf g (r++[c])=Zf g r++[(Sum.inr (one c),V.int (g c))]:=by unfold Zf;rw[Ap];rfl
 rw[e];refine l.ext ?_;funext d
 unfold VR;grind
def OG(g:Nat->Int):∀L r,(r++L).Nodup->Lk (Zf g r) (VR g r)->Lk (Zf g (r++L)) (VR g (r++L))
 |[],r,_,h=>by rwa[Bs]
 |c::L,r,nd,h=>by
  have e:r++c::L=(r++[c])++L:=by rw[Fq];rfl
  have a:=λz=>(Ek.mp nd).2.2 c z c Al rfl
  rw[e]at nd ⊢;exact OG g L _ nd (Mg g a h)
def Lo(g:Nat->Int){L:List Nat}(a:L.Nodup):Lk (Zf g L) (λd=>if d∈L then some (g d) else none):=by
 have r:=OG g L [] a (Lk.nil.ext (by funext d;unfold VR;rw[if_neg (λz=>nomatch z)]))
 exact r
def dX(n:Nat->Int):Lk (Zf n (bP n 27)) (aZ n):=by
 refine(Lo n (EO n 27)).ext ?_;funext d
 unfold aZ;have e:d∈bP n 27 ↔ hJ d/\0<n d:=by
  rw[YK,Bi (by decide),Zd]
 grind
def cZ:Sp:=λd H Q _=>∃a b f,d=[.ref a]/\Rd H a (.dK b)/\Lk b f/\
 ∀r c,H r=none->Z_ H c->c r=some (.dK (Zf (aQ f) (bP (aQ f) 27)))->Q (.ref r) c
def i0:Z9 ["locker", "plain", "flag"] ["locker"] (aK iM):=by fail "sc"
def tR(F:ZT K "plain_locker" "plain_locker" iM f fd):Z8 P w K mg base ZS 1 f fd ["locker"] cZ:=by
 refine F.ok i0 (λL H Q E h=>?_) (λO A t s H L Q E u h=>?_)
 .obtain⟨a,j,f,rfl,_⟩:=h;rfl
 obtain⟨a,j,f,rfl,N,D,q⟩:=h;refine⟨_,(@aD _ _ _ _ _ (aP 1 i0.nd wY) (@aD _ _ _ _ _ (cP Bl rfl (mF (eQ rfl G.s_FLAGS)) (bC (i:=2) i0.nd rfl (Or.inl rfl)) (@aI _ _ _ (cD (bA We (iH Ci Ea (Vs (Z2.u1 u)) (mv 0) (aA (mv 2) (aA aJ aB))) aJ (bB _)) (@aI _ _ _ (iV (Z2.u1 u) (mv 1) (mv 2) (kO (Z2.u1 u) (mv 0) (mv 2) (λ_ _=>rfl)) rfl)) bF))) (@aI _ _ _ (aT (mv 1))))),?_⟩;fail "g";intro p y;fail "g";refine RU (λi U J=>∃v,U=[some (.ref a),some (.ref p),v]/\Z_ H J/\J p=some (.dK (Zf (aQ f) (bP (aQ f) i))))
  ⟨none,rfl,aG y _,aE⟩ ?_ ?_
 .rintro i c U r l ⟨v,rfl,d,m⟩;have R:i<27:=(Ad.mp l).1
  have b:Rd r a (.dK j):=N.elim (λe=>.inl (d _ _ e)) λ⟨o,e⟩=>.inr ⟨o,d _ _ e⟩
  have M:=b.elim kC λ⟨o,e⟩=>NQ e
  have x:(Zf (aQ f) (bP (aQ f) i)).length<sizeLine:=bG (by unfold Zf;rw[Ab];have:=kT (aQ f) i;(exact Nat.le_trans (by assumption) (by decide)))
  fail "g";refine Vq (z:=one c) b ?_;rw[D.val c,qB];fail "g";refine eJ (λB=>?_) (λB=>?_)
  .have k:=Az B
   obtain⟨n,I⟩:∃n,f c=some n:=by
    cases e:f c with
    |none=>rw[show aQ f c=0 by unfold aQ;rw[e];rfl]at k;((try clear R x);omega)
    |some n=>exact⟨n,rfl⟩
   have C:aQ f c=n:=by unfold aQ;rw[I];rfl
   fail "g";refine Uw (z:=one c) b (by rw[D.val c,I];rfl) ?_
   fail "g";refine nN (z:=one c) m x ?_;refine⟨_,rfl,bJ y d,?_⟩;rw[aE,mO _ (Pb (J3 l)),BK l (by (assumption))]
   unfold Zf;rw[Ap,<-C];rfl
  .have k:=Bq (Br.mpr B)
   exact⟨_,rfl,d,by rw[m,GH l (by (assumption))]⟩
 .rintro U r ⟨v,rfl,d,m⟩;exact q p r y d m
noncomputable def cnt(cs:List Nat)(c:Nat):Int:=((cs.countP (· == c):Nat):Int)
def qL(h:cs[i]?=some c)(d:Nat):cnt (cs.take (i+1)) d=cnt (cs.take i) d+if d=c then 1 else 0:=by
 unfold cnt;rw[Be,h,List.countP_append];grind
def O1(h:cs[i]?=some c):cnt (cs.take i) c+1<=cnt cs c:=by
 have e:=qL h c
 rw[if_pos rfl]at e;rw[<-e];unfold cnt;have:(cs.take (i+1)).countP _<=cs.countP (· == c):=List.Sublist.countP_le (Hx _ _)
 (exact Int.ofNat_le.mpr (by assumption))
def xP(f:Nat->Option Int)(cs:List Nat)(k:Nat):Prop:=∀j d,j<k->cs[j]?=some d->cnt (cs.take j) d<aQ f d
def RB{f:Nat->Option Int}(c:Nat)(a:0<=aQ f c):∀ {k:Nat},xP f cs k->cnt (cs.take k) c<=aQ f c
 |0,_=>by rwa[Ie]
 |k+1,h=>by
  have b:=RB c a (k:=k) λj d g=>h j d (by ((try clear a);omega))
  cases e:cs[k]? with
  |none=>rw[List.take_add_one,e];simpa using b
  |some d=>
   rw[qL e];have i:=h k d (by ((try clear a b);omega)) e
   grind
inductive pT(l:Addr)(k:List V)(H:Hp)(Q:VK)(E:XK):Prop|mk(a b h f d:_)(_:k=[.ref a,.ref b])(_:H a=some (.dK h))(_:Lk h f)(_:(∀c,0<=aQ f c))(_:Z4 H b=some ((d.map one).map V.str))(_:d.length<=1000)(_:(∀c∈d,hJ c))(_:(xP f d d.length->∀r g e,H r=none->Z_ H e->e r=some (.dK g)->Lk g (aZ λc=>aQ f c-cnt d c)->Q (.ref r) e))(_:(∀i c,d[i]?=some c->xP f d i->aQ f c<=cnt (d.take i) c->∀j e,Z_ H e->e j=some (YS j [("flag",.str (one c))])->E (.ref l) (some j) e)):pT l k H Q E
def i4:Z9 ["locker", "flags", "left", "flag"] ["locker", "flags"] (aK Td):=by fail "sc"
def Ln(F:ZT K "taken" "taken" Td f fd)(y8:ZR P w K mg base 1 "plain_locker" ["locker"] cZ)(i5:V0 P w K mg base 1 Zt ["self", "flag"] (oI Zt)):Z8 P w K mg base (Za P w) 3 f fd ["locker", "flags"] (pT Zt):=by
 refine F.XM i4 (λvs H Q E h=>?_) (λcdv A outer s H vs Q E hr h=>?_)
 .obtain⟨a,b,kvs,f,cs,rfl,_⟩:=h;rfl
 obtain⟨a,b,kvs,f,cs,rfl,ha,lk,hf0,hb,hcs,hfl,q,qe⟩:=h;refine⟨_,(@aD _ _ _ _ _ (aP 2 i4.nd (aU y8 hr (by decide) rfl (aA (mv 0) aB))) (@aD _ _ _ _ _ (cP PassesOwn.leaving rfl (bT (mv 1)) (bC (i:=3) i4.nd rfl (Or.inl rfl)) (@aD _ _ _ _ _ (cD (bA mV (iH Ci Ea (Vs (Z2.u1 hr)) (mv 2) (aA (mv 3) (aA aJ aB))) aJ (bB _)) (@aI _ _ _ (nT fY rfl rfl rfl G.c_Short G.W_ i5 hr (by decide) (aA (mv 3) aB))) bF) (@aI _ _ _ (iV (Z2.u1 hr) (mv 2) (mv 3) (aR lL (kO (Z2.u1 hr) (mv 2) (mv 3) (λ_ _=>rfl)) aJ) rfl)))) (@aI _ _ _ (aT (aU y8 hr (by decide) rfl (aA (mv 2) aB)))))),?_⟩
 fail "g";refine⟨a,kvs,f,rfl,.inl ha,lk,λp H1 hp s1 hp1=>?_⟩;have lw:=dX (aQ f)
 have hwl:(Zf (aQ f) (bP (aQ f) 27)).length<=27:=by unfold Zf;rw[Ab];exact kT _ _
 generalize Zf (aQ f) (bP (aQ f) 27)=kws at hp1 lw hwl;have hb1:=aO s1 hb
 fail "g";refine fP (xs:=(cs.map one).map V.str) (λi U H'=>∃kvs' g v,U=[some (.ref a),some (.ref b),some (.ref p),v]/\Z_ H H'/\H' p=some (.dK kvs')/\Lk kvs' g/\(∀c,aQ g c=aQ (aZ (aQ f)) c-cnt (cs.take i) c)/\kvs'.length<=27+i/\xP f cs i)
  ⟨kws,_,_,rfl,s1,hp1,lw,λc=>by rw[Ie];show _=_-((0:Nat):Int);((try clear hcs hwl);omega),by (assumption),λj d hj=>by ((try clear hcs hwl);omega)⟩ (λi U H' _ ⟨_,_,_,_,e,_⟩=>aO e hb) ?_ ?_
 .rintro i x U H2 hx ⟨kvs',g,v,rfl,s2,hH,lg,hg,hl,hen⟩;have hi:i<cs.length:=by have:=(Ad.mp hx).1;rwa[Ab,Ab]at this
  obtain⟨c,hc⟩:∃c,cs[i]?=some c:=⟨_,Aa hi⟩;obtain rfl:x=V.str (one c):=by rw[Ag,Ag,hc]at hx;cases hx;rfl
  have hpl:kvs'.length<sizeLine:=bG (by ((try clear hwl);omega))
  have hfc:=hfl c (Am hc)
  have hgc:=hg c
  rw[nR hfc (hf0 c)]at hgc;have hle:=RB c (hf0 c) hen
  fail "g";refine Vq (z:=one c) (.inl hH) ?_;rw[lg.val c,qB];fail "g";refine eJ (λhd=>?_) (λhd=>?_)
  .have hd':=Az hd
   fail "g";refine⟨r0,λea hea=>⟨ea,_,rfl,aE,λdx hdx=>⟨rfl,some dx,(Pa hdx).1,?_⟩⟩⟩
   exact qe i c hc hen (by omega) dx _ (LA s2 hea hdx) (Pa hdx).2
  .have hd':=Bq (Br.mpr hd)
   obtain⟨n,hn⟩:∃n,g c=some n:=by
    cases e:g c with
    |none=>exact absurd (show aQ g c=0 by unfold aQ;rw[e];rfl) hd'
    |some n=>exact⟨n,rfl⟩
   have hcn:aQ g c=n:=by unfold aQ;rw[hn];rfl
   fail "g";refine Uw (z:=one c) (.inl hH) (by rw[lg.val c,hn];rfl) ?_
   fail "g";refine nN (z:=one c) hH hpl ?_;refine⟨_,_,_,rfl,bJ hp s2,aE,lg.put c (n-1),λd=>?_,by have:=gI kvs' (Sum.inr (one c)) (.int (n-1));((try clear hcn hcs hd' hgc hi hle hpl hwl);omega),λj d hj hjd=>?_⟩
   .rw[qL hc];have:=hg d
    by_cases e:d=c
    .subst e;show ((if d=d then some (n-1) else g d):Option Int).getD 0=_
     rw[if_pos rfl,if_pos rfl];show n-1=_
     ((try clear hcs hd' hi hl hle hpl hwl);omega)
    .show ((if d=c then some (n-1) else g d):Option Int).getD 0=_
     rw[if_neg e,if_neg e];show aQ g d=_
     (assumption)
   .by_cases e:j=i
    .subst e;rw[hc]at hjd;cases hjd;((try clear hcs hi hj hl hpl hwl);omega)
    .exact hen j d (by ((try clear hcn hcs hd' hgc hi hl hle hpl hwl);omega)) hjd
 .rintro U H2 ⟨kvs',g,v,rfl,s2,hH,lg,hg,hl,hen⟩;have ecs:((cs.map one).map V.str).length=cs.length:=by rw[Ab,Ab]
  rw[ecs]at hg hl hen;fail "g";refine⟨p,kvs',g,rfl,.inl hH,lg,λr H3 hr s3 hr3=>?_⟩;have l3:=dX (aQ g)
  generalize Zf (aQ g) (bP (aQ g) 27)=kws' at hr3 l3;refine q hen r kws' H3 (none_of s2 hr) (s2.trans s3) hr3 (l3.ext (qQ λc hc=>?_));rw[hg c,nR hc (hf0 c),Bi (Ai _)]
inductive iA(i:List V)(H:Hp)(Q:VK)(zz3:XK):Prop|mk(a b e f g:_)(_:i=[.ref a,.ref b])(_:H a=some (.dK e))(_:Lk e f)(_:(∀c,0<=aQ f c))(_:Z4 H b=some ((g.map one).map V.str))(_:g.length<=1000)(_:∀r d h,H r=none->Z_ H h->h r=some (.dK d)->Lk d (aZ λc=>aQ f c+cnt g c)->Q (.ref r) h):iA i H Q zz3
def i6:Z9 ["locker", "flags", "more", "flag"] ["locker", "flags"] (aK xQ):=by fail "sc"
def Nn(F:ZT K "put_in" "put_in" xQ f fd)(G:Gs K mg w Zs Zz Zt Zx Z0 Zw Zy Zu Zv)(y8:ZR P w K mg base 1 "plain_locker" ["locker"] cZ):Z8 P w K mg base ZS 2 f fd ["locker", "flags"] iA:=by
 refine F.ok i6 (λvs H Q E h=>?_) (λcdv A outer s H vs Q E hr h=>?_)
 .obtain⟨a,b,kvs,f,cs,rfl,_⟩:=h;rfl
 obtain⟨a,b,kvs,f,cs,rfl,ha,lk,hf0,hb,hcs,q⟩:=h;refine⟨_,(@aD _ _ _ _ _ (aP 2 i6.nd (aU y8 hr (by decide) rfl (aA (mv 0) aB))) (@aD _ _ _ _ _ (cP Bl rfl (bT (mv 1)) (bC (i:=3) i6.nd rfl (Or.inl rfl)) (@aI _ _ _ (iV (Z2.u1 hr) (mv 2) (mv 3) (aR bQ (iH Ci Ea (Vs (Z2.u1 hr)) (mv 2) (aA (mv 3) (aA aJ aB))) aJ) rfl))) (@aI _ _ _ (aT (aU y8 hr (by decide) rfl (aA (mv 2) aB)))))),?_⟩
 fail "g";refine⟨a,kvs,f,rfl,.inl ha,lk,λp H1 hp s1 hp1=>?_⟩;have lw:=dX (aQ f)
 have hwl:(Zf (aQ f) (bP (aQ f) 27)).length<=27:=by unfold Zf;rw[Ab];exact kT _ _
 generalize Zf (aQ f) (bP (aQ f) 27)=kws at hp1 lw hwl;have hb1:=aO s1 hb
 fail "g";refine fP (xs:=(cs.map one).map V.str) (λi U H'=>∃kvs' g v,U=[some (.ref a),some (.ref b),some (.ref p),v]/\Z_ H H'/\H' p=some (.dK kvs')/\Lk kvs' g/\(∀c,aQ g c=aQ (aZ (aQ f)) c+cnt (cs.take i) c)/\kvs'.length<=27+i)
  ⟨kws,_,_,rfl,s1,hp1,lw,λc=>by rw[Ie];show _=_+((0:Nat):Int);((try clear hcs hwl);omega),by (assumption)⟩ (λi U H' _ ⟨_,_,_,_,e,_⟩=>aO e hb) ?_ ?_
 .rintro i x U H2 hx ⟨kvs',g,v,rfl,s2,hH,lg,hg,hl⟩;have hi:i<cs.length:=by have:=(Ad.mp hx).1;rwa[Ab,Ab]at this
  obtain⟨c,hc⟩:∃c,cs[i]?=some c:=⟨_,Aa hi⟩;obtain rfl:x=V.str (one c):=by rw[Ag,Ag,hc]at hx;cases hx;rfl
  have hpl:kvs'.length<sizeLine:=bG (by ((try clear hwl);omega))
  fail "g";refine Vq (z:=one c) (.inl hH) ?_;rw[lg.val c,qB];fail "g";refine nN (z:=one c) hH hpl ?_;refine⟨_,_,_,rfl,bJ hp s2,aE,lg.put c (aQ g c+1),λd=>?_,by have:=gI kvs' (Sum.inr (one c)) (.int (aQ g c+1));((try clear hcs hi hpl hwl);omega)⟩
  rw[qL hc];have:=hg d
  by_cases e:d=c
  .subst e;show ((if d=d then some (aQ g d+1) else g d):Option Int).getD 0=_
   rw[if_pos rfl,if_pos rfl];show aQ g d+1=_
   ((try clear hcs hi hl hpl hwl);omega)
  .show ((if d=c then some (aQ g c+1) else g d):Option Int).getD 0=_
   rw[if_neg e,if_neg e];show aQ g d=_
   (assumption)
 .rintro U H2 ⟨kvs',g,v,rfl,s2,hH,lg,hg,hl⟩;refine⟨p,kvs',g,rfl,.inl hH,lg,λr H3 hr s3 hr3=>?_⟩;refine q r _ H3 (none_of s2 hr) (s2.trans s3) hr3 ((dX (aQ g)).ext (qQ λc hc=>?_));rw[hg c,nR hc (hf0 c),Bi (by rw[Ab,Ab];exact Ai _)]
def oM:Sp:=λc H Q _=>∃(a:List Nat) (k:Nat) (p:Int),c=[.str (aV a),.int p]/\p=(k:Int)+1/\k<a.length/\a.length<=7/\
 ∀r b,H r=none->Z_ H b->b r=some (.lst (((Xm a k).map one).map V.str))->Q (.ref r) b
def M0(G:Nat->Option β)(k:Nat):[0,1,2,3].filterMap (λn=>if n<k then G n else none)=(List.range (min k 4)).filterMap G:=by
 match k with
 |0=>rfl
 |1=>rfl
 |2=>rfl
 |3=>rfl
 |k+4=>
  rw[Ff (by omega)]
  exact jT λn a=>if_pos (by grind)
noncomputable def Vz(cw:List Nat)(k:Nat)(c:Nat):Option V:=if c-49<k then (if cw.getD (c-49) 0=cw.getD k 0 then some (.str (one c)) else none) else none
def CP(cw:List Nat)(k:Nat):YD.cps.toList.filterMap (Vz cw k)=(((List.range (min k 4)).filterMap (VT cw k)).map one).map V.str:=by
 rw[FU,show [49,50,51,52]=[0,1,2,3].map (49+·) from rfl,Hn,Cd,List.map_filterMap,<-M0];refine jT λn _=>?_
 unfold Vz VT;grind
def i7:Z9 ["word", "place", "letter", "above"] ["word", "place"] (aK gZ):=by fail "sc"
def yM(F:ZT K "choices_at" "choices_at" gZ f fd):Z8 P w K mg base ZS 1 f fd ["word", "place"] oM:=by
 refine F.ok i7 (λO H Q E h=>?_) (λU A o s H O Q E j h=>?_)
 .obtain⟨a,k,p,rfl,_⟩:=h;rfl
 obtain⟨a,k,W,rfl,R,S,X,q⟩:=h;refine⟨_,(@aD _ _ _ _ _ (aP 2 i7.nd (bD bN (mv 0) (aR lL (mv 1) aJ) (λ_ _=>rfl))) (@aD _ _ _ _ _ (fK (i:=3) i7.nd rfl (Or.inl rfl) rfl (mF (eQ rfl G.s_SUBSTITUTES)) (gF (N:=["sign", "place", "letter", "word"]) ["word", "place", "letter", "above"] (aK gZ) [none,some 1,some 2,some 0] rfl rfl rfl (λx h=>cC h) (by decide +kernel)) (by decide +kernel) rfl (by decide +kernel) (λ_ _ _ _=>(bC (i:=0) (show List.Nodup (["sign", "place", "letter", "word"]:List Str) by decide +kernel) rfl (Or.inl rfl))) (λ_ _ _ _=>(iZ (PW.pt (S2 (bA xS (bS TZ rfl G.b_int TU (aA (mv 0) aB)) (mv 1) (bB _)) (Sj (bA mV (bD bN (mv 3) (aR lL (bS TZ rfl G.b_int TU (aA (mv 0) aB)) aJ) (λ_ _=>rfl)) (mv 2) (bB _))))))) (λ_ _ _ _=>(mv 0))) (@aI _ _ _ (aT (aR bQ (bO (aA (mv 2) aB)) (mv 3)))))),?_⟩
 have e:=cU a
 fail "g";refine vD (by rw[e];exact bM (by (exact Nat.le_trans (by assumption) (by decide)))) (Sr (k:=k) (by ((try clear S X e);omega)) S) ?_
 fail "g";refine Ti (Vz a k) (bG (by decide)) (λi c Y A B I b=>?_) (λD M=>?_)
 .have t:=YH.mp (Am I)
  have T:=t.1
  fail "g";refine⟨Wk.set rfl (Wk.refl _),?_⟩;fail "g";refine T7 (uD t) (by show 1<=640;decide) ?_
  fail "g";unfold Vz at b;refine eJ (λC=>?_) (λC=>?_)
  .have y:=Az C
   have d:c-49<k:=by ((try clear S X e);omega)
   rw[if_pos d]at b;fail "g";refine T7 (uD t) (by show 1<=640;decide) ?_
   fail "g";refine vD (by rw[e];exact bM (by (exact Nat.le_trans (by assumption) (by decide)))) (Sr (k:=c-49) (by ((try clear R S X d e y);omega)) (by ((try clear R T X y);omega))) ?_
   fail "g";rw[show decide (({cps:=#[a.getD (c-49) 0]}:Str)={cps:=#[a.getD k 0]})=decide (a.getD (c-49) 0=a.getD k 0) from Rb _ _];by_cases n:a.getD (c-49) 0=a.getD k 0
   .rw[Ao n];rw[if_pos n]at b;fail "g";exact b
   .rw[Aw n];rw[if_neg n]at b;fail "g";exact b
  .have y:=Bq (Br.mpr C)
   have d:¬c-49<k:=by ((try clear S X e);omega)
   rw[if_neg d]at b;fail "g";exact b
 .rw[show (Str.ofString "1234").cps.toList.filterMap (Vz a k)=_ from CP a k];fail "g";refine⟨r0,λp l=>?_⟩
  have m:D≠p:=λz=>by rw[z,aE]at l;cases l
  have v:H p=none:=by rw[aH (Ne.symm m)]at l;exact l
  have L:((((List.range (min k 4)).filterMap (VT a k)).map one).map V.str).length<=4:=by grind
  fail "g";refine jK (xs:=[V.str (one (a.getD k 0))]) (ys:=(((List.range (min k 4)).filterMap (VT a k)).map one).map V.str) dY (by rw[uC m];exact dY) (bM (by show 1+_<=_;((try clear R S X e m);omega))) λr j=>?_
  have u:H r=none:=by
   by_cases z:r=p
   .rw[z];exact v
   .rw[aH z]at j;by_cases J:r=D
    .rw[J];exact M
    .rw[aH J]at j;exact j
  fail "g";exact q r _ u ((aG M _).trans ((aG l _).trans (aG j _))) aE
noncomputable def Wr(cws:List (List Nat))(k:Nat):List (List V):=(List.range (cws.getD k []).length).map λj:Nat=>[V.int (k:Int),V.int (1+(j:Int))]
noncomputable def pH(cws:List (List Nat))(i:Nat):List (List V):=((List.range i).map (Wr cws)).flatten
def mJ(cws:Q6)(i:Nat):pH cws (i+1)=pH cws i++Wr cws i:=by
 unfold pH;rw[Cm,Ap,List.flatten_append];simp
def LV(a:∀c∈cws,c.length<=7):(Wr cws k).length<=7:=by
 unfold Wr;rw[Ab,Bf,Ac];cases e:cws[k]? with
 |none=>exact Ct _
 |some c=>exact a c (Am e)
def pB(a:∀c∈cws,c.length<=7):∀i,(pH cws i).length<=7*i
 |0=>Ai _
 |i+1=>by
  rw[mJ,Af];have:=pB a i
  have:=LV (k:=i) a
  omega
def OE{x:V}(h:((cws.map aV).map V.str)[i]?=some x):∃c,cws[i]?=some c/\c∈cws/\x=.str (aV c):=by
 rw[Ag,Ag]at h;cases e:cws[i]? with
 |none=>rw[e]at h;cases h
 |some c=>rw[e]at h;cases h;exact⟨c,rfl,Am e,rfl⟩
def sU:Sp:=λf H Q _=>∃a b,f=[.ref a]/\Z4 H a=some ((b.map aV).map V.str)/\b.length<=8/\(∀c∈b,c.length<=7)/\
 ∀r e d,H r=none->Z_ H d->d r=some (.lst (e.map V.ref))->ZD H d e (pH b b.length)->Q (.ref r) d
def i8:Z9 ["words", "wants", "number", "word"] ["words"] (aK kF):=by fail "sc"
def EH(F:ZT K "wants_of" "wants_of" kF f fd):Z8 P w K mg base ZS 1 f fd ["words"] sU:=by
 refine F.ok i8 (λY H Q E h=>?_) (λa6 A I s H Y Q E hr h=>?_)
 .obtain⟨a,b,rfl,_⟩:=h;rfl
 obtain⟨a,b,rfl,W,h8,X,q⟩:=h;refine⟨_,(@aD _ _ _ _ _ (aP 1 i8.nd (bO aB)) (@aD _ _ _ _ _ (cP Bl rfl (nL rfl G.b_enumerate (aA (mv 0) aB)) (eP (K:=K) (i:=2) (j:=3) (by rfl) (by rfl) i8.nd (by rfl) (by exact(Or.inr rfl)) (Or.inl rfl) (by rfl) (by exact(Or.inl rfl)) (Or.inl rfl)) (@aI _ _ _ (bW (cM Bg Ep Er Vv (mv 1) (aA (cL rfl (Lh rfl G.b_range (aA aJ (aA (aR bQ (aY cO rfl G.b_len bR (aA (mv 3) aB)) aJ) aB))) (gF (N:=["place", "number"]) ["words", "wants", "number", "word"] (aK kF) [none,some 2] rfl rfl rfl (λx h=>cC h) (by decide +kernel)) (by decide +kernel) rfl (by decide +kernel) (λ_ _ _ _=>(bC (i:=0) (show List.Nodup (["place", "number"]:List Str) by decide +kernel) rfl (Or.inl rfl))) (λ_ _ _ _=>cX) (λ_ _ _ _=>(dM (aA (mv 1) (aA (mv 0) aB))))) aB))))) (@aI _ _ _ (aT (mv 1))))),?_⟩
 fail "g";refine⟨by decide,λp r=>?_⟩
 have a4:=aO (aG r (HO.lst [])) W
 fail "g";refine uE (xs:=(b.map aV).map V.str) (λi U t=>∃(d:List Addr) (v u:Option V),U=[some (.ref a),some (.ref p),v,u]/\Z_ H t/\t p=some (.lst (d.map V.ref))/\ZD H t d (pH b i))
  ⟨[],_,_,rfl,aG r _,aE,.nil⟩ (λj U t _ ⟨_,_,_,_,e,_⟩=>aO e W) ?_ ?_
 .rintro i x U R pt T ⟨d,v,u,rfl,C,O,m⟩ k;have hi:i<b.length:=by have:=(Ad.mp T).1;rwa[Ab,Ab]at this
  obtain⟨c,M,hm,rfl⟩:=OE T;have a3:=X c hm
  have J:=cU c
  fail "g";rw[J];refine⟨⟨by omega,by omega,by omega,by omega⟩,?_⟩
  rw[show ((c.length:Int)+1-1).toNat=c.length by ((try clear h8 hi);omega)]
  have z:=C.trans (aG k (HO.tup [V.int ((0+i:Nat):Int),V.str (aV c)]))
  have o:=aG k (HO.tup [V.int ((0+i:Nat):Int),V.str (aV c)]) _ _ O
  have l:=m.keep (aG k (HO.tup [V.int ((0+i:Nat):Int),V.str (aV c)]))
  generalize upd R pt (HO.tup [V.int ((0+i:Nat):Int),V.str (aV c)])=H3 at z o l ⊢;refine FJ (λj=>[V.int ((0+i:Nat):Int),V.int (1+(j:Int))]) (bG (by omega)) (λj Hc A B hj hs hA=>?_) (λD Hd Z hD y a5 a1 S=>?_)
  .fail "g";refine⟨Wk.set rfl (Wk.refl _),?_⟩;fail "g";exact⟨za0,λpp n=>hA pp _ n (aG n _) aE⟩
  .have L:=y _ _ o
   have a2:d.length<=7*i:=by rw[m.1];exact pB X i
   have e:(List.range c.length).map (λj:Nat=>[V.int ((0+i:Nat):Int),V.int (1+(j:Int))])=Wr b i:=by
    unfold Wr;rw[Ac,M,Nat.zero_add];rfl
   rw[e]at S;fail "g";refine⟨d++Z,_,_,rfl,bJ r (z.trans y),by rw[aE,Ap],?_⟩
   rw[mJ];exact((l.keep y).app (S.Yf z)).put L
 .rintro U R ⟨d,v,u,rfl,C,O,m⟩;rw[show ((b.map aV).map V.str).length=b.length by rw[Ab,Ab]]at m
  exact q p d R r C O m
noncomputable def gM(cws:List (List Nat))(i:Nat):Nat:=((cws.take i).map List.length).sum
noncomputable def iR(cws:List (List Nat))(cs:List Nat)(i:Nat):List V:=(((cs.drop (gM cws i)).take (cws.getD i []).length).map one).map V.str
def yY(h:cws[i]?=some cw):gM cws (i+1)=gM cws i+cw.length:=by
 unfold gM;rw[Be,h,Ap,List.sum_append];simp
def DB(c:i<=j):kS xs (some (i:Int)) (some (j:Int))=(xs.drop i).take (j-i):=by
 show (xs.drop (if (i:Int)<0 then ((i:Int)+(xs.length:Int)).toNat else min (i:Int).toNat xs.length)).take ((if (j:Int)<0 then ((j:Int)+(xs.length:Int)).toNat else min (j:Int).toNat xs.length)-(if (i:Int)<0 then ((i:Int)+(xs.length:Int)).toNat else min (i:Int).toNat xs.length))=_
 rw[if_neg (by ((try clear c);omega)),if_neg (by ((try clear c);omega)),Fu,Fu]
 by_cases b:i<=xs.length
 .rw[Fo b];by_cases a:j<=xs.length
  .rw[Fo a]
  .rw[Ff (by ((try clear b c);omega)),Bi (by simp_all),Bi (by rw[Ce];omega)]
 .rw[Ff (show xs.length<=i by ((try clear c);omega)),List.drop_of_length_le (Ai _),List.drop_of_length_le (by ((try clear c);omega)),List.take_nil,List.take_nil]
def qM:Sp:=λh H Q _=>∃a b d g,h=[.ref a,.ref b]/\Z4 H a=some ((d.map aV).map V.str)/\Z4 H b=some ((g.map one).map V.str)/\d.length<=8/\(∀c∈d,c.length<=7)/\
 ∀r f e,H r=none->Z_ H e->e r=some (.lst (f.map V.ref))->(∀p∈f,p≠r)->ZQ H e f ((List.range d.length).map (iR d g))->Q (.ref r) e
def u7:Z9 ["words", "flags", "hoists", "start", "word", "end"] ["words", "flags"] (aK mC):=by fail "sc"
def C5(F:ZT K "hoists_of" "hoists_of" mC f fd):Z8 P w K mg base ZS 1 f fd ["words", "flags"] qM:=by
 refine F.ok u7 (λvs H Q E h=>?_) (λa7 A Y s H vs Q E hr h=>?_)
 .obtain⟨a,b,c,d,rfl,_⟩:=h;rfl
 obtain⟨a,b,c,d,rfl,ha,hb,h8,h7,q⟩:=h;refine⟨_,(@aD _ _ _ _ _ (aP 2 u7.nd (bO aB)) (@aD _ _ _ _ _ (aP 3 u7.nd aJ) (@aD _ _ _ _ _ (cP Bl rfl (bT (mv 0)) (bC (i:=4) u7.nd rfl (Or.inl rfl)) (@aD _ _ _ _ _ (aP 5 u7.nd (aR bQ (mv 3) (aY cO rfl G.b_len bR (aA (mv 4) aB)))) (@aD _ _ _ _ _ (bW (cM Bg Ec Ed yS (mv 2) (aA (bS iC rfl G.b_list dW (aA (iJ Vt (mv 1) (fI (mv 3)) (fI (mv 5))) aB)) aB))) (@aI _ _ _ (aP 3 u7.nd (mv 5)))))) (@aI _ _ _ (aT (mv 2)))))),?_⟩;have J:((c.map aV).map V.str).length=c.length:=by rw[Ab,Ab]
 fail "g";refine⟨by decide,λp O=>?_⟩
 have a6:=aO (aG O (HO.lst [])) ha
 fail "g";refine fP (xs:=(c.map aV).map V.str) (λi U S=>∃l W T,U=[some (.ref a),some (.ref b),some (.ref p),some (.int ((gM c i:Nat):Int)),W,T]/\Z_ H S/\S p=some (.lst (l.map V.ref))/\(∀x∈l,x≠p)/\l.length=i/\ZQ H S l ((List.range i).map (iR c d)))
  ⟨[],_,_,rfl,aG O _,aE,(λx y=>nomatch y),rfl,.nil⟩ (λj U S _ ⟨_,_,_,_,e,_⟩=>aO e ha) ?_ ?_
 .rintro i x U v y ⟨l,W,T,rfl,B,R,u,I,M⟩;have hi:i<c.length:=by have:=(Ad.mp y).1;rw[J]at this;exact this
  obtain⟨k,L,hm,rfl⟩:=OE y;have a4:=h7 k hm
  have Z:=cU k
  have a5:=aO B hb
  fail "g";rw[Z];intro X t;rw[show ((gM c i:Nat):Int)+((k.length:Nat):Int)=((gM c i+k.length:Nat):Int) by push_cast;rfl,DB (by ((try clear I J h8 hi);omega)),show gM c i+k.length-gM c i=k.length by ((try clear I J h8 hi);omega)]
  have m:(((d.map one).map V.str).drop (gM c i)).take k.length=iR c d i:=by
   unfold iR;rw[Ac,L,Gq,Gq,Fy,Fy];rfl
  rw[m];fail "g";intro n r;have a1:n≠p:=λz=>by
   have:=aG t (HO.lst (iR c d i)) _ _ R
   rw[<-z,r]at this;cases this
  have N:Z_ v (upd (upd v X (HO.lst (iR c d i))) n (HO.lst (iR c d i))):=(aG t _).trans (aG r _)
  have C:(upd (upd v X (HO.lst (iR c d i))) n (HO.lst (iR c d i))) n=some (.lst (iR c d i)):=aE
  have D:=none_of (aG t _) r
  generalize upd (upd v X (HO.lst (iR c d i))) n (HO.lst (iR c d i))=H3 at N C ⊢;have a2:=N _ _ R
  have a3:=bL a2
  fail "g";have o:∀x∈l++[n],x≠p:=λx y=>by
   rcases Bk.mp y with e|e
   .exact u x e
   .rwa[Ah.mp e]
  refine⟨l++[n],some (.str (aV k)),some (.int ((gM c i+k.length:Nat):Int)),?_,bJ O (B.trans N),by rw[aE,Ap];rfl,o,by rw[Af,I];rfl,?_⟩
  .rw[yY L];rfl
  .rw[Cm,Ap];exact((M.keep N).snoc (none_of B D) C).put o
 .rintro U v ⟨l,W,T,rfl,B,R,u,I,M⟩;fail "g";rw[J]at M;exact q p l v O B R u M
def LG:Z9 ["text"] ["text"] (aK sJ):=by fail "sc"
def G5(F:ZT K "is_flag" "is_flag" sJ f fd):Z8 P w K mg base ZS 1 f fd ["text"] oX:=by
 refine F.ok LG (λc H Q E h=>?_) (λd A a s H c Q E i h=>?_)
 .obtain⟨z,rfl,_⟩:=h;rfl
 obtain⟨z,rfl,j,q⟩:=h;refine⟨_,(@aI _ _ _ (aT (UM (gC mV (aY cO rfl G.b_len bR (aA (mv 0) aB)) aJ (bB _)) (Tn (gC Vf (mv 0) (eQ rfl G.s_FLAGS) (by rfl)))))),?_⟩
 fail "g";refine eJ (λb=>?_) (λb=>?_)
 .have e:fX z=subIn z ZW:=if_pos (by grind)
  rw[e]at q;fail "g";exact q
 .have e:fX z=false:=sR (by grind)
  simp_all
def GC:Z9 ["text", "place"] ["text", "place"] (aK nA):=by fail "sc"
def BD(F:ZT K "may_stand" "may_stand" nA f fd)(r:ZR P w K mg base 1 "is_flag" ["text"] oX):Z8 P w K mg base ZS 2 f fd ["text", "place"] pP:=by
 refine F.ok GC (λo H Q E h=>?_) (λv A i s H o Q E t h=>?_)
 .obtain⟨z,p,rfl,_⟩:=h;rfl
 obtain⟨z,p,rfl,u,q⟩:=h;refine⟨_,(@aD _ _ _ _ _ (cD (sM (gH (aU r t (by decide) rfl (aA (mv 0) aB)))) (@aI _ _ _ (aT lK)) bF) (@aD _ _ _ _ _ (cD (bA Vf (mv 0) (eQ rfl G.s_SUBSTITUTES) (by rfl)) (@aI _ _ _ (aT (gC xS (bS TZ rfl G.b_int TU (aA (mv 0) aB)) (mv 1) (bB _)))) bF) (@aI _ _ _ (aT lK)))),?_⟩
 fail "g";refine⟨z,rfl,u,?_⟩;fail "g";refine eJ (λm=>?_) (λm=>?_)
 .have a:fX z=false:=by simpa using m
  have e:dI z p=false:=by
   by_cases n:z.length=1
   .obtain⟨c,rfl⟩:=vK n;rw[oR]at a;have a:=Bq a
    rw[qA];exact Aw λd=>a (d.elim .inl λz=>.inr z.1)
   .exact if_neg n
  rw[e]at q;fail "g";exact q
 .have a:fX z=true:=by simpa using m
  obtain⟨c,rfl,k⟩:=LH a;fail "g";rw[if_neg Ar,show subIn (one c) "1234"=decide (eC c) from xL c];rw[qA]at q;refine eJ (λj=>?_) (λj=>?_)
  .have b:=Az j
   fail "g";refine T7 (uD b) (by show 1<=640;decide) ?_
   rw[show decide (mG c p)=decide ((c:Int)-48<p) from Eh.mpr ⟨λd=>d.elim (λl=>absurd b (mS l)) (·.2),λl=>.inr ⟨b,l⟩⟩]at q;exact q
  .have b:=Bq (Br.mpr j)
   rwa[Ao (show mG c p from .inl (k.resolve_right b))]at q
def Jd:Z9 ["flags"] ["flags"] (aK pD):=by fail "sc"
def Mc(F:ZT K "is_hoist" "is_hoist" pD f fd)(O:ZR P w K mg base 2 "may_stand" ["text", "place"] pP):Z8 P w K mg base ZS 3 f fd ["flags"] sN:=by
 refine F.ok Jd (λt H Q E h=>?_) (λT A l s H t Q E k h=>?_)
 .obtain⟨a,b,rfl,_⟩:=h;rfl
 obtain⟨a,b,rfl,L,X,v,q⟩:=h;refine⟨_,(@aD _ _ _ _ _ (cD (PW.pt (sQ (bA xS (aY cO rfl G.b_len bR (aA (mv 0) aB)) aJ (bB _)) (lZ (bA We (aY cO rfl G.b_len bR (aA (mv 0) aB)) (qR rfl G.s_MOST_PLACES) (bB _))))) (@aI _ _ _ (aT lK)) bF) (@aI _ _ _ (aT (aY (Ul rfl) rfl G.b_all Ug (aA (cL rfl (LJ rfl G.b_enumerate (aA (mv 0) aB) (uG aJ TV)) (iI (N:=["place", "text"]) (by decide +kernel) (by decide +kernel)) (by decide +kernel) rfl (by decide +kernel) (λ_ _ _ _=>(eP (K:=K) (i:=0) (j:=1) (by rfl) (by rfl) (show List.Nodup (["place", "text"]:List Str) by decide +kernel) (by rfl) (by exact Or.inl rfl) (by exact Or.inr rfl) (by rfl) (Or.inl rfl) (Or.inr rfl))) (λ_ _ _ _=>cX) (λ_ _ _ _=>(aU O k (by decide) rfl (aA (mv 1) (aA (mv 0) aB))))) aB))))),?_⟩
 have c:(b.map V.str).length=b.length:=Ab ..
 fail "g";rw[c];refine eJ (λo=>?_) (λo=>?_)
 .fail "g";have e:dF b=false:=if_pos (.inl (by have:=Az o;omega))
  have r:=q H (Z_.refl H)
  rwa[e]at r
 .have J:=Bq (Br.mpr o)
  fail "g";rw[c];refine eJ (λn=>?_) (λn=>?_)
  .fail "g";have e:dF b=false:=if_pos (.inr (by have:=Az n;omega))
   have r:=q H (Z_.refl H)
   rwa[e]at r
  .have I:=Bq (Br.mpr n)
   fail "g";refine⟨⟨by (exact Int.natCast_nonneg _),by (exact Int.natCast_nonneg _)⟩,?_⟩
   fail "g";refine SH (λi x=>match x with|.str z=>some (.bl (dI z ((1+i:Nat):Int)))|_=>none) L (by rw[c];exact bG (by (exact Nat.le_trans (by assumption) (by decide)))) (λi x Hc p A B y U W M=>?_) (λD Z Y u k=>?_)
   .obtain⟨z,m,rfl⟩:=iK y;fail "g";refine⟨Wk.set rfl (Wk.set rfl (Wk.refl _)),?_⟩;fail "g";refine⟨z,_,rfl,v z (Am m),?_⟩;exact M _ (Z_.refl _)
   .have S:((List.range (b.map V.str).length).filterMap λi=>(λi x=>match x with | .str z=>some (V.bl (dI z ((1+i:Nat):Int))) | _=>none:Nat->V->Option V) i ((b.map V.str).getD i .non))=((List.range b.length).map λi=>dI (b.getD i ⟨#[]⟩) ((1+i:Nat):Int)).map V.bl:=by
     rw[c,Cd];refine(jT (g:=λi=>some (V.bl (dI (b.getD i ⟨#[]⟩) ((1+i:Nat):Int)))) λi C=>?_).trans (kU _ _);have d:=Bu.mp C
     rw[Ac,Ag,Aa d,Ac,Aa d];rfl
    rw[S]at k;fail "g";refine Uk k ?_;have R:dF b=((List.range b.length).map λi=>dI (b.getD i ⟨#[]⟩) ((1+i:Nat):Int)).all id:=by
     unfold dF;rw[if_neg (by omega),Ir]
     rfl
    have r:=q _ u
    rwa[R]at r
def m3:Z9 ["flags", "word", "flag"] ["flags"] (aK qZ):=by fail "sc"
def Ke(F:ZT K "read_of" "read_of" qZ f fd)(Z:ZR P w K mg base 3 "is_hoist" ["flags"] sN):Z8 P w K mg base (Za P w) 4 f fd ["flags"] (pC Zx):=by
 refine F.XM m3 (λL H Q E h=>?_) (λa1 A t s H L Q E R h=>?_)
 .obtain⟨a,b,rfl,_⟩:=h;rfl
 obtain⟨a,b,rfl,I,W,N,q,M⟩:=h;refine⟨_,(@aD _ _ _ _ _ (cD (sM (gH (aU Z R (by decide) rfl (aA (mv 0) aB)))) (@aI _ _ _ (jY fY rfl rfl rfl G.c_NoHoist G.Xz Cs (@cY _ _ _ _ _ _ aB))) bF) (@aD _ _ _ _ _ (aP 1 m3.nd fO) (@aD _ _ _ _ _ (PS.W2 (cP Bl rfl (bT (mv 0)) (bC (i:=2) m3.nd rfl (Or.inl rfl)) (@aI _ _ _ (cD (bA Vf (mv 2) (eQ rfl G.s_SUBSTITUTES) (by rfl)) (@aI _ _ _ (aP 1 m3.nd (aR bQ (mv 1) (bD bN (mv 1) (aR lL (bS TZ rfl G.b_int TU (aA (mv 2) aB)) aJ) (λ_ _=>rfl))))) (@aI _ _ _ (aP 1 m3.nd (aR bQ (mv 1) (mv 2)))))))) (@aI _ _ _ (aT (mv 1)))))),?_⟩
 fail "g";refine⟨a,b,rfl,I,W,N,λJ r=>?_⟩;have D:=aO r I
 fail "g";cases o:dF b with
 |false=>
  fail "g";exact⟨r0,M o J r⟩
 |true=>
  fail "g";have h7:=fG o
  refine fP (xs:=b.map V.str) (λi U p=>∃v,U=[some (.ref a),some (.str (aV (YU ((b.map mP).take i)))),v]/\p=J)
   ⟨none,rfl,rfl⟩ (λi U p _ ⟨_,_,e⟩=>by rw[e];exact D) ?_ ?_
  .rintro i x U p O ⟨v,rfl,rfl⟩;obtain⟨z,u,rfl⟩:=iK O;obtain⟨c,rfl,n,C⟩:=xH o u;have hi:=(Ad.mp n).1
   have T:(b.map mP).length=b.length:=Ab ..
   have m:(YU ((b.map mP).take i)).length=i:=qH (by (exact Nat.le_of_lt (by assumption)))
   have j:=uM n
   generalize YU ((b.map mP).take i)=d at m j ⊢;have y:=(cU d).trans m
   fail "g";rw[if_neg Ar,show subIn (one c) "1234"=decide (eC c) from xL c];refine eJ (λB=>?_) (λB=>?_)
   .have k:=Az B
    have S:=(C.resolve_left λl=>mS l k).2
    have X:=k.1
    fail "g";refine T7 (uD k) (by show 1<=640;decide) ?_
    fail "g";have e1:YY (aV d).cps.toList ((c:Int)-48-1)=some (d.getD (c-49) 0):=by
     rw[show ((c:Int)-48-1)=((c-49:Nat):Int) by ((try clear C S T W h7 hi m y);omega)]
     refine aW ?_;rw[cS,Ac,Aa (by ((try clear C T W X h7 hi);omega))]
     rfl
    have Y:(⟨#[d.getD (c-49) 0]⟩:Str).length=1:=rfl
    refine vD (by rw[y];exact bM (by ((try clear C S X Y);omega))) e1 ?_
    fail "g";refine⟨some (.str (one c)),?_,rfl⟩;rw[j,show VJ d c=d.getD (c-49) 0 from if_pos k,<-jQ];rfl
   .have k:=Bq (Br.mpr B)
    have Y:(one c).length=1:=rfl
    fail "g";refine⟨some (.str (one c)),?_,rfl⟩;rw[j,show VJ d c=c from if_neg k,<-jQ];rfl
  .rintro U p ⟨v,rfl,rfl⟩;fail "g";have e:(b.map mP).take (b.map V.str).length=b.map mP:=Bi (by rw[Ab,Ab];exact Ai _)
   rw[e];exact q o _ r
abbrev Wt:=Nat×Nat
noncomputable def dQ(w:Wt):List Key:=[Sum.inl (w.1:Int),Sum.inl (w.2:Int)]
def pV{a b:Wt}(h:dQ a=dQ b):a=b:=by
 unfold dQ at h;grind
noncomputable def dN(a:List (Wt×Nat))(w:Wt):Option Nat:=(a.find? λb=>decide (b.1=w)).map (·.2)
noncomputable def eX(m:List (Wt×Nat))(f:Nat):List Wt:=(m.filter λx=>decide (x.2=f)).map (·.1)
noncomputable def YJ(m:List (Wt×Nat))(f:Nat):Nat:=m.countP λx=>decide (x.2=f)
def fW{x:Wt×Nat}{m:List _}{w:Wt}:dN (x::m) w=if x.1=w then some x.2 else dN m w:=by
 unfold dN;grind
def Rx{w:Wt}{f:Nat}(h:dN m w=some f):(w,f)∈m:=by
 induction m with
 |nil=>cases h
 |cons x m a=>
  rw[fW]at h;grind
def qP(a:(m.map (·.1)).Nodup){w:Wt}{f:Nat}(h:(w,f)∈m):dN m w=some f:=by
 induction m with
 |nil=>cases h
 |cons x m b=>
  rw[fW];grind
def Yz{w:Wt}:dN m w=none ↔ w∉m.map (·.1):=by
 induction m with
 |nil=>exact⟨λ_ z=>(nomatch z),λ_=>rfl⟩
 |cons x m a=>
  rw[fW,As,Bc];grind
def Xi{f:Nat}{w:Wt}:w∈eX m f ↔ (w,f)∈m:=by
 unfold eX;simp_all
def Tf(m:List _)(f:Nat):(eX m f).length=YJ m f:=by
 unfold eX YJ;rw[Ab,Gp]
structure Asking (ch:Wt->List Nat) (m:List (Wt×Nat)) (first:Wt) (A:List (Nat×Wt)):Prop where
 nd:(A.map (·.1)).Nodup
 ok:∀(j:Nat) f w,A[j]?=some (f,w)->f∈ch w/\(w=first\/∃(g:Nat) (i:Nat) (v:Wt),i<j/\A[i]?=some (g,v)/\dN m w=some g)
noncomputable def cI(m:List (Wt×Nat))(first:Wt)(A:List (Nat×Wt)):List Wt:=first::(A.map (·.1)).flatMap (eX m)
def oU(m:List _)(first:Wt)(A:List _)(f:Nat)(w:Wt):cI m first (A++[(f,w)])=cI m first A++eX m f:=by
 unfold cI;simp_all
def Ze{w:Wt}:w∈cI m first A ↔ w=first\/∃f∈A.map (·.1),(w,f)∈m:=by
 unfold cI;rw[Bc,Ij];constructor
 .rintro(h|⟨f,hf,h⟩)
  .exact .inl h
  .exact .inr ⟨f,hf,Xi.mp h⟩
 .rintro(h|⟨f,hf,h⟩)
  .exact .inl h
  .exact .inr ⟨f,hf,Xi.mpr h⟩
def wM(m:List (Wt×Nat)):∀ {b:List Nat},b.Nodup->(b.flatMap (eX m)).length=m.countP (λx=>decide (x.2∈b))
 |[],_=>by simp
 |f::b,nd=>by
  rw[Gw,Af,Tf,wM m (Cp.mp nd).2]
  unfold YJ;induction m with
  |nil=>rfl
  |cons x m d=>
   rw[Dv,Dv,Dv,<-d];grind
def sG(a:(A.map (·.1)).Nodup):(cI m first A).length<=1+m.length:=by
 unfold cI;rw[Av,wM m a];grind
def Asking.snoc{first w:Wt}{A:List (Nat×Wt)}{f:Nat}(d:(m.map (·.1)).Nodup)(h:Asking ch m first A)(t:f∉A.map (·.1))(u:f∈ch w)(r:w∈cI m first A):Asking ch m first (A++[(f,w)]):=by
 refine⟨?_,λj g v a=>?_⟩
 .rw[Ap];exact List.nodup_append.mpr ⟨h.nd,by simp,λx c y q=>by rw[List.mem_singleton.mp q];intro z;have p:=z;rw[p]at c;exact t c⟩
 .by_cases k:j<A.length
  .rw[An k]at a;obtain⟨C,B⟩:=h.ok j g v a;refine⟨C,B.imp id ?_⟩;rintro⟨o,i,v',b,hA,hg⟩;exact⟨o,i,v',b,by rw[An (by omega)];exact hA,hg⟩
  .have l:j=A.length:=by
    have:=(Ad.mp a).1
    rw[Af]at this;have:j<A.length+1:=this
    omega
   subst l;rw[Aq (Ai _),Ej]at a;cases a;refine⟨u,?_⟩;rcases Ze.mp r with e|⟨o,n,s⟩
   .exact .inl e
   .obtain⟨x,c,rfl⟩:=Bb.mp n;obtain⟨i,b,D⟩:=Bv.mp c;exact .inr ⟨x.1,i,x.2,b,by rw[An b,Aa b,D],qP d s⟩
structure W8 (ch:Wt->List Nat) (m:List (Wt×Nat)) (first:Wt) (A:List (Nat×Wt)):Prop extends Asking ch m first A where
 all1:∀f∈ch first,f∈A.map (·.1)
 all:∀w g,(w,g)∈m->g∈A.map (·.1)->∀f∈ch w,f∈A.map (·.1)
def Asking.done(h:Asking ch m first A)(a:∀w∈cI m first A,∀f∈ch w,f∈A.map (·.1)):W8 ch m first A:=
 ⟨h,a first (Ze.mpr (.inl rfl)),λw g b c=>a w (Ze.mpr (.inr ⟨g,c,b⟩))⟩
noncomputable def WV(m:List (Wt×Nat))(w:Wt)(f:Nat):List (Wt×Nat):=if (dN m w).isSome=true then m.map λx=>if x.1=w then (x.1,f) else x else m++[(w,f)]
def KS{w v:Wt}{f:Nat}:dN (m.map λx=>if x.1=w then (x.1,f) else x) v=(dN m v).map λg=>if v=w then f else g:=by
 induction m with
 |nil=>rfl
 |cons x m b=>
  rw[As,fW,fW,b];grind
def keys_map{m:List _}{w:Wt}{f:Nat}:(m.map λx=>if x.1=w then (x.1,f) else x).map (·.1)=m.map (·.1):=by
 rw[Cd];refine Dz λx _=>?_;grind
def DG{w:Wt}{f:Nat}(a:(m.map (·.1)).Nodup)(h:dN m w=some g)(c:Nat):YJ (m.map λx=>if x.1=w then (x.1,f) else x) c+(if c=g then 1 else 0)=YJ m c+(if c=f then 1 else 0):=by
 induction m with
 |nil=>cases h
 |cons x m b=>
  rw[As,Cp]at a;rw[fW]at h;unfold YJ at b ⊢;rw[As,Dv,Dv];by_cases e:x.1=w
  .rw [if_pos e] at h;cases h;have i:(m.map λx=>if x.1=w then (x.1,f) else x)=m:=by
    refine(Dz λy d=>?_).trans (List.map_id _);grind
   rw[if_pos e,i];have k:(decide ((x.1,f).2=c)=true)=(c=f):=by rw[Bp];exact propext ⟨λz=>z.symm,λz=>z.symm⟩
   have j:(decide (x.2=c)=true)=(c=x.2):=by rw[Bp];exact propext ⟨λz=>z.symm,λz=>z.symm⟩
   simp only[k,j];omega
  .rw[if_neg e]at h;rw[if_neg e];have r:=b a.2 h
   omega
structure Yx (ch:Wt->List Nat) (m0:List (Wt×Nat)) (A:List (Nat×Wt)) (f0:Nat) (m:List (Wt×Nat)) (c j:Nat) (w:Wt):Prop where
 keys:m.map (·.1)=m0.map (·.1)
 ok:∀v f,(v,f)∈m->f∈ch v
 ct:∀f,YJ m f+(if f=c then 1 else 0)=YJ m0 f+(if f=f0 then 1 else 0)
 at_:A[j]?=some (c,w)
 same:∀v g i u,dN m0 v=some g->A[i]?=some (g,u)->i<j->dN m v=some g
def Ql{A:List (Nat×Wt)}(a:(A.map (·.1)).Nodup){u v:Wt}(c:A[i]?=some (g,u))(b:A[j]?=some (g,v)):i=j:=by
 obtain⟨e,h⟩:=Ad.mp c;obtain⟨d,f⟩:=Ad.mp b;refine(He (h₀:=by simp_all) (h₁:=by simp_all) a).mp ?_
 rw[Eo,Eo,h,f]
def Yx.step{a m:List (Wt×Nat)}{A:List (Nat×Wt)}{s c:Nat}{first w v:Wt}(q:Asking ch a first A)(b:(a.map (·.1)).Nodup)(h:Yx ch a A s m c j w)(p:dN a w=some g)(k:A[i]?=some (g,v))(d:i<j):dN m w=some g/\Yx ch a A s (m.map λx=>if x.1=w then (x.1,c) else x) g i v:=by
 have y:(m.map (·.1)).Nodup:=by rw[h.keys];exact b
 have o:=h.same w g i v p k d
 refine⟨o,keys_map.trans h.keys,λu f C=>?_,λf=>?_,k,λu D z t l r G=>?_⟩
 .obtain⟨x,B,e⟩:=Bb.mp C;by_cases n:x.1=w
  .rw[if_pos n]at e;cases e;rw[n];exact(q.ok j c w h.at_).1
  .rw[if_neg n]at e;exact h.ok u f (e▸B)
 .have F:=DG (f:=c) y o f
  have E:=h.ct f
  ((try clear d);omega)
 .rw[KS,h.same u D z t l r (by omega),Fn]
  by_cases e:u=w
  .subst e;rw[p]at l;cases l;exact absurd (Ql q.nd k r) (by (exact Nat.ne_of_gt (by assumption)))
  .rw[if_neg e]
def Yx.last{a m:List (Wt×Nat)}{A:List (Nat×Wt)}{b c:Nat}{first:Wt}(i:Asking ch a first A)(g:first∉a.map (·.1))(h:Yx ch a A b m c j first):dN m first=none/\(m++[(first,c)]).map (·.1)=a.map (·.1)++[first]/\(∀v f,(v,f)∈m++[(first,c)]->f∈ch v)/\∀f,YJ (m++[(first,c)]) f=YJ a f+(if f=b then 1 else 0):=by
 refine⟨Yz.mpr (by rw[h.keys];exact g),by rw[Ap,h.keys];rfl,λv f d=>?_,λf=>?_⟩
 .rcases Bk.mp d with e|e
  .exact h.ok v f e
  .cases Ah.mp e;exact(i.ok j c first h.at_).1
 .have r:=h.ct f
  unfold YJ at r ⊢;grind
noncomputable def lC(m:List (Wt×Nat))(first:Wt)(A:List (Nat×Wt))(a:List Wt):List Wt:=a.filter λw=>decide (w=first) || (match dN m w with|some g=>decide (g∈A.map (·.1))|none=>false)
noncomputable def lB(m:List (Wt×Nat))(first:Wt)(A:List (Nat×Wt))(w:Wt):Bool:=decide (w=first) || (match dN m w with|some g=>decide (g∈A.map (·.1))|none=>false)
def KW{first w:Wt}{A:List _}(h:w=first):lB m first A w=true:=by
 unfold lB;simp_all
def vP{first w:Wt}{A:List _}(h:w≠first)(e:dN m w=none):lB m first A w=false:=by
 unfold lB;simp_all
def vS{first w:Wt}{A:List _}(h:w≠first)(e:dN m w=some g):lB m first A w=decide (g∈A.map (·.1)):=by
 unfold lB;simp_all
def wW{w:Wt}:lC m first A (ws++[w])=lC m first A ws++if lB m first A w=true then [w] else []:=by
 have e:∀l,lC m first A l=l.filter (lB m first A):=λl=>rfl
 rw[e,e,Fi,Ef];rfl
def XB{first w:Wt}{A:List _}{a:List Wt}:w∈lC m first A a ↔ w∈a/\lB m first A w=true:=by
 have e:∀l,lC m first A l=l.filter (lB m first A):=λl=>rfl
 rw[e,Di]
def AR{first:Wt}{A:List (Nat×Wt)}{l r:List Wt}(c:m.map (·.1)=l)(b:(l++first::r).Nodup):(lC m first A (l++first::r)).length=1+m.countP (λx=>decide (x.2∈A.map (·.1))):=by
 have k:(m.map (·.1)).Nodup:=by rw[c];exact(Ek.mp b).1
 have i:=λz=>(Ek.mp b).2.2 first z first Al rfl
 have h:=(Cp.mp (Ek.mp b).2.1).1
 have d:=λw a z=>(Ek.mp b).2.2 w z w (Ak _ a) rfl
 unfold lC;rw[Fi,Af,Ef,if_pos (by rw[Ao rfl];rfl),Av]
 have n:r.filter (λw=>decide (w=first) || (match dN m w with|some g=>decide (g∈A.map (·.1))|none=>false))=[]:=by
  refine List.filter_eq_nil_iff.mpr λw a=>?_;have e:=Yz.mpr (by rw[c];exact d w a)
  rw[Aw (show ¬w=first from λz=>by rw[z]at a;exact h a),e,Bool.false_or]
  exact Ar
 have o:(l.filter (λw=>decide (w=first) || (match dN m w with|some g=>decide (g∈A.map (·.1))|none=>false))).length=m.countP (λx=>decide (x.2∈A.map (·.1))):=by
  rw[<-c,List.filter_map,Ab,<-Gp];refine List.countP_congr λx j=>?_;show (decide (x.1=first) || (match dN m x.1 with|some g=>decide (g∈A.map (·.1))|none=>false))=true ↔ _
  rw[qP k (w:=x.1) (f:=x.2) j,Aw (λz=>i (by rw[<-z,<-c];exact Bb.mpr ⟨x,j,rfl⟩)),Bool.false_or]
 rw[n,o,List.length_nil];((try clear o);omega)
def B5(m:List _):∀ {a:List Nat},a.Nodup->m.countP (λx=>decide (x.2∈a))=(a.map (YJ m)).sum:=fun {a} b=>by
 rw[<-wM m b];induction a with
 |nil=>rfl
 |cons f a c=>rw[Gw,Af,Tf,As,Cv,c (Cp.mp b).2]
noncomputable def qI(cws:List (List Nat))(k:Nat):List Wt:=(List.range (cws.getD k []).length).map λj=>(k,1+j)
noncomputable def XG(cws:List (List Nat))(i:Nat):List Wt:=(List.range i).flatMap (qI cws)
noncomputable def wl(cws:List (List Nat)):List Wt:=XG cws cws.length
noncomputable def wV(w:Wt):List V:=[.int (w.1:Int),.int (w.2:Int)]
def mM(cws:Q6)(i:Nat):XG cws (i+1)=XG cws i++qI cws i:=by
 unfold XG;rw[Cm,Ga];simp
def vI(cws:Q6):∀i,pH cws i=(XG cws i).map wV
 |0=>rfl
 |i+1=>by
  rw[mJ,mM,Ap,vI cws i];congr 1
  unfold Wr qI;rw[Cd];refine Dz λj _=>?_;show [V.int _,V.int _]=[V.int _,V.int _]
  grind
def Yt{w:Wt}:∀ {i:Nat},w∈XG cws i ↔ w.1<i/\1<=w.2/\w.2<=(cws.getD w.1 []).length:=fun {i}=>by
 unfold XG qI;rw[Ij];constructor
 .rintro⟨k,hk,h⟩;obtain⟨j,a,rfl⟩:=Bb.mp h;have:=Bu.mp hk
  grind
 .rintro⟨h1,h2,h3⟩;refine⟨w.1,Bu.mpr h1,Bb.mpr ⟨w.2-1,Bu.mpr (by ((try clear h1);omega)),?_⟩⟩
  grind
def qW(cws:Q6):∀i,(XG cws i).Nodup
 |0=>List.nodup_nil
 |i+1=>by
  rw[mM];refine Ek.mpr ⟨qW cws i,?_,λa d b c e=>?_⟩
  exact List.Pairwise.map _ (λa b h=>λz=>h (by have:=Dp Prod.snd z;have e:=this;((try clear e h);omega))) List.nodup_range
  .subst e;have f:=(Yt.mp d).1
   obtain⟨j,_,rfl⟩:=Bb.mp c;simp_all
def O_(a:∀c∈cws,c.length<=7)(i:Nat):(XG cws i).length<=7*i:=by
 have:=pB a i
 rw[vI,Ab]at this;(assumption)
noncomputable def ZJ(cws:List (List Nat))(w:Wt):List Nat:=Xm (cws.getD w.1 []) (w.2-1)
noncomputable def eO(a:List Wt)(ds:List Addr):List (List Key×V):=List.zipWith (λw d=>(dQ w,V.ref d)) a ds
def Ow(H:Hp)(r:Addr)(cws:List (List Nat))(i:Nat):Prop:=∃a,a.length=i/\H r=some (.dT (eO ((wl cws).take i) a))/\∀j w d,j<i->(wl cws)[j]?=some w->a[j]?=some d->H d=some (.lst (((ZJ cws w).map one).map V.str))
def Ja(b:ws.Nodup)(c:ds.length=ws.length){w:Wt}{d:Addr}(a:ws[j]?=some w)(f:ds[j]?=some d):cN (eO ws ds) (dQ w)=some (.ref d):=by
 induction ws generalizing ds j with
 |nil=>cases a
 |cons x ws g=>
  cases ds with
  |nil=>cases c
  |cons e ds=>
   show cN ((dQ x,V.ref e)::eO ws ds) _=_
   cases j with
   |zero=>cases a;cases f;exact cQ rfl
   |succ j=>
    have h:=Am (show ws[j]?=some w from a)
    rw[cJ (λz=>(Cp.mp b).1 (by rw[pV z];exact h))]
    exact g (List.nodup_cons.mp b).2 (by simpa using c) a f
def BQ{w:Wt}(h:w∉ws):cN (eO ws ds) (dQ w)=none:=by
 induction ws generalizing ds with
 |nil=>rfl
 |cons x ws a=>
  cases ds with
  |nil=>rfl
  |cons e ds=>
   show cN (_::eO ws ds) _=_
   rw[cJ (λz=>h (by rw[pV z];exact Al))]
   simp_all
def zT{a:List Wt}(b:ds.length=a.length):(eO a ds).length=a.length:=by
 unfold eO;grind
def KU{a:List Wt}{w:Wt}{d:Addr}(b:ds.length=a.length):eO (a++[w]) (ds++[d])=eO a ds++[(dQ w,V.ref d)]:=by
 unfold eO;rw[List.zipWith_append (by omega)]
 rfl
def oA:Sp:=λe H Q _=>∃a b,e=[.ref a]/\Z4 H a=some ((b.map aV).map V.str)/\b.length<=8/\(∀c∈b,c.length<=7)/\
 ∀r d,H r=none->Z_ H d->Ow d r b (wl b).length->Q (.ref r) d
def g0:Z9 ["words", "choices", "want"] ["words"] (aK lA):=by fail "sc"
def yJ(F:ZT K "choices_of" "choices_of" lA f fd)(G:Gs K mg w Zs Zz Zt Zx Z0 Zw Zy Zu Zv)(f6:ZR P w K mg base 1 "wants_of" ["words"] sU)(f7:ZR P w K mg base 1 "choices_at" ["word", "place"] oM):Z8 P w K mg base ZS 2 f fd ["words"] oA:=by
 refine F.ok g0 (λvs H Q E h=>?_) (λb4 A a3 s H vs Q E C h=>?_)
 .obtain⟨a,c,rfl,_⟩:=h;rfl
 obtain⟨a,c,rfl,ha,h8,h7,q⟩:=h;refine⟨_,(@aD _ _ _ _ _ (@SE _ _ 1 _ _ _ _ g0.nd (by rfl) (by exact(Or.inl rfl)) NO (by rfl) (by fail "o")) (@aD _ _ _ _ _ (cP Bl rfl (bT (aU f6 C (by decide) rfl (aA (mv 0) aB))) (bC (i:=2) g0.nd rfl (Or.inl rfl)) (@aI _ _ _ (iV (Z2.u1 C) (mv 1) (mv 2) (aU f7 C (by decide) rfl (aA (bD bN (mv 0) (bD bN (mv 2) aJ (λ_ _=>rfl)) (λ_ _=>rfl)) (aA (bD bN (mv 2) aJ (λ_ _=>rfl)) aB))) rfl))) (@aI _ _ _ (aT (mv 1))))),?_⟩
 fail "g";intro y n;fail "g";refine⟨a,c,rfl,aO (aG n _) ha,h8,h7,λr I H1 C s1 e1 tp=>?_⟩;have a2:=(aG n (.dT [])).trans s1
 have S:=s1 _ _ (aE (H:=H) (a:=y) (o:=.dT []))
 have b3:(wl c).length<=56:=Bh (O_ h7 _) (by omega)
 rw[vI]at tp;have N:I.length=(wl c).length:=by rw[tp.1,Ab];rfl
 have a4:(I.map V.ref).length=(wl c).length:=by rw[Ab,N]
 have a1:∀j p w,I[j]?=some p->(wl c)[j]?=some w->H1 p=some (.tup (wV w)):=λj p w hp hw=>(tp.2 j p _ hp (by rw[Ag];exact Dp (Option.map wV) hw)).2
 have r1:=aM e1
 have a9:y≠r:=λz=>by rw[<-z,aE]at C;cases C
 fail "g";refine fP (xs:=I.map V.ref) (λi U H'=>∃v,U=[some (.ref a),some (.ref y),v]/\Z_ H H'/\(∀b u,b≠y->H1 b=some u->H' b=some u)/\Ow H' y c i)
  ⟨_,rfl,a2,λb u _ h=>h,[],rfl,S,λj w d Y=>absurd Y (Gm _)⟩ (λi U H' _ ⟨_,_,_,k,_⟩=>aM (k _ _ (Ne.symm a9) e1)) ?_ ?_
 .rintro i x U H2 J ⟨v,rfl,W,k2,ds,dl,ed,a7⟩;rw[Ag]at J;cases e:I[i]? with
  |none=>rw[e]at J;cases J
  |some p=>
   rw[e]at J;cases J;have hi:i<(wl c).length:=by rw[<-N];exact(Ad.mp e).1
   have Z:=Aa hi
   have hm:=Yt.mp (Bx hi)
   have l:=a1 i p _ e Z
   have M:p≠y:=λz=>by rw[z,S]at l;cases l
   have X:=k2 _ _ M l
   have B:(wl c)[i]∉(wl c).take i:=λz=>by
    obtain⟨j,Y,ej⟩:=Bv.mp z;rw[Bt]at Y;rw[List.getElem_take]at ej;have:=(He (qW c c.length)).mp ej
    ((try clear M a9 b3 dl h8 hm);omega)
   have L:(wl c).take (i+1)=(wl c).take i++[(wl c)[i]]:=by rw[Be,Z];rfl
   generalize hw:(wl c)[i]=w at hm X B L Z;obtain⟨h1,h2,h3⟩:=hm;have R:c[w.1]?=some (c.getD w.1 []):=by rw[Ac,Aa h1];rfl
   have b2:=h7 _ (Am R)
   have b1:=aO W ha
   fail "g";refine cF X (v:=.int (w.1:Int)) rfl ?_;fail "g";refine bX b1 (v:=.str (aV (c.getD w.1 []))) (aW (by rw[Ag,Ag,R];rfl)) ?_
   fail "g";refine cF X (v:=.int (w.2:Int)) rfl ?_;fail "g";refine⟨c.getD w.1 [],w.2-1,_,rfl,by ((try clear M N a4 a9 b2 b3 dl h1 h3 h8 hi);omega),by ((try clear M N a4 a9 b2 b3 dl h1 h8 hi);omega),b2,λd H3 hd D e3=>?_⟩
   fail "g";have T:ds.length=((wl c).take i).length:=by rw[dl,Bt];((try clear M a9 b2 b3 dl h1 h2 h3 h8);omega)
   refine Tv (k:=dQ w) (D _ _ ed) (D _ _ X) (bG (by rw[zT T,Bt];((try clear M a9 b2 h1 h2 h3 h8);omega))) ?_
   have a8:d≠y:=λz=>by rw[z,ed]at hd;cases hd
   refine⟨_,rfl,bJ n (W.trans D),λb u hb hu=>by rw[aH hb];exact D _ _ (k2 b u hb hu),ds++[d],by rw[Af,dl];rfl,?_,λj v' d' Y hv t=>?_⟩
   .rw[aE,mO _ (BQ B),L,KU T]
   .by_cases a5:j<i
    .rw[An (by ((try clear M N Y a4 a8 a9 b2 b3 h1 h2 h3 h8 hi);omega))]at t
     have m:=a7 j v' d' a5 hv t
     rw[aH (λz=>by rw[z,ed]at m;cases m)]
     exact D _ _ m
    .have a6:j=i:=by ((try clear M N a4 a8 a9 b2 b3 h1 h2 h3 h8 hi);omega)
     subst a6;rw[Z]at hv;cases hv;rw[Aq (by (exact Nat.le_of_eq (by assumption))),dl,Ej]at t
     cases t;rwa[aH a8]
 .rintro U H2 ⟨v,rfl,W,k2,O⟩;rw[a4]at O;exact q y H2 n W O
noncomputable def VE(w:Wt)(A:List (Nat×Wt))(f:Nat):List (Nat×Wt):=if f∈A.map (·.1) then A else A++[(f,w)]
noncomputable def eM(ch:Wt->List Nat)(m:List (Wt×Nat))(first:Wt):Nat->List (Nat×Wt)
 |0=>[]
 |t+1=>match (cI m first (eM ch m first t))[t]? with
  |some w=>(ch w).foldl (VE w) (eM ch m first t)
  |none=>eM ch m first t
def wI{m:List _}{first:Wt}{t:Nat}(h:(cI m first (eM ch m first t)).length<=t):∀k,eM ch m first (t+k)=eM ch m first t
 |0=>rfl
 |k+1=>by
  have a:=wI h k
  show (match _[t+k]? with
   |some w=>(ch w).foldl _ _
   |none=>eM ch m first _)=_
  grind
noncomputable def xG(ch:Wt->List Nat)(m:List (Wt×Nat))(first:Wt):List (Nat×Wt):=eM ch m first 57
def BX{m:List _}{first:Wt}{t:Nat}(h:(cI m first (eM ch m first t)).length<=t)(a:t<=57):eM ch m first t=xG ch m first:=by
 unfold xG;have e:57=t+(57-t):=by ((try clear h);omega)
 rw[e,wI h _]
inductive ZL (A:List (Nat×Wt)):Nat->List (Wt×Nat)->List (Wt×Nat)->Prop
 |stop {c j:Nat} {w:Wt} {m:List (Wt×Nat)}:A[j]?=some (c,w)->dN m w=none->ZL A c m (WV m w c)
 |step {c j g:Nat} {w:Wt} {m m':List (Wt×Nat)}:A[j]?=some (c,w)->dN m w=some g->ZL A g (WV m w c) m'->ZL A c m m'
def Uq{A:List _}(d:(A.map (·.1)).Nodup){c:Nat}{u v:Wt}(b:A[i]?=some (c,u))(a:A[j]?=some (c,v)):u=v:=by
 have e:=Ql d b a
 grind
def ZL.one(e:(A.map (·.1)).Nodup){c:Nat}{m j:List _}(h:ZL A c m j):∀ {f},ZL A c m f->j=f:=by
 induction h with
 |stop d g=>
  intro f i;cases i with
  |stop b a=>rw[Uq e d b]
  |step b a _=>rw[Uq e b d,g]at a;cases a
 |step d g _ k=>
  intro f i;cases i with
  |stop b a=>rw[Uq e b d,g]at a;cases a
  |step b a r=>
   obtain rfl:=Uq e d b;grind
noncomputable def VB(n:Nat->Int)(m:List (Wt×Nat))(A:List (Nat×Wt)):List Nat:=(A.map (·.1)).filter λc=>decide (0<n c-(YJ m c:Int))
inductive ZI (cws:List (List Nat)) (n:Nat->Int):Nat->List (Wt×Nat)->Prop
 |zero:ZI cws n 0 []
 |succ {i c:Nat} {m m':List (Wt×Nat)} {w:Wt}:ZI cws n i m->(wl cws)[i]?=some w->((xG (ZJ cws) m w).map (·.1)).Nodup->(VB n m (xG (ZJ cws) m w)).head?=some c->ZL (xG (ZJ cws) m w) c m m'->ZI cws n (i+1) m'
def ZI.one(h:ZI cws n i m):∀ {c},ZI cws n i c->m=c:=by
 induction h with
 |zero=>intro c e;cases e;rfl
 |succ _ k g l o j=>
  intro p e;cases e with
  |succ f a _ b d=>
   obtain rfl:=j f;rw[k]at a;cases a;rw[l]at b;cases b;exact o.one g d
def ZI.down(h:ZI cws n j m):i<j->∃a w c,ZI cws n i a/\(wl cws)[i]?=some w/\(VB n a (xG (ZJ cws) a w)).head?=some c:=by
 induction h with
 |zero=>exact λz=>absurd z (Gm _)
 | @succ k c m l w s d g f p b=>
  intro o;by_cases e:i=k
  .subst e;exact⟨m,w,c,s,d,f⟩
  .exact b (by omega)
def Sn(cws:List (List Nat))(n:Nat->Int)(W:List Wt)(F:List Nat):Prop:=∃i m w,ZI cws n i m/\(wl cws)[i]?=some w/\VB n m (xG (ZJ cws) m w)=[]/\W=lC m w (xG (ZJ cws) m w) (wl cws)/\F=ZW.cps.toList.filter λc=>decide (c∈(xG (ZJ cws) m w).map (·.1))
def Zg(cws:List (List Nat))(n:Nat->Int)(fs:List Nat):Prop:=∃m,ZI cws n (wl cws).length m/\fs=m.map (·.2)
def Zg.one{a:List Nat}(h:Zg cws n fs)(h':Zg cws n a):fs=a:=by
 obtain⟨m,s,rfl⟩:=h;obtain⟨c,b,rfl⟩:=h';rw[s.one b]
noncomputable def iQ(m:List (Wt×Nat)):List (List Key×V):=m.map λx=>(dQ x.1,V.str (one x.2))
def lO(m:List _)(w:Wt):cN (iQ m) (dQ w)=(dN m w).map λf=>V.str (one f):=by
 induction m with
 |nil=>rfl
 |cons x m a=>
  show cN (_::iQ m) _=_
  rw[fW];by_cases e:x.1=w
  .rw[if_pos e,cQ (by grind)]
   rfl
  .rw[if_neg e,cJ (λz=>e (pV z)),a]
noncomputable def gN(A:List (Nat×Wt))(bs:List Addr):List (Key×V):=List.zipWith (λx b=>(Sum.inr (one x.1),V.ref b)) A bs
def nU(a:bs.length=A.length)(f:Nat):(cN (gN A bs) (Sum.inr (one f))).isSome=decide (f∈A.map (·.1)):=by
 induction A generalizing bs with
 |nil=>rfl
 |cons x A c=>
  cases bs with
  |nil=>cases a
  |cons b bs=>
   show (cN ((Sum.inr (one x.1),V.ref b)::gN A bs) _).isSome=_
   by_cases e:x.1=f
   .rw[cQ (by show (Sum.inr (one x.1):Key)=Sum.inr (one f);rw[e]),Ao (by rw[<-e];exact Al)]
    rfl
   .rw[cJ (λz=>e (Y8.mp z)),c (by simpa using a)]
    grind
def JT(a:bs.length=A.length){f:Nat}(h:f∉A.map (·.1)):cN (gN A bs) (Sum.inr (one f))=none:=by
 have r:=nU a f
 simp_all
def FE{x:Nat×Wt}(a:bs.length=A.length):gN (A++[x]) (bs++[b])=gN A bs++[(Sum.inr (one x.1),V.ref b)]:=by
 unfold gN;rw[List.zipWith_append (by omega)]
 rfl
def vX(a:bs.length=A.length):(gN A bs).length=A.length:=by
 unfold gN;grind
def ML(c:(A.map (·.1)).Nodup)(d:bs.length=A.length){f:Nat}{w:Wt}(a:A[j]?=some (f,w))(g:bs[j]?=some b):cN (gN A bs) (Sum.inr (one f))=some (.ref b):=by
 induction A generalizing bs j with
 |nil=>cases a
 |cons x A h=>
  cases bs with
  |nil=>cases d
  |cons e bs=>
   show cN ((Sum.inr (one x.1),V.ref e)::gN A bs) _=_
   rw[As,Cp]at c;cases j with
   |zero=>cases a;cases g;exact cQ rfl
   |succ j=>
    have i:f∈A.map (·.1):=Bb.mpr ⟨(f,w),Am (show A[j]?=some (f,w) from a),rfl⟩
    rw[cJ (λz=>c.1 (by rw[Y8.mp z];exact i))]
    exact h c.2 (by simpa using d) a g
def ZV(H:Hp)(b:List Addr)(a:List Wt):Prop:=b.length=a.length/\∀(j:Nat) r w,b[j]?=some r->a[j]?=some w->H r=some (.tup (wV w))
def ZV.keep{b:List Addr}{a:List Wt}(h:ZV H b a)(k:∀r w,H r=some (.tup (wV w))->H' r=some (.tup (wV w))):ZV H' b a:=⟨h.1,λj r w d c=>k _ _ (h.2 j r w d c)⟩
def ZV.app{d vs:List Wt}(h:ZV H c d)(g:ZV H e vs):ZV H (c++e) (d++vs):=by
 refine⟨by rw[Af,Af,h.1,g.1],λj r w b a=>?_⟩
 by_cases f:j<c.length
 .rw[An f]at b;rw[An (by rwa[<-h.1])]at a
  exact h.2 j r w b a
 .rw[Aq (by omega)]at b
  rw[Aq (by rw[<-h.1];omega),<-h.1]at a
  exact g.2 _ r w b a
def ZV.one{w:Wt}(h:H r=some (.tup (wV w))):ZV H [r] [w]:=⟨rfl,λj q v a b=>by
 cases j with
 |zero=>cases a;cases b;exact h
 |succ j=>cases a⟩
def W7(H:Hp)(r:Addr)(cws:List (List Nat)):Prop:=∃a,a.length=(wl cws).length/\Rd H r (.dT (eO (wl cws) a))/\∀(j:Nat) w d,(wl cws)[j]?=some w->a[j]?=some d->H d=some (.lst (((ZJ cws w).map one).map V.str))
structure YL (cws:List (List Nat)) (m:List (Wt×Nat)):Prop where
 nd:(m.map (·.1)).Nodup
 sub:∀x∈m,x.1∈wl cws
def NR(h:∀c∈cws,c.length<=7/\∀d∈c,aX d){w:Wt}(b:w∈wl cws){f:Nat}(g:f∈ZJ cws w):hJ f:=by
 obtain⟨i,l,k⟩:=Yt.mp b;have a:cws[w.1]?=some (cws.getD w.1 []):=by simp_all
 rcases XU.mp g with e|⟨n,_,j,_,e⟩
 .rw[e];exact .inl (mK (h _ (Am a)).2 (by ((try clear e i);omega)))
 exact .inr ⟨by ((try clear i k l);omega),by ((try clear i k l);omega)⟩
def Od(b:YL cws m)(a:first∈wl cws)(h:Asking (ZJ cws) m first A){f:Nat}{w:Wt}(c:A[j]?=some (f,w)):w∈wl cws:=by
 rcases (h.ok j f w c).2 with e|⟨g,i,v,_,_,d⟩
 .rwa[e]
 .exact b.sub _ (Rx d)
def Qv(i:YL cws m)(b:first∈wl cws)(n:∀c∈cws,c.length<=7/\∀d∈c,aX d)(h:Asking (ZJ cws) m first A):A.length<=27:=by
 have r:=Uu  h.nd λf l=>by
  obtain⟨x,g,rfl⟩:=Bb.mp l;obtain⟨j,k,e⟩:=Bv.mp g;have a:A[j]?=some (x.1,x.2):=by rw[Aa k,e]
  exact Zd.mpr (NR n (Od i b h a) (h.ok j _ _ a).1)
 rwa[Ab]at r
inductive oN(i:List V)(H:Hp)(Q:VK)(zz3:XK):Prop|mk(f h g a m first:_)(_:i=[.ref f,.ref h,.ref g])(_:H f=some (.tup (wV first)))(_:first∈wl a)(_:W7 H h a)(_:H g=some (.dT (iQ m)))(_:YL a m)(_:m.length<=56)(_:a.length<=8)(_:(∀c∈a,c.length<=7/\∀d∈c,aX d))(_:∀r A e b,H r=none->Z_ H b->b r=some (.dK (gN A e))->ZV b e (A.map (·.2))->W8 (ZJ a) m first A->A=xG (ZJ a) m first->Q (.ref r) b):oN i H Q zz3
def w8:Z9 ["first", "choices", "hung", "asked", "reached", "at", "asking", "flag"] ["first", "choices", "hung"] (aK gU):=by fail "sc"
def yB(F:ZT K "asked_from" "asked_from" gU f fd):Z8 P w K mg base ZS 1 f fd ["first", "choices", "hung"] oN:=by
 refine F.ok w8 (λvs H Q E h=>?_) (λk9 A f5 s H vs Q E hr h=>?_)
 .obtain⟨bf,ac,ah,a,m,first,rfl,_⟩:=h;rfl
 obtain⟨bf,ac,ah,a,m,first,rfl,h9,e1,h6,j2,hm,f8,h8,hL,q⟩:=h
 refine⟨_,(@aD _ _ _ _ _ (aP 3 w8.nd wY) (@aD _ _ _ _ _ (aP 4 w8.nd (bO (aA (mv 0) aB))) (@aD _ _ _ _ _ (aP 5 w8.nd aJ) (@aD _ _ _ _ _ (wZ Bl (bA xS (mv 5) (aY cO rfl G.b_len bR (aA (mv 4) aB)) (bB _)) (@aD _ _ _ _ _ (aP 6 w8.nd (bD bN (mv 4) (mv 5) (λ_ _=>rfl))) (@aD _ _ _ _ _ (cP Bl rfl (bT (kO (Z2.u1 hr) (mv 1) (mv 6) (λ_ _=>rfl))) (bC (i:=7) w8.nd rfl (Or.inr rfl)) (@aI _ _ _ (cD (bA (Dw (Z2.u1 hr)) (mv 7) (mv 3) (by rfl)) (@aD _ _ _ _ _ (iV (Z2.u1 hr) (mv 3) (mv 7) (mv 6) rfl) (@aI _ _ _ (bW (cM Bg Ep Er Vv (mv 4) (aA (Rm (cL rfl (pQ (mv 2)) (gF (N:=["want", "flag", "hung"]) ["first", "choices", "hung", "asked", "reached", "at", "asking", "flag"] (aK gU) [none,some 7,some 2] rfl rfl rfl (λx h=>cC h) (by decide +kernel)) (by decide +kernel) rfl (by decide +kernel) (λ_ _ _ _=>(bC (i:=0) (show List.Nodup (["want", "flag", "hung"]:List Str) by decide +kernel) rfl (Or.inl rfl))) (λ_ _ _ _=>(iZ (bA mV (kO (Z2.u1 hr) (mv 2) (mv 0) (λ_ _=>rfl)) (mv 1) (bB _)))) (λ_ _ _ _=>(mv 0)))) aB))))) bF))) (@aI _ _ _ (aP 5 w8.nd (aR bQ (mv 5) aJ)))))) (@aI _ _ _ (aT (mv 3))))))),?_⟩
 fail "g";intro I a4;fail "g";refine⟨r0,λM a3=>?_⟩
 have s1:=(aG a4 (.dK [])).trans (aG a3 (.lst [.ref bf]))
 have b6:I≠M:=λz=>by rw[<-z,aE]at a3;cases a3
 have e9:(upd (upd H I (.dK [])) M (.lst [.ref bf])) I=some (.dK []):=by rw[aH b6,aE]
 have e6:(upd (upd H I (.dK [])) M (.lst [.ref bf])) M=_:=aE
 have d6:=none_of (aG a4 _) a3
 generalize upd (upd H I (.dK [])) M (.lst [.ref bf])=H1 at s1 e9 e6 ⊢;fail "g";refine ⟨λn U d=>∃ (A:List (Nat×Wt)) (y l:List Addr) (t:Nat) (v1 v2:Option V),U=[some (.ref bf),some (.ref ac),some (.ref ah),some (.ref I),some (.ref M),some (.int (t:Int)),v1,v2]/\Z_ H d/\d I=some (.dK (gN A y))/\ZV d y (A.map (·.2))/\d M=some (.lst (l.map V.ref))/\ZV d l (cI m first A)/\
     Asking (ZJ a) m first A/\t<=(cI m first A).length/\(∀j w,j<t->(cI m first A)[j]?=some w->∀f∈ZJ a w,f∈A.map (·.1))/\A=eM (ZJ a) m first t/\n=1+m.length-t,⟨_,[],[],[bf],0,_,_,rfl,s1,e9,⟨rfl,λj r w hr=>(nomatch hr)⟩,e6,.one (s1 _ _ h9),⟨List.nodup_nil,λj f w hj=>(nomatch hj)⟩,Ct _,λj w hj=>absurd hj (Gm _),rfl,rfl⟩,?_⟩
 rintro n U H2 ⟨A,y,l,t,v1,v2,rfl,s2,a8,a1,a7,R,c,d4,C,S,rfl⟩;have b8:(l.map V.ref).length=(cI m first A).length:=by rw[Ab,R.1]
 have b5:=aM a7
 fail "g";rw[b8];refine eJ (λZ=>?_) (λZ=>?_)
 .have e3:=Az Z
  have ht:t<(cI m first A).length:=by ((try clear b6 d4 f8 h8);omega)
  have d5:=sG (m:=m) (first:=first) c.nd
  have f7:t<l.length:=by rw[R.1];exact ht
  have O:=Aa ht
  have Y:l[t]?=some l[t]:=Aa f7
  have a2:=R.2 t _ _ Y O
  have c9:(cI m first A)[t]∈wl a:=by
   rcases Ze.mp (Bx ht) with e|⟨f,_,f9⟩
   .rw[e];exact e1
   .exact hm.sub _ f9
  generalize h7:l[t]=b at a2 Y;generalize f6:(cI m first A)[t]=w at a2 c9 O
  clear h7 f6 Z e3;obtain⟨ds,d1,d2,d3⟩:=id h6;obtain⟨jw,h2,j5⟩:=Bv.mp c9;have b1:(wl a)[jw]?=some w:=by rw[Aa h2,j5]
  have e7:ds[jw]?=some (ds[jw]'(by ((try clear b6 b8 d4 d5 f7 f8 h8 ht);omega))):=Aa (by ((try clear b6 b8 d4 d5 f7 f8 h8 ht);omega))
  have W:=d3 jw w _ b1 e7
  have e2:=Ja (qW a a.length) d1 b1 e7
  generalize (ds[jw]'(by ((try clear b6 b8 d4 d5 f7 f8 h8 ht);omega)))=dl at W e2
  have h5:=s2 _ _ W
  have j6:Rd H2 ac (.dT (eO (wl a) ds)):=d2.elim (λe=>.inl (s2 _ _ e)) λ⟨o,e⟩=>.inr ⟨o,s2 _ _ e⟩
  refine⟨λU' d=>∃(A:List (Nat×Wt)) (y l:List Addr) (v1 v2:Option V),U'=[some (.ref bf),some (.ref ac),some (.ref ah),some (.ref I),some (.ref M),some (.int ((t+1:Nat):Int)),v1,v2]/\Z_ H d/\d I=some (.dK (gN A y))/\ZV d y (A.map (·.2))/\d M=some (.lst (l.map V.ref))/\ZV d l (cI m first A)/\
   Asking (ZJ a) m first A/\t+1<=(cI m first A).length/\(∀j w,j<t+1->(cI m first A)[j]?=some w->∀f∈ZJ a w,f∈A.map (·.1))/\A=eM (ZJ a) m first (t+1),?_,?_⟩
  .rintro U' d ⟨A',j7,f4,f3,f2,rfl,g1,g2,g3,g4,g5,g6,g7,g8,g9⟩;exact⟨1+m.length-(t+1),by ((try clear b6 d1 d4 f7 f8 g7 h2 h8);omega),A',j7,f4,t+1,f3,f2,rfl,g1,g2,g3,g4,g5,g6,g7,g8,g9,rfl⟩
  have d7:eM (ZJ a) m first (t+1)=(ZJ a w).foldl (VE w) (eM (ZJ a) m first t):=by
   show (match (cI m first (eM (ZJ a) m first t))[t]? with|some w=>(ZJ a w).foldl (VE w) (eM (ZJ a) m first t)|none=>eM (ZJ a) m first t)=_
   rw[<-S,O]
  fail "g";refine bX b5 (v:=.ref b) (aW (by rw[Ag,Y];rfl)) ?_
  fail "g";refine R9 (k:=dQ w) j6 a2 e2 ?_;have k1:=aM h5
  have j9:=(DW (a.getD w.1 []) (w.2-1)).2
  have e4:(((ZJ a w).map one).map V.str).length=(ZJ a w).length:=by rw[Ab,Ab]
  fail "g";have kt:∀ {d:Hp} {p:Addr} {u u':HO},d p=some u->(∀ws,u≠.tup ws)->∀r w,d r=some (.tup (wV w))->(upd d p u') r=some (.tup (wV w)):=fun {d p u u'} e ne r w h=>by
   rw[aH (λz=>by rw[z,e]at h;cases h;exact ne _ rfl)]
   exact h
  refine fP (xs:=((ZJ a w).map one).map V.str) (λi U d=>∃ A y l v2,U=[some (.ref bf),some (.ref ac),some (.ref ah),some (.ref I),some (.ref M),some (.int (t:Int)),some (.ref b),v2]/\Z_ H d/\d I=some (.dK (gN A y))/\ZV d y (A.map (·.2))/\d M=some (.lst (l.map V.ref))/\ZV d l (cI m first A)/\
      d b=some (.tup (wV w))/\Asking (ZJ a) m first A/\(cI m first A)[t]?=some w/\(∀j v,j<t->(cI m first A)[j]?=some v->∀f∈ZJ a v,f∈A.map (·.1))/\(∀f∈(ZJ a w).take i,f∈A.map (·.1))/\A=((ZJ a w).take i).foldl (VE w) (eM (ZJ a) m first t))
   ⟨A,y,l,_,rfl,s2,a8,a1,a7,R,a2,c,O,C,(λf hf=>(nomatch hf)),S⟩ (λi U d _ ⟨_,_,_,_,_,e,_⟩=>aM (e _ _ W)) ?_ ?_
  .clear c O C d5 d4 b8 b5 R a7 a1 a8 Y S;rintro i x U H3 hx ⟨A,y,l,v2,rfl,s3,ea,wb,Y,wr,hb,c,O,C,J,a5⟩;rw[Ag,Ag]at hx;cases ef:(ZJ a w)[i]? with
   |none=>rw[ef]at hx;cases hx
   |some f=>
    rw[ef]at hx;cases hx;have h4:=Am ef
    have b7:(ZJ a w).take (i+1)=(ZJ a w).take i++[f]:=by rw[Be,ef];rfl
    have a6:y.length=A.length:=by rw[wb.1,Ab]
    have k8:=Qv hm e1 hL c
    have a9:((ZJ a w).take (i+1)).foldl (VE w) (eM (ZJ a) m first t)=VE w A f:=by rw[b7,List.foldl_append,<-a5];rfl
    fail "g";refine Pl (neg:=true) (z:=one f) (.inl ea) ?_;rw[if_pos rfl,nU a6];refine eJ (λZ=>?_) (λZ=>?_)
    .have b9:f∉A.map (·.1):=λz=>by rw[Ao z]at Z;cases Z
     fail "g";refine nN (z:=one f) ea (bG (by rw[vX a6];(exact Nat.le_trans (by assumption) (by decide)))) ?_
     rw[mO _ (JT a6 b9),<-FE (x:=(f,w)) a6];have s4:Z_ H (upd H3 I (.dK (gN (A++[(f,w)]) (y++[b])))):=bJ a4 s3
     have e8:(upd H3 I (.dK (gN (A++[(f,w)]) (y++[b])))) I=_:=aE
     have c7:(upd H3 I (.dK (gN (A++[(f,w)]) (y++[b])))) M=_:=(aH (Ne.symm b6)).trans Y
     have k4:=kt (u':=.dK (gN (A++[(f,w)]) (y++[b]))) ea (λws z=>nomatch z)
     have c8:=wb.keep k4
     have b3:=wr.keep k4
     have c4:=k4 _ _ hb
     generalize upd H3 I (.dK (gN (A++[(f,w)]) (y++[b])))=H4 at s4 e8 c7 c8 b3 c4 ⊢;have f1:=s4 _ _ j2
     clear k4 wb wr Y ea s3 hb;fail "g";refine Sx f1 λo=>?_;have fz:(upd H4 ah (.frz o (.dT (iQ m)))) ah=_:=aE
     have h1:(iQ m).length=m.length:=by unfold iQ;rw[Ab]
     refine jH (n:=m.length) (λD i ys Hc=>Z_ (upd H4 ah (.frz o (.dT (iQ m)))) Hc/\∃T,ys=T.map V.ref/\ZV Hc T (eX (m.take i) f)) (bG (by (exact Nat.le_trans (by assumption) (by decide)))) (λD hD=>⟨aG hD _,[],rfl,rfl,λj r w hr=>(nomatch hr)⟩) (λD i ys Hc _ r h=>⟨r.1 _ _ fz,by ((try clear a6 b6 d1 e4 f7 f8 h2 h8 ht j9 k8);omega)⟩) (λD ys Hc _ r=>⟨r.1 _ _ fz,h1⟩) ?_ ?_
     .rintro D L ys Hc x d A' B' hD d9 ⟨sm,T,rfl,wq⟩ X ⟨rfl,kv,b2,c1,rfl,j1⟩ c6 c5;have em:m[L]?=some m[L]:=Aa d9
      unfold iQ at c1;rw[Ag,em]at c1;cases c1;have c3:d b2=some (.tup (wV m[L].1)):=j1
      have hv:cN (iQ m) (dQ m[L].1)=some (.str (one m[L].2)):=by
       rw[lO,qP hm.nd (w:=m[L].1) (f:=m[L].2) (Bx d9)];rfl
      have tk:m.take (L+1)=m.take L++[m[L]]:=by rw[Be,em];rfl
      rw[tk]at c6 c5;generalize m[L]=x2 at c3 hv c6 c5;fail "g";refine⟨Wk.set rfl (Wk.refl _),?_⟩;fail "g";refine R9 (k:=dQ x2.1) (.inr ⟨o,sm _ _ fz⟩) c3 hv ?_;fail "g";rw[show decide (one x2.2=one f)=decide (x2.2=f) from Rb _ _];refine eJ (λhe=>?_) (λhe=>?_)
      .have c2:=Az he
       fail "g";refine c6 _ _ X ⟨bJ hD sm,T++[b2],by rw[Ap];rfl,?_⟩
       rw[show eX (m.take L++[x2]) f=eX (m.take L) f++[x2.1] by unfold eX;rw[List.filter_append,List.map_append];simp[c2]]
       exact(wq.app (.one c3)).keep (kt X (λws z=>nomatch z))
      .have c2:=Bq (Br.mpr he)
       fail "g";refine c5 _ X ⟨sm,T,rfl,?_⟩;rw[show eX (m.take L++[x2]) f=eX (m.take L) f by unfold eX;rw[List.filter_append,List.map_append];simp[c2]]
       exact wq
     .rintro D ys Hc hD ⟨sm,T,rfl,wq⟩ X _;rw [Cf] at wq;have j4:H4 D=none:=by
       by_cases z:D=ah
       .rw[z,aE]at hD;cases hD
       .rw[aH z]at hD;exact hD
      have su:=wQ f1 (λo v z=>nomatch z) sm
      have eu:=fA (Hs:=H4) X (λo v z=>nomatch z)
      have b4:ZV (Zb H4 Hc) T (eX m f):=wq.keep λr w h=>fA h (λo v z=>nomatch z)
      generalize Zb H4 Hc=Hu at su eu b4;have e5:=su _ _ c7
      have k6:=bL e5
      have k7:=bL eu
      have k2:M≠D:=bI c7 j4
      have k5:T.length<=56:=by rw[b4.1,Tf];unfold YJ;exact Bh List.countP_le_length f8
      have k3:l.length<=57:=by rw[b3.1];exact Bh (sG c.nd) (by ((try clear a6 b6 d1 e4 f7 h2 h8 ht j9 k2 k5 k8);omega))
      have j8:(l.map V.ref).length+(T.map V.ref).length<=sizeLine:=bM (by rw[Ab,Ab];((try clear a6 b6 d1 e4 f7 f8 h1 h2 h8 ht j9 k2 k8);omega))
      fail "g";have kr:=kt (u':=.lst (l.map V.ref++T.map V.ref)) e5 (λws z=>nomatch z)
      have j3:=(Ad.mp O).1
      refine⟨A++[(f,w)],y++[b],l++T,_,rfl,bJ d6 (s4.trans su),?_,?_,?_,?_,?_,c.snoc hm.nd b9 h4 (Am O),?_,λj v hj hv=>?_,λg hg=>?_,by rw[a9];exact(if_neg b9).symm⟩
      .rw[aH b6];exact su _ _ e8
      .rw[Ap];exact((c8.keep λr w h=>su _ _ h).app (.one (su _ _ c4))).keep kr
      .rw[aE,Ap]
      .rw[oU];exact((b3.keep λr w h=>su _ _ h).app b4).keep kr
      .exact kr _ _ (su _ _ c4)
      .rw[oU,An j3];exact O
      .rw[oU,An (by ((try clear a6 b6 d1 e4 f7 f8 h1 h2 h8 ht j8 j9 k2 k3 k5 k8);omega))]at hv
       intro g hg;rw[Ap];exact Dg _ (C j v hj hv g hg)
      .rw[b7]at hg;rw[Ap];rcases Bk.mp hg with z|z
       .exact Dg _ (J g z)
       .rw[Ah.mp z];exact Bo _ (Ah.mpr rfl)
    .have d8:f∈A.map (·.1):=by
      rw[Bool.not_eq_true,Bool.not_eq_false']at Z;exact Az Z
     fail "g";refine⟨A,y,l,_,rfl,s3,ea,wb,Y,wr,hb,c,O,C,λg hg=>?_,by rw[a9];exact(if_pos d8).symm⟩
     rw[b7]at hg;rcases Bk.mp hg with z|z
     .exact J g z
     .rw[Ah.mp z];exact d8
  .clear c O C d5 d4 b8 b5 R a7 a1 a8 Y S;rintro U H3 ⟨A,y,l,v2,rfl,s3,ea,wb,Y,wr,hb,c,O,C,J,a5⟩;rw[e4,Cf]at J;rw[e4,Cf]at a5;fail "g";refine⟨A,y,l,_,_,rfl,s3,ea,wb,Y,wr,c,(Ad.mp O).1,λj v hj hv=>?_,by rw[d7];exact a5⟩
   by_cases h3:j<t
   .exact C j v h3 hv
   .have:j=t:=by ((try clear b6 d1 e4 f7 f8 h2 h8 ht j9);omega)
    subst this;rw[O]at hv;cases hv;exact J
 .have e3:=Bq (Br.mpr Z)
  fail "g";refine q I A y H2 a4 s2 a8 a1 (c.done λw hw f hf=>?_) (by rw[S];exact BX (by rw[<-S];((try clear b6 f8 h8);omega)) (by have:=sG (m:=m) (first:=first) c.nd;((try clear b6 h8);omega)))
  obtain⟨j,hj,ej⟩:=Bv.mp hw;exact C j w (by ((try clear b6 f8 h8);omega)) (by rw[Aa hj,ej]) f hf
def RA{w:Wt}{f:Nat}:eK (iQ m) (dQ w) (.str (one f))=iQ (WV m w f):=by
 have e:((iQ m).any λkv=>decide (kv.1=dQ w))=(dN m w).isSome:=by
  rw[fL,lO];grind
 unfold eK WV;rw[e];by_cases h:(dN m w).isSome=true
 .rw[if_pos h,if_pos h];unfold iQ;rw[Cd,Cd];refine Dz λx _=>?_;show (if dQ x.1=dQ w then (dQ x.1,V.str (one f)) else (dQ x.1,V.str (one x.2)))=(λx=>(dQ x.1,V.str (one x.2))) (if x.1=w then (x.1,f) else x)
  by_cases ex:x.1=w
  .rw[if_pos ex,if_pos (by rw[ex])]
  .rw[if_neg ex,if_neg (λz=>ex (pV z))]
 .rw[if_neg h,if_neg h];unfold iQ;rw[Ap];rfl
inductive oG(j:List V)(H:Hp)(Q:VK)(zz3:XK):Prop|mk(i e a m first A h d)(_:j=[.str (one d),.ref i,.ref e])(_:H i=some (.dK (gN A h)))(_:ZV H h (A.map (·.2)))(_:Asking (ZJ a) m first A)(_:H e=some (.dT (iQ m)))(_:(m.map (·.1)).Nodup)(_:first∉m.map (·.1))(_:(∀v f,(v,f)∈m->f∈ZJ a v))(_:d∈A.map (·.1))(_:m.length<=56)(_:∀c g,(∀b u,b≠e->H b=some u->g b=some u)->g e=some (.dT (iQ c))->c.map (·.1)=m.map (·.1)++[first]->(∀v f,(v,f)∈c->f∈ZJ a v)->(∀f,YJ c f=YJ m f+(if f=d then 1 else 0))->ZL A d m c->Q .non g):oG j H Q zz3
def l9:Z9 ["flag", "asked", "hung", "want", "given"] ["flag", "asked", "hung"] (aK kQ):=by fail "sc"
def yR(F:ZT K "hang_along" "hang_along" kQ f fd)(G:Gs K mg w Zs Zz Zt Zx Z0 Zw Zy Zu Zv):Z8 P w K mg base ZS 1 f fd ["flag", "asked", "hung"] oG:=by
 refine F.ok l9 (λvs H Q E h=>?_) (λb6 A a1 s H vs Q E hr h=>?_)
 .obtain⟨aa,l,L,m,first,A,bs,B,rfl,_⟩:=h;rfl
 obtain⟨aa,l,L,m,first,A,bs,B,rfl,J,R,d,I,nd,a4,a5,a8,b3,q⟩:=h
 refine⟨_,(@aI _ _ _ (wZ Bl (bA uU (mv 0) dG (bB _)) (@aD _ _ _ _ _ (aP 3 l9.nd (kO (Z2.u1 hr) (mv 1) (mv 0) (λ_ _=>rfl))) (@aD _ _ _ _ _ (aP 4 l9.nd (iH Ci Ea (N2 (Z2.u1 hr)) (mv 2) (aA (mv 3) aB))) (@aD _ _ _ _ _ (iV (Z2.u1 hr) (mv 2) (mv 3) (mv 0) rfl) (@aI _ _ _ (aP 0 l9.nd (mv 4)))))))),?_⟩;have b1:bs.length=A.length:=by rw[R.1,Ab]
 have a2:aa≠l:=λz=>by rw[z,I]at J;cases J
 obtain⟨x0,a3,e0⟩:=Bb.mp a8;obtain⟨j0,a6,b2⟩:=Bv.mp a3;have ej:A[j0]?=some (B,x0.2):=by rw[Aa a6,b2,<-e0]
 fail "g";refine ⟨λn U H'=>(∃ e c j w O N,U=[some (.str (one c)),some (.ref aa),some (.ref l),O,N]/\(∀ b u,b≠l->H b=some u->H' b=some u)/\H' l=some (.dT (iQ e))/\Yx (ZJ L) m A B e c j w/\(∀ a,ZL A c e a->ZL A B m a)/\n=j+1)\/
     (∃a O N,U=[some .non,some (.ref aa),some (.ref l),O,N]/\(∀b u,b≠l->H b=some u->H' b=some u)/\H' l=some (.dT (iQ a))/\a.map (·.1)=m.map (·.1)++[first]/\(∀v f,(v,f)∈a->f∈ZJ L v)/\(∀f,YJ a f=YJ m f+(if f=B then 1 else 0))/\ZL A B m a/\n=0),
  ⟨_,.inl ⟨m,B,j0,x0.2,none,none,rfl,λb u _ h=>h,I,⟨rfl,a5,λf=>rfl,ej,λv g i u hg _ _=>hg⟩,λ_ h=>h,rfl⟩⟩,?_⟩
 rintro n U H2 (⟨e,c,j,w,O,N,rfl,Y,M,y,hR,rfl⟩|⟨a,O,N,rfl,Y,M,hk,hc,a9,hR,rfl⟩)
 .fail "g";rw[show (!decide (V.str (one c)=V.non))=true from rfl];fail "g";have b4:=(Ad.mp y.at_).1
  have Z:bs[j]?=some (bs[j]'(by ((try clear a2 a6 b3 e0);omega))):=Aa (by ((try clear a2 a6 b3 e0);omega))
  have t:=R.2 j _ w Z (by rw[Ag,y.at_];rfl)
  have T:=ML d.nd b1 y.at_ Z
  generalize (bs[j]'(by ((try clear a2 a6 b3 e0);omega)))=b at t T
  have nb:b≠l:=λz=>by rw[z,I]at t;cases t
  have W:=Y _ _ a2 J
  have D:=Y _ _ nb t
  have S:(iQ e).length<sizeLine:=by
   have:e.length=m.length:=by rw[<-Ab (f:=(·.1)) (as:=e),y.keys,Ab]
   unfold iQ;rw[Ab];exact bG (by ((try clear a2 a6 b1 b4 e0 nb);omega))
  have b5:X1 H2 l=true:=by unfold X1;rw[M]
  refine⟨_,λU' H' h=>h,?_⟩;fail "g";refine Uw (z:=one c) (.inl W) T ?_;fail "g";refine NX (k:=dQ w) (.inl M) D ?_;rw[lO];have X:∀o,∀b u,b≠l->H b=some u->(upd H2 l o) b=some u:=λo b u hb hu=>by rw[aH hb];exact Y b u hb hu
  rcases (d.ok j c w y.at_).2 with rfl|⟨g,i,v,a7,hi,hg⟩
  .obtain⟨C,l2,l3,l4⟩:=y.last d a4;rw[C];fail "g";refine Tv (k:=dQ w) M D S ?_;have r:=hR _ (.stop y.at_ C)
   have p:WV e w c=e++[(w,c)]:=by unfold WV;rw[C];rfl
   rw[RA,p];rw[p]at r;fail "g";exact⟨0,by ((try clear S a2 a6 b1 b3 b4 e0 nb);omega),.inr ⟨e++[(w,c)],_,_,rfl,X _,aE,l2,l3,l4,r,rfl⟩⟩
  .obtain⟨C,l2⟩:=y.step d nd hg hi a7;rw[C];refine Tv (k:=dQ w) M D S ?_;have r:∀a,ZL A g (WV e w c) a->ZL A B m a:=λa h=>hR _ (.step y.at_ C h)
   have p:WV e w c=e.map λx=>if x.1=w then (x.1,c) else x:=by unfold WV;rw[C];rfl
   rw[RA,p];rw[p]at r;exact⟨i+1,by ((try clear S a2 a6 b1 b3 b4 e0 nb);omega),.inl ⟨_,g,i,v,_,_,rfl,X _,aE,l2,r,rfl⟩⟩
 exact q a H2 Y M hk hc a9 hR
inductive kY(i:Addr)(j:List V)(H:Hp)(Q:VK)(zz3:XK):Prop|mk(a p q h g:_)(_:j=[.ref a,.ref p,.ref q])(_:H a=some (eV a i none))(_:Z4 H p=some h)(_:Z4 H q=some g)(_:∀d f e c,(∀b u,b≠a->H b=some u->c b=some u)->H d=none->d≠a->c a=some (eV a i (some d))->c d=some (YS d [("flags",.ref e),("wants",.ref f)])->c f=some (.lst h)->c e=some (.lst g)->H f=none->H e=none->Q .non c):kY i j H Q zz3
def C2:Z9 ["self", "wants", "flags"] ["self", "wants", "flags"] (aK lP):=by fail "sc"
def JB(F:ZT K "__init__" "Lack.__init__" lP f fd):Z8 P w K mg base ZS 1 f fd ["self", "wants", "flags"] (kY Zs):=by
 refine F.ok C2 (λvs H Q E h=>?_) (λa8 A V s H vs Q E hr h=>?_)
 .obtain⟨c,p,q,n,m,rfl,_⟩:=h;rfl
 obtain⟨c,p,q,n,m,rfl,he,hp,C,qq⟩:=h;refine⟨_,(@aD _ _ _ _ _ (bW (vQ rfl G.c_TowerError G.t1_TowerError G.t2_TowerError G.t3_TowerError (aA (mv 0) (aA (bS iC rfl G.b_list dW (aA (mv 1) aB)) (aA (bS iC rfl G.b_list dW (aA (mv 2) aB)) aB))))) (@aD _ _ _ _ _ (tX (mv 0) (bS iC rfl G.b_list dW (aA (mv 1) aB)) rfl) (@aI _ _ _ (tX (mv 0) (bS iC rfl G.b_list dW (aA (mv 2) aB)) rfl)))),?_⟩;fail "g";intro l1 a3;have U:=aG a3 (.lst n)
 generalize upd H l1 (.lst n)=H1 at U ⊢;have a6:=aO U C
 fail "g";intro l2 a2;have L:=U.trans (aG a2 (.lst m))
 generalize upd H1 l2 (.lst m)=H2 at L ⊢;have a4:=L _ _ he
 fail "g";refine⟨c,[.ref l1,.ref l2],Zs,Zz,none,rfl,za0,a4,(λ_ z=>nomatch z),G.Yr,?_⟩
 have a7:=aO L hp
 fail "g";intro j N;have B:=L.trans (aG N (.lst n))
 have D:(upd H2 j (.lst n)) j=_:=aE
 generalize upd H2 j (.lst n)=I at B D ⊢;have r:=B _ _ he
 fail "g";refine⟨c,Zs,Zz,rfl,G.Yr,G.xn_Lack_wants,.inl ⟨r,λa i=>?_⟩⟩;have o:a≠c:=λz=>by rw[z,r]at i;cases i
 have t:∀b u,b≠c->H b=some u->(upd (upd I c (eV c Zs (some a))) a (YS a [("wants",.ref j)])) b=some u:=λb u hb T=>by
  have e:=B _ _ T
  rwa[aH (λz=>by rw[z,i]at e;cases e),aH hb]
 have x:(upd (upd I c (eV c Zs (some a))) a (YS a [("wants",.ref j)])) c=some (eV c Zs (some a)):=by rw[aH o.symm,aE]
 have y:(upd (upd I c (eV c Zs (some a))) a (YS a [("wants",.ref j)])) a=_:=aE
 have Y:j≠c:=λz=>by rw[z,r]at D;cases D
 have M:j≠a:=λz=>by rw[z,i]at D;cases D
 have R:(upd (upd I c (eV c Zs (some a))) a (YS a [("wants",.ref j)])) j=some (.lst n):=by rwa[aH M,aH Y]
 have Z:q≠c:=λz=>by rw[z]at C;unfold Z4 at C;rw[he]at C;cases C
 have a1:Z4 (upd (upd I c (eV c Zs (some a))) a (YS a [("wants",.ref j)])) q=some m:=by
  have k:=aO B C
  rwa[Sm (λz=>by rw[z]at k;unfold Z4 at k;rw[i]at k;cases k),Sm Z]
 generalize upd (upd I c (eV c Zs (some a))) a (YS a [("wants",.ref j)])=H4 at t x y R a1 ⊢;fail "g";intro l d;have J:=aG d (.lst m)
 have e5:(upd H4 l (.lst m)) l=_:=aE
 have v:=J _ _ x
 have S:=J _ _ y
 have O:=J _ _ R
 have X:l≠a:=λz=>by rw[z,y]at d;cases d
 have W:l≠c:=λz=>by rw[z,x]at d;cases d
 have a5:H l=none:=by
  cases e:H l with
  |none=>rfl
  |some u=>rw[t _ _ W e]at d;cases d
 generalize upd H4 l (.lst m)=H5 at J e5 v S O ⊢;fail "g";refine⟨c,Zs,Zz,rfl,G.Yr,G.xn_Lack_flags,.inr ⟨a,_,v,S,(by show 1<100;decide),?_⟩⟩
 refine qq a j l _ (λb u hb T=>?_) (none_of B i) o (by rwa[aH o.symm]) aE (by rwa[aH M]) (by rwa[aH X]) (none_of L N) a5
 have e:=J _ _ (t b u hb T)
 rwa[aH (λz=>by have q9:=B _ _ T;rw[z,i]at q9;cases q9)]
structure ZG (cws:List (List Nat)) (n:Nat->Int) (W:List Wt) (F:List Nat):Prop where
 sub:W.Sublist (wl cws)
 flags:∃p:Nat->Bool,F=ZW.cps.toList.filter p
 all:∀w∈W,∀f∈ZJ cws w,f∈F
 NB:(F.map n).sum<(W.length:Int)
noncomputable def Yh(fs:List Nat)(c:Nat):Nat:=fs.countP λx=>decide (x=c)
def rF(g:Nat->Nat):∀L:List Nat,(L.map λc=>((g c:Nat):Int)).sum=(((L.map g).sum:Nat):Int)
 |[]=>rfl
 |c::r=>by
  rw[As,Cv,As,Cv,rF g r];omega
def Nz{o:Nat->Int}{m:List (Wt×Nat)}{first:Wt}{A:List (Nat×Wt)}{fl:Nat->Option Int}{l r:List Wt}(D:wl cws=l++first::r)(E:m.map (·.1)=l)(G:∀c∈cws,c.length<=7/\∀d∈c,aX d)(q:YL cws m)(s:first∈wl cws)(k:W8 (ZJ cws) m first A)(t:∀c,aQ fl c=o c-(YJ m c:Int)/\0<=aQ fl c)(H:∀c∈A.map (·.1),¬0<aQ fl c):ZG cws o (lC m first A (wl cws)) (ZW.cps.toList.filter λc=>decide (c∈A.map (·.1))):=by
 have y:∀c∈A.map (·.1),hJ c:=λc u=>by
  obtain⟨x,C,rfl⟩:=Bb.mp u;obtain⟨j,F,e⟩:=Bv.mp C;have a:A[j]?=some (x.1,x.2):=by rw[Aa F,e]
  exact NR G (Od q s k.toAsking a) (k.ok j _ _ a).1
 have v:∀c,c∈ZW.cps.toList.filter (λc=>decide (c∈A.map (·.1))) ↔ c∈A.map (·.1):=λc=>by
  rw[Di,Bp];exact⟨λh=>h.2,λh=>⟨Zd.mpr (y c h),h⟩⟩
 have n:(ZW.cps.toList.filter λc=>decide (c∈A.map (·.1))).Nodup:=List.Nodup.sublist Gb (by decide)
 have i:=qW cws cws.length
 replace i:(wl cws).Nodup:=i
 refine⟨Gb,⟨_,rfl⟩,λw p f B=>?_,?_⟩
 .refine(v f).mpr ?_;have b:=(XB.mp p).2
  by_cases e:w=first
  .subst e;exact k.all1 f B
  .cases z:dN m w with
   |none=>rw[vP e z]at b;cases b
   |some g=>
    rw[vS e z]at b;exact k.all w g (Rx z) (Az b) f B
 .have L:(lC m first A (wl cws)).length=1+m.countP (λx=>decide (x.2∈A.map (·.1))):=by
   rw[D]at i ⊢;exact AR E i
  have K:m.countP (λx=>decide (x.2∈A.map (·.1)))=m.countP (λx=>decide (x.2∈ZW.cps.toList.filter λc=>decide (c∈A.map (·.1)))):=by
   congr 1
   funext x
   exact Eh.mpr (v x.2).symm
  have J:=B5 m n
  have I:(ZW.cps.toList.filter λc=>decide (c∈A.map (·.1))).map o=(ZW.cps.toList.filter λc=>decide (c∈A.map (·.1))).map λc=>((YJ m c:Nat):Int):=Dz λc u=>by
   have M:=t c
   have b:=H c ((v c).mp u)
   ((try clear J K L);omega)
  rw[I,rF,L,K,J];((try clear J K L);omega)
inductive iX(t:Addr)(s:List V)(H:Hp)(Q:VK)(E:XK):Prop|mk(a b i f e:_)(_:s=[.ref a,.ref b])(_:Rd H a (.dK i))(_:Lk i f)(_:Z4 H b=some ((e.map aV).map V.str))(_:e.length<=8)(_:(∀c∈e,c.length<=7/\∀d∈c,aX d))(_:(∀r l k h,H r=none->Z_ H h->h r=some (.lst (l.map V.ref))->(∀p∈l,p≠r)->ZQ H h l ((List.range e.length).map (iR e k))->k.length=(wl e).length->(∀(j:Nat) w g,(wl e)[j]?=some w->k[j]?=some g->g∈ZJ e w)->(∀c,(Yh k c:Int)<=aQ (aZ (aQ f)) c)->Zg e (aQ (aZ (aQ f))) k->Q (.ref r) h))(_:(∀o n m q W F h,Z_ H h->h o=some (YS o [("flags",.ref m),("wants",.ref n)])->h n=some (.lst (q.map V.ref))->ZV h q W->h m=some (.lst ((F.map one).map V.str))->ZG e (aQ (aZ (aQ f))) W F->Sn e (aQ (aZ (aQ f))) W F->H n=none->H m=none->E (.ref t) (some o) h)):iX t s H Q E
def wP:Z9 ["locker", "words", "choices", "left", "hung", "first", "asked", "free", "wants"] ["locker", "words"] (aK eW):=by fail "sc"
def H_(F:ZT K "hang_all" "hang_all" eW f fd)(f8:ZR P w K mg base 2 "choices_of" ["words"] oA)(y8:ZR P w K mg base 1 "plain_locker" ["locker"] cZ)(f9:ZR P w K mg base 1 "hoists_of" ["words", "flags"] qM)(b7:ZR P w K mg base 1 "asked_from" ["first", "choices", "hung"] oN)(b8:ZR P w K mg base 1 "hang_along" ["flag", "asked", "hung"] oG)(u9:V0 P w K mg base 1 Zs ["self", "wants", "flags"] (kY Zs)):Z8 P w K mg base (Za P w) 3 f fd ["locker", "words"] (iX Zs):=by
 refine F.XM wP (λvs H Q E h=>?_) (λt5 A p2 s H vs Q E hr h=>?_)
 .obtain⟨a,b,j8,f,t,rfl,_⟩:=h;rfl
 obtain⟨a,b,j8,f,t,rfl,ha,lk,hb,h8,hL,q,qe⟩:=h;refine⟨_,(@aD _ _ _ _ _ (aP 2 wP.nd (aU f8 hr (by decide) rfl (aA (mv 1) aB))) (@aD _ _ _ _ _ (aP 3 wP.nd (aU y8 hr (by decide) rfl (aA (mv 0) aB))) (@aD _ _ _ _ _ (@SE _ _ 4 _ _ _ _ wP.nd (by rfl) (by exact(Or.inr rfl)) NO (by rfl) (by fail "o")) (@aD _ _ _ _ _ (To (cP PassesOwn.leaving rfl (pQ (mv 2)) (bC (i:=5) wP.nd rfl (Or.inr rfl)) (@aD _ _ _ _ _ (aP 6 wP.nd (aU b7 hr (by decide) rfl (aA (mv 5) (aA (mv 2) (aA (mv 4) aB))))) (@aD _ _ _ _ _ (To (fK (i:=7) wP.nd rfl (Or.inl rfl) rfl (BL (mv 6)) (gF (N:=["flag", "left"]) ["locker", "words", "choices", "left", "hung", "first", "asked", "free", "wants"] (aK eW) [none,some 3] rfl rfl rfl (λx h=>cC h) (by decide +kernel)) (by decide +kernel) rfl (by decide +kernel) (λ_ _ _ _=>(bC (i:=0) (show List.Nodup (["flag", "left"]:List Str) by decide +kernel) rfl (Or.inl rfl))) (λ_ _ _ _=>(iZ (bA We (iH Ci Ea (Vs (Z2.u1 hr)) (mv 1) (aA (mv 0) (aA aJ aB))) aJ (bB _)))) (λ_ _ _ _=>(mv 0)))) (@aD _ _ _ _ _ (cD (bA (Ob hr.YQ) (mv 7) (bO aB) (bB _)) (@aD _ _ _ _ _ (To (fK (i:=8) wP.nd rfl (Or.inl rfl) rfl (pQ (mv 2)) (gF (N:=["want", "first", "asked", "hung"]) ["locker", "words", "choices", "left", "hung", "first", "asked", "free", "wants"] (aK eW) [none,some 5,some 6,some 4] rfl rfl rfl (λx h=>cC h) (by decide +kernel)) (by decide +kernel) rfl (by decide +kernel) (λ_ _ _ _=>(bC (i:=0) (show List.Nodup (["want", "first", "asked", "hung"]:List Str) by decide +kernel) rfl (Or.inl rfl))) (λ_ _ _ _=>(iZ (PW.pt (sQ (bA (Mx hr.YQ) (mv 0) (mv 1) (bB _)) (lZ (bA (GP (Z2.u1 hr)) (iH Ci Ea (N2 (Z2.u1 hr)) (mv 3) (aA (mv 0) aB)) (mv 2) (by rfl))))))) (λ_ _ _ _=>(mv 0)))) (@aI _ _ _ (nT fY rfl rfl rfl G.XR G.XO u9 hr (by decide) (aA (mv 8) (aA (cL rfl (mF (eQ rfl G.s_FLAGS)) (gF (N:=["flag", "asked"]) ["locker", "words", "choices", "left", "hung", "first", "asked", "free", "wants"] (aK eW) [none,some 6] rfl rfl rfl (λx h=>cC h) (by decide +kernel)) (by decide +kernel) rfl (by decide +kernel) (λ_ _ _ _=>(bC (i:=0) (show List.Nodup (["flag", "asked"]:List Str) by decide +kernel) rfl (Or.inl rfl))) (λ_ _ _ _=>(iZ (bA (F8 (Z2.u1 hr)) (mv 0) (mv 1) (by rfl)))) (λ_ _ _ _=>(mv 0))) aB))))) bF) (@aD _ _ _ _ _ (iV (Z2.u1 hr) (mv 3) (bD bN (mv 7) aJ (λ_ _=>rfl)) (aR lL (kO (Z2.u1 hr) (mv 3) (bD bN (mv 7) aJ (λ_ _=>rfl)) (λ_ _=>rfl)) aJ) rfl) (@aI _ _ _ (bW (aU b8 hr (by decide) rfl (aA (bD bN (mv 7) aJ (λ_ _=>rfl)) (aA (mv 6) (aA (mv 4) aB)))))))))))) (@aI _ _ _ (aT (aU f9 hr (by decide) rfl (aA (mv 1) (aA (Rm (cL rfl (pQ (mv 2)) (gF (N:=["want", "hung"]) ["locker", "words", "choices", "left", "hung", "first", "asked", "free", "wants"] (aK eW) [none,some 4] rfl rfl rfl (λx h=>cC h) (by decide +kernel)) (by decide +kernel) rfl (by decide +kernel) (λ_ _ _ _=>(bC (i:=0) (show List.Nodup (["want", "hung"]:List Str) by decide +kernel) rfl (Or.inl rfl))) (λ_ _ _ _=>cX) (λ_ _ _ _=>(kO (Z2.u1 hr) (mv 1) (mv 0) (λ_ _=>rfl))))) aB))))))))),?_⟩
 have h7:∀c∈t,c.length<=7:=λc hc=>(hL c hc).1
 have r9:(wl t).length<=56:=Bh (O_ h7 _) (by omega)
 fail "g";refine⟨b,t,rfl,hb,h8,h7,λac H1 m3 s1 q8=>?_⟩;fail "g";refine⟨a,j8,f,rfl,ha.elim (λe=>.inl (s1 _ _ e)) (λ⟨o,e⟩=>.inr ⟨o,s1 _ _ e⟩),lk,λX H2 f5 s2 el=>?_⟩;fail "g";intro ah d3;have s3:=s2.trans (aG d3 (.dT []))
 have g4:(upd H2 ah (.dT [])) ah=_:=aE
 have a9:=aG d3 (.dT []) _ _ el
 generalize upd H2 ah (.dT [])=H3 at s3 g4 a9 ⊢;obtain⟨ds,dl,ed,q5⟩:=q8;rw[Cf]at ed;have g5:=s3 _ _ ed
 fail "g";refine Sx g5 λo=>?_;have fz:(upd H3 ac (.frz o (.dT (eO (wl t) ds)))) ac=_:=aE
 have kl:(eO (wl t) ds).length=(wl t).length:=zT dl
 have e7:ah≠ac:=λz=>by have e:=s2 _ _ ed;rw[<-z,d3]at e;cases e
 have j7:X≠ac:=λz=>by rw[z,g5]at a9;cases a9
 have j6:X≠ah:=λz=>by rw[z,g4]at a9;cases a9
 have j4:Z_ H1 H3:=s3
 have b6:H1 ah=none:=none_of s2 d3
 generalize a6:aQ (aZ (aQ f))=n0;refine Jl (λi U H'=>∃m M fl v5 v6 v7 v8,U=[some (.ref a),some (.ref b),some (.ref ac),some (.ref X),some (.ref ah),v5,v6,v7,v8]/\(∀p u,p≠ac->p≠X->p≠ah->H1 p=some u->H' p=some u)/\H' ac=some (.frz o (.dT (eO (wl t) ds)))/\H' ah=some (.dT (iQ m))/\H' X=some (.dK M)/\Lk M fl/\M.length<=27/\m.map (·.1)=(wl t).take i/\(∀v g,(v,g)∈m->g∈ZJ t v)/\(∀c,aQ fl c=n0 c-(YJ m c:Int)/\0<=aQ fl c)/\ZI t n0 i m)
  ⟨[],_,aZ (aQ f),_,_,_,_,rfl,λp u T h2 h3 W=>by rw[aH T];exact j4 _ _ W,fz,by rw[aH e7];exact g4,by rw[aH j7];exact a9,dX _,by unfold Zf;rw[Ab];exact kT _ _,rfl,(λv g hv=>nomatch hv),λc=>?_,.zero⟩ (λi U H' _ ⟨_,_,_,_,_,_,_,_,_,e,_⟩=>e) ?_ ?_
 .rw[a6];refine⟨by show n0 c=n0 c-((0:Nat):Int);((try clear dl e7 h8 j6 j7 kl r9);omega),?_⟩
  rw[<-a6];show 0<=(aZ (aQ f) c).getD 0
  unfold aZ;split
  .rename_i h;exact Int.le_of_lt h.2
  .exact Ip 0
 .rintro i kv bf U H4 C a8 ⟨m,M,fl,v5,v6,v7,v8,rfl,fr,ec,eh,Z,b1,p8,hk,f3,b5,b8⟩;have hi:i<(wl t).length:=by rw[<-kl];exact(Ad.mp C).1
  have ew:(wl t)[i]?=some (wl t)[i]:=Aa hi
  have a2:kv=(dQ (wl t)[i],V.ref (ds[i]'(by ((try clear e7 h8 j6 j7 p8 r9);omega)))):=by
   unfold eO at C;rw[Gu,ew,Aa (show i<ds.length by ((try clear e7 h8 j6 j7 p8 r9);omega))]at C
   exact(Bj C).symm
  rw[a2]at a8;have c5:=qW t t.length
  have d1:(wl t)[i]∈wl t:=Bx hi
  have e9:(wl t).take (i+1)=(wl t).take i++[(wl t)[i]]:=by rw[Be,ew];rfl
  have k5:(wl t)[i]∉m.map (·.1):=by
   rw[hk];intro z;obtain⟨j,hj,ej⟩:=Bv.mp z;rw[Bt]at hj;rw[List.getElem_take]at ej;have:=(He c5).mp ej
   ((try clear e7 h8 j6 j7 p8 r9);omega)
  have b3:m.length<=56:=by
   have e:m.length=(m.map (·.1)).length:=(Ab _).symm
   rw[e,hk,Bt];((try clear e e7 h8 j6 j7 p8);omega)
  have c6:YL t m:=⟨by rw[hk];exact c5.sublist (Hx ..),λx hx=>List.mem_of_mem_take (by rw[<-hk];exact Bb.mpr ⟨x,hx,rfl⟩)⟩
  have q7:W7 H4 ac t:=⟨ds,dl,.inr ⟨o,ec⟩,λj w d hw hd=>by
   have T:=q5 j w d (Ad.mp hw).1 hw hd
   exact fr d _ (λz=>by rw[z,ed]at T;cases T) (λz=>by rw[z,f5]at T;cases T) (λz=>by rw[z,b6]at T;cases T) T⟩
  replace a8:H4 bf=some (.tup (wV (wl t)[i])):=a8
  clear a2 C;generalize (wl t)[i]=first at a8 ew d1 e9 k5
  fail "g";refine⟨bf,ac,ah,t,m,first,rfl,a8,d1,q7,eh,c6,b3,h8,hL,λpa A bs H5 c4 s5 ea wb a4 b9=>?_⟩
  have g2:=s5 _ _ Z
  have d2:bs.length=A.length:=by rw[wb.1,Ab]
  have r8:=Qv c6 d1 hL a4.toAsking
  have k9:=kC g2
  fail "g";refine Mo ea λoa=>?_;have f7:(upd H5 pa (.frz oa (.dK (gN A bs)))) pa=_:=aE
  have j5:X≠pa:=λz=>by rw[z,c4]at Z;cases Z
  have m7:(upd H5 pa (.frz oa (.dK (gN A bs)))) X=_:=(aH j5).trans g2
  refine jH (n:=A.length) (λD i ys Y=>Z_ (upd H5 pa (.frz oa (.dK (gN A bs)))) Y/\ys=((((A.take i).map (·.1)).filter λc=>decide (0<aQ fl c)).map one).map V.str) (bG (by (exact Nat.le_trans (by assumption) (by decide)))) (λD hD=>⟨aG hD _,rfl⟩) (λD i ys Y _ r h=>⟨r.1 _ _ f7,by rw[vX d2];exact h⟩) (λD ys Y _ r=>⟨r.1 _ _ f7,vX d2⟩) ?_ ?_
  .rintro D y ys Y x H' A' B' hD b4 ⟨sm,rfl⟩ I ⟨rfl,kv,C,rfl⟩ R a1;have eA:A[y]?=some A[y]:=Aa b4
   unfold gN at C;rw[Gu,eA,Aa (show y<bs.length by ((try clear b3 dl e7 h8 hi j5 j6 j7 kl p8 r8 r9);omega))]at C
   cases C;have tk:A.take (y+1)=A.take y++[A[y]]:=by rw[Be,eA];rfl
   rw[tk,Ap,Fi]at R a1;generalize A[y]=xa at R a1;have m8:=sm _ _ m7
   have t3:=kC m8
   dsimp only[kV];fail "g";refine⟨Wk.set rfl (Wk.refl _),?_⟩;fail "g";refine Vq (z:=one xa.1) (.inl m8) ?_;rw[b1.val xa.1,qB];fail "g";refine eJ (λhe=>?_) (λhe=>?_)
   .have k8:=Az he
    fail "g";refine R _ _ I ⟨bJ hD sm,?_⟩;rw[show ([xa].map (·.1)).filter (λc=>decide (0<aQ fl c))=[xa.1] by simp[k8],List.map_append,List.map_append]
    rfl
   .have k8:=Bq (Br.mpr he)
    fail "g";refine a1 _ I ⟨sm,?_⟩;rw[show ([xa].map (·.1)).filter (λc=>decide (0<aQ fl c))=[] by simp;((try clear b3 b4 d2 dl e7 h8 hi j5 j6 j7 kl p8 r8 r9);omega),List.append_nil]
  .rintro D ys Y hD ⟨sm,rfl⟩ I _;rw[Cf]at I;have su:=wQ ea (λo v z=>nomatch z) sm
   have eu:=fA (Hs:=H5) I (λo v z=>nomatch z)
   refine RN ?_;unfold U7;dsimp only;generalize Zb H5 Y=H6 at su eu ⊢;have a5:=s5.trans su
   have g8:=su _ _ ea
   have j2:ZV H6 bs (A.map (·.2)):=wb.keep λr w h=>su _ _ h
   have g6:=a5 _ _ ec
   have c1:=a5 _ _ eh
   have n3:=a5 _ _ Z
   have e6:=a5 _ _ a8
   have f9:∀p u,p≠ac->p≠X->p≠ah->H1 p=some u->H6 p=some u:=λp u T h2 h3 W=>a5 _ _ (fr p u T h2 h3 W)
   have f6:H4 D=none:=by
    have h5:H5 D=none:=by
     by_cases z:D=pa
     .rw[z,aE]at hD;cases hD
     .rw[aH z]at hD;exact hD
    exact none_of s5 h5
   clear sm I hD f7 m7 k9 g2;fail "g";refine⟨by decide,λpe f1=>?_⟩
   refine Tr (neg:=false) (aO (aG f1 _) (aM eu)) cG (dD _) rfl ?_;have O:=aG f1 (.lst [])
   generalize upd H6 pe (.lst [])=H7 at O ⊢;have en:∀xs,kA xs []=xs.isEmpty:=λxs=>by cases xs<;>rfl
   rw[if_neg (by decide),en]
   have d9:(A.map (·.1)).filter (λc=>decide (0<aQ fl c))=VB n0 m (xG (ZJ t) m first):=by
    unfold VB;rw[<-b9];exact List.filter_congr λc _=>by rw[(b5 c).1]
   cases a7:(A.map (·.1)).filter (λc=>decide (0<aQ fl c)) with
   |nil=>
    rw[a7]at eu;rw[show (List.map V.str (List.map one [])).isEmpty=true from rfl];have c2:=O _ _ g6
    have g3:=O _ _ c1
    have d7:=O _ _ g8
    have m2:=O _ _ e6
    have r3:∀p u,p≠ac->p≠X->p≠ah->H1 p=some u->H7 p=some u:=λp u T h2 h3 W=>O _ _ (f9 p u T h2 h3 W)
    clear eu j2 f1 O f9 fr g6 c1 g8 e6 n3 su f6 a5 c4 s5 ea wb Z j5;fail "g";refine Nl c2 ?_;refine jH (n:=(wl t).length) (λD i ys Y=>Z_ H7 Y/\∃rs,ys=rs.map V.ref/\ZV Y rs (lC m first A ((wl t).take i))) (bG (by (exact Nat.le_trans (by assumption) (by decide)))) (λD hD=>⟨aG hD _,[],rfl,rfl,λj r w hr=>nomatch hr⟩) (λD i ys Y _ r h=>⟨r.1 _ _ c2,by rw[kl];exact h⟩) (λD ys Y _ r=>⟨r.1 _ _ c2,kl⟩) ?_ ?_
    .rintro D y ys Y x H' A' B' hD b4 ⟨sm,rs,rfl,b2⟩ I ⟨rfl,kv,bk,C,rfl,S⟩ R a1;have a3:(wl t)[y]?=some (wl t)[y]:=Aa b4
     have a2:kv=(dQ (wl t)[y],V.ref (ds[y]'(by ((try clear b3 d2 e7 h8 hi j6 j7 p8 r8 r9);omega)))):=by
      unfold eO at C;rw[Gu,a3,Aa (show y<ds.length by ((try clear b3 d2 e7 h8 hi j6 j7 p8 r8 r9);omega))]at C
      exact(Bj C).symm
     rw[a2]at S;replace S:H' bk=some (.tup (wV (wl t)[y])):=S
     have tk:(wl t).take (y+1)=(wl t).take y++[(wl t)[y]]:=by rw[Be,a3];rfl
     rw[tk]at R a1;clear a2 C a3 tk;generalize (wl t)[y]=wx at S R a1;have d5:=sm _ _ g3
     have n7:=sm _ _ d7
     have q4:=sm _ _ m2
     have h9:lB m first A wx=true->A' (.ref bk) H':=λhb=>by
      refine R _ _ I ⟨bJ hD sm,rs++[bk],by rw[Ap];rfl,?_⟩
      rw[wW,hb,if_pos rfl];refine ZV.keep (b2.app (.one S)) λr w h=>?_;rw[aH (λz=>by rw[z,I]at h;cases h)]
      exact h
     have no:lB m first A wx=false->B' H':=λhb=>by
      refine a1 _ I ⟨sm,rs,rfl,?_⟩;rw[wW,hb,if_neg (by decide),Bs]
      exact b2
     clear R a1;fail "g";refine⟨Wk.set rfl (Wk.refl _),?_⟩;fail "g";refine K2 S q4 ?_;have q6:decide ((wx.1:Int)=(first.1:Int)/\(wx.2:Int)=(first.2:Int))=decide (wx=first):=Eh.mpr ⟨λh=>Prod.ext (by ((try clear b3 b4 d2 dl e7 h8 hi j6 j7 kl p8 r8 r9);omega)) (by ((try clear b3 b4 d2 dl e7 h8 hi j6 j7 kl p8 r8 r9);omega)),λh=>by rw[h];exact⟨rfl,rfl⟩⟩
     rw[q6];by_cases e:wx=first
     .rw[Ao e];fail "g";exact h9 (KW e)
     .rw[Aw e];have t2:X1 H' ah=true:=by unfold X1;rw[d5]
      fail "g";refine NX (k:=dQ wx) (.inl d5) S ?_;rw[lO];cases eg:dN m wx with
      |none=>
       refine E7 (.inl n7) ?_;fail "g";exact no (vP e eg)
      |some g=>
       have k2:=vS (A:=A) e eg
       refine CF (z:=one g) (.inl n7) ?_;rw[nU d2];refine eJ (λhg=>?_) (λhg=>?_)
       .fail "g";exact h9 (k2.trans hg)
       .fail "g";exact no (k2.trans (Br.mpr hg))
    .rintro D ys Y hD ⟨sm,rs,rfl,b2⟩ I _;rw[Cf]at b2;have su:=G2 sm
     have eu:=fA (Hs:=H7) I (λo v z=>nomatch z)
     have j9:ZV (Zb H7 Y) rs (lC m first A (wl t)):=b2.keep λr w h=>fA h λo v z=>nomatch z
     refine RN ?_;unfold U7;dsimp only;generalize Zb H7 Y=H8 at su eu j9 ⊢;have d6:=su _ _ d7
     fail "g";refine Rv (λc=>if decide (c∈A.map (·.1))=true then some (.str (one c)) else none) (by decide) (λi3 c t6 A' B' hc p1 R=>?_) (λD2 H9 t4 s9 k1=>?_)
     .have r:=R _ (Z_.refl _)
      fail "g";refine⟨Wk.set rfl (Wk.refl _),?_⟩;fail "g";refine Pl (z:=one c) (neg:=false) (.inl (p1 _ _ d6)) ?_;rw[if_neg (by decide),nU d2]
      refine eJ (λhg=>?_) (λhg=>?_)
      .rw[if_pos hg]at r;fail "g";exact r
      .rw[if_neg hg]at r;exact r
     .have ef:(Str.ofString "abcdefghijklmnopqrstuvw1234").cps.toList.filterMap (λc=>if decide (c∈A.map (·.1))=true then some (V.str (one c)) else none)=((ZW.cps.toList.filter λc=>decide (c∈A.map (·.1))).map one).map V.str:=by
       rw[show "abcdefghijklmnopqrstuvw1234"=ZW from rfl];generalize ZW.cps.toList=L;induction L with
       |nil=>rfl
       |cons c r ih=>
        rw[Ey,Ef];by_cases hg:decide (c∈A.map (·.1))=true
        .rw[if_pos hg,if_pos hg,As,As,<-ih]
        .rw[if_neg hg,if_neg hg,<-ih]
      rw[ef]at k1;have r5:=s9 _ _ eu
      fail "g";refine⟨za0,λea f4=>⟨ea,D,D2,_,_,rfl,aE,aO (aG f4 _) (aM r5),aO (aG f4 _) (aM k1),λdx l1 l2 H' r2 t1 p5 e1 e2 e3 e4 k4 k3=>⟨rfl,some dx,e1,?_⟩⟩⟩
      have n1:l1≠ea:=λz=>by rw[z,e1]at e3;cases e3
      have n2:l2≠ea:=λz=>by rw[z,e1]at e4;cases e4
      have m4:∀b u,H9 b=some u->(del H' ea) b=some u:=λb u W=>by
       have nb:b≠ea:=λz=>by rw[z,f4]at W;cases W
       rw[eI nb];exact r2 b u nb (by rw[aH nb];exact W)
      have e8:∀b u,H b=some u->H9 b=some u:=λb u W=>by
       refine s9 _ _ (su _ _ (r3 b u (λz=>by rw[z,m3]at W;cases W) (λz=>?_) (λz=>?_) (s1 _ _ W)))
       .have:=s1 _ _ W
        rw[z,f5]at this;cases this
       .have:=s1 _ _ W
        rw[z,b6]at this;cases this
      refine qe dx l1 l2 rs _ _ (del H' ea) (λb u W=>m4 _ _ (e8 b u W)) ((eI p5).trans e2) ((eI n1).trans e3) (j9.keep λr w h=>m4 _ _ (s9 _ _ h)) ((eI n2).trans e4) ?_ ?_ (none_of e8 (by rw[aH n1]at k4;exact k4)) (none_of e8 (by rw[aH n2]at k3;exact k3))
      .rw[a6];refine Nz (l:=(wl t).take i) (r:=(wl t).drop (i+1)) (fl:=fl) ?_ hk hL c6 d1 a4 b5 (λc hc=>?_)
       .have e:=En (i+1) (wl t)
        rw[e9,Fq]at e;exact e.symm
       .have:=List.filter_eq_nil_iff.mp a7 c hc
        rw[Bp]at this;exact this
      .rw[a6];refine⟨i,m,first,b8,ew,by rw[<-d9,a7],?_,?_⟩
       .rw[<-b9]
       .rw[<-b9]
   |cons J g1=>
    rw[a7]at eu;rw[show (List.map V.str (List.map one (J::g1))).isEmpty=false from rfl];have e5:J∈(A.map (·.1)).filter (λc=>decide (0<aQ fl c)):=by rw[a7];exact Al
    rw[Di,Bp]at e5;obtain⟨k7,k6⟩:=e5;obtain⟨n1,f2⟩:∃n1,fl J=some n1:=by
     cases e:fl J with
     |none=>rw[show aQ fl J=0 by unfold aQ;rw[e];rfl]at k6;((try clear b3 d2 dl e7 h8 hi j5 j6 j7 kl p8 r8 r9);omega)
     |some n=>exact⟨n,rfl⟩
    have r7:aQ fl J=n1:=by unfold aQ;rw[f2];rfl
    have d4:=O _ _ n3
    have d7:=O _ _ g8
    have g3:=O _ _ c1
    have c2:=O _ _ g6
    have g9:=O _ _ eu
    have n9:ZV H7 bs (A.map (·.2)):=j2.keep λr w h=>O _ _ h
    have r6:=kC d4
    have h6:YY (List.map V.str (List.map one (J::g1))) 0=some (V.str (one J)):=aW (show (List.map V.str (List.map one (J::g1)))[0]?=some (V.str (one J)) from rfl)
    fail "g";refine bX (aM g9) (v:=.str (one J)) h6 ?_;fail "g";refine Uw (z:=one J) (.inl d4) (by rw[b1.val J,f2];rfl) ?_
    fail "g";refine bX (aM g9) (v:=.str (one J)) h6 ?_;fail "g";refine nN (z:=one J) d4 (bG (by (exact Nat.le_trans (by assumption) (by decide)))) ?_
    have p7:D≠X:=λz=>by rw[z]at f6;rw[f6]at Z;cases Z
    have p3:pa≠X:=λz=>by rw[z]at c4;rw[c4]at Z;cases Z
    have p4:ah≠X:=Ne.symm j6
    have p6:ac≠X:=Ne.symm j7
    have m9:(upd H7 X (.dK (eK M (Sum.inr (one J)) (V.int (n1-1))))) X=_:=aE
    have d6:(upd H7 X (.dK (eK M (Sum.inr (one J)) (V.int (n1-1))))) pa=_:=(aH p3).trans d7
    have n4:(upd H7 X (.dK (eK M (Sum.inr (one J)) (V.int (n1-1))))) ah=_:=(aH p4).trans g3
    have n6:(upd H7 X (.dK (eK M (Sum.inr (one J)) (V.int (n1-1))))) ac=_:=(aH p6).trans c2
    have n8:(upd H7 X (.dK (eK M (Sum.inr (one J)) (V.int (n1-1))))) D=_:=(aH p7).trans g9
    have j1:ZV (upd H7 X (.dK (eK M (Sum.inr (one J)) (V.int (n1-1))))) bs (A.map (·.2)):=n9.keep λr w h=>by
     rw[aH (λz=>by rw[z,d4]at h;cases h)]
     exact h
    have m6:∀p u,p≠ac->p≠X->p≠ah->H1 p=some u->(upd H7 X (.dK (eK M (Sum.inr (one J)) (V.int (n1-1))))) p=some u:=λp u T h2 h3 W=>by
     rw[aH h2];exact O _ _ (f9 p u T h2 h3 W)
    generalize upd H7 X (.dK (eK M (Sum.inr (one J)) (V.int (n1-1))))=H8 at m9 d6 n4 n6 n8 j1 m6 ⊢;fail "g";refine bX (aM n8) (v:=.str (one J)) h6 ?_;fail "g";refine⟨pa,ah,t,m,first,A,bs,J,rfl,d6,j1,a4.toAsking,n4,c6.nd,k5,f3,k7,b3,λm' H9 f8 r4 q3 q9 m1 r1=>?_⟩
    fail "g";refine⟨m',_,_,_,_,_,_,rfl,λp u T h2 h3 W=>f8 p u h3 (m6 p u T h2 h3 W),f8 _ _ (Ne.symm e7) n6,r4,f8 _ _ j6 m9,b1.put J (n1-1),?_,?_,q9,λc=>?_,.succ (c:=J) b8 ew (by rw[<-b9];exact a4.nd) (by rw[<-d9,a7];rfl) (by rw[<-b9];exact r1)⟩
    .have hv:cN M (Sum.inr (one J))≠none:=by rw[b1.val J,f2];exact λz=>nomatch z
     have e:=Dp List.length (NU M (Sum.inr (one J)) (.int (n1-1)) hv)
     rw[Ab,Ab]at e;((try clear b3 d2 dl e7 h8 hi j5 j6 j7 k6 kl p3 p4 p6 p7 r7 r8 r9);omega)
    .rw[q3,hk,e9]
    .have T:=b5 c
     have h2:=m1 c
     have h3:aQ (λd=>if d=J then some (n1-1) else fl d) c=if c=J then n1-1 else aQ fl c:=by
      show ((if c=J then some (n1-1) else fl c):Option Int).getD 0=_
      by_cases z:c=J
      .rw[if_pos z,if_pos z];rfl
      .rw[if_neg z,if_neg z];rfl
     rw[h3];by_cases z:c=J
     .subst z;rw[if_pos rfl]at h2 ⊢;((try clear b3 d2 dl e7 h3 h8 hi j5 j6 j7 kl p3 p4 p6 p7 p8 r8 r9);omega)
     .rw[if_neg z]at h2 ⊢;((try clear b3 d2 dl e7 h3 h8 hi j5 j6 j7 k6 kl p3 p4 p6 p7 p8 r7 r8 r9 z);omega)
 .rintro U H4 ⟨m,M,fl,v5,v6,v7,v8,rfl,fr,ec,eh,Z,b1,p8,hk,f3,b5,b8⟩;rw[kl,Cf]at hk;rw[kl]at b8;have g7:=uF (Hs:=H3) ec (λo v z=>by rw[g5]at z;cases z)
  have n5:=fA (Hs:=H3) eh (λo v z=>nomatch z)
  have j3:Z_ H (Zb H3 H4):=λb u W=>by
   have T:=s1 _ _ W
   have h4:=fr b u (λz=>by rw[z,m3]at W;cases W) (λz=>by rw[z,f5]at T;cases T) (λz=>by rw[z,b6]at T;cases T) T
   by_cases hf:∃o v,u=.frz o v
   .obtain⟨o',v',rfl⟩:=hf;exact nS h4 (j4 _ _ T)
   .exact fA h4 λo v z=>hf ⟨o,v,z⟩
  unfold U7;dsimp only;generalize Zb H3 H4=H5 at g7 n5 j3 ⊢;have b3:m.length=(wl t).length:=by rw[<-hk,Ab]
  have c5:(m.map (·.1)).Nodup:=by rw[hk];exact qW t t.length
  fail "g";refine Sx g7 λo2=>?_;have m5:(upd H5 ac (.frz o2 (.dT (eO (wl t) ds)))) ac=_:=aE
  have c1:(upd H5 ac (.frz o2 (.dT (eO (wl t) ds)))) ah=_:=(aH e7).trans n5
  refine jH (n:=(wl t).length) (λD i ys Y=>Z_ (upd H5 ac (.frz o2 (.dT (eO (wl t) ds)))) Y/\ys=(((m.take i).map (·.2)).map one).map V.str) (bG (by (exact Nat.le_trans (by assumption) (by decide)))) (λD hD=>⟨aG hD _,rfl⟩) (λD i ys Y _ r h=>⟨r.1 _ _ m5,by rw[kl];exact h⟩) (λD ys Y _ r=>⟨r.1 _ _ m5,kl⟩) ?_ ?_
  .rintro D y ys Y x H' A' B' hD b4 ⟨sm,rfl⟩ I ⟨rfl,kv,bk,C,rfl,S⟩ R a1;have a3:(wl t)[y]?=some (wl t)[y]:=Aa b4
   have a2:kv=(dQ (wl t)[y],V.ref (ds[y]'(by ((try clear e7 h8 j6 j7 p8 r9);omega)))):=by
    unfold eO at C;rw[Gu,a3,Aa (show y<ds.length by ((try clear e7 h8 j6 j7 p8 r9);omega))]at C
    exact(Bj C).symm
   rw[a2]at S;have em:m[y]?=some m[y]:=Aa (by ((try clear e7 h8 j6 j7 p8 r9);omega))
   have e1:m[y].1=(wl t)[y]:=by
    have e0:(m.map (·.1))[y]?=some (wl t)[y]:=by rw[hk];exact a3
    rw[Ag,em]at e0;exact Bj e0
   have tk:m.take (y+1)=m.take y++[m[y]]:=by rw[Be,em];rfl
   rw[tk]at R;replace S:H' bk=some (.tup ((dQ m[y].1).map kV)):=by rw[e1];exact S
   have d8:cN (iQ m) (dQ m[y].1)=some (.str (one m[y].2)):=by
    have q1:(m[y].1,m[y].2)∈m:=Am em
    rw[lO,qP c5 q1];rfl
   clear a2 C a3 tk e1 em;generalize m[y]=mx at S R d8;have d5:=sm _ _ c1
   fail "g";refine⟨Wk.set rfl (Wk.refl _),?_⟩;fail "g";refine R9 (k:=dQ mx.1) (.inl d5) S d8 ?_;refine R _ _ I ⟨bJ hD sm,?_⟩;rw[Ap,Ap,Ap];rfl
  .rintro D ys Y hD ⟨sm,rfl⟩ I _;rw[<-b3,Cf]at I;have su:=wQ g7 (λo v z=>nomatch z) sm
   have eu:=fA (Hs:=H5) I (λo v z=>nomatch z)
   generalize Zb H5 Y=H6 at su eu ⊢;have c3:=j3.trans su
   refine⟨b,D,t,m.map (·.2),rfl,aO c3 hb,aM eu,h8,h7,λr ps H7 hr s7 er p9 q2=>?_⟩;refine q r ps (m.map (·.2)) H7 (none_of c3 hr) (c3.trans s7) er p9 (q2.Yf c3) (by rw[Ab,b3]) (λj w g hw hg=>?_) (λc=>?_) (by rw[a6];exact⟨m,b8,rfl⟩)
   .rw[<-hk,Ag]at hw;rw[Ag]at hg;cases em:m[j]? with
    |none=>rw[em]at hw;cases hw
    |some x=>
     rw[em]at hw hg;cases hw;cases hg;exact f3 x.1 x.2 (Am em)
   .rw[a6];have T:=b5 c
    have h2:Yh (m.map (·.2)) c=YJ m c:=by
     unfold Yh YJ;rw[List.countP_map];rfl
    rw[h2];((try clear b3 dl e7 h8 j6 j7 kl p8 r9);omega)
def Y6(n:Nat->Int)(cws:List (List Nat)):Prop:=∃a,a.length=(wl cws).length/\(∀(j:Nat) w g,(wl cws)[j]?=some w->a[j]?=some g->g∈ZJ cws w)/\∀c,(Yh a c:Int)<=n c
def NS(x:Nat):∀ {F:List Nat},F.Nodup->(F.map λc=>if x=c then 1 else 0).sum=if x∈F then 1 else 0
 |[],_=>rfl
 |c::r,h=>by
  have a:=Cp.mp h
  rw[As,Cv,NS x a.2];grind
def Rz(g h:Nat->Nat):∀F:List Nat,(F.map λc=>g c+h c).sum=(F.map g).sum+(F.map h).sum
 |[]=>rfl
 |c::r=>by
  rw[As,Cv,Rz g h r,As,Cv,As,Cv];omega
def O3(a:F.Nodup):∀b,(F.map (Yh b)).sum=b.countP λx=>decide (x∈F)
 |[]=>by
  have:∀F:List Nat,(F.map (Yh [])).sum=0:=λF=>by
   induction F with
   |nil=>rfl
   |cons c r d=>rw[As,Cv,d];rfl
  rw[this];rfl
 |x::r=>by
  have e:Yh (x::r)=λc=>Yh r c+if x=c then 1 else 0:=by
   funext c
   unfold Yh;grind
  rw[e,Rz,O3 a r,NS x a,Dv];grind
def uP{p:α->Bool}{q:β->Bool}:∀(L:List α) (M:List β),L.length=M.length->(∀(j:Nat) a b,L[j]?=some a->M[j]?=some b->p a=true->q b=true)->L.countP p<=M.countP q
 |[],_,_,_=>Ct _
 |a::L,b::M,h,hpq=>by
  rw[Dv,Dv];have g:=uP L M (by simp_all) λj x y e d=>hpq (j+1) x y e d
  have f:=hpq 0 a b rfl rfl
  grind
def Ri{g h:Nat->Int}(e:∀c,g c<=h c):∀F:List Nat,(F.map g).sum<=(F.map h).sum
 |[]=>Ip _
 |c::r=>by
  rw[As,Cv,As,Cv];have:=Ri e r
  grind
def HU{W L:List Wt}(s:W.Sublist L):W.length<=L.countP λw=>decide (w∈W):=by
 have h:=s.countP_le (p:=λw=>decide (w∈W))
 have e:W.countP _=W.length:=List.countP_eq_length.mpr λw a=>Ao a
 omega
def M3(h:ZG cws n W F):F.Nodup:=by
 obtain⟨p,rfl⟩:=h.flags;exact List.Nodup.sublist Gb (by decide)
def Ot(h:ZG cws n W F):¬Y6 n cws:=by
 rintro⟨fs,hl,hch,hct⟩;have k:=HU h.sub
 have i:=uP _ _ hl.symm λj w g a c b=>Ao (h.all w (Az b) g (hch j w g a c))
 have f:=O3 (M3 h) fs
 have d:=Ri hct F
 rw[rF _ F]at d;have e:=h.NB
 ((try clear hl);omega)
inductive uK(l:List V)(H:Hp)(Q:VK)(zz3:XK):Prop|mk(a b h f e:_)(_:l=[.ref a,.ref b])(_:Rd H a (.dK h))(_:Lk h f)(_:Z4 H b=some ((e.map aV).map V.str))(_:e.length<=8)(_:(∀c∈e,c.length<=7/\∀d∈c,aX d))(_:(Y6 (aQ (aZ (aQ f))) e->∀g,Z_ H g->Q .non g))(_:(∀t j i k W F g,Z_ H g->H t=none->g t=some (.tup [.ref j,.ref i])->g j=some (.lst (k.map V.ref))->ZV g k W->g i=some (.lst ((F.map one).map V.str))->ZG e (aQ (aZ (aQ f))) W F->H j=none->H i=none->Q (.ref t) g)):uK l H Q zz3
def Rg:Z9 ["locker", "words", "lack"] ["locker", "words"] (aK qX):=by fail "sc"
def JU(F:ZT K "lack_of" "lack_of" qX f fd)(z8:iP P w K mg base 3 "hang_all" ["locker", "words"] (iX Zs)):Z8 P w K mg base ZS 4 f fd ["locker", "words"] uK:=by
 refine F.ok Rg (λvs H Q E h=>?_) (λcdv A outer s H vs Q E hr h=>?_)
 .obtain⟨a,b,kvs,f,cws,rfl,_⟩:=h;rfl
 obtain⟨a,b,kvs,f,cws,rfl,ha,lk,hb,h8,hL,q1,q2⟩:=h;refine⟨_,(@aD _ _ _ _ _ (G3 (i:=2) rfl rfl rfl Rg.nd rfl rfl rfl G.XR (λy6 R=>(@aI _ _ _ (bW (HH z8 (xI rfl) hr (by decide) rfl (aA (mv 0) (aA (mv 1) aB)))))) (λy6 ea=>(@aI _ _ _ (aT (dM (aA (RD (K:=K) rfl (mv 2) rfl) (aA (RD (K:=K) rfl (mv 2) rfl) aB))))))) (@aI _ _ _ (aT dG))),?_⟩
 refine⟨a,b,kvs,f,cws,rfl,ha,lk,hb,h8,hL,λrh ps fs H1 hrh s1 er hne hls hfl hch hct _=>?_,λdx l1 l2 rs W F H1 s1 ed el1 hwt el2 hlo _ hn1 hn2=>⟨G.Wj,λea hea=>?_⟩⟩
 exact q1 ⟨fs,hfl,hch,hct⟩ _ s1
 .have k2:=aG hea (yH ea (.ref Zs) (some dx))
  have e2:(upd H1 ea (yH ea (.ref Zs) (some dx))) ea=_:=aE
  have ed2:=k2 _ _ ed
  refine⟨ea,Zs,dx,_,_,rfl,.inl e2,ed2,G.Yi,G.xn_Lack_wants,rfl,?_⟩;refine⟨ea,Zs,dx,_,_,rfl,.inl e2,ed2,G.Yi,G.xn_Lack_flags,rfl,?_⟩;refine⟨za0,λt ht=>?_⟩
  have s3:=k2.trans (aG ht (.tup [.ref l1,.ref l2]))
  exact q2 t l1 l2 rs W F _ (s1.trans s3) (none_of (s1.trans k2) ht) aE (s3 _ _ el1) ⟨hwt.1,λj p w hp hw=>s3 _ _ (hwt.2 j p w hp hw)⟩ (s3 _ _ el2) hlo hn1 hn2
def pR{x:V}(h:(ks.map λk=>V.int ((k:Nat):Int))[j]?=some x):∃k,ks[j]?=some k/\x=.int ((k:Nat):Int):=by
 rw[Ag]at h;cases e:ks[j]? with
 |none=>rw[e]at h;cases h
 |some k=>rw[e]at h;cases h;exact⟨k,rfl,rfl⟩
noncomputable def cT:List Nat->Nat->List (List Nat)
 |_,0=>[[]]
 |ks,m+1=>(List.range ks.length).flatMap λj=>(cT (ks.drop (j+1)) m).map λl=>ks.getD j 0::l
def kN(a:List Nat):cT a 0=[[]]:=by cases a<;>rfl
def kI(a:List Nat)(m:Nat):cT a (m+1)=(List.range a.length).flatMap λj=>(cT (a.drop (j+1)) m).map λl=>a.getD j 0::l:=by rw[cT]
def O9{x:Nat}{l:List Nat}:∀ {a:List Nat},(x::l).Sublist a->∃j,j<a.length/\a.getD j 0=x/\l.Sublist (a.drop (j+1))
 |k::a,h=>by
  rcases List.sublist_cons_iff.mp h with e|⟨r,e,b⟩
  .obtain⟨j,f,d,c⟩:=O9 e;exact⟨j+1,Nat.succ_lt_succ f,d,c⟩
  .cases e;exact⟨0,Nat.succ_pos _,rfl,b⟩
def ZH:∀ {m:Nat} {a l:List Nat},l∈cT a m ↔ l.Sublist a/\l.length=m
 |0,a,l=>by
  rw[kN,Ah];constructor
  .rintro rfl;exact⟨List.nil_sublist _,rfl⟩
  .exact λh=>Gi h.2
 |m+1,a,l=>by
  rw[kI,Ij];constructor
  .rintro⟨j,hj,hl⟩;rw[Bu]at hj;obtain⟨g,f,rfl⟩:=Bb.mp hl;obtain⟨c,d⟩:=ZH.mp f;refine⟨?_,by rw[Av,d]⟩
   have e:a.getD j 0::a.drop (j+1)=a.drop j:=by
    rw[Ac,Aa hj];exact(List.drop_eq_getElem_cons hj).symm
   have b:(a.getD j 0::g).Sublist (a.getD j 0::a.drop (j+1)):=c.cons_cons _
   rw[e]at b;exact b.trans (List.drop_sublist _ _)
  .rintro⟨f,c⟩;cases l with
   |nil=>cases c
   |cons x l=>
    obtain⟨j,d,b,i⟩:=O9 f;exact⟨j,List.mem_range.mpr d,List.mem_map.mpr ⟨l,ZH.mpr ⟨i,by simpa using c⟩,by rw[b]⟩⟩
def sA(f:α->List β)(b:Nat):∀(L:List α),(∀x∈L,(f x).length<=b)->(L.flatMap f).length<=L.length*b
 |[],_=>Ct _
 |x::r,h=>by
  rw[Gw,Af,Av,Nat.succ_mul];have d:=sA f b r λy a=>h y (Ak _ a)
  grind
def jS:∀ {m:Nat} {a:List Nat},a.length<=6->(cT a m).length<=6^m
 |0,a,_=>by rw[kN];decide
 |m+1,a,h=>by
  refine Bh (sA _ (6^m) _ λj _=>?_) ?_
  .rw[Ab];exact jS (by grind)
  .rw[Bf,Nat.pow_succ,Nat.mul_comm];exact Nat.mul_le_mul_left _ h
def Nw(a:List Nat)(j:Nat):(a.map λk=>V.int ((k:Nat):Int)).drop j=((a.drop j).map λk=>V.int ((k:Nat):Int)):=(Fy ..).symm
def LN:kS xs (some ((k:Nat):Int)) none=xs.drop k:=by
 show (xs.drop (if ((k:Nat):Int)<0 then (((k:Nat):Int)+(xs.length:Int)).toNat else min (_:Int).toNat xs.length)).take (xs.length-(if ((k:Nat):Int)<0 then (((k:Nat):Int)+(xs.length:Int)).toNat else min (_:Int).toNat xs.length))=_
 rw[if_neg (by omega),Fu]
 by_cases h:k<=xs.length
 .rw[Fo h,Bi (by simp_all)]
 .rw[Ff (by omega),List.drop_length,List.take_nil,Ic (by omega)]
noncomputable def rK(a:List Nat)(m i:Nat):List (List Nat):=(List.range i).flatMap λj=>(cT (a.drop (j+1)) m).map λl=>a.getD j 0::l
def JV(a:List Nat)(m i:Nat):rK a m (i+1)=rK a m i++(cT (a.drop (i+1)) m).map λl=>a.getD i 0::l:=by
 unfold rK;rw[Cm,Ga,Gw,List.flatMap_nil,Bs]
def JY(h:m<=7):6^m<=279936:=Bh (Nat.pow_le_pow_right (by decide) h) (by decide)
def DF{m i:Nat}(h:ks.length<=6):(rK ks m i).length<=i*6^m:=by
 have:=sA (λj=>(cT (ks.drop (j+1)) m).map λl=>ks.getD j 0::l) _ (List.range i) λj _=>by
  rw[Ab];exact jS (by rw[Ce];omega)
 rwa [Bf]at this
def vM{x:V}(h:(ps.map V.ref)[j]?=some x):∃p,ps[j]?=some p/\x=.ref p:=by
 rw[Ag]at h;cases e:ps[j]? with
 |none=>rw[e]at h;cases h
 |some p=>rw[e]at h;cases h;exact⟨p,rfl,rfl⟩
def K0(k:Nat)(L:Q6):(List.range L.length).map (λj=>V.int ((k:Nat):Int)::((L.getD j []).map λk=>V.int ((k:Nat):Int)))=(L.map λl=>k::l).map λl=>(l.map λk=>V.int ((k:Nat):Int)):=by
 rw[Cd];have h:∀n,n<=L.length->(List.range n).map (λj=>V.int ((k:Nat):Int)::((L.getD j []).map λk=>V.int ((k:Nat):Int)))=(L.take n).map ((λl=>(l.map λk=>V.int ((k:Nat):Int))) ∘ λl=>k::l):=λn=>by
  induction n with
  |zero=>intro _;rfl
  |succ n a=>
   intro b;have e:L[n]?=some L[n]:=Aa (by (assumption))
   rw[Cm,Ap,a (by (exact Nat.le_of_lt (by assumption))),Be,e,Ap]
   grind
 have r:=h L.length (Ai _)
 rwa [Cf]at r
def dA(n:Nat):Sp:=λe H Q _=>∃b d m,e=[.ref b,.int ((m:Nat):Int)]/\Z4 H b=some (d.map λk=>V.int ((k:Nat):Int))/\d.length<=6/\m<n/\m<=7/\
 ∀r c a,H r=none->Z_ H a->a r=some (.lst (c.map V.ref))->ZQ H a c ((cT d m).map λl=>(l.map λk=>V.int ((k:Nat):Int)))->(∀p∈c,p≠r)->Q (.ref r) a
def rJ:∀a H Q E,¬dA 0 a H Q E:=λa H Q E ⟨_,_,_,_,_,_,h,_⟩=>Gm _ h
def j3:Z9 ["numbers", "many", "lists", "at", "number", "behind"] ["numbers", "many"] (aK dR):=by fail "sc"
def tL{n:Nat}(F:ZT K "rising_lists" "rising_lists" dR f fd)(m4:ZR P w K mg base (d+1) "rising_lists" ["numbers", "many"] (dA n)):Z8 P w K mg base ZS (d+2) f fd ["numbers", "many"] (dA (n+1)):=by
 refine F.ok j3 (λvs H Q E h=>?_) (λcdv A outer s H vs Q E hr h=>?_)
 .obtain⟨b,ks,m,rfl,_⟩:=h;rfl
 obtain⟨b,ks,m,rfl,hb,h6,hmn,h7,q⟩:=h;refine⟨_,(@aD _ _ _ _ _ (cD (bA mV (mv 1) aJ (bB _)) (@aI _ _ _ (aT (bO (aA (bO aB) aB)))) bF) (@aD _ _ _ _ _ (aP 2 j3.nd (bO aB)) (@aD _ _ _ _ _ (cP Bl rfl (nL rfl G.b_enumerate (aA (mv 0) aB)) (eP (K:=K) (i:=3) (j:=4) (by rfl) (by rfl) j3.nd (by rfl) (by exact(Or.inl rfl)) (by exact Or.inl rfl) (by rfl) (by exact(Or.inr rfl)) (by exact Or.inl rfl)) (@aD _ _ _ _ _ (aP 5 j3.nd (aU m4 hr (Ai _) rfl (aA (iJ Vt (mv 0) (fI (aR bQ (mv 3) aJ)) RV) (aA (aR lL (mv 1) aJ) aB)))) (@aI _ _ _ (bW (cM Bg Ep Er Vv (mv 2) (aA (cL rfl (bT (mv 5)) (gF (N:=["rest", "number"]) ["numbers", "many", "lists", "at", "number", "behind"] (aK dR) [none,some 4] rfl rfl rfl (λx h=>cC h) (by decide +kernel)) (by decide +kernel) rfl (by decide +kernel) (λ_ _ _ _=>(bC (i:=0) (show List.Nodup (["rest", "number"]:List Str) by decide +kernel) rfl (Or.inl rfl))) (λ_ _ _ _=>cX) (λ_ _ _ _=>(aR bQ (bO (aA (mv 1) aB)) (mv 0)))) aB)))))) (@aI _ _ _ (aT (mv 2)))))),?_⟩
 cases m with
 |zero=>
  fail "g";rw[show decide (((0:Nat):Int)=0)=true from rfl];fail "g";refine⟨by decide,λp hp=>?_⟩
  have s1:=aG hp (.lst [])
  have e1:(upd H p (.lst [])) p=some (.lst ((([]:List Nat)).map λk=>V.int ((k:Nat):Int))):=aE
  generalize upd H p (.lst [])=H1 at s1 e1 ⊢;fail "g";refine⟨r0,λr hr=>?_⟩
  have s2:=aG hr (.lst [.ref p])
  have npr:p≠r:=λz=>by rw[z,hr]at e1;cases e1
  refine q r [p] _ (none_of s1 hr) (s1.trans s2) aE ?_ (λz hz=>by rw[Ah.mp hz];exact npr)
  rw[kN];exact ZQ.snoc (ps:=[]) (fs:=[]) .nil hp (s2 _ _ e1)
 |succ m=>
  have h6m:=JY (m:=m+1) h7
  rw[Nat.pow_succ]at h6m;fail "g";rw[show decide (((m+1:Nat):Int)=0)=false from Aw (by ((try clear h6 h6m hmn);omega))]
  fail "g";refine⟨by decide,λp hp=>?_⟩
  have s1:=aG hp (.lst [])
  have e1:(upd H p (.lst [])) p=some (.lst (([]:List Addr).map V.ref)):=aE
  generalize upd H p (.lst [])=H1 at s1 e1 ⊢;have hb1:=aO s1 hb
  fail "g";refine uE (xs:=(ks.map λk=>V.int ((k:Nat):Int))) (λi U H'=>∃ps v3 v4 v5,U=[some (.ref b),some (.int ((m+1:Nat):Int)),some (.ref p),v3,v4,v5]/\Z_ H H'/\H' p=some (.lst (ps.map V.ref))/\ZQ H H' ps ((rK ks m i).map λl=>(l.map λk=>V.int ((k:Nat):Int)))/\∀z∈ps,z≠p)
   ⟨[],_,_,_,rfl,s1,e1,.nil,λz hz=>nomatch hz⟩ (λi U H' _ ⟨_,_,_,_,_,e,_⟩=>aO e hb) ?_ ?_
  .rintro i x U H2 pt hx ⟨ps,v3,v4,v5,rfl,s2,e2,ls,nd⟩ hpt;obtain⟨k,ek,rfl⟩:=pR hx;have hi:=(Ad.mp ek).1
   have hps:ps.length=(rK ks m i).length:=by rw[ls.1,Ab]
   have hpl:=DF (m:=m) (i:=i) h6
   have hpl2:i*6^m<=5*6^m:=Nat.mul_le_mul_right _ (by ((try clear h6m h7 hmn hpl hps);omega))
   have s3:=s2.trans (aG hpt (.tup [.int ((0+i:Nat):Int),.int ((k:Nat):Int)]))
   have s23:=aG hpt (.tup [.int ((0+i:Nat):Int),.int ((k:Nat):Int)])
   have et3:(upd H2 pt (.tup [.int ((0+i:Nat):Int),.int ((k:Nat):Int)])) pt=some (.tup [.int ((0+i:Nat):Int),.int ((k:Nat):Int)]):=aE
   generalize upd H2 pt (.tup [.int ((0+i:Nat):Int),.int ((k:Nat):Int)])=H3 at s3 s23 et3 ⊢;have hb3:=aO s3 hb
   have tt3:=cW et3
   fail "g";rw[show ((0+i:Nat):Int)+1=((i+1:Nat):Int) by ((try clear h6 h6m h7 hi hmn hpl hpl2 hps);omega)]
   intro ra hra;rw[LN,Nw];have s4:=aG hra (.lst ((ks.drop (i+1)).map λk=>V.int ((k:Nat):Int)))
   have e4:Z4 (upd H3 ra (.lst ((ks.drop (i+1)).map λk=>V.int ((k:Nat):Int)))) ra=some ((ks.drop (i+1)).map λk=>V.int ((k:Nat):Int)):=cG
   generalize upd H3 ra (.lst ((ks.drop (i+1)).map λk=>V.int ((k:Nat):Int)))=H4 at s4 e4 ⊢;have s24:=s23.trans s4
   fail "g";rw[show ((m+1:Nat):Int)-1=((m:Nat):Int) by ((try clear h6 h6m h7 hi hmn hpl hpl2 hps);omega)]
   refine⟨ra,ks.drop (i+1),m,rfl,e4,by rw[Ce];((try clear h6m h7 hmn hpl hpl2 hps);omega),by ((try clear h6 h6m h7 hi hpl hpl2 hps);omega),by (exact Nat.le_of_lt (by assumption)),λrb qs H5 hrb s5 e5 lq nq=>?_⟩
   have s25:=s24.trans s5
   have rb5:=aM e5
   have rp5:=aM (s25 _ _ e2)
   have hqs:qs.length=(cT (ks.drop (i+1)) m).length:=by rw[lq.1,Ab]
   have hql:(cT (ks.drop (i+1)) m).length<=6^m:=jS (by rw[Ce];((try clear h6m h7 hmn hpl hpl2 hps hqs);omega))
   fail "g";refine K7 (λj=>V.int ((k:Nat):Int)::(((cT (ks.drop (i+1)) m).getD j []).map λk=>V.int ((k:Nat):Int))) rb5 (by rw[Ab,hqs];exact Nat.lt_of_le_of_lt (Bh hql (Bh (Nat.le_mul_of_pos_right _ (by decide:0<6)) h6m)) (by decide)) (λj x Hc A B hx sm hA=>?_) (λD Hd us hD sd eD hul lu nu=>?_)
   .obtain⟨u,eu,rfl⟩:=vM hx;have hj:j<(cT (ks.drop (i+1)) m).length:=by rw[<-hqs];exact(Ad.mp eu).1
    obtain⟨l,el⟩:∃l,(cT (ks.drop (i+1)) m)[j]?=some l:=⟨_,Aa hj⟩;have hu:=sm _ _ (lq.2 j u (l.map λk=>V.int ((k:Nat):Int)) eu (by rw[Ag,el];rfl)).2
    have hll:l.length=m:=(ZH.mp (Am el)).2
    have hgl:(cT (ks.drop (i+1)) m).getD j []=l:=by rw[Ac,el];rfl
    rw[hgl]at hA;fail "g";refine⟨Wk.set rfl (Wk.refl _),?_⟩;fail "g";refine⟨r0,λp6 hp6=>?_⟩
    have s6:=aG hp6 (.lst [V.int ((k:Nat):Int)])
    have e6:(upd Hc p6 (.lst [V.int ((k:Nat):Int)])) p6=some (.lst [V.int ((k:Nat):Int)]):=aE
    have hu6:=s6 _ _ hu
    generalize upd Hc p6 (.lst [V.int ((k:Nat):Int)])=H6 at s6 e6 hu6 ⊢;refine jK (bL e6) (bL hu6) (bM (by rw[Ab];show 1+_<=_;((try clear h6 h6m hi hj hmn hpl hpl2 hps hql hqs);omega))) λp7 hp7=>?_
    exact hA p7 _ (none_of s6 hp7) (s6.trans (aG hp7 _)) aE
   .rw[Ab,hqs,K0]at lu;rw[Ab]at hul;have s2d:=s25.trans sd
    have e2d:=s2d _ _ e2
    have npD:∀z∈us,z≠p:=λz hz zp=>by
     obtain⟨g,_,h1,_⟩:=lu.mem hz;rw[zp,s25 _ _ e2]at h1;cases h1
    have hek:ks.getD i 0=k:=by rw[Ac,ek];rfl
    fail "g";refine Pz (bL e2d) (bL eD) (Bh (by rw[Ab,Ab,hps,hul,hqs];((try clear h6 h7 hek hi hmn hps);omega):_<=279936) (by decide)) ?_
    fail "g";refine⟨ps++us,_,_,_,rfl,bJ hp (s2.trans s2d),by rw[Ap];exact aE,?_,λz hz=>?_⟩
    .rw[JV,Ap,hek];refine ZQ.put ?_ λz hz=>?_
     .exact(ls.keep s2d).app (lu.Yf (s2.trans s25))
     .rcases Bk.mp hz with e|e
      .exact nd z e
      .exact npD z e
    .rcases Bk.mp hz with e|e
     .exact nd z e
     .exact npD z e
  .rintro U H2 ⟨ps,v3,v4,v5,rfl,s2,e2,ls,nd⟩;fail "g";refine q p ps H2 hp s2 e2 ?_ nd;rw[kI];rw[Ab]at ls;exact ls
def Kh{n:Nat}:∀ {L:List Str},(∀z∈L,z.length<=n)->(Txt.join sep L).length<=(n+sep.length)*L.length
 |[],_=>Ct _
 |y::r,h=>by
  have c:∀r:List Str,(∀z∈r,z.length<=n)->(r.map λy=>sep.cps.toList++y.cps.toList).flatten.length<=(n+sep.length)*r.length:=λr h=>by
   induction r with
   |nil=>exact Ai _
   |cons u v b=>
    rw[As,By,Af,Af,Av,eZ,eZ];grind
  rw[<-eZ,QG,Af,eZ,Av,Nat.mul_succ];grind
def dO(F:α->V):∀a:List α,(List.range a.length).filterMap (λj=>(a[j]?).map F)=a.map F:=λa=>by
 have h:∀n,n<=a.length->(List.range n).filterMap (λj=>(a[j]?).map F)=(a.take n).map F:=λn=>by
  induction n with
  |zero=>intro _;rfl
  |succ n b=>
   intro c;have e:a[n]?=some a[n]:=Aa (by (assumption))
   rw[jF (y:=F a[n]) (by rw[e];rfl),b (by (exact Nat.le_of_lt (by assumption))),Be,e,Ap]
   rfl
 have r:=h a.length (Ai _)
 rw[Cf]at r;exact r
def YC(H:Hp)(v:V):Option (List Nat)->Prop
 |none=>v=.non
 |some a=>∃p,v=.ref p/\H p=some (.lst ((a.map one).map V.str))
def fF(hs:List (Option (List Nat))):Prop:=∀a,some a∈hs->dF (a.map one)=true
structure Z7 (H:Hp) (vs:List V) (hs:List (Option (List Nat))):Prop where
 len:vs.length=hs.length
 val:∀(j:Nat) v h,vs[j]?=some v->hs[j]?=some h->YC H v h
def YC.keep(a:YC H v h)(s:∀p b,H p=some (.lst b)->v=.ref p->H' p=some (.lst b)):YC H' v h:=by
 cases h with
 |none=>exact a
 |some d=>
  obtain⟨p,e,c⟩:=a;exact⟨p,e,s p _ c e⟩
def Z7.keep(a:Z7 H vs hs)(s:Z_ H H'):Z7 H' vs hs:=⟨a.len,λj v h b d=>(a.val j v h b d).keep λp e c _=>s _ _ c⟩
def Z7.nil:Z7 H [] []:=⟨rfl,λj v h a=>nomatch a⟩
def Z7.snoc{hs:Q4}{v:V}{h:Option (List Nat)}(a:Z7 H vs hs)(b:YC H v h):Z7 H (vs++[v]) (hs++[h]):=by
 refine⟨by rw[Af,Af,a.len];rfl,λj x g c d=>?_⟩
 by_cases f:j<vs.length
 .rw[An f]at c;rw[An (by rw[<-a.len];exact f)]at d
  exact a.val j x g c d
 .have e:j=vs.length:=by
   grind
  subst e;rw[Aq (Ai _),Ej]at c;rw[a.len,Aq (Ai _),Ej]at d;cases c;cases d;exact b
def YC.ne(d:H r=some (.lst vs))(f:vs[j]?=some v)(a:YC H v h):v≠.ref r:=λz=>by
 cases h with
 |none=>rw[show v=.non from a]at z;cases z
 |some g=>
  obtain⟨p,e,c⟩:=a;simp_all
def Z7.put(d:H r=some (.lst vs))(a:Z7 H vs hs):Z7 (upd H r (.lst us)) vs hs:=⟨a.len,λj v h b c=>(a.val j v h b c).keep λp g f e=>by
 rw[aH (λz=>(a.val j v h b c).ne d b (by simp_all))]
 exact f⟩
def OW{g:TG}{d:TT}{L:TE}{J:St}{l:Hp}{Q:VK}{hs:Q4}(E:Z4 l a=some xs)(T:xs.length<sizeLine)(R:xs.length=hs.length)(q:∀(i:Nat) x h c A (B:Hp->Prop),xs[i]?=some x->hs[i]?=some h->Z_ l c->(∀v k,Z_ c k->YC k v h->(∀p,v=.ref p->c p=none)->A v k)->
 g x J c λI U=>Wk J I/\d I U λb O=>if b=true then L I O A else B O)(G:∀D k w,l D=none->Z_ l k->k D=some (.lst w)->Z7 k w hs->(∀p,V.ref p∈w->l p=none)->Q (.ref D) k):eF g d L J Q (Xl K a) l:=by
 refine jH (n:=xs.length) (λD i m c=>Z_ l c/\Z7 c m (hs.take i)/\∀p,V.ref p∈m->l p=none) T (λD t=>⟨aG t _,.nil,λp s=>nomatch s⟩)
  (λD i m c _ r h=>⟨xs,xs[i],bE (aO r.1 E),by simp[h]⟩) (λD m c _ r=>⟨xs,bE (aO r.1 E),Nat.le_refl _⟩) ?_ ?_
 .rintro D i m c x X A B t Z ⟨o,j,F⟩ f ⟨rfl,P⟩ C hb;have y:i<hs.length:=by ((try clear T);omega)
  have N:=Aa y
  refine q i x hs[i] X A B (P xs (bE (aO o E))) N o (λv k u S M=>?_);refine C _ _ (u _ _ f) ⟨bJ t (o.trans u),?_,λp s=>?_⟩
  .rw[Be,N];refine Z7.snoc ((j.keep u).put (u _ _ f)) (S.keep λp Y s e=>?_);rw[aH (λz=>by have:=M p e;rw[z,f]at this;cases this)]
   exact s
  .rcases Bk.mp s with e|e
   .exact F p e
   .exact none_of o (M p (Ah.mp e).symm)
 .rintro D m c t ⟨o,j,F⟩ f _;rw[R,Cf]at j;exact G D c m t o f j F
def NW{f:Nat->Option Int}(a:∀c,0<=aQ f c)(c:Nat):aQ (aZ (aQ f)) c<=aQ f c:=by
 show (aZ _ c).getD 0<=_
 unfold aZ;split
 .exact Ip _
 .exact a c
def lU:∀i,i<=cws.length->(XG cws i).length=gM cws i
 |0,_=>rfl
 |i+1,h=>by
  have e:cws[i]?=some cws[i]:=Aa (by (assumption))
  rw[mM,Af,lU i (by (exact Nat.le_of_lt (by assumption))),yY e]
  unfold qI;rw[Ab,Bf,Ac,e];rfl
def Jv(b:cws[i]?=some cw)(f:k<cw.length):(wl cws)[gM cws i+k]?=some (i,1+k):=by
 have a:=(Ad.mp b).1
 have h:∀n,i<n->n<=cws.length->(XG cws n)[gM cws i+k]?=some (i,1+k):=λn=>by
  induction n with
  |zero=>intro h;((try clear a f);omega)
  |succ n c=>
   intro j g;rw[mM];by_cases d:i=n
   .subst d;have e:=lU (cws:=cws) i (by (exact Nat.le_of_lt (by assumption)))
    rw[Aq (by ((try clear a f g j);omega)),show gM cws i+k-(XG cws i).length=k by ((try clear a f g j);omega)]
    unfold qI;simp_all
   grind
 exact h cws.length a (Ai _)
def Hg(cw h:List Nat):Prop:=h.length=cw.length/\∀k g,h[k]?=some g->g∈Xm cw k
inductive YB:List (List Nat)->List (List Nat)->Prop
 |nil:YB [] []
 |cons {cw h:List Nat} {cws hs:Q6}:Hg cw h->YB cws hs->YB (cw::cws) (h::hs)
noncomputable def jZ:List (List Nat)->List Nat->List (List Nat)
 |[],_=>[]
 |cw::r,fs=>fs.take cw.length::jZ r (fs.drop cw.length)
def nG:∀ {b:Q6} {a:List Nat},a.length=(b.map List.length).sum->(jZ b a).flatten=a
 |[],a,h=>by rw[Gi h];rfl
 |cw::r,a,h=>by
  rw[As,Cv]at h;rw[jZ,By,nG (by grind),En]
def Ox:∀ {a:Q6} {e:List Nat},e.length=(a.map List.length).sum->(∀i k g b,a[i]?=some b->k<b.length->e[gM a i+k]?=some g->g∈Xm b k)->YB a (jZ a e)
 |[],e,h,_=>.nil
 |b::r,e,h,hc=>by
  rw[As,Cv]at h;refine .cons ⟨by rw[Bt];omega,λk g d=>?_⟩ (Ox (by rw[Ce];omega) λi k g f l d j=>?_)
  .have c:k<b.length:=by
    grind
   rw[List.getElem?_take,if_pos c]at d;exact hc 0 k g b rfl c (by rw[show gM (b::r) 0=0 from rfl,Nat.zero_add];exact d)
  .refine hc (i+1) k g f l d ?_;rw[List.getElem?_drop]at j;rw[show gM (b::r) (i+1)=b.length+gM r i by unfold gM;rw[List.take_succ_cons,As,Cv],Nat.add_assoc]
   exact j
def Uj(cws:Q6):(wl cws).length=(cws.map List.length).sum:=by
 have h:=lU  cws.length (Ai _)
 unfold gM at h;rwa[Cf]at h
def SM(c:fs.length=(wl cws).length)(a:∀(j:Nat) w g,(wl cws)[j]?=some w->fs[j]?=some g->g∈ZJ cws w):YB cws (jZ cws fs):=by
 refine Ox (c.trans (Uj cws)) λi k g f b d e=>?_;have h:=a _ _ g (Jv b d) e
 unfold ZJ at h;grind
def Z7.get(a:Z7 H vs hs)(c:k<hs.length):∃v,YY vs (k:Int)=some v/\vs[k]?=some v/\YC H v (hs.getD k none):=by
 have b:k<vs.length:=by rwa[a.len]
 refine⟨vs[k],aW (Aa b),Aa b,?_⟩;refine a.val k _ _ (Aa b) ?_;simp_all
noncomputable def bK(hs:List (Option (List Nat)))(n:Nat):List Nat:=(List.range hs.length).filter λk=>(hs.getD k none).isSome && !decide (k=n)
def nE{n:Nat}(h:k∈bK hs n):k<hs.length/\(hs.getD k none).isSome=true/\k≠n:=by
 obtain⟨b,a⟩:=Di.mp h;simp_all
def vC{n:Nat}(b:n<hs.length):(bK hs n).length+1<=hs.length:=by
 have d:(bK hs n).Sublist ((List.range hs.length).filter λk=>!decide (k=n)):=by
  have e:bK hs n=((List.range hs.length).filter λk=>!decide (k=n)).filter λk=>(hs.getD k none).isSome:=by
   unfold bK;rw[List.filter_filter]
  rw[e];exact Gb
 have i:=d.length_le
 have c:=List.length_eq_countP_add_countP (p:=λk=>decide (k=n)) (l:=List.range hs.length)
 rw[Bf]at c;have h:1<=(List.range hs.length).countP λk=>decide (k=n):=by
  refine List.countP_pos_iff.mpr ⟨n,Bu.mpr b,Ao rfl⟩
 have g:((List.range hs.length).filter λk=>!decide (k=n)).length=(List.range hs.length).countP λk=>!decide (k=n):=Gp.symm
 have f:((List.range hs.length).countP λa=>¬(decide (a=n))=true)=(List.range hs.length).countP λk=>!decide (k=n):=by
  congr 1
  funext k
  cases decide (k=n)<;>rfl
 ((try clear b);omega)
noncomputable def Wn(hs:List (Option (List Nat)))(n:Nat)(i:Nat):Option V:=if ((hs.getD i none).isSome && !decide (i=n))=true then some (V.int ((i:Nat):Int)) else none
def IS(hs:Q4)(n m:Nat):(List.range m).filterMap (Wn hs n)=((List.range m).filter λk=>(hs.getD k none).isSome && !decide (k=n)).map λk=>V.int ((k:Nat):Int):=by
 induction List.range m with
 |nil=>rfl
 |cons a r c=>
  by_cases h:((hs.getD a none).isSome && !decide (a=n))=true
  .rw[Ca  (by unfold Wn;rw[if_pos h]),List.filter_cons_of_pos (p:=λk=>(hs.getD k none).isSome && !decide (k=n)) h,As,c]
  .rw[Cj (by unfold Wn;rw[if_neg h]),List.filter_cons_of_neg (p:=λk=>(hs.getD k none).isSome && !decide (k=n)) h,c]
def lY:Sp:=λe H Q _=>∃a d b n,e=[.ref a,.int ((n:Nat):Int)]/\Z4 H a=some d/\Z7 H d b/\b.length<=7/\
 ∀r c,H r=none->Z_ H c->c r=some (.lst ((bK b n).map λk=>V.int ((k:Nat):Int)))->Q (.ref r) c
def uN:Z9 ["halyards", "number"] ["halyards", "number"] (aK gD):=by fail "sc"
def vY(F:ZT K "others_hung" "others_hung" gD f fd):Z8 P w K mg base ZS 1 f fd ["halyards", "number"] lY:=by
 refine F.ok uN (λy H Q E h=>?_) (λR A l s H y Q E W h=>?_)
 .obtain⟨a,o,c,n,rfl,_⟩:=h;rfl
 obtain⟨a,o,c,n,rfl,M,d,Y,q⟩:=h;refine⟨_,(@aI _ _ _ (aT (cL rfl (nL rfl G.b_enumerate (aA (mv 0) aB)) (gF (N:=["other", "hoist", "number"]) ["halyards", "number"] (aK gD) [none,none,some 1] rfl rfl rfl (λx h=>cC h) (by decide +kernel)) (by decide +kernel) rfl (by decide +kernel) (λ_ _ _ _=>(eP (K:=K) (i:=0) (j:=1) (by rfl) (by rfl) (show List.Nodup (["other", "hoist", "number"]:List Str) by decide +kernel) (by rfl) (Or.inl rfl) (Or.inr rfl) (by rfl) (Or.inl rfl) (Or.inr rfl))) (λ_ _ _ _=>(iZ (PW.pt (S2 (bA uU (mv 1) dG (bB _)) (Sj (bA Of (mv 0) (mv 2) (bB _))))))) (λ_ _ _ _=>(mv 0))))),?_⟩
 have b:=d.len
 fail "g";refine EE (xs:=o) (Wn c n) M (bG (by omega)) (λi x T p A B r U X v m=>?_) (λD S O I u=>?_)
 .have L:i<c.length:=by rw[<-b];exact(Ad.mp r).1
  have k:=d.val i x (c.getD i none) r (by rw[Ac,Aa L];rfl)
  have C:nV (upd T p (.tup [.int ((0+i:Nat):Int),x])) p=some [.int ((0+i:Nat):Int),x]:=nH
  rw[Nat.zero_add]at C v m ⊢;fail "g";refine⟨Wk.set rfl (Wk.set rfl (Wk.refl _)),?_⟩;fail "g";cases e:c.getD i none with
  |none=>
   rw[e]at k;obtain rfl:x=V.non:=k;exact m (by unfold Wn;rw[e];rfl) _ (Z_.refl _)
  |some Z=>
   rw[e]at k;obtain⟨J,rfl,_⟩:=k;rw[show decide (V.ref J=V.non)=false from Aw (λz=>nomatch z)]
   fail "g";by_cases t:i=n
   .rw[Ao (show ((i:Nat):Int)=((n:Nat):Int) by ((try clear L Y b);omega))]
    exact m (by unfold Wn;rw[e,Ao t];rfl) _ (Z_.refl _)
   .rw[Aw (show ¬((i:Nat):Int)=((n:Nat):Int) by ((try clear L Y b);omega))]
    exact v _ (by unfold Wn;rw[e,Aw t];rfl) _ (Z_.refl _)
 .rw[b,IS]at u;exact q D S O I u
noncomputable def bY(hs:List (Option (List Nat)))(a:List Nat):List Nat:=a.flatMap λk=>(hs.getD k none).getD []
def Mn(hs:Q4)(A B:List Nat):bY hs (A++B)=bY hs A++bY hs B:=Ga ..
def yW(ok:fF hs)(k:Nat):((hs.getD k none).getD []).length<=7:=by
 cases e:hs[k]? with
 |none=>rw[Ac,e];exact Ct _
 |some h=>
  rw[Ac,e];cases h with
  |none=>exact Ct _
  |some a=>
   have:=fG (ok a (Am e))
   simp_all
def fS(ok:fF hs):∀a,(bY hs a).length<=7*a.length
 |[]=>Ct _
 |k::r=>by
  show (((hs.getD k none).getD [])++bY hs r).length<=_
  rw[Af,Av];have:=yW ok k
  have:=fS ok r
  omega
inductive gK(g:List V)(H:Hp)(Q:VK)(zz3:XK):Prop|mk(a b f d c:_)(_:g=[.ref a,.ref b])(_:Z4 H a=some f)(_:Z7 H f d)(_:fF d)(_:Z4 H b=some (c.map λk=>V.int ((k:Nat):Int)))(_:c.length<=7)(_:(∀k∈c,k<d.length))(_:∀r e,H r=none->Z_ H e->e r=some (.lst (((bY d c).map one).map V.str))->Q (.ref r) e):gK g H Q zz3
def b9:Z9 ["halyards", "numbers", "flags", "number"] ["halyards", "numbers"] (aK pL):=by fail "sc"
def BE(F:ZT K "flags_on" "flags_on" pL f fd)(G:Gs K mg w Zs Zz Zt Zx Z0 Zw Zy Zu Zv):Z8 P w K mg base ZS 1 f fd ["halyards", "numbers"] gK:=by
 refine F.ok b9 (λW H Q E h=>?_) (λa3 A t s H W Q E hr h=>?_)
 .obtain⟨a,b,X,d,c,rfl,_⟩:=h;rfl
 obtain⟨a,b,X,d,c,rfl,ha,D,M,N,h7,hk,q⟩:=h;refine⟨_,(@aD _ _ _ _ _ (aP 2 b9.nd (bO aB)) (@aD _ _ _ _ _ (cP Bl rfl (bT (mv 1)) (bC (i:=3) b9.nd rfl (Or.inl rfl)) (@aI _ _ _ (cD (bA uU (bD bN (mv 0) (mv 3) (λ_ _=>rfl)) dG (bB _)) (@aI _ _ _ (bW (cM Bg Ep Er Vv (mv 2) (aA (bD bN (mv 0) (mv 3) (λ_ _=>rfl)) aB)))) bF))) (@aI _ _ _ (aT (mv 2))))),?_⟩;fail "g";refine⟨by decide,λp B=>?_⟩
 have J:=aG B (.lst [])
 have a2:=aO J N
 fail "g";refine fP (xs:=(c.map λk=>V.int ((k:Nat):Int))) (λi U I=>∃v,U=[some (.ref a),some (.ref b),some (.ref p),v]/\Z_ H I/\I p=some (.lst (((bY d (c.take i)).map one).map V.str)))
  ⟨_,rfl,J,aE⟩ (λi U I _ ⟨_,_,e,_⟩=>aO e N) ?_ ?_
 .rintro i x U T hx ⟨v,rfl,j,n⟩;obtain⟨k,l,rfl⟩:=pR hx;have C:=hk k (Am l)
  obtain⟨u,S,_,o⟩:=(D.keep j).get C;have L:=aO j ha
  have r:bY d (c.take (i+1))=bY d (c.take i)++(d.getD k none).getD []:=by
   rw[Be,l,Mn];show _++(_++[])=_
   rw[Bs]
  fail "g";refine bX L S ?_;fail "g";cases O:d.getD k none with
  |none=>
   rw[O]at o r;rw[show u=.non from o,show decide (V.non=V.non)=true from rfl];fail "g";exact⟨_,rfl,j,by rw[r];show _=some (HO.lst (((_++[]).map one).map V.str));rwa[Bs]⟩
  |some R=>
   have m:=yW M k
   rw[O]at o r m;obtain⟨Y,rfl,y⟩:=o;rw[show decide (V.ref Y=V.non)=false from Aw (λz=>nomatch z)]
   have Z:=fS M (c.take i)
   rw[Bt]at Z;have a1:(((bY d (c.take i)).map one).map V.str).length+((R.map one).map V.str).length<=sizeLine:=bM (by rw[Ab,Ab,Ab,Ab];have:R.length<=7:=m;((try clear C m);omega))
   fail "g";refine bX L S ?_;fail "g";refine⟨_,rfl,bJ B j,?_⟩;rw[aE,r,Ap,Ap];rfl
 .rintro U T ⟨v,rfl,j,n⟩;rw[Bi (by rw[Ab];exact Ai _)]at n
  exact q p T B j n
def EW(h:os.length<m):cT os m=[]:=by
 cases e:cT os m with
 |nil=>rfl
 |cons l r=>
  have:=ZH.mp (show l∈cT os m by simp_all)
  grind
def uH:∀a,cT a a.length=[a]
 |[]=>kN []
 |k::r=>by
  rw[Av,kI,Av,List.range_succ_eq_map,Gw];have d:((cT ((k::r).drop (0+1)) r.length).map λl=>(k::r).getD 0 0::l)=[k::r]:=by
   show ((cT r r.length).map λl=>k::l)=_
   rw[uH r];rfl
  rw[d,List.flatMap_map];have c:((List.range r.length).flatMap λj=>(cT ((k::r).drop (j.succ+1)) r.length).map λl=>(k::r).getD j.succ 0::l)=[]:=by
   rw[List.flatMap_eq_nil_iff];intro j b;rw[EW (by rw[Ce,Av];have:=Bu.mp b;omega)]
   rfl
  rw[c];rfl
noncomputable def dL(os:List Nat):List (List Nat):=(List.range (os.length+1)).flatMap λm=>cT os m
noncomputable def sS(os:List Nat)(i:Nat):List (List Nat):=(List.range i).flatMap λm=>cT os m
def pE(os:List Nat)(i:Nat):sS os (i+1)=sS os i++cT os i:=by
 unfold sS;rw[Cm,Ga];simp_all
def Zi{l:List Nat}:l∈dL os ↔ l.Sublist os:=by
 unfold dL;rw[Ij];constructor
 .rintro⟨m,_,h⟩;exact(ZH.mp h).1
 .intro h;exact⟨l.length,Bu.mpr (Nat.lt_succ_of_le h.length_le),ZH.mpr ⟨h,rfl⟩⟩
def sL:∀ {i:Nat},os.length<=6->i<=6->(sS os i).length<=i*6^5
 |0,_,_=>Ct _
 |i+1,h,hi=>by
  rw[pE,Af,Nat.succ_mul];have b:=sL (i:=i) h (by (exact Nat.le_of_lt (by assumption)))
  have a:(cT os i).length<=6^5:=Bh (jS h) (Nat.pow_le_pow_right (by decide) (by ((try clear b h);omega)))
  ((try clear h hi);omega)
def uX:Sp:=λe H Q _=>∃b d,e=[.ref b]/\Z4 H b=some (d.map λk=>V.int ((k:Nat):Int))/\d.length<=5/\
 ∀r c a,H r=none->Z_ H a->a r=some (.lst (c.map V.ref))->ZQ H a c ((dL d).map λl=>(l.map λk=>V.int ((k:Nat):Int)))->(∀p∈c,p≠r)->Q (.ref r) a
def a7:Z9 ["others", "sets", "many"] ["others"] (aK rN):=by fail "sc"
def DI(F:ZT K "sets_of" "sets_of" rN f fd)(X:ZR P w K mg base 9 "rising_lists" ["numbers", "many"] (dA 8)):Z8 P w K mg base ZS 10 f fd ["others"] uX:=by
 refine F.ok a7 (λW H Q E h=>?_) (λa6 A t s H W Q E Z h=>?_)
 .obtain⟨b,os,rfl,_⟩:=h;rfl
 obtain⟨b,os,rfl,N,h5,q⟩:=h;refine⟨_,(@aD _ _ _ _ _ (aP 1 a7.nd (bO aB)) (@aD _ _ _ _ _ (cP Bl rfl (jV rfl G.b_range (aA (aR bQ (aY cO rfl G.b_len bR (aA (mv 0) aB)) aJ) aB)) (bC (i:=2) a7.nd rfl (Or.inl rfl)) (@aI _ _ _ (bW (cM Bg Ep Er Vv (mv 1) (aA (aU X Z (by decide) rfl (aA (mv 0) (aA (mv 2) aB))) aB))))) (@aI _ _ _ (aT (mv 1))))),?_⟩
 have I:((os.map λk=>V.int ((k:Nat):Int))).length=os.length:=Ab ..
 fail "g";refine⟨by decide,λp D=>?_⟩
 have r:=aG D (.lst [])
 have R:(upd H p (.lst [])) p=some (.lst (([]:List Addr).map V.ref)):=aE
 generalize upd H p (.lst [])=H1 at r R ⊢;have a5:=aO r N
 fail "g";rw[I];refine⟨⟨by omega,by omega⟩,?_⟩
 refine qE (λi U M=>∃a v,U=[some (.ref b),some (.ref p),v]/\Z_ H M/\M p=some (.lst (a.map V.ref))/\ZQ H M a ((sS os i).map λl=>(l.map λk=>V.int ((k:Nat):Int)))/\∀z∈a,z≠p)
  ⟨[],_,rfl,r,R,.nil,λz m=>nomatch m⟩ ?_ ?_
 .rintro i U S hi ⟨a,v,rfl,c,n,j,x⟩;have a4:i<=os.length:=by omega
  have J:=aO c N
  have C:a.length=(sS os i).length:=by rw[j.1,Ab]
  have a2:=sL (os:=os) (i:=i) (by omega) (by ((try clear C hi);omega))
  fail "g";rw[show (0:Int)+(i:Int)=((i:Nat):Int) by ((try clear C I a2 a4 h5 hi);omega)]
  refine⟨b,os,i,rfl,J,by omega,by ((try clear C a2 hi);omega),by ((try clear C a2 hi);omega),λrb d H5 Y o e5 y nq=>?_⟩
  have B:d.length=(cT os i).length:=by rw[y.1,Ab]
  have a1:(cT os i).length<=6^5:=Bh (jS (by omega)) (Nat.pow_le_pow_right (by decide) (by ((try clear B C a2 hi);omega)))
  have L:=o _ _ n
  have m5:=bL L
  have r5:=aM e5
  have a3:(a.map V.ref).length+(d.map V.ref).length<=sizeLine:=bM (by rw[Ab,Ab,C,B];((try clear hi);omega))
  fail "g";have u:∀z∈d,z≠p:=λz m T=>by
   obtain⟨g,_,O,_⟩:=y.mem m;rw[T,n]at O;cases O
  have e:=λz m=>(Bk.mp m).elim (x z) (u z)
  refine⟨a++d,_,rfl,bJ D (c.trans o),?_,?_,e⟩
  .rw[aE,Ap]
  .rw[pE,Ap];exact((j.keep o).app (y.Yf c)).put e
 .rintro U S ⟨a,v,rfl,c,n,j,x⟩;rw[show ((os.length:Int)+1).toNat=os.length+1 by omega]at j
  exact q p a S D c n j x
noncomputable def cK(hs:List (Option (List Nat)))(cw a:List Nat):List (List Nat):=cw::a.map λk=>YU ((hs.getD k none).getD [])
def qF(a:List Nat):((a.map λk=>V.int ((k:Nat):Int))).length=a.length:=Ab ..
inductive jD(h:List V)(H:Hp)(Q:VK)(zz3:XK):Prop|mk(a b f c g d:_)(_:h=[.ref a,.str (aV g),.ref b])(_:Z4 H a=some f)(_:Z7 H f c)(_:fF c)(_:Z4 H b=some (d.map λk=>V.int ((k:Nat):Int)))(_:d.length<=7)(_:(∀k∈d,k<c.length/\(c.getD k none).isSome=true))(_:∀r e,H r=none->Z_ H e->e r=some (.lst (((cK c g d).map aV).map V.str))->Q (.ref r) e):jD h H Q zz3
def xV:Z9 ["halyards", "word", "lowered"] ["halyards", "word", "lowered"] (aK gX):=by fail "sc"
def yG(F:ZT K "words_with" "words_with" gX f fd)(G:Gs K mg w Zs Zz Zt Zx Z0 Zw Zy Zu Zv)(t9:iP P w K mg base 4 "read_of" ["flags"] (pC Zx)):Z8 P w K mg base ZS 5 f fd ["halyards", "word", "lowered"] jD:=by
 refine F.ok xV (λZ H Q E h=>?_) (λa2 A L s H Z Q E z h=>?_)
 .obtain⟨a,b,us,c,y,n,rfl,_⟩:=h;rfl
 obtain⟨a,b,us,c,y,n,rfl,ha,R,ok,C,h7,hk,q⟩:=h;refine⟨_,(@aI _ _ _ (aT (aR bQ (bO (aA (mv 1) aB)) (cL rfl (bT (mv 2)) (gF (N:=["other", "halyards"]) ["halyards", "word", "lowered"] (aK gX) [none,some 0] rfl rfl rfl (λx h=>cC h) (by decide +kernel)) (by decide +kernel) rfl (by decide +kernel) (λ_ _ _ _=>(bC (i:=0) (show List.Nodup (["other", "halyards"]:List Str) by decide +kernel) rfl (Or.inl rfl))) (λ_ _ _ _=>cX) (λ_ _ _ _=>(cR t9 rY z (by decide) rfl (aA (bD bN (mv 1) (mv 0) (λ_ _=>rfl)) aB))))))),?_⟩
 fail "g";refine⟨r0,λp hp=>?_⟩
 have l:=aG hp (.lst [V.str (aV y)])
 have Y:(upd H p (.lst [V.str (aV y)])) p=some (.lst [V.str (aV y)]):=aE
 generalize upd H p (.lst [V.str (aV y)])=H1 at l Y ⊢;have O:=aO l C
 have S:=aO l ha
 fail "g";refine gL (xs:=(n.map λk=>V.int ((k:Nat):Int))) (λj=>(n[j]?).map λk=>V.str (aV (YU ((c.getD k none).getD [])))) O (bG (by rw[qF];(exact Nat.le_trans (by assumption) (by decide)))) (λj x Hc A B hx T hA hB=>?_) (λD Hd hD J X=>?_)
 .obtain⟨k,t,rfl⟩:=pR hx;obtain⟨d,o⟩:=hk k (Am t);obtain⟨u,au,_,U⟩:=(R.keep (l.trans T)).get d;have v:=hA (V.str (aV (YU ((c.getD k none).getD [])))) (by rw[t];rfl)
  have r2:=aO T S
  cases I:c.getD k none with
  |none=>rw[I]at o;cases o
  |some m=>
   rw[I]at U v;obtain⟨pc,rfl,M⟩:=U;have C:=ok m (by
    rw[Ac,Aa d]at I;rw[<-show c[k]=some m from I];exact Bx d)
   have a1:=fG C
   fail "g";refine⟨Wk.set rfl (Wk.refl _),?_⟩;fail "g";refine bX r2 au ?_;fail "g";refine⟨pc,m.map one,rfl,aM M,by ((try clear d h7);omega),DA m,λ_ H3 s3=>?_,λW=>?_⟩
   .have e:oF (m.map one)=aV (YU m):=by unfold oF;rw[KZ]
    rw[e];exact v _ s3
   .rw[C]at W;cases W
 .rw[qF,dO,show n.map (λk=>V.str (aV (YU ((c.getD k none).getD []))))=((n.map λk=>YU ((c.getD k none).getD [])).map aV).map V.str by rw[Cd,Cd];rfl]at X
  refine jK (bL (J _ _ Y)) (bL X) (bM (by rw[Ab,Ab,Ab];show 1+_<=_;omega)) λr z=>?_
  exact q r _ (none_of (l.trans J) z) (l.trans (J.trans (aG z _))) aE
noncomputable def oO(f:Nat->Option Int)(hs:List (Option (List Nat)))(L:List Nat):Nat->Option Int:=aZ λc=>aQ f c+cnt (bY hs L) c
noncomputable def sZ(f:Nat->Option Int)(hs:List (Option (List Nat)))(L:List Nat)(c:Nat):Int:=aQ (aZ (aQ (oO f hs L))) c
def V2(f:Nat->Option Int)(hs:List (Option (List Nat)))(n:Nat)(cw a:List Nat):Prop:=Y6 (sZ f hs (n::a)) (cK hs cw a)
def Zh(H:Hp)(f:Nat->Option Int)(hs:List (Option (List Nat)))(n:Nat)(cw a:List Nat)(t:Addr):Prop:=∃c e d b W F,H t=some (.tup [.ref c,.ref e,.ref d])/\H c=some (.lst (a.map λk=>V.int ((k:Nat):Int)))/\H e=some (.lst (b.map V.ref))/\ZV H b W/\H d=some (.lst ((F.map one).map V.str))/\ZG (cK hs cw a) (sZ f hs (n::a)) W F
def Zh.keep{f:Nat->Option Int}{n:Nat}{t:Addr}(h:Zh H f hs n cw ks t)(s:Z_ H H'):Zh H' f hs n cw ks t:=by
 obtain⟨c,e,d,b,W,F,q,o,m,a,l,k⟩:=h;exact⟨c,e,d,b,W,F,s _ _ q,s _ _ o,s _ _ m,⟨a.1,λj p w i g=>s _ _ (a.2 j p w i g)⟩,s _ _ l,k⟩
def Zh.put{f:Nat->Option Int}{n:Nat}{t:Addr}{o:HO}(h:Zh H f hs n cw ks t)(C:∀c b a,H t=some (.tup [.ref c,.ref b,.ref a])->c≠p/\b≠p/\a≠p)(g:∀k,H p≠some (.tup k)):Zh (upd H p o) f hs n cw ks t:=by
 obtain⟨c,b,a,l,W,F,d,B,A,i,y,x⟩:=h;obtain⟨s,r,m⟩:=C _ _ _ d;refine⟨c,b,a,l,W,F,?_,?_,?_,⟨i.1,λj q w v u=>?_⟩,?_,x⟩
 .rw[aH λz=>g _ (by rw[<-z];exact d)];exact d
 .rw[aH s];exact B
 .rw[aH r];exact A
 .have e:=i.2 j q w v u
  rw[aH λz=>g _ (by rw[<-z];exact e)];exact e
 .rw[aH m];exact y
def xE(f:Nat->Option Int)(hs:List (Option (List Nat)))(n:Nat)(cw a:List Nat)(j:Nat):Prop:=(dL (bK hs n))[j]?=some a/\V2 f hs n cw a/\∀i l,i<j->(dL (bK hs n))[i]?=some l->¬V2 f hs n cw l
def BN(k:dF (cs.map one)=true):∀d∈YU cs,aX d:=by
 have h:∀i,i<=cs.length->∀d∈YU (cs.take i),aX d:=λi=>by
  induction i with
  |zero=>intro _ d a;rw[Ie]at a;cases a
  |succ i f=>
   intro q d a;have b:cs[i]?=some cs[i]:=Aa (by (assumption))
   have j:(YU (cs.take i)).length=i:=qH (by (exact Nat.le_of_lt (by assumption)))
   rw[uM b]at a;obtain⟨c,o,s,n⟩:=xH k (i:=i) (z:=one cs[i]) (by rw[Ag,b];rfl)
   have m:=one_inj.mp o
   rcases Bk.mp a with e|e
   .exact f (by (exact Nat.le_of_lt (by assumption))) d e
   .rw[Ah.mp e,m];unfold VJ;rcases n with l|⟨g,p⟩
    .rw[if_neg (mS l)];exact l
    .rw[if_pos g,Ac,Aa (by ((try clear m);omega))]
     exact f (by (exact Nat.le_of_lt (by assumption))) _ (Bx _)
 have r:=h cs.length (Ai _)
 rwa [Cf]at r
def Lb{xs:List Addr}(h:xs[xs.length-1]?=some u):YY (xs.map V.ref) (-1)=some (.ref u):=by
 have a:0<xs.length:=by grind
 unfold YY;rw[show Xo (xs.map V.ref).length (-1)=some (xs.length-1) by
  rw[Ab];unfold Xo;rw[if_neg (by ((try clear a);omega)),if_pos (by omega)]
  exact Dp some (by omega)]
 simp_all
def Mz(os:List Nat):∃A,dL os=A++[os]:=by
 refine⟨sS os os.length,?_⟩;show sS os _=_
 rw[pE];congr 1
 exact uH os
def YW(H:Hp)(f:Nat->Option Int)(hs:List (Option (List Nat)))(n:Nat)(cw:List Nat)(p:Addr)(l:List Nat)(u:Addr):Prop:=Zh H f hs n cw l u/\∀c b a,H u=some (.tup [.ref c,.ref b,.ref a])->c≠p/\b≠p/\a≠p
def YW.keep{f:Nat->Option Int}{n:Nat}{l:List Nat}(h:YW H f hs n cw p l u)(s:Z_ H H'):YW H' f hs n cw p l u:=by
 refine⟨h.1.keep s,λc d b e=>?_⟩;obtain⟨j,i,g,_,_,_,a,_⟩:=h.1;have:=s _ _ a
 rw[this]at e;cases e;exact h.2 _ _ _ a
def YW.put{f:Nat->Option Int}{n:Nat}{l:List Nat}{ys:List V}(h:YW H f hs n cw p l u)(d:H p=some (.lst xs)):YW (upd H p (.lst ys)) f hs n cw p l u:=by
 have b:∀a,H p≠some (.tup a):=λa z=>by grind
 refine⟨h.1.put h.2 b,λc j i e=>?_⟩;obtain⟨o,m,k,_,_,_,g,_⟩:=h.1;rw[aH λz=>b _ (by rwa[<-z])]at e
 exact h.2 _ _ _ e
def sB(ok:fF hs)(n:cw.length<=7/\∀d∈cw,aX d)(m:∀k∈ks,k<hs.length/\(hs.getD k none).isSome=true):∀c∈cK hs cw ks,c.length<=7/\∀d∈c,aX d:=λc h=>by
 rcases Bc.mp h with e|e
 .rwa[e]
 .obtain⟨k,g,rfl⟩:=Bb.mp e;obtain⟨b,a⟩:=m k g;cases i:hs.getD k none with
  |none=>rw[i]at a;cases a
  |some j=>
   have l:=ok j (by grind)
   have f:=fG l
   rw[Ab]at f;refine⟨by show (YU j).length<=7;rw[Tq];exact f.2,?_⟩
   exact BN l
inductive qJ(z:Addr)(y:List V)(H:Hp)(Q:VK)(E:XK):Prop|mk(a b:Addr)(m:List (Key×V))(f:Nat->Option Int)(v:List V)(e:List (Option (List Nat)))(n:Nat)(h:List Nat)(_:y=[.ref a,.ref b,.int ((n:Nat):Int),.str (aV h)])(_:H a=some (.dK m))(_:Lk m f)(_:(∀c,0<=aQ f c))(_:Z4 H b=some v)(_:Z7 H v e)(_:fF e)(_:e.length<=6)(_:n<e.length)(_:h.length<=7)(_:(∀d∈h,aX d))(_:(∀t L p (o:List Addr) x j (g:Hp),Z_ H g->H t=none->g t=some (.tup [.ref L,.ref p])->H L=none->g L=some (.lst (x.map λk=>V.int ((k:Nat):Int)))->xE f e n h x j->H p=none->g p=some (.lst (o.map V.ref))->o.length=j->(∀(i:Nat) u l,o[i]?=some u->(dL (bK e n))[i]?=some l->Zh g f e n h l u)->Q (.ref t) g))(_:((∀l,l.Sublist (bK e n)->¬V2 f e n h l)->∀(s r q:Addr) (w:List Addr) (W:List Wt) (F:List Nat) (g:Hp),Z_ H g->g s=some (YS s [("flags",.ref q),("wants",.ref r)])->g r=some (.lst (w.map V.ref))->ZV g w W->g q=some (.lst ((F.map one).map V.str))->ZG (cK e h (bK e n)) (sZ f e (n::bK e n)) W F->H r=none->H q=none->E (.ref z) (some s) g)):qJ z y H Q E
def m7:Z9 ["locker", "halyards", "number", "word", "papers", "lowered", "more", "lack"] ["locker", "halyards", "number", "word"] (aK lJ):=by fail "sc"
def JF(F:ZT K "least_set" "least_set" lJ f fd)(a8:ZR P w K mg base 10 "sets_of" ["others"] uX)(u9:V0 P w K mg base 1 Zs ["self", "wants", "flags"] (kY Zs))(a9:ZR P w K mg base 1 "others_hung" ["halyards", "number"] lY)(y9:ZR P w K mg base 2 "put_in" ["locker", "flags"] iA)(yA0:ZR P w K mg base 4 "lack_of" ["locker", "words"] uK)(z5:ZR P w K mg base 1 "flags_on" ["halyards", "numbers"] gK)(p9:ZR P w K mg base 5 "words_with" ["halyards", "word", "lowered"] jD):Z8 P w K mg base (Za P w) 11 f fd ["locker", "halyards", "number", "word"] (qJ Zs):=by
 refine F.XM m7 (λvs H Q E h=>?_) (λk7 A d7 s H vs Q E hr h=>?_)
 .obtain⟨a,b,b7,f,us,d,n,cw,rfl,_⟩:=h;rfl
 obtain⟨a,b,b7,f,us,d,n,cw,rfl,ha,lk,f8,hb,d2,ok,h6,hn,g6,g5,q,qe⟩:=h;refine⟨_,(@aD _ _ _ _ _ (aP 4 m7.nd (bO aB)) (@aD _ _ _ _ _ (PS.W2 (cP Bl rfl (bT (aU a8 hr (by decide) rfl (aA (aU a9 hr (by decide) rfl (aA (mv 1) (aA (mv 2) aB))) aB))) (bC (i:=5) m7.nd rfl (Or.inl rfl)) (@aD _ _ _ _ _ (aP 6 m7.nd (aU y9 hr (by decide) rfl (aA (mv 0) (aA (aU z5 hr (by decide) rfl (aA (mv 1) (aA (aR bQ (bO (aA (mv 2) aB)) (mv 5)) aB))) aB)))) (@aD _ _ _ _ _ (aP 7 m7.nd (aU yA0 hr (by decide) rfl (aA (mv 6) (aA (aU p9 hr (by decide) rfl (aA (mv 1) (aA (mv 3) (aA (mv 5) aB)))) aB)))) (@aD _ _ _ _ _ (cD (bA U_ (mv 7) dG (bB _)) (@aI _ _ _ (aT (dM (aA (mv 5) (aA (mv 4) aB))))) bF) (@aI _ _ _ (bW (cM Bg Ec Ed yS (mv 4) (aA (dM (aA (mv 5) (aA (bD bN (mv 7) aJ (λ_ _=>rfl)) (aA (bD bN (mv 7) aJ (λ_ _=>rfl)) aB)))) aB))))))))) (@aI _ _ _ (nT fY rfl rfl rfl G.XR G.XO u9 hr (by decide) (aA (bD bN (bD bN (mv 4) (UC Um aJ) (λ_ _=>rfl)) aJ (λ_ _=>rfl)) (aA (bD bN (bD bN (mv 4) (UC Um aJ) (λ_ _=>rfl)) aJ (λ_ _=>rfl)) aB)))))),?_⟩
 have k3:=vC hn
 fail "g";refine⟨by decide,λp hp=>?_⟩
 have s1:=aG hp (.lst [])
 have e1:(upd H p (.lst [])) p=some (.lst (([]:List Addr).map V.ref)):=aE
 generalize upd H p (.lst [])=H1 at s1 e1 ⊢;fail "g";refine⟨b,us,d,n,rfl,aO s1 hb,d2.keep s1,by (exact Nat.le_trans (by assumption) (by decide)),λro H2 j6 s2 eo=>?_⟩
 fail "g";refine⟨ro,bK d n,rfl,aM eo,by ((try clear g6 hn);omega),λrS ps H3 b9 s3 eS ls nd=>?_⟩
 have b4:=s2.trans s3
 fail "g";have f4:ps.length=(dL (bK d n)).length:=by rw[ls.1,Ab]
 have c2:(ps.map V.ref).length=(dL (bK d n)).length:=by rw[Ab,f4]
 have j5:(dL (bK d n)).length<=6*6^5:=Bh (sL (i:=(bK d n).length+1) (by ((try clear c2 f4 g6 hn);omega)) (by ((try clear c2 f4 g6 hn);omega))) (Nat.mul_le_mul_right _ (by ((try clear c2 f4 g6 hn);omega)))
 have h8:=b4 _ _ e1
 have d6:=s1.trans b4
 have f1:∀(j:Nat) c l,ps[j]?=some c->(dL (bK d n))[j]?=some l->H3 c=some (.lst (l.map λk=>V.int ((k:Nat):Int)))/\c≠p/\H c=none:=λj c l hc O=>by
  obtain⟨h1,h2⟩:=ls.2 j c (l.map λk=>V.int ((k:Nat):Int)) hc (by rw[Ag,O];rfl)
  exact⟨h2,(λz=>by rw[z,s2 _ _ e1]at h1;cases h1),none_of (s1.trans s2) h1⟩
 have d8:rS≠p:=λz=>by rw[z,s2 _ _ e1]at b9;cases b9
 have T:∀(j:Nat) l,(dL (bK d n))[j]?=some l->l.Sublist (bK d n):=λj l h=>Zi.mp (Am h)
 refine fP (xs:=ps.map V.ref) (λi U Z=>∃ (y:List Addr) (v5 v6 v7:Option V),U=[some (.ref a),some (.ref b),some (.int ((n:Nat):Int)),some (.str (aV cw)),some (.ref p),v5,v6,v7]/\Z_ H Z/\(∀ z u,z≠p->H3 z=some u->Z z=some u)/\Z p=some (.lst (y.map V.ref))/\y.length=i/\
     (∀(j:Nat) u l,y[j]?=some u->(dL (bK d n))[j]?=some l->YW Z f d n cw p l u)/\∀j l,j<i->(dL (bK d n))[j]?=some l->¬V2 f d n cw l)
  ⟨[],_,_,_,rfl,d6,λz u _ h=>h,h8,rfl,λj u l B=>(nomatch B),λj l hj=>absurd hj (Gm _)⟩ (λi U Z _ ⟨_,_,_,_,_,_,fr,_⟩=>aM (fr _ _ d8 eS)) ?_ ?_
 .rintro i x U H4 hx ⟨y,v5,v6,v7,rfl,L,a6,Y,D,I,J⟩;have hi:i<(dL (bK d n)).length:=by rw[<-c2];exact(Ad.mp hx).1
  obtain⟨l,O⟩:∃l,(dL (bK d n))[i]?=some l:=⟨_,Aa hi⟩;obtain⟨c,hc,rfl⟩:=vM hx;obtain⟨e3,b6,f9⟩:=f1 i c l hc O;have lc:=a6 _ _ b6 e3
  have a3:∀k∈l,k<d.length/\(d.getD k none).isSome=true:=λk hk=>by
   have:=nE ((T i l O).subset hk)
   exact⟨this.1,this.2.1⟩
  have k5:l.length<=5:=by have:=(T i l O).length_le;((try clear D b6 c2 d8 f4 g6 hi hn j5);omega)
  have d1:=aO L hb
  have X:=d2.keep L
  fail "g";refine⟨r0,λp5 f6=>?_⟩
  have s5:=aG f6 (.lst [V.int ((n:Nat):Int)])
  have e5:(upd H4 p5 (.lst [V.int ((n:Nat):Int)])) p5=some (.lst [V.int ((n:Nat):Int)]):=aE
  generalize upd H4 p5 (.lst [V.int ((n:Nat):Int)])=H5 at s5 e5 ⊢;fail "g";refine jK (bL e5) (bL (s5 _ _ lc)) (bM (by rw[qF];show 1+_<=_;((try clear D b6 c2 d8 f4 g6 h6 hi hn j5 k3);omega))) λp6 f5=>?_
  have s6:=aG f5 (.lst ((n::l).map λk=>V.int ((k:Nat):Int)))
  have e6:Z4 (upd H5 p6 (.lst ((n::l).map λk=>V.int ((k:Nat):Int)))) p6=some ((n::l).map λk=>V.int ((k:Nat):Int)):=cG
  change V7 _ (upd H5 p6 (.lst ((n::l).map λk=>V.int ((k:Nat):Int)))) _
  generalize upd H5 p6 (.lst ((n::l).map λk=>V.int ((k:Nat):Int)))=H6 at s6 e6 ⊢;have a1:=s5.trans s6
  fail "g";refine⟨b,p6,us,d,n::l,rfl,aO a1 d1,X.keep a1,ok,e6,by show l.length+1<=7;(exact Nat.lt_of_le_of_lt (by assumption) (by decide)),λk hk=>by rcases Bc.mp hk with e|e;(· rw[e];exact hn);(· exact(a3 k e).1),λr7 H7 j9 s7 e7=>?_⟩
  have b3:=a1.trans s7
  have g8:=fS ok (n::l)
  fail "g";refine⟨a,r7,b7,f,bY d (n::l),rfl,b3 _ _ (L _ _ ha),lk,f8,aM e7,by rw[Av]at g8;((try clear D b6 c2 d8 f4 g6 h6 hi hn j5 k3);omega),λr8 f2 H8 j8 s8 e8 e2=>?_⟩
  have S:=b3.trans s8
  fail "g";refine⟨b,c,us,d,cw,l,rfl,aO S d1,X.keep S,ok,aM (S _ _ lc),by (exact Nat.le_trans (by assumption) (by decide)),a3,λr9 H9 j7 s9 e9=>?_⟩
  have R:=S.trans s9
  fail "g";refine⟨r8,r9,f2,oO f d (n::l),cK d cw l,rfl,.inl (s9 _ _ e8),e2,aM e9,by unfold cK;rw[Av,Ab];(exact Nat.lt_of_le_of_lt (by assumption) (by decide)),sB ok ⟨g6,g5⟩ a3,λc9 b2 a2=>?_,λt0 N M rs W F b2 a2 j4 d5 h7 b8 g9 c5 c4 c3=>?_⟩
  .have o:=R.trans a2
   fail "g";rw[show decide (V.non=V.non)=true from rfl];fail "g";refine⟨za0,λt ht=>?_⟩
   have m:=o.trans (aG ht (.tup [.ref c,.ref p]))
   exact q t c p y l i _ (L.trans m) (none_of (L.trans o) ht) aE f9 (m _ _ lc) ⟨O,c9,J⟩ hp (m _ _ Y) D λj u l' B r=>((I j u l' B r).1.keep m)
  .have o:=R.trans a2
   have n1:N≠p:=λz=>by rw[z,R _ _ Y]at c4;cases c4
   have n2:M≠p:=λz=>by rw[z,R _ _ Y]at c3;cases c3
   have j3:=bL (o _ _ Y)
   have j1:=aM (o _ _ Y)
   have k4:(y.map V.ref).length<sizeLine:=bG (by rw[Ab,D];((try clear D b6 d8 g6 g8 h6 hn k3 k5 n1 n2);omega))
   fail "g";rw[show decide (V.ref t0=V.non)=false from Aw (λz=>nomatch z)]
   fail "g";refine cF d5 (v:=.ref N) rfl ?_;fail "g";refine cF d5 (v:=.ref M) rfl ?_;fail "g";refine⟨za1,λtp f3=>?_⟩
   have m:=aG f3 (.tup [.ref c,.ref N,.ref M])
   have b1:(upd b2 tp (.tup [.ref c,.ref N,.ref M])) tp=some (.tup [.ref c,.ref N,.ref M]):=aE
   generalize upd b2 tp (.tup [.ref c,.ref N,.ref M])=h9 at m b1 ⊢;have C:=o.trans m
   have ep:=C _ _ Y
   have j2:=bL ep
   fail "g";have b5:YW h9 f d n cw p l tp:=⟨⟨c,N,M,rs,W,F,b1,C _ _ lc,m _ _ h7,⟨b8.1,λj q w hq hw=>m _ _ (b8.2 j q w hq hw)⟩,m _ _ g9,c5⟩,λc' k1 k2 e=>by rw[b1]at e;cases e;exact⟨b6,n1,n2⟩⟩
   refine⟨y++[tp],_,_,_,rfl,bJ hp (L.trans C),λz u hz h=>by rw[aH hz];exact C _ _ (a6 z u hz h),by rw[aE,Ap];rfl,by rw[Af,D];rfl,λj u l' B r=>?_,λj l' hj r=>?_⟩
   .by_cases f7:j<y.length
    .rw[An f7]at B;exact((I j u l' B r).keep C).put ep
    .have ej:j=y.length:=by
      have:=(Ad.mp B).1
      rw[Af]at this;have:j<y.length+1:=this
      ((try clear b6 c2 d8 f4 g6 g8 h6 hi hn j5 k3 k4 k5 n1 n2);omega)
     rw[ej,Aq (Ai _),Ej]at B;cases B;rw[ej,D,O]at r;cases r;exact b5.put ep
   .by_cases ej:j=i
    .rw[ej,O]at r;cases r;exact Ot c5
    .exact J j l' (by ((try clear D b6 c2 d8 f4 g6 g8 h6 hi hn j5 k3 k4 k5 n1 n2);omega)) r
 .rintro U H4 ⟨y,v5,v6,v7,rfl,L,a6,Y,D,I,J⟩;rw[c2]at D J;obtain⟨A0,d3⟩:=Mz (bK d n);have c6:(dL (bK d n)).length=A0.length+1:=by rw[d3,Af];rfl
  have a4:(dL (bK d n))[y.length-1]?=some (bK d n):=by
   rw[D,c6,d3,Nat.add_sub_cancel,Aq (Ai _),Ej];rfl
  have B:y[y.length-1]?=some (y[y.length-1]'(by ((try clear d8 g6 h6 hn k3);omega))):=Aa (by ((try clear d8 g6 h6 hn k3);omega))
  have c1:=I _ _ _ B a4
  have au:=Lb B
  generalize y[y.length-1]'(by ((try clear d8 g6 h6 hn k3);omega))=u at c1 au
  obtain⟨⟨c,N,M,rs,W,F,h1,h2,h3,h4,h5,h6⟩,_⟩:=c1;have r4:=aM Y
  fail "g";refine bX r4 au ?_;fail "g";refine cF h1 (v:=.ref N) rfl ?_;fail "g";refine bX r4 au ?_;fail "g";refine cF h1 (v:=.ref M) rfl ?_;fail "g";refine⟨za0,λea a5=>⟨ea,N,M,_,_,rfl,aE,aO (aG a5 _) (aM h3),aO (aG a5 _) (aM h5),λdx k1 k2 Z g7 k6 d9 g1 g2 g3 g4 c8 c7=>⟨rfl,some dx,g1,?_⟩⟩⟩
  have n1:k1≠ea:=λz=>by rw[z,g1]at g3;cases g3
  have n2:k2≠ea:=λz=>by rw[z,g1]at g4;cases g4
  have d4:∀b u,H4 b=some u->(del Z ea) b=some u:=λb u B=>by
   have nb:b≠ea:=λz=>by rw[z,a5]at B;cases B
   rw[eI nb];exact g7 b u nb (by rw[aH nb];exact B)
  refine qe (λl O=>?_) dx k1 k2 rs W F (del Z ea) (λb u B=>d4 _ _ (L _ _ B)) ((eI d9).trans g2) ((eI n1).trans g3) ⟨h4.1,λj q w hq hw=>d4 _ _ (h4.2 j q w hq hw)⟩ ((eI n2).trans g4) h6 (none_of L (by rw[aH n1]at c8;exact c8)) (none_of L (by rw[aH n2]at c7;exact c7))
  obtain⟨j,hj,ej⟩:=Bv.mp (Zi.mpr O);exact J j l hj (by rw[Aa hj,ej])
def wG:∀ {a:Q6} {b:List Nat} {i:Nat} {d:List Nat},a[i]?=some d->(jZ a b)[i]?=some ((b.drop (gM a i)).take d.length)
 |c::r,b,0,d,h=>by cases h;rfl
 |c::r,b,i+1,d,h=>by
  show (jZ r _)[i]?=_
  rw[wG (show r[i]?=some d from h),List.drop_drop];rfl
def NL(cs:List Nat)(c:Nat):cnt cs c=(Yh cs c:Int):=by
 unfold cnt Yh;grind
def vU{p:List α->Prop}(d:p [])(c:∀l a,p l->p (l++[a])):∀l,p l:=λl=>by
 have h:∀r:List α,p r.reverse:=λr=>by
  induction r with
  |nil=>exact d
  |cons a r b=>rw[List.reverse_cons];exact c _ _ b
 have:=h l.reverse
 grind
noncomputable def pO(hs:List (Option (List Nat)))(a:List (Nat×List Nat)):List (Option (List Nat)):=a.foldl (λh z=>h.set z.1 (some z.2)) hs
def nM(hs:Q4)(a:List _)(z:Nat×List Nat):pO hs (a++[z])=(pO hs a).set z.1 (some z.2):=by
 unfold pO;simp_all
def qV(hs:Q4):∀a,(pO hs a).length=hs.length:=λa=>by
 refine vU (p:=λa=>(pO hs a).length=hs.length) rfl (λa z b=>?_) a;rw[nM,Cy,b]
def J1(hs:Q4):∀a,(a.map (·.1)).Nodup->(∀z∈a,z.1<hs.length)->∀z∈a,(pO hs a).getD z.1 none=some z.2:=λa=>by
 refine vU (p:=λa=>(a.map (·.1)).Nodup->(∀z∈a,z.1<hs.length)->∀z∈a,(pO hs a).getD z.1 none=some z.2) (λ_ _ z c=>nomatch c) (λa y g=>?_) a
 .intro b d z c;rw[Ap,As,Iq]at b;rw[nM];rcases Bk.mp c with e|e
  .have f:y.1≠z.1:=λq=>(Ek.mp b).2.2 z.1 (List.mem_map_of_mem e) y.1 Al q.symm
   rw[Ac,Ee f,<-Ac];exact g (Ek.mp b).1 (λw h=>d w (Dg _ h)) z e
  .rw[Ah.mp e,Ac,Dt (by rw[qV];exact d y (Bo _ Al))]
   rfl
def OC(ok:fF hs):∀a,(∀z∈a,dF (z.2.map one)=true)->fF (pO hs a):=λa=>by
 refine vU (p:=λa=>(∀z∈a,dF (z.2.map one)=true)->fF (pO hs a)) (λ_=>ok) (λa z c=>?_) a;intro h f b;rw[nM]at b;rcases El b with e|e
 .exact c (λy d=>h y (Dg _ d)) f e
 .cases e;exact h z (Bo _ Al)
def vO:∀ {L:List Nat} {a:Q6},L.length=a.length->(∀z∈L.zip a,hs.getD z.1 none=some z.2)->bY hs L=a.flatten
 |[],[],_,_=>rfl
 |k::L,g::a,hl,h=>by
  show ((hs.getD k none).getD [])++bY hs L=g++a.flatten
  rw[show hs.getD k none=some g from h _ List.mem_cons_self,vO (by simp_all) λz b=>h z (List.mem_cons_of_mem _ b)]
  rfl
def Z7.set(a:Z7 H vs hs)(b:YC H v h):Z7 H (vs.set k v) (hs.set k h):=by
 refine⟨by rw[Cy,Cy,a.len],λj u g c d=>?_⟩
 by_cases e:k=j
 .subst e;have i:=(Ad.mp c).1
  have f:=(Ad.mp d).1
  simp_all
 .rw[Ee e]at c d;exact a.val j u g c d
def So(h:Z4 H p=some xs)(n:p≠D)(b:∀z u,z≠D->H z=some u->H' z=some u):Z4 H' p=some xs:=by
 refine aO (H:=λz=>if z=p then H z else none) (λz u e=>?_) ?_
 .dsimp only at e;by_cases a:z=p
  .rw[if_pos a]at e;rw[a]at e ⊢;exact b p u n e
  grind
 .unfold Z4 at h ⊢;grind
def A5{L:List α}{M:List β}{a:α}{b:β}(d:L[i]?=some a)(c:M[i]?=some b):(L.zip M).take (i+1)=(L.zip M).take i++[(a,b)]:=by
 rw[Be];congr 1
 have:(L.zip M)[i]?=some (a,b):=by rw[List.getElem?_zip_eq_some];exact⟨d,c⟩
 rw[this];rfl
def A8(b:∀d∈cw,aX d)(a:k<cw.length)(h:c∈Xm cw k):hJ c:=by
 rcases XU.mp h with e|⟨m,_,f,_,e⟩
 .left
  simp_all
 .right
  unfold eC;((try clear a);omega)
def Uy:∀ {f m:Q6},YB f m->(∀c∈f,1<=c.length/\c.length<=7/\∀d∈c,aX d)->(∀g∈m,dF (g.map one)=true/\∀c∈g,hJ c)
 |_,_,.nil,_,g,hg=>nomatch hg
 |_,_,.cons (cw:=cw) (h:=h) a b,hW,g,hg=>by
  rcases Bc.mp hg with e|e
  .rw[e];obtain⟨o,n,l⟩:=hW cw Al;refine⟨EM l (by rw[a.1];exact o) (by rw[a.1];exact n) (by rw[a.1];exact Ai _) λk i=>?_,λc j=>?_⟩
   .exact a.2 k _ (by simp_all)
   .obtain⟨k,i,p⟩:=Bv.mp j;exact A8 l (by rw[<-a.1];exact i) (a.2 k c (by rw[Aa i,p]))
  .exact Uy b (λc j=>hW c (Ak _ j)) g e
def YB.Wh:∀ {a c:Q6},YB a c->c.length=a.length
 |_,_,.nil=>rfl
 |_,_,.cons _ b=>by rw[Av,Av,b.Wh]
def DH{f:Nat->Option Int}(h:∀c,cnt cs c<=aQ f c):xP f cs cs.length:=λj d b a=>by
 have:=O1 a
 grind
def tG(f:Nat->Option Int)(hs:Q4)(L:List Nat)(c:Nat):0<=aQ (oO f hs L) c:=by
 show 0<=(aZ _ c).getD 0
 unfold aZ;split
 .rename_i h;exact Int.le_of_lt h.2
 .exact Ip _
def HB(hs:Q4)(n:Nat):(bK hs n).Nodup:=List.Nodup.sublist Gb List.nodup_range
def EN{n:Nat}(h:ks.Sublist (bK hs n)):(n::ks).Nodup:=Cp.mpr ⟨λz=>(nE (h.subset z)).2.2 rfl,(HB hs n).sublist h⟩
def vF(ok:fF hs)(o:1<=cw.length)(m:cw.length<=7/\∀d∈cw,aX d)(l:∀k∈ks,k<hs.length/\(hs.getD k none).isSome=true):∀c∈cK hs cw ks,1<=c.length/\c.length<=7/\∀d∈c,aX d:=λc f=>by
 refine⟨?_,sB ok m l c f⟩;rcases Bc.mp f with e|e
 .rw[e];exact o
 .obtain⟨k,h,rfl⟩:=Bb.mp e;obtain⟨b,a⟩:=l k h;cases i:hs.getD k none with
  |none=>rw[i]at a;cases a
  |some j=>
   have n:=ok j (by grind)
   have g:=fG n
   rw[Ab]at g;show 1<=(YU j).length
   rw[Tq];exact g.1
def J9(H:Hp)(a b:Addr)(e:List (Key×V))(f:Nat->Option Int)(us:List V)(hs:List (Option (List Nat)))(n:Nat)(cw:List Nat):Prop:=H a=some (.dK e)/\Lk e f/\(∀c,0<=aQ f c)/\Z4 H b=some us/\Z7 H us hs/\fF hs/\hs.length<=6/\n<hs.length/\1<=cw.length/\cw.length<=7/\(∀d∈cw,aX d)
inductive Qi(z:Addr)(x:List V)(H:Hp)(Q:VK)(E:XK):Prop|mk(a b s f y d n h)(_:x=[.ref a,.ref b,.int ((n:Nat):Int),.str (aV h)])(_:J9 H a b s f y d n h)(_:(∀t L B R g (o:Q6) j i m e,Z_ H e->H t=none->e t=some (.tup [.ref L,.ref B,.ref R])->H L=none->e L=some (.lst (g.map λk=>V.int ((k:Nat):Int)))->xE f d n h g j->YB (cK d h g) o->(∀c,cnt o.flatten c<=aQ (oO f d (n::g)) c)->H B=none->e B=some (.lst i)->Z7 e i (pO d ((n::g).zip o))->H R=none->e R=some (.dK m)->Lk m (aZ λc=>aQ (oO f d (n::g)) c-cnt o.flatten c)->(∀p,V.ref p∈i->H p=none)->(∃w,Zg (cK d h g) (sZ f d (n::g)) w/\o=jZ (cK d h g) w)->Q (.ref t) e))(_:((∀l,l.Sublist (bK d n)->¬V2 f d n h l)->∀u r q v W F e,Z_ H e->e u=some (YS u [("flags",.ref q),("wants",.ref r)])->e r=some (.lst (v.map V.ref))->ZV e v W->e q=some (.lst ((F.map one).map V.str))->ZG (cK d h (bK d n)) (sZ f d (n::bK d n)) W F->H r=none->H q=none->E (.ref z) (some u) e)):Qi z x H Q E
def o0:Z9 ["locker", "halyards", "number", "word", "lowered", "rehung", "more", "behind", "at", "hoist"] ["locker", "halyards", "number", "word"] (aK uW):=by fail "sc"
def K6(F:ZT K "hauled" "hauled" uW f fd)(y9:ZR P w K mg base 2 "put_in" ["locker", "flags"] iA)(g3:iP P w K mg base 11 "least_set" ["locker", "halyards", "number", "word"] (qJ Zs))(z5:ZR P w K mg base 1 "flags_on" ["halyards", "numbers"] gK)(z8:iP P w K mg base 3 "hang_all" ["locker", "words"] (iX Zs))(z9:iP P w K mg base 3 "taken" ["locker", "flags"] (pT Zt))(p9:ZR P w K mg base 5 "words_with" ["halyards", "word", "lowered"] jD):Z8 P w K mg base (Za P w) 12 f fd ["locker", "halyards", "number", "word"] (Qi Zs):=by
 refine F.XM o0 (λvs H Q E h=>?_) (λn5 A g6 s H vs Q E hr h=>?_)
 .obtain⟨a,b,c2,f,us,hs,n,M,rfl,_⟩:=h;rfl
 obtain⟨a,b,c2,f,us,hs,n,M,rfl,⟨ha,lk,f7,hb,d1,ok,h6,hn,k3,c7,c6⟩,q,qe⟩:=h;refine⟨_,(@aD _ _ _ _ _ (aP 4 o0.nd (bD bN (cR g3 cB hr (by decide) rfl (aA (mv 0) (aA (mv 1) (aA (mv 2) (aA (mv 3) aB))))) aJ (λ_ _=>rfl))) (@aD _ _ _ _ _ (aP 5 o0.nd (aR bQ (bO (aA (mv 2) aB)) (mv 4))) (@aD _ _ _ _ _ (aP 6 o0.nd (aU y9 hr (by decide) rfl (aA (mv 0) (aA (aU z5 hr (by decide) rfl (aA (mv 1) (aA (mv 5) aB))) aB)))) (@aD _ _ _ _ _ (fK (i:=7) o0.nd rfl (Or.inl rfl) rfl (bT (mv 1)) (iI (N:=["hoist"]) (by decide +kernel) (by decide +kernel)) (by decide +kernel) rfl (by decide +kernel) (λ_ _ _ _=>(bC (i:=0) (show List.Nodup (["hoist"]:List Str) by decide +kernel) rfl (Or.inl rfl))) (λ_ _ _ _=>cX) (λ_ _ _ _=>(qU (bA U_ (mv 0) dG (bB _)) dG (bS iC rfl G.b_list dW (aA (mv 0) aB))))) (@aD _ _ _ _ _ (cP PassesOwn.leaving rfl (IA rfl G.b_zip (aA (mv 5) (aA (cR z8 cB hr (by decide) rfl (aA (mv 6) (aA (aU p9 hr (by decide) rfl (aA (mv 1) (aA (mv 3) (aA (mv 4) aB)))) aB))) aB))) (eP (K:=K) (i:=8) (j:=9) (by rfl) (by rfl) o0.nd (by rfl) (by exact(Or.inl rfl)) (by exact Or.inl rfl) (by rfl) (by exact(Or.inl rfl)) (by exact Or.inl rfl)) (@aI _ _ _ (Sw (mv 9) (Tg (mv 7) (mv 8) vG)))) (@aI _ _ _ (aT (dM (aA (mv 4) (aA (mv 7) (aA (cR z9 cB hr (by decide) rfl (aA (mv 6) (aA (aU z5 hr (by decide) rfl (aA (mv 7) (aA (mv 5) aB))) aB))) aB))))))))))),?_⟩
 have n1:=vC hn
 fail "g";refine⟨a,b,c2,f,us,hs,n,M,rfl,ha,lk,f7,hb,d1,ok,h6,hn,c7,c6,λt0 L p0 ts d j H1 s1 m6 et hL eL a2 _ _ _ _=>?_,qe⟩;have c4:=Zi.mp (Am a2.1)
 have T:∀k∈d,k<hs.length/\(hs.getD k none).isSome=true:=λk hk=>by
  have:=nE (c4.subset hk)
  exact⟨this.1,this.2.1⟩
 have n4:d.length<=5:=by have:=c4.length_le;((try clear c7 hn k3);omega)
 have c8:=aO s1 hb
 have a6:=d1.keep s1
 refine cF et (v:=.ref L) rfl ?_;fail "g";refine⟨r0,λp5 j4=>?_⟩
 have s5:=aG j4 (.lst [V.int ((n:Nat):Int)])
 have e5:(upd H1 p5 (.lst [V.int ((n:Nat):Int)])) p5=some (.lst [V.int ((n:Nat):Int)]):=aE
 generalize upd H1 p5 (.lst [V.int ((n:Nat):Int)])=H5 at s5 e5 ⊢;fail "g";refine jK (bL e5) (bL (s5 _ _ eL)) (bM (by rw[qF];show 1+_<=_;((try clear c7 h6 hn k3 n1);omega))) λp6 j3=>?_
 have s6:=aG j3 (.lst ((n::d).map λk=>V.int ((k:Nat):Int)))
 have e6:Z4 (upd H5 p6 (.lst ((n::d).map λk=>V.int ((k:Nat):Int)))) p6=some ((n::d).map λk=>V.int ((k:Nat):Int)):=cG
 change mX _ _ _ (upd H5 p6 (.lst ((n::d).map λk=>V.int ((k:Nat):Int)))) _
 generalize upd H5 p6 (.lst ((n::d).map λk=>V.int ((k:Nat):Int)))=H6 at s6 e6 ⊢;have b9:=s5.trans s6
 fail "g";refine⟨b,p6,us,hs,n::d,rfl,aO b9 c8,a6.keep b9,ok,e6,by show d.length+1<=7;(exact Nat.lt_of_le_of_lt (by assumption) (by decide)),λk hk=>by rcases Bc.mp hk with e|e;(· rw[e];exact hn);(· exact(T k e).1),λr7 H7 m9 s7 e7=>?_⟩
 have d4:=b9.trans s7
 have k6:=fS ok (n::d)
 fail "g";refine⟨a,r7,c2,f,bY hs (n::d),rfl,d4 _ _ (s1 _ _ ha),lk,f7,aM e7,by rw[Av]at k6;((try clear c7 h6 hn k3 n1);omega),λr8 c1 H8 m8 s8 e8 e1=>?_⟩
 have I:=d4.trans s8
 have a7:=aO (s7.trans s8) e6
 have k4:=aO I c8
 have f9:=a6.keep I
 have h7:=d1.len
 fail "g";refine OW (hs:=hs) k4 (bG (by ((try clear c7 hn k3 k6 n1 n4);omega))) h7 (λi x h Hc A B hx hh sm hA=>?_) (λD Hd vs hD sD hd f8 j8=>?_)
 .have hv:=(f9.keep sm).val i x h hx hh
  cases h with
  |none=>
   obtain rfl:x=V.non:=hv;fail "g";refine⟨Wk.set rfl (Wk.refl _),?_⟩;fail "g";rw[show decide (V.non=V.non)=true from rfl];fail "g";exact hA .non _ (Z_.refl _) rfl λp z=>nomatch z
  |some cs=>
   obtain⟨pc,rfl,j2⟩:=hv;have rc:=aM j2
   fail "g";refine⟨Wk.set rfl (Wk.refl _),?_⟩;fail "g";rw[show decide (V.ref pc=V.non)=false from Aw (λz=>nomatch z)]
   fail "g";intro l2 f3;exact hA (.ref l2) _ (aG f3 _) ⟨l2,rfl,aE⟩ λp z=>by cases z;exact f3
 .have b8:=I.trans sD
  have m1:=aO sD a7
  have k7:=b8 _ _ eL
  fail "g";refine⟨b,L,us,hs,M,d,rfl,aO b8 c8,a6.keep b8,ok,aM k7,by (exact Nat.le_trans (by assumption) (by decide)),T,λr9 H9 m7 s9 e9=>?_⟩
  fail "g";refine⟨r8,r9,c1,oO f hs (n::d),cK hs M d,rfl,.inl (s9 _ _ (sD _ _ e8)),e1,aM e9,by unfold cK;rw[Av,Ab];(exact Nat.lt_of_le_of_lt (by assumption) (by decide)),sB ok ⟨c7,c6⟩ T,λrh ps fs d2 e4 d6 er n2 f2 f6 k1 j9 k5=>?_,λdx l1 l2 rs W F d2 d6 _ _ _ _ j5 _ _ _=>absurd a2.2.1 (Ot j5)⟩
  have O:=s9.trans d6
  have a9:=SM f6 k1
  have a3:=nG (f6.trans (Uj (cK hs M d)))
  have b1:=a9.Wh
  have f1:∀(i:Nat) p g,ps[i]?=some p->(jZ (cK hs M d) fs)[i]?=some g->d2 p=some (.lst ((g.map one).map V.str))/\p≠D/\H8 p=none:=λi p g hp hg=>by
   have hi:i<(cK hs M d).length:=by rw[<-b1];exact(Ad.mp hg).1
   have ec:(cK hs M d)[i]?=some (cK hs M d)[i]:=Aa hi
   rw[wG ec]at hg;obtain⟨h1,h2⟩:=f2.2 i p (iR (cK hs M d) fs i) hp (by rw[Ag,Fz hi];rfl)
   refine⟨?_,(λz=>by rw[z,s9 _ _ hd]at h1;cases h1),none_of (sD.trans s9) h1⟩
   unfold iR at h2;rw[Ac,ec]at h2;cases hg;exact h2
  have a4:∀c,cnt (jZ (cK hs M d) fs).flatten c<=aQ (oO f hs (n::d)) c:=λc=>by
   rw[a3,NL];exact Int.le_trans (j9 c) (NW (tG f hs (n::d)) c)
  have c3:=vF ok k3 ⟨c7,c6⟩ T
  have c5:=Uy a9 c3
  have a1:ps.length=(jZ (cK hs M d) fs).length:=by rw[f2.1,Ab,Bf,b1]
  have r:(jZ (cK hs M d) fs).length=(n::d).length:=by rw[b1];show ((d.map _).length+1)=d.length+1;rw[Ab]
  generalize j7:jZ (cK hs M d) fs=C at a9 a3 b1 f1 a4 c5 a1 r;have b7:=aO O m1
  have g1:=aM er
  have g2:=O _ _ hd
  have c9:=f8.keep O
  have d9:p6≠D:=λz=>by rw[z]at a7;unfold Z4 at a7;rw[hD]at a7;cases a7
  have g8:rh≠D:=λz=>by rw[z,s9 _ _ hd]at e4;cases e4
  have d3:=sD.trans O
  fail "g";refine DV (xs:=((n::d).map λk=>V.int ((k:Nat):Int))) (ys:=ps.map V.ref) (λi U H'=>∃v8 v9 ws,U=[some (.ref a),some (.ref b),some (.int ((n:Nat):Int)),some (.str (aV M)),some (.ref L),some (.ref p6),some (.ref r8),some (.ref D),v8,v9]/\Z_ H8 H'/\(∀z u,z≠D->d2 z=some u->H' z=some u)/\H' D=some (.lst ws)/\Z7 H' ws (pO hs (((n::d).zip C).take i))/\∀p,V.ref p∈ws->H8 p=none)
   ⟨_,_,vs,rfl,d3,(λz u _ h=>h),g2,c9,j8⟩ (λi U H' _ _ ⟨_,_,_,_,_,fr,_⟩=>⟨So b7 d9 fr,So g1 g8 fr⟩) ?_ ?_
  .rintro i x y U a8 pt hx hy ⟨v8,v9,ws,rfl,Z,S,b2,l,J⟩ h9;obtain⟨k,hk,rfl⟩:=pR hx;obtain⟨pg,b3,rfl⟩:=vM hy;have j6:i<C.length:=by rw[<-a1];exact(Ad.mp b3).1
   have eg:C[i]?=some C[i]:=Aa j6
   obtain⟨b6,d8,j1⟩:=f1 i pg _ b3 eg;have b5:=S _ _ d8 b6
   have m4:k<hs.length:=by rcases Bc.mp (Am hk) with e|e;(· rw[e];exact hn);(· exact(T k e).1)
   have h5:ws.length=hs.length:=by rw[l.len,qV]
   have tk:=A5 hk eg
   generalize C[i]=g at eg b6 b5 tk;have m:=aG h9 (.tup [.int ((k:Nat):Int),.ref pg])
   have g4:nV (upd a8 pt (.tup [.int ((k:Nat):Int),.ref pg])) pt=some [.int ((k:Nat):Int),.ref pg]:=nH
   have X:=m _ _ b2
   have a5:=l.keep m
   have b4:=m _ _ b5
   generalize upd a8 pt (.tup [.int ((k:Nat):Int),.ref pg])=m2 at m g4 X a5 b4 ⊢;fail "g";refine SS (o:=.non) (bL X) (RQ (by (exact Int.natCast_nonneg _)) (by rw[h5];(exact Int.ofNat_le.mpr (by assumption)))) ?_
   rw[show ((k:Nat):Int).toNat=k from rfl];refine⟨_,_,ws.set k (.ref pg),rfl,bJ hD (Z.trans m),λz u hz h=>by rw[aH hz];exact m _ _ (S z u hz h),aE,?_,λp hp=>?_⟩
   rotate_left
   .rcases El hp with e|e
    .exact J p e
    .cases e;exact j1
   rw[tk,nM];exact(a5.put X).set ⟨pg,rfl,by rw[aH d8];exact b4⟩
  .rintro U a8 ⟨v8,v9,ws,rfl,Z,S,b2,l,J⟩;have h4:((n::d).zip C).length=(n::d).length:=by rw[List.length_zip,r,Nat.min_self]
   rw[qF,Ab,a1,r,Nat.min_self,<-h4,Cf]at l;have e3:∀z∈(n::d).zip C,z.1∈n::d/\z.2∈C:=λz hz=>Hl hz
   have d7:fF (pO hs ((n::d).zip C)):=OC ok _ λz hz=>(c5 z.2 (e3 z hz).2).1
   have f4:∀k∈n::d,k<hs.length:=λk hk=>by rcases Bc.mp hk with e|e;(· rw[e];exact hn);(· exact(T k e).1)
   have g7:(((n::d).zip C).map (·.1)).Nodup:=by
    rw[show ((n::d).zip C).map (·.1)=n::d from List.map_fst_zip (by rw[r];exact Ai _)]
    exact EN c4
   have f5:bY (pO hs ((n::d).zip C)) (n::d)=C.flatten:=vO r.symm (J1 hs _ g7 λz hz=>f4 z.1 (e3 z hz).1)
   have k9:=So b7 d9 S
   have k8:a8 r8=some (.dK c1):=Z _ _ e8
   fail "g";refine⟨D,p6,ws,_,n::d,rfl,aM b2,l,d7,k9,by show d.length+1<=7;(exact Nat.lt_of_le_of_lt (by assumption) (by decide)),λk hk=>by rw[qV];exact f4 k hk,λg5 m2 m3 m X=>?_⟩
   rw[f5]at X;have m5:C.flatten.length<=42:=by
    have:=fS d7 (n::d)
    rw[f5,Av]at this;((try clear a1 b1 c7 d9 f6 g8 h4 h6 h7 hn k3 k6 n1 r);omega)
   fail "g";refine⟨r8,g5,c1,oO f hs (n::d),C.flatten,rfl,m _ _ k8,e1,tG f hs (n::d),aM X,by (exact Nat.le_trans (by assumption) (by decide)),λc hc=>by obtain⟨g,hg,k2⟩:=List.mem_flatten.mp hc;exact(c5 g hg).2 c k2,λ_ rR h3 n6 h8 d5 eR g9=>?_,λi c hi _ n3=>?_⟩
   .fail "g";refine⟨za1,λt ht=>?_⟩
    have e2:=aG ht (.tup [.ref L,.ref D,.ref rR])
    have R:=m.trans (d5.trans e2)
    have Y:Z_ H a8:=s1.trans (I.trans Z)
    refine q t L D rR d C j ws h3 _ (Y.trans R) (none_of (Y.trans (m.trans d5)) ht) aE hL (R _ _ (Z _ _ (I _ _ eL))) a2 a9 a4 (none_of (s1.trans I) hD) (R _ _ b2) (l.keep R) (none_of (Y.trans m) h8) (e2 _ _ eR) g9 (λp hp=>none_of (s1.trans I) (J p hp)) ⟨fs,k5,j7.symm⟩
   .have h1:=O1 hi
    have h2:=a4 c
    ((try clear a1 b1 c7 d9 f6 g8 h4 h6 h7 hn k3 k6 m5 n1 n4 r);omega)
noncomputable def iF(z:Str):Bool:=if z.length<1\/10<z.length then false else z.cps.toList.all λc=>decide (c∈YG.cps.toList)
noncomputable abbrev eE(z:Str):List Str:=Txt.split z (Str.ofString " ")
noncomputable def UP(z:Str)(n:Int):Bool:=decide (((eE z).length:Int)<=n)&&(eE z).all iF
def LC{y:Str}(h:y∈eE z):y.length<=z.length:=by
 have:=PySem.join_mem_le " " _ y h
 rw[StrLaws.join_split]at this;(assumption)
def EL(z:Str):(eE z).length<=z.length+2:=by
 unfold eE Txt.split;split
 .show 1<=_;omega
 .split
  .show 1<=_;omega
  .rw[PySem.length_partsBetween];have a:=StrLaws.occ_length_le z " " 0 z.length (z.length+1)
   omega
def wC:Sp:=λb H Q _=>∃z,b=[.str z]/\z.length<=1000/\∀a,Z_ H a->Q (.bl (iF z)) a
def iN:Sp:=λb H Q _=>∃z n,b=[.str z,.int n]/\z.length<=1000/\∀a,Z_ H a->Q (.bl (UP z n)) a
def FO:Z9 ["text"] ["text"] (aK rX):=by fail "sc"
def CG(F:ZT K "is_term" "is_term" rX f fd):Z8 P w K mg base ZS 1 f fd ["text"] wC:=by
 refine F.ok FO (λk H Q E h=>?_) (λt A a s H k Q E v h=>?_)
 .obtain⟨z,rfl,_⟩:=h;rfl
 obtain⟨z,rfl,x,q⟩:=h;refine⟨_,(@aD _ _ _ _ _ (cD (PW.pt (sQ (bA xS (aY cO rfl G.b_len bR (aA (mv 0) aB)) aJ (bB _)) (lZ (bA We (aY cO rfl G.b_len bR (aA (mv 0) aB)) (qR rfl G.s_LONGEST_TERM) (bB _))))) (@aI _ _ _ (aT lK)) bF) (@aI _ _ _ (aT (aY (Ul rfl) rfl G.b_all Ug (aA (cL rfl (mF (mv 0)) (iI (N:=["sign"]) (by decide +kernel) (by decide +kernel)) (by decide +kernel) rfl (by decide +kernel) (λ_ _ _ _=>(bC (i:=0) (show List.Nodup (["sign"]:List Str) by decide +kernel) rfl (Or.inl rfl))) (λ_ _ _ _=>cX) (λ_ _ _ _=>(gC Vf (mv 0) (eQ rfl G.s_TERM_LETTERS) (by rfl)))) aB))))),?_⟩
 fail "g";refine eJ (λj=>?_) (λj=>?_)
 .fail "g";have e:iF z=false:=if_pos (.inl (by have:=Az j;omega))
  have r:=q H (Z_.refl H)
  rwa[e]at r
 .have d:=Bq (Br.mpr j)
  fail "g";refine eJ (λb=>?_) (λb=>?_)
  .fail "g";have e:iF z=false:=if_pos (.inr (by have:=Az b;omega))
   have r:=q H (Z_.refl H)
   rwa[e]at r
  .have m:=Bq (Br.mpr b)
   fail "g";refine Ti (λc=>some (.bl (decide (c∈YG.cps.toList)))) (bG (by (exact Nat.le_trans (by assumption) (by decide)))) (λi c u A B d o=>?_) (λD n=>?_)
   .fail "g";refine⟨Wk.set rfl (Wk.refl _),?_⟩;fail "g";have e:subIn ⟨#[c]⟩ YG=decide (c∈YG.cps.toList):=nI _ _
    show A (.bl (subIn ⟨#[c]⟩ YG)) u
    rwa[e]
   .fail "g";have e:z.cps.toList.filterMap (λc=>some (V.bl (decide (c∈YG.cps.toList))))=(z.cps.toList.map λc=>decide (c∈YG.cps.toList)).map V.bl:=by
     rw[Cd];exact kU _ _
    rw[e];have l:Z_ H (upd H D (.lst ((z.cps.toList.map λc=>decide (c∈YG.cps.toList)).map V.bl))):=aG n _
    refine Uk (bs:=z.cps.toList.map λc=>decide (c∈YG.cps.toList)) cG ?_;have p:iF z=(z.cps.toList.map λc=>decide (c∈YG.cps.toList)).all id:=by
     unfold iF;rw[if_neg (by omega),Ir]
     rfl
    have r:=q _ l
    rwa[p]at r
def Oe:Z9 ["text", "most", "terms"] ["text", "most"] (aK fN):=by fail "sc"
def oW(F:ZT K "is_row_of_terms" "is_row_of_terms" fN f fd)(b:ZR P w K mg base 1 "is_term" ["text"] wC):Z8 P w K mg base ZS 2 f fd ["text", "most"] iN:=by
 refine F.ok Oe (λp H Q E h=>?_) (λL A d s H p Q E j h=>?_)
 .obtain⟨z,n,rfl,_⟩:=h;rfl
 obtain⟨z,n,rfl,R,q⟩:=h;refine⟨_,(@aD _ _ _ _ _ (aP 2 Oe.nd (cM Dy Ig Ih Tu (mv 0) (@cY _ _ _ _ _ _ aB))) (@aI _ _ _ (aT (UM (gC Nr (aY cO rfl G.b_len bR (aA (mv 2) aB)) (mv 1) (bB _)) (Tn (aY (Ul rfl) rfl G.b_all Ug (aA (cL rfl (bT (mv 2)) (iI (N:=["term"]) (by decide +kernel) (by decide +kernel)) (by decide +kernel) rfl (by decide +kernel) (λ_ _ _ _=>(bC (i:=0) (show List.Nodup (["term"]:List Str) by decide +kernel) rfl (Or.inl rfl))) (λ_ _ _ _=>cX) (λ_ _ _ _=>(aU b j (by decide) rfl (aA (mv 0) aB)))) aB))))))),?_⟩
 fail "g";refine Ts rfl (by (exact Nat.le_trans (by assumption) (by decide))) λr j=>?_
 have c:=aG j (.lst ((eE z).map V.str))
 have m:Z4 (upd H r (.lst ((eE z).map V.str))) r=some ((eE z).map V.str):=cG
 show mX _ _ _ (upd H r (.lst ((eE z).map V.str))) _
 generalize upd H r (.lst ((eE z).map V.str))=W at c m ⊢;have a:((eE z).map V.str).length=(eE z).length:=Ab ..
 have I:=EL z
 fail "g";rw[a];unfold UP at q;refine eJ (λl=>?_) (λl=>?_)
 .rw[show decide (((eE z).length:Int)<=n)=true from l,Bool.true_and]at q;fail "g";refine qS (xs:=(eE z).map V.str) (λx=>match x with|.str y=>some (.bl (iF y))|_=>none) m (by rw[a];exact bG (by ((try clear a);omega))) (λi x T A B C O J=>?_) (λD M S t o=>?_)
  .obtain⟨y,v,rfl⟩:=iK C;fail "g";refine⟨Wk.set rfl (Wk.refl _),?_⟩;refine⟨y,rfl,by have:=LC (Am v);((try clear I a);omega),λU u=>?_⟩
   exact J _ u
  .have e:((eE z).map V.str).filterMap (λx=>match x with | .str y=>some (V.bl (iF y)) | _=>none)=((eE z).map iF).map V.bl:=by
    rw[Hn,Cd];exact kU (λy=>V.bl (iF y)) _
   rw[e]at o;refine Uk (bs:=(eE z).map iF) (aM o) ?_;have r:=q M (c.trans t)
   rwa[show ((eE z).map iF).all id=(eE z).all iF by rw[Ir];rfl]
 .have k:=Br.mpr l
  rw[k,Hw]at q;exact q _ c
def MQ(h:fH t):iF (aV t)=true:=by
 unfold iF;rw[cU,if_neg (by have:=h.1;have:=h.2.1;omega),cS,Bz]
 intro c a;have:=h.2.2 c a
 have q:∀k:_root_.Fin 26,(97+k.val)∈YG.cps.toList:=by decide +kernel
 unfold UW at this;have e:=q ⟨c-97,by omega⟩
 grind
def vL{a:Q6}(b:1<=a.length)(h:∀t∈a,fH t):eE (cH a)=a.map aV:=by
 refine CM  (λz=>?_) (λz c=>?_)
 .rw[List.map_eq_nil_iff]at z;rw[z]at b;exact absurd b (by decide)
 .obtain⟨t,d,rfl⟩:=Bb.mp c;intro m;have:=(h t d).2.2 32 m
  unfold UW at this;((try clear b);omega)
def zS(a:Q6)(h:∀t∈a,fH t):(cH a).length<=11*a.length:=by
 have e:=PySem.StrLaws.join_length_le " " (a.map aV)
 have b:cH a=Str.join " " _:=Ei _ _
 have c:=zJ a h
 rw[b];rw[Ab,show (Str.ofString " ").length=1 from rfl]at e;omega
def Wv(H:Hp)(r:Addr)(a:List (List Nat)):Prop:=H r=some (.lst ((a.map aV).map V.str))
def tJ:Sp:=λc H Q _=>∃a,c=[.str (cH a)]/\1<=a.length/\a.length<=40/\(∀t∈a,fH t)/\∀r b,H r=none->Z_ H b->Wv b r a->Q (.ref r) b
def AM:Z9 ["text"] ["text"] (aK oQ):=by fail "sc"
def C_(F:ZT K "terms_of" "terms_of" oQ f fd)(c:ZR P w K mg base 2 "is_row_of_terms" ["text", "most"] iN):Z8 P w K mg base ZS 3 f fd ["text"] tJ:=by
 refine F.ok AM (λl H Q E h=>?_) (λu A d s H l Q E e h=>?_)
 .obtain⟨a,rfl,_⟩:=h;rfl
 obtain⟨a,rfl,p,o,i,q⟩:=h;refine⟨_,(@aD _ _ _ _ _ (cD (sM (gH (aU c e (by decide) rfl (aA (mv 0) (aA (qR rfl G.s_MOST_TERMS) aB))))) (@aI _ _ _ OK) bF) (@aI _ _ _ (aT (cM Dy Ig Ih Tu (mv 0) (@cY _ _ _ _ _ _ aB))))),?_⟩
 have v:=zS a i
 have k:=vL p i
 have e:UP (cH a) 40=true:=by
  unfold UP;rw[k,Ab,Ao (by (exact Int.ofNat_le.mpr (by assumption))),Bool.true_and,Bz]
  intro z m;obtain⟨t,n,rfl⟩:=Bb.mp m;exact MQ (i t n)
 fail "g";refine⟨cH a,40,rfl,by omega,λx j=>?_⟩
 rw[e];fail "g";refine Ts rfl (by omega) λr b=>?_
 rw[show Txt.split (cH a) " "=a.map aV from k];exact q r _ (none_of j b) (j.trans (aG b _)) aE
def Yo(H:Hp)(r:Addr)(a:List (List (List Nat))):Prop:=∃b:List Addr,H r=some (.lst (b.map V.ref))/\b.length=a.length/\∀(j:Nat) p c,b[j]?=some p->a[j]?=some c->Wv H p c
def Yo.keep(h:Yo H r mss)(s:Z_ H H'):Yo H' r mss:=by
 obtain⟨a,g,f,e⟩:=h;exact⟨a,s _ _ g,f,λj p b c d=>s _ _ (e j p b c d)⟩
def cV(d:List (Str×Str))(a:List (List (List Nat))):Prop:=a.length=d.length/\∀(j:Nat) b c,d[j]?=some b->a[j]?=some c->b.2=cH c/\1<=c.length/\c.length<=5/\∀t∈c,fH t
def JO(h:XW bk):∃a,cV bk a:=by
 have i:=h.Sk
 clear h;induction bk with
 |nil=>exact⟨[],rfl,λj b f o=>by cases o⟩
 |cons b r l=>
  obtain⟨f,e,s,q,p⟩:=i b Al;obtain⟨a,m,n⟩:=l λc d=>i c (Ak _ d);refine⟨f::a,by rw[Av,Av,m],λj c k d g=>?_⟩
  cases j with
  |zero=>cases d;cases g;exact⟨e,s,q,p⟩
  |succ j=>exact n j c k (by simpa using d) (by simpa using g)
def lG:Sp:=λe H Q _=>∃a c b,e=[.ref a]/\ZF H a c/\c.length<=60/\cV c b/\∀r d,H r=none->Z_ H d->Yo d r b->Q (.ref r) d
def vH:Z9 ["book"] ["book"] (aK jJ):=by fail "sc"
def xK(F:ZT K "meanings_of" "meanings_of" jJ f fd)(G:Gs K mg w Zs Zz Zt Zx Z0 Zw Zy Zu Zv):Z8 P w K mg base ZS 1 f fd ["book"] lG:=by
 refine F.ok vH (λvs H Q E h=>?_) (λa6 A X s H vs Q E hr h=>?_)
 .obtain⟨a,S,m,rfl,_⟩:=h;rfl
 obtain⟨a,S,m,rfl,a1,a5,u,q⟩:=h;refine⟨_,(@aI _ _ _ (aT (cL rfl (bT (mv 0)) (iI (N:=["word", "meaning"]) (by decide +kernel) (by decide +kernel)) (by decide +kernel) rfl (by decide +kernel) (λ_ _ _ _=>(eP (K:=K) (i:=0) (j:=1) (by rfl) (by rfl) (show List.Nodup (["word", "meaning"]:List Str) by decide +kernel) (by rfl) (by exact Or.inl rfl) (by exact Or.inr rfl) (by rfl) (by exact Or.inl rfl) (by exact Or.inr rfl))) (λ_ _ _ _=>cX) (λ_ _ _ _=>(cM Dy Ig Ih Tu (mv 1) (@cY _ _ _ _ _ _ aB)))))),?_⟩
 obtain⟨T,b1,b2,b3⟩:=id a1;have U:=aM b1
 have a4:(T.map V.ref).length=S.length:=by rw[Ab,b2]
 fail "g";refine jH (n:=S.length) (λD i J I=>Z_ H I/\∃d,J=d.map V.ref/\d.length=i/\∀(j:Nat) p b,d[j]?=some p->m[j]?=some b->p≠D/\Wv I p b) (bG (by (exact Nat.le_trans (by assumption) (by decide)))) (λD C=>⟨aG C _,[],rfl,rfl,λj p b M=>by cases M⟩) (λD i J I C r Z=>?_) (λD J I C r=>?_) ?_ (λD J I C r l a3=>?_)
 .exact⟨_,(T.map V.ref)[i]'(by ((try clear a5);omega)),bE (aO r.1 U),Aa _⟩
 .exact⟨_,bE (aO r.1 U),by (exact Nat.le_of_eq (by assumption))⟩
 .rintro D i J I x H' A B C Z ⟨L,d,rfl,e,t⟩ l y hA hB;obtain⟨rfl,hx⟩:=y;have o:=hx _ (bE (aO L U))
  rw[Ag]at o;have hq:T[i]?=some (T[i]'(by ((try clear a5);omega))):=Aa _
  rw[hq]at o;cases o;have R:=Aa Z
  have tp:=L _ _ (b3 i _ _ hq R)
  obtain⟨b,O⟩:∃b,m[i]?=some b:=⟨_,Aa (by rw[u.1];exact Z)⟩
  obtain⟨e2,m1,m5,mT⟩:=u.2 i _ b R O;have hl:=zS b mT
  have M:=vL m1 mT
  rw[e2]at tp;have a2:=cW tp
  fail "g";refine⟨Wk.set rfl (Wk.set rfl (Wk.refl _)),?_⟩;fail "g";refine Ts rfl (by ((try clear Z a4 a5 b2 e);omega)) λW k=>?_
  rw[show Txt.split (cH b) " "=b.map aV from M];have Y:W≠D:=λz=>by rw[z,l]at k;cases k
  refine hA (.ref W) _ (by rw[aH (Ne.symm Y)];exact l) ⟨?_,d++[W],by rw[Ap];rfl,by rw[Af,e];rfl,λj p us c v=>?_⟩
  .refine bJ C (L.trans (aG k _))
  .by_cases hj:j<d.length
   .rw[An hj]at c;obtain⟨n1,t1⟩:=t j p us c v;refine⟨n1,?_⟩;unfold Wv at t1 ⊢;rw[aH n1];exact aG k _ _ _ t1
   .have ej:j=d.length:=by
     have:=(Ad.mp c).1
     rw[Af]at this;have:j<d.length+1:=this
     ((try clear Y Z a4 a5 b2 e hl m1 m5);omega)
    subst ej;rw[Aq (Ai _),Ej]at c;cases c;rw[e,O]at v;cases v;refine⟨Y,?_⟩;unfold Wv;rw[aH Y,aE]
 .obtain⟨L,d,rfl,e,t⟩:=r;exact q D I C L ⟨d,l,by rw[e,u.1],λj p b M hm=>(t j p b M hm).2⟩
def JW:∀a,a.all cA=true->kA a a=true:=λa h=>by
 rw[nP rfl,Bz];intro i c;have f:=jR h i
 generalize a.getD i .non=x at f ⊢;cases x with
 |non=>rfl
 |bl b=>show (b==b)=true;simp
 |int i=>show (i==i)=true;simp
 |str z=>show (z==z)=true;simp
 |_=>cases f
def FC(xs ys:List Str):kA (xs.map V.str) (ys.map V.str)=decide (xs=ys):=by
 by_cases e:xs=ys
 .subst e;rw[JW _ (dD _),Ao rfl]
 .rw[Aw e];by_cases a:xs.length=ys.length
  .cases h:kA (xs.map V.str) (ys.map V.str) with
   |false=>rfl
   |true=>
    rw[nP (by rw[Ab,Ab,a]),Bz,Ab]at h
    refine absurd (Ik a λj b d=>?_) e;have q:=h j (Bu.mpr b)
    rw[Ac,Ac,Ag,Ag,Aa b,Aa d]at q;have c:=q
    exact Iu c
  .exact xB (by simp_all)
def MG{s l:Nat}(h:s<=xs.length):kS xs (some (s:Int)) (some ((s:Int)+(l:Int)))=(xs.drop s).take l:=by
 show (xs.drop (if (s:Int)<0 then ((s:Int)+(xs.length:Int)).toNat else min (s:Int).toNat xs.length)).take ((if (s:Int)+(l:Int)<0 then ((s:Int)+(l:Int)+(xs.length:Int)).toNat else min (_+(l:Int)).toNat xs.length)-(if (s:Int)<0 then ((s:Int)+(xs.length:Int)).toNat else min (s:Int).toNat xs.length))=_
 rw[if_neg (by ((try clear h);omega)),if_neg (by ((try clear h);omega)),show (s:Int).toNat=s from rfl,show (_+(l:Int)).toNat=s+l by ((try clear h);omega),Fo h]
 by_cases a:s+l<=xs.length
 .rw[Fo a,Cu]
 .rw[Ff (by ((try clear h);omega)),Bi (by simp_all),Bi (by grind)]
def LY{a b:Q6}(h:a.map aV=b.map aV):a=b:=List.map_inj_right (λ_ _ e=>P0 e) |>.mp h
noncomputable def bU(a:List (List (List Nat)))(j:Nat):Nat:=(a.getD j []).length
def fU(a:List (List (List Nat)))(T:List (List Nat))(s j:Nat):Prop:=(T.drop s).take (bU a j)=a.getD j []
noncomputable instance (mss:List (Q6)) (T:Q6) (s j:Nat):Decidable (fU mss T s j):=inferInstanceAs (Decidable (_=_))
noncomputable def dZ(a:List (List (List Nat)))(T:List (List Nat))(s:Nat):List Nat:=(List.range a.length).filter λj=>decide (fU a T s j)
noncomputable def Vu(mss:List (List (List Nat)))(T:List (List Nat))(s i:Nat):Option V:=if fU mss T s i then some (V.int (i:Int)) else none
def Pg(a:List (Q6))(T:Q6)(s:Nat):∀n,(List.range n).filterMap (Vu a T s)=((List.range n).filter λj=>decide (fU a T s j)).map λj:Nat=>V.int (j:Int)
 |0=>rfl
 |n+1=>by
  rw[Cm,Bw,Fi,Ap,Pg a T s n]
  by_cases h:fU a T s n
  .rw[Ca (b:=V.int (n:Int)) (by unfold Vu;rw[if_pos h]),Ef,if_pos (Ao h)]
   rfl
  .rw[Cj (by unfold Vu;rw[if_neg h]),Ef,if_neg (by simp_all)]
   rfl
def dJ(h:j∈dZ mss T s):j<mss.length/\fU mss T s j:=by
 obtain⟨b,a⟩:=Di.mp h;simp_all
def pU(h:fU mss T s j)(hs:s<=T.length):s+bU mss j<=T.length:=by
 have:=Dp List.length h
 rw[Bt,Ce]at this;unfold bU at this ⊢;omega
def qK{a:Q6}(h:mss[j]?=some a):mss.getD j []=a:=by simp_all
inductive iO(e:List V)(H:Hp)(Q:VK)(zz3:XK):Prop|mk(a b:Addr)(c:List (List (List Nat)))(T:List (List Nat))(s:Nat)(_:e=[.ref a,.ref b,.int (s:Int)])(_:Yo H a c)(_:c.length<=60)(_:Wv H b T)(_:T.length<=1000)(_:s<=T.length)(_:∀r d,Z_ H d->Z4 d r=some ((dZ c T s).map λj:Nat=>V.int (j:Int))->Q (.ref r) d):iO e H Q zz3
def wA:Z9 ["meanings", "terms", "start"] ["meanings", "terms", "start"] (aK gE):=by fail "sc"
def uO(F:ZT K "standing_at" "standing_at" gE f fd):Z8 P w K mg base ZS 1 f fd ["meanings", "terms", "start"] iO:=by
 refine F.ok wA (λvs H Q E h=>?_) (λa3 A J s H vs Q E O h=>?_)
 .obtain⟨a,b,c,T,s,rfl,_⟩:=h;rfl
 obtain⟨a,b,c,T,l,rfl,S,a2,hT,a1,M,q⟩:=h;refine⟨_,(@aI _ _ _ (aT (cL rfl (nL rfl G.b_enumerate (aA (mv 0) aB)) (gF (N:=["number", "meaning", "terms", "start"]) ["meanings", "terms", "start"] (aK gE) [none,none,some 1,some 2] rfl rfl rfl (λx h=>cC h) (by decide +kernel)) (by decide +kernel) rfl (by decide +kernel) (λ_ _ _ _=>(eP (K:=K) (i:=0) (j:=1) (by rfl) (by rfl) (show List.Nodup (["number", "meaning", "terms", "start"]:List Str) by decide +kernel) (by rfl) (Or.inl rfl) (Or.inr rfl) (by rfl) (Or.inl rfl) (Or.inr rfl))) (λ_ _ _ _=>(iZ (bA (Ob O.YQ) (iJ Vt (mv 2) (fI (mv 3)) (fI (aR bQ (mv 3) (aY cO rfl G.b_len bR (aA (mv 1) aB))))) (mv 1) (bB _)))) (λ_ _ _ _=>(mv 0))))),?_⟩
 obtain⟨I,p1,p2,p3⟩:=id S;have rp:=aM p1
 have p:(I.map V.ref).length=c.length:=by rw[Ab,p2]
 fail "g";refine SH (k:=0) (xs:=I.map V.ref) (λi _=>Vu c T l i) rp (by rw[p];exact bG (by (exact Nat.le_trans (by assumption) (by decide)))) (λi x Hc C A B o sm R hA=>?_) (λD Hd hD sD hd=>?_)
 .rw[Ag]at o;cases e:I[i]? with
  |none=>rw[e]at o;cases o
  |some n=>
   rw[e]at o;cases o;have hi:i<c.length:=by rw[<-p2];exact(Ad.mp e).1
   obtain⟨d,t⟩:∃d,c[i]?=some d:=⟨_,Aa hi⟩;have y:=sm.trans (aG R (.tup [V.int ((0+i:Nat):Int),V.ref n]))
   have X:=y _ _ (p3 i n d e t)
   have W:=y _ _ hT
   have Z:=aM X
   have rt:=aM W
   have v:nV (upd Hc C (.tup [V.int ((0+i:Nat):Int),V.ref n])) C=some [V.int ((0+i:Nat):Int),V.ref n]:=nH
   have U:((d.map aV).map V.str).length=d.length:=by rw[Ab,Ab]
   have L:((T.map aV).map V.str).length=T.length:=by rw[Ab,Ab]
   have eg:=qK t
   have u:fU c T l i ↔ (T.drop l).take d.length=d:=by unfold fU bU;rw[eg]
   generalize upd Hc C (.tup [V.int ((0+i:Nat):Int),V.ref n])=H2 at hA y X W Z rt v ⊢;fail "g";refine⟨Wk.set rfl (Wk.set rfl (Wk.refl _)),?_⟩;fail "g";rw[U];intro r O;rw[MG (by rwa[L]),<-Fy,<-Fy,<-Gq,<-Gq]
   have Y:=aG O (.lst ((((T.drop l).take d.length).map aV).map V.str))
   refine Tr cG (aO Y Z) (dD _) (dD _) ?_;rw[if_neg Ar,FC];have m:=hA _ Y
   generalize upd H2 r (.lst ((((T.drop l).take d.length).map aV).map V.str))=H3 at m ⊢;fail "g";unfold Vu at m;by_cases z:fU c T l i
   .rw[if_pos z]at m;rw[Ao (Dp (List.map aV) (u.mp z))];rwa[Nat.zero_add]
   .rw[if_neg z]at m;rwa[Aw (λk=>z (u.mpr (LY k)))]
 .rw[p,Pg]at hd;exact q D Hd sD hd
noncomputable def tV:Option Int->V
 |none=>.non
 |some n=>.int n
noncomputable def sC(a:List (List (List Nat)))(T:List (List Nat))(b:List (Option Int))(i:Nat):List (Option Int):=(dZ a T i).map λj=>b.getD (i+bU a j) none
noncomputable def Xp(a:List (List (List Nat)))(T:List (List Nat))(b:List (Option Int))(i:Nat):List Int:=(sC a T b i).filterMap id
def tH(b:List (List (List Nat)))(T:List (List Nat))(c:List (Option Int))(i:Nat):Prop:=(Xp b T c i=[]/\c.getD i none=none)\/∃m,m∈Xp b T c i/\(∀a∈Xp b T c i,m<=a)/\c.getD i none=some (1+m)
def qT(a:List (List (List Nat))):Prop:=a.length<=60/\∀b∈a,1<=b.length/\b.length<=5
def lW(h:qT mss)(a:j<mss.length):1<=bU mss j/\bU mss j<=5:=by
 unfold bU;rw[Ac,Aa a];exact h.2 _ (Bx a)
def sI(b:qT mss)(h:∀k,i<k->TB.getD k none=TC.getD k none):sC mss T TB i=sC mss T TC i:=by
 refine Dz λj a=>?_;have:=lW b (dJ a).1
 grind
def BY(a:qT mss)(h:∀k,i<=k->TB.getD k none=TC.getD k none)(r:tH mss T TB i):tH mss T TC i:=by
 unfold tH Xp at r ⊢;rwa[sI a (λk b=>h k (by (exact Nat.le_of_lt (by assumption)))),h i (Ai _)]at r
structure YX (mss:List (List (List Nat))) (T:List (List Nat)) (TB:List (Option Int)):Prop where
 len:TB.length=T.length+1
 last:TB.getD T.length none=some 0
 small:∀k n,TB.getD k none=some n->0<=n/\n<=1000
 row:∀i,i<T.length->tH mss T TB i
def UD(h:k<TB.length):YY (TB.map tV) (k:Int)=some (tV (TB.getD k none)):=by
 refine aW ?_;simp_all
def rO{v:Option Int}(a:k<TB.length):(TB.set k v).getD i none=if i=k then v else TB.getD i none:=by grind
def F7(bs:List _):(bs.map tV).filterMap (λx=>match x with|.int n=>some (V.int n)|_=>none)=(bs.filterMap id).map V.int:=by
 induction bs with
 |nil=>rfl
 |cons b r c=>
  cases b with
  |none=>rw[As,Cj rfl,c,Cj rfl]
  |some n=>rw[As,Ca (f:=λx=>match x with|.int n=>some (V.int n)|_=>none) (a:=tV _)  rfl,c,Ca  (a:=some n) (b:=n) rfl];rfl
def jX:Sp:=λf H Q _=>∃a b c T,f=[.ref a,.ref b]/\Yo H a c/\qT c/\Wv H b T/\T.length<=40/\
 ∀r e d,H r=none->Z_ H d->d r=some (.lst (e.map tV))->YX c T e->Q (.ref r) d
def m9:Z9 ["meanings", "terms", "table", "start", "behind", "known"] ["meanings", "terms"] (aK eU):=by fail "sc"
def rG(F:ZT K "least_numbers" "least_numbers" eU f fd)(o3:ZR P w K mg base 1 "standing_at" ["meanings", "terms", "start"] iO):Z8 P w K mg base ZS 2 f fd ["meanings", "terms"] jX:=by
 refine F.ok m9 (λvs H Q E h=>?_) (λcdv A outer s H vs Q E hr h=>?_)
 .obtain⟨a,b,mss,T,rfl,_⟩:=h;rfl
 obtain⟨a,b,mss,T,rfl,hms,hL,hT,h40,q⟩:=h;refine⟨_,(@aD _ _ _ _ _ (aP 2 m9.nd (aR bQ (aR TK (bO (aA dG aB)) (aY cO rfl G.b_len bR (aA (mv 1) aB))) (bO (aA aJ aB)))) (@aD _ _ _ _ _ (cP Bl rfl (JC rfl G.b_range (aA (aR lL (aY cO rfl G.b_len bR (aA (mv 1) aB)) aJ) (aA (UC Um aJ) (aA (UC Um aJ) aB)))) (bC (i:=3) m9.nd rfl (Or.inr rfl)) (@aD _ _ _ _ _ (fK (i:=4) m9.nd rfl (Or.inl rfl) rfl (bT (aU o3 hr (by decide) rfl (aA (mv 0) (aA (mv 1) (aA (mv 3) aB))))) (gF (N:=["number", "table", "start", "meanings"]) ["meanings", "terms", "table", "start", "behind", "known"] (aK eU) [none,some 2,some 3,some 0] rfl rfl rfl (λx h=>cC h) (by decide +kernel)) (by decide +kernel) rfl (by decide +kernel) (λ_ _ _ _=>(bC (i:=0) (show List.Nodup (["number", "table", "start", "meanings"]:List Str) by decide +kernel) rfl (Or.inl rfl))) (λ_ _ _ _=>cX) (λ_ _ _ _=>(bD bN (mv 1) (aR bQ (mv 2) (aY cO rfl G.b_len bR (aA (bD bN (mv 3) (mv 0) (λ_ _=>rfl)) aB))) (λ_ _=>rfl)))) (@aD _ _ _ _ _ (fK (i:=5) m9.nd rfl (Or.inl rfl) rfl (bT (mv 4)) (iI (N:=["many"]) (by decide +kernel) (by decide +kernel)) (by decide +kernel) rfl (by decide +kernel) (λ_ _ _ _=>(bC (i:=0) (show List.Nodup (["many"]:List Str) by decide +kernel) rfl (Or.inl rfl))) (λ_ _ _ _=>(iZ (bA uU (mv 0) dG (bB _)))) (λ_ _ _ _=>(mv 0))) (@aI _ _ _ (cD (bA (G1 hr.YQ) (mv 5) (bO aB) (bB _)) (@aI _ _ _ (Sw (aR bQ aJ (aY (I_ rfl) rfl G.b_min F9 (aA (mv 5) aB))) (Tg (mv 2) (mv 3) vG))) bF))))) (@aI _ _ _ (aT (mv 2))))),?_⟩
 have htl:((T.map aV).map V.str).length=T.length:=by rw[Ab,Ab]
 have rT:=aM hT
 fail "g";refine⟨r0,λp0 hp0=>?_⟩
 have s0:=aG hp0 (.lst [V.non])
 have e0:(upd H p0 (.lst [V.non])) p0=some (.lst [V.non]):=aE
 generalize upd H p0 (.lst [V.non])=H0 at s0 e0 ⊢;have rT0:=aO s0 rT
 fail "g";rw[htl];refine⟨p0,_,[V.non],rfl,rfl,e0,by (exact Int.natCast_nonneg _),by omega,by show 1*((T.length:Int)).toNat<=sizeLine;exact bM (by omega),λp1 hp1=>?_⟩
 have er:(List.replicate ((T.length:Int)).toNat [V.non]).flatten=(List.replicate T.length (none:Option Int)).map tV:=by
  rw[show ((T.length:Int)).toNat=T.length from rfl];generalize T.length=n;induction n with
  |zero=>rfl
  |succ n ih=>rw[Dm,By,ih,Dm,As];rfl
 rw[er];have s1:=s0.trans (aG hp1 (.lst ((List.replicate T.length (none:Option Int)).map tV)))
 have e1:(upd H0 p1 (.lst ((List.replicate T.length (none:Option Int)).map tV))) p1=_:=aE
 generalize upd H0 p1 (.lst ((List.replicate T.length (none:Option Int)).map tV))=H1 at s1 e1 ⊢;fail "g";refine⟨r0,λp2 hp2=>?_⟩
 have n2:p1≠p2:=bI e1 hp2
 refine jK (xs:=(List.replicate T.length (none:Option Int)).map tV) (ys:=[V.int 0]) (by rw[uC n2];exact bL e1) dY (bM (by rw[Ab,Cg];show _+1<=_;(exact Nat.lt_of_le_of_lt (by assumption) (by decide)))) λtb htb=>?_
 rw[show (List.replicate T.length (none:Option Int)).map tV++[V.int 0]=(List.replicate T.length (none:Option Int)++[some 0]).map tV by rw[Ap];rfl]
 have htbH:H tb=none:=none_of (s1.trans (aG hp2 _)) htb
 have s3:=s1.trans ((aG hp2 (.lst [V.int 0])).trans (aG htb (.lst ((List.replicate T.length (none:Option Int)++[some 0]).map tV))))
 have e3:(upd (upd H1 p2 (.lst [V.int 0])) tb (.lst ((List.replicate T.length (none:Option Int)++[some 0]).map tV))) tb=_:=aE
 generalize upd (upd H1 p2 (.lst [V.int 0])) tb (.lst ((List.replicate T.length (none:Option Int)++[some 0]).map tV))=H3 at s3 e3 ⊢;have rT3:=aO s3 rT
 fail "g";rw[htl];refine⟨⟨by ((try clear n2);omega),by ((try clear n2);omega),by (exact Int.natCast_nonneg _),by (exact Int.natCast_nonneg _),rfl⟩,?_⟩
 have hcn:vT ((T.length:Int)-1) (-1)=T.length:=by unfold vT;((try clear n2);omega)
 rw[hcn];have ini:∀k,(List.replicate T.length (none:Option Int)++[some 0]).getD k none=if k=T.length then some 0 else none:=λk=>by
  rw[Ac];by_cases h1:k<T.length
  .rw[An (by rw[Cg];exact h1),Gd,if_pos h1,if_neg (by (exact Nat.ne_of_lt (by assumption)))]
   rfl
  .rw[Aq (by rw[Cg];((try clear h40 n2);omega)),Cg]
   by_cases h2:k=T.length
   .subst h2;rw[if_pos rfl,Ej];rfl
   .rw[if_neg h2,Em (by show 1<=_;((try clear h40 n2);omega))];rfl
 refine Mw (λt U H'=>∃TB v3 v4 v5,U=[some (.ref a),some (.ref b),some (.ref tb),v3,v4,v5]/\Z_ H H'/\H' tb=some (.lst (TB.map tV))/\TB.length=T.length+1/\TB.getD T.length none=some 0/\(∀k v,TB.getD k none=some v->0<=v/\v<=(t:Int))/\(∀i,T.length<=i+t->i<T.length->tH mss T TB i)/\∀i,i+t<T.length->TB.getD i none=none)
  ⟨List.replicate T.length none++[some 0],_,_,_,rfl,s3,e3,by rw[Af,Cg];rfl,by rw[ini,if_pos rfl],λk v hv=>?_,λi h1 h2=>absurd h1 (by ((try clear h40 n2);omega)),λi hi=>by rw[ini,if_neg (by (exact Nat.ne_of_lt (by assumption)))]⟩ ?_ ?_
 .rw[ini]at hv;split at hv
  .cases hv;((try clear h40 hcn htl n2);omega)
  .cases hv
 .rintro t U H4 ht ⟨TB,v3,v4,v5,rfl,s4,e4,hlen,hlast,hsm,iR,hnone⟩;obtain⟨st,hst⟩:∃st,st+t+1=T.length:=⟨T.length-1-t,by ((try clear h40 n2);omega)⟩
  rw[show (T.length:Int)-1+(t:Int)*(-1)=(st:Int) by ((try clear h40 ht n2);omega)]
  have hms4:=hms.keep s4
  have hT4:=s4 _ _ hT
  fail "g";refine⟨a,b,mss,T,st,rfl,hms4,hL.1,hT4,by (exact Nat.le_trans (by assumption) (by decide)),by ((try clear h40 ht n2);omega),λrs H5 s5 e5=>?_⟩
  have e45:=s5 _ _ e4
  obtain⟨ps,p1',p2',p3'⟩:=hms4.keep s5;fail "g";refine qS (xs:=(dZ mss T st).map λj:Nat=>V.int (j:Int)) (λx=>match x with|.int j=>some (tV (TB.getD (st+bU mss j.toNat) none))|_=>none) e5 (by
   rw[Ab];have:(dZ mss T st).length<=mss.length:=by unfold dZ;have:=Gr (λj=>decide (fU mss T st j)) (List.range mss.length);rw[Bf]at this;exact this
   exact bG (by have:=hL.1;((try clear h40 hcn hlen hst ht htl n2);omega))) (λi x Hc A B hx sm hA=>?_) (λD Hd hD sD hd=>?_)
  .rw[Ag]at hx;cases e:(dZ mss T st)[i]? with
   |none=>rw[e]at hx;cases hx
   |some j=>
    rw[e]at hx;cases hx;obtain⟨hj,hS⟩:=dJ (Am e);have hle:=pU hS (by ((try clear h40 hj ht n2 p2');omega))
    have hpj:ps[j]?=some (ps[j]'(by ((try clear h40 hcn hle hlen hst ht htl n2);omega))):=Aa _
    obtain⟨ms,hmj⟩:∃ms,mss[j]?=some ms:=⟨_,Aa hj⟩;have tm:=sm _ _ (p3' j _ ms hpj hmj)
    have rm:=aM tm
    have eg:=qK hmj
    have hml:((ms.map aV).map V.str).length=bU mss j:=by unfold bU;rw[eg,Ab,Ab]
    have rps:=aM (sm _ _ p1')
    have rtb:=aM (sm _ _ e45)
    fail "g";refine⟨Wk.set rfl (Wk.refl _),?_⟩;fail "g";refine bX rps (v:=.ref (ps[j]'(by ((try clear h40 hcn hle hlen hml hst ht htl n2);omega)))) (aW (by rw[Ag,hpj];rfl)) ?_
    fail "g";rw[hml];refine bX rtb (by rw[show (st:Int)+(bU mss j:Int)=((st+bU mss j:Nat):Int) by ((try clear h40 hcn hj hle hlen hml hst ht htl n2 p2');omega)];exact UD (by ((try clear h40 hj hst ht n2 p2');omega))) ?_
    exact hA _ (Z_.refl _)
  .have eb:((dZ mss T st).map λj:Nat=>V.int (j:Int)).filterMap (λx=>match x with | .int j=>some (tV (TB.getD (st+bU mss j.toNat) none)) | _=>none)=(sC mss T TB st).map tV:=by
    unfold sC;rw[Hn,Cd];exact kU (λj:Nat=>tV (TB.getD (st+bU mss j) none)) _
   rw[eb]at hd;have e4d:=sD _ _ e45
   have rbD:=aM hd
   have hbl:((sC mss T TB st).map tV).length<=60:=by
    rw[Ab];unfold sC dZ;rw[Ab];have:=Gr (λj=>decide (fU mss T st j)) (List.range mss.length)
    rw[Bf]at this;have:=hL.1
    ((try clear h40 hcn hlen hst ht htl n2);omega)
   fail "g";refine qS (xs:=(sC mss T TB st).map tV) (λx=>match x with|.int n=>some (V.int n)|_=>none) rbD (bG (by (exact Nat.le_trans (by assumption) (by decide)))) (λi x Hc A B hx sm hA=>?_) (λD2 Hd2 hD2 sD2 hd2=>?_)
   .rw[Ag]at hx;cases e:(sC mss T TB st)[i]? with
    |none=>rw[e]at hx;cases hx
    |some o=>
     rw[e]at hx;cases hx;have r:=hA _ (Z_.refl _)
     cases o with
     |none=>
      fail "g";refine⟨Wk.set rfl (Wk.refl _),?_⟩;fail "g";exact r
     |some n=>
      fail "g";refine⟨Wk.set rfl (Wk.refl _),?_⟩;fail "g";exact r
   .rw[F7]at hd2;have hd2':Hd2 D2=some (.lst ((Xp mss T TB st).map V.int)):=hd2
    have e42:=sD2 _ _ e4d
    fail "g";refine⟨by decide,λpe hpe=>?_⟩
    have s6:=aG hpe (.lst [])
    refine Tr (neg:=true) (aO s6 (aM hd2')) cG (by rw[Bz];intro x hx;obtain⟨n,_,rfl⟩:=Bb.mp hx;rfl) rfl ?_
    have e6:=s6 _ _ e42
    have d6:=s6 _ _ hd2'
    have s06:=s4.trans (s5.trans (sD.trans (sD2.trans s6)))
    generalize upd Hd2 pe (.lst [])=H6 at s6 e6 d6 s06 ⊢;have en:∀xs:List V,kA xs []=xs.isEmpty:=λxs=>by cases xs<;>rfl
    rw[if_pos rfl,en];have hst1:st<TB.length:=by ((try clear h40 hbl ht n2 p2');omega)
    have hstn:TB.getD st none=none:=hnone st (by (exact Nat.le_of_eq (by assumption)))
    fail "g";cases hk:Xp mss T TB st with
    |nil=>
     rw[show (List.map V.int ([]:List Int)).isEmpty=true from rfl];fail "g";refine⟨TB,_,_,_,rfl,s06,e6,hlen,hlast,λk v hv=>by have:=hsm k v hv;((try clear h40 hbl hst1 ht n2 p2');omega),λi h1 h2=>?_,λi hi=>hnone i (by (exact Nat.le_of_lt (by assumption)))⟩
     by_cases ei:i=st
     .subst ei;exact .inl ⟨hk,hstn⟩
     .exact iR i (by ((try clear h2 h40 hbl hst1 ht n2 p2');omega)) h2
    |cons k0 kr=>
     rw[show (List.map V.int (k0::kr)).isEmpty=false from rfl];rw[hk]at d6;have nD:D2≠tb:=λz=>by rw[z,sD2 _ _ e4d]at hd2';rw[z]at hD2;rw[e4d]at hD2;cases hD2
     fail "g";refine Nq (ns:=k0::kr) (aM d6) (by rw[Av];((try clear h40 hbl hcn hlen hst hst1 ht htl n2 nD p2');omega)) λm hm hmin=>?_
     fail "g";refine SS (o:=.non) (bL e6) (RQ (by (exact Int.natCast_nonneg _)) (by rw[Ab];(exact Int.ofNat_le.mpr (by assumption)))) ?_
     rw[show ((st:Nat):Int).toNat=st from rfl,show V.int (1+m)=tV (some (1+m)) from rfl,<-List.map_set];have hmk:m∈Xp mss T TB st:=by rw[hk];exact hm
     have hmo:some m∈sC mss T TB st:=by
      obtain⟨o,ho,e⟩:=Cq.mp hmk;have e2:o=some m:=e
      rw[<-e2];exact ho
     obtain⟨jj,hjj,ejj⟩:=Bb.mp hmo;have hmb:=hsm _ _ ejj
     have gd:∀k,k≠st->TB.getD k none=(TB.set st (some (1+m))).getD k none:=λk hk=>by rw[rO hst1,if_neg hk]
     fail "g";refine⟨TB.set st (some (1+m)),_,_,_,rfl,bJ htbH s06,aE,by rw[Cy];exact hlen,by rw[<-gd _ (by ((try clear h40 hbl hmb hst1 ht n2 nD p2');omega))];exact hlast,λk v hv=>?_,λi h1 h2=>?_,λi hi=>by rw[<-gd _ (by ((try clear h40 hbl hmb hst1 ht n2 nD p2');omega))];exact hnone i (by (exact Nat.le_of_lt (by assumption)))⟩
     .by_cases ek:k=st
      .subst ek;rw[rO hst1,if_pos rfl]at hv;cases hv;((try clear h40 hbl hst1 ht n2 nD p2');omega)
      .rw[<-gd k ek]at hv;have:=hsm k v hv
       ((try clear ek h40 hbl hmb hst1 ht n2 nD p2');omega)
     .by_cases ei:i=st
      .subst ei;have ebe:sC mss T (TB.set i (some (1+m))) i=sC mss T TB i:=sI hL λk hk=>(gd k (by (exact Nat.ne_of_gt (by assumption)))).symm
       refine .inr ⟨m,?_,?_,by rw[rO hst1,if_pos rfl]⟩
       .unfold Xp;rw[ebe];exact hmk
       .unfold Xp;rw[ebe];intro x hx;have hx2:x∈Xp mss T TB i:=hx
        rw[hk]at hx2;exact hmin x hx2
      .exact BY hL (λk hk=>gd k (by ((try clear h2 h40 hbl hmb hst1 ht n2 nD p2');omega))) (iR i (by ((try clear h2 h40 hbl hmb hst1 ht n2 nD p2');omega)) h2)
 .rintro U H4 ⟨TB,v3,v4,v5,rfl,s4,e4,hlen,hlast,hsm,iR,hnone⟩;fail "g";exact q tb TB H4 htbH s4 e4 ⟨hlen,hlast,λk n hn=>by have:=hsm k n hn;((try clear n2);omega),λi hi=>iR i (by ((try clear h40 hcn hi hlen htl n2);omega)) hi⟩
def TL(h:cV bk mss)(a:bk.length<=60):qT mss:=by
 refine⟨by rwa[h.1],λc d=>?_⟩
 obtain⟨j,b,e⟩:=Bv.mp d;have f:j<bk.length:=by rwa[<-h.1]
 have:=h.2 j _ c (Aa f) (by rw[Aa b,e])
 simp_all
noncomputable def NP:Str:=("longest_on" : Str) ++ ".<locals>." ++ "<lambda>"
noncomputable def NA:Pos:=⟨101,29,101,65⟩
def dE(a:Addr)(H:Hp):Prop:=Y0 a NP NA H
structure Xc (mss:List (List (List Nat))) (T:List (List Nat)) (TB:List (Option Int)) (i k:Nat):Prop where
 st:k∈dZ mss T i
 one:∃n,TB.getD i none=some n/\TB.getD (i+bU mss k) none=some (n-1)
 most:∀j∈dZ mss T i,TB.getD (i+bU mss j) none=TB.getD (i+bU mss k) none->bU mss j<=bU mss k
inductive Path (mss:List (List (List Nat))) (T:List (List Nat)) (TB:List (Option Int)):Nat->List Nat->Prop
 |nil:Path mss T TB T.length []
 |cons {i k:Nat} {ks:List Nat}:i<T.length->Xc mss T TB i k->Path mss T TB (i+bU mss k) ks->Path mss T TB i (k::ks)
def Sl(p:Nat->Bool):∀L:List Nat,(L.map λj:Nat=>V.int (j:Int)).filterMap (λx=>match x with|.int j=>if p j.toNat=true then some (V.int j) else none|_=>none)=(L.filter p).map λj:Nat=>V.int (j:Int)
 |[]=>rfl
 |j::r=>by
  rw[As];cases h:p j with
  |true=>
   rw[Ca (b:=V.int (j:Int)) (by show (if p ((j:Int)).toNat=true then _ else _)=_;rw[Fu,if_pos h]),Sl p r,Ef,if_pos h]
   rfl
  |false=>
   rw[Cj (by simp_all),Sl p r,Ef,if_neg (by rw[h];decide)]
inductive jB(e:Addr)(h:List V)(H:Hp)(Q:VK)(zz3:XK):Prop|mk(a b g:Addr)(c:List (List (List Nat)))(T:List (List Nat))(d:List (Option Int))(i:Nat)(n:Int)(_:h=[.ref a,.ref b,.ref g,.int (i:Int)])(_:Yo H a c)(_:qT c)(_:Wv H b T)(_:T.length<=40)(_:H g=some (.lst (d.map tV)))(_:YX c T d)(_:i<T.length)(_:d.getD i none=some n)(_:dE e H)(_:∀k f,Xc c T d i k->ZZ e H f->dE e f->Q (.int (k:Int)) f):jB e h H Q zz3
def j4:Z9 ["meanings", "terms", "table", "start", "left", "standing", "shortest"] ["meanings", "terms", "table", "start"] (aK dS):=by fail "sc"
def xW(F:ZT K "longest_on" "longest_on" dS f fd)(c1:fd.code=.ref c)(LB:X8 mg base c Pt)(o3:ZR P w K mg base 1 "standing_at" ["meanings", "terms", "start"] iO):Z8 P w K mg base ZS 2 f fd ["meanings", "terms", "table", "start"] (jB Pt):=by
 refine F.Nc c1 j4 (λvs H Q E h=>?_) (λd1 A b4 s H vs Q E b1 hr h=>?_)
 .obtain⟨a,b,tb,d,T,Z,i,n,rfl,_⟩:=h;rfl
 obtain⟨a,b,tb,d,T,Z,l,n,rfl,a8,hL,hT,c9,b2,ok,b6,hn,a9,q⟩:=h;refine⟨_,(@aD _ _ _ _ _ (aP 4 j4.nd (aR lL (bD bN (mv 2) (mv 3) (λ_ _=>rfl)) aJ)) (@aD _ _ _ _ _ (aP 5 j4.nd (aU o3 hr (by decide) rfl (aA (mv 0) (aA (mv 1) (aA (mv 3) aB))))) (@aD _ _ _ _ _ (fK (i:=6) j4.nd rfl (Or.inl rfl) rfl (bT (mv 5)) (gF (N:=["number", "left", "table", "start", "meanings"]) ["meanings", "terms", "table", "start", "left", "standing", "shortest"] (aK dS) [none,some 4,some 2,some 3,some 0] rfl rfl rfl (λx h=>cC h) (by decide +kernel)) (by decide +kernel) rfl (by decide +kernel) (λ_ _ _ _=>(bC (i:=0) (show List.Nodup (["number", "left", "table", "start", "meanings"]:List Str) by decide +kernel) rfl (Or.inl rfl))) (λ_ _ _ _=>(iZ (bA mV (bD bN (mv 2) (aR bQ (mv 3) (aY cO rfl G.b_len bR (aA (bD bN (mv 4) (mv 0) (λ_ _=>rfl)) aB))) (λ_ _=>rfl)) (mv 1) (bB _)))) (λ_ _ _ _=>(mv 0))) (@aI _ _ _ (aT (HA rfl (JZ hr) rfl G.b_max (aA (mv 6) aB) b1 LB (Jy (N:=["number", "meanings"]) (x := "number") ["meanings", "terms", "table", "start", "left", "standing", "shortest"] (aK dS) [0] rfl rfl (λx h=>cC h) (by decide +kernel)) (λA f c' c3 c5=>(aY cO rfl G.b_len bR (aA (bD bN (mv 1) (mv 0) (λ_ _=>rfl)) aB))) rfl rfl rfl rfl (by decide +kernel) (λ_ _ _ _ _=>rfl))))))),?_⟩
 have a1:=aM b2
 have c4:=ok.len
 fail "g";refine bX a1 (v:=.int n) (by rw[UD (by ((try clear c9);omega)),hn];rfl) ?_
 fail "g";refine⟨a,b,d,T,l,rfl,a8,hL.1,hT,by (exact Nat.le_trans (by assumption) (by decide)),by (exact Nat.le_of_lt (by assumption)),λrs H5 s5 e5=>?_⟩
 have c2:=s5 _ _ b2
 obtain⟨ps,a3,c6,a2⟩:=a8.keep s5;have c7:(dZ d T l).length<=60:=by
  have:=Gr (λj=>decide (fU d T l j)) (List.range d.length)
  rw[Bf]at this;have:=hL.1
  unfold dZ;((try clear b6 c4 c9);omega)
 fail "g";refine qS (xs:=(dZ d T l).map λj:Nat=>V.int (j:Int)) (λx=>match x with|.int j=>if decide (Z.getD (l+bU d j.toNat) none=some (n-1))=true then some (V.int j) else none|_=>none) e5 (by rw[Ab];exact bG (by (exact Nat.le_trans (by assumption) (by decide)))) (λi x Hc A B hx sm hA=>?_) (λD Hd hD sD hd=>?_)
 .rw[Ag]at hx;cases e:(dZ d T l)[i]? with
  |none=>rw[e]at hx;cases hx
  |some j=>
   rw[e]at hx;cases hx;obtain⟨W,hS⟩:=dJ (Am e);have c8:=pU hS (by (exact Nat.le_of_lt (by assumption)))
   have C:ps[j]?=some (ps[j]'(by ((try clear b6 c4 c7 c8 c9);omega))):=Aa _
   obtain⟨L,I⟩:∃L,d[j]?=some L:=⟨_,Aa W⟩;have tm:=sm _ _ (a2 j _ L C I)
   have rm:=aM tm
   have eg:=qK I
   have R:((L.map aV).map V.str).length=bU d j:=by unfold bU;rw[eg,Ab,Ab]
   have O:=aM (sm _ _ a3)
   have b3:=aM (sm _ _ c2)
   have r:(match (if decide (Z.getD (l+bU d j) none=some (n-1))=true then some (V.int (j:Int)) else none) with|some y=>A y Hc|none=>B Hc):=hA _ (Z_.refl _)
   fail "g";refine⟨Wk.set rfl (Wk.refl _),?_⟩;fail "g";refine bX O (v:=.ref (ps[j]'(by ((try clear R b6 c4 c7 c8 c9);omega)))) (aW (by rw[Ag,C];rfl)) ?_
   fail "g";rw[R];refine bX b3 (by rw[show (l:Int)+(bU d j:Int)=((l+bU d j:Nat):Int) by ((try clear R W b6 c4 c6 c7 c8 c9);omega)];exact UD (by ((try clear W b6 c6 c7 c9);omega))) ?_
   generalize Z.getD (l+bU d j) none=o at r ⊢;cases o with
   |none=>
    rw[if_neg (by simp)]at r
    refine⟨rfl,?_⟩;rw[show decide (tV none=V.int (n-1))=false from Aw λz=>nomatch z]
    exact r
   |some m=>
    show UA (V.int m) (V.int (n-1)) _ _
    fail "g";by_cases z:m=n-1
    .rw[Ao (by rw[z]),if_pos rfl]at r
     rw[Ao z];fail "g";exact r
    .rw[Aw (λy=>z (by injection y)),if_neg (by decide)]at r
     rw[Aw z];exact r
 .rw[Sl λj=>decide (Z.getD (l+bU d j) none=some (n-1))]at hd;generalize b9:(dZ d T l).filter (λj=>decide (Z.getD (l+bU d j) none=some (n-1)))=J at hd;have t:∀j,j∈J ↔ j∈dZ d T l/\Z.getD (l+bU d j) none=some (n-1):=λj=>by rw[<-b9,Di,Bp]
  have a6:0<J.length:=by
   rcases ok.row l b6 with⟨_,z⟩|⟨m,hm,_,M⟩
   .rw[hn]at z;cases z
   .rw[hn]at M;obtain⟨o,ho,e⟩:=Cq.mp hm;have e2:o=some m:=e
    obtain⟨j,W,ej⟩:=Bb.mp ho;have:j∈J:=(t j).mpr ⟨W,by rw[ej,e2];injection M with M;rw[M];congr 1;((try clear M b6 c4 c6 c7 c9);omega)⟩
    exact List.length_pos_of_mem this
  have b7:=a9.keep (s5.trans sD)
  have a5:=sD _ _ a3
  fail "g";refine CW ?_;fail "g";refine⟨D,J.map λj:Nat=>(j:Int),λi=>((bU d (J.getD i 0):Nat):Int),rfl,by rw[Cd];exact aM hd,by rw[Ab];exact a6,b7,λH2 a4 i n0 a7=>?_,λi m H2 hm X sP b8=>?_⟩
  .rw[Ag]at a7;obtain⟨k,ek,rfl⟩:=Cc.mp a7;obtain⟨U,S⟩:=(t k).mp (Am ek);obtain⟨W,hS⟩:=dJ U;have C:ps[k]?=some (ps[k]'(by ((try clear a6 b6 c4 c7 c9);omega))):=Aa _
   obtain⟨L,I⟩:∃L,d[k]?=some L:=⟨_,Aa W⟩;have O:=a4 _ _ (aM a5)
   have rm:=a4 _ _ (aM (sD _ _ (a2 k _ L C I)))
   have R:((L.map aV).map V.str).length=bU d k:=by unfold bU;rw[qK I,Ab,Ab]
   have Y:J.getD i 0=k:=by rw[Ac,ek];rfl
   change UX L2.bU (VC (VQ WW (VD 1) (VD 0)) V7) [some (V.int (k:Int)),some (V.ref a)] H2 _
   fail "g";refine bX O (v:=.ref (ps[k]'(by ((try clear R a6 b6 c4 c7 c9);omega)))) (aW (by rw[Ag,C];rfl)) ?_
   fail "g";rw[R,Y];exact⟨rfl,rfl⟩
  .rw[Ag]at hm;obtain⟨k,ek,rfl⟩:=Cc.mp hm;obtain⟨U,S⟩:=(t k).mp (Am ek);have Y:J.getD i 0=k:=by rw[Ac,ek];rfl
   refine q k H2 ⟨U,⟨n,hn,S⟩,λj W ej=>?_⟩ ((Z_.p (s5.trans sD)).trans sP) b8;obtain⟨u,hu⟩:=Fk.mp ((t j).mpr ⟨W,ej.trans S⟩);have b5:=(Ad.mp hu).1
   have h2:((bU d (J.getD u 0):Nat):Int)<=((bU d (J.getD i 0):Nat):Int):=X u (by rw[Ab];exact b5)
   rw[Y,show J.getD u 0=j by rw[Ac,hu];rfl]at h2
   ((try clear Y a6 b5 b6 c4 c6 c7 c9);omega)
def Rj(s:ZZ Pt H H')(l:dE Pt H)(h:Z4 H a=some xs):Z4 H' a=some xs:=Ui s h l.tb
def X0(s:ZZ Pt H H')(l:dE Pt H)(h:H a=some o)(c:∀b,o≠.tbl b):H' a=some o:=s a o (λz=>by
 obtain⟨b,e⟩:=l.tb;rw[z,e]at h;cases h;exact c _ rfl) h
def Kb(h:Yo H r mss)(s:ZZ Pt H H')(l:dE Pt H):Yo H' r mss:=by
 obtain⟨a,g,f,e⟩:=h;exact⟨a,X0 s l g (λ_=>nofun),f,λj p b c d=>X0 s l (e j p b c d) λ_=>nofun⟩
def Mr(h:ZF H r bk)(s:ZZ Pt H H')(l:dE Pt H):ZF H' r bk:=by
 obtain⟨a,g,f,e⟩:=h;exact⟨a,X0 s l g (λ_=>nofun),f,λj p b c d=>X0 s l (e j p b c d) λ_=>nofun⟩
def GQ(h:dE Pt H)(e:H p=some (.lst xs)):dE Pt (upd H p o):=by
 have a:∀b u,H b=some u->(∀z,u≠.lst z)->b≠p:=λb u h n y=>by grind
 rcases h with h|⟨c,f,d⟩
 .exact .inl (by rwa[aH (a _ _ h λ_=>nofun)])
 .exact .inr ⟨c,by rwa[aH (a _ _ f λ_=>nofun)],by rwa[aH (a _ _ d λ_=>nofun)]⟩
def Lu(a:H p=none)(s:ZZ Pt H H'):ZZ Pt H (upd H' p o):=λb u n e=>by rw[aH (λz=>by grind)];exact s b u n e
inductive WM (mss:List (List (List Nat))) (T:List (List Nat)):Nat->Nat->Prop
 |nil:WM mss T T.length 0
 |cons {i k n:Nat}:i<T.length->k∈dZ mss T i->WM mss T (i+bU mss k) n->WM mss T i (n+1)
def Mt(y:qT mss)(ok:YX mss T TB):∀d i,i+d=T.length->(∀n,WM mss T i n->∃m,m<=n/\TB.getD i none=some (m:Int))/\∀v,TB.getD i none=some v->∃n:Nat,v=(n:Int)/\WM mss T i n:=λd=>by
 induction d using Nat.strongRecOn with
 |ind d r=>
  intro i D;by_cases E:d=0
  .obtain rfl:i=T.length:=by omega
   refine⟨λn _=>⟨0,Ct _,ok.last⟩,λv g=>?_⟩;rw[ok.last]at g;cases g;exact⟨0,rfl,.nil⟩
  .have b:i<T.length:=by omega
   have c:∀k∈dZ mss T i,i+bU mss k<=T.length/\1<=bU mss k:=λk a=>by
    obtain⟨t,s⟩:=dJ a;exact⟨pU s (by (exact Nat.le_of_lt (by assumption))),(lW y t).1⟩
   have q:∀k∈dZ mss T i,∀m,TB.getD (i+bU mss k) none=some m->m∈Xp mss T TB i:=λk a m e=>Cq.mpr ⟨some m,Bb.mpr ⟨k,a,e⟩,rfl⟩
   refine⟨λn j=>?_,λv g=>?_⟩
   .cases j with
    |nil=>exact absurd b (De _)
    | @cons _ k n _ a j=>
     obtain⟨w,u⟩:=c k a;obtain⟨m,C,e⟩:=(r (T.length-(i+bU mss k)) (by ((try clear E b);omega)) (i+bU mss k) (by ((try clear E b u);omega))).1 n j
     rcases ok.row i b with⟨z,_⟩|⟨p,h,f,l⟩
     .have:=q k a _ e
      rw[z]at this;cases this
     .have t:=f _ (q k a _ e)
      have s:=ok.small i _ l
      refine⟨(1+p).toNat,by ((try clear D E b s u w);omega),?_⟩
      rw[l,Hj (by ((try clear C D E b t u w);omega))]
   .rcases ok.row i b with⟨_,z⟩|⟨p,h,f,l⟩
    .rw[g]at z;cases z
    .rw[g]at l;cases l;obtain⟨o,x,e⟩:=Cq.mp h;have B:=e
     obtain⟨k,a,A⟩:=Bb.mp x;obtain⟨w,u⟩:=c k a;obtain⟨n,F,j⟩:=(r (T.length-(i+bU mss k)) (by ((try clear E b);omega)) (i+bU mss k) (by ((try clear E b u);omega))).2 p (A.trans B)
     exact⟨n+1,by ((try clear D E b u w);omega),.cons b a j⟩
inductive sX(e:Addr)(h:List V)(H:Hp)(Q:VK)(zz3:XK):Prop|mk(a d b T n:_)(_:h=[.ref a,.str (cH T)])(_:ZF H a d)(_:d.length<=60)(_:cV d b)(_:1<=T.length)(_:T.length<=40)(_:(∀t∈T,fH t))(_:WM b T 0 n)(_:dE e H)(_:∀r g f c,H r=none->ZZ e H c->dE e c->c r=some (.lst (f.map λk=>V.int ((k:Nat):Int)))->YX b T g->Path b T g 0 f->Q (.ref r) c):sX e h H Q zz3
inductive Zn (mss:List (List (List Nat))) (T:List (List Nat)) (TB:List (Option Int)):Nat->List Nat->Prop
 |nil:Zn mss T TB 0 []
 |snoc {i k:Nat} {ks:List Nat}:i<T.length->Xc mss T TB i k->Zn mss T TB i ks->Zn mss T TB (i+bU mss k) (ks++[k])
def Zn.path(h:Zn mss T TB i ks):∀ {a:List Nat},Path mss T TB i a->Path mss T TB 0 (ks++a):=by
 induction h with
 |nil=>exact λh=>h
 |snoc e d _ b=>
  intro a c;rw[Fq];exact b (.cons e d c)
def Zn.len(hL:qT mss)(h:Zn mss T TB i ks):ks.length<=i:=by
 induction h with
 |nil=>exact Ai _
 | @snoc i k ks h1 h2 _ ih=>
  have:=(lW hL (dJ h2.st).1).1
  grind
def wS:Z9 ["book", "text", "terms", "meanings", "table", "numbers", "start", "number"] ["book", "text"] (aK pJ):=by fail "sc"
def KP(F:ZT K "cut_text" "cut_text" pJ f fd)(a9:ZR P w K mg base 3 "terms_of" ["text"] tJ)(a8:ZR P w K mg base 1 "meanings_of" ["book"] lG)(a7:ZR P w K mg base 2 "least_numbers" ["meanings", "terms"] jX)(a6:ZR P w K mg base 2 "longest_on" ["meanings", "terms", "table", "start"] (jB Pt)):Z8 P w K mg base ZS 4 f fd ["book", "text"] (sX Pt):=by
 refine F.ok wS (λvs H Q E h=>?_) (λd2 A b2 s H vs Q E hr h=>?_)
 .obtain⟨a,bk,b,T,n,rfl,_⟩:=h;rfl
 obtain⟨a,bk,b,T,n,rfl,Y,a5,O,h1,y,hT,l,X,q⟩:=h;refine⟨_,(@aD _ _ _ _ _ (aP 2 wS.nd (aU a9 hr (by decide) rfl (aA (mv 1) aB))) (@aD _ _ _ _ _ (aP 3 wS.nd (aU a8 hr (by decide) rfl (aA (mv 0) aB))) (@aD _ _ _ _ _ (aP 4 wS.nd (aU a7 hr (by decide) rfl (aA (mv 3) (aA (mv 2) aB)))) (@aD _ _ _ _ _ (cD (bA U_ (bD bN (mv 4) aJ (λ_ _=>rfl)) dG (bB _)) (@aI _ _ _ OK) bF) (@aD _ _ _ _ _ (aP 5 wS.nd (bO aB)) (@aD _ _ _ _ _ (aP 6 wS.nd aJ) (@aD _ _ _ _ _ (wZ Bl (bA xS (mv 6) (aY cO rfl G.b_len bR (aA (mv 2) aB)) (bB _)) (@aD _ _ _ _ _ (aP 7 wS.nd (aU a6 hr (by decide) rfl (aA (mv 3) (aA (mv 2) (aA (mv 4) (aA (mv 6) aB)))))) (@aD _ _ _ _ _ (bW (cM Bg Ec Ed yS (mv 5) (aA (mv 7) aB))) (@aI _ _ _ (aP 6 wS.nd (aR bQ (mv 6) (aY cO rfl G.b_len bR (aA (bD bN (mv 3) (mv 7) (λ_ _=>rfl)) aB)))))))) (@aI _ _ _ (aT (mv 5)))))))))),?_⟩
 have Z:=TL O a5
 fail "g";refine⟨T,rfl,h1,y,hT,λrt H1 b6 s1 t=>?_⟩;fail "g";refine⟨a,bk,b,rfl,Y.keep s1,a5,O,λrm H2 b7 s2 x=>?_⟩;fail "g";refine⟨rm,rt,b,T,rfl,x,Z,s2 _ _ t,y,λtb C H3 b4 s3 e3 ok=>?_⟩;obtain⟨m,b8,em⟩:=(Mt Z ok T.length 0 (by ((try clear a5 h1 y);omega))).1 n l
 have r:=s1.trans (s2.trans s3)
 have b5:=s3 _ _ (s2 _ _ t)
 have S:=x.keep s3
 have B:=X.keep r
 clear l b8 Y s2 b7 x t b6 b4;fail "g";refine bX (aM e3) (v:=.int (m:Int)) (by rw[show (0:Int)=((0:Nat):Int) from rfl,UD (by rw[ok.len];((try clear a5);omega)),em];rfl) ?_
 fail "g";refine⟨by decide,λd u=>?_⟩
 have s4:=aG u (.lst [])
 have e4:(upd H3 d (.lst [])) d=some (.lst ((([]:List Nat)).map λk=>V.int ((k:Nat):Int))):=aE
 generalize upd H3 d (.lst [])=H4 at s4 e4 ⊢;have b3:((T.map aV).map V.str).length=T.length:=by rw[Ab,Ab]
 have M:=none_of r u
 fail "g";refine⟨λm U o=>∃(i:Nat) (c:List Nat) (z:Option V),U=[some (.ref a),some (.str (cH T)),some (.ref rt),some (.ref rm),some (.ref tb),some (.ref d),some (.int (i:Int)),z]/\m+i=T.length/\ZZ Pt H3 o/\dE Pt o/\o d=some (.lst (c.map λk=>V.int ((k:Nat):Int)))/\Zn b T C i c/\∃v,C.getD i none=some v,
  ⟨T.length,0,[],_,rfl,rfl,Z_.p s4,B.keep s4,e4,.nil,_,em⟩,?_⟩
 rintro m0 U H5 ⟨i,c,z,rfl,hi,J,l5,e5,hp,v,ev⟩;have L:=X0 J B b5 (λ_=>nofun)
 have c1:=Kb S J B
 have c4:=X0 J B e3 λ_=>nofun
 have c5:=aM L
 have c7:=hp.len Z
 fail "g";rw[b3];refine eJ (λhg=>?_) (λhg=>?_)
 .have W:i<T.length:=by have:=Az hg;((try clear a5 c7 h1 y);omega)
  refine⟨λU' o=>∃j c z,i<j/\j<=T.length/\U'=[some (.ref a),some (.str (cH T)),some (.ref rt),some (.ref rm),some (.ref tb),some (.ref d),some (.int (j:Int)),z]/\ZZ Pt H3 o/\dE Pt o/\o d=some (.lst (c.map λk=>V.int ((k:Nat):Int)))/\Zn b T C j c/\∃v,C.getD j none=some v,λU' o ⟨j,c,z,a1,a2,a3,a4⟩=>⟨T.length-j,by ((try clear W a5 c7 h1 y);omega),j,c,z,a3,by ((try clear W a1 a5 c7 h1 y);omega),a4⟩,?_⟩
  fail "g";refine⟨rm,rt,tb,b,T,C,i,v,rfl,c1,Z,L,y,c4,ok,W,ev,l5,λk H6 hb D l6=>?_⟩;have I:=J.trans D
  have e6:=X0 D l5 e5 λ_=>nofun
  have c8:=bL e6
  obtain⟨ps,p1,p2,p3⟩:=id S;obtain⟨hk,hS⟩:=dJ hb.st;have c2:=pU hS (by (exact Nat.le_of_lt (by assumption)))
  have d1:=(lW Z hk).1
  have c9:(c.map λk=>V.int ((k:Nat):Int)).length<=40:=by rw[Ab];((try clear a5 c2 d1 hk p2);omega)
  obtain⟨n',en,c3⟩:=hb.one;have N:ps[k]?=some (ps[k]'(by ((try clear W a5 b3 c2 c7 c9 d1 h1 hi y);omega))):=Aa _
  obtain⟨ms,R⟩:∃ms,b[k]?=some ms:=⟨_,Aa hk⟩;have b9:((ms.map aV).map V.str).length=bU b k:=by unfold bU;rw[qK R,Ab,Ab]
  fail "g";have e:ZZ Pt H3 (upd H6 d (.lst ((c.map λk=>V.int ((k:Nat):Int))++[V.int (k:Int)]))):=Lu u I
  have l7:dE Pt (upd H6 d (.lst ((c.map λk=>V.int ((k:Nat):Int))++[V.int (k:Int)]))):=GQ l6 e6
  have e7:(upd H6 d (.lst ((c.map λk=>V.int ((k:Nat):Int))++[V.int (k:Int)]))) d=some (.lst ((c++[k]).map λk=>V.int ((k:Nat):Int))):=by rw[aE,Ap];rfl
  generalize upd H6 d (.lst ((c.map λk=>V.int ((k:Nat):Int))++[V.int (k:Int)]))=H7 at e l7 e7 ⊢;have b1:=Rj e B (aM p1)
  have c6:=Rj e B (aM (p3 k _ ms N R))
  refine bX b1 (v:=.ref (ps[k]'(by ((try clear W a5 b3 b9 c2 c7 c9 d1 h1 hi y);omega)))) (aW (by rw[Ag,N];rfl)) ?_
  fail "g";rw[b9];exact⟨i+bU b k,c++[k],_,by ((try clear W a5 b3 c2 c7 c9 h1 hi hk p2 y);omega),c2,rfl,e,l7,e7,.snoc W hb hp,_,c3⟩
 .fail "g";obtain rfl:i=T.length:=by rw[Bp]at hg;((try clear a5 c7 h1 y);omega)
  exact q d C c H5 M ((Z_.p r).trans J) l5 e5 ok (by have:=hp.path .nil;rw[Bs]at this;exact this)
def lR(c:Addr):Sp:=λd H Q _=>∃a v,d=[.ref a,v]/\H a=some (eV a c none)/\∀b,H b=none->Q .non (upd (upd H a (eV a c (some b))) b (YS b [("at",v)]))
def uI:Z9 ["self", "at"] ["self", "at"] (aK jE):=by fail "sc"
def wN(F:ZT K "__init__" "NoWord.__init__" jE f fd):Z8 P w K mg base ZS 1 f fd ["self", "at"] (lR Zu):=by
 refine F.ok uI (λd H Q E h=>?_) (λe A a s H d Q E i h=>?_)
 .obtain⟨b,v,rfl,_⟩:=h;rfl
 obtain⟨b,v,rfl,c,q⟩:=h;refine⟨_,(@aD _ _ _ _ _ (bW (vQ rfl G.c_TowerError G.t1_TowerError G.t2_TowerError G.t3_TowerError (aA (mv 0) (aA (mv 1) aB)))) (@aI _ _ _ (tX (mv 0) (mv 1) rfl))),?_⟩;refine⟨b,[v],Zu,Zz,none,rfl,r0,c,(λ_ z=>nomatch z),G.Yv,?_⟩
 exact⟨b,Zu,Zz,rfl,G.Yv,G.xn_NoWord_at,.inl ⟨c,q⟩⟩
def vJ:Sp:=λa H Q _=>∃c,a=[.str (one c)]/\aX c/\Q (.int ((c-97:Nat):Int)) H
def wK:Sp:=λb H Q _=>∃z,b=[.str z]/\z.length<=1000/\∀a,Z_ H a->Q (.bl (pI z)) a
def jI:Sp:=λc H Q _=>∃b,(c=[.str (aV b)]\/∃a,c=[.ref a]/\Z4 H a=some ((b.map one).map V.str))/\b.length<=1000/\(∀d∈b,aX d)/\∀e,Z_ H e->Q (.bl (hV b)) e
def oK:Sp:=λc H Q _=>∃a,c=[.str (aV a)]/\a.length<=7/\(∀d∈a,aX d)/\∀b,Z_ H b->Q (.bl (Ws a)) b
def Lc:Z9 ["letter"] ["letter"] (aK rL):=by fail "sc"
def FI(F:ZT K "rank_of" "rank_of" rL f fd):Z8 P w K mg base ZS 1 f fd ["letter"] vJ:=by
 refine F.ok Lc (λb H Q E h=>?_) (λe A a s H b Q E i h=>?_)
 .obtain⟨c,rfl,_⟩:=h;rfl
 obtain⟨c,rfl,d,q⟩:=h;refine⟨_,(@aI _ _ _ (aT (cM Dy PySem.F.slot_str_index PySem.F.type_str_index Kl (eQ rfl G.s_LETTERS) (aA (mv 0) aB)))),?_⟩;fail "g";exact AX (Cw d) q
def Ju:Z9 ["text"] ["text"] (aK rZ):=by fail "sc"
def L4(F:ZT K "is_word" "is_word" rZ f fd):Z8 P w K mg base ZS 1 f fd ["text"] wK:=by
 refine F.ok Ju (λk H Q E h=>?_) (λt A a s H k Q E v h=>?_)
 .obtain⟨z,rfl,_⟩:=h;rfl
 obtain⟨z,rfl,x,q⟩:=h;refine⟨_,(@aD _ _ _ _ _ (cD (PW.pt (sQ (bA xS (aY cO rfl G.b_len bR (aA (mv 0) aB)) aJ (bB _)) (lZ (bA We (aY cO rfl G.b_len bR (aA (mv 0) aB)) (qR rfl G.s_MOST_PLACES) (bB _))))) (@aI _ _ _ (aT lK)) bF) (@aI _ _ _ (aT (aY (Ul rfl) rfl G.b_all Ug (aA (cL rfl (mF (mv 0)) (iI (N:=["sign"]) (by decide +kernel) (by decide +kernel)) (by decide +kernel) rfl (by decide +kernel) (λ_ _ _ _=>(bC (i:=0) (show List.Nodup (["sign"]:List Str) by decide +kernel) rfl (Or.inl rfl))) (λ_ _ _ _=>cX) (λ_ _ _ _=>(gC Vf (mv 0) (eQ rfl G.s_LETTERS) (by rfl)))) aB))))),?_⟩
 fail "g";refine eJ (λj=>?_) (λj=>?_)
 .fail "g";have e:pI z=false:=if_pos (.inl (by have:=Az j;omega))
  have r:=q H (Z_.refl H)
  rwa[e]at r
 .have d:=Bq (Br.mpr j)
  fail "g";refine eJ (λb=>?_) (λb=>?_)
  .fail "g";have e:pI z=false:=if_pos (.inr (by have:=Az b;omega))
   have r:=q H (Z_.refl H)
   rwa[e]at r
  .have m:=Bq (Br.mpr b)
   fail "g";refine Ti (λc=>some (.bl (decide (c∈Z5.cps.toList)))) (bG (by (exact Nat.le_trans (by assumption) (by decide)))) (λi c u A B d o=>?_) (λD n=>?_)
   .fail "g";refine⟨Wk.set rfl (Wk.refl _),?_⟩;fail "g";have e:subIn ⟨#[c]⟩ Z5=decide (c∈Z5.cps.toList):=nI _ _
    show A (.bl (subIn ⟨#[c]⟩ Z5)) u
    rwa[e]
   .fail "g";have e:z.cps.toList.filterMap (λc=>some (V.bl (decide (c∈Z5.cps.toList))))=(z.cps.toList.map λc=>decide (c∈Z5.cps.toList)).map V.bl:=by
     rw[Cd];exact kU _ _
    rw[e];have l:Z_ H (upd H D (.lst ((z.cps.toList.map λc=>decide (c∈Z5.cps.toList)).map V.bl))):=aG n _
    refine Uk (bs:=z.cps.toList.map λc=>decide (c∈Z5.cps.toList)) cG ?_;have p:pI z=(z.cps.toList.map λc=>decide (c∈Z5.cps.toList)).all id:=by
     unfold pI Te;rw[if_neg (by omega),Ir]
     rfl
    have r:=q _ l
    rwa[p]at r
noncomputable def Xa(cs:List Nat)(i:Nat):Int:=((1+i:Nat):Int)*((cs.getD i 0-97:Nat):Int)
def P1(g:cs.length<=1000)(f:∀d∈cs,aX d):∀n∈(List.range cs.length).map (Xa cs),0<=n/\n<=1000000:=λn b=>by
 obtain⟨i,c,rfl⟩:=Bb.mp b;have a:=Bu.mp c
 have e:=mK f a
 unfold aX at e;unfold Xa;have h:_*((cs.getD i 0-97:Nat):Int)<=((1+i:Nat):Int)*22:=Int.mul_le_mul_of_nonneg_left (by ((try clear a g);omega)) (by (exact Int.natCast_nonneg _))
 exact⟨Int.mul_nonneg (by (exact Int.natCast_nonneg _)) (by (exact Int.natCast_nonneg _)),by omega⟩
def RO:Z9 ["letters", "weighed"] ["letters"] (aK kP):=by fail "sc"
def xR(F:ZT K "is_divided" "is_divided" kP f fd)(L:ZR P w K mg base 1 "rank_of" ["letter"] vJ):Z8 P w K mg base ZS 2 f fd ["letters"] jI:=by
 refine F.ok RO (λR H Q E h=>?_) (λa1 A v s H R Q E M h=>?_)
 .obtain⟨b,rfl|⟨a,rfl,_⟩,_⟩:=h<;>rfl
 obtain⟨b,W,Y,u,q⟩:=h;have t:∀D d,Z_ H d->Z4 d D=some (((List.range b.length).map (Xa b)).map V.int)->∀J,(J (.int (jU b b.length)) d)->SD [.ref D] d J:=λD d l C J T=>
  PL C (P1 Y u) (by rw[Ab,Bf];(exact Nat.le_trans (by assumption) (by decide))) T
 have O:∀G,(∀i,i<b.length->G i=some (V.int (Xa b i)))->(List.range b.length).filterMap G=((List.range b.length).map (Xa b)).map V.int:=λG hG=>by
  rw[Cd,<-kU];exact jT λi m=>hG i (Bu.mp m)
 rcases W with rfl|⟨a,rfl,Z⟩
 .refine⟨_,(@aD _ _ _ _ _ (fK (i:=1) RO.nd rfl (Or.inl rfl) rfl (NM rfl G.b_enumerate (aA (mv 0) aB) (uG aJ TV)) (iI (N:=["place", "letter"]) (by decide +kernel) (by decide +kernel)) (by decide +kernel) rfl (by decide +kernel) (λ_ _ _ _=>(eP (K:=K) (i:=0) (j:=1) (by rfl) (by rfl) (show List.Nodup (["place", "letter"]:List Str) by decide +kernel) (by rfl) (by exact Or.inl rfl) (by exact Or.inr rfl) (by rfl) (by exact Or.inl rfl) (Or.inr rfl))) (λ_ _ _ _=>cX) (λ_ _ _ _=>(aR lM (mv 0) (aU L M (by decide) rfl (aA (mv 1) aB))))) (@aI _ _ _ (aT (gC mV (aR dC (aY (SX rfl) rfl G.b_sum Tj (aA (mv 1) aB)) (aY cO rfl G.b_len bR (aA (eQ rfl G.s_LETTERS) aB))) aJ (bB _))))),?_⟩
  fail "g";refine⟨⟨by (exact Int.natCast_nonneg _),by (exact Int.natCast_nonneg _)⟩,Hf u,?_⟩
  refine Nd (k:=1) (λi c=>some (V.int (((1+i:Nat):Int)*((c-97:Nat):Int)))) (by rw[cU];exact bG (by (exact Nat.le_trans (by assumption) (by decide)))) (λi c Hc p A B y S X I=>?_) (λD d C l n=>?_)
  .have m:=(Ad.mp y).1
   rw[cS]at m;fail "g";refine⟨Wk.set rfl (Wk.set rfl (Wk.refl _)),?_⟩;fail "g";refine⟨c,rfl,u c (by rw[cS]at y;exact Am y),?_⟩
   fail "g";exact I _ (Z_.refl _)
  .rw[cU,cS]at n;rw[O (λi=>some (V.int (((1+i:Nat):Int)*((b.getD i 0-97:Nat):Int)))) (λi _=>rfl)]at n;fail "g";refine t D d l n _ ?_;fail "g";have r:=q d l
   exact r
 .refine⟨_,(@aD _ _ _ _ _ (fK (i:=1) RO.nd rfl (Or.inl rfl) rfl (NM rfl G.b_enumerate (aA (mv 0) aB) (uG aJ TV)) (iI (N:=["place", "letter"]) (by decide +kernel) (by decide +kernel)) (by decide +kernel) rfl (by decide +kernel) (λ_ _ _ _=>(eP (K:=K) (i:=0) (j:=1) (by rfl) (by rfl) (show List.Nodup (["place", "letter"]:List Str) by decide +kernel) (by rfl) (Or.inl rfl) (Or.inr rfl) (by rfl) (Or.inl rfl) (Or.inr rfl))) (λ_ _ _ _=>cX) (λ_ _ _ _=>(aR lM (mv 0) (aU L M (by decide) rfl (aA (mv 1) aB))))) (@aI _ _ _ (aT (gC mV (aR dC (aY (SX rfl) rfl G.b_sum Tj (aA (mv 1) aB)) (aY cO rfl G.b_len bR (aA (eQ rfl G.s_LETTERS) aB))) aJ (bB _))))),?_⟩
  fail "g";refine⟨⟨by (exact Int.natCast_nonneg _),by (exact Int.natCast_nonneg _)⟩,?_⟩
  fail "g";refine SH (k:=1) (xs:=(b.map one).map V.str) (λi x=>match x with|.str z=>some (V.int (((1+i:Nat):Int)*((mP z-97:Nat):Int)))|_=>none) Z (by rw[Ab,Ab];exact bG (by (exact Nat.le_trans (by assumption) (by decide)))) (λi x Hc p A B U S X I=>?_) (λD d C l n=>?_)
  .obtain⟨z,o,rfl⟩:=iK U;rw[Ag]at o;cases e:b[i]? with
   |none=>rw[e]at o;cases o
   |some c=>
    have m:=(Ad.mp e).1
    rw[e]at o;cases o;fail "g";refine⟨Wk.set rfl (Wk.set rfl (Wk.refl _)),?_⟩;fail "g";refine⟨c,rfl,u c (Am e),?_⟩;fail "g";exact I _ (Z_.refl _)
  .rw[Ab,Ab,O _ (λi m=>?_)]at n
   .fail "g";refine t D d l n _ ?_;fail "g";have r:=q d l
    exact r
   .have e:((b.map one).map V.str).getD i .non=.str (one (b.getD i 0)):=by
     rw[Ac,Ag,Ag,Ac,Aa m];rfl
    rw[e];rfl
def yK:Z9 ["word"] ["word"] (aK kJ):=by fail "sc"
def yE(F:ZT K "is_checked" "is_checked" kJ f fd)(b:ZR P w K mg base 1 "is_word" ["text"] wK)(t:ZR P w K mg base 2 "is_divided" ["letters"] jI):Z8 P w K mg base ZS 3 f fd ["word"] oK:=by
 refine F.ok yK (λo H Q E h=>?_) (λx A d s H o Q E k h=>?_)
 .obtain⟨a,rfl,_⟩:=h;rfl
 obtain⟨a,rfl,v,m,q⟩:=h;refine⟨_,(@aI _ _ _ (aT (UM (aU b k (by decide) rfl (aA (mv 0) aB)) (UM (gC We (aY cO rfl G.b_len bR (aA (mv 0) aB)) aJ (bB _)) (Tn (aU t k (by decide) rfl (aA (mv 0) aB))))))),?_⟩
 have e:=cU a
 fail "g";refine⟨_,rfl,by (exact Nat.le_trans (by assumption) (by decide)),λn c=>?_⟩
 rw[KH m v];fail "g";refine eJ (λl=>?_) (λl=>?_)
 .fail "g";rw[e];refine eJ (λj=>?_) (λj=>?_)
  .have i:=Az j
   fail "g";refine⟨a,.inl rfl,by (exact Nat.le_trans (by assumption) (by decide)),m,λy p=>?_⟩
   have r:=q y (c.trans p)
   unfold Ws at r;rw[Ao (by omega),Bool.true_and]at r
   exact r
  .have i:=Bq (Br.mpr j)
   have r:=q n c
   unfold Ws at r;rw[Aw (by omega),Hw]at r
   exact r
 .have u:=Bq (Br.mpr l)
  have r:=q n c
  unfold Ws at r;rw[Aw (by omega),Hw]at r
  exact r
noncomputable def nZ(cs:List Nat)(k:Nat):List V:=((cs.map one).map V.str).set k .non
def L9(a:k<cs.length):(nZ cs k).take k=((cs.take k).map one).map V.str:=by
 unfold nZ;rw[List.take_set_of_le (Ai _),<-Gq,<-Gq]
def Ms:(nZ cs k).drop (k+1)=((cs.drop (k+1)).map one).map V.str:=by
 unfold nZ;rw[List.drop_set_of_lt (by omega),<-Fy,<-Fy]
def IG:(nZ cs k).all cA=true:=by
 rw[Bz];intro x a;rcases El a with h|h
 .obtain⟨z,_,rfl⟩:=Bb.mp h;rfl
 .rw[h];rfl
def JD(a:k<cs.length):(nZ cs k)[k]?=some .non:=by
 unfold nZ;simp_all
def M9:∀i y,i<k->(nZ cs k)[i]?=some y->y≠.non:=λi y b a=>by
 unfold nZ at a;rw[Ee (by (exact Nat.ne_of_gt (by assumption))),Ag]at a
 grind
def EZ(a:k<cs.length):((cs.take k).map one).map V.str++[V.str (one d)]++((cs.drop (k+1)).map one).map V.str=((cs.set k d).map one).map V.str:=by
 rw[List.set_eq_take_append_cons_drop,if_pos a,Ap,Ap,As,As,Fq];rfl
def NC(g:cs.length<=7)(f:∀d∈cs,aX d){k d c:Nat}(a:k<cs.length)(b:aX d)(h:hV (cs.set k d)=true)(e:aX c):hV (cs.set k c)=decide (c=d):=by
 have q:=JK  (by simp_all) (Rh f b) (k:=k)  (by simp_all) e h
 simp_all
def Ji(g:Nat->β){F:Nat->Bool}(a:aX d)(h:∀c,aX c->F c=decide (c=d)):Z5.cps.toList.filterMap (λc=>if F c=true then some (g c) else none)=[g d]:=by
 have q:∀k:_root_.Fin 23,Z5.cps.toList.filterMap (λc=>if c=97+k.val then some c else none)=[97+k.val]:=by decide +kernel
 unfold aX at a;have e:=q ⟨d-97,by omega⟩
 simp only[show 97+(d-97)=d by omega]at e
 have f:Z5.cps.toList.filterMap (λc=>if F c=true then some (g c) else none)=(Z5.cps.toList.filterMap (λc=>if c=d then some c else none)).map g:=by
  rw[List.map_filterMap];refine jT λc b=>?_;rw[h c (ZP.mp b)];by_cases z:c=d
  .rw[if_pos (Ao z),if_pos z];rfl
  .rw[if_neg (by rw[Aw z];exact Ar),if_neg z];rfl
 rw[f,e];rfl
def mU{x:Nat}:(cs++[x]).set cs.length d=cs++[d]:=by grind
def LF:(cs.map one).map V.str++[V.non]=nZ (cs++[97]) cs.length:=by
 unfold nZ;simp_all
def wB(e:∀d∈cs,aX d){c:Nat}(b:aX c):∀d∈cs++[c],aX d:=λd a=>by grind
def zG(g:cs.length<=6)(e:∀d∈cs,aX d){c:Nat}(a:aX d)(h:hV (cs++[d])=true)(b:aX c):hV (cs++[c])=decide (c=d):=by
 have f:(cs++[97]).length=cs.length+1:=by rw[Af];rfl
 have q:=NC (cs:=cs++[97]) (by omega) (wB e (by decide)) (k:=cs.length)   (by ((try clear g);omega)) a (by rwa[mU]) b
 rwa[mU]at q
noncomputable def YV(cs:List Nat):Nat:=(Z5.cps.toList.find? λd=>hV (cs++[d])).getD 0
def S_(j:cs.length<=6)(i:∀d∈cs,aX d)(b:aX d)(h:hV (cs++[d])=true):YV cs=d:=by
 unfold YV;cases e:Z5.cps.toList.find? λd=>hV _ with
 |none=>exact absurd h (by have:=List.find?_eq_none.mp e d (ZP.mpr b);exact this)
 |some c=>
  have f:=ZP.mp (List.mem_of_find?_eq_some e)
  have r:=zG j i b h f
  grind
def Oy(e:cs.length<=6)(c:∀d∈cs,aX d):aX (YV cs)/\hV (cs++[YV cs])=true:=by
 obtain⟨d,b,a⟩:=vA (cs:=cs++[97]) (by simp_all) (k:=cs.length) (by simp_all)
 rw[mU]at a;rw[S_ e c b a];exact⟨b,a⟩
def jW:Sp:=λe H Q _=>∃a b k,e=[.ref a]/\Z4 H a=some (nZ b k)/\k<b.length/\b.length<=7/\(∀d∈b,aX d)/\
 ∀d c,Z_ H c->aX d->hV (b.set k d)=true->Q (.str (one d)) c
def j6:Z9 ["letters", "at", "ahead", "behind"] ["letters"] (aK eT):=by fail "sc"
def rM(F:ZT K "hidden_letter" "hidden_letter" eT f fd)(o4:ZR P w K mg base 2 "is_divided" ["letters"] jI):Z8 P w K mg base ZS 3 f fd ["letters"] jW:=by
 refine F.ok j6 (λvs H Q E h=>?_) (λa2 A L s H vs Q E O h=>?_)
 .obtain⟨a,b,k,rfl,_⟩:=h;rfl
 obtain⟨a,b,k,rfl,ha,o,h7,hL,q⟩:=h;refine⟨_,(@aD _ _ _ _ _ (aP 1 j6.nd (cM Bg Gh PySem.F.type_list_index Ml (mv 0) (aA dG aB))) (@aD _ _ _ _ _ (aP 2 j6.nd (iJ Vt (mv 0) RV (fI (mv 1)))) (@aD _ _ _ _ _ (aP 3 j6.nd (iJ Vt (mv 0) (fI (aR bQ (mv 1) aJ)) RV)) (@aI _ _ _ (aT (bD bN (cL rfl (mF (eQ rfl G.s_LETTERS)) (gF (N:=["letter", "behind", "ahead"]) ["letters", "at", "ahead", "behind"] (aK eT) [none,some 3,some 2] rfl rfl rfl (λx h=>cC h) (by decide +kernel)) (by decide +kernel) rfl (by decide +kernel) (λ_ _ _ _=>(bC (i:=0) (show List.Nodup (["letter", "behind", "ahead"]:List Str) by decide +kernel) rfl (Or.inl rfl))) (λ_ _ _ _=>(iZ (gH (aU o4 O (by decide) rfl (aA (aR bQ (aR bQ (mv 2) (bO (aA (mv 0) aB))) (mv 1)) aB))))) (λ_ _ _ _=>(mv 0))) aJ (λ_ _=>rfl))))))),?_⟩
 fail "g";refine IF ha IG (JD o) M9 ?_;fail "g";intro r O;rw[GW (by (exact Int.natCast_nonneg _)),show ((k:Nat):Int).toNat=k from rfl,L9 o]
 have J:Z_ H (upd H r (.lst (((b.take k).map one).map V.str))):=aG O _
 have m1:gO (upd H r (.lst (((b.take k).map one).map V.str))) r=some (((b.take k).map one).map V.str):=dY
 have e1:(upd H r (.lst (((b.take k).map one).map V.str))) r=some (.lst (((b.take k).map one).map V.str)):=aE
 generalize upd H r (.lst (((b.take k).map one).map V.str))=C at J m1 e1 ⊢;have a1:=aO J ha
 fail "g";intro j M;rw[Kd (by (exact Int.natCast_nonneg _)),show ((k:Nat)+1:Int).toNat=k+1 by ((try clear h7 o);omega),Ms]
 have I:Z_ C (upd C j (.lst (((b.drop (k+1)).map one).map V.str))):=aG M _
 have e2:(upd C j (.lst (((b.drop (k+1)).map one).map V.str))) j=some (.lst (((b.drop (k+1)).map one).map V.str)):=aE
 generalize upd C j (.lst (((b.drop (k+1)).map one).map V.str))=H2 at I e2 ⊢;have W:=I _ _ e1
 fail "g";obtain⟨d,S,p⟩:=vA h7 o;have lt:(((b.take k).map one).map V.str).length<=7:=by rw[Ab,Ab,Bt];omega
 have ld:(((b.drop (k+1)).map one).map V.str).length<=7:=by rw[Ab,Ab,Ce];((try clear lt);omega)
 refine Rv (λc=>if hV (b.set k c)=true then some (V.str (one c)) else none) (bG (by decide)) (λi c u A B U X hA=>?_) (λD Hd hD sD t=>?_)
 .have T:=ZP.mp (Am U)
  fail "g";refine⟨Wk.set rfl (Wk.refl _),?_⟩;fail "g";refine⟨r0,λm e=>?_⟩
  have c1:=X _ _ W
  have c2:=X _ _ e2
  have n1:=bI c1 e
  have n2:=bI c2 e
  fail "g";refine jK (xs:=((b.take k).map one).map V.str) (ys:=[V.str (one c)]) (by rw[uC n1];exact bL c1) dY (bM (by show _+1<=_;(exact Nat.lt_of_le_of_lt (by assumption) (by decide)))) λl Z=>?_
  have c3:(upd (upd u m (.lst [V.str (one c)])) l (.lst (((b.take k).map one).map V.str++[V.str (one c)]))) j=some (.lst (((b.drop (k+1)).map one).map V.str)):=aG Z _ _ _ (aG e _ _ _ c2)
  fail "g";refine jK (xs:=((b.take k).map one).map V.str++[V.str (one c)]) (ys:=((b.drop (k+1)).map one).map V.str) dY (bL c3) (bM (by rw[Af];show _+1+_<=_;((try clear h7 n1 n2 o);omega))) λn R=>?_
  rw[EZ o];have Y:Z_ u (upd (upd (upd u m (.lst [V.str (one c)])) l (.lst (((b.take k).map one).map V.str++[V.str (one c)]))) n (.lst (((b.set k c).map one).map V.str))):=(aG e _).trans ((aG Z _).trans (aG R _))
  have c5:Z4 (upd (upd (upd u m (.lst [V.str (one c)])) l (.lst (((b.take k).map one).map V.str++[V.str (one c)]))) n (.lst (((b.set k c).map one).map V.str))) n=some (((b.set k c).map one).map V.str):=cG
  generalize upd (upd (upd u m (.lst [V.str (one c)])) l (.lst (((b.take k).map one).map V.str++[V.str (one c)]))) n (.lst (((b.set k c).map one).map V.str))=H5 at Y c5 ⊢;fail "g";refine⟨b.set k c,.inr ⟨n,rfl,c5⟩,by rw[Cy];(exact Nat.le_trans (by assumption) (by decide)),Rh hL T,λH6 s6=>?_⟩
  have y:=hA H6 (Y.trans s6)
  fail "g";by_cases z:hV (b.set k c)=true
  .rw[if_pos z]at y;rw[if_pos z];fail "g";exact y
  .rw[if_neg z]at y;rwa[if_neg z]
 .rw[show (Str.ofString "abcdefghijklmnopqrstuvw").cps.toList.filterMap (λc=>if hV (b.set k c)=true then some (V.str (one c)) else none)=[V.str (one d)] from Ji (λc=>V.str (one c)) S λc U=>NC h7 hL o S p U]at t
  fail "g";refine bX (aM t) (v:=V.str (one d)) rfl ?_;exact q d Hd (J.trans (I.trans sD)) S p
def sT:Sp:=λc H Q _=>∃a,c=[.str (aV a)]/\1<=a.length/\a.length<=6/\(∀d∈a,aX d)/\∀d b,Z_ H b->aX d->hV (a++[d])=true->Q (.str (one d)) b
def JR:Z9 ["word"] ["word"] (aK oY):=by fail "sc"
def IH(F:ZT K "check_of" "check_of" oY f fd)(e:ZR P w K mg base 3 "hidden_letter" ["letters"] jW):Z8 P w K mg base ZS 4 f fd ["word"] sT:=by
 refine F.ok JR (λo H Q E h=>?_) (λD A i s H o Q E j h=>?_)
 .obtain⟨a,rfl,_⟩:=h;rfl
 obtain⟨a,rfl,M,L,B,q⟩:=h;refine⟨_,(@aI _ _ _ (aT (aU e j (by decide) rfl (aA (aR bQ (bS (HJ rfl) rfl G.b_list dW (aA (mv 0) aB)) (bO (aA dG aB))) aB)))),?_⟩
 have v:=cU a
 fail "g";intro r j;have C:(aV a).cps.toList.map (λc=>V.str ⟨#[c]⟩)=(a.map one).map V.str:=by rw[cS,Cd];rfl
 rw[C];fail "g";refine⟨r0,λp k=>?_⟩
 have u:r≠p:=λz=>by rw[<-z,aE]at k;cases k
 refine jK (xs:=(a.map one).map V.str) (ys:=[V.non]) (by rw[uC u];exact dY) dY (bM (by rw[Ab,Ab];show _+1<=_;(exact Nat.lt_of_le_of_lt (by assumption) (by decide)))) λl x=>?_
 rw[LF];have m:Z_ H (upd (upd (upd H r (.lst ((a.map one).map V.str))) p (.lst [V.non])) l (.lst (nZ (a++[97]) a.length))):=(aG j _).trans ((aG k _).trans (aG x _))
 have n:Z4 (upd (upd (upd H r (.lst ((a.map one).map V.str))) p (.lst [V.non])) l (.lst (nZ (a++[97]) a.length))) l=some (nZ (a++[97]) a.length):=cG
 generalize upd (upd (upd H r (.lst ((a.map one).map V.str))) p (.lst [V.non])) l (.lst (nZ (a++[97]) a.length))=N at m n ⊢;fail "g";have J:(a++[97]).length=a.length+1:=by rw[Af];rfl
 refine⟨l,a++[97],a.length,rfl,n,by ((try clear L M u);omega),by ((try clear u);omega),wB B (by decide),λd I t y b=>?_⟩
 rw[mU]at b;exact q d I (m.trans t) y b
def jN:Sp:=λc H Q _=>∃a,c=[.str (aV a)]/\1<=a.length/\a.length<=6/\(∀d∈a,aX d)/\∀b,Z_ H b->aX (YV a)->hV (a++[YV a])=true->Q (.str (aV (a++[YV a]))) b
def yC:Z9 ["word"] ["word"] (aK kZ):=by fail "sc"
def yO(F:ZT K "with_check" "with_check" kZ f fd)(G:Gs K mg w Zs Zz Zt Zx Z0 Zw Zy Zu Zv)(c:ZR P w K mg base 4 "check_of" ["word"] sT):Z8 P w K mg base ZS 5 f fd ["word"] jN:=by
 refine F.ok yC (λm H Q E h=>?_) (λv A i s H m Q E p h=>?_)
 .obtain⟨b,rfl,_⟩:=h;rfl
 obtain⟨b,rfl,u,l,k,q⟩:=h;refine⟨_,(@aI _ _ _ (aT (aR bQ (mv 0) (aU c p (by decide) rfl (aA (mv 0) aB))))),?_⟩
 have o:=cU b
 refine⟨b,rfl,u,l,k,λd x n j a=>?_⟩;have e:=S_ l k j a
 fail "g";have r:=q x n
 rw[e]at r;rw[jQ];exact r j a
def DZ(j:qT mss)(h:∀k,i<k->TB.getD k none=TC.getD k none)(c:tH mss T TB i)(f:tH mss T TC i):TB.getD i none=TC.getD i none:=by
 unfold tH Xp at c f;rw[sI j h]at c;grind
def Ry(h:qT mss)(b:YX mss T TB)(a:YX mss T TC):TB=TC:=by
 have c:∀n i,T.length<=i+n->TB.getD i none=TC.getD i none:=λn=>by
  induction n with
  |zero=>
   intro i c;by_cases e:i=T.length
   .rw[e,b.last,a.last]
   .rw[Ac,Ac,Em (by rw[b.len];omega),Em (by rw[a.len];omega)]
  |succ n d=>
   intro i c;by_cases e:T.length<=i+n
   .exact d i e
   .exact DZ h (λk l=>d k (by omega)) (b.row i (by omega)) (a.row i (by omega))
 refine Ik (by rw[b.len,a.len]) λj g f=>?_
 have:=c T.length j (by ((try clear f g);omega))
 simp_all
noncomputable def dB(a:List (List (List Nat)))(js:List Nat):List (List Nat):=(js.map λj=>a.getD j []).flatten
def Nb(c:List (Q6))(a b:List Nat):dB c (a++b)=dB c a++dB c b:=by
 unfold dB;grind
def fV(a:List (Q6))(j:Nat)(b:List Nat):dB a (j::b)=a.getD j []++dB a b:=by
 unfold dB;rw[As,By]
def Oc(sep:Str):∀a b,a≠[]->b≠[]->Str.join sep (a++b)=Str.join sep a++sep++Str.join sep b
 |[x],y::r,_,_=>rfl
 |x::z::a,b,_,h=>by
  have c:=Oc sep (z::a) b (by simp) h
  show x++sep++Str.join sep (_++b)=(x++sep++Str.join sep _)++sep++Str.join sep b
  rw[c];simp only[Str.append_assoc]
def Rw{a b:Q6}(f:a≠[])(d:b≠[]):cH (a++b)=cH a++Str.ofString " " ++ cH b:=by
 have e:∀c,cH c=Str.join " " _:=λc=>Ei _ _
 rw[e,e,e,Ap];exact Oc _ _ _ (by simp_all) (by simp_all)
def PD(g:qT mss):∀ {d:List Nat} {i:Nat},i<=T.length->(∀j∈d,j<mss.length)->T.drop i=dB mss d->WM mss T i d.length
 |[],i,hi,_,h=>by
  have:i=T.length:=by
   have:=Dp List.length h
   rw[Ce]at this;have e:(dB mss []).length=0:=rfl
   omega
  subst this;exact .nil
 |j::r,i,hi,hj,h=>by
  rw[fV]at h;have c:=hj j Al
  have m:=(lW g c).1
  have b:=Dp List.length h
  rw[Ce,Af]at b;have a:(mss.getD j []).length=bU mss j:=rfl
  have f:j∈dZ mss T i:=by
   refine Di.mpr ⟨Bu.mpr c,Ao ?_⟩;show (T.drop i).take (bU mss j)=_
   rw[h,<-a,List.take_left'];rfl
  refine .cons (by ((try clear c);omega)) f (PD g (by ((try clear c m);omega)) (λk l=>hj k (Ak _ l)) ?_)
  rw[<-List.drop_drop,h,<-a,List.drop_left'];rfl
def GB(b:k∈dZ mss T i):T.drop i=mss.getD k []++T.drop (i+bU mss k):=by
 obtain⟨a,c⟩:=dJ b;rw[<-List.drop_drop,<-show (T.drop i).take _=mss.getD k [] from c];exact(En _ _).symm
def Qx(h:Path mss T TB i ks):T.drop i=dB mss ks/\∀k∈ks,k<mss.length:=by
 induction h with
 |nil=>exact⟨List.drop_length,λk c=>nomatch c⟩
 | @cons i k ks hi b _ a=>
  refine⟨by rw[fV,<-a.1];exact GB b.st,λj d=>?_⟩
  rcases Bc.mp d with rfl|z
  .exact(dJ b.st).1
  simp_all
def Lv(d:mss.Nodup)(h:Xc mss T TB i k)(g:Xc mss T TB i j):k=j:=by
 obtain⟨n,s,o⟩:=h.one;obtain⟨m,l,f⟩:=g.one;rw[s]at l;cases l;have u:=h.most j g.st (by rw[o,f])
 have t:=g.most k h.st (by rw[o,f])
 obtain⟨a,q⟩:=dJ h.st;obtain⟨b,c⟩:=dJ g.st;have r:bU mss k=bU mss j:=by ((try clear a b);omega)
 have e:mss.getD k []=mss.getD j []:=by
  rw[<-show (T.drop i).take (bU mss k)=mss.getD k [] from q,<-show (T.drop i).take (bU mss j)=mss.getD j [] from c,r]
 rw[Ac,Aa a,Ac,Aa b]at e;have p:=e
 rcases Nat.lt_trichotomy k j with z|z|z
 .exact absurd p (Fl.mp d k j a b z)
 .exact z
 .exact absurd p.symm (Fl.mp d j k b a z)
def yU(b:mss.Nodup)(h:Path mss T TB i ks)(g:Path mss T TB i js):ks=js:=by
 induction h generalizing js with
 |nil=>
  cases g with
  |nil=>rfl
  |cons hi _ _=>exact absurd hi (De _)
 | @cons i k ks hi d _ c=>
  cases g with
  |nil=>exact absurd hi (De _)
  |cons _ a e=>
   obtain rfl:=Lv b d a;rw[c e]
def K1(g:(bk.map (·.2)).Nodup)(h:cV bk mss):mss.Nodup:=by
 refine Fl.mpr λi j f d c e=>?_;have b:i<bk.length:=by rwa[<-h.1]
 have a:j<bk.length:=by rwa[<-h.1]
 have l:=(h.2 i _ _ (Aa b) (Aa f)).1
 have k:=(h.2 j _ _ (Aa a) (Aa d)).1
 have:=Fl.mp g i j (by simp_all) (by simp_all) c
 simp_all
def sO(c:List (Str×Str))(cws:List (List Nat)):Prop:=cws.length=c.length/\∀(j:Nat) b a,c[j]?=some b->cws[j]?=some a->b.1=aV a/\1<=a.length/\a.length<=6/\∀d∈a,aX d
def eG(e:Addr):Sp:=λd H Q E=>∃b a n,d=[.ref b,.int n]/\Z4 H b=some a/\a.length<=1000/\((0<=n/\n<(a.length:Int))->Q .non H)/\(¬(0<=n/\n<(a.length:Int))->∀c,Z_ H c->E (.ref e) none c)
def nY:Z9 ["halyards", "number"] ["halyards", "number"] (aK eY):=by fail "sc"
def nW(F:ZT K "look_for_halyard" "look_for_halyard" eY f fd):Z8 P w K mg base (Za P w) 1 f fd ["halyards", "number"] (eG Zy):=by
 refine F.XM nY (λj H Q E h=>?_) (λo A a s H j Q E p h=>?_)
 .obtain⟨b,e,n,rfl,_⟩:=h;rfl
 obtain⟨b,e,n,rfl,r,q,k,i⟩:=h;refine⟨_,(@aI _ _ _ (cD (PW.pt (sQ (bA xS (mv 1) aJ (bB _)) (lZ (bA Qt (mv 1) (aY cO rfl G.b_len bR (aA (mv 0) aB)) (bB _))))) (@aI _ _ _ (jY fY rfl rfl rfl G.c_NoHalyard G.x_NoHalyard Cs (@cY _ _ _ _ _ _ aB))) bF)),?_⟩;fail "g";refine eJ (λd=>?_) (λd=>?_)
 .have l:=Az d
  fail "g";exact⟨r0,i (λz=>by ((try clear q);omega)) _ (Z_.refl _)⟩
 .have l:¬n<0:=λz=>d (Ao z)
  fail "g";refine eJ (λc=>?_) (λc=>?_)
  .have m:=Az c
   fail "g";exact⟨r0,i (λz=>by ((try clear l q);omega)) _ (Z_.refl _)⟩
  .have m:¬(e.length:Int)<=n:=λz=>c (Ao z)
   fail "g";grind
def fD(m:Nat->Int)(c:Nat):0<=aQ (aZ m) c:=by
 unfold aQ aZ;split
 .rename_i h
  exact Int.le_of_lt (by simp_all)
 .exact Ip _
structure ZE (H:Hp) (B R:Addr) (hs:List (Option (List Nat))) (f:Nat->Option Int):Prop where
 XX:∃us,H B=some (.lst us)/\Z7 H us hs
 ok:fF hs
 loc:∃kvs,H R=some (.dK kvs)/\Lk kvs f
 pos:∀c,0<=aQ f c
def N3(a:hJ c):fX (one c)=true:=by rw[oR];exact Ao (show aX c\/eC c from a)
noncomputable def VM(f:Nat->Option Int)(hs:List (Option (List Nat)))(c:Nat):Int:=aQ f c+cnt (bY hs (List.range hs.length)) c
noncomputable def YA(cws:List (List Nat))(k:Nat):List Nat:=cws.getD k []++[YV (cws.getD k [])]
inductive Dd where
 |haul (n:Nat) (cw:List Nat)
 |lower (n:Nat)
 |lose (c:Nat)
 |find (c:Nat)
 |say (T:Q6)
noncomputable def Dd.vs:Dd->List V
 |.haul n a=>[.str "haul",.int ((n:Nat):Int),.str (aV a)]
 |.lower n=>[.str "lower",.int ((n:Nat):Int)]
 |.lose c=>[.str "lose",.str (one c)]
 |.find c=>[.str "find",.str (one c)]
 |.say T=>[.str "say",.str (cH T)]
def Dd.ok(a:List (List (List Nat)))(m:Nat):Dd->Prop
 |.haul n b=>n<m/\b.length<=7/\(∀d∈b,aX d)/\Ws b=true
 |.lower n=>n<m
 |.lose c=>hJ c
 |.find c=>hJ c
 |.say T=>1<=T.length/\T.length<=40/\(∀t∈T,fH t)/\∃e,WM a T 0 e
def Dd.done(cws:List (List Nat))(g:List (List (List Nat)))(hs:List (Option (List Nat)))(f:Nat->Option Int)(b:List (Option (List Nat)))(h:Nat->Option Int):Dd->Prop
 |.haul n i=>∃a j d,xE f hs n i a j/\Zg (cK hs i a) (sZ f hs (n::a)) d/\b=pO hs ((n::a).zip (jZ (cK hs i a) d))/\h=aZ λc=>aQ (oO f hs (n::a)) c-cnt (jZ (cK hs i a) d).flatten c
 |.lower n=>b=hs.set n none/\h=aZ λc=>aQ f c+cnt (bY hs [n]) c
 |.lose c=>0<aQ f c/\b=hs/\h=aZ λe=>aQ f e-cnt [c] e
 |.find c=>VM f hs c<99/\b=hs/\h=aZ λe=>aQ f e+cnt [c] e
 |.say T=>∃k a d,YX g T k/\Path g T k 0 a/\a.length<=hs.length/\Zg (a.map (YA cws)) (sZ f hs (List.range hs.length)) d/\b=(jZ (a.map (YA cws)) d).map some++List.replicate (hs.length-a.length) none/\h=aZ λc=>aQ (oO f hs (List.range hs.length)) c-cnt d c
def Dd.no(cws:List (List Nat))(a:List (List (List Nat)))(hs:List (Option (List Nat)))(f:Nat->Option Int):Dd->Prop
 |.haul n e=>∀l,l.Sublist (bK hs n)->¬V2 f hs n e l
 |.lower _=>False
 |.lose c=>aQ f c<=0
 |.find c=>99<=VM f hs c
 |.say T=>∃d b,YX a T d/\Path a T d 0 b/\(hs.length<b.length\/∃W F,Sn (b.map (YA cws)) (sZ f hs (List.range hs.length)) W F)
def MU{f:Nat->Option Int}{n:Nat}{a:List Nat}{b:Nat}(h:xE f hs n cw ks j)(h':xE f hs n cw a b):ks=a:=by
 rcases Nat.lt_trichotomy j b with l|rfl|l
 .exact absurd h.2.1 (h'.2.2 j ks l h.1)
 .have e:=h.1
  rw[h'.1]at e;simp_all
 .exact absurd h'.2.1 (h.2.2 b a l h'.1)
def Lr(h:Zg cws n fs)(l:Sn cws n W F):False:=by
 obtain⟨m,s,_⟩:=h;obtain⟨i,k,w,g,d,o,_,_⟩:=l;obtain⟨j,e,c,f,b,a⟩:=s.down (Ad.mp d).1;have q:=g.one f
 grind
def Dd.one(t:qT mss)(r:mss.Nodup){o m:Q4}{f q p:Nat->Option Int}{d:Dd}(a:d.done cws mss hs f o q)(b:d.done cws mss hs f m p):o=m/\q=p:=by
 cases d with
 |haul n y=>
  obtain⟨s,j,u,l,k,rfl,rfl⟩:=a;obtain⟨e,x,g,i,h,rfl,rfl⟩:=b;obtain rfl:=MU l i;obtain rfl:=k.one h;exact⟨rfl,rfl⟩
 |lower n=>
  obtain⟨rfl,rfl⟩:=a;obtain⟨rfl,rfl⟩:=b;exact⟨rfl,rfl⟩
 |lose c=>
  obtain⟨_,rfl,rfl⟩:=a;obtain⟨_,rfl,rfl⟩:=b;exact⟨rfl,rfl⟩
 |find c=>
  obtain⟨_,rfl,rfl⟩:=a;obtain⟨_,rfl,rfl⟩:=b;simp_all
 |say T=>
  obtain⟨A,s,u,l,k,_,w,rfl,rfl⟩:=a;obtain⟨z,e,g,i,h,_,v,rfl,rfl⟩:=b;obtain rfl:=Ry t l i;obtain rfl:=yU r k h;obtain rfl:=w.one v;exact⟨rfl,rfl⟩
def Dd.not(l:qT mss)(i:mss.Nodup){g:Q4}{f p:Nat->Option Int}{d:Dd}(a:d.done cws mss hs f g p)(b:d.no cws mss hs f):False:=by
 cases d with
 |haul n v=>
  obtain⟨h,j,o,e,_⟩:=a;exact b h (Zi.mp (Am e.1)) e.2.1
 |lower n=>exact b
 |lose c=>have g:=a.1;have m:aQ f c<=0:=b;omega
 |find c=>have g:=a.1;have m:99<=VM f hs c:=b;omega
 |say T=>
  obtain⟨y,h,o,e,u,w,t,_⟩:=a;obtain⟨x,k,s,r,q⟩:=b;obtain rfl:=Ry l e s;obtain rfl:=yU i u r;rcases q with z|⟨W,F,z⟩
  .omega
  .exact Lr t z
def fT(c:Addr):Sp:=λb H Q E=>∃z,b=[.str z]/\z.length<=1000/\(fX z=true->Q .non H)/\(fX z=false->∀a,Z_ H a->E (.ref c) none a)
def rC:Z9 ["flag"] ["flag"] (aK gS):=by fail "sc"
def rV(F:ZT K "look_for_flag" "look_for_flag" gS f fd)(c:ZR P w K mg base 1 "is_flag" ["text"] oX):Z8 P w K mg base (Za P w) 2 f fd ["flag"] (fT Zv):=by
 refine F.XM rC (λb H Q E h=>?_) (λl A a s H b Q E k h=>?_)
 .obtain⟨z,rfl,_⟩:=h;rfl
 obtain⟨z,rfl,j,i,d⟩:=h;refine⟨_,(@aI _ _ _ (cD (sM (gH (aU c k (by decide) rfl (aA (mv 0) aB)))) (@aI _ _ _ (jY fY rfl rfl rfl G.c_NoFlag G.x_NoFlag Cs (@cY _ _ _ _ _ _ aB))) bF)),?_⟩
 refine⟨z,rfl,j,?_⟩;cases e:fX z with
 |true=>
  exact i e
 |false=>
  exact⟨r0,d e _ (Z_.refl _)⟩
inductive lE(g:List V)(H:Hp)(Q:VK)(zz3:XK):Prop|mk(B R a f n:_)(_:g=[.ref B,.ref R,.int ((n:Nat):Int)])(_:ZE H B R a f)(_:a.length<=6)(_:n<a.length)(_:∀t d e b,Z_ H b->H t=none->b t=some (.tup [.ref d,.ref e])->H d=none->ZE b d e (a.set n none) (aZ λc=>aQ f c+cnt (bY a [n]) c)->Q (.ref t) b):lE g H Q zz3
def NK:Z9 ["halyards", "locker", "number", "behind"] ["halyards", "locker", "number"] (aK iG):=by fail "sc"
def tQ(F:ZT K "behind_lower" "behind_lower" iG f fd)(o5:iP P w K mg base 1 "look_for_halyard" ["halyards", "number"] (eG Zy))(y9:ZR P w K mg base 2 "put_in" ["locker", "flags"] iA)(z5:ZR P w K mg base 1 "flags_on" ["halyards", "numbers"] gK):Z8 P w K mg base (Za P w) 3 f fd ["halyards", "locker", "number"] lE:=by
 refine F.XM NK (λvs H Q E h=>?_) (λcdv A outer s H vs Q E hr h=>?_)
 .obtain⟨B,R,hs,f,n,rfl,_⟩:=h;rfl
 obtain⟨B,R,hs,f,n,rfl,tw,h6,hn,q⟩:=h;refine⟨_,(@aD _ _ _ _ _ (bW (cR o5 cB hr (by decide) rfl (aA (mv 0) (aA (mv 2) aB)))) (@aD _ _ _ _ _ (aP 3 NK.nd (bS iC rfl G.b_list dW (aA (mv 0) aB))) (@aD _ _ _ _ _ (Sw dG (Tg (mv 3) (mv 2) vG)) (@aI _ _ _ (aT (dM (aA (mv 3) (aA (aU y9 hr (by decide) rfl (aA (mv 1) (aA (aU z5 hr (by decide) rfl (aA (mv 0) (aA (bO (aA (mv 2) aB)) aB))) aB))) aB)))))))),?_⟩
 obtain⟨⟨us,hB,hat⟩,ok,⟨kvs,hR,lk⟩,hpos⟩:=tw;have rB:=aM hB
 have hul:=hat.len
 fail "g";refine⟨B,us,_,rfl,rB,by ((try clear hn);omega),λ_=>?_,λz=>absurd ⟨by (exact Int.natCast_nonneg _),by ((try clear h6 z);omega)⟩ z⟩
 fail "g";intro B' hB';have k1:=aG hB' (.lst us)
 have e1:(upd H B' (.lst us)) B'=some (.lst us):=aE
 generalize upd H B' (.lst us)=H1 at k1 e1 ⊢;have m1:=bL e1
 fail "g";have hnu:n<us.length:=by ((try clear h6);omega)
 refine SS (o:=us[n]) m1 (RQ (by (exact Int.natCast_nonneg _)) (by (exact Int.ofNat_le.mpr (by assumption)))) ?_
 rw[show ((n:Nat):Int).toNat=n from rfl];have s2:Z_ H (upd H1 B' (.lst (us.set n .non))):=bJ hB' k1
 have e2:(upd H1 B' (.lst (us.set n .non))) B'=some (.lst (us.set n .non)):=aE
 generalize upd H1 B' (.lst (us.set n .non))=H2 at s2 e2 ⊢;fail "g";refine⟨r0,λp3 hp3=>?_⟩
 have k3:=aG hp3 (.lst [V.int ((n:Nat):Int)])
 have e3:(upd H2 p3 (.lst [V.int ((n:Nat):Int)])) p3=some (.lst (([n]).map λk=>V.int ((k:Nat):Int))):=aE
 generalize upd H2 p3 (.lst [V.int ((n:Nat):Int)])=H3 at k3 e3 ⊢;have s3:=s2.trans k3
 fail "g";refine⟨B,p3,us,hs,[n],rfl,aO s3 rB,hat.keep s3,ok,aM e3,by show 1<=7;decide,(λk hk=>by rwa[Ah.mp hk]),λr4 H4 hr4 s4 e4=>?_⟩
 have s04:=s3.trans s4
 have fl:(bY hs [n]).length<=7*1:=fS ok [n]
 fail "g";refine⟨R,r4,kvs,f,bY hs [n],rfl,s04 _ _ hR,lk,hpos,aM e4,by (exact Nat.le_trans (by assumption) (by decide)),λR' kws H5 hR' s5 e5 lk5=>?_⟩
 have s05:=s04.trans s5
 have e25:=(k3.trans (s4.trans s5)) _ _ e2
 refine⟨za0,λt ht=>?_⟩
 have k6:=aG ht (.tup [.ref B',.ref R'])
 have s06:=s05.trans k6
 refine q t B' R' _ s06 (none_of s05 ht) aE hB' ⟨⟨us.set n .non,k6 _ _ e25,(hat.keep s06).set (k:=n) (v:=.non) (h:=none) rfl⟩,λcs hc=>?_,⟨kws,k6 _ _ e5,lk5⟩,fD _⟩;rcases El hc with z|z
 .exact ok cs z
 .cases z
def gQ:Sp:=λe H Q _=>∃d c a,e=[.ref d]/\Z4 H d=some c/\Z7 H c a/\fF a/\a.length<=7/\∀r b,H r=none->Z_ H b->b r=some (.lst (((bY a (List.range a.length)).map one).map V.str))->Q (.ref r) b
def tP:Z9 ["halyards"] ["halyards"] (aK iB):=by fail "sc"
def tM(F:ZT K "all_flags_on" "all_flags_on" iB f fd)(y:ZR P w K mg base 1 "flags_on" ["halyards", "numbers"] gK):Z8 P w K mg base ZS 2 f fd ["halyards"] gQ:=by
 refine F.ok tP (λz H Q E h=>?_) (λJ A j s H z Q E n h=>?_)
 .obtain⟨t,o,a,rfl,_⟩:=h;rfl
 obtain⟨t,o,a,rfl,C,c,D,M,q⟩:=h;refine⟨_,(@aI _ _ _ (aT (aU y n (by decide) rfl (aA (mv 0) (aA (bS (Jg rfl) rfl G.b_list dW (aA (bS Jf rfl G.b_range MC (aA (aY cO rfl G.b_len bR (aA (mv 0) aB)) aB)) aB)) aB))))),?_⟩
 fail "g";rw[c.len];refine IB λi m=>?_;have p:=aG m (HO.rng 0 ((a.length:Nat):Int))
 have v:(upd H i (HO.rng 0 ((a.length:Nat):Int))) i=some (HO.rng 0 ((a.length:Nat):Int)):=aE
 generalize upd H i (HO.rng 0 ((a.length:Nat):Int))=x at p v ⊢;fail "g";refine D9 v (by (exact Nat.le_trans (by assumption) (by decide))) λd l=>?_
 have b:=p.trans (aG l (.lst ((List.range a.length).map λk=>V.int ((k:Nat):Int))))
 have u:Z4 (upd x d (.lst ((List.range a.length).map λk=>V.int ((k:Nat):Int)))) d=some ((List.range a.length).map λk=>V.int ((k:Nat):Int)):=cG
 generalize upd x d (.lst ((List.range a.length).map λk=>V.int ((k:Nat):Int)))=N at b u ⊢;exact⟨t,d,o,a,List.range a.length,rfl,aO b C,c.keep b,D,u,by rw[Bf];(assumption),(λk I=>Bu.mp I),λr L n B e=>q r L (none_of b n) (b.trans B) e⟩
inductive mE(i:Addr)(g:List V)(H:Hp)(Q:VK)(E:XK):Prop|mk(B R b f c:_)(_:g=[.ref B,.ref R,.str (one c)])(_:ZE H B R b f)(_:hJ c)(_:(0<aQ f c->∀t d a,Z_ H a->H t=none->a t=some (.tup [.ref B,.ref d])->ZE a B d b (aZ λe=>aQ f e-cnt [c] e)->Q (.ref t) a))(_:(aQ f c<=0->∀h a,Z_ H a->E (.ref i) (some h) a)):mE i g H Q E
def xM:Z9 ["halyards", "locker", "flag"] ["halyards", "locker", "flag"] (aK jO):=by fail "sc"
def xJ(F:ZT K "behind_lose" "behind_lose" jO f fd)(G:Gs K mg w Zs Zz Zt Zx Z0 Zw Zy Zu Zv)(Y:iP P w K mg base 2 "look_for_flag" ["flag"] (fT Zv))(O:iP P w K mg base 3 "taken" ["locker", "flags"] (pT Zt)):Z8 P w K mg base (Za P w) 4 f fd ["halyards", "locker", "flag"] (mE Zt):=by
 refine F.XM xM (λS H Q E h=>?_) (λa2 A p s H S Q E D h=>?_)
 .obtain⟨B,R,hs,f,c,rfl,_⟩:=h;rfl
 obtain⟨B,R,hs,f,c,rfl,U,J,q,W⟩:=h;refine⟨_,(@aD _ _ _ _ _ (bW (cR Y cB D (by decide) rfl (aA (mv 2) aB))) (@aI _ _ _ (aT (dM (aA (mv 0) (aA (cR O cB D (by decide) rfl (aA (mv 1) (aA (bO (aA (mv 2) aB)) aB))) aB)))))),?_⟩
 obtain⟨⟨T,hB,z⟩,X,⟨v,hR,Z⟩,e⟩:=id U;have m:=N3 J
 fail "g";refine⟨_,rfl,by show 1<=1000;decide,λ_=>?_,λI=>by rw[m]at I;cases I⟩
 fail "g";refine⟨r0,λk x=>?_⟩
 have l:=aG x (.lst [V.str (one c)])
 have L:Z4 (upd H k (.lst [V.str (one c)])) k=some (([c].map one).map V.str):=cG
 generalize upd H k (.lst [V.str (one c)])=H1 at l L ⊢;fail "g";refine⟨R,k,v,f,[c],rfl,l _ _ hR,Z,e,L,by show 1<=1000;decide,(λd n=>by rw[Ah.mp n];exact J),λj M u N a1 o e2 r=>?_,λi d n j y dx N o ex=>?_⟩
 .have b:=l.trans o
  have hp:=j 0 c (Nat.succ_pos _) rfl
  fail "g";refine⟨za0,λt m=>?_⟩
  have C:=aG m (.tup [.ref B,.ref M])
  have a:=b.trans C
  exact q hp t M _ a (none_of b m) aE ⟨⟨T,a _ _ hB,z.keep a⟩,X,⟨u,C _ _ e2,r⟩,fD _⟩
 .cases i with
  |succ i=>cases n
  |zero=>
   cases n;exact W y dx N (l.trans o)
inductive lI(h:Addr)(g:List V)(H:Hp)(Q:VK)(E:XK):Prop|mk(B R b f c:_)(_:g=[.ref B,.ref R,.str (one c)])(_:ZE H B R b f)(_:b.length<=6)(_:hJ c)(_:(VM f b c<99->∀t d a,Z_ H a->H t=none->a t=some (.tup [.ref B,.ref d])->ZE a B d b (aZ λe=>aQ f e+cnt [c] e)->Q (.ref t) a))(_:(99<=VM f b c->∀a,Z_ H a->E (.ref h) none a)):lI h g H Q E
def uS:Z9 ["halyards", "locker", "flag"] ["halyards", "locker", "flag"] (aK jC):=by fail "sc"
def wF(F:ZT K "behind_find" "behind_find" jC f fd)(o6:iP P w K mg base 2 "look_for_flag" ["flag"] (fT Zv))(W:ZR P w K mg base 2 "put_in" ["locker", "flags"] iA)(X:ZR P w K mg base 2 "all_flags_on" ["halyards"] gQ):Z8 P w K mg base (Za P w) 3 f fd ["halyards", "locker", "flag"] (lI Zv):=by
 refine F.XM uS (λY H Q E h=>?_) (λa3 A n s H Y Q E l h=>?_)
 .obtain⟨B,R,k,f,c,rfl,_⟩:=h;rfl
 obtain⟨B,R,k,f,c,rfl,Z,h6,hc,q,qe⟩:=h;refine⟨_,(@aD _ _ _ _ _ (bW (cR o6 cB l (by decide) rfl (aA (mv 2) aB))) (@aD _ _ _ _ _ (cD (bA Qt (aR bQ (iH Ci Ea (Vs (Z2.u1 l)) (mv 1) (aA (mv 2) (aA aJ aB))) (cM Bg PySem.F.slot_list_count PySem.F.type_list_count HV (aU X l (by decide) rfl (aA (mv 0) aB)) (aA (mv 2) aB))) (qR rfl G.s_MOST_OF_A_FLAG) (bB _)) (@aI _ _ _ (jY fY rfl rfl rfl G.c_NoFlag G.x_NoFlag Cs (@cY _ _ _ _ _ _ aB))) bF) (@aI _ _ _ (aT (dM (aA (mv 0) (aA (aU W l (by decide) rfl (aA (mv 1) (aA (bO (aA (mv 2) aB)) aB))) aB))))))),?_⟩
 obtain⟨⟨D,O,e⟩,J,⟨r,x,L⟩,d⟩:=id Z;have hD:=kC x
 have j:=N3 hc
 fail "g";refine⟨_,rfl,by show 1<=1000;decide,λ_=>?_,λN=>by rw[j]at N;cases N⟩
 fail "g";refine Vq (z:=one c) (.inl x) ?_;rw[L.val c,qB];fail "g";refine⟨B,D,k,rfl,aM O,e,J,by (exact Nat.le_trans (by assumption) (by decide)),λr1 U a1 I e1=>?_⟩
 have m:=aM e1
 fail "g";refine K3 (z:=one c) m ?_;rw[AO];fail "g";change if decide ((99:Int)<=VM f k c)=true then _ else _
 refine eJ (λC=>?_) (λC=>?_)
 .have y:=Az C
  fail "g";exact⟨r0,qe y _ I⟩
 .have y:=Int.not_le.mp λz=>C (Ao z)
  fail "g";refine⟨r0,λi v=>?_⟩
  have u:=I.trans (aG v (.lst [V.str (one c)]))
  have S:Z4 (upd U i (.lst [V.str (one c)])) i=some (([c].map one).map V.str):=cG
  refine⟨R,i,r,f,[c],rfl,u _ _ x,L,d,S,by show 1<=1000;decide,λT p H3 a2 s3 e3 o=>?_⟩
  have b:=u.trans s3
  refine⟨za0,λt j=>?_⟩
  have M:=aG j (.tup [.ref B,.ref T])
  have a:=b.trans M
  exact q y t T _ a (none_of b j) aE ⟨⟨D,a _ _ O,e.keep a⟩,J,⟨p,M _ _ e3,o⟩,fD _⟩
inductive lX(o:Addr)(k:List V)(H:Hp)(Q:VK)(E:XK):Prop|mk(B R b f n d:_)(_:k=[.ref B,.ref R,.int ((n:Nat):Int),.str (aV d)])(_:ZE H B R b f)(_:b.length<=6)(_:(Dd.haul n d).ok [] b.length)(_:(∀t h j (a:Q4) i c,Z_ H c->H t=none->c t=some (.tup [.ref h,.ref j])->H h=none->a.length=b.length->(∀g e,(Dd.haul n d).done g e b f a i)->ZE c h j a i->Q (.ref t) c))(_:((∀l,l.Sublist (bK b n)->¬V2 f b n d l)->∀m c,Z_ H c->E (.ref o) (some m) c)):lX o k H Q E
def O0:Z9 ["halyards", "locker", "number", "word", "told"] ["halyards", "locker", "number", "word"] (aK iY):=by fail "sc"
def vN(F:ZT K "behind_haul" "behind_haul" iY f fd)(o5:iP P w K mg base 1 "look_for_halyard" ["halyards", "number"] (eG Zy))(J:iP P w K mg base 12 "hauled" ["locker", "halyards", "number", "word"] (Qi Zs))(I:ZR P w K mg base 3 "is_checked" ["word"] oK)(D:V0 P w K mg base 1 Zu ["self", "at"] (lR Zu)):Z8 P w K mg base (Za P w) 13 f fd ["halyards", "locker", "number", "word"] (lX Zs):=by
 refine F.XM O0 (λvs H Q E h=>?_) (λb1 A O s H vs Q E y h=>?_)
 .obtain⟨B,R,i,f,n,C,rfl,_⟩:=h;rfl
 obtain⟨B,R,i,f,n,C,rfl,tw,h6,⟨hn,e,d,c⟩,q,qe⟩:=h;refine⟨_,(@aD _ _ _ _ _ (bW (cR o5 cB y (by decide) rfl (aA (mv 0) (aA (mv 2) aB)))) (@aD _ _ _ _ _ (cD (sM (gH (aU I y (by decide) rfl (aA (mv 3) aB)))) (@aI _ _ _ (nT fY rfl rfl rfl G.c_NoWord G.Xy D y (by decide) (aA aJ aB))) bF) (@aD _ _ _ _ _ (aP 4 O0.nd (cR J cB y (by decide) rfl (aA (mv 1) (aA (mv 0) (aA (mv 2) (aA (mv 3) aB)))))) (@aI _ _ _ (aT (dM (aA (bD bN (mv 4) aJ (λ_ _=>rfl)) (aA (bD bN (mv 4) aJ (λ_ _=>rfl)) aB)))))))),?_⟩
 obtain⟨⟨us,hB,r⟩,S,⟨V,hR,lk⟩,m⟩:=tw;have rB:=aM hB
 have a8:=r.len
 have o:1<=C.length:=by
  unfold Ws at c;rw[Fd,Bp]at c;((try clear a8 h6 hn);omega)
 fail "g";refine⟨B,us,_,rfl,rB,by ((try clear e hn o);omega),λ_=>?_,λz=>absurd ⟨by (exact Int.natCast_nonneg _),by ((try clear e h6 o z);omega)⟩ z⟩
 fail "g";refine⟨C,rfl,e,d,λH1 b=>?_⟩;rw[c];fail "g";refine⟨R,B,V,f,us,i,n,C,rfl,⟨b _ _ hR,lk,m,aO b rB,r.keep b,S,h6,hn,o,e,d⟩,λt L B2 R2 X gs j M U H2 u ht et hL eL a a2 a7 a6 eB p a9 eR T _ a4=>?_,λY dx l1 l2 rs W F H2 u _ _ _ _ _ _ _=>qe Y dx H2 (b.trans u)⟩;obtain⟨fs,a5,rfl⟩:=a4;have tt:=cW et
 fail "g";refine cF et (v:=.ref B2) (aW (j:=1) rfl) ?_;fail "g";refine cF et (v:=.ref R2) (aW (j:=2) rfl) ?_;refine⟨za0,λt3 l=>?_⟩
 have x:=aG l (.tup [.ref B2,.ref R2])
 have N:=b.trans (u.trans x)
 have a1:=Zi.mp (Am a.1)
 have Z:∀k∈X,k<i.length/\(i.getD k none).isSome=true:=λk hk=>by
  have:=nE (a1.subset hk)
  exact⟨this.1,this.2.1⟩
 have a3:=Uy a2 (vF S o ⟨e,d⟩ Z)
 exact q t3 B2 R2 _ _ _ N (none_of (b.trans u) l) aE (none_of b a6) (qV i _) (λ_ _=>⟨X,j,fs,a,a5,rfl,rfl⟩) ⟨⟨M,x _ _ eB,p.keep x⟩,OC S _ λz hz=>(a3 z.2 (Hl hz).2).1,⟨U,x _ _ eR,T⟩,fD _⟩
def ZE.VA{f:Nat->Option Int}(h:ZE H B R hs f)(k:Z_ H H'):ZE H' B R hs f:=by
 obtain⟨⟨d,g,e⟩,j,⟨a,c,b⟩,i⟩:=h;exact⟨⟨d,k _ _ g,e.keep k⟩,j,⟨a,k _ _ c,b⟩,i⟩
def Pr(m:Nat):(List.replicate ((m:Int)).toNat [V.non]).flatten=List.replicate m V.non:=by simp_all
def Mq(a:Q6):bY (a.map some) (List.range a.length)=a.flatten:=vO (by rw[Bf]) λz c=>by
 obtain⟨i,b,e⟩:=Bv.mp c;rw[List.length_zip,Bf,Nat.min_self]at b;rw[List.getElem_zip]at e;rw[<-e,List.getElem_range,Ac,Ag,Aa b];rfl
def HG{f:Nat->Option Int}(i:ZE H B R hs f)(s:ZZ Pt H H')(l:dE Pt H):ZE H' B R hs f:=by
 obtain⟨⟨e,g,b⟩,m,⟨a,d,c⟩,k⟩:=i;exact⟨⟨e,X0 s l g (λ_=>nofun),b.len,λj v h n q=>(b.val j v h n q).keep λp r o _=>X0 s l o λ_=>nofun⟩,m,⟨a,X0 s l d (λ_=>nofun),c⟩,k⟩
structure Xf (H:Hp) (b:Addr) (bk:List (Str×Str)) (cws:List (List Nat)) (mss:List (List (List Nat))):Prop where
 UZ:ZF H b bk
 cw:sO bk cws
 le:bk.length<=60
 ms:cV bk mss
def wJ:∀ {a:Q6},(∀g∈a,g.length<=7)->a.flatten.length<=7*a.length
 |[],_=>Ai _
 |g::r,h=>by
  rw[By,Af,Av];have:=h g Al
  have:=wJ λx b=>h x (Ak g b)
  omega
def Z7.app{e:Q4}(a:Z7 H us hs)(b:Z7 H vs e):Z7 H (us++vs) (hs++e):=by
 refine⟨by rw[Af,Af,a.len,b.len],λj v h c d=>?_⟩
 have f:=a.len
 rcases Hh j us.length with z|z
 .rw[An z]at c;rw[An (by omega)]at d
  exact a.val j v h c d
 .rw[Aq z]at c;rw[Aq (by omega),<-f]at d
  exact b.val _ v h c d
def Jc:Z7 H (List.replicate m V.non) (List.replicate m none):=by
 refine⟨by rw[Cg,Cg],λj v h a b=>?_⟩
 rw[Gd]at a b;split at a
 .rename_i c
  rw[if_pos c]at b;cases a;cases b;rfl
 .cases a
def IV(a:cV bk mss)(h:Path mss T TB i ks):i+ks.length<=T.length:=by
 induction h with
 |nil=>exact Ai _
 | @cons i k ks hi c _ d=>
  have b:=(Qx (.cons hi c ‹_›)).2 k (Al ..)
  have h1:1<=bU mss k:=by
   unfold bU;rw[Ac,Aa b];exact(a.2 k _ _ (Aa (by rwa[<-a.1])) (Aa b)).2.1
  grind
inductive oE(p n h:Addr)(l:List V)(H:Hp)(Q:VK)(E:XK):Prop|mk(b B R g f m e a T)(_:l=[.ref b,.ref B,.ref R,.str (cH T)])(_:ZE H B R g f)(_:g.length<=6)(_:Xf H b m e a)(_:(Dd.say T).ok a g.length)(_:dE h H)(_:(∀t i k (d:Q4) j c,ZZ h H c->dE h c->H t=none->c t=some (.tup [.ref i,.ref k])->H i=none->d.length=g.length->(Dd.say T).done e a g f d j->ZE c i k d j->Q (.ref t) c))(_:((Dd.say T).no e a g f->∀D o c,(D=p\/D=n)->ZZ h H c->dE h c->E (.ref D) o c)):oE p n h l H Q E
def l0:Z9 ["book", "halyards", "locker", "text", "words", "more", "hoists", "bare"] ["book", "halyards", "locker", "text"] (aK gW):=by fail "sc"
def yQ(F:ZT K "behind_say" "behind_say" gW f fd)(y9:ZR P w K mg base 2 "put_in" ["locker", "flags"] iA)(z8:iP P w K mg base 3 "hang_all" ["locker", "words"] (iX Zs))(o7:ZR P w K mg base 5 "with_check" ["word"] jN)(v0:ZR P w K mg base 2 "all_flags_on" ["halyards"] gQ)(z9:iP P w K mg base 3 "taken" ["locker", "flags"] (pT Zt))(f3:ZR P w K mg base 4 "cut_text" ["book", "text"] (sX Pt)):Z8 P w K mg base (Za P w) 6 f fd ["book", "halyards", "locker", "text"] (oE Zs Zy Pt):=by
 refine F.XM l0 (λvs H Q E h=>?_) (λm3 A g1 s H vs Q E hr h=>?_)
 .obtain⟨b,B,R,I,f,bk,a,c1,T,rfl,_⟩:=h;rfl
 obtain⟨b,B,R,I,f,bk,a,c1,T,rfl,tw,h6,⟨e5,u,h9,a8⟩,⟨t1,f6,tT,n0,d8⟩,a6,q,qe⟩:=h;refine⟨_,(@aD _ _ _ _ _ (fK (i:=4) l0.nd rfl (Or.inl rfl) rfl (bT (aU f3 hr (by decide) rfl (aA (mv 0) (aA (mv 3) aB)))) (gF (N:=["number", "book"]) ["book", "halyards", "locker", "text", "words", "more", "hoists", "bare"] (aK gW) [none,some 0] rfl rfl rfl (λx h=>cC h) (by decide +kernel)) (by decide +kernel) rfl (by decide +kernel) (λ_ _ _ _=>(bC (i:=0) (show List.Nodup (["number", "book"]:List Str) by decide +kernel) rfl (Or.inl rfl))) (λ_ _ _ _=>cX) (λ_ _ _ _=>(aU o7 hr (by decide) rfl (aA (bD bN (bD bN (mv 1) (mv 0) (λ_ _=>rfl)) aJ (λ_ _=>rfl)) aB)))) (@aD _ _ _ _ _ (cD (bA We (aY cO rfl G.b_len bR (aA (mv 4) aB)) (aY cO rfl G.b_len bR (aA (mv 1) aB)) (bB _)) (@aI _ _ _ (jY fY rfl rfl rfl G.c_NoHalyard G.x_NoHalyard Cs (@cY _ _ _ _ _ _ aB))) bF) (@aD _ _ _ _ _ (aP 5 l0.nd (aU y9 hr (by decide) rfl (aA (mv 2) (aA (aU v0 hr (by decide) rfl (aA (mv 1) aB)) aB)))) (@aD _ _ _ _ _ (aP 6 l0.nd (cR z8 cB hr (by decide) rfl (aA (mv 5) (aA (mv 4) aB)))) (@aD _ _ _ _ _ (aP 7 l0.nd (aR TK (bO (aA dG aB)) (aR lL (aY cO rfl G.b_len bR (aA (mv 1) aB)) (aY cO rfl G.b_len bR (aA (mv 6) aB))))) (@aI _ _ _ (aT (dM (aA (aR bQ (mv 6) (mv 7)) (aA (cR z9 cB hr (by decide) rfl (aA (mv 5) (aA (aU v0 hr (by decide) rfl (aA (mv 6) aB)) aB))) aB)))))))))),?_⟩
 fail "g";refine⟨b,bk,c1,T,n0,rfl,e5,h9,a8,t1,f6,tT,d8,a6,λr1 TB m H1 k3 s1 l1 e1 M n=>?_⟩;obtain⟨_,d3⟩:=Qx n;have d4:∀k∈m,k<bk.length:=λk hk=>by have:=d3 k hk;rw[a8.1]at this;exact this
 have j3:=Mr e5 s1 a6
 have f5:=HG tw s1 a6
 obtain⟨qs,b1,b2,b3⟩:=id j3;have rq:=aM b1
 have k9:m.length<=40:=by
  have:=IV a8 n
  ((try clear b2 h6 h9);omega)
 have c5:((m.map λk=>V.int ((k:Nat):Int))).length=m.length:=Ab ..
 fail "g";refine gL (xs:=(m.map λk=>V.int ((k:Nat):Int))) (λj=>(m[j]?).map λk=>V.str (aV (YA a k))) (aM e1) (by rw[c5];exact bG (by (exact Nat.le_trans (by assumption) (by decide)))) (λj x Hc A B hx sm hA hB=>?_) (λD H2 hD sD hd=>?_)
 .obtain⟨k,hk,rfl⟩:=pR hx;have l:=d4 k (Am hk)
  have ec:a[k]?=some (a[k]'(by rw[u.1];exact l)):=Aa _
  obtain⟨hw,e2,b4,a1⟩:=u.2 k _ _ (Aa l) ec;have ep:qs[k]?=some (qs[k]'(by ((try clear b4 c5 e2 f6 h6 h9 k9 t1);omega))):=Aa _
  have tp:=sm _ _ (b3 k _ _ ep (Aa l))
  rw[hw]at tp;have ef:YA a k=a[k]'(by rw[u.1];exact l)++[YV (a[k]'(by rw[u.1];exact l))]:=by unfold YA;rw[Ac,ec];rfl
  fail "g";refine⟨Wk.set rfl (Wk.refl _),?_⟩;fail "g";refine bX (aO sm rq) (v:=.ref (qs[k]'(by ((try clear b4 c5 e2 f6 h6 h9 k9 t1);omega)))) (aW (by rw[Ag,ep];rfl)) ?_
  fail "g";refine cF tp (v:=.str (aV (a[k]'(by rw[u.1];exact l)))) (aW (j:=0) rfl) ?_
  fail "g";exact⟨_,rfl,e2,b4,a1,λH' s' _ _=>hA _ (by rw[hk,<-ef];rfl) H' s'⟩
 rw[c5,dO (λk=>V.str (aV (YA a k)))]at hd;have h3:H2 D=some (.lst (((m.map (YA a)).map aV).map V.str)):=by rw[hd,Cd,Cd];rfl
 have s2:=s1.trans (Z_.p sD)
 have l2:=l1.keep sD
 have f4:=f5.VA sD
 have a7:∀c∈m.map (YA a),1<=c.length/\c.length<=7/\∀d∈c,aX d:=λc O=>by
  obtain⟨k,hk,rfl⟩:=Bb.mp O;have l:=d4 k hk
  have ec:a[k]?=some (a[k]'(by rw[u.1];exact l)):=Aa _
  obtain⟨_,e2,b4,a1⟩:=u.2 k _ _ (Aa l) ec;have ef:YA a k=a[k]'(by rw[u.1];exact l)++[YV (a[k]'(by rw[u.1];exact l))]:=by unfold YA;rw[Ac,ec];rfl
  rw[ef,Af];refine⟨by show 1<=_+1;((try clear b2 c5 f6 h6 h9 k9 t1);omega),by show _+1<=7;(exact Nat.lt_of_le_of_lt (by assumption) (by decide)),λd hd=>?_⟩
  rcases Bk.mp hd with z|z
  .exact a1 d z
  .rw[Ah.mp z];exact(Oy b4 a1).1
 obtain⟨⟨us,hB,f1⟩,ok,⟨g2,hR,lk⟩,c7⟩:=id f4;have rB:=aM hB
 have f8:=aM h3
 have c6:=f1.len
 have g3:(((m.map (YA a)).map aV).map V.str).length=m.length:=by rw[Ab,Ab,Ab]
 fail "g";rw[g3,c6];by_cases g9:I.length<m.length
 .rw[Ao (show ((I.length:Nat):Int)<((m.length:Nat):Int) by (exact Int.ofNat_le.mpr (by assumption)))]
  fail "g";exact⟨r0,qe ⟨TB,m,M,n,.inl g9⟩ _ _ _ (.inr rfl) s2 l2⟩
 rw[Aw (show ¬((I.length:Nat):Int)<((m.length:Nat):Int) by ((try clear b2 f6 h6 h9 k9 t1);omega))]
 fail "g";refine⟨B,us,I,rfl,rB,f1,ok,by (exact Nat.le_trans (by assumption) (by decide)),λr3 H3 k2 s3 e3=>?_⟩
 have j1:(bY I (List.range I.length)).length<=7*(List.range I.length).length:=fS ok _
 rw[Bf]at j1;fail "g";refine⟨R,r3,g2,f,_,rfl,s3 _ _ hR,lk,c7,aM e3,by ((try clear b2 c5 f6 g3 g9 h9 k9 t1);omega),λr4 c4 H4 k1 s4 e4 c2=>?_⟩
 have U:=s3.trans s4
 have f7:=aO U f8
 fail "g";have J:∀ {S:Hp},Z_ H4 S->ZZ Pt H S/\dE Pt S:=λk=>⟨s2.trans (Z_.p (U.trans k)),l2.keep (U.trans k)⟩
 refine⟨r4,D,c4,_,m.map (YA a),rfl,.inl e4,c2,f7,by rw[Ab];((try clear b2 f6 h9 j1 t1);omega),(λc O=>⟨(a7 c O).2.1,(a7 c O).2.2⟩),λrh X fs S j8 s5 er k4 d2 d7 h5 h4 h8=>?_,λdx l1 l2 rs W F S s5 _ _ _ _ _ g8 _ _=>qe ⟨TB,m,M,n,.inr ⟨W,F,g8⟩⟩ _ _ _ (.inl rfl) (J s5).1 (J s5).2⟩
 have a9:=SM d7 h5
 have r:=nG (d7.trans (Uj (m.map (YA a))))
 have Y:=a9.Wh
 have c8:∀(i:Nat) p g,X[i]?=some p->(jZ (m.map (YA a)) fs)[i]?=some g->S p=some (.lst ((g.map one).map V.str)):=λi p g hp hg=>by
  have hi:i<(m.map (YA a)).length:=by rw[<-Y];exact(Ad.mp hg).1
  have ec:(m.map (YA a))[i]?=some (m.map (YA a))[i]:=Aa hi
  rw[wG ec]at hg;obtain⟨_,h2⟩:=d2.2 i p (iR (m.map (YA a)) fs i) hp (by rw[Ag,Fz hi];rfl)
  unfold iR at h2;rw[Ac,ec]at h2;cases hg;exact h2
 have Z:=Uy a9 a7
 have a4:X.length=(jZ (m.map (YA a)) fs).length:=by rw[d2.1,Ab,Bf,Y]
 rw[Ab]at Y;generalize h1:jZ (m.map (YA a)) fs=gs at a9 r Y c8 Z a4;have a5:Z7 S (X.map V.ref) (gs.map some):=⟨by rw[Ab,Ab,a4],λj v h hv hh=>by
  rw[Ag]at hv hh;obtain⟨pj,ep,rfl⟩:=Cc.mp hv;obtain⟨g,eg,rfl⟩:=Cc.mp hh;exact⟨pj,rfl,c8 j pj g ep eg⟩⟩
 have b9:fF (gs.map some):=λcs O=>by
  obtain⟨g,hg,e⟩:=Bb.mp O;cases e;exact(Z cs hg).1
 obtain⟨C,m1⟩:∃C,I.length=gs.length+C:=⟨I.length-gs.length,by ((try clear b2 d7 f6 h6 h9 j1 k9 t1);omega)⟩
 have b7:=aM er
 have f9:=aO (U.trans s5) rB
 fail "g";refine⟨r0,λp6 g7=>?_⟩
 have k6:=aG g7 (.lst [V.non])
 have e6:(upd S p6 (.lst [V.non])) p6=some (.lst [V.non]):=aE
 generalize upd S p6 (.lst [V.non])=H6 at k6 e6 ⊢;have j6:=aO k6 f9
 have j4:=aO k6 b7
 fail "g";rw[c6,Ab,show ((I.length:Nat):Int)-((X.length:Nat):Int)=((C:Nat):Int) by ((try clear Y b2 c5 d7 f6 g3 g9 h6 h9 j1 k9 t1);omega)]
 refine⟨p6,_,[V.non],rfl,rfl,e6,by (exact Int.natCast_nonneg _),by omega,by show 1*((C:Int)).toNat<=sizeLine;exact bM (by ((try clear b2 d7 f6 g9 h9 j1 t1);omega)),λp7 g6=>?_⟩
 rw[Pr];have k7:=k6.trans (aG g6 (.lst (List.replicate C V.non)))
 have e7:(upd H6 p7 (.lst (List.replicate C V.non))) p7=some (.lst (List.replicate C V.non)):=aE
 generalize upd H6 p7 (.lst (List.replicate C V.non))=H7 at k7 e7 ⊢;fail "g";refine jK (xs:=X.map V.ref) (ys:=List.replicate C V.non) (bL (k7 _ _ er)) (bL e7) (bM (by rw[Ab,Cg];((try clear Y b2 c5 d7 f6 g3 g9 h9 j1 k9 t1);omega))) λp8 d1=>?_
 have k8:=k7.trans (aG d1 (.lst (X.map V.ref++List.replicate C V.non)))
 have e8:(upd H7 p8 (.lst (X.map V.ref++List.replicate C V.non))) p8=some (.lst (X.map V.ref++List.replicate C V.non)):=aE
 have c9:S p8=none:=none_of k7 d1
 generalize upd H7 p8 (.lst (X.map V.ref++List.replicate C V.non))=H8 at k8 e8 ⊢;fail "g";refine⟨rh,_,gs.map some,rfl,aO k8 b7,a5.keep k8,b9,by rw[Ab];((try clear b2 d7 f6 h9 j1 t1);omega),λr9 H9 j9 s9 e9=>?_⟩
 rw[Ab,Mq,r]at e9;have b5:=k8.trans s9
 have d9:∀c,cnt fs c<=aQ (aZ λc=>aQ f c+cnt (bY I (List.range I.length)) c) c:=λc=>by
  rw[NL];exact Int.le_trans (h4 c) (NW (fD _) c)
 have d5:fs.length<=1000:=by
  rw[<-r];have:gs.flatten.length<=7*gs.length:=wJ λg hg=>by
   have:=(fG (Z g hg).1).2
   rw[Ab]at this;exact this
  ((try clear b2 c6 d7 f6 g9 h6 h9 j1 m1 t1);omega)
 have d6:∀c∈fs,hJ c:=λc O=>by
  rw[<-r]at O;obtain⟨g,hg,h7⟩:=List.mem_flatten.mp O;exact(Z g hg).2 c h7
 fail "g";refine⟨r4,r9,c4,_,fs,rfl,(s5.trans b5) _ _ e4,c2,fD _,aM e9,d5,d6,λ_ b8 j7 m4 j5 b6 j2 c3=>?_,λi c hi _ k5=>absurd (DH d9 i c (Ad.mp hi).1 hi) (by ((try clear Y a4 b2 c5 c6 d5 d7 f6 g3 g9 h6 h9 j1 k9 m1 t1);omega))⟩
 have a3:=b5.trans b6
 fail "g";refine⟨za0,λt ht=>?_⟩
 have kt:=aG ht (.tup [.ref p8,.ref b8])
 have a2:=a3.trans kt
 have sH:=J (s5.trans a2)
 have f2:=(s9.trans (b6.trans kt)) _ _ e8
 have L:∀ {y:Addr},S y=none->H y=none:=fun {y} hy=>by
  by_cases e:y=Pt
  .obtain⟨tb,g4⟩:=(J s5).2.tb;rw[e,g4]at hy;cases hy
  .cases eH:H y with
   |none=>rfl
   |some o=>rw[(J s5).1 y o e eH]at hy;cases hy
 have g5:(gs.map some++List.replicate C none).length=I.length:=by rw[Af,Ab,Cg];((try clear Y b2 c5 d5 d7 f6 g3 g9 h6 h9 j1 k9 t1);omega)
 refine q t p8 b8 (gs.map some++List.replicate C none) _ _ sH.1 sH.2 (L (none_of a3 ht)) aE (L c9) g5 ⟨TB,m,fs,M,n,by ((try clear b2 d5 d7 f6 g5 h6 h9 j1 k9 t1);omega),h8,by rw[h1,show I.length-m.length=C by ((try clear b2 d5 d7 f6 g5 h6 h9 j1 k9 t1);omega)],rfl⟩ ⟨⟨_,f2,?_⟩,?_,⟨_,kt _ _ j2,c3⟩,fD _⟩
 .exact(a5.keep a2).app Jc
 .intro cs O;rcases Bk.mp O with z|z
  .exact b9 cs z
  .cases (List.mem_replicate.mp z).2
def XC(c a d b D:Addr):Prop:=D=c\/D=a\/D=d\/D=b
inductive lN(v s w u i:Addr)(q:List V)(H:Hp)(Q:VK)(E:XK):Prop|mk(b k l n:Addr)(h:List (Option (List Nat)))(f:Nat->Option Int)(r:List (Str×Str))(g:List (List Nat))(a:List (List (List Nat)))(d:Dd)(_:q=[.ref b,.ref k,.ref l,.ref n])(_:ZE H k l h f)(_:h.length<=6)(_:Xf H b r g a)(_:dE i H)(_:H n=some (.tup d.vs))(_:d.ok a h.length)(_:(∀t j p (e:Q4) m c,ZZ i H c->dE i c->c t=some (.tup [.ref j,.ref p])->(j=k\/H j=none)->e.length=h.length->d.done g a h f e m->ZE c j p e m->Q (.ref t) c))(_:(d.no g a h f->∀D o c,XC v s w u D->ZZ i H c->dE i c->E (.ref D) o c)):lN v s w u i q H Q E
def uQ:Z9 ["book", "halyards", "locker", "deed"] ["book", "halyards", "locker", "deed"] (aK jG):=by fail "sc"
def vW(F:ZT K "behind_deed" "behind_deed" jG f fd)(G:Gs K mg w Zs Zz Zt Zx Z0 Zw Zy Zu Zv)(a5:iP P w K mg base 6 "behind_say" ["book", "halyards", "locker", "text"] (oE Zs Zy Pt))(a4:iP P w K mg base 13 "behind_haul" ["halyards", "locker", "number", "word"] (lX Zs))(a3:iP P w K mg base 3 "behind_lower" ["halyards", "locker", "number"] lE)(a2:iP P w K mg base 4 "behind_lose" ["halyards", "locker", "flag"] (mE Zt))(a1:iP P w K mg base 3 "behind_find" ["halyards", "locker", "flag"] (lI Zv)):Z8 P w K mg base (Za P w) 14 f fd ["book", "halyards", "locker", "deed"] (lN Zs Zt Zv Zy Pt):=by
 refine F.XM uQ (λvs H Q E h=>?_) (λa8 A a6 s H vs Q E S h=>?_)
 .obtain⟨b,y,I,L,J,f,bk,V,N,d,rfl,_⟩:=h;rfl
 obtain⟨b,y,I,L,J,f,bk,V,N,d,rfl,M,Z,a7,O,a,m,q,Y⟩:=h;refine⟨_,(@aD _ _ _ _ _ (cD (bA mV (bD bN (mv 3) aJ (λ_ _=>rfl)) fO (bB _)) (@aI _ _ _ (aT (cR a4 cB S (by decide) rfl (aA (mv 1) (aA (mv 2) (aA (bD bN (mv 3) aJ (λ_ _=>rfl)) (aA (bD bN (mv 3) aJ (λ_ _=>rfl)) aB))))))) bF) (@aD _ _ _ _ _ (cD (bA mV (bD bN (mv 3) aJ (λ_ _=>rfl)) fO (bB _)) (@aI _ _ _ (aT (cR a3 cB S (by decide) rfl (aA (mv 1) (aA (mv 2) (aA (bD bN (mv 3) aJ (λ_ _=>rfl)) aB)))))) bF) (@aD _ _ _ _ _ (cD (bA mV (bD bN (mv 3) aJ (λ_ _=>rfl)) fO (bB _)) (@aI _ _ _ (aT (cR a2 cB S (by decide) rfl (aA (mv 1) (aA (mv 2) (aA (bD bN (mv 3) aJ (λ_ _=>rfl)) aB)))))) bF) (@aD _ _ _ _ _ (cD (bA mV (bD bN (mv 3) aJ (λ_ _=>rfl)) fO (bB _)) (@aI _ _ _ (aT (cR a1 cB S (by decide) rfl (aA (mv 1) (aA (mv 2) (aA (bD bN (mv 3) aJ (λ_ _=>rfl)) aB)))))) bF) (@aI _ _ _ (aT (cR a5 cB S (by decide) rfl (aA (mv 0) (aA (mv 1) (aA (mv 2) (aA (bD bN (mv 3) aJ (λ_ _=>rfl)) aB))))))))))),?_⟩
 have k:∀ {e},Z_ H e->ZZ Pt H e/\dE Pt e:=λs=>⟨Z_.p s,O.keep s⟩
 cases d with
 |haul n cw=>
  replace a:H L=some (.tup [.str "haul",.int ((n:Nat):Int),.str (aV cw)]):=a
  have X:=cW a
  fail "g";refine cF a (v:=.str "haul") (aW (j:=0) rfl) ?_;fail "g";rw[show decide ((Str.ofString "haul")=(Str.ofString "haul"))=true from Ao rfl];fail "g";refine cF a (v:=.int ((n:Nat):Int)) (aW (j:=1) rfl) ?_;fail "g";refine cF a (v:=.str (aV cw)) (aW (j:=2) rfl) ?_;fail "g";exact⟨y,I,J,f,n,cw,rfl,M,Z,m,λt W x C f' e s _ u U hl hd r=>q t W x C f' e (k s).1 (k s).2 u (.inr U) hl (hd _ _) r,λi dx e s=>Y i _ _ e (.inl rfl) (k s).1 (k s).2⟩
 |lower n=>
  replace a:H L=some (.tup [.str (Str.ofString "lower"),.int ((n:Nat):Int)]):=a
  have X:=cW a
  fail "g";refine cF a (v:=.str (Str.ofString "lower")) (aW (j:=0) rfl) ?_;fail "g";rw[show decide ((Str.ofString "lower")=(Str.ofString "haul"))=false from by decide +kernel]
  fail "g";refine cF a (v:=.str (Str.ofString "lower")) (aW (j:=0) rfl) ?_;fail "g";rw[show decide ((Str.ofString "lower")=(Str.ofString "lower"))=true from Ao rfl];fail "g";refine cF a (v:=.int ((n:Nat):Int)) (aW (j:=1) rfl) ?_;fail "g";exact⟨y,I,J,f,n,rfl,M,Z,m,λt W x e s _ u U r=>q t W x _ _ e (k s).1 (k s).2 u (.inr U) (Cy ..) ⟨rfl,rfl⟩ r⟩
 |lose c=>
  replace a:H L=some (.tup [.str (Str.ofString "lose"),.str (one c)]):=a
  have X:=cW a
  fail "g";refine cF a (v:=.str (Str.ofString "lose")) (aW (j:=0) rfl) ?_;fail "g";rw[show decide ((Str.ofString "lose")=(Str.ofString "haul"))=false from by decide +kernel]
  fail "g";refine cF a (v:=.str (Str.ofString "lose")) (aW (j:=0) rfl) ?_;fail "g";rw[show decide ((Str.ofString "lose")=(Str.ofString "lower"))=false from by decide +kernel]
  fail "g";refine cF a (v:=.str (Str.ofString "lose")) (aW (j:=0) rfl) ?_;fail "g";rw[show decide ((Str.ofString "lose")=(Str.ofString "lose"))=true from Ao rfl];fail "g";refine cF a (v:=.str (one c)) (aW (j:=1) rfl) ?_;fail "g";exact⟨y,I,J,f,c,rfl,M,m,λhp t x e s _ u r=>q t y x _ _ e (k s).1 (k s).2 u (.inl rfl) rfl ⟨hp,rfl,rfl⟩ r,λi dx e s=>Y i _ _ e (.inr (.inl rfl)) (k s).1 (k s).2⟩
 |find c=>
  replace a:H L=some (.tup [.str (Str.ofString "find"),.str (one c)]):=a
  have X:=cW a
  fail "g";refine cF a (v:=.str (Str.ofString "find")) (aW (j:=0) rfl) ?_;fail "g";rw[show decide ((Str.ofString "find")=(Str.ofString "haul"))=false from by decide +kernel]
  fail "g";refine cF a (v:=.str (Str.ofString "find")) (aW (j:=0) rfl) ?_;fail "g";rw[show decide ((Str.ofString "find")=(Str.ofString "lower"))=false from by decide +kernel]
  fail "g";refine cF a (v:=.str (Str.ofString "find")) (aW (j:=0) rfl) ?_;fail "g";rw[show decide ((Str.ofString "find")=(Str.ofString "lose"))=false from by decide +kernel]
  fail "g";refine cF a (v:=.str (Str.ofString "find")) (aW (j:=0) rfl) ?_;fail "g";rw[show decide ((Str.ofString "find")=(Str.ofString "find"))=true from Ao rfl];fail "g";refine cF a (v:=.str (one c)) (aW (j:=1) rfl) ?_;fail "g";exact⟨y,I,J,f,c,rfl,M,Z,m,λhp t x e s _ u r=>q t y x _ _ e (k s).1 (k s).2 u (.inl rfl) rfl ⟨hp,rfl,rfl⟩ r,λi e s=>Y i _ _ e (.inr (.inr (.inl rfl))) (k s).1 (k s).2⟩
 |say T=>
  replace a:H L=some (.tup [.str (Str.ofString "say"),.str (cH T)]):=a
  have X:=cW a
  fail "g";refine cF a (v:=.str (Str.ofString "say")) (aW (j:=0) rfl) ?_;fail "g";rw[show decide ((Str.ofString "say")=(Str.ofString "haul"))=false from by decide +kernel]
  fail "g";refine cF a (v:=.str (Str.ofString "say")) (aW (j:=0) rfl) ?_;fail "g";rw[show decide ((Str.ofString "say")=(Str.ofString "lower"))=false from by decide +kernel]
  fail "g";refine cF a (v:=.str (Str.ofString "say")) (aW (j:=0) rfl) ?_;fail "g";rw[show decide ((Str.ofString "say")=(Str.ofString "lose"))=false from by decide +kernel]
  fail "g";refine cF a (v:=.str (Str.ofString "say")) (aW (j:=0) rfl) ?_;fail "g";rw[show decide ((Str.ofString "say")=(Str.ofString "find"))=false from by decide +kernel]
  fail "g";refine cF a (v:=.str (cH T)) (aW (j:=1) rfl) ?_;fail "g";exact⟨b,y,I,J,f,bk,V,N,T,rfl,M,Z,a7,m,O,λt W x C f' e s l _ u U hl hd r=>q t W x C f' e s l u (.inr U) hl hd r,λi D o e hD s l=>Y i D o e (hD.elim .inl λz=>.inr (.inr (.inr z))) s l⟩
noncomputable def Y9(b:Addr)(m:Int)(a st c dd:Addr):List (Str×V):=[("book",.ref b),("many",.int m),("stock_at_first",.ref a),("stock",.ref st),("hung",.ref c),("deeds",.ref dd)]
noncomputable def Wm(b:Addr):List (Str×V):=[("book",.ref b)]
noncomputable def WY(b:Addr)(m:Int):List (Str×V):=[("book",.ref b),("many",.int m)]
noncomputable def Wz(b:Addr)(m:Int)(a:Addr):List (Str×V):=[("book",.ref b),("many",.int m),("stock_at_first",.ref a)]
noncomputable def WG(b:Addr)(m:Int)(a st:Addr):List (Str×V):=[("book",.ref b),("many",.int m),("stock_at_first",.ref a),("stock",.ref st)]
noncomputable def WX(b:Addr)(m:Int)(a st c:Addr):List (Str×V):=[("book",.ref b),("many",.int m),("stock_at_first",.ref a),("stock",.ref st),("hung",.ref c)]
def KN:gR "book" (.ref b) []=Wm b:=rfl
def MB:gR "many" (.int m) (Wm b)=WY b m:=rfl
def EC:gR "stock_at_first" (.ref s0) (WY b m)=Wz b m s0:=rfl
def Ma:gR "stock" (.ref st) (Wz b m s0)=WG b m s0 st:=rfl
def MV:gR "hung" (.ref hg) (WG b m s0 st)=WX b m s0 st hg:=rfl
def Iz:gR "deeds" (.ref dd) (WX b m s0 st hg)=Y9 b m s0 st hg dd:=rfl
def SA:(Y9 b m s0 st hg dd).lookup ("book" : Str)=some (.ref b):=rfl
def LL:(Y9 b m s0 st hg dd).lookup ("many" : Str)=some (.int m):=rfl
def N8:(Y9 b m s0 st hg dd).lookup ("stock" : Str)=some (.ref st):=rfl
def Sy:(Y9 b m s0 st hg dd).lookup ("hung" : Str)=some (.ref hg):=rfl
def Qr:(Y9 b m s0 st hg dd).lookup ("deeds" : Str)=some (.ref dd):=rfl
def LK:(Y9 b m s0 st hg dd).lookup ("stock_at_first" : Str)=some (.ref s0):=rfl
def PH:(Y9 b m s0 st hg dd).lookup ("do" : Str)=none:=rfl
def FX:(Y9 b m s0 st hg dd).lookup ("read" : Str)=none:=rfl
def rQ:(Y9 b m s0 st hg dd).lookup ("log" : Str)=none:=rfl
def JX:(Y9 b m s0 st hg dd).lookup ("locker" : Str)=none:=rfl
def uZ:(Y9 b m s0 st hg dd).lookup ("halyards" : Str)=none:=rfl
def KI:(Y9 b m s0 st hg dd).lookup ("again" : Str)=none:=rfl
def DJ{h':Addr}:gR "hung" (.ref h') (Y9 b m s0 st hg dd)=Y9 b m s0 st h' dd:=rfl
def Jx{s':Addr}:gR "stock" (.ref s') (Y9 b m s0 st hg dd)=Y9 b m s0 s' hg dd:=rfl
def Z1(l:List Addr)(H a:Hp):Prop:=∀b o,b∉l->H b=some o->a b=some o
def Z1.of(s:Z_ H H'):Z1 l H H':=λb o _ e=>s b o e
def Z1.trans{a:Hp}(s:Z1 l H H')(t:Z1 l H' a):Z1 l H a:=λb o n e=>t b o n (s b o n e)
def Z1.put(a:x∈l)(s:Z1 l H H'):Z1 l H (upd H' x o):=λb u n e=>by rw[aH (λz=>n (by simp_all))];exact s b u n e
def PB{u:HO}(s:Z1 l H H')(n:a∉l)(h:Rd H a u):Rd H' a u:=by
 rcases h with h|⟨o,h⟩
 .exact .inl (s _ _ n h)
 .exact .inr ⟨o,s _ _ n h⟩
def Z1.none(s:Z1 l H H')(n:x∉l)(h:H' x=none):H x=none:=by
 cases e:H x with
 |none=>rfl
 |some o=>rw[s x o n e]at h;cases h
inductive gA(C:Addr)(n:List V)(H:Hp)(Q:VK)(zz3:XK):Prop|mk(x b l k:Addr)(j:List V)(c:List (Key×V))(f:Nat->Option Int)(m:Nat)(_:n=[.ref x,.ref b,.ref l,.int (m:Int)])(_:H x=some (.ins C k []))(_:Z4 H b=some j)(_:Rd H l (.dK c))(_:Lk c f)(_:m<=6)(_:∀g i h e d a,H g=none->H e=none->H d=none->H h=none->H i=none->e≠d->g≠d->Z1 [x] H a->a x=some (.ins C k (Y9 g m i h e d))->a g=some (.lst j)->a i=some (.dK (Zf (aQ f) (bP (aQ f) 27)))->a h=some (.dK (Zf (aQ f) (bP (aQ f) 27)))->a e=some (.lst (List.replicate m V.non))->a d=some (.lst [])->Q .non a):gA C n H Q zz3
def yA:Z9 ["self", "book", "locker", "many"] ["self", "book", "locker", "many"] (aK kL):=by fail "sc"
def xX(F:ZT K "__init__" "Tower.__init__" kL f fd)(y8:ZR P w K mg base 1 "plain_locker" ["locker"] cZ):Z8 P w K mg base ZS 2 f fd ["self", "book", "locker", "many"] (gA Z0):=by
 refine F.ok yA (λvs H Q E h=>?_) (λcdv A outer s H vs Q E hr h=>?_)
 .obtain⟨x,b,l,dx,xs,kvs,f,m,rfl,_⟩:=h;rfl
 obtain⟨x,b,l,dx,xs,kvs,f,m,rfl,hx,hb,hl,hk,hm,q⟩:=h;refine⟨_,(@aD _ _ _ _ _ (mR (mv 0) (bS iC rfl G.b_list dW (aA (mv 1) aB)) rfl) (@aD _ _ _ _ _ (mR (mv 0) (mv 3) rfl) (@aD _ _ _ _ _ (mR (mv 0) (aU y8 hr (by decide) rfl (aA (mv 2) aB)) rfl) (@aD _ _ _ _ _ (mR (mv 0) (aU y8 hr (by decide) rfl (aA (mv 2) aB)) rfl) (@aD _ _ _ _ _ (mR (mv 0) (aR TK (bO (aA dG aB)) (mv 3)) rfl) (@aI _ _ _ (mR (mv 0) (bO aB) rfl))))))),?_⟩
 fail "g";intro b' hb';have nx:b'≠x:=λz=>by rw[z,hx]at hb';cases hb'
 have nl:l∉[x]:=λz=>by
  rw[Ah.mp z]at hl;rcases hl with h|⟨_,h⟩ <;> (rw[hx]at h;cases h)
 have sE1:Z1 [x] H (upd H b' (.lst xs)):=.of (aG hb' (.lst xs))
 have e1:(upd H b' (.lst xs)) b'=some (.lst xs):=aE
 have x1:=aG hb' (.lst xs) _ _ hx
 generalize upd H b' (.lst xs)=H1 at sE1 e1 x1 ⊢;have nin:∀ {y:Addr} {o:HO} {H':Hp} {fs:List (Str×V)},H' y=some o->H' x=some (.ins Z0 dx fs)->(∀fs',o≠.ins Z0 dx fs')->y≠x:=λe1 e2 n z=>by rw[z,e2]at e1;cases e1;exact n _ rfl
 fail "g";refine⟨x,Z0,dx,[],rfl,x1,G.Z6,G.na_Tower_book,by decide,?_⟩
 rw[KN];have sE2:=sE1.put (o:=.ins Z0 dx (Wm b')) (Ah.mpr rfl)
 have x2:(upd H1 x (.ins Z0 dx (Wm b'))) x=some (.ins Z0 dx (Wm b')):=aE
 have e2:(upd H1 x (.ins Z0 dx (Wm b'))) b'=some (.lst xs):=by rw[aH nx];exact e1
 generalize upd H1 x (.ins Z0 dx (Wm b'))=H2 at sE2 x2 e2 ⊢;fail "g";refine⟨x,Z0,dx,_,rfl,x2,G.Z6,G.na_Tower_many,by show 1<1000;decide,?_⟩
 rw[MB];have sE3:=sE2.put (o:=.ins Z0 dx (WY b' (m:Int))) (Ah.mpr rfl)
 have x3:(upd H2 x (.ins Z0 dx (WY b' (m:Int)))) x=some (.ins Z0 dx (WY b' (m:Int))):=aE
 have e3:(upd H2 x (.ins Z0 dx (WY b' (m:Int)))) b'=some (.lst xs):=by rw[aH nx];exact e2
 generalize upd H2 x (.ins Z0 dx (WY b' (m:Int)))=H3 at sE3 x3 e3 ⊢;fail "g";refine⟨l,kvs,f,rfl,PB sE3 nl hl,hk,λs0 H4 hs0 s4 d4=>?_⟩;have sE4:=sE3.trans (.of s4)
 have x4:=s4 _ _ x3
 have e4:=s4 _ _ e3
 have n0:=nin d4 x4 λ_=>nofun
 fail "g";refine⟨x,Z0,dx,_,rfl,x4,G.Z6,G.na_Tower_stock_at_first,by show 2<1000;decide,?_⟩
 rw[EC];have sE5:=sE4.put (o:=.ins Z0 dx (Wz b' (m:Int) s0)) (Ah.mpr rfl)
 have x5:(upd H4 x (.ins Z0 dx (Wz b' (m:Int) s0))) x=some (.ins Z0 dx (Wz b' (m:Int) s0)):=aE
 have e5:(upd H4 x (.ins Z0 dx (Wz b' (m:Int) s0))) b'=some (.lst xs):=by rw[aH nx];exact e4
 have d5:(upd H4 x (.ins Z0 dx (Wz b' (m:Int) s0))) s0=some (.dK (Zf (aQ f) (bP (aQ f) 27))):=by rw[aH n0];exact d4
 generalize upd H4 x (.ins Z0 dx (Wz b' (m:Int) s0))=H5 at sE5 x5 e5 d5 ⊢;fail "g";refine⟨l,kvs,f,rfl,PB sE5 nl hl,hk,λst H6 hst s6 d6=>?_⟩;have sE6:=sE5.trans (.of s6)
 have x6:=s6 _ _ x5
 have e6:=s6 _ _ e5
 have d06:=s6 _ _ d5
 have n1:=nin d6 x6 λ_=>nofun
 fail "g";refine⟨x,Z0,dx,_,rfl,x6,G.Z6,G.na_Tower_stock,by show 3<1000;decide,?_⟩
 rw[Ma];have sE7:=sE6.put (o:=.ins Z0 dx (WG b' (m:Int) s0 st)) (Ah.mpr rfl)
 have x7:(upd H6 x (.ins Z0 dx (WG b' (m:Int) s0 st))) x=some (.ins Z0 dx (WG b' (m:Int) s0 st)):=aE
 have e7:(upd H6 x (.ins Z0 dx (WG b' (m:Int) s0 st))) b'=some (.lst xs):=by rw[aH nx];exact e6
 have d07:(upd H6 x (.ins Z0 dx (WG b' (m:Int) s0 st))) s0=some (.dK (Zf (aQ f) (bP (aQ f) 27))):=by rw[aH n0];exact d06
 have d17:(upd H6 x (.ins Z0 dx (WG b' (m:Int) s0 st))) st=some (.dK (Zf (aQ f) (bP (aQ f) 27))):=by rw[aH n1];exact d6
 generalize upd H6 x (.ins Z0 dx (WG b' (m:Int) s0 st))=H7 at sE7 x7 e7 d07 d17 ⊢;fail "g";refine⟨r0,λp0 hp0=>?_⟩
 have k8:=aG hp0 (.lst [V.non])
 have e8:(upd H7 p0 (.lst [V.non])) p0=some (.lst [V.non]):=aE
 generalize upd H7 p0 (.lst [V.non])=H8 at k8 e8 ⊢;fail "g";refine⟨p0,_,[V.non],rfl,rfl,e8,by (exact Int.natCast_nonneg _),by omega,by show 1*((m:Int)).toNat<=sizeLine;exact bM (by ((try clear n0 n1 nx);omega)),λhg hhg=>?_⟩
 rw[Pr];have k9:=k8.trans (aG hhg (.lst (List.replicate m V.non)))
 have h9:(upd H8 hg (.lst (List.replicate m V.non))) hg=some (.lst (List.replicate m V.non)):=aE
 have hg7:H7 hg=none:=none_of k8 hhg
 generalize upd H8 hg (.lst (List.replicate m V.non))=H9 at k9 h9 ⊢;have x9:=k9 _ _ x7
 have n2:=nin h9 x9 λ_=>nofun
 have nin1:∀ {y:Addr},y≠x->y∉[x]:=λn z=>n (Ah.mp z)
 have hgH:=sE7.none (nin1 n2) hg7
 have stH:=sE5.none (nin1 n1) hst
 have s0H:=sE3.none (nin1 n0) hs0
 fail "g";refine⟨x,Z0,dx,_,rfl,x9,G.Z6,G.na_Tower_hung,by show 4<1000;decide,?_⟩
 rw[MV];have sE10:=(sE7.trans (.of k9)).put (o:=.ins Z0 dx (WX b' (m:Int) s0 st hg)) (Ah.mpr rfl)
 have x10:(upd H9 x (.ins Z0 dx (WX b' (m:Int) s0 st hg))) x=some (.ins Z0 dx (WX b' (m:Int) s0 st hg)):=aE
 have e10:(upd H9 x (.ins Z0 dx (WX b' (m:Int) s0 st hg))) b'=some (.lst xs):=by rw[aH nx];exact k9 _ _ e7
 have d010:(upd H9 x (.ins Z0 dx (WX b' (m:Int) s0 st hg))) s0=some (.dK (Zf (aQ f) (bP (aQ f) 27))):=by rw[aH n0];exact k9 _ _ d07
 have d110:(upd H9 x (.ins Z0 dx (WX b' (m:Int) s0 st hg))) st=some (.dK (Zf (aQ f) (bP (aQ f) 27))):=by rw[aH n1];exact k9 _ _ d17
 have h10:(upd H9 x (.ins Z0 dx (WX b' (m:Int) s0 st hg))) hg=some (.lst (List.replicate m V.non)):=by rw[aH n2];exact h9
 generalize upd H9 x (.ins Z0 dx (WX b' (m:Int) s0 st hg))=H10 at sE10 x10 e10 d010 d110 h10 ⊢;fail "g";refine⟨by decide,λdd hdd=>?_⟩
 have k11:=aG hdd (.lst [])
 have f11:(upd H10 dd (.lst [])) dd=some (.lst []):=aE
 have nhd:hg≠dd:=λz=>by rw[<-z,h10]at hdd;cases hdd
 have VY:b'≠dd:=λz=>by rw[<-z,e10]at hdd;cases hdd
 have x11:=k11 _ _ x10
 have ndx:dd≠x:=λz=>by rw[z,x10]at hdd;cases hdd
 have ddH:=sE10.none (nin1 ndx) hdd
 generalize upd H10 dd (.lst [])=H11 at k11 f11 x11 ⊢;fail "g";refine⟨x,Z0,dx,_,rfl,x11,G.Z6,G.na_Tower_deeds,by show 5<1000;decide,?_⟩
 rw[Iz];refine q b' s0 st hg dd _ hb' hgH ddH stH s0H nhd VY ((sE10.trans (.of k11)).put (Ah.mpr rfl)) aE ?_ ?_ ?_ ?_ ?_
 .rw[aH nx];exact k11 _ _ e10
 .rw[aH n0];exact k11 _ _ d010
 .rw[aH n1];exact k11 _ _ d110
 .rw[aH n2];exact k11 _ _ h10
 .rw[aH ndx];exact f11
def L5(e:H p=some (.tup xs))(h:Q (.int (xs.length:Int)) H):L2.bU [.ref p] H Q:=by
 have a:Z4 H p=none:=by unfold Z4;rw[e];rfl
 unfold L2.bU;simp only[a,cW e];exact h
noncomputable def things:List (Str×Int):=[("haul",3),("lower",2),("lose",2),("find",2),("say",2)]
def Qq(b:Z7 H us hs)(ok:fF hs)(f:us[j]?=some (V.ref p))(d:hs[j]?=some h):∃c a,h=some (c::a)/\H p=some (.lst (V.str (one c)::(a.map one).map V.str)):=by
 have r:=b.val j _ _ f d
 cases h with
 |none=>cases r
 |some a=>
  obtain⟨q,e,g⟩:=r;cases e;have:=(fG (ok a (Am d))).1
  cases a with
  |nil=>exact absurd this (by decide)
  |cons c a=>exact⟨c,a,rfl,g⟩
def tS(H:Hp)(l:List Addr):Prop:=∀p∈l,(∀a,H p≠some (.tup a))/\(∀k,H p≠some (.dK k))/\∀z b,H p≠some (.lst (.str z::b))
def Z7.ZN{l:List Addr}(h:Z7 H us hs)(ok:fF hs)(s:Z1 l H H')(n:tS H l):Z7 H' us hs:=by
 refine⟨h.len,λj v o a b=>?_⟩;have r:=h.val j v o a b
 cases o with
 |none=>exact r
 |some i=>
  obtain⟨p,rfl,f⟩:=r;obtain⟨c,g,e,d⟩:=Qq h ok a b;exact⟨p,rfl,s _ _ (λz=>(n p z).2.2 _ _ d) f⟩
def ZE.ZN{l:List Addr}{B R:Addr}{f:Nat->Option Int}(i:ZE H B R hs f)(s:Z1 l H H')(k:B∉l)(n:tS H l):ZE H' B R hs f:=by
 obtain⟨⟨e,h,g⟩,c,⟨a,b,d⟩,j⟩:=i;exact⟨⟨e,s _ _ k h,g.ZN c s n⟩,c,⟨a,s _ _ (λz=>(n R z).2.1 _ b) b,d⟩,j⟩
def ZF.ZN(h:ZF H r bk)(s:Z1 l H H')(f:r∉l)(n:tS H l):ZF H' r bk:=by
 obtain⟨e,i,g,d⟩:=h;exact⟨e,s _ _ f i,g,λj p b a c=>s _ _ (λz=>(n p z).1 _ (d j p b a c)) (d j p b a c)⟩
def Chain(cws:List (List Nat))(a:List (List (List Nat)))(m:Nat)(c:Nat->Option Int):List Dd->List (Option (List Nat))->(Nat->Option Int)->Prop
 |[],b,f=>b=List.replicate m none/\f=c
 |d::r,hs',f'=>∃b f,Chain cws a m c r b f/\d.ok a m/\d.done cws a b f hs' f'
def Chain.one(e:qT mss)(c:mss.Nodup){m:Nat}:∀ {r:List Dd} {h g:Q4} {j i:Nat->Option Int},Chain cws mss m f0 r h j->Chain cws mss m f0 r g i->h=g/\j=i
 |[],_,_,_,_,a,b=>⟨a.1.trans b.1.symm,a.2.trans b.2.symm⟩
 |d::r,_,_,_,_,⟨hs,f,a1,_,a2⟩,⟨hs',f',b1,_,b2⟩=>by
  obtain⟨rfl,rfl⟩:=Chain.one e c a1 b1;exact Dd.one e c a2 b2
def Chain.down:∀ {A:List Dd} {a:Q4} {f:Nat->Option Int},Chain cws mss m f0 (A++B) a f->∃b c,Chain cws mss m f0 B b c
 |[],a,f,h=>⟨a,f,h⟩
 |_::A,_,_,⟨_,_,h,_⟩=>Chain.down  h
def Chain.at{ds:List Dd}{f:Nat->Option Int}(h:Chain cws mss m f0 ds.reverse hs f){d:Dd}(a:ds[i]?=some d):∃b c,Chain cws mss m f0 (d::(ds.take i).reverse) b c:=by
 have e:ds.reverse=(ds.drop (i+1)).reverse++(d::(ds.take i).reverse):=by
  rw[show d::(ds.take i).reverse=(ds.take _).reverse by rw[Be,a,List.reverse_append];rfl,<-List.reverse_append,En]
 rw[e]at h;exact h.down
structure Zm (C:Addr) (H:Hp) (x b s0 st hg dd dx:Addr) (m:Nat) (bk:List (Str×Str)) (cws:List (List Nat)) (mss:List (List (List Nat))) (f0:Nat->Option Int) (ds:List Dd) (dps:List Addr) (hs:List (Option (List Nat))) (f:Nat->Option Int):Prop where
 ins:H x=some (.ins C dx (Y9 b m s0 st hg dd))
 tw:ZE H hg st hs f
 len:hs.length=m
 six:m<=6
 Yy:Xf H b bk cws mss
 UE:∃kvs,H s0=some (.dK kvs)/\Lk kvs f0
 Uh:aZ (aQ f0)=f0
 log:H dd=some (.lst (dps.map V.ref))
 VS:dps.length=ds.length
 dat:∀(j:Nat) p d,dps[j]?=some p->ds[j]?=some d->H p=some (.tup d.vs)
 Uv:∀d∈ds,d.ok mss m
 ch:Chain cws mss m f0 ds.reverse hs f
 RX:hg≠dd
 VY:b≠dd
section
variable {m:Nat} {ds:List Dd} {f:Nat->Option Int}
def Zm.ZN{l:List Addr}(t:Zm C H x b s0 st hg dd dx m bk cws mss f0 ds dps hs f)(s:Z1 l H H')(h:x∉l)(i:hg∉l)(o:b∉l)(k:dd∉l)(n:tS H l):Zm C H' x b s0 st hg dd dx m bk cws mss f0 ds dps hs f:=by
 obtain⟨a,c,q⟩:=t.UE;exact⟨s _ _ h t.ins,t.tw.ZN s i n,t.len,t.six,⟨t.Yy.UZ.ZN s o n,t.Yy.cw,t.Yy.le,t.Yy.ms⟩,⟨a,s _ _ (λz=>(n _ z).2.1 _ c) c,q⟩,t.Uh,s _ _ k t.log,t.VS,λj p d e g=>s _ _ (λz=>(n p z).1 _ (t.dat j p d e g)) (t.dat j p d e g),t.Uv,t.ch,t.RX,t.VY⟩
def Zm.keep(t:Zm C H x b s0 st hg dd dx m bk cws mss f0 ds dps hs f)(s:Z_ H H'):Zm C H' x b s0 st hg dd dx m bk cws mss f0 ds dps hs f:=t.ZN (l:=[]) (.of s) (λz=>nomatch z) (λz=>nomatch z) (λz=>nomatch z) (λz=>nomatch z) (λp z=>nomatch z)
def Zm.out(t:Zm C H x b s0 st hg dd dx m bk cws mss f0 ds dps hs f):∃(a:List V) (c:List Addr),H hg=some (.lst a)/\H b=some (.lst (c.map V.ref)):=by
 obtain⟨a,d,_⟩:=t.tw.XX;obtain⟨c,e,_⟩:=t.Yy.UZ;exact⟨a,c,d,e⟩
def Qm(l:dE Pt H):tS H [Pt]:=λp a=>by
 obtain⟨b,e⟩:=l.tb;grind
def wH(l:dE Pt H)(h:H p=some o)(n:∀a,o≠.tbl a):p∉[Pt]:=λz=>by
 obtain⟨b,e⟩:=l.tb;grind
def Ka(s:ZZ Pt H H'):Z1 [Pt] H H':=λp o n h=>s p o (λz=>n (Ah.mpr z)) h
def Zm.XH(t:Zm C H x b s0 st hg dd dx m bk cws mss f0 ds dps hs f)(s:ZZ Pt H H')(l:dE Pt H):Zm C H' x b s0 st hg dd dx m bk cws mss f0 ds dps hs f:=by
 obtain⟨d,e,a,c⟩:=t.out;exact t.ZN (Ka s) (wH l t.ins λ_=>nofun) (wH l a λ_=>nofun) (wH l c λ_=>nofun) (wH l t.log λ_=>nofun) (Qm l)
def VU{z:Addr}(c:p≠x)(b:p≠y)(a:p≠z):p∉[x,y,z]:=λe=>by grind
def Zm.Vd(t:Zm C H x b s0 st hg dd dx m bk cws mss f0 ds dps hs f)(l:dE Pt H):tS H [x,dd,Pt]:=λp a=>by
 simp at a;rcases a with z|z|z
 .rw[z,t.ins];exact⟨λ_=>nofun,λ_=>nofun,λ_ _=>nofun⟩
 .rw[z,t.log];refine⟨λ_=>nofun,λ_=>nofun,λz h e=>?_⟩;have c:dps.map V.ref=V.str z::h:=by injection Bj e
  cases dps with
  |nil=>cases c
  |cons d r=>injection c with g _;cases g
 .exact Qm l p (Ah.mpr z)
def mQ(h:H D=some (.lst (ps.map V.ref))):tS H [D]:=λp b=>by
 rw[Ah.mp b,h];refine⟨λ_=>nofun,λ_=>nofun,λz f e=>?_⟩;have a:ps.map V.ref=V.str z::f:=by simp_all
 cases ps with
 |nil=>cases a
 |cons d r=>injection a with c _;cases c
def dU(l:dE Pt H)(h:H p=some o)(n:∀a,o≠.tbl a):p≠Pt:=λz=>wH l h n (Ah.mpr z)
end
inductive lQ(C F A G B j:Addr)(y:List V)(H:Hp)(Q:VK)(E:XK):Prop|mk(x b q z r p u n:Addr)(m:Nat)(w:List (Str×Str))(c:List (List Nat))(a:List (List (List Nat)))(s:Nat->Option Int)(v:List Dd)(h:List Addr)(l:List (Option (List Nat)))(f:Nat->Option Int)(d:Dd)(_:y=[.ref x,.ref n])(_:Zm C H x b q z r p u m w c a s v h l f)(_:H n=some (.tup d.vs))(_:d.ok a m)(_:h.length<=900)(_:dE j H)(_:(∀k g (i:Q4) t e,Z1 [x,p,j] H e->dE j e->(g=r\/H g=none)->d.done c a l f i t->Zm C e x b q k g p u m w c a s (v++[d]) (h++[n]) i t->Q .non e))(_:(d.no c a l f->∀D o e,XC F A G B D->ZZ j H e->dE j e->E (.ref D) o e)):lQ C F A G B j y H Q E
def Dd.head(d:Dd):∃z a,d.vs=.str z::a/\things.lookup z=some (((V.str z::a).length:Nat):Int):=by
 cases d<;>exact⟨_,_,rfl,rfl⟩
def NJ(h:dE Pt H)(s:Z1 l H H')(n:Pt∉l)(d:∀c,H c=some (sV c NP)->c∉l):dE Pt H':=h.elim (λe=>.inl (s _ _ n e)) λ⟨c,a,b⟩=>.inr ⟨c,s _ _ n a,s _ _ (d c b) b⟩
def O7:Z9 ["self", "deed", "behind"] ["self", "deed"] (aK pK):=by fail "sc"
def Mf(F:ZT K "do" "Tower.do" pK f fd)(b5:iP P w K mg base 14 "behind_deed" ["book", "halyards", "locker", "deed"] (lN Zs Zt Zv Zy Pt)):Z8 P w K mg base (Za P w) 15 f fd ["self", "deed"] (lQ Z0 Zs Zt Zv Zy Pt):=by
 refine F.XM O7 (λvs H Q E h=>?_) (λd4 A b6 s H vs Q E hr h=>?_)
 .obtain⟨x,b,T,st,hg,k,C,dp,m,bk,b4,a7,f0,ds,B,hs,f,d,rfl,_⟩:=h;rfl
 obtain⟨a,b,T,st,hg,k,C,dp,m,bk,b4,a7,f0,ds,B,hs,f,d,rfl,L,N,Z,d3,b8,q,qe⟩:=h;refine⟨_,(@aD _ _ _ _ _ (cD (PW.pt (sQ (bA (HI hr.YQ) (mv 1) (dM aB) (bB _)) (lZ (bA Of (GA rfl G.d_THINGS_IN (aA (bD bN (mv 1) aJ (λ_ _=>rfl)) aB)) (aY cO rfl G.b_len bR (aA (mv 1) aB)) (bB _))))) (@aI _ _ _ (jY fY rfl rfl rfl G.c_NoDeed G.x_NoDeed Cs (@cY _ _ _ _ _ _ aB))) bF) (@aD _ _ _ _ _ (aP 2 O7.nd (cR b5 cB hr (by decide) rfl (aA (gP (mv 0) rfl) (aA (gP (mv 0) rfl) (aA (gP (mv 0) rfl) (aA (mv 1) aB)))))) (@aD _ _ _ _ _ (mR (mv 0) (bD bN (mv 2) aJ (λ_ _=>rfl)) rfl) (@aD _ _ _ _ _ (mR (mv 0) (bD bN (mv 2) aJ (λ_ _=>rfl)) rfl) (@aI _ _ _ (bW (cM Bg Ec Ed yS (gP (mv 0) rfl) (aA (mv 1) aB)))))))),?_⟩
 obtain⟨z,zs,ed,hz⟩:=d.head;have b1:=N
 rw[ed]at N;have d1:=cW N
 fail "g";refine⟨by decide,λp0 c4=>?_⟩
 have W:=aG c4 (.tup [])
 refine Ki (W _ _ N) aE ?_;have J:=L.keep W
 have Y:=W _ _ N
 have I:=W _ _ b1
 generalize upd H p0 (.tup [])=H1 at W J Y I ⊢;have a1:=J.ins
 have c7:=cW Y
 fail "g";rw[show (V.str z::zs).isEmpty=false from rfl];fail "g";refine cF Y (v:=.str z) (aW (j:=0) rfl) ?_;fail "g";refine⟨z,rfl,?_⟩;rw[show List.lookup z [("haul",3),("lower",2),("lose",2),("find",2),("say",2)]=some (((V.str z::zs).length:Nat):Int) from hz];fail "g";refine L5 Y ?_;fail "g";rw[show (!decide ((((V.str z::zs).length:Nat):Int)=(((V.str z::zs).length:Nat):Int)))=false by rw[Ao rfl];rfl]
 fail "g";refine⟨a,Z0,C,_,_,rfl,a1,G.Z6,G.na_Tower_book,SA,?_⟩;fail "g";refine⟨a,Z0,C,_,_,rfl,a1,G.Z6,G.na_Tower_hung,Sy,?_⟩;fail "g";refine⟨a,Z0,C,_,_,rfl,a1,G.Z6,G.na_Tower_stock,N8,?_⟩;fail "g";have a2:=L.len
 have M:=b8.keep W
 refine⟨b,hg,st,dp,hs,f,bk,b4,a7,d,rfl,J.tw,by rw[a2];exact L.six,J.Yy,M,I,by rw[a2];exact Z,λt i r c3 f' R s2 l2 ep hB hl b2 a5=>?_,λc5 D o H' hD s' l'=>qe c5 D o H' hD ((Z_.p W).trans s') l'⟩
 have S:=J.XH s2 M
 have ea:=S.ins
 have O:=S.log
 obtain⟨us,u1,u2⟩:=id a5.XX;obtain⟨_,qs,_,c1⟩:=S.out;have a6:i≠k:=λz=>by
  rcases hB with e|e
  .exact L.RX (e.symm.trans z)
  .rw[z,J.log]at e;cases e
 have nd:k≠a:=λz=>by rw[z,ea]at O;cases O
 have np:t≠a:=λz=>by rw[z,ea]at ep;cases ep
 have up:∀o u,upd (upd R a o) a u=upd R a u:=λo u=>Ol
 have c9:=cW ep
 fail "g";refine cF ep (v:=.ref i) (aW (j:=0) rfl) ?_;fail "g";refine⟨a,Z0,C,_,rfl,ea,G.Z6,G.na_Tower_hung,by show 6<1000;decide,?_⟩
 rw[DJ];have a3:(upd R a (.ins Z0 C (Y9 b m T st i k))) a=some (.ins Z0 C (Y9 b m T st i k)):=aE
 have p3:(upd R a (.ins Z0 C (Y9 b m T st i k))) t=some (.tup [.ref i,.ref r]):=by rw[aH np];exact ep
 fail "g";refine cF p3 (v:=.ref r) (aW (j:=1) rfl) ?_;fail "g";refine⟨a,Z0,C,_,rfl,a3,G.Z6,G.na_Tower_stock,by show 6<1000;decide,?_⟩
 rw[Jx,up];have a4:(upd R a (.ins Z0 C (Y9 b m T r i k))) a=some (.ins Z0 C (Y9 b m T r i k)):=aE
 have c6:(upd R a (.ins Z0 C (Y9 b m T r i k))) k=some (.lst (B.map V.ref)):=by rw[aH nd];exact O
 have d2:=bL c6
 have c8:(B.map V.ref).length<=1000:=by rw[Ab];(exact Nat.le_trans (by assumption) (by decide))
 fail "g";refine⟨a,Z0,C,_,_,rfl,a4,G.Z6,G.na_Tower_deeds,Qr,?_⟩;fail "g";have na:a≠Pt:=dU l2 ea λ_=>nofun
 have b7:k≠Pt:=dU l2 O λ_=>nofun
 have sE:Z1 [a,k] R (upd (upd R a (.ins Z0 C (Y9 b m T r i k))) k (.lst (B.map V.ref++[.ref dp]))):=λc o nb e=>by
  rw[aH (λz=>nb (by rw[z];exact Ak _ (Al ..))),aH (λz=>nb (by rw[z];exact Al ..))]
  exact e
 have U:∀ {p:Addr},p≠a->p≠k->p∉[a,k]:=λh1 h2 e=>by
  simp only[List.mem_cons,List.not_mem_nil,or_false]at e;exact e.elim h1 h2
 have dl:tS R [a,k]:=λp X=>S.Vd l2 p (by simp only[List.mem_cons,List.not_mem_nil,or_false]at X ⊢;exact X.elim .inl λz=>.inr (.inl z))
 have l3:dE Pt (upd (upd R a (.ins Z0 C (Y9 b m T r i k))) k (.lst (B.map V.ref++[.ref dp]))):=NJ l2 sE (U na.symm b7.symm) (λc hc=>U (λz=>by rw[z,ea]at hc;cases hc) (λz=>by rw[z,O]at hc;cases hc))
 obtain⟨b9,a9,c2⟩:=S.UE;refine q r i c3 f' _ (λp o n e=>sE p o (λz=>n (by simp only[List.mem_cons,List.not_mem_nil,or_false]at z ⊢;exact z.elim .inl λy=>.inr (.inl y))) (s2 p o (λz=>n (by simp only[List.mem_cons,List.not_mem_nil,or_false];exact .inr (.inr z))) (W _ _ e))) l3 (hB.elim .inl λz=>.inr (none_of W z)) b2 ⟨by rw[aH (Ne.symm nd)];exact aE,a5.ZN sE (U (λz=>by rw[z,ea]at u1;cases u1) a6) dl,by rw[hl,a2],L.six,⟨S.Yy.UZ.ZN sE (U (λz=>by rw[z,ea]at c1;cases c1) L.VY) dl,S.Yy.cw,S.Yy.le,S.Yy.ms⟩,⟨b9,sE _ _ (λz=>(dl _ z).2.1 _ a9) a9,c2⟩,L.Uh,by rw[aE,List.map_append];rfl,by rw[List.length_append,List.length_append,L.VS];rfl,λj p d' X hd=>?_,λd' hd=>?_,?_,a6,L.VY⟩
 .have a8:R p=some (.tup d'.vs):=by
   have b3:=L.VS
   rcases Hh j B.length with z|z
   .rw[An z]at X;rw[An (by ((try clear a2 a6 b7 c8 d3 hB hl na nd np);omega))]at hd
    exact S.dat j p d' X hd
   .rw[Aq z]at X;rw[Aq (by ((try clear a2 a6 b7 c8 d3 hB hl na nd np);omega)),<-b3]at hd
    have w1:=(Ad.mp X).1
    have eu:j-B.length=0:=by have:j-B.length<1:=w1;((try clear a2 a6 b3 b7 c8 d3 hB hl na nd np w1 z);omega)
    rw[eu]at X hd;cases X;cases hd;exact s2 _ _ (dU M I λ_=>nofun) I
  exact sE _ _ (λz=>(dl _ z).1 _ a8) a8
 .rcases Bk.mp hd with z|z
  .exact L.Uv d' z
  .rw[Ah.mp z];exact Z
 .rw[List.reverse_append];exact⟨hs,f,L.ch,Z,b2⟩
noncomputable def iT(cws:List (List Nat)):List Str:=cws.map λa=>aV (a++[YV a])
noncomputable def Vy:Option (List Nat)->V
 |none=>.non
 |some a=>.str (oF (a.map one))
noncomputable def VF(cws:List (List Nat)):Option (List Nat)->V
 |none=>.non
 |some a=>match (iT cws).findIdx? (λy=>y==oF (a.map one)) with|some j=>.int (j:Int)|none=>.non
def R6(y:Str)(a:List Str):W3 (.str y) (a.map V.str)=decide (y∈a):=by
 unfold W3;rw[List.any_map,Hk,List.any_eq_true,Bp];constructor
 .rintro⟨z,hz,e⟩;have b:=e
  rwa[<-Iu b]
 .intro h;exact⟨y,h,show _=true from Fe _⟩
def IT(a:List Str):W3 .non (a.map V.str)=false:=by
 unfold W3;rw[List.any_map,List.any_eq_false];intro z _ h;cases h
inductive oB(C:Addr)(i:List V)(H:Hp)(Q:VK)(zz3:XK):Prop|mk(a b k j h n l m d e f c)(_:i=[.ref a])(_:H a=some (.ins C l (Y9 b m k j h n)))(_:Z4 H h=some d)(_:Z7 H d e)(_:d.length<=1000)(_:fF e)(_:ZF H b f)(_:f.length<=60)(_:sO f c)(_:∀r g,H r=none->Z_ H g->g r=some (.lst (e.map (VF c)))->Q (.ref r) g):oB C i H Q zz3
def Si:Z9 ["self", "spoken", "words"] ["self"] (aK hU):=by fail "sc"
def yI(F:ZT K "read" "Tower.read" hU f fd)(o7:ZR P w K mg base 5 "with_check" ["word"] jN)(t9:iP P w K mg base 4 "read_of" ["flags"] (pC Zx)):Z8 P w K mg base ZS 6 f fd ["self"] (oB Z0):=by
 refine F.ok Si (λvs H Q E h=>?_) (λc6 A a3 s H vs Q E hr h=>?_)
 .obtain⟨a,b,s0,st,hg,dd,dx,m,us,v,bk,d,rfl,_⟩:=h;rfl
 obtain⟨a,b,s0,st,hg,dd,dx,m,us,v,bk,d,rfl,ha,a8,l,a4,a6,b7,c5,I,q⟩:=h;refine⟨_,(@aD _ _ _ _ _ (aP 1 Si.nd (cL rfl (bT (gP (mv 0) rfl)) (iI (N:=["word", "meaning"]) (by decide +kernel) (by decide +kernel)) (by decide +kernel) rfl (by decide +kernel) (λ_ _ _ _=>(eP (K:=K) (i:=0) (j:=1) (by rfl) (by rfl) (show List.Nodup (["word", "meaning"]:List Str) by decide +kernel) (by rfl) (by exact Or.inl rfl) (by exact Or.inr rfl) (by rfl) (by exact Or.inl rfl) (by exact Or.inr rfl))) (λ_ _ _ _=>cX) (λ_ _ _ _=>(aU o7 hr (by decide) rfl (aA (mv 0) aB))))) (@aD _ _ _ _ _ (fK (i:=2) Si.nd rfl (Or.inl rfl) rfl (bT (gP (mv 0) rfl)) (iI (N:=["hoist"]) (by decide +kernel) (by decide +kernel)) (by decide +kernel) rfl (by decide +kernel) (λ_ _ _ _=>(bC (i:=0) (show List.Nodup (["hoist"]:List Str) by decide +kernel) rfl (Or.inl rfl))) (λ_ _ _ _=>cX) (λ_ _ _ _=>(qU (bA U_ (mv 0) dG (bB _)) dG (cR t9 rY hr (by decide) rfl (aA (mv 0) aB))))) (@aI _ _ _ (aT (cL rfl (bT (mv 2)) (gF (N:=["word", "spoken"]) ["self", "spoken", "words"] (aK hU) [none,some 1] rfl rfl rfl (λx h=>cC h) (by decide +kernel)) (by decide +kernel) rfl (by decide +kernel) (λ_ _ _ _=>(bC (i:=0) (show List.Nodup (["word", "spoken"]:List Str) by decide +kernel) rfl (Or.inl rfl))) (λ_ _ _ _=>cX) (λ_ _ _ _=>(qU (bA HE (mv 0) (mv 1) (by rfl)) (cM Bg Gh PySem.F.type_list_index LW (mv 1) (aA (mv 0) aB)) dG))))))),?_⟩
 obtain⟨qs,b1,b2,b3⟩:=id b7;have rq:=aM b1
 have T:(qs.map V.ref).length=bk.length:=by rw[Ab,b2]
 fail "g";refine⟨a,Z0,dx,_,_,rfl,ha,G.Z6,G.na_Tower_book,SA,?_⟩;fail "g";refine gL (xs:=qs.map V.ref) (λj=>(d[j]?).map λZ=>V.str (aV (Z++[YV Z]))) rq (by rw[T];exact bG (by (exact Nat.le_trans (by assumption) (by decide)))) (λj x Hc A B n M J hB=>?_) (λD Hd hD O hd=>?_)
 .rw[Ag]at n;obtain⟨p,ep,rfl⟩:=Cc.mp n;have C:j<bk.length:=by rw[<-b2];exact(Ad.mp ep).1
  have ec:d[j]?=some (d[j]'(by rw[I.1];exact C)):=Aa _
  obtain⟨hw,b6,b5,b4⟩:=I.2 j _ _ (Aa C) ec;have tp:=M _ _ (b3 j p _ ep (Aa C))
  rw[hw]at tp;have c2:=cW tp
  fail "g";refine⟨Wk.set rfl (Wk.set rfl (Wk.refl _)),?_⟩;fail "g";exact⟨_,rfl,b6,b5,b4,λH' s' _ _=>J _ (by rw[ec];rfl) H' s'⟩
 .rw[T,<-I.1,dO (λZ=>V.str (aV (Z++[YV Z])))]at hd;have S:Hd D=some (.lst ((iT d).map V.str)):=by rw[hd];unfold iT;rw[Cd];rfl
  have b8:=O _ _ ha
  have a9:=aO O a8
  have X:=l.keep O
  fail "g";refine⟨a,Z0,dx,_,_,rfl,b8,G.Z6,G.na_Tower_hung,Sy,?_⟩;fail "g";refine gL (xs:=us) (λj=>(v[j]?).map Vy) a9 (bG (by (exact Nat.le_trans (by assumption) (by decide)))) (λj x Hc A B n M J hB=>?_) (λD2 c7 c4 t W=>?_)
  .have a7:j<v.length:=by rw[<-l.len];exact(Ad.mp n).1
   obtain⟨o,eh⟩:∃o,v[j]?=some o:=⟨_,Aa a7⟩;have hv:=(X.keep M).val j x _ n eh
   cases o with
   |none=>
    obtain rfl:x=V.non:=hv;fail "g";refine⟨Wk.set rfl (Wk.refl _),?_⟩;fail "g";rw[show decide (V.non=V.non)=true from rfl];fail "g";exact J _ (by rw[eh];rfl) _ (Z_.refl _)
   |some L=>
    obtain⟨pc,rfl,a5⟩:=hv;have Y:=a6 L (Am eh)
    have h7:=fG Y
    fail "g";refine⟨Wk.set rfl (Wk.refl _),?_⟩;fail "g";rw[show decide (V.ref pc=V.non)=false from Aw (λz=>nomatch z)]
    fail "g";exact⟨pc,L.map one,rfl,aM a5,by ((try clear T a4 a7 b2 c5);omega),λz hz=>by obtain⟨c,_,rfl⟩:=Bb.mp hz;show 1<=1000;decide,λ_ H' s'=>J _ (by rw[eh];rfl) H' s',λz=>by rw[Y]at z;cases z⟩
  .rw[l.len,dO Vy]at W;have r2:=aM W
   have a2:=aM (t _ _ S)
   have c3:(v.map Vy).length<=1000:=by rw[Ab,<-l.len];exact a4
   fail "g";refine gL (xs:=v.map Vy) (λj=>(v[j]?).map (VF d)) r2 (bG (by (exact Nat.le_trans (by assumption) (by decide)))) (λj x Hc A B n M J hB=>?_) (λD3 c1 b9 a1 U=>?_)
   .rw[Ag]at n;obtain⟨o,eo,rfl⟩:=Cc.mp n;have u:=aO M a2
    have r:=J (VF d o) (by rw[eo];rfl)
    cases o with
    |none=>
     fail "g";refine⟨Wk.set rfl (Wk.refl _),?_⟩;fail "g";refine TR (neg:=false) u rfl (dD _) ?_;rw[if_neg Ar,show Vy none=V.non from rfl,IT];fail "g";exact r _ (Z_.refl _)
    |some L=>
     have R:∀Hd,Z_ Hc Hd->A (match (iT d).findIdx? (λy=>y==oF (L.map one)) with|some j=>V.int (j:Int)|none=>.non) Hd:=r
     change mX 0 (V.str (oF (L.map one))) _ _ _
     generalize oF (L.map one)=z at R ⊢;fail "g";refine⟨Wk.set rfl (Wk.refl _),?_⟩;fail "g";refine TR (neg:=false) u rfl (dD _) ?_;rw[if_neg Ar,R6];cases e:(iT d).findIdx? (λy=>y==z) with
     |none=>
      rw[e]at R;rw[decide_eq_false λhm=>by grind]
      fail "g";exact R _ (Z_.refl _)
     |some k=>
      rw[e]at R;obtain⟨k1,k2,k3⟩:=List.findIdx?_eq_some_iff_getElem.mp e;have ez:=Iu k2
      rw[Ao (by rw[<-ez];exact Bx _)]
      fail "g";refine Iw u (by rw[Aa k1,ez]) (λi y hi hy e2=>?_) (R _ (Z_.refl _))
      obtain⟨i1,i2⟩:=Ad.mp hy;have:=k3 i hi
      rw[i2,e2]at this;simp at this
   .rw[Ab,dO (VF d)]at U;exact q D3 c1 (none_of (O.trans t) b9) (O.trans (t.trans a1)) U
inductive lF(C:Addr)(g:List V)(H:Hp)(Q:VK)(zz3:XK):Prop|mk(a b h e i k j m c f)(_:g=[.ref a])(_:H a=some (.ins C j (Y9 b m h e i k)))(_:Rd H e (.dK c))(_:Lk c f)(_:∀r d,H r=none->Z_ H d->d r=some (.dK (Zf (aQ f) (bP (aQ f) 27)))->Q (.ref r) d):lF C g H Q zz3
def tU:Z9 ["self"] ["self"] (aK iD):=by fail "sc"
def tW(F:ZT K "locker" "Tower.locker" iD f fd)(n:ZR P w K mg base 1 "plain_locker" ["locker"] cZ):Z8 P w K mg base ZS 2 f fd ["self"] (lF Z0):=by
 refine F.ok tU (λo H Q E h=>?_) (λz A d s H o Q E j h=>?_)
 .obtain⟨a,b,p,k,v,y,l,m,c,f,rfl,_⟩:=h;rfl
 obtain⟨a,b,p,k,v,y,l,m,c,f,rfl,x,i,u,q⟩:=h;refine⟨_,(@aI _ _ _ (aT (aU n j (by decide) rfl (aA (gP (mv 0) rfl) aB)))),?_⟩
 refine⟨a,Z0,l,_,_,rfl,x,G.Z6,G.na_Tower_stock,N8,?_⟩;exact⟨k,c,f,rfl,i,u,λr B j t e=>q r B j t e⟩
inductive iS(C:Addr)(h:List V)(H:Hp)(Q:VK)(zz3:XK):Prop|mk(a b j i g l k m e f)(_:h=[.ref a])(_:H a=some (.ins C k (Y9 b m j i g l)))(_:Z4 H g=some e)(_:Z7 H e f)(_:e.length<=1000)(_:∀r c d,H r=none->Z_ H d->d r=some (.lst c)->Z7 d c f->(∀p,V.ref p∈c->H p=none)->Q (.ref r) d):iS C h H Q zz3
def pX:Z9 ["self"] ["self"] (aK fQ):=by fail "sc"
def pW(F:ZT K "halyards" "Tower.halyards" fQ f fd):Z8 P w K mg base ZS 1 f fd ["self"] (iS Z0):=by
 refine F.ok pX (λj H Q E h=>?_) (λZ A k s H j Q E hr h=>?_)
 .obtain⟨a,b,L,C,T,Y,v,m,y,hs,rfl,_⟩:=h;rfl
 obtain⟨a,b,L,C,T,Y,v,m,y,hs,rfl,W,n,e,R,q⟩:=h;refine⟨_,(@aI _ _ _ (aT (cL rfl (bT (gP (mv 0) rfl)) (iI (N:=["hoist"]) (by decide +kernel) (by decide +kernel)) (by decide +kernel) rfl (by decide +kernel) (λ_ _ _ _=>(bC (i:=0) (show List.Nodup (["hoist"]:List Str) by decide +kernel) rfl (Or.inl rfl))) (λ_ _ _ _=>cX) (λ_ _ _ _=>(qU (bA U_ (mv 0) dG (bB _)) dG (bS iC rfl G.b_list dW (aA (mv 0) aB))))))),?_⟩
 fail "g";refine⟨a,Z0,v,_,_,rfl,W,G.Z6,G.na_Tower_hung,Sy,?_⟩;fail "g";refine OW (hs:=hs) n (bG (by (exact Nat.le_trans (by assumption) (by decide)))) e.len (λi x h Hc A B O S I u=>?_) (λD Hd j X J U d o=>?_)
 .have t:=(e.keep I).val i x h O S
  cases h with
  |none=>
   obtain rfl:x=V.non:=t;fail "g";refine⟨Wk.set rfl (Wk.refl _),?_⟩;fail "g";rw[show decide (V.non=V.non)=true from rfl];fail "g";exact u .non _ (Z_.refl _) rfl λp z=>nomatch z
  |some cs=>
   obtain⟨M,rfl,l⟩:=t;have rc:=aM l
   fail "g";refine⟨Wk.set rfl (Wk.refl _),?_⟩;fail "g";rw[show decide (V.ref M=V.non)=false from Aw (λz=>nomatch z)]
   fail "g";intro r c;exact u (.ref r) _ (aG c _) ⟨r,rfl,aE⟩ λp z=>by cases z;exact c
 .exact q D j Hd X J U d o
inductive gY(C:Addr)(f:List V)(H:Hp)(Q:VK)(zz3:XK):Prop|mk(a b h g i e j m d)(_:f=[.ref a])(_:H a=some (.ins C j (Y9 b m h g i e)))(_:H e=some (.lst d))(_:∀r c,H r=none->Z_ H c->c r=some (.lst d)->Q (.ref r) c):gY C f H Q zz3
def GO:Z9 ["self"] ["self"] (aK mZ):=by fail "sc"
def Bn(F:ZT K "log" "Tower.log" mZ f fd):Z8 P w K mg base ZS 1 f fd ["self"] (gY Z0):=by
 refine F.ok GO (λk H Q E h=>?_) (λu A c s H k Q E d h=>?_)
 .obtain⟨a,b,n,l,o,t,i,m,j,rfl,_⟩:=h;rfl
 obtain⟨a,b,n,l,o,t,i,m,j,rfl,p,e,q⟩:=h;refine⟨_,(@aI _ _ _ (aT (bS iC rfl G.b_list dW (aA (gP (mv 0) rfl) aB)))),?_⟩
 refine⟨a,Z0,i,_,_,rfl,p,G.Z6,G.na_Tower_deeds,Qr,?_⟩;fail "g";intro r d;exact q r _ d (aG d _) aE
def D8(g:Nat->Int):aZ (aQ (aZ g))=aZ g:=funext λc=>by
 by_cases h:hJ c/\0<g c
 .have e:aQ (aZ g) c=g c:=by unfold aQ aZ;rw[if_pos h];rfl
  show (if hJ c/\0<aQ _ c then some _ else none)=_
  rw[e];rfl
 .have e:aQ (aZ g) c=0:=by unfold aQ aZ;rw[if_neg h];rfl
  show (if hJ c/\0<aQ _ c then some _ else none)=(if hJ c/\0<g c then some _ else none)
  simp_all
def HM(s:Z1 l H H')(n:y∉l)(h:Z4 H y=some ys):Z4 H' y=some ys:=by
 unfold Z4 at h ⊢;cases e:H y with
 |none=>rw[e]at h;cases h
 |some o=>rw[s _ _ n e];rwa[e]at h
def Zm.begun{m:Nat}{g:Nat->Int}(i:H x=some (.ins C dx (Y9 b m s0 st hg dd)))(c:m<=6)(n:Xf H b bk cws mss)(w:H s0=some (.dK (Zf g (bP g 27))))(u:H st=some (.dK (Zf g (bP g 27))))(h:H hg=some (.lst (List.replicate m V.non)))(l:H dd=some (.lst []))(e:hg≠dd)(f:b≠dd):Zm C H x b s0 st hg dd dx m bk cws mss (aZ g) [] [] (List.replicate m none) (aZ g):=
 ⟨i,⟨⟨_,h,by rw [Cg,Cg],λj v o a k=>by
     rw[Gd]at a k;split at a
     .rename_i r
      rw[if_pos r]at k;cases a;cases k;rfl
     .cases a⟩,(λy t=>by grind),⟨_,u,dX _⟩,fD _⟩,Cg ..,c,n,⟨_,w,dX _⟩,D8 _,l,rfl,(λj p d q=>nomatch q),(λd s=>nomatch s),⟨rfl,rfl⟩,e,f⟩
inductive mY(C l:Addr)(s:List V)(H:Hp)(Q:VK)(zz3:XK):Prop|mk(x b u t v z w m q g a o p c n f)(_:s=[.ref x])(_:Zm C H x b u t v z w m q g a o p c n f)(_:a.Nodup)(_:c.length<=900)(_:dE l H)(_:∀y r j i d e k h,ZZ l H h->dE l h->H y=none->H r=none->H d=none->H e=none->Zm C h y r j i d e k m q g a o p c n f->Q (.ref y) h):mY C l s H Q zz3
def RY:Z9 ["self", "tower", "deed"] ["self"] (aK jL):=by fail "sc"
def vE(F:ZT K "again" "Tower.again" jL f fd)(u5:T8 ZS P w K mg base 2 Z0 ["self", "book", "locker", "many"] (gA Z0))(x8:qY ZS P w K mg base 1 Z0 "log" ["self"] (gY Z0))(o8:qY (Za P w) P w K mg base 15 Z0 "do" ["self", "deed"] (lQ Z0 Zs Zt Zv Zy Pt)):Z8 P w K mg base ZS 17 f fd ["self"] (mY Z0 Pt):=by
 refine F.ok RY (λvs H Q E h=>?_) (λd8 A a8 s H vs Q E R h=>?_)
 .obtain⟨x,b,s0,st,hg,dd,dx,m,bk,I,D,Z,ds,Y,hs,f,rfl,_⟩:=h;rfl
 obtain⟨x,b,s0,st,hg,dd,dx,m,bk,I,D,Z,ds,Y,hs,f,rfl,a,nd,d7,a2,q⟩:=h;refine⟨_,(@aD _ _ _ _ _ (aP 1 RY.nd (TJ u5 R (by decide) rfl G.c_Tower (aA (gP (mv 0) rfl) (aA (gP (mv 0) rfl) (aA (gP (mv 0) rfl) aB))))) (@aD _ _ _ _ _ (cP Bl rfl (bT (kG x8 G.Z6 R (by decide) (mv 0))) (bC (i:=2) RY.nd rfl (Or.inl rfl)) (@aI _ _ _ (bW (Jj o8 G.Z6 rY R (by decide) (mv 1) (aA (mv 2) aB))))) (@aI _ _ _ (aT (mv 1))))),?_⟩
 obtain⟨b5,k1,k2⟩:=a.UE;obtain⟨qs,b1,b2,b3⟩:=a.Yy.UZ;have hL:=TL a.Yy.ms a.Yy.le
 fail "g";refine⟨x,Z0,dx,_,_,rfl,a.ins,G.Z6,G.na_Tower_book,SA,?_⟩;fail "g";refine⟨x,Z0,dx,_,_,rfl,a.ins,G.Z6,G.na_Tower_stock_at_first,LK,?_⟩;fail "g";refine⟨x,Z0,dx,_,_,rfl,a.ins,G.Z6,G.na_Tower_many,LL,?_⟩;fail "g";intro y S hy c7 b8;have l:=(aG c7 (.own y)).trans (aG (show (upd H S (.own y)) y=none by rwa[aH (Ne.symm b8)]) (.ins Z0 S []))
 refine⟨y,b,s0,S,qs.map V.ref,b5,Z,m,rfl,aE,aM (l _ _ b1),.inl (l _ _ k1),k2,a.six,λb' M a1 O k H4 d1 b9 c8 d4 _ a9 b4 sE x4 e4 d3 d2 h4 f4=>⟨rfl,?_⟩⟩;have C:Z_ H H4:=λp o e=>sE p o (λz=>by rw[Ah.mp z,hy]at e;cases e) (l _ _ e)
 have c9:=none_of l d1
 have c6:=none_of l b9
 have X:=none_of l c8
 have ty:Zm Z0 H4 y b' M a1 O k S m bk I D Z [] [] (List.replicate m none) Z:=by
  have:=Zm.begun x4 a.six (show Xf H4 b' bk I D from⟨⟨qs,e4,b2,λj p c hp hc=>C _ _ (b3 j p c hp hc)⟩,a.Yy.cw,a.Yy.le,a.Yy.ms⟩) d3 d2 h4 f4 a9 b4
  rwa[a.Uh]at this
 fail "g";refine⟨x,dx,_,rfl,C _ _ a.ins,rQ,?_⟩;fail "g";refine⟨x,b,s0,st,hg,dd,dx,m,_,rfl,C _ _ a.ins,C _ _ a.log,λr H5 R s5 e5=>?_⟩;have L:=C.trans s5
 have a5:=ty.keep s5
 have l5:=a2.keep L
 have rr:=aM e5
 have nr:=VU (λz=>by rw[z,x4]at R;cases R) (λz=>by rw[z,f4]at R;cases R) (dU l5 e5 λ_=>nofun)
 fail "g";refine fP (xs:=Y.map V.ref) (λi U H'=>∃u d N f1 v2,U=[some (.ref x),some (.ref y),v2]/\Z1 [y,k,Pt] H5 H'/\dE Pt H'/\(d=O\/H5 d=none)/\Zm Z0 H' y b' M u d k S m bk I D Z (ds.take i) (Y.take i) N f1)
  ⟨a1,O,_,_,_,rfl,λ_ _ _ e=>e,l5,.inl rfl,a5⟩ (λi U H' _ ⟨_,_,_,_,_,_,sE,_⟩=>HM sE nr rr) ?_ ?_
 .rintro i v U H6 hv ⟨u,d,N,f1,v2,rfl,B,l6,T,J⟩;obtain⟨dp,W,rfl⟩:=vM hv;have a3:i<ds.length:=by rw[<-a.VS];exact(Ad.mp W).1
  have hd:=Aa a3
  have t:=a.dat i dp _ W hd
  have a4:=B _ _ (VU (λz=>by rw[z,hy]at t;cases t) (λz=>by rw[z,X]at t;cases t) (dU a2 t λ_=>nofun)) (L _ _ t)
  obtain⟨h2,f2,d5,f',c1,c2,c3⟩:=a.ch.at hd;obtain⟨rfl,rfl⟩:=Chain.one hL nd J.ch c1;fail "g";refine⟨y,S,_,rfl,J.ins,PH,?_⟩;fail "g";refine⟨y,b',M,u,d,k,S,dp,m,bk,I,D,Z,_,_,N,f1,ds[i],rfl,J,a4,a.Uv _ (Bx a3),by rw[Bt];((try clear T a3 a9 b2 b4 b8);omega),l6,λa6 c5 b6 f2 H7 a7 l7 c4 d6 t7=>?_,λb7=>(Dd.not hL nd c3 b7).elim⟩
  fail "g";refine⟨a6,c5,b6,f2,_,rfl,B.trans a7,l7,?_,?_⟩
  .rcases c4 with e|e
   .rwa[e]
   .exact .inr (B.none (VU (λz=>by rw[z,J.ins]at e;cases e) (λz=>by rw[z,J.log]at e;cases e) (λz=>by obtain⟨tb,et⟩:=l6.tb;rw[z,et]at e;cases e)) e)
  .rwa[Be,hd,Be,W]
 .rintro U H6 ⟨u,d,N,f1,v2,rfl,B,l6,T,J⟩;rw[Ab,Cf,Bi (by rw[a.VS];exact Ai _)]at J
  obtain⟨rfl,rfl⟩:=Chain.one hL nd J.ch a.ch;fail "g";exact q y b' M u d k S H6 (λp o n e=>B p o (VU (λz=>by rw[z,hy]at e;cases e) (λz=>by rw[z,X]at e;cases e) n) (L _ _ e)) l6 hy c9 (T.elim (λe=>by rwa[e]) λe=>none_of L e) X J
def kE:Sp:=λa H Q _=>∃c k,a=[.int c,.int k]/\0<=k/\k<=1000/\∀n,0<=n->Q (.int n) H
def rE:Sp:=λc H Q _=>∃n m,c=[.int n,.int m]/\0<=n/\1<=m/\m<=7/\∀a b,Z_ H b->1<=a.length->(a.length:Int)<=m->(∀d∈a,aX d)->Q (.str (aV a)) b
def CS:Z9 ["_law_cell", "_law_k"] ["_law_cell", "_law_k"] (aK sF):=by fail "sc"
def CC(F:ZT K "_law_mixed" "_law_mixed" sF f fd)(G:Gs K mg w Zs Zz Zt Zx Z0 Zw Zy Zu Zv):Z8 P w K mg base ZS 1 f fd ["_law_cell", "_law_k"] kE:=by
 refine F.ok CS (λb H Q E h=>?_) (λd A a s H b Q E e h=>?_)
 .obtain⟨c,k,rfl,_⟩:=h;rfl
 obtain⟨c,k,rfl,j,i,q⟩:=h;refine⟨_,(@aI _ _ _ (aT (aR dC (aR lM (aR bQ (aR bQ (aR bQ (aR dC (mv 0) aJ) (aR lM (aR lM aJ (mv 1)) (mv 1))) (mv 1)) aJ) aJ) aJ))),?_⟩;fail "g";exact q _ (Cz _ (by decide))
def wT:Z9 ["_law_number", "_law_most", "_law_letters", "_law_kinds", "_law_base", "_law_word_here", "_law_k"] ["_law_number", "_law_most"] (aK vR):=by fail "sc"
def Jz(F:ZT K "_law_word" "_law_word" vR f fd):Z8 P w K mg base ZS 1 f fd ["_law_number", "_law_most"] rE:=by
 refine F.ok wT (λL H Q E h=>?_) (λX A e s H L Q E hr h=>?_)
 .obtain⟨n,m,rfl,_⟩:=h;rfl
 obtain⟨n,m,rfl,W,R,O,q⟩:=h;refine⟨_,(@aD _ _ _ _ _ (aP 2 wT.nd fO) (@aD _ _ _ _ _ (aP 3 wT.nd (@bD _ _ _ _ _ _ _ bN (@bO _ _ _ _ (aA aJ (aA aJ (aA aJ (aA aJ aB))))) (aR dC (mv 0) aJ) (λ_ _=>rfl))) (@aD _ _ _ _ _ (aP 4 wT.nd (aR dC (aR fM (mv 0) aJ) aJ)) (@aD _ _ _ _ _ (aP 5 wT.nd fO) (@aD _ _ _ _ _ (cP Bl rfl (jV rfl G.b_range (aA (aR bQ aJ (aR dC (aR fM (mv 0) aJ) (mv 1))) aB)) (bC (i:=6) wT.nd rfl (Or.inl rfl)) (@aD _ _ _ _ _ (aP 0 wT.nd (aR dC (aR lM (aR bQ (aR bQ (mv 0) (mv 6)) aJ) aJ) aJ)) (@aI _ _ _ (aP 5 wT.nd (aR bQ (mv 5) (bD bN (mv 2) (aR dC (aR bQ (mv 4) (aR lM (aR dC (aR fM (mv 0) aJ) (mv 3)) aJ)) aJ) (λ_ _=>rfl))))))) (@aI _ _ _ (aT (mv 5)))))))),?_⟩;fail "g";refine⟨by decide,λp N=>?_⟩
 fail "g";obtain⟨b,c,t⟩:=NG (ns:=[1,2,3,23]) (i:=n%4) (by (exact Int.emod_nonneg _ (by decide))) (by show n%4<4;(exact Int.emod_lt_of_pos _ (by decide)))
 have hk:=(by decide:∀x∈([1,2,3,23]:List Int),1<=x) b c
 have S:=(by decide:∀x∈([1,2,3,23]:List Int),x<=23) b c
 refine bX (xs:=([1,2,3,23]:List Int).map V.int) cG t ?_;have J:=Cz (n / 92) (show m≠0 by ((try clear S W hk);omega))
 have I:=Dh (n / 92) (show 0<m by (assumption))
 fail "g";generalize n / 92%m=l at J I ⊢;refine⟨⟨by ((try clear I O R S W hk);omega),by ((try clear J S W hk);omega)⟩,?_⟩
 have B:Z_ H (upd H p (.lst [V.int 1,V.int 2,V.int 3,V.int 23])):=aG N _
 generalize upd H p (.lst [V.int 1,V.int 2,V.int 3,V.int 23])=Y at B ⊢;refine qE (λi U u=>∃x a v,U=[some (.int x),some (.int m),some (.str "abcdefghijklmnopqrstuvw"),some (.int b),some (.int (n / 4%23)),some (.str (aV a)),v]/\0<=x/\a.length=i/\(∀d∈a,aX d)/\u=Y)
  ⟨n,[],none,rfl,W,rfl,(λd o=>nomatch o),rfl⟩ ?_ ?_
 .rintro i U u hi ⟨x,a,v,rfl,j,C,r,rfl⟩;have M:(aV a).length=a.length:=cU a
  fail "g";generalize (x+(0+(i:Int))+1)*69621%2147483647 / 7%b*5=y;have y0:=Cz (n / 4%23+y) (show (23:Int)≠0 by decide)
  have Z:=Dh (n / 4%23+y) (show (0:Int)<23 by decide)
  have D:=Ko (k:=((n / 4%23+y)%23).toNat) (by ((try clear C I J M O R S W Z hi hk j);omega))
  rw[show ((((n / 4%23+y)%23).toNat:Nat):Int)=(n / 4%23+y)%23 by ((try clear C I J M O R S W Z hi hk j);omega)]at D
  refine vD (by decide) D ?_
  have T:(⟨#[97+((n / 4%23+y)%23).toNat]⟩:Str).length=1:=rfl
  fail "g";refine⟨(x+(0+(i:Int))+1)*69621%2147483647,a++[97+((n / 4%23+y)%23).toNat],some (.int (0+(i:Int))),?_,Cz _ (show (2147483647:Int)≠0 by decide),by rw[Af,C];rfl,λd o=>?_,rfl⟩
  .rw[<-jQ];rfl
  .rcases Bk.mp o with z|z
   .exact r d z
   .rw[Ah.mp z];exact⟨by ((try clear C I J M O R S T W Z hi hk j);omega),by ((try clear C I J M O R S T W Z hi hk j);omega)⟩
 .rintro U u ⟨x,a,v,rfl,j,C,r,rfl⟩;fail "g";exact q a _ B (by ((try clear I O R S W hk j);omega)) (by ((try clear O R S W hk j);omega)) r
def pS(K:W.Frag):Sp:=λb H Q _=>∃(a:Addr) (c:List Int) (k:Int),b=[.ref a,.int k]/\ZA K H a (c.map V.int)/\0<=k/\∀n,Q (.int n) H
def JL:Z9 ["_law_script", "_law_k"] ["_law_script", "_law_k"] (aK lH):=by fail "sc"
def A_(F:ZT K "_law_cell_at" "_law_cell_at" lH f fd):Z8 P w K mg base ZS 1 f fd ["_law_script", "_law_k"] (pS K):=by
 refine F.ok JL (λl H Q E h=>?_) (λo A b s H l Q E r h=>?_)
 .obtain⟨a,ns,k,rfl,_⟩:=h;rfl
 obtain⟨a,ns,k,rfl,j,m,q⟩:=h;refine⟨_,(@aD _ _ _ _ _ (cD (bA xS (mv 1) (aY C8 rfl G.b_len bR (aA (mv 0) aB)) (bB _)) (@aI _ _ _ (aT (bD XJ (mv 0) (mv 1) (λ_ _=>rfl)))) bF) (@aI _ _ _ (aT aJ))),?_⟩;refine⟨_,_,rfl,.inl j,?_⟩;have c:(ns.map V.int).length=ns.length:=Ab ..
 rw[c];refine eJ (λe=>?_) (λe=>?_)
 .have d:=Az e
  obtain⟨n,_,p⟩:=NG (ns:=ns) (i:=k) m d;exact Nh j p (q n)
 exact q 0
def kH:Sp:=λc H Q _=>∃a,c=[.str (aV a)]/\1<=a.length/\a.length<=6/\(∀d∈a,aX d)/\∀b,Z_ H b->aX (YV a)->hV (a++[YV a])=true->Q (.str (aV (a++[YV a]))) b
def FL:jU (cs++[d]) (cs++[d]).length=jU cs cs.length+((1+cs.length:Nat):Int)*((d-97:Nat):Int):=by
 rw[Af,show [d].length=1 from rfl,jP,pM (ds:=cs) (λi a=>by rw[Ac,An a,<-Ac])]
 simp_all
noncomputable def FV:Bool:=(List.range 23).all λi=>Txt.find Z5 ⟨#[97+i]⟩ == (i:Int)
def L8:FV=true:=by decide +kernel
def QY(h:aX d):Txt.find Z5 (one d)=((d-97:Nat):Int):=by
 unfold aX at h;have a:=Bz.mp L8 (d-97) (Bu.mpr (by omega))
 simp_all
noncomputable def M8:Bool:=(List.range 23).all λi=>(Str.ofString "abcdefghijklmnopqrstuvw").cps.toList[i]? == some (97+i)
def Mm:M8=true:=by decide +kernel
def MF(h:i<23)(e:(Str.ofString "abcdefghijklmnopqrstuvw").cps.toList[i]?=some c):c=97+i:=by
 have a:=Iu (Bz.mp Mm i (Bu.mpr h))
 simp_all
def j8:Z9 ["_law_word_here", "_law_letters", "_law_total", "_law_letter"] ["_law_word_here"] (aK iU):=by fail "sc"
def GK(F:ZT K "_law_checked" "_law_checked" iU f fd):Z8 P w K mg base ZS 1 f fd ["_law_word_here"] kH:=by
 refine F.ok j8 (λM H Q E h=>?_) (λZ A u s H M Q E hr h=>?_)
 .obtain⟨cs,rfl,_⟩:=h;rfl
 obtain⟨cs,rfl,h1,L,p,q⟩:=h;refine⟨_,(@aD _ _ _ _ _ (aP 1 j8.nd fO) (@aD _ _ _ _ _ (aP 2 j8.nd (aY (SX rfl) rfl G.b_sum Tj (aA (cL rfl (jV rfl G.b_range (aA (aY cO rfl G.b_len bR (aA (mv 0) aB)) aB)) (gF (N:=["_law_k", "_law_letters", "_law_word_here"]) ["_law_word_here", "_law_letters", "_law_total", "_law_letter"] (aK iU) [none,some 1,some 0] rfl rfl rfl (λx h=>cC h) (by decide +kernel)) (by decide +kernel) rfl (by decide +kernel) (λ_ _ _ _=>(bC (i:=0) (show List.Nodup (["_law_k", "_law_letters", "_law_word_here"]:List Str) by decide +kernel) rfl (Or.inl rfl))) (λ_ _ _ _=>cX) (λ_ _ _ _=>(aR lM (aR bQ (mv 0) aJ) (cM Dy PySem.F.slot_str_find PySem.F.type_str_find Qp (mv 1) (aA (bD bN (mv 2) (mv 0) (λ_ _=>rfl)) aB))))) aB))) (@aD _ _ _ _ _ (cP Bl rfl (mF (mv 1)) (bC (i:=3) j8.nd rfl (Or.inl rfl)) (@aI _ _ _ (cD (bA mV (aR dC (aR bQ (mv 2) (aR lM (aR bQ (aY cO rfl G.b_len bR (aA (mv 0) aB)) aJ) (cM Dy PySem.F.slot_str_find PySem.F.type_str_find Qp (mv 1) (aA (mv 3) aB)))) aJ) aJ (bB _)) (@aI _ _ _ (aT (aR bQ (mv 0) (mv 3)))) bF))) (@aI _ _ _ (aT (mv 0)))))),?_⟩
 have e:=cU cs
 fail "g";rw[e];refine⟨⟨by (exact Int.natCast_nonneg _),by omega⟩,?_⟩
 rw[show ((cs.length:Int)).toNat=cs.length from rfl];refine BW (λi=>some (V.int (Xa cs i))) (bG (by (exact Nat.le_trans (by assumption) (by decide)))) (λi Hc A B J sm W=>?_) (λD C hD O T=>?_)
 .have S:=mK p J
  have r:=W _ (Z_.refl _)
  fail "g";refine⟨Wk.set rfl (Wk.refl _),?_⟩;fail "g";refine vD (by rw[e];exact bM (by (exact Nat.le_trans (by assumption) (by decide)))) (Sr (k:=i) (by ((try clear J L e h1);omega)) J) ?_
  fail "g";refine QQ ?_;rw[show (⟨#[cs.getD i 0]⟩:Str)=one (cs.getD i 0) from rfl];rw[show Txt.find "abcdefghijklmnopqrstuvw" (one (cs.getD i 0))=((cs.getD i 0-97:Nat):Int) from QY S];fail "g";rw[show (0+(i:Int)+1)*((cs.getD i 0-97:Nat):Int)=Xa cs i by unfold Xa;rw[show ((1+i:Nat):Int)=0+(i:Int)+1 by ((try clear J L e h1);omega)]]
  exact r
 .have y:C D=some (.lst (((List.range cs.length).map (Xa cs)).map V.int)):=by
   rw[T,Cd];congr 2
   exact List.filterMap_eq_map (f:=λi=>V.int (Xa cs i))▸rfl
  fail "g";refine PL (aM y) (P1 (by (exact Nat.le_trans (by assumption) (by decide))) p) (by rw[Ab,Bf];(exact Nat.le_trans (by assumption) (by decide))) ?_
  rw[show ((List.range cs.length).map (Xa cs)).sum=jU cs cs.length from rfl];obtain⟨d,b,a⟩:=vA (cs:=cs++[97]) (by rw[Af];show _+1<=_;(exact Nat.lt_of_le_of_lt (by assumption) (by decide))) (k:=cs.length) (by rw[Af];show _<_+1;((try clear L e h1);omega))
  rw[mU]at a;have Y:=S_ L p b a
  rw[Y]at q;have R:=q C O b a
  have v:=b
  unfold aX at v;fail "g";refine RU (λi U I=>∃t,U=[some (.str (aV cs)),some (.str "abcdefghijklmnopqrstuvw"),some (.int (jU cs cs.length)),t]/\I=C/\i<=d-97) ⟨_,rfl,rfl,Ct _⟩ ?_ ?_
  .rintro i c U I j ⟨t,rfl,rfl,l⟩;have n:i<23:=by have:=(Ad.mp j).1;exact this
   have z:=MF n j
   subst z;have m:aX (97+i):=⟨by ((try clear L Y e h1 l v);omega),by ((try clear L Y e h1 l v);omega)⟩
   have r:=zG L p b a m
   unfold hV at r;rw[FL,show 97+i-97=i by ((try clear L Y e h1 l v);omega)]at r
   fail "g";rw[e];refine QQ ?_;rw[show Txt.find "abcdefghijklmnopqrstuvw" ⟨#[97+i]⟩=((97+i-97:Nat):Int) from QY m,show 97+i-97=i by ((try clear L Y e h1 l v);omega)]
   fail "g";rw[show ((1+cs.length:Nat):Int)=(cs.length:Int)+1 by ((try clear L Y e h1 l n v);omega)]at r
   rw[r];refine eJ (λj=>?_) (λj=>?_)
   .have o:=Az j
    have X:(⟨#[97+i]⟩:Str).length=1:=rfl
    fail "g";rw[show aV cs++⟨#[97+i]⟩=aV (cs++[97+i]) from jQ cs (97+i),o];exact R
   .have o:=Bq (Br.mpr j)
    fail "g";exact⟨_,rfl,rfl,by ((try clear L Y e h1 n);omega)⟩
  .rintro U I ⟨t,rfl,rfl,l⟩;exact absurd (show 23<=d-97 from l) (by ((try clear L Y e h1 l);omega))
def T4(z:Str):Prop:=∃a,z=cH a/\1<=a.length/\a.length<=5/\∀t∈a,fH t
def Sh(a:List (Str×Str)):Prop:=∀b∈a,T4 b.2
def NN:∀z∈(["sail", "fog", "wind", "calm", "x"]:List Str),fH z.cps.toList:=by
 unfold fH UW;decide +kernel
def Rq(h:∃t,z=aV t/\fH t):T4 z:=by
 obtain⟨t,rfl,b⟩:=h;refine⟨[t],?_,by show 1<=1;decide,by show 1<=5;decide,λu a=>by simp_all⟩
 rfl
def AL{y:Str}(h:∃t,y=aV t/\fH t)(g:∃t,z=aV t/\fH t):T4 (y++Str.ofString " " ++ z):=by
 obtain⟨t,rfl,c⟩:=h;obtain⟨u,rfl,b⟩:=g;refine⟨[t,u],?_,by show 1<=2;decide,by show 2<=5;decide,λv a=>?_⟩
 .rw[show [t,u]=[t]++[u] from rfl,Rw (by simp) (by simp)]
  rw[show cH [t]=aV t from by unfold cH;rw[show Txt.join _ _=Str.join _ _ from Ei _ _];rfl,show cH [u]=aV u from by unfold cH;rw[show Txt.join _ _=Str.join _ _ from Ei _ _];rfl]
 grind
def Km:Sh [(Str.ofString "ab",Str.ofString "sail")]:=λb a=>by
 rw[Ah.mp a];exact Rq ⟨(Str.ofString "sail").cps.toList,FlT.YR (by rw[cS]),NN _ (Al ..)⟩
def HN(a:sO bk cws)(f:cws.Nodup)(h:bk.length<=60)(m:(bk.map (·.2)).Nodup)(l:Sh bk):XW bk:=by
 have c:bk.map (·.1)=cws.map aV:=by
  refine Ik (by rw[Ab,Ab,a.1]) λj i g=>?_
  rw[Ab]at i g;rw[Eo,Eo];exact(a.2 j _ _ (Aa i) (Aa g)).1
 refine⟨h,?_,m,λb o=>?_,l⟩
 .rw[c];exact List.pairwise_map.mpr (f.imp λd e=>d (P0 e))
 .obtain⟨j,k⟩:=Fk.mp o;have n:=(Ad.mp k).1
  exact⟨_,a.2 j b _ k (Aa (by rwa[a.1]))⟩
def OU{ss:List Str}{i:Int}(c:0<=i)(b:i<(ss.length:Int)):∃z,z∈ss/\YY (ss.map V.str) i=some (.str z):=by
 obtain⟨k,rfl⟩:∃k:Nat,i=(k:Int):=⟨i.toNat,by ((try clear b);omega)⟩
 have a:k<ss.length:=by ((try clear c);omega)
 exact⟨ss[k],Bx _,aW (by simp_all)⟩
def zR:Sp:=λf H Q _=>∃(a:Addr) (e:List Int),f=[.ref a]/\Z4 H a=some (e.map V.int)/\e.length<=7/\
 ∀r c (b:Q6) d,H r=none->Z_ H d->ZF d r c->sO c b->b.Nodup->1<=c.length->c.length<=8->XW c->Q (.ref r) d
def w4:Z9 ["_law_cells", "_law_terms", "_law_book_here", "_law_k", "_law_cell", "_law_number", "_law_word_here", "_law_meaning"] ["_law_cells"] (aK uV):=by fail "sc"
def MD(F:ZT K "_law_book" "_law_book" uV f fd)(wE:ZR P w K mg base 1 "_law_mixed" ["_law_cell", "_law_k"] kE)(o9:ZR P w K mg base 1 "_law_word" ["_law_number", "_law_most"] rE):Z8 P w K mg base ZS 2 f fd ["_law_cells"] zR:=by
 refine F.ok w4 (λvs H Q E h=>?_) (λcdv A outer s H vs Q E hr h=>?_)
 .obtain⟨a,ns,rfl,_⟩:=h;rfl
 obtain⟨a,ns,rfl,hns,h7,q⟩:=h;refine⟨_,(@aD _ _ _ _ _ (aP 1 w4.nd (@bO _ _ _ _ (@cY _ _ _ _ _ _ (@cY _ _ _ _ _ _ (@cY _ _ _ _ _ _ (@cY _ _ _ _ _ _ (@cY _ _ _ _ _ _ aB))))))) (@aD _ _ _ _ _ (aP 2 w4.nd (bO (aA (dM (@cY _ _ _ _ _ _ (@cY _ _ _ _ _ _ aB))) aB))) (@aD _ _ _ _ _ (cP Bl rfl (nL rfl G.b_enumerate (aA (mv 0) aB)) (eP (K:=K) (i:=3) (j:=4) (by rfl) (by rfl) w4.nd (by rfl) (by exact(Or.inl rfl)) (by exact Or.inl rfl) (by rfl) (by exact(Or.inl rfl)) (by exact Or.inl rfl)) (@aD _ _ _ _ _ (aP 5 w4.nd (aU wE hr (by decide) rfl (aA (mv 4) (aA (mv 3) aB)))) (@aD _ _ _ _ _ (aP 6 w4.nd (aU o9 hr (by decide) rfl (aA (mv 5) (aA aJ aB)))) (@aD _ _ _ _ _ (aP 7 w4.nd (bD bN (mv 1) (aR dC (aR fM (mv 5) aJ) aJ) (λ_ _=>rfl))) (@aD _ _ _ _ _ (cD (bA mV (aR dC (aR fM (mv 5) aJ) aJ) aJ (bB _)) (@aI _ _ _ (aP 7 w4.nd (aR bQ (aR bQ (mv 7) fO) (bD bN (mv 1) (aR dC (aR fM (mv 5) aJ) aJ) (λ_ _=>rfl))))) bF) (@aI _ _ _ (cD (PW.pt (S2 (bA OI (mv 6) (cL rfl (bT (mv 2)) (iI (N:=["_law_page"]) (by decide +kernel) (by decide +kernel)) (by decide +kernel) rfl (by decide +kernel) (λ_ _ _ _=>(bC (i:=0) (show List.Nodup (["_law_page"]:List Str) by decide +kernel) rfl (Or.inl rfl))) (λ_ _ _ _=>cX) (λ_ _ _ _=>(bD bN (mv 0) aJ (λ_ _=>rfl)))) (by rfl)) (Sj (bA OI (mv 7) (cL rfl (bT (mv 2)) (iI (N:=["_law_page"]) (by decide +kernel) (by decide +kernel)) (by decide +kernel) rfl (by decide +kernel) (λ_ _ _ _=>(bC (i:=0) (show List.Nodup (["_law_page"]:List Str) by decide +kernel) rfl (Or.inl rfl))) (λ_ _ _ _=>cX) (λ_ _ _ _=>(bD bN (mv 0) aJ (λ_ _=>rfl)))) (by rfl))))) (@aI _ _ _ (bW (cM Bg Ec Ed yS (mv 2) (aA (dM (aA (mv 6) (aA (mv 7) aB))) aB)))) bF))))))) (@aI _ _ _ (aT (mv 2)))))),?_⟩
 fail "g";refine⟨by show 5<=sizeLine;decide,λrt hrt=>?_⟩
 have k1:=aG hrt (.lst ((["sail", "fog", "wind", "calm", "x"]:List Str).map V.str))
 have e1:Z4 (upd H rt (.lst ((["sail", "fog", "wind", "calm", "x"]:List Str).map V.str))) rt=some ((["sail", "fog", "wind", "calm", "x"]:List Str).map V.str):=cG
 change mX 1 (V.ref rt) _ (upd H rt (.lst ((["sail", "fog", "wind", "calm", "x"]:List Str).map V.str))) _
 have htl:(["sail", "fog", "wind", "calm", "x"]:List Str).length=5:=rfl
 have hts:∀z∈(["sail", "fog", "wind", "calm", "x"]:List Str),z.length<=10:=by decide +kernel
 have htT:∀z∈(["sail", "fog", "wind", "calm", "x"]:List Str),∃t,z=aV t/\fH t:=λz hz=>⟨z.cps.toList,FlT.YR (by rw[cS]),NN z hz⟩
 generalize (["sail", "fog", "wind", "calm", "x"]:List Str)=ts at k1 e1 htl hts htT ⊢;generalize upd H rt (.lst (ts.map V.str))=H1 at k1 e1 ⊢;fail "g";refine⟨za0,λp2 hp2=>?_⟩
 have k2:=aG hp2 (.tup [V.str (Str.ofString "ab"),V.str (Str.ofString "sail")])
 have t2:(upd H1 p2 (.tup [V.str (Str.ofString "ab"),V.str (Str.ofString "sail")])) p2=some (.tup [V.str (Str.ofString "ab"),V.str (Str.ofString "sail")]):=aE
 generalize upd H1 p2 (.tup [V.str (Str.ofString "ab"),V.str (Str.ofString "sail")])=H2 at k2 t2 ⊢;fail "g";refine⟨r0,λrb hrb=>?_⟩
 have nrt:rt≠rb:=λz=>by
  have:=aO k2 e1
  rw[z]at this;unfold Z4 at this;rw[hrb]at this;cases this
 have k3:=aG hrb (.lst [V.ref p2])
 have e3:ZF (upd H2 rb (.lst [V.ref p2])) rb [(Str.ofString "ab",Str.ofString "sail")]:=⟨[p2],aE,rfl,λj p b hp hb=>by
  match j,hp,hb with
  |0,hp,hb=>cases hp;cases hb;exact k3 _ _ t2
  |j+1,hp,_=>cases hp⟩
 have s03:=k1.trans (k2.trans k3)
 have hrbH:H rb=none:=none_of (k1.trans k2) hrb
 have et3:=aO (k2.trans k3) e1
 generalize upd H2 rb (.lst [V.ref p2])=H3 at k3 e3 s03 et3 ⊢;have hns3:=aO s03 hns
 fail "g";refine uE (xs:=ns.map V.int) (λi U H'=>∃bk cws v3 v4 v5 v6 v7,U=[some (.ref a),some (.ref rt),some (.ref rb),v3,v4,v5,v6,v7]/\Z_ H H'/\Z4 H' rt=some (ts.map V.str)/\ZF H' rb bk/\sO bk cws/\cws.Nodup/\1<=bk.length/\bk.length<=1+i/\(bk.map (·.2)).Nodup/\Sh bk)
  ⟨_,[[97,98]],_,_,_,_,_,rfl,s03,et3,e3,⟨rfl,λj b cw hb hc=>by
   match j,hb,hc with
   |0,hb,hc=>cases hb;cases hc;exact⟨rfl,by decide,by decide,by unfold aX;decide⟩
   |j+1,hb,_=>cases hb⟩,by simp,Nat.le_refl _,Nat.le_refl _,by simp,Km⟩ (λi U H' _ ⟨_,_,_,_,_,_,_,_,e,_⟩=>aO e hns) ?_ ?_
 .rintro i x U H4 pe hx ⟨bk,cws,v3,v4,v5,v6,v7,rfl,s4,et4,hbk,hcw,Yj,hb1,hbl,hmn,hmo⟩ hpe;have hi:i<7:=by have:=(Ad.mp hx).1;rw[Ab]at this;((try clear hb1 hbl htl nrt);omega)
  obtain⟨c,_,rfl⟩:=AY hx;have k5:=aG hpe (.tup [V.int ((0+i:Nat):Int),V.int c])
  have te5:(upd H4 pe (.tup [V.int ((0+i:Nat):Int),V.int c])) pe=some (.tup [V.int ((0+i:Nat):Int),V.int c]):=aE
  have s5:=s4.trans k5
  have et5:=aO k5 et4
  obtain⟨qs,b1,b2,b3⟩:=id hbk;generalize upd H4 pe (.tup [V.int ((0+i:Nat):Int),V.int c])=H5 at k5 te5 s5 et5 ⊢;have tt5:=cW te5
  fail "g";refine⟨c,_,rfl,by (exact Int.natCast_nonneg _),by ((try clear b2 h7 hb1 hbl htl nrt);omega),λN hN=>?_⟩
  fail "g";refine⟨N,6,rfl,hN,by decide,by decide,λcw H6 s6 hc1 hc6 hcL=>?_⟩
  have y0:=Cz (N / 5) (show (5:Int)≠0 by decide)
  have y1:=Dh (N / 5) (show (0:Int)<5 by decide)
  have et6:=aO s6 et5
  fail "g";obtain⟨z1,hz1,az1⟩:=OU (ss:=ts) y0 (by rw[htl];exact y1)
  have hzl:=hts z1 hz1
  refine bX et6 az1 ?_;have s06:=s5.trans s6
  have hbk6:ZF H6 rb bk:=⟨qs,(k5.trans s6) _ _ b1,b2,λj p b hp hb=>(k5.trans s6) _ _ (b3 j p b hp hb)⟩
  fail "u"
  with_reducible refine NY (λU' H'=>∃z:Str,U'=[some (.ref a),some (.ref rt),some (.ref rb),some (.int ((0+i:Nat):Int)),some (.int c),some (.int N),some (.str (aV cw)),some (.str z)]/\z.length<=30/\H'=H6/\T4 z) (λU' H' j7=>?_) (λM hM=>?_)
  .obtain⟨z,rfl,hz,rfl,hmz⟩:=j7;obtain⟨qs',c1,c2,c3⟩:=id hbk6;have rq:=aM c1
   have hql:(qs'.map V.ref).length=bk.length:=by rw[Ab,c2]
   have words:bk.map (·.1)=cws.map aV:=by
    refine Ik (by rw[Ab,Ab,hcw.1]) λj j1 j2=>?_
    rw[Ab]at j1 j2;rw[Eo,Eo];exact(hcw.2 j _ _ (Aa j1) (Aa j2)).1
   fail "g";refine gL (xs:=qs'.map V.ref) (λj=>(bk[j]?).map λb=>V.str b.1) rq (by rw[hql];exact bG (by ((try clear h7 hN hb1 hc1 hc6 htl hz hzl nrt y0 y1);omega))) (λj x Hc A B hx sm hA hB=>?_) (λD Hd hD sD hd=>?_)
   .rw[Ag]at hx;obtain⟨p,ep,rfl⟩:=Cc.mp hx;have hjb:j<bk.length:=by rw[<-c2];exact(Ad.mp ep).1
    have eb:=Aa hjb
    have tp:=sm _ _ (c3 j p _ ep eb)
    fail "g";refine⟨Wk.set rfl (Wk.refl _),?_⟩;fail "g";exact cF tp (v:=.str bk[j].1) (aW (j:=0) rfl) (hA _ (by rw[eb];rfl) _ (Z_.refl _))
   rw[hql,dO (λb:Str×Str=>V.str b.1),show bk.map (λb=>V.str b.1)=(bk.map (·.1)).map V.str by rw[Cd];rfl]at hd
   refine TR (neg:=true) (aM hd) rfl (dD _) ?_;rw[if_pos rfl,R6];have keep:∀H9,Z_ H' H9->Z4 H9 rt=some (ts.map V.str)/\ZF H9 rb bk:=λH9 k=>⟨aO k et6,⟨qs',k _ _ c1,c2,λj p b hp hb=>k _ _ (c3 j p b hp hb)⟩⟩
   by_cases hw:aV cw∈bk.map (·.1)
   .rw[Ao hw];fail "g";exact⟨bk,cws,_,_,_,_,_,rfl,s06.trans sD,(keep _ sD).1,(keep _ sD).2,hcw,Yj,hb1,by ((try clear h7 hN hb1 hc1 hc6 hi htl hz hzl nrt y0 y1);omega),hmn,hmo⟩
   .rw[Aw hw];have rqD:=aO sD rq
    fail "g";refine gL (xs:=qs'.map V.ref) (λj=>(bk[j]?).map λb=>V.str b.2) rqD (by rw[hql];exact bG (by ((try clear h7 hN hb1 hc1 hc6 htl hz hzl nrt y0 y1);omega))) (λj x Hc A B hx sm hA hB=>?_) (λD2 Hd2 hD2 sD2 hd2=>?_)
    .rw[Ag]at hx;obtain⟨p,ep,rfl⟩:=Cc.mp hx;have hjb:j<bk.length:=by rw[<-c2];exact(Ad.mp ep).1
     have eb:=Aa hjb
     have tp:=sm _ _ (sD _ _ (c3 j p _ ep eb))
     fail "g";refine⟨Wk.set rfl (Wk.refl _),?_⟩;fail "g";exact cF tp (v:=.str bk[j].2) (aW (j:=1) rfl) (hA _ (by rw[eb];rfl) _ (Z_.refl _))
    rw[hql,dO (λb:Str×Str=>V.str b.2),show bk.map (λb=>V.str b.2)=(bk.map (·.2)).map V.str by rw[Cd];rfl]at hd2
    refine TR (neg:=true) (aM hd2) rfl (dD _) ?_;rw[if_pos rfl,R6];have s62:=sD.trans sD2
    by_cases hm:z∈bk.map (·.2)
    .rw[Ao hm];fail "g";exact⟨bk,cws,_,_,_,_,_,rfl,s06.trans s62,(keep _ s62).1,(keep _ s62).2,hcw,Yj,hb1,by ((try clear h7 hN hb1 hc1 hc6 hi htl hz hzl nrt y0 y1);omega),hmn,hmo⟩
    .rw[Aw hm];have c1':=s62 _ _ c1
     fail "g";refine⟨za0,λpt hpt=>?_⟩
     have k8:=aG hpt (.tup [.str (aV cw),.str z])
     have t8:(upd Hd2 pt (.tup [.str (aV cw),.str z])) pt=some (.tup [.str (aV cw),.str z]):=aE
     have s68:=s62.trans k8
     have c18:=k8 _ _ c1'
     have et8:=(keep _ s68).1
     have c38:∀(j:Nat) p b,qs'[j]?=some p->bk[j]?=some b->(upd Hd2 pt (.tup [.str (aV cw),.str z])) p=some (.tup [.str b.1,.str b.2]):=λj p b hp hb=>s68 _ _ (c3 j p b hp hb)
     generalize upd Hd2 pt (.tup [.str (aV cw),.str z])=H8 at k8 t8 s68 c18 et8 c38 ⊢;have m8:=bL c18
     fail "g";have ne:∀p xs,H8 p=some (.tup xs)->p≠rb:=λp xs e z=>by rw[z,c18]at e;cases e
     refine⟨bk++[(aV cw,z)],cws++[cw],_,_,_,_,_,rfl,bJ hrbH (s06.trans s68),?_,?_,?_,?_,by rw[Af];((try clear h7 hN hc1 hc6 htl hz hzl nrt y0 y1);omega),by rw[Af];show _+1<=_;((try clear h7 hN hb1 hc1 hc6 hi htl hz hzl nrt y0 y1);omega),?_,?_⟩
     .rw[Sm nrt];exact et8
     .refine⟨qs'++[pt],by rw[aE,Ap];rfl,by rw[Af,Af,c2];rfl,λj p b hp hb=>?_⟩
      rcases Hh j qs'.length with zz|zz
      .rw[An zz]at hp;rw[An (by ((try clear h7 hN hb1 hbl hc1 hc6 hi htl hz hzl nrt y0 y1);omega))]at hb
       have:=c38 j p b hp hb
       rw[aH (ne _ _ this)];exact this
      .rw[Aq zz]at hp;rw[Aq (by ((try clear h7 hN hb1 hbl hc1 hc6 hi htl hz hzl nrt y0 y1);omega))]at hb
       have w1:=(Ad.mp hp).1
       have eu:j-qs'.length=0:=by have:j-qs'.length<1:=w1;((try clear b2 c2 h7 hN hb1 hbl hc1 hc6 hi hql htl hz hzl nrt w1 y0 y1 zz);omega)
       have ev:j-bk.length=0:=by ((try clear h7 hN hb1 hbl hc1 hc6 hi htl hz hzl nrt w1 y0 y1);omega)
       rw[eu]at hp;rw[ev]at hb;cases hp;cases hb;rw[aH (ne _ _ t8)];exact t8
     .refine⟨by rw[Af,Af,hcw.1];rfl,λj b cw' hb hc=>?_⟩
      have hcl:=hcw.1
      rcases Hh j bk.length with zz|zz
      .rw[An zz]at hb;rw[An (by ((try clear h7 hN hb1 hbl hc1 hc6 hi htl hz hzl nrt y0 y1);omega))]at hc
       exact hcw.2 j b cw' hb hc
      .rw[Aq zz]at hb;rw[Aq (by ((try clear h7 hN hb1 hbl hc1 hc6 hi htl hz hzl nrt y0 y1);omega))]at hc
       have w1:=(Ad.mp hb).1
       have eu:j-bk.length=0:=by have:j-bk.length<1:=w1;((try clear b2 c2 h7 hN hb1 hbl hc1 hc6 hcl hi hql htl hz hzl nrt w1 y0 y1 zz);omega)
       have ev:j-cws.length=0:=by ((try clear h7 hN hb1 hbl hc1 hc6 hi htl hz hzl nrt w1 y0 y1);omega)
       rw[eu]at hb;rw[ev]at hc;cases hb;cases hc;exact⟨rfl,hc1,by ((try clear b2 c2 eu ev h7 hN hb1 hbl hcl hi hql htl hz hzl nrt w1 y0 y1 zz);omega),hcL⟩
     .rw[words]at hw;refine List.nodup_append.mpr ⟨Yj,by simp,λu hu v hv e=>?_⟩
      rw[Ah.mp hv]at e;exact hw (Bb.mpr ⟨u,hu,by rw[e]⟩)
     .rw[Ap];refine List.nodup_append.mpr ⟨hmn,by simp,λu hu v hv e=>?_⟩
      rw[Ah.mp hv]at e;rw[e]at hu;exact hm hu
     .intro b hb;rcases Bk.mp hb with zz|zz
      .exact hmo b zz
      .rw[Ah.mp zz];exact hmz
  .fail "g";refine eJ (λhg=>?_) (λhg=>?_)
   .have w0:=Cz (N / 50) (show (5:Int)≠0 by decide)
    have w1:=Dh (N / 50) (show (0:Int)<5 by decide)
    obtain⟨z2,hz2,az2⟩:=OU (ss:=ts) w0 (by rw[htl];exact w1)
    have hzl2:=hts z2 hz2
    have hsp:(Str.ofString " ").length=1:=rfl
    have hl1:(z1++Str.ofString " ").length=z1.length+1:=by rw[Gx];rfl
    fail "g";refine bX et6 az2 ?_;fail "g";exact hM _ _ ⟨_,rfl,by rw[Gx,hl1];((try clear b2 h7 hN hb1 hbl hc1 hc6 hi hsp htl nrt w0 w1 y0 y1);omega),rfl,AL (htT z1 hz1) (htT z2 hz2)⟩
   .fail "g";exact hM _ _ ⟨z1,rfl,by (exact Nat.le_trans (by assumption) (by decide)),rfl,Rq (htT z1 hz1)⟩
 .rintro U H4 ⟨bk,cws,v3,v4,v5,v6,v7,rfl,s4,et4,hbk,hcw,Yj,hb1,hbl,hmn,hmo⟩;rw[Ab]at hbl;fail "g";exact q rb bk cws H4 hrbH s4 hbk hcw Yj hb1 (by ((try clear hb1 htl nrt);omega)) (HN hcw Yj (by ((try clear hb1 htl nrt);omega)) hmn hmo)
def uL:Sp:=λh H Q _=>∃c b e d,h=[.int c,.ref b]/\ZF H b e/\sO e d/\e.length<=8/\
 ∀p a f g,H p=none->Z_ H g->g p=some (.dK a)->Lk a f->(∀c,0<=aQ f c/\aQ f c<=9)->Q (.ref p) g
def n8:Z9 ["_law_cell", "_law_book_here", "_law_number", "_law_most", "_law_locker", "_law_flag"] ["_law_cell", "_law_book_here"] (aK rP):=by fail "sc"
def Lz(F:ZT K "_law_flags" "_law_flags" rP f fd)(G:Gs K mg w Zs Zz Zt Zx Z0 Zw Zy Zu Zv)(wE:ZR P w K mg base 1 "_law_mixed" ["_law_cell", "_law_k"] kE)(u6:ZR P w K mg base 1 "_law_checked" ["_law_word_here"] kH):Z8 P w K mg base ZS 2 f fd ["_law_cell", "_law_book_here"] uL:=by
 refine F.ok n8 (λvs H Q E h=>?_) (λb5 A a1 s H vs Q E hr h=>?_)
 .obtain⟨c,b,bk,a,rfl,_⟩:=h;rfl
 obtain⟨c,b,bk,a,rfl,a7,m,h8,q⟩:=h;refine⟨_,(@aD _ _ _ _ _ (aP 2 n8.nd (aU wE hr (by decide) rfl (aA (mv 0) (aA aJ aB)))) (@aD _ _ _ _ _ (aP 3 n8.nd (aR bQ aJ (aR dC (mv 2) aJ))) (@aD _ _ _ _ _ (aP 4 n8.nd wY) (@aD _ _ _ _ _ (cP Bl rfl (mF (aR bQ (cM Dy PySem.F.slot_str_join PySem.F.type_str_join K4 fO (aA (cL rfl (bT (mv 1)) (iI (N:=["_law_page"]) (by decide +kernel) (by decide +kernel)) (by decide +kernel) rfl (by decide +kernel) (λ_ _ _ _=>(bC (i:=0) (show List.Nodup (["_law_page"]:List Str) by decide +kernel) rfl (Or.inl rfl))) (λ_ _ _ _=>cX) (λ_ _ _ _=>(aU u6 hr (by decide) rfl (aA (bD bN (mv 0) aJ (λ_ _=>rfl)) aB)))) aB)) fO)) (bC (i:=5) n8.nd rfl (Or.inl rfl)) (@aD _ _ _ _ _ (aP 2 n8.nd (aR dC (aR lM (aR bQ (mv 2) aJ) aJ) aJ)) (@aI _ _ _ (iV (Z2.u1 hr) (mv 4) (mv 5) (aR dC (aR fM (mv 2) aJ) (aR bQ (mv 3) aJ)) rfl)))) (@aI _ _ _ (aT (mv 4))))))),?_⟩
 obtain⟨qs,b1,b2,b3⟩:=id a7;have O:(qs.map V.ref).length=bk.length:=by rw[Ab,b2]
 fail "g";refine⟨c,90,rfl,by (exact Int.natCast_nonneg _),by (exact Int.natCast_nonneg _),λn hn=>?_⟩
 have y0:=Cz n (show (8:Int)≠0 by decide)
 have y1:=Dh n (show (0:Int)<8 by decide)
 fail "g";generalize n%8=t at y0 y1 ⊢;intro I y;have C:=aG y (HO.dK [])
 have X:(upd H I (HO.dK [])) I=some (.dK []):=aE
 generalize upd H I (HO.dK [])=H1 at C X ⊢;have rq:=aM (C _ _ b1)
 fail "g";refine gL (xs:=qs.map V.ref) (λj=>(a[j]?).map λe=>V.str (aV (e++[YV e]))) rq (by rw[O];exact bG (by (exact Nat.le_trans (by assumption) (by decide)))) (λj x Hc A B W sm hA hB=>?_) (λD Hd hD sD T=>?_)
 .rw[Ag]at W;obtain⟨p,ep,rfl⟩:=Cc.mp W;have r:j<bk.length:=by rw[<-b2];exact(Ad.mp ep).1
  have ec:a[j]?=some (a[j]'(by rw[m.1];exact r)):=Aa _
  obtain⟨hw,a6,a5,a4⟩:=m.2 j _ _ (Aa r) ec;have tp:=sm _ _ (C _ _ (b3 j p _ ep (Aa r)))
  rw[hw]at tp;fail "g";refine⟨Wk.set rfl (Wk.refl _),?_⟩;fail "g";refine cF tp (v:=.str (aV (a[j]'(by rw[m.1];exact r)))) (aW (j:=0) rfl) ?_
  fail "g";exact⟨_,rfl,a6,a5,a4,λY s' _ _=>hA _ (by rw[ec];rfl) Y s'⟩
 rw[O,<-m.1,dO (λe=>V.str (aV (e++[YV e]))),show a.map (λe=>V.str (aV (e++[YV e])))=((a.map λe=>e++[YV e]).map aV).map V.str by rw[Cd,Cd];rfl]at T
 have h7:∀c∈a.map (λe=>e++[YV e]),c.length<=7:=λc hc=>by
  obtain⟨e,hm,rfl⟩:=Bb.mp hc;obtain⟨j,hj⟩:=Fk.mp hm;have S:=(Ad.mp hj).1
  have:=(m.2 j _ _ (Aa (by rw[<-m.1];exact S)) hj).2.2.1
  rw[Af];show _+1<=7
  (exact Nat.lt_of_le_of_lt (by assumption) (by decide))
 have h8:(a.map (λe=>e++[YV e])).length<=8:=by rw[Ab,m.1];exact h8
 generalize a.map (λe=>e++[YV e])=a at T h7 h8;have a8:=aM T
 have X:=sD _ _ X
 have C:=C.trans sD
 have o:∀z∈a.map aV,z.length<=7:=λz hz=>by
  obtain⟨c,hc,rfl⟩:=Bb.mp hz;rw[cU];exact h7 c hc
 have S:(Txt.join "" (a.map aV)).length<=56:=by
  have:=Kh (sep:=Str.ofString "") (n:=7) (L:=a.map aV) o
  rw[Ab,show (Str.ofString "").length=0 from rfl]at this;((try clear O b2 hn y0 y1);omega)
 have M:((a.map aV).map (·.length)).sum<=7*(a.map aV).length:=by
  generalize a.map aV=L at o;induction L with
  |nil=>exact Ai _
  |cons u v ih=>
   have h1:=o u Al
   have h2:=ih λx W=>o x (Ak _ W)
   rw[As,Cv,Av];((try clear O S b2 h8 hn y0 y1);omega)
 rw[Ab]at M;fail "g";refine AK (ss:=a.map aV) a8 (by rw[show (Str.ofString "").length=0 from rfl];((try clear O S b2 hn y0 y1);omega)) ?_
 have b4:(Str.ofString "1234aw").length=6:=rfl
 fail "g";have a2:(Txt.join "" (a.map aV)++Str.ofString "1234aw").length<=62:=by rw[Gx];((try clear M O b2 h8 hn y0 y1);omega)
 generalize Txt.join "" (a.map aV)++Str.ofString "1234aw"=zz at a2 ⊢;refine RU (λi U Y=>∃J l f Z,U=[some (.int c),some (.ref b),some (.int J),some (.int (1+t)),some (.ref I),Z]/\0<=J/\Z_ H Y/\Y I=some (.dK l)/\Lk l f/\l.length<=i/\∀c,0<=aQ f c/\aQ f c<=9)
  ⟨n,[],_,_,rfl,hn,C,X,.nil,Ai _,λc=>⟨Ip _,(by decide:(0:Int)<=9)⟩⟩ ?_ ?_
 .rintro i d U H2 T ⟨J,l,f,Z,rfl,a3,s2,e2,lk,R,hf⟩;have a9:i<62:=by have:=(Ad.mp T).1;rw[eZ]at this;((try clear M O R S a3 b2 b4 h8 hn y0 y1);omega)
  have x0:=Cz ((J+11)*69621) (show (2147483647:Int)≠0 by decide)
  fail "g";generalize (J+11)*69621%2147483647=k at x0 ⊢;have x1:=Cz (k / 7) (show 1+t+1≠0 by ((try clear M O R S a2 a3 a9 b2 b4 h8 hn x0);omega))
  have x2:=Dh (k / 7) (show 0<1+t+1 by ((try clear M O R S a2 a3 a9 b2 b4 h8 hn x0 x1);omega))
  fail "g";refine nN (z:=one d) e2 (bG (by ((try clear M O S a2 a3 b2 b4 h8 hn x0 x1 x2 y0 y1);omega))) ?_
  refine⟨k,_,_,_,rfl,x0,bJ y s2,aE,lk.put d _,?_,λc=>?_⟩
  .have:=gI l (Sum.inr (one d)) (.int (k / 7%(1+t+1)))
   ((try clear M O S a2 a3 a9 b2 b4 h8 hn x0 x1 x2 y0 y1);omega)
  .show 0<=((if c=d then some (k / 7%(1+t+1)) else f c):Option Int).getD 0/\((if c=d then some (k / 7%(1+t+1)) else f c):Option Int).getD 0<=9
   by_cases z:c=d
   .rw[if_pos z];exact⟨x1,by show k / 7%(1+t+1)<=9;((try clear M O R S a2 a3 a9 b2 b4 h8 hn x0 x1 z);omega)⟩
   .rw[if_neg z];exact hf c
 .rintro U H2 ⟨J,l,f,Z,rfl,a3,s2,e2,lk,R,hf⟩;rw[eZ]at R;fail "g";exact q I l f H2 y s2 e2 lk hf
def zB(ns:List Int)(c m:Int)(h:0<=c)(d:0<=m):∃e:List Int,kS (ns.map V.int) (some c) (some (c+m))=e.map V.int/\e.length<=m.toNat:=by
 refine⟨(ns.drop (min c.toNat ns.length)).take (min (c+m).toNat ns.length-min c.toNat ns.length),?_,?_⟩
 .unfold kS;rw[Gq,Fy];show ((ns.map V.int).drop (if c<0 then (c+((ns.map V.int).length:Int)).toNat else min c.toNat (ns.map V.int).length)).take ((if c+m<0 then (c+m+((ns.map V.int).length:Int)).toNat else min (c+m).toNat (ns.map V.int).length)-(if c<0 then (c+((ns.map V.int).length:Int)).toNat else min c.toNat (ns.map V.int).length))=_
  rw[if_neg (Int.not_lt.mpr h),if_neg (Int.not_lt.mpr (Int.add_nonneg h d)),Ab]
 .rw[Bt,Int.toNat_add h d];refine Bh (Nat.min_le_left ..) ?_;generalize c.toNat=a;generalize m.toNat=b;generalize ns.length=L;clear h d;omega
def NZ(h:cV bk mss):∀j,j<mss.length->mss.getD j []≠[]/\(mss.getD j []).length<=5/\∀t∈mss.getD j [],fH t:=λj a=>by
 obtain⟨_,b,d,c⟩:=h.2 j _ _ (Aa (by rwa[<-h.1])) (Aa a)
 rw[Ac,Aa a];exact⟨λz=>by grind,d,c⟩
def pF(h:cV bk mss):∀ {js:List Nat},(∀j∈js,j<mss.length)->(dB mss js).length<=5*js.length/\∀t∈dB mss js,fH t
 |[],_=>⟨Ai _,λt a=>nomatch a⟩
 |j::r,hj=>by
  obtain⟨f,c⟩:=pF h  λx d=>hj x (Ak _ d);obtain⟨_,e,b⟩:=NZ h j (hj j Al);rw[fV,Af,Av];grind
def nQ(a:Int){n:Nat}(h:1<=n):∃y:Nat,a%(n:Int)=(y:Int)/\y<n:=by
 have c:=Cz a (show (n:Int)≠0 by omega)
 have b:=Dh a (show _<(n:Int) by (exact Int.ofNat_le.mpr (by assumption)))
 exact⟨(a%(n:Int)).toNat,by ((try clear b h);omega),by ((try clear h);omega)⟩
def Oh{k:Addr}(h:ZF H k bk)(f:sO bk cws)(c:cV bk mss)(e:j<bk.length):∃(a:List Addr) (p:Addr) (g:List Nat),H k=some (.lst (a.map V.ref))/\a.length=bk.length/\YY (a.map V.ref) (j:Int)=some (.ref p)/\H p=some (.tup [.str (aV g),.str (cH (dB mss [j]))])/\j<mss.length/\1<=g.length/\g.length<=6/\∀d∈g,aX d:=by
 obtain⟨a,t,s,r⟩:=h;have q:cws[j]?=some (cws[j]'(by rw[f.1];exact e)):=Aa _
 obtain⟨m,n⟩:=f.2 j _ _ (Aa e) q;have l:a[j]?=some (a[j]'(by ((try clear n);omega))):=Aa _
 have b:j<mss.length:=by rw[c.1];exact e
 have o:=(c.2 j _ _ (Aa e) (Aa b)).1
 have i:=r j _ _ l (Aa e)
 rw[m,o,show mss[j]=dB mss [j] by rw[fV,Ac,Aa b];exact(Bs _).symm]at i
 exact⟨a,_,_,t,s,aW (by rw[Ag,l];rfl),i,b,n⟩
def Sg(h:cV bk mss)(a:∀j∈js,j<mss.length)(b:1<=js.length):dB mss js≠[]:=by
 cases js with
 |nil=>exact absurd b (by decide)
 |cons j r=>
  exact λz=>(NZ h j (a j Al)).1 (List.append_eq_nil_iff.mp z).1
def zP(h:cV bk mss)(b:∀j∈js,j<mss.length)(d:1<=js.length)(a:j<mss.length):cH (dB mss js)++Str.ofString " " ++ cH (dB mss [j])=cH (dB mss (js++[j])):=by
 rw[Nb,Rw (Sg h b d) (Sg h  (λi c=>by simp_all) (Ai _))]
def EJ(h:cV bk mss)(b:bk.length<=60){m:Nat}(a:∀j∈js,j<mss.length)(d:1<=js.length)(g:js.length<=3):(Dd.say (dB mss js)).ok mss m:=by
 obtain⟨f,c⟩:=pF h a;refine⟨?_,by ((try clear b);omega),c,js.length,PD (TL h b) (Ct _) a (List.drop_zero ..)⟩
 have:=Sg h a d
 grind
def zQ(h:cV bk mss)(a:j<mss.length):(cH (dB mss [j])).length<=60:=by
 obtain⟨d,c⟩:=pF h (js:=[j]) (λi b=>by simp_all)
 exact BF (by (assumption)) c
def Qa(h:1<=cs.length)(g:cs.length<=6)(b:∀d∈cs,aX d)(m:Nat)(a:List (Q6)){n:Nat}(f:n<m):(Dd.haul n (cs++[YV cs])).ok a m:=by
 obtain⟨e,c⟩:=Oy g b;refine⟨f,by rw[Af];show _+1<=7;(exact Nat.lt_of_le_of_lt (by assumption) (by decide)),wB b e,?_⟩
 unfold Ws;grind
def CK:∀c∈(Str.ofString "abcdefghijklmnopqrstuvw12341234").cps.toList,hJ c:=by
 decide +kernel
inductive yX(h:List V)(H:Hp)(Q:VK)(zz3:XK):Prop|mk(N:Int)(m:Nat)(g:Addr)(b:List (Str×Str))(e:List (List Nat))(a:List (List (List Nat)))(_:h=[.int N,.int (m:Int),.ref g])(_:0<=N)(_:1<=m)(_:ZF H g b)(_:sO b e)(_:cV b a)(_:1<=b.length)(_:b.length<=8)(_:∀c (d:Dd) f,Z_ H f->H c=none->f c=some (.tup d.vs)->d.ok a m->Q (.ref c) f):yX h H Q zz3
def w6:Z9 ["_law_number", "_law_many", "_law_book_here", "_law_way", "_law_page", "_law_text", "_law_k"] ["_law_number", "_law_many", "_law_book_here"] (aK wL):=by fail "sc"
def FY(F:ZT K "_law_deed" "_law_deed" wL f fd)(u6:ZR P w K mg base 1 "_law_checked" ["_law_word_here"] kH)(o9:ZR P w K mg base 1 "_law_word" ["_law_number", "_law_most"] rE):Z8 P w K mg base ZS 2 f fd ["_law_number", "_law_many", "_law_book_here"] yX:=by
 refine F.ok w6 (λvs H Q E h=>?_) (λc7 A a3 s H vs Q E hr h=>?_)
 .obtain⟨N,m,rb,bk,b5,b,rfl,_⟩:=h;rfl
 obtain⟨N,m,rb,bk,b5,b,rfl,hN,m1,R,J,d,S,c4,q⟩:=h;refine⟨_,(@aD _ _ _ _ _ (aP 3 w6.nd (aR dC (mv 0) aJ)) (@aD _ _ _ _ _ (aP 0 w6.nd (aR fM (mv 0) aJ)) (@aD _ _ _ _ _ (aP 4 w6.nd (bD bN (mv 2) (aR dC (aR fM (mv 0) aJ) (aY cO rfl G.b_len bR (aA (mv 2) aB))) (λ_ _=>rfl))) (@aD _ _ _ _ _ (cD (bA xS (mv 3) aJ (bB _)) (@aI _ _ _ (aT (dM (@cY _ _ _ _ _ _ (aA (aR dC (mv 0) (mv 1)) (aA (aU u6 hr (by decide) rfl (aA (bD bN (mv 4) aJ (λ_ _=>rfl)) aB)) aB)))))) bF) (@aD _ _ _ _ _ (cD (bA mV (mv 3) aJ (bB _)) (@aI _ _ _ (aT (dM (@cY _ _ _ _ _ _ (aA (aR dC (mv 0) (mv 1)) (aA (aU u6 hr (by decide) rfl (aA (aU o9 hr (by decide) rfl (aA (aR fM (mv 0) aJ) (aA aJ aB))) aB)) aB)))))) bF) (@aD _ _ _ _ _ (cD (bA mV (mv 3) aJ (bB _)) (@aI _ _ _ (aT (dM (@cY _ _ _ _ _ _ (aA (aR dC (mv 0) (mv 1)) aB))))) bF) (@aD _ _ _ _ _ (cD (bA mV (mv 3) aJ (bB _)) (@aI _ _ _ (aT (dM (aA (@bD _ _ _ _ _ _ _ bN (bO (@cY _ _ _ _ _ _ (@cY _ _ _ _ _ _ aB))) (aR dC (mv 0) aJ) (λ_ _=>rfl)) (aA (bD bN fO (aR dC (aR fM (mv 0) aJ) aJ) (λ_ _=>rfl)) aB))))) bF) (@aD _ _ _ _ _ (aP 5 w6.nd (bD bN (mv 4) aJ (λ_ _=>rfl))) (@aD _ _ _ _ _ (cP Bl rfl (jV rfl G.b_range (aA (aR dC (aR fM (mv 0) aJ) aJ) aB)) (bC (i:=6) w6.nd rfl (Or.inl rfl)) (@aD _ _ _ _ _ (aP 0 w6.nd (aR dC (aR lM (aR bQ (aR bQ (mv 0) (mv 6)) aJ) aJ) aJ)) (@aI _ _ _ (aP 5 w6.nd (aR bQ (aR bQ (mv 5) fO) (bD bN (bD bN (mv 2) (aR dC (aR fM (mv 0) aJ) (aY cO rfl G.b_len bR (aA (mv 2) aB))) (λ_ _=>rfl)) aJ (λ_ _=>rfl))))))) (@aI _ _ _ (aT (dM (@cY _ _ _ _ _ _ (aA (mv 5) aB)))))))))))))),?_⟩
 have c5:(0:Int)<((bk.length:Nat):Int):=by (exact Int.ofNat_le.mpr (by assumption))
 have b9:(0:Int)<(m:Int):=by (exact Int.ofNat_le.mpr (by assumption))
 obtain⟨j,ej,hj⟩:=nQ (N / 8 / 6) S;obtain⟨n,en,hn⟩:=nQ (N / 8) m1;obtain⟨qs,pj,W,b1,b2,aj,o,C,O,M,L⟩:=Oh R J d hj;have B:(qs.map V.ref).length=bk.length:=by rw[Ab,b2]
 have rq:=aM b1
 have T:0<=N / 8:=Int.ediv_nonneg hN (by decide)
 have b3:0<=N / 8 / 6:=Int.ediv_nonneg T (by decide)
 fail "g";rw[B];fail "g";rw[ej];refine bX rq aj ?_;have tt:=cW o
 fail "g";refine eJ (λ_=>?_) (λ_=>?_)
 .fail "g";rw[en];refine cF o (v:=.str (aV W)) (aW (j:=0) rfl) ?_;fail "g";refine⟨W,rfl,O,M,L,λY r _ _=>?_⟩;fail "g";refine⟨za1,λk a=>?_⟩
  exact q k (.haul n (W++[YV W])) _ (r.trans (aG a _)) (none_of r a) aE (Qa O M L m b hn)
 fail "g";refine eJ (λ_=>?_) (λ_=>?_)
 .fail "g";rw[en];fail "g";refine⟨N / 8 / 6,6,rfl,b3,by decide,by decide,λcu Y r y b7 x=>?_⟩
  fail "g";refine⟨cu,rfl,y,by ((try clear B C M O S T b2 b3 b9 c4 c5 ej en hN hj hn m1);omega),x,λH2 s2 _ _=>?_⟩
  fail "g";refine⟨za1,λk a=>?_⟩
  exact q k (.haul n (cu++[YV cu])) _ ((r.trans s2).trans (aG a _)) (none_of (r.trans s2) a) aE (Qa y (by ((try clear B C M O S T b2 b3 b9 c4 c5 ej en hN hj hn m1);omega)) x m b hn)
 fail "g";refine eJ (λ_=>?_) (λ_=>?_)
 .fail "g";rw[en];refine⟨za0,λk a=>?_⟩
  exact q k (.lower n) _ (aG a _) a aE hn
 fail "g";refine eJ (λ_=>?_) (λ_=>?_)
 .fail "g";refine⟨za0,λp1 a4=>?_⟩
  have t:=aG a4 (.lst [V.str "lose",V.str "find"])
  have e1:Z4 (upd H p1 (.lst [V.str "lose",V.str "find"])) p1=some [V.str "lose",V.str "find"]:=cG
  generalize upd H p1 (.lst [V.str "lose",V.str "find"])=Y at t e1 ⊢;obtain⟨u,eu,hu⟩:=nQ (N / 8) (n:=2) (by decide)
  obtain⟨v,ev,hv⟩:=nQ (N / 8 / 2) (n:=31) (by decide)
  rw[show ((2:Nat):Int)=2 from rfl]at eu;rw[show ((31:Nat):Int)=31 from rfl]at ev;have p:v<(Str.ofString "abcdefghijklmnopqrstuvw12341234").cps.toList.length:=hv
  have I:=CK _ (Bx p)
  fail "g";rw[eu];rcases (show u=0\/u=1 by ((try clear B C M O S T b2 b3 b9 c4 c5 ej en ev hN hj hn hu hv m1 p);omega)) with rfl|rfl
  .refine bX e1 (v:=.str "lose") (aW (j:=0) rfl) ?_;fail "g";rw[ev];refine vD (by decide) (aW (Aa p)) ?_
   fail "g";refine⟨za0,λk a=>?_⟩
   exact q k (.lose _) _ (t.trans (aG a _)) (none_of t a) aE I
  .refine bX e1 (v:=.str "find") (aW (j:=1) rfl) ?_;fail "g";rw[ev];refine vD (by decide) (aW (Aa p)) ?_
   fail "g";refine⟨za0,λk a=>?_⟩
   exact q k (.find _) _ (t.trans (aG a _)) (none_of t a) aE I
 fail "g";refine cF o (v:=.str (cH (dB b [j]))) (aW (j:=1) rfl) ?_;have y0:=Cz (N / 8 / 50) (show (3:Int)≠0 by decide)
 have y1:=Dh (N / 8 / 50) (show (0:Int)<3 by decide)
 fail "g";refine⟨⟨by ((try clear B C M O S T b2 b3 b9 c4 c5 ej en hN hj hn m1 y1);omega),by ((try clear B C M O S T b2 b3 b9 c4 c5 ej en hN hj hn m1 y1);omega)⟩,?_⟩
 have a7:∀i∈[j],i<b.length:=λi hi=>by rw[Ah.mp hi];exact C
 refine qE (λi U H'=>∃X l Z,U=[some (.int X),some (.int (m:Int)),some (.ref rb),some (.int (N%8)),some (.ref pj),some (.str (cH (dB b l))),Z]/\0<=X/\H'=H/\l.length=1+i/\(∀j∈l,j<b.length)/\(cH (dB b l)).length<=60+61*i) ⟨_,[j],_,rfl,T,rfl,rfl,a7,zQ d C⟩ ?_ ?_
 .rintro i U Y hi ⟨X,l,Z,rfl,hX,rfl,D,c,a5⟩;fail "g";rw[B];have x0:=Cz ((X+(0+(i:Int))+1)*69621) (show (2147483647:Int)≠0 by decide)
  generalize (X+(0+(i:Int))+1)*69621%2147483647=X' at x0 ⊢;obtain⟨j2,b4,a8⟩:=nQ (X' / 7) S;obtain⟨b6,p2,c6,c1,c2,a2,a1,e,_⟩:=Oh R J d a8;fail "g";rw[b4];refine bX (aM c1) a2 ?_;fail "g";have b8:=zQ d e
  have a6:(cH (dB b l)++Str.ofString " ").length=(cH (dB b l)).length+1:=by rw[Gx];rfl
  have c3:i<3:=by ((try clear B C M O S T a5 a6 a8 b2 b3 b4 b8 b9 c2 c4 c5 e ej en hN hX hj hn m1 x0 y1);omega)
  refine cF a1 (v:=.str (cH (dB b [j2]))) (aW (j:=1) rfl) ?_;fail "g";refine⟨_,l++[j2],_,by rw[zP d c (by ((try clear B C M O S T a5 a6 a8 b2 b3 b4 b8 b9 c2 c4 c5 e ej en hN hX hi hj hn m1 x0 y0 y1);omega)) e];rfl,x0,rfl,by rw[Af,D];rfl,λi' a9=>?_,?_⟩
  .rcases Bk.mp a9 with z|z
   .exact c i' z
   .rw[Ah.mp z];exact e
  .rw[<-zP d c (by ((try clear B C M O S T a5 a6 a8 b2 b3 b4 b8 b9 c2 c4 c5 e ej en hN hX hi hj hn m1 x0 y0 y1);omega)) e,Gx,a6]
   ((try clear B C M O S T a8 b2 b3 b4 b9 c2 c3 c4 c5 e ej en hN hX hi hj hn m1 x0 y0 y1);omega)
 .rintro U Y ⟨X,l,Z,rfl,hX,rfl,D,c,a5⟩;fail "g";refine⟨za0,λk a=>?_⟩
  exact q k (.say (dB b l)) _ (aG a _) a aE (EJ d (by (exact Nat.le_trans (by assumption) (by decide))) c (by ((try clear B C M O S T a5 b2 b3 b9 c4 c5 ej en hN hX hj hn m1 y0 y1);omega)) (by ((try clear B C M O S T a5 b2 b3 b9 c4 c5 ej en hN hX hj hn m1 y1);omega)))
structure YI (H:Hp) (hs:List (Option (List Nat))) (f:Nat->Option Int) (dps:List Addr) (cws:List (List Nat)) (us:List V) (r1 r2 r3 r4:Addr):Prop where
 h1:H r1=some (.lst us)
 XX:Z7 H us hs
 h2:H r2=some (.dK (Zf (aQ f) (bP (aQ f) 27)))
 h3:H r3=some (.lst (dps.map V.ref))
 h4:H r4=some (.lst (hs.map (VF cws)))
def YI.keep{f:Nat->Option Int}{d c b a:Addr}(h:YI H hs f dps cws us d c b a)(s:Z_ H H'):YI H' hs f dps cws us d c b a:=⟨s _ _ h.h1,h.XX.keep s,s _ _ h.h2,s _ _ h.h3,s _ _ h.h4⟩
def EB(cws:Q6)(o:Option _):cA (VF cws o)=true:=by
 cases o with
 |none=>rfl
 |some a=>
  show cA (match (iT cws).findIdx? _ with|some j=>V.int _|none=>.non)=true
  cases (iT cws).findIdx? _<;>rfl
def zY{n:Nat}(f:xs.all cA=true):∀(j:Nat) x y,xs[j]?=some x->xs[j]?=some y->X4 H n x y:=λj x y b a=>by
 rw[b]at a;cases a;exact X4.same (.inl (Bz.mp f x (Am b)))
def qG{n:Nat}{q:Addr}{ys:List V}(b:Z4 H p=some xs)(a:Z4 H q=some ys)(c:xs.length=ys.length)(h:∀(j:Nat) x y,xs[j]?=some x->ys[j]?=some y->X4 H n x y):X4 H (n+1) (.ref p) (.ref q):=.inr ⟨p,q,rfl,rfl,.inl ⟨xs,ys,b,a,c,h⟩⟩
def YI.alike{f:Nat->Option Int}{m:List V}{t s r q B A z w:Addr}(a:YI H hs f dps cws us t s r q)(b:YI H hs f dps cws m B A z w):∀(j:Nat) x y,[V.ref t,V.ref s,V.ref r,V.ref q][j]?=some x->[V.ref B,V.ref A,V.ref z,V.ref w][j]?=some y->X4 H 2 x y:=λj x y c d=>by
 match j,c,d with
 |0,c,d=>
  cases c;cases d;refine qG (aM a.h1) (aM b.h1) (by rw[a.XX.len,b.XX.len]) λk u v g h=>?_
  have E:k<hs.length:=by rw[<-a.XX.len];exact(Ad.mp g).1
  have C:=Aa E
  have l:=a.XX.val k u _ g C
  have i:=b.XX.val k v _ h C
  cases e:hs[k] with
  |none=>
   rw[e]at l i;rw[show u=.non from l,show v=.non from i];exact X4.same (.inl rfl)
  |some G=>
   rw[e]at l i;obtain⟨p,rfl,D⟩:=l;obtain⟨F,rfl,n⟩:=i;exact qG (aM D) (aM n) rfl (zY (dD _))
 |1,c,d=>
  cases c;cases d;exact .inr ⟨_,_,rfl,rfl,.inr ⟨_,_,.inl a.h2,.inl b.h2,(dX (aQ f)).Qg (dX (aQ f))⟩⟩
 |2,c,d=>
  cases c;cases d;refine qG (aM a.h3) (aM b.h3) rfl λk u v g h=>?_;rw[g]at h;cases h;rw[Ag]at g;obtain⟨p,_,rfl⟩:=Cc.mp g;exact X4.same (.inr ⟨p,rfl⟩)
 |3,c,d=>
  cases c;cases d;exact qG (aM a.h4) (aM b.h4) rfl (zY (by rw[Ir];exact Bz.mpr λo _=>EB cws o))
 |j+4,c,_=>cases c
def YI.ZN{l:List Addr}{f:Nat->Option Int}{d c b a:Addr}(h:YI H hs f dps cws us d c b a)(ok:fF hs)(s:Z1 l H H')(n:tS H l)(i:d∉l)(g:b∉l)(e:a∉l):YI H' hs f dps cws us d c b a:=⟨s _ _ i h.h1,h.XX.ZN ok s n,s _ _ (λz=>(n c z).2.1 _ h.h2) h.h2,s _ _ g h.h3,s _ _ e h.h4⟩
def C4(s:ZZ Pt H H'):Z1 [x,y,Pt] H H':=λp o n e=>s p o (λz=>n (by rw[z];simp)) e
inductive zC(C i:Addr)(w:List V)(H:Hp)(Q:VK)(zz3:XK):Prop|mk(x b l u o j q:Addr)(m:Nat)(t:List (Str×Str))(h:List (List Nat))(a:List (List (List Nat)))(p:Nat->Option Int)(r:List Dd)(c:List Addr)(v:List (Option (List Nat)))(f:Nat->Option Int)(s:Addr)(d:Dd)(_:w=[.ref x,.ref s])(_:Zm C H x b l u o j q m t h a p r c v f)(_:H s=some (.tup d.vs))(_:d.ok a m)(_:c.length<=900)(_:dE i H)(_:(∀k g (n:Q4) y e,Z1 [x,j,i] H e->dE i e->(g=o\/H g=none)->Zm C e x b l k g j q m t h a p (r++[d]) (c++[s]) n y->Q (.bl true) e))(_:(∀e,ZZ i H e->dE i e->Zm C e x b l u o j q m t h a p r c v f->Q (.bl false) e)):zC C i w H Q zz3
def Jb:Z9 ["_law_tower", "_law_deed_here"] ["_law_tower", "_law_deed_here"] (aK uJ):=by fail "sc"
def Ld(F:ZT K "_law_done" "_law_done" uJ f fd)(o8:qY (Za P w) P w K mg base 15 Z0 "do" ["self", "deed"] (lQ Z0 Zs Zt Zv Zy Pt)):Z8 P w K mg base ZS 17 f fd ["_law_tower", "_law_deed_here"] (zC Z0 Pt):=by
 refine F.ok Jb (λW H Q E h=>?_) (λa1 A n s H W Q E hr h=>?_)
 .obtain⟨x,b,I,C,M,T,z,m,U,i,a,N,O,e,L,f,S,d,rfl,_⟩:=h;rfl
 obtain⟨x,b,I,C,M,T,z,m,U,i,a,N,O,e,L,f,S,d,rfl,j,v,r,y,c,q1,Z⟩:=h;refine⟨_,(@aD _ _ _ _ _ (IJ rfl rfl rfl rfl G.c_TowerError (λV R=>(@aI _ _ _ (bW (EU o8 G.Z6 (xI rfl) hr (by decide) (mv 0) (aA (mv 1) aB))))) (λV ea=>(@aI _ _ _ (aT lK)))) (@aI _ _ _ (aT lK))),?_⟩
 fail "g";refine⟨x,z,_,rfl,j.ins,PH,?_⟩;refine⟨x,b,I,C,M,T,z,S,m,U,i,a,N,O,e,L,f,d,rfl,j,v,r,y,c,λk u q f' B Y p hh _ X=>?_,λ_ D o B hD J p=>⟨?_,?_⟩⟩
 exact q1 k u q f' B Y p hh X
 .rcases hD with rfl|rfl|rfl|rfl
  .exact G.WJ
  .exact G.Xk
  .exact G.XA
  .exact G.Yp
 exact Z B J p (j.XH J c)
inductive pG(C:Addr)(n:List V)(H:Hp)(Q:VK)(zz3:XK):Prop|mk(x b q o s w u m y c j t v a l f)(_:n=[.ref x])(_:Zm C H x b q o s w u m y c j t v a l f)(_:a.length<=990)(_:∀r h g e d k i,Z_ H i->i r=some (.lst [.ref h,.ref g,.ref e,.ref d])->YI i l f a c k h g e d->(∀p∈[r,h,g,e,d],H p=none)->(∀p,V.ref p∈k->H p=none)->r∉[h,g,e,d]->Q (.ref r) i):pG C n H Q zz3
def IX:Z9 ["_law_tower"] ["_law_tower"] (aK sK):=by fail "sc"
def ES(F:ZT K "_law_state" "_law_state" sK f fd)(R:qY ZS P w K mg base 1 Z0 "halyards" ["self"] (iS Z0))(O:qY ZS P w K mg base 2 Z0 "locker" ["self"] (lF Z0))(x8:qY ZS P w K mg base 1 Z0 "log" ["self"] (gY Z0))(N:qY ZS P w K mg base 6 Z0 "read" ["self"] (oB Z0)):Z8 P w K mg base ZS 8 f fd ["_law_tower"] (pG Z0):=by
 refine F.ok IX (λvs H Q E h=>?_) (λb1 A X s H vs Q E M h=>?_)
 .obtain⟨x,b,u,n,y,D,i,m,bk,k,Y,f0,ds,C,L,f,rfl,_⟩:=h;rfl
 obtain⟨x,b,u,n,y,D,i,m,bk,k,Y,f0,ds,C,L,f,rfl,c,a9,q⟩:=h;refine⟨_,(@aI _ _ _ (aT (@bO _ _ _ _ (aA (kG R G.Z6 M (by decide) (mv 0)) (aA (kG O G.Z6 M (by decide) (mv 0)) (aA (kG x8 G.Z6 M (by decide) (mv 0)) (aA (kG N G.Z6 M (by decide) (mv 0)) aB))))))),?_⟩
 obtain⟨⟨us,hB,j⟩,ok,⟨Z,hR,lk⟩,a6⟩:=id c.tw;have rB:=aM hB
 have a7:=j.len
 have a8:=c.len
 have h6:=c.six
 fail "g";refine⟨x,i,_,rfl,c.ins,uZ,?_⟩;fail "g";refine⟨x,b,u,n,y,D,i,m,us,L,rfl,c.ins,rB,j,by ((try clear a9);omega),λW l H4 a4 r e4 B a5=>?_⟩
 fail "g";refine⟨x,i,_,rfl,r _ _ c.ins,JX,?_⟩;fail "g";refine⟨x,b,u,n,y,D,i,m,Z,f,rfl,r _ _ c.ins,.inl (r _ _ hR),lk,λV H5 a3 S e5=>?_⟩;have e:=r.trans S
 fail "g";refine⟨x,i,_,rfl,e _ _ c.ins,rQ,?_⟩;fail "g";refine⟨x,b,u,n,y,D,i,m,_,rfl,e _ _ c.ins,e _ _ c.log,λU H6 a2 J e6=>?_⟩;have d:=e.trans J
 fail "g";refine⟨x,i,_,rfl,d _ _ c.ins,FX,?_⟩;fail "g";refine⟨x,b,u,n,y,D,i,m,us,L,bk,k,rfl,d _ _ c.ins,aO d rB,j.keep d,by ((try clear a9);omega),ok,c.Yy.UZ.keep d,c.Yy.le,c.Yy.cw,λT H7 a1 o e7=>?_⟩
 have t:=d.trans o
 fail "g";refine⟨by show 4<=sizeLine;decide,λrs a=>?_⟩
 have k8:=aG a (.lst [.ref W,.ref V,.ref U,.ref T])
 have I:YI H7 L f C k l W V U T:=⟨(S.trans (J.trans o)) _ _ e4,B.keep (S.trans (J.trans o)),(J.trans o) _ _ e5,o _ _ e6,e7⟩
 refine q rs W V U T l _ (t.trans k8) aE (I.keep k8) (λp v=>?_) a5 (λv=>?_)
 .simp at v;rcases v with z|z|z|z|z<;>rw[z]
  .exact none_of t a
  .exact a4
  .exact none_of r a3
  .exact none_of e a2
  .exact none_of d a1
 .simp at v;rcases v with z|z|z|z<;>rw[z]at a
  .rw[I.h1]at a;cases a
  .rw[I.h2]at a;cases a
  .rw[I.h3]at a;cases a
  .rw[I.h4]at a;cases a
def yV(h:Z7 H us hs)(ok:fF hs)(d:V.ref p∈us):∃z b,H p=some (.lst (.str z::b)):=by
 obtain⟨j,a⟩:=Fk.mp d;have f:j<hs.length:=by rw[<-h.len];exact(Ad.mp a).1
 obtain⟨c,b,_,e⟩:=Qq h ok a (Aa f);exact⟨_,_,e⟩
def MK(h:Z7 H us hs){cs:List V}(e:us=.str z::cs):False:=by
 subst e;have b:0<hs.length:=by rw[<-h.len];exact Nat.succ_pos _
 have:=h.val 0 _ _ rfl (Aa b)
 cases a:hs[0] with
 |none=>rw[a]at this;cases this
 |some cs=>rw[a]at this;obtain⟨p,e,_⟩:=this;cases e
inductive qO(C:Addr)(g:List V)(H:Hp)(Q:VK)(zz3:XK):Prop|mk(x b i h k p n m q d c l o a j f)(_:g=[.ref x])(_:Zm C H x b i h k p n m q d c l o a j f)(_:a.length<=990)(_:∀e,Z_ H e->Q (.bl true) e):qO C g H Q zz3
def l8:Z9 ["_law_tower", "_law_state_here", "_law_told", "_law_hoist", "_law_some"] ["_law_tower"] (aK mL):=by fail "sc"
def LD(F:ZT K "_law_emptied" "_law_emptied" mL f fd)(G:Gs K mg w Zs Zz Zt Zx Z0 Zw Zy Zu Zv)(z7:ZR P w K mg base 8 "_law_state" ["_law_tower"] (pG Z0)):Z8 P w K mg base ZS 9 f fd ["_law_tower"] (qO Z0):=by
 refine F.ok l8 (λvs H Q E h=>?_) (λb7 A a3 s H vs Q E hr h=>?_)
 .obtain⟨x,b,s0,st,hg,dd,dx,m,bk,O,L,f0,ds,N,Z,f,rfl,_⟩:=h;rfl
 obtain⟨x,b,s0,st,hg,dd,dx,m,bk,O,L,f0,ds,N,Z,f,rfl,Y,X,q⟩:=h;refine⟨_,(@aD _ _ _ _ _ (aP 1 l8.nd (aU z7 hr (by decide) rfl (aA (mv 0) aB))) (@aD _ _ _ _ _ (aP 2 l8.nd (aU z7 hr (by decide) rfl (aA (mv 0) aB))) (@aD _ _ _ _ _ (cP Bl rfl (bT (bD bN (mv 2) aJ (λ_ _=>rfl))) (bC (i:=3) l8.nd rfl (Or.inl rfl)) (@aI _ _ _ (cD (bA uU (mv 3) dG (bB _)) (@aI _ _ _ (bW (PX Bg Ht Hv RS (mv 3)))) bF))) (@aD _ _ _ _ _ (cP Bl rfl (bT (mv 2)) (bC (i:=4) l8.nd rfl (Or.inl rfl)) (@aI _ _ _ (bW (KC (mv 4))))) (@aI _ _ _ (aT (gC (FH hr.units) (aU z7 hr (by decide) rfl (aA (mv 0) aB)) (mv 1) (bB _)))))))),?_⟩
 have ok:=Y.tw.ok
 fail "g";refine⟨x,b,s0,st,hg,dd,dx,m,bk,O,L,f0,ds,N,Z,f,rfl,Y,X,λr r1 r2 r3 r4 us H1 s1 er S1 _ _ _=>?_⟩;fail "g";refine⟨x,b,s0,st,hg,dd,dx,m,bk,O,L,f0,ds,N,Z,f,rfl,Y.keep s1,X,λt l u I D J H2 s2 et C b1 a9 a8=>?_⟩;have rt:=aM et
 have a6:=C.XX.len
 have b6:=Y.len
 have h6:=Y.six
 have nt:∀ {p},V.ref p∈J->p≠t/\p≠l:=fun {p} M=>by
  obtain⟨z,cs,e⟩:=yV C.XX ok M;refine⟨λy=>?_,λy=>?_⟩
  .rw[y,et]at e;cases e
  .rw[y,C.h1]at e;exact MK C.XX (by injection Bj e)
 have n4:∀ {p},p∈[l,u,I,D]->H1 p=none/\p≠t:=λM=>⟨b1 _ (Ak _ M),λz=>a8 (by rw[<-z];exact M)⟩
 fail "g";refine bX rt (v:=.ref l) (aW (j:=0) rfl) ?_;have b5:=aM C.h1
 fail "g";refine fP (xs:=J) (λi U k=>∃v3 v4,U=[some (.ref x),some (.ref r),some (.ref t),v3,v4]/\Z_ H1 k/\k t=some (.lst [.ref l,.ref u,.ref I,.ref D])/\k l=some (.lst J)/\(∃c,k u=some (.dK c))/\(∃d,k I=some (.lst d))/\(∃d,k D=some (.lst d))/\∀p,V.ref p∈J->∃d,k p=some (.lst d))
  ⟨_,_,rfl,s2,et,C.h1,⟨_,C.h2⟩,⟨_,C.h3⟩,⟨_,C.h4⟩,λp M=>by obtain⟨z,cs,e⟩:=yV C.XX ok M;exact⟨_,e⟩⟩ (λi U k _ ⟨_,_,_,_,_,e,_⟩=>aM e) ?_ ?_
 .rintro i v U H3 hv ⟨v3,v4,rfl,s3,e0,e1,⟨c,e2⟩,⟨y3,e3⟩,⟨y4,e4⟩,W⟩;have B:=Am hv
  have a7:v=.non\/∃p,v=.ref p:=by
   have hl:i<Z.length:=by rw[<-a6];exact(Ad.mp hv).1
   have:=C.XX.val i _ _ hv (Aa hl)
   cases eh:Z[i] with
   |none=>rw[eh]at this;exact .inl this
   |some cs=>rw[eh]at this;obtain⟨p,e,_⟩:=this;exact .inr ⟨p,e⟩
  rcases a7 with rfl|⟨p,rfl⟩
  .fail "g";rw[show (!decide (V.non=V.non))=false from rfl];fail "g";exact⟨_,_,rfl,s3,e0,e1,⟨c,e2⟩,⟨y3,e3⟩,⟨y4,e4⟩,W⟩
  .obtain⟨d,ep⟩:=W p B;have mp:=bL ep
   have rp:=aM ep
   obtain⟨a5,a4⟩:=nt B;fail "g";rw[show (!decide (V.ref p=V.non))=true from by rw[Aw (λz=>nomatch z)];rfl]
   fail "g";have S:∀ {a:Addr} {o:List V},H3 a=some (.lst o)->∃ws,(upd H3 p (.lst [])) a=some (.lst ws):=fun {a o} e=>by
    by_cases z:a=p
    .exact⟨[],by rw[z];exact aE⟩
    .exact⟨o,by rw[aH z];exact e⟩
   exact⟨_,_,rfl,bJ (a9 p B) s3,by rw[aH a5.symm];exact e0,by rw[aH a4.symm];exact e1,⟨c,by rw[aH (λz=>by rw[z,ep]at e2;cases e2)];exact e2⟩,S e3,S e4,λa ha=>by obtain⟨o,e⟩:=W a ha;exact S e⟩
 .rintro U H3 ⟨v3,v4,rfl,s3,e0,e1,e2,e3,e4,_⟩;have b4:=aM e0
  fail "g";refine fP (xs:=[V.ref l,V.ref u,V.ref I,V.ref D]) (λi U k=>∃v4,U=[some (.ref x),some (.ref r),some (.ref t),v3,v4]/\Z_ H1 k/\k t=some (.lst [.ref l,.ref u,.ref I,.ref D])/\(∃d,k l=some (.lst d))/\(∃c,k u=some (.dK c))/\(∃d,k I=some (.lst d))/\∃d,k D=some (.lst d))
   ⟨_,rfl,s3,e0,⟨_,e1⟩,e2,e3,e4⟩ (λi U k _ ⟨_,_,_,e,_⟩=>aM e) ?_ ?_
  .rintro i v U n hv ⟨a2,rfl,s4,a1,⟨y1,f1⟩,⟨c,f2⟩,⟨y3,f3⟩,⟨y4,f4⟩⟩;have B:v=.ref l\/v=.ref u\/v=.ref I\/v=.ref D:=by
    have:=Am hv
    simp only[List.mem_cons,List.not_mem_nil,or_false]at this;exact this
   have S:∀ {p a:Addr} {o:List V},n a=some (.lst o)->∃ws,(upd n p (.lst [])) a=some (.lst ws):=fun {p a o} e=>by
    by_cases z:a=p
    .exact⟨[],by rw[z];exact aE⟩
    .exact⟨o,by rw[aH z];exact e⟩
   have T:∀ {p:Addr} {d:List V},p∈[l,u,I,D]->n p=some (.lst d)->Z_ H1 (upd n p (.lst []))/\(upd n p (.lst [])) t=some (.lst [.ref l,.ref u,.ref I,.ref D])/\(∃d,(upd n p (.lst [])) l=some (.lst d))/\(∃c,(upd n p (.lst [])) u=some (.dK c))/\(∃d,(upd n p (.lst [])) I=some (.lst d))/\∃d,(upd n p (.lst [])) D=some (.lst d):=fun {p d} M ep=>⟨bJ (n4 M).1 s4,by rw[aH (n4 M).2.symm];exact a1,S f1,⟨c,by rw[aH (λz=>by rw[z,ep]at f2;cases f2)];exact f2⟩,S f3,S f4⟩
   fail "g";refine E5 ?_;fail "g";rcases B with rfl|rfl|rfl|rfl
   .refine .inl ⟨y1,f1,?_⟩;fail "g";exact⟨_,rfl,T (by simp) f1⟩
   .refine .inr ⟨c,f2,?_⟩;fail "g";have ne:∀ {a:Addr} {o:List V},n a=some (.lst o)->(upd n u (.dK [])) a=some (.lst o):=λe=>by rw[aH (λz=>by rw[z,f2]at e;cases e)];exact e
    exact⟨_,rfl,bJ (n4 (by simp)).1 s4,ne a1,⟨_,ne f1⟩,⟨_,aE⟩,⟨_,ne f3⟩,⟨_,ne f4⟩⟩
   .refine .inl ⟨y3,f3,?_⟩;fail "g";exact⟨_,rfl,T (by simp) f3⟩
   .refine .inl ⟨y4,f4,?_⟩;fail "g";exact⟨_,rfl,T (by simp) f4⟩
  .rintro U n ⟨a2,rfl,s4,_⟩;fail "g";refine⟨x,b,s0,st,hg,dd,dx,m,bk,O,L,f0,ds,N,Z,f,rfl,Y.keep (s1.trans s4),X,λp0 p1 p2 p3 p4 b3 H9 s9 b2 S9 _ _ _=>?_⟩;have R:=s4.trans s9
   refine Vj (neg:=false) 2 (aM b2) (aM (R _ _ er)) rfl (S9.alike (S1.keep R)) ?_;exact q H9 (s1.trans R)
def HR(h:ZA K H a xs)(b:∀p∈l,H p=none)(s:Z1 l H H'):ZA K H' a xs:=by
 have n:∀ {u},H a=some u->a∉l:=λe z=>by grind
 rcases h with(h|⟨o,h⟩)|h
 .exact .inl (.inl (s _ _ (n h) h))
 .exact .inl (.inr ⟨o,s _ _ (n h) h⟩)
 .exact .inr h
def KQ{u:V}(a:(ps.map V.ref)[j]?=some u)(b:(ps.map V.ref)[j]?=some v):X4 H 0 u v:=by
 rw[a]at b;cases b;rw[Ag]at a;obtain⟨p,_,rfl⟩:=Cc.mp a;exact X4.same (.inr ⟨p,rfl⟩)
def VZ{z:Addr}(d:p≠x)(c:p≠y)(b:p≠z)(a:p≠u):p∉[x,y,z,u]:=λe=>by grind
def e4{z:Addr}(s:Z1 [x,y,z] H H'):Z1 [x,y,z,u] H H':=λp o n e=>s p o (λh=>n (by grind)) e
def d4{z:Addr}(s:Z1 [u] H H'):Z1 [x,y,z,u] H H':=λp o n e=>s p o (λh=>n (by grind)) e
def Zm.U4{e a c F n:Addr}{j:List (Str×V)}{o p:List V}{m:Nat}{ds:List Dd}{f:Nat->Option Int}(t:Zm C H x b s0 st hg dd dx m bk cws mss f0 ds dps hs f)(s:Z1 [e,a,Pt,c] H H')(l:dE Pt H)(E:tS H [e,a,Pt,c])(k:H e=some (.ins F n j))(B:H a=some (.lst o))(D:H c=some (.lst p))(A:x≠e)(y:hg≠a)(w:hg≠c)(v:b≠a)(u:b≠c)(r:dd≠a)(q:dd≠c):Zm C H' x b s0 st hg dd dx m bk cws mss f0 ds dps hs f:=by
 obtain⟨G,I,g,i⟩:=t.out;have d:=t.ins
 have h:=t.log
 exact t.ZN s (VZ A (λz=>by rw[z,B]at d;cases d) (dU l d λ_=>nofun) (λz=>by rw[z,D]at d;cases d)) (VZ (λz=>by grind) y (dU l g λ_=>nofun) w) (VZ (λz=>by grind) v (dU l i λ_=>nofun) u) (VZ (λz=>by grind) r (dU l h λ_=>nofun) q) E
def B1{z:Addr}(a:tS H [x,y,z])(h:H u=some (.lst (ps.map V.ref))):tS H [x,y,z,u]:=λp b=>by
 simp at b;rcases b with e|e|e|e
 .exact a p (by rw[e];simp)
 .exact a p (by rw[e];simp)
 .exact a p (by rw[e];simp)
 .exact mQ h p (by rw[e];simp)
def VP(C:Addr)(H:Hp)(X e D:Nat->Addr)(m:Nat)(l:List (Str×Str))(cws:List (List Nat))(c:List (List (List Nat)))(F:Nat->Option Int)(n w:Nat):Prop:=∃b h g d j k a i f,Zm C H (X w) b h g d (e w) j m l cws c F k a i f/\H (D w)=some (.lst (a.map V.ref))/\a.length<=n/\∀u,u<2->d≠D u/\b≠D u/\(u≠w->d≠e u/\b≠e u)
def VP.keep{X d D:Nat->Addr}{m:Nat}{F:Nat->Option Int}{n c w:Nat}(h:VP C H X d D m bk cws mss F n w)(s:Z_ H H')(k:n<=c):VP C H' X d D m bk cws mss F c w:=by
 obtain⟨b,i,g,o,p,q,a,j,f,t,e,l,r⟩:=h;exact⟨b,i,g,o,p,q,a,j,f,t.keep s,s _ _ e,Bh l k,r⟩
def two{P:Nat->Prop}{w o:Nat}(c:w<2)(e:o<2)(n:o≠w)(a:P w)(b:P o):∀u,u<2->P u:=λu d=>by grind
noncomputable def cE(a b:α)(w:Nat):α:=if w=0 then a else b
def at2{w:Nat}(h:w<2):YY [V.ref a,V.ref b] (w:Int)=some (.ref (cE a b w)):=by
 match w,h with
 |0,_=>rfl
 |1,_=>rfl
def nq(a:H p=none)(b:H q=some o):p≠q:=λz=>by grind
def Zm.Wy{m:Nat}{ds:List Dd}{f:Nat->Option Int}(t:Zm C H x b s0 st hg dd dx m bk cws mss f0 ds dps hs f)(e:H D=some (.dK kvs))(K:s0≠D)(J:st≠D)(s:Z1 [D] H H'):Zm C H' x b s0 st hg dd dx m bk cws mss f0 ds dps hs f:=by
 have g:∀ {p:Addr} {o:HO},H p=some o->(∀k,o≠.dK k)->p∉[D]:=λh n z=>by grind
 have q:∀ {p:Addr},p≠D->p∉[D]:=λn z=>n (Ah.mp z)
 obtain⟨M,O,N⟩:=t.UE;obtain⟨⟨E,l,i⟩,I,⟨L,B,A⟩,G⟩:=t.tw;obtain⟨⟨F,y,R,w⟩,U,T,S⟩:=t.Yy;exact⟨s _ _ (g t.ins λ_=>nofun) t.ins,⟨⟨E,s _ _ (g l λ_=>nofun) l,i.len,λj v h P Q=>(i.val j v h P Q).keep λp V a _=>s _ _ (g a λ_=>nofun) a⟩,I,⟨L,s _ _ (q J) B,A⟩,G⟩,t.len,t.six,⟨⟨F,s _ _ (g y λ_=>nofun) y,R,λj p c a u=>s _ _ (g (w j p c a u) λ_=>nofun) (w j p c a u)⟩,U,T,S⟩,⟨M,s _ _ (q K) O,N⟩,t.Uh,s _ _ (g t.log λ_=>nofun) t.log,t.VS,λj p d a r=>s _ _ (g (t.dat j p d a r) λ_=>nofun) (t.dat j p d a r),t.Uv,t.ch,t.RX,t.VY⟩
def tK{P:α->Prop}{a b:α}(d:P a)(c:P b)(w:Nat):P (cE a b w):=by
 unfold cE;split
 .exact d
 .exact c
def z6:Z9 ["_law_script", "_law_book_here", "_law_totals", "_law_many", "_law_handed", "_law_towers", "_law_done_here", "_law_k", "_law_cell", "_law_number", "_law_who", "_law_state_here", "_law_deed_here"] ["_law_script"] (aK uY):=by fail "sc"
def EY(F:ZT K "law" "law" uY f fd)(yB7:ZR P w K mg base 2 "_law_book" ["_law_cells"] zR)(yB8:ZR P w K mg base 2 "_law_flags" ["_law_cell", "_law_book_here"] uL)(j9:ZR P w K mg base 1 "_law_cell_at" ["_law_script", "_law_k"] (pS K))(u5:T8 ZS P w K mg base 2 Z0 ["self", "book", "locker", "many"] (gA Z0))(wE:ZR P w K mg base 1 "_law_mixed" ["_law_cell", "_law_k"] kE)(z7:ZR P w K mg base 8 "_law_state" ["_law_tower"] (pG Z0))(yB9:ZR P w K mg base 2 "_law_deed" ["_law_number", "_law_many", "_law_book_here"] yX)(yBA:ZR P w K mg base 17 "_law_done" ["_law_tower", "_law_deed_here"] (zC Z0 Pt))(yBB:ZR P w K mg base 9 "_law_emptied" ["_law_tower"] (qO Z0))(x8:qY ZS P w K mg base 1 Z0 "log" ["self"] (gY Z0))(yBC:qY ZS P w K mg base 17 Z0 "again" ["self"] (mY Z0 Pt)):Z8 P w K mg base ZS 19 f fd ["_law_script"] (UI K Pt):=by
 refine F.ok z6 (λvs H Q E h=>?_) (λcdv A outer s H vs Q E hr h=>?_)
 .obtain⟨a,ns,rfl,_⟩:=h;rfl
 obtain⟨a,ns,rfl,hS,h63,hP,q⟩:=h;refine⟨_,(@aD _ _ _ _ _ (aP 1 z6.nd (aU yB7 hr (by decide) rfl (aA (iJ Yq (mv 0) (fI aJ) (fI aJ)) aB))) (@aD _ _ _ _ _ (aP 2 z6.nd (aU yB8 hr (by decide) rfl (aA (aU j9 hr (by decide) rfl (aA (mv 0) (aA aJ aB))) (aA (mv 1) aB)))) (@aD _ _ _ _ _ (aP 3 z6.nd (aR bQ aJ (aR dC (aU j9 hr (by decide) rfl (aA (mv 0) (aA aJ aB))) aJ))) (@aD _ _ _ _ _ (aP 4 z6.nd (bO (aA (bS iC rfl G.b_list dW (aA (mv 1) aB)) (aA (bS J_ rfl G.b_dict FF (aA (mv 2) aB)) aB)))) (@aD _ _ _ _ _ (aP 5 z6.nd (bO (aA (TJ u5 hr (by decide) rfl G.c_Tower (aA (bD bN (mv 4) aJ (λ_ _=>rfl)) (aA (bD bN (mv 4) aJ (λ_ _=>rfl)) (aA (mv 3) aB)))) (aA (TJ u5 hr (by decide) rfl G.c_Tower (aA (bD bN (mv 4) aJ (λ_ _=>rfl)) (aA (bD bN (mv 4) aJ (λ_ _=>rfl)) (aA (mv 3) aB)))) aB)))) (@aD _ _ _ _ _ (cD (bA (Us hr.units) (mv 4) (bO (aA (mv 1) (aA (mv 2) aB))) (bB _)) (@aI _ _ _ (aT lK)) bF) (@aD _ _ _ _ _ (bW (PX Bg Ht Hv RS (bD bN (mv 4) aJ (λ_ _=>rfl)))) (@aD _ _ _ _ _ (bW (AU Hq PySem.F.type_dict_clear Ro (bD bN (mv 4) aJ (λ_ _=>rfl)))) (@aD _ _ _ _ _ (aP 6 z6.nd (bO (aA (bO aB) (aA (bO aB) aB)))) (@aD _ _ _ _ _ (cP Bl rfl (nL rfl G.b_enumerate (aA (iJ Yq (mv 0) (fI aJ) (fI aJ)) aB)) (eP (K:=K) (i:=7) (j:=8) (by rfl) (by rfl) z6.nd (by rfl) (by exact(Or.inl rfl)) (by exact Or.inl rfl) (by rfl) (by exact(Or.inl rfl)) (by exact Or.inl rfl)) (@aD _ _ _ _ _ (aP 9 z6.nd (aU wE hr (by decide) rfl (aA (mv 8) (aA (mv 7) aB)))) (@aD _ _ _ _ _ (aP 10 z6.nd (aR dC (mv 9) aJ)) (@aD _ _ _ _ _ (aP 11 z6.nd (aU z7 hr (by decide) rfl (aA (bD bN (mv 5) (aR lL aJ (mv 10)) (λ_ _=>rfl)) aB))) (@aD _ _ _ _ _ (aP 12 z6.nd (aU yB9 hr (by decide) rfl (aA (aR fM (mv 9) aJ) (aA (mv 3) (aA (mv 1) aB))))) (@aD _ _ _ _ _ (cD (gH (aU yBA hr (by decide) rfl (aA (bD bN (mv 5) (mv 10) (λ_ _=>rfl)) (aA (mv 12) aB)))) (@aI _ _ _ (bW (cM Bg Ec Ed yS (bD bN (mv 6) (mv 10) (λ_ _=>rfl)) (aA (mv 12) aB)))) bF) (@aI _ _ _ (cD (PW.pt (sQ (bA (Us hr.units) (aU z7 hr (by decide) rfl (aA (bD bN (mv 5) (aR lL aJ (mv 10)) (λ_ _=>rfl)) aB)) (mv 11) (bB _)) (lZ (sM (gH (aU yBB hr (by decide) rfl (aA (bD bN (mv 5) (mv 10) (λ_ _=>rfl)) aB))))))) (@aI _ _ _ (aT lK)) bF)))))))) (@aD _ _ _ _ _ (cP Bl rfl (jV rfl G.b_range (aA aJ aB)) (bC (i:=10) z6.nd rfl (Or.inl rfl)) (@aI _ _ _ (cD (PW.pt (sQ (bA (Us hr.units) (kG x8 G.Z6 hr (by decide) (bD bN (mv 5) (mv 10) (λ_ _=>rfl))) (bD bN (mv 6) (mv 10) (λ_ _=>rfl)) (bB _)) (lZ (bA (Us hr.units) (aU z7 hr (by decide) rfl (aA (kG yBC G.Z6 hr (by decide) (bD bN (mv 5) (mv 10) (λ_ _=>rfl))) aB)) (aU z7 hr (by decide) rfl (aA (bD bN (mv 5) (mv 10) (λ_ _=>rfl)) aB)) (bB _))))) (@aI _ _ _ (aT lK)) bF))) (@aI _ _ _ (aT lK))))))))))))),?_⟩
 fail "u"
 with_reducible refine gG ?_
 fail "u";refine QT hS λrc hrc=>?_;obtain⟨ms,em,hml⟩:=zB ns 2 7 (by decide) (by decide)
 rw[show (2:Int)+7=9 from rfl]at em;rw[em];have k1:=aG hrc (.lst (ms.map V.int))
 have e1:Z4 (upd H rc (.lst (ms.map V.int))) rc=some (ms.map V.int):=cG
 generalize upd H rc (.lst (ms.map V.int))=H1 at k1 e1 ⊢;fail "u";refine⟨rc,ms,rfl,e1,hml,λrb bk cws H2 hrb s2 hbk hcw Yj hb1 hb8 hgb=>?_⟩;have s02:=k1.trans s2
 fail "u"
 with_reducible refine gG ?_
 fail "u";refine⟨a,ns,1,rfl,s02.seq hS,by (exact Int.natCast_nonneg _),λn1=>?_⟩
 fail "u";refine⟨n1,rb,bk,cws,rfl,hbk,hcw,hb8,λrl kvs f H3 hrl s3 el lk hf=>?_⟩;have s03:=s02.trans s3
 fail "u"
 with_reducible refine gG ?_
 fail "u";refine⟨a,ns,0,rfl,s03.seq hS,by (exact Int.natCast_nonneg _),λn0=>?_⟩
 have y0:=Cz n0 (show (6:Int)≠0 by decide)
 have y1:=Dh n0 (show (0:Int)<6 by decide)
 obtain⟨m,em,m1,m6⟩:∃m:Nat,1+n0%6=(m:Int)/\1<=m/\m<=6:=⟨(1+n0%6).toNat,by ((try clear h63 hb1 hb8 hml y1);omega),by ((try clear h63 hb1 hb8 hml y1);omega),by ((try clear h63 hb1 hb8 hml y1);omega)⟩
 fail "u";rw[em];obtain⟨mss,hms⟩:=JO hgb;have nd:=K1 hgb.means hms
 have hbk3:=hbk.keep s3
 have hS3:=s03.seq hS
 have hP3:=s03 _ _ hP
 clear k1 e1 s2 s02 s3 s03 hbk hS hP hrc y0 y1 hrb hrl;obtain⟨qs,b1,b2,b3⟩:=id hbk3;have rb3:=aM b1
 fail "u"
 with_reducible refine gG ?_
 fail "u";intro hb hhb;have k4:=aG hhb (.lst (qs.map V.ref))
 have e4:(upd H3 hb (.lst (qs.map V.ref))) hb=some (.lst (qs.map V.ref)):=aE
 have el4:=k4 _ _ el
 generalize upd H3 hb (.lst (qs.map V.ref))=H4 at k4 e4 el4 ⊢;fail "u";refine A1 (.inl el4) λhl hhl=>?_;have k45:=aG hhl (.dK kvs)
 have k5:=k4.trans k45
 have e5:(upd H4 hl (.dK kvs)) hl=some (.dK kvs):=aE
 have eb5:=k45 _ _ e4
 generalize upd H4 hl (.dK kvs)=H5 at k45 k5 e5 eb5 ⊢;fail "u";refine⟨za0,λhd hhd=>?_⟩
 have c11:hd≠hb:=nq hhd eb5
 have c12:hb≠rb:=nq hhb b1
 have k56:=aG hhd (.lst [.ref hb,.ref hl])
 have k6:=k5.trans k56
 have e6:(upd H5 hd (.lst [.ref hb,.ref hl])) hd=some (.lst [.ref hb,.ref hl]):=aE
 have eb6:=k56 _ _ eb5
 have el6:=k56 _ _ e5
 generalize upd H5 hd (.lst [.ref hb,.ref hl])=H6 at k56 k6 e6 eb6 el6 ⊢;have rd6:=aM e6
 clear k4 e4 k45 k5 e5 eb5 k56 el4;fail "u"
 with_reducible refine gG ?_
 fail "u";refine bX rd6 (v:=.ref hb) (aW (j:=0) rfl) ?_;fail "u";refine bX rd6 (v:=.ref hl) (aW (j:=1) rfl) ?_;fail "u";intro x0 dx0 hx0 hdx0 hne0;have kk0:=(aG hdx0 (.own x0)).trans (aG (show (upd H6 dx0 (.own x0)) x0=none by rw[aH (Ne.symm hne0)];exact hx0) (.ins Z0 dx0 []))
 refine⟨x0,hb,hl,dx0,qs.map V.ref,kvs,f,m,rfl,aE,aM (kk0 _ _ eb6),.inl (kk0 _ _ el6),lk,m6,λb0 s00 st0 hg0 dd0 H7 hb0 hhg0 hdd0 hst0 hs00 nhd0 nbd0 sE0 x07 e07 d07 d17 h07 f07=>⟨rfl,?_⟩⟩;have s67:Z_ H6 H7:=λp o e=>sE0 p o (λz=>by rw[Ah.mp z,hx0]at e;cases e) (kk0 _ _ e)
 have T0:Zm Z0 H7 x0 b0 s00 st0 hg0 dd0 dx0 m bk cws mss (aZ (aQ f)) [] [] (List.replicate m none) (aZ (aQ f)):=Zm.begun x07 m6 ⟨⟨qs,e07,b2,λj p c hp hc=>s67 _ _ (k6 _ _ (b3 j p c hp hc))⟩,hcw,by (exact Nat.le_trans (by assumption) (by decide)),hms⟩ d07 d17 h07 f07 nhd0 nbd0
 have z0:=none_of kk0 hb0
 have z1:=none_of kk0 hhg0
 have z2:=none_of kk0 hdd0
 have z3:=none_of kk0 hst0
 have z4:=none_of kk0 hs00
 have rd7:=aM (s67 _ _ e6)
 have eb7:=s67 _ _ eb6
 have el7:=s67 _ _ el6
 have e67:=s67 _ _ e6
 clear kk0 hb0 hhg0 hdd0 hst0 hs00 sE0 x07 e07 d07 d17 h07 f07 hne0 hdx0;fail "u";refine bX rd7 (v:=.ref hb) (aW (j:=0) rfl) ?_;fail "u";refine bX rd7 (v:=.ref hl) (aW (j:=1) rfl) ?_;fail "u";intro x1 dx1 hx1 hdx1 hne1;have kk1:=(aG hdx1 (.own x1)).trans (aG (show (upd H7 dx1 (.own x1)) x1=none by rw[aH (Ne.symm hne1)];exact hx1) (.ins Z0 dx1 []))
 refine⟨x1,hb,hl,dx1,qs.map V.ref,kvs,f,m,rfl,aE,aM (kk1 _ _ eb7),.inl (kk1 _ _ el7),lk,m6,λb1' s01 st1 hg1 dd1 H8 hb1' hhg1 hdd1 hst1 hs01 nhd1 nbd1 sE1 x18 e18 d08 d18 h18 f18=>⟨rfl,?_⟩⟩;have s78:Z_ H7 H8:=λp o e=>sE1 p o (λz=>by rw[Ah.mp z,hx1]at e;cases e) (kk1 _ _ e)
 have T1:Zm Z0 H8 x1 b1' s01 st1 hg1 dd1 dx1 m bk cws mss (aZ (aQ f)) [] [] (List.replicate m none) (aZ (aQ f)):=Zm.begun x18 m6 ⟨⟨qs,e18,b2,λj p c hp hc=>s78 _ _ (s67 _ _ (k6 _ _ (b3 j p c hp hc)))⟩,hcw,by (exact Nat.le_trans (by assumption) (by decide)),hms⟩ d08 d18 h18 f18 nhd1 nbd1
 have y0:=none_of kk1 hb1'
 have y1:=none_of kk1 hhg1
 have y2:=none_of kk1 hdd1
 have y3:=none_of kk1 hst1
 have y4:=none_of kk1 hs01
 have k8:=k6.trans (s67.trans s78)
 have e68:=s78 _ _ e67
 have eb8:=s78 _ _ eb7
 have el8:=s78 _ _ el7
 have T08:=T0.keep s78
 obtain⟨u0,q0,u01,q01⟩:=T0.out;have a1:x1≠x0:=nq hx1 T0.ins
 have a2:dd1≠dd0:=nq y2 T0.log
 have a3:hg1≠dd0:=nq y1 T0.log
 have a4:b1'≠dd0:=nq y0 T0.log
 have a5:hg0≠dd1:=(nq y2 u01).symm
 have a6:b0≠dd1:=(nq y2 q01).symm
 have nrb0:rb≠dd0:=(nq z2 (k6 _ _ b1)).symm
 have nrb1:rb≠dd1:=(nq y2 (s67 _ _ (k6 _ _ b1))).symm
 have c1:hg0≠hb:=nq z1 eb6
 have c2:b0≠hb:=nq z0 eb6
 have c3:dd0≠hb:=nq z2 eb6
 have c4:st0≠hl:=nq z3 el6
 have c5:s00≠hl:=nq z4 el6
 have c6:hg1≠hb:=nq y1 eb7
 have c7:b1'≠hb:=nq y0 eb7
 have c8:dd1≠hb:=nq y2 eb7
 have c9:st1≠hl:=nq y3 el7
 have c10:s01≠hl:=nq y4 el7
 clear kk1 hb1' hhg1 hdd1 hst1 hs01 sE1 x18 e18 d08 d18 h18 f18 hne1 hdx1 y0 y1 y2 y3 y4 z0 z1 z2 z3 z4 rd7 rd6 e67 eb7 el7 e6 eb6 el6 s67 s78 hx0 hx1 T0 k6 u01 q01;fail "u";refine⟨za0,λtl htl=>?_⟩
 have k9:=aG htl (.lst [.ref x0,.ref x1])
 have et9:(upd H8 tl (.lst [.ref x0,.ref x1])) tl=some (.lst [.ref x0,.ref x1]):=aE
 have nt1:tl≠dd0:=nq htl T08.log
 have nt2:tl≠dd1:=nq htl T1.log
 have nt3:tl≠hb:=nq htl eb8
 have e69:=k9 _ _ e68
 have eb9:=k9 _ _ eb8
 have el9:=k9 _ _ el8
 have T09:=T08.keep k9
 have T19:=T1.keep k9
 have k39:=k8.trans k9
 generalize upd H8 tl (.lst [.ref x0,.ref x1])=H9 at k9 et9 e69 eb9 el9 T09 T19 k39 ⊢;have rl9:=k39 _ _ el
 have b19:=k39 _ _ b1
 clear k8 e68 eb8 el8 T08 T1 k9;fail "u"
 with_reducible refine gG ?_
 fail "u";refine⟨za0,λp10 hp10=>?_⟩
 have k10:=aG hp10 (.lst [.ref rb,.ref rl])
 refine Vj (neg:=true) 2 (aM (k10 _ _ e69)) (aM aE) rfl (λj u v hu hv=>?_) ?_
 .match j,hu,hv with
  |0,hu,hv=>
   cases hu;cases hv;exact qG (aM (k10 _ _ eb9)) (aM (k10 _ _ b19)) rfl λk u v hu hv=>by
    rw[hu]at hv;cases hv;obtain⟨p,_,rfl⟩:=vM hu;exact X4.same (.inr ⟨p,rfl⟩)
  |1,hu,hv=>
   cases hu;cases hv;exact .inr ⟨_,_,rfl,rfl,.inr ⟨_,_,.inl (k10 _ _ el9),.inl (k10 _ _ rl9),lk.Qg lk⟩⟩
  |j+2,hu,_=>cases hu
 have k310:=k39.trans k10
 have e610:=k10 _ _ e69
 have eb10:=k10 _ _ eb9
 have el10:=k10 _ _ el9
 have et10:=k10 _ _ et9
 have T010:=T09.keep k10
 have T110:=T19.keep k10
 generalize upd H9 p10 (.lst [.ref rb,.ref rl])=H10 at k10 k310 e610 eb10 el10 et10 T010 T110 ⊢;have rd10:=aM e610
 have mb10:=bL eb10
 have rb10:=aM eb10
 clear e69 eb9 el9 et9 T09 T19 k39 k10 hp10 b19 rl9;fail "u"
 with_reducible refine gG ?_
 fail "u";refine bX rd10 (v:=.ref hb) (aW (j:=0) rfl) ?_;fail "u";have sE11:Z1 [hb] H10 (upd H10 hb (.lst [])):=λp o n e=>by rw[aH (λz=>n (Ah.mpr z))];exact e
 have n1:∀ {p q:Addr},p≠q->p∉[q]:=λn z=>n (Ah.mp z)
 have ti:∀ {p:Addr} {C dx:Addr} {fs:List (Str×V)},H10 p=some (.ins C dx fs)->p∉[hb]:=λh=>n1 λz=>by rw[z,eb10]at h;cases h
 have T011:=T010.ZN sE11 (ti T010.ins) (n1 c1) (n1 c2) (n1 c3) (mQ eb10)
 have T111:=T110.ZN sE11 (ti T110.ins) (n1 c6) (n1 c7) (n1 c8) (mQ eb10)
 have e611:=sE11 _ _ (n1 c11) e610
 have et11:=sE11 _ _ (n1 nt3) et10
 have el11:=sE11 _ _ (n1 λz=>by rw[z,eb10]at el10;cases el10) el10
 have hbk11:=(hbk3.keep k310).ZN sE11 (n1 c12.symm) (mQ eb10)
 have hP10:=k310 _ _ hP3
 have hP11:=sE11 _ _ (n1 λz=>by rw[z,eb10]at hP10;cases hP10) hP10
 have hS11:ZA K (upd H10 hb (.lst [])) a (ns.map V.int):=HR hS3 (λp hp=>by rw[Ah.mp hp];exact hhb) (λp o n e=>sE11 p o n (k310 _ _ e))
 generalize upd H10 hb (.lst [])=H11 at sE11 T011 T111 e611 et11 el11 hbk11 hP11 hS11 ⊢;have rd11:=aM e611
 have hD11:=kC el11
 clear rd10 mb10 rb10 k310 e610 eb10 el10 et10 T010 T110 sE11 ti hbk3 hP3 hS3 hP10 b3 rb3 el b1;fail "u"
 with_reducible refine gG ?_
 fail "u";refine bX rd11 (v:=.ref hl) (aW (j:=1) rfl) ?_;fail "u";refine QP el11 ?_;have sE12:Z1 [hl] H11 (upd H11 hl (.dK [])):=λp o n e=>by rw[aH (λz=>n (Ah.mpr z))];exact e
 have ty:∀ {p:Addr} {o:HO},H11 p=some o->(∀k,o≠.dK k)->p∉[hl]:=λh n=>n1 λz=>by rw[z,el11]at h;cases h;exact n _ rfl
 have T012:=T011.Wy el11 c5 c4 sE12
 have T112:=T111.Wy el11 c10 c9 sE12
 have et12:=sE12 _ _ (ty et11 λ_=>nofun) et11
 obtain⟨qb,b1,b2',b3⟩:=id hbk11;have hbk12:ZF (upd H11 hl (.dK [])) rb bk:=⟨qb,sE12 _ _ (ty b1 λ_=>nofun) b1,b2',λj p c hp hc=>sE12 _ _ (ty (b3 j p c hp hc) λ_=>nofun) (b3 j p c hp hc)⟩
 have hP12:=sE12 _ _ (ty hP11 λ_=>nofun) hP11
 have hS12:ZA K (upd H11 hl (.dK [])) a (ns.map V.int):=by
  rcases hS11 with(h|⟨o,h⟩)|h
  .exact .inl (.inl (sE12 _ _ (ty h λ_=>nofun) h))
  .exact .inl (.inr ⟨o,sE12 _ _ (ty h λ_=>nofun) h⟩)
  .exact .inr h
 generalize upd H11 hl (.dK [])=H12 at sE12 T012 T112 et12 hbk12 hP12 hS12 ⊢;clear rd11 hD11 e611 et11 el11 T011 T111 hbk11 hP11 hS11 sE12 ty b1 b2' b3 hhb hhd hhl htl;fail "u"
 with_reducible refine gG ?_
 fail "u";refine⟨by decide,λD0 hD0=>?_⟩
 have k13:=aG hD0 (.lst [])
 have f13:(upd H12 D0 (.lst [])) D0=some (.lst (([]:List Addr).map V.ref)):=aE
 generalize upd H12 D0 (.lst [])=H13 at k13 f13 ⊢;fail "u";refine⟨by decide,λD1 hD1=>?_⟩
 have k14:=aG hD1 (.lst [])
 have f14:(upd H13 D1 (.lst [])) D1=some (.lst (([]:List Addr).map V.ref)):=aE
 have f014:=k14 _ _ f13
 have d1:D1≠D0:=nq hD1 f13
 generalize upd H13 D1 (.lst [])=H14 at k14 f14 f014 ⊢;fail "u";refine⟨za0,λdl XQ=>?_⟩
 have k15:=aG XQ (.lst [.ref D0,.ref D1])
 have ed15:(upd H14 dl (.lst [.ref D0,.ref D1])) dl=some (.lst [.ref D0,.ref D1]):=aE
 have f115:=k15 _ _ f14
 have f015:=k15 _ _ f014
 generalize upd H14 dl (.lst [.ref D0,.ref D1])=H15 at k15 ed15 f115 f015 ⊢;have k315:=k13.trans (k14.trans k15)
 have T015:=T012.keep k315
 have T115:=T112.keep k315
 have et15:=k315 _ _ et12
 have hbk15:=hbk12.keep k315
 have l15:dE Pt H15:=.inl (k315 _ _ hP12)
 have hS15:=k315.seq hS12
 have hX:∀u w,u<2->w<2->u≠w->cE x0 x1 u≠cE x0 x1 w/\cE dd0 dd1 u≠cE dd0 dd1 w/\cE D0 D1 u≠cE D0 D1 w:=λu w hu hw n=>by
  match u,w,hu,hw with
  |0,0,_,_=>exact absurd rfl n
  |0,1,_,_=>exact⟨a1.symm,a2.symm,d1.symm⟩
  |1,0,_,_=>exact⟨a1,a2,d1⟩
  |1,1,_,_=>exact absurd rfl n
 obtain⟨uu0,qq0,u00,q00⟩:=T012.out;obtain⟨uu1,qq1,u11,q11⟩:=T112.out;obtain⟨qb,qb1,_⟩:=id hbk12;have nD:∀(w:Nat) {p:Addr} {o:HO},H12 p=some o->cE D0 D1 w≠p:=λw {p o} h=>tK (P:=λq=>q≠p) (nq hD0 h) (nq hD1 (k13 _ _ h)) w
 have hDD:∀u w,cE D0 D1 u≠cE dd0 dd1 w:=λu w=>tK (P:=λq=>cE D0 D1 u≠q) (nD u T012.log) (nD u T112.log) w
 have hT0:∀w,w<2->VP Z0 H15 (cE x0 x1) (cE dd0 dd1) (cE D0 D1) m bk cws mss (aZ (aQ f)) 0 w:=λw hw=>by
  match w,hw with
  | 0,_=>exact ⟨b0,s00,st0,hg0,dx0,[],[],_,_,T015,f015,Ai _,λu hu=>⟨(nD u u00).symm,(nD u q00).symm,λn=>by
      match u,hu,n with
      |0,_,n=>exact absurd rfl n
      |1,_,_=>exact⟨a5,a6⟩⟩⟩
  | 1,_=>exact ⟨b1',s01,st1,hg1,dx1,[],[],_,_,T115,f115,Ai _,λu hu=>⟨(nD u u11).symm,(nD u q11).symm,λn=>by
      match u,hu,n with
      |1,_,n=>exact absurd rfl n
      |0,_,_=>exact⟨a3,a4⟩⟩⟩
 have nrbD:∀w,rb≠cE dd0 dd1 w:=tK nrb0 nrb1
 have old:∀(p:Addr),(∃o,H12 p=some o)->∀w,p≠cE D0 D1 w:=λp ⟨o,h⟩ w=>(nD w h).symm
 have ntl:∀w,tl≠cE dd0 dd1 w/\tl≠cE D0 D1 w:=λw=>⟨tK (P:=λq=>tl≠q) nt1 nt2 w,old tl ⟨_,et12⟩ w⟩
 have nrb:∀w,rb≠cE dd0 dd1 w/\rb≠cE D0 D1 w:=λw=>⟨nrbD w,old rb ⟨_,qb1⟩ w⟩
 have k314:=k13.trans k14
 have ndl:∀w,dl≠cE dd0 dd1 w/\dl≠cE D0 D1 w:=λw=>⟨tK (P:=λq=>dl≠q) (nq XQ (k314 _ _ T012.log)) (nq XQ (k314 _ _ T112.log)) w,tK (P:=λq=>dl≠q) (nq XQ f014) (nq XQ f14) w⟩
 fail "u"
 with_reducible refine gG ?_
 fail "u";refine QT hS15 λrc hrc=>?_;obtain⟨ns2,em2,hml2⟩:=zB ns 9 40 (by decide) (by decide)
 rw[show (9:Int)+40=49 from rfl]at em2;rw[em2];have nrc:∀w,rc≠cE dd0 dd1 w/\rc≠cE D0 D1 w:=λw=>⟨tK (P:=λq=>rc≠q) (nq hrc T015.log) (nq hrc T115.log) w,tK (P:=λq=>rc≠q) (nq hrc f015) (nq hrc f115) w⟩
 have k16:=aG hrc (.lst (ns2.map V.int))
 have er16:(upd H15 rc (.lst (ns2.map V.int))) rc=some (.lst (ns2.map V.int)):=aE
 have hT16:=λw hw=>(hT0 w hw).keep k16 (Ai _)
 have et16:=k16 _ _ et15
 have ed16:=k16 _ _ ed15
 have hbk16:=hbk15.keep k16
 have l16:=l15.keep k16
 generalize upd H15 rc (.lst (ns2.map V.int))=H16 at k16 er16 hT16 et16 ed16 hbk16 l16 ⊢;have rr16:=aM er16
 clear k16 hT0 et15 ed15 hbk15 l15 T015 T115 T012 T112 et12 hbk12 hP12 hS12 hS15 f015 f115 f014 f13 f14 k13 k14 k15 k315 k314 hD0 hD1 XQ hrc u00 q00 u11 q11 nD old nrbD a1 a2 a3 a4 a5 a6 d1 em2;fail "u";refine uE (xs:=ns2.map V.int) (λi U H'=>∃(v7 v8 v9 v10 v11 v12:Option V),U=[some (.ref a),some (.ref rb),some (.ref rl),some (.int (m:Int)),some (.ref hd),some (.ref tl),some (.ref dl),v7,v8,v9,v10,v11,v12]/\dE Pt H'/\H' tl=some (.lst [.ref x0,.ref x1])/\H' dl=some (.lst [.ref D0,.ref D1])/\ZF H' rb bk/\H' rc=some (.lst (ns2.map V.int))/\∀w,w<2->VP Z0 H' (cE x0 x1) (cE dd0 dd1) (cE D0 D1) m bk cws mss (aZ (aQ f)) i w)
  ⟨_,_,_,_,_,_,rfl,l16,et16,ed16,hbk16,er16,hT16⟩ (λi U H' _ ⟨_,_,_,_,_,_,_,_,_,_,_,e,_⟩=>aM e) ?_ ?_
 .clear l16 et16 ed16 hbk16 er16 hT16 rr16;rintro i v U H1 pt hv ⟨v7,v8,v9,v10,v11,v12,rfl,l1,et1,ed1,hbk1,er1,hT1⟩ hpt;rw[Ag]at hv;obtain⟨cell,hcell,rfl⟩:=Cc.mp hv;have hi:i<40:=by have:=(Ad.mp hcell).1;((try clear b2 c1 c10 c11 c12 c2 c3 c4 c5 c6 c7 c8 c9 em h63 hb1 hb8 hml m1 m6 nbd0 nbd1 nhd0 nhd1 nrb0 nrb1 nt1 nt2 nt3);omega)
  have k2:=aG hpt (.tup [.int ((0+i:Nat):Int),.int cell])
  have t2:=cW (show (upd H1 pt (.tup [.int ((0+i:Nat):Int),.int cell])) pt=_ from aE)
  generalize upd H1 pt (.tup [.int ((0+i:Nat):Int),.int cell])=H2 at k2 t2 ⊢;clear hpt hv hcell;fail "u"
  with_reducible refine gG ?_
  fail "u";refine⟨cell,_,rfl,by (exact Int.natCast_nonneg _),by ((try clear b2 c1 c10 c11 c12 c2 c3 c4 c5 c6 c7 c8 c9 em h63 hb1 hb8 hml hml2 m1 m6 nbd0 nbd1 nhd0 nhd1 nrb0 nrb1 nt1 nt2 nt3);omega),λN hN=>?_⟩
  obtain⟨w,ew,hw⟩:=nQ N (n:=2) (by decide)
  rw[show ((2:Nat):Int)=2 from rfl]at ew;obtain⟨o,eo,ho,how⟩:∃o:Nat,(1:Int)-(w:Int)=(o:Int)/\o<2/\o≠w:=⟨1-w,by ((try clear b2 c1 c10 c11 c12 c2 c3 c4 c5 c6 c7 c8 c9 em h63 hN hb1 hb8 hi hml hml2 hw m1 m6 nbd0 nbd1 nhd0 nhd1 nrb0 nrb1 nt1 nt2 nt3);omega),by ((try clear b2 c1 c10 c11 c12 c2 c3 c4 c5 c6 c7 c8 c9 em h63 hN hb1 hb8 hi hml hml2 hw m1 m6 nbd0 nbd1 nhd0 nhd1 nrb0 nrb1 nt1 nt2 nt3);omega),by ((try clear b2 c1 c10 c11 c12 c2 c3 c4 c5 c6 c7 c8 c9 em h63 hN hb1 hb8 hi hml hml2 hw m1 m6 nbd0 nbd1 nhd0 nhd1 nrb0 nrb1 nt1 nt2 nt3);omega)⟩
  fail "u"
  with_reducible refine gG ?_
  fail "u";rw[ew];obtain⟨bo,so,sto,hgo,dxo,dso,dpo,hso,fo,to,eDo,hlo,apo⟩:=(hT1 o ho).keep k2 (Ai _);have et2:=k2 _ _ et1
  have rt2:=aM et2
  fail "u"
  with_reducible refine gG ?_
  fail "u";rw[eo];refine bX rt2 (at2 ho) ?_;fail "u";refine⟨_,bo,so,sto,hgo,_,dxo,m,bk,cws,mss,_,dso,dpo,hso,fo,rfl,to,by ((try clear b2 c1 c10 c11 c12 c2 c3 c4 c5 c6 c7 c8 c9 em eo ew h63 hN hb1 hb8 hml hml2 ho how hw m1 m6 nbd0 nbd1 nhd0 nhd1 nrb0 nrb1 nt1 nt2 nt3);omega),λr r1 r2 r3 r4 us H3 s3 er3 S3 hfr3 _ _=>?_⟩
  have k3:=k2.trans s3
  have okO:=to.tw.ok
  fail "u"
  with_reducible refine gG ?_
  fail "u";refine⟨N / 2,m,rb,bk,cws,mss,rfl,Int.ediv_nonneg hN (by decide),m1,hbk1.keep k3,hcw,hms,hb1,hb8,λdp d H4 s4 hdp edp Z3=>?_⟩
  have s24:=s3.trans s4
  have k4:=k2.trans s24
  obtain⟨bw,sw,stw,hgw,dxw,dsw,dpw,hsw,fw,tw,eDw,hlw,apw⟩:=(hT1 w hw).keep k4 (Ai _);have to4:=to.keep s24
  have eDo4:=s24 _ _ eDo
  have S4:=S3.keep s4
  have er4:=s4 _ _ er3
  have l4:=l1.keep k4
  have et4:=k4 _ _ et1
  have ed4:=k4 _ _ ed1
  have hbk4:=hbk1.keep k4
  have er14:=k4 _ _ er1
  obtain⟨qb4,qb41,_⟩:=id hbk4;have hf4:∀ {p:Addr},p∈[r,r1,r3,r4]->p≠cE x0 x1 w/\p≠cE dd0 dd1 w/\p≠Pt/\p≠cE D0 D1 w:=fun {p} hp=>by
   obtain⟨_,_,_,_,_,_,_,_,_,WY,eDw2,_⟩:=(hT1 w hw).keep k2 (Ai _);have hn:H2 p=none:=hfr3 p (by
    simp only[List.mem_cons,List.not_mem_nil,or_false]at hp ⊢;rcases hp with z|z|z|z
    .exact .inl z
    .exact .inr (.inl z)
    .exact .inr (.inr (.inr (.inl z)))
    .exact .inr (.inr (.inr (.inr z))))
   obtain⟨tb,etb⟩:=(l1.keep k2).tb;exact⟨nq hn WY.ins,nq hn WY.log,nq hn etb,nq hn eDw2⟩
  have dul:=B1 (tw.Vd l4) eDw
  have XQ:∀ {p:Addr} {xs:List V},H4 p=some (.lst xs)->p≠cE dd0 dd1 w->p≠cE D0 D1 w->p∉[cE x0 x1 w,cE dd0 dd1 w,Pt,cE D0 D1 w]:=λh n1 n2=>VZ (λz=>by rw[z,tw.ins]at h;cases h) n1 (dU l4 h λ_=>nofun) n2
  have nDw:cE D0 D1 w∉[cE x0 x1 w,cE dd0 dd1 w,Pt]:=VU (λz=>by rw[z,tw.ins]at eDw;cases eDw) (hDD w w) (dU l4 eDw λ_=>nofun)
  clear t2 to eDo er3 S3 rt2 et2 hfr3 hT1 s3 s24 k3 s4 l1 et1 ed1 hbk1 er1 k4 k2;fail "u"
  with_reducible refine NY (λU' H'=>U'=[some (.ref a),some (.ref rb),some (.ref rl),some (.int (m:Int)),some (.ref hd),some (.ref tl),some (.ref dl),some (.int ((0+i:Nat):Int)),some (.int cell),some (.int N),some (.int (w:Int)),some (.ref r),some (.ref dp)]/\Z1 [cE x0 x1 w,cE dd0 dd1 w,Pt,cE D0 D1 w] H4 H'/\dE Pt H'/\VP Z0 H' (cE x0 x1) (cE dd0 dd1) (cE D0 D1) m bk cws mss (aZ (aQ f)) (i+1) w) (λU2 H5 j1=>?_) (λM hM=>?_)
  case refine_2=>
   have rt4:=aM et4
   fail "u";refine bX rt4 (at2 hw) ?_;fail "u";refine⟨_,bw,sw,stw,hgw,_,dxw,m,bk,cws,mss,_,dsw,dpw,hsw,fw,dp,d,rfl,tw,edp,Z3,by ((try clear b2 c1 c10 c11 c12 c2 c3 c4 c5 c6 c7 c8 c9 em eo ew h63 hN hb1 hb8 hlo hml hml2 ho how hw m1 m6 nbd0 nbd1 nhd0 nhd1 nrb0 nrb1 nt1 nt2 nt3);omega),l4,λst' hg' hs' f' H5 sE5 l5 hh5 t5=>?_,λH5 s5 l5 t5=>?_⟩
   .have eD5:=sE5 _ _ nDw eDw
    have ed5:=sE5 _ _ (VU (λz=>by rw[z,tw.ins]at ed4;cases ed4) (ndl w).1 (dU l4 ed4 λ_=>nofun)) ed4
    have rd5:=aM ed5
    have mD:=bL eD5
    have rD:=aM eD5
    have hg5:∀u,u<2->hg'≠cE D0 D1 u/\bw≠cE D0 D1 u/\(u≠w->hg'≠cE dd0 dd1 u/\bw≠cE dd0 dd1 u):=λu hu=>by
     rcases hh5 with e|e
     .rw[e];exact apw u hu
     .refine⟨λz=>?_,(apw u hu).2.1,λn=>⟨λz=>?_,((apw u hu).2.2 n).2⟩⟩
      .rw[z]at e;exact two (P:=λu=>H4 (cE D0 D1 u)≠none) hw ho how (by rw[eDw];nofun) (by rw[eDo4];nofun) u hu e
      .rw[z]at e;exact two (P:=λu=>H4 (cE dd0 dd1 u)≠none) hw ho how (by rw[tw.log];nofun) (by rw[to4.log];nofun) u hu e
    have hdl5:(dpw.map V.ref).length<=1000:=by rw[Ab];((try clear b2 c1 c10 c11 c12 c2 c3 c4 c5 c6 c7 c8 c9 em eo ew h63 hN hb1 hb8 hh5 hlo hml hml2 ho how hw m1 m6 nbd0 nbd1 nhd0 nhd1 nrb0 nrb1 nt1 nt2 nt3);omega)
    fail "u";refine bX rd5 (at2 hw) ?_;fail "u";have nd1:∀ {p:Addr},p≠cE D0 D1 w->p∉[cE D0 D1 w]:=λn z=>n (Ah.mp z)
    have sE6:Z1 [cE D0 D1 w] H5 (upd H5 (cE D0 D1 w) (.lst (dpw.map V.ref++[.ref dp]))):=λp o n e=>by rw[aH (λz=>n (Ah.mpr z))];exact e
    have t6:=t5.ZN sE6 (nd1 λz=>nDw (by rw[<-z];simp)) (nd1 (hg5 w hw).1) (nd1 (hg5 w hw).2.1) (nd1 (hDD w w).symm) (mQ eD5)
    exact hM _ _ ⟨rfl,(e4 sE5).trans (d4 sE6),NJ l5 sE6 (nd1 λz=>dU l5 eD5 (λ_=>nofun) z.symm) (λc hc=>nd1 λz=>by rw[z,eD5]at hc;cases hc),⟨bw,sw,st',hg',dxw,_,_,hs',f',t6,by rw[aE,Ap];rfl,by rw[Af];show _+1<=_;((try clear b2 c1 c10 c11 c12 c2 c3 c4 c5 c6 c7 c8 c9 em eo ew h63 hN hb1 hb8 hdl5 hh5 hi hlo hml hml2 ho how hw m1 m6 nbd0 nbd1 nhd0 nhd1 nrb0 nrb1 nt1 nt2 nt3);omega),hg5⟩⟩
   .fail "u";exact hM _ _ ⟨rfl,e4 (C4 s5),l5,⟨bw,sw,stw,hgw,dxw,dsw,dpw,hsw,fw,t5,X0 s5 l4 eDw λ_=>nofun,by ((try clear b2 c1 c10 c11 c12 c2 c3 c4 c5 c6 c7 c8 c9 em eo ew h63 hN hb1 hb8 hi hlo hml hml2 ho how hw m1 m6 nbd0 nbd1 nhd0 nhd1 nrb0 nrb1 nt1 nt2 nt3);omega),apw⟩⟩
  obtain⟨rfl,sE5,l5,hTw5⟩:=j1;have no:=hX o w ho hw how
  have ao:=apo w hw
  have to5:=to4.U4 sE5 l4 dul tw.ins tw.log eDw no.1 (ao.2.2 (Ne.symm how)).1 ao.1 (ao.2.2 (Ne.symm how)).2 ao.2.1 no.2.1 (hDD w o).symm
  have eDo5:=sE5 _ _ (XQ eDo4 (hDD o w) no.2.2) eDo4
  have q4:∀ {p:Addr},p∈[r,r1,r3,r4]->p∉[cE x0 x1 w,cE dd0 dd1 w,Pt,cE D0 D1 w]:=λhp=>VZ (hf4 hp).1 (hf4 hp).2.1 (hf4 hp).2.2.1 (hf4 hp).2.2.2
  have S5:=S4.ZN okO sE5 dul (q4 (by simp)) (q4 (by simp)) (q4 (by simp))
  have er5:=sE5 _ _ (q4 (by simp)) er4
  have et5:=sE5 _ _ (XQ et4 (ntl w).1 (ntl w).2) et4
  have ed5:=sE5 _ _ (XQ ed4 (ndl w).1 (ndl w).2) ed4
  have hbk5:=hbk4.ZN sE5 (XQ qb41 (nrb w).1 (nrb w).2) dul
  have er15:=sE5 _ _ (XQ er14 (nrc w).1 (nrc w).2) er14
  clear to4 eDo4 S4 er4 l4 et4 ed4 hbk4 er14 tw eDw hlw apw edp sE5 dul XQ hf4 q4 nDw;have rt5:=aM et5
  fail "u";rw[eo];refine bX rt5 (at2 ho) ?_;fail "u";refine⟨_,bo,so,sto,hgo,_,dxo,m,bk,cws,mss,_,dso,dpo,hso,fo,rfl,to5,by ((try clear ao b2 c1 c10 c11 c12 c2 c3 c4 c5 c6 c7 c8 c9 em eo ew h63 hN hb1 hb8 hml hml2 ho how hw m1 m6 nbd0 nbd1 nhd0 nhd1 no nrb0 nrb1 nt1 nt2 nt3);omega),λp0 p1 p2 p3 p4 us6 H6 s6 er6 S6 _ _ _=>?_⟩
  refine Vj (neg:=true) 2 (aM er6) (aM (s6 _ _ er5)) rfl (S6.alike (S5.keep s6)) ?_;obtain⟨bw,sw,stw,hgw,dxw,dsw,dpw,hsw,fw,tw,eDw,hlw,apw⟩:=hTw5;have rt6:=aM (s6 _ _ et5)
  fail "u";refine bX rt6 (at2 hw) ?_;fail "u";refine⟨_,bw,sw,stw,hgw,_,dxw,m,bk,cws,mss,_,dsw,dpw,hsw,fw,rfl,tw.keep s6,by ((try clear ao b2 c1 c10 c11 c12 c2 c3 c4 c5 c6 c7 c8 c9 em eo ew h63 hN hb1 hb8 hlo hml hml2 ho how hw m1 m6 nbd0 nbd1 nhd0 nhd1 no nrb0 nrb1 nt1 nt2 nt3);omega),λH7 s7=>?_⟩
  have s57:=s6.trans s7
  fail "u";exact⟨_,_,_,_,_,_,rfl,l5.keep s57,s57 _ _ et5,s57 _ _ ed5,hbk5.keep s57,s57 _ _ er15,two hw ho how ⟨bw,sw,stw,hgw,dxw,dsw,dpw,hsw,fw,tw.keep s57,s57 _ _ eDw,hlw,apw⟩ ⟨bo,so,sto,hgo,dxo,dso,dpo,hso,fo,to5.keep s57,s57 _ _ eDo5,by ((try clear ao b2 c1 c10 c11 c12 c2 c3 c4 c5 c6 c7 c8 c9 em eo ew h63 hN hb1 hb8 hi hlw hml hml2 ho how hw m1 m6 nbd0 nbd1 nhd0 nhd1 no nrb0 nrb1 nt1 nt2 nt3);omega),apo⟩⟩
 .rintro U H1 ⟨v7,v8,v9,v10,v11,v12,rfl,l1,et1,ed1,hbk1,er1,hT1⟩;rw[Ab]at hT1;fail "u"
  with_reducible refine gG ?_
  fail "u";refine⟨⟨by (exact Int.natCast_nonneg _),by (exact Int.natCast_nonneg _)⟩,?_⟩
  refine qE (λi U H'=>∃(v10':Option V),U=[some (.ref a),some (.ref rb),some (.ref rl),some (.int (m:Int)),some (.ref hd),some (.ref tl),some (.ref dl),v7,v8,v9,v10',v11,v12]/\ZZ Pt H1 H'/\dE Pt H') ⟨_,rfl,ZZ.refl,l1⟩ ?_ ?_
  .rintro i U H2 hi ⟨v10',rfl,s2,l2⟩;have hi2:i<2:=hi
   obtain⟨b,s0,st,hg,dx,ds,dps,hs,f',t,eD,hl',ap⟩:=hT1 i hi2;have t2:=t.XH s2 l1
   have eD2:=X0 s2 l1 eD λ_=>nofun
   have et2:=X0 s2 l1 et1 λ_=>nofun
   have ed2:=X0 s2 l1 ed1 λ_=>nofun
   have rt2:=aM et2
   have h00:(0:Int)+(i:Int)=((i:Nat):Int):=by ((try clear b2 c1 c10 c11 c12 c2 c3 c4 c5 c6 c7 c8 c9 em h63 hb1 hb8 hi hi2 hl' hml hml2 m1 m6 nbd0 nbd1 nhd0 nhd1 nrb0 nrb1 nt1 nt2 nt3);omega)
   fail "u";rw[h00];refine bX rt2 (at2 hi2) ?_;fail "u";refine⟨_,dx,_,rfl,t2.ins,rQ,?_⟩;fail "u";refine⟨_,b,s0,st,hg,_,dx,m,_,rfl,t2.ins,t2.log,λrg H3 hrg s3 e3=>?_⟩;have ed3:=s3 _ _ ed2
   have rd3:=aM ed3
   fail "u";refine bX rd3 (at2 hi2) ?_;fail "u";refine Vj (neg:=true) 0 (aM e3) (aM (s3 _ _ eD2)) rfl (λj u v hu hv=>KQ hu hv) ?_;have rt3:=aM (s3 _ _ et2)
   have t3:=t2.keep s3
   have l3:=l2.keep s3
   fail "u";refine bX rt3 (at2 hi2) ?_;fail "u";refine⟨_,dx,_,rfl,t3.ins,KI,?_⟩;fail "u";refine⟨_,b,s0,st,hg,_,dx,m,bk,cws,mss,_,ds,dps,hs,f',rfl,t3,nd,by ((try clear b2 c1 c10 c11 c12 c2 c3 c4 c5 c6 c7 c8 c9 em h00 h63 hb1 hb8 hi hi2 hml m1 m6 nbd0 nbd1 nhd0 nhd1 nrb0 nrb1 nt1 nt2 nt3);omega),l3,λy b' s0' st' hg' dd' dy H4 s4 l4 _ _ _ _ ty=>?_⟩
   fail "u";refine⟨y,b',s0',st',hg',dd',dy,m,bk,cws,mss,_,ds,dps,hs,f',rfl,ty,by ((try clear b2 c1 c10 c11 c12 c2 c3 c4 c5 c6 c7 c8 c9 em h00 h63 hb1 hb8 hi hi2 hml m1 m6 nbd0 nbd1 nhd0 nhd1 nrb0 nrb1 nt1 nt2 nt3);omega),λr r1 r2 r3 r4 us H5 s5 er5 S5 _ _ _=>?_⟩
   have rt5:=aM (s5 _ _ (X0 s4 l3 (s3 _ _ et2) λ_=>nofun))
   fail "u";refine bX rt5 (at2 hi2) ?_;fail "u";refine⟨_,b,s0,st,hg,_,dx,m,bk,cws,mss,_,ds,dps,hs,f',rfl,(t3.XH s4 l3).keep s5,by ((try clear b2 c1 c10 c11 c12 c2 c3 c4 c5 c6 c7 c8 c9 em h00 h63 hb1 hb8 hi hi2 hml m1 m6 nbd0 nbd1 nhd0 nhd1 nrb0 nrb1 nt1 nt2 nt3);omega),λp0 p1 p2 p3 p4 us6 H6 s6 er6 S6 _ _ _=>?_⟩
   refine Vj (neg:=true) 2 (aM (s6 _ _ er5)) (aM er6) rfl ((S5.keep s6).alike S6) ?_;fail "u";exact⟨_,rfl,s2.trans ((Z_.p s3).trans (s4.trans (Z_.p (s5.trans s6)))),l4.keep (s5.trans s6)⟩
  .rintro U H2 ⟨v10',rfl,s2,l2⟩;fail "u";exact q H2
end
variable {A:List (Nat×Wt)}{ch:Wt->List Nat}{first w:Wt}{m:List (Wt×Nat)}{ws:List Wt}
def Ve(K:W.Frag)(x q:Str)(st:Stmt)(f:Addr):Prop:=∃e d b g h c j a i,K.lookup f=some ⟨e,d,.func (W.fnOf x q (kD st) (fZ st) (aK st) .none g h c j a i),b⟩/\W.codeIn K a q=true/\W.keepIn K (.ref f)=true
abbrev ZM(K:W.Frag)(x:Str)(st:Stmt)(f:Addr):Prop:=W.nsIn K mainGlobals x=some (some (.ref f))/\Ve K x x st f
abbrev WB(K:W.Frag)(C:Addr)(x q:Str)(st:Stmt)(f:Addr):Prop:=W.findIn K (.ref C) x=some (some (.ref f))/\W.isFn K (.ref f)=true/\Ve K x q st f
abbrev UG(K:W.Frag)(C:Addr)(q:Str)(st:Stmt)(f:Addr):Prop:=W.findIn K (.ref C) "__init__"=some (some (.ref f))/\W.typeIn K (.ref f)=some (.type "function")/\Ve K "__init__" q st f
abbrev UH(x q:Str)(st:Stmt)(ps:List Str):Prop:=∀(kV doc pm:Value) (an:Option Addr) (cdv ct:Value) (us:List Value),us.length=ps.length->bindArgs (W.fnOf x q (kD st) (fZ st) (aK st) .none kV doc pm an cdv ct) ⟨us,[]⟩=pure (ps.zip us)
def Ve.c{w:World}{K:W.Frag}{a:Heap}{CX:Yg}{x q:Str}{st:Stmt}{ps:List Str}{sp:Sp}(p:Ve K x q st f)(o:∀ {b:FuncData},ZT K x q st f b->Z8 P w K mg a CX k f b ps sp)(d:UH x q st ps):∃b,Z8 P w K mg a CX k f b ps sp/\W.keepIn K (.ref f)=true/\Binds K b ps []:=by
 obtain⟨_,_,_,_,_,_,_,_,_,l,c,k⟩:=p;have F:=Ub  l c k
 exact⟨_,o F,k,F.binds d⟩
local macro_rules | `(tactic| fail "bd") => `(tactic| (intro a1 a2 a3 a4 a5 a6 us hl; iterate 7 (all_goals try (rcases us with _ | ⟨u,us⟩; (· first | rfl | (simp at hl)))); all_goals (simp at hl)))
def all_mk{l:W.OpenLaw}{w:World}{K:W.Frag}{h:Heap}{fa:Addr}{f_0 f_1 f_2 f_3 f_4 f_5 f_6 f_7 f_8 z6 u2 u1 t8 t7 t6 t5 t4 t3 t2 t1 r9 r8 r7 r6 r5 r4 r3 r2 r1 q9 q8 q7 q6 q5 q4 q3 q2 q1 p8 p7 p6 p5 p4 p3 p2 p1 n9 n8 n7 n6 n5 n4 n3 n2 n1 m9 m8 m7 m6 m5 m3 m2 m1 k9 k8 k7 k6:Addr}{a5 V A B u t I m:Tok}{i:Addr}{j:Array DictEntry}{R:Nat}{c:Addr}(X:K.In h)(Gn:h.Ns mainGlobals mg)(z4:mg "law"=some (.ref fa))(TH:T_ h mg "longest_on" c)(b6:W.nsIn K mainGlobals "Lack"=some (some (.ref Zs)))(O:W.nsIn K mainGlobals "TowerError"=some (some (.ref Zz)))(a7:W.nsIn K mainGlobals "Short"=some (some (.ref Zt)))(Y:W.nsIn K mainGlobals "NoHoist"=some (some (.ref Zx)))(a6:W.nsIn K mainGlobals "Tower"=some (some (.ref Z0)))(a3:W.nsIn K mainGlobals "NoDeed"=some (some (.ref Zw)))(U:W.nsIn K mainGlobals "NoHalyard"=some (some (.ref Zy)))(a1:W.nsIn K mainGlobals "NoWord"=some (some (.ref Zu)))(a2:W.nsIn K mainGlobals "NoFlag"=some (some (.ref Zv)))(z3:ZM K "_law_mixed" sF f_0)(z2:ZM K "_law_word" vR f_1)(z1:ZM K "_law_book" uV f_2)(y7:ZM K "_law_checked" iU f_3)(y6:ZM K "_law_flags" rP f_4)(y5:ZM K "_law_cell_at" lH f_5)(y4:ZM K "plain_locker" iM f_6)(c8:WB K Z0 "__init__" "Tower.__init__" kL f_7)(y3:WB K Z0 "halyards" "Tower.halyards" fQ f_8)(y2:WB K Z0 "locker" "Tower.locker" iD z6)(k5:WB K Z0 "log" "Tower.log" mZ u2)(k4:ZM K "rank_of" rL u1)(k3:ZM K "is_divided" kP t8)(k2:ZM K "hidden_letter" eT t7)(k1:ZM K "check_of" oY t6)(j8:ZM K "with_check" kZ t5)(j7:ZM K "is_flag" sJ t4)(j6:ZM K "may_stand" nA t3)(j4:ZM K "is_hoist" pD t2)(j3:ZM K "read_of" qZ t1)(j2:WB K Z0 "read" "Tower.read" hU r9)(j1:ZM K "_law_state" sK r8)(h9:ZM K "_law_deed" wL r7)(h8:ZM K "put_in" xQ r6)(h7:ZM K "wants_of" kF r5)(h6:ZM K "choices_at" gZ r4)(h5:ZM K "choices_of" lA r3)(h4:ZM K "hoists_of" mC r2)(h3:ZM K "asked_from" gU r1)(h2:ZM K "hang_along" kQ q9)(h1:UG K Zs "Lack.__init__" lP q8)(g9:ZM K "hang_all" eW q7)(g8:ZM K "flags_on" pL q6)(g7:ZM K "all_flags_on" iB q5)(g6:UG K Zt "Short.__init__" kW q4)(g5:ZM K "taken" Td q3)(g4:ZM K "is_term" rX q2)(g3:ZM K "is_row_of_terms" fN q1)(g2:ZM K "terms_of" oQ p8)(g1:ZM K "meanings_of" jJ p7)(f5:ZM K "standing_at" gE p6)(f4:ZM K "least_numbers" eU p5)(b2:ZM K "longest_on" dS p4)(f3:ZM K "cut_text" pJ p3)(f2:ZM K "behind_say" gW p2)(f1:ZM K "look_for_halyard" eY p1)(b1:ZM K "rising_lists" dR n9)(e9:ZM K "sets_of" rN n8)(e8:ZM K "others_hung" gD n7)(e7:ZM K "lack_of" qX n6)(e6:ZM K "words_with" gX n5)(e5:ZM K "least_set" lJ n4)(e4:ZM K "hauled" uW n3)(e3:ZM K "is_word" rZ n2)(e2:ZM K "is_checked" kJ n1)(e1:UG K Zu "NoWord.__init__" jE m9)(d9:ZM K "behind_haul" iY m8)(d8:ZM K "behind_lower" iG m7)(d7:ZM K "look_for_flag" gS m6)(d6:ZM K "behind_lose" jO m5)(d5:ZM K "behind_find" jC m3)(d4:ZM K "behind_deed" jG m2)(d3:WB K Z0 "do" "Tower.do" pK m1)(d2:ZM K "_law_done" uJ k9)(d1:ZM K "_law_emptied" mL k8)(c9:WB K Z0 "again" "Tower.again" jL k7)(b9:ZM K "law" uY k6)(a4:W.nsIn K mainGlobals "range"=some none)(T:W.nsIn K mainGlobals "enumerate"=some none)(c2:W.nsIn K mainGlobals "sum"=some none)(c5:W.nsIn K mainGlobals "len"=some none)(b4:W.nsIn K mainGlobals "list"=some none)(c6:W.nsIn K mainGlobals "int"=some none)(c7:W.nsIn K mainGlobals "all"=some none)(c3:W.nsIn K mainGlobals "min"=some none)(c4:W.nsIn K mainGlobals "max"=some none)(c1:W.nsIn K mainGlobals "zip"=some none)(b5:W.nsIn K mainGlobals "dict"=some none)(b3:W.nsIn K mainGlobals "FLAGS"=some (some (.str "abcdefghijklmnopqrstuvw1234" a5)))(Z:W.nsIn K mainGlobals "LETTERS"=some (some (.str "abcdefghijklmnopqrstuvw" V)))(D:W.nsIn K mainGlobals "SUBSTITUTES"=some (some (.str "1234" A)))(E:W.nsIn K mainGlobals "MOST_PLACES"=some (some (.int 7 B)))(z:W.nsIn K mainGlobals "LONGEST_TERM"=some (some (.int 10 u)))(y:W.nsIn K mainGlobals "TERM_LETTERS"=some (some (.str "abcdefghijklmnopqrstuvwxyz" t)))(Q:W.nsIn K mainGlobals "MOST_TERMS"=some (some (.int 40 I)))(r:W.nsIn K mainGlobals "MOST_OF_A_FLAG"=some (some (.int 99 m)))(KF:P7 K Zs Zz Zt Zx Z0 Zw Zy Zu Zv)(L:W.nsIn K mainGlobals "THINGS_IN"=some (some (.ref i)))(P:K.lookup i=some ⟨.type "dict",none,.dict j R,#[]⟩)(J:(i==sysModules)=false)(S:US w j.toList [("haul",3),("lower",2),("lose",2),("find",2),("say",2)]):∃H:FuncData,(∀(s:Shared) (v:Value),BindsTo s H ⟨[v],[]⟩ [("_law_script",v)])/\∀g:Heap,K.In g->g.Ns mainGlobals mg->X8 mg g c Pt->Z8 l.prog w K mg g ZS 19 fa H ["_law_script"] (UI K Pt):=by
 have M:∀ {x:Str} {v:Value},W.nsIn K mainGlobals x=some (some v)->mg x=some v:=λh=>W.mg_of X Gn h
 have N:∀ {x:Str},W.nsIn K mainGlobals x=some none->mg x=none:=λh=>W.mg_none_of X Gn h
 have e:=z4.symm.trans (M b9.1)
 cases e;have G:Gs K mg w Zs Zz Zt Zx Z0 Zw Zy Zu Zv:=⟨KF,M b6,M O,M a7,M Y,M a6,M a3,M U,M a1,M a2,⟨_,_,_,M L,P,J,S,by decide +kernel⟩,N a4,N T,N c2,N c5,N b4,N c6,N c7,N c3,N c4,N c1,N b5,⟨_,M b3⟩,⟨_,M Z⟩,⟨_,M D⟩,⟨_,M E⟩,⟨_,M z⟩,⟨_,M y⟩,⟨_,M Q⟩,⟨_,M r⟩⟩
 obtain⟨_,_,_,kV,dc,pm,an,cd,ct,lk,hc,hk⟩:=b9.2;have F:=Ub (st:=uY) lk hc hk
 refine⟨W.fnOf "law" "law" (kD uY) (fZ uY) (aK uY) .none kV dc pm an cd ct,λs v=>.of_eq rfl,λg _ _ LB=>?_⟩;have mk:∀ {CX:Yg} {k:Nat} {x:Str} {st:Stmt} {f:Addr} {ps:List Str} {sp:Sp},ZM K x st f->(∀ {H:FuncData},ZT K x x st f H->Z8 l.prog w K mg g CX k f H ps sp)->UH x x st ps->∃(f:Addr) (H:FuncData),Z8 l.prog w K mg g CX k f H ps sp/\mg x=some (.ref f)/\W.keepIn K (.ref f)=true/\Binds K H ps []:=λp o hb=>by
  obtain⟨H,a,b,c⟩:=p.2.c o hb;exact⟨_,H,a,M p.1,b,c⟩
 have mt:∀ {CX:Yg} {k:Nat} {x:Str} {st:Stmt} {f:Addr} {ps:List Str} {sp:Sp} {C:Addr} {q:Str},WB K C x q st f->(∀ {H:FuncData},ZT K x q st f H->Z8 l.prog w K mg g CX k f H ps sp)->UH x q st ps->qY CX l.prog w K mg g k C x ps sp:=λp o hb=>by
  obtain⟨H,a,b,c⟩:=p.2.2.c o hb;exact⟨_,H,a,⟨p.1,p.2.1,b⟩,c⟩
 have mi:∀ {k:Nat} {st:Stmt} {f:Addr} {ps:List Str} {sp:Sp} {C:Addr} {q:Str},UG K C q st f->(∀ {H:FuncData},ZT K "__init__" q st f H->Z8 l.prog w K mg g ZS k f H ps sp)->UH "__init__" q st ps->V0 l.prog w K mg g k C ps sp:=λp o hb=>by
  obtain⟨H,a,b,c⟩:=p.2.2.c o hb;exact⟨_,H,a,p.1,p.2.1,c⟩
 have wE:=mk z3 (λF=>CC F G ) (by fail "bd")
 have o9:=mk z2 (λF=>Jz G F ) (by fail "bd")
 have v3:=mk z1 (λF=>MD G F wE o9) (by fail "bd")
 have u6:=mk y7 (λF=>GK G F ) (by fail "bd")
 have v2:=mk y6 (λF=>Lz F G wE u6) (by fail "bd")
 have j9:=mk y5 (λF=>A_ G F ) (by fail "bd")
 have y8:=mk y4 (λF=>tR G F ) (by fail "bd")
 have u5:T8 ZS l.prog w K mg g 2 Z0 ["self", "book", "locker", "many"] (gA Z0):=by
  obtain⟨H,a,b,c⟩:=c8.2.2.c (λF=>xX G F y8) (by fail "bd")
  exact⟨_,H,a,⟨G.mk1_Tower,c8.1,c8.2.1,G.mk2_Tower⟩,c⟩
 have v6:=mt y3 (λF=>pW G F ) (by fail "bd")
 have v5:=mt y2 (λF=>tW G F y8) (by fail "bd")
 have x8:=mt k5 (λF=>Bn G F ) (by fail "bd")
 have j5:=mk k4 (λF=>FI G F ) (by fail "bd")
 have o4:=mk k3 (λF=>xR G F j5) (by fail "bd")
 have w9:=mk k2 (λF=>rM G F o4) (by fail "bd")
 have w8:=mk k1 (λF=>IH G F w9) (by fail "bd")
 have o7:=mk j8 (λF=>yO F G w8) (by fail "bd")
 have u8:=mk j7 (λF=>G5 G F ) (by fail "bd")
 have i9:=mk j6 (λF=>BD G F u8) (by fail "bd")
 have gV:=mk j4 (λF=>Mc G F i9) (by fail "bd")
 have t9:=mk j3 (λF=>Ke G F gV) (by fail "bd")
 have v4:=mt j2 (λF=>yI G F o7 t9) (by fail "bd")
 have z7:=mk j1 (λF=>ES G F v6 v5 x8 v4) (by fail "bd")
 have v1:=mk h9 (λF=>FY G F u6 o9) (by fail "bd")
 have y9:=mk h8 (λF=>Nn F G y8) (by fail "bd")
 have f6:=mk h7 (λF=>EH G F ) (by fail "bd")
 have f7:=mk h6 (λF=>yM G F ) (by fail "bd")
 have f8:=mk h5 (λF=>yJ F G f6 f7) (by fail "bd")
 have f9:=mk h4 (λF=>C5 G F ) (by fail "bd")
 have b7:=mk h3 (λF=>yB G F ) (by fail "bd")
 have b8:=mk h2 (λF=>yR F G ) (by fail "bd")
 have u9:=mi h1 (λF=>JB G F ) (by fail "bd")
 have z8:=mk g9 (λF=>H_ G F f8 y8 f9 b7 b8 u9) (by fail "bd")
 have z5:=mk g8 (λF=>BE F G ) (by fail "bd")
 have v0:=mk g7 (λF=>tM G F z5) (by fail "bd")
 have i5:=mi g6 (λF=>xY G F ) (by fail "bd")
 have z9:=mk g5 (λF=>Ln G F y8 i5) (by fail "bd")
 have x7:=mk g4 (λF=>CG G F ) (by fail "bd")
 have x6:=mk g3 (λF=>oW G F x7) (by fail "bd")
 have x5:=mk g2 (λF=>C_ G F x6) (by fail "bd")
 have x4:=mk g1 (λF=>xK F G ) (by fail "bd")
 have o3:=mk f5 (λF=>uO G F ) (by fail "bd")
 have x3:=mk f4 (λF=>rG G F o3) (by fail "bd")
 have x2:ZR l.prog w K mg g 2 "longest_on" ["meanings", "terms", "table", "start"] (jB Pt):=by
  obtain⟨_,_,_,_,_,_,_,_,_,l,c,k⟩:=b2.2;have F:=Ub (st:=dS) l c k
  have b:=F.binds (ps:=["meanings", "terms", "table", "start"]) (by fail "bd")
  exact⟨_,_,xW G F (Mv TH X (M b2.1) l) LB o3,M b2.1,k,b⟩
 have w4:=mk f3 (λF=>KP G F x5 x4 x3 x2) (by fail "bd")
 have w3:=mk f2 (λF=>yQ G F y9 z8 o7 v0 z9 w4) (by fail "bd")
 have o5:=mk f1 (λF=>nW G F ) (by fail "bd")
 have m4:ZR l.prog w K mg g 9 "rising_lists" ["numbers", "many"] (dA 8):=by
  obtain⟨_,_,_,_,_,_,_,_,_,l,c,k⟩:=b1.2;have F:=Ub (st:=dR) l c k
  have b:=F.binds (ps:=["numbers", "many"]) (by fail "bd")
  exact⟨_,_,Q8 dA rJ (M b1.1) k b (λd n c=>tL G F c) 8,M b1.1,k,b⟩
 have a8:=mk e9 (λF=>DI G F m4) (by fail "bd")
 have a9:=mk e8 (λF=>vY G F ) (by fail "bd")
 have y1:=mk e7 (λF=>JU G F z8) (by fail "bd")
 have p9:=mk e6 (λF=>yG F G t9) (by fail "bd")
 have x9:=mk e5 (λF=>JF G F a8 u9 a9 y9 y1 z5 p9) (by fail "bd")
 have w7:=mk e4 (λF=>K6 G F y9 x9 z5 z8 z9 p9) (by fail "bd")
 have x1:=mk e3 (λF=>L4 G F ) (by fail "bd")
 have w6:=mk e2 (λF=>yE G F x1 o4) (by fail "bd")
 have w5:=mi e1 (λF=>wN G F ) (by fail "bd")
 have w2:=mk d9 (λF=>vN G F o5 w7 w6 w5) (by fail "bd")
 have w1:=mk d8 (λF=>tQ G F o5 y9 z5) (by fail "bd")
 have o6:=mk d7 (λF=>rV G F u8) (by fail "bd")
 have v9:=mk d6 (λF=>xJ F G o6 z9) (by fail "bd")
 have v8:=mk d5 (λF=>wF G F o6 y9 v0) (by fail "bd")
 have v7:=mk d4 (λF=>vW F G w3 w2 w1 v9 v8) (by fail "bd")
 have o8:=mt d3 (λF=>Mf G F v7) (by fail "bd")
 have u7:=mk d2 (λF=>Ld G F o8) (by fail "bd")
 have u4:=mk d1 (λF=>LD F G z7) (by fail "bd")
 have u3:=mt c9 (λF=>vE G F u5 x8 o8) (by fail "bd")
 exact EY G F v3 v2 j9 u5 wE z7 v1 u7 u4 x8 u3
def walk{l:W.OpenLaw}{q:Program}{i:List Str}{O:(Q5)->Heap->Prop}{v:World->Heap->Prop}{d:DefRec}{K:Params->W.Frag}(B:l.most=some 63)(p:d.params.defaults=[])(r:((PyProof.Rows.recsOf q).find? λe=>e.name==PySem.Str.ofString "longest_on").isSome=true)(o:∀w:World,W.noTabs (K w.params)=true)(D:∀(w:World) (h:Heap),v w h->(K w.params).In h)(F:∀(w:World) (g:Q5) (m:Addr) (h:Heap) (c j:Addr),(K w.params).In h->h.Ns mainGlobals g->g d.name=some (.ref m)->T_ h g "longest_on" c->
 ∃t:FuncData,(∀(s:Shared) (u:Value),BindsTo s t ⟨[u],[]⟩ [("_law_script",u)])/\∀b:Heap,(K w.params).In b->b.Ns mainGlobals g->X8 g b c j->Z8 l.prog w (K w.params) g b ZS 19 m t ["_law_script"] (UI (K w.params) j)):W.WalkO q i O v l.row.toRowW d [] (λf y=>PySem.call f y):=by
 obtain⟨d2,e⟩:=Eb.mp r;have H:=List.find?_some e
 have I:d2.name=PySem.Str.ofString "longest_on" := Iu H
 exact L2.M6 (d2:=d2) (n:=63) (k:=19) (x := "_law_script") (CX:=λ_=>ZS) (sp:=λw=>UI (K w.params)) B (by decide) p ⟨rfl,by decide,by decide⟩ (List.mem_of_find?_eq_some e) o D (λw g m h c j N M L J=>F w g m h c j N M L (I▸J)) (λ_ _ a j A C G E=>⟨a,A,rfl,E,C,G,λ_=>rfl⟩) λ_ _ _ _ _ z=>z
end Mine
structure PySem.W.Fast:Prop where
(tw841636813169554245 tw340234866867992087 tw4371873972041298154 tw14415711861604470692 tw15233470548955603016 tw1812836527768370871 tw12674306823717543317 tw12257633257097140980 tw5889145727553372377 tw17408002280943954444 tw16023115822157934114 tw5973833106522181681 tw1157053734445877650 tw13785110546768453275 tw13522099625096094745 tw181657058740290292 tw12385598963284030879 tw14713913637903297249 tw2575684759510326357 tw6957313881284203928
tw8872306895856959008 tw1357194960218068729 tw8219480168015800436 tw12897188952663427494 tw9857312709249587766 tw3138023852368555257 tw11294518830690212193 tw9615057348095101 tw7474862368560246301 tw11310288816645238846 tw11829056712331635909 tw1249256264529965440 tw14375291834789346403 tw1438105688274865420 tw4000665485910953673 tw13960761332254884427 tw5416399992820823102 tw1911895005763820125 tw7339332666352090254 tw1858896839914267433
tw8302920548094430633 tw7986249520469091383 tw4517112358543469448 tw9352509545220751856 tw5431257161109865127 tw6780383881525994608 tw6790193198912851188 tw8174599791886434568 tw16992267492159912328 tw1181962618024583351 tw11197438001285214262 tw10582682734403033211 tw8091786702213806879 tw3306377479836962485 tw5505405963616318689 tw3750774870817515597 tw17412484863667472113 tw17083565646365839022 tw16346132535428771854 tw1130844988206847308
tw18421342126101949282 tw2210199309636910772 tw17218724183448099516 tw12928549472731099792 tw842134003947661959 tw15072097452016030522 tw17443509001302680481 tw15390695887693117367 tw2296523004877330751 tw15168771546542401713 tw17191939073282052375 tw6837345336700099021 tw2817869405204784430 tw5780627265965690121 tw5886755629383805193 tw11541803558644304672 tw11884197485851203713 tw6664129606653752975 tw11302897752808786353 tw7501386693922049220
tw6012833872428622831 tw12747802602657339540 tw6899096064737069662 tw8225533158175062494 tw9757767510986188939 tw15084548105608689399 tw17899150291780984247 tw9140624259039324992 tw10977891895483359731 tw11148373587551241215 tw4120416317030300036 tw1817646634214887044 tw18116553024597541055 tw9520383367978515849 tw12258963923779383381 tw4231626789635029708 tw16843824617807226796 tw2713163454327225734 tw178329730586394622 tw17119525880376920168
tw12095553219602354872 tw3142777877966060962 tw14067803029382209315 tw17307426241305309047 tw10796977864531057744 tw12726197918757915809 tw7125957227106884086 tw15745753352588195080 tw18101753254385888511 tw9532524914188808762 tw17407467400447880778 tw11978358510530851264 tw10172912036824550310 tw1165357038981186735 tw12377166095626012044 tw8940639378837406016 tw7429981316326493741 tw5934123213271039640 tw8374621104388945872 tw3197426501172309595
tw6764879015193497973 tw18050438135561950674 tw17896274127528354743 tw15594828760005623473 tw17570015466526204557 tw14981003100198313573 tw2126119193849027199 tw14452471858800154242 tw16013042522409079475 tw12748830462218648650 tw4306571118100448556 tw7208128193119235432 tw16608447005019625093 tw12415060656796694819 tw13741938753284382664 tw2998810749672997301 tw3951949354664899136 tw5994623370596118781 tw14850160636458250739 tw16659296561399028013
tw17001707481106352230 tw11013622450220482634 tw6970212154685905835 tw8366746906622349191 tw14365349158116060759 tw2207379998575386522 tw12006222698064615102 tw16725568130362270806 tw13978178278752696943 tw6006769820480607728 tw16927205815102716745 tw2652366548034692691 tw7459302416654731494 tw10964904333305361490 tw15898972137055508288 tw8617226720868969632 tw11098936115089136671 tw2507080152121827575 tw16901531737238383488 tw2608639534317555868
tw17514084770532235583 tw5818502184855163721 tw991421775934745621 tw13481879705021866033 tw924734381996831110 tw5794150676521578390 tw17209460460970861156 tw432296249121649858 tw1626789464365733330 tw10447429400063744982 tw13739883046890282844 tw15604021991768665986 tw3232301179311392284 tw1944094259643770159 tw16029354551621371523 tw1659478834909008284 tw14439678350294487186 tw16042118400185002986 tw16191972393963446352 tw9402637042899827827
tw1552022999913072007 tw193258453811436335 tw6467327774731947541 tw16886526414211133249 tw1326872718787901624 tw14510587518198768403 tw11014792679108655054 tw5103303008450497131 tw7586320251863343770 tw17896037865545540680 tw15379479047076510546 tw7669077138704121952 tw15725995787431905157 tw7860666561103619363 tw4974114122820717431 tw2940929368358744382 tw1112692551270960786 tw4703908722221422940 tw13797456391743398443 tw17053632931225511808
tw15623756334435337186 tw2161373377455488842 tw12906847658282627465 tw6582328982860880533 tw16023503738291247539 tw4277621490059734904 tw15931426572144222420 tw437320544593627607 tw14563393143153301538 tw13705429491221698384 tw5857897286168359906 tw6702294229098835285 tw6367311638475921009 tw5740663103035264743 tw10482283160310837528 tw5083811785223697123 tw9865737763885068485 tw12584098551636013963 tw3244001259365839049 tw4552709966708961832
tw6029138759751488276 tw4693420802426460123 tw13274232634964224478 tw15466140442309247552 tw16125173754468923787 tw13405926055020139437 tw11489850275163872591 tw11853042815179389486 tw13223028009621618902 tw5609370377660879154 tw14288442788394849878 tw11227350111891446518 tw3861034807740859794 tw17138776836964142013 tw6276392202047448482 tw5074862536063041094 tw16484928085695350089 tw16259091489364372797 tw12451357741542754941 tw88584558707062652
tw12830684808226589282 tw18288214121016082327 tw2535646589908241557 tw1245336535584325655 tw7688343452203803245 tw14369328603669436367 tw9482420920093572405 tw3835496869084811502 tw7556182572281969566 tw16457725455278053934 tw11493432304311930687 tw16561386312151094895 tw5959694670831816301 tw7098473638484254672 tw9218799953649921515 tw6957441050016028393 tw2025980151214487679 tw1302748685403993479 tw5515247676185521398 tw9697797491998435550
tw17300754190136859783 tw11318473700254819353 tw2157739338438711473 tw15976735479268633371 tw13908307115910934415 tw14744722230605179954 tw7396694694870385525 tw14585944007157206624 tw4345318510804931021 tw12344017363190402236 tw5380327603148404557 tw13907690616801838757 tw13119713559075285252 tw2500707088612482930 tw2318552960747084364 tw4021530783874903563 tw961452085259641445 tw14675715584561144188 tw13897649508408518026 tw8463738014278585894
tw5966630690558416095 tw11715340482258549655 tw8059280971214435915 tw11515648499776535820 tw10368170638156791449 tw4635391172867666521 tw16963307721672797881 tw8159662466471659779 tw14135140396107774132 tw8609785209813421040 tw13850687708513981410 tw5593480210616112300 tw9221641454403683964 tw13640991049062829302 tw11510599615092234545 tw4247498602669725550 tw12500834245739537895 tw4144576434675118783 tw10750256683410120871 tw7522911843844543941
tw5206434112159224003 tw4803731177891468558 tw11963418970367942007 tw14285243471945402263 tw16146699457089103787 tw8824283185600814187 tw13194822109713668783 tw9809597637608798126 tw9370993258791859669 tw16327361774214093264 tw4494795734143901617 tw17270341016500417691 tw14028051605784316546 tw8848811857041516524 tw13642572266570869446 tw16192625686513978249 tw9931127302240179761 tw2227085915689505774 tw1253350684041405562 tw8236414702019492074
tw10921288505535114632 tw11575302094631900082 tw9134592478577438288 tw2784988412934304515 tw3328041688810301430 tw14671579132407094427 tw15912862859987017201 tw15690131512786777013 tw9570206235303127703 tw11705840100593788470 tw5736594694315115957 tw5318249010568225690 tw5741912727563778746 tw2521731355964978091 tw1265243656531380779 tw11697497776722702982 tw13071509525193222614 tw1976861031731115936 tw14703505726968541429 tw12325299419839074126
tw17571834717992879738 tw4830263247869612993 tw6333553504934002018 tw12532705769497433305 tw10582741787030375888 tw15965467924427833913 tw17599533411426606476 tw17440950561958220532 tw1560120679097873757 tw7702140057244879948 tw3131359205578326684 tw8926067462227311259 tw13479582686816075796 tw11426144126531875359 tw6216333285872059825 tw4642835852396041231 tw4944959001145897428 tw5416542894334527674 tw15501788397901389483 tw10401968163733542419
tw11575310628073832514 tw11119678454913790656 tw8197549779715358408 tw13855356443647488801 tw15909891910973584145 tw17230576951684317118 tw14317939743861088370 tw2371113112365518088 tw6803675823403696223 tw581527801354371566 tw7535804252338827778 tw8183954787457464961 tw15286754303279328892 tw13296000414963237111 tw7010664973035014234 tw18050557319697706950 tw13693443148382283101 tw16565482239241931945 tw11446382093773316132 tw7434591180560062402
tw7198558546120296561 tw9014123007345824074 tw1926856428344985630 tw15187805630876016013 tw15732010449084044570 tw10244522637346370562 tw12653232839015493041 tw15638889055778982579 tw5990920105622559903 tw12090350130405267051 tw3159142212519599186 tw8264174035781778244 tw16592883881358255724 tw10397223909092191143 tw1241348253348156736 tw12575652112037424321 tw10356844655220595783 tw17348355573425955988 tw18182193676830996407 tw12887152343093617807
tw17538480897638848493 tw4063988295955387843 tw838028228319476034 tw18403195501974617767 tw16830653396004372275 tw13645871258992502969 tw10203030174604326980 tw12960632282191926274 tw16028083959126233260 tw11059772911727795191 tw12402948888562897247 tw4361146705174648927 tw14852674549032108055 tw8535486559131956899 tw6482129453383422993 tw2413109041216950508 tw163590152755914051 tw8603028669532380389 tw28426378046521061 tw3155988773752692282
tw13520034414548910097 tw12157842776796634113 tw11878970360602902940 tw10339722333541711950 tw9379244119484064143 tw11786303601743159870 tw14542478223312374434 tw12184522059605523272 tw5780855893991867778 tw7935661689384672318 tw16358257402319615929 tw2335095887527542944 tw187099508699449193 tw15526846395747159107 tw3267184437021507078 tw7317146339773300148 tw11167512456418117860 tw6246903835516224718 tw9137583345295667037 tw5541467994059945105
tw17319193589399575463 tw10462691790430195148 tw8834656368233403855 tw16108619253398504306 tw2014929202339739633 tw15049344652326275478 tw15598886969253306329 tw5733771797068612342 tw7603284981378830994 tw15724001244332173107 tw17668948334367472170 tw5238523196422461597 tw16570725558173397029 tw9891511491865183797 tw12139408156185510285 tw1488156122744484746 tw2839830645211896506 tw8549857789160028734 tw15325743634872729057 tw3874920917213386332
tw13990856876974825590 tw5892230850950635318 tw3339620759968912208 tw6547881719511698682 tw7290983625825136641 tw2737538580514901736 tw16748314899798597333 tw16203094792354738362 tw6765065485656705576 tw10408105992170388321 tw6140189386533844610 tw1602050706343312434 tw9307979473489519932 tw13889714042695271958 tw8098409172503129316 tw7525503768203178698 tw16358988585033475114 tw2003386414457575739 tw10036734357303132656 tw18182256100825031810
tw6383286791358764056 tw10170709250674711667 tw10106380061818623356 tw10389360163155171105 tw4722894711363475883 tw6383713643026760084 tw5139856299937803368 tw4279740669857147048 tw11220774970401725468 tw3930668853054973086 tw2153748152580469279 tw8893156384987225988 tw6460805030535424960 tw2002215866364894862 tw6464736685326997358 tw17201917744807490905 tw3946117077815267031 tw3676943336195286088 tw9858297205586435586 tw12380932087824657641
tw10793849996827980072 tw2114353827403338972 tw8412783463245914859 tw310182665046767924 tw11278883465727511186 tw13323361299694569540 tw10247565528944553641 tw6586866783909319193 tw7918087314201360889 tw8734094807878626232 tw17298591388155609552 tw4087869001358307770 tw6684472188014603448 tw11182164577749303112 tw2049497660637598936 tw17115194820113366487 tw1464009890918072182 tw15953986991715861744 tw2846072833724048707 tw7249390745308605470
tw17736460702920252944 tw13130278763497989521 tw17126588701964030764 tw10580263728182934037 tw5103856250448735809 tw4807131809670153264 tw12089834571190491126 tw9103174991963006141 tw12610790447601241239 tw12129597580034405231 tw15186561347768002325 tw9629024862969553118 tw4114025654244356890 tw11016750403228425687 tw2755961458099081406 tw751029014843008298 tw10711458563273379090 tw6786125863725751954 tw7926764252014989626 tw11065387598715256354
tw12284206126091066797 tw668667839064409358 tw7768490004284483052 tw762435119720681150 tw2244310225594946719 tw11835867493760377921 tw1286726056168476739 tw13815648924220223807 tw808160909938558130 tw11887320929483495457 tw5399607081297382001 tw17390418752533100111 tw4509734680647024934:True)
open PySem PySem.W PyProof.Rows
set_option maxRecDepth 100000 in
set_option maxHeartbeats 0 in
theorem PySem.Challenge.cw_flaglocker_k59_towers_apart_holds : PySem.Challenge.rw_flaglocker_k59_towers_apart.Holds := by
  w_on; o_law; k_head; (case hw => w_witness2)
  k_fill
  refine Mine.walk (l:=PySem.Challenge.rw_flaglocker_k59_towers_apart) rfl rfl ?hd2 ?hno (fun w h Y => PySem.W.km_in_of Y) ?F
  case hd2 => kernel_rfl!
  case hno => intro w; kernel_rfl!
  case F =>
    intro w mg fa h c Pt KX G hmg TH
    apply Mine.all_mk KX G hmg TH
    all_goals first | exact ⟨by k_is,_,_,_,_,_,_,_,_,_,by k_is,by k_is,by k_is⟩ | exact ⟨by k_is,by k_is,_,_,_,_,_,_,_,_,_,by k_is,by k_is,by k_is⟩ | k_is | kernel_rfl! | (constructor <;> first | k_is | k_exc | kts_exm | kit_is | kernel_rfl!) | exact ⟨rfl,⟨_,rfl⟩,⟨_,rfl⟩,rfl,⟨_,rfl⟩,⟨_,rfl⟩,rfl,⟨_,rfl⟩,⟨_,rfl⟩,rfl,⟨_,rfl⟩,⟨_,rfl⟩,rfl,⟨_,rfl⟩,⟨_,rfl⟩,trivial⟩
